import PyProof.Rows.All
import Wide.All
import OpenK.AllK
import Wide.FinOn
import Lean
import PyProof.EqAt
import PyProof.EqKinds
import PyProof.TupleCall
import PySem.Challenge.RW_meldhouse_k05_whole_none_is_better
abbrev é:=@if_pos
abbrev è:=@if_neg
abbrev ê:=@absurd
open Array renaming getElem?_eq_some_iff->Ou,length_toList->u?,getElem?_eq_getElem->v?,getElem?_toList->C?,toList_append->R!,toList_push->Xm,getD_eq_getD_getElem?->Xt,perm_iff_toList_perm->Ym,toList_extract->Y6,forIn_toList->Zc,size_setIfInBounds->Zp,mem_toList_iff->ZQ,toList_inj->Ü,getElem?_setIfInBounds->ì,getElem?_extract->ė,getElem?_eq_none->Ę,toList_modify->į,size_extract->Ŀ,append_assoc->ŀ,getElem_mem->Œ,replicate->Ű,toList->ξ
open Array.Perm renaming refl->Zq
open Bool renaming true->d!,false->e!,and_eq_true->k?,false_eq_true->o?,false_ne_true->z!,not_true->Xj,false_and->YO,and_false->YQ,not_false->Ze,eq_iff_iff->ð,true_and->ē,or_false->ι,false_or->μ,and_self->ν
open Classical renaming byContradiction->P?,propDecidable->aì
open Decidable renaming decide->g!
open False renaming elim->XB
open ForInStep renaming yield->X3
open Int renaming le_trans->OF,toNat_natCast->WW,eq_ofNat_of_zero_le->X2,le_refl->X9,emod_lt_of_pos->Yb,emod_nonneg->YI,zero_add->Û,le_antisymm->Η,mul_one->ϱ,add_mul->ϲ
open List renaming mem_cons->Of,mem_append->Og,mem_map->Oh,mem_singleton->Oi,mem_range->Oj,mem_filter->Ol,getElem?_eq_some_iff->Om,pairwise_cons->Oq,pairwise_append->Ot,eq_nil_of_length_eq_zero->OG,mem_cons_of_mem->N1,mem_cons_self->N2,mem_append_right->N4,mem_append_left->N5,length_map->e?,map_cons->f?,length_cons->i!,length_append->l!,range->m?,size_toArray->o!,replicate->p?,getElem?_set_ne->q!,append_assoc->t?,getElem?_append_right->w!,getElem?_set_self->x!,flatten_cons->x?,lookup_cons->y!,map_append->y?,map_map->A!,pairwise_map->B!,append_nil->C!,getElem?_append_left->F?,replicate_succ->J!,map_congr_left->J?,drop_eq_getElem_cons->L?,getElem?_map->M?,mem_of_getElem?->Q!,mem_iff_getElem?->R?,find?_cons->T?,pairwise_iff_getElem->V!,length_replicate->WZ,getElem?_eq_getElem->W0,mem_singleton->W4,take_of_length_le->W!,flatten_append->W?,flatMap_append->Xa,foldl_cons->Xb,any_eq_true->Xe,sum_cons->Xh,map_nil->Xi,nodup_cons->Xn,mem_map_of_mem->Xq,getElem_of_mem->Xr,range_succ_eq_map->Xw,pairwise_lt_range->Xx,mem_flatMap->Xz,length_take->XA,take_append_drop->XD,perm_append_comm->XE,getElem?_eq_none->XF,lookup->XM,length_range->XN,getElem?_replicate->XX,all_eq_true->XY,mem_filterMap->X6,drop_eq_nil_of_le->X7,all_map->X8,length_singleton->Yc,mem_range->Yn,getD_eq_getElem?_getD->Yo,getElem_mem->Ys,extract_eq_take_drop->Yx,nil_append->YF,append_of_mem->YH,nodup_nil->YM,flatMap_cons->YN,length_filter_le->YX,mem_cons->Y5,filterMap_cons->Y',mem_map->Y?,mem_of_find?_eq_some->Zk,take_sublist->Zo,map_take->Zs,all_cons->Zt,mem_append->ZJ,pairwise_flatMap->ZL,length->ZT,count_le_length->ZU,zip_cons_cons->Â,pairwise_cons->Ã,map_replicate->Ä,findIdx?_cons->Å,count_eq_zero->Æ,reverse_cons->Ì,nodup_append->Í,find?_append->Î,perm_middle->ã,not_mem_nil->ä,nodup_range->å,of_mem_zip->î,find?_some->ï,perm_ext_iff_of_nodup->ā,pairwise_singleton->ĕ,drop_of_length_le->Ĝ,erase_of_not_mem->Ĥ,cons_lt_cons_iff->ĥ,pairwise_append->ī,mem_of_mem_take->Ĭ,getElem?_append->ĭ,filter_sublist->ľ,zip_nil_right->Ō,mem_replicate->ō,getElem?_take->Ŏ,getElem?_drop->ŏ,foldl->Ő,Nodup->ő,zip_nil_left->Ť,push_toArray->ť,foldl_append->Ŧ,count_append->ŧ,zipIdx_cons->Ŭ,map_flatMap->ŭ,getElem_inj->Ů,drop_length->ů,sum_append->Ž,forIn_cons->ž,count_cons->ſ,countP_map->Α,take_succ->Ζ,nil_perm->η,map_drop->θ,getD->aÅ
open List.Nodup renaming length_le_of_subset->XO
open List.Pairwise renaming nil->S?,imp_of_mem->Y8
open List.Perm renaming cons_inv->Ė,trans->Į,swap->aå,refl->aæ,append_right->aç,append_left->aë
open List.Sublist renaming refl->Y7
open Nat renaming zero_le->Ov,le_trans->Ow,lt_of_lt_of_le->Ox,ne_of_lt->OA,le_of_eq->OE,le_refl->N6,lt_succ_self->Xf,lt_or_ge->Ya,lt_succ_of_lt->Yf,sub_self->Yv,le_of_lt->Yw,lt_irrefl->YE,le_add_right->Y4,not_lt_zero->Y_,succ_pos->Zb,mod_lt->Zh,lt_of_le_of_lt->Zi,min_le_right->ZA,add_assoc->Á,ne_of_gt->Ø,lt_trichotomy->Ù,le_succ_of_le->Ú,min_le_left->û,not_lt->ċ,le_succ->Ľ,pow_succ->ϟ,mul_succ->Ϡ,mul_comm->ϡ,lt_trans->Ϣ,add_zero->ϣ
open Ne renaming symm->XR
open Option renaming isSome_iff_exists->Oo,some->a!,none->b!,map_eq_some_iff->W9,join_some->ŉ,getD_some->Ŋ,getD_none->ŋ,map_some->ţ,join->ζ
open Option.some renaming inj->OD
open Or renaming inr->Ī,inl->ū
open Pure renaming pure->Xo
open PyProof.Rows renaming wpS_bind->h!,wpS_pure->j?,arrOf->k!,pendingOf->t!,Keyed->u!,SortSt->G!,wpS_forRange->H?,seqObj->T!,wpS_mono->Xd,wpS_modify->X1,envOfC->X!,SortKind->X?,mirror->Yy,failedOf->YA,callWith_type1->YV,wpS_get->Y3,IntsAre->Zn,bubble->ZE,AllBare->ZF,setArr->ZI,wpS_lift->ZP,callWith_builtin1->ZS,get?_update_seq->Z8,spliced_more->É,lt_int->Ö,wpS->Ċ,subscriptTail->Ļ,listUpdate_at->ļ,subscriptTail_builtinR->Ţ,seqEpoch_at->ż,le_int->Δ,getElem?_mirror_all->Ε,sortedHeap->Ψ,setPending->Ω,Subscript_->ε,IsTup->ϑ,spliced_none->ϭ,getElem?_bubble->Ϯ,entry_list_sort->ϯ,slot_list_sort->aÂ,keyKind'->aÃ,args_list_sort->aÄ
open PySem renaming wpAny_bind->N7,wpAny_pure->N8,Value->b?,Addr->c!,Shared->d?,Program->g?,PyData->j!,starEach->n!,wpAny->n?,model->p!,World->q?,Str->w?,Around->A?,compareOp->D?,Expr->E!,Heap->F!,bootBuiltins->H!,eval->I!,wpAny_loadPart'->I?,sizeLine_eq->K!,cLine->K?,wpAny_truthy_bool->N?,mainGlobals->O!,attributeBase->O?,Stmt->U!,codeAny_builtin->U?,ReadsAll->WY,backTo->W2,foldedSetIterable->W3,binaryOp->W_,FuncData->W',wpAny_mono->Xy,wpAny_holding->XG,plainId_quiet->XH,Obj->XQ,keywordEach->XU,SetTable->XW,behindInMarks->XZ,Builtin->X5,swapsWith->X_,Paired->Yd,wpAny_passesOwn->Yg,NameKind->Yl,wpAny_newObj_type->Yq,mem_of_lookup->Yt,wpAny_rule->Yz,wpAny_forIn_list->YB,wpAny_call_entry->YC,Reads->YK,Keyword->YL,wpAny_Call_Name_kw->YR,sysModules->YS,Pos->YU,backToKw->YZ,Scope->Y1,codeAny->Y!,sliceBounds->Za,wpAny_specialOf->Zf,codeAny_mono->Zl,assignEach->Zu,wpAny_setState_of->ZC,atKey_none_of_get->ZD,richCompare_meets_room->ZV,pyNext->ZW,holding->ZX,call_meets->ZY,wpAny_updateSeq->Z5,wpAny_execs_nil->Z6,letOwnedTupleGo->Z7,wpAny_isTrue_Compare1->Z9,carriedByValue->Ç,PassesOwn->Ê,wpAny_setEntries_of->Ñ,setSearchFrom->Ý,atKey->Þ,Model->â,slot_dict_contains->æ,rawInt->ç,wpAny_pyIter_list->ñ,standAt->ò,ofAClassStatement->ó,intItems->ô,callerA->õ,Sem->ý,wpAny_isInstance->Ă,wpAny_askSetting->ă,noFill_tuple_add->Ą,isTrue->ą,getMethod->Ć,assign->ć,Env->ĉ,wpAny_of_eq->Č,storedH_new->č,richCompare->Ď,CmpOp->đ,Within->Ĕ,intKind->ę,BindsTo->ě,wpAny_setField->ĝ,wpAny_seqItems->Ğ,dictSetDefault->ğ,wpAny_newList->İ,wpAny_comprehension_free->ı,wpAny_attempt->Ĳ,step->ĳ,seq_tuple_add->Ĵ,call->ĵ,wpAny_callSpecial?_slot->Ł,bindL->ł,bindC->Ń,wpAny_typeOf->œ,relabel->Ŕ,getItem->Ŗ,concat_meets->ŗ,codeAny_compStart_list->Ř,wpAny_eqIsQuiet_tuple->ũ,wpAny_newFunctionEnv->ű,subscripted->Ų,hashByValue->ų,callWith->Ŵ,GenState->Ŷ,wpAny_call->Θ,wpAny_Name->Ι,typeIs_int->Κ,truthy->Λ,pyIter->Μ,entryOfKey->Ν,builtinsNs->Ξ,Result->Ρ,Params->Τ,wpAny_storeSet_of->ο,wpAny_assign_Name->π,wpAny_Call_method->ρ,storedH->ς,slot_list_getitem->τ,searchCouldBeSeen->υ,Meets->ϋ,wpAny_pyHash_int->ϒ,wpAny_execs_cons->ϓ,wpAny_Dict_empty->ϔ,updateSeq->ϕ,pickOrder->ϖ,cellsFrom->ϗ,beq_builtin_none->Ϙ,DictEntry->ϛ,codeAny_of_tree->Ϥ,wpAny_runValue->ϳ,wpAny_fieldsOf->ϴ,setRelay->ϵ,recursionLimit->Ϸ,numAt->ϸ,firstArgMember->Ϲ,compPost->Ϻ,bindArgs->ϻ,wpAny_standAt->aÆ,swapsWithSole->aÇ,swappedStores->aÈ,intBits_le_64->aÉ,evalPart_none->aÊ,comprehension->aË,call_list_seq->aÌ
open PySem.Around renaming under_plainId->M!,under->Ē
open PySem.AutoSeq1 renaming wpAny_loadPart'->Yr,sub_tuple_tuple->í
open PySem.Builtin.Frozenset renaming updateFrom->ŷ,slot0->Ÿ,sizeOf->Ź,newClass->ź,addrOf->Ż
open PySem.Builtin.List renaming listTooLong->Ye,listLengthHint->Z!,listExtendWith->Z?,listSameRef->Ë,listFitsIndex->Ϫ
open PySem.Builtin.Tuple renaming tupleCompareSizes->ZK,tupleHashOf->À,tupleItemsOf->ϝ
open PySem.Calls renaming spliced_cons->X4,evalArgs_plain->Y2,spliced_nil->Zj,callWith_builtin->Zz,Name_function_global->ú,call_function_entry->Ā
open PySem.F renaming plainAttrs_list->XT,args_tuple_add_2->Zg,entry_tuple_add->Zm,slot_tuple_add->Zx,slot_dict_setdefault->Õ,excBase_ValueError->ë,type_list_append->ö,slot_list_remove->ø,slot_list_append->ù,slot_list_count->þ,plainAttrs_dict->ÿ,slot_dict_get->Đ
open PySem.Heap renaming get?_push_size->OC,get?_push_of_some->N3,lt_size->N9,SameBut->Xg,get?_update_other->Xv,size_push->XC,get?_update_self->YW,size_update->YY,get?_update_ne->ĺ,MadeExcOf->Γ,FlyingW->ύ
open PySem.Heap.SameBut renaming update->S!,refl->ϩ
open PySem.NameKind renaming free->XJ,cell->ZO
open PySem.Obj renaming mapSeq->W5,mapFields->Zw,data_mapDictKeys->Ĺ,putSet->š
open PySem.Paired renaming length->Xs,snoc->Υ
open PySem.PassesOwn renaming never->B?,leaving->aÜ
open PySem.PyData renaming eqv->i?,depthAll->l?,int->r?,canLayAll0->s?,eqvAll->G?,canLay0->W8,depth->Xp,bool->X0,strOk->Β
open PySem.SeqAt renaming readsAll_map->ĸ,items_eqAt->Š,readOf->Ο
open PySem.SetTable renaming bits->v!,below->L!,runEnd->Q?,leap->V?,turns->W6,insertAt->X',sizeAbove->Y9,grown->á,layClean->ģ,tooFull->Ĩ,Probe->ň,slot->ŝ,laid->Ş,fill->ş,has->Ū
open PySem.SetTable.below renaming go->Y0
open PySem.SetTable.layClean renaming free->Yk
open PySem.SetTable.probe renaming go->Xu
open PySem.Str renaming ofString->Ģ,empty->ŵ
open PySem.Value renaming ref->z?,none->D!,type->Yj,bool->YD,notImplemented->ZN,int->ZR,str->Ô,float->ġ,bytes->ω
open PySem.W renaming Frag->Oe,findIn->E?,mg_none_of->N!,keepIn->P!,kia_one->WX,fnOf->W7,emptyDict->Xl,instObj->XI,codeIn->XS,plainGet->Yh,nsIn->Yi,hideAll_get->Yp,excIn->Yu,hasDictIn->YJ,mg_of->YT,plainOver->Zd,OpenLaw->Zr,isFn->Zv,makesIn->Zy,lookIn->ZG,plainGet_of->ZM,callWith_K->ZZ,methodObj->Z_,kat_kind->È,takerIn->Ò,WalkO->ß,cellsFrom_some->Ĉ,methodCall_KW->ď,of_hideAll->Ġ,kitx_list->Ħ,kitx_dict->ħ,kat_cons->Ķ,handedIn->ķ,kat_yes->ń,kat_one->Ņ,hideAll->ņ,KatTups->Ň,kitOne->ř,kat_no->Ś,kat_lt->ś,KatLex->Ŝ
open PySem.W.KatTups renaming cons->Ó,nil->à
open PySem.W.Looks renaming now->ZH,here->Ϛ
open Sum renaming inr->Ï,inl->Ð
open True renaming intro->YG
abbrev Oy := @decide_eq_false
abbrev Oz := @decide_eq_true
local macro_rules | `(0x1) => `(by lia)
local macro_rules | `(0x2) => `(by decide +kernel)
local macro_rules | `(0x3) => `(by decide)
local macro_rules | `(0x4) => `(by simp)
set_option Elab.async false
set_option tactic.hygienic false
set_option bootstrap.genMatcherCode false
set_option compiler.extract_closed false
set_option linter.all false
set_option maxRecDepth 100000
noncomputable section
namespace L2
open PySem PySem.Spec PyProof.Rows
abbrev vt:=Sum Int w?
noncomputable def Ii:vt->b?->Bool
 |.inl k,v=>Value.isInt k v
 |.inr x,v=>Value.isStrOf x v
noncomputable def M8(w:q?):vt->Int
 |.inl k=>hashInt k
 |.inr x=>hashStr w x
def cM:∀{k:vt}{v:b?},Ii k v=d!->(∃i t,k=Ð i/\v=ZR i t)\/(∃x t,k=Ï x/\v=Ô x t)
 |.inl i,v,h=>by obtain⟨t,e⟩:=Value.isInt_shape (k:=i) (v:=v) h;exact .inl ⟨i,t,rfl,e⟩
 |.inr x,v,h=>by obtain⟨t,e⟩:=Value.isStrOf_shape (x:=x) (v:=v) h;exact .inr ⟨x,t,rfl,e⟩
def JN(a b:Int):g! ((Ð a:vt)=Ð b)=(a==b):=by
 by_cases e:a=b
 ·subst e;simp
 ·have h:¬(Ð a:vt)=Ð b:=λq=>e (Sum.inl.inj q);rw[Oy h];exact(beq_eq_false_iff_ne.mpr e).symm
def J0(a b:w?):g! ((Ï a:vt)=Ï b)=g! (a=b):=by
 by_cases e:a=b
 ·subst e;simp
 ·have h:¬(Ï a:vt)=Ï b:=λq=>e (Sum.inr.inj q);rw[Oy h,Oy e]
def Jd(a:Int)(b:w?):g! ((Ð a:vt)=Ï b)=e!:=Oy (λq=>nomatch q)
def Kh(a:w?)(b:Int):g! ((Ï a:vt)=Ð b)=e!:=Oy (λq=>nomatch q)
def uL(prog:g?)(w:q?):PySem.KeyKind prog w vt where
 is:=Ii
 hash:=M8 w
 inj:=λv a b ha hb=>by
  obtain⟨i,t,rfl,rfl⟩|⟨x,t,rfl,rfl⟩:=cM ha
  ·obtain⟨j,u,rfl,e⟩|⟨y,u,rfl,e⟩:=cM hb
   ·injection e with e1 _;rw[e1]
   ·exact nomatch e
  ·obtain⟨j,u,rfl,e⟩|⟨y,u,rfl,e⟩:=cM hb
   ·exact nomatch e
   ·injection e with e1 _;rw[e1]
 byValue:=λk v h=>by obtain⟨i,t,rfl,rfl⟩|⟨x,t,rfl,rfl⟩:=cM h <;>rfl
 pyHash:=λhv h=>by
  obtain⟨i,t,rfl,rfl⟩|⟨x,t,rfl,rfl⟩:=cM hv
  ·exact ϒ h
  ·exact wpAny_pyHash_str h
 eqBool:=λhu hv h=>by
  obtain⟨i,t,rfl,rfl⟩|⟨x,t,rfl,rfl⟩:=cM hu
  ·obtain⟨j,u,rfl,rfl⟩|⟨y,u,rfl,rfl⟩:=cM hv
   ·rw[JN]at h;exact wpAny_eqBool_int h
   ·rw[Jd]at h;exact SeqAt.EqAt.int_str i t y u _ _ _ _ h
  ·obtain⟨j,u,rfl,rfl⟩|⟨y,u,rfl,rfl⟩:=cM hv
   ·rw[Kh]at h;exact SeqAt.EqAt.str_int x t j u _ _ _ _ h
   ·rw[J0]at h;exact wpAny_eqBool_str h
 «strs»:=λk x t v h=>by
  obtain⟨i,u,rfl,e⟩|⟨y,u,rfl,e⟩:=cM h
  ·exact nomatch e
  ·injection e with e1 _
   subst e1;cases v <;>rfl
inductive V where
 |non|bl (b:Bool)|int (i:Int)|str (x:w?)|byt (b:Array UInt8)|flt (b:UInt64)|ref (a:c!)|ty (n:String)
 deriving DecidableEq
def bG:V->b?->Prop
 |.non,u=>u=D!
 |.bl b,u=>u=YD b
 |.int i,u=>∃t,u=ZR i t
 |.str x,u=>∃t,u=Ô x t
 |.byt b,u=>∃t,u=ω b t
 |.flt b,u=>∃t,u=ġ b t
 |.ref a,u=>u=z? a
 |.ty n,u=>u=Yj n
abbrev aT:List V->List b?->Prop:=Yd bG
def aT.length{xs:List V}{us:List b?}(r:aT xs us):xs.length=us.length:=Xs r
theorem aT.get:∀{xs:List V}{us:List b?}{i:Nat}{x:V},aT xs us->xs[i]?=a! x->∃u,us[i]?=a! u/\bG x u
 |_,_,_,_,.nil,e=>by simp at e
 |_,_,0,_,.cons r _,e=>by simp at e;subst e;exact⟨_,rfl,r⟩
 |_,_,i+1,x,.cons _ t,e=>by obtain⟨u,h1,h2⟩:=aT.get (i:=i) (x:=x) t (by simpa using e);exact⟨u,by simpa using h1,h2⟩
theorem aT.set{x:V}{u:b?}(r:bG x u):∀{xs:List V}{us:List b?}(i:Nat),aT xs us->aT (xs.set i x) (us.set i u)
 |_,_,_,.nil=>.nil
 |_,_,0,.cons _ t=>.cons r t
 |_,_,i+1,.cons q t=>.cons q (aT.set r i t)
theorem aT.append:∀{xs ys:List V}{us ws:List b?},aT xs us->aT ys ws->aT (xs++ys) (us++ws)
 |_,_,_,_,.nil,s=>s
 |_,_,_,_,.cons r t,s=>.cons r (aT.append t s)
theorem aT.take:∀{xs:List V}{us:List b?}(n:Nat),aT xs us->aT (xs.take n) (us.take n)
 |_,_,0,_=>.nil
 |_,_,_+1,.nil=>.nil
 |_,_,n+1,.cons r t=>.cons r (aT.take n t)
theorem aT.drop:∀{xs:List V}{us:List b?}(n:Nat),aT xs us->aT (xs.drop n) (us.drop n)
 |_,_,0,r=>r
 |_,_,_+1,.nil=>.nil
 |_,_,n+1,.cons _ t=>aT.drop n t
def rX:Option V->Option b?->Prop
 |some v,a! u=>bG v u
 |none,b!=>True
 |_,_=>False
def KV{κ:Type}:List (κ×V)->List (κ×b?)->Prop:=Yd λ(p:κ×V)(q:κ×b?)=>p.1=q.1/\bG p.2 q.2
noncomputable def kV:vt->V
 |.inl i=>.int i
 |.inr x=>.str x
inductive HO where
 |lst (xs:List V)
 |tup (xs:List V)
 |dK (ca:List (vt×V))|dT (ca:List (List vt×V))
 |set (S:Int->Bool) (n:Nat)
 |ins (C dx:c!) (fs:List (w?×V))
 |own (x:c!)
 |xd (fs:List (w?×V))
 |met (f x:c!)
 |rng (lo hi:Int)
 |frz (o:XQ) (u:HO)
 |tbl (ps:Array b?)
 |ext (φ:(c!->List V->Prop)->F!->Prop)
abbrev Hp:=c!->Option HO
noncomputable def upd(H:Hp)(a:c!)(o:HO):Hp:=λb=>if b=a then a! o else H b
variable{H:Hp}{a:c!}{o:HO}
def aQ:upd H a o a=a! o:=by unfold upd;rw[é rfl]
variable{b:c!}
def aF(h:b≠a):upd H a o b=H b:=by unfold upd;rw[è h]
def GA{u:HO}:upd (upd H a o) a u=upd H a u:=by funext b;unfold upd;split <;>rfl
def IA{u:HO}(h:H a=a! o)(h':H b=a! u)(d:o≠u):a≠b:=by intro e;subst e;rw[h]at h';exact d (OD h')
def bM(h:H a=a! o)(h':H b=b!):a≠b:=by intro e;subst e;rw[h]at h';cases h'
section
variable(P:g?)(w:q?)
def b8(H:Hp)(h:F!)(a:c!):HO->Prop
 |.lst xs=>xs.length<=sizeLine/\∃(D':List b?)(n:Nat),aT xs D'/\h.get? a=a! {cls:=.type "list",data:=.seq D'.toArray n}
 |.tup xs=>xs.length<=sizeLine/\∃D':List b?,aT xs D'/\ϑ h a D'.toArray
 |.dK ca=>ca.length<=sizeLine/\(a==YS)=e!/\∃vs,KV ca vs/\h.DictOf (uL P w) a vs
 |.dT ca=>ca.length<=sizeLine/\(a==YS)=e!/\∃xs:List (List vt×c!×b?),
   Yd (λ(p:List vt×V)(q:List vt×c!×b?)=>p.1=q.1/\H q.2.1=a! (.tup (p.1.map kV))/\bG p.2 q.2.2) ca xs /\
   ∃o es ep,h.get? a=a! o/\o.ExactDict/\o.data=.dict es ep/\es.toList=xs.map (Ν (tupleKind (uL P w)))/\(xs.map (·.1)).Nodup
 |.set S n=>h.SetOf (ę P w) a S n
 |.ins C dx fs=>H dx=a! (.own a)/\fs.length<=1000/\dx≠a/\h.get? a=a! (XI C dx) /\
   ∃mA,h.Ns1 dx mA/\(∀f,rX (fs.lookup f) (mA f))/\Ĕ mA (fs.map (·.1))
 |.own _=>∃o,h.get? a=a! o
 |.xd fs=>∃mA,h.Ns1 a mA/\∀f,rX (fs.lookup f) (mA f)
 |.rng lo hi=>∃t u v,h.get? a=a! {cls:=.type "range",data:=.fields #[.int lo t,.int hi u,.int 1 v]}
 |.frz o u=>h.get? a=a! o/\b8 H h a u
 |.tbl ps=>h.get? a=a! {cls:=.none,data:=.fields ps}
 |.met f x=>h.get? a=a! (Z_ (.ref f) (.ref x))
 |.ext φ=>φ (λb xs=>H b=a! (.tup xs)) h/\(∃o,h.get? a=a! o)/\∀(T1 T2:c!->List V->Prop)(h1 h2:F!),φ T1 h1->(∀b xs,T1 b xs->T2 b xs)->(∀o,h1.get? a=a! o->h2.get? a=a! o)->φ T2 h2
def lV(H:Hp)(h:F!):Prop:=∀a o,H a=a! o->b8 P w H h a o
end
section
variable{P:g?}{w:q?}{H H':Hp}{h h':F!}{a:c!}{o:HO}
def b8.lt(x:b8 P w H h a o):a<h.objs.size:=by
 cases o with
 |lst xs=>obtain⟨_,_,_,_,e⟩:=x;exact N9 e
 |tup xs=>obtain⟨_,_,_,p⟩:=x;exact p.lt
 |dK ca=>obtain⟨_,_,_,_,o,_,_,e,_⟩:=x;exact N9 e
 |dT ca=>obtain⟨_,_,_,_,o,_,_,e,_⟩:=x;exact N9 e
 |set S n=>obtain⟨o,_,_,_,e,_⟩:=x;exact N9 e
 |ins C dx fs=>obtain⟨_,_,_,e,_⟩:=x;exact N9 e
 |own y=>obtain⟨_,e⟩:=x;exact N9 e
 |xd fs=>obtain⟨_,⟨_,_,_,e,_⟩,_⟩:=x;exact N9 e
 |rng lo hi=>obtain⟨_,_,_,e⟩:=x;exact N9 e
 |frz ob u=>obtain⟨e,_⟩:=x;exact N9 e
 |tbl ps=>exact N9 (show h.get? a=a! _ from x)
 |met f y=>exact N9 (show h.get? a=a! _ from x)
 |ext φ=>obtain⟨_,⟨_,e⟩,_⟩:=x;exact N9 e
theorem Paired.mapP{α β:Type}{F G:α->β->Prop}:∀{l₁:List α}{l₂:List β},Yd F l₁ l₂->(∀a b,F a b->G a b)->Yd G l₁ l₂
 |_,_,.nil,_=>.nil
 |_,_,.cons r t,f=>.cons (f _ _ r) (Paired.mapP t f)
def b8.stay(x:b8 P w H h a o)(k:∀b u,(b=a\/H b=a! (.own a))->h.get? b=a! u->h'.get? b=a! u)(ho:∀b,H b=a! (.own a)->H' b=a! (.own a))(ht:∀b xs,H b=a! (.tup xs)->H' b=a! (.tup xs)):b8 P w H' h' a o:=by
 induction o with
 |lst xs=>obtain⟨z,D',n,r,e⟩:=x;exact⟨z,D',n,r,k _ _ (.inl rfl) e⟩
 |tup xs=>obtain⟨z,D',r,ob,e,c⟩:=x;exact⟨z,D',r,ob,k _ _ (.inl rfl) e,c⟩
 |dK ca=>obtain⟨z,y,vs,r,ob,es,ep,e,c⟩:=x;exact⟨z,y,vs,r,ob,es,ep,k _ _ (.inl rfl) e,c⟩
 |dT ca=>
  obtain⟨z,y,xs,r,ob,es,ep,e,c⟩:=x;exact⟨z,y,xs,Paired.mapP r λp q z=>⟨z.1,ht _ _ z.2.1,z.2.2⟩,ob,es,ep,k _ _ (.inl rfl) e,c⟩
 |set S n=>obtain⟨ob,es,ep,t,e,c⟩:=x;exact⟨ob,es,ep,t,k _ _ (.inl rfl) e,c⟩
 |ins C dx fs=>
  obtain⟨d,z,ne,e,mA,⟨od,es,ep,e2,c⟩,r⟩:=x;exact⟨ho _ d,z,ne,k _ _ (.inl rfl) e,mA,⟨od,es,ep,k _ _ (.inr d) e2,c⟩,r⟩
 |own y=>obtain⟨ob,e⟩:=x;exact⟨ob,k _ _ (.inl rfl) e⟩
 |xd fs=>obtain⟨mA,⟨od,es,ep,e,c⟩,r⟩:=x;exact⟨mA,⟨od,es,ep,k _ _ (.inl rfl) e,c⟩,r⟩
 |rng lo hi=>obtain⟨t,u,v,e⟩:=x;exact⟨t,u,v,k _ _ (.inl rfl) e⟩
 |frz ob u ih=>obtain⟨e,q⟩:=x;exact⟨k _ _ (.inl rfl) e,ih q⟩
 |tbl ps=>
  have e:h.get? a=a! {cls:=.none,data:=.fields ps}:=x;show h'.get? a=a! {cls:=.none,data:=.fields ps};exact k a _ (.inl rfl) e
 |met f y=>
  have e:h.get? a=a! (Z_ (.ref f) (.ref y)):=x;show h'.get? a=a! (Z_ (.ref f) (.ref y));exact k a _ (.inl rfl) e
 |ext φ=>obtain⟨p,⟨o,e⟩,st⟩:=x;exact⟨st _ _ _ _ p (λb xs q=>ht b xs q) λo q=>k _ _ (.inl rfl) q,⟨o,k _ _ (.inl rfl) e⟩,st⟩
def lV.lt(x:lV P w H h)(e:H a=a! o):a<h.objs.size:=(x a o e).lt
def lV.fresh(x:lV P w H h)(e:h.objs.size<=a):H a=b!:=by
 cases q:H a with
 |none=>rfl
 |some u=>exact ê (Ox (x.lt q) e) (YE _)
def lV.kept(x:lV P w H h)(k:∀b u,h.get? b=a! u->h'.get? b=a! u):lV P w H h':=λa o e=>
 (x a o e).stay (λb u z q=>k b u q) (λz q=>q) λz z q=>q
def lV.laid(x:lV P w H h)(k:∀b u,h.get? b=a! u->h'.get? b=a! u)(hp:h.objs.size<=a)(new:b8 P w (upd H a o) h' a o):lV P w (upd H a o) h':=λb u e=>by
 have hn:=x.fresh hp;by_cases hb:b=a
 ·subst hb;rw[aQ]at e;cases e;exact new
 ·rw[aF hb]at e;exact(x b u e).stay (λc v z q=>k c v q) (λc q=>by rwa[aF (bM q hn)]) λc xs q=>by rwa[aF (bM q hn)]
end
def Rd(H:Hp)(a:c!)(u:HO):Prop:=H a=a! u\/∃o,H a=a! (.frz o u)
variable{P:g?}{w:q?}{h:F!}
def Rd.ok{u:HO}(r:Rd H a u)(x:lV P w H h):b8 P w H h a u:=by
 obtain r|⟨o,r⟩:=r
 ·exact x a u r
 ·obtain⟨_,q⟩:=x a _ r;exact q
def MA:Option HO->Prop
 |some (.lst _)=>True
 |some (.dK _)=>True
 |some (.dT _)=>True
 |some (.set _ _)=>True
 |some (.ins _ _ _)=>True
 |some (.ext _)=>True
 |_=>False
section
variable{P:g?}{w:q?}{H:Hp}{h h':F!}{x e:c!}{o':HO}
def lV.write(ok:lV P w H h)(mu:MA (H x))(he:e=x\/H e=a! (.own x))(k:∀b u,b≠e->h.get? b=a! u->h'.get? b=a! u)(Tu:∃u,h'.get? e=a! u)(new:b8 P w (upd H x o') h' x o'):lV P w (upd H x o') h':=λb u q=>by
 have Uu:∀c y,H c=a! (.own y)->c≠x:=λc y r z=>by subst z;rwa[r]at mu
 have V8:∀c xs,H c=a! (.tup xs)->c≠x:=λc xs r z=>by subst z;rwa[r]at mu
 by_cases hb:b=x
 ·subst hb;rw[aQ]at q;cases q;exact new
 ·rw[aF hb]at q;by_cases hbe:b=e
  ·have q':H b=a! (.own x):=by
    obtain z|z:=he
    ·exact ê (hbe.trans z) hb
    ·rwa[hbe]
   rw[q]at q';cases q'
   obtain⟨v,hv⟩:=Tu;exact⟨v,by rwa[hbe]⟩
  ·refine(ok b u q).stay (λc v hc r=>k c v ?_ r) (λc r=>by rwa[aF (Uu c b r)]) λc xs r=>by rwa[aF (V8 c xs r)]
   obtain rfl|hc:=hc
   ·exact hbe
   ·rintro rfl;obtain z|z:=he
    ·exact Uu c b hc z
    ·rw[hc]at z;cases z;exact hb rfl
end
structure Un(fs ex:List c!)(H H':Hp)(h h':F!):Prop where
 keep:∀b o,h.get? b=a! o->H b=b!->b∉fs->b∉ex->h'.get? b=a! o
 slot:∀b o,h.get? b=a! o->H b=b!->b∈fs->b∉ex->∃sl,h'.get? b=a! {o with slots:=sl}
 free:∀b o,h.get? b=a! o->H b=b!->b∉ex->H' b=b!
 there:∀b o,h.get? b=a! o->b∉ex->∃o',h'.get? b=a! o'
 tups:∀b xs,H b=a! (.tup xs)->H' b=a! (.tup xs)
 frzs:∀b o u,H b=a! (.frz o u)->H' b=a! (.frz o u)
 tbls:∀b ps,H b=a! (.tbl ps)->∃more,H' b=a! (.tbl (ps++more))
section
variable{fs Rw ex RB:List c!}{H H1 H2:Hp}{h h1 h2 h':F!}{a x e:c!}{o:HO}
def Un.any(u:Un fs ex H H1 h h1){ob:XQ}(q:h.get? b=a! ob)(n:H b=b!)(hx:b∉ex):∃sl,h1.get? b=a! {ob with slots:=sl}:=by
 by_cases hb:b∈fs
 ·exact u.slot b ob q n hb hx
 ·exact⟨ob.slots,u.keep b ob q n hb hx⟩
def Un.kept(k:∀b u,h.get? b=a! u->h'.get? b=a! u):Un fs ex H H h h':=⟨λb ob q o o o=>k b ob q,λb ob q o o o=>⟨ob.slots,k b ob q⟩,λo o o n o=>n,λb ob q o=>⟨ob,k b ob q⟩,λo o q=>q,λo o o q=>q,λo ps q=>⟨#[],by rw[q];simp⟩⟩
def Un.refl:Un fs ex H H h h:=Un.kept λo o q=>q
def Un.laid(k:∀b u,h.get? b=a! u->h'.get? b=a! u)(hp:h.objs.size<=a)(hn:H a=b!):Un fs ex H (upd H a o) h h' where
 keep:=λb u q z z z=>k b u q
 slot:=λb u q z z z=>⟨u.slots,k b u q⟩
 free:=λb u q n z=>by rwa[aF (OA (Ox (N9 q) hp))]
 there:=λb u q z=>⟨u,k b u q⟩
 tups:=λb xs q=>by rwa[aF (bM q hn)]
 frzs:=λb u xs q=>by rwa[aF (bM q hn)]
 tbls:=λb ps q=>⟨#[],by rw[aF (bM q hn),q];simp⟩
def Un.write(mu:MA (H x))(he:e=x\/H e=a! (.own x))(k:∀b u,b≠e->h.get? b=a! u->h'.get? b=a! u)(Tu:∃u,h'.get? e=a! u):Un fs ex H (upd H x o) h h':=by
 have hx:∀b,H b=b!->b≠x:=λb n z=>by subst z;rwa[n]at mu
 have hb:∀b,H b=b!->b≠e:=λb n z=>by
  subst z;obtain r|r:=he
  ·exact hx b n r
  ·rw[n]at r;cases r
 have hm:∀b u,H b=a! u->¬MA (a! u)->b≠x:=λb u q nm z=>by subst z;rw[q]at mu;exact nm mu
 refine⟨λb u q n j j=>k b u (hb b n) q,λb u q n j j=>⟨u.slots,k b u (hb b n) q⟩,λb u q n j=>by rwa[aF (hx b n)],λb u q j=>?_,
  λb xs q=>by rwa[aF (hm b _ q λz=>z)],λb u xs q=>by rwa[aF (hm b _ q λz=>z)],λb ps q=>⟨#[],by rw[aF (hm b _ q λz=>z),q];simp⟩⟩
 by_cases hbe:b=e
 ·subst hbe;exact Tu
 ·exact⟨u,k b u hbe q⟩
end
noncomputable def trk(h:F!)(H:Hp):List Addr:=(m? h.objs.size).filter λa=>(H a).isSome
def uQ(h:F!)(H:Hp):F!:=ņ h (trk h H)
def BD(h:F!)(H:Hp):(uQ h H).objs.size=h.objs.size:=PySem.W.hideAll_size _ _
def CH{o:XQ}(e:h.get? b=a! o)(n:H b=b!):(uQ h H).get? b=a! o:=Yp _ e λhm=>by have q:(H b).isSome=d!:=(Ol.mp hm).2;rw[n]at q;simp at q
def GR{o:XQ}(e:(uQ h H).get? b=a! o):h.get? b=a! o/\H b=b!:=by
 have e':h.get? b=a! o:=Ġ (trk h H) e;refine⟨e',?_⟩;cases q:H b with
 |none=>rfl
 |some x=>
  have hm:b∈trk h H:=Ol.mpr ⟨Oj.mpr (N9 e'),by simp[q]⟩;have z:(uQ h H).get? b=b!:=PySem.W.hideAll_none (trk h H) hm;rw[z]at e;cases e
noncomputable def Gk(g h:F!)(L:c!):List (c!×XQ):=(m? h.objs.size).filterMap λa=>if a=L\/(g.get? a).isSome=d! then b! else(h.get? a).map λo=>(a,o)
def bU(g h:F!)(L d:c!):List (c!×XQ):=(Gk g h L).filter λp=>g! (p.1≠d)
structure Mod(K:Oe)(mg:w?->Option b?)(base:F!):Prop where
 kin:K.In base
 glob:base.Ns O! mg
 blt:∃mb,base.Ns Ξ mb/\∀x:w?,x ≠"__name__" ->mb x=H! x
 nolimit:base.NoLimit
structure Cx where
 prog:g?
 w:q?
 K:Oe
 mg:w?->Option b?
 base:F!
 A:A?
 N:List w?
 s₀:d?
 H₀:Hp
 env:ĉ
 bn:List ĉ
 stack:List ĉ
 ex:List c!
 fn:w?->Bool
 calm:Bool
 pn:List (c!×XQ)
 xe:b?->d?->Prop
noncomputable def iB(l:List ĉ):List Addr:=l.filterMap (·.frame)
abbrev Cx.fs(X:Cx):List Addr:=iB X.bn
def MB(sc:Y1)(x:w?):Prop:=sc.names.lookup x=a! .local\/sc.names.lookup x=a! .cell\/sc.names.lookup x=a! .free
def KP(sc:Y1)(x:w?):Prop:=sc.names.lookup x=a! .local\/sc.names.lookup x=a! .cell
def Ni(env:ĉ)(h:F!)(m:w?->Option b?)(x:w?)(u:b?):Prop:=(env.kindOf x=a! .local/\m x=a! u)\/((env.kindOf x=a! .cell\/env.kindOf x=a! .free)/\∃c,env.cells.lookup x=a! c/\h.IsCell c (a! u))
structure Cx.Ok(X:Cx):Prop where
 mod:Mod X.K X.mg X.base
 kind:X.env.scope.kind=.function
 glob:X.env.globals=O!
 blt:X.env.builtins=Ξ
 above:X.s₀.heap.objs.size<=X.env.locals
 inj:∀x y c,X.env.cells.lookup x=a! c->X.env.cells.lookup y=a! c->x=y
 has:∀x,(X.env.kindOf x=a! .cell\/X.env.kindOf x=a! .free)->∃c,X.env.cells.lookup x=a! c
 cab:∀x c,X.fn x=d!->X.env.cells.lookup x=a! c->X.s₀.heap.objs.size<=c
 hd:X.calm=d!->X.A.handled=b!
 frames:X.A.frames=a! X.stack
 stk:X.stack=X.bn\/(X.stack=X.env::X.bn/\X.env.frame=a! X.env.locals)
 exf:∀b∈X.ex,b≠X.env.locals/\∀x c,X.env.cells.lookup x=a! c->c≠b
 bs:∀b o,X.base.get? b=a! o->X.s₀.heap.get? b=a! o/\X.H₀ b=b!
 bsz:X.base.objs.size<=X.s₀.heap.objs.size
 noex:∀b o,X.base.get? b=a! o->b∉X.ex
 exfs:∀b∈X.ex,b∉X.fs
 funs:X.s₀.heap.FunFrames X.base X.bn
 frf:∀b∈X.fs,X.H₀ b=b!
structure Inv(X:Cx)(a_:List (c!×XQ))(σ:List (Option V))(H:Hp)(s:d?):Prop where
 ok:X.Ok
 os:s.os=X.s₀.os
 bare:ZF s.gens
 base:Un X.fs X.ex X.H₀ H X.s₀.heap s.heap
 loc:∃m,s.heap.Ns X.env.locals m/\∀(i:Nat)(x:w?)(v:V),X.N[i]?=a! x->σ[i]?=a! (a! v)->MB X.env.scope x->∃u,bG v u/\Ni X.env s.heap m x u
 cell:∀x c,X.env.cells.lookup x=a! c->∃v,s.heap.IsCell c v
 free:H X.env.locals=b!
 freeC:∀x c,X.env.cells.lookup x=a! c->H c=b!
 pin:∀p∈X.pn++a_,s.heap.get? p.1=a! p.2/\H p.1=b!/\p.1≠X.env.locals/\p.1∉X.fs/\∀v,p.2.data≠.cell v
 hok:lV X.prog X.w H s.heap
 len:σ.length=X.N.length
section
variable{X:Cx}{a_:List (c!×XQ)}{σ:List (Option V)}{H H':Hp}{s:d?}{h':F!}
def Cx.Ok.nofr(ok:X.Ok){o:XQ}(e:X.base.get? b=a! o):b∉X.fs:=λhb=>by have:=(ok.funs.mem hb).1;rw[e]at this;cases this
def Inv.bs(I:Inv X a_ σ H s):∀b o,X.base.get? b=a! o->s.heap.get? b=a! o/\H b=b!:=λb o e=>
 ⟨I.base.keep b o (I.ok.bs b o e).1 (I.ok.bs b o e).2 (I.ok.nofr e) (I.ok.noex b o e),I.base.free b o (I.ok.bs b o e).1 (I.ok.bs b o e).2 (I.ok.noex b o e)⟩
def Inv.bk(I:Inv X a_ σ H s):∀b o,X.base.get? b=a! o->s.heap.get? b=a! o:=λb o e=>(I.bs b o e).1
def Inv.mod(I:Inv X a_ σ H s):Mod X.K X.mg X.base:=I.ok.mod
def Inv.kIn(I:Inv X a_ σ H s):X.K.In s.heap:=I.ok.mod.kin.keeps I.bk
def Inv.nolimit(I:Inv X a_ σ H s):s.heap.NoLimit:=I.ok.mod.nolimit.keeps I.bk
def Inv.fr(I:Inv X a_ σ H s):∃m,Fr X.base X.env.locals s.heap m:=let⟨m,hn,_⟩:=I.loc
 ⟨m,hn,I.bk,Ow I.ok.bsz I.ok.above⟩
def Inv.lt(I:Inv X a_ σ H s):X.env.locals<s.heap.objs.size:=let⟨_,hn,_⟩:=I.loc;hn.lt
def Inv.sz(I:Inv X a_ σ H s):X.s₀.heap.objs.size<=s.heap.objs.size:=Ow I.ok.above (Yw I.lt)
def Inv.nofs(I:Inv X a_ σ H s)(h:s.heap.objs.size<=a):a∉X.fs:=λhb=>by obtain⟨_,o,ho,_⟩:=I.ok.funs.mem hb;exact ê (Ox (N9 ho) (Ow I.sz h)) (YE _)
def Inv.cne(I:Inv X a_ σ H s):∀x c,X.env.cells.lookup x=a! c->c≠X.env.locals:=λx c e z=>by obtain⟨v,o,ho,hd⟩:=I.cell x c e;obtain⟨m,⟨o',es,ep,Rl,QB,_⟩,_⟩:=I.loc;rw[z,Rl]at ho;cases ho;rw[QB]at hd;cases hd
def Inv.funs(I:Inv X a_ σ H s):s.heap.FunFrames X.base X.bn:=by
 have all:∀(l:List ĉ),(∀b∈iB l,b∈X.fs)->X.s₀.heap.FunFrames X.base l->s.heap.FunFrames X.base l:=by
  intro l
  induction l with
  |nil=>intro _ _;trivial
  |cons env r ih=>
   intro hs hl;obtain⟨hk,⟨L,o,hf,hn,ho,hd⟩,hr⟩:=hl;have hL:L∈X.fs:=hs L (by unfold iB;rw[Y',hf];exact N2);obtain⟨sl,e⟩:=I.base.slot L o ho (I.ok.frf L hL) hL λz=>I.ok.exfs L z hL;exact⟨hk,⟨L,_,hf,hn,e,hd⟩,ih (λb hb=>hs b (by unfold iB;rw[Y',hf];exact N1 _ hb)) hr⟩
 exact all X.bn (λq hb=>hb) I.ok.funs
def Inv.stack(I:Inv X a_ σ H s):s.heap.FunFrames X.base X.stack:=by
 obtain e|⟨e,hf⟩:=I.ok.stk
 ·rw[e];exact I.funs
 ·rw[e];obtain⟨m,hn,_⟩:=I.loc;refine .cons (by rw[I.ok.kind];decide) hf hn ?_ I.funs;exact Heap.get?_none_of_le (Ow I.ok.bsz I.ok.above)
def Inv.stkSub(I:Inv X a_ σ H s):∀b∈iB X.stack,b∈X.env.locals::X.fs:=λb hb=>by
 obtain e|⟨e,hf⟩:=I.ok.stk
 ·rw[e]at hb;exact N1 _ hb
 ·rw[e]at hb;unfold iB at hb;rwa[Y',hf]at hb
def Inv.stkFree(I:Inv X a_ σ H s):∀b∈iB X.stack,H b=b!:=λb hb=>by
 obtain e|hb:=Of.mp (I.stkSub b hb)
 ·rw[e];exact I.free
 ·obtain⟨_,o,ho,_⟩:=I.ok.funs.mem hb;exact I.base.free b o ho (I.ok.frf b hb) λz=>I.ok.exfs b z hb
variable{ch:List c!}
def Inv.step{g':Array Ŷ}{t':Nat}{d':Drawn}(I:Inv X a_ σ H s)(Qv:∀b∈ch,(b∈X.ex\/X.s₀.heap.objs.size<=b)/\b≠X.env.locals/\(∀x c,X.env.cells.lookup x=a! c->c≠b)/\∀p∈X.pn++a_,p.1≠b)(keep:∀b o,b≠X.env.locals->b∉X.fs->b∉ch->s.heap.get? b=a! o->H b=b!->h'.get? b=a! o)(slot:∀b o,b≠X.env.locals->b∈X.fs->b∉ch->s.heap.get? b=a! o->H b=b!->∃sl,h'.get? b=a! {o with slots:=sl})(free:∀b o,b∉ch->s.heap.get? b=a! o->H b=b!->H' b=b!)(there:∀b o,b∉ch->s.heap.get? b=a! o->∃o',h'.get? b=a! o')(tups:∀b xs,H b=a! (.tup xs)->H' b=a! (.tup xs))(frzs:∀b o u,H b=a! (.frz o u)->H' b=a! (.frz o u))(tbls:∀b ps,H b=a! (.tbl ps)->∃more,H' b=a! (.tbl (ps++more)))(ns:∀m,s.heap.Ns X.env.locals m->h'.Ns X.env.locals m)(hok:lV X.prog X.w H' h')(hg:ZF g'):
  Inv X a_ σ H' {s with heap:=h',gens:=g',drawn:=d',toks:=t'}:=by
 have neL:∀b o,X.s₀.heap.get? b=a! o->b≠X.env.locals:=λb o e=>OA (Ox (N9 e) I.ok.above);have Q0:∀b o,X.s₀.heap.get? b=a! o->b∉X.ex->b∉ch:=λb o e hx hb=>by
  rcases(Qv b hb).1 with z|z
  ·exact hx z
  ·exact ê (Ox (N9 e) z) (YE _)
 have Te:∀x c,X.env.cells.lookup x=a! c->∀v,s.heap.IsCell c v->h'.IsCell c v:=λx c e v ⟨o,ho,hd⟩=>by
  have Uw:c∉ch:=λz=>(Qv c z).2.2.1 x c e rfl;by_cases hc:c∈X.fs
  ·obtain⟨sl,q⟩:=slot c o (I.cne x c e) hc Uw ho (I.freeC x c e);exact⟨_,q,hd⟩
  ·exact⟨o,keep c o (I.cne x c e) hc Uw ho (I.freeC x c e),hd⟩
 refine⟨I.ok,I.os,hg,⟨λb o e n hb hx=>?_,λb o e n hb hx=>?_,λb o e n hx=>?_,λb o e hx=>?_,λb xs e=>tups b xs (I.base.tups b xs e),λb o xs e=>frzs b o xs (I.base.frzs b o xs e),λb ps e=>?_⟩,?_,λx c e=>?_,?_,λx c e=>?_,λp hp=>?_,hok,I.len⟩
 ·exact keep b o (neL b o e) hb (Q0 b o e hx) (I.base.keep b o e n hb hx) (I.base.free b o e n hx)
 ·obtain⟨sl,e1⟩:=I.base.slot b o e n hb hx;obtain⟨To,e2⟩:=slot b _ (neL b o e) hb (Q0 b o e hx) e1 (I.base.free b o e n hx);exact⟨To,e2⟩
 ·obtain⟨o',e1⟩:=I.base.there b o e hx;exact free b o' (Q0 b o e hx) e1 (I.base.free b o e n hx)
 ·obtain⟨o',e1⟩:=I.base.there b o e hx;exact there b o' (Q0 b o e hx) e1
 ·obtain⟨m1,e1⟩:=I.base.tbls b ps e;obtain⟨m2,e2⟩:=tbls b _ e1;exact⟨m1++m2,by rw[e2,ŀ]⟩
 ·obtain⟨m,hn,hl⟩:=I.loc;refine⟨m,ns m hn,λi x v e1 e2 e3=>?_⟩;obtain⟨u,r,l⟩:=hl i x v e1 e2 e3;refine⟨u,r,?_⟩;obtain l|⟨k,c,e,z⟩:=l
  ·exact .inl l
  ·exact .inr ⟨k,c,e,Te x c e _ z⟩
 ·obtain⟨v,z⟩:=I.cell x c e;exact⟨v,Te x c e v z⟩
 ·obtain⟨m,⟨o,_,_,ho,_⟩,_⟩:=I.loc;exact free _ o (λz=>(Qv _ z).2.1 rfl) ho I.free
 ·obtain⟨v,o,ho,hd⟩:=I.cell x c e;exact free c o (λz=>(Qv c z).2.2.1 x c e rfl) ho (I.freeC x c e)
 ·obtain⟨e,n,ne,nf,d⟩:=I.pin p hp;have Uw:p.1∉ch:=λz=>(Qv p.1 z).2.2.2 p hp rfl;exact⟨keep p.1 p.2 ne nf Uw e n,free p.1 p.2 Uw e n,ne,nf,d⟩
def Inv.un{t':Nat}(I:Inv X a_ σ H s)(u:Un X.fs [] H H' s.heap h')(hok:lV X.prog X.w H' h'):Inv X a_ σ H' {s with heap:=h',toks:=t'}:=by
 obtain⟨m,⟨o,es,ep,ho,r⟩,_⟩:=id I.loc;obtain⟨sl,hL⟩:=u.any ho I.free 0x4;exact I.step (g':=s.gens) (d':=s.drawn) (ch:=[]) (λq z=>nomatch z) (λb o q hb q e n=>u.keep b o e n hb 0x4) (λb o q hb q e n=>u.slot b o e n hb 0x4) (λb o q e n=>u.free b o e n 0x4) (λb o q e=>u.there b o e 0x4) u.tups u.frzs u.tbls (λm' hm=>by
  obtain⟨o',es',Qo,Rl,r'⟩:=hm;rw[ho]at Rl;cases Rl
  exact⟨_,es',Qo,hL,r'⟩) hok I.bare
def Inv.call{g':Array Ŷ}{t':Nat}{d':Drawn}(I:Inv X a_ σ H s)(u:Un (iB X.stack) ch H H' s.heap h')(hok:lV X.prog X.w H' h')(hg:ZF g')(Qv:∀b∈ch,(b∈X.ex\/X.s₀.heap.objs.size<=b)/\b≠X.env.locals/\(∀x c,X.env.cells.lookup x=a! c->c≠b)/\∀p∈X.pn++a_,p.1≠b):
  Inv X a_ σ H' {s with heap:=h',gens:=g',drawn:=d',toks:=t'}:=by
 obtain⟨m,⟨o,es,ep,ho,r⟩,_⟩:=id I.loc;obtain⟨sl,hL⟩:=u.any ho I.free λz=>(Qv _ z).2.1 rfl;exact I.step (ch:=ch) Qv (λb o hL hb hc e n=>u.keep b o e n (λz=>(Of.mp (I.stkSub b z)).elim hL hb) hc) (λb o q q hc e n=>u.any e n hc) (λb o hc e n=>u.free b o e n hc) (λb o hc e=>u.there b o e hc) u.tups u.frzs u.tbls (λm' hm=>by
  obtain⟨o',es',Qo,Rl,r'⟩:=hm;rw[ho]at Rl;cases Rl
  exact⟨_,es',Qo,hL,r'⟩) hok hg
def Inv.turned{t':Nat}{it:c!}(I:Inv X a_ σ H s)(k:∀b o,b≠it->s.heap.get? b=a! o->h'.get? b=a! o)(hn:H it=b!)(hL:it≠X.env.locals)(h1:it∈X.ex\/X.s₀.heap.objs.size<=it)(h2:∀x c,X.env.cells.lookup x=a! c->c≠it)(h3:∀p∈X.pn++a_,p.1≠it):Inv X a_ σ H {s with heap:=h',toks:=t'}:=by
 have nit:∀b u,H b=a! u->b≠it:=λb u e z=>by rw[z,hn]at e;cases e
 refine I.step (g':=s.gens) (d':=s.drawn) (ch:=[it]) (λb hb=>?_) (λb o j j hc e j=>k b o (λz=>hc (by simp[z])) e) (λb o j j hc e j=>⟨o.slots,k b o (λz=>hc (by simp[z])) e⟩) (λj j j j n=>n)
  (λb o hc e=>⟨o,k b o (λz=>hc (by simp[z])) e⟩) (λj j e=>e) (λj j j e=>e) (λb ps e=>⟨#[],by rw[e];simp⟩) (λm hm=>?_) (λb u e=>?_) I.bare
 ·have e:b=it:=by simpa using hb
  subst e;exact⟨h1,hL,h2,h3⟩
 ·obtain⟨o,es,ep,ho,r⟩:=hm;exact⟨o,es,ep,k _ o (XR hL) ho,r⟩
 ·refine(I.hok b u e).stay (λc v hc q=>k c v ?_ q) (λj q=>q) λj j q=>q;obtain z|z:=hc
  ·rw[z];exact nit b u e
  ·exact nit c _ z
def Inv.tok(I:Inv X a_ σ H s)(t:Nat):Inv X a_ σ H {s with toks:=t}:=I.un (h':=s.heap) (t':=t) Un.refl I.hok
def Inv.kept{t':Nat}(I:Inv X a_ σ H s)(k:∀b u,s.heap.get? b=a! u->h'.get? b=a! u):Inv X a_ σ H {s with heap:=h',toks:=t'}:=I.un (Un.kept k) (I.hok.kept k)
def Inv.laid{a:c!}{o:HO}{t':Nat}(I:Inv X a_ σ H s)(k:∀b u,s.heap.get? b=a! u->h'.get? b=a! u)(hp:s.heap.objs.size<=a)(new:b8 X.prog X.w (upd H a o) h' a o):
  Inv X a_ σ (upd H a o) {s with heap:=h',toks:=t'}:=I.un (Un.laid k hp (I.hok.fresh hp)) (I.hok.laid k hp new)
def Inv.write{x e:c!}{o:HO}{t':Nat}(I:Inv X a_ σ H s)(mu:MA (H x))(he:e=x\/H e=a! (.own x))(k:∀b u,b≠e->s.heap.get? b=a! u->h'.get? b=a! u)(Tu:∃u,h'.get? e=a! u)(new:b8 X.prog X.w (upd H x o) h' x o):Inv X a_ σ (upd H x o) {s with heap:=h',toks:=t'}:=I.un (Un.write mu he k Tu) (I.hok.write mu he k Tu new)
def Inv.pins_of{Sd:List (c!×XQ)}(I:Inv X a_ σ H s)(h:∀p∈Sd,s.heap.get? p.1=a! p.2/\H p.1=b!/\p.1≠X.env.locals/\p.1∉X.fs/\∀v,p.2.data≠.cell v):Inv X Sd σ H s:=⟨I.ok,I.os,I.bare,I.base,I.loc,I.cell,I.free,I.freeC,λp hp=>(Og.mp hp).elim (λz=>I.pin p (N5 _ z)) (h p),I.hok,I.len⟩
variable{i:Nat}{x:w?}
def wd{N:List w?}(hN:N.Nodup){j:Nat}(a:N[i]?=a! x)(b:N[j]?=a! x):i=j:=by obtain⟨h1,e1⟩:=Om.mp a;obtain⟨h2,e2⟩:=Om.mp b;exact(Ů hN).mp (e1.trans e2.symm)
def tL{M:â}{A:A?}{E:b?->d?->Prop}{v:V}{u:b?}{Q:Unit->d?->Prop}(I:Inv X a_ σ H s)(hN:X.N.Nodup)(hi:X.N[i]?=a! x)(hx:KP X.env.scope x)(r:bG v u)(h:∀s',Inv X a_ (σ.set i (a! v)) H s'->(∃a,Xg a s.heap s'.heap/\(a=X.env.locals\/X.env.cells.lookup x=a! a))->Q () s')(hf:X.fn x=d!\/X.env.scope.names.lookup x=a! .local:=by first|exact .inl rfl|exact .inr rfl|assumption):n? M A (storeName X.env x u) Q E s:=by
 obtain⟨m,hn,hl⟩:=id I.loc;have VC:(X.env.scope.kind==.class||(X.env.scope.kind==.module&&X.env.locals != X.env.globals))=e!:=by rw[I.ok.kind];rfl
 have UE:i<σ.length:=by rw[I.len];exact(Om.mp hi).1
 have cne:=I.cne;have C_:∀{a:c!}{h':F!},(∃o,s.heap.get? a=a! o/\H a=b!)->Xg a s.heap h'->lV X.prog X.w H h':=λ{a h'} ha hs b ob e=>by
  obtain⟨_,_,Ph⟩:=ha;refine(I.hok b ob e).stay (λc w' hc q=>(hs.2 c ?_).trans q) (λg q=>q) λg g q=>q;rintro rfl;obtain rfl|hc:=hc
  ·rw[Ph]at e;cases e
  ·rw[Ph]at hc;cases hc
 obtain hk|hk:=hx
 ·refine wpAny_storeName_local hk hn (λh' RK hs=>?_) VC;obtain⟨oL,_,_,Si,_⟩:=id hn;refine h _ ⟨I.ok,I.os,I.bare,⟨λb o e n hb hx=>?_,λb o e n hb hx=>?_,I.base.free,λb o e hx=>?_,I.base.tups,I.base.frzs,I.base.tbls⟩,⟨_,RK,λj y v' e1 e2 e3=>?_⟩,λy c e=>?_,I.free,I.freeC,λp hp=>?_,C_ ⟨oL,Si,I.free⟩ hs,by simpa using I.len⟩ ⟨_,hs,.inl rfl⟩
  ·exact(hs.2 b (OA (Ox (N9 e) I.ok.above))).trans (I.base.keep b o e n hb hx)
  ·obtain⟨sl,e1⟩:=I.base.slot b o e n hb hx;exact⟨sl,(hs.2 b (OA (Ox (N9 e) I.ok.above))).trans e1⟩
  ·obtain⟨o',e1⟩:=I.base.there b o e hx;exact⟨o',(hs.2 b (OA (Ox (N9 e) I.ok.above))).trans e1⟩
  ·by_cases hj:j=i
   ·subst hj;rw[hi]at e1;cases e1
    rw[x! UE]at e2;cases e2;exact⟨u,r,.inl ⟨hk,0x4⟩⟩
   ·rw[q! (XR hj)]at e2;obtain⟨u',r',q⟩:=hl j y v' e1 e2 e3;refine⟨u',r',?_⟩;obtain⟨k,e⟩|⟨k,c,e,z⟩:=q
    ·refine .inl ⟨k,?_⟩;have:y≠x:=λe=>hj (wd hN e1 (e▸hi));simp[this,e]
    ·exact .inr ⟨k,c,e,z.sameBut hs (cne y c e)⟩
  ·obtain⟨w',z⟩:=I.cell y c e;exact⟨w',z.sameBut hs (cne y c e)⟩
  ·obtain⟨e,n,ne,nf,d⟩:=I.pin p hp;exact⟨(hs.2 p.1 ne).trans e,n,ne,nf,d⟩
 ·have WE:X.fn x=d!:=by
   obtain z|z:=hf
   ·exact z
   ·rw[z]at hk;cases hk
  obtain⟨c,hc⟩:=I.ok.has x (.inl hk);obtain⟨w',z⟩:=I.cell x c hc;refine wpAny_storeName_cell I.ok.kind hk hc z (λh' Pj hs=>?_);obtain⟨oc,hoc,V'⟩:=id z;refine h {s with heap:=h'} ⟨I.ok,I.os,I.bare,⟨λb o e n hb hx=>?_,λb o e n hb hx=>?_,I.base.free,λb o e hx=>?_,I.base.tups,I.base.frzs,I.base.tbls⟩,⟨m,hn.sameBut hs (XR (cne x c hc)),λj y v' e1 e2 e3=>?_⟩,λy c' e=>?_,I.free,I.freeC,λp hp=>?_,C_ ⟨oc,hoc,I.freeC x c hc⟩ hs,by simpa using I.len⟩ ⟨c,hs,.inr hc⟩
  ·exact(hs.2 b (OA (Ox (N9 e) (I.ok.cab x c WE hc)))).trans (I.base.keep b o e n hb hx)
  ·obtain⟨sl,e1⟩:=I.base.slot b o e n hb hx;exact⟨sl,(hs.2 b (OA (Ox (N9 e) (I.ok.cab x c WE hc)))).trans e1⟩
  ·obtain⟨o',e1⟩:=I.base.there b o e hx;exact⟨o',(hs.2 b (OA (Ox (N9 e) (I.ok.cab x c WE hc)))).trans e1⟩
  ·by_cases hj:j=i
   ·subst hj;rw[hi]at e1;cases e1
    rw[x! UE]at e2;cases e2;exact⟨u,r,.inr ⟨.inl hk,c,hc,Pj⟩⟩
   ·rw[q! (XR hj)]at e2;obtain⟨u',r',q⟩:=hl j y v' e1 e2 e3;refine⟨u',r',?_⟩;obtain q|⟨k,c',e,z'⟩:=q
    ·exact .inl q
    ·refine .inr ⟨k,c',e,z'.sameBut hs ?_⟩;rintro rfl;exact hj (wd hN e1 (I.ok.inj _ _ _ e hc▸hi))
  ·by_cases hcc:c'=c
   ·subst hcc;exact⟨_,Pj⟩
   ·obtain⟨w2,z2⟩:=I.cell y c' e;exact⟨w2,z2.sameBut hs hcc⟩
  ·obtain⟨e,n,ne,nf,d⟩:=I.pin p hp;refine⟨(hs.2 p.1 ?_).trans e,n,ne,nf,d⟩;intro q;rw[q,hoc]at e;have q':oc=p.2:=OD e;exact d w' (by rw[<-q'];exact V')
def xh{M:â}{A:A?}{E:b?->d?->Prop}{v:V}{u:b?}{Q:Unit->d?->Prop}(I:Inv X a_ σ H s)(hN:X.N.Nodup)(hi:X.N[i]?=a! x)(hx:KP X.env.scope x)(r:bG v u)(h:∀s',Inv X a_ (σ.set i (a! v)) H s'->Q () s')(hf:X.fn x=d!\/X.env.scope.names.lookup x=a! .local:=by first|exact .inl rfl|exact .inr rfl|assumption):n? M A (storeName X.env x u) Q E s:=tL I hN hi hx r (λs' I' o=>h s' I') hf
def Inv.call'{s':d?}(I:Inv X a_ σ H s)(ho:s'.os=s.os)(u:Un (iB X.stack) ch H H' s.heap s'.heap)(hok:lV X.prog X.w H' s'.heap)(hg:ZF s'.gens)(Qv:∀b∈ch,(b∈X.ex\/X.s₀.heap.objs.size<=b)/\b≠X.env.locals/\(∀x c,X.env.cells.lookup x=a! c->c≠b)/\∀p∈X.pn++a_,p.1≠b):Inv X a_ σ H' s':=by obtain⟨h',g',d',t',o'⟩:=s';have e:o'=s.os:=ho;subst e;exact I.call (g':=g') (t':=t') (d':=d') u hok hg Qv
end
abbrev XK:=b?->Option c!->Hp->Prop
abbrev St:=List (Option V)
abbrev VK:=V->Hp->Prop
abbrev TE:=St->Hp->VK->Prop
abbrev TT:=St->Hp->(Bool->Hp->Prop)->Prop
abbrev TA:=St->Hp->(List V->Hp->Prop)->Prop
structure Ends where
 nx:St->Hp->Prop
 rt:VK
 bk:St->Hp->Prop:=λo o=>False
 ct:St->Hp->Prop:=λo o=>False
abbrev TS:=Ends->St->Hp->Prop
def EP(X:Cx)(a_:List (c!×XQ))(σ:St)(Q:VK)(u:b?)(s':d?):Prop:=∃v H',Inv X a_ σ H' s'/\bG v u/\Q v H'
def TP(X:Cx)(a_:List (c!×XQ))(σ:St)(Q:Bool->Hp->Prop)(b:Bool)(s':d?):Prop:=∃H',Inv X a_ σ H' s'/\Q b H'
def AP(X:Cx)(a_:List (c!×XQ))(σ:St)(Q:List V->Hp->Prop)(us:List b?)(s':d?):Prop:=∃vs H',Inv X a_ σ H' s'/\aT vs us/\Q vs H'
def SP(X:Cx)(a_:List (c!×XQ))(D:Ends)(f:Flow)(s':d?):Prop:=match f with
 |.next=>∃c_ H',Inv X a_ c_ H' s'/\D.nx c_ H'
 |.brk=>∃c_ H',Inv X a_ c_ H' s'/\D.bk c_ H'
 |.cont=>∃c_ H',Inv X a_ c_ H' s'/\D.ct c_ H'
 |.ret u=>∃v c_ H',Inv X a_ c_ H' s'/\bG v u/\D.rt v H'
def PE(X:Cx)(e:E!)(t:TE):Prop:=∀(a_:List (c!×XQ))(s:d?)(σ:St)(H:Hp)(Q:VK),Inv X a_ σ H s->t σ H Q->n? (p! X.prog X.w) X.A (I! e X.env) (EP X a_ σ Q) X.xe s
def PT(X:Cx)(e:E!)(t:TT):Prop:=∀(a_:List (c!×XQ))(s:d?)(σ:St)(H:Hp)(Q:Bool->Hp->Prop),Inv X a_ σ H s->t σ H Q->n? (p! X.prog X.w) X.A (ą e X.env (I! e X.env)) (TP X a_ σ Q) X.xe s
def PW(X:Cx)(e:E!)(t:TT):Prop:=∀(m_:ý b?)(a_:List (c!×XQ))(s:d?)(σ:St)(H:Hp)(Q:Bool->Hp->Prop),Inv X a_ σ H s->t σ H Q->n? (p! X.prog X.w) X.A (ą e X.env m_) (TP X a_ σ Q) X.xe s
variable{X:Cx}{e:E!}
def PW.pt{t:TT}(h:PW X e t):PT X e t:=h _
def PA(X:Cx)(es:List E!)(t:TA):Prop:=∀(ce:YU)(a_:List (c!×XQ))(s:d?)(σ:St)(H:Hp)(Q:List V->Hp->Prop),Inv X a_ σ H s->t σ H Q->n? (p! X.prog X.w) X.A (spliced (W2 ce (n! es X.env))) (AP X a_ σ Q) X.xe s
def PS(X:Cx)(st:U!)(t:TS):Prop:=∀(a_:List (c!×XQ))(s:d?)(σ:St)(H:Hp)(D:Ends),Inv X a_ σ H s->t D σ H->n? (p! X.prog X.w) X.A (exec st X.env) (SP X a_ D) X.xe s
def rO(X:Cx)(st:List U!)(t:TS):Prop:=∀(a_:List (c!×XQ))(s:d?)(σ:St)(H:Hp)(D:Ends),Inv X a_ σ H s->t D σ H->n? (p! X.prog X.w) X.A (execs st X.env) (SP X a_ D) X.xe s
variable{A:A?}{E:b?->d?->Prop}{s:d?}
def cf{α:Type}{t:ý α}{Q Q':α->d?->Prop}{M:â}(h:n? M A t Q E s)(hQ:∀a s,Q a s->Q' a s):n? M A t Q' E s:=Xy h hQ λo o x=>x
section
variable{X:Cx}
variable{a_:List (c!×XQ)}{σ:St}
def Nb{a b:E!}{ta tb:TE}(ha:PE X a ta)(hb:PE X b tb){R:V->V->Hp->Prop}(I:Inv X a_ σ H s)(h:ta σ H λx H1=>tb σ H1 λy H2=>R x y H2){α:Type}{Q:α->d?->Prop}{f:b?->b?->ý α}(hf:∀v u s2 x y H2,Inv X a_ σ H2 s2->bG x v->bG y u->R x y H2->n? (p! X.prog X.w) X.A (f v u) Q X.xe s2):
  n? (p! X.prog X.w) X.A (I! a X.env) (λv s₁=>n? (p! X.prog X.w) X.A (I! b X.env) (λu s₂=>n? (p! X.prog X.w) X.A (f v u) Q X.xe s₂) X.xe s₁) X.xe s:=by refine cf (ha a_ s σ H _ I h) λv s1 ⟨x,H1,I1,r1,q1⟩=>?_;refine cf (hb a_ s1 σ H1 _ I1 q1) λu s2 ⟨y,H2,I2,r2,q2⟩=>?_;exact hf v u s2 x y H2 I2 r1 r2 q2
def hV(i:Nat):TE:=λσ H Q=>∃v,σ[i]?=a! (a! v)/\Q v H
def tC(v:V):TE:=λo H Q=>Q v H
variable{x:w?}{ce:YU}
def Kx{i:Nat}(hN:X.N[i]?=a! x)(hv:MB X.env.scope x)(hd:(x==("__debug__" : w?))=e!:=by decide)(QG:(x==("__classdict__" : w?))=e!:=by decide):PE X (.Name x ce) (hV i):=by
 intro a_ s σ H Q I h;obtain⟨v,e,h⟩:=h;obtain⟨m,hn,hl⟩:=I.loc;obtain⟨u,r,l⟩:=hl i x v hN e hv;have fin:EP X a_ σ Q u s:=⟨v,H,I,r,h⟩;obtain⟨hk,hm⟩|⟨hk,c,hc,PV⟩:=l
 ·exact Ι (wpAny_loadName_local I.ok.kind hk hn hm fin) hd
 ·obtain hk|hk:=hk
  ·exact Ι (wpAny_loadName_cell I.ok.kind hk hc PV fin) hd
  ·exact Ι (wpAny_loadName_free I.ok.kind hk hc PV fin QG) hd
def JC{i j ce}:PE X (.Constant (.int i) j ce) (tC (.int i)):=λo o o H o I h=>wpAny_Constant_int ⟨.int i,H,I.tok _,⟨_,rfl⟩,h⟩
def Lk{b j ce}:PE X (.Constant (.bool b) j ce) (tC (.bl b)):=λo o o H o I h=>Constant_bool ⟨.bl b,H,I,rfl,h⟩
def CU{x j ce}:PE X (.Constant (.str x) j ce) (tC (.str x)):=λo o o H o I h=>Calls.Constant_str ⟨.str x,H,I.tok _,⟨_,rfl⟩,h⟩
def Gl(X:Cx)(x:w?):Prop:=X.env.kindOf x=a! .globalImplicit
variable{u:b?}
def pW{Q:b?->d?->Prop}(I:Inv X a_ σ H s)(hg:Gl X x)(hm:X.mg x=a! u)(h:Q u s)(hd:(x==("__debug__" : w?))=e!:=by decide):n? (p! X.prog X.w) X.A (I! (.Name x ce) X.env) Q E s:=ú I.ok.kind hg (Calls.loadGlobal_global (by rw[I.ok.glob];exact I.mod.glob.keeps I.bk) hm h) hd
def nU{Q:b?->d?->Prop}(I:Inv X a_ σ H s)(hg:Gl X x)(hm:X.mg x=b!)(hv:H! x=a! u)(h:Q u s)(hn:x ≠"__name__" :=by decide)(hd:(x==("__debug__" : w?))=e!:=by decide):n? (p! X.prog X.w) X.A (I! (.Name x ce) X.env) Q E s:=by obtain⟨mb,h1,h2⟩:=I.mod.blt;exact ú I.ok.kind hg (Calls.loadGlobal_builtin (by rw[I.ok.glob];exact I.mod.glob.keeps I.bk) hm (by rw[I.ok.blt];exact h1.keeps I.bk) ((h2 x hn).trans hv) h) hd
def Ht{v:V}(hg:Gl X x)(hm:X.mg x=a! u)(r:bG v u)(hd:(x==("__debug__" : w?))=e!:=by decide):PE X (.Name x ce) (tC v):=λo o o H o I h=>pW I hg hm ⟨v,H,I,r,h⟩ hd
variable{a b:E!}{ta tb:TE}{ce:YU}
def PC(X:Cx)(op:đ)(a b:E!)(t:TE):Prop:=∀(a_:List (c!×XQ))(s:d?)(σ:St)(H:Hp)(Q:VK),Inv X a_ σ H s->t σ H Q ->
  n? (p! X.prog X.w) X.A (I! a X.env) (λv s₁=>n? (p! X.prog X.w) X.A (I! b X.env) (λu s₂=>n? (p! X.prog X.w) X.A (D? op v u) (EP X a_ σ Q) X.xe s₂) X.xe s₁) X.xe s
def Ez(b:E!){op:đ}(h:op≠.In)(h2:op≠.NotIn):XZ op b=e!:=by
 have e1:(op==CmpOp.In)=e!:=by cases op <;>first|rfl|exact ê rfl h
 have e2:(op==CmpOp.NotIn)=e!:=by cases op <;>first|rfl|exact ê rfl h2
 cases b <;>simp[XZ,e1,e2]
def tB(t:TE):TT:=λσ H Q=>t σ H λx H1=>∃c,x=.bl c/\Q c H1
variable{t:TE}
def Nf{op:đ}(h:PC X op a b t)(h1:XZ op b=e!:=by first|exact Ez _ 0x3 0x3|rfl):PT X (.Compare a [op] [b] ce) (tB t):=by intro a_ s σ H Q I hw;refine Z9 (cf (h a_ s σ H _ I hw) λv s1 h1=>cf h1 λu s2 h2=>cf h2 λc s3 ⟨x,H1,I1,r1,q1⟩=>?_) h1;obtain⟨d,rfl,q⟩:=q1;cases r1;exact N? ⟨H1,I1,q⟩
def Kw(h:PE X e t)(he:∀m_,ą e X.env m_=(do let v <-m_;ò e.pos;ZX [v] (Λ v)):=by intro _;rfl):PT X e (tB t):=by intro a_ s σ H Q I hw;refine isTrue_plain (cf (h a_ s σ H _ I hw) λv s1 ⟨x,H1,I1,r1,q1⟩=>?_) (he _);obtain⟨d,rfl,q⟩:=q1;cases r1;exact N? ⟨H1,I1,q⟩
variable{tA U0:TT}{bU:List E!}
def MZ(t u:TT):TT:=λσ H Q=>t σ H λc H1=>if c=d! then u σ H1 Q else Q e! H1
def NU(t u:TT):TT:=λσ H Q=>t σ H λc H1=>if c=d! then Q d! H1 else u σ H1 Q
def MC(t:TT):TT:=λσ H Q=>t σ H λc H1=>Q (!c) H1
def GD(ha:PT X a tA):PW X (.BoolOp .And [a] ce) tA:=by
 intro wh a_ s σ H Q I h;refine isTrue_and (cf (ha a_ s σ H Q I h) λc s1 e=>?_);cases c with
 |true=>exact isTrue_and_nil e
 |false=>exact e
def JA(ha:PT X a tA):PW X (.BoolOp .Or [a] ce) tA:=by
 intro wh a_ s σ H Q I h;refine isTrue_or (cf (ha a_ s σ H Q I h) λc s1 e=>?_);cases c with
 |false=>exact isTrue_or_nil e
 |true=>exact e
def Ji(ha:PT X a tA)(hb:PW X (.BoolOp .And (b::bU) ce) U0):PW X (.BoolOp .And (a::b::bU) ce) (MZ tA U0):=by
 intro wh a_ s σ H Q I h;refine isTrue_and (cf (ha a_ s σ H _ I h) λc s1 ⟨H1,I1,q1⟩=>?_);cases c with
 |true=>exact hb wh a_ s1 σ H1 Q I1 q1
 |false=>exact⟨H1,I1,q1⟩
def Mj(ha:PT X a tA)(hb:PW X (.BoolOp .Or (b::bU) ce) U0):PW X (.BoolOp .Or (a::b::bU) ce) (NU tA U0):=by
 intro wh a_ s σ H Q I h;refine isTrue_or (cf (ha a_ s σ H _ I h) λc s1 ⟨H1,I1,q1⟩=>?_);cases c with
 |true=>exact⟨H1,I1,q1⟩
 |false=>exact hb wh a_ s1 σ H1 Q I1 q1
def Kb(ha:PT X a tA):PT X (.UnaryOp .Not a ce) (MC tA):=by intro a_ s σ H Q I h;exact isTrue_not (ha a_ s σ H (λc H1=>Q (!c) H1) I h)
def Lh(ta tb:TE):TE:=λσ H Q=>ta σ H λx H1=>∃c,x=.bl c/\if c=d! then tb σ H1 Q else Q (.bl e!) H1
def Mn(ta:TE):TE:=λσ H Q=>ta σ H λx H1=>∃c,x=.bl c/\Q (.bl (!c)) H1
def Kf{op}(h:PE X a t):PE X (.BoolOp op [a] ce) t:=λa_ s σ H Q I hw=>BoolOp_one (h a_ s σ H Q I hw)
def JR(ha:PE X a ta)(hb:PE X (.BoolOp .And (b::bU) ce) tb):PE X (.BoolOp .And (a::b::bU) ce) (Lh ta tb):=by
 intro a_ s σ H Q I h;refine BoolOp_and (cf (ha a_ s σ H _ I h) λv s1 ⟨x,H1,I1,r1,q1⟩=>?_);obtain⟨c,rfl,q1⟩:=q1;cases r1;refine N? ?_;cases c with
 |true=>exact hb a_ s1 σ H1 Q I1 q1
 |false=>exact⟨.bl e!,H1,I1,rfl,q1⟩
def IS(ha:PE X a ta):PE X (.UnaryOp .Not a ce) (Mn ta):=by intro a_ s σ H Q I h;refine UnaryOp_ (cf (ha a_ s σ H _ I h) λv s1 ⟨x,H1,I1,r1,q1⟩=>?_);obtain⟨c,rfl,q1⟩:=q1;cases r1;exact not_of (N? ⟨.bl (!c),H1,I1,rfl,q1⟩)
end
def gu(K:Oe)(H:Hp)(a:c!)(xs:List V):Prop:=Rd H a (.lst xs) \/
  ∃(o:XQ)(D':Array b?)(n:Nat),K.lookup a=a! o/\o.cls=.type "list" /\o.dict=b!/\o.data=.seq D' n/\D'.size<=sizeLine/\aT xs D'.toList
def lA(K:Oe)(H:Hp)(a:c!)(xs:List V):Prop:=Rd H a (.tup xs) \/
  ∃(o:XQ)(D':Array b?)(n:Nat),K.lookup a=a! o/\o.cls=.type "tuple" /\o.data=.seq D' n/\D'.size<=sizeLine/\aT xs D'.toList
noncomputable def M6:b?->Option V
 |.none=>a! .non
 |.bool b=>a! (.bl b)
 |.int i _=>a! (.int i)
 |.str x _=>a! (.str x)
 |.bytes b _=>a! (.byt b)
 |.float b _=>a! (.flt b)
 |.ref a=>a! (.ref a)
 |.type n=>a! (.ty n)
 |_=>b!
variable{u:b?}
def bG.abs{x:V}(r:bG x u):M6 u=a! x:=by
 cases x with
 |non=>cases r;rfl
 |bl _=>cases r;rfl
 |int _=>obtain⟨t,rfl⟩:=r;rfl
 |str _=>obtain⟨t,rfl⟩:=r;rfl
 |byt _=>obtain⟨t,rfl⟩:=r;rfl
 |flt _=>obtain⟨t,rfl⟩:=r;rfl
 |ref _=>cases r;rfl
 |ty _=>cases r;rfl
def bG.inj{x y:V}{u:b?}(r:bG x u)(q:bG y u):x=y:=OD (r.abs.symm.trans q.abs)
theorem aT.inj:∀{xs ys:List V}{us:List b?},aT xs us->aT ys us->xs=ys
 |_,_,_,.nil,.nil=>rfl
 |_,_,_,.cons r t,.cons r' t'=>by rw[r.inj r',aT.inj t t']
section
variable{X:Cx}{a_:List (c!×XQ)}{σ:St}{H:Hp}{s:d?}{a:c!}{xs ys:List V}
def gu.of{K:Oe}(h:H a=a! (.lst xs)):gu K H a xs:=.inl (.inl h)
def lA.of{K:Oe}(h:H a=a! (.tup xs)):lA K H a xs:=.inl (.inl h)
def Inv.list(I:Inv X a_ σ H s)(h:gu X.K H a xs):∃D':List b?,aT xs D'/\PlainL s.heap a D'.toArray/\xs.length<=sizeLine:=by
 obtain h|⟨o,D',n,hk,hc,hd,hs,hz,r⟩:=h
 ·obtain⟨z,D',n,r,e⟩:=h.ok I.hok;exact⟨D',r,⟨_,n,e,rfl,rfl,rfl⟩,z⟩
 ·refine⟨D'.toList,r,⟨o,n,I.kIn a o hk,hc,hd,by simpa using hs⟩,?_⟩;have e:=r.length;simp only[u?]at e;lia
def Inv.tuple(I:Inv X a_ σ H s)(h:lA X.K H a xs):∃D':List b?,aT xs D'/\ϑ s.heap a D'.toArray/\xs.length<=sizeLine:=by
 obtain h|⟨o,D',n,hk,hc,hs,hz,r⟩:=h
 ·obtain⟨z,D',r,p⟩:=h.ok I.hok;exact⟨D',r,p,z⟩
 ·refine⟨D'.toList,r,⟨o,I.kIn a o hk,hc,n,by simpa using hs⟩,?_⟩;have e:=r.length;simp only[u?]at e;lia
def Inv.list_inj(I:Inv X a_ σ H s)(h:gu X.K H a xs)(h':gu X.K H a ys):xs=ys:=by
 obtain⟨D',r,⟨o,n,e,_,_,d⟩,_⟩:=I.list h;obtain⟨its',r',⟨o',n',e',_,_,d'⟩,_⟩:=I.list h';rw[e]at e';cases e'
 rw[d]at d'
 injection d' with d1 _
 have:D'=its':=by simpa using congrArg ξ d1
 subst this;exact r.inj r'
def Inv.tuple_inj(I:Inv X a_ σ H s)(h:lA X.K H a xs)(h':lA X.K H a ys):xs=ys:=by
 obtain⟨D',r,⟨o,e,_,n,d⟩,_⟩:=I.tuple h;obtain⟨its',r',⟨o',e',_,n',d'⟩,_⟩:=I.tuple h';rw[e]at e';cases e'
 rw[d]at d'
 injection d' with d1 _
 have:D'=its':=by simpa using congrArg ξ d1
 subst this;exact r.inj r'
end
noncomputable abbrev Cx.wish(X:Cx)(E:b?->d?->Prop):Cx:={X with xe:=E}
noncomputable abbrev Cx.nox(X:Cx):Cx:=X.wish λo o=>False
def Cx.Ok.wish{X:Cx}(ok:X.Ok)(E:b?->d?->Prop):(X.wish E).Ok:=⟨ok.mod,ok.kind,ok.glob,ok.blt,ok.above,ok.inj,ok.has,ok.cab,ok.hd,ok.frames,ok.stk,ok.exf,ok.bs,ok.bsz,ok.noex,ok.exfs,ok.funs,ok.frf⟩
def Cx.Ok.unwish(ok:(X.wish E).Ok):X.Ok:=⟨ok.mod,ok.kind,ok.glob,ok.blt,ok.above,ok.inj,ok.has,ok.cab,ok.hd,ok.frames,ok.stk,ok.exf,ok.bs,ok.bsz,ok.noex,ok.exfs,ok.funs,ok.frf⟩
section
variable{X:Cx}{a_:List (c!×XQ)}{σ:St}{H:Hp}{s:d?}{E:b?->d?->Prop}
def Inv.wish(I:Inv X a_ σ H s)(E:b?->d?->Prop):Inv (X.wish E) a_ σ H s:=⟨I.ok.wish E,I.os,I.bare,I.base,I.loc,I.cell,I.free,I.freeC,I.pin,I.hok,I.len⟩
def Inv.unwish(I:Inv (X.wish E) a_ σ H s):Inv X a_ σ H s:=⟨I.ok.unwish,I.os,I.bare,I.base,I.loc,I.cell,I.free,I.freeC,I.pin,I.hok,I.len⟩
def SP.unwish{D:Ends}{f:Flow}{s':d?}(h:SP (X.wish E) a_ D f s'):SP X a_ D f s':=by
 cases f with
 |next=>obtain⟨c_,H',I,q⟩:=h;exact⟨c_,H',I.unwish,q⟩
 |brk=>obtain⟨c_,H',I,q⟩:=h;exact⟨c_,H',I.unwish,q⟩
 |cont=>obtain⟨c_,H',I,q⟩:=h;exact⟨c_,H',I.unwish,q⟩
 |ret u=>obtain⟨v,c_,H',I,r,q⟩:=h;exact⟨v,c_,H',I.unwish,r,q⟩
def rO.nox{st:List U!}{t:TS}(h:rO X.nox st t):rO X st t:=λa_ s σ H D I hw=>
 Xy (h a_ s σ H D (I.wish _) hw) (λo o q=>q.unwish) λo o z=>XB z
end
section
variable{X:Cx}{st:U!}{bU:List U!}{t u:TS}{e:E!}{te:TE}{ce:YU}
def LS:TS:=λD σ H=>D.nx σ H
def Ls(t u:TS):TS:=λD σ H=>t {D with nx:=u D} σ H
def pI:rO X [] LS:=λo o σ H o I h=>Z6 ⟨σ,H,I,h⟩
def gh(h1:PS X st t)(h2:rO X bU u):rO X (st::bU) (Ls t u):=by
 intro a_ s σ H D I h;refine ϓ (cf (h1 a_ s σ H {D with nx:=u D} I h) λf s1 q=>?_);cases f with
 |next=>
  obtain⟨c_,H',I',q⟩:=q;exact h2 a_ s1 c_ H' D I' q
 |ret v=>exact q
 |brk=>exact q
 |cont=>exact q
def gf(h1:PS X st t):rO X [st] t:=by
 intro a_ s σ H D I h;refine ϓ (cf (h1 a_ s σ H D I h) λf s1 q=>?_);cases f with
 |next=>exact Z6 q
 |ret v=>exact q
 |brk=>exact q
 |cont=>exact q
def Inv.quiet{a_:List (c!×XQ)}{σ:St}(I:Inv X a_ σ H s):interactive X.env=e!:=by simp[interactive,I.ok.kind]
def LC(te:TE):TS:=λD σ H=>te σ H λo H1=>D.nx σ H1
def m6(he:PE X e te)(hs:X_ e b! ce.line X.env=Xo false:=by rfl):PS X (.Expr e ce) (LC te):=by intro a_ s σ H D I h;exact wpAny_Expr_any (cf (he a_ s σ H _ I h) λv s1 ⟨x,H1,I1,r1,q1⟩=>⟨σ,H1,I1,q1⟩) I.quiet hs
def L9(te:TE):TS:=λD σ H=>te σ H D.rt
def yc(he:PE X e te):PS X (.Return (a! e) ce) (L9 te):=by intro a_ s σ H D I h;exact wpAny_Return_some (cf (he a_ s σ H _ I h) λv s1 ⟨x,H1,I1,r1,q1⟩=>⟨x,σ,H1,I1,r1,q1⟩)
def Nc(c:TT)(t u:TS):TS:=λD σ H=>c σ H λb H1=>if b=d! then t D σ H1 else u D σ H1
def zC{c:E!}{a b:List U!}{tc:TT}(hc:PT X c tc)(ha:rO X a t)(hb:rO X b u):PS X (.If c a b ce) (Nc tc t u):=by
 intro a_ s σ H D I h;refine wpAny_If (cf (hc a_ s σ H _ I h) λd s1 ⟨H1,I1,q1⟩=>?_);cases d with
 |true=>exact ha a_ s1 σ H1 D I1 q1
 |false=>exact hb a_ s1 σ H1 D I1 q1
end
abbrev TG:=V->St->Hp->(St->Hp->Prop)->Prop
abbrev Fc:=List V->St->Hp->(St->Hp->Prop)->Prop
def PG(X:Cx)(r_:E!)(t:TG):Prop:=∀(a_:List (c!×XQ))(s:d?)(σ:St)(H:Hp)(v:V)(u:b?)(Q:St->Hp->Prop),Inv X a_ σ H s->bG v u->t v σ H Q ->
  n? (p! X.prog X.w) X.A (ć r_ X.env u) (λo s'=>∃c_ H',Inv X a_ c_ H' s'/\Q c_ H') X.xe s
def Mu(X:Cx)(ts:List E!)(t:Fc):Prop:=∀(a_:List (c!×XQ))(s:d?)(σ:St)(H:Hp)(vs:List V)(us:List b?)(Q:St->Hp->Prop),Inv X a_ σ H s->aT vs us->t vs σ H Q ->
  n? (p! X.prog X.w) X.A (assignInOrder ((Zu ts X.env).map (·.2)) us) (λo s'=>∃c_ H',Inv X a_ c_ H' s'/\Q c_ H') X.xe s
section
variable{X:Cx}{ce:YU}
def oX(i:Nat):TG:=λv σ H Q=>Q (σ.set i (a! v)) H
def Fv{i:Nat}{x:w?}(hN:X.N.Nodup)(hi:X.N[i]?=a! x)(hx:KP X.env.scope x)(hf:X.fn x=d!\/X.env.scope.names.lookup x=a! .local:=by first|exact .inl rfl|exact .inr rfl|assumption):PG X (.Name x ce) (oX i):=by intro a_ s σ H v u Q I r h;exact π (xh I hN hi hx r (λs' I'=>⟨_,H,I',h⟩) hf)
def Li:Fc:=λvs σ H Q=>vs=[]/\Q σ H
def Iz(t:TG)(u:Fc):Fc:=λvs σ H Q=>∃v r,vs=v::r/\t v σ H λc_ H'=>u r c_ H' Q
def nr:Mu X [] Li:=by intro a_ s σ H vs us Q I r h;obtain⟨e,h⟩:=h;subst e;cases r;exact assignInOrder_nil ⟨σ,H,I,h⟩
def eE{es:List E!}{t:TG}{u:Fc}(h1:PG X e t)(h2:Mu X es u)(hs:(Zu (e::es) X.env).map (·.2)=ć e X.env::(Zu es X.env).map (·.2):=by rfl):Mu X (e::es) (Iz t u):=by
 intro a_ s σ H vs us Q I r h;obtain⟨v,vr,e1,h⟩:=h;subst e1;cases r with
 |cons r rr=>
  rw[hs];refine assignInOrder_cons (cf (h1 a_ s σ H _ _ _ I r h) λ_ s1 ⟨P_,H1,I1,q1⟩=>?_);exact h2 a_ s1 P_ H1 _ _ Q I1 rr q1
def Mq(K:Oe)(n:Nat)(t:Fc):TG:=λv σ H Q=>∃a xs,v=.ref a/\lA K H a xs/\xs.length=n/\t xs σ H Q
def rG{es:List E!}{k:Nat}{t:Fc}{n:Nat}(hc:X.calm=d!)(h:Mu X es t)(hn:(Zu es X.env).length=n:=by rfl)(PZ:(Zu es X.env).findIdx? (·.1)=b!:=by rfl):PG X (.Tuple es k ce) (Mq X.K n t):=by intro a_ s σ H v u Q I r hw;obtain⟨a,xs,e1,hq,hl,hw⟩:=hw;subst e1;cases r;obtain⟨D',rv,ht,hz⟩:=I.tuple hq;refine assign_Tuple_tuple (I.ok.hd hc) ht (by simp[hn,<-hl,rv.length]) PZ λh' hx=>?_;have I1:Inv X a_ σ H {s with heap:=h'}:=I.kept (t':=s.toks) λb o e=>hx b o (OA (N9 e)) e;exact h a_ _ σ H xs _ Q I1 (by simpa using rv) hw
def IF(te:TE)(g:TG):TS:=λD σ H=>te σ H λx H1=>g x σ H1 D.nx
def JL{tg:E!}{te:TE}{g:TG}(he:PE X e te)(hg:PG X tg g)(hs:aÇ [tg] e ce.line X.env=Xo false:=by rfl)(hw:aÈ [tg] e X.env=Xo none:=by rfl)(h1:(Zu [tg] X.env).map (·.2)=[ć tg X.env]:=by rfl):PS X (.Assign [tg] e ce) (IF te g):=by intro a_ s σ H D I h;refine wpAny_Assign_stores (cf (he a_ s σ H _ I h) λv s1 ⟨x,H1,I1,r1,q1⟩=>?_) hs hw;rw[h1];exact cf (hg a_ s1 σ H1 x v _ I1 r1 q1) λo s2 q=>q
def Ex{i:Nat}{x:w?}{te:TE}{z_:YU}(hN:X.N.Nodup)(hi:X.N[i]?=a! x)(hx:KP X.env.scope x)(he:PE X e te)(hs:X_ e (a! (.Name x z_)) ce.line X.env=Xo false:=by rfl)(hf:X.fn x=d!\/X.env.scope.names.lookup x=a! .local:=by first|exact .inl rfl|exact .inr rfl|assumption):
  PS X (.Assign [.Name x z_] e ce) (IF te (oX i)):=by intro a_ s σ H D I h;refine wpAny_Assign_Name (cf (he a_ s σ H _ I h) λv s1 ⟨y,H1,I1,r1,q1⟩=>?_) hs;exact xh I1 hN hi hx r1 (λs2 I2=>⟨_,H1,I2,q1⟩) hf
end
section
variable{X:Cx}{ce:YU}
def Kv(c:TT)(tb:TS):TS:=λD σ H=>∃W:Nat->St->Hp->Prop,(∃m,W m σ H)/\∀m σ H,W m σ H ->
 c σ H λb H1=>if b=d! then ∃N:St->Hp->Prop,(∀c_ H',N c_ H'->∃m',m'<m/\W m' c_ H')/\tb {D with nx:=N,ct:=N,bk:=D.nx} σ H1 else D.nx σ H1
def Es{c:E!}{j_:List U!}{tc:TT}{tb:TS}(hp:Ê (p! X.prog X.w) X.A X.env X.xe)(hc:PT X c tc)(hb:rO X j_ tb):PS X (.While c j_ [] ce) (Kv tc tb):=by
 intro a_ s σ H D I h;obtain⟨W,⟨m0,w0⟩,turn⟩:=h;refine wpAny_While (codeAny_whileLoop (λn s'=>∃c_ H',Inv X a_ c_ H' s'/\W n c_ H') ?_ m0 ⟨σ,H,I,w0⟩);rintro n s1 ⟨P_,H1,I1,w1⟩;refine Yg hp (cf (hc a_ s1 P_ H1 _ I1 (turn n P_ H1 w1)) λb s2 ⟨H2,I2,q2⟩=>?_);cases b with
 |true=>
  obtain⟨N,hN,q2⟩:=q2;rw[é rfl];refine Yg hp (cf (hb a_ s2 P_ H2 _ I2 q2) λf s3 q3=>?_);cases f with
  |next=>
   obtain⟨F_,H3,I3,n3⟩:=q3;obtain⟨m',hm,w3⟩:=hN F_ H3 n3;exact⟨m',hm,F_,H3,I3,w3⟩
  |cont=>
   obtain⟨F_,H3,I3,n3⟩:=q3;obtain⟨m',hm,w3⟩:=hN F_ H3 n3;exact⟨m',hm,F_,H3,I3,w3⟩
  |brk=>exact q3
  |ret v=>exact q3
 |false=>
  rw[è z!];exact Z6 ⟨P_,H2,I2,q2⟩
end
structure It where
 go:Nat->Hp->Prop
 yld:Nat->Hp->V->Hp->Prop
 stop:Nat->Hp->Prop
def pj(X:Cx)(a_:List (c!×XQ))(H:Hp)(b:c!):Prop:=H b=b!/\b≠X.env.locals/\b∉X.fs/\(b∈X.ex\/X.s₀.heap.objs.size<=b)/\(∀x c,X.env.cells.lookup x=a! c->c≠b)/\∀p∈X.pn++a_,p.1≠b
variable{a_:List (c!×XQ)}{σ:St}
def Inv.fpOk{H':Hp}(I:Inv X a_ σ H s)(hb:s.heap.objs.size<=b)(hn:H' b=b!):pj X a_ H' b:=by
 refine⟨hn,Ø (Ox I.lt hb),I.nofs hb,.inr (Ow I.sz hb),λx c e z=>?_,λp hp z=>?_⟩
 ·obtain⟨v,q⟩:=I.cell x c e;exact ê (Ox q.lt (by rwa[z])) (YE _)
 ·exact ê (Ox (N9 (I.pin p hp).1) (by rwa[z])) (YE _)
structure Turn(P:g?)(w:q?)(K:Oe)(tg:E!)(J:It)(fp:List c!)(it:c!)(tn:Nat->F!->Prop):Prop where
 mem:it∈fp
 obj:∀i h,tn i h->∀b∈fp,∃o,h.get? b=a! o/\∀v,o.data≠.cell v
 keep:∀i h h',tn i h->(∀b∈fp,∀o,h.get? b=a! o->h'.get? b=a! o)->tn i h'
 item:∀(X:Cx),X.prog=P->X.w=w->X.K=K->X.calm=d!->∀(i:Nat)(a_:List (c!×XQ))(s:d?)(σ:St)(H:Hp)(E:b?->d?->Prop),Inv X a_ σ H s->(∀b∈fp,pj X a_ H b)->tn i s.heap->J.go i H ->
  n? (p! P w) X.A (ZW (.ref it)) (λr s1=>∃u,r=a! u /\
   n? (p! P w) X.A (Z7 tg (.ref it) u) (λq s2=>∃x H',Inv X a_ σ H' s2/\bG x u/\J.yld i H x H'/\tn (i+1) s2.heap/\∀b∈fp,H' b=b!) E s1) E s
 done:∀(X:Cx),X.prog=P->X.w=w->X.K=K->X.calm=d!->∀(i:Nat)(a_:List (c!×XQ))(s:d?)(σ:St)(H:Hp)(E:b?->d?->Prop),Inv X a_ σ H s->(∀b∈fp,pj X a_ H b)->tn i s.heap->J.stop i H ->
  n? (p! P w) X.A (ZW (.ref it)) (λr s1=>r=b!/\Inv X a_ σ H s1) E s
 self:∀(A:A?)(i:Nat)(s:d?)(Q:b?->d?->Prop)(E:b?->d?->Prop),tn i s.heap->Q (.ref it) s->n? (p! P w) A (Μ (.ref it)) Q E s
abbrev TI:=St->Hp->(It->Hp->Prop)->Prop
def Nx(X:Cx)(a_:List (c!×XQ))(σ:St)(tg:E!)(R:It->Hp->Prop)(Vd:b?)(s2:d?):Prop:=∃(it:c!)(fp:List c!)(tn:Nat->F!->Prop)(J:It)(H':Hp),Vd=.ref it/\Inv X a_ σ H' s2/\Turn X.prog X.w X.K tg J fp it tn/\tn 0 s2.heap/\(∀b∈fp,pj X a_ H' b)/\R J H'
def PI(X:Cx)(tg g_:E!)(wi:TI):Prop:=∀(a_:List (c!×XQ))(s:d?)(σ:St)(H:Hp)(R:It->Hp->Prop),Inv X a_ σ H s->wi σ H R ->
  n? (p! X.prog X.w) X.A (I! g_ X.env) (λv s1=>n? (p! X.prog X.w) X.A (Μ v) (Nx X a_ σ tg R) X.xe s1) X.xe s
variable{tg:E!}
def Dn{M:â}{it:c!}{o:XQ}{n:String}{vs:Array b?}{Q:Unit->d?->Prop}(ho:s.heap.get? it=a! o)(hc:o.cls=.type n)(hd:o.data=.fields vs)(hn:["enumerate","zip","dict_itemiterator","dict_reverseitemiterator","odict_iterator","itertools.zip_longest","itertools.pairwise"].contains n=e!)(hQ:Q () s):n? M A (Z7 tg (.ref it) u) Q E s:=by
 unfold Z7;cases tg <;>first
  |exact N8 hQ
  |(cases u <;>first
    |exact N8 hQ
    |(refine N7 (wpAny_load ho ?_);rw[hc,hd];show n? M A (if(["enumerate","zip","dict_itemiterator","dict_reverseitemiterator","odict_iterator","itertools.zip_longest","itertools.pairwise"].contains n&&vs[0]?==a! (ç _))=d! then _ else _) Q E s;rw[è (by intro h;rw[hn,YO]at h;cases h)];exact N8 hQ))
noncomputable def M5(K:Oe)(a:c!):It:=⟨λi H=>∃xs x,gu K H a xs/\xs[i]?=a! x,λi H x H'=>H'=H/\∀xs,gu K H a xs->xs[i]?=a! x,λi H=>∃xs,gu K H a xs/\xs.length<=i⟩
noncomputable def Nh(K:Oe)(a:c!):It:=⟨λi H=>∃xs x,lA K H a xs/\xs[i]?=a! x,λi H x H'=>H'=H/\∀xs,lA K H a xs->xs[i]?=a! x,λi H=>∃xs,lA K H a xs/\xs.length<=i⟩
noncomputable def Lb(lo:Int)(n:Nat):It:=⟨λi o=>i<n,λi H x H'=>H'=H/\x=.int (lo+i),λi o=>n<=i⟩
variable{K:Oe}
def AY(a it:c!):Turn P w K tg (M5 K a) [it] it (λi h=>h.IsListIter it a i) where
 mem:=by simp
 obj:=λi h st b hb=>by
  have e:b=it:=by simpa using hb
  subst e;obtain⟨o,e,c,d⟩:=st;exact⟨o,e,λv z=>by rw[d]at z;cases z⟩
 keep:=λi h h' st k=>st.at λo e=>k it 0x4 o e
 item:=by intro X hP hw hK hc i a_ s σ H E I hf st hg;subst hP hw hK;obtain⟨xs,x,hq,hx⟩:=hg;obtain⟨D',rv,p,hz⟩:=I.list hq;obtain⟨u,hu,ru⟩:=rv.get hx;obtain⟨f0,f1,f2,f3,f4,f5⟩:=hf it 0x4;refine wpAny_pyNext_list_item st p.isList (x:=u) (by simpa using hu) λh' F' sb=>?_;have I1:Inv X a_ σ H {s with heap:=h'}:=I.turned (t':=s.toks) (λb o hb e=>(sb.2 b hb).trans e) f0 f1 f3 f4 f5;obtain⟨o,e,c,d⟩:=id F';exact⟨u,rfl,Dn (s:={s with heap:=h'}) e c d 0x3 ⟨x,H,I1,ru,⟨rfl,λys hy=>by rwa[I.list_inj hy hq]⟩,F',λb hb=>(hf b hb).1⟩⟩
 done:=by intro X hP hw hK hc i a_ s σ H E I hf st hg;subst hP hw hK;obtain⟨xs,hq,hx⟩:=hg;obtain⟨D',rv,p,hz⟩:=I.list hq;obtain⟨f0,f1,f2,f3,f4,f5⟩:=hf it 0x4;have hl:=rv.length;exact wpAny_pyNext_list_end (I.ok.hd hc) st p.isList (by simp;lia) λh' eb=>⟨rfl,I.turned (t':=s.toks) (λb o hb e=>eb b o hb e) f0 f1 f3 f4 f5⟩
 self:=λq q q q q st h=>wpAny_pyIter_listiter st h
def yN(a it:c!):Turn P w K tg (Nh K a) [it] it (λi h=>h.IsTupleIter it a i) where
 mem:=by simp
 obj:=λi h st b hb=>by
  have e:b=it:=by simpa using hb
  subst e;obtain⟨o,e,c,d⟩:=st;exact⟨o,e,λv z=>by rw[d]at z;cases z⟩
 keep:=λi h h' st k=>st.at λo e=>k it 0x4 o e
 item:=by intro X hP hw hK hc i a_ s σ H E I hf st hg;subst hP hw hK;obtain⟨xs,x,hq,hx⟩:=hg;obtain⟨D',rv,p,hz⟩:=I.tuple hq;obtain⟨u,hu,ru⟩:=rv.get hx;obtain⟨f0,f1,f2,f3,f4,f5⟩:=hf it 0x4;refine wpAny_pyNext_tuple_item st (show s.heap.IsTuple a D'.toArray from p) (x:=u) (by simpa using hu) λh' F' sb=>?_;have I1:Inv X a_ σ H {s with heap:=h'}:=I.turned (t':=s.toks) (λb o hb e=>(sb.2 b hb).trans e) f0 f1 f3 f4 f5;obtain⟨o,e,c,d⟩:=id F';exact⟨u,rfl,Dn (s:={s with heap:=h'}) e c d 0x3 ⟨x,H,I1,ru,⟨rfl,λys hy=>by rwa[I.tuple_inj hy hq]⟩,F',λb hb=>(hf b hb).1⟩⟩
 done:=by intro X hP hw hK hc i a_ s σ H E I hf st hg;subst hP hw hK;obtain⟨xs,hq,hx⟩:=hg;obtain⟨D',rv,p,hz⟩:=I.tuple hq;obtain⟨f0,f1,f2,f3,f4,f5⟩:=hf it 0x4;have hl:=rv.length;exact wpAny_pyNext_tuple_end (I.ok.hd hc) st (show s.heap.IsTuple a D'.toArray from p) (by simp;lia) λh' eb=>⟨rfl,I.turned (t':=s.toks) (λb o hb e=>eb b o hb e) f0 f1 f3 f4 f5⟩
 self:=λq q q q q st h=>wpAny_pyIter_tupleiter st h
def xy(it:c!)(lo:Int)(n:Nat):Turn P w K tg (Lb lo n) [it] it (λi h=>IsRangeIter h it (lo+(i:Nat)*1) ((n:Int)-(i:Nat)) 1) where
 mem:=by simp
 obj:=λi h st b hb=>by
  have e:b=it:=by simpa using hb
  subst e;exact⟨_,st,λv z=>by have z':Data.fields _=Data.cell v:=z;cases z'⟩
 keep:=λi h h' st k=>k it 0x4 _ st
 item:=by intro X hP hw hK hc i a_ s σ H E I hf st hg;subst hP hw hK;obtain⟨f0,f1,f2,f3,f4,f5⟩:=hf it 0x4;have W:=Walks.range (prog:=X.prog) (w:=X.w) (I.ok.hd hc) it lo 1 n;refine W.item i s _ _ hg st λv h' tk hv F' kk=>?_;obtain⟨t,rfl⟩:=hv;have I1:Inv X a_ σ H {s with heap:=h',toks:=tk}:=I.turned (λb o hb e=>kk b o (by simpa using hb) e) f0 f1 f3 f4 f5;refine⟨_,rfl,Dn (s:={s with heap:=h',toks:=tk}) (n:= "range_iterator") F' rfl rfl 0x3 ⟨.int (lo+i),H,I1,⟨t,?_⟩,⟨rfl,rfl⟩,F',λb hb=>(hf b hb).1⟩⟩;rw[ϱ]
 done:=by intro X hP hw hK hc i a_ s σ H E I hf st hg;subst hP hw hK;obtain⟨f0,f1,f2,f3,f4,f5⟩:=hf it 0x4;exact wpAny_pyNext_range_end (I.ok.hd hc) st (by have:n<=i:=hg;lia) λh' eb=>⟨rfl,I.turned (t':=s.toks) (λb o hb e=>eb b o hb e) f0 f1 f3 f4 f5⟩
 self:=λq q q q q st h=>wpAny_pyIter_rangeiter st h
section
variable{X:Cx}{tg:E!}
def Ln(K:Oe)(tl:TE):TI:=λσ H R=>tl σ H λx H1=>∃a,x=.ref a/\(∃xs,gu K H1 a xs)/\R (M5 K a) H1
def ML(K:Oe)(tl:TE):TI:=λσ H R=>tl σ H λx H1=>∃a,x=.ref a/\(∃xs,lA K H1 a xs)/\R (Nh K a) H1
def Gp{l:E!}{tl:TE}(hl:PE X l tl):PI X tg l (Ln X.K tl):=by
 intro a_ s σ H R I h;refine cf (hl a_ s σ H _ I h) λv s1 ⟨x,H1,I1,r1,q1⟩=>?_;obtain⟨a,e,⟨xs,hq⟩,q⟩:=q1;subst e;cases r1;obtain⟨D',rv,p,hz⟩:=I1.list hq;refine ñ p.isList ?_;refine⟨s1.heap.objs.size,[s1.heap.objs.size],_,_,H1,rfl,I1.kept (t':=s1.toks) λb o e=>N3 _ e,AY a _,⟨_,OC _ rfl,rfl,rfl⟩,λb hb=>?_,q⟩;have e:b=s1.heap.objs.size:=by simpa using hb
 subst e;exact I1.fpOk (N6 _) (I1.hok.fresh (N6 _))
def J2{l:E!}{tl:TE}(hl:PE X l tl):PI X tg l (ML X.K tl):=by
 intro a_ s σ H R I h;refine cf (hl a_ s σ H _ I h) λv s1 ⟨x,H1,I1,r1,q1⟩=>?_;obtain⟨a,e,⟨xs,hq⟩,q⟩:=q1;subst e;cases r1;obtain⟨D',rv,p,hz⟩:=I1.tuple hq;refine wpAny_pyIter_tuple (show s1.heap.IsTuple a D'.toArray from p) ?_;refine⟨s1.heap.objs.size,[s1.heap.objs.size],_,_,H1,rfl,I1.kept (t':=s1.toks) λb o e=>N3 _ e,yN a _,⟨_,OC _ rfl,rfl,rfl⟩,λb hb=>?_,q⟩;have e:b=s1.heap.objs.size:=by simpa using hb
 subst e;exact I1.fpOk (N6 _) (I1.hok.fresh (N6 _))
def w9{R:It->Hp->Prop}{lo hi:Int}{t u v:Tok}{tk:Nat}(I:Inv X a_ σ H s)(h1:-(2 ^ 62)<=lo)(h2:lo<2 ^ 62)(h3:-(2 ^ 62)<=hi)(h4:hi<2 ^ 62)(q:R (Lb lo (hi-lo).toNat) H):n? (p! X.prog X.w) X.A (Μ (.ref s.heap.objs.size)) (Nx X a_ σ tg R) E {s with heap:=s.heap.push {cls:=.type "range",data:=.fields #[.int lo t,.int hi u,.int 1 v]},toks:=tk}:=by
 refine wpAny_pyIter_range (IsRange.new ..) (small_one h1 h2 h3 h4) ?_;have I1:Inv X a_ σ H {s with heap:=s.heap.push {cls:=.type "range",data:=.fields #[.int lo t,.int hi u,.int 1 v]},toks:=tk}:=I.kept λb o e=>N3 _ e;refine⟨(s.heap.push {cls:=.type "range",data:=.fields #[.int lo t,.int hi u,.int 1 v]}).objs.size,[(s.heap.push {cls:=.type "range",data:=.fields #[.int lo t,.int hi u,.int 1 v]}).objs.size],_,_,H,rfl,
  I1.kept (t':=tk) λb o e=>N3 _ e,xy _ lo (hi-lo).toNat,?_,λb hb=>?_,q⟩
 ·have e1:lo+((0:Nat):Int)*1=lo:=by simp
  have e2:(((hi-lo).toNat:Nat):Int)-((0:Nat):Int)=Builtin.Range.rangeSize lo hi 1:=by rw[rangeSize_one];split <;>lia
  show IsRangeIter _ _ (lo+((0:Nat):Int)*1) ((((hi-lo).toNat:Nat):Int)-((0:Nat):Int)) 1;rw[e1,e2];exact OC _ rfl
 ·have e:b=(s.heap.push {cls:=.type "range",data:=.fields #[.int lo t,.int hi u,.int 1 v]}).objs.size:=by simpa using hb
  subst e;exact I1.fpOk (N6 _) (I1.hok.fresh (N6 _))
def Lm(ta:TA):TI:=λσ H R=>ta σ H λvs H1=>∃j:Int,vs=[.int j]/\-(2 ^ 62)<=j/\j<2 ^ 62/\R (Lb 0 j.toNat) H1
def L7(ta:TA):TI:=λσ H R=>ta σ H λvs H1=>∃i j:Int,vs=[.int i,.int j]/\(-(2 ^ 62)<=i/\i<2 ^ 62/\-(2 ^ 62)<=j/\j<2 ^ 62)/\R (Lb i (j-i).toNat) H1
variable{ce:YU}
def Bv{a:E!}{ta:TA}{p:YU}(hg:Gl X "range")(hm:X.mg "range" = b!)(ha:PA X [a] ta)(hs:n! [a] X.env=[(e!,I! a X.env)]:=by rfl):PI X tg (.Call (.Name "range" p) [a] [] ce) (Lm ta):=by
 intro a_ s σ H R I h;refine Call_ (nU I hg hm boot_range (YV (cf (ha ce a_ s σ H _ I h) λus s1 ⟨vs,H1,I1,r1,q1⟩=>?_) hs rfl));obtain⟨j,e,q1,q2,q⟩:=q1;subst e;cases r1 with
 |cons r rr=>
  cases rr;obtain⟨t,rfl⟩:=r;exact call_range_1 (w9 I1 0x1 0x1 q1 q2 (by simpa using q))
def BO{a b:E!}{ta:TA}{p:YU}(hg:Gl X "range")(hm:X.mg "range" = b!)(ha:PA X [a,b] ta)(hs:n! [a,b] X.env=[(e!,I! a X.env),(e!,I! b X.env)]:=by rfl)(QN:n! [b] X.env=[(e!,I! b X.env)]:=by rfl):
  PI X tg (.Call (.Name "range" p) [a,b] [] ce) (L7 ta):=by
 intro a_ s σ H R I h;refine Call_ (nU I hg hm boot_range (YV (cf (ha ce a_ s σ H _ I h) λus s1 ⟨vs,H1,I1,r1,q1⟩=>?_) (by rw[hs,QN]) (by rw[QN];rfl)));obtain⟨i,j,e,⟨q1,q2,q3,q4⟩,q⟩:=q1;subst e;cases r1 with
 |cons r rr=>
  cases rr with
  |cons r' rr=>
   cases rr;obtain⟨t,rfl⟩:=r;obtain⟨t',rfl⟩:=r';exact call_range_2 (w9 I1 q1 q2 q3 q4 q)
def MD(wi:TI)(g:TG)(tb:TS):TS:=λD σ H=>wi σ H λJ H1=>∃W:Nat->Nat->St->Hp->Prop,(∃m,W 0 m σ H1)/\∀i m σ H,W i m σ H ->
 (J.stop i H/\D.nx σ H)\/(J.go i H/\∃N:St->Hp->Prop,(∀c_ H',N c_ H'->∃m',m'<m/\W (i+1) m' c_ H')/\∀x H',J.yld i H x H'->g x σ H' λw_ H2=>tb {D with nx:=N,ct:=N,bk:=D.nx} w_ H2)
noncomputable def oi(fp:List c!)(h:F!):List (c!×XQ):=fp.filterMap λb=>(h.get? b).map λo=>(b,o)
variable{fp:List c!}
def i9{o:XQ}(hb:b∈fp)(e:h.get? b=a! o):(b,o)∈oi fp h:=X6.mpr ⟨b,hb,by rw[e];rfl⟩
def BG{p:c!×XQ}(hp:p∈oi fp h):p.1∈fp/\h.get? p.1=a! p.2:=by
 obtain⟨b,hb,e⟩:=X6.mp hp;cases q:h.get? b with
 |none=>rw[q]at e;cases e
 |some o=>
  rw[q]at e;have e':(b,o)=p:=OD e;subst e';exact⟨hb,q⟩
def Inv.pinned(I:Inv X a_ σ H s)(hf:∀b∈fp,pj X a_ H b)(ho:∀b∈fp,∃o,s.heap.get? b=a! o/\∀v,o.data≠.cell v):Inv X (a_++oi fp s.heap) σ H s:=I.pins_of λp hp=>(Og.mp hp).elim (λz=>I.pin p (N4 _ z)) λz=>by
  obtain⟨hb,e⟩:=BG z;obtain⟨f0,f1,f2,_⟩:=hf p.1 hb;obtain⟨o,e',d⟩:=ho p.1 hb;rw[e]at e';cases e'
  exact⟨e,f0,f1,f2,d⟩
def Inv.unpinned{pl:List (c!×XQ)}(I:Inv X (a_++pl) σ H s):Inv X a_ σ H s:=I.pins_of λp hp=>I.pin p (N4 _ (N5 _ hp))
def yk{g_:E!}{j_:List U!}{wi:TI}{g:TG}{tb:TS}(hp:Ê (p! X.prog X.w) X.A X.env X.xe)(hc:X.calm=d!)(hi:PI X tg g_ wi)(hg:PG X tg g)(hb:rO X j_ tb)(hs:∀x,W3 g_ X.env x=Xo x:=by intro _;rfl):PS X (.For tg g_ j_ [] ce) (MD wi g tb):=by
 intro a_ s σ H D I h;refine wpAny_For (cf (hi a_ s σ H _ I h) λv s1 h1=>cf h1 λVd s2 h2=>?_) hs;obtain⟨it,fp,tn,J,H2,e,I2,T,ON,f2,W,⟨m0,w0⟩,turn⟩:=h2;subst e;have Px:∀{H':Hp},(∀b∈fp,H' b=b!)->∀b∈fp,pj X a_ H' b:=λhn b hb=>⟨hn b hb,(f2 b hb).2⟩;refine codeAny_forLoop_any (λn s'=>∃i c_ H',Inv X a_ c_ H' s'/\tn i s'.heap/\(∀b∈fp,H' b=b!)/\W i n c_ H') ?_ m0 ⟨0,σ,H2,I2,ON,λb hb=>(f2 b hb).1,w0⟩;rintro n s3 ⟨i,F_,H3,I3,O9,fr3,w3⟩;obtain⟨stop,qn⟩|⟨go,N,hN,ĳ⟩:=turn i n F_ H3 w3
 ·refine Yg hp (cf (T.done X rfl rfl rfl hc i a_ s3 F_ H3 X.xe I3 (Px fr3) O9 stop) λr s4 ⟨hr,I4⟩=>?_);subst hr;exact Z6 ⟨F_,H3,I4,qn⟩
 ·refine Yg hp (cf (T.item X rfl rfl rfl hc i a_ s3 F_ H3 X.xe I3 (Px fr3) O9 go) λr s4 ⟨u,hr,h4⟩=>?_);subst hr;refine Yg hp (cf h4 λ_ s5 ⟨x,H5,I5,r5,y5,QU,fr5⟩=>?_);have TY:=I5.pinned (Px fr5) (T.obj _ _ QU);refine Yg hp (cf (hg _ s5 F_ H5 x u _ TY r5 (ĳ x H5 y5)) λ_ s6 ⟨σ6,H6,I6,q6⟩=>?_);refine Yg hp (cf (hb _ s6 σ6 H6 _ I6 q6) λf s7 q7=>?_);have again:∀{H_:St}{H7:Hp},Inv X (a_++oi fp s5.heap) H_ H7 s7->N H_ H7->∃m,m<n/\∃i c_ H',Inv X a_ c_ H' s7/\tn i s7.heap/\(∀b∈fp,H' b=b!)/\W i m c_ H':=λ{H_ H7} I7 n7=>by obtain⟨m',hm,w7⟩:=hN H_ H7 n7;refine⟨m',hm,i+1,H_,H7,I7.unpinned,T.keep _ _ _ QU λb hb o e=>(I7.pin (b,o) (N4 _ (N4 _ (i9 hb e)))).1,λb hb=>?_,w7⟩;obtain⟨o,e,d⟩:=T.obj _ _ QU b hb;exact(I7.pin (b,o) (N4 _ (N4 _ (i9 hb e)))).2.1
  cases f with
  |next=>obtain⟨H_,H7,I7,n7⟩:=q7;exact again I7 n7
  |cont=>obtain⟨H_,H7,I7,n7⟩:=q7;exact again I7 n7
  |brk=>obtain⟨H_,H7,I7,q7⟩:=q7;exact⟨H_,H7,I7.unpinned,q7⟩
  |ret v=>obtain⟨x7,H_,H7,I7,r7,q7⟩:=q7;exact⟨x7,H_,H7,I7.unpinned,r7,q7⟩
end
abbrev R2:=V->V->Hp->VK->Prop
def ti(X:Cx)(f:b?->b?->ý b?)(r:R2):Prop:=∀(a_:List (c!×XQ))(s:d?)(σ:St)(H:Hp)(x y:V)(v u:b?)(Q:VK),Inv X a_ σ H s->bG x v->bG y u->r x y H Q ->
  n? (p! X.prog X.w) X.A (f v u) (EP X a_ σ Q) X.xe s
def jZ(X:Cx)(f:b?)(r:List V->Hp->VK->Prop):Prop:=∀(a_:List (c!×XQ))(s:d?)(σ:St)(H:Hp)(xs:List V)(us:List b?)(Q:VK),Inv X a_ σ H s->aT xs us->r xs H Q ->
  n? (p! X.prog X.w) X.A (call f us) (EP X a_ σ Q) X.xe s
def MU(X:Cx)(r:V->Hp->(Bool->Hp->Prop)->Prop):Prop:=∀(a_:List (c!×XQ))(s:d?)(σ:St)(H:Hp)(x:V)(v:b?)(Q:Bool->Hp->Prop),Inv X a_ σ H s->bG x v->r x H Q ->
  n? (p! X.prog X.w) X.A (Λ v) (TP X a_ σ Q) X.xe s
def ND(r:R2)(ta tb:TE):TE:=λσ H Q=>ta σ H λx H1=>tb σ H1 λy H2=>r x y H2 Q
noncomputable def rI(C:Int->Int->Prop)(g:Int->Int->V):R2:=λx y H Q=>∃i j,x=.int i/\y=.int j/\C i j/\Q (g i j) H
noncomputable def F7(g:Int->Int->V):R2:=λx y H Q=>∃i j,x=.int i/\y=.int j/\Q (g i j) H
section
variable{X:Cx}{a b c:E!}{ta tb tc:TE}{ce:YU}
variable{f:b?->b?->ý b?}
def MJ(ha:PE X a ta)(hb:PE X b tb){R:V->V->Hp->Prop}(I:Inv X a_ σ H s)(h:ta σ H λx H1=>tb σ H1 λy H2=>R x y H2){Q:b?->d?->Prop}(hf:∀v u s2 x y H2,Inv X a_ σ H2 s2->bG x v->bG y u->R x y H2->n? (p! X.prog X.w) X.A (f v u) Q X.xe s2):
  n? (p! X.prog X.w) X.A (I! a X.env) (λv s₁=>n? (p! X.prog X.w) X.A (I! b X.env) (λu s₂=>n? (p! X.prog X.w) X.A (f v u) Q X.xe s₂) X.xe s₁) X.xe s:=by refine cf (ha a_ s σ H _ I h) λv s1 ⟨x,H1,I1,r1,q1⟩=>?_;refine cf (hb a_ s1 σ H1 _ I1 q1) λu s2 ⟨y,H2,I2,r2,q2⟩=>?_;exact hf v u s2 x y H2 I2 r1 r2 q2
def MN{C:Int->Int->Prop}{g:Int->Int->Int}(rule:∀(i j:Int)(t u:Tok)(s:d?)(Q:b?->d?->Prop)(E:b?->d?->Prop),C i j->Q (.int (g i j) s.toks) {s with toks:=s.toks+1}->n? (p! X.prog X.w) X.A (f (.int i t) (.int j u)) Q E s):
  ti X f (rI C λi j=>.int (g i j)):=by intro a_ s σ H x y v u Q I rx ry h;obtain⟨i,j,rfl,rfl,hc,q⟩:=h;obtain⟨t,rfl⟩:=rx;obtain⟨t',rfl⟩:=ry;exact rule i j t t' s _ _ hc ⟨.int (g i j),H,I.tok _,⟨_,rfl⟩,q⟩
def Lv{g:Int->Int->Int}(rule:∀(i j:Int)(t u:Tok)(s:d?)(Q:b?->d?->Prop)(E:b?->d?->Prop),Q (.int (g i j) s.toks) {s with toks:=s.toks+1}->n? (p! X.prog X.w) X.A (f (.int i t) (.int j u)) Q E s):
  ti X f (F7 λi j=>.int (g i j)):=by intro a_ s σ H x y v u Q I rx ry h;obtain⟨i,j,rfl,rfl,q⟩:=h;obtain⟨t,rfl⟩:=rx;obtain⟨t',rfl⟩:=ry;exact rule i j t t' s _ _ ⟨.int (g i j),H,I.tok _,⟨_,rfl⟩,q⟩
def He{g:Int->Int->Bool}(rule:∀(i j:Int)(t u:Tok)(s:d?)(Q:b?->d?->Prop)(E:b?->d?->Prop),Q (.bool (g i j)) s->n? (p! X.prog X.w) X.A (f (.int i t) (.int j u)) Q E s):
  ti X f (F7 λi j=>.bl (g i j)):=by intro a_ s σ H x y v u Q I rx ry h;obtain⟨i,j,rfl,rfl,q⟩:=h;obtain⟨t,rfl⟩:=rx;obtain⟨t',rfl⟩:=ry;exact rule i j t t' s _ _ ⟨.bl (g i j),H,I,rfl,q⟩
def Ma(i j:Int):Prop:=0<j/\j<1073741824
def Gu(i j:Int):Prop:=(-(2 ^ 64)<i/\i<2 ^ 64)\/(-(2 ^ 64)<j/\j<2 ^ 64)
def Gu.ok{i j:Int}(h:Gu i j):IntMulOk i j:=by
 obtain⟨h1,h2⟩|⟨h1,h2⟩:=h
 ·exact .of_left (aÉ h1 h2)
 ·exact .of_right (aÉ h1 h2)
def JM:ti X (W_ .Add) (F7 λi j=>.int (i+j)):=Lv λo o o o o o o q=>add_int q
def Kz:ti X (W_ .Sub) (F7 λi j=>.int (i-j)):=Lv λo o o o o o o q=>sub_int q
def JE:ti X (W_ .Mult) (rI Gu λi j=>.int (i*j)):=MN λo o o o o o o hc q=>mul_int q hc.ok
def Hz:ti X (W_ .FloorDiv) (rI Ma λi j=>.int (i / j)):=MN λi j o o o o o hc q=>by have h1:(0:Int)<j:=hc.1;have h2:j<1073741824:=hc.2;exact floordiv_int 0x1 (by rwa[Int.fdiv_eq_ediv_of_nonneg i 0x1]) (.inl (PyProof.noPylong_small 0x1))
def Je:ti X (W_ .Mod) (rI (λo j=>0<j) λi j=>.int (i % j)):=MN λi j o o o o o hc q=>by have h1:(0:Int)<j:=hc;exact mod_int' 0x1 (by rwa[Int.fmod_eq_emod_of_nonneg i 0x1])
end
section
variable{X:Cx}{a b c:E!}{ta tb tc:TE}{ce:YU}
def Lj:ti X (D? .Lt) (F7 λi j=>.bl (g! (i<j))):=He λo o o o o o o q=>Ö q
def L0:ti X (D? .LtE) (F7 λi j=>.bl (g! (i<=j))):=He λo o o o o o o q=>Δ q
def La:ti X (D? .Gt) (F7 λi j=>.bl (g! (j<i))):=He λo o o o o o o q=>gt_int q
def KY:ti X (D? .GtE) (F7 λi j=>.bl (g! (j<=i))):=He λo o o o o o o q=>ge_int q
def yb(b:E!){op:đ}(h:op≠.In:=by decide)(h2:op≠.NotIn:=by decide):XZ op b=e!:=by
 have e1:(op==CmpOp.In)=e!:=by cases op <;>first|rfl|exact ê rfl h
 have e2:(op==CmpOp.NotIn)=e!:=by cases op <;>first|rfl|exact ê rfl h2
 cases b <;>simp[XZ,e1,e2]
def KW(t:TE):TT:=λσ H Q=>t σ H λx H'=>∃k,x=.bl k/\Q k H'
def Hj{op:đ}{r:R2}(ho:ti X (D? op) r)(ha:PE X a ta)(hb:PE X b tb)(hm:XZ op b=e!):PT X (.Compare a [op] [b] ce) (KW (ND r ta tb)):=by
 intro a_ s σ H Q I h;refine Z9 (cf (ha a_ s σ H _ I h) λv s1 ⟨x,H1,I1,r1,q1⟩=>cf (hb a_ s1 σ H1 _ I1 q1) λu s2 ⟨y,H2,I2,r2,q2⟩=>
  cf (ho a_ s2 σ H2 x y v u _ I2 r1 r2 q2) λc s3 ⟨z,H3,I3,r3,k,e,q3⟩=>?_) hm
 subst e;cases r3;exact N? ⟨H3,I3,q3⟩
def LY(K:Oe)(x:V)(H:Hp)(k:Bool):Prop:=match x with
 |.non=>k=e!
 |.bl b=>k=b
 |.int i=>k=(i != 0)
 |.str y=>y.length<=sizeLine/\k=((y.length:Int) != 0)
 |.byt y=>y.size<=sizeLine/\k=((y.size:Int) != 0)
 |.ref p=>(∃xs,gu K H p xs/\k=!xs.isEmpty)\/(∃xs,lA K H p xs/\k=!xs.isEmpty)\/∃ca,H p=a! (.dK ca)/\k=!ca.isEmpty
 |_=>False
def yx{κ:Type}{ca:List (κ×V)}{vs:List (κ×b?)}(r:KV ca vs):(!vs.isEmpty)=!ca.isEmpty:=by cases r <;>rfl
def rK{xs:List V}{D':List b?}(r:aT xs D'):(!D'.toArray.isEmpty)=!xs.isEmpty:=by cases r <;>simp
def pY:(sizeLine:Nat)<2 ^ 63:=by rw[K!];decide
def Ja:MU X (λx H Q=>∃k,LY X.K x H k/\Q k H):=by
 intro a_ s σ H x v Q I rx h;obtain⟨k,e,q⟩:=h;have hl:=pY;have hs:sizeLine=16777216:=K!;cases x with
 |non=>
  cases rx;have e':k=e!:=e;subst e';exact truthy_none ⟨H,I,q⟩
 |bl b=>
  cases rx;have e':k=b:=e;subst e';exact N? ⟨H,I,q⟩
 |int i=>
  obtain⟨t,rfl⟩:=rx;have e':k=(i != 0):=e;subst e';exact PySem.P.truthy_int ⟨H,I,q⟩
 |str y=>
  obtain⟨t,rfl⟩:=rx;obtain⟨hy,e'⟩:y.length<=sizeLine/\k=((y.length:Int) != 0):=e;subst e';exact PySem.P.truthy_str 0x1 ⟨H,I.tok _,q⟩
 |byt y=>
  obtain⟨t,rfl⟩:=rx;obtain⟨hy,e'⟩:y.size<=sizeLine/\k=((y.size:Int) != 0):=e;subst e';exact PySem.W.truthy_bytes 0x1 ⟨H,I.tok _,q⟩
 |ref p=>
  cases rx;have e':(∃xs,gu X.K H p xs/\k=!xs.isEmpty)\/(∃xs,lA X.K H p xs/\k=!xs.isEmpty)\/∃ca,H p=a! (.dK ca)/\k=!ca.isEmpty:=e;obtain⟨xs,hx,e'⟩|⟨xs,hx,e'⟩|⟨ca,hx,e'⟩:=e'
  ·subst e';obtain⟨D',r,pl,hz⟩:=I.list hx;have f_:=r.length;exact wpAny_truthy_list pl.isList (by simp only[o!];lia) ⟨H,I.tok _,by rwa[rK r]⟩
  ·subst e';obtain⟨D',r,pl,hz⟩:=I.tuple hx;have f_:=r.length;exact truthy_tuple pl (by simp only[o!];lia) ⟨H,I.tok _,by rwa[rK r]⟩
  ·subst e';obtain⟨hz,hS,vs,r,m⟩:ca.length<=sizeLine/\(p==YS)=e!/\∃vs,KV ca vs/\s.heap.DictOf (uL X.prog X.w) p vs:=I.hok p _ hx;have f_:ca.length=vs.length:=Xs r;exact wpAny_truthy_dict hS m 0x1 ⟨H,I.tok _,by rwa[yx r]⟩
 |_=>exact(show False from e).elim
def B1(ha:PE X a ta)(he:∀m_,ą a X.env m_=(do let v <-m_;ò a.pos;ZX [v] (Λ v))):
  PT X a (λσ H Q=>ta σ H λx H'=>∃k,LY X.K x H' k/\Q k H'):=by intro a_ s σ H Q I h;exact isTrue_plain (cf (ha a_ s σ H _ I h) λv s1 ⟨x,H1,I1,r1,q1⟩=>Ja a_ s1 σ H1 x v Q I1 r1 q1) (he _)
def rE{x:V}{us:List b?}(r:aT [x] us):∃u,us=[u]/\bG x u:=by
 cases r with
 |cons r1 r2=>cases r2;exact⟨_,rfl,r1⟩
def K7{x y:V}{us:List b?}(r:aT [x,y] us):∃u w',us=[u,w']/\bG x u/\bG y w':=by
 cases r with
 |cons r1 r2=>
  cases r2 with
  |cons r3 r4=>cases r4;exact⟨_,_,rfl,r1,r3⟩
def AR(hc:X.calm=d!):jZ X (.builtin "min") (λxs H Q=>∃i j,xs=[.int i,.int j]/\Q (.int (if j<i then j else i)) H):=by
 intro a_ s σ H xs us Q I r h;obtain⟨i,j,rfl,q⟩:=h;obtain⟨u,w',rfl,⟨t,rfl⟩,⟨t',rfl⟩⟩:=K7 r;refine min_two_ints (I.ok.hd hc) λh' tk k=>⟨_,H,I.kept k,?_,q⟩;by_cases hj:j<i
 ·rw[é hj,é hj];exact⟨_,rfl⟩
 ·rw[è hj,è hj];exact⟨_,rfl⟩
def Bd:jZ X (.type "int") (λxs H Q=>(∃i,xs=[.int i]/\Q (.int i) H)\/∃k,xs=[.bl k]/\Q (.int (if k then 1 else 0)) H):=by
 intro a_ s σ H xs us Q I r h;obtain⟨i,rfl,q⟩|⟨k,rfl,q⟩:=h
 ·obtain⟨u,rfl,t,rfl⟩:=rE r;exact call_int_int ⟨.int i,H,I,⟨_,rfl⟩,q⟩
 ·obtain⟨u,rfl,r1⟩:=rE r;cases r1;exact call_int_bool ⟨.int (if k then 1 else 0),H,I.tok _,⟨_,rfl⟩,q⟩
end
structure ObjM(h:F!)(x dx C:c!)(mA:w?->Option b?):Prop where
 obj:h.get? x=a! (XI C dx)
 ns:h.Ns1 dx mA
 ne:dx≠x
set_option tactic.hygienic true in
def Bk{dx:c!}{mA:w?->Option b?}(n:h.Ns1 dx mA):∃od,h.get? dx=a! od/\∀name,ZG name od=a! (mA name):=by
 obtain⟨o,es,ep,ho,hd,hk,_,hm⟩:=n;refine⟨o,ho,λname=>?_⟩;have e:=hm name;unfold nsFind findBy at e;rw[<-Array.find?_toList]at e;unfold ZG;rw[hd];dsimp only;split
 ·rename_i y q;rw[q]at e;exact congrArg a! e
 ·rename_i q;rw[q]at e;have a:es.toList.any (·.refKey)=e!:=by rw[List.any_eq_false];intro y hy;obtain⟨z,t,P5⟩:=hk y (ZQ.mp hy);simp[DictEntry.refKey,P5]
  have a':¬es.toList.any (·.refKey)=d!:=by rw[a];exact z!
  rw[è a'];exact congrArg a! e
variable{C:c!}
def ObjM.look{x dx:c!}{mA:w?->Option b?}(I:ObjM h x dx C mA):∃od,PySem.W.InstAt h x (XI C dx) C (a! od)/\∀name,ZG name od=a! (mA name):=let⟨od,ho,hl⟩:=Bk I.ns
 ⟨od,⟨I.obj,rfl,rfl,ho⟩,hl⟩
section
variable{prog:g?}{w:q?}{A:A?}{E:b?->d?->Prop}{s:d?}{K:Oe}{x dx C f:c!}{mA:w?->Option b?}{name:w?}{v:b?}
def G8{Wr:Bool}{Q:b?->d?->Prop}(X:K.In s.heap)(I:ObjM s.heap x dx C mA)(hg:Yh K C name=d!)(hh:YJ K C=d!)(ha:E? K (.ref C) name=a! b!)(hv:mA name=a! v)(QT:ķ v=d!)(h:Q v {s with toks:=s.toks+1}):
  n? (p! prog w) A (getAttr (.ref x) name Wr) Q E s:=by obtain⟨od,J,hl⟩:=I.look;exact PySem.W.get_value X J (ZM hg).1 (PySem.W.findObj_own hh ha rfl (by rw[hl,hv])) QT h
def E7{pl:ý Bool}{Q:b?×List b?->d?->Prop}(X:K.In s.heap)(I:ObjM s.heap x dx C mA)(hg:Yh K C name=d!)(hf:E? K (.ref C) name=a! (a! (.ref f)))(ht:Zv K (.ref f)=d!)(hv:mA name=b!)(h:Q (.ref f,[.ref x]) s):
  n? (p! prog w) A (Ć (.ref x) name pl) Q E s:=by obtain⟨od,J,hl⟩:=I.look;exact PySem.W.method_fn X J (ZM hg).1 (ZM hg).2 hf (beq_iff_eq.mp ht) (by show(ZG name od).map (·.isSome)=a! e!;rw[hl,hv];rfl) h
def Gj{ns:List w?}{Q:Unit->d?->Prop}(X:K.In s.heap)(I:ObjM s.heap x dx C mA)(hs:E? K (.ref C) "__setattr__" = a! (a! (.builtin "object.__setattr__")))(hp:Zd K C=d!)(ht:Ò K C name=a! b!)(hh:YJ K C=d!)(hw:Ĕ mA ns)(hsz:ns.length<=sizeLine)(h:∀h',ObjM h' x dx C (λy=>if y=name then a! v else mA y)->Xg dx s.heap h'->Q () {s with heap:=h',toks:=s.toks+2}):
  n? (p! prog w) A (setAttr (.ref x) name v) Q E s:=by obtain⟨od,J,hl⟩:=I.look;refine PySem.W.set_plain X J hs (PySem.W.osa_open (s:={s with toks:=s.toks+1}) (r:=b!) X J hp ht λb=>?_);obtain⟨cd,hc,QB⟩:=PySem.W.any_some hh;have hx:s.heap.get? x=a! ⟨.ref C,a! dx,.plain,#[]⟩:=I.obj;refine N7 (N8 (N7 (N7 (wpAny_loadPart hx (N7 (Ϛ (s:={s with toks:=s.toks+1}) (PySem.W.looks_clsIn X hc) ?_))))));rw[QB];refine N8 (a:=a! dx) (N7 (N8 (N7 ?_)));refine wpAny_nsSet1 (s:={s with toks:=s.toks+1}) I.ns λh' Rf QN=>?_;obtain⟨oD,esD,epD,hoD,hdD,hcD⟩:=Rf.count (PySem.Within.cons name v hw);refine N7 (wpAny_lookBehind hoD (by rw[hdD];exact pastItsLine_dict (Ow hcD (by rw[i!];lia))) ?_);exact N8 (h _ ⟨(QN.2 _ (XR I.ne)).trans I.obj,Rf,I.ne⟩ QN)
def CV{R:Ρ->d?->Prop}{vs:List b?}{kw:List (w?×b?)}(X:K.In s.heap)(hm:Zy K C=d!)(hi:E? K (.ref C) "__init__" = a! (a! (.ref f)))(hf:PySem.W.typeIn K (.ref f)=a! (.type "function"))(h:Y! (p! prog w) (A.under (.builtin "type.__call__" ⟨.ref C::vs,kw⟩)) (.call (.ref f) ⟨.ref (s.heap.objs.size+1)::vs,kw⟩) (PySem.W.InitBack (s.heap.objs.size+1) R)
   {s with heap:=(s.heap.push Xl).push (XI C s.heap.objs.size)}):
  Y! (p! prog w) A (.call (.ref C) ⟨vs,kw⟩) R s:=by obtain⟨hh,g,d,t,os⟩:=s;exact PySem.W.make_core (PySem.W.makes_of X hm) (PySem.W.looks_findIn X hi) (λself=>PySem.W.bind_fn X self hf) (.inl rfl) h
end
noncomputable def gD(f:w?)(v:V):List (w?×V)->List (w?×V)
 |[]=>[(f,v)]
 |(g,x)::r=>if g=f then(g,v)::r else(g,x)::gD f v r
theorem oM(f g:w?)(v:V):∀fs:List (w?×V),(gD f v fs).lookup g=if g=f then a! v else fs.lookup g
 |[]=>by
  show XM g [(f,v)]=_;by_cases h:g=f
  ·have hb:(g==f)=d!:=beq_iff_eq.mpr h;simp only[XM,hb,é h]
  ·have hb:(g==f)=e!:=beq_eq_false_iff_ne.mpr h;simp only[XM,hb,è h]
 |(k,x)::r=>by
  have ih:=oM f g v r;rw[show gD f v ((k,x)::r)=(if k=f then(k,v)::r else(k,x)::gD f v r)from rfl];by_cases hk:k=f
  ·rw[é hk];by_cases h:g=k
   ·have hb:(g==k)=d!:=beq_iff_eq.mpr h;simp only[XM,hb,é (h.trans hk)]
   ·have hb:(g==k)=e!:=beq_eq_false_iff_ne.mpr h;simp only[XM,hb,è (λe:g=f=>h (e.trans hk.symm))]
  ·rw[è hk];by_cases h:g=k
   ·have hb:(g==k)=d!:=beq_iff_eq.mpr h;simp only[XM,hb,è (λe:g=f=>hk (h.symm.trans e))]
   ·have hb:(g==k)=e!:=beq_eq_false_iff_ne.mpr h;simp only[XM,hb];exact ih
theorem n9(f:w?)(v:V):∀fs:List (w?×V),f∈(gD f v fs).map (·.1)/\∀g,g∈fs.map (·.1)->g∈(gD f v fs).map (·.1)
 |[]=>⟨by simp[gD],λg h=>by simp at h⟩
 |(k,x)::r=>by
  obtain⟨i1,i2⟩:=n9 f v r;rw[show gD f v ((k,x)::r)=(if k=f then(k,v)::r else(k,x)::gD f v r)from rfl];by_cases hk:k=f
  ·rw[é hk];subst hk;exact⟨0x4,λg h=>by simpa using h⟩
  ·rw[è hk];refine⟨?_,λg h=>?_⟩
   ·rw[f?];exact N1 _ i1
   ·rw[f?]at h ⊢;obtain e|e:=Of.mp h
    ·exact Of.mpr (.inl e)
    ·exact N1 _ (i2 g e)
theorem oO(f:w?)(v:V):∀fs:List (w?×V),(gD f v fs).length<=fs.length+1
 |[]=>by simp[gD]
 |(k,x)::r=>by
  have ih:=oO f v r;rw[show gD f v ((k,x)::r)=(if k=f then(k,v)::r else(k,x)::gD f v r)from rfl];by_cases hk:k=f
  ·rw[é hk,i!,i!];lia
  ·rw[è hk,i!,i!];lia
def rX.some_of{v:V}{o:Option b?}(r:rX (a! v) o):∃u,o=a! u/\bG v u:=by
 cases o with
 |none=>exact(show False from r).elim
 |some u=>exact⟨u,rfl,r⟩
def rX.none_of{o:Option b?}(r:rX b! o):o=b!:=by
 cases o with
 |none=>rfl
 |some u=>exact(show False from r).elim
def AZ{v:V}(r:bG v u):ķ u=d!:=by
 cases v with
 |non=>cases(show u=D! from r);rfl
 |bl b=>cases(show u=YD b from r);rfl
 |int i=>obtain⟨t,e⟩:=(show ∃t,u=ZR i t from r);cases e;rfl
 |str x=>obtain⟨t,e⟩:=(show ∃t,u=Ô x t from r);cases e;rfl
 |byt b=>obtain⟨t,e⟩:=(show ∃t,u=ω b t from r);cases e;rfl
 |flt b=>obtain⟨t,e⟩:=(show ∃t,u=ġ b t from r);cases e;rfl
 |ref a=>cases(show u=z? a from r);rfl
 |ty n=>cases(show u=Yj n from r);rfl
section
variable{P:g?}{w:q?}{H H':Hp}{h h':F!}{a C dx:c!}{fs Rw:List (w?×V)}
def pM(hok:lV P w H h)(e:H a=a! (.ins C dx fs)):∃mA,ObjM h a dx C mA/\(∀f,rX (fs.lookup f) (mA f))/\Ĕ mA (fs.map (·.1))/\fs.length<=1000/\H dx=a! (.own a):=by obtain⟨d,z,ne,ob,mA,n,r,q⟩:=(show b8 P w H h a (.ins C dx fs)from hok a _ e);exact⟨mA,⟨ob,n,ne⟩,r,q,z,d⟩
end
structure Cls(K:Oe)(C:c!):Prop where
 pg:Yh K C ŵ=d!
 hd:YJ K C=d!
 po:Zd K C=d!
 sa:E? K (.ref C) "__setattr__" = a! (a! (.builtin "object.__setattr__"))
def Cls.get(c:Cls K C)(f:w?):Yh K C f=d!:=c.pg
def d9(K:Oe)(C:c!)(f:w?):Prop:=E? K (.ref C) f=a! b!
def d9.taker{f:w?}(n:d9 K C f):Ò K C f=a! none:=by unfold Ò;rw[show E? K (.ref C) f=a! b! from n];rfl
structure Meth(K:Oe)(C:c!)(m:w?)(f:c!):Prop where
 at_:E? K (.ref C) m=a! (a! (.ref f))
 fn:Zv K (.ref f)=d!
 kp:P! K (.ref f)=d!
section
variable{X:Cx}{a_:List (c!×XQ)}{σ:St}{H:Hp}{s:d?}{a C dx:c!}{fs:List (w?×V)}{f:w?}{v:V}{A:A?}{E:b?->d?->Prop}
def xu{b:Bool}{Q:b?->d?->Prop}(I:Inv X a_ σ H s)(e:H a=a! (.ins C dx fs))(c:Cls X.K C)(n:d9 X.K C f)(l:fs.lookup f=a! v)(h:∀u s',Inv X a_ σ H s'->bG v u->Q u s'):n? (p! X.prog X.w) A (getAttr (.ref a) f b) Q E s:=by obtain⟨mA,O,r,_,_,_⟩:=pM I.hok e;obtain⟨u,hu,ru⟩:=rX.some_of (v:=v) (o:=mA f) (by rw[<-l];exact r f);exact G8 I.kIn O (c.get f) c.hd n hu (AZ ru) (h u _ (I.tok _) ru)
def qm{m:w?}{g:c!}{pl:ý Bool}{Q:b?×List b?->d?->Prop}(I:Inv X a_ σ H s)(e:H a=a! (.ins C dx fs))(c:Cls X.K C)(k:Meth X.K C m g)(l:fs.lookup m=b!)(h:Q (.ref g,[.ref a]) s):n? (p! X.prog X.w) A (Ć (.ref a) m pl) Q E s:=by obtain⟨mA,O,r,_,_,_⟩:=pM I.hok e;have hn:mA m=b!:=rX.none_of (by rw[<-l];exact r m);exact E7 I.kIn O (c.get m) k.at_ k.fn hn h
def yj{y:V}{Q:Unit->d?->Prop}(I:Inv X a_ σ H s)(e:H a=a! (.ins C dx fs))(c:Cls X.K C)(n:d9 X.K C f)(hl:fs.length<1000)(ry:bG y u)(h:∀s',Inv X a_ σ (upd H a (.ins C dx (gD f y fs))) s'->Q () s'):n? (p! X.prog X.w) A (setAttr (.ref a) f u) Q E s:=by
 obtain⟨mA,O,r,wi,_,ho⟩:=pM I.hok e;have hz:(fs.map (·.1)).length<=sizeLine:=by rw[e?,K!];lia
 refine Gj I.kIn O c.sa c.po n.taker c.hd wi hz λh' O' sb=>h _ ?_;have hd:∃o,h'.get? dx=a! o:=let⟨o,_,_,e',_⟩:=O'.ns;⟨o,e'⟩
 refine I.write (x:=a) (e:=dx) (by rw[e];exact YG) (.inr ho) (λb q hb z=>(sb.2 b hb).trans z) hd ?_;refine⟨by rwa[aF O.ne],?_,O.ne,O'.obj,_,O'.ns,λg=>?_,λg hg=>?_⟩
 ·have:=oO f y fs;lia
 ·show rX ((gD f y fs).lookup g) (if g=f then a! u else mA g);rw[oM];by_cases q:g=f
  ·rwa[é q,é q]
  ·rw[è q,è q];exact r g
 ·by_cases q:g=f
  ·rw[q];exact(n9 f y fs).1
  ·refine(n9 f y fs).2 g (wi g λz=>hg ?_);show(if g=f then a! u else mA g)=b!;rwa[è q]
def Inv.made(I:Inv X a_ σ H s):Inv X a_ σ (upd (upd H s.heap.objs.size (.own (s.heap.objs.size+1))) (s.heap.objs.size+1) (.ins C s.heap.objs.size []))
  {s with heap:=(s.heap.push Xl).push (XI C s.heap.objs.size)}:=by
 have e1:(s.heap.push Xl).get? s.heap.objs.size=a! PySem.W.emptyDict:=OC s.heap rfl;have e2:((s.heap.push Xl).push (XI C s.heap.objs.size)).get? (s.heap.objs.size+1)=a! (XI C s.heap.objs.size):=by
  have:=OC (s.heap.push Xl) (o:=XI C s.heap.objs.size) rfl
  rwa[XC]at this
 have e3:(s.heap.push Xl).Ns s.heap.objs.size (λz=>b!):=⟨Xl,#[],_,e1,rfl,(λe he=>ê he 0x4),λz=>rfl⟩;have I1:=I.laid (a:=s.heap.objs.size) (o:=.own (s.heap.objs.size+1)) (h':=s.heap.push Xl) (t':=s.toks) (λb u q=>N3 _ q) (N6 _) ⟨_,e1⟩;refine I1.laid (a:=s.heap.objs.size+1) (o:=.ins C s.heap.objs.size []) (t':=s.toks) (λb u q=>N3 _ q) (OE (XC _ _)) ?_;have ne:s.heap.objs.size≠s.heap.objs.size+1:=OA (Xf _);refine⟨by rw[aF ne,aQ],Ov _,ne,e2,λz=>b!,(Heap.Ns1.of_empty e3).at λo q=>N3 _ q,λz=>YG,λy hy=>ê rfl hy⟩
def Hb{prog:g?}{env:ĉ}{f:w?}{ce:YU}{s:d?}{Q:b?->d?->Prop}(hb:O? e f env (I! e env)=I! e env)(h:n? (p! prog w) A (I! e env) (λo s₁=>n? (p! prog w) A (getAttr o f d!) Q E s₁) E s):n? (p! prog w) A (I! (.Attribute e f ce) env) Q E s:=Attribute_any_ h (by rw[arm_eval_Attribute,hb])
end
def MV(K:Oe)(ta:TE)(f:w?):TE:=λσ H Q=>ta σ H λx H1=>∃a C dx fs v,x=.ref a/\H1 a=a! (.ins C dx fs)/\Cls K C/\d9 K C f/\fs.lookup f=a! v/\Q v H1
def JU(K:Oe)(ta tv:TE)(f:w?):TS:=λD σ H=>tv σ H λy H1=>ta σ H1 λx H2=>∃a C dx fs,x=.ref a/\H2 a=a! (.ins C dx fs)/\Cls K C/\d9 K C f/\fs.length<1000 /\
 D.nx σ (upd H2 a (.ins C dx (gD f y fs)))
section
variable{X:Cx}{o e i_:E!}{f:w?}{ce z_ tpos:YU}{ta tv:TE}
def yQ(he:PE X e ta)(hb:O? e f X.env (I! e X.env)=I! e X.env):PE X (.Attribute e f ce) (MV X.K ta f):=by intro a_ s σ H Q I h;refine Hb hb (cf (he a_ s σ H _ I h) λu s1 ⟨x,H1,I1,rx,a,C,dx,fs,v,ex,ea,c,n,l,q⟩=>?_);subst ex;obtain rfl:u=z? a:=rx;exact xu I1 ea c n l λu' s2 I2 ru=>⟨v,H1,I2,ru,q⟩
def vp(ha:PE X o ta)(hv:PE X i_ tv)(hs:X_ i_ (a! (.Attribute o f z_)) ce.line X.env=Xo e!):PS X (.Assign [.Attribute o f z_] i_ ce) (JU X.K ta tv f):=by intro a_ s σ H D I h;refine plainObj_wpAny_Assign_Attribute (cf (hv a_ s σ H _ I h) λu s1 ⟨y,H1,I1,ry,q⟩=>cf (ha a_ s1 σ H1 _ I1 q) λov s2 ⟨x,H2,I2,rx,a,C,dx,fs,ex,ea,c,n,l,q2⟩=>?_) hs;subst ex;obtain rfl:ov=z? a:=rx;exact yj I2 ea c n l ry λs3 I3=>⟨σ,_,I3,q2⟩
def HW{pl:ý Bool}{m:w?}{h_:YU}{args:List E!}{Q:b?->d?->Prop}{te:TE}(he:PE X e te)(I:Inv X a_ σ H s)(h:te σ H λx H1=>∃a C dx fs g,x=.ref a/\H1 a=a! (.ins C dx fs)/\Cls X.K C/\Meth X.K C m g/\fs.lookup m=b! /\
   ∀s1,Inv X a_ σ H1 s1->n? (p! X.prog X.w) X.A (Ŵ ce (.ref g) [.ref a] (W2 ce (n! args X.env)) (YZ ce (XU [] X.env))) Q X.xe s1)(ht:I! (.Call (.Attribute e m h_) args [] ce) X.env=(do
   let ov <-I! e X.env
   ò h_.atName
   let(f,first) <-ZX [ov] (Ć ov m pl)
   Ŵ ce f first (W2 ce (n! args X.env)) (YZ ce (XU [] X.env)))):
  n? (p! X.prog X.w) X.A (I! (.Call (.Attribute e m h_) args [] ce) X.env) Q X.xe s:=by refine ď (pl:=pl) (cf (he a_ s σ H _ I h) λu s1 ⟨x,H1,I1,rx,a,C,dx,fs,g,ex,ea,c,k,l,q⟩=>?_) ht;subst ex;obtain rfl:u=z? a:=rx;exact qm I1 ea c k l (q s1 I1)
end
section
variable{X:Cx}{a_:List (c!×XQ)}{σ:St}{H:Hp}{s:d?}{A:A?}{E:b?->d?->Prop}{Q:b?->d?->Prop}{c:b?}{b:Bool}
inductive TyOf(K:Oe)(H:Hp):V->b?->Prop where
 |non:TyOf K H .non (.type "NoneType")
 |bl (x:Bool):TyOf K H (.bl x) (.type "bool")
 |int (i:Int):TyOf K H (.int i) (.type "int")
 |str (x:w?):TyOf K H (.str x) (.type "str")
 |flt (x:UInt64):TyOf K H (.flt x) (.type "float")
 |lst {a:c!} {xs:List V} (e:H a=a! (.lst xs)):TyOf K H (.ref a) (.type "list")
 |frz {a:c!} {o:XQ} {xs:List V} (e:H a=a! (.frz o (.lst xs))):TyOf K H (.ref a) (.type "list")
 |tup {a:c!} {xs:List V} (e:H a=a! (.tup xs)):TyOf K H (.ref a) (.type "tuple")
 |dK {a:c!} {ca:List (vt×V)} (e:H a=a! (.dK ca)):TyOf K H (.ref a) (.type "dict")
 |dT {a:c!} {ca:List (List vt×V)} (e:H a=a! (.dT ca)):TyOf K H (.ref a) (.type "dict")
 |ins {a C dx:c!} {fs:List (w?×V)} (e:H a=a! (.ins C dx fs)) (cl:Cls K C) (ha:E? K (.ref C) "__class__" = a! (a! (.builtin "object.__class__")))
   (hn:PySem.W.specialIn K (.builtin "object.__class__") "__get__" = a! (a! (.builtin "getset_descriptor.__get__"))) (U2:PySem.W.takesIn K (.builtin "object.__class__")=a! d!)
   (hm:PySem.W.mroIn K C (.type "object")=a! d!):TyOf K H (.ref a) (.ref C)
def BA{x:V}{t:b?}(I:Inv X a_ σ H s)(rx:bG x u)(ty:TyOf X.K H x t)(e:ř X.K t c=a! b)(h:∀tk,Q (.bool b) {s with toks:=tk}):
  n? (p! X.prog X.w) A (call (.builtin "isinstance") [u,c]) Q E s:=by
 cases ty with
 |non=>cases(show u=D! from rx);exact WX PySem.W.kitx_none I.kIn YG e (λz=>nomatch z) h
 |bl y=>cases(show u=YD y from rx);exact WX PySem.W.kitx_bool I.kIn YG e (λz=>nomatch z) h
 |int i=>obtain⟨t,q⟩:=(show ∃t,u=ZR i t from rx);cases q;exact WX PySem.W.kitx_int I.kIn YG e (λz=>nomatch z) h
 |str y=>obtain⟨t,q⟩:=(show ∃t,u=Ô y t from rx);cases q;exact WX PySem.W.kitx_str I.kIn YG e (λz=>nomatch z) h
 |flt y=>obtain⟨t,q⟩:=(show ∃t,u=ġ y t from rx);cases q;exact WX PySem.W.kitx_float I.kIn YG e (λz=>nomatch z) h
 |@lst a xs ea=>
  cases(show u=z? a from rx);obtain⟨_,_,n,_,h1⟩:=(show b8 X.prog X.w H s.heap a (.lst xs)from I.hok a _ ea);exact WX Ħ I.kIn ⟨_,h1,rfl⟩ e (λz=>nomatch z) h
 |@frz a ob xs ea=>
  cases(show u=z? a from rx);obtain⟨_,_,_,n,_,h1⟩:=(show b8 X.prog X.w H s.heap a (.frz ob (.lst xs))from I.hok a _ ea);exact WX Ħ I.kIn ⟨_,h1,rfl⟩ e (λz=>nomatch z) h
 |@tup a xs ea=>
  cases(show u=z? a from rx);obtain⟨_,_,_,p⟩:=(show b8 X.prog X.w H s.heap a (.tup xs)from I.hok a _ ea);obtain⟨o,h1,h2,_⟩:=p;exact WX PySem.W.kitx_tuple I.kIn ⟨o,h1,h2⟩ e (λz=>nomatch z) h
 |@dK a ca ea=>
  cases(show u=z? a from rx);obtain⟨_,_,vs,_,p⟩:=(show b8 X.prog X.w H s.heap a (.dK ca)from I.hok a _ ea);obtain⟨o,es,ep,h1,h2,_⟩:=p;exact WX ħ I.kIn ⟨o,h1,h2.1⟩ e (λz=>nomatch z) h
 |@dT a ca ea=>
  cases(show u=z? a from rx);obtain⟨_,_,xs,_,o,es,ep,h1,h2,_⟩:=(show b8 X.prog X.w H s.heap a (.dT ca)from I.hok a _ ea);exact WX ħ I.kIn ⟨o,h1,h2.1⟩ e (λz=>nomatch z) h
 |@ins a C dx fs ea cl ha hn U2 hm=>
  cases(show u=z? a from rx);obtain⟨mA,O,_⟩:=pM I.hok ea;obtain⟨od,J,_⟩:=O.look;exact WX (PySem.W.kitx_own (cl.get _) cl.hd ha hn U2 hm) I.kIn J e (λz=>nomatch z) h
end
structure Room(k:Nat)(A:A?):Prop where
 hd:A.handled=b!
 dp:A.depth+3*k+5<Ϸ
 un:A.units+16*k+200<K?
variable{k:Nat}
def Room.mono{j:Nat}(r:Room k A)(h:j<=k):Room j A:=⟨r.hd,by have:=r.dp;lia,by have:=r.un;lia⟩
def Room.deeper{k:Nat}{A:A?}(r:Room (k+1) A)(env:ĉ):Room k (A.deeper env):=⟨r.hd,by have:=r.dp;show A.depth+1+3*k+5<_;lia,by have:=r.un;show A.units+3+16*k+200<_;lia⟩
def Room.in1{k:Nat}{A:A?}(r:Room (k+1) A):Room k A.in1:=⟨r.hd,by have:=r.dp;show A.depth+3*k+5<_;lia,by have:=r.un;show A.units+1+16*k+200<_;lia⟩
variable{us:List b?}
def xC{kw:List (w?×b?)}:(A.under (.builtin "type.__call__" ⟨.ref C::us,kw⟩)).depth=A.depth+1:=by first|rfl|simp[Ē,Code.weight,Code.isCreation,Code.isGuard,Code.isCaller,Code.frames,Code.isFrame,guardIds]
def xZ{kw:List (w?×b?)}:(A.under (.builtin "type.__call__" ⟨.ref C::us,kw⟩)).units=A.units+1:=by first|rfl|simp[Ē,Code.cUnits,Code.frames,Code.isFrame]
def Room.make(r:Room (k+1) A)(C:c!)(us:List b?)(kw:List (w?×b?)):Room k (A.under (.builtin "type.__call__" ⟨.ref C::us,kw⟩)):=⟨r.hd,by have:=r.dp;rw[xC];lia,by have:=r.un;rw[xZ];lia⟩
def Room.depth{k:Nat}{A:A?}(r:Room k A):A.depth<Ϸ:=by have:=r.dp;lia
def Room.units{k:Nat}{A:A?}(r:Room k A):A.units+64<K?:=by have:=r.un;lia
def IT:TA:=λo H Q=>Q [] H
def Il(ta:TE)(tr:TA):TA:=λσ H Q=>ta σ H λx H1=>tr σ H1 λxs H2=>Q (x::xs) H2
section
variable{X:Cx}{e:E!}{es:List E!}{te:TE}{t:TA}{ce:YU}
def jS:PA X [] IT:=λo o o o H Q I h=>Zj ⟨[],H,I,.nil,h⟩
def jk(ha:PE X e te)(hr:PA X es t)(hs:n! (e::es) X.env=(e!,I! e X.env)::n! es X.env:=by rfl):PA X (e::es) (Il te t):=by intro ce a_ s σ H Q I h;rw[hs];show n? _ _ (spliced ((e!,I! e X.env)::W2 ce (n! es X.env))) _ _ s;refine X4 (cf (ha a_ s σ H _ I h) λu s1 ⟨x,H1,I1,r1,q1⟩=>?_);exact cf (hr ce a_ s1 σ H1 _ I1 q1) λus s2 ⟨xs,H2,I2,r2,q2⟩=>⟨x::xs,H2,I2,.cons r1 r2,q2⟩
def Nk(t:TA):TE:=λσ H Q=>t σ H λxs H1=>xs.length<=sizeLine/\∀p,H1 p=b!->Q (.ref p) (upd H1 p (.tup xs))
def L4(t:TA):TE:=λσ H Q=>t σ H λxs H1=>xs.length<=sizeLine/\∀p,H1 p=b!->Q (.ref p) (upd H1 p (.lst xs))
def xD{x1}(h:PA X es t):PE X (.Tuple es x1 ce) (Nk t):=by intro a_ s σ H Q I hq;refine wpAny_Tuple_spliced (cf (h ce a_ s σ H _ I hq) λus s1 ⟨xs,H1,I1,r,z,q⟩=>⟨by rwa[<-r.length],?_⟩);have hf:H1 s1.heap.objs.size=b!:=I1.hok.fresh (N6 _);refine⟨.ref s1.heap.objs.size,upd H1 s1.heap.objs.size (.tup xs),I1.laid (t':=s1.toks) (λb u e=>N3 _ e) (N6 _) ?_,rfl,q _ hf⟩;exact⟨z,us,r,⟨_,OC _ rfl,rfl,_,rfl⟩⟩
def DH(h:PA X es t):PE X (.List es ce) (L4 t):=by intro a_ s σ H Q I hq;refine wpAny_List_spliced (cf (h ce a_ s σ H _ I hq) λus s1 ⟨xs,H1,I1,r,z,q⟩=>⟨by rwa[<-r.length],?_⟩);have hf:H1 s1.heap.objs.size=b!:=I1.hok.fresh (N6 _);refine⟨.ref s1.heap.objs.size,upd H1 s1.heap.objs.size (.lst xs),I1.laid (t':=s1.toks) (λb u e=>N3 _ e) (N6 _) ?_,rfl,q _ hf⟩;exact⟨z,us,0,r,OC _ rfl⟩
end
abbrev Sp:=List V->Hp->VK->XK->Prop
abbrev Bm:=List ĉ->Hp->d?->XK->b?->d?->Prop
structure Env0(P:g?)(w:q?)(K:Oe)(mg:w?->Option b?)(base:F!)(A:A?)(bn:List ĉ)(s:d?)(H:Hp):Prop where
 frames:A.frames=a! bn
 mod:Mod K mg base
 bs:∀b o,base.get? b=a! o->s.heap.get? b=a! o/\H b=b!
 bsz:base.objs.size<=s.heap.objs.size
 funs:s.heap.FunFrames base bn
 frf:∀b∈iB bn,H b=b!
 hok:lV P w H s.heap
 bare:ZF s.gens
def CE(bn:List ĉ)(P:g?)(w:q?)(H:Hp)(s:d?)(Q:VK)(u:b?)(s':d?):Prop:=∃v H',s'.os=s.os/\ZF s'.gens/\Un (iB bn) [] H H' s.heap s'.heap/\lV P w H' s'.heap/\bG v u/\Q v H'
def CR(CX:Bm)(bn:List ĉ)(P:g?)(w:q?)(H:Hp)(s:d?)(Q:VK)(E:XK)(r:Ρ)(s':d?):Prop:=match r with
 |.ok (.ret u)=>CE bn P w H s Q u s'
 |.ok _=>False
 |.error e=>CX bn H s E e s'
structure FnOk(P:g?)(w:q?)(K:Oe)(mg:w?->Option b?)(base:F!)(CX:Bm)(k:Nat)(f:c!)(fd:W')(ps:List w?)(sp:Sp):Prop where
 len:∀vs H Q E,sp vs H Q E->vs.length=ps.length
 run:∀(A:A?)(bn:List ĉ)(s:d?)(H:Hp)(args:Args)(us:List b?)(vs:List V)(Q:VK)(E:XK),Room k A->Env0 P w K mg base A bn s H->ě s fd args (ps.zip us)->aT vs us->sp vs H Q E ->
  Y! (p! P w) A (.call (.ref f) args) (CR CX bn P w H s Q E) s
def FnOk.mono{P:g?}{w:q?}{K:Oe}{mg:w?->Option b?}{base:F!}{CX:Bm}{j k:Nat}{f:c!}{fd:W'}{ps:List w?}{sp:Sp}(F:FnOk P w K mg base CX j f fd ps sp)(h:j<=k):
  FnOk P w K mg base CX k f fd ps sp:=⟨F.len,λA bn s H args us vs Q E hr=>F.run A bn s H args us vs Q E (hr.mono h)⟩
variable{mg:w?->Option b?}{base:F!}{CX:Bm}{ps:List w?}
def FnOk.imp{f:c!}{fd:W'}{sp sp':Sp}(F:FnOk P w K mg base CX k f fd ps sp)(h:∀vs H Q E,sp' vs H Q E->sp vs H Q E):FnOk P w K mg base CX k f fd ps sp':=⟨λvs H Q E q=>F.len vs H Q E (h _ _ _ _ q),λA bn s H args us vs Q E hr he hb hv hs=>F.run A bn s H args us vs Q E hr he hb hv (h _ _ _ _ hs)⟩
def Env0.make{bn:List ĉ}(e:Env0 P w K mg base A bn s H)(C:c!)(us:List b?)(kw:List (w?×b?)):
  Env0 P w K mg base (A.under (.builtin "type.__call__" ⟨.ref C::us,kw⟩)) bn s H:=⟨by first|exact e.frames|(simpa[Ē,Code.envs,Code.isFrame,pushEnvs]using e.frames),e.mod,e.bs,e.bsz,e.funs,e.frf,e.hok,e.bare⟩
def Env0.in1{P:g?}{w:q?}{K:Oe}{mg:w?->Option b?}{base:F!}{A:A?}{bn:List ĉ}{s:d?}{H:Hp}(e:Env0 P w K mg base A bn s H):
  Env0 P w K mg base A.in1 bn s H:=⟨e.frames,e.mod,e.bs,e.bsz,e.funs,e.frf,e.hok,e.bare⟩
section
variable{X:Cx}{a_:List (c!×XQ)}{σ:St}{H:Hp}{s s':d?}
def Inv.env0(I:Inv X a_ σ H s):Env0 X.prog X.w X.K X.mg X.base X.A X.stack s H:=⟨I.ok.frames,I.ok.mod,I.bs,Ow I.ok.bsz I.sz,I.stack,I.stkFree,I.hok,I.bare⟩
def Inv.after{Q:VK}(I:Inv X a_ σ H s)(h:CE X.stack X.prog X.w H s Q u s'):EP X a_ σ Q u s':=by obtain⟨v,H',os,bare,un,hok,r,q⟩:=h;obtain⟨hh,g,d,t,Vm⟩:=s';obtain rfl:Vm=s.os:=os;exact⟨v,H',I.call (h':=hh) (g':=g) (d':=d) (t':=t) (ch:=[]) un hok bare (λb z=>ê z 0x4),r,q⟩
end
def Md(sp:Sp)(P4:List V)(E:XK)(t:TA):TE:=λσ H Q=>t σ H λvs H1=>sp (vs++P4) H1 Q E
def Lc(C:c!)(m:w?)(sp:Sp)(P4:List V)(E:XK)(ta:TE)(t:TA):TE:=λσ H Q=>ta σ H λx H1=>∃a dx fs,x=.ref a/\H1 a=a! (.ins C dx fs)/\fs.lookup m=b! /\
 t σ H1 λvs H2=>sp (x::(vs++P4)) H2 Q E
def Mh(C:c!)(sp:Sp)(P4:List V)(E:XK)(t:TA):TE:=λσ H Q=>t σ H λvs H1=>∀x dx,H1 x=b!->H1 dx=b!->dx≠x ->
 sp (.ref x::(vs++P4)) (upd (upd H1 dx (.own x)) x (.ins C dx [])) (λv H2=>v=.non/\Q (.ref x) H2) E
def gy(K:Oe)(fd:W')(ps:List w?)(ds:List b?):Prop:=∀(s:d?)(us:List b?),K.In s.heap->(us++ds).length=ps.length->ě s fd ⟨us,[]⟩ (ps.zip (us++ds))
def gy.all{fd:W'}(h:∀us:List b?,us.length=ps.length->ϻ fd ⟨us,[]⟩=Xo (ps.zip us)):gy K fd ps []:=λs us o hl=>by rw[C!]at hl ⊢;exact .of_eq (h us hl)
def jf(CX:Bm)(X:Cx)(E:XK):Prop:=∀(a_:List (c!×XQ))(σ:St)(H:Hp)(s:d?)(e:b?)(s':d?),Inv X a_ σ H s->CX X.stack H s E e s'->X.xe e s'
section
variable{X:Cx}{CX:Bm}{k:Nat}{f C:c!}{fd:W'}{ps:List w?}{sp:Sp}{P4:List V}{ds:List b?}{E:XK}{x m:w?}{p ce h_:YU}{e o:E!}{es:List E!}{ta:TE}{t:TA}
def Cf{Q:VK}{vs:List V}(F:FnOk X.prog X.w X.K X.mg X.base CX k f fd ps sp)(hr:Room k X.A)(hb:gy X.K fd ps ds)(hd:aT P4 ds)(hx:jf CX X E)(I:Inv X a_ σ H s)(r:aT vs us)(h:sp (vs++P4) H Q E):n? (p! X.prog X.w) X.A (call (.ref f) us) (EP X a_ σ Q) X.xe s:=by
 have r2:aT (vs++P4) (us++ds):=r.append hd;have hl:(us++ds).length=ps.length:=by rw[<-r2.length];exact F.len _ _ _ _ h
 refine Θ (Zl (F.run X.A X.stack s H ⟨us,[]⟩ (us++ds) (vs++P4) Q E hr I.env0 (hb s us I.kIn hl) r2 h) λr s' hq=>?_);cases r with
 |error e=>exact hx a_ σ H s e s' I hq
 |ok fl=>
  cases fl with
  |ret u=>exact I.after hq
  |next=>exact XB hq
  |brk=>exact XB hq
  |cont=>exact XB hq
def zD(F:FnOk X.prog X.w X.K X.mg X.base CX k f fd ps sp)(hr:Room k X.A)(hg:Gl X x)(hm:X.mg x=a! (.ref f))(hk:P! X.K (.ref f)=d!)(hb:gy X.K fd ps ds)(hd:aT P4 ds)(hx:jf CX X E)(ha:PA X (e::es) t)(Pt:(x==("__debug__" : w?))=e!:=by decide)(he:n! (e::es) X.env=(e!,I! e X.env)::n! es X.env:=by rfl)(OR:(W2 ce (n! es X.env)).any (·.1)=e!:=by rfl):
  PE X (.Call (.Name x p) (e::es) [] ce) (Md sp P4 E t):=by intro a_ s σ H Q I h;refine YR (pW I hg hm ?_ Pt);refine ZZ (h₀:=X.base) I.ok.mod.kin hk (cf (ha ce a_ s σ H _ I h) λus s1 ⟨vs,H1,I1,r,q⟩=>⟨I1.kIn,?_⟩) he OR;exact Cf F hr hb hd hx I1 r q
def FH{pl:ý Bool}(he:PE X o ta)(c:Cls X.K C)(hm:Meth X.K C m f)(F:FnOk X.prog X.w X.K X.mg X.base CX k f fd ps sp)(hr:Room k X.A)(hb:gy X.K fd ps ds)(hd:aT P4 ds)(hx:jf CX X E)(ha:PA X (e::es) t)(PZ:n! (e::es) X.env=(e!,I! e X.env)::n! es X.env:=by rfl)(OR:(W2 ce (n! es X.env)).any (·.1)=e!:=by rfl)(ht:I! (.Call (.Attribute o m h_) (e::es) [] ce) X.env=(do
   let ov <-I! o X.env
   ò h_.atName
   let(f,first) <-ZX [ov] (Ć ov m pl)
   Ŵ ce f first (W2 ce (n! (e::es) X.env)) (YZ ce (XU [] X.env))):=by rfl):
  PE X (.Call (.Attribute o m h_) (e::es) [] ce) (Lc C m sp P4 E ta t):=by intro a_ s σ H Q I h;refine ď (pl:=pl) (cf (he a_ s σ H _ I h) λu s1 ⟨x,H1,I1,rx,a,dx,fs,ex,ea,l,q⟩=>?_) ht;subst ex;obtain rfl:u=z? a:=rx;refine qm I1 ea c hm l ?_;refine ZZ (first:=[.ref a]) (h₀:=X.base) I.ok.mod.kin hm.kp (cf (ha ce a_ s1 σ H1 _ I1 q) λus s2 ⟨vs,H2,I2,r,q2⟩=>⟨I2.kIn,?_⟩) PZ OR;exact Cf (us:=.ref a::us) (vs:=.ref a::vs) F hr hb hd hx I2 (.cons rfl r) q2
structure Mk(K:Oe)(C f:c!):Prop where
 makes:Zy K C=d!
 init:E? K (.ref C) "__init__" = a! (a! (.ref f))
 fn:Zv K (.ref f)=d!
 kp:P! K (.ref C)=d!
def EW{Q:VK}{vs:List V}(M:Mk X.K C f)(F:FnOk X.prog X.w X.K X.mg X.base CX k f fd ps sp)(hr:Room (k+1) X.A)(hb:gy X.K fd ps ds)(hd:aT P4 ds)(hx:jf CX X E)(I:Inv X a_ σ H s)(r:aT vs us)(h:∀x dx,H x=b!->H dx=b!->dx≠x->sp (.ref x::(vs++P4)) (upd (upd H dx (.own x)) x (.ins C dx [])) (λv H2=>v=.non/\Q (.ref x) H2) E):
  n? (p! X.prog X.w) X.A (call (.ref C) us) (EP X a_ σ Q) X.xe s:=by
 have hq:=h (s.heap.objs.size+1) s.heap.objs.size (I.hok.fresh (Ľ _)) (I.hok.fresh (N6 _)) (OA (Xf _));have I2:=Inv.made (C:=C) I;have r2:aT (V.ref (s.heap.objs.size+1)::(vs++P4)) (z? (s.heap.objs.size+1)::(us++ds)):=.cons rfl (r.append hd);have hl:(z? (s.heap.objs.size+1)::us++ds).length=ps.length:=by have e:=r2.length;rw[F.len _ _ _ _ hq]at e;exact e.symm
 refine Θ (CV (f:=f) I.kIn M.makes M.init (beq_iff_eq.mp M.fn) (Zl (F.run _ X.stack _ _ ⟨z? (s.heap.objs.size+1)::us,[]⟩ (z? (s.heap.objs.size+1)::(us++ds)) _ _ E (hr.make C us [])
  (I2.env0.make C us []) (hb _ (z? (s.heap.objs.size+1)::us) I2.kIn hl) r2 hq) λr s' Ta=>?_))
 cases r with
 |error e=>exact hx a_ σ _ _ e s' I2 Ta
 |ok fl=>
  cases fl with
  |ret u=>
   obtain⟨v,H',I3,rv,ev,q3⟩:=I2.after Ta;subst ev;exact⟨rv,⟨V.ref (s.heap.objs.size+1),H',I3,rfl,q3⟩⟩
  |next=>exact XB Ta
  |brk=>exact XB Ta
  |cont=>exact XB Ta
def Ax(M:Mk X.K C f)(F:FnOk X.prog X.w X.K X.mg X.base CX k f fd ps sp)(hr:Room (k+1) X.A)(hg:Gl X x)(hm:X.mg x=a! (.ref C))(hb:gy X.K fd ps ds)(hd:aT P4 ds)(hx:jf CX X E)(ha:PA X (e::es) t)(Pt:(x==("__debug__" : w?))=e!:=by decide)(he:n! (e::es) X.env=(e!,I! e X.env)::n! es X.env:=by rfl)(OR:(W2 ce (n! es X.env)).any (·.1)=e!:=by rfl):
  PE X (.Call (.Name x p) (e::es) [] ce) (Mh C sp P4 E t):=by intro a_ s σ H Q I h;refine YR (pW I hg hm ?_ Pt);refine ZZ (h₀:=X.base) I.ok.mod.kin M.kp (cf (ha ce a_ s σ H _ I h) λus s1 ⟨vs,H1,I1,r,q⟩=>⟨I1.kIn,?_⟩) he OR;exact EW M F hr hb hd hx I1 r q
end
structure FnScope(N P:List w?)(sc:Y1):Prop where
 kind:sc.kind=.function
 co:sc.isCoroutine=e!
 gen:sc.isGenerator=e!
 nd:N.Nodup
 pre:N.take P.length=P
 par:∀x∈P,sc.names.lookup x=a! .local\/sc.names.lookup x=a! .cell
 nofree:∀y∈sc.names,y.2≠.free
theorem tR{kindOf:w?->Option Yl}{x:w?}:∀{binds:List (w?×b?)}{m:w?->Option b?},(∀v,(x,v)∉binds)->ł kindOf binds m x=m x
 |[],_,_=>rfl
 |(n,v)::r,m,h=>by
  unfold ł;rw[tR λw hw=>h w (N1 _ hw)];split
  ·have:x≠n:=by rintro rfl;exact h v N2
   simp[this]
  ·rfl
theorem tj{kindOf:w?->Option Yl}{x:w?}:∀{binds:List (w?×b?)}{m:w?->Option b?},(∀v,(x,v)∉binds)->Ń kindOf binds m x=m x
 |[],_,_=>rfl
 |(n,v)::r,m,h=>by
  unfold Ń;rw[tj λw hw=>h w (N1 _ hw)];split
  ·rfl
  ·have:x≠n:=by rintro rfl;exact h v N2
   simp[this]
theorem sY{kindOf:w?->Option Yl}{x:w?}{v:b?}:∀{P:List w?}{vs:List b?}{i:Nat}{m:w?->Option b?},P.Nodup->P[i]?=a! x->vs[i]?=a! v->kindOf x=a! .local ->
  ł kindOf (P.zip vs) m x=a! v
 |[],_,_,_,_,h,_,_=>by simp at h
 |_::_,[],_,_,_,_,h,_=>by simp at h
 |p::P,w::vs,0,m,nd,h1,h2,hk=>by
  simp at h1 h2;subst h1;subst h2
  show ł kindOf ((p,w)::P.zip vs) m p=_;unfold ł;rw[tR λv hv=>(Xn.mp nd).1 (î hv).1,é hk];simp
 |p::P,w::vs,i+1,m,nd,h1,h2,hk=>by show ł kindOf ((p,w)::P.zip vs) m x=_;unfold ł;exact sY (i:=i) (Xn.mp nd).2 (by simpa using h1) (by simpa using h2) hk
theorem tG{kindOf:w?->Option Yl}{x:w?}{v:b?}:∀{P:List w?}{vs:List b?}{i:Nat}{m:w?->Option b?},P.Nodup->P[i]?=a! x->vs[i]?=a! v->kindOf x≠a! .local ->
  Ń kindOf (P.zip vs) m x=a! v
 |[],_,_,_,_,h,_,_=>by simp at h
 |_::_,[],_,_,_,_,h,_=>by simp at h
 |p::P,w::vs,0,m,nd,h1,h2,hk=>by
  simp at h1 h2;subst h1;subst h2
  show Ń kindOf ((p,w)::P.zip vs) m p=_;unfold Ń;rw[tj λv hv=>(Xn.mp nd).1 (î hv).1,è hk];simp
 |p::P,w::vs,i+1,m,nd,h1,h2,hk=>by show Ń kindOf ((p,w)::P.zip vs) m x=_;unfold Ń;exact tG (i:=i) (Xn.mp nd).2 (by simpa using h1) (by simpa using h2) hk
noncomputable def start(N:List w?)(vs:List V):St:=vs.map a!++p? (N.length-vs.length) b!
noncomputable def fF(CX:Bm)(P:g?)(w:q?)(K:Oe)(mg:w?->Option b?)(base:F!)(N:List w?)(e_:w?)(scope:Y1)(f:c!)(cd:b?)(A:A?)(bn:List ĉ)(s:d?)(H:Hp)(E:XK):Cx where
 prog:=P
 w:=w
 K:=K
 mg:=mg
 base:=base
 A:=A.deeper (X! e_ scope s.heap.objs.size f cd)
 N:=N
 s₀:=s
 H₀:=H
 env:=X! e_ scope s.heap.objs.size f cd
 bn:=bn
 stack:=X! e_ scope s.heap.objs.size f cd::bn
 ex:=[]
 calm:=d!
 fn:=λo=>d!
 pn:=[]
 xe:=λe s'=>n? (p! P w) (A.deeper (X! e_ scope s.heap.objs.size f cd)) (leaving (X! e_ scope s.heap.objs.size f cd) e) (λo Sx=>CX bn H s E e Sx) (λe' Sx=>CX bn H s E e' Sx) s'
def xc{sc:Y1}{n:Nat}{x:w?}(h:sc.names.lookup x=a! .cell):∃c,(ϗ n sc.names []).lookup x=a! c:=by have q:=Ĉ sc.names n [] (.inl h);exact Oo.mp q
def Bj{N:List w?}{e_:w?}{scope:Y1}{f:c!}{cd:b?}{bn:List ĉ}{s1:d?}{E:XK}{vs:List V}(S:FnScope N ps scope)(hd:A.handled=b!)(e0:Env0 P w K mg base A bn s H)(hl:vs.length=ps.length)(r:aT vs us)(x:InCallC s s.heap.objs.size (ł (X! e_ scope s.heap.objs.size f cd).kindOf (ps.zip us) λo=>b!) (ϗ (s.heap.objs.size+1) scope.names []) (Ń (X! e_ scope s.heap.objs.size f cd).kindOf (ps.zip us) λo=>b!) s1):
  Inv (fF CX P w K mg base N e_ scope f cd A bn s H E) [] (start N vs) H s1:=by
 have OR:ps.length<=N.length:=by have:=congrArg ZT S.pre;rw[XA]at this;lia
 obtain⟨h1,tk,rfl,hk⟩:=x.done;have TZ:∀b:c!,b∉(fF CX P w K mg base N e_ scope f cd A bn s H E).ex:=λb z=>ê (show b∈([]:List c!)from z) 0x4;refine⟨⟨e0.mod,S.kind,rfl,rfl,N6 _,λy z c h1 h2=>?_,λy hy=>?_,λy c o h=>?_,λo=>hd,Around.frames_deeper e0.frames,.inr ⟨rfl,rfl⟩,λb z=>ê z (TZ b),e0.bs,e0.bsz,λb o o=>TZ b,λb z=>ê z (TZ b),e0.funs,e0.frf⟩,
  rfl,e0.bare,Un.kept hk,⟨_,x.toInCall.ns,λi y v h1 h2 h3=>?_⟩,λy c h=>⟨_,x.cell y c h⟩,e0.hok.fresh (N6 _),λy c h=>?_,λp hp=>ê (show p∈([]:List (c!×XQ))from hp) 0x4,e0.hok.kept hk,?_⟩
 ·exact name_of_addr x.apart (Yt h1) (Yt h2)
 ·have hy:scope.names.lookup y=a! .cell\/scope.names.lookup y=a! .free:=hy;obtain hy|hy:=hy
  ·exact xc hy
  ·exact ê rfl (S.nofree _ (Yt hy))
 ·exact Yw (x.above y c (Yt h))
 ·have hi:i<vs.length:=by
   unfold start at h2;by_cases hi:i<vs.length
   ·exact hi
   ·rw[w! (by simpa using hi)]at h2;rw[XX]at h2;split at h2 <;>cases h2
  have ha:vs[i]?=a! v:=by
   unfold start at h2;rw[F? (by simpa using hi),M?]at h2;cases e:vs[i]? with
   |none=>rw[e]at h2;cases h2
   |some a=>rw[e]at h2;cases h2;rfl
  obtain⟨u,hu,rv⟩:=r.get ha;have hp:ps[i]?=a! y:=by rwa[<-S.pre,List.getElem?_take_of_lt 0x1]
  have ndP:ps.Nodup:=by rw[<-S.pre];exact S.nd.sublist (Zo _ _)
  refine⟨u,rv,?_⟩;obtain k|k:=S.par y (Q! hp)
  ·exact .inl ⟨k,sY ndP hp hu k⟩
  ·obtain⟨c,e⟩:=xc (n:=s.heap.objs.size+1) k;refine .inr ⟨.inl k,c,e,?_⟩;have q:=x.cell y c e;rwa[tG ndP hp hu (by show scope.names.lookup y≠_;rw[k];decide)]at q
 ·exact e0.hok.fresh (Yw (x.above y c (Yt h)))
 ·unfold start;show _=N.length;rw[l!,e?,WZ];lia
def E4{f:c!}{name e_:w?}{M_:Arguments}{j_:List U!}{scope:Y1}{dV kV s_ pm OJ ct oc:b?}{an od:Option c!}{QY:Array (Option b?)}{N:List w?}{sp:Sp}(lk:K.lookup f=a! ⟨oc,od,.func (W7 name e_ M_ j_ scope dV kV s_ pm an OJ ct),QY⟩)(QG:XS K OJ e_=d!)(S:FnScope N ps scope)(len:∀vs H Q E,sp vs H Q E->vs.length=ps.length)(Rm:∀(A:A?)(bn:List ĉ)(s:d?)(H:Hp)(vs:List V)(Q:VK)(E:XK),Room k (A.deeper (X! e_ scope s.heap.objs.size f OJ))->sp vs H Q E ->
   ∃t,rO (fF CX P w K mg base N e_ scope f OJ A bn s H E) j_ t/\t {nx:=λz H'=>Q .non H',rt:=Q} (start N vs) H):
  FnOk P w K mg base CX (k+1) f (W7 name e_ M_ j_ scope dV kV s_ pm an OJ ct) ps sp:=by
 refine⟨len,λA bn s H args us vs Q E hr e0 hb r Qc=>?_⟩;have hl:=len _ _ _ _ Qc;have KX:K.In s.heap:=e0.mod.kin.keeps λb o e=>(e0.bs b o e).1;have lim:s.heap.NoLimit:=e0.mod.nolimit.keeps λb o e=>(e0.bs b o e).1;have Ub:∀y∈ps.zip us,scope.names.lookup y.1=a! .local\/(scope.names.lookup y.1=a! .cell/\((ϗ (s.heap.objs.size+1) scope.names []).lookup y.1).isSome=d!):=λ⟨n,v⟩ hy=>by
  obtain q|q:=S.par n (î hy).1
  ·exact .inl q
  ·exact .inr ⟨q,Ĉ _ _ _ (.inl q)⟩
 refine codeAny_call_function hr.depth (KX _ _ lk) rfl S.co S.gen rfl (PySem.W.codeRec_of KX QG) (hb _ _ _ _ ?_);refine wpAny_newFunctionEnv_cells S.kind Ub λenv he s1 x=>?_;subst he;refine⟨lim.keeps x.toInCall.keep,codeAny_func ?_⟩;obtain⟨t,ht,hq⟩:=Rm A bn s H vs Q E (hr.deeper _) Qc;have I:Inv (fF CX P w K mg base N e_ scope f OJ A bn s H E) [] (start N vs) H s1:=Bj S hr.hd e0 hl r x;refine Xy (ht [] s1 (start N vs) H _ I hq) (λfl s' hs=>?_) λe s' hs=>hs;have fin:∀{c_:St}{H':Hp}{v:V}{u:b?},Inv (fF CX P w K mg base N e_ scope f OJ A bn s H E) [] c_ H' s'->bG v u->Q v H'->CE bn P w H s Q u s':=
  λ{c_ H' v u} J rv q=>⟨v,H',J.os,J.bare,J.base,J.hok,rv,q⟩
 cases fl with
 |ret u=>
  obtain⟨v,c_,H',J,rv,q⟩:=hs;exact fin J rv q
 |next=>
  obtain⟨c_,H',J,q⟩:=hs;exact fin (v:=V.non) (u:=D!) J rfl q
 |brk=>
  obtain⟨_,_,_,q⟩:=hs;exact XB q
 |cont=>
  obtain⟨_,_,_,q⟩:=hs;exact XB q
section
variable{X:Cx}{x:w?}{p ce:YU}{e:E!}{es:List E!}{t:TA}{id T:String}{r:List V->Hp->VK->Prop}
def Nt(r:List V->Hp->VK->Prop)(t:TA):TE:=λσ H Q=>t σ H λvs H1=>r vs H1 Q
def vW(hc:jZ X (.builtin id) r)(hg:Gl X x)(hm:X.mg x=b!)(hv:H! x=a! (.builtin id))(ha:PA X (e::es) t)(hn:x ≠"__name__" :=by decide)(Pt:(x==("__debug__" : w?))=e!:=by decide)(he:n! (e::es) X.env=(e!,I! e X.env)::n! es X.env:=by rfl)(OR:(W2 ce (n! es X.env)).any (·.1)=e!:=by rfl):PE X (.Call (.Name x p) (e::es) [] ce) (Nt r t):=by intro a_ s σ H Q I h;refine YR (nU I hg hm hv ?_ hn Pt);exact ZS (cf (ha ce a_ s σ H _ I h) λus s1 ⟨vs,H1,I1,r1,q1⟩=>hc a_ s1 σ H1 vs us Q I1 r1 q1) he OR
def tP(hc:jZ X (.type T) r)(hg:Gl X x)(hm:X.mg x=b!)(hv:H! x=a! (.type T))(ha:PA X (e::es) t)(hn:x ≠"__name__" :=by decide)(Pt:(x==("__debug__" : w?))=e!:=by decide)(he:n! (e::es) X.env=(e!,I! e X.env)::n! es X.env:=by rfl)(OR:(W2 ce (n! es X.env)).any (·.1)=e!:=by rfl):PE X (.Call (.Name x p) (e::es) [] ce) (Nt r t):=by intro a_ s σ H Q I h;refine YR (nU I hg hm hv ?_ hn Pt);exact YV (cf (ha ce a_ s σ H _ I h) λus s1 ⟨vs,H1,I1,r1,q1⟩=>hc a_ s1 σ H1 vs us Q I1 r1 q1) he OR
end
end L2
namespace HT
open PySem PyProof.Rows
noncomputable def lexLt:List Int->List Int->Bool
 |[],[]=>e!
 |[],_::_=>d!
 |_::_,[]=>e!
 |x::xs,y::ys=>if x=y then lexLt xs ys else g! (x<y)
def lexLt_cons(x y:Int)(xs ys:List Int):lexLt (x::xs) (y::ys)=if x=y then lexLt xs ys else g! (x<y):=rfl
section
open PySem.SeqAt
open PySem.AutoSeq1 (wpAny_loadPart')
open PySem.MeetsSeq PySem.MeetsSeq2 PySem.MeetsSeq3
end
section
variable{prog:g?}{w:q?}{A:A?}{E:b?->d?->Prop}{s:d?}
def cat_tup{t b:c!}{vs ws:List b?}{Q:b?->d?->Prop}(ht:ϑ s.heap t vs.toArray)(hb:ϑ s.heap b ws.toArray)(hv:vs≠[])(h1:ws=[]->Q (.ref t) s)(h2:ws≠[]->Q (.ref s.heap.objs.size) {s with heap:=s.heap.push {cls:=.type "tuple",data:=.seq (vs++ws).toArray}})(hsz:vs.length+ws.length<=sizeLine):n? (p! prog w) A (W_ .Add (.ref t) (.ref b)) Q E s:=by
 obtain⟨⟨cls,dd,data,sl⟩,ho,hc,n,hd⟩:=id ht;obtain⟨⟨Ua,QA,data2,Qq⟩,Tq,We,n2,Th⟩:=id hb;simp only at hc hd We Th;subst hc hd We Th;have e:vs.toArray++ws.toArray=(vs++ws).toArray:=by simp
 by_cases hw:ws=[]
 ·exact ŗ ⟨_,ho,rfl⟩ ⟨_,Tq,rfl⟩ Ą Ĵ Zx Zm (Zg _ _)
   (tuple_addW1 t b vs.toArray ws.toArray n n2 dd QA sl Qq (by simpa using hv) (by simp[hw])) ⟨ho,Tq,h1 hw⟩
 ·refine ŗ ⟨_,ho,rfl⟩ ⟨_,Tq,rfl⟩ Ą Ĵ Zx Zm (Zg _ _)
   (tuple_addW2 t b vs.toArray ws.toArray n n2 dd QA sl Qq (by simpa using hv) (by simpa using hw) (by rwa[o!,o!])) ⟨ho,Tq,?_⟩
  rw[e];exact h2 hw
noncomputable def sIx(n d:Nat):Option Int->Nat
 |none=>d
 |some v=>if v<0 then(v+(n:Int)).toNat else min v.toNat n
end
end HT
namespace L2
open PySem PySem.Spec PyProof.Rows
abbrev TO:=St->Hp->(Option Int->Hp->Prop)->Prop
def PO(X:Cx)(e:Option E!)(t:TO):Prop:=∀(a_:List (c!×XQ))(s:d?)(σ:St)(H:Hp)(Q:Option Int->Hp->Prop),Inv X a_ σ H s->t σ H Q ->
  n? (p! X.prog X.w) X.A (evalPart e X.env) (λu s'=>∃o H',Inv X a_ σ H' s'/\IsPart u o/\Q o H') X.xe s
noncomputable def HI:TO:=λo H Q=>Q b! H
noncomputable def LR(t:TE):TO:=λσ H Q=>t σ H λx H1=>∃i,x=.int i/\Q (a! i) H1
def yR{ns:List Int}:∀{us:List b?},aT (ns.map V.int) us->Zn us ns:=by
 induction ns with
 |nil=>intro us r;rw[Xi]at r;cases r;exact .nil
 |cons n ns ih=>
  intro us r;rw[f?]at r;cases r with
  |cons r1 r2=>
   obtain⟨t,e⟩:=r1;subst e;exact .cons n t (ih r2)
section
variable{X:Cx}{e:E!}{te:TE}{lo hi:Option E!}{tl th:TO}{ce p2:YU}
def zT:PO X b! HI:=by intro a_ s σ H Q I h;rw[aÊ];exact N8 ⟨b!,H,I,.none,h⟩
def AI(h:PE X e te):PO X (a! e) (LR te):=by intro a_ s σ H Q I hw;rw[evalPart_some];refine cf (h a_ s σ H _ I hw) λu s1 ⟨x,H1,I1,r1,q1⟩=>?_;obtain⟨i,rfl,q⟩:=q1;obtain⟨t,rfl⟩:=r1;exact⟨a! i,H1,I1,.int i t,q⟩
def Nr(X:Cx)(r:V->Option Int->Option Int->Hp->VK->Prop):Prop:=∀(a_:List (c!×XQ))(s:d?)(σ:St)(H:Hp)(x:V)(v vl vu:b?)(lo hi:Option Int)(sl:c!)(Q:VK),Inv X a_ σ H s->bG x v->s.heap.IsSliceOf sl vl vu .none->IsPart vl lo->IsPart vu hi->r x lo hi H Q ->
  ∃T id,typeLookup (.type T) "__getitem__" = Xo (a! (.builtin id))/\s.TypeIs v T/\n? (p! X.prog X.w) X.A (Ŗ v (.ref sl)) (EP X a_ σ Q) X.xe s
def NM(r:V->Option Int->Option Int->Hp->VK->Prop)(te:TE)(tl th:TO):TE:=λσ H Q=>te σ H λx H1=>tl σ H1 λl H2=>th σ H2 λu H3=>r x l u H3 Q
def vF{r:V->Option Int->Option Int->Hp->VK->Prop}(hr:Nr X r)(he:PE X e te)(hl:PO X lo tl)(hu:PO X hi th):PE X (.Subscript e (.Slice lo hi b! p2) ce) (NM r te tl th):=by intro a_ s σ H Q I h;refine ε (cf (he a_ s σ H _ I h) λv s1 ⟨x,H1,I1,r1,q1⟩=>?_);refine wpAny_Slice (cf (hl a_ s1 σ H1 _ I1 q1) λvl s2 ⟨l,H2,I2,pl,q2⟩=>cf (hu a_ s2 σ H2 _ I2 q2) λvu s3 ⟨u,H3,I3,pu,q3⟩=>?_);rw[aÊ];refine N8 ?_;have I4:Inv X a_ σ H3 {s3 with heap:=s3.heap.push {cls:=.type "slice",data:=.fields #[vl,vu,.none]}}:=I3.kept (t':=s3.toks) λb ob q=>N3 _ q;obtain⟨T,id,hT,ht,hg⟩:=hr a_ {s3 with heap:=s3.heap.push {cls:=.type "slice",data:=.fields #[vl,vu,.none]}} σ H3 x v vl vu l u s3.heap.objs.size Q I4 r1 (Heap.IsSliceOf.new ..) pl pu q3;show n? (p! X.prog X.w) X.A (Ļ e (.Slice lo hi b! p2) v (.ref s3.heap.objs.size)) (EP X a_ σ Q) X.xe {s3 with heap:=s3.heap.push {cls:=.type "slice",data:=.fields #[vl,vu,.none]}};exact tail_any (ops:=[.ref s3.heap.objs.size,v]) ht hT hg (by with_unfolding_all rfl)
noncomputable def Bb(xs:List V)(lo hi:Option Int):List V:=(xs.drop (HT.sIx xs.length 0 lo)).take (HT.sIx xs.length xs.length hi-HT.sIx xs.length 0 lo)
def v5(xs:List V)(lo hi:Option Int):(Bb xs lo hi).length<=xs.length:=by unfold Bb;rw[XA,List.length_drop];lia
def LP(K:Oe):R2:=λx y H Q=>∃a b xs ys,x=.ref a/\y=.ref b/\lA K H a xs/\lA K H b ys/\xs≠[]/\xs.length+ys.length<=sizeLine /\
 (ys=[]->Q (.ref a) H)/\(ys≠[]->∀p,H p=b!->Q (.ref p) (upd H p (.tup (xs++ys))))
def aT.nil_iff{xs:List V}{us:List b?}(r:aT xs us):us=[]↔xs=[]:=by
 cases r with
 |nil=>simp
 |cons _ _=>simp
def Gs:ti X (W_ .Add) (LP X.K):=by intro a_ s σ H x y v u Q I rx ry h;obtain⟨a,b,xs,ys,rfl,rfl,ha,hb,hx,hz,q1,q2⟩:=h;cases rx;cases ry;obtain⟨D',r1,p1,_⟩:=I.tuple ha;obtain⟨PN,r2,p2,_⟩:=I.tuple hb;refine HT.cat_tup p1 p2 (λz=>hx (r1.nil_iff.mp z)) (λz=>⟨.ref a,H,I,rfl,q1 (r2.nil_iff.mp z)⟩) (λz=>?_) (by rwa[<-r1.length,<-r2.length]);refine⟨.ref s.heap.objs.size,_,I.laid (t':=s.toks) (o:=.tup (xs++ys)) (λb ob q=>N3 _ q) (N6 _) ?_,rfl,q2 (λw=>z (r2.nil_iff.mpr w)) _ (I.hok.fresh (N6 _))⟩;exact⟨by rwa[l!],_,r1.append r2,IsTup.new _ _⟩
end
noncomputable def HE(n:Nat)(i:Int):Option Nat:=if 0<=i then(if i<n then a! i.toNat else b!)else if -(n:Int)<=i then a! (i+n).toNat else b!
def atI{α:Type}(xs:List α)(i:Int):Option α:=(HE xs.length i).bind λj=>xs[j]?
variable{n:Nat}
def GJ{i:Int}{j:Nat}(h:HE n i=a! j):seqIndex? i n=a! j/\j<n/\-(n:Int)<=i/\i<n:=by
 unfold HE at h;by_cases h0:0<=i
 ·rw[é h0]at h;by_cases h1:i<n
  ·rw[é h1]at h;have e:i.toNat=j:=OD h;exact⟨by rw[seqIndex_of h0 h1,e],0x1,0x1,h1⟩
  ·rw[è h1]at h;cases h
 ·rw[è h0]at h;by_cases h1:-(n:Int)<=i
  ·rw[é h1]at h;have e:(i+n).toNat=j:=OD h;exact⟨by rw[seqIndex_neg 0x1 h1,e],0x1,h1,0x1⟩
  ·rw[è h1]at h;cases h
def ue{α:Type}{xs:List α}{i:Int}{v:α}(h:atI xs i=a! v):∃j,seqIndex? i xs.length=a! j/\xs[j]?=a! v/\j<xs.length/\-(xs.length:Int)<=i/\i<xs.length:=by
 unfold atI at h;cases e:HE xs.length i with
 |none=>rw[e]at h;cases h
 |some j=>
  rw[e]at h;obtain⟨h1,h2,h3,h4⟩:=GJ e;exact⟨j,h1,h,h2,h3,h4⟩
def kR(b:E!):Prop:=∀o i,Ų b e! o i=operate [o,i] (Ŗ o i)
def Hu(X:Cx)(r:R2):Prop:=∀(i_ k_:E!)(a_:List (c!×XQ))(s:d?)(σ:St)(H:Hp)(x y:V)(v u:b?)(Q:VK),Inv X a_ σ H s->bG x v->bG y u->r x y H Q ->
  Ų k_ e! v u=operate [v,u] (Ŗ v u)->n? (p! X.prog X.w) X.A (Ļ i_ k_ v u) (EP X a_ σ Q) X.xe s
def Na(X:Cx)(id:String)(r:V->List V->Hp->VK->Prop):Prop:=∀(a_:List (c!×XQ))(s:d?)(σ:St)(H:Hp)(x:V)(xs:List V)(v:b?)(us:List b?)(Q:VK),Inv X a_ σ H s->bG x v->aT xs us->r x xs H Q ->
  n? (p! X.prog X.w) X.A (call (.builtin id) (v::us)) (EP X a_ σ Q) X.xe s
section
variable{X:Cx}{a b:E!}{ta tb:TE}{ce:YU}
def Hu.or{r r':R2}(h:Hu X r)(h':Hu X r'):Hu X (λx y H Q=>r x y H Q\/r' x y H Q):=by
 intro i_ k_ a_ s σ H x y v u Q I rx ry q hs;obtain q|q:=q
 ·exact h i_ k_ a_ s σ H x y v u Q I rx ry q hs
 ·exact h' i_ k_ a_ s σ H x y v u Q I rx ry q hs
def Ij{r:R2}(hr:Hu X r)(ha:PE X a ta)(hb:PE X b tb)(hs:kR b):PE X (.Subscript a b ce) (ND r ta tb):=by intro a_ s σ H Q I h;exact ε (MJ ha hb I h λv u s2 x y H2 I2 rx ry q=>hr a b a_ s2 σ H2 x y v u Q I2 rx ry q (hs _ _))
def Mc(K:Oe):R2:=λx y H Q=>∃p xs i v,x=.ref p/\y=.int i/\gu K H p xs/\atI xs i=a! v/\Q v H
def Mo(K:Oe):R2:=λx y H Q=>∃p xs i v,x=.ref p/\y=.int i/\lA K H p xs/\atI xs i=a! v/\Q v H
def L8:R2:=λx y H Q=>∃z i c,x=.str z/\y=.int i/\z.length<=sizeLine/\atI z.cps.toList i=a! c/\Q (.str ⟨#[c]⟩) H
def Hg:Hu X (Mc X.K):=by
 intro i_ k_ a_ s σ H x y v u Q I rx ry h hs;obtain⟨p,xs,i,z,rfl,rfl,hq,he,q⟩:=h;cases rx;obtain⟨t,rfl⟩:=ry;obtain⟨D',r,pl,hz⟩:=I.list hq;obtain⟨j,h1,h2,h3,h4,h5⟩:=ue he;obtain⟨w,ew,Uk⟩:=r.get h2;have hl:=r.length;have hn:=pY;have fin:EP X a_ σ Q w s:=⟨z,H,I,Uk,q⟩;by_cases h0:0<=i
 ·have hj:i.toNat=j:=by rw[seqIndex_of h0 h5]at h1;exact OD h1
  exact item_listR pl.isList h0 0x1 (by rw[hj];simpa using ew) fin hs
 ·have hj:(i+(D'.toArray.size:Int)).toNat=j:=by rw[seqIndex_neg 0x1 h4]at h1;rw[o!,<-hl];exact OD h1
  exact Ţ (x:=w) pl.isList.typeIs τ.lookup
   (wpAny_getItem_list_neg (Q:=λr s'=>r=w/\EP X a_ σ Q r s') pl.isList 0x1 (by rw[o!] <;>lia) 0x1 (by rw[hj];simpa using ew) ⟨rfl,fin⟩) hs
def IQ:Hu X (Mo X.K):=by
 intro i_ k_ a_ s σ H x y v u Q I rx ry h hs;obtain⟨p,xs,i,z,rfl,rfl,hq,he,q⟩:=h;cases rx;obtain⟨t,rfl⟩:=ry;obtain⟨D',r,pl,hz⟩:=I.tuple hq;obtain⟨j,h1,h2,h3,h4,h5⟩:=ue he;obtain⟨w,ew,Uk⟩:=r.get h2;have hl:=r.length;have hn:=pY;have fin:EP X a_ σ Q w s:=⟨z,H,I,Uk,q⟩;exact Ţ (x:=w) pl.typeIs slot_tuple_getitem.lookup
  (getItem_tuple (j:=j) (Q:=λr s'=>r=w/\EP X a_ σ Q r s') pl 0x1 0x1 (by rwa[o!,<-hl]) (by simpa using ew) ⟨rfl,fin⟩) hs
def JJ:Hu X L8:=by
 intro i_ k_ a_ s σ H x y v u Q I rx ry h hs;obtain⟨z,i,c,rfl,rfl,hz,he,q⟩:=h;obtain⟨t,rfl⟩:=rx;obtain⟨t',rfl⟩:=ry;obtain⟨j,h1,h2,h3,h4,h5⟩:=ue he;have hl:z.cps.toList.length=z.length:=by simp[Str.length]
 rw[hl]at h1 h4 h5;have hn:=pY;exact tail_any (typeIs_str s z t) slot_str_getitem.lookup (getItem_str (c:=c) (by have e1:g! (i < -(2 ^ 63:Int))=e!:=Oy 0x1;have e2:g! (i>=2 ^ 63)=e!:=Oy 0x1;rw[e1,e2,ι]) (by rw[h1];simpa using h2) ⟨.str ⟨#[c]⟩,H,I.tok _,⟨_,rfl⟩,q⟩) hs
def NQ(K:Oe):R2:=λx y H Q=>Mc K x y H Q\/Mo K x y H Q\/L8 x y H Q
def Cv:Hu X (NQ X.K):=Hg.or (IQ.or JJ)
def Inv.lst{a_:List (c!×XQ)}{σ:St}{H:Hp}{s:d?}{p:c!}{xs:List V}(I:Inv X a_ σ H s)(h:H p=a! (.lst xs)):
  ∃(D':List b?)(n:Nat),aT xs D'/\s.heap.get? p=a! {cls:=.type "list",data:=.seq D'.toArray n}/\xs.length<=sizeLine:=by obtain⟨z,D',n,r,e⟩:=I.hok p _ h;exact⟨D',n,r,e,z⟩
def vo(lo hi:Option Int)(n:Nat):(Za lo hi b! n).1=((HT.sIx n 0 lo:Nat):Int)/\(Za lo hi b! n).2.1=((HT.sIx n n hi:Nat):Int)/\(Za lo hi b! n).2.2=1:=by
 refine⟨?_,?_,rfl⟩
 ·cases lo with
  |none=>simp[Za,HT.sIx]
  |some i=>
   simp only[Za,HT.sIx,ŋ,show(1:Int)>0 by decide,if_true];by_cases h:i<0
   ·simp only[h,if_true] <;>lia
   ·simp only[h,if_false] <;>lia
 ·cases hi with
  |none=>simp[Za,HT.sIx]
  |some i=>
   simp only[Za,HT.sIx,ŋ,show(1:Int)>0 by decide,if_true];by_cases h:i<0
   ·simp only[h,if_true] <;>lia
   ·simp only[h,if_false] <;>lia
def sr(D':List b?)(lo hi:Option Int):slicePick D'.toArray lo hi b!=((D'.drop (HT.sIx D'.length 0 lo)).take (HT.sIx D'.length D'.length hi-HT.sIx D'.length 0 lo)).toArray:=by obtain⟨h1,h2,h3⟩:=vo lo hi D'.toArray.size;unfold slicePick;rw[h1,h2,h3];simp only[sliceRange_one,pick_run,o!] <;>rfl
def Mp(K:Oe):V->Option Int->Option Int->Hp->VK->Prop:=λx lo hi H Q=>∃a xs,x=.ref a/\gu K H a xs/\∀p,H p=b!->Q (.ref p) (upd H p (.lst (Bb xs lo hi)))
def zH:Nr X (Mp X.K):=by intro a_ s σ H x v vl vu lo hi sl Q I rx hs pl pu h;obtain⟨a,xs,rfl,hx,q⟩:=h;cases rx;obtain⟨D',r,ht,hz⟩:=I.list hx;have f_:=r.length;refine⟨"list",_,τ.lookup,ht.isList.typeIs,?_⟩;refine wpAny_getItem_list_slice ht.isList hs pl pu .none 0x4 ?_ (by rw[o!] <;>lia);rw[sr,<-f_];refine⟨.ref s.heap.objs.size,_,I.laid (t':=s.toks) (o:=.lst (Bb xs lo hi)) (λb ob q=>N3 _ q) (N6 _) ?_,rfl,q _ (I.hok.fresh (N6 _))⟩;exact⟨Ow (v5 xs lo hi) hz,_,0,(r.drop (HT.sIx xs.length 0 lo)).take (HT.sIx xs.length xs.length hi-HT.sIx xs.length 0 lo),OC _ rfl⟩
def mG:jZ X (.builtin "len") (λxs H Q=>∃p ys,xs=[.ref p]/\(gu X.K H p ys\/lA X.K H p ys)/\Q (.int ys.length) H):=by
 intro a_ s σ H xs us Q I r h;obtain⟨p,ys,rfl,hq,q⟩:=h;obtain⟨u,rfl,rx⟩:=rE r;cases rx;have hn:=pY;obtain hq|hq:=hq
 ·obtain⟨D',r',pl,hz⟩:=I.list hq;have f_:=r'.length;exact Calls.call_len_list pl.isList (by simp only[o!] <;>lia) ⟨.int ys.length,H,I.tok _,⟨s.toks+1,by rw[o!,f_]⟩,q⟩
 ·obtain⟨D',r',pl,hz⟩:=I.tuple hq;have f_:=r'.length;exact len_tuple pl (by simp only[o!] <;>lia) ⟨.int ys.length,H,I.tok _,⟨s.toks+1,by rw[o!,f_]⟩,q⟩
def t6:jZ X (.type "list") (λxs H Q=>∃p ys,xs=[.ref p]/\(gu X.K H p ys\/lA X.K H p ys)/\∀l,H l=b!->Q (.ref l) (upd H l (.lst ys))):=by
 intro a_ s σ H xs us Q I r h;obtain⟨p,ys,rfl,hq,q⟩:=h;obtain⟨u,rfl,rx⟩:=rE r;cases rx;have fin:∀(D':List b?),aT ys D'->ys.length<=sizeLine->∀(h':F!)(c':Nat),(∀b o',s.heap.get? b=a! o'->h'.get? b=a! o') ->
   h'.get? s.heap.objs.size=a! {cls:=.type "list",dict:=b!,data:=.seq D'.toArray c',slots:=#[]}->EP X a_ σ Q (.ref s.heap.objs.size) {s with heap:=h'}:=λD' r' hz h' c' kp e=>
  ⟨.ref s.heap.objs.size,_,I.laid (t':=s.toks) kp (N6 _) (show b8 X.prog X.w _ h' _ (.lst ys)from⟨hz,D',c',r',e⟩),rfl,q _ (I.hok.fresh (N6 _))⟩
 obtain hq|hq:=hq
 ·obtain⟨D',r',pl,hz⟩:=I.list hq;have f_:=r'.length;obtain⟨o,ho,hc,n,hd⟩:=pl.isList;exact aÌ p (.inl rfl) ho hc hd (λh' c' kp e=>fin D' r' hz h' c' kp e) (by simp only[o!] <;>lia)
 ·obtain⟨D',r',pl,hz⟩:=I.tuple hq;have f_:=r'.length;obtain⟨o,ho,hc,n,hd⟩:=pl;exact aÌ p (.inr rfl) ho hc hd (λh' c' kp e=>fin D' r' hz h' c' kp e) (by simp only[o!] <;>lia)
def rW:jZ X (.type "tuple") (λxs H Q=>∃p ys,xs=[.ref p]/\((gu X.K H p ys/\∀l,H l=b!->Q (.ref l) (upd H l (.tup ys)))\/(lA X.K H p ys/\Q (.ref p) H))):=by
 intro a_ s σ H xs us Q I r h;obtain⟨p,ys,rfl,h⟩:=h;obtain⟨u,rfl,rx⟩:=rE r;cases rx;obtain⟨hq,q⟩|⟨hq,q⟩:=h
 ·obtain⟨D',r',pl,hz⟩:=I.list hq;have f_:=r'.length;refine call_tuple_list pl.isList (λh' kp=>?_) (by simp only[o!] <;>lia);have I1:Inv X a_ σ H {s with heap:=h'}:=I.kept (t':=s.toks) kp;have I2:Inv X a_ σ (upd H h'.objs.size (.tup ys)) {s with heap:=h'.push {cls:=.type "tuple",data:=.seq D'.toArray}}:=
   I1.laid (t':=s.toks) (λb o e=>N3 _ e) (N6 _) (show b8 X.prog X.w _ _ _ (.tup ys)from⟨hz,D',r',IsTup.new _ _⟩)
  exact⟨.ref h'.objs.size,_,I2,rfl,q _ (I1.hok.fresh (N6 _))⟩
 ·obtain⟨D',r',pl,hz⟩:=I.tuple hq;exact call_tuple_same pl ⟨.ref p,H,I,rfl,q⟩
def NC(K:Oe)(T:String)(x:V)(H:Hp):Prop:=match x with
 |.str _=>T = "str"
 |.int _=>T = "int"
 |.ref p=>(T = "list" /\∃xs,gu K H p xs)\/(T = "tuple" /\∃o,K.lookup p=a! o/\o.cls=.type "tuple" /\o.dict=b!) \/
   (T = "dict" /\((∃ca,H p=a! (.dK ca))\/∃ca,H p=a! (.dT ca)))\/(T = "set" /\∃S n,H p=a! (.set S n))
 |_=>False
def J7{a_:List (c!×XQ)}{σ:St}{H:Hp}{s:d?}{T:String}{x:V}{v:b?}(I:Inv X a_ σ H s)(r:bG x v)(ty:NC X.K T x H):
  s.TypeIs v T/\∀a,v=.ref a->∃ob,s.heap.get? a=a! ob/\ob.dict=b!:=by
 cases x with
 |str z=>
  obtain⟨t,rfl⟩:=r;cases(show T = "str" from ty);exact⟨typeIs_str s z t,λq e=>nomatch e⟩
 |int i=>
  obtain⟨t,rfl⟩:=r;cases(show T = "int" from ty);exact⟨Κ s i t,λq e=>nomatch e⟩
 |ref p=>
  cases r;obtain⟨rfl,xs,hq⟩|⟨rfl,o,hk,hc,hd⟩|⟨rfl,hk⟩|⟨rfl,S,n,hk⟩:=ty
  ·obtain⟨D',_,pl,_⟩:=I.list hq;refine⟨pl.isList.typeIs,λa e=>?_⟩;cases e;obtain⟨o,n,e,c,hd,_⟩:=pl;exact⟨o,e,hd⟩
  ·refine⟨⟨o,I.kIn p o hk,hc⟩,λa e=>?_⟩;cases e;exact⟨o,I.kIn _ o hk,hd⟩
  ·have z:∃o,s.heap.get? p=a! o/\o.ExactDict:=by
    obtain⟨ca,hk⟩|⟨ca,hk⟩:=hk
    ·obtain⟨_,_,_,_,o,_,_,e,ex,_⟩:=I.hok p _ hk;exact⟨o,e,ex⟩
    ·obtain⟨_,_,_,_,o,_,_,e,ex,_⟩:=I.hok p _ hk;exact⟨o,e,ex⟩
   obtain⟨o,e,ex⟩:=z;refine⟨⟨o,e,ex.1⟩,λa e2=>?_⟩;cases e2;exact⟨o,e,ex.2.1⟩
  ·obtain⟨o,_,_,_,e,ex,_⟩:=I.hok p _ hk;refine⟨⟨o,e,ex.1⟩,λa e2=>?_⟩;cases e2;exact⟨o,e,ex.2.1⟩
 |_=>exact XB ty
def Nw(K:Oe)(T:String)(r:V->List V->Hp->VK->Prop)(to:TE)(t:TA):TE:=λσ H Q=>to σ H λx H1=>NC K T x H1/\t σ H1 λxs H2=>r x xs H2 Q
variable{o e:E!}{es:List E!}{to:TE}{t:TA}{name:w?}{h_ M':YU}{T id:String}{r:V->List V->Hp->VK->Prop}
def vB(pa:PlainAttrs T)(slot:Slot T name id)(hty:typeOf (.builtin id)=Xo (.type "method_descriptor"))(hm:Na X id r)(ho:PE X o to)(ha:PA X (e::es) t)(O8:O? o name X.env (I! o X.env)=I! o X.env:=by rfl)(Pf:((W2 M' (n! (e::es) X.env)).all (λx=>!x.1)&&(YZ M' (XU [] X.env)).all (λx=>x.1.isSome)
   &&g! ((e::es).length+([]:List YL).length+(if([]:List YL).isEmpty then 0 else 1)<30))=d!:=by rfl)(O7:(h_.endLine==M'.line)=d!:=by rfl)(hs:n! (e::es) X.env=(e!,I! e X.env)::n! es X.env:=by rfl)(OT:(W2 M' (n! es X.env)).any (·.1)=e!:=by rfl):
  PE X (.Call (.Attribute o name h_) (e::es) [] M') (Nw X.K T r to t):=by intro a_ s σ H Q I h;refine wpAny_Call_method_late O8 Pf O7 rfl (cf (ho a_ s σ H _ I h) λv s1 ⟨x,H1,I1,r1,ty,q1⟩=>?_);obtain⟨h1,h2⟩:=J7 I1 r1 ty;refine⟨T,id,pa,slot,hty,h1,h2,?_⟩;have hA:=ha M' a_ s1 σ H1 _ I1 q1;rw[hs]at hA ⊢;refine Zz (by show(e!||(W2 M' (n! es X.env)).any (·.1))=e!;rw[OT] <;>rfl) (Y2 ?_);exact cf hA λus s2 ⟨vs,H2,I2,r2,q2⟩=>hm a_ s2 σ H2 x vs v us Q I2 r1 r2 q2
end
def NF(X:Cx)(id:String)(r:V->List V->Hp->VK->Prop):Prop:=∀(a_:List (c!×XQ))(s:d?)(σ:St)(H:Hp)(x:V)(xs:List V)(v:b?)(us:List b?)(Q:VK),Inv X a_ σ H s->bG x v->aT xs us->r x xs H Q ->
  n? (p! X.prog X.w) X.A (call (.builtin id) (v::us)) (EP X a_ σ Q) X.xe s
def aT.one:∀{x:V}{us:List b?},aT [x] us->∃u,us=[u]/\bG x u
 |_,_,.cons r .nil=>⟨_,rfl,r⟩
def aT.two:∀{x y:V}{us:List b?},aT [x,y] us->∃u v,us=[u,v]/\bG x u/\bG y v
 |_,_,_,.cons r (.cons q .nil)=>⟨_,_,rfl,r,q⟩
def aT.zero:∀{us:List b?},aT [] us->us=[]
 |_,.nil=>rfl
theorem aT.eraseIdx:∀{xs:List V}{us:List b?}(i:Nat),aT xs us->aT (xs.eraseIdx i) (us.eraseIdx i)
 |_,_,_,.nil=>.nil
 |_,_,0,.cons _ t=>t
 |_,_,i+1,.cons r t=>.cons r (aT.eraseIdx i t)
def aT.reverse{xs:List V}{us:List b?}(h:aT xs us):aT xs.reverse us.reverse:=by
 induction h with
 |nil=>exact .nil
 |cons r t ih=>rw[Ì,Ì];exact aT.append ih (.cons r .nil)
theorem aT.rep{xs:List V}{us:List b?}(h:aT xs us):∀k:Nat,aT (p? k xs).flatten (p? k us).flatten
 |0=>.nil
 |k+1=>by rw[J!,J!,x?,x?];exact aT.append h (aT.rep h k)
theorem sE{α:Type}:∀(l:List α)(i:Nat),(l.eraseIdx i).length<=l.length
 |[],_=>N6 _
 |_::_,0=>Ľ _
 |_::r,i+1=>Nat.succ_le_succ (sE r i)
theorem tM(D':List b?):∀(k:Nat)(acc:List b?),
  Ő (λx1 x2=>x1++x2) acc.toArray (p? k D'.toArray)=(acc++(p? k D').flatten).toArray
 |0,acc=>by simp
 |k+1,acc=>by
  have e:acc.toArray++D'.toArray=(acc++D').toArray:=by simp
  have e2:(acc++D')++(p? k D').flatten=acc++(p? (k+1) D').flatten:=by rw[J!,x?,t?]
  rw[<-e2,<-tM D' k (acc++D'),<-e,J!,Xb]
section
variable{X:Cx}{a_:List (c!×XQ)}{σ:St}{H:Hp}{s:d?}{l b:c!}{xs ys zs:List V}
def Inv.lset{D' its':List b?}{f:Array b?->Array b?}{t':Nat}(I:Inv X a_ σ H s)(hH:H l=a! (.lst xs))(e:s.heap.get? l=a! {cls:=.type "list",data:=.seq D'.toArray n})(hf:f D'.toArray=its'.toArray)(hv:aT ys its')(hz:ys.length<=sizeLine):
  Inv X a_ σ (upd H l (.lst ys)) {s with heap:=s.heap.update l (W5 f),toks:=t'}:=by have q:=PySem.IsL.update e f;rw[hf]at q;refine I.write (x:=l) (e:=l) (by rw[hH];exact trivial) (.inl rfl) (λb' u hb hu=>(Xv s.heap (W5 f) (XR hb)).trans hu) ⟨_,q⟩ ?_;exact⟨hz,its',_,hv,q⟩
def Inv.lnew{D':List b?}{t':Nat}(I:Inv X a_ σ H s)(hv:aT ys D')(hz:ys.length<=sizeLine):
  Inv X a_ σ (upd H s.heap.objs.size (.lst ys)) {s with heap:=s.heap.push {cls:=.type "list",data:=.seq D'.toArray},toks:=t'}:=
 I.laid (λo o q=>N3 _ q) (N6 _) ⟨hz,D',0,hv,OC _ rfl⟩
def Inv.fresh(I:Inv X a_ σ H s):H s.heap.objs.size=b!:=I.hok.fresh (N6 _)
def Inv.lstM(I:Inv X a_ σ H s)(hH:H l=a! (.lst xs)):xs.length<=sizeLine/\∃(D':List b?)(n:Nat),aT xs D'/\xs.length=D'.length/\s.heap.get? l=a! {cls:=.type "list",data:=.seq D'.toArray n}:=by obtain⟨z,D',n,r,e⟩:=I.hok l _ hH;exact⟨z,D',n,r,r.length,e⟩
def vT(h:n<=sizeLine):Ye n=e!:=by unfold Ye;exact Oy 0x1
end
section
variable{X:Cx}
def zp:V->List V->Hp->VK->Prop:=λx vs H Q=>∃l xs y,x=.ref l/\vs=[y]/\H l=a! (.lst xs)/\xs.length<sizeLine/\Q .non (upd H l (.lst (xs++[y])))
def tm:NF X "list.append" zp:=by intro a_ s σ H x vs v us Q I rx rv h;obtain⟨l,xs,y,rfl,rfl,hH,hz,q⟩:=h;cases rx;obtain⟨u,rfl,ru⟩:=rv.one;obtain⟨z,D',n,r,hl,e⟩:=I.lstM hH;refine ZY F.slot_list_append ⟨_,e,rfl⟩ F.entry_list_append (F.args_list_append_2 _ _) (PySem.list_append l D'.toArray n u (by rw[o!];lia)) ⟨e,?_⟩;refine⟨.non,_,I.lset (its':=D'++[u]) hH e 0x4 (r.append (.cons ru .nil)) ?_,rfl,q⟩;rw[l!,Yc];lia
def zQ:V->List V->Hp->VK->Prop:=λx vs H Q=>∃l b xs zs,x=.ref l/\vs=[.ref b]/\H l=a! (.lst xs)/\H b=a! (.lst zs)/\xs.length+zs.length<=sizeLine/\Q .non (upd H l (.lst (xs++zs)))
def Br:NF X "list.extend" zQ:=by
 intro a_ s σ H x vs v us Q I rx rv h;obtain⟨l,b,xs,zs,rfl,rfl,hH,hB,hz,q⟩:=h;cases rx;obtain⟨u,rfl,ru⟩:=rv.one;cases ru;obtain⟨z,D',n,r,hl,e⟩:=I.lstM hH;obtain⟨z2,PN,n2,r2,TQ,e2⟩:=I.lstM hB;have hsz:D'.toArray.size+PN.toArray.size<=sizeLine:=by rw[o!,o!];lia
 have Rb:¬(!D'.toArray.isEmpty&&Ye (D'.toArray.size+PN.toArray.size))=d!:=by rw[vT hsz,YQ];exact z!
 refine ZY F.slot_list_extend ⟨_,e,rfl⟩ F.entry_list_extend (F.args_list_extend_2 _ _)
  (AutoSeq1.list_extend_list_list_0 l D'.toArray n b PN.toArray n2 Rb (by rw[o!];lia) 0x1) ⟨e,e2,?_⟩
 refine⟨.non,_,I.lset (its':=D'++PN) hH e 0x4 (r.append r2) ?_,rfl,q⟩;rw[l!];lia
def M0:R2:=λx y H Q=>∃l b xs zs,x=.ref l/\y=.ref b/\H l=a! (.lst xs)/\H b=a! (.lst zs)/\xs.length+zs.length<=sizeLine/\∀p,H p=b!->Q (.ref p) (upd H p (.lst (xs++zs)))
def JO:ti X (W_ .Add) M0:=by
 intro a_ s σ H x y v u Q I rx ry h;obtain⟨l,b,xs,zs,rfl,rfl,hH,hB,hz,q⟩:=h;cases rx;cases ry;obtain⟨z,D',n,r,hl,e⟩:=I.lstM hH;obtain⟨z2,PN,n2,r2,TQ,e2⟩:=I.lstM hB;refine PySem.P.add_list e e2 ?_ (by rw[o!,o!];lia);have ea:D'.toArray++PN.toArray=(D'++PN).toArray:=by simp
 rw[ea];exact⟨.ref _,_,I.lnew (t':=s.toks) (r.append r2) (by rw[l!];lia),rfl,q _ I.fresh⟩
def M7:R2:=λx y H Q=>∃l k xs,x=.ref l/\y=.int k/\H l=a! (.lst xs)/\-(2 ^ 63)<=k/\k<2 ^ 63/\xs.length*k.toNat<=sizeLine /\
 ∀p,H p=b!->Q (.ref p) (upd H p (.lst (p? k.toNat xs).flatten))
def HH{α:Type}(xs:List α)(k:Nat):(p? k xs).flatten.length=k*xs.length:=by
 induction k with
 |zero=>simp
 |succ k ih=>rw[J!,x?,l!,ih,Nat.succ_mul,Nat.add_comm]
def IK:ti X (W_ .Mult) M7:=by
 intro a_ s σ H x y v u Q I rx ry h;obtain⟨l,k,xs,rfl,rfl,hH,h1,h2,hz,q⟩:=h;cases rx;obtain⟨t,rfl⟩:=ry;obtain⟨z,D',n,r,hl,e⟩:=I.lstM hH;have f_:D'.toArray.size*k.toNat<=sizeLine:=by rwa[o!,<-hl]
 have VV:¬D'.toArray.size*k.toNat>(2 ^ 63-1) / 8:=by
  have:(sizeLine:Nat)<=(2 ^ 63-1) / 8:=by decide
  lia
 have WT:¬(!Ϫ k)=d!:=by rw[fitsIndex_both h1 h2];exact z!
 have Rb:¬Ye (D'.toArray.size*k.toNat)=d!:=by rw[vT f_];exact z!
 have Rr:Ő (λx1 x2=>x1++x2) #[] (p? (if D'.toArray.isEmpty=d! then 0 else k.toNat) D'.toArray)=(p? k.toNat D').flatten.toArray:=by
  have f0:∀m:Nat,Ő (λx1 x2=>x1++x2) #[] (p? m D'.toArray)=(p? m D').flatten.toArray:=λm=>by have:=tM D' m [];rwa[YF]at this
  rw[f0];cases D' with
  |nil=>simp
  |cons a r'=>rw[è 0x4]
 refine wpAny_binaryOp_repeat_ref (T:= "list") (U:= "int") 0x3 ⟨_,e,rfl⟩ (λs'=>Κ s' k t) noFill_list_mul F.fills_int_mul F.slot_int_rmul repeat_list F.slot_int_index.lookup
  (ZY F.slot_int_rmul (Κ s k t) F.entry_int_rmul (F.args_int_rmul_2 _ _) (int___rmul___int_list k t l D'.toArray n)
   ⟨e,rfl,⟨_,e,rfl⟩,ZY F.slot_list_mul ⟨_,e,rfl⟩ F.entry_list_mul (F.args_list_mul_2 _ _) (AutoListH.list___mul___list_int_3 l D'.toArray n k t WT VV Rb) ⟨e,?_⟩⟩)
 rw[Rr];exact⟨.ref _,_,I.lnew (t':=s.toks) (r.rep k.toNat) (by rwa[HH,ϡ]),rfl,q _ I.fresh⟩
end
section
variable{prog:g?}{w:q?}{A:A?}{E:b?->d?->Prop}{s:d?}
set_option maxRecDepth 100000 in
end
end L2
namespace Att
open PySem PySem.W PySem.Calls PyProof.Rows
def pC{P:Τ}{h:F!}:∀(ns:List Int)(vs:List b?),WellAll P h vs (ns.map WData.int)->Zn vs ns:=by
 intro ns
 induction ns with
 |nil=>
  intro vs w;rw[Xi]at w;cases w;exact .nil
 |cons n ns ih=>
  intro vs w;rw[f?]at w;cases w with
  |cons a b=>
   cases a;exact .cons _ _ (ih _ b)
def Ba{l:Zr}{n:Nat}(hn:l.most=a! n){P:Τ}{h:F!}{args:List WData}{N_:List b?}(PD:l.row.toRowW.claim.pre args=d!)(T8:WellAll P h N_ args):
  ∃a vs ns,N_=[z? a]/\args=[WData.list (ns.map WData.int)]/\h.get? a=a! {cls:=.type "list",data:=.seq vs.toArray}/\Zn vs ns/\ns.length<=n:=by
 have hsh:WShape.hasAll [] args [.list .int]=d!:=(pre_splitW PD).1;have hc:l.pre.holds [] {args:=args}=d!:=(pre_splitW PD).2;obtain⟨d,r,rfl,h1,h2⟩:=hasAllW_cons hsh;obtain rfl:=hasAllW_nil h2;obtain⟨xs,rfl,h3⟩:=hasW_list h1;obtain⟨ns,rfl⟩:=items_int h3;have f_:ns.length<=n:=by
  unfold OpenLaw.pre at hc;have h4:(WTm.not (.lt (.lit (.int (n:Int))) (.len (.arg 0)))).holds [] {args:=[.list (ns.map .int)]}=d!:=by have h4:=(holds_andW hc).1;rwa[hn]at h4
  have h5:=condW_of h4 (w_not (w_lt w_lit (w_len_list (w_arg rfl))));rw[e?]at h5;refine Nat.le_of_not_lt λq=>?_;have q':(n:Int)<((ns.length:Nat):Int):=by lia
  first
   |(rw[Oz q']at h5;exact ê h5 0x3)
   |(simp at h5;lia)
 cases T8 with
 |cons w1 w2=>
  cases w2;cases w1 with
  |list ho Pd=>exact⟨_,_,ns,rfl,rfl,ho,pC ns _ Pd,f_⟩
def AQ(l:Zr)(args:List WData):l.row.toRowW.claim.post args (.bool d!) args=d!:=postW_of (r:=l.row.toRowW) (X:=(d!==d!))
  (show WShape.has [] (.bool d!) .bool=d! by first|rfl|decide|simp[WShape.has,WShape.arms,WShape.armsAll])
  (show(WTm.eq .res (.lit (.bool d!))).value [] {args:=args,res:=a! (.bool d!),after:=args}=a! (.bool (d!==d!))from w_eq_bool (w_res rfl) w_lit) rfl
def attach_call{l:Zr}{n:Nat}{q:g?}{q_:List w?}{XP:(w?->Option b?)->F!->Prop}{YP:q?->F!->Prop}{d:DefRec}(hn:l.most=a! n)(Uj:d.params.defaults=[])(call:∀(w:q?)(s₀ s₁:d?)(mg mb:w?->Option b?)(fa:c!)(o:XQ)(pm cd s_:b?)(a:c!)(vs:List b?)(ns:List Int),
   Ground q q_ [] XP w s₀ mg mb s₁.heap->YP w s₁.heap ->
   s₁.heap.get? fa=a! o->o.data=.func (docDef d.name d.params d.body d.scope pm cd s_)->s₁.heap.CodeRec cd d.name->mg d.name=a! (.ref fa) ->
   s₁.heap.get? a=a! {cls:=.type "list",data:=.seq vs.toArray}->Zn vs ns->ns.length<=n->s₁.gens=#[] ->
   Y! (p! l.prog w) õ (.call (.ref fa) ⟨[.ref a],[]⟩) (λr s'=>r=.ok (.ret (.bool d!))/\OldK s₁.heap s'.heap/\s'.os=s₁.os/\ZF s'.gens) s₁):
  ß q q_ XP YP l.row.toRowW d [] (λf vs=>ĵ f vs):=by intro w s₀ s₁ mg mb G Y fa o pm cd s_ dV kV ho hd QG hD Ud hg args N_ as PD TR hrd T8 Qt;obtain rfl:dV=.none:=Dflts.none hD Uj;obtain rfl:kV=.none:=Dflts.noKw hD;obtain⟨a,vs,ns,rfl,rfl,SO,K_,f_⟩:=Ba hn PD T8;refine enter_call (Zl (call w s₀ s₁ mg mb fa o pm cd s_ a vs ns G Y ho (fd_plain hd) QG Ud SO K_ f_ hg) λr s' hq=>?_);obtain⟨rfl,h2,h3,h4⟩:=hq;exact⟨.inl ⟨.bool d!,.bool d!,[],rfl,λz=>rfl,.bool d!,AQ l _,λz=>⟨S?,λz hm=>(nomatch hm)⟩⟩,h2,h3,h4⟩
end Att
namespace L2
open PySem PySem.Spec PyProof.Rows
theorem gK:∀{vs:List b?}{ns:List Int},Zn vs ns->aT (ns.map V.int) vs
 |_,_,.nil=>.nil
 |_,_,.cons n t h=>.cons ⟨t,rfl⟩ (gK h)
def Js(H:Hp):Prop:=∀b,H b=b!\/∃o xs,H b=a! (.frz o (.lst xs))
variable{k:Nat}{fd:W'}{x:w?}
def ET{P:g?}{w:q?}{K:Oe}{mg mb:w?->Option b?}{CX:Bm}{fa a:c!}{sp:Sp}{s₁:d?}{vs:List b?}{ns:List Int}(KX:K.In s₁.heap)(Su:s₁.heap.Ns O! mg)(hb:s₁.heap.Ns Ξ mb)(hbb:∀x:w?,x ≠"__name__" ->mb x=H! x)(WL:s₁.heap.NoLimit)(hg:s₁.gens=#[])(ha:s₁.heap.get? a=a! {cls:=.type "list",data:=.seq vs.toArray})(hi:Zn vs ns)(hl:ns.length<=sizeLine)(hr:Room k õ)(F:∀base:F!,K.In base->base.Ns O! mg->FnOk P w K mg base CX k fa fd [x] sp)(Uo:∀(s:d?)(u:b?),ě s fd ⟨[u],[]⟩ [(x,u)])(Qc:∀H:Hp,Js H->gu K H a (ns.map V.int)->sp [.ref a] H (λv j=>v=.bl d!) λj j j=>False)(Vg:∀H e s',CX [] H s₁ (λj j j=>False) e s'->False):
  Y! (p! P w) õ (.call (.ref fa) ⟨[.ref a],[]⟩) (λr s'=>r=.ok (.ret (.bool d!))/\OldK s₁.heap s'.heap/\s'.os=s₁.os/\ZF s'.gens) s₁:=by
 have rv:=gK hi;have Wa:=hi.length;have TU:∀H:Hp,Js H->gu K H a (ns.map V.int)->lV P w H s₁.heap->(∀b,H b≠b!->b=a)->(H a≠b!->K.lookup a=b!) ->
   Y! (p! P w) õ (.call (.ref fa) ⟨[.ref a],[]⟩) (λr s'=>r=.ok (.ret (.bool d!))/\OldK s₁.heap s'.heap/\s'.os=s₁.os/\ZF s'.gens) s₁:=by
  intro H hO hS hok hA hK;have QP:∀{b:c!}{o:XQ},s₁.heap.get? b=a! o->H b=b!->(uQ s₁.heap H).get? b=a! o:=λe n=>CH e n;have TZ:∀{b:c!}{o:XQ}{es:Array ϛ}{ep:Nat},s₁.heap.get? b=a! o->o.data=.dict es ep->H b=b!:=λ{b o es ep} e d=>by
   cases q:H b with
   |none=>rfl
   |some u=>
    have e':b=a:=hA b (by rw[q];simp);subst e';rw[ha]at e;cases e
    have d':Data.seq vs.toArray _=Data.dict es ep:=d;cases d'
  have U':∀{b:c!}{m:w?->Option b?},s₁.heap.Ns b m->(uQ s₁.heap H).Ns b m:=λ{b m} ⟨o,es,ep,e,d,r⟩=>⟨o,es,ep,QP e (TZ e d),d,r⟩;have hKb:K.In (uQ s₁.heap H):=λb o e=>QP (KX b o e) (by
   cases q:H b with
   |none=>rfl
   |some u=>
    have e':b=a:=hA b (by rw[q];simp);subst e';rw[hK (by rw[q];simp)]at e;cases e)
  have hM:Mod K mg (uQ s₁.heap H):=⟨hKb,U' Su,⟨mb,U' hb,hbb⟩,let⟨mc,h1,h2⟩:=WL;⟨mc,U' h1,h2⟩⟩;have e0:Env0 P w K mg (uQ s₁.heap H) õ [] s₁ H:=⟨rfl,hM,λb o e=>GR e,OE (BD _ _),trivial,λb hb=>ê (show b∈([]:List c!)from hb) 0x4,hok,.of_eq hg⟩;refine Zl ((F _ hKb (U' Su)).run õ [] s₁ H ⟨[.ref a],[]⟩ [.ref a] [.ref a] _ _ hr e0 (Uo s₁ (.ref a)) (.cons rfl .nil) (Qc H hO hS)) λr s' h=>?_;cases r with
  |error e=>exact(Vg H e s' h).elim
  |ok fl=>
   cases fl with
   |next=>exact XB h
   |brk=>exact XB h
   |cont=>exact XB h
   |ret u=>
    obtain⟨v,H',os,bare,un,V6,r',q⟩:=h;have q':v=.bl true:=q;subst q';obtain rfl:u=YD true:=r';refine⟨rfl,OldK.of_keep λb o e=>?_,os,bare⟩;cases q:H b with
    |none=>exact un.keep b o e q (by intro z;exact ê (show b∈([]:List c!)from z) 0x4) 0x4
    |some u=>
     obtain z|⟨ob,xs,z⟩:=hO b
     ·rw[q]at z;cases z
     ·have z2:=un.frzs b ob _ z;obtain⟨e1,_⟩:=hok b _ z;obtain⟨e2,_⟩:=V6 b _ z2;rw[e]at e1;cases e1
      exact e2
 cases hk:K.lookup a with
 |some o=>
  have e:=KX a o hk;rw[ha]at e;cases e;refine TU (λj=>b!) (λj=>.inl rfl) (.inr ⟨_,vs.toArray,_,hk,rfl,rfl,rfl,by rwa[o!,Wa],by simpa using rv⟩) (λb u z=>by have z':(b!:Option HO)=a! u:=z;cases z') (λb z=>ê rfl z) λz=>ê rfl z
 |none=>
  refine TU (λb=>if b=a then a! (.frz {cls:=.type "list",data:=.seq vs.toArray} (.lst (ns.map V.int)))else b!) (λb=>?_) (.inl (.inr ⟨{cls:=.type "list",data:=.seq vs.toArray},é rfl⟩)) (λb u z=>?_) (λb z=>?_) λj=>hk
  ·by_cases hb:b=a
   ·exact .inr ⟨_,_,é hb⟩
   ·exact .inl (è hb)
  ·by_cases hb:b=a
   ·have z':=(é hb).symm.trans z;cases z';subst hb;exact⟨ha,by rwa[e?],vs,_,rv,ha⟩
   ·have z':=(è hb).symm.trans z;cases z'
  ·by_cases hb:b=a
   ·exact hb
   ·exact ê (è hb) z
def walk_of{l:Zr}{n:Nat}{q:g?}{q_:List w?}{XP:(w?->Option b?)->F!->Prop}{YP:q?->F!->Prop}{d:DefRec}{K:Τ->Oe}{CX:q?->Bm}{sp:q?->Sp}(hn:l.most=a! n)(Rf:n<=sizeLine)(Uj:d.params.defaults=[])(hr:Room k õ)(hY:∀(w:q?)(h:F!),YP w h->(K w.params).In h)(F:∀(w:q?)(mg:w?->Option b?)(fa:c!)(h:F!),(K w.params).In h->h.Ns O! mg->mg d.name=a! (.ref fa) ->
   ∃fd:W',(∀(s:d?)(u:b?),ě s fd ⟨[u],[]⟩ [(x,u)]) /\
    ∀base:F!,(K w.params).In base->base.Ns O! mg->FnOk l.prog w (K w.params) mg base (CX w) k fa fd [x] (sp w))(Qc:∀(w:q?)(H:Hp)(a:c!)(ns:List Int),ns.length<=n->Js H->gu (K w.params) H a (ns.map V.int)->sp w [.ref a] H (λv z=>v=.bl d!) λz z z=>False)(Vg:∀(w:q?)(H:Hp)(s:d?)(e:b?)(s':d?),CX w [] H s (λz z z=>False) e s'->False):
  ß q q_ XP YP l.row.toRowW d [] (λf vs=>ĵ f vs):=by refine Att.attach_call hn Uj λw s₀ s₁ mg mb fa o pm cd s_ a vs ns G Y ho hd QG Ud SO K_ f_ hg=>?_;have KX:=hY w _ Y;obtain⟨fd,hb,hF⟩:=F w mg fa _ KX G.T.g Ud;exact ET KX G.T.g G.T.b G.T.builtins G.T.nolimit hg SO K_ (Ow f_ Rf) hr hF hb (λH hO hS=>Qc w H a ns f_ hO hS) λH e s'=>Vg w H s₁ e s'
noncomputable def mS(s:U!)(j:Nat):U!:=match s with
 |.ClassDef _ _ _ j_ _ _ _ _ _ _ _=>j_.getD j (.Pass ⟨0,0,0,0⟩)
 |_=>.Pass ⟨0,0,0,0⟩
noncomputable def eV(s:U!):Arguments:=match s with
 |.FunctionDef _ a _ _ _ _ _ _ _ _=>a
 |_=>{posonlyargs:=[],args:=[],vararg:=b!,kwonlyargs:=[],kw_defaults:=[],kwarg:=b!,defaults:=[]}
noncomputable def dI(s:U!):List Stmt:=match s with
 |.FunctionDef _ _ b _ _ _ _ _ _ _=>b
 |_=>[]
noncomputable def ak(s:U!):Y1:=match s with
 |.FunctionDef _ _ _ _ _ _ sc _ _ _=>sc
 |_=>{kind:=.function,names:=[],isGenerator:=e!,isCoroutine:=e!}
abbrev ug:Bm:=λo o o o o o=>False
abbrev E0:XK:=λo o o=>False
structure Fun(K:Oe)(x e_:w?)(st:U!)(f:c!)(fd:W'):Prop where
 ex:∃(oc:b?)(od:Option c!)(kV s_ pm:b?)(an:Option c!)(OJ ct:b?)(QY:Array (Option b?)),
  fd=W7 x e_ (eV st) (dI st) (ak st) .none kV s_ pm an OJ ct/\K.lookup f=a! ⟨oc,od,.func fd,QY⟩/\XS K OJ e_=d!
 kp:P! K (.ref f)=d!
section
variable{P:g?}{w:q?}{K:Oe}{mg:w?->Option b?}{base:F!}
variable{e_:w?}{st:U!}{f:c!}
def Fun.ok{N ps:List w?}{sp:Sp}(F:Fun K x e_ st f fd)(S:FnScope N ps (ak st))(len:∀vs H Q E,sp vs H Q E->vs.length=ps.length)(Rm:∀(OJ:b?)(A:A?)(bn:List ĉ)(s:d?)(H:Hp)(vs:List V)(Q:VK)(E:XK),Room k (A.deeper (X! e_ (ak st) s.heap.objs.size f OJ))->sp vs H Q E ->
   ∃t,rO (fF ug P w K mg base N e_ (ak st) f OJ A bn s H E).nox (dI st) t/\t {nx:=λo H'=>Q .non H',rt:=Q} (start N vs) H):FnOk P w K mg base ug (k+1) f fd ps sp:=by obtain⟨oc,od,kV,s_,pm,an,OJ,ct,QY,rfl,lk,QG⟩:=F.ex;refine E4 lk QG S len λA bn s H vs Q E hr Qc=>?_;obtain⟨t,h,q⟩:=Rm OJ A bn s H vs Q E hr Qc;exact⟨t,h.nox,q⟩
def Fun.binds{ps:List w?}(F:Fun K x e_ st f fd)(h:∀(kV s_ pm:b?)(an:Option c!)(OJ ct:b?)(us:List b?),us.length=ps.length->ϻ (W7 x e_ (eV st) (dI st) (ak st) .none kV s_ pm an OJ ct) ⟨us,[]⟩=Xo (ps.zip us)):gy K fd ps []:=by obtain⟨oc,od,kV,s_,pm,an,OJ,ct,QY,rfl,lk,QG⟩:=F.ex;exact .all (h kV s_ pm an OJ ct)
def l5{oc:b?}{od an:Option c!}{QY:Array (Option b?)}{kV s_ pm OJ ct:b?}(l:K.lookup f=a! ⟨oc,od,.func (W7 x e_ (eV st) (dI st) (ak st) .none kV s_ pm an OJ ct),QY⟩)(c:XS K OJ e_=d!)(k:P! K (.ref f)=d!):Fun K x e_ st f (W7 x e_ (eV st) (dI st) (ak st) .none kV s_ pm an OJ ct):=⟨⟨oc,od,kV,s_,pm,an,OJ,ct,QY,rfl,l,c⟩,k⟩
end
section
variable{X:Cx}
def pv(i:Nat){ce:YU}(hN:X.N[i]?=a! x:=by rfl)(hv:MB X.env.scope x:=by first|exact ū rfl|exact Ī (ū rfl)|exact Ī (Ī rfl))(hd:(x==("__debug__" : w?))=e!:=by decide)(QG:(x==("__classdict__" : w?))=e!:=by decide):PE X (.Name x ce) (hV i):=Kx hN hv hd QG
end
def xH{A B:Prop}(h:B):if e!=d! then A else B:=by rwa[è z!]
def yT{A B:Prop}(h:A):if d!=d! then A else B:=by rwa[é rfl]
def aE(H H':Hp):Prop:=∀b o,H b=a! o->H' b=a! o
def aE.refl(H:Hp):aE H H:=λo o h=>h
def aE.trans{H H1 H2:Hp}(a:aE H H1)(b:aE H1 H2):aE H H2:=λc o h=>b c o (a c o h)
def aE.free{H H':Hp}(e:aE H H'){l:c!}(h:H' l=b!):H l=b!:=by
 cases q:H l with
 |none=>rfl
 |some o=>
  rw[e l o q]at h;cases h
def aE.seq{K:Oe}{H H':Hp}{a:c!}{xs:List V}(e:aE H H')(h:gu K H a xs):gu K H' a xs:=by
 obtain (h|⟨o,h⟩)|h:=h
 ·exact .inl (.inl (e _ _ h))
 ·exact .inl (.inr ⟨o,e _ _ h⟩)
 ·exact .inr h
end L2
set_option maxHeartbeats 4000000
namespace L2
open PySem PySem.Spec PyProof.Rows
noncomputable def gx(l_:List (w?×c!)):List (w?×Yl)->List (w?×c!)->List (w?×c!)
 |[],acc=>acc
 |(n,k)::r,acc=>if(k==XJ)=d! then(match l_.lookup n with|some c=>gx l_ r ((n,c)::acc)|none=>gx l_ r acc)else gx l_ r acc
theorem qZ{env:ĉ}:∀(names:List (w?×Yl))(acc:List (w?×c!)),(∀y∈names,y.2=.free->∃c,env.cells.lookup y.1=a! c) ->
  (forIn names acc λ(x:w?×Yl)(r:List (w?×c!))=>(do
   if(x.2==XJ)=d! then do
    let c <-cellOf env x.1
    Xo (X3 ((x.1,c)::r))
   else Xo (X3 r):ý (ForInStep (List (w?×c!)))))=Xo (gx env.cells names acc)
 |[],acc,_=>rfl
 |(n,k)::r,acc,h=>by
  rw[ž];by_cases hk:k=.free
  ·subst hk;obtain⟨c,hc⟩:=h (n,.free) N2 rfl;have e1:cellOf env n=Xo c:=by unfold cellOf;rw[show env.cells.lookup n=a! c from hc]
   simp only[beq_self_eq_true,if_true,e1,pure_bind,gx];rw[show env.cells.lookup n=a! c from hc];exact qZ r _ λy hy=>h y (N1 _ hy)
  ·have hb:(k==XJ)=e!:=by simpa using hk
   simp only[hb,o?,if_false,pure_bind,gx];exact qZ r _ λy hy=>h y (N1 _ hy)
def Au{scope:Y1}{env:ĉ}(h:∀y∈scope.names,y.2=.free->∃c,env.cells.lookup y.1=a! c):closureFor scope env=Xo (gx env.cells scope.names []):=by have e:=qZ (env:=env) scope.names [] h;unfold closureFor;rw[<-bind_pure (Xo (gx env.cells scope.names []):ý (List (w?×c!))),<-e]
def ig{h:F!}{b:c!}{n:Nat}{o:XQ}(h1:h.get? b=a! o)(h2:h.objs.size<=n):b≠n:=λz=>ê (N9 h1) (by rw[z];exact ċ.mpr h2)
def d3{a:Nat}{b:c!}{n:Nat}(h1:b<a)(h2:a<=n):b≠n:=λz=>ê h1 (by rw[z];exact ċ.mpr h2)
set_option tactic.hygienic true in
theorem cp{l_:List (w?×c!)}{x:w?}{c:c!}:∀{names:List (w?×Yl)}{acc:List (w?×c!)},(∀d,acc.lookup x=a! d->l_.lookup x=a! d)->(gx l_ names acc).lookup x=a! c->l_.lookup x=a! c
 |[],acc,ha,h=>ha c h
 |(n,k)::r,acc,ha,h=>by
  unfold gx at h;split at h
  ·split at h
   ·rename_i d hd;refine cp (names:=r) (λe he=>?_) h;by_cases hx:x=n
    ·subst hx;simp only[y!,beq_self_eq_true]at he;rwa[hd]
    ·have hb:(x==n)=e!:=by simpa using hx
     simp only[y!,hb]at he;exact ha e he
   ·exact cp (names:=r) ha h
  ·exact cp (names:=r) ha h
set_option tactic.hygienic true in
theorem kQ{l_:List (w?×c!)}{x:w?}:∀{names:List (w?×Yl)}{acc:List (w?×c!)},(∃d,acc.lookup x=a! d)->∃c,(gx l_ names acc).lookup x=a! c
 |[],acc,h=>h
 |(n,k)::r,acc,h=>by
  unfold gx;split
  ·split
   ·rename_i d hd;refine kQ (names:=r) ?_;by_cases hx:x=n
    ·subst hx;exact⟨d,by simp[y!]⟩
    ·have hb:(x==n)=e!:=by simpa using hx
     obtain⟨e,he⟩:=h;exact⟨e,by simpa[y!,hb]using he⟩
   ·exact kQ (names:=r) h
  ·exact kQ (names:=r) h
theorem lz{l_:List (w?×c!)}{x:w?}{c:c!}(hc:l_.lookup x=a! c):∀{names:List (w?×Yl)}{acc:List (w?×c!)},(x,XJ)∈names->∃d,(gx l_ names acc).lookup x=a! d
 |[],_,h=>nomatch h
 |(n,k)::r,acc,h=>by
  obtain e|h:=Of.mp h
  ·cases e;unfold gx;rw[é 0x4];rw[hc];exact kQ ⟨c,by simp[y!]⟩
  ·unfold gx;split
   ·split <;>exact lz hc (names:=r) h
   ·exact lz hc (names:=r) h
theorem gG{env:ĉ}{x:w?}:∀{names:List (w?×Yl)}{k:Yl},
  (names.map λ(n,k)=>if(k==XJ&&env.scope.kind==.function&&env.kindOf n==a! .cell)then(n,ZO)else(n,k)).lookup x=a! k ->
  names.lookup x=a! k\/(k=.cell/\names.lookup x=a! .free)
 |[],k,h=>by simp at h
 |(n,k0)::r,k,h=>by
  have ih:=@gG env x r k;rw[f?]at h;by_cases hx:x=n
  ·subst hx;by_cases hc:(k0==XJ&&env.scope.kind==.function&&env.kindOf x==a! .cell)=d!
   ·simp only[hc,if_true,y!,beq_self_eq_true]at h;have h0:k0=.free:=by simp only[k?,beq_iff_eq]at hc;exact hc.1.1
    subst h0;cases h;exact .inr ⟨rfl,by simp[y!]⟩
   ·have Pj:(k0==XJ&&env.scope.kind==.function&&env.kindOf x==a! .cell)=e!:=by simpa using hc
    simp only[Pj,o?,if_false,y!,beq_self_eq_true]at h;cases h;exact .inl (by simp[y!])
  ·have hb:(x==n)=e!:=by simpa using hx
   have e1:∀(c:Bool),XM x ((if c=d! then(n,ZO)else(n,k0))::(r.map λ(n,k)=>if(k==XJ&&env.scope.kind==.function&&env.kindOf n==a! .cell)then(n,ZO)else(n,k)))=XM x (r.map λ(n,k)=>if(k==XJ&&env.scope.kind==.function&&env.kindOf n==a! .cell)then(n,ZO)else(n,k)):=λc=>by cases c <;>simp[y!,hb]
   have h':=(e1 _).symm.trans h;obtain q|⟨q1,q2⟩:=ih h'
   ·exact .inl (by simpa[y!,hb]using q)
   ·exact .inr ⟨q1,by simpa[y!,hb]using q2⟩
theorem gn{x:w?}{k:Yl}:∀{names:List (w?×Yl)},names.lookup x=a! k->(x,k)∈names
 |[],h=>by simp at h
 |(n,k0)::r,h=>by
  by_cases hx:x=n
  ·subst hx;simp only[y!,beq_self_eq_true]at h;cases h;exact N2
  ·have hb:(x==n)=e!:=by simpa using hx
   simp only[y!,hb]at h;exact N1 _ (gn h)
noncomputable def jU(k:Nat)(js:List Nat)(σ:St):St:=p? k b!++js.map λj=>(σ[j]?).join
def aR(X:Cx)(N':List w?)(scope:Y1)(C:c!)(s₂:d?)(b_:Hp)(fp:List c!):Cx where
 prog:=X.prog
 w:=X.w
 K:=X.K
 mg:=X.mg
 base:=X.base
 A:=X.A
 N:=N'
 s₀:=s₂
 H₀:=b_
 env:=compEnvC scope (gx X.env.cells scope.names []) C X.env
 bn:=X.stack
 stack:=X.stack
 ex:=fp
 fn:=λo=>e!
 calm:=X.calm
 pn:=[]
 xe:=λo o=>False
structure CompFit(X:Cx)(k:Nat)(js:List Nat)(N':List w?)(scope:Y1):Prop where
 kind:scope.kind=.function
 nocell:∀y∈scope.names,y.2≠.cell
 loc:∀y∈scope.names,y.2=.local->scope.names.lookup y.1=a! .local
 free:∀y∈scope.names,y.2=.free->X.env.kindOf y.1=a! .cell\/X.env.kindOf y.1=a! .free
 len:N'.length=k+js.length
 at':∀(i:Nat)(x:w?),N'[i]?=a! x->k<=i->∃j,js[i-k]?=a! j/\X.N[j]?=a! x/\(X.env.kindOf x=a! .cell\/X.env.kindOf x=a! .free)/\scope.names.lookup x=a! .free
section
variable{X:Cx}{a_:List (c!×XQ)}{σ:St}{H:Hp}{s:d?}{k:Nat}{js:List Nat}{N':List w?}{scope:Y1}
def FX{C:c!}{fp:List c!}(I:Inv X a_ σ H s)(S:CompFit X k js N' scope)(hC:s.heap.objs.size<=C)(hf:∀b∈fp,pj X a_ H b/\b<s.heap.objs.size):(aR X N' scope C s H fp).Ok where
 mod:=I.ok.mod
 kind:=S.kind
 glob:=I.ok.glob
 blt:=I.ok.blt
 above:=hC
 inj:=λx y c h1 h2=>I.ok.inj x y c (cp (λd hd=>by simp at hd) h1) (cp (λd hd=>by simp at hd) h2)
 has:=λx hx=>by
  have UO:(Ŕ scope X.env).names.lookup x=a! .cell\/(Ŕ scope X.env).names.lookup x=a! .free:=hx;have Ph:scope.names.lookup x=a! .free:=by
   obtain h|h:=UO
   ·obtain q|⟨_,q⟩:=gG h
    ·exact ê rfl (S.nocell _ (gn q))
    ·exact q
   ·obtain q|⟨e,_⟩:=gG h
    ·exact q
    ·cases e
  obtain⟨c,hc⟩:=I.ok.has x (S.free _ (gn Ph) rfl);exact lz hc (gn Ph)
 cab:=λx c h j=>nomatch h
 hd:=I.ok.hd
 frames:=I.ok.frames
 stk:=.inl rfl
 exf:=λb hb=>⟨λe=>ê (hf b hb).2 (by have e':b=C:=e;rw[e'];exact ċ.mpr hC),λx c h=>(hf b hb).1.2.2.2.2.1 x c (cp (λd hd=>by simp at hd) h)⟩
 bs:=I.bs
 bsz:=Ow I.ok.bsz I.sz
 noex:=λb o e hb=>by
  rcases(hf b hb).1.2.2.2.1 with z|z
  ·exact I.ok.noex b o e z
  ·exact ê (Ox (N9 e) (Ow I.ok.bsz z)) (YE _)
 exfs:=λb hb z=>by
  obtain e|e:=Of.mp (I.stkSub b z)
  ·exact(hf b hb).1.2.1 e
  ·exact(hf b hb).1.2.2.1 e
 funs:=I.stack
 frf:=I.stkFree
def qJ{C:c!}{fp:List c!}{n_:F!}{tk:Nat}{m:w?->Option b?}(I:Inv X a_ σ H s)(S:CompFit X k js N' scope)(hC:s.heap.objs.size<=C)(hf:∀b∈fp,pj X a_ H b/\b<s.heap.objs.size)(old:∀b o,s.heap.get? b=a! o->n_.get? b=a! o)(hn:n_.Ns C m):Inv (aR X N' scope C s H fp) [] (jU k js σ) H {s with heap:=n_,toks:=tk}:=by
 refine⟨FX I S hC hf,rfl,I.bare,Un.kept old,⟨m,hn,λi x v h1 h2 h3=>?_⟩,λx c h=>?_,I.hok.fresh hC,λx c h=>I.freeC x c (cp (λd hd=>by simp at hd) h),λp hp=>ê (show p∈([]:List (c!×XQ))from hp) 0x4,I.hok.kept old,?_⟩
 ·have hi:k<=i:=by
   by_cases hi:k<=i
   ·exact hi
   ·unfold jU at h2;rw[F? (by simp;lia),XX]at h2;split at h2 <;>cases h2
  obtain⟨j,hj,hN,hk,Ph⟩:=S.at' i x h1 hi;have hσ:σ[j]?=a! (a! v):=by
   unfold jU at h2;rw[w! (by simpa using hi),WZ,M?,hj]at h2;simp only[ţ]at h2;have Rc:(σ[j]?).join=a! v:=OD h2;cases e:σ[j]? with
   |none=>rw[e]at Rc;cases Rc
   |some z=>rw[e]at Rc;simp only[ζ]at Rc;rw[<-Rc];rfl
  obtain⟨m0,hn0,hl⟩:=I.loc;have hv:MB X.env.scope x:=by
   obtain h|h:=hk
   ·exact .inr (.inl h)
   ·exact .inr (.inr h)
  obtain⟨u,r,l⟩:=hl j x v hN hσ hv;refine⟨u,r,?_⟩;obtain⟨Ql,_⟩|⟨_,c,hc,PV⟩:=l
  ·obtain h|h:=hk <;>(rw[Ql]at h;cases h)
  ·obtain⟨d,hd⟩:=lz (names:=scope.names) (acc:=[]) hc (gn Ph);have RU:d=c:=OD ((cp (λd hd=>by simp at hd) hd).symm.trans hc);subst RU;refine .inr ⟨?_,d,hd,PV.keeps old⟩;have h3':(Ŕ scope X.env).names.lookup x=a! .local\/(Ŕ scope X.env).names.lookup x=a! .cell\/(Ŕ scope X.env).names.lookup x=a! .free:=h3;obtain h|h|h:=h3'
   ·obtain q|⟨e,_⟩:=gG h
    ·rw[Ph]at q;cases q
    ·cases e
   ·exact .inl h
   ·exact .inr h
 ·obtain⟨v,hv⟩:=I.cell x c (cp (λd hd=>by simp at hd) h);exact⟨v,hv.keeps old⟩
 ·unfold jU;show _=N'.length;rw[l!,WZ,e?,S.len]
end
section
variable{prog:g?}{w:q?}{A:A?}{R:Ρ->d?->Prop}{s:d?}
def Io:b?->d?->Prop:=λo o=>False
def qw{v_ r_ g_:E!}{t_:List E!}{scope:Y1}{ce:YU}{it acc:b?}{env:ĉ}(I:Nat->d?->Prop)(turn:∀n s,I n s->n? (p! prog w) A (ZW it) (λr s₁=>match r with
   |none=>R (.ok .next) s₁
   |some v=>n? (p! prog w) A (Z7 r_ it v) (λo S_=>n? (p! prog w) A (ć r_ env v) (λo s₂=>
     n? (p! prog w) A (forIn t_ d! λc r=>if r=d! then(do let ok <-ą c env (I! c env);Xo (X3 ok))else Xo (X3 r)) (λok s₃=>
      if ok=d! then n? (p! prog w) A (I! v_ env) (λx Uz=>n? (p! prog w) A (call (.builtin "list.append") [acc,x]) (λo Ur=>∃m,m<n/\I m Ur) Io Uz) Io s₃
      else ∃m,m<n/\I m s₃) Io s₂) Io S_) Io s₁) Io s)(n:Nat)(h:I n s):Y! (p! prog w) A (.compLoop (.ListComp v_ [⟨r_,g_,t_,0⟩] scope ce) 0 it acc env) R s:=by
 refine codeAny_loop rfl I (λn s hI=>?_) n h;refine wpAny_noted (m:=compTurn (.ListComp v_ [⟨r_,g_,t_,0⟩] scope ce) 0 it acc env) ?_;rw[compTurn_list];refine N7 (aÆ (N7 (Xy (turn n s hI) (λr s₁ n_=>?_) λo o h'=>h'.elim)));cases r with
 |none=>exact N8 n_
 |some v=>
  refine N7 (Xy n_ (λo S_ TX=>?_) λo o h'=>h'.elim);refine N7 (Xy TX (λo s₂ O_=>N7 (Xy O_ (λok s₃ Q_=>?_) λo o h'=>h'.elim)) λo o h'=>h'.elim);cases ok with
  |false=>exact N8 ⟨rfl,Q_⟩
  |true=>
   refine N7 (N7 (Xy Q_ (λx Uz Wi=>?_) λo o h'=>h'.elim));exact N7 (Xy Wi (λo Ur Vo=>N8 (N8 ⟨rfl,Vo⟩)) λo o h'=>h'.elim)
end
def PF(X:Cx)(t_:List E!)(t:TT):Prop:=∀(a_:List (c!×XQ))(s:d?)(σ:St)(H:Hp)(Q:Bool->Hp->Prop),Inv X a_ σ H s->t σ H Q ->
  n? (p! X.prog X.w) X.A (forIn t_ d! λc r=>if r=d! then(do let ok <-ą c X.env (I! c X.env);Xo (X3 ok))else Xo (X3 r)) (TP X a_ σ Q) X.xe s
def Nd:TT:=λo H Q=>Q d! H
def IB{X:Cx}:PF X [] Nd:=λo o o H o I h=>wpAny_tests_nil ⟨H,I,h⟩
def oo{X:Cx}{c:E!}{t:TT}(h:PT X c t):PF X [c] t:=λa_ s σ H Q I hw=>wpAny_tests_one (h a_ s σ H Q I hw)
def zJ(wi:TI)(k:Nat)(js:List Nat)(g:TG)(tc:TT)(te:TE):TE:=λσ H Q=>wi σ H λJ H1=>∃W:Nat->Nat->St->Hp->List V->Prop,(∃m,W 0 m (jU k js σ) H1 [])/\∀i m c_ H' xs,W i m c_ H' xs ->
 (J.stop i H'/\xs.length<=sizeLine/\∀p,H' p=b!->Q (.ref p) (upd H' p (.lst xs))) \/
 (J.go i H'/\xs.length<sizeLine/\∀x H2,J.yld i H' x H2->g x c_ H2 λw_ H3=>tc w_ H3 λb H4=>if b=d! then te w_ H4 λv H5=>∃m',m'<m/\W (i+1) m' w_ H5 (xs++[v])else ∃m',m'<m/\W (i+1) m' w_ H4 xs)
section
variable{X:Cx}{k:Nat}{js:List Nat}{N':List w?}{scope:Y1}{v_ tg g_:E!}{t_:List E!}{ce:YU}{wi:TI}{g:TG}{tc:TT}{te:TE}
def GP(S:CompFit X k js N' scope)(hc:X.calm=d!)(hi:PI X tg g_ wi)(hg:∀C s₂ b_ fp,PG (aR X N' scope C s₂ b_ fp) tg g)(hf:∀C s₂ b_ fp,PF (aR X N' scope C s₂ b_ fp) t_ tc)(he:∀C s₂ b_ fp,PE (aR X N' scope C s₂ b_ fp) v_ te)(hs:∀x,W3 g_ X.env x=Xo x:=by intro _;rfl):PE X (.ListComp v_ [⟨tg,g_,t_,0⟩] scope ce) (zJ wi k js g tc te):=by
 intro a_ s σ H Q I h;rw[eval_ListComp];refine ı (use:=b!) rfl hs (Au λy hy hk=>I.ok.has y.1 (S.free y hy hk)) S.kind S.loc ?_;refine cf (hi a_ s σ H _ I h) λv s1 h1=>cf h1 λVd s₂ h2=>?_;obtain⟨it,fp,tn,J,b_,rfl,I2,T,ON,f2,W,⟨m0,w0⟩,turn⟩:=h2;have RX:∀b∈fp,b<s₂.heap.objs.size:=λb hb=>by obtain⟨o,e,_⟩:=T.obj 0 _ ON b hb;exact N9 e
 refine Yq (ű S.nocell (by intro y hy;simp at hy) (λn_ Qz Qj=>?_) S.kind);dsimp only at Qz Qj ⊢;generalize hH2:s₂.heap.push {cls:=.type "list",dict:=b!,data:=.seq ([]:List b?).toArray}=G at Qz Qj ⊢;have hC:G.objs.size=s₂.heap.objs.size+1:=by rw[<-hH2,XC]
 have RA:s₂.heap.objs.size≠G.objs.size:=by lia
 have Qg:s₂.heap.objs.size<=G.objs.size:=by lia
 have old:∀b o,s₂.heap.get? b=a! o->n_.get? b=a! o:=λb o e=>Qj.extBut b o (ig e Qg) (N3 _ (hH2▸N3 _ e));have Qh:n_.get? s₂.heap.objs.size=a! {cls:=.type "list",data:=.seq ([]:List b?).toArray}:=Qj.extBut _ _ RA (N3 _ (hH2▸OC _ rfl));have Qx:∀b∈fp,pj X a_ b_ b/\b<s₂.heap.objs.size:=λb hb=>⟨f2 b hb,RX b hb⟩;have I0:∀tk,Inv (aR X N' scope G.objs.size s₂ b_ fp) [] (jU k js σ) b_ {s₂ with heap:=n_,toks:=tk}:=λtk=>qJ I2 S Qg Qx old Qz;generalize hD:s₂.heap.objs.size=D at *;have Qy:∀{H':Hp}{s':d?}{c_:St}{pp:List (c!×XQ)}{o:XQ},Inv (aR X N' scope G.objs.size s₂ b_ fp) (pp++[(D,o)]) c_ H' s'->H' D=b!/\s'.heap.get? D=a! o:=λ{H' s' c_ pp o} J=>by have q:=J.pin (D,o) (N4 _ (N4 _ (Oi.mpr rfl)));exact⟨q.2.1,q.1⟩
 have SA:D∉iB X.stack:=λz=>by obtain⟨_,o,ho,_⟩:=I2.stack.mem z;exact ig ho (OE hD) rfl
 have QD:∀x c,(aR X N' scope G.objs.size s₂ b_ fp).env.cells.lookup x=a! c->c≠D:=λx c e z=>by obtain⟨v,q⟩:=I2.cell x c (cp (λd hd=>by simp at hd) e);exact d3 q.lt (OE hD) z
 have Px:∀{H':Hp}{pp:List (c!×XQ)},(∀b∈fp,H' b=b!)->(∀p∈pp,p.1=D)->∀b∈fp,pj (aR X N' scope G.objs.size s₂ b_ fp) pp H' b:=λ{H' pp} hn hp b hb=>by
  refine⟨hn b hb,λz=>?_,λz=>?_,.inl hb,λx c e=>(Qx b hb).1.2.2.2.2.1 x c (cp (λd hd=>by simp at hd) e),λp Pg z=>?_⟩
  ·exact d3 (RX b hb) Qg z
  ·obtain e|e:=Of.mp (I2.stkSub b z)
   ·exact(Qx b hb).1.2.1 e
   ·exact(Qx b hb).1.2.2.1 e
  ·have e1:p.1=D:=hp p (by simpa[aR]using Pg);exact d3 (RX b hb) (N6 _) (z.symm.trans e1)
 have Sv:∀{c_:St}{H':Hp}{s':d?}{ys:List b?}{c:Nat},Inv (aR X N' scope G.objs.size s₂ b_ fp) [] c_ H' s'->s'.heap.get? D=a! {cls:=.type "list",data:=.seq ys.toArray c}->H' D=b! ->
   Inv (aR X N' scope G.objs.size s₂ b_ fp) [(D,{cls:=.type "list",data:=.seq ys.toArray c})] c_ H' s':=λ{c_ H' s' ys c} J e n=>J.pins_of λp hp=>by have e1:=Oi.mp hp;subst e1;exact⟨e,n,RA,SA,λv z=>by cases z⟩
 have L_:∀s₃:d?,(∃tk,s₃={s₂ with heap:=n_,toks:=tk})->Y! (p! X.prog X.w) X.A (.compLoop (.ListComp v_ [⟨tg,g_,t_,0⟩] scope ce) 0 (.ref it) (.ref D) (aR X N' scope G.objs.size s₂ b_ fp).env)
   (Ϻ (p! X.prog X.w) X.A X.xe b! (EP X a_ σ Q) (.ref D) G.objs.size) s₃:=by
  rintro s₃ ⟨tk,rfl⟩;refine qw (λn s'=>∃i c_ H' xs ys c,Inv (aR X N' scope G.objs.size s₂ b_ fp) [] c_ H' s'/\tn i s'.heap/\(∀b∈fp,H' b=b!)/\H' D=b!/\s'.heap.get? D=a! {cls:=.type "list",data:=.seq ys.toArray c}/\aT xs ys/\W i n c_ H' xs)
   ?_ m0 ⟨0,_,b_,[],[],0,I0 tk,T.keep _ _ _ ON λb hb o e=>old b o e,λb hb=>(f2 b hb).1,I2.hok.fresh 0x1,Qh,.nil,w0⟩
  rintro n s' ⟨i,c_,H',xs,ys,c,J',F',fr',nD,eD,rv,w'⟩;have J1:=Sv J' eD nD;obtain⟨stop,hz,fin⟩|⟨go,hz,ĳ⟩:=turn i n c_ H' xs w'
  ·refine cf (T.done (aR X N' scope G.objs.size s₂ b_ fp) rfl rfl rfl hc i _ s' c_ H' _ J1 (Px fr' λp hp=>by rw[Oi.mp hp]) F' stop) λr s4 ⟨hr,J4⟩=>?_;subst hr;obtain⟨T9,VS⟩:=Qy (pp:=[]) J4;obtain⟨mC,VB,_⟩:=J4.loc;refine⟨mC,VB,λh' QK=>?_⟩;have OX:∀b o,b≠G.objs.size->s4.heap.get? b=a! o->h'.get? b=a! o:=λb o hb e=>QK.extBut b o hb e;have Tw:H' G.objs.size=b!:=J4.free;have V1:Un (iB X.stack) fp b_ (upd H' D (.lst xs)) s₂.heap h':=by
    have u:=J4.base;have WO:∀b o,s₂.heap.get? b=a! o->b≠D:=λb o e=>ig e (OE hD);have Q0:∀b o,s₂.heap.get? b=a! o->b≠G.objs.size:=λb o e=>ig e (by rw[hD];exact Qg);have QJ:∀b o,b_ b=a! o->b≠D:=λb o e=>d3 (I2.hok.lt e) (OE hD);refine⟨λb o e n hb hx=>OX b o (Q0 b o e) (u.keep b o e n hb hx),λb o e n hb hx=>?_,λb o e n hx=>by rw[aF (WO b o e)];exact u.free b o e n hx,λb o e hx=>?_,
     λb xs e=>by rw[aF (QJ b _ e)];exact u.tups b xs e,λb o z e=>by rw[aF (QJ b _ e)];exact u.frzs b o z e,λb ps e=>by rw[aF (QJ b _ e)];exact u.tbls b ps e⟩
    ·obtain⟨sl,q⟩:=u.slot b o e n hb hx;exact⟨sl,OX b _ (Q0 b o e) q⟩
    ·obtain⟨o',q⟩:=u.there b o e hx;exact⟨o',OX b _ (Q0 b o e) q⟩
   have Tc:lV X.prog X.w (upd H' D (.lst xs)) h':=by
    intro b u e;by_cases hb:b=D
    ·subst hb;rw[aQ]at e;cases e;exact⟨hz,ys,c,rv,OX _ _ RA VS⟩
    ·rw[aF hb]at e;have TL:∀a o,H' a=a! o->a≠D:=λa o e z=>by rw[z,T9]at e;cases e
     refine(J4.hok b u e).stay (λa v ha q=>OX a v ?_ q) (λa q=>by rwa[aF (TL a _ q)]) λa zs q=>by rwa[aF (TL a _ q)]
     rintro rfl;obtain z|z:=ha
     ·rw[<-z,Tw]at e;cases e
     ·rw[Tw]at z;cases z
   refine⟨.ref D,upd H' D (.lst xs),I2.call' (s':={s4 with heap:=h'}) J4.os V1 Tc J4.bare λb hb=>?_,rfl,fin D T9⟩;exact⟨(f2 b hb).2.2.2.1,(f2 b hb).2.1,(f2 b hb).2.2.2.2.1,(f2 b hb).2.2.2.2.2⟩
  ·refine cf (T.item (aR X N' scope G.objs.size s₂ b_ fp) rfl rfl rfl hc i _ s' c_ H' Io J1 (Px fr' λp hp=>by rw[Oi.mp hp]) F' go) λr s4 ⟨u,hr,h4⟩=>?_;subst hr;refine cf h4 λ_ s5 ⟨x,H5,I5,r5,y5,QU,fr5⟩=>?_;have TY:=I5.pinned (Px fr5 λp hp=>by rw[Oi.mp hp]) (T.obj _ _ QU);refine cf (hg _ _ _ _ _ s5 c_ H5 x u _ TY r5 (ĳ x H5 y5)) λ_ s6 ⟨σ6,H6,I6,q6⟩=>?_;refine cf (hf _ _ _ _ _ s6 σ6 H6 _ I6 q6) λok s7 ⟨H7,I7,q7⟩=>?_;have back:∀{Tf:St}{H8:Hp}{s8:d?},Inv (aR X N' scope G.objs.size s₂ b_ fp) ([(D,{cls:=.type "list",data:=.seq ys.toArray c})]++oi fp s5.heap) Tf H8 s8 ->
     Inv (aR X N' scope G.objs.size s₂ b_ fp) [] Tf H8 s8/\tn (i+1) s8.heap/\(∀b∈fp,H8 b=b!)/\H8 D=b!/\s8.heap.get? D=a! {cls:=.type "list",data:=.seq ys.toArray c}:=λ{Tf H8 s8} J=>by
    have pd:=J.pin (D,{cls:=.type "list",data:=.seq ys.toArray c}) (N4 _ (N5 _ (Oi.mpr rfl)));have pf:∀b∈fp,∀o,s5.heap.get? b=a! o->s8.heap.get? b=a! o/\H8 b=b!:=λb hb o e=>by have q:=J.pin (b,o) (N4 _ (N4 _ (i9 hb e)));exact⟨q.1,q.2.1⟩
    refine⟨J.pins_of λp hp=>ê hp 0x4,T.keep _ _ _ QU λb hb o e=>(pf b hb o e).1,λb hb=>?_,pd.2.1,pd.1⟩;obtain⟨o,e,_⟩:=T.obj _ _ QU b hb;exact(pf b hb o e).2
   cases ok with
   |false=>
    simp only[o?,if_false]at q7 ⊢;obtain⟨m',hm,w7⟩:=q7;obtain⟨b1,b2,b3,b4,b5⟩:=back I7;exact⟨m',hm,i+1,σ6,H7,xs,ys,c,b1,b2,b3,b4,b5,rv,w7⟩
   |true=>
    simp only[if_true]at q7 ⊢;refine cf (he _ _ _ _ _ s7 σ6 H7 _ I7 q7) λu8 s8 ⟨v8,H8,I8,r8,q8⟩=>?_;obtain⟨m',hm,w8⟩:=q8;obtain⟨b1,b2,b3,b4,b5⟩:=back I8;refine append_at b5 (λh9 T5 e9=>?_) (by rw[o!,<-rv.length];exact Yw hz);have I9:Inv (aR X N' scope G.objs.size s₂ b_ fp) [] σ6 H8 {s8 with heap:=h9}:=b1.turned (t':=s8.toks) (it:=D) (λb o hb e=>(T5.2 b hb).trans e) b4 RA (.inr (by show s₂.heap.objs.size<=D;lia)) QD λp hp=>ê (show p∈([]:List (c!×XQ))from hp) 0x4;refine⟨m',hm,i+1,σ6,H8,xs++[v8],ys++[u8],c+1,I9,T.keep _ _ _ b2 λb hb o e=>(T5.2 b ?_).trans e,b3,b4,?_,aT.append rv (.cons r8 .nil),w8⟩
    ·exact d3 (RX b hb) (N6 _)
    ·rw[e9,ť]
 exact Ř (L_ _ ⟨_,rfl⟩) (T.self _ 0 _ _ _ (T.keep _ _ _ ON λb hb o e=>old b o e) (L_ _ ⟨_,rfl⟩))
end
end L2
set_option autoImplicit false
namespace L3
open PySem PySem.Spec L2
open PyProof.Rows hiding St
mutual
def cJ:j!->Bool
 |.int _=>d!
 |.tuple xs=>fJ xs
 |_=>e!
def fJ:List j!->Bool
 |[]=>d!
 |x::r=>cJ x&&fJ r
end
mutual
def xi:j!->Int
 |.int n=>hashInt n
 |.tuple xs=>reduceHash (À (mJ xs))
 |_=>0
def mJ:List j!->List Int
 |[]=>[]
 |x::r=>xi x::mJ r
end
mutual
def jr:j!->Nat
 |.tuple xs=>pG xs+1
 |_=>1
def pG:List j!->Nat
 |[]=>0
 |x::r=>jr x+pG r
end
mutual
theorem pU:∀d:j!,cJ d=d!->d.canLay0=d!
 |.int _,_=>rfl
 |.tuple xs,h=>by unfold W8;exact xf xs (by unfold cJ at h;exact h)
 |.none,h|.bool _,h|.str _,h|.list _,h|.dict _,h=>by simp[cJ]at h
theorem xf:∀ds:List j!,fJ ds=d!->s? ds=d!
 |[],_=>rfl
 |x::r,h=>by unfold fJ at h;rw[k?]at h;unfold s?;rw[pU x h.1,xf r h.2];rfl
end
mutual
theorem AF:∀x y:j!,cJ x=d!->cJ y=d!->(i? x y=d!↔x=y)
 |.int a,.int b,_,_=>by unfold i?;simp
 |.int a,.tuple ys,_,_=>by unfold i?;simp
 |.tuple xs,.int b,_,_=>by unfold i?;simp
 |.tuple xs,.tuple ys,h,h'=>by unfold i?;unfold cJ at h h';rw[v7 xs ys h h'];simp
 |.none,_,h,_|.bool _,_,h,_|.str _,_,h,_|.list _,_,h,_|.dict _,_,h,_=>by simp[cJ]at h
 |.int _,.none,_,h|.int _,.bool _,_,h|.int _,.str _,_,h|.int _,.list _,_,h|.int _,.dict _,_,h=>by simp[cJ]at h
 |.tuple _,.none,_,h|.tuple _,.bool _,_,h|.tuple _,.str _,_,h|.tuple _,.list _,_,h|.tuple _,.dict _,_,h=>by simp[cJ]at h
theorem v7:∀xs ys:List j!,fJ xs=d!->fJ ys=d!->(G? xs ys=d!↔xs=ys)
 |[],[],_,_=>by unfold G?;simp
 |[],_::_,_,_=>by unfold G?;simp
 |_::_,[],_,_=>by unfold G?;simp
 |x::r,y::t,h,h'=>by unfold fJ at h h';rw[k?]at h h';unfold G?;rw[k?,AF x y h.1 h'.1,v7 r t h.2 h'.2];simp
end
section
variable{prog:g?}{w:q?}{E:b?->d?->Prop}
mutual
theorem xm:∀(d:j!)(v:b?)(as:List c!)(A:A?)(s:d?)(Q:Int->d?->Prop),cJ d=d!->YK s.heap v d as->A.units+d.depth<K? ->
  Q (xi d) {s with toks:=s.toks+jr d}->n? (p! prog w) A (pyHash v) Q E s
 |.int n,_,_,A,s,Q,_,r,_,h=>by cases r;unfold xi jr at h;exact ϒ h
 |.tuple xs,_,_,A,s,Q,hk,r,hu,h=>by
  cases r with
  |@tuple a o vs n _ QV hg hc hd hr=>
   refine PySem.W.pyHash_slot (T:= "tuple") ⟨_,hg,hc⟩ F.slot_tuple_hash F.entry_tuple_hash (F.args_tuple_hash_1 _) (Ϙ _) (.inr (by unfold Xp at hu;lia)) ?_;show n? _ _ (ϝ (.ref a) >>= _) _ _ s;refine N7 (wpAny_tupleItemsOf hg hd ?_);refine N7 ?_;rw[<-Zc];refine tK xs vs.toList _ A.in1 s #[] _ (by unfold cJ at hk;exact hk) hr (by unfold Xp at hu;show A.units+1+_<_;lia) λb hb=>?_;show n? _ _ (retInt (À b.toList)) _ _ _;rw[hb];refine N7 (wpAny_mkInt (N8 ⟨_,_,rfl,?_⟩));unfold xi jr at h;simpa[Á]using h
 |.none,_,_,_,_,_,h,_,_,_|.bool _,_,_,_,_,_,h,_,_,_|.str _,_,_,_,_,_,h,_,_,_|.list _,_,_,_,_,_,h,_,_,_|.dict _,_,_,_,_,_,h,_,_,_=>by simp[cJ]at h
theorem tK:∀(xs:List j!)(vs:List b?)(as:List c!)(A:A?)(s:d?)(b:Array Int)(Q:Array Int->d?->Prop),fJ xs=d!->WY s.heap vs xs as->A.units+l? xs<K? ->
  (∀b',b'.toList=b.toList++mJ xs->Q b' {s with toks:=s.toks+pG xs}) ->
  n? (p! prog w) A (forIn vs b λx r=>do let h <-pyHash x;Xo PUnit.unit;Xo (X3 (r.push h))) Q E s
 |[],_,_,A,s,b,Q,_,r,_,h=>by cases r;exact N8 (h b (by simp[mJ]))
 |k::xs,_,_,A,s,b,Q,hk,r,hu,h=>by
  cases r with
  |cons x1 x2=>
   unfold fJ at hk;rw[k?]at hk;unfold l? at hu;rw[ž];refine N7 (N7 (xm k _ _ A s _ hk.1 x1 0x1 ?_));refine N7 (N8 (N8 ?_));refine tK xs _ _ A _ _ Q hk.2 x2 0x1 λb' hb=>?_;have:=h b' (by simp[hb,mJ]);unfold pG at this;simpa[Á]using this
end
theorem tw:∀(n:Nat)(d:j!)(v:b?)(as:List c!)(A:A?)(s:d?)(Q:Bool->d?->Prop),cJ d=d!->YK s.heap v d as->d.depth<=n->Q d! s->n? (p! prog w) A (eqIsQuiet n v) Q E s
 |n,.int i,_,_,A,s,Q,_,r,_,h=>by cases r;rw[eqIsQuiet_byValue n rfl];exact N8 h
 |0,.tuple xs,_,_,A,s,Q,hk,r,hn,h=>by unfold Xp at hn;lia
 |n+1,.tuple xs,_,_,A,s,Q,hk,r,hn,h=>by
  cases r with
  |@tuple a o vs m _ QV hg hc hd hr=>
   have hT:s.TypeIs (.ref a) "tuple" :=⟨_,hg,hc⟩;unfold eqIsQuiet;refine N7 (Zf hT F.slot_tuple_eq.lookup ?_);show n? _ _ (isInstance (.ref a) (.type "tuple") >>= _) _ _ s;refine N7 (Ă hT isSubtype_tuple_tuple ?_);simp only[Xj,o?,if_false];refine N7 (Ğ hg hd ?_);refine N7 ?_;show n? _ _ (forIn vs _ _) _ _ s;rw[<-Zc];refine YB _ (λbU r s'=>r.1=b!/\s'=s/\∃ys bs,WY s.heap bU ys bs/\fJ ys=d!/\l? ys<=n) _ ?_ ?_ _ _ ⟨rfl,rfl,xs,_,hr,(by unfold cJ at hk;exact hk),by unfold Xp at hn;lia⟩
   ·rintro v bU r s' ⟨hr',rfl,ys,bs,hy,ky,dy⟩;cases hy with
    |@cons _ _ d ds as1 UY y1 y2=>
     unfold fJ at ky;rw[k?]at ky;unfold l? at dy;refine N7 (tw n d v _ A s' _ ky.1 y1 0x1 ?_);simp only[Xj,o?,if_false];exact N8 ⟨rfl,rfl,ds,_,y2,ky.2,0x1⟩
   ·rintro⟨r1,r2⟩ s' ⟨hr',rfl,_⟩;simp only at hr';subst hr';exact N8 h
 |_,.none,_,_,_,_,_,h,_,_,_|_,.bool _,_,_,_,_,_,h,_,_,_|_,.str _,_,_,_,_,_,h,_,_,_|_,.list _,_,_,_,_,_,h,_,_,_|_,.dict _,_,_,_,_,_,h,_,_,_=>by simp[cJ]at h
mutual
theorem sV{h h':F!}{d:c!}{o:XQ}{es:Array ϛ}{ep:Nat}(ho:h.get? d=a! o)(hd:o.data=.dict es ep)(hs:Xg d h h'):∀(x:j!)(v:b?)(as:List c!),cJ x=d!->YK h v x as->YK h' v x as
 |.int n,_,_,_,r=>by cases r;exact .int _ _
 |.tuple xs,_,_,hk,r=>by
  cases r with
  |@tuple a o' vs m _ QV hg hc hq hr=>
   have P0:a≠d:=λe=>by subst e;rw[ho]at hg;cases hg;rw[hd]at hq;cases hq
   exact .tuple ((hs.2 a P0).trans hg) hc hq (sW ho hd hs xs _ _ (by unfold cJ at hk;exact hk) hr)
 |.none,_,_,h,_|.bool _,_,_,h,_|.str _,_,_,h,_|.list _,_,_,h,_|.dict _,_,_,h,_=>by simp[cJ]at h
theorem sW{h h':F!}{d:c!}{o:XQ}{es:Array ϛ}{ep:Nat}(ho:h.get? d=a! o)(hd:o.data=.dict es ep)(hs:Xg d h h'):∀(xs:List j!)(vs:List b?)(as:List c!),fJ xs=d!->WY h vs xs as->WY h' vs xs as
 |[],_,_,_,r=>by cases r;exact .nil
 |x::t,_,_,hk,r=>by
  unfold fJ at hk;rw[k?]at hk;cases r with
  |cons r1 r2=>exact .cons (sV ho hd hs x _ _ hk.1 r1) (sW ho hd hs t _ _ hk.2 r2)
end
noncomputable instance decD:DecidableEq PyData:=λo o=>aì _
def knd(prog:g?)(w:q?):HeapKind prog w j! where
 is:=λh d a=>cJ d=d!/\d.depth<=6/\∃as,YK h (.ref a) d as
 hash:=xi
 draws:=jr
 room:=λA=>A.units+16<K?
 inj:=λ⟨h1,_,_,r1⟩ ⟨_,_,_,r2⟩=>(PySem.SeqAt.Reads.unique _ _ _ _ _ (pU _ h1) r1 r2)
 keeps:=λ⟨h1,h2,as,r⟩ ho hd hs=>⟨h1,h2,as,sV ho hd hs _ _ _ h1 r⟩
 pyHash:=λhu ⟨h1,h2,as,r⟩ h=>xm _ _ as _ _ _ h1 r 0x1 h
 eqBool:=λhu ⟨h1,h2,as,r⟩ ⟨g1,g2,bs,r'⟩ h=>SeqAt.eqBoolOverData _ _ _ _ _ _ _ _ _ _ _ _ r r' (pU _ h1) (pU _ g1) 0x1 (by have e:=AF _ _ h1 g1;have q:i? _ _=decide _:=ð.mpr (e.trans (decide_eq_true_iff).symm);rwa[q])
 quiet:=λ⟨h1,h2,as,r⟩ h=>tw 8 _ _ as _ _ _ h1 r 0x1 h
end
mutual
inductive RpT(T:c!->List V->Prop):j!->V->Prop
 |int (i:Int):RpT T (.int i) (.int i)
 |tup {a:c!} {xs:List j!} {vs:List V}:T a vs->RpTL T xs vs->RpT T (.tuple xs) (.ref a)
inductive RpTL(T:c!->List V->Prop):List j!->List V->Prop
 |nil:RpTL T [] []
 |cons {d:j!} {v:V} {ds:List j!} {vs:List V}:RpT T d v->RpTL T ds vs->RpTL T (d::ds) (v::vs)
end
abbrev tv(H:Hp):c!->List V->Prop:=λb xs=>H b=a! (.tup xs)
mutual
theorem RpT.mono{T T':c!->List V->Prop}(k:∀b xs,T b xs->T' b xs):∀{d:j!}{v:V},RpT T d v->RpT T' d v
 |_,_,.int i=>.int i
 |_,_,.tup h l=>.tup (k _ _ h) (RpTL.mono k l)
theorem RpTL.mono{T T':c!->List V->Prop}(k:∀b xs,T b xs->T' b xs):∀{ds:List j!}{vs:List V},RpTL T ds vs->RpTL T' ds vs
 |_,_,.nil=>.nil
 |_,_,.cons r l=>.cons (RpT.mono k r) (RpTL.mono k l)
end
mutual
theorem RpT.reads{P:g?}{w:q?}{H:Hp}{h:F!}(ok:lV P w H h):∀{d:j!}{v:V}{u:b?},RpT (tv H) d v->bG v u->∃as,YK h u d as
 |_,_,_,.int i,r=>by obtain⟨t,rfl⟩:=r;exact⟨_,.int i t⟩
 |_,_,_,.tup (a:=a) q l,r=>by cases r;obtain⟨_,D',rv,o,e,c,n,dd⟩:=(show b8 P w H h a (.tup _)from ok a _ q);obtain⟨as,ra⟩:=RpTL.reads ok l rv;exact⟨_,.tuple e c dd (by simpa using ra)⟩
theorem RpTL.reads{P:g?}{w:q?}{H:Hp}{h:F!}(ok:lV P w H h):∀{ds:List j!}{vs:List V}{us:List b?},RpTL (tv H) ds vs->aT vs us->∃as,WY h us ds as
 |_,_,_,.nil,r=>by cases r;exact⟨_,.nil⟩
 |_,_,_,.cons p l,r=>by
  cases r with
  |cons r rr=>
   obtain⟨as,h1⟩:=RpT.reads ok p r;obtain⟨bs,h2⟩:=RpTL.reads ok l rr;exact⟨_,.cons h1 h2⟩
end
variable{n:Nat}
def Ky(h:n+64<K?):n+20<K?:=by lia
structure KR(T:c!->List V->Prop)(p:j!×V)(q:j!×c!×b?):Prop where
 eq:p.1=q.1
 bv:cJ p.1=d!
 deep:p.1.depth<=6
 at':RpT T p.1 (.ref q.2.1)
 val:bG p.2 q.2.2
structure DX(P:g?)(w:q?)(a:c!)(ca:List (j!×V))(T:c!->List V->Prop)(h:F!):Prop where
 sys:(a==YS)=e!
 len:ca.length<=sizeLine
 ex:∃xs,Yd (KR T) ca xs/\∃o es ep,h.get? a=a! o/\o.ExactDict/\o.data=.dict es ep/\es.toList=xs.map (Ν (knd P w))/\(xs.map (·.1)).Nodup
noncomputable def dO(P:g?)(w:q?)(a:c!)(ca:List (j!×V)):HO:=.ext (DX P w a ca)
variable{w:q?}{a:c!}{ca:List (j!×V)}{T:c!->List V->Prop}{h h':F!}
def DX.stay{P:g?}{T':c!->List V->Prop}(x:DX P w a ca T h)(k:∀b xs,T b xs->T' b xs)(ho:∀o,h.get? a=a! o->h'.get? a=a! o):DX P w a ca T' h':=by obtain⟨s,l,xs,r,o,es,ep,e,c⟩:=x;exact⟨s,l,xs,Paired.mapP r λp q z=>⟨z.eq,z.bv,z.deep,z.at'.mono k,z.val⟩,o,es,ep,ho o e,c⟩
def DX.obj{P:g?}(x:DX P w a ca T h):∃o,h.get? a=a! o:=by obtain⟨_,_,_,_,o,_,_,e,_⟩:=x;exact⟨o,e⟩
variable{s:d?}
def DX.type{P:g?}(x:DX P w a ca T s.heap):s.TypeIs (.ref a) "dict" /\∃o,s.heap.get? a=a! o/\o.dict=b!:=by obtain⟨_,_,_,_,o,_,_,e,c,_⟩:=x;exact⟨⟨o,e,c.1⟩,o,e,c.2.1⟩
variable{H:Hp}
def DX.dict{P:g?}(x:DX P w a ca (tv H) h)(ok:lV P w H h):∃xs,Yd (KR (tv H)) ca xs/\h.DictOfH (knd P w) a xs:=by
 obtain⟨_,_,xs,r,o,es,ep,e,c,d,f,n⟩:=x;refine⟨xs,r,o,es,ep,e,c,d,f,λx hx=>?_,n⟩;have all:∀{l:List (j!×V)}{m:List (j!×c!×b?)},Yd (KR (tv H)) l m->∀x∈m,(knd P w).is h x.1 x.2.1:=by
  intro l m q
  induction q with
  |nil=>intro x hx;exact nomatch hx
  |@cons p q ps qs hq t ih=>
   intro x hx;obtain e|hx:=Of.mp hx
   ·subst e;rw[<-hq.eq];exact⟨hq.bv,hq.deep,RpT.reads ok hq.at' rfl⟩
   ·exact ih x hx
 exact all r x hx
noncomputable def i7(ca:List (j!×V))(k:j!):Option V:=(ca.find? λx=>g! (x.1=k)).map (·.2)
def kL{xs:List (j!×c!×b?)}(r:Yd (KR T) ca xs)(k:j!):(i7 ca k=b!/\Þ xs k=b!)\/∃v p,i7 ca k=a! v/\Þ xs k=a! p/\bG v p.2:=by
 induction r with
 |nil=>exact .inl ⟨rfl,rfl⟩
 |@cons p q ps qs h t ih=>
  by_cases e:p.1=k
  ·have e':q.1=k:=h.eq.symm.trans e;exact .inr ⟨p.2,q.2,by simp[i7,T?,e],by simp[Þ,T?,e'],h.val⟩
  ·have e':¬q.1=k:=λz=>e (h.eq.trans z);have a:i7 (p::ps) k=i7 ps k:=by simp[i7,T?,e]
   have b:Þ (q::qs) k=Þ qs k:=by simp[Þ,T?,e']
   rwa[a,b]
def rS(ca:List (j!×V))(k:j!)(v:V):List (j!×V):=if(i7 ca k).isSome then ca.map λx=>if x.1=k then(x.1,v)else x else ca++[(k,v)]
variable{v:V}
def Ek{xs:List (j!×c!×b?)}{k:j!}{b:c!}{u:b?}(r:Yd (KR T) ca xs)(h1:cJ k=d!)(h2:k.depth<=6)(h3:RpT T k (.ref b))(h4:bG v u):
  Yd (KR T) (rS ca k v) (ς xs k b u):=by
 unfold rS;obtain⟨e1,e2⟩|⟨v',p,e1,e2,_⟩:=kL r k
 ·rw[e1,č e2];exact Υ r ⟨rfl,h1,h2,h3,h4⟩
 ·rw[e1,storedH_old e2];show Yd (KR T) (ca.map λx=>if x.1=k then(x.1,v)else x) (xs.map (putAt k u));clear e1 e2
  induction r with
  |nil=>exact .nil
  |@cons p q ps qs h t ih=>
   rw[f?,f?];refine .cons ?_ ih;unfold putAt;by_cases e:p.1=k
   ·rw[é e,é (h.eq.symm.trans e)];exact⟨h.eq,h.bv,h.deep,h.at',h4⟩
   ·rwa[è e,è (λz=>e (h.eq.trans z))]
def vK(ca:List (j!×V))(k:j!)(v:V):(rS ca k v).length<=ca.length+1:=by unfold rS;split <;>simp
section
variable{X:Cx}{a_:List (c!×XQ)}{σ:St}{H:Hp}{s:d?}{a b:c!}{ca:List (j!×V)}{k:j!}{u r:b?}{v:V}{A:A?}{E:b?->d?->Prop}
def Ie{P:g?}{H:Hp}{a:c!}{ca:List (j!×V)}(x:DX P w a ca (tv H) h):b8 P w H h a (dO P w a ca):=⟨x,x.obj,λo o o o x k ho=>x.stay k ho⟩
def zR{P:g?}{H:Hp}{a:c!}{ca:List (j!×V)}(ok:lV P w H h)(e:H a=a! (dO P w a ca)):DX P w a ca (tv H) h:=(show b8 P w H h a (.ext _)from ok a _ e).1
def qy{P:g?}(ok:lV P w H h)(h1:cJ k=d!)(h2:k.depth<=6)(h3:RpT (tv H) k (.ref b)):(knd P w).is h k b:=⟨h1,h2,RpT.reads ok h3 rfl⟩
variable{φ:(c!->List V->Prop)->F!->Prop}
def vk{o:HO}(e:H a=a! (.ext φ)):∀b xs,tv H b xs->tv (upd H a o) b xs:=λb xs q=>by show upd H a o b=_;rwa[aF (IA q e (λz=>nomatch z))]
def Ak{ψ:(c!->List V->Prop)->F!->Prop}(I:Inv X a_ σ H s)(e:H a=a! (.ext φ))(new:b8 X.prog X.w (upd H a (.ext ψ)) s.heap a (.ext ψ)):Inv X a_ σ (upd H a (.ext ψ)) s:=by have h:=I.write (x:=a) (e:=a) (h':=s.heap) (t':=s.toks) (by rw[e];exact YG) (.inl rfl) (λo o o q=>q) new.2.1 new;exact h
def wY{ψ:(c!->List V->Prop)->F!->Prop}{t:Nat}(I:Inv X a_ σ H s)(e:H a=a! (.ext φ))(hs:Xg a s.heap h')(new:b8 X.prog X.w (upd H a (.ext ψ)) h' a (.ext ψ)):Inv X a_ σ (upd H a (.ext ψ)) {s with heap:=h',toks:=t}:=I.write (x:=a) (e:=a) (by rw[e];exact YG) (.inl rfl) (λb u hb q=>(hs.2 b hb).trans q) new.2.1 new
def DX.put{P:g?}{xs:List (j!×c!×b?)}(e:H a=a! (.ext φ))(x:DX P w a ca (tv H) h)(B_:Yd (KR (tv H)) ca xs)(h1:cJ k=d!)(h2:k.depth<=6)(h3:RpT (tv H) k (.ref b))(rv:bG v u)(hl:ca.length<sizeLine)(dd:h'.DictOfH (knd P w) a (ς xs k b u)){o:HO}:DX P w a (rS ca k v) (tv (upd H a o)) h':=by obtain⟨ob,es,ep,q1,q2,q3,q4,_,q5⟩:=dd;exact⟨x.sys,Ow (vK ca k v) hl,_,Paired.mapP (Ek B_ h1 h2 h3 rv) λp q z=>⟨z.eq,z.bv,z.deep,z.at'.mono (vk e),z.val⟩,ob,es,ep,q1,q2,q3,q4,q5⟩
def IC{Q:b?->d?->Prop}{d:V}(hu:A.units+20<K?)(I:Inv X a_ σ H s)(x:DX X.prog X.w a ca (tv H) s.heap)(h1:cJ k=d!)(h2:k.depth<=6)(h3:RpT (tv H) k (.ref b))(rd:bG d r)(h:∀w' s',Inv X a_ σ H s'->bG ((i7 ca k).getD d) w'->Q w' s'):
  n? (p! X.prog X.w) A (call (.builtin "dict.get") [.ref a,.ref b,r]) Q E s:=by
 obtain⟨xs,B_,dd⟩:=x.dict I.hok;refine call_meetsIn Đ dd.typeIs PySem.F.entry_dict_get (PySem.F.args_dict_get_3 _ _ _) (meetsH_dict_get_default (knd X.prog X.w) a b x.sys r) ⟨(by show A.units+1+16<K?;lia),k,xs,qy I.hok h1 h2 h3,dd,h _ _ (I.tok _) ?_⟩;obtain⟨e1,e2⟩|⟨v,p,e1,e2,e3⟩:=kL B_ k
 ·rwa[e1,e2]
 ·rwa[e1,e2]
def sh{prog:g?}{A:A?}{E:b?->d?->Prop}{s:d?}{d a:c!}{xs:List (j!×c!×b?)}{k:j!}{dflt:b?}{Q:b?->d?->Prop}(hu:(knd prog w).room A)(P5:(knd prog w).is s.heap k a)(hm:s.heap.DictOfH (knd prog w) d xs)(SR:∀p,Þ xs k=a! p->Q p.2 {s with toks:=s.toks+jr k})(Rr:Þ xs k=b!->∀h',h'.DictOfH (knd prog w) d (ς xs k a dflt)->Xg d s.heap h'->Q dflt {s with heap:=h',toks:=s.toks+jr k})(hsz:xs.length<=sizeLine):n? (p! prog w) A (ğ d (.ref a) dflt) Q E s:=by
 obtain⟨o,es,ep,ho,hc,hd,he,his,hn⟩:=hm;unfold ğ
 try with_reducible refine XG ?_
 refine N7 ((knd prog w).pyHash hu P5 ?_);refine N7 (wpAny_dictFind_heap (s:={s with toks:=s.toks+(knd prog w).draws k}) hu P5 ho hd he his hn ?_ ?_)
 ·intro QL;have WA:k∉xs.map (·.1):=not_mem_keys_of_get QL;refine N7 (Yz (N7 (wpAny_updateDictKeys (hz:=by have e:=size_of_entries he;lia) (s:={s with toks:=s.toks+(knd prog w).draws k}) ho hd (N8 (Rr (ZD QL) _ ⟨_,_,ep+1,YW _ ho (Obj.isFreed_of_dict (Ĺ hd _)),
   hc.mapDictKeys _,Ĺ hd _,?_,?_,?_⟩ (S! ..))))))
  ·rw[č (ZD QL)];simp[he,Ν]
  ·rw[č (ZD QL)];intro x hx;obtain hx|hx:=Og.mp hx
   ·exact(knd prog w).keeps (his x hx) ho hd (S! ..)
   ·simp only[W4]at hx;subst hx;exact(knd prog w).keeps P5 ho hd (S! ..)
  ·rw[č (ZD QL)];rw[y?,Í];refine⟨hn,0x4,?_⟩;intro x hx y hy;simp only[f?,Xi,W4]at hy;subst hy;exact λe=>WA (e▸hx)
 ·intro j p hj;refine N7 (wpAny_dictEntries (s:={s with toks:=s.toks+(knd prog w).draws k}) ho hd ?_);rw[entry_at he j,hj];exact N7 (Yz (N8 (SR p (atKey_of_get hn hj))))
def nN{prog:g?}(d a:c!)(hd:(d==YS)=e!)(dflt:b?):
  MeetsIn prog w (X5.«dict.setdefault» ⟨[.ref d,.ref a,dflt],[]⟩) (λA R s=>(knd prog w).room A.in1/\∃k xs,(knd prog w).is s.heap k a/\s.heap.DictOfH (knd prog w) d xs/\xs.length<=sizeLine /\
   (∀p,Þ xs k=a! p->R (.ok (.ret p.2)) {s with toks:=s.toks+jr k}) /\
   (Þ xs k=b!->∀h',h'.DictOfH (knd prog w) d (ς xs k a dflt)->Xg d s.heap h'->R (.ok (.ret dflt)) {s with heap:=h',toks:=s.toks+jr k})):=
 .of_wp λA R s ⟨hu,k,xs,P5,hm,hz,h1,h2⟩=>by unfold X5.«dict.setdefault»;refine N7 ?_;unfold Builtin.Dict.keyAndDefault;refine N7 (wpAny_notOrdered_dict hm.typeIs ?_);show n? _ _ (Xo (d,z? a,a! dflt)) _ _ s;refine N8 ?_;show n? _ _ (if(d==YS)=d! then _ else(ğ d (.ref a) dflt >>= _)) _ _ s;rw[è (by rw[hd];exact z!)];exact N7 (sh hu P5 hm (λp hp=>N8 ⟨p.2,rfl,h1 p hp⟩) (λhn h' QZ QK=>N8 ⟨dflt,rfl,h2 hn h' QZ QK⟩) hz)
def t8{Q:b?->d?->Prop}{d:V}(hu:A.units+20<K?)(I:Inv X a_ σ H s)(e:H a=a! (dO X.prog X.w a ca))(h1:cJ k=d!)(h2:k.depth<=6)(h3:RpT (tv H) k (.ref b))(rd:bG d r)(hl:ca.length<sizeLine)(old:∀v w' s',i7 ca k=a! v->Inv X a_ σ H s'->bG v w'->Q w' s')(new:i7 ca k=b!->∀s',Inv X a_ σ (upd H a (dO X.prog X.w a (ca++[(k,d)]))) s'->Q r s'):
  n? (p! X.prog X.w) A (call (.builtin "dict.setdefault") [.ref a,.ref b,r]) Q E s:=by
 have x:=zR I.hok e;obtain⟨xs,B_,dd⟩:=x.dict I.hok;refine call_meetsIn Õ dd.typeIs PySem.F.entry_dict_setdefault (PySem.F.args_dict_setdefault_3 _ _ _) (nN a b x.sys r) ⟨(by show A.units+1+16<K?;lia),k,xs,qy I.hok h1 h2 h3,dd,by rw[<-Xs B_];exact x.len,λp hp=>?_,λhn h' UJ hs=>?_⟩
 ·obtain⟨e1,e2⟩|⟨v,p',e1,e2,e3⟩:=kL B_ k
  ·rw[hp]at e2;cases e2
  ·rw[hp]at e2;cases e2
   exact old v _ _ e1 (I.tok _) e3
 ·obtain⟨e1,e2⟩|⟨v,p',e1,e2,e3⟩:=kL B_ k
  ·refine new e1 _ ?_;have y:=x.put (o:=dO X.prog X.w a (ca++[(k,d)])) e B_ h1 h2 h3 rd hl UJ;have ev:rS ca k d=ca++[(k,d)]:=by unfold rS;rw[e1];rfl
   rw[ev]at y;exact wY I e hs (Ie y)
  ·rw[hn]at e2;cases e2
end
theorem v3{α:Type}:∀(l U:List α),l.Nodup->(∀x∈l,x∈U)->l.length<=U.length
 |[],_,_,_=>Ov _
 |x::r,U,hn,hs=>by
  classical
  rw[Xn]at hn;have hx:=hs x N2;have h:=v3 r (U.erase x) hn.2 λy hy=>by have P0:y≠x:=λe=>hn.1 (e▸hy);exact(List.mem_erase_of_ne P0).mpr (hs y (N1 _ hy))
  have e:=List.length_erase_of_mem hx;have hp:0<U.length:=List.length_pos_of_mem hx;rw[i!];lia
def Lr(f:j!->Option Int)(U:List j!)(ca:List (j!×V)):Prop:=∀p∈ca,p.1∈U/\∃i,f p.1=a! i/\p.2=.int i
def MX(P:g?)(w:q?)(a:c!)(f:j!->Option Int)(U:List j!)(T:c!->List V->Prop)(h:F!):Prop:=∃ca,Lr f U ca/\DX P w a ca T h
def NL(P:g?)(w:q?)(a:c!)(f:j!->Option Int)(U:List j!)(k:j!)(T:c!->List V->Prop)(h:F!):Prop:=∃ca,Lr f U ca/\(∃v,i7 ca k=a! v)/\DX P w a ca T h
noncomputable def mO(P:g?)(w:q?)(a:c!)(f:j!->Option Int)(U:List j!):HO:=.ext (MX P w a f U)
noncomputable def Ed(P:g?)(w:q?)(a:c!)(f:j!->Option Int)(U:List j!)(k:j!):HO:=.ext (NL P w a f U k)
section
variable{X:Cx}{a_:List (c!×XQ)}{σ:St}{H:Hp}{s:d?}{a b:c!}{f:j!->Option Int}{U:List j!}{k:j!}{u:b?}{A:A?}{E:b?->d?->Prop}
def HU{P:g?}{H:Hp}{a:c!}(hk:Lr f U ca)(x:DX P w a ca (tv H) h):b8 P w H h a (mO P w a f U):=⟨⟨ca,hk,x⟩,x.obj,λ_ _ _ _ ⟨l,q,x⟩ k ho=>⟨l,q,x.stay k ho⟩⟩
def CM{P:g?}{H:Hp}{a:c!}(hk:Lr f U ca)(hv:∃v,i7 ca k=a! v)(x:DX P w a ca (tv H) h):b8 P w H h a (Ed P w a f U k):=⟨⟨ca,hk,hv,x⟩,x.obj,λ_ _ _ _ ⟨l,q,z,x⟩ k ho=>⟨l,q,z,x.stay k ho⟩⟩
def pX(h:i7 ca k=a! v):(k,v)∈ca:=by
 unfold i7 at h;cases e:ca.find? λx=>g! (x.1=k)with
 |none=>rw[e]at h;cases h
 |some p=>
  rw[e]at h;cases h;have h1:=Zk e;have h2:p.1=k:=by simpa using ï e
  rwa[<-h2]
def Hh{xs:List (j!×c!×b?)}(r:Yd (KR T) ca xs):ca.map (·.1)=xs.map (·.1):=by
 induction r with
 |nil=>rfl
 |cons h t ih=>rw[f?,f?,ih,h.eq]
def DX.few{P:g?}{a:c!}(x:DX P w a ca T h)(hk:Lr f U ca):ca.length<=U.length:=by
 obtain⟨_,_,xs,r,_,_,_,_,_,_,_,n⟩:=x;have:=v3 (ca.map (·.1)) U (by rwa[Hh r]) λy hy=>by obtain⟨p,hp,rfl⟩:=Oh.mp hy;exact(hk p hp).1
 simpa using this
def EU{prog:g?}{A:A?}{E:b?->d?->Prop}{s:d?}{d a:c!}{k:j!}{xs:List (j!×c!×b?)}{Q:b?->d?->Prop}(hu:(knd prog w).room A.in1)(P5:(knd prog w).is s.heap k a)(hd:(d==YS)=e!)(hm:s.heap.DictOfH (knd prog w) d xs)(h:Q (.bool (!(Þ xs k).isSome)) {s with toks:=s.toks+(knd prog w).draws k}):n? (p! prog w) A (D? .NotIn (.ref a) (.ref d)) Q E s:=by
 show n? _ _ (do return .bool (!(<-contains (.ref d) (.ref a)))) Q E s;refine N7 ?_;unfold contains
 try with_reducible refine XG ?_
 refine N7 (Zf hm.typeIs æ.lookup ?_);show n? _ _ (if(a! (Value.builtin "dict.__contains__")==a! D!)=d! then _ else _) _ E s;rw[è (by rw[Ϙ];exact z!)];refine N7 (wpAny_callSpecialUnlessNone?_slot (name:=Ģ "__contains__") hm.typeIs æ
  (YC æ hm.typeIs entry_dict_contains ?_ (args_dict_contains _ _)))
 show n? _ _ (dictGet d (.ref a) >>= _) _ _ s;refine N7 (wpAny_dictGet_heap hu P5 hm ?_);cases hf:Þ xs k with
 |some v=>
  rw[hf]at h;show n? _ _ (ret (.bool d!)) _ _ _;exact N8 ⟨_,rfl,N? (N8 h)⟩
 |none=>
  rw[hf]at h;show n? _ _ (Builtin.Dict.pendingKey? d (.ref a) >>= _) _ _ _;exact N7 (wpAny_pendingKey_other hd (N8 ⟨_,rfl,N? (N8 h)⟩))
def GX{Q:b?->d?->Prop}(hu:A.units+20<K?)(I:Inv X a_ σ H s)(e:H a=a! (mO X.prog X.w a f U))(h1:cJ k=d!)(h2:k.depth<=6)(h3:RpT (tv H) k (.ref b))(no:∀s',Inv X a_ σ H s'->Q (.bool d!) s')(Ux:∀s',Inv X a_ σ (upd H a (Ed X.prog X.w a f U k)) s'->Q (.bool e!) s'):n? (p! X.prog X.w) A (D? .NotIn (.ref b) (.ref a)) Q E s:=by
 obtain⟨⟨ca,hk,x⟩,_⟩:=(show b8 X.prog X.w H s.heap a (.ext _)from I.hok a _ e);obtain⟨xs,B_,dd⟩:=x.dict I.hok;refine EU (by show A.units+1+16<K?;lia) (qy I.hok h1 h2 h3) x.sys dd ?_;obtain⟨e1,e2⟩|⟨v,p,e1,e2,e3⟩:=kL B_ k
 ·rw[e2];exact no _ (I.tok _)
 ·rw[e2];exact Ux _ (Ak (I.tok _) e (CM hk ⟨v,e1⟩ (x.stay (vk e) λo q=>q)))
def Lw{Q:b?->d?->Prop}(hu:A.units+20<K?)(I:Inv X a_ σ H s)(e:H a=a! (Ed X.prog X.w a f U k))(h1:cJ k=d!)(h2:k.depth<=6)(h3:RpT (tv H) k (.ref b))(h:∀i t s',f k=a! i->Inv X a_ σ (upd H a (mO X.prog X.w a f U)) s'->Q (.int i t) s'):n? (p! X.prog X.w) A (Ŗ (.ref a) (.ref b)) Q E s:=by
 obtain⟨⟨ca,hk,⟨v,hv⟩,x⟩,_⟩:=(show b8 X.prog X.w H s.heap a (.ext _)from I.hok a _ e);obtain⟨xs,B_,dd⟩:=x.dict I.hok;obtain⟨e1,_⟩|⟨v',p,e1,e2,e3⟩:=kL B_ k
 ·rw[hv]at e1;cases e1
 obtain⟨_,i,hi,QT⟩:=hk _ (pX e1);have So:v'=.int i:=QT;subst So;obtain⟨t,ht⟩:=e3;refine wpAny_getItem_heap (knd:=knd X.prog X.w) (by show A.units+1+16<K?;lia) (qy I.hok h1 h2 h3) dd e2 ?_;rw[ht];exact h i t _ hi (Ak (I.tok _) e (HU hk (x.stay (vk e) λo q=>q)))
def LJ{Q:Unit->d?->Prop}{i:Int}(hu:A.units+20<K?)(I:Inv X a_ σ H s)(e:H a=a! (mO X.prog X.w a f U))(h1:cJ k=d!)(h2:k.depth<=6)(h3:RpT (tv H) k (.ref b))(rv:bG (.int i) u)(hi:f k=a! i)(hU:k∈U)(hl:U.length<sizeLine)(h:∀s',Inv X a_ σ (upd H a (Ed X.prog X.w a f U k)) s'->Q () s'):n? (p! X.prog X.w) A (setItem (.ref a) (.ref b) u) Q E s:=by
 obtain⟨⟨ca,hk,x⟩,_⟩:=(show b8 X.prog X.w H s.heap a (.ext _)from I.hok a _ e);obtain⟨xs,B_,dd⟩:=x.dict I.hok;have A_:ca.length<sizeLine:=Zi (x.few hk) hl;refine wpAny_setItem_heap (knd:=knd X.prog X.w) (hsz:=by rw[<-Xs B_];exact x.len) (by show A.units+1+16<K?;lia) (qy I.hok h1 h2 h3) dd λh' UJ hs=>h _ ?_;have y:=x.put (o:=Ed X.prog X.w a f U k) e B_ h1 h2 h3 rv A_ UJ;refine wY I e hs (CM (ca:=rS ca k (.int i)) ?_ ?_ y)
 ·intro p hp;unfold rS at hp;split at hp
  ·obtain⟨q,hq,rfl⟩:=Oh.mp hp;by_cases eq:q.1=k
   ·rw[é eq];exact⟨by show q.1∈U;rwa[eq],i,by show f q.1=_;rwa[eq],rfl⟩
   ·rw[è eq];exact hk q hq
  ·obtain hp|hp:=Og.mp hp
   ·exact hk p hp
   ·simp only[W4]at hp;subst hp;exact⟨hU,i,hi,rfl⟩
 ·unfold rS;cases ev:i7 ca k with
  |none=>
   refine⟨.int i,?_⟩;show i7 (ca++[(k,V.int i)]) k=_;unfold i7 at ev ⊢;rw[Î];cases e2:ca.find? λx=>g! (x.1=k)with
   |none=>simp
   |some p=>rw[e2]at ev;cases ev
  |some v=>
   refine⟨.int i,?_⟩;show i7 (ca.map λx=>if x.1=k then(x.1,V.int i)else x) k=_;have hm:=pX ev;clear y ev x B_ hk A_ dd UJ hs h
   induction ca with
   |nil=>cases hm
   |cons p r ih=>
    by_cases ep:p.1=k
    ·simp[i7,T?,ep]
    ·rw[f?,è ep];have:i7 (p::r.map λx=>if x.1=k then(x.1,V.int i)else x) k=i7 (r.map λx=>if x.1=k then(x.1,V.int i)else x) k:=by simp[i7,T?,ep]
     rw[this];refine ih ?_;obtain z|z:=Of.mp hm
     ·rw[<-z]at ep;exact ê rfl ep
     ·exact z
end
abbrev D:=j!
mutual
inductive Rp(Z:List c!)(H:Hp):D->V->Prop
 |none:Rp Z H .none .non
 |bool (b:Bool):Rp Z H (.bool b) (.bl b)
 |int (i:Int):Rp Z H (.int i) (.int i)
 |str (x:w?):Β x=d!->Rp Z H (.str x) (.str x)
 |tup {a:c!} {xs:List D} {vs:List V}:a∉Z->H a=a! (.tup vs)->RpL Z H xs vs->Rp Z H (.tuple xs) (.ref a)
 |lst {a:c!} {xs:List D} {vs:List V}:a∉Z->H a=a! (.lst vs)->RpL Z H xs vs->Rp Z H (.list xs) (.ref a)
inductive RpL(Z:List c!)(H:Hp):List D->List V->Prop
 |nil:RpL Z H [] []
 |cons {d:D} {v:V} {ds:List D} {vs:List V}:Rp Z H d v->RpL Z H ds vs->RpL Z H (d::ds) (v::vs)
end
structure Kp(Z:List c!)(H:Hp)(Z':List c!)(H':Hp):Prop where
 keep:∀a o,a∉Z->H a=a! o->H' a=a! o
 new:∀a,a∈Z'->a∈Z\/H a=b!
variable{Z:List c!}{H':Hp}
def Kp.same(h:aE H H'):Kp Z H Z H':=⟨λa o q e=>h a o e,λq h=>.inl h⟩
def Kp.refl{Z:List c!}{H:Hp}:Kp Z H Z H:=.same (aE.refl H)
def Kp.at{Z Z':List c!}{H H':Hp}{a:c!}{u:HO}(k:Kp Z H Z' H')(hz:a∉Z)(e:H a=a! u):a∉Z'/\H' a=a! u:=⟨λh=>(k.new a h).elim hz λz=>(by rw[e]at z;cases z),k.keep a u hz e⟩
def aE.rd{u:HO}(h:aE H H')(r:Rd H a u):Rd H' a u:=by
 obtain e|⟨o,e⟩:=r
 ·exact .inl (h _ _ e)
 ·exact .inr ⟨o,h _ _ e⟩
mutual
theorem Rp.kp{Z Z':List c!}{H H':Hp}(k:Kp Z H Z' H'):∀{d:D}{v:V},Rp Z H d v->Rp Z' H' d v
 |_,_,.none=>.none
 |_,_,.bool b=>.bool b
 |_,_,.int i=>.int i
 |_,_,.str x h=>.str x h
 |_,_,.tup hz r l=>.tup (k.at hz r).1 (k.at hz r).2 (RpL.kp k l)
 |_,_,.lst hz r l=>.lst (k.at hz r).1 (k.at hz r).2 (RpL.kp k l)
theorem RpL.kp{Z Z':List c!}{H H':Hp}(k:Kp Z H Z' H'):∀{ds:List D}{vs:List V},RpL Z H ds vs->RpL Z' H' ds vs
 |_,_,.nil=>.nil
 |_,_,.cons r l=>.cons (Rp.kp k r) (RpL.kp k l)
end
def Kp.trans{Z Z1 Z2:List c!}{H H1 H2:Hp}(a:Kp Z H Z1 H1)(b:Kp Z1 H1 Z2 H2):Kp Z H Z2 H2:=by
 refine⟨λc o hc e=>?_,λc hc=>?_⟩
 ·exact b.keep c o (λh=>(a.new c h).elim hc λz=>by rw[e]at z;cases z) (a.keep c o hc e)
 ·obtain z|z:=b.new c hc
  ·exact a.new c z
  ·by_cases hz:c∈Z
   ·exact .inl hz
   ·refine .inr ?_;cases q:H c with
    |none=>rfl
    |some o=>rw[a.keep c o hz q]at z;cases z
def Kp.sub{Z':List c!}(h:∀a,a∈Z'->a∈Z):Kp Z H Z' H:=⟨λo o o e=>e,λa ha=>.inl (h a ha)⟩
theorem RpL.length{Z:List c!}{H:Hp}:∀{ds:List D}{vs:List V},RpL Z H ds vs->ds.length=vs.length
 |_,_,.nil=>rfl
 |_,_,.cons _ l=>by simp[RpL.length l]
theorem RpL.get{Z:List c!}{H:Hp}:∀{ds:List D}{vs:List V}{i:Nat}{d:D},RpL Z H ds vs->ds[i]?=a! d->∃v,vs[i]?=a! v/\Rp Z H d v
 |_,_,_,_,.nil,h=>by simp at h
 |_,_,0,_,.cons r _,h=>by simp at h;subst h;exact⟨_,rfl,r⟩
 |_,_,i+1,d,.cons _ l,h=>by obtain⟨v,e,r⟩:=RpL.get (i:=i) (d:=d) l (by simpa using h);exact⟨v,by simpa using e,r⟩
theorem RpL.append{Z:List c!}{H:Hp}:∀{ds es:List D}{vs us:List V},RpL Z H ds vs->RpL Z H es us->RpL Z H (ds++es) (vs++us)
 |_,_,_,_,.nil,s=>s
 |_,_,_,_,.cons r l,s=>.cons r (RpL.append l s)
theorem RpL.take{Z:List c!}{H:Hp}:∀{ds:List D}{vs:List V}(n:Nat),RpL Z H ds vs->RpL Z H (ds.take n) (vs.take n)
 |_,_,0,_=>.nil
 |_,_,_+1,.nil=>.nil
 |_,_,n+1,.cons r l=>.cons r (RpL.take n l)
theorem RpL.drop{Z:List c!}{H:Hp}:∀{ds:List D}{vs:List V}(n:Nat),RpL Z H ds vs->RpL Z H (ds.drop n) (vs.drop n)
 |_,_,0,l=>l
 |_,_,_+1,.nil=>.nil
 |_,_,n+1,.cons _ l=>RpL.drop n l
theorem RpL.rep{Z:List c!}{H:Hp}{ds:List D}{vs:List V}(h:RpL Z H ds vs):∀k:Nat,RpL Z H (p? k ds).flatten (p? k vs).flatten
 |0=>.nil
 |k+1=>by rw[J!,J!,x?,x?];exact h.append (RpL.rep h k)
mutual
theorem Rp.reads{X:Cx}{a_:List (c!×XQ)}{σ:St}{H:Hp}{s:d?}(I:Inv X a_ σ H s){Z:List c!}:∀{d:D}{v:V}{u:b?},Rp Z H d v->bG v u->∃as,YK s.heap u d as
 |_,_,_,.none,r=>by cases r;exact⟨_,.none⟩
 |_,_,_,.bool b,r=>by cases r;exact⟨_,.bool b⟩
 |_,_,_,.int i,r=>by obtain⟨t,rfl⟩:=r;exact⟨_,.int i t⟩
 |_,_,_,.str x _,r=>by obtain⟨t,rfl⟩:=r;exact⟨_,.str x t⟩
 |_,_,_,.tup hz q l,r=>by cases r;obtain⟨D',rv,⟨o,e,c,n,dd⟩,_⟩:=I.tuple (lA.of q);obtain⟨as,ra⟩:=RpL.reads I l rv;exact⟨_,.tuple e c dd (by simpa using ra)⟩
 |_,_,_,.lst hz q l,r=>by cases r;obtain⟨D',rv,⟨o,n,e,c,_,dd⟩,_⟩:=I.list (gu.of q);obtain⟨as,ra⟩:=RpL.reads I l rv;exact⟨_,.list e c dd (by simpa using ra)⟩
theorem RpL.reads{X:Cx}{a_:List (c!×XQ)}{σ:St}{H:Hp}{s:d?}(I:Inv X a_ σ H s){Z:List c!}:∀{ds:List D}{vs:List V}{us:List b?},RpL Z H ds vs->aT vs us->∃as,WY s.heap us ds as
 |_,_,_,.nil,r=>by cases r;exact⟨_,.nil⟩
 |_,_,_,.cons p l,r=>by
  cases r with
  |cons r rr=>
   obtain⟨as,h1⟩:=Rp.reads I p r;obtain⟨bs,h2⟩:=RpL.reads I l rr;exact⟨_,.cons h1 h2⟩
end
mutual
theorem Rp.lay{Z:List c!}{H:Hp}:∀{d:D}{v:V},Rp Z H d v->d.canLay0=d!
 |_,_,.none=>rfl
 |_,_,.bool _=>rfl
 |_,_,.int _=>rfl
 |_,_,.str x h=>by unfold W8;exact h
 |_,_,.tup _ _ l=>by unfold W8;exact RpL.lay l
 |_,_,.lst _ _ l=>by unfold W8;exact RpL.lay l
theorem RpL.lay{Z:List c!}{H:Hp}:∀{ds:List D}{vs:List V},RpL Z H ds vs->s? ds=d!
 |_,_,.nil=>rfl
 |_,_,.cons r l=>by unfold s?;rw[Rp.lay r,RpL.lay l];rfl
end
def KL(K:Oe)(a:c!)(xs:List V):Prop:=∃(o:XQ)(D':Array b?)(n:Nat),K.lookup a=a! o/\o.cls=.type "list" /\o.dict=b!/\o.data=.seq D' n/\D'.size<=sizeLine/\aT xs D'.toList
abbrev eA:=Int×Int
abbrev By:=List (eA×List (List eA))
noncomputable def tD(t:eA):D:=.tuple [.int t.1,.int t.2]
def wD(w:List eA):D:=.list (w.map tD)
inductive FzK where
 |dl (P:g?) (w:q?) (l:By)
 |tb (P:g?) (w:q?) (C:c!) (l:By) (f:j!->Option Int) (U:List j!)
inductive DV where
 |d (x:D)
 |ob (C:c!) (fs:List (w?×D))
 |fz (ca:FzK)
 |ex (q:c!)
 |tpo (p xs q:List D)
 |nwt (p xs q:List D)
 |own (xs:List D)
 |new (xs:List D)
 |scr (K:Oe) (ns:List Int)
abbrev DS:=List (Option DV)
def Iq(Z:List c!)(H:Hp):List (w?×D)->List (w?×V)->Prop:=Yd λ(p:w?×D)(q:w?×V)=>p.1=q.1/\Rp Z H p.2 q.2
def Fh(Z:List c!)(H:Hp)(C:c!)(fs:List (w?×D))(v:V):Prop:=∃a dx gs,v=.ref a/\a∉Z/\H a=a! (.ins C dx gs)/\Iq Z H fs gs
def Dp(Z:List c!)(H:Hp):By->List (D×V)->Prop:=Yd λ(p:eA×List (List eA))(q:D×V)=>q.1=tD p.1/\Rp Z H (.list (p.2.map wD)) q.2
def NW(Z:List c!)(H:Hp):FzK->c!->c!->Prop
 |.dl P w l,a,_=>a∉Z/\∃ca,H a=a! (dO P w a ca)/\Dp Z H l ca
 |.tb P w C l f U,a,dx=>a∉Z/\∃b k ca,H a=a! (.ins C dx [("by_least",.ref b),("known",.ref k)])/\b∉Z/\H b=a! (dO P w b ca)/\Dp Z H l ca/\k∉Z/\H k=a! (mO P w k f U)
def AG(Z:List c!)(H:Hp)(x:FzK)(v:V):Prop:=∃a dx,v=.ref a/\NW Z H x a dx
def NR(P Z:List c!)(H:Hp)(xs:List D)(v:V):Prop:=∃a vs,v=.ref a/\a∈P/\H a=a! (.lst vs)/\RpL Z H xs vs
def IU(P Z:List c!)(H:Hp)(p xs q:List D)(v:V):Prop:=∃t a ps vs qs,v=.ref t/\t∉Z/\H t=a! (.tup (ps++.ref a::qs))/\a∈P/\H a=a! (.lst vs)/\RpL Z H p ps/\RpL Z H xs vs/\RpL Z H q qs
def Cg(Z:List c!)(H H':Hp)(p xs q:List D)(v:V):Prop:=∃t a ps vs qs,v=.ref t/\t∉a::Z/\H' t=a! (.tup (ps++.ref a::qs))/\H a=b!/\H' a=a! (.lst vs)/\RpL (a::Z) H' p ps/\RpL (a::Z) H' xs vs/\RpL (a::Z) H' q qs
def sq(H:Hp):DV->V->c!->Prop
 |.own _,v,a=>v=.ref a
 |.tpo p _ _,v,a=>∃t vs,v=.ref t/\H t=a! (.tup vs)/\vs[p.length]?=a! (.ref a)
 |_,_,_=>False
noncomputable def FA:DV->Bool
 |.own _=>d!
 |.tpo _ _ _=>d!
 |_=>e!
variable{x:DV}
def sq.q(h:sq H x v a):FA x=d!:=by cases x <;>first|exact h.elim|rfl
def RE(O P:List c!)(H H':Hp):DV->V->Prop
 |.d x,v=>Rp (P++O) H' x v
 |.ob C fs,v=>Fh (P++O) H' C fs v
 |.fz ca,v=>AG (P++O) H' ca v
 |.ex q,v=>v=.ref q
 |.tpo p xs q,v=>IU P (P++O) H' p xs q v
 |.nwt p xs q,v=>Cg (P++O) H H' p xs q v
 |.own xs,v=>NR P (P++O) H' xs v
 |.new xs,v=>∃a vs,v=.ref a/\H a=b!/\H' a=a! (.lst vs)/\RpL (a::(P++O)) H' xs vs
 |.scr K ns,v=>∃a,v=.ref a/\((a∉P++O/\Rd H' a (.lst (ns.map V.int)))\/KL K a (ns.map V.int))
structure RS(O P:List c!)(H:Hp)(σ:St)(δ:DS):Prop where
 len:σ.length=δ.length
 dom:∀a,a∈P++O->∃o,H a=a! o
 apart:∀a,a∈P->a∉O
 at':∀(i:Nat)(x:DV),δ[i]?=a! (a! x)->∃v,σ[i]?=a! (a! v)/\(∀xs,x≠.new xs)/\RE O P H H x v
 one:∀(i j:Nat)(x y:DV)(v w:V)(a:c!),δ[i]?=a! (a! x)->δ[j]?=a! (a! y)->σ[i]?=a! (a! v)->σ[j]?=a! (a! w)->sq H x v a->sq H y w a->i=j
def IU.kp{P P' Z Z':List c!}{H H':Hp}(k:Kp Z H Z' H')(hP:∀a u,a∈P->H a=a! u->a∈P'/\H' a=a! u){p xs q:List D}{v:V}(h:IU P Z H p xs q v):IU P' Z' H' p xs q v:=by obtain⟨t,a,ps,vs,qs,e,hz,ht,hp,ha,l1,l2,l3⟩:=h;exact⟨t,a,ps,vs,qs,e,(k.at hz ht).1,(k.at hz ht).2,(hP a _ hp ha).1,(hP a _ hp ha).2,l1.kp k,l2.kp k,l3.kp k⟩
variable{xs q:List D}
def Cg.no{p:List D}(h:Cg Z H H p xs q v):False:=by obtain⟨t,a,ps,vs,qs,e,hz,ht,hn,ha,_⟩:=h;rw[hn]at ha;cases ha
variable{H1 H2:Hp}
def Cg.on{p:List D}(h:Cg Z H H1 p xs q v)(s:aE H1 H2):Cg Z H H2 p xs q v:=by obtain⟨t,a,ps,vs,qs,e,hz,ht,hn,ha,l1,l2,l3⟩:=h;exact⟨t,a,ps,vs,qs,e,hz,s _ _ ht,hn,s _ _ ha,l1.kp (.same s),l2.kp (.same s),l3.kp (.same s)⟩
variable{O P:List c!}
def sq.old(k:∀b o,b∉P++O->H b=a! o->H' b=a! o)(r:RE O P H H x v)(h:sq H' x v a):sq H x v a:=by
 cases x with
 |own xs=>exact h
 |tpo p xs q=>
  obtain⟨t,b,ps,vs,qs,e,hz,ht,_⟩:=r;obtain⟨t',us,e',Sf,hu⟩:=h;subst e;cases e';rw[k _ _ hz ht]at Sf;cases Sf;exact⟨t,_,rfl,ht,hu⟩
 |_=>exact h.elim
def sq.new(r:RE O P H H x v)(h:sq H x v a):a∈P:=by
 cases x with
 |own xs=>
  obtain⟨b,vs,e,hP,_⟩:=r;have h':v=.ref a:=h;rw[h']at e;cases e;exact hP
 |tpo p xs q=>
  obtain⟨t,b,ps,vs,qs,e,hz,ht,hP,_,l,_⟩:=r;obtain⟨t',us,e',Sf,hu⟩:=h;subst e;cases e';rw[ht]at Sf;cases Sf;rw[l.length,w! (N6 _),Yv]at hu;cases hu;exact hP
 |_=>exact h.elim
def Iq.kp{Z Z':List c!}{H H':Hp}(k:Kp Z H Z' H'){fs:List (w?×D)}{gs:List (w?×V)}(h:Iq Z H fs gs):Iq Z' H' fs gs:=Paired.mapP h λo o r=>⟨r.1,r.2.kp k⟩
def Fh.kp{Z Z':List c!}{H H':Hp}(k:Kp Z H Z' H'){C:c!}{fs:List (w?×D)}{v:V}(h:Fh Z H C fs v):Fh Z' H' C fs v:=by
 obtain⟨a,dx,gs,e,hz,ha,hf⟩:=h;refine⟨a,dx,gs,e,λVp=>?_,k.keep _ _ hz ha,hf.kp k⟩;obtain z|z:=k.new a Vp
 ·exact hz z
 ·rw[ha]at z;cases z
def Dp.kp{Z Z':List c!}{H H':Hp}(k:Kp Z H Z' H'){l:By}{ca:List (D×V)}(h:Dp Z H l ca):Dp Z' H' l ca:=Paired.mapP h λo o r=>⟨r.1,r.2.kp k⟩
def AG.kp{Z Z':List c!}{H H':Hp}(k:Kp Z H Z' H'){x:FzK}{v:V}(h:AG Z H x v):AG Z' H' x v:=by
 obtain⟨a,dx,e,h⟩:=h;refine⟨a,dx,e,?_⟩;cases x with
 |dl P w l=>
  obtain⟨hz,ca,ha,hl⟩:=h;exact⟨(k.at hz ha).1,ca,(k.at hz ha).2,hl.kp k⟩
 |tb P w C l f U=>
  obtain⟨hz,b,m,ca,ha,hb,eb,hl,hm,em⟩:=h;exact⟨(k.at hz ha).1,b,m,ca,(k.at hz ha).2,(k.at hb eb).1,(k.at hb eb).2,hl.kp k,(k.at hm em).1,(k.at hm em).2⟩
def RS.same{O P:List c!}{H H':Hp}{σ:St}{δ:DS}(r:RS O P H σ δ)(h:aE H H'):RS O P H' σ δ:=by
 refine⟨r.len,λa ha=>?_,r.apart,λi x e=>?_,λi j x y v w a e1 e2 e3 e4 o1 o2=>?_⟩
 ·obtain⟨o,e⟩:=r.dom a ha;exact⟨o,h a o e⟩
 ·obtain⟨v,e1,e2,e3⟩:=r.at' i x e;refine⟨v,e1,e2,?_⟩;cases x with
  |d x=>exact Rp.kp (.same h) e3
  |ob C fs=>exact Fh.kp (.same h) e3
  |fz ca=>exact AG.kp (.same h) e3
  |ex q=>exact e3
  |tpo p xs q=>exact IU.kp (.same h) (λa u hp ha=>⟨hp,h a u ha⟩) e3
  |nwt p xs q=>exact(Cg.no e3).elim
  |own xs=>
   obtain⟨a,vs,ev,hP,ha,hl⟩:=e3;exact⟨a,vs,ev,hP,h a _ ha,hl.kp (.same h)⟩
  |new xs=>exact ê rfl (e2 xs)
  |scr K ns=>
   obtain⟨a,ev,hz⟩:=e3;exact⟨a,ev,hz.imp (λz=>⟨z.1,aE.rd h z.2⟩) λz=>z⟩
 ·obtain⟨v',d1,_,r1⟩:=r.at' i x e1;obtain⟨w',d2,_,r2⟩:=r.at' j y e2;rw[e3]at d1;cases d1
  rw[e4]at d2;cases d2
  exact r.one i j x y v w a e1 e2 e3 e4 (o1.old (λb o k q=>h b o q) r1) (o2.old (λb o k q=>h b o q) r2)
def RE.on{O P:List c!}{H H1 H2:Hp}{x:DV}{v:V}(r:RE O P H H1 x v)(h:aE H1 H2):RE O P H H2 x v:=by
 cases x with
 |d x=>exact Rp.kp (.same h) r
 |ob C fs=>exact Fh.kp (.same h) r
 |fz ca=>exact AG.kp (.same h) r
 |ex q=>exact r
 |tpo p xs q=>exact IU.kp (.same h) (λa u hp ha=>⟨hp,h a u ha⟩) r
 |nwt p xs q=>exact Cg.on r h
 |own xs=>
  obtain⟨a,vs,ev,hP,ha,hl⟩:=r;exact⟨a,vs,ev,hP,h a _ ha,hl.kp (.same h)⟩
 |new xs=>
  obtain⟨a,vs,ev,hn,ha,hl⟩:=r;exact⟨a,vs,ev,hn,h a _ ha,hl.kp (.same h)⟩
 |scr K ns=>
  obtain⟨a,ev,hz⟩:=r;exact⟨a,ev,hz.imp (λz=>⟨z.1,aE.rd h z.2⟩) λz=>z⟩
def RE.from(r:RE O P H1 H2 x v)(h:aE H H1):RE O P H H2 x v:=by
 cases x with
 |d x=>exact r
 |ob C fs=>exact r
 |fz ca=>exact r
 |ex q=>exact r
 |tpo p xs q=>exact r
 |nwt p xs q=>
  obtain⟨t,a,ps,vs,qs,e,hz,ht,hn,ha,ll⟩:=r;exact⟨t,a,ps,vs,qs,e,hz,ht,h.free hn,ha,ll⟩
 |own xs=>exact r
 |new xs=>
  obtain⟨a,vs,ev,hn,ha,hl⟩:=r;exact⟨a,vs,ev,h.free hn,ha,hl⟩
 |scr K ns=>exact r
abbrev M(α:Type):=Option (Except b? α)
noncomputable def bd{α β:Type}(m:M α)(f:α->M β):M β:=match m with
 |none=>b!
 |some (.error c)=>a! (.error c)
 |some (.ok a)=>f a
noncomputable def rt{α:Type}(a:α):M α:=a! (.ok a)
variable{α β:Type}
@[simp] def aD(a:α)(f:α->M β):bd (rt a) f=f a:=rfl
@[simp] def Eu(a:α)(f:α->M β):bd (a! (.ok a)) f=f a:=rfl
@[simp] def uH(f:α->M β):bd (b!:M α) f=b!:=rfl
noncomputable def op{α:Type}(o:Option α):M α:=match o with
 |none=>b!
 |some a=>a! (.ok a)
@[simp] def aP(a:α):op (a! a)=rt a:=rfl
def aB{m:M α}{f:α->M β}{r:Except b? β}(h:bd m f=a! r):(∃a,m=a! (.ok a)/\f a=a! r)\/(∃c,m=a! (.error c)/\r=.error c):=by
 cases m with
 |none=>cases h
 |some e=>
  cases e with
  |ok a=>exact .inl ⟨a,rfl,h⟩
  |error c=>exact .inr ⟨c,rfl,by cases h;rfl⟩
noncomputable def yo:DV->Option D
 |.d x=>a! x
 |.new xs=>a! (.list xs)
 |.nwt p xs q=>a! (.tuple (p++.list xs::q))
 |_=>b!
noncomputable def jJ:DV->Option (List D)
 |.d (.list xs)=>a! xs
 |.own xs=>a! xs
 |.new xs=>a! xs
 |_=>b!
noncomputable def EJ:DV->Option DV
 |.d x=>a! (.d x)
 |.ob C fs=>a! (.ob C fs)
 |.fz ca=>a! (.fz ca)
 |.ex q=>a! (.ex q)
 |.new xs=>a! (.d (.list xs))
 |.nwt p xs q=>a! (.d (.tuple (p++.list xs::q)))
 |.scr K ns=>a! (.scr K ns)
 |_=>b!
@[simp] def Gm(K:Oe)(ns:List Int):EJ (.scr K ns)=a! (.scr K ns):=rfl
@[simp] def AN(x:D):yo (.d x)=a! x:=rfl
@[simp] def pJ(xs:List D):yo (.new xs)=a! (.list xs):=rfl
@[simp] def ES(xs:List D):jJ (.d (.list xs))=a! xs:=rfl
@[simp] def pN(xs:List D):jJ (.own xs)=a! xs:=rfl
@[simp] def pH(xs:List D):jJ (.new xs)=a! xs:=rfl
@[simp] def L1(x:D):EJ (.d x)=a! (.d x):=rfl
@[simp] def Jm(C:c!)(fs:List (w?×D)):EJ (.ob C fs)=a! (.ob C fs):=rfl
@[simp] def FG(xs:List D):EJ (.new xs)=a! (.d (.list xs)):=rfl
section
variable{O P:List c!}{H H':Hp}{x:DV}{v:V}
def mM(dom:∀a,a∈P++O->∃o,H a=a! o)(r:RE O P H H' (.new xs) v):Rp (P++O) H' (.list xs) v:=by obtain⟨a,vs,rfl,hn,ha,hl⟩:=r;refine .lst (λh=>?_) ha (hl.kp (.sub λb hb=>N1 _ hb));obtain⟨o,e⟩:=dom a h;rw[e]at hn;cases hn
def qz{p:List D}(dom:∀a,a∈P++O->∃o,H a=a! o)(r:RE O P H H' (.nwt p xs q) v):Rp (P++O) H' (.tuple (p++.list xs::q)) v:=by obtain⟨t,a,ps,vs,qs,rfl,hz,ht,hn,ha,l1,l2,l3⟩:=r;have k:Kp (a::(P++O)) H' (P++O) H':=.sub λb hb=>N1 _ hb;refine .tup (λh=>hz (N1 _ h)) ht (RpL.append (l1.kp k) (.cons (.lst (λh=>?_) ha (l2.kp k)) (l3.kp k)));obtain⟨o,e⟩:=dom a h;rw[e]at hn;cases hn
def RE.data{d:D}(dom:∀a,a∈P++O->∃o,H a=a! o)(r:RE O P H H' x v)(h:yo x=a! d):Rp (P++O) H' d v:=by
 cases x with
 |d y=>cases h;exact r
 |ob C fs=>cases h
 |fz ca=>cases h
 |ex q=>cases h
 |tpo p xs q=>cases h
 |nwt p xs q=>cases h;exact qz dom r
 |own xs=>cases h
 |new xs=>cases h;exact mM dom r
 |scr K ns=>cases h
def RE.list{xs:List D}(r:RE O P H H' x v)(h:jJ x=a! xs):∃a vs,v=.ref a/\H' a=a! (.lst vs)/\RpL (P++O) H' xs vs:=by
 cases x with
 |d y=>
  cases y <;>simp only[jJ]at h <;>try cases h
  have r':Rp (P++O) H' _ v:=r;cases r' with
  |lst hz q l=>exact⟨_,_,rfl,q,l⟩
 |ob C fs=>cases h
 |fz ca=>cases h
 |ex q=>cases h
 |tpo p xs q=>cases h
 |nwt p xs q=>cases h
 |own ys=>
  cases h;obtain⟨a,vs,rfl,hP,ha,hl⟩:=r;exact⟨a,vs,rfl,ha,hl⟩
 |new ys=>
  cases h;obtain⟨a,vs,rfl,hn,ha,hl⟩:=r;exact⟨a,vs,rfl,ha,hl.kp (.sub λb hb=>N1 _ hb)⟩
 |scr K ns=>cases h
def RE.arg{y:DV}(dom:∀a,a∈P++O->∃o,H a=a! o)(r:RE O P H H' x v)(h:EJ x=a! y):RE O P H H' y v:=by
 cases x with
 |d z=>cases h;exact r
 |ob C fs=>cases h;exact r
 |fz ca=>cases h;exact r
 |ex q=>cases h;exact r
 |tpo p xs q=>cases h
 |nwt p xs q=>cases h;exact qz dom r
 |own xs=>cases h
 |new xs=>cases h;exact mM dom r
 |scr K ns=>cases h;exact r
end
def Fn(E:XK)(O P:List c!)(H₀ H:Hp)(Q:VK):Except b? DV->Prop
 |.ok x=>∀v H',aE H H'->RE O P H₀ H' x v->Q v H'
 |.error c=>∀dx H',aE H H'->E c dx H'
def Fb(E:XK)(H:Hp)(Q:Bool->Hp->Prop):Except b? Bool->Prop
 |.ok b=>∀H',aE H H'->Q b H'
 |.error c=>∀dx H',aE H H'->E c dx H'
def mE(O P:List c!)(H H':Hp):List DV->List V->Prop:=Yd (RE O P H H')
def NN(E:XK)(O P:List c!)(H₀ H:Hp)(Q:List V->Hp->Prop):Except b? (List DV)->Prop
 |.ok xs=>∀vs H',aE H H'->mE O P H₀ H' xs vs->Q vs H'
 |.error c=>∀dx H',aE H H'->E c dx H'
variable{E:XK}{H₀:Hp}{Q:VK}{r:Except b? DV}
def Fn.on(h:Fn E O P H₀ H Q r)(s:aE H H1):Fn E O P H₀ H1 Q r:=by
 cases r with
 |ok x=>exact λv H' s' q=>h v H' (s.trans s') q
 |error c=>exact λdx H' s'=>h dx H' (s.trans s')
def Fb.on{Q:Bool->Hp->Prop}{r:Except b? Bool}(h:Fb E H Q r)(s:aE H H1):Fb E H1 Q r:=by
 cases r with
 |ok x=>exact λH' s'=>h H' (s.trans s')
 |error c=>exact λdx H' s'=>h dx H' (s.trans s')
def tE(E:XK)(f:DS->M DV):TE:=λσ H Q=>∃O P δ r,RS O P H σ δ/\f δ=a! r/\Fn E O P H H Q r
def DQ(E:XK)(f:DS->M Bool):TT:=λσ H Q=>∃O P δ r,RS O P H σ δ/\f δ=a! r/\Fb E H Q r
def Mw(E:XK)(f:DS->M (List DV)):TA:=λσ H Q=>∃O P δ r,RS O P H σ δ/\f δ=a! r/\NN E O P H H Q r
def PX(X:Cx)(E:XK)(e:E!)(f:DS->M DV):Prop:=PE X e (tE E f)
def PB(X:Cx)(E:XK)(e:E!)(f:DS->M Bool):Prop:=PT X e (DQ E f)
def wq(X:Cx)(E:XK)(es:List E!)(f:DS->M (List DV)):Prop:=PA X es (Mw E f)
section
variable{X:Cx}{E:XK}
variable{e:E!}
def PE.mono{t t':TE}(h:PE X e t)(m:∀σ H Q,t' σ H Q->t σ H Q):PE X e t':=λa_ s σ H Q I q=>h a_ s σ H Q I (m σ H Q q)
def PT.mono{t t':TT}(h:PT X e t)(m:∀σ H Q,t' σ H Q->t σ H Q):PT X e t':=λa_ s σ H Q I q=>h a_ s σ H Q I (m σ H Q q)
def PA.mono{es:List E!}{t t':TA}(h:PA X es t)(m:∀σ H Q,t' σ H Q->t σ H Q):PA X es t':=λce a_ s σ H Q I q=>h ce a_ s σ H Q I (m σ H Q q)
variable{σ:St}
def lT{f:DS->M DV}{g:DS->DV->M DV}{t:VK}(h:tE E (λδ=>bd (f δ) (g δ)) σ H Q)(k:∀O P δ x r v H1,RS O P H σ δ->RS O P H1 σ δ->aE H H1->RE O P H H1 x v->g δ x=a! r->Fn E O P H H1 Q r->t v H1):tE E f σ H t:=by
 obtain⟨O,P,δ,r,rs,e,q⟩:=h;obtain⟨x,e1,e2⟩|⟨c,e1,e2⟩:=aB e
 ·exact⟨O,P,δ,.ok x,rs,e1,λv H1 s1 re=>k O P δ x r v H1 rs (rs.same s1) s1 re e2 (q.on s1)⟩
 ·subst e2;exact⟨O,P,δ,.error c,rs,e1,q⟩
def u6{f:DS->M DV}{g:DS->DV->M Bool}{Q:Bool->Hp->Prop}{t:VK}(h:DQ E (λδ=>bd (f δ) (g δ)) σ H Q)(k:∀O P δ x r v H1,RS O P H σ δ->RS O P H1 σ δ->aE H H1->RE O P H H1 x v->g δ x=a! r->Fb E H1 Q r->t v H1):tE E f σ H t:=by
 obtain⟨O,P,δ,r,rs,e,q⟩:=h;obtain⟨x,e1,e2⟩|⟨c,e1,e2⟩:=aB e
 ·exact⟨O,P,δ,.ok x,rs,e1,λv H1 s1 re=>k O P δ x r v H1 rs (rs.same s1) s1 re e2 (q.on s1)⟩
 ·subst e2;exact⟨O,P,δ,.error c,rs,e1,q⟩
def yg{f:DS->M Bool}{g:DS->Bool->M Bool}{Q:Bool->Hp->Prop}{t:Bool->Hp->Prop}(h:DQ E (λδ=>bd (f δ) (g δ)) σ H Q)(k:∀O P δ x r H1,RS O P H σ δ->RS O P H1 σ δ->aE H H1->g δ x=a! r->Fb E H1 Q r->t x H1):DQ E f σ H t:=by
 obtain⟨O,P,δ,r,rs,e,q⟩:=h;obtain⟨x,e1,e2⟩|⟨c,e1,e2⟩:=aB e
 ·exact⟨O,P,δ,.ok x,rs,e1,λH1 s1=>k O P δ x r H1 rs (rs.same s1) s1 e2 (q.on s1)⟩
 ·subst e2;exact⟨O,P,δ,.error c,rs,e1,q⟩
def af(i:Nat)(δ:DS):M DV:=op ((δ[i]?).join)
variable{ce:YU}
def ag(i:Nat){x:w?}(h:PE X (.Name x ce) (hV i)):PX X E (.Name x ce) (af i):=PE.mono h λσ H Q q=>by
 obtain⟨O,P,δ,r,rs,e,q⟩:=q;unfold af at e;cases ed:δ[i]? with
 |none=>rw[ed]at e;cases e
 |some o=>
  cases o with
  |none=>rw[ed]at e;cases e
  |some y=>
   rw[ed]at e;cases e;obtain⟨v,e1,e2,e3⟩:=rs.at' i y ed;exact⟨v,e1,q v H (aE.refl H) e3⟩
def eC(x:D)(_:DS):M DV:=rt (.d x)
def t4{x:D}(h:PE X e (tC v))(hr:∀Z H,Rp Z H x v):PX X E e (eC x):=PE.mono h λσ H Q q=>by obtain⟨O,P,δ,r,rs,e,q⟩:=q;cases e;exact q v H (aE.refl H) (hr _ _)
def aj{i:Int}{j ce}:PX X E (.Constant (.int i) j ce) (eC (.int i)):=t4 JC λo o=>.int i
def oP{b:Bool}{j ce}:PX X E (.Constant (.bool b) j ce) (eC (.bool b)):=t4 Lk λo o=>.bool b
def jN{x:w?}{j ce}(hx:Β x=d!):PX X E (.Constant (.str x) j ce) (eC (.str x)):=t4 CU λo o=>.str x hx
def Gc{x:w?}{i:Int}{t:Tok}(hg:Gl X x)(hm:X.mg x=a! (.int i t))(hd:(x==("__debug__" : w?))=e!:=by decide):PX X E (.Name x ce) (eC (.int i)):=t4 (v:=.int i) (Ht hg hm ⟨t,rfl⟩ hd) λo o=>.int i
def hW(X:Cx)(E:XK)(f:b?->b?->ý b?)(g:DV->DV->M DV):Prop:=∀(a_:List (c!×XQ))(s:d?)(σ:St)(O P:List c!)(H₀ H:Hp)(x y:DV)(v u:V)(vv uu:b?)(r:Except b? DV)(Q:VK),Inv X a_ σ H s->(∀a,a∈P++O->∃o,H₀ a=a! o)->aE H₀ H ->
  RE O P H₀ H x v->RE O P H₀ H y u->bG v vv->bG u uu->g x y=a! r->Fn E O P H₀ H Q r->n? (p! X.prog X.w) X.A (f vv uu) (EP X a_ σ Q) X.xe s
def e2(g:DV->DV->M DV)(fa fb:DS->M DV)(δ:DS):M DV:=bd (fa δ) λx=>bd (fb δ) λy=>g x y
variable{g:DV->DV->M DV}
def hW.rule{f:b?->b?->ý b?}{R:R2}(ho:ti X f R)(h:∀(O P:List c!)(H₀ H:Hp)(x y:DV)(v u:V)(r:Except b? DV)(Q:VK),(∀a,a∈P++O->∃o,H₀ a=a! o)->aE H₀ H->RE O P H₀ H x v->RE O P H₀ H y u->g x y=a! r->Fn E O P H₀ H Q r->R v u H Q):hW X E f g:=λa_ s σ O P H₀ H x y v u vv uu r Q I hd hs rx ry ev eu e q=>ho a_ s σ H v u vv uu Q I ev eu (h O P H₀ H x y v u r Q hd hs rx ry e q)
variable{fa fb:DS->M DV}
def t2(h:tE E (e2 g fa fb) σ H Q){t:V->V->Hp->Prop}(k:∀O P x y r v u H1,(∀a,a∈P++O->∃o,H a=a! o)->aE H H1->RE O P H H1 x v->RE O P H H1 y u->g x y=a! r->Fn E O P H H1 Q r->t v u H1):
  tE E fa σ H λv H1=>tE E fb σ H1 λu H2=>t v u H2:=by
 refine lT (g:=λδ x=>bd (fb δ) λy=>g x y) h λO P δ x r v H1 rs OK s1 rx e q=>?_;obtain⟨y,e1,e2⟩|⟨c,e1,e2⟩:=aB e
 ·refine⟨O,P,δ,.ok y,OK,e1,λu H2 s2 ry=>k O P x y r v u H2 rs.dom (s1.trans s2) (rx.on s2) (ry.from s1) e2 (q.on s2)⟩
 ·subst e2;exact⟨O,P,δ,.error c,OK,e1,q⟩
def aJ{a b:E!}{o:Operator}(ho:hW X E (W_ o) g)(ha:PX X E a fa)(hb:PX X E b fb):PX X E (.BinOp a o b ce) (e2 g fa fb):=by
 intro a_ s σ H Q I h;exact wpAny_BinOp (Nb ha hb I (t2 h (t:=λv u H1=>∃O P x y r,(∀a,a∈P++O->∃o,H a=a! o)/\aE H H1/\RE O P H H1 x v/\RE O P H H1 y u/\g x y=a! r/\Fn E O P H H1 Q r) λO P x y r v u H1 h1 h2 h3 h4 h5 h6=>⟨O,P,x,y,r,h1,h2,h3,h4,h5,h6⟩)
  λvv uu s2 v u H2 I2 rv ru ⟨O,P,x,y,r,h1,h2,h3,h4,h5,h6⟩=>ho a_ s2 σ O P H H2 x y v u vv uu r Q I2 h1 h2 h3 h4 rv ru h5 h6)
def oI{a b:E!}{o:đ}(ho:hW X E (D? o) g)(ha:PX X E a fa)(hb:PX X E b fb)(hm:XZ o b=e!:=by first|exact yb _|rfl):PX X E (.Compare a [o] [b] ce) (e2 g fa fb):=by
 intro a_ s σ H Q I h;exact wpAny_Compare1 (Nb ha hb I (t2 h (t:=λv u H1=>∃O P x y r,(∀a,a∈P++O->∃o,H a=a! o)/\aE H H1/\RE O P H H1 x v/\RE O P H H1 y u/\g x y=a! r/\Fn E O P H H1 Q r) λO P x y r v u H1 h1 h2 h3 h4 h5 h6=>⟨O,P,x,y,r,h1,h2,h3,h4,h5,h6⟩)
  λvv uu s2 v u H2 I2 rv ru ⟨O,P,x,y,r,h1,h2,h3,h4,h5,h6⟩=>ho a_ s2 σ O P H H2 x y v u vv uu r Q I2 h1 h2 h3 h4 rv ru h5 h6) hm
def gI(C:Int->Int->Bool)(h:Int->Int->D)(x y:DV):M DV:=match x,y with
 |.d (.int i),.d (.int j)=>if C i j=d! then rt (.d (h i j))else b!
 |_,_=>b!
set_option tactic.hygienic true in
def wF{C:Int->Int->Bool}{h:Int->Int->D}{y:DV}(e:gI C h x y=a! r):∃i j,x=.d (.int i)/\y=.d (.int j)/\C i j=d!/\r=.ok (.d (h i j)):=by
 unfold gI at e;split at e
 ·rename_i i j;split at e
  ·cases e;exact⟨i,j,rfl,rfl,by assumption,rfl⟩
  ·cases e
 ·cases e
def uy{f:b?->b?->ý b?}{C:Int->Int->Bool}{CP:Int->Int->Prop}{h:Int->Int->D}{hv:Int->Int->V}(ho:ti X f (rI CP hv))(hC:∀i j,C i j=d!->CP i j)(hr:∀i j Z H,Rp Z H (h i j) (hv i j)):hW X E f (gI C h):=hW.rule ho λO P H₀ H x y v u r Q hd hs rx ry e q=>by
  obtain⟨i,j,rfl,rfl,hc,rfl⟩:=wF e;cases rx;cases ry
  exact⟨i,j,rfl,rfl,hC i j hc,q _ H (aE.refl H) (hr i j _ _)⟩
noncomputable def xA(_ _:Int):Bool:=d!
def iM{f:b?->b?->ý b?}{h:Int->Int->D}{hv:Int->Int->V}(ho:ti X f (F7 hv))(hr:∀i j Z H,Rp Z H (h i j) (hv i j)):hW X E f (gI xA h):=hW.rule ho λO P H₀ H x y v u r Q hd hs rx ry e q=>by
  obtain⟨i,j,rfl,rfl,hc,rfl⟩:=wF e;cases rx;cases ry
  exact⟨i,j,rfl,rfl,q _ H (aE.refl H) (hr i j _ _)⟩
def yf:=gI xA λi j=>.int (i+j)
def gSub:=gI xA λi j=>.int (i-j)
noncomputable def uR(i j:Int):Bool:=(g! (-(2 ^ 64)<i)&&g! (i<2 ^ 64))||(g! (-(2 ^ 64)<j)&&g! (j<2 ^ 64))
def JQ:=gI uR λi j=>.int (i*j)
noncomputable def J3(_ j:Int):Bool:=g! (0<j)&&g! (j<1073741824)
def E5:=gI J3 λi j=>.int (i / j)
noncomputable def IH(_ j:Int):Bool:=g! (0<j)
def lB:=gI IH λi j=>.int (i % j)
def MP:=gI xA λi j=>.bool (g! (i<j))
def Mx:=gI xA λi j=>.bool (g! (i<=j))
def xp:=gI xA λi j=>.bool (g! (j<i))
def Fi:=gI xA λi j=>.bool (g! (j<=i))
def Kk:hW X E (W_ .Add) yf:=iM JM λo o o o=>.int _
def fQ:hW X E (W_ .Sub) gSub:=iM Kz λo o o o=>.int _
def II:hW X E (W_ .Mult) JQ:=uy JE (λi j h=>by simpa[uR,Gu]using h) λo o o o=>.int _
def Ci:hW X E (W_ .FloorDiv) E5:=uy Hz (λi j h=>by simpa[J3,Ma]using h) λo o o o=>.int _
def kl:hW X E (W_ .Mod) lB:=uy Je (λi j h=>by simpa[IH]using h) λo o o o=>.int _
def LK:hW X E (D? .Lt) MP:=iM Lj λo o o o=>.bool _
def Mm:hW X E (D? .LtE) Mx:=iM L0 λo o o o=>.bool _
def wW:hW X E (D? .Gt) xp:=iM La λo o o o=>.bool _
def wm:hW X E (D? .GtE) Fi:=iM KY λo o o o=>.bool _
end
noncomputable def cI(st:Bool)(i j:Int):Bool:=if st=d! then g! (i<j)else g! (i<=j)
noncomputable def cS(st:Bool)(x y:w?):Bool:=if st=d! then g! (x.cps.toList<y.cps.toList)else !g! (y.cps.toList<x.cps.toList)
mutual
def cD(st:Bool):j!->j!->Option Bool
 |.int i,.int j=>a! (cI st i j)
 |.str x,.str y=>a! (cS st x y)
 |.tuple xs,.tuple ys=>cL st xs ys
 |_,_=>b!
def cL(st:Bool):List j!->List j!->Option Bool
 |[],[]=>a! (!st)
 |[],_::_=>a! d!
 |_::_,[]=>a! e!
 |x::xs,y::ys=>if i? x y=d! then cL st xs ys else cD st x y
end
noncomputable def NB(st:Bool):đ:=if st=d! then .Lt else .LtE
def Mz(A:A?)(s:d?)(st:Bool)(a b:b?)(k:Bool):Prop:=∀(prog:g?)(w:q?)(E:b?->d?->Prop)(Q:b?->d?->Prop),Q (.bool k) s->n? (p! prog w) A (Ď (NB st) a b) Q E s
def wX{st:Bool}{k:Bool}:∀{xs ys:List j!}{vs ws:List b?}{as bs:List c!}{h:F!},WY h vs xs as->WY h ws ys bs->vs.zip ws=[]->cL st xs ys=a! k ->
  k=(if st=d! then g! (vs.length<ws.length)else g! (vs.length<=ws.length))
 |_,_,_,_,_,_,_,.nil,.nil,_,e=>by unfold cL at e;cases e;cases st <;>rfl
 |_,_,_,_,_,_,_,.nil,.cons _ _,_,e=>by unfold cL at e;cases e;cases st <;>simp
 |_,_,_,_,_,_,_,.cons _ _,.nil,_,e=>by unfold cL at e;cases e;cases st <;>simp
 |_,_,_,_,_,_,_,.cons _ _,.cons _ _,z,_=>by cases z
section
open PySem.SeqAt
open PySem.AutoSeq1 (wpAny_loadPart')
open PySem.MeetsSeq PySem.MeetsSeq2 PySem.MeetsSeq3
def sd(l b:c!)(items G':Array b?)(n n2:Nat)(dd QA:Option c!)(sl Qq:Array (Option b?))(xs ys:List j!)(k:Bool)(hk:cL d! xs ys=a! k)(ih:∀(A:A?)(s:d?)(x y:j!)(a c:b?)(as bs:List c!)(j:Bool),x∈xs->YK s.heap a x as->YK s.heap c y bs->x.canLay0=d!->y.canLay0=d!->A.units+x.depth<K?->cD d! x y=a! j->Mz A s d! a c j):
  ϋ (X5.«tuple.__lt__» ⟨[.ref l,.ref b],[]⟩)
   (λA R s=>s.heap.get? l=a! {cls:=.type "tuple",dict:=dd,data:=.seq items n,slots:=sl}/\s.heap.get? b=a! {cls:=.type "tuple",dict:=QA,data:=.seq G' n2,slots:=Qq} /\
    (∃as,WY s.heap items.toList xs as)/\(∃as,WY s.heap G'.toList ys as)/\s? xs=d!/\s? ys=d!/\A.units+1+l? xs<K?/\R (.ok (.ret (.bool k))) s):=
 .of_wp λprog w A R s h=>by
  obtain⟨hp,g,d,tk,os⟩:=s;obtain⟨hl,hb,⟨as,hi⟩,⟨bs,hj⟩,c1,c2,hu,h⟩:=h
  have f2:=í
  wp_walk using I? hl,I? hb,YB _ (λbU b s'=>b.1=b!/\s'=⟨hp,g,d,tk,os⟩/\∃(vs ws:List b?)(Qw Rk:List j!)(QV Sz:List c!),bU=vs.zip ws /\
   WY hp vs Qw QV/\WY hp ws Rk Sz/\vs.length+G'.size=ws.length+items.size/\(∀x∈Qw,x∈xs)/\s? Qw=d!/\s? Rk=d!/\l? Qw<=l? xs/\cL d! Qw Rk=a! k) _
  case turn=>
   rintro⟨y,x⟩ bU b s' ⟨Pc,rfl,vs,ws,Qw,Rk,QV,Sz,hz,SI,SN,f_,OO,l1,l2,Q1,hc⟩;cases SI with
   |nil=>rw[Ť]at hz;cases hz
   |@cons v1 vs1 x1 xs1 a1 as1 rv SF=>
    cases SN with
    |nil=>rw[Ō]at hz;cases hz
    |@cons w1 ws1 y1 ys1 b1 UY rw1 SJ=>
     rw[Â]at hz
     injection hz with hyx QR
     injection hyx with hy hx
     subst hy hx;unfold s? at l1 l2;rw[k?]at l1 l2;unfold cL at hc;have RU:l? (x1::xs1)=max x1.depth (l? xs1):=by rw[l?]
     rw[RU]at Q1;simp only[i!]at f_;have he:=eqAt_reads x1 y1 A.in1 ⟨hp,g,d,tk,os⟩ _ _ _ _ rv rw1 l1.1 l2.1 (by show A.units+1+_<K?;lia);refine N7 (he prog w _ _ ?_);cases e:i? x1 y1 with
     |true=>
      rw[e,é rfl]at hc
      wp_walk
      exact⟨rfl,rfl,_,_,_,_,_,_,QR,SF,SJ,0x1,λz hz=>OO z (N1 _ hz),l1.2,l2.2,0x1,hc⟩
     |false=>
      rw[e,è z!]at hc;have UG:∀(E:b?->d?->Prop)(Q:b?->d?->Prop),Q (.bool k) ⟨hp,g,d,tk,os⟩->n? (p! prog w) A.in1 (Ď .Lt _ _) Q E ⟨hp,g,d,tk,os⟩:=ih A.in1 ⟨hp,g,d,tk,os⟩ x1 y1 _ _ _ _ k (OO x1 N2) rv rw1 l1.1 l2.1 (by show A.units+1+_<K?;lia) hc prog w
      wp_walk using UG
      exact⟨_,rfl,by simpa using h⟩
  case fin=>
   rintro⟨b1,b2⟩ s' ⟨Pc,rfl,vs,ws,Qw,Rk,QV,Sz,hz,SI,SN,f_,OO,l1,l2,Q1,hc⟩;simp only at Pc;subst Pc;have hv:=wX SI SN hz.symm hc;simp only[if_true]at hv;have So:g! (vs.length<ws.length)=g! (items.size<G'.size):=by
    by_cases q:vs.length<ws.length
    ·rw[Oz q,Oz 0x1]
    ·rw[Oy q,Oy 0x1]
   rw[So]at hv;rw[hv]at h
   wp_walk
   exact⟨_,rfl,by simpa[ZK]using h⟩
  case h=>
   exact⟨rfl,rfl,items.toList,G'.toList,xs,ys,as,bs,rfl,hi,hj,by simp;lia,λo hx=>hx,c1,c2,N6 _,hk⟩
def rZ(l b:c!)(items G':Array b?)(n n2:Nat)(dd QA:Option c!)(sl Qq:Array (Option b?))(xs ys:List j!)(k:Bool)(hk:cL e! xs ys=a! k)(ih:∀(A:A?)(s:d?)(x y:j!)(a c:b?)(as bs:List c!)(j:Bool),x∈xs->YK s.heap a x as->YK s.heap c y bs->x.canLay0=d!->y.canLay0=d!->A.units+x.depth<K?->cD e! x y=a! j->Mz A s e! a c j):
  ϋ (X5.«tuple.__le__» ⟨[.ref l,.ref b],[]⟩)
   (λA R s=>s.heap.get? l=a! {cls:=.type "tuple",dict:=dd,data:=.seq items n,slots:=sl}/\s.heap.get? b=a! {cls:=.type "tuple",dict:=QA,data:=.seq G' n2,slots:=Qq} /\
    (∃as,WY s.heap items.toList xs as)/\(∃as,WY s.heap G'.toList ys as)/\s? xs=d!/\s? ys=d!/\A.units+1+l? xs<K?/\R (.ok (.ret (.bool k))) s):=
 .of_wp λprog w A R s h=>by
  obtain⟨hp,g,d,tk,os⟩:=s;obtain⟨hl,hb,⟨as,hi⟩,⟨bs,hj⟩,c1,c2,hu,h⟩:=h
  have f2:=í
  wp_walk using I? hl,I? hb,YB _ (λbU b s'=>b.1=b!/\s'=⟨hp,g,d,tk,os⟩/\∃(vs ws:List b?)(Qw Rk:List j!)(QV Sz:List c!),bU=vs.zip ws /\
   WY hp vs Qw QV/\WY hp ws Rk Sz/\vs.length+G'.size=ws.length+items.size/\(∀x∈Qw,x∈xs)/\s? Qw=d!/\s? Rk=d!/\l? Qw<=l? xs/\cL e! Qw Rk=a! k) _
  case turn=>
   rintro⟨y,x⟩ bU b s' ⟨Pc,rfl,vs,ws,Qw,Rk,QV,Sz,hz,SI,SN,f_,OO,l1,l2,Q1,hc⟩;cases SI with
   |nil=>rw[Ť]at hz;cases hz
   |@cons v1 vs1 x1 xs1 a1 as1 rv SF=>
    cases SN with
    |nil=>rw[Ō]at hz;cases hz
    |@cons w1 ws1 y1 ys1 b1 UY rw1 SJ=>
     rw[Â]at hz
     injection hz with hyx QR
     injection hyx with hy hx
     subst hy hx;unfold s? at l1 l2;rw[k?]at l1 l2;unfold cL at hc;have RU:l? (x1::xs1)=max x1.depth (l? xs1):=by rw[l?]
     rw[RU]at Q1;simp only[i!]at f_;have he:=eqAt_reads x1 y1 A.in1 ⟨hp,g,d,tk,os⟩ _ _ _ _ rv rw1 l1.1 l2.1 (by show A.units+1+_<K?;lia);refine N7 (he prog w _ _ ?_);cases e:i? x1 y1 with
     |true=>
      rw[e,é rfl]at hc
      wp_walk
      exact⟨rfl,rfl,_,_,_,_,_,_,QR,SF,SJ,0x1,λz hz=>OO z (N1 _ hz),l1.2,l2.2,0x1,hc⟩
     |false=>
      rw[e,è z!]at hc;have UG:∀(E:b?->d?->Prop)(Q:b?->d?->Prop),Q (.bool k) ⟨hp,g,d,tk,os⟩->n? (p! prog w) A.in1 (Ď .LtE _ _) Q E ⟨hp,g,d,tk,os⟩:=ih A.in1 ⟨hp,g,d,tk,os⟩ x1 y1 _ _ _ _ k (OO x1 N2) rv rw1 l1.1 l2.1 (by show A.units+1+_<K?;lia) hc prog w
      wp_walk using UG
      exact⟨_,rfl,by simpa using h⟩
  case fin=>
   rintro⟨b1,b2⟩ s' ⟨Pc,rfl,vs,ws,Qw,Rk,QV,Sz,hz,SI,SN,f_,OO,l1,l2,Q1,hc⟩;simp only at Pc;subst Pc;have hv:=wX SI SN hz.symm hc;simp only[o?,if_false]at hv;have So:g! (vs.length<=ws.length)=g! (items.size<=G'.size):=by
    by_cases q:vs.length<=ws.length
    ·rw[Oz q,Oz 0x1]
    ·rw[Oy q,Oy 0x1]
   rw[So]at hv;rw[hv]at h
   wp_walk
   exact⟨_,rfl,by simpa[ZK]using h⟩
  case h=>
   exact⟨rfl,rfl,items.toList,G'.toList,xs,ys,as,bs,rfl,hi,hj,by simp;lia,λo hx=>hx,c1,c2,N6 _,hk⟩
end
theorem kY:∀(n:Nat)(st:Bool)(da db:j!)(A:A?)(s:d?)(a b:b?)(as bs:List c!)(k:Bool),sizeOf da<n->YK s.heap a da as->YK s.heap b db bs->da.canLay0=d!->db.canLay0=d! ->
  A.units+da.depth<K?->cD st da db=a! k->Mz A s st a b k
 |0,_,_,_,_,_,_,_,_,_,_,h,_,_,_,_,_,_=>ê h (Y_ _)
 |n+1,st,da,db,A,s,a,b,as,bs,k,hn,ra,rb,ha,hb,hu,hk=>by
  intro prog w E Q hQ;cases ra with
  |none=>cases db <;>simp[cD]at hk
  |bool x=>cases db <;>simp[cD]at hk
  |list _ _ _ _=>cases db <;>simp[cD]at hk
  |dict _ _ _ _ _=>cases db <;>simp[cD]at hk
  |int i t=>
   cases rb with
   |int j u=>
    simp only[cD]at hk;cases hk;cases st with
    |true=>exact(Ö hQ:n? (p! prog w) A (D? .Lt (.int i t) (.int j u)) Q E s)
    |false=>exact(Δ hQ:n? (p! prog w) A (D? .LtE (.int i t) (.int j u)) Q E s)
   |_=>simp[cD]at hk
  |str x t=>
   cases rb with
   |str y u=>
    simp only[cD]at hk;cases hk;cases st with
    |true=>exact(PySem.P.lt_str hQ:n? (p! prog w) A (D? .Lt (.str x t) (.str y u)) Q E s)
    |false=>exact(PySem.P.le_str (by simpa[cS]using hQ):n? (p! prog w) A (D? .LtE (.str x t) (.str y u)) Q E s)
   |_=>simp[cD]at hk
  |@tuple a o vs n1 xs as e1 c1 d1 l1=>
   cases rb with
   |@tuple b o2 ws n2 ys bs e2 c2 d2 l2=>
    simp only[cD]at hk;unfold W8 at ha hb;unfold Xp at hu;obtain⟨cls,dd,data,sl⟩:=o;obtain⟨Ua,QA,data2,Qq⟩:=o2;simp only at c1 d1 c2 d2;subst c1 d1 c2 d2;have ih:∀(A:A?)(s:d?)(x y:j!)(a c:b?)(as bs:List c!)(j:Bool),x∈xs->YK s.heap a x as->YK s.heap c y bs->x.canLay0=d!->y.canLay0=d!->A.units+x.depth<K?->cD st x y=a! j->Mz A s st a c j:=
     λA s x y a c as bs j hx r1 r2 k1 k2 QE hj=>kY n st x y A s a c as bs j (by have:=List.sizeOf_lt_of_mem hx;simp only[PyData.tuple.sizeOf_spec]at hn;lia) r1 r2 k1 k2 QE hj
    cases st with
    |true=>
     exact ZV (op:=.Lt) ⟨_,e1,rfl⟩ ⟨_,e2,rfl⟩ PySem.F.slot_tuple_lt PySem.F.entry_tuple_lt (PySem.F.args_tuple_lt_2 _ _) (sd a b vs ws n1 n2 dd QA sl Qq xs ys k hk ih)
      ⟨e1,e2,⟨_,l1⟩,⟨_,l2⟩,ha,hb,0x1,show YD k≠ZN/\Q (.bool k) s from⟨(λx=>nomatch x),hQ⟩⟩ 0x1
    |false=>
     exact ZV (op:=.LtE) ⟨_,e1,rfl⟩ ⟨_,e2,rfl⟩ PySem.F.slot_tuple_le PySem.F.entry_tuple_le (PySem.F.args_tuple_le_2 _ _) (rZ a b vs ws n1 n2 dd QA sl Qq xs ys k hk ih)
      ⟨e1,e2,⟨_,l1⟩,⟨_,l2⟩,ha,hb,0x1,show YD k≠ZN/\Q (.bool k) s from⟨(λx=>nomatch x),hQ⟩⟩ 0x1
   |_=>simp[cD]at hk
noncomputable def pS:DV->Option D
 |.d x=>a! x
 |.own xs=>a! (.list xs)
 |.new xs=>a! (.list xs)
 |_=>b!
@[simp] def wy(x:D):pS (.d x)=a! x:=rfl
@[simp] def uz(xs:List D):pS (.own xs)=a! (.list xs):=rfl
@[simp] def u4(xs:List D):pS (.new xs)=a! (.list xs):=rfl
section
variable{X:Cx}{E:XK}
variable{vs:List V}
def qR{a_:List (c!×XQ)}{σ:St}(I:Inv X a_ σ H s)(q:H a=a! (.lst vs))(l:RpL Z H xs vs):∃as,YK s.heap (.ref a) (.list xs) as:=by obtain⟨D',rv,⟨o,n,e,c,_,dd⟩,_⟩:=I.list (gu.of q);obtain⟨as,ra⟩:=RpL.reads I l rv;exact⟨_,.list e c dd (by simpa using ra)⟩
def RE.reads{a_:List (c!×XQ)}{σ:St}{O P:List c!}{H₀ H:Hp}{s:d?}{x:DV}{v:V}{u:b?}{d:D}(I:Inv X a_ σ H s)(r:RE O P H₀ H x v)(ru:bG v u)(h:pS x=a! d):(∃as,YK s.heap u d as)/\d.canLay0=d!:=by
 cases x with
 |d y=>
  cases h;have r':Rp (P++O) H d v:=r;exact⟨Rp.reads I r' ru,r'.lay⟩
 |ob C fs=>cases h
 |fz ca=>cases h
 |ex q=>cases h
 |tpo p xs q=>cases h
 |nwt p xs q=>cases h
 |own xs=>
  cases h;obtain⟨a,vs,rfl,hP,ha,hl⟩:=r;cases ru;exact⟨qR I ha hl,by unfold W8;exact hl.lay⟩
 |new xs=>
  cases h;obtain⟨a,vs,rfl,hn,ha,hl⟩:=r;cases ru;exact⟨qR I ha hl,by unfold W8;exact hl.lay⟩
 |scr K ns=>cases h
def jD(neg:Bool)(x y:DV):M DV:=match pS x,pS y with
 |some a,a! b=>if a.depth<=60 then rt (.d (.bool (if neg=d! then !i? a b else i? a b)))else b!
 |_,_=>b!
variable{y:DV}
set_option tactic.hygienic true in
def tF{neg:Bool}(e:jD neg x y=a! r):∃a b,pS x=a! a/\pS y=a! b/\a.depth<=60/\r=.ok (.d (.bool (if neg=d! then !i? a b else i? a b))):=by
 unfold jD at e;split at e
 ·rename_i a b h1 h2;split at e
  ·cases e;exact⟨a,b,h1,h2,by assumption,rfl⟩
  ·cases e
 ·cases e
def lE(hu:X.A.units+64<K?):hW X E (D? .Eq) (jD e!):=λa_ s σ O P H₀ H x y v u vv uu r Q I hd hs rx ry ev eu e q=>by obtain⟨a,b,h1,h2,Q1,rfl⟩:=tF e;obtain⟨⟨as,ra⟩,la⟩:=rx.reads I ev h1;obtain⟨⟨bs,rb⟩,lb⟩:=ry.reads I eu h2;exact SeqAt.compareEq_reads ra rb la lb (by have:=û a.depth b.depth;lia) ⟨.bl _,H,I,rfl,q _ H (aE.refl H) (.bool _)⟩
def C7(hu:X.A.units+64<K?):hW X E (D? .NotEq) (jD d!):=λa_ s σ O P H₀ H x y v u vv uu r Q I hd hs rx ry ev eu e q=>by obtain⟨a,b,h1,h2,Q1,rfl⟩:=tF e;obtain⟨⟨as,ra⟩,la⟩:=rx.reads I ev h1;obtain⟨⟨bs,rb⟩,lb⟩:=ry.reads I eu h2;exact SeqAt.compareNe_reads ra rb la lb (by have:=û a.depth b.depth;lia) ⟨.bl _,H,I,rfl,q _ H (aE.refl H) (.bool _)⟩
def Dz(neg:Bool)(x y:DV):M DV:=match pS x,pS y with
 |some a,a! (.list ys)=>if a.depth<=60 then rt (.d (.bool (if neg=d! then !ys.any (λz=>i? z a)else ys.any λz=>i? z a)))else b!
 |some a,a! (.tuple ys)=>if a.depth<=60 then rt (.d (.bool (if neg=d! then !ys.any (λz=>i? z a)else ys.any λz=>i? z a)))else b!
 |_,_=>b!
set_option tactic.hygienic true in
def Bw{neg:Bool}(e:Dz neg x y=a! r):∃a ys,pS x=a! a/\(pS y=a! (.list ys)\/pS y=a! (.tuple ys))/\a.depth<=60/\r=.ok (.d (.bool (if neg=d! then !ys.any (λz=>i? z a)else ys.any λz=>i? z a))):=by
 unfold Dz at e;split at e
 ·rename_i a b h1 h2;split at e
  ·cases e;exact⟨a,_,h1,.inl h2,by assumption,rfl⟩
  ·cases e
 ·rename_i a b h1 h2;split at e
  ·cases e;exact⟨a,_,h1,.inr h2,by assumption,rfl⟩
  ·cases e
 ·cases e
def LF(hu:X.A.units+64<K?):hW X E (D? .In) (Dz e!):=λa_ s σ O P H₀ H x y v u vv uu r Q I hd hs rx ry ev eu e q=>by
 obtain⟨a,ys,h1,h2,Q1,rfl⟩:=Bw e;obtain⟨⟨as,ra⟩,la⟩:=rx.reads I ev h1;obtain h2|h2:=h2
 ·obtain⟨⟨bs,rb⟩,lb⟩:=ry.reads I eu h2;unfold W8 at lb;exact SeqAt.in_list_reads rb ra lb la (by have:=ZA (l? ys) a.depth;lia) ⟨.bl _,H,I,rfl,q _ H (aE.refl H) (.bool _)⟩
 ·obtain⟨⟨bs,rb⟩,lb⟩:=ry.reads I eu h2;unfold W8 at lb;exact SeqAt.in_tuple_reads rb ra lb la (by have:=ZA (l? ys) a.depth;lia) ⟨.bl _,H,I,rfl,q _ H (aE.refl H) (.bool _)⟩
def gC(st:Bool)(x y:DV):M DV:=match x,y with
 |.d a,.d b=>if a.depth<=60 then bd (op (cD st a b)) λk=>rt (.d (.bool k))else b!
 |_,_=>b!
set_option tactic.hygienic true in
def E3(st:Bool)(hu:X.A.units+64<K?):hW X E (D? (NB st)) (gC st):=λa_ s σ O P H₀ H x y v u vv uu r Q I hd hs rx ry ev eu e q=>by
 unfold gC at e;split at e
 ·rename_i a b;split at e
  ·rename_i Q1;cases hk:cD st a b with
   |none=>rw[hk]at e;cases e
   |some k=>
    rw[hk]at e;cases e;obtain⟨⟨as,ra⟩,la⟩:=rx.reads I ev (d:=a) rfl;obtain⟨⟨bs,rb⟩,lb⟩:=ry.reads I eu (d:=b) rfl;have h:=kY _ st a b X.A s vv uu as bs k (Xf _) ra rb la lb 0x1 hk X.prog X.w X.xe (EP X a_ σ Q) ⟨.bl _,H,I,rfl,q _ H (aE.refl H) (.bool _)⟩;cases st with
    |true=>exact h
    |false=>exact h
  ·cases e
 ·cases e
def IL(hu:X.A.units+64<K?):hW X E (D? .Lt) (gC d!):=E3 d! hu
def J9(hu:X.A.units+64<K?):hW X E (D? .LtE) (gC e!):=E3 e! hu
def EO(x y:DV):M DV:=match jJ x,jJ y with
 |some xs,a! ys=>if xs.length+ys.length<=1000000 then rt (.new (xs++ys))else b!
 |_,_=>b!
def fC(h:n<=1000000):n<=sizeLine:=Ow h (by rw[K!];decide)
variable{p:c!}
def Fk(hd:∀a,a∈P++O->∃o,H₀ a=a! o)(hs:aE H₀ H)(hp:H p=b!):p∉P++O:=λh=>by obtain⟨o,e⟩:=hd p h;rw[hs p o e]at hp;cases hp
def bb{o:HO}(hp:H p=b!):aE H (upd H p o):=λb u e=>by rwa[aF (bM e hp)]
def J6{o:HO}(hp:H p=b!):Kp Z H (p::Z) (upd H p o):=⟨λa u q e=>bb hp a u e,λa ha=>by
 obtain e|e:=Of.mp ha
 ·subst e;exact .inr hp
 ·exact .inl e⟩
def RE.made(hs:aE H₀ H)(hp:H p=b!)(l:RpL (P++O) H xs vs):RE O P H₀ (upd H p (.lst vs)) (.new xs) (.ref p):=⟨p,vs,rfl,hs.free hp,aQ,l.kp (J6 hp)⟩
def Cw(hd:∀a,a∈P++O->∃o,H₀ a=a! o)(hs:aE H₀ H)(hp:H p=b!)(l:RpL (P++O) H xs vs):RE O P H₀ (upd H p (.tup vs)) (.d (.tuple xs)) (.ref p):=.tup (Fk hd hs hp) aQ (l.kp (.same (bb hp)))
set_option tactic.hygienic true in
def xE(e:EO x y=a! r):∃xs ys,jJ x=a! xs/\jJ y=a! ys/\xs.length+ys.length<=1000000/\r=.ok (.new (xs++ys)):=by
 unfold EO at e;split at e
 ·rename_i xs ys h1 h2;split at e
  ·cases e;exact⟨xs,ys,h1,h2,by assumption,rfl⟩
  ·cases e
 ·cases e
def IP:hW X E (W_ .Add) EO:=hW.rule JO λO P H₀ H x y v u r Q hd hs rx ry e q=>by obtain⟨xs,ys,h1,h2,hz,rfl⟩:=xE e;obtain⟨a,vs,rfl,ha,la⟩:=rx.list h1;obtain⟨b,us,rfl,hb,lb⟩:=ry.list h2;exact⟨a,b,vs,us,rfl,rfl,ha,hb,fC (by rwa[<-la.length,<-lb.length]),λp hp=>q _ _ (bb hp) (RE.made hs hp (la.append lb))⟩
def Cj(x y:DV):M DV:=match jJ x,y with
 |some xs,.d (.int k)=>if xs.length*k.toNat<=1000000/\-(2 ^ 63)<=k/\k<2 ^ 63 then rt (.new (p? k.toNat xs).flatten)else b!
 |_,_=>b!
set_option tactic.hygienic true in
def Jg:hW X E (W_ .Mult) Cj:=hW.rule IK λO P H₀ H x y v u r Q hd hs rx ry e q=>by
 unfold Cj at e;split at e
 ·rename_i xs k h1;split at e
  ·rename_i hz;cases e;obtain⟨a,vs,rfl,ha,la⟩:=rx.list h1;cases ry;exact⟨a,k,vs,rfl,rfl,ha,hz.2.1,hz.2.2,fC (by rw[<-la.length];exact hz.1),λp hp=>q _ _ (bb hp) (RE.made hs hp (la.rep _))⟩
  ·cases e
 ·cases e
noncomputable def BW(g g':DV->DV->M DV)(x y:DV):M DV:=match g x y with
 |none=>g' x y
 |some r=>a! r
def hW.or{f:b?->b?->ý b?}{g g':DV->DV->M DV}(h:hW X E f g)(h':hW X E f g'):hW X E f (BW g g'):=λa_ s σ O P H₀ H x y v u vv uu r Q I hd hs rx ry ev eu e q=>by
 unfold BW at e;cases hg:g x y with
 |none=>rw[hg]at e;exact h' a_ s σ O P H₀ H x y v u vv uu r Q I hd hs rx ry ev eu e q
 |some r'=>rw[hg]at e;cases e;exact h a_ s σ O P H₀ H x y v u vv uu r Q I hd hs rx ry ev eu hg q
end
def EY{γ:Type}(m:M α)(f:α->M β)(g:β->M γ):bd (bd m f) g=bd m λa=>bd (f a) g:=by
 cases m with
 |none=>rfl
 |some z=>cases z <;>rfl
def bQ:DV->M Bool
 |.d (.bool b)=>rt b
 |_=>b!
@[simp] def Al(b:Bool):bQ (.d (.bool b))=rt b:=rfl
set_option tactic.hygienic true in
def oA{r:Except b? Bool}(h:bQ x=a! r):∃b,x=.d (.bool b)/\r=.ok b:=by
 unfold bQ at h;split at h
 ·rename_i b;cases h;exact⟨b,rfl,rfl⟩
 ·cases h
section
variable{X:Cx}{E:XK}{a b c e:E!}{ce:YU}{fa fb fc f:DS->M DV}{ga gb:DS->M Bool}
def tY{r:Except b? Bool}{Q:Bool->Hp->Prop}(rx:RE O P H₀ H x v)(h:bQ x=a! r)(q:Fb E H Q r):∃k,v=.bl k/\Q k H:=by obtain⟨k,rfl,rfl⟩:=oA h;cases rx;exact⟨k,rfl,q H (aE.refl H)⟩
def ou(h:PX X E e f)(he:∀m_,ą e X.env m_=(do let v <-m_;ò e.pos;ZX [v] (Λ v)):=by intro _;rfl):PB X E e (λδ=>bd (f δ) bQ):=PT.mono (Kw h he) λσ H Q q=>u6 (g:=λo=>bQ) q λO P δ x r v H1 rs OK s1 rx e' q'=>tY rx e' q'
variable{g:DV->DV->M DV}{σ:St}
def NX{Q:Bool->Hp->Prop}(h:DQ E (λδ=>bd (e2 g fa fb δ) bQ) σ H Q){t:V->V->Hp->Prop}(k:∀O P x y r v u H1,(∀a,a∈P++O->∃o,H a=a! o)->aE H H1->RE O P H H1 x v->RE O P H H1 y u->bd (g x y) bQ=a! r->Fb E H1 Q r->t v u H1):
  tE E fa σ H λv H1=>tE E fb σ H1 λu H2=>t v u H2:=by
 have h':DQ E (λδ=>bd (fa δ) λx=>bd (bd (fb δ) λy=>g x y) bQ) σ H Q:=by obtain⟨O,P,δ,r,rs,e,q⟩:=h;exact⟨O,P,δ,r,rs,(EY _ _ _).symm.trans e,q⟩
 refine u6 (g:=λδ x=>bd (bd (fb δ) λy=>g x y) bQ) h' λO P δ x r v H1 rs OK s1 rx e q=>?_;obtain⟨z,e1,e2⟩|⟨c,e1,e2⟩:=aB e
 ·obtain⟨y,e3,e4⟩|⟨c,e3,e4⟩:=aB e1
  ·exact⟨O,P,δ,.ok y,OK,e3,λu H2 s2 ry=>k O P x y r v u H2 rs.dom (s1.trans s2) (rx.on s2) (ry.from s1) (by rw[e4];exact e2) (q.on s2)⟩
  ·cases e4
 ·obtain⟨y,e3,e4⟩|⟨c',e3,e4⟩:=aB e1
  ·exact⟨O,P,δ,.ok y,OK,e3,λu H2 s2 ry=>k O P x y r v u H2 rs.dom (s1.trans s2) (rx.on s2) (ry.from s1) (by rw[e4];subst e2;rfl) (q.on s2)⟩
  ·cases e4;subst e2;exact⟨O,P,δ,.error c,OK,e3,q⟩
def hW.test{o:b?->b?->ý b?}(ho:hW X E o g){a_:List (c!×XQ)}{y:DV}{u:V}{vv uu:b?}{r:Except b? Bool}{Q:Bool->Hp->Prop}(I:Inv X a_ σ H s)(hd:∀a,a∈P++O->∃o,H₀ a=a! o)(hs:aE H₀ H)(rx:RE O P H₀ H x v)(ry:RE O P H₀ H y u)(ev:bG v vv)(eu:bG u uu)(e:bd (g x y) bQ=a! r)(q:Fb E H Q r):
  n? (p! X.prog X.w) X.A (o vv uu) (EP X a_ σ λz H2=>∃k,z=.bl k/\Q k H2) X.xe s:=by
 obtain⟨z,e1,e2⟩|⟨c,e1,e2⟩:=aB e
 ·refine ho a_ s σ O P H₀ H x y v u vv uu (.ok z) _ I hd hs rx ry ev eu e1 λw H2 s2 rz=>tY rz e2 (q.on s2)
 ·subst e2;exact ho a_ s σ O P H₀ H x y v u vv uu (.error c) _ I hd hs rx ry ev eu e1 q
def bJ{o:đ}(ho:hW X E (D? o) g)(ha:PX X E a fa)(hb:PX X E b fb)(hm:XZ o b=e!:=by first|exact yb _|rfl):PB X E (.Compare a [o] [b] ce) (λδ=>bd (e2 g fa fb δ) bQ):=by
 intro a_ s σ H Q I h;refine Z9 (Nb ha hb I (NX h (t:=λv u H1=>∃O P x y r,(∀a,a∈P++O->∃o,H a=a! o)/\aE H H1/\RE O P H H1 x v/\RE O P H H1 y u/\bd (g x y) bQ=a! r/\Fb E H1 Q r) λO P x y r v u H1 h1 h2 h3 h4 h5 h6=>⟨O,P,x,y,r,h1,h2,h3,h4,h5,h6⟩)
  λvv uu s2 v u H2 I2 rv ru ⟨O,P,x,y,r,h1,h2,h3,h4,h5,h6⟩=>cf (ho.test I2 h1 h2 h3 h4 rv ru h5 h6) λd s3 ⟨z,H3,I3,r3,k,ez,q3⟩=>?_) hm
 subst ez;cases r3;exact N? ⟨H3,I3,q3⟩
def BR(g g':DV->DV->M DV)(fa fb fc:DS->M DV)(δ:DS):M DV:=bd (fa δ) λx=>bd (fb δ) λy=>bd (bd (g x y) bQ) λk=>if k=d! then bd (fc δ) λz=>g' y z else rt (.d (.bool e!))
variable{g':DV->DV->M DV}
def t3(h:tE E (BR g g' fa fb fc) σ H Q){t:V->V->Hp->Prop}(k:∀O P δ x y r v u H1,RS O P H σ δ->RS O P H1 σ δ->aE H H1->RE O P H H1 x v->RE O P H H1 y u->(bd (bd (g x y) bQ) λk=>if k=d! then bd (fc δ) λz=>g' y z else rt (.d (.bool e!)))=a! r->Fn E O P H H1 Q r->t v u H1):
  tE E fa σ H λv H1=>tE E fb σ H1 λu H2=>t v u H2:=by
 refine lT (g:=λδ x=>bd (fb δ) λy=>bd (bd (g x y) bQ) λk=>if k=d! then bd (fc δ) λz=>g' y z else rt (.d (.bool e!))) h λO P δ x r v H1 rs OK s1 rx e q=>?_;obtain⟨y,e1,e2⟩|⟨c,e1,e2⟩:=aB e
 ·exact⟨O,P,δ,.ok y,OK,e1,λu H2 s2 ry=>k O P δ x y r v u H2 rs (OK.same s2) (s1.trans s2) (rx.on s2) (ry.from s1) e2 (q.on s2)⟩
 ·subst e2;exact⟨O,P,δ,.error c,OK,e1,q⟩
def wN{o o':đ}(ho:hW X E (D? o) g)(Rl:hW X E (D? o') g')(ha:PX X E a fa)(hb:PX X E b fb)(hc:PX X E c fc)(hm:lastMarks [o,o'] [b,c]=e!:=by with_unfolding_all rfl):PX X E (.Compare a [o,o'] [b,c] ce) (BR g g' fa fb fc):=by
 intro a_ s σ H Q I h;refine Compare_chain (cf (ha a_ s σ H _ I (t3 h (t:=λv u H1=>∃O P δ x y r,RS O P H σ δ/\RS O P H1 σ δ/\aE H H1/\RE O P H H1 x v/\RE O P H H1 y u/\(bd (bd (g x y) bQ) λk=>if k=d! then bd (fc δ) λz=>g' y z else rt (.d (.bool e!)))=a! r/\Fn E O P H H1 Q r)
  λO P δ x y r v u H1 h1 h2 h3 h4 h5 h6 h7=>⟨O,P,δ,x,y,r,h1,h2,h3,h4,h5,h6,h7⟩)) λvv s1 ⟨v,H1,I1,r1,q1⟩=>chain_link (cf (hb a_ s1 σ H1 _ I1 q1) λuu s2 ⟨u,H2,I2,r2,q2⟩=>?_)) hm
 obtain⟨O,P,δ,x,y,r,h1,h2,h3,h4,h5,h6,h7⟩:=q2;obtain⟨k,e1,e2⟩|⟨cx,e1,e2⟩:=aB h6
 ·refine cf (ho.test (Q:=λk' H3=>k'=k/\aE H2 H3) I2 h1.dom h3 h4 h5 r1 r2 e1 λH3 s3=>⟨rfl,s3⟩) λd s3 ⟨z,H3,I3,r3,k',ez,ek,PH⟩=>?_;subst ez ek;cases r3;refine N? ?_;cases k' with
  |false=>
   cases e2;exact ite_ff ⟨.bl e!,H3,I3,rfl,h7 _ H3 PH (.bool e!)⟩
  |true=>
   simp only[if_true]at e2;refine ite_tt (chain_last (cf (hc a_ s3 σ H3 (λw' H4=>∃zz,RE O P H H4 zz w'/\aE H3 H4/\g' y zz=a! r) I3 ?_) λww s4 ⟨w',H4,I4,r4,zz,q4,Ss,e4⟩=>?_))
   ·obtain⟨zz,e3,e4⟩|⟨cc,e3,e4⟩:=aB e2
    ·exact⟨O,P,δ,.ok zz,h2.same PH,e3,λw' H4 s4 rz=>⟨zz,rz.from (h3.trans PH),s4,e4⟩⟩
    ·subst e4;exact⟨O,P,δ,.error cc,h2.same PH,e3,h7.on PH⟩
   ·exact Rl a_ s4 σ O P H H4 y zz u w' uu ww r Q I4 h1.dom (h3.trans (PH.trans Ss)) (h5.on (PH.trans Ss)) q4 r2 r4 e4 (h7.on (PH.trans Ss))
 ·subst e2;exact cf (ho.test (Q:=λq q=>False) I2 h1.dom h3 h4 h5 r1 r2 e1 h7) λd s3 ⟨z,H3,I3,r3,k',ez,q3⟩=>q3.elim
def qY{o o':đ}(ho:hW X E (D? o) g)(Rl:hW X E (D? o') g')(ha:PX X E a fa)(hb:PX X E b fb)(hc:PX X E c fc)(hm:lastMarks [o,o'] [b,c]=e!:=by with_unfolding_all rfl):PB X E (.Compare a [o,o'] [b,c] ce) (λδ=>bd (BR g g' fa fb fc δ) bQ):=by
 intro a_ s σ H Q I h;have h':tE E (BR g g' fa fb fc) σ H (λz H'=>∃k,z=.bl k/\Q k H'):=u6 (g:=λq=>bQ) h λO P δ x r v H1 rs OK s1 rx e' q'=>tY rx e' q';refine isTrue_chain (cf (ha a_ s σ H _ I (t3 h' (t:=λv u H1=>∃O P δ x y r,RS O P H σ δ/\RS O P H1 σ δ/\aE H H1/\RE O P H H1 x v/\RE O P H H1 y u/\(bd (bd (g x y) bQ) λk=>if k=d! then bd (fc δ) λz=>g' y z else rt (.d (.bool e!)))=a! r/\Fn E O P H H1 (λz H'=>∃k,z=.bl k/\Q k H') r)
  λO P δ x y r v u H1 h1 h2 h3 h4 h5 h6 h7=>⟨O,P,δ,x,y,r,h1,h2,h3,h4,h5,h6,h7⟩)) λvv s1 ⟨v,H1,I1,r1,q1⟩=>test_link (cf (hb a_ s1 σ H1 _ I1 q1) λuu s2 ⟨u,H2,I2,r2,q2⟩=>?_)) hm
 obtain⟨O,P,δ,x,y,r,h1,h2,h3,h4,h5,h6,h7⟩:=q2;obtain⟨k,e1,e2⟩|⟨cx,e1,e2⟩:=aB h6
 ·refine cf (ho.test (Q:=λk' H3=>k'=k/\aE H2 H3) I2 h1.dom h3 h4 h5 r1 r2 e1 λH3 s3=>⟨rfl,s3⟩) λd s3 ⟨z,H3,I3,r3,k',ez,ek,PH⟩=>?_;subst ez ek;cases r3;refine N? ?_;cases k' with
  |false=>
   cases e2;obtain⟨k2,Vy,q7⟩:=h7 _ H3 PH (Rp.bool e!);cases Vy;exact ite_ff ⟨H3,I3,q7⟩
  |true=>
   simp only[if_true]at e2;refine ite_tt (test_last (cf (hc a_ s3 σ H3 (λw' H4=>∃zz,RE O P H H4 zz w'/\aE H3 H4/\g' y zz=a! r) I3 ?_) λww s4 ⟨w',H4,I4,r4,zz,q4,Ss,e4⟩=>?_))
   ·obtain⟨zz,e3,e4⟩|⟨cc,e3,e4⟩:=aB e2
    ·exact⟨O,P,δ,.ok zz,h2.same PH,e3,λw' H4 s4 rz=>⟨zz,rz.from (h3.trans PH),s4,e4⟩⟩
    ·subst e4;exact⟨O,P,δ,.error cc,h2.same PH,e3,h7.on PH⟩
   ·refine cf (Rl a_ s4 σ O P H H4 y zz u w' uu ww r _ I4 h1.dom (h3.trans (PH.trans Ss)) (h5.on (PH.trans Ss)) q4 r2 r4 e4 (h7.on (PH.trans Ss))) λd' s5 ⟨z2,H5,I5,r5,k2,Vy,q5⟩=>?_;subst Vy;cases r5;exact N? ⟨H5,I5,q5⟩
 ·subst e2;exact cf (ho.test (Q:=λq q=>False) I2 h1.dom h3 h4 h5 r1 r2 e1 h7) λd s3 ⟨z,H3,I3,r3,k',ez,q3⟩=>q3.elim
def zB(X:Cx)(E:XK)(e:E!)(f:DS->M Bool):Prop:=PW X e (DQ E f)
def zB.pb(h:zB X E e ga):PB X E e ga:=PW.pt h
def j4(ga gb:DS->M Bool)(δ:DS):M Bool:=bd (ga δ) λk=>if k=d! then gb δ else rt e!
def Fg(ga gb:DS->M Bool)(δ:DS):M Bool:=bd (ga δ) λk=>if k=d! then rt d! else gb δ
def hJ(ga:DS->M Bool)(δ:DS):M Bool:=bd (ga δ) λk=>rt (!k)
def PW.mono{t t':TT}(h:PW X e t)(m:∀σ H Q,t' σ H Q->t σ H Q):PW X e t':=λwh a_ s σ H Q I q=>h wh a_ s σ H Q I (m σ H Q q)
variable{bU:List E!}
def uJ(h:PB X E a ga):zB X E (.BoolOp .And [a] ce) ga:=GD h
def yH(h:PB X E a ga):zB X E (.BoolOp .Or [a] ce) ga:=JA h
def yr(ha:PB X E a ga)(hb:zB X E (.BoolOp .And (b::bU) ce) gb):zB X E (.BoolOp .And (a::b::bU) ce) (j4 ga gb):=PW.mono (Ji ha hb) λσ H Q q=>yg (g:=λδ k=>if k=d! then gb δ else rt e!) q λO P δ k r H1 rs OK s1 e q=>by
  cases k with
  |true=>exact⟨O,P,δ,r,OK,e,q⟩
  |false=>cases e;exact q H1 (aE.refl H1)
def zw(ha:PB X E a ga)(hb:zB X E (.BoolOp .Or (b::bU) ce) gb):zB X E (.BoolOp .Or (a::b::bU) ce) (Fg ga gb):=PW.mono (Mj ha hb) λσ H Q q=>yg (g:=λδ k=>if k=d! then rt d! else gb δ) q λO P δ k r H1 rs OK s1 e q=>by
  cases k with
  |false=>exact⟨O,P,δ,r,OK,e,q⟩
  |true=>cases e;exact q H1 (aE.refl H1)
def ix(ha:PB X E a ga):PB X E (.UnaryOp .Not a ce) (hJ ga):=PT.mono (Kb ha) λσ H Q q=>yg (g:=λδ k=>rt (!k)) q λO P δ k r H1 rs OK s1 e q=>by cases e;exact q H1 (aE.refl H1)
def oG(fa fb:DS->M DV)(δ:DS):M DV:=bd (bd (fa δ) bQ) λk=>if k=d! then fb δ else rt (.d (.bool e!))
def Np(fa fb:DS->M DV)(δ:DS):M DV:=bd (bd (fa δ) bQ) λk=>if k=d! then rt (.d (.bool d!))else fb δ
def Cc(fa:DS->M DV)(δ:DS):M DV:=bd (bd (fa δ) bQ) λk=>rt (.d (.bool (!k)))
def t1{g:DS->Bool->M DV}(h:tE E (λδ=>bd (bd (fa δ) bQ) (g δ)) σ H Q){t:VK}(k:∀O P δ k r H1,RS O P H1 σ δ->aE H H1->g δ k=a! r->Fn E O P H H1 Q r->t (.bl k) H1):tE E fa σ H t:=by
 obtain⟨O,P,δ,r,rs,e,q⟩:=h;obtain⟨z,e1,e2⟩|⟨c,e1,e2⟩:=aB e
 ·obtain⟨x,e3,e4⟩|⟨c,e3,e4⟩:=aB e1
  ·refine⟨O,P,δ,.ok x,rs,e3,λv H1 s1 rx=>?_⟩;obtain⟨kk,rfl,ek⟩:=oA e4;cases ek;cases rx;exact k O P δ _ r H1 (rs.same s1) s1 e2 (q.on s1)
  ·cases e4
 ·subst e2;obtain⟨x,e3,e4⟩|⟨c',e3,e4⟩:=aB e1
  ·obtain⟨kk,_,ek⟩:=oA e4;cases ek
  ·cases e4;exact⟨O,P,δ,.error c,rs,e3,q⟩
def rM{o:BoolOp}(h:PX X E a fa):PX X E (.BoolOp o [a] ce) fa:=Kf h
def Hy(s1:aE H H1)(q:Fn E O P H H1 Q r):Fn E O P H1 H1 Q r:=by
 cases r with
 |ok x=>exact λv H' s' rx=>q v H' s' (rx.from s1)
 |error c=>exact q
def oF(ha:PX X E a fa)(hb:PX X E (.BoolOp .And (b::bU) ce) fb):PX X E (.BoolOp .And (a::b::bU) ce) (oG fa fb):=PE.mono (JR ha hb) λσ H Q q=>t1 (g:=λδ k=>if k=d! then fb δ else rt (.d (.bool e!))) q λO P δ k r H1 OK s1 e q=>by
  refine⟨k,rfl,?_⟩;cases k with
  |true=>exact yT ⟨O,P,δ,r,OK,e,Hy s1 q⟩
  |false=>cases e;exact xH (q _ H1 (aE.refl H1) (.bool e!))
def Jf(ha:PX X E a fa):PX X E (.UnaryOp .Not a ce) (Cc fa):=PE.mono (IS ha) λσ H Q q=>t1 (g:=λδ k=>rt (.d (.bool (!k)))) q λO P δ k r H1 OK s1 e q=>by cases e;exact⟨k,rfl,q _ H1 (aE.refl H1) (.bool (!k))⟩
end
section
variable{X:Cx}{E:XK}{a b c e o:E!}{es:List E!}{ce p:YU}{fa fb fc f:DS->M DV}{fr:DS->M (List DV)}
def mE.from{O P:List c!}{H H1 H2:Hp}{xs:List DV}{vs:List V}(r:mE O P H1 H2 xs vs)(h:aE H H1):mE O P H H2 xs vs:=Paired.mapP r λo o q=>RE.from q h
def ai(_:DS):M (List DV):=rt []
def aa(fa:DS->M DV)(fr:DS->M (List DV))(δ:DS):M (List DV):=bd (fa δ) λx=>bd (fr δ) λxs=>rt (x::xs)
def ah:wq X E [] ai:=PA.mono jS λσ H Q q=>by obtain⟨O,P,δ,r,rs,e,q⟩:=q;cases e;exact q [] H (aE.refl H) .nil
def ae(ha:PX X E e fa)(hr:wq X E es fr)(hs:n! (e::es) X.env=(e!,I! e X.env)::n! es X.env:=by rfl):wq X E (e::es) (aa fa fr):=PA.mono (jk ha hr hs) λσ H Q q=>by
 obtain⟨O,P,δ,r,rs,e,q⟩:=q;obtain⟨x,e1,e2⟩|⟨c,e1,e2⟩:=aB e
 ·refine⟨O,P,δ,.ok x,rs,e1,λv H1 s1 rx=>?_⟩;obtain⟨xs,e3,e4⟩|⟨c,e3,e4⟩:=aB e2
  ·cases e4;exact⟨O,P,δ,.ok xs,rs.same s1,e3,λvs H2 s2 rxs=>q _ H2 (s1.trans s2) (.cons (rx.on s2) (rxs.from s1))⟩
  ·subst e4;exact⟨O,P,δ,.error c,rs.same s1,e3,λdx H' s'=>q dx H' (s1.trans s')⟩
 ·subst e2;exact⟨O,P,δ,.error c,rs,e1,q⟩
def d7:List DV->Option (List D)
 |[]=>a! []
 |x::r=>match yo x,d7 r with
  |some d,a! ds=>a! (d::ds)
  |_,_=>b!
@[simp] def n6:d7 []=a! []:=rfl
def mh(x:DV)(r:List DV):d7 (x::r)=match yo x,d7 r with|some d,a! ds=>a! (d::ds)|_,_=>b!:=rfl
@[simp] def uM(x:D)(r:List DV):d7 (.d x::r)=(d7 r).map (x::·):=by rw[mh,AN];cases d7 r <;>rfl
@[simp] def nX(xs:List D)(r:List DV):d7 (.new xs::r)=(d7 r).map (.list xs::·):=by rw[mh,pJ];cases d7 r <;>rfl
set_option tactic.hygienic true in
theorem mE.data{O P:List c!}{H H':Hp}(dom:∀a,a∈P++O->∃o,H a=a! o):∀{xs:List DV}{vs:List V}{ds:List D},mE O P H H' xs vs->d7 xs=a! ds->RpL (P++O) H' ds vs
 |_,_,_,.nil,h=>by cases h;exact .nil
 |_,_,_,.cons r t,h=>by
  rw[mh]at h;split at h
  ·rename_i d ds h1 h2;cases h;exact .cons (r.data dom h1) (mE.data dom t h2)
  ·cases h
def br(fr:DS->M (List DV))(δ:DS):M DV:=bd (fr δ) λxs=>bd (op (d7 xs)) λds=>if ds.length<=1000000 then rt (.d (.tuple ds))else b!
def bX(fr:DS->M (List DV))(δ:DS):M DV:=bd (fr δ) λxs=>bd (op (d7 xs)) λds=>if ds.length<=1000000 then rt (.new ds)else b!
def lQ{g:DS->List DV->M DV}{σ:St}{t:List V->Hp->Prop}(h:tE E (λδ=>bd (fr δ) (g δ)) σ H Q)(k:∀O P δ xs r vs H1,RS O P H σ δ->RS O P H1 σ δ->aE H H1->mE O P H H1 xs vs->g δ xs=a! r->Fn E O P H H1 Q r->t vs H1):Mw E fr σ H t:=by
 obtain⟨O,P,δ,r,rs,e,q⟩:=h;obtain⟨x,e1,e2⟩|⟨c,e1,e2⟩:=aB e
 ·exact⟨O,P,δ,.ok x,rs,e1,λv H1 s1 re=>k O P δ x r v H1 rs (rs.same s1) s1 re e2 (q.on s1)⟩
 ·subst e2;exact⟨O,P,δ,.error c,rs,e1,q⟩
def sL{xs:List DV}{h:List D->M DV}(e:bd (op (d7 xs)) h=a! r):∃ds,d7 xs=a! ds/\h ds=a! r:=by
 cases hd:d7 xs with
 |none=>rw[hd]at e;cases e
 |some ds=>rw[hd]at e;exact⟨ds,rfl,e⟩
set_option tactic.hygienic true in
def cH{k:Nat}(h:wq X E es fr):PX X E (.Tuple es k ce) (br fr):=PE.mono (xD h) λσ H Q q=>lQ (g:=λ_ xs=>bd (op (d7 xs)) λds=>if ds.length<=1000000 then rt (.d (.tuple ds))else b!) q λO P δ xs r vs H1 rs OK s1 rx e q=>by
 obtain⟨ds,hd,e⟩:=sL e;split at e
 ·rename_i hz;cases e;have l:=mE.data rs.dom rx hd;exact⟨fC (by rwa[<-l.length]),λp hp=>q _ _ (bb hp) (Cw rs.dom s1 hp l)⟩
 ·cases e
set_option tactic.hygienic true in
def cb(h:wq X E es fr):PX X E (.List es ce) (bX fr):=PE.mono (DH h) λσ H Q q=>lQ (g:=λ_ xs=>bd (op (d7 xs)) λds=>if ds.length<=1000000 then rt (.new ds)else b!) q λO P δ xs r vs H1 rs OK s1 rx e q=>by
 obtain⟨ds,hd,e⟩:=sL e;split at e
 ·rename_i hz;cases e;have l:=mE.data rs.dom rx hd;exact⟨fC (by rwa[<-l.length]),λp hp=>q _ _ (bb hp) (RE.made s1 hp l)⟩
 ·cases e
def bK(x y:DV):M DV:=match x,y with
 |.d (.tuple xs),.d (.int i)=>bd (op (atI xs i)) λz=>rt (.d z)
 |.d (.list xs),.d (.int i)=>bd (op (atI xs i)) λz=>rt (.d z)
 |.own xs,.d (.int i)=>bd (op (atI xs i)) λz=>rt (.d z)
 |.new xs,.d (.int i)=>bd (op (atI xs i)) λz=>rt (.d z)
 |_,_=>b!
def RpL.atI{Z:List c!}{H:Hp}{ds:List D}{vs:List V}{i:Int}{d:D}(l:RpL Z H ds vs)(h:L2.atI ds i=a! d):∃v,L2.atI vs i=a! v/\Rp Z H d v:=by
 unfold L2.atI at h ⊢;rw[<-l.length];cases e:HE ds.length i with
 |none=>rw[e]at h;cases h
 |some j=>
  rw[e]at h;obtain⟨v,e1,r⟩:=l.get (i:=j) h;exact⟨v,e1,r⟩
def AH(g:α->β)(xs:List α)(i:Int):atI (xs.map g) i=(atI xs i).map g:=by
 unfold atI;rw[e?];cases HE xs.length i with
 |none=>rfl
 |some j=>simp
def bz{o:Option α}{g:α->M β}{r:Except b? β}(h:bd (op o) g=a! r):∃x,o=a! x/\g x=a! r:=by
 cases o with
 |none=>cases h
 |some x=>exact⟨x,rfl,h⟩
def aZ(ha:PX X E a fa)(hb:PX X E b fb)(hs:kR b:=by intro _ _;rfl):PX X E (.Subscript a b ce) (e2 bK fa fb):=PE.mono (Ij Cv ha hb hs) λσ H Q q=>t2 q λO P x y r v u H1 dom s1 rx ry e q=>by
 unfold bK at e;split at e
 ·obtain⟨z,e1,e2⟩:=bz e;cases e2;cases ry;have R8:Rp (P++O) H1 _ v:=rx;cases R8 with
  |tup hz ha l=>
   obtain⟨w,e3,RT⟩:=l.atI e1;exact .inr (.inl ⟨_,_,_,w,rfl,rfl,lA.of ha,e3,q w H1 (aE.refl H1) RT⟩)
 ·obtain⟨z,e1,e2⟩:=bz e;cases e2;cases ry;have R8:Rp (P++O) H1 _ v:=rx;cases R8 with
  |lst hz ha l=>
   obtain⟨w,e3,RT⟩:=l.atI e1;exact .inl ⟨_,_,_,w,rfl,rfl,gu.of ha,e3,q w H1 (aE.refl H1) RT⟩
 ·obtain⟨z,e1,e2⟩:=bz e;cases e2;cases ry;obtain⟨a,vs,rfl,hP,ha,l⟩:=rx;obtain⟨w,e3,RT⟩:=l.atI e1;exact .inl ⟨_,_,_,w,rfl,rfl,gu.of ha,e3,q w H1 (aE.refl H1) RT⟩
 ·obtain⟨z,e1,e2⟩:=bz e;cases e2;cases ry;obtain⟨a,vs,rfl,hn,ha,l⟩:=rx;obtain⟨w,e3,RT⟩:=l.atI e1;exact .inl ⟨_,_,_,w,rfl,rfl,gu.of ha,e3,q w H1 (aE.refl H1) (RT.kp (.sub λb hb=>N1 _ hb))⟩
 ·cases e
open Classical in
def Di(K:Oe)(x y:DV):M DV:=match x,y with
 |.scr K' ns,.d (.int i)=>if K'=K then bd (op (atI ns i)) λn=>rt (.d (.int n))else b!
 |_,_=>b!
def RE.scrSq{K:Oe}{ns:List Int}(r:RE O P H₀ H (.scr K ns) v):∃a,v=.ref a/\gu K H a (ns.map V.int):=by obtain⟨a,ev,hz⟩:=r;exact⟨a,ev,hz.imp (λz=>z.2) λz=>z⟩
set_option tactic.hygienic true in
def Jx(ha:PX X E a fa)(hb:PX X E b fb)(hs:kR b:=by intro _ _;rfl):PX X E (.Subscript a b ce) (e2 (Di X.K) fa fb):=PE.mono (Ij Cv ha hb hs) λσ H Q q=>t2 q λO P x y r v u H1 dom s1 rx ry e q=>by
 unfold Di at e;split at e
 ·split at e
  ·rename_i hK;subst hK;obtain⟨z,e1,e2⟩:=bz e;cases e2;cases ry;obtain⟨a,rfl,ha⟩:=rx.scrSq;exact .inl ⟨_,_,_,.int z,rfl,rfl,ha,by rw[AH,e1];rfl,q _ H1 (aE.refl H1) (.int z)⟩
  ·cases e
 ·cases e
noncomputable def wV(xs:List D)(lo hi:Option Int):List D:=(xs.drop (HT.sIx xs.length 0 lo)).take (HT.sIx xs.length xs.length hi-HT.sIx xs.length 0 lo)
def RpL.cut{ds:List D}{vs:List V}(l:RpL Z H ds vs)(lo hi:Option Int):RpL Z H (wV ds lo hi) (Bb vs lo hi):=by unfold wV Bb;rw[l.length];exact(l.drop _).take _
def B8(x:DV)(lo hi:Option Int):M DV:=bd (op (jJ x)) λxs=>rt (.new (wV xs lo hi))
def Jp:DV->M Int
 |.d (.int i)=>rt i
 |_=>b!
set_option tactic.hygienic true in
def s9{r:Except b? Int}(h:Jp x=a! r):∃i,x=.d (.int i)/\r=.ok i:=by
 unfold Jp at h;split at h
 ·rename_i i;cases h;exact⟨i,rfl,rfl⟩
 ·cases h
def Ir(fa fl:DS->M DV)(δ:DS):M DV:=bd (fa δ) λx=>bd (fl δ) λl=>bd (Jp l) λi=>B8 x (a! i) b!
def Iy(fa fh:DS->M DV)(δ:DS):M DV:=bd (fa δ) λx=>bd (fh δ) λh=>bd (Jp h) λj=>B8 x b! (a! j)
def AO{lo hi:Option Int}{K:Oe}(Wn:aE H1 H2)(hs:aE H₀ H2)(rx:RE O P H₀ H1 x v)(e:B8 x lo hi=a! r)(q:Fn E O P H₀ H2 Q r):Mp K v lo hi H2 Q:=by obtain⟨xs,e1,e2⟩:=bz e;cases e2;obtain⟨a,vs,rfl,ha,l⟩:=(rx.on Wn).list e1;exact⟨a,vs,rfl,gu.of ha,λp hp=>q _ _ (bb hp) (RE.made hs hp (l.cut lo hi))⟩
def zN{h:Int->M DV}(rx:RE O P H₀ H x v)(e:bd (Jp x) h=a! r):∃i,v=.int i/\h i=a! r:=by
 obtain⟨i,e1,e2⟩|⟨c,e1,e2⟩:=aB e
 ·obtain⟨j,rfl,ej⟩:=s9 e1;cases ej;cases rx;exact⟨_,rfl,e2⟩
 ·obtain⟨j,_,ej⟩:=s9 e1;cases ej
def Hk{p2:YU}(ha:PX X E a fa)(hb:PX X E b fb):PX X E (.Subscript a (.Slice (a! b) b! b! p2) ce) (Ir fa fb):=PE.mono (vF zH ha (AI hb) zT) λσ H Q q=>
 lT (g:=λδ x=>bd (fb δ) λl=>bd (Jp l) λi=>B8 x (a! i) b!) q λO P δ x r v H1 rs OK s1 rx e q=>by
  obtain⟨l,e1,e2⟩|⟨c,e1,e2⟩:=aB e
  ·refine⟨O,P,δ,.ok l,OK,e1,λu H2 s2 rl=>?_⟩;obtain⟨i,rfl,e3⟩:=zN rl e2;exact⟨i,rfl,AO s2 (s1.trans s2) rx e3 (q.on s2)⟩
  ·subst e2;exact⟨O,P,δ,.error c,OK,e1,q⟩
def Hm{p2:YU}(ha:PX X E a fa)(hb:PX X E b fb):PX X E (.Subscript a (.Slice b! (a! b) b! p2) ce) (Iy fa fb):=PE.mono (vF zH ha zT (AI hb)) λσ H Q q=>
 lT (g:=λδ x=>bd (fb δ) λl=>bd (Jp l) λi=>B8 x b! (a! i)) q λO P δ x r v H1 rs OK s1 rx e q=>by
  obtain⟨l,e1,e2⟩|⟨c,e1,e2⟩:=aB e
  ·refine⟨O,P,δ,.ok l,OK,e1,λu H2 s2 rl=>?_⟩;obtain⟨i,rfl,e3⟩:=zN rl e2;exact⟨i,rfl,AO s2 (s1.trans s2) rx e3 (q.on s2)⟩
  ·subst e2;exact⟨O,P,δ,.error c,OK,e1,q⟩
def Ea(C:c!)(n:w?)(x:DV):M DV:=match x with
 |.ob C' fs=>if C'=C then bd (op (fs.lookup n)) λd=>rt (.d d)else b!
 |_=>b!
def iy(C:c!)(n:w?)(fa:DS->M DV)(δ:DS):M DV:=bd (fa δ) (Ea C n)
theorem Iq.look{Z:List c!}{H:Hp}{n:w?}{d:D}:∀{fs:List (w?×D)}{gs:List (w?×V)},Iq Z H fs gs->fs.lookup n=a! d->∃v,gs.lookup n=a! v/\Rp Z H d v
 |_,_,.nil,h=>by simp at h
 |(k,x)::fs,(k',y)::gs,.cons ⟨ek,r⟩ t,h=>by
  have ek':k=k':=ek;subst ek';by_cases hn:n=k
  ·subst hn;simp only[y!,beq_self_eq_true]at h ⊢;cases h;exact⟨_,rfl,r⟩
  ·have hb:(n==k)=e!:=by simpa using hn
   simp only[y!,hb]at h ⊢;exact Iq.look t h
set_option tactic.hygienic true in
def l9{C:c!}{n:w?}(ha:PX X E a fa)(hc:Cls X.K C)(hn:d9 X.K C n)(hb:O? a n X.env (I! a X.env)=I! a X.env:=by rfl):PX X E (.Attribute a n ce) (iy C n fa):=PE.mono (yQ ha hb) λσ H Q q=>
 lT (g:=λ_=>Ea C n) q λO P δ x r v H1 rs OK s1 rx e q=>by
  unfold Ea at e;split at e
  ·split at e
   ·rename_i hC;subst hC;obtain⟨d,e1,e2⟩:=bz e;cases e2;obtain⟨a,dx,gs,rfl,hz,ha,hf⟩:=rx;obtain⟨w,e3,RT⟩:=Iq.look hf e1;exact⟨a,_,dx,gs,w,rfl,ha,hc,hn,e3,q w H1 (aE.refl H1) RT⟩
   ·cases e
  ·cases e
def dR(X:Cx)(E:XK)(f:b?)(g:List DV->M DV):Prop:=∀(a_:List (c!×XQ))(s:d?)(σ:St)(O P:List c!)(H₀ H:Hp)(xs:List DV)(vs:List V)(us:List b?)(r:Except b? DV)(Q:VK),Inv X a_ σ H s->(∀a,a∈P++O->∃o,H₀ a=a! o)->aE H₀ H ->
  mE O P H₀ H xs vs->aT vs us->g xs=a! r->Fn E O P H₀ H Q r->n? (p! X.prog X.w) X.A (call f us) (EP X a_ σ Q) X.xe s
def EI(E:XK)(g:List DV->M DV)(vs:List V)(H:Hp)(Q:VK):Prop:=∃O P H₀ xs r,(∀a,a∈P++O->∃o,H₀ a=a! o)/\aE H₀ H/\mE O P H₀ H xs vs/\g xs=a! r/\Fn E O P H₀ H Q r
def dR.rule{f:b?}{g:List DV->M DV}(h:dR X E f g):jZ X f (EI E g):=λa_ s σ H vs us Q I rv ⟨O,P,H₀,xs,r,h1,h2,h3,h4,h5⟩=>h a_ s σ O P H₀ H xs vs us r Q I h1 h2 h3 rv h4 h5
def dR.of{f:b?}{g:List DV->M DV}{R:List V->Hp->VK->Prop}(hc:jZ X f R)(h:∀(O P:List c!)(H₀ H:Hp)(xs:List DV)(vs:List V)(r:Except b? DV)(Q:VK),(∀a,a∈P++O->∃o,H₀ a=a! o)->aE H₀ H->mE O P H₀ H xs vs->g xs=a! r->Fn E O P H₀ H Q r->R vs H Q):dR X E f g:=λa_ s σ O P H₀ H xs vs us r Q I h1 h2 h3 rv h4 h5=>hc a_ s σ H vs us Q I rv (h O P H₀ H xs vs r Q h1 h2 h3 h4 h5)
def aN(g:List DV->M DV)(fr:DS->M (List DV))(δ:DS):M DV:=bd (fr δ) g
def EA{g:List DV->M DV}{σ:St}(q:tE E (aN g fr) σ H Q):Mw E fr σ H λvs H1=>EI E g vs H1 Q:=lQ (g:=λo=>g) q λO P δ xs r vs H1 rs OK s1 rx e q=>⟨O,P,H,xs,r,rs.dom,s1,rx,e,q⟩
def aV{x:w?}{id:String}{g:List DV->M DV}(hc:dR X E (.builtin id) g)(hg:Gl X x)(hm:X.mg x=b!)(hv:H! x=a! (.builtin id))(ha:wq X E (e::es) fr)(hn:x ≠"__name__" :=by decide)(Pt:(x==("__debug__" : w?))=e!:=by decide)(he:n! (e::es) X.env=(e!,I! e X.env)::n! es X.env:=by rfl)(OR:(W2 ce (n! es X.env)).any (·.1)=e!:=by rfl):PX X E (.Call (.Name x p) (e::es) [] ce) (aN g fr):=PE.mono (vW hc.rule hg hm hv ha hn Pt he OR) λσ H Q q=>EA q
def kP{x:w?}{T:String}{g:List DV->M DV}(hc:dR X E (.type T) g)(hg:Gl X x)(hm:X.mg x=b!)(hv:H! x=a! (.type T))(ha:wq X E (e::es) fr)(hn:x ≠"__name__" :=by decide)(Pt:(x==("__debug__" : w?))=e!:=by decide)(he:n! (e::es) X.env=(e!,I! e X.env)::n! es X.env:=by rfl)(OR:(W2 ce (n! es X.env)).any (·.1)=e!:=by rfl):PX X E (.Call (.Name x p) (e::es) [] ce) (aN g fr):=PE.mono (tP hc.rule hg hm hv ha hn Pt he OR) λσ H Q q=>EA q
end
def Sub(δ δ':DS):Prop:=δ.length=δ'.length/\∀(i:Nat)(x:DV),δ[i]?=a! (a! x)->δ'[i]?=a! (a! x)
variable{δ:DS}{i:Nat}
def Hl{y:Option DV}(h:δ[i]?=a! b!\/δ[i]?=b!):Sub δ (δ.set i y):=⟨0x4,λj x e=>by
 by_cases hj:i=j
 ·subst hj;obtain h|h:=h <;>(rw[h]at e;cases e)
 ·rwa[q! hj]⟩
section
variable{O P:List c!}{H:Hp}{σ:St}{δ δ':DS}
def RS.forget(r:RS O P H σ δ')(h:Sub δ δ'):RS O P H σ δ:=⟨r.len.trans h.1.symm,r.dom,r.apart,λi x e=>r.at' i x (h.2 i x e),λi j x y v w a e1 e2=>r.one i j x y v w a (h.2 i _ e1) (h.2 j _ e2)⟩
def RS.set(r:RS O P H σ δ){i:Nat}{x:DV}{v:V}(rx:RE O P H H x v)(h1:∀xs,x≠.new xs)(h2:FA x=e!):RS O P H (σ.set i (a! v)) (δ.set i (a! x)):=by
 refine⟨by simp[r.len],r.dom,r.apart,λj y e=>?_,λj k y z v1 v2 c e1 e2 e3 e4 o1 o2=>?_⟩
 ·by_cases hj:i=j
  ·subst hj;by_cases hi:i<δ.length
   ·rw[x! hi]at e;cases e;exact⟨v,by rw[x! (by rwa[r.len])],h1,rx⟩
   ·rw[XF (by simpa using hi)]at e;cases e
  ·rw[q! hj]at e;obtain⟨w,e1,e2,e3⟩:=r.at' j y e;exact⟨w,by rwa[q! hj],e2,e3⟩
 ·have nj:∀(j:Nat)(y:DV),(δ.set i (a! x))[j]?=a! (a! y)->FA y=d!->i≠j/\δ[j]?=a! (a! y):=λj y e ho=>by
   by_cases hj:i=j
   ·subst hj;by_cases hi:i<δ.length
    ·rw[x! hi]at e;cases e;rw[h2]at ho;cases ho
    ·rw[XF (by simpa using hi)]at e;cases e
   ·exact⟨hj,by rwa[q! hj]at e⟩
  obtain⟨n1,d1⟩:=nj j y e1 o1.q;obtain⟨n2,d2⟩:=nj k z e2 o2.q;rw[q! n1]at e3;rw[q! n2]at e4;exact r.one j k y z v1 v2 c d1 d2 e3 e4 o1 o2
def RS.ownG{H0:Hp}(r:RS O P H0 σ δ)(hs:aE H0 H){u:HO}(hn:H0 a=b!)(ha:H a=a! u)(hx:∀xs,x≠.new xs)(rx:RE O (a::P) H H x v)(hx1:∀b,sq H x v b->b=a):RS O (a::P) H (σ.set i (a! v)) (δ.set i (a! x)):=by
 have fz:a∉P++O:=λh=>by obtain⟨o,e⟩:=r.dom a h;rw[hn]at e;cases e
 have k:Kp (P++O) H0 (a::P++O) H:=⟨λb o g e=>hs b o e,λb hb=>by
  obtain e|e:=Of.mp hb
  ·exact .inr (e▸hn)
  ·exact .inl e⟩
 refine⟨by simp[r.len],λb hb=>?_,λb hb hO=>?_,λj y e=>?_,λj m y z v1 v2 c e1 e2 e3 e4 o1 o2=>?_⟩
 ·obtain e|e:=Of.mp hb
  ·exact⟨_,e▸ha⟩
  ·obtain⟨o,q⟩:=r.dom b e;exact⟨o,hs b o q⟩
 ·obtain e|e:=Of.mp hb
  ·exact fz (N4 _ (e▸hO))
  ·exact r.apart b e hO
 ·by_cases hj:i=j
  ·subst hj;by_cases hi:i<δ.length
   ·rw[x! hi]at e;cases e;exact⟨v,by rw[x! (by rwa[r.len])],hx,rx⟩
   ·rw[XF (by simpa using hi)]at e;cases e
  ·rw[q! hj]at e;obtain⟨w,e1,e2,e3⟩:=r.at' j y e;refine⟨w,by rwa[q! hj],e2,?_⟩;cases y with
   |d y=>exact Rp.kp k e3
   |ob C fs=>exact Fh.kp k e3
   |fz ca=>exact AG.kp k e3
   |ex q=>exact e3
   |tpo p xs q=>exact IU.kp k (λb u hp hb=>⟨N1 _ hp,hs b u hb⟩) e3
   |nwt p xs q=>exact(Cg.no e3).elim
   |own ys=>
    obtain⟨b,us,eb,hP,hb,hl⟩:=e3;exact⟨b,us,eb,N1 _ hP,hs b _ hb,hl.kp k⟩
   |new ys=>exact ê rfl (e2 ys)
   |scr K ns=>
    obtain⟨b,eb,⟨hz,hb⟩|hk⟩:=e3
    ·refine⟨b,eb,.inl ⟨λh=>?_,aE.rd hs hb⟩⟩;obtain z|z:=Of.mp h
     ·obtain hb|⟨ob,hb⟩:=hb <;>(rw[z,hn]at hb;cases hb)
     ·exact hz z
    ·exact⟨b,eb,.inr hk⟩
 ·
  have old:∀(j:Nat)(y:DV)(w:V),δ[j]?=a! (a! y)->σ[j]?=a! (a! w)->sq H y w c->sq H0 y w c/\c∈P:=λj y w e q o=>by obtain⟨w',e1,_,r1⟩:=r.at' j _ e;rw[q]at e1;cases e1;have:=o.old (λb o g q=>hs b o q) r1;exact⟨this,this.new r1⟩
  by_cases hj:i=j
  ·by_cases hm:i=m
   ·exact hj.symm.trans hm
   ·subst hj;by_cases hi:i<δ.length
    ·rw[x! hi]at e1;cases e1;rw[x! (by rwa[r.len])]at e3;cases e3;rw[q! hm]at e2 e4;have hc:=hx1 c o1;exact ê (N5 _ (hc▸(old m z v2 e2 e4 o2).2)) fz
    ·rw[XF (by simpa using hi)]at e1;cases e1
  ·by_cases hm:i=m
   ·subst hm;by_cases hi:i<δ.length
    ·rw[x! hi]at e2;cases e2;rw[x! (by rwa[r.len])]at e4;cases e4;rw[q! hj]at e1 e3;have hc:=hx1 c o2;exact ê (N5 _ (hc▸(old j y v1 e1 e3 o1).2)) fz
    ·rw[XF (by simpa using hi)]at e2;cases e2
   ·rw[q! hj]at e1 e3;rw[q! hm]at e2 e4;exact r.one j m y z v1 v2 c e1 e2 e3 e4 (old j y v1 e1 e3 o1).1 (old m z v2 e2 e4 o2).1
def RS.own{H0:Hp}(r:RS O P H0 σ δ)(hs:aE H0 H){i:Nat}{xs:List D}{v:V}(rx:RE O P H0 H (.new xs) v):∃a,H0 a=b!/\RS O (a::P) H (σ.set i (a! v)) (δ.set i (a! (.own xs))):=by
 obtain⟨a,vs,rfl,hn,ha,l⟩:=rx;exact⟨a,hn,r.ownG hs hn ha (λo=>nofun) ⟨a,vs,rfl,N2,ha,l⟩ λb h=>by have h':V.ref a=.ref b:=h;cases h';rfl⟩
def RS.ownT{H0:Hp}(r:RS O P H0 σ δ)(hs:aE H0 H){p:List D}(rx:RE O P H0 H (.nwt p xs q) v):∃a,H0 a=b!/\RS O (a::P) H (σ.set i (a! v)) (δ.set i (a! (.tpo p xs q))):=by obtain⟨t,a,ps,vs,qs,rfl,hz,ht,hn,ha,l1,l2,l3⟩:=rx;refine⟨a,hn,r.ownG hs hn ha (λo=>nofun) ⟨t,a,ps,vs,qs,rfl,hz,ht,N2,ha,l1,l2,l3⟩ λb h=>?_⟩;obtain⟨t',us,e',Sf,hu⟩:=h;cases e';rw[ht]at Sf;cases Sf;rw[l1.length,w! (N6 _),Yv]at hu;cases hu;rfl
end
def Ih(g:TG)(sf:D->DS->Option DS):Prop:=∀(O P:List c!)(H:Hp)(σ:St)(δ δ':DS)(d:D)(v:V)(Q:St->Hp->Prop),RS O P H σ δ->Rp (P++O) H d v->sf d δ=a! δ'->(∀c_,RS O P H c_ δ'->Q c_ H)->g v σ H Q
noncomputable def au(i:Nat)(d:D)(δ:DS):Option DS:=a! (δ.set i (a! (.d d)))
def aG(i:Nat):Ih (oX i) (au i):=λO P H σ δ δ' d v Q r rd e h=>by cases e;exact h _ (r.set (x:=.d d) rd (λo=>nofun) rfl)
noncomputable def pA(ds:List D)(δ:DS):Option DS:=match ds with
 |[]=>a! δ
 |_=>b!
noncomputable def dF(sf:D->DS->Option DS)(st:List D->DS->Option DS)(ds:List D)(δ:DS):Option DS:=match ds with
 |[]=>b!
 |d::r=>match sf d δ with
  |some δ'=>st r δ'
  |none=>b!
noncomputable def og(n:Nat)(st:List D->DS->Option DS)(d:D)(δ:DS):Option DS:=match d with
 |.tuple ds=>if ds.length=n then st ds δ else b!
 |_=>b!
def FZ(g:Fc)(sf:List D->DS->Option DS):Prop:=∀(O P:List c!)(H:Hp)(σ:St)(δ δ':DS)(ds:List D)(vs:List V)(Q:St->Hp->Prop),RS O P H σ δ->RpL (P++O) H ds vs->sf ds δ=a! δ'->(∀c_,RS O P H c_ δ'->Q c_ H)->g vs σ H Q
def qf:FZ Li pA:=λO P H σ δ δ' ds vs Q r rd e h=>by
 cases rd with
 |nil=>cases e;exact⟨rfl,h σ r⟩
 |cons _ _=>cases e
set_option tactic.hygienic true in
def f6{g:TG}{sf:D->DS->Option DS}{gs:Fc}{st:List D->DS->Option DS}(h1:Ih g sf)(h2:FZ gs st):FZ (Iz g gs) (dF sf st):=λO P H σ δ δ' ds vs Q r rd e h=>by
 cases rd with
 |nil=>cases e
 |cons r1 rr=>
  unfold dF at e;simp only at e;split at e
  ·rename_i δ1 e1;exact⟨_,_,rfl,h1 O P H σ δ δ1 _ _ _ r r1 e1 λP_ OK=>h2 O P H P_ δ1 δ' _ _ Q OK rr e h⟩
  ·cases e
variable{K:Oe}
set_option tactic.hygienic true in
def p0{gs:Fc}{st:List D->DS->Option DS}(h:FZ gs st):Ih (Mq K n gs) (og n st):=λO P H σ δ δ' d v Q r rd e hq=>by
 unfold og at e;split at e
 ·split at e
  ·rename_i hn;cases rd with
   |tup hz ha l=>exact⟨_,_,rfl,lA.of ha,by rwa[<-l.length],h O P H σ δ δ' _ _ Q r l e hq⟩
  ·cases e
 ·cases e
def F8(n:Nat)(fm:List DV->M DV):Sp:=λvs H Q q=>vs.length=n/\∃O xs x,(∀a,a∈O->∃o,H a=a! o)/\mE O [] H H xs vs/\fm xs=a! (.ok x)/\∀v H',aE H H'->RE O [] H H' x v->Q v H'
def args:List DV->Option (List DV)
 |[]=>a! []
 |x::r=>match EJ x,args r with
  |some y,a! ys=>a! (y::ys)
  |_,_=>b!
@[simp] def args_nil:args []=a! []:=rfl
def gM(x:DV)(r:List DV):args (x::r)=match EJ x,args r with|some y,a! ys=>a! (y::ys)|_,_=>b!:=rfl
@[simp] def yX(x:D)(r:List DV):args (.d x::r)=(args r).map (.d x::·):=by rw[gM,L1];cases args r <;>rfl
@[simp] def pP(C:c!)(fs:List (w?×D))(r:List DV):args (.ob C fs::r)=(args r).map (.ob C fs::·):=by rw[gM,Jm];cases args r <;>rfl
@[simp] def qC(xs:List D)(r:List DV):args (.new xs::r)=(args r).map (.d (.list xs)::·):=by rw[gM,FG];cases args r <;>rfl
@[simp] def qg(K:Oe)(ns:List Int)(r:List DV):args (.scr K ns::r)=(args r).map (.scr K ns::·):=by rw[gM,Gm];cases args r <;>rfl
def RE.am{y:DV}(dom:∀a,a∈P++O->∃o,H₀ a=a! o)(hs:aE H₀ H)(r:RE O P H₀ H x v)(h:EJ x=a! y):RE (P++O) [] H H y v:=by
 cases x with
 |d z=>cases h;exact r
 |ob C fs=>cases h;exact r
 |fz ca=>cases h;exact r
 |ex q=>cases h;exact r
 |tpo p xs q=>cases h
 |nwt p xs q=>cases h;exact qz dom r
 |own xs=>cases h
 |new xs=>cases h;exact mM dom r
 |scr K ns=>cases h;exact r
set_option tactic.hygienic true in
theorem mE.am{O P:List c!}{H₀ H:Hp}(dom:∀a,a∈P++O->∃o,H₀ a=a! o)(hs:aE H₀ H):∀{xs ys:List DV}{vs:List V},mE O P H₀ H xs vs->args xs=a! ys->mE (P++O) [] H H ys vs
 |_,_,_,.nil,h=>by cases h;exact .nil
 |_,_,_,.cons r t,h=>by
  rw[gM]at h;split at h
  ·rename_i y ys h1 h2;cases h;exact .cons (r.am dom hs h1) (mE.am dom hs t h2)
  ·cases h
def RE.back(hs:aE H₀ H)(r:RE (P++O) [] H H' x v):RE O P H₀ H' x v:=by
 cases x with
 |d z=>exact r
 |ob C fs=>exact r
 |fz ca=>exact r
 |ex q=>exact r
 |tpo p xs q=>
  obtain⟨t,a,ps,vs,qs,e,hz,ht,hP,_⟩:=r;cases hP
 |nwt p xs q=>
  obtain⟨t,a,ps,vs,qs,e,hz,ht,hn,ha,ll⟩:=r;exact⟨t,a,ps,vs,qs,e,hz,ht,hs.free hn,ha,ll⟩
 |own xs=>
  obtain⟨a,vs,e,hP,_⟩:=r;cases hP
 |new xs=>
  obtain⟨a,vs,e,hn,ha,l⟩:=r;exact⟨a,vs,e,hs.free hn,ha,l⟩
 |scr K ns=>exact r
noncomputable def IZ{α:Type}(m:M α):M α:=match m with
 |some (.ok x)=>a! (.ok x)
 |_=>b!
@[simp] def yW(x:α):IZ (a! (.ok x):M α)=a! (.ok x):=rfl
@[simp] def yC(x:α):IZ (rt x)=rt x:=rfl
def aw(n:Nat)(fm:List DV->M DV)(xs:List DV):M DV:=bd (op (args xs)) λys=>if ys.length=n then IZ (fm ys)else b!
section
variable{X:Cx}{E:XK}{a b c e o:E!}{es:List E!}{ce p:YU}{fa fb fc f:DS->M DV}{fr:DS->M (List DV)}
set_option tactic.hygienic true in
def GK{k:Nat}{fn:c!}{fd:W'}{ps:List w?}{x:w?}{fm:List DV->M DV}(F:FnOk X.prog X.w X.K X.mg X.base ug k fn fd ps (F8 n fm))(hr:Room k X.A)(hm:X.mg x=a! (.ref fn))(hk:P! X.K (.ref fn)=d!)(hb:gy X.K fd ps [])(ha:wq X E (e::es) fr)(hg:Gl X x:=by rfl)(Pt:(x==("__debug__" : w?))=e!:=by decide)(he:n! (e::es) X.env=(e!,I! e X.env)::n! es X.env:=by rfl)(OR:(W2 ce (n! es X.env)).any (·.1)=e!:=by rfl):
  PX X E (.Call (.Name x p) (e::es) [] ce) (aN (aw n fm) fr):=
 PE.mono (zD (E:=E0) F hr hg hm hk hb .nil (λ_ _ _ _ _ _ _ h=>h.elim) ha Pt he OR) λσ H Q q=>lQ (g:=λ_=>aw n fm) q λO P δ xs r vs H1 rs OK s1 rx e q=>by
  obtain⟨ys,h1,h2⟩:=bz e;split at h2
  ·rename_i hl;cases hf:fm ys with
   |none=>rw[hf]at h2;cases h2
   |some z=>
    rw[hf]at h2;cases z with
    |error c=>cases h2
    |ok x=>
     cases h2;have ry:=mE.am rs.dom s1 rx h1;refine⟨?_,P++O,ys,x,λa ha=>?_,?_,hf,λv H' s2 rv=>q v H' s2 (rv.back s1)⟩
     ·rwa[C!,<-Xs ry]
     ·obtain⟨o,e'⟩:=rs.dom a ha;exact⟨o,s1 a o e'⟩
     ·rwa[C!]
  ·cases h2
def cB(xs:List DV):M DV:=match xs with
 |[x]=>match pS x with
  |some (.list ys)=>rt (.d (.int ys.length))
  |some (.tuple ys)=>rt (.d (.int ys.length))
  |_=>b!
 |_=>b!
def RE.look{ys:List D}(r:RE O P H₀ H x v):(pS x=a! (.list ys)->∃a vs,v=.ref a/\H a=a! (.lst vs)/\RpL (P++O) H ys vs)/\(pS x=a! (.tuple ys)->∃a vs,v=.ref a/\H a=a! (.tup vs)/\RpL (P++O) H ys vs):=by
 refine⟨λh=>?_,λh=>?_⟩
 ·refine r.list ?_;cases x with
  |d z=>cases h;rfl
  |ob C fs=>cases h
  |fz ca=>cases h
  |ex q=>cases h
  |tpo p xs q=>cases h
  |nwt p xs q=>cases h
  |own xs=>cases h;rfl
  |new xs=>cases h;rfl
  |scr K ns=>cases h
 ·cases x with
  |d z=>
   cases h;have r':Rp (P++O) H _ v:=r;cases r' with
   |tup hz ha l=>exact⟨_,_,rfl,ha,l⟩
  |ob C fs=>cases h
  |fz ca=>cases h
  |ex q=>cases h
  |tpo p xs q=>cases h
  |nwt p xs q=>cases h
  |own xs=>cases h
  |new xs=>cases h
  |scr K ns=>cases h
set_option tactic.hygienic true in
def fg:dR X E (.builtin "len") cB:=dR.of mG λO P H₀ H xs vs r Q hd hs rx e q=>by
 unfold cB at e;split at e
 ·cases rx with
  |cons r1 rr=>
   cases rr;split at e
   ·rename_i h;cases e;obtain⟨a,vs,rfl,ha,l⟩:=r1.look.1 h;exact⟨a,vs,rfl,.inl (gu.of ha),q _ H (aE.refl H) (by rw[l.length];exact .int _)⟩
   ·rename_i h;cases e;obtain⟨a,vs,rfl,ha,l⟩:=r1.look.2 h;exact⟨a,vs,rfl,.inr (lA.of ha),q _ H (aE.refl H) (by rw[l.length];exact .int _)⟩
   ·cases e
 ·cases e
open Classical in
def vI(K:Oe)(xs:List DV):M DV:=match xs with
 |[.scr K' ns]=>if K'=K then rt (.d (.int ns.length))else b!
 |_=>b!
set_option tactic.hygienic true in
def G0:dR X E (.builtin "len") (vI X.K):=dR.of mG λO P H₀ H xs vs r Q hd hs rx e q=>by
 unfold vI at e;split at e
 ·split at e
  ·rename_i hK;subst hK;cases e;cases rx with
   |cons r1 rr=>
    cases rr;obtain⟨a,rfl,ha⟩:=r1.scrSq;refine⟨a,_,rfl,.inl ha,?_⟩;rw[e?];exact q _ H (aE.refl H) (.int _)
  ·cases e
 ·cases e
def Eo(xs:List DV):M DV:=match xs with
 |[x]=>match pS x with
  |some (.list ys)=>rt (.new ys)
  |some (.tuple ys)=>rt (.new ys)
  |_=>b!
 |_=>b!
set_option tactic.hygienic true in
def Fz:dR X E (.type "list") Eo:=dR.of t6 λO P H₀ H xs vs r Q hd hs rx e q=>by
 unfold Eo at e;split at e
 ·cases rx with
  |cons r1 rr=>
   cases rr;split at e
   ·rename_i h;cases e;obtain⟨a,vs,rfl,ha,l⟩:=r1.look.1 h;exact⟨a,vs,rfl,.inl (gu.of ha),λp hp=>q _ _ (bb hp) (RE.made hs hp l)⟩
   ·rename_i h;cases e;obtain⟨a,vs,rfl,ha,l⟩:=r1.look.2 h;exact⟨a,vs,rfl,.inr (lA.of ha),λp hp=>q _ _ (bb hp) (RE.made hs hp l)⟩
   ·cases e
 ·cases e
def EC(xs:List DV):M DV:=match xs with
 |[.d (.int i)]=>rt (.d (.int i))
 |[.d (.bool k)]=>rt (.d (.int (if k then 1 else 0)))
 |_=>b!
def Kn:dR X E (.type "int") EC:=dR.of Bd λO P H₀ H xs vs r Q hd hs rx e q=>by
 unfold EC at e;split at e
 ·cases e;cases rx with
  |cons r1 rr=>
   cases rr;cases r1;exact .inl ⟨_,rfl,q _ H (aE.refl H) (.int _)⟩
 ·cases e;cases rx with
  |cons r1 rr=>
   cases rr;cases r1;exact .inr ⟨_,rfl,q _ H (aE.refl H) (.int _)⟩
 ·cases e
def wA(xs:List DV):M DV:=match xs with
 |[.d (.int i),.d (.int j)]=>rt (.d (.int (if j<i then j else i)))
 |_=>b!
def Cz(hc:X.calm=d!):dR X E (.builtin "min") wA:=dR.of (AR hc) λO P H₀ H xs vs r Q hd hs rx e q=>by
 unfold wA at e;split at e
 ·cases e;cases rx with
  |cons r1 rr=>
   cases rr with
   |cons r2 rr=>
    cases rr;cases r1;cases r2;exact⟨_,_,rfl,q _ H (aE.refl H) (.int _)⟩
 ·cases e
end
inductive Out where
 |nx (δ:DS)
 |rt (x:DV)
 |bk (δ:DS)
 |ct (δ:DS)
def FD(E:XK)(O P:List c!)(H:Hp)(T:Ends):Except b? Out->Prop
 |.ok (.nx δ)=>∀c_ H' P',Kp P H P' H'->RS O P' H' c_ δ->T.nx c_ H'
 |.ok (.bk δ)=>∀c_ H' P',Kp P H P' H'->RS O P' H' c_ δ->T.bk c_ H'
 |.ok (.ct δ)=>∀c_ H' P',Kp P H P' H'->RS O P' H' c_ δ->T.ct c_ H'
 |.ok (.rt x)=>∀v H1 H' P',Kp P H P' H1->aE H1 H'->(∀a,a∈P'++O->∃o,H1 a=a! o)->(∀a,a∈P'->a∉O)->RE O P' H1 H' x v->T.rt v H'
 |.error c=>∀dx H' P',Kp P H P' H'->E c dx H'
def FD.on{P1:List c!}{T:Ends}{r:Except b? Out}(h:FD E O P H T r)(k:Kp P H P1 H1):FD E O P1 H1 T r:=by
 cases r with
 |error c=>exact λdx H' P' k'=>h dx H' P' (k.trans k')
 |ok o=>
  cases o with
  |nx δ=>exact λc_ H' P' k' rs=>h c_ H' P' (k.trans k') rs
  |bk δ=>exact λc_ H' P' k' rs=>h c_ H' P' (k.trans k') rs
  |ct δ=>exact λc_ H' P' k' rs=>h c_ H' P' (k.trans k') rs
  |rt x=>exact λv H2 H' P' k' s d ap rx=>h v H2 H' P' (k.trans k') s d ap rx
def tS(E:XK)(F:DS->M Out):TS:=λT σ H=>∃O P δ r,RS O P H σ δ/\F δ=a! r/\FD E O P H T r
def zZ(X:Cx)(E:XK)(st:U!)(F:DS->M Out):Prop:=PS X st (tS E F)
def yU(X:Cx)(E:XK)(st:List U!)(F:DS->M Out):Prop:=rO X st (tS E F)
variable{X:Cx}{st:U!}
def PS.mono{t t':TS}(h:PS X st t)(m:∀T σ H,t' T σ H->t T σ H):PS X st t':=λa_ s σ H T I q=>h a_ s σ H T I (m T σ H q)
def rO.mono{st:List U!}{t t':TS}(h:rO X st t)(m:∀T σ H,t' T σ H->t T σ H):rO X st t':=λa_ s σ H T I q=>h a_ s σ H T I (m T σ H q)
def My(F:DS->M Out)(o:Out):M Out:=match o with
 |.nx δ=>F δ
 |.rt x=>rt (.rt x)
 |.bk δ=>rt (.bk δ)
 |.ct δ=>rt (.ct δ)
@[simp] def xU(F:DS->M Out)(δ:DS):My F (.nx δ)=F δ:=rfl
@[simp] def yt(F:DS->M Out)(x:DV):My F (.rt x)=rt (.rt x):=rfl
def bD(F G:DS->M Out)(δ:DS):M Out:=bd (F δ) (My G)
def ck(δ:DS):M Out:=rt (.nx δ)
section
variable{X:Cx}{E:XK}{st:U!}{SV:List U!}{F G:DS->M Out}{e c:E!}{ce:YU}{f:DS->M DV}{fr:DS->M (List DV)}{gc:DS->M Bool}
def cE:yU X E [] ck:=rO.mono pI λT σ H q=>by obtain⟨O,P,δ,r,rs,e,q⟩:=q;cases e;exact q σ H P (.refl) rs
def ar(h1:zZ X E st F)(h2:yU X E SV G):yU X E (st::SV) (bD F G):=rO.mono (gh h1 h2) λT σ H q=>by
 obtain⟨O,P,δ,r,rs,e,q⟩:=q;obtain⟨o,e1,e2⟩|⟨c,e1,e2⟩:=aB e
 ·cases o with
  |nx δ1=>exact⟨O,P,δ,.ok (.nx δ1),rs,e1,λc_ H' P' k O3=>⟨O,P',δ1,r,O3,e2,q.on k⟩⟩
  |rt x=>cases e2;exact⟨O,P,δ,.ok (.rt x),rs,e1,q⟩
  |bk δ1=>cases e2;exact⟨O,P,δ,.ok (.bk δ1),rs,e1,q⟩
  |ct δ1=>cases e2;exact⟨O,P,δ,.ok (.ct δ1),rs,e1,q⟩
 ·subst e2;exact⟨O,P,δ,.error c,rs,e1,q⟩
def az(h1:zZ X E st F):yU X E [st] F:=gf h1
noncomputable def frz(i:Nat)(δ:DS):DS:=match δ[i]? with
 |some (a! (.own xs))=>δ.set i (a! (.d (.list xs)))
 |some (a! (.tpo p xs q))=>δ.set i (a! (.d (.tuple (p++.list xs::q))))
 |_=>δ
variable{σ:St}
def RS.frzG(r:RS O P H σ δ){d:D}(e:δ[i]?=a! (a! x))(ev:σ[i]?=a! (a! v))(o:sq H x v a)(hd:Rp (P.filter (λb=>!g! (b=a))++O) H d v):RS O (P.filter (λb=>!g! (b=a))) H σ (δ.set i (a! (.d d))):=by
 have hi:i<δ.length:=(Om.mp e).1;have sub:∀b,b∈P.filter (λb=>!g! (b=a))->b∈P:=λb hb=>(Ol.mp hb).1;have O4:∀b,b∈P.filter (λb=>!g! (b=a))++O->b∈P++O:=λb hb=>by
  obtain h|h:=Og.mp hb
  ·exact N5 _ (sub b h)
  ·exact N4 _ h
 refine⟨by simp[r.len],λb hb=>r.dom b (O4 b hb),λb hb=>r.apart b (sub b hb),λj y ej=>?_,λj m y z v1 v2 c e1 e2 e3 e4 o1 o2=>?_⟩
 ·by_cases hj:i=j
  ·subst hj;rw[x! hi]at ej;cases ej;exact⟨v,ev,λu=>nofun,hd⟩
  ·rw[q! hj]at ej;obtain⟨w,e1,e2,e3⟩:=r.at' j y ej;refine⟨w,e1,e2,?_⟩;have ne:∀c,sq H y w c->c∈P->c∈P.filter (λb=>!g! (b=a)):=λc oc hc=>by refine Ol.mpr ⟨hc,?_⟩;have:c≠a:=λz=>hj (r.one i j x y v w a e ej ev e1 o (z▸oc));simpa using this
   cases y with
   |d y=>exact Rp.kp (.sub O4) e3
   |ob C fs=>exact Fh.kp (.sub O4) e3
   |fz ca=>exact AG.kp (.sub O4) e3
   |ex q=>exact e3
   |tpo p xs q=>
    obtain⟨t,b,ps,vs,qs,et,hz,ht,hb,hl,l1,l2,l3⟩:=e3;refine⟨t,b,ps,vs,qs,et,λh=>hz (O4 t h),ht,ne b ⟨t,_,et,ht,?_⟩ hb,hl,l1.kp (.sub O4),l2.kp (.sub O4),l3.kp (.sub O4)⟩;rw[l1.length,w! (N6 _),Yv];rfl
   |nwt p xs q=>exact(Cg.no e3).elim
   |own ys=>
    obtain⟨b,us,eb,V4,hb,hl⟩:=e3;exact⟨b,us,eb,ne b eb V4,hb,hl.kp (.sub O4)⟩
   |new ys=>exact ê rfl (e2 ys)
   |scr K ns=>
    obtain⟨b,eb,hz⟩:=e3;exact⟨b,eb,hz.imp (λz=>⟨λh=>z.1 (O4 b h),z.2⟩) λz=>z⟩
 ·have nj:∀(j:Nat)(y:DV),FA y=d!->(δ.set i (a! (.d d)))[j]?=a! (a! y)->δ[j]?=a! (a! y):=λj y hy ej=>by
   by_cases hj:i=j
   ·subst hj;rw[x! hi]at ej;cases ej;cases hy
   ·rwa[q! hj]at ej
  exact r.one j m y z v1 v2 c (nj j y o1.q e1) (nj m z o2.q e2) e3 e4 o1 o2
set_option tactic.hygienic true in
def RS.frz{O P:List c!}{H:Hp}{σ:St}{δ:DS}(r:RS O P H σ δ)(i:Nat):∃P',(∀a,a∈P'->a∈P)/\RS O P' H σ (frz i δ):=by
 have sub:∀a b,b∈P.filter (λb=>!g! (b=a))->b∈P:=λa b hb=>(Ol.mp hb).1;have UH:∀a,a∈P->a∉P.filter (λb=>!g! (b=a))++O:=λa hP h=>by
  obtain h|h:=Og.mp h
  ·have:=(Ol.mp h).2;simp at this
  ·exact r.apart a hP h
 have O4:∀a b,b∈P.filter (λb=>!g! (b=a))++O->b∈P++O:=λa b hb=>by
  obtain h|h:=Og.mp hb
  ·exact N5 _ (sub a b h)
  ·exact N4 _ h
 unfold L3.frz;split
 ·rename_i xs e;obtain⟨v,ev,_,a,vs,rfl,hP,ha,l⟩:=r.at' i _ e;exact⟨P.filter (λb=>!g! (b=a)),sub a,r.frzG e ev rfl (Rp.lst (UH a hP) ha (l.kp (.sub (O4 a))))⟩
 ·rename_i p xs q e;obtain⟨v,ev,_,t,a,ps,vs,qs,rfl,hz,ht,hP,ha,l1,l2,l3⟩:=r.at' i _ e;refine⟨P.filter (λb=>!g! (b=a)),sub a,r.frzG e ev (a:=a) ⟨t,_,rfl,ht,?_⟩ (Rp.tup (λh=>hz (O4 a t h)) ht (RpL.append (l1.kp (.sub (O4 a))) (.cons (Rp.lst (UH a hP) ha (l2.kp (.sub (O4 a)))) (l3.kp (.sub (O4 a))))))⟩;rw[l1.length,w! (N6 _),Yv];rfl
 ·exact⟨P,λ_ h=>h,r⟩
def FD.sub{O P P':List c!}{H:Hp}{T:Ends}{r:Except b? Out}(h:FD E O P H T r)(hs:∀a,a∈P'->a∈P):FD E O P' H T r:=h.on (.sub hs)
def cU(i:Nat)(h:yU X E SV F):yU X E SV (λδ=>F (frz i δ)):=rO.mono h λT σ H q=>by obtain⟨O,P,δ,r,rs,e,q⟩:=q;obtain⟨P',hP,O3⟩:=rs.frz i;exact⟨O,P',frz i δ,r,O3,e,q.sub hP⟩
def gJ(gc:DS->M Bool)(F G:DS->M Out)(δ:DS):M Out:=bd (gc δ) λk=>if k=d! then F δ else G δ
def dM{as bs:List U!}(hc:PB X E c gc)(ha:yU X E as F)(hb:yU X E bs G):zZ X E (.If c as bs ce) (gJ gc F G):=PS.mono (zC hc ha hb) λT σ H q=>by
 obtain⟨O,P,δ,r,rs,e,q⟩:=q;obtain⟨k,e1,e2⟩|⟨cx,e1,e2⟩:=aB e
 ·refine⟨O,P,δ,.ok k,rs,e1,λH1 s1=>?_⟩;cases k with
  |true=>exact yT ⟨O,P,δ,r,rs.same s1,e2,q.on (.same s1)⟩
  |false=>exact xH ⟨O,P,δ,r,rs.same s1,e2,q.on (.same s1)⟩
 ·subst e2;exact⟨O,P,δ,.error cx,rs,e1,λdx H' s=>q dx H' P (.same s)⟩
def bA(f:DS->M DV)(δ:DS):M Out:=bd (f δ) λx=>rt (.rt x)
def aS(he:PX X E e f):zZ X E (.Return (a! e) ce) (bA f):=PS.mono (yc he) λT σ H q=>by
 obtain⟨O,P,δ,r,rs,e,q⟩:=q;obtain⟨x,e1,e2⟩|⟨cx,e1,e2⟩:=aB e
 ·cases e2;exact⟨O,P,δ,.ok x,rs,e1,λv H1 s1 rx=>q v H H1 P .refl s1 rs.dom rs.apart rx⟩
 ·subst e2;exact⟨O,P,δ,.error cx,rs,e1,λdx H' s=>q dx H' P (.same s)⟩
def oK(f:DS->M DV)(δ:DS):M Out:=bd (f δ) λo=>rt (.nx δ)
def z5(he:PX X E e f)(hs:X_ e b! ce.line X.env=Xo false:=by rfl):zZ X E (.Expr e ce) (oK f):=PS.mono (m6 he hs) λT σ H q=>by
 obtain⟨O,P,δ,r,rs,e,q⟩:=q;obtain⟨x,e1,e2⟩|⟨cx,e1,e2⟩:=aB e
 ·cases e2;exact⟨O,P,δ,.ok x,rs,e1,λv H1 s1 rx=>q σ H1 P (.same s1) (rs.same s1)⟩
 ·subst e2;exact⟨O,P,δ,.error cx,rs,e1,λdx H' s=>q dx H' P (.same s)⟩
noncomputable def uE:DV->Option DV
 |.d x=>a! (.d x)
 |.ob C fs=>a! (.ob C fs)
 |.fz ca=>a! (.fz ca)
 |.ex q=>a! (.ex q)
 |.scr K ns=>a! (.scr K ns)
 |.new xs=>a! (.own xs)
 |.own _=>b!
 |.tpo _ _ _=>b!
 |.nwt p xs q=>a! (.tpo p xs q)
@[simp] def yz(x:D):uE (.d x)=a! (.d x):=rfl
@[simp] def u7(C:c!)(fs:List (w?×D)):uE (.ob C fs)=a! (.ob C fs):=rfl
@[simp] def qO(xs:List D):uE (.new xs)=a! (.own xs):=rfl
@[simp] def rg(K:Oe)(ns:List Int):uE (.scr K ns)=a! (.scr K ns):=rfl
def RS.asg{y:DV}(r:RS O P H σ δ)(s1:aE H H1)(rx:RE O P H H1 x v)(h:uE x=a! y)(i:Nat):
  ∃P',Kp P H P' H1/\RS O P' H1 (σ.set i (a! v)) (δ.set i (a! y)):=by
 cases x with
 |d z=>cases h;exact⟨P,.same s1,(r.same s1).set rx (λj=>nofun) rfl⟩
 |ob C fs=>cases h;exact⟨P,.same s1,(r.same s1).set rx (λj=>nofun) rfl⟩
 |fz ca=>cases h;exact⟨P,.same s1,(r.same s1).set rx (λj=>nofun) rfl⟩
 |ex q=>cases h;exact⟨P,.same s1,(r.same s1).set rx (λj=>nofun) rfl⟩
 |own xs=>cases h
 |tpo p xs q=>cases h
 |nwt p xs q=>
  cases h;obtain⟨a,hn,rs⟩:=r.ownT s1 rx (i:=i);refine⟨a::P,⟨λb o j e=>s1 b o e,λb hb=>?_⟩,rs⟩;obtain z|z:=Of.mp hb
  ·exact .inr (z▸hn)
  ·exact .inl z
 |scr K ns=>cases h;exact⟨P,.same s1,(r.same s1).set rx (λj=>nofun) rfl⟩
 |new xs=>
  cases h;obtain⟨a,hn,rs⟩:=r.own s1 rx (i:=i);refine⟨a::P,⟨λb o j e=>s1 b o e,λb hb=>?_⟩,rs⟩;obtain z|z:=Of.mp hb
  ·exact .inr (z▸hn)
  ·exact .inl z
def aK(i:Nat)(f:DS->M DV)(δ:DS):M Out:=bd (f δ) λx=>bd (op (uE x)) λy=>rt (.nx (δ.set i (a! y)))
def aH{x:w?}{z_:YU}(hN:X.N.Nodup)(he:PX X E e f)(hi:X.N[i]?=a! x:=by rfl)(hx:KP X.env.scope x:=by first|exact ū rfl|exact Ī rfl)(hs:X_ e (a! (.Name x z_)) ce.line X.env=Xo false:=by rfl)(hf:X.fn x=d!\/X.env.scope.names.lookup x=a! .local:=by first|exact .inl rfl|exact .inr rfl|assumption):zZ X E (.Assign [.Name x z_] e ce) (aK i f):=PS.mono (Ex hN hi hx he hs hf) λT σ H q=>by
 obtain⟨O,P,δ,r,rs,e,q⟩:=q;obtain⟨x,e1,e2⟩|⟨cx,e1,e2⟩:=aB e
 ·obtain⟨y,e3,e4⟩:=bz e2;cases e4;refine⟨O,P,δ,.ok x,rs,e1,λv H1 s1 rx=>?_⟩;obtain⟨P',k,O3⟩:=rs.asg s1 rx e3 i;exact q _ H1 P' k O3
 ·subst e2;exact⟨O,P,δ,.error cx,rs,e1,λdx H' s=>q dx H' P (.same s)⟩
def CA(sf:D->DS->Option DS)(f:DS->M DV)(δ:DS):M Out:=bd (f δ) λx=>bd (op (yo x)) λd=>bd (op (sf d δ)) λδ'=>rt (.nx δ')
def xT{tg:E!}{g:TG}{sf:D->DS->Option DS}(he:PX X E e f)(hg:PG X tg g)(ht:Ih g sf)(hs:aÇ [tg] e ce.line X.env=Xo false:=by rfl)(hw:aÈ [tg] e X.env=Xo none:=by rfl)(h1:(Zu [tg] X.env).map (·.2)=[ć tg X.env]:=by rfl):zZ X E (.Assign [tg] e ce) (CA sf f):=PS.mono (JL he hg hs hw h1) λT σ H q=>by
 obtain⟨O,P,δ,r,rs,e,q⟩:=q;obtain⟨x,e1,e2⟩|⟨cx,e1,e2⟩:=aB e
 ·obtain⟨d,e3,e4⟩:=bz e2;obtain⟨δ',e5,e6⟩:=bz e4;cases e6;refine⟨O,P,δ,.ok x,rs,e1,λv H1 s1 rx=>?_⟩;exact ht O P H1 σ δ δ' d v _ (rs.same s1) (rx.data rs.dom e3) e5 λc_ O3=>q c_ H1 P (.same s1) O3
 ·subst e2;exact⟨O,P,δ,.error cx,rs,e1,λdx H' s=>q dx H' P (.same s)⟩
def JF(i j:Nat)(fr:DS->M (List DV))(δ:DS):M Out:=bd (fr δ) λxs=>bd (op (d7 xs)) λds=>match ds with
 |[x,y]=>rt (.nx ((δ.set i (a! (.d x))).set j (a! (.d y))))
 |_=>b!
def lD(i:Nat)(f:DS->M DV)(δ:DS):M Out:=match δ[i]? with
 |some (a! (.own xs))=>bd (f δ) λx=>bd (op (yo x)) λd=>if xs.length<1000000 then rt (.nx (δ.set i (a! (.own (xs++[d])))))else b!
 |_=>b!
def RS.growG{x':DV}{us:List V}(r:RS O P H σ δ)(e:δ[i]?=a! (a! x))(ev:σ[i]?=a! (a! v))(o:sq H x v a)(hx:∀xs,x'≠.new xs)(rx:RE O P (upd H a (.lst us)) (upd H a (.lst us)) x' v)(ox:∀b,sq (upd H a (.lst us)) x' v b->b=a)(hP:a∈P):
  Kp P H P (upd H a (.lst us))/\RS O P (upd H a (.lst us)) σ (δ.set i (a! x')):=by
 have hi:i<δ.length:=(Om.mp e).1;have k:Kp P H P (upd H a (.lst us)):=⟨λb o hb q=>by rwa[aF (show b≠a from λz=>hb (by rw[z];exact hP))],λb hb=>.inl hb⟩;have kz:Kp (P++O) H (P++O) (upd H a (.lst us)):=⟨λb o hb q=>by rwa[aF (show b≠a from λz=>hb (by rw[z];exact N5 _ hP))],λb hb=>.inl hb⟩;have old:∀(j:Nat)(y:DV)(w:V)(c:c!),δ[j]?=a! (a! y)->σ[j]?=a! (a! w)->sq (upd H a (.lst us)) y w c->sq H y w c:=λj y w c e q o=>by obtain⟨w',e1,_,r1⟩:=r.at' j _ e;rw[q]at e1;cases e1;exact o.old kz.keep r1
 refine⟨k,by simp[r.len],λb hb=>?_,r.apart,λj y ej=>?_,λj m y z v1 v2 c e1 e2 e3 e4 o1 o2=>?_⟩
 ·by_cases Pc:b=a
  ·exact⟨_,by rw[Pc,aQ]⟩
  ·rw[aF Pc];exact r.dom b hb
 ·by_cases hj:i=j
  ·subst hj;rw[x! hi]at ej;cases ej;exact⟨v,ev,hx,rx⟩
  ·rw[q! hj]at ej;obtain⟨w,e1,e2,e3⟩:=r.at' j y ej;refine⟨w,e1,e2,?_⟩;have ne:∀c,sq H y w c->c≠a:=λc oc z=>hj (r.one i j x y v w a e ej ev e1 o (z▸oc));cases y with
   |d y=>exact Rp.kp kz e3
   |ob C fs=>exact Fh.kp kz e3
   |fz ca=>exact AG.kp kz e3
   |ex q=>exact e3
   |tpo p xs q=>
    obtain⟨t,b,ps,vs,qs,et,hz,ht,hb,hl,l1,l2,l3⟩:=e3;have P0:b≠a:=ne b ⟨t,_,et,ht,by rw[l1.length,w! (N6 _),Yv];rfl⟩;exact⟨t,b,ps,vs,qs,et,hz,(kz.at hz ht).2,hb,by rwa[aF P0],l1.kp kz,l2.kp kz,l3.kp kz⟩
   |nwt p xs q=>exact(Cg.no e3).elim
   |own zs=>
    obtain⟨b,vs,eb,V4,hb,hl⟩:=e3;have P0:b≠a:=ne b eb;exact⟨b,vs,eb,V4,by rwa[aF P0],hl.kp kz⟩
   |new zs=>exact ê rfl (e2 zs)
   |scr K ns=>
    obtain⟨b,eb,⟨hz,hb⟩|hk⟩:=e3
    ·have hba:b≠a:=λz=>hz (by rw[z];exact N5 _ hP);refine⟨b,eb,.inl ⟨hz,?_⟩⟩;obtain hb|⟨ob,hb⟩:=hb
     ·exact .inl (by rwa[aF hba])
     ·exact .inr ⟨ob,by rwa[aF hba]⟩
    ·exact⟨b,eb,.inr hk⟩
 ·have nj:∀(j:Nat)(y:DV)(w:V),(δ.set i (a! x'))[j]?=a! (a! y)->σ[j]?=a! (a! w)->sq (upd H a (.lst us)) y w c->∃y',δ[j]?=a! (a! y')/\sq H y' w c:=λj y w ej eq oc=>by
   by_cases hj:i=j
   ·subst hj;rw[x! hi]at ej;cases ej;rw[ev]at eq;cases eq;have hc:=ox c oc;exact⟨x,e,hc▸o⟩
   ·rw[q! hj]at ej;exact⟨y,ej,old j y w c ej eq oc⟩
  obtain⟨z1,d1,p1⟩:=nj j _ _ e1 e3 o1;obtain⟨z2,d2,p2⟩:=nj m _ _ e2 e4 o2;exact r.one j m z1 z2 v1 v2 c d1 d2 e3 e4 p1 p2
def RS.grow{ys:List D}{us:List V}(r:RS O P H σ δ)(e:δ[i]?=a! (a! (.own xs)))(ev:σ[i]?=a! (a! (.ref a)))(l:RpL (P++O) H ys us)(hP:a∈P):
  Kp P H P (upd H a (.lst us))/\RS O P (upd H a (.lst us)) σ (δ.set i (a! (.own ys))):=by
 have kz:Kp (P++O) H (P++O) (upd H a (.lst us)):=⟨λb o hb q=>by rwa[aF (show b≠a from λz=>hb (by rw[z];exact N5 _ hP))],λb hb=>.inl hb⟩;exact r.growG e ev (x:=.own xs) rfl (λj=>nofun) ⟨a,us,rfl,hP,aQ,l.kp kz⟩ (λb h=>by have h':V.ref a=.ref b:=h;cases h';rfl) hP
set_option tactic.hygienic true in
def uc{o:E!}{h_ M':YU}(ho:PE X o (hV i))(he:PX X E e f)(O8:O? o "append" X.env (I! o X.env)=I! o X.env:=by rfl)(Pf:((W2 M' (n! [e] X.env)).all (λx=>!x.1)&&(YZ M' (XU [] X.env)).all (λx=>x.1.isSome)
   &&g! ([e].length+([]:List YL).length+(if([]:List YL).isEmpty then 0 else 1)<30))=d!:=by rfl)(O7:(h_.endLine==M'.line)=d!:=by rfl)(hs:n! [e] X.env=(e!,I! e X.env)::n! [] X.env:=by rfl)(OT:(W2 M' (n! [] X.env)).any (·.1)=e!:=by rfl)(QW:X_ (.Call (.Attribute o "append" h_) [e] [] M') b! ce.line X.env=Xo false:=by rfl):zZ X E (.Expr (.Call (.Attribute o "append" h_) [e] [] M') ce) (lD i f):=
 PS.mono (m6 (vB XT ù ö tm ho (jk he jS hs) O8 Pf O7 hs OT) QW) λT σ H q=>by
  obtain⟨O,P,δ,r,rs,e,q⟩:=q;unfold lD at e;split at e
  ·rename_i xs ei;obtain⟨v,ev,_,a,vs,rfl,hP,ha,l⟩:=rs.at' i _ ei;refine⟨.ref a,ev,.inl ⟨rfl,_,gu.of ha⟩,?_⟩;obtain⟨x,e1,e2⟩|⟨cx,e1,e2⟩:=aB e
   ·obtain⟨d,e3,e4⟩:=bz e2;split at e4
    ·rename_i hz;cases e4;refine⟨O,P,δ,.ok x,rs,e1,λu H1 s1 rx=>?_⟩;have ru:=rx.data rs.dom e3;have l1:=(l.kp (.same s1)).append (.cons ru .nil);obtain⟨k,O3⟩:=(rs.same s1).grow ei ev l1 hP;refine⟨a,vs,u,rfl,rfl,s1 a _ ha,?_,q σ _ P ((Kp.same s1).trans k) O3⟩;rw[<-l.length];exact Ox hz (by rw[K!];decide)
    ·cases e4
   ·subst e2;exact⟨O,P,δ,.error cx,rs,e1,λdx H' s=>q dx H' P (.same s)⟩
  ·cases e
end
def Kp.app{P':List c!}(k:Kp P H P' H'):Kp (P++O) H (P'++O) H':=⟨λa o ha e=>k.keep a o (λh=>ha (N5 _ h)) e,λa ha=>by
 obtain h|h:=Og.mp ha
 ·obtain z|z:=k.new a h
  ·exact .inl (N5 _ z)
  ·exact .inr z
 ·exact .inl (N4 _ h)⟩
def Gz(O P:List c!)(H:Hp)(J:It)(xs:List D):Prop:=∀(i:Nat)(P':List c!)(H':Hp),Kp P H P' H' ->
 (∀d,xs[i]?=a! d->J.go i H'/\∀x H2,J.yld i H' x H2->H2=H'/\Rp (P'++O) H' d x)/\(xs.length<=i->J.stop i H')
def NO(E:XK)(O P:List c!)(H:Hp)(R:It->Hp->Prop):Except b? (List D)->Prop
 |.ok xs=>∀J H',aE H H'->Gz O P H' J xs->R J H'
 |.error c=>∀dx H',aE H H'->E c dx H'
def tI(E:XK)(f:DS->M (List D)):TI:=λσ H R=>∃O P δ r,RS O P H σ δ/\f δ=a! r/\NO E O P H R r
def Fe(X:Cx)(E:XK)(tg g_:E!)(f:DS->M (List D)):Prop:=PI X tg g_ (tI E f)
def PI.mono{tg e:E!}{t t':TI}(h:PI X tg e t)(m:∀σ H R,t' σ H R->t σ H R):PI X tg e t':=λa_ s σ H R I q=>h a_ s σ H R I (m σ H R q)
def iO(f:DS->M DV)(δ:DS):M (List D):=bd (f δ) λx=>match yo x with
 |some (.list xs)=>rt xs
 |_=>b!
def JZ(f:DS->M DV)(δ:DS):M (List D):=bd (f δ) λx=>match x with
 |.d (.tuple xs)=>rt xs
 |_=>b!
noncomputable def dc(lo:Int)(n:Nat):List D:=(m? n).map λ(k:Nat)=>r? (lo+(k:Int))
def eB(lo:Int)(n:Nat):(dc lo n).length=n:=by simp[dc]
variable{d:D}
def EE{lo:Int}(h:(dc lo n)[i]?=a! d):i<n/\d=.int (lo+(i:Int)):=by
 have hi:i<n:=by rw[<-eB lo n];exact(Om.mp h).1
 refine⟨hi,?_⟩;unfold dc at h;rw[M?,List.getElem?_range hi]at h;cases h;rfl
def rR(fr:DS->M (List DV))(δ:DS):M (List D):=bd (fr δ) λxs=>match xs with
 |[.d (.int j)]=>if -(2 ^ 62)<=j/\j<2 ^ 62 then rt (dc 0 j.toNat)else b!
 |_=>b!
def nM(fr:DS->M (List DV))(δ:DS):M (List D):=bd (fr δ) λxs=>match xs with
 |[.d (.int i),.d (.int j)]=>if -(2 ^ 62)<=i/\i<2 ^ 62/\-(2 ^ 62)<=j/\j<2 ^ 62 then rt (dc i (j-i).toNat)else b!
 |_=>b!
section
variable{X:Cx}{E:XK}{tg e a b:E!}{f:DS->M DV}{fr:DS->M (List DV)}{p ce:YU}
def wo(lo:Int)(n:Nat):Gz O P H (Lb lo n) (dc lo n):=λi P' H' k=>by
 refine⟨λd hd=>?_,λh=>?_⟩
 ·obtain⟨hi,rfl⟩:=EE hd;exact⟨hi,λx H2 ⟨e1,e2⟩=>⟨e1,by rw[e2];exact .int _⟩⟩
 ·rwa[eB]at h
def FC(r:Rp (P++O) H (.list xs) v):∃a,v=.ref a/\(∃vs,gu K H a vs)/\Gz O P H (M5 K a) xs:=by
 cases r with
 |@lst a _ vs hz ha l=>
  refine⟨a,rfl,⟨vs,gu.of ha⟩,λi P' H' k=>?_⟩;have Q3:=k.keep a _ (λh=>hz (N5 _ h)) ha;have l':=l.kp (Kp.app (O:=O) k);refine⟨λd hd=>?_,λh=>⟨vs,gu.of Q3,by rwa[<-l.length]⟩⟩;obtain⟨x,hx,rx⟩:=l'.get hd;refine⟨⟨vs,x,gu.of Q3,hx⟩,λy H2 ⟨e1,e2⟩=>⟨e1,?_⟩⟩;have:=e2 vs (gu.of Q3);rw[hx]at this;cases this;exact rx
def JG(r:Rp (P++O) H (.tuple xs) v):∃a,v=.ref a/\(∃vs,lA K H a vs)/\Gz O P H (Nh K a) xs:=by
 cases r with
 |@tup a _ vs hz ha l=>
  refine⟨a,rfl,⟨vs,lA.of ha⟩,λi P' H' k=>?_⟩;have Q3:=k.keep a _ (λh=>hz (N5 _ h)) ha;have l':=l.kp (Kp.app (O:=O) k);refine⟨λd hd=>?_,λh=>⟨vs,lA.of Q3,by rwa[<-l.length]⟩⟩;obtain⟨x,hx,rx⟩:=l'.get hd;refine⟨⟨vs,x,lA.of Q3,hx⟩,λy H2 ⟨e1,e2⟩=>⟨e1,?_⟩⟩;have:=e2 vs (lA.of Q3);rw[hx]at this;cases this;exact rx
set_option tactic.hygienic true in
def dS(he:PX X E e f):Fe X E tg e (iO f):=PI.mono (Gp he) λσ H R q=>by
 obtain⟨O,P,δ,r,rs,e,q⟩:=q;obtain⟨x,e1,e2⟩|⟨cx,e1,e2⟩:=aB e
 ·refine⟨O,P,δ,.ok x,rs,e1,λv H1 s1 rx=>?_⟩;split at e2
  ·rename_i xs h;cases e2;obtain⟨a,rfl,h1,h2⟩:=FC (K:=X.K) (rx.data rs.dom h);exact⟨a,rfl,h1,q _ H1 s1 h2⟩
  ·cases e2
 ·subst e2;exact⟨O,P,δ,.error cx,rs,e1,q⟩
def EF(he:PX X E e f):Fe X E tg e (JZ f):=PI.mono (J2 he) λσ H R q=>by
 obtain⟨O,P,δ,r,rs,e,q⟩:=q;obtain⟨x,e1,e2⟩|⟨cx,e1,e2⟩:=aB e
 ·refine⟨O,P,δ,.ok x,rs,e1,λv H1 s1 rx=>?_⟩;split at e2
  ·cases e2;obtain⟨a,rfl,h1,h2⟩:=JG (K:=X.K) rx;exact⟨a,rfl,h1,q _ H1 s1 h2⟩
  ·cases e2
 ·subst e2;exact⟨O,P,δ,.error cx,rs,e1,q⟩
set_option tactic.hygienic true in
def lH(hm:X.mg "range" = b!)(ha:wq X E [a] fr)(hg:Gl X "range" :=by rfl)(hs:n! [a] X.env=[(e!,I! a X.env)]:=by rfl):Fe X E tg (.Call (.Name "range" p) [a] [] ce) (rR fr):=PI.mono (Bv hg hm ha hs) λσ H R q=>by
 obtain⟨O,P,δ,r,rs,e,q⟩:=q;obtain⟨xs,e1,e2⟩|⟨cx,e1,e2⟩:=aB e
 ·refine⟨O,P,δ,.ok xs,rs,e1,λvs H1 s1 rx=>?_⟩;split at e2
  ·split at e2
   ·rename_i h;cases e2;cases rx with
    |cons r1 rr=>
     cases rr;cases r1;exact⟨_,rfl,h.1,h.2,q _ H1 s1 (wo 0 _)⟩
   ·cases e2
  ·cases e2
 ·subst e2;exact⟨O,P,δ,.error cx,rs,e1,q⟩
set_option tactic.hygienic true in
def ng(hm:X.mg "range" = b!)(ha:wq X E [a,b] fr)(hg:Gl X "range" :=by rfl)(hs:n! [a,b] X.env=[(e!,I! a X.env),(e!,I! b X.env)]:=by rfl)(QN:n! [b] X.env=[(e!,I! b X.env)]:=by rfl):
  Fe X E tg (.Call (.Name "range" p) [a,b] [] ce) (nM fr):=PI.mono (BO hg hm ha hs QN) λσ H R q=>by
 obtain⟨O,P,δ,r,rs,e,q⟩:=q;obtain⟨xs,e1,e2⟩|⟨cx,e1,e2⟩:=aB e
 ·refine⟨O,P,δ,.ok xs,rs,e1,λvs H1 s1 rx=>?_⟩;split at e2
  ·split at e2
   ·rename_i h;cases e2;cases rx with
    |cons r1 rr=>
     cases rr with
     |cons r2 rr=>
      cases rr;cases r1;cases r2;exact⟨_,_,rfl,h,q _ H1 s1 (wo _ _)⟩
   ·cases e2
  ·cases e2
 ·subst e2;exact⟨O,P,δ,.error cx,rs,e1,q⟩
end
def Nv(G:DS->M Out)(o:Out):M Out:=match o with
 |.nx δ=>G δ
 |.ct δ=>G δ
 |.bk δ=>rt (.nx δ)
 |.rt x=>rt (.rt x)
@[simp] def ma(G:DS->M Out)(δ:DS):Nv G (.nx δ)=G δ:=rfl
def dG(sf:D->DS->Option DS)(B:DS->M Out):List D->DS->M Out
 |[],δ=>rt (.nx δ)
 |d::r,δ=>bd (op (sf d δ)) λδ1=>bd (B δ1) (Nv (dG sf B r))
def cT(fi:DS->M (List D))(sf:D->DS->Option DS)(B:DS->M Out)(δ:DS):M Out:=bd (fi δ) λxs=>dG sf B xs δ
section
variable{X:Cx}{E:XK}{tg g_:E!}{j_:List U!}{fi:DS->M (List D)}{g:TG}{sf:D->DS->Option DS}{B:DS->M Out}{ce:YU}
def dC(hp:Ê (p! X.prog X.w) X.A X.env X.xe)(hc:X.calm=d!)(hi:Fe X E tg g_ fi)(hg:PG X tg g)(ht:Ih g sf)(hb:yU X E j_ B)(hs:∀x,W3 g_ X.env x=Xo x:=by intro _;rfl):zZ X E (.For tg g_ j_ [] ce) (cT fi sf B):=PS.mono (yk hp hc hi hg hb hs) λT σ H q=>by
 obtain⟨O,P,δ,r,rs,e,q⟩:=q;obtain⟨xs,e1,e2⟩|⟨cx,e1,e2⟩:=aB e
 ·refine⟨O,P,δ,.ok xs,rs,e1,λJ H1 s1 it=>?_⟩;refine⟨λi m c_ H'=>m=xs.length-i/\i<=xs.length/\∃P' δ',Kp P H1 P' H'/\RS O P' H' c_ δ'/\dG sf B (xs.drop i) δ'=a! r,⟨xs.length,0x4,Ov _,P,δ,.refl,rs.same s1,e2⟩,?_⟩;rintro i m c_ H' ⟨rfl,hi,P',δ',k,O3,el⟩;have q':=q.on ((Kp.same s1).trans k);by_cases OL:i<xs.length
  ·obtain⟨go,yl⟩:=(it i P' H' k).1 xs[i] (by simp[OL]);refine .inr ⟨go,λw_ H2=>∃P2 D_,Kp P H1 P2 H2/\RS O P2 H2 w_ D_/\dG sf B (xs.drop (i+1)) D_=a! r,λw_ H2 ⟨P2,D_,h1,h2,h3⟩=>⟨xs.length-(i+1),0x1,rfl,OL,P2,D_,h1,h2,h3⟩,λx H2 hy=>?_⟩;obtain⟨rfl,rx⟩:=yl x H2 hy;rw[L? OL]at el;obtain⟨δ1,e3,e4⟩:=bz el;refine ht O P' H2 c_ δ' δ1 _ x _ O3 rx e3 λP_ OK=>?_;obtain⟨o,e5,e6⟩|⟨cx,e5,e6⟩:=aB e4
   ·refine⟨O,P',δ1,.ok o,OK,e5,?_⟩;cases o with
    |nx D_=>exact λw_ H3 P2 k2 SQ=>⟨P2,D_,k.trans k2,SQ,e6⟩
    |ct D_=>exact λw_ H3 P2 k2 SQ=>⟨P2,D_,k.trans k2,SQ,e6⟩
    |bk D_=>cases e6;exact q'
    |rt y=>cases e6;exact q'
   ·subst e6;exact⟨O,P',δ1,.error cx,OK,e5,q'⟩
  ·have Po:i=xs.length:=by lia
   subst Po;rw[ů]at el;cases el;exact .inl ⟨(it _ P' H' k).2 (N6 _),q' c_ H' P' .refl O3⟩
 ·subst e2;exact⟨O,P,δ,.error cx,rs,e1,λdx H' s=>q dx H' P (.same s)⟩
end
noncomputable def cX(k:Nat)(js:List Nat)(δ:DS):DS:=p? k b!++js.map λj=>(δ[j]?).join
def vh{o:Option (Option α)}{x:α}(h:o.join=a! x):o=a! (a! x):=by
 cases o with
 |none=>cases h
 |some z=>simp only[ζ]at h;rw[<-h];rfl
variable{σ:St}
def RS.block(r:RS O P H σ δ)(k:Nat)(js:List Nat)(hj:js.Nodup):RS O P H (jU k js σ) (cX k js δ):=by
 have Rz:∀(i:Nat)(x:DV),(cX k js δ)[i]?=a! (a! x)->k<=i/\∃j,js[i-k]?=a! j/\δ[j]?=a! (a! x):=λi x h=>by
  unfold cX at h;by_cases hi:i<k
  ·rw[F? (by simpa using hi),XX]at h;split at h <;>cases h
  ·rw[w! (by simpa using hi),WZ,M?]at h;cases e:js[i-k]? with
   |none=>rw[e]at h;cases h
   |some j=>
    rw[e]at h;exact⟨0x1,j,rfl,vh (OD h)⟩
 have sg:∀(i j:Nat),k<=i->js[i-k]?=a! j->(jU k js σ)[i]?=a! ((σ[j]?).join):=λi j hi e=>by unfold jU;rw[w! (by simpa using hi),WZ,M?,e];rfl
 refine⟨by unfold jU cX;simp,r.dom,r.apart,λi x h=>?_,λi j x y v w c h1 h2 h3 h4 o1 o2=>?_⟩
 ·obtain⟨hi,j,ej,ed⟩:=Rz i x h;obtain⟨v,e1,e2,e3⟩:=r.at' j x ed;exact⟨v,by rw[sg i j hi ej,e1];rfl,e2,e3⟩
 ·obtain⟨hi,i',ei,di⟩:=Rz i _ h1;obtain⟨PQ,j',ej,dj⟩:=Rz j _ h2;rw[sg i i' hi ei]at h3;rw[sg j j' PQ ej]at h4;have:=r.one i' j' x y v w c di dj (vh (OD h3)) (vh (OD h4)) o1 o2;subst this;obtain⟨l1,g1⟩:=Om.mp ei;obtain⟨l2,g2⟩:=Om.mp ej;have:=(Ů hj).mp (g1.trans g2.symm);lia
def cF(sf:D->DS->Option DS)(gc:DS->M Bool)(fe:DS->M DV)(δ:DS):List D->Option (List D)
 |[]=>a! []
 |d::r=>match sf d δ with
  |none=>b!
  |some δ1=>match gc δ1 with
   |some (.ok e!)=>cF sf gc fe δ r
   |some (.ok d!)=>match fe δ1 with
    |some (.ok y)=>match yo y,cF sf gc fe δ r with
     |some z,a! zs=>a! (z::zs)
     |_,_=>b!
    |_=>b!
   |_=>b!
def bW(_:DS):M Bool:=rt d!
def aW(k:Nat)(js:List Nat)(fi:DS->M (List D))(sf:D->DS->Option DS)(gc:DS->M Bool)(fe:DS->M DV)(δ:DS):M DV:=bd (fi δ) λxs=>if xs.length<=1000000 then bd (op (cF sf gc fe (cX k js δ) xs)) λys=>rt (.new ys)else b!
def dk:PF X [] (DQ E0 bW):=λa_ s σ H Q I q=>IB a_ s σ H Q I (by obtain⟨O,P,δ,r,rs,e,q⟩:=q;cases e;exact q H (aE.refl H))
set_option tactic.hygienic true in
theorem oq{sf:D->DS->Option DS}{gc:DS->M Bool}{fe:DS->M DV}{δ:DS}:∀{xs ys:List D},cF sf gc fe δ xs=a! ys->ys.length<=xs.length
 |[],ys,h=>by cases h;simp
 |d::r,ys,h=>by
  unfold cF at h;split at h
  ·cases h
  ·split at h
   ·have:=oq (xs:=r) h;simp;lia
   ·split at h
    ·split at h
     ·rename_i z zs e1 e2;cases h;have:=oq (xs:=r) e2;simp;lia
     ·cases h
    ·cases h
   ·cases h
section
variable{X:Cx}{E:XK}{k:Nat}{js:List Nat}{N':List w?}{scope:Y1}{v_ tg g_:E!}{t_:List E!}{ce:YU}{fi:DS->M (List D)}{g:TG}{sf:D->DS->Option DS}{gc:DS->M Bool}{fe:DS->M DV}
set_option tactic.hygienic true in
def tO(hj:js.Nodup)(ht:Ih g sf)(OO:∀δ d δ1,sf d (cX k js δ)=a! δ1->Sub (cX k js δ) δ1)(q:tE E (aW k js fi sf gc fe) σ H Q):zJ (tI E fi) k js g (DQ E0 gc) (tE E0 fe) σ H Q:=by
 obtain⟨O,P,δ,r,rs,e,q⟩:=q;obtain⟨xs,e1,e2⟩|⟨cx,e1,e2⟩:=aB e
 ·refine⟨O,P,δ,.ok xs,rs,e1,λJ H1 s1 it=>?_⟩;split at e2
  ·rename_i hz;obtain⟨ys,e3,e4⟩:=bz e2;cases e4;have f_:=oq e3;refine⟨λi m c_ H' vs=>m=xs.length-i/\i<=xs.length/\aE H1 H'/\RS O P H' c_ (cX k js δ)/\∃ds es,RpL (P++O) H' ds vs/\cF sf gc fe (cX k js δ) (xs.drop i)=a! es/\ys=ds++es,
    ⟨xs.length,0x4,Ov _,aE.refl H1,(rs.same s1).block k js hj,[],ys,.nil,e3,rfl⟩,?_⟩
   rintro i m c_ H' vs ⟨rfl,hi,sH,O3,ds,es,l,ec,ey⟩;have hvl:vs.length<=ys.length:=by rw[ey,<-l.length];simp
   by_cases OL:i<xs.length
   ·refine .inr ?_;rw[L? OL]at ec;unfold cF at ec;obtain⟨go,yl⟩:=(it i P H' (.same sH)).1 xs[i] (by simp[OL]);split at ec
    ·cases ec
    ·rename_i δ1 e5;refine⟨go,Zi (Ow hvl (Ow f_ hz)) (by rw[K!];decide),λx H2 hy=>?_⟩;obtain⟨rfl,rx⟩:=yl x H2 hy;refine ht O P H2 c_ _ δ1 _ x _ O3 rx e5 λP_ OK=>?_;have R6:=OO δ _ δ1 e5;split at ec
     ·rename_i e6;refine⟨O,P,δ1,.ok e!,OK,e6,λH3 s3=>?_⟩;exact xH ⟨xs.length-(i+1),0x1,rfl,OL,sH.trans s3,(OK.same s3).forget R6,ds,es,l.kp (.same s3),ec,ey⟩
     ·rename_i e6;refine⟨O,P,δ1,.ok d!,OK,e6,λH3 s3=>?_⟩;refine yT ?_;split at ec
      ·rename_i y e7;split at ec
       ·rename_i z zs e8 e9;cases ec;refine⟨O,P,δ1,.ok y,OK.same s3,e7,λv H4 s4 ry=>?_⟩;refine⟨xs.length-(i+1),0x1,rfl,OL,sH.trans (s3.trans s4),(OK.same (s3.trans s4)).forget R6,ds++[z],zs,(l.kp (.same (s3.trans s4))).append (.cons (ry.data (OK.same s3).dom e8) .nil),e9,?_⟩;rw[ey,t?];rfl
       ·cases ec
      ·cases ec
     ·cases ec
   ·have Po:i=xs.length:=by lia
    subst Po;rw[ů]at ec;cases ec;refine .inl ⟨(it _ P H' (.same sH)).2 (N6 _),Ow hvl (fC (Ow f_ hz)),λp hp=>?_⟩;rw[ey,C!]at q;exact q _ _ ((s1.trans sH).trans (bb hp)) (RE.made (s1.trans sH) hp l)
  ·cases e2
 ·subst e2;exact⟨O,P,δ,.error cx,rs,e1,q⟩
def bR(S:CompFit X k js N' scope)(hj:js.Nodup)(hc:X.calm=d!)(hi:Fe X E tg g_ fi)(ht:Ih g sf)(OO:∀δ d δ1,sf d (cX k js δ)=a! δ1->Sub (cX k js δ) δ1)(hg:∀C s₂ b_ fp,PG (aR X N' scope C s₂ b_ fp) tg g)(hf:∀C s₂ b_ fp,PF (aR X N' scope C s₂ b_ fp) t_ (DQ E0 gc))(he:∀C s₂ b_ fp,PX (aR X N' scope C s₂ b_ fp) E0 v_ fe)(hs:∀x,W3 g_ X.env x=Xo x:=by intro _;rfl):PX X E (.ListComp v_ [⟨tg,g_,t_,0⟩] scope ce) (aW k js fi sf gc fe):=PE.mono (GP S hc hi hg hf he hs) λσ H Q q=>tO hj ht OO q
end
noncomputable def oE(N:List w?)(xs:List DV):DS:=xs.map a!++p? (N.length-xs.length) b!
noncomputable def res:DV->DV
 |.own xs=>.new xs
 |.tpo p xs q=>.nwt p xs q
 |x=>x
@[simp] def DO(x:D):res (.d x)=.d x:=rfl
@[simp] def vm(xs:List D):res (.own xs)=.new xs:=rfl
@[simp] def ux(xs:List D):res (.new xs)=.new xs:=rfl
@[simp] def yA(C:c!)(fs:List (w?×D)):res (.ob C fs)=.ob C fs:=rfl
def BB:Out->M DV
 |.rt x=>rt (res x)
 |.nx _=>rt (.d .none)
 |_=>b!
@[simp] def uU(x:DV):BB (.rt x)=rt (res x):=rfl
@[simp] def uA(δ:DS):BB (.nx δ)=rt (.d .none):=rfl
def eS(N:List w?)(F:DS->M Out)(xs:List DV):M DV:=bd (F (oE N xs)) BB
def RS.start{N:List w?}{O:List c!}{H:Hp}{xs:List DV}{vs:List V}(dom:∀a,a∈O->∃o,H a=a! o)(r:mE O [] H H xs vs):RS O [] H (L2.start N vs) (oE N xs):=by
 have hl:xs.length=vs.length:=Xs r;have Rz:∀(i:Nat)(x:DV),(oE N xs)[i]?=a! (a! x)->xs[i]?=a! x:=λi x h=>by
  unfold oE at h;by_cases hi:i<xs.length
  ·rw[F? (by simpa using hi),M?]at h;cases e:xs[i]? with
   |none=>rw[e]at h;cases h
   |some y=>rw[e]at h;cases h;rfl
  ·rw[w! (by simpa using hi),XX]at h;split at h <;>cases h
 have T4:∀{xs:List DV}{vs:List V},mE O [] H H xs vs->∀(i:Nat)(x:DV),xs[i]?=a! x->∃v,vs[i]?=a! v/\RE O [] H H x v:=by
  intro xs vs r
  induction r with
  |nil=>intro i x h;simp at h
  |cons r1 _ ih=>
   intro i x h;cases i with
   |zero=>simp at h;subst h;exact⟨_,rfl,r1⟩
   |succ i=>simpa using ih i x (by simpa using h)
 have sv:∀(i:Nat)(v:V),vs[i]?=a! v->(L2.start N vs)[i]?=a! (a! v):=λi v h=>by have hi:i<vs.length:=(Om.mp h).1;unfold L2.start;rw[F? (by simpa using hi),M?,h];rfl
 refine⟨by unfold L2.start oE;simp[hl],λa ha=>dom a ha,λa ha=>(by cases ha),λi x h=>?_,λi j y z v w c h1 h2 h3 h4 o1 o2=>?_⟩
 ·obtain⟨v,e1,e2⟩:=T4 r i x (Rz i x h);refine⟨v,sv i v e1,λys hx=>?_,e2⟩;subst hx;obtain⟨a,us,_,hn,ha,_⟩:=e2;rw[hn]at ha;cases ha
 ·obtain⟨v',e1,e2⟩:=T4 r i _ (Rz i _ h1);rw[sv i v' e1]at h3;cases h3;cases o1.new e2
def RE.out{P':List c!}(k:Kp [] H P' H1)(s:aE H1 H')(r:RE O P' H1 H' x v):aE H H'/\RE O [] H H' (res x) v:=by
 have sH:aE H H':=λb o e=>s b o (k.keep b o 0x4 e);have sub:∀a,a∈([]:List c!)++O->a∈P'++O:=λa ha=>N4 _ ha;refine⟨sH,?_⟩;cases x with
 |d x=>exact Rp.kp (.sub sub) r
 |ob C fs=>exact Fh.kp (.sub sub) r
 |fz ca=>exact AG.kp (.sub sub) r
 |ex q=>exact r
 |tpo p xs q=>
  obtain⟨t,a,ps,vs,qs,e,hz,ht,hP,ha,l1,l2,l3⟩:=r;have sb:∀b,b∈a::([]++O)->b∈P'++O:=λb hb=>by
   obtain z|z:=Of.mp hb
   ·exact N5 _ (z▸hP)
   ·exact sub b z
  refine⟨t,a,ps,vs,qs,e,λh=>hz (sb t h),ht,?_,ha,l1.kp (.sub sb),l2.kp (.sub sb),l3.kp (.sub sb)⟩;obtain z|z:=k.new a hP
  ·cases z
  ·exact z
 |nwt p xs q=>
  obtain⟨t,a,ps,vs,qs,e,hz,ht,hn,ha,l1,l2,l3⟩:=r;have sb:∀b,b∈a::([]++O)->b∈a::(P'++O):=λb hb=>by
   obtain z|z:=Of.mp hb
   ·exact z▸N2
   ·exact N1 _ (sub b z)
  refine⟨t,a,ps,vs,qs,e,λh=>hz (sb t h),ht,?_,ha,l1.kp (.sub sb),l2.kp (.sub sb),l3.kp (.sub sb)⟩;cases q:H a with
  |none=>rfl
  |some o=>rw[k.keep a o 0x4 q]at hn;cases hn
 |own xs=>
  obtain⟨a,vs,e,hP,ha,l⟩:=r;refine⟨a,vs,e,?_,ha,l.kp (.sub λb hb=>?_)⟩
  ·obtain z|z:=k.new a hP
   ·cases z
   ·exact z
  ·obtain z|z:=Of.mp hb
   ·exact N5 _ (z▸hP)
   ·exact sub b z
 |new xs=>
  obtain⟨a,vs,e,hn,ha,l⟩:=r;refine⟨a,vs,e,?_,ha,l.kp (.sub λb hb=>?_)⟩
  ·cases q:H a with
   |none=>rfl
   |some o=>rw[k.keep a o 0x4 q]at hn;cases hn
  ·obtain z|z:=Of.mp hb
   ·exact z▸N2
   ·exact N1 _ (sub b z)
 |scr K ns=>
  obtain⟨a,e,hz⟩:=r;exact⟨a,e,hz.imp (λz=>⟨λh=>z.1 (sub a h),z.2⟩) λz=>z⟩
section
variable{P:g?}{w:q?}{K:Oe}{mg:w?->Option b?}{base:F!}
def nK{x e_:w?}{f:c!}{fd:W'}{N ps:List w?}{k:Nat}{F:DS->M Out}(Fu:Fun K x e_ st f fd)(S:FnScope N ps (ak st))(hn:ps.length=n)(j_:∀(OJ:b?)(A:A?)(bn:List ĉ)(s:d?)(H:Hp)(E:XK),Room k (A.deeper (X! e_ (ak st) s.heap.objs.size f OJ)) ->
   yU (fF ug P w K mg base N e_ (ak st) f OJ A bn s H E).nox E0 (dI st) F):FnOk P w K mg base ug (k+1) f fd ps (F8 n (eS N F)):=by
 refine Fu.ok S (λvs H Q E h=>h.1.trans hn.symm) λOJ A bn s H vs Q E hr Qc=>⟨_,j_ OJ A bn s H E hr,?_⟩;obtain⟨_,O,xs,x,dom,rx,e,q⟩:=Qc;obtain⟨o,e1,e2⟩|⟨c,_,e2⟩:=aB e
 ·refine⟨O,[],oE N xs,.ok o,RS.start dom rx,e1,?_⟩;cases o with
  |rt y=>
   cases e2;intro v H1 H' P' k' s' _ _ ry;obtain⟨sH,Sg⟩:=ry.out k' s';exact q v H' sH Sg
  |nx δ=>
   cases e2;intro c_ H' P' k' _;exact q .non H' (λb o e=>k'.keep b o 0x4 e) .none
  |bk δ=>cases e2
  |ct δ=>cases e2
 ·cases e2
end
section
variable{X:Cx}{E:XK}{o e:E!}{fo fe:DS->M DV}
noncomputable def qu:List D->Option (List Bool)
 |[]=>a! []
 |.bool b::r=>(qu r).map (b::·)
 |_::_=>b!
theorem sZ:∀{xs:List D}{bs:List Bool},qu xs=a! bs->xs=bs.map X0
 |[],bs,h=>by cases h;rfl
 |x::r,bs,h=>by
  cases x with
  |bool b=>
   unfold qu at h;cases e:qu r with
   |none=>rw[e]at h;cases h
   |some cs=>rw[e]at h;cases h;rw[sZ e];rfl
  |_=>cases h
def BM(bs:List Bool):qu (bs.map X0)=a! bs:=by
 induction bs with
 |nil=>rfl
 |cons b r ih=>rw[f?,qu,ih];rfl
def su(xs:List DV):M DV:=match xs with
 |[x]=>bd (op (jJ x)) λys=>bd (op (qu ys)) λbs=>rt (.d (.bool (bs.all id)))
 |_=>b!
theorem qE{Z:List c!}{H:Hp}:∀{bs:List Bool}{vs:List V}{us:List b?},RpL Z H (bs.map X0) vs->aT vs us->us=bs.map YD
 |[],_,_,.nil,.nil=>rfl
 |b::r,_,_,.cons p l,.cons q t=>by cases p;cases q;rw[f?,qE l t]
def Bl(bs:List Bool):((m? bs.length).all λi=>(bs[i]?).getD d!)=bs.all id:=by
 induction bs with
 |nil=>rfl
 |cons b r ih=>
  rw[i!,Xw,Zt,X8,Zt];have:(r.all id)=((m? r.length).all λi=>(r[i]?).getD d!):=ih.symm;rw[this];congr 1
def uX(hc:X.calm=d!):dR X E (.builtin "all") su:=λa_ s σ O P H₀ H xs vs us r Q I hd hs rx rv e q=>by
 unfold su at e;split at e
 ·obtain⟨ys,e1,e2⟩:=bz e;obtain⟨bs,e3,e4⟩:=bz e2;cases e4;cases rx with
  |cons r1 rr=>
   cases rr;obtain⟨a,ws,rfl,ha,l⟩:=r1.list e1;cases rv with
   |cons q1 q2=>
    cases q2;cases q1;have Td:=sZ e3;subst Td;obtain⟨D',ri,pl,hz⟩:=I.list (gu.of ha);have E_:=qE l ri;have OL:a<s.heap.objs.size:=by obtain⟨_,e',_⟩:=pl.isList;exact N9 e'
    have PY:=pl.isList;refine call_all_walk (ñ PY ?_);refine⟨s.heap.objs.size,[s.heap.objs.size,a],[s.heap.objs.size],D'.toArray.size,_,_,λi=>(bs[i]?).getD d!,rfl,Walks.list (A:=X.A.in1) (I.ok.hd hc) _ a (OA OL) D'.toArray,
     ⟨⟨_,OC _ rfl,rfl,rfl⟩,PY.push _⟩,λi v s' Q' E' hP hQ=>?_,λh' tk hk=>?_⟩
    ·have hv:(bs[i]?).map YD=a! v:=by have RI:D'.toArray[i]?=a! v:=hP;rw[<-RI,E_];simp
     cases eb:bs[i]? with
     |none=>rw[eb]at hv;cases hv
     |some b=>
      rw[eb]at hv;cases hv;simp only[eb,Ŋ]at hQ;exact N? hQ
    ·have hn:D'.toArray.size=bs.length:=by rw[E_];simp
     rw[hn,Bl];refine⟨.bl _,H,I.kept (t':=tk) λb ob eb=>hk b ob (λhm=>?_) (N3 _ eb),rfl,q _ H (aE.refl H) (.bool _)⟩;rw[Oi.mp hm]at eb;exact YE _ (N9 eb)
 ·cases e
def tV(x y:DV):M DV:=match jJ x,pS y with
 |some xs,a! d=>if d.depth<=60 then rt (.d (.int (xs.countP λz=>i? z d)))else b!
 |_,_=>b!
def ju(fo fe:DS->M DV)(δ:DS):M DV:=bd (fo δ) λx=>bd (op (jJ x)) λo=>bd (fe δ) λy=>tV x y
def M4(E:XK)(x:V)(vs:List V)(H:Hp)(Q:VK):Prop:=∃O P H₀ dx dy v r,vs=[v]/\RE O P H₀ H dx x/\RE O P H₀ H dy v/\tV dx dy=a! r/\Fn E O P H₀ H Q r
set_option tactic.hygienic true in
def En(hu:X.A.units+64<K?):Na X "list.count" (M4 E):=λa_ s σ H x xs v us Q I rx rs h=>by
 obtain⟨O,P,H₀,dx,dy,w,r,rfl,r1,r2,e,q⟩:=h;obtain⟨u,rfl,ru⟩:=rE rs;unfold tV at e;split at e
 ·rename_i ys d h1 h2;split at e
  ·rename_i Q1;cases e;obtain⟨a,ws,rfl,ha,l⟩:=r1.list h1;cases rx;obtain⟨⟨as,ra⟩,la⟩:=r2.reads I ru h2;obtain⟨D',ri,pl,hz⟩:=I.list (gu.of ha);obtain⟨bs,rb⟩:=RpL.reads I l ri;obtain⟨⟨cls,dd,data,sl⟩,ho,hc,n,hd⟩:=pl.isList;simp only at hc hd;subst hc hd;refine ZY þ ⟨_,ho,rfl⟩ PySem.F.entry_list_count (PySem.F.args_list_count_2 _ _) (SeqAt.list_countAt a D'.toArray n dd sl u λy=>i? (Ο s.heap y) d)
    ⟨ho,Š (vs:=D'.toArray) rb ra l.lay la (by have:=ZA (l? ys) d.depth;lia),?_⟩
   have SH:D'.toArray.toList.countP (λy=>i? (Ο s.heap y) d)=ys.countP λz=>i? z d:=by rw[<-ĸ ys _ _ l.lay rb,Α];rfl
   rw[SH];exact⟨.int _,H,I.tok _,⟨_,rfl⟩,q _ H (aE.refl H) (.int _)⟩
  ·cases e
 ·cases e
def iE{h_ M':YU}(hu:X.A.units+64<K?)(ho:PX X E o fo)(he:PX X E e fe)(O8:O? o "count" X.env (I! o X.env)=I! o X.env:=by rfl)(Pf:((W2 M' (n! [e] X.env)).all (λx=>!x.1)&&(YZ M' (XU [] X.env)).all (λx=>x.1.isSome)
   &&g! ([e].length+([]:List YL).length+(if([]:List YL).isEmpty then 0 else 1)<30))=d!:=by rfl)(O7:(h_.endLine==M'.line)=d!:=by rfl)(hs:n! [e] X.env=(e!,I! e X.env)::n! [] X.env:=by rfl)(OT:(W2 M' (n! [] X.env)).any (·.1)=e!:=by rfl):
  PX X E (.Call (.Attribute o "count" h_) [e] [] M') (ju fo fe):=
 PE.mono (vB XT þ PySem.F.type_list_count (En (E:=E) hu) ho (jk he jS hs) O8 Pf O7 hs OT) λσ H Q q=>
  lT (g:=λδ x=>bd (op (jJ x)) λz=>bd (fe δ) λy=>tV x y) q λO P δ x r v H1 rs OK s1 rx e q=>by
   obtain⟨ys,h1,e⟩:=bz e;obtain⟨a,ws,rfl,ha,_⟩:=rx.list h1;refine⟨.inl ⟨rfl,_,gu.of ha⟩,?_⟩;obtain⟨y,e1,e2⟩|⟨c,e1,e2⟩:=aB e
   ·exact⟨O,P,δ,.ok y,OK,e1,λu H2 s2 ry=>⟨O,P,H,x,y,u,r,rfl,rx.on s2,ry.from s1,e2,q.on s2⟩⟩
   ·subst e2;exact⟨O,P,δ,.error c,OK,e1,q⟩
end
open PySem.W (KasT kas_asc kas_desc kas_tail3 kas_descPart kas_count kas_place kas_bin kas_sort kas_rev)
noncomputable abbrev ll:=HT.lexLt
theorem d8:∀a:List Int,ll a a=e!
 |[]=>rfl
 |x::r=>by show HT.lexLt (x::r) (x::r)=e!;rw[HT.lexLt_cons,é rfl];exact d8 r
theorem jP:∀{a b:List Int},ll a b=e!->ll b a=e!->a=b
 |[],[],_,_=>rfl
 |[],_::_,h,_=>by cases h
 |_::_,[],_,h=>by cases h
 |x::xs,y::ys,h1,h2=>by
  have e1:HT.lexLt (x::xs) (y::ys)=e!:=h1;have e2:HT.lexLt (y::ys) (x::xs)=e!:=h2;rw[HT.lexLt_cons]at e1 e2;by_cases h:x=y
  ·subst h;rw[é rfl]at e1 e2;rw[jP e1 e2]
  ·rw[è h]at e1;rw[è (XR h)]at e2;have:=of_decide_eq_false e1;have:=of_decide_eq_false e2;lia
theorem mY:∀{a b c:List Int},ll a b=d!->ll b c=d!->ll a c=d!
 |[],[],_,h,_=>by cases h
 |[],_::_,[],_,h=>by cases h
 |[],_::_,_::_,_,_=>rfl
 |_::_,[],_,h,_=>by cases h
 |_::_,_::_,[],_,h=>by cases h
 |x::xs,y::ys,z::zs,h1,h2=>by
  have e1:HT.lexLt (x::xs) (y::ys)=d!:=h1;have e2:HT.lexLt (y::ys) (z::zs)=d!:=h2;show HT.lexLt (x::xs) (z::zs)=d!;rw[HT.lexLt_cons]at e1 e2 ⊢;by_cases h:x=y
  ·subst h;rw[é rfl]at e1;by_cases h':x=z
   ·subst h';rw[é rfl]at e2 ⊢;exact mY e1 e2
   ·rw[è h']at e2 ⊢;exact e2
  ·rw[è h]at e1;have l1:=of_decide_eq_true e1;by_cases h':y=z
   ·subst h';rwa[è h]
   ·rw[è h']at e2;have l2:=of_decide_eq_true e2;rw[è 0x1];exact Oz 0x1
variable{b:List Int}
def f7{a:List Int}(h:ll a b=d!):ll b a=e!:=by
 cases e:ll b a with
 |false=>rfl
 |true=>
  have:=mY h e;rw[d8]at this;cases this
def g9{a c:List Int}(h1:ll b a=e!)(h2:ll c b=e!):ll c a=e!:=by
 cases e:ll c a with
 |false=>rfl
 |true=>
  cases e2:ll a b with
  |true=>rw[mY e e2]at h2;cases h2
  |false=>
   have:=jP e2 h1;subst this;rw[e]at h2;cases h2
def BZ{a c:List Int}(h1:ll a b=d!)(h2:ll c b=e!):ll a c=d!:=by
 cases e2:ll b c with
 |true=>exact mY h1 e2
 |false=>
  have:=jP e2 h2;subst this;exact h1
open PySem.W (KasT kas_asc kas_desc kas_tail3 kas_descPart kas_count kas_place kas_bin kas_sort kas_rev kas_ask kas_item)
def Bo{α:Type}(n:Nat)(R:α->Prop):KasT α->Prop
 |.ret a=>R a
 |.ask i j k=>i<n/\j<n/\∀b,Bo n R (k b)
theorem Bo.bind{α β:Type}{n:Nat}{R:α->Prop}{R':β->Prop}{f:α->KasT β}:∀{t:KasT α},Bo n R t->(∀a,R a->Bo n R' (f a))->Bo n R' (t.bind f)
 |.ret a,h,hf=>hf a h
 |.ask i j k,h,hf=>⟨h.1,h.2.1,λb=>Bo.bind (h.2.2 b) hf⟩
def IJ(n:Nat)(p:Array Nat):Prop:=1<=n/\∀x,x∈p->x<n
def IJ.perm{p q:Array Nat}(h:IJ n p)(hp:q.Perm p):IJ n q:=⟨h.1,λx hx=>h.2 x (hp.mem_iff.mp hx)⟩
noncomputable def kT:D->Option (List Int)
 |.tuple xs=>go xs
 |_=>b!
where go:List D->Option (List Int)
 |[]=>a! []
 |.int i::r=>(go r).map (i::·)
 |_::_=>b!
theorem HV:∀{xs:List D}{ks:List Int},kT.go xs=a! ks->xs=ks.map r?
 |[],ks,h=>by cases h;rfl
 |x::r,ks,h=>by
  cases x with
  |int i=>
   unfold kT.go at h;cases e:kT.go r with
   |none=>rw[e]at h;cases h
   |some cs=>rw[e]at h;cases h;rw[HV e];rfl
  |_=>cases h
def lO{ks:List Int}(h:kT d=a! ks):d=.tuple (ks.map r?):=by
 unfold kT at h;split at h
 ·rw[HV h]
 ·cases h
theorem pO:∀(ks ms:List Int),cL d! (ks.map r?) (ms.map r?)=a! (ll ks ms)
 |[],[]=>rfl
 |[],_::_=>rfl
 |_::_,[]=>rfl
 |x::xs,y::ys=>by
  rw[f?,f?,cL];show(if(x==y)=d! then _ else _)=a! (HT.lexLt (x::xs) (y::ys));rw[HT.lexLt_cons];by_cases h:x=y
  ·subst h;rw[é (beq_self_eq_true _),é rfl];exact pO xs ys
  ·rw[è (by simpa using h),è h];rfl
theorem qh:∀(ks ms:List Int),G? (ks.map r?) (ms.map r?)=g! (ks=ms)
 |[],[]=>rfl
 |[],_::_=>rfl
 |_::_,[]=>rfl
 |x::xs,y::ys=>by
  rw[f?,f?,G?,qh xs ys];show((x==y)&&g! (xs=ys))=_;by_cases h:x=y
  ·subst h;simp
  ·have:(x==y)=e!:=by simpa using h
   rw[this];simp[h]
def ins(d:D):List D->List D
 |[]=>[d]
 |e::r=>if ll (kOf d) (kOf e)=d! then d::e::r else e::ins d r
where kOf (d:D):List Int:=(kT d).getD []
def xo:List D->List D
 |[]=>[]
 |d::r=>ins d (xo r)
noncomputable abbrev kO:=ins.kOf
theorem qW(d:D):∀xs:List D,(ins d xs).Perm (d::xs)
 |[]=>.refl _
 |e::r=>by
  unfold ins;split
  ·exact .refl _
  ·exact((qW d r).cons e).trans (.swap d e r)
theorem dU:∀xs:List D,(xo xs).Perm xs
 |[]=>.refl _
 |d::r=>(qW d (xo r)).trans ((dU r).cons d)
def Ord(xs:List D):Prop:=xs.Pairwise λa b=>ll (kO b) (kO a)=e!
set_option tactic.hygienic true in
theorem zS(d:D):∀{xs:List D},Ord xs->Ord (ins d xs)
 |[],_=>by unfold ins Ord;simp
 |e::r,h=>by
  have h':=Oq.mp h;unfold ins;split
  ·rename_i c;refine Oq.mpr ⟨λx hx=>?_,h⟩;obtain q|q:=Of.mp hx
   ·subst q;exact f7 c
   ·exact g9 (f7 c) (h'.1 x q)
  ·rename_i c;refine Oq.mpr ⟨λx hx=>?_,zS d h'.2⟩;obtain q|q:=Of.mp ((qW d r).mem_iff.mp hx)
   ·subst q;simpa using c
   ·exact h'.1 x q
theorem nB:∀xs:List D,Ord (xo xs)
 |[]=>S?
 |d::r=>zS d (nB r)
theorem u0:∀{xs ys:List D},xs.Perm ys->Ord xs->Ord ys->(∀x∈xs,(kT x).isSome)->xs=ys
 |[],ys,hp,_,_,_=>by rw[η.mp hp]
 |x::xs,[],hp,_,_,_=>by have:=hp.length_eq;simp at this
 |x::xs,y::ys,hp,h1,h2,hk=>by
  have p1:=Oq.mp h1;have p2:=Oq.mp h2;have UB:x=y:=by
   by_cases e:x=y
   ·exact e
   ·have hx:x∈ys:=by
     obtain q|q:=Of.mp (hp.mem_iff.mp N2)
     ·exact ê q e
     ·exact q
    have hy:y∈xs:=by
     obtain q|q:=Of.mp (hp.mem_iff.mpr N2)
     ·exact ê q.symm e
     ·exact q
    have a1:=p1.1 y hy;have a2:=p2.1 x hx;have ek:kO x=kO y:=jP a2 a1;obtain⟨k1,e1⟩:=Oo.mp (hk x N2);obtain⟨k2,e2⟩:=Oo.mp (hk y (N1 _ hy));have q1:kO x=k1:=by show(kT x).getD []=k1;rw[e1];rfl
    have q2:kO y=k2:=by show(kT y).getD []=k2;rw[e2];rfl
    rw[lO e1,lO e2,<-q1,<-q2,ek]
  subst UB;rw[u0 (Ė hp) p1.2 p2.2 λz hz=>hk z (N1 _ hz)]
def vj(xs:List DV):M DV:=match xs with
 |[x]=>bd (op (jJ x)) λys=>if ys.length<64/\ys.all (λy=>(kT y).isSome&&g! ((kO y).length≠0))=d! then rt (.new (xo ys))else b!
 |_=>b!
theorem RpL.pick{Z:List c!}{H:Hp}{ds:List D}{vs:List V}(l:RpL Z H ds vs):∀(is:List Nat),(∀i∈is,i<ds.length)->RpL Z H (is.map λi=>ds.getD i .none) (is.map λi=>vs.getD i .non)
 |[],_=>.nil
 |i::r,h=>by
  have hi:=h i N2;obtain⟨v,e,rv⟩:=l.get (i:=i) (d:=ds[i]) (by simp[hi]);refine .cons ?_ (RpL.pick l r λj hj=>h j (N1 _ hj));have e1:ds.getD i .none=ds[i]:=by simp[hi]
  have e2:vs.getD i .non=v:=by simp[Yo,e]
  show Rp Z H (ds.getD i .none) (vs.getD i .non);rwa[e1,e2]
theorem kZ{vs:List V}{us:List b?}(r:aT vs us):∀(is:List Nat),(∀i∈is,i<vs.length)->aT (is.map λi=>vs.getD i .non) (is.map λi=>us.getD i D!)
 |[],_=>.nil
 |i::rs,h=>by
  have hi:=h i N2;obtain⟨u,e,ru⟩:=r.get (i:=i) (x:=vs[i]) (by simp[hi]);refine .cons ?_ (kZ r rs λj hj=>h j (N1 _ hj));have e1:vs.getD i .non=vs[i]:=by simp[hi]
  have e2:us.getD i D!=u:=by simp[Yo,e]
  show bG (vs.getD i .non) (us.getD i D!);rwa[e1,e2]
theorem uq{h:F!}:∀(vs:List b?),(∀v∈vs,∃b o D' n i t,v=.ref b/\h.get? b=a! o/\o.cls=.type "tuple" /\o.data=.seq D' n/\D'[0]?=a! (.int i t))->∃fs,Ň h vs fs/\fs.length=vs.length/\∀f∈fs,∃i t,f=ZR i t
 |[],_=>⟨[],à,rfl,λq hf=>nomatch hf⟩
 |v::r,hv=>by
  obtain⟨b,o,D',n,i,t,rfl,eo,ec,ed,e0⟩:=hv v N2;obtain⟨fs,h1,h2,h3⟩:=uq r λu hu=>hv u (N1 _ hu);refine⟨.int i t::fs,Ó eo ec ed e0 h1,by simp[h2],λf hf=>?_⟩;obtain e|e:=Of.mp hf
  ·exact⟨i,t,e⟩
  ·exact h3 f e
theorem vP{prog:g?}{w:q?}{A:A?}{s:d?}{Q:Bool->d?->Prop}{X Y:Nat}:∀{vs ws:List b?}{ks ms:List Int}(i:Nat),Zn vs ks->Zn ws ms->vs.length+Y=ws.length+X->Q (ll ks ms) s ->
  Ŝ prog w A d! (g! (X<Y)) Q (vs.zip ws) i s
 |_,_,_,_,i,.nil,.nil,hl,h=>by have:g! (X<Y)=e!:=Oy (by simp at hl;lia);rwa[this]
 |_,_,_,_,i,.nil,.cons _ _ _,hl,h=>by have:g! (X<Y)=d!:=Oz (by simp at hl;lia);rwa[this]
 |_,_,_,_,i,.cons _ _ _,.nil,hl,h=>by have:g! (X<Y)=e!:=Oy (by simp at hl;lia);rwa[this]
 |_,_,x::xs,y::ys,i,.cons _ t h1,.cons _ u h2,hl,h=>by
  have h':Q (HT.lexLt (x::xs) (y::ys)) s:=h;rw[HT.lexLt_cons]at h';refine Ķ (SeqAt.EqAt.int_int x t y u prog w _ _ ?_);by_cases e:x=y
  ·subst e;rw[é rfl]at h';rw[beq_self_eq_true];exact ń (vP (i+1) h1 h2 (by simp at hl;lia) h')
  ·rw[è e]at h';rw[show(x==y)=e! by simpa using e];refine Ś ?_;cases hb:(d!&&i==0)with
   |true=>exact oneLt_int h'
   |false=>exact Ņ _ _ (Ö h')
section
variable{X:Cx}{E:XK}
def jd(d:α)(xs:List α):(m? xs.length).map (λi=>xs.getD i d)=xs:=by
 apply List.ext_getElem
 ·simp
 ·intro i h1 h2;simp at h1;simp[h1]
end
def a8:=BW yf EO
def fA:=BW JQ Cj
def g8:=BW MP (gC d!)
def iA:=BW Mx (gC e!)
section
variable{X:Cx}{E:XK}
def cj:hW X E (W_ .Add) a8:=Kk.or IP
def gk:hW X E (W_ .Mult) fA:=II.or Jg
def jV(hu:X.A.units+64<K?):hW X E (D? .Lt) g8:=LK.or (IL hu)
def fO(hu:X.A.units+64<K?):hW X E (D? .LtE) iA:=Mm.or (J9 hu)
end
@[simp] def c7(i j:Int):a8 (.d (.int i)) (.d (.int j))=rt (.d (.int (i+j))):=rfl
@[simp] def qX(i j:Int):yf (.d (.int i)) (.d (.int j))=rt (.d (.int (i+j))):=rfl
@[simp] def cz(i j:Int):gSub (.d (.int i)) (.d (.int j))=rt (.d (.int (i-j))):=rfl
@[simp] def uj(i j:Int):MP (.d (.int i)) (.d (.int j))=rt (.d (.bool (g! (i<j)))):=rfl
@[simp] def tZ(i j:Int):Mx (.d (.int i)) (.d (.int j))=rt (.d (.bool (g! (i<=j)))):=rfl
@[simp] def jq(i j:Int):xp (.d (.int i)) (.d (.int j))=rt (.d (.bool (g! (j<i)))):=rfl
@[simp] def jo(i j:Int):Fi (.d (.int i)) (.d (.int j))=rt (.d (.bool (g! (j<=i)))):=rfl
@[simp] def fx(i j:Int):g8 (.d (.int i)) (.d (.int j))=rt (.d (.bool (g! (i<j)))):=rfl
@[simp] def nE(i j:Int):iA (.d (.int i)) (.d (.int j))=rt (.d (.bool (g! (i<=j)))):=rfl
variable{j:Int}
def gg{i:Int}(h:0<j):lB (.d (.int i)) (.d (.int j))=rt (.d (.int (i % j))):=by unfold lB gI IH;simp[h]
def vZ{i:Int}(h:0<j)(h':j<1073741824):E5 (.d (.int i)) (.d (.int j))=rt (.d (.int (i / j))):=by unfold E5 gI J3;simp[h,h']
def eM{i:Int}(h:uR i j=d!):fA (.d (.int i)) (.d (.int j))=rt (.d (.int (i*j))):=by unfold fA BW JQ gI;simp[h,rt]
def eN:H! "len" = a! (.builtin "len"):=by decide +kernel
def uO:H! "all" = a! (.builtin "all"):=by decide +kernel
def xR:H! "min" = a! (.builtin "min"):=by decide +kernel
def iP:H! "sorted" = a! (.builtin "sorted"):=by decide +kernel
def si:H! "isinstance" = a! (.builtin "isinstance"):=by decide +kernel
def Cu:H! "int" = a! (.type "int"):=by decide +kernel
def HA:H! "bool" = a! (.type "bool"):=by decide +kernel
def Hi:H! "list" = a! (.type "list"):=by decide +kernel
def wK:H! "tuple" = a! (.type "tuple"):=by decide +kernel
structure Has(P:g?)(w:q?)(K:Oe)(mg:w?->Option b?)(base:F!)(k:Nat)(x:w?)(n:Nat)(fm:List DV->M DV):Prop where
 ex:∃fn fd ps,FnOk P w K mg base ug k fn fd ps (F8 n fm)/\mg x=a! (.ref fn)/\P! K (.ref fn)=d!/\gy K fd ps []
section
variable{X:Cx}{E:XK}{e:E!}{es:List E!}{ce p:YU}{fa:DS->M DV}{fr:DS->M (List DV)}
def aM{k:Nat}{x:w?}{fm:List DV->M DV}(F:Has X.prog X.w X.K X.mg X.base k x n fm)(hr:Room k X.A)(ha:wq X E (e::es) fr)(hg:Gl X x:=by rfl)(Pt:(x==("__debug__" : w?))=e!:=by decide)(he:n! (e::es) X.env=(e!,I! e X.env)::n! es X.env:=by rfl)(OR:(W2 ce (n! es X.env)).any (·.1)=e!:=by rfl):
  PX X E (.Call (.Name x p) (e::es) [] ce) (aN (aw n fm) fr):=by obtain⟨fn,fd,ps,h1,h2,h3,h4⟩:=F.ex;exact GK h1 hr h2 h3 h4 ha hg Pt he OR
noncomputable def KN:D->Option String
 |.none=>a! "NoneType"
 |.bool _=>a! "bool"
 |.int _=>a! "int"
 |.str _=>a! "str"
 |.tuple _=>a! "tuple"
 |.list _=>a! "list"
 |_=>b!
noncomputable def K4(T t:String):Bool:=if T = "int" then t = "int" || t = "bool" else t=T
noncomputable def LM(t T:String):Option Bool:=if(Yj t==Yj T)=d! then a! d! else if PySem.W.kitMeta T=d! then(fastBuiltinMro t).map (·.contains (.type T))else b!
def FO(K:Oe)(t T:String):ř K (.type t) (.type T)=LM t T:=rfl
noncomputable def ME:List String:=["NoneType","bool","int","str","tuple","list"]
def HG:∀T∈["int","bool","str","tuple","list"],∀t∈ME,LM t T=a! (K4 T t):=by decide +kernel
def KD{t:String}(h:KN d=a! t):t∈ME:=by cases d <;>simp only[KN]at h <;>first|(cases h;decide)|cases h
def MT(T:String)(fa:DS->M DV)(δ:DS):M DV:=bd (fa δ) λx=>bd (op ((pS x).bind KN)) λt=>rt (.d (.bool (K4 T t)))
def IM{t:String}(r:Rp Z H d v)(h:KN d=a! t):TyOf K H v (.type t):=by
 cases r with
 |none=>cases h;exact .non
 |bool b=>cases h;exact .bl b
 |int i=>cases h;exact .int i
 |str x _=>cases h;exact .str x
 |tup _ ha _=>cases h;exact .tup ha
 |lst _ ha _=>cases h;exact .lst ha
def RE.ty{t:String}(r:RE O P H₀ H x v)(h:(pS x).bind KN=a! t):TyOf K H v (.type t):=by
 cases x with
 |d y=>exact IM (show Rp (P++O) H y v from r) h
 |ob C fs=>cases h
 |fz ca=>cases h
 |ex q=>cases h
 |tpo p xs q=>cases h
 |nwt p xs q=>cases h
 |own xs=>
  obtain⟨a,vs,rfl,_,ha,_⟩:=r;cases h;exact .lst ha
 |new xs=>
  obtain⟨a,vs,rfl,_,ha,_⟩:=r;cases h;exact .lst ha
 |scr K ns=>cases h
def HY{T:String}{y:w?}{p2:YU}(hT:T∈["int","bool","str","tuple","list"])(hm:X.mg "isinstance" = b!)(hmy:X.mg y=b!)(hv:H! y=a! (.type T))(ha:PX X E e fa)(hg:Gl X "isinstance" :=by rfl)(hgy:Gl X y:=by rfl)(hn:y ≠"__name__" :=by decide)(Pt:(y==("__debug__" : w?))=e!:=by decide)(he:n! [e,.Name y p2] X.env=(e!,I! e X.env)::n! [.Name y p2] X.env:=by rfl)(OR:(W2 ce (n! [.Name y p2] X.env)).any (·.1)=e!:=by rfl):PX X E (.Call (.Name "isinstance" p) [e,.Name y p2] [] ce) (MT T fa):=by
 intro a_ s σ H Q I h;refine YR (nU I hg hm si ?_);refine ZS (É (cf (ha a_ s σ H (λv H1=>∃t,TyOf X.K H1 v (.type t)/\t∈ME/\Q (.bl (K4 T t)) H1) I ?_) λu s1 ⟨v,H1,I1,r1,t,ty,Po,q1⟩=>É (nU I1 hgy hmy hv ?_ hn Pt)) he) he OR
 ·exact lT (g:=λo x=>bd (op ((pS x).bind KN)) λt=>rt (.d (.bool (K4 T t)))) h λO P δ x r v H1 rs OK s1 rx e' q'=>by obtain⟨t,e1,e2⟩:=bz e';cases e2;refine⟨t,rx.ty e1,?_,q' _ H1 (aE.refl H1) (.bool _)⟩;obtain⟨d,_,hd⟩:=Option.bind_eq_some_iff.mp e1;exact KD hd
 ·exact ϭ (BA I1 r1 ty (b:=K4 T t) (by rw[FO];exact HG T hT t Po) λtk=>⟨.bl _,H1,I1.tok tk,rfl,q1⟩)
end
structure CompSc(sc:Y1)(N:List w?)(k:Nat)(js:List Nat)(N':List w?)(scope:Y1):Prop where
 kind:scope.kind=.function
 nocell:∀y∈scope.names,y.2≠.cell
 loc:∀y∈scope.names,y.2=.local->scope.names.lookup y.1=a! .local
 free:∀y∈scope.names,y.2=.free->sc.names.lookup y.1=a! .cell\/sc.names.lookup y.1=a! .free
 len:N'.length=k+js.length
 at':((m? js.length).all λi=>match js[i]?,N'[k+i]? with
  |some j,a! x=>g! (N[j]?=a! x/\(sc.names.lookup x=a! .cell\/sc.names.lookup x=a! .free)/\scope.names.lookup x=a! .free)
  |_,_=>e!)=d!
variable{N:List w?}{k:Nat}{scope:Y1}
def CompSc.fit{js:List Nat}{N':List w?}{sc:Y1}(S:CompSc sc N k js N' scope)(h1:X.env.scope=sc:=by rfl)(h2:X.N=N:=by rfl):CompFit X k js N' scope:=by
 subst h1 h2;refine⟨S.kind,S.nocell,S.loc,S.free,S.len,λi x h hi=>?_⟩;have OL:i<N'.length:=(Om.mp h).1;rw[S.len]at OL;have q:=XY.mp S.at' (i-k) (Oj.mpr 0x1);have e:k+(i-k)=i:=by lia
 rw[e,h]at q;cases ej:js[i-k]? with
 |none=>rw[ej]at q;cases q
 |some j=>
  rw[ej]at q;obtain⟨a,b,c⟩:=of_decide_eq_true q;exact⟨j,rfl,a,b,c⟩
def bf{js:List Nat}(hi:i<k)(δ:DS)(d:D)(δ1:DS)(h:au i d (cX k js δ)=a! δ1):Sub (cX k js δ) δ1:=by cases h;refine Hl (.inl ?_);unfold cX;rw[F? (by simpa using hi),XX,é hi]
def Has.mono{P:g?}{w:q?}{K:Oe}{mg:w?->Option b?}{base:F!}{j k:Nat}{x:w?}{n:Nat}{fm:List DV->M DV}(h:Has P w K mg base j x n fm)(hj:j<=k):Has P w K mg base k x n fm:=by obtain⟨fn,fd,ps,h1,h2,h3,h4⟩:=h.ex;exact⟨fn,fd,ps,h1.mono hj,h2,h3,h4⟩
def Df(K:Oe)(mg:w?->Option b?)(x:w?)(st:U!)(ps:List w?):Prop:=∃f fd,Fun K x x st f fd/\mg x=a! (.ref f)/\gy K fd ps []
variable{mg:w?->Option b?}{base:F!}{ps:List w?}{fm:List DV->M DV}
def Df.has{P:g?}{x:w?}(D:Df K mg x st ps)(h:∀f fd,Fun K x x st f fd->FnOk P w K mg base ug k f fd ps (F8 n fm)):Has P w K mg base k x n fm:=by obtain⟨f,fd,Fu,hm,hb⟩:=D;exact⟨f,fd,ps,h f fd Fu,hm,Fu.kp,hb⟩
variable{A:A?}
def dB(hr:Room k A):A.units+64<K?:=by have:=hr.un;lia
def jC{x:w?}{i:Int}{ce:YU}(hm:∃t,X.mg x=a! (.int i t))(hg:Gl X x:=by rfl)(hd:(x==("__debug__" : w?))=e!:=by decide):PX X E (.Name x ce) (eC (.int i)):=by obtain⟨t,h⟩:=hm;exact Gc hg h hd
def b8.some{P:g?}{w:q?}{H:Hp}{h:F!}{a:c!}{o:HO}(x:b8 P w H h a o):∃u,h.get? a=a! u:=by
 cases o with
 |lst xs=>obtain⟨_,_,_,_,e⟩:=x;exact⟨_,e⟩
 |tup xs=>obtain⟨_,_,_,u,e,_⟩:=x;exact⟨u,e⟩
 |dK ca=>obtain⟨_,_,_,_,u,_,_,e,_⟩:=x;exact⟨u,e⟩
 |dT ca=>obtain⟨_,_,_,_,u,_,_,e,_⟩:=x;exact⟨u,e⟩
 |set S n=>obtain⟨u,_,_,_,e,_⟩:=x;exact⟨u,e⟩
 |ins C dx fs=>obtain⟨_,_,_,e,_⟩:=x;exact⟨_,e⟩
 |own y=>exact x
 |xd fs=>obtain⟨_,⟨u,_,_,e,_⟩,_⟩:=x;exact⟨u,e⟩
 |rng lo hi=>obtain⟨_,_,_,e⟩:=x;exact⟨_,e⟩
 |frz ob u=>exact⟨ob,x.1⟩
 |tbl ps=>exact⟨_,x⟩
 |met f y=>exact⟨_,x⟩
 |ext φ=>exact x.2.1
structure Fly(P:g?)(w:q?)(l:List ĉ)(s:d?)(H:Hp)(cls:b?)(x:c!)(H':Hp)(B:F!)(a0:b?)(s':d?):Prop where
 os:s'.os=s.os
 bare:ZF s'.gens
 fly:ύ B l x cls a0 s'.heap
 trk:∀b u,H' b=a! u->∃o,B.get? b=a! o
 old:∀b o,s.heap.get? b=a! o->H b=b!->b∉iB l->B.get? b=a! o
 all:∀b o,s.heap.get? b=a! o->b∉iB l->∃o',B.get? b=a! o'
 un:Un (iB l) [] H H' s.heap s'.heap
 hok:lV P w H' s'.heap
def yw(P:g?)(w:q?):Bm:=λl H s E e s'=>∃x cls dx H' B a0,e=.ref x/\Fly P w l s H cls x H' B a0 s'/\E cls dx H'
def Fly.go{P:g?}{l:List ĉ}{s':d?}{cls a0:b?}{x:c!}{B:F!}(F:Fly P w l s H cls x H' B a0 s')(f:ύ B l x cls a0 h')(u:s'.heap.UpToSlots h'):Fly P w l s H cls x H' B a0 {s' with heap:=h'}:=by
 have fr:∀b,b∈iB l->∀o,s'.heap.get? b=a! o->∃sl,h'.get? b=a! {o with slots:=sl}:=λb hb o e=>by
  obtain⟨_,o',e',hd⟩:=F.fly.2.2.1.mem hb;rw[e]at e';cases e'
  exact u b o e hd
 refine⟨F.os,F.bare,f,F.trk,F.old,F.all,⟨λb o e n hb j=>f.1 b o (F.old b o e n hb),λb o e n hb hx=>?_,F.un.free,λb o e hx=>?_,F.un.tups,F.un.frzs,F.un.tbls⟩,λb v q=>(F.hok b v q).stay (λc o hc e=>?_) (λj q=>q) λj j q=>q⟩
 ·obtain⟨sl,e1⟩:=F.un.slot b o e n hb hx;obtain⟨To,e2⟩:=fr b hb _ e1;exact⟨To,e2⟩
 ·obtain⟨o',e1⟩:=F.un.there b o e hx;by_cases hb:b∈iB l
  ·obtain⟨sl,e2⟩:=fr b hb o' e1;exact⟨_,e2⟩
  ·obtain⟨o2,e2⟩:=F.all b o e hb;exact⟨o2,f.1 b o2 e2⟩
 ·have ht:∃v',H' c=a! v':=by
   obtain z|z:=hc
   ·exact⟨v,z▸q⟩
   ·exact⟨_,z⟩
  obtain⟨v',QT⟩:=ht;obtain⟨o2,e2⟩:=F.trk c v' QT;have:=F.fly.1 c o2 e2;rw[e]at this;cases this
  exact f.1 c _ e2
variable{e_:w?}{f:c!}{cd:b?}{bn:List ĉ}{s0:d?}{H0:Hp}
def Ao{P:g?}{a_:List (c!×XQ)}{h1:F!}{e:c!}{cls:b?}{vs:List b?}(I:Inv (fF (yw P w) P w K mg base N e_ scope f cd A bn s0 H0 E) a_ σ H s)(hx:Γ s.heap h1 e cls vs)(hE:E cls b! H):(fF (yw P w) P w K mg base N e_ scope f cd A bn s0 H0 E).xe (.ref e) {s with heap:=h1}:=by
 have hl:∀b,b∈iB (X! e_ scope s0.heap.objs.size f cd::bn)↔b=s0.heap.objs.size\/b∈iB bn:=λb=>by show b∈s0.heap.objs.size::iB bn↔_;exact Y5
 have nL:∀b o,s0.heap.get? b=a! o->b≠s0.heap.objs.size:=λb o q=>OA (N9 q);have PZ:=I.stack;have ff:=PySem.W.funFrames_hide (as:=iB (X! e_ scope s0.heap.objs.size f cd::bn)) PZ λen he a ha=>X6.mpr ⟨en,he,ha⟩;refine wpAny_leaves_madeW (base:=ņ s.heap (iB (X! e_ scope s0.heap.objs.size f cd::bn))) (h:=s.heap) I.ok.frames rfl (λb o q=>Ġ _ q) ff hx λh2 t x1 x2 x3 x4=>?_;have kB:∀b o,s.heap.get? b=a! o->b∉iB (X! e_ scope s0.heap.objs.size f cd::bn)->h2.get? b=a! o:=λb o q n=>x1.1 b o (Yp _ q n);have trk:∀b u,H b=a! u->b∉iB (X! e_ scope s0.heap.objs.size f cd::bn):=λb u q hb=>by have:=I.stkFree b hb;rw[q]at this;cases this
 have fr:∀b o,b∈iB bn->s.heap.get? b=a! o->∃sl,h2.get? b=a! {o with slots:=sl}:=λb o hb q=>by
  obtain⟨_,o',e',hd⟩:=I.funs.mem hb;rw[q]at e';cases e'
  exact x4 b o (hx.keeps b o q) hd
 have out:∀b o,s0.heap.get? b=a! o->b∉iB bn->b∉iB (X! e_ scope s0.heap.objs.size f cd::bn):=λb o q n z=>by
  rcases(hl b).mp z with z|z
  ·exact nL b o q z
  ·exact n z
 refine⟨e,cls,b!,H,_,_,rfl,⟨I.os,I.bare,x1,λb u q=>?_,λb o q n hb=>?_,λb o q hb=>?_,⟨λb o q n hb j=>?_,λb o q n hb j=>?_,λb o q n j=>I.base.free b o q n (by simp[fF]),λb o q j=>?_,I.base.tups,I.base.frzs,I.base.tbls⟩,λb u q=>(I.hok b u q).stay (λc o hc r=>?_) (λj q=>q) λj j q=>q⟩,hE⟩
 ·obtain⟨o,r⟩:=b8.some (I.hok b u q);exact⟨o,Yp _ r (trk b u q)⟩
 ·exact Yp _ (I.base.keep b o q n hb (by simp[fF])) (out b o q hb)
 ·obtain⟨o',r⟩:=I.base.there b o q (by simp[fF]);exact⟨o',Yp _ r (out b o q hb)⟩
 ·exact kB b o (I.base.keep b o q n hb (by simp[fF])) (out b o q hb)
 ·obtain⟨sl,r⟩:=I.base.slot b o q n hb (by simp[fF]);obtain⟨To,r'⟩:=fr b _ hb r;exact⟨To,r'⟩
 ·obtain⟨o',r⟩:=I.base.there b o q (by simp[fF]);by_cases hb:b∈iB bn
  ·obtain⟨sl,r'⟩:=fr b o' hb r;exact⟨_,r'⟩
  ·exact⟨o',kB b o' r (out b o q hb)⟩
 ·have ht:∃v,H c=a! v:=by
   obtain z|z:=hc
   ·exact⟨u,z▸q⟩
   ·exact⟨_,z⟩
  obtain⟨v,hv⟩:=ht;exact kB c o r (trk c v hv)
noncomputable def NV:List Value:=[.type "ValueError",.type "Exception",.type "BaseException",.type "object"]
structure Xc(K:Oe)(mg:w?->Option b?)(x:w?)(C:c!):Prop where
 bound:mg x=a! (.ref C)
 ex:Yu K C NV "ValueError.__new__" = d!
set_option tactic.hygienic true in
def Hx{C:c!}{bmB:List b?}{nw:String}(X:K.In h)(q:Yu K C bmB nw=d!):
  ∃bm N nm qn bs hdct sn sub ab col dd k0 k1 k2 k3 k5 mN,h.get? C=a! (excClassObj nm qn C N bs bm hdct sn sub ab col dd k0 k1 k2 k3 k5 nw)/\h.Ns N mN/\mN "__init__" = b!/\OwnTail h bmB bm:=by
 unfold Yu at q;cases ho:K.lookup C with
 |none=>rw[ho]at q;cases q
 |some ob=>
  rw[ho]at q;split at q
  ·rename_i dd cd sl eo;cases eo;split at q
   ·rename_i C' bm k0 k1 k2 k3 n k5 hm hs;rw[k?,k?,k?,k?,k?]at q;obtain⟨⟨⟨⟨⟨q1,q2⟩,q3⟩,q4⟩,q5⟩,q6⟩:=q;have q1:=beq_iff_eq.mp q1;have q2:=beq_iff_eq.mp q2;have q7:Yi K cd.ns "__init__" = a! none:=beq_iff_eq.mp q6;obtain⟨nm,bs,mro,ns,qn,hd,sn,sub,ab,col,del⟩:=cd;simp only at hm q3 q5 q7;have q3:del=e!:=by simpa using q3
    subst q1 q2 hm q3;have S7:sl=#[k0,k1,k2,k3,a! (.builtin n),k5]:=Ü.mp (by rw[hs]);subst S7;refine⟨bm,ns,nm,qn,bs,hd,sn,sub,ab,col,dd,k0,k1,k2,k3,k5,h.nsMap ns,?_,?_,?_,?_⟩
    ·exact X _ _ ho
    ·exact .of_isNs (PySem.W.isNs_of_in X q5)
    ·exact PySem.W.nsMap_none_of_in X q5 q7
    ·exact PySem.W.tail_of_in X q4
   ·cases q
  ·cases q
section
variable{X:Cx}{E:XK}{x:w?}{C:c!}{np M' ce p2:YU}{z:w?}{j:Nat}
def zd(X:Cx)(E:XK):Prop:=X.A.handled=b!/\∀(a_:List (c!×XQ))(σ:St)(H:Hp)(s:d?)(h1:F!)(e:c!)(cls:b?)(vs:List b?),Inv X a_ σ H s->Γ s.heap h1 e cls vs->E cls b! H->X.xe (.ref e) {s with heap:=h1}
def qk(mk:zd X E)(O:Xc X.K X.mg x C)(hg:Gl X x:=by rfl)(hd:(x==("__debug__" : w?))=e!:=by decide){jj}:
  PS X (.Raise (a! (.Call (.Name x np) [.Constant (.str z) jj p2] [] M')) b! ce) (λo o H=>E (.ref C) b! H):=by
 intro a_ s σ H D I h;obtain⟨bm,N,nm,q,bs,hdct,sn,sub,ab,col,dd,k0,k1,k2,k3,k5,mN,hC,hN,hni,T⟩:=Hx I.ok.mod.kin O.ex;refine wpAny_Raise_call_subT (C:=C) (nm:=nm) (q:=q) (N:=N) (bs:=bs) (bm:=bm) (hdct:=hdct) (sn:=sn) (sub:=sub) (ab:=ab) (col:=col) (dd:=dd) (k0:=k0) (k1:=k1) (k2:=k2) (k3:=k3) (k5:=k5) (mN:=mN)
  ë (T.hasType ë.hasBase) mk.1 rfl hni (pW I hg O.bound ⟨rfl,?_⟩ hd)
 have PZ:n! [(.Constant (.str z) jj p2:E!)] X.env=(e!,I! (.Constant (.str z) jj p2) X.env)::n! [] X.env:=rfl;rw[PZ];refine Y2 ?_;refine X4 (cf (CU (ce:=p2) (j:=jj) (x:=z) a_ s σ H (λo H1=>H1=H) I rfl) λu s1 ⟨v,H1,I1,_,e1⟩=>Zj ?_);subst e1;refine⟨rfl,by show 1<=sizeLine;decide,I1.bk _ _ hC,hN.keeps I1.bk,T.keeps I1.bk,λh1 e hm=>mk.2 a_ σ H1 s1 h1 e _ _ I1 hm h⟩
end
open PySem.W (Looks)
noncomputable abbrev Cx.tried(X:Cx)(pn:List (c!×XQ))(W:b?->d?->Prop):Cx:={X with pn:=X.pn++pn,xe:=W}
section
variable{X:Cx}{e C:c!}{oe:XQ}{i:Nat}{n y:w?}{p p1 p2 ce:YU}{c:b?}
def nQ{P:g?}:jf (yw P w) X E0:=λ_ _ _ _ _ _ _ ⟨_,_,_,_,_,_,_,_,h⟩=>h.elim
end
def NH(C CB:c!)(good:Int->Int->Bool)(f1 f2:w?):Sp:=λvs H Q E=>∃p dx m c,vs=[.ref p,.int m,.int c]/\H p=a! (.ins C dx []) /\
 ∀H1,aE H H1->if good m c=d! then Q .non (upd (upd H1 p (.ins C dx (gD f1 (.int m) []))) p (.ins C dx (gD f2 (.int c) (gD f1 (.int m) []))))else E (.ref CB) b! H1
structure Hs(P:g?)(w:q?)(K:Oe)(mg:w?->Option b?)(base:F!)(x:w?)(C CB:c!)(good:Int->Int->Bool)(f1 f2:w?):Prop where
 ex:∃f fd ps,Mk K C f/\FnOk P w K mg base (yw P w) 1 f fd ps (NH C CB good f1 f2)/\gy K fd ps []/\mg x=a! (.ref C)
def Ms(C CB:c!)(good:Int->Int->Bool)(f1 f2:w?)(xs:List DV):M DV:=match xs with
 |[.d (.int m),.d (.int c)]=>if good m c=d! then rt (.ob C [(f1,.int m),(f2,.int c)])else a! (.error (.ref CB))
 |_=>b!
def Iv{f1 f2:w?}(h:f1≠f2)(v u:V):gD f2 u (gD f1 v [])=[(f1,v),(f2,u)]:=by show(if f1=f2 then _ else _)=_;rw[è h];rfl
section
variable{X:Cx}{E:XK}{e:E!}{es:List E!}{ce p:YU}{fr:DS->M (List DV)}
set_option tactic.hygienic true in
def FV{x:w?}{C CB:c!}{good:Int->Int->Bool}{f1 f2:w?}(h:Hs X.prog X.w X.K X.mg X.base x C CB good f1 f2)(hf:f1≠f2)(hr:Room 2 X.A)(Tj:jf (yw X.prog X.w) X E)(ha:wq X E (e::es) fr)(hg:Gl X x:=by rfl)(Pt:(x==("__debug__" : w?))=e!:=by decide)(he:n! (e::es) X.env=(e!,I! e X.env)::n! es X.env:=by rfl)(OR:(W2 ce (n! es X.env)).any (·.1)=e!:=by rfl):PX X E (.Call (.Name x p) (e::es) [] ce) (aN (Ms C CB good f1 f2) fr):=by
 obtain⟨f,fd,ps,hM,hF,hb,hm⟩:=h.ex;refine PE.mono (Ax hM hF hr hg hm hb .nil Tj ha Pt he OR) λσ H Q q=>lQ (g:=λ_=>Ms C CB good f1 f2) q λO P δ xs r vs H1 rs OK s1 rx e q=>?_;unfold Ms at e;split at e
 ·rename_i m c;cases rx with
  |cons r1 rr=>
   cases rr with
   |cons r2 rr=>
    cases rr;cases r1;cases r2;intro x dx nx U6 ne;refine⟨x,dx,m,c,rfl,aQ,λH2 s2=>?_⟩;have sH:aE H1 H2:=λb o q=>s2 b o (by rwa[aF (bM q nx),aF (bM q U6)]);split at e
    ·rename_i Ra;rw[é Ra];cases e;refine⟨rfl,q _ _ (λb o q=>?_) ⟨x,dx,_,rfl,λz=>?_,aQ,?_⟩⟩
     ·rw[aF (bM q nx),aF (bM q nx)];exact sH b o q
     ·obtain⟨o,q⟩:=OK.dom x z;rw[nx]at q;cases q
     ·rw[Iv hf];exact .cons ⟨rfl,.int m⟩ (.cons ⟨rfl,.int c⟩ .nil)
    ·rename_i Ra;rw[è Ra];cases e;exact q b! H2 sH
 ·cases e
end
def kK{P:g?}:
  jf (yw P w) (fF (yw P w) P w K mg base N e_ scope f cd A bn s0 H0 E) E:=by
 intro a_ σ H s e s' I cx;obtain⟨x,cls,dx,H',B,a0,rfl,Fl,hE⟩:=cx;have hl:∀b,b∈iB (X! e_ scope s0.heap.objs.size f cd::bn)↔b=s0.heap.objs.size\/b∈iB bn:=λb=>by show b∈s0.heap.objs.size::iB bn↔_;exact Y5
 have out:∀b o,s0.heap.get? b=a! o->b∉iB bn->b∉iB (X! e_ scope s0.heap.objs.size f cd::bn):=λb o q n z=>by
  rcases(hl b).mp z with z|z
  ·exact OA (N9 q) z
  ·exact n z
 have Fl:Fly P w (X! e_ scope s0.heap.objs.size f cd::bn) s H cls x H' B a0 s':=Fl;refine wpAny_leaves_onW (L:=s0.heap.objs.size) I.ok.frames rfl Fl.fly λh2 f2 u=>?_;have fr:∀b o,b∈iB bn->s'.heap.get? b=a! o->∃sl,h2.get? b=a! {o with slots:=sl}:=λb o hb q=>by
  obtain⟨_,o',e',hd⟩:=Fl.fly.2.2.1.mem (show b∈iB (X! e_ scope s0.heap.objs.size f cd::bn)from(hl b).mpr (.inr hb));rw[q]at e';cases e'
  exact u b o q hd
 have old:∀b o,s0.heap.get? b=a! o->H0 b=b!->b∉iB bn->B.get? b=a! o:=λb o q n hb=>
  Fl.old b o (I.base.keep b o q n hb (by simp[fF])) (I.base.free b o q n (by simp[fF])) (out b o q hb)
 have all:∀b o,s0.heap.get? b=a! o->b∉iB bn->∃o',B.get? b=a! o':=λb o q hb=>by obtain⟨o',r⟩:=I.base.there b o q (by simp[fF]);exact Fl.all b o' r (out b o q hb)
 refine⟨x,cls,dx,H',B,a0,rfl,⟨Fl.os.trans I.os,Fl.bare,f2,Fl.trk,old,all,⟨λb o q n hb j=>f2.1 b o (old b o q n hb),λb o q n hb j=>?_,λb o q n j=>?_,λb o q j=>?_,λb xs q=>Fl.un.tups b xs (I.base.tups b xs q),λb o xs q=>Fl.un.frzs b o xs (I.base.frzs b o xs q),λb ps q=>?_⟩,λb v q=>(Fl.hok b v q).stay (λc o hc r=>?_) (λj q=>q) λj j q=>q⟩,hE⟩
 ·obtain⟨sl,r⟩:=I.base.slot b o q n hb (by simp[fF]);obtain⟨To,r'⟩:=Fl.un.slot b _ r (I.base.free b o q n (by simp[fF])) ((hl b).mpr (.inr hb)) 0x4;obtain⟨Qq,r2⟩:=fr b _ hb r';exact⟨Qq,r2⟩
 ·obtain⟨o',r⟩:=I.base.there b o q (by simp[fF]);exact Fl.un.free b o' r (I.base.free b o q n (by simp[fF])) 0x4
 ·obtain⟨o',r⟩:=I.base.there b o q (by simp[fF]);by_cases hb:b∈iB bn
  ·obtain⟨o2,r2⟩:=Fl.un.there b o' r 0x4;obtain⟨sl,r3⟩:=fr b o2 hb r2;exact⟨_,r3⟩
  ·obtain⟨o2,r2⟩:=all b o q hb;exact⟨o2,f2.1 b o2 r2⟩
 ·obtain⟨m1,e1⟩:=I.base.tbls b ps q;obtain⟨m2,e2⟩:=Fl.un.tbls b _ e1;exact⟨m1++m2,by rw[e2,ŀ]⟩
 ·have ht:∃v',H' c=a! v':=by
   obtain z|z:=hc
   ·exact⟨v,z▸q⟩
   ·exact⟨_,z⟩
  obtain⟨v',QT⟩:=ht;obtain⟨o2,e2⟩:=Fl.trk c v' QT;have:=Fl.fly.1 c o2 e2;rw[r]at this;cases this
  exact f2.1 c _ e2
def K2(n:Nat)(fm:List DV->M DV):Sp:=λvs H Q E=>vs.length=n/\∃O xs r,(∀a,a∈O->∃o,H a=a! o)/\mE O [] H H xs vs/\fm xs=a! r/\Fn E O [] H H Q r
def IV{P:g?}{x:w?}{fd:W'}{F:DS->M Out}(Fu:Fun K x e_ st f fd)(S:FnScope N ps (ak st))(hn:ps.length=n)(j_:∀(OJ:b?)(A:A?)(bn:List ĉ)(s:d?)(H:Hp)(E:XK),Room k (A.deeper (X! e_ (ak st) s.heap.objs.size f OJ)) ->
   yU (fF (yw P w) P w K mg base N e_ (ak st) f OJ A bn s H E) E (dI st) F):FnOk P w K mg base (yw P w) (k+1) f fd ps (K2 n (eS N F)):=by
 obtain⟨oc,od,kV,s_,pm,an,OJ,ct,QY,rfl,lk,QG⟩:=Fu.ex;refine E4 lk QG S (λvs H Q E h=>h.1.trans hn.symm) λA bn s H vs Q E hr Qc=>⟨_,j_ OJ A bn s H E hr,?_⟩;obtain⟨_,O,xs,r,dom,rx,e,q⟩:=Qc;obtain⟨o,e1,e2⟩|⟨c,e1,e2⟩:=aB e
 ·refine⟨O,[],oE N xs,.ok o,RS.start dom rx,e1,?_⟩;cases o with
  |rt y=>
   cases e2;intro v H1 H' P' k' s' _ _ ry;obtain⟨sH,Sg⟩:=ry.out k' s';exact q v H' sH Sg
  |nx δ=>
   cases e2;intro c_ H' P' k' _;exact q .non H' (λb o e=>k'.keep b o 0x4 e) .none
  |bk δ=>cases e2
  |ct δ=>cases e2
 ·subst e2;exact⟨O,[],oE N xs,.error c,RS.start dom rx,e1,λdx H' P' k'=>q dx H' λb o e=>k'.keep b o 0x4 e⟩
structure HasX(P:g?)(w:q?)(K:Oe)(mg:w?->Option b?)(base:F!)(k:Nat)(x:w?)(n:Nat)(fm:List DV->M DV):Prop where
 ex:∃fn fd ps,FnOk P w K mg base (yw P w) k fn fd ps (K2 n fm)/\mg x=a! (.ref fn)/\P! K (.ref fn)=d!/\gy K fd ps []
def HasX.mono{P:g?}{w:q?}{K:Oe}{mg:w?->Option b?}{base:F!}{j k:Nat}{x:w?}{n:Nat}{fm:List DV->M DV}(h:HasX P w K mg base j x n fm)(hj:j<=k):HasX P w K mg base k x n fm:=by obtain⟨fn,fd,ps,h1,h2,h3,h4⟩:=h.ex;exact⟨fn,fd,ps,h1.mono hj,h2,h3,h4⟩
def Df.hasX{P:g?}{x:w?}(D:Df K mg x st ps)(h:∀f fd,Fun K x x st f fd->FnOk P w K mg base (yw P w) k f fd ps (K2 n fm)):HasX P w K mg base k x n fm:=by obtain⟨f,fd,Fu,hm,hb⟩:=D;exact⟨f,fd,ps,h f fd Fu,hm,Fu.kp,hb⟩
def dD(n:Nat)(fm:List DV->M DV)(xs:List DV):M DV:=bd (op (args xs)) λys=>if ys.length=n then fm ys else b!
section
variable{X:Cx}{E:XK}{e:E!}{es:List E!}{ce p np M' p2:YU}{fr:DS->M (List DV)}{x:w?}{C:c!}{z:w?}{jj:Nat}
set_option tactic.hygienic true in
def eX(F:HasX X.prog X.w X.K X.mg X.base k x n fm)(hr:Room k X.A)(Tj:jf (yw X.prog X.w) X E)(ha:wq X E (e::es) fr)(hg:Gl X x:=by rfl)(Pt:(x==("__debug__" : w?))=e!:=by decide)(he:n! (e::es) X.env=(e!,I! e X.env)::n! es X.env:=by rfl)(OR:(W2 ce (n! es X.env)).any (·.1)=e!:=by rfl):
  PX X E (.Call (.Name x p) (e::es) [] ce) (aN (dD n fm) fr):=by
 obtain⟨fn,fd,ps,h1,h2,h3,h4⟩:=F.ex;refine PE.mono (zD h1 hr hg h2 h3 h4 .nil Tj ha Pt he OR) λσ H Q q=>lQ (g:=λ_=>dD n fm) q λO P δ xs r vs H1 rs OK s1 rx e q=>?_;obtain⟨ys,e1,e2⟩:=bz e;split at e2
 ·rename_i hl;have ry:=mE.am rs.dom s1 rx e1;refine⟨?_,P++O,ys,r,λa ha=>?_,?_,e2,?_⟩
  ·rwa[C!,<-Xs ry]
  ·obtain⟨o,e'⟩:=rs.dom a ha;exact⟨o,s1 a o e'⟩
  ·rwa[C!]
  ·cases r with
   |ok y=>exact λv H' s2 rv=>q v H' s2 (rv.back s1)
   |error c=>exact q
 ·cases e2
def m8(mk:zd X E)(O:Xc X.K X.mg x C)(hg:Gl X x:=by rfl)(hd:(x==("__debug__" : w?))=e!:=by decide):
  zZ X E (.Raise (a! (.Call (.Name x np) [.Constant (.str z) jj p2] [] M')) b! ce) (λo=>a! (.error (.ref C))):=PS.mono (qk mk O hg hd) λT σ H q=>by obtain⟨O',P,δ,r,rs,e,q⟩:=q;cases e;exact q b! H P .refl
end
def mV{P:g?}(hr:Room k (A.deeper (X! e_ scope s0.heap.objs.size f cd))):zd (fF (yw P w) P w K mg base N e_ scope f cd A bn s0 H0 E) E:=⟨hr.hd,λo o o o o o o o I hm hE=>Ao I hm hE⟩
open Builtin Builtin.ObjectAttr Builtin.Getset_descriptor
end L3
namespace L2
open PySem PySem.Spec PyProof.Rows
section
variable{X:Cx}{k:Nat}{js:List Nat}{N':List w?}{scope:Y1}{v_ tg g_:E!}{t_:List E!}{ce:YU}{wi:TI}{g:TG}{tc:TT}{te:TE}
def CL{use:Option (b?->ý Unit)}{Q':b?->d?->Prop}{ip:YU}(S:CompFit X k js N' scope)(hc:X.calm=d!)(hi:PI X tg g_ wi)(hg:∀C s₂ b_ fp,PG (aR X N' scope C s₂ b_ fp) tg g)(hf:∀C s₂ b_ fp,PF (aR X N' scope C s₂ b_ fp) t_ tc)(he:∀C s₂ b_ fp,PE (aR X N' scope C s₂ b_ fp) v_ te){a_:List (c!×XQ)}{s:d?}{σ:St}{H:Hp}{Q:VK}(I:Inv X a_ σ H s)(h:zJ wi k js g tc te σ H Q)(V2:∀(D C:c!)(s4:d?)(m:w?->Option b?),s4.heap.Ns C m->X.s₀.heap.objs.size<=C->C≠X.env.locals->(∀x c,X.env.cells.lookup x=a! c->c≠C)->(∀p∈X.pn++a_,p.1≠C) ->
   (∀h',Xg C s4.heap h'->∃H5,Inv X a_ σ H5 {s4 with heap:=h'}/\H5 C=b!/\Q (.ref D) H5)->Ϻ (p! X.prog X.w) X.A X.xe use Q' (.ref D) C (.ok .next) s4)(hs:∀x,W3 g_ X.env x=Xo x):
  n? (p! X.prog X.w) X.A (aË (.ListComp v_ [⟨tg,g_,t_,0⟩] scope ce) scope X.env ip (newList []) e! (I! g_ X.env) use) Q' X.xe s:=by
 refine ı (use:=use) rfl hs (Au λy hy hk=>I.ok.has y.1 (S.free y hy hk)) S.kind S.loc ?_;refine cf (hi a_ s σ H _ I h) λv s1 h1=>cf h1 λVd s₂ h2=>?_;obtain⟨it,fp,tn,J,b_,rfl,I2,T,ON,f2,W,⟨m0,w0⟩,turn⟩:=h2;have RX:∀b∈fp,b<s₂.heap.objs.size:=λb hb=>by obtain⟨o,e,_⟩:=T.obj 0 _ ON b hb;exact N9 e
 refine Yq (ű S.nocell (by intro y hy;simp at hy) (λn_ Qz Qj=>?_) S.kind);dsimp only at Qz Qj ⊢;generalize hH2:s₂.heap.push {cls:=.type "list",dict:=b!,data:=.seq ([]:List b?).toArray}=G at Qz Qj ⊢;have hC:G.objs.size=s₂.heap.objs.size+1:=by rw[<-hH2,XC]
 have RA:s₂.heap.objs.size≠G.objs.size:=by lia
 have Qg:s₂.heap.objs.size<=G.objs.size:=by lia
 have old:∀b o,s₂.heap.get? b=a! o->n_.get? b=a! o:=λb o e=>Qj.extBut b o (ig e Qg) (N3 _ (hH2▸N3 _ e));have Qh:n_.get? s₂.heap.objs.size=a! {cls:=.type "list",data:=.seq ([]:List b?).toArray}:=Qj.extBut _ _ RA (N3 _ (hH2▸OC _ rfl));have Qx:∀b∈fp,pj X a_ b_ b/\b<s₂.heap.objs.size:=λb hb=>⟨f2 b hb,RX b hb⟩;have I0:∀tk,Inv (aR X N' scope G.objs.size s₂ b_ fp) [] (jU k js σ) b_ {s₂ with heap:=n_,toks:=tk}:=λtk=>qJ I2 S Qg Qx old Qz;generalize hD:s₂.heap.objs.size=D at *;have Qy:∀{H':Hp}{s':d?}{c_:St}{pp:List (c!×XQ)}{o:XQ},Inv (aR X N' scope G.objs.size s₂ b_ fp) (pp++[(D,o)]) c_ H' s'->H' D=b!/\s'.heap.get? D=a! o:=λ{H' s' c_ pp o} J=>by have q:=J.pin (D,o) (N4 _ (N4 _ (Oi.mpr rfl)));exact⟨q.2.1,q.1⟩
 have SA:D∉iB X.stack:=λz=>by obtain⟨_,o,ho,_⟩:=I2.stack.mem z;exact ig ho (OE hD) rfl
 have QD:∀x c,(aR X N' scope G.objs.size s₂ b_ fp).env.cells.lookup x=a! c->c≠D:=λx c e z=>by obtain⟨v,q⟩:=I2.cell x c (cp (λd hd=>by simp at hd) e);exact d3 q.lt (OE hD) z
 have Px:∀{H':Hp}{pp:List (c!×XQ)},(∀b∈fp,H' b=b!)->(∀p∈pp,p.1=D)->∀b∈fp,pj (aR X N' scope G.objs.size s₂ b_ fp) pp H' b:=λ{H' pp} hn hp b hb=>by
  refine⟨hn b hb,λz=>?_,λz=>?_,.inl hb,λx c e=>(Qx b hb).1.2.2.2.2.1 x c (cp (λd hd=>by simp at hd) e),λp Pg z=>?_⟩
  ·exact d3 (RX b hb) Qg z
  ·obtain e|e:=Of.mp (I2.stkSub b z)
   ·exact(Qx b hb).1.2.1 e
   ·exact(Qx b hb).1.2.2.1 e
  ·have e1:p.1=D:=hp p (by simpa[aR]using Pg);exact d3 (RX b hb) (N6 _) (z.symm.trans e1)
 have Sv:∀{c_:St}{H':Hp}{s':d?}{ys:List b?}{c:Nat},Inv (aR X N' scope G.objs.size s₂ b_ fp) [] c_ H' s'->s'.heap.get? D=a! {cls:=.type "list",data:=.seq ys.toArray c}->H' D=b! ->
   Inv (aR X N' scope G.objs.size s₂ b_ fp) [(D,{cls:=.type "list",data:=.seq ys.toArray c})] c_ H' s':=λ{c_ H' s' ys c} J e n=>J.pins_of λp hp=>by have e1:=Oi.mp hp;subst e1;exact⟨e,n,RA,SA,λv z=>by cases z⟩
 have L_:∀s₃:d?,(∃tk,s₃={s₂ with heap:=n_,toks:=tk})->Y! (p! X.prog X.w) X.A (.compLoop (.ListComp v_ [⟨tg,g_,t_,0⟩] scope ce) 0 (.ref it) (.ref D) (aR X N' scope G.objs.size s₂ b_ fp).env)
   (Ϻ (p! X.prog X.w) X.A X.xe use Q' (.ref D) G.objs.size) s₃:=by
  rintro s₃ ⟨tk,rfl⟩;refine qw (λn s'=>∃i c_ H' xs ys c,Inv (aR X N' scope G.objs.size s₂ b_ fp) [] c_ H' s'/\tn i s'.heap/\(∀b∈fp,H' b=b!)/\H' D=b!/\s'.heap.get? D=a! {cls:=.type "list",data:=.seq ys.toArray c}/\aT xs ys/\W i n c_ H' xs)
   ?_ m0 ⟨0,_,b_,[],[],0,I0 tk,T.keep _ _ _ ON λb hb o e=>old b o e,λb hb=>(f2 b hb).1,I2.hok.fresh 0x1,Qh,.nil,w0⟩
  rintro n s' ⟨i,c_,H',xs,ys,c,J',F',fr',nD,eD,rv,w'⟩;have J1:=Sv J' eD nD;obtain⟨stop,hz,fin⟩|⟨go,hz,ĳ⟩:=turn i n c_ H' xs w'
  ·refine cf (T.done (aR X N' scope G.objs.size s₂ b_ fp) rfl rfl rfl hc i _ s' c_ H' _ J1 (Px fr' λp hp=>by rw[Oi.mp hp]) F' stop) λr s4 ⟨hr,J4⟩=>?_;subst hr;obtain⟨T9,VS⟩:=Qy (pp:=[]) J4;obtain⟨mC,VB,_⟩:=J4.loc;refine V2 D G.objs.size s4 mC VB (by have:=I2.sz;lia) (λz=>d3 (Ox I2.lt 0x1) (N6 G.objs.size) z.symm) (λx c e z=>?_) (λp hp z=>?_) λh' QK=>?_
   ·obtain⟨v,q⟩:=I2.cell x c e;exact d3 (Ox q.lt 0x1) (N6 G.objs.size) z
   ·exact d3 (Ox (N9 (I2.pin p hp).1) 0x1) (N6 G.objs.size) z
   have OX:∀b o,b≠G.objs.size->s4.heap.get? b=a! o->h'.get? b=a! o:=λb o hb e=>QK.extBut b o hb e;have Tw:H' G.objs.size=b!:=J4.free;have V1:Un (iB X.stack) fp b_ (upd H' D (.lst xs)) s₂.heap h':=by
    have u:=J4.base;have WO:∀b o,s₂.heap.get? b=a! o->b≠D:=λb o e=>ig e (OE hD);have Q0:∀b o,s₂.heap.get? b=a! o->b≠G.objs.size:=λb o e=>ig e (by rw[hD];exact Qg);have QJ:∀b o,b_ b=a! o->b≠D:=λb o e=>d3 (I2.hok.lt e) (OE hD);refine⟨λb o e n hb hx=>OX b o (Q0 b o e) (u.keep b o e n hb hx),λb o e n hb hx=>?_,λb o e n hx=>by rw[aF (WO b o e)];exact u.free b o e n hx,λb o e hx=>?_,
     λb xs e=>by rw[aF (QJ b _ e)];exact u.tups b xs e,λb o z e=>by rw[aF (QJ b _ e)];exact u.frzs b o z e,λb ps e=>by rw[aF (QJ b _ e)];exact u.tbls b ps e⟩
    ·obtain⟨sl,q⟩:=u.slot b o e n hb hx;exact⟨sl,OX b _ (Q0 b o e) q⟩
    ·obtain⟨o',q⟩:=u.there b o e hx;exact⟨o',OX b _ (Q0 b o e) q⟩
   have Tc:lV X.prog X.w (upd H' D (.lst xs)) h':=by
    intro b u e;by_cases hb:b=D
    ·subst hb;rw[aQ]at e;cases e;exact⟨hz,ys,c,rv,OX _ _ RA VS⟩
    ·rw[aF hb]at e;have TL:∀a o,H' a=a! o->a≠D:=λa o e z=>by rw[z,T9]at e;cases e
     refine(J4.hok b u e).stay (λa v ha q=>OX a v ?_ q) (λa q=>by rwa[aF (TL a _ q)]) λa zs q=>by rwa[aF (TL a _ q)]
     rintro rfl;obtain z|z:=ha
     ·rw[<-z,Tw]at e;cases e
     ·rw[Tw]at z;cases z
   refine⟨upd H' D (.lst xs),I2.call' (s':={s4 with heap:=h'}) J4.os V1 Tc J4.bare (λb hb=>?_),by rw[aF (XR RA)];exact Tw,fin D T9⟩;exact⟨(f2 b hb).2.2.2.1,(f2 b hb).2.1,(f2 b hb).2.2.2.2.1,(f2 b hb).2.2.2.2.2⟩
  ·refine cf (T.item (aR X N' scope G.objs.size s₂ b_ fp) rfl rfl rfl hc i _ s' c_ H' Io J1 (Px fr' λp hp=>by rw[Oi.mp hp]) F' go) λr s4 ⟨u,hr,h4⟩=>?_;subst hr;refine cf h4 λ_ s5 ⟨x,H5,I5,r5,y5,QU,fr5⟩=>?_;have TY:=I5.pinned (Px fr5 λp hp=>by rw[Oi.mp hp]) (T.obj _ _ QU);refine cf (hg _ _ _ _ _ s5 c_ H5 x u _ TY r5 (ĳ x H5 y5)) λ_ s6 ⟨σ6,H6,I6,q6⟩=>?_;refine cf (hf _ _ _ _ _ s6 σ6 H6 _ I6 q6) λok s7 ⟨H7,I7,q7⟩=>?_;have back:∀{Tf:St}{H8:Hp}{s8:d?},Inv (aR X N' scope G.objs.size s₂ b_ fp) ([(D,{cls:=.type "list",data:=.seq ys.toArray c})]++oi fp s5.heap) Tf H8 s8 ->
     Inv (aR X N' scope G.objs.size s₂ b_ fp) [] Tf H8 s8/\tn (i+1) s8.heap/\(∀b∈fp,H8 b=b!)/\H8 D=b!/\s8.heap.get? D=a! {cls:=.type "list",data:=.seq ys.toArray c}:=λ{Tf H8 s8} J=>by
    have pd:=J.pin (D,{cls:=.type "list",data:=.seq ys.toArray c}) (N4 _ (N5 _ (Oi.mpr rfl)));have pf:∀b∈fp,∀o,s5.heap.get? b=a! o->s8.heap.get? b=a! o/\H8 b=b!:=λb hb o e=>by have q:=J.pin (b,o) (N4 _ (N4 _ (i9 hb e)));exact⟨q.1,q.2.1⟩
    refine⟨J.pins_of λp hp=>ê hp 0x4,T.keep _ _ _ QU λb hb o e=>(pf b hb o e).1,λb hb=>?_,pd.2.1,pd.1⟩;obtain⟨o,e,_⟩:=T.obj _ _ QU b hb;exact(pf b hb o e).2
   cases ok with
   |false=>
    simp only[o?,if_false]at q7 ⊢;obtain⟨m',hm,w7⟩:=q7;obtain⟨b1,b2,b3,b4,b5⟩:=back I7;exact⟨m',hm,i+1,σ6,H7,xs,ys,c,b1,b2,b3,b4,b5,rv,w7⟩
   |true=>
    simp only[if_true]at q7 ⊢;refine cf (he _ _ _ _ _ s7 σ6 H7 _ I7 q7) λu8 s8 ⟨v8,H8,I8,r8,q8⟩=>?_;obtain⟨m',hm,w8⟩:=q8;obtain⟨b1,b2,b3,b4,b5⟩:=back I8;refine append_at b5 (λh9 T5 e9=>?_) (by rw[o!,<-rv.length];exact Yw hz);have I9:Inv (aR X N' scope G.objs.size s₂ b_ fp) [] σ6 H8 {s8 with heap:=h9}:=b1.turned (t':=s8.toks) (it:=D) (λb o hb e=>(T5.2 b hb).trans e) b4 RA (.inr (by show s₂.heap.objs.size<=D;lia)) QD λp hp=>ê (show p∈([]:List (c!×XQ))from hp) 0x4;refine⟨m',hm,i+1,σ6,H8,xs++[v8],ys++[u8],c+1,I9,T.keep _ _ _ b2 λb hb o e=>(T5.2 b ?_).trans e,b3,b4,?_,aT.append rv (.cons r8 .nil),w8⟩
    ·exact d3 (RX b hb) (N6 _)
    ·rw[e9,ť]
 exact Ř (L_ _ ⟨_,rfl⟩) (T.self _ 0 _ _ _ (T.keep _ _ _ ON λb hb o e=>old b o e) (L_ _ ⟨_,rfl⟩))
def Hd{i:Nat}{y:w?}{py Rn:YU}(S:CompFit X k js N' scope)(hc:X.calm=d!)(hN:X.N.Nodup)(hi:X.N[i]?=a! y)(hx:X.env.scope.names.lookup y=a! .local)(KE:PI X tg g_ wi)(hg:∀C s₂ b_ fp,PG (aR X N' scope C s₂ b_ fp) tg g)(hf:∀C s₂ b_ fp,PF (aR X N' scope C s₂ b_ fp) t_ tc)(he:∀C s₂ b_ fp,PE (aR X N' scope C s₂ b_ fp) v_ te)(QW:X_ (.ListComp v_ [⟨tg,g_,t_,0⟩] scope ce) (a! (.Name y py)) Rn.line X.env=Xo d!)(hs:∀x,W3 g_ X.env x=Xo x):
  PS X (.Assign [.Name y py] (.ListComp v_ [⟨tg,g_,t_,0⟩] scope ce) Rn) (IF (zJ wi k js g tc te) (oX i)):=by
 intro a_ s σ H D I h;rw[exec_Assign_Name_used _ _ _ _ QW];refine N7 (aÆ (N7 ?_));show n? _ X.A (do let _ <-aË (.ListComp v_ [⟨tg,g_,t_,0⟩] scope ce) scope X.env _ (newList []) e! (I! g_ X.env) (a! (ć (.Name y py) X.env))) _ _ s;refine N7 (Xy (CL (use:=a! (ć (.Name y py) X.env)) (Q':=λq s'=>SP X a_ D .next s') S hc KE hg hf he I h (λDd C s4 m hn h0 h1 h2 h3 SE=>?_) hs) (λq s' hq=>N8 (N8 hq)) λq q e=>e);obtain⟨H5,I5,n5,q5⟩:=SE s4.heap (ϩ _ _);show n? _ X.A (ć (.Name y py) X.env (.ref Dd)) _ X.xe s4;refine π (tL (v:=.ref Dd) I5 hN hi (.inl hx) rfl (λs5 I6 ⟨a,R6,ha⟩=>?_) (.inr hx));have haC:C≠a:=λz=>by
  obtain e|e:=ha
  ·exact h1 (z.trans e)
  ·exact h2 y a e z.symm
 refine⟨m,hn.sameBut R6 haC,λh' QK=>⟨σ.set i (a! (.ref Dd)),H5,?_,q5⟩⟩;exact I6.turned (t':=s5.toks) (it:=C) (λb o hb e=>(QK.2 b hb).trans e) n5 h1 (.inr h0) h2 h3
end
end L2
namespace L3
open PySem PySem.Spec L2
open PyProof.Rows hiding St
section
variable{X:Cx}{E:XK}{k:Nat}{js:List Nat}{N':List w?}{scope:Y1}{v_ tg g_:E!}{t_:List E!}{ce py Rn:YU}{y:w?}{i:Nat}{fi:DS->M (List D)}{g:TG}{sf:D->DS->Option DS}{gc:DS->M Bool}{fe:DS->M DV}
def uK(S:CompFit X k js N' scope)(hj:js.Nodup)(hc:X.calm=d!)(hN:X.N.Nodup)(KE:Fe X E tg g_ fi)(ht:Ih g sf)(OO:∀δ d δ1,sf d (cX k js δ)=a! δ1->Sub (cX k js δ) δ1)(hg:∀C s₂ b_ fp,PG (aR X N' scope C s₂ b_ fp) tg g)(hf:∀C s₂ b_ fp,PF (aR X N' scope C s₂ b_ fp) t_ (DQ E0 gc))(he:∀C s₂ b_ fp,PX (aR X N' scope C s₂ b_ fp) E0 v_ fe)(hi:X.N[i]?=a! y:=by rfl)(hx:X.env.scope.names.lookup y=a! .local:=by rfl)(QW:X_ (.ListComp v_ [⟨tg,g_,t_,0⟩] scope ce) (a! (.Name y py)) Rn.line X.env=Xo true:=by rfl)(hs:∀x,W3 g_ X.env x=Xo x:=by intro _;rfl):zZ X E (.Assign [.Name y py] (.ListComp v_ [⟨tg,g_,t_,0⟩] scope ce) Rn) (aK i (aW k js fi sf gc fe)):=PS.mono (Hd S hc hN hi hx KE hg hf he QW hs) λT σ H q=>tO hj ht OO (by
  obtain⟨O,P,δ,r,rs,e,q⟩:=q;obtain⟨x,e1,e2⟩|⟨cx,e1,e2⟩:=aB e
  ·obtain⟨z,e3,e4⟩:=bz e2;cases e4;refine⟨O,P,δ,.ok x,rs,e1,λv H1 s1 rx=>?_⟩;obtain⟨P',kp,O3⟩:=rs.asg s1 rx e3 i;exact q _ H1 P' kp O3
  ·subst e2;exact⟨O,P,δ,.error cx,rs,e1,λdx H' s=>q dx H' P (.same s)⟩)
end
section
variable{X:Cx}{E:XK}
def Dt{prog:g?}{w:q?}{A:A?}{E:b?->d?->Prop}{s:d?}{t b:c!}{ws:List b?}{Q:b?->d?->Prop}(ht:ϑ s.heap t #[])(hb:ϑ s.heap b ws.toArray)(h:Q (.ref b) s):n? (p! prog w) A (W_ .Add (.ref t) (.ref b)) Q E s:=by obtain⟨⟨c1,d1,a1,l1⟩,o1,q1,n1,z1⟩:=id ht;obtain⟨⟨c2,d2,a2,l2⟩,o2,q2,n2,z2⟩:=id hb;simp only at q1 z1 q2 z2;subst q1 z1 q2 z2;exact ŗ ⟨_,o1,rfl⟩ ⟨_,o2,rfl⟩ Ą Ĵ Zx Zm (Zg _ _) (tuple_addW0 t b #[] ws.toArray n1 n2 d1 d2 l1 l2 rfl) ⟨o1,o2,h⟩
def E2(x y:DV):M DV:=match x,y with
 |.d (.tuple xs),.d (.tuple ys)=>if xs.length+ys.length<=1000000 then rt (.d (.tuple (xs++ys)))else b!
 |_,_=>b!
set_option tactic.hygienic true in
def GL:hW X E (W_ .Add) E2:=λa_ s σ O P H₀ H x y v u vv uu r Q I hd hs rx ry ev eu e q=>by
 unfold E2 at e;split at e
 ·rename_i xs ys;split at e
  ·rename_i hz;cases e;have R8:Rp (P++O) H (.tuple xs) v:=rx;have Sg:Rp (P++O) H (.tuple ys) u:=ry;cases R8 with
   |@tup a _ vs za ha la=>
    cases Sg with
    |@tup b _ us zb hb lb=>
     cases xs with
     |nil=>
      cases la;cases ev;cases eu;obtain⟨i1,r1,p1,_⟩:=I.tuple (lA.of ha);obtain⟨i2,r2,p2,_⟩:=I.tuple (lA.of hb);cases r1;exact Dt p1 p2 ⟨.ref b,H,I,rfl,q _ H (aE.refl H) (.tup zb hb lb)⟩
     |cons x0 xr=>
      refine Gs a_ s σ H (.ref a) (.ref b) vv uu Q I ev eu ⟨a,b,vs,us,rfl,rfl,lA.of ha,lA.of hb,λz=>?_,fC (by rwa[<-la.length,<-lb.length]),λz=>?_,λz p hp=>?_⟩
      ·subst z;cases la
      ·subst z;cases lb;rw[C!]at q;exact q _ H (aE.refl H) (.tup za ha la)
      ·exact q _ _ (bb hp) (Cw hd hs hp (la.append lb))
  ·cases e
 ·cases e
def ax:=BW a8 E2
def aU:hW X E (W_ .Add) ax:=cj.or GL
def m5(xs:List DV):M DV:=match xs with
 |[x]=>match pS x with
  |some (.list ys)=>rt (.d (.tuple ys))
  |some (.tuple ys)=>rt (.d (.tuple ys))
  |_=>b!
 |_=>b!
set_option tactic.hygienic true in
def vy:dR X E (.type "tuple") m5:=dR.of rW λO P H₀ H xs vs r Q hd hs rx e q=>by
 unfold m5 at e;split at e
 ·rename_i x;cases rx with
  |cons r1 rr=>
   cases rr;split at e
   ·rename_i ys h;cases e;obtain⟨a,ws,rfl,ha,l⟩:=r1.look.1 h;exact⟨a,ws,rfl,.inl ⟨gu.of ha,λp hp=>q _ _ (bb hp) (Cw hd hs hp l)⟩⟩
   ·rename_i ys h;cases e;cases x with
    |d z=>
     cases h;have r':Rp (P++O) H (.tuple ys) _:=r1;cases r' with
     |tup hz ha l=>exact⟨_,_,rfl,.inr ⟨lA.of ha,q _ H (aE.refl H) (.tup hz ha l)⟩⟩
    |ob C fs=>cases h
    |fz ca=>cases h
    |ex q=>cases h
    |tpo p xs q=>cases h
    |nwt p xs q=>cases h
    |own zs=>cases h
    |new zs=>cases h
    |scr K ns=>cases h
   ·cases e
 ·cases e
def o8(i:Nat)(f:DS->M DV)(δ:DS):M Out:=match δ[i]? with
 |some (a! (.own xs))=>bd (f δ) λx=>match x with
  |.new ys=>if xs.length+ys.length<=1000000 then rt (.nx (δ.set i (a! (.own (xs++ys)))))else b!
  |.d (.list ys)=>if xs.length+ys.length<=1000000 then rt (.nx (δ.set i (a! (.own (xs++ys)))))else b!
  |_=>b!
 |_=>b!
variable{e o:E!}{ce h_ M':YU}{f:DS->M DV}{i:Nat}
set_option tactic.hygienic true in
def yY(ho:PE X o (hV i))(he:PX X E e f)(O8:O? o "extend" X.env (I! o X.env)=I! o X.env:=by rfl)(Pf:((W2 M' (n! [e] X.env)).all (λx=>!x.1)&&(YZ M' (XU [] X.env)).all (λx=>x.1.isSome)
   &&g! ([e].length+([]:List YL).length+(if([]:List YL).isEmpty then 0 else 1)<30))=d!:=by rfl)(O7:(h_.endLine==M'.line)=d!:=by rfl)(hs:n! [e] X.env=(e!,I! e X.env)::n! [] X.env:=by rfl)(OT:(W2 M' (n! [] X.env)).any (·.1)=e!:=by rfl)(QW:X_ (.Call (.Attribute o "extend" h_) [e] [] M') b! ce.line X.env=Xo false:=by rfl):zZ X E (.Expr (.Call (.Attribute o "extend" h_) [e] [] M') ce) (o8 i f):=
 PS.mono (m6 (vB XT PySem.F.slot_list_extend PySem.F.type_list_extend Br ho (jk he jS hs) O8 Pf O7 hs OT) QW) λT σ H q=>by
  obtain⟨O,P,δ,r,rs,e,q⟩:=q;unfold o8 at e;split at e
  ·rename_i xs ei;obtain⟨v,ev,_,a,vs,rfl,hP,ha,l⟩:=rs.at' i _ ei;refine⟨.ref a,ev,.inl ⟨rfl,_,gu.of ha⟩,?_⟩;obtain⟨x,e1,e2⟩|⟨cx,e1,e2⟩:=aB e
   ·refine⟨O,P,δ,.ok x,rs,e1,λu H1 s1 rx=>?_⟩;have fin:∀ys b us,u=.ref b->H1 b=a! (.lst us)->RpL (P++O) H1 ys us->xs.length+ys.length<=1000000->r=.ok (.nx (δ.set i (a! (.own (xs++ys)))))->zQ (.ref a) [u] H1 λ_ H2=>T.nx σ H2:=λys b us eu hb lb hz er=>by subst eu er;have l1:=(l.kp (.same s1)).append lb;obtain⟨kp,O3⟩:=(rs.same s1).grow ei ev l1 hP;exact⟨a,b,vs,us,rfl,rfl,s1 a _ ha,hb,fC (by rwa[<-l.length,<-lb.length]),q σ _ P ((Kp.same s1).trans kp) O3⟩
    split at e2
    ·rename_i ys;split at e2
     ·rename_i hz;cases e2;obtain⟨b,us,eu,hb,lb⟩:=rx.list (xs:=ys) rfl;exact fin ys b us eu hb lb hz rfl
     ·cases e2
    ·rename_i ys;split at e2
     ·rename_i hz;cases e2;obtain⟨b,us,eu,hb,lb⟩:=rx.list (xs:=ys) rfl;exact fin ys b us eu hb lb hz rfl
     ·cases e2
    ·cases e2
   ·subst e2;exact⟨O,P,δ,.error cx,rs,e1,λdx H' s=>q dx H' P (.same s)⟩
  ·cases e
end
section
variable{X:Cx}{E:XK}{a b e o:E!}{fa fb fo fe:DS->M DV}{ce:YU}
def IW(x:DV):M Bool:=bd (op (jJ x)) λys=>rt (!ys.isEmpty)
def Kd(h:PX X E e fe)(he:∀m_,ą e X.env m_=(do let v <-m_;ò e.pos;ZX [v] (Λ v)):=by intro _;rfl):PB X E e (λδ=>bd (fe δ) IW):=PT.mono (B1 h he) λσ H Q q=>u6 (g:=λo=>IW) q λO P δ x r v H1 rs OK s1 rx e' q'=>by obtain⟨ys,h1,h2⟩:=bz e';cases h2;obtain⟨a,ws,rfl,ha,l⟩:=rx.list h1;refine⟨!ys.isEmpty,.inl ⟨ws,gu.of ha,?_⟩,q' H1 (aE.refl H1)⟩;cases l <;>rfl
end
open PySem PySem.Spec L2 PySem.SeqAt PySem.MeetsSeq
noncomputable abbrev MO(D':Array b?)(c:Nat):XQ:={cls:=.type "list",dict:=b!,data:=.seq D' c,slots:=#[]}
abbrev KS(l:c!)(D':Array b?)(c:Nat)(x:b?)(q:b?->Bool)(j:Nat):PySem.Spec:=λA R s=>s.heap.get? l=a! (MO D' c)/\(∀y,y∈D'->EqAt A.in1 s y x (q y))/\R (.ok (.ret .none)) {s with heap:=s.heap.update l (W5 λzs=>zs.eraseIdxIfInBounds j)}
def DW(l:c!)(D':Array b?)(c:Nat)(x:b?)(q:b?->Bool)(j:Nat)(hj:j<D'.size)(Ux:q D'[j]=d!)(hz:D'.size<=sizeLine):∀k i:Nat,j-i=k->i<=j->(∀m (hm:m<D'.size),i<=m->m<j->q D'[m]=e!) ->
  ϋ (X5.«list.remove.loop» ⟨[.ref l,x,ç i],[]⟩) (KS l D' c x q j):=by
 intro k
 induction k with
 |zero=>
  intro i k0 le no prog w A R s ⟨at_,eqs,fin⟩;obtain⟨hp,gs,dr,tk,os⟩:=s;obtain rfl:i=j:=by lia
  wp_walk using Yr at_
  rw[show D'[((i:Nat):Int).toNat]?=a! D'[i] by simp[hj]];refine N7 (eqs _ (Œ hj) prog w _ _ ?_);rw[Ux]
  have few:(D'.eraseIdxIfInBounds i).size<=sizeLine+1:=Ow (size_erased D' _) (Ú hz)
  wp_walk using(Z5 at_ rfl (hz:=hz) (_hz':=few)),Yr at_
  simpa using fin
 |succ k ih=>
  intro i k1 le no prog w A R s ⟨at_,eqs,fin⟩;obtain⟨hp,gs,dr,tk,os⟩:=s;have lt:i<D'.size:=by lia
  wp_walk using Yr at_
  rw[show D'[((i:Nat):Int).toNat]?=a! D'[i] by simp[lt]];refine N7 (eqs _ (Œ lt) prog w _ _ ?_);rw[no i lt (N6 _) 0x1]
  wp_walk
  rw[show((i:Int)+1)=((i+1:Nat):Int) by push_cast;rfl];refine⟨XH plain_remove_loop _,U? entry_remove_loop ?_⟩;rw[M! plain_remove_loop _];exact ih (i+1) 0x1 0x1 (λm hm h1 h2=>no m hm 0x1 h2) prog w A R _ ⟨at_,eqs,fin⟩
def Jw(l:c!)(D':Array b?)(c:Nat)(x:b?)(q:b?->Bool)(j:Nat)(hj:j<D'.size)(Ux:q D'[j]=d!)(no:∀m (hm:m<D'.size),m<j->q D'[m]=e!)(hz:D'.size<=sizeLine):ϋ (X5.«list.remove» ⟨[.ref l,x],[]⟩) (KS l D' c x q j):=by
 intro prog w A R s ⟨at_,eqs,fin⟩;obtain⟨hp,gs,dr,tk,os⟩:=s
 wp_walk using Yr at_
 refine⟨XH plain_remove_loop _,U? entry_remove_loop ?_⟩;rw[M! plain_remove_loop _];exact DW l D' c x q j hj Ux hz _ 0 rfl (Ov _) (λm hm o h2=>no m hm h2) prog w A R _ ⟨at_,eqs,fin⟩
section
variable{X:Cx}{E:XK}{e o:E!}{f:DS->M DV}{ce:YU}
def MM(x:V)(vs:List V)(H:Hp)(Q:VK):Prop:=∃O P H₀ l ys ws dy v d j,x=.ref l/\vs=[v]/\H l=a! (.lst ws)/\RpL (P++O) H ys ws/\RE O P H₀ H dy v/\pS dy=a! d/\d.depth<=60/\ys.findIdx? (λz=>i? z d)=a! j/\Q .non (upd H l (.lst (ws.eraseIdx j)))
def Bu(hu:X.A.units+64<K?):Na X "list.remove" MM:=λa_ s σ H x xs v us Q I rx rs h=>by
 obtain⟨O,P,H₀,a,ys,ws,dy,w,d,j,rfl,rfl,ha,l,r2,h2,Q1,hj,q⟩:=h;obtain⟨u,rfl,ru⟩:=rE rs;cases rx;obtain⟨z,D',n,r,hl,e⟩:=I.lstM ha;obtain⟨⟨as,ra⟩,la⟩:=r2.reads I ru h2;obtain⟨bs,rb⟩:=RpL.reads I l r;have hm:D'.map (readOf s.heap)=ys:=ĸ ys _ _ l.lay rb;rw[List.findIdx?_eq_some_iff_getElem]at hj;obtain⟨hj1,Vb,hj3⟩:=hj;subst hm;have PQ:j<D'.toArray.size:=by simpa using hj1
 refine ZY ø ⟨_,e,rfl⟩ PySem.F.entry_list_remove (PySem.F.args_list_remove_2 _ _) (Jw a D'.toArray n u (λy=>i? (readOf s.heap y) d) j PQ (by simpa using Vb) (λm hm lt=>by simpa using hj3 m lt) (by rw[o!];lia))
  ⟨e,Š (vs:=D'.toArray) rb ra l.lay la (by have:=ZA (l? (D'.map (readOf s.heap))) d.depth;lia),?_⟩
 refine⟨.non,_,I.lset (its':=D'.eraseIdx j) ha e ?_ (r.eraseIdx j) ?_,rfl,q⟩
 ·show D'.toArray.eraseIdxIfInBounds j=(D'.eraseIdx j).toArray;rw[List.eraseIdxIfInBounds_toArray]
 ·have:=sE ws j;lia
def Be(i:Nat)(f:DS->M DV)(δ:DS):M Out:=match δ[i]? with
 |some (a! (.own xs))=>bd (f δ) λx=>bd (op (pS x)) λd=>if d.depth<=60 then bd (op (xs.findIdx? λz=>i? z d)) λj=>rt (.nx (δ.set i (a! (.own (xs.eraseIdx j)))))else b!
 |_=>b!
theorem RpL.erase{Z:List c!}{H:Hp}:∀{xs:List D}{vs:List V}(j:Nat),RpL Z H xs vs->RpL Z H (xs.eraseIdx j) (vs.eraseIdx j)
 |_,_,_,.nil=>by simp;exact .nil
 |_,_,0,.cons p l=>l
 |_,_,j+1,.cons p l=>.cons p (RpL.erase j l)
set_option tactic.hygienic true in
def Ki{i:Nat}{h_ M':YU}(hu:X.A.units+64<K?)(ho:PE X o (hV i))(he:PX X E e f)(O8:O? o "remove" X.env (I! o X.env)=I! o X.env:=by rfl)(Pf:((W2 M' (n! [e] X.env)).all (λx=>!x.1)&&(YZ M' (XU [] X.env)).all (λx=>x.1.isSome)
   &&g! ([e].length+([]:List YL).length+(if([]:List YL).isEmpty then 0 else 1)<30))=d!:=by rfl)(O7:(h_.endLine==M'.line)=d!:=by rfl)(hs:n! [e] X.env=(e!,I! e X.env)::n! [] X.env:=by rfl)(OT:(W2 M' (n! [] X.env)).any (·.1)=e!:=by rfl)(QW:X_ (.Call (.Attribute o "remove" h_) [e] [] M') b! ce.line X.env=Xo false:=by rfl):zZ X E (.Expr (.Call (.Attribute o "remove" h_) [e] [] M') ce) (Be i f):=
 PS.mono (m6 (vB XT ø PySem.F.type_list_remove (Bu hu) ho (jk he jS hs) O8 Pf O7 hs OT) QW) λT σ H q=>by
  obtain⟨O,P,δ,r,rs,e,q⟩:=q;unfold Be at e;split at e
  ·rename_i xs ei;obtain⟨v,ev,_,a,vs,rfl,hP,ha,l⟩:=rs.at' i _ ei;refine⟨.ref a,ev,.inl ⟨rfl,_,gu.of ha⟩,?_⟩;obtain⟨x,e1,e2⟩|⟨cx,e1,e2⟩:=aB e
   ·obtain⟨d,e3,e4⟩:=bz e2;split at e4
    ·rename_i hz;obtain⟨j,e5,e6⟩:=bz e4;cases e6;refine⟨O,P,δ,.ok x,rs,e1,λu H1 s1 rx=>?_⟩;have l1:=(l.kp (.same s1));obtain⟨k,O3⟩:=(rs.same s1).grow ei ev (l1.erase j) hP;exact⟨O,P,_,a,xs,vs,x,u,d,j,rfl,rfl,s1 a _ ha,l1,rx,e3,hz,e5,q σ _ P ((Kp.same s1).trans k) O3⟩
    ·cases e4
   ·subst e2;exact⟨O,P,δ,.error cx,rs,e1,λdx H' s=>q dx H' P (.same s)⟩
  ·cases e
end
def oj:List DV->Option (List D×List D×List D)
 |[]=>b!
 |.own xs::r=>(d7 r).map λq=>([],xs,q)
 |x::r=>match yo x,oj r with
  |some d,a! (p,xs,q)=>a! (d::p,xs,q)
  |_,_=>b!
set_option tactic.hygienic true in
theorem mE.split{O P:List c!}{H H':Hp}(dom:∀a,a∈P++O->∃o,H a=a! o):∀{xs:List DV}{vs:List V}{p ys q:List D},mE O P H H' xs vs->oj xs=a! (p,ys,q)->∃a ps us qs,vs=ps++.ref a::qs/\a∈P/\H' a=a! (.lst us)/\RpL (P++O) H' p ps/\RpL (P++O) H' ys us/\RpL (P++O) H' q qs
 |[],_,_,_,_,_,h=>by cases h
 |x::r,v::vs,p,ys,q,.cons r1 t,h=>by
  have gen:(match yo x,oj r with
   |some d,a! (p,xs,q)=>a! (d::p,xs,q)
   |_,_=>b!)=a! (p,ys,q)->∃a ps us qs,v::vs=ps++.ref a::qs/\a∈P/\H' a=a! (.lst us)/\RpL (P++O) H' p ps/\RpL (P++O) H' ys us/\RpL (P++O) H' q qs:=λh=>by
   split at h
   ·rename_i d p' Qw q' h1 h2;cases h;obtain⟨a,ps,us,qs,e,hP,ha,l1,l2,l3⟩:=mE.split dom t h2;exact⟨a,_::ps,us,qs,by rw[e];rfl,hP,ha,.cons (r1.data dom h1) l1,l2,l3⟩
   ·cases h
  cases x with
  |own zs=>
   unfold oj at h;cases hd:d7 r with
   |none=>rw[hd]at h;cases h
   |some ds=>
    rw[hd]at h;cases h;obtain⟨a,vs,rfl,hP,ha,l⟩:=r1;exact⟨a,[],vs,_,rfl,hP,ha,.nil,l,mE.data dom t hd⟩
  |d z=>exact gen h
  |new z=>exact gen h
  |ob C fs=>exact gen h
  |fz ca=>exact gen h
  |ex z=>exact gen h
  |tpo p xs z=>exact gen h
  |nwt p xs z=>exact gen h
  |scr K ns=>exact gen h
section
variable{X:Cx}{E:XK}{a b e o:E!}{es:List E!}{fa fb f fe:DS->M DV}{fr:DS->M (List DV)}{gc:DS->M Bool}{ce:YU}
def B5(fr:DS->M (List DV))(δ:DS):M DV:=bd (fr δ) λxs=>bd (op (oj xs)) λt=>if xs.length<=1000000 then rt (.tpo t.1 t.2.1 t.2.2)else b!
set_option tactic.hygienic true in
def Fj{k:Nat}(h:wq X E es fr):PX X E (.Tuple es k ce) (B5 fr):=PE.mono (xD h) λσ H Q q=>lQ (g:=λ_ xs=>bd (op (oj xs)) λt=>if xs.length<=1000000 then rt (.tpo t.1 t.2.1 t.2.2)else b!) q λO P δ xs r vs H1 rs OK s1 rx e q=>by
 obtain⟨⟨p,ys,qq⟩,hd,e⟩:=bz e;split at e
 ·rename_i hz;cases e;obtain⟨a,ps,us,qs,e1,hP,ha,l1,l2,l3⟩:=mE.split rs.dom rx hd;refine⟨fC (by rwa[<-Xs rx]),λt ht=>q _ _ (bb ht) ?_⟩;have k:Kp (P++O) H1 (P++O) (upd H1 t (.tup vs)):=.same (bb ht);refine⟨t,a,ps,us,qs,rfl,λh=>?_,by rw[aQ,e1],hP,bb ht a _ ha,l1.kp k,l2.kp k,l3.kp k⟩;obtain⟨o,q⟩:=OK.dom t h;rw[q]at ht;cases ht
 ·cases e
noncomputable def Aw:DV->DV
 |.nwt p xs q=>.d (.tuple (p++.list xs::q))
 |x=>x
def rA(f:DS->M DV)(δ:DS):M DV:=bd (f δ) λx=>rt (Aw x)
def qF(h:PX X E e f):PX X E e (rA f):=PE.mono h λσ H Q q=>lT (g:=λj x=>rt (Aw x)) q λO P δ x r v H1 rs OK s1 rx e q=>by
 cases e;refine q v H1 (aE.refl H1) ?_;cases x with
 |nwt p xs qq=>
  obtain⟨t,a,ps,vs,qs,rfl,hz,ht,hn,ha,l1,l2,l3⟩:=rx;have sb:∀b,b∈P++O->b∈a::(P++O):=λb hb=>N1 _ hb;refine Rp.tup (λh=>hz (sb t h)) ht (RpL.append (l1.kp (.sub sb)) (.cons (Rp.lst (λh=>?_) ha (l2.kp (.sub sb))) (l3.kp (.sub sb))));obtain⟨o,z⟩:=rs.dom a h;rw[hn]at z;cases z
 |d x=>exact rx
 |ob C fs=>exact rx
 |fz ca=>exact rx
 |ex z=>exact rx
 |tpo p xs z=>exact rx
 |own xs=>exact rx
 |new xs=>exact rx
 |scr K ns=>exact rx
def Jq(i:Nat)(h:PB X E e gc):PB X E e (λδ=>gc (frz i δ)):=PT.mono h λσ H Q q=>by obtain⟨O,P,δ,r,rs,e,q⟩:=q;obtain⟨P',hP,O3⟩:=rs.frz i;exact⟨O,P',frz i δ,r,O3,e,q⟩
end
section
variable{X:Cx}{E:XK}
noncomputable def oY:List D->Option (List Int)
 |[]=>a! []
 |.int i::r=>(oY r).map (i::·)
 |_::_=>b!
theorem nP:∀{xs:List D}{ns:List Int},oY xs=a! ns->xs=ns.map r?
 |[],ns,h=>by cases h;rfl
 |x::r,ns,h=>by
  cases x with
  |int b=>
   unfold oY at h;cases e:oY r with
   |none=>rw[e]at h;cases h
   |some cs=>rw[e]at h;cases h;rw[nP e];rfl
  |_=>cases h
def om(ns:List Int):oY (ns.map r?)=a! ns:=by
 induction ns with
 |nil=>rfl
 |cons b r ih=>rw[f?,oY,ih];rfl
def wc(xs:List DV):M DV:=match xs with
 |[x]=>bd (op (jJ x)) λys=>bd (op (oY ys)) λns=>rt (.d (.int ns.sum))
 |_=>b!
theorem gK{Z:List c!}{H:Hp}:∀{ns:List Int}{vs:List V}{us:List b?},RpL Z H (ns.map r?) vs->aT vs us->∃ps:List (Int×Tok),us=ps.map (λp=>ZR p.1 p.2)/\ps.map (·.1)=ns
 |[],_,_,.nil,.nil=>⟨[],rfl,rfl⟩
 |b::r,_,_,.cons p l,.cons q t=>by cases p;obtain⟨tk,rfl⟩:=q;obtain⟨ps,e1,e2⟩:=gK l t;exact⟨(b,tk)::ps,by rw[e1];rfl,by rw[f?,e2]⟩
def xv:H! "sum" = a! (.builtin "sum"):=by decide +kernel
def yG(hc:X.calm=d!):dR X E (.builtin "sum") wc:=λa_ s σ O P H₀ H xs vs us r Q I hd hs rx rv e q=>by
 unfold wc at e;split at e
 ·obtain⟨ys,e1,e2⟩:=bz e;obtain⟨ns,e3,e4⟩:=bz e2;cases e4;cases rx with
  |cons r1 rr=>
   cases rr;obtain⟨a,ws,rfl,ha,l⟩:=r1.list e1;cases rv with
   |cons q1 q2=>
    cases q2;cases q1;have Td:=nP e3;subst Td;obtain⟨D',ri,pl,hz⟩:=I.list (gu.of ha);obtain⟨ps,E_,Su⟩:=gK l ri;have PY:=pl.isList;have hl:s.heap.IsList a (ô ps.toArray):=by
     have:D'.toArray=ô ps.toArray:=by rw[E_];simp[ô]
     rw[<-this];exact PY
    refine sum_intListG (I.ok.hd hc) hl λh' tk t' hk=>?_;have VW:preSum (ϸ ps.toArray) ps.toArray.size=ns.sum:=by rw[preSum_eq,W! 0x4];rw[<-Su]
    rw[VW];exact⟨.int _,H,I.kept (t':=tk) λb ob eb=>hk b ob eb,⟨_,rfl⟩,q _ H (aE.refl H) (.int _)⟩
 ·cases e
end
section
variable{X:Cx}{E:XK}{o e e1 e2 c:E!}{f fk fe f1 f2:DS->M DV}{gc:DS->M Bool}{F:DS->M Out}{ce:YU}
def NJ(W:DS->M Out):Out->M Out
 |.nx δ=>W δ
 |.ct δ=>W δ
 |.bk δ=>rt (.nx δ)
 |.rt x=>rt (.rt x)
def BS(gc:DS->M Bool)(F:DS->M Out):Nat->DS->M Out
 |0,_=>b!
 |n+1,δ=>bd (gc δ) λk=>if k=d! then bd (F δ) (NJ (BS gc F n))else rt (.nx δ)
def Dc(n:Nat){j_:List U!}(hp:Ê (p! X.prog X.w) X.A X.env X.xe)(hc:PB X E c gc)(hb:yU X E j_ F):zZ X E (.While c j_ [] ce) (BS gc F n):=PS.mono (Es hp hc hb) λT σ H q=>by
  refine⟨λm σ H=>∃O P δ r,RS O P H σ δ/\BS gc F m δ=a! r/\FD E O P H T r,⟨n,q⟩,λm σ H w=>?_⟩;obtain⟨O,P,δ,r,rs,e,q⟩:=w;cases m with
  |zero=>cases e
  |succ m=>
   unfold BS at e;obtain⟨k,e1,e2⟩|⟨cx,e1,e2⟩:=aB e
   ·refine⟨O,P,δ,.ok k,rs,e1,λH1 s1=>?_⟩;cases k with
    |false=>
     cases e2;exact xH (q σ H1 P (.same s1) (rs.same s1))
    |true=>
     refine yT ⟨λc_ H'=>∃O P δ r,RS O P H' c_ δ/\BS gc F m δ=a! r/\FD E O P H' T r,λc_ H' h=>⟨m,Xf m,h⟩,?_⟩;rw[é rfl]at e2;have q1:=q.on (Kp.same (Z:=P) s1);obtain⟨o,e3,e4⟩|⟨cx,e3,e4⟩:=aB e2
     ·refine⟨O,P,δ,.ok o,rs.same s1,e3,?_⟩;cases o with
      |nx δ'=>exact λc_ H' P' k' O3=>⟨O,P',δ',r,O3,e4,q1.on k'⟩
      |ct δ'=>exact λc_ H' P' k' O3=>⟨O,P',δ',r,O3,e4,q1.on k'⟩
      |bk δ'=>cases e4;exact λc_ H' P' k' O3=>q1 c_ H' P' k' O3
      |rt x=>cases e4;exact q1
     ·subst e4;exact⟨O,P,δ,.error cx,rs.same s1,e3,q1⟩
   ·subst e2;exact⟨O,P,δ,.error cx,rs,e1,λdx H' s=>q dx H' P (.same s)⟩
end
end L3
namespace LW
open PySem PySem.Spec L2 L3
noncomputable def good(m c:Int):Bool:=g! (3<=m)&&g! (m<=13)&&(g! (1<=c)&&g! (c<=4))
def Jy(C CB:c!)(fr:DS->M (List DV)):DS->M DV:=aN (Ms C CB good "most" "colours") fr
def tq(C:c!):DS->M Out:=(bA (oG (BR iA iA (eC (.int 1)) (e2 bK (af 1) (eC (.int 0))) (iy C "most" (af 0))) (BR iA g8 (eC (.int 0)) (e2 bK (af 1) (eC (.int 1))) (iy C "colours" (af 0)))))
def b9(C:c!):List DV->M DV:=eS ["house","tile"] (tq C)
def iw:DS->M Out:=(bA (aN su (aa (aW 1 [0] (nM (aa (eC (.int 1)) (aa (aN cB (aa (af 0) ai)) ai))) (au 0) bW (e2 iA (e2 bK (af 1) (e2 gSub (af 0) (eC (.int 1)))) (e2 bK (af 1) (af 0)))) ai)))
def bB:List DV->M DV:=eS ["row"] (iw)
def sF(C:c!):DS->M Out:=(bD (gJ (Fg (λδ=>bd (e2 xp (aN cB (aa (af 1) ai)) (eC (.int 12)) δ) bQ) (hJ (λδ=>bd (BR iA iA (eC (.int 0)) (af 2) (eC (.int 2)) δ) bQ))) (bA (eC (.bool e!))) ck) (bD (gJ (hJ (λδ=>bd ((aN su (aa (aW 1 [0,1] (iO (af 1)) (au 0) bW (oG (aN (aw 2 (b9 C)) (aa (af 1) (aa (af 0) ai))) (e2 iA (ju (af 2) (af 0)) (eC (.int 2))))) ai)) δ) bQ)) (bA (eC (.bool e!))) ck) (bA (aN (aw 1 (bB)) (aa (af 1) ai)))))
def iF(C:c!):List DV->M DV:=eS ["house","hand","jokers"] (sF C)
def j7(K:Oe):DS->M Out:=(bD (gJ (λδ=>bd (e2 g8 (af 1) (aN (vI K) (aa (af 0) ai)) δ) bQ) (bA (e2 (Di K) (af 0) (af 1))) ck) (bA (eC (.int 0))))
def aA(K:Oe):List DV->M DV:=eS ["script","k"] (j7 K)
def qx:DS->M Out:=(bD (aK 3 (bX (aa (eC (.int 48271)) (aa (eC (.int 69621)) (aa (eC (.int 16807)) (aa (eC (.int 39373)) (aa (eC (.int 30269)) (aa (eC (.int 40014)) (aa (eC (.int 40692)) (aa (eC (.int 50021)) (aa (eC (.int 61687)) (aa (eC (.int 71993)) (aa (eC (.int 83869)) (aa (eC (.int 95561)) (aa (eC (.int 30307)) ai))))))))))))))) (bD (aK 4 (e2 a8 (e2 a8 (e2 fA (e2 a8 (e2 lB (af 0) (eC (.int 2147483647))) (eC (.int 12345))) (e2 bK (af 3) (e2 lB (af 1) (eC (.int 13))))) (e2 fA (eC (.int 977)) (af 1))) (e2 fA (eC (.int 7919)) (e2 E5 (af 1) (eC (.int 13)))))) (bD (aK 4 (e2 lB (af 4) (eC (.int 1000000007)))) (bA (e2 lB (e2 E5 (e2 lB (e2 a8 (e2 fA (af 4) (af 4)) (e2 fA (eC (.int 48271)) (af 1))) (eC (.int 1000000007))) (eC (.int 7))) (af 2))))))
def ay:List DV->M DV:=eS ["cell","k","many","some","stir"] (qx)
def uY:DS->M Out:=(bA (oG (MT "int" (af 0)) (Cc (MT "bool" (af 0)))))
def gE:List DV->M DV:=eS ["found"] (uY)
def jz(K:Oe):DS->M Out:=(bD (aK 1 (aN (aw 2 (aA K)) (aa (af 0) (aa (eC (.int 0)) ai)))) (bA (br (aa (e2 a8 (eC (.int 3)) (aN (aw 3 (ay)) (aa (af 1) (aa (eC (.int 1)) (aa (e2 bK (bX (aa (eC (.int 4)) (aa (eC (.int 4)) (aa (eC (.int 4)) (aa (eC (.int 11)) ai))))) (aN (aw 3 (ay)) (aa (af 1) (aa (eC (.int 2)) (aa (eC (.int 4)) ai))))) ai))))) (aa (e2 a8 (eC (.int 1)) (aN (aw 3 (ay)) (aa (af 1) (aa (eC (.int 3)) (aa (eC (.int 4)) ai))))) ai)))))
def du(K:Oe):List DV->M DV:=eS ["script","cell"] (jz K)
def jT:DS->M Out:=(bD (aK 2 (bX ai)) (bD (cT (iO (af 0)) (au 3) (gJ (j4 (λδ=>bd (e2 g8 (ju (af 2) (af 3)) (eC (.int 2)) δ) bQ) (λδ=>bd (e2 g8 (aN cB (aa (af 2) ai)) (af 1) δ) bQ)) (lD 2 (af 3)) ck)) (bA (aN vj (aa (af 2) ai)))))
def cA:List DV->M DV:=eS ["tiles","limit","found","tile"] (jT)
def jW(K:Oe):DS->M Out:=(bD (aK 5 (bX ai)) (bD (cT (rR (aa (eC (.int 3)) ai)) (au 6) (bD (aK 7 (aN (aw 2 (aA K)) (aa (af 0) (aa (e2 a8 (af 1) (af 6)) ai)))) (bD (CA (og 2 (dF (au 8) (dF (au 9) pA))) (br (aa (e2 a8 (eC (.int 1)) (aN (aw 3 (ay)) (aa (af 7) (aa (eC (.int 1)) (aa (af 2) ai))))) (aa (aN (aw 3 (ay)) (aa (af 7) (aa (eC (.int 2)) (aa (af 3) ai)))) ai)))) (bD (aK 10 (e2 a8 (eC (.int 2)) (aN (aw 3 (ay)) (aa (af 7) (aa (eC (.int 3)) (aa (eC (.int 4)) ai)))))) (bD (gJ (λδ=>bd (e2 (jD e!) (aN (aw 3 (ay)) (aa (af 7) (aa (eC (.int 4)) (aa (eC (.int 2)) ai)))) (eC (.int 0)) δ) bQ) (aK 5 (e2 a8 (af 5) (aW 1 [9] (nM (aa (af 8) (aa (e2 a8 (aN wA (aa (af 2) (aa (e2 gSub (e2 a8 (af 8) (af 10)) (eC (.int 1))) ai))) (eC (.int 1))) ai))) (au 0) bW (br (aa (af 0) (aa (af 1) ai)))))) (aK 5 (e2 a8 (af 5) (aW 1 [8,7] (rR (aa (af 3) ai)) (au 0) (λδ=>bd (e2 xp (aN (aw 3 (ay)) (aa (af 2) (aa (e2 a8 (eC (.int 10)) (af 0)) (aa (eC (.int 4)) ai)))) (eC (.int 0)) δ) bQ) (br (aa (af 1) (aa (af 0) ai))))))) (gJ (λδ=>bd (e2 (jD e!) (aN (aw 3 (ay)) (aa (af 7) (aa (eC (.int 5)) (aa (eC (.int 3)) ai)))) (eC (.int 0)) δ) bQ) (lD 5 (br (aa (e2 a8 (eC (.int 1)) (aN (aw 3 (ay)) (aa (af 7) (aa (eC (.int 6)) (aa (af 2) ai))))) (aa (aN (aw 3 (ay)) (aa (af 7) (aa (eC (.int 7)) (aa (af 3) ai)))) ai)))) ck)))))) (bD (gJ (λδ=>bd (e2 (jD e!) (aN cB (aa (af 5) ai)) (eC (.int 0)) δ) bQ) (aK 5 (bX (aa (br (aa (eC (.int 1)) (aa (eC (.int 0)) ai))) ai))) ck) (bD (gJ (λδ=>bd (e2 (jD e!) (e2 lB (aN (aw 2 (aA K)) (aa (af 0) (aa (e2 a8 (af 1) (eC (.int 3))) ai))) (eC (.int 9))) (eC (.int 7)) δ) bQ) (bA (bX ai)) ck) (λδ=>(bA (aN (aw 2 (cA)) (aa (af 5) (aa (e2 a8 (eC (.int 1)) (e2 lB (aN (aw 2 (aA K)) (aa (af 0) (aa (e2 a8 (af 1) (eC (.int 3))) ai))) (af 4))) ai)))) (frz 5 δ))))))
def dP(K:Oe):List DV->M DV:=eS ["script","start","most","colours","limit","tiles","k","cell","number","colour","size"] (jW K)
def DG(a b:Bool):(if a=d! then rt (DV.d (.bool b))else rt (DV.d (.bool e!)))=rt (.d (.bool (a&&b))):=by cases a <;>rfl
def Af(a b:Bool):(if a=d! then rt b else rt e!)=(rt (a&&b):M Bool):=by cases a <;>rfl
def CG(a b:Bool):(if a=d! then rt d! else rt b)=(rt (a||b):M Bool):=by cases a <;>rfl
def DU(a b:Bool):(if a=d! then rt (DV.d (.bool d!))else rt (DV.d (.bool b)))=rt (.d (.bool (a||b))):=by cases a <;>rfl
local macro_rules|`(tactic| walk_at "py")=>`(tactic| simp only[eS,oE,bD,aK,bA,gJ,ck,CA,oK,JF,af,eC,e2,aa,ai,br,bX,aN,aw,L3.args_nil,yX,pP,qC,qg,n6,uM,nX,Option.map_some,aD,Eu,uH,aP,yC,yW,xU,yt,uU,uA,DO,vm,ux,yA,yz,u7,qO,rg,Al,hJ,j4,Fg,oG,Np,Cc,BR,iy,List.map_cons,List.map_nil,List.length_cons,List.length_nil,List.replicate,List.cons_append,List.nil_append,List.append_nil,List.getElem?_cons_zero,List.getElem?_cons_succ,List.set_cons_zero,List.set_cons_succ,Option.join_some,Nat.reduceAdd,Nat.reduceSub,Nat.reduceLeDiff,Nat.reduceEqDiff,if_true,if_false,ite_true,ite_false,Bool.not_true,Bool.not_false,Bool.false_eq_true,Nat.zero_add,AN,pJ,ES,pN,pH,wy,uz,u4,c7,qX,cz,uj,tZ,jq,jo,fx,nE,DG,Af,CG,DU])
def bw(ns:List Int)(k:Int):Int:=if k<(ns.length:Int)then(atI ns k).getD 0 else 0
variable{i:Int}
def DY{α:Type}{xs:List α}(h0:0<=i)(h1:i<(xs.length:Int)):∃x,atI xs i=a! x:=by unfold atI HE;rw[é h0,é h1];exact⟨xs[i.toNat]'0x1,0x4⟩
def DF(K:Oe)(ns:List Int):vI K [.scr K ns]=rt (.d (.int ns.length)):=by unfold vI;exact é rfl
def HF(K:Oe)(ns:List Int)(i:Int):Di K (.scr K ns) (.d (.int i))=bd (op (atI ns i)) λn=>rt (.d (.int n)):=by unfold Di;exact é rfl
def CD(K:Oe)(ns:List Int)(k:Int)(h:0<=k):aA K [.scr K ns,.d (.int k)]=rt (.d (.int (bw ns k))):=by
 unfold aA j7 bw;walk_at "py";rw[DF];walk_at "py";by_cases hk:k<(ns.length:Int)
 ·obtain⟨x,hx⟩:=DY h hk;rw[Oz hk,HF,hx,é hk];walk_at "py";rfl
 ·rw[Oy hk,è hk];walk_at "py"
def JX(h0:0<=i)(h1:i<13):∃x:Int,atI ([.int 48271,.int 69621,.int 16807,.int 39373,.int 30269,.int 40014,.int 40692,.int 50021,.int 61687,.int 71993,.int 83869,.int 95561,.int 30307]:List D) i=a! (.int x)/\0<x/\x<100000:=by
 obtain⟨n,rfl⟩:=X2 h0;have hn:n<13:=by lia
 match n,hn with
 |0,_|1,_|2,_|3,_|4,_|5,_|6,_|7,_|8,_|9,_|10,_|11,_|12,_=>exact⟨_,rfl,0x3,0x3⟩
variable{xs:List D}{x:D}
def Aa(h:atI xs i=a! x):bK (.own xs) (.d (.int i))=rt (.d x):=by unfold bK;simp only[h,aP,aD]
def pE(h:atI xs i=a! x):bK (.new xs) (.d (.int i))=rt (.d x):=by unfold bK;simp only[h,aP,aD]
def aL(h:atI xs i=a! x):bK (.d (.tuple xs)) (.d (.int i))=rt (.d x):=by unfold bK;simp only[h,aP,aD]
def lq(h:atI xs i=a! x):bK (.d (.list xs)) (.d (.int i))=rt (.d x):=by unfold bK;simp only[h,aP,aD]
variable{j:Int}
def ur(h:0<=i)(h':i<18446744073709551616):uR i j=d!:=by unfold uR;have a:g! (-(2 ^ 64)<i)=d!:=Oz 0x1;have b:g! (i<2 ^ 64)=d!:=Oz 0x1;rw[a,b];rfl
def Jt(h:0<=j)(h':j<18446744073709551616):uR i j=d!:=by unfold uR;have a:g! (-(2 ^ 64)<j)=d!:=Oz 0x1;have b:g! (j<2 ^ 64)=d!:=Oz 0x1;rw[a,b,Bool.and_true,Bool.or_true]
def vQ(cell k many:Int)(hm:0<many):∃r,ay [.d (.int cell),.d (.int k),.d (.int many)]=rt (.d (.int r))/\0<=r/\r<many:=by
 unfold ay qx;walk_at "py";rw[gg 0x3,gg 0x3,vZ 0x3 0x3];obtain⟨x,hx,x0,x1⟩:=JX (YI k (by decide:(13:Int)≠0)) (Yb k (by decide:(0:Int)<13));walk_at "py";rw[Aa hx];walk_at "py";rw[eM (Jt 0x1 0x1),eM (ur 0x3 0x3),eM (ur 0x3 0x3)];walk_at "py";rw[gg 0x3];walk_at "py";generalize hs:((cell % 2147483647+12345)*x+977*k+7919*(k / 13)) % 1000000007=st;have s0:0<=st:=by rw[<-hs];exact YI _ 0x3
 have s1:st<1000000007:=by rw[<-hs];exact Yb _ 0x3
 rw[eM (ur s0 0x1),eM (ur 0x3 0x3)];walk_at "py";rw[gg 0x3];walk_at "py";rw[vZ 0x3 0x3];walk_at "py";rw[gg hm];walk_at "py";exact⟨_,rfl,YI _ 0x1,Yb _ hm⟩
def FP(K:Oe)(ns:List Int):∃m c,du K [.scr K ns]=rt (.d (.tuple [.int m,.int c]))/\3<=m/\m<=13/\1<=c/\c<=4:=by
 unfold du jz;walk_at "py";rw[CD K ns 0 0x3];walk_at "py";obtain⟨r1,h1,a1,b1⟩:=vQ (bw ns 0) 2 4 0x3;rw[h1];walk_at "py";have hx:∃x:Int,atI ([.int 4,.int 4,.int 4,.int 11]:List D) r1=a! (.int x)/\4<=x/\x<=11:=by
  obtain⟨n,rfl⟩:=X2 a1;have hn:n<4:=by lia
  match n,hn with
  |0,_|1,_|2,_|3,_=>exact⟨_,rfl,0x3,0x3⟩
 obtain⟨x,hx,x4,RM⟩:=hx;rw[pE hx];walk_at "py";obtain⟨r2,h2,a2,b2⟩:=vQ (bw ns 0) 1 x 0x1;obtain⟨r3,h3,a3,b3⟩:=vQ (bw ns 0) 3 4 0x3;rw[h2,h3];walk_at "py";exact⟨_,_,rfl,0x1,0x1,0x1,0x1⟩
noncomputable def pr(p:Int×Int):D:=.tuple [.int p.1,.int p.2]
def ot(p q:Int×Int):i? (pr p) (pr q)=g! (p=q):=by obtain⟨a,b⟩:=p;obtain⟨c,d⟩:=q;show G? ([a,b].map r?) ([c,d].map r?)=_;rw[qh];simp
def yq{p q:Int×Int}(h:pr p=pr q):p=q:=by have:=ot p q;rw[h,ot]at this;simpa using this.symm
def le(p q:Int×Int):Bool:=!(ll [q.1,q.2] [p.1,p.2])
def Ld(p q:Int×Int):cD e! (pr p) (pr q)=a! (le p q):=by
 obtain⟨a,b⟩:=p;obtain⟨c,d⟩:=q;show cL e! [.int a,.int b] [.int c,.int d]=a! (!(HT.lexLt [c,d] [a,b]));unfold cL;have e1:i? (.int a) (.int c)=(a==c):=rfl;have e2:i? (.int b) (.int d)=(b==d):=rfl;rw[e1,HT.lexLt_cons,HT.lexLt_cons];by_cases h:a=c
 ·subst h;rw[é (beq_self_eq_true a),é rfl];unfold cL;rw[e2];by_cases h':b=d
  ·subst h';rw[é (beq_self_eq_true b),é rfl];rfl
  ·rw[è (by simpa using h'),è (XR h')];show a! (g! (b<=d))=_;congr 1;by_cases hb:b<=d
   ·simp[hb]
   ·simp[hb];lia
 ·rw[è (by simpa using h),è (XR h)];show a! (g! (a<=c))=_;congr 1;by_cases hb:a<=c
  ·simp[hb]
  ·simp[hb];lia
def Hc(p q:Int×Int):iA (.d (pr p)) (.d (pr q))=rt (.d (.bool (le p q))):=by have h:iA (.d (pr p)) (.d (pr q))=gC e! (.d (pr p)) (.d (pr q)):=rfl;rw[h];show(if(pr p).depth<=60 then bd (op (cD e! (pr p) (pr q))) (λk=>rt (DV.d (.bool k)))else b!)=_;rw[é (show(pr p).depth<=60 from(by decide:1<=60)),Ld];rfl
theorem wu{fe:DS->M DV}{δ:DS}{g:D->D}:∀{xs:List D},(∀d∈xs,fe (δ.set 0 (a! (.d d)))=rt (.d (g d)))->cF (au 0) bW fe δ xs=a! (xs.map g)
 |[],_=>rfl
 |d::r,h=>by have h1:=h d N2;have ih:=wu (xs:=r) λe he=>h e (N1 _ he);unfold cF;simp only[au,bW,rt];rw[h1,ih];rfl
def nJ{bs:List Bool}:su [.new (bs.map X0)]=rt (.d (.bool (bs.all id))):=by unfold su;simp only[pH,aP,aD,BM]
noncomputable def bt(m c:Int)(p:Int×Int):Bool:=g! (1<=p.1)&&g! (p.1<=m)&&(g! (0<=p.2)&&g! (p.2<c))
noncomputable def hs(C:c!)(m c:Int):DV:=.ob C [("most",.int m),("colours",.int c)]
def kX(C:c!)(m c:Int):Ea C "most" (hs C m c)=rt (.d (.int m)):=by show(if C=C then bd (op (XM ("most" : w?) [(("most" : w?),r? m),("colours",.int c)])) λd=>rt (DV.d d)else b!)=_;rw[é rfl,y!];simp only[beq_self_eq_true];rfl
def jg(C:c!)(m c:Int):Ea C "colours" (hs C m c)=rt (.d (.int c)):=by
 show(if C=C then bd (op (XM ("colours" : w?) [(("most" : w?),r? m),("colours",.int c)])) λd=>rt (DV.d d)else b!)=_;rw[é rfl,y!];have h:(("colours" : w?) == "most")=e!:=by decide +kernel
 rw[h];simp only[y!,beq_self_eq_true];rfl
def F9(C:c!)(m c:Int)(r:List DV):args (hs C m c::r)=(args r).map (hs C m c::·):=pP _ _ _
def Ec(C:c!)(m c:Int)(p:Int×Int):b9 C [hs C m c,.d (pr p)]=rt (.d (.bool (bt m c p))):=by unfold b9 tq;walk_at "py";have g0:bK (.d (pr p)) (.d (.int 0))=rt (.d (.int p.1)):=aL rfl;have g1:bK (.d (pr p)) (.d (.int 1))=rt (.d (.int p.2)):=aL rfl;rw[g0,g1,kX,jg];walk_at "py";rfl
def gZ(ps:List (Int×Int)):Bool:=(m? (ps.length-1)).all λk=>le (ps.getD k (0,0)) (ps.getD (k+1) (0,0))
variable{k:Nat}
def qS{α:Type}{xs:List α}(h:k<xs.length)(d:α):atI xs (k:Int)=a! (xs.getD k d):=by unfold atI HE;rw[é 0x1,é 0x1];simp[h]
variable{ps:List (Int×Int)}
def Eg(h:k<ps.length):atI (ps.map pr) (k:Int)=a! (pr (ps.getD k (0,0))):=by rw[AH,qS h (0,0)];rfl
variable{d:D}
def DL{lo:Int}{n:Nat}(h:d∈dc lo n):∃i:Nat,i<n/\d=.int (lo+(i:Int)):=by unfold dc at h;obtain⟨i,hi,e⟩:=Oh.mp h;exact⟨i,Oj.mp hi,e.symm⟩
def yy(ps:List (Int×Int)):cF (au 0) bW (e2 iA (e2 bK (af 1) (e2 gSub (af 0) (eC (.int 1)))) (e2 bK (af 1) (af 0))) (cX 1 [0] [a! (.d (.list (ps.map pr)))]) (dc 1 ((ps.length:Int)-1).toNat)=a! (((m? (ps.length-1)).map λk=>le (ps.getD k (0,0)) (ps.getD (k+1) (0,0))).map X0):=by
 rw[wu (g:=λd=>match d with|.int i=>.bool (le (ps.getD (i-1).toNat (0,0)) (ps.getD i.toNat (0,0)))|_=>.none)]
 ·have hn:((ps.length:Int)-1).toNat=ps.length-1:=by lia
  rw[hn];unfold dc;rw[A!,A!];congr 1;refine J? λk hk=>?_;show X0 (le (ps.getD (1+(k:Int)-1).toNat (0,0)) (ps.getD (1+(k:Int)).toNat (0,0)))=_;have e1:(1+(k:Int)-1).toNat=k:=by lia
  have e2:(1+(k:Int)).toNat=k+1:=by lia
  rw[e1,e2];rfl
 ·intro d hd;obtain⟨i,hi,rfl⟩:=DL hd;unfold cX;walk_at "py";have RQ:i+1<ps.length:=by lia
  have e1:(1+(i:Int)-1)=(i:Int):=by lia
  have e2:(1+(i:Int))=((i+1:Nat):Int):=by lia
  rw[e1,e2,lq (Eg 0x1),lq (Eg RQ)];walk_at "py";rw[Hc];have e3:((i+1:Nat):Int)-1=(i:Int):=by lia
  simp only[e3,WW]
def iD(ps:List (Int×Int)):cB [.d (.list (ps.map pr))]=rt (.d (.int (ps.length:Int))):=by show rt (DV.d (.int ((ps.map pr).length:Int)))=_;rw[e?]
variable{δ:DS}
def iz{fr:DS->M (List DV)}(h:fr δ=rt [.d (.int i),.d (.int j)])(hi:-1000<=i)(Pz:i<=1000)(hj:-1000<=j)(PQ:j<=1000):nM fr δ=rt (dc i (j-i).toNat):=by unfold nM;rw[h];exact é ⟨0x1,0x1,0x1,0x1⟩
def ir{fr:DS->M (List DV)}(h:fr δ=rt [.d (.int j)])(hj:-1000<=j)(PQ:j<=1000):rR fr δ=rt (dc 0 j.toNat):=by unfold rR;rw[h];exact é ⟨0x1,0x1⟩
def bp{js:List Nat}{fi:DS->M (List D)}{sf:D->DS->Option DS}{gc:DS->M Bool}{fe:DS->M DV}{ys:List D}(h1:fi δ=rt xs)(h2:xs.length<=1000000)(h3:cF sf gc fe (cX k js δ) xs=a! ys):aW k js fi sf gc fe δ=rt (.new ys):=by unfold aW;rw[h1,aD,é h2,h3];rfl
def Hn(ps:List (Int×Int))(hl:ps.length<=1000):bB [.d (.list (ps.map pr))]=rt (.d (.bool (gZ ps))):=by unfold bB iw;walk_at "py";rw[bp (iz (i:=1) (j:=(ps.length:Int)) (by walk_at "py";rw[iD];walk_at "py") 0x1 0x1 0x1 0x1) (by rw[eB];lia) (yy ps)];walk_at "py";rw[nJ];walk_at "py";unfold gZ;rw[X8];rfl
theorem dg{α:Type}{f:α->D}{fe:DS->M DV}{δ:DS}{g:α->D}:∀{as:List α},(∀a∈as,fe (δ.set 0 (a! (.d (f a))))=rt (.d (g a)))->cF (au 0) bW fe δ (as.map f)=a! (as.map g)
 |[],_=>rfl
 |a::r,h=>by have h1:=h a N2;have ih:=dg (as:=r) λe he=>h e (N1 _ he);rw[f?,f?];unfold cF;simp only[au,bW,rt];rw[h1,ih];rfl
def ow(ps:List (Int×Int))(p:Int×Int):Int:=(((ps.map pr).countP λz=>i? z (pr p):Nat):Int)
def qN(ps:List (Int×Int))(p:Int×Int):tV (.d (.list (ps.map pr))) (.d (pr p))=rt (.d (.int (ow ps p))):=by unfold tV ow;exact é (show(pr p).depth<=60 from(by decide:1<=60))
def qv(ps:List (Int×Int))(p:Int×Int):tV (.own (ps.map pr)) (.d (pr p))=rt (.d (.int (ow ps p))):=by unfold tV ow;exact é (show(pr p).depth<=60 from(by decide:1<=60))
def tok(m c:Int)(ps:List (Int×Int))(p:Int×Int):Bool:=bt m c p&&g! (ow ps p<=2)
def Bf(C:c!)(m c j:Int)(ps:List (Int×Int)):
  cF (au 0) bW (oG (aN (aw 2 (b9 C)) (aa (af 1) (aa (af 0) ai))) (e2 iA (ju (af 2) (af 0)) (eC (.int 2)))) (cX 1 [0,1] [a! (hs C m c),a! (.d (.list (ps.map pr))),a! (.d (.int j))]) (ps.map pr)=a! ((ps.map (tok m c ps)).map X0):=by rw[A!];refine dg λp hp=>?_;unfold cX;walk_at "py";unfold ju;walk_at "py";simp only[F9];walk_at "py";rw[Ec,qN];walk_at "py";rfl
noncomputable def jok(j:Int):Bool:=g! (0<=j)&&g! (j<=2)
def nZ(m c:Int)(ps:List (Int×Int))(j:Int):Bool:=g! (ps.length<=12)&&jok j&&(ps.map (tok m c ps)).all id&&gZ ps
def fq{f:DS->M DV}(h:f δ=rt (.d (.list xs))):iO f δ=rt xs:=by unfold iO;rw[h];rfl
def ED(y z:DV)(x:D)(fo:List DV->M DV)(b:Bool)(h:fo [.d x]=rt (.d (.bool b))):bd (bd (rt (Out.nx [a! y,a! (.d x),a! z])) (My (bA (aN (aw 1 fo) (aa (af 1) ai))))) BB=rt (.d (.bool b)):=by walk_at "py";rw[h];walk_at "py"
def Jc(C:c!)(m c j:Int)(ps:List (Int×Int))(hl:ps.length<=1000):iF C [hs C m c,.d (.list (ps.map pr)),.d (.int j)]=rt (.d (.bool (nZ m c ps j))):=by
 have ho:=Hn ps hl;unfold iF sF;generalize bB=fo at ho ⊢;walk_at "py";rw[iD];walk_at "py";have ej:(g! (0<=j)&&g! (j<=2))=jok j:=rfl;have el:(g! ((12:Int)<(ps.length:Int)))=!g! (ps.length<=12):=by
  by_cases h:ps.length<=12
  ·rw[Oz h,Oy 0x1];rfl
  ·rw[Oy h,Oz 0x1];rfl
 rw[ej,el];unfold nZ;cases TF:g! (ps.length<=12)with
 |false=>
  simp only[Ze,Bool.true_or,if_true,YO];walk_at "py"
 |true=>
  cases hj:jok j with
  |false=>
   simp only[Xj,Ze,μ,if_true,YQ,YO];walk_at "py"
  |true=>
   simp only[Xj,μ,o?,if_false,ē];walk_at "py";rw[bp (fq rfl) (by rw[e?];lia) (Bf C m c j ps)];walk_at "py";rw[nJ];walk_at "py";cases ha:(ps.map (tok m c ps)).all id with
   |false=>
    simp only[Ze,if_true,YO];walk_at "py"
   |true=>
    simp only[Xj,o?,if_false,ē];exact ED _ _ _ _ _ ho
theorem yn:∀{l:List D},(∀x∈l,∃p,pr p=x)->∃qs:List (Int×Int),l=qs.map pr
 |[],_=>⟨[],rfl⟩
 |x::r,h=>by obtain⟨p,hp⟩:=h x N2;obtain⟨qs,hq⟩:=yn (l:=r) λy hy=>h y (N1 _ hy);exact⟨p::qs,by rw[f?,hp,hq]⟩
def FR(ps:List (Int×Int)):∃qs:List (Int×Int),xo (ps.map pr)=qs.map pr/\qs.length=ps.length:=by
 obtain⟨qs,hq⟩:=yn (l:=xo (ps.map pr)) λx hx=>by obtain⟨p,_,e⟩:=Oh.mp ((dU _).mem_iff.mp hx);exact⟨p,e⟩
 refine⟨qs,hq,?_⟩;have:=(dU (ps.map pr)).length_eq;rwa[hq,e?,e?]at this
def Cr(ps:List (Int×Int)):(ps.map pr).all (λy=>(kT y).isSome&&g! ((kO y).length≠0))=d!:=by rw[X8,XY];intro p _;rfl
def GN{x:DV}(hx:jJ x=a! (ps.map pr))(hl:ps.length<64):vj [x]=rt (.new (xo (ps.map pr))):=by unfold vj;simp only[hx,aP,aD];exact é ⟨by rwa[e?],Cr ps⟩
def HM(h:L3.Ord (ps.map pr)):gZ ps=d!:=by
 unfold L3.Ord at h;rw[B!,V!]at h;unfold gZ;rw[XY];intro k hk;have hk:=Oj.mp hk;have:=h k (k+1) 0x1 0x1 0x1;unfold le;have e1:ps.getD k (0,0)=ps[k]'0x1:=by simp[show k<ps.length by lia]
 have e2:ps.getD (k+1) (0,0)=ps[k+1]'0x1:=by simp[show k+1<ps.length by lia]
 rw[e1,e2];have Uq:ll [(ps[k+1]'0x1).1,(ps[k+1]'0x1).2] [(ps[k]'0x1).1,(ps[k]'0x1).2]=e!:=this;rw[Uq];rfl
section
variable{F G:DS->M Out}{f fa fb fc:DS->M DV}{fr:DS->M (List DV)}{gc:DS->M Bool}{g:DV->DV->M DV}{δ δ':DS}{x y z:DV}{k:Bool}
def cy(h:F δ=rt (.nx δ')):bD F G δ=G δ':=by unfold bD;rw[h];rfl
def tJ(h:F δ=rt (.rt x)):bD F G δ=rt (.rt x):=by unfold bD;rw[h];rfl
def ni(h:gc δ=rt k):gJ gc F G δ=if k=d! then F δ else G δ:=by unfold gJ;rw[h];rfl
def jt{i:Nat}(h:f δ=rt x)(ha:uE x=a! y):aK i f δ=rt (.nx (δ.set i (a! y))):=by unfold aK;rw[h,aD,ha];rfl
def bC(h:f δ=rt x):bA f δ=rt (.rt x):=by unfold bA;rw[h];rfl
def av(h1:fa δ=rt x)(h2:fb δ=rt y):e2 g fa fb δ=g x y:=by unfold e2;rw[h1,aD,h2];rfl
def a9(h1:fa δ=rt x):aa fa ai δ=rt [x]:=by unfold aa;rw[h1];rfl
def bS(h1:fa δ=rt x)(h2:fb δ=rt y):aa fa (aa fb ai) δ=rt [x,y]:=by have:=a9 h2;unfold aa at this ⊢;rw[h1,aD,this];rfl
def gY(h1:fa δ=rt x)(h2:fb δ=rt y)(h3:fc δ=rt z):aa fa (aa fb (aa fc ai)) δ=rt [x,y,z]:=by have:=bS h2 h3;unfold aa at this ⊢;rw[h1,aD,this];rfl
def cg{G:List DV->M DV}{xs:List DV}(h:fr δ=rt xs):aN G fr δ=G xs:=by unfold aN;rw[h];rfl
def aY{n:Nat}{fm:List DV->M DV}{xs ys:List DV}(h:fr δ=rt xs)(ha:args xs=a! ys)(hn:ys.length=n)(hm:fm ys=rt x):aN (aw n fm) fr δ=rt x:=by rw[cg h];unfold aw;rw[ha,aP,aD,é hn,hm];rfl
def kq{a b:D}(h1:fa δ=rt (.d a))(h2:fb δ=rt (.d b)):br (aa fa (aa fb ai)) δ=rt (.d (.tuple [a,b])):=by unfold br;rw[bS h1 h2];rfl
def bj{b:Bool}(h:f δ=rt (.d (.bool b))):(λδ=>bd (f δ) bQ) δ=rt b:=by show bd (f δ) bQ=_;rw[h];rfl
def JS{ga gb:DS->M Bool}{a b:Bool}(h1:ga δ=rt a)(h2:gb δ=rt b):j4 ga gb δ=rt (a&&b):=by unfold j4;rw[h1,aD,h2,Af]
def vf{ga:DS->M Bool}{a:Bool}(h1:ga δ=rt a):hJ ga δ=rt (!a):=by unfold hJ;rw[h1,aD]
def vY{cell k many:Int}(h1:fa δ=rt (.d (.int cell)))(h2:fb δ=rt (.d (.int k)))(h3:fc δ=rt (.d (.int many)))(hm:0<many):∃r,aN (aw 3 ay) (aa fa (aa fb (aa fc ai))) δ=rt (.d (.int r))/\0<=r/\r<many:=by obtain⟨r,h,h0,hr⟩:=vQ cell k many hm;exact⟨r,aY (gY h1 h2 h3) rfl rfl h,h0,hr⟩
def vw{K:Oe}{ns:List Int}{k:Int}(h1:fa δ=rt (.scr K ns))(h2:fb δ=rt (.d (.int k)))(hk:0<=k):aN (aw 2 (aA K)) (aa fa (aa fb ai)) δ=rt (.d (.int (bw ns k))):=aY (bS h1 h2) rfl rfl (CD K ns k hk)
def yM{i:Nat}(hi:δ[i]?=a! (a! (.own xs)))(h:f δ=rt x)(hd:yo x=a! d)(hl:xs.length<1000000):lD i f δ=rt (.nx (δ.set i (a! (.own (xs++[d]))))):=by unfold lD;rw[hi];simp only;rw[h,aD,hd,aP,aD,é hl]
def xP{ys:List D}(h0:yf x y=b!)(hx:jJ x=a! xs)(hy:jJ y=a! ys)(hl:xs.length+ys.length<=1000000):a8 x y=rt (.new (xs++ys)):=by unfold a8 BW;rw[h0];unfold EO;rw[hx,hy];exact é hl
end
def qL(ps:List (Int×Int)):cB [.own (ps.map pr)]=rt (.d (.int (ps.length:Int))):=by show rt (DV.d (.int ((ps.map pr).length:Int)))=_;rw[e?]
def k6(a b:Int):jD e! (.d (.int a)) (.d (.int b))=rt (.d (.bool (a==b))):=rfl
def tB:DS->M Out:=gJ (j4 (λδ=>bd (e2 g8 (ju (af 2) (af 3)) (eC (.int 2)) δ) bQ) (λδ=>bd (e2 g8 (aN cB (aa (af 2) ai)) (af 1) δ) bQ)) (lD 2 (af 3)) ck
def rB{fo fe:DS->M DV}{x y:DV}(h1:fo δ=rt x)(hx:jJ x=a! xs)(h2:fe δ=rt y):ju fo fe δ=tV x y:=by unfold ju;rw[h1,aD,hx,aP,aD,h2,aD]
def hB(K:Oe):DS->M Out:=(bD (aK 7 (aN (aw 2 (aA K)) (aa (af 0) (aa (e2 a8 (af 1) (af 6)) ai)))) (bD (CA (og 2 (dF (au 8) (dF (au 9) pA))) (br (aa (e2 a8 (eC (.int 1)) (aN (aw 3 (ay)) (aa (af 7) (aa (eC (.int 1)) (aa (af 2) ai))))) (aa (aN (aw 3 (ay)) (aa (af 7) (aa (eC (.int 2)) (aa (af 3) ai)))) ai)))) (bD (aK 10 (e2 a8 (eC (.int 2)) (aN (aw 3 (ay)) (aa (af 7) (aa (eC (.int 3)) (aa (eC (.int 4)) ai)))))) (bD (gJ (λδ=>bd (e2 (jD e!) (aN (aw 3 (ay)) (aa (af 7) (aa (eC (.int 4)) (aa (eC (.int 2)) ai)))) (eC (.int 0)) δ) bQ) (aK 5 (e2 a8 (af 5) (aW 1 [9] (nM (aa (af 8) (aa (e2 a8 (aN wA (aa (af 2) (aa (e2 gSub (e2 a8 (af 8) (af 10)) (eC (.int 1))) ai))) (eC (.int 1))) ai))) (au 0) bW (br (aa (af 0) (aa (af 1) ai)))))) (aK 5 (e2 a8 (af 5) (aW 1 [8,7] (rR (aa (af 3) ai)) (au 0) (λδ=>bd (e2 xp (aN (aw 3 (ay)) (aa (af 2) (aa (e2 a8 (eC (.int 10)) (af 0)) (aa (eC (.int 4)) ai)))) (eC (.int 0)) δ) bQ) (br (aa (af 1) (aa (af 0) ai))))))) (gJ (λδ=>bd (e2 (jD e!) (aN (aw 3 (ay)) (aa (af 7) (aa (eC (.int 5)) (aa (eC (.int 3)) ai)))) (eC (.int 0)) δ) bQ) (lD 5 (br (aa (e2 a8 (eC (.int 1)) (aN (aw 3 (ay)) (aa (af 7) (aa (eC (.int 6)) (aa (af 2) ai))))) (aa (aN (aw 3 (ay)) (aa (af 7) (aa (eC (.int 7)) (aa (af 3) ai)))) ai)))) ck)))))
section
variable(K:Oe)(ns:List Int)(m c st lim:Int)
def hδ(ts:List (Int×Int))(x6 x7 x8 x9 OW:Option DV):DS:=[a! (.scr K ns),a! (.d (.int st)),a! (.d (.int m)),a! (.d (.int c)),a! (.d (.int lim)),a! (.own (ts.map pr)),x6,x7,x8,x9,OW]
theorem fL{α:Type}{f:α->D}{gc:DS->M Bool}{fe:DS->M DV}{δ:DS}{b:α->Bool}{g:α->D}:∀{as:List α},(∀a∈as,gc (δ.set 0 (a! (.d (f a))))=rt (b a)/\fe (δ.set 0 (a! (.d (f a))))=rt (.d (g a)))->cF (au 0) gc fe δ (as.map f)=a! ((as.filter b).map g)
 |[],_=>rfl
 |a::r,h=>by
  obtain⟨h1,h2⟩:=h a N2;have ih:=fL (as:=r) λe he=>h e (N1 _ he);rw[f?];unfold cF;simp only[au];rw[h1];cases hb:b a with
  |false=>
   rwa[List.filter_cons_of_neg (by simp[hb])]
  |true=>
   rw[List.filter_cons_of_pos hb];simp only[rt];rw[h2,ih];rfl
def Ct{sf:D->DS->Option DS}{f:DS->M DV}{δ':DS}{x:DV}(h:f δ=rt x)(hd:yo x=a! d)(hs:sf d δ=a! δ'):CA sf f δ=rt (.nx δ'):=by unfold CA;rw[h,aD,hd,aP,aD,hs];rfl
variable{m c}
end
def HJ(fs:List (Int×Int))(p z:Int×Int):ow (fs++[p]) z=ow fs z+(if p=z then 1 else 0):=by unfold ow;rw[y?,List.countP_append];simp only[f?,Xi,List.countP_cons,List.countP_nil,ot];by_cases h:p=z <;>simp[h]
def xN(T:Option DV)(lim:Int)(fs:List (Int×Int))(p:Int×Int)(hl:fs.length<=1000):
  ∃Rw:List (Int×Int),tB [T,a! (.d (.int lim)),a! (.own (fs.map pr)),a! (.d (pr p))]=rt (.nx [T,a! (.d (.int lim)),a! (.own (Rw.map pr)),a! (.d (pr p))])/\((Rw=fs)\/(Rw=fs++[p]/\ow fs p<2/\(fs.length:Int)<lim)):=by
 have c1:ju (af 2) (af 3) [T,a! (.d (.int lim)),a! (.own (fs.map pr)),a! (.d (pr p))]=rt (.d (.int (ow fs p))):=(rB rfl rfl rfl).trans (qv fs p);have c2:aN cB (aa (af 2) ai) [T,a! (.d (.int lim)),a! (.own (fs.map pr)),a! (.d (pr p))]=rt (.d (.int (fs.length:Int))):=(cg (a9 rfl)).trans (qL fs);have t1:(j4 (λδ=>bd (e2 g8 (ju (af 2) (af 3)) (eC (.int 2)) δ) bQ) (λδ=>bd (e2 g8 (aN cB (aa (af 2) ai)) (af 1) δ) bQ)) [T,a! (.d (.int lim)),a! (.own (fs.map pr)),a! (.d (pr p))]=rt (g! (ow fs p<2)&&g! ((fs.length:Int)<lim)):=by exact JS (bj ((av (y:=.d (.int 2)) c1 rfl).trans (fx _ _))) (bj ((av (y:=.d (.int lim)) c2 rfl).trans (fx _ _)))
 unfold tB;rw[ni t1];by_cases h:(g! (ow fs p<2)&&g! ((fs.length:Int)<lim))=d!
 ·rw[é h];refine⟨fs++[p],?_,.inr ⟨rfl,?_⟩⟩
  ·rw[yM (xs:=fs.map pr) (x:=.d (pr p)) (d:=pr p) rfl rfl rfl (by rw[e?];lia)];rw[y?];rfl
  ·rw[k?]at h;exact⟨of_decide_eq_true h.1,of_decide_eq_true h.2⟩
 ·rw[è h];exact⟨fs,rfl,.inl rfl⟩
set_option tactic.hygienic true in
theorem qB(P:Int×Int->Prop)(T:Option DV)(lim:Int)(h1:0<=lim)(h2:lim<=900):∀(qs fs:List (Int×Int))(x:Option DV),(fs.length:Int)<=lim->(∀p∈fs,P p)->(∀p∈qs,P p)->(∀p,ow fs p<=2) ->
  ∃(Rw:List (Int×Int))(x':Option DV),dG (au 3) tB (qs.map pr) [T,a! (.d (.int lim)),a! (.own (fs.map pr)),x]=rt (.nx [T,a! (.d (.int lim)),a! (.own (Rw.map pr)),x'])/\(Rw.length:Int)<=lim/\(∀p∈Rw,P p)/\(∀p,ow Rw p<=2)
 |[],fs,x,hf,hP,_,hC=>⟨fs,x,rfl,hf,hP,hC⟩
 |p::qs,fs,x,hf,hP,hQ,hC=>by
  obtain⟨U4,e1,h⟩:=xN T lim fs p 0x1;have hf1:(U4.length:Int)<=lim:=by
   obtain h|⟨h,_,h'⟩:=h
   ·rwa[h]
   ·rw[h,l!,Yc];lia
  have hP1:∀p∈U4,P p:=by
   obtain h|⟨h,_,h'⟩:=h
   ·rwa[h]
   ·rw[h];intro z hz;obtain hz|hz:=Og.mp hz
    ·exact hP z hz
    ·rw[Oi.mp hz];exact hQ p N2
  have hC1:∀p,ow U4 p<=2:=by
   obtain h|⟨h,hc,h'⟩:=h
   ·rwa[h]
   ·rw[h];intro z;rw[HJ];split
    ·rename_i hz;rw[<-hz];lia
    ·have:=hC z;lia
  obtain⟨fs2,x2,e2,Qx⟩:=qB P T lim h1 h2 qs U4 (a! (.d (pr p))) hf1 hP1 (λz hz=>hQ z (N1 _ hz)) hC1;refine⟨fs2,x2,?_,Qx⟩;rw[f?];unfold dG;have hs:au 3 (pr p) [T,a! (.d (.int lim)),a! (.own (fs.map pr)),x]=a! [T,a! (.d (.int lim)),a! (.own (fs.map pr)),a! (.d (pr p))]:=rfl;rw[hs,aP,aD,e1,aD,ma];exact e2
def G7(P:Int×Int->Prop)(ps:List (Int×Int))(hps:∀p∈ps,P p)(lim:Int)(h1:0<=lim)(h2:lim<=12):∃qs:List (Int×Int),cA [.d (.list (ps.map pr)),.d (.int lim)]=rt (.new (qs.map pr))/\(qs.length:Int)<=lim/\(∀p∈qs,P p)/\(∀p,ow qs p<=2)/\gZ qs=d!:=by
 obtain⟨fs,x,e,hf,hP,hC⟩:=qB P (a! (.d (.list (ps.map pr)))) lim h1 0x1 ps [] b! (by simpa using h1) 0x4 hps (λp=>by show(0:Int)<=2;decide);obtain⟨qs,hq,hl⟩:=FR fs;have RZ:(qs.map pr).Perm (fs.map pr):=by rw[<-hq];exact dU _
 refine⟨qs,?_,0x1,λp hp=>?_,λp=>?_,?_⟩
 rotate_left
 ·obtain⟨z,hz,e⟩:=Oh.mp (RZ.mem_iff.mp (Xq hp));rw[<-yq e];exact hP z hz
 ·have:ow qs p=ow fs p:=by unfold ow;rw[RZ.countP_eq]
  rw[this];exact hC p
 ·exact HM (by rw[<-hq];exact nB _)
 unfold cA jT eS;have s1:aK 2 (bX ai) [a! (.d (.list (ps.map pr))),a! (.d (.int lim)),b!,b!]=rt (.nx [a! (.d (.list (ps.map pr))),a! (.d (.int lim)),a! (.own []),b!]):=rfl;have s2:cT (iO (af 0)) (au 3) tB [a! (.d (.list (ps.map pr))),a! (.d (.int lim)),a! (.own []),b!]=rt (.nx [a! (.d (.list (ps.map pr))),a! (.d (.int lim)),a! (.own (fs.map pr)),x]):=by unfold cT;rwa[fq (xs:=ps.map pr) rfl,aD]
 have s3:bA (aN vj (aa (af 2) ai)) [a! (.d (.list (ps.map pr))),a! (.d (.int lim)),a! (.own (fs.map pr)),x]=rt (.rt (.new (qs.map pr))):=by refine bC ((cg (a9 (x:=.own (fs.map pr)) rfl)).trans ?_);rw[GN (ps:=fs) rfl 0x1,hq]
 have hd:oE ["tiles","limit","found","tile"] [.d (.list (ps.map pr)),.d (.int lim)]=[a! (.d (.list (ps.map pr))),a! (.d (.int lim)),b!,b!]:=rfl;rw[hd,show(gJ (j4 (λδ=>bd (e2 g8 (ju (af 2) (af 3)) (eC (.int 2)) δ) bQ) (λδ=>bd (e2 g8 (aN cB (aa (af 2) ai)) (af 1) δ) bQ)) (lD 2 (af 3)) ck)=tB from rfl];rw[cy s1,cy s2,s3];rfl
section
variable(K:Oe)(ns:List Int)(m c st lim:Int)
def BJ(δ:DS)(o_ hi col:Int)(h0:0<=o_)(h1:o_<=20)(h2:hi<=20)(h3:-5<=hi)(hd:δ[9]?=a! (a! (.d (.int col)))){fi:DS->M (List DV)}(hf:fi δ=rt [.d (.int o_),.d (.int hi)]):
  ∃qs:List (Int×Int),aW 1 [9] (nM fi) (au 0) bW (br (aa (af 0) (aa (af 1) ai))) δ=rt (.new (qs.map pr))/\qs.length<=20/\(∀p∈qs,p.2=col/\o_<=p.1/\p.1<hi):=by
 refine⟨(m? (hi-o_).toNat).map λ(k:Nat)=>(o_+(k:Int),col),?_,by simp;lia,λp hp=>?_⟩
 rotate_left
 ·obtain⟨k,hk,rfl⟩:=Oh.mp hp;have:=Oj.mp hk;exact⟨rfl,by show o_<=o_+(k:Int);lia,by show o_+(k:Int)<hi;lia⟩
 refine bp (iz hf 0x1 0x1 0x1 0x1) (by rw[eB];lia) ?_;unfold dc cX;rw[A!];refine dg λk hk=>?_;have e:([9].map λj=>(δ[j]?).join)=[a! (.d (.int col))]:=by simp only[f?,Xi,hd,ŉ]
 rw[e];exact kq rfl rfl
def BQ(δ:DS)(o_ cell:Int)(h1:c<=10)(h0:0<=c)(hd8:δ[8]?=a! (a! (.d (.int o_))))(hd7:δ[7]?=a! (a! (.d (.int cell)))){fi:DS->M (List DV)}(hf:fi δ=rt [.d (.int c)]):
  ∃qs:List (Int×Int),aW 1 [8,7] (rR fi) (au 0) (λδ=>bd (e2 xp (aN (aw 3 (ay)) (aa (af 2) (aa (e2 a8 (eC (.int 10)) (af 0)) (aa (eC (.int 4)) ai)))) (eC (.int 0)) δ) bQ) (br (aa (af 1) (aa (af 0) ai))) δ=rt (.new (qs.map pr))/\qs.length<=20/\(∀p∈qs,p.1=o_/\0<=p.2/\p.2<c):=by
 have Uv:∀k:Int,∃r,ay [.d (.int cell),.d (.int k),.d (.int 4)]=rt (.d (.int r)):=λk=>let⟨r,h,_⟩:=vQ cell k 4 0x3;⟨r,h⟩
 let mx:Int->Int:=λk=>(Uv k).choose
 have hmx:∀k,ay [.d (.int cell),.d (.int k),.d (.int 4)]=rt (.d (.int (mx k))):=λk=>(Uv k).choose_spec;refine⟨((m? c.toNat).filter λ(k:Nat)=>g! (0<mx (10+(0+(k:Int))))).map λ(k:Nat)=>(o_,0+(k:Int)),?_,?_,λp hp=>?_⟩
 ·refine bp (ir hf 0x1 0x1) (by rw[eB];lia) ?_;unfold dc cX;have e:([8,7].map λj=>(δ[j]?).join)=[a! (.d (.int o_)),a! (.d (.int cell))]:=by simp only[f?,Xi,hd8,hd7,ŉ]
  rw[e,A!];refine fL λk hk=>⟨?_,kq rfl rfl⟩;exact bj ((av (y:=.d (.int 0)) (aY (gY (y:=.d (.int (10+(0+(k:Int))))) rfl ((av (x:=.d (.int 10)) (y:=.d (.int (0+(k:Int)))) rfl rfl).trans (c7 _ _)) rfl) rfl rfl (hmx (10+(0+(k:Int))))) rfl).trans (jq _ _))
 ·rw[e?];have:=YX (λ(k:Nat)=>g! (0<mx (10+(0+(k:Int))))) (m? c.toNat);rw[XN]at this;lia
 ·obtain⟨k,hk,rfl⟩:=Oh.mp hp;have:=Oj.mp (Ol.mp hk).1;exact⟨rfl,by show(0:Int)<=0+(k:Int);lia,by show 0+(k:Int)<c;lia⟩
variable{m c}
def AS(hm:1<=m)(QZ:m<=13)(hc:1<=c)(Pj:c<=4)(k cell o_ col size:Int)(hcol:0<=col)(hcol':col<c)(hn:1<=o_)(RK:o_<=m)(hs:2<=size)(QK:size<=5)(ts:List (Int×Int))(hl:ts.length<=500)(hP:∀p∈ts,bt m c p=d!):
  ∃Pp:List (Int×Int),gJ (λδ=>bd (e2 (jD e!) (aN (aw 3 (ay)) (aa (af 7) (aa (eC (.int 4)) (aa (eC (.int 2)) ai)))) (eC (.int 0)) δ) bQ) (aK 5 (e2 a8 (af 5) (aW 1 [9] (nM (aa (af 8) (aa (e2 a8 (aN wA (aa (af 2) (aa (e2 L3.gSub (e2 a8 (af 8) (af 10)) (eC (.int 1))) ai))) (eC (.int 1))) ai))) (au 0) bW (br (aa (af 0) (aa (af 1) ai)))))) (aK 5 (e2 a8 (af 5) (aW 1 [8,7] (rR (aa (af 3) ai)) (au 0) (λδ=>bd (e2 xp (aN (aw 3 (ay)) (aa (af 2) (aa (e2 a8 (eC (.int 10)) (af 0)) (aa (eC (.int 4)) ai)))) (eC (.int 0)) δ) bQ) (br (aa (af 1) (aa (af 0) ai))))))
   (hδ K ns m c st lim ts (a! (.d (.int k))) (a! (.d (.int cell))) (a! (.d (.int o_))) (a! (.d (.int col))) (a! (.d (.int size))))=rt (.nx (hδ K ns m c st lim Pp (a! (.d (.int k))) (a! (.d (.int cell))) (a! (.d (.int o_))) (a! (.d (.int col))) (a! (.d (.int size)))))/\Pp.length<=ts.length+20/\(∀p∈Pp,bt m c p=d!):=by
 obtain⟨r,hr,_⟩:=vY (δ:=hδ K ns m c st lim ts (a! (.d (.int k))) (a! (.d (.int cell))) (a! (.d (.int o_))) (a! (.d (.int col))) (a! (.d (.int size)))) (fa:=af 7) (fb:=eC (.int 4)) (fc:=eC (.int 2)) (cell:=cell) (k:=4) (many:=2) rfl rfl rfl 0x3;rw[ni (bj ((av (y:=.d (.int 0)) hr rfl).trans (k6 _ _)))];have fin:∀(qs:List (Int×Int))(f:DS->M DV),f (hδ K ns m c st lim ts (a! (.d (.int k))) (a! (.d (.int cell))) (a! (.d (.int o_))) (a! (.d (.int col))) (a! (.d (.int size))))=rt (.new (qs.map pr))->qs.length<=20 ->
   aK 5 (e2 a8 (af 5) f) (hδ K ns m c st lim ts (a! (.d (.int k))) (a! (.d (.int cell))) (a! (.d (.int o_))) (a! (.d (.int col))) (a! (.d (.int size))))=rt (.nx (hδ K ns m c st lim (ts++qs) (a! (.d (.int k))) (a! (.d (.int cell))) (a! (.d (.int o_))) (a! (.d (.int col))) (a! (.d (.int size))))):=λqs f h hq=>by rw[jt (x:=.new (ts.map pr++qs.map pr)) (y:=.own (ts.map pr++qs.map pr)) ((av (x:=.own (ts.map pr)) (y:=.new (qs.map pr)) rfl h).trans (xP (xs:=ts.map pr) (ys:=qs.map pr) rfl rfl rfl (by simp;lia))) rfl];unfold hδ;rw[y?];rfl
 by_cases h:(r==0)=d!
 ·rw[é h];obtain⟨qs,hq,WU,VF⟩:=BJ (hδ K ns m c st lim ts (a! (.d (.int k))) (a! (.d (.int cell))) (a! (.d (.int o_))) (a! (.d (.int col))) (a! (.d (.int size)))) o_ ((if o_+size-1<m then o_+size-1 else m)+1) col 0x1 0x1 (by split <;>lia) (by split <;>lia) rfl
   (fi:=aa (af 8) (aa (e2 a8 (aN wA (aa (af 2) (aa (e2 L3.gSub (e2 a8 (af 8) (af 10)) (eC (.int 1))) ai))) (eC (.int 1))) ai)) (bS rfl (av (x:=.d (.int (if o_+size-1<m then o_+size-1 else m))) (y:=.d (.int 1)) (cg (bS (x:=.d (.int m)) (y:=.d (.int (o_+size-1))) rfl (av (x:=.d (.int (o_+size))) (y:=.d (.int 1)) (av (x:=.d (.int o_)) (y:=.d (.int size)) rfl rfl) rfl))) rfl))
  refine⟨ts++qs,fin qs _ hq WU,by simp;lia,λp hp=>?_⟩;obtain hp|hp:=Og.mp hp
  ·exact hP p hp
  ·obtain⟨e1,e2,e3⟩:=VF p hp;have hmin:(if o_+size-1<m then o_+size-1 else m)<=m:=by split <;>lia
   unfold bt;simp;lia
 ·rw[è h];obtain⟨qs,hq,WU,VF⟩:=BQ c (hδ K ns m c st lim ts (a! (.d (.int k))) (a! (.d (.int cell))) (a! (.d (.int o_))) (a! (.d (.int col))) (a! (.d (.int size)))) o_ cell 0x1 0x1 rfl rfl (fi:=aa (af 3) ai) (a9 rfl);refine⟨ts++qs,fin qs _ hq WU,by simp;lia,λp hp=>?_⟩;obtain hp|hp:=Og.mp hp
  ·exact hP p hp
  ·obtain⟨e1,e2,e3⟩:=VF p hp;unfold bt;simp;lia
def BE(hm:1<=m)(QZ:m<=13)(hc:1<=c)(Pj:c<=4)(k cell:Int)(y8 y9 Pl:Option DV)(ts:List (Int×Int))(hl:ts.length<=900)(hP:∀p∈ts,bt m c p=d!):
  ∃Pp:List (Int×Int),gJ (λδ=>bd (e2 (jD e!) (aN (aw 3 (ay)) (aa (af 7) (aa (eC (.int 5)) (aa (eC (.int 3)) ai)))) (eC (.int 0)) δ) bQ) (lD 5 (br (aa (e2 a8 (eC (.int 1)) (aN (aw 3 (ay)) (aa (af 7) (aa (eC (.int 6)) (aa (af 2) ai))))) (aa (aN (aw 3 (ay)) (aa (af 7) (aa (eC (.int 7)) (aa (af 3) ai)))) ai)))) ck
   (hδ K ns m c st lim ts (a! (.d (.int k))) (a! (.d (.int cell))) y8 y9 Pl)=rt (.nx (hδ K ns m c st lim Pp (a! (.d (.int k))) (a! (.d (.int cell))) y8 y9 Pl))/\Pp.length<=ts.length+1/\(∀p∈Pp,bt m c p=d!):=by
 obtain⟨r,hr,_⟩:=vY (δ:=hδ K ns m c st lim ts (a! (.d (.int k))) (a! (.d (.int cell))) y8 y9 Pl) (fa:=af 7) (fb:=eC (.int 5)) (fc:=eC (.int 3)) (cell:=cell) (k:=5) (many:=3) rfl rfl rfl 0x3;obtain⟨r6,h6,a6,b6⟩:=vY (δ:=hδ K ns m c st lim ts (a! (.d (.int k))) (a! (.d (.int cell))) y8 y9 Pl) (fa:=af 7) (fb:=eC (.int 6)) (fc:=af 2) (cell:=cell) (k:=6) (many:=m) rfl rfl rfl 0x1;obtain⟨r7,h7,a7,b7⟩:=vY (δ:=hδ K ns m c st lim ts (a! (.d (.int k))) (a! (.d (.int cell))) y8 y9 Pl) (fa:=af 7) (fb:=eC (.int 7)) (fc:=af 3) (cell:=cell) (k:=7) (many:=c) rfl rfl rfl 0x1;rw[ni (bj ((av (y:=.d (.int 0)) hr rfl).trans (k6 _ _)))];by_cases h:(r==0)=d!
 ·rw[é h];refine⟨ts++[(1+r6,r7)],?_,0x4,λp hp=>?_⟩
  rotate_left
  ·obtain hp|hp:=Og.mp hp
   ·exact hP p hp
   ·rw[Oi.mp hp];unfold bt;simp;lia
  rw[yM (xs:=ts.map pr) (x:=.d (pr (1+r6,r7))) (d:=pr (1+r6,r7)) rfl (kq ((av (x:=.d (.int 1)) (y:=.d (.int r6)) rfl h6).trans (c7 _ _)) h7) rfl (by rw[e?];lia)];unfold hδ;rw[y?];rfl
 ·rw[è h];exact⟨ts,rfl,0x1,hP⟩
def yE(hm:1<=m)(QZ:m<=13)(hc:1<=c)(Pj:c<=4)(k:Int)(hk:0<=k)(h0:0<=st)(ts:List (Int×Int))(hl:ts.length<=500)(hP:∀p∈ts,bt m c p=d!)(x7 x8 x9 OW:Option DV):
  ∃(Pp:List (Int×Int))(y7 y8 y9 Pl:Option DV),hB K (hδ K ns m c st lim ts (a! (.d (.int k))) x7 x8 x9 OW)=rt (.nx (hδ K ns m c st lim Pp (a! (.d (.int k))) y7 y8 y9 Pl))/\Pp.length<=ts.length+21/\(∀p∈Pp,bt m c p=d!):=by
 have s7:aK 7 (aN (aw 2 (aA K)) (aa (af 0) (aa (e2 a8 (af 1) (af 6)) ai))) (hδ K ns m c st lim ts (a! (.d (.int k))) x7 x8 x9 OW)=rt (.nx (hδ K ns m c st lim ts (a! (.d (.int k))) (a! (.d (.int (bw ns (st+k))))) x8 x9 OW)):=
  jt (y:=.d (.int (bw ns (st+k)))) (vw rfl ((av (x:=.d (.int st)) (y:=.d (.int k)) rfl rfl).trans (c7 _ _)) 0x1) rfl
 generalize bw ns (st+k)=cell at s7;obtain⟨r1,h1,a1,b1⟩:=vY (δ:=hδ K ns m c st lim ts (a! (.d (.int k))) (a! (.d (.int cell))) x8 x9 OW) (fa:=af 7) (fb:=eC (.int 1)) (fc:=af 2) (cell:=cell) (k:=1) (many:=m) rfl rfl rfl 0x1;obtain⟨r2,h2,a2,b2⟩:=vY (δ:=hδ K ns m c st lim ts (a! (.d (.int k))) (a! (.d (.int cell))) x8 x9 OW) (fa:=af 7) (fb:=eC (.int 2)) (fc:=af 3) (cell:=cell) (k:=2) (many:=c) rfl rfl rfl 0x1;have s89:CA (og 2 (dF (au 8) (dF (au 9) pA))) (br (aa (e2 a8 (eC (.int 1)) (aN (aw 3 (ay)) (aa (af 7) (aa (eC (.int 1)) (aa (af 2) ai))))) (aa (aN (aw 3 (ay)) (aa (af 7) (aa (eC (.int 2)) (aa (af 3) ai)))) ai)))
   (hδ K ns m c st lim ts (a! (.d (.int k))) (a! (.d (.int cell))) x8 x9 OW)=rt (.nx (hδ K ns m c st lim ts (a! (.d (.int k))) (a! (.d (.int cell))) (a! (.d (.int (1+r1)))) (a! (.d (.int r2))) OW)):=
  Ct (kq ((av (x:=.d (.int 1)) (y:=.d (.int r1)) rfl h1).trans (c7 _ _)) h2) rfl rfl
 obtain⟨r3,h3,a3,b3⟩:=vY (δ:=hδ K ns m c st lim ts (a! (.d (.int k))) (a! (.d (.int cell))) (a! (.d (.int (1+r1)))) (a! (.d (.int r2))) OW) (fa:=af 7) (fb:=eC (.int 3)) (fc:=eC (.int 4)) (cell:=cell) (k:=3) (many:=4) rfl rfl rfl 0x3;have s10:aK 10 (e2 a8 (eC (.int 2)) (aN (aw 3 (ay)) (aa (af 7) (aa (eC (.int 3)) (aa (eC (.int 4)) ai))))) (hδ K ns m c st lim ts (a! (.d (.int k))) (a! (.d (.int cell))) (a! (.d (.int (1+r1)))) (a! (.d (.int r2))) OW)=rt (.nx (hδ K ns m c st lim ts (a! (.d (.int k))) (a! (.d (.int cell))) (a! (.d (.int (1+r1)))) (a! (.d (.int r2))) (a! (.d (.int (2+r3)))))):=
  jt (y:=.d (.int (2+r3))) ((av (x:=.d (.int 2)) (y:=.d (.int r3)) rfl h3).trans (c7 _ _)) rfl
 obtain⟨WJ,s11,l1,P1⟩:=AS K ns st lim hm QZ hc Pj k cell (1+r1) r2 (2+r3) a2 b2 0x1 0x1 0x1 0x1 ts hl hP;obtain⟨VQ,Wn,l2,P2⟩:=BE K ns st lim hm QZ hc Pj k cell (a! (.d (.int (1+r1)))) (a! (.d (.int r2))) (a! (.d (.int (2+r3)))) WJ 0x1 P1;refine⟨VQ,a! (.d (.int cell)),a! (.d (.int (1+r1))),a! (.d (.int r2)),a! (.d (.int (2+r3))),?_,0x1,P2⟩;unfold hB;rw[cy s7,cy s89,cy s10,cy s11];exact Wn
theorem rq(hm:1<=m)(QZ:m<=13)(hc:1<=c)(Pj:c<=4)(PZ:0<=st):∀(ks:List Int)(ts:List (Int×Int))(x6 x7 x8 x9 OW:Option DV),(∀k∈ks,0<=k)->ts.length+21*ks.length<=500->(∀p∈ts,bt m c p=d!) ->
  ∃(Pp:List (Int×Int))(y6 y7 y8 y9 Pl:Option DV),dG (au 6) (hB K) (ks.map r?) (hδ K ns m c st lim ts x6 x7 x8 x9 OW)=rt (.nx (hδ K ns m c st lim Pp y6 y7 y8 y9 Pl))/\Pp.length<=500/\(∀p∈Pp,bt m c p=d!)
 |[],ts,x6,x7,x8,x9,OW,_,hl,hP=>⟨ts,x6,x7,x8,x9,OW,rfl,by simpa using hl,hP⟩
 |k::ks,ts,x6,x7,x8,x9,OW,h0,hl,hP=>by rw[i!]at hl;obtain⟨WJ,y7,y8,y9,Pl,e1,l1,P1⟩:=yE K ns st lim hm QZ hc Pj k (h0 k N2) PZ ts 0x1 hP x7 x8 x9 OW;obtain⟨VQ,z6,z7,z8,z9,z10,e2,l2⟩:=rq hm QZ hc Pj PZ ks WJ (a! (.d (.int k))) y7 y8 y9 Pl (λk' h=>h0 k' (N1 _ h)) 0x1 P1;refine⟨VQ,z6,z7,z8,z9,z10,?_,l2⟩;rw[f?];unfold dG;have hs:au 6 (.int k) (hδ K ns m c st lim ts x6 x7 x8 x9 OW)=a! (hδ K ns m c st lim ts (a! (.d (.int k))) x7 x8 x9 OW):=rfl;rw[hs,aP,aD,e1,aD,ma];exact e2
end
def Bn(K:Oe)(ns:List Int)(m c st lim:Int)(h0:0<=st)(h1:1<=lim)(TF:lim<=12)(ts:List (Int×Int))(hP:∀p∈ts,bt m c p=d!)(y6 y7 y8 y9 Pl:Option DV):
  ∃qs:List (Int×Int),(λδ=>(bA (aN (aw 2 (cA)) (aa (af 5) (aa (e2 a8 (eC (.int 1)) (e2 lB (aN (aw 2 (aA K)) (aa (af 0) (aa (e2 a8 (af 1) (eC (.int 3))) ai))) (af 4))) ai)))) (frz 5 δ)) (hδ K ns m c st lim ts y6 y7 y8 y9 Pl)=rt (.rt (.new (qs.map pr)))/\(qs.length:Int)<=lim/\(∀p∈qs,bt m c p=d!)/\(∀p,ow qs p<=2)/\gZ qs=d!:=by have b0:=YI (bw ns (st+3)) (show lim≠0 by lia);have b1:=Yb (bw ns (st+3)) (show 0<lim by lia);obtain⟨qs,hq,hl⟩:=G7 (λp=>bt m c p=d!) ts hP (1+bw ns (st+3) % lim) 0x1 0x1;refine⟨qs,?_,0x1,hl.2⟩;have hf:frz 5 (hδ K ns m c st lim ts y6 y7 y8 y9 Pl)=[a! (.scr K ns),a! (.d (.int st)),a! (.d (.int m)),a! (.d (.int c)),a! (.d (.int lim)),a! (.d (.list (ts.map pr))),y6,y7,y8,y9,Pl]:=rfl;show bA _ (frz 5 _)=_;rw[hf];refine bC (aY (bS (x:=.d (.list (ts.map pr))) (y:=.d (.int (1+bw ns (st+3) % lim))) rfl ?_) rfl rfl hq);refine(av (x:=.d (.int 1)) (y:=.d (.int (bw ns (st+3) % lim))) rfl ?_).trans (c7 _ _);exact(av (x:=.d (.int (bw ns (st+3)))) (y:=.d (.int lim)) (vw rfl ((av (x:=.d (.int st)) (y:=.d (.int 3)) rfl rfl).trans (c7 _ _)) 0x1) rfl).trans (gg 0x1)
def xO(K:Oe)(ns:List Int)(m c st lim:Int)(h0:0<=st)(h1:1<=lim)(TF:lim<=12)(hm:1<=m)(QZ:m<=13)(hc:1<=c)(Pj:c<=4):
  ∃qs:List (Int×Int),dP K [.scr K ns,.d (.int st),.d (.int m),.d (.int c),.d (.int lim)]=rt (.new (qs.map pr))/\(qs.length:Int)<=lim/\(∀p∈qs,bt m c p=d!)/\(∀p,ow qs p<=2)/\gZ qs=d!:=by
 obtain⟨ts,y6,y7,y8,y9,Pl,hlp,htl,hP⟩:=rq K ns st lim hm QZ hc Pj h0 [0,1,2] [] b! b! b! b! b! 0x3 0x3 0x4;have s1:aK 5 (bX ai) [a! (.scr K ns),a! (.d (.int st)),a! (.d (.int m)),a! (.d (.int c)),a! (.d (.int lim)),b!,b!,b!,b!,b!,b!]=rt (.nx (hδ K ns m c st lim [] b! b! b! b! b!)):=rfl;have s2:cT (rR (aa (eC (.int 3)) ai)) (au 6) (hB K) (hδ K ns m c st lim [] b! b! b! b! b!)=rt (.nx (hδ K ns m c st lim ts y6 y7 y8 y9 Pl)):=by unfold cT;rwa[ir (j:=3) (a9 rfl) 0x3 0x3,aD]
 have f_:aN cB (aa (af 5) ai) (hδ K ns m c st lim ts y6 y7 y8 y9 Pl)=rt (.d (.int (ts.length:Int))):=(cg (a9 (x:=.own (ts.map pr)) rfl)).trans (qL ts);have s3:∃Pp:List (Int×Int),gJ (λδ=>bd (e2 (jD e!) (aN cB (aa (af 5) ai)) (eC (.int 0)) δ) bQ) (aK 5 (bX (aa (br (aa (eC (.int 1)) (aa (eC (.int 0)) ai))) ai))) ck (hδ K ns m c st lim ts y6 y7 y8 y9 Pl)=rt (.nx (hδ K ns m c st lim Pp y6 y7 y8 y9 Pl))/\(∀p∈Pp,bt m c p=d!):=by
  rw[ni (bj ((av (y:=.d (.int 0)) f_ rfl).trans (k6 _ _)))];by_cases h:(((ts.length:Int))==0)=d!
  ·rw[é h];exact⟨[(1,0)],rfl,λp hp=>by rw[Oi.mp hp];unfold bt;simp;lia⟩
  ·rw[è h];exact⟨ts,rfl,hP⟩
 obtain⟨Pp,s3,RI⟩:=s3;have PV:e2 lB (aN (aw 2 (aA K)) (aa (af 0) (aa (e2 a8 (af 1) (eC (.int 3))) ai))) (eC (.int 9)) (hδ K ns m c st lim Pp y6 y7 y8 y9 Pl)=rt (.d (.int (bw ns (st+3) % 9))):=
  (av (x:=.d (.int (bw ns (st+3)))) (y:=.d (.int 9)) (vw rfl ((av (x:=.d (.int st)) (y:=.d (.int 3)) rfl rfl).trans (c7 _ _)) 0x1) rfl).trans (gg 0x3)
 have UT:gJ (λδ=>bd (e2 (jD e!) (e2 lB (aN (aw 2 (aA K)) (aa (af 0) (aa (e2 a8 (af 1) (eC (.int 3))) ai))) (eC (.int 9))) (eC (.int 7)) δ) bQ) (bA (bX ai)) ck (hδ K ns m c st lim Pp y6 y7 y8 y9 Pl)=if(bw ns (st+3) % 9==7)=d! then bA (bX ai) (hδ K ns m c st lim Pp y6 y7 y8 y9 Pl)else ck (hδ K ns m c st lim Pp y6 y7 y8 y9 Pl):=
  ni (bj ((av (y:=.d (.int 7)) (fb:=eC (.int 7)) PV rfl).trans (k6 _ _)))
 obtain⟨qs,he,hl⟩:=Bn K ns m c st lim h0 h1 TF Pp RI y6 y7 y8 y9 Pl;unfold dP eS;have hd:oE ["script","start","most","colours","limit","tiles","k","cell","number","colour","size"] [.scr K ns,.d (.int st),.d (.int m),.d (.int c),.d (.int lim)]=[a! (.scr K ns),a! (.d (.int st)),a! (.d (.int m)),a! (.d (.int c)),a! (.d (.int lim)),b!,b!,b!,b!,b!,b!]:=rfl;rw[hd];have hF:jW K=bD (aK 5 (bX ai)) (bD (cT (rR (aa (eC (.int 3)) ai)) (au 6) (hB K)) (bD (gJ (λδ=>bd (e2 (jD e!) (aN cB (aa (af 5) ai)) (eC (.int 0)) δ) bQ) (aK 5 (bX (aa (br (aa (eC (.int 1)) (aa (eC (.int 0)) ai))) ai))) ck) (bD (gJ (λδ=>bd (e2 (jD e!) (e2 lB (aN (aw 2 (aA K)) (aa (af 0) (aa (e2 a8 (af 1) (eC (.int 3))) ai))) (eC (.int 9))) (eC (.int 7)) δ) bQ) (bA (bX ai)) ck) (λδ=>(bA (aN (aw 2 (cA)) (aa (af 5) (aa (e2 a8 (eC (.int 1)) (e2 lB (aN (aw 2 (aA K)) (aa (af 0) (aa (e2 a8 (af 1) (eC (.int 3))) ai))) (af 4))) ai)))) (frz 5 δ))))):=rfl;rw[hF,cy s1,cy s2,cy s3];by_cases h:(bw ns (st+3) % 9==7)=d!
 ·rw[é h]at UT;refine⟨[],?_,by simp;lia,0x4,λp=>by show(0:Int)<=2;decide,rfl⟩;rw[tJ (UT.trans (bC (x:=.new []) rfl))];rfl
 ·rw[è h]at UT;refine⟨qs,?_,hl⟩;rw[cy (UT.trans (show ck _=rt (.nx _)from rfl))];exact(congrArg (λz=>bd z BB) he).trans rfl
abbrev Tl:=Int×Int
def va(ps:List Tl)(p:Tl):ow ps p=((ps.count p:Nat):Int):=by unfold ow;rw[Α,List.count_eq_countP];congr 1;refine List.countP_congr λq o=>?_;show(i? (pr q) (pr p))=d!↔_;rw[ot];simp
theorem ui(a b:Tl->Int):∀ks:List Tl,(ks.map λp=>a p+b p).sum=(ks.map a).sum+(ks.map b).sum
 |[]=>rfl
 |k::r=>by simp only[f?,Xh];rw[ui a b r];lia
theorem pK(a b:Tl->Int):∀ks:List Tl,(ks.map λp=>a p-b p).sum=(ks.map a).sum-(ks.map b).sum
 |[]=>rfl
 |k::r=>by simp only[f?,Xh];rw[pK a b r];lia
theorem qe(a:Tl->Int):∀ks:List Tl,(∀p∈ks,a p=0)->(ks.map a).sum=0
 |[],_=>rfl
 |k::r,h=>by simp only[f?,Xh];rw[h k N2,qe a r λp hp=>h p (N1 _ hp)];rfl
theorem zj(f:Tl->Int)(x:Tl):∀ks:List Tl,ks.Nodup->x∈ks->(ks.map λp=>(if x=p then f p else 0)).sum=f x
 |[],_,h=>nomatch h
 |k::r,hn,h=>by
  have RK:=Xn.mp hn;simp only[f?,Xh];by_cases hk:x=k
  ·subst hk;rw[é rfl,qe _ r λp hp=>è λ(e:x=p)=>RK.1 (by rwa[e])];lia
  ·rw[è hk,zj f x r RK.2 ((Of.mp h).resolve_left hk)];lia
theorem xS(f:Tl->Int){ks:List Tl}(hn:ks.Nodup):∀L:List Tl,(∀x∈L,x∈ks)->(L.map f).sum=(ks.map λp=>(L.count p:Int)*f p).sum
 |[],_=>(qe _ ks λp o=>0x4).symm
 |x::r,h=>by
  have ih:=xS f hn r λy hy=>h y (N1 _ hy);have h1:=zj f x ks hn (h x N2);simp only[f?,Xh];rw[ih,<-h1,<-ui];congr 1;refine J? λp o=>?_;rw[ſ];by_cases hx:x=p
  ·subst hx;simp;rw[ϲ];lia
  ·have:(x==p)=e!:=by simpa using hx
   rw[è hx,this];simp
variable{ks:List Tl}
def vb(hn:ks.Nodup)(L:List Tl)(h:∀x∈L,x∈ks):(L.length:Int)=(ks.map λp=>(L.count p:Int)).sum:=by
 have:=xS (λo=>1) hn L h;simp only[ϱ]at this;rw[<-this];clear this h
 induction L with
 |nil=>rfl
 |cons x r ih=>simp only[f?,Xh,i!];lia
noncomputable def aq(am be:List Tl):List Tl:=be.foldl (λr t=>r.erase t) am
theorem fN(p:Tl):∀(be am:List Tl),(aq am be).count p=am.count p-be.count p
 |[],am=>by unfold aq;simp
 |t::be,am=>by
  show(aq (am.erase t) be).count p=_;rw[fN p be,List.count_erase,ſ];by_cases h:t=p
  ·subst h;simp;lia
  ·have:(t==p)=e!:=by simpa using h
   rw[this];simp
theorem bZ:∀(be am:List Tl),(aq am be).Sublist am
 |[],am=>Y7 _
 |t::be,am=>(bZ be (am.erase t)).trans List.erase_sublist
noncomputable def iK(am be:List Tl)(p:Tl):Int:=min (be.count p:Int) (am.count p:Int)
def lX(am be ks:List Tl):Int:=(ks.map λp=>iK am be p*p.1).sum
def tN(am be ks:List Tl):Int:=(ks.map λp=>(be.count p:Int)-iK am be p).sum
noncomputable def gi(am be ks:List Tl):List Tl:=ks.flatMap λp=>p? (am.count p-be.count p) p
structure KsOk(am be ks:List Tl):Prop where
 nd:ks.Nodup
 ord:L3.Ord (ks.map pr)
 am:∀x∈am,x∈ks
 be:∀x∈be,x∈ks
def tW(am be:List Tl)(p:Tl):((am.count p-be.count p:Nat):Int)=(am.count p:Int)-iK am be p:=by unfold iK;lia
def L6{am be:List Tl}(K:KsOk am be ks):tN am be ks=(be.length:Int)-((am.length:Int)-((aq am be).length:Int)):=by
 rw[vb K.nd be K.be,vb K.nd am K.am,vb K.nd (aq am be) λx hx=>K.am x ((bZ be am).subset hx)];unfold tN;rw[pK];have:(ks.map λp=>((aq am be).count p:Int))=ks.map λp=>(am.count p:Int)-iK am be p:=J? λp o=>by rw[fN,tW]
 rw[this,pK];lia
def JP{am be:List Tl}(K:KsOk am be ks):lX am be ks=(am.map (·.1)).sum-((aq am be).map (·.1)).sum:=by rw[xS (·.1) K.nd am K.am,xS (·.1) K.nd (aq am be) λx hx=>K.am x ((bZ be am).subset hx)];rw[<-pK];unfold lX;congr 1;refine J? λp o=>?_;rw[fN,tW,Int.sub_mul];lia
end LW
namespace L3
open PySem PySem.Spec L2
open PyProof.Rows hiding St
noncomputable def zg:List Int->Int
 |[]=>0
 |[a]=>a
 |a::r=>min a (zg r)
theorem uT:∀{ns:List Int}{a:Int},a∈ns->zg ns<=a
 |[b],a,h=>by simp at h;subst h;exact X9 _
 |b::c::r,a,h=>by
  show min b (zg (c::r))<=a;obtain e|h:=Of.mp h
  ·subst e;exact Int.min_le_left _ _
  ·exact OF (Int.min_le_right _ _) (uT h)
theorem uG:∀{ns:List Int},ns≠[]->zg ns∈ns
 |[b],_=>N2
 |b::c::r,_=>by
  show min b (zg (c::r))∈b::c::r;obtain h|h:=Int.le_total b (zg (c::r))
  ·rw[Int.min_eq_left h];exact N2
  ·rw[Int.min_eq_right h];exact N1 _ (uG 0x4)
def JY{ns:List Int}{M:Int}(h1:M∈ns)(h2:∀a,a∈ns->M<=a):M=zg ns:=Η (h2 _ (uG (List.ne_nil_of_mem h1))) (uT h1)
def zV(xs:List DV):M DV:=match xs with
 |[x]=>bd (op (jJ x)) λys=>bd (op (oY ys)) λns=>if ns.length>0 then rt (.d (.int (zg ns)))else b!
 |_=>b!
section
variable{X:Cx}{E:XK}
set_option tactic.hygienic true in
def FJ(hc:X.calm=d!):dR X E (.builtin "min") zV:=λa_ s σ O P H₀ H xs vs us r Q I hd hs rx rv e q=>by
 unfold zV at e;split at e
 ·obtain⟨ys,e1,e2⟩:=bz e;obtain⟨ns,e3,e4⟩:=bz e2;split at e4
  ·rename_i hpos;cases e4;cases rx with
   |cons r1 rr=>
    cases rr;obtain⟨a,ws,rfl,ha,l⟩:=r1.list e1;cases rv with
    |cons q1 q2=>
     cases q2;cases q1;have Td:=nP e3;subst Td;obtain⟨D',ri,pl,hz⟩:=I.list (gu.of ha);obtain⟨ps,E_,Su⟩:=gK l ri;have PY:=pl.isList;have hl:s.heap.IsList a (ô ps.toArray):=by
      have:D'.toArray=ô ps.toArray:=by rw[E_];simp[ô]
      rw[<-this];exact PY
     have hsz:0<ps.toArray.size:=by
      have:ps.length=ns.length:=by rw[<-Su,e?]
      simp;lia
     refine min_intList (I.ok.hd hc) hl hsz λv h' tk hv hk=>?_;obtain⟨t,rfl⟩:=intItems_at hv;obtain⟨h1,h2⟩:=argBest_lt (ϸ ps.toArray) (ps.toArray.size-1);have Us:ns=ps.toArray.toList.map (·.1):=by rw[<-Su]
     have hM:ϸ ps.toArray (argBest (λi j=>g! (ϸ ps.toArray i<ϸ ps.toArray j)) (ps.toArray.size-1))=zg ns:=by
      refine JY ?_ λb hb=>?_
      ·rw[Us,numAt_eq];exact getD_mem (by rw[e?,u?];lia)
      ·rw[Us]at hb;obtain⟨j,hj,rfl⟩:=mem_getD hb;rw[e?,u?]at hj;rw[<-numAt_eq];exact h2 j 0x1
     rw[hM];exact⟨.int _,H,I.kept (t':=tk) λb ob eb=>hk b ob eb,⟨_,rfl⟩,q _ H (aE.refl H) (.int _)⟩
  ·cases e4
 ·cases e
end
open Classical in
noncomputable def oJ(P:g?)(w:q?)(C:c!)(x:DV):Option (By×(j!->Option Int)×List j!):=match x with
 |.fz (.tb P' w' C' l f U)=>if P'=P/\w'=w/\C'=C then a! (l,f,U)else b!
 |_=>b!
@[simp] def nt(P:g?)(w:q?)(C:c!)(l:By)(f:j!->Option Int)(U:List j!):oJ P w C (.fz (.tb P w C l f U))=a! (l,f,U):=é ⟨rfl,rfl,rfl⟩
variable{w:q?}{f:j!->Option Int}{U:List j!}
set_option tactic.hygienic true in
def iS{P:g?}{C:c!}{x:DV}{l:By}(h:oJ P w C x=a! (l,f,U)):x=.fz (.tb P w C l f U):=by
 unfold oJ at h;split at h
 ·split at h
  ·rename_i z;obtain⟨rfl,rfl,rfl⟩:=z;cases h;rfl
  ·cases h
 ·cases h
structure HasM(P:g?)(w:q?)(K:Oe)(mg:w?->Option b?)(base:F!)(k:Nat)(C:c!)(m:w?)(n:Nat)(fm:List DV->M DV):Prop where
 ex:∃fn fd ps,FnOk P w K mg base ug k fn fd ps (F8 n fm)/\Meth K C m fn/\gy K fd ps []
 no:∀v u:V,([("by_least",v),("known",u)]:List (w?×V)).lookup m=b!
def Aj{m:w?}(h1:(m==("by_least" : w?))=e!)(h2:(m==("known" : w?))=e!)(v u:V):([("by_least",v),("known",u)]:List (w?×V)).lookup m=b!:=by rw[y!,h1,y!,h2];rfl
def gz(P:g?)(w:q?)(C:c!)(n:Nat)(fm:List DV->M DV)(fo:DS->M DV)(fr:DS->M (List DV))(δ:DS):M DV:=bd (fo δ) λx=>bd (op (oJ P w C x)) λo=>bd (fr δ) λys=>aw n fm (x::ys)
section
variable{X:Cx}{E:XK}{o e f:E!}{es:List E!}{ce h_ M' p1 p2:YU}{fo fe ff:DS->M DV}{fr:DS->M (List DV)}{C:c!}
set_option tactic.hygienic true in
def jv{pl:ý Bool}{k n:Nat}{m:w?}{fm:List DV->M DV}(F:HasM X.prog X.w X.K X.mg X.base k C m n fm)(hr:Room k X.A)(c:Cls X.K C)(ho:PX X E o fo)(ha:wq X E (e::es) fr)(PZ:n! (e::es) X.env=(e!,I! e X.env)::n! es X.env:=by rfl)(OR:(W2 ce (n! es X.env)).any (·.1)=e!:=by rfl)(ht:I! (.Call (.Attribute o m h_) (e::es) [] ce) X.env=(do
   let ov <-I! o X.env
   ò h_.atName
   let(f,first) <-ZX [ov] (Ć ov m pl)
   Ŵ ce f first (W2 ce (n! (e::es) X.env)) (YZ ce (XU [] X.env))):=by rfl):
  PX X E (.Call (.Attribute o m h_) (e::es) [] ce) (gz X.prog X.w C n fm fo fr):=by
 obtain⟨fn,fd,ps,h1,h2,h3⟩:=F.ex;refine PE.mono (FH (E:=E0) ho c h2 h1 hr h3 .nil (λ_ _ _ _ _ _ _ h=>h.elim) ha PZ OR ht) λσ H Q q=>?_;refine lT (g:=λδ x=>bd (op (oJ X.prog X.w C x)) λ_=>bd (fr δ) λys=>aw n fm (x::ys)) q λO P δ x r v H1 rs OK s1 rx e q=>?_;obtain⟨⟨l,f,U⟩,e0,e⟩:=bz e;have hx:=iS e0;subst hx;obtain⟨a,dx,rfl,hz,b,m',ca,hA,QR⟩:=id rx;refine⟨a,dx,_,rfl,hA,F.no _ _,?_⟩;obtain⟨ys,e1,e2⟩|⟨cx,e1,e2⟩:=aB e
 ·refine⟨O,P,δ,.ok ys,OK,e1,λvs H2 s2 ry=>?_⟩;obtain⟨zs,h1,h2⟩:=bz e2;split at h2
  ·rename_i hl;cases hf:fm zs with
   |none=>rw[hf]at h2;cases h2
   |some z=>
    rw[hf]at h2;cases z with
    |error c=>cases h2
    |ok x=>
     cases h2;have Vq:mE O P H1 H2 (.fz (.tb X.prog X.w C l f U)::ys) (.ref a::vs):=.cons (show AG (P++O) H2 _ _ from AG.kp (.same s2) (show AG (P++O) H1 _ _ from rx)) ry;have rz:=mE.am OK.dom s2 Vq h1;refine⟨?_,P++O,zs,x,λa ha=>?_,?_,hf,λv H' s3 rv=>q v H' (s2.trans s3) (rv.back (s1.trans s2))⟩
     ·rw[C!];exact(Xs rz).symm.trans hl
     ·obtain⟨o,e'⟩:=OK.dom a ha;exact⟨o,s2 a o e'⟩
     ·rwa[C!]
  ·cases h2
 ·subst e2;exact⟨O,P,δ,.error cx,OK,e1,q⟩
noncomputable def rN:DV->Option eA
 |.d (.tuple [.int a,.int b])=>a! (a,b)
 |_=>b!
variable{t:eA}
def wH{x:DV}(h:rN x=a! t):x=.d (tD t):=by
 unfold rN at h;split at h
 ·cases h;rfl
 ·cases h
noncomputable def c9(l:By)(t:eA):List (List eA):=((l.find? λx=>g! (x.1=t)).map (·.2)).getD []
noncomputable def qr:DV->Bool
 |.new []=>d!
 |_=>e!
def Gf(P:g?)(w:q?)(C:c!)(fo fe ff:DS->M DV)(δ:DS):M DV:=bd (fo δ) λx=>bd (op (oJ P w C x)) λq=>bd (fe δ) λy=>bd (op (rN y)) λt=>bd (ff δ) λz=>if qr z=d! then rt (.d (.list ((c9 q.1 t).map wD)))else b!
def vi{s:eA}(h:tD s=tD t):s=t:=by
 unfold tD at h
 injection h with h
 injection h with h1 h2
 injection h2 with h2 _
 injection h1 with h1
 injection h2 with h2
 exact Prod.ext h1 h2
def Dp.at{Z:List c!}{H:Hp}{l:By}{ca:List (D×V)}(h:Dp Z H l ca)(t:eA):(i7 ca (tD t)=b!/\c9 l t=[])\/∃v,i7 ca (tD t)=a! v/\Rp Z H (.list ((c9 l t).map wD)) v:=by
 unfold Dp at h
 induction h with
 |nil=>exact .inl ⟨rfl,rfl⟩
 |@cons p q ps qs h t' ih=>
  by_cases e:p.1=t
  ·have e':q.1=tD t:=by rw[h.1,e]
   refine .inr ⟨q.2,by simp[i7,T?,e'],?_⟩;have:c9 (p::ps) t=p.2:=by simp[c9,T?,e]
   rw[this];exact h.2
  ·have e':¬q.1=tD t:=λz=>e (vi (h.1.symm.trans z));have a1:i7 (q::qs) (tD t)=i7 qs (tD t):=by simp[i7,T?,e']
   have a2:c9 (p::ps) t=c9 ps t:=by simp[c9,T?,e]
   rwa[a1,a2]
def RpT.of{Z:List c!}{H:Hp}{v:V}(h:Rp Z H (tD t) v):∃b,v=.ref b/\RpT (tv H) (tD t) (.ref b):=by
 unfold tD at h;cases h with
 |@tup a xs vs hz ha l=>
  refine⟨a,rfl,.tup ha ?_⟩;cases l with
  |cons h1 l=>
   cases l with
   |cons h2 l=>
    cases l;cases h1;cases h2;exact .cons (.int _) (.cons (.int _) .nil)
set_option tactic.hygienic true in
def Fx(hu:X.A.units+20<K?)(c:Cls X.K C)(hn:d9 X.K C "by_least")(ho:PX X E o fo)(he:PX X E e fe)(hf:PX X E f ff)(TJ:O? o "by_least" X.env (I! o X.env)=I! o X.env:=by rfl)(hb2:O? (.Attribute o "by_least" p1) "get" X.env (I! (.Attribute o "by_least" p1) X.env)=I! (.Attribute o "by_least" p1) X.env:=by rfl)(few:((W2 M' (n! [e,f] X.env)).all (λx=>!x.1)&&(YZ M' (XU [] X.env)).all (λx=>x.1.isSome)
   &&g! (([e,f]:List E!).length+([]:List YL).length+(if([]:List YL).isEmpty then 0 else 1)<30))=d!:=by rfl)(Tg:(h_.endLine==M'.line)=d!:=by rfl)(J_:W2 M' (n! [e,f] X.env)=[(e!,I! e X.env),(e!,I! f X.env)]:=by rfl):
  PX X E (.Call (.Attribute (.Attribute o "by_least" p1) "get" h_) [e,f] [] M') (Gf X.prog X.w C fo fe ff):=by
 intro a_ s σ H Q I h;refine ρ hb2 few Tg ÿ Đ PySem.F.type_dict_get (cf (yQ ho TJ a_ s σ H (λv H1=>∃O P δ a dx b m ca l g U r,RS O P H1 σ δ/\aE H H1/\v=.ref b/\AG (P++O) H1 (.tb X.prog X.w C l g U) (.ref a)/\H1 a=a! (.ins C dx [("by_least",.ref b),("known",.ref m)])/\H1 b=a! (dO X.prog X.w b ca)/\Dp (P++O) H1 l ca /\
  (bd (fe δ) λy=>bd (op (rN y)) λt=>bd (ff δ) λz=>if qr z=d! then rt (.d (.list ((c9 l t).map wD)))else b!)=a! r/\Fn E O P H H1 Q r) I ?_) λu s1 zz=>?_)
 ·refine lT (g:=λδ x=>bd (op (oJ X.prog X.w C x)) λq=>bd (fe δ) λy=>bd (op (rN y)) λt=>bd (ff δ) λz=>if qr z=d! then rt (.d (.list ((c9 q.1 t).map wD)))else b!) h λO P δ x r v H1 rs OK s1 rx e q=>?_;obtain⟨⟨l,f,U⟩,e0,e9⟩:=bz e;have hx:=iS e0;subst hx;obtain⟨a,dx,rfl,hz,b,m',ca,hA,hb,eb,hl,hm,em⟩:=id rx;exact⟨a,C,dx,_,.ref b,rfl,hA,c,hn,rfl,O,P,δ,a,dx,b,m',ca,l,f,U,r,OK,s1,rfl,rx,hA,eb,hl,e9,q⟩
 ·obtain⟨v,H1,I1,rv,O,P,δ,a,dx,b,m,ca,l,g,U,r,OK,s1',ev,fz,ea,eb,hl,e1,q1⟩:=zz;subst ev;obtain rfl:u=z? b:=rv;have x:=zR I1.hok eb;refine⟨x.type.1,λb' z=>?_,?_⟩
  ·cases z;exact x.type.2
  rw[J_];refine Zz rfl (Y2 (X4 (cf (he a_ s1 σ H1 (λv H2=>∃t kb r',aE H1 H2/\v=.ref kb/\RpT (tv H2) (tD t) (.ref kb)/\(bd (ff δ) λz=>if qr z=d! then rt (.d (.list ((c9 l t).map wD)))else b!)=a! r'/\Fn E O P H H2 Q r') I1 ?_)
   λiv s2 ⟨y,H2,I2,ry,t,kb,r',s2',ey,hT,e2,q2⟩=>X4 (cf (hf a_ s2 σ H2 (λv H3=>aE H2 H3/\Rp (P++O) H3 (.list []) v/\∀v H4,aE H3 H4->Rp (P++O) H4 (.list ((c9 l t).map wD)) v->Q v H4) I2 ?_) λfv s3 ⟨z,H3,I3,rz,PH,rn,q3⟩=>Zj ?_))))
  ·obtain⟨y,e2,e3⟩|⟨cx,e2,e3⟩:=aB e1
   ·refine⟨O,P,δ,.ok y,OK,e2,λv H2 s2 ry=>?_⟩;obtain⟨t,e4,e5⟩:=bz e3;have hy:=wH e4;subst hy;obtain⟨kb,rfl,hT⟩:=RpT.of (show Rp (P++O) H2 (tD t) v from ry);exact⟨t,kb,r,s2,rfl,hT,e5,q1.on s2⟩
   ·subst e3;exact⟨O,P,δ,.error cx,OK,e2,q1⟩
  ·obtain⟨z,e3,e4⟩|⟨cx,e3,e4⟩:=aB e2
   ·refine⟨O,P,δ,.ok z,OK.same s2',e3,λv H3 s3 rz=>?_⟩;split at e4
    ·rename_i hz;cases e4;have Vp:z=.new []:=by
      unfold qr at hz;split at hz
      ·rfl
      ·cases hz
     subst Vp;exact⟨s3,mM (OK.same s2').dom rz,λv H4 s4 rv=>q2 v H4 (s3.trans s4) rv⟩
    ·cases e4
   ·subst e4;exact⟨O,P,δ,.error cx,OK.same s2',e3,q2⟩
  ·cases ey;obtain rfl:iv=z? kb:=ry;have Vi:=PH _ _ (s2' _ _ eb);have x3:=zR I3.hok Vi;refine IC hu I3 x3 (k:=tD t) rfl (Yw (by decide:1<6)) (RpT.mono (λb xs q=>PH _ _ q) hT) rz λw' s4 I4 Uk=>⟨_,H3,I4,Uk,q3 _ H3 (aE.refl H3) ?_⟩;rcases(hl.kp (.same (s2'.trans PH))).at t with⟨a1,a2⟩|⟨v,a1,a2⟩
   ·rw[a1,a2];exact rn
   ·rwa[a1]
end
def CC{prog:g?}{A:A?}{E:b?->d?->Prop}{s:d?}{env:ĉ}{i_ k_:E!}{ce:YU}{Q:b?->d?->Prop}(hs:kR k_)(h:n? (p! prog w) A (I! i_ env) (λo s₁=>n? (p! prog w) A (I! k_ env) (λi s₂=>s₂.TypeIs o "dict" /\n? (p! prog w) A (Ŗ o i) Q E s₂) E s₁) E s):
  n? (p! prog w) A (I! (.Subscript i_ k_ ce) env) Q E s:=by
 refine ε (Xy h (λo s₁ n_=>Xy n_ (λi s₂ O_=>?_) λq q x=>x) λq q x=>x);obtain⟨hT,O_⟩:=O_;unfold Ļ;refine N7 ?_;rw[getitemInPython_of_ne hT.not_modules];refine N7 (Zf hT PySem.F.slot_dict_getitem.lookup ?_);have fin:n? (p! prog w) A (Ų k_ e! o i) (λr s₃=>n? (p! prog w) A (letTemporaryGo i_ o r >>= λq=>Xo r) Q E s₃) E s₂:=by rw[hs o i];exact wpAny_operating (Xy O_ (λr s₃ Q_=>N7 (wpAny_letTemporaryGo (N8 Q_))) λq q x=>x)
 first
  |exact N8 (N7 fin)
  |exact N7 (N8 (N7 fin))
  |exact N7 fin
structure MS(X:Cx)(i j:Nat)(σ:St)(H:Hp)(m kb:c!)(k:j!):Prop where
 self:∃a C dx b,σ[i]?=a! (a! (.ref a))/\H a=a! (.ins C dx [("by_least",.ref b),("known",.ref m)])/\Cls X.K C/\d9 X.K C "known"
 bv:σ[j]?=a! (a! (.ref kb))
 rp:RpT (tv H) k (.ref kb)
 ki:cJ k=d!
 dp:k.depth<=6
def MS.upd{X:Cx}{i j:Nat}{σ:St}{H:Hp}{m kb:c!}{k:j!}{φ:(c!->List V->Prop)->F!->Prop}{o:HO}(h:MS X i j σ H m kb k)(e:H m=a! (.ext φ)):MS X i j σ (upd H m o) m kb k:=by obtain⟨⟨a,C,dx,b,h1,h2,h3,h4⟩,h5,h6,h7,h8⟩:=h;exact⟨⟨a,C,dx,b,h1,by rwa[aF (IA h2 e (λz=>nomatch z))],h3,h4⟩,h5,h6.mono (vk e),h7,h8⟩
variable{i j:Nat}{σ:St}{H:Hp}{m kb:c!}{k:j!}
def MS.same{X:Cx}{H':Hp}(h:MS X i j σ H m kb k)(s:aE H H'):MS X i j σ H' m kb k:=by obtain⟨⟨a,C,dx,b,h1,h2,h3,h4⟩,h5,h6,h7,h8⟩:=h;exact⟨⟨a,C,dx,b,h1,s _ _ h2,h3,h4⟩,h5,h6.mono λo o q=>s _ _ q,h7,h8⟩
open Classical in
def zi(P:g?)(w:q?)(C:c!)(i j:Nat)(fv:DS->M DV)(δ:DS):M Out:=match δ[i]?,δ[j]? with
 |some (a! x),a! (a! (.d (.tuple ks)))=>bd (op (oJ P w C x)) λq=>bd (op (q.2.1 (.tuple ks))) λn=>if cJ (.tuple ks)=d!/\(PyData.tuple ks).depth<=6/\.tuple ks∈q.2.2/\q.2.2.length<=1000000/\fv δ=a! (.ok (.d (.int n)))then rt (.rt (.d (.int n)))else b!
 |_,_=>b!
section
variable{X:Cx}{E:XK}{o ke i_:E!}{i j:Nat}{p1 p2 p3 p4 p5 p6 p7 p8 p9:YU}{fv:DS->M DV}{C:c!}
def C4(ho:PE X o (hV i))(hb:O? o "known" X.env (I! o X.env)=I! o X.env):PE X (.Attribute o "known" p1) (λσ H Q=>MS X i j σ H m kb k/\Q (.ref m) H):=PE.mono (yQ ho hb) λσ H Q ⟨h,q⟩=>by obtain⟨a,C,dx,b,h1,h2,h3,h4⟩:=h.self;exact⟨.ref a,h1,a,C,dx,_,.ref m,rfl,h2,h3,h4,rfl,q⟩
def N0(P:g?)(w:q?)(f:j!->Option Int)(U:List j!)(k:j!)(m kb:c!):R2:=λx y H Q=>x=.ref kb/\y=.ref m/\H m=a! (mO P w m f U)/\cJ k=d!/\k.depth<=6/\RpT (tv H) k (.ref kb)/\Q (.bl d!) H/\Q (.bl e!) (upd H m (Ed P w m f U k))
def K8(hu:X.A.units+20<K?):ti X (D? .NotIn) (N0 X.prog X.w f U k m kb):=by intro a_ s σ H x y u v Q I rx ry h;obtain⟨rfl,rfl,h1,h2,h3,h4,h5,h6⟩:=h;obtain rfl:u=z? kb:=rx;obtain rfl:v=z? m:=ry;exact GX hu I h1 h2 h3 h4 (λs' I'=>⟨.bl d!,H,I',rfl,h5⟩) λs' I'=>⟨.bl e!,_,I',rfl,h6⟩
def Hq{n:Int}{Vf:TE}(hu:X.A.units+20<K?)(ho:PE X o (hV i))(hk:PE X ke (hV j))(hv:PE X i_ Vf)(hb:O? o "known" X.env (I! o X.env)=I! o X.env)(QW:X_ i_ (a! (.Subscript (.Attribute o "known" p2) ke p3)) p4.line X.env=Xo e!):
  PS X (.Assign [.Subscript (.Attribute o "known" p2) ke p3] i_ p4) (λD σ H=>Vf σ H λv H1=>v=.int n/\MS X i j σ H1 m kb k/\H1 m=a! (mO X.prog X.w m f U)/\f k=a! n/\k∈U/\U.length<=1000000/\D.nx σ (upd H1 m (Ed X.prog X.w m f U k))):=by intro a_ s σ H D I h;refine wpAny_Assign_Subscript (cf (hv a_ s σ H _ I h) λr s1 ⟨v,H1,I1,rv,ev,ms,em,hf,hU,hl,q1⟩=>cf (C4 (m:=m) (kb:=kb) (k:=k) (j:=j) ho hb a_ s1 σ H1 (λv H2=>v=.ref m/\H2=H1) I1 ⟨ms,rfl,rfl⟩) λu s2 ⟨x,H2,I2,rx,ex,eH⟩=>cf (hk a_ s2 σ H2 (λv H3=>v=.ref kb/\H3=H1) I2 ⟨.ref kb,ms.bv,rfl,eH⟩) λiv s3 ⟨y,H3,I3,ry,ey,eH3⟩=>?_) QW;subst ev ex ey eH eH3;obtain rfl:u=z? m:=rx;obtain rfl:iv=z? kb:=ry;exact LJ hu I3 em ms.ki ms.dp ms.rp rv hf hU (Zi hl (by rw[K!];decide)) λs4 I4=>⟨σ,_,I4,q1⟩
def Fm{n:Int}(hu:X.A.units+20<K?)(ho:PE X o (hV i))(hk:PE X ke (hV j))(hb:O? o "known" X.env (I! o X.env)=I! o X.env)(hs:kR ke):
  PE X (.Subscript (.Attribute o "known" p2) ke p3) (λσ H Q=>MS X i j σ H m kb k/\H m=a! (Ed X.prog X.w m f U k)/\f k=a! n/\Q (.int n) (upd H m (mO X.prog X.w m f U))):=by intro a_ s σ H Q I ⟨ms,em,hf,q⟩;refine CC hs (cf (C4 (m:=m) (kb:=kb) (k:=k) (j:=j) ho hb a_ s σ H (λv H2=>v=.ref m/\H2=H) I ⟨ms,rfl,rfl⟩) λu s2 ⟨x,H2,I2,rx,ex,eH⟩=>cf (hk a_ s2 σ H2 (λv H3=>v=.ref kb/\H3=H) I2 ⟨.ref kb,ms.bv,rfl,eH⟩) λiv s3 ⟨y,H3,I3,ry,ey,eH3⟩=>?_);subst ex ey eH eH3;obtain rfl:u=z? m:=rx;obtain rfl:iv=z? kb:=ry;obtain⟨⟨ca,_,_,x⟩,_⟩:=(show b8 X.prog X.w H3 s3.heap m (.ext _)from I3.hok m _ em);refine⟨x.type.1,Lw hu I3 em ms.ki ms.dp ms.rp λi' t s' hi I'=>?_⟩;rw[hf]at hi;cases hi;exact⟨.int n,_,I',⟨t,rfl⟩,q⟩
def JT{Z:List c!}:∀{d:j!}{v:V},cJ d=d!->Rp Z H d v->RpT (tv H) d v:=by
 intro d v h r;refine Rp.rec (motive_1:=λd v o=>cJ d=d!->RpT (tv H) d v) (motive_2:=λds vs o=>fJ ds=d!->RpTL (tv H) ds vs) ?_ ?_ ?_ ?_ ?_ ?_ ?_ ?_ r h
 ·intro h;simp[cJ]at h
 ·intro _ h;simp[cJ]at h
 ·intro i _;exact .int i
 ·intro _ _ h;simp[cJ]at h
 ·intro a xs vs hz ha l ih h;exact .tup ha (ih (by unfold cJ at h;exact h))
 ·intro _ _ _ _ _ _ _ h;simp[cJ]at h
 ·intro _;exact .nil
 ·intro d v ds vs r l WS VL h;unfold fJ at h;rw[k?]at h;exact .cons (WS h.1) (VL h.2)
set_option tactic.hygienic true in
def Ha{o1 o2 o3 k1 k2 k3:E!}(hu:X.A.units+20<K?)(c:Cls X.K C)(hn:d9 X.K C "known")(Ve:PE X o1 (hV i))(Tq:PE X o2 (hV i))(Ts:PE X o3 (hV i))(Q9:PE X k1 (hV j))(Sl:PE X k2 (hV j))(hk3:PE X k3 (hV j))(hv:PX X E i_ fv)(hs:kR k3)(TJ:O? o1 "known" X.env (I! o1 X.env)=I! o1 X.env:=by rfl)(hb2:O? o2 "known" X.env (I! o2 X.env)=I! o2 X.env:=by rfl)(hb3:O? o3 "known" X.env (I! o3 X.env)=I! o3 X.env:=by rfl)(hm:XZ .NotIn (.Attribute o1 "known" p1)=e!:=by first|exact yb _|rfl)(QW:X_ i_ (a! (.Subscript (.Attribute o2 "known" p2) k2 p3)) p4.line X.env=Xo false:=by rfl):
  yU X E [.If (.Compare k1 [.NotIn] [.Attribute o1 "known" p1] p5) [.Assign [.Subscript (.Attribute o2 "known" p2) k2 p3] i_ p4] [] p6,.Return (a! (.Subscript (.Attribute o3 "known" p7) k3 p8)) p9] (zi X.prog X.w C i j fv):=by
 intro a_ s σ H D I h;obtain⟨O,P,δ,r,rs,e,q⟩:=h;unfold zi at e;split at e
 ·rename_i x ks ex ek;obtain⟨⟨l,f,U⟩,e0,e1⟩:=bz e;have hx:=iS e0;subst hx;obtain⟨n,e2,e3⟩:=bz e1;split at e3
  ·rename_i hc;obtain⟨c1,c2,c3,c4,c5⟩:=hc;cases e3;obtain⟨v,ev,_,a,dx,rfl,hz,b,m,ca,hA,Pc,eb,hl,QZ,em⟩:=rs.at' i _ ex;obtain⟨kv,ekv,_,rk⟩:=rs.at' j _ ek;have rT:=JT c1 (show Rp (P++O) H (.tuple ks) kv from rk);obtain⟨kb,rfl⟩:∃kb,kv=.ref kb:=by
    cases rT with
    |tup h l=>exact⟨_,rfl⟩
   have ms:MS X i j σ H m kb (.tuple ks):=⟨⟨a,C,dx,b,ev,hA,c,hn⟩,ekv,rT,c1,c2⟩;have back:∀H2,H2 m=a! (mO X.prog X.w m f U)->upd (upd H2 m (Ed X.prog X.w m f U (.tuple ks))) m (mO X.prog X.w m f U)=H2:=λH2 e=>by
    rw[GA];funext z;unfold upd;split
    ·rename_i hz;rw[hz,e]
    ·rfl
   have fin:∀H2,aE H H2->H2 m=a! (mO X.prog X.w m f U)->L9 (λσ H Q=>MS X i j σ H m kb (.tuple ks)/\H m=a! (Ed X.prog X.w m f U (.tuple ks))/\f (.tuple ks)=a! n/\Q (.int n) (upd H m (mO X.prog X.w m f U))) D σ (upd H2 m (Ed X.prog X.w m f U (.tuple ks))):=λH2 s2 e=>by refine⟨(ms.same s2).upd e,aQ,e2,?_⟩;rw[back H2 e];exact q (.int n) H H2 P .refl s2 rs.dom rs.apart (.int n)
   refine gh (zC (Hj (K8 (f:=f) (U:=U) (k:=.tuple ks) (m:=m) (kb:=kb) hu) Q9 (C4 (m:=m) (kb:=kb) (k:=.tuple ks) (j:=j) Ve TJ) hm) (gf (Hq (f:=f) (U:=U) (n:=n) (k:=.tuple ks) (m:=m) (kb:=kb) hu Tq Sl hv hb2 QW)) pI) (gf (yc (Fm (f:=f) (U:=U) (n:=n) (k:=.tuple ks) (m:=m) (kb:=kb) hu Ts hk3 hb3 hs))) a_ s σ H D I ?_;refine⟨.ref kb,ekv,ms,rfl,rfl,em,c1,c2,rT,⟨d!,rfl,yT ?_⟩,⟨e!,rfl,xH ?_⟩⟩
   ·refine⟨O,P,δ,_,rs,c5,λv H1 s1 rv=>?_⟩;have rv':Rp (P++O) H1 (.int n) v:=rv;cases rv';exact⟨rfl,ms.same s1,s1 _ _ em,e2,c3,c4,fin H1 s1 (s1 _ _ em)⟩
   ·exact fin H (aE.refl H) em
  ·cases e3
 ·cases e
end
noncomputable def jy(l:By)(t:eA):Bool:=l.any λx=>g! (x.1=t)
def fG(l:By)(t:eA)(w:List eA):By:=if jy l t=d! then l.map λx=>if x.1=t then(x.1,x.2++[w])else x else l++[(t,[w])]
def BP(O P:List c!)(H:Hp)(p:eA×List (List eA))(q:D×V):Prop:=q.1=tD p.1/\∃a vs,q.2=.ref a/\a∈P/\H a=a! (.lst vs)/\RpL (P++O) H (p.2.map wD) vs
structure BI(Pr:g?)(w:q?)(O P:List c!)(H:Hp)(b:c!)(l:By)(ca:List (D×V)):Prop where
 mem:b∈P
 at':H b=a! (dO Pr w b ca)
 pr:Yd (BP O P H) l ca
 nd:(ca.map (·.2)).Nodup
 nk:(l.map (·.1)).Nodup
def RS.moved{O P P':List c!}{H':Hp}{δ:DS}(r:RS O P H σ δ)(hd:∀(i:Nat)(x:DV),δ[i]?=a! (a! x)->∃d,x=.d d)(k:Kp P H P' H')(dom:∀a,a∈P'->∃o,H' a=a! o)(ap:∀a,a∈P'->a∉O):RS O P' H' σ δ:=by
 refine⟨r.len,λa ha=>?_,ap,λi x e=>?_,λi j x y v w a e1 e2 e3 e4 o1 o2=>?_⟩
 ·obtain h|h:=Og.mp ha
  ·exact dom a h
  ·obtain⟨o,e⟩:=r.dom a (N4 _ h);exact⟨o,k.keep a o (λz=>r.apart a z h) e⟩
 ·obtain⟨d,rfl⟩:=hd i x e;obtain⟨v,e1,e2,e3⟩:=r.at' i _ e;exact⟨v,e1,e2,Rp.kp k.app (show Rp (P++O) H d v from e3)⟩
 ·obtain⟨d,rfl⟩:=hd i x e1;exact o1.elim
theorem Paired.idx{α β γ:Type}{F:α->β->Prop}{G:γ->β->Prop}{f:α->γ}:∀{l:List α}{m:List β},Yd F l m->(∀(i:Nat) x y,l[i]?=a! x->m[i]?=a! y->F x y->G (f x) y)->Yd G (l.map f) m
 |_,_,.nil,_=>.nil
 |_,_,.cons h t,k=>.cons (k 0 _ _ rfl rfl h) (Paired.idx t λi x y e1 e2 r=>k (i+1) x y (by simpa using e1) (by simpa using e2) r)
theorem Paired.get{α β:Type}{F:α->β->Prop}:∀{l:List α}{m:List β},Yd F l m->∀{i:Nat}{y:β},m[i]?=a! y->∃x,l[i]?=a! x/\F x y
 |_,_,.nil,_,_,h=>by simp at h
 |_,_,.cons h t,0,_,e=>by simp at e;subst e;exact⟨_,rfl,h⟩
 |_,_,.cons h t,i+1,_,e=>by obtain⟨x,e1,e2⟩:=Paired.get t (i:=i) (by simpa using e);exact⟨x,by simpa using e1,e2⟩
def sC{α β:Type}{f:α->β}{l:List α}(h:(l.map f).Nodup){x y:α}(e1:l[i]?=a! x)(e2:l[j]?=a! y)(e:f x=f y):i=j:=by
 have a:(l.map f)[i]?=a! (f x):=by rw[M?,e1];rfl
 have c:(l.map f)[j]?=a! (f y):=by rw[M?,e2];rfl
 exact(List.getElem?_inj (Om.mp a).1 h).mp (a.trans (by rw[e];exact c.symm))
section
variable{Pr:g?}{w:q?}{O P:List c!}{H:Hp}{b a:c!}{l:By}{ca:List (D×V)}{t:eA}{ws:List eA}{u v:V}
def BI.has(h:BI Pr w O P H b l ca)(t:eA):(i7 ca (tD t)).isSome=jy l t:=by
 have hp:=h.pr;clear h
 induction hp with
 |nil=>rfl
 |@cons p q ps qs h r ih=>
  by_cases e:p.1=t
  ·have e':q.1=tD t:=by rw[h.1,e]
   simp[i7,jy,T?,e,e']
  ·have e':¬q.1=tD t:=λz=>e (vi (h.1.symm.trans z));have a1:i7 (q::qs) (tD t)=i7 qs (tD t):=by simp[i7,T?,e']
   have a2:jy (p::ps) t=jy ps t:=by simp[jy,e]
   rwa[a1,a2]
def BI.look(h:BI Pr w O P H b l ca)(hv:i7 ca (tD t)=a! v):∃c vs ts,v=.ref c/\H c=a! (.lst vs)/\c∈P/\(t,ts)∈l/\vs.length=ts.length:=by obtain⟨i0,e0⟩:=R?.mp (pX hv);obtain⟨⟨t',ts⟩,el,eq,c,vs,ec,hc,ha,hl⟩:=Paired.get h.pr e0;have et:t=t':=vi eq;subst et;exact⟨c,vs,ts,ec,ha,hc,Q! el,by rw[<-hl.length];simp⟩
def BI.old(h:BI Pr w O P H b l ca)(hv:i7 ca (tD t)=a! v)(ru:Rp (P++O) H (wD ws) u):
  ∃c vs,v=.ref c/\H c=a! (.lst vs)/\(∃ts,(t,ts)∈l/\vs.length=ts.length)/\Kp P H P (upd H c (.lst (vs++[u])))/\BI Pr w O P (upd H c (.lst (vs++[u]))) b (fG l t ws) ca:=by
 obtain⟨i0,e0⟩:=R?.mp (pX hv);obtain⟨⟨t',ts⟩,el,eq,c,vs,ec,hc,ha,hl⟩:=Paired.get h.pr e0;have et:t=t':=vi eq;subst et;have UQ:b≠c:=λz=>by have:=h.at';rw[z,ha]at this;cases this
 have k:Kp P H P (upd H c (.lst (vs++[u]))):=⟨λd o hd q=>by rwa[aF (show d≠c from λz=>hd (by rw[z];exact hc))],λd hd=>.inl hd⟩;refine⟨c,vs,ec,ha,⟨ts,Q! el,by rw[<-hl.length];simp⟩,k,h.mem,by rw[aF UQ];exact h.at',?_,h.nd,?_⟩
 ·unfold fG;rw[é (by rw[<-h.has,hv];rfl)];refine Paired.idx h.pr λi x y e1 e2 ⟨h1,a,us,h2,h3,h4,h5⟩=>?_;by_cases e:x.1=t
  ·have hi:i=i0:=sC h.nk e1 el e;subst hi;rw[el]at e1;cases e1;rw[e0]at e2;cases e2;rw[é rfl];refine⟨rfl,c,vs++[u],ec,hc,aQ,?_⟩;rw[y?];exact(hl.kp k.app).append (.cons (ru.kp k.app) .nil)
  ·rw[è e];have hac:a≠c:=λz=>by have hi:i=i0:=sC h.nd e2 e0 (by rw[h2,z];exact ec.symm);subst hi;rw[el]at e1;cases e1;exact e rfl
   exact⟨h1,a,us,h2,h3,by rwa[aF hac],h5.kp k.app⟩
 ·have:(fG l t ws).map (·.1)=l.map (·.1):=by unfold fG;rw[é (by rw[<-h.has,hv];rfl),A!];refine J? λx j=>?_;show(if x.1=t then(x.1,x.2++[ws])else x).1=x.1;split <;>rfl
  rw[this];exact h.nk
def BI.ins(h:BI Pr w O P H b l ca)(hv:i7 ca (tD t)=b!)(ha:H a=b!)(dom:∀c,c∈P->∃o,H c=a! o):
  Kp P H (a::P) (upd (upd H a (.lst [])) b (dO Pr w b (ca++[(tD t,.ref a)])))/\BI Pr w O (a::P) (upd (upd H a (.lst [])) b (dO Pr w b (ca++[(tD t,.ref a)]))) b (l++[(t,[])]) (ca++[(tD t,.ref a)]):=by
 have Qm:a≠b:=λz=>by obtain⟨o,e⟩:=dom b h.mem;rw[<-z,ha]at e;cases e
 have kk:∀d o,d≠b->H d=a! o->upd (upd H a (.lst [])) b (dO Pr w b (ca++[(tD t,.ref a)])) d=a! o:=λd o hd e=>by
  have Wx:d≠a:=λz=>by rw[z,ha]at e;cases e
  rwa[aF hd,aF Wx]
 have k:Kp P H (a::P) (upd (upd H a (.lst [])) b (dO Pr w b (ca++[(tD t,.ref a)]))):=⟨λd o hd q=>kk d o (λz=>hd (by rw[z];exact h.mem)) q,λd hd=>by
  obtain z|z:=Of.mp hd
  ·exact .inr (z▸ha)
  ·exact .inl z⟩
 refine⟨k,N1 _ h.mem,aQ,?_,?_,?_⟩
 ·refine Υ (Paired.mapP h.pr λx y ⟨h1,c,us,h2,h3,h4,h5⟩=>⟨h1,c,us,h2,N1 _ h3,kk c _ (λz=>by have:=h.at';rw[<-z,h4]at this;cases this) h4,h5.kp k.app⟩) ?_;exact⟨rfl,a,[],rfl,N2,by rw[aF Qm,aQ],.nil⟩
 ·rw[y?,Í];refine⟨h.nd,0x4,λx hx y hy=>?_⟩;simp only[f?,Xi,W4]at hy;subst hy;obtain⟨q,hq,rfl⟩:=Oh.mp hx;obtain⟨i,ei⟩:=R?.mp hq;obtain⟨p,_,_,c,us,e1,hc,h4,_⟩:=Paired.get h.pr ei;intro z;rw[e1]at z;cases z;rw[ha]at h4;cases h4
 ·rw[y?,Í];refine⟨h.nk,0x4,λx hx y hy=>?_⟩;simp only[f?,Xi,W4]at hy;obtain⟨p,hp,rfl⟩:=Oh.mp hx;intro z;rw[hy]at z;have:jy l t=d!:=Xe.mpr ⟨p,hp,by simpa using z⟩;rw[<-h.has,hv]at this;cases this
def AX(h:jy l t=e!):fG (l++[(t,[])]) t ws=fG l t ws:=by
 unfold fG;have h1:jy (l++[(t,[])]) t=d!:=by unfold jy;rw[List.any_append];simp
 rw[é h1,h,y?];have h2:(l.map λx=>if x.1=t then(x.1,x.2++[ws])else x)=l:=by
  have:∀x∈l,(if x.1=t then(x.1,x.2++[ws])else x)=x:=λx hx=>by rw[if_neg];intro z;have:jy l t=d!:=Xe.mpr ⟨x,hx,by simpa using z⟩;rw[h]at this;cases this
  exact(J? this).trans (List.map_id' l)
 rw[h2];simp
def BI.same{H':Hp}(h:BI Pr w O P H b l ca)(s:aE H H'):BI Pr w O P H' b l ca:=⟨h.mem,s _ _ h.at',Paired.mapP h.pr λx y ⟨h1,c,us,h2,h3,h4,h5⟩=>⟨h1,c,us,h2,h3,s _ _ h4,h5.kp (.same s)⟩,h.nd,h.nk⟩
def BI.told{H0:Hp}(h:BI Pr w O P H b l ca)(ap:∀a,a∈P->a∉O):RE O [] H0 H (.fz (.dl Pr w l)) (.ref b):=by refine⟨b,b,rfl,ap b h.mem,ca,h.at',Paired.mapP h.pr λx y ⟨h1,c,us,h2,h3,h4,h5⟩=>⟨h1,?_⟩⟩;rw[h2];exact .lst (ap c h3) h4 (h5.kp (.sub λd hd=>N4 _ hd))
end
section
variable{X:Cx}{E:XK}{o e f ep:E!}{h_ M' a1 a2 c1 c2 ce q:YU}{td ty tx:TE}{fp:DS->M DV}
def Nu(P:g?)(w:q?)(td ty tx:TE):TE:=λσ H Q=>td σ H λx H1=>∃b Ug,x=.ref b/\H1 b=a! (dO P w b Ug)/\ty σ H1 λy H2=>tx σ H2 λz H3=>∃ca k kb,H3 b=a! (dO P w b ca)/\y=.ref kb/\cJ k=d!/\k.depth<=6/\RpT (tv H3) k (.ref kb)/\ca.length<sizeLine /\
 (∀v,i7 ca k=a! v->Q v H3)/\(i7 ca k=b!->Q z (upd H3 b (dO P w b (ca++[(k,z)]))))
def KZ(hu:X.A.units+20<K?)(ho:PE X o td)(he:PE X e ty)(hf:PE X f tx)(base:O? o "setdefault" X.env (I! o X.env)=I! o X.env:=by rfl)(few:((W2 M' (n! [e,f] X.env)).all (λx=>!x.1)&&(YZ M' (XU [] X.env)).all (λx=>x.1.isSome)
   &&g! (([e,f]:List E!).length+([]:List YL).length+(if([]:List YL).isEmpty then 0 else 1)<30))=d!:=by rfl)(Tg:(h_.endLine==M'.line)=d!:=by rfl)(J_:W2 M' (n! [e,f] X.env)=[(e!,I! e X.env),(e!,I! f X.env)]:=by rfl):
  PE X (.Call (.Attribute o "setdefault" h_) [e,f] [] M') (Nu X.prog X.w td ty tx):=by
 intro a_ s σ H Q I h;refine ρ base few Tg ÿ Õ PySem.F.type_dict_setdefault (cf (ho a_ s σ H _ I h) λu s1 zz=>?_);obtain⟨x,H1,I1,rx,b,Ug,ex,eb,q1⟩:=zz;subst ex;obtain rfl:u=z? b:=rx;have x0:=zR I1.hok eb;refine⟨x0.type.1,λb' z=>?_,?_⟩
 ·cases z;exact x0.type.2
 rw[J_];refine Zz rfl (Y2 (X4 (cf (he a_ s1 σ H1 _ I1 q1) λiv s2 ⟨y,H2,I2,ry,q2⟩=>
  X4 (cf (hf a_ s2 σ H2 _ I2 q2) λfv s3 ⟨z,H3,I3,rz,ca,k,kb,e3,ey,k1,k2,k3,hl,q3,q4⟩=>Zj ?_))))
 subst ey;obtain rfl:iv=z? kb:=ry;exact t8 hu I3 e3 k1 k2 k3 rz hl (λv w' s4 ev I4 rv=>⟨v,H3,I4,rv,q3 v ev⟩) λev s4 I4=>⟨z,_,I4,rz,q4 ev⟩
def JB(P:g?)(w:q?)(i j:Nat)(fp:DS->M DV):TS:=λD σ H=>∃O P' δ b t ws l ca,RS O P' H σ δ/\(∀(i:Nat)(x:DV),δ[i]?=a! (a! x)->∃d,x=.d d)/\σ[i]?=a! (a! (.ref b))/\δ[j]?=a! (a! (.d (tD t)))/\fp δ=a! (.ok (.d (wD ws)))/\BI P w O P' H b l ca/\ca.length<1000000/\(∀p∈l,p.2.length<1000000) /\
 ∀P2 H2 QH,Kp P' H P2 H2->RS O P2 H2 σ δ->BI P w O P2 H2 b (fG l t ws) QH->D.nx σ H2
def Jo(h1:PE X (.Call (.Attribute (.Call (.Attribute o "setdefault" a1) [e,.List [] q] [] c1) "append" a2) [ep] [] c2) (Nw X.K "list" zp (Nu X.prog X.w (hV i) (hV j) (L4 IT)) (Il (tE E fp) IT)))(hs:X_ (.Call (.Attribute (.Call (.Attribute o "setdefault" a1) [e,.List [] q] [] c1) "append" a2) [ep] [] c2) b! ce.line X.env=Xo false:=by rfl):
  PS X (.Expr (.Call (.Attribute (.Call (.Attribute o "setdefault" a1) [e,.List [] q] [] c1) "append" a2) [ep] [] c2) ce) (JB X.prog X.w i j fp):=PS.mono (m6 h1 hs) λD σ H h=>by
 obtain⟨O,P,δ,b,t,ws,l,ca,rs,hd,eb,et,ef,bi,RF,TQ,nx⟩:=h;obtain⟨Vf,etv,_,U_⟩:=rs.at' j _ et;obtain⟨kb,rfl,hT⟩:=RpT.of (show Rp (P++O) H (tD t) Vf from U_);have RP:∀c,c∈P->∃o,H c=a! o:=λc hc=>rs.dom c (N5 _ hc);have sl:∀n,n<1000000->n<sizeLine:=λn h=>Ox h (by rw[K!];decide);refine⟨.ref b,eb,b,ca,rfl,bi.at',.ref kb,etv,Ov _,λa ha=>⟨ca,tD t,kb,bb ha _ _ bi.at',rfl,rfl,Yw (by decide:1<6),hT.mono (λc xs q=>bb ha _ _ q),sl _ RF,λv ev=>?_,λev=>?_⟩⟩
 ·have s0:aE H (upd H a (.lst [])):=bb ha;obtain⟨c,vs,ts,rfl,hc,cP,hm,f_⟩:=(bi.same s0).look ev;refine⟨.inl ⟨rfl,_,gu.of hc⟩,O,P,δ,_,rs.same s0,ef,λu H2 s2 ru=>?_⟩;have sH:=s0.trans s2;obtain⟨c',SG,e1,Pj,_,k,Va⟩:=(bi.same sH).old (ws:=ws) (u:=u) ev ru;cases e1;have e2:=s2 _ _ hc;rw[Pj]at e2;cases e2;refine⟨c,vs,u,rfl,rfl,Pj,sl _ (by rw[f_];exact TQ _ hm),nx P _ ca ((Kp.same sH).trans k) ?_ Va⟩;refine(rs.same sH).moved hd k (λd QB=>?_) rs.apart;by_cases z:d=c
  ·exact⟨_,by rw[z];exact aQ⟩
  ·obtain⟨ob,q⟩:=RP d QB;exact⟨ob,by rw[aF z];exact sH _ _ q⟩
 ·obtain⟨k1,bi1⟩:=bi.ins (t:=t) ev ha RP;have eh:upd (upd H a (.lst [])) b (dO X.prog X.w b (ca++[(tD t,.ref a)])) a=a! (.lst []):=by
   have Qm:a≠b:=λz=>by obtain⟨o,e⟩:=RP b bi.mem;rw[<-z,ha]at e;cases e
   rw[aF Qm,aQ]
  have aO:a∉O:=λz=>by obtain⟨ob,q⟩:=rs.dom a (N4 _ z);rw[ha]at q;cases q
  have Uc:∀d,d∈a::P->∃o,upd (upd H a (.lst [])) b (dO X.prog X.w b (ca++[(tD t,.ref a)])) d=a! o:=λd QB=>by
   by_cases zb:d=b
   ·exact⟨_,by rw[zb];exact aQ⟩
   ·obtain z|z:=Of.mp QB
    ·exact⟨_,by rwa[z]⟩
    ·obtain⟨ob,q⟩:=RP d z;have Wx:d≠a:=λz=>by rw[z,ha]at q;cases q
     exact⟨ob,by rwa[aF zb,aF Wx]⟩
  have ap1:∀d,d∈a::P->d∉O:=λd QB=>by
   obtain z|z:=Of.mp QB
   ·rwa[z]
   ·exact rs.apart d z
  have OK:=rs.moved hd k1 Uc ap1;have ev1:i7 (ca++[(tD t,V.ref a)]) (tD t)=a! (.ref a):=by
   unfold i7 at ev ⊢;rw[Î];cases e2:ca.find? λx=>g! (x.1=tD t)with
   |none=>simp
   |some p=>rw[e2]at ev;cases ev
  refine⟨.inl ⟨rfl,_,gu.of eh⟩,O,a::P,δ,_,OK,ef,λu H2 s2 ru=>?_⟩;obtain⟨c',SG,e1,Pj,_,k,Va⟩:=(bi1.same s2).old (ws:=ws) (u:=u) ev1 ru;cases e1;have e2:=s2 _ _ eh;rw[Pj]at e2;cases e2;rw[AX (by rw[<-bi.has,ev];rfl)]at Va;refine⟨a,[],u,rfl,rfl,Pj,sl 0 0x3,nx (a::P) _ _ ((k1.trans (Kp.same s2)).trans k) ?_ Va⟩;refine(OK.same s2).moved hd k (λd QB=>?_) ap1;by_cases z:d=a
  ·exact⟨_,by rw[z];exact aQ⟩
  ·obtain⟨ob,q⟩:=Uc d QB;exact⟨ob,by rw[aF z];exact s2 _ _ q⟩
end
section
variable{X:Cx}{E:XK}{ce:YU}
def zq{a_:List (c!×XQ)}{s:d?}(I:Inv X a_ σ H s):(s.heap.objs.size==YS)=e!:=beq_eq_false_iff_ne.mpr (XR (OA (Ϣ 0x3 (I.mod.glob.keeps I.bk).lt)))
def B0{P:g?}{T:c!->List V->Prop}{h:F!}(hb:(h.objs.size==YS)=e!):DX P w h.objs.size [] T (h.push {cls:=.type "dict",data:=.dict #[]}):=⟨hb,Ov _,[],.nil,_,#[],0,OC _ rfl,⟨rfl,rfl,rfl⟩,rfl,rfl,YM⟩
def GH:PE X (.Dict [] [] ce) (λσ H Q=>∀p,H p=b!->Q (.ref p) (upd H p (dO X.prog X.w p []))):=λa_ s σ H Q I h=>
 ϔ ⟨.ref s.heap.objs.size,_,I.laid (a:=s.heap.objs.size) (t':=s.toks) (λo o q=>N3 _ q) (N6 _) (Ie (B0 (zq I))),rfl,h _ (I.hok.fresh (N6 _))⟩
def Gx:PE X (.Dict [] [] ce) (λσ H Q=>∀p,H p=b!->Q (.ref p) (upd H p (mO X.prog X.w p f U))):=λa_ s σ H Q I h=>
 ϔ ⟨.ref s.heap.objs.size,_,I.laid (a:=s.heap.objs.size) (t':=s.toks) (λo o q=>N3 _ q) (N6 _) (HU (ca:=[]) (λo h=>nomatch h) (B0 (zq I))),rfl,h _ (I.hok.fresh (N6 _))⟩
end
def iG(l:By)(ws:List eA):By:=(ws.take 3).foldl (λl t=>fG l t ws) l
def mj(OM:List (List eA)):By:=OM.foldl iG []
noncomputable def H9:D->Option eA
 |.tuple [.int a,.int b]=>a! (a,b)
 |_=>b!
def cW:List D->Option (List eA)
 |[]=>a! []
 |x::r=>match H9 x,cW r with
  |some t,a! ts=>a! (t::ts)
  |_,_=>b!
def Co:D->Option (List eA)
 |.tuple [_,.list ts]=>cW ts
 |_=>b!
def gw:List D->Option (List (List eA))
 |[]=>a! []
 |x::r=>match Co x,gw r with
  |some t,a! ts=>a! (t::ts)
  |_,_=>b!
def fW(ts:List eA):cW (ts.map tD)=a! ts:=by
 induction ts with
 |nil=>rfl
 |cons t r ih=>rw[f?,cW,ih];rfl
set_option tactic.hygienic true in
theorem kN:∀{xs:List D}{ts:List eA},cW xs=a! ts->xs=ts.map tD
 |[],ts,h=>by cases h;rfl
 |x::r,ts,h=>by
  unfold cW at h;split at h
  ·rename_i t us h1 h2;cases h;rw[kN h2,f?];congr 1;unfold H9 at h1;split at h1
   ·cases h1;rfl
   ·cases h1
  ·cases h
set_option tactic.hygienic true in
theorem qG:∀{xs:List D}{OM:List (List eA)},gw xs=a! OM->OM.length=xs.length/\∀(i:Nat)(d:D),xs[i]?=a! d->∃m ws,d=.tuple [m,wD ws]/\OM[i]?=a! ws
 |[],OM,h=>by cases h;exact⟨rfl,λi d h=>by simp at h⟩
 |x::r,OM,h=>by
  unfold gw at h;split at h
  ·rename_i t us h1 h2;cases h;obtain⟨hl,hg⟩:=qG h2;refine⟨by simp[hl],λi d hd=>?_⟩;cases i with
   |zero=>
    simp at hd;subst hd;unfold Co at h1;split at h1
    ·rename_i m ts;exact⟨m,t,by rw[kN h1];rfl,rfl⟩
    ·cases h1
   |succ i=>simpa using hg i d (by simpa using hd)
  ·cases h
def L5(ts:List D):wV ts b! (a! 3)=ts.take 3:=by
 unfold wV HT.sIx;simp
 try lia
def vq(l:By)(n:Nat):Prop:=l.length<=n/\∀p∈l,p.2.length<=n
def vq.add{l:By}{n:Nat}(h:vq l n)(t:eA)(ws:List eA):vq (fG l t ws) (n+1):=by
 unfold fG;split
 ·refine⟨by rw[e?];exact Ú h.1,λp hp=>?_⟩;obtain⟨q,hq,rfl⟩:=Oh.mp hp;have:=h.2 q hq;split
  ·simp;lia
  ·lia
 ·refine⟨by have:=h.1;simp;lia,λp hp=>?_⟩;obtain hp|hp:=Og.mp hp
  ·exact Ú (h.2 p hp)
  ·simp at hp;subst hp;simp
def RS.free{O P:List c!}{δ:DS}{v:Option V}(r:RS O P H σ δ)(h:δ[i]?=a! b!):RS O P H (σ.set i v) δ:=by
 have ne:∀(j:Nat)(x:DV),δ[j]?=a! (a! x)->i≠j:=λj x e z=>by rw[z,e]at h;cases h
 refine⟨by rw[List.length_set];exact r.len,r.dom,r.apart,λj x e=>?_,λj m x y v w a e1 e2 e3 e4 o1 o2=>?_⟩
 ·obtain⟨u,e1,e2⟩:=r.at' j x e;exact⟨u,by rwa[q! (ne j x e)],e2⟩
 ·rw[q! (ne j x e1)]at e3;rw[q! (ne m y e2)]at e4;exact r.one j m x y v w a e1 e2 e3 e4 o1 o2
noncomputable def jI(a c d:Option D):DS:=[a.map .d,b!,c.map .d,d.map .d]
def zm(a c d:Option D):∀(i:Nat)(x:DV),(jI a c d)[i]?=a! (a! x)->∃e,x=.d e:=by
 intro i x h;unfold jI at h
 match i,h with
 |0,h=>cases a <;>simp at h;exact⟨_,h.symm⟩
 |1,h=>simp at h
 |2,h=>cases c <;>simp at h;exact⟨_,h.symm⟩
 |3,h=>cases d <;>simp at h;exact⟨_,h.symm⟩
 |i+4,h=>simp at h
section
variable{X:Cx}{OH O9:U!}{VJ Tn Wd Tr r:E!}{p1 p2 p3:YU}{fi1 fi2:DS->M (List D)}{fp:DS->M DV}
def NZ(P:g?)(w:q?):TS:=λD σ H=>∃O xs OM,RS O [] H σ (jI (a! (.list xs)) b! b!)/\gw xs=a! OM/\OM.length<=1000/\∀v H',aE H H'->RE O [] H H' (.fz (.dl P w (mj OM))) v->D.rt v H'
def Ck(hp:Ê (p! X.prog X.w) X.A X.env X.xe)(hc:X.calm=d!)(RQ:Fe X E0 Tn Tr fi2)(TM:PG X Tn (oX 3))(h3:PS X O9 (JB X.prog X.w 1 3 fp))(QN:∀x,W3 Tr X.env x=Xo x)(e2:∀a c m ts,fi2 (jI a (a! (.tuple [m,.list ts])) c)=rt (ts.take 3))(e3:∀a c m ts,fp (jI a (a! (.tuple [m,.list ts])) c)=rt (.d (.list ts))):
  PS X (.For Tn Tr [O9] [] p2) (λD σ H=>∃O P b l ca a m ws c n,RS O P H σ (jI a (a! (.tuple [m,wD ws])) c)/\σ[1]?=a! (a! (.ref b))/\BI X.prog X.w O P H b l ca/\vq l n/\n+3<1000000 /\
   ∀c_ P' H' QX c',Kp P H P' H'->RS O P' H' c_ (jI a (a! (.tuple [m,wD ws])) c')->c_[1]?=a! (a! (.ref b))->BI X.prog X.w O P' H' b (iG l ws) QX->vq (iG l ws) (n+3)->D.nx c_ H'):=
 PS.mono (yk hp hc RQ TM (gf h3) QN) λD σ H h=>by
  obtain⟨O,P,b,l,ca,a,m,ws,c,n,rs,eb,bi,fw,hn,nx⟩:=h;have el:fi2 (jI a (a! (.tuple [m,wD ws])) c)=a! (.ok ((ws.map tD).take 3)):=e2 a c m (ws.map tD);refine⟨O,P,_,_,rs,el,λJ H1 s1 it=>?_⟩;have f_:((ws.map tD).take 3).length<=3:=by rw[XA];exact û _ _
  refine⟨λi k c_ H'=>k=((ws.map tD).take 3).length-i/\i<=((ws.map tD).take 3).length/\∃P' l' QX c',Kp P H1 P' H'/\RS O P' H' c_ (jI a (a! (.tuple [m,wD ws])) c')/\c_[1]?=a! (a! (.ref b))/\BI X.prog X.w O P' H' b l' QX/\vq l' (n+i)/\((ws.take 3).drop i).foldl (λl t=>fG l t ws) l'=iG l ws,⟨_,rfl,Ov _,P,l,ca,c,.refl,rs.same s1,eb,bi.same s1,fw,rfl⟩,?_⟩;rintro i k c_ H' ⟨rfl,hi,P',l',QX,c',kp,O3,eb',R9,Sj,fl⟩;by_cases OL:i<((ws.map tD).take 3).length
  ·have hw:i<(ws.take 3).length:=by rwa[<-Zs,e?]at OL
   obtain⟨t,et⟩:∃t,(ws.take 3)[i]?=a! t:=⟨_,W0 hw⟩;have etd:((ws.map tD).take 3)[i]?=a! (tD t):=by rw[<-Zs,M?,et];rfl
   obtain⟨go,yl⟩:=(it i P' H' kp).1 (tD t) etd;refine .inr ⟨go,λw_ H2=>∃P2 l2 QH c2,Kp P H1 P2 H2/\RS O P2 H2 w_ (jI a (a! (.tuple [m,wD ws])) c2)/\w_[1]?=a! (a! (.ref b))/\BI X.prog X.w O P2 H2 b l2 QH/\vq l2 (n+(i+1))/\((ws.take 3).drop (i+1)).foldl (λl t=>fG l t ws) l2=iG l ws,λw_ H2 h=>⟨_,0x1,rfl,OL,h⟩,λx H2 hy=>?_⟩;obtain⟨rfl,rx⟩:=yl x H2 hy;have SQ:RS O P' H2 (c_.set 3 (a! x)) (jI a (a! (.tuple [m,wD ws])) (a! (tD t))):=O3.set (i:=3) (x:=.d (tD t)) rx (λo=>nofun) rfl;refine⟨O,P',_,b,t,ws,l',QX,SQ,zm _ _ _,by rwa[q! 0x3],rfl,e3 _ _ _ _,R9,?_,λp hp=>?_,λP2 H3 QH k2 WM Vh=>⟨P2,_,QH,a! (tD t),kp.trans k2,WM,by rwa[q! 0x3],Vh,Sj.add t ws,?_⟩⟩
   ·have h1:=Xs R9.pr;have h2:=Sj.1;lia
   ·have:=Sj.2 p hp;lia
   ·rw[<-fl,L? hw,Xb];have:(ws.take 3)[i]=t:=by rw[W0 hw]at et;exact OD et
    rw[this]
  ·have Po:i=((ws.map tD).take 3).length:=by lia
   have hd:(ws.take 3).drop i=[]:=X7 (by rw[Po,<-Zs,e?];exact N6 _);rw[hd]at fl;have V0:l'=iG l ws:=fl;rw[V0]at R9 Sj;exact .inl ⟨(it _ P' H' kp).2 0x1,nx c_ P' H' QX c' ((Kp.same s1).trans kp) O3 eb' R9 ⟨by have:=Sj.1;lia,λp hp=>by have:=Sj.2 p hp;lia⟩⟩
def GQ(hp:Ê (p! X.prog X.w) X.A X.env X.xe)(hc:X.calm=d!)(h1:PS X OH (λD σ H=>∀p,H p=b!->D.nx (σ.set 1 (a! (.ref p))) (upd H p (dO X.prog X.w p []))))(QO:Fe X E0 VJ Wd fi1)(TH:PG X VJ (oX 2))(hs1:∀x,W3 Wd X.env x=Xo x)(RQ:Fe X E0 Tn Tr fi2)(TM:PG X Tn (oX 3))(h3:PS X O9 (JB X.prog X.w 1 3 fp))(QN:∀x,W3 Tr X.env x=Xo x)(hr:PE X r (hV 1))(e1:∀xs c d,fi1 (jI (a! (.list xs)) c d)=rt xs)(e2:∀a c m ts,fi2 (jI a (a! (.tuple [m,.list ts])) c)=rt (ts.take 3))(e3:∀a c m ts,fp (jI a (a! (.tuple [m,.list ts])) c)=rt (.d (.list ts))):
  rO X [OH,.For VJ Wd [.For Tn Tr [O9] [] p2] [] p1,.Return (a! r) p3] (NZ X.prog X.w):=
 rO.mono (gh h1 (gh (yk hp hc QO TH (gf (Ck hp hc RQ TM h3 QN e2 e3)) hs1) (gf (yc hr)))) λD σ H h=>by
  obtain⟨O,xs,OM,rs,ep,hz,q⟩:=h;obtain⟨f_,Rq⟩:=qG ep;intro b hb;have k0:Kp [] H [b] (upd H b (dO X.prog X.w b [])):=⟨λa o j e=>bb hb a o e,λa ha=>by simp at ha;subst ha;exact .inr hb⟩;have ap0:∀a,a∈[b]->a∉O:=λa ha z=>by
   simp at ha;subst ha
   obtain⟨o,e⟩:=rs.dom a z;rw[hb]at e;cases e
  have rs0:RS O [b] (upd H b (dO X.prog X.w b [])) (σ.set 1 (a! (.ref b))) (jI (a! (.list xs)) b! b!):=(rs.moved (zm _ _ _) k0 (λa ha=>by simp at ha;subst ha;exact⟨_,aQ⟩) ap0).free rfl;have RF:1<σ.length:=by rw[rs.len];show 1<4;decide
  refine⟨O,[b],_,_,rs0,e1 xs b! b!,λJ H1 s1 it=>?_⟩;refine⟨λi k c_ H'=>k=xs.length-i/\i<=xs.length/\∃P' l ca c d,Kp [b] H1 P' H'/\RS O P' H' c_ (jI (a! (.list xs)) c d)/\c_[1]?=a! (a! (.ref b))/\BI X.prog X.w O P' H' b l ca/\vq l (3*i)/\(OM.drop i).foldl iG l=mj OM,
   ⟨_,rfl,Ov _,[b],[],[],b!,b!,.refl,rs0.same s1,by rw[x! RF],⟨N2,s1 _ _ aQ,.nil,YM,YM⟩,⟨Ov _,λj h=>nomatch h⟩,rfl⟩,?_⟩
  rintro i k c_ H' ⟨rfl,hi,P',l,ca,c,d,kp,O3,eb',R9,Sj,fl⟩;by_cases OL:i<xs.length
  ·obtain⟨m,ws,ed,ew⟩:=Rq i xs[i] (W0 OL);obtain⟨go,yl⟩:=(it i P' H' kp).1 xs[i] (W0 OL);refine .inr ⟨go,λw_ H2=>∃P2 l2 QH c2 d2,Kp [b] H1 P2 H2/\RS O P2 H2 w_ (jI (a! (.list xs)) c2 d2)/\w_[1]?=a! (a! (.ref b))/\BI X.prog X.w O P2 H2 b l2 QH/\vq l2 (3*(i+1))/\(OM.drop (i+1)).foldl iG l2=mj OM,λw_ H2 h=>⟨_,0x1,rfl,OL,h⟩,λx H2 hy=>?_⟩;obtain⟨rfl,rx⟩:=yl x H2 hy;rw[ed]at rx;have SQ:RS O P' H2 (c_.set 2 (a! x)) (jI (a! (.list xs)) (a! (.tuple [m,wD ws])) d):=O3.set (i:=2) (x:=.d (.tuple [m,wD ws])) rx (λj=>nofun) rfl;refine⟨O,P',b,l,ca,_,m,ws,d,3*i,SQ,by rwa[q! 0x3],R9,Sj,0x1,λF_ P3 H3 Wj c3 k3 WM Vi Vh fw3=>⟨P3,_,Wj,_,c3,kp.trans k3,WM,Vi,Vh,fw3,?_⟩⟩;have hw:i<OM.length:=by lia
   rw[<-fl,L? hw,Xb];have:OM[i]=ws:=by rw[W0 hw]at ew;exact OD ew
   rw[this]
  ·have Po:i=xs.length:=by lia
   have hd:OM.drop i=[]:=X7 0x1;rw[hd]at fl;have V0:l=mj OM:=fl;rw[V0]at R9;refine .inl ⟨(it _ P' H' kp).2 0x1,.ref b,eb',?_⟩;have kk:=(k0.trans (Kp.same s1)).trans kp;exact q _ H' (λa o e=>kk.keep a o 0x4 e) (R9.told O3.apart)
end
end L3
namespace LW
open PySem PySem.Spec L2 L3
def jl(h:List Tl)(j:Int)(w:List Tl):Int:=j-((w.length:Int)-((h.length:Int)-((aq h w).length:Int)))
noncomputable def aX(h:List Tl):Int:=(h.map (·.1)).sum
def cN(h a b:List Tl):aq h (a++b)=aq (aq h a) b:=Ŧ
variable{a b:List Tl}
def k9(p:a.Perm b):∀h:List Tl,aq h a=aq h b:=by
 induction p with
 |nil=>intro h;rfl
 |cons x _ ih=>intro h;exact ih (h.erase x)
 |swap x y l=>intro h;show aq ((h.erase y).erase x) l=aq ((h.erase x).erase y) l;rw[List.erase_comm]
 |trans _ _ WS VL=>intro h;exact(WS h).trans (VL h)
def iC(w h:List Tl):(aq h w).length<=h.length/\h.length<=(aq h w).length+w.length:=by
 induction w generalizing h with
 |nil=>exact⟨N6 _,by show h.length<=h.length+0;lia⟩
 |cons x r ih=>
  have h1:=ih (h.erase x);have h2:=List.length_erase (a:=x) (l:=h);show(aq (h.erase x) r).length<=_/\_<=(aq (h.erase x) r).length+(x::r).length;rw[i!];split at h2 <;>lia
def eP(h:List Tl)(j:Int)(a b:List Tl):jl h j (a++b)=jl (aq h a) (jl h j a) b:=by unfold jl;rw[cN,l!];lia
def lM(h:List Tl)(j:Int)(w:List Tl):jl h j w<=j:=by have:=iC w h;unfold jl;lia
def t9(h:List Tl)(j:Int)(a b:List Tl):jl h j (a++b)<=jl h j a:=by rw[eP];exact lM _ _ _
def u9(p:a.Perm b)(h:List Tl)(j:Int):jl h j a=jl h j b:=by unfold jl;rw[k9 p,p.length_eq]
variable{t:Tl}{w:List Tl}
def vH(hw:t∉w)(r:List Tl):aq (t::r) w=t::aq r w:=by
 induction w generalizing r with
 |nil=>rfl
 |cons x w ih=>
  have hx:t≠x:=λe=>hw (e▸N2);show aq ((t::r).erase x) w=t::aq (r.erase x) w;rw[List.erase_cons_tail (by simpa using hx),ih (λh=>hw (N1 _ h))]
def Bq:∀{h:List Tl},(∀x∈w,x∉h)->aq h w=h:=by
 induction w with
 |nil=>intro h _;rfl
 |cons x w ih=>
  intro h hx;show aq (h.erase x) w=h;rw[Ĥ (hx x N2)];exact ih λy hy=>hx y (N1 _ hy)
noncomputable def Ff:List Tl->List Tl
 |[]=>[]
 |x::r=>if x∈Ff r then Ff r else x::Ff r
set_option tactic.hygienic true in
theorem nu:∀{l:List Tl}{x:Tl},x∈l->x∈Ff l
 |y::r,x,h=>by
  unfold Ff;split
  ·rename_i hy;obtain e|h:=Of.mp h
   ·rwa[e]
   ·exact nu h
  ·obtain e|h:=Of.mp h
   ·rw[e];exact N2
   ·exact N1 _ (nu h)
set_option tactic.hygienic true in
theorem nS:∀l:List Tl,(Ff l).Nodup
 |[]=>YM
 |x::r=>by
  unfold Ff;split
  ·exact nS r
  ·rename_i h;exact Xn.mpr ⟨h,nS r⟩
theorem Cn{f g:Tl->Int}:∀{ks:List Tl},(∀p∈ks,f p<=g p)->(ks.map f).sum<=(ks.map g).sum
 |[],_=>X9 _
 |x::r,h=>by have h1:=h x N2;have h2:=Cn (ks:=r) λp hp=>h p (N1 _ hp);simp only[f?,Xh];lia
variable{h:List Tl}
def Em{f:Tl->Int}{u v:List Tl}(hf:∀p,p∈h->0<=f p)(Wv:∀p,p∈a->0<=f p)(hfb:∀p,p∈b->0<=f p)(hc:∀p,h.count p-w.count p<=(a.count p-u.count p)+(b.count p-v.count p)):
  ((aq h w).map f).sum<=((aq a u).map f).sum+((aq b v).map f).sum:=by
 have hn:=nS (h++(a++b));have m1:∀x∈aq h w,x∈Ff (h++(a++b)):=λx hx=>nu (N5 _ ((bZ w h).subset hx));have m2:∀x∈aq a u,x∈Ff (h++(a++b)):=λx hx=>nu (N4 _ (N5 _ ((bZ u a).subset hx)));have m3:∀x∈aq b v,x∈Ff (h++(a++b)):=λx hx=>nu (N4 _ (N4 _ ((bZ v b).subset hx)));rw[xS f hn _ m1,xS f hn _ m2,xS f hn _ m3,<-ui];refine Cn λp o=>?_;rw[fN,fN,fN];have hp:=hc p;by_cases hz:0<=f p
 ·rw[<-ϲ];exact Int.mul_le_mul_of_nonneg_right 0x1 hz
 ·have z1:h.count p=0:=Æ.mpr λhm=>hz (hf p hm);have z2:a.count p=0:=Æ.mpr λhm=>hz (Wv p hm);have z3:b.count p=0:=Æ.mpr λhm=>hz (hfb p hm);rw[z1,z2,z3];simp
def tX(l:List Tl):(l.map λo=>(1:Int)).sum=(l.length:Int):=by
 induction l with
 |nil=>rfl
 |cons x r ih=>simp only[f?,Xh,i!,ih];lia
theorem G2{u v:List Tl}(hp:h.Perm (a++b))(hf:∀p∈h,0<=p.1)(j k:Int):aX (aq h (u++v))<=aX (aq a u)+aX (aq b v)/\jl a j u+jl b k v<=jl h (j+k) (u++v):=by
 have hc:∀p,h.count p-(u++v).count p<=(a.count p-u.count p)+(b.count p-v.count p):=λp=>by rw[hp.count_eq,ŧ,ŧ];lia
 have ha:∀p,p∈a->p∈h:=λp h'=>hp.mem_iff.mpr (N5 _ h');have hb:∀p,p∈b->p∈h:=λp h'=>hp.mem_iff.mpr (N4 _ h');refine⟨Em hf (λp h'=>hf p (ha p h')) (λp h'=>hf p (hb p h')) hc,?_⟩;have:=Em (f:=λo=>1) (λo o=>0x3) (λo o=>0x3) (λo o=>0x3) hc;rw[tX,tX,tX]at this;have hl:=hp.length_eq;rw[l!]at hl;unfold jl;rw[l!];lia
variable{r:List Tl}
def GV(hf:∀p∈t::r,0<=p.1)(j:Int):aX (aq (t::r) w)<=t.1+aX (aq r w)/\jl r j w<=jl (t::r) j w:=by
 have:=G2 (h:=t::r) (a:=[t]) (u:=[]) (b:=r) (v:=w) (aæ _) hf 0 j;have e:aX (aq [t] [])=t.1:=by show t.1+0=t.1;lia
 have e2:jl [t] 0 []=0:=by unfold jl;show(0:Int)-(0-(1-1))=0;lia
 rw[e,e2]at this;simpa using this
def oU(hf:∀p∈h,0<=p.1):0<=aX h:=by
 induction h with
 |nil=>exact X9 _
 |cons t r ih=>
  have h1:=hf t N2;have h2:=ih λp hp=>hf p (N1 _ hp);show 0<=t.1+aX r;lia
def BU(a b:Tl):Prop:=a.1<b.1\/a.1=b.1/\a.2<=b.2
def JI(a b:Tl):Prop:=a.1<b.1\/a.1=b.1/\a.2<b.2
theorem Fy{a b:Tl}(h:JI a b)(h':BU b a):False:=by unfold JI at h;unfold BU at h';lia
def gj(l:By)(h:List Tl)(j:Int):List (List Tl×Int):=match h with
 |[]=>[]
 |t::r=>((c9 l t).map λw=>(aq (t::r) w,jl (t::r) j w)).filter λq=>g! (0<=q.2)
def LL(l:By):Nat->List Tl->Int->Int
 |0,_,_=>0
 |_+1,[],_=>0
 |n+1,t::r,j=>zg ((t.1+LL l n r j)::(gj l (t::r) j).map λq=>LL l n q.1 q.2)
structure Play(AM:List (List Tl))(h:List Tl)(j:Int)(Ws:List (List Tl)):Prop where
 mem:∀w∈Ws,w∈AM
 jok:0<=jl h j Ws.flatten
def Ej{l:By}{j:Int}(hw:w∈c9 l t)(hj:0<=jl (t::r) j w):(aq (t::r) w,jl (t::r) j w)∈gj l (t::r) j:=Ol.mpr ⟨Oh.mpr ⟨w,hw,rfl⟩,by simpa using hj⟩
def pT{l:By}{j:Int}{q:List Tl×Int}(h:q∈gj l (t::r) j):∃w∈c9 l t,q=(aq (t::r) w,jl (t::r) j w)/\0<=jl (t::r) j w:=by obtain⟨h1,h2⟩:=Ol.mp h;obtain⟨w,hw,rfl⟩:=Oh.mp h1;exact⟨w,hw,rfl,by simpa using h2⟩
def iL(h:t∈w):(aq (t::r) w).length<=r.length:=by obtain⟨a,b,rfl⟩:=YH h;have p:(a++t::b).Perm (t::(a++b)):=ã;rw[k9 p];show(aq ((t::r).erase t) (a++b)).length<=r.length;rw[List.erase_cons_head];exact(iC _ _).1
theorem xt{l:By}{AM:List (List Tl)}(hs:∀w∈AM,w.Pairwise JI)(bg:∀t w,w∈AM->t∈w.take 3->w∈c9 l t):∀(n:Nat)(h:List Tl)(j:Int)(Ws:List (List Tl)),h.length<=n->h.Pairwise BU->(∀p∈h,0<=p.1)->j<=2->Play AM h j Ws->LL l n h j<=aX (aq h Ws.flatten)
 |0,h,j,Ws,hl,_,hf,_,_=>by have:h=[]:=OG 0x1;subst this;exact oU λp hp=>hf p ((bZ _ _).subset hp)
 |n+1,[],j,Ws,hl,_,hf,_,_=>oU λp hp=>hf p ((bZ _ _).subset hp)
 |n+1,t::r,j,Ws,hl,ho,hf,hj,pl=>by
  rw[i!]at hl;rw[Ã]at ho;by_cases ht:t∈Ws.flatten
  ·obtain⟨w,hw,UN⟩:=List.mem_flatten.mp ht;obtain⟨A,B,rfl⟩:=YH hw;have pw:(A++w::B).flatten.Perm (w++(A++B).flatten):=by rw[W?,x?,W?,<-t?,<-t?];exact(XE).append_right _
   have hj0:0<=jl (t::r) j (w++(A++B).flatten):=by rw[<-u9 pw];exact pl.jok
   have Ue:0<=jl (t::r) j w:=OF hj0 (t9 _ _ _ _);have Vc:w∈AM:=pl.mem w 0x4;have h3:t∈w.take 3:=by
    obtain⟨a,b,rfl⟩:=YH UN;have PZ:=hs _ Vc;rw[ī]at PZ;have out:∀x∈a,x∉t::r:=λx hx hm=>by
     have h1:=PZ.2.2 x hx t N2;obtain e|hm:=Of.mp hm
     ·subst e;unfold JI at h1;lia
     ·exact Fy h1 (ho.1 x hm)
    have e1:aq (t::r) (a++t::b)=aq (t::r) (t::b):=by rw[cN,Bq out]
    have e2:=iC (t::b) (t::r);unfold jl at Ue;rw[e1,l!]at Ue;have VI:a.length<=2:=by lia
    rw[List.take_append];refine N4 _ ?_;obtain⟨k,hk⟩:∃k,3-a.length=k+1:=⟨2-a.length,0x1⟩;rw[hk,List.take_succ_cons];exact N2
   have hm:=Ej (l:=l) (bg t w Vc h3) Ue;have A_:LL l (n+1) (t::r) j<=LL l n (aq (t::r) w) (jl (t::r) j w):=uT (N1 _ (Oh.mpr ⟨_,hm,rfl⟩));have OO:=bZ w (t::r);have ih:=xt hs bg n (aq (t::r) w) (jl (t::r) j w) (A++B) (Ow (iL UN) 0x1) ((Oq.mpr ho).sublist OO) (λp hp=>hf p (OO.subset hp)) (OF (lM _ _ _) hj) ⟨λx hx=>pl.mem x (by obtain h|h:=Og.mp hx <;>simp[h]),by rwa[<-eP]⟩;rw[k9 pw,cN];lia
  ·rw[vH ht];have e1:jl r j Ws.flatten=jl (t::r) j Ws.flatten:=by unfold jl;rw[vH ht,i!,i!];lia
   have ih:=xt hs bg n r j Ws 0x1 ho.2 (λp hp=>hf p (N1 _ hp)) hj ⟨pl.mem,by rw[e1];exact pl.jok⟩;have A_:LL l (n+1) (t::r) j<=t.1+LL l n r j:=uT N2;show _<=t.1+aX (aq r Ws.flatten);lia
theorem yV{l:By}{AM:List (List Tl)}(bs:∀t w,w∈c9 l t->w∈AM/\t∈w):∀(n:Nat)(h:List Tl)(j:Int),h.length<=n->(∀p∈h,0<=p.1)->0<=j->∃Ws,Play AM h j Ws/\aX (aq h Ws.flatten)<=LL l n h j
 |0,h,j,hl,_,hj=>by have:h=[]:=OG 0x1;subst this;exact⟨[],⟨λo h=>(nomatch h),by unfold jl;show 0<=j-(0-(0-0));lia⟩,X9 _⟩
 |n+1,[],j,hl,_,hj=>⟨[],⟨λo h=>(nomatch h),by unfold jl;show 0<=j-(0-(0-0));lia⟩,X9 _⟩
 |n+1,t::r,j,hl,hf,hj=>by
  rw[i!]at hl;have RN:LL l (n+1) (t::r) j∈(t.1+LL l n r j)::(gj l (t::r) j).map λq=>LL l n q.1 q.2:=uG 0x4;obtain e|h:=Of.mp RN
  ·obtain⟨Ws,pl,A_⟩:=yV bs n r j 0x1 (λp hp=>hf p (N1 _ hp)) hj;obtain⟨c1,c2⟩:=GV (t:=t) (r:=r) (w:=Ws.flatten) hf j;exact⟨Ws,⟨pl.mem,OF pl.jok c2⟩,0x1⟩
  ·obtain⟨q,hq,e⟩:=Oh.mp h;obtain⟨w,hw,rfl,Ue⟩:=pT hq;obtain⟨Vc,UN⟩:=bs t w hw;obtain⟨Ws,pl,A_⟩:=yV bs n (aq (t::r) w) (jl (t::r) j w) (Ow (iL UN) 0x1) (λp hp=>hf p ((bZ _ _).subset hp)) Ue;refine⟨w::Ws,⟨λx hx=>?_,?_⟩,?_⟩
   ·obtain e|h:=Of.mp hx
    ·rw[e];exact Vc
    ·exact pl.mem x h
   ·rw[x?,eP];exact pl.jok
   ·rw[x?,cN,<-e];exact A_
section
variable(m c:Int)(ps:List (Int×Int))(cell:Int)
def K3(δ:DS)(i:Nat)(hi:δ[i]?=a! (a! (.d (.list (ps.map pr))))):aN cB (aa (af i) ai) δ=rt (.d (.int (ps.length:Int))):=by
 have hv:af i δ=rt (.d (.list (ps.map pr))):=by unfold af;rw[hi];rfl
 rw[cg (a9 hv)];exact iD ps
end
end LW
namespace L3
open PySem PySem.Spec L2
open PyProof.Rows hiding St
noncomputable def uh:Bool->u!->Array u!->Nat->Nat->Nat->StateT G! ý (Option Nat):=sortPriv% PySem.Builtin.gallop
def o5(M:â)(A:A?)(E:b?->d?->Prop)(s:d?)(κ:X?)(bv:u!->List Int)(P:u!->Prop):Prop:=∀(x y:u!)(st:G!)(Q:Option Bool->G!->Prop),kindOf st=κ->P x->P y->Q (a! (ll (bv x) (bv y))) st->Ċ M A E s (lt' x y) Q st
def MG(bv:u!->List Int)(p_:Bool)(k x:u!):Bool:=if p_=d! then ll (bv x) (bv k)else !ll (bv k) (bv x)
section
variable{M:â}{A:A?}{E:b?->d?->Prop}{s:d?}{κ:X?}{bv:u!->List Int}{P:u!->Prop}
def bL{arr:Array u!}{i:Nat}{x:u!}{st:G!}{Q:u!->G!->Prop}(h:arr[i]?=a! x)(hq:Q x st):Ċ M A E s (elem' arr i) Q st:=by rw[elem'_eq,h];exact j? hq
def sU(hA:o5 M A E s κ bv P){p_:Bool}{k:u!}{arr:Array u!}{base n d_:Nat}{st:G!}{Q:Option Nat->G!->Prop}(hk:kindOf st=κ)(hP:∀i,i<n->∃x,arr[base+i]?=a! x/\P x)(TB:P k)(hh:d_<n)(b:Nat->Bool)(hb:∀i x,i<n->arr[base+i]?=a! x->b i=MG bv p_ k x)(mono:∀i j,i<=j->j<n->b j=d!->b i=d!)(h:∀r,r<=n->(∀i,i<r->b i=d!)->(∀i,r<=i->i<n->b i=e!)->Q (a! r) st):Ċ M A E s (uh p_ k arr base n d_) Q st:=by
 have ask:∀(i:Nat)(Q':Option Bool->G!->Prop),i<n->Q' (a! (b i)) st->Ċ M A E s (do let x <-elem' arr (base+i);if p_=d! then lt' x k else(do let r <-lt' k x;Xo (r.map λx=>!x))) Q' st:=λi Q' hi hq=>by
  obtain⟨x,ex,px⟩:=hP i hi;rw[hb i x hi ex]at hq;refine h! (bL ex ?_);cases p_ with
  |true=>exact hA x k st _ hk px TB hq
  |false=>exact h! (hA k x st _ hk TB px (j? hq))
 refine h! (ask d_ _ hh ?_);dsimp only;cases c:b d_ with
 |true=>
  rw[é rfl];refine h! (Xd (H? (I:=λx c F'=>F'=st/\∃l o,c=(b!,l,o)/\l<o/\x<=l/\l<n-d_/\b (d_+l)=d!)
   (Q:=λc F'=>F'=st/\∃l o,c=(b!,l,o)/\l<o/\l<n-d_/\b (d_+l)=d!/\(o>=n-d_\/(d_+o<n/\b (d_+o)=e!))) ?_ ?_ ⟨rfl,0,1,rfl,0x1,0x1,0x1,c⟩) ?_)
  ·rintro x c F' _ hx ⟨rfl,l,o,rfl,h1,h2,h3,h4⟩;dsimp only;by_cases ho:o>=n-d_
   ·rw[é ho];exact j? ⟨rfl,l,o,rfl,h1,h3,h4,.inl ho⟩
   ·rw[è ho];refine h! (ask (d_+o) _ 0x1 ?_);dsimp only;cases c2:b (d_+o)with
    |true=>exact j? ⟨rfl,o,2*o+1,rfl,0x1,0x1,0x1,c2⟩
    |false=>exact j? ⟨rfl,l,o,rfl,h1,h3,h4,.inr ⟨0x1,c2⟩⟩
  ·rintro c F' ⟨rfl,l,o,rfl,h1,h2,h3,h4⟩;exact ê h2 0x1
  ·rintro c F' ⟨rfl,l,o,rfl,h1,h2,h3,h4⟩;dsimp only;have lo1:∀i,i<d_+l+1->b i=d!:=λi hi=>mono i (d_+l) 0x1 0x1 h3;have QO:∀i,d_+min o (n-d_)<=i->i<n->b i=e!:=λi q1 q2=>by
    obtain h4|⟨h4,h5⟩:=h4
    ·lia
    ·cases c3:b i with
     |false=>rfl
     |true=>rw[mono (d_+o) i 0x1 q2 c3]at h5;cases h5
   have lh:d_+l+1<=d_+min o (n-d_):=by lia
   have hn:d_+min o (n-d_)<=n:=by lia
   generalize d_+l+1=lo at *;generalize d_+min o (n-d_)=hi at *;clear h1 h2 h3 h4;refine h! (Xd (H? (I:=λx c Pe=>Pe=F'/\∃l o,c=(b!,l,o)/\l<=o/\o<=n/\o-l<=n-x/\(∀i,i<l->b i=d!)/\∀i,o<=i->i<n->b i=e!)
    (Q:=λc Pe=>Pe=F'/\∃l,c=(b!,l,l)/\l<=n/\(∀i,i<l->b i=d!)/\∀i,l<=i->i<n->b i=e!) ?_ ?_ ⟨rfl,lo,hi,rfl,lh,hn,0x1,lo1,QO⟩) ?_)
   ·rintro x c Pe _ hx ⟨rfl,l,o,rfl,q1,q2,q3,q4,q5⟩;dsimp only;by_cases Qt:l>=o
    ·rw[é Qt];have:l=o:=by lia
     subst this;exact j? ⟨rfl,l,rfl,q2,q4,q5⟩
    ·rw[è Qt];refine h! (ask (l+(o-l) / 2) _ 0x1 ?_);dsimp only;cases c2:b (l+(o-l) / 2)with
     |true=>exact j? ⟨rfl,_,_,rfl,0x1,q2,0x1,λi hi=>mono i _ 0x1 0x1 c2,q5⟩
     |false=>
      refine j? ⟨rfl,_,_,rfl,0x1,0x1,0x1,q4,λi u1 u2=>?_⟩;cases c3:b i with
      |false=>rfl
      |true=>rw[mono _ i u1 u2 c3]at c2;cases c2
   ·rintro c Pe ⟨rfl,l,o,rfl,q1,q2,q3,q4,q5⟩;have:l=o:=by lia
    subst this;exact⟨rfl,l,rfl,q2,q4,q5⟩
   ·rintro c Pe ⟨rfl,l,rfl,q2,q4,q5⟩;exact j? (h l q2 q4 q5)
 |false=>
  rw[è 0x4];refine h! (Xd (H? (I:=λx c F'=>F'=st/\∃l o,c=(b!,l,o)/\l<o/\x<=l/\l<=d_/\b (d_-l)=e!)
   (Q:=λc F'=>F'=st/\∃l o,c=(b!,l,o)/\l<o/\l<=d_/\b (d_-l)=e!/\(o>=d_+1\/(o<=d_/\b (d_-o)=d!))) ?_ ?_ ⟨rfl,0,1,rfl,0x1,0x1,0x1,c⟩) ?_)
  ·rintro x c F' _ hx ⟨rfl,l,o,rfl,h1,h2,h3,h4⟩;dsimp only;by_cases ho:o>=d_+1
   ·rw[é ho];exact j? ⟨rfl,l,o,rfl,h1,h3,h4,.inl ho⟩
   ·rw[è ho];refine h! (ask (d_-o) _ 0x1 ?_);dsimp only;cases c2:b (d_-o)with
    |true=>exact j? ⟨rfl,l,o,rfl,h1,h3,h4,.inr ⟨0x1,c2⟩⟩
    |false=>exact j? ⟨rfl,o,2*o+1,rfl,0x1,0x1,0x1,c2⟩
  ·rintro c F' ⟨rfl,l,o,rfl,h1,h2,h3,h4⟩;exact ê h2 0x1
  ·rintro c F' ⟨rfl,l,o,rfl,h1,h2,h3,h4⟩;dsimp only;have lo1:∀i,i<d_+1-min o (d_+1)->b i=d!:=λi hi=>by
    obtain h4|⟨h4,h5⟩:=h4
    ·lia
    ·exact mono i (d_-o) 0x1 0x1 h5
   have QO:∀i,d_-l<=i->i<n->b i=e!:=λi q1 q2=>by
    cases c3:b i with
    |false=>rfl
    |true=>rw[mono (d_-l) i 0x1 q2 c3]at h3;cases h3
   have lh:d_+1-min o (d_+1)<=d_-l:=by lia
   have hn:d_-l<=n:=by lia
   generalize d_+1-min o (d_+1)=lo at *;generalize d_-l=hi at *;clear h1 h2 h3 h4;refine h! (Xd (H? (I:=λx c Pe=>Pe=F'/\∃l o,c=(b!,l,o)/\l<=o/\o<=n/\o-l<=n-x/\(∀i,i<l->b i=d!)/\∀i,o<=i->i<n->b i=e!)
    (Q:=λc Pe=>Pe=F'/\∃l,c=(b!,l,l)/\l<=n/\(∀i,i<l->b i=d!)/\∀i,l<=i->i<n->b i=e!) ?_ ?_ ⟨rfl,lo,hi,rfl,lh,hn,0x1,lo1,QO⟩) ?_)
   ·rintro x c Pe _ hx ⟨rfl,l,o,rfl,q1,q2,q3,q4,q5⟩;dsimp only;by_cases Qt:l>=o
    ·rw[é Qt];have:l=o:=by lia
     subst this;exact j? ⟨rfl,l,rfl,q2,q4,q5⟩
    ·rw[è Qt];refine h! (ask (l+(o-l) / 2) _ 0x1 ?_);dsimp only;cases c2:b (l+(o-l) / 2)with
     |true=>exact j? ⟨rfl,_,_,rfl,0x1,q2,0x1,λi hi=>mono i _ 0x1 0x1 c2,q5⟩
     |false=>
      refine j? ⟨rfl,_,_,rfl,0x1,0x1,0x1,q4,λi u1 u2=>?_⟩;cases c3:b i with
      |false=>rfl
      |true=>rw[mono _ i u1 u2 c3]at c2;cases c2
   ·rintro c Pe ⟨rfl,l,o,rfl,q1,q2,q3,q4,q5⟩;have:l=o:=by lia
    subst this;exact⟨rfl,l,rfl,q2,q4,q5⟩
   ·rintro c Pe ⟨rfl,l,rfl,q2,q4,q5⟩;exact j? (h l q2 q4 q5)
end
def Le(bv:u!->List Int)(x y:u!):Prop:=ll (bv y) (bv x)=e!
section
variable{bv:u!->List Int}
def Le.refl(x:u!):Le bv x x:=d8 _
def Le.trans{x y z:u!}(h1:Le bv x y)(h2:Le bv y z):Le bv x z:=g9 h1 h2
variable{x y:u!}
def Le.of_lt(h:ll (bv x) (bv y)=d!):Le bv x y:=f7 h
def fE(bv:u!->List Int)(arr:Array u!)(lo hi:Nat):Prop:=∀i j x y,lo<=i->i<=j->j<hi->arr[i]?=a! x->arr[j]?=a! y->Le bv x y
variable{arr:Array u!}
def kF:arr.toList.Pairwise (Le bv)↔fE bv arr 0 arr.size:=by
 constructor
 ·intro h i j x y _ Ry hj ex ey;obtain OL|hge:=Ya i j
  ·obtain⟨Pz,rfl⟩:=Ou.mp ex;obtain⟨PQ,rfl⟩:=Ou.mp ey;have:=V!.mp h i j (by simpa using Pz) (by simpa using PQ) OL;simpa using this
  ·have:i=j:=by lia
   subst this;rw[ex]at ey;cases ey;exact Le.refl _
 ·intro h;refine V!.mpr λi j hi hj Ry=>?_;have Pz:i<arr.size:=by simpa using hi
  have PQ:j<arr.size:=by simpa using hj
  exact h i j _ _ (Ov _) (Yw Ry) PQ (by simp[Pz]) (by simp[PQ])
variable{i:Nat}
def dJ(h:i<arr.size):∃x,arr[i]?=a! x/\x∈arr.toList:=⟨arr[i],by simp[h],0x4⟩
theorem jM(h:y∈arr.toList.drop i):∃j,i<=j/\j<arr.size/\arr[j]?=a! y:=by
 obtain⟨j,hj,rfl⟩:=Xr h;simp at hj;refine⟨i+j,0x1,0x1,?_⟩;have:i+j<arr.size:=by lia
 simp[this]
theorem j9(h:y∈arr.toList.take i):∃j,j<i/\j<arr.size/\arr[j]?=a! y:=by
 obtain⟨j,hj,rfl⟩:=Xr h;simp at hj;refine⟨j,0x1,0x1,?_⟩;have:j<arr.size:=by lia
 simp[this]
variable{k:Nat}
theorem gd(h:y∈(arr.extract i k).toList):∃j,i<=j/\j<k/\j<arr.size/\arr[j]?=a! y:=by
 obtain⟨j,hj,rfl⟩:=Xr h;simp at hj;refine⟨i+j,0x1,0x1,0x1,?_⟩;have:i+j<arr.size:=by lia
 simp[this]
def pV:(arr.extract i).toList=arr.toList.drop i:=by rw[Y6,Yx];exact W! 0x4
def kU:(arr.extract 0 i).toList=arr.toList.take i:=by rw[Y6,Yx];rfl
def ze(h:arr[i]?=a! x):arr.toList.drop i=x::arr.toList.drop (i+1):=by
 obtain⟨hi,rfl⟩:=Ou.mp h;have Pz:i<arr.toList.length:=by simpa using hi
 rw[L? Pz];simp
def An(h:arr[i]?=a! x):arr.toList.take (i+1)=arr.toList.take i++[x]:=by
 obtain⟨hi,rfl⟩:=Ou.mp h;have Pz:i<arr.toList.length:=by simpa using hi
 rw[List.take_succ_eq_append_getElem Pz];simp
theorem wj:arr.toList.drop i=(arr.extract i (i+k)).toList++arr.toList.drop (i+k):=by rw[Y6,Yx,<-List.drop_drop,show i+k-i=k by lia,XD]
theorem nh(h:i<=k):arr.toList.take k=arr.toList.take i++(arr.extract i k).toList:=by
 rw[Y6,Yx]
 conv=>lhs;rw[show k=i+(k-i) by lia,List.take_add]
structure MI(bv:u!->List Int)(la lb o ra rb:List u!):Prop where
 perm:(o++(ra++rb)).Perm (la++lb)
 so:o.Pairwise (Le bv)
 sa:ra.Pairwise (Le bv)
 sb:rb.Pairwise (Le bv)
 oa:∀x∈o,∀y∈ra,Le bv x y
 ob:∀x∈o,∀y∈rb,Le bv x y
def mF(bv:u!->List Int)(la lb r:List u!):Prop:=r.Perm (la++lb)/\r.Pairwise (Le bv)
variable{la lb o ra rb:List u!}
def MI.a{c:List u!}(h:MI bv la lb o (c++ra) rb)(hc:∀x∈c,∀y∈rb,Le bv x y):MI bv la lb (o++c) ra rb:=by
 obtain⟨p,so,sa,sb,oa,ob⟩:=h;obtain⟨s1,s2,s3⟩:=Ot.mp sa;refine⟨?_,Ot.mpr ⟨so,s1,λx hx y hy=>oa x hx y (N5 _ hy)⟩,s2,sb,λx hx y hy=>?_,λx hx y hy=>?_⟩
 ·simpa using p
 ·obtain q|q:=Og.mp hx
  ·exact oa x q y (N4 _ hy)
  ·exact s3 x q y hy
 ·obtain q|q:=Og.mp hx
  ·exact ob x q y hy
  ·exact hc x q y hy
def MI.b{c:List u!}(h:MI bv la lb o ra (c++rb))(hc:∀x∈c,∀y∈ra,Le bv x y):MI bv la lb (o++c) ra rb:=by
 obtain⟨p,so,sa,sb,oa,ob⟩:=h;obtain⟨s1,s2,s3⟩:=Ot.mp sb;refine⟨?_,Ot.mpr ⟨so,s1,λx hx y hy=>ob x hx y (N5 _ hy)⟩,sa,s2,λx hx y hy=>?_,λx hx y hy=>?_⟩
 ·refine Į ?_ p;have:(c++(ra++rb)).Perm (ra++(c++rb)):=by rw[<-t?,<-t?];exact XE.append_right _
  rw[t?];exact this.append_left o
 ·obtain q|q:=Og.mp hx
  ·exact oa x q y hy
  ·exact hc x q y hy
 ·obtain q|q:=Og.mp hx
  ·exact ob x q y (N4 _ hy)
  ·exact s3 x q y hy
def MI.ab(h:MI bv la lb o ra rb)(hc:∀x∈ra,∀y∈rb,Le bv x y):mF bv la lb (o++ra++rb):=by have h1:MI bv la lb (o++ra) [] rb:=MI.a (by simpa using h) hc;have h2:MI bv la lb (o++ra++rb) [] []:=MI.b (by simpa using h1) (λq q q hy=>nomatch hy);exact⟨by simpa using h2.perm,h2.so⟩
def MI.ba(h:MI bv la lb o ra rb)(hc:∀x∈rb,∀y∈ra,Le bv x y):mF bv la lb (o++rb++ra):=by have h1:MI bv la lb (o++rb) ra []:=MI.b (by simpa using h) hc;have h2:MI bv la lb (o++rb++ra) [] []:=MI.a (by simpa using h1) (λq q q hy=>nomatch hy);exact⟨by simpa using h2.perm,h2.so⟩
end
structure Sm(st F':G!):Prop where
 kind:kindOf F'=kindOf st
 arr:k! F'=k! st
 pend:t! F'=t! st
 failed:YA F'=YA st
def Sm.refl(st:G!):Sm st st:=⟨rfl,rfl,rfl,rfl⟩
def Sm.trans{a b c:G!}(h1:Sm a b)(h2:Sm b c):Sm a c:=⟨h2.kind.trans h1.kind,h2.arr.trans h1.arr,h2.pend.trans h1.pend,h2.failed.trans h1.failed⟩
noncomputable def Mb:Nat->StateT G! ý Unit:=sortPriv% PySem.Builtin.setMinGallop
section
variable{M:â}{A:A?}{E:b?->d?->Prop}{s:d?}{κ:X?}{bv:u!->List Int}{P:u!->Prop}
variable{st:G!}
def uC{g:Nat}{Q:Unit->G!->Prop}(h:∀F',Sm st F'->Q () F'):Ċ M A E s (Mb g) Q st:=X1 (h _ ⟨rfl,rfl,rfl,rfl⟩)
def l0(hA:o5 M A E s κ bv P){k:u!}{arr:Array u!}{base n d_:Nat}{Q:Option Nat->G!->Prop}(hk:kindOf st=κ)(TB:P k)(hz:base+n<=arr.size)(hP:∀x∈arr.toList,P x)(hs:fE bv arr base (base+n))(hh:d_<n)(h:∀r,r<=n->(∀i x,base<=i->i<base+r->arr[i]?=a! x->Le bv x k)->(∀i x,base+r<=i->i<base+n->arr[i]?=a! x->ll (bv k) (bv x)=d!)->Q (a! r) st):
  Ċ M A E s (uh e! k arr base n d_) Q st:=by
 have get:∀i,i<n->arr[base+i]?=a! (arr[base+i]?.getD k):=λi hi=>by obtain⟨x,ex,_⟩:=dJ (arr:=arr) (i:=base+i) 0x1;rw[ex];rfl
 refine sU hA hk (λi hi=>?_) TB hh (λi=>MG bv e! k (arr[base+i]?.getD k)) (λi x hi ex=>by rw[ex];rfl) (λi j Ry hj hb=>?_) λr hr h1 h2=>h r hr (λi x q1 q2 ex=>?_) (λi x q1 q2 ex=>?_)
 ·obtain⟨x,ex,mx⟩:=dJ (arr:=arr) (i:=base+i) 0x1;exact⟨x,ex,hP x mx⟩
 ·have A_:=hs (base+i) (base+j) _ _ 0x1 0x1 0x1 (get i 0x1) (get j hj);show(!ll (bv k) (bv (arr[base+i]?.getD k)))=d!;have Pc:(!ll (bv k) (bv (arr[base+j]?.getD k)))=d!:=hb;have q:ll (bv k) (bv (arr[base+j]?.getD k))=e!:=by simpa using Pc
  have:ll (bv k) (bv (arr[base+i]?.getD k))=e!:=Le.trans A_ q;rw[this];rfl
 ·have:=h1 (i-base) 0x1;rw[show base+(i-base)=i by lia,ex]at this;have t:(!ll (bv k) (bv x))=d!:=this;exact(by simpa using t:ll (bv k) (bv x)=e!)
 ·have:=h2 (i-base) 0x1 0x1;rw[show base+(i-base)=i by lia,ex]at this;have t:(!ll (bv k) (bv x))=e!:=this;simpa using t
def mw(hA:o5 M A E s κ bv P){k:u!}{arr:Array u!}{base n d_:Nat}{Q:Option Nat->G!->Prop}(hk:kindOf st=κ)(TB:P k)(hz:base+n<=arr.size)(hP:∀x∈arr.toList,P x)(hs:fE bv arr base (base+n))(hh:d_<n)(h:∀r,r<=n->(∀i x,base<=i->i<base+r->arr[i]?=a! x->ll (bv x) (bv k)=d!)->(∀i x,base+r<=i->i<base+n->arr[i]?=a! x->Le bv k x)->Q (a! r) st):
  Ċ M A E s (uh d! k arr base n d_) Q st:=by
 have get:∀i,i<n->arr[base+i]?=a! (arr[base+i]?.getD k):=λi hi=>by obtain⟨x,ex,_⟩:=dJ (arr:=arr) (i:=base+i) 0x1;rw[ex];rfl
 refine sU hA hk (λi hi=>?_) TB hh (λi=>MG bv d! k (arr[base+i]?.getD k)) (λi x hi ex=>by rw[ex];rfl) (λi j Ry hj hb=>?_) λr hr h1 h2=>h r hr (λi x q1 q2 ex=>?_) (λi x q1 q2 ex=>?_)
 ·obtain⟨x,ex,mx⟩:=dJ (arr:=arr) (i:=base+i) 0x1;exact⟨x,ex,hP x mx⟩
 ·have A_:=hs (base+i) (base+j) _ _ 0x1 0x1 0x1 (get i 0x1) (get j hj);have Pc:ll (bv (arr[base+j]?.getD k)) (bv k)=d!:=hb;show ll (bv (arr[base+i]?.getD k)) (bv k)=d!;cases c:ll (bv (arr[base+i]?.getD k)) (bv k)with
  |true=>rfl
  |false=>
   have:ll (bv (arr[base+j]?.getD k)) (bv k)=e!:=Le.trans c A_;rw[this]at Pc;cases Pc
 ·have:=h1 (i-base) 0x1;rwa[show base+(i-base)=i by lia,ex]at this
 ·have:=h2 (i-base) 0x1 0x1;rwa[show base+(i-base)=i by lia,ex]at this
end
noncomputable def Dx:Array u!->Array u!->StateT G! ý (Array u!):=sortPriv% PySem.Builtin.mergeLo
section
variable{M:â}{A:A?}{E:b?->d?->Prop}{s:d?}{κ:X?}{bv:u!->List Int}{P:u!->Prop}
structure LoA(bv:u!->List Int)(a b:Array u!)(out:Array u!)(ia ib:Nat):Prop where
 mi:MI bv a.toList b.toList out.toList (a.toList.drop ia) (b.toList.drop ib)
 ha:ia+1<a.size
 hb:ib<b.size
variable{st:G!}
set_option tactic.hygienic true in
def DM{M A E s}{α β:Type}{F:α->StateT G! ý β}{T:StateT G! ý β}{c:Prop}{_:Decidable c}{x:α}{Q:β->G!->Prop}(h:∀x,Ċ M A E s (F x) Q st)(t:c->(∀x,Ċ M A E s (F x) Q st)->Ċ M A E s T Q st):Ċ M A E s (if c then T else F x) Q st:=by
 split
 ·rename_i e;exact t e h
 ·exact h x
set_option tactic.hygienic true in
def uw{M A E s}{α γ β:Type}{F:α->γ->StateT G! ý β}{T:StateT G! ý β}{c:Prop}{_:Decidable c}{x:α}{y:γ}{P:α->γ->Prop}{Q:β->G!->Prop}(h:∀x y,P x y->Ċ M A E s (F x y) Q st)(p:¬c->P x y)(t:c->(∀x y,P x y->Ċ M A E s (F x y) Q st)->Ċ M A E s T Q st):Ċ M A E s (if c then T else F x y) Q st:=by
 split
 ·rename_i e;exact t e h
 ·rename_i e;exact h x y (p e)
def yZ(hA:o5 M A E s κ bv P){a b:Array u!}{Q:Array u!->G!->Prop}(hk:kindOf st=κ)(pa:∀x∈a.toList,P x)(pb:∀x∈b.toList,P x)(za:0<a.size)(zb:0<b.size)(sa:a.toList.Pairwise (Le bv))(sb:b.toList.Pairwise (Le bv))(first:∀y,b[0]?=a! y->∀x∈a.toList,Le bv y x)(x_:∀z,a[a.size-1]?=a! z->∀y∈b.toList,Le bv y z)(h:∀r F',Sm st F'->mF bv a.toList b.toList r.toList->Q r F'):Ċ M A E s (Dx a b) Q st:=by
 have Sa:fE bv a 0 a.size:=kF.mp sa;have Sb:fE bv b 0 b.size:=kF.mp sb;have OY:∀(out:Array u!)(ia ib:Nat),MI bv a.toList b.toList out.toList (a.toList.drop ia) (b.toList.drop ib)->(ib=b.size\/ia=a.size)->mF bv a.toList b.toList (out++a.extract ia++b.extract ib).toList:=λout ia ib mi hc=>by
  rw[R!,R!,pV,pV];refine mi.ab λx hx y hy=>?_;obtain hc|hc:=hc
  ·rw[hc,Ĝ 0x4]at hy;cases hy
  ·rw[hc,Ĝ 0x4]at hx;cases hx
 have QQ:∀(out:Array u!)(ia ib:Nat),MI bv a.toList b.toList out.toList (a.toList.drop ia) (b.toList.drop ib)->ia+1=a.size->mF bv a.toList b.toList (out++b.extract ib++a.extract ia).toList:=λout ia ib mi hc=>by
  rw[R!,R!,pV,pV];refine mi.ba λx hx y hy=>?_;obtain⟨j,j1,j2,ej⟩:=jM hy;have:j=a.size-1:=by lia
  subst this;exact x_ y ej x (List.mem_of_mem_drop hx)
 have PR:∀(out:Array u!)(ia ib:Nat)(x:u!),MI bv a.toList b.toList out.toList (a.toList.drop ia) (b.toList.drop ib)->b[ib]?=a! x->(∀z,a[ia]?=a! z->Le bv x z)->MI bv a.toList b.toList (out.push x).toList (a.toList.drop ia) (b.toList.drop (ib+1)):=λout ia ib x mi ex hx=>by rw[ze ex]at mi;rw[Xm];refine MI.b (c:=[x]) (by simpa using mi) λu hu y hy=>?_;rw[Oi.mp hu];obtain⟨j,j1,j2,ej⟩:=jM hy;obtain⟨z,ez,_⟩:=dJ (arr:=a) (i:=ia) 0x1;exact(hx z ez).trans (Sa ia j z y (Ov _) j1 j2 ez ej)
 have PU:∀(out:Array u!)(ia ib:Nat)(x:u!),MI bv a.toList b.toList out.toList (a.toList.drop ia) (b.toList.drop ib)->a[ia]?=a! x->(∀z,b[ib]?=a! z->Le bv x z)->MI bv a.toList b.toList (out.push x).toList (a.toList.drop (ia+1)) (b.toList.drop ib):=λout ia ib x mi ex hx=>by rw[ze ex]at mi;rw[Xm];refine MI.a (c:=[x]) (by simpa using mi) λu hu y hy=>?_;rw[Oi.mp hu];obtain⟨j,j1,j2,ej⟩:=jM hy;obtain⟨z,ez,_⟩:=dJ (arr:=b) (i:=ib) 0x1;exact(hx z ez).trans (Sb ib j z y (Ov _) j1 j2 ez ej)
 refine h! (ZP (Yz ⟨rfl,?_⟩));obtain⟨y0,VY,my0⟩:=dJ (arr:=b) (i:=0) zb;refine h! (bL VY ?_);dsimp only;have SS:MI bv a.toList b.toList (#[y0]:Array u!).toList (a.toList.drop 0) (b.toList.drop 1):=by
  have:MI bv a.toList b.toList (#[]:Array u!).toList (a.toList.drop 0) (b.toList.drop 0):=⟨0x4,S?,by simpa using sa,by simpa using sb,λo hx=>(by simp at hx),λo hx=>(by simp at hx)⟩;exact PR #[] 0 0 y0 this VY λz ez=>first y0 VY z (by obtain⟨hz,rfl⟩:=Ou.mp ez;simp)
 by_cases c1:(1==b.size)=d!
 ·rw[é c1];exact j? (h _ _ (Sm.refl _) (OY _ _ _ SS (.inl (by simpa using c1))))
 rw[è c1];have VO:1≠b.size:=by simpa using c1
 by_cases c2:(0+1==a.size)=d!
 ·rw[é c2];exact j? (h _ _ (Sm.refl _) (QQ _ _ _ SS (by simpa using c2)))
 rw[è c2];have Wg:0+1≠a.size:=by simpa using c2
 refine h! (Y3 ?_);refine h! (Xd (H?
  (I:=λx c F'=>Sm st F'/\∃out ia ib g,c=(b!,out,ia,ib,g)/\LoA bv a b out ia ib/\x+1<=ia+ib)
  (Q:=λc F'=>Sm st F'/\∃r bU,c=(a! r,bU)/\mF bv a.toList b.toList r.toList) ?ĳ ?fin ⟨Sm.refl _,_,_,_,_,rfl,⟨SS,0x1,0x1⟩,0x1⟩) ?post)
 case post=>
  rintro c F' ⟨hS,r,bU,rfl,hr⟩;exact j? (h r F' hS hr)
 case fin=>
  rintro c F' ⟨hS,out,ia,ib,g,rfl,hL,hx⟩;have:=hL.ha;have:=hL.hb;exact ê hx 0x1
 case ĳ=>
  rintro x c OH _ hx ⟨S0,out,ia,ib,g,rfl,hL,hxx⟩;dsimp only;refine h! (Xd (H?
   (I:=λy c F'=>F'=OH/\∃out OZ OV ac bc,c=(b!,out,OZ,OV,ac,bc)/\LoA bv a b out OZ OV/\ia+ib+y<=OZ+OV)
   (Q:=λc F'=>F'=OH/\((∃r bU,c=(a! r,bU)/\mF bv a.toList b.toList r.toList)\/∃out OZ OV ac bc,c=(b!,out,OZ,OV,ac,bc)/\LoA bv a b out OZ OV/\ia+ib+1<=OZ+OV))
   ?istep ?ifin ⟨rfl,_,_,_,_,_,rfl,hL,N6 _⟩) ?ipost)
  case ifin=>
   rintro c F' ⟨rfl,out,OZ,OV,ac,bc,rfl,OS,hy⟩;exact⟨rfl,.inr ⟨_,_,_,_,_,rfl,OS,0x1⟩⟩
  case istep=>
   rintro y c F' _ hy ⟨rfl,out,OZ,OV,ac,bc,rfl,OS,Sn⟩;dsimp only;obtain⟨Q3,Pc⟩:=And.intro OS.ha OS.hb;obtain⟨xb,Qe,SY⟩:=dJ (arr:=b) (i:=OV) Pc;obtain⟨xa,RL,WB⟩:=dJ (arr:=a) (i:=OZ) 0x1;refine h! (bL Qe (h! (bL RL (h! (hA xb xa _ _ (S0.kind.trans hk) (pb _ SY) (pa _ WB) ?_)))));dsimp only;cases c3:ll (bv xb) (bv xa)with
   |true=>
    rw[é rfl];refine h! (bL Qe ?_);have Rh:=PR out OZ OV xb OS.mi Qe (λz ez=>by rw[RL]at ez;cases ez;exact Le.of_lt c3);by_cases c4:(OV+1==b.size)=d!
    ·rw[é c4];exact j? ⟨rfl,.inl ⟨_,_,rfl,OY _ _ _ Rh (.inl (by simpa using c4))⟩⟩
    ·rw[è c4];have Wo:OV+1≠b.size:=by simpa using c4
     have QI:LoA bv a b (out.push xb) OZ (OV+1):=⟨Rh,Q3,0x1⟩;by_cases c5:bc+1>=g
     ·rw[é c5];exact j? ⟨rfl,.inr ⟨_,_,_,_,_,rfl,QI,0x1⟩⟩
     ·rw[è c5];exact j? ⟨rfl,_,_,_,_,_,rfl,QI,0x1⟩
   |false=>
    rw[è 0x4];refine h! (bL RL ?_);have Rh:=PU out OZ OV xa OS.mi RL (λz ez=>by rw[Qe]at ez;cases ez;exact c3);by_cases c4:(OZ+1+1==a.size)=d!
    ·rw[é c4];exact j? ⟨rfl,.inl ⟨_,_,rfl,QQ _ _ _ Rh (by simpa using c4)⟩⟩
    ·rw[è c4];have Wo:OZ+1+1≠a.size:=by simpa using c4
     have QI:LoA bv a b (out.push xa) (OZ+1) OV:=⟨Rh,0x1,Pc⟩;by_cases c5:ac+1>=g
     ·rw[é c5];exact j? ⟨rfl,.inr ⟨_,_,_,_,_,rfl,QI,0x1⟩⟩
     ·rw[è c5];exact j? ⟨rfl,_,_,_,_,_,rfl,QI,0x1⟩
  case ipost=>
   rintro c F' ⟨rfl,hc⟩;obtain⟨r,bU,rfl,hr⟩|⟨out,ia2,ib2,ac,bc,rfl,QI,hy2⟩:=hc
   ·dsimp only;exact j? ⟨S0,r,_,rfl,hr⟩
   dsimp only;refine h! (ZP (Yz ⟨rfl,?_⟩));refine h! (Xd (H?
    (I:=λy c F'=>Sm st F'/\∃out OZ OV g ac bc,c=(b!,out,OZ,OV,g,ac,bc)/\LoA bv a b out OZ OV/\ia2+ib2<=OZ+OV)
    (Q:=λc F'=>Sm st F'/\((∃r bU,c=(a! r,bU)/\mF bv a.toList b.toList r.toList)\/∃out OZ OV g ac bc,c=(b!,out,OZ,OV,g,ac,bc)/\LoA bv a b out OZ OV/\ia2+ib2<=OZ+OV))
    ?gstep ?gfin ⟨S0,_,_,_,_,_,_,rfl,QI,N6 _⟩) ?gpost)
   case gfin=>
    rintro c F' ⟨hS,out,OZ,OV,g,ac,bc,rfl,OS,hy⟩;exact⟨hS,.inr ⟨_,_,_,_,_,_,rfl,OS,hy⟩⟩
   case gpost=>
    rintro c F' ⟨hS,hc⟩;obtain⟨r,bU,rfl,hr⟩|⟨out,ia3,ib3,g,ac,bc,rfl,hL3,Sr⟩:=hc
    ·dsimp only;exact j? ⟨hS,r,_,rfl,hr⟩
    dsimp only;refine h! (X1 (j? ⟨hS.trans ⟨rfl,rfl,rfl,rfl⟩,_,_,_,_,rfl,hL3,0x1⟩))
   case gstep=>
    rintro y c ON _ hy ⟨hS2,out,OZ,OV,g,ac,bc,rfl,OS,Sn⟩;dsimp only;have Q3:=OS.ha;have Pc:=OS.hb;obtain⟨xb,Qe,SY⟩:=dJ (arr:=b) (i:=OV) Pc;apply DM (x:=g)
    case t=>exact λo K=>K _
    intro g;refine h! (uC λO9 Ro=>?_);have P6:=hS2.trans Ro;refine h! (bL Qe ?_);refine h! (l0 hA (P6.kind.trans hk) (pb _ SY) 0x1 pa (λi j x y q1 q2 q3=>Sa i j x y (Ov _) q2 0x1) 0x1 λk w1 w2 w3=>?_);dsimp only;apply uw (x:=out) (y:=OZ) (P:=λout ia=>MI bv a.toList b.toList out.toList (a.toList.drop ia) (b.toList.drop OV)/\ia+1<a.size/\(∀z,a[ia]?=a! z->Le bv xb z)/\ia2+ib2<=ia+OV)
    case p=>exact λq=>⟨OS.mi,Q3,λz ez=>Le.of_lt (w3 _ z 0x1 0x1 ez),Sn⟩
    case h=>
     clear w1 w2 w3 OS Q3 Sn;rintro Rj Q5 ⟨Rv,lt1,low,ow⟩;obtain⟨RH,Qk,Tb⟩:=dJ (arr:=a) (i:=Q5) 0x1;refine h! (bL Qe ?_);have QC:=PR Rj Q5 OV xb Rv Qe low;by_cases e3:(OV+1==b.size)=d!
     ·rw[é e3];exact j? ⟨P6,.inl ⟨_,_,rfl,OY _ _ _ QC (.inl (by simpa using e3))⟩⟩
     rw[è e3];have e3':OV+1≠b.size:=by simpa using e3
     have RJ:ia2+ib2+1<=Q5+(OV+1):=by lia
     have VE:OV+1<b.size:=by lia
     clear e3;generalize Rj.push xb=Pa at *;generalize OV+1=ib1 at *;refine h! (bL Qk ?_);refine h! (mw hA (P6.kind.trans hk) (pa _ Tb) 0x1 pb (λi j x y q1 q2 q3=>Sb i j x y (Ov _) q2 0x1) 0x1 λk2 u1 u2 u3=>?_);dsimp only;apply uw (x:=Pa) (y:=ib1) (P:=λout ib=>MI bv a.toList b.toList out.toList (a.toList.drop Q5) (b.toList.drop ib)/\ib<b.size/\(∀z,b[ib]?=a! z->Le bv RH z)/\ia2+ib2<=Q5+1+ib)
     case p=>exact λq=>⟨QC,VE,λz ez=>u3 _ z 0x1 0x1 ez,0x1⟩
     case h=>
      rintro Pa ibz ⟨Ru,ltz,up2,RJ⟩;refine h! (bL Qk ?_);have Ut:=PU Pa Q5 ibz RH Ru Qk up2;by_cases d1:(Q5+1+1==a.size)=d!
      ·rw[é d1];exact j? ⟨P6,.inl ⟨_,_,rfl,QQ _ _ _ Ut (by simpa using d1)⟩⟩
      rw[è d1];have d1':Q5+1+1≠a.size:=by simpa using d1
      have TV:LoA bv a b (Pa.push RH) (Q5+1) ibz:=⟨Ut,0x1,0x1⟩;split
      ·exact j? ⟨P6,.inr ⟨_,_,_,_,_,_,rfl,TV,0x1⟩⟩
      ·exact j? ⟨P6,_,_,_,_,_,_,rfl,TV,0x1⟩
     intro q K;have Ru:MI bv a.toList b.toList (Pa++b.extract ib1 (ib1+k2)).toList (a.toList.drop Q5) (b.toList.drop (ib1+k2)):=by rw[R!];refine MI.b (by rw[<-wj];exact QC) λx hx y hy=>?_;obtain⟨i,i1,i2,i3,ei⟩:=gd hx;obtain⟨j,j1,j2,ej⟩:=jM hy;exact(Le.of_lt (u2 i x i1 i2 ei)).trans (Sa Q5 j RH y (Ov _) j1 j2 Qk ej)
     by_cases e4:(ib1+k2==b.size)=d!
     ·rw[é e4];exact j? ⟨P6,.inl ⟨_,_,rfl,OY _ _ _ Ru (.inl (by simpa using e4))⟩⟩
     rw[è e4];have e4':ib1+k2≠b.size:=by simpa using e4
     exact K _ _ ⟨Ru,0x1,λz ez=>u3 _ z (N6 _) 0x1 ez,0x1⟩
    intro q K;have Rv:MI bv a.toList b.toList (out++a.extract OZ (OZ+k)).toList (a.toList.drop (OZ+k)) (b.toList.drop OV):=by rw[R!];refine MI.a (by rw[<-wj];exact OS.mi) λx hx y hy=>?_;obtain⟨i,i1,i2,i3,ei⟩:=gd hx;obtain⟨j,j1,j2,ej⟩:=jM hy;exact(w2 i x i1 i2 ei).trans (Sb OV j xb y (Ov _) j1 j2 Qe ej)
    by_cases e1:(OZ+k+1==a.size)=d!
    ·rw[é e1];exact j? ⟨P6,.inl ⟨_,_,rfl,QQ _ _ _ Rv (by simpa using e1)⟩⟩
    rw[è e1];have VM:OZ+k+1≠a.size:=by simpa using e1
    by_cases e2:(OZ+k==a.size)=d!
    ·rw[é e2];exact j? ⟨P6,.inl ⟨_,_,rfl,OY _ _ _ Rv (.inr (by simpa using e2))⟩⟩
    rw[è e2];have U7:OZ+k≠a.size:=by simpa using e2
    exact K _ _ ⟨Rv,0x1,λz ez=>Le.of_lt (w3 _ z (N6 _) 0x1 ez),0x1⟩
end
noncomputable def DD:Array u!->Array u!->StateT G! ý (Array u!):=sortPriv% PySem.Builtin.mergeHi
section
variable{bv:u!->List Int}
structure MH(bv:u!->List Int)(la lb o ra rb:List u!):Prop where
 perm:(ra++rb++o).Perm (la++lb)
 so:o.Pairwise (Le bv)
 sa:ra.Pairwise (Le bv)
 sb:rb.Pairwise (Le bv)
 ao:∀x∈ra,∀y∈o,Le bv x y
 bo:∀x∈rb,∀y∈o,Le bv x y
variable{la lb o ra rb:List u!}
def MH.b{c:List u!}(h:MH bv la lb o ra (rb++c))(hc:∀x∈c,∀y∈ra,Le bv y x):MH bv la lb (c++o) ra rb:=by
 obtain⟨p,so,sa,sb,ao,bo⟩:=h;obtain⟨s1,s2,s3⟩:=Ot.mp sb;refine⟨by simpa using p,Ot.mpr ⟨s2,so,λx hx y hy=>bo x (N4 _ hx) y hy⟩,sa,s1,λx hx y hy=>?_,λx hx y hy=>?_⟩
 ·obtain q|q:=Og.mp hy
  ·exact hc y q x hx
  ·exact ao x hx y q
 ·obtain q|q:=Og.mp hy
  ·exact s3 x hx y q
  ·exact bo x (N5 _ hx) y q
def MH.a{c:List u!}(h:MH bv la lb o (ra++c) rb)(hc:∀x∈c,∀y∈rb,Le bv y x):MH bv la lb (c++o) ra rb:=by
 obtain⟨p,so,sa,sb,ao,bo⟩:=h;obtain⟨s1,s2,s3⟩:=Ot.mp sa;refine⟨?_,Ot.mpr ⟨s2,so,λx hx y hy=>ao x (N4 _ hx) y hy⟩,s1,sb,λx hx y hy=>?_,λx hx y hy=>?_⟩
 ·refine Į ?_ p;have:(rb++c).Perm (c++rb):=XE;have e1:ra++rb++(c++o)=ra++((rb++c)++o):=by simp
  have e2:ra++c++rb++o=ra++((c++rb)++o):=by simp
  rw[e1,e2];exact(this.append_right o).append_left ra
 ·obtain q|q:=Og.mp hy
  ·exact s3 x hx y q
  ·exact ao x (N5 _ hx) y q
 ·obtain q|q:=Og.mp hy
  ·exact hc y q x hx
  ·exact bo x hx y q
def MH.ab(h:MH bv la lb o ra rb)(hc:∀x∈ra,∀y∈rb,Le bv x y):mF bv la lb (ra++rb++o):=by have h1:MH bv la lb (rb++o) ra []:=MH.b (by simpa using h) (λx hx y hy=>hc y hy x hx);have h2:MH bv la lb (ra++(rb++o)) [] []:=MH.a (by simpa using h1) (λq q q hy=>nomatch hy);exact⟨by simpa using h2.perm,by simpa using h2.so⟩
def MH.ba(h:MH bv la lb o ra rb)(hc:∀x∈rb,∀y∈ra,Le bv x y):mF bv la lb (rb++ra++o):=by have h1:MH bv la lb (ra++o) [] rb:=MH.a (by simpa using h) (λx hx y hy=>hc y hy x hx);have h2:MH bv la lb (rb++(ra++o)) [] []:=MH.b (by simpa using h1) (λq q q hy=>nomatch hy);exact⟨by simpa using h2.perm,by simpa using h2.so⟩
end
section
variable{M:â}{A:A?}{E:b?->d?->Prop}{s:d?}{κ:X?}{bv:u!->List Int}{P:u!->Prop}
structure HiA(bv:u!->List Int)(a b:Array u!)(out:Array u!)(na nb:Nat):Prop where
 mi:MH bv a.toList b.toList out.reverse.toList (a.toList.take na) (b.toList.take nb)
 ha:0<na
 ha2:na<=a.size
 hb:1<nb
 hb2:nb<=b.size
def xV(hA:o5 M A E s κ bv P){a b:Array u!}{st:G!}{Q:Array u!->G!->Prop}(hk:kindOf st=κ)(pa:∀x∈a.toList,P x)(pb:∀x∈b.toList,P x)(za:0<a.size)(zb:0<b.size)(sa:a.toList.Pairwise (Le bv))(sb:b.toList.Pairwise (Le bv))(first:∀y,b[0]?=a! y->∀x∈a.toList,Le bv y x)(x_:∀z,a[a.size-1]?=a! z->∀y∈b.toList,Le bv y z)(h:∀r F',Sm st F'->mF bv a.toList b.toList r.toList->Q r F'):Ċ M A E s (DD a b) Q st:=by
 have Sa:fE bv a 0 a.size:=kF.mp sa;have Sb:fE bv b 0 b.size:=kF.mp sb;have OY:∀(out:Array u!)(na nb:Nat),MH bv a.toList b.toList out.reverse.toList (a.toList.take na) (b.toList.take nb)->(na=0\/nb=0)->mF bv a.toList b.toList (a.extract 0 na++b.extract 0 nb++out.reverse).toList:=λout na nb mi hc=>by
  rw[R!,R!,kU,kU];refine mi.ab λx hx y hy=>?_;obtain hc|hc:=hc
  ·rw[hc]at hx;cases hx
  ·rw[hc]at hy;cases hy
 have P7:∀(out:Array u!)(na nb:Nat),MH bv a.toList b.toList out.reverse.toList (a.toList.take na) (b.toList.take nb)->nb=1->mF bv a.toList b.toList (b.extract 0 nb++a.extract 0 na++out.reverse).toList:=λout na nb mi hc=>by
  rw[R!,R!,kU,kU];refine mi.ba λx hx y hy=>?_;obtain⟨j,j1,j2,ej⟩:=j9 hx;have:j=0:=by lia
  subst this;exact first x ej y (Ĭ hy)
 have PR:∀(out:Array u!)(na nb:Nat)(x:u!),MH bv a.toList b.toList out.reverse.toList (a.toList.take na) (b.toList.take nb)->0<nb->na<=a.size->b[nb-1]?=a! x->(∀z,0<na->a[na-1]?=a! z->Le bv z x)->MH bv a.toList b.toList (out.push x).reverse.toList (a.toList.take na) (b.toList.take (nb-1)):=λout na nb x mi h0 hz ex hx=>by
  have e:=An ex;rw[show nb-1+1=nb by lia]at e;rw[e]at mi;have er:(out.push x).reverse.toList=[x]++out.reverse.toList:=by simp
  rw[er];refine MH.b mi λu hu y hy=>?_;rw[Oi.mp hu];obtain⟨j,j1,j2,ej⟩:=j9 hy;obtain⟨z,ez,_⟩:=dJ (arr:=a) (i:=na-1) 0x1;exact(Sa j (na-1) y z (Ov _) 0x1 0x1 ej ez).trans (hx z 0x1 ez)
 have PU:∀(out:Array u!)(na nb:Nat)(x:u!),MH bv a.toList b.toList out.reverse.toList (a.toList.take na) (b.toList.take nb)->0<na->nb<=b.size->a[na-1]?=a! x->(∀z,0<nb->b[nb-1]?=a! z->Le bv z x)->MH bv a.toList b.toList (out.push x).reverse.toList (a.toList.take (na-1)) (b.toList.take nb):=λout na nb x mi h0 hz ex hx=>by
  have e:=An ex;rw[show na-1+1=na by lia]at e;rw[e]at mi;have er:(out.push x).reverse.toList=[x]++out.reverse.toList:=by simp
  rw[er];refine MH.a mi λu hu y hy=>?_;rw[Oi.mp hu];obtain⟨j,j1,j2,ej⟩:=j9 hy;obtain⟨z,ez,_⟩:=dJ (arr:=b) (i:=nb-1) 0x1;exact(Sb j (nb-1) y z (Ov _) 0x1 0x1 ej ez).trans (hx z 0x1 ez)
 refine h! (ZP (Yz ⟨rfl,?_⟩));obtain⟨z0,V9,mz0⟩:=dJ (arr:=a) (i:=a.size-1) 0x1;refine h! (bL V9 ?_);dsimp only;have SS:MH bv a.toList b.toList (#[z0]:Array u!).reverse.toList (a.toList.take (a.size-1)) (b.toList.take b.size):=by
  have:MH bv a.toList b.toList (#[]:Array u!).reverse.toList (a.toList.take a.size) (b.toList.take b.size):=by rw[W! 0x4,W! 0x4];exact⟨0x4,0x4,sa,sb,λo o o hx=>(by simp at hx),λo o o hx=>(by simp at hx)⟩
  exact PU #[] a.size b.size z0 this za (N6 _) V9 λz o ez=>x_ z0 V9 z (by obtain⟨hz,rfl⟩:=Ou.mp ez;simp)
 by_cases c1:(a.size-1==0)=d!
 ·rw[é c1];exact j? (h _ _ (Sm.refl _) (OY _ _ _ SS (.inl (by simpa using c1))))
 rw[è c1];have VO:a.size-1≠0:=by simpa using c1
 by_cases c2:(b.size==1)=d!
 ·rw[é c2];exact j? (h _ _ (Sm.refl _) (P7 _ _ _ SS (by simpa using c2)))
 rw[è c2];have Wg:b.size≠1:=by simpa using c2
 refine h! (Y3 ?_);refine h! (Xd (H?
  (I:=λx c F'=>Sm st F'/\∃na nb out g,c=(b!,na,nb,out,g)/\HiA bv a b out na nb/\x+1+(na+nb)<=a.size+b.size)
  (Q:=λc F'=>Sm st F'/\∃r bU,c=(a! r,bU)/\mF bv a.toList b.toList r.toList) ?ĳ ?fin ⟨Sm.refl _,_,_,_,_,rfl,⟨SS,0x1,0x1,0x1,0x1⟩,0x1⟩) ?post)
 case post=>
  rintro c F' ⟨hS,r,bU,rfl,hr⟩;exact j? (h r F' hS hr)
 case fin=>
  rintro c F' ⟨hS,na,nb,out,g,rfl,hL,hx⟩;have:=hL.ha;have:=hL.hb;exact ê hx 0x1
 case ĳ=>
  rintro x c OH _ hx ⟨S0,na,nb,out,g,rfl,hL,hxx⟩;dsimp only;refine h! (Xd (H?
   (I:=λy c F'=>F'=OH/\∃O6 OU out ac bc,c=(b!,O6,OU,out,ac,bc)/\HiA bv a b out O6 OU/\y+(O6+OU)<=na+nb)
   (Q:=λc F'=>F'=OH/\((∃r bU,c=(a! r,bU)/\mF bv a.toList b.toList r.toList)\/∃O6 OU out ac bc,c=(b!,O6,OU,out,ac,bc)/\HiA bv a b out O6 OU/\1+(O6+OU)<=na+nb))
   ?istep ?ifin ⟨rfl,_,_,_,_,_,rfl,hL,0x1⟩) ?ipost)
  case ifin=>
   rintro c F' ⟨rfl,O6,OU,out,ac,bc,rfl,OS,hy⟩;exact⟨rfl,.inr ⟨_,_,_,_,_,rfl,OS,0x1⟩⟩
  case istep=>
   rintro y c F' _ hy ⟨rfl,O6,OU,out,ac,bc,rfl,OS,Sn⟩;dsimp only;have q1:=OS.ha;have q2:=OS.ha2;have q3:=OS.hb;have q4:=OS.hb2;obtain⟨xb,Qe,SY⟩:=dJ (arr:=b) (i:=OU-1) 0x1;obtain⟨xa,RL,WB⟩:=dJ (arr:=a) (i:=O6-1) 0x1;refine h! (bL Qe (h! (bL RL (h! (hA xb xa _ _ (S0.kind.trans hk) (pb _ SY) (pa _ WB) ?_)))));dsimp only;cases c3:ll (bv xb) (bv xa)with
   |true=>
    rw[é rfl];refine h! (bL RL ?_);have Rh:=PU out O6 OU xa OS.mi q1 q4 RL (λz o ez=>by rw[Qe]at ez;cases ez;exact Le.of_lt c3);by_cases c4:(O6-1==0)=d!
    ·rw[é c4];exact j? ⟨rfl,.inl ⟨_,_,rfl,OY _ _ _ Rh (.inl (by simpa using c4))⟩⟩
    ·rw[è c4];have Wo:O6-1≠0:=by simpa using c4
     have QI:HiA bv a b (out.push xa) (O6-1) OU:=⟨Rh,0x1,0x1,0x1,0x1⟩;by_cases c5:ac+1>=g
     ·rw[é c5];exact j? ⟨rfl,.inr ⟨_,_,_,_,_,rfl,QI,0x1⟩⟩
     ·rw[è c5];exact j? ⟨rfl,_,_,_,_,_,rfl,QI,0x1⟩
   |false=>
    rw[è 0x4];refine h! (bL Qe ?_);have Rh:=PR out O6 OU xb OS.mi 0x1 q2 Qe (λz o ez=>by rw[RL]at ez;cases ez;exact c3);by_cases c4:(OU-1==1)=d!
    ·rw[é c4];exact j? ⟨rfl,.inl ⟨_,_,rfl,P7 _ _ _ Rh (by simpa using c4)⟩⟩
    ·rw[è c4];have Wo:OU-1≠1:=by simpa using c4
     have QI:HiA bv a b (out.push xb) O6 (OU-1):=⟨Rh,0x1,0x1,0x1,0x1⟩;by_cases c5:bc+1>=g
     ·rw[é c5];exact j? ⟨rfl,.inr ⟨_,_,_,_,_,rfl,QI,0x1⟩⟩
     ·rw[è c5];exact j? ⟨rfl,_,_,_,_,_,rfl,QI,0x1⟩
  case ipost=>
   rintro c F' ⟨rfl,hc⟩;obtain⟨r,bU,rfl,hr⟩|⟨na2,nb2,out,ac,bc,rfl,QI,hy2⟩:=hc
   ·dsimp only;exact j? ⟨S0,r,_,rfl,hr⟩
   dsimp only;refine h! (ZP (Yz ⟨rfl,?_⟩));refine h! (Xd (H?
    (I:=λy c F'=>Sm st F'/\∃O6 OU out g ac bc,c=(b!,O6,OU,out,g,ac,bc)/\HiA bv a b out O6 OU/\O6+OU<=na2+nb2)
    (Q:=λc F'=>Sm st F'/\((∃r bU,c=(a! r,bU)/\mF bv a.toList b.toList r.toList)\/∃O6 OU out g ac bc,c=(b!,O6,OU,out,g,ac,bc)/\HiA bv a b out O6 OU/\O6+OU<=na2+nb2))
    ?gstep ?gfin ⟨S0,_,_,_,_,_,_,rfl,QI,N6 _⟩) ?gpost)
   case gfin=>
    rintro c F' ⟨hS,O6,OU,out,g,ac,bc,rfl,OS,hy⟩;exact⟨hS,.inr ⟨_,_,_,_,_,_,rfl,OS,hy⟩⟩
   case gpost=>
    rintro c F' ⟨hS,hc⟩;obtain⟨r,bU,rfl,hr⟩|⟨na3,nb3,out,g,ac,bc,rfl,hL3,Sr⟩:=hc
    ·dsimp only;exact j? ⟨hS,r,_,rfl,hr⟩
    dsimp only;refine h! (uC λO9 Ro=>j? ⟨hS.trans Ro,_,_,_,_,rfl,hL3,0x1⟩)
   case gstep=>
    rintro y c ON _ hy ⟨hS2,O6,OU,out,g,ac,bc,rfl,OS,Sn⟩;dsimp only;have q1:=OS.ha;have q2:=OS.ha2;have q3:=OS.hb;have q4:=OS.hb2;obtain⟨xb,Qe,SY⟩:=dJ (arr:=b) (i:=OU-1) 0x1;apply DM (x:=g)
    case t=>exact λo K=>K _
    intro g;refine h! (uC λO9 Ro=>?_);have P6:=hS2.trans Ro;refine h! (bL Qe ?_);refine h! (l0 hA (P6.kind.trans hk) (pb _ SY) 0x1 pa (λi j x y q1 q2 q3=>Sa i j x y (Ov _) q2 0x1) 0x1 λS9 w1 w2 w3=>?_);dsimp only;generalize Q9:O6-S9=k1;apply uw (x:=out) (y:=O6) (P:=λout n=>MH bv a.toList b.toList out.reverse.toList (a.toList.take n) (b.toList.take OU)/\0<n/\n<=a.size/\(∀z,0<n->a[n-1]?=a! z->Le bv z xb)/\n+OU<=na2+nb2)
    case p=>exact λq=>⟨OS.mi,q1,q2,λz o ez=>w2 _ z (Ov _) 0x1 ez,Sn⟩
    case h=>
     clear w1 w2 w3 q1 q2 Sn OS Q9;rintro Rj Rg ⟨Rv,q1,q2,low,ow⟩;obtain⟨RH,Qk,Tb⟩:=dJ (arr:=a) (i:=Rg-1) 0x1;refine h! (bL Qe ?_);have QC:=PR Rj Rg OU xb Rv 0x1 q2 Qe low;by_cases e3:(OU-1==1)=d!
     ·rw[é e3];exact j? ⟨P6,.inl ⟨_,_,rfl,P7 _ _ _ QC (by simpa using e3)⟩⟩
     rw[è e3];have e3':OU-1≠1:=by simpa using e3
     have RJ:Rg+(OU-1)<=na2+nb2:=by lia
     have gt3:1<OU-1:=by lia
     have VE:OU-1<=b.size:=by lia
     clear e3;generalize Rj.push xb=Pa at *;generalize OU-1=nb1 at *;refine h! (bL Qk ?_);refine h! (mw hA (P6.kind.trans hk) (pa _ Tb) 0x1 pb (λi j x y q1 q2 q3=>Sb i j x y (Ov _) q2 0x1) 0x1 λR_ u1 u2 u3=>?_);dsimp only;generalize Sl:nb1-R_=k2;apply uw (x:=Pa) (y:=nb1) (P:=λout n=>MH bv a.toList b.toList out.reverse.toList (a.toList.take Rg) (b.toList.take n)/\1<n/\n<=b.size/\(∀z,0<n->b[n-1]?=a! z->Le bv z RH)/\Rg+n<=na2+nb2)
     case p=>exact λq=>⟨QC,gt3,VE,λz o ez=>Le.of_lt (u2 _ z (Ov _) 0x1 ez),RJ⟩
     case h=>
      rintro Pa nbz ⟨Ru,gtz,ltz,up2,RJ⟩;refine h! (bL Qk ?_);have Ut:=PU Pa Rg nbz RH Ru q1 0x1 Qk up2;by_cases d1:(Rg-1==0)=d!
      ·rw[é d1];exact j? ⟨P6,.inl ⟨_,_,rfl,OY _ _ _ Ut (.inl (by simpa using d1))⟩⟩
      rw[è d1];have d1':Rg-1≠0:=by simpa using d1
      have TV:HiA bv a b (Pa.push RH) (Rg-1) nbz:=⟨Ut,0x1,0x1,0x1,0x1⟩;split
      ·exact j? ⟨P6,.inr ⟨_,_,_,_,_,_,rfl,TV,0x1⟩⟩
      ·exact j? ⟨P6,_,_,_,_,_,_,rfl,TV,0x1⟩
     intro q K;have Ru:MH bv a.toList b.toList (Pa++(b.extract R_ nb1).reverse).reverse.toList (a.toList.take Rg) (b.toList.take R_):=by
      have er:(Pa++(b.extract R_ nb1).reverse).reverse.toList=(b.extract R_ nb1).toList++Pa.reverse.toList:=by simp
      rw[er];refine MH.b (by rw[<-nh 0x1];exact QC) λx hx y hy=>?_;obtain⟨i,i1,i2,i3,ei⟩:=gd hx;obtain⟨j,j1,j2,ej⟩:=j9 hy;exact(Sa j (Rg-1) y RH (Ov _) 0x1 0x1 ej Qk).trans (u3 i x 0x1 0x1 ei)
     by_cases e4:(R_==1)=d!
     ·rw[é e4];exact j? ⟨P6,.inl ⟨_,_,rfl,P7 _ _ _ Ru (by simpa using e4)⟩⟩
     rw[è e4];have e4':R_≠1:=by simpa using e4
     by_cases e5:(R_==0)=d!
     ·rw[é e5];exact j? ⟨P6,.inl ⟨_,_,rfl,OY _ _ _ Ru (.inr (by simpa using e5))⟩⟩
     rw[è e5];have e5':R_≠0:=by simpa using e5
     exact K _ _ ⟨Ru,0x1,0x1,λz o ez=>Le.of_lt (u2 _ z (Ov _) 0x1 ez),0x1⟩
    intro q K;have Rv:MH bv a.toList b.toList (out++(a.extract S9 O6).reverse).reverse.toList (a.toList.take S9) (b.toList.take OU):=by
     have er:(out++(a.extract S9 O6).reverse).reverse.toList=(a.extract S9 O6).toList++out.reverse.toList:=by simp
     rw[er];refine MH.a (by rw[<-nh 0x1];exact OS.mi) λx hx y hy=>?_;obtain⟨i,i1,i2,i3,ei⟩:=gd hx;obtain⟨j,j1,j2,ej⟩:=j9 hy;exact(Sb j (OU-1) y xb (Ov _) 0x1 0x1 ej Qe).trans (Le.of_lt (w3 i x 0x1 0x1 ei))
    by_cases e1:(S9==0)=d!
    ·rw[é e1];exact j? ⟨P6,.inl ⟨_,_,rfl,OY _ _ _ Rv (.inl (by simpa using e1))⟩⟩
    rw[è e1];have VM:S9≠0:=by simpa using e1
    exact K _ _ ⟨Rv,0x1,0x1,λz o ez=>w2 _ z (Ov _) 0x1 ez,0x1⟩
end
noncomputable def kA(bv:u!->List Int)(arr:Array u!)(i:Nat):List Int:=match arr[i]? with
 |some x=>bv x
 |none=>[]
structure Fr(lo hi:Nat)(st F':G!):Prop where
 kind:kindOf F'=kindOf st
 pend:t! F'=t! st
 failed:YA F'=YA st
 perm:(k! F').Perm (k! st)
 same:∀i,(i<lo\/hi<=i)->(k! F')[i]?=(k! st)[i]?
def Fr.refl{lo hi:Nat}(st:G!):Fr lo hi st st:=⟨rfl,rfl,rfl,Zq _,λo o=>rfl⟩
def Fr.trans{lo hi:Nat}{a b c:G!}(h1:Fr lo hi a b)(h2:Fr lo hi b c):Fr lo hi a c:=⟨h2.kind.trans h1.kind,h2.pend.trans h1.pend,h2.failed.trans h1.failed,h2.perm.trans h1.perm,λi hi=>(h2.same i hi).trans (h1.same i hi)⟩
def Fr.size{lo hi:Nat}{a b:G!}(h:Fr lo hi a b):(k! b).size=(k! a).size:=h.perm.size_eq
section
variable{bv:u!->List Int}
variable{arr:Array u!}{i:Nat}
def sJ{x:u!}(h:arr[i]?=a! x):kA bv arr i=bv x:=by unfold kA;rw[h]
variable{a b:Array u!}{j:Nat}
def jR(h:a[i]?=b[j]?):kA bv a i=kA bv b j:=by unfold kA;rw[h]
def xn(bv:u!->List Int)(arr:Array u!)(lo hi:Nat):Prop:=∀i j,lo<=i->i<=j->j<hi->ll (kA bv arr j) (kA bv arr i)=e!
def wI(bv:u!->List Int)(arr:Array u!)(lo hi:Nat):Prop:=∀i j,lo<=i->i<=j->j<hi->ll (kA bv arr i) (kA bv arr j)=e!
variable{lo hi:Nat}
def xn.seg(h:xn bv arr lo hi):fE bv arr lo hi:=λi j x y h1 h2 h3 ex ey=>by have:=h i j h1 h2 h3;rwa[sJ ex,sJ ey]at this
def fE.up(h:fE bv arr lo hi)(hz:hi<=arr.size):xn bv arr lo hi:=λi j h1 h2 h3=>by obtain⟨x,ex,_⟩:=dJ (arr:=arr) (i:=i) 0x1;obtain⟨y,ey,_⟩:=dJ (arr:=arr) (i:=j) 0x1;rw[sJ ex,sJ ey];exact h i j x y h1 h2 h3 ex ey
def fE.congr(h:fE bv a lo hi)(e:∀i,lo<=i->i<hi->b[i]?=a[i]?):fE bv b lo hi:=λi j x y h1 h2 h3 ex ey=>
 h i j x y h1 h2 h3 (by rwa[<-e i h1 0x1]) (by rwa[<-e j 0x1 h3])
def xn.step{x:Nat}(h:xn bv arr lo x)(hl:lo<x)(c:ll (kA bv arr x) (kA bv arr (x-1))=e!):xn bv arr lo (x+1):=λi j h1 h2 h3=>by
 by_cases hj:j<x
 ·exact h i j h1 h2 hj
 ·have:j=x:=by lia
  subst this;by_cases hi:i=j
  ·subst hi;exact d8 _
  ·exact g9 (h i (j-1) h1 0x1 0x1) c
def wI.step{x:Nat}(h:wI bv arr lo x)(hl:lo<x)(c:ll (kA bv arr (x-1)) (kA bv arr x)=e!):wI bv arr lo (x+1):=λi j h1 h2 h3=>by
 by_cases hj:j<x
 ·exact h i j h1 h2 hj
 ·have:j=x:=by lia
  subst this;by_cases hi:i=j
  ·subst hi;exact d8 _
  ·exact g9 c (h i (j-1) h1 0x1 0x1)
def wI.congr(h:wI bv a lo hi)(e:∀k,kA bv b k=kA bv a k):wI bv b lo hi:=λi j h1 h2 h3=>by rw[e,e];exact h i j h1 h2 h3
set_option tactic.hygienic true in
def iJ(hj:j<=arr.size)(k:Nat):kA bv (Yy arr i j ((j-i) / 2)) k=if i<=k/\k<j then kA bv arr (i+j-1-k)else kA bv arr k:=by
 have e:=Ε (xs:=arr) (i:=i) hj k;split
 ·rename_i h;rw[é h]at e;exact jR e
 ·rename_i h;rw[è h]at e;exact jR e
def ft(hj:j<=arr.size)(h:∀a,i<=a->a<j->kA bv arr a=kA bv arr (j-1))(k:Nat):kA bv (Yy arr i j ((j-i) / 2)) k=kA bv arr k:=by
 rw[iJ hj];split
 ·rw[h _ 0x1 0x1,h k 0x1 0x1]
 ·rfl
set_option tactic.hygienic true in
def oz{k d:Nat}(hk:k<arr.size)(hd:d<=k)(m:Nat):kA bv (ZE arr k d) m=if m=k-d then kA bv arr k else if k-d<m/\m<=k then kA bv arr (m-1)else kA bv arr m:=by
 have e:=Ϯ (xs:=arr) hk d hd m;split
 ·rename_i h;rw[é h]at e;exact jR e
 ·rename_i h;rw[è h]at e
  split
  ·rename_i h2;rw[é h2]at e;exact jR e
  ·rename_i h2;rw[è h2]at e;exact jR e
def Fr.mirror{lo hi i j:Nat}{st:G!}(h1:lo<=i)(h2:j<=hi)(hz:j<=(k! st).size):Fr lo hi st (ZI st (Yy (k! st) i j ((j-i) / 2))):=⟨rfl,rfl,rfl,mirror_perm _ _ _ _,λk hk=>by show(Yy (k! st) i j ((j-i) / 2))[k]?=(k! st)[k]?;rw[Ε hz,è 0x1]⟩
def Fr.bubble{lo hi k d:Nat}{st:G!}(h1:lo+d<=k)(h2:k<hi)(hz:k<(k! st).size):Fr lo hi st (ZI st (ZE (k! st) k d)):=⟨rfl,rfl,rfl,bubble_perm _ _ _,λm hm=>by show(ZE (k! st) k d)[m]?=(k! st)[m]?;rw[Ϯ hz d 0x1,è 0x1,è 0x1]⟩
end
section
variable{M:â}{A:A?}{E:b?->d?->Prop}{s:d?}{κ:X?}{bv:u!->List Int}{P:u!->Prop}
variable{st:G!}{i j:Nat}
def mB{Q:Unit->G!->Prop}(h:Q () (ZI st (Yy (k! st) i j ((j-i) / 2)))):Ċ M A E s (reverseSlice' i j) Q st:=by rw[reverseSlice'_eq];exact X1 h
def FU{Q:Unit->G!->Prop}(h:Q () (ZI st (ZE (k! st) i (i-j)))):Ċ M A E s (moveDown' i j) Q st:=by rw[moveDown'_eq];exact X1 h
def gH(hA:o5 M A E s κ bv P){Q:Option Bool->G!->Prop}(hk:kindOf st=κ)(hP:∀x∈(k! st).toList,P x)(hi:i<(k! st).size)(hj:j<(k! st).size)(h:Q (a! (ll (kA bv (k! st) i) (kA bv (k! st) j))) st):Ċ M A E s (ltAt' i j) Q st:=by obtain⟨x,ex,mx⟩:=dJ (arr:=k! st) hi;obtain⟨y,ey,my⟩:=dJ (arr:=k! st) hj;rw[sJ ex,sJ ey]at h;rw[ltAt'_eq];refine h! (Y3 ?_);exact h! (bL ex (h! (bL ey (hA x y st _ hk (hP x mx) (hP y my) h))))
variable{lo:Nat}
def Fr.allP{hi:Nat}{a b:G!}(h:Fr lo hi a b)(hP:∀x∈(k! a).toList,P x):∀x∈(k! b).toList,P x:=λx hx=>hP x ((Ym.mp h.perm).mem_iff.mp hx)
set_option tactic.hygienic true in
def vJ(hA:o5 M A E s κ bv P){OI:Nat}{Q:Option Nat->G!->Prop}(hk:kindOf st=κ)(hP:∀x∈(k! st).toList,P x)(h1:1<=OI)(hz:lo+OI<=(k! st).size)(h:∀n F',1<=n->n<=OI->Fr lo (lo+OI) st F'->fE bv (k! F') lo (lo+n)->Q (a! n) F'):Ċ M A E s (countRun' lo OI) Q st:=by
 refine h! (Xd (H? (I:=λx c F'=>F'=st/\c=(b!,x)/\xn bv (k! st) lo (lo+x))
  (Q:=λc F'=>F'=st/\∃n,c=(b!,n)/\1<=n/\n<=OI/\xn bv (k! st) lo (lo+n)/\(n=OI\/ll (kA bv (k! st) (lo+n)) (kA bv (k! st) (lo+n-1))=d!)) ?_ ?_
  ⟨rfl,rfl,λi j q1 q2 q3=>by rw[show i=j by lia];exact d8 _⟩) ?_)
 ·rintro x c F' q1 q2 ⟨rfl,rfl,hu⟩;dsimp only;refine h! (gH hA hk hP 0x1 0x1 ?_);dsimp only;cases c1:ll (kA bv (k! F') (lo+x)) (kA bv (k! F') (lo+x-1))with
  |true=>exact j? ⟨rfl,x,rfl,q1,0x1,hu,.inr c1⟩
  |false=>exact j? ⟨rfl,rfl,hu.step 0x1 c1⟩
 ·rintro c F' ⟨rfl,rfl,hu⟩;rw[show max 1 OI=OI by lia]at hu ⊢;exact⟨rfl,OI,rfl,h1,N6 _,hu,.inl rfl⟩
 rintro c F' ⟨rfl,n,rfl,n1,n2,hu,hor⟩;dsimp only;by_cases e1:(n==OI)=d!
 ·rw[é e1];exact j? (h n _ n1 n2 (Fr.refl _) hu.seg)
 rw[è e1];have VM:n≠OI:=by simpa using e1
 have OL:=hor.resolve_left VM;by_cases e2:n>1
 ·rw[é e2];refine h! (gH hA hk hP 0x1 0x1 ?_);dsimp only;cases c1:ll (kA bv (k! F') lo) (kA bv (k! F') (lo+n-1))with
  |true=>exact j? (h n _ n1 n2 (Fr.refl _) hu.seg)
  |false=>
   rw[è 0x4];have RO:∀a,lo<=a->a<lo+n->kA bv (k! F') a=kA bv (k! F') (lo+n-1):=λa q1 q2=>
    jP (g9 c1 (hu lo a (N6 _) q1 q2)) (hu a (lo+n-1) q1 0x1 0x1)
   have eqk:=ft (bv:=bv) (arr:=k! F') (i:=lo) (j:=lo+n) 0x1 RO;refine h! (mB ?_);have F0:Fr lo (lo+OI) F' (ZI F' (Yy (k! F') lo (lo+n) ((lo+n-lo) / 2))):=Fr.mirror (N6 _) 0x1 0x1;have D0:wI bv (k! (ZI F' (Yy (k! F') lo (lo+n) ((lo+n-lo) / 2)))) lo (lo+(n+1)):=by
    refine wI.congr (a:=k! F') (λi j q1 q2 q3=>?_) eqk;by_cases hj:j=lo+n
    ·subst hj;by_cases hi:i=lo+n
     ·subst hi;exact d8 _
     ·rw[RO i q1 0x1];exact f7 OL
    ·rw[RO i q1 0x1,RO j 0x1 0x1];exact d8 _
   generalize ZI F' (Yy (k! F') lo (lo+n) ((lo+n-lo) / 2))=st0 at *;have K0:=F0.kind.trans hk;have Z0:=F0.size;refine h! (ZP (Yz ⟨rfl,?_⟩));refine h! (Xd (H?
    (I:=λx c OH=>∃q,c=(b!,x,q)/\Fr lo (lo+OI) F' OH/\wI bv (k! OH) lo (lo+x)/\q+1<=x/\∀i,lo+x-(q+1)<=i->i<lo+x->kA bv (k! OH) i=kA bv (k! OH) (lo+x-1))
    (Q:=λc OH=>∃m q,c=(b!,m,q)/\n+1<=m/\m<=OI/\Fr lo (lo+OI) F' OH/\wI bv (k! OH) lo (lo+m)/\q+1<=m/\∀i,lo+m-(q+1)<=i->i<lo+m->kA bv (k! OH) i=kA bv (k! OH) (lo+m-1))
    ?_ ?_ ⟨0,rfl,F0,D0,0x1,λi q1 q2=>by rw[show i=lo+(n+1)-1 by lia]⟩) ?_)
   ·rintro x c OH x1 x2 ⟨q,rfl,F1,D1,hq,y_⟩;dsimp only;have K1:=F1.kind.trans hk;have Z1:=F1.size;refine h! (gH hA K1 (F1.allP hP) 0x1 0x1 ?_);dsimp only;cases c2:ll (kA bv (k! OH) (lo+x)) (kA bv (k! OH) (lo+x-1))with
    |true=>
     rw[é rfl];have D2:wI bv (k! OH) lo (lo+x+1):=D1.step 0x1 (f7 c2);by_cases hq0:q>0
     ·rw[é hq0];refine h! (mB (j? ⟨0,rfl,F1.trans (Fr.mirror 0x1 0x1 0x1),?_,0x1,λi q1 q2=>by rw[show i=lo+(x+1)-1 by lia]⟩));exact D2.congr (ft 0x1 y_)
     ·rw[è hq0];exact j? ⟨0,rfl,F1,D2,0x1,λi q1 q2=>by rw[show i=lo+(x+1)-1 by lia]⟩
    |false=>
     rw[è 0x4];refine h! (gH hA K1 (F1.allP hP) 0x1 0x1 ?_);dsimp only;cases c3:ll (kA bv (k! OH) (lo+x-1)) (kA bv (k! OH) (lo+x))with
     |true=>exact j? ⟨x,q,rfl,x1,0x1,F1,D1,hq,y_⟩
     |false=>
      have ex:kA bv (k! OH) (lo+x-1)=kA bv (k! OH) (lo+x):=jP c3 c2;refine j? ⟨q+1,rfl,F1,D1.step 0x1 c3,0x1,λi q1 q2=>?_⟩;rw[show lo+(x+1)-1=lo+x by lia];by_cases hi:i=lo+x
      ·rw[hi]
      ·rw[<-ex];exact y_ i 0x1 0x1
   ·rintro c OH ⟨q,rfl,F1,D1,hq,y_⟩;rw[show max (n+1) OI=OI by lia]at *;exact⟨OI,q,rfl,0x1,N6 _,F1,D1,hq,y_⟩
   rintro c OH ⟨m,q,rfl,m1,m2,F1,D1,hq,y_⟩;dsimp only;have Z1:=F1.size;have x_:∀ON,Fr lo (lo+OI) F' ON->wI bv (k! ON) lo (lo+m)->∀O9,O9=ZI ON (Yy (k! ON) lo (lo+m) ((lo+m-lo) / 2))->Fr lo (lo+OI) F' O9/\xn bv (k! O9) lo (lo+m):=λON F2 D2 O9 e3=>by have Z2:=F2.size;subst e3;refine⟨F2.trans (Fr.mirror (N6 _) 0x1 0x1),λi j q1 q2 q3=>?_⟩;show ll (kA bv (Yy (k! ON) lo (lo+m) ((lo+m-lo) / 2)) j) (kA bv (Yy (k! ON) lo (lo+m) ((lo+m-lo) / 2)) i)=e!;rw[iJ 0x1,iJ 0x1,é 0x1,é 0x1];exact D2 _ _ 0x1 0x1 0x1
   by_cases hq0:q>0
   case' pos=>
    rw[é hq0];refine h! (mB ?_);obtain⟨F3,U3⟩:=x_ (ZI OH (Yy (k! OH) (lo+m-(q+1)) (lo+m) ((lo+m-(lo+m-(q+1))) / 2))) (F1.trans (Fr.mirror 0x1 0x1 0x1)) (D1.congr (ft 0x1 y_)) _ rfl
   case' neg=>
    rw[è hq0];obtain⟨F3,U3⟩:=x_ OH F1 D1 _ rfl
   all_goals
    refine h! (mB ?_);have Z3:=F3.size;refine h! (Xd (H? (I:=λx c OQ=>OQ=_/\c=(b!,x)/\xn bv (k! OQ) lo (lo+x))
     (Q:=λc OQ=>Fr lo (lo+OI) F' OQ/\∃n,c=(b!,n)/\1<=n/\n<=OI/\xn bv (k! OQ) lo (lo+n)) ?_ ?_ ⟨rfl,rfl,U3⟩) ?_)
    ·rintro x c OQ q1 q2 ⟨rfl,rfl,hu⟩;dsimp only;refine h! (gH hA (F3.kind.trans hk) (F3.allP hP) 0x1 0x1 ?_);split
     ·rename_i b eb;cases eb;split
      ·exact j? ⟨F3,x,rfl,0x1,0x1,hu⟩
      ·rename_i c5;exact j? ⟨rfl,rfl,hu.step 0x1 (by simpa using c5)⟩
     ·rename_i eb;exact ê rfl (eb _)
    ·rintro c OQ ⟨rfl,rfl,hu⟩;rw[show max m OI=OI by lia]at hu ⊢;exact⟨F3,OI,rfl,h1,N6 _,hu⟩
    ·rintro c OQ ⟨F4,n',rfl,q1,q2,hu⟩;exact j? (h n' _ q1 q2 F4 hu.seg)
 ·rw[è e2];have F0:Fr lo (lo+OI) F' F':=Fr.refl _;have D0:wI bv (k! F') lo (lo+(n+1)):=λi j q1 q2 q3=>by
   by_cases hi:i=j
   ·subst hi;exact d8 _
   ·have e3:i=lo+n-1:=by lia
    have e4:j=lo+n:=by lia
    subst e3;subst e4
    exact f7 OL
  obtain⟨st0,SW⟩:∃x,x=F':=⟨_,rfl⟩;have F0:Fr lo (lo+OI) F' st0:=by rw[SW];exact Fr.refl _
  rw[<-SW]at D0;rw[show Ċ M A E s _ Q F'=Ċ M A E s _ Q st0 from by rw[SW]];have K0:=F0.kind.trans hk;have Z0:=F0.size;refine h! (ZP (Yz ⟨rfl,?_⟩));refine h! (Xd (H?
   (I:=λx c OH=>∃q,c=(b!,x,q)/\Fr lo (lo+OI) F' OH/\wI bv (k! OH) lo (lo+x)/\q+1<=x/\∀i,lo+x-(q+1)<=i->i<lo+x->kA bv (k! OH) i=kA bv (k! OH) (lo+x-1))
   (Q:=λc OH=>∃m q,c=(b!,m,q)/\n+1<=m/\m<=OI/\Fr lo (lo+OI) F' OH/\wI bv (k! OH) lo (lo+m)/\q+1<=m/\∀i,lo+m-(q+1)<=i->i<lo+m->kA bv (k! OH) i=kA bv (k! OH) (lo+m-1))
   ?_ ?_ ⟨0,rfl,F0,D0,0x1,λi q1 q2=>by rw[show i=lo+(n+1)-1 by lia]⟩) ?_)
  ·rintro x c OH x1 x2 ⟨q,rfl,F1,D1,hq,y_⟩;dsimp only;have K1:=F1.kind.trans hk;have Z1:=F1.size;refine h! (gH hA K1 (F1.allP hP) 0x1 0x1 ?_);dsimp only;cases c2:ll (kA bv (k! OH) (lo+x)) (kA bv (k! OH) (lo+x-1))with
   |true=>
    rw[é rfl];have D2:wI bv (k! OH) lo (lo+x+1):=D1.step 0x1 (f7 c2);by_cases hq0:q>0
    ·rw[é hq0];refine h! (mB (j? ⟨0,rfl,F1.trans (Fr.mirror 0x1 0x1 0x1),?_,0x1,λi q1 q2=>by rw[show i=lo+(x+1)-1 by lia]⟩));exact D2.congr (ft 0x1 y_)
    ·rw[è hq0];exact j? ⟨0,rfl,F1,D2,0x1,λi q1 q2=>by rw[show i=lo+(x+1)-1 by lia]⟩
   |false=>
    rw[è 0x4];refine h! (gH hA K1 (F1.allP hP) 0x1 0x1 ?_);dsimp only;cases c3:ll (kA bv (k! OH) (lo+x-1)) (kA bv (k! OH) (lo+x))with
    |true=>exact j? ⟨x,q,rfl,x1,0x1,F1,D1,hq,y_⟩
    |false=>
     have ex:kA bv (k! OH) (lo+x-1)=kA bv (k! OH) (lo+x):=jP c3 c2;refine j? ⟨q+1,rfl,F1,D1.step 0x1 c3,0x1,λi q1 q2=>?_⟩;rw[show lo+(x+1)-1=lo+x by lia];by_cases hi:i=lo+x
     ·rw[hi]
     ·rw[<-ex];exact y_ i 0x1 0x1
  ·rintro c OH ⟨q,rfl,F1,D1,hq,y_⟩;rw[show max (n+1) OI=OI by lia]at *;exact⟨OI,q,rfl,0x1,N6 _,F1,D1,hq,y_⟩
  rintro c OH ⟨m,q,rfl,m1,m2,F1,D1,hq,y_⟩;dsimp only;have Z1:=F1.size;have x_:∀ON,Fr lo (lo+OI) F' ON->wI bv (k! ON) lo (lo+m)->∀O9,O9=ZI ON (Yy (k! ON) lo (lo+m) ((lo+m-lo) / 2))->Fr lo (lo+OI) F' O9/\xn bv (k! O9) lo (lo+m):=λON F2 D2 O9 e3=>by have Z2:=F2.size;subst e3;refine⟨F2.trans (Fr.mirror (N6 _) 0x1 0x1),λi j q1 q2 q3=>?_⟩;show ll (kA bv (Yy (k! ON) lo (lo+m) ((lo+m-lo) / 2)) j) (kA bv (Yy (k! ON) lo (lo+m) ((lo+m-lo) / 2)) i)=e!;rw[iJ 0x1,iJ 0x1,é 0x1,é 0x1];exact D2 _ _ 0x1 0x1 0x1
  by_cases hq0:q>0
  case' pos=>
   rw[é hq0];refine h! (mB ?_);obtain⟨F3,U3⟩:=x_ (ZI OH (Yy (k! OH) (lo+m-(q+1)) (lo+m) ((lo+m-(lo+m-(q+1))) / 2))) (F1.trans (Fr.mirror 0x1 0x1 0x1)) (D1.congr (ft 0x1 y_)) _ rfl
  case' neg=>
   rw[è hq0];obtain⟨F3,U3⟩:=x_ OH F1 D1 _ rfl
  all_goals
   refine h! (mB ?_);have Z3:=F3.size;refine h! (Xd (H? (I:=λx c OQ=>OQ=_/\c=(b!,x)/\xn bv (k! OQ) lo (lo+x))
    (Q:=λc OQ=>Fr lo (lo+OI) F' OQ/\∃n,c=(b!,n)/\1<=n/\n<=OI/\xn bv (k! OQ) lo (lo+n)) ?_ ?_ ⟨rfl,rfl,U3⟩) ?_)
   ·rintro x c OQ q1 q2 ⟨rfl,rfl,hu⟩;dsimp only;refine h! (gH hA (F3.kind.trans hk) (F3.allP hP) 0x1 0x1 ?_);split
    ·rename_i b eb;cases eb;split
     ·exact j? ⟨F3,x,rfl,0x1,0x1,hu⟩
     ·rename_i c5;exact j? ⟨rfl,rfl,hu.step 0x1 (by simpa using c5)⟩
    ·rename_i eb;exact ê rfl (eb _)
   ·rintro c OQ ⟨rfl,rfl,hu⟩;rw[show max m OI=OI by lia]at hu ⊢;exact⟨F3,OI,rfl,h1,N6 _,hu⟩
   ·rintro c OQ ⟨F4,n',rfl,q1,q2,hu⟩;exact j? (h n' _ q1 q2 F4 hu.seg)
def rV(hA:o5 M A E s κ bv P){n ok:Nat}{Q:Bool->G!->Prop}(hk:kindOf st=κ)(hP:∀x∈(k! st).toList,P x)(h1:1<=ok)(hok:ok<=n)(hz:lo+n<=(k! st).size)(hs:fE bv (k! st) lo (lo+ok))(h:∀F',Fr lo (lo+n) st F'->fE bv (k! F') lo (lo+n)->Q d! F'):Ċ M A E s (binarySort' lo n ok) Q st:=by
 refine h! (Xd (H? (I:=λk c F'=>c=(b!,())/\Fr lo (lo+n) st F'/\xn bv (k! F') lo (lo+k))
  (Q:=λc F'=>c=(b!,())/\Fr lo (lo+n) st F'/\xn bv (k! F') lo (lo+n)) ?_ ?_ ⟨rfl,Fr.refl _,by rw[show max ok 1=ok by lia];exact hs.up 0x1⟩) ?_)
 ·rintro k c OH k1 k2 ⟨rfl,F1,U1⟩;have Z1:=F1.size;dsimp only;refine h! (Xd (H? (I:=λx c ON=>ON=OH/\∃l r,c=(b!,l,r)/\l<=r/\r<=k/\r-l<=k-x /\
    (∀i,i<l->ll (kA bv (k! OH) (lo+k)) (kA bv (k! OH) (lo+i))=e!)/\(∀i,r<=i->i<k->ll (kA bv (k! OH) (lo+k)) (kA bv (k! OH) (lo+i))=d!))
   (Q:=λc ON=>ON=OH/\∃l r,c=(b!,l,r)/\l<=k /\
    (∀i,i<l->ll (kA bv (k! OH) (lo+k)) (kA bv (k! OH) (lo+i))=e!)/\(∀i,l<=i->i<k->ll (kA bv (k! OH) (lo+k)) (kA bv (k! OH) (lo+i))=d!)) ?_ ?_
   ⟨rfl,0,k,rfl,0x1,0x1,0x1,λi hi=>0x1,λi h1 h2=>0x1⟩) ?_)
  ·rintro x c ON _ hx ⟨rfl,l,r,rfl,q1,q2,q3,q4,q5⟩;dsimp only;by_cases TC:l>=r
   ·rw[é TC];exact j? ⟨rfl,l,r,rfl,0x1,q4,λi u1 u2=>q5 i 0x1 u2⟩
   ·rw[è TC];refine h! (gH hA (F1.kind.trans hk) (F1.allP hP) 0x1 0x1 ?_);dsimp only;cases c1:ll (kA bv (k! ON) (lo+k)) (kA bv (k! ON) (lo+(l+r) / 2))with
    |true=>exact j? ⟨rfl,l,(l+r) / 2,rfl,0x1,0x1,0x1,q4,λi u1 u2=>BZ c1 (U1 _ _ 0x1 0x1 0x1)⟩
    |false=>exact j? ⟨rfl,(l+r) / 2+1,r,rfl,0x1,0x1,0x1,λi u1=>g9 (U1 (lo+i) (lo+(l+r) / 2) 0x1 0x1 0x1) c1,q5⟩
  ·rintro c ON ⟨rfl,l,r,rfl,q1,q2,q3,q4,q5⟩;exact⟨rfl,l,r,rfl,0x1,q4,λi u1 u2=>q5 i 0x1 u2⟩
  ·rintro c ON ⟨rfl,l,r,rfl,q1,q4,q5⟩;dsimp only;refine h! (FU (j? ⟨rfl,F1.trans (Fr.bubble 0x1 0x1 0x1),?_⟩));intro i j u1 u2 u3;have hd:lo+k-(lo+k-(lo+l))=lo+l:=by lia
   have SM:kA bv (ZE (k! ON) (lo+k) (lo+k-(lo+l))) (lo+l)=kA bv (k! ON) (lo+k):=by rw[oz 0x1 0x1,hd,é rfl]
   have RV:∀m,lo+l<m->m<=lo+k->kA bv (ZE (k! ON) (lo+k) (lo+k-(lo+l))) m=kA bv (k! ON) (m-1):=λm w1 w2=>by rw[oz 0x1 0x1,hd,è 0x1,é ⟨w1,w2⟩]
   have TN:∀m,m<lo+l->kA bv (ZE (k! ON) (lo+k) (lo+k-(lo+l))) m=kA bv (k! ON) m:=λm w1=>by rw[oz 0x1 0x1,hd,è 0x1,è 0x1]
   show ll (kA bv (ZE (k! ON) (lo+k) (lo+k-(lo+l))) j) (kA bv (ZE (k! ON) (lo+k) (lo+k-(lo+l))) i)=e!;obtain hi|hi|hi:=Ù i (lo+l)
   ·rw[TN i hi];obtain hj|hj|hj:=Ù j (lo+l)
    ·rw[TN j hj];exact U1 i j u1 u2 0x1
    ·rw[hj,SM];have:=q4 (i-lo) 0x1
     rwa[show lo+(i-lo)=i by lia]at this
    ·rw[RV j hj 0x1];exact U1 i (j-1) u1 0x1 0x1
   ·rw[hi,SM];obtain hj|hj|hj:=Ù j (lo+l)
    ·lia
    ·rw[hj,SM];exact d8 _
    ·rw[RV j hj 0x1];have:=q5 (j-1-lo) 0x1 0x1;rw[show lo+(j-1-lo)=j-1 by lia]at this;exact f7 this
   ·rw[RV i hi 0x1,RV j 0x1 0x1];exact U1 (i-1) (j-1) 0x1 0x1 0x1
 ·rintro c OH ⟨rfl,F1,U1⟩;rw[show max (max ok 1) n=n by lia]at U1;exact⟨rfl,F1,U1⟩
 ·rintro c OH ⟨rfl,F1,U1⟩;exact j? (h OH F1 U1.seg)
end
variable{sa:Nat}
def FY{l:List u!}{k:Nat}:∀(n:Nat)(arr:Array u!),sa+n+l.length<=arr.size ->
  ((l.zipIdx n).foldl (λa (x:u!×Nat)=>match x with|(p,j)=>a.setIfInBounds (sa+j) p) arr)[k]?=if sa+n<=k/\k<sa+n+l.length then l[k-sa-n]? else arr[k]?:=by
 induction l with
 |nil=>intro n arr _;rw[è 0x4];rfl
 |cons x r ih=>
  intro n arr hz;simp only[i!]at hz;rw[Ŭ,Xb,ih (n+1) _ (by rw[Zp];lia)];by_cases h1:sa+(n+1)<=k/\k<sa+(n+1)+r.length
  ·rw[é h1,é (by simp only[i!];lia)];rw[show k-sa-n=(k-sa-(n+1))+1 by lia,List.getElem?_cons_succ]
  ·rw[è h1,ì];by_cases h2:sa+n=k
   ·rw[é h2,é 0x1,é (by simp only[i!];lia),show k-sa-n=0 by lia];rfl
   ·rw[è h2,è (by simp only[i!];lia)]
def BN{l:List u!}:∀(n:Nat)(arr:Array u!),((l.zipIdx n).foldl (λa (x:u!×Nat)=>match x with|(p,j)=>a.setIfInBounds (sa+j) p) arr).size=arr.size:=by
 induction l with
 |nil=>intro n arr;rfl
 |cons x r ih=>intro n arr;rw[Ŭ,Xb,ih];exact Zp
variable{bv:u!->List Int}{lo:Nat}
def Aq{arr:Array u!}{hi:Nat}(h:fE bv arr lo hi)(hz:hi<=arr.size):(arr.extract lo hi).toList.Pairwise (Le bv):=by
 refine V!.mpr λi j hi hj Ry=>?_;simp at hi hj;have e1:arr[lo+i]?=a! ((arr.extract lo _).toList[i]'(by simpa using hi)):=by
  have:lo+i<arr.size:=by lia
  simp[this]
 have e2:arr[lo+j]?=a! ((arr.extract lo _).toList[j]'(by simpa using hj)):=by
  have:lo+j<arr.size:=by lia
  simp[this]
 exact h (lo+i) (lo+j) _ _ 0x1 0x1 0x1 e1 e2
def Jv{arr:Array u!}{p q r:Nat}(h1:p<=q)(h2:q<=r)(h3:r<=arr.size):arr.toList=arr.toList.take p++((arr.extract p q).toList++(arr.extract q r).toList)++arr.toList.drop r:=by have e1:=nh (arr:=arr) h1;have e2:=nh (arr:=arr) h2;rw[<-t?,<-e1,<-e2,XD]
section
variable{M:â}{A:A?}{E:b?->d?->Prop}{s:d?}{κ:X?}{bv:u!->List Int}{P:u!->Prop}
def KA{st ON:G!}{Q:PUnit->G!->Prop}(h:Q ⟨⟩ ON):Ċ M A E s (set ON:StateT G! ý PUnit) Q st:=by unfold Ċ;rw[StateT.run_set];exact N8 ⟨rfl,h⟩
def yi(hA:o5 M A E s κ bv P){st:G!}{i na pw sb nb pw':Nat}{Q:Bool->G!->Prop}(hk:kindOf st=κ)(hP:∀x∈(k! st).toList,P x)(hf:YA st=b!)(e1:(t! st)[i]?=a! (sa,na,pw))(e2:(t! st)[i+1]?=a! (sb,nb,pw'))(R6:sb=sa+na)(h1:0<na)(h2:0<nb)(hz:sb+nb<=(k! st).size)(S1:fE bv (k! st) sa sb)(S2:fE bv (k! st) sb (sb+nb))(h:∀F',kindOf F'=κ->YA F'=b!->(k! F').Perm (k! st)->(∀j,(j<sa\/sb+nb<=j)->(k! F')[j]?=(k! st)[j]?)->fE bv (k! F') sa (sb+nb) ->
   t! F'=((t! st).setIfInBounds i (sa,na+nb,pw)).eraseIdxIfInBounds (i+1)->Q d! F'):Ċ M A E s (mergeAt' i) Q st:=by
 refine h! (Y3 ?_);rw[e1,e2];dsimp only;have Z:=hz;obtain⟨b0,UU,mb0⟩:=dJ (arr:=k! st) (i:=sb) 0x1;refine h! (KA ?_);refine h! (bL UU ?_);have hza:sa+na<=(k! st).size:=by lia
 refine h! (l0 hA hk (hP _ mb0) hza hP (by rw[<-R6];exact S1) h1 λk k1 k2 k3=>?_);dsimp only;by_cases c1:(na-k==0)=d!
 ·rw[é c1];have VO:na-k=0:=by simpa using c1
  refine j? (h _ hk hf (Zq _) (λo o=>rfl) (λu v x y q1 q2 q3 ex ey=>?_) rfl);obtain hv|hv:=Ya v sb
  ·exact S1 u v x y q1 q2 hv ex ey
  ·obtain hu|hu:=Ya u sb
   ·exact(k2 u x q1 0x1 ex).trans (S2 sb v b0 y (N6 _) hv q3 UU ey)
   ·exact S2 u v x y hu q2 q3 ex ey
 rw[è c1];have VO:na-k≠0:=by simpa using c1
 obtain⟨al,eal,mal⟩:=dJ (arr:=k! st) (i:=sa+k+(na-k)-1) 0x1;have Sy:(k! st)[sb-1]?=a! al:=by rwa[show sb-1=sa+k+(na-k)-1 by lia]
 refine h! (bL eal ?_);refine h! (mw hA hk (hP _ mal) hz hP S2 0x1 λn n1 n2 n3=>?_);dsimp only;by_cases c2:(n==0)=d!
 ·rw[é c2];have Wg:n=0:=by simpa using c2
  refine j? (h _ hk hf (Zq _) (λo o=>rfl) (λu v x y q1 q2 q3 ex ey=>?_) rfl);obtain hv|hv:=Ya v sb
  ·exact S1 u v x y q1 q2 hv ex ey
  ·obtain hu|hu:=Ya u sb
   ·exact(S1 u (sb-1) x al q1 0x1 0x1 ex Sy).trans (n3 v y 0x1 q3 ey)
   ·exact S2 u v x y hu q2 q3 ex ey
 rw[è c2];have Wg:n≠0:=by simpa using c2
 have zx:((k! st).extract (sa+k) sb).size=sb-(sa+k):=by rw[Ŀ];lia
 have zy:((k! st).extract sb (sb+n)).size=n:=by rw[Ŀ];lia
 have px:∀x∈((k! st).extract (sa+k) sb).toList,P x:=λx hx=>by obtain⟨j,_,_,j3,ej⟩:=gd hx;obtain⟨_,rfl⟩:=Ou.mp ej;exact hP _ 0x4
 have py:∀x∈((k! st).extract sb (sb+n)).toList,P x:=λx hx=>by obtain⟨j,_,_,j3,ej⟩:=gd hx;obtain⟨_,rfl⟩:=Ou.mp ej;exact hP _ 0x4
 have sx:((k! st).extract (sa+k) sb).toList.Pairwise (Le bv):=Aq (λu v x y q1 q2 q3=>S1 u v x y 0x1 q2 q3) 0x1;have sy:((k! st).extract sb (sb+n)).toList.Pairwise (Le bv):=Aq (λu v x y q1 q2 q3=>S2 u v x y q1 q2 0x1) 0x1;have UC:∀y,((k! st).extract sb (sb+n))[0]?=a! y->∀x∈((k! st).extract (sa+k) sb).toList,Le bv y x:=λy ey x hx=>by
  rw[ė,é 0x1]at ey;have:y=b0:=by have e:(k! st)[sb+0]?=a! y:=ey;rw[ϣ,UU]at e;cases e;rfl
  subst this;obtain⟨j,j1,j2,j3,ej⟩:=gd hx;exact Le.of_lt (k3 j x j1 0x1 ej)
 have T7:∀z,((k! st).extract (sa+k) sb)[((k! st).extract (sa+k) sb).size-1]?=a! z->∀y∈((k! st).extract sb (sb+n)).toList,Le bv y z:=λz ez y hy=>by rw[zx,ė,é 0x1,show sa+k+(sb-(sa+k)-1)=sb-1 by lia,Sy]at ez;cases ez;obtain⟨j,j1,j2,j3,ej⟩:=gd hy;exact Le.of_lt (n2 j y j1 j2 ej)
 have fin:∀(r:Array u!)(OH:G!),Sm st OH\/True->kindOf OH=κ->YA OH=b!->k! OH=k! st->t! OH=((t! st).setIfInBounds i (sa,na+nb,pw)).eraseIdxIfInBounds (i+1) ->
   mF bv ((k! st).extract (sa+k) sb).toList ((k! st).extract sb (sb+n)).toList r.toList ->
   Q (YA OH).isNone (ZI OH (r.toList.zipIdx.foldl (λa (x:u!×Nat)=>match x with|(p,j)=>a.setIfInBounds (sa+k+j) p) (k! OH))):=λr OH o K1 F1 A1 P1 hr=>by
  rw[F1];have zr:r.toList.length=sb+n-(sa+k):=by have:=hr.1.length_eq;rw[l!,u?,u?,u?,zx,zy]at this;rw[u?];lia
  have at_:∀j,(r.toList.zipIdx.foldl (λa (x:u!×Nat)=>match x with|(p,j)=>a.setIfInBounds (sa+k+j) p) (k! st))[j]?=if sa+k<=j/\j<sb+n then r.toList[j-(sa+k)]? else(k! st)[j]?:=λj=>by
   have:=FY (l:=r.toList) (sa:=sa+k) (k:=j) 0 (k! st) 0x1;rw[this,zr];by_cases hj:sa+k<=j/\j<sb+n
   ·rw[é 0x1,é hj,Nat.sub_zero]
   ·rw[è 0x1,è hj]
  have zo:=BN (l:=r.toList) (sa:=sa+k) 0 (k! st);refine h _ K1 F1 ?_ (λj hj=>?_) (λu v x y q1 q2 q3 ex ey=>?_) P1
  ·show(r.toList.zipIdx.foldl _ (k! OH)).Perm (k! st);rw[A1];refine Ym.mpr ?_;have e:(r.toList.zipIdx.foldl (λa (x:u!×Nat)=>match x with|(p,j)=>a.setIfInBounds (sa+k+j) p) (k! st)).toList=(k! st).toList.take (sa+k)++r.toList++(k! st).toList.drop (sb+n):=by
    apply List.ext_getElem?;intro j;rw[C?,at_ j,ĭ,ĭ];have zt:((k! st).toList.take (sa+k)).length=sa+k:=by rw[XA,u?];lia
    rw[l!,zt,zr];by_cases hj:sa+k<=j/\j<sb+n
    ·rw[é hj,é 0x1,è 0x1]
    ·rw[è hj];by_cases Vb:j<sa+k
     ·rw[é 0x1,é Vb,Ŏ,é Vb,C?]
     ·rw[è 0x1,ŏ,C?];congr 1;lia
   rw[e]
   conv=>rhs;rw[Jv (arr:=k! st) (p:=sa+k) (q:=sb) (r:=sb+n) 0x1 0x1 0x1]
   exact(hr.1.append_left _).append_right _
  ·show(r.toList.zipIdx.foldl _ (k! OH))[j]?=_;rw[A1,at_ j,è 0x1]
  ·
   have RB:(r.toList.zipIdx.foldl _ (k! OH))[u]?=a! x:=ex;have Q2:(r.toList.zipIdx.foldl _ (k! OH))[v]?=a! y:=ey;rw[A1,at_ u]at RB;rw[A1,at_ v]at Q2;have Sh:∀{j:Nat}{z:u!},r.toList[j]?=a! z->∃t,sa+k<=t/\t<sb+n/\(k! st)[t]?=a! z:=λ{j z} ez=>by
    have mz:z∈r.toList:=Q! ez;obtain q|q:=Og.mp (hr.1.mem_iff.mp mz)
    ·obtain⟨t,t1,t2,t3,et⟩:=gd q;exact⟨t,t1,0x1,et⟩
    ·obtain⟨t,t1,t2,t3,et⟩:=gd q;exact⟨t,0x1,t2,et⟩
   have UD:∀{u t:Nat}{x z:u!},sa<=u->u<sa+k->u<=t->t<sb+nb->(k! st)[u]?=a! x->(k! st)[t]?=a! z->Le bv x z:=λ{u t x z} q1 q2 q3 q4 ex ez=>by
    obtain ht|ht:=Ya t sb
    ·exact S1 u t x z q1 q3 ht ex ez
    ·exact(k2 u x q1 q2 ex).trans (S2 sb t b0 z (N6 _) ht q4 UU ez)
   have Se:∀{u t:Nat}{x z:u!},sa<=u->u<=t->sb+n<=t->t<sb+nb->(k! st)[u]?=a! x->(k! st)[t]?=a! z->Le bv x z:=λ{u t x z} q1 q2 q3 q4 ex ez=>by
    obtain hu|hu:=Ya u sb
    ·exact(S1 u (sb-1) x al q1 0x1 0x1 ex Sy).trans (n3 t z q3 q4 ez)
    ·exact S2 u t x z hu q2 q4 ex ez
   by_cases cu:sa+k<=u/\u<sb+n
   ·rw[é cu]at RB;by_cases cv:sa+k<=v/\v<sb+n
    ·rw[é cv]at Q2;have hs:=hr.2;obtain huv|huv:=Ya u v
     ·obtain⟨QE,rfl⟩:=Om.mp RB;obtain⟨QT,rfl⟩:=Om.mp Q2;exact V!.mp hs _ _ QE QT 0x1
     ·have:u=v:=by lia
      subst this;rw[RB]at Q2;cases Q2;exact Le.refl _
    ·rw[è cv]at Q2;obtain⟨t,t1,t2,et⟩:=Sh RB;exact Se 0x1 0x1 0x1 q3 et Q2
   ·rw[è cu]at RB;by_cases cv:sa+k<=v/\v<sb+n
    ·rw[é cv]at Q2;obtain⟨t,t1,t2,et⟩:=Sh Q2;exact UD q1 0x1 0x1 0x1 RB et
    ·rw[è cv]at Q2;obtain hu|hu:=Ya u (sa+k)
     ·exact UD q1 hu q2 q3 RB Q2
     ·exact Se q1 q2 0x1 q3 RB Q2
 have zx0:0<((k! st).extract (sa+k) sb).size:=by lia
 have zy0:0<((k! st).extract sb (sb+n)).size:=by lia
 by_cases c3:na-k<=n
 ·rw[é c3];refine h! (yZ hA hk px py zx0 zy0 sx sy UC T7 λr OH hS hr=>?_);refine h! (X1 (h! (Y3 (j? ?_))));exact fin r OH (.inr trivial) (hS.kind.trans hk) (hS.failed.trans hf) hS.arr hS.pend hr
 ·rw[è c3];refine h! (xV hA hk px py zx0 zy0 sx sy UC T7 λr OH hS hr=>?_);refine h! (X1 (h! (Y3 (j? ?_))));exact fin r OH (.inr trivial) (hS.kind.trans hk) (hS.failed.trans hf) hS.arr hS.pend hr
end
abbrev Pn:=Nat×Nat×Nat
def bO:List Pn->Nat->Nat->Prop
 |[],lo,hi=>lo=hi
 |(s,n,_)::r,lo,hi=>s=lo/\0<n/\bO r (lo+n) hi
theorem bO.le:∀{l:List Pn}{lo hi:Nat},bO l lo hi->lo<=hi
 |[],_,_,h=>OE h
 |(_,n,_)::_,_,_,h=>Ow (Y4 _ n) (bO.le h.2.2)
theorem bO.len:∀{l:List Pn}{lo hi:Nat},bO l lo hi->lo+l.length<=hi
 |[],_,_,h=>OE h
 |(_,n,_)::r,lo,hi,h=>by have:=bO.len h.2.2;have:=h.2.1;simp only[i!];lia
theorem bO.split:∀{l r:List Pn}{lo hi:Nat},bO (l++r) lo hi->∃m,bO l lo m/\bO r m hi
 |[],_,lo,_,h=>⟨lo,rfl,h⟩
 |(s,n,p)::l,r,lo,hi,h=>by obtain⟨m,h1,h2⟩:=bO.split (l:=l) h.2.2;exact⟨m,⟨h.1,h.2.1,h1⟩,h2⟩
theorem bO.app:∀{l r:List Pn}{lo m hi:Nat},bO l lo m->bO r m hi->bO (l++r) lo hi
 |[],_,_,_,_,h1,h2=>by cases h1;exact h2
 |(s,n,p)::l,r,lo,m,hi,h1,h2=>⟨h1.1,h1.2.1,bO.app h1.2.2 h2⟩
theorem bO.mem:∀{l:List Pn}{lo hi:Nat},bO l lo hi->∀p∈l,lo<=p.1/\0<p.2.1/\p.1+p.2.1<=hi
 |[],_,_,_,_,hp=>nomatch hp
 |(s,n,q)::r,lo,hi,h,p,hp=>by
  obtain e|e:=Of.mp hp
  ·subst e;have:=bO.le h.2.2;exact⟨OE h.1.symm,h.2.1,by show s+n<=hi;rw[h.1];exact this⟩
  ·have:=bO.mem h.2.2 p e;exact⟨0x1,this.2.1,this.2.2⟩
structure RnS(bv:u!->List Int)(κ:X?)(gV:Array u!)(lo:Nat)(st:G!):Prop where
 kind:kindOf st=κ
 failed:YA st=b!
 perm:(k! st).Perm gV
 chain:bO (t! st).toList 0 lo
 segs:∀p∈(t! st).toList,fE bv (k! st) p.1 (p.1+p.2.1)
section
variable{M:â}{A:A?}{E:b?->d?->Prop}{s:d?}{κ:X?}{bv:u!->List Int}{P:u!->Prop}{gV:Array u!}
def RnS.size{lo:Nat}{st:G!}(h:RnS bv κ gV lo st):(k! st).size=gV.size:=h.perm.size_eq
variable{st:G!}
def RnS.allP(h:RnS bv κ gV lo st)(hP:∀x∈gV.toList,P x):∀x∈(k! st).toList,P x:=λx hx=>hP x ((Ym.mp h.perm).mem_iff.mp hx)
variable{i:Nat}
def EV{l:List Pn}(h:i+1<l.length):∃pre a b post,l=pre++a::b::post/\pre.length=i:=by refine⟨l.take i,l[i],l[i+1],l.drop (i+2),?_,by rw[XA];lia⟩;rw[<-L?,<-L?,XD]
def l7(hA:o5 M A E s κ bv P)(hP:∀x∈gV.toList,P x){Q:Bool->G!->Prop}(hR:RnS bv κ gV lo st)(Qt:lo<=gV.size)(hi:i+1<(t! st).size)(h:∀F',RnS bv κ gV lo F'->(t! F').size+1=(t! st).size->(∀j,lo<=j->(k! F')[j]?=(k! st)[j]?)->Q d! F'):Ċ M A E s (mergeAt' i) Q st:=by
 obtain⟨pre,⟨sa,na,pa⟩,⟨sb,nb,pb⟩,post,el,hl⟩:=EV (l:=(t! st).toList) (i:=i) (by simpa using hi);have hc:=hR.chain;rw[el]at hc;obtain⟨m,c1,c2⟩:=bO.split hc;obtain⟨rfl,na0,rfl,nb0,c3⟩:=c2;have A_:=bO.le c3;have e1:(t! st)[i]?=a! (sa,na,pa):=by rw[<-C?,el,<-hl];simp
 have e2:(t! st)[i+1]?=a! (sa+na,nb,pb):=by rw[<-C?,el,<-hl];simp
 have Z:=hR.size;have s1:=hR.segs (sa,na,pa) (by rw[el];simp);have s2:=hR.segs (sa+na,nb,pb) (by rw[el];simp);refine yi hA hR.kind (hR.allP hP) hR.failed e1 e2 rfl na0 nb0 0x1 s1 s2 λF' k' f' p' same seg pe=>?_;have WQ:(t! F').toList=pre++(sa,na+nb,pa)::post:=by rw[pe,Array.toList_eraseIdxIfInBounds,Array.toList_setIfInBounds,el,<-hl];simp[List.set_append,List.eraseIdx_append];intro hc;lia
 refine h F' ⟨k',f',p'.trans hR.perm,?_,λp hp=>?_⟩ ?_ λj hj=>same j (.inr 0x1)
 ·rw[WQ];exact bO.app c1 ⟨rfl,0x1,by rwa[<-Á]⟩
 ·rw[WQ]at hp;obtain q|q:=Og.mp hp
  ·have b1:=bO.mem c1 p q;exact(hR.segs p (by rw[el];exact N5 _ q)).congr λj q1 q2=>same j (.inl 0x1)
  ·obtain q|q:=Of.mp q
   ·subst q;show fE bv _ sa (sa+(na+nb));rwa[<-Á]
   ·have b1:=bO.mem c3 p q;exact(hR.segs p (by rw[el];exact N4 _ (N1 _ (N1 _ q)))).congr λj q1 q2=>same j (.inr 0x1)
 ·have z1:(t! F').size=(pre++(sa,na+nb,pa)::post).length:=by rw[<-WQ,u?]
  have z2:(t! st).size=(pre++(sa,na,pa)::(sa+na,nb,pb)::post).length:=by rw[<-el,u?]
  rw[z1,z2];simp;lia
theorem sA{f:Pn->Pn}(hf:∀p,(f p).1=p.1/\(f p).2.1=p.2.1):∀{l:List Pn}{i lo hi:Nat},bO l lo hi->bO (l.modify i f) lo hi
 |[],i,_,_,h=>by cases i <;>exact h
 |(s,n,p)::r,0,lo,hi,h=>by
  have q:=hf (s,n,p);show bO (f (s,n,p)::r) lo hi
  match e:f (s,n,p),q with
  |(s',n',p'),q=>exact⟨q.1.trans h.1,by rw[show n'=n from q.2];exact h.2.1,by rw[show n'=n from q.2];exact h.2.2⟩
 |(s,n,p)::r,i+1,lo,hi,h=>⟨h.1,h.2.1,sA hf h.2.2⟩
theorem zF{f:Pn->Pn}(hf:∀p,(f p).1=p.1/\(f p).2.1=p.2.1):∀{l:List Pn}{i:Nat}{p:Pn},p∈l.modify i f->∃q∈l,p.1=q.1/\p.2.1=q.2.1
 |[],i,p,h=>by cases i <;>cases h
 |a::r,0,p,h=>by
  obtain e|e:=Of.mp (show p∈f a::r from h)
  ·exact⟨a,N2,by rw[e];exact hf a⟩
  ·exact⟨p,N1 _ e,rfl,rfl⟩
 |a::r,i+1,p,h=>by
  obtain e|e:=Of.mp (show p∈a::r.modify i f from h)
  ·exact⟨a,N2,by rw[e];exact⟨rfl,rfl⟩⟩
  ·obtain⟨q,hq,e1⟩:=zF hf e;exact⟨q,N1 _ hq,e1⟩
def RnS.pw{f:Pn->Pn}(h:RnS bv κ gV lo st)(hf:∀p,(f p).1=p.1/\(f p).2.1=p.2.1):RnS bv κ gV lo (Ω st ((t! st).modify i f)):=⟨h.kind,h.failed,h.perm,by
  show bO ((t! st).modify i f).toList 0 lo;rw[į];exact sA hf h.chain,λp hp=>by have Pg:p∈((t! st).modify i f).toList:=hp;rw[į]at Pg;obtain⟨q,hq,e1,e2⟩:=zF hf Pg;rw[e1,e2];exact h.segs q hq⟩
def xl(hA:o5 M A E s κ bv P){Q:Unit->G!->Prop}(hk:kindOf st=κ)(hf:YA st=b!)(hp:t! st=#[])(hP:∀x∈(k! st).toList,P x)(h:∀F',YA F'=b!->(k! F').Perm (k! st)->(k! F').toList.Pairwise (Le bv)->Q () F'):Ċ M A E s sortRuns' Q st:=by
 obtain⟨gV,ea⟩:∃x,x=k! st:=⟨_,rfl⟩;have RI:∀x∈gV.toList,P x:=by rwa[ea]
 refine h! (Y3 ?_);dsimp only;rw[show(k! st).size=gV.size by rw[ea]];obtain⟨mr,emr⟩:∃x,x=minRun' gV.size gV.size 0:=⟨_,rfl⟩;rw[show(sortPriv% PySem.Builtin.minRun) gV.size gV.size 0=mr from emr.symm];refine h! (Xd (H?
  (I:=λx c F'=>∃lo,c=(b!,lo)/\RnS bv κ gV lo F'/\lo<=gV.size/\min x gV.size<=lo)
  (Q:=λc F'=>c=(b!,gV.size)/\RnS bv κ gV gV.size F') ?ĳ ?fin ⟨0,rfl,⟨hk,hf,by rw[ea],by rw[hp];exact rfl,by rw[hp];exact λo hx=>nomatch hx⟩,Ov _,0x1⟩) ?post)
 case fin=>
  rintro c F' ⟨lo,rfl,hR,h1,h2⟩;have:lo=gV.size:=by lia
  subst this;exact⟨rfl,hR⟩
 case ĳ=>
  rintro x c OH _ hx ⟨lo,rfl,hR,hlz,h2⟩;dsimp only;by_cases Qt:lo>=gV.size
  ·rw[é Qt];have:lo=gV.size:=by lia
   subst this;exact j? ⟨rfl,hR⟩
  rw[è Qt];have Z1:=hR.size;refine h! (vJ hA hR.kind (hR.allP RI) 0x1 0x1 λn ON n1 n2 F2 S2=>?_);dsimp only;have R2:RnS bv κ gV lo ON:=⟨F2.kind.trans hR.kind,F2.failed.trans hR.failed,F2.perm.trans hR.perm,by rw[F2.pend];exact hR.chain,λp hp=>by rw[F2.pend]at hp;have b1:=bO.mem hR.chain p hp;exact(hR.segs p hp).congr λj q1 q2=>F2.same j (.inl 0x1)⟩
  by_cases hn:n<mr
  ·rw[é hn];refine h! (ZP (Yz ⟨rfl,?_⟩));have Z2:=R2.size;refine h! (rV hA R2.kind (R2.allP RI) n1 0x1 0x1 S2 λO9 F3 S3=>?_);rw[è 0x4];have R3:RnS bv κ gV lo O9:=⟨F3.kind.trans R2.kind,F3.failed.trans R2.failed,F3.perm.trans R2.perm,by rw[F3.pend];exact R2.chain,λp hp=>by rw[F3.pend]at hp;have b1:=bO.mem R2.chain p hp;exact(R2.segs p hp).congr λj q1 q2=>F3.same j (.inl 0x1)⟩
   have Vt:1<=min (gV.size-lo) mr:=by lia
   have nf2:min (gV.size-lo) mr<=gV.size-lo:=by lia
   clear S2 F2 F3 hn n1 n2;generalize min (gV.size-lo) (mr)=m at *;have Q7:∀OQ,RnS bv κ gV lo OQ->fE bv (k! OQ) lo (lo+m)->RnS bv κ gV (lo+m) (Ω OQ ((t! OQ).push (lo,m,0))):=λOQ R4 S4=>
    ⟨R4.kind,R4.failed,R4.perm,by
     show bO ((t! OQ).push (lo,m,0)).toList 0 (lo+m);rw[Xm];exact bO.app R4.chain ⟨rfl,Vt,rfl⟩,λp hp=>by
     have Pg:p∈((t! OQ).push (lo,m,0)).toList:=hp;rw[Xm]at Pg;obtain q|q:=Og.mp Pg
     ·exact R4.segs p q
     ·rw[Oi.mp q];exact S4⟩
   refine h! (Y3 ?_);cases eb:(t! O9).back? with
   |none=>
    dsimp only;exact h! (X1 (j? ⟨_,rfl,Q7 O9 R3 S3,0x1,0x1⟩))
   |some pb=>
    obtain⟨s1,n1,p1⟩:=pb;dsimp only;refine h! (Xd (H?
     (I:=λo c F'=>c=(b!,())/\RnS bv κ gV lo F'/\fE bv (k! F') lo (lo+m))
     (Q:=λc F'=>c=(b!,())/\RnS bv κ gV lo F'/\fE bv (k! F') lo (lo+m)) ?_ (λo o q=>q) ⟨rfl,R3,S3⟩) ?_)
    ·rintro y c OQ _ hy ⟨rfl,R4,S4⟩;refine h! (Y3 ?_)
     try dsimp only
     by_cases h1:(t! OQ).size>1
     ·rw[é h1];have OL:(t! OQ).size-2<(t! OQ).size:=by lia
      rw[getElem?_pos (t! OQ) _ OL];have QF:(t! OQ).size-2+1<(t! OQ).size:=by lia
      dsimp only;split
      ·exact j? ⟨rfl,R4,S4⟩
      ·refine h! (l7 hA RI R4 hlz QF λQU R5 o s5=>?_);rw[è 0x4];exact j? ⟨rfl,R5,S4.congr λj q1 o=>s5 j q1⟩
     ·rw[è h1];exact j? ⟨rfl,R4,S4⟩
    ·rintro c OQ ⟨rfl,R4,S4⟩
     try dsimp only
     refine h! (X1 (h! (X1 (j? ⟨_,rfl,Q7 _ ?_ S4,0x1,0x1⟩))));exact R4.pw λo=>⟨rfl,rfl⟩
  ·rw[è hn];obtain⟨O9,est⟩:∃x,x=ON:=⟨_,rfl⟩;rw[<-est]at R2 S2 ⊢;have R3:=R2;have S3:=S2;have Vt:=n1;have nf2:=n2;clear S2 F2 hn n1 n2 R2;generalize n=m at *;have Q7:∀OQ,RnS bv κ gV lo OQ->fE bv (k! OQ) lo (lo+m)->RnS bv κ gV (lo+m) (Ω OQ ((t! OQ).push (lo,m,0))):=λOQ R4 S4=>
    ⟨R4.kind,R4.failed,R4.perm,by
     show bO ((t! OQ).push (lo,m,0)).toList 0 (lo+m);rw[Xm];exact bO.app R4.chain ⟨rfl,Vt,rfl⟩,λp hp=>by
     have Pg:p∈((t! OQ).push (lo,m,0)).toList:=hp;rw[Xm]at Pg;obtain q|q:=Og.mp Pg
     ·exact R4.segs p q
     ·rw[Oi.mp q];exact S4⟩
   refine h! (Y3 ?_);cases eb:(t! O9).back? with
   |none=>
    dsimp only;exact h! (X1 (j? ⟨_,rfl,Q7 O9 R3 S3,0x1,0x1⟩))
   |some pb=>
    obtain⟨s1,n1,p1⟩:=pb;dsimp only;refine h! (Xd (H?
     (I:=λo c F'=>c=(b!,())/\RnS bv κ gV lo F'/\fE bv (k! F') lo (lo+m))
     (Q:=λc F'=>c=(b!,())/\RnS bv κ gV lo F'/\fE bv (k! F') lo (lo+m)) ?_ (λo o q=>q) ⟨rfl,R3,S3⟩) ?_)
    ·rintro y c OQ _ hy ⟨rfl,R4,S4⟩;refine h! (Y3 ?_)
     try dsimp only
     by_cases h1:(t! OQ).size>1
     ·rw[é h1];have OL:(t! OQ).size-2<(t! OQ).size:=by lia
      rw[getElem?_pos (t! OQ) _ OL];have QF:(t! OQ).size-2+1<(t! OQ).size:=by lia
      dsimp only;split
      ·exact j? ⟨rfl,R4,S4⟩
      ·refine h! (l7 hA RI R4 hlz QF λQU R5 o s5=>?_);rw[è 0x4];exact j? ⟨rfl,R5,S4.congr λj q1 o=>s5 j q1⟩
     ·rw[è h1];exact j? ⟨rfl,R4,S4⟩
    ·rintro c OQ ⟨rfl,R4,S4⟩
     try dsimp only
     refine h! (X1 (h! (X1 (j? ⟨_,rfl,Q7 _ ?_ S4,0x1,0x1⟩))));exact R4.pw λo=>⟨rfl,rfl⟩
 case post=>
  rintro c OH ⟨rfl,R1⟩;dsimp only;refine h! (Xd (H?
   (I:=λx c F'=>c=(b!,())/\RnS bv κ gV gV.size F'/\(t! F').size<=max 1 (gV.size-x))
   (Q:=λc F'=>c=(b!,())/\RnS bv κ gV gV.size F'/\(t! F').size<=1) ?_ ?_ ⟨rfl,R1,?_⟩) ?_)
  ·rintro x c ON _ hx ⟨rfl,R2,hsz⟩;refine h! (Y3 ?_)
   try dsimp only
   by_cases h1:(t! ON).size<=1
   ·rw[é h1];exact j? ⟨rfl,R2,h1⟩
   rw[è h1];have t:∀(c:Prop)[Decidable c],(if c then(t! ON).size-2-1 else(t! ON).size-2)+1<(t! ON).size:=λc o=>by split <;>lia
   refine h! (l7 hA RI R2 (N6 _) (t _) λO9 R3 z3 o=>?_)
   ·rw[è 0x4];exact j? ⟨rfl,R3,0x1⟩
  ·rintro c ON ⟨rfl,R2,hsz⟩;exact⟨rfl,R2,0x1⟩
  ·have:=bO.len R1.chain;rw[u?]at this;lia
  ·rintro c ON ⟨rfl,R2,hsz⟩;dsimp only;refine j? (h ON R2.failed (by rw[<-ea];exact R2.perm) (kF.mpr ?_));have Z:=R2.size;have hc:=R2.chain;have hs:=R2.segs
   match e:(t! ON).toList,hc,hs with
   |[],hc,_=>
    have:0=gV.size:=hc;intro i j x y _ _ hj;lia
   |[(s1,n1,p1)],hc,hs=>
    obtain⟨rfl,_,hn⟩:=hc;have RK:0+n1=gV.size:=hn;have:=hs _ N2;rw[Z,<-RK];exact this
   |_::_::_,_,_=>
    have:(t! ON).toList.length<=1:=by rwa[u?]
    rw[e]at this;simp at this
end
noncomputable def n4(l:List Nat):List Int:=l.map (λn:Nat=>(n:Int))++[-1]
mutual
def jx:j!->List Int
 |.int i=>[i]
 |.str x=>n4 x.cps.toList
 |.tuple xs=>iY xs
 |_=>[]
def iY:List j!->List Int
 |[]=>[0]
 |x::r=>1::(jx x++iY r)
end
mutual
def iR:j!->Bool
 |.int _=>d!
 |.str _=>d!
 |.tuple xs=>Bs xs
 |_=>e!
def Bs:List j!->Bool
 |[]=>d!
 |x::r=>iR x&&Bs r
end
def bE(x y:Int)(a b:List Int):ll (x::a) (y::b)=if x=y then ll a b else g! (x<y):=HT.lexLt_cons ..
theorem zh:∀(a b:List Nat)(r1 r2:List Int),(a=b/\g! (a<b)=e!)\/(a≠b/\ll (n4 a++r1) (n4 b++r2)=g! (a<b)/\ll (n4 b++r2) (n4 a++r1)=!g! (a<b))
 |[],[],_,_=>.inl ⟨rfl,0x4⟩
 |[],y::b,r1,r2=>.inr ⟨0x4,(by show ll (-1::r1) ((y:Int)::(n4 b++r2))=_/\ll ((y:Int)::(n4 b++r2)) (-1::r1)=_;rw[bE,bE,è 0x1,è 0x1];constructor <;>simp <;>lia)⟩
 |x::a,[],r1,r2=>.inr ⟨0x4,(by show ll ((x:Int)::(n4 a++r1)) (-1::r2)=_/\ll (-1::r2) ((x:Int)::(n4 a++r1))=_;rw[bE,bE,è 0x1,è 0x1];constructor <;>simp <;>lia)⟩
 |x::a,y::b,r1,r2=>by
  have e1:n4 (x::a)++r1=(x:Int)::(n4 a++r1):=rfl;have e2:n4 (y::b)++r2=(y:Int)::(n4 b++r2):=rfl;rw[e1,e2,bE,bE];by_cases h:x=y
  ·subst h;rw[é rfl,é rfl];have ed:g! (x::a<x::b)=g! (a<b):=by simp[ĥ]
   rw[ed];obtain⟨q,q2⟩|q:=zh a b r1 r2
   ·exact .inl ⟨by rw[q],q2⟩
   ·exact .inr ⟨λe=>q.1 (by cases e;rfl),q.2⟩
  ·rw[è 0x1,è 0x1];refine .inr ⟨λe=>h (by cases e;rfl),?_⟩;have ed:g! (x::a<y::b)=g! (x<y):=by simp[ĥ,h]
   rw[ed];constructor
   ·simp
   ·by_cases q:x<y
    ·simp[q];lia
    ·simp[q];lia
mutual
theorem DE:∀(x y:j!),iR x=d!->iR y=d!->i? x y=d!->x=y
 |.int i,.int j,_,_,h=>by unfold i? at h;rw[eq_of_beq h]
 |.str x,.str y,_,_,h=>by unfold i? at h;rw[eq_of_beq h]
 |.tuple xs,.tuple ys,h1,h2,h=>by unfold i? at h;unfold iR at h1 h2;rw[sP xs ys h1 h2 h]
 |.int _,.str _,_,_,h=>by unfold i? at h;cases h
 |.int _,.tuple _,_,_,h=>by unfold i? at h;cases h
 |.str _,.int _,_,_,h=>by unfold i? at h;cases h
 |.str _,.tuple _,_,_,h=>by unfold i? at h;cases h
 |.tuple _,.int _,_,_,h=>by unfold i? at h;cases h
 |.tuple _,.str _,_,_,h=>by unfold i? at h;cases h
 |.none,_,h,_,_=>by unfold iR at h;cases h
 |.bool _,_,h,_,_=>by unfold iR at h;cases h
 |.list _,_,h,_,_=>by unfold iR at h;cases h
 |.dict _,_,h,_,_=>by unfold iR at h;cases h
 |_,.none,_,h,_=>by unfold iR at h;cases h
 |_,.bool _,_,h,_=>by unfold iR at h;cases h
 |_,.list _,_,h,_=>by unfold iR at h;cases h
 |_,.dict _,_,h,_=>by unfold iR at h;cases h
theorem sP:∀(xs ys:List j!),Bs xs=d!->Bs ys=d!->G? xs ys=d!->xs=ys
 |[],[],_,_,_=>rfl
 |[],_::_,_,_,h=>by unfold G? at h;cases h
 |_::_,[],_,_,h=>by unfold G? at h;cases h
 |x::xs,y::ys,h1,h2,h=>by unfold G? at h;unfold Bs at h1 h2;rw[k?]at h h1 h2;rw[DE x y h1.1 h2.1 h.1,sP xs ys h1.2 h2.2 h.2]
end
mutual
theorem vL:∀(x:j!),iR x=d!->i? x x=d!
 |.int i,_=>by unfold i?;exact beq_self_eq_true i
 |.str x,_=>by unfold i?;exact beq_self_eq_true x
 |.tuple xs,h=>by unfold i?;unfold iR at h;exact oQ xs h
 |.none,h=>by unfold iR at h;cases h
 |.bool _,h=>by unfold iR at h;cases h
 |.list _,h=>by unfold iR at h;cases h
 |.dict _,h=>by unfold iR at h;cases h
theorem oQ:∀(xs:List j!),Bs xs=d!->G? xs xs=d!
 |[],_=>by unfold G?;rfl
 |x::r,h=>by unfold G?;unfold Bs at h;rw[k?]at h;rw[vL x h.1,oQ r h.2];rfl
end
mutual
theorem pQ:∀(x y:j!)(b:Bool),iR x=d!->iR y=d!->cD d! x y=a! b->∀r1 r2:List Int,
  (x=y/\b=e!)\/(x≠y/\ll (jx x++r1) (jx y++r2)=b/\ll (jx y++r2) (jx x++r1)=!b)
 |.int i,.int j,b,_,_,h,r1,r2=>by
  unfold cD cI at h;cases h;unfold jx;show _\/(_/\ll (i::r1) (j::r2)=_/\ll (j::r2) (i::r1)=_);rw[bE,bE];by_cases e:i=j
  ·subst e;exact .inl ⟨rfl,0x4⟩
  ·rw[è e,è (XR e)];refine .inr ⟨λq=>e (by cases q;rfl),0x4,?_⟩;by_cases q:i<j
   ·simp[q];lia
   ·simp[q];lia
 |.str x,.str y,b,_,_,h,r1,r2=>by
  unfold cD cS at h;cases h;unfold jx;simp only[if_true];obtain⟨q1,q2⟩|q:=zh x.cps.toList y.cps.toList r1 r2
  ·have:x=y:=by
    cases x;cases y
    congr 1;exact Ü.mp q1
   subst this;exact .inl ⟨rfl,q2⟩
  ·exact .inr ⟨λe=>q.1 (by cases e;rfl),q.2⟩
 |.tuple xs,.tuple ys,b,h1,h2,h,r1,r2=>by
  unfold cD at h;unfold iR at h1 h2;unfold jx;obtain⟨q1,q2⟩|⟨q1,q2⟩:=wJ xs ys b h1 h2 h r1 r2
  ·exact .inl ⟨by rw[q1],q2⟩
  ·exact .inr ⟨λe=>q1 (by cases e;rfl),q2⟩
 |.int _,.str _,_,_,_,h,_,_=>by unfold cD at h;cases h
 |.int _,.tuple _,_,_,_,h,_,_=>by unfold cD at h;cases h
 |.str _,.int _,_,_,_,h,_,_=>by unfold cD at h;cases h
 |.str _,.tuple _,_,_,_,h,_,_=>by unfold cD at h;cases h
 |.tuple _,.int _,_,_,_,h,_,_=>by unfold cD at h;cases h
 |.tuple _,.str _,_,_,_,h,_,_=>by unfold cD at h;cases h
 |.none,_,_,h,_,_,_,_=>by unfold iR at h;cases h
 |.bool _,_,_,h,_,_,_,_=>by unfold iR at h;cases h
 |.list _,_,_,h,_,_,_,_=>by unfold iR at h;cases h
 |.dict _,_,_,h,_,_,_,_=>by unfold iR at h;cases h
 |_,.none,_,_,h,_,_,_=>by unfold iR at h;cases h
 |_,.bool _,_,_,h,_,_,_=>by unfold iR at h;cases h
 |_,.list _,_,_,h,_,_,_=>by unfold iR at h;cases h
 |_,.dict _,_,_,h,_,_,_=>by unfold iR at h;cases h
theorem wJ:∀(xs ys:List j!)(b:Bool),Bs xs=d!->Bs ys=d!->cL d! xs ys=a! b->∀r1 r2:List Int,
  (xs=ys/\b=e!)\/(xs≠ys/\ll (iY xs++r1) (iY ys++r2)=b/\ll (iY ys++r2) (iY xs++r1)=!b)
 |[],[],b,_,_,h,_,_=>by unfold cL at h;cases h;exact .inl ⟨rfl,rfl⟩
 |[],y::ys,b,_,_,h,r1,r2=>by
  unfold cL at h;cases h
  refine .inr ⟨0x4,?_⟩;unfold iY;show ll (0::r1) (1::(jx y++iY ys++r2))=_/\ll (1::(jx y++iY ys++r2)) (0::r1)=_;rw[bE,bE];exact⟨rfl,rfl⟩
 |x::xs,[],b,_,_,h,r1,r2=>by
  unfold cL at h;cases h
  refine .inr ⟨0x4,?_⟩;unfold iY;show ll (1::(jx x++iY xs++r1)) (0::r2)=_/\ll (0::r2) (1::(jx x++iY xs++r1))=_;rw[bE,bE];exact⟨rfl,rfl⟩
 |x::xs,y::ys,b,h1,h2,h,r1,r2=>by
  unfold cL at h;unfold Bs at h1 h2;rw[k?]at h1 h2;have e1:iY (x::xs)++r1=1::(jx x++(iY xs++r1)):=by rw[iY];simp
  have e2:iY (y::ys)++r2=1::(jx y++(iY ys++r2)):=by rw[iY];simp
  rw[e1,e2,bE,bE,é rfl,é rfl];by_cases e:i? x y=d!
  ·rw[é e]at h;have UB:=DE x y h1.1 h2.1 e;subst UB;have z:∀(l r1 r2:List Int),ll (l++r1) (l++r2)=ll r1 r2:=λl r1 r2=>by
    induction l with
    |nil=>rfl
    |cons u l ih=>show ll (u::(l++r1)) (u::(l++r2))=_;rwa[bE,é rfl]
   rw[z,z];obtain⟨q1,q2⟩|⟨q1,q2⟩:=wJ xs ys b h1.2 h2.2 h r1 r2
   ·exact .inl ⟨by rw[q1],q2⟩
   ·exact .inr ⟨λe=>q1 (by cases e;rfl),q2⟩
  ·rw[è e]at h;obtain⟨q1,q2⟩|⟨q1,q2⟩:=pQ x y b h1.1 h2.1 h (iY xs++r1) (iY ys++r2)
   ·subst q1;exact ê (vL x h1.1) e
   ·exact .inr ⟨λe=>q1 (by cases e;rfl),q2⟩
end
def uZ{x y:j!}{b:Bool}(h1:iR x=d!)(h2:iR y=d!)(h:cD d! x y=a! b):ll (jx x) (jx y)=b:=by
 obtain⟨q1,q2⟩|⟨_,q,_⟩:=pQ x y b h1 h2 h [] []
 ·rw[q1,q2];exact d8 _
 ·simpa using q
def GO{x y:j!}(h1:iR x=d!)(h2:iR y=d!)(h:(cD d! x y).isSome=d!)(e:jx x=jx y):x=y:=by
 obtain⟨b,hb⟩:=Oo.mp h;obtain⟨q1,_⟩|⟨_,q1,q2⟩:=pQ x y b h1 h2 hb [] []
 ·exact q1
 ·rw[e,d8]at q1;rw[e,d8,<-q1]at q2;cases q2
section
variable{prog:g?}{w:q?}{A:A?}{E:b?->d?->Prop}{s:d?}
def Dm(vs:List b?):vs.zip vs=vs.map λv=>(v,v):=by
 induction vs with
 |nil=>rfl
 |cons v r ih=>rw[Â,ih];rfl
def lR{a:c!}{vs:List b?}{n:Nat}{P:PySem.Fin->d?->Prop}{κ:X?}(ho:s.heap.get? a=a! (T! "list" vs.toArray n))(hz:vs.length<=10000)(hk:∀(s':d?)(Q:X?->d?->Prop)(E:b?->d?->Prop),(∀b o,b≠a->s.heap.get? b=a! o->s'.heap.get? b=a! o)->2<=vs.length->Q κ s'->n? (p! prog w) A (aÃ vs.toArray) Q E s')(hc:∀(s':d?)(u v:b?)(Q:Bool->d?->Prop)(E:b?->d?->Prop),(∀b o,b≠a->s.heap.get? b=a! o->s'.heap.get? b=a! o)->u∈vs->v∈vs->Q (ll (bv (u,u)) (bv (v,v))) s' ->
   n? (p! prog w) A (keyLt' κ u v) Q E s')(h:∀out:List b?,out.Perm vs->out.Pairwise (λu v=>ll (bv (v,v)) (bv (u,u))=e!)->P (.done (.ret .none)) {s with heap:=Ψ s.heap a vs out.toArray}):n? (p! prog w) A (X5.«list.sort» ⟨[.ref a],[]⟩) P E s:=by
 rw[list_sort_plain];have ha:a<s.heap.objs.size:=N9 ho;refine N7 (listItems_at ho rfl ?_);refine N7 (ļ ho rfl ?_ (by rw[o!,K!];lia) (Ov _));obtain⟨c1,Ve⟩:∃c1,(s.heap.update a (W5 λq=>#[])).get? a=a! (T! "list" #[] c1):=⟨_,Z8 ho (λq=>#[])⟩;refine N7 (ż Ve rfl ?_);refine N7 (wpAny_newTuple ?_ (by show vs.length<=_;rw[K!];lia));refine N7 (İ ?_ (Ov _));refine XG ?_;have keep:∀b o,b≠a->s.heap.get? b=a! o->(((s.heap.update a (W5 λq=>#[])).push (T! "tuple" vs.toArray 0)).push (T! "list" #[] 0)).get? b=a! o:=λb o hb e=>
  N3 _ (N3 _ (by rwa[ĺ _ _ _ _ hb]))
 have Ts:(((s.heap.update a (W5 λq=>#[])).push (T! "tuple" vs.toArray 0)).push (T! "list" #[] 0)).get? a=a! (T! "list" #[] c1):=N3 _ (N3 _ Ve);show n? (p! prog w) A _ P E {s with heap:=((s.heap.update a (W5 λq=>#[])).push (T! "tuple" vs.toArray 0)).push (T! "list" #[] 0)};dsimp only;have hsz:vs.toArray.size=vs.length:=o! ..;have Wk:(vs.toArray.zip vs.toArray).toList=vs.map λv=>(v,v):=by rw[<-Dm];simp
 have fin:∀F':G!,(k! F').Perm (vs.toArray.zip vs.toArray)->(k! F').toList.Pairwise (Le bv)->YA F'=b! ->
   ∃out:List b?,(k! F').map (·.2)=out.toArray/\out.length=vs.length/\P (.done (.ret .none)) {s with heap:=Ψ s.heap a vs out.toArray}:=λF' hp hs hf=>by
  have Pg:(k! F').toList.Perm (vs.map λv=>(v,v)):=by rw[<-Wk];exact Ym.mp hp
  have hpo:((k! F').toList.map (·.2)).Perm vs:=by
   have:=Pg.map (·.2)
   rwa[A!,show(vs.map ((λp:u!=>p.2)∘λv=>(v,v)))=vs from by rw[show((λp:u!=>p.2)∘λv:b?=>(v,v))=id from rfl,List.map_id]]at this
  refine⟨(k! F').toList.map (·.2),by apply Ü.mp;simp,hpo.length_eq,h _ hpo ?_⟩;refine B!.mpr (hs.imp_of_mem λ{x y} hx hy UR=>?_);obtain⟨u,_,eu⟩:=Oh.mp (Pg.mem_iff.mp hx);obtain⟨v,_,ev⟩:=Oh.mp (Pg.mem_iff.mp hy);subst eu;subst ev
  exact UR
 by_cases h2:vs.length<2
 ·have Rc:vs.toArray.size<2:=by lia
  rw[é Rc,é Rc];refine N7 (N8 ?_);rw[StateT.run_pure];refine N7 (N8 ?_);dsimp only;obtain⟨out,eo,zo,hP⟩:=fin (SortSt.mk' general' (vs.toArray.zip vs.toArray) #[] 7 b!) (Zq _) (by
   show(vs.toArray.zip vs.toArray).toList.Pairwise (Le bv);rw[Wk]
   match vs,h2 with
   |[],_=>exact S?
   |[v],_=>exact ĕ _ _
   |_::_::_,h=>simp at h;lia) rfl
  refine N7 (ż Ts rfl ?_);rw[eo];refine N7 (ļ Ts rfl ?_ (Ov _) (by rw[o!,zo,K!];lia));simp only[bne_self_eq_false,o?,if_false];exact N8 hP
 ·have Rc:¬vs.toArray.size<2:=by lia
  rw[è Rc,è Rc];refine N7 (hk _ _ _ keep 0x1 ?_);have Vr:o5 (p! prog w) A E {s with heap:=((s.heap.update a (W5 λq=>#[])).push (T! "tuple" vs.toArray 0)).push (T! "list" #[] 0)} κ bv (λx=>∃v∈vs,x=(v,v)):=λx y st Q Um ⟨u,hu,ex⟩ ⟨v,hv,ey⟩ hq=>by
   subst ex;subst ey
   rw[lt'_eq];refine h! (Y3 ?_);rw[Um];refine h! (ZP (Ĳ (hc _ u v _ _ keep hu hv ⟨rfl,?_⟩)));exact j? hq
  refine N7 (Xy (xl Vr (st:=SortSt.mk' κ (vs.toArray.zip vs.toArray) #[] 7 b!) (Q:=λq F'=>YA F'=b!/\∃out:List b?,(k! F').map (·.2)=out.toArray/\out.length=vs.length/\P (.done (.ret .none)) {s with heap:=Ψ s.heap a vs out.toArray})
   rfl rfl rfl (λx hx=>?_) λF' a1 a2 a3=>⟨a1,fin F' a2 a3 a1⟩) ?_ λq q x=>x)
  ·have UO:x∈(vs.toArray.zip vs.toArray).toList:=hx;rw[Wk]at UO;obtain⟨v,hv,e⟩:=Oh.mp UO;exact⟨v,hv,e.symm⟩
  ·rintro⟨⟨⟩,F'⟩ s' ⟨rfl,hf,out,eo,zo,hP⟩;dsimp only at hf eo ⊢;refine N7 (ż Ts rfl ?_);rw[eo];refine N7 (ļ Ts rfl ?_ (Ov _) (by rw[o!,zo,K!];lia));rw[hf];simp only[bne_self_eq_false,o?,if_false];exact N8 hP
def yh{l:c!}{vs:List b?}{Q:b?->d?->Prop}{κ:X?}(hl:s.heap.IsList l vs.toArray)(hz:vs.length<=10000)(hk:∀(A':A?)(s':d?)(Q:X?->d?->Prop)(E:b?->d?->Prop),A'.units<=A.units+2->(∀b o,s.heap.get? b=a! o->s'.heap.get? b=a! o)->2<=vs.length->Q κ s'->n? (p! prog w) A' (aÃ vs.toArray) Q E s')(hc:∀(A':A?)(s':d?)(u v:b?)(Q:Bool->d?->Prop)(E:b?->d?->Prop),A'.units<=A.units+2->(∀b o,s.heap.get? b=a! o->s'.heap.get? b=a! o)->u∈vs->v∈vs->Q (ll (bv (u,u)) (bv (v,v))) s' ->
   n? (p! prog w) A' (keyLt' κ u v) Q E s')(h:∀out:List b?,out.Perm vs->out.Pairwise (λu v=>ll (bv (v,v)) (bv (u,u))=e!)->Q (.ref (s.heap.objs.size+1)) {s with heap:=sortedAll s.heap vs out.toArray}):n? (p! prog w) A (call (.builtin "sorted") [.ref l]) Q E s:=by
 refine Ā kind_sorted plain_sorted entry_sorted (args_sorted1 _) ?_;unfold X5.«sorted»;refine N7 (m:=checkCount "sorted" 1 1 _) (N8 ?_);refine N7 (collect_list hl ?_ (by rw[K!];lia));refine N7 (İ ?_ (by rw[K!];lia));have z1:((s.heap.push (T! "list" #[] 0)).update s.heap.objs.size (W5 (·++vs.toArray))).objs.size=s.heap.objs.size+1:=by rw[YY,size_push']
 have Si:(((s.heap.push (T! "list" #[] 0)).update s.heap.objs.size (W5 (·++vs.toArray))).push (T! "list" vs.toArray 0)).get? (s.heap.objs.size+1)=a! (T! "list" vs.toArray 0):=by rw[<-z1];exact OC _ rfl
 have keep:∀b o,s.heap.get? b=a! o->(((s.heap.push (T! "list" #[] 0)).update s.heap.objs.size (W5 (·++vs.toArray))).push (T! "list" vs.toArray 0)).get? b=a! o:=λb o e=>
  N3 _ (by rw[ĺ _ _ _ _ (OA (N9 e))];exact N3 _ e)
 show n? _ _ _ _ _ {s with heap:=((s.heap.push (T! "list" #[] 0)).update s.heap.objs.size (W5 (·++vs.toArray))).push (T! "list" vs.toArray 0)};rw[z1];have Tv:∀b o,s.heap.get? b=a! o->b≠s.heap.objs.size+1:=λb o e=>OA (Yf (N9 e));refine N7 (XG (YC aÂ ⟨_,Si,rfl⟩ ϯ (lR (κ:=κ) (bv:=bv) Si hz
  (λs' Q' E' kp h2 q=>hk _ s' Q' E' ?_ (λb o e=>kp b o (Tv b o e) (keep b o e)) h2 q) (λs' u v Q' E' kp hi hj q=>hc _ s' u v Q' E' ?_ (λb o e=>kp b o (Tv b o e) (keep b o e)) hi hj q) λout o1 o2=>?_) (aÄ _)))
 ·exact N6 _
 ·exact N6 _
 ·exact⟨_,rfl,N8 ⟨_,rfl,h out o1 o2⟩⟩
end
def yp(d:D):List D->List D
 |[]=>[d]
 |e::r=>if ll (jx d) (jx e)=d! then d::e::r else e::yp d r
def r9:List D->List D
 |[]=>[]
 |d::r=>yp d (r9 r)
theorem nY(d:D):∀xs:List D,(yp d xs).Perm (d::xs)
 |[]=>.refl _
 |e::r=>by
  unfold yp;split
  ·exact .refl _
  ·exact((nY d r).cons e).trans (.swap d e r)
theorem dw:∀xs:List D,(r9 xs).Perm xs
 |[]=>.refl _
 |d::r=>(nY d (r9 r)).trans ((dw r).cons d)
def uP(xs:List D):Prop:=xs.Pairwise λa b=>ll (jx b) (jx a)=e!
set_option tactic.hygienic true in
theorem vV(d:D):∀{xs:List D},uP xs->uP (yp d xs)
 |[],_=>by unfold yp uP;simp
 |e::r,h=>by
  have h':=Oq.mp h;unfold yp;split
  ·rename_i c;refine Oq.mpr ⟨λx hx=>?_,h⟩;obtain q|q:=Of.mp hx
   ·subst q;exact f7 c
   ·exact g9 (f7 c) (h'.1 x q)
  ·rename_i c;refine Oq.mpr ⟨λx hx=>?_,vV d h'.2⟩;obtain q|q:=Of.mp ((nY d r).mem_iff.mp hx)
   ·subst q;simpa using c
   ·exact h'.1 x q
theorem jX:∀xs:List D,uP (r9 xs)
 |[]=>S?
 |d::r=>vV d (jX r)
structure Cmp2(ys:List D):Prop where
 ok:∀y∈ys,iR y=d!
 cmp:∀x∈ys,∀y∈ys,(cD d! x y).isSome=d!
 head:(∀y∈ys,∃i r,y=.tuple (.int i::r))\/(∀y∈ys,∃t r,y=.tuple (.str t::r))
 deep:∀y∈ys,y.depth<=50
 many:ys.length<=10000
theorem qA:∀{xs ys:List D},xs.Perm ys->uP xs->uP ys->(∀x∈xs,iR x=d!)->(∀x∈xs,∀y∈xs,(cD d! x y).isSome=d!)->xs=ys
 |[],ys,hp,_,_,_,_=>by rw[η.mp hp]
 |x::xs,[],hp,_,_,_,_=>by have:=hp.length_eq;simp at this
 |x::xs,y::ys,hp,h1,h2,hk,hc=>by
  have p1:=Oq.mp h1;have p2:=Oq.mp h2;have UB:x=y:=by
   by_cases e:x=y
   ·exact e
   ·have hx:x∈ys:=by
     obtain q|q:=Of.mp (hp.mem_iff.mp N2)
     ·exact ê q e
     ·exact q
    have hy:y∈xs:=by
     obtain q|q:=Of.mp (hp.mem_iff.mpr N2)
     ·exact ê q.symm e
     ·exact q
    have a1:=p1.1 y hy;have a2:=p2.1 x hx;exact GO (hk x N2) (hk y (N1 _ hy)) (hc x N2 y (N1 _ hy)) (jP a2 a1)
  subst UB;rw[qA (Ė hp) p1.2 p2.2 (λz hz=>hk z (N1 _ hz)) λa ha b hb=>hc a (N1 _ ha) b (N1 _ hb)]
open Classical in
def ka(xs:List DV):M DV:=match xs with
 |[x]=>bd (op (jJ x)) λys=>if Cmp2 ys then rt (.new (r9 ys))else b!
 |_=>b!
open Classical in
def Kr(h:F!)(p:u!):List Int:=if e:∃d:j!,∃as,YK h p.1 d as/\d.canLay0=d! then jx e.choose else []
def pF{h:F!}{v u:b?}{d:j!}{as:List c!}(r:YK h v d as)(hl:d.canLay0=d!):Kr h (v,u)=jx d:=by unfold Kr;have e:∃d:j!,∃as,YK h (v,u).1 d as/\d.canLay0=d!:=⟨d,as,r,hl⟩;rw[dif_pos e];obtain⟨QV,r',Qi⟩:=e.choose_spec;rw[PySem.SeqAt.Reads.unique _ _ _ _ _ Qi r' r]
theorem nz{h:F!}:∀{vs:List b?}{ds:List j!}{as:List c!},WY h vs ds as->s? ds=d!->∀v∈vs,∃d∈ds,∃bs,YK h v d bs/\d.canLay0=d!
 |_,_,_,.nil,_,_,hv=>nomatch hv
 |_,_,_,.cons r rr,hl,v,hv=>by
  unfold s? at hl;rw[k?]at hl;obtain e|e:=Of.mp hv
  ·subst e;exact⟨_,N2,_,r,hl.1⟩
  ·obtain⟨d,hd,bs,h1,h2⟩:=nz rr hl.2 v e;exact⟨d,N1 _ hd,bs,h1,h2⟩
theorem iu{h:F!}:∀{vs:List b?}{ds:List j!}{as:List c!},WY h vs ds as->s? ds=d!->∀i,i<ds.length->∃bs,YK h (vs.getD i D!) (ds.getD i .none) bs/\(ds.getD i .none).canLay0=d!
 |_,_,_,.nil,_,i,hi=>ê hi (Y_ _)
 |_,_,_,.cons r rr,hl,0,_=>by unfold s? at hl;rw[k?]at hl;exact⟨_,r,hl.1⟩
 |_,_,_,.cons r rr,hl,i+1,hi=>by unfold s? at hl;rw[k?]at hl;exact iu rr hl.2 i (Nat.lt_of_succ_lt_succ hi)
theorem wO{h:F!}:∀(vs:List b?),(∀v∈vs,∃b o D' n x t,v=.ref b/\h.get? b=a! o/\o.cls=.type "tuple" /\o.data=.seq D' n/\D'[0]?=a! (.str x t))->∃fs,Ň h vs fs/\fs.length=vs.length/\∀f∈fs,∃x t,f=Ô x t
 |[],_=>⟨[],à,rfl,λq hf=>nomatch hf⟩
 |v::r,hv=>by
  obtain⟨b,o,D',n,x,t,rfl,eo,ec,ed,e0⟩:=hv v N2;obtain⟨fs,h1,h2,h3⟩:=wO r λu hu=>hv u (N1 _ hu);refine⟨.str x t::fs,Ó eo ec ed e0 h1,by simp[h2],λf hf=>?_⟩;obtain e|e:=Of.mp hf
  ·exact⟨x,t,e⟩
  ·exact h3 f e
theorem vG{prog:g?}{w:q?}{A:A?}{s:d?}{Q:Bool->d?->Prop}{X Y:Nat}:∀{vs ws:List b?}{xs ys:List j!}{as bs:List c!}{b:Bool}(i:Nat),WY s.heap vs xs as->WY s.heap ws ys bs ->
  s? xs=d!->s? ys=d!->A.units+l? xs<K?->vs.length+Y=ws.length+X ->
  (i=0->(∃u r v r',xs=.int u::r/\ys=.int v::r')\/(∃u r v r',xs=.str u::r/\ys=.str v::r'))->cL d! xs ys=a! b->Q b s ->
  Ŝ prog w A d! (g! (X<Y)) Q (vs.zip ws) i s
 |_,_,_,_,_,_,b,i,.nil,.nil,_,_,_,hl,_,hc,h=>by
  unfold cL at hc;cases hc
  have:g! (X<Y)=e!:=Oy (by simp at hl;lia);rwa[this]
 |_,_,_,_,_,_,b,i,.nil,.cons _ _,_,_,_,hl,_,hc,h=>by
  unfold cL at hc;cases hc
  have:g! (X<Y)=d!:=Oz (by simp at hl;lia);rwa[this]
 |_,_,_,_,_,_,b,i,.cons _ _,.nil,_,_,_,hl,_,hc,h=>by
  unfold cL at hc;cases hc
  have:g! (X<Y)=e!:=Oy (by simp at hl;lia);rwa[this]
 |_,_,x::xs,y::ys,_,_,b,i,.cons r1 rr1,.cons r2 rr2,l1,l2,hu,hl,hh,hc,h=>by
  unfold s? at l1 l2;rw[k?]at l1 l2;unfold cL at hc;have RU:l? (x::xs)=max x.depth (l? xs):=by rw[l?]
  rw[RU]at hu;refine Ķ (SeqAt.eqAt_reads x y A s _ _ _ _ r1 r2 l1.1 l2.1 0x1 prog w _ _ ?_);cases e:i? x y with
  |true=>
   rw[e,é rfl]at hc;exact ń (vG (i+1) rr1 rr2 l1.2 l2.2 0x1 (by simp at hl;lia) (λq=>ê q (Nat.succ_ne_zero _)) hc h)
  |false=>
   rw[e,è z!]at hc;refine Ś ?_;by_cases hi:i=0
   ·subst hi;obtain⟨u,r,v,r',e1,e2⟩|⟨u,r,v,r',e1,e2⟩:=hh rfl
    ·cases e1;cases e2
     cases r1;cases r2
     unfold cD cI at hc;cases hc
     exact oneLt_int h
    ·cases e1;cases e2
     cases r1;cases r2
     unfold cD cS at hc;cases hc
     exact oneLt_str h
   ·have:(d!&&i==0)=e!:=by simp[hi]
    rw[this];refine Ņ _ _ ?_;exact kY _ d! x y A s _ _ _ _ b (Xf _) r1 r2 l1.1 l2.1 0x1 hc prog w _ _ h
def sS{α:Type}{d:α}:∀{xs ys:List α},xs.Perm ys->∃is:List Nat,is.Perm (m? ys.length)/\xs=is.map λi=>ys.getD i d:=by
 intro xs ys h
 induction h with
 |nil=>exact⟨[],0x4,rfl⟩
 |@cons x l1 l2 h ih=>
  obtain⟨is,h1,h2⟩:=ih;refine⟨0::is.map (·+1),?_,?_⟩
  ·rw[i!,Xw];exact(h1.map _).cons 0
  ·rw[f?,A!,h2];rfl
 |swap x y l=>
  refine⟨1::0::(m? l.length).map (·+2),?_,?_⟩
  ·rw[i!,i!,Xw,Xw,f?,A!];exact aå _ _ _
  ·rw[f?,f?,A!];show _=y::x::_;congr 1;congr 1;exact(jd d l).symm
 |@trans l1 l2 l3 ha hb iha ihb=>
  obtain⟨is,h1,h2⟩:=iha;obtain⟨js,h3,h4⟩:=ihb;have zl:js.length=l2.length:=by rw[h4];simp
  refine⟨is.map λi=>js.getD i 0,?_,?_⟩
  ·have:=h1.map λi=>js.getD i 0;rw[<-zl,jd]at this;exact this.trans h3
  ·rw[A!,h2];refine J? λi hi=>?_;have OL:i<l2.length:=Oj.mp (h1.mem_iff.mp hi);have Vn:i<js.length:=by lia
   show l2.getD i d=l3.getD (js.getD i 0) d;rw[h4];simp[Vn]
section
variable{X:Cx}{E:XK}
set_option tactic.hygienic true in
def l6(hu:X.A.units+64<K?):dR X E (.builtin "sorted") ka:=λa_ s σ O P H₀ H xs vs us r Q I hd hs rx rv e q=>by
 unfold ka at e;split at e
 ·obtain⟨ys,e1,e2⟩:=bz e;split at e2
  ·rename_i hz;cases e2;cases rx with
   |cons r1 rr=>
    cases rr;obtain⟨a,ws,rfl,ha,l⟩:=r1.list e1;cases rv with
    |cons q1 q2=>
     cases q2;cases q1;obtain⟨D',ri,pl,hzz⟩:=I.list (gu.of ha);have f_:D'.length=ys.length:=by rw[<-ri.length,l.length]
     obtain⟨as,ra⟩:=RpL.reads I l ri;have la:=l.lay;have item:∀v∈D',∃d∈ys,∃bs,YK s.heap v d bs/\d.canLay0=d!:=nz ra la;refine yh (κ:=tuples' d!) (bv:=Kr s.heap) pl.isList (by rw[f_];exact hz.many) (λA' s' Q' E' hA kp h2 hq=>?_) (λA' s' u v Q' E' hA kp hi hj hq=>?_) λout o1 o2=>?_
     ·
      obtain hh|hh:=hz.head
      ·obtain⟨fs,f1,f2,f3⟩:=uq (h:=s'.heap) D' λv hv=>by
        obtain⟨d,QB,bs,rd,ld⟩:=item v hv;obtain⟨i,bU,ed⟩:=hh d QB;subst ed;cases rd with
        |@tuple b o SG n _ _ g1 g2 g3 g4=>
         cases g4':SG.toList with
         |nil=>rw[g4']at g4;cases g4
         |cons v0 vr=>
          rw[g4']at g4;cases g4 with
          |cons g5 g6=>
           cases g5 with
           |int _ t=>exact⟨b,o,SG,n,i,t,rfl,kp b o g1,g2,g3,by rw[<-C?,g4'];rfl⟩
       refine È (T:=.type "int") f1 0x1 (λv hv=>?_) (by rfl) hq;obtain⟨i,t,rfl⟩:=f3 v hv;exact ZH
      ·obtain⟨fs,f1,f2,f3⟩:=wO (h:=s'.heap) D' λv hv=>by
        obtain⟨d,QB,bs,rd,ld⟩:=item v hv;obtain⟨i,bU,ed⟩:=hh d QB;subst ed;cases rd with
        |@tuple b o SG n _ _ g1 g2 g3 g4=>
         cases g4':SG.toList with
         |nil=>rw[g4']at g4;cases g4
         |cons v0 vr=>
          rw[g4']at g4;cases g4 with
          |cons g5 g6=>
           cases g5 with
           |str _ t=>exact⟨b,o,SG,n,i,t,rfl,kp b o g1,g2,g3,by rw[<-C?,g4'];rfl⟩
       refine È (T:=.type "str") f1 0x1 (λv hv=>?_) (by rfl) hq;obtain⟨i,t,rfl⟩:=f3 v hv;exact ZH
     ·obtain⟨d1,Ui,UY,rd1,VT⟩:=item u hi;obtain⟨d2,Th,bs2,rd2,Vk⟩:=item v hj;rw[pF rd1 VT,pF rd2 Vk]at hq;obtain⟨b,hb⟩:=Oo.mp (hz.cmp d1 Ui d2 Th);rw[uZ (hz.ok d1 Ui) (hz.ok d2 Th) hb]at hq;have dp1:=hz.deep d1 Ui;have VP:=Reads.keeps kp rd1;have VN:=Reads.keeps kp rd2;have S5:(∃x r x' r',d1=.tuple (.int x::r)/\d2=.tuple (.int x'::r'))\/(∃x r x' r',d1=.tuple (.str x::r)/\d2=.tuple (.str x'::r')):=by
       obtain hh|hh:=hz.head
       ·obtain⟨x,r,e1⟩:=hh d1 Ui;obtain⟨x',r',e2⟩:=hh d2 Th;exact .inl ⟨x,r,x',r',e1,e2⟩
       ·obtain⟨x,r,e1⟩:=hh d1 Ui;obtain⟨x',r',e2⟩:=hh d2 Th;exact .inr ⟨x,r,x',r',e1,e2⟩
      obtain⟨xs1,e1⟩:∃l,d1=.tuple l:=by obtain⟨x,r,x',r',e1,e2⟩|⟨x,r,x',r',e1,e2⟩:=S5 <;>exact⟨_,e1⟩
      obtain⟨xs2,e2⟩:∃l,d2=.tuple l:=by obtain⟨x,r,x',r',e1,e2⟩|⟨x,r,x',r',e1,e2⟩:=S5 <;>exact⟨_,e2⟩
      subst e1;subst e2
      unfold cD at hb;unfold W8 at VT Vk;unfold Xp at dp1;cases VP with
      |@tuple b1 o1 vs1 n1 _ _ g1 g2 g3 g4=>
       cases VN with
       |@tuple b2 o2 vs2 n2 _ _ k1 k2 k3 k4=>
        refine ś g1 g3 k1 k3 (vG (X:=vs1.size) (Y:=vs2.size) 0 g4 k4 VT Vk 0x1 (by simp;lia) (λ_=>?_) hb hq);obtain⟨x,r,x',r',e1,e2⟩|⟨x,r,x',r',e1,e2⟩:=S5
        ·cases e1;cases e2;exact .inl ⟨_,_,_,_,rfl,rfl⟩
        ·cases e1;cases e2;exact .inr ⟨_,_,_,_,rfl,rfl⟩
     ·
      obtain⟨is,i1,i2⟩:=sS (d:=D!) o1;have OL:∀i∈is,i<ys.length:=λi hi=>by have:=Oj.mp (i1.mem_iff.mp hi);lia
      have Qi:=l.pick is OL;have QT:=kZ ri is λi hi=>by rw[<-l.length];exact OL i hi
      have ed:(is.map λi=>ys.getD i .none)=r9 ys:=by
       have hp:(is.map λi=>ys.getD i .none).Perm ys:=by have:=i1.map λi=>ys.getD i .none;rwa[f_,jd]at this
       refine qA (hp.trans (dw ys).symm) ?_ (jX ys) (λx hx=>hz.ok x (hp.mem_iff.mp hx)) λx hx y hy=>hz.cmp x (hp.mem_iff.mp hx) y (hp.mem_iff.mp hy);rw[i2]at o2;have o3:=B!.mp o2;refine B!.mpr (o3.imp_of_mem λ{i j} hi hj Ry=>?_);obtain⟨UY,k1,k2⟩:=iu ra la i (OL i hi);obtain⟨bs2,k3,k4⟩:=iu ra la j (OL j hj);rwa[pF k1 k2,pF k3 k4]at Ry
      rw[i2];rw[ed]at Qi;obtain⟨ep,S6⟩:=sortedAll_at s.heap D' (is.map λi=>D'.getD i D!).toArray;have hn:s.heap.objs.size<=s.heap.objs.size+1:=Ľ _;refine⟨.ref (s.heap.objs.size+1),upd H (s.heap.objs.size+1) (.lst (is.map λi=>ws.getD i .non)),I.laid (t':=s.toks) (λb o e=>sortedAll_old e) hn ⟨?_,_,ep,QT,S6⟩,rfl,q _ _ (bb (I.hok.fresh hn)) (RE.made hs (I.hok.fresh hn) Qi)⟩;rwa[<-Qi.length,(dw ys).length_eq,l.length]
  ·cases e2
 ·cases e
end
end L3
namespace LW
open PySem PySem.Spec L2 L3
def wk(C:c!):DS->M Out:=(bD (aK 4 (e2 gSub (e2 ax (af 2) (af 3)) (eC (.int 1)))) (bA (oG (e2 Fi (af 3) (eC (.int 3))) (oG (aN (aw 2 (b9 C)) (aa (af 0) (aa (br (aa (af 2) (aa (af 1) ai))) ai))) (aN (aw 2 (b9 C)) (aa (af 0) (aa (br (aa (af 4) (aa (af 1) ai))) ai)))))))
def kj(C:c!):List DV->M DV:=eS ["house","colour","first","size","last"] (wk C)
def qi(C:c!):DS->M Out:=(bD (gJ (λδ=>bd (e2 g8 (aN cB (aa (af 2) ai)) (eC (.int 3)) δ) bQ) (bA (eC (.bool e!))) ck) (bD (gJ (hJ (λδ=>bd ((aN su (aa (aW 1 [0,1] (JZ (af 2)) (au 0) bW (aN (aw 2 (b9 C)) (aa (af 1) (aa (br (aa (af 2) (aa (af 0) ai))) ai)))) ai)) δ) bQ)) (bA (eC (.bool e!))) ck) (bA (aN su (aa (aW 1 [2] (nM (aa (eC (.int 1)) (aa (aN cB (aa (af 2) ai)) ai))) (au 0) bW (e2 g8 (e2 bK (af 1) (e2 gSub (af 0) (eC (.int 1)))) (e2 bK (af 1) (af 0)))) ai)))))
def gN(C:c!):List DV->M DV:=eS ["house","number","colours"] (qi C)
def nO(C:c!):DS->M Out:=(bD (gJ (λδ=>bd (e2 (jD e!) (e2 bK (af 1) (eC (.int 0))) (eC (.str "run")) δ) bQ) (bA (aN (aw 4 (kj C)) (aa (af 0) (aa (e2 bK (af 1) (eC (.int 1))) (aa (e2 bK (af 1) (eC (.int 2))) (aa (e2 bK (af 1) (eC (.int 3))) ai)))))) ck) (bA (oG (e2 (jD e!) (e2 bK (af 1) (eC (.int 0))) (eC (.str "group"))) (aN (aw 3 (gN C)) (aa (af 0) (aa (e2 bK (af 1) (eC (.int 1))) (aa (e2 bK (af 1) (eC (.int 2))) ai)))))))
def c6(C:c!):List DV->M DV:=eS ["house","meld"] (nO C)
def l8(C:c!)(Oc:c!):DS->M Out:=(bD (gJ (hJ (λδ=>bd ((aN (aw 2 (c6 C)) (aa (af 0) (aa (af 1) ai))) δ) bQ)) (λo=>a! (.error (.ref Oc))) ck) (bD (gJ (λδ=>bd (e2 (jD e!) (e2 bK (af 1) (eC (.int 0))) (eC (.str "run")) δ) bQ) (bA (aW 1 [1] (rR (aa (e2 bK (af 1) (eC (.int 3))) ai)) (au 0) bW (br (aa (e2 ax (e2 bK (af 1) (eC (.int 2))) (af 0)) (aa (e2 bK (af 1) (eC (.int 1))) ai))))) ck) (bA (aW 1 [1] (JZ (e2 bK (af 1) (eC (.int 2)))) (au 0) bW (br (aa (e2 bK (af 1) (eC (.int 1))) (aa (af 0) ai)))))))
def bH(C:c!)(Oc:c!):List DV->M DV:=eS ["house","meld"] (l8 C Oc)
def iQ(C:c!):DS->M Out:=(bD (aK 1 (bX (aa (br ai) ai))) (bD (cT (rR (aa (iy C "colours" (af 0)) ai)) (au 2) (λδ=>(aK 1 (e2 ax (af 1) (aW 1 [2] (iO (af 1)) (au 0) bW (e2 ax (af 0) (br (aa (af 1) ai)))))) (frz 1 δ))) (λδ=>(bA (aN vj (aa (aW 1 [] (iO (af 1)) (au 0) (λδ=>bd (e2 Fi (aN cB (aa (af 0) ai)) (eC (.int 3)) δ) bQ) (af 0)) ai))) (frz 1 δ))))
def cm(C:c!):List DV->M DV:=eS ["house","choices","colour"] (iQ C)
def mI(C:c!):DS->M Out:=(bD (aK 1 (aN (aw 1 (cm C)) (aa (af 0) ai))) (bD (aK 2 (bX ai)) (bD (cT (nM (aa (eC (.int 1)) (aa (e2 ax (iy C "most" (af 0)) (eC (.int 1))) ai))) (au 3) (λδ=>(o8 2 (aW 1 [3] (iO (af 1)) (au 0) bW (br (aa (eC (.str "group")) (aa (af 1) (aa (af 0) ai)))))) (frz 1 δ))) (bA (af 2)))))
def dY(C:c!):List DV->M DV:=eS ["house","choices","found","number"] (mI C)
def rL(C:c!):DS->M Out:=(bD (aK 1 (bX ai)) (bD (cT (rR (aa (iy C "colours" (af 0)) ai)) (au 2) (cT (nM (aa (eC (.int 1)) (aa (e2 ax (iy C "most" (af 0)) (eC (.int 1))) ai))) (au 3) (bD (aK 4 (e2 ax (e2 gSub (iy C "most" (af 0)) (af 3)) (eC (.int 1)))) (o8 1 (aW 1 [2,3] (nM (aa (eC (.int 3)) (aa (e2 ax (af 4) (eC (.int 1))) ai))) (au 0) bW (br (aa (eC (.str "run")) (aa (af 1) (aa (af 2) (aa (af 0) ai)))))))))) (bA (af 1))))
def fR(C:c!):List DV->M DV:=eS ["house","found","colour","first","room"] (rL C)
def AD(C:c!):DS->M Out:=(bA (e2 ax (aN (aw 1 (dY C)) (aa (af 0) ai)) (aN (aw 1 (fR C)) (aa (af 0) ai))))
def mQ(C:c!):List DV->M DV:=eS ["house"] (AD C)
def i8:DS->M Out:=(bD (gJ (λδ=>bd (e2 (jD e!) (e2 bK (af 0) (eC (.int 0))) (eC (.str "run")) δ) bQ) (bA (aW 1 [0] (rR (aa (e2 bK (af 0) (eC (.int 3))) ai)) (au 0) bW (br (aa (e2 ax (e2 bK (af 1) (eC (.int 2))) (af 0)) (aa (e2 bK (af 1) (eC (.int 1))) ai))))) ck) (bA (aW 1 [0] (JZ (e2 bK (af 0) (eC (.int 2)))) (au 0) bW (br (aa (e2 bK (af 1) (eC (.int 1))) (aa (af 0) ai))))))
def bF:List DV->M DV:=eS ["meld"] (i8)
def nC:DS->M Out:=(bD (aK 2 (bX ai)) (bD (cT (rR (aa (af 1) ai)) (au 3) (cT (nM (aa (eC (.int 1)) (aa (e2 ax (af 0) (eC (.int 1))) ai))) (au 4) (aK 2 (e2 ax (af 2) (aW 1 [3,4] (nM (aa (e2 ax (af 4) (eC (.int 2))) (aa (e2 ax (af 0) (eC (.int 1))) ai))) (au 0) bW (br (aa (eC (.str "run")) (aa (af 1) (aa (af 2) (aa (e2 ax (e2 gSub (af 0) (af 2)) (eC (.int 1))) ai)))))))))) (bD (aK 5 (bX (aa (bX ai) ai))) (bD (cT (rR (aa (af 1) ai)) (au 3) (λδ=>(aK 5 (e2 ax (af 5) (aW 1 [3] (iO (af 5)) (au 0) bW (e2 ax (af 0) (bX (aa (af 1) ai)))))) (frz 5 δ))) (bD (cT (nM (aa (eC (.int 1)) (aa (e2 ax (af 0) (eC (.int 1))) ai))) (au 6) (λδ=>(aK 2 (e2 ax (af 2) (aW 1 [6] (iO (af 5)) (au 0) (λδ=>bd (e2 xp (aN cB (aa (af 0) ai)) (eC (.int 2)) δ) bQ) (br (aa (eC (.str "group")) (aa (af 1) (aa (aN m5 (aa (af 0) ai)) ai))))))) (frz 5 δ))) (bA (aN ka (aa (af 2) ai))))))))
def eY:List DV->M DV:=eS ["most","colours","found","colour","first","kinds","number"] (nC)
section
variable{F G:DS->M Out}{f fa fb fc fd:DS->M DV}{fr:DS->M (List DV)}{gc:DS->M Bool}{g:DV->DV->M DV}{δ δ':DS}{x y z u:DV}{k:Bool}
def B2{a b:Bool}(h1:fa δ=rt (.d (.bool a)))(h2:fb δ=rt (.d (.bool b))):oG fa fb δ=rt (.d (.bool (a&&b))):=by unfold oG;rw[h1,aD,Al,aD,h2];cases a <;>rfl
def C2(h1:fa δ=rt x)(h2:fb δ=rt y)(h3:fc δ=rt z)(h4:fd δ=rt u):aa fa (aa fb (aa fc (aa fd ai))) δ=rt [x,y,z,u]:=by have:=gY h2 h3 h4;unfold aa at this ⊢;rw[h1,aD,this];rfl
def HR{a b c:D}(h1:fa δ=rt (.d a))(h2:fb δ=rt (.d b))(h3:fc δ=rt (.d c)):br (aa fa (aa fb (aa fc ai))) δ=rt (.d (.tuple [a,b,c])):=by unfold br;rw[gY h1 h2 h3];rfl
def HX{a b c e:D}(h1:fa δ=rt (.d a))(h2:fb δ=rt (.d b))(h3:fc δ=rt (.d c))(h4:fd δ=rt (.d e)):br (aa fa (aa fb (aa fc (aa fd ai)))) δ=rt (.d (.tuple [a,b,c,e])):=by unfold br;rw[C2 h1 h2 h3 h4];rfl
def mm(h:gc δ=rt d!):gJ gc F G δ=F δ:=by rw[ni h];rfl
def qb(h:gc δ=rt e!):gJ gc F G δ=G δ:=by rw[ni h];rfl
variable{xs:List D}
def xI(h:f δ=rt (.d (.tuple xs))):JZ f δ=rt xs:=by unfold JZ;rw[h];rfl
def vn(h:f δ=rt (.new xs)):iO f δ=rt xs:=by unfold iO;rw[h];rfl
def xM{i:Nat}{ys:List D}(hi:δ[i]?=a! (a! (.own xs)))(h:f δ=rt (.new ys))(hl:xs.length+ys.length<=1000000):o8 i f δ=rt (.nx (δ.set i (a! (.own (xs++ys))))):=by unfold o8;rw[hi];simp only;rw[h,aD];exact é hl
end
def bh(i j:Int):ax (.d (.int i)) (.d (.int j))=rt (.d (.int (i+j))):=rfl
variable{xs:List D}
def um{x y:DV}{ys:List D}(h0:yf x y=b!)(hx:jJ x=a! xs)(hy:jJ y=a! ys)(hl:xs.length+ys.length<=1000000):ax x y=rt (.new (xs++ys)):=by unfold ax BW;rw[xP h0 hx hy hl];rfl
noncomputable def rn(c f n:Int):D:=.tuple [.str "run",.int c,.int f,.int n]
noncomputable def tp(cs:List Int):D:=.tuple (cs.map r?)
def gp(n:Int)(cs:List Int):D:=.tuple [.str "group",.int n,tp cs]
def qp:i? (.str "run") (.str "run")=d!:=by decide +kernel
def qj:i? (.str "group") (.str "run")=e!:=by decide +kernel
def EB:i? (.str "run") (.str "group")=e!:=by decide +kernel
def yO:i? (.str "group") (.str "group")=d!:=by decide +kernel
def rm{a b:w?}{k:Bool}(h:i? (.str a) (.str b)=k):jD e! (.d (.str a)) (.d (.str b))=rt (.d (.bool k)):=by unfold jD;rw[wy,wy];simp only[o?,if_false,h];exact é (by unfold Xp;lia)
def ny(m c col f n:Int):Bool:=g! (3<=n)&&(bt m c (f,col)&&bt m c (f+n-1,col))
variable{δ:DS}
def Et{C:c!}{m c a b:Int}{fa fb:DS->M DV}(h1:fa δ=rt (hs C m c))(h2:fb δ=rt (.d (pr (a,b)))):aN (aw 2 (b9 C)) (aa fa (aa fb ai)) δ=rt (.d (.bool (bt m c (a,b)))):=aY (bS h1 h2) rfl rfl (Ec C m c (a,b))
def CO(C:c!)(m c col f n:Int):kj C [hs C m c,.d (.int col),.d (.int f),.d (.int n)]=rt (.d (.bool (ny m c col f n))):=by
 unfold kj wk eS;have hd:oE ["house","colour","first","size","last"] [hs C m c,.d (.int col),.d (.int f),.d (.int n)]=[a! (hs C m c),a! (.d (.int col)),a! (.d (.int f)),a! (.d (.int n)),b!]:=rfl;rw[hd];have s1:aK 4 (e2 gSub (e2 ax (af 2) (af 3)) (eC (.int 1))) [a! (hs C m c),a! (.d (.int col)),a! (.d (.int f)),a! (.d (.int n)),b!]=rt (.nx [a! (hs C m c),a! (.d (.int col)),a! (.d (.int f)),a! (.d (.int n)),a! (.d (.int (f+n-1)))]):=
  jt (x:=.d (.int (f+n-1))) ((av ((av rfl rfl).trans (bh f n)) rfl).trans (cz _ _)) rfl
 rw[cy s1];rw[bC (B2 ((av (x:=.d (.int n)) (y:=.d (.int 3)) rfl rfl).trans (jo _ _)) (B2 (Et (a:=f) (b:=col) rfl (kq rfl rfl)) (Et (a:=f+n-1) (b:=col) rfl (kq rfl rfl))))];rfl
noncomputable def asc(cs:List Int):Bool:=(m? (cs.length-1)).all λk=>g! (cs.getD k 0<cs.getD (k+1) 0)
def mH(m c n:Int)(cs:List Int):Bool:=g! (3<=cs.length)&&cs.all (λx=>bt m c (n,x))&&asc cs
def zX(cs:List Int):cB [.d (tp cs)]=rt (.d (.int (cs.length:Int))):=by show rt (DV.d (.int ((cs.map r?).length:Int)))=_;rw[e?]
def xX(C:c!)(m c n:Int)(cs:List Int)(hl:cs.length<=900):gN C [hs C m c,.d (.int n),.d (tp cs)]=rt (.d (.bool (mH m c n cs))):=by
 unfold gN qi eS;have hd:oE ["house","number","colours"] [hs C m c,.d (.int n),.d (tp cs)]=[a! (hs C m c),a! (.d (.int n)),a! (.d (tp cs))]:=rfl;rw[hd];have t1:(λδ=>bd (e2 g8 (aN cB (aa (af 2) ai)) (eC (.int 3)) δ) bQ) [a! (hs C m c),a! (.d (.int n)),a! (.d (tp cs))]=rt (g! ((cs.length:Int)<3)):=
  bj ((av (y:=.d (.int 3)) ((cg (a9 (x:=.d (tp cs)) rfl)).trans (zX cs)) rfl).trans (fx _ _))
 unfold mH;by_cases h3:3<=cs.length
 ·have e3:g! ((cs.length:Int)<3)=e!:=Oy 0x1;rw[e3]at t1;rw[cy ((qb t1).trans (show ck _=_ from rfl))];have c1:cF (au 0) bW (aN (aw 2 (b9 C)) (aa (af 1) (aa (br (aa (af 2) (aa (af 0) ai))) ai))) (cX 1 [0,1] [a! (hs C m c),a! (.d (.int n)),a! (.d (tp cs))]) (cs.map r?)=a! ((cs.map λx=>bt m c (n,x)).map X0):=by rw[A!];refine dg λx hx=>?_;exact Et (a:=n) (b:=x) rfl (kq rfl rfl)
  have t2:(hJ (λδ=>bd ((aN su (aa (aW 1 [0,1] (JZ (af 2)) (au 0) bW (aN (aw 2 (b9 C)) (aa (af 1) (aa (br (aa (af 2) (aa (af 0) ai))) ai)))) ai)) δ) bQ)) [a! (hs C m c),a! (.d (.int n)),a! (.d (tp cs))]=rt (!cs.all λx=>bt m c (n,x)):=by refine vf (bj ((cg (a9 (bp (xI (xs:=cs.map r?) rfl) (by rw[e?];lia) c1))).trans ?_));rw[nJ,X8];rfl
  cases ha:cs.all λx=>bt m c (n,x)with
  |false=>
   rw[ha]at t2;rw[tJ ((mm t2).trans (bC (x:=.d (.bool e!)) rfl))];rw[YQ,YO];rfl
  |true=>
   rw[ha]at t2;rw[cy ((qb t2).trans (show ck _=_ from rfl))];have S6:∀k:Nat,k<cs.length->atI (cs.map r?) (k:Int)=a! (.int (cs.getD k 0)):=λk hk=>by rw[qS (by rwa[e?]) (.int 0)];simp[hk]
   have c2:cF (au 0) bW (e2 g8 (e2 bK (af 1) (e2 gSub (af 0) (eC (.int 1)))) (e2 bK (af 1) (af 0))) (cX 1 [2] [a! (hs C m c),a! (.d (.int n)),a! (.d (tp cs))]) (dc 1 ((cs.length:Int)-1).toNat)=a! (((m? (cs.length-1)).map λk=>g! (cs.getD k 0<cs.getD (k+1) 0)).map X0):=by
    rw[show((cs.length:Int)-1).toNat=cs.length-1 by lia,A!];unfold dc;refine dg λk hk=>?_;have Ql:k<cs.length-1:=Oj.mp hk;have i1:e2 bK (af 1) (e2 gSub (af 0) (eC (.int 1))) ((cX 1 [2] [a! (hs C m c),a! (.d (.int n)),a! (.d (tp cs))]).set 0 (a! (.d (.int (1+(k:Int))))))=rt (.d (.int (cs.getD k 0))):=by refine(av (x:=.d (tp cs)) rfl ((av (x:=.d (.int (1+(k:Int)))) rfl rfl).trans (cz _ _))).trans (aL ?_);rw[show(1+(k:Int)-1)=(k:Int) by lia];exact S6 k 0x1
    have i2:e2 bK (af 1) (af 0) ((cX 1 [2] [a! (hs C m c),a! (.d (.int n)),a! (.d (tp cs))]).set 0 (a! (.d (.int (1+(k:Int))))))=rt (.d (.int (cs.getD (k+1) 0))):=by refine(av (x:=.d (tp cs)) (y:=.d (.int (1+(k:Int)))) rfl rfl).trans (aL ?_);rw[show(1+(k:Int))=((k+1:Nat):Int) by lia];exact S6 (k+1) 0x1
    exact(av i1 i2).trans (fx _ _)
   have K3:aN cB (aa (af 2) ai) [a! (hs C m c),a! (.d (.int n)),a! (.d (tp cs))]=rt (.d (.int (cs.length:Int))):=(cg (a9 (x:=.d (tp cs)) rfl)).trans (zX cs);have e1:aN su (aa (aW 1 [2] (nM (aa (eC (.int 1)) (aa (aN cB (aa (af 2) ai)) ai))) (au 0) bW (e2 g8 (e2 bK (af 1) (e2 gSub (af 0) (eC (.int 1)))) (e2 bK (af 1) (af 0)))) ai) [a! (hs C m c),a! (.d (.int n)),a! (.d (tp cs))]=rt (.d (.bool (asc cs))):=by refine(cg (a9 (bp (iz (bS (x:=.d (.int 1)) rfl K3) 0x1 0x1 0x1 0x1) (by rw[eB];lia) c2))).trans ?_;rw[nJ,X8];rfl
   rw[bC e1];rw[Oz h3];rfl
 ·have e3:g! ((cs.length:Int)<3)=d!:=Oz 0x1;rw[e3]at t1;rw[tJ ((mm t1).trans (bC (x:=.d (.bool e!)) rfl))];rw[Oy h3];rfl
def ym(C:c!)(m c col f n:Int):c6 C [hs C m c,.d (rn col f n)]=rt (.d (.bool (ny m c col f n))):=by
 unfold c6 nO eS;have hd:oE ["house","meld"] [hs C m c,.d (rn col f n)]=[a! (hs C m c),a! (.d (rn col f n))]:=rfl;rw[hd];have t1:(λδ=>bd (e2 (jD e!) (e2 bK (af 1) (eC (.int 0))) (eC (.str "run")) δ) bQ) [a! (hs C m c),a! (.d (rn col f n))]=rt true:=
  bj ((av ((av (x:=.d (rn col f n)) rfl rfl).trans (aL rfl)) rfl).trans (rm qp))
 have i1:e2 bK (af 1) (eC (.int 1)) [a! (hs C m c),a! (.d (rn col f n))]=rt (.d (.int col)):=(av (x:=.d (rn col f n)) rfl rfl).trans (aL rfl);have i2:e2 bK (af 1) (eC (.int 2)) [a! (hs C m c),a! (.d (rn col f n))]=rt (.d (.int f)):=(av (x:=.d (rn col f n)) rfl rfl).trans (aL rfl);have i3:e2 bK (af 1) (eC (.int 3)) [a! (hs C m c),a! (.d (rn col f n))]=rt (.d (.int n)):=(av (x:=.d (rn col f n)) rfl rfl).trans (aL rfl);rw[tJ ((mm t1).trans (bC (aY (n:=4) (C2 (fa:=af 0) (x:=hs C m c) rfl i1 i2 i3) rfl rfl (CO C m c col f n))))];rfl
def xB(C:c!)(m c n:Int)(cs:List Int)(hl:cs.length<=900):c6 C [hs C m c,.d (gp n cs)]=rt (.d (.bool (mH m c n cs))):=by
 unfold c6 nO eS;have hd:oE ["house","meld"] [hs C m c,.d (gp n cs)]=[a! (hs C m c),a! (.d (gp n cs))]:=rfl;rw[hd];have t1:(λδ=>bd (e2 (jD e!) (e2 bK (af 1) (eC (.int 0))) (eC (.str "run")) δ) bQ) [a! (hs C m c),a! (.d (gp n cs))]=rt false:=
  bj ((av ((av (x:=.d (gp n cs)) rfl rfl).trans (aL rfl)) rfl).trans (rm qj))
 have i0:e2 (jD e!) (e2 bK (af 1) (eC (.int 0))) (eC (.str "group")) [a! (hs C m c),a! (.d (gp n cs))]=rt (.d (.bool d!)):=(av ((av (x:=.d (gp n cs)) rfl rfl).trans (aL rfl)) rfl).trans (rm yO);have i1:e2 bK (af 1) (eC (.int 1)) [a! (hs C m c),a! (.d (gp n cs))]=rt (.d (.int n)):=(av (x:=.d (gp n cs)) rfl rfl).trans (aL rfl);have i2:e2 bK (af 1) (eC (.int 2)) [a! (hs C m c),a! (.d (gp n cs))]=rt (.d (tp cs)):=(av (x:=.d (gp n cs)) rfl rfl).trans (aL rfl);rw[cy ((qb t1).trans (show ck _=_ from rfl))];rw[bC (B2 i0 (aY (n:=3) (gY (fa:=af 0) (x:=hs C m c) rfl i1 i2) rfl rfl (xX C m c n cs hl)))];rfl
def jY(col f n:Int):List D:=(m? n.toNat).map λ(k:Nat)=>pr (f+(k:Int),col)
def ko(n:Int)(cs:List Int):List D:=cs.map λx=>pr (n,x)
def wR(C E:c!)(m c col f n:Int)(h0:-1000<=n)(h1:n<=1000):bH C E [hs C m c,.d (rn col f n)]=if ny m c col f n=d! then rt (.new (jY col f n))else a! (.error (.ref E)):=by
 unfold bH l8 eS;have hd:oE ["house","meld"] [hs C m c,.d (rn col f n)]=[a! (hs C m c),a! (.d (rn col f n))]:=rfl;rw[hd];have t0:(hJ (λδ=>bd ((aN (aw 2 (c6 C)) (aa (af 0) (aa (af 1) ai))) δ) bQ)) [a! (hs C m c),a! (.d (rn col f n))]=rt (!ny m c col f n):=
  vf (bj (aY (bS (x:=hs C m c) (y:=.d (rn col f n)) rfl rfl) rfl rfl (ym C m c col f n)))
 cases hr:ny m c col f n with
 |false=>
  rw[hr]at t0;have:gJ (hJ (λδ=>bd ((aN (aw 2 (c6 C)) (aa (af 0) (aa (af 1) ai))) δ) bQ)) (λo=>a! (.error (.ref E))) ck [a! (hs C m c),a! (.d (rn col f n))]=a! (.error (.ref E)):=mm t0;unfold bD;rw[this];rfl
 |true=>
  rw[hr]at t0;rw[cy ((qb t0).trans (show ck _=_ from rfl))];have t1:(λδ=>bd (e2 (jD e!) (e2 bK (af 1) (eC (.int 0))) (eC (.str "run")) δ) bQ) [a! (hs C m c),a! (.d (rn col f n))]=rt true:=
   bj ((av ((av (x:=.d (rn col f n)) rfl rfl).trans (aL rfl)) rfl).trans (rm qp))
  have i3:e2 bK (af 1) (eC (.int 3)) [a! (hs C m c),a! (.d (rn col f n))]=rt (.d (.int n)):=(av (x:=.d (rn col f n)) rfl rfl).trans (aL rfl);have c1:cF (au 0) bW (br (aa (e2 ax (e2 bK (af 1) (eC (.int 2))) (af 0)) (aa (e2 bK (af 1) (eC (.int 1))) ai))) (cX 1 [1] [a! (hs C m c),a! (.d (rn col f n))]) (dc 0 n.toNat)=a! (jY col f n):=by unfold dc jY;refine dg λk hk=>?_;have q1:e2 bK (af 1) (eC (.int 2)) ((cX 1 [1] [a! (hs C m c),a! (.d (rn col f n))]).set 0 (a! (.d (.int (0+(k:Int))))))=rt (.d (.int f)):=(av (x:=.d (rn col f n)) rfl rfl).trans (aL rfl);have q2:e2 bK (af 1) (eC (.int 1)) ((cX 1 [1] [a! (hs C m c),a! (.d (rn col f n))]).set 0 (a! (.d (.int (0+(k:Int))))))=rt (.d (.int col)):=(av (x:=.d (rn col f n)) rfl rfl).trans (aL rfl);refine(kq ((av (y:=.d (.int (0+(k:Int)))) q1 rfl).trans (bh _ _)) q2).trans ?_;rw[Û];rfl
  rw[tJ ((mm t1).trans (bC (bp (ir (a9 i3) h0 h1) (by rw[eB];lia) c1)))];rfl
def we(C E:c!)(m c n:Int)(cs:List Int)(hl:cs.length<=900):bH C E [hs C m c,.d (gp n cs)]=if mH m c n cs=d! then rt (.new (ko n cs))else a! (.error (.ref E)):=by
 unfold bH l8 eS;have hd:oE ["house","meld"] [hs C m c,.d (gp n cs)]=[a! (hs C m c),a! (.d (gp n cs))]:=rfl;rw[hd];have t0:(hJ (λδ=>bd ((aN (aw 2 (c6 C)) (aa (af 0) (aa (af 1) ai))) δ) bQ)) [a! (hs C m c),a! (.d (gp n cs))]=rt (!mH m c n cs):=
  vf (bj (aY (bS (x:=hs C m c) (y:=.d (gp n cs)) rfl rfl) rfl rfl (xB C m c n cs hl)))
 cases hr:mH m c n cs with
 |false=>
  rw[hr]at t0;have:gJ (hJ (λδ=>bd ((aN (aw 2 (c6 C)) (aa (af 0) (aa (af 1) ai))) δ) bQ)) (λo=>a! (.error (.ref E))) ck [a! (hs C m c),a! (.d (gp n cs))]=a! (.error (.ref E)):=mm t0;unfold bD;rw[this];rfl
 |true=>
  rw[hr]at t0;rw[cy ((qb t0).trans (show ck _=_ from rfl))];have t1:(λδ=>bd (e2 (jD e!) (e2 bK (af 1) (eC (.int 0))) (eC (.str "run")) δ) bQ) [a! (hs C m c),a! (.d (gp n cs))]=rt false:=
   bj ((av ((av (x:=.d (gp n cs)) rfl rfl).trans (aL rfl)) rfl).trans (rm qj))
  rw[cy ((qb t1).trans (show ck _=_ from rfl))];have i2:e2 bK (af 1) (eC (.int 2)) [a! (hs C m c),a! (.d (gp n cs))]=rt (.d (tp cs)):=(av (x:=.d (gp n cs)) rfl rfl).trans (aL rfl);have c1:cF (au 0) bW (br (aa (e2 bK (af 1) (eC (.int 1))) (aa (af 0) ai))) (cX 1 [1] [a! (hs C m c),a! (.d (gp n cs))]) (cs.map r?)=a! (ko n cs):=by unfold ko;refine dg λx hx=>?_;have q1:e2 bK (af 1) (eC (.int 1)) ((cX 1 [1] [a! (hs C m c),a! (.d (gp n cs))]).set 0 (a! (.d (.int x))))=rt (.d (.int n)):=(av (x:=.d (gp n cs)) rfl rfl).trans (aL rfl);exact kq q1 rfl
  rw[bC (bp (xI i2) (by rw[e?];lia) c1)];rfl
def pz(col f n:Int)(h0:-1000<=n)(h1:n<=1000):bF [.d (rn col f n)]=rt (.new (jY col f n)):=by
 unfold bF i8 eS;have hd:oE ["meld"] [.d (rn col f n)]=[a! (.d (rn col f n))]:=rfl;rw[hd];have t1:(λδ=>bd (e2 (jD e!) (e2 bK (af 0) (eC (.int 0))) (eC (.str "run")) δ) bQ) [a! (.d (rn col f n))]=rt true:=
  bj ((av ((av (x:=.d (rn col f n)) rfl rfl).trans (aL rfl)) rfl).trans (rm qp))
 have i3:e2 bK (af 0) (eC (.int 3)) [a! (.d (rn col f n))]=rt (.d (.int n)):=(av (x:=.d (rn col f n)) rfl rfl).trans (aL rfl);have c1:cF (au 0) bW (br (aa (e2 ax (e2 bK (af 1) (eC (.int 2))) (af 0)) (aa (e2 bK (af 1) (eC (.int 1))) ai))) (cX 1 [0] [a! (.d (rn col f n))]) (dc 0 n.toNat)=a! (jY col f n):=by unfold dc jY;refine dg λk hk=>?_;have q1:e2 bK (af 1) (eC (.int 2)) ((cX 1 [0] [a! (.d (rn col f n))]).set 0 (a! (.d (.int (0+(k:Int))))))=rt (.d (.int f)):=(av (x:=.d (rn col f n)) rfl rfl).trans (aL rfl);have q2:e2 bK (af 1) (eC (.int 1)) ((cX 1 [0] [a! (.d (rn col f n))]).set 0 (a! (.d (.int (0+(k:Int))))))=rt (.d (.int col)):=(av (x:=.d (rn col f n)) rfl rfl).trans (aL rfl);refine(kq ((av (y:=.d (.int (0+(k:Int)))) q1 rfl).trans (bh _ _)) q2).trans ?_;rw[Û];rfl
 rw[tJ ((mm t1).trans (bC (bp (ir (a9 i3) h0 h1) (by rw[eB];lia) c1)))];rfl
def pD(n:Int)(cs:List Int)(hl:cs.length<=900):bF [.d (gp n cs)]=rt (.new (ko n cs)):=by
 unfold bF i8 eS;have hd:oE ["meld"] [.d (gp n cs)]=[a! (.d (gp n cs))]:=rfl;rw[hd];have t1:(λδ=>bd (e2 (jD e!) (e2 bK (af 0) (eC (.int 0))) (eC (.str "run")) δ) bQ) [a! (.d (gp n cs))]=rt false:=
  bj ((av ((av (x:=.d (gp n cs)) rfl rfl).trans (aL rfl)) rfl).trans (rm qj))
 rw[cy ((qb t1).trans (show ck _=_ from rfl))];have i2:e2 bK (af 0) (eC (.int 2)) [a! (.d (gp n cs))]=rt (.d (tp cs)):=(av (x:=.d (gp n cs)) rfl rfl).trans (aL rfl);have c1:cF (au 0) bW (br (aa (e2 bK (af 1) (eC (.int 1))) (aa (af 0) ai))) (cX 1 [0] [a! (.d (gp n cs))]) (cs.map r?)=a! (ko n cs):=by unfold ko;refine dg λx hx=>?_;have q1:e2 bK (af 1) (eC (.int 1)) ((cX 1 [0] [a! (.d (gp n cs))]).set 0 (a! (.d (.int x))))=rt (.d (.int n)):=(av (x:=.d (gp n cs)) rfl rfl).trans (aL rfl);exact kq q1 rfl
 rw[bC (bp (xI i2) (by rw[e?];lia) c1)];rfl
theorem gR{α:Type}{f:α->D}{i N:Nat}{B:DS->M Out}{all:List α}(I:List α->DS->Prop)(h:∀pre a δ,a∈all->pre.length<N->I pre δ->∃δ',B (δ.set i (a! (.d (f a))))=rt (.nx δ')/\I (pre++[a]) δ'):
  ∀(as pre:List α)(δ:DS),(∀a∈as,a∈all)->pre.length+as.length<=N->I pre δ->∃δ',dG (au i) B (as.map f) δ=rt (.nx δ')/\I (pre++as) δ'
 |[],pre,δ,_,_,hI=>⟨δ,rfl,by rwa[C!]⟩
 |a::as,pre,δ,ha,hn,hI=>by simp only[i!]at hn;obtain⟨δ1,e1,h1⟩:=h pre a δ (ha a N2) 0x1 hI;obtain⟨D_,e2,h2⟩:=gR I h as (pre++[a]) δ1 (λx hx=>ha x (N1 _ hx)) (by simp;lia) h1;refine⟨D_,?_,by rwa[t?]at h2⟩;rw[f?];unfold dG;have hs:au i (f a) δ=a! (δ.set i (a! (.d (f a)))):=rfl;rw[hs,aP,aD,e1,aD,ma];exact e2
def tf(n:Nat):dc 0 n=(m? n).map λ(k:Nat)=>r? (k:Int):=by unfold dc;refine J? λk o=>?_;rw[Û]
def dq(m col f0:Nat):List D:=(m? (m-2-f0)).map λ(s:Nat)=>rn (col:Int) (1+(f0:Int)) (3+(s:Int))
def fH(m col:Nat):List D:=(m? m).flatMap (dq m col)
def de(m c:Nat):List D:=(m? c).flatMap (fH m)
def iW(m col f0:Nat)(h:m<=13):(dq m col f0).length<=13:=by unfold dq;simp;lia
theorem eI{α:Type}{g:α->List D}{k:Nat}(h:∀a,(g a).length<=k):∀as:List α,(as.flatMap g).length<=k*as.length
 |[]=>by simp
 |a::as=>by have:=h a;have:=eI h as;rw[YN,l!,i!,Ϡ];lia
def rF(C:c!):DS->M Out:=(bD (aK 4 (e2 ax (e2 gSub (iy C "most" (af 0)) (af 3)) (eC (.int 1)))) (o8 1 (aW 1 [2,3] (nM (aa (eC (.int 3)) (aa (e2 ax (af 4) (eC (.int 1))) ai))) (au 0) bW (br (aa (eC (.str "run")) (aa (af 1) (aa (af 2) (aa (af 0) ai))))))))
def rC(C:c!):DS->M Out:=(cT (nM (aa (eC (.int 1)) (aa (e2 ax (iy C "most" (af 0)) (eC (.int 1))) ai))) (au 3) (rF C))
section
variable(C:c!)(m c:Nat)
def Gy(hm:m<=13)(c':Int)(col f0:Nat)(hf:f0<m)(base:List D)(hb:base.length<=1000)(x4:Option DV):
  rF C [a! (hs C m c'),a! (.own base),a! (.d (.int (col:Int))),a! (.d (.int (1+(f0:Int)))),x4]=rt (.nx [a! (hs C m c'),a! (.own (base++dq m col f0)),a! (.d (.int (col:Int))),a! (.d (.int (1+(f0:Int)))),a! (.d (.int ((m:Int)-(1+(f0:Int))+1)))]):=by
 have fl:iy C "most" (af 0) [a! (hs C m c'),a! (.own base),a! (.d (.int (col:Int))),a! (.d (.int (1+(f0:Int)))),x4]=rt (.d (.int m)):=kX C m c';have s1:aK 4 (e2 ax (e2 gSub (iy C "most" (af 0)) (af 3)) (eC (.int 1))) [a! (hs C m c'),a! (.own base),a! (.d (.int (col:Int))),a! (.d (.int (1+(f0:Int)))),x4]=rt (.nx [a! (hs C m c'),a! (.own base),a! (.d (.int (col:Int))),a! (.d (.int (1+(f0:Int)))),a! (.d (.int ((m:Int)-(1+(f0:Int))+1)))]):=
  jt (x:=.d (.int ((m:Int)-(1+(f0:Int))+1))) ((av ((av (y:=.d (.int (1+(f0:Int)))) fl rfl).trans (cz _ _)) rfl).trans (bh _ _)) rfl
 unfold rF;rw[cy s1];have c1:cF (au 0) bW (br (aa (eC (.str "run")) (aa (af 1) (aa (af 2) (aa (af 0) ai))))) (cX 1 [2,3] [a! (hs C m c'),a! (.own base),a! (.d (.int (col:Int))),a! (.d (.int (1+(f0:Int)))),a! (.d (.int ((m:Int)-(1+(f0:Int))+1)))]) (dc 3 ((m:Int)-(1+(f0:Int))+1+1-3).toNat)=a! (dq m col f0):=by rw[show((m:Int)-(1+(f0:Int))+1+1-3).toNat=m-2-f0 by lia];unfold dc dq;refine dg λs hs=>?_;exact HX rfl rfl rfl rfl
 have e1:aW 1 [2,3] (nM (aa (eC (.int 3)) (aa (e2 ax (af 4) (eC (.int 1))) ai))) (au 0) bW (br (aa (eC (.str "run")) (aa (af 1) (aa (af 2) (aa (af 0) ai))))) [a! (hs C m c'),a! (.own base),a! (.d (.int (col:Int))),a! (.d (.int (1+(f0:Int)))),a! (.d (.int ((m:Int)-(1+(f0:Int))+1)))]=rt (.new (dq m col f0)):=
  bp (iz (bS (x:=.d (.int 3)) rfl ((av (x:=.d (.int ((m:Int)-(1+(f0:Int))+1))) (y:=.d (.int 1)) rfl rfl).trans (bh _ _))) 0x1 0x1 0x1 0x1) (by rw[eB];lia) c1
 rw[xM (xs:=base) rfl e1 (by have:=iW m col f0 hm;lia)];rfl
def GF(hm:m<=13)(c':Int)(col:Nat)(base:List D)(hb:base.length<=700)(x3 x4:Option DV):
  ∃y3 y4,rC C [a! (hs C m c'),a! (.own base),a! (.d (.int (col:Int))),x3,x4]=rt (.nx [a! (hs C m c'),a! (.own (base++fH m col)),a! (.d (.int (col:Int))),y3,y4]):=by
 have fl:e2 ax (iy C "most" (af 0)) (eC (.int 1)) [a! (hs C m c'),a! (.own base),a! (.d (.int (col:Int))),x3,x4]=rt (.d (.int ((m:Int)+1))):=(av (kX C m c') rfl).trans (bh _ _);unfold rC cT;rw[iz (bS (x:=.d (.int 1)) rfl fl) 0x1 0x1 0x1 0x1,aD,show((m:Int)+1-1).toNat=m by lia];unfold dc;obtain⟨δ',e,y3,y4,hδ⟩:=gR (f:=λ(k:Nat)=>r? (1+(k:Int))) (i:=3) (N:=m) (B:=rF C) (all:=m? m)
  (λpre δ=>∃y3 y4,δ=[a! (hs C m c'),a! (.own (base++pre.flatMap (dq m col))),a! (.d (.int (col:Int))),y3,y4])
  (λpre a δ ha hp ⟨y3,y4,hδ⟩=>by subst hδ;have hl:=eI (λa=>iW m col a hm) pre;refine⟨_,Gy C m hm c' col a (Oj.mp ha) (base++pre.flatMap (dq m col)) (by rw[l!];lia) y4,a! (.d (.int (1+(a:Int)))),a! (.d (.int ((m:Int)-(1+(a:Int))+1))),?_⟩;rw[Xa,<-t?,show [a].flatMap (dq m col)=dq m col a by simp])
  (m? m) [] [a! (hs C m c'),a! (.own base),a! (.d (.int (col:Int))),x3,x4] (λo h=>h) 0x4 ⟨x3,x4,0x4⟩
 refine⟨y3,y4,?_⟩;rw[e,hδ];rfl
def oh(col:Nat)(hm:m<=13):(fH m col).length<=169:=by have:=eI (λa=>iW m col a hm) (m? m);rw[XN]at this;unfold fH;lia
def xW(hm:m<=13)(hc:c<=4):fR C [hs C m c]=rt (.new (de m c)):=by
 unfold fR rL eS;have hd:oE ["house","found","colour","first","room"] [hs C m c]=[a! (hs C m c),b!,b!,b!,b!]:=rfl;rw[hd];have s1:aK 1 (bX ai) [a! (hs C m c),b!,b!,b!,b!]=rt (.nx [a! (hs C m c),a! (.own []),b!,b!,b!]):=rfl;rw[cy s1];obtain⟨δ',e,y2,y3,y4,hδ⟩:=gR (f:=λ(k:Nat)=>r? (k:Int)) (i:=2) (N:=c) (B:=rC C) (all:=m? c)
  (λpre δ=>∃y2 y3 y4,δ=[a! (hs C m c),a! (.own (pre.flatMap (fH m))),y2,y3,y4])
  (λpre a δ ha hp ⟨y2,y3,y4,hδ⟩=>by subst hδ;have hl:=eI (λa=>oh m a hm) pre;obtain⟨z3,z4,e⟩:=GF C m hm c a (pre.flatMap (fH m)) 0x1 y3 y4;refine⟨_,e,a! (.d (.int (a:Int))),z3,z4,?_⟩;rw[Xa,show [a].flatMap (fH m)=fH m a by simp])
  (m? c) [] [a! (hs C m c),a! (.own []),b!,b!,b!] (λo h=>h) 0x4 ⟨b!,b!,b!,0x4⟩
 have s2:cT (rR (aa (iy C "colours" (af 0)) ai)) (au 2) (rC C) [a! (hs C m c),a! (.own []),b!,b!,b!]=rt (.nx [a! (hs C m c),a! (.own (de m c)),y2,y3,y4]):=by unfold cT;rw[ir (a9 (jg C m c)) 0x1 0x1,aD,show(c:Int).toNat=c by lia,tf,e,hδ];rfl
 rw[show(cT (nM (aa (eC (.int 1)) (aa (e2 ax (iy C "most" (af 0)) (eC (.int 1))) ai))) (au 3) (bD (aK 4 (e2 ax (e2 gSub (iy C "most" (af 0)) (af 3)) (eC (.int 1)))) (o8 1 (aW 1 [2,3] (nM (aa (eC (.int 3)) (aa (e2 ax (af 4) (eC (.int 1))) ai))) (au 0) bW (br (aa (eC (.str "run")) (aa (af 1) (aa (af 2) (aa (af 0) ai)))))))))=rC C from rfl];rw[cy s2,bC (x:=.own (de m c)) rfl];rfl
end
noncomputable def k7(c:Nat):List (List Int):=match c with
 |3=>[[0,1,2]]
 |4=>[[0,1,2],[0,1,2,3],[0,1,3],[0,2,3],[1,2,3]]
 |_=>[]
def bu(ch:List (List Int))(n0:Nat):List D:=ch.map λk=>gp (1+(n0:Int)) k
def cO(ch:List (List Int))(m:Nat):List D:=(m? m).flatMap (bu ch)
def kC:DS->M Out:=(λδ=>(aK 1 (e2 ax (af 1) (aW 1 [2] (iO (af 1)) (au 0) bW (e2 ax (af 0) (br (aa (af 1) ai)))))) (frz 1 δ))
def kE:DS->M Out:=(λδ=>(bA (aN vj (aa (aW 1 [] (iO (af 1)) (au 0) (λδ=>bd (e2 Fi (aN cB (aa (af 0) ai)) (eC (.int 3)) δ) bQ) (af 0)) ai))) (frz 1 δ))
section
variable(C:c!)(m:Int)
def Bp(x:DV)(c:Nat)(h1:1<=c)(h4:c<=4):bD (λδ=>dG (au 2) kC (dc 0 c) δ) kE [a! x,a! (.own [.tuple []]),b!]=rt (.rt (.new ((k7 c).map tp))):=by
 match c,h1,h4 with
 |1,_,_=>kernel_rfl
 |2,_,_=>kernel_rfl
 |3,_,_=>kernel_rfl
 |4,_,_=>kernel_rfl
 |n+5,_,h=>lia
def Bg(c:Nat)(h1:1<=c)(h4:c<=4):cm C [hs C m c]=rt (.new ((k7 c).map tp)):=by unfold cm iQ eS;have hd:oE ["house","choices","colour"] [hs C m c]=[a! (hs C m c),b!,b!]:=rfl;rw[hd];have s1:aK 1 (bX (aa (br ai) ai)) [a! (hs C m c),b!,b!]=rt (.nx [a! (hs C m c),a! (.own [.tuple []]),b!]):=rfl;rw[cy s1];have e:=Bp (hs C m c) c h1 h4;unfold bD at e ⊢;unfold cT;rw[ir (a9 (jg C m c)) 0x1 0x1,aD,show(c:Int).toNat=c by lia];exact(congrArg (λz=>bd z BB) e).trans rfl
def gB:DS->M Out:=(λδ=>(o8 2 (aW 1 [3] (iO (af 1)) (au 0) bW (br (aa (eC (.str "group")) (aa (af 1) (aa (af 0) ai)))))) (frz 1 δ))
def ie{ch:List (List Int)}(Qv:ch.length<=5)(n0:Nat):(bu ch n0).length<=5:=by unfold bu;simp;exact Qv
def pR(c:Nat):(k7 c).length<=5:=by
 match c with
 |0|1|2|3|4=>decide
 |n+5=>exact Ov _
def Fo(x:DV)(ch:List (List Int))(Qv:ch.length<=5)(n0:Nat)(base:List D)(hb:base.length<=1000)(x1:DV)(h1:x1=.own (ch.map tp)\/x1=.d (.list (ch.map tp))):
  gB [a! x,a! x1,a! (.own base),a! (.d (.int (1+(n0:Int))))]=rt (.nx [a! x,a! (.d (.list (ch.map tp))),a! (.own (base++bu ch n0)),a! (.d (.int (1+(n0:Int))))]):=by
 have hf:frz 1 [a! x,a! x1,a! (.own base),a! (.d (.int (1+(n0:Int))))]=[a! x,a! (.d (.list (ch.map tp))),a! (.own base),a! (.d (.int (1+(n0:Int))))]:=by obtain h|h:=h1 <;>(subst h;rfl)
 unfold gB;rw[hf];have c1:cF (au 0) bW (br (aa (eC (.str "group")) (aa (af 1) (aa (af 0) ai)))) (cX 1 [3] [a! x,a! (.d (.list (ch.map tp))),a! (.own base),a! (.d (.int (1+(n0:Int))))]) (ch.map tp)=a! (bu ch n0):=by unfold bu;refine dg λk hk=>?_;exact HR rfl rfl rfl
 have e1:aW 1 [3] (iO (af 1)) (au 0) bW (br (aa (eC (.str "group")) (aa (af 1) (aa (af 0) ai)))) [a! x,a! (.d (.list (ch.map tp))),a! (.own base),a! (.d (.int (1+(n0:Int))))]=rt (.new (bu ch n0)):=
  bp (fq rfl) (by rw[e?];lia) c1
 rw[xM (xs:=base) rfl e1 (by have:=ie Qv n0;lia)];rfl
def uV(m c:Nat)(hm:m<=13)(h1:1<=c)(h4:c<=4):dY C [hs C m c]=rt (.new (cO (k7 c) m)):=by
 unfold dY mI eS;have hd:oE ["house","choices","found","number"] [hs C m c]=[a! (hs C m c),b!,b!,b!]:=rfl;rw[hd];have s1:aK 1 (aN (aw 1 (cm C)) (aa (af 0) ai)) [a! (hs C m c),b!,b!,b!]=rt (.nx [a! (hs C m c),a! (.own ((k7 c).map tp)),b!,b!]):=
  jt (x:=.new ((k7 c).map tp)) (aY (n:=1) (a9 (x:=hs C m c) rfl) rfl rfl (Bg C m c h1 h4)) rfl
 have s2:aK 2 (bX ai) [a! (hs C m c),a! (.own ((k7 c).map tp)),b!,b!]=rt (.nx [a! (hs C m c),a! (.own ((k7 c).map tp)),a! (.own []),b!]):=rfl;rw[cy s1,cy s2];obtain⟨δ',e,y1,y3,hδ,_⟩:=gR (f:=λ(k:Nat)=>r? (1+(k:Int))) (i:=3) (N:=m) (B:=gB) (all:=m? m)
  (λpre δ=>∃y1 y3,δ=[a! (hs C m c),a! y1,a! (.own (pre.flatMap (bu (k7 c)))),y3]/\(y1=.own ((k7 c).map tp)\/y1=.d (.list ((k7 c).map tp))))
  (λpre a δ ha hp ⟨y1,y3,hδ,hy⟩=>by subst hδ;have hl:=eI (λa=>ie (pR c) a) pre;refine⟨_,Fo (hs C m c) (k7 c) (pR c) a (pre.flatMap (bu (k7 c))) 0x1 y1 hy,_,a! (.d (.int (1+(a:Int)))),?_,.inr rfl⟩;rw[Xa,show [a].flatMap (bu (k7 c))=bu (k7 c) a by simp])
  (m? m) [] [a! (hs C m c),a! (.own ((k7 c).map tp)),a! (.own []),b!] (λo h=>h) 0x4 ⟨.own ((k7 c).map tp),b!,0x4,.inl rfl⟩
 have fl:e2 ax (iy C "most" (af 0)) (eC (.int 1)) [a! (hs C m c),a! (.own ((k7 c).map tp)),a! (.own []),b!]=rt (.d (.int ((m:Int)+1))):=(av (kX C m c) rfl).trans (bh _ _);have s3:cT (nM (aa (eC (.int 1)) (aa (e2 ax (iy C "most" (af 0)) (eC (.int 1))) ai))) (au 3) gB [a! (hs C m c),a! (.own ((k7 c).map tp)),a! (.own []),b!]=rt (.nx [a! (hs C m c),a! y1,a! (.own (cO (k7 c) m)),y3]):=by unfold cT;rw[iz (bS (x:=.d (.int 1)) rfl fl) 0x1 0x1 0x1 0x1,aD,show((m:Int)+1-1).toNat=m by lia];unfold dc;rw[e,hδ];rfl
 rw[show(λδ=>(o8 2 (aW 1 [3] (iO (af 1)) (au 0) bW (br (aa (eC (.str "group")) (aa (af 1) (aa (af 0) ai)))))) (frz 1 δ))=gB from rfl];rw[cy s3,bC (x:=.own (cO (k7 c) m)) rfl];rfl
def cG(m c:Nat):List D:=cO (k7 c) m++de m c
def kg{ch:List (List Int)}(Qv:ch.length<=5)(m:Nat):(cO ch m).length<=5*m:=by
 have:=eI (λa=>ie Qv a) (m? m)
 rwa[XN]at this
def nW(m c:Nat)(hm:m<=13):(de m c).length<=169*c:=by
 have:=eI (λa=>oh m a hm) (m? c)
 rwa[XN]at this
def HD(m c:Nat)(hm:m<=13)(h1:1<=c)(h4:c<=4):mQ C [hs C m c]=rt (.new (cG m c)):=by unfold mQ AD eS;have hd:oE ["house"] [hs C m c]=[a! (hs C m c)]:=rfl;rw[hd];have e1:aN (aw 1 (dY C)) (aa (af 0) ai) [a! (hs C m c)]=rt (.new (cO (k7 c) m)):=aY (n:=1) (a9 (x:=hs C m c) rfl) rfl rfl (uV C m c hm h1 h4);have U7:aN (aw 1 (fR C)) (aa (af 0) ai) [a! (hs C m c)]=rt (.new (de m c)):=aY (n:=1) (a9 (x:=hs C m c) rfl) rfl rfl (xW C m c hm h4);have l1:=kg (pR c) m;have l2:=nW m c hm;rw[bC ((av e1 U7).trans (um rfl rfl rfl 0x1))];rfl
end
variable{k:List Int}
def Ew{k':List Int}(h:tp k=tp k'):k=k':=by
 unfold tp at h;have h':=PyData.tuple.inj h;clear h
 induction k generalizing k' with
 |nil=>cases k' with
  |nil=>rfl
  |cons _ _=>cases h'
 |cons x r ih=>cases k' with
  |nil=>cases h'
  |cons y r'=>
   rw[f?,f?]at h';obtain⟨h1,h2⟩:=List.cons.inj h';rw[PyData.int.inj h1,ih h2]
def xq(k k':List Int):i? (tp k) (tp k')=g! (k=k'):=by unfold tp i?;exact qh k k'
def Ad(a b:Int):i? (.int a) (.int b)=g! (a=b):=by
 unfold i?;by_cases h:a=b
 ·subst h;simp
 ·simp[h]
def xJ(c f n c' f' n':Int):i? (rn c f n) (rn c' f' n')=(g! (c=c')&&(g! (f=f')&&g! (n=n'))):=by
 unfold rn;simp only[i?,G?];have:(("run" : w?)==("run" : w?))=d!:=by decide +kernel
 rw[this];simp[Ad,i?];rfl
def yu(n n':Int)(k k':List Int):i? (gp n k) (gp n' k')=(g! (n=n')&&g! (k=k')):=by
 unfold gp;simp only[i?,G?];have:(("group" : w?)==("group" : w?))=d!:=by decide +kernel
 rw[this,xq];simp;rfl
def tQ(c f n n':Int)(k':List Int):i? (rn c f n) (gp n' k')=e!:=by
 unfold gp rn;simp only[i?,G?];have:(("run" : w?)==("group" : w?))=e!:=by decide +kernel
 rw[this];rfl
def tu(c f n n':Int)(k':List Int):i? (gp n' k') (rn c f n)=e!:=by
 unfold gp rn;simp only[i?,G?];have:(("group" : w?)==("run" : w?))=e!:=by decide +kernel
 rw[this];rfl
def Nq(a b:Int)(xs ys:List D):cL d! (.int a::xs) (.int b::ys)=if a=b then cL d! xs ys else a! (g! (a<b)):=by
 rw[cL,Ad];by_cases h:a=b
 ·rw[é h,é (Oz h)]
 ·rw[è h,è (by simpa using h)];rfl
def zv(xs ys:List D)(t:w?)(h:i? (.str t) (.str t)=d!):cL d! (.str t::xs) (.str t::ys)=cL d! xs ys:=by rw[cL,é h]
def wB(c f n c' f' n':Int):cD d! (rn c f n) (rn c' f' n')=a! (ll [c,f,n] [c',f',n']):=by unfold rn cD;rw[zv _ _ _ qp];exact pO [c,f,n] [c',f',n']
def zk(n n':Int)(k k':List Int):cD d! (gp n k) (gp n' k')=a! (ll (n::k) (n'::k')):=by
 unfold gp cD;rw[zv _ _ _ yO,Nq,bE];by_cases h:n=n'
 ·rw[é h,é h,cL,xq];by_cases hk:k=k'
  ·subst hk;rw[é 0x4,d8];rfl
  ·rw[è (by simpa using hk)];exact pO k k'
 ·rw[è h,è h]
def Iu(c f n n':Int)(k':List Int):cD d! (gp n' k') (rn c f n)=a! true:=by unfold gp rn cD;rw[cL,è (by rw[qj];exact z!)];show a! (cS d! "group" "run")=a! d!;congr 1
def EL(c f n n':Int)(k':List Int):cD d! (rn c f n) (gp n' k')=a! false:=by unfold gp rn cD;rw[cL,è (by rw[EB];exact z!)];show a! (cS d! "run" "group")=a! e!;congr 1
theorem ua:∀k:List Int,Bs (k.map r?)=d!
 |[]=>rfl
 |x::r=>by rw[f?,Bs,ua r];rfl
def LI(c f n:Int):iR (rn c f n)=d!:=rfl
def LD(n:Int)(k:List Int):iR (gp n k)=d!:=by unfold gp tp;simp[iR,Bs,ua]
theorem uS:∀k:List Int,l? (k.map r?)<=1
 |[]=>Ov _
 |x::r=>by
  have:=uS r;rw[f?,l?];show max _ _<=1;have:(r? x).depth<=1:=by unfold Xp;lia
  lia
def Im(c f n:Int):(rn c f n).depth<=50:=by unfold rn;simp[Xp,l?]
def Iw(n:Int)(k:List Int):(gp n k).depth<=50:=by have:=uS k;unfold gp tp;simp[Xp,l?];lia
def rP(x:D):Prop:=(∃c f n,x=rn c f n)\/(∃n k,x=gp n k)
variable{m c:Nat}{x:D}
def km(h:x∈de m c):∃col f0 s:Nat,col<c/\f0<m/\s<m-2-f0/\x=rn (col:Int) (1+(f0:Int)) (3+(s:Int)):=by unfold de fH dq at h;simp only[Xz,Y?,Yn]at h;obtain⟨col,h1,f0,h2,s,h3,rfl⟩:=h;exact⟨col,f0,s,h1,h2,h3,rfl⟩
def B6{col f0 s:Nat}(h1:col<c)(h2:f0<m)(h3:s<m-2-f0):rn (col:Int) (1+(f0:Int)) (3+(s:Int))∈de m c:=by unfold de fH dq;simp only[Xz,Y?,Yn];exact⟨col,h1,f0,h2,s,h3,rfl⟩
def gS{ch:List (List Int)}(h:x∈cO ch m):∃n0:Nat,∃k∈ch,n0<m/\x=gp (1+(n0:Int)) k:=by unfold cO bu at h;simp only[Xz,Y?,Yn]at h;obtain⟨n0,h1,k,hk,rfl⟩:=h;exact⟨n0,k,hk,h1,rfl⟩
def xx{ch:List (List Int)}{n0:Nat}(h1:n0<m)(hk:k∈ch):gp (1+(n0:Int)) k∈cO ch m:=by unfold cO bu;simp only[Xz,Y?,Yn];exact⟨n0,h1,k,hk,rfl⟩
def kW(h:x∈cG m c):rP x:=by
 obtain h|h:=Og.mp h
 ·obtain⟨n0,k,_,_,e⟩:=gS h;exact .inr ⟨_,_,e⟩
 ·obtain⟨col,f0,s,_,_,_,e⟩:=km h;exact .inl ⟨_,_,_,e⟩
variable{y:D}
def rP.cmp(hx:rP x)(hy:rP y):(cD d! x y).isSome=d!:=by
 obtain⟨c,f,n,rfl⟩|⟨n,k,rfl⟩:=hx <;>obtain⟨c',f',n',rfl⟩|⟨n',k',rfl⟩:=hy
 ·rw[wB];rfl
 ·rw[EL];rfl
 ·rw[Iu];rfl
 ·rw[zk];rfl
def rP.ok(hx:rP x):iR x=d!:=by
 obtain⟨c,f,n,rfl⟩|⟨n,k,rfl⟩:=hx
 ·exact LI ..
 ·exact LD ..
def qo(h:∀x∈xs,rP x)(hl:xs.length<=10000):Cmp2 xs:=⟨λx hx=>(h x hx).ok,λx hx y hy=>(h x hx).cmp (h y hy),.inr λx hx=>by
  obtain⟨c,f,n,rfl⟩|⟨n,k,rfl⟩:=h x hx
  ·exact⟨_,_,rfl⟩
  ·exact⟨_,_,rfl⟩,λx hx=>by
  obtain⟨c,f,n,rfl⟩|⟨n,k,rfl⟩:=h x hx
  ·exact Im ..
  ·exact Iw ..,hl⟩
def k8(hx:rP x)(hy:rP y)(h:cD d! y x=a! e!):ll (jx y) (jx x)=e!:=uZ hy.ok hx.ok h
def Jz(c:Nat):(k7 c).Pairwise λa b=>ll b a=e!:=by
 match c with
 |0|1|2|3|4=>decide
 |n+5=>exact S?
def sD(m c:Nat):uP (cG m c):=by
 unfold uP cG;refine Ot.mpr ⟨?_,?_,λx hx y hy=>?_⟩
 ·unfold cO;refine ZL.mpr ⟨λn0 o=>?_,?_⟩
  ·unfold bu;refine B!.mpr ((Jz c).imp λ{a b} Qm=>?_);refine k8 (.inr ⟨_,_,rfl⟩) (.inr ⟨_,_,rfl⟩) ?_;rw[zk,bE,é rfl,Qm]
  ·refine Xx.imp λ{a b} Qm x hx y hy=>?_;unfold bu at hx hy;obtain⟨k,_,rfl⟩:=Oh.mp hx;obtain⟨k',_,rfl⟩:=Oh.mp hy;refine k8 (.inr ⟨_,_,rfl⟩) (.inr ⟨_,_,rfl⟩) ?_;rw[zk,bE,è 0x1,Oy 0x1]
 ·unfold de;refine ZL.mpr ⟨λcol o=>?_,?_⟩
  ·unfold fH;refine ZL.mpr ⟨λf0 o=>?_,?_⟩
   ·unfold dq;refine B!.mpr (Xx.imp λ{a b} Qm=>?_);refine k8 (.inl ⟨_,_,_,rfl⟩) (.inl ⟨_,_,_,rfl⟩) ?_;rw[wB,bE,é rfl,bE,é rfl,bE,è 0x1,Oy 0x1]
   ·refine Xx.imp λ{a b} Qm x hx y hy=>?_;unfold dq at hx hy;obtain⟨k,_,rfl⟩:=Oh.mp hx;obtain⟨k',_,rfl⟩:=Oh.mp hy;refine k8 (.inl ⟨_,_,_,rfl⟩) (.inl ⟨_,_,_,rfl⟩) ?_;rw[wB,bE,é rfl,bE,è 0x1,Oy 0x1]
  ·refine Xx.imp λ{a b} Qm x hx y hy=>?_;unfold fH dq at hx hy;simp only[Xz,Y?,Yn]at hx hy;obtain⟨_,_,_,_,rfl⟩:=hx;obtain⟨_,_,_,_,rfl⟩:=hy;refine k8 (.inl ⟨_,_,_,rfl⟩) (.inl ⟨_,_,_,rfl⟩) ?_;rw[wB,bE,è 0x1,Oy 0x1]
 ·obtain⟨_,_,_,_,rfl⟩:=gS hx;obtain⟨_,_,_,_,_,_,rfl⟩:=km hy;exact k8 (.inr ⟨_,_,rfl⟩) (.inl ⟨_,_,_,rfl⟩) (EL ..)
def yv{Ti:List D}(h:Ti.Perm (cG m c)):r9 Ti=cG m c:=qA ((dw Ti).trans h) (jX Ti) (sD m c) (λx hx=>(kW (h.mem_iff.mp ((dw Ti).mem_iff.mp hx))).ok)
  λx hx y hy=>(kW (h.mem_iff.mp ((dw Ti).mem_iff.mp hx))).cmp (kW (h.mem_iff.mp ((dw Ti).mem_iff.mp hy)))
def t5(m c:Nat)(col f n:Int):((cG m c).any λz=>i? z (rn col f n))=ny m c col f n:=by
 apply ð.mpr;rw[Xe];constructor
 ·rintro⟨x,hx,he⟩;obtain h|h:=Og.mp hx
  ·obtain⟨n0,k,_,_,rfl⟩:=gS h;rw[tu]at he;cases he
  ·obtain⟨Vl,f0,s,h1,h2,h3,rfl⟩:=km h;rw[xJ]at he;simp only[k?,decide_eq_true_eq]at he;obtain⟨rfl,rfl,rfl⟩:=he;unfold ny bt;simp only[k?,decide_eq_true_eq];lia
 ·intro h;unfold ny bt at h;simp only[k?,decide_eq_true_eq]at h;refine⟨rn ((col.toNat:Nat):Int) (1+(((f-1).toNat:Nat):Int)) (3+(((n-3).toNat:Nat):Int)),N4 _ (B6 0x1 0x1 0x1),?_⟩;rw[xJ];simp only[k?,decide_eq_true_eq];lia
def ud(m c:Nat)(n:Int)(k:List Int):((cG m c).any λz=>i? z (gp n k))=(g! (1<=n)&&g! (n<=(m:Int))&&g! (k∈k7 c)):=by
 apply ð.mpr;rw[Xe];constructor
 ·rintro⟨x,hx,he⟩;obtain h|h:=Og.mp hx
  ·obtain⟨n0,k',hk,h1,rfl⟩:=gS h;rw[yu]at he;simp only[k?,decide_eq_true_eq]at he ⊢;obtain⟨rfl,rfl⟩:=he;exact⟨0x1,hk⟩
  ·obtain⟨Vl,f0,s,h1,h2,h3,rfl⟩:=km h;rw[tQ]at he;cases he
 ·intro h;simp only[k?,decide_eq_true_eq]at h;refine⟨gp (1+(((n-1).toNat:Nat):Int)) k,N5 _ (xx 0x1 h.2),?_⟩;rw[yu];simp only[k?,decide_eq_true_eq];exact⟨0x1,trivial⟩
def Ay(c:Nat)(k:List Int):Bool:=g! (3<=k.length)&&k.all (λx=>g! (0<=x)&&g! (x<(c:Int)))&&asc k
def Gq(m c:Nat)(n:Int)(k:List Int)(h:Ay c k=g! (k∈k7 c)):mH m c n k=(g! (1<=n)&&g! (n<=(m:Int))&&g! (k∈k7 c)):=by
 rw[<-h];unfold mH Ay bt
 match k with
 |[]=>simp
 |x::r=>
  by_cases hn:(g! (1<=n)&&g! (n<=(m:Int)))=d!
  ·simp only[hn,ē]
  ·have RK:(g! (1<=n)&&g! (n<=(m:Int)))=e!:=by simpa using hn
   simp only[RK,YO,Zt,YQ]
def lF:DS->M Out:=(aK 2 (e2 ax (af 2) (aW 1 [3,4] (nM (aa (e2 ax (af 4) (eC (.int 2))) (aa (e2 ax (af 0) (eC (.int 1))) ai))) (au 0) bW (br (aa (eC (.str "run")) (aa (af 1) (aa (af 2) (aa (e2 ax (e2 gSub (af 0) (af 2)) (eC (.int 1))) ai))))))))
def lC:DS->M Out:=(cT (nM (aa (eC (.int 1)) (aa (e2 ax (af 0) (eC (.int 1))) ai))) (au 4) lF)
def lK:DS->M Out:=(λδ=>(aK 5 (e2 ax (af 5) (aW 1 [3] (iO (af 5)) (au 0) bW (e2 ax (af 0) (bX (aa (af 1) ai)))))) (frz 5 δ))
def lG:DS->M Out:=(λδ=>(aK 2 (e2 ax (af 2) (aW 1 [6] (iO (af 5)) (au 0) (λδ=>bd (e2 xp (aN cB (aa (af 0) ai)) (eC (.int 2)) δ) bQ) (br (aa (eC (.str "group")) (aa (af 1) (aa (aN m5 (aa (af 0) ai)) ai))))))) (frz 5 δ))
noncomputable def gr:Nat->List (List Int)
 |0=>[[]]
 |c+1=>gr c++(gr c).map λk=>k++[(c:Int)]
noncomputable def ls(k:List Int):D:=.list (k.map r?)
def E9(c:Nat):List (List Int):=(gr c).filter λk=>g! (2<k.length)
section
variable(m c:Nat)
def GU(hm:m<=13)(x1:Option DV)(col f0:Nat)(hf:f0<m)(base:List D)(hb:base.length<=1000)(x5 x6:Option DV):
  lF [a! (.d (.int (m:Int))),x1,a! (.own base),a! (.d (.int (col:Int))),a! (.d (.int (1+(f0:Int)))),x5,x6]=rt (.nx [a! (.d (.int (m:Int))),x1,a! (.own (base++dq m col f0)),a! (.d (.int (col:Int))),a! (.d (.int (1+(f0:Int)))),x5,x6]):=by
 have c1:cF (au 0) bW (br (aa (eC (.str "run")) (aa (af 1) (aa (af 2) (aa (e2 ax (e2 gSub (af 0) (af 2)) (eC (.int 1))) ai))))) (cX 1 [3,4] [a! (.d (.int (m:Int))),x1,a! (.own base),a! (.d (.int (col:Int))),a! (.d (.int (1+(f0:Int)))),x5,x6]) (dc (1+(f0:Int)+2) ((m:Int)+1-(1+(f0:Int)+2)).toNat)=a! (dq m col f0):=by
  rw[show((m:Int)+1-(1+(f0:Int)+2)).toNat=m-2-f0 by lia];unfold dc dq;refine dg λs hs=>?_;have q:e2 ax (e2 gSub (af 0) (af 2)) (eC (.int 1)) ((cX 1 [3,4] [a! (.d (.int (m:Int))),x1,a! (.own base),a! (.d (.int (col:Int))),a! (.d (.int (1+(f0:Int)))),x5,x6]).set 0 (a! (.d (.int (1+(f0:Int)+2+(s:Int))))))=rt (.d (.int (3+(s:Int)))):=by refine(av ((av (x:=.d (.int (1+(f0:Int)+2+(s:Int)))) (y:=.d (.int (1+(f0:Int)))) rfl rfl).trans (cz _ _)) rfl).trans ((bh _ _).trans ?_);rw[show(1+(f0:Int)+2+(s:Int)-(1+(f0:Int))+1)=3+(s:Int) by lia]
  exact HX rfl rfl rfl q
 have e1:aW 1 [3,4] (nM (aa (e2 ax (af 4) (eC (.int 2))) (aa (e2 ax (af 0) (eC (.int 1))) ai))) (au 0) bW (br (aa (eC (.str "run")) (aa (af 1) (aa (af 2) (aa (e2 ax (e2 gSub (af 0) (af 2)) (eC (.int 1))) ai))))) [a! (.d (.int (m:Int))),x1,a! (.own base),a! (.d (.int (col:Int))),a! (.d (.int (1+(f0:Int)))),x5,x6]=rt (.new (dq m col f0)):=
  bp (iz (bS ((av (x:=.d (.int (1+(f0:Int)))) (y:=.d (.int 2)) rfl rfl).trans (bh _ _)) ((av (x:=.d (.int (m:Int))) (y:=.d (.int 1)) rfl rfl).trans (bh _ _))) 0x1 0x1 0x1 0x1) (by rw[eB];lia) c1
 unfold lF;rw[jt ((av (x:=.own base) rfl e1).trans (um rfl rfl rfl (by have:=iW m col f0 hm;lia))) rfl];rfl
def Ft(hm:m<=13)(x1:Option DV)(col:Nat)(base:List D)(hb:base.length<=700)(x4 x5 x6:Option DV):
  ∃y4,lC [a! (.d (.int (m:Int))),x1,a! (.own base),a! (.d (.int (col:Int))),x4,x5,x6]=rt (.nx [a! (.d (.int (m:Int))),x1,a! (.own (base++fH m col)),a! (.d (.int (col:Int))),y4,x5,x6]):=by
 unfold lC cT;rw[iz (bS (x:=.d (.int 1)) rfl ((av (x:=.d (.int (m:Int))) (y:=.d (.int 1)) rfl rfl).trans (bh _ _))) 0x1 0x1 0x1 0x1,aD,show((m:Int)+1-1).toNat=m by lia];unfold dc;obtain⟨δ',e,y4,hδ⟩:=gR (f:=λ(k:Nat)=>r? (1+(k:Int))) (i:=4) (N:=m) (B:=lF) (all:=m? m)
  (λpre δ=>∃y4,δ=[a! (.d (.int (m:Int))),x1,a! (.own (base++pre.flatMap (dq m col))),a! (.d (.int (col:Int))),y4,x5,x6])
  (λpre a δ ha hp ⟨y4,hδ⟩=>by subst hδ;have hl:=eI (λa=>iW m col a hm) pre;refine⟨_,GU m hm x1 col a (Oj.mp ha) (base++pre.flatMap (dq m col)) (by rw[l!];lia) x5 x6,a! (.d (.int (1+(a:Int)))),?_⟩;rw[Xa,<-t?,show [a].flatMap (dq m col)=dq m col a by simp])
  (m? m) [] [a! (.d (.int (m:Int))),x1,a! (.own base),a! (.d (.int (col:Int))),x4,x5,x6] (λo h=>h) 0x4 ⟨x4,0x4⟩
 refine⟨y4,?_⟩;rw[e,hδ];rfl
def yS(x0 x1 x2 x3 x4 x6:Option DV)(h1:1<=c)(h4:c<=4):∃y3,dG (au 3) lK (dc 0 c) [x0,x1,x2,x3,x4,a! (.own [.list []]),x6]=rt (.nx [x0,x1,x2,y3,x4,a! (.own ((gr c).map ls)),x6]):=by
 match c,h1,h4 with
 |1,_,_=>exact⟨a! (.d (.int 0)),by kernel_rfl⟩
 |2,_,_=>exact⟨a! (.d (.int 1)),by kernel_rfl⟩
 |3,_,_=>exact⟨a! (.d (.int 2)),by kernel_rfl⟩
 |4,_,_=>exact⟨a! (.d (.int 3)),by kernel_rfl⟩
 |n+5,_,h=>lia
def GC(k:List Int):cB [.d (ls k)]=rt (.d (.int (k.length:Int))):=by show rt (DV.d (.int ((k.map r?).length:Int)))=_;rw[e?]
def G1(ks:List (List Int))(hk:ks.length<=100)(x0 x1 x3 x4:Option DV)(n0:Nat)(base:List D)(hb:base.length<=1000)(x5:DV)(h5:x5=.own (ks.map ls)\/x5=.d (.list (ks.map ls))):
  lG [x0,x1,a! (.own base),x3,x4,a! x5,a! (.d (.int (1+(n0:Int))))]=rt (.nx [x0,x1,a! (.own (base++bu (ks.filter λk=>g! (2<k.length)) n0)),x3,x4,a! (.d (.list (ks.map ls))),a! (.d (.int (1+(n0:Int))))]):=by
 have hf:frz 5 [x0,x1,a! (.own base),x3,x4,a! x5,a! (.d (.int (1+(n0:Int))))]=[x0,x1,a! (.own base),x3,x4,a! (.d (.list (ks.map ls))),a! (.d (.int (1+(n0:Int))))]:=by obtain h|h:=h5 <;>(subst h;rfl)
 unfold lG;rw[hf];have c1:cF (au 0) (λδ=>bd (e2 xp (aN cB (aa (af 0) ai)) (eC (.int 2)) δ) bQ) (br (aa (eC (.str "group")) (aa (af 1) (aa (aN m5 (aa (af 0) ai)) ai)))) (cX 1 [6] [x0,x1,a! (.own base),x3,x4,a! (.d (.list (ks.map ls))),a! (.d (.int (1+(n0:Int))))]) (ks.map ls)=a! (bu (ks.filter λk=>g! (2<k.length)) n0):=by
  unfold bu;refine fL λk hk=>⟨?_,?_⟩
  ·refine(bj ((av (y:=.d (.int 2)) ((cg (a9 (x:=.d (ls k)) rfl)).trans (GC k)) rfl).trans (jq _ _))).trans ?_;rw[show g! ((2:Int)<(k.length:Int))=g! (2<k.length)from decide_eq_decide.mpr 0x1]
  ·exact HR rfl rfl ((cg (a9 (x:=.d (ls k)) rfl)).trans rfl)
 have e1:aW 1 [6] (iO (af 5)) (au 0) (λδ=>bd (e2 xp (aN cB (aa (af 0) ai)) (eC (.int 2)) δ) bQ) (br (aa (eC (.str "group")) (aa (af 1) (aa (aN m5 (aa (af 0) ai)) ai)))) [x0,x1,a! (.own base),x3,x4,a! (.d (.list (ks.map ls))),a! (.d (.int (1+(n0:Int))))]=rt (.new (bu (ks.filter λk=>g! (2<k.length)) n0)):=
  bp (fq rfl) (by rw[e?];lia) c1
 have hl:(bu (ks.filter λk=>g! (2<k.length)) n0).length<=100:=by unfold bu;rw[e?];exact Ow (YX _ _) hk
 rw[jt ((av (x:=.own base) rfl e1).trans (um rfl rfl rfl 0x1)) rfl];rfl
def BF(h4:c<=4):(gr c).length<=100:=by
 match c,h4 with
 |0,_|1,_|2,_|3,_|4,_=>decide
 |n+5,h=>lia
def zI(h4:c<=4):(E9 c).length<=5:=by
 match c,h4 with
 |0,_|1,_|2,_|3,_|4,_=>decide
 |n+5,h=>lia
def DC(h4:c<=4):(E9 c).Perm (k7 c):=by
 match c,h4 with
 |0,_|1,_|2,_|3,_|4,_=>decide
 |n+5,h=>lia
theorem sI{α:Type}{f g:α->List D}(h:∀a,(f a).Perm (g a)):∀as:List α,(as.flatMap f).Perm (as.flatMap g)
 |[]=>.refl _
 |a::as=>by rw[YN,YN];exact(h a).append (sI h as)
def DA(h4:c<=4):(de m c++cO (E9 c) m).Perm (cG m c):=by refine XE.trans ?_;unfold cG;refine aç _ ?_;unfold cO;refine sI (λn0=>?_) _;unfold bu;exact(DC c h4).map _
def wb(hm:m<=13)(h1:1<=c)(h4:c<=4):eY [.d (.int (m:Int)),.d (.int (c:Int))]=rt (.new (cG m c)):=by
 unfold eY nC eS;have hd:oE ["most","colours","found","colour","first","kinds","number"] [.d (.int (m:Int)),.d (.int (c:Int))]=[a! (.d (.int (m:Int))),a! (.d (.int (c:Int))),b!,b!,b!,b!,b!]:=rfl;rw[hd];have s1:aK 2 (bX ai) [a! (.d (.int (m:Int))),a! (.d (.int (c:Int))),b!,b!,b!,b!,b!]=rt (.nx [a! (.d (.int (m:Int))),a! (.d (.int (c:Int))),a! (.own []),b!,b!,b!,b!]):=rfl;rw[cy s1];obtain⟨δ',e,y3,y4,hδ⟩:=gR (f:=λ(k:Nat)=>r? (k:Int)) (i:=3) (N:=c) (B:=lC) (all:=m? c)
  (λpre δ=>∃y3 y4,δ=[a! (.d (.int (m:Int))),a! (.d (.int (c:Int))),a! (.own (pre.flatMap (fH m))),y3,y4,b!,b!])
  (λpre a δ ha hp ⟨y3,y4,hδ⟩=>by subst hδ;have hl:=eI (λa=>oh m a hm) pre;obtain⟨z4,e⟩:=Ft m hm (a! (.d (.int (c:Int)))) a (pre.flatMap (fH m)) 0x1 y4 b! b!;refine⟨_,e,a! (.d (.int (a:Int))),z4,?_⟩;rw[Xa,show [a].flatMap (fH m)=fH m a by simp])
  (m? c) [] [a! (.d (.int (m:Int))),a! (.d (.int (c:Int))),a! (.own []),b!,b!,b!,b!] (λo h=>h) 0x4 ⟨b!,b!,0x4⟩
 have s2:cT (rR (aa (af 1) ai)) (au 3) lC [a! (.d (.int (m:Int))),a! (.d (.int (c:Int))),a! (.own []),b!,b!,b!,b!]=rt (.nx [a! (.d (.int (m:Int))),a! (.d (.int (c:Int))),a! (.own (de m c)),y3,y4,b!,b!]):=by unfold cT;rw[ir (a9 (x:=.d (.int (c:Int))) rfl) 0x1 0x1,aD,show(c:Int).toNat=c by lia,tf,e,hδ];rfl
 rw[show(cT (nM (aa (eC (.int 1)) (aa (e2 ax (af 0) (eC (.int 1))) ai))) (au 4) (aK 2 (e2 ax (af 2) (aW 1 [3,4] (nM (aa (e2 ax (af 4) (eC (.int 2))) (aa (e2 ax (af 0) (eC (.int 1))) ai))) (au 0) bW (br (aa (eC (.str "run")) (aa (af 1) (aa (af 2) (aa (e2 ax (e2 gSub (af 0) (af 2)) (eC (.int 1))) ai)))))))))=lC from rfl];rw[cy s2];have s3:aK 5 (bX (aa (bX ai) ai)) [a! (.d (.int (m:Int))),a! (.d (.int (c:Int))),a! (.own (de m c)),y3,y4,b!,b!]=rt (.nx [a! (.d (.int (m:Int))),a! (.d (.int (c:Int))),a! (.own (de m c)),y3,y4,a! (.own [.list []]),b!]):=rfl;rw[cy s3];obtain⟨z3,ek⟩:=yS c (a! (.d (.int (m:Int)))) (a! (.d (.int (c:Int)))) (a! (.own (de m c))) y3 y4 b! h1 h4;have s4:cT (rR (aa (af 1) ai)) (au 3) lK [a! (.d (.int (m:Int))),a! (.d (.int (c:Int))),a! (.own (de m c)),y3,y4,a! (.own [.list []]),b!]=rt (.nx [a! (.d (.int (m:Int))),a! (.d (.int (c:Int))),a! (.own (de m c)),z3,y4,a! (.own ((gr c).map ls)),b!]):=by unfold cT;rw[ir (a9 (x:=.d (.int (c:Int))) rfl) 0x1 0x1,aD,show(c:Int).toNat=c by lia,ek]
 rw[show(λδ=>(aK 5 (e2 ax (af 5) (aW 1 [3] (iO (af 5)) (au 0) bW (e2 ax (af 0) (bX (aa (af 1) ai)))))) (frz 5 δ))=lK from rfl];rw[cy s4];have lr:=nW m c hm;obtain⟨D_,eg,w5,w6,Wh,_⟩:=gR (f:=λ(k:Nat)=>r? (1+(k:Int))) (i:=6) (N:=m) (B:=lG) (all:=m? m)
  (λpre δ=>∃w5 w6,δ=[a! (.d (.int (m:Int))),a! (.d (.int (c:Int))),a! (.own (de m c++pre.flatMap (bu (E9 c)))),z3,y4,a! w5,w6]/\(w5=.own ((gr c).map ls)\/w5=.d (.list ((gr c).map ls))))
  (λpre a δ ha hp ⟨w5,w6,hδ,hw⟩=>by subst hδ;have hl:=eI (λa=>ie (zI c h4) a) pre;refine⟨_,G1 (gr c) (BF c h4) _ _ _ _ a (de m c++pre.flatMap (bu (E9 c))) (by rw[l!];lia) w5 hw,_,a! (.d (.int (1+(a:Int)))),?_,.inr rfl⟩;rw[Xa,show [a].flatMap (bu (E9 c))=bu (E9 c) a by simp,<-t?];rfl)
  (m? m) [] [a! (.d (.int (m:Int))),a! (.d (.int (c:Int))),a! (.own (de m c)),z3,y4,a! (.own ((gr c).map ls)),b!] (λo h=>h) 0x4 ⟨.own ((gr c).map ls),b!,0x4,.inl rfl⟩
 have s5:cT (nM (aa (eC (.int 1)) (aa (e2 ax (af 0) (eC (.int 1))) ai))) (au 6) lG [a! (.d (.int (m:Int))),a! (.d (.int (c:Int))),a! (.own (de m c)),z3,y4,a! (.own ((gr c).map ls)),b!]=rt (.nx [a! (.d (.int (m:Int))),a! (.d (.int (c:Int))),a! (.own (de m c++cO (E9 c) m)),z3,y4,a! w5,w6]):=by unfold cT;rw[iz (bS (x:=.d (.int 1)) rfl ((av (x:=.d (.int (m:Int))) (y:=.d (.int 1)) rfl rfl).trans (bh _ _))) 0x1 0x1 0x1 0x1,aD,show((m:Int)+1-1).toNat=m by lia];unfold dc;rw[eg,Wh];rfl
 rw[show(λδ=>(aK 2 (e2 ax (af 2) (aW 1 [6] (iO (af 5)) (au 0) (λδ=>bd (e2 xp (aN cB (aa (af 0) ai)) (eC (.int 2)) δ) bQ) (br (aa (eC (.str "group")) (aa (af 1) (aa (aN m5 (aa (af 0) ai)) ai))))))) (frz 5 δ))=lG from rfl];rw[cy s5];have hp:=DA m c h4;have lg:=kg (zI c h4) m;have e9:aN ka (aa (af 2) ai) [a! (.d (.int (m:Int))),a! (.d (.int (c:Int))),a! (.own (de m c++cO (E9 c) m)),z3,y4,a! w5,w6]=rt (.new (cG m c)):=by refine(cg (a9 (x:=.own (de m c++cO (E9 c) m)) rfl)).trans ?_;unfold ka;simp only;rw[pN,aP,aD,é (qo (λx hx=>kW (hp.mem_iff.mp hx)) (by rw[l!];lia)),yv hp]
 rw[bC e9];rfl
end
section
variable{F G:DS->M Out}{f fa fb fc:DS->M DV}{fr:DS->M (List DV)}{gc:DS->M Bool}{g:DV->DV->M DV}{δ δ':DS}{x y z:DV}{k:Bool}{r:M Out}
def f9(h:F δ=rt (.nx δ'))(h2:G δ'=r):bD F G δ=r:=(cy h).trans h2
def Mv(h:gc δ=rt d!)(h2:F δ=r):gJ gc F G δ=r:=(ni h).trans h2
def G9(h:gc δ=rt e!)(h2:G δ=r):gJ gc F G δ=r:=(ni h).trans h2
def eT{i:Nat}(h:f δ=rt x)(ha:uE x=a! y)(h2:δ.set i (a! y)=δ'):aK i f δ=rt (.nx δ'):=by rw[jt h ha,h2]
def eJ{n:Nat}{fm:List DV->M DV}{xs ys:List DV}{w:M DV}(h:fr δ=rt xs)(ha:args xs=a! ys)(hn:ys.length=n)(hm:fm ys=w):aN (dD n fm) fr δ=w:=by rw[cg h];unfold dD;rw[ha,aP,aD,é hn,hm]
def AB(h:f δ=rt x):oK f δ=rt (.nx δ):=by unfold oK;rw[h];rfl
def dE{N:List w?}{xs:List DV}(h:F (oE N xs)=rt (.rt x)):eS N F xs=rt (res x):=by unfold eS;rw[h];rfl
variable{ga gb:DS->M Bool}{b:Bool}
def C8(h1:ga δ=rt e!)(h2:gb δ=rt b):Fg ga gb δ=rt b:=by unfold Fg;rwa[h1,aD]
def CF(h1:ga δ=rt e!):j4 ga gb δ=rt false:=by unfold j4;rw[h1];rfl
def Ae(h1:ga δ=rt d!)(h2:gb δ=rt b):j4 ga gb δ=rt b:=by unfold j4;rwa[h1,aD]
def u5{a:Bool}(h1:ga δ=rt a)(hb:(!a)=b):hJ ga δ=rt b:=by rw[vf h1,hb]
end
theorem wM{i:Nat}{B:DS->M Out}{I:DS->Prop}:∀(xs:List D)(δ:DS),(∀x∈xs,∀δ,I δ->∃δ',B (δ.set i (a! (.d x)))=rt (.nx δ')/\I δ')->I δ->∃δ',dG (au i) B xs δ=rt (.nx δ')/\I δ'
 |[],δ,_,hI=>⟨δ,rfl,hI⟩
 |x::xs,δ,h,hI=>by obtain⟨δ1,e1,h1⟩:=h x N2 δ hI;obtain⟨D_,e2,h2⟩:=wM xs δ1 (λy hy=>h y (N1 _ hy)) h1;refine⟨D_,?_,h2⟩;unfold dG;have hs:au i x δ=a! (δ.set i (a! (.d x))):=rfl;rw[hs,aP,aD,e1,aD,ma];exact e2
def jK{fi:DS->M (List D)}{sf:D->DS->Option DS}{B:DS->M Out}{r:M Out}(h:fi δ=rt xs)(h2:dG sf B xs δ=r):cT fi sf B δ=r:=by unfold cT;rw[h,aD,h2]
def NK{C CB:c!}{fa fb:DS->M DV}{m c:Int}(h1:fa δ=rt (.d (.int m)))(h2:fb δ=rt (.d (.int c)))(h3:3<=m)(RD:m<=13)(h4:1<=c)(h5:c<=4):Jy C CB (aa fa (aa fb ai)) δ=rt (hs C m c):=by unfold Jy;rw[cg (bS h1 h2)];show(if good m c=d! then _ else _)=_;rw[é (by unfold good;simp;lia)];rfl
section
variable{F G:DS->M Out}{B:DS->M Out}{f fe:DS->M DV}{fi:DS->M (List D)}{gc:DS->M Bool}{δ:DS}{r:M Out}{i k:Nat}{js:List Nat}
def MK{I:DS->Prop}(h:fi δ=rt xs)(hI:I δ)(ht:∀x∈xs,∀δ,I δ->∃δ',B (δ.set i (a! (.d x)))=rt (.nx δ')/\I δ')(kk:∀δ',I δ'->G δ'=r):bD (cT fi (au i) B) G δ=r:=by obtain⟨δ',e,h'⟩:=wM (i:=i) (B:=B) xs δ ht hI;exact f9 (jK h e) (kk δ' h')
end
section
variable{F G:DS->M Out}{f fa fb fc fd fe:DS->M DV}{fr:DS->M (List DV)}{fi:DS->M (List D)}{gc:DS->M Bool}{δ:DS}{Q:DS->Prop}{r:M Out}{i:Nat}{x y z u:DV}{b:Bool}
def FF{ys:List D}(h0:yf x y=b!)(hx:jJ x=a! xs)(hy:jJ y=a! ys)(hl:xs.length+ys.length<=1000000):ax x y=rt (.new (xs++ys)):=by unfold ax BW;rw[xP h0 hx hy hl];rfl
def Lf(h1:fa δ=rt x)(h2:fb δ=rt y)(h3:fc δ=rt z)(h4:fd δ=rt u):aa fa (aa fb (aa fc (aa fd ai))) δ=rt [x,y,z,u]:=by have:=gY h2 h3 h4;unfold aa at this ⊢;rw[h1,aD,this];rfl
def NA{v:DV}(h1:fa δ=rt x)(h2:fb δ=rt y)(h3:fc δ=rt z)(h4:fd δ=rt u)(h5:fe δ=rt v):aa fa (aa fb (aa fc (aa fd (aa fe ai)))) δ=rt [x,y,z,u,v]:=by have:=Lf h2 h3 h4 h5;unfold aa at this ⊢;rw[h1,aD,this];rfl
def JH(a b:Int):i? (.int a) (.int b)=g! (a=b):=by
 unfold i?;by_cases h:a=b
 ·subst h;simp
 ·simp[h]
def Nn(n:Nat):dc 0 n=(m? n).map λ(k:Nat)=>r? (k:Int):=by unfold dc;refine J? λk o=>?_;rw[Û]
end
inductive Ml where
 |r (c f n:Int)
 |g (n:Int) (k:List Int)
def md:Ml->D
 |.r c f n=>rn c f n
 |.g n k=>gp n k
noncomputable def tl:Ml->List Tl
 |.r c f n=>(m? n.toNat).map λ(k:Nat)=>(f+(k:Int),c)
 |.g n k=>k.map λx=>(n,x)
def Bz(m c:Nat):Ml->Bool
 |.r col f n=>ny m c col f n
 |.g n k=>mH m c n k
def eK:∀y:Ml,rP (md y)
 |.r c f n=>.inl ⟨c,f,n,rfl⟩
 |.g n k=>.inr ⟨n,k,rfl⟩
structure mF(m c:Nat)(y:Ml):Prop where
 known:((cG m c).any λz=>i? z (md y))=Bz m c y
 tiles:∀C E:c!,bH C E [hs C m c,.d (md y)]=if Bz m c y=d! then rt (.new ((tl y).map pr))else a! (.error (.ref E))
 law:bF [.d (md y)]=rt (.new ((tl y).map pr))
 len:(tl y).length<=13
 box:∀p∈tl y,0<=p.1/\p.1<=13/\0<=p.2/\p.2<=3
def LX{col f n:Int}(h0:0<=n)(h1:n<=13)(h2:0<=f)(h3:f+n-1<=13)(h4:0<=col)(h5:col<=3):mF m c (.r col f n):=by
 have ht:jY col f n=(tl (.r col f n)).map pr:=by unfold jY tl;rw[A!];rfl
 refine⟨t5 m c col f n,λC E=>?_,?_,by unfold tl;simp;lia,λp hp=>?_⟩
 ·show bH C E [hs C m c,.d (rn col f n)]=_;rw[wR C E m c col f n 0x1 0x1,ht];rfl
 ·show bF [.d (rn col f n)]=_;rw[pz col f n 0x1 0x1,ht]
 ·obtain⟨k,hk,rfl⟩:=Oh.mp hp;have hk:=Oj.mp hk;exact⟨by show 0<=f+(k:Int);lia,by show f+(k:Int)<=13;lia,h4,h5⟩
def Lz{n:Int}(h0:0<=n)(h1:n<=13)(hl:k.length<=4)(hk:∀x∈k,0<=x/\x<=3)(hc:Ay c k=g! (k∈k7 c)):mF m c (.g n k):=by
 have ht:ko n k=(tl (.g n k)).map pr:=by unfold ko tl;rw[A!];rfl
 refine⟨(ud m c n k).trans (Gq m c n k hc).symm,λC E=>?_,?_,by unfold tl;simp;lia,λp hp=>?_⟩
 ·show bH C E [hs C m c,.d (gp n k)]=_;rw[we C E m c n k 0x1,ht];rfl
 ·show bF [.d (gp n k)]=_;rw[pD n k 0x1,ht]
 ·obtain⟨x,hx,rfl⟩:=Oh.mp hp;exact⟨h0,h1,(hk x hx).1,(hk x hx).2⟩
def IE:∀c∈[1,2,3,4],∀k∈k7 c,k.length<=4/\(∀x∈k,0<=x/\x<=3)/\Ay c k=g! (k∈k7 c):=by decide +kernel
def M9(h1:1<=c)(h4:c<=4):c∈[1,2,3,4]:=by simp;lia
def Ei(hm:m<=13)(h1:1<=c)(h4:c<=4)(h:x∈cG m c):∃y,md y=x/\mF m c y:=by
 unfold cG at h;obtain q|q:=Og.mp h
 ·obtain⟨n0,k,hk,hn,rfl⟩:=gS q;obtain⟨a1,a2,a3⟩:=IE c (M9 h1 h4) k hk;exact⟨.g _ k,rfl,Lz 0x1 0x1 a1 a2 a3⟩
 ·obtain⟨col,f0,s,hc,_,hs,rfl⟩:=km q;exact⟨.r _ _ _,rfl,LX 0x1 0x1 0x1 0x1 0x1 0x1⟩
theorem qQ:∀(ks ms:List Int),cL e! (ks.map r?) (ms.map r?)=a! (!ll ms ks)
 |[],[]=>rfl
 |[],_::_=>rfl
 |_::_,[]=>rfl
 |x::xs,y::ys=>by
  rw[f?,f?,cL,Ad];show _=a! (!HT.lexLt (y::ys) (x::xs));rw[HT.lexLt_cons];by_cases h:x=y
  ·subst h;rw[é 0x4,é rfl];exact qQ xs ys
  ·rw[è (by simpa using h),è (XR h)];show a! (g! (x<=y))=a! (!g! (y<x));congr 1;by_cases OL:y<x
   ·rw[Oz OL,Oy 0x1];rfl
   ·rw[Oy OL,Oz 0x1];rfl
def NY(hx:rP x)(hy:rP y):cD e! x y=a! (!ll (jx y) (jx x)):=by
 obtain⟨b,hb⟩:=Oo.mp (hy.cmp hx);rw[uZ hy.ok hx.ok hb];obtain⟨c,f,n,rfl⟩|⟨n,k,rfl⟩:=hx <;>obtain⟨c',f',n',rfl⟩|⟨n',k',rfl⟩:=hy
 ·rw[wB]at hb;cases hb;unfold rn cD;rw[cL,é qp];exact qQ [c,f,n] [c',f',n']
 ·rw[Iu]at hb;cases hb;unfold gp rn cD;rw[cL,è (by rw[EB];exact z!)];show a! (cS e! "run" "group")=a! e!;congr 1
 ·rw[EL]at hb;cases hb;unfold gp rn cD;rw[cL,è (by rw[qj];exact z!)];show a! (cS e! "group" "run")=a! d!;congr 1
 ·rw[zk]at hb;cases hb;unfold gp cD;rw[cL,é yO,cL,Ad,bE];by_cases h:n=n'
  ·subst h;rw[é 0x4,é rfl,cL,xq];by_cases hk:k=k'
   ·subst hk;rw[é 0x4,d8];rfl
   ·rw[è (by simpa using hk)];exact qQ k k'
  ·rw[è (by simpa using h),è (XR h)];show a! (g! (n<=n'))=a! (!g! (n'<n));congr 1;by_cases OL:n'<n
   ·rw[Oz OL,Oy 0x1];rfl
   ·rw[Oy OL,Oz 0x1];rfl
def C1(h:rP x):x.depth<=50:=by
 obtain⟨c,f,n,rfl⟩|⟨n,k,rfl⟩:=h
 ·exact Im ..
 ·exact Iw ..
def KC(hx:rP x)(hy:rP y):iA (.d x) (.d y)=rt (.d (.bool (!ll (jx y) (jx x)))):=by
 have h0:Mx (.d x) (.d y)=b!:=by obtain⟨c,f,n,rfl⟩|⟨n,k,rfl⟩:=hx <;>obtain⟨c',f',n',rfl⟩|⟨n',k',rfl⟩:=hy <;>rfl
 unfold iA BW;rw[h0];show gC e! (.d x) (.d y)=_;unfold gC;dsimp only;have:=C1 hx;rw[é 0x1,NY hx hy];rfl
def Bt(xs:List D):Bool:=(m? (xs.length-1)).all λk=>!ll (jx (xs.getD (k+1) .none)) (jx (xs.getD k .none))
def DI(xs:List D)(hM:∀x∈xs,rP x)(hl:xs.length<=900):bB [.d (.list xs)]=rt (.d (.bool (Bt xs))):=by
 unfold bB iw;refine dE (x:=.d (.bool (Bt xs))) (bC ?_);refine(cg (a9 (bp (xs:=dc 1 ((xs.length:Int)-1).toNat) (ys:=((m? (xs.length-1)).map λk=>!ll (jx (xs.getD (k+1) .none)) (jx (xs.getD k .none))).map X0) (iz (i:=1) (j:=(xs.length:Int)) (bS rfl ((cg (a9 (x:=.d (.list xs)) rfl)).trans rfl)) 0x1 0x1 0x1 0x1) (by unfold dc;simp;lia) ?_))).trans ?_
 ·have hn:((xs.length:Int)-1).toNat=xs.length-1:=by lia
  rw[hn];unfold dc;rw[A!];refine dg (f:=λ(k:Nat)=>r? (1+(k:Int))) λk hk=>?_;have hk:=Oj.mp hk;have e1:bK (.d (.list xs)) (.d (.int (k:Int)))=rt (.d (xs.getD k .none)):=lq (qS 0x1 _);have e2:bK (.d (.list xs)) (.d (.int (1+(k:Int))))=rt (.d (xs.getD (k+1) .none)):=by rw[show(1+(k:Int))=((k+1:Nat):Int) by lia];exact lq (qS 0x1 _)
  have m1:∀i,i<xs.length->rP (xs.getD i .none):=λi hi=>by rw[show xs.getD i .none=xs[i] by simp[hi]];exact hM _ (Ys hi)
  refine(av (x:=.d (xs.getD k .none)) (y:=.d (xs.getD (k+1) .none)) ?_ ?_).trans (KC (m1 k 0x1) (m1 (k+1) 0x1))
  ·refine(av (x:=.d (.list xs)) (y:=.d (.int (k:Int))) rfl ?_).trans e1;refine(av (x:=.d (.int (1+(k:Int)))) (y:=.d (.int 1)) rfl rfl).trans ?_;rw[cz,show(1+(k:Int))-1=(k:Int) by lia]
  ·exact(av (x:=.d (.list xs)) (y:=.d (.int (1+(k:Int)))) rfl rfl).trans e2
 ·rw[nJ];unfold Bt;rw[X8];rfl
def GY(hx:rP x)(hy:rP y):i? x y=d!↔x=y:=by
 obtain⟨c,f,n,rfl⟩|⟨n,k,rfl⟩:=hx <;>obtain⟨c',f',n',rfl⟩|⟨n',k',rfl⟩:=hy
 ·rw[xJ];constructor
  ·intro h;simp at h;obtain⟨rfl,rfl,rfl⟩:=h;rfl
  ·intro h;unfold rn at h;simp at h;simp[h]
 ·rw[tQ];exact⟨λh=>(z! h).elim,λh=>by unfold rn gp at h;simp at h⟩
 ·rw[tu];exact⟨λh=>(z! h).elim,λh=>by unfold rn gp at h;simp at h⟩
 ·rw[yu];constructor
  ·intro h;simp at h;obtain⟨rfl,rfl⟩:=h;rfl
  ·intro h;unfold gp at h;simp at h;simp[h.1,Ew h.2]
def LV(h:∀x∈xs,rP x):l? xs<=50:=by
 induction xs with
 |nil=>unfold l?;lia
 |cons x r ih=>
  have h1:=C1 (h x N2);have h2:=ih λz hz=>h z (N1 _ hz);rw[l?];lia
def Dh(l:By)(t' t:Tl)(w:List Tl):c9 (fG l t' w) t=if t'=t then c9 l t++[w]else c9 l t:=by
 unfold fG;by_cases hb:jy l t'=d!
 ·rw[é hb];unfold c9;rw[List.find?_map];have e:((λx=>g! (x.1=t))∘λx:eA×List (List eA)=>if x.1=t' then(x.1,x.2++[w])else x)=λx=>g! (x.1=t):=by funext x;show g! ((if x.1=t' then(x.1,x.2++[w])else x).1=t)=_;split <;>rfl
  rw[e];cases hf:l.find? λx=>g! (x.1=t)with
  |none=>
   by_cases ht:t'=t
   ·subst ht;obtain⟨x,hx,h2⟩:=Xe.mp hb;have:=List.find?_eq_none.mp hf x hx;exact ê h2 this
   ·rw[è ht];rfl
  |some x=>
   have hx:x.1=t:=by simpa using ï hf
   by_cases ht:t'=t
   ·rw[é ht];show((a! (if x.1=t' then(x.1,x.2++[w])else x)).map (·.2)).getD []=x.2++[w];rw[é (hx.trans ht.symm)];rfl
   ·rw[è ht];show((a! (if x.1=t' then(x.1,x.2++[w])else x)).map (·.2)).getD []=x.2;rw[è (λz=>ht (z.symm.trans hx))];rfl
 ·rw[è hb];unfold c9;rw[Î];cases hf:l.find? λx=>g! (x.1=t)with
  |none=>
   by_cases ht:t'=t
   ·rw[é ht];simp[ht]
   ·rw[è ht];simp[ht]
  |some x=>
   have hx:x.1=t:=by simpa using ï hf
   have ht:t'≠t:=λz=>hb (Xe.mpr ⟨x,Zk hf,by simp[hx,z]⟩);rw[è ht];rfl
theorem vN(w x:List Tl)(t:Tl):∀(ts:List Tl)(l:By),x∈c9 (ts.foldl (λl t=>fG l t w) l) t↔x∈c9 l t\/(x=w/\t∈ts)
 |[],l=>by simp
 |s::ts,l=>by
  rw[Xb,vN w x t ts,Dh];by_cases hs:s=t
  ·rw[é hs];subst hs;rw[ZJ,W4];constructor
   ·rintro((h|h)|h)
    ·exact .inl h
    ·exact .inr ⟨h,N2⟩
    ·exact .inr ⟨h.1,N1 _ h.2⟩
   ·rintro(h|h)
    ·exact .inl (.inl h)
    ·exact .inl (.inr h.1)
  ·have QK:¬t=s:=λe=>hs e.symm;rw[è hs];simp[QK]
theorem Ab(x:List Tl)(t:Tl):∀(OM:List (List Tl))(l:By),x∈c9 (OM.foldl iG l) t↔x∈c9 l t\/(x∈OM/\t∈x.take 3)
 |[],l=>by simp
 |w::OM,l=>by
  rw[Xb,Ab x t OM];unfold iG;rw[vN];constructor
  ·rintro((h|⟨h,h2⟩)|⟨h,h2⟩)
   ·exact .inl h
   ·subst h;exact .inr ⟨N2,h2⟩
   ·exact .inr ⟨N1 _ h,h2⟩
  ·rintro(h|⟨h,h2⟩)
   ·exact .inl (.inl h)
   ·obtain e|h:=Of.mp h
    ·subst e;exact .inl (.inr ⟨rfl,h2⟩)
    ·exact .inr ⟨h,h2⟩
def jL(x:List Tl)(t:Tl)(OM:List (List Tl)):x∈c9 (mj OM) t↔x∈OM/\t∈x.take 3:=by unfold mj;rw[Ab];have:c9 ([]:By) t=[]:=rfl;rw[this];simp
def o7(m c:Nat):List Ml:=((m? m).flatMap λ(n0:Nat)=>(k7 c).map λk=>Ml.g (1+(n0:Int)) k)++(m? c).flatMap λ(col:Nat)=>(m? m).flatMap λ(f0:Nat)=>(m? (m-2-f0)).map λ(s:Nat)=>Ml.r (col:Int) (1+(f0:Int)) (3+(s:Int))
def lY(m c:Nat):(o7 m c).map md=cG m c:=by unfold o7 cG cO bu de fH dq;simp only[y?,ŭ,A!];rfl
def B4:∀{x y:Ml},md x=md y->x=y
 |.r _ _ _,.r _ _ _,h=>by have h':rn _ _ _=rn _ _ _:=h;unfold rn at h';simp at h';obtain⟨rfl,rfl,rfl⟩:=h';rfl
 |.g _ _,.g _ _,h=>by have h':gp _ _=gp _ _:=h;unfold gp at h';simp at h';obtain⟨rfl,h2⟩:=h';rw[Ew h2]
 |.r _ _ _,.g _ _,h=>by have h':rn _ _ _=gp _ _:=h;unfold rn gp at h';simp at h'
 |.g _ _,.r _ _ _,h=>by have h':gp _ _=rn _ _ _:=h;unfold rn gp at h';simp at h'
def qD(hm:m<=13)(h1:1<=c)(h4:c<=4){y:Ml}(h:y∈o7 m c):mF m c y/\Bz m c y=d!:=by
 have hk:md y∈cG m c:=by rw[<-lY];exact Oh.mpr ⟨y,h,rfl⟩
 obtain⟨z,e,hz⟩:=Ei hm h1 h4 hk;have:=B4 e;subst this;refine⟨hz,?_⟩;rw[<-hz.known];exact Xe.mpr ⟨md z,hk,(GY (eK z) (eK z)).mpr rfl⟩
def KG(m c:Nat):List (List Tl):=(o7 m c).map tl
variable{w:List Tl}
def Eb:w∈KG m c↔(∃n0:Nat,n0<m/\∃k∈k7 c,w=k.map λx=>(1+(n0:Int),x))\/∃col f0 s:Nat,col<c/\f0<m/\s<m-2-f0/\w=(m? (3+s)).map λ(k:Nat)=>(1+(f0:Int)+(k:Int),(col:Int)):=by
 unfold KG o7;simp only[y?,ŭ,A!,ZJ,Xz,Yn,Y?,Function.comp];constructor
 ·rintro(⟨n0,h,k,hk,rfl⟩|⟨col,h1,f0,h2,s,h3,rfl⟩)
  ·exact .inl ⟨n0,h,k,hk,rfl⟩
  ·refine .inr ⟨col,f0,s,h1,h2,h3,?_⟩;show(m? (3+(s:Int)).toNat).map _=_;rw[show(3+(s:Int)).toNat=3+s by lia]
 ·rintro(⟨n0,h,k,hk,rfl⟩|⟨col,f0,s,h1,h2,h3,rfl⟩)
  ·exact .inl ⟨n0,h,k,hk,rfl⟩
  ·refine .inr ⟨col,h1,f0,h2,s,h3,?_⟩;show(m? (3+(s:Int)).toNat).map _=_;rw[show(3+(s:Int)).toNat=3+s by lia]
def zL:∀c∈[1,2,3,4],∀k∈k7 c,k.Pairwise (·<·)/\3<=k.length/\k.length<=4/\∀x∈k,0<=x/\x<(c:Int):=by decide +kernel
def C6(h1:1<=c)(h4:c<=4)(h:w∈KG m c):w.Pairwise JI:=by
 obtain⟨n0,_,k,hk,rfl⟩|⟨col,f0,s,_,_,_,rfl⟩:=Eb.mp h
 ·have:=(zL c (M9 h1 h4) k hk).1;rw[B!];exact this.imp λh=>.inr ⟨rfl,h⟩
 ·rw[B!];exact(Xx).imp λh=>.inl (by show 1+(f0:Int)+_<1+(f0:Int)+_;lia)
def lZ(hm:m<=13)(h1:1<=c)(h4:c<=4)(h:w∈KG m c):3<=w.length/\w.length<=13:=by
 obtain⟨n0,_,k,hk,rfl⟩|⟨col,f0,s,_,_,_,rfl⟩:=Eb.mp h
 ·have:=zL c (M9 h1 h4) k hk;rw[e?];lia
 ·rw[e?,XN];lia
end LW
namespace L3
open PySem PySem.Spec L2
open PyProof.Rows hiding St
def MY(xs:List DV):M DV:=match xs with
 |[.d (.int i),.new ys]=>rt (.nwt [.int i] ys [])
 |_=>b!
def EX(fr:DS->M (List DV))(δ:DS):M DV:=bd (fr δ) MY
set_option tactic.hygienic true in
def G4{X:Cx}{E:XK}{es:List E!}{ce:YU}{k:Nat}{fr:DS->M (List DV)}(h:wq X E es fr):PX X E (.Tuple es k ce) (EX fr):=PE.mono (xD h) λσ H Q q=>lQ (g:=λ_=>MY) q λO P δ xs r vs H1 rs OK s1 rx e q=>by
 unfold MY at e;split at e
 ·rename_i i ys;cases e;cases rx with
  |@cons _ v1 _ _ r1 rr=>
   cases rr with
   |@cons _ v2 _ _ r2 rr=>
    cases rr;have r1':Rp (P++O) H1 (.int i) v1:=r1;cases r1';obtain⟨a,us,rfl,hn,ha,l⟩:=r2;refine⟨fC (by show 2<=1000000;decide),λt ht=>q _ _ (bb ht) ⟨t,a,[.int i],us,[],rfl,λhm=>?_,aQ,hn,bb ht _ _ ha,.cons (.int i) .nil,l.kp (.same (bb ht)),.nil⟩⟩;obtain z|z:=Of.mp hm
    ·rw[z,ha]at ht;cases ht
    ·obtain⟨o,e⟩:=OK.dom t z;rw[ht]at e;cases e
 ·cases e
def Ng(Pr:g?)(w:q?)(C:c!)(f:j!->Option Int)(U:List j!):Sp:=λvs H Q q=>∃p dx v O xs OM,vs=[.ref p,v]/\H p=a! (.ins C dx [])/\p∈O/\(∀a,a∈O->∃o,H a=a! o)/\Rp O H (.list xs) v/\gw xs=a! OM/\OM.length<=1000 /\
 ∀H' b k ca,(∀a o,a≠p->H a=a! o->H' a=a! o)->H' p=a! (.ins C dx [("by_least",.ref b),("known",.ref k)])->b∉O->H' b=a! (dO Pr w b ca)->Dp O H' (mj OM) ca->k∉O->H' k=a! (mO Pr w k f U)->Q .non H'
def Ce(Pr:g?)(w:q?)(xs:List DV):M DV:=match xs with
 |[.d (.list ps)]=>bd (op (gw ps)) λOM=>if OM.length<=1000 then rt (.fz (.dl Pr w (mj OM)))else b!
 |_=>b!
def Mt(Pr:g?)(w:q?)(C:c!)(f:j!->Option Int)(U:List j!)(xs:List DV):M DV:=match xs with
 |[x]=>match yo x with
  |some (.list ps)=>bd (op (gw ps)) λOM=>if OM.length<=1000 then rt (.fz (.tb Pr w C (mj OM) f U))else b!
  |_=>b!
 |_=>b!
structure HsT(P:g?)(w:q?)(K:Oe)(mg:w?->Option b?)(base:F!)(x:w?)(C:c!)(k:Nat)(f:j!->Option Int)(U:List j!):Prop where
 ex:∃g fd ps,Mk K C g/\FnOk P w K mg base ug k g fd ps (Ng P w C f U)/\gy K fd ps []/\mg x=a! (.ref C)
section
variable{X:Cx}{E:XK}{e:E!}{es:List E!}{ce p:YU}{fr:DS->M (List DV)}
set_option tactic.hygienic true in
def Jl{x:w?}{C:c!}{k:Nat}{f:j!->Option Int}{U:List j!}(h:HsT X.prog X.w X.K X.mg X.base x C k f U)(hr:Room (k+1) X.A)(ha:wq X E (e::es) fr)(hg:Gl X x:=by rfl)(Pt:(x==("__debug__" : w?))=e!:=by decide)(he:n! (e::es) X.env=(e!,I! e X.env)::n! es X.env:=by rfl)(OR:(W2 ce (n! es X.env)).any (·.1)=e!:=by rfl):PX X E (.Call (.Name x p) (e::es) [] ce) (aN (Mt X.prog X.w C f U) fr):=by
 obtain⟨g,fd,ps,hM,hF,hb,hm⟩:=h.ex;refine PE.mono (Ax (E:=E0) hM hF hr hg hm hb .nil (λ_ _ _ _ _ _ _ h=>h.elim) ha Pt he OR) λσ H Q q=>lQ (g:=λ_=>Mt X.prog X.w C f U) q λO P δ xs r vs H1 rs OK s1 rx e q=>?_;unfold Mt at e;split at e
 ·rename_i y;split at e
  ·rename_i ps hy;obtain⟨OM,e1,e2⟩:=bz e;split at e2
   ·rename_i hl;cases e2;cases rx with
    |@cons _ v _ _ r1 rr=>
     cases rr;have rd:=r1.data rs.dom hy;intro x dx nx U6 ne;have s2:aE H1 (upd (upd H1 dx (.own x)) x (.ins C dx [])):=λb o q=>by rwa[aF (bM q nx),aF (bM q U6)]
     have k2:Kp (P++O) H1 (x::dx::(P++O)) (upd (upd H1 dx (.own x)) x (.ins C dx [])):=⟨λa o _ e=>s2 a o e,λa ha=>by
      obtain z|ha:=Of.mp ha
      ·exact .inr (z▸nx)
      ·obtain z|z:=Of.mp ha
       ·exact .inr (z▸U6)
       ·exact .inl z⟩
     refine⟨x,dx,v,x::dx::(P++O),ps,OM,rfl,aQ,N2,λa ha=>?_,rd.kp k2,e1,hl,λH' b k ca hk hp hb eb Vu hkO ek=>⟨rfl,q _ H' (λa o e=>?_) ?_⟩⟩
     ·obtain z|ha:=Of.mp ha
      ·exact⟨_,by rw[z];exact aQ⟩
      ·obtain z|z:=Of.mp ha
       ·exact⟨_,by rw[z,aF ne,aQ]⟩
       ·obtain⟨o,e⟩:=OK.dom a z;exact⟨o,s2 a o e⟩
     ·exact hk a o (bM e nx) (s2 a o e)
     ·have sub:∀a,a∈P++O->a∈x::dx::(P++O):=λa ha=>N1 _ (N1 _ ha);refine⟨x,dx,rfl,λz=>?_,b,k,ca,hp,λz=>hb (sub _ z),eb,Vu.kp (.sub sub),λz=>hkO (sub _ z),ek⟩;obtain⟨o,e⟩:=OK.dom x z;rw[nx]at e;cases e
   ·cases e2
  ·cases e
 ·cases e
end
def AU{X:Cx}{C:c!}{f:j!->Option Int}{U:List j!}{fv:DS->M DV}{vs:List V}{H:Hp}{Q:VK}(c:Cls X.K C)(n1:d9 X.K C "by_least")(n2:d9 X.K C "known")(Qc:Ng X.prog X.w C f U vs H Q E0)(ev:∀xs OM,gw xs=a! OM->OM.length<=1000->fv [b!,a! (.d (.list xs))]=rt (.fz (.dl X.prog X.w (mj OM)))):
  Ls (JU X.K (hV 0) (tE E0 fv) "by_least") (JU X.K (hV 0) (λσ H Q=>∀p,H p=b!->Q (.ref p) (upd H p (mO X.prog X.w p f U))) "known") {nx:=λu H'=>Q .non H',rt:=Q} (vs.map a!) H:=by
 obtain⟨p,dx,v,O,xs,OM,rfl,hp,hpO,dom,rd,ep,hl,q⟩:=Qc;have rs:RS O [] H [a! (.ref p),a! v] [b!,a! (.d (.list xs))]:=by
  refine⟨rfl,dom,λa ha=>(nomatch ha),λi x h=>?_,λi j x y v w a h1 h2 h3 h4 o1 o2=>?_⟩
  ·match i with
   |0=>cases h
   |1=>cases h;exact⟨_,rfl,λu=>nofun,rd⟩
   |i+2=>simp at h
  ·match i with
   |0=>cases h1
   |1=>cases h1;exact o1.elim
   |i+2=>simp at h1
 refine⟨O,[],_,_,rs,ev xs OM ep hl,λu H1 s1 ru=>?_⟩;obtain⟨b,_,rfl,hb,ca,eb,Vu⟩:=ru;have Pc:b∉O:=hb;have WK:Dp O H1 (mj OM) ca:=Vu;refine⟨.ref p,rfl,p,C,dx,[],rfl,s1 _ _ hp,c,n1,0x3,λk hk=>?_⟩;have Wl:k≠p:=λz=>by rw[z,aQ]at hk;cases hk
 have Q9:H1 k=b!:=by rwa[aF Wl]at hk
 refine⟨.ref p,rfl,p,C,dx,_,rfl,by rw[aF (XR Wl),aQ],c,n2,by show 1<1000;decide,?_⟩;have hkb:b≠k:=λz=>by rw[z,Q9]at eb;cases eb
 have hpb:b≠p:=λz=>by have:=s1 _ _ hp;rw[z,this]at eb;cases eb
 have kk:∀a o,a≠p->H1 a=a! o->upd (upd (upd H1 p (.ins C dx (gD "by_least" (.ref b) []))) k (mO X.prog X.w k f U)) p (.ins C dx (gD "known" (.ref k) (gD "by_least" (.ref b) []))) a=a! o:=λa o ha e=>by rwa[aF ha,aF (bM e Q9),aF ha]
 refine q _ b k ca (λa o ha e=>kk a o ha (s1 _ _ e)) (by rw[aQ,Iv 0x3]) Pc (kk b _ hpb eb) (WK.kp ⟨λa o ha e=>kk a o (λz=>ha (by rwa[z])) e,λa ha=>.inl ha⟩) (λz=>?_) (by rw[aF Wl,aQ]);obtain⟨o,e⟩:=dom k z;rw[s1 _ _ e]at Q9;cases Q9
end L3
namespace LW
open PySem PySem.Spec L2 L3
def mT(C:c!)(Oa:c!):DS->M Out:=(gJ (hJ (λδ=>bd ((aN (aw 3 (iF C)) (aa (af 0) (aa (af 1) (aa (af 2) ai)))) δ) bQ)) (λo=>a! (.error (.ref Oa))) ck)
def dn(C:c!)(Oa:c!):List DV->M DV:=eS ["house","hand","jokers"] (mT C Oa)
def Am:DS->M Out:=(bA (aN wc (aa (aW 1 [] (iO (af 0)) (au 0) bW (e2 bK (af 0) (eC (.int 0)))) ai)))
def il:List DV->M DV:=eS ["tiles"] (Am)
def sN:DS->M Out:=(bD (aK 3 (aN Eo (aa (af 0) ai))) (bD (cT (iO (af 2)) (au 4) (gJ (λδ=>bd (e2 (Dz e!) (af 4) (af 3) δ) bQ) (Be 3 (af 4)) ck)) (bD (aK 5 (e2 gSub (aN cB (aa (af 0) ai)) (aN cB (aa (af 3) ai)))) (bA (B5 (aa (af 3) (aa (e2 gSub (af 1) (e2 gSub (aN cB (aa (af 2) ai)) (af 5))) ai)))))))
def bN:List DV->M DV:=eS ["tiles","jokers","wanted","rest","tile","from_hand"] (sN)
def iq(C:c!)(Oc:c!):DS->M Out:=(bD (aK 2 (bX ai)) (bD (cT (iO (af 1)) (au 3) (o8 2 (aN (dD 2 (bH C Oc)) (aa (af 0) (aa (af 3) ai))))) (bD (gJ (hJ (λδ=>bd ((aN (aw 1 (bB)) (aa (af 1) ai)) δ) bQ)) (λo=>a! (.error (.ref Oc))) ck) (bA (af 2)))))
def cQ(C:c!)(Oc:c!):List DV->M DV:=eS ["house","laying","wanted","meld"] (iq C Oc)
def EH(C:c!)(Oa:c!)(Oc:c!):DS->M Out:=(bD (oK (aN (dD 3 (dn C Oa)) (aa (af 0) (aa (af 1) (aa (af 2) ai))))) (bD (aK 4 (aN (aw 3 (bN)) (aa (af 1) (aa (af 2) (aa (aN (dD 2 (cQ C Oc)) (aa (af 0) (aa (af 3) ai))) ai))))) (bD (gJ (λδ=>(λδ=>bd (e2 g8 (e2 bK (af 4) (eC (.int 1))) (eC (.int 0)) δ) bQ) (frz 4 δ)) (λo=>a! (.error (.ref Oc))) ck) (bA (af 4)))))
def mn(C:c!)(Oa:c!)(Oc:c!):List DV->M DV:=eS ["house","hand","jokers","laying","after"] (EH C Oa Oc)
def iT(C:c!)(Oc:c!):DS->M Out:=(bD (aK 3 (aW 1 [0] (iO (aN (aw 1 (mQ C)) (aa (af 0) ai))) (au 0) bW (br (aa (af 0) (aa (aN (dD 2 (bH C Oc)) (aa (af 1) (aa (af 0) ai))) ai))))) (λδ=>(bA (aW 1 [1,2] (iO (af 3)) (au 0) (λδ=>bd (e2 Fi (e2 bK (rA (aN (aw 3 (bN)) (aa (af 1) (aa (af 2) (aa (e2 bK (af 0) (eC (.int 1))) ai))))) (eC (.int 1))) (eC (.int 0)) δ) bQ) (af 0))) (frz 3 δ)))
def cZ(C:c!)(Oc:c!):List DV->M DV:=eS ["house","hand","jokers","pairs"] (iT C Oc)
def Cd(P:g?)(w:q?)(CT:c!):DS->M Out:=(bD (aK 3 (aW 1 [1,2] (iO (Gf P w CT (af 0) (e2 bK (af 1) (eC (.int 0))) (bX ai))) (au 0) bW (aN (aw 3 (bN)) (aa (af 1) (aa (af 2) (aa (af 0) ai)))))) (λδ=>(bA (aW 1 [] (iO (af 3)) (au 0) (λδ=>bd (e2 Fi (e2 bK (af 0) (eC (.int 1))) (eC (.int 0)) δ) bQ) (af 0))) (frz 3 δ)))
def qV(P:g?)(w:q?)(CT:c!):List DV->M DV:=eS ["self","tiles","jokers","after"] (Cd P w CT)
def ji(P:g?)(w:q?)(CT:c!)(m_search_least:List DV->M DV):DS->M Out:=(bD (gJ (hJ (λδ=>bd ((af 1) δ) IW)) (bA (eC (.int 0))) ck) (bD (aK 3 (br (aa (aN m5 (aa (af 1) ai)) (aa (af 2) ai)))) (zi P w CT 0 3 (gz P w CT 3 m_search_least (af 0) (aa (af 1) (aa (af 2) ai))))))
def dh(P:g?)(w:q?)(CT:c!)(m_search_least:List DV->M DV):List DV->M DV:=eS ["self","tiles","jokers","key"] (ji P w CT m_search_least)
def jQ(P:g?)(w:q?)(CT:c!)(j6:List DV->M DV)(B':List DV->M DV):DS->M Out:=(bD (aK 3 (bX (aa (e2 ax (e2 bK (e2 bK (af 1) (eC (.int 0))) (eC (.int 0))) (gz P w CT 3 B' (af 0) (aa (Ir (af 1) (eC (.int 1))) (aa (af 2) ai)))) ai))) (bD (cT (iO (gz P w CT 3 j6 (af 0) (aa (af 1) (aa (af 2) ai)))) (og 2 (dF (au 4) (dF (au 5) pA))) (lD 3 (gz P w CT 3 B' (af 0) (aa (af 4) (aa (af 5) ai))))) (bA (aN zV (aa (af 3) ai)))))
def eZ(P:g?)(w:q?)(CT:c!)(j6:List DV->M DV)(B':List DV->M DV):List DV->M DV:=eS ["self","tiles","jokers","sums","rest","unused"] (jQ P w CT j6 B')
def kh(P:g?)(w:q?)(CT:c!)(B':List DV->M DV):DS->M Out:=(bD (aK 4 (gz P w CT 3 B' (af 0) (aa (af 2) (aa (af 3) ai)))) (bD (aK 5 (bX ai)) (bD (aK 6 (af 2)) (bD (aK 7 (af 3)) (bD (cT (iO (af 1)) (og 2 (dF (au 8) (dF (au 9) pA))) (bD (aK 10 (rA (aN (aw 3 (bN)) (aa (af 6) (aa (af 7) (aa (af 9) ai)))))) (BS (j4 (λδ=>bd (e2 Fi (e2 bK (af 10) (eC (.int 1))) (eC (.int 0)) δ) bQ) (λδ=>bd (e2 (jD e!) (gz P w CT 3 B' (af 0) (aa (e2 bK (af 10) (eC (.int 0))) (aa (e2 bK (af 10) (eC (.int 1))) ai))) (af 4) δ) bQ)) (bD (lD 5 (af 8)) (bD (aK 6 (e2 bK (af 10) (eC (.int 0)))) (bD (aK 7 (e2 bK (af 10) (eC (.int 1)))) (aK 10 (rA (aN (aw 3 (bN)) (aa (af 6) (aa (af 7) (aa (af 9) ai))))))))) 100))) (bA (af 5)))))))
def dW(P:g?)(w:q?)(CT:c!)(B':List DV->M DV):List DV->M DV:=eS ["table","playable","hand","jokers","goal","laying","rest","unused","meld","wanted","after"] (kh P w CT B')
def ub(P:g?)(w:q?)(C:c!)(CT:c!)(Oa:c!)(Oc:c!)(fM:j!->Option Int)(UM:List j!)(B':List DV->M DV):DS->M Out:=(bD (oK (aN (dD 3 (dn C Oa)) (aa (af 0) (aa (af 1) (aa (af 2) ai))))) (bD (aK 3 (aN (dD 3 (cZ C Oc)) (aa (af 0) (aa (af 1) (aa (af 2) ai))))) (λδ=>(bD (aK 4 (aN (Mt P w CT fM UM) (aa (af 3) ai))) (bD (aK 5 (e2 gSub (aN (aw 1 (il)) (aa (af 1) ai)) (gz P w CT 3 B' (af 4) (aa (af 1) (aa (af 2) ai))))) (λδ=>(bA (EX (aa (af 5) (aa (aN (aw 4 (dW P w CT B')) (aa (af 4) (aa (af 3) (aa (af 1) (aa (af 2) ai))))) ai)))) (frz 3 δ)))) (frz 3 δ))))
def uo(P:g?)(w:q?)(C:c!)(CT:c!)(Oa:c!)(Oc:c!)(fM:j!->Option Int)(UM:List j!)(B':List DV->M DV):List DV->M DV:=eS ["house","hand","jokers","playable","table","greatest"] (ub P w C CT Oa Oc fM UM B')
def uD(ps:List Tl)(hl:ps.length<=1000):il [.d (.list (ps.map pr))]=rt (.d (.int ((ps.map (·.1)).sum))):=by
 unfold il Am;refine dE (x:=.d (.int ((ps.map (·.1)).sum))) (bC ?_);refine(cg (a9 (bp (xs:=ps.map pr) (fq rfl) (by rw[e?];lia) (dg (g:=λp=>r? p.1) λp o=>?_)))).trans ?_
 ·exact(av (x:=.d (pr p)) (y:=.d (.int 0)) rfl rfl).trans (aL rfl)
 ·unfold wc;simp only[jJ,aP,aD];rw[show(ps.map λp=>r? p.1)=(ps.map (·.1)).map r? by rw[A!];rfl,om];rfl
def Dy(r:List Tl)(p:Tl):((r.map pr).any λz=>i? z (pr p))=g! (p∈r):=by
 induction r with
 |nil=>rfl
 |cons q r ih=>
  rw[f?,List.any_cons,ih,ot];by_cases h:q=p
  ·subst h;simp
  ·have:p≠q:=λe=>h e.symm;simp[h,this]
def Gi(r:List Tl)(p:Tl):Dz e! (.d (pr p)) (.own (r.map pr))=rt (.d (.bool (g! (p∈r)))):=by unfold Dz;show(if(pr p).depth<=60 then _ else b!)=_;rw[é (show(pr p).depth<=60 from(by decide:1<=60))];show rt (DV.d (.bool ((r.map pr).any λz=>i? z (pr p))))=_;rw[Dy]
theorem zO(p:Tl):∀r:List Tl,(r.map pr).findIdx? (λz=>i? z (pr p))=r.findIdx? (·==p)
 |[]=>rfl
 |q::r=>by
  rw[f?,Å,Å,zO p r,ot];by_cases h:q=p
  ·subst h;simp
  ·have:(q==p)=e!:=by simpa using h
   rw[this,Oy h]
theorem nA{α β:Type}(f:α->β):∀(l:List α)(b:Nat),(l.map f).eraseIdx b=(l.eraseIdx b).map f
 |[],_=>rfl
 |_::_,0=>rfl
 |x::l,b+1=>by show f x::(l.map f).eraseIdx b=f x::(l.eraseIdx b).map f;rw[nA f l b]
theorem wz{p:Tl}:∀{r:List Tl},p∈r->∃j,r.findIdx? (·==p)=a! j/\r.eraseIdx j=r.erase p
 |q::r,h=>by
  rw[Å,List.erase_cons];by_cases hq:q=p
  ·subst hq;exact⟨0,0x4,0x4⟩
  ·have hb:(q==p)=e!:=by simpa using hq
   obtain⟨j,e1,e2⟩:=wz ((Of.mp h).resolve_left λe=>hq e.symm);refine⟨j+1,by rw[hb,e1];rfl,?_⟩;rw[hb];show q::r.eraseIdx j=_;rw[e2];rfl
def oδ(am:List Tl)(j:Int)(be r:List Tl)(x4 x5:Option DV):DS:=[a! (.d (.list (am.map pr))),a! (.d (.int j)),a! (.d (.list (be.map pr))),a! (.own (r.map pr)),x4,x5]
def oB:DS->M Out:=(gJ (λδ=>bd (e2 (Dz e!) (af 4) (af 3) δ) bQ) (Be 3 (af 4)) ck)
def CS(am:List Tl)(j:Int)(be:List Tl)(hl:be.length<=1000):∃x4,dG (au 4) oB (be.map pr) (oδ am j be am b! b!)=rt (.nx (oδ am j be (aq am be) x4 b!)):=by
 obtain⟨δ',e,x4,h⟩:=gR (f:=pr) (i:=4) (N:=1000) (B:=oB) (all:=be) (λpre δ=>∃x4,δ=oδ am j be (aq am pre) x4 b!) (λpre p δ hp PD hI=>by
  obtain⟨x4,rfl⟩:=hI;have VI:aq am (pre++[p])=(aq am pre).erase p:=by unfold aq;rw[Ŧ];rfl
  refine⟨oδ am j be (aq am (pre++[p])) (a! (.d (pr p))) b!,?_,_,rfl⟩;have ht:(λδ=>bd (e2 (Dz e!) (af 4) (af 3) δ) bQ) (oδ am j be (aq am pre) (a! (.d (pr p))) b!)=rt (g! (p∈aq am pre)):=bj ((av (x:=.d (pr p)) (y:=.own ((aq am pre).map pr)) rfl rfl).trans (Gi _ _));unfold oB;by_cases Po:p∈aq am pre
  ·rw[Oz Po]at ht;refine Mv ht ?_;obtain⟨i,e1,e2⟩:=wz Po;show Be 3 (af 4) (oδ am j be (aq am pre) (a! (.d (pr p))) b!)=_;unfold Be;show bd (rt (DV.d (pr p))) _=_;rw[aD];show bd (rt (pr p)) _=_;rw[aD,é (show(pr p).depth<=60 from(by decide:1<=60)),zO,e1];show rt (Out.nx _)=_;rw[nA,e2,<-VI];rfl
  ·rw[Oy Po]at ht;refine G9 ht ?_;rw[VI,Ĥ Po];rfl) be [] _ (λa ha=>ha) (by simpa using hl) ⟨b!,rfl⟩
 rw[YF]at h;subst h;exact⟨x4,e⟩
def kH(am:List Tl)(j:Int)(be:List Tl)(hl:be.length<=1000):bN [.d (.list (am.map pr)),.d (.int j),.d (.list (be.map pr))]=rt (.nwt [] ((aq am be).map pr) [.int (j-((be.length:Int)-((am.length:Int)-((aq am be).length:Int))))]):=by
 obtain⟨x4,e⟩:=CS am j be hl;unfold bN;refine dE (x:=.tpo [] ((aq am be).map pr) [.int (j-((be.length:Int)-((am.length:Int)-((aq am be).length:Int))))]) ?_;unfold sN;refine f9 (δ':=oδ am j be am b! b!) (eT (x:=.new (am.map pr)) ((cg (a9 (x:=.d (.list (am.map pr))) rfl)).trans rfl) rfl rfl) ?_;refine f9 (δ':=oδ am j be (aq am be) x4 b!) (jK (xs:=be.map pr) (fq rfl) e) ?_;refine f9 (δ':=oδ am j be (aq am be) x4 (a! (.d (.int ((am.length:Int)-((aq am be).length:Int)))))) (eT (x:=.d (.int ((am.length:Int)-((aq am be).length:Int)))) ?_ rfl rfl) ?_
 ·exact(av (x:=.d (.int (am.length:Int))) (y:=.d (.int ((aq am be).length:Int))) ((cg (a9 (x:=.d (.list (am.map pr))) rfl)).trans (iD am)) ((cg (a9 (x:=.own ((aq am be).map pr)) rfl)).trans (qL _))).trans (cz _ _)
 ·refine bC ?_;unfold B5;rw[bS (x:=.own ((aq am be).map pr)) (y:=.d (.int (j-((be.length:Int)-((am.length:Int)-((aq am be).length:Int)))))) rfl ((av (x:=.d (.int j)) (y:=.d (.int ((be.length:Int)-((am.length:Int)-((aq am be).length:Int))))) rfl ((av (x:=.d (.int (be.length:Int))) (y:=.d (.int ((am.length:Int)-((aq am be).length:Int)))) ((cg (a9 (x:=.d (.list (be.map pr))) rfl)).trans (iD be)) rfl).trans (cz _ _))).trans (cz _ _)),aD];rfl
variable{j:Int}
def vE(C E:c!){m c:Int}{ps:List Tl}(hl:ps.length<=1000)(hn:nZ m c ps j=d!):dn C E [hs C m c,.d (.list (ps.map pr)),.d (.int j)]=rt (.d .none):=by have h:=Jc C m c j ps hl;rw[hn]at h;unfold dn mT eS;rw[G9 (u5 (bj (aY (gY (x:=hs C m c) (y:=.d (.list (ps.map pr))) (z:=.d (.int j)) rfl rfl rfl) rfl rfl h)) rfl) rfl];rfl
theorem rj{α:Type}{f:α->D}{fe:DS->M DV}{δ:DS}{g:α->D}:∀{as:List α},(∀a∈as,∃y,fe (δ.set 0 (a! (.d (f a))))=rt y/\yo y=a! (g a))->cF (au 0) bW fe δ (as.map f)=a! (as.map g)
 |[],_=>rfl
 |a::r,h=>by obtain⟨y,h1,h2⟩:=h a N2;have ih:=rj (f:=f) (g:=g) (fe:=fe) (δ:=δ) (as:=r) λb hb=>h b (N1 _ hb);rw[f?,f?,cF];simp only[au,bW,rt]at h1 ⊢;simp only[h1,h2,ih]
variable{P:g?}{w:q?}{CT:c!}{n:Nat}{l:By}{f:j!->Option Int}{U:List j!}{x:DV}
def jh{fm:List DV->M DV}{fo:DS->M DV}{fr:DS->M (List DV)}{δ:DS}{ys zs:List DV}(h1:fo δ=rt (.fz (.tb P w CT l f U)))(h2:fr δ=rt ys)(h3:args ys=a! zs)(h4:zs.length+1=n)(h5:fm (.fz (.tb P w CT l f U)::zs)=rt x):gz P w CT n fm fo fr δ=rt x:=by unfold gz;rw[h1,aD,nt,aP,aD,h2,aD];unfold aw;rw[gM,h3];show bd (rt (DV.fz (.tb P w CT l f U)::zs)) _=_;rw[aD,é (by rwa[i!]),h5];rfl
variable{t:Tl}
def IY{fo fe ff:DS->M DV}{δ:DS}(h1:fo δ=rt (.fz (.tb P w CT l f U)))(h2:fe δ=rt (.d (pr t)))(h3:ff δ=rt (.new [])):Gf P w CT fo fe ff δ=rt (.d (.list ((c9 l t).map wD))):=by unfold Gf;rw[h1,aD,nt,aP,aD,h2,aD];show bd (rt t) _=_;rw[aD,h3];rfl
def d0(q:List Tl×Int):D:=.tuple [.list (q.1.map pr),.int q.2]
def Mr{α:Type}(x:α)(r:List α):atI (x::r) 0=a! x:=by unfold atI HE;simp
structure Good(l:By):Prop where
 mem:∀t w,w∈c9 l t->t∈w
 len:∀t w,w∈c9 l t->w.length<=1000
 few:∀t,(c9 l t).length<=800000
section
variable{P:g?}{w:q?}{CT:c!}{l:By}{f:j!->Option Int}{U:List j!}
def j6(g:Good l)(t:Tl)(r:List Tl)(j:Int):qV P w CT [.fz (.tb P w CT l f U),.d (.list ((t::r).map pr)),.d (.int j)]=rt (.new ((gj l (t::r) j).map d0)):=by
 unfold qV;refine dE (x:=.new ((gj l (t::r) j).map d0)) ?_;unfold Cd;refine f9 (δ':=[a! (.fz (.tb P w CT l f U)),a! (.d (.list ((t::r).map pr))),a! (.d (.int j)),a! (.own ((c9 l t).map λw=>d0 (aq (t::r) w,jl (t::r) j w)))]) (eT (x:=.new ((c9 l t).map λw=>d0 (aq (t::r) w,jl (t::r) j w))) ?_ rfl rfl) ?_
 ·refine bp (xs:=(c9 l t).map wD) (fq (IY (l:=l) (f:=f) (U:=U) (t:=t) rfl ((av (x:=.d (.list ((t::r).map pr))) (y:=.d (.int 0)) rfl rfl).trans (lq (Mr _ _))) rfl)) (by rw[e?];exact Ow (g.few t) 0x3) ?_;refine rj λw' hw=>⟨_,aY (n:=3) (x:=.nwt [] ((aq (t::r) w').map pr) [.int (jl (t::r) j w')]) (gY (x:=.d (.list ((t::r).map pr))) (y:=.d (.int j)) (z:=.d (.list (w'.map pr))) rfl rfl rfl) rfl rfl (kH (t::r) j w' (g.len t w' hw)),rfl⟩
 ·show bA _ [a! (.fz (.tb P w CT l f U)),a! (.d (.list ((t::r).map pr))),a! (.d (.int j)),a! (.d (.list ((c9 l t).map λw=>d0 (aq (t::r) w,jl (t::r) j w))))]=_;refine bC (bp (xs:=((c9 l t).map λw=>(aq (t::r) w,jl (t::r) j w)).map d0) (fq (by show rt _=rt _;rw[A!];rfl)) (by rw[e?,e?];exact Ow (g.few t) 0x3) ?_);refine(fL (f:=d0) (b:=λq=>g! (0<=q.2)) (g:=d0) λq o=>⟨bj ((av (x:=.d (.int q.2)) (y:=.d (.int 0)) ((av (x:=.d (d0 q)) (y:=.d (.int 1)) rfl rfl).trans (aL rfl)) rfl).trans (jo _ _)),rfl⟩).trans ?_;rfl
end
theorem tT{l:By}(g:Good l):∀(n m:Nat)(h:List Tl)(j:Int),h.length<=n->h.length<=m->LL l n h j=LL l m h j
 |n,m,[],j,_,_=>by cases n <;>cases m <;>rfl
 |0,_,t::r,j,h,_=>by simp at h
 |_+1,0,t::r,j,_,h=>by simp at h
 |n+1,m+1,t::r,j,h1,h2=>by rw[i!]at h1 h2;show zg ((t.1+LL l n r j)::(gj l (t::r) j).map λq=>LL l n q.1 q.2)=zg ((t.1+LL l m r j)::(gj l (t::r) j).map λq=>LL l m q.1 q.2);rw[tT g n m r j 0x1 0x1];congr 2;refine J? λq hq=>?_;obtain⟨w,hw,rfl,_⟩:=pT hq;have:=iL (r:=r) (g.mem t w hw);exact tT g n m _ _ (by show(aq (t::r) w).length<=n;lia) (by show(aq (t::r) w).length<=m;lia)
def dA(l:By)(h:List Tl)(j:Int):Int:=LL l h.length h j
def G6(l:By)(j:Int):dA l [] j=0:=rfl
def EN(g:Good l)(t:Tl)(r:List Tl)(j:Int):dA l (t::r) j=zg ((t.1+dA l r j)::(gj l (t::r) j).map λq=>dA l q.1 q.2):=by show zg ((t.1+LL l r.length r j)::(gj l (t::r) j).map λq=>LL l r.length q.1 q.2)=_;congr 2;refine J? λq hq=>?_;obtain⟨w,hw,rfl,_⟩:=pT hq;exact tT g _ _ _ _ (iL (g.mem t w hw)) (N6 _)
def kD(h:List Tl)(j:Int):D:=.tuple [.tuple (h.map pr),.int j]
def fK(l:By)(k:D):Option Int:=match k with
 |.tuple [.tuple ts,.int j]=>(cW ts).map λh=>dA l h j
 |_=>b!
def Lo(l:By)(h:List Tl)(j:Int):fK l (kD h j)=a! (dA l h j):=by show(cW (h.map pr)).map _=_;rw[show cW (h.map pr)=a! h from fW h];rfl
theorem Kq(h:List Tl)(j:Int):cJ (kD h j)=d!/\(kD h j).depth<=6:=by
 have k1:∀h:List Tl,fJ (h.map pr)=d!:=λh=>by
  induction h with
  |nil=>rfl
  |cons t r ih=>rw[f?,fJ,ih];rfl
 have k2:∀h:List Tl,l? (h.map pr)<=1:=λh=>by
  induction h with
  |nil=>decide
  |cons t r ih=>
   rw[f?,l?];have:(pr t).depth=1:=rfl;lia
 have:=k2 h;refine⟨?_,?_⟩
 ·show(fJ (h.map pr)&&d!)=d!;rw[k1];rfl
 ·show max (l? (h.map pr)+1) (max 0 0)+1<=6;lia
structure Cnd(l:By)(f:j!->Option Int)(U:List j!)(h:List Tl)(j:Int):Prop where
 good:Good l
 fn:f=fK l
 few:U.length<=1000000
 mem:∀h',h'.Sublist h->∀j',0<=j'->j'<=j->kD h' j'∈U
 j0:0<=j
variable{h:List Tl}
def Cnd.sub{h':List Tl}{j':Int}(c:Cnd l f U h j)(hs:h'.Sublist h)(h0:0<=j')(hj:j'<=j):Cnd l f U h' j':=⟨c.good,c.fn,c.few,λa ha b b0 hb=>c.mem a (ha.trans hs) b b0 (OF hb hj),h0⟩
open Classical in
def mR(P:g?)(w:q?)(CT:c!)(n:Nat)(xs:List DV):M DV:=match xs with
 |[x,.d (.list ts),.d (.int j)]=>bd (op (oJ P w CT x)) λq=>bd (op (cW ts)) λh=>if Cnd q.1 q.2.1 q.2.2 h j/\h.length<=n then rt (.d (.int (dA q.1 h j)))else b!
 |_=>b!
open Classical in
def ER(P:g?)(w:q?)(CT:c!)(n:Nat)(xs:List DV):M DV:=match xs with
 |[x,.d (.list ts),.d (.int j)]=>bd (op (oJ P w CT x)) λq=>bd (op (cW ts)) λh=>if Cnd q.1 q.2.1 q.2.2 h j/\h.length<=n+1/\h≠[]then rt (.d (.int (dA q.1 h j)))else b!
 |_=>b!
section
variable{P:g?}{w:q?}{CT:c!}{l:By}{f:j!->Option Int}{U:List j!}
def DZ(c:Cnd l f U h j)(hn:h.length<=n):mR P w CT n [.fz (.tb P w CT l f U),.d (.list (h.map pr)),.d (.int j)]=rt (.d (.int (dA l h j))):=by show bd (op (oJ P w CT _)) _=_;rw[nt,aP,aD];show bd (op (cW (h.map pr))) _=_;rw[show cW (h.map pr)=a! h from fW h,aP,aD];exact é ⟨c,hn⟩
variable{xs:List DV}
set_option tactic.hygienic true in
def Ik(e:mR P w CT n xs=a! (.ok x)):∃l f U h j,xs=[.fz (.tb P w CT l f U),.d (.list (h.map pr)),.d (.int j)]/\Cnd l f U h j/\h.length<=n/\x=.d (.int (dA l h j)):=by
 unfold mR at e;split at e
 ·rename_i y ts j;obtain⟨⟨l,f,U⟩,e0,e1⟩:=bz e;have hy:=iS e0;subst hy;obtain⟨h,e2,e3⟩:=bz e1;have ht:=kN e2;subst ht;split at e3
  ·rename_i c;cases e3;exact⟨l,f,U,h,j,rfl,c.1,c.2,rfl⟩
  ·cases e3
 ·cases e
variable{r:List Tl}
def KQ(c:Cnd l f U (t::r) j)(hn:(t::r).length<=n+1):ER P w CT n [.fz (.tb P w CT l f U),.d (.list ((t::r).map pr)),.d (.int j)]=rt (.d (.int (dA l (t::r) j))):=by show bd (op (oJ P w CT _)) _=_;rw[nt,aP,aD];show bd (op (cW ((t::r).map pr))) _=_;rw[show cW ((t::r).map pr)=a! (t::r)from fW _,aP,aD];exact é ⟨c,hn,0x4⟩
set_option tactic.hygienic true in
def LA(e:ER P w CT n xs=a! (.ok x)):∃l f U t r j,xs=[.fz (.tb P w CT l f U),.d (.list ((t::r).map pr)),.d (.int j)]/\Cnd l f U (t::r) j/\(t::r).length<=n+1/\x=.d (.int (dA l (t::r) j)):=by
 unfold ER at e;split at e
 ·rename_i y ts j;obtain⟨⟨l,f,U⟩,e0,e1⟩:=bz e;have hy:=iS e0;subst hy;obtain⟨h,e2,e3⟩:=bz e1;have ht:=kN e2;subst ht;split at e3
  ·rename_i c;cases e3;cases h with
   |nil=>exact ê rfl c.2.2
   |cons t r=>exact⟨l,f,U,t,r,j,rfl,c.1,c.2.1,rfl⟩
  ·cases e3
 ·cases e
def oV{ms:List DV->M DV}(j:Int):dh P w CT ms [x,.d (.list []),.d (.int j)]=rt (.d (.int 0)):=by unfold dh;refine dE (x:=.d (.int 0)) ?_;unfold ji;rfl
def Ho(xs:List D):m5 [.d (.list xs)]=rt (.d (.tuple xs)):=rfl
def uv{ms:List DV->M DV}(c:Cnd l f U (t::r) j)(hs:ms [.fz (.tb P w CT l f U),.d (.list ((t::r).map pr)),.d (.int j)]=rt (.d (.int (dA l (t::r) j)))):dh P w CT ms [.fz (.tb P w CT l f U),.d (.list ((t::r).map pr)),.d (.int j)]=rt (.d (.int (dA l (t::r) j))):=by
 unfold dh;refine dE (x:=.d (.int (dA l (t::r) j))) ?_;unfold ji;refine f9 (δ':=[a! (.fz (.tb P w CT l f U)),a! (.d (.list ((t::r).map pr))),a! (.d (.int j)),b!]) rfl ?_;refine f9 (δ':=[a! (.fz (.tb P w CT l f U)),a! (.d (.list ((t::r).map pr))),a! (.d (.int j)),a! (.d (kD (t::r) j))]) (eT (x:=.d (kD (t::r) j)) ?_ rfl rfl) ?_
 ·unfold br;rw[bS (x:=.d (.tuple ((t::r).map pr))) (y:=.d (.int j)) ((cg (a9 (x:=.d (.list ((t::r).map pr))) rfl)).trans (Ho _)) rfl];rfl
 ·unfold zi;show bd (op (oJ P w CT (.fz (.tb P w CT l f U)))) _=_;rw[nt,aP,aD];show bd (op (f (kD (t::r) j))) _=_;rw[c.fn,Lo,aP,aD];have hk:=Kq (t::r) j;refine é ⟨hk.1,hk.2,c.mem _ (Y7 _) j c.j0 (X9 _),c.few,?_⟩;exact jh (l:=l) (f:=fK l) (U:=U) (ys:=[.d (.list ((t::r).map pr)),.d (.int j)]) rfl (bS rfl rfl) rfl rfl (by rw[<-c.fn];exact hs)
def sδ(P:g?)(w:q?)(CT:c!)(l:By)(f:j!->Option Int)(U:List j!)(h:List Tl)(j:Int)(ns:List Int)(x4 x5:Option DV):DS:=[a! (.fz (.tb P w CT l f U)),a! (.d (.list (h.map pr))),a! (.d (.int j)),a! (.own (ns.map r?)),x4,x5]
theorem vM{ml:List DV->M DV}{h:List Tl}{j:Int}(g:List Tl×Int->Int):∀(qs:List (List Tl×Int))(ns:List Int)(x4 x5:Option DV),(∀q∈qs,ml [.fz (.tb P w CT l f U),.d (.list (q.1.map pr)),.d (.int q.2)]=rt (.d (.int (g q))))->ns.length+qs.length<=900000 ->
  ∃y4 y5,dG (og 2 (dF (au 4) (dF (au 5) pA))) (lD 3 (gz P w CT 3 ml (af 0) (aa (af 4) (aa (af 5) ai)))) (qs.map d0) (sδ P w CT l f U h j ns x4 x5)=rt (.nx (sδ P w CT l f U h j (ns++qs.map g) y4 y5))
 |[],ns,x4,x5,_,_=>⟨x4,x5,by rw[Xi,Xi,C!];rfl⟩
 |q::qs,ns,x4,x5,hq,hl=>by
  rw[i!]at hl;obtain⟨y4,y5,ih⟩:=vM (h:=h) (j:=j) g qs (ns++[g q]) (a! (.d (.list (q.1.map pr)))) (a! (.d (.int q.2))) (λz hz=>hq z (N1 _ hz)) (by rw[l!,Yc];lia);refine⟨y4,y5,?_⟩;rw[f?,dG];have e0:og 2 (dF (au 4) (dF (au 5) pA)) (d0 q) (sδ P w CT l f U h j ns x4 x5)=a! (sδ P w CT l f U h j ns (a! (.d (.list (q.1.map pr)))) (a! (.d (.int q.2)))):=rfl;rw[e0,aP,aD];have e1:lD 3 (gz P w CT 3 ml (af 0) (aa (af 4) (aa (af 5) ai))) (sδ P w CT l f U h j ns (a! (.d (.list (q.1.map pr)))) (a! (.d (.int q.2))))=rt (.nx (sδ P w CT l f U h j (ns++[g q]) (a! (.d (.list (q.1.map pr)))) (a! (.d (.int q.2))))):=by unfold lD;show bd (gz P w CT 3 ml (af 0) (aa (af 4) (aa (af 5) ai)) (sδ P w CT l f U h j ns (a! (.d (.list (q.1.map pr)))) (a! (.d (.int q.2))))) _=_;have em:gz P w CT 3 ml (af 0) (aa (af 4) (aa (af 5) ai)) (sδ P w CT l f U h j ns (a! (.d (.list (q.1.map pr)))) (a! (.d (.int q.2))))=rt (.d (.int (g q))):=jh (l:=l) (f:=f) (U:=U) (ys:=[.d (.list (q.1.map pr)),.d (.int q.2)]) rfl (bS rfl rfl) rfl rfl (hq q N2);rw[em,aD];show bd (rt (r? (g q))) _=_;rw[aD,é (by rw[e?];lia)];unfold sδ;rw[y?];rfl
  rw[e1,aD,ma,ih,t?];rfl
def BX{ml:List DV->M DV}(c:Cnd l f U (t::r) j)(h1:ml [.fz (.tb P w CT l f U),.d (.list (r.map pr)),.d (.int j)]=rt (.d (.int (dA l r j))))(h2:∀q∈gj l (t::r) j,ml [.fz (.tb P w CT l f U),.d (.list (q.1.map pr)),.d (.int q.2)]=rt (.d (.int (dA l q.1 q.2))))(Pf:(gj l (t::r) j).length<=800000):eZ P w CT (qV P w CT) ml [.fz (.tb P w CT l f U),.d (.list ((t::r).map pr)),.d (.int j)]=rt (.d (.int (dA l (t::r) j))):=by
 obtain⟨y4,y5,e⟩:=vM (P:=P) (w:=w) (CT:=CT) (l:=l) (f:=f) (U:=U) (ml:=ml) (h:=t::r) (j:=j) (λq=>dA l q.1 q.2) (gj l (t::r) j) [t.1+dA l r j] b! b! h2 (by rw[Yc];lia);unfold eZ;refine dE (x:=.d (.int (dA l (t::r) j))) ?_;unfold jQ;refine f9 (δ':=sδ P w CT l f U (t::r) j [t.1+dA l r j] b! b!) (eT (x:=.new [.int (t.1+dA l r j)]) ?_ rfl rfl) ?_
 ·unfold bX;rw[a9 (x:=.d (.int (t.1+dA l r j))) ?_]
  ·rfl
  ·refine(av (x:=.d (.int t.1)) (y:=.d (.int (dA l r j))) ?_ ?_).trans (bh _ _)
   ·exact(av (x:=.d (pr t)) (y:=.d (.int 0)) ((av (x:=.d (.list ((t::r).map pr))) (y:=.d (.int 0)) rfl rfl).trans (lq (Mr _ _))) rfl).trans (aL rfl)
   ·refine jh (l:=l) (f:=f) (U:=U) (ys:=[.new (r.map pr),.d (.int j)]) rfl (bS ?_ rfl) rfl rfl h1;show rt (DV.new (wV ((t::r).map pr) (a! 1) b!))=_;have:wV ((t::r).map pr) (a! 1) b!=r.map pr:=by unfold wV HT.sIx;simp;exact W! 0x4
    rw[this]
 ·refine f9 (δ':=sδ P w CT l f U (t::r) j ([t.1+dA l r j]++(gj l (t::r) j).map λq=>dA l q.1 q.2) y4 y5) (jK (xs:=(gj l (t::r) j).map d0) (vn (jh (l:=l) (f:=f) (U:=U) (ys:=[.d (.list ((t::r).map pr)),.d (.int j)]) rfl (bS rfl rfl) rfl rfl (j6 c.good t r j))) e) ?_;refine bC ((cg (a9 rfl)).trans ?_);unfold zV;simp only[jJ,aP,aD];rw[om,aP,aD,é 0x4,EN c.good];rfl
def vU{q:List Tl×Int}(c:Cnd l f U (t::r) j)(h:q∈gj l (t::r) j):Cnd l f U q.1 q.2/\q.1.length<=r.length:=by obtain⟨w,hw,rfl,h0⟩:=pT h;exact⟨c.sub (bZ _ _) h0 (lM _ _ _),iL (c.good.mem t w hw)⟩
def B9(g:Good l)(t:Tl)(r:List Tl)(j:Int):(gj l (t::r) j).length<=800000:=Ow (YX _ _) (by rw[e?];exact g.few t)
def Gg(e:ER P w CT n xs=a! (.ok x)):eZ P w CT (qV P w CT) (mR P w CT n) xs=a! (.ok x):=by obtain⟨l,f,U,t,r,j,rfl,c,hl,rfl⟩:=LA e;rw[i!]at hl;exact BX c (DZ (c.sub (List.sublist_cons_self t r) c.j0 (X9 _)) 0x1) (λq hq=>DZ (vU c hq).1 (by have:=(vU c hq).2;lia)) (B9 c.good t r j)
def Fq(e:mR P w CT (n+1) xs=a! (.ok x)):dh P w CT (ER P w CT n) xs=a! (.ok x):=by
 obtain⟨l,f,U,h,j,rfl,c,hl,rfl⟩:=Ik e;cases h with
 |nil=>exact oV j
 |cons t r=>exact uv c (KQ c hl)
def FL(e:mR P w CT 0 xs=a! (.ok x)):dh P w CT (λo=>b!) xs=a! (.ok x):=by
 obtain⟨l,f,U,h,j,rfl,c,hl,rfl⟩:=Ik e;cases h with
 |nil=>exact oV j
 |cons t r=>simp at hl
end
def rQ(m c:Nat)(h:List Tl)(j:Int):List Ml:=(o7 m c).filter λy=>g! (0<=jl h j (tl y))
def me(y:Ml):D:=.tuple [md y,.list ((tl y).map pr)]
variable{m c:Nat}
def uI(hm:m<=13)(h4:c<=4):(o7 m c).length<=1000:=by
 have h1:(o7 m c).length=(cG m c).length:=by rw[<-lY,e?]
 have h2:=kg (pR c) m;have h3:=nW m c hm;unfold cG at h1;rw[l!]at h1;have:169*c<=169*4:=Nat.mul_le_mul_left _ h4;lia
def xQ(C E:c!)(hm:m<=13)(h1:1<=c)(h4:c<=4)(h:List Tl)(j:Int):cZ C E [hs C m c,.d (.list (h.map pr)),.d (.int j)]=rt (.new ((rQ m c h j).map me)):=by
 have hl:=uI hm h4;unfold cZ;refine dE (x:=.new ((rQ m c h j).map me)) ?_;unfold iT;refine f9 (δ':=[a! (hs C m c),a! (.d (.list (h.map pr))),a! (.d (.int j)),a! (.own ((o7 m c).map me))]) (eT (x:=.new ((o7 m c).map me)) ?_ rfl rfl) ?_
 ·refine bp (xs:=(o7 m c).map md) (vn (aY (n:=1) (x:=.new ((o7 m c).map md)) (a9 (x:=hs C m c) rfl) rfl rfl (by rw[lY];exact HD C m c hm h1 h4))) (by rw[e?];lia) ?_;refine rj λy hy=>?_;obtain⟨ok,oy⟩:=qD hm h1 h4 hy;have ht:=ok.tiles C E;rw[é oy]at ht;refine⟨.d (me y),?_,rfl⟩;unfold br;rw[bS (x:=.d (md y)) (y:=.new ((tl y).map pr)) rfl (eJ (n:=2) (bS (x:=hs C m c) (y:=.d (md y)) rfl rfl) rfl rfl ht)];rfl
 ·show bA _ [a! (hs C m c),a! (.d (.list (h.map pr))),a! (.d (.int j)),a! (.d (.list ((o7 m c).map me)))]=_;refine bC (bp (xs:=(o7 m c).map me) (fq rfl) (by rw[e?];lia) ?_);refine fL (f:=me) (b:=λy=>g! (0<=jl h j (tl y))) (g:=me) λy hy=>⟨?_,rfl⟩;have hw:(tl y).length<=1000:=by have:=(lZ hm h1 h4 (w:=tl y) (Oh.mpr ⟨y,hy,rfl⟩)).2;lia
  refine bj ((av (x:=.d (.int (jl h j (tl y)))) (y:=.d (.int 0)) ?_ rfl).trans (jo _ _));refine(av (x:=.d (d0 (aq h (tl y),jl h j (tl y)))) (y:=.d (.int 1)) ?_ rfl).trans (aL rfl);unfold rA;rw[aY (n:=3) (x:=.nwt [] ((aq h (tl y)).map pr) [.int (jl h j (tl y))]) (gY (x:=.d (.list (h.map pr))) (y:=.d (.int j)) (z:=.d (.list ((tl y).map pr))) rfl rfl ((av (x:=.d (me y)) (y:=.d (.int 1)) rfl rfl).trans (aL rfl))) rfl rfl (kH h j (tl y) hw)];rfl
def d6(l:By)(ad:Int)(w:List Tl):Nat->List Tl->Int->List Tl×Int×Nat
 |0,r,j=>(r,j,0)
 |n+1,r,j=>if 0<=jl r j w/\dA l (aq r w) (jl r j w)=ad then((d6 l ad w n (aq r w) (jl r j w)).1,(d6 l ad w n (aq r w) (jl r j w)).2.1,(d6 l ad w n (aq r w) (jl r j w)).2.2+1)else(r,j,0)
def nR(l:By)(ad:Int):List Ml->List Tl->Int->List Ml
 |[],_,_=>[]
 |y::ys,r,j=>p? (d6 l ad (tl y) 100 r j).2.2 y++nR l ad ys (d6 l ad (tl y) 100 r j).1 (d6 l ad (tl y) 100 r j).2.1
section
variable{P:g?}{w:q?}{CT:c!}{l:By}{f:j!->Option Int}{U:List j!}{ml:List DV->M DV}
def fδ(P:g?)(w:q?)(CT:c!)(l:By)(f:j!->Option Int)(U:List j!)(ps:List D)(h:List Tl)(j0 ad:Int)(acc:List D)(r:List Tl)(j:Int)(x8 x9 OW:Option DV):DS:=[a! (.fz (.tb P w CT l f U)),a! (.d (.list ps)),a! (.d (.list (h.map pr))),a! (.d (.int j0)),a! (.d (.int ad)),a! (.own acc),a! (.d (.list (r.map pr))),a! (.d (.int j)),x8,x9,OW]
def Ku(P:g?)(w:q?)(CT:c!)(ml:List DV->M DV):DS->M Bool:=(j4 (λδ=>bd (e2 Fi (e2 bK (af 10) (eC (.int 1))) (eC (.int 0)) δ) bQ) (λδ=>bd (e2 (jD e!) (gz P w CT 3 ml (af 0) (aa (e2 bK (af 10) (eC (.int 0))) (aa (e2 bK (af 10) (eC (.int 1))) ai))) (af 4) δ) bQ))
def KH:DS->M Out:=(bD (lD 5 (af 8)) (bD (aK 6 (e2 bK (af 10) (eC (.int 0)))) (bD (aK 7 (e2 bK (af 10) (eC (.int 1)))) (aK 10 (rA (aN (aw 3 (bN)) (aa (af 6) (aa (af 7) (aa (af 9) ai)))))))))
def zG{ps:List D}{j0 ad:Int}{acc:List D}{r:List Tl}{x8 OW:Option DV}{y:List Tl}(hy:y.length<=1000):rA (aN (aw 3 (bN)) (aa (af 6) (aa (af 7) (aa (af 9) ai)))) (fδ P w CT l f U ps h j0 ad acc r j x8 (a! (.d (.list (y.map pr)))) OW)=rt (.d (d0 (aq r y,jl r j y))):=by unfold rA;rw[aY (n:=3) (x:=.nwt [] ((aq r y).map pr) [.int (jl r j y)]) (gY (x:=.d (.list (r.map pr))) (y:=.d (.int j)) (z:=.d (.list (y.map pr))) rfl rfl rfl) rfl rfl (kH r j y hy)];rfl
def g7{r y:List Tl}(h0:0<=jl r j y)(hj:j<=2)(hy:3<=y.length):(aq r y).length<r.length:=by have:=iC y r;unfold jl at h0;lia
theorem HZ{ps:List D}{h:List Tl}{j0 ad:Int}{y:List Tl}{d:D}(hy:y.length<=1000)(Sr:3<=y.length)(hm:∀h' j',Cnd l f U h' j'->h'.length<=12->ml [.fz (.tb P w CT l f U),.d (.list (h'.map pr)),.d (.int j')]=rt (.d (.int (dA l h' j')))):
  ∀(n:Nat)(r:List Tl)(j:Int)(acc:List D),r.length<n->r.length<=12->j<=2->Cnd l f U r j->acc.length+r.length<=1000 ->
   ∃q,BS (Ku P w CT ml) KH n (fδ P w CT l f U ps h j0 ad acc r j (a! (.d d)) (a! (.d (.list (y.map pr)))) (a! (.d (d0 (aq r y,jl r j y)))))=rt (.nx (fδ P w CT l f U ps h j0 ad (acc++p? (d6 l ad y n r j).2.2 d) (d6 l ad y n r j).1 (d6 l ad y n r j).2.1 (a! (.d d)) (a! (.d (.list (y.map pr)))) q))
 |0,r,j,acc,hn,_,_,_,_=>by lia
 |n+1,r,j,acc,hn,hr,hj,c,ha=>by
  have t1:(λδ=>bd (e2 Fi (e2 bK (af 10) (eC (.int 1))) (eC (.int 0)) δ) bQ) (fδ P w CT l f U ps h j0 ad acc r j (a! (.d d)) (a! (.d (.list (y.map pr)))) (a! (.d (d0 (aq r y,jl r j y)))))=rt (g! (0<=jl r j y)):=
   bj ((av (x:=.d (.int (jl r j y))) (y:=.d (.int 0)) ((av (x:=.d (d0 (aq r y,jl r j y))) (y:=.d (.int 1)) rfl rfl).trans (aL rfl)) rfl).trans (jo _ _))
  have stop:Ku P w CT ml (fδ P w CT l f U ps h j0 ad acc r j (a! (.d d)) (a! (.d (.list (y.map pr)))) (a! (.d (d0 (aq r y,jl r j y)))))=rt e!->d6 l ad y (n+1) r j=(r,j,0)->∃q,BS (Ku P w CT ml) KH (n+1) (fδ P w CT l f U ps h j0 ad acc r j (a! (.d d)) (a! (.d (.list (y.map pr)))) (a! (.d (d0 (aq r y,jl r j y)))))=rt (.nx (fδ P w CT l f U ps h j0 ad (acc++p? (d6 l ad y (n+1) r j).2.2 d) (d6 l ad y (n+1) r j).1 (d6 l ad y (n+1) r j).2.1 (a! (.d d)) (a! (.d (.list (y.map pr)))) q)):=λe1 e2=>by refine⟨a! (.d (d0 (aq r y,jl r j y))),?_⟩;rw[e2,BS,e1,aD,è 0x3];show _=rt (Out.nx (fδ P w CT l f U ps h j0 ad (acc++[]) r j _ _ _));rw[C!]
  by_cases h0:0<=jl r j y
  ·rw[Oz h0]at t1;have cs:Cnd l f U (aq r y) (jl r j y):=c.sub (bZ _ _) h0 (lM _ _ _);have OL:=g7 h0 hj Sr;have em:gz P w CT 3 ml (af 0) (aa (e2 bK (af 10) (eC (.int 0))) (aa (e2 bK (af 10) (eC (.int 1))) ai)) (fδ P w CT l f U ps h j0 ad acc r j (a! (.d d)) (a! (.d (.list (y.map pr)))) (a! (.d (d0 (aq r y,jl r j y)))))=rt (.d (.int (dA l (aq r y) (jl r j y)))):=
    jh (l:=l) (f:=f) (U:=U) (ys:=[.d (.list ((aq r y).map pr)),.d (.int (jl r j y))]) rfl (bS ((av (x:=.d (d0 (aq r y,jl r j y))) (y:=.d (.int 0)) rfl rfl).trans (aL rfl)) ((av (x:=.d (d0 (aq r y,jl r j y))) (y:=.d (.int 1)) rfl rfl).trans (aL rfl))) rfl rfl (hm _ _ cs 0x1)
   have t2:Ku P w CT ml (fδ P w CT l f U ps h j0 ad acc r j (a! (.d d)) (a! (.d (.list (y.map pr)))) (a! (.d (d0 (aq r y,jl r j y)))))=rt (dA l (aq r y) (jl r j y)==ad):=by unfold Ku;exact Ae t1 (bj ((av (x:=.d (.int (dA l (aq r y) (jl r j y)))) (y:=.d (.int ad)) em rfl).trans (k6 _ _)))
   by_cases he:dA l (aq r y) (jl r j y)=ad
   ·have hb:(dA l (aq r y) (jl r j y)==ad)=d!:=by simpa using he
    rw[hb]at t2;obtain⟨q,ih⟩:=HZ (ps:=ps) (h:=h) (j0:=j0) (ad:=ad) (d:=d) hy Sr hm n (aq r y) (jl r j y) (acc++[d]) 0x1 0x1 (OF (lM _ _ _) hj) cs (by rw[l!,Yc];lia);have ew:d6 l ad y (n+1) r j=((d6 l ad y n (aq r y) (jl r j y)).1,(d6 l ad y n (aq r y) (jl r j y)).2.1,(d6 l ad y n (aq r y) (jl r j y)).2.2+1):=é ⟨h0,he⟩;refine⟨q,?_⟩;rw[ew,BS,t2,aD,é rfl];have eb:KH (fδ P w CT l f U ps h j0 ad acc r j (a! (.d d)) (a! (.d (.list (y.map pr)))) (a! (.d (d0 (aq r y,jl r j y)))))=rt (.nx (fδ P w CT l f U ps h j0 ad (acc++[d]) (aq r y) (jl r j y) (a! (.d d)) (a! (.d (.list (y.map pr)))) (a! (.d (d0 (aq (aq r y) y,jl (aq r y) (jl r j y) y)))))):=by unfold KH;refine f9 (δ':=fδ P w CT l f U ps h j0 ad (acc++[d]) r j (a! (.d d)) (a! (.d (.list (y.map pr)))) (a! (.d (d0 (aq r y,jl r j y))))) (yM (xs:=acc) rfl rfl rfl 0x1) ?_;refine f9 (δ':=fδ P w CT l f U ps h j0 ad (acc++[d]) (aq r y) j (a! (.d d)) (a! (.d (.list (y.map pr)))) (a! (.d (d0 (aq r y,jl r j y))))) (eT (x:=.d (.list ((aq r y).map pr))) ((av (x:=.d (d0 (aq r y,jl r j y))) (y:=.d (.int 0)) rfl rfl).trans (aL rfl)) rfl rfl) ?_;refine f9 (δ':=fδ P w CT l f U ps h j0 ad (acc++[d]) (aq r y) (jl r j y) (a! (.d d)) (a! (.d (.list (y.map pr)))) (a! (.d (d0 (aq r y,jl r j y))))) (eT (x:=.d (.int (jl r j y))) ((av (x:=.d (d0 (aq r y,jl r j y))) (y:=.d (.int 1)) rfl rfl).trans (aL rfl)) rfl rfl) ?_;exact eT (x:=.d (d0 (aq (aq r y) y,jl (aq r y) (jl r j y) y))) (zG hy) rfl rfl
    rw[eb,aD];show BS (Ku P w CT ml) KH n _=_;rw[ih,t?];rfl
   ·have hb:(dA l (aq r y) (jl r j y)==ad)=e!:=by simpa using he
    rw[hb]at t2;exact stop t2 (è λz=>he z.2)
  ·rw[Oy h0]at t1;exact stop (CF t1) (è λz=>h0 z.1)
theorem rD{ad:Int}{y:List Tl}(Sr:3<=y.length):∀(n:Nat)(r:List Tl)(j:Int),0<=j->j<=2->(d6 l ad y n r j).1.Sublist r/\0<=(d6 l ad y n r j).2.1/\(d6 l ad y n r j).2.1<=j/\(d6 l ad y n r j).2.2+(d6 l ad y n r j).1.length<=r.length
 |0,r,j,h0,h2=>⟨Y7 _,h0,X9 _,by show 0+r.length<=r.length;lia⟩
 |n+1,r,j,h0,h2=>by
  by_cases hc:0<=jl r j y/\dA l (aq r y) (jl r j y)=ad
  ·have ew:d6 l ad y (n+1) r j=((d6 l ad y n (aq r y) (jl r j y)).1,(d6 l ad y n (aq r y) (jl r j y)).2.1,(d6 l ad y n (aq r y) (jl r j y)).2.2+1):=é hc;obtain⟨a,b,c,d⟩:=rD Sr n (aq r y) (jl r j y) hc.1 (OF (lM _ _ _) h2);have:=g7 hc.1 h2 Sr;have A_:=lM r j y;rw[ew];exact⟨a.trans (bZ _ _),b,by show(d6 l ad y n (aq r y) (jl r j y)).2.1<=j;lia,by show(d6 l ad y n (aq r y) (jl r j y)).2.2+1+(d6 l ad y n (aq r y) (jl r j y)).1.length<=r.length;lia⟩
  ·have ew:d6 l ad y (n+1) r j=(r,j,0):=è hc;rw[ew];exact⟨Y7 _,h0,X9 _,by show 0+r.length<=r.length;lia⟩
def M3(P:g?)(w:q?)(CT:c!)(ml:List DV->M DV):DS->M Out:=(bD (aK 10 (rA (aN (aw 3 (bN)) (aa (af 6) (aa (af 7) (aa (af 9) ai)))))) (BS (Ku P w CT ml) KH 100))
theorem AE{ps:List D}{h:List Tl}{j0 ad:Int}(hm:∀h' j',Cnd l f U h' j'->h'.length<=12->ml [.fz (.tb P w CT l f U),.d (.list (h'.map pr)),.d (.int j')]=rt (.d (.int (dA l h' j')))):
  ∀(ys:List Ml)(r:List Tl)(j:Int)(acc:List D)(x8 x9 OW:Option DV),(∀y∈ys,3<=(tl y).length/\(tl y).length<=1000)->r.length<=12->j<=2->Cnd l f U r j->acc.length+r.length<=1000 ->
   ∃r' j' q8 q9 UI,dG (og 2 (dF (au 8) (dF (au 9) pA))) (M3 P w CT ml) (ys.map me) (fδ P w CT l f U ps h j0 ad acc r j x8 x9 OW)=rt (.nx (fδ P w CT l f U ps h j0 ad (acc++(nR l ad ys r j).map md) r' j' q8 q9 UI))
 |[],r,j,acc,x8,x9,OW,_,_,_,_,_=>⟨r,j,x8,x9,OW,by rw[Xi,nR,Xi,C!];rfl⟩
 |y::ys,r,j,acc,x8,x9,OW,hy,hr,hj,c,ha=>by
  obtain⟨h3,h1⟩:=hy y N2;obtain⟨q,ew⟩:=HZ (P:=P) (w:=w) (CT:=CT) (ml:=ml) (ps:=ps) (h:=h) (j0:=j0) (ad:=ad) (d:=md y) h1 h3 hm 100 r j acc 0x1 hr hj c ha;obtain⟨f1,f2,f3,f4⟩:=rD (l:=l) (ad:=ad) h3 100 r j c.j0 hj;have f_:=f1.length_le;obtain⟨r',j',q8,q9,UI,ih⟩:=AE (ps:=ps) (h:=h) (j0:=j0) (ad:=ad) hm ys (d6 l ad (tl y) 100 r j).1 (d6 l ad (tl y) 100 r j).2.1 (acc++p? (d6 l ad (tl y) 100 r j).2.2 (md y)) (a! (.d (md y))) (a! (.d (.list ((tl y).map pr)))) q (λz hz=>hy z (N1 _ hz)) 0x1 0x1 (c.sub f1 f2 f3) (by rw[l!,WZ];lia);refine⟨r',j',q8,q9,UI,?_⟩;rw[f?,dG];have e0:og 2 (dF (au 8) (dF (au 9) pA)) (me y) (fδ P w CT l f U ps h j0 ad acc r j x8 x9 OW)=a! (fδ P w CT l f U ps h j0 ad acc r j (a! (.d (md y))) (a! (.d (.list ((tl y).map pr)))) OW):=rfl;rw[e0,aP,aD];have e1:M3 P w CT ml (fδ P w CT l f U ps h j0 ad acc r j (a! (.d (md y))) (a! (.d (.list ((tl y).map pr)))) OW)=rt (.nx (fδ P w CT l f U ps h j0 ad (acc++p? (d6 l ad (tl y) 100 r j).2.2 (md y)) (d6 l ad (tl y) 100 r j).1 (d6 l ad (tl y) 100 r j).2.1 (a! (.d (md y))) (a! (.d (.list ((tl y).map pr)))) q)):=by unfold M3;exact f9 (δ':=fδ P w CT l f U ps h j0 ad acc r j (a! (.d (md y))) (a! (.d (.list ((tl y).map pr)))) (a! (.d (d0 (aq r (tl y),jl r j (tl y)))))) (eT (x:=.d (d0 (aq r (tl y),jl r j (tl y)))) (zG h1) rfl rfl) ew
  rw[e1,aD,ma,ih,nR,y?,Ä,t?]
def GS{ys:List Ml}(hm:∀h' j',Cnd l f U h' j'->h'.length<=12->ml [.fz (.tb P w CT l f U),.d (.list (h'.map pr)),.d (.int j')]=rt (.d (.int (dA l h' j'))))(hy:∀y∈ys,3<=(tl y).length/\(tl y).length<=1000)(hr:h.length<=12)(hj:j<=2)(c:Cnd l f U h j):
  dW P w CT ml [.fz (.tb P w CT l f U),.d (.list (ys.map me)),.d (.list (h.map pr)),.d (.int j)]=rt (.new ((nR l (dA l h j) ys h j).map md)):=by obtain⟨r',j',q8,q9,UI,e⟩:=AE (P:=P) (w:=w) (CT:=CT) (ml:=ml) (ps:=ys.map me) (h:=h) (j0:=j) (ad:=dA l h j) hm ys h j [] b! b! b! hy hr hj c (by simp;lia);unfold dW;refine dE (x:=.own ((nR l (dA l h j) ys h j).map md)) ?_;unfold kh;refine f9 (δ':=[a! (.fz (.tb P w CT l f U)),a! (.d (.list (ys.map me))),a! (.d (.list (h.map pr))),a! (.d (.int j)),a! (.d (.int (dA l h j))),b!,b!,b!,b!,b!,b!]) (eT (x:=.d (.int (dA l h j))) (jh (l:=l) (f:=f) (U:=U) (ys:=[.d (.list (h.map pr)),.d (.int j)]) rfl (bS rfl rfl) rfl rfl (hm h j c hr)) rfl rfl) ?_;refine f9 (δ':=[a! (.fz (.tb P w CT l f U)),a! (.d (.list (ys.map me))),a! (.d (.list (h.map pr))),a! (.d (.int j)),a! (.d (.int (dA l h j))),a! (.own []),b!,b!,b!,b!,b!]) rfl ?_;refine f9 (δ':=[a! (.fz (.tb P w CT l f U)),a! (.d (.list (ys.map me))),a! (.d (.list (h.map pr))),a! (.d (.int j)),a! (.d (.int (dA l h j))),a! (.own []),a! (.d (.list (h.map pr))),b!,b!,b!,b!]) rfl ?_;refine f9 (δ':=fδ P w CT l f U (ys.map me) h j (dA l h j) [] h j b! b! b!) rfl ?_;refine f9 (δ':=fδ P w CT l f U (ys.map me) h j (dA l h j) ([]++(nR l (dA l h j) ys h j).map md) r' j' q8 q9 UI) (jK (xs:=ys.map me) (fq rfl) e) ?_;exact bC rfl
end
theorem C0(p q:Tl):le p q=d!↔BU p q:=by
 obtain⟨a,b⟩:=p;obtain⟨c,d⟩:=q;show(!(HT.lexLt [c,d] [a,b]))=d!↔BU (a,b) (c,d);unfold BU;simp only[HT.lexLt];by_cases h:c=a
 ·subst h;by_cases h2:d=b
  ·subst h2;simp
  ·simp[h2]
 ·simp[h];lia
theorem Ey:∀{ps:List Tl},gZ ps=d!->ps.Pairwise BU
 |[],_=>S?
 |[a],_=>ĕ _ _
 |a::b::r,h=>by
  unfold gZ at h;rw[show(a::b::r).length-1=(b::r).length from rfl,i!,Xw,Zt,k?,X8]at h;have h2:gZ (b::r)=d!:=h.2;have ih:=Ey h2;have Qm:BU a b:=(C0 a b).mp h.1;refine Oq.mpr ⟨λx hx=>?_,ih⟩;obtain e|hx:=Of.mp hx
  ·rw[e];exact Qm
  ·have:=(Oq.mp ih).1 x hx;unfold BU at *;lia
theorem CN:∀{ps:List Tl},ps.Pairwise BU->gZ ps=d!
 |[],_=>rfl
 |[a],_=>rfl
 |a::b::r,h=>by rw[Ã]at h;unfold gZ;rw[show(a::b::r).length-1=(b::r).length from rfl,i!,Xw,Zt,k?,X8];exact⟨(C0 a b).mpr (h.1 b N2),CN h.2⟩
structure Hand(m c:Nat)(h:List Tl)(j:Int):Prop where
 len:h.length<=12
 j0:0<=j
 j2:j<=2
 tile:∀p∈h,bt m c p=d!
 two:∀p,ow h p<=2
 ord:h.Pairwise BU
def Cs:nZ m c h j=d!↔(h.length<=12/\0<=j/\j<=2/\(∀p∈h,bt m c p=d!/\ow h p<=2)/\gZ h=d!):=by
 unfold nZ jok tok;simp only[k?,decide_eq_true_eq,X8,XY,Function.comp,id];constructor
 ·rintro⟨⟨⟨h1,h2,h3⟩,h4⟩,h5⟩;exact⟨h1,h2,h3,h4,h5⟩
 ·rintro⟨h1,h2,h3,h4,h5⟩;exact⟨⟨⟨h1,h2,h3⟩,h4⟩,h5⟩
def Hand.ok(H:Hand m c h j):nZ m c h j=d!:=Cs.mpr ⟨H.len,H.j0,H.j2,λp hp=>⟨H.tile p hp,H.two p⟩,CN H.ord⟩
def Hand.pos(H:Hand m c h j):∀p∈h,0<=p.1:=λp hp=>by have:=H.tile p hp;unfold bt at this;simp at this;lia
noncomputable def uW:List Tl->List (List Tl)
 |[]=>[[]]
 |x::r=>uW r++(uW r).map (x::·)
theorem pZ:∀{h a:List Tl},a.Sublist h->a∈uW h
 |[],a,s=>by cases s;exact N2
 |x::r,a,s=>by
  unfold uW;cases s with
  |cons _ s=>exact N5 _ (pZ s)
  |cons_cons _ s=>exact N4 _ (Oh.mpr ⟨_,pZ s,rfl⟩)
theorem wg:∀h:List Tl,(uW h).length=2 ^ h.length
 |[]=>rfl
 |x::r=>by unfold uW;rw[l!,e?,wg r,i!,ϟ];lia
def UK(h:List Tl):List D:=(uW h).map (λa=>kD a 0)++((uW h).map (λa=>kD a 1)++(uW h).map λa=>kD a 2)
def Kl{a:List Tl}(s:a.Sublist h)(h0:0<=j)(h2:j<=2):kD a j∈UK h:=by
 have hm:=pZ s;unfold UK;have:j=0\/j=1\/j=2:=by lia
 obtain e|e|e:=this
 ·subst e;exact N5 _ (Oh.mpr ⟨a,hm,rfl⟩)
 ·subst e;exact N4 _ (N5 _ (Oh.mpr ⟨a,hm,rfl⟩))
 ·subst e;exact N4 _ (N4 _ (Oh.mpr ⟨a,hm,rfl⟩))
def Jh(hl:h.length<=12):(UK h).length<=1000000:=by have:2 ^ h.length<=2 ^ 12:=Nat.pow_le_pow_right 0x3 hl;unfold UK;rw[l!,l!,e?,e?,e?,wg];lia
theorem AJ{w:List Tl}:∀(ts:List Tl)(l:By)(n:Nat),vq l n->vq (ts.foldl (λl t=>fG l t w) l) (n+ts.length)
 |[],l,n,h=>h
 |t::ts,l,n,h=>by have:=AJ (w:=w) ts (fG l t w) (n+1) (h.add t w);rw[Xb,i!,show n+(ts.length+1)=n+1+ts.length by lia];exact this
def vq.mono{k:Nat}(h:vq l n)(hk:n<=k):vq l k:=⟨Ow h.1 hk,λp hp=>Ow (h.2 p hp) hk⟩
theorem Cq:∀(OM:List (List Tl))(l:By)(n:Nat),vq l n->vq (OM.foldl iG l) (n+3*OM.length)
 |[],l,n,h=>h
 |w::OM,l,n,h=>by have h1:vq (iG l w) (n+3):=vq.mono (AJ (w.take 3) l n h) (by rw[XA];lia);have:=Cq OM (iG l w) (n+3) h1;rw[Xb,i!,show n+3*(OM.length+1)=n+3+3*OM.length by lia];exact this
def GB{OM:List (List Tl)}(hl:OM.length<=1000)(hw:∀w∈OM,w.length<=1000):Good (mj OM):=by
 refine⟨λt w h=>?_,λt w h=>hw w ((jL w t OM).mp h).1,λt=>?_⟩
 ·exact(Zo 3 w).subset ((jL w t OM).mp h).2
 ·have:=Cq OM [] 0 ⟨N6 _,λo h=>(nomatch h)⟩;unfold c9;cases e:(mj OM).find? λx=>g! (x.1=t)with
  |none=>exact Ov _
  |some p=>
   have h2:=this.2 p (Zk e);show p.2.length<=800000;lia
def lx(m c:Nat)(h:List Tl)(j:Int):By:=mj ((rQ m c h j).map tl)
def DK(hm:m<=13)(h4:c<=4)(h:List Tl)(j:Int):(rQ m c h j).length<=1000:=Ow (YX _ _) (uI hm h4)
def vg{y:Ml}(hy:y∈rQ m c h j):y∈o7 m c/\0<=jl h j (tl y):=by obtain⟨h1,h2⟩:=Ol.mp hy;exact⟨h1,by simpa using h2⟩
def FE(hm:m<=13)(h1:1<=c)(h4:c<=4)(h:List Tl)(j:Int):Good (lx m c h j):=GB (by rw[e?];exact DK hm h4 h j) λw hw=>by obtain⟨y,hy,rfl⟩:=Oh.mp hw;have:=(lZ hm h1 h4 (w:=tl y) (Oh.mpr ⟨y,(vg hy).1,rfl⟩)).2;lia
def Kg(hm:m<=13)(h1:1<=c)(h4:c<=4)(hl:h.length<=12)(h0:0<=j)(h2:j<=2)(j':Int):Cnd (lx m c h j') (fK (lx m c h j')) (UK h) h j:=⟨FE hm h1 h4 h j',rfl,Jh hl,λa ha b b0 hb=>Kl ha b0 (OF hb h2),h0⟩
theorem sX:∀ys:List Ml,gw (ys.map me)=a! (ys.map tl)
 |[]=>rfl
 |y::ys=>by rw[f?,gw,sX ys];have:Co (me y)=a! (tl y):=fW (tl y);rw[this];rfl
def GW(m c:Nat)(h:List Tl)(j:Int):Int:=aX h-dA (lx m c h j) h j
def BL(m c:Nat)(h:List Tl)(j:Int):List Ml:=nR (lx m c h j) (dA (lx m c h j) h j) (rQ m c h j) h j
section
variable{P:g?}{w:q?}{C CT Eh El:c!}
theorem JW(hm:m<=13)(h1:1<=c)(h4:c<=4)(H:Hand m c h j):uo P w C CT Eh El (fK (lx m c h j)) (UK h) (mR P w CT 12) [hs C m c,.d (.list (h.map pr)),.d (.int j)]=rt (.nwt [.int (GW m c h j)] ((BL m c h j).map md) []):=by
 have cn:=Kg hm h1 h4 H.len H.j0 H.j2 j;have hl:h.length<=1000:=by have:=H.len;lia
 have ml:∀h' j',Cnd (lx m c h j) (fK (lx m c h j)) (UK h) h' j'->h'.length<=12->mR P w CT 12 [.fz (.tb P w CT (lx m c h j) (fK (lx m c h j)) (UK h)),.d (.list (h'.map pr)),.d (.int j')]=rt (.d (.int (dA (lx m c h j) h' j'))):=λh' j' c' Qi=>DZ c' Qi;unfold uo;refine dE (x:=.nwt [.int (GW m c h j)] ((BL m c h j).map md) []) ?_;unfold ub;refine f9 (δ':=[a! (hs C m c),a! (.d (.list (h.map pr))),a! (.d (.int j)),b!,b!,b!]) (AB (x:=.d .none) (eJ (n:=3) (gY (x:=hs C m c) (y:=.d (.list (h.map pr))) (z:=.d (.int j)) rfl rfl rfl) rfl rfl (vE C Eh hl H.ok))) ?_;refine f9 (δ':=[a! (hs C m c),a! (.d (.list (h.map pr))),a! (.d (.int j)),a! (.own ((rQ m c h j).map me)),b!,b!]) (eT (x:=.new ((rQ m c h j).map me)) (eJ (n:=3) (gY (x:=hs C m c) (y:=.d (.list (h.map pr))) (z:=.d (.int j)) rfl rfl rfl) rfl rfl (xQ C El hm h1 h4 h j)) rfl rfl) ?_;show bD _ _ [a! (hs C m c),a! (.d (.list (h.map pr))),a! (.d (.int j)),a! (.d (.list ((rQ m c h j).map me))),b!,b!]=_;refine f9 (δ':=[a! (hs C m c),a! (.d (.list (h.map pr))),a! (.d (.int j)),a! (.d (.list ((rQ m c h j).map me))),a! (.fz (.tb P w CT (lx m c h j) (fK (lx m c h j)) (UK h))),b!]) (eT (x:=.fz (.tb P w CT (lx m c h j) (fK (lx m c h j)) (UK h))) ((cg (a9 (x:=.d (.list ((rQ m c h j).map me))) rfl)).trans ?_) rfl rfl) ?_
 ·show bd (op (gw ((rQ m c h j).map me))) _=_;rw[sX,aP,aD,é (by rw[e?];exact DK hm h4 h j)];rfl
 refine f9 (δ':=[a! (hs C m c),a! (.d (.list (h.map pr))),a! (.d (.int j)),a! (.d (.list ((rQ m c h j).map me))),a! (.fz (.tb P w CT (lx m c h j) (fK (lx m c h j)) (UK h))),a! (.d (.int (GW m c h j)))]) (eT (x:=.d (.int (GW m c h j))) ?_ rfl rfl) ?_
 ·refine(av (x:=.d (.int (aX h))) (y:=.d (.int (dA (lx m c h j) h j))) (aY (n:=1) (a9 (x:=.d (.list (h.map pr))) rfl) rfl rfl (uD h hl)) ?_).trans (cz _ _);exact jh (l:=lx m c h j) (f:=fK (lx m c h j)) (U:=UK h) (ys:=[.d (.list (h.map pr)),.d (.int j)]) rfl (bS rfl rfl) rfl rfl (ml h j cn H.len)
 ·show bA _ [a! (hs C m c),a! (.d (.list (h.map pr))),a! (.d (.int j)),a! (.d (.list ((rQ m c h j).map me))),a! (.fz (.tb P w CT (lx m c h j) (fK (lx m c h j)) (UK h))),a! (.d (.int (GW m c h j)))]=_;refine bC ?_;unfold EX;rw[bS (x:=.d (.int (GW m c h j))) (y:=.new ((BL m c h j).map md)) rfl (aY (n:=4) (C2 (x:=.fz (.tb P w CT (lx m c h j) (fK (lx m c h j)) (UK h))) (y:=.d (.list ((rQ m c h j).map me))) (z:=.d (.list (h.map pr))) (u:=.d (.int j)) rfl rfl rfl rfl) rfl rfl (GS ml (λy hy=>?_) H.len H.j2 cn))]
  ·rfl
  ·have:=lZ hm h1 h4 (w:=tl y) (Oh.mpr ⟨y,(vg hy).1,rfl⟩);lia
end
def gF(xs:List DV):j!->Option Int:=match xs with
 |[.ob _ [(_,.int m),(_,.int c)],.d (.list ts),.d (.int j)]=>match cW ts with
  |some h=>fK (lx m.toNat c.toNat h j)
  |none=>λo=>b!
 |_=>λo=>b!
def gU(xs:List DV):List PyData:=match xs with
 |[_,.d (.list ts),_]=>match cW ts with
  |some h=>UK h
  |none=>[]
 |_=>[]
def KI(xs:List DV):(j!->Option Int)×List PyData:=(gF xs,gU xs)
def Lq(C:c!)(m c:Nat)(h:List Tl)(j:Int):gF [hs C m c,.d (.list (h.map pr)),.d (.int j)]=fK (lx m c h j):=by show(match cW (h.map pr)with|some h=>fK (lx (m:Int).toNat (c:Int).toNat h j)|none=>λo=>b!)=_;rw[show cW (h.map pr)=a! h from fW h,WW,WW]
def LG(x y:DV)(h:List Tl):gU [x,.d (.list (h.map pr)),y]=UK h:=by show(match cW (h.map pr)with|some h=>UK h|none=>[])=_;rw[show cW (h.map pr)=a! h from fW h]
def ja(P:g?)(w:q?)(C CT Eh El:c!)(ml:List DV->M DV)(xs:List DV):M DV:=uo P w C CT Eh El (KI xs).1 (KI xs).2 ml xs
def xY(P:g?)(w:q?)(C CT Eh El:c!)(ml:List DV->M DV):ja P w C CT Eh El ml=λxs=>eS ["house","hand","jokers","playable","table","greatest"] (ub P w C CT Eh El (KI xs).1 (KI xs).2 ml) xs:=by funext xs;unfold ja uo;rfl
def Gv{C Eh El:c!}(hm:m<=13)(h1:1<=c)(h4:c<=4)(H:Hand m c h j):ja P w C CT Eh El (mR P w CT 12) [hs C m c,.d (.list (h.map pr)),.d (.int j)]=rt (.nwt [.int (GW m c h j)] ((BL m c h j).map md) []):=by unfold ja KI;rw[Lq,LG];exact JW hm h1 h4 H
end LW
namespace L3
open PySem PySem.Spec L2
def NT{P:g?}{w:q?}{K:Oe}{mg:w?->Option b?}{base:F!}{CX:Bm}{k n:Nat}{f:c!}{fd:W'}{ps:List w?}{G:Type}{fm:G->List DV->M DV}(ch:List DV->G)(h:∀g,FnOk P w K mg base CX k f fd ps (K2 n (fm g))):FnOk P w K mg base CX k f fd ps (K2 n λxs=>fm (ch xs) xs):=⟨λvs H Q E ⟨h1,O,xs,r,h2,h3,h4,h5⟩=>(h (ch xs)).len vs H Q E ⟨h1,O,xs,r,h2,h3,h4,h5⟩,λA bn s H args us vs Q E hr he hb hv ⟨h1,O,xs,r,h2,h3,h4,h5⟩=>(h (ch xs)).run A bn s H args us vs Q E hr he hb hv ⟨h1,O,xs,r,h2,h3,h4,h5⟩⟩
def HasM.imp{P:g?}{w:q?}{K:Oe}{mg:w?->Option b?}{base:F!}{j k:Nat}{C:c!}{m:w?}{n:Nat}{fm fm':List DV->M DV}(F:HasM P w K mg base j C m n fm)(hj:j<=k)(h:∀xs x,fm' xs=a! (.ok x)->fm xs=a! (.ok x)):HasM P w K mg base k C m n fm':=by obtain⟨⟨fn,fd,ps,h1,h2,h3⟩,no⟩:=F;exact⟨⟨fn,fd,ps,(h1.imp λvs H Q E ⟨a,O,xs,x,b,c,d,e⟩=>⟨a,O,xs,x,b,c,h xs x d,e⟩).mono hj,h2,h3⟩,no⟩
end L3
namespace LW
open PySem PySem.Spec L2 L3
def xG(h:List Tl):Prop:=∀p∈h,1<=p.1
variable{h:List Tl}
def xG.sub{h':List Tl}(p:xG h)(s:h'.Sublist h):xG h':=λq hq=>p q (s.subset hq)
variable{m c:Nat}{j:Int}
def Hand.one(H:Hand m c h j):xG h:=λp hp=>by have:=H.tile p hp;unfold bt at this;simp only[k?,decide_eq_true_eq]at this;exact this.1.1
structure Tab(l:By)(AM:List (List Tl)):Prop where
 asc:∀w∈AM,w.Pairwise JI
 all:∀t w,w∈AM->t∈w.take 3->w∈c9 l t
 only:∀t w,w∈c9 l t->w∈AM/\t∈w
 three:∀w∈AM,3<=w.length
structure Stt(r:List Tl)(j:Int):Prop where
 ord:r.Pairwise BU
 pos:∀p∈r,0<=p.1
 j0:0<=j
 j2:j<=2
variable{r w:List Tl}
def Stt.lay(s:Stt r j)(h:0<=jl r j w):Stt (aq r w) (jl r j w):=⟨s.ord.sublist (bZ _ _),λp hp=>s.pos p ((bZ _ _).subset hp),h,OF (lM _ _ _) s.j2⟩
section
variable{l:By}{AM:List (List Tl)}{ad:Int}
def Tab.opt(T:Tab l AM)(s:Stt r j){Ws:List (List Tl)}(p:Play AM r j Ws):dA l r j<=aX (aq r Ws.flatten):=xt T.asc T.all r.length r j Ws (N6 _) s.ord s.pos s.j2 p
def Tab.snd(T:Tab l AM)(s:Stt r j):∃Ws,Play AM r j Ws/\aX (aq r Ws.flatten)<=dA l r j:=yV T.only r.length r j (N6 _) s.pos s.j0
def Play.cons{r:List Tl}{j:Int}{w:List Tl}{Ws:List (List Tl)}(hw:w∈AM)(p:Play AM (aq r w) (jl r j w) Ws):Play AM r j (w::Ws)/\aq r (w::Ws).flatten=aq (aq r w) Ws.flatten:=by
 refine⟨⟨λx hx=>?_,?_⟩,?_⟩
 ·obtain e|e:=Of.mp hx
  ·exact e▸hw
  ·exact p.mem x e
 ·rw[x?,eP];exact p.jok
 ·rw[x?,cN]
def Av(AM:List (List Tl))(ad:Int)(xs:List (List Tl))(r:List Tl)(j:Int):Prop:=∀Ws,Play AM r j Ws->aX (aq r Ws.flatten)<=ad->∀w∈Ws,w∉xs
def Av.take{xs:List (List Tl)}(a:Av AM ad xs r j)(hw:w∈AM):Av AM ad xs (aq r w) (jl r j w):=λWs p hs x hx=>by obtain⟨p',e⟩:=Play.cons hw p;exact a _ p' (by rw[e];exact hs) x (N1 _ hx)
def Av.stop(T:Tab l AM){xs:List (List Tl)}(s:Stt r j)(hg:dA l r j=ad)(a:Av AM ad xs r j)(hw:w∈AM)(no:¬(0<=jl r j w/\dA l (aq r w) (jl r j w)=ad)):Av AM ad (w::xs) r j:=λWs p hs x hx hm=>by
 obtain e|e:=Of.mp hm
 ·subst e;obtain⟨A,B,rfl⟩:=YH hx;have pw:(A++x::B).flatten.Perm (x++(A++B).flatten):=by rw[W?,x?,W?,<-t?,<-t?];exact(XE).append_right _
  have hj:=p.jok;rw[u9 pw]at hj;have h0:=OF hj (t9 _ _ _ _);rw[k9 pw,cN]at hs;rw[eP]at hj;have p':Play AM (aq r x) (jl r j x) (A++B):=⟨λy hy=>p.mem y (by
   obtain z|z:=Og.mp hy
   ·exact N5 _ z
   ·exact N4 _ (N1 _ z)),hj⟩
  have s':=s.lay h0;have h1:=T.opt s' p';obtain⟨Vs,q,h2⟩:=T.snd s';obtain⟨q',e⟩:=Play.cons hw q;have h3:=T.opt s q';rw[e]at h3;exact no ⟨h0,0x1⟩
 ·exact a Ws p hs x hx e
theorem Ac(T:Tab l AM){w:List Tl}(hw:w∈AM){xs:List (List Tl)}:∀(n:Nat)(r:List Tl)(j:Int),r.length<n->Stt r j->dA l r j=ad->Av AM ad xs r j ->
  Stt (d6 l ad w n r j).1 (d6 l ad w n r j).2.1/\dA l (d6 l ad w n r j).1 (d6 l ad w n r j).2.1=ad/\Av AM ad (w::xs) (d6 l ad w n r j).1 (d6 l ad w n r j).2.1 /\
  (d6 l ad w n r j).1=aq r (p? (d6 l ad w n r j).2.2 w).flatten/\(d6 l ad w n r j).2.1=jl r j (p? (d6 l ad w n r j).2.2 w).flatten/\(d6 l ad w n r j).1.length<=r.length
 |0,r,j,h,_,_,_=>ê h 0x1
 |n+1,r,j,h,s,hg,a=>by
  by_cases hc:0<=jl r j w/\dA l (aq r w) (jl r j w)=ad
  ·have hl:=g7 hc.1 s.j2 (T.three w hw);have ih:=Ac T hw (xs:=xs) n (aq r w) (jl r j w) 0x1 (s.lay hc.1) hc.2 (a.take hw);have e:d6 l ad w (n+1) r j=((d6 l ad w n (aq r w) (jl r j w)).1,(d6 l ad w n (aq r w) (jl r j w)).2.1,(d6 l ad w n (aq r w) (jl r j w)).2.2+1):=é hc;rw[e];obtain⟨i1,i2,i3,i4,i5,i6⟩:=ih;refine⟨i1,i2,i3,?_,?_,Ow i6 0x1⟩
   ·show _=aq r (p? (_+1) w).flatten;rwa[J!,x?,cN]
   ·show _=jl r j (p? (_+1) w).flatten;rwa[J!,x?,eP]
  ·have e:d6 l ad w (n+1) r j=(r,j,0):=è hc;rw[e];refine⟨s,hg,a.stop T s hg hw hc,rfl,?_,N6 _⟩;show j=jl r j [];unfold jl;show j=j-(((0:Nat):Int)-((r.length:Int)-(r.length:Int)));lia
theorem zc(T:Tab l AM):∀(ys:List Ml)(xs:List (List Tl))(r:List Tl)(j:Int),(∀y∈ys,tl y∈AM)->r.length<100->Stt r j->dA l r j=ad->Av AM ad xs r j ->
  ∃r' j',Stt r' j'/\dA l r' j'=ad/\Av AM ad ((ys.map tl).reverse++xs) r' j'/\r'=aq r ((nR l ad ys r j).map tl).flatten/\j'=jl r j ((nR l ad ys r j).map tl).flatten
 |[],xs,r,j,_,_,s,hg,a=>⟨r,j,s,hg,a,rfl,by show j=jl r j [];unfold jl;show j=j-(((0:Nat):Int)-((r.length:Int)-(r.length:Int)));lia⟩
 |y::ys,xs,r,j,hy,hl,s,hg,a=>by
  obtain⟨i1,i2,i3,i4,i5,i6⟩:=Ac T (hy y N2) (xs:=xs) 100 r j hl s hg a;obtain⟨r',j',k1,k2,k3,k4,k5⟩:=zc T ys (tl y::xs) _ _ (λz hz=>hy z (N1 _ hz)) (Zi i6 hl) i1 i2 i3;refine⟨r',j',k1,k2,?_,?_,?_⟩
  ·rwa[f?,Ì,t?]
  ·rw[k4]
   conv=>lhs;rw[i4]
   show _=aq r ((p? _ y++nR l ad ys _ _).map tl).flatten;rw[y?,Ä,W?,cN];rw[<-i4]
  ·rw[k5];show _=jl r j ((p? _ y++nR l ad ys _ _).map tl).flatten;rw[y?,Ä,W?,eP];rw[<-i4,<-i5]
def CY(T:Tab l AM){ys:List Ml}(hA:AM=ys.map tl)(hl:r.length<100)(s:Stt r j):aX (aq r ((nR l (dA l r j) ys r j).map tl).flatten)=dA l r j/\0<=jl r j ((nR l (dA l r j) ys r j).map tl).flatten:=by
 obtain⟨r',j',k1,k2,k3,k4,k5⟩:=zc (ad:=dA l r j) T ys [] r j (λy hy=>by rw[hA];exact Oh.mpr ⟨y,hy,rfl⟩) hl s rfl (λo o o o o h=>nomatch h);rw[<-k4,<-k5];refine⟨?_,k1.j0⟩;obtain⟨Ws,p,hs⟩:=T.snd k1;have hn:Ws=[]:=by
  cases Ws with
  |nil=>rfl
  |cons w Ws=>
   refine ê ?_ (k3 _ p (by rwa[k2]at hs) w N2);rw[C!,List.mem_reverse,<-hA];exact p.mem w N2
 subst hn;have h2:=T.opt k1 p;rw[k2]at hs h2;exact Η hs h2
end
def EK(hm:m<=13)(h1:1<=c)(h4:c<=4)(h:List Tl)(j:Int):Tab (lx m c h j) ((rQ m c h j).map tl):=by
 have sub:∀w∈(rQ m c h j).map tl,w∈KG m c:=λw hw=>by obtain⟨y,hy,rfl⟩:=Oh.mp hw;exact Oh.mpr ⟨y,(vg hy).1,rfl⟩
 exact⟨λw hw=>C6 h1 h4 (sub w hw),λt w hw ht=>(jL w t _).mpr ⟨hw,ht⟩,λt w hw=>⟨((jL w t _).mp hw).1,(Zo 3 w).subset ((jL w t _).mp hw).2⟩,λw hw=>(lZ hm h1 h4 (sub w hw)).1⟩
def Hand.stt(H:Hand m c h j):Stt h j:=⟨H.ord,H.pos,H.j0,H.j2⟩
def wG(hm:m<=13)(h1:1<=c)(h4:c<=4)(H:Hand m c h j):aX (aq h ((BL m c h j).map tl).flatten)=dA (lx m c h j) h j/\0<=jl h j ((BL m c h j).map tl).flatten:=CY (EK hm h1 h4 h j) rfl (by have:=H.len;lia) H.stt
noncomputable def Ia(r w:List Tl):Nat:=(w.filter λt=>g! (t∉r)).length
def Nz(B:List Ml->List Tl->Int->Int×List Ml)(r:List Tl)(j:Int):List Ml->Int×List Ml->Int×List Ml
 |[],f=>f
 |y::ys,f=>Nz B r j ys (if 0<=jl r j (tl y)/\f.1<aX r-aX (aq r (tl y))+(B (y::ys) (aq r (tl y)) (jl r j (tl y))).1 then(aX r-aX (aq r (tl y))+(B (y::ys) (aq r (tl y)) (jl r j (tl y))).1,y::(B (y::ys) (aq r (tl y)) (jl r j (tl y))).2)else f)
def LB:Nat->List Ml->List Tl->Int->Int×List Ml
 |0,_,_,_=>(0,[])
 |n+1,ys,r,j=>Nz (LB n) r j ys (0,[])
def Dq(r:List Tl)(j:Int):jl r j []=j:=by unfold jl;show j-(((0:Nat):Int)-((r.length:Int)-(r.length:Int)))=j;lia
def BY{h':List Tl}(s:h'.Sublist h):xG h->aX h'+((h.length:Int)-(h'.length:Int))<=aX h:=by
 induction s with
 |slnil=>intro _;exact X9 _
 |@cons l₁ l₂ a s ih=>
  intro p;have:=ih λq hq=>p q (N1 _ hq);have ha:=p a N2;have e:aX (a::l₂)=a.1+aX l₂:=by unfold aX;rw[f?,Xh]
  rw[e,i!];lia
 |@cons_cons l₁ l₂ a s ih=>
  intro p;have:=ih λq hq=>p q (N1 _ hq);have e:aX (a::l₂)=a.1+aX l₂:=by unfold aX;rw[f?,Xh]
  have e':aX (a::l₁)=a.1+aX l₁:=by unfold aX;rw[f?,Xh]
  rw[e,e',i!,i!];lia
section
variable{l:By}{AM:List (List Tl)}{ad:Int}
def Tab.all_(T:Tab l AM)(s:Stt r j):dA l r j<=aX r:=T.opt s (Ws:=[]) ⟨(λo h=>nomatch h),by show 0<=jl r j [];rw[Dq];exact s.j0⟩
theorem wa{w:List Tl}(hw:3<=w.length):∀(n:Nat)(r:List Tl)(j:Int),r.length<n->j<=2->d6 l ad w (n+1) r j=d6 l ad w n r j
 |0,r,j,h,_=>ê h 0x1
 |n+1,r,j,h,hj=>by
  by_cases hc:0<=jl r j w/\dA l (aq r w) (jl r j w)=ad
  ·have e:∀n,d6 l ad w (n+1) r j=((d6 l ad w n (aq r w) (jl r j w)).1,(d6 l ad w n (aq r w) (jl r j w)).2.1,(d6 l ad w n (aq r w) (jl r j w)).2.2+1):=λn=>é hc;have hl:=g7 hc.1 hj hw;rw[e,e,wa hw n (aq r w) (jl r j w) 0x1 (OF (lM _ _ _) hj)]
  ·have e:∀n,d6 l ad w (n+1) r j=(r,j,0):=λn=>è hc;rw[e,e]
def Du{y:Ml}{ys:List Ml}(hc:¬(0<=jl r j (tl y)/\dA l (aq r (tl y)) (jl r j (tl y))=ad)):nR l ad (y::ys) r j=nR l ad ys r j:=by have e:d6 l ad (tl y) 100 r j=(r,j,0):=è hc;rw[nR,e];rfl
def Fs{y:Ml}{ys:List Ml}(hc:0<=jl r j (tl y)/\dA l (aq r (tl y)) (jl r j (tl y))=ad)(hw:3<=(tl y).length)(hj:j<=2)(hl:r.length<100):
  nR l ad (y::ys) r j=y::nR l ad (y::ys) (aq r (tl y)) (jl r j (tl y)):=by have e:d6 l ad (tl y) 100 r j=((d6 l ad (tl y) 99 (aq r (tl y)) (jl r j (tl y))).1,(d6 l ad (tl y) 99 (aq r (tl y)) (jl r j (tl y))).2.1,(d6 l ad (tl y) 99 (aq r (tl y)) (jl r j (tl y))).2.2+1):=é hc;have hs:=g7 hc.1 hj hw;rw[nR,e,nR,wa hw 99 (aq r (tl y)) (jl r j (tl y)) 0x1 (OF (lM _ _ _) hj),J!,List.cons_append]
theorem yI(T:Tab l AM){r:List Tl}{j:Int}(s:Stt r j)(hp:xG r)(hg:aX r=ad):∀ys:List Ml,(∀y∈ys,tl y∈AM)->nR l ad ys r j=[]
 |[],_=>rfl
 |y::ys,hy=>by
  rw[Du]
  ·exact yI T s hp hg ys λz hz=>hy z (N1 _ hz)
  ·rintro⟨h0,h1⟩;have h2:=T.all_ (s.lay h0);have h3:=g7 h0 s.j2 (T.three _ (hy y N2));have h4:=BY (bZ (tl y) r) hp;lia
end
end LW
namespace L2
open PySem PySem.Spec PyProof.Rows
end L2
namespace L3
open PySem PySem.Spec L2
open PyProof.Rows hiding St
def gq{X:Cx}{ce:YU}{i:Nat}{x:w?}(hN:X.N.Nodup)(hi:X.N[i]?=a! x:=by rfl)(hx:KP X.env.scope x:=by first|exact ū rfl|exact Ī rfl)(hf:X.fn x=d!\/X.env.scope.names.lookup x=a! .local:=by first|exact .inl rfl|exact .inr rfl|assumption):PG X (.Name x ce) (oX i):=Fv hN hi hx hf
end L3
namespace LW
open PySem PySem.Spec L2 L3
def iH(K:Oe):DS->M Out:=(bD (aK 2 (aN (aw 2 (aA K)) (aa (af 0) (aa (eC (.int 1)) ai)))) (bA (e2 bK (bX (aa (eC (.int 0)) (aa (eC (.int 0)) (aa (eC (.int 1)) (aa (e2 bK (bX (aa (eC (.int 1)) (aa (eC (.int 2)) ai))) (aN EC (aa (e2 g8 (aN cB (aa (af 1) ai)) (eC (.int 6))) ai))) ai))))) (e2 lB (af 2) (eC (.int 4))))))
def cq(K:Oe):List DV->M DV:=eS ["script","hand","cell"] (iH K)
def kr:DS->M Out:=(bA (aN cB (aa (aW 1 [0] (iO (af 1)) (au 0) (λδ=>bd (e2 (Dz d!) (af 0) (af 1) δ) bQ) (af 0)) ai)))
def ku:List DV->M DV:=eS ["rest","tiles"] (kr)
def HB(r:List Tl)(p:Tl):Dz d! (.d (pr p)) (.d (.list (r.map pr)))=rt (.d (.bool (g! (p∉r)))):=by unfold Dz;show(if(pr p).depth<=60 then _ else b!)=_;rw[é (show(pr p).depth<=60 from(by decide:1<=60))];show rt (DV.d (.bool (!((r.map pr).any λz=>i? z (pr p)))))=_;rw[Dy,decide_not]
def FK(xs:List D):cB [.new xs]=rt (.d (.int (xs.length:Int))):=by unfold cB;rfl
def KJ(r w:List Tl)(hl:w.length<=1000):ku [.d (.list (r.map pr)),.d (.list (w.map pr))]=rt (.d (.int (Ia r w:Int))):=by
 unfold ku kr;refine dE (x:=.d (.int (Ia r w:Int))) (bC ?_);refine(cg (a9 (bp (xs:=w.map pr) (fq rfl) (by rw[e?];lia) (fL (b:=λt=>g! (t∉r)) (g:=pr) λp o=>⟨?_,rfl⟩)))).trans ?_
 ·exact bj ((av (x:=.d (pr p)) (y:=.d (.list (r.map pr))) rfl rfl).trans (HB r p))
 ·rw[FK,e?];rfl
def CK{i:Nat}{δ:DS}{ps:List Tl}(h:af i δ=rt (.d (.list (ps.map pr))))(hl:ps.length<=1000):aN wc (aa (aW 1 [] (iO (af i)) (au 0) bW (e2 bK (af 0) (eC (.int 0)))) ai) δ=rt (.d (.int (aX ps))):=by
 refine(cg (a9 (bp (xs:=ps.map pr) (fq h) (by rw[e?];lia) (dg (g:=λp=>r? p.1) λp o=>?_)))).trans ?_
 ·exact(av (x:=.d (pr p)) (y:=.d (.int 0)) rfl rfl).trans (aL rfl)
 ·unfold wc;simp only[jJ,aP,aD];rw[show(ps.map λp=>r? p.1)=(ps.map (·.1)).map r? by rw[A!];rfl,om];rfl
structure Mg(y:Ml):Prop where
 law:bF [.d (md y)]=rt (.new ((tl y).map pr))
 three:3<=(tl y).length
 len:(tl y).length<=1000
 nd:(tl y).Nodup
variable{m c:Nat}
def mg_of(hm:m<=13)(h1:1<=c)(h4:c<=4){y:Ml}(hy:y∈o7 m c):Mg y:=by obtain⟨ok,_⟩:=qD hm h1 h4 hy;have hA:tl y∈KG m c:=Oh.mpr ⟨y,hy,rfl⟩;have hl:=lZ hm h1 h4 hA;refine⟨ok.law,hl.1,0x1,(C6 h1 h4 hA).imp λ{a b} h e=>?_⟩;subst e;unfold JI at h;lia
def BK(xs:List Ml):Prop:=xs.Pairwise λa b=>ll (jx (md b)) (jx (md a))=e!
noncomputable instance (xs:List Ml):Decidable (BK xs):=inferInstanceAs (Decidable (xs.Pairwise _))
theorem BK.fl{l:By}{ad:Int}:∀(ys:List Ml)(r:List Tl)(j:Int),BK ys->BK (nR l ad ys r j)/\∀y∈nR l ad ys r j,y∈ys
 |[],_,_,_=>⟨S?,λo h=>nomatch h⟩
 |y::ys,r,j,a=>by
  obtain⟨a1,a2⟩:=Oq.mp a;have ih:=BK.fl (l:=l) (ad:=ad) ys (d6 l ad (tl y) 100 r j).1 (d6 l ad (tl y) 100 r j).2.1 a2;refine⟨Ot.mpr ⟨List.pairwise_replicate.mpr (.inr (d8 _)),ih.1,λx hx z hz=>?_⟩,λz hz=>?_⟩
  ·rw[(ō.mp hx).2];exact a1 z (ih.2 z hz)
  ·obtain h|h:=Og.mp hz
   ·rw[(ō.mp h).2];exact N2
   ·exact N1 _ (ih.2 z h)
def BK.ord{xs:List Ml}(a:BK xs):Bt (xs.map md)=d!:=by
 unfold Bt;rw[XY];intro k hk;have hk:=Oj.mp hk;rw[e?]at hk;have h1:k<xs.length:=by lia
 have h2:k+1<xs.length:=by lia
 have:=V!.mp a k (k+1) h1 h2 0x1;have e1:(xs.map md).getD (k+1) .none=md xs[k+1]:=by simp[aÅ,h2]
 have e2:(xs.map md).getD k .none=md xs[k]:=by simp[aÅ,h1]
 rw[e1,e2,this];rfl
theorem CJ{l:By}{ad:Int}:∀(ys:List Ml)(r:List Tl)(j:Int),(∀y∈ys,3<=(tl y).length)->0<=j->j<=2->(nR l ad ys r j).length<=r.length
 |[],_,_,_,_,_=>Ov _
 |y::ys,r,j,h,h0,h2=>by obtain⟨w1,w2,w3,w4⟩:=rD (l:=l) (ad:=ad) (y:=tl y) (h y N2) 100 r j h0 h2;have ih:=CJ (l:=l) (ad:=ad) ys (d6 l ad (tl y) 100 r j).1 (d6 l ad (tl y) 100 r j).2.1 (λz hz=>h z (N1 _ hz)) w2 0x1;show(p? _ y++nR l ad ys _ _).length<=_;rw[l!,WZ];lia
structure Lay(m c:Nat)(L:List Ml):Prop where
 ok:∀y∈L,mF m c y/\Bz m c y=d!
 len:L.length<=12
 ord:Bt (L.map md)=d!
def Nj(C E:c!):DS->M Out:=o8 2 (aN (dD 2 (bH C E)) (aa (af 0) (aa (af 3) ai)))
def tδ(C:c!)(m c:Nat)(xs:List D)(be:List Tl)(x3:Option DV):DS:=[a! (hs C m c),a! (.d (.list xs)),a! (.own (be.map pr)),x3]
theorem wt(C E:c!){m c:Nat}(xs:List D):∀(L:List Ml)(pre:List Tl)(x3:Option DV),(∀y∈L,mF m c y/\Bz m c y=d!)->pre.length+13*L.length<=1000 ->
  ∃y3,dG (au 3) (Nj C E) (L.map md) (tδ C m c xs pre x3)=rt (.nx (tδ C m c xs (pre++(L.map tl).flatten) y3))
 |[],pre,x3,_,_=>⟨x3,by simp;rfl⟩
 |y::L,pre,x3,h,hl=>by
  rw[i!]at hl;obtain⟨hy,ho⟩:=h y N2;have hyl:=hy.len;obtain⟨y3,ih⟩:=wt C E xs L (pre++tl y) (a! (.d (md y))) (λz hz=>h z (N1 _ hz)) (by rw[l!];lia);have QK:au 3 (md y) (tδ C m c xs pre x3)=a! (tδ C m c xs pre (a! (.d (md y)))):=rfl;have ht:=hy.tiles C E;have Sk:aN (dD 2 (bH C E)) (aa (af 0) (aa (af 3) ai)) (tδ C m c xs pre (a! (.d (md y))))=bH C E [hs C m c,.d (md y)]:=eJ (bS (x:=hs C m c) (y:=.d (md y)) rfl rfl) rfl rfl rfl;rw[ht,ho,é rfl]at Sk;have e1:Nj C E (tδ C m c xs pre (a! (.d (md y))))=rt (.nx (tδ C m c xs (pre++tl y) (a! (.d (md y))))):=by unfold Nj;rw[xM (xs:=pre.map pr) (ys:=(tl y).map pr) rfl Sk (by rw[e?,e?];lia),<-y?];rfl
  refine⟨y3,?_⟩;rw[f?,dG,QK,aP,aD,e1,aD,ma,ih,f?,x?,t?]
theorem Lay.be{m c:Nat}:∀{L:List Ml},(∀y∈L,mF m c y/\Bz m c y=d!)->(L.map tl).flatten.length<=13*L.length
 |[],_=>by simp
 |y::L,h=>by have h1:=(h y N2).1.len;have h2:=Lay.be (L:=L) λz hz=>h z (N1 _ hz);rw[f?,x?,l!,i!];lia
def Me(C E:c!){L:List Ml}(LO:Lay m c L):cQ C E [hs C m c,.d (.list (L.map md))]=rt (.new ((L.map tl).flatten.map pr)):=by
 have UX:=LO.len;have hM:∀x∈L.map md,rP x:=λx hx=>by obtain⟨y,_,rfl⟩:=Oh.mp hx;exact eK y
 obtain⟨y3,e⟩:=wt C E (L.map md) L [] b! LO.ok (by simp;lia);rw[YF]at e;have ho:=DI (L.map md) hM (by rw[e?];lia);rw[LO.ord]at ho;unfold cQ;refine dE (x:=.own ((L.map tl).flatten.map pr)) ?_;unfold iq;refine f9 (δ':=tδ C m c (L.map md) [] b!) rfl ?_;refine f9 (δ':=tδ C m c (L.map md) (L.map tl).flatten y3) (jK (xs:=L.map md) (fq rfl) e) ?_;have ht:(hJ (λδ=>bd ((aN (aw 1 (bB)) (aa (af 1) ai)) δ) bQ)) (tδ C m c (L.map md) (L.map tl).flatten y3)=rt false:=u5 (bj (aY (n:=1) (a9 (x:=.d (.list (L.map md))) rfl) rfl rfl ho)) rfl;exact f9 (δ':=tδ C m c (L.map md) (L.map tl).flatten y3) (G9 ht rfl) (bC rfl)
def Ef(C Eh El:c!){h:List Tl}{j:Int}(H:Hand m c h j){L:List Ml}(LO:Lay m c L)(hj:0<=jl h j (L.map tl).flatten):mn C Eh El [hs C m c,.d (.list (h.map pr)),.d (.int j),.d (.list (L.map md))]=rt (.nwt [] ((aq h (L.map tl).flatten).map pr) [.int (jl h j (L.map tl).flatten)]):=by
 have hl:h.length<=1000:=by have:=H.len;lia
 have hn:=Lay.be LO.ok;have UX:=LO.len;have Qt:=kH h j (L.map tl).flatten 0x1;unfold mn;refine dE (x:=.tpo [] ((aq h (L.map tl).flatten).map pr) [.int (jl h j (L.map tl).flatten)]) ?_;unfold EH;refine f9 (AB (eJ (gY (x:=hs C m c) (y:=.d (.list (h.map pr))) (z:=.d (.int j)) rfl rfl rfl) rfl rfl (vE C Eh hl H.ok))) ?_;refine f9 (δ':=[a! (hs C m c),a! (.d (.list (h.map pr))),a! (.d (.int j)),a! (.d (.list (L.map md))),a! (.tpo [] ((aq h (L.map tl).flatten).map pr) [.int (jl h j (L.map tl).flatten)])]) (eT (x:=.nwt [] ((aq h (L.map tl).flatten).map pr) [.int (jl h j (L.map tl).flatten)]) (aY (gY (x:=.d (.list (h.map pr))) (y:=.d (.int j)) (z:=.new ((L.map tl).flatten.map pr)) rfl rfl (eJ (bS (x:=hs C m c) (y:=.d (.list (L.map md))) rfl rfl) rfl rfl (Me C El LO))) rfl rfl Qt) rfl rfl) ?_;have R0:(λδ=>(λδ=>bd (e2 g8 (e2 bK (af 4) (eC (.int 1))) (eC (.int 0)) δ) bQ) (frz 4 δ)) [a! (hs C m c),a! (.d (.list (h.map pr))),a! (.d (.int j)),a! (.d (.list (L.map md))),a! (.tpo [] ((aq h (L.map tl).flatten).map pr) [.int (jl h j (L.map tl).flatten)])]=rt (g! (jl h j (L.map tl).flatten<0)):=by change (λδ=>bd (e2 g8 (e2 bK (af 4) (eC (.int 1))) (eC (.int 0)) δ) bQ) [a! (hs C m c),a! (.d (.list (h.map pr))),a! (.d (.int j)),a! (.d (.list (L.map md))),a! (.d (.tuple [.list ((aq h (L.map tl).flatten).map pr),.int (jl h j (L.map tl).flatten)]))]=_;exact bj ((av (x:=.d (.int (jl h j (L.map tl).flatten))) (y:=.d (.int 0)) ((av (x:=.d (.tuple [.list ((aq h (L.map tl).flatten).map pr),.int (jl h j (L.map tl).flatten)])) (y:=.d (.int 1)) rfl rfl).trans (aL rfl)) rfl).trans (fx _ _))
 rw[Oy 0x1]at R0;exact f9 (G9 R0 rfl) (bC rfl)
def EM{fr:DS->M (List DV)}{δ:DS}{xs:List DV}{ds:List D}(h:fr δ=rt xs)(hd:d7 xs=a! ds)(hl:ds.length<=1000000):bX fr δ=rt (.new ds):=by unfold bX;rw[h,aD,hd,aP,aD,é hl]
def KU(K:Oe)(ns:List Int)(am:List Tl):∃j:Int,cq K [.scr K ns,.d (.list (am.map pr))]=rt (.d (.int j))/\0<=j/\j<=2:=by
 have h0:=YI (bw ns 1) (show(4:Int)≠0 by decide);have h4:=Yb (bw ns 1) (show(0:Int)<4 by decide);have e1:aN EC (aa (e2 g8 (aN cB (aa (af 1) ai)) (eC (.int 6))) ai) [a! (.scr K ns),a! (.d (.list (am.map pr))),a! (.d (.int (bw ns 1)))]=rt (.d (.int (if(am.length:Int)<6 then 1 else 0))):=by
  refine(cg (a9 ((av (x:=.d (.int (am.length:Int))) (y:=.d (.int 6)) ((cg (a9 (x:=.d (.list (am.map pr))) rfl)).trans (iD am)) rfl).trans (fx _ _)))).trans ?_;by_cases h:(am.length:Int)<6
  ·rw[é h,Oz h];rfl
  ·rw[è h,Oy h];rfl
 have U7:∃q:Int,1<=q/\q<=2/\e2 bK (bX (aa (eC (.int 1)) (aa (eC (.int 2)) ai))) (aN EC (aa (e2 g8 (aN cB (aa (af 1) ai)) (eC (.int 6))) ai)) [a! (.scr K ns),a! (.d (.list (am.map pr))),a! (.d (.int (bw ns 1)))]=rt (.d (.int q)):=by
  by_cases h:(am.length:Int)<6
  ·rw[é h]at e1;exact⟨2,0x3,0x3,(av (x:=.new [.int 1,.int 2]) rfl e1).trans (pE rfl)⟩
  ·rw[è h]at e1;exact⟨1,0x3,0x3,(av (x:=.new [.int 1,.int 2]) rfl e1).trans (pE rfl)⟩
 obtain⟨q,q1,q2,V3⟩:=U7;have fin:∀j:Int,atI [r? 0,.int 0,.int 1,.int q] (bw ns 1 % 4)=a! (.int j)->cq K [.scr K ns,.d (.list (am.map pr))]=rt (.d (.int j)):=λj hj=>by unfold cq;refine dE (x:=.d (.int j)) ?_;unfold iH;refine f9 (δ':=[a! (.scr K ns),a! (.d (.list (am.map pr))),a! (.d (.int (bw ns 1)))]) (eT (x:=.d (.int (bw ns 1))) (vw (K:=K) (ns:=ns) rfl rfl 0x3) rfl rfl) (bC ?_);refine(av (x:=.new [.int 0,.int 0,.int 1,.int q]) (y:=.d (.int (bw ns 1 % 4))) ?_ ((av (x:=.d (.int (bw ns 1))) (y:=.d (.int 4)) rfl rfl).trans (gg 0x3))).trans (pE hj);exact EM (Lf (x:=.d (.int 0)) (y:=.d (.int 0)) (z:=.d (.int 1)) (u:=.d (.int q)) rfl rfl rfl V3) rfl 0x4
 have hc:bw ns 1 % 4=0\/bw ns 1 % 4=1\/bw ns 1 % 4=2\/bw ns 1 % 4=3:=by lia
 obtain h|h|h|h:=hc
 ·exact⟨0,fin 0 (by rw[h];rfl),0x3,0x3⟩
 ·exact⟨0,fin 0 (by rw[h];rfl),0x3,0x3⟩
 ·exact⟨1,fin 1 (by rw[h];rfl),0x3,0x3⟩
 ·exact⟨q,fin q (by rw[h];rfl),0x1,0x1⟩
def Ge(L:List Ml):∀x∈L.map md,rP x:=λx hx=>by obtain⟨y,_,rfl⟩:=Oh.mp hx;exact eK y
def Jb(hm:m<=13)(h1:1<=c)(h4:c<=4){h:List Tl}{j:Int}(H:Hand m c h j):(BL m c h j).length<=12:=Ow (CJ _ _ _ (λy hy=>(lZ hm h1 h4 (Oh.mpr ⟨y,(Ol.mp hy).1,rfl⟩)).1) H.j0 H.j2) H.len
end LW
namespace L3
open PySem
noncomputable abbrev Pb:=ň
def K6(xs:Array Nat):Prop:=∀i j x y:Nat,i<j->xs[i]?=a! x->xs[j]?=a! y->x<y
theorem q0(xs:Array Nat)(hr:K6 xs)(j:Nat):∀(fuel lo hi:Nat),hi<=xs.size->lo<=hi->hi-lo<=fuel->(∀i x,i<lo->xs[i]?=a! x->x<j)->(∀i x,hi<=i->xs[i]?=a! x->j<=x) ->
  Y0 xs j fuel lo hi<=xs.size/\(∀i x,i<Y0 xs j fuel lo hi->xs[i]?=a! x->x<j)/\(∀i x,Y0 xs j fuel lo hi<=i->xs[i]?=a! x->j<=x)
 |0,lo,hi,h1,h2,h3,h4,h5=>by
  have:lo=hi:=by lia
  subst this;exact⟨h1,h4,h5⟩
 |fuel+1,lo,hi,h1,h2,h3,h4,h5=>by
  unfold Y0;by_cases hl:lo<hi
  ·rw[é hl];have hm:(lo+hi) / 2<xs.size:=by lia
   have hg:xs[(lo+hi) / 2]?=a! (xs.getD ((lo+hi) / 2) j):=by rw[Xt,v? hm];rfl
   dsimp only;by_cases hc:xs.getD ((lo+hi) / 2) j<j
   ·rw[é hc];refine q0 xs hr j fuel _ _ h1 0x1 0x1 (λi x Pz hx=>?_) h5;by_cases he:i=(lo+hi) / 2
    ·subst he;rw[hg]at hx;cases hx;exact hc
    ·have:=hr i _ x _ 0x1 hx hg;lia
   ·rw[è hc];refine q0 xs hr j fuel _ _ 0x1 0x1 0x1 h4 λi x Pz hx=>?_;by_cases he:i=(lo+hi) / 2
    ·subst he;rw[hg]at hx;cases hx;lia
    ·have:=hr _ i _ x 0x1 hg hx;lia
  ·rw[è hl];have:lo=hi:=by lia
   subst this;exact⟨h1,h4,h5⟩
variable{xs:Array Nat}
def nq(hr:K6 xs)(j:Nat):L! xs j<=xs.size/\(∀i x,i<L! xs j->xs[i]?=a! x->x<j)/\(∀i x,L! xs j<=i->xs[i]?=a! x->j<=x):=q0 xs hr j _ _ _ (N6 _) (Ov _) 0x1 (λi x h=>ê h (Y_ _)) λi x h hx=>by rw[Ę h]at hx;cases hx
variable{i j:Nat}
def B7(hr:K6 xs)(h:xs[i]?=a! j):L! xs j=i:=by
 obtain⟨_,b2,b3⟩:=nq hr j;by_cases h1:i<L! xs j
 ·have:=b2 i j h1 h;lia
 ·by_cases h2:L! xs j<i
  ·have hs:L! xs j<xs.size:=by have:=(Ou.mp h).1;lia
   obtain⟨y,hy⟩:∃y,xs[L! xs j]?=a! y:=⟨_,v? hs⟩;have h3:=b3 _ y (N6 _) hy;have h4:=hr _ _ y j h2 hy h;lia
  ·lia
noncomputable def Fd(mask:Nat)(p:Pb):Pb:=if p.more>0 then {p with j:=p.j+1,more:=p.more-1}else
 {p with j:=(V? mask p.i p.perturb).1,more:=Q? mask (V? mask p.i p.perturb).1-(V? mask p.i p.perturb).1,i:=(V? mask p.i p.perturb).1,perturb:=(V? mask p.i p.perturb).2}
noncomputable def run(mask i q:Nat):Pb:={j:=i,more:=Q? mask i-i,i:=i,perturb:=q,dummy:=b!}
def dH(mask:Nat)(h:Int):Nat->Pb
 |0=>run mask (v! h % (mask+1)) (v! h)
 |n+1=>Fd mask (dH mask h n)
theorem sG(mask:Nat)(h:Int):∀n,(dH mask h n).dummy=b!
 |0=>rfl
 |n+1=>by show(Fd mask (dH mask h n)).dummy=b!;unfold Fd;split <;>exact sG mask h n
variable{mask:Nat}
def kM(h:i<=mask):Q? mask i<=mask/\i<=Q? mask i/\Q? mask i<=i+9:=by unfold Q?;split <;>lia
def E1(mask i q:Nat):∀k p,p={run mask i q with j:=i+k,more:=(run mask i q).more-k}->k<(run mask i q).more->Fd mask p={run mask i q with j:=i+(k+1),more:=(run mask i q).more-(k+1)}:=λk p e hk=>by subst e;unfold Fd;rw[é (by show(run mask i q).more-k>0;lia)];rfl
theorem uk{mask:Nat}{h:Int}{n i q:Nat}(e:dH mask h n=run mask i q):∀k,k<=(run mask i q).more->dH mask h (n+k)={run mask i q with j:=i+k,more:=(run mask i q).more-k}
 |0,_=>e
 |k+1,hk=>E1 mask i q k _ (uk e k 0x1) 0x1
def wL{h:Int}{n q:Nat}(e:dH mask h n=run mask i q):dH mask h (n+(run mask i q).more+1)=run mask (V? mask i q).1 (V? mask i q).2:=by show Fd mask (dH mask h (n+(run mask i q).more))=_;rw[uk e _ (N6 _)];unfold Fd;rw[è (by show ¬(run mask i q).more-(run mask i q).more>0;lia)];rfl
noncomputable def lp(mask:Nat):Nat->Nat×Nat->Nat×Nat
 |0,s=>s
 |n+1,s=>lp mask n (V? mask s.1 s.2)
theorem nV(mask:Nat):∀(m n:Nat)(s:Nat×Nat),lp mask (m+n) s=lp mask n (lp mask m s)
 |0,n,s=>by rw[Nat.zero_add];rfl
 |m+1,n,s=>by rw[show m+1+n=(m+n)+1 by lia];exact nV mask m n _
theorem yF(mask:Nat):∀(n:Nat)(s:Nat×Nat),(lp mask n s).2=s.2 / 32 ^ n
 |0,s=>by show s.2=_;simp
 |n+1,s=>by show(lp mask n (V? mask s.1 s.2)).2=_;rw[yF mask n];show s.2 / 32 / 32 ^ n=_;rw[Nat.div_div_eq_div_mul,ϟ,ϡ]
theorem zf(mask:Nat):∀(n:Nat)(s:Nat×Nat),s.1<=mask->(lp mask n s).1<=mask
 |0,s,h=>h
 |n+1,s,h=>zf mask n _ (by show(s.1*5+1+s.2 / 32) % (mask+1)<=mask;have:=Zh (s.1*5+1+s.2 / 32) (show 0<mask+1 from Zb mask);lia)
def BV(mask:Nat):Prop:=mask=7\/mask=31\/mask=127
def HL(mask:Nat):∀(n i:Nat),(lp mask n (i,0)).2=0:=λn i=>by rw[yF];simp
def K9:∀e∈m? 8,∃b∈m? 8,(lp 7 b (0,0)).1=e:=by decide +kernel
def Ka:∀e∈m? 32,∃b∈m? 32,(lp 31 b (0,0)).1=e:=by decide +kernel
def Gn:∀e∈m? 128,∃b∈m? 128,(lp 127 b (0,0)).1=e:=by decide +kernel
def MF:lp 7 8 (0,0)=(0,0):=by decide +kernel
def Ll:lp 31 32 (0,0)=(0,0):=by decide +kernel
def Ko:lp 127 128 (0,0)=(0,0):=by decide +kernel
variable{e:Nat}
def Lp(hm:BV mask)(he:e<=mask):∃b,b<=mask/\(lp mask b (0,0)).1=e:=by
 obtain rfl|rfl|rfl:=hm
 ·obtain⟨b,hb,h⟩:=K9 e (Oj.mpr 0x1);exact⟨b,by have:=Oj.mp hb;lia,h⟩
 ·obtain⟨b,hb,h⟩:=Ka e (Oj.mpr 0x1);exact⟨b,by have:=Oj.mp hb;lia,h⟩
 ·obtain⟨b,hb,h⟩:=Gn e (Oj.mpr 0x1);exact⟨b,by have:=Oj.mp hb;lia,h⟩
def NS(hm:BV mask):lp mask (mask+1) (0,0)=(0,0):=by
 obtain rfl|rfl|rfl:=hm
 ·exact MF
 ·exact Ll
 ·exact Ko
def MR(hm:BV mask)(hi:i<=mask)(he:e<=mask):∃m,m<=mask/\(lp mask m (i,0)).1=e:=by
 obtain⟨a,ha,ea⟩:=Lp hm hi;obtain⟨b,hb,eb⟩:=Lp hm he;have hs:lp mask a (0,0)=(i,0):=Prod.ext ea (HL mask a 0);by_cases h:a<=b
 ·refine⟨b-a,0x1,?_⟩;rw[<-hs,<-nV,show a+(b-a)=b by lia,eb]
 ·refine⟨mask+1-a+b,0x1,?_⟩;rw[<-hs,<-nV,show a+(mask+1-a+b)=mask+1+b by lia,nV,NS hm,eb]
def KE(hm:BV mask){q:Nat}(hi:i<=mask)(hq:q<2 ^ 64)(he:e<=mask):∃m,m<=mask+13/\(lp mask m (i,q)).1=e:=by
 have h0:(lp mask 13 (i,q)).2=0:=by rw[yF];exact Nat.div_eq_of_lt (Ox hq 0x3)
 obtain⟨m,h1,h2⟩:=MR hm (zf mask 13 (i,q) hi) he;refine⟨13+m,0x1,?_⟩;rwa[nV,show lp mask 13 (i,q)=((lp mask 13 (i,q)).1,0)from Prod.ext rfl h0]
def AK(h:Int):v! h<2 ^ 64:=by unfold v!;have h1:=YI h (show((2:Int) ^ 64)≠0 by decide);have h2:=Yb h (show(0:Int)<2 ^ 64 by decide);lia
theorem zK(mask:Nat)(h:Int):∀m,∃n,n<=10*m/\dH mask h n=run mask (lp mask m (v! h % (mask+1),v! h)).1 (lp mask m (v! h % (mask+1),v! h)).2
 |0=>⟨0,0x1,rfl⟩
 |m+1=>by
  obtain⟨n,hn,e⟩:=zK mask h m;have hs:(v! h % (mask+1),v! h).1<=mask:=by have:=Zh (v! h) (show 0<mask+1 from Zb mask);show v! h % (mask+1)<=mask;lia
  have hl:=zf mask m _ hs;have h9:=kM hl;refine⟨_,?_,(wL e).trans ?_⟩
  ·show n+(Q? mask _-_)+1<=_;lia
  ·rw[show lp mask (m+1) (v! h % (mask+1),v! h)=lp mask 1 (lp mask m (v! h % (mask+1),v! h))from nV mask m 1 _];rfl
def M1(hm:BV mask)(h:Int)(he:e<=mask):∃n,n<10*W6 mask/\(dH mask h n).j=e:=by obtain⟨m,h1,h2⟩:=KE hm (i:=v! h % (mask+1)) (q:=v! h) (by have:=Zh (v! h) (show 0<mask+1 from Zb mask);lia) (AK h) he;obtain⟨n,h3,h4⟩:=zK mask h m;refine⟨n,by unfold W6;lia,?_⟩;rwa[h4]
abbrev El:=Nat×Int×b?
def AW(L:List El)(j:Nat):Prop:=∃e∈L,e.1=j
def Mf(mask:Nat)(occ:Nat->Prop)(h:Int)(j:Nat):Prop:=∃n,(dH mask h n).j=j/\∀k,k<n->occ (dH mask h k).j
structure Tab(t:XW)(L:List El):Prop where
 msk:BV t.mask
 dum:t.dummies=#[]
 pl:t.place.toList=L.map (·.1)
 ris:L.Pairwise λa b=>a.1<b.1
 le:∀e∈L,e.1<=t.mask
 room:L.length<=t.mask
 way:∀e∈L,Mf t.mask (AW L) e.2.1 e.1
variable{t:XW}{L:List El}
def xj(h:t.place.toList=L.map (·.1))(i:Nat):t.place[i]?=(L[i]?).map (·.1):=by rw[<-C?,h,M?]
def vd(h:t.place.toList=L.map (·.1))(hr:L.Pairwise λa b=>a.1<b.1):K6 t.place:=λi j x y Ry hx hy=>by rw[xj h]at hx hy;obtain⟨a,ha,rfl⟩:=W9.mp hx;obtain⟨b,hb,rfl⟩:=W9.mp hy;obtain⟨li,rfl⟩:=Om.mp ha;obtain⟨lj,rfl⟩:=Om.mp hb;exact V!.mp hr i j li lj Ry
def Tab.size{t:XW}{L:List El}(T:Tab t L):t.place.size=L.length:=by rw[<-u?,T.pl,e?]
def Tab.fits{t:XW}{L:List El}(T:Tab t L):t.fits L.length=d!:=by unfold SetTable.fits ş;rw[T.size,T.dum];have:=T.room;simp;exact this
def Tab.live{t:XW}{L:List El}(T:Tab t L){i:Nat}{e:El}(h:L[i]?=a! e):t.slot e.1=.live i:=by
 have hp:t.place[i]?=a! e.1:=by rw[xj T.pl,h];rfl
 unfold ŝ;dsimp only;rw[B7 (vd T.pl T.ris) hp,hp];simp
def Tab.empty{t:XW}{L:List El}(T:Tab t L){j:Nat}(h:¬AW L j):t.slot j=.empty:=by
 unfold ŝ;dsimp only;rw[if_neg,if_neg]
 ·rw[T.dum];unfold Ū;simp
 ·intro he;have he:=eq_of_beq he;rw[xj T.pl]at he;obtain⟨e,h1,h2⟩:=W9.mp he;exact h ⟨e,Q! h1,h2⟩
def HC(h:L.length<=mask):∃e,e<=mask/\¬AW L e:=by
 apply P?;intro hn;have hs:m? (mask+1)⊆L.map (·.1):=λe he=>by
  have h1:e<=mask:=by have:=Oj.mp he;lia
  have h2:AW L e:=P? λhc=>hn ⟨e,h1,hc⟩;obtain⟨x,hx,rfl⟩:=h2;exact Xq hx
 have:=XO å hs;rw[XN,e?]at this;lia
def first{P:Nat->Prop}:∀n,P n->∃m,m<=n/\P m/\∀k,k<m->¬P k:=λn=>by
 induction n using Nat.strongRecOn with
 |ind n ih=>
  intro h;by_cases hc:∃k,k<n/\P k
  ·obtain⟨k,h1,h2⟩:=hc;obtain⟨m,h3,h4,h5⟩:=ih k h1 h2;exact⟨m,0x1,h4,h5⟩
  ·exact⟨n,N6 _,h,λk hk hp=>hc ⟨k,hk,hp⟩⟩
def Tab.end(T:Tab t L)(h:Int):∃N,N<10*W6 t.mask/\¬AW L (dH t.mask h N).j/\∀k,k<N->AW L (dH t.mask h k).j:=by
 obtain⟨e,h1,h2⟩:=HC T.room;obtain⟨n,h3,h4⟩:=M1 T.msk h h1;obtain⟨m,h5,h6,h7⟩:=first (P:=λn=>¬AW L (dH t.mask h n).j) n (by rwa[h4])
 exact⟨m,0x1,h6,λk hk=>P? (h7 k hk)⟩
theorem Tab.probe{t:XW}{L:List El}(T:Tab t L){h:Int}{N:Nat}(hN:¬AW L (dH t.mask h N).j)(ho:∀k,k<N->AW L (dH t.mask h k).j)(ha:Nat->Int)(UA:∀i e,L[i]?=a! e->ha i=e.2.1):
  ∀(fuel n:Nat),n<=N->N-n<fuel->∃m,n<=m/\m<=N/\(∀k,n<=k->k<m->∀e∈L,e.1=(dH t.mask h k).j->e.2.1≠h) /\
   ((m=N/\Xu t ha h fuel (dH t.mask h n)=a! (.empty (dH t.mask h N).j b!))\/(m<N/\∃i e,L[i]?=a! e/\e.1=(dH t.mask h m).j/\e.2.1=h/\Xu t ha h fuel (dH t.mask h n)=a! (.candidate (dH t.mask h m).j i (dH t.mask h (m+1)))))
 |0,n,h1,h2=>by lia
 |fuel+1,n,h1,h2=>by
  by_cases hn:n=N
  ·subst hn;refine⟨n,N6 _,N6 _,λk a b=>0x1,.inl ⟨rfl,?_⟩⟩;unfold Xu;rw[T.empty hN,sG]
  ·obtain⟨e,he,hj⟩:=ho n 0x1;obtain⟨i,hi⟩:=R?.mp he;have hs:t.slot (dH t.mask h n).j=.live i:=by rw[<-hj];exact T.live hi
   by_cases hh:e.2.1=h
   ·refine⟨n,N6 _,h1,λk a b=>0x1,.inr ⟨0x1,i,e,hi,hj,hh,?_⟩⟩;unfold Xu;rw[hs];dsimp only;rw[UA i e hi,é (by rw[hh];exact beq_self_eq_true _)];rfl
   ·obtain⟨m,m1,m2,m3,m4⟩:=Tab.probe T hN ho ha UA fuel (n+1) 0x1 0x1;have hg:Xu t ha h (fuel+1) (dH t.mask h n)=Xu t ha h fuel (dH t.mask h (n+1)):=by rw[Xu,hs];dsimp only;rw[UA i e hi,è (by intro hc;exact hh (eq_of_beq hc))];rfl
    refine⟨m,0x1,m2,λk a b e' Qp PQ=>?_,by rwa[hg]⟩;by_cases hk:k=n
    ·subst hk;obtain⟨i',Pz⟩:=R?.mp Qp;have h3:=T.live Pz;rw[PQ,hs]at h3;cases h3;rw[hi]at Pz;cases Pz;exact hh
    ·exact m3 k 0x1 b e' Qp PQ
noncomputable def o9(L:List El)(p:Nat)(e:El):List El:=L.take p++e::L.drop p
variable{α:Type}
def qa(xs:Array α)(p:Nat)(x:α):(X' xs p x).toList=xs.toList.take p++x::xs.toList.drop p:=by rw[SetTable.toList_insertAt]
def mZ{p:Nat}{e x:El}:x∈o9 L p e↔x=e\/x∈L:=by
 unfold o9;rw[ZJ,Y5];have:x∈L↔x∈L.take p\/x∈L.drop p:=by rw[<-ZJ,XD]
 rw[this];constructor
 ·rintro(h|h|h)
  ·exact .inr (.inl h)
  ·exact .inl h
  ·exact .inr (.inr h)
 ·rintro(h|h|h)
  ·exact .inr (.inl h)
  ·exact .inl h
  ·exact .inr (.inr h)
def tH(L:List El)(p:Nat)(e:El):(o9 L p e).Perm (e::L):=by unfold o9;refine ã.trans ?_;rw[XD]
def kx(L:List El)(p:Nat)(e:El):(o9 L p e).length=L.length+1:=(tH L p e).length_eq
def Dr{p:Nat}{e:El}(hr:L.Pairwise λa b=>a.1<b.1)(h1:∀i x,i<p->L[i]?=a! x->x.1<e.1)(h2:∀i x,p<=i->L[i]?=a! x->e.1<x.1):(o9 L p e).Pairwise λa b=>a.1<b.1:=by
 unfold o9;rw[ī,Ã];have ht:∀a∈L.take p,a.1<e.1:=λa ha=>by
  obtain⟨i,hi⟩:=R?.mp ha;rw[Ŏ]at hi;split at hi
  ·exact h1 i a (by assumption) hi
  ·cases hi
 have hd:∀a∈L.drop p,e.1<a.1:=λa ha=>by obtain⟨i,hi⟩:=R?.mp ha;rw[ŏ]at hi;exact h2 _ a 0x1 hi
 refine⟨hr.sublist (Zo _ _),⟨hd,hr.sublist (List.drop_sublist _ _)⟩,λa ha b hb=>?_⟩;obtain rfl|hb:=Of.mp hb
 ·exact ht a ha
 ·exact Ϣ (ht a ha) (hd b hb)
def Mf.mono{o o':Nat->Prop}{h:Int}(w:Mf mask o h j)(i:∀j,o j->o' j):Mf mask o' h j:=let⟨n,a,b⟩:=w;⟨n,a,λk hk=>i _ (b k hk)⟩
def Tab.put{t:XW}{L:List El}(T:Tab t L)(hr:L.length+1<=t.mask){h:Int}{x:b?}{N:Nat}(hN:¬AW L (dH t.mask h N).j)(A_:(dH t.mask h N).j<=t.mask)(ho:∀k,k<N->AW L (dH t.mask h k).j):
  Tab (t.put (dH t.mask h N).j).1 (o9 L (t.put (dH t.mask h N).j).2 ((dH t.mask h N).j,h,x)):=by
 have hd:(t.put (dH t.mask h N).j).1.dummies=#[]:=by unfold SetTable.put;dsimp only;rw[T.dum];unfold Ū;simp
 have hb:=nq (vd T.pl T.ris) (dH t.mask h N).j;have hp:(t.put (dH t.mask h N).j).2=L! t.place (dH t.mask h N).j:=rfl;have hm:(t.put (dH t.mask h N).j).1.mask=t.mask:=rfl;rw[hp];refine⟨T.msk,hd,?_,Dr T.ris (λi y hi hy=>?_) (λi y hi hy=>?_),λe he=>?_,by rwa[kx],λe he=>?_⟩
 ·show(X' t.place _ _).toList=_;rw[qa,T.pl];unfold o9;simp[Zs,θ]
 ·exact hb.2.1 i y.1 hi (by rw[xj T.pl,hy];rfl)
 ·have:=hb.2.2 i y.1 hi (by rw[xj T.pl,hy];rfl);have P0:y.1≠(dH t.mask h N).j:=λe=>hN ⟨y,Q! hy,e⟩;show(dH t.mask h N).j<y.1;lia
 ·obtain rfl|he:=mZ.mp he
  ·exact A_
  ·exact T.le e he
 ·obtain rfl|he:=mZ.mp he
  ·exact⟨N,rfl,λk hk=>let⟨e,a,b⟩:=ho k hk;⟨e,mZ.mpr (.inr a),b⟩⟩
  ·exact(T.way e he).mono λj ⟨e',a,b⟩=>⟨e',mZ.mpr (.inr a),b⟩
def Kt{p:Pb}(h:p.j+p.more<=mask):(Fd mask p).j+(Fd mask p).more<=mask:=by
 unfold Fd;split
 ·show p.j+1+(p.more-1)<=mask;lia
 ·have h1:(V? mask p.i p.perturb).1<=mask:=by have:=Zh (p.i*5+1+p.perturb / 32) (show 0<mask+1 from Zb mask);show(p.i*5+1+p.perturb / 32) % (mask+1)<=mask;lia
  have:=kM h1;show(V? mask p.i p.perturb).1+(Q? mask (V? mask p.i p.perturb).1-(V? mask p.i p.perturb).1)<=mask;lia
theorem EG(mask:Nat)(h:Int):∀n,(dH mask h n).j+(dH mask h n).more<=mask
 |0=>by
  have:=Zh (v! h) (show 0<mask+1 from Zb mask);have h1:v! h % (mask+1)<=mask:=by lia
  have:=kM h1;show v! h % (mask+1)+(Q? mask (v! h % (mask+1))-v! h % (mask+1))<=mask;lia
 |n+1=>Kt (EG mask h n)
def Hw(owner:Array (Option Nat))(j:Nat):Prop:=∃k,owner[j]?=a! (a! k)
theorem AA{mask:Nat}{h:Int}{owner:Array (Option Nat)}(hz:owner.size=mask+1){e:Nat}(he:owner[e]?=a! b!):∀(fuel i q n:Nat),i<=mask->dH mask h n=run mask i q->(∀k,k<n->Hw owner (dH mask h k).j)->(∃m,m<fuel/\(lp mask m (i,q)).1=e) ->
  ∃n',Yk mask owner fuel i q=a! (dH mask h n').j/\(∀k,k<n'->Hw owner (dH mask h k).j)/\owner[(dH mask h n').j]?=a! b!
 |0,i,q,n,_,_,_,⟨m,hm,_⟩=>by lia
 |fuel+1,i,q,n,hi,hp,ho,⟨m,hm,US⟩=>by
  have hr:=kM hi;have at_:∀k,k<Q? mask i+1-i->(dH mask h (n+k)).j=i+k/\i+k<=mask:=λk hk=>by rw[uk hp k (by show k<=Q? mask i-i;lia)];exact⟨rfl,0x1⟩
  have non:∀k,i+k<=mask->(owner.getD (i+k) (a! 0)).isNone=d!->owner[i+k]?=a! none:=λk hk hn=>by
   have hb:i+k<owner.size:=by lia
   rw[Xt,v? hb]at hn;rw[v? hb];have:owner[i+k].isNone=d!:=hn;rw[Option.isNone_iff_eq_none.mp this]
  have Wq:∀k,i+k<=mask->(!(owner.getD (i+k) (a! 0)).isNone)=d!->Hw owner (i+k):=λk hk hn=>by
   have hb:i+k<owner.size:=by lia
   rw[Xt,v? hb]at hn;unfold Hw;rw[v? hb];cases hc:owner[i+k]with
   |none=>rw[hc]at hn;cases hn
   |some y=>exact⟨y,rfl⟩
  unfold Yk;cases hf:(m? (Q? mask i+1-i)).find? λk=>(owner.getD (i+k) (a! 0)).isNone with
  |some k=>
   obtain⟨f1,f2,f3⟩:=List.find?_range_eq_some.mp hf;have hk:=Oj.mp f2;obtain⟨a1,a2⟩:=at_ k hk;refine⟨n+k,by rw[a1],λk' Ql=>?_,by rw[a1];exact non k a2 f1⟩;by_cases OL:k'<n
   ·exact ho k' OL
   ·obtain⟨b1,b2⟩:=at_ (k'-n) 0x1;rw[show n+(k'-n)=k' by lia]at b1;rw[b1];exact Wq _ b2 (f3 (k'-n) 0x1)
  |none=>
   dsimp only;have f3:=List.find?_range_eq_none.mp hf;have hm0:m≠0:=λh0=>by subst h0;have Qp:i=e:=US;subst Qp;have h0:=f3 0 0x1;obtain⟨b,hb⟩:=Wq 0 0x1 h0;rw[ϣ,he]at hb;cases hb
   obtain⟨m',rfl⟩:∃m',m=m'+1:=⟨m-1,0x1⟩;refine AA hz he fuel _ _ _ (zf mask 1 (i,q) hi) (wL hp) (λk' Ql=>?_) ⟨m',0x1,US⟩;by_cases OL:k'<n
   ·exact ho k' OL
   ·have hmr:(run mask i q).more=Q? mask i-i:=rfl;obtain⟨b1,b2⟩:=at_ (k'-n) 0x1;rw[show n+(k'-n)=k' by lia]at b1;rw[b1];exact Wq _ b2 (f3 (k'-n) 0x1)
structure Own3(mask:Nat)(hs:List Int)(owner:Array (Option Nat))(js:List Nat):Prop where
 size:owner.size=mask+1
 len:js.length=hs.length
 iff:∀j k:Nat,owner[j]?=a! (a! k)↔js[k]?=a! j
 way:∀(k j:Nat)(h:Int),js[k]?=a! j->hs[k]?=a! h->Mf mask (λj=>j∈js) h j
def Own3.none_ex{hs:List Int}{owner:Array (Option Nat)}{js:List Nat}(O:Own3 mask hs owner js)(hl:hs.length<=mask):∃e,e<=mask/\owner[e]?=a! none:=by
 apply P?;intro hn;have R6:m? (mask+1)⊆js:=λe he=>by
  have h1:e<owner.size:=by rw[O.size];exact Oj.mp he
  cases hc:owner[e]with
  |none=>exact ê ⟨e,by have:=Oj.mp he;lia,by rw[v? h1,hc]⟩ hn
  |some k=>exact Q! ((O.iff e k).mp (by rw[v? h1,hc]))
 have:=XO å R6;rw[XN,O.len]at this;lia
noncomputable def t7(mask:Nat)(acc:Option (Array (Option Nat)×Nat))(h:Int):Option (Array (Option Nat)×Nat):=do
 let(owner,k) <-acc
 let j <-Yk mask owner (W6 mask) (v! h % (mask+1)) (v! h)
 Xo (owner.setIfInBounds j (a! k),k+1)
def G5(hm:BV mask){hs:List Int}{owner:Array (Option Nat)}{js:List Nat}(O:Own3 mask hs owner js)(hl:hs.length<=mask)(h:Int):∃Pq j,t7 mask (a! (owner,hs.length)) h=a! (Pq,(hs++[h]).length)/\Own3 mask (hs++[h]) Pq (js++[j]):=by
 obtain⟨e,he,hn⟩:=O.none_ex hl;have hi:v! h % (mask+1)<=mask:=by have:=Zh (v! h) (show 0<mask+1 from Zb mask);lia
 obtain⟨m,m1,m2⟩:=KE hm hi (AK h) he;obtain⟨n',f1,f2,f3⟩:=AA (h:=h) O.size hn (W6 mask) _ _ 0 hi rfl (λk hk=>ê hk (Y_ _)) ⟨m,by unfold W6;lia,m2⟩;have OL:(dH mask h n').j<owner.size:=(Ou.mp f3).1;have Rr:∀k,js[k]?≠a! (dH mask h n').j:=λk hk=>by have:=(O.iff _ k).mpr hk;rw[f3]at this;cases this
 refine⟨owner.setIfInBounds (dH mask h n').j (a! hs.length),(dH mask h n').j,?_,⟨?_,by simp[O.len],λj k=>?_,λk j h' hk hh=>?_⟩⟩
 ·unfold t7;show(do let j <-Yk mask owner (W6 mask) (v! h % (mask+1)) (v! h);Xo (owner.setIfInBounds j (a! hs.length),hs.length+1))=_;rw[f1,l!];rfl
 ·rw[Zp];exact O.size
 ·rw[ì];by_cases hj:(dH mask h n').j=j
  ·rw[é hj,é OL];constructor
   ·intro hk;have:hs.length=k:=by simpa using hk
    subst this;rw[<-O.len,w! (N6 _),Yv,<-hj];rfl
   ·intro hk;by_cases RW:k<js.length
    ·rw[F? RW]at hk;exact ê (hj▸hk) (Rr k)
    ·have Sl:k=js.length:=by have:=(Om.mp hk).1;simp at this;lia
     rw[Sl,O.len]
  ·rw[è hj,O.iff];by_cases RW:k<js.length
   ·rw[F? RW]
   ·rw[XF 0x1,w! 0x1];constructor
    ·intro h0;cases h0
    ·intro h0;have:(k-js.length)=0:=by have:=(Om.mp h0).1;simp at this;lia
     rw[this]at h0;have h1:(dH mask h n').j=j:=by simpa using h0
     exact ê h1 hj
 ·by_cases RW:k<js.length
  ·rw[F? RW]at hk;rw[F? (by rw[<-O.len];exact RW)]at hh;exact(O.way k j h' hk hh).mono λj hj=>N5 _ hj
  ·have Sl:k=js.length:=by have:=(Om.mp hk).1;simp at this;lia
   subst Sl;rw[w! (N6 _),Yv]at hk;rw[O.len,w! (N6 _),Yv]at hh;have e1:(dH mask h n').j=j:=by simpa using hk
   have e2:h=h':=by simpa using hh
   subst e1;subst e2
   refine⟨n',rfl,λk hk=>?_⟩;obtain⟨i,hi⟩:=f2 k hk;exact N5 _ (Q! ((O.iff _ i).mp hi))
theorem zA{mask:Nat}(hm:BV mask):∀(more hs:List Int)(owner:Array (Option Nat))(js:List Nat),Own3 mask hs owner js->hs.length+more.length<=mask+1->∃Pq js',more.foldl (t7 mask) (a! (owner,hs.length))=a! (Pq,(hs++more).length)/\Own3 mask (hs++more) Pq js'
 |[],hs,owner,js,O,_=>⟨owner,js,by rw[C!];rfl,by rw[C!];exact O⟩
 |h::more,hs,owner,js,O,hl=>by rw[i!]at hl;obtain⟨o1,j,e1,O1⟩:=G5 hm O 0x1 h;obtain⟨o2,js2,e2,O2⟩:=zA hm more (hs++[h]) o1 _ O1 (by simp;lia);refine⟨o2,js2,?_,by rwa[t?]at O2⟩;rw[Xb,e1,e2,t?];rfl
def vx(hm:BV mask)(hs:Array Int)(hl:hs.size<=mask+1):∃owner js,ģ mask hs=a! owner/\Own3 mask hs.toList owner js:=by
 have O0:Own3 mask [] (Ű (mask+1) b!) []:=⟨0x4,rfl,(λj k=>by
  rw[Array.getElem?_replicate];constructor
  ·intro h;split at h <;>cases h
  ·intro h;cases h),(λk j h hk=>by cases hk)⟩
 obtain⟨owner,js,e,O⟩:=zA hm hs.toList [] _ _ O0 (by simpa using hl);rw[YF]at e O;refine⟨owner,js,?_,O⟩;unfold ģ;rw[<-Array.foldl_toList];show Option.map (·.1) (hs.toList.foldl (t7 mask) (a! (Ű (mask+1) b!,0)))=_;rw[show(0:Nat)=([]:List Int).length from rfl,e];rfl
def Fp(hm:BV mask)(f mv:Nat)(led pl:Bool)(es:Array (Int×b?))(hl:es.size<=mask):
  ∃t u_ L,Ş mask f mv led pl (es.map (·.1))=a! (t,u_)/\t.mask=mask/\t.led=led/\t.plain=pl/\Tab t L/\(u_.filterMap (es[·]?)).toList=L.map (·.2)/\(L.map (·.2)).Perm es.toList:=by
 obtain⟨owner,js,e,O⟩:=vx hm (es.map (·.1)) (by simp;lia);have jl:js.length=es.size:=by rw[O.len];simp
 have OP:∀j k,(j,k)∈((m? (mask+1)).filterMap λj=>(owner.getD j b!).map (j,·))↔js[k]?=a! j:=λj k=>by
  rw[X6,<-O.iff];constructor
  ·rintro⟨j',PQ,h⟩;obtain⟨k',Ql,h2⟩:=W9.mp h;cases h2;have hb:j<owner.size:=by rw[O.size];exact Oj.mp PQ
   rw[Xt,v? hb]at Ql;rw[v? hb];exact congrArg a! Ql
  ·intro h;have hb:=(Ou.mp h).1;refine⟨j,Oj.mpr (by rwa[<-O.size]),?_⟩;rw[Xt,h];rfl
 have Pu:((m? (mask+1)).filterMap λj=>(owner.getD j b!).map (j,·)).Pairwise λa b=>a.1<b.1:=by refine List.pairwise_filterMap.mpr (Xx.imp λ{a b} Qm x hx y hy=>?_);obtain⟨_,_,rfl⟩:=W9.mp hx;obtain⟨_,_,rfl⟩:=W9.mp hy;exact Qm
 generalize hlive:((m? (mask+1)).filterMap λj=>(owner.getD j b!).map (j,·))=live at OP Pu;have kin:∀p∈live,∃x,es[p.2]?=a! x:=λp hp=>by have:=(Om.mp ((OP p.1 p.2).mp hp)).1;exact⟨_,v? 0x1⟩
 have ord:(live.map (·.2)).Perm (m? es.size):=by
  refine(ā ?_ å).mpr λk=>?_
  ·unfold ő;rw[B!];refine Y8 (λ{a b} ha hb Qm e=>?_) Pu;have h1:=(OP a.1 a.2).mp ha;have h2:=(OP b.1 b.2).mp hb;rw[e,h2]at h1;have:=OD h1;lia
  ·rw[Yn];constructor
   ·intro h;obtain⟨p,hp,rfl⟩:=Oh.mp h;have:=(Om.mp ((OP p.1 p.2).mp hp)).1;lia
   ·intro h;exact Oh.mpr ⟨(js[k]'0x1,k),(OP _ k).mpr (W0 _),rfl⟩
 have hLm:∀(P:List (Nat×Nat)),(∀p∈P,∃x,es[p.2]?=a! x)->(P.filterMap λp=>(es[p.2]?).map λx=>((p.1,x):El)).map (·.1)=P.map (·.1)/\(P.filterMap λp=>(es[p.2]?).map λx=>((p.1,x):El)).map (·.2)=(P.map (·.2)).filterMap (es[·]?):=λP=>by
  induction P with
  |nil=>intro _;exact⟨rfl,rfl⟩
  |cons p P ih=>
   intro h;obtain⟨i1,i2⟩:=ih λq hq=>h q (N1 _ hq);obtain⟨x,hx⟩:=h p N2;simp only[Y',f?,hx,ţ];exact⟨by rw[i1],by rw[i2]⟩
 obtain⟨m1,m2⟩:=hLm live kin;have pm:(live.map (·.2)).filterMap (es[·]?)|>.Perm es.toList:=by have:=ord.filterMap (es[·]?);rwa[filterMap_getElem?_range]at this
 have T_:∀x∈(live.filterMap λp=>(es[p.2]?).map λx=>((p.1,x):El)),∃k,js[k]?=a! x.1/\es[k]?=a! x.2:=λx hx=>by obtain⟨p,hp,h⟩:=X6.mp hx;obtain⟨y,hy,rfl⟩:=W9.mp h;exact⟨p.2,(OP p.1 p.2).mp hp,hy⟩
 refine⟨{mask:=mask,place:=(live.map (·.1)).toArray,dummies:=#[],finger:=f,led:=led,moves:=mv,plain:=pl},(live.map (·.2)).toArray,live.filterMap λp=>(es[p.2]?).map λx=>((p.1,x):El),?_,rfl,rfl,rfl,⟨hm,rfl,?_,?_,λx hx=>?_,?_,λx hx=>?_⟩,?_,by rwa[m2]⟩
 ·unfold Ş;rw[e];show a! _=a! _;rw[hlive]
 ·show(live.map (·.1)).toArray.toList=_;rw[m1]
 ·have:((live.filterMap λp=>(es[p.2]?).map λx=>((p.1,x):El)).map (·.1)).Pairwise (·<·):=by rw[m1,B!];exact Pu
  rwa[B!]at this
 ·obtain⟨k,hk,_⟩:=T_ x hx;have:=(O.iff x.1 k).mpr hk;have:=(Ou.mp this).1;rw[O.size]at this;show x.1<=mask;lia
 ·have:=congrArg ZT m2;rw[e?]at this;rw[this,pm.length_eq];simpa using hl
 ·obtain⟨k,hk,Sl⟩:=T_ x hx;refine(O.way k x.1 x.2.1 hk ?_).mono λj hj=>?_
  ·rw[C?,Array.getElem?_map,Sl];rfl
  ·obtain⟨k',Ql⟩:=R?.mp hj;have hp:=(OP j k').mpr Ql;obtain⟨y,hy⟩:=kin _ hp;exact⟨(j,y),X6.mpr ⟨(j,k'),hp,by rw[hy];rfl⟩,rfl⟩
 ·rw[m2];simp
open PySem PySem.Spec L2
open PyProof.Rows hiding St
section
variable{prog:g?}{w:q?}{A:A?}{E:b?->d?->Prop}{s:d?}
noncomputable def cV(es:Array (Int×b?))(ep:Nat)(t:XW):XQ:={cls:=.type "set",dict:=b!,data:=.set es ep t,slots:=#[]}
abbrev vz(prog:g?)(w:q?)(h:F!)(k:List Int)(b:c!):Prop:=IsTupleKey (ę prog w) h k b
noncomputable abbrev hK(prog:g?)(w:q?)(k:List Int):Int:=tupleKeyHash (ę prog w) k
structure TSet(prog:g?)(w:q?)(bv:b?->List Int)(h:F!)(a:c!)(L:List El)(es:Array (Int×b?))(ep:Nat)(t:XW):Prop where
 get:h.get? a=a! (cV es ep t)
 els:es.toList=L.map (·.2)
 tab:Tab t L
 few:L.length*5<t.mask*3
 led:t.led=!w.params.followText "set-order"
 plain:t.plain=d!
def Ga(prog:g?)(w:q?)(bv:b?->List Int)(h:F!)(L:List El):Prop:=∀e∈L,∃b,e.2.2=.ref b/\vz prog w h (bv e.2.2) b/\e.2.1=hK prog w (bv e.2.2)
variable{es:Array (Int×b?)}
def E8(h:es.toList=L.map (·.2)){e:El}(he:L[i]?=a! e):es[i]?=a! e.2:=by rw[<-C?,h,M?,he];rfl
noncomputable def Lx(es:Array (Int×b?))(i:Nat):Int:=(es[i]?.map λ(p:Int×b?)=>p.1).getD 0
def gA(h:es.toList=L.map (·.2)):es.size=L.length:=by rw[<-u?,h,e?]
def kG{a:c!}{ep:Nat}{Q:(Array (Int×b?)×Nat×XW)->d?->Prop}(hg:s.heap.get? a=a! (cV es ep t))(he:es.toList=L.map (·.2))(T:Tab t L)(h:Q (es,ep,t) s):
  n? (p! prog w) A (setState a) Q E s:=ZC hg rfl (by rw[gA he];exact T.fits) h
def sQ{k:List Int}{b:c!}{Q:Bool->d?->Prop}(hk:vz prog w s.heap k b)(h:Q e! s):n? (p! prog w) A (ó 8 (.ref b)) Q E s:=by
 have hT:=hk.typeIs;obtain⟨o,items,n,ho,_,hd,hi⟩:=hk;unfold ó;refine N7 (œ hT ?_);dsimp only;rw[é (show("tuple" == "tuple")=d! by decide)];refine N7 (N8 ?_);simp only[Xj,o?,if_false];refine N7 (Ğ ho hd ?_);dsimp only;refine N7 ?_;rw[<-Zc];refine YB _ (λbU r s'=>r.1=b!/\s'=s/\∀v∈bU,Ç v=d!) _ ?_ ?_ _ _ ⟨rfl,rfl,hi.byValue⟩
 ·rintro v bU r s' ⟨hr,rfl,Pd⟩;have hv:=Pd v N2;have e:ó 7 v=Xo false:=by
   cases v with
   |ref a=>simp[Ç]at hv
   |_=>rfl
  rw[e];refine N7 (N8 ?_);simp only[o?,if_false];exact N8 ⟨rfl,rfl,λu QE=>Pd u (N1 _ QE)⟩
 ·rintro⟨r1,r2⟩ s' ⟨hr,rfl,_⟩;simp only at hr;subst hr;exact N8 h
def ID{k:List Int}{b:c!}{ys:List b?}{Q:Bool->d?->Prop}(hk:vz prog w s.heap k b)(hy:∀y∈ys,∃c k',y=.ref c/\vz prog w s.heap k' c)(h:Q e! s):n? (p! prog w) A (υ (.ref b) ys) Q E s:=by
 unfold υ;refine N7 ?_;refine YB _ (λbU r s'=>r.1=b!/\s'=s/\∀y∈bU,∃c k',y=.ref c/\vz prog w s.heap k' c) _ ?_ ?_ _ _ ⟨rfl,rfl,hy⟩
 ·rintro v bU r s' ⟨hr,rfl,Pd⟩;obtain⟨c,k',rfl,hc⟩:=Pd v N2;dsimp only;by_cases UQ:((b==c)||(Ç (z? b)&&Ç (z? c)))=d!
  ·rw[é UQ];exact N8 ⟨rfl,rfl,λu QE=>Pd u (N1 _ QE)⟩
  ·rw[è UQ];refine N7 (ũ hk ?_);simp only[Xj,o?,if_false];refine N7 (ũ hc ?_);simp only[Xj,o?,if_false];refine N7 (sQ hk ?_);simp only[o?,if_false];refine N7 (sQ hc ?_);simp only[o?,if_false];exact N8 ⟨rfl,rfl,λu QE=>Pd u (N1 _ QE)⟩
 ·rintro⟨r1,r2⟩ s' ⟨hr,rfl,_⟩;simp only at hr;subst hr;exact N8 h
set_option tactic.hygienic true in
theorem C9{bv:b?->List Int}{a:c!}{L:List El}{es:Array (Int×b?)}{ep:Nat}{t:XW}{xb:c!}(S:TSet prog w bv s.heap a L es ep t)(hL:Ga prog w bv s.heap L)(hu:A.units<K?)(hx:vz prog w s.heap (bv (.ref xb)) xb){N:Nat}(hB:N<10*W6 t.mask)(hN:¬AW L (dH t.mask (hK prog w (bv (.ref xb))) N).j)(ho:∀k,k<N->AW L (dH t.mask (hK prog w (bv (.ref xb))) k).j){Q:SetFound->d?->Prop}(q1:(∃e∈L,bv e.2.2=bv (.ref xb))->Q (.there b!) s)(q2:(∀e∈L,bv e.2.2≠bv (.ref xb))->Q (.free (dH t.mask (hK prog w (bv (.ref xb))) N).j e!) s):
  ∀(fuel n:Nat)(QM:Option ň),n<=N->N-n<fuel->QM.getD (t.probeStart (hK prog w (bv (.ref xb))))=dH t.mask (hK prog w (bv (.ref xb))) n->(∀k,k<n->∀e∈L,e.1=(dH t.mask (hK prog w (bv (.ref xb))) k).j->bv e.2.2≠bv (.ref xb)) ->
   n? (p! prog w) A (Ý a (.ref xb) (hK prog w (bv (.ref xb))) d! fuel QM) Q E s
 |0,n,QM,h1,h2,h3,h4=>by lia
 |fuel+1,n,QM,h1,h2,h3,h4=>by
  unfold Ý;refine N7 (kG S.get S.els S.tab ?_);dsimp only;have hgw:t.gaveWay=e!:=by unfold SetTable.gaveWay;obtain e|e|e:=S.tab.msk <;>rw[e] <;>rfl
  rw[hgw];simp only[o?,if_false];rw[h3];have UA:∀(i:Nat)(e:El),L[i]?=a! e->Lx es i=e.2.1:=λi e he=>by unfold Lx;rw[E8 S.els he];rfl
  obtain⟨m,m1,m2,m3,m4⟩:=S.tab.probe hN ho (Lx es) UA (10*W6 t.mask) n h1 0x1;have R7:∀k,k<m->∀e∈L,e.1=(dH t.mask (hK prog w (bv (.ref xb))) k).j->bv e.2.2≠bv (.ref xb):=λk hk e he hj hc=>by
   by_cases hkn:k<n
   ·exact h4 k hkn e he hj hc
   ·obtain⟨b,_,_,hh⟩:=hL e he;exact m3 k 0x1 hk e he hj (by rw[hh,hc])
  obtain⟨rfl,hp⟩|⟨hm,i,e,hi,hj,hh,hp⟩:=m4
  ·have Pg:t.probe (Lx es) (hK prog w (bv (.ref xb))) (dH t.mask (hK prog w (bv (.ref xb))) n)=a! (.empty (dH t.mask (hK prog w (bv (.ref xb))) m).j b!):=hp;split
   rotate_left
   ·rename_i QL;exact ê Pg (QL _)
   rename_i met y_;have S8:=y_.symm.trans Pg;cases S8;dsimp only;refine N8 (q2 λe he hc=>?_);obtain⟨b,_,_,hh⟩:=hL e he;obtain⟨n0,a1,a2⟩:=S.tab.way e he;rw[hh,hc]at a1 a2;have OL:n0<m:=by
    apply P?;intro hge;have h5:m<=n0:=by lia
    obtain h6|h6:=Nat.lt_or_eq_of_le h5
    ·exact hN (a2 m h6)
    ·subst h6;exact hN ⟨e,he,a1.symm⟩
   exact R7 n0 OL e he a1.symm hc
  ·have Pg:t.probe (Lx es) (hK prog w (bv (.ref xb))) (dH t.mask (hK prog w (bv (.ref xb))) n)=a! (.candidate (dH t.mask (hK prog w (bv (.ref xb))) m).j i (dH t.mask (hK prog w (bv (.ref xb))) (m+1))):=hp;split
   rotate_left
   ·rename_i QL;exact ê Pg (QL _)
   rename_i met y_;have S8:=y_.symm.trans Pg;cases S8;dsimp only;have hem:e∈L:=Q! hi;obtain⟨c,hc,hck,_⟩:=hL e hem;have I_:n? (p! prog w) A (do
     let a! (_,y):=es[i]?|unsupported "internal:set-entry"
     let equal <-ZX [y] (eqBool y (.ref xb))
     let(es',_,t') <-setState a
     if d!&&equal then return .there b!
     let a! same:=t'.sameMemory t.moves t.mask|unsupported "set.changed-during-lookup:is-the-new-block-at-the-old-address"
     let still <-match(if same then t'.slot (dH t.mask (hK prog w (bv (.ref xb))) m).j else .empty)with
      |.live i'=>match es'[i']? with
       |some (_,y')=>do Xo (if <-isSame y' y then a! i' else b!)
       |none=>Xo b!
      |_=>Xo b!
     match still with
     |none=>rule "set.search.anew";Ý a (.ref xb) (hK prog w (bv (.ref xb))) d! fuel b!
     |some i'=>if equal then return .there (a! i')else Ý a (.ref xb) (hK prog w (bv (.ref xb))) d! fuel (a! (dH t.mask (hK prog w (bv (.ref xb))) (m+1)))) Q E s:=by
    rw[E8 S.els hi];dsimp only;rw[hc]at hck ⊢;refine N7 (XG (wpAny_eqBool_tuple hu hck hx ?_));refine N7 (kG S.get S.els S.tab ?_);dsimp only;by_cases hk:bv (.ref c)=bv (.ref xb)
    ·rw[Oz hk];simp only[ν,if_true];exact N8 (q1 ⟨e,hem,by rwa[hc]⟩)
    ·rw[Oy hk];simp only[YQ,o?,if_false];have U9:t.sameMemory t.moves t.mask=a! true:=by unfold SetTable.sameMemory;rw[é (beq_self_eq_true _)]
     rw[U9];dsimp only;rw[é rfl,<-hj,S.tab.live hi];dsimp only;rw[E8 S.els hi];dsimp only;rw[hc];refine N7 (wpAny_isSame_ref_self (N7 (N8 ?_)));rw[é rfl];dsimp only;refine C9 S hL hu hx hB hN ho q1 q2 fuel (m+1) _ 0x1 0x1 rfl λk' Ql e' Qp PQ Pj=>?_;by_cases hkm:k'=m
     ·subst hkm;obtain⟨i',Pz⟩:=R?.mp Qp;have h5:=S.tab.live Pz;rw[PQ,<-hj,S.tab.live hi]at h5;cases h5;rw[hi]at Pz;cases Pz;rw[hc]at Pj;exact hk Pj
     ·exact R7 k' 0x1 e' Qp PQ Pj
   cases hl:t.led with
   |true=>
    simp only[Xj,o?,if_false];exact I_
   |false=>
    simp only[Ze,if_true];refine N7 (ID hx (λy hy=>?_) ?_)
    ·obtain⟨p,hp1,rfl⟩:=Oh.mp hy;have hp2:p∈es.toList:=by have:=ZQ.mp hp1;exact ZQ.mpr (Array.mem_filter.mp this).1
     rw[S.els]at hp2;obtain⟨e',Qp,rfl⟩:=Oh.mp hp2;obtain⟨c',Pj,Wu,_⟩:=hL e' Qp;exact⟨c',_,Pj,Wu⟩
    ·simp only[o?,if_false];exact I_
end
section
variable{prog:g?}{w:q?}{A:A?}{E:b?->d?->Prop}{s:d?}
def Hf{k:List Int}{b:c!}{Q:Bool->d?->Prop}(hk:vz prog w s.heap k b)(h:Q d! s):n? (p! prog w) A (ų 8 (.ref b)) Q E s:=by
 have hT:=hk.typeIs;obtain⟨o,items,n,ho,_,hd,hi⟩:=hk;unfold ų;refine N7 (Zf hT F.slot_tuple_hash.lookup ?_);refine N7 (Ğ ho hd ?_);refine N7 ?_;rw[Ŋ,<-Zc];refine YB _ (λbU r s'=>r.1=b!/\s'=s/\∃ks,ItemsAre (ę prog w) ks bU) _ ?_ ?_ _ _ ⟨rfl,rfl,k,hi⟩
 ·rintro v bU r s' ⟨hr,rfl,ks,Pd⟩;cases Pd with
  |@cons k1 _ ks' _ h1 Qi=>
   have e:ų 7 v=Xo true:=by
    cases v with
    |int i t=>rfl
    |bool b=>rfl
    |_=>first|rfl|(exact ê (show e!=d! from h1) 0x3)
   rw[e];refine N7 (N8 ?_);simp only[Xj,o?,if_false];exact N8 ⟨rfl,rfl,ks',Qi⟩
 ·rintro⟨r1,r2⟩ s' ⟨hr,rfl,_⟩;simp only at hr;subst hr;exact N8 h
variable{a:c!}{es:Array (Int×b?)}{ep:Nat}
def zU{es':Array (Int×b?)}{t':XW}{h:F!}(hg:h.get? a=a! (cV es ep t)):(h.update a (š es' t')).get? a=a! (cV es' (ep+1) t'):=by have:=YW (š es' t') hg rfl;rw[this];rfl
def Mi{bv:b?->List Int}{n nm:Nat}(hg:s.heap.get? a=a! (cV es ep t))(Qr:es.toList=L.map (·.2))(T:Tab t L)(Vw:t.led=!w.params.followText "set-order")(OR:t.plain=d!)(hn:Y9 n-1=nm)(hz:Y9 n<=sizeLine)(hm:BV nm)(Pf:L.length*5<nm*3){Q:Unit->d?->Prop}(q:∀h' L' es' Qo t',TSet prog w bv h' a L' es' Qo t'->Xg a s.heap h'->(L'.map (·.2)).Perm (L.map (·.2))->Q () {s with heap:=h'}):n? (p! prog w) A (ϵ a n) Q E s:=by
 have hsz:es.size=L.length:=gA Qr;obtain⟨t',u_,L',e,e1,e2,e3,T',OS,hp⟩:=Fp hm t.finger (t.movedTo nm) t.led t.plain es 0x1;have hre:t.relaid (es.map (·.1)) n=a! (t',u_):=by unfold SetTable.relaid;rwa[hn]
 have QK:(u_.filterMap (es[·]?)).size=es.size:=by rw[<-u?,OS,hp.length_eq,u?]
 unfold ϵ;refine N7 (kG hg Qr T ?_);dsimp only;rw[è (ċ.mpr hz),hre];refine N7 (Č (a:=(u_.filterMap (es[·]?),t')) ?_ ?_)
 ·show(if((u_.filterMap (es[·]?)).size != es.size)=d! then _ else _)=_;rw[è (by rw[QK];simp)]
 ·dsimp only;refine ο hg rfl (q _ L' _ _ t' ⟨zU hg,OS,T',?_,by rw[e2,Vw],by rw[e3,OR]⟩ (S! ..) (by rwa[Qr]at hp)) ?_
  ·have:L'.length=L.length:=by have h5:=hp.length_eq;rw[e?]at h5;have h6:es.toList.length=es.size:=u?;lia
   rw[this,e1];exact Pf
  ·rw[QK,hsz,K!];obtain rfl|rfl|rfl:=hm <;>lia
def Ju{bv:b?->List Int}{xb:c!}(S:TSet prog w bv s.heap a L es ep t)(hL:Ga prog w bv s.heap L)(hu:A.units<K?)(hx:vz prog w s.heap (bv (.ref xb)) xb)(f_:L.length<76){Q:Bool->d?->Prop}(q1:(∃e∈L,bv e.2.2=bv (.ref xb))->Q e! s)(q2:(∀e∈L,bv e.2.2≠bv (.ref xb))->∀h' L' es' Qo t',TSet prog w bv h' a L' es' Qo t'->Xg a s.heap h'->(L'.map (·.2)).Perm ((hK prog w (bv (.ref xb)),.ref xb)::L.map (·.2))->Q d! {s with heap:=h'}):
  n? (p! prog w) A (setAddHashed a (.ref xb) (hK prog w (bv (.ref xb)))) Q E s:=by
 obtain⟨N,hB,hN,ho⟩:=S.tab.end (hK prog w (bv (.ref xb)));have hm7:7<=t.mask:=by obtain e|e|e:=S.tab.msk <;>lia
 have Pf:=S.few;unfold setAddHashed;refine XG ?_;unfold setAddHashedIn;refine N7 (kG S.get S.els S.tab ?_);dsimp only;rw[show byScan (.ref xb) es=e! from rfl];simp only[o?,if_false];unfold setSearch;refine N7 (C9 S hL hu hx hB hN ho (λPo=>?_) (λQL=>?_) 100000 0 b! (Ov _) ?_ rfl λk hk=>ê hk (Y_ _))
 ·exact N8 (q1 Po)
 ·dsimp only;refine N7 (kG S.get S.els S.tab ?_);dsimp only;have Tp:=S.tab.put (x:=.ref xb) 0x1 hN (by have:=EG t.mask (hK prog w (bv (.ref xb))) N;lia) ho;have T3:(t.put (dH t.mask (hK prog w (bv (.ref xb))) N).j).1.mask=t.mask:=rfl;have OR:(t.put (dH t.mask (hK prog w (bv (.ref xb))) N).j).1.plain=d!:=S.plain;have QS:(t.put (dH t.mask (hK prog w (bv (.ref xb))) N).j).1.led=!w.params.followText "set-order" :=S.led;generalize hpt:t.put (dH t.mask (hK prog w (bv (.ref xb))) N).j=pt at Tp T3 OR QS;obtain⟨t1,p⟩:=pt;dsimp only at Tp T3 OR QS ⊢;rw[OR];simp only[if_true];refine N7 (Hf hx ?_);simp only[if_true];have Sw:(X' es p (hK prog w (bv (.ref xb)),z? xb)).toList=(o9 L p ((dH t.mask (hK prog w (bv (.ref xb))) N).j,hK prog w (bv (.ref xb)),.ref xb)).map (·.2):=by rw[qa,S.els];unfold o9;simp[Zs,θ]
  have VA:(X' es p (hK prog w (bv (.ref xb)),z? xb)).size=L.length+1:=by rw[gA Sw,kx]
  have hpm:((o9 L p ((dH t.mask (hK prog w (bv (.ref xb))) N).j,hK prog w (bv (.ref xb)),z? xb)).map (·.2)).Perm ((hK prog w (bv (.ref xb)),.ref xb)::L.map (·.2)):=(tH L p _).map _;refine N7 (ο S.get rfl ?_ (by rw[VA,K!];lia));have hfl:t1.fill=L.length+1:=by unfold ş;rw[Tp.size,Tp.dum,kx];rfl
  have TH:=zU (es':=X' es p (hK prog w (bv (.ref xb)),z? xb)) (t':=t1) S.get;by_cases hf:t1.tooFull=d!
  ·have Vz:=hf;unfold Ĩ at Vz;rw[hfl,T3]at Vz;have hf'':=of_decide_eq_true Vz;rw[hf];simp only[Ze,ν,if_true];have Qr:es.size=L.length:=gA S.els;have fin:∀nm:Nat,Y9 (á (L.length+1))-1=nm->Y9 (á (L.length+1))<=sizeLine->BV nm->(L.length+1)*5<nm*3->n? (p! prog w) A (do ϵ a (á (es.size+1));Xo d!) Q E {s with heap:=s.heap.update a (š (X' es p (hK prog w (bv (.ref xb)),z? xb)) t1)}:=λnm h1 h2 h3 h4=>by rw[Qr];refine N7 (Mi (bv:=bv) TH Sw Tp QS OR h1 h2 h3 (by rwa[kx]) λh' L' es' Qo t' S' sb pm=>N8 ?_);exact q2 QL h' L' es' Qo t' S' ((S! ..).trans sb) (pm.trans hpm)
   obtain e|e|e:=S.tab.msk
   ·have hl:L.length=4:=by lia
    exact fin 31 (by rw[hl];decide +kernel) (by rw[hl,K!];decide +kernel) (.inr (.inl rfl)) 0x1
   ·have hl:L.length=18:=by lia
    exact fin 127 (by rw[hl];decide +kernel) (by rw[hl,K!];decide +kernel) (.inr (.inr rfl)) 0x1
   ·lia
  ·have Qx:t1.tooFull=e!:=by simpa using hf
   rw[Qx];simp only[YQ,o?,if_false];refine N8 (q2 QL _ _ _ _ t1 ⟨TH,Sw,Tp,?_,QS,OR⟩ (S! ..) hpm);unfold Ĩ at Qx;rw[hfl,T3]at Qx;have:=of_decide_eq_false Qx;rw[kx,T3];lia
 ·have:W6 t.mask<=142:=by unfold W6;obtain e|e|e:=S.tab.msk <;>lia
  lia
end
variable{prog:g?}{w:q?}{h:F!}
def vz.keep{h':F!}{k:List Int}{b:c!}(x:vz prog w h k b)(hk:∀o,h.get? b=a! o->h'.get? b=a! o):vz prog w h' k b:=let⟨o,D',n,ho,r⟩:=x;⟨o,D',n,hk o ho,r⟩
structure FewS(bv:b?->List Int)(L:List El)(vs:List b?):Prop where
 nd:(L.map λe=>bv e.2.2).Nodup
 sub:∀e∈L,e.2.2∈vs
 all:∀v∈vs,∃e∈L,bv e.2.2=bv v
def AllK(prog:g?)(w:q?)(bv:b?->List Int)(h:F!)(no:List c!)(vs:List b?):Prop:=∀v∈vs,∃b,v=.ref b/\b∉no/\vz prog w h (bv v) b
def AllK.keep{prog:g?}{w:q?}{bv:b?->List Int}{h h':F!}{no:List c!}{vs:List b?}(x:AllK prog w bv h no vs)(hk:∀b o,b∉no->h.get? b=a! o->h'.get? b=a! o):AllK prog w bv h' no vs:=λv hv=>let⟨b,e,hb,k⟩:=x v hv;⟨b,e,hb,k.keep λo ho=>hk b o hb ho⟩
variable{bv:b?->List Int}
def FewS.keys{no:List c!}{vs us:List b?}(F:FewS bv L vs)(hs:∀v∈vs,v∈us)(hh:∀e∈L,e.2.1=hK prog w (bv e.2.2))(K:AllK prog w bv h no us):Ga prog w bv h L:=λe he=>let⟨b,e1,_,k⟩:=K _ (hs _ (F.sub e he));⟨b,e1,k,hh e he⟩
def Ny(prog:g?)(w:q?)(bv:b?->List Int)(L:List El):Prop:=∀e∈L,e.2.1=hK prog w (bv e.2.2)
section
variable{prog:g?}{w:q?}{A:A?}{R:Ρ->d?->Prop}{I:c!}{fp wr:List c!}{G:Array Ŷ->Array Ŷ->Prop}{items:Array b?}{St:Nat->d?->Prop}
def Ep(W:WalksS prog w A.in1 I fp wr G items.size (λi v=>items[i]?=a! v) St)(S:c!)(U5:S∉fp)(bv:b?->List Int)(hz:items.size<=76)(hu:A.units+8<K?):
  ∀(d i:Nat)(s:d?)(L:List El)(es:Array (Int×b?))(ep:Nat)(t:XW),items.size-i=d->i<=items.size->St i s->TSet prog w bv s.heap S L es ep t->FewS bv L (items.toList.take i)->Ny prog w bv L->AllK prog w bv s.heap (S::wr) items.toList ->
   (∀s' L' es' Qo t',Moved (S::wr) G s s'->TSet prog w bv s'.heap S L' es' Qo t'->FewS bv L' items.toList->Ny prog w bv L'->R (.ok (.ret .none)) s') ->
   Y! (p! prog w) A (.builtin "set.update.loop" ⟨[.ref S,.ref I],[]⟩) R s:=by
 have hSw:S∉wr:=λh=>U5 (W.sub _ h);have OO:∀b∈wr,b∈S::wr:=λb hb=>N1 _ hb;intro d
 induction d with
 |zero=>
  intro i s L es ep t hk hi PZ TS FW HS KK hR;have Po:i=items.size:=by lia
  subst Po;refine U? F.entry_set_update_loop ?_;rw[M! F.plain_set_update_loop _];show n? _ A.in1 (ZW (.ref I) >>= _) _ _ s;refine N7 (W.done s _ _ PZ λs' hm=>?_);show n? _ A.in1 (ret D!) _ _ s';have U2:items.toList.take items.size=items.toList:=W! 0x4;rw[U2]at FW;exact N8 (hR s' L es ep t (hm.mono OO) ⟨hm.heap S _ hSw TS.get,TS.els,TS.tab,TS.few,TS.led,TS.plain⟩ FW HS)
 |succ d ih=>
  intro i s L es ep t hk hi PZ TS FW HS KK hR;have OL:i<items.size:=by lia
  refine U? F.entry_set_update_loop ?_;rw[M! F.plain_set_update_loop _];show n? _ A.in1 (ZW (.ref I) >>= _) _ _ s;refine N7 (W.item i s _ _ OL PZ λv s' hP Uh hm=>?_);have UL:AllK prog w bv s'.heap (S::wr) items.toList:=KK.keep λb o hb e=>(hm.mono OO).heap b o hb e;have hvm:v∈items.toList:=by rw[<-C?]at hP;exact Q! hP
  obtain⟨xb,rfl,hxn,hxk⟩:=UL v hvm;have TS':TSet prog w bv s'.heap S L es ep t:=⟨hm.heap S _ hSw TS.get,TS.els,TS.tab,TS.few,TS.led,TS.plain⟩;have hts:∀v∈items.toList.take i,v∈items.toList:=λv hv=>Ĭ hv;have hLk:Ga prog w bv s'.heap L:=FW.keys hts HS UL;have UX:L.length<76:=by
   have h1:(L.map λe=>bv e.2.2).length<=((items.toList.take i).map bv).length:=XO FW.nd λk Ql=>by obtain⟨e,he,rfl⟩:=Oh.mp Ql;exact Xq (FW.sub e he)
   rw[e?,e?,XA]at h1;lia
  have RR:items.toList.take (i+1)=items.toList.take i++[z? xb]:=by rw[Ζ,C?,hP];rfl
  show n? _ A.in1 (ZX [z? xb] (setAdd S (.ref xb)) >>= _) _ _ s';refine N7 (XG ?_);unfold setAdd;refine XG ?_;refine N7 (wpAny_pyHash_tuple (knd:=ę prog w) (by show A.units+1<K?;lia) hxk ?_);refine Ju (s:={s' with toks:=s'.toks+((bv (.ref xb)).length+1)}) (bv:=bv) TS' hLk (by show A.units+1<K?;lia) hxk UX (λPo=>?_) (λQL h' L' es' Qo t' S' sb pm=>?_)
  ·refine N8 ⟨XH F.plain_set_update_loop _,ih (i+1) _ L es ep t 0x1 OL (W.frame _ s' _ _ Uh (Y4 _ _) λb hb o e=>e) TS' ⟨FW.nd,λe he=>?_,λu QE=>?_⟩ HS UL λSx V7 SU SX Ww SK WV WD TK=>?_⟩
   ·rw[RR];exact N5 _ (FW.sub e he)
   ·rw[RR]at QE;obtain h|h:=Og.mp QE
    ·exact FW.all u h
    ·rw[Oi.mp h];exact Po
   ·exact hR Sx V7 SU SX Ww (Moved.trans W.gtrans ((hm.mono OO).then_heap (Y4 _ _) λb o hb e=>e) SK) WV WD TK
  ·have T6:∀e∈L',e.2=(hK prog w (bv (.ref xb)),z? xb)\/∃e'∈L,e'.2=e.2:=λe he=>by
    have:=pm.mem_iff.mp (Xq (f:=λe:El=>e.2) he);obtain h|h:=Of.mp this
    ·exact .inl h
    ·obtain⟨e',Qp,h2⟩:=Oh.mp h;exact .inr ⟨e',Qp,h2⟩
   have pk:(L'.map λe=>bv e.2.2).Perm (bv (.ref xb)::L.map λe=>bv e.2.2):=by have:=pm.map λp:Int×b?=>bv p.2;rwa[f?,A!,A!]at this
   refine N8 ⟨XH F.plain_set_update_loop _,ih (i+1) _ L' es' Qo t' 0x1 OL (W.frame _ s' _ _ Uh (Y4 _ _) λb hb o e=>?_) S' ⟨?_,λe he=>?_,λu QE=>?_⟩ (λe he=>?_) (UL.keep λb o hb e=>?_) λSx V7 SU SX Ww SK WV WD TK=>?_⟩
   ·rwa[sb.2 b (λh:b=S=>U5 (by rw[<-h];exact hb))]
   ·refine pk.symm.nodup (Xn.mpr ⟨λQl=>?_,FW.nd⟩);obtain⟨e,he,h2⟩:=Oh.mp Ql;exact QL e he h2
   ·rw[RR];obtain h|⟨e',Qp,h⟩:=T6 e he
    ·rw[h];exact N4 _ N2
    ·rw[<-h];exact N5 _ (FW.sub e' Qp)
   ·rw[RR]at QE;have Q6:∀k,k∈(bv (.ref xb)::L.map λe=>bv e.2.2)->∃e∈L',bv e.2.2=k:=λk Ql=>by obtain⟨e,he,h2⟩:=Oh.mp (pk.mem_iff.mpr Ql);exact⟨e,he,h2⟩
    obtain h|h:=Og.mp QE
    ·obtain⟨e,he,h2⟩:=FW.all u h;exact Q6 _ (N1 _ (Oh.mpr ⟨e,he,h2⟩))
    ·rw[Oi.mp h];exact Q6 _ N2
   ·obtain h|⟨e',Qp,h⟩:=T6 e he
    ·rw[h]
    ·rw[<-h];exact HS e' Qp
   ·rwa[sb.2 b (λh:b=S=>hb (by rw[h];exact N2))]
   ·refine hR Sx V7 SU SX Ww (Moved.trans W.gtrans ((hm.mono OO).then_heap (Y4 _ _) λb o hb e=>?_) SK) WV WD TK;rwa[sb.2 b (λh:b=S=>hb (by rw[h];exact N2))]
end
section
variable{prog:g?}{w:q?}{A:A?}{E:b?->d?->Prop}{s:d?}
def Hv(a:b?){Q₁:b?->d?->Prop}(h:Q₁ (.ref s.heap.objs.size) {s with heap:=s.heap.push (cV #[] 0 (.fresh 0 0 (!w.params.followText "set-order")))}):
  Y! (p! prog w) A (.call (.builtin "set.__new__") ⟨[.type "set",a],[]⟩) (wants Q₁ E) s:=by
 refine Ϥ ?_;show n? (p! prog w) A.in1 (do checkBuiltinCall "set.__new__" ⟨[.type "set",a],[]⟩;again (.builtin "set.__new__" ⟨[.type "set",a],[]⟩)) _ _ s;refine N7 (Č (F.newCall_set_1 a) (N8 ⟨XH F.plain_set_new _,U? F.entry_set_new ?_⟩));rw[M! F.plain_set_new _];unfold X5.«set.__new__» ź;have OO:=sub_set_self;obtain⟨hp,g,d,tk,os⟩:=s;dsimp only
 wp_walk
 refine ă (N8 ?_);dsimp only;simp only[newObj];refine N7 (wpAny_alloc (N8 ?_));exact N8 h
def MQ(f m:Nat)(led:Bool):Tab (.fresh f m led) []:=⟨.inl rfl,rfl,rfl,S?,(λo h=>nomatch h),Ov _,(λo h=>nomatch h)⟩
def C3{l:c!}{items:Array b?}{Q:b?->d?->Prop}(hh:A.handled=b!)(hl:s.heap.IsList l items)(hz:items.size<=76)(hu:A.units+16<K?)(KK:∀v∈items.toList,∃b,v=.ref b/\vz prog w s.heap (bv v) b)(h:∀(h':F!)(tk:Nat) L es ep t,TSet prog w bv h' s.heap.objs.size L es ep t->FewS bv L items.toList->(∀b o,s.heap.get? b=a! o->h'.get? b=a! o)->Q (.ref s.heap.objs.size) {s with heap:=h',toks:=tk}):
  n? (p! prog w) A (call (.type "set") [.ref l]) Q E s:=by
 obtain⟨c,tl,hmro⟩:=F.called_set.mro;have hmade:=F.called_set.made;have OO:=F.called_set.sub;refine Θ (Ϥ ?_);show n? _ _ (callAny (.type "set") _) _ _ _;refine N8 ⟨Code.quiet_builtin _ 0x2,U? F.entry_type_call ?_⟩;rw[Around.under_plain (weight_type_call_type "set" [.ref l] []) rfl];have h1:=F.called_set.notType;have h2:=F.called_set.canCreate;have hct:=F.typeCall_set_1 (.ref l)
 repeat (any_goals (first|assumption|wp_step))
 refine Zl (Hv (.ref l) (E:=E) (Q₁:=λobj s₁=>obj=.ref s.heap.objs.size/\s₁={s with heap:=s.heap.push (cV #[] 0 (.fresh 0 0 (!w.params.followText "set-order")))}) ⟨rfl,rfl⟩) λr s₁ hr=>?_;cases r with
 |error e=>exact hr
 |ok fl=>
  cases fl with
  |ret obj=>
   obtain⟨rfl,rfl⟩:=hr;have hS:(s.heap.push (cV #[] 0 (.fresh 0 0 (!w.params.followText "set-order")))).get? s.heap.objs.size=a! (cV #[] 0 (.fresh 0 0 (!w.params.followText "set-order"))):=OC _ rfl;have hT:Shared.TypeIs {s with heap:=s.heap.push (cV #[] 0 (.fresh 0 0 (!w.params.followText "set-order")))} (.ref s.heap.objs.size) "set" :=⟨_,hS,rfl⟩;have U8:=F.called_set.init.lookup;have hbi:=F.called_set.init.bind (.ref s.heap.objs.size)
   repeat (any_goals (first|assumption|wp_step))
   refine Zl (codeAny_call_builtin (R:=wants (λr s₂=>r=.none/\∃h' tk L es ep t,s₂={s with heap:=h',toks:=tk}/\TSet prog w bv h' s.heap.objs.size L es ep t/\FewS bv L items.toList /\
     (∀b o,s.heap.get? b=a! o->h'.get? b=a! o)) E) F.called_set.init.plain F.entry_set_init (check_set_init_1 hT ?_)) λVH s₂ G_=>?_
   ·obtain⟨ol,WH,Q4,nl,WI⟩:=hl;obtain⟨ocls,Ul,odata,Sq⟩:=ol;simp only at Q4 WI;subst Q4;subst WI
    have Wc:(s.heap.push (cV #[] 0 (.fresh 0 0 (!w.params.followText "set-order")))).get? l=a! {cls:=.type "list",dict:=Ul,data:=.seq items nl,slots:=Sq}:=N3 _ WH;have hsls:=F.sub_list_set;have hslf:=F.sub_list_frozenset;have P0:(Yj "list" == Yj "dict")=e!:=by decide
    have RF:(s.heap.push (cV #[] 0 (.fresh 0 0 (!w.params.followText "set-order")))).IsList l items:=⟨_,Wc,rfl,nl,rfl⟩;unfold X5.«set.__init__» noKeywords ŷ;generalize hPI:Μ=PI
    wp_walk
    subst hPI;refine ñ RF ?_;refine N7 (ϳ ?_);have UP:l<s.heap.objs.size:=N9 WH;have hh3:A.in1.in1.in1.handled=b!:=by simp[hh]
    have UW:(s.heap.push (cV #[] 0 (.fresh 0 0 (!w.params.followText "set-order")))).objs.size=s.heap.objs.size+1:=XC ..;have WR:l≠(s.heap.push (cV #[] 0 (.fresh 0 0 (!w.params.followText "set-order")))).objs.size:=by rw[UW];exact OA (Yf UP)
    have U5:s.heap.objs.size∉[(s.heap.push (cV #[] 0 (.fresh 0 0 (!w.params.followText "set-order")))).objs.size,l]:=by
     rw[UW];simp only[Y5,W4,ä,or_false,not_or]
     exact⟨OA (Xf _),Ø UP⟩
    have Rq:((s.heap.push (cV #[] 0 (.fresh 0 0 (!w.params.followText "set-order")))).push {cls:=.type "list_iterator",data:=.fields #[.ref l,.int 0 0]}).get? s.heap.objs.size=a! (cV #[] 0 (.fresh 0 0 (!w.params.followText "set-order"))):=N3 _ hS;have RY:∀b o,s.heap.get? b=a! o->((s.heap.push (cV #[] 0 (.fresh 0 0 (!w.params.followText "set-order")))).push {cls:=.type "list_iterator",data:=.fields #[.ref l,.int 0 0]}).get? b=a! o:=λb o e=>N3 _ (N3 _ e);refine Ep ((Walks.list hh3 _ l WR items).toS) s.heap.objs.size U5 bv hz (by show A.units+1+1+8<K?;lia) (items.size-0) 0 _ [] #[] 0 _ 0x1 (Ov _)
     ⟨⟨_,OC _ rfl,rfl,rfl⟩,(RF.push _)⟩ ⟨Rq,rfl,MQ _ _ _,(show 0*5<7*3 by decide),rfl,rfl⟩ ⟨YM,(λq h=>nomatch h),(λq h=>nomatch h)⟩ (λq h=>nomatch h) (λv hv=>?_) ?_
    ·obtain⟨b,e,k⟩:=KK v hv;have hb:b<s.heap.objs.size:=by obtain⟨o,_,_,ho,_⟩:=k;exact N9 ho
     refine⟨b,e,?_,k.keep λo ho=>RY b o ho⟩;rw[UW];simp only[Y5,W4,ä,or_false,not_or];exact⟨OA hb,OA (Yf hb)⟩
    ·intro s' L' es' Qo t' hm Vv Vj _;obtain⟨h',g',d',tk',Vm⟩:=s';have eg:g'=s.gens:=hm.gens;have ed:d'=s.drawn:=hm.drawn;have eo:Vm=s.os:=hm.os;subst eg;subst ed;subst eo
     show n? _ _ _ _ _ _;refine N8 ?_;show n? _ _ (ret D!) _ _ _;refine N8 ⟨rfl,h',tk',L',es',Qo,t',rfl,Vv,Vj,λb o e=>?_⟩;have hb:=N9 e;refine hm.heap b o ?_ (RY b o e);rw[UW];simp only[Y5,W4,ä,or_false,not_or];exact⟨OA hb,OA (Yf hb)⟩
   ·cases VH with
    |error e=>exact G_
    |ok fl₂=>
     cases fl₂ with
     |ret r=>
      obtain⟨rfl,h',tk,L',es',Qo,t',rfl,Vv,Vj,Ql⟩:=G_
      repeat (any_goals (first|assumption|wp_step))
      exact h _ _ L' es' Qo t' Vv Vj Ql
     |_=>exact G_.elim
  |_=>exact hr.elim
end
def Gh{l:List α}(h:i<l.length):([l[i]]++l.eraseIdx i).Perm l:=by rw[List.eraseIdx_eq_take_drop_succ];have h1:(l[i]::(l.take i++l.drop (i+1))).Perm (l.take i++l[i]::l.drop (i+1)):=ã.symm;rwa[List.getElem_cons_drop,XD]at h1
theorem Ai{α:Type}(next:Nat->Nat):∀(fuel k:Nat)(p_:List α)(out:Array α),p_.length<=fuel->(pickOrder.go next fuel k p_ out).toList.Perm (out.toList++p_)
 |0,k,p_,out,h=>by have:p_=[]:=List.length_eq_zero_iff.mp 0x1;subst this;rw[C!];exact .refl _
 |fuel+1,k,p_,out,h=>by
  unfold pickOrder.go;cases hl:p_ with
  |nil=>simp
  |cons x r=>
   have OL:next k % (x::r).length<(x::r).length:=Zh _ 0x4
   rw[W0 OL];dsimp only;refine(Ai next fuel (k+1) _ _ (by rw[List.length_eraseIdx,é OL,<-hl];lia)).trans ?_;rw[Xm,t?];exact aë _ (Gh OL)
def Bx(next:Nat->Nat)(xs:Array α):(ϖ next xs).toList.Perm xs.toList:=by
 unfold ϖ;have:=Ai next xs.size 0 xs.toList #[] 0x4
 simpa using this
def qH:entryFor table "set.__iter__" = a! X5.«frozenset.__iter__»:=entryFor_alias (id':= "frozenset.__iter__") (by kernel_rfl) rfl 0x2 (by kernel_rfl)
def Jr:Manifest.owners.lookup (String.ofList ['r','o','t','a','r','e','t','i','_','t','e','s'].reverse)=a! Manifest.sig_set_iterator:=by kernel_rfl
def mL:Slot "set_iterator" "__next__" "set_iterator.__next__" :=.of (owner:= "set_iterator") (n:= "__next__") (by rw[typeLookup_type,builtinLookup_eq_fast];kernel_rfl) 0x2 0x2 0x2 (.inl 0x2) (by rw[isSubtype_type];kernel_rfl)
def xk:entryFor table "set_iterator.__next__" = a! X5.«set_iterator.__next__»:=entryFor_of_tree (by kernel_rfl)
def As(a:b?):argsOk "set_iterator.__next__" ⟨[a],[]⟩:=by unfold argsOk;rw[signature?_of (id:= "set_iterator.__next__") (n:=['_','_','t','x','e','n','_','_']) (o:=['r','o','t','a','r','e','t','i','_','t','e','s']) (by kernel_rfl) Jr];kernel_rfl
noncomputable def lL(S:c!)(slot i n ep:Nat):XQ:={cls:=.type "set_iterator",data:=.fields #[.int slot 0,.int i 0,.ref S,.int n 0,.int ep 0]}
noncomputable def nc(w:q?)(S:c!)(es:Array (Int×b?))(ep:Nat):Array (Int×b?):=if w.params.followText "set-order" = d! then ϖ (w.params.setOrder S ep) es else es
def oC(w:q?)(S:c!)(es:Array (Int×b?))(ep:Nat):(nc w S es ep).toList.Perm es.toList:=by
 unfold nc;split
 ·exact Bx _ _
 ·exact .refl _
structure AtI(w:q?)(h:F!)(it S:c!)(i:Nat)(es:Array (Int×b?))(ep:Nat)(t:XW):Prop where
 ex:∃slot,h.get? it=a! (lL S slot i es.size ep)/\(w.params.followText "set-order" = e!->L! t.place slot=i)
 set:h.get? S=a! (cV es ep t)
section
variable{prog:g?}{w:q?}{A:A?}{E:b?->d?->Prop}{s:d?}
def ya{Q:Bool->d?->Prop}(h:Q (w.params.followText "set-order") s):n? (p! prog w) A setsByText Q E s:=by unfold setsByText;exact N7 (ă (N8 h))
set_option tactic.hygienic true in
def Cb{S:c!}{es:Array (Int×b?)}{ep:Nat}{Q:b?->d?->Prop}(TS:TSet prog w bv s.heap S L es ep t)(h:AtI w (s.heap.push (lL S 0 0 es.size ep)) s.heap.objs.size S 0 es ep t->Q (.ref s.heap.objs.size) {s with heap:=s.heap.push (lL S 0 0 es.size ep)}):n? (p! prog w) A (Μ (.ref S)) Q E s:=by
 have hT:s.TypeIs (.ref S) "set" :=⟨_,TS.get,rfl⟩;have hf:t.fits es.size=d!:=by rw[gA TS.els];exact TS.tab.fits
 refine wpAny_pyIter_slot hT F.slot_set_iter (YC F.slot_set_iter hT qH ?_ (F.args_set_iter_1 _));unfold X5.«frozenset.__iter__» Ÿ slotArgs;simp only[List.isEmpty_nil,Xj,o?,↓reduceIte,bind_assoc,List.length_nil,bne_self_eq_false];unfold Ż Ź;refine N7 (N8 ?_)
 try dsimp only
 refine N7 (N8 ?_);refine N7 (N7 (Ñ TS.get rfl hf (N8 ?_)));unfold setDrawn;refine N7 (N7 (ZC TS.get rfl hf ?_));dsimp only;refine N7 (ya (N8 ?_));split
 ·rename_i hc;exact ê hc (by show ¬((!w.params.followText "set-order" &&(!t.plain&&g! (es.size>1)))=d!);rw[TS.plain];simp)
 refine N7 (N8 ?_);refine N7 (wpAny_setEpoch_of TS.get rfl hf ?_);unfold newFields;refine N7 (Yq (N8 ⟨_,rfl,"set_iterator",_,⟨_,OC _ rfl,rfl⟩,mL.lookup,?_⟩));refine h ⟨⟨0,OC _ rfl,λ_=>?_⟩,N3 _ TS.get⟩;have hb:=nq (vd TS.tab.pl TS.tab.ris) 0;by_cases hz:L! t.place 0=0
 ·exact hz
 ·have hs:0<t.place.size:=by lia
  have:=hb.2.1 0 t.place[0] 0x1 (v? hs);lia
end
def yd(hr:K6 xs)(h:xs[i]?=a! j):L! xs (j+1)=i+1:=by
 obtain⟨b1,b2,b3⟩:=nq hr (j+1);have hi:=(Ou.mp h).1;by_cases h1:L! xs (j+1)<=i
 ·have:=b3 i j h1 h;lia
 ·by_cases h2:i+1<L! xs (j+1)
  ·obtain⟨y,hy⟩:∃y,xs[i+1]?=a! y:=⟨_,v? 0x1⟩;have h3:=b2 (i+1) y h2 hy;have h4:=hr i (i+1) j y 0x1 h hy;lia
  ·lia
section
variable{prog:g?}{w:q?}{A:A?}{E:b?->d?->Prop}{s:d?}
variable{S:c!}{es:Array (Int×b?)}{ep:Nat}
def Cp(hg:s.heap.get? S=a! (cV es ep t))(hf:t.fits es.size=d!)(hb:w.params.followText "set-order" = d!){Q:Array (Int×b?)->d?->Prop}(h:Q (nc w S es ep) s):n? (p! prog w) A (setWalk S) Q E s:=by unfold setWalk;refine N7 (ZC hg rfl hf ?_);dsimp only;refine N7 (ya ?_);rw[hb,é rfl];refine N7 (ă (N8 ?_));unfold nc at h;rwa[é hb]at h
set_option tactic.hygienic true in
def vO{slot:Nat}(hg:s.heap.get? S=a! (cV es ep t))(Qr:es.toList=L.map (·.2))(T:Tab t L)(OR:t.plain=d!)(QS:t.led=!w.params.followText "set-order")(S7:w.params.followText "set-order" = e!->L! t.place slot=i){Q:Option (b?×Nat)->d?->Prop}(h1:∀x,(nc w S es ep)[i]?=a! x->∀sl,(w.params.followText "set-order" = e!->L! t.place sl=i+1)->Q (a! (x.2,sl)) s)(h2:(nc w S es ep)[i]?=b!->Q b! s):n? (p! prog w) A (setNext S slot i ep) Q E s:=by
 have hf:t.fits es.size=d!:=by rw[gA Qr];exact T.fits
 unfold setNext;refine N7 (ZC hg rfl hf ?_);dsimp only;refine N7 (ya ?_);by_cases hb:w.params.followText "set-order" = d!
 ·rw[hb,é rfl];simp only[bne_self_eq_false,o?,if_false];refine N7 (Cp hg hf hb (N8 ?_));cases hx:(nc w S es ep)[i]? with
  |none=>exact h2 hx
  |some x=>exact h1 x hx slot λhc=>by rw[hb]at hc;cases hc
 ·have Pc:w.params.followText "set-order" = false:=by simpa using hb
  have ho:nc w S es ep=es:=by unfold nc;rw[è hb]
  rw[Pc];simp only[o?,if_false];rw[Pc]at QS;split
  ·rename_i hc;exact ê hc (by show ¬((!t.plain&&g! (es.size>1))=d!);rw[OR];simp)
  refine N7 (Č (a:=()) ?_ ?_)
  ·show(if(!t.led&&!es.isEmpty)=d! then _ else _)=_;rw[QS];rfl
  ·refine N8 ?_;rw[S7 Pc];rw[ho]at h1 h2;cases hx:es[i]? with
   |none=>exact h2 hx
   |some x=>
    have OL:=(Ou.mp hx).1;have hsz:t.place.size=es.size:=by rw[T.size,gA Qr]
    obtain⟨j,hj⟩:∃j,t.place[i]?=a! j:=⟨_,v? 0x1⟩;rw[hj];exact h1 x hx (j+1) λ_=>yd (vd T.pl T.ris) hj
variable{it:c!}
def Az{w:q?}{s:d?}(h:AtI w s.heap it S i es ep t):s.TypeIs (.ref it) "set_iterator" :=let⟨_,hg,_⟩:=h.ex;⟨_,hg,rfl⟩
def F5(Qr:es.toList=L.map (·.2))(T:Tab t L)(OR:t.plain=d!)(QS:t.led=!w.params.followText "set-order")(P0:S≠it)(at_:AtI w s.heap it S i es ep t){x:Int×b?}(hx:(nc w S es ep)[i]?=a! x){Q:Option b?->d?->Prop}(h:∀h',AtI w h' it S (i+1) es ep t->Xg it s.heap h'->Q (a! x.2) {s with heap:=h'}):n? (p! prog w) A (ZW (.ref it)) Q E s:=by
 have hT:=Az at_;have hf:t.fits es.size=d!:=by rw[gA Qr];exact T.fits
 obtain⟨⟨slot,hi,S7⟩,hg⟩:=at_;unfold ZW;refine N7 (Ĳ (Ł (name:=Ģ "__next__") hT mL (YC mL hT xk ?_ (As _))));unfold X5.«set_iterator.__next__»;refine N7 (N8 ?_);refine N7 (ϴ hi rfl ?_);dsimp only;refine N7 (Ñ hg rfl hf ?_);rw[è 0x4];rw[WW,WW,WW];refine N7 (vO hg Qr T OR QS S7 (λy hy sl V_=>?_) λhn=>by rw[hx]at hn;cases hn);rw[hx]at hy;cases hy;dsimp only;refine N7 (ĝ hi rfl 0x4 ?_);have QO:(s.heap.update it (Zw (·.setIfInBounds 0 (ç (sl:Int))))).get? it=a! (lL S sl i es.size ep):=YW _ hi rfl;refine N7 (ĝ QO rfl 0x4 ?_);have RQ:((s.heap.update it (Zw (·.setIfInBounds 0 (ç (sl:Int))))).update it (Zw (·.setIfInBounds 1 (ç ((i:Int)+1))))).get? it=a! (lL S sl (i+1) es.size ep):=YW _ QO rfl;have sb:=(S! s.heap it (Zw (·.setIfInBounds 0 (ç (sl:Int))))).trans (S! _ it (Zw (·.setIfInBounds 1 (ç ((i:Int)+1)))));exact N8 ⟨_,rfl,N8 (h _ ⟨⟨sl,RQ,V_⟩,by rwa[sb.2 S P0]⟩ sb)⟩
def Ke(hh:A.handled=b!)(Qr:es.toList=L.map (·.2))(T:Tab t L)(OR:t.plain=d!)(QS:t.led=!w.params.followText "set-order")(at_:AtI w s.heap it S i es ep t)(hx:(nc w S es ep)[i]?=b!){Q:Option b?->d?->Prop}(h:∀h',Heap.ExtBut it s.heap h'->s.heap.objs.size<=h'.objs.size->Q b! {s with heap:=h'}):n? (p! prog w) A (ZW (.ref it)) Q E s:=by
 have hT:=Az at_;have hf:t.fits es.size=d!:=by rw[gA Qr];exact T.fits
 obtain⟨⟨slot,hi,S7⟩,hg⟩:=at_;unfold ZW;refine N7 (Ĳ (Ł (name:=Ģ "__next__") hT mL (YC mL hT xk ?_ (As _))));unfold X5.«set_iterator.__next__»;refine N7 (N8 ?_);refine N7 (ϴ hi rfl ?_);dsimp only;refine N7 (Ñ hg rfl hf ?_);rw[è 0x4];rw[WW,WW,WW];refine N7 (vO hg Qr T OR QS S7 (λy hy=>by rw[hx]at hy;cases hy) λo=>?_);dsimp only;refine N7 (ĝ hi rfl 0x4 ?_);show n? _ _ (newExc (.type "StopIteration") [] >>= _) _ _ _;refine N7 ?_;simp only[newExc,newTuple];refine N7 (Yq ?_ (by size_fits));refine N7 (m:=Ϲ _ _) (Č (a:=D!) (by first|rfl|(simp only[Ϲ];rfl)) ?_);refine Yq ?_ (by size_fits);simp only[raiseNew];refine N7 (wpAny_handled ?_);rw[show A.in1.handled=b! from hh];refine N7 (N8 (wpAny_throw ?_));refine N7 (Ă (T:= "StopIteration") (b:=d!) ⟨_,OC _ rfl,rfl⟩ isSubtype_stop ?_);exact N8 (h _ (((S! ..).extBut.push _).push _) (by rw[XC,XC,YY];lia))
end
def eU(w:q?)(S:c!)(es:Array (Int×b?))(ep:Nat):List Value:=(nc w S es ep).toList.map (·.2)
def nH(w:q?)(S:c!)(es:Array (Int×b?))(ep:Nat):(eU w S es ep).length=es.size:=by unfold eU;rw[e?,(oC w S es ep).length_eq,u?]
section
variable{prog:g?}{w:q?}{A:A?}{R:Ρ->d?->Prop}
def Ca{it S l:c!}{es:Array (Int×b?)}{ep:Nat}(Qr:es.toList=L.map (·.2))(T:Tab t L)(OR:t.plain=d!)(QS:t.led=!w.params.followText "set-order")(hh:A.handled=b!)(hz:es.size<=1000)(P0:S≠it)(UP:l≠S)(U8:l≠it)(res:b?):
  ∀(d i:Nat)(s:d?)(acc:Array b?)(c:Nat),es.size-i=d->i<=es.size->AtI w s.heap it S i es ep t->s.heap.get? l=a! (T! "list" acc c)->acc.toList=(eU w S es ep).take i ->
   (∀h' c',(∀b o,b≠l->b≠it->s.heap.get? b=a! o->h'.get? b=a! o)->s.heap.objs.size<=h'.objs.size->h'.get? l=a! (T! "list" (eU w S es ep).toArray c')->R (.ok (.ret res)) {s with heap:=h'}) ->
   Y! (p! prog w) A (.builtin "list.extend.loop" ⟨[.ref l,.ref it,res],[]⟩) R s:=by
 have WH:(nc w S es ep).size=es.size:=by have:=(oC w S es ep).length_eq;simpa using this
 intro d
 induction d with
 |zero=>
  intro i s acc c hd hi at_ hl Qh hR;have Po:i=es.size:=by lia
  subst Po;refine U? F.entry_extend_loop ?_;rw[M! F.plain_extend_loop _];show n? _ A.in1 (ZW (.ref it) >>= _) _ _ s;refine N7 (Ke (A:=A.in1) hh Qr T OR QS at_ (Ę 0x1) λh' eb hsz=>?_);refine N8 (hR h' c (λb o q hb e=>eb b o hb e) hsz ?_);have h1:=eb l _ U8 hl;rw[W! (by rw[nH];exact N6 _)]at Qh;rw[h1,<-Qh]
 |succ d ih=>
  intro i s acc c hd hi at_ hl Qh hR;have OL:i<es.size:=by lia
  obtain⟨x,hx⟩:∃x,(nc w S es ep)[i]?=a! x:=⟨_,v? 0x1⟩;refine U? F.entry_extend_loop ?_;rw[M! F.plain_extend_loop _];show n? _ A.in1 (ZW (.ref it) >>= _) _ _ s;refine N7 (F5 Qr T OR QS P0 at_ hx λh' at' sb=>?_);have Qi:h'.get? l=a! (T! "list" acc c):=by rwa[sb.2 l U8]
  have hasz:acc.size=i:=by rw[<-u?,Qh,XA,nH];lia
  show n? _ A.in1 (ϕ l (·.push x.2) >>= _) _ _ _;refine N7 ?_;refine Z5 Qi rfl (N8 ⟨XH F.plain_extend_loop _,ih (i+1) _ (acc.push x.2) _ 0x1 OL ?_ (Z8 Qi (·.push x.2)) ?_ λh'' c'' kp hsz WG=>?_⟩) (by rw[K!];lia) (by show(acc.push x.2).size<=sizeLine+1;rw[Array.size_push,K!];lia)
  ·obtain⟨⟨sl,e1,e2⟩,e3⟩:=at';exact⟨⟨sl,(Xv _ _ U8).trans e1,e2⟩,(Xv _ _ UP).trans e3⟩
  ·rw[Xm,Qh,Ζ];unfold eU;rw[M?,C?,hx];rfl
  ·refine hR h'' c'' (λb o TJ hb2 e=>kp b o TJ hb2 ?_) (by have h1:(h'.update l (W5 (·.push x.2))).objs.size<=h''.objs.size:=hsz;rwa[YY,sb.1]at h1) WG;rwa[Xv _ _ (XR TJ),sb.2 b hb2]
end
section
variable{prog:g?}{w:q?}{A:A?}{E:b?->d?->Prop}{s:d?}
def Er{c:Prop}[Decidable c]{x y:ý α}{Q:α->d?->Prop}(h:c)(k:n? (p! prog w) A x Q E s):n? (p! prog w) A (if c then x else y) Q E s:=by rwa[é h]
def DN{S:c!}{Q:Bool->d?->Prop}(hT:s.TypeIs (.ref S) "set")(h:∀b,Q b s):n? (p! prog w) A (Z! (.ref S)) Q E s:=by unfold Z!;refine N7 (Zf hT F.slot_set_len.lookup ?_);dsimp only;rw[show splitId "set.__len__" = a! ("set","__len__") by kernel_rfl];dsimp only;refine N7 (Ă hT sub_set_self ?_);rw[è (show ¬((!d!)=d!) by decide)];refine Er (by kernel_rfl) ?_;refine N7 (œ hT ?_);exact N8 (h _)
def xg{S:c!}{es:Array (Int×b?)}{ep:Nat}(hh:A.handled=b!)(TS:TSet prog w bv s.heap S L es ep t)(hz:es.size<=1000){Q:List b?->d?->Prop}(hQ:∀h',(∀b o,s.heap.get? b=a! o->h'.get? b=a! o)->s.heap.objs.size<=h'.objs.size->Q (eU w S es ep) {s with heap:=h'}):n? (p! prog w) A (collect (.ref S)) Q E s:=by
 have hSl:S<s.heap.objs.size:=N9 TS.get;unfold collect;refine N7 (ϳ (U? F.entry_proto_collect ?_));rw[M! F.plain_proto_collect _];show n? _ A.in1 (newList [] >>= λl=>again (.builtin "list.__iadd__" ⟨[l,.ref S],[]⟩)) _ _ s;refine N7 (Yq ?_);refine N8 ⟨XH F.plain_list_iadd _,U? F.entry_list_iadd ?_⟩;rw[M! F.plain_list_iadd _];have TS1:TSet prog w bv (s.heap.push (T! "list" #[] 0)) S L es ep t:=⟨N3 _ TS.get,TS.els,TS.tab,TS.few,TS.led,TS.plain⟩;have hT1:Shared.TypeIs {s with heap:=s.heap.push (T! "list" #[] 0)} (.ref S) "set" :=⟨_,TS1.get,rfl⟩;show n? (p! prog w) A.in1 (Z? (.ref s.heap.objs.size) (.ref S) (.ref s.heap.objs.size)) _ _ {s with heap:=s.heap.push (T! "list" #[] 0)};unfold Z?;refine N7 (œ hT1 ?_);have P0:s.heap.objs.size≠S:=Ø hSl;have h1:Ë (.ref s.heap.objs.size) (.ref S)=e!:=by simp[Ë,P0]
 have h2:(Yj "set" == Yj "list")=e!:=by decide
 have h3:(Yj "set" == Yj "tuple")=e!:=by decide
 simp only[h1,h2,h3,ι,o?,if_false];refine N7 (Cb TS1 λRz=>?_);have hT2:Shared.TypeIs {s with heap:=(s.heap.push (T! "list" #[] 0)).push (lL S 0 0 es.size ep)} (.ref S) "set" :=⟨_,Rz.set,rfl⟩;refine N7 (XG (DN hT2 λb=>?_));have hI:(s.heap.push (T! "list" #[] 0)).objs.size=s.heap.objs.size+1:=size_push' ..;rw[hI]at Rz ⊢;have hl0:((s.heap.push (T! "list" #[] 0)).push (lL S 0 0 es.size ep)).get? s.heap.objs.size=a! (T! "list" #[] 0):=N3 _ (OC _ rfl);refine Er (by cases b <;>kernel_rfl) ?_;refine N7 (Yz ?_);refine N7 ?_;show n? _ A.in1 (ϕ s.heap.objs.size (·.push .none) >>= λq=>ϕ s.heap.objs.size (·.pop)) _ _ _;refine N7 (Z5 hl0 rfl ?_);have RF:=Z8 hl0 (·.push D!);refine Z5 RF rfl ?_;have TQ:=Z8 RF (·.pop);have Wf:∀b o,b≠s.heap.objs.size->((s.heap.push (T! "list" #[] 0)).push (lL S 0 0 es.size ep)).get? b=a! o ->
   ((((s.heap.push (T! "list" #[] 0)).push (lL S 0 0 es.size ep)).update s.heap.objs.size (W5 (·.push D!))).update s.heap.objs.size (W5 (·.pop))).get? b=a! o:=
  λb o hb e=>(Xv _ _ (XR hb)).trans ((Xv _ _ (XR hb)).trans e)
 refine N8 ⟨XH F.plain_extend_loop _,Ca (A:=A) (ep:=ep) TS.els TS.tab TS.plain TS.led hh hz (OA (Yf hSl)) P0 (OA (Xf _)) _ es.size 0 _ _ _ rfl (Ov _) ?_ TQ rfl λh' c' kp hsz Qi=>?_⟩
 ·obtain⟨⟨sl,e1,e2⟩,e3⟩:=Rz;exact⟨⟨sl,Wf _ _ (Ø (Xf _)) e1,e2⟩,Wf _ _ (XR P0) e3⟩
 ·show n? _ A (load s.heap.objs.size >>= _) _ _ _;refine N7 (wpAny_load Qi ?_);refine N8 ?_;refine hQ h' (λb o e=>?_) (by have h1:((((s.heap.push (T! "list" #[] 0)).push (lL S 0 0 es.size ep)).update s.heap.objs.size (W5 (·.push D!))).update s.heap.objs.size (W5 (·.pop))).objs.size<=h'.objs.size:=hsz;rw[YY,YY,XC,XC]at h1;lia)
  have hb:=N9 e;exact kp b o (OA hb) (OA (Yf hb)) (Wf b o (OA hb) (N3 _ (N3 _ e)))
end
open PySem.W (KasT kas_sort)
def uN:List D->List D
 |[]=>[]
 |d::r=>if(r.any λe=>g! (kO e=kO d))=d! then uN r else d::uN r
variable{d:D}
def vc(h:(kT d).isSome=d!):kT d=a! (kO d):=by obtain⟨k,e⟩:=Oo.mp h;rw[e];show _=a! ((kT d).getD []);rw[e];rfl
def Dg{e:D}(hd:(kT d).isSome=d!)(he:(kT e).isSome=d!)(h:kO d=kO e):d=e:=by rw[lO (vc hd),lO (vc he),h]
theorem kJ:∀(ys:List D)(x:D),x∈uN ys->x∈ys
 |[],_,h=>nomatch h
 |d::r,x,h=>by
  unfold uN at h;split at h
  ·exact N1 _ (kJ r x h)
  ·obtain h|h:=Of.mp h
   ·rw[h];exact N2
   ·exact N1 _ (kJ r x h)
set_option tactic.hygienic true in
theorem uf:∀(ys:List D),(∀y∈ys,(kT y).isSome=d!)->∀x∈ys,x∈uN ys
 |[],_,_,h=>nomatch h
 |d::r,hk,x,h=>by
  have ih:=uf r λy hy=>hk y (N1 _ hy);unfold uN;split
  ·rename_i hc;obtain h|h:=Of.mp h
   ·obtain⟨e,he,h2⟩:=Xe.mp hc;have:=Dg (hk e (N1 _ he)) (hk d N2) (of_decide_eq_true h2);rw[h,<-this];exact ih e he
   ·exact ih x h
  ·obtain h|h:=Of.mp h
   ·rw[h];exact N2
   ·exact N1 _ (ih x h)
set_option tactic.hygienic true in
theorem ly:∀ys:List D,(uN ys).Nodup
 |[]=>YM
 |d::r=>by
  unfold uN;split
  ·exact ly r
  ·rename_i hc;refine Xn.mpr ⟨λh=>hc (Xe.mpr ⟨d,kJ r d h,0x4⟩),ly r⟩
def IX(ys:List D):Bool:=g! (ys.length<=76)&&ys.all (λy=>(kT y).isSome&&g! ((kO y).length≠0))&&g! ((uN ys).length<64)
def vD(xs:List DV):M DV:=match xs with
 |[x]=>bd (op (jJ x)) λys=>if IX ys=d! then rt (.new (xo (uN ys)))else b!
 |_=>b!
theorem zE{us:List b?}:∀(vs:List b?),(∀v∈vs,v∈us)->∃is:List Nat,(∀i∈is,i<us.length)/\is.map (λi=>us.getD i D!)=vs
 |[],_=>⟨[],(λo h=>nomatch h),rfl⟩
 |v::r,h=>by
  obtain⟨is,h1,h2⟩:=zE r λu hu=>h u (N1 _ hu);obtain⟨i,hi,e⟩:=Xr (h v N2);refine⟨i::is,λj hj=>?_,?_⟩
  ·obtain z|z:=Of.mp hj
   ·rwa[z]
   ·exact h1 j z
  ·rw[f?,h2];congr 1;simp[hi,e]
theorem mf{prog:g?}{w:q?}:∀{vs:List b?}{ks:List Int},Zn vs ks->ItemsAre (ę prog w) ks vs
 |_,_,.nil=>.nil
 |_,_,.cons n t h=>.cons (intKind_is _ _ _ _) (mf h)
open Classical in
noncomputable def jA(prog:g?)(w:q?)(h:F!):b?->List Int
 |.ref b=>if e:∃k,vz prog w h k b then e.choose else []
 |_=>[]
def vC{k:List Int}{b:c!}(x:vz prog w h k b):jA prog w h (.ref b)=k:=by unfold jA;have e:∃k,vz prog w h k b:=⟨k,x⟩;dsimp only;rw[dif_pos e];exact IsTupleKey.inj e.choose_spec x
noncomputable def GI(prog:g?)(w:q?)(bv:b?->List Int)(a:c!)(L:List El)(es:Array (Int×b?))(ep:Nat)(t:XW):HO:=.ext λo h=>TSet prog w bv h a L es ep t
section
variable{X:Cx}{E:XK}
def LN(X:Cx)(O P:List c!)(ys:List D)(v:V)(H:Hp):Prop:=∃a bv L es ep t ds vs,v=.ref a/\H a=a! (GI X.prog X.w bv a L es ep t)/\RpL (P++O) H ds vs/\aT vs (eU X.w a es ep)/\ds.Perm (uN ys)
def Lu(X:Cx)(vs:List V)(H:Hp)(Q:VK):Prop:=∃O P H₀ x ys v,vs=[v]/\aE H₀ H/\RE O P H₀ H x v/\jJ x=a! ys/\IX ys=d!/\∀v' H',aE H H'->LN X O P ys v' H'->Q v' H'
def Ic(X:Cx)(vs:List V)(H:Hp)(Q:VK):Prop:=∃O P H₀ ys v,vs=[v]/\aE H₀ H/\LN X O P ys v H/\IX ys=d!/\∀v' H',aE H H'->RE O P H₀ H' (.new (xo (uN ys))) v'->Q v' H'
def CI{ys:List D}(h:IX ys=d!):ys.length<=76/\(∀y∈ys,(kT y).isSome=d!/\(kO y).length≠0)/\(uN ys).length<64:=by unfold IX at h;rw[k?,k?]at h;refine⟨of_decide_eq_true h.1.1,λy hy=>?_,of_decide_eq_true h.2⟩;have:=XY.mp h.1.2 y hy;rw[k?]at this;exact⟨this.1,of_decide_eq_true this.2⟩
theorem zM{Z:List c!}{H:Hp}:∀{k:List Int}{tv:List V},RpL Z H (k.map r?) tv->tv=k.map V.int
 |[],_,lt=>by cases lt;rfl
 |x::r,_,lt=>by
  cases lt with
  |cons p lt=>cases p;rw[zM lt];rfl
def Cy{a_:List (c!×XQ)}{σ:St}{H:Hp}{s:d?}{Z:List c!}{v:V}{u:b?}(I:Inv X a_ σ H s)(r:Rp Z H d v)(e:bG v u)(hk:(kT d).isSome=d!):∃b D' o n,u=.ref b/\Zn D' (kO d)/\s.heap.get? b=a! o/\o.cls=.type "tuple" /\o.data=.seq D'.toArray n:=by
 have ed:=lO (vc hk);generalize kO d=k at ed;subst ed;cases r with
 |@tup b _ tv hzb hb lt=>
  cases e;obtain⟨D',U_,⟨o,eo,Q4,n,RC⟩,_⟩:=I.tuple (lA.of hb);refine⟨b,D',o,n,rfl,?_,eo,Q4,RC⟩;rw[zM lt]at U_;exact yR U_
def Kc(hh:X.A.handled=b!)(hu:X.A.units+64<K?):jZ X (.type "set") (Lu X):=λa_ s σ H vs us Q I rv ⟨O,P,H₀,x,ys,v,ev,hs,rx,ex,ok,q⟩=>by
 subst ev;obtain⟨hl,hk,VX⟩:=CI ok;obtain⟨a,ws,rfl,ha,l⟩:=rx.list ex;cases rv with
 |cons q1 q2=>
  cases q2;cases q1;obtain⟨D',ri,pl,hzz⟩:=I.list (gu.of ha);have f_:D'.length=ys.length:=by rw[<-ri.length,l.length]
  have item:∀i,i<ys.length->∃b,D'.getD i D!=.ref b/\vz X.prog X.w s.heap (kO (ys.getD i .none)) b:=λi hi=>by
   obtain⟨v,ev,VG⟩:=l.get (i:=i) (d:=ys[i]) (by simp[hi]);obtain⟨u,eu,ru⟩:=ri.get ev;obtain⟨b,its',o,n,rfl,hI,eo,Q4,RC⟩:=Cy I VG ru (hk _ (Ys hi)).1;have WN:ys.getD i .none=ys[i]:=by simp[hi]
   refine⟨b,by simp[Yo,eu],?_⟩;rw[WN];exact⟨o,_,n,eo,Q4,RC,mf hI⟩
  have cJ:∀i,i<ys.length->jA X.prog X.w s.heap (D'.getD i D!)=kO (ys.getD i .none):=λi hi=>by obtain⟨b,eb,kb⟩:=item i hi;rw[eb];exact vC kb
  refine C3 (items:=D'.toArray) (bv:=jA X.prog X.w s.heap) hh pl.isList (by simp;lia) 0x1 (λv hv=>?_) λh' tk L es ep t TS FW kp=>?_
  ·obtain⟨i,hi,e⟩:=Xr (show v∈D' by simpa using hv);have hiv:D'.getD i D!=v:=by simp[hi,e]
   obtain⟨b,eb,kb⟩:=item i 0x1;have hkk:=cJ i 0x1;rw[hiv]at eb hkk;exact⟨b,eb,by rwa[hkk]⟩
  ·have hn:s.heap.objs.size<=s.heap.objs.size:=N6 _;have VU:=I.hok.fresh hn;have U9:aE H (upd H s.heap.objs.size (GI X.prog X.w (jA X.prog X.w s.heap) s.heap.objs.size L es ep t)):=bb VU;refine⟨.ref s.heap.objs.size,upd H s.heap.objs.size (GI X.prog X.w (jA X.prog X.w s.heap) s.heap.objs.size L es ep t),I.laid (t':=tk) kp hn ⟨TS,⟨_,TS.get⟩,λz z h1 h2 p z k=>⟨k _ p.get,p.els,p.tab,p.few,p.led,p.plain⟩⟩,rfl,q _ _ U9 ?_⟩;have WC:(eU X.w s.heap.objs.size es ep).Perm (L.map λe=>e.2.2):=by unfold eU;have:=(oC X.w s.heap.objs.size es ep).map λp:Int×b?=>p.2;rwa[TS.els,A!]at this
   obtain⟨is,i1,i2⟩:=zE (us:=D') (eU X.w s.heap.objs.size es ep) λv hv=>by obtain⟨e,he,rfl⟩:=Oh.mp (WC.mem_iff.mp hv);have:=FW.sub e he;simpa using this
   have Wt:∀i∈is,i<ys.length:=λi hi=>by have:=i1 i hi;lia
   refine⟨_,_,L,es,ep,t,is.map (λi=>ys.getD i .none),is.map (λi=>ws.getD i .non),rfl,aQ,(l.pick is Wt).kp (Kp.same U9),?_,?_⟩
   ·rw[<-i2];exact kZ ri is λi hi=>by rw[ri.length];exact i1 i hi
   ·have kd:(is.map λi=>ys.getD i .none).map kO=(eU X.w s.heap.objs.size es ep).map (jA X.prog X.w s.heap):=by rw[<-i2,A!,A!];refine J? λi hi=>?_;exact(cJ i (Wt i hi)).symm
    have nd:((is.map λi=>ys.getD i .none).map kO).Nodup:=by rw[kd];have:=WC.map (jA X.prog X.w s.heap);rw[A!]at this;exact this.symm.nodup FW.nd
    have nd':(is.map λi=>ys.getD i .none).Nodup:=by unfold ő at nd ⊢;rw[B!]at nd;exact nd.imp λh e=>h (by rw[e])
    have sub:∀x∈(is.map λi=>ys.getD i .none),x∈ys:=λx hx=>by obtain⟨i,hi,rfl⟩:=Oh.mp hx;have OL:=Wt i hi;rw[show ys.getD i .none=ys[i] by simp[OL]];exact Ys OL
    refine(ā nd' (ly ys)).mpr λx=>⟨λhx=>uf ys (λy hy=>(hk y hy).1) x (sub x hx),λhx=>?_⟩;have UR:=kJ ys x hx;obtain⟨i,hi,e⟩:=Xr UR;have hgi:ys.getD i .none=x:=by simp[hi,e]
    obtain⟨e',Qp,hke⟩:=FW.all (D'.getD i D!) (by
     have Pz:i<D'.length:=by lia
     rw[show D'.getD i D!=D'[i] by simp[Pz]];simp)
    have RN:jA X.prog X.w s.heap e'.2.2∈(eU X.w s.heap.objs.size es ep).map (jA X.prog X.w s.heap):=Xq (WC.mem_iff.mpr (Oh.mpr ⟨e',Qp,rfl⟩));rw[hke,cJ i hi,hgi,<-kd]at RN;obtain⟨y,hy,hyk⟩:=Oh.mp RN;have:=Dg (hk y (sub y hy)).1 (hk x UR).1 hyk;rwa[<-this]
end
section
variable{prog:g?}{w:q?}{A:A?}{E:b?->d?->Prop}{s:d?}
def yL{S:c!}{es:Array (Int×b?)}{ep:Nat}{Q:b?->d?->Prop}{κ:X?}{kf:b?->List Int}(hh:A.handled=b!)(TS:TSet prog w bv s.heap S L es ep t)(VX:es.size<64)(hk:∀(A':A?)(s':d?)(Q:X?->d?->Prop)(E:b?->d?->Prop),(∀b o,s.heap.get? b=a! o->s'.heap.get? b=a! o)->2<=(eU w S es ep).length->Q κ s'->n? (p! prog w) A' (aÃ (eU w S es ep).toArray) Q E s')(hc:∀(A':A?)(s':d?)(u v:b?)(Q:Bool->d?->Prop)(E:b?->d?->Prop),(∀b o,s.heap.get? b=a! o->s'.heap.get? b=a! o)->u∈eU w S es ep->v∈eU w S es ep->Q (ll (kf u) (kf v)) s'->n? (p! prog w) A' (keyLt' κ u v) Q E s')(h:∀(out:List b?)(a:c!)(h2:F!)(e:Nat),out.Perm (eU w S es ep)->out.Pairwise (λu v=>ll (kf v) (kf u)=e!)->s.heap.objs.size<=a->(∀b o,s.heap.get? b=a! o->h2.get? b=a! o)->h2.get? a=a! (T! "list" out.toArray e)->Q (.ref a) {s with heap:=h2}):n? (p! prog w) A (call (.builtin "sorted") [.ref S]) Q E s:=by
 have hlv:=nH w S es ep;refine Ā kind_sorted plain_sorted entry_sorted (args_sorted1 _) ?_;unfold X5.«sorted»;refine N7 (m:=checkCount "sorted" 1 1 _) (N8 ?_);refine N7 (xg (A:=A.in1) hh TS 0x1 λh1 kp1 hsz=>?_);refine N7 (İ ?_ (by rw[K!];lia));have Si:(h1.push (T! "list" (eU w S es ep).toArray 0)).get? h1.objs.size=a! (T! "list" (eU w S es ep).toArray 0):=OC _ rfl;have keep:∀b o,s.heap.get? b=a! o->(h1.push (T! "list" (eU w S es ep).toArray 0)).get? b=a! o:=λb o e=>N3 _ (kp1 b o e);have Tv:∀b o,s.heap.get? b=a! o->b≠h1.objs.size:=λb o e=>OA (Ox (N9 e) hsz);show n? (p! prog w) A.in1 _ _ _ {s with heap:=h1.push (T! "list" (eU w S es ep).toArray 0)};refine N7 (XG (YC aÂ ⟨_,Si,rfl⟩ ϯ (lR (κ:=κ) (bv:=λp=>kf p.1) Si 0x1
  (λs' Q' E' kp h2 q=>hk _ s' Q' E' (λb o e=>kp b o (Tv b o e) (keep b o e)) h2 q) (λs' u v Q' E' kp hi hj q=>hc _ s' u v Q' E' (λb o e=>kp b o (Tv b o e) (keep b o e)) hi hj q) λout o1 o2=>?_) (aÄ _)))
 obtain⟨e,he⟩:=sortedHeap_at (vs:=eU w S es ep) (out:=out.toArray) Si;refine⟨_,rfl,N8 ⟨_,rfl,h out _ _ e o1 o2 hsz (λb o eb=>?_) he⟩⟩;have OL:b<(h1.push (T! "list" (eU w S es ep).toArray 0)).objs.size:=N9 (keep b o eb);rw[sortedHeap_old (Tv b o eb) OL];exact keep b o eb
end
section
variable{X:Cx}{E:XK}
def GZ(hh:X.A.handled=b!)(hu:X.A.units+64<K?):jZ X (.builtin "sorted") (Ic X):=λa_ s σ H vs us Q I rv ⟨O,P,H₀,ys,v,ev,hs,⟨a,bv,L,es,ep,t,ds,ws,e1,ha,l,ri,hp⟩,ok,q⟩=>by
 subst ev;subst e1;obtain⟨hl,hk0,VX⟩:=CI ok;have Um:∀d∈ds,(kT d).isSome=d!/\(kO d).length≠0:=λd hd=>hk0 d (kJ ys d (hp.mem_iff.mp hd));have WI:ds.length<64:=by rw[hp.length_eq];exact VX
 cases rv with
 |cons q1 q2=>
  cases q2;cases q1;obtain⟨TS,_,_⟩:b8 X.prog X.w H s.heap a (GI X.prog X.w bv a L es ep t):=I.hok a _ ha;have f_:(eU X.w a es ep).length=ds.length:=by rw[<-ri.length,l.length]
  have hsz:=nH X.w a es ep;have item:∀i,i<ds.length->∃b D' o n,(eU X.w a es ep).getD i D!=.ref b/\Zn D' (kO (ds.getD i .none))/\(kO (ds.getD i .none)).length≠0/\s.heap.get? b=a! o/\o.cls=.type "tuple" /\o.data=.seq D'.toArray n/\jA X.prog X.w s.heap ((eU X.w a es ep).getD i D!)=kO (ds.getD i .none):=λi hi=>by
   obtain⟨v,ev,VG⟩:=l.get (i:=i) (d:=ds[i]) (by simp[hi]);obtain⟨u,eu,ru⟩:=ri.get ev;obtain⟨b,its',o,n,rfl,hI,eo,Q4,RC⟩:=Cy I VG ru (Um _ (Ys hi)).1;have WN:ds.getD i .none=ds[i]:=by simp[hi]
   have hb:(eU X.w a es ep).getD i D!=.ref b:=by simp[Yo,eu]
   rw[WN,hb];exact⟨b,its',o,n,rfl,hI,(Um _ (Ys hi)).2,eo,Q4,RC,vC ⟨o,_,n,eo,Q4,RC,mf hI⟩⟩
  have at_:∀u∈eU X.w a es ep,∃i,i<ds.length/\(eU X.w a es ep).getD i D!=u:=λu hu=>by obtain⟨i,hi,e⟩:=Xr hu;exact⟨i,0x1,by simp[hi,e]⟩
  refine yL (κ:=tuples' d!) (kf:=jA X.prog X.w s.heap) hh TS 0x1 (λA' s' Q' E' kp h2 hq=>?_) (λA' s' u v Q' E' kp hi hj hq=>?_) λout p h2 ep2 o1 o2 hge kp S6=>?_
  ·obtain⟨fs,f1,f2,f3⟩:=uq (h:=s'.heap) (eU X.w a es ep) λv hv=>by
    obtain⟨i,hi,ev'⟩:=at_ v hv;obtain⟨b,its',o,n,eb,hI,Q9,eo,Q4,RC,_⟩:=item i hi;generalize kO (ds.getD i .none)=k at hI Q9;cases hI with
    |nil=>exact ê rfl Q9
    |cons x t hI'=>exact⟨b,o,_,n,x,t,ev'.symm.trans eb,kp b o eo,Q4,RC,rfl⟩
   refine È (T:=.type "int") f1 0x1 (λv hv=>?_) (by rfl) hq;obtain⟨i,t,rfl⟩:=f3 v hv;exact ZH
  ·obtain⟨i,Pz,rfl⟩:=at_ u hi;obtain⟨j,PQ,rfl⟩:=at_ v hj;obtain⟨b,its',o,n,eb,hI,_,eo,Q4,RC,k1⟩:=item i Pz;obtain⟨b2,PN,o2,n2,eb2,hI2,_,eo2,hcl2,V5,k2⟩:=item j PQ;rw[k1,k2]at hq;rw[eb,eb2];exact ś (kp b o eo) RC (kp b2 o2 eo2) V5 (vP (X:=its'.toArray.size) (Y:=PN.toArray.size) 0 hI hI2 (by simp;lia) hq)
  ·obtain⟨is,i1,i2⟩:=sS (d:=D!) o1;have OL:∀i∈is,i<ds.length:=λi hi=>by have:=Oj.mp (i1.mem_iff.mp hi);lia
   have Qi:=l.pick is OL;have QT:=kZ ri is λi hi=>by rw[<-l.length];exact OL i hi
   have ed:(is.map λi=>ds.getD i .none)=xo (uN ys):=by
    have hpd:(is.map λi=>ds.getD i .none).Perm ds:=by have:=i1.map λi=>ds.getD i .none;rwa[f_,jd]at this
    refine u0 (hpd.trans (hp.trans (dU _).symm)) ?_ (nB _) λx hx=>(Um x (hpd.mem_iff.mp hx)).1;rw[i2,B!]at o2;unfold Ord;rw[B!];refine Y8 (λ{i j} hi hj h=>?_) o2;obtain⟨_,_,_,_,_,_,_,_,_,_,k1⟩:=item i (OL i hi);obtain⟨_,_,_,_,_,_,_,_,_,_,k2⟩:=item j (OL j hj);rwa[k1,k2]at h
   rw[i2]at S6;rw[ed]at Qi;refine⟨.ref p,upd H p (.lst (is.map λi=>ws.getD i .non)),I.laid (t':=s.toks) kp hge ⟨?_,_,ep2,QT,S6⟩,rfl,q _ _ (bb (I.hok.fresh hge)) (RE.made hs (I.hok.fresh hge) Qi)⟩;rw[<-Qi.length,(dU _).length_eq,K!];lia
def J8:H! "set" = a! (.type "set"):=by decide +kernel
set_option tactic.hygienic true in
def Fw{x1 x2:w?}{e:E!}{fe:DS->M DV}{p1 p2 VD SD:YU}(hh:X.A.handled=b!)(hu:X.A.units+64<K?)(TH:Gl X x1)(hm1:X.mg x1=b!)(hv1:H! x1=a! (.builtin "sorted"))(TM:Gl X x2)(hm2:X.mg x2=b!)(So:H! x2=a! (.type "set"))(ha:PX X E e fe)(hn1:x1 ≠"__name__" :=by decide)(VZ:(x1==("__debug__" : w?))=e!:=by decide)(Rf:x2 ≠"__name__" :=by decide)(Wy:(x2==("__debug__" : w?))=e!:=by decide)(hs:n! [e] X.env=[(e!,I! e X.env)]:=by rfl)(QN:n! [.Call (.Name x2 p2) [e] [] SD] X.env=[(e!,I! (.Call (.Name x2 p2) [e] [] SD) X.env)]:=by rfl):PX X E (.Call (.Name x1 p1) [.Call (.Name x2 p2) [e] [] SD] [] VD) (aN vD (aa fe ai)):=PE.mono (vW (GZ hh hu) TH hm1 hv1 (jk (tP (Kc hh hu) TM hm2 So (ae ha ah hs) Rf Wy hs rfl) jS QN) hn1 VZ QN rfl) λσ H Q q=>by
  show Mw E (aa fe ai) σ H λvs H1=>Lu X vs H1 λv H2=>Ic X [v] H2 Q;refine lQ (g:=λ_=>vD) q λO P δ xs r vs H1 rs OK s1 rx eg q=>?_;unfold vD at eg;split at eg
  ·obtain⟨ys,e1,e2⟩:=bz eg;split at e2
   ·rename_i hok;cases e2;cases rx with
    |cons r1 rr=>
     cases rr;exact⟨O,P,H,_,ys,_,rfl,s1,r1,e1,hok,λv' H' s2 sp=>⟨O,P,H,ys,v',rfl,s1.trans s2,sp,hok,λv'' TK s3 re=>q v'' TK (s2.trans s3) re⟩⟩
   ·cases e2
  ·cases eg
end
end L3
namespace LW
open PySem PySem.Spec L2 L3
def oW:DS->M Out:=(bD (aK 2 (bX ai)) (bD (cT (iO (af 1)) (au 3) (aK 2 (e2 ax (af 2) (aN (aw 1 (bF)) (aa (af 3) ai))))) (bD (aK 4 (eC (.int 0))) (bD (aK 5 (eC (.int 0))) (bD (aK 6 (bX ai)) (bD (cT (iO (aN vD (aa (e2 ax (af 2) (af 0)) ai))) (au 7) (bD (aK 8 (aN wA (aa (ju (af 2) (af 7)) (aa (ju (af 0) (af 7)) ai)))) (bD (aK 4 (e2 ax (af 4) (e2 fA (af 8) (e2 bK (af 7) (eC (.int 0)))))) (bD (aK 5 (e2 gSub (e2 ax (af 5) (ju (af 2) (af 7))) (af 8))) (aK 6 (e2 ax (af 6) (e2 fA (bX (aa (af 7) ai)) (e2 gSub (ju (af 0) (af 7)) (af 8))))))))) (λδ=>(bA (br (aa (af 4) (aa (af 5) (aa (af 6) ai))))) (frz 6 δ))))))))
def bP:List DV->M DV:=eS ["hand","laying","need","meld","total_v","jokers","rest","tile","mine"] (oW)
def fV(K:Oe):DS->M Out:=(bD (aK 6 (aW 1 [5,4] (iO (aN (aw 2 (eY)) (aa (af 2) (aa (af 3) ai)))) (au 0) (λδ=>bd (e2 iA (e2 bK (aN (aw 2 (bP)) (aa (af 2) (aa (bX (aa (af 0) ai)) ai))) (eC (.int 1))) (af 1) δ) bQ) (af 0))) (bD (aK 7 (bX ai)) (bD (cT (rR (aa (eC (.int 4)) ai)) (au 8) (gJ (λδ=>bd (e2 xp (aN cB (aa (af 6) ai)) (eC (.int 0)) δ) bQ) (bD (aK 9 (aN ka (aa (e2 ax (af 7) (bX (aa (e2 bK (af 6) (aN (aw 3 (ay)) (aa (aN (aw 2 (aA K)) (aa (af 0) (aa (e2 ax (af 1) (af 8)) ai))) (aa (af 8) (aa (aN cB (aa (af 6) ai)) ai))))) ai))) ai))) (λδ=>(gJ (λδ=>bd (e2 iA (e2 bK (aN (aw 2 (bP)) (aa (af 4) (aa (af 9) ai))) (eC (.int 1))) (af 5) δ) bQ) (λδ=>(aK 7 (af 9)) (frz 9 δ)) ck) (frz 9 δ))) ck)) (bA (af 7)))))
def dZ(K:Oe):List DV->M DV:=eS ["script","start","most","colours","hand","jokers","some","laying","k","tried"] (fV K)
noncomputable def Kj:List Tl:=(m? 14).flatMap λ(a:Nat)=>(m? 4).map λ(b:Nat)=>((a:Int),(b:Int))
def Gb{p:Tl}(h:0<=p.1/\p.1<=13/\0<=p.2/\p.2<=3):p∈Kj:=by
 unfold Kj;refine Xz.mpr ⟨p.1.toNat,Oj.mpr 0x1,Oh.mpr ⟨p.2.toNat,Oj.mpr 0x1,?_⟩⟩;refine Prod.ext ?_ ?_
 ·show((p.1.toNat:Nat):Int)=p.1;lia
 ·show((p.2.toNat:Nat):Int)=p.2;lia
def nG{l:List Tl}(h:(l.map pr).Nodup):l.Nodup:=by unfold ő at h ⊢;rw[B!]at h;exact h.imp λP0 e=>P0 (by rw[e])
def FN(be am:List Tl)(hb:∀p∈be++am,0<=p.1/\p.1<=13/\0<=p.2/\p.2<=3)(hl:(be++am).length<=76):∃ks:List Tl,xo (uN ((be++am).map pr))=ks.map pr/\KsOk am be ks/\ks.length<=56/\IX ((be++am).map pr)=d!/\∀x∈ks,x∈be++am:=by
 have hkT:∀y∈(be++am).map pr,(kT y).isSome=d!:=λy hy=>by obtain⟨p,_,rfl⟩:=Oh.mp hy;rfl
 have hm:∀x∈xo (uN ((be++am).map pr)),∃p∈be++am,pr p=x:=λx hx=>by have:=kJ _ _ ((dU _).mem_iff.mp hx);obtain⟨p,hp,e⟩:=Oh.mp this;exact⟨p,hp,e⟩
 obtain⟨ks,hk⟩:=yn (l:=xo (uN ((be++am).map pr))) λx hx=>let⟨p,_,e⟩:=hm x hx;⟨p,e⟩
 have hnd:(ks.map pr).Nodup:=by rw[<-hk];exact(dU _).symm.nodup (ly _)
 have Po:∀x∈be++am,x∈ks:=λx hx=>by have h1:pr x∈xo (uN ((be++am).map pr)):=(dU _).mem_iff.mpr (uf _ hkT _ (Xq hx));rw[hk]at h1;obtain⟨y,hy,e⟩:=Oh.mp h1;rwa[<-yq e]
 have OO:∀x∈ks,x∈be++am:=λx hx=>by obtain⟨p,hp,e⟩:=hm (pr x) (by rw[hk];exact Xq hx);rwa[<-yq e]
 have f_:ks.length<=56:=XO (nG hnd) (l₂:=Kj) λx hx=>Gb (hb x (OO x hx));refine⟨ks,hk,⟨nG hnd,by rw[<-hk];exact nB _,λx hx=>Po x (N4 _ hx),λx hx=>Po x (N5 _ hx)⟩,f_,?_,OO⟩;unfold IX;have hnl:(uN ((be++am).map pr)).length=ks.length:=by rw[<-(dU _).length_eq,hk,e?]
 rw[Oz (by rwa[e?]),Cr,Oz 0x1];rfl
structure LayOk(m c:Nat)(L:List Ml):Prop where
 ok:∀y∈L,mF m c y
 len:L.length<=5
def zW(qs:List Tl):Prop:=qs.length<=10/\gZ qs=d!/\∀p∈qs,0<=p.1/\p.1<=13/\0<=p.2/\p.2<=3
def bI(L:List Ml):List Tl:=L.flatMap tl
theorem qP{m c:Nat}:∀{L:List Ml},(∀y∈L,mF m c y)->(bI L).length<=13*L.length
 |[],_=>by unfold bI;simp
 |y::r,h=>by have h1:=(h y N2).len;have h2:=qP (L:=r) λz hz=>h z (N1 _ hz);unfold bI at h2 ⊢;rw[YN,l!,i!];lia
variable{m c:Nat}{L:List Ml}
def De(h:∀y∈L,mF m c y):∀p∈bI L,0<=p.1/\p.1<=13/\0<=p.2/\p.2<=3:=λp hp=>by obtain⟨y,hy,Pg⟩:=Xz.mp hp;exact(h y hy).box p Pg
def dδ(am:List Tl)(xs:List D)(be:List Tl)(x3 x4 x5 x6 x7 x8:Option DV):DS:=[a! (.d (.list (am.map pr))),a! (.d (.list xs)),a! (.own (be.map pr)),x3,x4,x5,x6,x7,x8]
def Nl:DS->M Out:=aK 2 (e2 ax (af 2) (aN (aw 1 (bF)) (aa (af 3) ai)))
def Nm:DS->M Out:=(bD (aK 8 (aN wA (aa (ju (af 2) (af 7)) (aa (ju (af 0) (af 7)) ai)))) (bD (aK 4 (e2 ax (af 4) (e2 fA (af 8) (e2 bK (af 7) (eC (.int 0)))))) (bD (aK 5 (e2 gSub (e2 ax (af 5) (ju (af 2) (af 7))) (af 8))) (aK 6 (e2 ax (af 6) (e2 fA (bX (aa (af 7) ai)) (e2 gSub (ju (af 0) (af 7)) (af 8))))))))
def Bi(am:List Tl)(L:List Ml)(LO:LayOk m c L):∃x3,dG (au 3) Nl (L.map md) (dδ am (L.map md) [] b! b! b! b! b! b!)=rt (.nx (dδ am (L.map md) (bI L) x3 b! b! b! b! b!)):=by
 obtain⟨δ',e,x3,_,h⟩:=gR (f:=md) (i:=3) (N:=5) (B:=Nl) (all:=L) (λpre δ=>∃x3,(∀y∈pre,mF m c y)/\δ=dδ am (L.map md) (bI pre) x3 b! b! b! b! b!) (λpre y δ hy PD hI=>by
  obtain⟨x3,hp,rfl⟩:=hI;have Pg:∀z∈pre++[y],mF m c z:=λz hz=>by
   obtain h|h:=Og.mp hz
   ·exact hp z h
   ·rw[Oi.mp h];exact LO.ok y hy
  have hl:=qP hp;have hy':=(LO.ok y hy).len;refine⟨dδ am (L.map md) (bI (pre++[y])) (a! (.d (md y))) b! b! b! b! b!,?_,_,Pg,rfl⟩;unfold Nl;refine eT (x:=.new ((bI (pre++[y])).map pr)) ?_ rfl rfl;refine(av (x:=.own ((bI pre).map pr)) (y:=.new ((tl y).map pr)) rfl (aY (n:=1) (a9 (x:=.d (md y)) rfl) rfl rfl (LO.ok y hy).law)).trans ?_;rw[FF (xs:=(bI pre).map pr) (ys:=(tl y).map pr) rfl rfl rfl (by rw[e?,e?];lia)];unfold bI;rw[Xa,y?];simp) L [] _ (λa ha=>ha) (by have:=LO.len;simp;lia) ⟨b!,0x4,rfl⟩
 rw[YF]at h;subst h;exact⟨x3,e⟩
theorem vA{α:Type}(x:α):∀n:Nat,(p? n [x]).flatten=p? n x
 |0=>rfl
 |n+1=>by rw[J!,x?,vA x n,J!];rfl
def LU(d:D)(n:Nat)(h:n<=1000):fA (.new [d]) (.d (.int (n:Int)))=rt (.new (p? n d)):=by show Cj (.new [d]) (.d (.int (n:Int)))=_;unfold Cj;dsimp only[jJ];rw[é ⟨by simp;lia,0x1,0x1⟩,WW,vA]
theorem wQ(am be:List Tl):∀ks:List Tl,(gi am be ks).length<=am.length*ks.length
 |[]=>by unfold gi;simp
 |k::r=>by have ih:=wQ am be r;unfold gi at ih ⊢;rw[YN,l!,WZ,i!,Ϡ];have:=ZU (a:=k) (l:=am);lia
def BH(am be ks:List Tl)(xs:List D)(hh:am.length<=10)(hn:be.length<=65)(hk:ks.length<=56)(x3:Option DV):∃x7 x8,dG (au 7) Nm (ks.map pr) (dδ am xs be x3 (a! (.d (.int 0))) (a! (.d (.int 0))) (a! (.own [])) b! b!)=rt (.nx (dδ am xs be x3 (a! (.d (.int (lX am be ks)))) (a! (.d (.int (tN am be ks)))) (a! (.own ((gi am be ks).map pr))) x7 x8)):=by
 obtain⟨δ',e,x7,x8,h⟩:=gR (f:=pr) (i:=7) (N:=56) (B:=Nm) (all:=ks) (λpre δ=>∃x7 x8,δ=dδ am xs be x3 (a! (.d (.int (lX am be pre)))) (a! (.d (.int (tN am be pre)))) (a! (.own ((gi am be pre).map pr))) x7 x8) (λpre p δ hp PD hI=>by
  obtain⟨x7,x8,rfl⟩:=hI;have Ri:=ZU (a:=p) (l:=am);have We:=ZU (a:=p) (l:=be);have hm0:0<=iK am be p/\iK am be p<=10:=by unfold iK;lia
  have US:=tW am be p;have hrl:=wQ am be pre;have hrl2:am.length*pre.length<=10*56:=Nat.mul_le_mul hh 0x1;refine⟨dδ am xs be x3 (a! (.d (.int (lX am be (pre++[p]))))) (a! (.d (.int (tN am be (pre++[p]))))) (a! (.own ((gi am be (pre++[p])).map pr))) (a! (.d (pr p))) (a! (.d (.int (iK am be p)))),?_,_,_,rfl⟩;unfold Nm;refine f9 (δ':=dδ am xs be x3 (a! (.d (.int (lX am be pre)))) (a! (.d (.int (tN am be pre)))) (a! (.own ((gi am be pre).map pr))) (a! (.d (pr p))) (a! (.d (.int (iK am be p))))) (eT (x:=.d (.int (iK am be p))) ?_ rfl rfl) ?_
  ·refine(cg (bS (x:=.d (.int (be.count p:Int))) (y:=.d (.int (am.count p:Int))) ((rB (x:=.own (be.map pr)) (y:=.d (pr p)) rfl rfl rfl).trans ?_) ((rB (x:=.d (.list (am.map pr))) (y:=.d (pr p)) rfl rfl rfl).trans ?_))).trans ?_
   ·rw[qv,va]
   ·rw[qN,va]
   ·show rt (DV.d (.int (if(am.count p:Int)<(be.count p:Int)then(am.count p:Int)else(be.count p:Int))))=_;unfold iK;congr 3;split <;>lia
  refine f9 (δ':=dδ am xs be x3 (a! (.d (.int (lX am be (pre++[p]))))) (a! (.d (.int (tN am be pre)))) (a! (.own ((gi am be pre).map pr))) (a! (.d (pr p))) (a! (.d (.int (iK am be p))))) (eT (x:=.d (.int (lX am be (pre++[p])))) ?_ rfl rfl) ?_
  ·refine(av (x:=.d (.int (lX am be pre))) (y:=.d (.int (iK am be p*p.1))) rfl ((av (x:=.d (.int (iK am be p))) (y:=.d (.int p.1)) rfl ((av (x:=.d (pr p)) (y:=.d (.int 0)) rfl rfl).trans (aL rfl))).trans (eM ?_))).trans ?_
   ·unfold uR;rw[Oz (show -(2 ^ 64)<iK am be p by lia),Oz (show iK am be p<2 ^ 64 by lia)];rfl
   ·rw[bh];unfold lX;rw[y?,Ž];simp
  refine f9 (δ':=dδ am xs be x3 (a! (.d (.int (lX am be (pre++[p]))))) (a! (.d (.int (tN am be (pre++[p]))))) (a! (.own ((gi am be pre).map pr))) (a! (.d (pr p))) (a! (.d (.int (iK am be p))))) (eT (x:=.d (.int (tN am be (pre++[p])))) ?_ rfl rfl) ?_
  ·refine(av (x:=.d (.int (tN am be pre+(be.count p:Int)))) (y:=.d (.int (iK am be p))) ((av (x:=.d (.int (tN am be pre))) (y:=.d (.int (be.count p:Int))) rfl ((rB (x:=.own (be.map pr)) (y:=.d (pr p)) rfl rfl rfl).trans (by rw[qv,va]))).trans (bh _ _)) rfl).trans ?_;rw[cz];unfold tN;rw[y?,Ž];congr 3;simp;lia
  ·refine eT (x:=.new ((gi am be (pre++[p])).map pr)) ?_ rfl rfl;refine(av (x:=.own ((gi am be pre).map pr)) (y:=.new (p? (am.count p-be.count p) (pr p))) rfl ((av (x:=.new [pr p]) (y:=.d (.int ((am.count p-be.count p:Nat):Int))) rfl ((av (x:=.d (.int (am.count p:Int))) (y:=.d (.int (iK am be p))) ((rB (x:=.d (.list (am.map pr))) (y:=.d (pr p)) rfl rfl rfl).trans (by rw[qN,va])) rfl).trans (by rw[cz,US]))).trans (LU _ _ 0x1))).trans ?_;rw[FF (xs:=(gi am be pre).map pr) (ys:=p? (am.count p-be.count p) (pr p)) rfl rfl rfl (by simp;lia)];unfold gi;rw[Xa,y?];simp) ks [] _ (λa ha=>ha) (by simpa using hk) ⟨b!,b!,rfl⟩
 rw[YF]at h;subst h;exact⟨x7,x8,e⟩
variable{am:List Tl}
def C5(HQ:zW am)(LO:LayOk m c L):∃ks,KsOk am (bI L) ks/\bP [.d (.list (am.map pr)),.d (.list (L.map md))]=rt (.d (.tuple [.int (lX am (bI L) ks),.int (tN am (bI L) ks),.list ((gi am (bI L) ks).map pr)])):=by
 have hnl:=qP LO.ok;have UX:=LO.len;obtain⟨hl9,_,hbx⟩:=HQ;obtain⟨ks,e1,KO,RW,ok,_⟩:=FN (bI L) am (λp hp=>by
  obtain h|h:=Og.mp hp
  ·exact De LO.ok p h
  ·exact hbx p h) (by rw[l!];lia)
 refine⟨ks,KO,?_⟩;obtain⟨x3,e3⟩:=Bi am L LO;obtain⟨x7,x8,e4⟩:=BH am (bI L) ks (L.map md) hl9 0x1 RW x3;unfold bP;refine dE (x:=.d (.tuple [.int (lX am (bI L) ks),.int (tN am (bI L) ks),.list ((gi am (bI L) ks).map pr)])) ?_;unfold oW;refine f9 (δ':=dδ am (L.map md) [] b! b! b! b! b! b!) rfl ?_;refine f9 (δ':=dδ am (L.map md) (bI L) x3 b! b! b! b! b!) (jK (xs:=L.map md) (fq rfl) e3) ?_;refine f9 (δ':=dδ am (L.map md) (bI L) x3 (a! (.d (.int 0))) b! b! b! b!) rfl ?_;refine f9 (δ':=dδ am (L.map md) (bI L) x3 (a! (.d (.int 0))) (a! (.d (.int 0))) b! b! b!) rfl ?_;refine f9 (δ':=dδ am (L.map md) (bI L) x3 (a! (.d (.int 0))) (a! (.d (.int 0))) (a! (.own [])) b! b!) rfl ?_;refine f9 (δ':=dδ am (L.map md) (bI L) x3 (a! (.d (.int (lX am (bI L) ks)))) (a! (.d (.int (tN am (bI L) ks)))) (a! (.own ((gi am (bI L) ks).map pr))) x7 x8) (jK (xs:=ks.map pr) ?_ e4) rfl;refine vn ((cg (a9 ((av (x:=.own ((bI L).map pr)) (y:=.d (.list (am.map pr))) rfl rfl).trans (FF (xs:=(bI L).map pr) (ys:=am.map pr) rfl rfl rfl (by rw[e?,e?];lia))))).trans ?_);rw[<-y?];unfold vD;simp only[jJ,aP,aD];rw[é ok,e1]
theorem vS{gc:DS->M Bool}{δ:DS}:∀{xs:List D},(∀x∈xs,∃b,gc (δ.set 0 (a! (.d x)))=rt b)->(∀x:D,af 0 (δ.set 0 (a! (.d x)))=rt (.d x))->∃ys,cF (au 0) gc (af 0) δ xs=a! ys/\(∀y∈ys,y∈xs)/\ys.length<=xs.length
 |[],_,_=>⟨[],rfl,0x4,0x4⟩
 |x::r,h,h2=>by
  obtain⟨ys,e,hs,hl⟩:=vS (xs:=r) (λz hz=>h z (N1 _ hz)) h2;obtain⟨b,hb⟩:=h x N2;have hx:=h2 x;unfold cF;simp only[au];rw[hb];cases b with
  |false=>
   exact⟨ys,e,λy hy=>N1 _ (hs y hy),by rw[i!];lia⟩
  |true=>
   simp only[rt];rw[hx,e];refine⟨x::ys,rfl,λy hy=>?_,by rw[i!,i!];lia⟩;obtain z|z:=Of.mp hy
   ·rw[z];exact N2
   ·exact N1 _ (hs y z)
def Ib(HQ:zW am)(LO:LayOk m c L)(j:Int){fa fb fj:DS->M DV}{x:DV}{δ:DS}(h1:fa δ=rt (.d (.list (am.map pr))))(h2:fb δ=rt x)(hx:EJ x=a! (.d (.list (L.map md))))(h3:fj δ=rt (.d (.int j))):∃ks,KsOk am (bI L) ks/\(λδ=>bd (e2 iA (e2 bK (aN (aw 2 (bP)) (aa fa (aa fb ai))) (eC (.int 1))) fj δ) bQ) δ=rt (g! (tN am (bI L) ks<=j)):=by obtain⟨ks,KO,e⟩:=C5 HQ LO;refine⟨ks,KO,bj ((av (x:=.d (.int (tN am (bI L) ks))) (y:=.d (.int j)) ((av (x:=.d (.tuple [.int (lX am (bI L) ks),.int (tN am (bI L) ks),.list ((gi am (bI L) ks).map pr)])) (y:=.d (.int 1)) (aY (bS h1 h2) ?_ rfl e) rfl).trans (aL rfl)) h3).trans (nE _ _))⟩;show(match EJ (.d (.list (am.map pr))),args [x]with|some a,a! r=>a! (a::r)|_,_=>b!)=_;show(match a! (DV.d (.list (am.map pr))),(match EJ x,args []with|some a,a! r=>a! (a::r)|_,_=>b!)with|some a,a! r=>a! (a::r)|_,_=>b!)=_;rw[hx];rfl
theorem Ig{m c:Nat}:∀{xs:List D},(∀x∈xs,∃y∈o7 m c,md y=x)->∃L:List Ml,xs=L.map md/\∀y∈L,y∈o7 m c
 |[],_=>⟨[],rfl,0x4⟩
 |x::r,h=>by
  obtain⟨L,e,hL⟩:=Ig (xs:=r) λz hz=>h z (N1 _ hz);obtain⟨y,hy,e1⟩:=h x N2;refine⟨y::L,by rw[f?,e1,<-e],λz hz=>?_⟩;obtain q|q:=Of.mp hz
  ·rwa[q]
  ·exact hL z q
structure Drw(m c:Nat)(h:List Tl)(j:Int)(L:List Ml):Prop where
 mem:∀y∈L,y∈o7 m c
 asc:BK L
 jok:0<=jl h j (L.map tl).flatten
def Ap(L:List Ml):bI L=(L.map tl).flatten:=by unfold bI;rw[List.flatMap_def]
def FQ{y:Ml}(hL:∀z∈L,z∈o7 m c)(hy:y∈o7 m c)(hl:L.length<=100){x:DV}(hx:jJ x=a! (L.map md))(h0:∀z,yf x (.new z)=b!):∃L':List Ml,(∀z∈L',z∈o7 m c)/\L'.length=L.length+1/\BK L'/\∀(fa fb:DS->M DV)(δ:DS),fa δ=rt x->fb δ=rt (.d (md y))->aN ka (aa (e2 ax fa (bX (aa fb ai))) ai) δ=rt (.new (L'.map md)):=by
 have Pd:∀z∈L.map md++[md y],∃w∈o7 m c,md w=z:=λz hz=>by
  obtain h|h:=Og.mp hz
  ·obtain⟨w,hw,rfl⟩:=Oh.mp h;exact⟨w,hL w hw,rfl⟩
  ·rw[Oi.mp h];exact⟨y,hy,rfl⟩
 have hp:=dw (L.map md++[md y]);obtain⟨L',e,h'⟩:=Ig (m:=m) (c:=c) (xs:=r9 (L.map md++[md y])) λz hz=>Pd z (hp.mem_iff.mp hz);have f_:L'.length=L.length+1:=by have:=hp.length_eq;rw[e]at this;simpa using this
 have ho:uP (L'.map md):=by rw[<-e];exact jX _
 refine⟨L',h',f_,B!.mp ho,λfa fb δ h1 h2=>?_⟩;refine(cg (a9 ((av (x:=x) (y:=.new [md y]) h1 ?_).trans (FF (xs:=L.map md) (ys:=[md y]) (h0 _) hx rfl (by simp;lia))))).trans ?_
 ·exact EM (a9 h2) rfl 0x4
 ·unfold ka;simp only[jJ,aP,aD];rw[é (qo (λz hz=>by obtain⟨w,_,rfl⟩:=Pd z hz;exact eK w) (by simp;lia)),e]
def yδ(K:Oe)(ns:List Int)(st:Int)(m c:Nat)(am:List Tl)(j:Int)(ys:List D)(x7 x8 x9:Option DV):DS:=[a! (.scr K ns),a! (.d (.int st)),a! (.d (.int (m:Int))),a! (.d (.int (c:Int))),a! (.d (.list (am.map pr))),a! (.d (.int j)),a! (.own ys),x7,x8,x9]
def yB(K:Oe):DS->M Out:=(gJ (λδ=>bd (e2 xp (aN cB (aa (af 6) ai)) (eC (.int 0)) δ) bQ) (bD (aK 9 (aN ka (aa (e2 ax (af 7) (bX (aa (e2 bK (af 6) (aN (aw 3 (ay)) (aa (aN (aw 2 (aA K)) (aa (af 0) (aa (e2 ax (af 1) (af 8)) ai))) (aa (af 8) (aa (aN cB (aa (af 6) ai)) ai))))) ai))) ai))) (λδ=>(gJ (λδ=>bd (e2 iA (e2 bK (aN (aw 2 (bP)) (aa (af 4) (aa (af 9) ai))) (eC (.int 1))) (af 5) δ) bQ) (λδ=>(aK 7 (af 9)) (frz 9 δ)) ck) (frz 9 δ))) ck)
def LZ{j:Int}{ks:List Tl}(KO:KsOk am (bI L) ks)(h:tN am (bI L) ks<=j):0<=jl am j (L.map tl).flatten:=by rw[L6 KO]at h;rw[<-Ap];unfold jl;lia
def DT{K:Oe}{ns:List Int}{st:Int}(PZ:0<=st)(hm:m<=13)(h1:1<=c)(h4:c<=4)(HQ:zW am){j:Int}(j0:0<=j):∃(L:List Ml)(x:DV),dZ K [.scr K ns,.d (.int st),.d (.int (m:Int)),.d (.int (c:Int)),.d (.list (am.map pr)),.d (.int j)]=rt x/\(x=.new (L.map md)\/x=.d (.list (L.map md)))/\Drw m c am j L/\L.length<=4:=by
 have RW:=uI hm h4;have hkM:∀{L:List Ml},(∀z∈L,z∈o7 m c)->L.length<=5->LayOk m c L:=λh hl=>⟨λy hy=>(qD hm h1 h4 (h y hy)).1,hl⟩;obtain⟨ys,ey,Td,hyl⟩:=vS (gc:=(λδ=>bd (e2 iA (e2 bK (aN (aw 2 (bP)) (aa (af 2) (aa (bX (aa (af 0) ai)) ai))) (eC (.int 1))) (af 1) δ) bQ)) (δ:=[b!,a! (.d (.int j)),a! (.d (.list (am.map pr)))]) (xs:=cG m c) (λx hx=>by rw[<-lY]at hx;obtain⟨y,hy,rfl⟩:=Oh.mp hx;obtain⟨ks,_,e⟩:=Ib HQ (L:=[y]) (hkM (λz hz=>by rwa[Oi.mp hz]) 0x4) j (fa:=af 2) (fb:=bX (aa (af 0) ai)) (fj:=af 1) (δ:=[a! (.d (md y)),a! (.d (.int j)),a! (.d (.list (am.map pr)))]) rfl (x:=.new [md y]) rfl rfl rfl;exact⟨_,e⟩) λx=>rfl
 obtain⟨δ',e,L,x7,x8,x9,Tz,hL,hLl,rfl⟩:=gR (f:=λ(k:Nat)=>r? (k:Int)) (i:=8) (N:=4) (all:=m? 4) (B:=yB K) (λpre δ=>∃(L:List Ml)(x7:DV)(x8 x9:Option DV),(x7=.own (L.map md)\/x7=.d (.list (L.map md)))/\Drw m c am j L/\L.length<=pre.length/\δ=yδ K ns st m c am j ys (a! x7) x8 x9) (λpre k δ hk PD hI=>by
  obtain⟨L,x7,x8,x9,Tz,hL,hLl,rfl⟩:=hI;show ∃δ',yB K (yδ K ns st m c am j ys (a! x7) (a! (.d (.int (k:Int)))) x9)=_/\_;unfold yB;have f_:aN cB (aa (af 6) ai) (yδ K ns st m c am j ys (a! x7) (a! (.d (.int (k:Int)))) x9)=rt (.d (.int (ys.length:Int))):=(cg (a9 (x:=.own ys) rfl)).trans rfl;have ht:(λδ=>bd (e2 xp (aN cB (aa (af 6) ai)) (eC (.int 0)) δ) bQ) (yδ K ns st m c am j ys (a! x7) (a! (.d (.int (k:Int)))) x9)=rt (g! ((0:Int)<(ys.length:Int))):=bj ((av (y:=.d (.int 0)) f_ rfl).trans (jq _ _));by_cases hy0:(0:Int)<(ys.length:Int)
  ·rw[Oz hy0]at ht;obtain⟨r,er,r0,r1⟩:=vY (δ:=yδ K ns st m c am j ys (a! x7) (a! (.d (.int (k:Int)))) x9) (fa:=aN (aw 2 (aA K)) (aa (af 0) (aa (e2 ax (af 1) (af 8)) ai))) (fb:=af 8) (fc:=aN cB (aa (af 6) ai)) (cell:=bw ns (st+(k:Int))) (k:=(k:Int)) (many:=(ys.length:Int)) (vw (K:=K) (ns:=ns) rfl ((av (x:=.d (.int st)) (y:=.d (.int (k:Int))) rfl rfl).trans (bh _ _)) 0x1) rfl f_ hy0;obtain⟨n,rfl⟩:=X2 r0;have hn:n<ys.length:=by lia
   have hxm:=Td (ys.getD n .none) (by rw[show ys.getD n .none=ys[n] by simp[hn]];exact Ys hn);rw[<-lY]at hxm;obtain⟨y,hyM,hye⟩:=Oh.mp hxm;have Rq:e2 bK (af 6) (aN (aw 3 (ay)) (aa (aN (aw 2 (aA K)) (aa (af 0) (aa (e2 ax (af 1) (af 8)) ai))) (aa (af 8) (aa (aN cB (aa (af 6) ai)) ai)))) (yδ K ns st m c am j ys (a! x7) (a! (.d (.int (k:Int)))) x9)=rt (.d (md y)):=by rw[hye];exact(av (x:=.own ys) rfl er).trans (Aa (qS hn _))
   have hv7:af 7 (yδ K ns st m c am j ys (a! x7) (a! (.d (.int (k:Int)))) x9)=rt x7:=rfl;obtain⟨L',OS,Qi,hA',es⟩:=FQ hL.mem hyM 0x1 (x:=x7) (by obtain z|z:=Tz <;>rw[z] <;>rfl) (by intro z;obtain z'|z':=Tz <;>rw[z'] <;>rfl);have Uy:=es _ _ _ hv7 Rq;obtain⟨ks,KO,hb⟩:=Ib HQ (hkM OS 0x1) j (fa:=af 4) (fb:=af 9) (fj:=af 5) (δ:=yδ K ns st m c am j ys (a! x7) (a! (.d (.int (k:Int)))) (a! (.d (.list (L'.map md))))) rfl (x:=.d (.list (L'.map md))) rfl rfl rfl;have OR:(pre++[k]).length=pre.length+1:=by simp
   by_cases hj:tN am (bI L') ks<=j
   ·rw[Oz hj]at hb;refine⟨yδ K ns st m c am j ys (a! (.d (.list (L'.map md)))) (a! (.d (.int (k:Int)))) (a! (.d (.list (L'.map md)))),Mv ht ?_,L',.d (.list (L'.map md)),_,_,.inr rfl,⟨OS,hA',LZ KO hj⟩,0x1,rfl⟩;exact f9 (δ':=yδ K ns st m c am j ys (a! x7) (a! (.d (.int (k:Int)))) (a! (.own (L'.map md)))) (eT (x:=.new (L'.map md)) Uy rfl rfl) (Mv hb rfl)
   ·rw[Oy hj]at hb;refine⟨yδ K ns st m c am j ys (a! x7) (a! (.d (.int (k:Int)))) (a! (.d (.list (L'.map md)))),Mv ht ?_,L,x7,_,_,Tz,hL,0x1,rfl⟩;exact f9 (δ':=yδ K ns st m c am j ys (a! x7) (a! (.d (.int (k:Int)))) (a! (.own (L'.map md)))) (eT (x:=.new (L'.map md)) Uy rfl rfl) (G9 hb rfl)
  ·rw[Oy hy0]at ht;exact⟨yδ K ns st m c am j ys (a! x7) (a! (.d (.int (k:Int)))) x9,G9 ht rfl,L,x7,_,_,Tz,hL,by simp;lia,rfl⟩) (m? 4) [] (yδ K ns st m c am j ys (a! (.own [])) b! b!) (λa ha=>ha) 0x4 ⟨[],.own [],b!,b!,.inl rfl,⟨(λo h=>nomatch h),S?,by show 0<=jl am j [];rwa[Dq]⟩,0x4,rfl⟩
 have SE:fV K [a! (.scr K ns),a! (.d (.int st)),a! (.d (.int (m:Int))),a! (.d (.int (c:Int))),a! (.d (.list (am.map pr))),a! (.d (.int j)),b!,b!,b!,b!]=rt (.rt x7):=by unfold fV;refine f9 (δ':=[a! (.scr K ns),a! (.d (.int st)),a! (.d (.int (m:Int))),a! (.d (.int (c:Int))),a! (.d (.list (am.map pr))),a! (.d (.int j)),a! (.own ys),b!,b!,b!]) (eT (x:=.new ys) (bp (xs:=cG m c) (vn (aY (n:=2) (bS (x:=.d (.int (m:Int))) (y:=.d (.int (c:Int))) rfl rfl) rfl rfl (wb m c hm h1 h4))) (by rw[<-lY,e?];lia) ey) rfl rfl) ?_;refine f9 (δ':=yδ K ns st m c am j ys (a! (.own [])) b! b!) rfl ?_;refine f9 (δ':=yδ K ns st m c am j ys (a! x7) x8 x9) (jK (xs:=(m? 4).map λ(k:Nat)=>r? (k:Int)) ((ir (j:=4) (a9 rfl) 0x3 0x3).trans (by rw[Nn];rfl)) e) (bC rfl)
 refine⟨L,res x7,dE (x:=x7) SE,?_,hL,by simpa using hLl⟩;obtain z|z:=Tz
 ·rw[z];exact .inl rfl
 ·rw[z];exact .inr rfl
end LW
namespace L3
open PySem PySem.Spec L2
open PyProof.Rows hiding St
section
open PySem.SeqAt
open PySem.AutoSeq1 (wpAny_loadPart')
open PySem.MeetsSeq PySem.MeetsSeq2 PySem.MeetsSeq3
def HN{l b:c!}{items G':Array b?}{n n2:Nat}{dd QA:Option c!}{sl Qq:Array (Option b?)}:∀(xs ys:List j!)(i:Nat)(k:Bool),cL d! xs ys=a! k->i<=items.size->i<=G'.size ->
  ϋ (X5.«list.__eq__.loop» ⟨[.ref l,.ref b,ç i,ç 0],[]⟩)
   (λA R s=>s.heap.get? l=a! {cls:=.type "list",dict:=dd,data:=.seq items n,slots:=sl}/\s.heap.get? b=a! {cls:=.type "list",dict:=QA,data:=.seq G' n2,slots:=Qq} /\
    (∃as,WY s.heap (items.toList.drop i) xs as)/\(∃as,WY s.heap (G'.toList.drop i) ys as)/\s? xs=d!/\s? ys=d!/\A.units+1+l? xs<K?/\R (.ok (.ret (.bool k))) s):=by
 intro xs
 induction xs with
 |nil=>
  intro ys i k hk hi RQ prog w A R s h;obtain⟨hp,g,d,tk,os⟩:=s;obtain⟨hl,hb,⟨as,r1⟩,⟨bs,r2⟩,c1,c2,hu,h⟩:=h
  wp_walk using I? hl,I? hb
  have e1:items.toList.drop i=[]:=by cases hq:items.toList.drop i with|nil=>rfl|cons _ _=>rw[hq]at r1;cases r1
  have hs1:items.size=i:=by have:=congrArg ZT e1;simp at this;lia
  have QO:items[((i:Nat):Int).toNat]?=b!:=by simp;lia
  have hv:k=g! (items.size<G'.size):=by
   cases ys with
   |nil=>
    have e2:G'.toList.drop i=[]:=by cases hq:G'.toList.drop i with|nil=>rfl|cons _ _=>rw[hq]at r2;cases r2
    have:=congrArg ZT e2;simp at this;unfold cL at hk;cases hk;exact(Oy 0x1).symm
   |cons y ys=>
    have:G'.toList.drop i≠[]:=λz=>by rw[z]at r2;cases r2
    have h3:i<G'.size:=by refine P? λz=>this ?_;exact X7 (by simp;lia)
    unfold cL at hk;cases hk;exact(Oz 0x1).symm
  rw[QO]
  wp_walk using I? hl,I? hb
  rwa[hv]at h
 |cons x xs ih=>
  intro ys i k hk hi RQ prog w A R s h;obtain⟨hp,g,d,tk,os⟩:=s;obtain⟨hl,hb,⟨as,r1⟩,⟨bs,r2⟩,c1,c2,hu,h⟩:=h
  wp_walk using I? hl,I? hb
  have OL:i<items.size:=by refine P? λz=>?_;rw[X7 (by simp;lia)]at r1;cases r1
  have QO:items[((i:Nat):Int).toNat]?=a! items[i]:=by simp[OL]
  have d1:items.toList.drop i=items[i]::items.toList.drop (i+1):=by rw[L? (by simpa using OL)];simp
  rw[d1]at r1;cases ys with
  |nil=>
   have e2:G'.toList.drop i=[]:=by cases hq:G'.toList.drop i with|nil=>rfl|cons _ _=>rw[hq]at r2;cases r2
   have:=congrArg ZT e2;simp at this;have Rf:G'[((i:Nat):Int).toNat]?=b!:=by simp;lia
   unfold cL at hk;cases hk;rw[QO,Rf]
   wp_walk using I? hl,I? hb
   rwa[<-Oy (show ¬items.size<G'.size by lia)]at h
  |cons y ys=>
   have QF:i<G'.size:=by refine P? λz=>?_;rw[X7 (by simp;lia)]at r2;cases r2
   have Rf:G'[((i:Nat):Int).toNat]?=a! G'[i]:=by simp[QF]
   have d2:G'.toList.drop i=G'[i]::G'.toList.drop (i+1):=by rw[L? (by simpa using QF)];simp
   have hc:((i:Int)+1)=((i+1:Nat):Int):=by push_cast;rfl
   rw[d2]at r2;unfold s? at c1 c2;rw[k?]at c1 c2;have RU:l? (x::xs)=max x.depth (l? xs):=by rw[l?]
   rw[RU]at hu;cases r1 with
   |cons rv r1=>
    cases r2 with
    |cons ru r2=>
     have he:=eqAt_reads x y A.in1 ⟨hp,g,d,tk,os⟩ _ _ _ _ rv ru c1.1 c2.1 (by show A.units+1+_<K?;lia);rw[QO,Rf];refine N7 (he prog w _ _ ?_);unfold cL at hk;cases e:i? x y with
     |true=>
      rw[e,é rfl]at hk
      wp_walk
      rw[hc];exact⟨XH plain_eq_loop _,U? entry_eq_loop (by rw[M! plain_eq_loop _];exact ih ys (i+1) k hk OL QF prog w A R _ ⟨hl,hb,⟨_,r1⟩,⟨_,r2⟩,c1.2,c2.2,0x1,h⟩)⟩
     |false=>
      rw[e,è z!]at hk;have UG:∀(E:b?->d?->Prop)(Q:b?->d?->Prop),Q (.bool k) ⟨hp,g,d,tk,os⟩->n? (p! prog w) A.in1 (Ď .Lt _ _) Q E ⟨hp,g,d,tk,os⟩:=kY _ d! x y A.in1 ⟨hp,g,d,tk,os⟩ _ _ _ _ k (Xf _) rv ru c1.1 c2.1 (by show A.units+1+_<K?;lia) hk prog w
      wp_walk using I? hl,I? hb
      rw[QO,Rf]
      wp_walk using UG
      exact h
def tU(l b:c!)(items G':Array b?)(n n2:Nat)(dd QA:Option c!)(sl Qq:Array (Option b?))(xs ys:List j!)(k:Bool)(hk:cL d! xs ys=a! k):
  ϋ (X5.«list.__lt__» ⟨[.ref l,.ref b],[]⟩)
   (λA R s=>s.heap.get? l=a! {cls:=.type "list",dict:=dd,data:=.seq items n,slots:=sl}/\s.heap.get? b=a! {cls:=.type "list",dict:=QA,data:=.seq G' n2,slots:=Qq} /\
    (∃as,WY s.heap items.toList xs as)/\(∃as,WY s.heap G'.toList ys as)/\s? xs=d!/\s? ys=d!/\A.units+1+l? xs<K?/\R (.ok (.ret (.bool k))) s):=by
 intro prog w A R s h;obtain⟨hp,g,d,tk,os⟩:=s;obtain⟨hl,hb,h1,h2,c1,c2,hu,h⟩:=h
 have f3:=AutoSeq1.sub_list_list
 wp_walk using I? hl,I? hb
 exact⟨XH plain_eq_loop _,U? entry_eq_loop (by rw[M! plain_eq_loop _];exact HN xs ys 0 k hk (Ov _) (Ov _) prog w A R _ ⟨hl,hb,h1,h2,c1,c2,hu,h⟩)⟩
end
section
variable{X:Cx}{E:XK}
def Jk(x y:DV):M DV:=match x,y with
 |.d (.list xs),.d (.list ys)=>if l? xs<=60 then bd (op (cL d! xs ys)) λk=>rt (.d (.bool k))else b!
 |_,_=>b!
set_option tactic.hygienic true in
def Km(hu:X.A.units+64<K?):hW X E (D? .Lt) Jk:=λa_ s σ O P H₀ H x y v u vv uu r Q I hd hs rx ry ev eu e q=>by
 unfold Jk at e;split at e
 ·rename_i xs ys;split at e
  ·rename_i Q1;obtain⟨k,hk,e⟩:=bz e;cases e;have R8:Rp (P++O) H (.list xs) v:=rx;have Sg:Rp (P++O) H (.list ys) u:=ry;obtain⟨as,ra⟩:=R8.reads I ev;obtain⟨bs,rb⟩:=Sg.reads I eu;have la:=R8.lay;have lb:=Sg.lay;unfold W8 at la lb;cases ra with
   |@list a o vs n1 _ as e1 c1 d1 l1=>
    cases rb with
    |@list b o2 ws n2 _ bs e2 c2 d2 l2=>
     obtain⟨cls,dd,data,sl⟩:=o;obtain⟨Ua,QA,data2,Qq⟩:=o2;simp only at c1 d1 c2 d2;subst c1 d1 c2 d2;exact ZV (op:=.Lt) ⟨_,e1,rfl⟩ ⟨_,e2,rfl⟩ PySem.F.slot_list_lt PySem.F.entry_list_lt (PySem.F.args_list_lt_2 _ _) (tU a b vs ws n1 n2 dd QA sl Qq xs ys k hk)
      ⟨e1,e2,⟨_,l1⟩,⟨_,l2⟩,la,lb,0x1,show YD k≠ZN/\EP X a_ σ Q (.bool k) s from⟨(λx=>nomatch x),.bl _,H,I,rfl,q _ H (aE.refl H) (.bool _)⟩⟩ 0x1
  ·cases e
 ·cases e
end
end L3
namespace LW
open PySem PySem.Spec L2 L3
def zP(C:c!)(Oa:c!)(Oc:c!):DS->M Out:=(bA (e2 gSub (aN (aw 1 (il)) (aa (af 1) ai)) (aN (aw 1 (il)) (aa (e2 bK (rA (aN (dD 4 (mn C Oa Oc)) (aa (af 0) (aa (af 1) (aa (af 2) (aa (af 3) ai)))))) (eC (.int 0))) ai))))
def jn(C:c!)(Oa:c!)(Oc:c!):List DV->M DV:=eS ["house","hand","jokers","laying"] (zP C Oa Oc)
variable{m c:Nat}{h:List Tl}{j:Int}{L:List Ml}
def G3(C Eh El:c!)(H:Hand m c h j)(LO:Lay m c L)(hj:0<=jl h j (L.map tl).flatten):jn C Eh El [hs C m c,.d (.list (h.map pr)),.d (.int j),.d (.list (L.map md))]=rt (.d (.int (aX h-aX (aq h (L.map tl).flatten)))):=by have hl:=H.len;have TC:(aq h (L.map tl).flatten).length<=1000:=Ow (iC _ h).1 0x1;unfold jn;refine dE (x:=.d (.int (aX h-aX (aq h (L.map tl).flatten)))) ?_;unfold zP;refine bC ((av (x:=.d (.int (aX h))) (y:=.d (.int (aX (aq h (L.map tl).flatten)))) (aY (n:=1) (a9 (x:=.d (.list (h.map pr))) rfl) rfl rfl (uD h 0x1)) (aY (n:=1) (a9 (x:=.d (.list ((aq h (L.map tl).flatten).map pr))) ((av (x:=.d (.tuple [.list ((aq h (L.map tl).flatten).map pr),.int (jl h j (L.map tl).flatten)])) (y:=.d (.int 0)) ?_ rfl).trans (aL rfl))) rfl rfl (uD _ TC))).trans (cz _ _));exact(congrArg (λz=>bd z λx=>rt (Aw x)) (eJ (n:=4) (Lf (x:=hs C m c) (y:=.d (.list (h.map pr))) (z:=.d (.int j)) (u:=.d (.list (L.map md))) rfl rfl rfl rfl) rfl rfl (Ef C Eh El H LO hj))).trans rfl
def Dj(m c:Nat):BK (o7 m c):=by have:=sD m c;rw[<-lY]at this;exact B!.mp this
def Drw.lay(hm:m<=13)(h1:1<=c)(h4:c<=4)(d:Drw m c h j L)(hl:L.length<=12):Lay m c L:=⟨λy hy=>qD hm h1 h4 (d.mem y hy),hl,d.asc.ord⟩
def Ks(hm:m<=13)(h1:1<=c)(h4:c<=4)(H:Hand m c h j):Drw m c h j (BL m c h j):=by have a:BK (rQ m c h j):=(Dj m c).sublist ľ;obtain⟨a1,a2⟩:=BK.fl (l:=lx m c h j) (ad:=dA (lx m c h j) h j) (rQ m c h j) h j a;exact⟨λy hy=>(vg (a2 y hy)).1,a1,(wG hm h1 h4 H).2⟩
def AV:List Ml->List Ml->Bool
 |[],[]=>e!
 |[],_::_=>d!
 |_::_,[]=>e!
 |a::as,b::bs=>if i? (md a) (md b)=d! then AV as bs else ll (jx (md a)) (jx (md b))
set_option tactic.hygienic true in
theorem Ee:∀(L B:List Ml),cL d! (L.map md) (B.map md)=a! (AV L B)
 |[],[]=>rfl
 |[],_::_=>rfl
 |_::_,[]=>rfl
 |a::as,b::bs=>by
  show(if i? (md a) (md b)=d! then cL d! (as.map md) (bs.map md)else cD d! (md a) (md b))=_;unfold AV;split
  ·exact Ee as bs
  ·rename_i he;obtain⟨k,hk⟩:=Oo.mp ((eK a).cmp (eK b));obtain⟨e,_⟩|⟨_,e,_⟩:=pQ (md a) (md b) k (eK a).ok (eK b).ok hk [] []
   ·exact ê ((GY (eK a) (eK b)).mpr e) he
   ·rw[C!,C!]at e;rw[hk,e]
section
variable{l:By}{AM:List (List Tl)}{ad:Int}
def JV(T:Tab l AM):∀(n:Nat)(ys:List Ml)(xs:List (List Tl))(r:List Tl)(j:Int)(L:List Ml),r.length<=n->BK ys->(∀y∈ys,tl y∈AM)->r.length<100->Stt r j->xG r->dA l r j=ad->Av AM ad xs r j ->
  (∀y∈L,y∈ys)->0<=jl r j (L.map tl).flatten->aX (aq r (L.map tl).flatten)<=ad->AV L (nR l ad ys r j)=e!:=by
 intro n
 induction n with
 |zero=>
  intro ys xs r j L hn _ hy hl s hp hg a hL hj hs;have e:r=[]:=OG 0x1;subst e;rw[G6]at hg;rw[yI T s hp (show aX []=ad from hg) ys hy];cases L with
  |nil=>rfl
  |cons z L=>rfl
 |succ n ihn=>
  intro ys
  induction ys with
  |nil=>
   intro xs r j L _ _ _ _ _ _ _ _ hL _ _;cases L with
   |nil=>rfl
   |cons z L=>exact ê (hL z N2) 0x4
  |cons y ys ih=>
   intro xs r j L hn ha hy hl s hp hg a hL hj hs;obtain⟨a1,a2⟩:=Oq.mp ha;have hw:=hy y N2;by_cases h:0<=jl r j (tl y)/\dA l (aq r (tl y)) (jl r j (tl y))=ad
   ·have ef:=Fs (l:=l) (ys:=ys) h (T.three _ hw) s.j2 hl;cases L with
    |nil=>
     have h1:=T.all_ s;have h2:aX r<=ad:=hs;have h3:=yI T s hp (ad:=ad) 0x1 (y::ys) hy;rw[h3]at ef;cases ef
    |cons z L=>
     rw[ef];unfold AV;by_cases hz:i? (md z) (md y)=d!
     ·rw[é hz];have hzy:z=y:=B4 ((GY (eK z) (eK y)).mp hz);subst hzy;have hless:=g7 h.1 s.j2 (T.three _ hw);rw[f?,x?]at hj hs;rw[eP]at hj;rw[cN]at hs;exact ihn (z::ys) xs _ _ L 0x1 ha hy 0x1 (s.lay h.1) (hp.sub (bZ _ _)) h.2 (a.take hw) (λq hq=>hL q (N1 _ hq)) hj hs
     ·rw[è hz];obtain e|e:=Of.mp (hL z N2)
      ·exact ê ((GY (eK z) (eK y)).mpr (by rw[e])) hz
      ·exact a1 z e
   ·rw[Du h];have a':=a.stop T s hg hw h;refine ih (tl y::xs) r j L hn a2 (λq hq=>hy q (N1 _ hq)) hl s hp hg a' (λq hq=>?_) hj hs;obtain e|e:=Of.mp (hL q hq)
    ·refine ê ?_ (a' (L.map tl) ⟨λw hw'=>?_,hj⟩ hs (tl q) (Oh.mpr ⟨q,hq,rfl⟩))
     ·rw[e];exact N2
     ·obtain⟨q',Ta,rfl⟩:=Oh.mp hw';exact hy q' (hL q' Ta)
    ·exact e
end
def Cm(hm:m<=13)(h1:1<=c)(h4:c<=4)(H:Hand m c h j)(d:Drw m c h j L):aX h-aX (aq h (L.map tl).flatten)<=GW m c h j/\(aX h-aX (aq h (L.map tl).flatten)=GW m c h j->AV L (BL m c h j)=e!):=by
 have T:=EK hm h1 h4 h j;have OR:∀y∈L,y∈rQ m c h j:=λy hy=>by
  refine Ol.mpr ⟨d.mem y hy,Oz ?_⟩;obtain⟨A,B,e⟩:=YH hy;have pw:(L.map tl).flatten.Perm (tl y++(A.map tl++B.map tl).flatten):=by rw[e,y?,f?,W?,x?,W?,<-t?,<-t?];exact(XE).append_right _
  have hj:=d.jok;rw[u9 pw]at hj;exact OF hj (t9 _ _ _ _)
 have p:Play ((rQ m c h j).map tl) h j (L.map tl):=⟨λw hw=>by obtain⟨y,hy,rfl⟩:=Oh.mp hw;exact Oh.mpr ⟨y,OR y hy,rfl⟩,d.jok⟩
 have h2:=T.opt H.stt p;have e:GW m c h j=aX h-dA (lx m c h j) h j:=rfl;rw[e];refine⟨0x1,λhe=>?_⟩;exact JV T 12 (rQ m c h j) [] h j L H.len ((Dj m c).sublist ľ) (λy hy=>Oh.mpr ⟨y,hy,rfl⟩) (by have:=H.len;lia) H.stt H.one rfl (λo o o o o h=>nomatch h) OR d.jok 0x1
open PyProof.Rows hiding St
def Ip{x y:D}(hx:(kT x).isSome=d!)(hy:(kT y).isSome=d!):cD d! x y=a! (ll (kO x) (kO y)):=by
 obtain⟨k,e⟩:=Oo.mp hx;obtain⟨k',e'⟩:=Oo.mp hy;have h1:kO x=k:=by show(kT x).getD []=k;rw[e];rfl
 have h2:kO y=k':=by show(kT y).getD []=k';rw[e'];rfl
 rw[h1,h2,lO e,lO e',cD];exact pO k k'
def B3{x:D}(hx:(kT x).isSome=d!):iR x=d!:=by obtain⟨k,e⟩:=Oo.mp hx;rw[lO e,iR];exact ua k
def Gd{ys:List D}(h:∀y∈ys,(kT y).isSome=d!/\(kO y).length≠0)(hl:ys.length<=10000):Cmp2 ys:=⟨λy hy=>B3 (h y hy).1,λx hx y hy=>by rw[Ip (h x hx).1 (h y hy).1];rfl,.inl λy hy=>by
  obtain⟨k,e⟩:=Oo.mp (h y hy).1;have h1:kO y=k:=by show(kT y).getD []=k;rw[e];rfl
  have h2:=(h y hy).2;rw[h1]at h2;rw[lO e];cases k with
  |nil=>exact ê rfl h2
  |cons i r=>exact⟨i,_,rfl⟩,λy hy=>by obtain⟨k,e⟩:=Oo.mp (h y hy).1;rw[lO e,Xp];have:=uS k;lia,hl⟩
def Dv{ys:List D}(h:∀y∈ys,(kT y).isSome=d!):r9 ys=xo ys:=by have h':∀y∈r9 ys,(kT y).isSome=d!:=λy hy=>h y ((dw ys).mem_iff.mp hy);refine u0 ((dw ys).trans (dU ys).symm) ?_ (nB ys) h';refine Y8 (λ{a b} ha hb Qm=>?_) (jX ys);rwa[uZ (B3 (h' b hb)) (B3 (h' a ha)) (Ip (h' b hb) (h' a ha))]at Qm
set_option tactic.hygienic true in
def LH{xs:List DV}{r:Except b? DV}(e:vj xs=a! r):ka xs=a! r:=by
 unfold vj at e;split at e
 ·obtain⟨ys,e1,e2⟩:=bz e;split at e2
  ·rename_i hz;have hk:∀y∈ys,(kT y).isSome=d!/\(kO y).length≠0:=λy hy=>by have:=XY.mp hz.2 y hy;rw[k?]at this;exact⟨this.1,of_decide_eq_true this.2⟩
   unfold ka;simp only[e1,aP,aD];rw[é (Gd hk 0x1),Dv λy hy=>(hk y hy).1];exact e2
  ·cases e2
 ·cases e
def qK{X:Cx}{E:XK}(hu:X.A.units+64<K?):dR X E (.builtin "sorted") vj:=λa_ s σ O P H₀ H xs vs us r Q I hd hs rx rv e q=>l6 hu a_ s σ O P H₀ H xs vs us r Q I hd hs rx rv (LH e) q
end LW
namespace K5
open PySem PySem.Spec L2 L3 LW
open PyProof.Rows hiding St
def Hr{X:Cx}{E:XK}{SV:List U!}{F:DS->M Out}(i j:Nat)(h:yU X E SV F):yU X E SV (λδ=>F (frz i (frz j δ))):=cU j (cU i h)
noncomputable def jE(i:Nat):U!:=PySem.Challenge.pw_meldhouse_k05_whole_none_is_better.main.body.getD i (.Pass ⟨0,0,0,0⟩)
structure Tx(K:Oe)(mg:w?->Option b?)(C:c!):Prop where
 cl:Cls K C
 n_colours:d9 K C "colours"
 n_most:d9 K C "most"
 i_LEAST_NUMBERS:∃t,mg "LEAST_NUMBERS" = a! (.int 3 t)
 i_MOST_NUMBERS:∃t,mg "MOST_NUMBERS" = a! (.int 13 t)
 i_LEAST_COLOURS:∃t,mg "LEAST_COLOURS" = a! (.int 1 t)
 i_MOST_COLOURS:∃t,mg "MOST_COLOURS" = a! (.int 4 t)
 i_MOST_TILES:∃t,mg "MOST_TILES" = a! (.int 12 t)
 i_MOST_ALIKE:∃t,mg "MOST_ALIKE" = a! (.int 2 t)
 i_MOST_JOKERS:∃t,mg "MOST_JOKERS" = a! (.int 2 t)
 i_LEAST_SIZE:∃t,mg "LEAST_SIZE" = a! (.int 3 t)
 b_all:mg "all" = b!
 b_bool:mg "bool" = b!
 b_int:mg "int" = b!
 b_isinstance:mg "isinstance" = b!
 b_len:mg "len" = b!
 b_list:mg "list" = b!
 b_min:mg "min" = b!
 b_range:mg "range" = b!
 b_set:mg "set" = b!
 b_sorted:mg "sorted" = b!
 b_sum:mg "sum" = b!
 b_tuple:mg "tuple" = b!
structure Rx(K:Oe)(mg:w?->Option b?)(Oa Ob Oc Od:c!):Prop where
 x_BadHand:Xc K mg "BadHand" Oa
 x_BadLaying:Xc K mg "BadLaying" Oc
structure Tt(K:Oe)(CT:c!):Prop where
 cl:Cls K CT
 n_by_least:d9 K CT "by_least"
 n_known:d9 K CT "known"
def Ag(K:Oe)(C:c!)(m ql:w?)(st:U!)(ps:List w?):Prop:=∃f fd,Fun K m ql st f fd/\Meth K C m f/\gy K fd ps []
variable{P:g?}{w:q?}{K:Oe}{mg:w?->Option b?}{base:F!}{C:c!}{st:U!}{ps:List w?}{k n:Nat}
def Ag.has{m ql:w?}{fm:List DV->M DV}(D:Ag K C m ql st ps)(no:∀v u:V,([("by_least",v),("known",u)]:List (w?×V)).lookup m=b!)(h:∀f fd,Fun K m ql st f fd->FnOk P w K mg base ug k f fd ps (F8 n fm)):HasM P w K mg base k C m n fm:=by obtain⟨f,fd,Fu,hm,hb⟩:=D;exact⟨⟨f,fd,ps,h f fd Fu,hm,hb⟩,no⟩
abbrev NG(P:g?)(w:q?)(K:Oe)(mg:w?->Option b?)(base:F!)(C Ob:c!):Prop:=Hs P w K mg base "House" C Ob good "most" "colours"
local macro_rules|`(0x63)=>`(by dsimp only[aR];decide +kernel)
local macro_rules|`(0x62)=>`(⟨rfl,0x2,0x2,0x2,rfl,0x2⟩)
local macro_rules|`(0x61)=>`(⟨rfl,rfl,rfl,0x2,rfl,0x2,0x2⟩)
section
variable{P:g?}{w:q?}{K:Oe}{mg:w?->Option b?}{base:F!}
abbrev iU:U!:=jE 15
def qM:FnScope ["house","tile"] ["house","tile"] (ak iU):=0x61
abbrev dv:U!:=jE 16
def jO:FnScope ["row"] ["row"] (ak dv):=0x61
abbrev gL:U!:=jE 17
def rJ:FnScope ["house","hand","jokers"] ["house","hand","jokers"] (ak gL):=0x61
abbrev fB:U!:=jE 18
def lN:FnScope ["house","hand","jokers"] ["house","hand","jokers"] (ak fB):=0x61
abbrev kn:U!:=jE 21
def sM:FnScope ["house","colour","first","size","last"] ["house","colour","first","size"] (ak kn):=0x61
abbrev eO:U!:=jE 22
def oS:FnScope ["house","number","colours"] ["house","number","colours"] (ak eO):=0x61
abbrev iX:U!:=jE 23
def qI:FnScope ["house","meld"] ["house","meld"] (ak iX):=0x61
abbrev eL:U!:=jE 24
def oN:FnScope ["house","meld"] ["house","meld"] (ak eL):=0x61
abbrev bV:U!:=jE 25
def ij:FnScope ["house","choices","colour"] ["house"] (ak bV):=0x61
abbrev d5:U!:=jE 26
def lU:FnScope ["house","choices","found","number"] ["house"] (ak d5):=0x61
abbrev fP:U!:=jE 27
def oR:FnScope ["house","found","colour","first","room"] ["house"] (ak fP):=0x61
abbrev mU:U!:=jE 28
def wC:FnScope ["house"] ["house"] (ak mU):=0x61
abbrev lu:U!:=jE 30
def vX:FnScope ["tiles"] ["tiles"] (ak lu):=0x61
abbrev iV:U!:=jE 31
def rf:FnScope ["tiles","jokers","wanted","rest","tile","from_hand"] ["tiles","jokers","wanted"] (ak iV):=0x61
abbrev cK:U!:=jE 32
def gX:FnScope ["house","laying","wanted","meld"] ["house","laying"] (ak cK):=0x61
abbrev qd:U!:=jE 33
def AL:FnScope ["house","hand","jokers","laying","after"] ["house","hand","jokers","laying"] (ak qd):=0x61
abbrev nv:U!:=jE 34
def wU:FnScope ["house","hand","jokers","laying"] ["house","hand","jokers","laying"] (ak nv):=0x61
abbrev bT:U!:=jE 36
def hX:FnScope ["house","hand","jokers","pairs"] ["house","hand","jokers"] (ak bT):=0x61
abbrev cY:U!:=jE 37
def ic:FnScope ["playable","by_least","pair","tile"] ["playable"] (ak cY):=0x61
abbrev Bh:U!:=mS (jE 38) 0
def LQ:FnScope ["self","playable"] ["self","playable"] (ak Bh):=0x61
abbrev j8:U!:=mS (jE 38) 1
def Ah:FnScope ["self","tiles","jokers","after"] ["self","tiles","jokers"] (ak j8):=0x61
abbrev d4:U!:=mS (jE 38) 2
def lJ:FnScope ["self","tiles","jokers","key"] ["self","tiles","jokers"] (ak d4):=0x61
abbrev c0:U!:=mS (jE 38) 3
def jw:FnScope ["self","tiles","jokers","sums","rest","unused"] ["self","tiles","jokers"] (ak c0):=0x61
abbrev dQ:U!:=jE 39
def jG:FnScope ["table","playable","hand","jokers","goal","laying","rest","unused","meld","wanted","after"] ["table","playable","hand","jokers"] (ak dQ):=0x61
abbrev qt:U!:=jE 40
def Ar:FnScope ["house","hand","jokers","playable","table","greatest"] ["house","hand","jokers"] (ak qt):=0x61
abbrev dX:U!:=jE 42
def jB:FnScope ["script","k"] ["script","k"] (ak dX):=0x61
abbrev hG:U!:=jE 43
def oT:FnScope ["cell","k","many","some","stir"] ["cell","k","many"] (ak hG):=0x61
abbrev fu:U!:=jE 44
def lS:FnScope ["found"] ["found"] (ak fu):=0x61
abbrev dt:U!:=jE 45
def iN:FnScope ["script","cell"] ["script"] (ak dt):=0x61
abbrev dN:U!:=jE 46
def jF:FnScope ["tiles","limit","found","tile"] ["tiles","limit"] (ak dN):=0x61
abbrev cC:U!:=jE 47
def jH:FnScope ["script","start","most","colours","limit","tiles","k","cell","number","colour","size"] ["script","start","most","colours","limit"] (ak cC):=0x61
abbrev c8:U!:=jE 48
def hZ:FnScope ["script","hand","cell"] ["script","hand"] (ak c8):=0x61
abbrev dm:U!:=jE 49
def lP:FnScope ["meld"] ["meld"] (ak dm):=0x61
abbrev cR:U!:=jE 50
def lW:FnScope ["most","colours","found","colour","first","kinds","number"] ["most","colours"] (ak cR):=0x61
abbrev gm:U!:=jE 51
def nI:FnScope ["hand","laying","need","meld","total_v","jokers","rest","tile","mine"] ["hand","laying"] (ak gm):=0x61
abbrev cw:U!:=jE 52
def ik:FnScope ["script","start","most","colours","hand","jokers","some","laying","k","tried"] ["script","start","most","colours","hand","jokers"] (ak cw):=0x61
abbrev m9:U!:=jE 53
def CW:FnScope ["script","most","colours","house","hand","jokers","total_v","laying","rest","k","other","gain"] ["script"] (ak m9):=0x61
def HP(P:g?)(w:q?)(K:Oe)(C:c!)(CT:c!)(Oa:c!)(Ob:c!)(Oc:c!)(B':List DV->M DV):DS->M Out:=(bD (CA (og 2 (dF (au 1) (dF (au 2) pA))) (aN (aw 1 (du K)) (aa (af 0) ai))) (bD (aK 3 (Jy C Ob (aa (af 1) (aa (af 2) ai)))) (bD (aK 4 (aN (aw 5 (dP K)) (aa (af 0) (aa (eC (.int 2)) (aa (af 1) (aa (af 2) (aa (eC (.int 10)) ai))))))) (λδ=>(bD (aK 5 (aN (aw 2 (cq K)) (aa (af 0) (aa (af 4) ai)))) (λδ=>(bD (CA (og 2 (dF (au 6) (dF (au 7) pA))) (aN (dD 3 (ja P w C CT Oa Oc B')) (aa (af 3) (aa (af 4) (aa (af 5) ai))))) (λδ=>(bD (gJ (Fg (λδ=>bd (e2 (jD d!) (aN (dD 4 (jn C Oa Oc)) (aa (af 3) (aa (af 4) (aa (af 5) (aa (af 7) ai))))) (af 6) δ) bQ) (λδ=>bd (e2 (jD d!) (e2 bK (aN (aw 2 (bP)) (aa (af 4) (aa (af 7) ai))) (eC (.int 0))) (af 6) δ) bQ)) (bA (eC (.bool e!))) ck) (λδ=>(bD (aK 8 (e2 bK (rA (aN (dD 4 (mn C Oa Oc)) (aa (af 3) (aa (af 4) (aa (af 5) (aa (af 7) ai)))))) (eC (.int 0)))) (λδ=>(bD (gJ (λδ=>bd (e2 (jD d!) (e2 ax (af 6) (aN wc (aa (aW 1 [] (iO (af 8)) (au 0) bW (e2 bK (af 0) (eC (.int 0)))) ai))) (aN wc (aa (aW 1 [] (iO (af 4)) (au 0) bW (e2 bK (af 0) (eC (.int 0)))) ai)) δ) bQ) (bA (eC (.bool e!))) ck) (bD (cT (rR (aa (eC (.int 3)) ai)) (au 9) (λδ=>(bD (aK 10 (aN (aw 6 (dZ K)) (aa (af 0) (aa (e2 ax (eC (.int 10)) (e2 fA (eC (.int 4)) (af 9))) (aa (af 1) (aa (af 2) (aa (af 4) (aa (af 5) ai)))))))) (λδ=>(bD (aK 11 (aN (dD 4 (jn C Oa Oc)) (aa (af 3) (aa (af 4) (aa (af 5) (aa (af 10) ai)))))) (gJ (Fg (hJ (λδ=>bd ((aN (aw 1 (gE)) (aa (af 11) ai)) δ) bQ)) (Fg (λδ=>bd (e2 xp (af 11) (af 6) δ) bQ) (j4 (λδ=>bd (e2 (jD e!) (af 11) (af 6) δ) bQ) (λδ=>bd (e2 Jk (af 10) (af 7) δ) bQ)))) (bA (eC (.bool e!))) ck)) (frz 4 (frz 10 δ)))) (frz 4 δ))) (bA (eC (.bool d!))))) (frz 4 δ))) (frz 4 δ))) (frz 4 δ))) (frz 4 δ))) (frz 4 δ)))))
def sR(P:g?)(w:q?)(K:Oe)(C:c!)(CT:c!)(Oa:c!)(Ob:c!)(Oc:c!)(B':List DV->M DV):List DV->M DV:=eS ["script","most","colours","house","hand","jokers","total_v","laying","rest","k","other","gain"] (HP P w K C CT Oa Ob Oc B')
variable{C CT Oa Ob Oc Od:c!}(T:Tx K mg C)(R:Rx K mg Oa Ob Oc Od)
include T R
theorem eR(D:Df K mg "is_tile" iU ["house","tile"]): Has P w K mg base 1 "is_tile" 2 (b9 C):=D.has λf fd Fu=>nK (k:=0) Fu qM rfl λOJ A bn s H E hr=>by have hu:=dB hr;have nd:=qM.nd;refine az ?_;exact aS (oF (wN (fO hu) (fO hu) aj (aZ (ag 1 (pv 1)) aj) (l9 (ag 0 (pv 0)) T.cl T.n_most)) (rM (wN (fO hu) (jV hu) aj (aZ (ag 1 (pv 1)) aj) (l9 (ag 0 (pv 0)) T.cl T.n_colours))))
theorem eF(D:Df K mg "is_in_order" dv ["row"]): Has P w K mg base 1 "is_in_order" 1 (bB):=D.has λf fd Fu=>nK (k:=0) Fu jO rfl λOJ A bn s H E hr=>by have hu:=dB hr;have nd:=jO.nd;refine az ?_;exact aS (aV (uX rfl) rfl T.b_all uO (ae (bR (N':=["k","row"]) (CompSc.fit (sc:=ak dv) (N:=["row"]) 0x62) 0x3 rfl (ng T.b_range (ae aj (ae (aV fg rfl T.b_len eN (ae (ag 0 (pv 0)) ah)) ah))) (aG 0) (bf 0x3) (λo o o o=>(gq (i:=0) 0x63)) (λo o o o=>dk) (λo o o o=>(oI (fO hu) (aZ (ag 1 (pv 1)) (aJ fQ (ag 0 (pv 0)) aj)) (aZ (ag 1 (pv 1)) (ag 0 (pv 0)))))) ah))
theorem n8(D:Df K mg "is_hand" gL ["house","hand","jokers"])(eR:Has P w K mg base 1 "is_tile" 2 (b9 C))(eF:Has P w K mg base 1 "is_in_order" 1 (bB)):Has P w K mg base 2 "is_hand" 3 (iF C):=D.has λf fd Fu=>nK (k:=1) Fu rJ rfl λOJ A bn s H E hr=>by
 have hu:=dB hr;have nd:=rJ.nd;refine ar ?_ ?_
 ·refine dM ?_ ?_ ?_
  ·exact(zB.pb (zw (bJ wW (aV fg rfl T.b_len eN (ae (ag 1 (pv 1)) ah)) (jC T.i_MOST_TILES)) (yH (ix (qY (fO hu) (fO hu) aj (ag 2 (pv 2)) (jC T.i_MOST_JOKERS))))))
  ·refine az ?_;exact aS oP
  ·exact cE
 ·refine ar ?_ ?_
  ·refine dM ?_ ?_ ?_
   ·exact(ix (ou (aV (uX rfl) rfl T.b_all uO (ae (bR (N':=["tile","house","hand"]) (CompSc.fit (sc:=ak gL) (N:=["house","hand","jokers"]) 0x62) 0x3 rfl (dS (ag 1 (pv 1))) (aG 0) (bf 0x3) (λo o o o=>(gq (i:=0) 0x63)) (λo o o o=>dk) (λo o o o=>(oF (aM (eR.mono 0x3) hr (ae (ag 1 (pv 1)) (ae (ag 0 (pv 0)) ah))) (rM (oI (fO hu) (iE hu (ag 2 (pv 2)) (ag 0 (pv 0))) (jC T.i_MOST_ALIKE)))))) ah))))
   ·refine az ?_;exact aS oP
   ·exact cE
  ·refine az ?_;exact aS (aM (eF.mono 0x3) hr (ae (ag 1 (pv 1)) ah))
theorem fD(D:Df K mg "check_hand" fB ["house","hand","jokers"])(n8:Has P w K mg base 2 "is_hand" 3 (iF C)):HasX P w K mg base 3 "check_hand" 3 (dn C Oa):=D.hasX λf fd Fu=>IV (k:=2) Fu lN rfl λOJ A bn s H E hr=>by
 have hu:=dB hr;have nd:=lN.nd;refine az ?_;refine dM ?_ ?_ ?_
 ·exact(ix (ou (aM (n8.mono 0x3) hr (by refine ae ?_ ?_;(exact(ag 0 (pv 0)));(exact(ae (ag 1 (pv 1)) (ae (ag 2 (pv 2)) ah)))))))
 ·refine az ?_;exact m8 (mV hr) R.x_BadHand
 ·exact cE
theorem rh(D:Df K mg "is_run" kn ["house","colour","first","size"])(eR:Has P w K mg base 1 "is_tile" 2 (b9 C)):Has P w K mg base 2 "is_run" 4 (kj C):=D.has λf fd Fu=>nK (k:=1) Fu sM rfl λOJ A bn s H E hr=>by
 have hu:=dB hr;have nd:=sM.nd;refine ar ?_ ?_
 ·refine aH (i:=4) ?_ ?_
  ·exact nd
  ·exact(aJ fQ (aJ aU (ag 2 (pv 2)) (ag 3 (pv 3))) aj)
 ·refine az ?_;exact aS (oF (oI wm (ag 3 (pv 3)) (jC T.i_LEAST_SIZE)) (oF (aM (eR.mono 0x3) hr (ae (ag 0 (pv 0)) (ae (cH (ae (ag 2 (pv 2)) (ae (ag 1 (pv 1)) ah))) ah))) (rM (aM (eR.mono 0x3) hr (ae (ag 0 (pv 0)) (ae (cH (ae (ag 4 (pv 4)) (ae (ag 1 (pv 1)) ah))) ah))))))
theorem mD(D:Df K mg "is_group" eO ["house","number","colours"])(eR:Has P w K mg base 1 "is_tile" 2 (b9 C)):Has P w K mg base 2 "is_group" 3 (gN C):=D.has λf fd Fu=>nK (k:=1) Fu oS rfl λOJ A bn s H E hr=>by
 have hu:=dB hr;have nd:=oS.nd;refine ar ?_ ?_
 ·refine dM ?_ ?_ ?_
  ·exact(bJ (jV hu) (aV fg rfl T.b_len eN (ae (ag 2 (pv 2)) ah)) (jC T.i_LEAST_SIZE))
  ·refine az ?_;exact aS oP
  ·exact cE
 ·refine ar ?_ ?_
  ·refine dM ?_ ?_ ?_
   ·exact(ix (ou (aV (uX rfl) rfl T.b_all uO (ae (bR (N':=["colour","house","number"]) (CompSc.fit (sc:=ak eO) (N:=["house","number","colours"]) 0x62) 0x3 rfl (EF (ag 2 (pv 2))) (aG 0) (bf 0x3) (λo o o o=>(gq (i:=0) 0x63)) (λo o o o=>dk) (λo o o o=>(aM (eR.mono 0x3) hr (ae (ag 1 (pv 1)) (ae (cH (ae (ag 2 (pv 2)) (ae (ag 0 (pv 0)) ah))) ah))))) ah))))
   ·refine az ?_;exact aS oP
   ·exact cE
  ·refine az ?_;exact aS (aV (uX rfl) rfl T.b_all uO (ae (bR (N':=["k","colours"]) (CompSc.fit (sc:=ak eO) (N:=["house","number","colours"]) 0x62) 0x3 rfl (ng T.b_range (ae aj (ae (aV fg rfl T.b_len eN (ae (ag 2 (pv 2)) ah)) ah))) (aG 0) (bf 0x3) (λo o o o=>(gq (i:=0) 0x63)) (λo o o o=>dk) (λo o o o=>(oI (jV hu) (aZ (ag 1 (pv 1)) (aJ fQ (ag 0 (pv 0)) aj)) (aZ (ag 1 (pv 1)) (ag 0 (pv 0)))))) ah))
theorem oH(D:Df K mg "is_meld" iX ["house","meld"])(rh:Has P w K mg base 2 "is_run" 4 (kj C))(mD:Has P w K mg base 2 "is_group" 3 (gN C)):Has P w K mg base 3 "is_meld" 2 (c6 C):=D.has λf fd Fu=>nK (k:=2) Fu qI rfl λOJ A bn s H E hr=>by
 have hu:=dB hr;have nd:=qI.nd;refine ar ?_ ?_
 ·refine dM ?_ ?_ ?_
  ·exact(bJ (lE hu) (aZ (ag 1 (pv 1)) aj) (jN 0x2))
  ·refine az ?_;exact aS (aM (rh.mono 0x3) hr (by refine ae ?_ ?_;(exact(ag 0 (pv 0)));(exact(by refine ae ?_ ?_;(exact(aZ (ag 1 (pv 1)) aj));(exact(by refine ae ?_ ?_;(exact(aZ (ag 1 (pv 1)) aj));(exact(by refine ae ?_ ?_;(exact(aZ (ag 1 (pv 1)) aj));(exact ah)))))))))
  ·exact cE
 ·refine az ?_;exact aS (oF (oI (lE hu) (aZ (ag 1 (pv 1)) aj) (jN 0x2)) (rM (aM (mD.mono 0x3) hr (by refine ae ?_ ?_;(exact(ag 0 (pv 0)));(exact(ae (aZ (ag 1 (pv 1)) aj) (ae (aZ (ag 1 (pv 1)) aj) ah)))))))
theorem gW(D:Df K mg "tiles_of" eL ["house","meld"])(oH:Has P w K mg base 3 "is_meld" 2 (c6 C)):HasX P w K mg base 4 "tiles_of" 2 (bH C Oc):=D.hasX λf fd Fu=>IV (k:=3) Fu oN rfl λOJ A bn s H E hr=>by
 have hu:=dB hr;have nd:=oN.nd;refine ar ?_ ?_
 ·refine dM ?_ ?_ ?_
  ·exact(ix (ou (aM (oH.mono 0x3) hr (ae (ag 0 (pv 0)) (ae (ag 1 (pv 1)) ah)))))
  ·refine az ?_;exact m8 (mV hr) R.x_BadLaying
  ·exact cE
 ·refine ar ?_ ?_
  ·refine dM ?_ ?_ ?_
   ·exact(bJ (lE hu) (aZ (ag 1 (pv 1)) aj) (jN 0x2))
   ·refine az ?_;exact aS (bR (N':=["k","meld"]) (CompSc.fit (sc:=ak eL) (N:=["house","meld"]) 0x62) 0x3 rfl (lH T.b_range (ae (aZ (ag 1 (pv 1)) aj) ah)) (aG 0) (bf 0x3) (λo o o o=>(gq (i:=0) 0x63)) (λo o o o=>dk) (λo o o o=>(cH (ae (aJ aU (aZ (ag 1 (pv 1)) aj) (ag 0 (pv 0))) (ae (aZ (ag 1 (pv 1)) aj) ah)))))
   ·exact cE
  ·refine az ?_;exact aS (bR (N':=["colour","meld"]) (CompSc.fit (sc:=ak eL) (N:=["house","meld"]) 0x62) 0x3 rfl (EF (aZ (ag 1 (pv 1)) aj)) (aG 0) (bf 0x3) (λo o o o=>(gq (i:=0) 0x63)) (λo o o o=>dk) (λo o o o=>(cH (ae (aZ (ag 1 (pv 1)) aj) (ae (ag 0 (pv 0)) ah)))))
theorem fX(D:Df K mg "colour_choices" bV ["house"]): Has P w K mg base 1 "colour_choices" 1 (cm C):=D.has λf fd Fu=>nK (k:=0) Fu ij rfl λOJ A bn s H E hr=>by
 have hu:=dB hr;have nd:=ij.nd;refine ar ?_ ?_
 ·refine aH (i:=1) ?_ ?_
  ·exact nd
  ·exact(cb (ae (cH ah) ah))
 ·refine ar ?_ ?_
  ·refine dC B? rfl ?_ (gq (i:=2) (by exact nd)) (aG 2) ?_
   ·exact(lH T.b_range (ae (l9 (ag 0 (pv 0)) T.cl T.n_colours) ah))
   ·refine cU 1 ?_;refine az ?_;refine aH (i:=1) ?_ ?_
    ·exact nd
    ·exact(aJ aU (ag 1 (pv 1)) (bR (N':=["choice","colour"]) (CompSc.fit (sc:=ak bV) (N:=["house","choices","colour"]) 0x62) 0x3 rfl (dS (ag 1 (pv 1))) (aG 0) (bf 0x3) (λo o o o=>(gq (i:=0) 0x63)) (λo o o o=>dk) (λo o o o=>(aJ aU (ag 0 (pv 0)) (cH (ae (ag 1 (pv 1)) ah))))))
  ·refine cU 1 ?_;refine az ?_;exact aS (aV (qK hu) rfl T.b_sorted iP (ae (bR (N':=["choice"]) (CompSc.fit (sc:=ak bV) (N:=["house","choices","colour"]) 0x62) 0x3 rfl (dS (ag 1 (pv 1))) (aG 0) (bf 0x3) (λo o o o=>(gq (i:=0) 0x63)) (λo o o o=>oo (bJ wm (aV fg rfl T.b_len eN (ae (ag 0 (pv 0)) ah)) (jC T.i_LEAST_SIZE))) (λo o o o=>(ag 0 (pv 0)))) ah))
theorem jm(D:Df K mg "all_groups" d5 ["house"])(fX:Has P w K mg base 1 "colour_choices" 1 (cm C)):Has P w K mg base 2 "all_groups" 1 (dY C):=D.has λf fd Fu=>nK (k:=1) Fu lU rfl λOJ A bn s H E hr=>by
 have hu:=dB hr;have nd:=lU.nd;refine ar ?_ ?_
 ·refine aH (i:=1) ?_ ?_
  ·exact nd
  ·exact(aM (fX.mono 0x3) hr (ae (ag 0 (pv 0)) ah))
 ·refine ar ?_ ?_
  ·refine aH (i:=2) ?_ ?_
   ·exact nd
   ·exact(cb ah)
  ·refine ar ?_ ?_
   ·refine dC B? rfl ?_ (gq (i:=3) (by exact nd)) (aG 3) ?_
    ·exact(ng T.b_range (ae aj (ae (aJ aU (l9 (ag 0 (pv 0)) T.cl T.n_most) aj) ah)))
    ·refine cU 1 ?_;refine az ?_;refine yY (pv 2) ?_;exact(bR (N':=["choice","number"]) (CompSc.fit (sc:=ak d5) (N:=["house","choices","found","number"]) 0x62) 0x3 rfl (dS (ag 1 (pv 1))) (aG 0) (bf 0x3) (λo o o o=>(gq (i:=0) 0x63)) (λo o o o=>dk) (λo o o o=>(by refine cH ?_;(exact(by refine ae ?_ ?_;(exact(jN 0x2));(exact(ae (ag 1 (pv 1)) (ae (ag 0 (pv 0)) ah))))))))
   ·refine az ?_;exact aS (ag 2 (pv 2))
theorem mq(D:Df K mg "all_runs" fP ["house"]): Has P w K mg base 1 "all_runs" 1 (fR C):=D.has λf fd Fu=>nK (k:=0) Fu oR rfl λOJ A bn s H E hr=>by
 have hu:=dB hr;have nd:=oR.nd;refine ar ?_ ?_
 ·refine aH (i:=1) ?_ ?_
  ·exact nd
  ·exact(cb ah)
 ·refine ar ?_ ?_
  ·refine dC B? rfl ?_ (gq (i:=2) (by exact nd)) (aG 2) ?_
   ·exact(lH T.b_range (ae (l9 (ag 0 (pv 0)) T.cl T.n_colours) ah))
   ·refine az ?_;refine dC B? rfl ?_ (gq (i:=3) (by exact nd)) (aG 3) ?_
    ·exact(ng T.b_range (ae aj (ae (aJ aU (l9 (ag 0 (pv 0)) T.cl T.n_most) aj) ah)))
    ·refine ar ?_ ?_
     ·refine aH (i:=4) ?_ ?_
      ·exact nd
      ·exact(aJ aU (aJ fQ (l9 (ag 0 (pv 0)) T.cl T.n_most) (ag 3 (pv 3))) aj)
     ·refine az ?_;refine yY (pv 1) ?_;exact(bR (N':=["size","colour","first"]) (CompSc.fit (sc:=ak fP) (N:=["house","found","colour","first","room"]) 0x62) 0x3 rfl (ng T.b_range (ae (jC T.i_LEAST_SIZE) (ae (aJ aU (ag 4 (pv 4)) aj) ah))) (aG 0) (bf 0x3) (λo o o o=>(gq (i:=0) 0x63)) (λo o o o=>dk) (λo o o o=>(by refine cH ?_;(exact(by refine ae ?_ ?_;(exact(jN 0x2));(exact(by refine ae ?_ ?_;(exact(ag 1 (pv 1)));(exact(by refine ae ?_ ?_;(exact(ag 2 (pv 2)));(exact(by refine ae ?_ ?_;(exact(ag 0 (pv 0)));(exact ah))))))))))))
  ·refine az ?_;exact aS (ag 1 (pv 1))
theorem uF(D:Df K mg "melds" mU ["house"])(jm:Has P w K mg base 2 "all_groups" 1 (dY C))(mq:Has P w K mg base 1 "all_runs" 1 (fR C)):Has P w K mg base 3 "melds" 1 (mQ C):=D.has λf fd Fu=>nK (k:=2) Fu wC rfl λOJ A bn s H E hr=>by have hu:=dB hr;have nd:=wC.nd;refine az ?_;exact aS (aJ aU (aM (jm.mono 0x3) hr (ae (ag 0 (pv 0)) ah)) (aM (mq.mono 0x3) hr (ae (ag 0 (pv 0)) ah)))
theorem kS(D:Df K mg "total" lu ["tiles"]): Has P w K mg base 1 "total" 1 (il):=D.has λf fd Fu=>nK (k:=0) Fu vX rfl λOJ A bn s H E hr=>by have hu:=dB hr;have nd:=vX.nd;refine az ?_;exact aS (aV (yG rfl) rfl T.b_sum xv (ae (bR (N':=["tile"]) (CompSc.fit (sc:=ak lu) (N:=["tiles"]) 0x62) 0x3 rfl (dS (ag 0 (pv 0))) (aG 0) (bf 0x3) (λo o o o=>(gq (i:=0) 0x63)) (λo o o o=>dk) (λo o o o=>(aZ (ag 0 (pv 0)) aj))) ah))
theorem dz(D:Df K mg "lay_out" iV ["tiles","jokers","wanted"]): Has P w K mg base 1 "lay_out" 3 (bN):=D.has λf fd Fu=>nK (k:=0) Fu rf rfl λOJ A bn s H E hr=>by
 have hu:=dB hr;have nd:=rf.nd;refine ar ?_ ?_
 ·refine aH (i:=3) ?_ ?_
  ·exact nd
  ·exact(kP Fz rfl T.b_list Hi (ae (ag 0 (pv 0)) ah))
 ·refine ar ?_ ?_
  ·refine dC B? rfl ?_ (gq (i:=4) (by exact nd)) (aG 4) ?_
   ·exact(dS (ag 2 (pv 2)))
   ·refine az ?_;refine dM ?_ ?_ ?_
    ·exact(bJ (LF hu) (ag 4 (pv 4)) (ag 3 (pv 3)))
    ·refine az ?_;refine Ki hu (pv 3) ?_;exact(ag 4 (pv 4))
    ·exact cE
  ·refine ar ?_ ?_
   ·refine aH (i:=5) ?_ ?_
    ·exact nd
    ·exact(aJ fQ (aV fg rfl T.b_len eN (ae (ag 0 (pv 0)) ah)) (aV fg rfl T.b_len eN (ae (ag 3 (pv 3)) ah)))
   ·refine az ?_;exact aS (Fj (ae (ag 3 (pv 3)) (ae (aJ fQ (ag 1 (pv 1)) (aJ fQ (aV fg rfl T.b_len eN (ae (ag 2 (pv 2)) ah)) (ag 5 (pv 5)))) ah)))
theorem fy(D:Df K mg "tiles_of_laying" cK ["house","laying"])(gW:HasX P w K mg base 4 "tiles_of" 2 (bH C Oc))(eF:Has P w K mg base 1 "is_in_order" 1 (bB)):HasX P w K mg base 5 "tiles_of_laying" 2 (cQ C Oc):=D.hasX λf fd Fu=>IV (k:=4) Fu gX rfl λOJ A bn s H E hr=>by
 have hu:=dB hr;have nd:=gX.nd;refine ar ?_ ?_
 ·refine aH (i:=2) ?_ ?_
  ·exact nd
  ·exact(cb ah)
 ·refine ar ?_ ?_
  ·refine dC aÜ rfl ?_ (gq (i:=3) (by exact nd)) (aG 3) ?_
   ·exact(dS (ag 1 (pv 1)))
   ·refine az ?_;refine yY (pv 2) ?_;exact(by refine eX (gW.mono 0x3) hr kK ?_;exact(ae (ag 0 (pv 0)) (ae (ag 3 (pv 3)) ah)))
  ·refine ar ?_ ?_
   ·refine dM ?_ ?_ ?_
    ·exact(ix (ou (aM (eF.mono 0x3) hr (ae (ag 1 (pv 1)) ah))))
    ·refine az ?_;exact m8 (mV hr) R.x_BadLaying
    ·exact cE
   ·refine az ?_;exact aS (ag 2 (pv 2))
theorem qT(D:Df K mg "left" qd ["house","hand","jokers","laying"])(fD:HasX P w K mg base 3 "check_hand" 3 (dn C Oa))(fy:HasX P w K mg base 5 "tiles_of_laying" 2 (cQ C Oc))(dz:Has P w K mg base 1 "lay_out" 3 (bN)):HasX P w K mg base 6 "left" 4 (mn C Oa Oc):=D.hasX λf fd Fu=>IV (k:=5) Fu AL rfl λOJ A bn s H E hr=>by
 have hu:=dB hr;have nd:=AL.nd;refine ar ?_ ?_
 ·refine z5 ?_;exact(by refine eX (fD.mono 0x3) hr kK ?_;exact(by refine ae ?_ ?_;(exact(ag 0 (pv 0)));(exact(ae (ag 1 (pv 1)) (ae (ag 2 (pv 2)) ah)))))
 ·refine ar ?_ ?_
  ·refine aH (i:=4) ?_ ?_
   ·exact nd
   ·exact(aM (dz.mono 0x3) hr (by refine ae ?_ ?_;(exact(ag 1 (pv 1)));(exact(ae (ag 2 (pv 2)) (ae (by refine eX (fy.mono 0x3) hr kK ?_;exact(ae (ag 0 (pv 0)) (ae (ag 3 (pv 3)) ah))) ah)))))
  ·refine ar ?_ ?_
   ·refine dM ?_ ?_ ?_
    ·exact(Jq 4 (bJ (jV hu) (aZ (ag 4 (pv 4)) aj) aj))
    ·refine az ?_;exact m8 (mV hr) R.x_BadLaying
    ·exact cE
   ·refine az ?_;exact aS (ag 4 (pv 4))
theorem pL(D:Df K mg "worth" nv ["house","hand","jokers","laying"])(kS:Has P w K mg base 1 "total" 1 (il))(qT:HasX P w K mg base 6 "left" 4 (mn C Oa Oc)):HasX P w K mg base 7 "worth" 4 (jn C Oa Oc):=D.hasX λf fd Fu=>IV (k:=6) Fu wU rfl λOJ A bn s H E hr=>by have hu:=dB hr;have nd:=wU.nd;refine az ?_;exact aS (aJ fQ (aM (kS.mono 0x3) hr (ae (ag 1 (pv 1)) ah)) (aM (kS.mono 0x3) hr (ae (aZ (qF (by refine eX (qT.mono 0x3) hr kK ?_;exact(by refine ae ?_ ?_;(exact(ag 0 (pv 0)));(exact(by refine ae ?_ ?_;(exact(ag 1 (pv 1)));(exact(by refine ae ?_ ?_;(exact(ag 2 (pv 2)));(exact(by refine ae ?_ ?_;(exact(ag 3 (pv 3)));(exact ah)))))))))) aj) ah)))
theorem fU(D:Df K mg "playable_melds" bT ["house","hand","jokers"])(uF:Has P w K mg base 3 "melds" 1 (mQ C))(gW:HasX P w K mg base 4 "tiles_of" 2 (bH C Oc))(dz:Has P w K mg base 1 "lay_out" 3 (bN)):HasX P w K mg base 5 "playable_melds" 3 (cZ C Oc):=D.hasX λf fd Fu=>IV (k:=4) Fu hX rfl λOJ A bn s H E hr=>by
 have hu:=dB hr;have nd:=hX.nd;refine ar ?_ ?_
 ·refine uK (i:=3) (N':=["meld","house"]) (CompSc.fit (sc:=ak bT) (N:=["house","hand","jokers","pairs"]) 0x62) 0x3 rfl (by exact nd) (dS (aM (uF.mono 0x3) hr (ae (ag 0 (pv 0)) ah))) (aG 0) (bf 0x3) (λo o o o=>(gq (i:=0) 0x63)) (λo o o o=>dk) (λo o o o=>(cH (ae (ag 0 (pv 0)) (ae (by refine eX (gW.mono 0x3) hr nQ ?_;exact(ae (ag 1 (pv 1)) (ae (ag 0 (pv 0)) ah))) ah))))
 ·refine cU 3 ?_;refine az ?_;exact aS (bR (N':=["pair","hand","jokers"]) (CompSc.fit (sc:=ak bT) (N:=["house","hand","jokers","pairs"]) 0x62) 0x3 rfl (dS (ag 3 (pv 3))) (aG 0) (bf 0x3) (λo o o o=>(gq (i:=0) 0x63)) (λo o o o=>oo (bJ wm (aZ (qF (aM (dz.mono 0x3) hr (by refine ae ?_ ?_;(exact(ag 1 (pv 1)));(exact(ae (ag 2 (pv 2)) (ae (aZ (ag 0 (pv 0)) aj) ah)))))) aj) aj)) (λo o o o=>(ag 0 (pv 0))))
set_option tactic.hygienic true in
theorem fS(D:Df K mg "tiles_by_least" cY ["playable"]):Has P w K mg base 1 "tiles_by_least" 1 (Ce P w):=D.has λf fd Fu=>by
 refine Fu.ok (k:=0) ic (λvs H Q E h=>h.1) λOJ A bn s H vs Q E hr Qc=>?_;have hu:=dB hr;have nd:=ic.nd;refine⟨_,GQ (fi1:=iO (af 0)) (fi2:=iO (Iy (e2 bK (af 2) (eC (.int 1))) (e2 ax (eC (.int 2)) (eC (.int 1))))) (fp:=e2 bK (af 2) (eC (.int 1))) B? rfl ?_ (dS (ag 0 (pv 0))) (gq (i:=2) (by exact nd)) (by intro _;rfl)
  (dS (Hm (aZ (ag 2 (pv 2)) aj) (aJ aU (jC T.i_MOST_JOKERS) aj))) (gq (i:=3) (by exact nd)) (Jo (vB XT ù ö tm (KZ (Ky hu) (pv 1) (pv 3) (DH jS)) (jk (aZ (E:=E0) (ag 2 (pv 2)) aj) jS))) (by intro _;rfl) (pv 1) (λxs c d=>rfl) ?_ ?_,?_⟩
 ·exact Ex (i:=1) nd rfl (by first|exact ū rfl|exact Ī rfl) GH
 ·intro a c m ts;rw[<-L5];rfl
 ·intro a c m ts;rfl
 ·obtain⟨_,O,xs,x,dom,rx,e,q⟩:=Qc;unfold Ce at e;split at e
  ·rename_i ps;obtain⟨OM,e1,e2⟩:=bz e;split at e2
   ·rename_i hl;cases e2;exact⟨O,ps,OM,RS.start (N:=["playable","by_least","pair","tile"]) dom rx,e1,hl,q⟩
   ·cases e2
  ·cases e
theorem IG{fM:j!->Option Int}{UM:List j!}(TT:Tt K CT)(fS:Has P w K mg base 1 "tiles_by_least" 1 (Ce P w)){f:c!}{fd:W'}(Fu:Fun K "__init__" "Table.__init__" Bh f fd):FnOk P w K mg base ug 2 f fd ["self","playable"] (Ng P w CT fM UM):=by
 refine Fu.ok (k:=1) LQ (λvs H Q E h=>?_) λOJ A bn s H vs Q E hr Qc=>⟨_,gh (vp (pv 0) (aM (E:=E0) fS hr (ae (ag 1 (pv 1)) ah)) rfl) (gf (vp (pv 0) (Gx (f:=fM) (U:=UM)) rfl)),?_⟩
 ·obtain⟨p,dx,v,O,xs,OM,rfl,_⟩:=h;rfl
 ·have hv:∃a b,vs=[a,b]:=by obtain⟨p,dx,v,O,xs,OM,rfl,_⟩:=Qc;exact⟨_,_,rfl⟩
  obtain⟨a,b,rfl⟩:=hv;refine AU (X:=(fF ug P w K mg base ["self","playable"] "Table.__init__" (ak Bh) f OJ A bn s H E).nox) (C:=CT) (f:=fM) (U:=UM) TT.cl TT.n_by_least TT.n_known Qc λxs OM e hl=>?_;show bd (op (args [DV.d (.list xs)])) (λys=>if ys.length=1 then IZ (Ce P w ys)else b!)=_;rw[show args [DV.d (.list xs)]=a! [DV.d (.list xs)]from rfl];show IZ (Ce P w [DV.d (.list xs)])=_;show IZ (bd (op (gw xs)) λOM=>if OM.length<=1000 then rt (DV.fz (.dl P w (mj OM)))else b!)=_;rw[e];show IZ (if OM.length<=1000 then _ else b!)=_;rw[é hl];rfl
theorem yJ(TT:Tt K CT)(D:Ag K CT "ways" "Table.ways" j8 ["self","tiles","jokers"])(dz:Has P w K mg base 1 "lay_out" 3 (bN)):HasM P w K mg base (k+11) CT "ways" 3 (qV P w CT):=D.has (Aj 0x2 0x2) λf fd Fu=>nK (k:=k+10) Fu Ah rfl λOJ A bn s H E hr=>by
 have hu:=dB hr;have nd:=Ah.nd;refine ar ?_ ?_
 ·refine uK (i:=3) (N':=["wanted","tiles","jokers"]) (CompSc.fit (sc:=ak j8) (N:=["self","tiles","jokers","after"]) 0x62) 0x3 rfl (by exact nd) (dS (Fx (Ky hu) TT.cl TT.n_by_least (ag 0 (pv 0)) (aZ (ag 1 (pv 1)) aj) (cb ah))) (aG 0) (bf 0x3) (λo o o o=>(gq (i:=0) 0x63)) (λo o o o=>dk) (λo o o o=>(aM (dz.mono 0x1) hr (by refine ae ?_ ?_;(exact(ag 1 (pv 1)));(exact(ae (ag 2 (pv 2)) (ae (ag 0 (pv 0)) ah))))))
 ·refine cU 3 ?_;refine az ?_;exact aS (bR (N':=["way"]) (CompSc.fit (sc:=ak j8) (N:=["self","tiles","jokers","after"]) 0x62) 0x3 rfl (dS (ag 3 (pv 3))) (aG 0) (bf 0x3) (λo o o o=>(gq (i:=0) 0x63)) (λo o o o=>oo (bJ wm (aZ (ag 0 (pv 0)) aj) aj)) (λo o o o=>(ag 0 (pv 0))))
theorem bY{m_search_least:List DV->M DV}(TT:Tt K CT)(D:Ag K CT "least_left" "Table.least_left" d4 ["self","tiles","jokers"])(gO:HasM P w K mg base (k+10) CT "search_least" 3 m_search_least): HasM P w K mg base (k+11) CT "least_left" 3 (dh P w CT m_search_least):=D.has (Aj 0x2 0x2) λf fd Fu=>nK (k:=k+10) Fu lJ rfl λOJ A bn s H E hr=>by
 have hu:=dB hr;have nd:=lJ.nd;refine ar ?_ ?_
 ·refine dM ?_ ?_ ?_
  ·exact(ix (Kd (ag 1 (pv 1))))
  ·refine az ?_;exact aS aj
  ·exact cE
 ·refine ar ?_ ?_
  ·refine aH (i:=3) ?_ ?_
   ·exact nd
   ·exact(cH (ae (kP vy rfl T.b_tuple wK (ae (ag 1 (pv 1)) ah)) (ae (ag 2 (pv 2)) ah)))
  ·refine Ha (Ky hu) TT.cl TT.n_known ?_ ?_ ?_ ?_ ?_ ?_ ?_ ?_
   ·exact pv 0
   ·exact pv 0
   ·exact pv 0
   ·exact pv 3
   ·exact pv 3
   ·exact pv 3
   ·exact(by refine jv gO (hr.mono (N6 _)) TT.cl ?_ ?_;(exact(ag 0 (pv 0)));(exact(ae (ag 1 (pv 1)) (ae (ag 2 (pv 2)) ah))))
   ·intro _ _;rfl
variable{B':List DV->M DV}
theorem gO{j6:List DV->M DV}(TT:Tt K CT)(D:Ag K CT "search_least" "Table.search_least" c0 ["self","tiles","jokers"])(bY:HasM P w K mg base (k+10) CT "least_left" 3 B')(yJ:HasM P w K mg base (k+10) CT "ways" 3 j6): HasM P w K mg base (k+11) CT "search_least" 3 (eZ P w CT j6 B'):=D.has (Aj 0x2 0x2) λf fd Fu=>nK (k:=k+10) Fu jw rfl λOJ A bn s H E hr=>by
 have hu:=dB hr;have nd:=jw.nd;refine ar ?_ ?_
 ·refine aH (i:=3) ?_ ?_
  ·exact nd
  ·exact(cb (ae (aJ aU (aZ (aZ (ag 1 (pv 1)) aj) aj) (by refine jv bY (hr.mono (N6 _)) TT.cl ?_ ?_;(exact(ag 0 (pv 0)));(exact(ae (Hk (ag 1 (pv 1)) aj) (ae (ag 2 (pv 2)) ah))))) ah))
 ·refine ar ?_ ?_
  ·refine dC B? rfl ?_ (rG rfl (eE (gq (i:=4) (by exact nd)) (eE (gq (i:=5) (by exact nd)) nr))) (p0 (f6 (aG 4) (f6 (aG 5) qf))) ?_
   ·exact(dS (by refine jv yJ (hr.mono (N6 _)) TT.cl ?_ ?_;(exact(ag 0 (pv 0)));(exact(ae (ag 1 (pv 1)) (ae (ag 2 (pv 2)) ah)))))
   ·refine az ?_;refine uc (pv 3) ?_;exact(by refine jv bY (hr.mono (N6 _)) TT.cl ?_ ?_;(exact(ag 0 (pv 0)));(exact(ae (ag 4 (pv 4)) (ae (ag 5 (pv 5)) ah))))
  ·refine az ?_;exact aS (aV (FJ rfl) rfl T.b_min xR (ae (ag 3 (pv 3)) ah))
theorem gT(D:Df K mg "first_laying" dQ ["table","playable","hand","jokers"])(TT:Tt K CT)(bY:HasM P w K mg base 60 CT "least_left" 3 B')(dz:Has P w K mg base 1 "lay_out" 3 (bN)):Has P w K mg base 61 "first_laying" 4 (dW P w CT B'):=D.has λf fd Fu=>nK (k:=60) Fu jG rfl λOJ A bn s H E hr=>by
 have hu:=dB hr;have nd:=jG.nd;refine ar ?_ ?_
 ·refine aH (i:=4) ?_ ?_
  ·exact nd
  ·exact(by refine jv bY (hr.mono 0x3) TT.cl ?_ ?_;(exact(ag 0 (pv 0)));(exact(ae (ag 2 (pv 2)) (ae (ag 3 (pv 3)) ah))))
 ·refine ar ?_ ?_
  ·refine aH (i:=5) ?_ ?_
   ·exact nd
   ·exact(cb ah)
  ·refine ar ?_ ?_
   ·refine aH (i:=6) ?_ ?_
    ·exact nd
    ·exact(ag 2 (pv 2))
   ·refine ar ?_ ?_
    ·refine aH (i:=7) ?_ ?_
     ·exact nd
     ·exact(ag 3 (pv 3))
    ·refine ar ?_ ?_
     ·refine dC B? rfl ?_ (rG rfl (eE (gq (i:=8) (by exact nd)) (eE (gq (i:=9) (by exact nd)) nr))) (p0 (f6 (aG 8) (f6 (aG 9) qf))) ?_
      ·exact(dS (ag 1 (pv 1)))
      ·refine ar ?_ ?_
       ·refine aH (i:=10) ?_ ?_
        ·exact nd
        ·exact(qF (aM (dz.mono 0x3) hr (by refine ae ?_ ?_;(exact(ag 6 (pv 6)));(exact(ae (ag 7 (pv 7)) (ae (ag 9 (pv 9)) ah))))))
       ·refine az ?_;refine Dc 100 B? ?_ ?_
        ·exact(zB.pb (yr (bJ wm (aZ (ag 10 (pv 10)) aj) aj) (uJ (bJ (lE hu) (by refine jv bY (hr.mono 0x3) TT.cl ?_ ?_;(exact(ag 0 (pv 0)));(exact(ae (aZ (ag 10 (pv 10)) aj) (ae (aZ (ag 10 (pv 10)) aj) ah)))) (ag 4 (pv 4))))))
        ·refine ar ?_ ?_
         ·refine uc (pv 5) ?_;exact(ag 8 (pv 8))
         ·refine ar ?_ ?_
          ·refine aH (i:=6) ?_ ?_
           ·exact nd
           ·exact(aZ (ag 10 (pv 10)) aj)
          ·refine ar ?_ ?_
           ·refine aH (i:=7) ?_ ?_
            ·exact nd
            ·exact(aZ (ag 10 (pv 10)) aj)
           ·refine az ?_;refine aH (i:=10) ?_ ?_
            ·exact nd
            ·exact(qF (aM (dz.mono 0x3) hr (by refine ae ?_ ?_;(exact(ag 6 (pv 6)));(exact(ae (ag 7 (pv 7)) (ae (ag 9 (pv 9)) ah))))))
     ·refine az ?_;exact aS (ag 5 (pv 5))
theorem yD(D:Df K mg "best" qt ["house","hand","jokers"])(TT:Tt K CT)(RG:∀fM UM,HsT P w K mg base "Table" CT 2 fM UM)(bY:HasM P w K mg base 60 CT "least_left" 3 B')(fD:HasX P w K mg base 3 "check_hand" 3 (dn C Oa))(fU:HasX P w K mg base 5 "playable_melds" 3 (cZ C Oc))(kS:Has P w K mg base 1 "total" 1 (il))(gT:Has P w K mg base 61 "first_laying" 4 (dW P w CT B')):HasX P w K mg base 62 "best" 3 (ja P w C CT Oa Oc B'):=by
 rw[xY];refine D.hasX λf fd Fu=>NT (fm:=λ(g:(j!->Option Int)×List j!)=>eS ["house","hand","jokers","playable","table","greatest"] (ub P w C CT Oa Oc g.1 g.2 B')) KI λg=>IV (k:=61) Fu Ar rfl λOJ A bn s H E hr=>?_;have hu:=dB hr;have nd:=Ar.nd;refine ar ?_ ?_
 ·refine z5 ?_;exact(by refine eX (fD.mono 0x3) hr kK ?_;exact(by refine ae ?_ ?_;(exact(ag 0 (pv 0)));(exact(ae (ag 1 (pv 1)) (ae (ag 2 (pv 2)) ah)))))
 ·refine ar ?_ ?_
  ·refine aH (i:=3) ?_ ?_
   ·exact nd
   ·exact(by refine eX (fU.mono 0x3) hr kK ?_;exact(by refine ae ?_ ?_;(exact(ag 0 (pv 0)));(exact(ae (ag 1 (pv 1)) (ae (ag 2 (pv 2)) ah)))))
  ·refine cU 3 ?_;refine ar ?_ ?_
   ·refine aH (i:=4) ?_ ?_
    ·exact nd
    ·exact(by refine Jl (RG g.1 g.2) (hr.mono 0x3) ?_;exact(ae (ag 3 (pv 3)) ah))
   ·refine ar ?_ ?_
    ·refine aH (i:=5) ?_ ?_
     ·exact nd
     ·exact(aJ fQ (aM (kS.mono 0x3) hr (ae (ag 1 (pv 1)) ah)) (by refine jv bY (hr.mono 0x3) TT.cl ?_ ?_;(exact(ag 4 (pv 4)));(exact(ae (ag 1 (pv 1)) (ae (ag 2 (pv 2)) ah)))))
    ·refine cU 3 ?_;refine az ?_;exact aS (G4 (ae (ag 5 (pv 5)) (ae (aM (gT.mono 0x3) hr (by refine ae ?_ ?_;(exact(ag 4 (pv 4)));(exact(by refine ae ?_ ?_;(exact(ag 3 (pv 3)));(exact(by refine ae ?_ ?_;(exact(ag 1 (pv 1)));(exact(by refine ae ?_ ?_;(exact(ag 2 (pv 2)));(exact ah))))))))) ah)))
theorem bq(D:Df K mg "_law_cell_at" dX ["script","k"]): Has P w K mg base 1 "_law_cell_at" 2 (aA K):=D.has λf fd Fu=>nK (k:=0) Fu jB rfl λOJ A bn s H E hr=>by
 have hu:=dB hr;have nd:=jB.nd;refine ar ?_ ?_
 ·refine dM ?_ ?_ ?_
  ·exact(bJ (jV hu) (ag 1 (pv 1)) (aV G0 rfl T.b_len eN (ae (ag 0 (pv 0)) ah)))
  ·refine az ?_;exact aS (Jx (ag 0 (pv 0)) (ag 1 (pv 1)))
  ·exact cE
 ·refine az ?_;exact aS aj
theorem bx(D:Df K mg "_law_mix" hG ["cell","k","many"]): Has P w K mg base 1 "_law_mix" 3 (ay):=D.has λf fd Fu=>nK (k:=0) Fu oT rfl λOJ A bn s H E hr=>by
 have hu:=dB hr;have nd:=oT.nd;refine ar ?_ ?_
 ·refine aH (i:=3) ?_ ?_
  ·exact nd
  ·exact(by refine cb ?_;(exact(by refine ae ?_ ?_;(exact(by exact aj));(exact(by refine ae ?_ ?_;(exact(by exact aj));(exact(by refine ae ?_ ?_;(exact(by exact aj));(exact(by refine ae ?_ ?_;(exact(by exact aj));(exact(by refine ae ?_ ?_;(exact(by exact aj));(exact(by refine ae ?_ ?_;(exact(by exact aj));(exact(by refine ae ?_ ?_;(exact(by exact aj));(exact(by refine ae ?_ ?_;(exact(by exact aj));(exact(by refine ae ?_ ?_;(exact(by exact aj));(exact(by refine ae ?_ ?_;(exact(by exact aj));(exact(by refine ae ?_ ?_;(exact(by exact aj));(exact(by refine ae ?_ ?_;(exact(by exact aj));(exact(by refine ae ?_ ?_;(exact(by exact aj));(exact ah))))))))))))))))))))))))))))
 ·refine ar ?_ ?_
  ·refine aH (i:=4) ?_ ?_
   ·exact nd
   ·exact(aJ cj (aJ cj (aJ gk (aJ cj (aJ kl (ag 0 (pv 0)) (by exact aj)) (by exact aj)) (aZ (ag 3 (pv 3)) (aJ kl (ag 1 (pv 1)) aj))) (aJ gk (by exact aj) (ag 1 (pv 1)))) (aJ gk (by exact aj) (aJ Ci (ag 1 (pv 1)) aj)))
  ·refine ar ?_ ?_
   ·refine aH (i:=4) ?_ ?_
    ·exact nd
    ·exact(aJ kl (ag 4 (pv 4)) (by exact aj))
   ·refine az ?_;exact aS (aJ kl (aJ Ci (aJ kl (aJ cj (aJ gk (ag 4 (pv 4)) (ag 4 (pv 4))) (aJ gk (by exact aj) (ag 1 (pv 1)))) (by exact aj)) aj) (ag 2 (pv 2)))
theorem jc(D:Df K mg "_law_whole" fu ["found"]): Has P w K mg base 1 "_law_whole" 1 (gE):=D.has λf fd Fu=>nK (k:=0) Fu lS rfl λOJ A bn s H E hr=>by have hu:=dB hr;have nd:=lS.nd;refine az ?_;exact aS (oF (HY 0x3 T.b_isinstance T.b_int Cu (ag 0 (pv 0))) (rM (Jf (HY 0x3 T.b_isinstance T.b_bool HA (ag 0 (pv 0))))))
theorem gv(D:Df K mg "_law_house_by" dt ["script"])(bq:Has P w K mg base 1 "_law_cell_at" 2 (aA K))(bx:Has P w K mg base 1 "_law_mix" 3 (ay)):Has P w K mg base 2 "_law_house_by" 1 (du K):=D.has λf fd Fu=>nK (k:=1) Fu iN rfl λOJ A bn s H E hr=>by
 have hu:=dB hr;have nd:=iN.nd;refine ar ?_ ?_
 ·refine aH (i:=1) ?_ ?_
  ·exact nd
  ·exact(aM (bq.mono 0x3) hr (ae (ag 0 (pv 0)) (ae aj ah)))
 ·refine az ?_;exact aS (cH (ae (aJ cj aj (aM (bx.mono 0x3) hr (by refine ae ?_ ?_;(exact(ag 1 (pv 1)));(exact(ae aj (ae (aZ (by refine cb ?_;(exact(by refine ae ?_ ?_;(exact aj);(exact(by refine ae ?_ ?_;(exact aj);(exact(by refine ae ?_ ?_;(exact aj);(exact(by refine ae ?_ ?_;(exact aj);(exact ah)))))))))) (aM (bx.mono 0x3) hr (by refine ae ?_ ?_;(exact(ag 1 (pv 1)));(exact(ae aj (ae aj ah)))))) ah)))))) (ae (aJ cj aj (aM (bx.mono 0x3) hr (by refine ae ?_ ?_;(exact(ag 1 (pv 1)));(exact(ae aj (ae aj ah)))))) ah)))
theorem gP(D:Df K mg "_law_trimmed" dN ["tiles","limit"]): Has P w K mg base 1 "_law_trimmed" 2 (cA):=D.has λf fd Fu=>nK (k:=0) Fu jF rfl λOJ A bn s H E hr=>by
 have hu:=dB hr;have nd:=jF.nd;refine ar ?_ ?_
 ·refine aH (i:=2) ?_ ?_
  ·exact nd
  ·exact(cb ah)
 ·refine ar ?_ ?_
  ·refine dC B? rfl ?_ (gq (i:=3) (by exact nd)) (aG 3) ?_
   ·exact(dS (ag 0 (pv 0)))
   ·refine az ?_;refine dM ?_ ?_ ?_
    ·exact(zB.pb (yr (bJ (jV hu) (iE hu (ag 2 (pv 2)) (ag 3 (pv 3))) aj) (uJ (bJ (jV hu) (aV fg rfl T.b_len eN (ae (ag 2 (pv 2)) ah)) (ag 1 (pv 1))))))
    ·refine az ?_;refine uc (pv 2) ?_;exact(ag 3 (pv 3))
    ·exact cE
  ·refine az ?_;exact aS (aV (qK hu) rfl T.b_sorted iP (ae (ag 2 (pv 2)) ah))
theorem gQ(D:Df K mg "_law_hand_by" cC ["script","start","most","colours","limit"])(bq:Has P w K mg base 1 "_law_cell_at" 2 (aA K))(bx:Has P w K mg base 1 "_law_mix" 3 (ay))(gP:Has P w K mg base 1 "_law_trimmed" 2 (cA)):Has P w K mg base 2 "_law_hand_by" 5 (dP K):=D.has λf fd Fu=>nK (k:=1) Fu jH rfl λOJ A bn s H E hr=>by
 have hu:=dB hr;have nd:=jH.nd;refine ar ?_ ?_
 ·refine aH (i:=5) ?_ ?_
  ·exact nd
  ·exact(cb ah)
 ·refine ar ?_ ?_
  ·refine dC B? rfl ?_ (gq (i:=6) (by exact nd)) (aG 6) ?_
   ·exact(lH T.b_range (ae aj ah))
   ·refine ar ?_ ?_
    ·refine aH (i:=7) ?_ ?_
     ·exact nd
     ·exact(aM (bq.mono 0x3) hr (ae (ag 0 (pv 0)) (ae (aJ cj (ag 1 (pv 1)) (ag 6 (pv 6))) ah)))
    ·refine ar ?_ ?_
     ·refine xT ?_ (rG rfl (eE (gq (i:=8) (by exact nd)) (eE (gq (i:=9) (by exact nd)) nr))) (p0 (f6 (aG 8) (f6 (aG 9) qf)));exact(cH (ae (aJ cj aj (aM (bx.mono 0x3) hr (by refine ae ?_ ?_;(exact(ag 7 (pv 7)));(exact(ae aj (ae (ag 2 (pv 2)) ah)))))) (ae (aM (bx.mono 0x3) hr (by refine ae ?_ ?_;(exact(ag 7 (pv 7)));(exact(ae aj (ae (ag 3 (pv 3)) ah))))) ah)))
     ·refine ar ?_ ?_
      ·refine aH (i:=10) ?_ ?_
       ·exact nd
       ·exact(aJ cj aj (aM (bx.mono 0x3) hr (by refine ae ?_ ?_;(exact(ag 7 (pv 7)));(exact(ae aj (ae aj ah))))))
      ·refine ar ?_ ?_
       ·refine dM ?_ ?_ ?_
        ·exact(bJ (lE hu) (aM (bx.mono 0x3) hr (by refine ae ?_ ?_;(exact(ag 7 (pv 7)));(exact(ae aj (ae aj ah))))) aj)
        ·refine az ?_;refine aH (i:=5) ?_ ?_
         ·exact nd
         ·exact(aJ cj (ag 5 (pv 5)) (bR (N':=["x","colour"]) (CompSc.fit (sc:=ak cC) (N:=["script","start","most","colours","limit","tiles","k","cell","number","colour","size"]) 0x62) 0x3 rfl (ng T.b_range (ae (ag 8 (pv 8)) (ae (aJ cj (aV (Cz rfl) rfl T.b_min xR (ae (ag 2 (pv 2)) (ae (aJ fQ (aJ cj (ag 8 (pv 8)) (ag 10 (pv 10))) aj) ah))) aj) ah))) (aG 0) (bf 0x3) (λo o o o=>(gq (i:=0) 0x63)) (λo o o o=>dk) (λo o o o=>(cH (ae (ag 0 (pv 0)) (ae (ag 1 (pv 1)) ah))))))
        ·refine az ?_;refine aH (i:=5) ?_ ?_
         ·exact nd
         ·exact(aJ cj (ag 5 (pv 5)) (bR (N':=["x","number","cell"]) (CompSc.fit (sc:=ak cC) (N:=["script","start","most","colours","limit","tiles","k","cell","number","colour","size"]) 0x62) 0x3 rfl (lH T.b_range (ae (ag 3 (pv 3)) ah)) (aG 0) (bf 0x3) (λo o o o=>(gq (i:=0) 0x63)) (λo o o o=>oo (bJ wW (aM (bx.mono 0x3) hr (by refine ae ?_ ?_;(exact(ag 2 (pv 2)));(exact(ae (aJ cj aj (ag 0 (pv 0))) (ae aj ah))))) aj)) (λo o o o=>(cH (ae (ag 1 (pv 1)) (ae (ag 0 (pv 0)) ah))))))
       ·refine az ?_;refine dM ?_ ?_ ?_
        ·exact(bJ (lE hu) (aM (bx.mono 0x3) hr (by refine ae ?_ ?_;(exact(ag 7 (pv 7)));(exact(ae aj (ae aj ah))))) aj)
        ·refine az ?_;refine uc (pv 5) ?_;exact(cH (ae (aJ cj aj (aM (bx.mono 0x3) hr (by refine ae ?_ ?_;(exact(ag 7 (pv 7)));(exact(ae aj (ae (ag 2 (pv 2)) ah)))))) (ae (aM (bx.mono 0x3) hr (by refine ae ?_ ?_;(exact(ag 7 (pv 7)));(exact(ae aj (ae (ag 3 (pv 3)) ah))))) ah)))
        ·exact cE
  ·refine ar ?_ ?_
   ·refine dM ?_ ?_ ?_
    ·exact(bJ (lE hu) (aV fg rfl T.b_len eN (ae (ag 5 (pv 5)) ah)) aj)
    ·refine az ?_;refine aH (i:=5) ?_ ?_
     ·exact nd
     ·exact(cb (ae (cH (ae aj (ae aj ah))) ah))
    ·exact cE
   ·refine ar ?_ ?_
    ·refine dM ?_ ?_ ?_
     ·exact(bJ (lE hu) (aJ kl (aM (bq.mono 0x3) hr (ae (ag 0 (pv 0)) (ae (aJ cj (ag 1 (pv 1)) aj) ah))) aj) aj)
     ·refine az ?_;exact aS (cb ah)
     ·exact cE
    ·refine cU 5 ?_;refine az ?_;exact aS (aM (gP.mono 0x3) hr (ae (ag 5 (pv 5)) (ae (aJ cj aj (aJ kl (aM (bq.mono 0x3) hr (ae (ag 0 (pv 0)) (ae (aJ cj (ag 1 (pv 1)) aj) ah))) (ag 4 (pv 4)))) ah)))
theorem fY(D:Df K mg "_law_jokers_by" c8 ["script","hand"])(bq:Has P w K mg base 1 "_law_cell_at" 2 (aA K)):Has P w K mg base 2 "_law_jokers_by" 2 (cq K):=D.has λf fd Fu=>nK (k:=1) Fu hZ rfl λOJ A bn s H E hr=>by
 have hu:=dB hr;have nd:=hZ.nd;refine ar ?_ ?_
 ·refine aH (i:=2) ?_ ?_
  ·exact nd
  ·exact(aM (bq.mono 0x3) hr (ae (ag 0 (pv 0)) (ae aj ah)))
 ·refine az ?_;exact aS (aZ (by refine cb ?_;(exact(by refine ae ?_ ?_;(exact aj);(exact(by refine ae ?_ ?_;(exact aj);(exact(by refine ae ?_ ?_;(exact aj);(exact(by refine ae ?_ ?_;(exact(aZ (cb (ae aj (ae aj ah))) (kP Kn rfl T.b_int Cu (ae (oI (jV hu) (aV fg rfl T.b_len eN (ae (ag 1 (pv 1)) ah)) aj) ah))));(exact ah)))))))))) (aJ kl (ag 2 (pv 2)) aj))
theorem je(D:Df K mg "_law_tiles" dm ["meld"]): Has P w K mg base 1 "_law_tiles" 1 (bF):=D.has λf fd Fu=>nK (k:=0) Fu lP rfl λOJ A bn s H E hr=>by
 have hu:=dB hr;have nd:=lP.nd;refine ar ?_ ?_
 ·refine dM ?_ ?_ ?_
  ·exact(bJ (lE hu) (aZ (ag 0 (pv 0)) aj) (jN 0x2))
  ·refine az ?_;exact aS (bR (N':=["k","meld"]) (CompSc.fit (sc:=ak dm) (N:=["meld"]) 0x62) 0x3 rfl (lH T.b_range (ae (aZ (ag 0 (pv 0)) aj) ah)) (aG 0) (bf 0x3) (λo o o o=>(gq (i:=0) 0x63)) (λo o o o=>dk) (λo o o o=>(cH (ae (aJ aU (aZ (ag 1 (pv 1)) aj) (ag 0 (pv 0))) (ae (aZ (ag 1 (pv 1)) aj) ah)))))
  ·exact cE
 ·refine az ?_;exact aS (bR (N':=["colour","meld"]) (CompSc.fit (sc:=ak dm) (N:=["meld"]) 0x62) 0x3 rfl (EF (aZ (ag 0 (pv 0)) aj)) (aG 0) (bf 0x3) (λo o o o=>(gq (i:=0) 0x63)) (λo o o o=>dk) (λo o o o=>(cH (ae (aZ (ag 1 (pv 1)) aj) (ae (ag 0 (pv 0)) ah)))))
theorem jb(D:Df K mg "_law_melds" cR ["most","colours"]): Has P w K mg base 1 "_law_melds" 2 (eY):=D.has λf fd Fu=>nK (k:=0) Fu lW rfl λOJ A bn s H E hr=>by
 have hu:=dB hr;have nd:=lW.nd;refine ar ?_ ?_
 ·refine aH (i:=2) ?_ ?_
  ·exact nd
  ·exact(cb ah)
 ·refine ar ?_ ?_
  ·refine dC B? rfl ?_ (gq (i:=3) (by exact nd)) (aG 3) ?_
   ·exact(lH T.b_range (ae (ag 1 (pv 1)) ah))
   ·refine az ?_;refine dC B? rfl ?_ (gq (i:=4) (by exact nd)) (aG 4) ?_
    ·exact(ng T.b_range (ae aj (ae (aJ aU (ag 0 (pv 0)) aj) ah)))
    ·refine az ?_;refine aH (i:=2) ?_ ?_
     ·exact nd
     ·exact(aJ aU (ag 2 (pv 2)) (bR (N':=["last","colour","first"]) (CompSc.fit (sc:=ak cR) (N:=["most","colours","found","colour","first","kinds","number"]) 0x62) 0x3 rfl (ng T.b_range (ae (aJ aU (ag 4 (pv 4)) aj) (ae (aJ aU (ag 0 (pv 0)) aj) ah))) (aG 0) (bf 0x3) (λo o o o=>(gq (i:=0) 0x63)) (λo o o o=>dk) (λo o o o=>(by refine cH ?_;(exact(by refine ae ?_ ?_;(exact(jN 0x2));(exact(by refine ae ?_ ?_;(exact(ag 1 (pv 1)));(exact(by refine ae ?_ ?_;(exact(ag 2 (pv 2)));(exact(by refine ae ?_ ?_;(exact(aJ aU (aJ fQ (ag 0 (pv 0)) (ag 2 (pv 2))) aj));(exact ah)))))))))))))
  ·refine ar ?_ ?_
   ·refine aH (i:=5) ?_ ?_
    ·exact nd
    ·exact(cb (ae (cb ah) ah))
   ·refine ar ?_ ?_
    ·refine dC B? rfl ?_ (gq (i:=3) (by exact nd)) (aG 3) ?_
     ·exact(lH T.b_range (ae (ag 1 (pv 1)) ah))
     ·refine cU 5 ?_;refine az ?_;refine aH (i:=5) ?_ ?_
      ·exact nd
      ·exact(aJ aU (ag 5 (pv 5)) (bR (N':=["kind","colour"]) (CompSc.fit (sc:=ak cR) (N:=["most","colours","found","colour","first","kinds","number"]) 0x62) 0x3 rfl (dS (ag 5 (pv 5))) (aG 0) (bf 0x3) (λo o o o=>(gq (i:=0) 0x63)) (λo o o o=>dk) (λo o o o=>(aJ aU (ag 0 (pv 0)) (cb (ae (ag 1 (pv 1)) ah))))))
    ·refine ar ?_ ?_
     ·refine dC B? rfl ?_ (gq (i:=6) (by exact nd)) (aG 6) ?_
      ·exact(ng T.b_range (ae aj (ae (aJ aU (ag 0 (pv 0)) aj) ah)))
      ·refine cU 5 ?_;refine az ?_;refine aH (i:=2) ?_ ?_
       ·exact nd
       ·exact(aJ aU (ag 2 (pv 2)) (bR (N':=["kind","number"]) (CompSc.fit (sc:=ak cR) (N:=["most","colours","found","colour","first","kinds","number"]) 0x62) 0x3 rfl (dS (ag 5 (pv 5))) (aG 0) (bf 0x3) (λo o o o=>(gq (i:=0) 0x63)) (λo o o o=>oo (bJ wW (aV fg rfl T.b_len eN (ae (ag 0 (pv 0)) ah)) aj)) (λo o o o=>(by refine cH ?_;(exact(by refine ae ?_ ?_;(exact(jN 0x2));(exact(ae (ag 1 (pv 1)) (ae (kP vy rfl T.b_tuple wK (ae (ag 0 (pv 0)) ah)) ah)))))))))
     ·refine az ?_;exact aS (aV (l6 hu) rfl T.b_sorted iP (ae (ag 2 (pv 2)) ah))
theorem eQ(D:Df K mg "_law_laid" gm ["hand","laying"])(je:Has P w K mg base 1 "_law_tiles" 1 (bF)):Has P w K mg base 2 "_law_laid" 2 (bP):=D.has λf fd Fu=>nK (k:=1) Fu nI rfl λOJ A bn s H E hr=>by
 have hu:=dB hr;have nd:=nI.nd;refine ar ?_ ?_
 ·refine aH (i:=2) ?_ ?_
  ·exact nd
  ·exact(cb ah)
 ·refine ar ?_ ?_
  ·refine dC B? rfl ?_ (gq (i:=3) (by exact nd)) (aG 3) ?_
   ·exact(dS (ag 1 (pv 1)))
   ·refine az ?_;refine aH (i:=2) ?_ ?_
    ·exact nd
    ·exact(aJ aU (ag 2 (pv 2)) (aM (je.mono 0x3) hr (ae (ag 3 (pv 3)) ah)))
  ·refine ar ?_ ?_
   ·refine aH (i:=4) ?_ ?_
    ·exact nd
    ·exact aj
   ·refine ar ?_ ?_
    ·refine aH (i:=5) ?_ ?_
     ·exact nd
     ·exact aj
    ·refine ar ?_ ?_
     ·refine aH (i:=6) ?_ ?_
      ·exact nd
      ·exact(cb ah)
     ·refine ar ?_ ?_
      ·refine dC B? rfl ?_ (gq (i:=7) (by exact nd)) (aG 7) ?_
       ·exact(dS (Fw hr.hd hu rfl T.b_sorted iP rfl T.b_set J8 (aJ aU (ag 2 (pv 2)) (ag 0 (pv 0)))))
       ·refine ar ?_ ?_
        ·refine aH (i:=8) ?_ ?_
         ·exact nd
         ·exact(aV (Cz rfl) rfl T.b_min xR (ae (iE hu (ag 2 (pv 2)) (ag 7 (pv 7))) (ae (iE hu (ag 0 (pv 0)) (ag 7 (pv 7))) ah)))
        ·refine ar ?_ ?_
         ·refine aH (i:=4) ?_ ?_
          ·exact nd
          ·exact(aJ aU (ag 4 (pv 4)) (aJ gk (ag 8 (pv 8)) (aZ (ag 7 (pv 7)) aj)))
         ·refine ar ?_ ?_
          ·refine aH (i:=5) ?_ ?_
           ·exact nd
           ·exact(aJ fQ (aJ aU (ag 5 (pv 5)) (iE hu (ag 2 (pv 2)) (ag 7 (pv 7)))) (ag 8 (pv 8)))
          ·refine az ?_;refine aH (i:=6) ?_ ?_
           ·exact nd
           ·exact(aJ aU (ag 6 (pv 6)) (aJ gk (cb (ae (ag 7 (pv 7)) ah)) (aJ fQ (iE hu (ag 0 (pv 0)) (ag 7 (pv 7))) (ag 8 (pv 8)))))
      ·refine cU 6 ?_;refine az ?_;exact aS (by refine cH ?_;(exact(by refine ae ?_ ?_;(exact(ag 4 (pv 4)));(exact(ae (ag 5 (pv 5)) (ae (ag 6 (pv 6)) ah))))))
theorem fZ(D:Df K mg "_law_laying_by" cw ["script","start","most","colours","hand","jokers"])(jb:Has P w K mg base 1 "_law_melds" 2 (eY))(eQ:Has P w K mg base 2 "_law_laid" 2 (bP))(bq:Has P w K mg base 1 "_law_cell_at" 2 (aA K))(bx:Has P w K mg base 1 "_law_mix" 3 (ay)):Has P w K mg base 3 "_law_laying_by" 6 (dZ K):=D.has λf fd Fu=>nK (k:=2) Fu ik rfl λOJ A bn s H E hr=>by
 have hu:=dB hr;have nd:=ik.nd;refine ar ?_ ?_
 ·refine uK (i:=6) (N':=["meld","jokers","hand"]) (CompSc.fit (sc:=ak cw) (N:=["script","start","most","colours","hand","jokers","some","laying","k","tried"]) 0x62) 0x3 rfl (by exact nd) (dS (aM (jb.mono 0x3) hr (ae (ag 2 (pv 2)) (ae (ag 3 (pv 3)) ah)))) (aG 0) (bf 0x3) (λo o o o=>(gq (i:=0) 0x63)) (λo o o o=>oo (bJ (fO hu) (aZ (aM (eQ.mono 0x3) hr (ae (ag 2 (pv 2)) (ae (cb (ae (ag 0 (pv 0)) ah)) ah))) aj) (ag 1 (pv 1)))) (λo o o o=>(ag 0 (pv 0)))
 ·refine ar ?_ ?_
  ·refine aH (i:=7) ?_ ?_
   ·exact nd
   ·exact(cb ah)
  ·refine ar ?_ ?_
   ·refine dC B? rfl ?_ (gq (i:=8) (by exact nd)) (aG 8) ?_
    ·exact(lH T.b_range (ae aj ah))
    ·refine az ?_;refine dM ?_ ?_ ?_
     ·exact(bJ wW (aV fg rfl T.b_len eN (ae (ag 6 (pv 6)) ah)) aj)
     ·refine ar ?_ ?_
      ·refine aH (i:=9) ?_ ?_
       ·exact nd
       ·exact(aV (l6 hu) rfl T.b_sorted iP (ae (aJ aU (ag 7 (pv 7)) (cb (ae (aZ (ag 6 (pv 6)) (aM (bx.mono 0x3) hr (by refine ae ?_ ?_;(exact(aM (bq.mono 0x3) hr (ae (ag 0 (pv 0)) (ae (aJ aU (ag 1 (pv 1)) (ag 8 (pv 8))) ah))));(exact(ae (ag 8 (pv 8)) (ae (aV fg rfl T.b_len eN (ae (ag 6 (pv 6)) ah)) ah)))))) ah))) ah))
      ·refine cU 9 ?_;refine az ?_;refine dM ?_ ?_ ?_
       ·exact(bJ (fO hu) (aZ (aM (eQ.mono 0x3) hr (ae (ag 4 (pv 4)) (ae (ag 9 (pv 9)) ah))) aj) (ag 5 (pv 5)))
       ·refine cU 9 ?_;refine az ?_;refine aH (i:=7) ?_ ?_
        ·exact nd
        ·exact(ag 9 (pv 9))
       ·exact cE
     ·exact cE
   ·refine az ?_;exact aS (ag 7 (pv 7))
theorem JK{f:c!}{fd:W'}(Fu:Fun K "law" "law" m9 f fd)(Qa:NG P w K mg base C Ob)(gv:Has P w K mg base 2 "_law_house_by" 1 (du K))(gQ:Has P w K mg base 2 "_law_hand_by" 5 (dP K))(fY:Has P w K mg base 2 "_law_jokers_by" 2 (cq K))(yD:HasX P w K mg base 62 "best" 3 (ja P w C CT Oa Oc B'))(pL:HasX P w K mg base 7 "worth" 4 (jn C Oa Oc))(eQ:Has P w K mg base 2 "_law_laid" 2 (bP))(qT:HasX P w K mg base 6 "left" 4 (mn C Oa Oc))(fZ:Has P w K mg base 3 "_law_laying_by" 6 (dZ K))(jc:Has P w K mg base 1 "_law_whole" 1 (gE)):FnOk P w K mg base ug 63 f fd ["script"] (F8 1 (sR P w K C CT Oa Ob Oc B')):=nK (k:=62) Fu CW rfl λOJ A bn s H E hr=>by
 have hu:=dB hr;have nd:=CW.nd;refine ar ?_ ?_
 ·refine xT ?_ (rG rfl (eE (gq (i:=1) (by exact nd)) (eE (gq (i:=2) (by exact nd)) nr))) (p0 (f6 (aG 1) (f6 (aG 2) qf)));exact(aM (gv.mono 0x3) hr (ae (ag 0 (pv 0)) ah))
 ·refine ar ?_ ?_
  ·refine aH (i:=3) ?_ ?_
   ·exact nd
   ·exact(by refine FV Qa 0x2 (hr.mono 0x3) nQ ?_;exact(ae (ag 1 (pv 1)) (ae (ag 2 (pv 2)) ah)))
  ·refine ar ?_ ?_
   ·refine aH (i:=4) ?_ ?_
    ·exact nd
    ·exact(aM (gQ.mono 0x3) hr (by refine ae ?_ ?_;(exact(ag 0 (pv 0)));(exact(by refine ae ?_ ?_;(exact aj);(exact(by refine ae ?_ ?_;(exact(ag 1 (pv 1)));(exact(by refine ae ?_ ?_;(exact(ag 2 (pv 2)));(exact(by refine ae ?_ ?_;(exact aj);(exact ah)))))))))))
   ·refine cU 4 ?_;refine ar ?_ ?_
    ·refine aH (i:=5) ?_ ?_
     ·exact nd
     ·exact(aM (fY.mono 0x3) hr (ae (ag 0 (pv 0)) (ae (ag 4 (pv 4)) ah)))
    ·refine cU 4 ?_;refine ar ?_ ?_
     ·refine xT ?_ (rG rfl (eE (gq (i:=6) (by exact nd)) (eE (gq (i:=7) (by exact nd)) nr))) (p0 (f6 (aG 6) (f6 (aG 7) qf)));exact(by refine eX (yD.mono 0x3) hr nQ ?_;exact(by refine ae ?_ ?_;(exact(ag 3 (pv 3)));(exact(ae (ag 4 (pv 4)) (ae (ag 5 (pv 5)) ah)))))
     ·refine cU 4 ?_;refine ar ?_ ?_
      ·refine dM ?_ ?_ ?_
       ·exact(zB.pb (zw (bJ (C7 hu) (by refine eX (pL.mono 0x3) hr nQ ?_;exact(by refine ae ?_ ?_;(exact(ag 3 (pv 3)));(exact(by refine ae ?_ ?_;(exact(ag 4 (pv 4)));(exact(by refine ae ?_ ?_;(exact(ag 5 (pv 5)));(exact(by refine ae ?_ ?_;(exact(ag 7 (pv 7)));(exact ah))))))))) (ag 6 (pv 6))) (yH (bJ (C7 hu) (aZ (aM (eQ.mono 0x3) hr (ae (ag 4 (pv 4)) (ae (ag 7 (pv 7)) ah))) aj) (ag 6 (pv 6))))))
       ·refine az ?_;exact aS oP
       ·exact cE
      ·refine cU 4 ?_;refine ar ?_ ?_
       ·refine aH (i:=8) ?_ ?_
        ·exact nd
        ·exact(aZ (qF (by refine eX (qT.mono 0x3) hr nQ ?_;exact(by refine ae ?_ ?_;(exact(ag 3 (pv 3)));(exact(by refine ae ?_ ?_;(exact(ag 4 (pv 4)));(exact(by refine ae ?_ ?_;(exact(ag 5 (pv 5)));(exact(by refine ae ?_ ?_;(exact(ag 7 (pv 7)));(exact ah)))))))))) aj)
       ·refine cU 4 ?_;refine ar ?_ ?_
        ·refine dM ?_ ?_ ?_
         ·exact(bJ (C7 hu) (aJ aU (ag 6 (pv 6)) (aV (yG rfl) rfl T.b_sum xv (ae (bR (N':=["tile"]) (CompSc.fit (sc:=ak m9) (N:=["script","most","colours","house","hand","jokers","total_v","laying","rest","k","other","gain"]) 0x62) 0x3 rfl (dS (ag 8 (pv 8))) (aG 0) (bf 0x3) (λo o o o=>(gq (i:=0) 0x63)) (λo o o o=>dk) (λo o o o=>(aZ (ag 0 (pv 0)) aj))) ah))) (aV (yG rfl) rfl T.b_sum xv (ae (bR (N':=["tile"]) (CompSc.fit (sc:=ak m9) (N:=["script","most","colours","house","hand","jokers","total_v","laying","rest","k","other","gain"]) 0x62) 0x3 rfl (dS (ag 4 (pv 4))) (aG 0) (bf 0x3) (λo o o o=>(gq (i:=0) 0x63)) (λo o o o=>dk) (λo o o o=>(aZ (ag 0 (pv 0)) aj))) ah)))
         ·refine az ?_;exact aS oP
         ·exact cE
        ·refine ar ?_ ?_
         ·refine dC B? rfl ?_ (gq (i:=9) (by exact nd)) (aG 9) ?_
          ·exact(lH T.b_range (ae aj ah))
          ·refine cU 4 ?_;refine ar ?_ ?_
           ·refine aH (i:=10) ?_ ?_
            ·exact nd
            ·exact(aM (fZ.mono 0x3) hr (by refine ae ?_ ?_;(exact(ag 0 (pv 0)));(exact(by refine ae ?_ ?_;(exact(aJ aU aj (aJ gk aj (ag 9 (pv 9)))));(exact(by refine ae ?_ ?_;(exact(ag 1 (pv 1)));(exact(by refine ae ?_ ?_;(exact(ag 2 (pv 2)));(exact(by refine ae ?_ ?_;(exact(ag 4 (pv 4)));(exact(by refine ae ?_ ?_;(exact(ag 5 (pv 5)));(exact ah)))))))))))))
           ·refine Hr 4 10 ?_;refine ar ?_ ?_
            ·refine aH (i:=11) ?_ ?_
             ·exact nd
             ·exact(by refine eX (pL.mono 0x3) hr nQ ?_;exact(by refine ae ?_ ?_;(exact(ag 3 (pv 3)));(exact(by refine ae ?_ ?_;(exact(ag 4 (pv 4)));(exact(by refine ae ?_ ?_;(exact(ag 5 (pv 5)));(exact(by refine ae ?_ ?_;(exact(ag 10 (pv 10)));(exact ah)))))))))
            ·refine az ?_;refine dM ?_ ?_ ?_
             ·exact(zB.pb (zw (ix (ou (aM (jc.mono 0x3) hr (ae (ag 11 (pv 11)) ah)))) (zw (bJ wW (ag 11 (pv 11)) (ag 6 (pv 6))) (yH (zB.pb (yr (bJ (lE hu) (ag 11 (pv 11)) (ag 6 (pv 6))) (uJ (bJ (Km hu) (ag 10 (pv 10)) (ag 7 (pv 7))))))))))
             ·refine az ?_;exact aS oP
             ·exact cE
         ·refine az ?_;exact aS oP
end
abbrev mX(h:List Tl):Option DV:=a! (.d (.list (h.map pr)))
abbrev ve(L:List Ml):Option DV:=a! (.d (.list (L.map md)))
noncomputable abbrev nm(i:Int):Option DV:=a! (.d (.int i))
def qδ(K:Oe)(ns:List Int)(C:c!)(m c:Nat)(x4 x5 x6 x7 x8 x9 OW RM:Option DV):DS:=[a! (.scr K ns),nm m,nm c,a! (hs C m c),x4,x5,x6,x7,x8,x9,OW,RM]
def xK(a:Int):jD d! (.d (.int a)) (.d (.int a))=rt (.d (.bool e!)):=by show rt (DV.d (.bool (!i? (.int a) (.int a))))=_;rw[JH,Oz rfl];rfl
def NI{fa fb fc fd fe ff:DS->M DV}{δ:DS}{x y z u v w:DV}(h1:fa δ=rt x)(h2:fb δ=rt y)(h3:fc δ=rt z)(h4:fd δ=rt u)(h5:fe δ=rt v)(h6:ff δ=rt w):aa fa (aa fb (aa fc (aa fd (aa fe (aa ff ai))))) δ=rt [x,y,z,u,v,w]:=by have:=NA h2 h3 h4 h5 h6;unfold aa at this ⊢;rw[h1,aD,this];rfl
section
variable{K:Oe}{ns:List Int}{C Eh El:c!}{m c:Nat}{h:List Tl}{j:Int}
def E6{δ:DS}{L:List Ml}{fa fb fc fd:DS->M DV}(H:Hand m c h j)(LO:Lay m c L)(hj:0<=jl h j (L.map tl).flatten)(ha:fa δ=rt (hs C m c))(hb:fb δ=rt (.d (.list (h.map pr))))(hc:fc δ=rt (.d (.int j)))(hd:fd δ=rt (.d (.list (L.map md)))):
  aN (dD 4 (jn C Eh El)) (aa fa (aa fb (aa fc (aa fd ai)))) δ=rt (.d (.int (aX h-aX (aq h (L.map tl).flatten)))):=
 eJ (n:=4) (Lf (x:=hs C m c) (y:=.d (.list (h.map pr))) (z:=.d (.int j)) (u:=.d (.list (L.map md))) ha hb hc hd) rfl rfl (G3 C Eh El H LO hj)
end
theorem rH:∀{L:List Ml},(∀y∈L,3<=(tl y).length)->3*L.length<=(L.map tl).flatten.length
 |[],_=>N6 _
 |y::L,h=>by have h1:=h y N2;have h2:=rH (L:=L) λz hz=>h z (N1 _ hz);rw[f?,x?,l!,i!];lia
def ye{h:List Tl}{j:Int}{L:List Ml}(hj:0<=jl h j (L.map tl).flatten)(h3:∀y∈L,3<=(tl y).length):3*(L.length:Int)<=(h.length:Int)+j:=by have:=rH h3;unfold jl at hj;lia
def Jj(P:g?)(w:q?)(K:Oe)(C CT Oa Ob Oc:c!)(ns:List Int)(_:ns.length<=63):sR P w K C CT Oa Ob Oc (mR P w CT 12) [.scr K ns]=rt (.d (.bool d!)):=by
 obtain⟨m',c',eh,g1,g2,g3,g4⟩:=FP K ns;obtain⟨m,em⟩:=X2 (show 0<=m' by lia);obtain⟨c,ec⟩:=X2 (show 0<=c' by lia);subst em ec;have hm:m<=13:=by lia
 have hc:c<=4:=by lia
 have Ri:1<=c:=by lia
 obtain⟨h,e1,l1,t1,d1,o1⟩:=xO K ns m c 2 10 0x3 0x3 0x3 0x1 0x1 0x1 0x1;obtain⟨j,ej,j0,j2⟩:=KU K ns h;have H:Hand m c h j:=⟨0x1,j0,j2,t1,d1,Ey o1⟩;have HQ:zW h:=⟨0x1,o1,λp hp=>by have:=t1 p hp;unfold bt at this;simp only[k?,decide_eq_true_eq]at this;lia⟩
 have DB:=Ks hm Ri hc H;have hbl:=Jb hm Ri hc H;have LB:=DB.lay hm Ri hc hbl;have A_:=(wG hm Ri hc H).1;have eG:GW m c h j=aX h-dA (lx m c h j) h j:=rfl;have eW:aX h-aX (aq h ((BL m c h j).map tl).flatten)=GW m c h j:=by rw[A_,eG]
 have hb5:(BL m c h j).length<=5:=by have hn:=ye DB.jok (λy hy=>(lZ hm Ri hc (Oh.mpr ⟨y,DB.mem y hy,rfl⟩)).1);lia
 have ld:∃a b,bP [.d (.list (h.map pr)),.d (.list ((BL m c h j).map md))]=rt (.d (.tuple [.int (GW m c h j),a,b])):=by obtain⟨ks,KO,e⟩:=C5 (m:=m) (c:=c) HQ (L:=BL m c h j) ⟨λy hy=>(qD hm Ri hc (DB.mem y hy)).1,hb5⟩;rw[JP KO,Ap]at e;have e':(h.map (·.1)).sum-((aq h ((BL m c h j).map tl).flatten).map (·.1)).sum=GW m c h j:=eW;rw[e']at e;exact⟨_,_,e⟩
 obtain⟨la,lb,ld⟩:=ld;have TC:(aq h ((BL m c h j).map tl).flatten).length<=1000:=Ow (iC _ h).1 0x1;unfold sR;refine dE (x:=.d (.bool d!)) ?_;unfold HP;refine f9 (δ':=[a! (.scr K ns),a! (.d (.int (m:Int))),a! (.d (.int (c:Int))),b!,b!,b!,b!,b!,b!,b!,b!,b!]) (Ct (x:=.d (.tuple [.int (m:Int),.int (c:Int)])) (aY (a9 rfl) rfl rfl eh) rfl rfl) ?_;refine f9 (δ':=qδ K ns C m c b! b! b! b! b! b! b! b!) (eT (x:=hs C m c) (NK rfl rfl g1 g2 g3 g4) rfl rfl) ?_;refine f9 (δ':=qδ K ns C m c (a! (.own (h.map pr))) b! b! b! b! b! b! b!) (eT (x:=.new (h.map pr)) (aY (n:=5) (NA (x:=.scr K ns) (y:=.d (.int 2)) (z:=.d (.int (m:Int))) (u:=.d (.int (c:Int))) (v:=.d (.int 10)) rfl rfl rfl rfl rfl) rfl rfl e1) rfl rfl) ?_;change bD _ _ (qδ K ns C m c (mX h) b! b! b! b! b! b! b!)=_;refine f9 (δ':=qδ K ns C m c (mX h) (nm j) b! b! b! b! b! b!) (eT (x:=.d (.int j)) (aY (n:=2) (bS (x:=.scr K ns) (y:=.d (.list (h.map pr))) rfl rfl) rfl rfl ej) rfl rfl) ?_;change bD _ _ (qδ K ns C m c (mX h) (nm j) b! b! b! b! b! b!)=_;refine f9 (δ':=qδ K ns C m c (mX h) (nm j) (nm (GW m c h j)) (ve (BL m c h j)) b! b! b! b!) (Ct (x:=.nwt [.int (GW m c h j)] ((BL m c h j).map md) []) (eJ (n:=3) (gY (x:=hs C m c) (y:=.d (.list (h.map pr))) (z:=.d (.int j)) rfl rfl rfl) rfl rfl (Gv hm Ri hc H)) rfl rfl) ?_;change bD _ _ (qδ K ns C m c (mX h) (nm j) (nm (GW m c h j)) (ve (BL m c h j)) b! b! b! b!)=_;refine f9 (δ':=qδ K ns C m c (mX h) (nm j) (nm (GW m c h j)) (ve (BL m c h j)) b! b! b! b!) (G9 (C8 (bj ((av (x:=.d (.int (GW m c h j))) (y:=.d (.int (GW m c h j))) ((E6 H LB DB.jok rfl rfl rfl rfl).trans (by rw[eW])) rfl).trans (xK _))) (bj ((av (x:=.d (.int (GW m c h j))) (y:=.d (.int (GW m c h j))) ((av (x:=.d (.tuple [.int (GW m c h j),la,lb])) (y:=.d (.int 0)) (aY (n:=2) (bS (x:=.d (.list (h.map pr))) (y:=.d (.list ((BL m c h j).map md))) rfl rfl) rfl rfl ld) rfl).trans (aL rfl)) rfl).trans (xK _)))) rfl) ?_;change bD _ _ (qδ K ns C m c (mX h) (nm j) (nm (GW m c h j)) (ve (BL m c h j)) b! b! b! b!)=_;refine f9 (δ':=qδ K ns C m c (mX h) (nm j) (nm (GW m c h j)) (ve (BL m c h j)) (mX (aq h ((BL m c h j).map tl).flatten)) b! b! b!) (eT (x:=.d (.list ((aq h ((BL m c h j).map tl).flatten).map pr))) ((av (x:=.d (.tuple [.list ((aq h ((BL m c h j).map tl).flatten).map pr),.int (jl h j ((BL m c h j).map tl).flatten)])) (y:=.d (.int 0)) ?_ rfl).trans (aL rfl)) rfl rfl) ?_
 ·exact(congrArg (λz=>bd z λx=>rt (Aw x)) (eJ (n:=4) (Lf (x:=hs C m c) (y:=.d (.list (h.map pr))) (z:=.d (.int j)) (u:=.d (.list ((BL m c h j).map md))) rfl rfl rfl rfl) rfl rfl (Ef C Oa Oc H LB DB.jok))).trans rfl
 change bD _ _ (qδ K ns C m c (mX h) (nm j) (nm (GW m c h j)) (ve (BL m c h j)) (mX (aq h ((BL m c h j).map tl).flatten)) b! b! b!)=_;refine f9 (δ':=qδ K ns C m c (mX h) (nm j) (nm (GW m c h j)) (ve (BL m c h j)) (mX (aq h ((BL m c h j).map tl).flatten)) b! b! b!) (G9 (bj ((av (x:=.d (.int (aX h))) (y:=.d (.int (aX h))) ((av (x:=.d (.int (GW m c h j))) (y:=.d (.int (aX (aq h ((BL m c h j).map tl).flatten)))) rfl (CK rfl TC)).trans ((bh _ _).trans (by rw[<-eW,Int.sub_add_cancel]))) (CK rfl 0x1)).trans (xK _))) rfl) ?_;refine MK (I:=λδ=>∃x9 OW RM,δ=qδ K ns C m c (mX h) (nm j) (nm (GW m c h j)) (ve (BL m c h j)) (mX (aq h ((BL m c h j).map tl).flatten)) x9 OW RM) (xs:=dc 0 3) ((ir (j:=3) (a9 rfl) 0x3 0x3).trans rfl) ⟨b!,b!,b!,rfl⟩ (λx hx δ hI=>?_) λδ hI=>bC rfl;obtain⟨x9,OW,RM,rfl⟩:=hI;obtain⟨k,hk,rfl⟩:∃k:Int,(0<=k/\k<=2)/\x=.int k:=by unfold dc at hx;obtain⟨i,hi,rfl⟩:=Oh.mp hx;have:=Oj.mp hi;exact⟨_,0x1,rfl⟩
 obtain⟨L,z,ez,hz,D,hl4⟩:=DT (K:=K) (ns:=ns) (st:=10+4*k) 0x1 hm Ri hc HQ j0;have LO:=D.lay hm Ri hc 0x1;obtain⟨b1,b2⟩:=Cm hm Ri hc H D;refine⟨qδ K ns C m c (mX h) (nm j) (nm (GW m c h j)) (ve (BL m c h j)) (mX (aq h ((BL m c h j).map tl).flatten)) (nm k) (ve L) (nm (aX h-aX (aq h (L.map tl).flatten))),?_,_,_,_,rfl⟩;change bD _ _ (qδ K ns C m c (mX h) (nm j) (nm (GW m c h j)) (ve (BL m c h j)) (mX (aq h ((BL m c h j).map tl).flatten)) (nm k) OW RM)=_;have VR:∃y,(y=.own (L.map md)\/y=.d (.list (L.map md)))/\uE z=a! y:=by
  obtain e|e:=hz
  ·exact⟨_,.inl rfl,by rw[e];rfl⟩
  ·exact⟨_,.inr rfl,by rw[e];rfl⟩
 obtain⟨y,hy,ha⟩:=VR;refine f9 (δ':=qδ K ns C m c (mX h) (nm j) (nm (GW m c h j)) (ve (BL m c h j)) (mX (aq h ((BL m c h j).map tl).flatten)) (nm k) (a! y) RM) (eT (x:=z) (aY (n:=6) (NI (x:=.scr K ns) (y:=.d (.int (10+4*k))) (z:=.d (.int (m:Int))) (u:=.d (.int (c:Int))) (v:=.d (.list (h.map pr))) (w:=.d (.int j)) rfl ((av (x:=.d (.int 10)) (y:=.d (.int (4*k))) rfl ((av (x:=.d (.int 4)) (y:=.d (.int k)) rfl rfl).trans (eM (by unfold uR;rfl)))).trans (bh _ _)) rfl rfl rfl rfl) rfl rfl ez) ha rfl) ?_;have VU:frz 4 (frz 10 (qδ K ns C m c (mX h) (nm j) (nm (GW m c h j)) (ve (BL m c h j)) (mX (aq h ((BL m c h j).map tl).flatten)) (nm k) (a! y) RM))=qδ K ns C m c (mX h) (nm j) (nm (GW m c h j)) (ve (BL m c h j)) (mX (aq h ((BL m c h j).map tl).flatten)) (nm k) (ve L) RM:=by obtain e|e:=hy <;>rw[e] <;>rfl
 show bD _ _ (frz 4 (frz 10 _))=_;rw[VU];refine f9 (δ':=qδ K ns C m c (mX h) (nm j) (nm (GW m c h j)) (ve (BL m c h j)) (mX (aq h ((BL m c h j).map tl).flatten)) (nm k) (ve L) (nm (aX h-aX (aq h (L.map tl).flatten)))) (eT (x:=.d (.int (aX h-aX (aq h (L.map tl).flatten)))) (E6 H LO D.jok rfl rfl rfl rfl) rfl rfl) ?_;refine G9 (C8 (u5 (bj (aY (n:=1) (a9 (x:=.d (.int (aX h-aX (aq h (L.map tl).flatten)))) rfl) rfl rfl (show gE [.d (.int (aX h-aX (aq h (L.map tl).flatten)))]=rt (.d (.bool d!))from rfl))) rfl) (C8 (bj ((av (x:=.d (.int (aX h-aX (aq h (L.map tl).flatten)))) (y:=.d (.int (GW m c h j))) rfl rfl).trans ((jq _ _).trans (by rw[Oy 0x1])))) ?_)) rfl;have t1:(λδ=>bd (e2 (jD e!) (af 11) (af 6) δ) bQ) (qδ K ns C m c (mX h) (nm j) (nm (GW m c h j)) (ve (BL m c h j)) (mX (aq h ((BL m c h j).map tl).flatten)) (nm k) (ve L) (nm (aX h-aX (aq h (L.map tl).flatten))))=rt (aX h-aX (aq h (L.map tl).flatten)==GW m c h j):=
  bj ((av (x:=.d (.int (aX h-aX (aq h (L.map tl).flatten)))) (y:=.d (.int (GW m c h j))) rfl rfl).trans (k6 _ _))
 by_cases he:aX h-aX (aq h (L.map tl).flatten)=GW m c h j
 ·rw[show(aX h-aX (aq h (L.map tl).flatten)==GW m c h j)=d! by rw[he];exact beq_self_eq_true _]at t1;refine Ae t1 (bj ((av (x:=.d (.list (L.map md))) (y:=.d (.list ((BL m c h j).map md))) rfl rfl).trans ?_));show(if l? (L.map md)<=60 then bd (op (cL d! (L.map md) ((BL m c h j).map md))) (λk=>rt (DV.d (.bool k)))else b!)=_;rw[é (Ow (LV (Ge L)) 0x3),Ee,b2 he];rfl
 ·rw[show(aX h-aX (aq h (L.map tl).flatten)==GW m c h j)=e! from beq_false_of_ne he]at t1;exact CF t1
def sT:∀{us:List b?},us.length=n+1->∃a r,us=a::r/\r.length=n:=λ{us} h=>by cases us with|nil=>cases h|cons a r=>exact⟨a,r,rfl,Nat.succ.inj h⟩
variable{us:List b?}
def qU(h:us.length=1):∃a0,us=[a0]:=by obtain⟨a0,r,e,h1⟩:=sT h;subst e;cases OG h1;exact⟨a0,rfl⟩
def ro(h:us.length=2):∃a0 a1,us=[a0,a1]:=by obtain⟨a0,r,e,h1⟩:=sT h;subst e;obtain⟨a1,rfl⟩:=qU h1;exact⟨a0,a1,rfl⟩
def o4(h:us.length=3):∃a0 a1 a2,us=[a0,a1,a2]:=by obtain⟨a0,r,e,h1⟩:=sT h;subst e;obtain⟨a1,a2,rfl⟩:=ro h1;exact⟨a0,a1,a2,rfl⟩
def CQ(h:us.length=4):∃a0 a1 a2 a3,us=[a0,a1,a2,a3]:=by obtain⟨a0,r,e,h1⟩:=sT h;subst e;obtain⟨a1,a2,a3,rfl⟩:=o4 h1;exact⟨a0,a1,a2,a3,rfl⟩
def Ly(h:us.length=5):∃a0 a1 a2 a3 a4,us=[a0,a1,a2,a3,a4]:=by obtain⟨a0,r,e,h1⟩:=sT h;subst e;obtain⟨a1,a2,a3,a4,rfl⟩:=CQ h1;exact⟨a0,a1,a2,a3,a4,rfl⟩
def MW(h:us.length=6):∃a0 a1 a2 a3 a4 a5,us=[a0,a1,a2,a3,a4,a5]:=by obtain⟨a0,r,e,h1⟩:=sT h;subst e;obtain⟨a1,a2,a3,a4,a5,rfl⟩:=Ly h1;exact⟨a0,a1,a2,a3,a4,a5,rfl⟩
abbrev sO:U!:=mS (jE 14) 0
def NP:FnScope ["self","most","colours"] ["self","most","colours"] (ak sO):=⟨rfl,rfl,rfl,0x2,rfl,0x2,0x2⟩
section
variable{P:g?}{w:q?}{K:Oe}{mg:w?->Option b?}{base:F!}
def zu{H:Hp}{p:V}{m c:Int}:RS [] [] H [a! p,a! (.int m),a! (.int c)] [b!,a! (.d (.int m)),a! (.d (.int c))]:=by
 refine⟨rfl,λa ha=>(nomatch ha),λa ha=>(nomatch ha),λi x h=>?_,λi j x y v w a h1 h2 h3 h4 o1 o2=>?_⟩
 ·match i with
  |0=>cases h
  |1=>cases h;exact⟨_,rfl,λo=>nofun,.int m⟩
  |2=>cases h;exact⟨_,rfl,λo=>nofun,.int c⟩
  |i+3=>simp at h
 ·match i with
  |0=>cases h1
  |1=>cases h1;exact o1.elim
  |2=>cases h1;exact o1.elim
  |i+3=>simp at h1
def GG{f CB:c!}{fd:W'}(Fu:Fun K "__init__" "House.__init__" sO f fd)(T:Tx K mg C)(O:Xc K mg "BadHouse" CB):FnOk P w K mg base (yw P w) 1 f fd ["self","most","colours"] (NH C CB good "most" "colours"):=by
 obtain⟨oc,od,kV,s_,pm,an,OJ,ct,QY,rfl,lk,QG⟩:=Fu.ex;refine E4 (k:=0) lk QG NP (λvs H Q E h=>?_) λA bn s H vs Q E hr h=>?_
 ·obtain⟨p,dx,m,c,rfl,_⟩:=h;rfl
 ·obtain⟨p,dx,m,c,rfl,hp,k⟩:=h;have hu:=dB hr;have mk:zd (fF (yw P w) P w K mg base ["self","most","colours"] "House.__init__" (ak sO) f OJ A bn s H E) E:=⟨hr.hd,λa_ σ H1 s1 h1 e cls vs I hm hE=>Ao I hm hE⟩;refine⟨_,gh (zC (ix (qY (E:=E0) (fO hu) (fO hu) (jC T.i_LEAST_NUMBERS) (ag 1 (pv 1)) (jC T.i_MOST_NUMBERS))) (gf (qk mk O)) pI)
   (gh (zC (ix (qY (E:=E0) (fO hu) (fO hu) (jC T.i_LEAST_COLOURS) (ag 2 (pv 2)) (jC T.i_MOST_COLOURS))) (gf (qk mk O)) pI)
   (gh (vp (pv 0) (pv 1) rfl) (gf (vp (pv 0) (pv 2) rfl)))),?_⟩
  refine⟨[],[],_,.ok (!(g! (3<=m)&&g! (m<=13))),zu,?_,λH1 s1=>?_⟩
  ·unfold hJ BR;by_cases h3:3<=m <;>by_cases RD:m<=13 <;>simp[eC,af,rt,bd,op,bQ,h3,RD]
  by_cases g1:(g! (3<=m)&&g! (m<=13))=d!
  ·rw[g1];refine xH ?_;refine⟨[],[],_,.ok (!(g! (1<=c)&&g! (c<=4))),zu,?_,λH2 s2=>?_⟩
   ·unfold hJ BR;by_cases h3:1<=c <;>by_cases RD:c<=4 <;>simp[eC,af,rt,bd,op,bQ,h3,RD]
   have kk:=k H2 (s1.trans s2);by_cases g2:(g! (1<=c)&&g! (c<=4))=d!
   ·rw[g2];refine xH ?_;rw[é (by unfold good;rw[g1,g2];rfl)]at kk;refine⟨_,rfl,_,rfl,p,C,dx,[],rfl,s2 _ _ (s1 _ _ hp),T.cl,T.n_most,0x3,?_⟩;exact⟨_,rfl,_,rfl,p,C,dx,_,rfl,aQ,T.cl,T.n_colours,by show 1<1000;decide,kk⟩
   ·have g2':(g! (1<=c)&&g! (c<=4))=e!:=by simpa using g2
    rw[g2'];refine yT ?_;rwa[è (by unfold good;rw[g1,g2'];simp)]at kk
  ·have g1':(g! (3<=m)&&g! (m<=13))=e!:=by simpa using g1
   rw[g1'];refine yT ?_;have kk:=k H1 s1;rwa[è (by unfold good;rw[g1'];simp)]at kk
end
abbrev iZ(x y:w?)(st:U!)(ps:List w?):Prop:=∀(kV s_ pm:b?)(an:Option c!)(OJ ct:b?)(us:List b?),us.length=ps.length->ϻ (W7 x y (eV st) (dI st) (ak st) .none kV s_ pm an OJ ct) ⟨us,[]⟩=Xo (ps.zip us)
variable{h:F!}{x:w?}{f:c!}
def Lg{oc:b?}{od an:Option c!}{QY:Array (Option b?)}{kV s_ pm OJ ct:b?}(X:K.In h)(G:h.Ns O! mg)(a:Yi K O! x=a! (a! (.ref f)))(l:K.lookup f=a! ⟨oc,od,.func (W7 x x (eV st) (dI st) (ak st) .none kV s_ pm an OJ ct),QY⟩)(c:XS K OJ x=d!)(k:P! K (.ref f)=d!)(hb:iZ x x st ps):Df K mg x st ps:=⟨f,_,l5 l c k,YT X G a,(l5 l c k).binds hb⟩
def j5{i:Int}{t:Tok}(X:K.In h)(G:h.Ns O! mg)(a:Yi K O! x=a! (a! (.int i t))):∃t,mg x=a! (.int i t):=⟨t,YT X G a⟩
def CZ(X:K.In h)(G:h.Ns O! mg)(a:Yi K O! x=a! (a! (.ref C)))(e:Yu K C [.type "ValueError",.type "Exception",.type "BaseException",.type "object"] "ValueError.__new__" = d!):Xc K mg x C:=⟨YT X G a,e⟩
def yP:iZ "is_tile" "is_tile" iU ["house","tile"]:=λo o o o o o us hl=>by obtain⟨a0,a1,rfl⟩:=ro hl;rfl
def qc:iZ "is_in_order" "is_in_order" dv ["row"]:=λo o o o o o us hl=>by obtain⟨a0,rfl⟩:=qU hl;rfl
def xw:iZ "is_hand" "is_hand" gL ["house","hand","jokers"]:=λo o o o o o us hl=>by obtain⟨a0,a1,a2,rfl⟩:=o4 hl;rfl
def rY:iZ "check_hand" "check_hand" fB ["house","hand","jokers"]:=λo o o o o o us hl=>by obtain⟨a0,a1,a2,rfl⟩:=o4 hl;rfl
def Bc:iZ "is_run" "is_run" kn ["house","colour","first","size"]:=λo o o o o o us hl=>by obtain⟨a0,a1,a2,a3,rfl⟩:=CQ hl;rfl
def vR:iZ "is_group" "is_group" eO ["house","number","colours"]:=λo o o o o o us hl=>by obtain⟨a0,a1,a2,rfl⟩:=o4 hl;rfl
def xF:iZ "is_meld" "is_meld" iX ["house","meld"]:=λo o o o o o us hl=>by obtain⟨a0,a1,rfl⟩:=ro hl;rfl
def wZ:iZ "tiles_of" "tiles_of" eL ["house","meld"]:=λo o o o o o us hl=>by obtain⟨a0,a1,rfl⟩:=ro hl;rfl
def mK:iZ "colour_choices" "colour_choices" bV ["house"]:=λo o o o o o us hl=>by obtain⟨a0,rfl⟩:=qU hl;rfl
def sk:iZ "all_groups" "all_groups" d5 ["house"]:=λo o o o o o us hl=>by obtain⟨a0,rfl⟩:=qU hl;rfl
def v9:iZ "all_runs" "all_runs" fP ["house"]:=λo o o o o o us hl=>by obtain⟨a0,rfl⟩:=qU hl;rfl
def DJ:iZ "melds" "melds" mU ["house"]:=λo o o o o o us hl=>by obtain⟨a0,rfl⟩:=qU hl;rfl
def DR:iZ "total" "total" lu ["tiles"]:=λo o o o o o us hl=>by obtain⟨a0,rfl⟩:=qU hl;rfl
def yK:iZ "lay_out" "lay_out" iV ["tiles","jokers","wanted"]:=λo o o o o o us hl=>by obtain⟨a0,a1,a2,rfl⟩:=o4 hl;rfl
def l4:iZ "tiles_of_laying" "tiles_of_laying" cK ["house","laying"]:=λo o o o o o us hl=>by obtain⟨a0,a1,rfl⟩:=ro hl;rfl
def Gw:iZ "left" "left" qd ["house","hand","jokers","laying"]:=λo o o o o o us hl=>by obtain⟨a0,a1,a2,a3,rfl⟩:=CQ hl;rfl
def EZ:iZ "worth" "worth" nv ["house","hand","jokers","laying"]:=λo o o o o o us hl=>by obtain⟨a0,a1,a2,a3,rfl⟩:=CQ hl;rfl
def nF:iZ "playable_melds" "playable_melds" bT ["house","hand","jokers"]:=λo o o o o o us hl=>by obtain⟨a0,a1,a2,rfl⟩:=o4 hl;rfl
def oZ:iZ "first_laying" "first_laying" dQ ["table","playable","hand","jokers"]:=λo o o o o o us hl=>by obtain⟨a0,a1,a2,a3,rfl⟩:=CQ hl;rfl
def Gr:iZ "best" "best" qt ["house","hand","jokers"]:=λo o o o o o us hl=>by obtain⟨a0,a1,a2,rfl⟩:=o4 hl;rfl
def pq:iZ "_law_cell_at" "_law_cell_at" dX ["script","k"]:=λo o o o o o us hl=>by obtain⟨a0,a1,rfl⟩:=ro hl;rfl
def wx:iZ "_law_mix" "_law_mix" hG ["cell","k","many"]:=λo o o o o o us hl=>by obtain⟨a0,a1,a2,rfl⟩:=o4 hl;rfl
def sj:iZ "_law_whole" "_law_whole" fu ["found"]:=λo o o o o o us hl=>by obtain⟨a0,rfl⟩:=qU hl;rfl
def nT:iZ "_law_house_by" "_law_house_by" dt ["script"]:=λo o o o o o us hl=>by obtain⟨a0,rfl⟩:=qU hl;rfl
def o6:iZ "_law_trimmed" "_law_trimmed" dN ["tiles","limit"]:=λo o o o o o us hl=>by obtain⟨a0,a1,rfl⟩:=ro hl;rfl
def ph:iZ "_law_hand_by" "_law_hand_by" cC ["script","start","most","colours","limit"]:=λo o o o o o us hl=>by obtain⟨a0,a1,a2,a3,a4,rfl⟩:=Ly hl;rfl
def mW:iZ "_law_jokers_by" "_law_jokers_by" c8 ["script","hand"]:=λo o o o o o us hl=>by obtain⟨a0,a1,rfl⟩:=ro hl;rfl
def se:iZ "_law_tiles" "_law_tiles" dm ["meld"]:=λo o o o o o us hl=>by obtain⟨a0,rfl⟩:=qU hl;rfl
def sm:iZ "_law_melds" "_law_melds" cR ["most","colours"]:=λo o o o o o us hl=>by obtain⟨a0,a1,rfl⟩:=ro hl;rfl
def uB:iZ "_law_laid" "_law_laid" gm ["hand","laying"]:=λo o o o o o us hl=>by obtain⟨a0,a1,rfl⟩:=ro hl;rfl
def m7:iZ "_law_laying_by" "_law_laying_by" cw ["script","start","most","colours","hand","jokers"]:=λo o o o o o us hl=>by obtain⟨a0,a1,a2,a3,a4,a5,rfl⟩:=MW hl;rfl
def mP:iZ "tiles_by_least" "tiles_by_least" cY ["playable"]:=λo o o o o o us hl=>by obtain⟨a0,rfl⟩:=qU hl;rfl
def HK:iZ "ways" "Table.ways" j8 ["self","tiles","jokers"]:=λo o o o o o us hl=>by obtain⟨a0,a1,a2,rfl⟩:=o4 hl;rfl
def rU:iZ "least_left" "Table.least_left" d4 ["self","tiles","jokers"]:=λo o o o o o us hl=>by obtain⟨a0,a1,a2,rfl⟩:=o4 hl;rfl
def pB:iZ "search_least" "Table.search_least" c0 ["self","tiles","jokers"]:=λo o o o o o us hl=>by obtain⟨a0,a1,a2,rfl⟩:=o4 hl;rfl
def Jn:iZ "__init__" "Table.__init__" Bh ["self","playable"]:=λo o o o o o us hl=>by obtain⟨a0,a1,rfl⟩:=ro hl;rfl
def Ag.none{P:g?}{w:q?}{K:Oe}{mg:w?->Option b?}{base:F!}{C:c!}{m ql:w?}{st:U!}{ps:List w?}{k n:Nat}(D:Ag K C m ql st ps)(no:∀v u:V,([("by_least",v),("known",u)]:List (w?×V)).lookup m=b!):HasM P w K mg base k C m n (λo=>b!):=by obtain⟨f,fd,Fu,hm,hb⟩:=D;exact⟨⟨f,fd,ps,⟨λvs H Q E ⟨_,_,_,_,_,_,e,_⟩=>(nomatch e),λA bn s H args us vs Q E _ _ _ _ ⟨_,_,_,_,_,_,e,_⟩=>(nomatch e)⟩,hm,hb⟩,no⟩
theorem DP{P:g?}{w:q?}{K:Oe}{mg:w?->Option b?}{base:F!}{C CT Oa Ob Oc Od:c!}(T:Tx K mg C)(R:Rx K mg Oa Ob Oc Od)(TT:Tt K CT)(Dw:Ag K CT "ways" "Table.ways" j8 ["self","tiles","jokers"])(Dl:Ag K CT "least_left" "Table.least_left" d4 ["self","tiles","jokers"])(Ds:Ag K CT "search_least" "Table.search_least" c0 ["self","tiles","jokers"])(Qt:Has P w K mg base 1 "lay_out" 3 bN):∀n:Nat,HasM P w K mg base (2*n+11) CT "least_left" 3 (mR P w CT n)
 |0=>(bY (k:=0) (m_search_least:=λo=>b!) T R TT Dl (Ds.none (Aj 0x2 0x2))).imp (N6 _) λo o h=>FL h
 |n+1=>by have h1:=(DP T R TT Dw Dl Ds Qt n).imp (k:=2*n+1+10) 0x1 λo o h=>h;have hw:=(yJ (k:=2*n) T R TT Dw Qt).imp (k:=2*n+1+10) 0x1 λo o h=>h;have h2:=(gO (k:=2*n+1) T R TT Ds h1 hw).imp (k:=2*n+2+10) 0x1 λo o h=>Gg h;exact(bY (k:=2*n+2) T R TT Dl h2).imp 0x1 λo o h=>Fq h
def F6:iZ "__init__" "House.__init__" sO ["self","most","colours"]:=λo o o o o o us hl=>by obtain⟨a0,a1,a2,rfl⟩:=o4 hl;rfl
def zY(K:Oe):Sp:=λvs H Q o=>∃(a:c!)(ns:List Int),vs=[.ref a]/\gu K H a (ns.map V.int)/\ns.length<=63/\∀H',Q (.bl d!) H'
def JD{Oa Ob Oc Od fI:c!}{fdI:W'}{CT fT:c!}{fdT:W'}(TT:Tt K CT)(hTM:Mk K CT fT)(FT:Fun K "__init__" "Table.__init__" Bh fT fdT)(hCT:mg "Table" = a! (.ref CT))(DM0:Ag K CT "ways" "Table.ways" j8 ["self","tiles","jokers"])(DM1:Ag K CT "least_left" "Table.least_left" d4 ["self","tiles","jokers"])(DM2:Ag K CT "search_least" "Table.search_least" c0 ["self","tiles","jokers"])(T:Tx K mg C)(R:Rx K mg Oa Ob Oc Od)(OB:Xc K mg "BadHouse" Ob)(hM:Mk K C fI)(FI:Fun K "__init__" "House.__init__" sO fI fdI)(hC:mg "House" = a! (.ref C))(D0:Df K mg "is_tile" iU ["house","tile"])(D1:Df K mg "is_in_order" dv ["row"])(D2:Df K mg "is_hand" gL ["house","hand","jokers"])(D3:Df K mg "check_hand" fB ["house","hand","jokers"])(D4:Df K mg "is_run" kn ["house","colour","first","size"])(D5:Df K mg "is_group" eO ["house","number","colours"])(D6:Df K mg "is_meld" iX ["house","meld"])(D7:Df K mg "tiles_of" eL ["house","meld"])(D8:Df K mg "colour_choices" bV ["house"])(D9:Df K mg "all_groups" d5 ["house"])(D10:Df K mg "all_runs" fP ["house"])(D11:Df K mg "melds" mU ["house"])(D12:Df K mg "total" lu ["tiles"])(D13:Df K mg "lay_out" iV ["tiles","jokers","wanted"])(D14:Df K mg "tiles_of_laying" cK ["house","laying"])(D15:Df K mg "left" qd ["house","hand","jokers","laying"])(D16:Df K mg "worth" nv ["house","hand","jokers","laying"])(D17:Df K mg "playable_melds" bT ["house","hand","jokers"])(D18:Df K mg "first_laying" dQ ["table","playable","hand","jokers"])(D19:Df K mg "best" qt ["house","hand","jokers"])(D20:Df K mg "_law_cell_at" dX ["script","k"])(D21:Df K mg "_law_mix" hG ["cell","k","many"])(D22:Df K mg "_law_whole" fu ["found"])(D23:Df K mg "_law_house_by" dt ["script"])(D24:Df K mg "_law_trimmed" dN ["tiles","limit"])(D25:Df K mg "_law_hand_by" cC ["script","start","most","colours","limit"])(D26:Df K mg "_law_jokers_by" c8 ["script","hand"])(D27:Df K mg "_law_tiles" dm ["meld"])(D28:Df K mg "_law_melds" cR ["most","colours"])(D29:Df K mg "_law_laid" gm ["hand","laying"])(D30:Df K mg "_law_laying_by" cw ["script","start","most","colours","hand","jokers"])(D32:Df K mg "tiles_by_least" cY ["playable"]){fd:W'}(Fu:Fun K "law" "law" m9 f fd):FnOk P w K mg base ug 63 f fd ["script"] (F8 1 (sR P w K C CT Oa Ob Oc (mR P w CT 12))):=by have Qa:NG P w K mg base C Ob:=⟨⟨fI,fdI,_,hM,GG FI T OB,FI.binds F6,hC⟩⟩;have h0:=eR (P:=P) (w:=w) (base:=base) T R D0;have h1:=eF (P:=P) (w:=w) (base:=base) T R D1;have h2:=n8 (P:=P) (w:=w) (base:=base) T R D2  h0 h1;have h3:=fD (P:=P) (w:=w) (base:=base) T R D3  h2;have h4:=rh (P:=P) (w:=w) (base:=base) T R D4  h0;have h5:=mD (P:=P) (w:=w) (base:=base) T R D5  h0;have h6:=oH (P:=P) (w:=w) (base:=base) T R D6  h4 h5;have h7:=gW (P:=P) (w:=w) (base:=base) T R D7  h6;have h8:=fX (P:=P) (w:=w) (base:=base) T R D8;have h9:=jm (P:=P) (w:=w) (base:=base) T R D9  h8;have h10:=mq (P:=P) (w:=w) (base:=base) T R D10;have h11:=uF (P:=P) (w:=w) (base:=base) T R D11  h9 h10;have TF:=kS (P:=P) (w:=w) (base:=base) T R D12;have RD:=dz (P:=P) (w:=w) (base:=base) T R D13;have h14:=fy (P:=P) (w:=w) (base:=base) T R D14  h7 h1;have h15:=qT (P:=P) (w:=w) (base:=base) T R D15  h3 h14 RD;have h16:=pL (P:=P) (w:=w) (base:=base) T R D16  TF h15;have h17:=fU (P:=P) (w:=w) (base:=base) T R D17  h11 h7 RD;have hT0:=fS (P:=P) (w:=w) (base:=base) (Oa:=Oa) (Ob:=Ob) (Oc:=Oc) (Od:=Od) T R D32;have Wb:∀fM UM,HsT P w K mg base "Table" CT 2 fM UM:=λfM UM=>⟨⟨fT,fdT,_,hTM,IG T R TT hT0 FT,FT.binds Jn,hCT⟩⟩;have O5:=(DP (P:=P) (w:=w) (base:=base) T R TT DM0 DM1 DM2 RD 12).imp (k:=60) 0x3 λo o h=>h;have h18:=gT (P:=P) (w:=w) (base:=base) T R D18 TT O5 RD;have h19:=yD (P:=P) (w:=w) (base:=base) T R D19 TT Wb O5 h3 h17 TF h18;have UZ:=bq (P:=P) (w:=w) (base:=base) T R D20;have Wm:=bx (P:=P) (w:=w) (base:=base) T R D21;have h22:=jc (P:=P) (w:=w) (base:=base) T R D22;have h23:=gv (P:=P) (w:=w) (base:=base) T R D23  UZ Wm;have h24:=gP (P:=P) (w:=w) (base:=base) T R D24;have h25:=gQ (P:=P) (w:=w) (base:=base) T R D25  UZ Wm h24;have h26:=fY (P:=P) (w:=w) (base:=base) T R D26  UZ;have h27:=je (P:=P) (w:=w) (base:=base) T R D27;have h28:=jb (P:=P) (w:=w) (base:=base) T R D28;have h29:=eQ (P:=P) (w:=w) (base:=base) T R D29  h27;have h30:=fZ (P:=P) (w:=w) (base:=base) T R D30  h28 h29 UZ Wm;exact JK T R Fu Qa h23 h25 h26 h19 h16 h29 h15 h30 h22
def J5{C CT Oa Ob Oc Od:c!}{fd:W'}(Jj:∀ns:List Int,ns.length<=63->sR P w K C CT Oa Ob Oc (mR P w CT 12) [.scr K ns]=rt (.d (.bool d!)))(F:FnOk P w K mg base ug k f fd ps (F8 1 (sR P w K C CT Oa Ob Oc (mR P w CT 12)))):FnOk P w K mg base ug k f fd ps (zY K):=F.imp λvs H Q E ⟨a,ns,ev,hS,hl,hq⟩=>by subst ev;refine⟨rfl,[],[.scr K ns],_,λa ha=>(nomatch ha),.cons ⟨a,rfl,hS.imp (λz=>⟨nofun,z⟩) λz=>z⟩ .nil,Jj ns hl,λv H' o rv=>?_⟩;cases rv;exact hq H'
abbrev Dk(K:Oe)(x:w?)(st:U!):Prop:=∃(f:c!)(o:b?)(d:Option c!)(v e p:b?)(n:Option c!)(m t:b?)(s:Array (Option b?)),Yi K O! x=a! (a! (.ref f))/\K.lookup f=a! ⟨o,d,.func (W7 x x (eV st) (dI st) (ak st) .none v e p n m t),s⟩/\XS K m x=d!/\P! K (.ref f)=d!
abbrev BC(K:Oe)(C:c!)(x y:w?)(st:U!):Prop:=∃(f:c!)(o:b?)(d:Option c!)(v e p:b?)(n:Option c!)(m t:b?)(s:Array (Option b?)),E? K (.ref C) x=a! (a! (.ref f))/\Zv K (.ref f)=d!/\K.lookup f=a! ⟨o,d,.func (W7 x y (eV st) (dI st) (ak st) .none v e p n m t),s⟩/\XS K m y=d!/\P! K (.ref f)=d!
def Dk.mk{o v e p m t:b?}{d n:Option c!}{s:Array (Option b?)}(a:Yi K O! x=a! (a! (.ref f)))(l:K.lookup f=a! ⟨o,d,.func (W7 x x (eV st) (dI st) (ak st) .none v e p n m t),s⟩)(c:XS K m x=d!)(k:P! K (.ref f)=d!):Dk K x st:=⟨f,o,d,v,e,p,n,m,t,s,a,l,c,k⟩
def BC.mk{y:w?}{o v e p m t:b?}{d n:Option c!}{s:Array (Option b?)}(a:E? K (.ref C) x=a! (a! (.ref f)))(i:Zv K (.ref f)=d!)(l:K.lookup f=a! ⟨o,d,.func (W7 x y (eV st) (dI st) (ak st) .none v e p n m t),s⟩)(c:XS K m y=d!)(k:P! K (.ref f)=d!):BC K C x y st:=⟨f,o,d,v,e,p,n,m,t,s,a,i,l,c,k⟩
def Dk.df(X:K.In h)(G:h.Ns O! mg)(b:iZ x x st ps)(D:Dk K x st):Df K mg x st ps:=by obtain⟨f,_,_,_,_,_,_,_,_,_,a,l,c,k⟩:=D;exact Lg X G a l c k b
def BC.df{y:w?}(b:iZ x y st ps)(D:BC K C x y st):Ag K C x y st ps:=by obtain⟨f,_,_,_,_,_,_,_,_,_,a,i,l,c,k⟩:=D;exact⟨f,_,l5 l c k,⟨a,i,k⟩,(l5 l c k).binds b⟩
local macro_rules|`($k <<< $x <<< $v)=>`(PySem.W.nsIn $k mainGlobals $x=some $v)
set_option maxHeartbeats 3000000 in
def all_mk{l:Zr}{fa Oa Ob Oc Od CT:c!}{Pm Pw Pk Py Qf P8 PL Qb:Tok}(X:K.In h)(G:h.Ns O! mg)(Wv:mg "law" = a! (.ref fa))(A0:Dk K "is_tile" iU)(A1:Dk K "is_in_order" dv)(A2:Dk K "is_hand" gL)(A3:Dk K "check_hand" fB)(A4:Dk K "is_run" kn)(A5:Dk K "is_group" eO)(A6:Dk K "is_meld" iX)(A7:Dk K "tiles_of" eL)(A8:Dk K "colour_choices" bV)(A9:Dk K "all_groups" d5)(A10:Dk K "all_runs" fP)(A11:Dk K "melds" mU)(A12:Dk K "total" lu)(A13:Dk K "lay_out" iV)(A14:Dk K "tiles_of_laying" cK)(A15:Dk K "left" qd)(A16:Dk K "worth" nv)(A17:Dk K "playable_melds" bT)(A18:Dk K "first_laying" dQ)(A19:Dk K "best" qt)(A20:Dk K "_law_cell_at" dX)(A21:Dk K "_law_mix" hG)(A22:Dk K "_law_whole" fu)(A23:Dk K "_law_house_by" dt)(A24:Dk K "_law_trimmed" dN)(A25:Dk K "_law_hand_by" cC)(A26:Dk K "_law_jokers_by" c8)(A27:Dk K "_law_tiles" dm)(A28:Dk K "_law_melds" cR)(A29:Dk K "_law_laid" gm)(A30:Dk K "_law_laying_by" cw)(A31:Dk K "law" m9)(A32:Dk K "tiles_by_least" cY)(aCT:Yi K O! "Table" = a! (a! (.ref CT)))(aM0:BC K CT "ways" "Table.ways" j8)(aM1:BC K CT "least_left" "Table.least_left" d4)(aM2:BC K CT "search_least" "Table.search_least" c0)(Wz:BC K CT "__init__" "Table.__init__" Bh)(pgT:Yh K CT ŵ=d!)(hdT:YJ K CT=d!)(poT:Zd K CT=d!)(saT:E? K (.ref CT) "__setattr__" = a! (a! (.builtin "object.__setattr__")))(Vx:Zy K CT=d!)(kcT:P! K (.ref CT)=d!)(Qs:E? K (.ref CT) "by_least" = a! b!)(Q8:E? K (.ref CT) "known" = a! b!)(aC:Yi K O! "House" = a! (a! (.ref C)))(aI:BC K C "__init__" "House.__init__" sO)(pg:Yh K C ŵ=d!)(hd:YJ K C=d!)(po:Zd K C=d!)(sa:E? K (.ref C) "__setattr__" = a! (a! (.builtin "object.__setattr__")))(mk:Zy K C=d!)(kc:P! K (.ref C)=d!)(n_colours:E? K (.ref C) "colours" = a! b!)(n_most:E? K (.ref C) "most" = a! b!)(i_LEAST_NUMBERS:K <<< "LEAST_NUMBERS" <<< (a! (.int 3 Pm)))(i_MOST_NUMBERS:K <<< "MOST_NUMBERS" <<< (a! (.int 13 Pw)))(i_LEAST_COLOURS:K <<< "LEAST_COLOURS" <<< (a! (.int 1 Pk)))(i_MOST_COLOURS:K <<< "MOST_COLOURS" <<< (a! (.int 4 Py)))(i_MOST_TILES:K <<< "MOST_TILES" <<< (a! (.int 12 Qf)))(i_MOST_ALIKE:K <<< "MOST_ALIKE" <<< (a! (.int 2 P8)))(i_MOST_JOKERS:K <<< "MOST_JOKERS" <<< (a! (.int 2 PL)))(i_LEAST_SIZE:K <<< "LEAST_SIZE" <<< (a! (.int 3 Qb)))(b_all:K <<< "all" <<< b!)(b_bool:K <<< "bool" <<< b!)(b_int:K <<< "int" <<< b!)(b_isinstance:K <<< "isinstance" <<< b!)(b_len:K <<< "len" <<< b!)(b_list:K <<< "list" <<< b!)(b_min:K <<< "min" <<< b!)(b_range:K <<< "range" <<< b!)(b_set:K <<< "set" <<< b!)(b_sorted:K <<< "sorted" <<< b!)(b_sum:K <<< "sum" <<< b!)(b_tuple:K <<< "tuple" <<< b!)(Qn:K <<< "BadHand" <<< (a! (.ref Oa)))(P9:K <<< "BadHouse" <<< (a! (.ref Ob)))(PJ:K <<< "BadLaying" <<< (a! (.ref Oc)))(Rt:K <<< "MeldError" <<< (a! (.ref Od)))(Qd:Yu K Ob [.type "ValueError",.type "Exception",.type "BaseException",.type "object"] "ValueError.__new__" = d!)(Qu:Yu K Oa [.type "ValueError",.type "Exception",.type "BaseException",.type "object"] "ValueError.__new__" = d!)(PM:Yu K Oc [.type "ValueError",.type "Exception",.type "BaseException",.type "object"] "ValueError.__new__" = d!):
  ∃fd:W',(∀(s:d?)(v:b?),ě s fd ⟨[v],[]⟩ [("script",v)])/\∀base:F!,K.In base->base.Ns O! mg->FnOk l.prog w K mg base ug 63 fa fd ["script"] (zY K):=by obtain⟨f,_,_,v,e,p,n,m,t,_,a,l',cc,kk⟩:=A31;have ee:=Wv.symm.trans (YT X G a);cases ee;obtain⟨fI,_,_,_,_,_,_,_,_,_,aI,iI,lI,cI,kI⟩:=aI;have T:Tx K mg C:=⟨⟨pg,hd,po,sa⟩,n_colours,n_most,j5 X G i_LEAST_NUMBERS,j5 X G i_MOST_NUMBERS,j5 X G i_LEAST_COLOURS,j5 X G i_MOST_COLOURS,j5 X G i_MOST_TILES,j5 X G i_MOST_ALIKE,j5 X G i_MOST_JOKERS,j5 X G i_LEAST_SIZE,N! X G b_all,N! X G b_bool,N! X G b_int,N! X G b_isinstance,N! X G b_len,N! X G b_list,N! X G b_min,N! X G b_range,N! X G b_set,N! X G b_sorted,N! X G b_sum,N! X G b_tuple⟩;have R:Rx K mg Oa Ob Oc Od:=⟨CZ X G Qn Qu,CZ X G PJ PM⟩;refine⟨W7 "law" "law" (eV m9) (dI m9) (ak m9) .none v e p n m t,λs v=>.of_eq rfl,λbase kb nb=>?_⟩;refine J5 (P:=l.prog) (w:=w) (C:=C) (CT:=CT) (Oa:=Oa) (Ob:=Ob) (Oc:=Oc) (Od:=Od) (λns hl=>Jj l.prog w K C CT Oa Ob Oc ns hl) ?_;obtain⟨fT,_,_,_,_,_,_,_,_,_,Wz,iTI,lTI,cTI,kTI⟩:=Wz;have TT:Tt K CT:=⟨⟨pgT,hdT,poT,saT⟩,Qs,Q8⟩;exact JD (P:=l.prog) (w:=w) (base:=base) TT ⟨Vx,Wz,iTI,kcT⟩ (l5 lTI cTI kTI) (YT X G aCT) (BC.df HK aM0) (BC.df rU aM1) (BC.df pB aM2) T R (CZ X G P9 Qd) ⟨mk,aI,iI,kc⟩ (l5 lI cI kI) (YT X G aC) (Dk.df X G yP A0) (Dk.df X G qc A1) (Dk.df X G xw A2) (Dk.df X G rY A3) (Dk.df X G Bc A4) (Dk.df X G vR A5) (Dk.df X G xF A6) (Dk.df X G wZ A7) (Dk.df X G mK A8) (Dk.df X G sk A9) (Dk.df X G v9 A10) (Dk.df X G DJ A11) (Dk.df X G DR A12) (Dk.df X G yK A13) (Dk.df X G l4 A14) (Dk.df X G Gw A15) (Dk.df X G EZ A16) (Dk.df X G nF A17) (Dk.df X G oZ A18) (Dk.df X G Gr A19) (Dk.df X G pq A20) (Dk.df X G wx A21) (Dk.df X G sj A22) (Dk.df X G nT A23) (Dk.df X G o6 A24) (Dk.df X G ph A25) (Dk.df X G mW A26) (Dk.df X G se A27) (Dk.df X G sm A28) (Dk.df X G uB A29) (Dk.df X G m7 A30) (Dk.df X G mP A32) (l5 l' cc kk)
def walk{l:Zr}{q:g?}{q_:List w?}{XP:(w?->Option b?)->F!->Prop}{YP:q?->F!->Prop}{d:DefRec}{K:Τ->Oe}(hn:l.most=a! 63)(Uj:d.params.defaults=[])(hY:∀(w:q?)(h:F!),YP w h->(K w.params).In h)(F:∀(w:q?)(mg:w?->Option b?)(fa:c!)(h:F!),(K w.params).In h->h.Ns O! mg->mg d.name=a! (.ref fa) ->
   ∃fd:W',(∀(s:d?)(u:b?),ě s fd ⟨[u],[]⟩ [("script",u)])/\∀base:F!,(K w.params).In base->base.Ns O! mg->FnOk l.prog w (K w.params) mg base ug 63 fa fd ["script"] (zY (K w.params))):
  ß q q_ XP YP l.row.toRowW d [] (λf vs=>ĵ f vs):=
 L2.walk_of (n:=63) (k:=63) (x:= "script") (CX:=λo=>ug) (sp:=λw=>zY (K w.params)) hn 0x3 Uj ⟨rfl,0x3,0x3⟩ hY F (λo o a ns hl o hS=>⟨a,ns,rfl,hS,hl,λo=>rfl⟩) λo o o o o z=>z
def walkX{q:g?}{q_:List w?}{XP:(w?->Option b?)->F!->Prop}{K:Τ->Oe}{as:List c!}{t:Nat}{r:PySem.W.RowW}{d:DefRec}{kwd:List (w?×E!)}{run:b?->List b?->ý b?}(e:∀P,as=(K P).map (·.1))(h:ß q q_ XP (λw h=>(K w.params).In h) r d kwd run):PySem.W.WalkX q q_ XP (PySem.W.X.obsZ as) (PySem.W.X.valZ K n t) r d kwd run:=by intro w s₀ s₁ mg mb G y a o pm cd s_ dV kV h1 h2 h3 h4 h5 h6 args N_ QV L PD TR hrd T8 Qt;exact h w s₀ s₁ mg mb G (λb ob hb=>L.keeps _ _ ((PySem.W.X.z_facts e y).2.1 b ob hb)) a o pm cd s_ dV kV h1 h2 h3 h4 h5 h6 args N_ QV PD TR hrd T8 Qt
end K5
end
namespace PySem.W.Fast
open L2
def tw11962712599352168312:=V
def tw1308733466696919935:=V
def tw11729416023891206053:=V
def tw4441708803980609792:=V
def tw1756807303430698479:=V
def tw13235077688606906749:=V
def tw12031169951995357278:=V
def tw5704391604659381094:=V
def tw16916143665237534087:=V
def tw12821687081947958179:=V
def tw4876060066775978854:=V
def tw11884449761444909222:=V
def tw17232106423802700585:=V
def tw6755367350193203667:=V
def tw3220457682542688491:=V
def tw18370773122198849525:=V
def tw1555301058607564679:=V
def tw6702242676613273460:=V
def tw14878197737224800510:=V
def tw13799261593885802743:=V
def tw8660608911945789104:=V
def tw2856484994388884644:=V
def tw8611332212403643690:=V
def tw2759832894706553421:=V
def tw1583238245778662792:=V
def tw17089264205602688006:=V
def tw2051209498062646863:=V
def tw11900508004840608752:=V
def tw15648445491113711629:=V
def tw7518076774122055278:=V
def tw17334467487330734058:=V
def tw9803312826475988513:=V
def tw6786953615584652754:=V
def tw12073102943168490206:=V
def tw11732260272639856042:=V
def tw13815914362943125579:=V
def tw13739493023468607372:=V
def tw324331001126432708:=V
def tw12116376552591533682:=V
def tw6117317600452207252:=V
def tw5259271874201223149:=V
def tw4631645019405533419:=V
def tw2266456917326010636:=V
def tw12206381466894086626:=V
def tw1699879146951595711:=V
def tw3662265771326575493:=V
def tw10827513400802909874:=V
def tw13369373474160101012:=V
def tw9817964588588547854:=V
def tw14198068313858768748:=V
def tw12105341313890745532:=V
def tw7480753198710790407:=V
def tw12663444530773557668:=V
def tw2789362309251953081:=V
def tw6495999777150514871:=V
def tw8587038262585804420:=V
def tw5070212818973894983:=V
def tw4937110592641190491:=V
def tw624530037616770363:=V
def tw4765883094298235271:=V
def tw13463650611220912448:=V
def tw55614257693289664:=V
def tw3056532561983618948:=V
def tw9042868737010932439:=V
def tw7801233798981038625:=V
def tw12340508825649684000:=V
def tw12674261607438225396:=V
def tw17237187278358465367:=V
def tw17798881488173599992:=V
def tw659523204061409049:=V
def tw10004482287334416754:=V
def tw5674903976047174831:=V
def tw5126679637501248089:=V
def tw1157802934605792567:=V
def tw17907685589318265371:=V
def tw8639432305605324333:=V
def tw7405048904836535803:=V
def tw7906492539811748468:=V
def tw13885204976332821555:=V
def tw1406896474117407068:=V
def tw17174361212986807150:=V
def tw11001386971878836558:=V
def tw14013953157097504528:=V
def tw14361582809953937327:=V
def tw13219735058118307376:=V
def tw17920372874651052994:=V
def tw400492095588428413:=V
def tw4802789053999466898:=V
def tw12831249678484829094:=V
def tw13923910703703572289:=V
def tw12354976347770534307:=V
def tw12601004531060767732:=V
def tw7050792119393663066:=V
def tw9516286134963254721:=V
def tw9525035362026916782:=V
def tw14915506367518704825:=V
def tw10530033653755090212:=V
def tw4804277786055467577:=V
def tw4517476074179591485:=V
def tw67513452039411816:=V
def tw11491929651965697628:=V
def tw16195180163607145560:=V
def tw810019693587048657:=V
def tw11933441276815511371:=V
def tw1062371671194604950:=V
def tw18411857912610948679:=V
def tw17524608011184843381:=V
def tw5878740688267706280:=V
def tw16801194529524231362:=V
def tw17907526148712521160:=V
def tw11264927439767389763:=V
def tw13237328877622247548:=V
def tw15414389854632276084:=V
def tw6205075494804035809:=V
def tw14184482130024397415:=V
def tw2531841931788502502:=V
def tw11131776128561373849:=V
def tw15530716995453520675:=V
def tw10415620601057218227:=V
def tw12885601516074887794:=V
def tw14864267936921729997:=V
def tw10916711795497890480:=V
def tw3455452903170901365:=V
def tw12436893907328570000:=V
end PySem.W.Fast
open PySem PySem.W PyProof.Rows L2 L3 LW K5
set_option maxRecDepth 100000 in
set_option maxHeartbeats 0 in
theorem PySem.Challenge.cw_meldhouse_k05_whole_none_is_better_holds : PySem.Challenge.rw_meldhouse_k05_whole_none_is_better.Holds := by
 w_on;o_law;z_head;(case hw=>w_witness2)
 k_fill
 refine K5.walkX (λ_=>rfl) (K5.walk (l:=PySem.Challenge.rw_meldhouse_k05_whole_none_is_better) rfl rfl (λw h Y=>Y) ?F)
 case F=>
  intro w mg fa h KX G Ud;refine' K5.all_mk KX G Ud ?_ ?_ ?_ ?_ ?_ ?_ ?_ ?_ ?_ ?_ ?_ ?_ ?_ ?_ ?_ ?_ ?_ ?_ ?_ ?_ ?_ ?_ ?_ ?_ ?_ ?_ ?_ ?_ ?_ ?_ ?_ ?_ ?_ ?_ ?_ ?_ ?_ ?_ ?_ ?_ ?_ ?_ ?_ ?_ ?_ ?_ ?_ ?_ ?_ ?_ ?_ ?_ ?_ ?_ ?_ ?_ ?_ ?_ ?_ ?_ ?_ ?_ ?_ ?_ ?_ ?_ ?_ ?_ ?_ ?_ ?_ ?_ ?_ ?_ ?_ ?_ ?_ ?_ ?_ ?_ ?_ ?_ ?_
  any_goals first|(refine' Dk.mk ?a ?b ?c ?d;(case a=>k_is);(case b=>k_is);(case c=>k_is);(case d=>k_is))|(refine' BC.mk ?a ?b ?c ?d ?e;(case a=>k_is);(case b=>k_is);(case c=>k_is);(case d=>k_is);(case e=>k_is))|k_is|k_exc
