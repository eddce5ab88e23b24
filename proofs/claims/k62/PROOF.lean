import PyProof.Rows.All
import Wide.All
import OpenK.AllK
import Wide.FinOn
import Lean
import PyProof.EqAt
import PyProof.EqKinds
import PyProof.TupleCall
import PySem.Challenge.RW_redo_k62_whole_shelves_merged
noncomputable section
open PySem.W (Frag)
set_option Elab.async false
set_option linter.all false
set_option maxRecDepth 100000
set_option compiler.extract_closed false
set_option bootstrap.genMatcherCode false
open Option renaming some->KQ,none->HA
open Bool renaming true->G3,false->Gy
open PySem renaming PyData->OY,Value->O9,wpAny_bind->Pb,Shared->Pe,sizeLine->Ph,starEach->Pi,wpAny_pure->Pl,Program->Pu,wpAny->PK,model->PP,World->PU,compareOp->PX,mainGlobals->P1,Around->Qa,foldedSetIterable->Qh,wpAny_newObj_type->Qi,backTo->Qj,wpAny_truthy_bool->Qx,sysModules->QB,wpAny_mono->QC,swapsWith->QF,attributeBase->QI,binaryOp->QL,keywordEach->QQ,behindInMarks->QS,wpAny_callSpecial?_slot->QY,wpAny_call_entry->Rj,Scope->Rk,Keyword->Rn,wpAny_typeNameOfWhole_keyiter->Rq,bootBuiltins->Rx,FuncData->RG,call_meets->RH,wpAny_passesOwn->RM,backToKw->RO,NameKind->RP,assignEach->RV,wpAny_holding->RY,wpAny_typeNameOf_keyiter->R4,mem_of_lookup->R5,wpAny_Call_Name_kw->Se,compEnvC->Sl,wpAny_pyIter_list->Sq,bindArgs->SE,wpAny_comprehension_free->SI,wpAny_execs_nil->SM,wpAny_specialOf->SN,notedBy->SQ,Paired->SR,wpAny_field->SX,sliceBounds->SY,codeAny_compStart_list->S6,typeIs_str->Tg,getItem->Tn,relabel->To,lookup_relabel_local->Tq,wpAny_newFunctionEnv->Ts,ReadsAll->Tt,letOwnedTupleGo->Tv,wpAny_loadPart'->Tz,tupleKind_room_in1->Ue,wpAny_pyIter_tuple->Ui,wpAny_setField->Uo,wpAny_binaryOp_repeat_ref->Ur,wpAny_assign_Name->Ut,sizeLine_eq->Uu,codeAny->Uw,wpAny_dictEntries->UB,getMethod->UH,cLine->UI,noFill_tuple_add->UJ,atKey->UL,DictEntry->UM,wpAny_list_append_plain->UN,wpAny_pyNext_list_item->UY,codeAny_mono->UZ,concat_meets->U2,IsPart->U3,typeIs_int->U5,wpAny_Call_method_late->U6,wpAny_Assign_Subscript->U9,callerA->Va,call->Vb,CmpOp->Vh,wpAny_dictEpoch->Vn,wpAny_isTrue_Compare1->Vo,wpAny_pyNext_list_end->Vp,wpAny_isOneOf_keyiter->VB,subscripted->VH,wpAny_pyIter_keyiter->VJ,Reads->VM,intText?->VN,wpAny_seqItems->VR,firstArgMember->VS,tupleKind->VX,standAt->VY,holding->VZ,seq_tuple_add->V5,wpAny_standAt->V8,assign->We,pyNext->Wf,wpAny_setItem_heap->Wk,rawInt->Wl,Within->Wq,BindsTo->Wt,wpAny_sequenceKey->Wv,wpAny_typeOf->Ww,slot_list_getitem->Wx,valueAt->Wy,Builtin->WD,wpAny_pyIter_enum->WH,boot_len->WI,wpAny_pyHash_str->WO,isTrue->WP,wpAny_execs_cons->WQ,PassesOwn->WR,lastMarks->WS,seqIndex?->WV,seqSlot_of->WX,wpAny_forIn_list->W3,wpAny_isInstance->W4,slicePicked->W9,entryOfKey->Xn,builtinsNs->Xo,wpAny_Name->Xp,callWith->Xq,wpAny_rule->Xu,reduceHash->Xw,bindL->Yc,bindC->Yd,cellsFrom->Ye,strValues->Yf,Result->Yi,storedH->Yl,Params->Ym,Meets->Yz
open PySem.Str renaming ofString->OZ,join->PF
open List renaming getElem?_eq_some_iff->Pa,mem_cons_of_mem->Pc,mem_cons_self->Pf,getElem?_set_ne->Pj,getElem?_set_self->Pm,getElem?_append_left->Pn,all_eq_true->Po,replicate->Pp,mem_cons->Pr,mem_append->Pt,mem_of_getElem?->Px,mem_singleton->Py,mem_map->PD,mem_append_right->PJ,length_map->PY,map_cons->P2,getElem?_map->P5,mem_append_left->P6,length_cons->P9,length_append->Qb,getElem?_append_right->Qc,getElem?_eq_getElem->Qg,size_toArray->Qo,take_of_length_le->Qq,mem_of_mem_take->Qr,mem_filter->QH,append_nil->QJ,find?_cons->QK,drop_eq_getElem_cons->QM,getElem?_eq_none_iff->QO,nodup_append->QR,all_cons->Q0,drop_eq_nil_of_le->Q6,append_assoc->Q8,map_congr_left->Ra,eq_nil_or_concat->Ri,eq_nil_of_length_eq_zero->Rp,any_cons->RA,length_take->RC,length_drop->RD,not_mem_nil->RE,tail_suffix->RF,nodup_cons->RN,take_add_one->RR,range->RT,sum_cons->R3,lookup_cons->R9,map_append->So,flatten_cons->Ss,nodup_nil->Sv,take_length->Sz,getElem?_take_of_lt->SG,length_nil->SO,foldl->SS,map_map->S9,eraseIdx_eq_take_drop_succ->Tc,take_append_drop->Td,concat_eq_append->Te,any_eq_true->Th,filter_cons->Ti,filterMap_cons->TL,replicate_succ->TN,getElem_of_mem->TQ,mem_map_of_mem->TR,mem_replicate->Um,getElem?_zip_eq_some->Uq,suffix_iff_eq_drop->UV,of_mem_zip->Vk,takeWhile_prefix->Vy,getElem?_eq_none->Vz,length_filter_le->VE,mem_range->VF,drop_drop->VU,drop_left->VW,mem_filterMap->Wg,getElem?_drop->Wn,take_sublist->Wu,getElem?_inj->WB,ext_getElem?->WC,lookup->W7,length->W8,foldl_cons->Xc,nil_append->Xd,all_append->Xh,all->Xx,take_nil->X4,map_take->X8,map_drop->X9,drop->Yg,all_map->Yo
open PySem.Heap renaming get?_push_of_some->Pd,lt_size->Pq,get?_push_size->Pw,SameBut->Q2,size_push->Q5,ExtBut->Uz,get?_update_self->Vu
open Bool renaming and_eq_true->Pg,false_ne_true->Pz,false_eq_true->QD,eq_iff_iff->Rb,or_eq_true->TF,or_false->X5,not_true->X6
open Nat renaming le_refl->Pk,le_trans->PB,ne_of_lt->PM,lt_of_lt_of_le->PQ,zero_le->Ql,lt_of_le_of_lt->Qs,lt_irrefl->Qw,not_lt_zero->Re,lt_succ_of_lt->RQ,lt_succ_self->R7,strongRecOn->TH,ne_of_gt->TU,toDigits->T7,mul_le_mul->Uh,add_assoc->UE,min_eq_right->UU,le_of_lt->UX,lt_trans->U8,min_eq_left->Vm,le_succ->VG,log2_lt->VQ,le_of_eq->Wr,le_total->WJ,mul_comm->Yn,zero_add->Ys
open PySem.PyData renaming eqv->PH,eqvAll->Qd,strOk->Qk,canLayAll0->Qz,str->QP,canLay0->Q9,depthAll->Rf,tuple->Rz,weightAll->Sb,depth->Sj,int->Vc,leavesShortAll->Vx,weight->V9,showableAll->Wm,list->Xa,bool->YA,none->YB
open PySem.SeqAt renaming shaped->PN,canLay_of_shaped->Sg,eqAt_reads->UP,room_of_shaped->VO,notIn_listAt->Wj,in_tupleAt->WW,EqAt->YE
open Option renaming map_eq_some_iff->PV,isSome_iff_exists->SF,getD_none->UK,isSome_map->Wz,map_some->Xg
open PyProof.Rows.KTD renaming datLooks->PZ,tabLook->P0,rowsLook->QN,datumAt->RZ,inKeys->SZ,isSome_datumAt->Tb,eachL_miss->TY,item_textA->TZ,eachL_hit->Uk,EachL->Ve,plain->Vf,Dat->VP,opened_int->Xj,opened_str->Xk,in_text->X2
open Ne renaming symm->P3
open PySem.Value renaming ref->P4,none->QW,type->Tf,str->Ua,notImplemented->VL,bool->Wd,int->WN,float->W6,isStrOf->XM,isInt->Yt,bytes->Yu
open Int renaming emod_lt_of_pos->Qe,emod_nonneg->Qu,toNat_natCast->Q7,natCast_nonneg->RK,le_refl->Sd,natCast_add->Sn,cast_ofNat_Int->SV,eq_ofNat_of_zero_le->UT,zero_add->WM,max_eq_right->W1,ofNat_le->Yp,le_trans->Yr
open PySem.W renaming fnOf->Qf,kia_one->Qn,nsIn->Qp,findIn->Qv,keepIn->QT,mg_of->Q1,emptyDict->Q3,instObj->Rv,codeIn->R8,plainGet->Sy,hasDictIn->S3,plainGet_of->TM,isFn->TV,lookIn->Uc,callWith_K->Ud,kt_text_in->Ul,plainOver->Uv,kitx_list->Ux,kitx_dict->Uy,cellsFrom_some->U1,takerIn->Vi,makesIn->Vj,OpenLaw->Vl,methodCall_KW->Vq,callWith_K0->V1,WalkO->V7,kitx_tuple->Wh,handedIn->WT
open Or renaming inl->Qm,inr->QU
open PyProof.Rows renaming slot_tuple_getitem->Qt,boot_tuple->QG,boot_str->Rr,callWith_type1->Sr,boot_int->Sx,envOfC->S4,cps_toList_append->S7,AllBare->Us,kindOf->U0,subscriptTail_builtinR->U4,signs_ofString->VT,entry_tuple_getitem->V2,Constant_none->V4,tupleItemsOf_->V6,args_tuple_getitem->Wi,boot_all->WL,callWith_builtin1->WU,boot_isinstance->Xf,IntsAre->Xi,IsTup->Xm,Subscript_->Xs,boot_list->Yh
open PySem.NameKind renaming free->Qy
open PySem.Builtin.Tuple renaming tupleHashOf->QA,tupleExact->Rm,tupleItemsOf->Su,tupleTooMany->Uj
open PySem.Builtin.List renaming listTooLong->QE,listFitsIndex->Sw
open PySem.F renaming slot_dict_keyiterator_next->QV,plainAttrs_list->QZ,slot_tuple_iterator_next->RJ,plainAttrs_str->Sf,slot_str_split->Si,args_tuple_add_2->SH,args_str_split_2->SJ,entry_tuple_add->SW,entry_str_split->S2,slot_tuple_add->S5,slot_tuple_mul->S8,slot_tuple_hash->Ta,args_dict_keyiterator_next_1->Tj,entry_dict_keyiterator_next->Tu,slot_int_rmul->Tw,args_tuple_iterator_next_1->TC,slot_str_startswith->TX,entry_tuple_iterator_next->T6,slot_list_insert->UF,type_list_insert->UG,slot_tuple_rmul->UO,slot_list_index->US,slot_str_join->Vs,type_str_join->Vt,slot_dict_get->VD,args_int_rmul_2->WE,slot_int_index->WY,entry_int_rmul->WZ,slot_dict_iter->W5,fills_int_mul->Xe
open PySem.Builtin.Str renaming occurrences->QX,strSliceIndices->Ry,partsBetween->UD,strKind->V3,glued->WF,subAt->WK
open True renaming intro->Q4
open PySem.PassesOwn renaming never->Rc
open Sum renaming inr->Rh,inl->Wp
open PySem.Paired renaming length->Rl,snoc->Yx
open PySem.Txt renaming startswith->Ro,slice->Rt,split->Sa,slice_le->Yq,mul->YJ
open PySem.NumText renaming digitsVal->Ru,AllDigits->UA
open Option.some renaming inj->Rw
open PySem.Builtin.SmallTypes renaming nextOf->RL
open False renaming elim->RU
open Array renaming length_toList->R6,getElem?_eq_getElem->SC,getElem?_eq_some_iff->Ug,getElem?_eq_none->Vg,getElem?_toList->VC,forIn_toList->Wo,all_toList->W2
open ForInStep renaming yield->Sk
open PySem.Heap.SameBut renaming update->SD,refl->WA
open PySem.AutoSeq1 renaming wpAny_loadPart'->SK,sub_tuple_tuple->UC,sub_tuple_list->UQ,sub_list_tuple->UR,sub_list_list->Vd,idx_int->W0
open PySem.Obj renaming data_mapFields->SU,isFreed_of_fields->Vv,cls_mapFields->WG,mapFields->X7
open PySem.Builtin.Dict_items renaming ownsTuple->TJ
open PySem.Calls renaming Name_function_global->Ub,callWith_builtin->U7,evalArgs_plain->VI
open PySem.Builtin.Slice renaming slicePlaces->Up,slicePartIndex->Xb,sliceApplied->Xr,sliceAdjust->XJ
open Classical renaming propDecidable->UW
open PySem.StrLaws renaming glued_eq_join->Vr
open PySem.Builtin.Dict renaming showsAll->VA
open PyProof.Rows.IsTup renaming new->V0
open PySem.SeqAt.EqAt renaming int_str->Wa,str_int->Wb,str_str->X3
open PySem.Around renaming under->Ws
open PySem.AutoListH renaming joined_fits->Xl
open PySem.Walks renaming dictKeys->Xt,list->YF
open PySem.MeetsSeq renaming list_pop_at->Xv
open PySem.EqNone renaming eq_none_none->Xy,eq_none_bool->Xz,eq_bool_none->XA,ne_none_none->XD,ne_none_bool->XF,ne_bool_none->XG,eq_none_int->XN,eq_none_str->XQ,eq_int_none->XR,eq_str_none->XT,ne_none_int->XW,ne_none_str->XX,ne_int_none->XY,ne_str_none->X0
open PySem.EqMixed renaming eq_bool_str->XB,eq_str_bool->XC,ne_bool_str->XH,ne_str_bool->XI,eq_int_str->XS,eq_str_int->XU,ne_int_str->XZ,ne_str_int->X1
open PySem.ExcName renaming means->Ya
open PySem.Builtin.Range renaming rangeSize->Yb
open PySem.Code renaming isGuard->Yj,isFrame->Yk
open PySem.CmpOp renaming NotIn->Yv
open Prod renaming ext->Yw
open PySem.Data renaming seq->Yy
open PySem.W.Looks renaming here->YC
open PySem.Heap.IsSliceOf renaming new->YD
open Char renaming toNat->YG
open PySem.Within renaming cons->YH
open List.Pairwise renaming nil->YI
open PySem PySem.Spec PyProof.Rows
theorem Au10(h:True:=by rfl):True:=h
def u10:=Au10._auto_1
theorem Au11(h:True:=by decide):True:=h
def u11:=Au11._auto_1
theorem Au12(h:True:=by exact rfl):True:=h
def u12:=Au12._auto_1
theorem Au13(h:True:=by exact bf rfl):True:=h
def u13:=Au13._auto_1
theorem Au14(h:True:=by exact bW rfl):True:=h
def u14:=Au14._auto_1
theorem Au15(h:True:=by first|exact .inl rfl|exact .inr rfl|assumption):True:=h
def u15:=Au15._auto_1
theorem Au16(h:True:=by intro _;rfl):True:=h
def u16:=Au16._auto_1
theorem Au17(h:True:=by decide +kernel):True:=h
def u17:=Au17._auto_1
theorem Au18(h:True:=by first|exact Qm rfl|exact QU rfl):True:=h
def u18:=Au18._auto_1
theorem Au19(h:True:=by exact iV rfl):True:=h
def u19:=Au19._auto_1
theorem Au20(h:True:=by first|exact Qm rfl|exact QU (Qm rfl)|exact QU (QU rfl)):True:=h
def u20:=Au20._auto_1
theorem Au21(h:True:=by intro _ _ _ _ _ _;first|(show ∀us:List O9,us.length=0->_;exact D.Ee rfl)|(show ∀us:List O9,us.length=1->_;exact D.KN λ_=>rfl)|(show ∀us:List O9,us.length=2->_;exact D.K3 λ_ _=>rfl)|(show ∀us:List O9,us.length=3->_;exact D.GQ λ_ _ _=>rfl)|(show ∀us:List O9,us.length=4->_;exact D.IU λ_ _ _ _=>rfl)|(show ∀us:List O9,us.length=5->_;exact D.IT λ_ _ _ _ _=>rfl)|(show ∀us:List O9,us.length=6->_;exact D.Ig λ_ _ _ _ _ _=>rfl)):True:=h
def u21:=Au21._auto_1
theorem Au22(h:True:=by omega):True:=h
def u22:=Au22._auto_1
theorem Au23(h:True:=by with_unfolding_all rfl):True:=h
def u23:=Au23._auto_1
theorem Au24(h:True:=by first|exact f6 _|with_unfolding_all rfl):True:=h
def u24:=Au24._auto_1
theorem Au25(h:True:=by exact λ_ _=>rfl):True:=h
def u25:=Au25._auto_1
theorem Au26(h:True:=by first|exact zrp _ (by decide) (by decide)|rfl):True:=h
def u26:=Au26._auto_1
theorem Au27(h:True:=by exact Rc):True:=h
def u27:=Au27._auto_1
namespace Internal
namespace L2
abbrev Key:=Sum Int Str
noncomputable def iN:Key->O9->Bool
 |.inl k,v=>Yt k v
 |.inr x,v=>XM x v
noncomputable def Lw(w:PU):Key->Int
 |.inl k=>hashInt k
 |.inr x=>hashStr w x
noncomputable def ff:∀{k:Key}{v:O9},iN k v=G3->(∃i t,k=Wp i/\v=WN i t)\/(∃x t,k=Rh x/\v=Ua x t)
 |.inl i,v,h=>by
  obtain⟨t,e⟩:=Value.isInt_shape   h;exact .inl ⟨i,t,rfl,e⟩
 |.inr x,v,h=>by
  obtain⟨t,e⟩:=Value.isStrOf_shape   h;exact .inr ⟨x,t,rfl,e⟩
noncomputable def zaa(i:Int)(t:Tok):iN (.inl i) (.int i t)=G3:=by simp[iN,Yt]
noncomputable def zab(x:Str)(t:Tok):iN (.inr x) (.str x t)=G3:=by simp[iN,XM]
noncomputable def zac(a b:Int):decide ((Wp a:Key)=Wp b)=(a == b) :=by grind
noncomputable def zad(a b:Str):decide ((Rh a:Key)=Rh b)=decide (a=b) :=by simp
theorem zae(a:Int)(b:Str):decide ((Wp a:Key)=Rh b)=Gy :=rfl
theorem zaf(a:Str)(b:Int):decide ((Rh a:Key)=Wp b)=Gy :=rfl
noncomputable def cJ(prog:Pu)(w:PU):PySem.KeyKind prog w Key where
 is:=iN
 hash:=Lw w
 inj:=λv a b ha hb=>by
  rcases ff ha with⟨i,t,rfl,rfl⟩|⟨x,t,rfl,rfl⟩
  .rcases ff hb with⟨j,u,rfl,e⟩|⟨y,u,rfl,e⟩
   .injection e with e1 _;rw[e1]
   .exact nomatch e
  .rcases ff hb with⟨j,u,rfl,e⟩|⟨y,u,rfl,e⟩
   .exact nomatch e
   .injection e with e1 _;rw[e1]
 byValue:=λk v h=>by
  rcases ff h with⟨i,t,rfl,rfl⟩|⟨x,t,rfl,rfl⟩ <;> rfl
 pyHash:=λhv h=>by
  rcases ff hv with⟨i,t,rfl,rfl⟩|⟨x,t,rfl,rfl⟩
  .exact wpAny_pyHash_int h
  .exact WO h
 eqBool:=λhu hv h=>by
  rcases ff hu with⟨i,t,rfl,rfl⟩|⟨x,t,rfl,rfl⟩
  .rcases ff hv with⟨j,u,rfl,rfl⟩|⟨y,u,rfl,rfl⟩
   .rw[zac] at h;exact wpAny_eqBool_int h
   .rw[zae] at h;exact Wa i t y u _ _ _ _ h
  .rcases ff hv with⟨j,u,rfl,rfl⟩|⟨y,u,rfl,rfl⟩
   .rw[zaf] at h;exact Wb x t j u _ _ _ _ h
   .rw[zad] at h;exact wpAny_eqBool_str h
 «strs»:=λk x t v h=>by
  rcases ff h with⟨i,u,rfl,e⟩|⟨y,u,rfl,e⟩
  .exact nomatch e
  .injection e with e1 _
   subst e1
   cases v <;> rfl
noncomputable def zag(prog:Pu)(w:PU)(i:Int)(t:Tok):(cJ prog w).is (.inl i) (.int i t)=G3:=zaa i t
noncomputable def zah(prog:Pu)(w:PU)(x:Str)(t:Tok):(cJ prog w).is (.inr x) (.str x t)=G3:=zab x t
inductive V where
 |non|bl (b:Bool)|int (i:Int)|str (x:Str)|byt (b:Array UInt8)|flt (b:UInt64)|ref (a:Addr)|ty (n:String)
 deriving DecidableEq
def RelV:V->O9->Prop
 |.non,u=>u=QW
 |.bl b,u=>u=Wd b
 |.int i,u=>∃t,u=WN i t
 |.str x,u=>∃t,u=Ua x t
 |.byt b,u=>∃t,u=Yu b t
 |.flt b,u=>∃t,u=W6 b t
 |.ref a,u=>u=P4 a
 |.ty n,u=>u=Tf n
abbrev YQ:List V->List O9->Prop:=SR RelV
theorem YQ.length(r:YQ xs us):xs.length=us.length:=Rl r
theorem YQ.get:∀{xs:List V}{us:List O9}{i:Nat}{x:V},YQ xs us->xs[i]? = KQ x->∃u,us[i]? = KQ u/\RelV x u
 |_,_,_,_,.nil,e=>by simp at e
 |_,_,0,_,.cons r _,e=>by simp_all
 |_,_,i+1,x,.cons _ t,e=>by
  obtain⟨u,h1,h2⟩:=YQ.get   t (by simpa using e);exact⟨u,by simpa using h1,h2⟩
theorem YQ.append:∀{xs ys:List V}{us ws:List O9},YQ xs us->YQ ys ws->YQ (xs++ys) (us++ws)
 |_,_,_,_,.nil,s=>s
 |_,_,_,_,.cons r t,s=>.cons r (YQ.append t s)
theorem YQ.take:∀{xs:List V}{us:List O9} (n:Nat),YQ xs us->YQ (xs.take n) (us.take n)
 |_,_,0,_=>.nil
 |_,_,_+1,.nil=>.nil
 |_,_,n+1,.cons r t=>.cons r (YQ.take n t)
theorem YQ.drop:∀{xs:List V}{us:List O9} (n:Nat),YQ xs us->YQ (xs.drop n) (us.drop n)
 |_,_,0,r=>r
 |_,_,_+1,.nil=>.nil
 |_,_,n+1,.cons _ t=>YQ.drop n t
def ZR:Option V->Option O9->Prop
 |some v,KQ u=>RelV v u
 |none,HA=>True
 |_,_=>False
def KV{κ:Type}:List (κ×V)->List (κ×O9)->Prop:=SR λ(p:κ×V) (q:κ×O9)=>p.1=q.1/\RelV p.2 q.2
noncomputable def kV:Key->V
 |.inl i=>.int i
 |.inr x=>.str x
inductive HO where
  |lst (xs:List V)
  |tup (xs:List V)
  |dK (kvs:List (Key×V))|dT (kvs:List (List Key×V))
  |set (S:Int->Bool) (n:Nat)
  |ins (C dx:Addr) (fs:List (Str×V))
  |own (x:Addr)
  |xd (fs:List (Str×V))
  |met (f x:Addr)
  |rng (lo hi:Int)
  |frz (o:Obj) (u:HO)
  |tbl (ps:Array O9)
  |ext (φ:Heap->Prop)
abbrev Hp:=Addr->Option HO
noncomputable def upd(H:Hp)(a:Addr)(o:HO):Hp:=λb=>if b=a then KQ o else H b
def aQ:upd H a o a=KQ o:=by unfold upd<;>simp_all
noncomputable def aA(h:b≠a):upd H a o b=H b:=by unfold upd;rw[if_neg h]
noncomputable def zai{H:Hp}{a b:Addr}{o u:HO}(h:H a=KQ o)(h':H b=KQ u)(d:o≠u):a≠b:=by intro e<;>simp_all
noncomputable def aX{H:Hp}{a b:Addr}{o:HO}(h:H a=KQ o)(h':H b=HA):a≠b :=by grind
section
variable (P:Pu)(w:PU)
def Y5(H:Hp)(h:Heap)(a:Addr):HO->Prop
 |.lst xs=>xs.length<=Ph/\∃(YL:List O9) (n:Nat),YQ xs YL/\h.get? a=KQ { cls:=.type "list",data:=.seq YL.toArray n }
 |.tup xs=>xs.length<=Ph/\∃YL:List O9,YQ xs YL/\Xm h a YL.toArray
 |.dK kvs=>kvs.length<=Ph/\(a == QB)=Gy/\∃vs,KV kvs vs/\h.DictOf (cJ P w) a vs
 |.dT kvs=>kvs.length<=Ph/\(a == QB)=Gy/\∃xs:List (List Key×Addr×O9),
   SR (λ(p:List Key×V) (q:List Key×Addr×O9)=>p.1=q.1/\H q.2.1=KQ (.tup (p.1.map kV))/\RelV p.2 q.2.2) kvs xs /\
   ∃o es ep,h.get? a=KQ o/\o.ExactDict/\o.data=.dict es ep/\es.toList=xs.map (Xn (VX (cJ P w)))/\(xs.map (·.1)).Nodup
 |.set S n=>h.SetOf (intKind P w) a S n
 |.ins C dx fs=>H dx=KQ (.own a)/\fs.length<=1000/\dx≠a/\h.get? a=KQ (Rv C dx) /\
   ∃mA,h.Ns1 dx mA/\(∀f,ZR (fs.lookup f) (mA f))/\Wq mA (fs.map (·.1))
 |.own _=>∃o,h.get? a=KQ o
 |.xd fs=>∃mA,h.Ns1 a mA/\∀f,ZR (fs.lookup f) (mA f)
 |.rng lo hi=>∃t u v,h.get? a=KQ { cls:=.type "range",data:=.fields #[.int lo t,.int hi u,.int 1 v] }
 |.frz o u=>h.get? a=KQ o/\Y5 H h a u
 |.tbl ps=>h.get? a=KQ { cls:=.none,data:=.fields ps }
 |.met f x=>h.get? a=KQ (PySem.W.methodObj (.ref f) (.ref x))
 |.ext φ=>φ h/\(∃o,h.get? a=KQ o)/\∀h1 h2:Heap,φ h1->(∀o,h1.get? a=KQ o->h2.get? a=KQ o)->φ h2
def ZQ(H:Hp)(h:Heap):Prop:=∀a o,H a=KQ o->Y5 P w H h a o
end
section
variable {P:Pu}{w:PU}{H H':Hp}{h h':Heap}{a:Addr}{o:HO}
theorem Y5.lt(x:Y5 P w H h a o):a<h.objs.size:=by
 cases o with
 |lst xs=>obtain⟨_,_,_,_,e⟩:=x;exact Pq e
 |tup xs=>obtain⟨_,_,_,p⟩:=x;exact p.lt
 |dK kvs=>obtain⟨_,_,_,_,o,_,_,e,_⟩:=x;exact Pq e
 |dT kvs=>obtain⟨_,_,_,_,o,_,_,e,_⟩:=x;exact Pq e
 |set S n=>obtain⟨o,_,_,_,e,_⟩:=x;exact Pq e
 |ins C dx fs=>obtain⟨_,_,_,e,_⟩:=x;exact Pq e
 |own y=>obtain⟨_,e⟩:=x;exact Pq e
 |xd fs=>obtain⟨_,⟨_,_,_,e,_⟩,_⟩:=x;exact Pq e
 |rng lo hi=>obtain⟨_,_,_,e⟩:=x;exact Pq e
 |frz ob u=>obtain⟨e,_⟩:=x;exact Pq e
 |tbl ps=>exact Pq (x)
 |met f y=>exact Pq (x)
 |ext φ=>obtain⟨_,⟨_,e⟩,_⟩:=x;exact Pq e
theorem Paired.mapP{α β:Type}{F G:α->β->Prop}:∀{l₁:List α}{l₂:List β},SR F l₁ l₂->(∀a b,F a b->G a b)->SR G l₁ l₂
 |_,_,.nil,_=>.nil
 |_,_,.cons r t,f=>.cons (f _ _ r) (Paired.mapP t f)
def Y5.stay(x:Y5 P w H h a o)(k:∀b u,(b=a\/H b=KQ (.own a))->h.get? b=KQ u->h'.get? b=KQ u)
  (ho:∀b,H b=KQ (.own a)->H' b=KQ (.own a)) (ht:∀b xs,H b=KQ (.tup xs)->H' b=KQ (.tup xs)):Y5 P w H' h' a o:=by
 induction o with
 |lst xs=>obtain⟨z,YL,n,r,e⟩:=x;exact⟨z,YL,n,r,k _ _ (.inl rfl) e⟩
 |tup xs=>obtain⟨z,YL,r,ob,e,c⟩:=x;exact⟨z,YL,r,ob,k _ _ (.inl rfl) e,c⟩
 |dK kvs=>obtain⟨z,y,vs,r,ob,es,ep,e,c⟩:=x;exact⟨z,y,vs,r,ob,es,ep,k _ _ (.inl rfl) e,c⟩
 |dT kvs=>
  obtain⟨z,y,xs,r,ob,es,ep,e,c⟩:=x;exact⟨z,y,xs,Paired.mapP r λp q z=>⟨z.1,ht _ _ z.2.1,z.2.2⟩,ob,es,ep,k _ _ (.inl rfl) e,c⟩
 |set S n=>obtain⟨ob,es,ep,t,e,c⟩:=x;exact⟨ob,es,ep,t,k _ _ (.inl rfl) e,c⟩
 |ins C dx fs=>
  obtain⟨d,z,ne,e,mA,⟨od,es,ep,e2,c⟩,r⟩:=x;exact⟨ho _ d,z,ne,k _ _ (.inl rfl) e,mA,⟨od,es,ep,k _ _ (.inr d) e2,c⟩,r⟩
 |own y=>obtain⟨ob,e⟩:=x;exact⟨ob,k _ _ (.inl rfl) e⟩
 |xd fs=>obtain⟨mA,⟨od,es,ep,e,c⟩,r⟩:=x;exact⟨mA,⟨od,es,ep,k _ _ (.inl rfl) e,c⟩,r⟩
 |rng lo hi=>obtain⟨t,u,v,e⟩:=x;exact⟨t,u,v,k _ _ (.inl rfl) e⟩
 |frz ob u ih=>obtain⟨e,q⟩:=x;exact⟨k _ _ (.inl rfl) e,ih q⟩
 |tbl ps=>
  have e:=x;exact k a _ (.inl rfl) e
 |met f y=>
  have e:=x;exact k a _ (.inl rfl) e
 |ext φ=>obtain⟨p,⟨o,e⟩,st⟩:=x;exact⟨st _ _ p λo q=>k _ _ (.inl rfl) q,⟨o,k _ _ (.inl rfl) e⟩,st⟩
theorem ZQ.lt(x:ZQ P w H h)(e:H a=KQ o):a<h.objs.size:=(x a o e).lt
def ZQ.fresh(x:ZQ P w H h)(e:h.objs.size<=a):H a=HA:=by
 cases q:H a with
 |none=>rfl
 |some u=>exact absurd (PQ (x.lt q) e) (Qw _)
def ZQ.kept(x:ZQ P w H h)(k:∀b u,h.get? b=KQ u->h'.get? b=KQ u):ZQ P w H h':=λa o e=>
 (x a o e).stay (λb u _ q=>k b u q) (λ_ q=>q) λ_ _ q=>q
def ZQ.laid(x:ZQ P w H h)(k:∀b u,h.get? b=KQ u->h'.get? b=KQ u)(hp:h.objs.size<=a)(new:Y5 P w (upd H a o) h' a o):ZQ P w (upd H a o) h':=λb u e=>by
 have hn:=x.fresh hp
 by_cases hb:b=a
 .subst hb;rw[aQ] at e<;>simp_all
 .rw[aA hb] at e
  exact(x b u e).stay (λc v _ q=>k c v q) (λc q=>by rw[aA (aX q hn)];exact q) λc xs q=>by rw[aA (aX q hn)];exact q
end
def Rd(H:Hp)(a:Addr)(u:HO):Prop:=H a=KQ u\/∃o,H a=KQ (.frz o u)
def Rd.ok(r:Rd H a u)(x:ZQ P w H h):Y5 P w H h a u:=by
 rcases r with r|⟨o,r⟩
 .exact x a u r
 .obtain⟨_,q⟩:=x a _ r
  exact q
def Ez:Option HO->Prop
 |some (.lst _)=>True
 |some (.dK _)=>True
 |some (.dT _)=>True
 |some (.set _ _)=>True
 |some (.ins _ _ _)=>True
 |some (.ext _)=>True
 |_=>False
section
variable {P:Pu}{w:PU}{H:Hp}{h h':Heap}{x e:Addr}{o':HO}
def ZQ.write(ok:ZQ P w H h)(mu:Ez (H x))(he:e=x\/H e=KQ (.own x))(k:∀b u,b≠e->h.get? b=KQ u->h'.get? b=KQ u)(Gq:∃u,h'.get? e=KQ u)
  (new:Y5 P w (upd H x o') h' x o'):ZQ P w (upd H x o') h':=λb u q=>by
 have wj:∀c y,H c=KQ (.own y)->c≠x:=λc y r z=>by subst z;rw[r] at mu;exact mu
 have vE:∀c xs,H c=KQ (.tup xs)->c≠x:=λc xs r z=>by subst z;rw[r] at mu;exact mu
 by_cases hb:b=x
 .subst hb;rw[aQ] at q;cases q;exact new
 .rw[aA hb] at q
  by_cases hbe:b=e
  .have q':H b=KQ (.own x):=by simp_all
   rw[q] at q';cases q';obtain⟨v,hv⟩:=Gq;exact⟨v,by simp_all⟩
  .refine(ok b u q).stay (λc v hc r=>k c v ?_ r) (λc r=>by rw[aA (wj c b r)];exact r) λc xs r=>by rw[aA (vE c xs r)];exact r
   rcases hc with rfl|hc<;>grind
end
structure Un(fs ex:List Addr)(H H':Hp)(h h':Heap):Prop where
 keep:∀b o,h.get? b=KQ o->H b=HA->b∉fs->b∉ex->h'.get? b=KQ o
 slot:∀b o,h.get? b=KQ o->H b=HA->b∈fs->b∉ex->∃sl,h'.get? b=KQ { o with slots:=sl }
 free:∀b o,h.get? b=KQ o->H b=HA->b∉ex->H' b=HA
 there:∀b o,h.get? b=KQ o->b∉ex->∃o',h'.get? b=KQ o'
 tups:∀b xs,H b=KQ (.tup xs)->H' b=KQ (.tup xs)
 frzs:∀b o u,H b=KQ (.frz o u)->H' b=KQ (.frz o u)
 tbls:∀b ps,H b=KQ (.tbl ps)->∃more,H' b=KQ (.tbl (ps++more))
section
variable {fs fs' ex ex':List Addr}{H H1 H2:Hp}{h h1 h2 h':Heap}{a x e:Addr}{o:HO}
def Un.any(u:Un fs ex H H1 h h1)(q:h.get? b=KQ ob)(n:H b=HA)(hx:b∉ex):∃sl,h1.get? b=KQ { ob with slots:=sl }:=by
 by_cases hb:b∈fs
 .exact u.slot b ob q n hb hx
 .exact⟨ob.slots,u.keep b ob q n hb hx⟩
def Un.kept(k:∀b u,h.get? b=KQ u->h'.get? b=KQ u):Un fs ex H H h h':=⟨λb ob q _ _ _=>k b ob q,λb ob q _ _ _=>⟨ob.slots,k b ob q⟩,λ_ _ _ n _=>n,λb ob q _=>⟨ob,k b ob q⟩,λ_ _ q=>q,λ_ _ _ q=>q,λ_ ps q=>⟨#[],by simp_all⟩⟩
def Un.refl:Un fs ex H H h h:=Un.kept λ_ _ q=>q
def Un.laid(k:∀b u,h.get? b=KQ u->h'.get? b=KQ u)(hp:h.objs.size<=a)(hn:H a=HA):Un fs ex H (upd H a o) h h' where
 keep:=λb u q _ _ _=>k b u q
 slot:=λb u q _ _ _=>⟨u.slots,k b u q⟩
 free:=λb u q n _=>by rw[aA (PM (PQ (Pq q) hp))];exact n
 there:=λb u q _=>⟨u,k b u q⟩
 tups:=λb xs q=>by rw[aA (aX q hn)];exact q
 frzs:=λb u xs q=>by rw[aA (aX q hn)];exact q
 tbls:=λb ps q=>⟨#[],by rw[aA (aX q hn),q];simp⟩
def Un.write(mu:Ez (H x))(he:e=x\/H e=KQ (.own x))(k:∀b u,b≠e->h.get? b=KQ u->h'.get? b=KQ u)(Gq:∃u,h'.get? e=KQ u):Un fs ex H (upd H x o) h h':=by
 have hx:∀b,H b=HA->b≠x:=λb n z=>by subst z;rw[n] at mu;exact mu
 have hb:∀b,H b=HA->b≠e:=λb n z=>by simp_all
 have hm:∀b u,H b=KQ u->¬Ez (KQ u)->b≠x:=λb u q nm z=>by simp_all
 refine⟨λb u q n _ _=>k b u (hb b n) q,λb u q n _ _=>⟨u.slots,k b u (hb b n) q⟩,λb u q n _=>by rw[aA (hx b n)];exact n,λb u q _=>?_,
  λb xs q=>by rw[aA (hm b _ q λz=>z)];exact q,λb u xs q=>by rw[aA (hm b _ q λz=>z)];exact q,λb ps q=>⟨#[],by rw[aA (hm b _ q λz=>z),q];simp⟩⟩
 by_cases hbe:b=e<;>simp_all
end
noncomputable def trk(h:Heap)(H:Hp):List Addr:=(RT h.objs.size).filter λa=>(H a).isSome
noncomputable def hJ(h:Heap)(H:Hp):Heap:=PySem.W.hideAll h (trk h H)
noncomputable def zaj(h:Heap)(H:Hp):(hJ h H).objs.size=h.objs.size:=PySem.W.hideAll_size _ _
noncomputable def zak(e:h.get? b=KQ o)(n:H b=HA):(hJ h H).get? b=KQ o:=
 PySem.W.hideAll_get _ e λhm=>by
  have q:=(QH.mp hm).2<;>simp_all
noncomputable def zal(e:(hJ h H).get? b=KQ o):h.get? b=KQ o/\H b=HA:=by
 have e':=PySem.W.of_hideAll _ e;refine⟨e',?_⟩
 cases q:H b with
 |none=>rfl
 |some x=>
  have hm:b∈trk h H:=QH.mpr ⟨VF.mpr (Pq e'),by simp[q]⟩
  have z:(hJ h H).get? b=HA:=PySem.W.hideAll_none _ hm<;>simp_all
noncomputable def Hy(g h:Heap)(L:Addr):List (Addr×Obj):=(RT h.objs.size).filterMap λa=>if a=L\/(g.get? a).isSome=G3 then HA else (h.get? a).map λo=>(a,o)
noncomputable def rest(g h:Heap)(L d:Addr):List (Addr×Obj):=(Hy g h L).filter λp=>decide (p.1≠d)
structure Mod(K:Frag)(mg:Str->Option O9)(base:Heap):Prop where
 kin:K.In base
 glob:base.Ns P1 mg
 blt:∃mb,base.Ns Xo mb/\∀x:Str,x≠"__name__"->mb x=Rx x
 nolimit:base.NoLimit
structure Cx where
 prog:Pu
 w:PU
 K:Frag
 mg:Str->Option O9
 base:Heap
 A:Qa
 N:List Str
 s₀:Pe
 H₀:Hp
 env:Env
 outer:List Env
 stack:List Env
 ex:List Addr
 fn:Str->Bool
 calm:Bool
 pn:List (Addr×Obj)
 xe:O9->Pe->Prop
noncomputable def frs(l:List Env):List Addr:=l.filterMap (·.frame)
abbrev Cx.fs(X:Cx):List Addr:=frs X.outer
def BS(sc:Rk)(x:Str):Prop:=sc.names.lookup x=KQ .local\/sc.names.lookup x=KQ .cell\/sc.names.lookup x=KQ .free
def Loc(sc:Rk)(x:Str):Prop:=sc.names.lookup x=KQ .local\/sc.names.lookup x=KQ .cell
def Look(env:Env)(h:Heap)(m:Str->Option O9)(x:Str)(u:O9):Prop:=(env.kindOf x=KQ .local/\m x=KQ u)\/((env.kindOf x=KQ .cell\/env.kindOf x=KQ .free)/\∃c,env.cells.lookup x=KQ c/\h.IsCell c (KQ u))
structure Cx.Ok(X:Cx):Prop where
 mod:Mod X.K X.mg X.base
 kind:X.env.scope.kind=.function
 glob:X.env.globals=P1
 blt:X.env.builtins=Xo
 above:X.s₀.heap.objs.size<=X.env.locals
 inj:∀x y c,X.env.cells.lookup x=KQ c->X.env.cells.lookup y=KQ c->x=y
 has:∀x,(X.env.kindOf x=KQ .cell\/X.env.kindOf x=KQ .free)->∃c,X.env.cells.lookup x=KQ c
 cab:∀x c,X.fn x=G3->X.env.cells.lookup x=KQ c->X.s₀.heap.objs.size<=c
 hd:X.calm=G3->X.A.handled=HA
 frames:X.A.frames=KQ X.stack
 stk:X.stack=X.outer\/(X.stack=X.env::X.outer/\X.env.frame=KQ X.env.locals)
 exf:∀b∈X.ex,b≠X.env.locals/\∀x c,X.env.cells.lookup x=KQ c->c≠b
 bs:∀b o,X.base.get? b=KQ o->X.s₀.heap.get? b=KQ o/\X.H₀ b=HA
 bsz:X.base.objs.size<=X.s₀.heap.objs.size
 noex:∀b o,X.base.get? b=KQ o->b∉X.ex
 exfs:∀b∈X.ex,b∉X.fs
 funs:X.s₀.heap.FunFrames X.base X.outer
 frf:∀b∈X.fs,X.H₀ b=HA
structure Inv(X:Cx)(pins:List (Addr×Obj))(σ:List (Option V))(H:Hp)(s:Pe):Prop where
 ok:X.Ok
 os:s.os=X.s₀.os
 bare:Us s.gens
 base:Un X.fs X.ex X.H₀ H X.s₀.heap s.heap
 loc:∃m,s.heap.Ns X.env.locals m/\∀(i:Nat) (x:Str) (v:V),X.N[i]? = KQ x->σ[i]? = KQ (KQ v)->BS X.env.scope x->∃u,RelV v u/\Look X.env s.heap m x u
 cell:∀x c,X.env.cells.lookup x=KQ c->∃v,s.heap.IsCell c v
 free:H X.env.locals=HA
 freeC:∀x c,X.env.cells.lookup x=KQ c->H c=HA
 pin:∀p∈X.pn++pins,s.heap.get? p.1=KQ p.2/\H p.1=HA/\p.1≠X.env.locals/\p.1∉X.fs/\∀v,p.2.data≠.cell v
 hok:ZQ X.prog X.w H s.heap
 len:σ.length=X.N.length
section
variable {X:Cx}{pins:List (Addr×Obj)}{σ:List (Option V)}{H H':Hp}{s:Pe}{h':Heap}
def Cx.Ok.nofr(ok:X.Ok)(e:X.base.get? b=KQ o):b∉X.fs:=λhb=>by
 have:=(ok.funs.mem hb).1<;>simp_all
theorem Inv.bs(I:Inv X pins σ H s):∀b o,X.base.get? b=KQ o->s.heap.get? b=KQ o/\H b=HA:=λb o e=>
 ⟨I.base.keep b o (I.ok.bs b o e).1 (I.ok.bs b o e).2 (I.ok.nofr e) (I.ok.noex b o e),I.base.free b o (I.ok.bs b o e).1 (I.ok.bs b o e).2 (I.ok.noex b o e)⟩
def Inv.bk(I:Inv X pins σ H s):∀b o,X.base.get? b=KQ o->s.heap.get? b=KQ o:=λb o e=>(I.bs b o e).1
theorem Inv.mod(I:Inv X pins σ H s):Mod X.K X.mg X.base:=I.ok.mod
def Inv.kIn(I:Inv X pins σ H s):X.K.In s.heap:=I.ok.mod.kin.keeps I.bk
theorem Inv.lt(I:Inv X pins σ H s):X.env.locals<s.heap.objs.size:=let ⟨_,hn,_⟩:=I.loc;hn.lt
def Inv.sz(I:Inv X pins σ H s):X.s₀.heap.objs.size<=s.heap.objs.size:=PB I.ok.above (UX I.lt)
def Inv.nofs(I:Inv X pins σ H s)(h:s.heap.objs.size<=a):a∉X.fs:=λhb=>by
 obtain⟨_,o,ho,_⟩:=I.ok.funs.mem hb;exact absurd (PQ (Pq ho) (PB I.sz h)) (Qw _)
def Inv.cne(I:Inv X pins σ H s):∀x c,X.env.cells.lookup x=KQ c->c≠X.env.locals:=λx c e z=>by
 obtain⟨v,o,ho,hd⟩:=I.cell x c e
 obtain⟨m,⟨o',es,ep,LG,EF,_⟩,_⟩:=I.loc<;>simp_all
theorem Inv.funs(I:Inv X pins σ H s):s.heap.FunFrames X.base X.outer:=by
 have all:∀(l:List Env),(∀b∈frs l,b∈X.fs)->X.s₀.heap.FunFrames X.base l->s.heap.FunFrames X.base l:=by
  intro l
  induction l with
  |nil=>intro _ _;trivial
  |cons env r ih=>
   intro hs hl;obtain⟨hk,⟨L,o,hf,hn,ho,hd⟩,hr⟩:=hl;have hL:=hs L (by unfold frs<;>simp_all);obtain⟨sl,e⟩:=I.base.slot L o ho (I.ok.frf L hL) hL λz=>I.ok.exfs L z hL;exact⟨hk,⟨L,_,hf,hn,e,hd⟩,ih (λb hb=>hs b (by unfold frs;rw[TL,hf];exact Pc _ hb)) hr⟩
 exact all _ (λ_ hb=>hb) I.ok.funs
theorem Inv.stack(I:Inv X pins σ H s):s.heap.FunFrames X.base X.stack:=by
 rcases I.ok.stk with e|⟨e,hf⟩
 .rw[e];exact I.funs
 .rw[e]
  obtain⟨m,hn,_⟩:=I.loc;refine .cons (by rw[I.ok.kind];decide) hf hn ?_ I.funs;exact Heap.get?_none_of_le (PB I.ok.bsz I.ok.above)
def Inv.stkSub(I:Inv X pins σ H s):∀b∈frs X.stack,b∈X.env.locals::X.fs:=λb hb=>by
 rcases I.ok.stk with e|⟨e,hf⟩
 simp_all
 .rw[e] at hb
  unfold frs at hb;rw[TL,hf] at hb;exact hb
def Inv.stkFree(I:Inv X pins σ H s):∀b∈frs X.stack,H b=HA:=λb hb=>by
 rcases Pr.mp (I.stkSub b hb) with e|hb
 .rw[e];exact I.free
 .obtain⟨_,o,ho,_⟩:=I.ok.funs.mem hb
  exact I.base.free b o ho (I.ok.frf b hb) λz=>I.ok.exfs b z hb
def Inv.step{g':Array GenState}{t':Nat}{d':Drawn}{ch:List Addr}(I:Inv X pins σ H s)
  (HW:∀b∈ch,(b∈X.ex\/X.s₀.heap.objs.size<=b)/\b≠X.env.locals/\(∀x c,X.env.cells.lookup x=KQ c->c≠b)/\∀p∈X.pn++pins,p.1≠b)
  (keep:∀b o,b≠X.env.locals->b∉X.fs->b∉ch->s.heap.get? b=KQ o->H b=HA->h'.get? b=KQ o)
  (slot:∀b o,b≠X.env.locals->b∈X.fs->b∉ch->s.heap.get? b=KQ o->H b=HA->∃sl,h'.get? b=KQ { o with slots:=sl }) (free:∀b o,b∉ch->s.heap.get? b=KQ o->H b=HA->H' b=HA)
  (there:∀b o,b∉ch->s.heap.get? b=KQ o->∃o',h'.get? b=KQ o')
  (tups:∀b xs,H b=KQ (.tup xs)->H' b=KQ (.tup xs)) (frzs:∀b o u,H b=KQ (.frz o u)->H' b=KQ (.frz o u)) (tbls:∀b ps,H b=KQ (.tbl ps)->∃more,H' b=KQ (.tbl (ps++more)))
  (ns:∀m,s.heap.Ns X.env.locals m->h'.Ns X.env.locals m) (hok:ZQ X.prog X.w H' h') (hg:Us g') :
  Inv X pins σ H' { s with heap:=h',gens:=g',drawn:=d',toks:=t' }:=by
 have neL:∀b o,X.s₀.heap.get? b=KQ o->b≠X.env.locals:=λb o e=>PM (PQ (Pq e) I.ok.above)
 have DN:∀b o,X.s₀.heap.get? b=KQ o->b∉X.ex->b∉ch:=λb o e hx hb=>by
  rcases(HW b hb).1 with z|z
  .exact hx z
  .exact absurd (PQ (Pq e) z) (Qw _)
 have cellK:∀x c,X.env.cells.lookup x=KQ c->∀v,s.heap.IsCell c v->h'.IsCell c v:=λx c e v ⟨o,ho,hd⟩=>by
  have E7:c∉ch:=λz=>(HW c z).2.2.1 x c e rfl
  by_cases hc:c∈X.fs
  .obtain⟨sl,q⟩:=slot c o (I.cne x c e) hc E7 ho (I.freeC x c e)
   exact⟨_,q,hd⟩
  .exact⟨o,keep c o (I.cne x c e) hc E7 ho (I.freeC x c e),hd⟩
 refine⟨I.ok,I.os,hg,⟨λb o e n hb hx=>?_,λb o e n hb hx=>?_,λb o e n hx=>?_,λb o e hx=>?_,λb xs e=>tups b xs (I.base.tups b xs e),λb o xs e=>frzs b o xs (I.base.frzs b o xs e),λb ps e=>?_⟩,?_,λx c e=>?_,?_,λx c e=>?_,λp hp=>?_,hok,I.len⟩
 .exact keep b o (neL b o e) hb (DN b o e hx) (I.base.keep b o e n hb hx) (I.base.free b o e n hx)
 .obtain⟨sl,e1⟩:=I.base.slot b o e n hb hx
  obtain⟨sl',e2⟩:=slot b _ (neL b o e) hb (DN b o e hx) e1 (I.base.free b o e n hx);exact⟨sl',e2⟩
 .obtain⟨o',e1⟩:=I.base.there b o e hx
  exact free b o' (DN b o e hx) e1 (I.base.free b o e n hx)
 .obtain⟨o',e1⟩:=I.base.there b o e hx
  exact there b o' (DN b o e hx) e1
 .obtain⟨m1,e1⟩:=I.base.tbls b ps e
  obtain⟨m2,e2⟩:=tbls b _ e1;exact⟨m1++m2,by rw[e2,Array.append_assoc]⟩
 .obtain⟨m,hn,hl⟩:=I.loc
  refine⟨m,ns m hn,λi x v e1 e2 e3=>?_⟩;obtain⟨u,r,l⟩:=hl i x v e1 e2 e3;refine⟨u,r,?_⟩
  rcases l with l|⟨k,c,e,z⟩
  .exact .inl l
  .exact .inr ⟨k,c,e,cellK x c e _ z⟩
 .obtain⟨v,z⟩:=I.cell x c e
  exact⟨v,cellK x c e v z⟩
 .obtain⟨m,⟨o,_,_,ho,_⟩,_⟩:=I.loc
  exact free _ o (λz=>(HW _ z).2.1 rfl) ho I.free
 .obtain⟨v,o,ho,hd⟩:=I.cell x c e
  exact free c o (λz=>(HW c z).2.2.1 x c e rfl) ho (I.freeC x c e)
 .obtain⟨e,n,ne,nf,d⟩:=I.pin p hp
  have E7:p.1∉ch:=λz=>(HW p.1 z).2.2.2 p hp rfl;exact⟨keep p.1 p.2 ne nf E7 e n,free p.1 p.2 E7 e n,ne,nf,d⟩
def Inv.un(I:Inv X pins σ H s)(u:Un X.fs [] H H' s.heap h')(hok:ZQ X.prog X.w H' h'):Inv X pins σ H' { s with heap:=h',toks:=t' }:=by
 obtain⟨m,⟨o,es,ep,ho,r⟩,_⟩:=id I.loc;obtain⟨sl,hL⟩:=u.any ho I.free (by simp)
 exact I.step   (ch:=[]) (λ_ z=>nomatch z) (λb o _ hb _ e n=>u.keep b o e n hb (by simp)) (λb o _ hb _ e n=>u.slot b o e n hb (by simp)) (λb o _ e n=>u.free b o e n (by simp)) (λb o _ e=>u.there b o e (by simp)) u.tups u.frzs u.tbls (λm' hm=>by
  obtain⟨o',yi,Ai,LG,r'⟩:=hm;rw[ho] at LG;cases LG
  exact⟨_,yi,Ai,hL,r'⟩) hok I.bare
def Inv.call(I:Inv X pins σ H s)(u:Un (frs X.stack) ch H H' s.heap h')(hok:ZQ X.prog X.w H' h')(hg:Us g')
  (HW:∀b∈ch,(b∈X.ex\/X.s₀.heap.objs.size<=b)/\b≠X.env.locals/\(∀x c,X.env.cells.lookup x=KQ c->c≠b)/\∀p∈X.pn++pins,p.1≠b) :
  Inv X pins σ H' { s with heap:=h',gens:=g',drawn:=d',toks:=t' }:=by
 obtain⟨m,⟨o,es,ep,ho,r⟩,_⟩:=id I.loc;obtain⟨sl,hL⟩:=u.any ho I.free λz=>(HW _ z).2.1 rfl
 exact I.step  HW (λb o hL hb hc e n=>u.keep b o e n (λz=>(Pr.mp (I.stkSub b z)).elim hL hb) hc) (λb o _ _ hc e n=>u.any e n hc) (λb o hc e n=>u.free b o e n hc) (λb o hc e=>u.there b o e hc) u.tups u.frzs u.tbls (λm' hm=>by
  obtain⟨o',yi,Ai,LG,r'⟩:=hm;rw[ho] at LG;cases LG
  exact⟨_,yi,Ai,hL,r'⟩) hok hg
def Inv.turned(I:Inv X pins σ H s)(k:∀b o,b≠it->s.heap.get? b=KQ o->h'.get? b=KQ o)(hn:H it=HA)(hL:it≠X.env.locals)
  (h1:it∈X.ex\/X.s₀.heap.objs.size<=it) (h2:∀x c,X.env.cells.lookup x=KQ c->c≠it) (h3:∀p∈X.pn++pins,p.1≠it):Inv X pins σ H { s with heap:=h',toks:=t' }:=by
 have HE:∀b u,H b=KQ u->b≠it:=λb u e z=>by simp_all
 refine I.step   (ch:=[it]) (λb hb=>?_) (λb o _ _ hc e _=>k b o (λz=>hc (by simp[z])) e) (λb o _ _ hc e _=>⟨o.slots,k b o (λz=>hc (by simp[z])) e⟩) (λ_ _ _ _ n=>n)
  (λb o hc e=>⟨o,k b o (λz=>hc (by simp[z])) e⟩) (λ_ _ e=>e) (λ_ _ _ e=>e) (λb ps e=>⟨#[],by simp_all⟩) (λm hm=>?_) (λb u e=>?_) I.bare
 .have e:=by simpa using hb
  subst e;exact⟨h1,hL,h2,h3⟩
 .obtain⟨o,es,ep,ho,r⟩:=hm
  exact⟨o,es,ep,k _ o (P3 hL) ho,r⟩
 .refine(I.hok b u e).stay (λc v hc q=>k c v ?_ q) (λ_ q=>q) λ_ _ q=>q
  rcases hc with z|z
  .rw[z];exact HE b u e
  .exact HE c _ z
def Inv.tok(I:Inv X pins σ H s)(t:Nat):Inv X pins σ H { s with toks:=t }:=I.un   Un.refl I.hok
theorem Inv.kept(I:Inv X pins σ H s)(k:∀b u,s.heap.get? b=KQ u->h'.get? b=KQ u):Inv X pins σ H { s with heap:=h',toks:=t' }:=I.un (Un.kept k) (I.hok.kept k)
theorem Inv.laid(I:Inv X pins σ H s)(k:∀b u,s.heap.get? b=KQ u->h'.get? b=KQ u)(hp:s.heap.objs.size<=a)(new:Y5 X.prog X.w (upd H a o) h' a o) :
  Inv X pins σ (upd H a o) { s with heap:=h',toks:=t' }:=I.un (Un.laid k hp (I.hok.fresh hp)) (I.hok.laid k hp new)
theorem Inv.write(I:Inv X pins σ H s)(mu:Ez (H x))(he:e=x\/H e=KQ (.own x))(k:∀b u,b≠e->s.heap.get? b=KQ u->h'.get? b=KQ u)(Gq:∃u,h'.get? e=KQ u)
  (new:Y5 X.prog X.w (upd H x o) h' x o):Inv X pins σ (upd H x o) { s with heap:=h',toks:=t' }:=I.un (Un.write mu he k Gq) (I.hok.write mu he k Gq new)
def Inv.pins_of(I:Inv X pins σ H s)(h:∀p∈Dw,s.heap.get? p.1=KQ p.2/\H p.1=HA/\p.1≠X.env.locals/\p.1∉X.fs/\∀v,p.2.data≠.cell v):Inv X Dw σ H s:=⟨I.ok,I.os,I.bare,I.base,I.loc,I.cell,I.free,I.freeC,λp hp=>(Pt.mp hp).elim (λz=>I.pin p (P6 _ z)) (h p),I.hok,I.len⟩
noncomputable def zrn{N:List Str}(hN:N.Nodup){i j:Nat}{x:Str}(a:N[i]? = KQ x)(b:N[j]? = KQ x):i=j:=by
 obtain⟨h1,e1⟩:=Pa.mp a;obtain⟨h2,e2⟩:=Pa.mp b;exact(List.getElem_inj hN).mp (e1.trans e2.symm)
noncomputable def zro(I:Inv X pins σ H s)(hN:X.N.Nodup)(hi:X.N[i]? = KQ x)(hx:Loc X.env.scope x)(r:RelV v u)
  (h:∀s',Inv X pins (σ.set i (KQ v)) H s'->(∃a,Q2 a s.heap s'.heap/\(a=X.env.locals\/X.env.cells.lookup x=KQ a))->Q () s') (hf:autoParam (X.fn x=G3\/X.env.scope.names.lookup x=KQ .local) u15):PK M A (storeName X.env x u) Q E s:=by
 obtain⟨m,hn,hl⟩:=id I.loc
 have yP:(X.env.scope.kind == .class||(X.env.scope.kind == .module&&X.env.locals != X.env.globals))=Gy:=by rw[I.ok.kind];rfl
 have Hf:i<σ.length:=by rw[I.len];exact(Pa.mp hi).1
 have cne:=I.cne
 have tracked:∀{a:Addr}{h':Heap},(∃o,s.heap.get? a=KQ o/\H a=HA)->Q2 a s.heap h'->ZQ X.prog X.w H h':=λ{a h'} ha hs b ob e=>by
  obtain⟨_,_,hfree⟩:=ha;refine(I.hok b ob e).stay (λc w' hc q=>(hs.2 c ?_).trans q) (λ_ q=>q) λ_ _ q=>q;rintro rfl
  rcases hc with rfl|hc
  .simp_all
  .simp_all
 rcases hx with hk|hk
 .refine wpAny_storeName_local hk hn (λh' Kw hs=>?_) yP
  obtain⟨oL,_,_,hoL,_⟩:=id hn;refine h _ ⟨I.ok,I.os,I.bare,⟨λb o e n hb hx=>?_,λb o e n hb hx=>?_,I.base.free,λb o e hx=>?_,I.base.tups,I.base.frzs,I.base.tbls⟩,⟨_,Kw,λj y v' e1 e2 e3=>?_⟩,λy c e=>?_,I.free,I.freeC,λp hp=>?_,tracked ⟨oL,hoL,I.free⟩ hs,by simpa using I.len⟩ ⟨_,hs,.inl rfl⟩
  .exact(hs.2 b (PM (PQ (Pq e) I.ok.above))).trans (I.base.keep b o e n hb hx)
  .obtain⟨sl,e1⟩:=I.base.slot b o e n hb hx
   exact⟨sl,(hs.2 b (PM (PQ (Pq e) I.ok.above))).trans e1⟩
  .obtain⟨o',e1⟩:=I.base.there b o e hx
   exact⟨o',(hs.2 b (PM (PQ (Pq e) I.ok.above))).trans e1⟩
  .by_cases hj:j=i
   .subst hj
    rw[hi] at e1;cases e1;rw[Pm Hf] at e2;cases e2;exact⟨u,r,.inl ⟨hk,by simp⟩⟩
   .rw[Pj (P3 hj)] at e2
    obtain⟨u',r',q⟩:=hl j y v' e1 e2 e3;refine⟨u',r',?_⟩
    rcases q with⟨k,e⟩|⟨k,c,e,z⟩
    .refine .inl ⟨k,?_⟩
     have:y≠x:=λe=>hj (zrn hN e1 (e ▸ hi));simp[this,e]
    .exact .inr ⟨k,c,e,z.sameBut hs (cne y c e)⟩
  .obtain⟨w',z⟩:=I.cell y c e
   exact⟨w',z.sameBut hs (cne y c e)⟩
  .obtain⟨e,n,ne,nf,d⟩:=I.pin p hp
   exact⟨(hs.2 p.1 ne).trans e,n,ne,nf,d⟩
 .have wJ:X.fn x=G3:=by
   rcases hf with z|z
   .exact z
   .rw[z] at hk;cases hk
  obtain⟨c,hc⟩:=I.ok.has x (.inl hk);obtain⟨w',z⟩:=I.cell x c hc;refine wpAny_storeName_cell I.ok.kind hk hc z (λh' E8 hs=>?_);obtain⟨oc,hoc,vO⟩:=id z;refine h { s with heap:=h' } ⟨I.ok,I.os,I.bare,⟨λb o e n hb hx=>?_,λb o e n hb hx=>?_,I.base.free,λb o e hx=>?_,I.base.tups,I.base.frzs,I.base.tbls⟩,⟨m,hn.sameBut hs (P3 (cne x c hc)),λj y v' e1 e2 e3=>?_⟩,λy c' e=>?_,I.free,I.freeC,λp hp=>?_,tracked ⟨oc,hoc,I.freeC x c hc⟩ hs,by simpa using I.len⟩ ⟨c,hs,.inr hc⟩
  .exact(hs.2 b (PM (PQ (Pq e) (I.ok.cab x c wJ hc)))).trans (I.base.keep b o e n hb hx)
  .obtain⟨sl,e1⟩:=I.base.slot b o e n hb hx
   exact⟨sl,(hs.2 b (PM (PQ (Pq e) (I.ok.cab x c wJ hc)))).trans e1⟩
  .obtain⟨o',e1⟩:=I.base.there b o e hx
   exact⟨o',(hs.2 b (PM (PQ (Pq e) (I.ok.cab x c wJ hc)))).trans e1⟩
  .by_cases hj:j=i
   .subst hj
    rw[hi] at e1;cases e1;rw[Pm Hf] at e2;cases e2;exact⟨u,r,.inr ⟨.inl hk,c,hc,E8⟩⟩
   .rw[Pj (P3 hj)] at e2
    obtain⟨u',r',q⟩:=hl j y v' e1 e2 e3;refine⟨u',r',?_⟩
    rcases q with q|⟨k,c',e,z'⟩
    .exact .inl q
    .refine .inr ⟨k,c',e,z'.sameBut hs ?_⟩
     rintro rfl;exact hj (zrn hN e1 (I.ok.inj _ _ _ e hc ▸ hi))
  .by_cases hcc:c'=c
   .subst hcc;exact⟨_,E8⟩
   .obtain⟨w2,z2⟩:=I.cell y c' e
    exact⟨w2,z2.sameBut hs hcc⟩
  .obtain⟨e,n,ne,nf,d⟩:=I.pin p hp
   refine⟨(hs.2 p.1 ?_).trans e,n,ne,nf,d⟩;intro q;rw[q,hoc] at e;have q':oc=p.2:=Rw e;exact d w' (by rw[←q'];exact vO)
noncomputable def rn(I:Inv X pins σ H s)(hN:X.N.Nodup)(hi:X.N[i]? = KQ x)(hx:Loc X.env.scope x)(r:RelV v u)
  (h:∀s',Inv X pins (σ.set i (KQ v)) H s'->Q () s') (hf:autoParam (X.fn x=G3\/X.env.scope.names.lookup x=KQ .local) u15):PK M A (storeName X.env x u) Q E s:=zro I hN hi hx r (λs' I' _=>h s' I') hf
def Inv.call'(I:Inv X pins σ H s)(ho:s'.os=s.os)(u:Un (frs X.stack) ch H H' s.heap s'.heap)(hok:ZQ X.prog X.w H' s'.heap)(hg:Us s'.gens)
  (HW:∀b∈ch,(b∈X.ex\/X.s₀.heap.objs.size<=b)/\b≠X.env.locals/\(∀x c,X.env.cells.lookup x=KQ c->c≠b)/\∀p∈X.pn++pins,p.1≠b):Inv X pins σ H' s':=by
 obtain⟨h',g',d',t',o'⟩:=s';have e:=ho;subst e;exact I.call    u hok hg HW
end
abbrev XK:=O9->Option Addr->Hp->Prop
abbrev St:=List (Option V)
abbrev VK:=V->Hp->Prop
abbrev TE:=St->Hp->VK->Prop
abbrev TT:=St->Hp->(Bool->Hp->Prop)->Prop
abbrev TA:=St->Hp->(List V->Hp->Prop)->Prop
structure Ends where
 nx:St->Hp->Prop
 rt:VK
 bk:St->Hp->Prop:=λ_ _=>False
 ct:St->Hp->Prop:=λ_ _=>False
abbrev TS:=Ends->St->Hp->Prop
def EP(X:Cx)(pins:List (Addr×Obj))(σ:St)(Q:VK)(u:O9)(s':Pe):Prop:=∃v H',Inv X pins σ H' s'/\RelV v u/\Q v H'
def TP(X:Cx)(pins:List (Addr×Obj))(σ:St)(Q:Bool->Hp->Prop)(b:Bool)(s':Pe):Prop:=∃H',Inv X pins σ H' s'/\Q b H'
def AP(X:Cx)(pins:List (Addr×Obj))(σ:St)(Q:List V->Hp->Prop)(us:List O9)(s':Pe):Prop:=∃vs H',Inv X pins σ H' s'/\YQ vs us/\Q vs H'
def SP(X:Cx)(pins:List (Addr×Obj))(D:Ends)(f:Flow)(s':Pe):Prop:=
 match f with
 |.next=>∃σ' H',Inv X pins σ' H' s'/\D.nx σ' H'
 |.brk=>∃σ' H',Inv X pins σ' H' s'/\D.bk σ' H'
 |.cont=>∃σ' H',Inv X pins σ' H' s'/\D.ct σ' H'
 |.ret u=>∃v σ' H',Inv X pins σ' H' s'/\RelV v u/\D.rt v H'
def PE(X:Cx)(e:Expr)(t:TE):Prop:=∀(pins:List (Addr×Obj)) (s:Pe) (σ:St) (H:Hp) (Q:VK),Inv X pins σ H s->t σ H Q->PK (PP X.prog X.w) X.A (eval e X.env) (EP X pins σ Q) X.xe s
def PT(X:Cx)(e:Expr)(t:TT):Prop:=∀(pins:List (Addr×Obj)) (s:Pe) (σ:St) (H:Hp) (Q:Bool->Hp->Prop),Inv X pins σ H s->t σ H Q->PK (PP X.prog X.w) X.A (WP e X.env (eval e X.env)) (TP X pins σ Q) X.xe s
def PW(X:Cx)(e:Expr)(t:TT):Prop:=∀(whole:Sem O9) (pins:List (Addr×Obj)) (s:Pe) (σ:St) (H:Hp) (Q:Bool->Hp->Prop),Inv X pins σ H s->t σ H Q->PK (PP X.prog X.w) X.A (WP e X.env whole) (TP X pins σ Q) X.xe s
def PW.pt(h:PW X e t):PT X e t:=h _
def PA(X:Cx)(es:List Expr)(t:TA):Prop:=∀(pos:Pos) (pins:List (Addr×Obj)) (s:Pe) (σ:St) (H:Hp) (Q:List V->Hp->Prop),Inv X pins σ H s->t σ H Q->PK (PP X.prog X.w) X.A (spliced (Qj pos (Pi es X.env))) (AP X pins σ Q) X.xe s
def PS(X:Cx)(st:Stmt)(t:TS):Prop:=∀(pins:List (Addr×Obj)) (s:Pe) (σ:St) (H:Hp) (D:Ends),Inv X pins σ H s->t D σ H->PK (PP X.prog X.w) X.A (exec st X.env) (SP X pins D) X.xe s
def Kl(X:Cx)(st:List Stmt)(t:TS):Prop:=∀(pins:List (Addr×Obj)) (s:Pe) (σ:St) (H:Hp) (D:Ends),Inv X pins σ H s->t D σ H->PK (PP X.prog X.w) X.A (execs st X.env) (SP X pins D) X.xe s
noncomputable def YZ{α:Type}{t:Sem α}{Q Q':α->Pe->Prop}{M:Model}{A:Qa}{E:O9->Pe->Prop}{s:Pe}(h:PK M A t Q E s)(hQ:∀a s,Q a s->Q' a s):PK M A t Q' E s:=QC h hQ λ_ _ x=>x
section
variable {X:Cx}
noncomputable def A4(i:Nat):TE:=λσ H Q=>∃v,σ[i]? = KQ (KQ v)/\Q v H
def tC(v:V):TE:=λ_ H Q=>Q v H
noncomputable def zam(hN:X.N[i]? = KQ x)(hv:BS X.env.scope x)(hd:autoParam ((x == ("__debug__" : Str))=Gy) u11)(hcd:autoParam ((x == ("__classdict__" : Str))=Gy) u11):PE X (.Name x pos) (A4 i):=by
 intro pins s σ H Q I h;obtain⟨v,e,h⟩:=h;obtain⟨m,hn,hl⟩:=I.loc;obtain⟨u,r,l⟩:=hl i x v hN e hv;have fin:EP X pins σ Q u s:=⟨v,H,I,r,h⟩
 rcases l with⟨hk,hm⟩|⟨hk,c,hc,KL⟩
 .exact Xp (wpAny_loadName_local I.ok.kind hk hn hm fin) hd
 .rcases hk with hk|hk
  .exact Xp (wpAny_loadName_cell I.ok.kind hk hc KL fin) hd
  .exact Xp (wpAny_loadName_free I.ok.kind hk hc KL fin hcd) hd
noncomputable def et{i j pos}:PE X (.Constant (.int i) j pos) (tC (.int i)):=λ_ _ _ H _ I h=>wpAny_Constant_int ⟨.int i,H,I.tok _,⟨_,rfl⟩,h⟩
noncomputable def jy{b j pos}:PE X (.Constant (.bool b) j pos) (tC (.bl b)):=λ_ _ _ H _ I h=>Constant_bool ⟨.bl b,H,I,rfl,h⟩
noncomputable def zan{j pos}:PE X (.Constant .none j pos) (tC .non):=λ_ _ _ H _ I h=>V4 ⟨.non,H,I,rfl,h⟩
def tw{x j pos}:PE X (.Constant (.str x) j pos) (tC (.str x)):=λ_ _ _ H _ I h=>Calls.Constant_str ⟨.str x,H,I.tok _,⟨_,rfl⟩,h⟩
def Gl(X:Cx)(x:Str):Prop:=X.env.kindOf x=KQ .globalImplicit
noncomputable def oy(I:Inv X pins σ H s)(hg:Gl X x)(hm:X.mg x=KQ u)(h:Q u s)
  (hd:autoParam ((x == ("__debug__" : Str))=Gy) u11):PK (PP X.prog X.w) X.A (eval (.Name x pos) X.env) Q E s:=Ub I.ok.kind hg (Calls.loadGlobal_global (by rw[I.ok.glob];exact I.mod.glob.keeps I.bk) hm h) hd
noncomputable def mE(I:Inv X pins σ H s)(hg:Gl X x)(hm:X.mg x=HA)(hv:Rx x=KQ u)(h:Q u s)
  (hn:autoParam (x≠"__name__") u11) (hd:autoParam ((x == ("__debug__" : Str))=Gy) u11):PK (PP X.prog X.w) X.A (eval (.Name x pos) X.env) Q E s:=by
 obtain⟨mb,h1,h2⟩:=I.mod.blt;exact Ub I.ok.kind hg (Calls.loadGlobal_builtin (by rw[I.ok.glob];exact I.mod.glob.keeps I.bk) hm (by rw[I.ok.blt];exact h1.keeps I.bk) ((h2 x hn).trans hv) h) hd
noncomputable def j8(hg:Gl X x)(hm:X.mg x=KQ u)(r:RelV v u)(hd:autoParam ((x == ("__debug__" : Str))=Gy) u11):PE X (.Name x pos) (tC v):=λ_ _ _ H _ I h=>oy I hg hm ⟨v,H,I,r,h⟩ hd
noncomputable def zao(hg:Gl X x)(hm:X.mg x=HA)(hv:Rx x=KQ u)(r:RelV v u)(hn:autoParam (x≠"__name__") u11)(hd:autoParam ((x == ("__debug__" : Str))=Gy) u11):PE X (.Name x pos) (tC v):=λ_ _ _ H _ I h=>mE I hg hm hv ⟨v,H,I,r,h⟩ hn hd
variable {a b:Expr}{ta tb:TE}{pos:Pos}
def PC(X:Cx)(op:Vh)(a b:Expr)(t:TE):Prop:=
 ∀(pins:List (Addr×Obj)) (s:Pe) (σ:St) (H:Hp) (Q:VK),Inv X pins σ H s->t σ H Q ->
  PK (PP X.prog X.w) X.A (eval a X.env) (λv EO=>PK (PP X.prog X.w) X.A (eval b X.env) (λu DM=>PK (PP X.prog X.w) X.A (PX op v u) (EP X pins σ Q) X.xe DM) X.xe EO) X.xe s
noncomputable def zrp(b:Expr)(h:op≠.In)(h2:op≠.NotIn):QS op b=Gy:=by
 have e1:(op == CmpOp.In)=Gy:=by cases op <;> first|rfl|exact absurd rfl h
 have e2:(op == Yv)=Gy:=by cases op <;> first|rfl|exact absurd rfl h2
 cases b <;> simp[QS,e1,e2]
noncomputable def Lh(ta:TE):TE:=λσ H Q=>ta σ H λx H1=>Q (.bl (decide (x=.non))) H1
noncomputable def JP(ta:TE):TE:=λσ H Q=>ta σ H λx H1=>Q (.bl (!decide (x=.non))) H1
def RelV.none_iff(r:RelV x v):(v == QW)=decide (x=.non):=by
 cases x with
 |non=>cases r;rfl
 |bl _=>cases r;rfl
 |int _=>obtain⟨t,rfl⟩:=r;rfl
 |str _=>obtain⟨t,rfl⟩:=r;rfl
 |byt _=>obtain⟨t,rfl⟩:=r;rfl
 |flt _=>obtain⟨t,rfl⟩:=r;rfl
 |ref _=>cases r;rfl
 |ty _=>cases r;rfl
noncomputable def zap{j pos'}(ha:PE X a ta):PC X .Is a (.Constant .none j pos') (Lh ta):=by
 intro pins s σ H Q I h;refine YZ (ha pins s σ H _ I h) λv s1 ⟨x,H1,I1,r1,q1⟩=>?_;exact V4 (is_none_gen ⟨.bl _,H1,I1,by rw[r1.none_iff];rfl,q1⟩)
noncomputable def zaq{j pos'}(ha:PE X a ta):PC X .IsNot a (.Constant .none j pos') (JP ta):=by
 intro pins s σ H Q I h;refine YZ (ha pins s σ H _ I h) λv s1 ⟨x,H1,I1,r1,q1⟩=>?_;exact V4 (isnot_none_gen ⟨.bl _,H1,I1,by rw[r1.none_iff];rfl,q1⟩)
noncomputable def tB(t:TE):TT:=λσ H Q=>t σ H λx H1=>∃c,x=.bl c/\Q c H1
noncomputable def zar(h:PC X op a b t)(h1:autoParam (QS op b=Gy) u26):PE X (.Compare a [op] [b] pos) t:=λpins s σ H Q I hw=>wpAny_Compare1 (h pins s σ H Q I hw) h1
noncomputable def zrq(h:PC X op a b t)(h1:autoParam (QS op b=Gy) u26):PT X (.Compare a [op] [b] pos) (tB t):=by
 intro pins s σ H Q I hw;refine Vo (YZ (h pins s σ H _ I hw) λv s1 h1=>YZ h1 λu s2 h2=>YZ h2 λc s3 ⟨x,H1,I1,r1,q1⟩=>?_) h1;obtain⟨d,rfl,q⟩:=q1;cases r1;exact Qx ⟨H1,I1,q⟩
noncomputable def zas(h:PE X e t)(he:autoParam (∀whole,WP e X.env whole=(do let v ←whole;VY e.pos;VZ [v] (truthy v))) u16):PT X e (tB t):=by
 intro pins s σ H Q I hw;refine isTrue_plain (YZ (h pins s σ H _ I hw) λv s1 ⟨x,H1,I1,r1,q1⟩=>?_) (he _);obtain⟨d,rfl,q⟩:=q1;cases r1;exact Qx ⟨H1,I1,q⟩
variable {tA BO:TT}{rest:List Expr}
noncomputable def Lm(t u:TT):TT:=λσ H Q=>t σ H λc H1=>if c=G3 then u σ H1 Q else Q Gy H1
noncomputable def tOr(t u:TT):TT:=λσ H Q=>t σ H λc H1=>if c=G3 then Q G3 H1 else u σ H1 Q
def Lf(t:TT):TT:=λσ H Q=>t σ H λc H1=>Q (!c) H1
noncomputable def zat(ha:PT X a tA):PW X (.BoolOp .And [a] pos) tA:=by
 intro wh pins s σ H Q I h;refine isTrue_and (YZ (ha pins s σ H Q I h) λc s1 e=>?_)
 cases c with
 |true=>exact isTrue_and_nil e
 |false=>exact e
noncomputable def tj(ha:PT X a tA):PW X (.BoolOp .Or [a] pos) tA:=by
 intro wh pins s σ H Q I h;refine isTrue_or (YZ (ha pins s σ H Q I h) λc s1 e=>?_)
 cases c with
 |false=>exact isTrue_or_nil e
 |true=>exact e
noncomputable def zau(ha:PT X a tA)(hb:PW X (.BoolOp .And (b::rest) pos) BO):PW X (.BoolOp .And (a::b::rest) pos) (Lm tA BO):=by
 intro wh pins s σ H Q I h;refine isTrue_and (YZ (ha pins s σ H _ I h) λc s1 ⟨H1,I1,q1⟩=>?_)
 cases c with
 |true=>exact hb wh pins s1 σ H1 Q I1 q1
 |false=>exact⟨H1,I1,q1⟩
noncomputable def pH(ha:PT X a tA)(hb:PW X (.BoolOp .Or (b::rest) pos) BO):PW X (.BoolOp .Or (a::b::rest) pos) (tOr tA BO):=by
 intro wh pins s σ H Q I h;refine isTrue_or (YZ (ha pins s σ H _ I h) λc s1 ⟨H1,I1,q1⟩=>?_)
 cases c with
 |true=>exact⟨H1,I1,q1⟩
 |false=>exact hb wh pins s1 σ H1 Q I1 q1
noncomputable def zrr(ha:PT X a tA):PT X (.UnaryOp .Not a pos) (Lf tA):=by
 intro pins s σ H Q I h;exact isTrue_not (ha pins s σ H _ I h)
noncomputable def JV(ta tb:TE):TE:=λσ H Q=>ta σ H λx H1=>∃c,x=.bl c/\if c=G3 then tb σ H1 Q else Q (.bl Gy) H1
noncomputable def Ld(ta tb:TE):TE:=λσ H Q=>ta σ H λx H1=>∃c,x=.bl c/\if c=G3 then Q (.bl G3) H1 else tb σ H1 Q
noncomputable def JO(ta:TE):TE:=λσ H Q=>ta σ H λx H1=>∃c,x=.bl c/\Q (.bl (!c)) H1
noncomputable def zrs{op}(h:PE X a t):PE X (.BoolOp op [a] pos) t:=λpins s σ H Q I hw=>BoolOp_one (h pins s σ H Q I hw)
noncomputable def zrt(ha:PE X a ta)(hb:PE X (.BoolOp .And (b::rest) pos) tb):PE X (.BoolOp .And (a::b::rest) pos) (JV ta tb):=by
 intro pins s σ H Q I h;refine BoolOp_and (YZ (ha pins s σ H _ I h) λv s1 ⟨x,H1,I1,r1,q1⟩=>?_);obtain⟨c,rfl,q1⟩:=q1;cases r1;refine Qx ?_
 cases c with
 |true=>exact hb pins s1 σ H1 Q I1 q1
 |false=>exact⟨.bl _,H1,I1,rfl,q1⟩
noncomputable def zav(ha:PE X a ta)(hb:PE X (.BoolOp .Or (b::rest) pos) tb):PE X (.BoolOp .Or (a::b::rest) pos) (Ld ta tb):=by
 intro pins s σ H Q I h;refine BoolOp_or (YZ (ha pins s σ H _ I h) λv s1 ⟨x,H1,I1,r1,q1⟩=>?_);obtain⟨c,rfl,q1⟩:=q1;cases r1;refine Qx ?_
 cases c with
 |false=>exact hb pins s1 σ H1 Q I1 q1
 |true=>exact⟨.bl G3,H1,I1,rfl,q1⟩
noncomputable def zaw(ha:PE X a ta):PE X (.UnaryOp .Not a pos) (JO ta):=by
 intro pins s σ H Q I h;refine UnaryOp_ (YZ (ha pins s σ H _ I h) λv s1 ⟨x,H1,I1,r1,q1⟩=>?_);obtain⟨c,rfl,q1⟩:=q1;cases r1;exact not_of (Qx ⟨.bl (!c),H1,I1,rfl,q1⟩)
noncomputable def tIf(t:TT)(ta tb:TE):TE:=λσ H Q=>t σ H λc H1=>if c=G3 then ta σ H1 Q else tb σ H1 Q
noncomputable def zax(hc:PT X c tA)(ha:PE X a ta)(hb:PE X b tb):PE X (.IfExp c a b pos) (tIf tA ta tb):=by
 intro pins s σ H Q I h;refine wpAny_IfExp (YZ (hc pins s σ H _ I h) λd s1 ⟨H1,I1,q1⟩=>?_)
 cases d with
 |true=>exact ha pins s1 σ H1 Q I1 q1
 |false=>exact hb pins s1 σ H1 Q I1 q1
end
def Zc(K:Frag)(H:Hp)(a:Addr)(xs:List V):Prop:=
 Rd H a (.lst xs) \/
  ∃(o:Obj) (YL:Array O9) (n:Nat),K.lookup a=KQ o/\o.cls=.type "list"/\o.dict=HA/\o.data=.seq YL n/\YL.size<=Ph/\YQ xs YL.toList
def ZJ(K:Frag)(H:Hp)(a:Addr)(xs:List V):Prop:=
 Rd H a (.tup xs) \/
  ∃(o:Obj) (YL:Array O9) (n:Nat),K.lookup a=KQ o/\o.cls=.type "tuple"/\o.data=.seq YL n/\YL.size<=Ph/\YQ xs YL.toList
noncomputable def LH:O9->Option V
 |.none=>KQ .non
 |.bool b=>KQ (.bl b)
 |.int i _=>KQ (.int i)
 |.str x _=>KQ (.str x)
 |.bytes b _=>KQ (.byt b)
 |.float b _=>KQ (.flt b)
 |.ref a=>KQ (.ref a)
 |.type n=>KQ (.ty n)
 |_=>HA
def RelV.abs(r:RelV x u):LH u=KQ x:=by
 cases x with
 |non=>cases r;rfl
 |bl _=>cases r;rfl
 |int _=>obtain⟨t,rfl⟩:=r;rfl
 |str _=>obtain⟨t,rfl⟩:=r;rfl
 |byt _=>obtain⟨t,rfl⟩:=r;rfl
 |flt _=>obtain⟨t,rfl⟩:=r;rfl
 |ref _=>cases r;rfl
 |ty _=>cases r;rfl
def RelV.inj(r:RelV x u)(q:RelV y u):x=y:=Rw (r.abs.symm.trans q.abs)
theorem YQ.inj:∀{xs ys:List V}{us:List O9},YQ xs us->YQ ys us->xs=ys
 |_,_,_,.nil,.nil=>rfl
 |_,_,_,.cons r t,.cons r' t'=>by rw[r.inj r',YQ.inj t t']
section
variable {X:Cx}{pins:List (Addr×Obj)}{σ:St}{H:Hp}{s:Pe}{a:Addr}{xs ys:List V}
def Zc.of{K:Frag}(h:H a=KQ (.lst xs)):Zc K H a xs:=.inl (.inl h)
def ZJ.of{K:Frag}(h:H a=KQ (.tup xs)):ZJ K H a xs:=.inl (.inl h)
def Inv.list(I:Inv X pins σ H s)(h:Zc X.K H a xs):∃YL:List O9,YQ xs YL/\PlainL s.heap a YL.toArray/\xs.length<=sizeLine:=by
 rcases h with h|⟨o,YL,n,hk,hc,hd,hs,hz,r⟩
 .obtain⟨z,YL,n,r,e⟩:=h.ok I.hok
  exact⟨YL,r,⟨_,n,e,rfl,rfl,rfl⟩,z⟩
 .refine⟨YL.toList,r,⟨o,n,I.kIn a o hk,hc,hd,by omega⟩,?_⟩
  have e:=r.length<;>simp_all
def Inv.tuple(I:Inv X pins σ H s)(h:ZJ X.K H a xs):∃YL:List O9,YQ xs YL/\Xm s.heap a YL.toArray/\xs.length<=sizeLine:=by
 rcases h with h|⟨o,YL,n,hk,hc,hs,hz,r⟩
 .obtain⟨z,YL,r,p⟩:=h.ok I.hok
  exact⟨YL,r,p,z⟩
 .refine⟨YL.toList,r,⟨o,I.kIn a o hk,hc,n,by omega⟩,?_⟩
  have e:=r.length<;>grind
def Inv.list_inj(I:Inv X pins σ H s)(h:Zc X.K H a xs)(h':Zc X.K H a ys):xs=ys:=by
 obtain⟨YL,r,⟨o,n,e,_,_,d⟩,_⟩:=I.list h;obtain⟨its',r',⟨o',n',e',_,_,d'⟩,_⟩:=I.list h'
 rw[e] at e';have:YL=its':=by simp_all
 subst this;exact r.inj r'
def Inv.tuple_inj(I:Inv X pins σ H s)(h:ZJ X.K H a xs)(h':ZJ X.K H a ys):xs=ys:=by
 obtain⟨YL,r,⟨o,e,_,n,d⟩,_⟩:=I.tuple h;obtain⟨its',r',⟨o',e',_,n',d'⟩,_⟩:=I.tuple h'
 rw[e] at e';have:YL=its':=by simp_all
 subst this;exact r.inj r'
end
noncomputable abbrev Cx.wish(X:Cx)(E:O9->Pe->Prop):Cx:={ X with xe:=E }
noncomputable abbrev Cx.nox(X:Cx):Cx:=X.wish λ_ _=>False
theorem Cx.Ok.wish{X:Cx}(ok:X.Ok)(E:O9->Pe->Prop):(X.wish E).Ok:=⟨ok.mod,ok.kind,ok.glob,ok.blt,ok.above,ok.inj,ok.has,ok.cab,ok.hd,ok.frames,ok.stk,ok.exf,ok.bs,ok.bsz,ok.noex,ok.exfs,ok.funs,ok.frf⟩
def Cx.Ok.unwish{X:Cx}{E:O9->Pe->Prop}(ok:(X.wish E).Ok):X.Ok:=⟨ok.mod,ok.kind,ok.glob,ok.blt,ok.above,ok.inj,ok.has,ok.cab,ok.hd,ok.frames,ok.stk,ok.exf,ok.bs,ok.bsz,ok.noex,ok.exfs,ok.funs,ok.frf⟩
section
variable {X:Cx}{pins:List (Addr×Obj)}{σ:St}{H:Hp}{s:Pe}{E:O9->Pe->Prop}{st:Stmt}{rest:List Stmt}{t u:TS}{e:Expr}{te:TE}{pos:Pos}
theorem Inv.wish(I:Inv X pins σ H s)(E:O9->Pe->Prop):Inv (X.wish E) pins σ H s:=⟨I.ok.wish E,I.os,I.bare,I.base,I.loc,I.cell,I.free,I.freeC,I.pin,I.hok,I.len⟩
theorem Inv.unwish(I:Inv (X.wish E) pins σ H s):Inv X pins σ H s:=⟨I.ok.unwish,I.os,I.bare,I.base,I.loc,I.cell,I.free,I.freeC,I.pin,I.hok,I.len⟩
theorem SP.unwish(h:SP (X.wish E) pins D f s'):SP X pins D f s':=by
 cases f with
 |next=>obtain⟨σ',H',I,q⟩:=h;exact⟨σ',H',I.unwish,q⟩
 |brk=>obtain⟨σ',H',I,q⟩:=h;exact⟨σ',H',I.unwish,q⟩
 |cont=>obtain⟨σ',H',I,q⟩:=h;exact⟨σ',H',I.unwish,q⟩
 |ret u=>obtain⟨v,σ',H',I,r,q⟩:=h;exact⟨v,σ',H',I.unwish,r,q⟩
theorem Kl.nox{st:List Stmt}{t:TS}(h:Kl X.nox st t):Kl X st t:=λpins s σ H D I hw=>
 QC (h pins s σ H D (I.wish _) hw) (λ_ _ q=>q.unwish) λ_ _ z=>RU z
def JQ:TS:=λD σ H=>D.nx σ H
noncomputable def Lb(t u:TS):TS:=λD σ H=>t { D with nx:=u D } σ H
def iD:Kl X [] JQ:=λ_ _ σ H _ I h=>SM ⟨σ,H,I,h⟩
noncomputable def bJ(h1:PS X st t)(h2:Kl X rest u):Kl X (st::rest) (Lb t u):=by
 intro pins s σ H D I h;refine WQ (YZ (h1 pins s σ H { D with nx:=u D } I h) λf s1 q=>?_)
 cases f with
 |next=>
  obtain⟨σ',H',I',q⟩:=q;exact h2 pins s1 σ' H' D I' q
 |ret v=>exact q
 |brk=>exact q
 |cont=>exact q
noncomputable def cB(h1:PS X st t):Kl X [st] t:=by
 intro pins s σ H D I h;refine WQ (YZ (h1 pins s σ H D I h) λf s1 q=>?_)
 cases f with
 |next=>exact SM q
 |ret v=>exact q
 |brk=>exact q
 |cont=>exact q
def Inv.quiet(I:Inv X pins σ H s):interactive X.env=Gy:=by simp[interactive,I.ok.kind]
def JR(te:TE):TS:=λD σ H=>te σ H λ_ H1=>D.nx σ H1
noncomputable def fW(he:PE X e te)(hs:autoParam (QF e HA pos.line X.env=pure Gy) u10):PS X (.Expr e pos) (JR te):=by
 intro pins s σ H D I h;exact wpAny_Expr_any (YZ (he pins s σ H _ I h) λv s1 ⟨x,H1,I1,r1,q1⟩=>⟨σ,H1,I1,q1⟩) I.quiet hs
def Lc(te:TE):TS:=λD σ H=>te σ H D.rt
noncomputable def fw(he:PE X e te):PS X (.Return (KQ e) pos) (Lc te):=by
 intro pins s σ H D I h;exact wpAny_Return_some (YZ (he pins s σ H _ I h) λv s1 ⟨x,H1,I1,r1,q1⟩=>⟨x,σ,H1,I1,r1,q1⟩)
noncomputable def Li(c:TT)(t u:TS):TS:=λD σ H=>c σ H λb H1=>if b=G3 then t D σ H1 else u D σ H1
noncomputable def iL(hc:PT X c tc)(ha:Kl X a t)(hb:Kl X b u):PS X (.If c a b pos) (Li tc t u):=by
 intro pins s σ H D I h;refine wpAny_If (YZ (hc pins s σ H _ I h) λd s1 ⟨H1,I1,q1⟩=>?_)
 cases d with
 |true=>exact ha pins s1 σ H1 D I1 q1
 |false=>exact hb pins s1 σ H1 D I1 q1
end
abbrev TG:=V->St->Hp->(St->Hp->Prop)->Prop
abbrev EH:=List V->St->Hp->(St->Hp->Prop)->Prop
def PG(X:Cx)(target:Expr)(t:TG):Prop:=
 ∀(pins:List (Addr×Obj)) (s:Pe) (σ:St) (H:Hp) (v:V) (u:O9) (Q:St->Hp->Prop),Inv X pins σ H s->RelV v u->t v σ H Q ->
  PK (PP X.prog X.w) X.A (We target X.env u) (λ_ s'=>∃σ' H',Inv X pins σ' H' s'/\Q σ' H') X.xe s
def K5(X:Cx)(ts:List Expr)(t:EH):Prop:=
 ∀(pins:List (Addr×Obj)) (s:Pe) (σ:St) (H:Hp) (vs:List V) (us:List O9) (Q:St->Hp->Prop),Inv X pins σ H s->YQ vs us->t vs σ H Q ->
  PK (PP X.prog X.w) X.A (assignInOrder ((RV ts X.env).map (·.2)) us) (λ_ s'=>∃σ' H',Inv X pins σ' H' s'/\Q σ' H') X.xe s
section
variable {X:Cx}{pos:Pos}
def pL(i:Nat):TG:=λv σ H Q=>Q (σ.set i (KQ v)) H
noncomputable def ei(hN:X.N.Nodup)(hi:X.N[i]? = KQ x)(hx:Loc X.env.scope x)(hf:autoParam (X.fn x=G3\/X.env.scope.names.lookup x=KQ .local) u15):PG X (.Name x pos) (pL i):=by
 intro pins s σ H v u Q I r h;exact Ut (rn I hN hi hx r (λs' I'=>⟨_,H,I',h⟩) hf)
def Bj:EH:=λvs σ H Q=>vs=[]/\Q σ H
noncomputable def ua(t:TG)(u:EH):EH:=λvs σ H Q=>∃v r,vs=v::r/\t v σ H λσ' H'=>u r σ' H' Q
noncomputable def sm:K5 X [] Bj:=by
 intro pins s σ H vs us Q I r h;obtain⟨e,h⟩:=h;exact assignInOrder_nil ⟨σ,H,I,h⟩
noncomputable def jh(h1:PG X e t)(h2:K5 X es u)
  (hs:autoParam ((RV (e::es) X.env).map (·.2)=We e X.env::(RV es X.env).map (·.2)) u10):K5 X (e::es) (ua t u):=by
 intro pins s σ H vs us Q I r h;obtain⟨v,vr,e1,h⟩:=h;subst e1
 cases r with
 |cons r rr=>
  rw[hs];refine assignInOrder_cons (YZ (h1 pins s σ H _ _ _ I r h) λ_ s1 ⟨GM,H1,I1,q1⟩=>?_);exact h2 pins s1 GM H1 _ _ Q I1 rr q1
noncomputable def Bh(K:Frag)(n:Nat)(t:EH):TG:=λv σ H Q=>∃a xs,v=.ref a/\ZJ K H a xs/\xs.length=n/\t xs σ H Q
noncomputable def zru(hc:X.calm=G3)(h:K5 X es t)
  (hn:autoParam ((RV es X.env).length=n) u10) (KY:autoParam ((RV es X.env).findIdx? (·.1)=HA) u10):PG X (.Tuple es k pos) (Bh X.K n t):=by
 intro pins s σ H v u Q I r hw;obtain⟨a,xs,e1,hq,hl,hw⟩:=hw;subst e1;cases r;obtain⟨YL,rv,ht,hz⟩:=I.tuple hq;refine assign_Tuple_tuple (I.ok.hd hc) ht (by simp[hn,←hl,rv.length]) KY λh' hx=>?_;have I1:=I.kept (t':=s.toks) λb o e=>hx b o (PM (Pq e)) e;exact h pins _ σ H xs _ Q I1 (by omega) hw
noncomputable def A5(te:TE)(g:TG):TS:=λD σ H=>te σ H λx H1=>g x σ H1 D.nx
noncomputable def zay(he:PE X e te)(hg:PG X tg g)(hs:autoParam (swapsWithSole [tg] e pos.line X.env=pure Gy) u10)(hw:autoParam (swappedStores [tg] e X.env=pure HA) u10)
  (h1:autoParam ((RV [tg] X.env).map (·.2)=[We tg X.env]) u10):PS X (.Assign [tg] e pos) (A5 te g):=by
 intro pins s σ H D I h;refine wpAny_Assign_stores (YZ (he pins s σ H _ I h) λv s1 ⟨x,H1,I1,r1,q1⟩=>?_) hs hw;rw[h1];exact YZ (hg pins s1 σ H1 x v _ I1 r1 q1) λ_ s2 q=>q
noncomputable def dh(hN:X.N.Nodup)(hi:X.N[i]? = KQ x)(hx:Loc X.env.scope x)(he:PE X e te)(hs:autoParam (QF e (KQ (.Name x pos')) pos.line X.env=pure Gy) u10)(hf:autoParam (X.fn x=G3\/X.env.scope.names.lookup x=KQ .local) u15) :
  PS X (.Assign [.Name x pos'] e pos) (A5 te (pL i)):=by
 intro pins s σ H D I h;refine wpAny_Assign_Name (YZ (he pins s σ H _ I h) λv s1 ⟨y,H1,I1,r1,q1⟩=>?_) hs;exact rn I1 hN hi hx r1 (λs2 I2=>⟨_,H1,I2,q1⟩) hf
noncomputable def HR(c:TT)(tb:TS):TS:=λD σ H=>∃W:Nat->St->Hp->Prop,(∃m,W m σ H)/\∀m σ H,W m σ H ->
 c σ H λb H1=>if b=G3 then ∃N:St->Hp->Prop,(∀σ' H',N σ' H'->∃m',m' < m/\W m' σ' H')/\tb { D with nx:=N,ct:=N,bk:=D.nx } σ H1 else D.nx σ H1
noncomputable def zaz(hp:WR (PP X.prog X.w) X.A X.env X.xe)(hc:PT X c tc)(hb:Kl X body tb):PS X (.While c body [] pos) (HR tc tb):=by
 intro pins s σ H D I h;obtain⟨W,⟨m0,w0⟩,turn⟩:=h;refine wpAny_While (codeAny_whileLoop (λn s'=>∃σ' H',Inv X pins σ' H' s'/\W n σ' H') ?_ m0 ⟨σ,H,I,w0⟩);rintro n s1 ⟨GM,H1,I1,w1⟩;refine RM hp (YZ (hc pins s1 GM H1 _ I1 (turn n GM H1 w1)) λb s2 ⟨H2,I2,q2⟩=>?_)
 cases b with
 |true=>
  obtain⟨N,hN,q2⟩:=q2;refine RM hp (YZ (hb pins s2 GM H2 _ I2 q2) λf s3 q3=>?_)
  cases f with
  |next=>
   obtain⟨IK,H3,I3,n3⟩:=q3;obtain⟨m',hm,w3⟩:=hN IK H3 n3;exact⟨m',hm,IK,H3,I3,w3⟩
  |cont=>
   obtain⟨IK,H3,I3,n3⟩:=q3;obtain⟨m',hm,w3⟩:=hN IK H3 n3;exact⟨m',hm,IK,H3,I3,w3⟩
  |brk=>exact q3
  |ret v=>exact q3
 |false=>
  exact SM ⟨GM,H2,I2,q2⟩
end
structure It where
 go:Nat->Hp->Prop
 yld:Nat->Hp->V->Hp->Prop
 stop:Nat->Hp->Prop
def cY(X:Cx)(pins:List (Addr×Obj))(H:Hp)(b:Addr):Prop:=H b=HA/\b≠X.env.locals/\b∉X.fs/\(b∈X.ex\/X.s₀.heap.objs.size<=b)/\(∀x c,X.env.cells.lookup x=KQ c->c≠b)/\∀p∈X.pn++pins,p.1≠b
def Inv.fpOk(I:Inv X pins σ H s)(hb:s.heap.objs.size<=b)(hn:H' b=HA):cY X pins H' b:=by
 refine⟨hn,TU (PQ I.lt hb),I.nofs hb,.inr (PB I.sz hb),λx c e z=>?_,λp hp z=>?_⟩
 .obtain⟨v,q⟩:=I.cell x c e
  exact absurd (PQ q.lt (by simp_all)) (Qw _)
 .exact absurd (PQ (Pq (I.pin p hp).1) (by simp_all)) (Qw _)
structure Turn(P:Pu)(w:PU)(K:Frag)(tg:Expr)(J:It)(fp:List Addr)(it:Addr)(tn:Nat->Heap->Prop):Prop where
 mem:it∈fp
 obj:∀i h,tn i h->∀b∈fp,∃o,h.get? b=KQ o/\∀v,o.data≠.cell v
 keep:∀i h h',tn i h->(∀b∈fp,∀o,h.get? b=KQ o->h'.get? b=KQ o)->tn i h'
 item:∀(X:Cx),X.prog=P->X.w=w->X.K=K->X.calm=G3->∀(i:Nat) (pins:List (Addr×Obj)) (s:Pe) (σ:St) (H:Hp) (E:O9->Pe->Prop),Inv X pins σ H s->(∀b∈fp,cY X pins H b)->tn i s.heap->J.go i H ->
  PK (PP P w) X.A (Wf (.ref it)) (λr s1=>∃u,r=KQ u /\
   PK (PP P w) X.A (Tv tg (.ref it) u) (λ_ s2=>∃x H',Inv X pins σ H' s2/\RelV x u/\J.yld i H x H'/\tn (i+1) s2.heap/\∀b∈fp,H' b=HA) E s1) E s
 done:∀(X:Cx),X.prog=P->X.w=w->X.K=K->X.calm=G3->∀(i:Nat) (pins:List (Addr×Obj)) (s:Pe) (σ:St) (H:Hp) (E:O9->Pe->Prop),Inv X pins σ H s->(∀b∈fp,cY X pins H b)->tn i s.heap->J.stop i H ->
  PK (PP P w) X.A (Wf (.ref it)) (λr s1=>r=HA/\Inv X pins σ H s1) E s
 self:∀(A:Qa) (i:Nat) (s:Pe) (Q:O9->Pe->Prop) (E:O9->Pe->Prop),tn i s.heap->Q (.ref it) s->PK (PP P w) A (pyIter (.ref it)) Q E s
abbrev TI:=St->Hp->(It->Hp->Prop)->Prop
def PIE(X:Cx)(pins:List (Addr×Obj))(σ:St)(tg:Expr)(R:It->Hp->Prop)(Hq:O9)(s2:Pe):Prop:=∃(it:Addr) (fp:List Addr) (tn:Nat->Heap->Prop) (J:It) (H':Hp),Hq=.ref it/\Inv X pins σ H' s2/\Turn X.prog X.w X.K tg J fp it tn/\tn 0 s2.heap/\(∀b∈fp,cY X pins H' b)/\R J H'
def PI(X:Cx)(tg iter:Expr)(wi:TI):Prop:=
 ∀(pins:List (Addr×Obj)) (s:Pe) (σ:St) (H:Hp) (R:It->Hp->Prop),Inv X pins σ H s->wi σ H R ->
  PK (PP X.prog X.w) X.A (eval iter X.env) (λv s1=>PK (PP X.prog X.w) X.A (pyIter v) (PIE X pins σ tg R) X.xe s1) X.xe s
noncomputable def mW{M:Model}{A:Qa}{E:O9->Pe->Prop}{s:Pe}{tg:Expr}{it:Addr}{u:O9}{o:Obj}{n:String}{vs:Array O9}{Q:Unit->Pe->Prop}(ho:s.heap.get? it=KQ o)(hc:o.cls=.type n)(hd:o.data=.fields vs)
  (hn:["enumerate","zip","dict_itemiterator","dict_reverseitemiterator","odict_iterator","itertools.zip_longest","itertools.pairwise"].contains n=Gy) (hQ:Q () s):PK M A (Tv tg (.ref it) u) Q E s:=by
 cases tg <;> first
  |exact Pl hQ
  | (cases u <;> first
    |exact Pl hQ
    | (refine Pb (wpAny_load ho ?_)
       rw[hc,hd];show PK M A (if _=G3 then _ else _) Q E s;rw[if_neg (by intro h;rw[hn] at h;cases h)]
       exact Pl hQ))
noncomputable def KP(K:Frag)(a:Addr):It:=⟨λi H=>∃xs x,Zc K H a xs/\xs[i]? = KQ x,λi H x H'=>H'=H/\∀xs,Zc K H a xs->xs[i]? = KQ x,λi H=>∃xs,Zc K H a xs/\xs.length<=i⟩
noncomputable def zo(K:Frag)(a:Addr):It:=⟨λi H=>∃xs x,ZJ K H a xs/\xs[i]? = KQ x,λi H x H'=>H'=H/\∀xs,ZJ K H a xs->xs[i]? = KQ x,λi H=>∃xs,ZJ K H a xs/\xs.length<=i⟩
noncomputable def Ju(lo:Int)(n:Nat):It:=⟨λi _=>i<n,λi H x H'=>H'=H/\x=.int (lo+i),λi _=>n<=i⟩
noncomputable def zrv{P:Pu}{w:PU}{K:Frag}{tg:Expr}(a it:Addr):Turn P w K tg (KP K a) [it] it (λi h=>h.IsListIter it a i) where
 mem:=by simp
 obj:=λi h st b hb=>by
  have e:b=it:=by simpa using hb
  subst e
  obtain⟨o,e,c,d⟩:=st<;>simp_all
 keep:=λi h h' st k=>st.at λo e=>k it (by simp) o e
 item:=by
  intro X hP hw hK hc i pins s σ H E I hf st hg;subst hP hw hK;obtain⟨xs,x,hq,hx⟩:=hg;obtain⟨YL,rv,p,hz⟩:=I.list hq;obtain⟨u,hu,ru⟩:=rv.get hx;obtain⟨f0,f1,f2,f3,f4,f5⟩:=hf it (by simp);refine UY st p.isList (x:=u) (by simp_all) λh' Gu sb=>?_;have I1:Inv X pins σ H { s with heap:=h' }:=I.turned (t':=s.toks) (λb o hb e=>(sb.2 b hb).trans e) f0 f1 f3 f4 f5;obtain⟨o,e,c,d⟩:=id Gu;exact⟨u,rfl,mW (s:={ s with heap:=h' }) e c d (rfl) ⟨x,H,I1,ru,⟨rfl,λys hy=>by rw[I.list_inj hy hq];exact hx⟩,Gu,λb hb=>(hf b hb).1⟩⟩
 done:=by
  intro X hP hw hK hc i pins s σ H E I hf st hg;subst hP hw hK;obtain⟨xs,hq,hx⟩:=hg;obtain⟨YL,rv,p,hz⟩:=I.list hq;obtain⟨f0,f1,f2,f3,f4,f5⟩:=hf it (by simp);have hl:=rv.length;exact Vp (I.ok.hd hc) st p.isList (by simp;omega) λh' eb=>⟨rfl,I.turned (t':=s.toks) (λb o hb e=>eb b o hb e) f0 f1 f3 f4 f5⟩
 self:=λ_ _ _ _ _ st h=>wpAny_pyIter_listiter st h
noncomputable def zba{P:Pu}{w:PU}{K:Frag}{tg:Expr}(a it:Addr):Turn P w K tg (zo K a) [it] it (λi h=>h.IsTupleIter it a i) where
 mem:=by simp
 obj:=λi h st b hb=>by
  have e:b=it:=by simpa using hb
  subst e;obtain⟨o,e,c,d⟩:=st;exact⟨o,e,λv z=>by simp_all⟩
 keep:=λi h h' st k=>st.at λo e=>k it (by simp) o e
 item:=by
  intro X hP hw hK hc i pins s σ H E I hf st hg;subst hP hw hK;obtain⟨xs,x,hq,hx⟩:=hg;obtain⟨YL,rv,p,hz⟩:=I.tuple hq;obtain⟨u,hu,ru⟩:=rv.get hx;obtain⟨f0,f1,f2,f3,f4,f5⟩:=hf it (by simp);refine wpAny_pyNext_tuple_item st (show s.heap.IsTuple a YL.toArray from p) (x:=u) (by simp_all) λh' Gu sb=>?_;have I1:Inv X pins σ H { s with heap:=h' }:=I.turned (t':=s.toks) (λb o hb e=>(sb.2 b hb).trans e) f0 f1 f3 f4 f5;obtain⟨o,e,c,d⟩:=id Gu;exact⟨u,rfl,mW (s:={ s with heap:=h' }) e c d (by decide) ⟨x,H,I1,ru,⟨rfl,λys hy=>by rw[I.tuple_inj hy hq];exact hx⟩,Gu,λb hb=>(hf b hb).1⟩⟩
 done:=by
  intro X hP hw hK hc i pins s σ H E I hf st hg;subst hP hw hK;obtain⟨xs,hq,hx⟩:=hg;obtain⟨YL,rv,p,hz⟩:=I.tuple hq;obtain⟨f0,f1,f2,f3,f4,f5⟩:=hf it (by simp);have hl:=rv.length;exact wpAny_pyNext_tuple_end (I.ok.hd hc) st (show s.heap.IsTuple a YL.toArray from p) (by simp;omega) λh' eb=>⟨rfl,I.turned (t':=s.toks) (λb o hb e=>eb b o hb e) f0 f1 f3 f4 f5⟩
 self:=λ_ _ _ _ _ st h=>wpAny_pyIter_tupleiter st h
noncomputable def zbb{P:Pu}{w:PU}{K:Frag}{tg:Expr}(it:Addr)(lo:Int)(n:Nat):Turn P w K tg (Ju lo n) [it] it (λi h=>IsRangeIter h it (lo+(i:Nat)*1) ((n:Int)-(i:Nat)) 1) where
 mem:=by simp
 obj:=λi h st b hb=>by simp_all
 keep:=λi h h' st k=>k it (by simp) _ st
 item:=by
  intro X hP hw hK hc i pins s σ H E I hf st hg;subst hP hw hK;obtain⟨f0,f1,f2,f3,f4,f5⟩:=hf it (by simp);have W:=Walks.range (prog:=X.prog) (w:=X.w) (I.ok.hd hc) it lo 1 n;refine W.item i s _ _ hg st λv h' tk hv Gu kk=>?_;obtain⟨t,rfl⟩:=hv;have I1:Inv X pins σ H { s with heap:=h',toks:=tk }:=I.turned (λb o hb e=>kk b o (by simp_all) e) f0 f1 f3 f4 f5;refine⟨_,rfl,mW   Gu rfl rfl (rfl) ⟨.int (lo+i),H,I1,⟨t,?_⟩,⟨rfl,rfl⟩,Gu,λb hb=>(hf b hb).1⟩⟩;rw[Int.mul_one]
 done:=by
  intro X hP hw hK hc i pins s σ H E I hf st hg;obtain⟨f0,f1,f2,f3,f4,f5⟩:=hf it (by simp);exact wpAny_pyNext_range_end (I.ok.hd hc) st (by have:n<=i:=hg;omega) λh' eb=>⟨rfl,I.turned  (λb o hb e=>eb b o hb e) f0 f1 f3 f4 f5⟩
 self:=λ_ _ _ _ _ st h=>wpAny_pyIter_rangeiter st h
section
variable {X:Cx}{tg:Expr}
noncomputable def KA(K:Frag)(tl:TE):TI:=λσ H R=>tl σ H λx H1=>∃a,x=.ref a/\(∃xs,Zc K H1 a xs)/\R (KP K a) H1
noncomputable def sk(hl:PE X l tl):PI X tg l (KA X.K tl):=by
 intro pins s σ H R I h;refine YZ (hl pins s σ H _ I h) λv s1 ⟨x,H1,I1,r1,q1⟩=>?_;obtain⟨a,e,⟨xs,hq⟩,q⟩:=q1;subst e;cases r1;obtain⟨YL,rv,p,hz⟩:=I1.list hq;refine Sq p.isList ?_;refine⟨s1.heap.objs.size,[s1.heap.objs.size],_,_,H1,rfl,I1.kept (t':=s1.toks) λb o e=>Pd _ e,zrv a _,⟨_,Pw _ rfl,rfl,rfl⟩,λb hb=>?_,q⟩
 have e:b=s1.heap.objs.size:=by simpa using hb
 subst e;exact I1.fpOk (Pk _) (I1.hok.fresh (Pk _))
noncomputable def zbc{pins:List (Addr×Obj)}{σ:St}{H:Hp}{s:Pe}{R:It->Hp->Prop}{E:O9->Pe->Prop}{lo hi:Int}{t u v:Tok}{tk:Nat}(I:Inv X pins σ H s)(h1 : -(2^62)<=lo)(h2:lo<2^62)(h3 : -(2^62)<=hi)(h4:hi<2^62)
  (q:R (Ju lo (hi-lo).toNat) H):PK (PP X.prog X.w) X.A (pyIter (.ref s.heap.objs.size)) (PIE X pins σ tg R) E { s with heap:=s.heap.push { cls:=.type "range",data:=.fields #[.int lo t,.int hi u,.int 1 v] },toks:=tk }:=by
 refine wpAny_pyIter_range (IsRange.new ..) (small_one h1 h2 h3 h4) ?_;have I1:Inv X pins σ H { s with heap:=s.heap.push { cls:=.type "range",data:=.fields #[.int lo t,.int hi u,.int 1 v] },toks:=tk }:=I.kept λb o e=>Pd _ e
 refine⟨(s.heap.push { cls:=.type "range",data:=.fields #[.int lo t,.int hi u,.int 1 v] }).objs.size,[(s.heap.push { cls:=.type "range",data:=.fields #[.int lo t,.int hi u,.int 1 v] }).objs.size],_,_,H,rfl,
  I1.kept  λb o e=>Pd _ e,zbb _ lo _,?_,λb hb=>?_,q⟩
 .have e1:lo+((0:Nat))*1=lo:=by simp
  have e2:(((hi-lo).toNat))-((0:Nat))=Yb lo hi 1:=by rw[rangeSize_one]<;>grind
  rw[e1,e2];exact Pw _ rfl
 .have e:b=(s.heap.push { cls:=.type "range",data:=.fields #[.int lo t,.int hi u,.int 1 v] }).objs.size:=by simpa using hb
  subst e;exact I1.fpOk (Pk _) (I1.hok.fresh (Pk _))
noncomputable def Kz(ta:TA):TI:=λσ H R=>ta σ H λvs H1=>∃j:Int,vs=[.int j]/\-(2^62)<=j/\j<2^62/\R (Ju 0 j.toNat) H1
noncomputable def nN(hg:Gl X "range")(hm:X.mg "range"=HA)(ha:PA X [a] ta)(hs:autoParam (Pi [a] X.env=[(Gy,eval a X.env)]) u10):PI X tg (.Call (.Name "range" p) [a] [] pos) (Kz ta):=by
 intro pins s σ H R I h;refine Call_ (mE I hg hm boot_range (Sr (YZ (ha pos pins s σ H _ I h) λus s1 ⟨vs,H1,I1,r1,q1⟩=>?_) hs rfl));obtain⟨j,e,q1,q2,q⟩:=q1;subst e
 cases r1 with
 |cons r rr=>
  cases rr;obtain⟨t,rfl⟩:=r;exact call_range_1 (zbc I1 (by lia) (by lia) q1 q2 (by simp_all))
noncomputable def Lj(wi:TI)(g:TG)(tb:TS):TS:=λD σ H=>wi σ H λJ H1=>∃W:Nat->Nat->St->Hp->Prop,(∃m,W 0 m σ H1)/\∀i m σ H,W i m σ H ->
 (J.stop i H/\D.nx σ H)\/(J.go i H/\∃N:St->Hp->Prop,(∀σ' H',N σ' H'->∃m',m' < m/\W (i+1) m' σ' H')/\∀x H',J.yld i H x H'->g x σ H' λCc H2=>tb { D with nx:=N,ct:=N,bk:=D.nx } Cc H2)
noncomputable def eU(fp:List Addr)(h:Heap):List (Addr×Obj):=fp.filterMap λb=>(h.get? b).map λo=>(b,o)
noncomputable def jV(hb:b∈fp)(e:h.get? b=KQ o):(b,o)∈eU fp h:=Wg.mpr ⟨b,hb,by rw[e];rfl⟩
noncomputable def zbd(hp:p∈eU fp h):p.1∈fp/\h.get? p.1=KQ p.2:=by
 obtain⟨b,hb,e⟩:=Wg.mp hp
 cases q:h.get? b with
 |none=>simp_all
 |some o=>
  rw[q] at e;have e':=Rw e;subst e';exact⟨hb,q⟩
def Inv.pinned(I:Inv X pins σ H s)(hf:∀b∈fp,cY X pins H b)(ho:∀b∈fp,∃o,s.heap.get? b=KQ o/\∀v,o.data≠.cell v):Inv X (pins++eU fp s.heap) σ H s:=
 I.pins_of λp hp=>(Pt.mp hp).elim (λz=>I.pin p (PJ _ z)) λz=>by
  obtain⟨hb,e⟩:=zbd z;obtain⟨f0,f1,f2,_⟩:=hf p.1 hb
  obtain⟨o,e',d⟩:=ho p.1 hb<;>simp_all
def Inv.unpinned(I:Inv X (pins++pl) σ H s):Inv X pins σ H s:=I.pins_of λp hp=>I.pin p (PJ _ (P6 _ hp))
noncomputable def iH(hp:WR (PP X.prog X.w) X.A X.env X.xe)(hc:X.calm=G3)(hi:PI X tg iter wi)(hg:PG X tg g)(hb:Kl X body tb)
  (hs:autoParam (∀x,Qh iter X.env x=pure x) u16):PS X (.For tg iter body [] pos) (Lj wi g tb):=by
 intro pins s σ H D I h;refine wpAny_For (YZ (hi pins s σ H _ I h) λv s1 h1=>YZ h1 λHq s2 h2=>?_) hs;obtain⟨it,fp,tn,J,H2,e,I2,T,GL,f2,W,⟨m0,w0⟩,turn⟩:=h2;subst e;have FR:∀{H':Hp},(∀b∈fp,H' b=HA)->∀b∈fp,cY X pins H' b:=λhn b hb=>⟨hn b hb,(f2 b hb).2⟩;refine codeAny_forLoop_any (λn s'=>∃i σ' H',Inv X pins σ' H' s'/\tn i s'.heap/\(∀b∈fp,H' b=HA)/\W i n σ' H') ?_ m0 ⟨0,σ,H2,I2,GL,λb hb=>(f2 b hb).1,w0⟩;rintro n s3 ⟨i,IK,H3,I3,st3,fr3,w3⟩
 rcases turn i n IK H3 w3 with⟨stop,qn⟩|⟨go,N,hN,step⟩
 .refine RM hp (YZ (T.done X rfl rfl rfl hc i pins s3 IK H3 X.xe I3 (FR fr3) st3 stop) λr s4 ⟨hr,I4⟩=>?_)
  subst hr;exact SM ⟨IK,H3,I4,qn⟩
 .refine RM hp (YZ (T.item X rfl rfl rfl hc i pins s3 IK H3 X.xe I3 (FR fr3) st3 go) λr s4 ⟨u,hr,h4⟩=>?_)
  subst hr;refine RM hp (YZ h4 λ_ s5 ⟨x,H5,I5,r5,y5,CM,G7⟩=>?_);have I5':=I5.pinned (FR G7) (T.obj _ _ CM);refine RM hp (YZ (hg _ s5 IK H5 x u _ I5' r5 (step x H5 y5)) λ_ s6 ⟨σ6,H6,I6,q6⟩=>?_);refine RM hp (YZ (hb _ s6 σ6 H6 _ I6 q6) λf s7 q7=>?_)
  have again:∀{Gs:St}{H7:Hp},Inv X (pins++eU fp s5.heap) Gs H7 s7->N Gs H7->∃m,m<n/\∃i σ' H',Inv X pins σ' H' s7/\tn i s7.heap/\(∀b∈fp,H' b=HA)/\W i m σ' H':=λ{Gs H7} I7 n7=>by
   obtain⟨m',hm,w7⟩:=hN Gs H7 n7;refine⟨m',hm,i+1,Gs,H7,I7.unpinned,T.keep _ _ _ CM λb hb o e=>(I7.pin (b,o) (PJ _ (PJ _ (jV hb e)))).1,λb hb=>?_,w7⟩;obtain⟨o,e,d⟩:=T.obj _ _ CM b hb;exact(I7.pin (b,o) (PJ _ (PJ _ (jV hb e)))).2.1
  cases f with
  |next=>obtain⟨Gs,H7,I7,n7⟩:=q7;exact again I7 n7
  |cont=>obtain⟨Gs,H7,I7,n7⟩:=q7;exact again I7 n7
  |brk=>obtain⟨Gs,H7,I7,q7⟩:=q7;exact⟨Gs,H7,I7.unpinned,q7⟩
  |ret v=>obtain⟨x7,Gs,H7,I7,r7,q7⟩:=q7;exact⟨x7,Gs,H7,I7.unpinned,r7,q7⟩
end
noncomputable def oe{K:Frag}{a:Addr}{xs:List V}{g:TG}{tb:TS}{D:Ends}{σ:St}{H:Hp}(Pv:Nat->St->Hp->Prop)(h0:Pv 0 σ H)(hl:∀i σ H,i<=xs.length->Pv i σ H->Zc K H a xs)
  (hs:∀i x σ H,xs[i]? = KQ x->Pv i σ H->g x σ H λCc H2=>tb { D with nx:=Pv (i+1),ct:=Pv (i+1),bk:=D.nx } Cc H2) (hd:∀σ H,Pv xs.length σ H->D.nx σ H) :
  ∃W:Nat->Nat->St->Hp->Prop,(∃m,W 0 m σ H)/\∀i m σ H,W i m σ H ->
   ((KP K a).stop i H/\D.nx σ H)\/((KP K a).go i H/\∃N:St->Hp->Prop,(∀σ' H',N σ' H'->∃m',m' < m/\W (i+1) m' σ' H')/\∀x H',(KP K a).yld i H x H'->g x σ H' λCc H2=>tb { D with nx:=N,ct:=N,bk:=D.nx } Cc H2):=by
 refine⟨λi m σ H=>m=xs.length-i/\i<=xs.length/\Pv i σ H,⟨xs.length,by simp,Ql _,h0⟩,?_⟩;rintro i m σ H ⟨rfl,hi,p⟩;have q:=hl i σ H hi p
 by_cases ZM:i<xs.length
 .refine .inr ⟨⟨xs,xs[i],q,by simp⟩,Pv (i+1),λσ' H' p'=>⟨xs.length-(i+1),by lia,rfl,ZM,p'⟩,λx H' y=>?_⟩
  obtain⟨e,y⟩:=y;subst e;exact hs i x σ _ (y xs q) p
 .have e:i=xs.length:=by lia
  subst e;exact .inl ⟨⟨xs,q,Pk _⟩,hd σ H p⟩
noncomputable def qT{lo:Int}{n:Nat}{g:TG}{tb:TS}{D:Ends}{σ:St}{H:Hp}(Pv:Nat->St->Hp->Prop)(h0:Pv 0 σ H)
  (hs:∀i σ H,i<n->Pv i σ H->g (.int (lo+i)) σ H λCc H2=>tb { D with nx:=Pv (i+1),ct:=Pv (i+1),bk:=D.nx } Cc H2) (hd:∀σ H,Pv n σ H->D.nx σ H) :
  ∃W:Nat->Nat->St->Hp->Prop,(∃m,W 0 m σ H)/\∀i m σ H,W i m σ H ->
   ((Ju lo n).stop i H/\D.nx σ H)\/((Ju lo n).go i H/\∃N:St->Hp->Prop,(∀σ' H',N σ' H'->∃m',m' < m/\W (i+1) m' σ' H')/\∀x H',(Ju lo n).yld i H x H'->g x σ H' λCc H2=>tb { D with nx:=N,ct:=N,bk:=D.nx } Cc H2):=by
 refine⟨λi m σ H=>m=n-i/\i<=n/\Pv i σ H,⟨n,by simp,Ql _,h0⟩,?_⟩;rintro i m σ H ⟨rfl,hi,p⟩
 by_cases ZM:i<n
 .refine .inr ⟨ZM,Pv (i+1),λσ' H' p'=>⟨n-(i+1),by lia,rfl,ZM,p'⟩,λx H' y=>?_⟩
  obtain⟨e,y⟩:=y;subst e y;exact hs i σ _ ZM p
 .have e:i=n:=by lia
  subst e;exact .inl ⟨Pk _,hd σ H p⟩
abbrev R2:=V->V->Hp->VK->Prop
def Zx(X:Cx)(f:O9->O9->Sem O9)(r:R2):Prop:=
 ∀(pins:List (Addr×Obj)) (s:Pe) (σ:St) (H:Hp) (x y:V) (v u:O9) (Q:VK),Inv X pins σ H s->RelV x v->RelV y u->r x y H Q ->
  PK (PP X.prog X.w) X.A (f v u) (EP X pins σ Q) X.xe s
def I0(X:Cx)(f:O9->Sem O9)(r:V->Hp->VK->Prop):Prop:=
 ∀(pins:List (Addr×Obj)) (s:Pe) (σ:St) (H:Hp) (x:V) (v:O9) (Q:VK),Inv X pins σ H s->RelV x v->r x H Q ->
  PK (PP X.prog X.w) X.A (f v) (EP X pins σ Q) X.xe s
def Zf(X:Cx)(f:O9)(r:List V->Hp->VK->Prop):Prop:=
 ∀(pins:List (Addr×Obj)) (s:Pe) (σ:St) (H:Hp) (xs:List V) (us:List O9) (Q:VK),Inv X pins σ H s->YQ xs us->r xs H Q ->
  PK (PP X.prog X.w) X.A (call f us) (EP X pins σ Q) X.xe s
def LI(X:Cx)(r:V->Hp->(Bool->Hp->Prop)->Prop):Prop:=
 ∀(pins:List (Addr×Obj)) (s:Pe) (σ:St) (H:Hp) (x:V) (v:O9) (Q:Bool->Hp->Prop),Inv X pins σ H s->RelV x v->r x H Q ->
  PK (PP X.prog X.w) X.A (truthy v) (TP X pins σ Q) X.xe s
noncomputable def FV(r:R2)(ta tb:TE):TE:=λσ H Q=>ta σ H λx H1=>tb σ H1 λy H2=>r x y H2 Q
noncomputable def tUn(r:V->Hp->VK->Prop)(ta:TE):TE:=λσ H Q=>ta σ H λx H1=>r x H1 Q
noncomputable def rI(C:Int->Int->Prop)(g:Int->Int->V):R2:=λx y H Q=>∃i j,x=.int i/\y=.int j/\C i j/\Q (g i j) H
noncomputable def EV(g:Int->Int->V):R2:=λx y H Q=>∃i j,x=.int i/\y=.int j/\Q (g i j) H
def rU(g:Int->V):V->Hp->VK->Prop:=λx H Q=>∃i,x=.int i/\Q (g i) H
section
variable {X:Cx}{a b c:Expr}{ta tb tc:TE}{pos:Pos}
noncomputable def ut(ha:PE X a ta)(hb:PE X b tb){R:V->V->Hp->Prop}(I:Inv X pins σ H s)
  (h:ta σ H λx H1=>tb σ H1 λy H2=>R x y H2) {Q:O9->Pe->Prop}{f:O9->O9->Sem O9}
  (hf:∀v u s2 x y H2,Inv X pins σ H2 s2->RelV x v->RelV y u->R x y H2->PK (PP X.prog X.w) X.A (f v u) Q X.xe s2) :
  PK (PP X.prog X.w) X.A (eval a X.env) (λv EO=>PK (PP X.prog X.w) X.A (eval b X.env) (λu DM=>PK (PP X.prog X.w) X.A (f v u) Q X.xe DM) X.xe EO) X.xe s:=by
 refine YZ (ha pins s σ H _ I h) λv s1 ⟨x,H1,I1,r1,q1⟩=>?_;refine YZ (hb pins s1 σ H1 _ I1 q1) λu s2 ⟨y,H2,I2,r2,q2⟩=>?_;exact hf v u s2 x y H2 I2 r1 r2 q2
noncomputable def tX(ho:Zx X (QL op) r)(ha:PE X a ta)(hb:PE X b tb):PE X (.BinOp a op b pos) (FV r ta tb):=by
 intro pins s σ H Q I h;exact wpAny_BinOp (ut ha hb I h λv u s2 x y H2 I2 rx ry q=>ho pins s2 σ H2 x y v u Q I2 rx ry q)
noncomputable def zbe(ho:I0 X (unaryOp op) r)(ha:PE X a ta):PE X (.UnaryOp op a pos) (tUn r ta):=by
 intro pins s σ H Q I h;exact UnaryOp_ (YZ (ha pins s σ H _ I h) λv s1 ⟨x,H1,I1,r1,q1⟩=>ho pins s1 σ H1 x v Q I1 r1 q1)
noncomputable def Cf{f:O9->O9->Sem O9}{C:Int->Int->Prop}{g:Int->Int->Int}
  (rule:∀(i j:Int) (t u:Tok) (s:Pe) (Q:O9->Pe->Prop) (E:O9->Pe->Prop),C i j->Q (.int (g i j) s.toks) { s with toks:=s.toks+1 }->PK (PP X.prog X.w) X.A (f (.int i t) (.int j u)) Q E s) :
  Zx X f (rI C λi j=>.int (g i j)):=by
 intro pins s σ H x y v u Q I rx ry h;obtain⟨i,j,rfl,rfl,hc,q⟩:=h;obtain⟨t,rfl⟩:=rx;obtain⟨t',rfl⟩:=ry;exact rule i j t t' s _ _ hc ⟨.int _,H,I.tok _,⟨_,rfl⟩,q⟩
noncomputable def zrw{f:O9->O9->Sem O9}{g:Int->Int->Int}
  (rule:∀(i j:Int) (t u:Tok) (s:Pe) (Q:O9->Pe->Prop) (E:O9->Pe->Prop),Q (.int (g i j) s.toks) { s with toks:=s.toks+1 }->PK (PP X.prog X.w) X.A (f (.int i t) (.int j u)) Q E s) :
  Zx X f (EV λi j=>.int (g i j)):=by
 intro pins s σ H x y v u Q I rx ry h;obtain⟨i,j,rfl,rfl,q⟩:=h;obtain⟨t,rfl⟩:=rx;obtain⟨t',rfl⟩:=ry;exact rule i j t t' s _ _ ⟨.int _,H,I.tok _,⟨_,rfl⟩,q⟩
noncomputable def qb{f:O9->O9->Sem O9}{g:Int->Int->Bool}
  (rule:∀(i j:Int) (t u:Tok) (s:Pe) (Q:O9->Pe->Prop) (E:O9->Pe->Prop),Q (.bool (g i j)) s->PK (PP X.prog X.w) X.A (f (.int i t) (.int j u)) Q E s) :
  Zx X f (EV λi j=>.bl (g i j)):=by
 intro pins s σ H x y v u Q I rx ry h;obtain⟨i,j,rfl,rfl,q⟩:=h;obtain⟨t,rfl⟩:=rx;obtain⟨t',rfl⟩:=ry;exact rule i j t t' s _ _ ⟨.bl _,H,I,rfl,q⟩
def LK(i j:Int):Prop:=0<=j/\j<=1000000/\i.natAbs<2^64
def Jw(i j:Int):Prop:=(-(2^64)<i/\i<2^64)\/(-(2^64)<j/\j<2^64)
def Jw.ok(h:Jw i j):IntMulOk i j:=by
 rcases h with⟨h1,h2⟩|⟨h1,h2⟩
 .exact .of_left (intBits_le_64 h1 h2)
 .exact .of_right (intBits_le_64 h1 h2)
noncomputable def zev:Zx X (QL .Add) (EV λi j=>.int (i+j)):=zrw λ_ _ _ _ _ _ _ q=>add_int q
noncomputable def zbf:Zx X (QL .Sub) (EV λi j=>.int (i-j)):=zrw λ_ _ _ _ _ _ _ q=>sub_int q
noncomputable def zvm:Zx X (QL .Mult) (rI Jw λi j=>.int (i*j)):=Cf λ_ _ _ _ _ _ _ hc q=>mul_int q hc.ok
noncomputable def zbg:Zx X (QL .Mod) (rI (λ_ j=>0<j) λi j=>.int (i % j)):=Cf λi j _ _ _ _ _ hc q=>by
 exact mod_int' (by lia) (by rw[Int.fmod_eq_emod_of_nonneg i (by lia)];exact q)
noncomputable def zbh:Zx X (QL .Pow) (rI LK λi j=>.int (i^j.toNat)):=Cf λ_ _ _ _ _ _ _ hc q=>pow_int_small hc.1 hc.2.1 hc.2.2 q
noncomputable def unI{f:O9->Sem O9}{g:Int->Int}
  (rule:∀(i:Int) (t:Tok) (s:Pe) (Q:O9->Pe->Prop) (E:O9->Pe->Prop),Q (.int (g i) s.toks) { s with toks:=s.toks+1 }->PK (PP X.prog X.w) X.A (f (.int i t)) Q E s) :
  I0 X f (rU λi=>.int (g i)):=by
 intro pins s σ H x v Q I rx h;obtain⟨i,rfl,q⟩:=h;obtain⟨t,rfl⟩:=rx;exact rule i t s _ _ ⟨.int _,H,I.tok _,⟨_,rfl⟩,q⟩
noncomputable def zbi:I0 X (unaryOp .USub) (rU λi=>.int (-i)):=unI λ_ _ _ _ _ q=>neg_int q
end
noncomputable def ui:V->V->Bool
 |.non,.non=>G3 | .non,.int _=>G3 | .int _,.non=>G3 | .non,.bl _=>G3 | .bl _,.non=>G3 | .non,.str _=>G3 | .str _,.non=>G3
 |.int _,.int _=>G3 | .bl _,.bl _=>G3 | .str _,.str _=>G3 | .byt _,.byt _=>G3
 |.int _,.str _=>G3 | .str _,.int _=>G3 | .bl _,.str _=>G3 | .str _,.bl _=>G3
 |_,_=>Gy
noncomputable def rEq:R2:=λx y H Q=>ui x y=G3/\Q (.bl (decide (x=y))) H
noncomputable def rNe:R2:=λx y H Q=>ui x y=G3/\Q (.bl (!decide (x=y))) H
noncomputable def zrx:decide (V.int i=V.int j)=(i == j):=by
 rw[Rb];simp
noncomputable def zry:decide (V.bl i=V.bl j)=(i == j):=by
 rw[Rb];simp
noncomputable def zrz:decide (V.str i=V.str j)=(i == j):=by
 rw[Rb];simp
noncomputable def zsa:decide (V.byt i=V.byt j)=(i.toList == j.toList):=by rw[Rb]<;>simp_all
section
variable {X:Cx}{a b c:Expr}{ta tb tc:TE}{pos:Pos}
noncomputable def bx(I:Inv X pins σ H s)(q:Q (.bl k) H)(e:k=k'):EP X pins σ Q (.bool k') s:=by
 subst e;exact⟨.bl k,H,I,rfl,q⟩
noncomputable def zbj:Zx X (PX .Eq) rEq:=by
 intro pins s σ H x y v u Q I rx ry h;obtain⟨hs,q⟩:=h
 cases x with
 |non=>
  cases rx
  cases y with
  |non=>cases ry;exact Xy (bx I q (by simp))
  |bl j=>cases ry;exact Xz (bx I q (by simp))
  |int j=>obtain⟨t',rfl⟩:=ry;exact XN (bx I q (by simp))
  |str j=>obtain⟨t',rfl⟩:=ry;exact XQ (bx I q (by simp))
  |_=>exact absurd (show Gy=G3 from hs) Pz
 |bl i=>
  cases rx
  cases y with
  |non=>cases ry;exact XA (bx I q (by simp))
  |bl j=>cases ry;exact eq_bool (bx I q zry)
  |str j=>obtain⟨t',rfl⟩:=ry;exact XB (bx I q (by simp))
  |_=>exact absurd (show Gy=G3 from hs) Pz
 |int i=>
  obtain⟨t,rfl⟩:=rx
  cases y with
  |non=>cases ry;exact XR (bx I q (by simp))
  |int j=>obtain⟨t',rfl⟩:=ry;exact eq_int (bx I q zrx)
  |str j=>obtain⟨t',rfl⟩:=ry;exact XS (bx I q (by simp))
  |_=>exact absurd (show Gy=G3 from hs) Pz
 |str i=>
  obtain⟨t,rfl⟩:=rx
  cases y with
  |non=>cases ry;exact XT (bx I q (by simp))
  |bl j=>cases ry;exact XC (bx I q (by simp))
  |int j=>obtain⟨t',rfl⟩:=ry;exact XU (bx I q (by simp))
  |str j=>obtain⟨t',rfl⟩:=ry;exact eq_str (bx I q zrz)
  |_=>exact absurd (show Gy=G3 from hs) Pz
 |byt i=>
  obtain⟨t,rfl⟩:=rx
  cases y with
  |byt j=>obtain⟨t',rfl⟩:=ry;exact PySem.W.eq_bytes (bx I q zsa)
  |_=>exact absurd (show Gy=G3 from hs) Pz
 |_=>cases y <;> exact absurd (show Gy=G3 from hs) Pz
noncomputable def zbk:Zx X (PX .NotEq) rNe:=by
 intro pins s σ H x y v u Q I rx ry h;obtain⟨hs,q⟩:=h
 cases x with
 |non=>
  cases rx
  cases y with
  |non=>cases ry;exact XD (bx I q (by simp))
  |bl j=>cases ry;exact XF (bx I q (by simp))
  |int j=>obtain⟨t',rfl⟩:=ry;exact XW (bx I q (by simp))
  |str j=>obtain⟨t',rfl⟩:=ry;exact XX (bx I q (by simp))
  |_=>exact absurd (show Gy=G3 from hs) Pz
 |bl i=>
  cases rx
  cases y with
  |non=>cases ry;exact XG (bx I q (by simp))
  |bl j=>cases ry;exact ne_bool (bx I q (congrArg not zry))
  |str j=>obtain⟨t',rfl⟩:=ry;exact XH (bx I q (by simp))
  |_=>exact absurd (show Gy=G3 from hs) Pz
 |int i=>
  obtain⟨t,rfl⟩:=rx
  cases y with
  |non=>cases ry;exact XY (bx I q (by simp))
  |int j=>obtain⟨t',rfl⟩:=ry;exact ne_int (bx I q (congrArg not zrx))
  |str j=>obtain⟨t',rfl⟩:=ry;exact XZ (bx I q (by simp))
  |_=>exact absurd (show Gy=G3 from hs) Pz
 |str i=>
  obtain⟨t,rfl⟩:=rx
  cases y with
  |non=>cases ry;exact X0 (bx I q (by simp))
  |bl j=>cases ry;exact XI (bx I q (by simp))
  |int j=>obtain⟨t',rfl⟩:=ry;exact X1 (bx I q (by simp))
  |str j=>obtain⟨t',rfl⟩:=ry;exact ne_str (bx I q (congrArg not zrz))
  |_=>exact absurd (show Gy=G3 from hs) Pz
 |byt i=>
  obtain⟨t,rfl⟩:=rx
  cases y with
  |byt j=>obtain⟨t',rfl⟩:=ry;exact PySem.W.ne_bytes (bx I q (congrArg not zsa))
  |_=>exact absurd (show Gy=G3 from hs) Pz
 |_=>cases y <;> exact absurd (show Gy=G3 from hs) Pz
noncomputable def zbl:Zx X (PX .Lt) (EV λi j=>.bl (decide (i<j))):=qb λ_ _ _ _ _ _ _ q=>lt_int q
noncomputable def zbm:Zx X (PX .LtE) (EV λi j=>.bl (decide (i<=j))):=qb λ_ _ _ _ _ _ _ q=>le_int q
noncomputable def zbn:Zx X (PX .Gt) (EV λi j=>.bl (decide (j<i))):=qb λ_ _ _ _ _ _ _ q=>gt_int q
noncomputable def zbo:Zx X (PX .GtE) (EV λi j=>.bl (decide (j<=i))):=qb λ_ _ _ _ _ _ _ q=>ge_int q
noncomputable def zvn:Zx X (PX .In) (λx y H Q=>∃i j,x=.str i/\y=.str j/\Q (.bl (!(QX j i 0 j.length 1).isEmpty)) H):=by
 intro pins s σ H x y v u Q I rx ry h;obtain⟨i,j,rfl,rfl,q⟩:=h;obtain⟨t,rfl⟩:=rx;obtain⟨t',rfl⟩:=ry;exact in_str (bx I q rfl)
noncomputable def zbp:Zx X (PX .Is) (λx y H Q=>y=.non/\Q (.bl (decide (x=.non))) H):=by
 intro pins s σ H x y v u Q I rx ry h;obtain⟨rfl,q⟩:=h;cases ry;refine is_none_gen (bx I q ?_)
 cases x <;> first
  |omega
  |(obtain⟨t,rfl⟩:=rx;rfl)
noncomputable def zvo:Zx X (PX .IsNot) (λx y H Q=>y=.non/\Q (.bl (!decide (x=.non))) H):=by
 intro pins s σ H x y v u Q I rx ry h;obtain⟨rfl,q⟩:=h;cases ry;refine isnot_none_gen (bx I q ?_)
 cases x <;> first
  |(rfl)
  |(obtain⟨t,rfl⟩:=rx;rfl)
noncomputable def zvp:Zx X (PX .NotIn) (λx y H Q=>∃i j,x=.str i/\y=.str j/\Q (.bl (!(!(QX j i 0 j.length 1).isEmpty))) H):=by
 intro pins s σ H x y v u Q I rx ry h;obtain⟨i,j,rfl,rfl,q⟩:=h;obtain⟨t,rfl⟩:=rx;obtain⟨t',rfl⟩:=ry;exact notIn_str (bx I q rfl)
def Zx.or(h:Zx X f r)(h':Zx X f r'):Zx X f (λx y H Q=>r x y H Q\/r' x y H Q):=by
 intro pins s σ H x y v u Q I rx ry q
 rcases q with q|q
 .exact h pins s σ H x y v u Q I rx ry q
 .exact h' pins s σ H x y v u Q I rx ry q
noncomputable def f6(b:Expr)(h:autoParam (op≠.In) u11)(h2:autoParam (op≠.NotIn) u11):QS op b=Gy:=by
 have e1:(op == CmpOp.In)=Gy:=by simp_all
 have e2:(op == Yv)=Gy:=by simp_all
 cases b <;> simp[QS,e1,e2]
noncomputable def so(ho:Zx X (PX op) r)(ha:PE X a ta)(hb:PE X b tb)(hm:QS op b=Gy):PE X (.Compare a [op] [b] pos) (FV r ta tb):=by
 intro pins s σ H Q I h;exact wpAny_Compare1 (ut ha hb I h λv u s2 x y H2 I2 rx ry q=>ho pins s2 σ H2 x y v u Q I2 rx ry q) hm
noncomputable def Ar(t:TE):TT:=λσ H Q=>t σ H λx H'=>∃k,x=.bl k/\Q k H'
noncomputable def j7(ho:Zx X (PX op) r)(ha:PE X a ta)(hb:PE X b tb)(hm:QS op b=Gy):PT X (.Compare a [op] [b] pos) (Ar (FV r ta tb)):=by
 intro pins s σ H Q I h
 refine Vo (YZ (ha pins s σ H _ I h) λv s1 ⟨x,H1,I1,r1,q1⟩=>YZ (hb pins s1 σ H1 _ I1 q1) λu s2 ⟨y,H2,I2,r2,q2⟩=>
  YZ (ho pins s2 σ H2 x y v u _ I2 r1 r2 q2) λc s3 ⟨z,H3,I3,r3,k,e,q3⟩=>?_) hm
 subst e;cases r3;exact Qx ⟨H3,I3,q3⟩
noncomputable def sU(r r':R2)(ta tb tc:TE):TE:=λσ H Q=>ta σ H λx H1=>tb σ H1 λy H2=>r x y H2 λz H3=>∃k,z=.bl k /\
 (if k=G3 then tc σ H3 λw' H4=>r' y w' H4 Q else Q (.bl Gy) H3)
noncomputable def zbq(ho:Zx X (PX op) r)(LG:Zx X (PX IR) r')(ha:PE X a ta)(hb:PE X b tb)(hc:PE X c tc)
  (hm:autoParam (WS [op,IR] [b,c]=Gy) u23):PE X (.Compare a [op,IR] [b,c] pos) (sU r r' ta tb tc):=by
 intro pins s σ H Q I h
 refine Compare_chain (YZ (ha pins s σ H _ I h) λv s1 ⟨x,H1,I1,r1,q1⟩=>chain_link (YZ (hb pins s1 σ H1 _ I1 q1) λu s2 ⟨y,H2,I2,r2,q2⟩=>
  YZ (ho pins s2 σ H2 x y v u _ I2 r1 r2 q2) λd s3 ⟨z,H3,I3,r3,k,e,q3⟩=>?_)) hm
 subst e;cases r3;refine Qx ?_
 cases k with
 |false=>exact ite_ff ⟨.bl _,H3,I3,rfl,q3⟩
 |true=>exact ite_tt (chain_last (YZ (hc pins s3 σ H3 _ I3 q3) λw' s4 ⟨z',H4,I4,r4,q4⟩=>LG pins s4 σ H4 y z' u w' Q I4 r2 r4 q4))
noncomputable def zbr(ho:Zx X (PX op) r)(LG:Zx X (PX IR) r')(ha:PE X a ta)(hb:PE X b tb)(hc:PE X c tc)
  (hm:autoParam (WS [op,IR] [b,c]=Gy) u23):PT X (.Compare a [op,IR] [b,c] pos) (Ar (sU r r' ta tb tc)):=by
 intro pins s σ H Q I h
 refine isTrue_chain (YZ (ha pins s σ H _ I h) λv s1 ⟨x,H1,I1,r1,q1⟩=>test_link (YZ (hb pins s1 σ H1 _ I1 q1) λu s2 ⟨y,H2,I2,r2,q2⟩=>
  YZ (ho pins s2 σ H2 x y v u _ I2 r1 r2 q2) λd s3 ⟨z,H3,I3,r3,k,e,q3⟩=>?_)) hm
 subst e;cases r3;refine Qx ?_
 cases k with
 |false=>
  obtain⟨k',e',q'⟩:=q3;cases e';exact ite_ff ⟨H3,I3,q'⟩
 |true=>
  refine ite_tt (test_last (YZ (hc pins s3 σ H3 _ I3 q3) λw' s4 ⟨z',H4,I4,r4,q4⟩=>YZ (LG pins s4 σ H4 y z' u w' _ I4 r2 r4 q4) λd' s5 ⟨z2,H5,I5,r5,k2,e2,q5⟩=>?_));subst e2;cases r5;exact Qx ⟨H5,I5,q5⟩
def uv(K:Frag)(x:V)(H:Hp)(k:Bool):Prop:=
 match x with
 |.non=>k=Gy
 |.bl b=>k=b
 |.int i=>k=(i != 0)
 |.str y=>y.length<=Ph/\k=((y.length:Int) != 0)
 |.byt y=>y.size<=Ph/\k=((y.size:Int) != 0)
 |.ref p=>(∃xs,Zc K H p xs/\k = !xs.isEmpty)\/(∃xs,ZJ K H p xs/\k = !xs.isEmpty)\/∃kvs,H p=KQ (.dK kvs)/\k = !kvs.isEmpty
 |_=>False
noncomputable def zbs{κ:Type}{kvs:List (κ×V)}{vs:List (κ×O9)}(r:KV kvs vs):(!vs.isEmpty) = !kvs.isEmpty:=by cases r <;> rfl
noncomputable def zsb(r:YQ xs YL):(!YL.toArray.isEmpty) = !xs.isEmpty:=by cases r <;> simp
def kF:(Ph:Nat)<2^63:=by decide
noncomputable def zbt:LI X (λx H Q=>∃k,uv X.K x H k/\Q k H):=by
 intro pins s σ H x v Q I rx h;obtain⟨k,e,q⟩:=h;have hl:=kF;have hs:Ph=16777216:=Uu
 cases x with
 |non=>
  cases rx;have e':k=Gy:=e;subst e';exact truthy_none ⟨H,I,q⟩
 |bl b=>
  cases rx;have e':k=b:=e;subst e';exact Qx ⟨H,I,q⟩
 |int i=>
  obtain⟨t,rfl⟩:=rx;have e':k=(i != 0):=e;subst e';exact PySem.P.truthy_int ⟨H,I,q⟩
 |str y=>
  obtain⟨t,rfl⟩:=rx;obtain⟨hy,e'⟩:y.length<=Ph/\k=((y.length:Int) != 0):=e;subst e';exact PySem.P.truthy_str (by lia) ⟨H,I.tok _,q⟩
 |byt y=>
  obtain⟨t,rfl⟩:=rx;obtain⟨hy,e'⟩:y.size<=Ph/\k=((y.size:Int) != 0):=e;subst e';exact PySem.W.truthy_bytes (by lia) ⟨H,I.tok _,q⟩
 |ref p=>
  cases rx;have e':(∃xs,Zc X.K H p xs/\k = !xs.isEmpty)\/(∃xs,ZJ X.K H p xs/\k = !xs.isEmpty)\/∃kvs,H p=KQ (.dK kvs)/\k = !kvs.isEmpty:=e
  rcases e' with⟨xs,hx,e'⟩|⟨xs,hx,e'⟩|⟨kvs,hx,e'⟩
  .subst e'
   obtain⟨YL,r,pl,hz⟩:=I.list hx;have Y3:=r.length;exact wpAny_truthy_list pl.isList (by simp only[Qo];lia) ⟨H,I.tok _,by rw[zsb r];exact q⟩
  .subst e'
   obtain⟨YL,r,pl,hz⟩:=I.tuple hx;have Y3:=r.length;exact truthy_tuple pl (by simp only[Qo];lia) ⟨H,I.tok _,by rw[zsb r];exact q⟩
  .subst e'
   obtain⟨hz,hS,vs,r,m⟩:kvs.length<=Ph/\(p == QB)=Gy/\∃vs,KV kvs vs/\s.heap.DictOf (cJ X.prog X.w) p vs:=I.hok p _ hx;have Y3:kvs.length=vs.length:=Rl r;exact wpAny_truthy_dict hS m (by lia) ⟨H,I.tok _,by rw[zbs r];exact q⟩
 |_=>exact(show False from e).elim
noncomputable def zbu(ha:PE X a ta)(he:∀whole,WP a X.env whole=(do let v ←whole;VY a.pos;VZ [v] (truthy v))) :
  PT X a (λσ H Q=>ta σ H λx H'=>∃k,uv X.K x H' k/\Q k H'):=by
 intro pins s σ H Q I h;exact isTrue_plain (YZ (ha pins s σ H _ I h) λv s1 ⟨x,H1,I1,r1,q1⟩=>zbt pins s1 σ H1 x v Q I1 r1 q1) (he _)
noncomputable def zvq:Zx X (QL .Add) (λx y H Q=>∃i j,x=.str i/\y=.str j/\i.length+j.length<=Ph/\Q (.str (i++j)) H):=by
 intro pins s σ H x y v u Q I rx ry h;obtain⟨i,j,rfl,rfl,hz,q⟩:=h;obtain⟨t,rfl⟩:=rx;obtain⟨t',rfl⟩:=ry;exact add_str (λt' tk=>⟨.str _,H,I.tok _,⟨_,rfl⟩,q⟩) hz
noncomputable def vals1(r:YQ [x] us):∃u,us=[u]/\RelV x u:=by
 cases r with
 |cons r1 r2=>cases r2;exact⟨_,rfl,r1⟩
noncomputable def vals2(r:YQ [x,y] us):∃u w',us=[u,w']/\RelV x u/\RelV y w':=by
 cases r with
 |cons r1 r2=>
  cases r2 with
  |cons r3 r4=>cases r4;exact⟨_,_,rfl,r1,r3⟩
noncomputable def zbv:Zf X (.builtin "abs") (λxs H Q=>∃i,xs=[.int i]/\Q (.int (if i<0 then -i else i)) H):=by
 intro pins s σ H xs us Q I r h;obtain⟨i,rfl,q⟩:=h;obtain⟨u,rfl,t,rfl⟩:=vals1 r;exact call_abs_int λu tk=>⟨.int _,H,I.tok _,⟨_,rfl⟩,q⟩
noncomputable def zbw(hc:X.calm=G3):Zf X (.builtin "max") (λxs H Q=>∃i j,xs=[.int i,.int j]/\Q (.int (if j>i then j else i)) H):=by
 intro pins s σ H xs us Q I r h;obtain⟨i,j,rfl,q⟩:=h;obtain⟨u,w',rfl,⟨t,rfl⟩,⟨t',rfl⟩⟩:=vals2 r;refine max_two_ints (I.ok.hd hc) λh' tk k=>⟨_,H,I.kept k,?_,q⟩
 by_cases hj:j>i
 .rw[if_pos hj,if_pos hj];exact⟨_,rfl⟩
 .rw[if_neg hj,if_neg hj];exact⟨_,rfl⟩
noncomputable def zvr:Zf X (.type "int") (λxs H Q=>(∃i,xs=[.int i]/\Q (.int i) H)\/∃k,xs=[.bl k]/\Q (.int (if k then 1 else 0)) H):=by
 intro pins s σ H xs us Q I r h
 rcases h with⟨i,rfl,q⟩|⟨k,rfl,q⟩
 .obtain⟨u,rfl,t,rfl⟩:=vals1 r
  exact call_int_int ⟨.int i,H,I,⟨_,rfl⟩,q⟩
 .obtain⟨u,rfl,r1⟩:=vals1 r
  cases r1;exact call_int_bool ⟨.int _,H,I.tok _,⟨_,rfl⟩,q⟩
noncomputable def zbx:Zf X (.type "str") (λxs H Q=>∃i,xs=[.int i]/\i.natAbs.log2<1920/\Q (.str (toString i)) H):=by
 intro pins s σ H xs us Q I r h;obtain⟨i,rfl,hz,q⟩:=h;obtain⟨u,rfl,t,rfl⟩:=vals1 r;exact PySem.P.str_of_int hz ⟨.str _,H,I.tok _,⟨_,rfl⟩,q⟩
end
structure Ca(h:Heap)(x dx C:Addr)(mA:Str->Option O9):Prop where
 obj:h.get? x=KQ (Rv C dx)
 ns:h.Ns1 dx mA
 ne:dx≠x
noncomputable def zby{h:Heap}{mA:Str->Option O9}(n:h.Ns1 dx mA):∃od,h.get? dx=KQ od/\∀name,Uc name od=KQ (mA name):=by
 obtain⟨o,es,ep,ho,hd,hk,_,hm⟩:=n;refine⟨o,ho,λname=>?_⟩;have e:=hm name;unfold nsFind findBy at e;rw[←Array.find?_toList] at e;unfold Uc;rw[hd];dsimp only;split
 simp_all
 .rename_i q
  rw[q] at e
  have a:es.toList.any (·.refKey)=Gy:=by
   rw[List.any_eq_false];intro y hy;obtain⟨z,t,vM⟩:=hk y (Array.mem_toList_iff.mp hy);simp[DictEntry.refKey,vM]
  have a':¬es.toList.any (·.refKey)=G3:=by rw[a]<;>simp_all
  rw[if_neg a']<;>simp_all
def Ca.look(I:Ca h x dx C mA):∃od,PySem.W.InstAt h x (Rv C dx) C (KQ od)/\∀name,Uc name od=KQ (mA name):=
 let ⟨od,ho,hl⟩:=zby I.ns
 ⟨od,⟨I.obj,rfl,rfl,ho⟩,hl⟩
section
variable {prog:Pu}{w:PU}{A:Qa}{E:O9->Pe->Prop}{s:Pe}{K:Frag}{x dx C f:Addr}{mA:Str->Option O9}{name:Str}{v:O9}
noncomputable def get_map(X:K.In s.heap)(I:Ca s.heap x dx C mA)(hg:Sy K C name=G3)(hh:S3 K C=G3)
  (ha:Qv K (.ref C) name=KQ HA) (hv:mA name=KQ v) (Kj:WT v=G3) (h:Q v { s with toks:=s.toks+1 }) :
  PK (PP prog w) A (getAttr (.ref x) name expr) Q E s:=by
 obtain⟨od,J,hl⟩:=I.look;exact PySem.W.get_value X J (TM hg).1 (PySem.W.findObj_own hh ha rfl (by simp_all)) Kj h
noncomputable def zbz(X:K.In s.heap)(I:Ca s.heap x dx C mA)(hg:Sy K C name=G3)
  (hf:Qv K (.ref C) name=KQ (KQ (.ref f))) (ht:TV K (.ref f)=G3) (hv:mA name=HA) (h:Q (.ref f,[.ref x]) s) :
  PK (PP prog w) A (UH (.ref x) name pl) Q E s:=by
 obtain⟨od,J,hl⟩:=I.look;exact PySem.W.method_fn X J (TM hg).1 (TM hg).2 hf (beq_iff_eq.mp ht) (by show (Uc name od).map (·.isSome)=KQ Gy;rw[hl,hv];rfl) h
noncomputable def zca(X:K.In s.heap)(I:Ca s.heap x dx C mA)
  (hs:Qv K (.ref C) "__setattr__"=KQ (KQ (.builtin "object.__setattr__"))) (hp:Uv K C=G3) (ht:Vi K C name=KQ HA) (hh:S3 K C=G3)
  (hw:Wq mA ns) (hsz:ns.length<=Ph)
  (h:∀h',Ca h' x dx C (λy=>if y=name then KQ v else mA y)->Q2 dx s.heap h'->Q () { s with heap:=h',toks:=s.toks+2 }) :
  PK (PP prog w) A (setAttr (.ref x) name v) Q E s:=by
 obtain⟨od,J,hl⟩:=I.look;refine PySem.W.set_plain X J hs (PySem.W.osa_open (s:={ s with toks:=s.toks+1 }) (r:=HA) X J hp ht λb=>?_);obtain⟨cd,hc,EF⟩:=PySem.W.any_some hh;have hx:s.heap.get? x=KQ ⟨.ref C,KQ dx,.plain,#[]⟩:=I.obj;refine Pb (Pl (Pb (Pb (wpAny_loadPart hx (Pb (YC (s:={ s with toks:=s.toks+1 }) (PySem.W.looks_clsIn X hc) ?_))))));rw[EF];refine Pl (a:=KQ dx) (Pb (Pl (Pb ?_)));refine wpAny_nsSet1 (s:={ s with toks:=s.toks+1 }) I.ns λh' EZ Em=>?_;obtain⟨oD,esD,epD,hoD,hdD,hcD⟩:=EZ.count (YH name v hw);refine Pb (wpAny_lookBehind hoD (by rw[hdD];exact pastItsLine_dict (PB hcD (by simp_all))) ?_);exact Pl (h _ ⟨(Em.2 _ (P3 I.ne)).trans I.obj,EZ,I.ne⟩ Em)
noncomputable def zcb(X:K.In s.heap)(hm:Vj K C=G3)
  (hi:Qv K (.ref C) "__init__"=KQ (KQ (.ref f))) (hf:PySem.W.typeIn K (.ref f)=KQ (.type "function"))
  (h:Uw (PP prog w) (A.under (.builtin "type.__call__" ⟨.ref C::vs,kw⟩)) (.call (.ref f) ⟨.ref (s.heap.objs.size+1)::vs,kw⟩) (PySem.W.InitBack (s.heap.objs.size+1) R)
   { s with heap:=(s.heap.push Q3).push (Rv C s.heap.objs.size) }) :
  Uw (PP prog w) A (.call (.ref C) ⟨vs,kw⟩) R s:=by
 obtain⟨hh,g,d,t,os⟩:=s;exact PySem.W.make_core (PySem.W.makes_of X hm) (PySem.W.looks_findIn X hi) (λself=>PySem.W.bind_fn X self hf) (.inl rfl) h
end
noncomputable def dy(f:Str)(v:V):List (Str×V)->List (Str×V)
 |[]=>[(f,v)]
 |(g,x)::r=>if g=f then (g,v)::r else (g,x)::dy f v r
theorem zsc(f g:Str)(v:V):∀fs:List (Str×V),(dy f v fs).lookup g=if g=f then KQ v else fs.lookup g
 |[]=>by
  show W7 g [(f,v)]=_
  by_cases h:g=f
  .simp_all
  .simp_all
 |(k,x)::r=>by
  have ih:=zsc f g v r;rw[show dy f v ((k,x)::r)=(if k=f then (k,v)::r else (k,x)::dy f v r) from rfl]
  by_cases hk:k=f
  .grind
  .grind
theorem qQ(f:Str)(v:V):∀fs:List (Str×V),f∈(dy f v fs).map (·.1)/\∀g,g∈fs.map (·.1)->g∈(dy f v fs).map (·.1)
 |[]=>⟨by simp[dy],λg h=>by simp at h⟩
 |(k,x)::r=>by
  obtain⟨i1,i2⟩:=qQ f v r;rw[show dy f v ((k,x)::r)=(if k=f then (k,v)::r else (k,x)::dy f v r) from rfl]
  by_cases hk:k=f
  .grind
  .grind
theorem zsd(f:Str)(v:V):∀fs:List (Str×V),(dy f v fs).length<=fs.length+1
 |[]=>by simp[dy]
 |(k,x)::r=>by
  have ih:=zsd f v r;rw[show dy f v ((k,x)::r)=(if k=f then (k,v)::r else (k,x)::dy f v r) from rfl]
  by_cases hk:k=f
  .simp_all
  .simp_all
def ZR.some_of{v:V}{o:Option O9}(r:ZR (KQ v) o):∃u,o=KQ u/\RelV v u:=by
 cases o with
 |none=>exact(r).elim
 |some u=>exact⟨u,rfl,r⟩
def ZR.none_of(r:ZR HA o):o=HA:=by
 cases o with
 |none=>rfl
 |some u=>exact(show False from r).elim
noncomputable def zcc(r:RelV v u):WT u=G3:=by
 cases v with
 |non=>cases (show u=QW from r);rfl
 |bl b=>cases (show u=Wd b from r);rfl
 |int i=>obtain⟨t,e⟩:=(show ∃t,u=WN i t from r);cases e;rfl
 |str x=>obtain⟨t,e⟩:=(show ∃t,u=Ua x t from r);cases e;rfl
 |byt b=>obtain⟨t,e⟩:=(show ∃t,u=Yu b t from r);cases e;rfl
 |flt b=>obtain⟨t,e⟩:=(show ∃t,u=W6 b t from r);cases e;rfl
 |ref a=>cases (show u=P4 a from r);rfl
 |ty n=>cases (show u=Tf n from r);rfl
section
variable {P:Pu}{w:PU}{H H':Hp}{h h':Heap}{a C dx:Addr}{fs fs':List (Str×V)}
noncomputable def oz(hok:ZQ P w H h)(e:H a=KQ (.ins C dx fs)):∃mA,Ca h a dx C mA/\(∀f,ZR (fs.lookup f) (mA f))/\Wq mA (fs.map (·.1))/\fs.length<=1000/\H dx=KQ (.own a):=by
 obtain⟨d,z,ne,ob,mA,n,r,q⟩:=(hok a _ e);exact⟨mA,⟨ob,n,ne⟩,r,q,z,d⟩
end
structure Gb(K:Frag)(C:Addr):Prop where
 pg:Sy K C Str.empty=G3
 hd:S3 K C=G3
 po:Uv K C=G3
 sa:Qv K (.ref C) "__setattr__"=KQ (KQ (.builtin "object.__setattr__"))
def Gb.get{K:Frag}{C:Addr}(c:Gb K C)(f:Str):Sy K C f=G3:=c.pg
def Zl(K:Frag)(C:Addr)(f:Str):Prop:=Qv K (.ref C) f=KQ HA
def Zl.taker{K:Frag}{C:Addr}{f:Str}(n:Zl K C f):Vi K C f=KQ HA:=by
 unfold Vi;rw[show Qv K (.ref C) f=KQ HA from n];rfl
structure Ft(K:Frag)(C:Addr)(m:Str)(f:Addr):Prop where
 at_:Qv K (.ref C) m=KQ (KQ (.ref f))
 fn:TV K (.ref f)=G3
 kp:QT K (.ref f)=G3
section
variable {X:Cx}{pins:List (Addr×Obj)}{σ:St}{H:Hp}{s:Pe}{a C dx:Addr}{fs:List (Str×V)}{f:Str}{v:V}{A:Qa}{E:O9->Pe->Prop}
noncomputable def zcd(I:Inv X pins σ H s)(e:H a=KQ (.ins C dx fs))(c:Gb X.K C)(n:Zl X.K C f)(l:fs.lookup f=KQ v)
  (h:∀u s',Inv X pins σ H s'->RelV v u->Q u s'):PK (PP X.prog X.w) A (getAttr (.ref a) f b) Q E s:=by
 obtain⟨mA,O,r,_,_,_⟩:=oz I.hok e;obtain⟨u,hu,ru⟩:=ZR.some_of (v:=v) (o:=mA f) (by rw[←l];exact r f);exact get_map I.kIn O (c.get f) c.hd n hu (zcc ru) (h u _ (I.tok _) ru)
noncomputable def zse(I:Inv X pins σ H s)(e:H a=KQ (.ins C dx fs))(c:Gb X.K C)(k:Ft X.K C m g)(l:fs.lookup m=HA)
  (h:Q (.ref g,[.ref a]) s):PK (PP X.prog X.w) A (UH (.ref a) m pl) Q E s:=by
 obtain⟨mA,O,r,_,_,_⟩:=oz I.hok e;have hn:mA m=HA:=ZR.none_of (by rw[←l];exact r m);exact zbz I.kIn O (c.get m) k.at_ k.fn hn h
noncomputable def zce(I:Inv X pins σ H s)(e:H a=KQ (.ins C dx fs))(c:Gb X.K C)(n:Zl X.K C f)(hl:fs.length<1000)(ry:RelV y u)
  (h:∀s',Inv X pins σ (upd H a (.ins C dx (dy f y fs))) s'->Q () s'):PK (PP X.prog X.w) A (setAttr (.ref a) f u) Q E s:=by
 obtain⟨mA,O,r,wi,_,ho⟩:=oz I.hok e
 have hz:(fs.map (·.1)).length<=sizeLine:=by rw[PY,Uu];lia
 refine zca I.kIn O c.sa c.po n.taker c.hd wi hz λh' O' sb=>h _ ?_
 have hd:∃o,h'.get? dx=KQ o:=let ⟨o,_,_,e',_⟩:=O'.ns;⟨o,e'⟩
 refine I.write (x:=a) (e:=dx) (by rw[e];exact Q4) (.inr ho) (λb q hb z=>(sb.2 b hb).trans z) hd ?_;refine⟨by rw[aA O.ne];exact ho,?_,O.ne,O'.obj,_,O'.ns,λg=>?_,λg hg=>?_⟩
 .have:=zsd f y fs;lia
 .show ZR ((dy f y fs).lookup g) (if g=f then KQ u else mA g)
  rw[zsc]
  by_cases q:g=f
  .rw[if_pos q,if_pos q];exact ry
  .simp_all
 .by_cases q:g=f
  .rw[q];exact(qQ f y fs).1
  .refine(qQ f y fs).2 g (wi g λz=>hg ?_)
   show (if g=f then KQ u else mA g)=HA;rw[if_neg q];exact z
def Inv.made(I:Inv X pins σ H s):Inv X pins σ (upd (upd H s.heap.objs.size (.own (s.heap.objs.size+1))) (s.heap.objs.size+1) (.ins C s.heap.objs.size []))
  { s with heap:=(s.heap.push Q3).push (Rv C s.heap.objs.size) }:=by
 have e1:(s.heap.push Q3).get? s.heap.objs.size=KQ PySem.W.emptyDict:=Pw s.heap rfl
 have e2:((s.heap.push Q3).push (Rv C s.heap.objs.size)).get? (s.heap.objs.size+1)=KQ (Rv C s.heap.objs.size):=by
  have:=Pw (s.heap.push Q3) (o:=Rv C s.heap.objs.size) rfl
  rwa [Q5] at this
 have e3:(s.heap.push Q3).Ns s.heap.objs.size (λ_=>HA):=⟨Q3,#[],_,e1,rfl,(λe he=>absurd he (by simp)),λ_=>rfl⟩;have I1:=I.laid (a:=s.heap.objs.size) (o:=.own (s.heap.objs.size+1)) (h':=s.heap.push Q3) (t':=s.toks) (λb u q=>Pd _ q) (Pk _) ⟨_,e1⟩;refine I1.laid (a:=s.heap.objs.size+1) (o:=.ins C s.heap.objs.size []) (t':=s.toks) (λb u q=>Pd _ q) (Wr (Q5 _ _)) ?_;have ne:s.heap.objs.size≠s.heap.objs.size+1:=PM (R7 _);refine⟨by rw[aA ne,aQ],Ql _,ne,e2,λ_=>HA,(Heap.Ns1.of_empty e3).at λo q=>Pd _ q,λ_=>Q4,λy hy=>absurd rfl hy⟩
noncomputable def zcf(hb:QI e f env (eval e env)=eval e env)
  (h:PK (PP prog w) A (eval e env) (λo EO=>PK (PP prog w) A (getAttr o f G3) Q E EO) E s):PK (PP prog w) A (eval (.Attribute e f pos) env) Q E s:=Attribute_any_ h (by rw[arm_eval_Attribute,hb])
end
noncomputable def Lk(K:Frag)(ta:TE)(f:Str):TE:=λσ H Q=>ta σ H λx H1=>∃a C dx fs v,x=.ref a/\H1 a=KQ (.ins C dx fs)/\Gb K C/\Zl K C f/\fs.lookup f=KQ v/\Q v H1
noncomputable def Lq(K:Frag)(ta tv:TE)(f:Str):TS:=λD σ H=>tv σ H λy H1=>ta σ H1 λx H2=>∃a C dx fs,x=.ref a/\H2 a=KQ (.ins C dx fs)/\Gb K C/\Zl K C f/\fs.length<1000 /\
 D.nx σ (upd H2 a (.ins C dx (dy f y fs)))
section
variable {X:Cx}{o e value:Expr}{f:Str}{pos pos' EY:Pos}{ta tv:TE}{pins:List (Addr×Obj)}{σ:St}{H:Hp}{s:Pe}{A:Qa}{E Q:O9->Pe->Prop}{c:O9}{b:Bool}
noncomputable def kz(he:PE X e ta)(hb:QI e f X.env (eval e X.env)=eval e X.env):PE X (.Attribute e f pos) (Lk X.K ta f):=by
 intro pins s σ H Q I h;refine zcf hb (YZ (he pins s σ H _ I h) λu s1 ⟨x,H1,I1,rx,a,C,dx,fs,v,ex,ea,c,n,l,q⟩=>?_);subst ex;obtain rfl:u=P4 a:=rx;exact zcd I1 ea c n l λu' s2 I2 ru=>⟨v,H1,I2,ru,q⟩
noncomputable def tm(ha:PE X o ta)(hv:PE X value tv)(hs:QF value (KQ (.Attribute o f pos')) pos.line X.env=pure Gy):PS X (.Assign [.Attribute o f pos'] value pos) (Lq X.K ta tv f):=by
 intro pins s σ H D I h;refine plainObj_wpAny_Assign_Attribute (YZ (hv pins s σ H _ I h) λu s1 ⟨y,H1,I1,ry,q⟩=>YZ (ha pins s1 σ H1 _ I1 q) λov s2 ⟨x,H2,I2,rx,a,C,dx,fs,ex,ea,c,n,l,q2⟩=>?_) hs;subst ex;obtain rfl:ov=P4 a:=rx;exact zce I2 ea c n l ry λs3 I3=>⟨σ,_,I3,q2⟩
inductive Ku(K:Frag)(H:Hp):V->O9->Prop where
 |non:Ku K H .non (.type "NoneType")
 |bl (x:Bool):Ku K H (.bl x) (.type "bool")
 |int (i:Int):Ku K H (.int i) (.type "int")
 |str (x:Str):Ku K H (.str x) (.type "str")
 |flt (x:UInt64):Ku K H (.flt x) (.type "float")
 |lst {a:Addr}{xs:List V} (e:H a=KQ (.lst xs)):Ku K H (.ref a) (.type "list")
 |frz {a:Addr}{o:Obj}{xs:List V} (e:H a=KQ (.frz o (.lst xs))):Ku K H (.ref a) (.type "list")
 |tup {a:Addr}{xs:List V} (e:H a=KQ (.tup xs)):Ku K H (.ref a) (.type "tuple")
 |dK {a:Addr}{kvs:List (Key×V)} (e:H a=KQ (.dK kvs)):Ku K H (.ref a) (.type "dict")
 |dT {a:Addr}{kvs:List (List Key×V)} (e:H a=KQ (.dT kvs)):Ku K H (.ref a) (.type "dict")
 |ins {a C dx:Addr}{fs:List (Str×V)} (e:H a=KQ (.ins C dx fs)) (cl:Gb K C) (ha:Qv K (.ref C) "__class__"=KQ (KQ (.builtin "object.__class__")))
   (hn:PySem.W.specialIn K (.builtin "object.__class__") "__get__"=KQ (KQ (.builtin "getset_descriptor.__get__"))) (htk:PySem.W.takesIn K (.builtin "object.__class__")=KQ G3)
   (hm:PySem.W.mroIn K C (.type "object")=KQ G3):Ku K H (.ref a) (.ref C)
noncomputable def nR(I:Inv X pins σ H s)(rx:RelV x u)(ty:Ku X.K H x t)(e:PySem.W.kitOne X.K t c=KQ b)(h:∀tk,Q (.bool b) { s with toks:=tk }) :
  PK (PP X.prog X.w) A (call (.builtin "isinstance") [u,c]) Q E s:=by
 cases ty with
 |non=>cases (show u=QW from rx);exact Qn PySem.W.kitx_none I.kIn Q4 e (λz=>nomatch z) h
 |bl y=>cases (show u=Wd y from rx);exact Qn PySem.W.kitx_bool I.kIn Q4 e (λz=>nomatch z) h
 |int i=>obtain⟨t,q⟩:=(show ∃t,u=WN i t from rx);cases q;exact Qn PySem.W.kitx_int I.kIn Q4 e (λz=>nomatch z) h
 |str y=>obtain⟨t,q⟩:=(show ∃t,u=Ua y t from rx);cases q;exact Qn PySem.W.kitx_str I.kIn Q4 e (λz=>nomatch z) h
 |flt y=>obtain⟨t,q⟩:=(show ∃t,u=W6 y t from rx);cases q;exact Qn PySem.W.kitx_float I.kIn Q4 e (λz=>nomatch z) h
 |@lst a xs ea=>
  cases (show u=P4 a from rx);obtain⟨_,_,n,_,h1⟩:=(show Y5 X.prog X.w H s.heap a (.lst xs) from I.hok a _ ea);exact Qn Ux I.kIn ⟨_,h1,rfl⟩ e (λz=>nomatch z) h
 |@frz a ob xs ea=>
  cases (show u=P4 a from rx);obtain⟨_,_,_,n,_,h1⟩:=(show Y5 X.prog X.w H s.heap a (.frz ob (.lst xs)) from I.hok a _ ea);exact Qn Ux I.kIn ⟨_,h1,rfl⟩ e (λz=>nomatch z) h
 |@tup a xs ea=>
  cases (show u=P4 a from rx);obtain⟨_,_,_,p⟩:=(show Y5 X.prog X.w H s.heap a (.tup xs) from I.hok a _ ea);obtain⟨o,h1,h2,_⟩:=p;exact Qn Wh I.kIn ⟨o,h1,h2⟩ e (λz=>nomatch z) h
 |@dK a kvs ea=>
  cases (show u=P4 a from rx);obtain⟨_,_,vs,_,p⟩:=(show Y5 X.prog X.w H s.heap a (.dK kvs) from I.hok a _ ea);obtain⟨o,es,ep,h1,h2,_⟩:=p;exact Qn Uy I.kIn ⟨o,h1,h2.1⟩ e (λz=>nomatch z) h
 |@dT a kvs ea=>
  cases (show u=P4 a from rx);obtain⟨_,_,xs,_,o,es,ep,h1,h2,_⟩:=(show Y5 X.prog X.w H s.heap a (.dT kvs) from I.hok a _ ea);exact Qn Uy I.kIn ⟨o,h1,h2.1⟩ e (λz=>nomatch z) h
 |@ins a C dx fs ea cl ha hn htk hm=>
  cases (show u=P4 a from rx);obtain⟨mA,O,_⟩:=oz I.hok ea;obtain⟨od,J,_⟩:=O.look;exact Qn (PySem.W.kitx_own (cl.get _) cl.hd ha hn htk hm) I.kIn J e (λz=>nomatch z) h
end
structure YW(k:Nat)(A:Qa):Prop where
 hd:A.handled=HA
 dp:A.depth+3*k+5<recursionLimit
 un:A.units+16*k+200<UI
 gd:A.guards=KQ []
def YW.mono(r:YW k A)(h:j<=k):YW j A:=⟨r.hd,by have:=r.dp;lia,by have:=r.un;lia,r.gd⟩
theorem YW.deeper(r:YW (k+1) A)(env:Env):YW k (A.deeper env):=⟨r.hd,by have:=r.dp;show A.depth+1+3*k+5<_;lia,by have:=r.un;simp_all;lia,r.gd⟩
noncomputable def zcg{A:Qa}:(A.under (.builtin "type.__call__" ⟨.ref C::us,kw⟩)).depth=A.depth+1:=by first|rfl|simp[Ws,Code.weight,Code.isCreation,Yj,Code.isCaller,Code.frames,Yk,guardIds]
theorem zch{A:Qa}:(A.under (.builtin "type.__call__" ⟨.ref C::us,kw⟩)).units=A.units+1:=rfl
def YW.make(r:YW (k+1) A)(C:Addr)(us:List O9)(kw:List (Str×O9)):YW k (A.under (.builtin "type.__call__" ⟨.ref C::us,kw⟩)):=⟨r.hd,by have:=r.dp;rw[zcg];lia,by have:=r.un;rw[zch];lia,by first|exact r.gd|(simpa[Ws,Yj,guardIds] using r.gd)⟩
theorem YW.depth(r:YW k A):A.depth<recursionLimit:=by have:=r.dp;lia
def uh:TA:=λ_ H Q=>Q [] H
noncomputable def JU(ta:TE)(tr:TA):TA:=λσ H Q=>ta σ H λx H1=>tr σ H1 λxs H2=>Q (x::xs) H2
section
variable {X:Cx}{e:Expr}{es:List Expr}{te:TE}{t:TA}{pos:Pos}
noncomputable def br:PA X [] uh:=λ_ _ _ _ H Q I h=>Calls.spliced_nil ⟨[],H,I,.nil,h⟩
noncomputable def aV(ha:PE X e te)(hr:PA X es t)(hs:autoParam (Pi (e::es) X.env=(Gy,eval e X.env)::Pi es X.env) u10):PA X (e::es) (JU te t):=by
 intro pos pins s σ H Q I h;rw[hs];refine Calls.spliced_cons (YZ (ha pins s σ H _ I h) λu s1 ⟨x,H1,I1,r1,q1⟩=>?_);exact YZ (hr pos pins s1 σ H1 _ I1 q1) λus s2 ⟨xs,H2,I2,r2,q2⟩=>⟨x::xs,H2,I2,.cons r1 r2,q2⟩
noncomputable def La(t:TA):TE:=λσ H Q=>t σ H λxs H1=>xs.length<=Ph/\∀p,H1 p=HA->Q (.ref p) (upd H1 p (.tup xs))
noncomputable def Lg(t:TA):TE:=λσ H Q=>t σ H λxs H1=>xs.length<=Ph/\∀p,H1 p=HA->Q (.ref p) (upd H1 p (.lst xs))
noncomputable def zsf{x1}(h:PA X es t):PE X (.Tuple es x1 pos) (La t):=by
 intro pins s σ H Q I hq;refine wpAny_Tuple_spliced (YZ (h pos pins s σ H _ I hq) λus s1 ⟨xs,H1,I1,r,z,q⟩=>⟨by rw[←r.length];exact z,?_⟩);have hf:=I1.hok.fresh (Pk _);refine⟨.ref _,upd H1 _ _,I1.laid  (λb u e=>Pd _ e) (Pk _) ?_,rfl,q _ hf⟩;exact⟨z,us,r,⟨_,Pw _ rfl,rfl,_,rfl⟩⟩
noncomputable def ky(h:PA X es t):PE X (.List es pos) (Lg t):=by
 intro pins s σ H Q I hq;refine wpAny_List_spliced (YZ (h pos pins s σ H _ I hq) λus s1 ⟨xs,H1,I1,r,z,q⟩=>⟨by rw[←r.length];exact z,?_⟩);have hf:=I1.hok.fresh (Pk _);refine⟨.ref _,upd H1 _ _,I1.laid  (λb u e=>Pd _ e) (Pk _) ?_,rfl,q _ hf⟩;exact⟨z,us,0,r,Pw _ rfl⟩
end
abbrev Sp:=List V->Hp->VK->XK->Prop
abbrev GO:=List Env->Hp->Pe->XK->O9->Pe->Prop
structure BR(P:Pu)(w:PU)(K:Frag)(mg:Str->Option O9)(base:Heap)(A:Qa)(outer:List Env)(s:Pe)(H:Hp):Prop where
 frames:A.frames=KQ outer
 mod:Mod K mg base
 bs:∀b o,base.get? b=KQ o->s.heap.get? b=KQ o/\H b=HA
 bsz:base.objs.size<=s.heap.objs.size
 funs:s.heap.FunFrames base outer
 frf:∀b∈frs outer,H b=HA
 hok:ZQ P w H s.heap
 bare:Us s.gens
def CE(outer:List Env)(P:Pu)(w:PU)(H:Hp)(s:Pe)(Q:VK)(u:O9)(s':Pe):Prop:=∃v H',s'.os=s.os/\Us s'.gens/\Un (frs outer) [] H H' s.heap s'.heap/\ZQ P w H' s'.heap/\RelV v u/\Q v H'
def CR(CX:GO)(outer:List Env)(P:Pu)(w:PU)(H:Hp)(s:Pe)(Q:VK)(E:XK)(r:Yi)(s':Pe):Prop:=
 match r with
 |.ok (.ret u)=>CE outer P w H s Q u s'
 |.ok _=>False
 |.error e=>CX outer H s E e s'
structure Zr(P:Pu)(w:PU)(K:Frag)(mg:Str->Option O9)(base:Heap)(CX:GO)(k:Nat)(f:Addr)(fd:RG)(ps:List Str)(sp:Sp):Prop where
 len:∀vs H Q E,sp vs H Q E->vs.length=ps.length
 run:∀(A:Qa) (outer:List Env) (s:Pe) (H:Hp) (args:Args) (us:List O9) (vs:List V) (Q:VK) (E:XK),YW k A->BR P w K mg base A outer s H->Wt s fd args (ps.zip us)->YQ vs us->sp vs H Q E ->
  Uw (PP P w) A (.call (.ref f) args) (CR CX outer P w H s Q E) s
def BR.make{P:Pu}{w:PU}{K:Frag}{mg:Str->Option O9}{base:Heap}{A:Qa}{outer:List Env}{s:Pe}{H:Hp}(e:BR P w K mg base A outer s H)(C:Addr)(us:List O9)(kw:List (Str×O9)) :
  BR P w K mg base (A.under (.builtin "type.__call__" ⟨.ref C::us,kw⟩)) outer s H:=⟨by first|exact e.frames|(simpa[Ws,Code.envs,Yk,pushEnvs] using e.frames),e.mod,e.bs,e.bsz,e.funs,e.frf,e.hok,e.bare⟩
section
variable {X:Cx}{pins:List (Addr×Obj)}{σ:St}{H:Hp}{s s':Pe}
def Inv.env0(I:Inv X pins σ H s):BR X.prog X.w X.K X.mg X.base X.A X.stack s H:=⟨I.ok.frames,I.ok.mod,I.bs,PB I.ok.bsz I.sz,I.stack,I.stkFree,I.hok,I.bare⟩
def Inv.after(I:Inv X pins σ H s)(h:CE X.stack X.prog X.w H s Q u s'):EP X pins σ Q u s':=by
 obtain⟨v,H',os,bare,un,hok,r,q⟩:=h;obtain⟨hh,g,d,t,os'⟩:=s';obtain rfl:os'=s.os:=os;exact⟨v,H',I.call      un hok bare (λb z=>absurd z (by simp)),r,q⟩
end
noncomputable def Av(sp:Sp)(Il:List V)(E:XK)(t:TA):TE:=λσ H Q=>t σ H λvs H1=>sp (vs++Il) H1 Q E
noncomputable def tT(C:Addr)(m:Str)(sp:Sp)(Il:List V)(E:XK)(ta:TE)(t:TA):TE:=λσ H Q=>ta σ H λx H1=>∃a dx fs,x=.ref a/\H1 a=KQ (.ins C dx fs)/\fs.lookup m=HA /\
 t σ H1 λvs H2=>sp (x::(vs++Il)) H2 Q E
noncomputable def As(C:Addr)(sp:Sp)(Il:List V)(E:XK)(t:TA):TE:=λσ H Q=>t σ H λvs H1=>∀x dx,H1 x=HA->H1 dx=HA->dx≠x ->
 sp (.ref x::(vs++Il)) (upd (upd H1 dx (.own x)) x (.ins C dx [])) (λv H2=>v=.non/\Q (.ref x) H2) E
def Binds(K:Frag)(fd:RG)(ps:List Str)(ds:List O9):Prop:=∀(s:Pe) (us:List O9),K.In s.heap->(us++ds).length=ps.length->Wt s fd ⟨us,[]⟩ (ps.zip (us++ds))
def Binds.all{K:Frag}{fd:RG}{ps:List Str}(h:∀us:List O9,us.length=ps.length->SE fd ⟨us,[]⟩=pure (ps.zip us)):Binds K fd ps []:=λs us _ hl=>by
 rw[QJ] at hl ⊢;exact .of_eq (h us hl)
def iJ(CX:GO)(X:Cx)(E:XK):Prop:=∀(pins:List (Addr×Obj)) (σ:St) (H:Hp) (s:Pe) (e:O9) (s':Pe),Inv X pins σ H s->CX X.stack H s E e s'->X.xe e s'
section
variable {X:Cx}{CX:GO}{k:Nat}{f C:Addr}{fd:RG}{ps:List Str}{sp:Sp}{Il:List V}{ds:List O9}{E:XK}{x m:Str}{p pos apos:Pos}{e o:Expr}{es:List Expr}{ta:TE}{t:TA}
noncomputable def tf(F:Zr X.prog X.w X.K X.mg X.base CX k f fd ps sp)(hr:YW k X.A)(hb:Binds X.K fd ps ds)(hd:YQ Il ds)(hx:iJ CX X E)
  (I:Inv X pins σ H s) (r:YQ vs us) (h:sp (vs++Il) H Q E):PK (PP X.prog X.w) X.A (call (.ref f) us) (EP X pins σ Q) X.xe s:=by
 have r2:=r.append hd
 have hl:(us++ds).length=ps.length:=by rw[←r2.length];exact F.len _ _ _ _ h
 refine wpAny_call (UZ (F.run X.A _ s H _ _ _ Q E hr I.env0 (hb s us I.kIn hl) r2 h) λr s' hq=>?_)
 cases r with
 |error e=>exact hx pins σ H s e s' I hq
 |ok fl=>
  cases fl with
  |ret u=>exact I.after hq
  |next=>exact RU hq
  |brk=>exact RU hq
  |cont=>exact RU hq
noncomputable def zci(F:Zr X.prog X.w X.K X.mg X.base CX k f fd ps sp)(hr:YW k X.A)(hg:Gl X x)(hm:X.mg x=KQ (.ref f))(hk:QT X.K (.ref f)=G3)(hb:Binds X.K fd ps ds)(hd:YQ Il ds)(hx:iJ CX X E)
  (ha:PA X (e::es) t) (ZG:autoParam ((x == ("__debug__" : Str))=Gy) u11) (he:autoParam (Pi (e::es) X.env=(Gy,eval e X.env)::Pi es X.env) u10) (Zv:autoParam ((Qj pos (Pi es X.env)).any (·.1)=Gy) u10) :
  PE X (.Call (.Name x p) (e::es) [] pos) (Av sp Il E t):=by
 intro pins s σ H Q I h;refine Se (oy I hg hm ?_ ZG);refine Ud  I.ok.mod.kin hk (YZ (ha pos pins s σ H _ I h) λus s1 ⟨vs,H1,I1,r,q⟩=>⟨I1.kIn,?_⟩) he Zv;exact tf F hr hb hd hx I1 r q
noncomputable def fX(he:PE X o ta)(c:Gb X.K C)(hm:Ft X.K C m f)(F:Zr X.prog X.w X.K X.mg X.base CX k f fd ps sp)(hr:YW k X.A)(hb:Binds X.K fd ps ds)(hd:YQ Il ds)(hx:iJ CX X E)(ha:PA X (e::es) t)
  (KY:autoParam (Pi (e::es) X.env=(Gy,eval e X.env)::Pi es X.env) u10) (Zv:autoParam ((Qj pos (Pi es X.env)).any (·.1)=Gy) u10)
  (ht:autoParam (eval (.Call (.Attribute o m apos) (e::es) [] pos) X.env=(do
   let ov ←eval o X.env
   VY apos.atName
   let (f,first) ←VZ [ov] (UH ov m pl)
   Xq pos f first (Qj pos (Pi (e::es) X.env)) (RO pos (QQ [] X.env)))) u10) :
  PE X (.Call (.Attribute o m apos) (e::es) [] pos) (tT C m sp Il E ta t):=by
 intro pins s σ H Q I h;refine Vq (pl:=pl) (YZ (he pins s σ H _ I h) λu s1 ⟨x,H1,I1,rx,a,dx,fs,ex,ea,l,q⟩=>?_) ht;subst ex;obtain rfl:u=P4 a:=rx;refine zse I1 ea c hm l ?_;refine Ud (first:=[.ref a]) (h₀:=X.base) I.ok.mod.kin hm.kp (YZ (ha pos pins s1 σ H1 _ I1 q) λus s2 ⟨vs,H2,I2,r,q2⟩=>⟨I2.kIn,?_⟩) KY Zv;exact tf (us:=.ref a::us) (vs:=.ref a::vs) F hr hb hd hx I2 (.cons rfl r) q2
noncomputable def iB(he:PE X o ta)(c:Gb X.K C)(hm:Ft X.K C m f)(F:Zr X.prog X.w X.K X.mg X.base CX k f fd ps sp)(hr:YW k X.A)(hb:Binds X.K fd ps ds)(hd:YQ Il ds)(hx:iJ CX X E)
  (ht:autoParam (eval (.Call (.Attribute o m apos) [] [] pos) X.env=(do
   let ov ←eval o X.env
   VY apos.atName
   let (f,first) ←VZ [ov] (UH ov m pl)
   Xq pos f first (Qj pos (Pi [] X.env)) (RO pos (QQ [] X.env)))) u10) :
  PE X (.Call (.Attribute o m apos) [] [] pos) (tT C m sp Il E ta uh):=by
 intro pins s σ H Q I h;refine Vq (pl:=pl) (YZ (he pins s σ H _ I h) λu s1 ⟨x,H1,I1,rx,a,dx,fs,ex,ea,l,q⟩=>?_) ht;subst ex;obtain rfl:u=P4 a:=rx;refine zse I1 ea c hm l ?_;exact V1 (first:=[.ref a]) I1.kIn hm.kp (tf (us:=[.ref a]) (vs:=[.ref a]) F hr hb hd hx I1 (.cons rfl .nil) q)
structure Mk(K:Frag)(C f:Addr):Prop where
 makes:Vj K C=G3
 init:Qv K (.ref C) "__init__"=KQ (KQ (.ref f))
 fn:TV K (.ref f)=G3
 kp:QT K (.ref C)=G3
noncomputable def zsg(M:Mk X.K C f)(F:Zr X.prog X.w X.K X.mg X.base CX k f fd ps sp)(hr:YW (k+1) X.A)(hb:Binds X.K fd ps ds)(hd:YQ Il ds)
  (hx:iJ CX X E) (I:Inv X pins σ H s) (r:YQ vs us)
  (h:∀x dx,H x=HA->H dx=HA->dx≠x->sp (.ref x::(vs++Il)) (upd (upd H dx (.own x)) x (.ins C dx [])) (λv H2=>v=.non/\Q (.ref x) H2) E) :
  PK (PP X.prog X.w) X.A (call (.ref C) us) (EP X pins σ Q) X.xe s:=by
 have hq:=h (s.heap.objs.size+1) s.heap.objs.size (I.hok.fresh (VG _)) (I.hok.fresh (Pk _)) (PM (R7 _));have I2:=Inv.made (C:=C) I;have r2:YQ (V.ref (s.heap.objs.size+1)::(vs++Il)) (P4 (s.heap.objs.size+1)::(us++ds)):=.cons rfl (r.append hd)
 have hl:(P4 (s.heap.objs.size+1)::us++ds).length=ps.length:=by
  have e:=r2.length;rw[F.len _ _ _ _ hq] at e;exact e.symm
 refine wpAny_call (zcb (f:=f) I.kIn M.makes M.init (beq_iff_eq.mp M.fn) (UZ (F.run _ X.stack _ _ ⟨P4 (s.heap.objs.size+1)::us,[]⟩ (P4 (s.heap.objs.size+1)::(us++ds)) _ _ E (hr.make C us [])
  (I2.env0.make C us []) (hb _ (P4 (s.heap.objs.size+1)::us) I2.kIn hl) r2 hq) λr s' ZP=>?_))
 cases r with
 |error e=>exact hx pins σ _ _ e s' I2 ZP
 |ok fl=>
  cases fl with
  |ret u=>
   obtain⟨v,H',I3,rv,ev,q3⟩:=I2.after ZP;subst ev;exact⟨rv,⟨V.ref (s.heap.objs.size+1),H',I3,rfl,q3⟩⟩
  |next=>exact RU ZP
  |brk=>exact RU ZP
  |cont=>exact RU ZP
noncomputable def zcj(M:Mk X.K C f)(F:Zr X.prog X.w X.K X.mg X.base CX k f fd ps sp)(hr:YW (k+1) X.A)(hg:Gl X x)(hm:X.mg x=KQ (.ref C))(hb:Binds X.K fd ps ds)(hd:YQ Il ds)(hx:iJ CX X E)
  (ha:PA X (e::es) t) (ZG:autoParam ((x == ("__debug__" : Str))=Gy) u11) (he:autoParam (Pi (e::es) X.env=(Gy,eval e X.env)::Pi es X.env) u10) (Zv:autoParam ((Qj pos (Pi es X.env)).any (·.1)=Gy) u10) :
  PE X (.Call (.Name x p) (e::es) [] pos) (As C sp Il E t):=by
 intro pins s σ H Q I h;refine Se (oy I hg hm ?_ ZG);refine Ud (h₀:=X.base) I.ok.mod.kin M.kp (YZ (ha pos pins s σ H _ I h) λus s1 ⟨vs,H1,I1,r,q⟩=>⟨I1.kIn,?_⟩) he Zv;exact zsg M F hr hb hd hx I1 r q
noncomputable def rD(M:Mk X.K C f)(F:Zr X.prog X.w X.K X.mg X.base CX k f fd ps sp)(hr:YW (k+1) X.A)(hg:Gl X x)(hm:X.mg x=KQ (.ref C))(hb:Binds X.K fd ps ds)(hd:YQ Il ds)(hx:iJ CX X E)
  (ZG:autoParam ((x == ("__debug__" : Str))=Gy) u11):PE X (.Call (.Name x p) [] [] pos) (As C sp Il E uh):=by
 intro pins s σ H Q I h;refine Se (oy I hg hm ?_ ZG);exact V1 I.kIn M.kp (zsg (us:=[]) M F hr hb hd hx I .nil h)
end
structure Y2(N P:List Str)(sc:Rk):Prop where
 kind:sc.kind=.function
 co:sc.isCoroutine=Gy
 gen:sc.isGenerator=Gy
 nd:N.Nodup
 pre:N.take P.length=P
 par:∀x∈P,sc.names.lookup x=KQ .local\/sc.names.lookup x=KQ .cell
 nofree:∀y∈sc.names,y.2≠.free
theorem zsh{U0:Str->Option RP}:∀{binds:List (Str×O9)}{m:Str->Option O9},(∀v,(x,v)∉binds)->Yc U0 binds m x=m x
 |[],_,_=>rfl
 |(n,v)::r,m,h=>by
  unfold Yc;rw[zsh λw hw=>h w (Pc _ hw)];split
  .grind
  .rfl
theorem zsi{U0:Str->Option RP}:∀{binds:List (Str×O9)}{m:Str->Option O9},(∀v,(x,v)∉binds)->Yd U0 binds m x=m x
 |[],_,_=>rfl
 |(n,v)::r,m,h=>by
  unfold Yd;rw[zsi λw hw=>h w (Pc _ hw)];split
  .rfl
  .grind
theorem zsj{U0:Str->Option RP}:∀{P:List Str}{vs:List O9}{i:Nat}{m:Str->Option O9},P.Nodup->P[i]? = KQ x->vs[i]? = KQ v->U0 x=KQ .local ->
  Yc U0 (P.zip vs) m x=KQ v
 |[],_,_,_,_,h,_,_=>by simp at h
 |_::_,[],_,_,_,_,h,_=>by simp at h
 |p::P,w::vs,0,m,nd,h1,h2,hk=>by
  simp at h1 h2;subst h1;subst h2;show Yc _ (_::P.zip vs) m p=_;unfold Yc;rw[zsh λv hv=>(RN.mp nd).1 (Vk hv).1,if_pos hk];simp
 |p::P,w::vs,i+1,m,nd,h1,h2,hk=>by
  unfold Yc;exact zsj  (RN.mp nd).2 (by simpa using h1) (by simpa using h2) hk
theorem zsk{U0:Str->Option RP}:∀{P:List Str}{vs:List O9}{i:Nat}{m:Str->Option O9},P.Nodup->P[i]? = KQ x->vs[i]? = KQ v->U0 x≠KQ .local ->
  Yd U0 (P.zip vs) m x=KQ v
 |[],_,_,_,_,h,_,_=>by simp at h
 |_::_,[],_,_,_,_,h,_=>by simp at h
 |p::P,w::vs,0,m,nd,h1,h2,hk=>by
  simp at h1 h2;subst h1;subst h2;show Yd _ (_::P.zip vs) m p=_;unfold Yd;rw[zsi λv hv=>(RN.mp nd).1 (Vk hv).1,if_neg hk];simp
 |p::P,w::vs,i+1,m,nd,h1,h2,hk=>by
  unfold Yd;exact zsk  (RN.mp nd).2 (by simpa using h1) (by simpa using h2) hk
noncomputable def start(N:List Str)(vs:List V):St:=vs.map KQ++Pp (N.length-vs.length) HA
noncomputable def ef(CX:GO)(P:Pu)(w:PU)(K:Frag)(mg:Str->Option O9)(base:Heap)(N:List Str)(qual:Str)(scope:Rk)(f:Addr)(cd:O9)(A:Qa)(outer:List Env)(s:Pe)(H:Hp)(E:XK):Cx where
 prog:=P
 w:=w
 K:=K
 mg:=mg
 base:=base
 A:=A.deeper (S4 qual scope s.heap.objs.size f cd)
 N:=N
 s₀:=s
 H₀:=H
 env:=S4 qual scope s.heap.objs.size f cd
 outer:=outer
 stack:=S4 qual scope s.heap.objs.size f cd::outer
 ex:=[]
 calm:=G3
 fn:=λ_=>G3
 pn:=[]
 xe:=λe s'=>PK (PP P w) (A.deeper (S4 qual scope s.heap.objs.size f cd)) (leaving (S4 qual scope s.heap.objs.size f cd) e) (λ_ zD=>CX outer H s E e zD) (λe' zD=>CX outer H s E e' zD) s'
noncomputable def zsl{sc:Rk}{n:Nat}{x:Str}(h:sc.names.lookup x=KQ .cell):∃c,(Ye n sc.names []).lookup x=KQ c:=by
 have q:=U1 _ n [] (.inl h);exact SF.mp q
noncomputable def zck{CX:GO}{P:Pu}{w:PU}{K:Frag}{mg:Str->Option O9}{base:Heap}{N ps:List Str}{qual:Str}{scope:Rk}{f:Addr}{cd:O9}{A:Qa}{outer:List Env}{s s1:Pe}{H:Hp}{E:XK}{us:List O9}{vs:List V}
  (S:Y2 N ps scope) (hd:A.handled=HA) (e0:BR P w K mg base A outer s H) (hl:vs.length=ps.length) (r:YQ vs us)
  (x:InCallC s s.heap.objs.size (Yc (S4 qual scope s.heap.objs.size f cd).kindOf (ps.zip us) λ_=>HA) (Ye (s.heap.objs.size+1) scope.names []) (Yd (S4 qual scope s.heap.objs.size f cd).kindOf (ps.zip us) λ_=>HA) s1) :
  Inv (ef CX P w K mg base N qual scope f cd A outer s H E) [] (start N vs) H s1:=by
 have Zv:ps.length<=N.length:=by have:=congrArg W8 S.pre;rw[RC] at this;lia
 obtain⟨h1,tk,rfl,hk⟩:=x.done;have Kt:∀b:Addr,b∉(ef CX P w K mg base N qual scope f cd A outer s H E).ex:=λb z=>absurd (show b∈([]:List Addr) from z) (by simp)
 refine⟨⟨e0.mod,S.kind,rfl,rfl,Pk _,λy z c h1 h2=>?_,λy hy=>?_,λy c _ h=>?_,λ_=>hd,Around.frames_deeper e0.frames,.inr ⟨rfl,rfl⟩,λb z=>absurd z (Kt b),e0.bs,e0.bsz,λb _ _=>Kt b,λb z=>absurd z (Kt b),e0.funs,e0.frf⟩,
  rfl,e0.bare,Un.kept hk,⟨_,x.toInCall.ns,λi y v h1 h2 h3=>?_⟩,λy c h=>⟨_,x.cell y c h⟩,e0.hok.fresh (Pk _),λy c h=>?_,λp hp=>absurd (show p∈([]:List (Addr×Obj)) from hp) (by simp),e0.hok.kept hk,?_⟩
 .exact name_of_addr x.apart (R5 h1) (R5 h2)
 .rcases hy with hy|hy
  .exact zsl hy
  .exact absurd rfl (S.nofree _ (R5 hy))
 .exact UX (x.above y c (R5 h))
 .have hi:i<vs.length:=by
   unfold start at h2
   by_cases hi:i<vs.length
   .exact hi
   .rw[Qc (by simpa using hi)] at h2
    rw[List.getElem?_replicate] at h2
    split at h2 <;> cases h2
  have ha:vs[i]? = KQ v:=by
   unfold start at h2
   rw[Pn (by simpa using hi),P5] at h2<;>grind
  obtain⟨u,hu,rv⟩:=r.get ha
  have hp:ps[i]? = KQ y:=by
   rw[←S.pre,SG (by lia)];exact h1
  have ndP:ps.Nodup:=by rw[←S.pre];exact S.nd.sublist (Wu _ _)
  refine⟨u,rv,?_⟩
  rcases S.par y (Px hp) with k|k
  .exact .inl ⟨k,zsj ndP hp hu k⟩
  .obtain⟨c,e⟩:=zsl (n:=s.heap.objs.size+1) k
   refine .inr ⟨.inl k,c,e,?_⟩;have q:=x.cell y c e;rw[zsk ndP hp hu (by show scope.names.lookup y≠_;rw[k];decide)] at q;exact q
 .exact e0.hok.fresh (UX (x.above y c (R5 h)))
 .unfold start
  show _=N.length;rw[Qb,PY,List.length_replicate]
  lia
noncomputable def zcl{CX:GO}{P:Pu}{w:PU}{K:Frag}{mg:Str->Option O9}{base:Heap}{k:Nat}{f:Addr}{name qual:Str}{params:Arguments}{body:List Stmt}{scope:Rk}{dV kV doc pm Y9 ct oc:O9}{an od:Option Addr}
  {osl:Array (Option O9)}{N ps:List Str}{sp:Sp} (lk:K.lookup f=KQ ⟨oc,od,.func (Qf name qual params body scope dV kV doc pm an Y9 ct),osl⟩) (hcd:R8 K Y9 qual=G3) (S:Y2 N ps scope)
  (len:∀vs H Q E,sp vs H Q E->vs.length=ps.length)
  (Zw:∀(A:Qa) (outer:List Env) (s:Pe) (H:Hp) (vs:List V) (Q:VK) (E:XK),YW k (A.deeper (S4 qual scope s.heap.objs.size f Y9))->sp vs H Q E ->
   ∃t,Kl (ef CX P w K mg base N qual scope f Y9 A outer s H E) body t/\t { nx:=λ_ H'=>Q .non H',rt:=Q } (start N vs) H) :
  Zr P w K mg base CX (k+1) f (Qf name qual params body scope dV kV doc pm an Y9 ct) ps sp:=by
 refine⟨len,λA outer s H args us vs Q E hr e0 hb r Cd=>?_⟩;have hl:=len _ _ _ _ Cd;have KX:=e0.mod.kin.keeps λb o e=>(e0.bs b o e).1;have lim:=e0.mod.nolimit.keeps λb o e=>(e0.bs b o e).1
 have Cp:∀y∈ps.zip us,scope.names.lookup y.1=KQ .local\/(scope.names.lookup y.1=KQ .cell/\((Ye (s.heap.objs.size+1) _ []).lookup y.1).isSome=G3):=λ⟨n,v⟩ hy=>by
  rcases S.par n (Vk hy).1 with q|q
  .exact .inl q
  .exact .inr ⟨q,U1 _ _ _ (.inl q)⟩
 refine codeAny_call_function hr.depth (KX _ _ lk) rfl S.co S.gen rfl (PySem.W.codeRec_of KX hcd) (hb _ _ _ _ ?_);refine wpAny_newFunctionEnv_cells S.kind Cp λenv he s1 x=>?_;subst he;refine⟨lim.keeps x.toInCall.keep,codeAny_func ?_⟩;obtain⟨t,ht,hq⟩:=Zw A _ s H vs Q E (hr.deeper _) Cd;have I:Inv (ef CX P w K mg base N qual _ f Y9 A _ s H E) [] _ H s1:=zck S hr.hd e0 hl r x;refine QC (ht [] s1 _ H _ I hq) (λfl s' hs=>?_) λe s' hs=>hs
 have fin:∀{σ':St}{H':Hp}{v:V}{u:O9},Inv (ef CX P w K mg base N qual scope f Y9 A outer s H E) [] σ' H' s'->RelV v u->Q v H'->CE _ P w H s Q u s':=
  λ{σ' H' v u} J rv q=>⟨v,H',J.os,J.bare,J.base,J.hok,rv,q⟩
 cases fl with
 |ret u=>
  obtain⟨v,σ',H',J,rv,q⟩:=hs;exact fin J rv q
 |next=>
  obtain⟨σ',H',J,q⟩:=hs;exact fin (v:=V.non)  J rfl q
 |brk=>
  obtain⟨_,_,_,q⟩:=hs<;>simp_all
 |cont=>
  obtain⟨_,_,_,q⟩:=hs<;>simp_all
section
variable {X:Cx}{x:Str}{p pos:Pos}{e:Expr}{es:List Expr}{t:TA}{id T:String}{r:List V->Hp->VK->Prop}
noncomputable def xt(r:List V->Hp->VK->Prop)(t:TA):TE:=λσ H Q=>t σ H λvs H1=>r vs H1 Q
noncomputable def zsm(hc:Zf X (.builtin id) r)(hg:Gl X x)(hm:X.mg x=HA)(hv:Rx x=KQ (.builtin id))(ha:PA X (e::es) t)(hn:autoParam (x≠"__name__") u11)(ZG:autoParam ((x == ("__debug__" : Str))=Gy) u11)
  (he:autoParam (Pi (e::es) X.env=(Gy,eval e X.env)::Pi es X.env) u10) (Zv:autoParam ((Qj pos (Pi es X.env)).any (·.1)=Gy) u10):PE X (.Call (.Name x p) (e::es) [] pos) (xt r t):=by
 intro pins s σ H Q I h;refine Se (mE I hg hm hv ?_ hn ZG);exact WU (YZ (ha pos pins s σ H _ I h) λus s1 ⟨vs,H1,I1,r1,q1⟩=>hc pins s1 σ H1 vs us Q I1 r1 q1) he Zv
noncomputable def zsn(hc:Zf X (.type T) r)(hg:Gl X x)(hm:X.mg x=HA)(hv:Rx x=KQ (.type T))(ha:PA X (e::es) t)(hn:autoParam (x≠"__name__") u11)(ZG:autoParam ((x == ("__debug__" : Str))=Gy) u11)
  (he:autoParam (Pi (e::es) X.env=(Gy,eval e X.env)::Pi es X.env) u10) (Zv:autoParam ((Qj pos (Pi es X.env)).any (·.1)=Gy) u10):PE X (.Call (.Name x p) (e::es) [] pos) (xt r t):=by
 intro pins s σ H Q I h;refine Se (mE I hg hm hv ?_ hn ZG);exact Sr (YZ (ha pos pins s σ H _ I h) λus s1 ⟨vs,H1,I1,r1,q1⟩=>hc pins s1 σ H1 vs us Q I1 r1 q1) he Zv
end
end L2
namespace HT
open PySem PyProof.Rows
section
variable {prog:Pu}{w:PU}{A:Qa}{E:O9->Pe->Prop}{s:Pe}
noncomputable def zcm(ht:Xm s.heap t vs.toArray)(hb:Xm s.heap b ws.toArray)(hv:vs≠[])
  (h1:ws=[]->Q (.ref t) s) (h2:ws≠[]->Q (.ref s.heap.objs.size) { s with heap:=s.heap.push { cls:=.type "tuple",data:=.seq (vs++ws).toArray } })
  (hsz:vs.length+ws.length<=Ph):PK (PP prog w) A (QL .Add (.ref t) (.ref b)) Q E s:=by
 obtain⟨⟨cls,dd,data,sl⟩,ho,hc,n,hd⟩:=id ht;obtain⟨⟨GV,KJ,data2,EM⟩,G0,YY,n2,hd2⟩:=id hb;subst hc hd YY hd2
 have e:vs.toArray++ws.toArray=(vs++ws).toArray:=by simp
 by_cases hw:ws=[]
 .exact U2 ⟨_,ho,rfl⟩ ⟨_,G0,rfl⟩ UJ V5 S5 SW (SH _ _)
   (tuple_addW1 t b _ _ n n2 dd KJ sl EM (by simpa using hv) (by simp[hw])) ⟨ho,G0,h1 hw⟩
 .refine U2 ⟨_,ho,rfl⟩ ⟨_,G0,rfl⟩ UJ V5 S5 SW (SH _ _)
   (tuple_addW2 t b _ _ n n2 dd KJ sl EM (by simpa using hv) (by simp_all) (by omega)) ⟨ho,G0,?_⟩
  rw[e];exact h2 hw
noncomputable def Zg(n d:Nat):Option Int->Nat
 |none=>d
 |some v=>if v<0 then (v+(n:Int)).toNat else min v.toNat n
theorem zso(n d:Nat):Zg n d HA=d:=rfl
theorem zsp(n d k:Nat):Zg n d (KQ (k:Int))=min k n :=rfl
noncomputable def zcn(n d:Nat)(hd:d<=n)(o:Option Int):Zg n d o<=n:=by
 cases o with
 |none=>exact hd
 |some v=>
  show (if v<0 then (v+_).toNat else min _ n)<=n<;>grind
noncomputable def zsq(v:Int)(n d:Nat):(if v<0 then max (v+(n:Int)) 0 else min v (n:Int))=((Zg n d (KQ v):Nat):Int):=by show _=(((if v<0 then (v+_).toNat else min _ n):Nat):Int)<;>grind
noncomputable def zco(lo hi:Option Int)(n:Nat):XJ lo hi 1 (n:Int)=(((Zg n 0 lo:Nat):Int),((Zg n n hi:Nat):Int)):=by
 have h1:¬((1:Int)<0):=by lia
 refine Yw ?_ ?_
 .cases lo with
  |none=>rfl
  |some v=>exact zsq v n 0
 .cases hi with
  |none=>rfl
  |some v=>exact zsq v n n
noncomputable def zcp(i j:Nat):Up (i:Int) (j:Int) 1=j-i:=by unfold Up<;>grind
noncomputable def zsr(p:U3 v o)(h:Q o s):PK (PP prog w) A (Xb v) Q E s:=by
 cases p with
 |none=>exact slicePart_none h
 |int i t=>exact slicePart_int h
noncomputable def zss{sl:Addr}{vl vu:O9}{lo hi:Option Int}{n:Nat}{Q:Int×Int×Nat->Pe->Prop}(hs:s.heap.IsSliceOf sl vl vu .none)(pl:U3 vl lo)(pu:U3 vu hi)
  (h:Q (((Zg n 0 lo:Nat):Int),1,Zg n n hi-Zg n 0 lo) s):PK (PP prog w) A (Xr (.ref sl) (pure (n:Int))) Q E s:=by
 obtain⟨os,HB,CC,Gn⟩:=id hs;refine Pb (Pb (SX HB Gn (x:=vl) rfl (Pb (SX HB Gn (x:=vu) rfl (Pb (SX HB Gn  rfl (Pl ?_)))))));refine Pb (slicePart_none ?_);refine Pb (zsr pl (Pb (zsr pu (Pb (Pl ?_)))))
 simp_all
 rw[zco lo hi n];rw[zcp];exact Pl h
noncomputable def zcq(xs:Array O9)(i k:Nat):((RT k).filterMap λ(m:Nat)=>xs[((i:Int)+(m:Int)*1).toNat]?).toArray=((xs.toList.drop i).take k).toArray:=by
 have e:(λ(m:Nat)=>xs[((i:Int)+(m)*1).toNat]?)=λm=>xs[i+m]?:=by grind
 rw[e];have:=pick_run xs i k
 have e2:(_ ∘ λx=>i+x)=λm=>xs[i+m]?:=rfl<;>simp_all
noncomputable def zcr{t sl:Addr}{items:Array O9}{vl vu:O9}{lo hi:Option Int}{Q:O9->Pe->Prop}(ht:Xm s.heap t items)(hs:s.heap.IsSliceOf sl vl vu .none)(pl:U3 vl lo)(pu:U3 vu hi)
  (hw:¬(Zg items.size 0 lo=0/\Zg items.size items.size hi=items.size))
  (h:Q (.ref s.heap.objs.size) { s with heap:=s.heap.push { cls:=.type "tuple",data:=.seq ((items.toList.drop (Zg items.size 0 lo)).take (Zg items.size items.size hi-Zg items.size 0 lo)).toArray } })
  (hsz:items.size<=Ph):PK (PP prog w) A (Tn (.ref t) (.ref sl)) Q E s:=by
 have D7:sizeOk (.seq ((items.toList.drop (Zg items.size 0 lo)).take (Zg items.size items.size hi-Zg items.size 0 lo)).toArray):=by
  show ((items.toList.drop (Zg items.size 0 lo)).take (Zg items.size items.size hi-Zg items.size 0 lo)).toArray.size<=Ph;rw[Qo,RC,RD,R6];omega
 have hj:Zg items.size items.size hi<=items.size:=zcn _ _ (Pk _) hi;obtain⟨os,HB,CC,Gn⟩:=id hs;have w6:s.TypeIs (.ref sl) "slice":=⟨os,HB,CC⟩;unfold Tn
 try with_reducible refine RY ?_
 first|refine Pb (Pl ?_)|skip
 refine Pb (Wv ht.typeIs (rfl) ?_)
 refine Pb (QY (name:=OZ "__getitem__") ht.typeIs Qt
  (Rj Qt ht.typeIs V2 ?_ (Wi _ _)))
 show PK _ _ (Su (.ref t) >>= _) _ _ s;refine Pb (V6 ht ?_);refine Pb (Ww w6 ?_);rw[if_pos (by rfl)];refine Pb (zss hs pl pu ?_)
 have Jm:¬((((Zg items.size 0 lo:Nat):Int) == 0&&(1:Int) == 1&&(Zg items.size items.size hi-Zg items.size 0 lo) == items.size)=G3):=by simp_all
 show PK _ _ (if (((Zg items.size 0 lo:Nat):Int) == 0&&(1:Int) == 1&&(Zg items.size items.size hi-Zg items.size 0 lo) == items.size)=G3 then _ else _) _ _ s;rw[if_neg Jm,zcq]
 first
  |exact Pb (m:=Rm _) (Qi (Pl ⟨_,rfl,Pl h⟩) D7)
  |grind
  |exact Pb (Pb (m:=Rm _) (Qi (Pl (Pl ⟨_,rfl,Pl h⟩)) D7))
  |exact Pb (Pb (m:=Rm _) (Qi (Pl ⟨_,rfl,Pl h⟩) D7))
end
end HT
namespace L2
abbrev TO:=St->Hp->(Option Int->Hp->Prop)->Prop
def PO(X:Cx)(e:Option Expr)(t:TO):Prop:=
 ∀(pins:List (Addr×Obj)) (s:Pe) (σ:St) (H:Hp) (Q:Option Int->Hp->Prop),Inv X pins σ H s->t σ H Q ->
  PK (PP X.prog X.w) X.A (evalPart e X.env) (λu s'=>∃o H',Inv X pins σ H' s'/\U3 u o/\Q o H') X.xe s
def F7:TO:=λ_ H Q=>Q HA H
noncomputable def JN(t:TE):TO:=λσ H Q=>t σ H λx H1=>∃i,x=.int i/\Q (KQ i) H1
section
variable {X:Cx}{e:Expr}{te:TE}{lo hi:Option Expr}{tl th:TO}{pos p2:Pos}
noncomputable def zcs:PO X HA F7:=by
 intro pins s σ H Q I h;exact Pl ⟨HA,H,I,.none,h⟩
noncomputable def zct(h:PE X e te):PO X (KQ e) (JN te):=by
 intro pins s σ H Q I hw;refine YZ (h pins s σ H _ I hw) λu s1 ⟨x,H1,I1,r1,q1⟩=>?_;obtain⟨i,rfl,q⟩:=q1;obtain⟨t,rfl⟩:=r1;exact⟨KQ i,H1,I1,.int i t,q⟩
def Fy(X:Cx)(r:V->Option Int->Option Int->Hp->VK->Prop):Prop:=
 ∀(pins:List (Addr×Obj)) (s:Pe) (σ:St) (H:Hp) (x:V) (v vl vu:O9) (lo hi:Option Int) (sl:Addr) (Q:VK),Inv X pins σ H s->RelV x v->s.heap.IsSliceOf sl vl vu .none->U3 vl lo->U3 vu hi->r x lo hi H Q ->
  ∃T id,typeLookup (.type T) "__getitem__"=pure (KQ (.builtin id))/\s.TypeIs v T/\PK (PP X.prog X.w) X.A (Tn v (.ref sl)) (EP X pins σ Q) X.xe s
def Fy.or(h:Fy X r)(h':Fy X r'):Fy X (λx lo hi H Q=>r x lo hi H Q\/r' x lo hi H Q):=by
 intro pins s σ H x v vl vu lo hi sl Q I rx hs pl pu q
 rcases q with q|q
 .exact h pins s σ H x v vl vu lo hi sl Q I rx hs pl pu q
 .exact h' pins s σ H x v vl vu lo hi sl Q I rx hs pl pu q
noncomputable def tSl(r:V->Option Int->Option Int->Hp->VK->Prop)(te:TE)(tl th:TO):TE:=λσ H Q=>te σ H λx H1=>tl σ H1 λl H2=>th σ H2 λu H3=>r x l u H3 Q
noncomputable def zcu(hr:Fy X r)(he:PE X e te)(hl:PO X lo tl)(hu:PO X hi th):PE X (.Subscript e (.Slice lo hi HA p2) pos) (tSl r te tl th):=by
 intro pins s σ H Q I h;refine Xs (YZ (he pins s σ H _ I h) λv s1 ⟨x,H1,I1,r1,q1⟩=>?_);refine wpAny_Slice (YZ (hl pins s1 σ H1 _ I1 q1) λvl s2 ⟨l,H2,I2,pl,q2⟩=>YZ (hu pins s2 σ H2 _ I2 q2) λvu s3 ⟨u,H3,I3,pu,q3⟩=>?_);refine Pl ?_;have I4:Inv X pins σ H3 { s3 with heap:=s3.heap.push { cls:=.type "slice",data:=.fields #[vl,vu,.none] } }:=I3.kept  λb ob q=>Pd _ q;obtain⟨T,id,hT,ht,hg⟩:=hr pins { s3 with heap:=s3.heap.push { cls:=.type "slice",data:=.fields #[vl,vu,.none] } } σ H3 x v vl vu l u _ Q I4 r1 (YD ..) pl pu q3;exact tail_any  ht hT hg (rfl)
noncomputable def jM(xs:List V)(lo hi:Option Int):List V:=(xs.drop (HT.Zg xs.length 0 lo)).take (HT.Zg xs.length xs.length hi-HT.Zg xs.length 0 lo)
noncomputable def zst(xs:List V)(lo hi:Option Int):(jM xs lo hi).length<=xs.length:=by
 unfold jM
 simp_all
 lia
def Lr(K:Frag):V->Option Int->Option Int->Hp->VK->Prop:=λx lo hi H Q=>∃a xs,x=.ref a/\ZJ K H a xs /\
 ¬(HT.Zg xs.length 0 lo=0/\HT.Zg xs.length xs.length hi=xs.length)/\∀p,H p=HA->Q (.ref p) (upd H p (.tup (jM xs lo hi)))
noncomputable def zcv:Fy X (Lr X.K):=by
 intro pins s σ H x v vl vu lo hi sl Q I rx hs pl pu h;obtain⟨a,xs,rfl,hx,hw,q⟩:=h;cases rx;obtain⟨YL,r,ht,hz⟩:=I.tuple hx
 have Y3:YL.toArray.size=xs.length:=by exact r.length.symm
 refine⟨"tuple",_,Qt.lookup,ht.typeIs,?_⟩;refine HT.zcr ht hs pl pu (by rw[Y3];exact hw) ?_ (by rw[Y3];exact hz);rw[Y3];refine⟨.ref _,_,I.laid   (λb ob q=>Pd _ q) (Pk _) ?_,rfl,q _ (I.hok.fresh (Pk _))⟩;exact⟨PB (zst xs lo hi) hz,_,(r.drop _).take _,V0 _ _⟩
noncomputable def Kb(K:Frag):R2:=λx y H Q=>∃a b xs ys,x=.ref a/\y=.ref b/\ZJ K H a xs/\ZJ K H b ys/\xs≠[]/\xs.length+ys.length<=Ph /\
 (ys=[]->Q (.ref a) H)/\(ys≠[]->∀p,H p=HA->Q (.ref p) (upd H p (.tup (xs++ys))))
def YQ.nil_iff(r:YQ xs us):us=[]↔xs=[]:=by cases r <;>simp_all
noncomputable def zcw:Zx X (QL .Add) (Kb X.K):=by
 intro pins s σ H x y v u Q I rx ry h;obtain⟨a,b,xs,ys,rfl,rfl,ha,hb,hx,hz,q1,q2⟩:=h;cases rx;cases ry;obtain⟨YL,r1,p1,_⟩:=I.tuple ha;obtain⟨Km,r2,p2,_⟩:=I.tuple hb;refine HT.zcm p1 p2 (λz=>hx (r1.nil_iff.mp z)) (λz=>⟨.ref a,H,I,rfl,q1 (r2.nil_iff.mp z)⟩) (λz=>?_) (by rw[←r1.length,←r2.length];exact hz);refine⟨.ref _,_,I.laid   (λb ob q=>Pd _ q) (Pk _) ?_,rfl,q2 (λw=>z (r2.nil_iff.mpr w)) _ (I.hok.fresh (Pk _))⟩;exact⟨by simp_all,_,r1.append r2,V0 _ _⟩
end
noncomputable def Jh(n:Nat)(i:Int):Option Nat:=if 0<=i then (if i<n then KQ i.toNat else HA) else if -(n:Int)<=i then KQ (i+n).toNat else HA
noncomputable def Zd{α:Type}(xs:List α)(i:Int):Option α:=(Jh xs.length i).bind λj=>xs[j]?
noncomputable def zcx{n:Nat}{i:Int}{j:Nat}(h:Jh n i=KQ j):WV i n=KQ j/\j<n/\-(n:Int)<=i/\i<n:=by
 unfold Jh at h
 by_cases h0:0<=i
 .rw[if_pos h0] at h
  by_cases h1:i<n
  .rw[if_pos h1] at h
   have e:=Rw h;exact⟨by rw[seqIndex_of h0 h1,e],by lia,by lia,h1⟩
  .simp_all
 .rw[if_neg h0] at h
  by_cases h1 : -(n)<=i
  .rw[if_pos h1] at h
   have e:=Rw h;exact⟨by rw[seqIndex_neg (by lia) h1,e],by lia,h1,by lia⟩
  .simp_all
noncomputable def sN{α:Type}{xs:List α}{i:Int}{v:α}(h:Zd xs i=KQ v):∃j,WV i xs.length=KQ j/\xs[j]? = KQ v/\j<xs.length/\-(xs.length:Int)<=i/\i<xs.length:=by
 unfold Zd at h
 cases e:Jh xs.length i with
 |none=>simp_all
 |some j=>
  rw[e] at h;obtain⟨h1,h2,h3,h4⟩:=zcx e;exact⟨j,h1,h,h2,h3,h4⟩
noncomputable def fq{α:Type}{xs:List α}{j:Nat}{v:α}(h:xs[j]? = KQ v):Zd xs (j:Int)=KQ v:=by
 have hj:=(Pa.mp h).1
 have e:Jh xs.length (j)=KQ j:=by
  unfold Jh<;>simp_all
 unfold Zd;rw[e];exact h
def oM(b:Expr):Prop:=∀o i,VH b Gy o i=operate [o,i] (Tn o i)
def HQ(X:Cx)(r:R2):Prop:=
 ∀(value slice:Expr) (pins:List (Addr×Obj)) (s:Pe) (σ:St) (H:Hp) (x y:V) (v u:O9) (Q:VK),Inv X pins σ H s->RelV x v->RelV y u->r x y H Q ->
  VH slice Gy v u=operate [v,u] (Tn v u)->PK (PP X.prog X.w) X.A (subscriptTail value slice v u) (EP X pins σ Q) X.xe s
def BA(X:Cx)(id:String)(r:V->List V->Hp->VK->Prop):Prop:=
 ∀(pins:List (Addr×Obj)) (s:Pe) (σ:St) (H:Hp) (x:V) (xs:List V) (v:O9) (us:List O9) (Q:VK),Inv X pins σ H s->RelV x v->YQ xs us->r x xs H Q ->
  PK (PP X.prog X.w) X.A (call (.builtin id) (v::us)) (EP X pins σ Q) X.xe s
section
variable {X:Cx}{a b:Expr}{ta tb:TE}{pos:Pos}
def HQ.or(h:HQ X r)(h':HQ X r'):HQ X (λx y H Q=>r x y H Q\/r' x y H Q):=by
 intro value slice pins s σ H x y v u Q I rx ry q hs
 rcases q with q|q
 .exact h _ _ pins s σ H x y v u Q I rx ry q hs
 .exact h' _ _ pins s σ H x y v u Q I rx ry q hs
def BA.or{id:String}{r r':V->List V->Hp->VK->Prop}(h:BA X id r)(h':BA X id r'):BA X id (λx xs H Q=>r x xs H Q\/r' x xs H Q):=by
 intro pins s σ H x xs v us Q I rx rs q
 rcases q with q|q
 .exact h pins s σ H x xs v us Q I rx rs q
 .exact h' pins s σ H x xs v us Q I rx rs q
noncomputable def dE(hr:HQ X r)(ha:PE X a ta)(hb:PE X b tb)(hs:oM b):PE X (.Subscript a b pos) (FV r ta tb):=by
 intro pins s σ H Q I h;exact Xs (ut ha hb I h λv u s2 x y H2 I2 rx ry q=>hr a b pins s2 σ H2 x y v u Q I2 rx ry q (hs _ _))
noncomputable def Bb(K:Frag):R2:=λx y H Q=>∃p xs i v,x=.ref p/\y=.int i/\Zc K H p xs/\Zd xs i=KQ v/\Q v H
noncomputable def A8(K:Frag):R2:=λx y H Q=>∃p xs i v,x=.ref p/\y=.int i/\ZJ K H p xs/\Zd xs i=KQ v/\Q v H
noncomputable def Ba:R2:=λx y H Q=>∃z i c,x=.str z/\y=.int i/\z.length<=Ph/\Zd z.cps.toList i=KQ c/\Q (.str ⟨#[c]⟩) H
noncomputable def Y7:HQ X (Bb X.K):=by
 intro value slice pins s σ H x y v u Q I rx ry h hs;obtain⟨p,xs,i,z,rfl,rfl,hq,he,q⟩:=h;cases rx;obtain⟨t,rfl⟩:=ry;obtain⟨YL,r,pl,hz⟩:=I.list hq;obtain⟨j,h1,h2,h3,h4,h5⟩:=sN he;obtain⟨w,ew,ZS⟩:=r.get h2;have hl:=r.length;have hn:=kF;have fin:EP X pins σ Q w s:=⟨z,H,I,ZS,q⟩
 by_cases h0:0<=i
 .have hj:i.toNat=j:=by
   rw[seqIndex_of h0 h5] at h1<;>simp_all
  exact item_listR pl.isList h0 (by lia) (by rw[hj];simpa using ew) fin hs
 .have hj:(i+(YL.toArray.size)).toNat=j:=by
   rw[seqIndex_neg (by lia) h4] at h1<;>simp_all
  exact U4  pl.isList.typeIs Wx.lookup
   (wpAny_getItem_list_neg  pl.isList (by lia) (by grind) (by lia) (by rw[hj];simpa using ew) ⟨rfl,fin⟩) hs
noncomputable def zvs:HQ X (A8 X.K):=by
 intro value slice pins s σ H x y v u Q I rx ry h hs;obtain⟨p,xs,i,z,rfl,rfl,hq,he,q⟩:=h;cases rx;obtain⟨t,rfl⟩:=ry;obtain⟨YL,r,pl,hz⟩:=I.tuple hq;obtain⟨j,h1,h2,h3,h4,h5⟩:=sN he;obtain⟨w,ew,ZS⟩:=r.get h2;have hl:=r.length;have hn:=kF;have fin:EP X pins σ Q w s:=⟨z,H,I,ZS,q⟩
 exact U4  pl.typeIs slot_tuple_getitem.lookup
  (getItem_tuple (j:=j)  pl (by lia) (by lia) (by simp_all) (by simpa using ew) ⟨rfl,fin⟩) hs
noncomputable def zcy:HQ X Ba:=by
 intro value slice pins s σ H x y v u Q I rx ry h hs;obtain⟨z,i,c,rfl,rfl,hz,he,q⟩:=h;obtain⟨t,rfl⟩:=rx;obtain⟨t',rfl⟩:=ry;obtain⟨j,h1,h2,h3,h4,h5⟩:=sN he;have hl:z.cps.toList.length=z.length:=rfl;rw[hl] at h1 h4 h5;have hn:=kF;exact tail_any (Tg s z t) slot_str_getitem.lookup (getItem_str (c:=c) (by lia) (by rw[h1];simpa using h2) ⟨.str ⟨#[c]⟩,H,I.tok _,⟨_,rfl⟩,q⟩) hs
noncomputable def rIx(K:Frag):R2:=λx y H Q=>Bb K x y H Q\/A8 K x y H Q\/Ba x y H Q
def zcz:HQ X (rIx X.K):=Y7.or (zvs.or zcy)
noncomputable def zda(lo hi:Option Int)(n:Nat):(SY lo hi HA n).1=((HT.Zg n 0 lo:Nat):Int)/\(SY lo hi HA n).2.1=((HT.Zg n n hi:Nat):Int)/\(SY lo hi HA n).2.2=1:=by
 refine⟨?_,?_,rfl⟩
 .cases lo with
  |none=>simp[SY,HT.Zg]
  |some i=>
   simp only[SY,HT.Zg,UK,show (1:Int)>0 by decide,if_true]
   by_cases h:i<0
   .simp only[h,if_true] <;> lia
   .simp only[h,if_false] <;> lia
 .cases hi with
  |none=>simp[SY,HT.Zg]
  |some i=>
   simp only[SY,HT.Zg,UK,show (1:Int)>0 by decide,if_true]
   by_cases h:i<0
   .simp only[h,if_true] <;> lia
   .simp only[h,if_false] <;> lia
noncomputable def zdb(YL:List O9)(lo hi:Option Int):slicePick YL.toArray lo hi HA=((YL.drop (HT.Zg YL.length 0 lo)).take (HT.Zg YL.length YL.length hi-HT.Zg YL.length 0 lo)).toArray:=by
 obtain⟨h1,h2,h3⟩:=zda lo hi _;unfold slicePick;rw[h1,h2,h3]
 simp only[sliceRange_one,pick_run] <;> rfl
def Ls(K:Frag):V->Option Int->Option Int->Hp->VK->Prop:=λx lo hi H Q=>∃a xs,x=.ref a/\Zc K H a xs/\∀p,H p=HA->Q (.ref p) (upd H p (.lst (jM xs lo hi)))
noncomputable def zvt:Fy X (Ls X.K):=by
 intro pins s σ H x v vl vu lo hi sl Q I rx hs pl pu h;obtain⟨a,xs,rfl,hx,q⟩:=h;cases rx;obtain⟨YL,r,ht,hz⟩:=I.list hx;have Y3:=r.length;refine⟨"list",_,Wx.lookup,ht.isList.typeIs,?_⟩;refine wpAny_getItem_list_slice ht.isList hs pl pu .none (by simp) ?_ (by simp_all);rw[zdb,←Y3];refine⟨.ref _,_,I.laid   (λb ob q=>Pd _ q) (Pk _) ?_,rfl,q _ (I.hok.fresh (Pk _))⟩;exact⟨PB (zst xs lo hi) hz,_,0,(r.drop _).take _,Pw _ rfl⟩
noncomputable def gp:V->Bool
 |.non=>G3
 |.bl _=>G3
 |.int _=>G3
 |.str _=>G3
 |_=>Gy
noncomputable def CG:V->V->Bool
 |.non,.non=>G3
 |.bl a,.bl b=>a == b
 |.bl a,.int b=>(if a then 1 else 0) == b
 |.int a,.bl b=>a == (if b then 1 else 0)
 |.int a,.int b=>a == b
 |.str a,.str b=>a == b
 |_,_=>Gy
noncomputable def zdc(ry:RelV y u)(rx:RelV x v)(fy:gp y=G3)(fx:gp x=G3):YE A s u v (CG y x):=by
 cases y with
 |non=>
  cases ry
  cases x with
  |non=>cases rx;exact SeqAt.EqAt.same _
  |bl b=>cases rx;exact SeqAt.EqAt.none_bool b
  |int b=>obtain⟨t,rfl⟩:=rx;exact SeqAt.EqAt.none_int b t
  |str b=>obtain⟨t,rfl⟩:=rx;exact SeqAt.EqAt.none_str b t
  |_=>exact absurd (show Gy=G3 from fx) Pz
 |bl a=>
  cases ry
  cases x with
  |non=>cases rx;exact SeqAt.EqAt.bool_none a
  |bl b=>cases rx;exact SeqAt.EqAt.bool_bool a b
  |int b=>obtain⟨t,rfl⟩:=rx;exact SeqAt.EqAt.bool_int a b t
  |str b=>obtain⟨t,rfl⟩:=rx;exact SeqAt.EqAt.bool_str a b t
  |_=>exact absurd (show Gy=G3 from fx) Pz
 |int a=>
  obtain⟨t',rfl⟩:=ry
  cases x with
  |non=>cases rx;exact SeqAt.EqAt.int_none a t'
  |bl b=>cases rx;exact SeqAt.EqAt.int_bool a t' b
  |int b=>obtain⟨t,rfl⟩:=rx;exact SeqAt.EqAt.int_int a t' b t
  |str b=>obtain⟨t,rfl⟩:=rx;exact Wa a t' b t
  |_=>exact absurd (show Gy=G3 from fx) Pz
 |str a=>
  obtain⟨t',rfl⟩:=ry
  cases x with
  |non=>cases rx;exact SeqAt.EqAt.str_none a t'
  |bl b=>cases rx;exact SeqAt.EqAt.str_bool a t' b
  |int b=>obtain⟨t,rfl⟩:=rx;exact Wb a t' b t
  |str b=>obtain⟨t,rfl⟩:=rx;exact SeqAt.EqAt.str_str a t' b t
  |_=>exact absurd (show Gy=G3 from fx) Pz
 |_=>exact absurd (show Gy=G3 from fy) Pz
noncomputable def J3(x:V)(u:O9):Bool:=match u with
 |.none=>CG .non x
 |.bool b=>CG (.bl b) x
 |.int i _=>CG (.int i) x
 |.str z _=>CG (.str z) x
 |_=>Gy
noncomputable def zsu(r:RelV y u)(f:gp y=G3):J3 x u=CG y x:=by
 cases y with
 |non=>cases r;rfl
 |bl b=>cases r;rfl
 |int i=>obtain⟨t,rfl⟩:=r;rfl
 |str z=>obtain⟨t,rfl⟩:=r;rfl
 |_=>exact absurd (f) Pz
theorem mn:∀{xs:List V}{us:List O9},YQ xs us->xs.all gp=G3->us.any (J3 x)=xs.any λy=>CG y x
 |_,_,.nil,_=>rfl
 |y::xs,u::us,.cons r t,f=>by
  rw[Q0,Pg] at f;rw[RA,RA,zsu r f.1,mn t f.2]
theorem lP(rx:RelV x v)(fx:gp x=G3):∀{xs:List V}{us:List O9},YQ xs us->xs.all gp=G3->∀u∈us,YE A s u v (J3 x u)
 |_,_,.nil,_=>λu hu=>by simp_all
 |y::xs,u::us,.cons r t,f=>λu' hu=>by
  rw[Q0,Pg] at f
  rcases Pr.mp hu with rfl|hu
  .rw[zsu r f.1];exact zdc r rx f.1 fx
  .exact lP rx fx t f.2 u' hu
def C8(x:V)(xs:List V):Bool:=xs.any λy=>CG y x
noncomputable def uI(K:Frag)(neg:Bool):R2:=λx y H Q=>∃p xs,y=.ref p/\(Zc K H p xs\/ZJ K H p xs)/\gp x=G3/\xs.all gp=G3/\Q (.bl (if neg then !C8 x xs else C8 x xs)) H
noncomputable def zdd:Zx X (PX .In) (uI X.K Gy):=by
 intro pins s σ H x y v u Q I rx ry h;obtain⟨p,xs,rfl,hq,fx,fs,q⟩:=h;cases ry
 rcases hq with hq|hq
 .obtain⟨YL,r,pl,hz⟩:=I.list hq
  refine SeqAt.in_listAt _ pl.isList (λw hw=>lP rx fx r fs w (by simp_all)) ⟨.bl _,H,I,rfl,?_⟩;rw[show YL.toArray.any _=YL.any (J3 x) by simp,mn r fs];exact q
 .obtain⟨YL,r,pl,hz⟩:=I.tuple hq
  refine WW _ pl (λw hw=>lP rx fx r fs w (by simp_all)) ⟨.bl _,H,I,rfl,?_⟩;rw[show YL.toArray.any _=YL.any (J3 x) by simp,mn r fs];exact q
noncomputable def zde:Zx X (PX .NotIn) (uI X.K G3):=by
 intro pins s σ H x y v u Q I rx ry h;obtain⟨p,xs,rfl,hq,fx,fs,q⟩:=h;cases ry
 rcases hq with hq|hq
 .obtain⟨YL,r,pl,hz⟩:=I.list hq
  refine Wj _ pl.isList (λw hw=>lP rx fx r fs w (by simp_all)) ⟨.bl _,H,I,rfl,?_⟩;rw[show YL.toArray.any _=YL.any (J3 x) by simp,mn r fs];exact q
 .obtain⟨YL,r,pl,hz⟩:=I.tuple hq
  refine SeqAt.notIn_tupleAt _ pl (λw hw=>lP rx fx r fs w (by simp_all)) ⟨.bl _,H,I,rfl,?_⟩;rw[show YL.toArray.any _=YL.any (J3 x) by simp,mn r fs];exact q
noncomputable def zvu:Zf X (.builtin "len") (λxs H Q=>∃p ys,xs=[.ref p]/\(Zc X.K H p ys\/ZJ X.K H p ys)/\Q (.int ys.length) H):=by
 intro pins s σ H xs us Q I r h;obtain⟨p,ys,rfl,hq,q⟩:=h;obtain⟨u,rfl,rx⟩:=vals1 r;cases rx;have hn:=kF
 rcases hq with hq|hq
 .obtain⟨YL,r',pl,hz⟩:=I.list hq
  have Y3:=r'.length;exact Calls.call_len_list pl.isList (by simp only[Qo] <;> lia) ⟨.int _,H,I.tok _,⟨s.toks+1,by simp_all⟩,q⟩
 .obtain⟨YL,r',pl,hz⟩:=I.tuple hq
  have Y3:=r'.length;exact len_tuple pl (by simp only[Qo] <;> lia) ⟨.int _,H,I.tok _,⟨s.toks+1,by simp_all⟩,q⟩
noncomputable def zvv:Zf X (.builtin "len") (λxs H Q=>∃z,xs=[.str z]/\z.length<=Ph/\Q (.int z.length) H):=by
 intro pins s σ H xs us Q I r h;obtain⟨z,rfl,hz,q⟩:=h;obtain⟨u,rfl,t,rfl⟩:=vals1 r;have hn:=kF;exact len_str (by lia) ⟨.int _,H,I.tok _,⟨_,rfl⟩,q⟩
def Zf.or(h:Zf X f r)(h':Zf X f r'):Zf X f (λxs H Q=>r xs H Q\/r' xs H Q):=by
 intro pins s σ H xs us Q I rs q
 rcases q with q|q
 .exact h pins s σ H xs us Q I rs q
 .exact h' pins s σ H xs us Q I rs q
noncomputable def zdf:Zf X (.type "list") (λxs H Q=>∃p ys,xs=[.ref p]/\(Zc X.K H p ys\/ZJ X.K H p ys)/\∀l,H l=HA->Q (.ref l) (upd H l (.lst ys))):=by
 intro pins s σ H xs us Q I r h;obtain⟨p,ys,rfl,hq,q⟩:=h;obtain⟨u,rfl,rx⟩:=vals1 r;cases rx
 have fin:∀(YL:List _),YQ ys YL->ys.length<=Ph->∀(h':Heap) (c':Nat),_ ->
   h'.get? _=KQ { cls:=.type "list",dict:=HA,data:=.seq _ c',slots:=#[] }->EP X pins σ Q _ { s with heap:=h' }:=λYL r' hz h' c' kp e=>
  ⟨.ref _,_,I.laid  kp (Pk _) (show Y5 _ X.w _ h' _ (.lst ys) from⟨hz,YL,c',r',e⟩),rfl,q _ (I.hok.fresh (Pk _))⟩
 rcases hq with hq|hq
 .obtain⟨YL,r',pl,hz⟩:=I.list hq
  have Y3:=r'.length;obtain⟨o,ho,hc,n,hd⟩:=pl.isList;exact call_list_seq p (.inl rfl) ho hc hd (λh' c' kp e=>fin YL r' hz h' c' kp e) (by simp_all)
 .obtain⟨YL,r',pl,hz⟩:=I.tuple hq
  have Y3:=r'.length;obtain⟨o,ho,hc,n,hd⟩:=pl;exact call_list_seq p (.inr rfl) ho hc hd (λh' c' kp e=>fin YL r' hz h' c' kp e) (by simp_all)
noncomputable def zdg:Zf X (.type "tuple") (λxs H Q=>∃p ys,xs=[.ref p]/\((Zc X.K H p ys/\∀l,H l=HA->Q (.ref l) (upd H l (.tup ys)))\/(ZJ X.K H p ys/\Q (.ref p) H))):=by
 intro pins s σ H xs us Q I r h;obtain⟨p,ys,rfl,h⟩:=h;obtain⟨u,rfl,rx⟩:=vals1 r;cases rx
 rcases h with⟨hq,q⟩|⟨hq,q⟩
 .obtain⟨YL,r',pl,hz⟩:=I.list hq
  have Y3:=r'.length;refine call_tuple_list pl.isList (λh' kp=>?_) (by grind);have I1:=I.kept (t':=s.toks) kp
  have I2  :=
   I1.laid (t':=s.toks) (λb o e=>Pd _ e) (Pk _) (show Y5 _ X.w _ _ _ (.tup ys) from⟨hz,YL,r',V0 _ _⟩)
  exact⟨.ref _,_,I2,rfl,q _ (I1.hok.fresh (Pk _))⟩
 .obtain⟨YL,r',pl,hz⟩:=I.tuple hq
  exact call_tuple_same pl ⟨.ref p,H,I,rfl,q⟩
def tyV(K:Frag)(T:String)(x:V)(H:Hp):Prop:=match x with
 |.str _=>T="str"
 |.int _=>T="int"
 |.ref p=>(T="list"/\∃xs,Zc K H p xs)\/(T="tuple"/\∃o,K.lookup p=KQ o/\o.cls=.type "tuple"/\o.dict=HA) \/
   (T="dict"/\((∃kvs,H p=KQ (.dK kvs))\/∃kvs,H p=KQ (.dT kvs)))\/(T="set"/\∃S n,H p=KQ (.set S n))
 |_=>False
noncomputable def zdh(I:Inv X pins σ H s)(r:RelV x v)(ty:tyV X.K T x H) :
  s.TypeIs v T/\∀a,v=.ref a->∃ob,s.heap.get? a=KQ ob/\ob.dict=HA:=by
 cases x with
 |str z=>
  obtain⟨t,rfl⟩:=r;cases (ty);exact⟨Tg s z t,λ_ e=>nomatch e⟩
 |int i=>
  obtain⟨t,rfl⟩:=r;cases (ty);exact⟨U5 s i t,λ_ e=>nomatch e⟩
 |ref p=>
  cases r
  rcases ty with⟨rfl,xs,hq⟩|⟨rfl,o,hk,hc,hd⟩|⟨rfl,hk⟩|⟨rfl,S,n,hk⟩
  .obtain⟨YL,_,pl,_⟩:=I.list hq
   refine⟨pl.isList.typeIs,λa e=>?_⟩;cases e;obtain⟨o,n,e,c,hd,_⟩:=pl;exact⟨o,e,hd⟩
  .refine⟨⟨o,I.kIn p o hk,hc⟩,λa e=>?_⟩
   cases e;exact⟨o,I.kIn _ o hk,hd⟩
  .have z:∃o,s.heap.get? p=KQ o/\o.ExactDict:=by
    rcases hk with⟨kvs,hk⟩|⟨kvs,hk⟩
    .obtain⟨_,_,_,_,o,_,_,e,ex,_⟩:=I.hok p _ hk
     exact⟨o,e,ex⟩
    .obtain⟨_,_,_,_,o,_,_,e,ex,_⟩:=I.hok p _ hk
     exact⟨o,e,ex⟩
   obtain⟨o,e,ex⟩:=z;refine⟨⟨o,e,ex.1⟩,λa e2=>?_⟩;cases e2;exact⟨o,e,ex.2.1⟩
  .obtain⟨o,_,_,_,e,ex,_⟩:=I.hok p _ hk
   refine⟨⟨o,e,ex.1⟩,λa e2=>?_⟩;cases e2;exact⟨o,e,ex.2.1⟩
 |_=>exact RU ty
noncomputable def tBM(K:Frag)(T:String)(r:V->List V->Hp->VK->Prop)(to:TE)(t:TA):TE:=λσ H Q=>to σ H λx H1=>tyV K T x H1/\t σ H1 λxs H2=>r x xs H2 Q
variable {o e:Expr}{es:List Expr}{to:TE}{t:TA}{name:Str}{apos YO:Pos}{T id:String}{r:V->List V->Hp->VK->Prop}
noncomputable def gn(pa:PlainAttrs T)(slot:Slot T name id)(Eo:typeOf (.builtin id)=pure (.type "method_descriptor"))(hm:BA X id r)(ho:PE X o to)(ha:PA X (e::es) t)
  (Zk:autoParam (QI o name X.env (eval o X.env)=eval o X.env) u10)
  (ZI:autoParam (((Qj YO (Pi (e::es) X.env)).all (λx=>!x.1)&&(RO YO (QQ [] X.env)).all (λx=>x.1.isSome)
   && decide ((e::es).length+([]:List Rn).length+(if ([]:List Rn).isEmpty then 0 else 1)<30))=G3) u10)
  (Zj:autoParam ((apos.endLine == YO.line)=G3) u10) (hs:autoParam (Pi (e::es) X.env=(Gy,eval e X.env)::Pi es X.env) u10) (Y6:autoParam ((Qj YO (Pi es X.env)).any (·.1)=Gy) u10) :
  PE X (.Call (.Attribute o name apos) (e::es) [] YO) (tBM X.K T r to t):=by
 intro pins s σ H Q I h;refine U6 Zk ZI Zj rfl (YZ (ho pins s σ H _ I h) λv s1 ⟨x,H1,I1,r1,ty,q1⟩=>?_);obtain⟨h1,h2⟩:=zdh I1 r1 ty;refine⟨T,id,pa,slot,Eo,h1,h2,?_⟩;have hA:=ha YO pins s1 σ H1 _ I1 q1;rw[hs] at hA ⊢;refine U7 (by show (Gy||(Qj YO _).any _)=Gy;rw[Y6] <;> rfl) (VI ?_);exact YZ hA λus s2 ⟨vs,H2,I2,r2,q2⟩=>hm pins s2 σ H2 x vs v us Q I2 r1 r2 q2
end
def Lo(X:Cx)(id:String)(r:V->List V->Hp->VK->Prop):Prop:=
 ∀(pins:List (Addr×Obj)) (s:Pe) (σ:St) (H:Hp) (x:V) (xs:List V) (v:O9) (us:List O9) (Q:VK),Inv X pins σ H s->RelV x v->YQ xs us->r x xs H Q ->
  PK (PP X.prog X.w) X.A (call (.builtin id) (v::us)) (EP X pins σ Q) X.xe s
def YQ.one:∀{x:V}{us:List O9},YQ [x] us->∃u,us=[u]/\RelV x u
 |_,_,.cons r .nil=>⟨_,rfl,r⟩
theorem YQ.rep(h:YQ xs us):∀k:Nat,YQ (Pp k xs).flatten (Pp k us).flatten
 |0=>.nil
 |k+1=>by
  exact YQ.append h (YQ.rep h k)
theorem foldl_rep(YL:List O9):∀(k:Nat) (acc:List O9),
  SS (λx1 x2=>x1++x2) acc.toArray (Pp k YL.toArray)=(acc++(Pp k YL).flatten).toArray
 |0,acc=>by simp
 |k+1,acc=>by
  have e:acc.toArray++YL.toArray=(acc++YL).toArray:=by simp
  have e2:(acc++YL)++(Pp k YL).flatten=acc++(Pp (k+1) YL).flatten:=by grind
  rw[←e2,←foldl_rep YL k _,←e,TN,Xc]
section
variable {X:Cx}{pins:List (Addr×Obj)}{σ:St}{H:Hp}{s:Pe}{l b:Addr}{xs ys zs:List V}
def Inv.lset{YL its':List O9}{f:Array O9->Array O9}(I:Inv X pins σ H s)(hH:H l=KQ (.lst xs))
  (e:s.heap.get? l=KQ { cls:=.type "list",data:=.seq YL.toArray n }) (hf:f YL.toArray=its'.toArray) (hv:YQ ys its') (hz:ys.length<=Ph) :
  Inv X pins σ (upd H l (.lst ys)) { s with heap:=s.heap.update l (Obj.mapSeq f),toks:=t' }:=by
 have q:=PySem.IsL.update e f;rw[hf] at q;refine I.write   (by rw[hH];exact trivial) (.inl rfl) (λb' u hb hu=>(Heap.get?_update_other _ _ (P3 hb)).trans hu) ⟨_,q⟩ ?_;exact⟨hz,its',_,hv,q⟩
def Inv.lnew(I:Inv X pins σ H s)(hv:YQ ys YL)(hz:ys.length<=Ph) :
  Inv X pins σ (upd H s.heap.objs.size (.lst ys)) { s with heap:=s.heap.push { cls:=.type "list",data:=.seq YL.toArray },toks:=t' }:=I.laid (λ_ _ q=>Pd _ q) (Pk _) ⟨hz,YL,0,hv,Pw _ rfl⟩
theorem Inv.fresh(I:Inv X pins σ H s):H s.heap.objs.size=HA:=I.hok.fresh (Pk _)
def Inv.lstM(I:Inv X pins σ H s)(hH:H l=KQ (.lst xs)):xs.length<=Ph/\∃(YL:List O9) (n:Nat),YQ xs YL/\xs.length=YL.length/\s.heap.get? l=KQ { cls:=.type "list",data:=.seq YL.toArray n }:=by
 obtain⟨z,YL,n,r,e⟩:=I.hok l _ hH;exact⟨z,YL,n,r,r.length,e⟩
noncomputable def zdi(h:n<=Ph):QE n=Gy:=by
 unfold QE;exact decide_eq_false (by lia)
def Gi:V->List V->Hp->VK->Prop:=λx vs H Q=>∃l xs y,x=.ref l/\vs=[y]/\H l=KQ (.lst xs)/\xs.length<Ph/\Q .non (upd H l (.lst (xs++[y])))
noncomputable def zdj:Lo X "list.append" Gi:=by
 intro pins s σ H x vs v us Q I rx rv h;obtain⟨l,xs,y,rfl,rfl,hH,hz,q⟩:=h;cases rx;obtain⟨u,rfl,ru⟩:=rv.one;obtain⟨z,YL,n,r,hl,e⟩:=I.lstM hH;refine RH F.slot_list_append ⟨_,e,rfl⟩ F.entry_list_append (F.args_list_append_2 _ _) (PySem.list_append l _ n u (by simp_all)) ⟨e,?_⟩
 refine⟨.non,_,I.lset  hH e (by simp) (r.append (.cons ru .nil)) ?_,rfl,q⟩<;>grind
noncomputable def len_rep{α:Type}(xs:List α)(k:Nat):(Pp k xs).flatten.length=k*xs.length :=by simp
end
section
variable {κ:Type}[DecidableEq κ]
noncomputable def cE(kvs:List (κ×V))(k:κ):Option V:=(kvs.find? λkv=>decide (kv.1=k)).map (·.2)
noncomputable def putK(kvs:List (κ×V))(k:κ)(v:V):List (κ×V):=if (kvs.any λkv=>decide (kv.1=k))=G3 then kvs.map (λkv=>if kv.1=k then (kv.1,v) else kv) else kvs++[(k,v)]
noncomputable def rc{p:κ×V}(e:p.1=k):cE (p::r) k=KQ p.2:=by simp[cE,e]
noncomputable def rf{p:κ×V}(e:¬p.1=k):cE (p::r) k=cE r k:=by simp[cE,e]
theorem zsv(k:κ):∀kvs:List (κ×V),(kvs.any λkv=>decide (kv.1=k))=(cE kvs k).isSome
 |[]=>rfl
 |p::r=>by
  rw[RA]
  by_cases e:p.1=k
  .simp only[rc e,decide_eq_true e,Bool.true_or,Option.isSome_some]
  .rw[rf e,decide_eq_false e];exact zsv k r
noncomputable def qt(kvs:List (κ×V))(k:κ)(v:V):(putK kvs k v).length<=kvs.length+1:=by unfold putK<;>grind
def ZR.isSome_eq(r:ZR o u):o.isSome=u.isSome:=by
 cases o with
 |none=>cases u with
  |none=>rfl
  |some _=>exact(r).elim
 |some _=>cases u with
  |none=>exact(r).elim
  |some _=>rfl
def KV.val(r:KV kvs vs)(k:κ):ZR (cE kvs k) (Wy vs k):=by
 induction r with
 |nil=>exact Q4
 |@cons p q ps qs h t ih=>
  obtain⟨h1,h2⟩:=h
  by_cases e:p.1=k
  .have e':=h1.symm.trans e
   have b:Wy (q::qs) k=KQ q.2:=by simp[Wy,e']
   rw[rc e,b];exact h2
  .have e':¬q.1=k:=λz=>e (h1.trans z)
   have b:Wy (q::qs) k=Wy qs k:=by simp[Wy,e']
   rw[rf e,b];exact ih
theorem KV.any(r:KV kvs vs)(k:κ):(kvs.any λkv=>decide (kv.1=k))=vs.any λkv=>decide (kv.1=k):=by induction r <;>simp_all
def KV.repl(r:KV kvs vs)(k:κ)(ry:RelV y u) :
  KV (kvs.map λkv=>if kv.1=k then (kv.1,y) else kv) (vs.map λkv=>if kv.1=k then (kv.1,u) else kv):=by
 induction r with
 |nil=>exact .nil
 |@cons p q ps qs h t ih=>
  refine .cons ?_ ih
  by_cases e:p.1=k<;>simp_all
def KV.put(r:KV kvs vs)(k:κ)(ry:RelV y u):KV (putK kvs k y) (stored vs k u):=by
 unfold putK stored;rw[r.any k]
 by_cases e:(vs.any λkv=>decide (kv.1=k))=G3
 .rw[if_pos e,if_pos e];exact r.repl k ry
 .rw[if_neg e,if_neg e];exact Yx r ⟨rfl,ry⟩
def KV.keys{kvs:List (κ×V)}{vs:List (κ×O9)}(r:KV kvs vs):kvs.map (·.1)=vs.map (·.1):=by induction r <;>simp_all
theorem KV.length(r:KV kvs vs):kvs.length=vs.length:=Rl r
end
noncomputable def mV(r:RelV (kV k) u):(cJ P w).is k u=G3:=by
 cases k with
 |inl i=>obtain⟨t,e⟩:=(r);subst e;exact zag P w i t
 |inr x=>obtain⟨t,e⟩:=(r);subst e;exact zah P w x t
theorem zsw:∀{ks:List Key}{us:List O9},YQ (ks.map kV) us->ItemsAre (cJ P w) ks us
 |[],_,r=>by cases r;exact .nil
 |k::ks,_,r=>by
  cases r with
  |cons h t=>exact .cons (mV h) (zsw t)
abbrev KT(H:Hp):List (List Key×V)->List (List Key×Addr×O9)->Prop:=SR λp q=>p.1=q.1/\H q.2.1=KQ (.tup (p.1.map kV))/\RelV p.2 q.2.2
def KT.val(r:KT H kvs xs)(k:List Key):ZR (cE kvs k) ((UL xs k).map (·.2)):=by
 induction r with
 |nil=>exact Q4
 |@cons p q ps qs h t ih=>
  obtain⟨h1,_,h2⟩:=h
  by_cases e:p.1=k
  .have e':=h1.symm.trans e
   have b:UL (q::qs) k=KQ q.2:=by simp[UL,e']
   rw[rc e,b];exact h2
  .have e':¬q.1=k:=λz=>e (h1.trans z)
   have b:UL (q::qs) k=UL qs k:=by simp[UL,e']
   rw[rf e,b];exact ih
def KT.repl(r:KT H kvs xs)(k:List Key)(ry:RelV y u) :
  KT H (kvs.map λkv=>if kv.1=k then (kv.1,y) else kv) (xs.map (putAt k u)):=by
 induction r with
 |nil=>exact .nil
 |@cons p q ps qs h t ih=>
  refine .cons ?_ ih;unfold putAt
  by_cases e:p.1=k<;>simp_all
def KT.put(r:KT H kvs xs)(k:List Key)(hb:H b=KQ (.tup (k.map kV)))(ry:RelV y u) :
  KT H (putK kvs k y) (Yl xs k b u):=by
 have e:(kvs.any λkv=>decide (kv.1=k))=(UL xs k).isSome:=by
  rw[zsv,(r.val k).isSome_eq,Wz]
 unfold putK Yl;rw[e]
 by_cases q:(UL xs k).isSome=G3
 .rw[if_pos q,if_pos q];exact r.repl k ry
 .rw[if_neg q,if_neg q];exact Yx r ⟨rfl,hb,ry⟩
def KT.keeps(r:KT H kvs xs)(ht:∀b ys,H b=KQ (.tup ys)->H' b=KQ (.tup ys)):KT H' kvs xs:=Paired.mapP r λ_ _ z=>⟨z.1,ht _ _ z.2.1,z.2.2⟩
section
variable {P:Pu}{w:PU}{H:Hp}{h:Heap}{a:Addr}
noncomputable def zsx(ok:ZQ P w H h)(e:Rd H a u):Y5 P w H h a u:=e.ok ok
noncomputable def kX(ok:ZQ P w H h)(e:Rd H a (.dK kvs)):kvs.length<=Ph/\(a == QB)=Gy/\∃vs,KV kvs vs/\h.DictOf (cJ P w) a vs:=zsx ok e
noncomputable def zsy(ok:ZQ P w H h)(e:H a=KQ (.dK kvs)):kvs.length<=Ph/\(a == QB)=Gy/\∃vs,KV kvs vs/\h.DictOf (cJ P w) a vs:=kX ok (.inl e)
noncomputable def oY(ok:ZQ P w H h)(e:H a=KQ (.tup (ks.map kV))):(VX (cJ P w)).is h ks a:=by
 obtain⟨_,YL,r,o,h1,h2,n,h3⟩:=(ok a _ e);exact⟨o,YL.toArray,n,h1,h2,h3,by simpa using zsw r⟩
noncomputable def pO(ok:ZQ P w H h)(e:Rd H a (.dT kvs)):kvs.length<=Ph/\(a == QB)=Gy /\
  ∃xs,KT H kvs xs/\h.DictOfH (VX (cJ P w)) a xs:=by
 obtain⟨z,y,xs,r,o,es,ep,h1,h2,h3,h4,h5⟩:=(zsx ok e);refine⟨z,y,xs,r,o,es,ep,h1,h2,h3,h4,λx hx=>?_,h5⟩
 have all:∀{l:List _}{m:List _},KT H l m->∀x∈m,(VX (cJ P w)).is h x.1 x.2.1:=by
  intro l m q
  induction q with
  |nil=>simp_all
  |@cons p q ps qs hq t ih=>
   intro x hx
   rcases Pr.mp hx with e|hx
   .exact oY ok (by simp_all)
   .exact ih x hx
 exact all r x hx
noncomputable def zdk(ok:ZQ P w H h)(e:H a=KQ (.dT kvs)):kvs.length<=Ph/\(a == QB)=Gy /\
  ∃xs,KT H kvs xs/\h.DictOfH (VX (cJ P w)) a xs:=pO ok (.inl e)
end
def IA(H:Hp)(a:Addr)(y:V)(r:Option V):Prop:=(∃kvs k,Rd H a (.dK kvs)/\y=kV k/\r=cE kvs k)\/∃kvs k b,Rd H a (.dT kvs)/\y=.ref b/\H b=KQ (.tup (k.map kV))/\r=cE kvs k
def Bt(H:Hp)(a:Addr)(y v:V)(H':Hp):Prop:=
 (∃kvs k,H a=KQ (.dK kvs)/\y=kV k/\kvs.length<Ph/\H'=upd H a (.dK (putK kvs k v))) \/
 ∃kvs k b,H a=KQ (.dT kvs)/\y=.ref b/\H b=KQ (.tup (k.map kV))/\kvs.length<Ph/\H'=upd H a (.dT (putK kvs k v))
theorem Bt.k{H:Hp}{a:Addr}{kvs:List (Key×V)}{k:Key}{v:V}(e:H a=KQ (.dK kvs))(hl:kvs.length<Ph):Bt H a (kV k) v (upd H a (.dK (putK kvs k v))):=.inl ⟨kvs,k,e,rfl,hl,rfl⟩
section
variable {X:Cx}{pins:List (Addr×Obj)}{σ:St}{H:Hp}{s:Pe}{a:Addr}{y v:V}{u r:O9}{o:Option V}{A:Qa}{E:O9->Pe->Prop}{kvs:List (Key×V)}{k:Key}
def Inv.big(I:Inv X pins σ H s):QB<s.heap.objs.size:=by
 have h:=(I.mod.glob.keeps I.bk).lt;exact U8 (by decide) h
noncomputable def zdl(hu:A.units+1<UI)(I:Inv X pins σ H s)(g:IA H a y (KQ v))(ry:RelV y u)(h:∀w' s',Inv X pins σ H s'->RelV v w'->Q w' s') :
  PK (PP X.prog X.w) A (Tn (.ref a) u) Q E s:=by
 rcases g with⟨kvs,k,e,ey,l⟩|⟨kvs,k,b,e,ey,eb,l⟩
 .subst ey
  obtain⟨z,hd,vs,rel,dd⟩:=kX I.hok e;obtain⟨w',hw,ZS⟩:=ZR.some_of   (by rw[l];exact rel.val k);exact wpAny_getItem_of (mV ry) dd.mapOf hw (h w' _ (I.tok _) ZS)
 .subst ey
  cases (ry);obtain⟨z,hd,xs,rel,dd⟩:=pO I.hok e;obtain⟨w',hw,ZS⟩:=ZR.some_of   (by rw[l];exact rel.val k);obtain⟨p,hp,vB⟩:=PV.mp hw;refine wpAny_getItem_heap (Ue hu) (oY I.hok eb) dd hp ?_;rw[vB];exact h w' _ (I.tok _) ZS
noncomputable def zdm(hu:A.units+1<UI)(I:Inv X pins σ H s)(g:IA H a y o)(ry:RelV y u)(h:∀s',Inv X pins σ H s'->Q (.bool o.isSome) s') :
  PK (PP X.prog X.w) A (PX .In u (.ref a)) Q E s:=by
 rcases g with⟨kvs,k,e,ey,l⟩|⟨kvs,k,b,e,ey,eb,l⟩
 .subst ey
  obtain⟨z,hd,vs,rel,dd⟩:=kX I.hok e;refine wpAny_in_of (mV ry) hd dd.mapOf ?_;rw[←(rel.val k).isSome_eq,←l];exact h _ (I.tok _)
 .subst ey
  cases (ry);obtain⟨z,hd,xs,rel,dd⟩:=pO I.hok e;refine wpAny_in_heap (Ue hu) (oY I.hok eb) hd dd ?_;have q:=(rel.val k).isSome_eq;rw[Wz] at q;rw[←q,←l];exact h _ (I.tok _)
noncomputable def oF(I:Inv X pins σ H s)(mu:Ez (H a))(hs:Q2 a s.heap h')(he:∃q,h'.get? a=KQ q)(new:Y5 X.prog X.w (upd H a ob) h' a ob) :
  Inv X pins σ (upd H a ob) { s with heap:=h',toks:=t' }:=I.write   mu (.inl rfl) (λb q hb z=>(hs.2 b hb).trans z) he new
noncomputable def zsz(z:kvs.length<=Ph)(hd:(a == QB)=Gy)(rel:KV kvs vs)(dd:h'.DictOf (cJ P w) a vs) :
  Y5 P w H' h' a (.dK kvs):=⟨z,hd,vs,rel,dd⟩
noncomputable def zdn(hu:A.units+1<UI)(I:Inv X pins σ H s)(g:Bt H a y v H')(ry:RelV y u)(rv:RelV v r)(h:∀s',Inv X pins σ H' s'->Q () s') :
  PK (PP X.prog X.w) A (setItem (.ref a) u r) Q E s:=by
 rcases g with⟨kvs,k,e,ey,l,eH⟩|⟨kvs,k,b,e,ey,eb,l,eH⟩
 .subst ey eH
  obtain⟨z,hd,vs,rel,dd⟩:=zsy I.hok e
  have hz:vs.length<=sizeLine:=by rw[←rel.length];exact z
  have hl:(putK kvs k v).length<=sizeLine:=by have:=qt kvs k v;lia
  refine wpAny_setItem_pairs  (mV ry) dd λh' C9 hs=>h _ ?_
  have he:∃q,h'.get? a=KQ q:=let ⟨q,_,_,hq,_⟩:=C9;⟨q,hq⟩
  exact oF I (by rw[e];exact Q4) hs he (zsz hl hd (rel.put k rv) C9)
 .subst ey eH
  cases (ry);obtain⟨z,hd,xs,rel,dd⟩:=zdk I.hok e
  have hz:xs.length<=sizeLine:=by rw[←Rl rel];exact z
  have hl:(putK kvs k v).length<=sizeLine:=by have:=qt kvs k v;lia
  refine Wk (hsz:=hz) (Ue hu) (oY I.hok eb) dd λh' C9 hs=>h _ ?_;obtain⟨q,es,ep,hq,h2,h3,h4,_,h5⟩:=C9;refine oF I (by rw[e];exact Q4) hs ⟨q,hq⟩ ⟨hl,hd,_,(rel.put k eb rv).keeps λc ys ec=>?_,q,es,ep,hq,h2,h3,h4,h5⟩;rw[aA (zai ec e (λz=>nomatch z))];exact ec
noncomputable def zdo(I:Inv X pins σ H s)(e:Rd H a (.dK kvs))(h:∀t s',Inv X pins σ H s'->Q (.int kvs.length t) s'):PK (PP X.prog X.w) A (call (.builtin "len") [.ref a]) Q E s:=by
 obtain⟨z,hd,vs,rel,dd⟩:=kX I.hok e;refine call_len_dict hd dd (by rw[←rel.length];rw[Uu] at z;lia) ?_;rw[←rel.length];exact h _ _ (I.tok _)
end
def ux(i:Expr):Prop:=∀ov iv,VH i Gy ov iv=operate [ov,iv] (Tn ov iv)
noncomputable def zdp{prog:Pu}{w:PU}{A:Qa}{E:O9->Pe->Prop}{s:Pe}{env:Env}{value slice:Expr}{pos:Pos}{T id:String}{Q:O9->Pe->Prop}
  (hl:typeLookup (.type T) "__getitem__"=pure (KQ (.builtin id))) (hs:ux slice)
  (h:PK (PP prog w) A (eval value env) (λo EO=>PK (PP prog w) A (eval slice env) (λi DM=>DM.TypeIs o T/\PK (PP prog w) A (Tn o i) Q E DM) E EO) E s) :
  PK (PP prog w) A (eval (.Subscript value slice pos) env) Q E s:=by
 refine Xs (QC h (λo EO Ct=>QC Ct (λi DM Dv=>?_) λ_ _ x=>x) λ_ _ x=>x);obtain⟨hT,Dv⟩:=Dv;refine Pb ?_;refine Pb (SN hT hl ?_)
 have fin:PK (PP prog w) A (VH slice Gy o i) (λr Kq=>PK (PP prog w) A (letTemporaryGo value o r >>= λ_=>pure r) Q E Kq) E DM:=by
  rw[hs o i];exact wpAny_operating (QC Dv (λr Kq zK=>Pb (wpAny_letTemporaryGo (Pl zK))) λ_ _ x=>x)
 first
  |exact Pl (Pb fin)
  |grind
  |grind
noncomputable def zdq(I:Inv X pins σ H s)(g:IA H a y o):s.TypeIs (.ref a) "dict":=by
 rcases g with⟨kvs,k,e,_,_⟩|⟨kvs,k,b,e,_,_,_⟩
 .obtain⟨_,_,vs,_,dd⟩:=kX I.hok e
  exact dd.typeIs
 .obtain⟨_,_,xs,_,dd⟩:=pO I.hok e
  exact dd.typeIs
noncomputable def JT(td ty:TE):TE:=λσ H Q=>td σ H λx H1=>ty σ H1 λy H2=>∃a v,x=.ref a/\IA H2 a y (KQ v)/\Q v H2
noncomputable def Ll(ty td:TE):TE:=λσ H Q=>ty σ H λy H1=>td σ H1 λx H2=>∃a o,x=.ref a/\IA H2 a y o/\Q (.bl o.isSome) H2
noncomputable def J4(td ty tv:TE):TS:=λD σ H=>tv σ H λv H1=>td σ H1 λx H2=>ty σ H2 λy H3=>∃a H4,x=.ref a/\Bt H3 a y v H4/\D.nx σ H4
section
variable {X:Cx}{o i e value:Expr}{pos pos' EY:Pos}{td ty tv:TE}
noncomputable def zdr(hu:X.A.units+1<UI)(ho:PE X o td)(hi:PE X i ty)(hs:ux i):PE X (.Subscript o i pos) (JT td ty):=by
 intro pins s σ H Q I h;refine zdp PySem.F.slot_dict_getitem.lookup hs (YZ (ho pins s σ H _ I h) λu s1 ⟨x,H1,I1,rx,q1⟩=>YZ (hi pins s1 σ H1 _ I1 q1) λiv s2 ⟨y,H2,I2,ry,a,v,ex,g,q2⟩=>?_);subst ex;obtain rfl:u=P4 a:=rx;exact⟨zdq I2 g,zdl hu I2 g ry λw' s3 I3 ZS=>⟨v,H2,I3,ZS,q2⟩⟩
noncomputable def zds(hu:X.A.units+1<UI)(hi:PE X i ty)(ho:PE X o td):PC X .In i o (Ll ty td):=by
 intro pins s σ H Q I h;refine YZ (hi pins s σ H _ I h) λiv s1 ⟨y,H1,I1,ry,q1⟩=>YZ (ho pins s1 σ H1 _ I1 q1) λu s2 ⟨x,H2,I2,rx,a,ov,ex,g,q2⟩=>?_;subst ex;obtain rfl:u=P4 a:=rx;exact zdm hu I2 g ry λs3 I3=>⟨.bl _,H2,I3,rfl,q2⟩
noncomputable def zdt(hu:X.A.units+1<UI)(ho:PE X o td)(hi:PE X i ty)(hv:PE X value tv)(hs:QF value (KQ (.Subscript o i pos')) pos.line X.env=pure Gy) :
  PS X (.Assign [.Subscript o i pos'] value pos) (J4 td ty tv):=by
 intro pins s σ H D I h;refine U9 (YZ (hv pins s σ H _ I h) λr s1 ⟨v,H1,I1,rv,q1⟩=>YZ (ho pins s1 σ H1 _ I1 q1) λu s2 ⟨x,H2,I2,rx,q2⟩=>YZ (hi pins s2 σ H2 _ I2 q2) λiv s3 ⟨y,H3,I3,ry,a,H4,ex,g,q3⟩=>?_) hs;subst ex;obtain rfl:u=P4 a:=rx;exact zdn hu I3 g ry rv λs4 I4=>⟨σ,H4,I4,q3⟩
end
noncomputable def zdu(h:Heap)(hb:QB<h.objs.size):Y5 P w H (h.push { cls:=.type "dict",data:=.dict #[] }) h.objs.size (.dK []):=⟨Ql _,beq_eq_false_iff_ne.mpr (P3 (PM hb)),[],.nil,Heap.DictOf.new h⟩
noncomputable def sS:List (TE×TE)->St->Hp->(List (V×V)->Hp->Prop)->Prop
 |[],_,H,Q=>Q [] H
 |(tk,tv)::r,σ,H,Q=>tk σ H λx H1=>tv σ H1 λy H2=>sS r σ H2 λps H3=>Q ((x,y)::ps) H3
abbrev VV:List (V×V)->List (O9×O9)->Prop:=SR λp q=>RelV p.1 q.1/\RelV p.2 q.2
def Lz(X:Cx)(pos:Pos)(keys:List (Option Expr))(values:List Expr)(EN:List (TE×TE)):Prop:=
 ∀(pins:List (Addr×Obj)) (s:Pe) (σ:St) (H:Hp) (Q:List (V×V)->Hp->Prop),Inv X pins σ H s->sS EN σ H Q ->
  PK (PP X.prog X.w) X.A (evalPairs (pairTrees keys values X.env pos)) (λvs s'=>∃ps H',Inv X pins σ H' s'/\VV ps vs/\Q ps H') X.xe s
noncomputable def zdv:Lz X pos [] [] []:=λpins s σ H Q I h=>pairTrees_nil_walk ⟨[],H,I,.nil,h⟩
noncomputable def zta(hk:PE X k tk)(hv:PE X v tv)(hr:Lz X pos ks vs EN) :
  Lz X pos (KQ k::ks) (v::vs) ((tk,tv)::EN):=λpins s σ H Q I h=>
 pairTrees_cons_walk (YZ (hk pins s σ H _ I h) λu s1 ⟨x,H1,I1,rx,q1⟩=>YZ (hv pins s1 σ H1 _ I1 q1) λw2 s2 ⟨y,H2,I2,ry,q2⟩=>
  YZ (hr pins s2 σ H2 _ I2 q2) λws s3 ⟨ps,H3,I3,rel,q3⟩=>⟨_::ps,H3,I3,.cons ⟨rx,ry⟩ rel,q3⟩)
noncomputable def jo(kvs more:List (Key×V)):List (Key×V):=more.foldl (λacc kv=>putK acc kv.1 kv.2) kvs
def KV.merge:∀{more:List (Key×V)}{rs:List (Key×O9)}{kvs:List (Key×V)}{vs:List (Key×O9)},KV more rs->KV kvs vs->KV (jo kvs more) (merged vs rs):=by
 intro more rs kvs vs r
 induction r generalizing kvs vs with
 |nil=>intro q;exact q
 |@cons p q ps qs h t ih=>
  intro r0
  have e:KV (putK kvs p.1 p.2) (stored vs q.1 q.2):=by
   have:=r0.put p.1 h.2<;>simp_all
  exact ih e
theorem ztb:∀(more kvs:List (Key×V)),(jo kvs more).length<=kvs.length+more.length
 |[],kvs=>by show kvs.length<=kvs.length+0;lia
 |p::r,kvs=>by
  have h1:=ztb r (putK kvs p.1 p.2);have h2:=qt kvs p.1 p.2
  show (jo _ r).length<=_<;>grind
theorem ztc{P:Pu}{w:PU}:∀{kvs:List (Key×V)}{ws:List (O9×O9)},VV (kvs.map λkv=>(kV kv.1,kv.2)) ws->∃rs,Carries (cJ P w) ws rs/\KV kvs rs
 |[],_,r=>by cases r;exact⟨[],Q4,.nil⟩
 |p::kvs,_,r=>by
  cases r with
  |@cons a b as bs h t=>
   obtain⟨rs,c,q⟩:=ztc (P:=P) (w:=w) t;obtain⟨b1,b2⟩:=b;exact⟨(p.1,b2)::rs,⟨mV h.1,rfl,c⟩,.cons ⟨rfl,h.2⟩ q⟩
noncomputable def JS(EN:List (TE×TE)):TE:=λσ H Q=>∀p,H p=HA->sS EN σ (upd H p (.dK [])) λps H2=>H2 p=KQ (.dK [])/\∃kvs:List (Key×V),ps=kvs.map (λkv=>(kV kv.1,kv.2))/\kvs.length<=15/\Q (.ref p) (upd H2 p (.dK (jo [] kvs)))
noncomputable def zdw(h:Lz X pos keys values EN)(Kn:keys.all (·.isSome)=G3)(hl:keys.length=values.length)(h0:keys≠[])
  (h15:keys.length<=15):PE X (.Dict keys values pos) (JS EN):=by
 intro pins s σ H Q I q;have hn:=I.hok.fresh (Pk _);have I1:=I.laid    (t':=s.toks) (λ_ _ q=>Pd _ q) (Pk _) (zdu _ I.big);refine wpAny_Dict_walk (knd:=cJ _ X.w) Kn hl h0 h15 (YZ (h pins _ σ _ _ I1 (q _ hn)) λws s2 ⟨ps,H2,I2,rel,e,kvs,ep,lk,q2⟩=>?_);subst ep;obtain⟨rs,c,rk⟩:=ztc   rel;obtain⟨z,hd,vs0,r0,dd⟩:=zsy I2.hok e;cases r0;refine⟨rs,c,dd,λh' C9 hs=>⟨.ref _,_,?_,rfl,q2⟩⟩
 have hz:(jo [] kvs).length<=sizeLine:=by
  have h1:=ztb kvs [];rw[SO] at h1;rw[Uu];lia
 have he:∃q,h'.get? _=KQ q:=let ⟨q,_,_,hq,_⟩:=C9;⟨q,hq⟩
 exact oF I2 (by rw[e];exact Q4) hs he (zsz hz hd (rk.merge .nil) C9)
end L2
namespace Att
open PySem PySem.W PySem.Calls PyProof.Rows
noncomputable def zdx:∀(ns:List Int) (vs:List O9),WellAll P h vs (ns.map WData.int)->Xi vs ns:=by
 intro ns
 induction ns with
 |nil=>
  intro vs w;cases w;exact .nil
 |cons n ns ih=>
  intro vs w
  cases w with
  |cons a b=>
   cases a;exact .cons _ _ (ih _ b)
noncomputable def zdy{l:OpenLaw}(hn:l.most=KQ n){h:Heap}
  (hpre:l.row.toRowW.claim.pre args=G3) (hwl:WellAll P h vals args) :
  ∃a vs ns,vals=[P4 a]/\args=[WData.list (ns.map WData.int)]/\h.get? a=KQ { cls:=.type "list",data:=.seq vs.toArray }/\Xi vs ns/\ns.length<=n:=by
 have Ay:WShape.hasAll [] args [.list .int]=G3:=(pre_splitW hpre).1;have hc:l.pre.holds [] { args:=args } = G3:=(pre_splitW hpre).2;obtain⟨d,r,rfl,h1,h2⟩:=hasAllW_cons Ay;obtain rfl:=hasAllW_nil h2;obtain⟨xs,rfl,h3⟩:=hasW_list h1;obtain⟨ns,rfl⟩:=items_int h3
 have Y3:ns.length<=n:=by
  have h4:=by
   have h4:=(holds_andW hc).1
   rw[hn] at h4<;>omega
  have h5:=condW_of h4 (w_not (w_lt w_lit (w_len_list (w_arg rfl))))<;>simp_all
 cases hwl with
 |cons w1 w2=>
  cases w2
  cases w1 with
  |list ho Kn=>exact⟨_,_,ns,rfl,rfl,ho,zdx ns _ Kn,Y3⟩
noncomputable def zdz(l:OpenLaw)(args:List WData):l.row.toRowW.claim.post args (.bool G3) args=G3:=
 postW_of
  (rfl)
  (w_eq_bool (w_res rfl) w_lit) rfl
noncomputable def zea{l:OpenLaw}{XP:(Str->Option O9)->Heap->Prop}{YP:PU->Heap->Prop}{d:DefRec}
  (hn:l.most=KQ n) (Kv:d.params.defaults=[])
  (call:∀(w:PU) (s₀ EO:Pe) (mg mb:Str->Option O9) (fa:Addr) (o:Obj) (pm cd doc:O9) (a:Addr) (vs:List O9) (ns:List Int),
   Ground q loose [] XP w s₀ mg mb EO.heap->YP w EO.heap ->
   EO.heap.get? fa=KQ o->o.data=.func (docDef d.name d.params d.body d.scope pm cd doc)->EO.heap.CodeRec cd d.name->mg d.name=KQ (.ref fa) ->
   EO.heap.get? a=KQ { cls:=.type "list",data:=.seq vs.toArray }->Xi vs ns->ns.length<=n->EO.gens = #[] ->
   Uw (PP l.prog w) Va (.call (.ref fa) ⟨[.ref a],[]⟩) (λr s'=>r=.ok (.ret (.bool G3))/\OldK EO.heap s'.heap/\s'.os=EO.os/\Us s'.gens) EO) :
  WalkO q loose XP YP l.row.toRowW d [] (λf vs=>Vb f vs):=by
 intro w s₀ EO mg mb G Y fa o pm cd doc dV kV ho hd hcd hD hmg hg args vals as hpre hlay hrd hwl hlo;obtain rfl:dV=.none:=Dflts.none hD Kv;obtain rfl:kV=.none:=Dflts.noKw hD;obtain⟨a,vs,ns,rfl,rfl,KO,FC,Y3⟩:=zdy hn hpre hwl;refine enter_call (UZ (call w s₀ EO mg mb fa o pm cd doc a vs ns G Y ho (fd_plain hd) hcd hmg KO FC Y3 hg) λr s' hq=>?_);obtain⟨rfl,h2,h3,h4⟩:=hq;exact⟨.inl ⟨.bool G3,.bool G3,[],rfl,λ_=>rfl,.bool G3,zdz l _,λ_=>⟨YI,λ_ hm=>(nomatch hm)⟩⟩,h2,h3,h4⟩
end Att
namespace L2
theorem ztd:∀{vs:List O9}{ns:List Int},Xi vs ns->YQ (ns.map V.int) vs
 |_,_,.nil=>.nil
 |_,_,.cons n t h=>.cons ⟨t,rfl⟩ (ztd h)
def uw(H:Hp):Prop:=∀b,H b=HA\/∃o xs,H b=KQ (.frz o (.lst xs))
noncomputable def zeb{K:Frag}{mg mb:Str->Option O9}{EO:Pe}{vs:List O9}{ns:List Int}
  (KX:K.In EO.heap) (HV:EO.heap.Ns P1 mg) (hb:EO.heap.Ns Xo mb) (hbb:∀x:Str,x≠"__name__"->mb x=Rx x) (vN:EO.heap.NoLimit) (hg:EO.gens = #[])
  (ha:EO.heap.get? a=KQ { cls:=.type "list",data:=.seq vs.toArray }) (hi:Xi vs ns) (hl:ns.length<=Ph) (hr:YW k Va)
  (F:∀base:Heap,K.In base->base.Ns P1 mg->Zr P w K mg base CX k fa fd [x] sp) (Cj:∀(s:Pe) (u:O9),Wt s fd ⟨[u],[]⟩ [(x,u)])
  (Cd:∀H:Hp,uw H->Zc K H a (ns.map V.int)->sp [.ref a] H (λv _=>v=.bl G3) λ_ _ _=>False)
  (xT:∀H e s',CX [] H EO (λ_ _ _=>False) e s'->False) :
  Uw (PP P w) Va (.call (.ref fa) ⟨[.ref a],[]⟩) (λr s'=>r=.ok (.ret (.bool G3))/\OldK EO.heap s'.heap/\s'.os=EO.os/\Us s'.gens) EO:=by
 have rv:=ztd hi;have wU:=hi.length
 have core:∀H:Hp,uw H->Zc K H a (ns.map V.int)->ZQ P w H EO.heap->(∀b,H b≠HA->b=a)->(H a≠HA->K.lookup a=HA) ->
   Uw (PP P w) Va (.call (.ref fa) ⟨[.ref a],[]⟩) (λr s'=>r=.ok (.ret (.bool G3))/\OldK EO.heap s'.heap/\s'.os=EO.os/\Us s'.gens) EO:=by
  intro H hO hS hok hA hK;have Iv:∀{b:Addr}{o:Obj},EO.heap.get? b=KQ o->H b=HA->(hJ EO.heap H).get? b=KQ o:=λe n=>zak e n
  have Kt:∀{b:Addr}{o:Obj}{es:Array UM}{ep:Nat},EO.heap.get? b=KQ o->o.data=.dict es ep->H b=HA:=λ{b o es ep} e d=>by
   cases q:H b with
   |none=>rfl
   |some u=>
    have e':b=a:=hA b (by rw[q];simp);subst e';rw[ha] at e;cases e;have d':Yy vs.toArray _=Data.dict es ep:=d;cases d'
  have CZ:∀{b:Addr}{m:Str->Option O9},EO.heap.Ns b m->(hJ EO.heap H).Ns b m:=λ{b m} ⟨o,es,ep,e,d,r⟩=>⟨o,es,ep,Iv e (Kt e d),d,r⟩
  have hKb:K.In (hJ EO.heap H):=λb o e=>Iv (KX b o e) (by
   cases q:H b with
   |none=>rfl
   |some u=>
    have e':b=a:=hA b (by rw[q];simp);subst e'
    rw[hK (by rw[q];simp)] at e;cases e)
  have hM:Mod K mg (hJ EO.heap H):=⟨hKb,CZ HV,⟨mb,CZ hb,hbb⟩,let ⟨mc,h1,h2⟩:=vN;⟨mc,CZ h1,h2⟩⟩;have e0:BR P w K mg (hJ EO.heap H) Va [] EO H:=⟨rfl,hM,λb o e=>zal e,Wr (zaj _ _),trivial,λb hb=>absurd (show b∈([]:List Addr) from hb) (by simp),hok,.of_eq hg⟩;refine UZ ((F _ hKb (CZ HV)).run Va [] EO H ⟨[.ref a],[]⟩ [.ref a] [.ref a] _ _ hr e0 (Cj EO (.ref a)) (.cons rfl .nil) (Cd H hO hS)) λr s' h=>?_
  cases r with
  |error e=>exact(xT H e s' h).elim
  |ok fl=>
   cases fl with
   |next=>exact RU h
   |brk=>exact RU h
   |cont=>exact RU h
   |ret u=>
    obtain⟨v,H',os,bare,un,Ag,r',q⟩:=h;have q':v=.bl G3:=q;subst q';obtain rfl:u=Wd G3:=r';refine⟨rfl,OldK.of_keep λb o e=>?_,os,bare⟩
    cases q:H b with
    |none=>exact un.keep b o e q (by intro z;exact absurd (show b∈([]:List Addr) from z) (by simp)) (by simp)
    |some u=>
     rcases hO b with z|⟨ob,xs,z⟩
     .rw[q] at z;cases z
     .have z2:=un.frzs b ob _ z
      obtain⟨e1,_⟩:=hok b _ z;obtain⟨e2,_⟩:=Ag b _ z2;rw[e] at e1;cases e1;exact e2
 cases hk:K.lookup a with
 |some o=>
  have e:=KX a o hk;rw[ha] at e;cases e;refine core (λ_=>HA) (λ_=>.inl rfl) (.inr ⟨_,vs.toArray,_,hk,rfl,rfl,rfl,by rw[Qo,wU];exact hl,by simpa using rv⟩) (λb u z=>by have z':(HA:Option HO)=KQ u:=z;cases z') (λb z=>absurd rfl z) λz=>absurd rfl z
 |none=>
  refine core (λb=>if b=a then KQ (.frz { cls:=.type "list",data:=.seq vs.toArray } (.lst (ns.map V.int))) else HA) (λb=>?_) (.inl (.inr ⟨{ cls:=.type "list",data:=.seq vs.toArray },if_pos rfl⟩)) (λb u z=>?_) (λb z=>?_) λ_=>hk
  .by_cases hb:b=a
   .exact .inr ⟨_,_,if_pos hb⟩
   .exact .inl (if_neg hb)
  .by_cases hb:b=a
   .have z':=(if_pos hb).symm.trans z
    cases z';subst hb;exact⟨ha,by rw[PY];exact hl,vs,_,rv,ha⟩
   .have z':=(if_neg hb).symm.trans z
    cases z'
  .by_cases hb:b=a
   .exact hb
   .exact absurd (if_neg hb) z
noncomputable def zec{l:Vl}{XP:(Str->Option O9)->Heap->Prop}{YP:PU->Heap->Prop}{d:DefRec}{K:Ym->Frag}{CX:PU->GO}{sp:PU->Sp}
  (hn:l.most=KQ n) (EZ:n<=Ph) (Kv:d.params.defaults=[]) (hr:YW k Va)
  (hY:∀(w:PU) (h:Heap),YP w h->(K w.params).In h)
  (F:∀(w:PU) (mg:Str->Option O9) (fa:Addr) (h:Heap),(K w.params).In h->h.Ns P1 mg->mg d.name=KQ (.ref fa) ->
   ∃fd:RG,(∀(s:Pe) (u:O9),Wt s fd ⟨[u],[]⟩ [(x,u)]) /\
    ∀base:Heap,(K w.params).In base->base.Ns P1 mg->Zr l.prog w (K w.params) mg base (CX w) k fa fd [x] (sp w))
  (Cd:∀(w:PU) (H:Hp) (a:Addr) (ns:List Int),ns.length<=n->uw H->Zc (K w.params) H a (ns.map V.int)->sp w [.ref a] H (λv _=>v=.bl G3) λ_ _ _=>False)
  (xT:∀(w:PU) (H:Hp) (s:Pe) (e:O9) (s':Pe),CX w [] H s (λ_ _ _=>False) e s'->False) :
  V7 q loose XP YP l.row.toRowW d [] (λf vs=>Vb f vs):=by
 refine Att.zea hn Kv λw s₀ EO mg mb fa o pm cd doc a vs ns G Y ho hd hcd hmg KO FC Y3 hg=>?_;have KX:=hY w _ Y;obtain⟨fd,hb,hF⟩:=F w mg fa _ KX G.T.g hmg;exact zeb KX G.T.g G.T.b G.T.builtins G.T.nolimit hg KO FC (PB Y3 EZ) hr hF hb (λH hO hS=>Cd w H a ns Y3 hO hS) λH e s'=>xT w H EO e s'
noncomputable def df(s:Stmt):Arguments:=match s with
 |.FunctionDef _ a _ _ _ _ _ _ _ _=>a
 |_=>{ posonlyargs:=[],args:=[],vararg:=HA,kwonlyargs:=[],kw_defaults:=[],kwarg:=HA,defaults:=[] }
noncomputable def bP(s:Stmt):List Stmt:=match s with
 |.FunctionDef _ _ b _ _ _ _ _ _ _=>b
 |_=>[]
noncomputable def aO(s:Stmt):Scope:=match s with
 |.FunctionDef _ _ _ _ _ _ sc _ _ _=>sc
 |_=>{ kind:=.function,names:=[],isGenerator:=Gy,isCoroutine:=Gy }
abbrev Z7:GO:=λ_ _ _ _ _ _=>False
abbrev E0:XK:=λ_ _ _=>False
def cw:iJ Z7 X E0:=λ_ _ _ _ _ _ _ h=>h.elim
structure KH(K:Frag)(x qual:Str)(st:Stmt)(f:Addr)(fd:RG):Prop where
 ex:∃(oc:O9) (od:Option Addr) (kV doc pm:O9) (an:Option Addr) (Y9 ct:O9) (osl:Array (Option O9)),
  fd=Qf x qual (df st) (bP st) (aO st) .none kV doc pm an Y9 ct/\K.lookup f=KQ ⟨oc,od,.func fd,osl⟩/\R8 K Y9 qual=G3
 kp:QT K (.ref f)=G3
section
variable {P:Pu}{w:PU}{K:Frag}{mg:Str->Option O9}{base:Heap}{X:Cx}
def KH.ok{x qual:Str}{st:Stmt}{f:Addr}{fd:RG}{N ps:List Str}{k:Nat}{sp:Sp}(F:KH K x qual st f fd)(S:Y2 N ps (aO st))(len:∀vs H Q E,sp vs H Q E->vs.length=ps.length)
  (Zw:∀(Y9:O9) (A:Qa) (outer:List Env) (s:Pe) (H:Hp) (vs:List V) (Q:VK) (E:XK),YW k (A.deeper (S4 qual (aO st) s.heap.objs.size f Y9))->sp vs H Q E ->
   ∃t,Kl (ef Z7 P w K mg base N qual (aO st) f Y9 A outer s H E).nox (bP st) t/\t { nx:=λ_ H'=>Q .non H',rt:=Q } (start N vs) H):Zr P w K mg base Z7 (k+1) f fd ps sp:=by
 obtain⟨oc,od,kV,doc,pm,an,Y9,ct,osl,rfl,lk,hcd⟩:=F.ex;refine zcl lk hcd S len λA outer s H vs Q E hr Cd=>?_;obtain⟨t,h,q⟩:=Zw Y9 A _ s H vs Q E hr Cd;exact⟨t,h.nox,q⟩
def KH.binds{x qual:Str}{st:Stmt}{f:Addr}{fd:RG}{ps:List Str}(F:KH K x qual st f fd)
  (h:∀(kV doc pm:O9) (an:Option Addr) (Y9 ct:O9) (us:List O9),us.length=ps.length->SE (Qf x qual (df st) (bP st) (aO st) .none kV doc pm an Y9 ct) ⟨us,[]⟩=pure (ps.zip us)):Binds K fd ps []:=by
 obtain⟨oc,od,kV,doc,pm,an,Y9,ct,osl,rfl,lk,hcd⟩:=F.ex;exact .all (h kV doc pm an Y9 ct)
noncomputable def pd{x qual:Str}{st:Stmt}{f:Addr}{oc:O9}{od an:Option Addr}{osl:Array (Option O9)}{kV doc pm Y9 ct:O9}(l:K.lookup f=KQ ⟨oc,od,.func (Qf x qual (df st) (bP st) (aO st) .none kV doc pm an Y9 ct),osl⟩)
  (c:R8 K Y9 qual=G3) (k:QT K (.ref f)=G3):KH K x qual st f (Qf x qual (df st) (bP st) (aO st) .none kV doc pm an Y9 ct):=⟨⟨oc,od,kV,doc,pm,an,Y9,ct,osl,rfl,l,c⟩,k⟩
noncomputable def pv(i:Nat)(hN:autoParam (X.N[i]? = KQ x) u10)(hv:autoParam (BS X.env.scope x) u20)(hd:autoParam ((x == ("__debug__" : Str))=Gy) u11)
  (hcd:autoParam ((x == ("__classdict__" : Str))=Gy) u11):PE X (.Name x pos) (A4 i):=zam hN hv hd hcd
end
def iT{A B:Prop}(h:B):if Gy=G3 then A else B :=by simp_all
def iS{A B:Prop}(h:A):if G3=G3 then A else B :=by simp_all
end L2
set_option maxHeartbeats 4000000
namespace K1
open PySem
noncomputable def has(signs x:Str):Bool:=x.cps.toList.all λc=>decide (c∈signs.cps.toList)
noncomputable def Z1:Str:="abcdefghijklmnopqrstuvwxyz"
noncomputable def ZZ:Str:="abcdefghijklmnopqrstuvwxyz0123456789-"
noncomputable def single:OY->Bool
 |.int i=>decide ((if i<0 then -i else i)<=10^18)
 |.str x=>decide (x.length<=20)&&has ZZ x
 |_=>Gy
noncomputable def az:Nat->OY->Bool
 |0,.tuple _=>Gy
 |n+1,.tuple ds=>decide (ds.length<=8)&&ds.all (az n)
 |_,d=>single d
noncomputable def aD:Nat->OY->Int
 |n+1,.tuple ds=>1+(ds.map (aD n)).sum
 |_,_=>1
noncomputable def isName:OY->Bool
 |.str x=>decide (1<=x.length)&&decide (x.length<=8)&&has Z1 x
 |_=>Gy
def au(d:OY):Bool:=az 4 d&&decide (aD 4 d<=40)
theorem zte{α:Type}(f:α->Int)(h:∀a,1<=f a):∀l:List α,(l.length:Int)<=(l.map f).sum
 |[]=>by simp
 |a::r=>by
  have:=zte f h r;have:=h a;simp
  lia
noncomputable def IQ:Nat->OY->Bool
 |0,.tuple _=>Gy
 |n+1,.tuple ds=>ds.all (IQ n)
 |_,_=>G3
theorem ztf:∀(n:Nat) (d:OY),az n d=G3->IQ n d=G3
 |0,d,h=>by cases d <;> first|rfl|cases h
 |n+1,d,h=>by
  cases d with
  |tuple ds=>
   have e:az (n+1) (.tuple ds)=(decide _&&ds.all _):=rfl;rw[e,Pg] at h;exact Po.mpr λx hx=>ztf n x (Po.mp h.2 x hx)
  |_=>rfl
end K1
namespace L2
open PySem
noncomputable def bM(env:Env):List (Str×RP)->List (Str×Addr)->List (Str×Addr)
 |[],acc=>acc
 |(n,k)::r,acc=>bM env r (if (k == .free)=G3 then (n,(env.cells.lookup n).getD 0)::acc else acc)
theorem qZ:∀(l:List (Str×RP)) (acc:List (Str×Addr)),(∀x∈l,x.2=.free->∃c,env.cells.lookup x.1=KQ c) ->
  (forIn l acc (λx r=>match x with
   | (name,kind)=>if (kind == Qy)=G3 then (do
     let c ←cellOf env name
     pure (Sk ((name,c)::r))) else pure (Sk r)):Sem (List (Str×Addr)))=pure (bM env l acc)
 |[],acc,_=>rfl
 |(n,k)::r,acc,h=>by
  rw[List.forIn_cons];have hr:=λx hx=>h x (Pc _ hx)
  cases hk:(k == Qy) with
  |false=>
   have ih:=qZ r acc hr
   have e:bM env ((n,k)::r) acc=bM env r acc:=by simp[bM,hk]
   rw[e];dsimp only;rw[if_neg (by simp_all)];exact ih
  |true=>
   obtain⟨c,hc⟩:=h _ Pf (by simpa using hk);have ih:=qZ r ((n,c)::acc) hr;have E8:=hc
   have e:bM env ((n,k)::r) acc=bM env r ((n,c)::acc):=by simp[bM,hk,E8]
   have e2:cellOf env n=pure c:=by unfold cellOf;rw[E8]
   rw[e];dsimp only;rw[if_pos hk,e2];exact ih
noncomputable def qE(h:∀x∈scope.names,x.2=.free->∃c,env.cells.lookup x.1=KQ c):closureFor scope env=pure (bM env scope.names []):=by
 have q:=qZ  _ [] h;exact congrArg (λt=>t >>= λz=>pure z) q
theorem qw:∀(l:List (Str×RP)) (acc:List (Str×Addr)) (x:Str) (c:Addr),(∀y d,acc.lookup y=KQ d->env.cells.lookup y=KQ d) ->
  (∀y∈l,y.2=.free->∃c,env.cells.lookup y.1=KQ c)->(bM env l acc).lookup x=KQ c->env.cells.lookup x=KQ c
 |[],acc,x,c,ha,_,e=>ha x c e
 |(n,k)::r,acc,x,c,ha,h,e=>by
  have hr:=λx hx=>h x (Pc _ hx);refine qw r _ x c ?_ hr e;intro y d q
  cases hk:(k == Qy) with
  |false=>simp_all
  |true=>
   rw[hk,if_pos rfl] at q
   obtain⟨c',hc⟩:=h _ Pf (by simpa using hk)<;>grind
theorem ztg:∀(l:List (Str×RP)) (acc:List (Str×Addr)) (x:Str),(acc.lookup x).isSome=G3->((bM env l acc).lookup x).isSome=G3
 |[],_,_,h=>h
 |(n,k)::r,acc,x,h=>by
  refine ztg r _ x ?_
  cases hk:(k == Qy) <;>simp_all
theorem qF:∀(l:List (Str×RP)) (acc:List (Str×Addr)) (x:Str),(x,Qy)∈l->((bM env l acc).lookup x).isSome=G3
 |[],_,_,h=>absurd h (by simp)
 |(n,k)::r,acc,x,h=>by
  rcases Pr.mp h with e|e
  .refine ztg r _ _ ?_<;>simp_all
  .exact qF r _ x e
structure LF(osc:Rk)(N:List Str)(xs:List Str)(scope:Rk)(N':List Str):Prop where
 kind:scope.kind=.function
 nocell:∀y∈scope.names,y.2≠.cell
 names:∀y∈scope.names,y.2=.local->scope.names.lookup y.1=KQ .local
 hx:∀x∈xs,scope.names.lookup x=KQ .local
 only:∀y∈scope.names,y.2=.local->y.1∈xs\/y.1=".0"
 free:∀y∈scope.names,y.2=.free->osc.names.lookup y.1=KQ .cell\/osc.names.lookup y.1=KQ .free
 nd:(xs++N').Nodup
 n0:(".0" : Str)∉N'
 len:N'.length=N.length
 rel:∀p∈N'.zip N,p.1=p.2\/∀q∈scope.names,q.1≠p.1
def LF.at{osc:Rk}{N N':List Str}{xs:List Str}{scope:Rk}(S:LF osc N xs scope N'){j:Nat}{y:Str}(h:N'[j]? = KQ y):N[j]? = KQ y\/∀q∈scope.names,q.1≠y:=by
 have hl:j<N'.length:=(Pa.mp h).1
 have EU:j<N.length:=by rw[←S.len];exact hl
 have m:(N'.zip N)[j]? = KQ (y,N[j]):=by
  rw[Uq];exact⟨h,Qg EU⟩
 rcases S.rel _ (Px m) with z|z
 .simp_all
 .exact .inr z
theorem zth{c:Str×RP->Bool}:∀{names:List (Str×RP)}{y:Str}{k':RP},
  (names.map λp=>if (p.2 == Qy&&c p)=G3 then (p.1,NameKind.cell) else (p.1,p.2)).lookup y=KQ k'->∃k,(y,k)∈names/\(k'=k\/(k=.free/\k'=.cell))
 |[],_,_,h=>by simp at h
 |(n,k)::r,y,k',h=>by
  rw[P2] at h
  by_cases hy:y=n
  .grind
  .have hb:=beq_eq_false_iff_ne.mpr hy
   have h':=by
    cases hc:(k == Qy&&c (n,k)) with
    |false=>simp only[hc,QD,if_false,R9,hb] at h;exact h
    |true=>simp only[hc,if_true,R9,hb] at h;exact h
   obtain⟨k2,m,e⟩:=zth h';exact⟨k2,Pc _ m,e⟩
noncomputable def jR(h:(To scope env).names.lookup y=KQ k'):∃k,(y,k)∈scope.names/\(k'=k\/(k=.free/\k'=.cell)):=by
 refine zth (c:=λp=>env.scope.kind == .function&&env.kindOf p.1 == KQ .cell) ?_;rw[←h]
 congr 1
 refine Ra λp _=>?_;simp only[Bool.and_assoc]
abbrev dR(X:Cx)(xs:List Str)(scope:Rk)(C:Addr)(s0:Pe)(H0:Hp)(ex:List Addr)(N':List Str):Cx where
 prog:=X.prog
 w:=X.w
 K:=X.K
 mg:=X.mg
 base:=X.base
 A:=X.A
 N:=xs++N'
 s₀:=s0
 H₀:=H0
 env:=Sl scope (bM X.env scope.names []) C X.env
 outer:=X.stack
 stack:=X.stack
 ex:=ex
 fn:=λ_=>Gy
 calm:=X.calm
 pn:=[]
 xe:=λ_ _=>False
section
variable {X:Cx}{pins:List (Addr×Obj)}{σ:St}{H:Hp}{s:Pe}{xs:List Str}{scope:Rk}{N':List Str}
noncomputable def zwl(I:Inv X pins σ H s)(S:LF X.env.scope X.N xs scope N'):∀y∈scope.names,y.2=.free->∃c,X.env.cells.lookup y.1=KQ c:=λy hy e=>
 I.ok.has y.1 (S.free y hy e)
noncomputable def zwm(I:Inv X pins σ H s)(S:LF X.env.scope X.N xs scope N')(e:(bM X.env scope.names []).lookup y=KQ c):X.env.cells.lookup y=KQ c:=qw scope.names [] y c (λ_ _ z=>by simp at z) (zwl I S) e
noncomputable def zwn(I:Inv X pins σ H s)(S:LF X.env.scope X.N xs scope N')(e:(y,Qy)∈scope.names):∃c,(bM X.env scope.names []).lookup y=KQ c/\X.env.cells.lookup y=KQ c:=by
 obtain⟨c,hc⟩:=SF.mp (qF (env:=X.env) scope.names [] y e);exact⟨c,hc,zwm I S hc⟩
noncomputable def zgt(I:Inv X pins σ H s)(S:LF X.env.scope X.N xs scope N')(hf:∀b∈fp,cY X pins H b)(ho:∀b∈fp,∃o,s.heap.get? b=KQ o)
  (HV:h'.Ns (s.heap.push oD).objs.size m) (ZX:Q2 (s.heap.push oD).objs.size ((s.heap.push oD).push oC) h') :
  Inv (dR X xs scope (s.heap.push oD).objs.size { s with heap:=s.heap.push oD } H (s.heap.objs.size::fp) N') [] (Pp xs.length HA++σ) H { s with heap:=h',toks:=tk }:=by
 have I3:Inv X pins σ H { s with heap:=s.heap.push oD,toks:=s.toks }:=I.kept λb o e=>Pd _ e;have hC:(s.heap.push oD).objs.size=s.heap.objs.size+1:=Q5 ..
 have DB:∀b o,(s.heap.push oD).get? b=KQ o->h'.get? b=KQ o:=λb o e=>
  (ZX.2 b (PM (Pq e))).trans (Pd _ e)
 have up:∀b o,s.heap.get? b=KQ o->h'.get? b=KQ o:=λb o e=>DB b o (Pd _ e);have cl:=λ{y c} e=>zwm (y:=y) (c:=c) I S e
 have Be:∀y c,X.env.cells.lookup y=KQ c->c<s.heap.objs.size:=λy c e=>let ⟨v,q⟩:=I.cell y c e;q.lt
 have inner:∀{y:Str}{k':RP},(To scope X.env).names.lookup y=KQ k'->(k'=.cell\/k'=.free)->(y,Qy)∈scope.names:=λ{y k'} e hk=>by
  obtain⟨k,mem,r⟩:=jR e
  rcases r with r|⟨r,_⟩
  .rcases hk with z|z
   .exact absurd (r.symm.trans z) (S.nocell _ mem)
   .simp_all
  .simp_all
 have ok:(dR X xs scope (s.heap.push oD).objs.size { s with heap:=s.heap.push oD } H (s.heap.objs.size::fp) N').Ok:=by
  refine⟨I.ok.mod,S.kind,I.ok.glob,I.ok.blt,Pk _,λy z c e1 e2=>I.ok.inj y z c (cl e1) (cl e2),λy hk=>?_,λy c e=>(nomatch e),I.ok.hd,I.ok.frames,.inl rfl,λb hb=>?_,λb o e=>?_,
   PB (PB I.ok.bsz I.sz) (by show s.heap.objs.size<=(s.heap.push oD).objs.size;lia),λb o e hb=>?_,λb hb z=>?_,I3.stack,I.stkFree⟩
  .have mem:(y,Qy)∈scope.names:=by
    rcases hk with z|z
    .exact inner z (.inl rfl)
    .exact inner z (.inr rfl)
   obtain⟨c,hc,_⟩:=zwn I S mem;exact⟨c,hc⟩
  .rcases Pr.mp hb with e|e
   .subst e
    exact⟨by show s.heap.objs.size≠(s.heap.push oD).objs.size;lia,λy c e=>PM (Be y c (cl e))⟩
   .obtain⟨o,q⟩:=ho b e
    have q2:=Pq q;exact⟨by show b≠(s.heap.push oD).objs.size;rw[hC];exact PM (RQ q2),λy c e'=>(hf b e).2.2.2.2.1 y c (cl e')⟩
  .exact⟨Pd _ (I.bs b o e).1,(I.bs b o e).2⟩
  .rcases Pr.mp hb with z|z
   .have q2:=Pq (I.bs b o e).1
    rw[z] at q2;exact Qw _ q2
   .rcases(hf b z).2.2.2.1 with q|q
    .exact I.ok.noex b o e q
    .have q2:=Pq (I.ok.bs b o e).1
     exact Qw _ (PQ q2 q)
  .have z':=I.stkSub b z
   rcases Pr.mp hb with e|e
   .subst e
    rcases Pr.mp z' with q|q
    .have q2:=I.lt
     rw[←q] at q2;exact Qw _ q2
    .exact I.nofs (Pk _) q
   .rcases Pr.mp z' with q|q
    .exact(hf b e).2.1 q
    .exact(hf b e).2.2.1 q
 obtain⟨mo,Jm,hlo⟩:=I.loc;refine⟨ok,rfl,I.bare,Un.kept DB,⟨m,HV,λi y v e1 e2 e3=>?_⟩,λy c e=>?_,I.hok.fresh (by show s.heap.objs.size<=(s.heap.push oD).objs.size;lia),λy c e=>I.freeC y c (cl e),λp hp=>absurd hp (by simp),I.hok.kept up,?_⟩
 .by_cases hi:i<xs.length
  .rw[Pn (by simpa using hi)] at e2
   have:=Px e2;rw[Um] at this;cases this.2
  .obtain⟨j,rfl⟩:∃j,i=xs.length+j:=⟨i-xs.length,by lia⟩
   have FG:N'[j]? = KQ y:=by
    have Hg:(xs++N')[xs.length+j]? = KQ y:=e1;rw[Qc (by lia)] at Hg;simpa using Hg
   have BU:∃k,(y,k)∈scope.names:=by
    rcases(show BS (To scope X.env) y from e3) with z|z|z <;> exact let ⟨k,mem,_⟩:=jR z;⟨k,mem⟩
   have Hg:X.N[j]? = KQ y:=by
    rcases S.at FG with z|z
    .exact z
    .obtain⟨k,mem⟩:=BU
     exact absurd rfl (z _ mem)
   have Jd:σ[j]? = KQ (KQ v):=by
    rw[Qc (by simp)] at e2;simpa using e2
   have yx:y∉xs:=λz=>(QR.mp S.nd).2.2 y z y (Px FG) rfl
   have kin:((To scope X.env).names.lookup y=KQ .cell\/(To scope X.env).names.lookup y=KQ .free):=by
    rcases(show BS (To scope X.env) y from e3) with z|z|z
    .obtain⟨k,mem,r⟩:=jR z
     rcases r with r|⟨_,r⟩
     .rcases S.only _ mem r.symm with z2|z2
      .exact absurd z2 yx
      .exact absurd (Px FG) (by rw[show y=(".0" : Str) from z2];exact S.n0)
     .cases r
    .exact .inl z
    .exact .inr z
   have mem:(y,Qy)∈scope.names:=by
    rcases kin with z|z
    .exact inner z (.inl rfl)
    .exact inner z (.inr rfl)
   have vo:BS X.env.scope y:=by
    rcases S.free _ mem rfl with z|z
    .exact .inr (.inl z)
    .exact .inr (.inr z)
   obtain⟨u,ru,lk⟩:=hlo j y v Hg Jd vo;refine⟨u,ru,.inr ⟨kin,?_⟩⟩;obtain⟨c,hc,E8⟩:=zwn I S mem;refine⟨c,hc,?_⟩
   rcases lk with⟨z,_⟩|⟨_,c2,z2,q⟩
   .exfalso
    have z':X.env.scope.names.lookup y=KQ .local:=z
    rcases S.free _ mem rfl with r|r <;> (rw[z'] at r;cases r)
   .rw[E8] at z2
    cases z2;obtain⟨o,q1,q2⟩:=q;exact⟨o,up _ _ q1,q2⟩
 .obtain⟨v,o,q1,q2⟩:=I.cell y c (cl e)
  exact⟨v,o,up _ _ q1,q2⟩
 .have:=I.len
  show (Pp xs.length HA++σ).length=(xs++N').length;simp[this,S.len]
noncomputable def zgu(I:Inv X pins σ H s)(hf:∀b∈fp,cY X pins H b)
  (E2:C=(s.heap.push oD).objs.size) (J:Inv (dR X xs scope C { s with heap:=s.heap.push oD } H (s.heap.objs.size::fp) N') Dw σ' H1 s1) (ZX:Q2 C s1.heap h') (hD0:H1 s.heap.objs.size=HA)
  (new:∃YL n,YQ ys YL/\s1.heap.get? s.heap.objs.size=KQ { cls:=.type "list",data:=.seq YL.toArray n }) (hz:ys.length<=Ph) :
  Inv X pins σ (upd H1 s.heap.objs.size (.lst ys)) { s1 with heap:=h' }:=by
 have hC:C=s.heap.objs.size+1:=by simp_all
 have nD:∀b o,s.heap.get? b=KQ o->b≠s.heap.objs.size:=λb o e=>PM (Pq e)
 have nC:∀b o,s.heap.get? b=KQ o->b≠C:=λb o e=>by rw[hC];exact PM (RQ (Pq e))
 have up:∀b o,s.heap.get? b=KQ o->(s.heap.push oD).get? b=KQ o:=λb o e=>Pd _ e;have nx:∀b,b∉fp->b≠s.heap.objs.size->b∉s.heap.objs.size::fp:=λb h1 h2 z=>(Pr.mp z).elim h2 h1
 have Gx:s.heap.objs.size≠C:=by simp_all
 have tr:∀b u,H1 b=KQ u->b≠s.heap.objs.size:=λb u e z=>by simp_all
 have JJ:∀b u,H1 b=KQ u->b≠C:=λb u e z=>by
  have:=J.free;rw[z] at e;have q:H1 C=HA:=J.free;rw[q] at e;cases e
 obtain⟨YL,n,rv,eD⟩:=new;have B:Un (frs X.stack) (s.heap.objs.size::fp) H H1 (s.heap.push oD) s1.heap:=J.base;refine I.call' (s':={ s1 with heap:=h' }) (ch:=fp) J.os ⟨λb o e q h1 h2=>?_,λb o e q h1 h2=>?_,λb o e q h2=>?_,λb o e h2=>?_,λb xs e=>?_,λb o u e=>?_,λb ps e=>?_⟩ (λb u e=>?_) J.bare λb hb=>?_
 .exact(ZX.2 b (nC b o e)).trans (B.keep b o (up b o e) q h1 (nx b h2 (nD b o e)))
 .obtain⟨sl,z⟩:=B.slot b o (up b o e) q h1 (nx b h2 (nD b o e))
  exact⟨sl,(ZX.2 b (nC b o e)).trans z⟩
 .rw[aA (nD b o e)]
  exact B.free b o (up b o e) q (nx b h2 (nD b o e))
 .obtain⟨o',z⟩:=B.there b o (up b o e) (nx b h2 (nD b o e))
  exact⟨o',(ZX.2 b (nC b o e)).trans z⟩
 .have z:=B.tups b xs e
  rw[aA (tr b _ z)];exact z
 .have z:=B.frzs b o u e
  rw[aA (tr b _ z)];exact z
 .obtain⟨more,z⟩:=B.tbls b ps e
  exact⟨more,by rw[aA (tr b _ z)];exact z⟩
 .by_cases hb:b=s.heap.objs.size
  .subst hb
   rw[aQ] at e;cases e;exact⟨hz,YL,n,rv,(ZX.2 _ Gx).trans eD⟩
  .rw[aA hb] at e
   refine(J.hok b u e).stay (λc v hc q=>(ZX.2 c ?_).trans q) (λc q=>by rw[aA (tr c _ q)];exact q) λc xs q=>by rw[aA (tr c _ q)];exact q
   rcases hc with z|z
   .rw[z];exact JJ b u e
   .exact JJ c _ z
 .obtain⟨_,f1,_,f3,f4,f5⟩:=hf b hb
  exact⟨f3,f1,f4,f5⟩
end
def Fw(X:Cx)(ifs:List Expr)(t:TT):Prop:=
 ∀(pins:List (Addr×Obj)) (s:Pe) (σ:St) (H:Hp) (Q:Bool->Hp->Prop) (E:O9->Pe->Prop),Inv X pins σ H s->t σ H Q ->
  PK (PP X.prog X.w) X.A (forIn ifs G3 λc r=>if r=G3 then do
   let ok ←WP c X.env (eval c X.env)
   pure (Sk ok) else pure (Sk r)) (TP X pins σ Q) E s
noncomputable def zed:Fw X [] (λ_ H Q=>Q G3 H):=λ_ _ _ H _ _ I h=>wpAny_tests_nil ⟨H,I,h⟩
noncomputable def zee(hx:X.xe=λ_ _=>False)(h:PT X c t):Fw X [c] t:=λpins s σ H Q _ I q=>
 wpAny_tests_one (QC (h pins s σ H Q I q) (λ_ _ z=>z) λe s' z=>by simp_all)
noncomputable def zgv(I:Nat->Pe->Prop)
  (turn:∀n s,I n s->PK (PP prog w) A (Wf it) (λr s1=>match r with
   |none=>R (.ok .next) s1
   | some v=>PK (PP prog w) A (Tv tg it v) (λ_ s2=>PK (PP prog w) A (We tg env v) (λ_ s2=>
     PK (PP prog w) A (forIn ifs G3 λc r=>if r=G3 then do
      let ok ←WP c env (eval c env)
      pure (Sk ok) else pure (Sk r)) (λok s3=>
      if ok=G3 then PK (PP prog w) A (eval elt env) (λx s4=>PK (PP prog w) A (call (.builtin "list.append") [acc,x]) (λ_ s5=>∃m,m<n/\I m s5)
       (SQ (PP prog w) A env λe s'=>R (.error e) s') s4) (SQ (PP prog w) A env λe s'=>R (.error e) s') s3
      else ∃m,m<n/\I m s3) (SQ (PP prog w) A env λe s'=>R (.error e) s') s2) (SQ (PP prog w) A env λe s'=>R (.error e) s') s2) (SQ (PP prog w) A env λe s'=>R (.error e) s') s1) (SQ (PP prog w) A env λe s'=>R (.error e) s') s)
  (n:Nat) (h:I n s):Uw (PP prog w) A (.compLoop (.ListComp elt [⟨tg,iter,ifs,0⟩] scope pos) 0 it acc env) R s:=by
 refine codeAny_loop rfl I (λn s hI=>wpAny_noted ?_) n h;rw[compTurn_list];refine Pb (V8 (Pb (YZ (turn n s hI) λr s1 h1=>?_)))
 cases r with
 |none=>exact Pl h1
 |some v=>
  refine Pb (YZ h1 λ_ s2 h2=>Pb (YZ h2 λ_ s3 h3=>Pb (YZ h3 λok s4 h4=>?_)))
  cases ok with
  |false=>exact Pl ⟨rfl,h4⟩
  |true=>exact Pb (Pb (YZ h4 λx s5 h5=>Pb (YZ h5 λ_ s6 h6=>Pl (Pl ⟨rfl,h6⟩))))
def tP(n:Nat)(g:TG)(σ:St)(J:It)(tt:TT)(te:TE)(W:Nat->Nat->List V->Hp->Prop)(D:List V->Hp->Prop):Prop:=∀i m ys H,W i m ys H ->
 (J.stop i H/\ys.length<=Ph/\D ys H)\/(J.go i H/\ys.length<Ph/\∃N:List V->Hp->Prop,(∀JA H',N JA H'->∃m',m' < m/\W (i+1) m' JA H')/\∀v H',J.yld i H v H'->∀EG:St,EG.length=n->g v (EG++σ) H' λGM H1=>(∃CU:St,CU.length=n/\GM=CU++σ)/\tt GM H1 λb H2=>
  if b=G3 then te GM H2 λy H3=>N (ys++[y]) H3 else N ys H2)
section
variable {X:Cx}{pins:List (Addr×Obj)}{σ:St}{H:Hp}{s:Pe}{xs:List Str}{scope:Rk}{N':List Str}{tg elt iter:Expr}{ifs:List Expr}{pos:Pos}{wi:TI}{g:TG}{te:TE}{tt:TT}
noncomputable def zgw{fp:List Addr}{it C:Addr}{tn:Nat->Heap->Prop}{J:It}{oD:Obj}{elt iter:Expr}{ifs:List Expr}{pos:Pos}{tg:Expr}{g:TG}{te:TE}{tt:TT}{W:Nat->Nat->List V->Hp->Prop}{Dn:List V->Hp->Prop}
  {R:Yi->Pe->Prop}{σ':St}{s4:Pe}{m0:Nat} (K7:X.calm=G3) (S:LF X.env.scope X.N xs scope N') (hf:∀b∈fp,cY X pins H b) (ho:∀b∈fp,∃o,s.heap.get? b=KQ o) (E2:C=(s.heap.push oD).objs.size)
  (T:Turn X.prog X.w X.K tg J fp it tn) (I4:Inv (dR X xs scope C { s with heap:=s.heap.push oD } H (s.heap.objs.size::fp) N') [] (Pp xs.length HA++σ) H s4) (Ia:tn 0 s4.heap) (zJ:s4.heap.get? s.heap.objs.size=KQ { cls:=.type "list",data:=.seq #[] 0 })
  (zw:H s.heap.objs.size=HA) (hgg:PG (dR X xs scope C { s with heap:=s.heap.push oD } H (s.heap.objs.size::fp) N') tg g) (wd:PE (dR X xs scope C { s with heap:=s.heap.push oD } H (s.heap.objs.size::fp) N') elt te) (wV:Fw (dR X xs scope C { s with heap:=s.heap.push oD } H (s.heap.objs.size::fp) N') ifs tt)
  (w0:W 0 m0 [] H) (turn:tP xs.length g σ J tt te W Dn)
  (hR:∀s1 H1 GM ys YL n,Inv (dR X xs scope C { s with heap:=s.heap.push oD } H (s.heap.objs.size::fp) N') [] GM H1 s1->H1 s.heap.objs.size=HA->YQ ys YL->s1.heap.get? s.heap.objs.size=KQ { cls:=.type "list",data:=.seq YL.toArray n }->ys.length<=Ph->Dn ys H1->R (.ok .next) s1) :
  Uw (PP X.prog X.w) X.A (.compLoop (.ListComp elt [⟨tg,iter,ifs,0⟩] scope pos) 0 (.ref it) (.ref s.heap.objs.size) (Sl scope (bM X.env scope.names []) C X.env)) R s4:=by
 have hC:C=s.heap.objs.size+1:=by rw[E2];exact Q5 ..
 generalize hX:dR X xs scope C { s with heap:=s.heap.push oD } H (s.heap.objs.size::fp) N'=X' at *
 have xP:X'.prog=X.prog:=by rw[←hX]
 have xW:X'.w=X.w:=by rw[←hX]
 have xK:X'.K=X.K:=by rw[←hX]
 have xA:X'.A=X.A:=by rw[←hX]
 have xE:X'.env=Sl scope (bM X.env scope.names []) C X.env:=by rw[←hX]
 have xC:X'.calm=G3:=by rw[←hX];exact K7
 have GS:X'.ex=s.heap.objs.size::fp:=by rw[←hX]
 have K2:X'.pn=[]:=by rw[←hX]
 have CY:X'.xe=λ_ _=>False:=by rw[←hX]
 have xL:X'.env.locals=C:=by rw[xE];rfl
 have lt:∀b∈fp,b<s.heap.objs.size:=λb hb=>let ⟨_,e⟩:=ho b hb;Pq e
 have Ge:∀{pl:List (Addr×Obj)}{H':Hp},(∀p∈pl,p.1=s.heap.objs.size)->(∀b∈fp,H' b=HA)->∀b∈fp,cY X' pl H' b:=λ{pl H'} hp hn b hb=>by
  have IS:=I4.ok
  have hm:b∈X'.ex:=by rw[GS];exact Pc _ hb
  refine⟨hn b hb,(IS.exf b hm).1,IS.exfs b hm,.inl hm,(IS.exf b hm).2,λp Zv z=>?_⟩;rw[K2] at Zv;have q1:=hp p (by simpa using Zv);have q2:=lt b hb;rw[←z,q1] at q2;exact Qw _ q2
 have Ih:∀{pl:List (Addr×Obj)}{H':Hp},(∀p∈pl,p.1∈fp)->H' s.heap.objs.size=HA->cY X' pl H' s.heap.objs.size:=λ{pl H'} hp hn=>by
  have IS:=I4.ok
  have hm:s.heap.objs.size∈X'.ex:=by rw[GS];exact Pf
  refine⟨hn,(IS.exf _ hm).1,IS.exfs _ hm,.inl hm,(IS.exf _ hm).2,λp Zv z=>?_⟩;rw[K2] at Zv;have q2:=lt p.1 (hp p (by simpa using Zv));rw[z] at q2;exact Qw _ q2
 refine zgv (I:=λm s'=>∃i EG H' ys YL n,EG.length=xs.length/\Inv X' [] (EG++σ) H' s'/\tn i s'.heap/\(∀b∈fp,H' b=HA)/\H' s.heap.objs.size=HA/\YQ ys YL/\s'.heap.get? s.heap.objs.size=KQ { cls:=.type "list",data:=.seq YL.toArray n }/\W i m ys H') ?_ m0
  ⟨0,Pp xs.length HA,H,[],[],0,by simp,I4,Ia,λb hb=>(hf b hb).1,zw,.nil,zJ,w0⟩
 rintro m s5 ⟨i,EG,H5,ys,YL,n,AA,I5,CM,G7,d5,rv,e5,w5⟩
 have Hl:Inv X' ([]++eU [s.heap.objs.size] s5.heap) (EG++σ) H5 s5:=I5.pinned (λb hb=>by
   have e:b=s.heap.objs.size:=by simpa using hb
   rw[e];exact Ih (λp hp=>absurd hp (by simp)) d5) λb hb=>by
   have e:b=s.heap.objs.size:=by simpa using hb
   rw[e];exact⟨_,e5,λv z=>by cases z⟩
 have pD:([]++eU [s.heap.objs.size] s5.heap:List (Addr×Obj))=[(s.heap.objs.size,{ cls:=.type "list",data:=.seq YL.toArray n })]:=by
  simp[eU,e5]
 rw[pD] at Hl
 have p1:∀p∈[(s.heap.objs.size,({ cls:=.type "list",data:=.seq YL.toArray n }:Obj))],p.1=s.heap.objs.size:=λp hp=>by
  have e:p=(s.heap.objs.size,{ cls:=.type "list",data:=.seq YL.toArray n }):=by simpa using hp
  rw[e]
 have hsz:YL.length=ys.length:=rv.length.symm
 rcases turn i m ys H5 w5 with⟨stop,hz,dn⟩|⟨go,hz,N,hN,step⟩
 .have q:=T.done X' xP xW xK xC i _ s5 (EG++σ) H5 (SQ (PP X.prog X.w) X.A (Sl scope (bM X.env scope.names []) C X.env) λe s'=>R (.error e) s') Hl (Ge p1 G7) CM stop
  rw[xA] at q;refine QC q (λr s6 z=>?_) λ_ _ z=>z;obtain⟨rfl,I6⟩:=z;refine hR s6 H5 (EG++σ) ys YL n ?_ d5 rv (I6.pin _ (PJ _ (Py.mpr rfl))).1 hz dn;exact I6.pins_of λp hp=>absurd hp (by simp)
 .have q:=T.item X' xP xW xK xC i _ s5 (EG++σ) H5 (SQ (PP X.prog X.w) X.A (Sl scope (bM X.env scope.names []) C X.env) λe s'=>R (.error e) s') Hl (Ge p1 G7) CM go
  rw[xA] at q;refine QC q (λr s6 z=>?_) λ_ _ z=>z;obtain⟨u,rfl,z⟩:=z;dsimp only;refine QC z (λ_ s7 z=>?_) λ_ _ z=>z;obtain⟨v,H7,I7,Bd,y7,BX,uU⟩:=z;have Af:=I7.pinned (Ge p1 uU) (T.obj _ _ BX);rw[←xE];have a7:=hgg _ s7 _ H7 v u _ Af Bd (step v H7 y7 EG AA);rw[xP,xW,xA] at a7
  refine QC a7 (λ_ s8 z=>?_) λ_ _ z=>by rw[CY] at z;exact z.elim
  obtain⟨GM,H8,I8,⟨CU,Kp,rfl⟩,q8⟩:=z;have t8:=wV _ s8 (CU++σ) H8 _ (SQ (PP X.prog X.w) X.A X'.env λe s'=>R (.error e) s') I8 q8;rw[xP,xW,xA] at t8;refine QC t8 (λok s9 z=>?_) λ_ _ z=>z;obtain⟨H9,I9,q9⟩:=z
  have back:∀{s':Pe}{H':Hp}{Cc:St},Inv X' ([(s.heap.objs.size,({ cls:=.type "list",data:=.seq YL.toArray n }:Obj))]++eU fp s7.heap) Cc H' s' ->
    tn (i+1) s'.heap/\(∀b∈fp,H' b=HA)/\H' s.heap.objs.size=HA/\s'.heap.get? s.heap.objs.size=KQ { cls:=.type "list",data:=.seq YL.toArray n }/\Inv X' [] Cc H' s':=λ{s' H' Cc} I'=>by
   refine⟨T.keep _ _ _ BX λb hb o e=>(I'.pin (b,o) (PJ _ (PJ _ (jV hb e)))).1,λb hb=>?_,?_,?_,I'.pins_of λp hp=>absurd hp (by simp)⟩
   .obtain⟨o,e,_⟩:=T.obj _ _ BX b hb
    exact(I'.pin (b,o) (PJ _ (PJ _ (jV hb e)))).2.1
   .exact(I'.pin (s.heap.objs.size,_) (PJ _ (P6 _ (Py.mpr rfl)))).2.1
   .exact(I'.pin (s.heap.objs.size,_) (PJ _ (P6 _ (Py.mpr rfl)))).1
  cases ok with
  |false=>
   simp only[QD,if_false] at q9 ⊢;obtain⟨m',hm,w9⟩:=hN _ _ q9;obtain⟨a1,a2,a3,a4,a5⟩:=back I9;exact⟨m',hm,i+1,CU,H9,ys,YL,n,Kp,a5,a1,a2,a3,rv,a4,w9⟩
  |true=>
   simp only[if_true] at q9 ⊢;have t9:=wd _ s9 (CU++σ) H9 _ I9 q9;rw[xP,xW,xA,CY] at t9;refine QC t9 (λu2 Gc z=>?_) λ_ _ z=>z.elim;obtain⟨y,Ef,ym,uJ,u5⟩:=z;obtain⟨m',hm,B5⟩:=hN _ _ u5;obtain⟨a1,a2,a3,a4,a5⟩:=back ym;refine UN ⟨n,a4⟩ (λh' pl sb=>?_) (by rw[Qo];omega);obtain⟨n',e'⟩:=pl;have D0:=Ih (pl:=[]) (λp hp=>absurd hp (by simp)) a3;refine⟨m',hm,i+1,CU,Ef,ys++[y],YL++[u2],n',Kp,a5.turned (t':=Gc.toks) (λb o hb e=>(sb.2 b hb).trans e) D0.1 D0.2.1 D0.2.2.2.1 D0.2.2.2.2.1 D0.2.2.2.2.2,?_,a2,a3,rv.append (.cons uJ .nil),by simpa using e',B5⟩;exact T.keep _ _ _ a1 λb hb o e=>(sb.2 b (PM (lt b hb))).trans e
noncomputable def HS(n:Nat)(g:TG)(wi:TI)(tt:TT)(te:TE):TE:=λσ H Q=>wi σ H λJ H1=>∃W:Nat->Nat->List V->Hp->Prop,(∃m,W 0 m [] H1)/\tP n g σ J tt te W λys H=>∀p,H p=HA->Q (.ref p) (upd H p (.lst ys))
noncomputable def zgx(hc:X.calm=G3)(S:LF X.env.scope X.N xs scope N')(hi:PI X tg iter wi)(hg:∀C s0 H0 ex,PG (dR X xs scope C s0 H0 ex N') tg g)(he:∀C s0 H0 ex,PE (dR X xs scope C s0 H0 ex N') elt te)
  (ht:∀C s0 H0 ex,Fw (dR X xs scope C s0 H0 ex N') ifs tt) (hs:autoParam (∀v,Qh iter X.env v=pure v) u16):PE X (.ListComp elt [⟨tg,iter,ifs,0⟩] scope pos) (HS xs.length g wi tt te):=by
 intro pins s σ H Q I h;rw[eval_ListComp];refine SI (use:=HA) rfl hs (qE (zwl I S)) S.kind S.names (YZ (hi pins s σ H _ I h) λv s1 h1=>YZ h1 λHq s2 h2=>?_);obtain⟨it,fp,tn,J,H2,rfl,I2,T,GL,f2,W,⟨m0,w0⟩,turn⟩:=h2
 have ho:∀b∈fp,∃o,s2.heap.get? b=KQ o:=λb hb=>let ⟨o,e,_⟩:=T.obj _ _ GL b hb;⟨o,e⟩
 refine Qi (Ts S.nocell (by simp) (λh' HV ZX=>?_) S.kind);have I4:=zgt (xs:=xs) (scope:=scope) (tk:=s2.toks+([]:List (Str×O9)).length) I2 S f2 ho HV ZX
 have DB:∀b o,(s2.heap.push { cls:=.type "list",dict:=HA,data:=.seq ([]:List O9).toArray }).get? b=KQ o->h'.get? b=KQ o:=λb o e=>
  (ZX.2 b (PM (Pq e))).trans (Pd _ e)
 have Ia:tn 0 h':=T.keep _ _ _ GL λb _ o e=>DB b o (Pd _ e)
 have loop:=zgw (elt:=elt) (iter:=iter) (ifs:=ifs) (pos:=pos) (R:=compPost (PP X.prog X.w) X.A X.xe HA (EP X pins σ Q) (.ref s2.heap.objs.size) (s2.heap.push { cls:=.type "list",dict:=HA,data:=.seq ([]:List O9).toArray }).objs.size) (σ':=σ)
  hc S f2 ho rfl T I4 Ia (DB _ _ (Pw _ rfl)) (I2.hok.fresh (Pk _)) (hg _ _ _ _) (he _ _ _ _) (ht _ _ _ _) w0 turn λs5 H5 σ5 ys YL n J5 d5 rv e5 hz dn=>by
   obtain⟨m,hn,_⟩:=J5.loc;exact⟨m,hn,λDY sb=>⟨.ref s2.heap.objs.size,_,zgu I2 f2 rfl J5 sb d5 ⟨YL,n,rv,e5⟩ hz,rfl,dn _ d5⟩⟩
 exact S6 loop (T.self X.A 0 _ _ _ Ia loop)
noncomputable def J7n(n:Nat)(g:TG)(i:Nat)(wi:TI)(tt:TT)(te:TE):TS:=λD σ H=>wi σ H λJ H1=>∃W:Nat->Nat->List V->Hp->Prop,(∃m,W 0 m [] H1)/\tP n g σ J tt te W λys H=>∀p,H p=HA->D.nx (σ.set i (KQ (.ref p))) (upd H p (.lst ys))
noncomputable def zegn(hc:X.calm=G3)(S:LF X.env.scope X.N xs scope N')(hN:X.N.Nodup)(D8:X.N[i]? = KQ y)(hy:Loc X.env.scope y)(Ke:X.fn y=G3\/X.env.scope.names.lookup y=KQ .local)
  (hi:PI X tg iter wi) (hg:∀C s0 H0 ex,PG (dR X xs scope C s0 H0 ex N') tg g) (he:∀C s0 H0 ex,PE (dR X xs scope C s0 H0 ex N') elt te)
  (ht:∀C s0 H0 ex,Fw (dR X xs scope C s0 H0 ex N') ifs tt) (Ht:QF (.ListComp elt [⟨tg,iter,ifs,0⟩] scope pos) (KQ (.Name y py)) CW.line X.env=pure G3) (hs:autoParam (∀v,Qh iter X.env v=pure v) u16) :
  PS X (.Assign [.Name y py] (.ListComp elt [⟨tg,iter,ifs,0⟩] scope pos) CW) (J7n xs.length g i wi tt te):=by
 intro pins s σ H D I h;rw[exec_Assign_Name_used _ _ _ _ Ht];refine Pb (V8 (Pb ?_));refine Pb (QC (SI (use:=KQ (We (.Name y py) X.env)) (Q:=λ_ s'=>SP X pins D .next s') rfl hs (qE (zwl I S)) S.kind S.names (YZ (hi pins s σ H _ I h) λv s1 h1=>YZ h1 λHq s2 h2=>?_)) (λ_ _ q=>Pl (Pl q)) λ_ _ q=>q);obtain⟨it,fp,tn,J,H2,rfl,I2,T,GL,f2,W,⟨m0,w0⟩,turn⟩:=h2
 have ho:∀b∈fp,∃o,s2.heap.get? b=KQ o:=λb hb=>let ⟨o,e,_⟩:=T.obj _ _ GL b hb;⟨o,e⟩
 refine Qi (Ts S.nocell (by simp) (λh' HV ZX=>?_) S.kind);have I4:=zgt (xs:=xs) (scope:=scope) (tk:=s2.toks+([]:List (Str×O9)).length) I2 S f2 ho HV ZX
 have DB:∀b o,(s2.heap.push { cls:=.type "list",dict:=HA,data:=.seq ([]:List O9).toArray }).get? b=KQ o->h'.get? b=KQ o:=λb o e=>
  (ZX.2 b (PM (Pq e))).trans (Pd _ e)
 have Ia:tn 0 h':=T.keep _ _ _ GL λb _ o e=>DB b o (Pd _ e)
 have wL:s2.heap.objs.size<=(s2.heap.push { cls:=.type "list",dict:=HA,data:=.seq ([]:List O9).toArray }).objs.size:=by simp
 have Gx:(s2.heap.push { cls:=.type "list",dict:=HA,data:=.seq ([]:List O9).toArray }).objs.size≠s2.heap.objs.size:=by rw[Q5];lia
 have loop:=zgw (elt:=elt) (iter:=iter) (ifs:=ifs) (pos:=pos) (R:=compPost (PP X.prog X.w) X.A X.xe (KQ (We (.Name y py) X.env)) (λ_ s'=>SP X pins D .next s') (.ref s2.heap.objs.size) (s2.heap.push { cls:=.type "list",dict:=HA,data:=.seq ([]:List O9).toArray }).objs.size) (σ':=σ)
  hc S f2 ho rfl T I4 Ia (DB _ _ (Pw _ rfl)) (I2.hok.fresh (Pk _)) (hg _ _ _ _) (he _ _ _ _) (ht _ _ _ _) w0 turn λs5 H5 σ5 ys YL n J5 d5 rv e5 hz dn=>by
   have J6:=zgu I2 f2 rfl J5 (WA _ _) d5 ⟨YL,n,rv,e5⟩ hz;obtain⟨m,hn,_⟩:=J5.loc;refine Ut (zro (u:=.ref s2.heap.objs.size) J6 hN D8 hy (show RelV (.ref s2.heap.objs.size) _ from rfl) (λs7 I7 ⟨a,sb,ha⟩=>?_) Ke)
   have hCa:(s2.heap.push { cls:=.type "list",dict:=HA,data:=.seq ([]:List O9).toArray }).objs.size≠a:=by
    rcases ha with z|z
    .rw[z]
     exact TU (PQ I2.lt wL)
    .obtain⟨v,q⟩:=I2.cell _ _ z
     exact TU (PQ q.lt wL)
   have hn5:H5 (s2.heap.push { cls:=.type "list",dict:=HA,data:=.seq ([]:List O9).toArray }).objs.size=HA:=J5.free;have fk:=I2.fpOk (b:=(s2.heap.push { cls:=.type "list",dict:=HA,data:=.seq ([]:List O9).toArray }).objs.size) (H':=upd H5 s2.heap.objs.size (.lst ys)) wL (by rw[aA Gx];exact hn5);refine⟨m,hn.sameBut sb hCa,λDY sb2=>⟨_,_,I7.turned (t':=s7.toks) (λb o hb e=>(sb2.2 b hb).trans e) fk.1 fk.2.1 fk.2.2.2.1 fk.2.2.2.2.1 fk.2.2.2.2.2,dn _ d5⟩⟩
 exact S6 loop (T.self X.A 0 _ _ _ Ia loop)
end
abbrev CS(osc:Rk)(N:List Str)(x:Str)(scope:Rk)(N':List Str):Prop:=LF osc N [x] scope N'
abbrev cj(X:Cx)(x:Str)(scope:Rk)(C:Addr)(s0:Pe)(H0:Hp)(ex:List Addr)(N':List Str):Cx:=dR X [x] scope C s0 H0 ex N'
def pU(σ:St)(J:It)(tt:TT)(te:TE)(W:Nat->Nat->List V->Hp->Prop)(D:List V->Hp->Prop):Prop:=∀i m ys H,W i m ys H ->
 (J.stop i H/\ys.length<=Ph/\D ys H)\/(J.go i H/\ys.length<Ph/\∃N:List V->Hp->Prop,(∀JA H',N JA H'->∃m',m' < m/\W (i+1) m' JA H')/\∀v H',J.yld i H v H'->tt (KQ v::σ) H' λb H2=>
  if b=G3 then te (KQ v::σ) H2 λy H3=>N (ys++[y]) H3 else N ys H2)
theorem pUn{σ:St}{J:It}{tt:TT}{te:TE}{W:Nat->Nat->List V->Hp->Prop}{D:List V->Hp->Prop}(h:pU σ J tt te W D):tP 1 (pL 0) σ J tt te W D:=λi m ys H w=>
 (h i m ys H w).imp_right λ⟨g,l,N,n,q⟩=>⟨g,l,N,n,λv H' y EG e=>match EG,e with |[_],_=>⟨⟨[_],rfl,rfl⟩,q v H' y⟩⟩
section
variable {X:Cx}{x:Str}{scope:Rk}{N':List Str}{elt iter:Expr}{ifs:List Expr}{px pos:Pos}{wi:TI}{te:TE}{tt:TT}
abbrev Au(wi:TI)(tt:TT)(te:TE):TE:=HS 1 (pL 0) wi tt te
abbrev J7(i:Nat)(wi:TI)(tt:TT)(te:TE):TS:=J7n 1 (pL 0) i wi tt te
theorem pgo{C:Addr}{s0:Pe}{H0:Hp}{ex:List Addr}(S:CS X.env.scope X.N x scope N'):PG (cj X x scope C s0 H0 ex N') (.Name x px) (pL 0):=
 have l:=Tq (S.hx x Pf);ei S.nd rfl (.inl l) (.inr l)
noncomputable def zef(hc:X.calm=G3)(S:CS X.env.scope X.N x scope N')(hi:PI X (.Name x px) iter wi)(he:∀C s0 H0 ex,PE (cj X x scope C s0 H0 ex N') elt te)
  (ht:∀C s0 H0 ex,Fw (cj X x scope C s0 H0 ex N') ifs tt) (hs:autoParam (∀v,Qh iter X.env v=pure v) u16):PE X (.ListComp elt [⟨.Name x px,iter,ifs,0⟩] scope pos) (Au wi tt te):=zgx hc S hi (λ_ _ _ _=>pgo S) he ht hs
noncomputable def zeg(hc:X.calm=G3)(S:CS X.env.scope X.N x scope N')(hN:X.N.Nodup)(D8:X.N[i]? = KQ y)(hy:Loc X.env.scope y)(Ke:X.fn y=G3\/X.env.scope.names.lookup y=KQ .local)
  (hi:PI X (.Name x px) iter wi) (he:∀C s0 H0 ex,PE (cj X x scope C s0 H0 ex N') elt te)
  (ht:∀C s0 H0 ex,Fw (cj X x scope C s0 H0 ex N') ifs tt) (Ht:QF (.ListComp elt [⟨.Name x px,iter,ifs,0⟩] scope pos) (KQ (.Name y py)) CW.line X.env=pure G3) (hs:autoParam (∀v,Qh iter X.env v=pure v) u16) :
  PS X (.Assign [.Name y py] (.ListComp elt [⟨.Name x px,iter,ifs,0⟩] scope pos) CW) (J7 i wi tt te):=zegn hc S hN D8 hy Ke hi (λ_ _ _ _=>pgo S) he ht Ht hs
end
noncomputable def DZ(z:Str):It:=⟨λi _=>i<z.cps.size,λi H v H'=>H'=H/\∃c,z.cps[i]? = KQ c/\v=.str ⟨#[c]⟩,λi _=>z.cps.size<=i⟩
noncomputable def ztn{P:Pu}{w:PU}{K:Frag}{tg:Expr}(z:Str)(t:Tok)(ty:String)(it:Addr)(Eo:ty="str_ascii_iterator"\/ty="str_iterator") :
  Turn P w K tg (DZ z) [it] it (λi h=>h.IsStrIter it ty z t i) where
 mem:=by simp
 obj:=λi h st b hb=>by
  have e:b=it:=by simpa using hb
  subst e;obtain⟨o,e,c,d⟩:=st;exact⟨o,e,λv q=>by lia⟩
 keep:=λi h h' st k=>let ⟨o,e,r⟩:=st;⟨o,k it (by simp) o e,r⟩
 item:=by
  intro X hP hw hK hc i pins s σ H E I hf st hg;subst hP hw hK;have hi:i<z.cps.size:=hg;obtain⟨f0,f1,f2,f3,f4,f5⟩:=hf it (by simp)
  have fin:∀h',h'.IsStrIter it ty z t (i+1)->Q2 it s.heap h'->∃u,(KQ (Ua ⟨#[z.cps[i]]⟩ s.toks):Option O9)=KQ u /\
    PK (PP X.prog X.w) X.A (Tv tg (.ref it) u) (λ_ s2=>∃x H',Inv X pins σ H' s2/\RelV x u/\(DZ z).yld i H x H'/\s2.heap.IsStrIter it ty z t (i+1)/\∀b∈[it],H' b=HA) E { s with heap:=h',toks:=s.toks+1 }:=λh' Gu sb=>by
   have I1:Inv X pins σ H { s with heap:=h',toks:=s.toks+1 }:=I.turned (λb o hb e=>(sb.2 b hb).trans e) f0 f1 f3 f4 f5;obtain⟨o,e,c,d⟩:=id Gu;refine⟨_,rfl,mW (s:={ s with heap:=h',toks:=s.toks+1 }) (n:=ty) e c d ?_ ⟨.str ⟨#[z.cps[i]]⟩,H,I1,⟨_,rfl⟩,⟨rfl,z.cps[i],by simp[hi],rfl⟩,Gu,λb hb=>(hf b hb).1⟩⟩
   rcases Eo with e|e <;> (rw[e];decide)
  rcases Eo with e|e
  .subst e
   exact wpAny_pyNext_ascii_item st (c:=z.cps[i]) (by simp[hi]) fin
  .subst e
   exact wpAny_pyNext_wide_item st (c:=z.cps[i]) (by simp[hi]) fin
 done:=by
  intro X hP hw hK hc i pins s σ H E I hf st hg;subst hP hw hK;have hi:z.cps.size<=i:=hg;obtain⟨f0,f1,f2,f3,f4,f5⟩:=hf it (by simp);have fin:∀h',Uz it s.heap h'->(HA:Option O9)=HA/\Inv X pins σ H { s with heap:=h' }:=λh' eb=>⟨rfl,I.turned (t':=s.toks) (λb o hb e=>eb b o hb e) f0 f1 f3 f4 f5⟩
  rcases Eo with e|e
  .subst e
   exact wpAny_pyNext_ascii_end (I.ok.hd hc) st (by simp;omega) fin
  .subst e
   exact wpAny_pyNext_wide_end (I.ok.hd hc) st (by simp;omega) fin
 self:=λ_ _ _ _ _ st h=>by
  rcases Eo with e|e
  .subst e
   exact wpAny_pyIter_striter_ascii st h
  .subst e
   exact wpAny_pyIter_striter_wide st h
noncomputable def all_range(bs:List Bool)(n:Nat)(hn:n=bs.length):(RT n).all (λi=>bs.getD i Gy)=bs.all id:=by
 subst hn;rw[Rb,Po,Po];constructor
 .intro h b hb
  obtain⟨i,hi,rfl⟩:=TQ hb<;>simp_all
 .intro h i hi
  have D8:=VF.mp hi
  have:=h bs[i] (List.getElem_mem D8)<;>simp_all
theorem zto:∀(ns:List Int) (k:Nat),k<=ns.length->preSum (λi=>ns.getD i 0) k=(ns.take k).sum
 |ns,0,_=>rfl
 |ns,k+1,h=>by
  have hk:k<ns.length:=h;have ih:=zto ns k (UX hk)
  have e:(ns.take (k+1)).sum=(ns.take k).sum+ns.getD k 0:=by
   rw[RR,List.sum_append]<;>simp_all
  rw[e,←ih];rfl
section
variable {X:Cx}
noncomputable def zeh(hc:X.calm=G3):Zf X (.builtin "all") (λxs H Q=>∃(p:Addr) (bs:List Bool),xs=[.ref p]/\Zc X.K H p (bs.map V.bl)/\Q (.bl (bs.all id)) H):=by
 intro pins s σ H xs us Q I r h;obtain⟨p,bs,rfl,hq,q⟩:=h;obtain⟨u,rfl,ru⟩:=vals1 r;cases ru;obtain⟨YL,rv,pl,hz⟩:=I.list hq
 have Y3:=by have:=rv.length;simpa using this.symm
 have ZM:p<s.heap.objs.size:=by
  obtain⟨o,n,e,_⟩:=pl;exact Pq e
 refine call_all_walk (Sq pl.isList ?_);refine⟨s.heap.objs.size,_,_,_,_,_,λi=>bs.getD i Gy,rfl,YF (A:=X.A.in1) (I.ok.hd hc) _ p (PM ZM) YL.toArray,⟨⟨_,Pw _ rfl,rfl,rfl⟩,?_⟩,λi v s' Q' E' hv hQ'=>?_,λh' tk hk=>?_⟩
 .obtain⟨o,n,e,r⟩:=pl.isList
  exact⟨o,Pd _ n,e,r⟩
 .have hi:=by
   have:=(Ug.mp hv).1;simpa using this
  have hi2:i<bs.length:=by lia
  obtain⟨u,hu,ru⟩:=rv.get (i:=i) (x:=.bl bs[i]) (by simp[hi2])
  have e:v=u:=by simp_all
  subst e;cases (ru)
  refine Qx ?_<;>simp_all
 .have e:(RT YL.toArray.size).all _=bs.all id:=all_range bs _ (by omega)
  rw[e];exact⟨.bl _,H,I.kept  λb o q=>hk b o (by simp;exact PM (Pq q)) (Pd _ q),rfl,q⟩
noncomputable def zei{ns:List Int}{YL:List O9}(rv:YQ (ns.map V.int) YL){i:Nat}{v:O9}(hv:YL.toArray[i]? = KQ v):∃t,v=.int (ns.getD i 0) t:=by
 have Y3:=by have:=rv.length;simpa using this.symm
 have hi:=by
  have:=(Ug.mp hv).1<;>omega
 have hi2:=by omega
 obtain⟨u,hu,ru⟩:=rv.get (i:=i) (x:=.int ns[i]) (by simp )
 have e:v=u:=by simp_all
 obtain⟨t,e⟩:=(ru)<;>simp_all
noncomputable def zej(hc:X.calm=G3):Zf X (.builtin "sum") (λxs H Q=>∃(p:Addr) (ns:List Int),xs=[.ref p]/\Zc X.K H p (ns.map V.int)/\Q (.int ns.sum) H):=by
 intro pins s σ H xs us Q I r h;obtain⟨p,ns,rfl,hq,q⟩:=h;obtain⟨u,rfl,ru⟩:=vals1 r;cases ru;obtain⟨YL,rv,pl,hz⟩:=I.list hq
 have Y3:=by have:=rv.length;simpa using this.symm
 have ZM:p<s.heap.objs.size:=by
  obtain⟨o,n,e,_⟩:=pl;exact Pq e
 refine call_sum_walkG (Sq pl.isList ?_);refine⟨s.heap.objs.size,_,_,_,_,_,λi=>ns.getD i 0,rfl,YF (A:=X.A.in1) (I.ok.hd hc) _ p (PM ZM) _,⟨⟨_,Pw _ rfl,rfl,rfl⟩,?_⟩,λb hb=>?_,λi v hv=>zei rv hv,λh' tk t' hk=>?_⟩
 .obtain⟨o,n,e,r⟩:=pl.isList
  exact⟨o,Pd _ n,e,r⟩
 .rw[Q5]
  rcases(by simpa using hb) with e|e
  simp_all
  .rw[e];exact RQ ZM
 .have e:preSum (λi=>ns.getD i 0) YL.toArray.size=ns.sum:=by
   rw[zto ns _ _]<;>simp_all
  rw[e];exact⟨.int _,H,I.kept  λb o q=>hk b o (by simp;exact PM (Pq q)) (Pd _ q),⟨t',rfl⟩,q⟩
noncomputable def zek:Zx X (PX .IsNot) (λx y H Q=>∃b c,x=.bl b/\y=.bl c/\Q (.bl (b != c)) H):=by
 intro pins s σ H x y v u Q I rx ry h;obtain⟨b,c,rfl,rfl,q⟩:=h;cases rx;cases ry;exact isnot_bool ⟨.bl _,H,I,rfl,q⟩
noncomputable def zvw:Zx X (QL .Add) (λx y H Q=>∃a b xs ys,x=.ref a/\y=.ref b/\ZJ X.K H a xs/\ZJ X.K H b ys/\xs.length+ys.length<=Ph /\
  (xs=[]->Q (.ref b) H)/\(xs≠[]->ys=[]->Q (.ref a) H)/\(xs≠[]->ys≠[]->∀p,H p=HA->Q (.ref p) (upd H p (.tup (xs++ys))))):=by
 intro pins s σ H x y v u Q I rx ry h;obtain⟨a,b,xs,ys,rfl,rfl,ha,hb,hz,q0,q1,q2⟩:=h
 by_cases hx:xs=[]
 .cases rx
  cases ry;obtain⟨YL,r1,p1,_⟩:=I.tuple ha;obtain⟨Km,r2,p2,_⟩:=I.tuple hb;have hv:=r1.nil_iff.mpr hx;obtain⟨⟨cls,dd,data,sl⟩,ho,hc,n,hd⟩:=id p1;obtain⟨⟨GV,KJ,data2,EM⟩,G0,YY,n2,hd2⟩:=id p2;subst hc hd YY hd2
  exact U2 ⟨_,ho,rfl⟩ ⟨_,G0,rfl⟩ UJ V5 S5 SW (SH _ _)
   (tuple_addW0 a b _ _ n n2 dd KJ sl EM (by simp[hv])) ⟨ho,G0,⟨.ref b,H,I,rfl,q0 hx⟩⟩
 .exact zcw pins s σ H _ _ v u Q I rx ry ⟨a,b,xs,ys,rfl,rfl,ha,hb,hx,hz,q1 hx,q2 hx⟩
noncomputable def zel:Fy X (λx lo hi H Q=>∃z:Str,x=.str z/\z.length<=Ph/\Q (.str (Rt z lo hi)) H):=by
 intro pins s σ H x v vl vu lo hi sl Q I rx hs pl pu h;obtain⟨z,rfl,hz,q⟩:=h;obtain⟨t,rfl⟩:=rx
 have fin:∀l u:Option (Int×Tok),l.map (·.1)=lo->u.map (·.1)=hi->s.heap.IsSlice sl l u HA->PK (PP X.prog X.w) X.A (Tn (.str z t) (.ref sl)) (EP X pins σ Q) X.xe s:=λl u el eu h=>by
  refine wpAny_getItem_str_slice h rfl ?_;refine post_val_or_made (λ_=>?_) λt' k=>?_
  .have:=sliceIndices_le (l.map (·.1)) (u.map (·.1)) z.length
   have e:=List.length_filterMap_le (λi=>z.cps[i]?) (W9 z l u HA);show ((W9 z l u HA).filterMap (z.cps[·]?)).toArray.size<=Ph;rw[Qo];unfold W9 at e ⊢;simp only[Option.map_none,UK] at e ⊢
   lia
  .refine⟨.str (Rt z lo hi),H,I.tok _,⟨t',?_⟩,q⟩
   rw[←el,←eu];rfl
 refine⟨"str",_,PySem.F.slot_str_getitem.lookup,Tg s z t,?_⟩
 cases pl with
 |none=>
  cases pu with
  |none=>exact fin HA HA rfl rfl hs
  |int j u=>exact fin HA (KQ (j,u)) rfl rfl hs
 |int i u=>
  cases pu with
  |none=>exact fin (KQ (i,u)) HA rfl rfl hs
  |int j u'=>exact fin (KQ (i,u)) (KQ (j,u')) rfl rfl hs
noncomputable def zvx:Zx X (QL .Mult) (λx y H Q=>∃z k,x=.str z/\y=.int k/\0<=k/\k<=2000/\z.length<=1000/\Q (.str (YJ z k)) H):=by
 intro pins s σ H x y v u Q I rx ry h;obtain⟨z,k,rfl,rfl,h1,h2,h3,q⟩:=h;obtain⟨t,rfl⟩:=rx;obtain⟨t',rfl⟩:=ry;have hm:z.length*k.toNat<=1000*2000:=Uh h3 (by lia);refine SB.mul ⟨?_,λg1 g2=>?_,λg1 g2=>?_⟩ λt' k'=>⟨.str _,H,I.tok _,⟨t',rfl⟩,q⟩
 .lia
 .have hk:1<=k:=by simp at g1;lia
  have e1:(1000:Int)<=(2^63-1) / k:=by
   rw[Int.le_ediv_iff_mul_le (by lia)]
   lia
  lia
 .unfold Builtin.Str.tooLong
  simp[Ph]
  lia
end
noncomputable def ztp:∀{us:List O9},YQ (ys.map V.str) us->StrsAre us ys:=by
 induction ys with
 |nil=>intro us r;cases r;exact .nil
 |cons y ys ih=>
  intro us r
  cases r with
  |cons r1 r2=>
   obtain⟨t,e⟩:=r1;subst e;exact .cons y t (ih r2)
theorem qz{z:Str}(hz:z.cps.toList=[]):∀ys:List Str,(PF z ys).cps.toList=(ys.map (·.cps.toList)).flatten
 |[]=>rfl
 |[x]=>by simp[PF]
 |x::y::r=>by
  have ih:=qz hz (y::r);show ((x++z)++PF z (y::r)).cps.toList=_;rw[S7,S7,hz,ih];simp
structure Fn(P:Pu)(w:PU)(K:Frag)(mg:Str->Option O9)(base:Heap)(name:Str)(ps:List Str)(k:Nat)(sp:Sp):Prop where
 ex:∃f fd,Zr P w K mg base Z7 k f fd ps sp/\Binds K fd ps []/\QT K (.ref f)=G3/\mg name=KQ (.ref f)
section
variable {X:Cx}{name:Str}{ps:List Str}{k:Nat}{sp:Sp}{e:Expr}{es:List Expr}{t:TA}{p pos:Pos}
noncomputable def gm(F:Fn X.prog X.w X.K X.mg X.base name ps k sp)(hr:YW k X.A)(hg:Gl X name)(ha:PA X (e::es) t)(ZG:autoParam ((name == ("__debug__" : Str))=Gy) u11)
  (he:autoParam (Pi (e::es) X.env=(Gy,eval e X.env)::Pi es X.env) u10) (Zv:autoParam ((Qj pos (Pi es X.env)).any (·.1)=Gy) u10):PE X (.Call (.Name name p) (e::es) [] pos) (Av sp [] E0 t):=by
 obtain⟨f,fd,h1,h2,h3,h4⟩:=F.ex;exact zci h1 hr hg h4 h3 h2 .nil cw ha ZG he Zv
end
noncomputable def zem(S:CS osc N x scope N')(hi:PI X (.Name x px) iter wi)
  (he:∀C s0 H0 ex,PE (cj X x scope C s0 H0 ex N') elt te) (ht:∀C s0 H0 ex,Fw (cj X x scope C s0 H0 ex N') ifs tt) (hc:autoParam (X.calm=G3) u10) (hs:autoParam (X.env.scope=osc) u10) (hN:autoParam (X.N=N) u10)
  (hf:autoParam (∀v,Qh iter X.env v=pure v) u16):PE X (.ListComp elt [⟨.Name x px,iter,ifs,0⟩] scope pos) (Au wi tt te):=by
 subst hs hN;exact zef hc S hi he ht hf
end L2
namespace D
open L2
inductive Gh(P:Hp->Prop):Hp->Prop where
 |done {H:Hp}:P H->Gh P H
 |frz {H:Hp}{a:Addr}{kvs:List (Key×V)}:H a=KQ (.dK kvs)->(∀o,Gh P (upd H a (.frz o (.dK kvs))))->Gh P H
def Gh.imp(g:Gh P H)(i:∀H,P H->P' H):Gh P' H:=by
 induction g with
 |done h=>exact .done (i _ h)
 |frz e _ ih=>exact .frz e ih
section
variable {X:Cx}{pins:List (Addr×Obj)}{σ:L2.St}{H:Hp}{s:Pe}
noncomputable def zen(I:Inv X pins σ H s)(e:H a=KQ (.dK kvs)):∃o,Inv X pins σ (upd H a (.frz o (.dK kvs))) s:=by
 obtain⟨z,y,vs,kv,o,es,ep,eo,r⟩:=I.hok a _ e
 have U:∀{b:Addr}{u:HO},H b=KQ u->(∀ks,u≠.dK ks)->upd H a (.frz o (.dK kvs)) b=KQ u:=λ{b u} q n=>by
  rw[aA (λz=>by subst z<;>grind)];exact q
 have hok:ZQ _ X.w (upd H a (.frz o _)) _:=λb u q=>by
  by_cases hb:b=a
  .subst hb
   rw[aQ] at q;cases q;exact⟨eo,(I.hok b _ e).stay (λ_ _ _ q=>q) (λc q=>U q (λ_ z=>nomatch z)) λc xs q=>U q (λ_ z=>nomatch z)⟩
  .rw[aA hb] at q
   exact(I.hok b u q).stay (λ_ _ _ q=>q) (λc q=>U q (λ_ z=>nomatch z)) λc xs q=>U q (λ_ z=>nomatch z)
 exact⟨o,I.un   ⟨λb ob q n _ _=>q,λb ob q n _ _=>⟨_,q⟩,λb ob q n _=>by rw[aA (λz=>by simp_all)];exact n,λb ob q _=>⟨_,q⟩,λb xs q=>U q (λ_ z=>nomatch z),
  λb ob u q=>U q (λ_ z=>nomatch z),λb ps q=>⟨#[],by simp_all⟩⟩ hok⟩
def Gh.ok(g:Gh P H)(I:Inv X pins σ H s):∃H',Inv X pins σ H' s/\P H':=by
 induction g with
 |done h=>exact⟨_,I,h⟩
 |frz e _ ih=>
  obtain⟨o,I'⟩:=zen I e;exact ih o I'
noncomputable def zeo{st:Stmt}{t:TS}(h:PS X st t):PS X st (λD σ H=>Gh (t D σ) H):=λpins s σ H D I q=>by
 obtain⟨H',I',q'⟩:=q.ok I;exact h pins s σ H' D I' q'
end
noncomputable def lj(o:Obj):Nat:=match o.data with
 |.dict _ ep=>ep
 |_=>0
noncomputable def yt(a:Addr)(o:Obj)(kvs:List (Key×V)):It:=⟨λi H=>H a=KQ (.frz o (.dK kvs))/\i<kvs.length,λi H x H'=>H'=H/\∃k v,kvs[i]? = KQ (k,v)/\x=kV k,λi H=>H a=KQ (.frz o (.dK kvs))/\i=kvs.length⟩
noncomputable def qX(ok:ZQ P w H h)(e:H a=KQ (.frz o (.dK kvs))):kvs.length<=Ph/\(a == QB)=Gy/\∃vs,KV kvs vs/\h.DictAt (cJ P w) a vs (lj o):=by
 obtain⟨e1,z,y,vs,kv,o',es,ep,e2,ed,dd,r⟩:=ok a _ e;rw[e1] at e2;cases e2;refine⟨z,y,vs,kv,o,es,e1,ed,?_,r⟩;unfold lj;rw[dd]
def zvy(e:(cJ P w).is k v=G3):RelV (kV k) v:=by
 rcases ff (e) with⟨i,t,rfl,rfl⟩|⟨x,t,rfl,rfl⟩
 .exact⟨t,rfl⟩
 .exact⟨t,rfl⟩
noncomputable def zep{kvs:List (Key×V)}{vs:List (Key×O9)}(r:KV kvs vs){i:Nat}{k:Key}{x:O9}(e:vs[i]? = KQ (k,x)):∃v,kvs[i]? = KQ (k,v):=by
 have h:=r.keys
 have h1:(vs.map (·.1))[i]? = KQ k:=by simp_all
 rw[←h,P5] at h1<;>simp_all
noncomputable def zeq{P:Pu}{w:PU}{K:Frag}{tg:Expr}(a it:Addr)(o:Obj)(kvs:List (Key×V)):Turn P w K tg (yt a o kvs) [it] it (λi h=>h.IsKeyIter it a i kvs.length (lj o)) where
 mem:=by simp
 obj:=λi h st b hb=>by
  have e:b=it:=by simpa using hb
  subst e;obtain⟨o,e,c,d⟩:=st;exact⟨o,e,λv z=>by simp_all⟩
 keep:=λi h h' st k=>st.at λo e=>k it (by simp) o e
 item:=by
  intro X hP hw hK hc i pins s σ H E I hf st hg;subst hP hw hK;obtain⟨K4,xy⟩:=hg;obtain⟨z,y,vs,kv,dd⟩:=qX I.hok K4;obtain⟨f0,f1,f2,f3,f4,f5⟩:=hf it (by simp);have hl:=kv.length
  have ne:a≠it:=λq=>by simp_all
  have W:=Xt (prog:=X.prog) (w:=X.w) (knd:=cJ X.prog X.w) (I.ok.hd hc) it a ne vs (lj o);refine W.item i s _ _ (by omega) ⟨by rw[←hl];exact st,dd⟩ λv h' tk hv Gu kk=>?_;obtain⟨k,x,h1,h2⟩:=hv;have I1:Inv X pins σ H { s with heap:=h',toks:=tk }:=I.turned (λb o hb e=>kk b o (by simpa using hb) e) f0 f1 f3 f4 f5
  have st1:h'.IsKeyIter it a (i+1) kvs.length (lj o):=by rw[hl];exact Gu.1
  obtain⟨o1,e1,c1,d1⟩:=id st1;obtain⟨v0,h3⟩:=zep kv h1;exact⟨v,rfl,mW (s:={ s with heap:=h',toks:=tk }) e1 c1 d1 (by decide) ⟨kV k,H,I1,zvy h2,⟨rfl,k,v0,h3,rfl⟩,st1,λb hb=>(hf b hb).1⟩⟩
 done:=by
  intro X hP hw hK hc i pins s σ H E I hf st hg;subst hP hw hK;obtain⟨K4,xy⟩:=hg;obtain⟨z,y,vs,kv,dd⟩:=qX I.hok K4;obtain⟨f0,f1,f2,f3,f4,f5⟩:=hf it (by simp);have hl:=kv.length
  have ne:a≠it:=λq=>by rw[q,f0] at K4;cases K4
  have W:=Xt (prog:=X.prog) (w:=X.w) (knd:=cJ X.prog X.w) (I.ok.hd hc) it a ne vs (lj o);refine W.done s _ _ ⟨by rw[←hl,←xy];rw[←xy] at st;exact st,dd⟩ λh' tk kk=>⟨rfl,I.turned (λb o hb e=>kk b o (by simpa using hb) e) f0 f1 f3 f4 f5⟩
 self:=λ_ _ _ _ _ st h=>VJ st h
inductive W where
 |d (x:OY)|tp (i:Nat)|loc (x:OY)
abbrev Tp:=List (List OY)
abbrev YR:=List (Option W)
noncomputable def YS{α β:Type}(o:Option (α×Tp))(k:α->Tp->Option β):Option β:=match o with
 |some (a,T)=>k a T
 |none=>HA
noncomputable def aG{α β:Type}{o:Option (α×Tp)}{k:α->Tp->Option β}{b:β}(h:YS o k=KQ b):∃a T,o=KQ (a,T)/\k a T=KQ b:=by
 cases o with
 |none=>cases h
 |some p=>exact⟨p.1,p.2,rfl,h⟩
theorem zer{α β:Type}{a:α}{T:Tp}{k:α->Tp->Option β}:YS (KQ (a,T)) k=k a T:=rfl
noncomputable def Zn:Key->OY
 |.inl i=>.int i
 |.inr x=>.str x
def TupAt(K:Frag)(O:Addr->Prop)(H:Hp)(a:Addr)(vs:List V):Prop:=(¬O a/\Rd H a (.tup vs))\/ZJ K (λ_=>HA) a vs
def LstAt(K:Frag)(O:Addr->Prop)(H:Hp)(a:Addr)(vs:List V):Prop:=(¬O a/\Rd H a (.lst vs))\/Zc K (λ_=>HA) a vs
noncomputable def zes{K:Frag}{H:Hp}{a:Addr}{vs:List V}(h:ZJ K (λ_=>HA) a vs):ZJ K H a vs:=by
 rcases h with(h|⟨o,h⟩)|h
 .cases h
 .cases h
 .exact .inr h
noncomputable def zet{K:Frag}{H:Hp}{a:Addr}{vs:List V}(h:Zc K (λ_=>HA) a vs):Zc K H a vs:=by
 rcases h with(h|⟨o,h⟩)|h
 .cases h
 .cases h
 .exact .inr h
def TupAt.sq{K:Frag}{O:Addr->Prop}{H:Hp}{a:Addr}{vs:List V}(h:TupAt K O H a vs):ZJ K H a vs:=by
 rcases h with h|h
 .exact .inl h.2
 .exact zes h
def LstAt.sq{K:Frag}{O:Addr->Prop}{H:Hp}{a:Addr}{vs:List V}(h:LstAt K O H a vs):Zc K H a vs:=by
 rcases h with h|h
 .exact .inl h.2
 .exact zet h
mutual
inductive Rep(K:Frag)(O:Addr->Prop)(H:Hp):V->OY->Prop where
 |non:Rep K O H .non .none
 |bl (b:Bool):Rep K O H (.bl b) (.bool b)
 |int (i:Int):Rep K O H (.int i) (.int i)
 |str (x:Str):Rep K O H (.str x) (.str x)
 |tup {a:Addr}{vs:List V}{ds:List OY}:TupAt K O H a vs->YK K O H vs ds->Rep K O H (.ref a) (.tuple ds)
 |lst {a:Addr}{vs:List V}{ds:List OY}:LstAt K O H a vs->YK K O H vs ds->Rep K O H (.ref a) (.list ds)
 |dct {a:Addr}{o:Obj}{kvs:List (Key×V)}{ds:List (OY×OY)}:¬O a->H a=KQ (.frz o (.dK kvs))->Zh K O H kvs ds->Rep K O H (.ref a) (.dict ds)
inductive YK(K:Frag)(O:Addr->Prop)(H:Hp):List V->List OY->Prop where
 |nil:YK K O H [] []
 |cons {v:V}{d:OY}{vs:List V}{ds:List OY}:Rep K O H v d->YK K O H vs ds->YK K O H (v::vs) (d::ds)
inductive Zh(K:Frag)(O:Addr->Prop)(H:Hp):List (Key×V)->List (OY×OY)->Prop where
 |nil:Zh K O H [] []
 |cons {k:Key}{v:V}{d:OY}{kvs:List (Key×V)}{ds:List (OY×OY)}:Rep K O H v d->Zh K O H kvs ds->Zh K O H ((k,v)::kvs) ((Zn k,d)::ds)
end
def Le(O:Addr->Prop)(H:Hp)(O':Addr->Prop)(H':Hp):Prop:=∀a o,¬O a->H a=KQ o->¬O' a/\H' a=KQ o
def Le.trans(h:Le O H O1 H1)(g:Le O1 H1 O2 H2):Le O H O2 H2:=λa o n e=>let ⟨n1,e1⟩:=h a o n e;g a o n1 e1
noncomputable def tq:HO->Bool
 |.tup _=>G3
 |.lst _=>G3
 |.frz _ _=>G3
 |_=>Gy
def ZD(O:Addr->Prop)(H:Hp)(O':Addr->Prop)(H':Hp):Prop:=∀a o,¬O a->tq o=G3->H a=KQ o->¬O' a/\H' a=KQ o
noncomputable def m9(h:Le O H O' H'):ZD O H O' H':=λa o n _ e=>h a o n e
def TupAt.monoP{K:Frag}{O O':Addr->Prop}{H H':Hp}(h:ZD O H O' H'){a:Addr}{vs:List V}(t:TupAt K O H a vs):TupAt K O' H' a vs:=by
 rcases t with⟨n,t|⟨o,t⟩⟩|t
 .exact .inl ⟨(h _ _ n rfl t).1,.inl (h _ _ n rfl t).2⟩
 .exact .inl ⟨(h _ _ n rfl t).1,.inr ⟨o,(h _ _ n rfl t).2⟩⟩
 .exact .inr t
def LstAt.monoP{K:Frag}{O O':Addr->Prop}{H H':Hp}(h:ZD O H O' H'){a:Addr}{vs:List V}(t:LstAt K O H a vs):LstAt K O' H' a vs:=by
 rcases t with⟨n,t|⟨o,t⟩⟩|t
 .exact .inl ⟨(h _ _ n rfl t).1,.inl (h _ _ n rfl t).2⟩
 .exact .inl ⟨(h _ _ n rfl t).1,.inr ⟨o,(h _ _ n rfl t).2⟩⟩
 .exact .inr t
mutual
theorem Rep.monoP{K:Frag}{O O':Addr->Prop}{H H':Hp}(e:ZD O H O' H'):∀{v:V}{d:OY},Rep K O H v d->Rep K O' H' v d
 |_,_,.non=>.non
 |_,_,.bl b=>.bl b
 |_,_,.int i=>.int i
 |_,_,.str x=>.str x
 |_,_,.tup t r=>.tup (t.monoP e) (YK.monoP e r)
 |_,_,.lst t r=>.lst (t.monoP e) (YK.monoP e r)
 |_,_,.dct n h r=>.dct (e _ _ n rfl h).1 (e _ _ n rfl h).2 (Zh.monoP e r)
theorem YK.monoP{K:Frag}{O O':Addr->Prop}{H H':Hp}(e:ZD O H O' H'):∀{vs:List V}{ds:List OY},YK K O H vs ds->YK K O' H' vs ds
 |_,_,.nil=>.nil
 |_,_,.cons r t=>.cons (Rep.monoP e r) (YK.monoP e t)
theorem Zh.monoP{K:Frag}{O O':Addr->Prop}{H H':Hp}(e:ZD O H O' H'):∀{vs:List (Key×V)}{ds:List (OY×OY)},Zh K O H vs ds->Zh K O' H' vs ds
 |_,_,.nil=>.nil
 |_,_,.cons r t=>.cons (Rep.monoP e r) (Zh.monoP e t)
end
def TupAt.mono{K:Frag}{O O':Addr->Prop}{H H':Hp}(h:Le O H O' H'){a:Addr}{vs:List V}(t:TupAt K O H a vs):TupAt K O' H' a vs:=t.monoP (m9 h)
def LstAt.mono{K:Frag}{O O':Addr->Prop}{H H':Hp}(h:Le O H O' H'){a:Addr}{vs:List V}(t:LstAt K O H a vs):LstAt K O' H' a vs:=t.monoP (m9 h)
def Rep.mono{K:Frag}{O O':Addr->Prop}{H H':Hp}(e:Le O H O' H'){v:V}{d:OY}(r:Rep K O H v d):Rep K O' H' v d:=Rep.monoP (m9 e) r
def YK.mono{K:Frag}{O O':Addr->Prop}{H H':Hp}(e:Le O H O' H'){vs:List V}{ds:List OY}(r:YK K O H vs ds):YK K O' H' vs ds:=YK.monoP (m9 e) r
def Zh.mono{K:Frag}{O O':Addr->Prop}{H H':Hp}(e:Le O H O' H'){vs:List (Key×V)}{ds:List (OY×OY)}(r:Zh K O H vs ds):Zh K O' H' vs ds:=Zh.monoP (m9 e) r
section
variable {K:Frag}{O:Addr->Prop}{H:Hp}
theorem YK.length:∀{vs:List V}{ds:List OY},YK K O H vs ds->vs.length=ds.length
 |_,_,.nil=>rfl
 |_,_,.cons _ t=>congrArg _ (YK.length t)
theorem YK.get:∀{vs:List V}{ds:List OY}{i:Nat}{v:V},YK K O H vs ds->vs[i]? = KQ v->∃d,ds[i]? = KQ d/\Rep K O H v d
 |_,_,_,_,.nil,e=>by simp at e
 |_,_,0,_,.cons r _,e=>by simp_all
 |_,_,i+1,v,.cons _ t,e=>by
  obtain⟨d,h1,h2⟩:=YK.get   t (by simpa using e);exact⟨d,by simpa using h1,h2⟩
theorem YK.getD:∀{vs:List V}{ds:List OY}{i:Nat}{d:OY},YK K O H vs ds->ds[i]? = KQ d->∃v,vs[i]? = KQ v/\Rep K O H v d
 |_,_,_,_,.nil,e=>by simp at e
 |_,_,0,_,.cons r _,e=>by simp_all
 |_,_,i+1,v,.cons _ t,e=>by
  obtain⟨d,h1,h2⟩:=YK.getD   t (by simpa using e);exact⟨d,by simpa using h1,h2⟩
theorem YK.append:∀{vs:List V}{ds:List OY},YK K O H vs ds->YK K O H ws es->YK K O H (vs++ws) (ds++es)
 |_,_,.nil,r=>r
 |_,_,.cons q t,r=>.cons q (YK.append t r)
theorem YK.take:∀{vs:List V}{ds:List OY} (n:Nat),YK K O H vs ds->YK K O H (vs.take n) (ds.take n)
 |_,_,0,_=>.nil
 |_,_,_+1,.nil=>.nil
 |_,_,n+1,.cons r t=>.cons r (YK.take n t)
theorem YK.drop:∀{vs:List V}{ds:List OY} (n:Nat),YK K O H vs ds->YK K O H (vs.drop n) (ds.drop n)
 |_,_,0,r=>r
 |_,_,_+1,.nil=>.nil
 |_,_,n+1,.cons _ t=>YK.drop n t
theorem YK.rep(r:YK K O H vs ds):∀n:Nat,YK K O H (Pp n vs).flatten (Pp n ds).flatten
 |0=>.nil
 |n+1=>by
  exact r.append (r.rep n)
end
def YM(ts:List Addr)(H H':Hp):Prop:=∀b o,b∉ts->H b=KQ o->H' b=KQ o
def YM.refl(ts:List Addr)(H:Hp):YM ts H H:=λ_ _ _ h=>h
def YM.trans(a:YM ts H H1)(b:YM ts H1 H2):YM ts H H2:=λc o n h=>b c o n (a c o n h)
def YM.new(h:H p=HA)(o:HO):YM ts H (upd H p o):=λb u _ q=>by rw[aA (aX q h)];exact q
def Ez(o:Option HO):Prop:=(∃vs,o=KQ (.lst vs))\/(∃kvs,o=KQ (.dK kvs))\/∃C dx fs,o=KQ (.ins C dx fs)
def Ez.ex(h:Ez o):∃u,o=KQ u:=by rcases h with⟨vs,e⟩|⟨vs,e⟩|⟨C,dx,fs,e⟩ <;> exact⟨_,e⟩
def Ez.to(h:Ez o)(k:∀u,o=KQ u->o'=KQ u):Ez o':=by
 rcases h with⟨vs,e⟩|⟨vs,e⟩|⟨C,dx,fs,e⟩
 .exact .inl ⟨vs,k _ e⟩
 .exact .inr (.inl ⟨vs,k _ e⟩)
 .exact .inr (.inr ⟨C,dx,fs,k _ e⟩)
noncomputable def cT(C:Addr):PyData:=.dict [(.none,.int (C:Int))]
noncomputable def Cz:List OY->Bool
 |.dict [(.none,_)]::_=>G3
 |_=>Gy
noncomputable def pairF(p:Str×OY):PyData:=.tuple [.str p.1,p.2]
inductive Z8(K:Frag)(O:Addr->Prop)(H:Hp):List (Str×V)->List (Str×OY)->Prop where
 |nil:Z8 K O H [] []
 |cons {n:Str}{v:V}{d:OY}{vs:List (Str×V)}{ds:List (Str×OY)}:Rep K O H v d->Z8 K O H vs ds->Z8 K O H ((n,v)::vs) ((n,d)::ds)
theorem Z8.mono{K:Frag}{O O':Addr->Prop}{H H':Hp}(e:Le O H O' H'){vs:List (Str×V)}{ds:List (Str×OY)}(r:Z8 K O H vs ds):Z8 K O' H' vs ds:=by
 induction r with
 |nil=>exact .nil
 |cons r _ ih=>exact .cons (Rep.mono e r) ih
def Ir(K:Frag)(O:Addr->Prop)(H:Hp)(a:Addr)(xs:List OY):Prop:=(Cz xs=Gy/\∃vs,H a=KQ (.lst vs)/\YK K O H vs xs)\/∃C dx fs fd,H a=KQ (.ins C dx fs)/\xs=cT C::fd.map pairF/\Z8 K O H fs fd
theorem Ir.mono{K:Frag}{O O':Addr->Prop}{H H':Hp}{a:Addr}{xs:List OY}(h:Ir K O H a xs)(k:∀o,H a=KQ o->H' a=KQ o)(l:Le O H O' H'):Ir K O' H' a xs:=by
 rcases h with⟨n,vs,h1,h2⟩|⟨C,dx,fs,fd,h1,h2,h3⟩
 .exact .inl ⟨n,vs,k _ h1,h2.mono l⟩
 .exact .inr ⟨C,dx,fs,fd,k _ h1,h2,h3.mono l⟩
theorem Ir.lst{K:Frag}{O:Addr->Prop}{H:Hp}{a:Addr}{xs:List OY}(h:Ir K O H a xs)(n:Cz xs=Gy):∃vs,H a=KQ (.lst vs)/\YK K O H vs xs:=by
 rcases h with⟨_,h⟩|⟨C,dx,fs,fd,h1,h2,h3⟩
 .exact h
 .rw[h2] at n
  cases n
noncomputable def zeu{K:Frag}{O:Addr->Prop}{H:Hp}{v:V}{y:OY}(h:Rep K O H v (.dict [(.none,y)])):False:=by
 cases h with
 |dct _ _ r=>
  generalize hl:[_]=l at r
  cases r with
  |nil=>cases hl
  |@cons k _ _ _ _ _ _=>
   injection hl with h1 _
   rcases k with i|x
   .cases h1
   .cases h1
def YK.notO{K:Frag}{O:Addr->Prop}{H:Hp}{vs:List V}{xs:List OY}(r:YK K O H vs xs):Cz xs=Gy:=by
 cases r with
 |nil=>rfl
 |cons h _=>
  unfold Cz;split
  .rename_i e
   cases e;exact(zeu h).elim
  .rfl
structure HC(K:Frag)(O:Addr->Prop)(ts:List Addr)(H:Hp)(T:Tp):Prop where
 own:∀b∈ts,O b
 trk:∀b,O b->Ez (H b)
 nd:ts.Nodup
 len:ts.length=T.length
 tape:∀(i:Nat) (a:Addr) (xs:List OY),ts[i]? = KQ a->T[i]? = KQ xs->Ir K O H a xs
section
variable {K:Frag}{O:Addr->Prop}{ts:List Addr}{H H':Hp}{T:Tp}
def HC.le(c:HC K O ts H T)(s:YM ts H H'):Le O H O H':=λa o n e=>⟨n,s a o (λz=>n (c.own a z)) e⟩
def HC.step(c:HC K O ts H T)(s:YM ts H H')(t:∀b∈ts,H' b=H b):HC K O ts H' T where
 own:=c.own
 trk:=λb hb=>by
  by_cases z:b∈ts
  .rw[t b z];exact c.trk b hb
  .exact(c.trk b hb).to λu e=>s b _ z e
 nd:=c.nd
 len:=c.len
 tape:=λi a xs e1 e2=>by
  exact(c.tape i a xs e1 e2).mono (λo h1=>by rw[t a (Px e1)];exact h1) (c.le s)
def HC.fresh(c:HC K O ts H T)(h:H p=HA):¬O p:=λz=>by
 obtain⟨u,e⟩:=(c.trk p z).ex<;>simp_all
theorem HC.new(c:HC K O ts H T)(h:H p=HA)(o:HO):HC K O ts (upd H p o) T:=c.step (.new h o) λb hb=>aA λz=>c.fresh h (z ▸ c.own b hb)
def HC.leNew(c:HC K O ts H T)(h:H p=HA)(o:HO):Le O H O (upd H p o):=c.le (.new h o)
def HC.newT(c:HC K O ts H T)(h:H p=HA)(r:YK K O H vs ds):Rep K O (upd H p (.tup vs)) (.ref p) (.tuple ds):=.tup (.inl ⟨c.fresh h,.inl aQ⟩) (r.mono (c.leNew h _))
def HC.newL(c:HC K O ts H T)(h:H p=HA)(r:YK K O H vs ds):Rep K O (upd H p (.lst vs)) (.ref p) (.list ds):=.lst (.inl ⟨c.fresh h,.inl aQ⟩) (r.mono (c.leNew h _))
end
inductive Vw(K:Frag)(O:Addr->Prop)(H:Hp):V->OY->Prop where
 |rep {v:V}{x:OY}:Rep K O H v x->Vw K O H v x
 |raw {a:Addr}{vs:List V}{xs:List OY}:H a=KQ (.lst vs)->YK K O H vs xs->Vw K O H (.ref a) (.list xs)
 |rawD {a:Addr}{kvs:List (Key×V)}{ds:List (OY×OY)}:H a=KQ (.dK kvs)->Zh K O H kvs ds->Vw K O H (.ref a) (.dict ds)
section
variable {K:Frag}{O:Addr->Prop}{H:Hp}{v:V}
theorem Vw.int(h:Vw K O H v (.int i)):v=.int i:=by cases h with|rep h=>cases h;rfl
theorem Vw.str(h:Vw K O H v (.str x)):v=.str x:=by cases h with|rep h=>cases h;rfl
theorem Vw.bl(h:Vw K O H v (.bool b)):v=.bl b:=by cases h with|rep h=>cases h;rfl
theorem Vw.non(h:Vw K O H v .none):v=.non:=by cases h with|rep h=>cases h;rfl
theorem Vw.tup(h:Vw K O H v (.tuple ds)):∃a vs,v=.ref a/\TupAt K O H a vs/\YK K O H vs ds:=by cases h with|rep h=>cases h with|tup t r=>exact⟨_,_,rfl,t,r⟩
def Vw.tupR(h:Vw K O H v (.tuple ds)):Rep K O H v (.tuple ds):=by cases h <;>simp_all
theorem Vw.lst(h:Vw K O H v (.list ds)):∃a vs,v=.ref a/\Zc K H a vs/\YK K O H vs ds:=by
 cases h with
 |rep h=>cases h with|lst t r=>exact⟨_,_,rfl,t.sq,r⟩
 |raw h r=>exact⟨_,_,rfl,Zc.of h,r⟩
theorem Vw.dct(h:Vw K O H v (.dict ds)):∃a kvs,v=.ref a/\Rd H a (.dK kvs)/\Zh K O H kvs ds:=by
 cases h with
 |rep h=>cases h with|dct n t r=>exact⟨_,_,rfl,.inr ⟨_,t⟩,r⟩
 |rawD t r=>exact⟨_,_,rfl,.inl t,r⟩
end
def Zz(K:Frag)(O:Addr->Prop)(H:Hp)(a:Addr):OY->Prop
 |.list xs=>∃vs,H a=KQ (.lst vs)/\YK K O H vs xs
 |.dict ds=>∃kvs,H a=KQ (.dK kvs)/\Zh K O H kvs ds
 |_=>False
theorem Zz.mono{K:Frag}{O O':Addr->Prop}{H H':Hp}{a:Addr}{x:OY}(h:Zz K O H a x)(k:∀o,H a=KQ o->H' a=KQ o)(l:Le O H O' H'):Zz K O' H' a x:=by
 cases x with
 |list xs=>obtain⟨vs,h1,h2⟩:=h;exact⟨vs,k _ h1,h2.mono l⟩
 |dict ds=>obtain⟨vs,h1,h2⟩:=h;exact⟨vs,k _ h1,h2.mono l⟩
 |_=>cases h
def Zz.some{K:Frag}{O:Addr->Prop}{H:Hp}{a:Addr}{x:OY}(h:Zz K O H a x):∃o,H a=KQ o:=by
 cases x with
 |list xs=>obtain⟨vs,h1,h2⟩:=h;exact⟨_,h1⟩
 |dict ds=>obtain⟨vs,h1,h2⟩:=h;exact⟨_,h1⟩
 |_=>cases h
noncomputable def ZY(K:Frag)(O:Addr->Prop)(ts:List Addr)(H:Hp)(v:V):W->Prop
 |.d x=>Rep K O H v x
 |.tp i=>∃a,ts[i]? = KQ a/\v=.ref a
 |.loc x=>∃a,v=.ref a/\O a/\a∉ts/\Zz K O H a x
noncomputable def k6(xs:List OY):Option PyData:=if Cz xs=G3 then HA else KQ (.list xs)
noncomputable def view(T:Tp):W->Option OY
 |.d x=>KQ x
 |.tp i=>(T[i]?).bind k6
 |.loc (.list xs)=>KQ (.list xs)
 |.loc (.dict ds)=>KQ (.dict ds)
 |.loc _=>HA
noncomputable def views(T:Tp):List W->Option (List OY)
 |[]=>KQ []
 |w::r=>match view T w with
  | some x=>(match views T r with
   |some xs=>KQ (x::xs)
   | none=>HA)
  |none=>HA
def gZ(K:Frag)(O:Addr->Prop)(ts:List Addr)(H:Hp):List V->List W->Prop:=SR λv w=>ZY K O ts H v w
def Kr(K:Frag)(O:Addr->Prop)(H:Hp):List V->List OY->Prop:=SR λv x=>Vw K O H v x
def Zu(K:Frag)(O:Addr->Prop)(ts:List Addr)(H:Hp)(σ:L2.St)(ρ:YR):Prop:=∀(i:Nat) (w:W),ρ[i]? = KQ (KQ w)->∃v,σ[i]? = KQ (KQ v)/\ZY K O ts H v w
section
variable {K:Frag}{O:Addr->Prop}{ts:List Addr}{H H':Hp}{T:Tp}{v:V}{w:W}
theorem ZY.mono(r:ZY K O ts H v w)(c:HC K O ts H T)(s:YM ts H H'):ZY K O ts H' v w:=by
 cases w with
 |d x=>exact Rep.mono (c.le s) r
 |tp i=>exact r
 |loc xs=>
  obtain⟨a,e,h1,h2,h3⟩:=r;exact⟨a,e,h1,h2,h3.mono (λo q=>s _ _ h2 q) (c.le s)⟩
theorem Zu.mono(r:Zu K O ts H σ ρ)(c:HC K O ts H T)(s:YM ts H H'):Zu K O ts H' σ ρ:=λi w e=>
 let ⟨v,h1,h2⟩:=r i w e;⟨v,h1,h2.mono c s⟩
theorem HC.view(c:HC K O ts H T)(r:ZY K O ts H v w)(e:view T w=KQ x):Vw K O H v x:=by
 cases w with
 |d y=>cases e;exact .rep r
 |tp i=>
  obtain⟨a,h1,rfl⟩:=r;have e':(T[i]?).bind k6=KQ x:=e
  cases ht:T[i]? with
  |none=>simp_all
  |some xs=>
   rw[ht] at e';have e2:(if Cz xs=G3 then HA else KQ _)=KQ x:=e';split at e2
   .cases e2
   .rename_i hn
    cases e2;obtain⟨vs,h2,h3⟩:=(c.tape i a xs h1 ht).lst (by simpa using hn);exact .raw h2 h3
 |loc xs=>
  obtain⟨a,rfl,_,_,h3⟩:=r
  cases xs with
  |list xs=>cases e;obtain⟨vs,h1,h2⟩:=h3;exact .raw h1 h2
  |dict ds=>cases e;obtain⟨vs,h1,h2⟩:=h3;exact .rawD h1 h2
  |_=>cases h3
theorem HC.views(c:HC K O ts H T):∀{vs:List V}{ws:List W}{xs:List OY},gZ K O ts H vs ws->views T ws=KQ xs->Kr K O H vs xs
 |_,[],xs,.nil,e=>by cases e;exact .nil
 |_,w::r,xs,.cons h t,e=>by
  unfold D.views at e;split at e
  .rename_i x h1
   split at e
   .rename_i ys h2
    cases e;exact .cons (c.view h h1) (HC.views c t h2)
   .cases e
  .cases e
end
noncomputable def noStar:Expr->Bool
 |.Starred _ _=>Gy
 |_=>G3
noncomputable def bf(h:noStar e=G3):Pi (e::es) env=(Gy,eval e env)::Pi es env:=by cases e <;> first|rfl|cases h
noncomputable def ztq(h:noStar e=G3):Pi [e] env=[(Gy,eval e env)]:=bf h
theorem bW:∀{es:List Expr},es.all noStar=G3->(Qj pos (Pi es env)).any (·.1)=Gy
 |[],_=>rfl
 |e::r,h=>by
  rw[Q0,Pg] at h;rw[bf h.1];show (Gy||(Qj pos _).any _)=Gy;rw[bW h.2];rfl
noncomputable def iV(h:noStar e=G3):((Qj YO (Pi [e] env)).all (λx=>!x.1)&&(RO YO (QQ [] env)).all (λx=>x.1.isSome)
   && decide (([e]:List Expr).length+([]:List Rn).length+(if ([]:List Rn).isEmpty then 0 else 1)<30))=G3:=by
 rw[ztq h];rfl
abbrev FE:=YR->Tp->Option (W×Tp)
abbrev FT:=YR->Tp->Option (Bool×Tp)
abbrev FA:=YR->Tp->Option (List W×Tp)
inductive CQ(K:Frag)(f:FE)(σ:L2.St)(H:Hp)(Q:VK):Prop where
 |mk (O:Addr->Prop) (ts:List Addr) (ρ:YR) (T:Tp) (w:W) (T':Tp) (hc:HC K O ts H T) (re:Zu K O ts H σ ρ) (e:f ρ T=KQ (w,T')) (q:∀v H',YM ts H H'->HC K O ts H' T'->ZY K O ts H' v w->Q v H'):CQ K f σ H Q
def lift(K:Frag)(f:FE):TE:=λσ H Q=>CQ K f σ H Q
inductive D9(K:Frag)(f:FT)(σ:L2.St)(H:Hp)(Q:Bool->Hp->Prop):Prop where
 |mk (O:Addr->Prop) (ts:List Addr) (ρ:YR) (T:Tp) (b:Bool) (T':Tp) (hc:HC K O ts H T) (re:Zu K O ts H σ ρ) (e:f ρ T=KQ (b,T')) (q:∀H',YM ts H H'->HC K O ts H' T'->Q b H'):D9 K f σ H Q
def liftT(K:Frag)(f:FT):TT:=λσ H Q=>D9 K f σ H Q
inductive DG(K:Frag)(f:FA)(σ:L2.St)(H:Hp)(Q:List V->Hp->Prop):Prop where
 |mk (O:Addr->Prop) (ts:List Addr) (ρ:YR) (T:Tp) (ws:List W) (T':Tp) (hc:HC K O ts H T) (re:Zu K O ts H σ ρ) (e:f ρ T=KQ (ws,T')) (q:∀vs H',YM ts H H'->HC K O ts H' T'->gZ K O ts H' vs ws->Q vs H'):DG K f σ H Q
def t6(K:Frag)(f:FA):TA:=λσ H Q=>DG K f σ H Q
structure DE(X:Cx)(e:Expr)(f:FE):Prop where
 pe:PE X e (lift X.K f)
structure DT(X:Cx)(e:Expr)(f:FT):Prop where
 pe:PT X e (liftT X.K f)
structure DW(X:Cx)(e:Expr)(f:FT):Prop where
 pe:PW X e (liftT X.K f)
structure DA(X:Cx)(es:List Expr)(f:FA):Prop where
 pe:PA X es (t6 X.K f)
noncomputable def bi(h:PE X e t)(i:∀σ H Q,t' σ H Q->t σ H Q):PE X e t':=λpins s σ H Q I q=>h pins s σ H Q I (i σ H Q q)
noncomputable def my(h:PT X e t)(i:∀σ H Q,t' σ H Q->t σ H Q):PT X e t':=λpins s σ H Q I q=>h pins s σ H Q I (i σ H Q q)
noncomputable def ztr(h:PW X e t)(i:∀σ H Q,t' σ H Q->t σ H Q):PW X e t':=λwh pins s σ H Q I q=>h wh pins s σ H Q I (i σ H Q q)
noncomputable def zts(h:PA X e t)(i:∀σ H Q,t' σ H Q->t σ H Q):PA X e t':=λpo pins s σ H Q I q=>h po pins s σ H Q I (i σ H Q q)
noncomputable def aa(i:Nat):FE:=λρ T=>match ρ[i]? with
 |some (KQ w)=>KQ (w,T)
 |_=>HA
noncomputable def fC(x:OY):FE:=λ_ T=>KQ (.d x,T)
section
variable {X:Cx}{pos:Pos}
noncomputable def af(i:Nat)(hN:autoParam (X.N[i]? = KQ x) u10)(hv:autoParam (BS X.env.scope x) u20)(hd:autoParam ((x == ("__debug__" : Str))=Gy) u11)
  (hcd:autoParam ((x == ("__classdict__" : Str))=Gy) u11):DE X (.Name x pos) (aa i):=by
 refine⟨?_⟩;refine bi (pv i hN hv hd hcd) λσ H Q=>?_;rintro⟨O,ts,ρ,T,w,T',hc,re,e,q⟩;unfold aa at e;split at e
 .rename_i w' he
  cases e;obtain⟨v,h1,h2⟩:=re i _ he;exact⟨v,h1,q v H (.refl _ _) hc h2⟩
 .cases e
noncomputable def jp(h:∀O H,Rep X.K O H v x):∀σ H Q,lift X.K (fC x) σ H Q->tC v σ H Q:=by
 rintro σ H Q ⟨O,ts,ρ,T,w,T',hc,re,e,q⟩;cases e;exact q v H (.refl _ _) hc (h O H)
noncomputable def ak{i j}:DE X (.Constant (.int i) j pos) (fC (.int i)):=⟨bi et (jp λ_ _=>.int i)⟩
noncomputable def gr{i j}:DE X (.Constant (.bool i) j pos) (fC (.bool i)):=⟨bi jy (jp λ_ _=>.bl i)⟩
noncomputable def ap{i j}:DE X (.Constant (.str i) j pos) (fC (.str i)):=⟨bi tw (jp λ_ _=>.str i)⟩
noncomputable def eK{j}:DE X (.Constant .none j pos) (fC .none):=⟨bi zan (jp λ_ _=>.non)⟩
noncomputable def eS(hg:Gl X x)(hm:∃t,X.mg x=KQ (.int i t))(hd:autoParam ((x == ("__debug__" : Str))=Gy) u11):DE X (.Name x pos) (fC (.int i)):=by
 refine⟨?_⟩;obtain⟨t,hm⟩:=hm;exact bi (j8 (v:=.int i) hg hm ⟨t,rfl⟩ hd) (jp λ_ _=>.int i)
noncomputable def rW(hg:Gl X x)(hm:∃t,X.mg x=KQ (.str i t))(hd:autoParam ((x == ("__debug__" : Str))=Gy) u11):DE X (.Name x pos) (fC (.str i)):=by
 refine⟨?_⟩;obtain⟨t,hm⟩:=hm;exact bi (j8 (v:=.str i) hg hm ⟨t,rfl⟩ hd) (jp λ_ _=>.str i)
end
noncomputable def CN(g:OY->Option OY)(T:Tp)(w:W):Option (W×Tp):=match view T w with
 |some x=>match g x with
  |some d=>KQ (.d d,T)
  |none=>HA
 |none=>HA
noncomputable def Ko(g:OY->OY->Option OY)(T:Tp)(w1 w2:W):Option (W×Tp):=match view T w1,view T w2 with
 |some x,KQ y=>match g x y with
  |some d=>KQ (.d d,T)
  |none=>HA
 |_,_=>HA
noncomputable def kA(e:CN g T w1=KQ (w,T')):∃x d,view T w1=KQ x/\g x=KQ d/\w=.d d/\T'=T:=by
 unfold CN at e;split at e
 .split at e<;>simp_all
 .cases e
noncomputable def gO(e:Ko g T w1 w2=KQ (w,T')):∃x y d,view T w1=KQ x/\view T w2=KQ y/\g x y=KQ d/\w=.d d/\T'=T:=by
 unfold Ko at e;split at e
 .split at e<;>simp_all
 .cases e
noncomputable def ae(g:OY->OY->Option OY)(fa fb:FE):FE:=λρ T=>YS (fa ρ T) λw1 T1=>YS (fb ρ T1) λw2 T2=>Ko g T2 w1 w2
noncomputable def Zq(g:OY->Option OY)(fa:FE):FE:=λρ T=>YS (fa ρ T) λw1 T1=>CN g T1 w1
def iY(K:Frag)(r:R2)(g:OY->OY->Option OY):Prop:=∀(O:Addr->Prop) (ts:List Addr) (H:Hp) (T:Tp) (v1 v2:V) (x y d:OY) (Q:VK),HC K O ts H T->Vw K O H v1 x->Vw K O H v2 y->g x y=KQ d ->
 (∀v H',YM ts H H'->HC K O ts H' T->Rep K O H' v d->Q v H')->r v1 v2 H Q
def LJ(K:Frag)(r:V->Hp->VK->Prop)(g:OY->Option OY):Prop:=∀(O:Addr->Prop) (ts:List Addr) (H:Hp) (T:Tp) (v1:V) (x d:OY) (Q:VK),HC K O ts H T->Vw K O H v1 x->g x=KQ d ->
 (∀v H',YM ts H H'->HC K O ts H' T->Rep K O H' v d->Q v H')->r v1 H Q
def Z6(X:Cx)(f:O9->O9->Sem O9)(g:OY->OY->Option OY):Prop:=∃r,Zx X f r/\iY X.K r g
def IxD(X:Cx)(g:OY->OY->Option OY):Prop:=∃r,HQ X r/\iY X.K r g
noncomputable def oJ{K:Frag}{r:R2}{g:OY->OY->Option OY}{fa fb:FE}(snd:iY K r g){σ:L2.St}{H:Hp}{Q:VK}(h:lift K (ae g fa fb) σ H Q):FV r (lift K fa) (lift K fb) σ H Q:=by
 obtain⟨O,ts,ρ,T,w,T',hc,re,e,q⟩:=h;obtain⟨w1,T1,e1,e⟩:=aG e;obtain⟨w2,T2,e2,e⟩:=aG e;obtain⟨x,y,d,h1,h2,h3,rfl,rfl⟩:=gO e;refine⟨O,ts,ρ,T,w1,T1,hc,re,e1,λv1 H1 s1 YN r1=>?_⟩;refine⟨O,ts,ρ,T1,w2,T',YN,re.mono hc s1,e2,λv2 H2 s2 YY r2=>?_⟩;exact snd O ts H2 T' v1 v2 x y d Q YY (YY.view (r1.mono YN s2) h1) (YY.view r2 h2) h3 λv H' s3 ZA r3=>q v H' (s1.trans (s2.trans s3)) ZA r3
noncomputable def Gm:W->Option Bool
 |.d (.bool b)=>KQ b
 |_=>HA
noncomputable def mI(h:Gm w=KQ b):w=.d (.bool b):=by
 unfold Gm at h
 split at h<;>simp_all
noncomputable def aq(f:FE):FT:=λρ T=>YS (f ρ T) λw T1=>match Gm w with
 |some b=>KQ (b,T1)
 |none=>HA
noncomputable def rY{K:Frag}{f:FE}{σ:L2.St}{H:Hp}{Q:Bool->Hp->Prop}(h:liftT K (aq f) σ H Q):lift K f σ H λx H'=>∃k,x=.bl k/\Q k H':=by
 obtain⟨O,ts,ρ,T,w,T',hc,re,e,q⟩:=h;obtain⟨w1,T1,e1,e⟩:=aG e;refine⟨O,ts,ρ,T,w1,T1,hc,re,e1,λv1 H1 s1 YN r1=>?_⟩;split at e
 .rename_i b hb
  cases e;have hw:=mI hb;subst hw;cases (r1);exact⟨_,rfl,q H1 s1 YN⟩
 .cases e
section
variable {X:Cx}{pos:Pos}{a b c:Expr}{fa fb fc:FE}{g g':OY->OY->Option OY}
noncomputable def aF(ho:Z6 X (QL op) g)(ha:DE X a fa)(hb:DE X b fb):DE X (.BinOp a op b pos) (ae g fa fb):=by
 refine⟨?_⟩;obtain⟨r,hr,snd⟩:=ho;exact bi (tX hr ha.pe hb.pe) λσ H Q=>oJ snd
noncomputable def cg(ho:Z6 X (PX op) g)(ha:DE X a fa)(hb:DE X b fb)(hm:autoParam (QS op b=Gy) u24):DE X (.Compare a [op] [b] pos) (ae g fa fb):=by
 refine⟨?_⟩;obtain⟨r,hr,snd⟩:=ho;exact bi (so hr ha.pe hb.pe hm) λσ H Q=>oJ snd
noncomputable def aE(ho:Z6 X (PX op) g)(ha:DE X a fa)(hb:DE X b fb)(hm:autoParam (QS op b=Gy) u24):DT X (.Compare a [op] [b] pos) (aq (ae g fa fb)):=by
 refine⟨?_⟩;obtain⟨r,hr,snd⟩:=ho;exact my (j7 hr ha.pe hb.pe hm) λσ H Q h=>oJ snd (rY h)
noncomputable def bc(ho:IxD X g)(ha:DE X a fa)(hb:DE X b fb)(hs:autoParam (oM b) u25):DE X (.Subscript a b pos) (ae g fa fb):=by
 refine⟨?_⟩;obtain⟨r,hr,snd⟩:=ho;exact bi (dE hr ha.pe hb.pe hs) λσ H Q=>oJ snd
noncomputable def gP(g g':OY->OY->Option OY)(fa fb fc:FE):FE:=λρ T=>YS (fa ρ T) λw1 T1=>YS (fb ρ T1) λw2 T2=>YS (Ko g T2 w1 w2) λw T3=>match Gm w with
 |some b=>if b=G3 then YS (fc ρ T3) λw3 T4=>Ko g' T4 w2 w3 else KQ (.d (.bool Gy),T3)
 |none=>HA
noncomputable def ztt{K:Frag}{r r':R2}(snd:iY K r g)(BV:iY K r' g'){σ:L2.St}{H:Hp}{Q:VK}(h:lift K (gP g g' fa fb fc) σ H Q):sU r r' (lift K fa) (lift K fb) (lift K fc) σ H Q:=by
 obtain⟨O,ts,ρ,T,w,T',hc,re,e,q⟩:=h;obtain⟨w1,T1,e1,e⟩:=aG e;obtain⟨w2,T2,e2,e⟩:=aG e;obtain⟨wz,T3,e3,ez⟩:=aG e;obtain⟨x,y,d,h1,h2,h3,rfl,rfl⟩:=gO e3;clear e;refine⟨O,ts,ρ,T,w1,T1,hc,re,e1,λv1 H1 s1 YN r1=>?_⟩;refine⟨O,ts,ρ,T1,w2,T3,YN,re.mono hc s1,e2,λv2 H2 s2 YY r2=>?_⟩;refine snd O ts H2 T3 v1 v2 x y d _ YY (YY.view (r1.mono YN s2) h1) (YY.view r2 h2) h3 λv H3 s3 ZA r3=>?_;split at ez
 .rename_i b hb
  have hd:=mI hb
  injection hd with hd
  subst hd;cases r3
  cases b with
  |true=>
   refine⟨G3,rfl,iS ?_⟩;obtain⟨w3,T4,e4,e5⟩:=aG ez;obtain⟨x',y',d',Ii,EL,J9,rfl,rfl⟩:=gO e5;refine⟨O,ts,ρ,T3,w3,T',ZA,(re.mono hc (s1.trans (s2.trans s3))),e4,λv3 H4 s4 FX r4=>?_⟩;exact BV O ts H4 T' v2 v3 x' y' d' Q FX (FX.view (r2.mono YY (s3.trans s4)) Ii) (FX.view r4 EL) J9 λv H' s5 CF r5=>q v H' (s1.trans (s2.trans (s3.trans (s4.trans s5)))) CF r5
  |false=>
   cases ez;exact⟨Gy,rfl,iT (q _ H3 (s1.trans (s2.trans s3)) ZA (.bl _))⟩
 .cases ez
noncomputable def ztu(ho:Z6 X (PX op) g)(LG:Z6 X (PX IR) g')(ha:DE X a fa)(hb:DE X b fb)(hc:DE X c fc)
  (hm:autoParam (WS [op,IR] [b,c]=Gy) u23):DE X (.Compare a [op,IR] [b,c] pos) (gP g g' fa fb fc):=by
 refine⟨?_⟩;obtain⟨r,hr,snd⟩:=ho;obtain⟨r',FL,BV⟩:=LG;exact bi (zbq hr FL ha.pe hb.pe hc.pe hm) λσ H Q=>ztt snd BV
noncomputable def rR(ho:Z6 X (PX op) g)(LG:Z6 X (PX IR) g')(ha:DE X a fa)(hb:DE X b fb)(hc:DE X c fc)
  (hm:autoParam (WS [op,IR] [b,c]=Gy) u23):DT X (.Compare a [op,IR] [b,c] pos) (aq (gP g g' fa fb fc)):=by
 refine⟨?_⟩;obtain⟨r,hr,snd⟩:=ho;obtain⟨r',FL,BV⟩:=LG;exact my (zbr hr FL ha.pe hb.pe hc.pe hm) λσ H Q h=>ztt snd BV (rY h)
noncomputable def pY:OY->Option Bool
 |.none=>KQ Gy
 |.bool b=>KQ b
 |.int i=>KQ (i != 0)
 |.str y=>if y.length<=Ph then KQ ((y.length:Int) != 0) else HA
 |.list xs=>KQ (!xs.isEmpty)
 |.tuple xs=>KQ (!xs.isEmpty)
 |.dict _=>HA
noncomputable def pZ(T:Tp)(w:W):Option (Bool×Tp):=match view T w with
 |some x=>match pY x with
  |some b=>KQ (b,T)
  |none=>HA
 |none=>HA
def aP(f:FE):FT:=λρ T=>YS (f ρ T) λw T1=>pZ T1 w
noncomputable def ztv{K:Frag}{O:Addr->Prop}{H:Hp}{vs:List V}{ds:List OY}(r:YK K O H vs ds):vs.isEmpty=ds.isEmpty:=by cases r <;> rfl
noncomputable def zew{K:Frag}{O:Addr->Prop}{H:Hp}{v:V}{x:OY}{b:Bool}(h:Vw K O H v x)(e:pY x=KQ b):uv K v H b:=by
 cases x with
 |none=>cases h.non;cases e;rfl
 |bool c=>cases h.bl;cases e;rfl
 |int i=>cases h.int;cases e;rfl
 |str y=>
  cases h.str;have e':(if y.length<=Ph then KQ _ else HA)=KQ b:=e;split at e'
  .rename_i hl
   cases e';exact⟨hl,rfl⟩
  .cases e'
 |list xs=>
  obtain⟨a,vs,rfl,h1,h2⟩:=h.lst;cases e;exact .inl ⟨vs,h1,by rw[ztv h2]⟩
 |tuple xs=>
  obtain⟨a,vs,rfl,h1,h2⟩:=h.tup;cases e;exact .inr (.inl ⟨vs,h1.sq,by rw[ztv h2]⟩)
 |dict kvs=>
  cases e
noncomputable def aY(ha:DE X a fa)(he:autoParam (∀whole,WP a X.env whole=(do let v ←whole;VY a.pos;VZ [v] (truthy v))) u16):DT X a (aP fa):=by
 refine⟨?_⟩;refine my (zbu ha.pe he) λσ H Q=>?_;rintro⟨O,ts,ρ,T,b,T',hc,re,e,q⟩;obtain⟨w1,T1,e1,e⟩:=aG e;refine⟨O,ts,ρ,T,w1,T1,hc,re,e1,λv1 H1 s1 YN r1=>?_⟩;unfold pZ at e;split at e
 .rename_i x h1
  split at e
  .rename_i k h2
   cases e;exact⟨b,zew (YN.view r1 h1) h2,q H1 s1 YN⟩
  .cases e
 .cases e
noncomputable def cX(f g:FT):FT:=λρ T=>YS (f ρ T) λb T1=>if b=G3 then g ρ T1 else KQ (Gy,T1)
noncomputable def bO(f g:FT):FT:=λρ T=>YS (f ρ T) λb T1=>if b=G3 then KQ (G3,T1) else g ρ T1
noncomputable def bA(f:FT):FT:=λρ T=>YS (f ρ T) λb T1=>KQ (!b,T1)
variable {ta tb:FT}{rest:List Expr}
def bZ(h:DW X a f):DT X a f:=⟨PW.pt h.pe⟩
noncomputable def iE(ha:DT X a ta):DW X (.BoolOp .And [a] pos) ta:=⟨zat ha.pe⟩
noncomputable def dj(ha:DT X a ta):DW X (.BoolOp .Or [a] pos) ta:=⟨tj ha.pe⟩
noncomputable def gQ(ha:DT X a ta)(hb:DW X (.BoolOp .And (b::rest) pos) tb):DW X (.BoolOp .And (a::b::rest) pos) (cX ta tb):=by
 refine⟨?_⟩;refine ztr (zau ha.pe hb.pe) λσ H Q=>?_;rintro⟨O,ts,ρ,T,b,T',hc,re,e,q⟩;obtain⟨b1,T1,e1,e⟩:=aG e;refine⟨O,ts,ρ,T,b1,T1,hc,re,e1,λH1 s1 YN=>?_⟩
 cases b1 with
 |true=>exact iS ⟨O,ts,ρ,T1,b,T',YN,re.mono hc s1,by simpa using e,λH2 s2 YY=>q H2 (s1.trans s2) YY⟩
 |false=>
  simp_all
noncomputable def cx(ha:DT X a ta)(hb:DW X (.BoolOp .Or (b::rest) pos) tb):DW X (.BoolOp .Or (a::b::rest) pos) (bO ta tb):=by
 refine⟨?_⟩;refine ztr (pH ha.pe hb.pe) λσ H Q=>?_;rintro⟨O,ts,ρ,T,b,T',hc,re,e,q⟩;obtain⟨b1,T1,e1,e⟩:=aG e;refine⟨O,ts,ρ,T,b1,T1,hc,re,e1,λH1 s1 YN=>?_⟩
 cases b1 with
 |false=>exact iT ⟨O,ts,ρ,T1,b,T',YN,re.mono hc s1,by simpa using e,λH2 s2 YY=>q H2 (s1.trans s2) YY⟩
 |true=>
  simp_all
noncomputable def bK(ha:DT X a ta):DT X (.UnaryOp .Not a pos) (bA ta):=by
 refine⟨?_⟩;refine my (zrr ha.pe) λσ H Q=>?_;rintro⟨O,ts,ρ,T,b,T',hc,re,e,q⟩;obtain⟨b1,T1,e1,e⟩:=aG e;cases e;exact⟨O,ts,ρ,T,b1,T',hc,re,e1,λH1 s1 YN=>q H1 s1 YN⟩
noncomputable def cW(f g:FE):FE:=λρ T=>YS (f ρ T) λw T1=>match Gm w with
 |some b=>if b=G3 then g ρ T1 else KQ (.d (.bool Gy),T1)
 |none=>HA
noncomputable def lh(f g:FE):FE:=λρ T=>YS (f ρ T) λw T1=>match Gm w with
 |some b=>if b=G3 then KQ (.d (.bool G3),T1) else g ρ T1
 |none=>HA
noncomputable def kQ(f:FE):FE:=λρ T=>YS (f ρ T) λw T1=>match Gm w with
 |some b=>KQ (.d (.bool (!b)),T1)
 |none=>HA
noncomputable def eA{op}(h:DE X a fa):DE X (.BoolOp op [a] pos) fa:=⟨zrs h.pe⟩
noncomputable def dD(ha:DE X a fa)(hb:DE X (.BoolOp .And (b::rest) pos) fb):DE X (.BoolOp .And (a::b::rest) pos) (cW fa fb):=by
 refine⟨?_⟩;refine bi (zrt ha.pe hb.pe) λσ H Q=>?_;rintro⟨O,ts,ρ,T,w,T',hc,re,e,q⟩;obtain⟨w1,T1,e1,e⟩:=aG e;refine⟨O,ts,ρ,T,w1,T1,hc,re,e1,λv1 H1 s1 YN r1=>?_⟩;split at e
 .rename_i b hb
  have hw:=mI hb;subst hw;cases (show Rep X.K O H1 v1 _ from r1)
  cases b with
  |true=>exact⟨_,rfl,iS ⟨O,ts,ρ,T1,w,T',YN,re.mono hc s1,by simpa using e,λv H2 s2 YY r2=>q v H2 (s1.trans s2) YY r2⟩⟩
  |false=>
   simp_all
 .cases e
noncomputable def pQ(ha:DE X a fa)(hb:DE X (.BoolOp .Or (b::rest) pos) fb):DE X (.BoolOp .Or (a::b::rest) pos) (lh fa fb):=by
 refine⟨?_⟩;refine bi (zav ha.pe hb.pe) λσ H Q=>?_;rintro⟨O,ts,ρ,T,w,T',hc,re,e,q⟩;obtain⟨w1,T1,e1,e⟩:=aG e;refine⟨O,ts,ρ,T,w1,T1,hc,re,e1,λv1 H1 s1 YN r1=>?_⟩;split at e
 .rename_i b hb
  have hw:=mI hb;subst hw;cases (show Rep X.K O H1 v1 _ from r1)
  cases b with
  |false=>exact⟨_,rfl,iT ⟨O,ts,ρ,T1,w,T',YN,re.mono hc s1,by simpa using e,λv H2 s2 YY r2=>q v H2 (s1.trans s2) YY r2⟩⟩
  |true=>
   simp_all
 .cases e
noncomputable def pB(ha:DE X a fa):DE X (.UnaryOp .Not a pos) (kQ fa):=by
 refine⟨?_⟩;refine bi (zaw ha.pe) λσ H Q=>?_;rintro⟨O,ts,ρ,T,w,T',hc,re,e,q⟩;obtain⟨w1,T1,e1,e⟩:=aG e;refine⟨O,ts,ρ,T,w1,T1,hc,re,e1,λv1 H1 s1 YN r1=>?_⟩;split at e
 .rename_i b hb
  have hw:=mI hb;subst hw;cases (r1);cases e;exact⟨_,rfl,q _ H1 s1 YN (.bl _)⟩
 .cases e
noncomputable def dQ(c:FT)(f g:FE):FE:=λρ T=>YS (c ρ T) λb T1=>if b=G3 then f ρ T1 else g ρ T1
noncomputable def fG(hc:DT X c ta)(ha:DE X a fa)(hb:DE X b fb):DE X (.IfExp c a b pos) (dQ ta fa fb):=by
 refine⟨?_⟩;refine bi (zax hc.pe ha.pe hb.pe) λσ H Q=>?_;rintro⟨O,ts,ρ,T,w,T',hc,re,e,q⟩;obtain⟨b1,T1,e1,e⟩:=aG e;refine⟨O,ts,ρ,T,b1,T1,hc,re,e1,λH1 s1 YN=>?_⟩
 cases b1 with
 |true=>exact iS ⟨O,ts,ρ,T1,w,T',YN,re.mono hc s1,by simpa using e,λv H2 s2 YY r2=>q v H2 (s1.trans s2) YY r2⟩
 |false=>exact iT ⟨O,ts,ρ,T1,w,T',YN,re.mono hc s1,by simpa using e,λv H2 s2 YY r2=>q v H2 (s1.trans s2) YY r2⟩
noncomputable def zex(hr:I0 X (unaryOp op) r)(snd:LJ X.K r g1)(ha:DE X a fa):DE X (.UnaryOp op a pos) (Zq g1 fa):=by
 refine⟨?_⟩;refine bi (zbe hr ha.pe) λσ H Q=>?_;rintro⟨O,ts,ρ,T,w,T',hc,re,e,q⟩;obtain⟨w1,T1,e1,e⟩:=aG e;obtain⟨x,d,h1,h3,rfl,rfl⟩:=kA e;refine⟨O,ts,ρ,T,w1,T',hc,re,e1,λv1 H1 s1 YN r1=>?_⟩;exact snd O ts H1 T' v1 x d Q YN (YN.view r1 h1) h3 λv H' s3 ZA r3=>q v H' (s1.trans s3) ZA r3
end
noncomputable def ag:FA:=λ_ T=>KQ ([],T)
noncomputable def ab(f:FE)(g:FA):FA:=λρ T=>YS (f ρ T) λw T1=>YS (g ρ T1) λws T2=>KQ (w::ws,T2)
noncomputable def fH:List W->Option (List OY)
 |[]=>KQ []
 |.d x::r=>match fH r with
  |some xs=>KQ (x::xs)
  |none=>HA
 |_::_=>HA
theorem oh{K:Frag}{O:Addr->Prop}{ts:List Addr}{H:Hp}:∀{vs:List V}{ws:List W}{xs:List OY},gZ K O ts H vs ws->fH ws=KQ xs->YK K O H vs xs
 |_,[],_,.nil,e=>by cases e;exact .nil
 |_,.d x::r,xs,.cons h t,e=>by
  unfold fH at e;split at e
  .rename_i ys h2
   cases e;exact .cons h (oh t h2)
  .cases e
 |_,.tp _::_,_,.cons _ _,e=>by cases e
 |_,.loc _::_,_,.cons _ _,e=>by cases e
noncomputable def av(mk:List OY->OY)(f:FA):FE:=λρ T=>YS (f ρ T) λws T1=>match fH ws with
 |some xs=>if xs.length<=1000 then KQ (.d (mk xs),T1) else HA
 |none=>HA
def sA(h:n<=1000):n<=sizeLine:=PB h (by decide)
def fI(X:Cx)(f:O9)(g:List OY->Option OY):Prop:=∃r,Zf X f r/\∀(O:Addr->Prop) (ts:List Addr) (H:Hp) (T:Tp) (vs:List V) (xs:List OY) (d:OY) (Q:VK),HC X.K O ts H T->Kr X.K O H vs xs->g xs=KQ d ->
 (∀v H',YM ts H H'->HC X.K O ts H' T->Rep X.K O H' v d->Q v H')->r vs H Q
noncomputable def Zy(g:List OY->Option OY)(f:FA):FE:=λρ T=>YS (f ρ T) λws T1=>match views T1 ws with
 |some xs=>match g xs with
  |some d=>KQ (.d d,T1)
  |none=>HA
 |none=>HA
section
variable {X:Cx}{pos p:Pos}{e:Expr}{es:List Expr}{f:FE}{g:FA}
noncomputable def aC:DA X [] ag:=by
 refine⟨?_⟩;refine zts br λσ H Q=>?_;rintro⟨O,ts,ρ,T,w,T',hc,re,e,q⟩;cases e;exact q [] H (.refl _ _) hc .nil
noncomputable def ao(ha:DE X e f)(hr:DA X es g)(hs:autoParam (Pi (e::es) X.env=(Gy,eval e X.env)::Pi es X.env) u13):DA X (e::es) (ab f g):=by
 refine⟨?_⟩;refine zts (aV ha.pe hr.pe hs) λσ H Q=>?_;rintro⟨O,ts,ρ,T,w,T',hc,re,e,q⟩;obtain⟨w1,T1,e1,e⟩:=aG e;obtain⟨ws,T2,e2,e⟩:=aG e;cases e;refine⟨O,ts,ρ,T,w1,T1,hc,re,e1,λv1 H1 s1 YN r1=>?_⟩;exact⟨O,ts,ρ,T1,ws,_,YN,re.mono hc s1,e2,λvs H2 s2 YY r2=>q _ H2 (s1.trans s2) YY (.cons (r1.mono YN s2) r2)⟩
noncomputable def ztw(e:av mk g ρ T=KQ (w,T')):∃ws xs,g ρ T=KQ (ws,T')/\fH ws=KQ xs/\xs.length<=1000/\w=.d (mk xs):=by
 obtain⟨ws,T1,e1,e⟩:=aG e
 split at e<;>simp_all
noncomputable def bX{x1}(h:DA X es g):DE X (.Tuple es x1 pos) (av .tuple g):=by
 refine⟨?_⟩;refine bi (zsf h.pe) λσ H Q=>?_;rintro⟨O,ts,ρ,T,w,T',hc,re,e,q⟩;obtain⟨ws,xs,e1,h1,h2,rfl⟩:=ztw e;refine⟨O,ts,ρ,T,ws,T',hc,re,e1,λvs H1 s1 YN r1=>?_⟩;have rs:=oh r1 h1;refine⟨sA (by rw[rs.length];exact h2),λp hp=>?_⟩;exact q _ _ (s1.trans (.new hp _)) (YN.new hp _) (YN.newT hp rs)
noncomputable def cR(h:DA X es g):DE X (.List es pos) (av .list g):=by
 refine⟨?_⟩;refine bi (ky h.pe) λσ H Q=>?_;rintro⟨O,ts,ρ,T,w,T',hc,re,e,q⟩;obtain⟨ws,xs,e1,h1,h2,rfl⟩:=ztw e;refine⟨O,ts,ρ,T,ws,T',hc,re,e1,λvs H1 s1 YN r1=>?_⟩;have rs:=oh r1 h1;refine⟨sA (by rw[rs.length];exact h2),λp hp=>?_⟩;exact q _ _ (s1.trans (.new hp _)) (YN.new hp _) (YN.newL hp rs)
noncomputable def ztx{K:Frag}{r:List V->Hp->VK->Prop}{gg:List OY->Option OY}(snd:∀(O:Addr->Prop) (ts:List Addr) (H:Hp) (T:Tp) (vs:List V) (xs:List OY) (d:OY) (Q:VK),HC K O ts H T->Kr K O H vs xs->gg xs=KQ d ->
  (∀v H',YM ts H H'->HC K O ts H' T->Rep K O H' v d->Q v H')->r vs H Q) {σ:L2.St}{H:Hp}{Q:VK} (h:lift K (Zy gg g) σ H Q):xt r (t6 K g) σ H Q:=by
 obtain⟨O,ts,ρ,T,w,T',hc,re,e,q⟩:=h;obtain⟨ws,T1,e1,e⟩:=aG e;refine⟨O,ts,ρ,T,ws,T1,hc,re,e1,λvs H1 s1 YN r1=>?_⟩;split at e
 .rename_i xs h1
  split at e
  .rename_i d h2
   cases e;exact snd O ts H1 T' vs xs d Q YN (YN.views r1 h1) h2 λv H' s3 ZA r3=>q v H' (s1.trans s3) ZA r3
  .cases e
 .cases e
noncomputable def eJ{x:Str}{id:String}{gg:List OY->Option OY}(hc:fI X (.builtin id) gg)(hg:Gl X x)(hm:X.mg x=HA)(hv:Rx x=KQ (.builtin id))(ha:DA X (e::es) g)(hn:autoParam (x≠"__name__") u11)(ZG:autoParam ((x == ("__debug__" : Str))=Gy) u11)
  (he:autoParam (Pi (e::es) X.env=(Gy,eval e X.env)::Pi es X.env) u13) (Zv:autoParam ((Qj pos (Pi es X.env)).any (·.1)=Gy) u14):DE X (.Call (.Name x p) (e::es) [] pos) (Zy gg g):=by
 refine⟨?_⟩;obtain⟨r,hr,snd⟩:=hc;exact bi (zsm hr hg hm hv ha.pe hn ZG he Zv) λσ H Q h=>ztx snd h
noncomputable def dB{x:Str}{id:String}{gg:List OY->Option OY}(hc:fI X (.type id) gg)(hg:Gl X x)(hm:X.mg x=HA)(hv:Rx x=KQ (.type id))(ha:DA X (e::es) g)(hn:autoParam (x≠"__name__") u11)(ZG:autoParam ((x == ("__debug__" : Str))=Gy) u11)
  (he:autoParam (Pi (e::es) X.env=(Gy,eval e X.env)::Pi es X.env) u13) (Zv:autoParam ((Qj pos (Pi es X.env)).any (·.1)=Gy) u14):DE X (.Call (.Name x p) (e::es) [] pos) (Zy gg g):=by
 refine⟨?_⟩;obtain⟨r,hr,snd⟩:=hc;exact bi (zsn hr hg hm hv ha.pe hn ZG he Zv) λσ H Q h=>ztx snd h
end
abbrev FI:=YR->Tp->Option (List OY×Tp)
noncomputable def Ly(K:Frag)(tl:TE):TI:=λσ H R=>tl σ H λx H1=>(∃a xs,x=.ref a/\Zc K H1 a xs/\(xs.length<=Ph->R (KP K a) H1))\/(∃a xs,x=.ref a/\ZJ K H1 a xs/\(xs.length<=Ph->R (zo K a) H1))\/(∃z,x=.str z/\R (DZ z) H1)\/∃a o kvs,x=.ref a/\H1 a=KQ (.frz o (.dK kvs))/\(kvs.length<=Ph->R (yt a o kvs) H1)
noncomputable def zey(hl:PE X l tl):PI X tg l (Ly X.K tl):=by
 intro pins s σ H R I h;refine YZ (hl pins s σ H _ I h) λv s1 ⟨x,H1,I1,r1,q1⟩=>?_
 have fk:∀b∈[s1.heap.objs.size],cY X pins H1 b:=λb hb=>by
  have e:b=s1.heap.objs.size:=by simpa using hb
  subst e;exact I1.fpOk (Pk _) (I1.hok.fresh (Pk _))
 rcases q1 with⟨a,xs,e,hq,q⟩|⟨a,xs,e,hq,q⟩|⟨z,e,q⟩|⟨a,o,kvs,e,hq,q⟩
 .subst e
  cases r1;obtain⟨YL,rv,p,hz⟩:=I1.list hq;refine Sq p.isList ?_;exact⟨s1.heap.objs.size,[s1.heap.objs.size],_,_,H1,rfl,I1.kept (t':=s1.toks) λb o e=>Pd _ e,zrv a _,⟨_,Pw _ rfl,rfl,rfl⟩,fk,q hz⟩
 .subst e
  cases r1;obtain⟨YL,rv,p,hz⟩:=I1.tuple hq;refine Ui (show s1.heap.IsTuple a YL.toArray from p) ?_;exact⟨s1.heap.objs.size,[s1.heap.objs.size],_,_,H1,rfl,I1.kept (t':=s1.toks) λb o e=>Pd _ e,zba a _,⟨_,Pw _ rfl,rfl,rfl⟩,fk,q hz⟩
 .subst e
  obtain⟨t,rfl⟩:=r1
  cases ha:z.cps.all (· < 128) with
  |false=>
   refine wpAny_pyIter_wide ha ?_;exact⟨s1.heap.objs.size,[s1.heap.objs.size],_,_,H1,rfl,I1.kept (t':=s1.toks) λb o e=>Pd _ e,ztn z t "str_iterator" _ (.inr rfl),⟨_,Pw _ rfl,rfl,rfl⟩,fk,q⟩
  |true=>
   refine wpAny_pyIter_ascii ha ?_;exact⟨s1.heap.objs.size,[s1.heap.objs.size],_,_,H1,rfl,I1.kept (t':=s1.toks) λb o e=>Pd _ e,ztn z t "str_ascii_iterator" _ (.inl rfl),⟨_,Pw _ rfl,rfl,rfl⟩,fk,q⟩
 .subst e
  cases r1;obtain⟨z,y,vs,kv,dd⟩:=qX I1.hok hq;refine wpAny_pyIter_dict y dd ?_;exact⟨s1.heap.objs.size,[s1.heap.objs.size],_,_,H1,rfl,I1.kept (t':=s1.toks) λb o e=>Pd _ e,zeq a _ o kvs,⟨_,Pw _ rfl,rfl,by rw[kv.length];rfl⟩,fk,q z⟩
def Z9(K:Frag)(O:Addr->Prop)(H1:Hp)(J:It)(ds:List OY):Prop:=∀O' H',Le O H1 O' H'->(∀i,i<ds.length->J.go i H')/\J.stop ds.length H'/\∀i v Ek,J.yld i H' v Ek->i<ds.length->Ek=H'/\∃d,ds[i]? = KQ d/\Rep K O' H' v d
inductive KR(K:Frag)(f:FI)(σ:L2.St)(H:Hp)(R:It->Hp->Prop):Prop where
 |mk (O:Addr->Prop) (ts:List Addr) (ρ:YR) (T:Tp) (ds:List OY) (T':Tp) (hc:HC K O ts H T) (re:Zu K O ts H σ ρ) (e:f ρ T=KQ (ds,T')) (q:∀J H1,YM ts H H1->HC K O ts H1 T'->Z9 K O H1 J ds->ds.length<=Ph->R J H1):KR K f σ H R
def AG(K:Frag)(f:FI):TI:=λσ H R=>KR K f σ H R
structure DI(X:Cx)(tg e:Expr)(f:FI):Prop where
 pe:PI X tg e (AG X.K f)
noncomputable def zty(h:PI X tg e t)(i:∀σ H Q,t' σ H Q->t σ H Q):PI X tg e t':=λpins s σ H Q I q=>h pins s σ H Q I (i σ H Q q)
noncomputable def signs(z:Str):List PyData:=z.cps.toList.map λc=>.str ⟨#[c]⟩
noncomputable def jr:OY->Option (List OY)
 |.list xs=>KQ xs
 |.tuple xs=>KQ xs
 |.str z=>if z.length<=Ph then KQ (signs z) else HA
 |.dict ds=>KQ (ds.map (·.1))
 |_=>HA
noncomputable def bE(f:FE):FI:=λρ T=>YS (f ρ T) λw T1=>match w with
 |.d x=>match jr x with
  |some xs=>KQ (xs,T1)
  |none=>HA
 |_=>HA
def Z9.lst{K:Frag}{O:Addr->Prop}{H1:Hp}{a:Addr}{vs:List V}{ds:List OY}(h:LstAt K O H1 a vs)(r:YK K O H1 vs ds):Z9 K O H1 (KP K a) ds:=λO' H' le=>by
 have sq:=(h.mono le).sq;have hl:=r.length;refine⟨λi hi=>⟨vs,vs[i]'(by lia),sq,by simp⟩,⟨vs,sq,by lia⟩,λi v Ek y hi=>?_⟩;obtain⟨e,y⟩:=y;obtain⟨d,h1,h2⟩:=r.get (y vs sq);exact⟨e,d,h1,h2.mono le⟩
def Z9.tup{K:Frag}{O:Addr->Prop}{H1:Hp}{a:Addr}{vs:List V}{ds:List OY}(h:TupAt K O H1 a vs)(r:YK K O H1 vs ds):Z9 K O H1 (zo K a) ds:=λO' H' le=>by
 have sq:=(h.mono le).sq;have hl:=r.length;refine⟨λi hi=>⟨vs,vs[i]'(by omega),sq,by simp⟩,⟨vs,sq,by omega⟩,λi v Ek y hi=>?_⟩;obtain⟨e,y⟩:=y;obtain⟨d,h1,h2⟩:=r.get (y vs sq);exact⟨e,d,h1,h2.mono le⟩
theorem Z9.str{K:Frag}{O:Addr->Prop}{H1:Hp}{z:Str}:Z9 K O H1 (DZ z) (signs z):=λO' H' le=>by
 have hl:(signs z).length=z.cps.size:=by simp[signs]
 refine⟨λi hi=>by rw[hl] at hi;exact hi,by rw[hl];exact Pk _,λi v Ek y hi=>?_⟩;obtain⟨e,c,hc,y⟩:=y;subst y;refine⟨e,.str _,?_,.str _⟩
 unfold signs<;>simp_all
theorem qN{K:Frag}{O:Addr->Prop}{H:Hp}:∀{kvs:List (Key×V)}{ds:List (OY×OY)},Zh K O H kvs ds->kvs.length=ds.length
 |_,_,.nil=>rfl
 |_,_,.cons _ t=>congrArg _ (qN t)
theorem ztz{K:Frag}{O:Addr->Prop}{H:Hp}:∀{kvs:List (Key×V)}{ds:List (OY×OY)}{i:Nat}{k:Key}{v:V},Zh K O H kvs ds->kvs[i]? = KQ (k,v)->(ds.map (·.1))[i]? = KQ (Zn k)
 |_,_,_,_,_,.nil,e=>by simp at e
 |_,_,0,_,_,.cons r _,e=>by simp at e;obtain⟨rfl,rfl⟩:=e;rfl
 |_,_,i+1,k,v,.cons _ t,e=>by
  have:=ztz  t (by simpa using e)<;>simp_all
noncomputable def zez{K:Frag}{O:Addr->Prop}{H:Hp}(k:Key):Rep K O H (kV k) (Zn k):=by
 cases k with
 |inl i=>exact .int i
 |inr x=>exact .str x
def Z9.dct{K:Frag}{O:Addr->Prop}{H1:Hp}{a:Addr}{o:Obj}{kvs:List (Key×V)}{ds:List (OY×OY)}(n:¬O a)(h:H1 a=KQ (.frz o (.dK kvs)))(r:Zh K O H1 kvs ds):Z9 K O H1 (yt a o kvs) (ds.map (·.1)):=λO' H' le=>by
 have h':=(le a _ n h).2;have hl:=qN r;refine⟨λi hi=>⟨h',by simp_all⟩,⟨h',by simp[hl]⟩,λi v Ek y hi=>?_⟩;obtain⟨e,k,v0,y1,y2⟩:=y;subst y2;exact⟨e,_,ztz r y1,zez k⟩
noncomputable def cM(h:DE X e f):DI X tg e (bE f):=by
 refine⟨?_⟩;refine zty (zey h.pe) λσ H R=>?_;rintro⟨O,ts,ρ,T,ds,T',hc,re,e,q⟩;obtain⟨w1,T1,e1,e⟩:=aG e;refine⟨O,ts,ρ,T,w1,T1,hc,re,e1,λv1 H1 s1 YN r1=>?_⟩;split at e
 .rename_i x
  split at e
  .rename_i xs h1
   cases e;have rr:Rep X.K O H1 v1 x:=r1
   cases x with
   |list ys=>
    cases h1
    cases rr with
    |lst t r=>exact .inl ⟨_,_,rfl,t.sq,λhz=>q _ H1 s1 YN (.lst t r) (by rw[←r.length];exact hz)⟩
   |tuple ys=>
    cases h1
    cases rr with
    |tup t r=>exact .inr (.inl ⟨_,_,rfl,t.sq,λhz=>q _ H1 s1 YN (.tup t r) (by rw[←r.length];exact hz)⟩)
   |str z=>
    have Ii:(if z.length<=Ph then KQ (signs z) else HA)=KQ _:=h1;split at Ii
    .rename_i hz
     cases Ii;cases rr;exact .inr (.inr (.inl ⟨z,rfl,q _ H1 s1 YN .str (by rw[show (signs z).length=z.cps.size by simp[signs]];exact hz)⟩))
    .cases Ii
   |dict ys=>
    cases h1
    cases rr with
    |dct n t r=>exact .inr (.inr (.inr ⟨_,_,_,rfl,t,λhz=>q _ H1 s1 YN (.dct n t r) (by rw[PY,←qN r];exact hz)⟩))
   |_=>cases h1
  .cases e
 .cases e
noncomputable def dF(lo:Int)(n:Nat):List PyData:=(RT n).map λ(i:Nat)=>.int (lo+(i:Int))
def Z9.rng{K:Frag}{O:Addr->Prop}{H1:Hp}{lo:Int}{n:Nat}:Z9 K O H1 (Ju lo n) (dF lo n):=λO' H' le=>by
 have hl:(dF lo n).length=n:=by simp[dF]
 refine⟨λi hi=>by rw[hl] at hi;exact hi,by rw[hl];exact Pk _,λi v Ek y hi=>?_⟩;obtain⟨e,y⟩:=y;subst y;rw[hl] at hi;exact⟨e,.int _,by simp[dF,hi],.int _⟩
noncomputable def iK(j:Int):Bool:=decide (-1000000<=j/\j<=16777216)
noncomputable def zfa(h:iK j=G3) : -(2^62)<=j/\j<2^62/\j.toNat<=sizeLine:=by
 have h':=of_decide_eq_true h;have e:Ph=16777216:=rfl
 lia
noncomputable def fE(f:FE):FI:=λρ T=>YS (f ρ T) λw T1=>match w with
 |.d (.int j)=>if iK j=G3 then KQ (dF 0 j.toNat,T1) else HA
 |_=>HA
noncomputable def kj(hg:Gl X "range")(hm:X.mg "range"=HA)(ha:DE X a f)(hs:Pi [a] X.env=[(Gy,eval a X.env)]:=by exact ztq rfl):DI X tg (.Call (.Name "range" p) [a] [] pos) (fE f):=by
 refine⟨?_⟩;refine zty (nN  hg hm (aV ha.pe br (by rw[hs];rfl)) hs) λσ H R=>?_;rintro⟨O,ts,ρ,T,ds,T',hc,re,e,q⟩;obtain⟨w1,T1,e1,e⟩:=aG e;refine⟨O,ts,ρ,T,w1,T1,hc,re,e1,λv1 H1 s1 YN r1=>?_⟩;split at e
 .rename_i j
  split at e
  .rename_i h1
   cases e;cases (r1);obtain⟨b1,b2,b3⟩:=zfa h1;exact⟨j,rfl,b1,b2,q _ H1 s1 YN .rng (by simpa[dF] using b3)⟩
  .cases e
 .cases e
noncomputable def bH(c:FT)(e:FE)(ρ:YR):List OY->Tp->Option (List OY×Tp)
 |[],T=>KQ ([],T)
 |d::r,T=>YS (c (KQ (.d d)::ρ) T) λb T1=>if b=G3 then YS (e (KQ (.d d)::ρ) T1) λw T2=>match w with
   |.d y=>YS (bH c e ρ r T2) λys T3=>KQ (y::ys,T3)
   |_=>HA
  else bH c e ρ r T1
noncomputable def bY(it:FI)(c:FT)(e:FE):FE:=λρ T=>YS (it ρ T) λds T1=>YS (bH c e ρ ds T1) λys T2=>KQ (.d (.list ys),T2)
noncomputable def bU:FT:=λ_ T=>KQ (G3,T)
def Zu.cons{K:Frag}{O:Addr->Prop}{ts:List Addr}{H:Hp}{σ:L2.St}{ρ:YR}{v:V}{d:OY}(re:Zu K O ts H σ ρ)(r:Rep K O H v d):Zu K O ts H (KQ v::σ) (KQ (.d d)::ρ):=λi w e=>by
 cases i with
 |zero=>cases e;exact⟨v,rfl,r⟩
 |succ i=>
  obtain⟨u,h1,h2⟩:=re i w (by simpa using e);exact⟨u,by simpa using h1,h2⟩
def Zu.conss{K:Frag}{O:Addr->Prop}{ts:List Addr}{H:Hp}{σ:L2.St}{ρ:YR}(re:Zu K O ts H σ ρ):∀{vs:List V}{ds:List OY},YK K O H vs ds->Zu K O ts H (vs.map some++σ) (ds.map (λd=>KQ (.d d))++ρ)
 |_,_,.nil=>re
 |_,_,.cons r rs=>(re.conss rs).cons r
noncomputable def cpU(u:OY->Option (List OY))(c:FT)(e:FE)(ρ:YR):List OY->Tp->Option (List OY×Tp)
 |[],T=>KQ ([],T)
 |d::r,T=>match u d with
  |none=>HA
  |some ps=>YS (c (ps.map (λd=>KQ (.d d))++ρ) T) λk T1=>if k=G3 then YS (e (ps.map (λd=>KQ (.d d))++ρ) T1) λw T2=>match w with
   |.d y=>YS (cpU u c e ρ r T2) λys T3=>KQ (y::ys,T3)
   |_=>HA
  else cpU u c e ρ r T1
noncomputable def zuU{uu:OY->Option (List OY)}{nn:Nat}{gg:TG}{K:Frag}{O:Addr->Prop}{ts:List Addr}{H1:Hp}{σ:L2.St}{ρ:YR}{J:It}{c:FT}{e:FE}{ds ys:List OY}{T1 T2:Tp}{Dn:List V->Hp->Prop}(hc:HC K O ts H1 T1)(re:Zu K O ts H1 σ ρ)(ok:Z9 K O H1 J ds)(hz:ds.length<=Ph)
  (hgg:∀v d ps H EG Q,Rep K O H v d->uu d=KQ ps->EG.length=nn->(∀vs,YK K O H vs ps->vs.length=nn->Q (vs.map some++σ) H)->gg v (EG++σ) H Q)(ee:cpU uu c e ρ ds T1=KQ (ys,T2)) (q:∀vs H',YM ts H1 H'->HC K O ts H' T2->YK K O H' vs ys->Dn vs H') :
  ∃W:Nat->Nat->List V->Hp->Prop,(∃m,W 0 m [] H1)/\tP nn gg σ J (liftT K c) (lift K e) W Dn:=by
 refine⟨λi m vs H'=>m=ds.length-i/\i<=ds.length/\vs.length<=i/\∃T dn rs,YM ts H1 H'/\HC K O ts H' T/\YK K O H' vs dn/\cpU uu c e ρ (ds.drop i) T=KQ (rs,T2)/\ys=dn++rs,⟨_,rfl,Ql _,Pk _,T1,[],ys,.refl _ _,hc,.nil,ee,rfl⟩,?_⟩;rintro i m vs H' ⟨rfl,hi,hv,T,dn,rs,s1,YN,rv,ec,ey⟩;obtain⟨k1,k2,k3⟩:=ok O H' (hc.le s1)
 by_cases ZM:i<ds.length
 .refine .inr ⟨k1 i ZM,by lia,λFp H2=>i+1<=ds.length/\Fp.length<=i+1/\∃T dn rs,YM ts H1 H2/\HC K O ts H2 T/\YK K O H2 Fp dn/\cpU uu c e ρ (ds.drop (i+1)) T=KQ (rs,T2)/\ys=dn++rs,λFp H2 n=>⟨ds.length-(i+1),by lia,rfl,n⟩,λv H2 y EG hσ=>?_⟩
  obtain⟨e2,d,hd,rd⟩:=k3 i v H2 y ZM;subst e2
  rw[QM ZM,(Pa.mp hd).2,cpU] at ec;split at ec
  .cases ec
  rename_i ps hp;refine hgg v d ps H2 EG _ rd hp hσ λus ru hu=>⟨⟨us.map some,by simpa using hu,rfl⟩,?_⟩;obtain⟨b,T3,e3,ec⟩:=aG ec;have re2:=(re.mono hc s1).conss ru;refine⟨O,ts,_,T,b,T3,YN,re2,e3,λH3 s3 ZA=>?_⟩
  cases b with
  |false=>
   rw[if_neg Pz] at ec;exact iT ⟨ZM,by lia,T3,dn,rs,s1.trans s3,ZA,rv.mono (YN.le s3),ec,ey⟩
  |true=>
   rw[if_pos rfl] at ec;obtain⟨w,T4,e4,ec⟩:=aG ec;refine iS ⟨O,ts,_,T3,w,T4,ZA,re2.mono YN s3,e4,λu H4 s4 FX r4=>?_⟩;split at ec
   .rename_i y
    obtain⟨zs,T5,e5,ec⟩:=aG ec;cases ec;refine⟨ZM,by simp_all,T4,dn++[y],zs,s1.trans (s3.trans s4),FX,(rv.mono (YN.le (s3.trans s4))).append (.cons r4 .nil),e5,by rw[ey];simp⟩
   .cases ec
 .have e:i=ds.length:=by lia
  subst e;rw[Q6 (Pk _)] at ec;cases ec;rw[QJ] at ey;subst ey;exact .inl ⟨k2,by lia,q vs H' s1 YN rv⟩
theorem bHu{c:FT}{e:FE}{ρ:YR}:∀{l:List OY}{T:Tp},bH c e ρ l T=cpU (λd=>KQ [d]) c e ρ l T
 |[],_=>rfl
 |_::r,_=>by simp only[bH,cpU,bHu (l:=r)];rfl
noncomputable def zua{K:Frag}{O:Addr->Prop}{ts:List Addr}{H1:Hp}{σ:L2.St}{ρ:YR}{J:It}{c:FT}{e:FE}{ds ys:List OY}{T1 T2:Tp}{Dn:List V->Hp->Prop}(hc:HC K O ts H1 T1)(re:Zu K O ts H1 σ ρ)(ok:Z9 K O H1 J ds)(hz:ds.length<=Ph)
  (ee:bH c e ρ ds T1=KQ (ys,T2)) (q:∀vs H',YM ts H1 H'->HC K O ts H' T2->YK K O H' vs ys->Dn vs H') :
  ∃W:Nat->Nat->List V->Hp->Prop,(∃m,W 0 m [] H1)/\tP 1 (pL 0) σ J (liftT K c) (lift K e) W Dn:=
 zuU hc re ok hz (λv d ps H EG Q r e h z=>by cases e;match EG,h with |[_],_=>exact z [v] (.cons r .nil) rfl) (bHu ▸ ee) q
structure Eg(X:Cx)(es:List Expr)(f:FT):Prop where
 pe:Fw X es (liftT X.K f)
noncomputable def sI:Eg X [] bU:=⟨λpins s σ H Q E I h=>by
 refine zed pins s σ H Q E I ?_;obtain⟨O,ts,ρ,T,w,T',hc,re,e,q⟩:=h;cases e
 exact q H (.refl _ _) hc⟩
noncomputable def sH(hx:X.xe=λ_ _=>False)(h:DT X c f):Eg X [c] f:=⟨zee hx h.pe⟩
noncomputable def zfb(S:CS osc N x scope N')(hi:DI X (.Name x px) iter it)
  (he:∀C s0 H0 ex,DE (cj X x scope C s0 H0 ex N') elt f) (ht:∀C s0 H0 ex,Eg (cj X x scope C s0 H0 ex N') ifs c) (hc:autoParam (X.calm=G3) u10) (hs:autoParam (X.env.scope=osc) u10) (hN:autoParam (X.N=N) u10)
  (hf:autoParam (∀v,Qh iter X.env v=pure v) u16):DE X (.ListComp elt [⟨.Name x px,iter,ifs,0⟩] scope pos) (bY it c f):=by
 refine⟨?_⟩;refine bi (zem  (tt:=liftT X.K c) (te:=lift X.K f) S hi.pe (λC s0 H0 ex=>(he C s0 H0 ex).pe) (λC s0 H0 ex=>(ht C s0 H0 ex).pe) hc hs hN hf) λσ H Q=>?_;rintro⟨O,ts,ρ,T,w,T',hc,re,e,q⟩;obtain⟨ds,T1,e1,e⟩:=aG e;obtain⟨ys,T2,e2,e⟩:=aG e;cases e;refine⟨O,ts,ρ,T,ds,T1,hc,re,e1,λJ H1 s1 YN ok hz=>?_⟩;exact zua YN (re.mono hc s1) ok hz e2 λvs H' s2 YY r2 p hp=>q _ _ (s1.trans (s2.trans (.new hp _))) (YY.new hp _) (YY.newL hp r2)
inductive Fl where
 |nx|rt (x:OY)|ro (x:OY)|bk|ct
abbrev FS:=YR->Tp->Option ((Fl×YR)×Tp)
structure RS(K:Frag)(Ey:Addr->Prop)(H₀:Hp)(F:List ((Addr->Prop)×Hp))(ts:List Addr)(O:Addr->Prop)(H:Hp)(σ:L2.St)(ρ:YR)(T:Tp):Prop where
 hc:HC K O ts H T
 re:Zu K O ts H σ ρ
 sub:∀b,Ey b->O b
 ots:∀b∈ts,Ey b
 same:YM ts H₀ H
 fresh:∀(i:Nat) (xs:OY) (a:Addr),ρ[i]? = KQ (KQ (.loc xs))->σ[i]? = KQ (KQ (.ref a))->H₀ a=HA/\¬Ey a
 dist:∀(i j:Nat) (xs ys:OY) (v:V),ρ[i]? = KQ (KQ (.loc xs))->ρ[j]? = KQ (KQ (.loc ys))->σ[i]? = KQ (KQ v)->σ[j]? = KQ (KQ v)->i=j
 frs:∀f∈F,Le f.1 f.2 O H
 len:σ.length=ρ.length
noncomputable def BW(K:Frag)(O A:Addr->Prop)(H:Hp)(v:V):OY->Prop
 |.tuple [x,y]=>∃p a b,v=.ref p/\a≠b/\(∀c,A c↔c=a\/c=b)/\¬O p/\H p=KQ (.tup [.ref a,.ref b])/\Zz K O H a x/\Zz K O H b y
 |.none=>v=.non/\∀c,¬A c
 |x=>∃a,v=.ref a/\(∀c,A c↔c=a)/\Zz K O H a x
theorem BW.mono{K:Frag}{O O' A:Addr->Prop}{H:Hp}{v:V}{x:OY}(le:Le O H O' H)(h:BW K O A H v x):BW K O' A H v x:=by
 unfold BW at h ⊢;split at h
 .obtain⟨p,a,b,e1,e2,e3,np,hp,oa,ob⟩:=h
  exact⟨p,a,b,e1,e2,e3,(le p _ np hp).1,hp,oa.mono (λ_ h=>h) le,ob.mono (λ_ h=>h) le⟩
 .exact h
 .obtain⟨a,e,hA,oa⟩:=h
  exact⟨a,e,hA,oa.mono (λ_ h=>h) le⟩
noncomputable def AX(K:Frag)(Ey:Addr->Prop)(H₀:Hp)(F:List ((Addr->Prop)×Hp))(ts:List Addr)(D:Ends)(ρ':YR)(T':Tp):Fl->Prop
 |.nx=>∀O' σ' H',RS K Ey H₀ F ts O' H' σ' ρ' T'->D.nx σ' H'
 |.bk=>∀O' σ' H',RS K Ey H₀ F ts O' H' σ' ρ' T'->D.bk σ' H'
 |.ct=>∀O' σ' H',RS K Ey H₀ F ts O' H' σ' ρ' T'->D.ct σ' H'
 |.rt x=>∀v H',YM ts H₀ H'->HC K Ey ts H' T'->Rep K Ey H' v x->D.rt v H'
 |.ro x=>∀(A:Addr->Prop) v H',YM ts H₀ H'->(∀b,A b->H₀ b=HA/\¬Ey b)->HC K (λb=>Ey b\/A b) ts H' T'->BW K (λb=>Ey b\/A b) A H' v x->D.rt v H'
inductive KU(K:Frag)(f:FS)(D:Ends)(σ:L2.St)(H:Hp):Prop where
 |mk (Ey:Addr->Prop) (H₀:Hp) (F:List ((Addr->Prop)×Hp)) (ts:List Addr) (O:Addr->Prop) (ρ:YR) (T:Tp) (fl:Fl) (ρ':YR) (T':Tp) (rs:RS K Ey H₀ F ts O H σ ρ T) (e:f ρ T=KQ ((fl,ρ'),T')) (q:AX K Ey H₀ F ts D ρ' T' fl):KU K f D σ H
def t5(K:Frag)(f:FS):TS:=λD σ H=>KU K f D σ H
structure DS(X:Cx)(s:Stmt)(f:FS):Prop where
 pe:PS X s (t5 X.K f)
structure GN(X:Cx)(s:List Stmt)(f:FS):Prop where
 pe:Kl X s (t5 X.K f)
noncomputable def dO(h:PS X e t)(i:∀D σ H,t' D σ H->t D σ H):PS X e t':=λpins s σ H D I q=>h pins s σ H D I (i D σ H q)
noncomputable def ou(h:Kl X e t)(i:∀D σ H,t' D σ H->t D σ H):Kl X e t':=λpins s σ H D I q=>h pins s σ H D I (i D σ H q)
section
variable {K:Frag}{Ey:Addr->Prop}{H₀:Hp}{F:List ((Addr->Prop)×Hp)}{ts:List Addr}{O:Addr->Prop}{H H1:Hp}{σ:L2.St}{ρ:YR}{T T1:Tp}
def RS.step(r:RS K Ey H₀ F ts O H σ ρ T)(s:YM ts H H1)(c:HC K O ts H1 T1):RS K Ey H₀ F ts O H1 σ ρ T1 where
 hc:=c
 re:=r.re.mono r.hc s
 sub:=r.sub
 ots:=r.ots
 same:=r.same.trans s
 fresh:=r.fresh
 dist:=r.dist
 frs:=λf hf=>(r.frs f hf).trans (r.hc.le s)
 len:=r.len
noncomputable def fj{i j:Nat}{w:W}{xs:OY}(hw:∀ys,w≠.loc ys)(e:(ρ.set i (KQ w))[j]? = KQ (KQ (.loc xs))):j≠i/\ρ[j]? = KQ (KQ (.loc xs)):=by
 by_cases z:i=j
 .subst z
  rw[List.getElem?_set_self'] at e<;>simp_all
 .rw[Pj z] at e
  exact⟨λq=>z q.symm,e⟩
theorem RS.set{i:Nat}{v:V}{w:W}(r:RS K Ey H₀ F ts O H σ ρ T)(ZS:ZY K O ts H v w)(hw:∀ys,w≠.loc ys):RS K Ey H₀ F ts O H (σ.set i (KQ v)) (ρ.set i (KQ w)) T where
 hc:=r.hc
 re:=λj u e=>by
  by_cases z:i=j
  .subst z
   have hl:=by
    have:=(Pa.mp e).1;simpa using this
   rw[Pm hl] at e;cases e;exact⟨v,by rw[Pm (by rw[r.len];exact hl)],ZS⟩
  .rw[Pj z] at e
   obtain⟨x,h1,h2⟩:=r.re j u e<;>simp_all
 sub:=r.sub
 ots:=r.ots
 same:=r.same
 fresh:=λj xs a e1 e2=>by
  obtain⟨n,e⟩:=fj hw e1;rw[Pj (P3 n)] at e2;exact r.fresh j xs a e e2
 dist:=λj k xs ys u e1 e2 e3 e4=>by
  obtain⟨n1,e1⟩:=fj hw e1;obtain⟨n2,e2⟩:=fj hw e2;rw[Pj (P3 n1)] at e3;rw[Pj (P3 n2)] at e4;exact r.dist j k xs ys u e1 e2 e3 e4
 frs:=r.frs
 len:=by simp[r.len]
def RS.ownO(r:RS K Ey H₀ F ts O H σ ρ T)(hp:H p=HA)(hm:Ez (KQ o))(rv:Le O H (λb=>O b\/b=p) (upd H p o)->Zz K (λb=>O b\/b=p) (upd H p o) p xs):RS K Ey H₀ F ts (λb=>O b\/b=p) (upd H p o) (σ.set i (KQ (.ref p))) (ρ.set i (KQ (.loc xs))) T:=by
 have le:Le O H (λb=>O b\/b=p) (upd H p o):=λa o n e=>by
  have z:a≠p:=aX e hp;exact⟨λq=>q.elim n z,by rw[aA z];exact e⟩
 have h0:∀{G:Hp},YM ts G H->p∉ts->G p=HA:=λ{G} s nt=>by
  cases e:G p with
  |none=>rfl
  |some o=>rw[s p o nt e] at hp;cases hp
 have nO:=r.hc.fresh hp;have nt:p∉ts:=λz=>nO (r.hc.own p z)
 have old:∀{j:Nat}{v:V}{w:W},σ[j]? = KQ (KQ v)->ZY K O ts H v w->ZY K (λb=>O b\/b=p) ts (upd H p o) v w:=λ{j v w} e q=>by
  cases w with
  |d x=>exact Rep.mono le q
  |tp k=>exact q
  |loc ys=>
   obtain⟨a,e1,h1,h2,h3⟩:=q;exact⟨a,e1,.inl h1,h2,h3.mono (λo' q=>by rw[aA (aX q hp)];exact q) le⟩
 have Ej:∀{j:Nat}{ys:OY},ρ[j]? = KQ (KQ (.loc ys))->σ[j]? = KQ (KQ (.ref p))->False:=λ{j ys} e1 e2=>by
  obtain⟨v,h1,a,ea,h2,h3,h4⟩:=r.re j _ e1;rw[e2] at h1;cases h1;cases ea;obtain⟨o',h5⟩:=h4.some;rw[hp] at h5;cases h5
 refine⟨⟨λb hb=>.inl (r.hc.own b hb),λb hb=>?_,r.hc.nd,r.hc.len,λj a ys e1 e2=>?_⟩,λj w e=>?_,λb hb=>.inl (r.sub b hb),r.ots,r.same.trans (.new hp _),λj ys a e1 e2=>?_,λj k ys zs v e1 e2 e3 e4=>?_,λf hf=>(r.frs f hf).trans le,by simp[r.len]⟩
 .by_cases z:b=p
  .subst z;rw[aQ];exact hm
  .rw[aA z]
   exact r.hc.trk b (hb.resolve_right z)
 .exact(r.hc.tape j a ys e1 e2).mono (λo' h1=>by rw[aA (aX h1 hp)];exact h1) le
 .by_cases z:i=j
  .subst z
   have hl:i<ρ.length:=by
    have:=(Pa.mp e).1;simpa using this
   rw[Pm hl] at e;cases e;exact⟨.ref p,by rw[Pm (by rw[r.len];exact hl)],p,rfl,.inr rfl,nt,rv le⟩
  .rw[Pj z] at e
   obtain⟨x,h1,h2⟩:=r.re j w e;exact⟨x,by rw[Pj z];exact h1,old h1 h2⟩
 .by_cases z:i=j
  .subst z
   have hl:i<ρ.length:=by
    have:=(Pa.mp e1).1;simpa using this
   rw[Pm (by rw[r.len];exact hl)] at e2;cases e2;exact⟨h0 r.same nt,λq=>nO (r.sub _ q)⟩
  .rw[Pj z] at e1 e2
   exact r.fresh j ys a e1 e2
 .by_cases z:i=j
  .by_cases z':i=k
   .rw[←z,←z']
   .exfalso
    subst z
    have hl:i<ρ.length:=by
     have:=(Pa.mp e1).1;simpa using this
    rw[Pm (by rw[r.len];exact hl)] at e3;cases e3;rw[Pj z'] at e2 e4;exact Ej e2 e4
  .by_cases z':i=k
   .exfalso
    subst z'
    have hl:i<ρ.length:=by
     have:=(Pa.mp e2).1;simpa using this
    rw[Pm (by rw[r.len];exact hl)] at e4;cases e4;rw[Pj z] at e1 e3;exact Ej e1 e3
   .rw[Pj z] at e1 e3
    rw[Pj z'] at e2 e4;exact r.dist j k ys zs v e1 e2 e3 e4
def RS.own(r:RS K Ey H₀ F ts O H σ ρ T)(hp:H p=HA)(rv:YK K O H vs xs):RS K Ey H₀ F ts (λb=>O b\/b=p) (upd H p (.lst vs)) (σ.set i (KQ (.ref p))) (ρ.set i (KQ (.loc (.list xs)))) T:=r.ownO hp (.inl ⟨_,rfl⟩) λle=>⟨vs,aQ,rv.mono le⟩
def RS.putO(r:RS K Ey H₀ F ts O H σ ρ T)(e1:ρ[i]? = KQ (KQ (.loc xs)))(e2:σ[i]? = KQ (KQ (.ref a)))(hm:Ez (KQ o))(rv:Le O H O (upd H a o)->Zz K O (upd H a o) a ys):RS K Ey H₀ F ts O (upd H a o) σ (ρ.set i (KQ (.loc ys))) T:=by
 obtain⟨v,z1,a',ea,oa,nt,ha⟩:=r.re i _ e1;rw[e2] at z1;cases z1;cases ea;have hl:i<ρ.length:=(Pa.mp e1).1;obtain⟨f1,f2⟩:=r.fresh i xs a e1 e2;have le:Le O H O (upd H a o):=λb o n e=>⟨n,by rw[aA (show b≠a from λz=>n (by simp_all))];exact e⟩
 have back:∀{j:Nat}{zs:OY},(ρ.set i (KQ (W.loc ys)))[j]? = KQ (KQ (.loc zs))->∃ws,ρ[j]? = KQ (KQ (.loc ws)):=λ{j zs} e=>by
  by_cases z:i=j
  .subst z;exact⟨xs,e1⟩
  .simp_all
 refine⟨⟨r.hc.own,λb hb=>?_,r.hc.nd,r.hc.len,λj b zs q1 q2=>?_⟩,λj w e=>?_,r.sub,r.ots,λb o n e=>?_,λj zs b q1 q2=>?_,λj k zs zs' v q1 q2 q3 q4=>?_,λf hf=>(r.frs f hf).trans le,by simp[r.len]⟩
 .by_cases z:b=a
  .subst z;rw[aQ];exact hm
  .rw[aA z];exact r.hc.trk b hb
 .exact(r.hc.tape j b zs q1 q2).mono (λo' h1=>by rw[aA (show b≠a from λz=>nt (by rw[←z];exact Px q1))];exact h1) le
 .by_cases z:i=j
  .subst z
   rw[Pm hl] at e;cases e;exact⟨.ref a,e2,a,rfl,oa,nt,rv le⟩
  .rw[Pj z] at e
   obtain⟨x,h1,h2⟩:=r.re j w e;refine⟨x,h1,?_⟩
   cases w with
   |d x=>exact Rep.mono le h2
   |tp k=>exact h2
   |loc zs=>
    obtain⟨b,eb,k1,k2,k3⟩:=h2;have n:b≠a:=λq=>z (r.dist i j xs zs (.ref a) e1 e e2 (by rw[h1,eb,q]));exact⟨b,eb,k1,k2,k3.mono (λo' q=>by rw[aA n];exact q) le⟩
 .have:=r.same b o n e
  rw[aA (show b≠a from λz=>by rw[z,f1] at e;cases e)];exact this
 .obtain⟨ws,q⟩:=back q1
  exact r.fresh j ws b q q2
 .obtain⟨ws,q⟩:=back q1
  obtain⟨HK,q'⟩:=back q2;exact r.dist j k ws HK v q q' q3 q4
def RS.put{i:Nat}{a:Addr}{vs us:List V}{xs ys:List OY}(r:RS K Ey H₀ F ts O H σ ρ T)(e1:ρ[i]? = KQ (KQ (.loc (.list xs))))(e2:σ[i]? = KQ (KQ (.ref a)))(rv:YK K O H vs ys):RS K Ey H₀ F ts O (upd H a (.lst vs)) σ (ρ.set i (KQ (.loc (.list ys)))) T:=r.putO e1 e2 (.inl ⟨_,rfl⟩) λle=>⟨vs,aQ,rv.mono le⟩
def RS.tapeO(r:RS K Ey H₀ F ts O H σ ρ T)(e:ts[n]? = KQ a)(hm:Ez (KQ o))(rv:Le O H O (upd H a o)->Ir K O (upd H a o) a ys):RS K Ey H₀ F ts O (upd H a o) σ ρ (T.set n ys):=by
 have am:=Px e;have le:Le O H O (upd H a o):=λb o' k q=>⟨k,by rw[aA (λz=>k (by rw[z];exact r.hc.own a am))];exact q⟩
 have sx:YM ts H (upd H a o):=λb o' k q=>by rw[aA (λz=>k (by simp_all))];exact q
 refine⟨⟨r.hc.own,λb hb=>?_,r.hc.nd,by simp[r.hc.len],λj b zs q1 q2=>?_⟩,r.re.mono r.hc sx,r.sub,r.ots,r.same.trans sx,r.fresh,r.dist,λf hf=>(r.frs f hf).trans le,r.len⟩
 .by_cases z:b=a
  .subst z;rw[aQ];exact hm
  .rw[aA z];exact r.hc.trk b hb
 .by_cases z:n=j
  .subst z
   rw[e] at q1
   have hl:n<T.length:=by
    have:=(Pa.mp e).1;rw[←r.hc.len];exact this
   rw[Pm hl] at q2<;>simp_all
  .simp_all
   refine(r.hc.tape j b zs q1 q2).mono (λo' h1=>?_) le
   have nb:b≠a:=λq=>by
    rw[q] at q1;exact z ((WB (Pa.mp e).1 r.hc.nd).mp (e.trans q1.symm))
   rw[aA nb]<;>omega
noncomputable def lg:W->W
 |.loc x=>.d x
 |w=>w
noncomputable def cz(ρ:YR):YR:=ρ.map (Option.map lg)
def RS.frzH(r:RS K Ey H₀ F ts O H σ ρ T):HC K Ey ts H T:=by
 have le:Le O H Ey H:=λa o n e=>⟨λz=>n (r.sub a z),e⟩;exact⟨r.ots,λb hb=>r.hc.trk b (r.sub b hb),r.hc.nd,r.hc.len,λi a xs e1 e2=>(r.hc.tape i a xs e1 e2).mono (λ_ h=>h) le⟩
def uy(ρ:YR):Prop:=∀(i:Nat) (ds:List (OY×OY)),ρ[i]?≠KQ (KQ (.loc (.dict ds)))
def RS.frz(r:RS K Ey H₀ F ts O H σ ρ T)(nd:uy ρ):HC K Ey ts H T/\Zu K Ey ts H σ (cz ρ):=by
 have le:Le O H Ey H:=λa o n e=>⟨λz=>n (r.sub a z),e⟩;refine⟨r.frzH,λi w e=>?_⟩;unfold cz at e;rw[P5] at e
 cases hu:ρ[i]? with
 |none=>simp_all
 |some u=>
  cases u with
  |none=>simp_all
  |some u=>
   rw[hu] at e;cases e;obtain⟨v,h1,h2⟩:=r.re i u hu;refine⟨v,h1,?_⟩
   cases u with
   |d x=>exact Rep.mono le h2
   |tp k=>exact h2
   |loc xs=>
    obtain⟨a,rfl,k1,k2,k3⟩:=h2
    cases xs with
    |list xs=>obtain⟨vs,k3,k4⟩:=k3;exact .lst (.inl ⟨(r.fresh i _ a hu h1).2,.inl k3⟩) (k4.mono le)
    |dict xs=>exact absurd hu (nd i xs)
    |_=>cases k3
def RS.frzD(r:RS K Ey H₀ F ts O H σ ρ T)(h1:ρ[i]? = KQ (KQ (.loc (.dict ds)))):∃a kvs,H a=KQ (.dK kvs)/\∀o,RS K Ey H₀ F ts (λb=>O b/\b≠a) (upd H a (.frz o (.dK kvs))) σ (ρ.set i (KQ (.d (.dict ds)))) T:=by
 obtain⟨v,k1,a,rfl,k2,k3,kvs,k4,k5⟩:=r.re i _ h1;refine⟨a,kvs,k4,λo=>?_⟩;have hl:i<ρ.length:=(Pa.mp h1).1;have U:∀{b:Addr},b≠a->upd H a (.frz o (.dK kvs)) b=H b:=λn=>aA n;have le:Le O H (λb=>O b/\b≠a) (upd H a (.frz o (.dK kvs))):=λb u n e=>⟨λz=>n z.1,by rw[U (λz=>n (by simp_all))];exact e⟩;have fr:=r.fresh i _ a h1 k1
 have hw:∀ys,W.d (.dict ds)≠.loc ys:=λ_ z=>nomatch z
 refine⟨⟨λb hb=>⟨r.hc.own b hb,λz=>k3 (z ▸ hb)⟩,λb hb=>by rw[U hb.2];exact r.hc.trk b hb.1,r.hc.nd,r.hc.len,λj b ys e1 e2=>?_⟩,λj w e=>?_,λb hb=>⟨r.sub b hb,λz=>fr.2 (z ▸ hb)⟩,r.ots,λb u n e=>?_,λj ys b e1 e2=>?_,λj k ys zs v e1 e2 e3 e4=>?_,λf hf=>(r.frs f hf).trans le,by simp[r.len]⟩
 .exact(r.hc.tape j b ys e1 e2).mono (λ_ h=>by rw[U (λz=>k3 (by rw[←z];exact Px e1))];exact h) le
 .by_cases z:i=j
  .subst z
   rw[Pm hl] at e;cases e;exact⟨.ref a,k1,.dct (λz=>z.2 rfl) aQ (k5.mono le)⟩
  .rw[Pj z] at e
   obtain⟨x,q1,q2⟩:=r.re j w e;refine⟨x,q1,?_⟩
   cases w with
   |d y=>exact Rep.mono le q2
   |tp k=>exact q2
   |loc ys=>
    obtain⟨b,eb,m1,m2,m3⟩:=q2;have nb:b≠a:=λq=>z (r.dist i j _ ys (.ref a) h1 e k1 (by rw[q1,eb,q]));exact⟨b,eb,⟨m1,nb⟩,m2,m3.mono (λ_ q=>by rw[U nb];exact q) le⟩
 .rw[U (λz=>by simp_all)]
  exact r.same b u n e
 .obtain⟨n,e⟩:=fj hw e1
  exact r.fresh j ys b e e2
 .obtain⟨n1,e1⟩:=fj hw e1
  obtain⟨n2,e2⟩:=fj hw e2;exact r.dist j k ys zs v e1 e2 e3 e4
noncomputable def zfc(h:ρ[i]? = KQ (KQ (.loc x))):cz (ρ.set i (KQ (.d x)))=cz ρ:=by
 apply WC;intro j;unfold cz;rw[P5,P5]
 by_cases z:i=j
 .subst z
  rw[Pm (Pa.mp h).1,h];rfl
 .simp_all
theorem RS.frzN(R:YR):∀(k:Nat) {O:Addr->Prop}{H:Hp}{ρ:YR},RS K Ey H₀ F ts O H σ ρ T->(∀j ds,k<=j->ρ[j]?≠KQ (KQ (.loc (.dict ds))))->cz ρ=R ->
  Gh (λH'=>∃O' ρ',RS K Ey H₀ F ts O' H' σ ρ' T/\uy ρ'/\cz ρ'=R) H
 |0,O,H,ρ,r,n,e=>.done ⟨O,ρ,r,λj ds=>n j ds (Ql _),e⟩
 |k+1,O,H,ρ,r,n,e=>by
  by_cases h:∃ds,ρ[k]? = KQ (KQ (.loc (.dict ds)))
  .obtain⟨ds,h⟩:=h
   obtain⟨a,kvs,e1,f⟩:=r.frzD h;refine .frz e1 λo=>RS.frzN R k (f o) (λj es hj=>?_) (by rw[zfc h];exact e)
   by_cases z:k=j
   .subst z
    rw[Pm (Pa.mp h).1]<;>simp_all
   .rw[Pj z]
    exact n j es (by lia)
  .refine RS.frzN R k r (λj ds hj=>?_) e
   by_cases z:k=j
   .subst z<;>simp_all
   .exact n j ds (by lia)
def RS.frzG(r:RS K Ey H₀ F ts O H σ ρ T):Gh (λH'=>YM ts H₀ H'/\HC K Ey ts H' T/\Zu K Ey ts H' σ (cz ρ)) H:=(RS.frzN _ ρ.length r (λj ds hj=>by simp_all) rfl).imp λH' ⟨O',ρ',r',n,e⟩=>⟨r'.same,by rw[←e];exact r'.frz n⟩
end
noncomputable def aw:FS:=λρ T=>KQ ((.nx,ρ),T)
noncomputable def ah(f g:FS):FS:=λρ T=>YS (f ρ T) λp T1=>match p with
 |(.nx,Ze)=>g Ze T1
 |(fl,Ze)=>KQ ((fl,Ze),T1)
noncomputable def ax(i:Nat)(f:FE):FS:=λρ T=>YS (f ρ T) λw T1=>match w with
 |.d x=>KQ ((.nx,ρ.set i (KQ (.d x))),T1)
 |.tp k=>KQ ((.nx,ρ.set i (KQ (.tp k))),T1)
 |.loc _=>HA
noncomputable def cO(i:Nat)(g:FA):FS:=λρ T=>YS (g ρ T) λws T1=>match fH ws with
 |some xs=>if xs.length<=1000 then KQ ((.nx,ρ.set i (KQ (.loc (.list xs)))),T1) else HA
 |none=>HA
noncomputable def cH(i:Nat)(f:FE):FS:=λρ T=>YS (f ρ T) λw T1=>match w with
 | .d x=>(match ρ[i]? with
  |some (KQ (.loc (.list xs)))=>if xs.length<Ph then KQ ((.nx,ρ.set i (KQ (.loc (.list (xs++[x]))))),T1) else HA
  | _=>HA)
 |_=>HA
noncomputable def YT(c:FT)(f g:FS):FS:=λρ T=>YS (c ρ T) λb T1=>if b=G3 then f ρ T1 else g ρ T1
noncomputable def aj(f:FE):FS:=λρ T=>YS (f (cz ρ) T) λw T1=>match w with
 |.d x=>KQ ((.rt x,ρ),T1)
 |_=>HA
noncomputable def fF(f:FE):FS:=λρ T=>YS (f ρ T) λ_ T1=>KQ ((.nx,ρ),T1)
noncomputable def forL(i:Nat)(body:FS):List OY->FS
 |[]=>aw
 |d::r=>λρ T=>YS (body (ρ.set i (KQ (.d d))) T) λp T1=>match p with
  |(.nx,Ze)=>forL i body r Ze T1
  |(.ct,Ze)=>forL i body r Ze T1
  |(.bk,Ze)=>KQ ((.nx,Ze),T1)
  |(.rt x,Ze)=>KQ ((.rt x,Ze),T1)
  |(.ro x,Ze)=>KQ ((.ro x,Ze),T1)
noncomputable def cG(i:Nat)(it:FI)(body:FS):FS:=λρ T=>YS (it ρ T) λds T1=>forL i body ds ρ T1
noncomputable def bL(c:FT)(body:FS):Nat->FS
 |0=>λ_ _=>HA
 |n+1=>λρ T=>YS (c ρ T) λb T1=>if b=G3 then YS (body ρ T1) λp T2=>match p with
   |(.nx,Ze)=>bL c body n Ze T2
   |(.ct,Ze)=>bL c body n Ze T2
   |(.bk,Ze)=>KQ ((.nx,Ze),T2)
   |(.rt x,Ze)=>KQ ((.rt x,Ze),T2)
   |(.ro x,Ze)=>KQ ((.ro x,Ze),T2)
  else KQ ((.nx,ρ),T1)
section
variable {X:Cx}{pos:Pos}{st:Stmt}{rest:List Stmt}{f g:FS}{e:Expr}{fe:FE}{c:FT}{K:Frag}{Ey:Addr->Prop}{H₀:Hp}{F:List ((Addr->Prop)×Hp)}{ts:List Addr}{O:Addr->Prop}{H H1:Hp}{σ:L2.St}{ρ:YR}{T T1:Tp}
noncomputable def cK:GN X [] aw:=by
 refine⟨?_⟩;refine ou iD λD σ H=>?_;rintro⟨Ey,H₀,F,ts,O,ρ,T,fl,ρ',T',rs,e,q⟩;cases e;exact q O σ H rs
noncomputable def ay(h1:DS X st f)(h2:GN X rest g):GN X (st::rest) (ah f g):=by
 refine⟨?_⟩;refine ou (bJ h1.pe h2.pe) λD σ H=>?_;rintro⟨Ey,H₀,F,ts,O,ρ,T,fl,ρ',T',rs,e,q⟩;obtain⟨⟨Cv,Ze⟩,T1,e1,e⟩:=aG e;refine⟨Ey,H₀,F,ts,O,ρ,T,Cv,Ze,T1,rs,e1,?_⟩
 cases Cv with
 |nx=>exact λO' σ' H' rs'=>⟨Ey,H₀,F,ts,O',Ze,T1,fl,ρ',T',rs',e,q⟩
 |rt x=>cases e;exact q
 |ro x=>cases e;exact q
 |bk=>cases e;exact q
 |ct=>cases e;exact q
def bo(h1:DS X st f):GN X [st] f:=⟨cB h1.pe⟩
noncomputable def aK(hN:X.N.Nodup)(he:DE X e fe)(hi:autoParam (X.N[i]? = KQ x) u10)(hx:autoParam (Loc X.env.scope x) u18)(hs:autoParam (QF e (KQ (.Name x pos')) pos.line X.env=pure Gy) u10)
  (hf:autoParam (X.fn x=G3\/X.env.scope.names.lookup x=KQ .local) u15):DS X (.Assign [.Name x pos'] e pos) (ax i fe):=by
 refine⟨?_⟩;refine dO (dh hN hi hx he.pe hs hf) λD σ H=>?_;rintro⟨Ey,H₀,F,ts,O,ρ,T,fl,ρ',T',rs,e,q⟩;obtain⟨w,T1,e1,e⟩:=aG e;refine⟨O,ts,ρ,T,w,T1,rs.hc,rs.re,e1,λv H1 s1 YN r1=>?_⟩
 cases w with
 |d x=>cases e;exact q O _ _ ((rs.step s1 YN).set r1 λ_ z=>nomatch z)
 |tp k=>cases e;exact q O _ _ ((rs.step s1 YN).set r1 λ_ z=>nomatch z)
 |loc xs=>cases e
noncomputable def zfd{i:Nat}{x y:Str}{scope osc:Rk}{N N':List Str}{elt iter:Expr}{ifs:List Expr}{px py CW:Pos}{it:FI}{c:FT}{f:FE}(S:CS osc N x scope N')(hN:X.N.Nodup)(hi:DI X (.Name x px) iter it)
  (he:∀C s0 H0 ex,DE (cj X x scope C s0 H0 ex N') elt f) (ht:∀C s0 H0 ex,Eg (cj X x scope C s0 H0 ex N') ifs c) (D8:autoParam (X.N[i]? = KQ y) u10) (hy:autoParam (Loc X.env.scope y) u18)
  (Ke:autoParam (X.fn y=G3\/X.env.scope.names.lookup y=KQ .local) u15) (hc:autoParam (X.calm=G3) u10) (hs:autoParam (X.env.scope=osc) u10) (hN':autoParam (X.N=N) u10)
  (Ht:autoParam (QF (.ListComp elt [⟨.Name x px,iter,ifs,0⟩] scope pos) (KQ (.Name y py)) CW.line X.env=pure G3) u10) (hf:autoParam (∀v,Qh iter X.env v=pure v) u16) :
  DS X (.Assign [.Name y py] (.ListComp elt [⟨.Name x px,iter,ifs,0⟩] scope pos) CW) (ax i (bY it c f)):=by
 refine⟨?_⟩;subst hs hN';refine dO (zeg  (tt:=liftT X.K c) (te:=lift X.K f) hc S hN D8 hy Ke hi.pe (λC s0 H0 ex=>(he C s0 H0 ex).pe) (λC s0 H0 ex=>(ht C s0 H0 ex).pe) Ht hf) λD σ H=>?_;rintro⟨Ey,H₀,F,ts,O,ρ,T,fl,ρ',T',rs,e,q⟩;obtain⟨w,T1,e1,e⟩:=aG e;obtain⟨ds,T2,e2,e1⟩:=aG e1;obtain⟨ys,T3,e3,e1⟩:=aG e1;cases e1;cases e;refine⟨O,ts,ρ,T,ds,T2,rs.hc,rs.re,e2,λJ H1 s1 YN ok hz=>?_⟩;exact zua YN (rs.re.mono rs.hc s1) ok hz e3 λvs H' s2 YY r2 p hp=>q O _ _ ((rs.step (s1.trans (s2.trans (.new hp _))) (YY.new hp _)).set (YY.newL hp r2) λ_ z=>nomatch z)
noncomputable def gK{i:Nat}{x:Str}{pos':Pos}{es:List Expr}{JL:Pos}{g:FA}(hN:X.N.Nodup)(he:DA X es g)(hi:autoParam (X.N[i]? = KQ x) u10)(hx:autoParam (Loc X.env.scope x) u18)
  (hs:autoParam (QF (.List es JL) (KQ (.Name x pos')) pos.line X.env=pure Gy) u10) (hf:autoParam (X.fn x=G3\/X.env.scope.names.lookup x=KQ .local) u15):DS X (.Assign [.Name x pos'] (.List es JL) pos) (cO i g):=by
 refine⟨?_⟩;refine dO (dh hN hi hx (ky he.pe) hs hf) λD σ H=>?_;rintro⟨Ey,H₀,F,ts,O,ρ,T,fl,ρ',T',rs,e,q⟩;obtain⟨ws,T1,e1,e⟩:=aG e;refine⟨O,ts,ρ,T,ws,T1,rs.hc,rs.re,e1,λvs H1 s1 YN r1=>?_⟩;split at e
 .rename_i xs h1
  split at e
  .rename_i h2
   cases e;have rv:=oh r1 h1;exact⟨sA (by rw[rv.length];exact h2),λp hp=>q _ _ _ ((rs.step s1 YN).own hp rv)⟩
  .cases e
 .cases e
noncomputable def cy(hc:DT X ce c)(ha:GN X a f)(hb:GN X b g):DS X (.If ce a b pos) (YT c f g):=by
 refine⟨?_⟩;refine dO (iL hc.pe ha.pe hb.pe) λD σ H=>?_;rintro⟨Ey,H₀,F,ts,O,ρ,T,fl,ρ',T',rs,e,q⟩;obtain⟨b1,T1,e1,e⟩:=aG e;refine⟨O,ts,ρ,T,b1,T1,rs.hc,rs.re,e1,λH1 s1 YN=>?_⟩
 cases b1 with
 |true=>exact iS ⟨Ey,H₀,F,ts,O,ρ,T1,fl,ρ',T',rs.step s1 YN,by simpa using e,q⟩
 |false=>exact iT ⟨Ey,H₀,F,ts,O,ρ,T1,fl,ρ',T',rs.step s1 YN,by simpa using e,q⟩
noncomputable def zfe(he:DE X e fe):DS X (.Return (KQ e) pos) (aj fe):=by
 refine⟨?_⟩;refine dO (zeo (fw he.pe)) λD σ H=>?_;rintro⟨Ey,H₀,F,ts,O,ρ,T,fl,ρ',T',rs,e,q⟩;obtain⟨w,T1,e1,e⟩:=aG e;refine rs.frzG.imp λH0 ⟨same,c0,EC⟩=>?_;refine⟨Ey,ts,cz ρ,T,w,T1,c0,EC,e1,λv H1 s1 YN r1=>?_⟩
 cases w with
 |d x=>cases e;exact q v H1 (same.trans s1) YN r1
 |tp k=>cases e
 |loc xs=>cases e
noncomputable def jm(he:DE X e fe)(hs:autoParam (QF e HA pos.line X.env=pure Gy) u10):DS X (.Expr e pos) (fF fe):=by
 refine⟨?_⟩;refine dO (fW he.pe hs) λD σ H=>?_;rintro⟨Ey,H₀,F,ts,O,ρ,T,fl,ρ',T',rs,e,q⟩;obtain⟨w,T1,e1,e⟩:=aG e;cases e;exact⟨O,ts,ρ,T,w,_,rs.hc,rs.re,e1,λv H1 s1 YN r1=>q O _ _ (rs.step s1 YN)⟩
noncomputable def gh(he:DE X e fe)(hN:autoParam (X.N[i]? = KQ x) u10)(hv:autoParam (BS X.env.scope x) u20)(hd:autoParam ((x == ("__debug__" : Str))=Gy) u11)
  (hcd:autoParam ((x == ("__classdict__" : Str))=Gy) u11) 
  (Zk:autoParam (QI (.Name x p) "append" X.env (eval (.Name x p) X.env)=eval (.Name x p) X.env) u10)
  (ZI:autoParam (((Qj YO (Pi [e] X.env)).all (λx=>!x.1)&&(RO YO (QQ [] X.env)).all (λx=>x.1.isSome)
   && decide (([e]:List Expr).length+([]:List Rn).length+(if ([]:List Rn).isEmpty then 0 else 1)<30))=G3) u19)
  (Zj:autoParam ((apos.endLine == YO.line)=G3) u10) (Z0:autoParam (Pi [e] X.env=(Gy,eval e X.env)::Pi [] X.env) u13) (Y6:autoParam ((Qj YO (Pi [] X.env)).any (·.1)=Gy) u14)
  (hs:autoParam (QF (.Call (.Attribute (.Name x p) "append" apos) [e] [] YO) HA pos.line X.env=pure Gy) u10) :
  DS X (.Expr (.Call (.Attribute (.Name x p) "append" apos) [e] [] YO) pos) (cH i fe):=by
 refine⟨?_⟩;refine dO (fW (gn QZ PySem.F.slot_list_append PySem.F.type_list_append zdj (pv i hN hv hd hcd) (aV he.pe br Z0) Zk ZI Zj Z0 Y6) hs) λD σ H=>?_;rintro⟨Ey,H₀,F,ts,O,ρ,T,fl,ρ',T',rs,e,q⟩;obtain⟨w,T1,e1,e⟩:=aG e;split at e
 .split at e
  .rename_i xs h1
   split at e
   .rename_i h2
    cases e;obtain⟨v,k1,a,rfl,k2,k3,vs,k4,k5⟩:=rs.re i _ h1;refine⟨_,k1,.inl ⟨rfl,vs,Zc.of k4⟩,O,ts,ρ,T,_,_,rs.hc,rs.re,e1,λu H1 s1 YN r1=>?_⟩;have Z2:=rs.step s1 YN;exact⟨a,vs,u,rfl,rfl,s1 _ _ k3 k4,by rw[k5.length];exact h2,q O _ _ (Z2.put (us:=[]) h1 k1 ((k5.mono (rs.hc.le s1)).append (.cons r1 .nil)))⟩
   .cases e
  .cases e
 .cases e
def RS.less{f:(Addr->Prop)×Hp}(r:RS K Ey H₀ (f::F) ts O H σ ρ T):RS K Ey H₀ F ts O H σ ρ T:=⟨r.hc,r.re,r.sub,r.ots,r.same,r.fresh,r.dist,λf hf=>r.frs f (Pc _ hf),r.len⟩
def RS.more(r:RS K Ey H₀ F ts O H σ ρ T):RS K Ey H₀ ((O,H)::F) ts O H σ ρ T:=⟨r.hc,r.re,r.sub,r.ots,r.same,r.fresh,r.dist,λf hf=>by
 rcases Pr.mp hf with z|z
 .subst z;exact λa o n e=>⟨n,e⟩
 .exact r.frs f z,r.len⟩
noncomputable def gf(hN:X.N.Nodup)(hi:DI X (.Name x EY) iter it)(hb:GN X body f)(hix:autoParam (X.N[i]? = KQ x) u10)(hx:autoParam (Loc X.env.scope x) u18)
  (hf:autoParam (X.fn x=G3\/X.env.scope.names.lookup x=KQ .local) u15) (hp:autoParam (WR (PP X.prog X.w) X.A X.env X.xe) u27) (hc:autoParam (X.calm=G3) u10)
  (hs:autoParam (∀x,Qh iter X.env x=pure x) u16):DS X (.For (.Name x EY) iter body [] pos) (cG i it f):=by
 refine⟨?_⟩;refine dO (iH hp hc hi.pe (ei hN hix hx hf) hb.pe hs) λD σ H=>?_;rintro⟨Ey,H₀,F,ts,O,ρ,T,fl,ρ',T',rs,e,q⟩;obtain⟨ds,T1,e1,e⟩:=aG e;refine⟨O,ts,ρ,T,ds,T1,rs.hc,rs.re,e1,λJ H1 s1 YN ok hz=>?_⟩;refine⟨λk m σ H=>m=ds.length-k/\k<=ds.length/\∃O' JC Tk,RS X.K Ey H₀ ((O,H1)::F) ts O' H σ JC Tk/\forL i f (ds.drop k) JC Tk=KQ ((fl,ρ'),T'),⟨_,rfl,Ql _,O,ρ,T1,(rs.step s1 YN).more,e⟩,?_⟩;rintro k m Cc H2 ⟨rfl,hk,O',JC,Tk,Bu,ek⟩;obtain⟨k1,k2,k3⟩:=ok O' H2 (Bu.frs _ Pf)
 by_cases ZM:k<ds.length
 .refine .inr ⟨k1 k ZM,λIK H3=>∃O' JC Tk,RS X.K Ey H₀ ((O,H1)::F) ts O' H3 IK JC Tk/\forL i f (ds.drop (k+1)) JC Tk=KQ ((fl,ρ'),T'),λIK H3 n=>⟨ds.length-(k+1),by lia,rfl,ZM,n⟩,λv H3 y=>?_⟩
  obtain⟨e2,d,hd,rd⟩:=k3 k v H3 y ZM;subst e2
  have Gp:ds.drop k=d::ds.drop (k+1):=by
   rw[QM ZM];have:=(Pa.mp hd).2;rw[this]
  rw[Gp] at ek;obtain⟨⟨Cv,Ze⟩,T3,e3,ek⟩:=aG ek;refine⟨Ey,H₀,(O,H1)::F,ts,O',_,Tk,Cv,Ze,T3,Bu.set (i:=i) (w:=.d d) rd (λ_ z=>nomatch z),e3,?_⟩
  cases Cv with
  |nx=>exact λO3 IK H3 ED=>⟨O3,Ze,T3,ED,ek⟩
  |ct=>exact λO3 IK H3 ED=>⟨O3,Ze,T3,ED,ek⟩
  |bk=>
   cases ek;exact λO3 IK H3 ED=>q O3 IK H3 ED.less
  |rt x=>
   cases ek;exact q
  |ro x=>
   cases ek;exact q
 .have e:k=ds.length:=by lia
  subst e;rw[Q6 (Pk _)] at ek;cases ek;exact .inl ⟨k2,q O' Cc H2 Bu.less⟩
noncomputable def lU(n:Nat)(hc:DT X ce c)(hb:GN X body f)(hp:autoParam (WR (PP X.prog X.w) X.A X.env X.xe) u27):DS X (.While ce body [] pos) (bL c f n):=by
 refine⟨?_⟩;refine dO (zaz hp hc.pe hb.pe) λD σ H=>?_;rintro⟨Ey,H₀,F,ts,O,ρ,T,fl,ρ',T',rs,e,q⟩;refine⟨λm σ H=>∃O' Ks Tm,RS X.K Ey H₀ F ts O' H σ Ks Tm/\bL c f m Ks Tm=KQ _,⟨n,O,ρ,T,rs,e⟩,?_⟩;rintro m Cc H2 ⟨O',Ks,Tm,Bu,em⟩
 cases m with
 |zero=>cases em
 |succ m=>
  obtain⟨b,T3,e3,em⟩:=aG em;refine⟨O',ts,Ks,Tm,b,T3,Bu.hc,Bu.re,e3,λH3 s3 ZA=>?_⟩;have ED:=Bu.step s3 ZA
  cases b with
  |false=>
   cases em;exact iT (q O' Cc H3 ED)
  |true=>
   obtain⟨⟨Cv,Ze⟩,T4,e4,em⟩:=aG em;refine iS ⟨λIK H3=>∃O' Ks Tm,RS X.K Ey H₀ F ts O' H3 IK Ks Tm/\bL c f m Ks Tm=KQ _,λIK H3 n=>⟨m,R7 m,n⟩,Ey,H₀,F,ts,O',Ks,T3,Cv,Ze,T4,ED,e4,?_⟩
   cases Cv with
   |nx=>exact λO3 IK H3 ED=>⟨O3,Ze,T4,ED,em⟩
   |ct=>exact λO3 IK H3 ED=>⟨O3,Ze,T4,ED,em⟩
   |bk=>
    cases em;exact λO3 IK H3 ED=>q O3 IK H3 ED
   |rt x=>
    cases em;exact q
   |ro x=>
    cases em;exact q
end
abbrev YX:=List W->Tp->Option (OY×Tp)
noncomputable def eC:List W->Bool
 |[]=>G3
 |.loc _::_=>Gy
 |_::r=>eC r
noncomputable def du(o:Option ((Fl×YR)×Tp)):Option (OY×Tp):=YS o λp T=>match p with
 |(.rt x,_)=>KQ (x,T)
 |(.nx,_)=>KQ (.none,T)
 |_=>HA
noncomputable def aJ(N:Nat)(f:FS):YX:=λws T=>if eC ws=G3 then du (f (ws.map KQ++Pp (N-ws.length) HA) T) else HA
inductive B9(K:Frag)(n:Nat)(m:YX)(vs:List V)(H:Hp)(Q:VK):Prop where
 |mk (O:Addr->Prop) (ts:List Addr) (T:Tp) (ws:List W) (x:OY) (T':Tp) (hc:HC K O ts H T) (r:gZ K O ts H vs ws) (hl:ws.length=n) (e:m ws T=KQ (x,T')) (q:∀v H',YM ts H H'->HC K O ts H' T'->Rep K O H' v x->Q v H'):B9 K n m vs H Q
noncomputable def Y1(K:Frag)(n:Nat)(m:YX):Sp:=λvs H Q _=>B9 K n m vs H Q
theorem qL{K:Frag}{O:Addr->Prop}{ts:List Addr}{H:Hp}:∀{vs:List V}{ws:List W}{i:Nat}{w:W},gZ K O ts H vs ws->ws[i]? = KQ w->∃v,vs[i]? = KQ v/\ZY K O ts H v w
 |_,_,_,_,.nil,e=>by simp at e
 |_,_,0,_,.cons r _,e=>by simp_all
 |_,_,i+1,w,.cons _ t,e=>by
  obtain⟨d,h1,h2⟩:=qL   t (by simpa using e);exact⟨d,by simpa using h1,h2⟩
theorem nP:∀{ws:List W}{xs:OY},eC ws=G3->W.loc xs∉ws
 |[],_,_,h=>by simp_all
 |.loc _::_,_,e,_=>by cases e
 |.d _::r,_,e,h=>by
  rcases Pr.mp h with z|z
  .cases z
  .exact nP (ws:=r) e z
 |.tp _::r,_,e,h=>by
  rcases Pr.mp h with z|z
  .cases z
  .exact nP (ws:=r) e z
noncomputable def nM{ws:List W}{n i:Nat}{w:W}(e:(ws.map KQ++Pp n HA)[i]? = KQ (KQ w)):ws[i]? = KQ w:=by
 by_cases h:i<ws.length
 .rw[Pn (by simp_all),P5] at e<;>simp_all
 .rw[Qc (by simp_all)] at e
  have:=Px e<;>simp_all
noncomputable def yV{P:Pu}{w:PU}{K:Frag}{mg:Str->Option O9}{base:Heap}{x qual:Str}{st:Stmt}{f:Addr}{fd:RG}{N ps:List Str}{k:Nat}{m:FS}(F:KH K x qual st f fd)(S:Y2 N ps (aO st))
  (Zw:∀(Y9:O9) (A:Qa) (outer:List Env) (s:Pe) (H:Hp) (E:XK),YW k (A.deeper (S4 qual (aO st) s.heap.objs.size f Y9))->GN (ef Z7 P w K mg base N qual (aO st) f Y9 A outer s H E).nox (bP st) m) :
  Zr P w K mg base Z7 (k+1) f fd ps (Y1 K ps.length (aJ N.length m)):=by
 refine F.ok S (λvs H Q E h=>?_) (λY9 A outer s H vs Q E hr h=>⟨_,(Zw Y9 A _ s H E hr).pe,?_⟩)
 .obtain⟨O,ts,T,ws,x,T',hc,ZS,hl,_⟩:=h
  rw[←hl];exact Rl ZS
 obtain⟨O,ts,T,ws,x,T',hc,ZS,hl,e,q⟩:=h;unfold aJ at e;split at e
 .rename_i hn
  obtain⟨⟨fl,ρ'⟩,T1,e1,e⟩:=aG e;have Y3:=Rl ZS;have IF:∀{i:Nat}{xs:OY},(ws.map KQ++Pp (N.length-ws.length) HA)[i]? = KQ (KQ (W.loc xs))->False:=λ{i xs} e=>nP hn (Px (nM e));refine⟨O,H,[],ts,O,_,T,fl,ρ',T1,⟨hc,λi u e=>?_,λ_ h=>h,hc.own,.refl _ _,λi xs a e1 _=>(IF e1).elim,λi j xs ys v e1 _ _ _=>(IF e1).elim,λf hf=>absurd hf (by simp),by simp[L2.start,Y3]⟩,e1,?_⟩
  .obtain⟨v,h1,h2⟩:=qL ZS (nM e)
   refine⟨v,?_,h2⟩;unfold L2.start;have hi:=(Pa.mp h1).1;rw[Pn (by simpa using hi),P5,h1];rfl
  .cases fl with
   |rt y=>cases e;exact λv H' s1 c1 r1=>q v H' s1 c1 r1
   |nx=>
    cases e;exact λO' σ' H' rs=>q _ _ rs.same rs.frzH .non
   |bk=>cases e
   |ct=>cases e
   |ro y=>cases e
 .cases e
noncomputable def ar(m:YX)(g:FA):FE:=λρ T=>YS (g ρ T) λws T1=>YS (m ws T1) λx T2=>KQ (.d x,T2)
def fO(g:FA)(n:Nat):Prop:=∀ρ T ws T',g ρ T=KQ (ws,T')->ws.length=n
def cu:fO ag 0:=λρ T ws T' e=>by cases e;rfl
noncomputable def aU(h:fO g n):fO (ab f g) (n+1):=λρ T ws T' e=>by
 obtain⟨w1,T1,e1,e⟩:=aG e;obtain⟨ws,T2,e2,e⟩:=aG e;cases e;rw[P9,h _ _ _ _ e2]
noncomputable def mj(F:Fn X.prog X.w X.K X.mg X.base name ps k (Y1 X.K ps.length m))(hr:YW k X.A)(hg:Gl X name)(ha:DA X (e::es) g)(hl:fO g ps.length)(ZG:autoParam ((name == ("__debug__" : Str))=Gy) u11)
  (he:autoParam (Pi (e::es) X.env=(Gy,eval e X.env)::Pi es X.env) u13) (Zv:autoParam ((Qj pos (Pi es X.env)).any (·.1)=Gy) u14):DE X (.Call (.Name name p) (e::es) [] pos) (ar m g):=by
 refine⟨?_⟩;refine bi (gm F hr hg ha.pe ZG he Zv) λσ H Q=>?_;rintro⟨O,ts,ρ,T,w,T',hc,re,e,q⟩;obtain⟨ws,T1,e1,e⟩:=aG e;obtain⟨x,T2,e2,e⟩:=aG e;cases e;refine⟨O,ts,ρ,T,ws,T1,hc,re,e1,λvs H1 s1 YN r1=>?_⟩;refine⟨O,ts,T1,ws,x,_,YN,by simp_all,hl _ _ _ _ e1,e2,λv H2 s2 YY r2=>q v H2 (s1.trans s2) YY r2⟩
noncomputable def Di(g:Int->Int->Option OY):OY->OY->Option OY
 |.int i,.int j=>g i j
 |_,_=>HA
noncomputable def dw:OY->OY->Option PyData:=Di λi j=>KQ (.int (i-j))
noncomputable def bF:OY->OY->Option PyData:=Di λi j=>if 0<j then KQ (.int (i % j)) else HA
noncomputable def g7:OY->OY->Option PyData:=Di λi j=>if 0<=j/\j<=1000000/\i.natAbs<2^64 then KQ (.int (i^j.toNat)) else HA
noncomputable def Fv:OY->OY->Option PyData:=Di λi j=>KQ (.bool (decide (i<j)))
noncomputable def Dr:OY->OY->Option PyData:=Di λi j=>KQ (.bool (decide (i<=j)))
noncomputable def HD:OY->OY->Option PyData:=Di λi j=>KQ (.bool (decide (j<i)))
noncomputable def CH:OY->OY->Option PyData:=Di λi j=>KQ (.bool (decide (j<=i)))
noncomputable def zub(e:Di g x y=KQ d):∃i j,x=.int i/\y=.int j/\g i j=KQ d:=by
 unfold Di at e
 split at e<;>simp_all
noncomputable def sX{K:Frag}{C:Int->Int->Prop}{g:Int->Int->V}{gd:Int->Int->Option OY}(h:∀i j d,gd i j=KQ d->C i j/\∀O H,Rep K O H (g i j) d):iY K (rI C g) (Di gd):=λO ts H T v1 v2 x y d Q hc h1 h2 e q=>by
 obtain⟨i,j,rfl,rfl,e⟩:=zub e;obtain⟨c,r⟩:=h i j d e;exact⟨i,j,h1.int,h2.int,c,q _ H (.refl _ _) hc (r O H)⟩
noncomputable def lZ{K:Frag}{g:Int->Int->V}{gd:Int->Int->Option OY}(h:∀i j d,gd i j=KQ d->∀O H,Rep K O H (g i j) d):iY K (EV g) (Di gd):=λO ts H T v1 v2 x y d Q hc h1 h2 e q=>by
 obtain⟨i,j,rfl,rfl,e⟩:=zub e;exact⟨i,j,h1.int,h2.int,q _ H (.refl _ _) hc (h i j d e O H)⟩
section
variable {X:Cx}
noncomputable def iM:Z6 X (QL .Sub) dw:=⟨_,zbf,lZ λi j d e O H=>by cases e;exact .int _⟩
noncomputable def dq:Z6 X (QL .Mod) bF:=⟨_,zbg,sX λi j d e=>by
 split at e
 .rename_i h;cases e;exact⟨h,λ_ _=>.int _⟩
 .cases e⟩
noncomputable def mP:Z6 X (QL .Pow) g7:=⟨_,zbh,sX λi j d e=>by
 split at e
 .rename_i h;cases e;exact⟨h,λ_ _=>.int _⟩
 .cases e⟩
noncomputable def d7:Z6 X (PX .Lt) Fv:=⟨_,zbl,lZ λi j d e O H=>by cases e;exact .bl _⟩
noncomputable def fL:Z6 X (PX .LtE) Dr:=⟨_,zbm,lZ λi j d e O H=>by cases e;exact .bl _⟩
noncomputable def eY:Z6 X (PX .Gt) HD:=⟨_,zbn,lZ λi j d e O H=>by cases e;exact .bl _⟩
noncomputable def zuc:Z6 X (PX .GtE) CH:=⟨_,zbo,lZ λi j d e O H=>by cases e;exact .bl _⟩
noncomputable def aI:OY->OY->Option OY
 |.int i,.int j=>KQ (.int (i+j))
 |.str x,.str y=>if x.length+y.length<=Ph then KQ (.str (x++y)) else HA
 |.tuple xs,.tuple ys=>if xs.length+ys.length<=Ph then KQ (.tuple (xs++ys)) else HA
 |.list xs,.list ys=>if xs.length+ys.length<=Ph then KQ (.list (xs++ys)) else HA
 |_,_=>HA
noncomputable def Kc(K:Frag):R2:=λx y H Q=>∃l b xs zs,x=.ref l/\y=.ref b/\Zc K H l xs/\Zc K H b zs/\xs.length+zs.length<=Ph/\∀p,H p=HA->Q (.ref p) (upd H p (.lst (xs++zs)))
noncomputable def zud:Zx X (QL .Add) (Kc X.K):=by
 intro pins s σ H x y v u Q I rx ry h;obtain⟨l,b,xs,zs,rfl,rfl,hH,hB,hz,q⟩:=h;cases rx;cases ry;obtain⟨YL,r,p1,_⟩:=I.list hH;obtain⟨Km,r2,p2,_⟩:=I.list hB;have hl:=r.length;have EU:=r2.length;obtain⟨⟨cls,dd,data,sl⟩,ho,hc,n,hd⟩:=id p1.isList;obtain⟨⟨GV,KJ,data2,EM⟩,G0,YY,n2,hd2⟩:=id p2.isList;subst hc hd YY hd2
 have ea:YL.toArray++Km.toArray=(YL++Km).toArray:=by simp
 refine U2 ⟨_,ho,rfl⟩ ⟨_,G0,rfl⟩ noFill_list_add seq_list_add PySem.F.slot_list_add PySem.F.entry_list_add (PySem.F.args_list_add_2 _ _) (list_addW l b _ _ n n2 dd KJ sl EM (by simp_all)) ⟨ho,G0,?_⟩;rw[ea];exact⟨.ref _,_,I.lnew  (r.append r2) (by simp_all),rfl,q _ I.fresh⟩
noncomputable def aR:Z6 X (QL .Add) aI:=by
 refine⟨_,zev.or (zvq.or (zvw.or zud)),λO ts H T v1 v2 x y d Q hc h1 h2 e q=>?_⟩;unfold aI at e;split at e
 .cases e
  exact .inl ⟨_,_,h1.int,h2.int,q _ H (.refl _ _) hc (.int _)⟩
 .split at e
  .rename_i hz
   cases e;exact .inr (.inl ⟨_,_,h1.str,h2.str,hz,q _ H (.refl _ _) hc (.str _)⟩)
  .cases e
 .split at e
  .rename_i xs ys hz
   cases e;obtain⟨a,vs,rfl,t1,r1⟩:=h1.tup;obtain⟨b,us,rfl,t2,r2⟩:=h2.tup;refine .inr (.inr (.inl ⟨a,b,vs,us,rfl,rfl,t1.sq,t2.sq,by rw[r1.length,r2.length];exact hz,λz=>?_,λ_ z=>?_,λ_ _ p hp=>?_⟩))
   .subst z
    cases r1;exact q _ H (.refl _ _) hc (.tup t2 r2)
   .subst z
    cases r2;rw[QJ] at q;exact q _ H (.refl _ _) hc (.tup t1 r1)
   .exact q _ _ (.new hp _) (hc.new hp _) (hc.newT hp (r1.append r2))
  .cases e
 .split at e
  .rename_i xs ys hz
   cases e;obtain⟨a,vs,rfl,t1,r1⟩:=h1.lst;obtain⟨b,us,rfl,t2,r2⟩:=h2.lst;exact .inr (.inr (.inr ⟨a,b,vs,us,rfl,rfl,t1,t2,by rw[r1.length,r2.length];exact hz,λp hp=>q _ _ (.new hp _) (hc.new hp _) (hc.newL hp (r1.append r2))⟩))
  .cases e
 .cases e
noncomputable def zff:fillsNumberSlot (.type "tuple") "mul"=pure Gy:=PySem.fillsNumberSlot_seq   S8.lookup (rfl) UO.lookup (rfl)
noncomputable def zfg:seqRepeat? (.type "tuple")=pure (KQ (.builtin "tuple.__mul__")):=by
 unfold seqRepeat?;rw[WX  (name:="__mul__")  S8.lookup (rfl),WX  (name:="__rmul__")  UO.lookup (rfl)];rfl
noncomputable def zfh(a:Int)(t:Tok)(l:Addr)(items:Array O9)(n:Nat)(dd:Option Addr)(sl:Array (Option O9)) :
  Yz (WD.«int.__rmul__» ⟨[.int a t,.ref l],[]⟩) (λ_ R s=>s.heap.get? l=KQ { cls:=.type "tuple",dict:=dd,data:=.seq items n,slots:=sl }/\R (.ok (.ret VL)) s):=.of_wp λprog w A R s h=>by obtain⟨hl,h⟩:=h;wp_walk;exact⟨_,rfl,h⟩
noncomputable def zfi(l:Addr)(items:Array O9)(n:Nat)(dd:Option Addr)(sl:Array (Option O9))(k:Int)(t:Tok)(h1:2<=k)(h2:k<=1000)(h3:items.isEmpty=Gy)(h4:items.size<=1000) :
  Yz (WD.«tuple.__mul__» ⟨[.ref l,.int k t],[]⟩) (λ_ R s=>s.heap.get? l=KQ { cls:=.type "tuple",dict:=dd,data:=.seq items n,slots:=sl }/\R (.ok (.ret (P4 s.heap.objs.size))) { s with heap:=s.heap.push { cls:=Tf "tuple",data:=Yy (SS (λx1 x2=>x1++x2) #[] (Pp k.toNat items)) },toks:=s.toks }):=
 .of_wp λprog w A R s h=>by
  obtain⟨hp,g,d,tk,os⟩:=s;obtain⟨hl,h⟩:=h
  have wW:¬(decide (k < -(2^63))||decide (k>=2^63))=G3:=by lia
  have YN:¬(items.isEmpty||k == 1)=G3:=by rw[h3];simp;lia
  have YY:¬(decide (k<=0)||items.isEmpty)=G3:=by rw[h3];simp;lia
  have hm:items.size*k.toNat<=1000*1000:=Uh h4 (by lia)
  have hm':(items.size:Int)*k<=1000000:=by
   have e:((items.size*k.toNat:Nat):Int)=(items.size:Int)*k:=by rw[Int.natCast_mul,Int.toNat_of_nonneg (by lia)]
   lia
  have ZA:¬(items.size:Int)*k>(2^63-1) / 8:=by
   have:(1000000:Int)<=(2^63-1) / 8:=by decide
   lia
  have FX:¬Uj ((items.size:Int)*k)=G3:=by
   unfold Uj
   have:Ph=16777216:=by decide
   simp
   lia
  have ht:Xm hp l items:=⟨_,hl,rfl,n,rfl⟩;wp_walk;rw[if_neg wW];dsimp only;refine Pb (V6 ht ?_);rw[if_neg YN,if_neg YY,if_neg ZA,if_neg FX]
  have fit:sizeOk (.seq (SS (λx1 x2=>x1++x2) #[] (Pp k.toNat items))):=by
   show (SS (λx1 x2=>x1++x2) #[] (Pp k.toNat items)).size<=Ph;have q:=foldl_rep items.toList k.toNat [];rw[Xd] at q
   have q':SS (λx1 x2=>x1++x2) #[] (Pp k.toNat items)=(Pp k.toNat items.toList).flatten.toArray:=by simpa using q
   rw[q',Qo,len_rep]
   have:Ph=16777216:=by decide
   rw[R6,Yn]
   lia
  first
  |exact Pb (m:=Rm _) (Qi (Pl ⟨_,rfl,h⟩) fit)
  |exact Pb (m:=Rm _) (Qi (Pb (Pl (Pl ⟨_,rfl,h⟩))) fit)
noncomputable def zfj:Zx X (QL .Mult) (λx y H Q=>∃a k xs,x=.ref a/\y=.int k/\ZJ X.K H a xs/\2<=k/\k<=1000/\xs≠[]/\xs.length<=1000/\∀p,H p=HA->Q (.ref p) (upd H p (.tup (Pp k.toNat xs).flatten))):=by
 intro pins s σ H x y v u Q I rx ry h;obtain⟨a,k,xs,rfl,rfl,hq,h1,h2,h3,h4,q⟩:=h;cases rx;obtain⟨t,rfl⟩:=ry;obtain⟨YL,r,p1,_⟩:=I.tuple hq;have hl:=r.length;have hv:=λz=>h3 (r.nil_iff.mp z);obtain⟨⟨cls,dd,data,sl⟩,ho,hc,n,hd⟩:=id p1;subst hc hd
 have Do:=by
  have q:=foldl_rep YL k.toNat []<;>omega
 have he:YL.toArray.isEmpty=Gy:=by simp_all
 refine Ur   (rfl) ⟨_,ho,rfl⟩ (λs'=>U5 s' k t) zff Xe Tw zfg WY.lookup
  (RH Tw (U5 s k t) WZ (WE _ _) (zfh k t a _ n dd sl)
   ⟨ho,rfl,⟨_,ho,rfl⟩,RH S8 ⟨_,ho,rfl⟩ PySem.F.entry_tuple_mul (PySem.F.args_tuple_mul_2 _ _) (zfi a _ n dd sl k t h1 h2 he (by simp_all)) ⟨ho,?_⟩⟩)
 rw[Do];refine⟨.ref _,_,I.laid   (λb ob q=>Pd _ q) (Pk _) ?_,rfl,q _ (I.hok.fresh (Pk _))⟩;refine⟨?_,_,r.rep _,V0 _ _⟩;rw[len_rep];have:k.toNat*xs.length<=1000*1000:=Uh (by lia) h4;have:Ph=16777216:=rfl
 lia
noncomputable def cq:OY->OY->Option OY
 |.int i,.int j=>if (-(2^64)<i/\i<2^64)\/(-(2^64)<j/\j<2^64) then KQ (.int (i*j)) else HA
 |.str z,.int k=>if 0<=k/\k<=2000/\z.length<=1000 then KQ (.str (YJ z k)) else HA
 |.tuple xs,.int k=>if 2<=k/\k<=1000/\xs.isEmpty=Gy/\xs.length<=1000 then KQ (.tuple (Pp k.toNat xs).flatten) else HA
 |_,_=>HA
noncomputable def gW:Z6 X (QL .Mult) cq:=by
 refine⟨_,zvm.or (zvx.or zfj),λO ts H T v1 v2 x y d Q hc h1 h2 e q=>?_⟩;unfold cq at e;split at e
 .split at e
  .rename_i hz
   cases e;exact .inl ⟨_,_,h1.int,h2.int,hz,q _ H (.refl _ _) hc (.int _)⟩
  .cases e
 .split at e
  .rename_i hz
   cases e;exact .inr (.inl ⟨_,_,h1.str,h2.int,hz.1,hz.2.1,hz.2.2,q _ H (.refl _ _) hc (.str _)⟩)
  .cases e
 .split at e
  .rename_i xs k hz
   cases e;obtain⟨a,vs,rfl,t1,r1⟩:=h1.tup;exact .inr (.inr ⟨a,_,vs,rfl,h2.int,t1.sq,hz.1,hz.2.1,λz=>by subst z;cases r1<;>simp_all,by rw[r1.length];exact hz.2.2.2,λp hp=>q _ _ (.new hp _) (hc.new hp _) (hc.newT hp (r1.rep _))⟩)
  .cases e
 .cases e
noncomputable def BC:OY->OY->Option Bool
 |.int i,.int j=>KQ (decide (i=j))
 |.str x,.str y=>KQ (decide (x=y))
 |.bool a,.bool b=>KQ (decide (a=b))
 |.none,.none=>KQ G3
 |.none,.int _=>KQ Gy | .int _,.none=>KQ Gy | .none,.bool _=>KQ Gy | .bool _,.none=>KQ Gy | .none,.str _=>KQ Gy | .str _,.none=>KQ Gy
 |.int _,.str _=>KQ Gy | .str _,.int _=>KQ Gy | .bool _,.str _=>KQ Gy | .str _,.bool _=>KQ Gy
 |_,_=>HA
noncomputable def zue{K:Frag}{O:Addr->Prop}{H:Hp}{v1 v2:V}{x y:OY}{b:Bool}(h1:Vw K O H v1 x)(h2:Vw K O H v2 y)(e:BC x y=KQ b):ui v1 v2=G3/\decide (v1=v2)=b:=by
 unfold BC at e;split at e
 all_goals first|(simp_all)|skip
 .cases h1.int;cases h2.int;cases e;exact⟨rfl,by simp⟩
 .cases h1.str;cases h2.str;cases e;exact⟨rfl,by simp⟩
 .cases h1.bl;cases h2.bl;cases e;exact⟨rfl,by simp⟩
 .cases h1.non;cases h2.non;cases e;exact⟨rfl,by simp⟩
 .cases h1.non;cases h2.int;cases e;exact⟨rfl,by simp⟩
 .cases h1.int;cases h2.non;cases e;exact⟨rfl,by simp⟩
 .cases h1.non;cases h2.bl;cases e;exact⟨rfl,by simp⟩
 .cases h1.bl;cases h2.non;cases e;exact⟨rfl,by simp⟩
 .cases h1.non;cases h2.str;cases e;exact⟨rfl,by simp⟩
 .cases h1.str;cases h2.non;cases e;exact⟨rfl,by simp⟩
 .cases h1.int;cases h2.str;cases e;exact⟨rfl,by simp⟩
 .cases h1.str;cases h2.int;cases e;exact⟨rfl,by simp⟩
 .cases h1.bl;cases h2.str;cases e;exact⟨rfl,by simp⟩
 .cases h1.str;cases h2.bl;cases e;exact⟨rfl,by simp⟩
def Z5(x y:OY):Option PyData:=(BC x y).map .bool
noncomputable def Kg(x y:OY):Option PyData:=(BC x y).map λb=>.bool (!b)
noncomputable def aM:Z6 X (PX .Eq) Z5:=⟨_,zbj,λO ts H T v1 v2 x y d Q hc h1 h2 e q=>by
 obtain⟨b,e1,rfl⟩:=PV.mp e;obtain⟨k1,k2⟩:=zue h1 h2 e1
 exact⟨k1,by rw[k2];exact q _ H (.refl _ _) hc (.bl _)⟩⟩
noncomputable def iR:Z6 X (PX .NotEq) Kg:=⟨_,zbk,λO ts H T v1 v2 x y d Q hc h1 h2 e q=>by
 obtain⟨b,e1,rfl⟩:=PV.mp e;obtain⟨k1,k2⟩:=zue h1 h2 e1
 exact⟨k1,by rw[k2];exact q _ H (.refl _ _) hc (.bl _)⟩⟩
noncomputable def isNone:OY->Bool
 |.none=>G3
 |_=>Gy
noncomputable def zuf{K:Frag}{O:Addr->Prop}{H:Hp}{v:V}{x:OY}(h:Vw K O H v x):decide (v=.non)=isNone x:=by
 cases h with
 |rep h=>cases h <;> rfl
 |raw _ _=>rfl
 |rawD _ _=>rfl
noncomputable def EK:OY->OY->Option OY
 |x,.none=>KQ (.bool (isNone x))
 |_,_=>HA
noncomputable def uk:Z6 X (PX .Is) EK:=⟨_,zbp,λO ts H T v1 v2 x y d Q hc h1 h2 e q=>by
 unfold EK at e;split at e
 .cases e
  exact⟨h2.non,by rw[zuf h1];exact q _ H (.refl _ _) hc (.bl _)⟩
 .cases e⟩
noncomputable def f7:OY->OY->Option OY
 |x,.none=>KQ (.bool (!isNone x))
 |.bool a,.bool b=>KQ (.bool (a != b))
 |_,_=>HA
noncomputable def sr:Z6 X (PX .IsNot) f7:=⟨_,zvo.or zek,λO ts H T v1 v2 x y d Q hc h1 h2 e q=>by
 unfold f7 at e;split at e
 .cases e
  exact .inl ⟨h2.non,by rw[zuf h1];exact q _ H (.refl _ _) hc (.bl _)⟩
 .cases e
  exact .inr ⟨_,_,h1.bl,h2.bl,q _ H (.refl _ _) hc (.bl _)⟩
 .cases e⟩
noncomputable def dG:OY->Bool
 |.none=>G3 | .bool _=>G3 | .int _=>G3 | .str _=>G3
 |_=>Gy
noncomputable def HZ:OY->OY->Bool
 |.none,.none=>G3
 |.bool a,.bool b=>a == b
 |.bool a,.int b=>(if a then 1 else 0) == b
 |.int a,.bool b=>a == (if b then 1 else 0)
 |.int a,.int b=>a == b
 |.str a,.str b=>a == b
 |_,_=>Gy
noncomputable def jJ(y x:Str):Bool:=!(QX y x 0 y.length 1).isEmpty
noncomputable def Js:OY->OY->Option Bool
 |.str x,.str y=>KQ (jJ y x)
 |x,.list ys=>if dG x&&ys.all dG then KQ (ys.any λy=>HZ y x) else HA
 |x,.tuple ys=>if dG x&&ys.all dG then KQ (ys.any λy=>HZ y x) else HA
 |_,_=>HA
noncomputable def sD{K:Frag}{O:Addr->Prop}{H:Hp}{v:V}{x:OY}(h:Rep K O H v x)(e:dG x=G3):gp v=G3:=by cases h <;> first|rfl|cases e
noncomputable def zfk{K:Frag}{O:Addr->Prop}{H:Hp}{v u:V}{x y:OY}(h:Rep K O H v x)(g:Rep K O H u y)(ex:dG x=G3)(ey:dG y=G3):CG v u=HZ x y:=by cases h <;> cases g <;> first|rfl|cases ex|cases ey
theorem rK{K:Frag}{O:Addr->Prop}{H:Hp}:∀{vs:List V}{xs:List OY},YK K O H vs xs->xs.all dG=G3->vs.all gp=G3
 |_,_,.nil,_=>rfl
 |_,_,.cons r t,e=>by
  rw[Q0,Pg] at e;rw[Q0,sD r e.1,rK t e.2];rfl
theorem sO{K:Frag}{O:Addr->Prop}{H:Hp}{v:V}{x:OY}(h:Rep K O H v x)(ex:dG x=G3):∀{vs:List V}{xs:List OY},YK K O H vs xs->xs.all dG=G3->(vs.any λy=>CG y v)=xs.any λy=>HZ y x
 |_,_,.nil,_=>rfl
 |_,_,.cons r t,e=>by
  rw[Q0,Pg] at e;rw[RA,RA,zfk r h e.1 ex,sO h ex t e.2]
def Vw.flat{K:Frag}{O:Addr->Prop}{H:Hp}{v:V}{x:OY}(h:Vw K O H v x)(e:dG x=G3):Rep K O H v x:=by
 cases h with
 |rep h=>exact h
 |raw _ _=>cases e
 |rawD _ _=>cases e
def inD(x y:OY):Option PyData:=(Js x y).map .bool
noncomputable def eV(x y:OY):Option PyData:=(Js x y).map λb=>.bool (!b)
noncomputable def zug{K:Frag}(neg:Bool):iY K (λx y H Q=>(∃i j,x=.str i/\y=.str j/\Q (.bl (if neg then !(jJ j i) else jJ j i)) H)\/uI K neg x y H Q) (λx y=>(Js x y).map λb=>.bool (if neg then !b else b)):=λO ts H T v1 v2 x y d Q hc h1 h2 e q=>by
 obtain⟨b,e1,rfl⟩:=PV.mp e;unfold Js at e1;split at e1
 .cases e1
  exact .inl ⟨_,_,h1.str,h2.str,q _ H (.refl _ _) hc (.bl _)⟩
 .split at e1
  .rename_i hf
   cases e1;rw[Pg] at hf;obtain⟨a,vs,rfl,t,r⟩:=h2.lst;have r1:=h1.flat hf.1;refine .inr ⟨a,vs,rfl,.inl t,sD r1 hf.1,rK r hf.2,?_⟩;have z:C8 v1 vs=_:=sO r1 hf.1 r hf.2;rw[z];exact q _ H (.refl _ _) hc (.bl _)
  .cases e1
 .split at e1
  .rename_i hf
   cases e1;rw[Pg] at hf;obtain⟨a,vs,rfl,t,r⟩:=h2.tup;have r1:=h1.flat hf.1;refine .inr ⟨a,vs,rfl,.inr t.sq,sD r1 hf.1,rK r hf.2,?_⟩;have z:C8 v1 vs=_:=sO r1 hf.1 r hf.2;rw[z];exact q _ H (.refl _ _) hc (.bl _)
  .cases e1
 .cases e1
def g9:Z6 X (PX .In) inD:=⟨_,zvn.or zdd,zug Gy⟩
noncomputable def zuh:Z6 X (PX .NotIn) eV:=⟨_,zvp.or zde,zug G3⟩
noncomputable def jH:OY->Option OY
 |.int i=>KQ (.int (-i))
 |_=>HA
noncomputable def zui(ha:DE X a fa):DE X (.UnaryOp .USub a pos) (Zq jH fa):=zex zbi (λO ts H T v x d Q hc h e q=>by
 unfold jH at e;split at e
 .cases e
  exact⟨_,h.int,q _ H (.refl _ _) hc (.int _)⟩
 .cases e) ha
noncomputable def Y8:OY->OY->Option OY
 |.list xs,.int i=>Zd xs i
 |.tuple xs,.int i=>Zd xs i
 |.str z,.int i=>if z.length<=Ph then (Zd z.cps.toList i).map λc=>.str ⟨#[c]⟩ else HA
 |_,_=>HA
noncomputable def zuj{K:Frag}{O:Addr->Prop}{H:Hp}{vs:List V}{xs:List OY}{i:Int}{d:OY}(r:YK K O H vs xs)(e:Zd xs i=KQ d):∃v,Zd vs i=KQ v/\Rep K O H v d:=by
 unfold Zd at e ⊢;rw[r.length]
 cases h:Jh _ i with
 |none=>simp_all
 |some j=>
  rw[h] at e;exact r.getD e
noncomputable def aZ:IxD X Y8:=⟨_,zcz,λO ts H T v1 v2 x y d Q hc h1 h2 e q=>by
 unfold Y8 at e;split at e
 .obtain⟨a,vs,rfl,t,r⟩:=h1.lst
  obtain⟨v,k1,k2⟩:=zuj r e;exact .inl ⟨a,vs,_,v,rfl,h2.int,t,k1,q _ H (.refl _ _) hc k2⟩
 .obtain⟨a,vs,rfl,t,r⟩:=h1.tup
  obtain⟨v,k1,k2⟩:=zuj r e;exact .inr (.inl ⟨a,vs,_,v,rfl,h2.int,t.sq,k1,q _ H (.refl _ _) hc k2⟩)
 .split at e
  .rename_i hz
   obtain⟨c,k1,rfl⟩:=PV.mp e;exact .inr (.inr ⟨_,_,c,h1.str,h2.int,hz,k1,q _ H (.refl _ _) hc (.str _)⟩)
  .cases e
 .cases e⟩
end
noncomputable def zfl{prog:Pu}{w:PU}{A:Qa}{E:O9->Pe->Prop}{s:Pe}{t sl:Addr}{items:Array O9}{vl vu:O9}{lo hi:Option Int}{Q:O9->Pe->Prop}(ht:Xm s.heap t items)(hs:s.heap.IsSliceOf sl vl vu .none)(pl:U3 vl lo)(pu:U3 vu hi)
  (hw:HT.Zg items.size 0 lo=0/\HT.Zg items.size items.size hi=items.size) (h:Q (.ref t) s):PK (PP prog w) A (Tn (.ref t) (.ref sl)) Q E s:=by
 obtain⟨os,HB,CC,Gn⟩:=id hs;have w6:s.TypeIs (.ref sl) "slice":=⟨os,HB,CC⟩;unfold Tn
 try with_reducible refine RY ?_
 refine Pb (Wv ht.typeIs (rfl) ?_)
 refine Pb (QY  ht.typeIs Qt
  (Rj Qt ht.typeIs V2 ?_ (Wi _ _)))
 show PK _ _ (Su (.ref t) >>= _) _ _ s;refine Pb (V6 ht ?_);refine Pb (Ww w6 ?_);rw[if_pos (by rfl)];refine Pb (HT.zss hs pl pu ?_)
 have Aa:((((HT.Zg items.size 0 lo:Nat):Int) == 0&&(1:Int) == 1&&(HT.Zg items.size items.size hi-HT.Zg items.size 0 lo) == items.size)=G3):=by simp_all
 show PK _ _ (if _=G3 then _ else _) _ _ s;rw[if_pos Aa];refine Pb  (Pb (Ww ht.typeIs (Pl ?_)))
 first
 |omega
 |(exact Pb (Xu (Pl ⟨_,rfl,Pl h⟩)))
noncomputable def cm{α:Type}(xs:List α)(lo hi:Option Int):List α:=(xs.drop (HT.Zg xs.length 0 lo)).take (HT.Zg xs.length xs.length hi-HT.Zg xs.length 0 lo)
def YK.cut{K:Frag}{O:Addr->Prop}{H:Hp}{vs:List V}{ds:List OY}(r:YK K O H vs ds)(lo hi:Option Int):YK K O H (jM vs lo hi) (cm ds lo hi):=by
 unfold jM cm;rw[r.length];exact(r.drop _).take _
noncomputable def zfm{α:Type}{xs:List α}{lo hi:Option Int}(h:HT.Zg xs.length 0 lo=0/\HT.Zg xs.length xs.length hi=xs.length):cm xs lo hi=xs:=by unfold cm<;>simp_all
section
variable {X:Cx}
noncomputable def zvz:Fy X (λx lo hi H Q=>∃a xs,x=.ref a/\ZJ X.K H a xs/\((HT.Zg xs.length 0 lo=0/\HT.Zg xs.length xs.length hi=xs.length)->Q (.ref a) H) /\
  (¬(HT.Zg xs.length 0 lo=0/\HT.Zg xs.length xs.length hi=xs.length)->∀p,H p=HA->Q (.ref p) (upd H p (.tup (jM xs lo hi))))):=by
 intro pins s σ H x v vl vu lo hi sl Q I rx hs pl pu h;obtain⟨a,xs,rfl,hx,q1,q2⟩:=h
 by_cases hw:HT.Zg xs.length 0 lo=0/\HT.Zg xs.length xs.length hi=xs.length
 .cases rx
  obtain⟨YL,r,ht,hz⟩:=I.tuple hx
  have Y3:YL.toArray.size=xs.length:=by exact r.length.symm
  refine⟨"tuple",_,Qt.lookup,ht.typeIs,?_⟩;exact zfl ht hs pl pu (by rw[Y3];exact hw) ⟨.ref a,H,I,rfl,q1 hw⟩
 .exact zcv pins s σ H _ v vl vu lo hi sl Q I rx hs pl pu ⟨a,xs,rfl,hx,hw,q2 hw⟩
noncomputable def mv(x:OY)(lo hi:Option Int):Option PyData:=match x with
 |.list xs=>KQ (.list (cm xs lo hi))
 |.tuple xs=>KQ (.tuple (cm xs lo hi))
 |.str z=>if z.length<=Ph then KQ (.str (Rt z lo hi)) else HA
 |_=>HA
abbrev FO:=YR->Tp->Option (Option Int×Tp)
noncomputable def fM:FO:=λ_ T=>KQ (HA,T)
noncomputable def fP(f:FE):FO:=λρ T=>YS (f ρ T) λw T1=>match w with
 |.d (.int i)=>KQ (KQ i,T1)
 |_=>HA
inductive KS(K:Frag)(f:FO)(σ:L2.St)(H:Hp)(Q:Option Int->Hp->Prop):Prop where
 |mk (O:Addr->Prop) (ts:List Addr) (ρ:YR) (T:Tp) (o:Option Int) (T':Tp) (hc:HC K O ts H T) (re:Zu K O ts H σ ρ) (e:f ρ T=KQ (o,T')) (q:∀H',YM ts H H'->HC K O ts H' T'->Q o H'):KS K f σ H Q
def Kx(K:Frag)(f:FO):TO:=λσ H Q=>KS K f σ H Q
structure DO(X:Cx)(e:Option Expr)(f:FO):Prop where
 pe:PO X e (Kx X.K f)
noncomputable def zuk(h:PO X e t)(i:∀σ H Q,t' σ H Q->t σ H Q):PO X e t':=λpins s σ H Q I q=>h pins s σ H Q I (i σ H Q q)
noncomputable def gL:DO X HA fM:=by
 refine⟨?_⟩;refine zuk zcs λσ H Q=>?_;rintro⟨O,ts,ρ,T,o,T',hc,re,e,q⟩;cases e;exact q H (.refl _ _) hc
noncomputable def cL(h:DE X e f):DO X (KQ e) (fP f):=by
 refine⟨?_⟩;refine zuk (zct h.pe) λσ H Q=>?_;rintro⟨O,ts,ρ,T,o,T',hc,re,e,q⟩;obtain⟨w1,T1,e1,e⟩:=aG e;refine⟨O,ts,ρ,T,w1,T1,hc,re,e1,λv1 H1 s1 YN r1=>?_⟩;split at e
 .cases e
  cases (r1);exact⟨_,rfl,q H1 s1 YN⟩
 .cases e
noncomputable def GF(f:FE)(l u:FO):FE:=λρ T=>YS (f ρ T) λw T1=>YS (l ρ T1) λlo T2=>YS (u ρ T2) λhi T3=>CN (λx=>mv x lo hi) T3 w
noncomputable def dY{e:Expr}{lo hi:Option Expr}{f:FE}{l u:FO}{pos p2:Pos}(he:DE X e f)(hl:DO X lo l)(hu:DO X hi u):DE X (.Subscript e (.Slice lo hi HA p2) pos) (GF f l u):=by
 refine⟨?_⟩;refine bi (zcu (zvt.or (zvz.or zel)) he.pe hl.pe hu.pe) λσ H Q=>?_;rintro⟨O,ts,ρ,T,w,T',hc,re,e,q⟩;obtain⟨w1,T1,e1,e⟩:=aG e;obtain⟨o1,T2,e2,e⟩:=aG e;obtain⟨o2,T3,e3,e⟩:=aG e;obtain⟨x,d,h1,h3,rfl,rfl⟩:=kA e;refine⟨O,ts,ρ,T,w1,T1,hc,re,e1,λv1 H1 s1 YN r1=>?_⟩;refine⟨O,ts,ρ,T1,o1,T2,YN,re.mono hc s1,e2,λH2 s2 YY=>?_⟩;refine⟨O,ts,ρ,T2,o2,T',YY,re.mono hc (s1.trans s2),e3,λH3 s3 ZA=>?_⟩;have vw:=ZA.view (r1.mono YN (s2.trans s3)) h1;have q':=λv H' s c r=>q v H' (s1.trans (s2.trans (s3.trans s))) c r;clear q
 cases x with
 |list xs=>
  cases h3;obtain⟨a,vs,rfl,t,r⟩:=vw.lst;exact .inl ⟨a,vs,rfl,t,λp hp=>q' _ _ (.new hp _) (ZA.new hp _) (ZA.newL hp (r.cut _ _))⟩
 |tuple xs=>
  cases h3;obtain⟨a,vs,rfl,t,r⟩:=vw.tup;refine .inr (.inl ⟨a,vs,rfl,t.sq,λhw=>?_,λhw p hp=>?_⟩)
  .rw[r.length] at hw
   rw[zfm hw] at q';exact q' _ H3 (.refl _ _) ZA vw.tupR
  .exact q' _ _ (.new hp _) (ZA.new hp _) (ZA.newT hp (r.cut _ _))
 |str z=>
  have J9:(if z.length<=Ph then KQ _ else HA)=KQ d:=h3;split at J9
  .rename_i hz
   cases J9;exact .inr (.inr ⟨z,vw.str,hz,q' _ H3 (.refl _ _) ZA (.str _)⟩)
  .cases J9
 |_=>cases h3
end
inductive Kd where
 |non|bl|int|str|tup|lst|dct
 deriving DecidableEq
noncomputable def Kd.name:Kd->String
 |.non=>"NoneType" | .bl=>"bool" | .int=>"int" | .str=>"str" | .tup=>"tuple" | .lst=>"list" | .dct=>"dict"
noncomputable def kd:OY->Kd
 |.none=>.non | .bool _=>.bl | .int _=>.int | .str _=>.str | .list _=>.lst | .tuple _=>.tup | .dict _=>.dct
noncomputable def bQ(a b:Kd):Bool:=decide (a=b)||(decide (a=.bl)&&decide (b=.int))
noncomputable def Lx(t c:String):Option Bool:=if (Tf t == Tf c)=G3 then KQ G3 else if PySem.W.kitMeta c=G3 then (fastBuiltinMro t).map (·.contains (.type c)) else HA
noncomputable def jk(a b:Kd):b≠.non->Lx a.name b.name=KQ (bQ a b):=by cases a <;> cases b <;> first|(intro h;exact absurd rfl h)|(intro _;decide +kernel)
section
variable {X:Cx}
noncomputable def zfn:Zf X (.builtin "isinstance") (λxs H Q=>∃(x:V) (c:Kd) (O:Addr->Prop) (d:OY),xs=[x,.ty c.name]/\Vw X.K O H x d/\c≠.non/\Q (.bl (bQ (kd d) c)) H):=by
 intro pins s σ H xs us Q I r h;obtain⟨x,c,O,d,rfl,vw,hc,q⟩:=h;obtain⟨u,w',rfl,ru,ZS⟩:=vals2 r;cases (ZS);have fin:∀tk,EP X pins σ Q _ { s with toks:=tk }:=λtk=>⟨.bl _,H,I.tok _,rfl,q⟩
 cases d with
 |none=>cases vw.non;exact nR I ru .non (jk .non c hc) fin
 |bool b=>cases vw.bl;exact nR I ru (.bl b) (jk .bl c hc) fin
 |int i=>cases vw.int;exact nR I ru (.int i) (jk .int c hc) fin
 |str z=>cases vw.str;exact nR I ru (.str z) (jk .str c hc) fin
 |list ds=>
  obtain⟨a,vs,rfl,t,r⟩:=vw.lst;cases (show u=P4 a from ru);obtain⟨YL,_,pl,_⟩:=I.list t;obtain⟨o,n,e,c1,_⟩:=pl;exact Qn Ux I.kIn ⟨o,e,c1⟩ (jk .lst c hc) (λz=>nomatch z) fin
 |tuple ds=>
  obtain⟨a,vs,rfl,t,r⟩:=vw.tup;cases (show u=P4 a from ru);obtain⟨YL,_,pl,_⟩:=I.tuple t.sq;obtain⟨o,e,c1,_⟩:=pl;exact Qn Wh I.kIn ⟨o,e,c1⟩ (jk .tup c hc) (λz=>nomatch z) fin
 |dict ds=>
  obtain⟨a,vs,rfl,t,r⟩:=vw.dct;cases (show u=P4 a from ru);obtain⟨_,_,_,_,o,_,_,e,c1,_⟩:=kX I.hok t;exact Qn Uy I.kIn ⟨o,e,c1.1⟩ (jk .dct c hc) (λz=>nomatch z) fin
noncomputable def bu(c:Kd)(x:OY):Option PyData:=KQ (.bool (bQ (kd x) c))
noncomputable def bz(c:Kd)(hi:X.mg "isinstance"=HA)(he:DE X e f)(hm:X.mg T=HA)(hb:Rx T=KQ (.type c.name))(hcn:autoParam (c≠.non) u11)(hg:autoParam (Gl X "isinstance") u10)(hT:autoParam (Gl X T) u10)(hn:autoParam (T≠"__name__") u11)(ZG:autoParam ((T == ("__debug__" : Str))=Gy) u11)
  (hs:autoParam (Pi [e,.Name T p] X.env=(Gy,eval e X.env)::Pi [.Name T p] X.env) u13) (Em:autoParam (Pi [.Name T p] X.env=(Gy,eval (.Name T p) X.env)::Pi [] X.env) u13)
  (Zv:autoParam ((Qj pos (Pi [.Name T p] X.env)).any (·.1)=Gy) u14):DE X (.Call (.Name "isinstance" p') [e,.Name T p] [] pos) (Zq (bu c) f):=by
 refine⟨?_⟩;refine bi (zsm zfn hg hi Xf (aV he.pe (aV (zao (v:=.ty _) hT hm hb rfl hn ZG) br Em) hs) (by decide) (rfl) hs Zv) λσ H Q=>?_;rintro⟨O,ts,ρ,T,w,T',hc,re,e,q⟩;obtain⟨w1,T1,e1,e⟩:=aG e;obtain⟨x,d,h1,h3,rfl,rfl⟩:=kA e;cases h3;refine⟨O,ts,ρ,T,w1,T',hc,re,e1,λv1 H1 s1 YN r1=>?_⟩;exact⟨v1,c,O,x,rfl,YN.view r1 h1,hcn,q _ H1 s1 YN (.bl _)⟩
noncomputable def aW:List OY->Option OY
 |[.list xs]=>KQ (.int xs.length)
 |[.tuple xs]=>KQ (.int xs.length)
 |[.str z]=>if z.length<=Ph then KQ (.int z.length) else HA
 |[.dict kvs]=>KQ (.int kvs.length)
 |_=>HA
noncomputable def dZ{K:Frag}{O:Addr->Prop}{H:Hp}{vs:List V}{x:OY}(h:Kr K O H vs [x]):∃v,vs=[v]/\Vw K O H v x:=by cases h with|cons h t=>cases t;exact⟨_,rfl,h⟩
noncomputable def zfo{K:Frag}{O:Addr->Prop}{H:Hp}{vs:List V}{x y:OY}(h:Kr K O H vs [x,y]):∃v u,vs=[v,u]/\Vw K O H v x/\Vw K O H u y:=by cases h with|cons h t=>cases t with|cons h' t=>cases t;exact⟨_,_,rfl,h,h'⟩
theorem zul{K:Frag}{O:Addr->Prop}{H:Hp}:∀{kvs:List (Key×V)}{ds:List (OY×OY)},Zh K O H kvs ds->kvs.length=ds.length
 |_,_,.nil=>rfl
 |_,_,.cons _ t=>congrArg _ (zul t)
noncomputable def zfp:Zf X (.builtin "len") (λxs H Q=>∃a kvs,xs=[V.ref a]/\Rd H a (.dK kvs)/\Q (.int kvs.length) H):=by
 intro pins s σ H xs us Q I r h;obtain⟨a,kvs,rfl,ha,q⟩:=h;obtain⟨u,rfl,ru⟩:=vals1 r;cases ru;exact zdo I ha λt s' I'=>⟨.int _,H,I',⟨t,rfl⟩,q⟩
noncomputable def mZ:fI X (.builtin "len") aW:=⟨_,zvu.or (zvv.or zfp),λO ts H T vs xs d Q hc h e q=>by
 unfold aW at e;split at e
 .cases e
  obtain⟨v,rfl,g⟩:=dZ h;obtain⟨a,vs,rfl,t,r⟩:=g.lst;exact .inl ⟨a,vs,rfl,.inl t,by rw[r.length];exact q _ H (.refl _ _) hc (.int _)⟩
 .cases e
  obtain⟨v,rfl,g⟩:=dZ h;obtain⟨a,vs,rfl,t,r⟩:=g.tup;exact .inl ⟨a,vs,rfl,.inr t.sq,by rw[r.length];exact q _ H (.refl _ _) hc (.int _)⟩
 .split at e
  .rename_i hz
   cases e;obtain⟨v,rfl,g⟩:=dZ h;cases g.str;exact .inr (.inl ⟨_,rfl,hz,q _ H (.refl _ _) hc (.int _)⟩)
  .cases e
 .cases e
  obtain⟨v,rfl,g⟩:=dZ h;obtain⟨a,kvs,rfl,t,r⟩:=g.dct;exact .inr (.inr ⟨a,kvs,rfl,t,by rw[zul r];exact q _ H (.refl _ _) hc (.int _)⟩)
 .cases e⟩
noncomputable def qh:List OY->Option OY
 |[.int i]=>KQ (.int (if i<0 then -i else i))
 |_=>HA
noncomputable def zfq:fI X (.builtin "abs") qh:=⟨_,zbv,λO ts H T vs xs d Q hc h e q=>by
 unfold qh at e;split at e
 .cases e
  obtain⟨v,rfl,g⟩:=dZ h;cases g.int;exact⟨_,rfl,q _ H (.refl _ _) hc (.int _)⟩
 .cases e⟩
noncomputable def mU:List OY->Option OY
 |[.int i,.int j]=>KQ (.int (if j>i then j else i))
 |_=>HA
noncomputable def zfr(hc:autoParam (X.calm=G3) u10):fI X (.builtin "max") mU:=⟨_,zbw hc,λO ts H T vs xs d Q hc h e q=>by
 unfold mU at e;split at e
 .cases e
  obtain⟨v,u,rfl,g,g'⟩:=zfo h;cases g.int;cases g'.int;exact⟨_,_,rfl,q _ H (.refl _ _) hc (.int _)⟩
 .cases e⟩
noncomputable def kG:List OY->Option (List Bool)
 |[]=>KQ []
 |.bool b::r=>(kG r).map (b::·)
 |_=>HA
noncomputable def kN:List OY->Option (List Int)
 |[]=>KQ []
 |.int b::r=>(kN r).map (b::·)
 |_=>HA
noncomputable def eB:List OY->Option (List Str)
 |[]=>KQ []
 |.str b::r=>(eB r).map (b::·)
 |_=>HA
theorem zum{K:Frag}{O:Addr->Prop}{H:Hp}:∀{vs:List V}{xs:List OY}{bs:List Bool},YK K O H vs xs->kG xs=KQ bs->vs=bs.map V.bl
 |_,_,_,.nil,e=>by cases e;rfl
 |_,x::r,bs,.cons h t,e=>by
  cases x with
  |bool b=>
   obtain⟨cs,e1,rfl⟩:=PV.mp (e);cases h;rw[zum t e1];rfl
  |_=>cases e
theorem zun{K:Frag}{O:Addr->Prop}{H:Hp}:∀{vs:List V}{xs:List OY}{bs:List Int},YK K O H vs xs->kN xs=KQ bs->vs=bs.map V.int
 |_,_,_,.nil,e=>by cases e;rfl
 |_,x::r,bs,.cons h t,e=>by
  cases x with
  |int b=>
   obtain⟨cs,e1,rfl⟩:=PV.mp (e);cases h;rw[zun t e1];rfl
  |_=>cases e
theorem lY{K:Frag}{O:Addr->Prop}{H:Hp}:∀{vs:List V}{xs:List OY}{bs:List Str},YK K O H vs xs->eB xs=KQ bs->vs=bs.map V.str
 |_,_,_,.nil,e=>by cases e;rfl
 |_,x::r,bs,.cons h t,e=>by
  cases x with
  |str b=>
   obtain⟨cs,e1,rfl⟩:=PV.mp (e);cases h;rw[lY t e1];rfl
  |_=>cases e
noncomputable def hW:List OY->Option OY
 |[.list xs]=>(kG xs).map λbs=>.bool (bs.all id)
 |_=>HA
noncomputable def m4(hc:autoParam (X.calm=G3) u10):fI X (.builtin "all") hW:=⟨_,zeh hc,λO ts H T vs xs d Q hc h e q=>by
 unfold hW at e;split at e
 .obtain⟨bs,e1,rfl⟩:=PV.mp e
  obtain⟨v,rfl,g⟩:=dZ h;obtain⟨a,vs,rfl,t,r⟩:=g.lst;rw[zum r e1] at t;exact⟨a,bs,rfl,t,q _ H (.refl _ _) hc (.bl _)⟩
 .cases e⟩
noncomputable def p8:List OY->Option OY
 |[.list xs]=>(kN xs).map λbs=>.int bs.sum
 |_=>HA
noncomputable def zfs(hc:autoParam (X.calm=G3) u10):fI X (.builtin "sum") p8:=⟨_,zej hc,λO ts H T vs xs d Q hc h e q=>by
 unfold p8 at e;split at e
 .obtain⟨bs,e1,rfl⟩:=PV.mp e
  obtain⟨v,rfl,g⟩:=dZ h;obtain⟨a,vs,rfl,t,r⟩:=g.lst;rw[zun r e1] at t;exact⟨a,bs,rfl,t,q _ H (.refl _ _) hc (.int _)⟩
 .cases e⟩
noncomputable def gv:List OY->Option OY
 |[.int i]=>if i.natAbs.log2<1920 then KQ (.str (toString i)) else HA
 |_=>HA
noncomputable def mY:fI X (.type "str") gv:=⟨_,zbx,λO ts H T vs xs d Q hc h e q=>by
 unfold gv at e;split at e
 .split at e
  .rename_i hz
   cases e;obtain⟨v,rfl,g⟩:=dZ h;cases g.int;exact⟨_,rfl,hz,q _ H (.refl _ _) hc (.str _)⟩
  .cases e
 .cases e⟩
noncomputable def dS:List OY->Option OY
 |[.list xs]=>KQ (.tuple xs)
 |[.tuple xs]=>KQ (.tuple xs)
 |_=>HA
noncomputable def jn:fI X (.type "tuple") dS:=⟨_,zdg,λO ts H T vs xs d Q hc h e q=>by
 unfold dS at e;split at e
 .cases e
  obtain⟨v,rfl,g⟩:=dZ h;obtain⟨a,vs,rfl,t,r⟩:=g.lst;exact⟨a,vs,rfl,.inl ⟨t,λp hp=>q _ _ (.new hp _) (hc.new hp _) (hc.newT hp r)⟩⟩
 .cases e
  obtain⟨v,rfl,g⟩:=dZ h;obtain⟨a,vs,e1,t,r⟩:=g.tup;subst e1;exact⟨a,vs,rfl,.inr ⟨t.sq,q _ H (.refl _ _) hc (.tup t r)⟩⟩
 .cases e⟩
noncomputable def kM:List OY->Option OY
 |[.list xs]=>KQ (.list xs)
 |[.tuple xs]=>KQ (.list xs)
 |_=>HA
noncomputable def zuo:fI X (.type "list") kM:=⟨_,zdf,λO ts H T vs xs d Q hc h e q=>by
 unfold kM at e;split at e
 .cases e
  obtain⟨v,rfl,g⟩:=dZ h;obtain⟨a,vs,rfl,t,r⟩:=g.lst;exact⟨a,vs,rfl,.inl t,λp hp=>q _ _ (.new hp _) (hc.new hp _) (hc.newL hp r)⟩
 .cases e
  obtain⟨v,rfl,g⟩:=dZ h;obtain⟨a,vs,rfl,t,r⟩:=g.tup;exact⟨a,vs,rfl,.inr t.sq,λp hp=>q _ _ (.new hp _) (hc.new hp _) (hc.newL hp r)⟩
 .cases e⟩
noncomputable def zwa:BA X "str.join" (λx vs H Q=>∃(z:Str) (l:Addr) (ys:List Str),x=.str z/\vs=[.ref l]/\Zc X.K H l (ys.map V.str)/\(ys.map (·.length)).sum+ys.length*z.length<=16777216/\Q (.str (PF z ys)) H):=by
 intro pins s σ H x vs v us Q I rx rv h;obtain⟨z,l,ys,rfl,rfl,hq,hz,q⟩:=h;obtain⟨t,rfl⟩:=rx;obtain⟨u,rfl,ru⟩:=vals1 rv;cases ru;obtain⟨YL,ZS,pl,_⟩:=I.list hq;refine join_list  pl.isList (by simpa using ztp ZS) hz λt' k=>⟨.str _,H,I.tok _,⟨t',?_⟩,q⟩;show Ua (WF z ys) t'=_;rw[Vr]
noncomputable def fD:OY->OY->Option OY
 |.str z,.list xs=>match eB xs with
  |some ys=>if (ys.map (·.length)).sum+ys.length*z.length<=16777216 then KQ (.str (PF z ys)) else HA
  |none=>HA
 |_,_=>HA
noncomputable def sJ(ho:DE X o fo)(he:DE X e fe)
  (Zk:autoParam (QI o "join" X.env (eval o X.env)=eval o X.env) u10)
  (ZI:autoParam (((Qj YO (Pi [e] X.env)).all (λx=>!x.1)&&(RO YO (QQ [] X.env)).all (λx=>x.1.isSome)
   && decide (([e]:List Expr).length+([]:List Rn).length+(if ([]:List Rn).isEmpty then 0 else 1)<30))=G3) u19)
  (Zj:autoParam ((apos.endLine == YO.line)=G3) u10) (Z0:autoParam (Pi [e] X.env=(Gy,eval e X.env)::Pi [] X.env) u13) (Y6:autoParam ((Qj YO (Pi [] X.env)).any (·.1)=Gy) u14) :
  DE X (.Call (.Attribute o "join" apos) [e] [] YO) (ae fD fo fe):=by
 refine⟨?_⟩;refine bi (gn Sf Vs Vt zwa ho.pe (aV he.pe br Z0) Zk ZI Zj Z0 Y6) λσ H Q=>?_;rintro⟨O,ts,ρ,T,w,T',hc,re,e,q⟩;obtain⟨w1,T1,e1,e⟩:=aG e;obtain⟨w2,T2,e2,e⟩:=aG e;obtain⟨x,y,d,h1,h2,h3,rfl,rfl⟩:=gO e;unfold fD at h3;split at h3
 .rename_i z xs
  split at h3
  .rename_i ys hy
   split at h3
   .rename_i hz
    cases h3;refine⟨O,ts,ρ,T,w1,T1,hc,re,e1,λv1 H1 s1 YN r1=>?_⟩
    have ev:v1=.str z:=by
     cases w1 with
     |d x=>cases h1;cases (show Rep X.K O H1 v1 _ from r1);rfl
     | tp k=>exact(by
       have Ii:(T'[k]?).bind k6=KQ (QP z):=h1
       cases hk:T'[k]? with
       |none=>simp_all
       |some xs=>
        rw[hk] at Ii;have e2:(if Cz xs=G3 then HA else KQ (Xa xs))=KQ (QP z):=Ii
        split at e2 <;> cases e2)
     |loc zs=>cases zs <;> cases h1
    subst ev;refine⟨rfl,O,ts,ρ,T1,w2,T',YN,re.mono hc s1,e2,λv2 H2 s2 YY r2=>?_⟩;obtain⟨a,vs,rfl,t,r⟩:=(YY.view r2 h2).lst;rw[lY r hy] at t;exact⟨z,a,ys,rfl,rfl,t,hz,q _ H2 (s1.trans s2) YY (.str _)⟩
   .cases h3
  .cases h3
 .cases h3
end
mutual
def mQ:OY->Bool
 |.list _=>Gy
 |.tuple ds=>oV ds
 |.dict kvs=>oW kvs
 |.none | .bool _ | .int _ | .str _=>G3
def oV:List OY->Bool
 |[]=>G3
 |d::r=>mQ d&&oV r
def oW:List (OY×OY)->Bool
 |[]=>G3
 |(_,v)::r=>mQ v&&oW r
end
section
variable {X:Cx}{pins:List (Addr×Obj)}{σ:L2.St}{H:Hp}{s:Pe}{O:Addr->Prop}
noncomputable def zft(e:iN k v=G3):VM h v (Zn k) []:=by
 rcases ff e with⟨i,t,rfl,rfl⟩|⟨x,t,rfl,rfl⟩
 .exact .int i t
 .exact .str x t
mutual
theorem Rep.reads(I:Inv X pins σ H s):∀{v:V}{d:OY}{u:O9},Rep X.K O H v d->RelV v u->∃as,VM s.heap u d as/\(mQ d=G3->QB∉as)
 |_,_,_,.non,r=>by cases r;exact⟨_,.none,λ_=>by simp⟩
 |_,_,_,.bl b,r=>by cases r;exact⟨_,.bool b,λ_=>by simp⟩
 |_,_,_,.int i,r=>by obtain⟨t,rfl⟩:=r;exact⟨_,.int i t,λ_=>by simp⟩
 |_,_,_,.str x,r=>by obtain⟨t,rfl⟩:=r;exact⟨_,.str x t,λ_=>by simp⟩
 |_,_,_,.tup (a:=a) (vs:=vs) h rs,r=>by
  cases r;obtain⟨YL,rv,⟨o,e,c,n,dd⟩,_⟩:=I.tuple h.sq;obtain⟨as,q,f⟩:=YK.reads I rs rv;exact⟨as,.tuple e c dd (by simpa using q),f⟩
 |_,_,_,.lst (a:=a) (vs:=vs) h rs,r=>by
  cases r;obtain⟨YL,rv,pl,_⟩:=I.list h.sq;obtain⟨o,n,e,c,_,dd⟩:=pl;obtain⟨as,q,f⟩:=YK.reads I rs rv;exact⟨_,.list e c dd (by simpa using q),λz=>by cases z⟩
 |_,_,_,.dct (a:=a) (kvs:=kvs) (ds:=ds) _ h rk,r=>by
  cases r;obtain⟨z,y,vs,kv,o,es,ep,e,ed,dd,_,ek,_⟩:=(show Y5 X.prog X.w H s.heap a (.dK kvs) from(I.hok a _ h).2);obtain⟨bs,q1,q2,f⟩:=Zh.reads I rk kv ek;refine⟨_,.dict (kvs:=ds) (as:=[]) (bs:=bs) e ed.1 dd q1 q2,λzz hm=>?_⟩
  rcases Pr.mp (by simpa using hm:QB∈a::bs) with q|q
  .rw[q] at y
   simp at y
  .exact f zz q
theorem YK.reads(I:Inv X pins σ H s):∀{vs:List V}{ds:List OY}{us:List O9},YK X.K O H vs ds->YQ vs us->∃as,Tt s.heap us ds as/\(oV ds=G3->QB∉as)
 |_,_,_,.nil,r=>by cases r;exact⟨_,.nil,λ_=>by simp⟩
 |_,_,_,.cons (d:=d) (ds:=ds) q t,r=>by
  cases r with
  |cons r1 r2=>
   obtain⟨as,h1,f1⟩:=Rep.reads I q r1;obtain⟨bs,h2,f2⟩:=YK.reads I t r2;refine⟨as++bs,.cons h1 h2,λz=>?_⟩;have z':(mQ d&&oV ds)=G3:=z;rw[Pg] at z';intro hm
   rcases Pt.mp hm with hm|hm
   .exact f1 z'.1 hm
   .exact f2 z'.2 hm
theorem Zh.reads(I:Inv X pins σ H s):∀{kvs:List (Key×V)}{ds:List (OY×OY)}{vs:List (Key×O9)}{es:List UM},Zh X.K O H kvs ds->KV kvs vs->Pairs (cJ X.prog X.w) es vs ->
  ∃bs,Tt s.heap (es.map (·.key)) (ds.map (·.1)) []/\Tt s.heap (es.map (·.val)) (ds.map (·.2)) bs/\(oW ds=G3->QB∉bs)
 |_,_,_,_,.nil,r,ek=>by
  cases r;cases ek;exact⟨[],.nil,.nil,λ_=>by simp⟩
 |_,_,_,_,.cons (k:=k) (d:=d) (ds:=ds) q t,r,ek=>by
  cases r with
  |cons r1 r2=>
   cases ek with
   |cons e1 Hg e2=>
    obtain⟨as,h1,f1⟩:=Rep.reads I q r1.2;obtain⟨bs,h2,h3,f2⟩:=Zh.reads I t r2 e2;rw[←Hg] at h1;have k1:=zft (h:=s.heap) (show iN _ _=G3 from e1);rw[←r1.1] at k1;refine⟨as++bs,.cons (as:=[]) (bs:=[]) k1 h2,.cons h1 h3,λz=>?_⟩;have z':(mQ d&&oW ds)=G3:=z;rw[Pg] at z';intro hm
    rcases Pt.mp hm with hm|hm
    .exact f1 z'.1 hm
    .exact f2 z'.2 hm
end
end
structure Df(K:Frag)(name:Str)(st:Stmt):Prop where
 ex:∃(f:Addr) (oc:O9) (od an:Option Addr) (sl:Array (Option O9)) (kV dc pm cd ct:O9),Qp K P1 name=KQ (KQ (.ref f)) /\
  K.lookup f=KQ ⟨oc,od,.func (Qf name name (df st) (bP st) (aO st) .none kV dc pm an cd ct),sl⟩/\R8 K cd name=G3/\QT K (.ref f)=G3
noncomputable def KG{K:Frag}{name:Str}{st:Stmt}{f:Addr}{oc:O9}{od an:Option Addr}{sl:Array (Option O9)}{kV dc pm cd ct:O9}(a:Qp K P1 name=KQ (KQ (.ref f)))
  (l:K.lookup f=KQ ⟨oc,od,.func (Qf name name (df st) (bP st) (aO st) .none kV dc pm an cd ct),sl⟩) (c:R8 K cd name=G3) (k:QT K (.ref f)=G3):Df K name st:=⟨f,oc,od,an,sl,kV,dc,pm,cd,ct,a,l,c,k⟩
def Df.fn{P:Pu}{w:PU}{K:Frag}{mg:Str->Option O9}{base h:Heap}{name:Str}{st:Stmt}{ps:List Str}{k:Nat}{sp:Sp}(d:Df K name st)(X:K.In h)(G:h.Ns P1 mg)
  (hb:∀(kV doc pm:O9) (an:Option Addr) (Y9 ct:O9) (us:List O9),us.length=ps.length->SE (Qf name name (df st) (bP st) (aO st) .none kV doc pm an Y9 ct) ⟨us,[]⟩=pure (ps.zip us))
  (ok:∀f fd,KH K name name st f fd->Zr P w K mg base Z7 k f fd ps sp):Fn P w K mg base name ps k sp:=by
 obtain⟨f,oc,od,an,sl,kV,dc,pm,cd,ct,a,l,c,kp⟩:=d.ex;have F:=pd  l c kp;exact⟨f,_,ok f _ F,F.binds hb,kp,Q1 X G a⟩
noncomputable def zfu{P:Pu}{w:PU}{K:Frag}{mg:Str->Option O9}{base:Heap}{k n:Nat}{f:Addr}{fd:RG}{ps:List Str}:Zr P w K mg base Z7 k f fd ps (Y1 K n λ_ _=>HA):=by
 have no:∀vs H Q E,¬Y1 K n (λ_ _=>HA) vs H Q E:=λvs H Q E h=>by
  obtain⟨O,ts,T,ws,x,T',_,_,_,e,_⟩:=h;cases e
 exact⟨λvs H Q E h=>absurd h (no vs H Q E),λA outer s H args us vs Q E _ _ _ _ h=>absurd h (no vs H Q E)⟩
noncomputable def pF(K:Frag):Sp:=λvs H Q _=>∃(a:Addr) (ns:List Int),vs=[.ref a]/\Zc K H a (ns.map V.int)/\ns.length<=63/\∀H',Q (.bl G3) H'
noncomputable def bR(ns:List Int):PyData:=.list (ns.map .int)
theorem zup{K:Frag}{O:Addr->Prop}{H:Hp}:∀ns:List Int,YK K O H (ns.map V.int) (ns.map Vc)
 |[]=>.nil
 |_::r=>.cons (.int _) (zup r)
section
variable {α β:Type}{ρ:YR}{T:Tp}{f g:FE}{c c':FT}{s s':FS}{a:FA}{w w':W}{x y:OY}
@[simp] theorem bv:YS (KQ (b,T)) k=k b T:=rfl
@[simp] theorem Nd:YS HA k=HA:=rfl
@[simp] theorem Nf[Decidable p]:YS (if p then u else v) k=if p then YS u k else YS v k:=by split <;> rfl
@[simp] theorem pN:aJ N s ws T=if eC ws=G3 then du (s (ws.map KQ++Pp (N-ws.length) HA) T) else HA:=rfl
@[simp] theorem qV:eC []=G3:=rfl
@[simp] theorem qU:eC (.d x::r)=eC r:=rfl
@[simp] theorem LS:eC (.tp i::r)=eC r:=rfl
@[simp] theorem mi:du (KQ ((.rt x,r),T))=KQ (x,T):=rfl
@[simp] theorem M7:du (KQ ((.nx,r),T))=KQ (.none,T):=rfl
@[simp] theorem M8[Decidable p]:du (if p then u else v)=if p then du u else du v:=by split <;> rfl
noncomputable def gw(s':FS)(p:Fl×YR)(T:Tp):Option ((Fl×YR)×Tp):=match p with
 |(.nx,Ze)=>s' Ze T
 |(fl,Ze)=>KQ ((fl,Ze),T)
@[simp] theorem tJ:ah s s' ρ T=YS (s ρ T) (gw s'):=rfl
@[simp] theorem kg:gw s' (.nx,Ze) T=s' Ze T:=rfl
@[simp] theorem ma:gw s' (.rt x,Ze) T=KQ ((.rt x,Ze),T):=rfl
@[simp] theorem MF:gw s' (.bk,Ze) T=KQ ((.bk,Ze),T):=rfl
@[simp] theorem ME:gw s' (.ct,Ze) T=KQ ((.ct,Ze),T):=rfl
@[simp] theorem MP:aw ρ T=KQ ((.nx,ρ),T):=rfl
noncomputable def ifK(s s':FS)(ρ:YR)(b:Bool)(T1:Tp):Option ((Fl×YR)×Tp):=if b=G3 then s ρ T1 else s' ρ T1
@[simp] theorem OC:YT c s s' ρ T=YS (c ρ T) (ifK s s' ρ):=rfl
@[simp] theorem Of:ifK s s' ρ b T=if b=G3 then s ρ T else s' ρ T:=rfl
noncomputable def A7(ρ:YR):W->Tp->Option ((Fl×YR)×Tp):=λw T1=>match w with
 |.d x=>KQ ((.rt x,ρ),T1)
 |_=>HA
@[simp] theorem NH:aj f ρ T=YS (f (cz ρ) T) (A7 ρ):=rfl
@[simp] theorem MJ:A7 ρ (.d x) T=KQ ((.rt x,ρ),T):=rfl
@[simp] theorem M6:cz []=[]:=rfl
@[simp] theorem M3:cz (HA::r)=HA::cz r:=rfl
@[simp] theorem M5:cz (KQ (.d x)::r)=KQ (.d x)::cz r:=rfl
@[simp] theorem M2:cz (KQ (.tp i)::r)=KQ (.tp i)::cz r:=rfl
@[simp] theorem M4:cz (KQ (.loc x)::r)=KQ (.d x)::cz r:=rfl
noncomputable def p9(i:Nat)(ρ:YR):W->Tp->Option ((Fl×YR)×Tp):=λw T1=>match w with
 |.d x=>KQ ((.nx,ρ.set i (KQ (.d x))),T1)
 |.tp k=>KQ ((.nx,ρ.set i (KQ (.tp k))),T1)
 |.loc _=>HA
@[simp] theorem Ja:ax i f ρ T=YS (f ρ T) (p9 i ρ):=rfl
@[simp] theorem MC:p9 i ρ (.d x) T=KQ ((.nx,ρ.set i (KQ (.d x))),T):=rfl
@[simp] theorem MA:p9 i ρ (.tp k) T=KQ ((.nx,ρ.set i (KQ (.tp k))),T):=rfl
noncomputable def Aw(i:Nat)(ρ:YR)(T:Tp):Option (List OY)->Option ((Fl×YR)×Tp)
 |some xs=>if xs.length<=1000 then KQ ((.nx,ρ.set i (KQ (.loc (.list xs)))),T) else HA
 |none=>HA
@[simp] theorem MB:cO i a ρ T=YS (a ρ T) λws T1=>Aw i ρ T1 (fH ws):=rfl
@[simp] theorem L5:Aw i ρ T (KQ xs)=if xs.length<=1000 then KQ ((.nx,ρ.set i (KQ (.loc (.list xs)))),T) else HA:=rfl
noncomputable def Bp(i:Nat)(ρ:YR)(x:OY)(T:Tp)(o:Option (Option W)):Option ((Fl×YR)×Tp):=match o with
 |some (KQ (.loc (.list xs)))=>if xs.length<Ph then KQ ((.nx,ρ.set i (KQ (.loc (.list (xs++[x]))))),T) else HA
 |_=>HA
noncomputable def Bo(i:Nat)(ρ:YR):W->Tp->Option ((Fl×YR)×Tp):=λw T1=>match w with
 | .d x=>(match ρ[i]? with
  |some (KQ (.loc (.list xs)))=>if xs.length<Ph then KQ ((.nx,ρ.set i (KQ (.loc (.list (xs++[x]))))),T1) else HA
  | _=>HA)
 |_=>HA
@[simp] theorem Os:cH i f ρ T=YS (f ρ T) (Bo i ρ):=rfl
@[simp] theorem Nh:Bo i ρ (.d x) T=Bp i ρ x T ρ[i]?:=rfl
@[simp] theorem Ni:Bp i ρ x T (KQ (KQ (.loc (.list xs))))=if xs.length<Ph then KQ ((.nx,ρ.set i (KQ (.loc (.list (xs++[x]))))),T) else HA:=rfl
@[simp] theorem Ox:GF f l u ρ T=YS (f ρ T) λw T1=>YS (l ρ T1) λlo T2=>YS (u ρ T2) λhi T3=>CN (λx=>mv x lo hi) T3 w:=rfl
@[simp] theorem NO:fM ρ T=KQ (HA,T):=rfl
noncomputable def pK:W->Tp->Option (Option Int×Tp):=λw T1=>match w with
 |.d (.int i)=>KQ (KQ i,T1)
 |_=>HA
@[simp] theorem OW:fP f ρ T=YS (f ρ T) pK:=rfl
@[simp] theorem Oy:pK (.d (.int i)) T=KQ (KQ i,T):=rfl
@[simp] theorem NF{z:Str}{lo hi:Option Int}:mv (.str z) lo hi=if z.length<=Ph then KQ (.str (Rt z lo hi)) else HA:=rfl
@[simp] theorem ND{xs:List OY}{lo hi:Option Int}:mv (.tuple xs) lo hi=KQ (.tuple (cm xs lo hi)):=rfl
@[simp] theorem NG{xs:List OY}{lo hi:Option Int}:mv (.list xs) lo hi=KQ (.list (cm xs lo hi)):=rfl
@[simp] theorem M9:fF f ρ T=YS (f ρ T) λ_ T1=>KQ ((.nx,ρ),T1):=rfl
@[simp] theorem Mv:aa 0 (KQ o::r) T=KQ (o,T):=rfl
@[simp] theorem Ml:aa (i+1) (o::r) T=aa i r T:=rfl
@[simp] theorem Mu:aa 1 (o::r) T=aa 0 r T :=rfl
@[simp] theorem Mt:aa 2 (o::r) T=aa 1 r T :=rfl
@[simp] theorem Ms:aa 3 (o::r) T=aa 2 r T :=rfl
@[simp] theorem Mr:aa 4 (o::r) T=aa 3 r T :=rfl
@[simp] theorem Mq:aa 5 (o::r) T=aa 4 r T :=rfl
@[simp] theorem Mp:aa 6 (o::r) T=aa 5 r T :=rfl
@[simp] theorem Mo:aa 7 (o::r) T=aa 6 r T :=rfl
@[simp] theorem Mn:aa 8 (o::r) T=aa 7 r T :=rfl
@[simp] theorem Mm:aa 9 (o::r) T=aa 8 r T :=rfl
@[simp] theorem OX:fC x ρ T=KQ (.d x,T):=rfl
@[simp] theorem Mj:view T (.d x)=KQ x:=rfl
@[simp] theorem L0:view T (.tp i)=(T[i]?).bind k6:=rfl
@[simp] theorem MG:k6 xs=if Cz xs=G3 then HA else KQ (.list xs):=rfl
@[simp] theorem Mi:Cz (.list xs::r)=Gy:=rfl
@[simp] theorem L3:view T (.loc (.list xs))=KQ (.list xs):=rfl
@[simp] theorem LN:view T (.loc (.dict xs))=KQ (.dict xs):=rfl
noncomputable def Ew(T:Tp)(o:Option OY):Option (W×Tp):=match o with
 |some d=>KQ (.d d,T)
 |none=>HA
@[simp] theorem NX:Ew T (KQ x)=KQ (.d x,T):=rfl
@[simp] theorem MS:Ew T HA=HA:=rfl
@[simp] theorem MT[Decidable p]:Ew T (if p then u else v)=if p then Ew T u else Ew T v:=by split <;> rfl
noncomputable def Bn(o:OY->OY->Option OY)(g:FE)(ρ:YR)(w1:W)(T1:Tp):Option (W×Tp):=YS (g ρ T1) λw2 T2=>Ko o T2 w1 w2
@[simp] theorem Oo:ae o f g ρ T=YS (f ρ T) (Bn o g ρ):=rfl
@[simp] theorem Ng:Bn o g ρ w T=YS (g ρ T) λw2 T2=>Ko o T2 w w2:=rfl
@[simp] theorem NM:Ko o T (.d x) (.d y)=Ew T (o x y):=rfl
@[simp] theorem ML:Ko o ((.list zs::xs)::r) (.tp 0) (.d y)=Ew ((.list zs::xs)::r) (o (.list (.list zs::xs)) y):=rfl
@[simp] theorem Ow:Zq o f ρ T=YS (f ρ T) λw1 T1=>CN o T1 w1:=rfl
@[simp] theorem NN:CN o T (.d x)=Ew T (o x):=rfl
@[simp] theorem Oq:Gm (.d (.bool b))=KQ b:=rfl
noncomputable def AZ:W->Tp->Option (Bool×Tp):=λw T1=>match Gm w with
 |some b=>KQ (b,T1)
 |none=>HA
@[simp] theorem Ny:aq f ρ T=YS (f ρ T) AZ:=rfl
@[simp] theorem Mw:AZ (.d (.bool b)) T=KQ (b,T):=rfl
@[simp] theorem Nz:aP f ρ T=YS (f ρ T) λw T1=>pZ T1 w:=rfl
noncomputable def A0(T:Tp)(o:Option Bool):Option (Bool×Tp):=match o with
 |some b=>KQ (b,T)
 |none=>HA
@[simp] theorem Mz:pZ T (.d x)=A0 T (pY x):=rfl
@[simp] theorem Mx:A0 T (KQ b)=KQ (b,T):=rfl
@[simp] theorem My:pY (.bool b)=KQ b:=rfl
noncomputable def AS(c':FT)(ρ:YR)(b:Bool)(T1:Tp):Option (Bool×Tp):=if b=G3 then c' ρ T1 else KQ (Gy,T1)
@[simp] theorem Nk:cX c c' ρ T=YS (c ρ T) (AS c' ρ):=rfl
@[simp] theorem Mf:AS c' ρ b T=if b=G3 then c' ρ T else KQ (Gy,T):=rfl
noncomputable def Bc(c':FT)(ρ:YR)(b:Bool)(T1:Tp):Option (Bool×Tp):=if b=G3 then KQ (G3,T1) else c' ρ T1
@[simp] theorem NK:bO c c' ρ T=YS (c ρ T) (Bc c' ρ):=rfl
@[simp] theorem MK:Bc c' ρ b T=if b=G3 then KQ (G3,T) else c' ρ T:=rfl
@[simp] theorem MN:bA c ρ T=YS (c ρ T) λb T1=>KQ (!b,T1):=rfl
@[simp] theorem L4:bU ρ T=KQ (G3,T):=rfl
noncomputable def Bq(g:FE)(ρ:YR)(w:W)(T:Tp):Option (W×Tp):=match Gm w with
 |some b=>if b=G3 then g ρ T else KQ (.d (.bool Gy),T)
 |none=>HA
@[simp] theorem Nj:cW f g ρ T=YS (f ρ T) (Bq g ρ):=rfl
@[simp] theorem Nl:Bq g ρ (.d (.bool b)) T=if b=G3 then g ρ T else KQ (.d (.bool Gy),T):=rfl
noncomputable def orK(g:FE)(ρ:YR)(w:W)(T:Tp):Option (W×Tp):=match Gm w with
 |some b=>if b=G3 then KQ (.d (.bool G3),T) else g ρ T
 |none=>HA
@[simp] theorem NJ:lh f g ρ T=YS (f ρ T) (orK g ρ):=rfl
@[simp] theorem NL:orK g ρ (.d (.bool b)) T=if b=G3 then KQ (.d (.bool G3),T) else g ρ T:=rfl
noncomputable def Bf(w:W)(T:Tp):Option (W×Tp):=match Gm w with
 |some b=>KQ (.d (.bool (!b)),T)
 |none=>HA
@[simp] theorem MM:kQ f ρ T=YS (f ρ T) Bf:=rfl
@[simp] theorem MO:Bf (.d (.bool b)) T=KQ (.d (.bool (!b)),T):=rfl
noncomputable def Bg(f g:FE)(ρ:YR)(b:Bool)(T1:Tp):Option (W×Tp):=if b=G3 then f ρ T1 else g ρ T1
@[simp] theorem Og:dQ c f g ρ T=YS (c ρ T) (Bg f g ρ):=rfl
@[simp] theorem M1:Bg f g ρ b T=if b=G3 then f ρ T else g ρ T:=rfl
noncomputable def chK(o':OY->OY->Option OY)(h:FE)(ρ:YR)(w2 w:W)(T:Tp):Option (W×Tp):=match Gm w with
 |some b=>if b=G3 then YS (h ρ T) λw3 T4=>Ko o' T4 w2 w3 else KQ (.d (.bool Gy),T)
 |none=>HA
@[simp] theorem Md:gP o o' f g h ρ T=YS (f ρ T) λw1 T1=>YS (g ρ T1) λw2 T2=>YS (Ko o T2 w1 w2) (chK o' h ρ w2):=rfl
@[simp] theorem Om:chK o' h ρ w (.d (.bool b)) T=if b=G3 then YS (h ρ T) λw3 T4=>Ko o' T4 w w3 else KQ (.d (.bool Gy),T):=rfl
@[simp] theorem NP:ag ρ T=KQ ([],T):=rfl
noncomputable def AM(a:FA)(ρ:YR)(w:W)(T1:Tp):Option (List W×Tp):=YS (a ρ T1) λws T2=>KQ (w::ws,T2)
@[simp] theorem Na:ab f a ρ T=YS (f ρ T) (AM a ρ):=rfl
@[simp] theorem Mc:AM a ρ w T=YS (a ρ T) λws T2=>KQ (w::ws,T2):=rfl
@[simp] theorem LM:views T []=KQ []:=rfl
noncomputable def pT(x:OY)(o:Option (List OY)):Option (List OY):=match o with
 |some xs=>KQ (x::xs)
 |none=>HA
@[simp] theorem Mb:pT x (KQ xs)=KQ (x::xs):=rfl
@[simp] theorem LZ:views T (.d x::r)=pT x (views T r):=rfl
@[simp] theorem LL:views T (.loc (.list xs)::r)=pT (.list xs) (views T r):=rfl
@[simp] theorem LY:fH []=KQ []:=rfl
@[simp] theorem Ma:fH (.d x::r)=pT x (fH r):=rfl
noncomputable def sqK(mk:List OY->OY)(T:Tp):Option (List OY)->Option (W×Tp)
 |some xs=>if xs.length<=1000 then KQ (.d (mk xs),T) else HA
 |none=>HA
@[simp] theorem MD:av mk a ρ T=YS (a ρ T) λws T1=>sqK mk T1 (fH ws):=rfl
@[simp] theorem NC:sqK mk T (KQ xs)=if xs.length<=1000 then KQ (.d (mk xs),T) else HA:=rfl
noncomputable def cbK(o:List OY->Option OY)(T:Tp)(v:Option (List OY)):Option (W×Tp):=match v with
 | some xs=>(match o xs with
  |some d=>KQ (.d d,T)
  | none=>HA)
 |none=>HA
@[simp] theorem OF:Zy o a ρ T=YS (a ρ T) λws T1=>cbK o T1 (views T1 ws):=rfl
@[simp] theorem On:cbK o T (KQ xs)=Ew T (o xs):=rfl
@[simp] theorem Nc:ar m a ρ T=YS (a ρ T) λws T1=>YS (m ws T1) λx T2=>KQ (.d x,T2):=rfl
@[simp] theorem Nb:bY it c f ρ T=YS (it ρ T) λds T1=>YS (bH c f ρ ds T1) λys T2=>KQ (.d (.list ys),T2):=rfl
noncomputable def itK(T:Tp)(o:Option (List OY)):Option (List OY×Tp):=match o with
 |some xs=>KQ (xs,T)
 |none=>HA
noncomputable def itW:W->Tp->Option (List OY×Tp):=λw T1=>match w with
 | .d x=>(match jr x with
  |some xs=>KQ (xs,T1)
  | none=>HA)
 |_=>HA
@[simp] theorem MX:bE f ρ T=YS (f ρ T) itW:=rfl
@[simp] theorem Ob:itW (.d x) T=itK T (jr x):=rfl
@[simp] theorem Oc:itK T (KQ xs)=KQ (xs,T):=rfl
@[simp] theorem LW:jr (.list xs)=KQ xs:=rfl
@[simp] theorem LX:jr (.dict ds)=KQ (ds.map (·.1)):=rfl
@[simp] theorem LU:jr (.tuple xs)=KQ xs:=rfl
@[simp] theorem LV:jr (.str z)=if z.length<=Ph then KQ (signs z) else HA:=rfl
noncomputable def A6:W->Tp->Option (List OY×Tp):=λw T1=>match w with
 |.d (.int j)=>if iK j=G3 then KQ (dF 0 j.toNat,T1) else HA
 |_=>HA
@[simp] theorem MI:fE f ρ T=YS (f ρ T) A6:=rfl
@[simp] theorem MH:A6 (.d (.int j)) T=if iK j=G3 then KQ (dF 0 j.toNat,T) else HA:=rfl
@[simp] theorem Oh:cG i it s ρ T=YS (it ρ T) λds T1=>forL i s ds ρ T1:=rfl
@[simp] theorem NB:dw (.int i) (.int j)=KQ (.int (i-j)):=rfl
@[simp] theorem NW:bF (.int i) (.int j)=if 0<j then KQ (.int (i % j)) else HA:=rfl
@[simp] theorem NI:g7 (.int i) (.int j)=if 0<=j/\j<=1000000/\i.natAbs<2^64 then KQ (.int (i^j.toNat)) else HA:=rfl
@[simp] theorem Oz:Fv (.int i) (.int j)=KQ (.bool (decide (i<j))):=rfl
@[simp] theorem OA:Dr (.int i) (.int j)=KQ (.bool (decide (i<=j))):=rfl
@[simp] theorem OD:HD (.int i) (.int j)=KQ (.bool (decide (j<i))):=rfl
@[simp] theorem OE:CH (.int i) (.int j)=KQ (.bool (decide (j<=i))):=rfl
@[simp] theorem Np:aI (.int i) (.int j)=KQ (.int (i+j)):=rfl
@[simp] theorem Nn:aI (.str u) (.str v)=if u.length+v.length<=Ph then KQ (.str (u++v)) else HA:=rfl
@[simp] theorem Nm:aI (.tuple u) (.tuple v)=if u.length+v.length<=Ph then KQ (.tuple (u++v)) else HA:=rfl
@[simp] theorem sF:aI (.list u) (.list v)=if u.length+v.length<=Ph then KQ (.list (u++v)) else HA:=rfl
@[simp] theorem MR:cq (.int i) (.int j)=if (-(2^64)<i/\i<2^64)\/(-(2^64)<j/\j<2^64) then KQ (.int (i*j)) else HA:=rfl
@[simp] theorem MQ:cq (.str z) (.int k)=if 0<=k/\k<=2000/\z.length<=1000 then KQ (.str (YJ z k)) else HA:=rfl
@[simp] theorem Oj:Z5 (.int i) (.int j)=KQ (.bool (decide (i=j))):=rfl
@[simp] theorem Oi:Z5 (.str i) (.str j)=KQ (.bool (decide (i=j))):=rfl
@[simp] theorem Ol:Z5 (.bool i) (.bool j)=KQ (.bool (decide (i=j))):=rfl
@[simp] theorem NT:Kg (.int i) (.int j)=KQ (.bool (!decide (i=j))):=rfl
@[simp] theorem NS:Kg (.str i) (.str j)=KQ (.bool (!decide (i=j))):=rfl
@[simp] theorem NU:Kg (.bool i) (.bool j)=KQ (.bool (!decide (i=j))):=rfl
@[simp] theorem OB:EK x .none=KQ (.bool (isNone x)) :=rfl
@[simp] theorem L8:f7 (.bool i) (.bool j)=KQ (.bool (i != j)):=rfl
@[simp] theorem NQ:jH (.int i)=KQ (.int (-i)):=rfl
@[simp] theorem Od:bu k x=KQ (.bool (bQ (kd x) k)):=rfl
@[simp] theorem Oa:Y8 (.list xs) (.int i)=Zd xs i:=rfl
@[simp] theorem N8:Y8 (.tuple xs) (.int i)=Zd xs i:=rfl
@[simp] theorem Jc:Y8 (.str z) (.int i)=if z.length<=Ph then (Zd z.cps.toList i).map (λc=>.str ⟨#[c]⟩) else HA:=rfl
@[simp] theorem MW:aW [.list xs]=KQ (.int xs.length):=rfl
@[simp] theorem MU:aW [.tuple xs]=KQ (.int xs.length):=rfl
@[simp] theorem MV:aW [.str z]=if z.length<=Ph then KQ (.int z.length) else HA:=rfl
@[simp] theorem Ou:qh [.int i]=KQ (.int (if i<0 then -i else i)):=rfl
@[simp] theorem NY:mU [.int i,.int j]=KQ (.int (if j>i then j else i)):=rfl
@[simp] theorem LP:dS [.list xs]=KQ (.tuple xs):=rfl
@[simp] theorem LO:dS [.tuple xs]=KQ (.tuple xs):=rfl
@[simp] theorem L7:kM [.list xs]=KQ (.list xs):=rfl
@[simp] theorem L6:kM [.tuple xs]=KQ (.list xs):=rfl
@[simp] theorem N4:kd (.int i)=.int:=rfl
@[simp] theorem N6:kd (.bool i)=.bl:=rfl
@[simp] theorem N0:kd (.str i)=.str:=rfl
@[simp] theorem NZ:kd (.tuple i)=.tup:=rfl
@[simp] theorem N2:kd (.list i)=.lst:=rfl
@[simp] theorem N5:kd (.dict i)=.dct:=rfl
@[simp] theorem N1:kd .none=.non:=rfl
end
theorem Dk{α:Type}{a b c:α}:Zd [a,b,c] 0=KQ a:=rfl
theorem Ki{α:Type}{a b c:α}:Zd [a,b,c] 1=KQ b:=rfl
theorem gH:∀{ds:List OY},(∀d∈ds,e (KQ (.d d)::ρ) T=KQ (.d (g d),T))->bH bU e ρ ds T=KQ (ds.map g,T)
 |[],_=>rfl
 |d::r,h=>by
  have ih:=gH  λx hx=>h x (Pc _ hx);have h0:=h d Pf
  unfold bH<;>simp_all
theorem qo:∀{ds:List OY},(∀d∈ds,c (KQ (.d d)::ρ) T=KQ (p d,T))->bH c (aa 0) ρ ds T=KQ (ds.filter p,T)
 |[],_=>rfl
 |d::r,h=>by
  have ih:=qo  λx hx=>h x (Pc _ hx);have h0:=h d Pf;unfold bH
  cases hp:p d <;>simp_all
theorem zuq{α:Type}(p:α->Bool):∀l:List α,kG (l.map λd=>.bool (p d))=KQ (l.map p)
 |[]=>rfl
 |d::r=>by
  show (kG _).map _=_;rw[zuq p r];rfl
theorem zur{α:Type}(p:α->Int):∀l:List α,kN (l.map λd=>.int (p d))=KQ (l.map p)
 |[]=>rfl
 |d::r=>by
  show (kN _).map _=_;rw[zur p r];rfl
theorem nL{α:Type}(p:α->Str):∀l:List α,eB (l.map λd=>.str (p d))=KQ (l.map p)
 |[]=>rfl
 |d::r=>by
  show (eB _).map _=_;rw[nL p r];rfl
@[simp] theorem Ot{α:Type}(p:α->Bool)(l:List α):hW [.list (l.map λd=>.bool (p d))]=KQ (.bool (l.all p)):=by
 show (kG _).map _=_;rw[zuq,Xg,Yo];rfl
@[simp] theorem NA{α:Type}(p:α->Int)(l:List α):p8 [.list (l.map λd=>.int (p d))]=KQ (.int (l.map p).sum):=by
 show (kN _).map _=_;rw[zur,Xg]
def sW(y:Str):OY->Bool
 |.str z=>jJ y z
 |_=>Gy
noncomputable def zus(y:Str)(c:Nat):jJ y ⟨#[c]⟩=decide (c∈y.cps.toList):=StrLaws.found_one ..
@[simp] theorem Oe:inD (.str x) (.str y)=KQ (.bool (jJ y x)):=rfl
noncomputable def zut(h:d∈D.signs x):∃c,c∈x.cps.toList/\d=.str ⟨#[c]⟩:=by
 obtain⟨c,hc,rfl⟩:=PD.mp h;exact⟨c,hc,rfl⟩
section
variable {X:Cx}
noncomputable def zfv:BA X "str.startswith" (λx vs H Q=>∃z y:Str,x=.str z/\vs=[.str y]/\Q (.bl (Ro z y)) H):=by
 intro pins s σ H x vs v us Q I rx rv h;obtain⟨z,y,rfl,rfl,q⟩:=h;obtain⟨t,rfl⟩:=rx;obtain⟨u,rfl,ru⟩:=vals1 rv;obtain⟨t',rfl⟩:=ru;exact call_gives TX (Tg _ _ _) PySem.F.entry_str_startswith (PySem.F.args_str_startswith_2 _ _) (gives_str_startswith z y t t') ⟨.bl _,H,I,rfl,q⟩
noncomputable def iC:OY->OY->Option OY
 |.str z,.str y=>KQ (.bool (Ro z y))
 |_,_=>HA
noncomputable def zuu(h:view T w=KQ (.str z)):w=.d (.str z):=by
 cases w with
 |d x=>simp_all
 |tp k=>
  cases hk:T[k]? <;>simp_all
 |loc zs=>cases zs <;> cases h
noncomputable def qY(ho:DE X o fo)(he:DE X e fe)
  (Zk:autoParam (QI o "startswith" X.env (eval o X.env)=eval o X.env) u10)
  (ZI:autoParam (((Qj YO (Pi [e] X.env)).all (λx=>!x.1)&&(RO YO (QQ [] X.env)).all (λx=>x.1.isSome)
   && decide (([e]:List Expr).length+([]:List Rn).length+(if ([]:List Rn).isEmpty then 0 else 1)<30))=G3) u19)
  (Zj:autoParam ((apos.endLine == YO.line)=G3) u10) (Z0:autoParam (Pi [e] X.env=(Gy,eval e X.env)::Pi [] X.env) u13) (Y6:autoParam ((Qj YO (Pi [] X.env)).any (·.1)=Gy) u14) :
  DE X (.Call (.Attribute o "startswith" apos) [e] [] YO) (ae iC fo fe):=by
 refine⟨?_⟩;refine bi (gn Sf TX PySem.F.type_str_startswith zfv ho.pe (aV he.pe br Z0) Zk ZI Zj Z0 Y6) λσ H Q=>?_;rintro⟨O,ts,ρ,T,w,T',hc,re,e,q⟩;obtain⟨w1,T1,e1,e⟩:=aG e;obtain⟨w2,T2,e2,e⟩:=aG e;obtain⟨x,y,d,h1,h2,h3,rfl,rfl⟩:=gO e;unfold iC at h3;split at h3
 .rename_i z y
  cases h3;have ew:=zuu h1;subst ew;refine⟨O,ts,ρ,T,_,T1,hc,re,e1,λv1 H1 s1 YN r1=>?_⟩;cases (r1);refine⟨rfl,O,ts,ρ,T1,w2,T',YN,re.mono hc s1,e2,λv2 H2 s2 YY r2=>?_⟩;cases (YY.view r2 h2).str;exact⟨z,_,rfl,rfl,q _ H2 (s1.trans s2) YY (.bl _)⟩
 .cases h3
noncomputable def zfw:Zf X (.type "int") (λxs H Q=>∃x n,xs=[.str x]/\VN x=KQ n/\x.length<=640/\Q (.int n) H):=by
 intro pins s σ H xs us Q I r h;obtain⟨x,n,rfl,hn,hl,q⟩:=h;obtain⟨u,rfl,ru⟩:=vals1 r;obtain⟨t,rfl⟩:=ru;exact PySem.W.KIN.call_text hn hl ⟨.int n,H,I.tok _,⟨_,rfl⟩,q⟩
noncomputable def intD:List OY->Option OY
 |[.int i]=>KQ (.int i)
 |[.bool b]=>KQ (.int (if b then 1 else 0))
 |[.str x]=>if x.length<=640 then (VN x).map .int else HA
 |_=>HA
noncomputable def ue:fI X (.type "int") intD:=⟨_,zvr.or zfw,λO ts H T vs xs d Q hc h e q=>by
 unfold intD at e;split at e
 .cases e
  obtain⟨v,rfl,g⟩:=dZ h;cases g.int;exact .inl (.inl ⟨_,rfl,q _ H (.refl _ _) hc (.int _)⟩)
 .cases e
  obtain⟨v,rfl,g⟩:=dZ h;cases g.bl;exact .inl (.inr ⟨_,rfl,q _ H (.refl _ _) hc (.int _)⟩)
 .split at e
  .rename_i hz
   obtain⟨n,e1,rfl⟩:=PV.mp e;obtain⟨v,rfl,g⟩:=dZ h;cases g.str;exact .inr ⟨_,n,rfl,e1,hz,q _ H (.refl _ _) hc (.int _)⟩
  .cases e
 .cases e⟩
end
@[simp] theorem LQ:iC (.str z) (.str y)=KQ (.bool (Ro z y)):=rfl
@[simp] theorem MY:intD [.str x]=if x.length<=640 then (VN x).map .int else HA:=rfl
@[simp] theorem MZ:intD [.int i]=KQ (.int i):=rfl
@[simp] theorem M0:intD [.bool b]=KQ (.int (if b then 1 else 0)):=rfl
noncomputable def Fe(x y:OY):Option PyData:=if PN x=G3/\PN y=G3 then KQ (.bool (PH x y)) else HA
section
variable {X:Cx}
theorem Vw.reads(I:Inv X pins σ H s)(h:Vw X.K O H v d)(r:RelV v u):∃as,VM s.heap u d as:=by
 cases h with
 |rep h=>obtain⟨as,rd,_⟩:=h.reads I r;exact⟨as,rd⟩
 |raw h hs=>
  cases r;obtain⟨YL,rv,pl,_⟩:=I.list (Zc.of h);obtain⟨o,n,e,c,_,dd⟩:=pl;obtain⟨as,rd,_⟩:=hs.reads I rv;exact⟨_,.list e c dd (by omega)⟩
 |rawD h rk=>
  cases r;obtain⟨z,y,vs,kv,o,es,ep,e,ed,dd,_,ek,_⟩:=(I.hok _ _ h);obtain⟨bs,q1,q2,f⟩:=Zh.reads I rk kv ek;exact⟨_,.dict   e ed.1 dd q1 q2⟩
noncomputable def zuv(hr:YW k X.A):Zx X (PX .Eq) (λx y H Q=>∃O d1 d2,Vw X.K O H x d1/\Vw X.K O H y d2/\PN d1=G3/\PN d2=G3/\Q (.bl (PH d1 d2)) H):=by
 intro pins s σ H x y v u Q I rx ry h;obtain⟨O,d1,d2,h1,h2,s1,s2,q⟩:=h;obtain⟨as,r1⟩:=h1.reads I rx;obtain⟨bs,r2⟩:=h2.reads I ry;exact SeqAt.compareEq_shaped r1 r2 s1 s2 (by have:=hr.un;lia) ⟨.bl _,H,I,rfl,q⟩
noncomputable def mB(hr:YW k X.A):Zx X (PX .NotEq) (λx y H Q=>∃O d1 d2,Vw X.K O H x d1/\Vw X.K O H y d2/\PN d1=G3/\PN d2=G3/\Q (.bl (!PyData.eqv d1 d2)) H):=by
 intro pins s σ H x y v u Q I rx ry h;obtain⟨O,d1,d2,h1,h2,s1,s2,q⟩:=h;obtain⟨as,r1⟩:=h1.reads I rx;obtain⟨bs,r2⟩:=h2.reads I ry;exact SeqAt.compareNe_shaped r1 r2 s1 s2 (by have:=hr.un;omega) ⟨.bl _,H,I,rfl,q⟩
noncomputable def pI(hr:YW k X.A):Z6 X (PX .Eq) Fe:=⟨_,zuv hr,λO ts H T v1 v2 x y d Q hc h1 h2 e q=>by
 unfold Fe at e;split at e
 .rename_i h
  cases e;exact⟨O,x,y,h1,h2,h.1,h.2,q _ H (.refl _ _) hc (.bl _)⟩
 .cases e⟩
open Classical in
noncomputable def jL(h:Heap)(x:OY)(v:O9):Bool:=if e:∃p:OY×List Addr,VM h v p.1 p.2 then PH e.choose.1 x else Gy
noncomputable def sG(r:VM h v d as):jL h x v=PH d x:=by
 have e:∃p:OY×List Addr,VM h v p.1 p.2:=⟨(d,as),r⟩;unfold jL;rw[dif_pos e];have:=(PySem.Reads.unique e.choose_spec d as r).1;rw[this]
theorem rO:∀{vs:List O9}{ds:List OY}{as:List Addr},Tt h vs ds as->vs.any (jL h x)=ds.any λd=>PH d x
 |_,_,_,.nil=>rfl
 |_,_,_,.cons r rs=>by rw[RA,RA,sG r,rO rs]
theorem readsAll_mem:∀{vs:List O9}{ds:List OY}{as:List Addr}{v:O9},Tt h vs ds as->v∈vs->∃d bs,d∈ds/\VM h v d bs
 |_,_,_,_,.cons r rs,hm=>by
  rcases Pr.mp hm with z|z
  .subst z;exact⟨_,_,Pf,r⟩
  .obtain⟨d,bs,h1,h2⟩:=readsAll_mem rs z
   exact⟨d,bs,Pc _ h1,h2⟩
noncomputable def FJ:OY->OY->Option OY
 |x,.tuple ys=>if PN x=G3/\ys.all PN=G3 then KQ (.bool (ys.any λy=>PH y x)) else HA
 |_,_=>HA
noncomputable def zfx(hr:YW k X.A):Zx X (PX .In) (λx y H Q=>∃O d1 a vs ds,Vw X.K O H x d1/\y=.ref a/\ZJ X.K H a vs/\YK X.K O H vs ds/\PN d1=G3/\ds.all PN=G3/\Q (.bl (ds.any λy=>PH y d1)) H):=by
 intro pins s σ H x y v u Q I rx ry h;obtain⟨O,d1,a,vs,ds,h1,rfl,h2,h3,s1,s2,q⟩:=h;cases ry;obtain⟨as,r1⟩:=h1.reads I rx;obtain⟨YL,rv,p1,_⟩:=I.tuple h2;obtain⟨bs,r2,_⟩:=h3.reads I rv;refine WW (jL s.heap d1) p1 (λy hy=>?_) ?_
 .obtain⟨d,cs,hd,rd⟩:=readsAll_mem r2 (by simpa using hy)
  rw[sG rd];have sd:=Po.mp s2 d hd;refine UP d d1 _ s y v _ _ rd r1 (Sg sd) (Sg s1) (VO sd ?_)
  have:=hr.un<;>grind
 .have e:YL.toArray.any (jL s.heap d1)=ds.any λy=>PH y d1:=by
   rw[←rO r2];simp
  rw[e];exact⟨.bl _,H,I,rfl,q⟩
noncomputable def zuw(hr:YW k X.A):Z6 X (PX .In) FJ:=⟨_,zfx hr,λO ts H T v1 v2 x y d Q hc h1 h2 e q=>by
 unfold FJ at e;split at e
 .split at e
  .rename_i h
   cases e;obtain⟨a,vs,rfl,t,r⟩:=h2.tup;exact⟨O,x,a,vs,_,h1,rfl,t.sq,r,h.1,h.2,q _ H (.refl _ _) hc (.bl _)⟩
  .cases e
 .cases e⟩
end
noncomputable def zfy(l:Addr)(items:Array O9)(n:Nat)(b:Addr)(Ij:Array O9)(n2:Nat)(dd:Option Addr)(sl:Array (Option O9))(wW:¬(!items.isEmpty&&QE (items.size+Ij.size))=G3)(YN:items.size<=Ph)(Em:items.size+Ij.size<=Ph+1) :
  Yz (WD.«list.extend» ⟨[.ref l,.ref b],[]⟩) (λ_ R s=>s.heap.get? l=KQ { cls:=.type "list",dict:=HA,data:=.seq items n,slots:=#[] }/\s.heap.get? b=KQ { cls:=.type "list",dict:=dd,data:=.seq Ij n2,slots:=sl }/\R (.ok (.ret QW)) { s with heap:=s.heap.update l (Obj.mapSeq λx=>x++Ij),toks:=s.toks }):=
 .of_wp λprog w A R s h=>by
  obtain⟨hp,g,d,tk,os⟩:=s;obtain⟨hl,hb,h⟩:=h;have f1:=W0;have f2:=UC;have f3:=Vd;have f4:=UQ;have f5:=UR
  have Ec:(items++Ij).size<=Ph+1:=by rw[Array.size_append];exact Em
  wp_walk using(wpAny_updateSeq hl rfl (hz:=YN) (_hz':=Ec)),Tz hl,Tz hb;exact⟨_,rfl,h⟩
section
variable {X:Cx}
noncomputable def zfz:Lo X "list.extend" (λx vs H Q=>∃l b xs zs,x=.ref l/\vs=[.ref b]/\H l=KQ (.lst xs)/\Zc X.K H b zs/\xs.length+zs.length<=Ph/\Q .non (upd H l (.lst (xs++zs)))):=by
 intro pins s σ H x vs v us Q I rx rv h;obtain⟨l,b,xs,zs,rfl,rfl,hH,hB,hz,q⟩:=h;cases rx;obtain⟨u,rfl,ru⟩:=rv.one;cases ru;obtain⟨z,YL,n,r,hl,e⟩:=I.lstM hH;obtain⟨Km,r2,pl,_⟩:=I.list hB;obtain⟨⟨GV,KJ,data2,EM⟩,n2,e2,c2,_,d2⟩:=pl;simp only at c2 d2;subst c2 d2;have EU:=r2.length
 have hsz:YL.toArray.size+Km.toArray.size<=sizeLine:=by simp_all
 have BZ:¬(!YL.toArray.isEmpty&&QE (YL.toArray.size+Km.toArray.size))=G3:=by
  rw[zdi hsz,Bool.and_false];exact Pz
 refine RH F.slot_list_extend ⟨_,e,rfl⟩ F.entry_list_extend (F.args_list_extend_2 _ _)
  (zfy l YL.toArray n b Km.toArray n2 KJ EM BZ (by simp_all) (by lia)) ⟨e,e2,?_⟩
 refine⟨.non,_,I.lset (its':=YL++Km) hH e (by simp) (r.append r2) ?_,rfl,q⟩;rw[Qb]
 lia
variable {pos:Pos}{e:Expr}{fe:FE}
noncomputable def iW(i:Nat)(f:FE):FS:=λρ T=>YS (f ρ T) λw T1=>match w,ρ[i]? with
 |.d (.list ys),KQ (KQ (.loc (.list xs)))=>if xs.length+ys.length<=Ph then KQ ((.nx,ρ.set i (KQ (.loc (.list (xs++ys))))),T1) else HA
 |_,_=>HA
noncomputable def zux(he:DE X e fe)(hN:autoParam (X.N[i]? = KQ x) u10)(hv:autoParam (BS X.env.scope x) u20)(hd:autoParam ((x == ("__debug__" : Str))=Gy) u11)
  (hcd:autoParam ((x == ("__classdict__" : Str))=Gy) u11) 
  (Zk:autoParam (QI (.Name x p) "extend" X.env (eval (.Name x p) X.env)=eval (.Name x p) X.env) u10)
  (ZI:autoParam (((Qj YO (Pi [e] X.env)).all (λx=>!x.1)&&(RO YO (QQ [] X.env)).all (λx=>x.1.isSome)
   && decide (([e]:List Expr).length+([]:List Rn).length+(if ([]:List Rn).isEmpty then 0 else 1)<30))=G3) u19)
  (Zj:autoParam ((apos.endLine == YO.line)=G3) u10) (Z0:autoParam (Pi [e] X.env=(Gy,eval e X.env)::Pi [] X.env) u13) (Y6:autoParam ((Qj YO (Pi [] X.env)).any (·.1)=Gy) u14)
  (hs:autoParam (QF (.Call (.Attribute (.Name x p) "extend" apos) [e] [] YO) HA pos.line X.env=pure Gy) u10) :
  DS X (.Expr (.Call (.Attribute (.Name x p) "extend" apos) [e] [] YO) pos) (iW i fe):=by
 refine⟨?_⟩;refine dO (fW (gn QZ PySem.F.slot_list_extend PySem.F.type_list_extend zfz (pv i hN hv hd hcd) (aV he.pe br Z0) Zk ZI Zj Z0 Y6) hs) λD σ H=>?_;rintro⟨Ey,H₀,F,ts,O,ρ,T,fl,ρ',T',rs,e,q⟩;obtain⟨w,T1,e1,e⟩:=aG e;split at e
 .rename_i ys xs h1
  split at e
  .rename_i h2
   cases e;obtain⟨v,k1,a,rfl,k2,k3,vs,k4,k5⟩:=rs.re i _ h1;refine⟨_,k1,.inl ⟨rfl,vs,Zc.of k4⟩,O,ts,ρ,T,_,_,rs.hc,rs.re,e1,λu H1 s1 YN r1=>?_⟩;have Z2:=rs.step s1 YN;have GX:Rep X.K O H1 u (.list ys):=r1
   cases GX with
   |lst t r=>
    rename_i b us;exact⟨a,b,vs,us,rfl,rfl,s1 _ _ k3 k4,t.sq,by rw[k5.length,r.length];exact h2,q O _ _ (Z2.put (us:=[]) h1 k1 ((k5.mono (rs.hc.le s1)).append r))⟩
  .cases e
 .cases e
end
noncomputable def d6(B:List (Str×Int)):List (Str×VP):=B.map λp=>(p.1,.flat (.int p.2))
def qi(K:Frag)(mg:Str->Option O9)(x:Str)(B:List (Str×Int)):Prop:=∃a,mg x=KQ (.ref a)/\P0 (PZ λb=>K.lookup b) (λb=>K.lookup b) a (d6 B)=G3
noncomputable def Jq(B:List (Str×Int)):OY->Option OY
 |.str s=>KQ (.bool (B.any λp=>decide (s=p.1)))
 |_=>HA
noncomputable def atT(B:List (Str×Int)):OY->Option OY
 |.str s=>(B.find? λp=>decide (s=p.1)).map λp=>.int p.2
 |_=>HA
theorem zuy(s:Str):∀B:List (Str×Int),SZ s (d6 B)=B.any λp=>decide (s=p.1)
 |[]=>rfl
 |(x,d)::B=>by
  show (decide (s=x)||PyProof.Rows.KTD.inKeys s (d6 B))=_;rw[zuy s B];rfl
theorem zuz(s:Str):∀B:List (Str×Int),RZ s (d6 B)=(B.find? λp=>decide (s=p.1)).map λp=>.flat (.int p.2)
 |[]=>rfl
 |(x,d)::B=>by
  show (if decide (s=x)=G3 then KQ _ else RZ s (d6 B))=_;rw[zuz s B,QK]
  cases decide (s=x) <;> rfl
section
variable {X:Cx}{pos:Pos}{e:Expr}{f:FE}{x:Str}{p:Pos}{B:List (Str×Int)}
theorem zva:∀{B:List (Str×Int)}{d:Str×Int},(B.find? λp=>decide (s=p.1))=KQ d->(∀t,P (.int d.2 t))->Ve h s P (d6 B)
 |[],d,e,_=>by simp_all
 |(x,i)::B,d,e,hp=>by
  rw[QK] at e
  by_cases hx:s=x
  .have:decide (s=x)=G3:=decide_eq_true hx
   simp only[this] at e;cases e;exact Uk hx (Xj hp)
  .have:decide (s=x)=Gy:=decide_eq_false hx
   simp only[this] at e;exact TY hx (zva e hp)
noncomputable def zga(hl:P0 (PZ λb=>X.K.lookup b) (λb=>X.K.lookup b) a (d6 B)=G3):Zx X (PX .In) (λx y H Q=>∃s,x=.str s/\y=.ref a/\Q (.bl (B.any λp=>decide (s=p.1))) H):=by
 intro pins s σ H x y v u Q I rx ry h;obtain⟨z,rfl,rfl,q⟩:=h;obtain⟨t,rfl⟩:=rx;cases ry;refine X2 (h₀:=s.heap) ⟨Ul I.kIn hl,λ_ _ e=>e⟩ ?_;rw[zuy];exact⟨.bl _,H,I.tok _,rfl,q⟩
noncomputable def zvb(ht:qi X.K X.mg x B)(hg:Gl X x)(he:DE X e f)(hd:autoParam ((x == ("__debug__" : Str))=Gy) u11)(hm:autoParam (QS .In (.Name x p)=Gy) u24):DE X (.Compare e [.In] [.Name x p] pos) (Zq (Jq B) f):=by
 obtain⟨a,hx,hl⟩:=ht;refine⟨?_⟩;refine bi (so (zga hl) he.pe (j8 (v:=.ref a) hg hx rfl hd) hm) λσ H Q=>?_;rintro⟨O,ts,ρ,T,w,T',hc,re,e,q⟩;obtain⟨w1,T1,e1,e⟩:=aG e;obtain⟨x,d,h1,h3,rfl,rfl⟩:=kA e;refine⟨O,ts,ρ,T,w1,T',hc,re,e1,λv1 H1 s1 YN r1=>?_⟩;have vw:=YN.view r1 h1;unfold Jq at h3;split at h3
 .cases h3
  cases vw.str;exact⟨_,rfl,rfl,q _ H1 s1 YN (.bl _)⟩
 .cases h3
noncomputable def zgb(hl:P0 (PZ λb=>X.K.lookup b) (λb=>X.K.lookup b) a (d6 B)=G3):HQ X (λx y H Q=>∃s p,x=.ref a/\y=.str s/\(B.find? λp=>decide (s=p.1))=KQ p/\Q (.int p.2) H):=by
 intro value slice pins s σ H x y v u Q I rx ry h hs;obtain⟨z,d,rfl,rfl,hf,q⟩:=h;obtain⟨t,rfl⟩:=ry;cases rx
 have hk:SZ z (d6 B)=G3:=by
  rw[←Tb,zuz,hf];rfl
 have hp:((d6 B).all λp=>Vf p.2)=G3:=by
  rw[Po];intro p hp;obtain⟨q,_,rfl⟩:=PD.mp hp;rfl
 exact TZ (h₀:=s.heap) ⟨Ul I.kIn hl,λ_ _ e=>e⟩ hp hk (zva hf λt=>⟨.int d.2,H,I.tok _,⟨t,rfl⟩,q⟩) hs
noncomputable def zvc(ht:qi X.K X.mg x B)(hg:Gl X x)(he:DE X e f)(hd:autoParam ((x == ("__debug__" : Str))=Gy) u11)(hs:autoParam (oM e) u25):DE X (.Subscript (.Name x p) e pos) (Zq (atT B) f):=by
 obtain⟨a,hx,hl⟩:=ht;refine⟨?_⟩;refine bi (dE (zgb hl) (j8 (v:=.ref a) hg hx rfl hd) he.pe hs) λσ H Q=>?_;rintro⟨O,ts,ρ,T,w,T',hc,re,e,q⟩;obtain⟨w1,T1,e1,e⟩:=aG e;obtain⟨x,d,h1,h3,rfl,rfl⟩:=kA e;refine⟨O,ts,ρ,T,w1,T',hc,re,e1,λv1 H1 s1 YN r1=>?_⟩;have vw:=YN.view r1 h1;unfold atT at h3;split at h3
 .obtain⟨p,hp,rfl⟩:=PV.mp h3
  cases vw.str;exact⟨_,p,rfl,rfl,hp,q _ H1 s1 YN (.int _)⟩
 .cases h3
noncomputable def oq:List O9->List Str->Bool
 |[],[]=>G3
 |.str x _::r,y::s=>decide (x=y)&&oq r s
 |_,_=>Gy
noncomputable def lW(look:Addr->Option Obj)(a:Addr)(ss:List Str):Bool:=match look a with
 |some ⟨.type n,_,.seq YL _,_⟩=>decide (n="tuple")&&oq YL.toList ss
 |_=>Gy
def uu(K:Frag)(mg:Str->Option O9)(x:Str)(ss:List Str):Prop:=∃a,mg x=KQ (.ref a)/\lW (λb=>K.lookup b) a ss=G3
theorem zvd:∀{vs:List O9}{ss:List Str},oq vs ss=G3->YQ (ss.map V.str) vs
 |[],[],_=>.nil
 |.str x t::r,y::s,h=>by
  have h':(decide _&&oq r s)=G3:=h;rw[Pg] at h';exact .cons ⟨t,by simp_all⟩ (zvd h'.2)
theorem qM{K:Frag}{O:Addr->Prop}{H:Hp}:∀ss:List Str,YK K O H (ss.map V.str) (ss.map QP)
 |[]=>.nil
 |x::r=>.cons (.str x) (qM r)
noncomputable def rV(hg:Gl X x)(ht:uu X.K X.mg x ss)(hz:autoParam (ss.length<=sizeLine) u11)(hd:autoParam ((x == ("__debug__" : Str))=Gy) u11):DE X (.Name x p) (fC (.tuple (ss.map QP))):=by
 obtain⟨a,hx,hl⟩:=ht;refine⟨?_⟩;refine bi (j8 (v:=.ref a) hg hx rfl hd) (jp λO H=>?_);unfold lW at hl;split at hl
 .rename_i n dd YL c sl hk
  rw[Pg] at hl;have rv:=zvd hl.2;have hn:=of_decide_eq_true hl.1;subst hn;refine .tup  (.inr (.inr ⟨_,YL,c,hk,rfl,rfl,?_,rv⟩)) (qM ss)
  have:=rv.length<;>simp_all
 .cases hl
noncomputable def iU:OY->OY->Option OY
 |x,.list ys=>if PN x=G3/\ys.all PN=G3 then KQ (.bool (!ys.any λy=>PH y x)) else HA
 |_,_=>HA
noncomputable def zgc(hr:YW k X.A):Zx X (PX .NotIn) (λx y H Q=>∃O d1 a vs ds,Vw X.K O H x d1/\y=.ref a/\Zc X.K H a vs/\YK X.K O H vs ds/\PN d1=G3/\ds.all PN=G3/\Q (.bl (!ds.any λy=>PH y d1)) H):=by
 intro pins s σ H x y v u Q I rx ry h;obtain⟨O,d1,a,vs,ds,h1,rfl,h2,h3,s1,s2,q⟩:=h;cases ry;obtain⟨as,r1⟩:=h1.reads I rx;obtain⟨YL,rv,p1,_⟩:=I.list h2;obtain⟨bs,r2,_⟩:=h3.reads I rv;refine Wj (jL s.heap d1) p1.isList (λy hy=>?_) ?_
 .obtain⟨d,cs,hd,rd⟩:=readsAll_mem r2 (by simpa using hy)
  rw[sG rd];have sd:=Po.mp s2 d hd;refine UP d d1 _ s y v _ _ rd r1 (Sg sd) (Sg s1) (VO sd ?_)
  have:=hr.un<;>grind
 .have e:YL.toArray.any (jL s.heap d1)=ds.any λy=>PH y d1:=by
   rw[←rO r2];simp
  rw[e];exact⟨.bl _,H,I,rfl,q⟩
noncomputable def rE(hr:YW k X.A):Z6 X (PX .NotIn) iU:=⟨_,zgc hr,λO ts H T v1 v2 x y d Q hc h1 h2 e q=>by
 unfold iU at e;split at e
 .split at e
  .rename_i h
   cases e;obtain⟨a,vs,rfl,t,r⟩:=h2.lst;exact⟨O,x,a,vs,_,h1,rfl,t,r,h.1,h.2,q _ H (.refl _ _) hc (.bl _)⟩
  .cases e
 .cases e⟩
noncomputable def p7(a:Addr)(o:Obj)(B:List (Str×Int)):Bool:=P0 (PZ λ_=>HA) (λ_=>KQ o) a (d6 B)
theorem zve{g g':Addr->Option Obj}:∀(es:List UM) (B:List (Str×Int)),QN (PZ g) es (d6 B)=QN (PZ g') es (d6 B)
 |[],[]=>rfl
 |[],(_,_)::_=>rfl
 |_::_,[]=>rfl
 |e::es,(x,i)::B=>by
  have ih:=zve (g:=g) (g':=g') es B;unfold d6 at ih ⊢;rw[P2];unfold QN;rw[ih];rfl
noncomputable def zvf{K:Frag}(h:K.lookup a=KQ o)(g:p7 a o B=G3):P0 (PZ λb=>K.lookup b) (λb=>K.lookup b) a (d6 B)=G3:=by
 unfold p7 P0 at g;unfold P0;dsimp only at g ⊢;rw[h];rw[←g];dsimp only
 cases o.data <;> first|rfl|(dsimp only;rw[zve (g':=λ_=>HA)])
noncomputable def ug(o:Obj)(ss:List Str):Bool:=lW (λ_=>KQ o) 0 ss
noncomputable def zvg{K:Frag}(h:K.lookup a=KQ o)(g:ug o ss=G3):lW (λb=>K.lookup b) a ss=G3:=by
 unfold lW;dsimp only;rw[h];exact g
end
mutual
def bj:OY->Bool
 |.tuple ds=>bS ds
 |.list _=>Gy
 |.dict _=>Gy
 |_=>G3
def bS:List OY->Bool
 |[]=>G3
 |d::r=>bj d&&bS r
end
section
variable {K:Frag}{O:Addr->Prop}{H:Hp}
def TupAt.own(hm:∀b,O b->Ez (H b))(t:TupAt K (λ_=>False) H a vs):TupAt K O H a vs:=by
 rcases t with⟨_,t⟩|t
 .refine .inl ⟨λz=>?_,t⟩
  rcases hm a z with⟨us,e⟩|⟨us,e⟩|⟨C,dx,us,e⟩ <;> rcases t with t|⟨o,t⟩ <;> (simp_all)
 .exact .inr t
mutual
theorem Rep.own(hm:∀b,O b->Ez (H b)):∀{v:V}{d:OY},Rep K (λ_=>False) H v d->bj d=G3->Rep K O H v d
 |_,_,.non,_=>.non
 |_,_,.bl b,_=>.bl b
 |_,_,.int i,_=>.int i
 |_,_,.str x,_=>.str x
 |_,_,.tup t r,h=>.tup (t.own hm) (YK.own hm r (by simpa[bj] using h))
 |_,_,.lst t r,h=>by simp[bj] at h
 |_,_,.dct n t r,h=>by simp[bj] at h
theorem YK.own(hm:∀b,O b->Ez (H b)):∀{vs:List V}{ds:List OY},YK K (λ_=>False) H vs ds->bS ds=G3->YK K O H vs ds
 |_,_,.nil,_=>.nil
 |_,_,.cons (d:=d) (ds:=ds) r t,h=>by
  have h':(bj d&&bS ds)=G3:=by simpa[bS] using h
  rw[Pg] at h';exact .cons (Rep.own hm r h'.1) (YK.own hm t h'.2)
end
end
noncomputable def m8:List W->Bool
 |[]=>G3
 |.tp _::_=>Gy
 |.loc (.dict _)::_=>Gy
 |_::r=>m8 r
theorem um{K:Frag}{O:Addr->Prop}{ts:List Addr}{H:Hp}:∀{vs:List V}{ws:List W},gZ K O ts H vs ws->m8 ws=G3->gZ K (λ_=>False) [] H vs (ws.map lg)
 |_,[],.nil,_=>.nil
 |_,.d x::r,.cons h t,e=>.cons (Rep.mono (λa o n e=>⟨λz=>z,e⟩) h) (um t e)
 |_,.tp _::_,.cons _ _,e=>by cases e
 |_,.loc x::r,.cons h t,e=>by
  have le:Le O H _ H:=λa o n e=>⟨λz=>z,e⟩;obtain⟨a,rfl,_,_,h3⟩:=h
  cases x with
  |list xs=>obtain⟨vs,h1,h2⟩:=h3;exact .cons (.lst (.inl ⟨λz=>z,.inl h1⟩) (h2.mono le)) (um t e)
  |dict xs=>cases e
  |_=>cases h3
noncomputable def dC(m:YX)(g:FA):FE:=λρ T=>YS (g ρ T) λws T1=>if m8 ws=G3 then (match m (ws.map lg) [] with
 |some (x,_)=>if bj x=G3 then KQ (.d x,T1) else HA
 | none=>HA) else HA
noncomputable def jj(F:Fn X.prog X.w X.K X.mg X.base name ps k (Y1 X.K ps.length m))(hr:YW k X.A)(hg:Gl X name)(ha:DA X (e::es) g)(hl:fO g ps.length)(ZG:autoParam ((name == ("__debug__" : Str))=Gy) u11)
  (he:autoParam (Pi (e::es) X.env=(Gy,eval e X.env)::Pi es X.env) u13) (Zv:autoParam ((Qj pos (Pi es X.env)).any (·.1)=Gy) u14):DE X (.Call (.Name name p) (e::es) [] pos) (dC m g):=by
 refine⟨?_⟩;refine bi (gm F hr hg ha.pe ZG he Zv) λσ H Q=>?_;rintro⟨O,ts,ρ,T,w,T',hc,re,e,q⟩;obtain⟨ws,T1,e1,e⟩:=aG e;split at e
 .rename_i hn
  split at e
  .rename_i x T2 e2
   split at e
   .rename_i hx
    cases e;refine⟨O,ts,ρ,T,ws,_,hc,re,e1,λvs H1 s1 YN r1=>?_⟩;refine⟨λ_=>False,[],[],ws.map lg,x,T2,⟨λb hb=>(by simp_all),λb hb=>hb.elim,Sv,rfl,λi a xs e1 _=>by simp at e1⟩,by rw[QJ];exact um r1 hn,by rw[PY];exact hl _ _ _ _ e1,e2,λv H2 s2 YY r2=>?_⟩;have s2':YM ts H1 H2:=λb o _ q=>s2 b o (by simp) q
    have hm:=λb hb=>by
     exact(YN.trk b hb).to λu z=>s2 b _ (by simp) z
    have vi:=YN.step s2' λb hb=>by
     obtain⟨u,z⟩:=(YN.trk b (YN.own b hb)).ex;rw[z];exact s2 b _ (by simp) z
    exact q v H2 (s1.trans s2') vi (Rep.own hm r2 hx)
   .cases e
  .cases e
 .cases e
noncomputable def dr(ds:List (OY×OY))(s:Str):Option PyData:=match ds with
 |[]=>HA
 |(.str k,d)::r=>if k=s then KQ d else dr r s
 |_::r=>dr r s
theorem lT{K:Frag}{O:Addr->Prop}{H:Hp}{s:Str}:∀{kvs:List (Key×V)}{ds:List (OY×OY)},Zh K O H kvs ds->(dr ds s=HA/\cE kvs (Rh s:Key)=HA)\/∃v d,dr ds s=KQ d/\cE kvs (Rh s:Key)=KQ v/\Rep K O H v d
 |_,_,.nil=>.inl ⟨rfl,rfl⟩
 |_,_,.cons (k:=.inl i) (v:=v)  (kvs:=kvs) (ds:=ds) r t=>by
  have e:cE (((Wp i),v)::kvs) (Rh s)=cE kvs (Rh s):=rfl;rw[e];show (dr ds s=HA/\_)\/∃v d,dr ds s=KQ d/\_;exact lT  t
 |_,_,.cons (k:=.inr k) (v:=v) (d:=d) (kvs:=kvs) (ds:=ds) r t=>by
  by_cases hk:k=s
  .subst hk
   exact .inr ⟨v,d,by show (if k=k then KQ d else dr ds k)=KQ d<;>simp_all,by simp[cE],r⟩
  .have e:cE (((Rh k),v)::kvs) (Rh s)=cE kvs (Rh s):=by simp[cE,hk]
   have e2:dr ((Zn (Rh k),d)::ds) s=dr ds s:=by show (if k=s then KQ d else dr ds s)=_<;>simp_all
   rw[e,e2];exact lT  t
def IA.rd{H:Hp}{a:Addr}{kvs:List (Key×V)}{k:Key}(e:Rd H a (.dK kvs)):IA H a (kV k) (cE kvs k):=.inl ⟨kvs,k,e,rfl,rfl⟩
noncomputable def kO:OY->OY->Option OY
 |.str s,.dict ds=>KQ (.bool (dr ds s).isSome)
 |_,_=>HA
noncomputable def cD:OY->OY->Option OY
 |.dict ds,.str s=>dr ds s
 |_,_=>HA
section
variable {X:Cx}{pos:Pos}{k:Nat}{K:Frag}{Ey:Addr->Prop}{H₀:Hp}{F:List ((Addr->Prop)×Hp)}{ts:List Addr}{O:Addr->Prop}{H H1:Hp}{σ:L2.St}{ρ:YR}{T T1:Tp}
noncomputable def t7(hr:YW k A):A.units+1<cLine:=by have:=hr.un;lia
noncomputable def zgd(hr:YW k X.A)(ha:DE X a f)(hb:DE X b g)(h1:autoParam (QS .In b=Gy) u24):DT X (.Compare a [.In] [b] pos) (aq (ae kO f g)):=by
 refine⟨?_⟩;refine my (zrq (zds (t7 hr) ha.pe hb.pe) h1) λσ H Q h=>?_;have h:=rY h;revert h;rintro⟨O,ts,ρ,T,w,T',hc,re,e,q⟩;obtain⟨w1,T1,e1,e⟩:=aG e;obtain⟨w2,T2,e2,e⟩:=aG e;obtain⟨x,y,d,h1,h2,h3,rfl,rfl⟩:=gO e;refine⟨O,ts,ρ,T,w1,T1,hc,re,e1,λv1 H1 s1 YN r1=>?_⟩;refine⟨O,ts,ρ,T1,w2,T',YN,re.mono hc s1,e2,λv2 H2 s2 YY r2=>?_⟩;have k1:=YY.view (r1.mono YN s2) h1;have k2:=YY.view r2 h2;unfold kO at h3;split at h3
 .rename_i s ds
  cases h3;cases k1.str;obtain⟨a,kvs,rfl,t,r⟩:=k2.dct;refine⟨a,_,rfl,IA.rd (k:=Rh s) t,?_⟩
  have e:(cE kvs (Rh s)).isSome=(dr ds s).isSome:=by
   rcases lT  r with⟨z1,z2⟩|⟨v,d,z1,z2,_⟩ <;> rw[z1,z2] <;> rfl
  rw[e];exact q _ H2 (s1.trans s2) YY (.bl _)
 .cases h3
noncomputable def gR(hr:YW k X.A)(ha:DE X a f)(hb:DE X b g)(hs:autoParam (ux b) u25):DE X (.Subscript a b pos) (ae cD f g):=by
 refine⟨?_⟩;refine bi (zdr (t7 hr) ha.pe hb.pe hs) λσ H Q=>?_;rintro⟨O,ts,ρ,T,w,T',hc,re,e,q⟩;obtain⟨w1,T1,e1,e⟩:=aG e;obtain⟨w2,T2,e2,e⟩:=aG e;obtain⟨x,y,d,h1,h2,h3,rfl,rfl⟩:=gO e;refine⟨O,ts,ρ,T,w1,T1,hc,re,e1,λv1 H1 s1 YN r1=>?_⟩;refine⟨O,ts,ρ,T1,w2,T',YN,re.mono hc s1,e2,λv2 H2 s2 YY r2=>?_⟩;have k1:=YY.view (r1.mono YN s2) h1;have k2:=YY.view r2 h2;unfold cD at h3;split at h3
 .rename_i ds s
  cases k2.str;obtain⟨a,kvs,rfl,t,r⟩:=k1.dct
  rcases lT (s:=s) r with⟨z1,z2⟩|⟨v,d',z1,z2,rv⟩
  .simp_all
  .rw[z1] at h3
   cases h3;exact⟨a,v,rfl,by rw[←z2];exact IA.rd (k:=Rh s) t,q v H2 (s1.trans s2) YY rv⟩
 .cases h3
def RS.lay(r:RS K Ey H₀ F ts O H σ ρ T)(hp:H p=HA)(hm:Ez (KQ o)):RS K Ey H₀ F ts (λb=>O b\/b=p) (upd H p o) σ ρ T:=by
 have le:Le O H (λb=>O b\/b=p) (upd H p o):=λa o n e=>by
  have z:=aX e hp;exact⟨λq=>q.elim n z,by rw[aA z];exact e⟩
 refine⟨⟨λb hb=>.inl (r.hc.own b hb),λb hb=>?_,r.hc.nd,r.hc.len,λj a ys e1 e2=>?_⟩,λj w e=>?_,λb hb=>.inl (r.sub b hb),r.ots,r.same.trans (.new hp _),r.fresh,r.dist,λf hf=>(r.frs f hf).trans le,r.len⟩
 .by_cases z:b=p
  .subst z;rw[aQ];exact hm
  .rw[aA z]
   exact r.hc.trk b (hb.resolve_right z)
 .exact(r.hc.tape j a ys e1 e2).mono (λo' h1=>by rw[aA (aX h1 hp)];exact h1) le
 .obtain⟨x,h1,h2⟩:=r.re j w e
  refine⟨x,h1,?_⟩
  cases w with
  |d x=>exact Rep.mono le h2
  |tp k=>exact h2
  |loc ys=>
   obtain⟨a,e1,h1,h2,h3⟩:=h2;exact⟨a,e1,.inl h1,h2,h3.mono (λo' q=>by rw[aA (aX q hp)];exact q) le⟩
def RS.take(r:RS K Ey H₀ F ts O H σ ρ T)(oa:O p)(nt:p∉ts)(h0:H₀ p=HA/\¬Ey p)(nh:∀(j:Nat) (ys:OY),ρ[j]? = KQ (KQ (W.loc ys))->σ[j]? = KQ (KQ (V.ref p))->False)(hm:Ez (KQ o))(rv:Le O H O (upd H p o)->Zz K O (upd H p o) p y) :
  RS K Ey H₀ F ts O (upd H p o) (σ.set i (KQ (.ref p))) (ρ.set i (KQ (.loc y))) T:=by
 have le:Le O H O (upd H p o):=λb o n e=>⟨n,by rw[aA (show b≠p from λz=>n (by simp_all))];exact e⟩;refine⟨⟨r.hc.own,λb hb=>?_,r.hc.nd,r.hc.len,λj a ys e1 e2=>?_⟩,λj w e=>?_,r.sub,r.ots,λb o n e=>?_,λj ys a e1 e2=>?_,λj k ys zs v e1 e2 e3 e4=>?_,λf hf=>(r.frs f hf).trans le,by simp[r.len]⟩
 .by_cases z:b=p
  .subst z;rw[aQ];exact hm
  .rw[aA z];exact r.hc.trk b hb
 .exact(r.hc.tape j a ys e1 e2).mono (λo' h1=>by rw[aA (show a≠p from λz=>nt (by rw[←z];exact Px e1))];exact h1) le
 .by_cases z:i=j
  .subst z
   have hl:i<ρ.length:=by
    have:=(Pa.mp e).1;simpa using this
   rw[Pm hl] at e;cases e;exact⟨.ref p,by rw[Pm (by rw[r.len];exact hl)],p,rfl,oa,nt,rv le⟩
  .rw[Pj z] at e
   obtain⟨x,h1,h2⟩:=r.re j w e;refine⟨x,by rw[Pj z];exact h1,?_⟩
   cases w with
   |d x=>exact Rep.mono le h2
   |tp k=>exact h2
   |loc zs=>
    obtain⟨b,eb,k1,k2,k3⟩:=h2;have n:b≠p:=λq=>nh j zs e (by rw[h1,eb,q]);exact⟨b,eb,k1,k2,k3.mono (λo' q=>by rw[aA n];exact q) le⟩
 .have:=r.same b o n e
  rw[aA (show b≠p from λz=>by rw[z,h0.1] at e;cases e)];exact this
 .by_cases z:i=j
  .subst z
   have hl:i<ρ.length:=by
    have:=(Pa.mp e1).1;simpa using this
   rw[Pm (by rw[r.len];exact hl)] at e2;cases e2;exact h0
  .rw[Pj z] at e1 e2
   exact r.fresh j ys a e1 e2
 .by_cases z:i=j
  .by_cases z':i=k
   .rw[←z,←z']
   .exfalso
    subst z
    have hl:i<ρ.length:=by
     have:=(Pa.mp e1).1;simpa using this
    rw[Pm (by rw[r.len];exact hl)] at e3;cases e3;rw[Pj z'] at e2 e4;exact nh k zs e2 e4
  .by_cases z':i=k
   .exfalso
    subst z'
    have hl:i<ρ.length:=by
     have:=(Pa.mp e2).1;simpa using this
    rw[Pm (by rw[r.len];exact hl)] at e4;cases e4;rw[Pj z] at e1 e3;exact nh j ys e1 e3
   .rw[Pj z] at e1 e3
    rw[Pj z'] at e2 e4;exact r.dist j k ys zs v e1 e2 e3 e4
noncomputable def eX(i:Nat)(k1 k2:Str)(f g:FE):FS:=λρ T=>YS (f ρ T) λw1 T1=>YS (g ρ T1) λw2 T2=>match w1,w2 with
 |.d x,.d y=>if k1=k2 then HA else KQ ((.nx,ρ.set i (KQ (.loc (.dict [(.str k1,x),(.str k2,y)])))),T2)
 |_,_=>HA
noncomputable def oE{j1 j2}(hN:X.N.Nodup)(he1:DE X e1 f)(he2:DE X e2 g)(hi:autoParam (X.N[i]? = KQ x) u10)(hx:autoParam (Loc X.env.scope x) u18)
  (hs:autoParam (QF (.Dict [KQ (.Constant (.str k1) j1 kp1),KQ (.Constant (.str k2) j2 kp2)] [e1,e2] EQ) (KQ (.Name x pos')) pos.line X.env=pure Gy) u10) (hf:autoParam (X.fn x=G3\/X.env.scope.names.lookup x=KQ .local) u15) :
  DS X (.Assign [.Name x pos'] (.Dict [KQ (.Constant (.str k1) j1 kp1),KQ (.Constant (.str k2) j2 kp2)] [e1,e2] EQ) pos) (eX i k1 k2 f g):=by
 refine⟨?_⟩;refine dO (dh hN hi hx (zdw (zta tw he1.pe (zta tw he2.pe zdv)) rfl rfl (by simp) (by simp)) hs hf) λD σ H=>?_;rintro⟨Ey,H₀,F,ts,O,ρ,T,fl,ρ',T',rs,e,q⟩;obtain⟨w1,T1,z1,e⟩:=aG e;obtain⟨w2,T2,z2,e⟩:=aG e
 obtain⟨x1,rfl⟩:∃x,w1=.d x:=by
  cases w1 with
  |d x=>exact⟨x,rfl⟩
  |tp k=>cases e
  |loc k=>cases e
 obtain⟨y1,rfl⟩:∃x,w2=.d x:=by
  cases w2 with
  |d x=>exact⟨x,rfl⟩
  |tp k=>cases e
  |loc k=>cases e
 intro p hp;have nO:=rs.hc.fresh hp;have nt:p∉ts:=λz=>nO (rs.hc.own p z)
 have h00:H₀ p=HA:=by
  cases e:H₀ p with
  |none=>rfl
  |some o=>rw[rs.same p o nt e] at hp;cases hp
 have h0:H₀ p=HA/\¬Ey p:=⟨h00,λz=>nO (rs.sub p z)⟩
 have nh:∀(j:Nat) (ys:OY),ρ[j]? = KQ (KQ (W.loc ys))->σ[j]? = KQ (KQ (V.ref p))->False:=λj ys q1 q2=>by
  obtain⟨v,h1,a,ea,h2,h3,h4⟩:=rs.re j _ q1;rw[q2] at h1;cases h1;cases ea;obtain⟨o',h5⟩:=h4.some;rw[hp] at h5;cases h5
 have yU:=rs.lay (o:=.dK []) hp (.inr (.inl ⟨_,rfl⟩));refine⟨_,ts,ρ,T,_,T1,yU.hc,yU.re,z1,λv1 H1 s1 YN r1=>?_⟩;have Z2:=yU.step s1 YN;refine⟨_,ts,ρ,T1,_,T2,Z2.hc,Z2.re,z2,λv2 H2 s2 YY r2=>?_⟩;have Bu:=Z2.step s2 YY
 by_cases CB:k1=k2
 .have e':(if k1=k2 then HA else KQ ((Fl.nx,ρ.set i (KQ (.loc (.dict [(.str k1,x1),(.str k2,y1)])))),T2))=KQ ((fl,ρ'),T'):=e
  rw[if_pos CB] at e';cases e'
 have e':(if k1=k2 then HA else KQ ((Fl.nx,ρ.set i (KQ (.loc (.dict [(.str k1,x1),(.str k2,y1)])))),T2))=KQ ((fl,ρ'),T'):=e;rw[if_neg CB] at e';cases e';have vB:H2 p=KQ (.dK []):=s2 p _ nt (s1 p _ nt aQ);refine⟨vB,[(.inr k1,v1),(.inr k2,v2)],rfl,by simp,?_⟩
 have hm:jo [] [((Rh k1:Key),v1),((Rh k2:Key),v2)]=[(.inr k1,v1),(.inr k2,v2)]:=by
  simp[jo,putK,CB]
 rw[hm];have GX:Rep X.K (λb=>O b\/b=p) H2 v1 x1:=ZY.mono (w:=.d x1) r1 YN s2;exact q _ _ _ (Bu.take (.inr rfl) nt h0 nh (.inr (.inl ⟨_,rfl⟩)) λle=>⟨_,aQ,.cons (k:=.inr k1) (Rep.mono le GX) (.cons (k:=.inr k2) (Rep.mono le r2) .nil)⟩)
noncomputable def iG(ds:List (OY×OY))(s:Str)(x:OY):List (OY×OY):=match ds with
 |[]=>[]
 |(.str k,d)::r=>if k=s then (.str k,x)::iG r s x else (.str k,d)::iG r s x
 |p::r=>p::iG r s x
theorem qO(rx:Rep K O H v x):∀{kvs:List (Key×V)}{ds:List (OY×OY)},Zh K O H kvs ds->Zh K O H (kvs.map λkv=>if kv.1=(Rh s:Key) then (kv.1,v) else kv) (iG ds s x)
 |_,_,.nil=>.nil
 |_,_,.cons (k:=.inl i) r t=>by
  exact .cons  r (qO rx t)
 |_,_,.cons (k:=.inr k)    (ds:=ds) r t=>by
  rw[P2];have ih:=qO (s:=s) rx t;show Zh K O H _ (if k=s then _::iG ds s x else _::iG ds s x)
  by_cases hk:k=s
  .rw[if_pos hk,if_pos (by rw[hk])]
   exact .cons  rx ih
  .rw[if_neg hk,if_neg (λz=>hk (Sum.inr.inj z))]
   exact .cons  r ih
noncomputable def kP(i:Nat)(fk fv:FE):FS:=λρ T=>YS (fv ρ T) λw T1=>match ρ[i]? with
 |some (KQ (.loc (.dict ds)))=>YS (fk ρ T1) λk T3=>match w,k with
  |.d x,.d (.str s)=>if (dr ds s).isSome=G3/\ds.length<=1000 then KQ ((.nx,ρ.set i (KQ (.loc (.dict (iG ds s x))))),T3) else HA
  |_,_=>HA
 |_=>HA
theorem zvh:∀{kvs:List (Key×V)}{ds:List (OY×OY)},Zh K O H kvs ds->kvs.length=ds.length
 |_,_,.nil=>rfl
 |_,_,.cons _ t=>congrArg _ (zvh t)
noncomputable def zge{kvs:List (Key×V)}{k:Key}(h:(cE kvs k).isSome=G3):(kvs.any λkv=>decide (kv.1=k))=G3:=by unfold cE at h<;>simp_all
noncomputable def zvi(hr:YW k X.A)(hk:DE X kx fk)(he:DE X e fv)(hN:autoParam (X.N[i]? = KQ x) u10)(hv:autoParam (BS X.env.scope x) u20)(hd:autoParam ((x == ("__debug__" : Str))=Gy) u11)
  (hcd:autoParam ((x == ("__classdict__" : Str))=Gy) u11) (hs:autoParam (QF e (KQ (.Subscript (.Name x p) kx pos')) pos.line X.env=pure Gy) u10):DS X (.Assign [.Subscript (.Name x p) kx pos'] e pos) (kP i fk fv):=by
 refine⟨?_⟩;refine dO (zdt (t7 hr) (pv i hN hv hd hcd) hk.pe he.pe hs) λD σ H=>?_;rintro⟨Ey,H₀,F,ts,O,ρ,T,fl,ρ',T',rs,e,q⟩;obtain⟨w,T1,e1,e⟩:=aG e;refine⟨O,ts,ρ,T,w,T1,rs.hc,rs.re,e1,λv H1 s1 YN r1=>?_⟩;have Z2:=rs.step s1 YN;split at e
 .rename_i ds c3
  obtain⟨wk,T3,e3,e⟩:=aG e;split at e
  .rename_i xv s _
   split at e
   .rename_i xk
    cases e;obtain⟨c1,c2⟩:=xk;obtain⟨u,k1,a,rfl,k2,k3,kvs,k4,k5⟩:=Z2.re i _ c3;refine⟨_,k1,O,ts,ρ,T1,_,_,Z2.hc,Z2.re,e3,λy H3 s3 ZA r3=>?_⟩;have ED:=Z2.step s3 ZA;cases (show Rep X.K O H3 y (.str s) from r3);have k4':H3 a=KQ (.dK kvs):=s3 _ _ k3 k4;have xp:Zh X.K O H3 kvs ds:=k5.mono (YN.le s3)
    have vh:(kvs.any λkv=>decide (kv.1=(Rh s:Key)))=G3:=zge (by
     rcases lT (s:=s) xp with⟨z1,z2⟩|⟨v',d',z1,z2,_⟩
     .rw[z1] at c1;cases c1
     .rw[z2];rfl)
    have wF:putK kvs (Rh s:Key) v=kvs.map (λkv=>if kv.1=(Rh s:Key) then (kv.1,v) else kv):=by
     unfold putK;rw[if_pos vh]
    have Y3:kvs.length<sizeLine:=by
     rw[zvh xp];exact Qs c2 (by decide)
    have rx:Rep X.K O H3 v xv:=ZY.mono (w:=.d xv) r1 YN s3;refine⟨a,_,rfl,Bt.k (k:=(Rh s:Key)) k4' Y3,?_⟩;rw[wF];exact q O σ _ (ED.putO c3 k1 (.inr (.inl ⟨_,rfl⟩)) λle=>⟨_,aQ,qO (Rep.mono le rx) (xp.mono le)⟩)
   .cases e
  .cases e
 .cases e
end
noncomputable def eW(B:List (Str×Str)):List (Str×VP):=B.map λp=>(p.1,.flat (.str p.2))
def Br(K:Frag)(mg:Str->Option O9)(x:Str)(B:List (Str×Str)):Prop:=∃a,mg x=KQ (.ref a)/\P0 (PZ λb=>K.lookup b) (λb=>K.lookup b) a (eW B)=G3
noncomputable def atS(B:List (Str×Str)):OY->Option OY
 |.str s=>(B.find? λp=>decide (s=p.1)).map λp=>.str p.2
 |_=>HA
theorem zvj(s:Str):∀B:List (Str×Str),RZ s (eW B)=(B.find? λp=>decide (s=p.1)).map λp=>.flat (.str p.2)
 |[]=>rfl
 |(x,d)::B=>by
  show (if decide (s=x)=G3 then KQ _ else RZ s (eW B))=_;rw[zvj s B,QK]
  cases decide (s=x) <;> rfl
section
variable {X:Cx}{pos:Pos}{e:Expr}{f:FE}{x:Str}{p:Pos}{B:List (Str×Str)}
theorem zvk:∀{B:List (Str×Str)}{d:Str×Str},(B.find? λp=>decide (s=p.1))=KQ d->(∀t,P (.str d.2 t))->Ve h s P (eW B)
 |[],d,e,_=>by simp_all
 |(x,i)::B,d,e,hp=>by
  rw[QK] at e
  by_cases hx:s=x
  .have:=decide_eq_true hx
   simp only[this] at e;cases e;exact Uk hx (Xk hp)
  .have:=decide_eq_false hx
   simp only[this] at e;exact TY hx (zvk e hp)
noncomputable def zgf(hl:P0 (PZ λb=>X.K.lookup b) (λb=>X.K.lookup b) a (eW B)=G3):HQ X (λx y H Q=>∃s p,x=.ref a/\y=.str s/\(B.find? λp=>decide (s=p.1))=KQ p/\Q (.str p.2) H):=by
 intro value slice pins s σ H x y v u Q I rx ry h hs;obtain⟨z,d,rfl,rfl,hf,q⟩:=h;obtain⟨t,rfl⟩:=ry;cases rx
 have hk:SZ z (eW B)=G3:=by
  rw[←Tb,zvj,hf];rfl
 have hp:((eW B).all λp=>Vf p.2)=G3:=by
  rw[Po];intro p hp;obtain⟨q,_,rfl⟩:=PD.mp hp;rfl
 exact TZ  ⟨Ul I.kIn hl,λ_ _ e=>e⟩ hp hk (zvk hf λt=>⟨.str d.2,H,I.tok _,⟨t,rfl⟩,q⟩) hs
noncomputable def zgg(ht:Br X.K X.mg x B)(hg:Gl X x)(he:DE X e f)(hd:autoParam ((x == ("__debug__" : Str))=Gy) u11)(hs:autoParam (oM e) u25):DE X (.Subscript (.Name x p) e pos) (Zq (atS B) f):=by
 obtain⟨a,hx,hl⟩:=ht;refine⟨?_⟩;refine bi (dE (zgf hl) (j8 (v:=.ref a) hg hx rfl hd) he.pe hs) λσ H Q=>?_;rintro⟨O,ts,ρ,T,w,T',hc,re,e,q⟩;obtain⟨w1,T1,e1,e⟩:=aG e;obtain⟨x,d,h1,h3,rfl,rfl⟩:=kA e;refine⟨O,ts,ρ,T,w1,T',hc,re,e1,λv1 H1 s1 YN r1=>?_⟩;have vw:=YN.view r1 h1;unfold atS at h3;split at h3
 .obtain⟨p,hp,rfl⟩:=PV.mp h3
  cases vw.str;exact⟨_,p,rfl,rfl,hp,q _ H1 s1 YN (.str _)⟩
 .cases h3
noncomputable def tR(a:Addr)(o:Obj)(B:List (Str×Str)):Bool:=P0 (PZ λ_=>HA) (λ_=>KQ o) a (eW B)
theorem zvl:∀(es:List UM) (B:List (Str×Str)),QN (PZ g) es (eW B)=QN (PZ g') es (eW B)
 |[],[]=>rfl
 |[],_::_=>rfl
 |_::_,[]=>rfl
 |e::es,_::B=>by
  have ih:=zvl (g:=g) (g':=g') es B;unfold eW at ih ⊢;rw[P2];unfold QN;rw[ih];rfl
noncomputable def zgh{K:Frag}(h:K.lookup a=KQ o)(g:tR a o B=G3):P0 (PZ λb=>K.lookup b) (λb=>K.lookup b) a (eW B)=G3:=by
 unfold tR P0 at g;unfold P0;dsimp only at g ⊢;rw[h];rw[←g];dsimp only
 cases o.data <;> first|rfl|(dsimp only;rw[zvl ])
end
noncomputable def fB(f:Str):List OY->Option OY
 |.tuple [.str g,y]::r=>if g=f then KQ y else fB f r
 |_=>HA
noncomputable def gy(f:Str)(y:OY):List OY->List OY
 |.tuple [.str g,z]::r=>if g=f then .tuple [.str g,y]::r else .tuple [.str g,z]::gy f y r
 |_=>[.tuple [.str f,y]]
noncomputable def iQ(C:Addr):List OY->Option (List OY)
 |.dict [(.none,.int c)]::ps=>if c=(C:Int) then KQ ps else HA
 |_=>HA
noncomputable def fA(C:Addr)(T:Tp)(n:Nat):Option (List OY):=(T[n]?).bind (iQ C)
section
variable {K:Frag}{O:Addr->Prop}{ts:List Addr}{H H':Hp}{T:Tp}{n:Nat}{a C:Addr}{ps:List OY}{X:Cx}{o e:Expr}{f m:Str}{pos pos' apos:Pos}{fo fe:FE}
noncomputable def zgi(h:iQ C xs=KQ ps):xs=cT C::ps:=by
 unfold iQ at h;split at h
 .split at h
  .rename_i hc
   cases h;rw[hc];rfl
  .cases h
 .cases h
noncomputable def zgj(h:fA C T n=KQ ps):T[n]? = KQ (cT C::ps):=by
 unfold fA at h
 cases hT:T[n]? with
 |none=>simp_all
 |some xs=>
  rw[hT] at h;have h':iQ C xs=KQ ps:=h;rw[zgi h']
def HC.obj(c:HC K O ts H T)(e:ts[n]? = KQ a)(h:fA C T n=KQ ps):∃dx fs fd,H a=KQ (.ins C dx fs)/\ps=fd.map pairF/\Z8 K O H fs fd:=by
 rcases c.tape n a _ e (zgj h) with⟨no,_⟩|⟨C',dx,fs,fd,h1,h2,h3⟩
 .cases no
 .injection h2 with e1 e2
  have e3:(C:Int)=(C':Int):=by
   have z:PyData.dict [(.none,.int (C:Int))]=.dict [(.none,.int (C':Int))]:=e1
   injection z with z
   injection z with z _
   injection z with _ z
   injection z
  have e4:C=C':=by exact Int.ofNat.inj e3
  subst e4;exact⟨dx,fs,fd,h1,e2,h3⟩
def Z8.look(r:Z8 K O H fs fd):(fB f (fd.map pairF)=HA/\fs.lookup f=HA)\/∃v y,fB f (fd.map pairF)=KQ y/\fs.lookup f=KQ v/\Rep K O H v y:=by
 induction r with
 |nil=>exact .inl ⟨rfl,rfl⟩
 |cons r _ ih=>
  rename_i g v d vs ds _
  by_cases hg:g=f
  .subst hg
   refine .inr ⟨v,d,?_,?_,r⟩
   .show (if g=g then KQ d else _)=_
    rw[if_pos rfl]
   .rw[R9,beq_self_eq_true]
  .have e1:fB f (((g,d)::ds).map pairF)=fB f (ds.map pairF):=if_neg hg
   have e2:W7 f ((g,v)::vs)=W7 f vs:=by grind
   rw[e1,e2];exact ih
noncomputable def jx(f:Str)(y:OY):List (Str×OY)->List (Str×OY)
 |[]=>[(f,y)]
 |(g,x)::r=>if g=f then (g,y)::r else (g,x)::jx f y r
def Z8.put(ry:Rep K O H v y)(r:Z8 K O H fs fd):Z8 K O H (dy f v fs) (jx f y fd):=by
 induction r with
 |nil=>exact .cons ry .nil
 |cons r t ih=>
  rename_i g v' d vs ds;unfold dy jx
  by_cases hg:g=f
  .rw[if_pos hg,if_pos hg]
   exact .cons ry t
  .rw[if_neg hg,if_neg hg]
   exact .cons r ih
theorem zwb:∀fd:List (Str×OY),gy f y (fd.map pairF)=(jx f y fd).map pairF
 |[]=>rfl
 |(g,x)::r=>by
  have e:gy f y (((g,x)::r).map pairF)=if g=f then .tuple [.str g,y]::r.map pairF else .tuple [.str g,x]::gy f y (r.map pairF):=rfl
  have e':jx f y ((g,x)::r)=if g=f then (g,y)::r else (g,x)::jx f y r:=rfl
  rw[e,e',zwb r]
  by_cases hg:g=f
  .rw[if_pos hg,if_pos hg];rfl
  .rw[if_neg hg,if_neg hg];rfl
noncomputable def hU(C:Addr)(f:Str)(w:W)(T:Tp):Option (W×Tp):=match w with
 | .tp n=>(match fA C T n with
  | some ps=>(match fB f ps with
   |some y=>KQ (.d y,T)
   | none=>HA)
  | none=>HA)
 |_=>HA
noncomputable def fN(C:Addr)(f:Str)(fo:FE):FE:=λρ T=>YS (fo ρ T) (hU C f)
noncomputable def gS(c:Gb X.K C)(n:Zl X.K C f)(ho:DE X o fo)(hb:autoParam (QI o f X.env (eval o X.env)=eval o X.env) u10):DE X (.Attribute o f pos) (fN C f fo):=by
 refine⟨?_⟩;refine bi (kz ho.pe hb) λσ H Q=>?_;rintro⟨O,ts,ρ,T,w,T',hc,re,e,q⟩;obtain⟨w1,T1,e1,e⟩:=aG e;refine⟨O,ts,ρ,T,w1,T1,hc,re,e1,λv1 H1 s1 YN r1=>?_⟩
 cases w1 with
 |tp k=>
  unfold hU at e;dsimp only at e;split at e
  .rename_i ps h1
   split at e
   .rename_i y h2
    cases e;obtain⟨a,k1,rfl⟩:=r1;obtain⟨dx,fs,fd,g1,g2,g3⟩:=YN.obj k1 h1;subst g2
    rcases g3.look (f:=f) with⟨z,_⟩|⟨v,y',z1,z2,z3⟩
    .simp_all
    .rw[z1] at h2
     cases h2;exact⟨a,C,dx,fs,v,rfl,g1,c,n,z2,q v H1 s1 YN z3⟩
   .cases e
  .cases e
 |d x=>cases e
 |loc x=>cases e
noncomputable def eL(C:Addr)(f:Str)(ρ:YR)(w o:W)(T:Tp):Option ((Fl×YR)×Tp):=match w,o with
 | .d y,.tp n=>(match fA C T n with
  |some ps=>if ps.length<1000 then KQ ((.nx,ρ),T.set n (cT C::gy f y ps)) else HA
  | none=>HA)
 |_,_=>HA
noncomputable def jA(C:Addr)(f:Str)(fo fe:FE):FS:=λρ T=>YS (fe ρ T) λw T1=>YS (fo ρ T1) (eL C f ρ w)
noncomputable def mH(c:Gb X.K C)(n:Zl X.K C f)(ho:DE X o fo)(he:DE X e fe)(hs:autoParam (QF e (KQ (.Attribute o f pos')) pos.line X.env=pure Gy) u10):DS X (.Assign [.Attribute o f pos'] e pos) (jA C f fo fe):=by
 refine⟨?_⟩;refine dO (tm ho.pe he.pe hs) λD σ H=>?_;rintro⟨Ey,H₀,F,ts,O,ρ,T,fl,ρ',T',rs,e,q⟩;obtain⟨w,T1,e1,e⟩:=aG e;obtain⟨wo,T2,e2,e⟩:=aG e;refine⟨O,ts,ρ,T,w,T1,rs.hc,rs.re,e1,λv H1 s1 YN r1=>?_⟩;have Z2:=rs.step s1 YN;refine⟨O,ts,ρ,T1,wo,T2,YN,Z2.re,e2,λvo H2 s2 YY r2=>?_⟩;have Bu:=Z2.step s2 YY
 cases w with
 |tp j=>cases e
 |loc j=>cases e
 |d y=>
 cases wo with
 |d j=>cases e
 |loc j=>cases e
 |tp k=>
  unfold eL at e;dsimp only at e;split at e
  .rename_i ps h1
   split at e
   .rename_i hl
    cases e;obtain⟨a,k1,rfl⟩:=r2;obtain⟨dx,fs,fd,g1,g2,g3⟩:=YY.obj k1 h1
    have Y3:fs.length=fd.length:=by
     clear g1 g2
     induction g3 with
     |nil=>rfl
     |cons _ _ ih=>simp[ih]
    refine⟨a,C,dx,fs,rfl,g1,c,n,by simp_all,?_⟩;have ry:Rep X.K O H2 v y:=Rep.mono (YN.le s2) r1;refine q O _ _ (Bu.tapeO k1 (.inr (.inr ⟨_,_,_,rfl⟩)) λle=>.inr ⟨C,dx,_,jx f y fd,aQ,?_,(g3.mono le).put (Rep.mono le ry)⟩);rw[g2,zwb]
   .cases e
  .cases e
structure Jj(P:Pu)(w:PU)(K:Frag)(mg:Str->Option O9)(base:Heap)(C:Addr)(m:Str)(ps:List Str)(k:Nat)(sp:Sp):Prop where
 ex:∃f fd,Zr P w K mg base Z7 k f fd ps sp/\Binds K fd ps []/\Ft K C m f
noncomputable def mT(C:Addr)(m:Str)(mm:YX)(g:FA)(ρ:YR)(w:W)(T:Tp):Option (W×Tp):=match w with
 | .tp n=>(match fA C T n with
  |some ps=>if (fB m ps).isNone=G3 then YS (g ρ T) λws T2=>YS (mm (.tp n::ws) T2) λx T3=>KQ (.d x,T3) else HA
  | none=>HA)
 |_=>HA
noncomputable def dv(C:Addr)(m:Str)(mm:YX)(fo:FE)(g:FA):FE:=λρ T=>YS (fo ρ T) (mT C m mm g ρ)
variable {ps:List Str}{k:Nat}{mm:YX}{g:FA}{es:List Expr}{pl:Sem Bool}
noncomputable def zwc(hl:fO g lv)(h1:ps.length=lv+1)(h:lift X.K (dv C m mm fo g) σ H Q):tT C m (Y1 X.K ps.length mm) [] E0 (lift X.K fo) (t6 X.K g) σ H Q:=by
 obtain⟨O,ts,ρ,T,w,T',hc,re,e,q⟩:=h;obtain⟨w1,T1,e1,e⟩:=aG e;refine⟨O,ts,ρ,T,w1,T1,hc,re,e1,λv1 H1 s1 YN r1=>?_⟩
 cases w1 with
 |tp n=>
  unfold mT at e;dsimp only at e;split at e
  .rename_i qs o1
   split at e
   .rename_i hn
    obtain⟨ws,T2,e2,e⟩:=aG e;obtain⟨x,T3,e3,e⟩:=aG e;cases e;obtain⟨a,k1,rfl⟩:=r1;obtain⟨dx,fs,fd,g1,g2,g3⟩:=YN.obj k1 o1;subst g2
    have l0:fs.lookup m=HA:=by
     rcases g3.look (f:=m) with⟨_,z⟩|⟨v,y',z1,z2,z3⟩
     .exact z
     .simp_all
    refine⟨a,dx,fs,rfl,g1,l0,O,ts,ρ,T1,ws,T2,YN,re.mono hc s1,e2,λvs H2 s2 YY r2=>?_⟩;refine⟨O,ts,T2,.tp n::ws,x,_,YY,?_,by rw[h1,P9,hl _ _ _ _ e2],e3,λv H3 s3 ZA r3=>q v H3 (s1.trans (s2.trans s3)) ZA r3⟩;rw[QJ];exact .cons ⟨a,k1,rfl⟩ r2
   .cases e
  .cases e
 |d x=>cases e
 |loc x=>cases e
noncomputable def kl(F:Jj X.prog X.w X.K X.mg X.base C m ps k (Y1 X.K ps.length mm))(c:Gb X.K C)(hr:YW k X.A)(ho:DE X o fo)(ha:DA X (e::es) g)(hl:fO g lv)(h1:autoParam (ps.length=lv+1) u10)
  (he:autoParam (Pi (e::es) X.env=(Gy,eval e X.env)::Pi es X.env) u13) (Zv:autoParam ((Qj pos (Pi es X.env)).any (·.1)=Gy) u14)
  (ht:autoParam (eval (.Call (.Attribute o m apos) (e::es) [] pos) X.env=(do
   let ov ←eval o X.env
   VY apos.atName
   let (f,first) ←VZ [ov] (UH ov m pl)
   Xq pos f first (Qj pos (Pi (e::es) X.env)) (RO pos (QQ [] X.env)))) u10):DE X (.Call (.Attribute o m apos) (e::es) [] pos) (dv C m mm fo g):=by
 obtain⟨f,fd,F1,F2,F3⟩:=F.ex;refine⟨?_⟩;exact bi (fX ho.pe c F3 F1 hr F2 .nil cw ha.pe he Zv ht) λσ H Q h=>zwc hl h1 h
noncomputable def j4(F:Jj X.prog X.w X.K X.mg X.base C m ps k (Y1 X.K ps.length mm))(c:Gb X.K C)(hr:YW k X.A)(ho:DE X o fo)(h1:autoParam (ps.length=1) u10)
  (ht:autoParam (eval (.Call (.Attribute o m apos) [] [] pos) X.env=(do
   let ov ←eval o X.env
   VY apos.atName
   let (f,first) ←VZ [ov] (UH ov m pl)
   Xq pos f first (Qj pos (Pi [] X.env)) (RO pos (QQ [] X.env)))) u10):DE X (.Call (.Attribute o m apos) [] [] pos) (dv C m mm fo ag):=by
 obtain⟨f,fd,F1,F2,F3⟩:=F.ex;refine⟨?_⟩
 exact bi (iB ho.pe c F3 F1 hr F2 .nil cw ht) λσ H Q h=>by
  have:=zwc (X:=X) (ps:=ps) cu h1 h;obtain⟨O,ts,ρ,T,w,T',hc,re,e,q⟩:=this;refine⟨O,ts,ρ,T,w,T',hc,re,e,λv H1 s1 YN r1=>?_⟩;obtain⟨a,dx,fs,ea,e1,e2,O2,ts2,ρ2,T2,ws,T3,YY,Dl,e3,q2⟩:=q v H1 s1 YN r1;cases e3;exact⟨a,dx,fs,ea,e1,e2,q2 [] H1 (.refl _ _) YY .nil⟩
noncomputable def uc:FS:=λ_ _=>HA
noncomputable def zwd{st:Stmt}:DS X st uc:=⟨λ_ _ _ _ _ _ h=>by
 obtain⟨Ey,H₀,F,ts,O,ρ,T,fl,ρ',T',rs,e,q⟩:=h
 cases e⟩
end
noncomputable def jz(T:Tp):Option (Tp×List OY):=match T.getLast? with
 |some xs=>KQ (T.dropLast,xs)
 |none=>HA
noncomputable def zwe(h:jz T=KQ (T1,ys)):T=T1++[ys]:=by
 unfold jz at h;split at h
 .rename_i xs e
  cases h
  obtain⟨zs,hl⟩:=List.getLast?_eq_some_iff.mp e<;>simp_all
 .cases h
noncomputable def kr:YR->Bool
 |[]=>G3
 |none::r=>kr r
 |some (.d _)::r=>kr r
 |_::_=>Gy
theorem jY:∀{ρ:YR}{j:Nat}{w:W},kr ρ=G3->ρ[j]? = KQ (KQ w)->∃x,w=.d x
 |[],_,_,_,e=>by simp at e
 |none::r,0,_,h,e=>by simp at e
 |some (.d x)::r,0,_,h,e=>by simp at e;exact⟨x,e.symm⟩
 |some (.tp _)::_,_,_,h,_=>by cases h
 |some (.loc _)::_,_,_,h,_=>by cases h
 |none::r,j+1,w,h,e=>jY (ρ:=r) (j:=j) h (by simpa using e)
 |some (.d x)::r,j+1,w,h,e=>jY (ρ:=r) (j:=j) h (by simpa using e)
noncomputable def zgk(h:kr ρ=G3):uy ρ:=λi ds e=>by
 obtain⟨x,z⟩:=jY h e;cases z
theorem qR:∀{ρ:YR},kr ρ=G3->cz ρ=ρ
 |[],_=>rfl
 |none::r,h=>by
  show HA::cz r=HA::r;rw[qR (ρ:=r) h]
 |some (.d x)::r,h=>by
  show KQ (W.d x)::cz r=KQ (W.d x)::r;rw[qR (ρ:=r) h]
 |some (.tp _)::_,h=>by cases h
 |some (.loc _)::_,h=>by cases h
noncomputable def mR(o:Option ((Fl×YR)×Tp)):Option ((Fl×YR)×Tp):=match o with
 | some ((.rt y,ρ'),T3)=>(match jz T3 with
  |some (T4,_)=>KQ ((.rt y,ρ'),T4)
  | none=>HA)
 |_=>HA
noncomputable def C5(i:Nat)(C:Addr)(m:YX)(fr:FS)(ρ:YR)(w:W)(T1:Tp):Option ((Fl×YR)×Tp):=match w with
 | .d x0=>(match m [.tp T1.length,.d x0] (T1++[[cT C]]) with
  |some (.none,T2)=>mR (fr (ρ.set i (KQ (.tp T1.length))) T2)
  | _=>HA)
 |_=>HA
noncomputable def kR(i:Nat)(C:Addr)(m:YX)(fe:FE)(fr:FS):FS:=λρ T=>if kr ρ=G3 then YS (fe ρ T) (C5 i C m fr ρ) else HA
section
variable {X:Cx}{C f:Addr}{e:Expr}{fe:FE}{fr:FS}{rest:List Stmt}{cn x:Str}{p pos pos' YO:Pos}{ps:List Str}{k i:Nat}{m:YX}{fd:RG}
noncomputable def zgl(M:Mk X.K C f)(Fi:Zr X.prog X.w X.K X.mg X.base Z7 k f fd ps (Y1 X.K ps.length m))(hb:Binds X.K fd ps [])(hr:YW (k+1) X.A)(hg:Gl X cn)(hm:X.mg cn=KQ (.ref C))(hN:X.N.Nodup)(he:DE X e fe)(CO:GN X rest fr)
  (h2:autoParam (ps.length=2) u10) (hi:autoParam (X.N[i]? = KQ x) u10) (hx:autoParam (Loc X.env.scope x) u18) (ZG:autoParam ((cn == ("__debug__" : Str))=Gy) u11)
  (Z0:autoParam (Pi [e] X.env=(Gy,eval e X.env)::Pi [] X.env) u13) (Zv:autoParam ((Qj YO (Pi [] X.env)).any (·.1)=Gy) u14)
  (hs:autoParam (QF (.Call (.Name cn p) [e] [] YO) (KQ (.Name x pos')) pos.line X.env=pure Gy) u10) (hf:autoParam (X.fn x=G3\/X.env.scope.names.lookup x=KQ .local) u15) :
  GN X (.Assign [.Name x pos'] (.Call (.Name cn p) [e] [] YO) pos::rest) (kR i C m fe fr):=by
 refine⟨?_⟩;refine ou (bJ (dh hN hi hx (zcj M Fi hr hg hm hb .nil cw (aV he.pe br Z0) ZG Z0 Zv) hs hf) CO.pe) λD σ H=>?_;rintro⟨Ey,H₀,F,ts,O,ρ,T,fl,ρ',T',rs,e,q⟩;unfold kR at e;split at e
 .rename_i hp
  obtain⟨w,T1,e1,e⟩:=aG e;obtain⟨c0,EC⟩:=rs.frz (zgk hp);rw[qR hp] at EC;refine⟨Ey,ts,ρ,T,w,T1,c0,EC,e1,λv1 H1 s1 YN r1=>?_⟩
  cases w with
  |tp j=>cases e
  |loc y=>cases e
  |d x0=>
   unfold C5 at e;dsimp only at e;split at e
   .rename_i T2 em
    intro px dx Cs F5 CB;have re1:=EC.mono c0 s1;have nO:=YN.fresh Cs;have nOd:=YN.fresh F5;have nt:px∉ts:=λz=>nO (YN.own _ z)
    have U:∀b,b≠px->b≠dx->upd (upd H1 dx (.own px)) px (.ins C dx []) b=H1 b:=λb n1 n2=>by rw[aA n1,aA n2]
    have le:Le Ey H1 (λb=>Ey b\/b=px) (upd (upd H1 dx (.own px)) px (.ins C dx [])):=λa o n e=>by
     have z1:a≠px:=aX e Cs;have z2:a≠dx:=aX e F5;exact⟨λq=>q.elim n z1,by rw[U a z1 z2];exact e⟩
    have hcN:HC X.K (λb=>Ey b\/b=px) (ts++[px]) (upd (upd H1 dx (.own px)) px (.ins C dx [])) (T1++[[cT C]]):=by
     refine⟨λb hb=>?_,λb hb=>?_,?_,by simp[YN.len],λj b zs q1 q2=>?_⟩
     .rcases Pt.mp hb with z|z
      .exact .inl (YN.own b z)
      .exact .inr (Py.mp z)
     .by_cases z:b=px
      .rw[z,aQ];exact .inr (.inr ⟨_,_,_,rfl⟩)
      .have ER:=hb.resolve_right z
       have z2:b≠dx:=λz2=>nOd (z2 ▸ ER);rw[U b z z2];exact YN.trk b ER
     .rw[QR]
      exact⟨YN.nd,by simp,λb hb c hc z=>nt (by rw[←Py.mp hc,←z];exact hb)⟩
     .by_cases hj:j<ts.length
      .rw[Pn hj] at q1
       rw[Pn (by rw[←YN.len];exact hj)] at q2;exact(YN.tape j b zs q1 q2).mono (λo h1=>by rw[U b (aX h1 Cs) (aX h1 F5)];exact h1) le
      .have wM:j=ts.length:=by
        have:=(Pa.mp q1).1;simp at this;omega
       subst wM
       have e1:b=px:=by simpa using q1.symm
       have e2:zs=[cT C]:=by rw[YN.len] at q2;simpa using q2.symm
       subst e1 e2;exact .inr ⟨C,dx,[],[],aQ,rfl,.nil⟩
    refine⟨λb=>Ey b\/b=px,ts++[px],T1++[[cT C]],[.tp T1.length,.d x0],.none,T2,hcN,.cons ⟨px,by rw[←YN.len];simp,rfl⟩ (.cons (Rep.mono le r1) .nil),by rw[h2];rfl,em,λv H2 s2 YY r2=>?_⟩;cases r2;refine⟨rfl,?_⟩
    have dxn:dx∉ts++[px]:=λz=>by
     rcases Pt.mp z with z|z
     .exact nOd (YN.own _ z)
     .exact CB (Py.mp z)
    have DU:Le Ey H1 (λb=>Ey b\/b=px) H2:=le.trans (hcN.le s2);generalize hE:fr (ρ.set i (KQ (.tp T1.length))) T2=E at e;unfold mR at e;split at e
    .rename_i y ρ3 T3
     split at e
     .rename_i T4 row hT
      have eT:=zwe hT;subst eT;cases e;refine⟨λb=>Ey b\/b=px,H2,[],ts++[px],λb=>Ey b\/b=px,_,T2,_,_,_,⟨YY,λj u ej=>?_,λ_ h=>h,YY.own,.refl _ _,λj xs a ej _=>?_,λj l xs ys v' ej _ _ _=>?_,λf hf=>absurd hf (by simp),by simp[rs.len]⟩,hE,?_⟩
      .by_cases z:i=j
       .subst z
        have hl:i<ρ.length:=by
         have:=(Pa.mp ej).1;simpa using this
        rw[Pm hl] at ej;cases ej;exact⟨.ref px,by rw[Pm (by rw[rs.len];exact hl)],px,by rw[←YN.len];simp,rfl⟩
       .rw[Pj z] at ej
        obtain⟨y',rfl⟩:=jY hp ej;obtain⟨x',k1,k2⟩:=re1 j _ ej;exact⟨x',by rw[Pj z];exact k1,Rep.mono DU k2⟩
      .exfalso
       obtain⟨_,ej⟩:=fj (w:=.tp T1.length) (λ_ z=>by cases z) ej;obtain⟨_,z⟩:=jY hp ej;cases z
      .exfalso
       obtain⟨_,ej⟩:=fj (w:=.tp T1.length) (λ_ z=>by cases z) ej;obtain⟨_,z⟩:=jY hp ej;cases z
      .intro v' H3 s3 ZA r3
       have lb:Le (λb=>Ey b\/b=px) H3 Ey H3:=λa o n e=>⟨λz=>n (.inl z),e⟩
       have Gk:ts.length=T'.length:=by have:=ZA.len;simp at this;exact this
       refine q v' H3 (λb o n eb=>?_) ⟨rs.ots,λb hb=>ZA.trk b (.inl hb),rs.hc.nd,Gk,λj b zs q1 q2=>?_⟩ (Rep.mono lb r3)
       .have xj:=s1 b o n (rs.same b o n eb)
        have z1:b≠px:=aX xj Cs;have z2:b≠dx:=aX xj F5
        have nb:b∉ts++[px]:=λz=>by
         rcases Pt.mp z with z|z
         .exact n z
         .exact z1 (Py.mp z)
        exact s3 b o nb (s2 b o nb (by rw[U b z1 z2];exact xj))
       .have hj:j<ts.length:=(Pa.mp q1).1
        exact(ZA.tape j b zs (by rw[Pn hj];exact q1) (by rw[Pn (by rw[←Gk];exact hj)];exact q2)).mono (λ_ h=>h) lb
     .cases e
    .cases e
   .cases e
 .cases e
end
end D
namespace L2
section
variable {X:Cx}
theorem zwf:∀(l:List (Str×Tok)),YQ ((l.map (·.1)).map V.str) (Yf l)
 |[]=>.nil
 |p::r=>.cons ⟨p.2,rfl⟩ (zwf r)
noncomputable def zgm:BA X "str.split" (λx vs H Q=>∃z y:Str,x=.str z/\vs=[.str y]/\(y.length == 0)=Gy/\z.length+2<=Ph/\∀l,H l=HA->Q (.ref l) (upd H l (.lst ((Sa z y).map V.str)))):=by
 intro pins s σ H x vs v us Q I rx rv h;obtain⟨z,y,rfl,rfl,hy,hz,q⟩:=h;obtain⟨t,rfl⟩:=rx;obtain⟨u,rfl,ru⟩:=vals1 rv;obtain⟨t',rfl⟩:=ru
 have np:(UD z (QX z y 0 z.length (z.length+1)) y.length).length<=sizeLine:=by
  have o1:=StrLaws.occ_length_le z y 0 z.length (z.length+1);rw[length_partsBetween];lia
 have fin:∀(l:List (Str×Tok)) (k:Nat),l.map (·.1)=Sa z y->l.length<=Ph->EP X pins σ Q (.ref s.heap.objs.size) { s with toks:=k,heap:=s.heap.push { cls:=.type "list",data:=.seq (Yf l).toArray } }:=λl k e hl=>by
  have hn:((Sa z y).map V.str).length<=sizeLine:=by rw[←e];simpa using hl
  refine⟨.ref s.heap.objs.size,_,I.laid (t':=k) (λb o w=>Pd _ w) (Pk _) (show Y5 X.prog X.w _ _ _ (.lst ((Sa z y).map V.str)) from⟨hn,Yf l,0,?_,Pw _ rfl⟩),rfl,q _ (I.hok.fresh (Pk _))⟩;rw[←e];exact zwf l
 cases c1:(decide (z.length<y.length)||decide (V3 z<V3 y))
 .cases c2:(QX z y 0 z.length (z.length+1)).isEmpty
  .refine RH Si (Tg _ _ _) S2 (SJ _ _) (meets_str_split_sep z y t t' c1 hy c2 (by lia) np) ?_
   rw[strsFrom_eq];have e:(numbered s.toks _).map (·.1)=Sa z y:=(numbered_texts s.toks _).trans ((if_neg (ne_true_of_eq_false c1)).trans (if_neg (ne_true_of_eq_false c2))).symm;refine fin (numbered s.toks _) _ e ?_;have e2:=congrArg W8 (numbered_texts s.toks (UD z (QX z y 0 z.length (z.length+1)) y.length));rw[PY] at e2;rw[e2];exact np
  .exact RH Si (Tg _ _ _) S2 (SJ _ _) (meets_str_split_not_found z y t t' c1 hy c2) (fin [(z,t)] s.toks ((if_neg (ne_true_of_eq_false c1)).trans (if_pos c2)).symm (by show 1<=Ph;decide))
 .exact RH Si (Tg _ _ _) S2 (SJ _ _) (meets_str_split_cannot_occur z y t t' c1) (fin [(z,t)] s.toks (if_pos c1).symm (by show 1<=Ph;decide))
noncomputable def eqT(y:Str):O9->Bool
 |.str a _=>a == y
 |_=>Gy
theorem zwg:∀{xs:List V}{us:List O9}{i:Nat}{x:V},YQ xs us->xs[i]? = KQ x->∃u,us[i]? = KQ u/\RelV x u
 |_,_,_,_,.nil,e=>by simp at e
 |_,_,0,_,.cons r _,e=>by simp_all
 |_,_,i+1,x,.cons _ t,e=>by
  obtain⟨u,h1,h2⟩:=zwg (i:=i) (x:=x) t (by simpa using e);exact⟨u,by simpa using h1,h2⟩
noncomputable def zgn:BA X "list.index" (λx vs H Q=>∃(a:Addr) (ys:List Str) (y:Str) (j:Nat),x=.ref a/\vs=[.str y]/\Zc X.K H a (ys.map V.str)/\ys[j]? = KQ y/\(∀m,m<j->ys[m]?≠KQ y)/\Q (.int j) H):=by
 intro pins s σ H x vs v us Q I rx rv h;obtain⟨a,ys,y,j,rfl,rfl,hq,hj,Jm,q⟩:=h;cases rx;obtain⟨u,rfl,ru⟩:=vals1 rv;obtain⟨t',rfl⟩:=ru;obtain⟨YL,ZS,pl,hz⟩:=I.list hq
 have Y3:ys.length=YL.length:=by have:=ZS.length;simpa using this
 have at_:∀m (h:m<YL.length),∃t,YL[m]=.str (ys[m]'(by lia)) t:=λm h=>by
  obtain⟨u,k1,k2⟩:=zwg ZS (i:=m) (x:=.str (ys[m]'(by lia))) (by simp);rw[Qg h] at k1;cases k1;exact k2
 have ht:=pl.isList.typeIs;obtain⟨⟨c,d,dt,sl⟩,n,eo,hc,hd,hs⟩:=pl;dsimp only at hc hd hs;subst hc hd hs;have hjl:j<ys.length:=(Pa.mp hj).1;have hjy:ys[j]=y:=(Pa.mp hj).2
 have Ec:(j:Int)<2^63-1:=by
  have h1:j<sizeLine:=PQ hjl (by simpa using hz)
  have h2:(Ph:Int)<=2^63-1:=by decide
  lia
 refine RH US ht PySem.F.entry_list_index (PySem.F.args_list_index_2 _ _) (PySem.SeqAt.list_indexAt a YL.toArray n HA sl (.str y t') (eqT y) j (by simpa[←Y3] using hjl) Ec ?_ λm hm hmj=>?_) ⟨eo,λv hv=>?_,⟨.int j,H,I.tok _,⟨_,rfl⟩,q⟩⟩
 .obtain⟨t,k⟩:=at_ j (by lia)
  show eqT y YL[j]=G3;rw[k,hjy];exact beq_self_eq_true y
 .have hm':m<YL.length:=by simpa using hm
  obtain⟨t,k⟩:=at_ m hm';show eqT y YL[m]=Gy;rw[k];exact beq_false_of_ne λz=>Jm m hmj (by rw[Qg (by lia),z])
 .obtain⟨m,hm,Kj⟩:=TQ (show v∈YL by simpa using hv)
  obtain⟨t,k⟩:=at_ m hm;rw[←Kj,k];exact X3 _ t y t'
end
end L2
namespace D
open L2
section
variable {X:Cx}{pos:Pos}{K:Frag}
noncomputable def ms:OY->OY->Option OY
 |.str z,.str y=>if (y.length == 0)=Gy/\z.length+2<=Ph then KQ (.list ((Sa z y).map .str)) else HA
 |_,_=>HA
noncomputable def zgo(ho:DE X o fo)(he:DE X e fe)
  (Zk:autoParam (QI o "split" X.env (eval o X.env)=eval o X.env) u10)
  (ZI:autoParam (((Qj YO (Pi [e] X.env)).all (λx=>!x.1)&&(RO YO (QQ [] X.env)).all (λx=>x.1.isSome)
   && decide (([e]:List Expr).length+([]:List Rn).length+(if ([]:List Rn).isEmpty then 0 else 1)<30))=G3) u19)
  (Zj:autoParam ((apos.endLine == YO.line)=G3) u10) (Z0:autoParam (Pi [e] X.env=(Gy,eval e X.env)::Pi [] X.env) u13) (Y6:autoParam ((Qj YO (Pi [] X.env)).any (·.1)=Gy) u14) :
  DE X (.Call (.Attribute o "split" apos) [e] [] YO) (ae ms fo fe):=by
 refine⟨?_⟩;refine bi (gn Sf Si PySem.F.type_str_split zgm ho.pe (aV he.pe br Z0) Zk ZI Zj Z0 Y6) λσ H Q=>?_;rintro⟨O,ts,ρ,T,w,T',hc,re,e,q⟩;obtain⟨w1,T1,e1,e⟩:=aG e;obtain⟨w2,T2,e2,e⟩:=aG e;obtain⟨x,y,d,h1,h2,h3,rfl,rfl⟩:=gO e;unfold ms at h3;split at h3
 .rename_i z y
  split at h3
  .rename_i hz
   cases h3;cases zuu h1;refine⟨O,ts,ρ,T,_,T1,hc,re,e1,λv1 H1 s1 YN r1=>?_⟩;cases (show Rep X.K O H1 v1 _ from r1);refine⟨rfl,O,ts,ρ,T1,w2,T',YN,re.mono hc s1,e2,λv2 H2 s2 YY r2=>?_⟩;cases (YY.view r2 h2).str;exact⟨z,y,rfl,rfl,hz.1,hz.2,λl hl=>q _ _ (s1.trans (s2.trans (.new hl _))) (YY.new hl _) (YY.newL hl (qM _))⟩
  .cases h3
 .cases h3
noncomputable def jI(y:Str):List Str->Option Nat
 |[]=>HA
 |x::r=>if x=y then KQ 0 else (jI y r).map (· + 1)
theorem zwh:∀{ys:List Str}{j:Nat},jI y ys=KQ j->ys[j]? = KQ y/\∀m,m<j->ys[m]?≠KQ y
 |[],_,h=>by cases h
 |x::r,j,h=>by
  unfold jI at h;split at h
  .rename_i hx
   cases h;exact⟨by simp[hx],λm hm=>absurd hm (Re _)⟩
  .rename_i hx
   obtain⟨i,h1,rfl⟩:=PV.mp h;obtain⟨k1,k2⟩:=zwh h1;refine⟨by simpa using k1,λm hm=>?_⟩
   cases m with
   |zero=>simpa using hx
   |succ m=>simpa using k2 m (by lia)
noncomputable def uo(xs:List OY)(w:W)(T:Tp):Option (W×Tp):=match w with
 | .d (.str y)=>(match eB xs with
  | some ys=>(match jI y ys with
   |some j=>KQ (.d (.int (j:Int)),T)
   | none=>HA)
  | none=>HA)
 |_=>HA
noncomputable def uq(fo fe:FE):FE:=λρ T=>YS (fo ρ T) λw T1=>match w with
 |.d (.list xs)=>YS (fe ρ T1) (uo xs)
 |_=>HA
noncomputable def zgp(ho:DE X o fo)(he:DE X e fe)
  (Zk:autoParam (QI o "index" X.env (eval o X.env)=eval o X.env) u10)
  (ZI:autoParam (((Qj YO (Pi [e] X.env)).all (λx=>!x.1)&&(RO YO (QQ [] X.env)).all (λx=>x.1.isSome)
   && decide (([e]:List Expr).length+([]:List Rn).length+(if ([]:List Rn).isEmpty then 0 else 1)<30))=G3) u19)
  (Zj:autoParam ((apos.endLine == YO.line)=G3) u10) (Z0:autoParam (Pi [e] X.env=(Gy,eval e X.env)::Pi [] X.env) u13) (Y6:autoParam ((Qj YO (Pi [] X.env)).any (·.1)=Gy) u14) :
  DE X (.Call (.Attribute o "index" apos) [e] [] YO) (uq fo fe):=by
 refine⟨?_⟩;refine bi (gn QZ US PySem.F.type_list_index zgn ho.pe (aV he.pe br Z0) Zk ZI Zj Z0 Y6) λσ H Q=>?_;rintro⟨O,ts,ρ,T,w,T',hc,re,e,q⟩;obtain⟨w1,T1,e1,e⟩:=aG e;split at e
 .rename_i xs
  obtain⟨w2,T2,e2,e⟩:=aG e;refine⟨O,ts,ρ,T,_,T1,hc,re,e1,λv1 H1 s1 YN r1=>?_⟩;obtain⟨a1,vs1,rfl,t1,q1⟩:=(Vw.rep (show Rep X.K O H1 v1 (.list xs) from r1)).lst;refine⟨.inl ⟨rfl,vs1,t1⟩,O,ts,ρ,T1,w2,T2,YN,re.mono hc s1,e2,λv2 H2 s2 YY r2=>?_⟩;have GX:=Rep.mono (YN.le s2) r1;obtain⟨a2,vs2,ea,t2,q2⟩:=(Vw.rep (show Rep X.K O H2 (.ref a1) (.list xs) from GX)).lst;cases ea;unfold uo at e;split at e
  .rename_i y
   split at e
   .rename_i ss hs
    split at e
    .rename_i j h1
     cases e;obtain⟨k1,k2⟩:=zwh h1;rw[lY q2 hs] at t2;cases (show Rep X.K O H2 v2 _ from r2);exact⟨a1,ss,_,j,rfl,rfl,t2,k1,k2,q _ H2 (s1.trans s2) YY (.int _)⟩
    .cases e
   .cases e
  .cases e
 .cases e
noncomputable def Ln:List OY->Option OY
 |[.int i]=>if i.natAbs.log2<1920 then KQ (.str (toString i)) else HA
 |[.str x]=>KQ (.str x)
 |_=>HA
noncomputable def pG(i:Nat)(ρ:YR)(x y:Option OY)(T:Tp):Option ((Fl×YR)×Tp):=match x,y with
 |some (.list xs),KQ (.list ys)=>if xs.length+ys.length<=Ph then KQ ((.nx,ρ.set i (KQ (.loc (.list (xs++ys))))),T) else HA
 |_,_=>HA
noncomputable def jB(i:Nat)(fa fb:FE):FS:=λρ T=>YS (fa ρ T) λw1 T1=>YS (fb ρ T1) λw2 T2=>pG i ρ (view T2 w1) (view T2 w2) T2
noncomputable def zwi(hN:X.N.Nodup)(ha:DE X a fa)(hb:DE X b fb)(hi:autoParam (X.N[i]? = KQ x) u10)(hx:autoParam (Loc X.env.scope x) u18)(hs:autoParam (QF (.BinOp a .Add b Dg) (KQ (.Name x pos')) pos.line X.env=pure Gy) u10)
  (hf:autoParam (X.fn x=G3\/X.env.scope.names.lookup x=KQ .local) u15):DS X (.Assign [.Name x pos'] (.BinOp a .Add b Dg) pos) (jB i fa fb):=by
 refine⟨?_⟩;refine dO (dh hN hi hx (tX zud ha.pe hb.pe) hs hf) λD σ H=>?_;rintro⟨Ey,H₀,F,ts,O,ρ,T,fl,ρ',T',rs,e,q⟩;obtain⟨w1,T1,e1,e⟩:=aG e;obtain⟨w2,T2,e2,e⟩:=aG e;refine⟨O,ts,ρ,T,w1,T1,rs.hc,rs.re,e1,λv1 H1 s1 YN r1=>?_⟩;have Z2:=rs.step s1 YN;refine⟨O,ts,ρ,T1,w2,T2,YN,Z2.re,e2,λv2 H2 s2 YY r2=>?_⟩;have Bu:=Z2.step s2 YY;unfold pG at e;split at e
 .rename_i xs ys h1 h2
  split at e
  .rename_i hz
   cases e;obtain⟨a1,vs,rfl,t1,q1⟩:=(YY.view (r1.mono YN s2) h1).lst;obtain⟨b1,us,rfl,t2,q2⟩:=(YY.view r2 h2).lst;exact⟨a1,b1,vs,us,rfl,rfl,t1,t2,by rw[q1.length,q2.length];exact hz,λp hp=>q _ _ _ (Bu.own hp (q1.append q2))⟩
  .cases e
 .cases e
structure Fz(P:Pu)(w:PU)(K:Frag)(mg:Str->Option O9)(base:Heap)(C:Addr)(ps:List Str)(k:Nat)(sp:Sp):Prop where
 ex:∃f fd,Zr P w K mg base Z7 k f fd ps sp/\L2.Binds K fd ps []/\Mk K C f
noncomputable def qg(K:Frag)(C:Addr):Bool:=Sy K C Str.empty&&S3 K C&&Uv K C&&(match Qv K (.ref C) "__setattr__" with
 |some (KQ (.builtin s))=>s == "object.__setattr__"
 | _=>Gy)
noncomputable def zwj(h:qg K C=G3):Gb K C:=by
 unfold qg at h;rw[Pg,Pg,Pg] at h;obtain⟨⟨⟨h1,h2⟩,h3⟩,h4⟩:=h;refine⟨h1,h2,h3,?_⟩;split at h4
 .simp_all
 .cases h4
noncomputable def Jk(K:Frag)(C:Addr)(f:Str):Bool:=match Qv K (.ref C) f with
 |some HA=>G3
 |_=>Gy
noncomputable def mD(h:Jk K C f=G3):Zl K C f:=by
 unfold Jk at h;split at h
 .rename_i e
  exact e
 .cases h
noncomputable def Fg(K:Frag)(C:Addr):Bool:=Vj K C&&QT K (.ref C)
structure Cb(K:Frag)(C:Addr)(name qual:Str)(st:Stmt):Prop where
 ex:∃(f:Addr) (oc:O9) (od an:Option Addr) (sl:Array (Option O9)) (kV dc pm cd ct:O9),Qv K (.ref C) name=KQ (KQ (.ref f)) /\
  K.lookup f=KQ ⟨oc,od,.func (Qf name qual (df st) (bP st) (aO st) .none kV dc pm an cd ct),sl⟩/\R8 K cd qual=G3/\QT K (.ref f)=G3/\TV K (.ref f)=G3
noncomputable def Jl{K:Frag}{C:Addr}{name qual:Str}{st:Stmt}{f:Addr}{oc:O9}{od an:Option Addr}{sl:Array (Option O9)}{kV dc pm cd ct:O9}(a:Qv K (.ref C) name=KQ (KQ (.ref f)))
  (l:K.lookup f=KQ ⟨oc,od,.func (Qf name qual (df st) (bP st) (aO st) .none kV dc pm an cd ct),sl⟩) (c:R8 K cd qual=G3) (k:QT K (.ref f)=G3) (n:TV K (.ref f)=G3):Cb K C name qual st:=⟨f,oc,od,an,sl,kV,dc,pm,cd,ct,a,l,c,k,n⟩
def Cb.mth{P:Pu}{w:PU}{K:Frag}{mg:Str->Option O9}{base:Heap}{C:Addr}{name qual:Str}{st:Stmt}{ps:List Str}{k:Nat}{sp:Sp}(d:Cb K C name qual st)
  (hb:∀(kV doc pm:O9) (an:Option Addr) (Y9 ct:O9) (us:List O9),us.length=ps.length->SE (Qf name qual (df st) (bP st) (aO st) .none kV doc pm an Y9 ct) ⟨us,[]⟩=pure (ps.zip us))
  (ok:∀f fd,KH K name qual st f fd->Zr P w K mg base Z7 k f fd ps sp):Jj P w K mg base C name ps k sp:=by
 obtain⟨f,oc,od,an,sl,kV,dc,pm,cd,ct,a,l,c,kp,fn⟩:=d.ex;have F:=pd (st:=st) l c kp;exact⟨f,_,ok f _ F,F.binds hb,⟨a,fn,kp⟩⟩
def Cb.ini{P:Pu}{w:PU}{K:Frag}{mg:Str->Option O9}{base:Heap}{C:Addr}{qual:Str}{st:Stmt}{ps:List Str}{k:Nat}{sp:Sp}(d:Cb K C "__init__" qual st)(m:Fg K C=G3)
  (hb:∀(kV doc pm:O9) (an:Option Addr) (Y9 ct:O9) (us:List O9),us.length=ps.length->SE (Qf "__init__" qual (df st) (bP st) (aO st) .none kV doc pm an Y9 ct) ⟨us,[]⟩=pure (ps.zip us))
  (ok:∀f fd,KH K "__init__" qual st f fd->Zr P w K mg base Z7 k f fd ps sp):Fz P w K mg base C ps k sp:=by
 obtain⟨f,oc,od,an,sl,kV,dc,pm,cd,ct,a,l,c,kp,fn⟩:=d.ex;have F:=pd (st:=st) l c kp;unfold Fg at m;rw[Pg] at m;exact⟨f,_,ok f _ F,F.binds hb,⟨m.1,a,fn,m.2⟩⟩
noncomputable def zgq{C:Addr}{e:Expr}{fe:FE}{fr:FS}{rest:List Stmt}{cn x:Str}{p pos' YO:Pos}{ps:List Str}{k i:Nat}{m:YX}(G:Fz X.prog X.w X.K X.mg X.base C ps k (Y1 X.K ps.length m))(hr:YW (k+1) X.A)(hg:Gl X cn)(hm:X.mg cn=KQ (.ref C))(hN:X.N.Nodup)(he:DE X e fe)(CO:GN X rest fr)
  (h2:autoParam (ps.length=2) u10) (hi:autoParam (X.N[i]? = KQ x) u10) (hx:autoParam (Loc X.env.scope x) u18) (ZG:autoParam ((cn == ("__debug__" : Str))=Gy) u11)
  (Z0:autoParam (Pi [e] X.env=(Gy,eval e X.env)::Pi [] X.env) u13) (Zv:autoParam ((Qj YO (Pi [] X.env)).any (·.1)=Gy) u14)
  (hs:autoParam (QF (.Call (.Name cn p) [e] [] YO) (KQ (.Name x pos')) pos.line X.env=pure Gy) u10) (hf:autoParam (X.fn x=G3\/X.env.scope.names.lookup x=KQ .local) u15) :
  GN X (.Assign [.Name x pos'] (.Call (.Name cn p) [e] [] YO) pos::rest) (kR i C m fe fr):=by
 obtain⟨f,fd,F1,F2,M⟩:=G.ex;exact zgl M F1 F2 hr hg hm hN he CO h2 hi hx ZG Z0 Zv hs hf
def TupAt.keep(h:∀b o,H b=KQ o->(∀ks,o≠.dK ks)->(∀ob ks,o≠.frz ob (.dK ks))->H' b=KQ o)(t:TupAt K (λ_=>False) H a vs):TupAt K (λ_=>False) H' a vs:=by
 rcases t with⟨n,t|⟨o,t⟩⟩|t
 .exact .inl ⟨n,.inl (h _ _ t (λ_ z=>nomatch z) (λ_ _ z=>nomatch z))⟩
 .exact .inl ⟨n,.inr ⟨o,h _ _ t (λ_ z=>nomatch z) (λ_ _ z=>nomatch z)⟩⟩
 .exact .inr t
mutual
theorem Rep.keep{H H':Hp}(h:∀b o,H b=KQ o->(∀ks,o≠.dK ks)->(∀ob ks,o≠.frz ob (.dK ks))->H' b=KQ o):∀{v:V}{d:OY},Rep K (λ_=>False) H v d->bj d=G3->Rep K (λ_=>False) H' v d
 |_,_,.non,_=>.non
 |_,_,.bl b,_=>.bl b
 |_,_,.int i,_=>.int i
 |_,_,.str x,_=>.str x
 |_,_,.tup t r,e=>.tup (t.keep h) (YK.keep h r (by simpa[bj] using e))
 |_,_,.lst t r,e=>by simp[bj] at e
 |_,_,.dct n t r,e=>by simp[bj] at e
theorem YK.keep{H H':Hp}(h:∀b o,H b=KQ o->(∀ks,o≠.dK ks)->(∀ob ks,o≠.frz ob (.dK ks))->H' b=KQ o):∀{vs:List V}{ds:List OY},YK K (λ_=>False) H vs ds->bS ds=G3->YK K (λ_=>False) H' vs ds
 |_,_,.nil,_=>.nil
 |_,_,.cons (d:=d) (ds:=ds) r t,e=>by
  have e':(bj d&&bS ds)=G3:=by simpa[bS] using e
  rw[Pg] at e';exact .cons (Rep.keep h r e'.1) (YK.keep h t e'.2)
end
end
noncomputable def AJ(n:Nat):W->Option W
 |.tp k=>if k<n then KQ (.tp k) else HA
 |w=>KQ w
def kW(n:Nat)(ρ:YR):YR:=ρ.map λo=>o.bind (AJ n)
noncomputable def j9(n:Nat)(o:Option ((Fl×YR)×Tp)):Option ((Fl×YR)×Tp):=match o with
 | some ((fl,ρ'),T3)=>(match jz T3 with
  |some (T4,_)=>if T4.length=n then KQ ((fl,kW n ρ'),T4) else HA
  | none=>HA)
 |none=>HA
section
variable {K:Frag}{Ey:Addr->Prop}{H₀:Hp}{F:List ((Addr->Prop)×Hp)}{ts:List Addr}{O:Addr->Prop}{H:Hp}{σ:L2.St}{ρ:YR}{T:Tp}{X:Cx}{pos:Pos}{rest:List Stmt}{fr:FS}
def RS.openR(r:RS K Ey H₀ F ts O H σ ρ T)(hp:H p=HA)(rv:YK K O H vs xs) :
  RS K (λb=>Ey b\/b=p) H₀ F (ts++[p]) (λb=>O b\/b=p) (upd H p (.lst vs)) (σ.set i (KQ (.ref p))) (ρ.set i (KQ (.tp T.length))) (T++[xs]):=by
 have nO:=r.hc.fresh hp;have nt:p∉ts:=λz=>nO (r.hc.own _ z)
 have le:Le O H (λb=>O b\/b=p) (upd H p (.lst vs)):=λa o n e=>by
  have z1:a≠p:=aX e hp;exact⟨λq=>q.elim n z1,by rw[aA z1];exact e⟩
 have hw:∀ys,W.tp T.length≠.loc ys:=λ_ z=>nomatch z
 refine⟨⟨λb hb=>?_,λb hb=>?_,?_,by simp[r.hc.len],λj b zs q1 q2=>?_⟩,λj w e=>?_,λb hb=>hb.elim (λz=>.inl (r.sub b z)) .inr,λb hb=>?_,λb o n e=>?_,λj xs a e1 e2=>?_,λj k xs ys v e1 e2 e3 e4=>?_,λf hf=>(r.frs f hf).trans le,by simp[r.len]⟩
 .rcases Pt.mp hb with z|z
  .exact .inl (r.hc.own b z)
  .exact .inr (Py.mp z)
 .by_cases z:b=p
  .rw[z,aQ];exact .inl ⟨_,rfl⟩
  .rw[aA z];exact r.hc.trk b (hb.resolve_right z)
 .rw[QR]
  exact⟨r.hc.nd,by simp,λb hb c hc z=>nt (by rw[←Py.mp hc,←z];exact hb)⟩
 .by_cases hj:j<ts.length
  .rw[Pn hj] at q1
   rw[Pn (by rw[←r.hc.len];exact hj)] at q2;exact(r.hc.tape j b zs q1 q2).mono (λo h1=>by rw[aA (aX h1 hp)];exact h1) le
  .have wM:j=ts.length:=by
    have:=(Pa.mp q1).1;simp at this;omega
   subst wM
   have e1:b=p:=by simpa using q1.symm
   have e2:zs=xs:=by rw[r.hc.len] at q2;simpa using q2.symm
   subst e1 e2;exact .inl ⟨rv.notO,vs,aQ,rv.mono le⟩
 .by_cases z:i=j
  .subst z
   have hl:i<ρ.length:=by
    have:=(Pa.mp e).1;simpa using this
   rw[Pm hl] at e;cases e;exact⟨.ref p,by rw[Pm (by rw[r.len];exact hl)],p,by rw[←r.hc.len];simp,rfl⟩
  .rw[Pj z] at e
   obtain⟨x,h1,h2⟩:=r.re j w e;refine⟨x,by rw[Pj z];exact h1,?_⟩
   cases w with
   |d y=>exact Rep.mono le h2
   |tp k=>
    obtain⟨a,k1,k2⟩:=h2;exact⟨a,by rw[Pn (Pa.mp k1).1];exact k1,k2⟩
   |loc ys=>
    obtain⟨a,e1,m1,m2,m3⟩:=h2;have na:a≠p:=λz=>nO (z ▸ m1);refine⟨a,e1,.inl m1,λz=>?_,m3.mono (λo' q=>by rw[aA na];exact q) le⟩
    rcases Pt.mp z with z|z
    .exact m2 z
    .exact na (Py.mp z)
 .rcases Pt.mp hb with z|z
  .exact .inl (r.ots b z)
  .exact .inr (Py.mp z)
 .have nb:b∉ts:=λz=>n (P6 _ z)
  have e1:=r.same b o nb e;rw[aA (aX e1 hp)];exact e1
 .obtain⟨n,e⟩:=fj hw e1
  rw[Pj (P3 n)] at e2;obtain⟨f1,f2⟩:=r.fresh j xs a e e2;refine⟨f1,λz=>z.elim f2 λz=>?_⟩;obtain⟨v,h1,a',ea,m1,_⟩:=r.re j _ e;rw[e2] at h1;cases h1;cases ea;exact nO (z ▸ m1)
 .obtain⟨n1,e1⟩:=fj hw e1
  obtain⟨n2,e2⟩:=fj hw e2;rw[Pj (P3 n1)] at e3;rw[Pj (P3 n2)] at e4;exact r.dist j k xs ys v e1 e2 e3 e4
def RS.closeR(ots:∀b∈ts,Ey b)(nt:p∉ts)(h0:H₀ p=HA)(n0:¬Ey p)(r:RS K (λb=>Ey b\/b=p) H₀ F (ts++[p]) O H σ ρ (T++[row])):RS K Ey H₀ F ts O H σ (kW T.length ρ) T:=by
 have Gk:ts.length=T.length:=by have:=r.hc.len;simp at this;exact this
 have at_:∀{j:Nat}{w:W},(kW T.length ρ)[j]? = KQ (KQ w)->ρ[j]? = KQ (KQ w)/\∀k,w=.tp k->k<T.length:=λ{j w} e=>by
  unfold kW at e;rw[P5] at e
  cases hu:ρ[j]? with
  |none=>simp_all
  |some u=>
   cases u with
   |none=>simp_all
   |some u=>
    rw[hu] at e;have e':AJ T.length u=KQ w:=Rw e
    cases u with
    |d x=>cases e';exact⟨rfl,λk z=>nomatch z⟩
    |loc x=>cases e';exact⟨rfl,λk z=>nomatch z⟩
    |tp k=>
     have e2:(if k<T.length then KQ (W.tp k) else HA)=KQ w:=e';split at e2
     .lia
     .cases e2
 refine⟨⟨λb hb=>r.hc.own b (P6 _ hb),r.hc.trk,(QR.mp r.hc.nd).1,Gk,λj b zs q1 q2=>?_⟩,λj w e=>?_,λb hb=>r.sub b (.inl hb),ots,λb o n e=>?_,λj xs a e1 e2=>?_,λj k xs ys v e1 e2 e3 e4=>?_,r.frs,by simp[kW,r.len]⟩
 .have hj:j<ts.length:=(Pa.mp q1).1
  exact r.hc.tape j b zs (by rw[Pn hj];exact q1) (by rw[Pn (by rw[←Gk];exact hj)];exact q2)
 .obtain⟨e1,hk⟩:=at_ e
  obtain⟨v,h1,h2⟩:=r.re j w e1;refine⟨v,h1,?_⟩
  cases w with
  |d x=>exact h2
  |tp k=>
   obtain⟨a,k1,k2⟩:=h2;have:=hk k rfl;exact⟨a,by rw[Pn (by rw[Gk];exact this)] at k1;exact k1,k2⟩
  |loc x=>
   obtain⟨a,k1,k2,k3,k4⟩:=h2;exact⟨a,k1,k2,λz=>k3 (P6 _ z),k4⟩
 .refine r.same b o (λz=>?_) e<;>simp_all
 .obtain⟨f1,f2⟩:=r.fresh j xs a (at_ e1).1 e2
  exact⟨f1,λz=>f2 (.inl z)⟩
 .exact r.dist j k xs ys v (at_ e1).1 (at_ e2).1 e3 e4
def EJ
  (rs:RS X.K Ey H₀ F ts O H σ ρ T) (hp:H p=HA) (rv:YK X.K O H vs xs) (e:j9 T.length (fr (ρ.set i (KQ (.tp T.length))) (T++[xs]))=KQ ((fl,ρ'),T')) (q:AX X.K Ey H₀ F ts D ρ' T' fl):t5 X.K fr D (σ.set i (KQ (.ref p))) (upd H p (.lst vs)):=by
 have nO:=rs.hc.fresh hp;have nt:p∉ts:=λz=>nO (rs.hc.own _ z)
 have h0:H₀ p=HA:=by
  cases e:H₀ p with
  |none=>rfl
  |some o=>rw[rs.same p o nt e] at hp;cases hp
 have n0:¬Ey p:=λz=>nO (rs.sub p z);have Z2:=rs.openR (i:=i) hp rv;generalize hE:fr (ρ.set i (KQ (.tp T.length))) (T++[xs])=E at e;unfold j9 at e;split at e
 .rename_i Cv Ze T3
  split at e
  .rename_i T4 row hT
   split at e
   .rename_i Y3
    have eT:=zwe hT;subst eT;cases e;have lb:∀{G:Hp},Le (λb=>Ey b\/b=p) G Ey G:=λa o n e=>⟨λz=>n (.inl z),e⟩
    have D4:∀{G:Hp}{B:Addr->Prop},HC X.K B (ts++[p]) G (T'++[row])->ts.length=T'.length:=λh=>by have:=h.len;simp at this;exact this
    have GK:∀{G:Hp},YM (ts++[p]) H₀ G->YM ts H₀ G:=λs b o n e=>s b o (λz=>by simp_all) e;refine⟨_,H₀,F,ts++[p],_,_,_,fl,Ze,T'++[row],Z2,hE,?_⟩;have HI:T.length=T'.length:=Y3.symm
    cases fl with
    |nx=>exact λO' σ' H' r=>q O' σ' H' (by rw[HI];exact RS.closeR rs.ots nt h0 n0 r)
    |bk=>exact λO' σ' H' r=>q O' σ' H' (by rw[HI];exact RS.closeR rs.ots nt h0 n0 r)
    |ct=>exact λO' σ' H' r=>q O' σ' H' (by rw[HI];exact RS.closeR rs.ots nt h0 n0 r)
    |rt y=>
     intro v H' s1 c1 r1;refine q v H' (GK s1) ⟨rs.ots,λb hb=>c1.trk b (.inl hb),rs.hc.nd,D4 c1,λj b zs q1 q2=>?_⟩ (Rep.mono lb r1);have hj:j<ts.length:=(Pa.mp q1).1;exact(c1.tape j b zs (by rw[Pn hj];exact q1) (by rw[Pn (by rw[←D4 c1];exact hj)];exact q2)).mono (λ_ h=>h) lb
    |ro y=>
     intro A v H' s1 hA c1 o1;have lb2:Le (λb=>(Ey b\/b=p)\/A b) H' (λb=>Ey b\/A b) H':=λb o n e=>⟨λz=>n (z.elim (λz=>.inl (.inl z)) .inr),e⟩;refine q A v H' (GK s1) (λb hb=>⟨(hA b hb).1,λz=>(hA b hb).2 (.inl z)⟩) ⟨λb hb=>.inl (rs.ots b hb),λb hb=>c1.trk b (hb.elim (λz=>.inl (.inl z)) .inr),rs.hc.nd,D4 c1,λj b zs q1 q2=>?_⟩ (BW.mono lb2 o1);have hj:j<ts.length:=(Pa.mp q1).1;exact(c1.tape j b zs (by rw[Pn hj];exact q1) (by rw[Pn (by rw[←D4 c1];exact hj)];exact q2)).mono (λ_ h=>h) lb2
   .cases e
  .cases e
 .cases e
noncomputable def zgr:BA X "str.join" (λx vs H Q=>∃(z:Str) (l:Addr) (ys:List Str),x=.str z/\vs=[.ref l]/\ZJ X.K H l (ys.map V.str)/\(ys.map (·.length)).sum+ys.length*z.length<=16777216/\Q (.str (PF z ys)) H):=by
 intro pins s σ H x vs v us Q I rx rv h;obtain⟨z,l,ys,rfl,rfl,hq,hz,q⟩:=h;obtain⟨t,rfl⟩:=rx;obtain⟨u,rfl,ru⟩:=vals1 rv;cases ru;obtain⟨YL,ZS,pl,_⟩:=I.tuple hq;refine join_tuple (ys:=ys) pl (by simpa using ztp ZS) hz λt' k=>⟨.str _,H,I.tok _,⟨t',?_⟩,q⟩;show Ua (WF z ys) t'=_;rw[Vr]
noncomputable def zwk(r:ZY K O ts H v w)(h:view T w=KQ (.str z)):v=.str z:=by
 cases w with
 |d x=>cases h;cases (show Rep K O H v _ from r);rfl
 |tp k=>
  have Ii:(T[k]?).bind k6=KQ (QP z):=h
  cases hk:T[k]? with
  |none=>simp_all
  |some xs=>
   simp_all
 |loc zs=>cases zs <;> cases h
noncomputable def pJ:OY->OY->Option OY
 |.str z,.list xs=>match eB xs with
  |some ys=>if (ys.map (·.length)).sum+ys.length*z.length<=16777216 then KQ (.str (PF z ys)) else HA
  |none=>HA
 |.str z,.tuple xs=>match eB xs with
  |some ys=>if (ys.map (·.length)).sum+ys.length*z.length<=16777216 then KQ (.str (PF z ys)) else HA
  |none=>HA
 |_,_=>HA
noncomputable def zgs(ho:DE X o fo)(he:DE X e fe)
  (Zk:autoParam (QI o "join" X.env (eval o X.env)=eval o X.env) u10)
  (ZI:autoParam (((Qj YO (Pi [e] X.env)).all (λx=>!x.1)&&(RO YO (QQ [] X.env)).all (λx=>x.1.isSome)
   && decide (([e]:List Expr).length+([]:List Rn).length+(if ([]:List Rn).isEmpty then 0 else 1)<30))=G3) u19)
  (Zj:autoParam ((apos.endLine == YO.line)=G3) u10) (Z0:autoParam (Pi [e] X.env=(Gy,eval e X.env)::Pi [] X.env) u13) (Y6:autoParam ((Qj YO (Pi [] X.env)).any (·.1)=Gy) u14) :
  DE X (.Call (.Attribute o "join" apos) [e] [] YO) (ae pJ fo fe):=by
 refine⟨?_⟩;refine bi (gn Sf Vs Vt (zwa.or zgr) ho.pe (aV he.pe br Z0) Zk ZI Zj Z0 Y6) λσ H Q=>?_;rintro⟨O,ts,ρ,T,w,T',hc,re,e,q⟩;obtain⟨w1,T1,e1,e⟩:=aG e;obtain⟨w2,T2,e2,e⟩:=aG e;obtain⟨x,y,d,h1,h2,h3,rfl,rfl⟩:=gO e;unfold pJ at h3;refine⟨O,ts,ρ,T,w1,T1,hc,re,e1,λv1 H1 s1 YN r1=>?_⟩;split at h3
 .rename_i z xs
  split at h3
  .rename_i ys hy
   split at h3
   .rename_i hz
    cases h3;have ev:=zwk r1 h1;subst ev;refine⟨rfl,O,ts,ρ,T1,w2,T',YN,re.mono hc s1,e2,λv2 H2 s2 YY r2=>?_⟩;obtain⟨a,vs,rfl,t,r⟩:=(YY.view r2 h2).lst;rw[lY r hy] at t;exact .inl ⟨z,a,ys,rfl,rfl,t,hz,q _ H2 (s1.trans s2) YY (.str _)⟩
   .cases h3
  .cases h3
 .rename_i z xs
  split at h3
  .rename_i ys hy
   split at h3
   .rename_i hz
    cases h3;have ev:=zwk r1 h1;subst ev;refine⟨rfl,O,ts,ρ,T1,w2,T',YN,re.mono hc s1,e2,λv2 H2 s2 YY r2=>?_⟩;obtain⟨a,vs,rfl,t,r⟩:=(YY.view r2 h2).tup;have t:=t.sq;rw[lY r hy] at t;exact .inr ⟨z,a,ys,rfl,rfl,t,hz,q _ H2 (s1.trans s2) YY (.str _)⟩
   .cases h3
  .cases h3
 .cases h3
end
end D
namespace L2
end L2
namespace D
open L2
noncomputable def gj(c:FT)(e:FE)(ρ:YR):List OY->Tp->Option (List OY×Tp)
 |[],T=>KQ ([],T)
 |.tuple [a,b]::r,T=>YS (c (KQ (.d a)::KQ (.d b)::ρ) T) λk T1=>if k=G3 then YS (e (KQ (.d a)::KQ (.d b)::ρ) T1) λw T2=>match w with
   |.d y=>YS (gj c e ρ r T2) λys T3=>KQ (y::ys,T3)
   |_=>HA
  else gj c e ρ r T1
 |_,_=>HA
noncomputable def pq(it:FI)(c:FT)(e:FE):FE:=λρ T=>YS (it ρ T) λds T1=>YS (gj c e ρ ds T1) λys T2=>KQ (.d (.list ys),T2)
def prU:OY->Option (List OY)
 |.tuple [a,b]=>KQ [a,b]
 |_=>HA
theorem gju{c:FT}{e:FE}{ρ:YR}:∀{l:List OY}{T:Tp},gj c e ρ l T=cpU prU c e ρ l T
 |[],_=>rfl
 |d::r,T=>by
  by_cases h:∃a b,d=.tuple [a,b]
  .obtain⟨a,b,rfl⟩:=h;simp only[gj,cpU,prU,gju (l:=r)];rfl
  .have hp:prU d=HA:=by
    unfold prU;split
    .exact absurd ⟨_,_,rfl⟩ h
    .rfl
   rw[cpU,hp];unfold gj;split
   .contradiction
   .rename_i q;cases q;exact absurd ⟨_,_,rfl⟩ h
   .rfl
noncomputable def zgy{K:Frag}{O:Addr->Prop}{ts:List Addr}{H1:Hp}{σ:L2.St}{ρ:YR}{J:It}{c:FT}{e:FE}{ds ys:List OY}{T1 T2:Tp}{Dn:List V->Hp->Prop}(hc:HC K O ts H1 T1)(re:Zu K O ts H1 σ ρ)(ok:Z9 K O H1 J ds)(hz:ds.length<=Ph)
  (ee:gj c e ρ ds T1=KQ (ys,T2)) (q:∀vs H',YM ts H1 H'->HC K O ts H' T2->YK K O H' vs ys->Dn vs H') :
  ∃W:Nat->Nat->List V->Hp->Prop,(∃m,W 0 m [] H1)/\tP 2 (Bh K 2 (ua (pL 0) (ua (pL 1) Bj))) σ J (liftT K c) (lift K e) W Dn:=
 zuU hc re ok hz (λv d ps H EG Q r e h z=>by
  unfold prU at e;split at e
  .cases e
   cases r with
   |@tup a us _ t r=>cases r with
    |@cons v1 _ _ _ ra r=>cases r with
     |@cons v2 _ _ _ rb r=>
      cases r;have z':Q (KQ v1::KQ v2::σ) H:=z [v1,v2] (.cons ra (.cons rb .nil)) rfl
      match EG,h with
      |[_,_],_=>exact⟨a,_,rfl,t.sq,rfl,_,_,rfl,_,_,rfl,rfl,z'⟩
  .cases e) (gju ▸ ee) q
noncomputable def zgz(S:LF osc N [x,y] scope N')(hi:DI X (.Tuple [.Name x px,.Name y py] k tp) iter it)
  (he:∀C s0 H0 ex,DE (dR X [x,y] scope C s0 H0 ex N') elt f) (ht:∀C s0 H0 ex,Eg (dR X [x,y] scope C s0 H0 ex N') ifs c) (hc:autoParam (X.calm=G3) u10) (hs:autoParam (X.env.scope=osc) u10) (hN:autoParam (X.N=N) u10)
  (hf:autoParam (∀v,Qh iter X.env v=pure v) u16):DE X (.ListComp elt [⟨.Tuple [.Name x px,.Name y py] k tp,iter,ifs,0⟩] scope pos) (pq it c f):=by
 refine⟨?_⟩;subst hs hN;have lx:∀C,(Sl scope (bM X.env scope.names []) C X.env).scope.names.lookup x=KQ .local:=λC=>Tq (S.hx x (by simp));have ly:∀C,(Sl scope (bM X.env scope.names []) C X.env).scope.names.lookup y=KQ .local:=λC=>Tq (S.hx y (by simp));refine bi (zgx (xs:=[x,y]) (g:=Bh X.K 2 (ua (pL 0) (ua (pL 1) Bj))) (wi:=AG X.K it) (tt:=liftT X.K c) (te:=lift X.K f) hc S hi.pe (λC s0 H0 ex=>zru (X:=dR X [x,y] scope C s0 H0 ex N') (n:=2) hc (jh (ei S.nd (i:=0) rfl (.inl (lx C)) (.inr (lx C))) (jh (ei S.nd (i:=1) rfl (.inl (ly C)) (.inr (ly C))) sm))) (λC s0 H0 ex=>(he C s0 H0 ex).pe) (λC s0 H0 ex=>(ht C s0 H0 ex).pe) hf) λσ H Q=>?_;rintro⟨O,ts,ρ,T,w,T',hc,re,e,q⟩;obtain⟨ds,T1,e1,e⟩:=aG e;obtain⟨ys,T2,e2,e⟩:=aG e;cases e;refine⟨O,ts,ρ,T,ds,T1,hc,re,e1,λJ H1 s1 YN ok hz=>?_⟩;exact zgy YN (re.mono hc s1) ok hz e2 λvs H' s2 YY r2 p hp=>q _ _ (s1.trans (s2.trans (.new hp _))) (YY.new hp _) (YY.newL hp r2)
noncomputable def zwo{X:Cx}{pins:List (Addr×Obj)}{σ:L2.St}{H:Hp}{s:Pe}{h':Heap}{t':Nat}{fp:List Addr}(I:Inv X pins σ H s)(k:∀b o,b∉fp->s.heap.get? b=KQ o->h'.get? b=KQ o)(hf:∀b∈fp,cY X pins H b):Inv X pins σ H { s with heap:=h',toks:=t' }:=by
 have HE:∀b u,H b=KQ u->b∉fp:=λb u e z=>by rw[(hf b z).1] at e;cases e
 have hL:X.env.locals∉fp:=λz=>(hf _ z).2.1 rfl
 refine I.step (g':=s.gens) (d':=s.drawn) (ch:=fp) (λb hb=>?_) (λb o _ _ hc e _=>k b o hc e) (λb o _ _ hc e _=>⟨o.slots,k b o hc e⟩) (λ_ _ _ _ n=>n)
  (λb o hc e=>⟨o,k b o hc e⟩) (λ_ _ e=>e) (λ_ _ _ e=>e) (λb ps e=>⟨#[],by simp_all⟩) (λm hm=>?_) (λb u e=>?_) I.bare
 .obtain⟨_,f1,_,f3,f4,f5⟩:=hf b hb
  exact⟨f3,f1,f4,f5⟩
 .obtain⟨o,es,ep,ho,r⟩:=hm
  exact⟨o,es,ep,k _ o hL ho,r⟩
 .refine(I.hok b u e).stay (λc v hc q=>k c v ?_ q) (λ_ q=>q) λ_ _ q=>q
  rcases hc with z|z
  .rw[z];exact HE b u e
  .exact HE c _ z
section
variable {X:Cx}{K:Frag}{Ey:Addr->Prop}{H₀:Hp}{F:List ((Addr->Prop)×Hp)}{ts:List Addr}{O A:Addr->Prop}{H H1:Hp}{σ:L2.St}{ρ:YR}{T T1:Tp}
noncomputable def zwp:Lo X "list.insert" (λx vs H Q=>∃(l:Addr) (xs:List V) (i:Int) (k:Nat) (y:V),x=.ref l/\vs=[.int i,y]/\H l=KQ (.lst xs)/\i.toNat=k/\0<=i/\k<=xs.length/\xs.length<=1000/\Q .non (upd H l (.lst (xs.take k++y::xs.drop k)))):=by
 intro pins s σ H x vs v us Q I rx rv h;obtain⟨l,xs,i,k,y,rfl,rfl,hH,hki,hi0,hk,hz,q⟩:=h;cases rx;obtain⟨u,w,rfl,ru,ZS⟩:=vals2 rv;obtain⟨t,rfl⟩:=ru;obtain⟨z,YL,n,r,hl,e⟩:=I.lstM hH
 have hsl:(1001)<=sizeLine:=by decide
 have CI:Sw i=G3:=fitsIndex_both (by omega) (by omega)
 have BY:¬(!Builtin.List.listFitsIndex i)=G3:=by simp_all
 have hsz:YL.toArray.size<=sizeLine:=by simp_all
 refine RH PySem.F.slot_list_insert ⟨_,e,rfl⟩ PySem.F.entry_list_insert (PySem.F.args_list_insert_3 _ _ _) (AutoSeq1.list_insert_list_int_val_1 l _ n i t w BY hsz) ⟨e,?_⟩
 refine⟨.non,_,I.lset  hH e ?_ ((r.take k).append (.cons ZS (r.drop k))) ?_,rfl,q⟩<;>grind
variable {pos:Pos}{e e':Expr}{fe fk:FE}
def RS.widen(r:RS K Ey H₀ F ts O H σ ρ T)(s:YM ts H H1)(hA:∀b,A b->H b=HA/\¬O b)(c:HC K (λb=>O b\/A b) ts H1 T1):RS K Ey H₀ F ts (λb=>O b\/A b) H1 σ ρ T1:=by
 have le:Le O H (λb=>O b\/A b) H1:=λa o n e=>⟨λz=>z.elim n λz=>(by simp_all),s a o (λz=>n (r.hc.own a z)) e⟩;refine⟨c,λi w e=>?_,λb hb=>.inl (r.sub b hb),r.ots,r.same.trans s,r.fresh,r.dist,λf hf=>(r.frs f hf).trans le,r.len⟩;obtain⟨v,h1,h2⟩:=r.re i w e;refine⟨v,h1,?_⟩
 cases w with
 |d x=>exact Rep.mono le h2
 |tp k=>exact h2
 |loc ys=>
  obtain⟨a,ea,m1,m2,m3⟩:=h2;exact⟨a,ea,.inl m1,m2,m3.mono (λo q=>s _ _ m2 q) le⟩
def RS.hold(r:RS K Ey H₀ F ts O H σ ρ T)(ha:O a)(nt:a∉ts)(hf:H₀ a=HA/\¬Ey a)(nh:∀(j:Nat) (ys:OY),ρ[j]? = KQ (KQ (W.loc ys))->σ[j]? = KQ (KQ (V.ref a))->False)(rv:Zz K O H a xs) :
  RS K Ey H₀ F ts O H (σ.set i (KQ (.ref a))) (ρ.set i (KQ (.loc xs))) T:=by
 refine⟨r.hc,λj w e=>?_,r.sub,r.ots,r.same,λj ys b e1 e2=>?_,λj k ys zs v e1 e2 e3 e4=>?_,r.frs,by simp[r.len]⟩
 .by_cases z:i=j
  .subst z
   have hl:i<ρ.length:=by
    have:=(Pa.mp e).1;simpa using this
   rw[Pm hl] at e;cases e;exact⟨.ref a,by rw[Pm (by rw[r.len];exact hl)],a,rfl,ha,nt,rv⟩
  .rw[Pj z] at e
   obtain⟨x,h1,h2⟩:=r.re j w e;exact⟨x,by simp_all,h2⟩
 .by_cases z:i=j
  .subst z
   have hl:i<ρ.length:=by
    have:=(Pa.mp e1).1;simpa using this
   rw[Pm (by rw[r.len];exact hl)] at e2;cases e2;exact hf
  .rw[Pj z] at e1 e2
   exact r.fresh j ys b e1 e2
 .by_cases z:i=j
  .by_cases z':i=k
   .rw[←z,←z']
   .exfalso
    subst z
    have hl:i<ρ.length:=by
     have:=(Pa.mp e1).1;simpa using this
    rw[Pm (by rw[r.len];exact hl)] at e3;cases e3;rw[Pj z'] at e2 e4;exact nh k zs e2 e4
  .by_cases z':i=k
   .exfalso
    subst z'
    have hl:i<ρ.length:=by
     have:=(Pa.mp e2).1;simpa using this
    rw[Pm (by rw[r.len];exact hl)] at e4;cases e4;rw[Pj z] at e1 e3;exact nh j ys e1 e3
   .rw[Pj z] at e1 e3
    rw[Pj z'] at e2 e4;exact r.dist j k ys zs v e1 e2 e3 e4
def RS.keep(r:RS K Ey H₀ F ts O H σ ρ T)(hA:∀b,A b->O b):HC K (λb=>Ey b\/A b) ts H T/\Le O H (λb=>Ey b\/A b) H:=by
 have le:Le O H (λb=>Ey b\/A b) H:=λa o n e=>⟨λz=>n (z.elim (r.sub a) (hA a)),e⟩;exact⟨⟨λb hb=>.inl (r.ots b hb),λb hb=>r.hc.trk b (hb.elim (r.sub b) (hA b)),r.hc.nd,r.hc.len,λi a xs e1 e2=>(r.hc.tape i a xs e1 e2).mono (λ_ h=>h) le⟩,le⟩
end
noncomputable def pf(o:Option ((Fl×YR)×Tp)):Option (OY×Tp):=YS o λp T=>match p with
 |(.ro x,_)=>KQ (x,T)
 |_=>HA
noncomputable def kJ(N:Nat)(f:FS):YX:=λws T=>if eC ws=G3 then pf (f (ws.map KQ++Pp (N-ws.length) HA) T) else HA
inductive CL(K:Frag)(n:Nat)(m:YX)(vs:List V)(H:Hp)(Q:VK):Prop where
 |mk (O:Addr->Prop) (ts:List Addr) (T:Tp) (ws:List W) (x:OY) (T':Tp) (hc:HC K O ts H T) (r:gZ K O ts H vs ws) (hl:ws.length=n) (e:m ws T=KQ (x,T'))
  (q:∀(A:Addr->Prop) v H',YM ts H H'->(∀b,A b->H b=HA/\¬O b)->HC K (λb=>O b\/A b) ts H' T'->BW K (λb=>O b\/A b) A H' v x->Q v H'):CL K n m vs H Q
noncomputable def Fj(K:Frag)(n:Nat)(m:YX):Sp:=λvs H Q _=>CL K n m vs H Q
noncomputable def zha{P:Pu}{w:PU}{K:Frag}{mg:Str->Option O9}{base:Heap}{x qual:Str}{st:Stmt}{f:Addr}{fd:RG}{N ps:List Str}{k:Nat}{m:FS}(F:KH K x qual st f fd)(S:Y2 N ps (aO st))
  (Zw:∀(Y9:O9) (A:Qa) (outer:List Env) (s:Pe) (H:Hp) (E:XK),YW k (A.deeper (S4 qual (aO st) s.heap.objs.size f Y9))->GN (ef Z7 P w K mg base N qual (aO st) f Y9 A outer s H E).nox (bP st) m) :
  Zr P w K mg base Z7 (k+1) f fd ps (Fj K ps.length (kJ N.length m)):=by
 refine F.ok S (λvs H Q E h=>?_) (λY9 A outer s H vs Q E hr h=>⟨_,(Zw Y9 A _ s H E hr).pe,?_⟩)
 .obtain⟨O,ts,T,ws,x,T',hc,ZS,hl,_⟩:=h
  rw[←hl];exact Rl ZS
 obtain⟨O,ts,T,ws,x,T',hc,ZS,hl,e,q⟩:=h;unfold kJ at e;split at e
 .rename_i hn
  obtain⟨⟨fl,ρ'⟩,T1,e1,e⟩:=aG e;have Y3:=Rl ZS;have IF:∀{i:Nat}{xs:OY},(ws.map KQ++Pp (N.length-ws.length) HA)[i]? = KQ (KQ (W.loc xs))->False:=λ{i xs} e=>nP hn (Px (nM e));refine⟨O,H,[],ts,O,_,T,fl,ρ',T1,⟨hc,λi u e=>?_,λ_ h=>h,hc.own,.refl _ _,λi xs a e1 _=>(IF e1).elim,λi j xs ys v e1 _ _ _=>(IF e1).elim,λf hf=>absurd hf (by simp),by simp[L2.start,Y3]⟩,e1,?_⟩
  .obtain⟨v,h1,h2⟩:=qL ZS (nM e)
   refine⟨v,?_,h2⟩;unfold L2.start;have hi:=(Pa.mp h1).1;rw[Pn (by simpa using hi),P5,h1];rfl
  .cases fl with
   |ro y=>cases e;exact q
   |_=>cases e
 .cases e
section
variable {X:Cx}
noncomputable def Iq(l:List (Str×OY)):Bool:=decide ((l.map (·.1)).Nodup)&&decide (l.length<=15)
end
noncomputable def oR(i:Nat)(fr:FS)(ρ:YR)(x:OY)(T:Tp):Option ((Fl×YR)×Tp):=match x with
 |.list xs=>j9 T.length (fr (ρ.set i (KQ (.tp T.length))) (T++[xs]))
 |_=>HA
noncomputable def pj(i:Nat)(m:YX)(g:FA)(fr:FS):FS:=λρ T=>YS (g ρ T) λws T1=>YS (m ws T1) (oR i fr ρ)
noncomputable def zhb(h:oR i fr ρ x T=KQ r):∃xs,x=.list xs/\j9 T.length (fr (ρ.set i (KQ (.tp T.length))) (T++[xs]))=KQ r:=by
 cases x with
 |list xs=>exact⟨xs,rfl,h⟩
 |_=>cases h
section
variable {X:Cx}{pos:Pos}{rest:List Stmt}{fr:FS}
noncomputable def zhc(F:Fn X.prog X.w X.K X.mg X.base name ps kk (Fj X.K ps.length m))(hr:YW kk X.A)(hg:Gl X name)(hN:X.N.Nodup)(ha:DA X (e::es) g)(hl:fO g ps.length)(CO:GN X rest fr)(ZG:autoParam ((name == ("__debug__" : Str))=Gy) u11)
  (he:autoParam (Pi (e::es) X.env=(Gy,eval e X.env)::Pi es X.env) u13) (Zv:autoParam ((Qj YO (Pi es X.env)).any (·.1)=Gy) u14) (hi:autoParam (X.N[i]? = KQ x) u10) (hx:autoParam (Loc X.env.scope x) u18)
  (hs:autoParam (QF (.Call (.Name name p) (e::es) [] YO) (KQ (.Name x pos')) pos.line X.env=pure Gy) u10) (hf:autoParam (X.fn x=G3\/X.env.scope.names.lookup x=KQ .local) u15) :
  GN X (.Assign [.Name x pos'] (.Call (.Name name p) (e::es) [] YO) pos::rest) (pj i m g fr):=by
 refine⟨?_⟩;refine ou (bJ (dh hN hi hx (gm F hr hg ha.pe ZG he Zv) hs hf) CO.pe) λD σ H=>?_;rintro⟨Ey,H₀,F,ts,O,ρ,T,fl,ρ',T',rs,e,q⟩;obtain⟨ws,T1,e1,e⟩:=aG e;obtain⟨x0,T2,e2,e⟩:=aG e;obtain⟨xs,rfl,e⟩:=zhb e;refine⟨O,ts,ρ,T,ws,T1,rs.hc,rs.re,e1,λvs H1 s1 YN r1=>?_⟩;have Z2:=rs.step s1 YN;refine⟨O,ts,T1,ws,_,_,YN,by simp_all,hl _ _ _ _ e1,e2,λA v H2 s2 hA YY ov=>?_⟩;obtain⟨a,rfl,Hv,us,k1,k2⟩:=ov;have EE:=hA a ((Hv a).mpr rfl);have Ce:a∉ts:=λz=>EE.2 (YN.own a z)
 let H3:Hp:=λb=>if b=a then HA else H2 b
 have h3:∀{b:Addr},b≠a->H3 b=H2 b:=λn=>if_neg n;have ha3:H3 a=HA:=if_pos rfl
 have eH:upd H3 a (.lst us)=H2:=funext λb=>by
  by_cases z:b=a
  .subst z;rw[aQ];exact k1.symm
  .rw[aA z];exact h3 z
 have le:Le (λb=>O b\/A b) H2 O H3:=λb o n z=>⟨λy=>n (.inl y),by simp_all⟩
 have s3:YM ts H1 H3:=λb o n z=>by
  have nb:b≠a:=λy=>by rw[y,EE.1] at z;cases z
  rw[h3 nb];exact s2 b o n z
 have c3:HC X.K O ts H3 T2:=⟨YN.own,λb hb=>by
   have nb:b≠a:=λy=>EE.2 (y ▸ hb);rw[h3 nb]
   exact YY.trk b (.inl hb),YY.nd,YY.len,λj b ys q1 q2=>(YY.tape j b ys q1 q2).mono (λo h=>by rw[h3 (show b≠a from λy=>Ce (by rw[←y];exact Px q1))];exact h) le⟩
 have:=EJ (X:=X) (Z2.step s3 c3) ha3 (k2.mono le) e q;rw[eH] at this;exact this
end
end D
namespace XE
open L2
def TB(T:Addr)(fl:O9)(h:Heap):Prop:=∃oT ts,h.get? T=KQ oT/\oT.data=.fields ts/\ts[3]? = KQ fl
end XE
namespace XE
open L2
section
variable {X:Cx}{pins:List (Addr×Obj)}{σ:L2.St}{H:Hp}{s:Pe}
theorem zhd{A:Qa}:(A.mark v).frames=A.frames:=rfl
end
end XE
namespace D
open L2
noncomputable def tN(n:Nat)(o:Option (OY×Tp)):Option (W×Tp):=match o with
 |some (y,T)=>if T.length=n+1 then KQ (.d y,T.take n) else HA
 |none=>HA
noncomputable def mz(mf:YX)(xs:List OY)(ws:List W)(T:Tp):Option (W×Tp):=if eC ws=G3 then tN T.length (mf (.tp T.length::ws) (T++[xs])) else HA
noncomputable def oS(mf:YX)(g:FA)(ρ:YR)(x:OY)(T:Tp):Option (W×Tp):=match x with
 |.list xs=>YS (g ρ T) (mz mf xs)
 |_=>HA
noncomputable def tI(mf mh:YX)(g1 g2:FA):FE:=λρ T=>YS (g1 ρ T) λws T1=>YS (mh ws T1) (oS mf g2 ρ)
noncomputable def zhe(h:oS mf g ρ x T=KQ (w,T')):∃xs ws T3 y T5,x=.list xs/\g ρ T=KQ (ws,T3)/\eC ws=G3/\mf (.tp T3.length::ws) (T3++[xs])=KQ (y,T5)/\T5.length=T3.length+1/\w=.d y/\T'=T5.take T3.length:=by
 cases x with
 |list xs=>
  obtain⟨ws,T3,e1,e⟩:=aG (show YS (g ρ T) (mz mf xs)=_ from h);unfold mz at e;split at e
  .rename_i hn
   unfold tN at e;split at e
   .rename_i y T5 e2
    split at e
    .rename_i hl
     cases e;exact⟨xs,ws,T3,y,T5,rfl,e1,hn,e2,hl,rfl,rfl⟩
    .cases e
   .cases e
  .cases e
 |_=>cases h
section
variable {X:Cx}{prog:Pu}{w:PU}{A:Qa}{E:O9->Pe->Prop}{pos:Pos}{e:Expr}{fe:FE}
noncomputable def zhf(Ff:Fn X.prog X.w X.K X.mg X.base GC ps kf (Y1 X.K ps.length mf))(Fh:Fn X.prog X.w X.K X.mg X.base Kh qs kh (Fj X.K qs.length mh))(hrf:YW kf X.A)(hrh:YW kh X.A)(hgf:Gl X GC)(hgh:Gl X Kh)
  (ha:DA X (a::as) g1) (B7:fO g1 qs.length) (he:DA X es g2) (EU:fO (ab (fC .none) g2) ps.length) (Kv:autoParam ((GC == ("__debug__" : Str))=Gy) u11) (hdh:autoParam ((Kh == ("__debug__" : Str))=Gy) u11)
  (Ay:autoParam (Pi (a::as) X.env=(Gy,eval a X.env)::Pi as X.env) u13) (wC:autoParam ((Qj c2 (Pi as X.env)).any (·.1)=Gy) u14)
  (hsf:autoParam (Pi (.Call (.Name Kh p2) (a::as) [] c2::es) X.env=(Gy,eval (.Call (.Name Kh p2) (a::as) [] c2) X.env)::Pi es X.env) u13) (Ah:autoParam ((Qj YO (Pi es X.env)).any (·.1)=Gy) u14) :
  DE X (.Call (.Name GC p) (.Call (.Name Kh p2) (a::as) [] c2::es) [] YO) (tI mf mh g1 g2):=by
 refine⟨?_⟩;refine bi (gm Ff hrf hgf (aV (gm Fh hrh hgh ha.pe hdh Ay wC) he.pe hsf) Kv hsf Ah) λσ H Q=>?_;rintro⟨O,ts,ρ,T,w,T',hc,re,e,q⟩;obtain⟨ws,T1,e1,e⟩:=aG e;obtain⟨x,T2,e2,e⟩:=aG e;obtain⟨xs,HM,T3,y,T5,rfl,e3,Jm,e4,Y3,rfl,rfl⟩:=zhe e;refine⟨O,ts,ρ,T,ws,T1,hc,re,e1,λvs H1 s1 YN r1=>?_⟩;refine⟨O,ts,T1,ws,_,_,YN,by simp_all,B7 _ _ _ _ e1,e2,λA v H2 s2 hA YY ov=>?_⟩;obtain⟨b,rfl,Hv,us,k1,k2⟩:=ov;have hAb:=hA b ((Hv b).mpr rfl);have ntb:b∉ts:=λz=>hAb.2 (YN.own b z);have DU:Le O H1 (λc=>O c\/A c) H2:=λc o n z=>⟨λy=>y.elim n λy=>(by simp_all),s2 c o (λy=>n (YN.own c y)) z⟩
 have Dl:Zu X.K (λc=>O c\/A c) ts H2 σ ρ:=λi w e=>by
  obtain⟨v,h1,h2⟩:=(re.mono hc s1) i w e;refine⟨v,h1,?_⟩
  cases w with
  |d x=>exact Rep.mono DU h2
  |tp k=>exact h2
  |loc ys=>
   obtain⟨a',ea,m1,m2,m3⟩:=h2;exact⟨a',ea,.inl m1,m2,m3.mono (λo q=>s2 _ _ m2 q) DU⟩
 refine⟨_,ts,ρ,T2,HM,T3,YY,Dl,e3,λvs2 H3 s3 ZA r3=>?_⟩;have kb3:H3 b=KQ (.lst us):=s3 b _ ntb k1;have Hc:=k2.mono (YY.le s3);have Fb:ts.length=T3.length:=ZA.len
 have FX:HC X.K (λc=>O c\/A c) (ts++[b]) H3 (T3++[xs]):=by
  refine⟨λc E8=>?_,ZA.trk,?_,by simp[Fb],λi c ys q1 q2=>?_⟩
  .rcases Pt.mp E8 with z|z
   .exact ZA.own c z
   .rw[Py.mp z];exact .inr ((Hv b).mpr rfl)
  .exact QR.mpr ⟨ZA.nd,by simp,λc E8 d hd z=>ntb (by rw[←Py.mp hd,←z];exact E8)⟩
  .by_cases hi:i<ts.length
   .rw[Pn hi] at q1
    rw[Pn (by lia)] at q2;exact ZA.tape i c ys q1 q2
   .have D8:i=ts.length:=by
     have:=(Pa.mp q1).1;simp at this
     lia
    subst D8;rw[Qc (Pk _)] at q1;rw[Qc (by lia)] at q2;simp[Fb] at q1 q2;subst q1 q2;exact .inl ⟨Hc.notO,us,kb3,Hc⟩
 have rw4:gZ X.K (λc=>O c\/A c) (ts++[b]) H3 (.ref b::vs2) (.tp T3.length::HM):=by
  refine .cons ⟨b,by rw[Qc (by lia)];simp[Fb],rfl⟩ ?_;clear e4 Y3 q e3
  induction r3 with
  |nil=>exact .nil
  |@cons v w vs ws h t ih=>
   cases w with
   |d x=>exact .cons h (ih Jm)
   |tp i=>
    obtain⟨c,h1,h2⟩:=h;exact .cons ⟨c,by rw[Pn (Pa.mp h1).1];exact h1,h2⟩ (ih Jm)
   |loc _=>cases Jm
 have hlw:(W.tp T3.length::HM).length=ps.length:=by
  have:=EU ρ T2 (.d .none::HM) T3 (by show YS (KQ (W.d .none,T2)) _=_;rw[zer,e3];rfl);simpa using this
 refine⟨_,ts++[b],T3++[xs],.tp T3.length::HM,y,T5,FX,by rw[QJ];exact rw4,hlw,e4,λv H4 s4 CF r5=>?_⟩;have le5:Le (λc=>O c\/A c) H4 O H4:=λc o n z=>⟨λy=>n (.inl y),z⟩;refine q v H4 (λc o n z=>?_) ⟨hc.own,λc E8=>CF.trk c (.inl E8),hc.nd,?_,λi c ys q1 q2=>?_⟩ (Rep.mono le5 r5)
 .have h1:=s1 c o n z
  have nb:c≠b:=λy=>by rw[y,hAb.1] at h1;cases h1
  refine s4 c o (λy=>?_) (s3 c o n (s2 c o n h1))
  rcases Pt.mp y with z|z
  .exact n z
  .exact nb (Py.mp z)
 .rw[RC,Y3,Fb]
  lia
 .have hi:i<ts.length:=(Pa.mp q1).1
  rw[SG (by lia)] at q2;exact(CF.tape i c ys (by rw[Pn hi];exact q1) q2).mono (λ_ h=>h) le5
theorem zwq(CB:t≠it):∀(n i:Nat) (s:Pe) (Q:List O9->Pe->Prop),s.heap.IsListIter it t i->s.heap.IsList t items->i+n<=items.size ->
  (∀h',h'.IsListIter it t (i+n)->Q2 it s.heap h'->Q ((items.toList.drop i).take n) { s with heap:=h' })->PK (PP prog w) A (draw (.ref it) n) Q E s
 |0,i,s,Q,hit,_,_,hQ=>by
  show PK _ _ (pure []) Q E s;exact Pl (by simpa using hQ s.heap hit (WA ..))
 |n+1,i,s,Q,hit,ht,hle,hQ=>by
  have ZM:i<items.size:=by omega
  show PK _ _ (Wf (.ref it) >>= _) Q E s;refine Pb (UY hit ht (x:=items[i]) (by simp[ZM]) λCt HL CP=>?_);refine Pb (RY (zwq CB n (i+1) _ _ HL (ht.extBut CP.extBut CB) (by omega) λDv GZ C4=>Pl ?_))
  have hd:items.toList.drop i=items[i]::items.toList.drop (i+1):=by simp[QM,ZM]
  have:=hQ Dv (by rw[show i+(n+1)=i+1+n by omega];exact GZ) (CP.trans C4);rw[hd,List.take_succ_cons] at this;exact this
noncomputable def zhg(hh:A.handled=HA)(ht:s.heap.IsList t items)
  (hQ:∀h',Uz s.heap.objs.size s.heap h'->Q items.toList { s with heap:=h' }):PK (PP prog w) A (unpackItems (.ref t) items.size HA) Q E s:=by
 have ZM:t≠s.heap.objs.size:=by obtain⟨o,ho,_⟩:=ht;exact PM (Pq ho)
 unfold unpackItems;refine Pb ?_
 .unfold notIterableAtAll
  refine Pb (SN ht.typeIs slot_list_iter.lookup ?_);refine Pl ?_;simp only[QD,if_false];refine Pb (RY (Sq ht ?_));refine Pb (RY (zwq ZM items.size 0 _ _ ⟨_,Pw _ rfl,rfl,rfl⟩ (ht.push _) (by omega) λCt HL CP=>?_))
  have Kn:List.take items.size (Yg 0 items.toList)=items.toList:=by
   rw[List.drop_zero];exact Qq (by simp)
  rw[Kn];rw[if_neg (by simp)];have Co:Ct.IsList t items:=(ht.push _).extBut CP.extBut ZM;refine Pb (RY (Vp hh HL Co (by simp) λDv Cn=>?_));simp only[Option.isSome_none,QD,if_false];refine Pl (hQ Dv λb o hb e=>Cn b o hb (CP.extBut b o hb (Pd _ e)))
noncomputable def zhh{x1}(hh:A.handled=HA)(ht:s.heap.IsList t items)
  (hn:(RV Hu env).length=items.size) (DR:(RV Hu env).findIdx? (·.1)=HA)
  (h:∀h',Uz s.heap.objs.size s.heap h'->PK (PP prog w) A (assignInOrder ((RV Hu env).map (·.2)) items.toList) Q E { s with heap:=h' }) :
  PK (PP prog w) A (We (.Tuple Hu x1 pos) env (.ref t)) Q E s:=by
 rw[assign_Tuple];refine Pb (V8 ?_);unfold unpack;rw[hn,DR];exact Pb (RY (zhg hh ht h))
noncomputable def LA(K:Frag)(n:Nat)(t:EH):TG:=λv σ H Q=>∃a xs,v=.ref a/\Zc K H a xs/\xs.length=n/\t xs σ H Q
noncomputable def zhi(hc:X.calm=G3)(h:K5 X es t)
  (hn:autoParam ((RV es X.env).length=n) u10) (KY:autoParam ((RV es X.env).findIdx? (·.1)=HA) u10):PG X (.Tuple es k pos) (LA X.K n t):=by
 intro pins s σ H v u Q I r hw;obtain⟨a,xs,e1,hq,hl,hw⟩:=hw;subst e1;cases r;obtain⟨YL,rv,ht,hz⟩:=I.list hq;refine zhh (I.ok.hd hc) ht.isList (by simp[hn,←hl,rv.length]) KY λh' hx=>?_;have I1:Inv X pins σ H { s with heap:=h' }:=I.kept (t':=s.toks) λb o e=>hx b o (PM (Pq e)) e;exact h pins _ σ H xs _ Q I1 (by simpa using rv) hw
noncomputable def zhj:Lo X "list.pop" (λx vs H Q=>∃(l:Addr) (xs:List V) (i:Int) (k:Nat) (y:V),x=.ref l/\vs=[.int i]/\H l=KQ (.lst xs)/\i=k/\xs[k]? = KQ y/\xs.length<=1000/\Q y (upd H l (.lst (xs.eraseIdx k)))):=by
 intro pins s σ H x vs v us Q I rx rv h;obtain⟨l,xs,i,k,y,rfl,rfl,hH,hik,hy,hz,q⟩:=h;cases rx;obtain⟨u,rfl,ru⟩:=rv.one;obtain⟨t,rfl⟩:=ru;obtain⟨z,YL,n,r,hl,e⟩:=I.lstM hH
 have hsl:(1001:Nat)<=sizeLine:=by decide
 obtain⟨u,hu,ru⟩:=r.get hy;have hk:k<YL.length:=(Pa.mp hu).1;have CI:Sw i=G3:=fitsIndex_both (by lia) (by lia)
 have hsi:WV i YL.toArray.size=KQ k:=by
  have h0:¬(i<0):=by lia
  unfold WV;rw[if_neg h0];simp[hk,hik]
 have z8:YL.toArray[k]? = KQ u:=by simpa using hu
 have Ec:YL.toArray.size<=sizeLine:=by simp_all
 clear hsl hz
 have er:YQ (xs.eraseIdx k) (YL.eraseIdx k):=by
  rw[Tc,Tc];exact(r.take k).append (r.drop (k+1))
 refine RH F.slot_list_pop ⟨_,e,rfl⟩ F.entry_list_pop (F.args_list_pop_2 _ _) (Xv l YL.toArray n i t k u CI hsi z8 Ec) ⟨e,?_⟩;refine⟨y,_,I.lset  hH e ?_ er ?_,ru,q⟩
 simp_all
 .exact PB (List.length_eraseIdx_le xs k) (by simp_all)
noncomputable def zhk(l:Addr)(items:Array O9)(n:Nat)(dd:Option Addr)(sl:Array (Option O9))(x:Int)(u:Tok)(wW:¬(!Builtin.List.listFitsIndex x)=G3)(YN:¬items.size*x.toNat>(2^63-1) / 8)(YY:¬QE (items.size*x.toNat)=G3) :
  Yz (WD.«list.__mul__» ⟨[.ref l,.int x u],[]⟩) (λ_ R s=>s.heap.get? l=KQ { cls:=.type "list",dict:=dd,data:=.seq items n,slots:=sl }/\R (.ok (.ret (P4 s.heap.objs.size))) { s with heap:=s.heap.push { cls:=Tf "list",data:=Yy (SS (λx1 x2=>x1++x2) #[] (Pp (if items.isEmpty=G3 then 0 else x.toNat) items)) },toks:=s.toks }):=
 .of_wp λprog w A R s h=>by
  obtain⟨hp,g,d,tk,os⟩:=s;obtain⟨hl,h⟩:=h;have f1:=W0;have f2:=UC;have f3:=Vd;have f4:=UQ;have f5:=UR;have hsz:=Xl YY;wp_walk using Tz hl;refine wpAny_ite_false (decide_eq_false (Nat.not_lt.mpr hsz)) ?_;wp_walk using Tz hl;exact⟨_,rfl,h⟩
noncomputable def zhl(a:Int)(t:Tok)(l:Addr)(items:Array O9)(n:Nat)(dd:Option Addr)(sl:Array (Option O9)) :
  Yz (WD.«int.__rmul__» ⟨[.int a t,.ref l],[]⟩) (λ_ R s=>s.heap.get? l=KQ { cls:=.type "list",dict:=dd,data:=.seq items n,slots:=sl }/\R (.ok (.ret VL)) s):=.of_wp λprog w A R s h=>by obtain⟨hp,g,d,tk,os⟩:=s;obtain⟨hl,h⟩:=h;wp_walk;exact⟨_,rfl,h⟩
noncomputable def oQ(ρ:YR)(T:Tp)(o:Option (Option W)):Option ((Fl×YR)×Tp):=match o with
 |some (KQ (.loc (.list xs)))=>KQ ((.ro (.list xs),ρ),T)
 |_=>HA
def gc(i:Nat):FS:=λρ T=>oQ ρ T ρ[i]?
noncomputable def zwr(hN:autoParam (X.N[i]? = KQ x) u10)(hv:autoParam (BS X.env.scope x) u20)(hd:autoParam ((x == ("__debug__" : Str))=Gy) u11)(hcd:autoParam ((x == ("__classdict__" : Str))=Gy) u11) :
  DS X (.Return (KQ (.Name x p)) pos) (gc i):=by
 refine⟨?_⟩;refine dO (fw (pv i hN hv hd hcd)) λD σ H=>?_;rintro⟨Ey,H₀,F,ts,O,ρ,T,fl,ρ',T',rs,e,q⟩;unfold gc oQ at e;split at e
 .rename_i xs h1
  cases e;obtain⟨v,k1,a,rfl,k2,k3,vs,k4,k5⟩:=rs.re i _ h1
  obtain⟨c,le⟩:=rs.keep (A:=λc=>c=a) λc hc=>by simp_all
  exact⟨_,k1,q (λc=>c=a) (.ref a) H rs.same (λc hc=>by rw[hc];exact rs.fresh i _ a h1 k1) c ⟨a,rfl,λ_=>Iff.rfl,vs,k4,k5.mono le⟩⟩
 .cases e
noncomputable def zq(i:Nat)(ρ:YR)(x:OY)(T:Tp):Option ((Fl×YR)×Tp):=match x with
 |.list xs=>KQ ((.nx,ρ.set i (KQ (.loc (.list xs)))),T)
 |.none=>KQ ((.nx,ρ.set i (KQ (.d .none))),T)
 |_=>HA
noncomputable def ph(i:Nat)(m:YX)(g:FA):FS:=λρ T=>YS (g ρ T) λws T1=>YS (m ws T1) (zq i ρ)
noncomputable def zhm(F:Fn X.prog X.w X.K X.mg X.base name ps kk (Fj X.K ps.length m))(hr:YW kk X.A)(hg:Gl X name)(hN:X.N.Nodup)(ha:DA X (e::es) g)(hl:fO g ps.length)(ZG:autoParam ((name == ("__debug__" : Str))=Gy) u11)
  (he:autoParam (Pi (e::es) X.env=(Gy,eval e X.env)::Pi es X.env) u13) (Zv:autoParam ((Qj YO (Pi es X.env)).any (·.1)=Gy) u14) (hi:autoParam (X.N[i]? = KQ x) u10) (hx:autoParam (Loc X.env.scope x) u18)
  (hs:autoParam (QF (.Call (.Name name p) (e::es) [] YO) (KQ (.Name x pos')) pos.line X.env=pure Gy) u10) (hf:autoParam (X.fn x=G3\/X.env.scope.names.lookup x=KQ .local) u15) :
  DS X (.Assign [.Name x pos'] (.Call (.Name name p) (e::es) [] YO) pos) (ph i m g):=by
 refine⟨?_⟩;refine dO (dh hN hi hx (gm F hr hg ha.pe ZG he Zv) hs hf) λD σ H=>?_;rintro⟨Ey,H₀,F,ts,O,ρ,T,fl,ρ',T',rs,e,q⟩;obtain⟨ws,T1,e1,e⟩:=aG e;obtain⟨x0,T2,e2,e⟩:=aG e;refine⟨O,ts,ρ,T,ws,T1,rs.hc,rs.re,e1,λvs H1 s1 YN r1=>?_⟩;have Z2:=rs.step s1 YN;refine⟨O,ts,T1,ws,_,_,YN,by simp_all,hl _ _ _ _ e1,e2,λA v H2 s2 hA YY ov=>?_⟩;have Bu:=Z2.widen s2 hA YY
 cases x0 with
 |list xs=>
  cases e;obtain⟨a,rfl,Hv,oa⟩:=ov;have EE:=hA a ((Hv a).mpr rfl);have Ce:a∉ts:=λz=>EE.2 (YN.own a z)
  have h0:H₀ a=HA:=by
   cases z:H₀ a with
   |none=>rfl
   |some o=>have:=Z2.same a o Ce z;rw[EE.1] at this;cases this
  exact q _ _ _ (Bu.hold (i:=i) (.inr ((Hv a).mpr rfl)) Ce ⟨h0,λz=>EE.2 (Z2.sub a z)⟩ (λj ys q1 q2=>by
   obtain⟨v,h1,b,ea,h2,h3,h4⟩:=Z2.re j _ q1;rw[q2] at h1;cases h1;cases ea;obtain⟨o',h5⟩:=h4.some;rw[EE.1] at h5
   cases h5) oa)
 |none=>
  cases e;obtain⟨rfl,Jm⟩:=ov;exact q _ _ _ (Bu.set (i:=i) (v:=.non) (w:=.d .none) .non λ_ z=>nomatch z)
 |_=>cases e
end
def K6(_ j:Int):Prop:=0<j/\j<18446744073709551616
noncomputable def pM:OY->OY->Option PyData:=Di λi j=>if 0<j/\j<18446744073709551616 then KQ (.int (i / j)) else HA
noncomputable def zhn(h:y.natAbs<18446744073709551616):Builtin.divisionGoesByPylong x y=Gy:=by
 refine PyProof.noPylong_of_log2 ?_
 by_cases h0:y.natAbs=0
 .simp_all
 .have h30:y.natAbs.log2<64:=(VQ h0).mpr h
  lia
section
variable {X:Cx}
noncomputable def zho:Zx X (QL .FloorDiv) (rI K6 λi j=>.int (i / j)):=Cf λi j _ _ _ _ _ hc q=>by
 have h1:=hc.1;have h2:=hc.2;exact floordiv_int (by lia) (by rw[Int.fdiv_eq_ediv_of_nonneg i (by lia)];exact q) (.inl (zhn (by lia)))
noncomputable def zhp:Z6 X (QL .FloorDiv) pM:=⟨_,zho,sX λi j d e=>by
 split at e
 .rename_i h;cases e;exact⟨h,λ_ _=>.int _⟩
 .cases e⟩
end
noncomputable def dd:List Str->List Str
 |[]=>[]
 |a::r=>if a∈r then dd r else a::dd r
end D
namespace L2
noncomputable def zvy:O9->Str
 |.str k _=>k
 |_=>""
section
variable {P:Pu}{w:PU}{A:Qa}{E:O9->Pe->Prop}{s:Pe}
def TupAt(h:Heap)(q:Addr)(pl:Array O9):Prop:=∃o n,h.get? q=KQ o/\o.data=.seq pl n
end
end L2
namespace D
open L2
theorem zhq:Rx "enumerate"=KQ (.type "enumerate"):=by rfl
section
variable {P:Pu}{w:PU}{A:Qa}{E:O9->Pe->Prop}{s:Pe}
noncomputable def zhr(hit:s.heap.IsTupleIter it t i)(ht:s.heap.IsTuple t items)(hx:items[i]? = KQ x)(hQ:∀h',h'.IsTupleIter it t (i+1)->Q2 it s.heap h'->Q x { s with heap:=h' }) :
  PK (PP P w) A (RL (.ref it)) Q E s:=by
 obtain⟨o,ho,hc,hd⟩:=id hit;obtain⟨ol,vI,_,nl,Hk⟩:=ht;unfold RL;refine Pb (QY (name:=OZ "__next__") hit.typeIs RJ (Rj RJ hit.typeIs T6 ?_ (TC _)));show PK _ _ (field (.ref it) 0 >>= _) _ _ s;refine Pb (SX ho hd (x:=.ref t) rfl ?_);show PK _ _ (if (P4 t == QW)=G3 then _ else _) _ _ s;rw[if_neg (show ¬((P4 t == QW)=G3) from Pz)];show PK _ _ (field (.ref it) 1 >>= _) _ _ s;refine Pb (SX ho hd (x:=.int i 0) rfl ?_);show PK _ _ (seqItems? (.ref t) >>= _) _ _ s;refine Pb (VR vI Hk ?_);simp only[Q7,hx];refine Pb (Uo ho hd (by simp) (Pl ⟨x,rfl,Pl (hQ _ ⟨_,Vu _ ho (Vv (SU hd _)),(WG ..).trans hc,by rw[SU hd];simp[Wl]⟩ (SD ..))⟩))
noncomputable def zhs(hh:A.handled=HA)(hit:s.heap.IsTupleIter it t i)(ht:s.heap.IsTuple t items)(hx:items[i]? = HA)
  (hE:∀h' e,Uz it s.heap h'->(∃o,h'.get? e=KQ o/\o.cls=.type "StopIteration")->E (.ref e) { s with heap:=h' }):PK (PP P w) A (RL (.ref it)) Q E s:=by
 obtain⟨o,ho,hc,hd⟩:=id hit;obtain⟨ol,vI,_,nl,Hk⟩:=ht;unfold RL;refine Pb (QY (name:=OZ "__next__") hit.typeIs RJ (Rj RJ hit.typeIs T6 ?_ (TC _)));show PK _ _ (field (.ref it) 0 >>= _) _ _ s;refine Pb (SX ho hd (x:=.ref t) rfl ?_);show PK _ _ (if (P4 t == QW)=G3 then _ else _) _ _ s;rw[if_neg (show ¬((P4 t == QW)=G3) from Pz)];show PK _ _ (field (.ref it) 1 >>= _) _ _ s;refine Pb (SX ho hd (x:=.int i 0) rfl ?_);show PK _ _ (seqItems? (.ref t) >>= _) _ _ s;refine Pb (VR vI Hk ?_);simp only[Q7,hx];refine Pb (Xu (Pb (Uo ho hd (by simp) ?_)));show PK _ _ (newExc (.type "StopIteration") [] >>= _) _ _ _;refine Pb ?_;simp only[newExc,newTuple];refine Pb (Qi ?_ (by size_fits));refine Pb (m:=VS _ _) (wpAny_of_eq (a:=QW) (rfl) ?_);refine Qi ?_ (by size_fits);simp only[raiseNew];refine Pb (wpAny_handled ?_)
 first|rw[show A.in1.handled=HA from hh]|rw[hh]
 refine Pb (Pl (wpAny_throw ?_));exact hE _ _ (((SD ..).extBut.push _).push _) ⟨_,Pw _ rfl,rfl⟩
noncomputable def zws(hh:A.handled=HA)(it t:Addr)(CB:t≠it)(items:Array O9):Draws P w A it [it,t] items.size (λi v=>items[i]? = KQ v) (λi h=>h.IsTupleIter it t i/\h.IsTuple t items) where
 live:=λ_ _ st=>let ⟨o,ho,_⟩:=st.1;⟨o,ho⟩
 frame:=λ_ _ _ st hk=>⟨let ⟨o,ho,r⟩:=st.1;⟨o,hk it (by simp) o ho,r⟩,let ⟨o,ho,r⟩:=st.2;⟨o,hk t (by simp) o ho,r⟩⟩
 item:=λi s Q E hi st hQ=>zhr st.1 st.2 (x:=items[i]) (by simp) λh' GD G9=>hQ _ h' s.toks (by simp) ⟨GD,st.2.extBut G9.extBut CB⟩ G9
 done:=λs Q E st hE=>zhs hh st.1 st.2 (by simp) hE
noncomputable def zht(t:Addr)(items:Array O9)(n:Nat)(dct:Option Addr)(sl:Array (Option O9)) :
  Yz (WD.«enumerate.__new__» ⟨[.type "enumerate",.ref t],[]⟩) (λ_ R s=>s.heap.get? t=KQ { cls:=.type "tuple",dict:=dct,data:=.seq items n,slots:=sl }/\R (.ok (.ret (.ref (s.heap.push { cls:=.type "tuple_iterator",data:=.fields #[.ref t,.int 0 0] }).objs.size)))
    { s with heap:=(s.heap.push { cls:=.type "tuple_iterator",data:=.fields #[.ref t,.int 0 0] }).push { cls:=.type "enumerate",data:=.fields #[.none,.bool Gy,.ref s.heap.objs.size,Wl 0,.none,.none] } }):=
 .of_wp λprog w A R s h=>by
  obtain⟨hp,g,d,tk,os⟩:=s;obtain⟨hl,h⟩:=h;have hsub:=sub_enumerate;have hT:Heap.IsTuple (Shared.heap ⟨hp,g,d,tk,os⟩) t items:=⟨_,hl,rfl,n,rfl⟩;wp_walk using SK hl;refine wpAny_stack_any λst=>Pl ?_;split
  .rename_i c _ _ _ _ _
   cases (c == Tf "enumerate") <;> wp_walk using SK hl,Ui hT <;> exact⟨_,rfl,h⟩
  .wp_walk using SK hl,Ui hT
   exact⟨_,rfl,h⟩
noncomputable def zhu(hT:s.heap.IsTuple t items)
  (h:∀h',IsEnum h' (s.heap.objs.size+1) s.heap.objs.size 0 .none->h'.IsTupleIter s.heap.objs.size t 0->h'.objs.size=s.heap.objs.size+2->(∀b o,s.heap.get? b=KQ o->h'.get? b=KQ o)->Q (.ref (s.heap.objs.size+1)) { s with heap:=h' }) :
  PK (PP P w) A (call (.type "enumerate") [.ref t]) Q E s:=by
 obtain⟨⟨c,dct,dt,sl⟩,hl,hc,n,hd⟩:=hT;obtain rfl:c=.type "tuple":=hc;obtain rfl:dt=.seq items n:=hd;refine callType_new F.called_enumerate (rfl) (F.typeCall_enumerate_1 _) (F.newCall_enumerate_1 _) (λobj=>F.args_object_init_2 obj _) F.entry_enumerate_new (zht t items n dct sl) ⟨hl,?_⟩;have hz:(s.heap.push { cls:=.type "tuple_iterator",data:=.fields #[.ref t,.int 0 0] }).objs.size=s.heap.objs.size+1:=Q5 ..;show _/\_;rw[hz]
 have he:IsEnum ((s.heap.push { cls:=.type "tuple_iterator",data:=.fields #[.ref t,.int 0 0] }).push { cls:=.type "enumerate",data:=.fields #[.none,.bool Gy,.ref s.heap.objs.size,Wl 0,.none,.none] }) (s.heap.objs.size+1) s.heap.objs.size 0 .none:=by
  rw[←hz];exact Pw _ rfl
 exact⟨⟨_,he,rfl⟩,h _ he ⟨_,Pd _ (Pw _ rfl),rfl,rfl⟩ (by rw[Q5,hz]) λb o x=>Pd _ (Pd _ x)⟩
end
noncomputable def nk(K:Frag)(a:Addr):It:=⟨λi H=>∃xs,ZJ K H a xs/\i<xs.length,λi H x H'=>∃p v,H p=HA/\(∀xs,ZJ K H a xs->xs[i]? = KQ v)/\x=.ref p/\H'=upd H p (.tup [.int (i:Int),v]),λi H=>∃xs,ZJ K H a xs/\i=xs.length⟩
noncomputable def zhv{P:Pu}{w:PU}{K:Frag}{Hu:List Expr}{x1:Nat}{EY:Pos}{l e it:Addr}(vn:e≠it)(hle:l≠e)(Ic:l≠it):Turn P w K (.Tuple Hu x1 EY) (nk K l) [e,it] e (λi h=>(∃old,IsEnum h e it i old)/\h.IsTupleIter it l i) where
 mem:=by simp
 obj:=λi h st b hb=>by
  obtain⟨⟨old,a1⟩,⟨o4,a4,_,d4⟩⟩:=st;simp only[Pr,RE,or_false] at hb
  rcases hb with e|e <;> subst e
  .exact⟨_,a1,λv z=>nomatch (show Data.fields _=Data.cell v from z)⟩
  .exact⟨_,a4,λv z=>by simp_all⟩
 keep:=λi h h' st k=>by
  obtain⟨⟨old,a1⟩,⟨o4,a4,r⟩⟩:=st;exact⟨⟨old,k e (by simp) _ a1⟩,o4,k it (by simp) _ a4,r⟩
 item:=by
  intro X hP hw hK hc i pins s σ H E I hf st hg;subst hP hw hK;obtain⟨xs,hx,k1⟩:=hg;obtain⟨⟨old,a1⟩,a4⟩:=st;obtain⟨YL,rx,px,_⟩:=I.tuple hx;obtain⟨u,hu,ru⟩:=rx.get (Qg k1);have Y3:=rx.length;have HY:s.heap.IsTuple l YL.toArray:=px;refine wpAny_pyNext_enum_itemD (zws (A:=X.A.in1) (by simp[I.ok.hd hc]) it l Ic YL.toArray) a1 ⟨a4,HY⟩ (by simp;lia) vn (by simp only[Pr,RE,or_false,not_or];exact⟨vn,P3 hle⟩) λx h' tk Dc b1 b2 b3 b4 b5=>?_
  have ex:x=u:=by
   have h2:YL.toArray[i]? = KQ u:=by simpa using hu
   rw[h2] at Dc;exact(Rw Dc).symm
  subst ex;refine⟨.ref s.heap.objs.size,rfl,wpAny_letOwnedTupleGo_enum b1 λDY c1 c2=>?_⟩;have hn:H s.heap.objs.size=HA:=I.hok.fresh (Pk _);have le:e<s.heap.objs.size:=Pq a1
  have l1:it<s.heap.objs.size:=by obtain⟨_,e,_⟩:=a4;exact Pq e
  have T1:Xm (s.heap.push { cls:=.type "tuple",data:=.seq #[.int i tk,x] }) s.heap.objs.size #[.int i tk,x]:=V0 ..
  have I1:Inv X pins σ (upd H s.heap.objs.size (.tup [.int (i:Int),xs[i]])) { s with heap:=s.heap.push { cls:=.type "tuple",data:=.seq #[.int i tk,x] } }:=
   I.laid (t':=s.toks) (o:=.tup [.int (i:Int),xs[i]]) (λb ob e=>Pd _ e) (Pk _) ⟨by show 2<=Ph;decide,[.int i tk,x],.cons ⟨tk,rfl⟩ (.cons ru .nil),T1⟩
  have nn:∀b∈[e,it],b≠s.heap.objs.size:=λb hb q=>by
   simp only[Pr,RE,or_false] at hb
   rcases hb with z|z <;> rw[q] at z
   .exact TU le z
   .exact TU l1 z
  have f':∀b∈[e,it],cY X pins (upd H s.heap.objs.size (.tup [.int (i:Int),xs[i]])) b:=λb hb=>by
   obtain⟨f0,fr⟩:=hf b hb;exact⟨by rw[aA (nn b hb)];exact f0,fr⟩
  have I2:Inv X pins σ (upd H s.heap.objs.size (.tup [.int (i:Int),xs[i]])) { s with heap:=DY,toks:=tk+1 }:=zwo (s:={ s with heap:=s.heap.push { cls:=.type "tuple",data:=.seq #[.int i tk,x] } }) (t':=tk+1) (h':=DY) (fp:=[e,it]) I1 (λb ob hb q=>by
   simp only[Pr,RE,or_false,not_or] at hb
   by_cases z:b=s.heap.objs.size
   .subst z
    have q':KQ _=KQ ob:=(Pw _ rfl).symm.trans q;cases q';exact(c2.2 _ hb.1).trans b3
   .rw[Heap.get?_push_ne _ _ _ z] at q
    exact(c2.2 b hb.1).trans (b5 b ob hb.1 hb.2 q)) f'
  refine⟨.ref s.heap.objs.size,_,I2,rfl,⟨s.heap.objs.size,xs[i],hn,λBE h=>by rw[I.tuple_inj h hx];exact Qg k1,rfl,rfl⟩,?_,λb hb=>(f' b hb).1⟩;obtain⟨o,eo,ro⟩:=b2.1;exact⟨⟨_,c1⟩,o,(c2.2 it (P3 vn)).trans eo,ro⟩
 done:=by
  intro X hP hw hK hc i pins s σ H E I hf st hg;subst hP hw hK;obtain⟨xs,hx,k⟩:=hg;obtain⟨⟨old,a1⟩,a4⟩:=st;obtain⟨YL,rx,px,_⟩:=I.tuple hx;have h1:=rx.length;have HY:s.heap.IsTuple l YL.toArray:=px
  have hs:YL.toArray.size=i:=by simp;lia
  refine wpAny_pyNext_enum_endD (zws (A:=X.A.in1) (by simp[I.ok.hd hc]) it l Ic YL.toArray) a1 ⟨by rw[hs];exact a4,HY⟩ λh' b7=>⟨rfl,zwo (t':=s.toks) (fp:=[e,it]) I (λb ob hb q=>?_) hf⟩;simp only[Pr,RE,or_false,not_or] at hb;exact b7 b ob hb.2 q
 self:=λ_ _ _ _ _ st h=>let ⟨old,he⟩:=st.1;WH he h
section
variable {X:Cx}{pos:Pos}
noncomputable def IX(K:Frag)(ta:TA):TI:=λσ H R=>ta σ H λvs H1=>∃a xs,vs=[.ref a]/\ZJ K H1 a xs/\(xs.length<=Ph->R (nk K a) H1)
noncomputable def zhw(hg:Gl X "enumerate")(hm:X.mg "enumerate"=HA)(ha:PA X [a] ta)(hs:Pi [a] X.env=[(Gy,eval a X.env)]) :
  PI X (.Tuple Hu x1 EY) (.Call (.Name "enumerate" p) [a] [] pos) (IX X.K ta):=by
 intro pins s σ H R I h;refine Call_ (mE I hg hm zhq (Sr (YZ (ha pos pins s σ H _ I h) λus s1 ⟨vs,H1,I1,r1,q1⟩=>?_) hs rfl));obtain⟨l,xs,e,hx,q⟩:=q1;subst e
 cases r1 with
 |cons r rr=>
  cases rr;cases r;obtain⟨YL,rx,px,zx⟩:=I1.tuple hx;have HY:s1.heap.IsTuple l YL.toArray:=px
  have L1:l<s1.heap.objs.size:=by obtain⟨_,e,_⟩:=HY;exact Pq e
  refine zhu HY λh' c1 c2 c3 c7=>?_;have I2:Inv X pins σ H1 { s1 with heap:=h' }:=I1.kept (t':=s1.toks) c7;refine WH c1 ⟨s1.heap.objs.size+1,[s1.heap.objs.size+1,s1.heap.objs.size],_,_,H1,rfl,I2,zhv (Nat.succ_ne_self _) (PM (RQ L1)) (PM L1),⟨⟨_,c1⟩,c2⟩,λb hb=>?_,q zx⟩
  have ER:s1.heap.objs.size<=b:=by
   simp only[Pr,RE,or_false] at hb
   rcases hb with q|q <;> rw[q] <;> first|exact Nat.le_add_right _ _|exact Pk _
  exact I1.fpOk ER (I1.hok.fresh ER)
end
end D
namespace L2
section
variable {X:Cx}
def PE1(X:Cx)(e:Expr)(t:TE):Prop:=∀(pins:List (Addr×Obj)) (s:Pe) (σ:St) (H:Hp) (Q:VK),Inv X pins σ H s->1<=s.toks->t σ H Q->PK (PP X.prog X.w) X.A (eval e X.env) (EP X pins σ Q) X.xe s
end
end L2
namespace D
open L2
abbrev Stk:=List (List OY)
abbrev FK:=YR->Stk->Tp->Option ((Fl×YR×Stk)×Tp)
structure DE1(X:Cx)(e:Expr)(f:FE):Prop where
 pe:PE1 X e (lift X.K f)
open PySem.W (KasT kas_sort KatTups kat_kind kat_lt kat_cons kat_no kat_run kat_snds Looks)
structure uT(h:Heap)(v:O9)(k:Str):Prop where
 ex:∃x o t u m,v=.ref x/\h.get? x=KQ o/\o.cls=.type "tuple"/\o.data=.seq #[.str k t,u] m
inductive Iw(h:Heap):List O9->List Str->Prop where
 |nil:Iw h [] []
 |cons {v:O9}{k:Str}{vs:List O9}{ks:List Str}:uT h v k->Iw h vs ks->Iw h (v::vs) (k::ks)
def Iw.keep(t:Iw h vs ks)(kp:∀b o,h.get? b=KQ o->o.cls=.type "tuple"->h'.get? b=KQ o):Iw h' vs ks:=by
 induction t with
 |nil=>exact .nil
 |cons hv _ ih=>
  obtain⟨x,o,t,u,m,e,e1,e2,e3⟩:=hv.ex;exact .cons ⟨x,o,t,u,m,e,kp x o e1 e2,e2,e3⟩ ih
noncomputable def JF(K:Frag)(tp:Nat->Stmt):List (Str×Nat)->Prop
 |[]=>True
 |(x,i)::r=>Df K x (tp i)/\JF K tp r
noncomputable def Fq{K:Frag}{tp:Nat->Stmt}{x:Str}{i:Nat}{L:List (Str×Nat)}(a:Df K x (tp i))(r:JF K tp L):JF K tp ((x,i)::L):=⟨a,r⟩
theorem JF.at{K:Frag}{tp:Nat->Stmt}{x:Str}{i:Nat}:∀{L:List (Str×Nat)},JF K tp L->L.lookup x=KQ i->Df K x (tp i)
 |[],_,e=>nomatch e
 |_::r,h,e=>by
  rw[R9] at e;split at e
  .rename_i hx
   cases e;rw[eq_of_beq hx];exact h.1
  .exact h.2.at e
noncomputable def ZL(K:Frag):List Str->Prop
 |[]=>True
 |x::r=>Qp K P1 x=KQ HA/\ZL K r
noncomputable def FQ{K:Frag}{x:Str}{L:List Str}(a:Qp K P1 x=KQ HA)(r:ZL K L):ZL K (x::L):=⟨a,r⟩
theorem ZL.at{K:Frag}{x:Str}:∀{L:List Str},ZL K L->L.contains x=G3->Qp K P1 x=KQ HA
 |[],_,e=>nomatch e
 |y::r,h,e=>by
  rw[List.contains_cons,TF] at e
  rcases e with e|e
  .rw[eq_of_beq e];exact h.1
  .exact h.2.at e
noncomputable def IL(K:Frag):List (Str×Int)->Prop
 |[]=>True
 |(x,i)::r=>(∃t,Qp K P1 x=KQ (KQ (.int i t)))/\IL K r
noncomputable def G4{K:Frag}{x:Str}{i:Int}{t:Tok}{L:List (Str×Int)}(a:Qp K P1 x=KQ (KQ (.int i t)))(r:IL K L):IL K ((x,i)::L):=⟨⟨t,a⟩,r⟩
theorem IL.at{K:Frag}{x:Str}{i:Int}:∀{L:List (Str×Int)},IL K L->L.lookup x=KQ i->∃t,Qp K P1 x=KQ (KQ (.int i t))
 |[],_,e=>nomatch e
 |_::r,h,e=>by
  rw[R9] at e;split at e
  .rename_i hx
   cases e;rw[eq_of_beq hx];exact h.1
  .exact h.2.at e
noncomputable def SL(K:Frag):List (Str×Str)->Prop
 |[]=>True
 |(x,i)::r=>(∃t,Qp K P1 x=KQ (KQ (.str i t)))/\SL K r
noncomputable def Ga{K:Frag}{x i:Str}{t:Tok}{L:List (Str×Str)}(a:Qp K P1 x=KQ (KQ (.str i t)))(r:SL K L):SL K ((x,i)::L):=⟨⟨t,a⟩,r⟩
theorem SL.at{K:Frag}{x i:Str}:∀{L:List (Str×Str)},SL K L->L.lookup x=KQ i->∃t,Qp K P1 x=KQ (KQ (.str i t))
 |[],_,e=>nomatch e
 |_::r,h,e=>by
  rw[R9] at e;split at e
  .rename_i hx
   cases e;rw[eq_of_beq hx];exact h.1
  .exact h.2.at e
structure Bz(K:Frag)(mg:Str->Option O9)(z:List Str)(i:List (Str×Int))(s:List (Str×Str)):Prop where
 z:∀{x:Str} (_:autoParam (z.contains x=G3) u17),mg x=HA
 i:∀{x:Str}{j:Int} (_:autoParam (i.lookup x=KQ j) u17),∃t,mg x=KQ (.int j t)
 s:∀{x y:Str} (_:autoParam (s.lookup x=KQ y) u17),∃t,mg x=KQ (.str y t)
noncomputable def zhx{K:Frag}{h:Heap}{mg:Str->Option O9}(X:K.In h)(G:h.Ns P1 mg)(a:ZL K z)(b:IL K i)(c:SL K s):Bz K mg z i s:=⟨λe=>PySem.W.mg_none_of X G (a.at e),λe=>let ⟨t,q⟩:=b.at e;⟨t,Q1 X G q⟩,λe=>let ⟨t,q⟩:=c.at e;⟨t,Q1 X G q⟩⟩
structure Ev(P:Pu)(w:PU)(K:Frag)(mg:Str->Option O9)(base:Heap)(B:Prop)(tp:Nat->Stmt)(L:List (Str×Nat)):Prop where
 x:∃h:Heap,K.In h/\h.Ns P1 mg
 b:B
 d:JF K tp L
noncomputable def Jb(N P:List Str)(sc:Rk):Bool:=decide (sc.kind=.function)&&!sc.isCoroutine&&!sc.isGenerator&&decide N.Nodup&&decide (N.take P.length=P)&&P.all (λx=>decide (sc.names.lookup x=KQ .local)||decide (sc.names.lookup x=KQ .cell))&&sc.names.all λy=>decide (y.2≠.free)
noncomputable def dX(h:Jb N P sc=G3):Y2 N P sc:=by
 simp only[Jb,Pg,decide_eq_true_eq,Bool.not_eq_true',Po,TF] at h;exact⟨h.1.1.1.1.1.1,h.1.1.1.1.1.2,h.1.1.1.1.2,h.1.1.1.2,h.1.1.2,h.1.2,h.2⟩
noncomputable def KN{α:Type}{p:List α->Prop}(h:∀a,p [a]):∀us,us.length=1->p us
 |[a],_=>h a
noncomputable def K3{α:Type}{p:List α->Prop}(h:∀a b,p [a,b]):∀us,us.length=2->p us
 |[a,b],_=>h a b
noncomputable def GQ{α:Type}{p:List α->Prop}(h:∀a b c,p [a,b,c]):∀us,us.length=3->p us
 |[a,b,c],_=>h a b c
noncomputable def IU{α:Type}{p:List α->Prop}(h:∀a b c d,p [a,b,c,d]):∀us,us.length=4->p us
 |[a,b,c,d],_=>h a b c d
noncomputable def IT{α:Type}{p:List α->Prop}(h:∀a b c d e,p [a,b,c,d,e]):∀us,us.length=5->p us
 |[a,b,c,d,e],_=>h a b c d e
section
variable {P:Pu}{w:PU}{K:Frag}{mg:Str->Option O9}{base:Heap}{B:Prop}{tp:Nat->Stmt}{L:List (Str×Nat)}{x:Str}{ps:List Str}{k:Nat}{m:FS}
noncomputable def mX(E:Ev P w K mg base B tp L)(i:Nat)(ok:∀f fd,KH K x x (tp i) f fd->Zr P w K mg base Z7 k f fd ps sp)(e:autoParam (L.lookup x=KQ i) u17)
  (hb:autoParam (∀(kV doc pm:O9) (an:Option Addr) (Y9 ct:O9) (us:List O9),us.length=ps.length->SE (Qf x x (df (tp i)) (bP (tp i)) (aO (tp i)) .none kV doc pm an Y9 ct) ⟨us,[]⟩=pure (ps.zip us)) u21):Fn P w K mg base x ps k sp:=
 let ⟨_,X,G⟩:=E.x
 (E.d.at e).fn X G hb ok
noncomputable def aN(E:Ev P w K mg base B tp L)(i:Nat)(N:List Str)(Zw:∀{f:Addr}{Y9:O9}{A:Qa}{outer:List Env}{s:Pe}{H:Hp}{E:XK},B->Y2 N ps (aO (tp i))->YW k (A.deeper (S4 x (aO (tp i)) s.heap.objs.size f Y9))->GN (ef Z7 P w K mg base N x (aO (tp i)) f Y9 A outer s H E).nox (bP (tp i)) m)
  (S:autoParam (Jb N ps (aO (tp i))=G3) u17) (e:autoParam (L.lookup x=KQ i) u17)
  (hb:autoParam (∀(kV doc pm:O9) (an:Option Addr) (Y9 ct:O9) (us:List O9),us.length=ps.length->SE (Qf x x (df (tp i)) (bP (tp i)) (aO (tp i)) .none kV doc pm an Y9 ct) ⟨us,[]⟩=pure (ps.zip us)) u21):Fn P w K mg base x ps (k+1) (Y1 K ps.length (aJ N.length m)):=mX E i (λ_ _ F=>yV F (dX S) λ_ _ _ _ _ _ hr=>Zw E.b (dX S) hr) e hb
noncomputable def zhy(E:Ev P w K mg base B tp L)(i:Nat)(N:List Str)(Zw:∀{f:Addr}{Y9:O9}{A:Qa}{outer:List Env}{s:Pe}{H:Hp}{E:XK},B->Y2 N ps (aO (tp i))->YW k (A.deeper (S4 x (aO (tp i)) s.heap.objs.size f Y9))->GN (ef Z7 P w K mg base N x (aO (tp i)) f Y9 A outer s H E).nox (bP (tp i)) m)
  (S:autoParam (Jb N ps (aO (tp i))=G3) u17) (e:autoParam (L.lookup x=KQ i) u17)
  (hb:autoParam (∀(kV doc pm:O9) (an:Option Addr) (Y9 ct:O9) (us:List O9),us.length=ps.length->SE (Qf x x (df (tp i)) (bP (tp i)) (aO (tp i)) .none kV doc pm an Y9 ct) ⟨us,[]⟩=pure (ps.zip us)) u21):Fn P w K mg base x ps (k+1) (Fj K ps.length (kJ N.length m)):=mX E i (λ_ _ F=>zha F (dX S) λ_ _ _ _ _ _ hr=>Zw E.b (dX S) hr) e hb
noncomputable def dH(E:Ev P w K mg base B tp L)(i:Nat)(e:autoParam (L.lookup x=KQ i) u17)
  (hb:autoParam (∀(kV doc pm:O9) (an:Option Addr) (Y9 ct:O9) (us:List O9),us.length=ps.length->SE (Qf x x (df (tp i)) (bP (tp i)) (aO (tp i)) .none kV doc pm an Y9 ct) ⟨us,[]⟩=pure (ps.zip us)) u21):Fn P w K mg base x ps k (Y1 K n λ_ _=>HA):=mX E i (λ_ _ _=>zfu) e hb
theorem dP{p:Nat->Prop}(z:p 0)(s:∀n,p n->p (n+1)):∀n,p n
 |0=>z
 |n+1=>s n (dP z s n)
end
section
variable {X:Cx}{name p1 p2 p3 p4 p5 p6:Str}{k k':Nat}{m:YX}{e1 e2 e3 e4 e5 e6:Expr}{g1 g2 g3 g4 g5 g6:FE}{p pos:Pos}
noncomputable def aL(F:Fn X.prog X.w X.K X.mg X.base name [p1] k (Y1 X.K 1 m))(hr:YW k' X.A)(a1:DE X e1 g1)(h:autoParam (k<=k') u22)(hg:autoParam (Gl X name) u12)(ZG:autoParam ((name == ("__debug__" : Str))=Gy) u11)(n1:autoParam (noStar e1=G3) u12):DE X (.Call (.Name name p) [e1] [] pos) (ar m (ab g1 ag)):=mj F (hr.mono h) hg (ao a1 aC (bf n1)) (aU cu) ZG (bf n1) (bW rfl)
noncomputable def cP(F:Fn X.prog X.w X.K X.mg X.base name [p1,p2] k (Y1 X.K 2 m))(hr:YW k' X.A)(a1:DE X e1 g1)(a2:DE X e2 g2)(h:autoParam (k<=k') u22)(hg:autoParam (Gl X name) u12)(ZG:autoParam ((name == ("__debug__" : Str))=Gy) u11)(n1:autoParam (noStar e1=G3) u12)(n2:autoParam (noStar e2=G3) u12):DE X (.Call (.Name name p) [e1,e2] [] pos) (ar m (ab g1 (ab g2 ag))):=mj F (hr.mono h) hg (ao a1 (ao a2 aC (bf n2)) (bf n1)) (aU (aU cu)) ZG (bf n1) (bW (by simp_all))
noncomputable def dJ(F:Fn X.prog X.w X.K X.mg X.base name [p1,p2,p3] k (Y1 X.K 3 m))(hr:YW k' X.A)(a1:DE X e1 g1)(a2:DE X e2 g2)(a3:DE X e3 g3)(h:autoParam (k<=k') u22)(hg:autoParam (Gl X name) u12)(ZG:autoParam ((name == ("__debug__" : Str))=Gy) u11)(n1:autoParam (noStar e1=G3) u12)(n2:autoParam (noStar e2=G3) u12)(n3:autoParam (noStar e3=G3) u12):DE X (.Call (.Name name p) [e1,e2,e3] [] pos) (ar m (ab g1 (ab g2 (ab g3 ag)))):=mj F (hr.mono h) hg (ao a1 (ao a2 (ao a3 aC (bf n3)) (bf n2)) (bf n1)) (aU (aU (aU cu))) ZG (bf n1) (bW (by simp_all))
noncomputable def qf(F:Fn X.prog X.w X.K X.mg X.base name [p1,p2,p3,p4] k (Y1 X.K 4 m))(hr:YW k' X.A)(a1:DE X e1 g1)(a2:DE X e2 g2)(a3:DE X e3 g3)(a4:DE X e4 g4)(h:autoParam (k<=k') u22)(hg:autoParam (Gl X name) u12)(ZG:autoParam ((name == ("__debug__" : Str))=Gy) u11)(n1:autoParam (noStar e1=G3) u12)(n2:autoParam (noStar e2=G3) u12)(n3:autoParam (noStar e3=G3) u12)(n4:autoParam (noStar e4=G3) u12):DE X (.Call (.Name name p) [e1,e2,e3,e4] [] pos) (ar m (ab g1 (ab g2 (ab g3 (ab g4 ag))))):=mj F (hr.mono h) hg (ao a1 (ao a2 (ao a3 (ao a4 aC (bf n4)) (bf n3)) (bf n2)) (bf n1)) (aU (aU (aU (aU cu)))) ZG (bf n1) (bW (by simp_all))
noncomputable def ur(F:Fn X.prog X.w X.K X.mg X.base name [p1,p2,p3,p4,p5] k (Y1 X.K 5 m))(hr:YW k' X.A)(a1:DE X e1 g1)(a2:DE X e2 g2)(a3:DE X e3 g3)(a4:DE X e4 g4)(a5:DE X e5 g5)(h:autoParam (k<=k') u22)(hg:autoParam (Gl X name) u12)(ZG:autoParam ((name == ("__debug__" : Str))=Gy) u11)(n1:autoParam (noStar e1=G3) u12)(n2:autoParam (noStar e2=G3) u12)(n3:autoParam (noStar e3=G3) u12)(n4:autoParam (noStar e4=G3) u12)(n5:autoParam (noStar e5=G3) u12):DE X (.Call (.Name name p) [e1,e2,e3,e4,e5] [] pos) (ar m (ab g1 (ab g2 (ab g3 (ab g4 (ab g5 ag)))))):=mj F (hr.mono h) hg (ao a1 (ao a2 (ao a3 (ao a4 (ao a5 aC (bf n5)) (bf n4)) (bf n3)) (bf n2)) (bf n1)) (aU (aU (aU (aU (aU cu))))) ZG (bf n1) (bW (by simp_all))
end
noncomputable def Jt(osc:Rk)(N:List Str)(x:Str)(sc:Rk)(N':List Str):Bool:=decide (sc.kind=.function)&&(sc.names.all λy=>decide (y.2≠.cell))&&(sc.names.all λy=>decide (y.2=.local->sc.names.lookup y.1=KQ .local))&&decide (sc.names.lookup x=KQ .local)&&(sc.names.all λy=>decide (y.2=.local->y.1=x\/y.1=".0"))
 && (sc.names.all λy=>decide (y.2=.free->osc.names.lookup y.1=KQ .cell\/osc.names.lookup y.1=KQ .free))&&decide (x::N').Nodup&&decide ((".0" : Str)∉N')&&decide (N'.length=N.length)&&(N'.zip N).all λp=>decide (p.1=p.2)||sc.names.all λq=>decide (q.1≠p.1)
noncomputable def zwt(h:Jt osc N x sc N'=G3):CS osc N x sc N':=by
 simp only[Jt,Pg,decide_eq_true_eq,Po,TF] at h;exact⟨h.1.1.1.1.1.1.1.1.1,h.1.1.1.1.1.1.1.1.2,h.1.1.1.1.1.1.1.2,by simpa using h.1.1.1.1.1.1.2,by simpa using h.1.1.1.1.1.2,h.1.1.1.1.2,h.1.1.1.2,h.1.1.2,h.1.2,h.2⟩
section
variable {X:Cx}{x:Str}{scope:Rk}{elt iter:Expr}{ifs:List Expr}{px pos:Pos}{it:FI}{c:FT}{f:FE}
noncomputable def pS(st:Stmt)(N N':List Str)(hi:DI X (.Name x px) iter it)(he:∀{C s0 H0 ex},DE (cj X x scope C s0 H0 ex N') elt f)(ht:∀{C s0 H0 ex},Eg (cj X x scope C s0 H0 ex N') ifs c)
  (S:autoParam (Jt (aO st) N x scope N'=G3) u17) (hc:autoParam (X.calm=G3) u10) (hs:autoParam (X.env.scope=aO st) u10) (hN:autoParam (X.N=N) u10) (hf:autoParam (∀v,Qh iter X.env v=pure v) u16):DE X (.ListComp elt [⟨.Name x px,iter,ifs,0⟩] scope pos) (bY it c f):=zfb (zwt S) hi (λ_ _ _ _=>he) (λ_ _ _ _=>ht) hc hs hN hf
noncomputable def eZ(st:Stmt)(N:List Str)(hi:DI X (.Name x px) iter it)(he:∀{C s0 H0 ex},DE (cj X x scope C s0 H0 ex N) elt f)
  (S:autoParam (Jt (aO st) N x scope N=G3) u17) (hc:autoParam (X.calm=G3) u10) (hs:autoParam (X.env.scope=aO st) u10) (hN:autoParam (X.N=N) u10) (hf:autoParam (∀v,Qh iter X.env v=pure v) u16):DE X (.ListComp elt [⟨.Name x px,iter,[],0⟩] scope pos) (bY it bU f):=pS st N N hi he sI S hc hs hN hf
noncomputable def zhz(st:Stmt)(N:List Str)(hi:DI X (.Name x px) iter it)(he:∀{C s0 H0 ex},DE (cj X x scope C s0 H0 ex N) elt f)(ht:∀{C s0 H0 ex},DT (cj X x scope C s0 H0 ex N) t c)
  (S:autoParam (Jt (aO st) N x scope N=G3) u17) (hc:autoParam (X.calm=G3) u10) (hs:autoParam (X.env.scope=aO st) u10) (hN:autoParam (X.N=N) u10) (hf:autoParam (∀v,Qh iter X.env v=pure v) u16):DE X (.ListComp elt [⟨.Name x px,iter,[t],0⟩] scope pos) (bY it c f):=pS st N N hi he (sH rfl ht) S hc hs hN hf
noncomputable def zia(st:Stmt)(N N':List Str)(nd:X.N.Nodup)(hi:DI X (.Name x px) iter it)(he:∀{C s0 H0 ex},DE (cj X x scope C s0 H0 ex N') elt f)(ht:∀{C s0 H0 ex},Eg (cj X x scope C s0 H0 ex N') ifs c)
  (S:autoParam (Jt (aO st) N x scope N'=G3) u17) (D8:autoParam (X.N[i]? = KQ y) u10) (hy:autoParam (Loc X.env.scope y) u18)
  (Ke:autoParam (X.fn y=G3\/X.env.scope.names.lookup y=KQ .local) u15) (hc:autoParam (X.calm=G3) u10) (hs:autoParam (X.env.scope=aO st) u10) (hN:autoParam (X.N=N) u10)
  (Ht:autoParam (QF (.ListComp elt [⟨.Name x px,iter,ifs,0⟩] scope pos) (KQ (.Name y py)) CW.line X.env=pure G3) u10) (hf:autoParam (∀v,Qh iter X.env v=pure v) u16) :
  DS X (.Assign [.Name y py] (.ListComp elt [⟨.Name x px,iter,ifs,0⟩] scope pos) CW) (ax i (bY it c f)):=zfd (zwt S) nd hi (λ_ _ _ _=>he) (λ_ _ _ _=>ht) D8 hy Ke hc hs hN Ht hf
end
end D
namespace XO
open L2
def TB(T:Addr)(fl:O9)(h:Heap):Prop:=∃oT ts,h.get? T=KQ oT/\oT.data=.fields ts/\ts[3]? = KQ fl
end XO
namespace XO
open L2 D
open XE (zhd)
section
variable {X:Cx}{cs:Nat->Addr}
noncomputable def BJ(X:Cx)(e:Addr):Cx:={ X with A:=X.A.mark (KQ (.ref e)),calm:=Gy,xe:=λ_ _=>False }
end
end XO
namespace D
open L2
noncomputable def zib(h:GN X body fb)(hx:∀v s,¬X.xe v s):DS X (.Try body (h0::hs) [] [] pos) fb:=
 ⟨λpins s σ H D I q=>wpAny_Try_except (QC (h.pe pins s σ H D I q) (λfl s1 z=>match fl,z with
  |.next,z=>SM z
  |.brk,z=>z
  |.cont,z=>z
  | .ret _,z=>z) λ_ _ z=>(hx _ _ z).elim)⟩
def HC.tapeL{K:Frag}{O:Addr->Prop}{ts:List Addr}{H:Hp}{T:Tp}{n:Nat}{a:Addr}{vs:List V}{ys:List OY}(c:HC K O ts H T)(e:ts[n]? = KQ a)(rv:YK K O H vs ys):HC K O ts (upd H a (.lst vs)) (T.set n ys)/\YM ts H (upd H a (.lst vs))/\Le O H O (upd H a (.lst vs)):=by
 have am:=Px e;have le:Le O H O (upd H a (.lst vs)):=λb o' k q=>⟨k,by rw[aA (λz=>k (by rw[z];exact c.own a am))];exact q⟩
 have sx:YM ts H (upd H a (.lst vs)):=λb o' k q=>by rw[aA (λz=>k (by simp_all))];exact q
 refine⟨⟨c.own,λb hb=>?_,c.nd,by simp[c.len],λj b zs q1 q2=>?_⟩,sx,le⟩
 .by_cases z:b=a
  .subst z;rw[aQ];exact .inl ⟨_,rfl⟩
  .rw[aA z];exact c.trk b hb
 .by_cases z:n=j
  .subst z
   rw[e] at q1
   have hl:n<T.length:=by
    have:=(Pa.mp e).1;rw[←c.len];exact this
   rw[Pm hl] at q2;cases q1;cases q2;exact .inl ⟨rv.notO,vs,aQ,rv.mono le⟩
  .simp_all
   refine(c.tape j b zs q1 q2).mono (λo' h1=>?_) le
   have nb:b≠a:=λq=>by
    rw[q] at q1;exact z ((WB (Pa.mp e).1 c.nd).mp (e.trans q1.symm))
   rw[aA nb]<;>omega
noncomputable def mN(w:W)(T:Tp):Option (W×Tp):=match w with
 | .tp n=>(match T[n]? with
  |some (y::r)=>if Cz (y::r)=G3\/1000<=r.length then HA else KQ (.d y,T.set n r)
  | _=>HA)
 |_=>HA
def ub(f:FE):FE:=λρ T=>YS (f ρ T) mN
section
variable {X:Cx}{pos:Pos}
noncomputable def zic(ho:DE X o fo)
  (Zk:autoParam (QI o "pop" X.env (eval o X.env)=eval o X.env) u10)
  (ZI:autoParam (((Qj YO (Pi [.Constant (.int 0) k kp] X.env)).all (λx=>!x.1)&&(RO YO (QQ [] X.env)).all (λx=>x.1.isSome)
   && decide (([.Constant (.int 0) k kp]:List Expr).length+([]:List Rn).length+(if ([]:List Rn).isEmpty then 0 else 1)<30))=G3) u19)
  (Zj:autoParam ((apos.endLine == YO.line)=G3) u10) (Z0:autoParam (Pi [.Constant (.int 0) k kp] X.env=(Gy,eval (.Constant (.int 0) k kp) X.env)::Pi [] X.env) u13) (Y6:autoParam ((Qj YO (Pi [] X.env)).any (·.1)=Gy) u14) :
  DE X (.Call (.Attribute o "pop" apos) [.Constant (.int 0) k kp] [] YO) (ub fo):=by
 refine⟨?_⟩;refine bi (gn QZ PySem.F.slot_list_pop PySem.F.type_list_pop zhj ho.pe (aV et br Z0) Zk ZI Zj Z0 Y6) λσ H Q=>?_;rintro⟨O,ts,ρ,T,w,T',hc,re,e,q⟩;obtain⟨w1,T1,e1,e⟩:=aG e;refine⟨O,ts,ρ,T,w1,T1,hc,re,e1,λv1 H1 s1 YN r1=>?_⟩;unfold mN at e;split at e
 .rename_i n
  split at e
  .rename_i y r hT
   split at e
   .cases e
   .rename_i hn
    cases e;obtain⟨a,k1,rfl⟩:=r1
    obtain⟨vs,k2,k3⟩:=(YN.tape _ a _ k1 hT).lst (by
     cases hb:Cz (y::r) with
     |false=>rfl
     | true=>exact absurd (.inl hb) hn)
    cases k3 with
    |@cons vy _ vr _ ry rr=>
     have hl:=rr.length;obtain⟨YY,sx,le⟩:=YN.tapeL k1 rr;exact⟨.inl ⟨rfl,_,Zc.of k2⟩,a,vy::vr,0,0,vy,rfl,rfl,k2,rfl,rfl,by grind,q vy _ (s1.trans sx) YY (show Rep X.K O _ vy y from Rep.mono le ry)⟩
  .cases e
 .cases e
end
theorem zwu:∀{vs Fp:List V}{us HJ:List O9},YQ vs us->YQ Fp HJ->YQ (vs++Fp) (us++HJ)
 |_,_,_,_,.nil,h=>h
 |_,_,_,_,.cons a t,h=>.cons a (zwu t h)
theorem zwv(h:YQ vs us):∀n,YQ (Pp n vs).flatten (Pp n us).flatten
 |0=>.nil
 |n+1=>by
  exact zwu h (zwv h n)
theorem zww{K:Frag}{O:Addr->Prop}{H:Hp}:∀{vs Fp:List V}{us HJ:List OY},YK K O H vs us->YK K O H Fp HJ->YK K O H (vs++Fp) (us++HJ)
 |_,_,_,_,.nil,h=>h
 |_,_,_,_,.cons a t,h=>.cons a (zww t h)
theorem zwx{K:Frag}{O:Addr->Prop}{H:Hp}{vs:List V}{xs:List OY}(h:YK K O H vs xs):∀n,YK K O H (Pp n vs).flatten (Pp n xs).flatten
 |0=>.nil
 |n+1=>by
  exact zww h (zwx h n)
section
variable {X:Cx}{P:Pu}{w:PU}{K:Frag}{mg:Str->Option O9}{base:Heap}{C:Addr}{B:Prop}{x q:Str}{st:Stmt}{ps:List Str}{k:Nat}{m:FS}{pos p p2:Pos}{e ce:Expr}{fe:FE}{c:FT}{g:FS}{rest:List Stmt}
noncomputable def zid:Zx X (QL .Mult) (λx y H Q=>∃a k vs,x=.ref a/\y=.int k/\Zc X.K H a vs/\(0<vs.length/\vs.length<=20/\0<=k/\k<=200)/\∀p,H p=HA->Q (.ref p) (upd H p (.lst (Pp k.toNat vs).flatten))):=by
 intro pins s σ H x y v u Q I rx ry h;obtain⟨a,k,vs,rfl,rfl,hq,⟨h0,h20,hk⟩,q⟩:=h;cases rx;obtain⟨t,rfl⟩:=ry;obtain⟨YL,r,pl,_⟩:=I.list hq;have hl:=r.length;obtain⟨⟨cls,dd,data,sl⟩,n,ho,c,d1,d2⟩:=pl;simp only at c d1 d2;subst c d1 d2
 have hn:k.toNat<=200:=by lia
 have CI:¬(!Builtin.List.listFitsIndex k)=G3:=by
  simp[Sw];lia
 have hm:YL.length*k.toNat<=4000:=PB (Uh (show YL.length<=20 by lia) hn) (by decide)
 have YN:¬(YL.toArray.size*k.toNat>(2^63-1) / 8):=by
  rw[Qo]
  lia
 have YY:¬QE (YL.toArray.size*k.toNat)=G3:=by
  rw[Qo];simp[QE,Uu]
  lia
 have hfo:∀(n:Nat) (acc:Array O9),SS (λx1 x2=>x1++x2) acc (Pp n YL.toArray)=acc++(Pp n YL).flatten.toArray:=λn=>by
  induction n with
  |zero=>intro acc;simp
  |succ n ih=>intro acc;rw[TN,Xc,ih];exact Array.ext' (by simp[TN])
 have CB:¬YL.toArray.isEmpty=G3:=by
  cases YL with
  |nil=>rw[hl] at h0;exact absurd h0 (by simp)
  |cons a b=>simp
 have Do:SS (λx1 x2=>x1++x2) #[] (Pp (if YL.toArray.isEmpty=G3 then 0 else k.toNat) YL.toArray)=(Pp k.toNat YL).flatten.toArray:=by
  rw[if_neg CB,hfo];simp
 refine Ur (T:="list") (U:="int") (by decide) ⟨_,ho,rfl⟩ (λs'=>U5 s' k t) noFill_list_mul Xe Tw repeat_list WY.lookup
  (RH Tw (U5 s k t) WZ (WE _ _) (zhl k t a YL.toArray n HA sl)
   ⟨ho,rfl,⟨_,ho,rfl⟩,RH PySem.F.slot_list_mul ⟨_,ho,rfl⟩ PySem.F.entry_list_mul (PySem.F.args_list_mul_2 _ _) (zhk a YL.toArray n HA sl k t CI YN YY) ⟨ho,?_⟩⟩)
 rw[Do];refine⟨.ref s.heap.objs.size,_,I.laid (t':=s.toks) (o:=.lst (Pp k.toNat vs).flatten) (λb ob q=>Pd _ q) (Pk _) ?_,rfl,q _ (I.hok.fresh (Pk _))⟩;refine⟨?_,(Pp k.toNat YL).flatten,0,zwv r _,Pw _ rfl⟩;rw[List.length_flatten,List.map_replicate,List.sum_replicate_nat,hl,Yn];exact PB hm (by decide)
noncomputable def gx:OY->OY->Option OY
 |.list xs,.int k=>if 0<xs.length/\xs.length<=20/\0<=k/\k<=200 then KQ (.list (Pp k.toNat xs).flatten) else HA
 |_,_=>HA
noncomputable def tD:Z6 X (QL .Mult) gx:=⟨_,zid,λO ts H T v1 v2 x y d Q hc h1 h2 e q=>by
 unfold gx at e;split at e
 .split at e
  .rename_i hk
   cases e;obtain⟨a,vs,rfl,t,r⟩:=h1.lst;cases h2.int;have hl:=r.length;exact⟨a,_,_,rfl,rfl,t,⟨by lia,by lia,hk.2.2⟩,λp hp=>q _ _ (.new hp _) (hc.new hp _) (hc.newL hp (zwx r _))⟩
  .cases e
 .cases e⟩
noncomputable def pR(b:B)(d:Cb K C x q st)(N:List Str)(Zw:∀{f:Addr}{Y9:O9}{A:Qa}{outer:List Env}{s:Pe}{H:Hp}{E:XK},B->Y2 N ps (aO st)->YW k (A.deeper (S4 q (aO st) s.heap.objs.size f Y9))->GN (ef Z7 P w K mg base N q (aO st) f Y9 A outer s H E).nox (bP st) m)
  (S:autoParam (Jb N ps (aO st)=G3) u17)
  (hb:autoParam (∀(kV doc pm:O9) (an:Option Addr) (Y9 ct:O9) (us:List O9),us.length=ps.length->SE (Qf x q (df st) (bP st) (aO st) .none kV doc pm an Y9 ct) ⟨us,[]⟩=pure (ps.zip us)) u21):Jj P w K mg base C x ps (k+1) (Y1 K ps.length (aJ N.length m)):=d.mth hb λ_ _ F=>yV F (dX S) λ_ _ _ _ _ _ hr=>Zw b (dX S) hr
noncomputable def zie(b:B)(d:Cb K C "__init__" q st)(g:Fg K C=G3)(N:List Str)(Zw:∀{f:Addr}{Y9:O9}{A:Qa}{outer:List Env}{s:Pe}{H:Hp}{E:XK},B->Y2 N ps (aO st)->YW k (A.deeper (S4 q (aO st) s.heap.objs.size f Y9))->GN (ef Z7 P w K mg base N q (aO st) f Y9 A outer s H E).nox (bP st) m)
  (S:autoParam (Jb N ps (aO st)=G3) u17)
  (hb:autoParam (∀(kV doc pm:O9) (an:Option Addr) (Y9 ct:O9) (us:List O9),us.length=ps.length->SE (Qf "__init__" q (df st) (bP st) (aO st) .none kV doc pm an Y9 ct) ⟨us,[]⟩=pure (ps.zip us)) u21):Fz P w K mg base C ps (k+1) (Y1 K ps.length (aJ N.length m)):=d.ini g hb λ_ _ F=>yV F (dX S) λ_ _ _ _ _ _ hr=>Zw b (dX S) hr
noncomputable def YU(i:Nat){jd}(hN:autoParam (X.N[i]? = KQ x) u10)(hv:autoParam (BS X.env.scope x) u20)(hd:autoParam ((x == ("__debug__" : Str))=Gy) u11)
  (hcd:autoParam ((x == ("__classdict__" : Str))=Gy) u11):DE X (.Subscript (.Name x p) (.Constant (.int j) jd p2) pos) (ae Y8 (aa i) (fC (.int j))):=bc aZ (af i hN hv hd hcd) ak
noncomputable def Za(he:DE X e fe):GN X [.Return (KQ e) pos] (aj fe):=bo (zfe he)
noncomputable def Y4(hc:DT X ce c)(he:DE X e fe)(hr:GN X rest g):GN X (.If ce [.Return (KQ e) p] [] pos::rest) (ah (YT c (aj fe) aw) g):=ay (cy hc (Za he) cK) hr
noncomputable def ZU(hm:X.mg "len"=HA)(he:DE X e fe)(hg:autoParam (Gl X "len") u12)(hs:autoParam (noStar e=G3) u12):DE X (.Call (.Name "len" p) [e] [] pos) (Zy aW (ab fe ag)):=eJ mZ hg hm WI (ao he aC (bf hs)) (by decide) (by decide) (bf hs)
noncomputable def Zb{x1}(ha:DE X a f1)(hb:DE X b f2)(h1:autoParam (noStar a=G3) u12)(h2:autoParam (noStar b=G3) u12):DE X (.Tuple [a,b] x1 pos) (av .tuple (ab f1 (ab f2 ag))):=bX (ao ha (ao hb aC (bf h2)) (bf h1))
end
end D
namespace G
open L2 D

def aS(k:Nat)(h:0<k):∃j,k=j+1:=⟨k-1,by omega⟩
abbrev ac:FE:=fC (.int 1)
abbrev bm:FE:=fC (.int 0)
abbrev bn:FE:=aa 0
abbrev ca:FE:=aa 1
abbrev ci:FE:=fC (.str "fails")
abbrev db:FE:=aa 2
abbrev dL:FE:=aa 3
abbrev f8:FE:=fC (.str "value")
abbrev ga:FE:=aa 6
abbrev ge:FE:=fC (.int 2)
abbrev gl:FE:=fC (.int 26)
abbrev ii:FE:=aa 4
abbrev im:FE:=fC (.bool Gy)
abbrev io:FE:=aa 5
abbrev kt:FE:=fC (.str "abcdefghijklmnopqrstuvwxyz")
abbrev ld:FE:=fC (.str "put")
abbrev mt:FE:=fC (.str "kind")
abbrev o0:FE:=fC (.str "made")
abbrev pc:FE:=fC (.int 3)
abbrev pi:FE:=fC (.int 10)
abbrev pp:FE:=fC (.str "got")
abbrev sw:FE:=aa 7
abbrev sK:FE:=fC (.str "when")
abbrev tz:FE:=aa 8
abbrev u8:FE:=fC (.str "row")
abbrev wf:FE:=fC .none
abbrev wl:FE:=fC (.str "wants")
abbrev wn:FE:=fC (.int 8)
abbrev wp:FE:=fC (.str "")
abbrev wr:FE:=fC (.int 12)
abbrev wv:FE:=fC (.str "want")
abbrev ww:FE:=fC (.str "fail")
abbrev wE:FE:=fC (.str "part")
abbrev wP:FE:=fC (.int 2147483629)
abbrev wS:FE:=fC (.int 4)
abbrev wT:FE:=fC (.int 18)
abbrev xz:FE:=fC (.int 20)
abbrev zn:FE:=fC (.str "say")
abbrev At:FE:=fC (.str ")")
abbrev AT:FE:=fC (.str "a")
abbrev BT:FE:=fC (.str "great")
abbrev Ch:FE:=fC (.int 60)
abbrev Cl:FE:=fC (.str "peek")
abbrev Db:FE:=fC (.str "many")
abbrev Fa:FE:=fC (.str "join")
abbrev Fr:FE:=fC (.str "same")
abbrev Go:FE:=fC (.str "name")
abbrev Id:FE:=fC (.str "sum")
abbrev Ix:FE:=fC (.int 5)
abbrev IN:FE:=fC (.int 9)
abbrev IO(f:FE):FA:=ab f ag
abbrev KK:FE->FE->FE:=ae Y8
abbrev LE:FA->FE:=av .tuple
abbrev LT:FE->FE->FE:=ae Z5
abbrev No:FE->FE->FE:=ae aI
abbrev O0:FA->FE:=Zy aW
abbrev O4:FA->FE:=av .list
abbrev O5:FE->FE->FE:=ae bF
abbrev O6:FE->FE->FE:=ae cq
abbrev O7:FE->FE->FE:=ae Fv
abbrev O8:FE->FE->FE:=ae HD
noncomputable def i4(C:Addr):YX:=aJ 2 (ah (jA C "parted" bn (ae ms ca (fC (.str " ")))) (ah (jA C "place" bn bm) (jA C "begun" bn bm)))
noncomputable def ie(C:Addr):YX:=aJ 1 (aj (dQ (aq (O7 (fN C "place" bn) (O0 (IO (fN C "parted" bn))))) (KK (fN C "parted" bn) (fN C "place" bn)) wp))
noncomputable def i7(C:Addr):YX:=aJ 2 (ah (YT (bA (aP ca)) uc aw) (jA C "place" bn (No (fN C "place" bn) ac)))
noncomputable def lz(C:Addr):YX:=aJ 3 (ah (fF (dv C "take" (i7 C) bn (IO (cW ca (cW (O7 db xz) (O7 (fN C "begun" bn) Ch)))))) (jA C "begun" bn (No (fN C "begun" bn) ac)))
noncomputable def jP(C:Addr):YX:=aJ 1 (YT (aq (O7 (fN C "place" bn) (O0 (IO (fN C "parted" bn))))) uc aw)
noncomputable def fi:YX:=aJ 1 (aj (cW (Zq (bu .int) bn) (kQ (Zq (bu .bl) bn))))
noncomputable def fS:YX:=aJ 2 (aj (Zy hW (IO (bY (bE bn) bU (ae inD bn db)))))
noncomputable def eP:YX:=aJ 1 (aj (cW (Zq (bu .str) bn) (cW (gP Dr Dr ac (O0 (IO bn)) wn) (ar fS (ab bn (IO kt))))))
noncomputable def lE:YX:=aJ 1 (ah (YT (aP (ar fi (IO bn))) (aj (ae Dr (Zy qh (IO bn)) (ae g7 pi wT))) aw) (aj (cW (Zq (bu .str) bn) (cW (ae Dr (O0 (IO bn)) xz) (ar fS (ab bn (IO (fC (.str "abcdefghijklmnopqrstuvwxyz0123456789-")))))))))
noncomputable def fR:Nat->YX
 |0=>λ_ _=>HA
 |n+1=>aJ 2 (ah (YT (bA (aP (Zq (bu .tup) bn))) (aj (ar lE (IO bn))) aw) (ah (YT (bO (aq (LT ca bm)) (aq (O8 (O0 (IO bn)) wn))) (aj im) aw) (aj (Zy hW (IO (bY (bE bn) bU (ar (fR n) (ab bn (IO (ae dw db ac))))))))))
noncomputable def jg:Nat->YX
 |0=>λ_ _=>HA
 |n+1=>aJ 1 (ah (YT (bA (aP (Zq (bu .tup) bn))) (aj ac) aw) (aj (No ac (Zy p8 (IO (bY (bE bn) bU (ar (jg n) (IO bn))))))))
noncomputable def jW:YX:=aJ 1 (aj (cW (ar (fR 25) (ab bn (IO wS))) (ae Dr (ar (jg 25) (IO bn)) (fC (.int 40)))))
noncomputable def cA:YX:=aJ 1 (ah (YT (bO (aq (LT (KK bn bm) ld)) (aq (LT (KK bn bm) pp))) (aj (O4 ag)) aw) (ah (YT (aq (LT (KK bn bm) u8)) (aj (Zy kM (IO (KK bn ac)))) aw) (aj (Zy kM (IO (GF bn (fP ac) fM))))))
noncomputable def lB:YX:=aJ 2 (aj (dQ (aq (ae inD bn (fC (.tuple [.str "want",.str "peek"])))) (No ca ac) ca))
noncomputable def ip:Nat->YX
 |0=>λ_ _=>HA
 |n+1=>aJ 1 (ah (YT (aq (LT (KK bn bm) Cl)) (aj im) aw) (aj (Zy hW (IO (bY (bE (GF bn (fP ge) fM)) bU (ar (ip n) (IO bn)))))))
noncomputable def fh:Nat->YX
 |0=>λ_ _=>HA
 |n+1=>aJ 1 (ah (YT (aP (ar fi (IO bn))) (aj (Zy gv (IO bn))) aw) (ah (YT (aP (Zq (bu .str) bn)) (aj (No (fC (.str "'")) bn)) aw) (aj (No (No (fC (.str "(")) (ae fD (fC (.str ",")) (bY (bE bn) bU (ar (fh n) (IO bn))))) At))))
noncomputable def ig:YX:=aJ 1 (ah (YT (bO (aq (LT bn wp)) (bA (aP (ar fS (ab bn (IO (fC (.str "0123456789")))))))) (aj im) aw) (aj (lh (LT bn (fC (.str "0"))) (kQ (ae iC bn (fC (.str "0")))))))
noncomputable def lD:YX:=aJ 2 (ah (ax 1 (dQ (aP (ae iC bn (fC (.str "-")))) (GF bn (fP ac) fM) bn)) (ah (YT (bO (aq (LT bn (fC (.str "-0")))) (bO (aq (O8 (O0 (IO ca)) (fC (.int 19)))) (bA (aP (ar ig (IO ca)))))) (aj wf) aw) (aj (Zy intD (IO bn)))))
noncomputable def lC:YX:=aJ 1 (ah (YT (aP (ae iC bn (fC (.str "'")))) (aj (GF bn (fP ac) fM)) aw) (aj (ar lD (IO bn))))
noncomputable def jT:YX:=aJ 4 (ah (ax 2 ca) (ah (bL (cX (aq (O7 db (O0 (IO bn)))) (aq (ae eV (KK bn db) (fC (.str "(),"))))) (ax 2 (No db ac)) 100000) (ah (ax 3 (ar lC (IO (GF bn (fP ca) (fP db))))) (aj (dQ (aq (ae EK dL wf)) wf (LE (ab dL (IO db))))))))
mutual
def lQ:Nat->YX
 |0=>λ_ _=>HA
 |n+1=>aJ 6 (ah (YT (aq (LT (GF bn (fP ca) (fP (No ca ac))) At)) (aj (LE (ab (LE ag) (IO (No ca ac))))) aw) (ah (cO 3 ag) (bL (aP (fC (.bool G3))) (ah (ax 4 (ar (eI n) (ab bn (ab ca (IO db))))) (ah (YT (aq (ae EK ii wf)) (aj wf) aw) (ah (cH 3 (KK ii bm)) (ah (ax 1 (No (KK ii ac) ac)) (ah (ax 5 (GF bn (fP (KK ii ac)) (fP ca))) (ah (YT (aq (LT io At)) (aj (LE (ab (Zy dS (IO dL)) (IO ca)))) aw) (YT (aq (ae Kg io (fC (.str ",")))) (aj wf) aw))))))) 100000)))
def eI:Nat->YX
 |0=>λ_ _=>HA
 |n+1=>aJ 3 (ah (YT (aq (ae Kg (GF bn (fP ca) (fP (No ca ac))) (fC (.str "(")))) (aj (ar jT (ab bn (IO ca)))) aw) (ah (YT (aq (LT db bm)) (aj wf) aw) (aj (ar (lQ n) (ab bn (ab (No ca ac) (IO (ae dw db ac))))))))
end
noncomputable def iu:YX:=aJ 2 (ah (ax 1 (ar (eI 25) (ab bn (ab bm (IO wS))))) (ah (YT (bO (aq (ae EK ca wf)) (aq (O7 (KK ca ac) (O0 (IO bn))))) (aj wf) aw) (aj (dQ (aP (ar jW (IO (KK ca bm)))) (KK ca bm) wf))))
noncomputable def h7:YX:=aJ 1 (ah (YT (aq (LT (KK bn bm) ld)) (aj (O4 (IO (ar (fh 25) (IO (KK bn ac)))))) aw) (ah (YT (aq (LT (KK bn bm) pp)) (aj (O4 (IO (Zy gv (IO (KK bn ac)))))) aw) (ah (YT (aq (LT (KK bn bm) u8)) (aj (O4 (IO (Zy gv (IO (O0 (IO (KK bn ac)))))))) aw) (aj (O4 ag)))))
noncomputable def gB:Nat->YX
 |0=>λ_ _=>HA
 |n+1=>aJ 3 (ah (jB 1 (O4 (IO (KK bn bm))) (ar h7 (IO bn))) (ah (cG 2 (bE (ar cA (IO bn))) (iW 1 (ar (gB n) (IO db)))) (aj ca)))
noncomputable def ic:Nat->YX
 |0=>λ_ _=>HA
 |n+1=>aJ 3 (ah (YT (aq (LT (KK bn bm) ww)) (aj (O4 (ab (KK bn bm) (IO (KK bn ac))))) aw) (ah (jB 1 (O4 (IO (KK bn bm))) (ar (gB 25) (IO (KK bn ac)))) (ah (cG 2 (bE (GF bn (fP ge) fM)) (iW 1 (ar (ic n) (IO db)))) (aj ca))))
noncomputable def nu:YX:=aJ 1 (aj (ae pJ (fC (.str " ")) (ar (ic 25) (IO bn))))
noncomputable def nX(C:Addr):YX:=aJ 2 (ah (ax 1 (ar iu (IO (dv C "ahead" (ie C) bn ag)))) (ah (fF (dv C "take" (i7 C) bn (IO (ae f7 ca wf)))) (aj ca)))
noncomputable def lw(C:Addr):YX:=aJ 4 (ah (ax 2 (bY (fE ca) bU (Zy gv (IO bn)))) (ah (ax 3 (dv C "ahead" (ie C) bn ag)) (ah (fF (dv C "take" (i7 C) bn (IO (ae inD dL db)))) (aj (uq db dL)))))
mutual
def lH(C:Addr):Nat->YX
 |0=>λ_ _=>HA
 |n+1=>aJ 4 (aj (Zy dS (IO (bY (fE ca) bU (ar (fU C n) (ab ca (ab dL (IO ii))))))))
def fU(C:Addr):Nat->YX
 |0=>λ_ _=>HA
 |n+1=>aJ 4 (ah (ax 3 (dv C "ahead" (ie C) bn ag)) (ah (fF (dv C "begin" (lz C) bn (ab (lh (ae inD dL (fC (.tuple [.str "put",.str "got",.str "row"]))) (Zq (Jq [("many",1),("part",2),("sum",2),("join",2),("same",2),("less",2)]) dL)) (IO ca)))) (ah (YT (aq (LT dL ld)) (aj (LE (ab dL (IO (ar (nX C) (IO bn)))))) aw) (ah (YT (aq (LT dL pp)) (aj (LE (ab dL (IO (ar (lw C) (ab bn (IO db))))))) aw) (ah (YT (aq (LT dL u8)) (aj (LE (ab dL (IO (ar (lH C n) (ab bn (ab (ar (lw C) (ab bn (IO (No wn ac)))) (ab (No ca ac) (IO db))))))))) aw) (aj (No (LE (IO dL)) (ar (lH C n) (ab bn (ab (Zq (atT [("many",1),("part",2),("sum",2),("join",2),("same",2),("less",2)]) dL) (ab (No ca ac) (IO db))))))))))))
end
noncomputable def nQ(C:Addr):YX:=aJ 2 (ah (ax 1 (dv C "ahead" (ie C) bn ag)) (ah (fF (dv C "take" (i7 C) bn (IO (ar eP (IO ca))))) (aj ca)))
noncomputable def e8(C:Addr):Nat->YX
 |0=>λ_ _=>HA
 |n+1=>aJ 6 (ah (ax 3 (dv C "ahead" (ie C) bn ag)) (ah (fF (dv C "begin" (lz C) bn (ab (cW (Zq (Jq [("say",0),("fail",0),("want",1),("peek",1),("when",2)]) dL) (kQ (cW (ae inD dL (fC (.tuple [.str "want",.str "peek"]))) (LT db wr)))) (IO ca)))) (ah (YT (aq (LT dL ww)) (aj (LE (ab dL (IO (ar (nQ C) (IO bn)))))) aw) (ah (ax 4 (ar (fU C 25) (ab bn (ab (No ca ac) (IO db))))) (ah (ax 5 (ar lB (ab dL (IO db)))) (aj (No (LE (ab dL (IO ii))) (Zy dS (IO (bY (fE (Zq (atT [("say",0),("fail",0),("want",1),("peek",1),("when",2)]) dL)) bU (ar (e8 C n) (ab ca (ab (No db ac) (IO ga))))))))))))))
noncomputable def ny(C:Addr):YX:=aJ 3 (kR 1 C (i4 C) bn (ah (ax 2 (ar (e8 C 25) (ab ca (ab bm (IO bm))))) (ah (fF (dv C "finish" (jP C) ca ag)) (aj db))))
def nq(C:Addr):YX:=aJ 1 (aj (ar (ny C) (IO bn)))
noncomputable def ik:YX:=aJ 2 (ah (YT (bO (bA (aP (ar fi (IO bn)))) (bA (aP (ar fi (IO ca))))) (aj (LE (ab ci (IO mt)))) aw) (aj (LE (ab f8 (IO (dQ (aq (O7 bn ca)) ac bm))))))
noncomputable def iy:YX:=aJ 1 (aj (dQ (aP (ar jW (IO bn))) (LE (ab f8 (IO bn))) (LE (ab ci (IO BT)))))
noncomputable def ij:YX:=aJ 1 (ah (YT (aP (ar fi (IO bn))) (aj (LE (ab ci (IO mt)))) aw) (aj (LE (ab f8 (IO (O0 (IO bn)))))))
noncomputable def gE:YX:=aJ 2 (ah (YT (bO (bA (aP (Zq (bu .tup) bn))) (bA (aP (ar fi (IO ca))))) (aj (LE (ab ci (IO mt)))) aw) (ah (YT (bA (aq (gP Dr Fv bm ca (O0 (IO bn))))) (aj (LE (ab ci (IO wE)))) aw) (aj (LE (ab f8 (IO (KK bn ca)))))))
noncomputable def jb:YX:=aJ 2 (ah (YT (bO (bA (aP (ar fi (IO bn)))) (bA (aP (ar fi (IO ca))))) (aj (LE (ab ci (IO mt)))) aw) (aj (ar iy (IO (No bn ca)))))
noncomputable def gF:YX:=aJ 2 (ah (YT (cX (aP (Zq (bu .str) bn)) (aP (Zq (bu .str) ca))) (aj (ar iy (IO (No bn ca)))) aw) (ah (YT (cX (aP (Zq (bu .tup) bn)) (aP (Zq (bu .tup) ca))) (aj (ar iy (IO (No bn ca)))) aw) (aj (LE (ab ci (IO mt))))))
noncomputable def bh:YX:=aJ 2 (ah (YT (aq (LT bn u8)) (aj (ar iy (IO (Zy dS (IO ca))))) aw) (ah (YT (aq (LT bn Db)) (aj (ar ij (IO (KK ca bm)))) aw) (ah (YT (aq (LT bn wE)) (aj (ar gE (ab (KK ca bm) (IO (KK ca ac))))) aw) (ah (YT (aq (LT bn Id)) (aj (ar jb (ab (KK ca bm) (IO (KK ca ac))))) aw) (ah (YT (aq (LT bn Fa)) (aj (ar gF (ab (KK ca bm) (IO (KK ca ac))))) aw) (ah (YT (aq (LT bn Fr)) (aj (LE (ab f8 (IO (dQ (aq (ae Fe (KK ca bm) (KK ca ac))) ac bm))))) aw) (aj (ar ik (ab (KK ca bm) (IO (KK ca ac)))))))))))
noncomputable def cV:Nat->YX
 |0=>λ_ _=>HA
 |n+1=>aJ 5 (ah (YT (aq (LT (KK bn bm) ld)) (aj (LE (ab f8 (IO (KK bn ac))))) aw) (ah (YT (aq (LT (KK bn bm) pp)) (aj (LE (ab f8 (IO (KK ca (KK bn ac)))))) aw) (ah (cO 2 ag) (ah (cG 3 (bE (ar cA (IO bn))) (ah (ax 4 (ar (cV n) (ab dL (IO ca)))) (ah (YT (aq (LT (KK ii bm) ci)) (aj ii) aw) (cH 2 (KK ii ac))))) (aj (dC bh (ab (KK bn bm) (IO db))))))))
noncomputable def bC:Nat->YX
 |0=>λ_ _=>HA
 |n+1=>aJ 3 (ah (YT (aq (LT (KK bn bm) ww)) (aj (LE (ab ci (IO (KK bn ac))))) aw) (ah (ax 2 (ar (cV 25) (ab (KK bn ac) (IO ca)))) (ah (YT (aq (LT (KK db bm) ci)) (aj db) aw) (ah (YT (aq (LT (KK bn bm) sK)) (aj (ar (bC n) (ab (dQ (aq (ae FJ (KK db ac) (LE (ab bm (ab wp (IO (LE ag))))))) (KK bn pc) (KK bn ge)) (IO ca)))) aw) (ah (YT (aq (LT (KK bn bm) zn)) (aj (LE (ab o0 (IO (KK db ac))))) aw) (ah (YT (bA (aP (ar eP (IO (KK db ac))))) (aj (LE (ab ci (IO Go)))) aw) (aj (LE (ab (KK bn bm) (ab (KK db ac) (IO (KK bn ge))))))))))))
noncomputable def nH:YX:=aJ 9 (ah (eX 3 "want" "peek" ca db) (ah (eX 4 "want" "peek" bm bm) (ah (cO 5 ag) (ah (ax 6 (dC (bC 25) (ab bn (IO io)))) (ah (bL (aq (ae kO (KK ga bm) dL)) (ah (ax 7 (ae cD dL (KK ga bm))) (ah (ax 8 (ae cD ii (KK ga bm))) (ah (YT (bO (aq (ae CH tz (O0 (IO sw)))) (aq (ae Kg (KK (KK sw tz) bm) (KK ga ac)))) (aj (LE (ab (LE (ab (Zq (atS [("want","wants"),("peek","peeks")]) (KK ga bm)) (IO (KK ga ac)))) (IO (ae cD ii wv))))) aw) (ah (cH 5 (KK (KK sw tz) ac)) (ah (kP 4 (KK ga bm) (No tz ac)) (ax 6 (dC (bC 25) (ab (KK ga ge) (IO io))))))))) 100000) (aj (LE (ab ga (IO (ae cD ii wv))))))))))
noncomputable def j3:YX:=aJ 4 (ah (ax 3 (ar nH (ab bn (ab ca (IO db))))) (ah (YT (aq (O7 (KK dL ac) (O0 (IO ca)))) (aj (LE (ab (fC (.str "strays")) (IO (KK dL ac))))) aw) (aj (KK dL bm))))
noncomputable def jX:YX:=aJ 1 (aj (cW (Zq (bu .str) bn) (ae f7 (ar iu (IO bn)) wf)))
noncomputable def lM:YX:=aJ 1 (aj (cW (Zq (bu .tup) bn) (cW (LT (O0 (IO bn)) ge) (cW (ar eP (IO (KK bn bm))) (ar jX (IO (KK bn ac)))))))
noncomputable def nE:YX:=aJ 1 (ah (YT (bO (bA (aP (Zq (bu .tup) bn))) (aq (O8 (O0 (IO bn)) wr))) (aj im) aw) (aj (Zy hW (IO (bY (bE bn) bU (ar lM (IO bn)))))))
noncomputable def lR:YX:=aJ 1 (ah (YT (bO (bA (aP (Zq (bu .tup) bn))) (bO (aq (ae Kg (O0 (IO bn)) ge)) (bA (aP (Zq (bu .str) (KK bn bm)))))) (aj im) aw) (ah (YT (aq (LT (KK bn bm) o0)) (aj (ar jX (IO (KK bn ac)))) aw) (aj (cW (ae inD (KK bn bm) (LE (ab ci (IO wl)))) (ar eP (IO (KK bn ac)))))))
noncomputable def lI:YX:=aJ 4 (ah (ax 3 (ar j3 (ab bn (ab (bY (bE ca) bU (LE (ab (KK bn bm) (IO (ar iu (IO (KK bn ac))))))) (IO (O4 ag)))))) (ah (YT (aq (LT (KK dL bm) o0)) (aj (ae Fe db (LE (ab o0 (IO (ar (fh 25) (IO (KK dL ac)))))))) aw) (aj (ae Fe db dL))))
noncomputable def nG(C:Addr):YX:=aJ 2 (ah (YT (bO (bA (aP (Zq (bu .tup) bn))) (bO (aq (ae Kg (O0 (IO bn)) pc)) (bA (aP (Zq (bu .str) (KK bn bm)))))) (aj im) aw) (ah (YT (bO (bA (aP (ar nE (IO (KK bn ac))))) (bO (bA (aP (ar lR (IO (KK bn ge))))) (aq (LT (KK (KK bn ge) bm) wl)))) (aj im) aw) (ah (ax 1 (ar (nq C) (IO (KK bn bm)))) (aj (cW (ae f7 ca wf) (cW (ar (ip 25) (IO ca)) (ar lI (ab ca (ab (KK bn ac) (IO (KK bn ge)))))))))))
noncomputable def gD:YX:=kJ 7 (ah (ax 3 bm) (ah (YT (aq (O8 (O0 (IO bn)) bm)) (ax 3 (KK bn (O5 ca (O0 (IO bn))))) aw) (ah (cO 4 ag) (ah (YT (aq (ae CH dL (ae g7 pi wT))) (ah (cG 5 (bE db) (ah (cH 4 (O5 dL io)) (ax 3 (ae pM dL io)))) (gc 4)) aw) (ah (cG 5 (bE db) (ah (ax 6 (O5 (No (No dL (O6 (fC (.int 7919)) ca)) (O6 (fC (.int 104729)) (O0 (IO ii)))) wP)) (ah (ax 6 (O5 (No (No (O6 ga ga) (O6 (fC (.int 48271)) ga)) ca) wP)) (ah (ax 6 (O5 (No (No (O6 ga ga) (O6 (fC (.int 69621)) ga)) (O0 (IO ii))) (fC (.int 2147483587)))) (cH 4 (O5 ga io)))))) (gc 4))))))
noncomputable def qm:YX:=aJ 10 (ah (ax 3 kt) (ah (ax 4 (O4 (ab (fC (.str "told")) (ab o0 (ab wv (ab zn (ab AT (ab (fC (.str "b")) (ab wl (ab ci (ab pp (ab sK (ab ld (IO (fC (.str "ab")))))))))))))))) (ah (ph 5 gD (ab bn (ab ca (IO (No (O4 (IO Ix)) (ae gx (O4 (ab wn (ab gl (ab gl (ab gl (ab gl (ab gl (ab gl (ab gl (IO gl)))))))))) db)))))) (ah (cO 6 ag) (ah (cG 7 (fE db) (ah (ax 8 (GF io (fP (No ac (O6 IN sw))) (fP (No pi (O6 IN sw))))) (ah (ax 9 (ae fD wp (bY (bE (GF tz (fP ac) (fP (No ge (KK tz bm))))) bU (KK ii bn)))) (ah (YT (cX (aq (LT (KK io bm) bm)) (cX (aq (LT (O5 sw ge) ac)) (aq (O7 (O0 (IO (KK ga (ae dw sw ac)))) wn)))) (ax 9 (No (KK ga (ae dw sw ac)) (KK dL (KK tz ac)))) aw) (ah (YT (aq (LT (KK io bm) ac)) (ax 9 (KK ii (O5 (KK tz ac) wr))) aw) (ah (YT (aq (ae inD (aa 9) ga)) (ax 9 (KK (bY (bE (fC (.str "uvwxyz"))) (aq (ae eV bn sw)) bn) bm)) aw) (cH 6 (aa 9)))))))) (aj ga))))))
noncomputable def dA:YX:=aJ 1 (aj (dQ (aq (O8 (O0 (IO bn)) bm)) (ub bn) bm))
noncomputable def i8:YX:=aJ 3 (ah (ax 2 (No (O4 (ab bm (ab ac (ab ge (ab (Zq jH ac) (ab (ae g7 pi wT) (ab wp (ab AT (ab (fC (.str "b-1")) (ab (LE ag) (ab (LE (IO bm)) (ab (LE (ab ac (IO AT))) (IO (LE (ab (LE ag) (IO pc)))))))))))))))) ca)) (aj (KK db (O5 (ar dA (IO bn)) (O0 (IO db))))))
noncomputable def ja:YX:=aJ 3 (ah (YT (cX (aq (O8 db bm)) (aq (O8 (O5 (ar dA (IO bn)) pc) bm))) (aj (LE (ab pp (IO (O5 (ar dA (IO bn)) db))))) aw) (aj (LE (ab ld (IO (ar i8 (ab bn (IO ca))))))))
noncomputable def eG:YX:=aJ 6 (ah (ax 3 (O5 (ar dA (IO bn)) wr)) (ah (ax 4 (ar ja (ab bn (ab ca (IO db))))) (ah (YT (aq (O7 dL wS)) (aj ii) aw) (ah (YT (aq (LT dL wS)) (aj (LE (ab Db (IO ii)))) aw) (ah (YT (aq (LT dL Ix)) (aj (LE (ab u8 (IO (LE (ab ii (IO (LE (ab ld (IO ac)))))))))) aw) (ah (ax 5 (KK (O4 (ab wE (ab Id (ab Fa (ab Fr (ab (fC (.str "less")) (IO Id))))))) (ae dw dL (fC (.int 6))))) (aj (LE (ab io (ab ii (IO (ar ja (ab bn (ab ca (IO db)))))))))))))))
noncomputable def dM:Nat->YX
 |0=>λ_ _=>HA
 |n+1=>aJ 10 (ah (ax 5 (O5 (ar dA (IO bn)) wr)) (ah (YT (bO (aq (LT dL bm)) (aq (O7 io ge))) (ah (YT (cX (aq (LT io ac)) (aq (LT (O5 (ar dA (IO bn)) ge) bm))) (aj (LE (ab ww (IO (KK ca (O5 (ar dA (IO bn)) (O0 (IO ca)))))))) aw) (aj (LE (ab zn (IO (ar eG (ab bn (ab ca (IO db))))))))) aw) (ah (YT (aq (O7 io wS)) (ah (ax 6 (ar eG (ab bn (ab ca (IO db))))) (ah (ax 7 (ar (dM n) (ab bn (ab ca (ab db (ab (ae dw dL ac) (IO ii))))))) (aj (LE (ab sK (ab ga (ab sw (IO (ar (dM n) (ab bn (ab ca (ab db (ab (ae dw dL ac) (IO ii)))))))))))))) aw) (ah (ax 8 (LE (ab ld (IO (KK ca (O5 (ar dA (IO bn)) (O0 (IO ca)))))))) (ah (YT (cX (aq (O8 db bm)) (aq (LT io wS))) (ax 8 (ar eG (ab bn (ab ca (IO db))))) aw) (ah (ax 9 wv) (ah (YT (cX (aP ii) (aq (LT io Ix))) (ax 9 Cl) aw) (aj (LE (ab (aa 9) (ab tz (IO (ar (dM n) (ab bn (ab ca (ab (No db ac) (ab (ae dw dL ac) (IO ii))))))))))))))))))
noncomputable def gG:Nat->YX
 |0=>λ_ _=>HA
 |n+1=>aJ 5 (ah (YT (bA (aP (Zq (bu .tup) bn))) (aj (LE (ab bm (IO ac)))) aw) (ah (ax 1 bm) (ah (ax 2 ac) (ah (cG 3 (bE bn) (ah (ax 4 (ar (gG n) (IO dL))) (ah (ax 1 (Zy mU (ab ca (IO (KK ii bm))))) (ax 2 (No db (KK ii ac)))))) (aj (LE (ab (No ca ac) (IO db))))))))
noncomputable def eg:YX:=aJ 2 (ah (YT (aP (Zq (bu .int) bn)) (aj (kQ (gP Dr Dr (Zq jH (ae g7 pi wT)) bn (ae g7 pi wT)))) aw) (ah (YT (aP (Zq (bu .str) bn)) (aj (O8 (O0 (IO bn)) xz)) aw) (ah (ax 1 (ar (gG 25) (IO bn))) (aj (lh (O8 (O0 (IO bn)) wn) (lh (O8 (KK ca bm) wS) (O8 (KK ca ac) (fC (.int 40)))))))))
noncomputable def bG:YX:=aJ 3 (ah (YT (aq (LT bn wE)) (ah (YT (bO (bA (aP (Zq (bu .tup) ca))) (bA (aP (Zq (bu .int) db)))) (aj (LE (ab ci (IO mt)))) aw) (ah (YT (bA (aq (gP Dr Fv bm db (O0 (IO ca))))) (aj (LE (ab ci (IO wE)))) aw) (aj (LE (ab f8 (IO (KK ca db))))))) aw) (ah (YT (aq (LT bn Fr)) (aj (LE (ab f8 (IO (Zy intD (IO (ae Fe ca db))))))) aw) (ah (YT (aq (LT bn Fa)) (YT (bO (aP (Zq (bu .int) ca)) (bO (aq (ae Kg (Zq (bu .str) ca) (Zq (bu .str) db))) (aP (Zq (bu .int) db)))) (aj (LE (ab ci (IO mt)))) aw) (YT (bO (bA (aP (Zq (bu .int) ca))) (bA (aP (Zq (bu .int) db)))) (aj (LE (ab ci (IO mt)))) aw)) (ah (YT (aq (LT bn (fC (.str "less")))) (aj (LE (ab f8 (IO (Zy intD (IO (O7 ca db))))))) aw) (ah (YT (aP (ar eg (IO (No ca db)))) (aj (LE (ab ci (IO BT)))) aw) (aj (LE (ab f8 (IO (No ca db))))))))))
noncomputable def cp:Nat->YX
 |0=>λ_ _=>HA
 |n+1=>aJ 6 (ah (YT (aq (LT (KK bn bm) ld)) (aj (LE (ab f8 (IO (KK bn ac))))) aw) (ah (YT (aq (LT (KK bn bm) pp)) (aj (LE (ab f8 (IO (KK ca (KK bn ac)))))) aw) (ah (ax 2 (GF bn (fP ac) fM)) (ah (YT (aq (LT (KK bn bm) u8)) (ax 2 (KK bn ac)) aw) (ah (cO 3 ag) (ah (cG 4 (bE db) (ah (ax 5 (ar (cp n) (ab ii (IO ca)))) (ah (YT (aq (LT (KK io bm) ci)) (aj io) aw) (cH 3 (KK io ac))))) (ah (YT (aq (LT (KK bn bm) u8)) (ah (YT (aP (ar eg (IO (Zy dS (IO dL))))) (aj (LE (ab ci (IO BT)))) aw) (aj (LE (ab f8 (IO (Zy dS (IO dL))))))) aw) (ah (YT (aq (LT (KK bn bm) Db)) (ah (YT (aP (Zq (bu .int) (KK dL bm))) (aj (LE (ab ci (IO mt)))) aw) (aj (LE (ab f8 (IO (O0 (IO (KK dL bm)))))))) aw) (aj (ar bG (ab (KK bn bm) (ab (KK dL bm) (IO (KK dL ac))))))))))))))
noncomputable def e7:Nat->YX
 |0=>λ_ _=>HA
 |n+1=>aJ 1 (ah (YT (aP (Zq (bu .int) bn)) (aj (Zy gv (IO bn))) aw) (ah (YT (aP (Zq (bu .str) bn)) (aj (No (fC (.str "'")) bn)) aw) (aj (No (No (fC (.str "(")) (ae fD (fC (.str ",")) (bY (bE bn) bU (ar (e7 n) (IO bn))))) At))))
noncomputable def i5:YX:=aJ 1 (ah (YT (bO (bA (aP (Zq (bu .str) bn))) (bA (aq (gP Dr Dr ac (O0 (IO bn)) wn)))) (aj im) aw) (aj (Zy hW (IO (bY (bE bn) bU (ae inD bn kt))))))
noncomputable def je:YX:=aJ 9 (ah (cO 3 ag) (ah (eX 4 "want" "peek" bm bm) (ah (eX 5 "want" "peek" ca db) (ah (ax 6 bn) (ah (bL (aq (ae inD (KK ga bm) (LE (ab wv (ab Cl (IO sK)))))) (ah (ax 7 (dC (cp 25) (ab (KK ga ac) (IO dL)))) (ah (YT (aq (LT (KK sw bm) ci)) (aj sw) aw) (YT (aq (LT (KK ga bm) sK)) (ax 6 (dQ (aq (ae FJ (KK sw ac) (LE (ab bm (ab wp (IO (LE ag))))))) (KK ga pc) (KK ga ge))) (ah (ax 8 (KK ga bm)) (ah (YT (bA (aP (ar i5 (IO (KK sw ac))))) (aj (LE (ab ci (IO Go)))) aw) (ah (YT (aq (LT (ae cD ii tz) (O0 (IO (ae cD io tz))))) (aj (LE (ab (No tz (fC (.str "s"))) (IO (KK sw ac))))) aw) (ah (cH 3 (KK (KK (ae cD io tz) (ae cD ii tz)) ac)) (ah (kP 4 tz (No (ae cD ii tz) ac)) (ax 6 (KK ga ge)))))))))) 100000) (ah (YT (aq (LT (KK ga bm) ww)) (aj (LE (ab ci (IO (KK ga ac))))) aw) (ah (ax 7 (dC (cp 25) (ab (KK ga ac) (IO dL)))) (ah (YT (aq (LT (KK sw bm) ci)) (aj sw) aw) (aj (LE (ab o0 (IO (KK sw ac)))))))))))))
noncomputable def jQ:YX:=aJ 7 (pj 4 gD (ab bn (ab ca (IO (ae gx (O4 (IO Ch)) wr)))) (ah (cO 5 ag) (ah (ax 6 (dC je (ab dL (ab io (IO (O4 ag)))))) (ah (bL (aq (LT (KK ga bm) wl)) (ah (cH 5 (LE (ab (KK ga ac) (IO (ar i8 (ab ii (IO db))))))) (ax 6 (dC je (ab dL (ab io (IO (O4 ag))))))) 100000) (aj (LE (ab io (IO ga))))))))
noncomputable def i9:YX:=aJ 3 (ah (ax 2 (KK ca ac)) (ah (YT (aq (LT (KK db bm) o0)) (ax 2 (LE (ab o0 (IO (ar (e7 25) (IO (KK db ac))))))) aw) (aj (LE (ab (ar nu (IO bn)) (ab (Zy dS (IO (pq (bE (KK ca bm)) bU (LE (ab bn (IO (ar (e7 25) (IO ca)))))))) (IO db)))))))
noncomputable def lr:YX:=aJ 4 (aj (tI (dM 25) gD (ab bn (ab ca (IO (ae gx (O4 (IO Ch)) (fC (.int 40)))))) (ab db (ab bm (ab pc (IO dL))))))
noncomputable def ql:YX:=aJ 7 (ah (cO 2 ag) (ah (cG 3 (fE pc) (ah (ax 4 (ar lr (ab bn (ab (No pi dL) (ab ca (IO im)))))) (cG 5 (fE pc) (ah (ax 6 (ar i9 (ab ii (IO (ar jQ (ab bn (ab (No (No xz (O6 pc dL)) io) (ab ca (IO ii))))))))) (YT (aq (ae iU ga db)) (cH 2 ga) aw))))) (aj db)))
noncomputable def lK:FS:=(ah (cH 4 (O5 dL io)) (ax 3 (ae pM dL io)))
noncomputable def lJ:FS:=(ah (ax 6 (O5 (No (No dL (O6 (fC (.int 7919)) ca)) (O6 (fC (.int 104729)) (O0 (IO ii)))) wP)) (ah (ax 6 (O5 (No (No (O6 ga ga) (O6 (fC (.int 48271)) ga)) ca) wP)) (ah (ax 6 (O5 (No (No (O6 ga ga) (O6 (fC (.int 69621)) ga)) (O0 (IO ii))) (fC (.int 2147483587)))) (cH 4 (O5 ga io)))))
theorem zif:gD=kJ 7 (ah (ax 3 bm) (ah (YT (aq (O8 (O0 (IO bn)) bm)) (ax 3 (KK bn (O5 ca (O0 (IO bn))))) aw) (ah (cO 4 ag) (ah (YT (aq (ae CH dL (ae g7 pi wT))) (ah (cG 5 (bE db) lK) (gc 4)) aw) (ah (cG 5 (bE db) lJ) (gc 4)))))):=rfl
noncomputable def nI:FS:=(ah (ax 8 (GF io (fP (No ac (O6 IN sw))) (fP (No pi (O6 IN sw))))) (ah (ax 9 (ae fD wp (bY (bE (GF tz (fP ac) (fP (No ge (KK tz bm))))) bU (KK ii bn)))) (ah (YT (cX (aq (LT (KK io bm) bm)) (cX (aq (LT (O5 sw ge) ac)) (aq (O7 (O0 (IO (KK ga (ae dw sw ac)))) wn)))) (ax 9 (No (KK ga (ae dw sw ac)) (KK dL (KK tz ac)))) aw) (ah (YT (aq (LT (KK io bm) ac)) (ax 9 (KK ii (O5 (KK tz ac) wr))) aw) (ah (YT (aq (ae inD (aa 9) ga)) (ax 9 (KK (bY (bE (fC (.str "uvwxyz"))) (aq (ae eV bn sw)) bn) bm)) aw) (cH 6 (aa 9)))))))
theorem zig:qm=aJ 10 (ah (ax 3 kt) (ah (ax 4 (O4 (ab (fC (.str "told")) (ab o0 (ab wv (ab zn (ab AT (ab (fC (.str "b")) (ab wl (ab ci (ab pp (ab sK (ab ld (IO (fC (.str "ab")))))))))))))))) (ah (ph 5 gD (ab bn (ab ca (IO (No (O4 (IO Ix)) (ae gx (O4 (ab wn (ab gl (ab gl (ab gl (ab gl (ab gl (ab gl (ab gl (IO gl)))))))))) db)))))) (ah (cO 6 ag) (ah (cG 7 (fE db) nI) (aj ga)))))):=rfl
noncomputable def nV(n:Nat):FS:=(ah (ax 4 (ar (gG n) (IO dL))) (ah (ax 1 (Zy mU (ab ca (IO (KK ii bm))))) (ax 2 (No db (KK ii ac)))))
theorem zwy(n:Nat):gG (n+1)=aJ 5 (ah (YT (bA (aP (Zq (bu .tup) bn))) (aj (LE (ab bm (IO ac)))) aw) (ah (ax 1 bm) (ah (ax 2 ac) (ah (cG 3 (bE bn) (nV n)) (aj (LE (ab (No ca ac) (IO db)))))))):=rfl
noncomputable def fT(n:Nat):FS:=(ah (ax 5 (ar (cp n) (ab ii (IO ca)))) (ah (YT (aq (LT (KK io bm) ci)) (aj io) aw) (cH 3 (KK io ac))))
noncomputable def de:FS:=(ah (ax 7 (dC (cp 25) (ab (KK ga ac) (IO dL)))) (ah (YT (aq (LT (KK sw bm) ci)) (aj sw) aw) (YT (aq (LT (KK ga bm) sK)) (ax 6 (dQ (aq (ae FJ (KK sw ac) (LE (ab bm (ab wp (IO (LE ag))))))) (KK ga pc) (KK ga ge))) (ah (ax 8 (KK ga bm)) (ah (YT (bA (aP (ar i5 (IO (KK sw ac))))) (aj (LE (ab ci (IO Go)))) aw) (ah (YT (aq (LT (ae cD ii tz) (O0 (IO (ae cD io tz))))) (aj (LE (ab (No tz (fC (.str "s"))) (IO (KK sw ac))))) aw) (ah (cH 3 (KK (KK (ae cD io tz) (ae cD ii tz)) ac)) (ah (kP 4 tz (No (ae cD ii tz) ac)) (ax 6 (KK ga ge))))))))))
noncomputable def jf:FS:=(ah (cH 5 (LE (ab (KK ga ac) (IO (ar i8 (ab ii (IO db))))))) (ax 6 (dC je (ab dL (ab io (IO (O4 ag)))))))
noncomputable def vF:FS:=(ah (cO 5 ag) (ah (ax 6 (dC je (ab dL (ab io (IO (O4 ag)))))) (ah (bL (aq (LT (KK ga bm) wl)) jf 100000) (aj (LE (ab io (IO ga)))))))
theorem zih:jQ=aJ 7 (pj 4 gD (ab bn (ab ca (IO (ae gx (O4 (IO Ch)) wr)))) vF):=rfl
noncomputable def jS:FS:=(ah (ax 6 (ar i9 (ab ii (IO (ar jQ (ab bn (ab (No (No xz (O6 pc dL)) io) (ab ca (IO ii))))))))) (YT (aq (ae iU ga db)) (cH 2 ga) aw))
noncomputable def nB:FS:=(ah (ax 4 (ar lr (ab bn (ab (No pi dL) (ab ca (IO im)))))) (cG 5 (fE pc) jS))
theorem zii:ql=aJ 7 (ah (cO 2 ag) (ah (cG 3 (fE pc) nB) (aj db))):=rfl
end G
namespace K1
open PySem
structure Sh(d:OY)(k n:Nat):Prop where
 sh:d.showable=G3
 lv:d.leavesShort 200=G3
 dp:d.depth<=k
 wt:d.weight<=n
def Sh.mono(h:Sh d k n)(hk:k<=k')(hn:n<=n'):Sh d k' n':=⟨h.sh,h.lv,PB h.dp hk,PB h.wt hn⟩
theorem Sh.int(h:i.natAbs<10^40):Sh (.int i) 0 200:=by
 have l:i.natAbs.log2<150:=by
  by_cases h0:i.natAbs=0
  .rw[h0];decide
  .exact(VQ h0).mpr (U8 h (by decide))
 refine⟨?_,?_,Pk _,?_⟩
 .exact decide_eq_true (by lia)
 .refine decide_eq_true ?_
  have e:=int_text_length_le10  (by decide) h;show (OZ _).length<=200;rw[PySem.ofString_length]
  lia
 .show (if i == 0 then 0 else i.natAbs.log2+1)<=200<;>grind
theorem Sh.str{x:Str}{n:Nat}(h:∀c∈x.cps.toList,c<128)(hn:x.length<=n):Sh (.str x) 0 n:=by
 refine⟨rfl,?_,Pk _,hn⟩;exact Po.mpr λc hc=>decide_eq_true (U8 (h c hc) (by decide))
structure BM(ds:List OY)(k n:Nat):Prop where
 sh:Wm ds=G3
 lv:Vx 200 ds=G3
 dp:Rf ds<=k
 wt:Sb ds<=n
def BM.nil(k n:Nat):BM [] k n:=⟨rfl,rfl,Ql _,Ql _⟩
def BM.cons(h:Sh d k n)(t:BM ds k m):BM (d::ds) k (n+1+m):=by
 refine⟨?_,?_,?_,?_⟩
 .show (d.showable&&Wm ds)=G3
  rw[h.sh,t.sh];rfl
 .show (d.leavesShort 200&&Vx 200 ds)=G3
  rw[h.lv,t.lv];rfl
 .exact Nat.max_le.mpr ⟨h.dp,t.dp⟩
 .show d.weight+1+Sb ds<=n+1+m
  have:=h.wt;have:=t.wt
  lia
theorem BM.of:∀{ds:List OY}{k:Nat}{f:OY->Nat},(∀d∈ds,Sh d k (f d))->BM ds k ((ds.map λd=>f d+1).sum)
 |[],k,f,_=>BM.nil _ _
 |d::r,k,f,h=>by
  have q:=BM.of   λx hx=>h x (Pc _ hx)
  have z:=BM.cons (h d Pf) q<;>simp_all
theorem Sh.tuple(h:BM ds k n):Sh (.tuple ds) (k+1) n:=⟨h.sh,h.lv,Nat.succ_le_succ h.dp,h.wt⟩
noncomputable def mF(hs:∀c∈s.cps.toList,c<128)(h:has s x=G3):∀c∈x.cps.toList,c<128:=λc hc=>
 hs c (of_decide_eq_true (Po.mp h c hc))
def mK:∀c∈ZZ.cps.toList,c<128:=by decide +kernel
end K1
namespace G
open L2 D
open K1 (has Z1 ZZ single az aD isName au IQ)
mutual
def GB:OY->Bool
 |.str x=>decide (x.length<=60000)&&x.cps.toList.all λc=>decide (c<128)
 |.tuple ds=>jD ds
 |_=>G3
def jD:List OY->Bool
 |[]=>G3
 |d::r=>GB d&&jD r
end
def Sm(d:OY):Prop:=GB d=G3
def Sm.both(h:Sm (.str x)):x.length<=60000/\∀c∈x.cps.toList,c<128:=by
 have h':=by
  have:GB _=G3:=h
  rw[GB] at this<;>omega
 rw[Pg,Po] at h';exact⟨of_decide_eq_true h'.1,λc hc=>of_decide_eq_true (h'.2 c hc)⟩
theorem Sm.str(h:Sm (.str x)):x.cps.size<=60000:=h.both.1
def Sm.mkS(h:x.length<=60000)(h2:∀c∈x.cps.toList,c<128):Sm (.str x):=by
 show GB _=G3;rw[GB,Pg,Po];exact⟨decide_eq_true h,λc hc=>decide_eq_true (h2 c hc)⟩
def Sm.ok(h:Sm (.str x)):Qk x=G3:=by
 unfold Qk;rw[Array.all_eq_true'];intro c hc;exact decide_eq_true (U8 (h.both.2 c (by simp_all)) (by simp))
theorem xa:∀{ds:List OY}{d:OY},jD ds=G3->d∈ds->GB d=G3
 |e::r,d,h,hd=>by
  have h':(GB e&&jD r)=G3:=by simpa[jD] using h
  rw[Pg] at h'
  rcases Pr.mp hd with z|z
  .simp_all
  .exact xa h'.2 z
def Sm.part(h:Sm (.tuple ds))(hd:d∈ds):Sm d:=xa (by simpa[Sm,GB] using h) hd
theorem yh:∀{ds:List OY},(∀d∈ds,Sm d)->jD ds=G3
 |[],_=>rfl
 |d::r,h=>by
  have h1:GB d=G3:=h d Pf;simp[jD,h1,yh  λx hx=>h x (Pc _ hx)]
def Sm.tup(h:∀d∈ds,Sm d):Sm (.tuple ds):=by simp[Sm,GB,yh h]
noncomputable def whole:OY->Bool
 |.int _=>G3
 |_=>Gy
noncomputable def kn(x:OY)(T:Tp):fi [.d x] T=KQ (.bool (whole x),T):=by cases x <;> rfl
noncomputable def vS(y x:Str):(D.signs x).all (sW y)=has y x:=by
 unfold D.signs has;rw[Yo]
 congr 1
 funext c;exact zus y c
noncomputable def pV(T:Tp)(h:x.length<=Ph):fS [.d (.str x),.d (.str y)] T=KQ (.bool (has y x),T):=by
 have hc:bH _ (ae inD (aa 0) (aa 2)) [KQ (.d (.str x)),KQ (.d (.str y))] _ T=KQ ((D.signs x).map λd=>.bool (sW y d),T):=gH λd hd=>by
  obtain⟨c,_,rfl⟩:=zut hd;rfl
 simp[fS,h,hc,vS]
noncomputable def zij(T:Tp)(h:Sm d):lE [.d d] T=KQ (.bool (single d),T):=by
 cases d with
 |str x=>
  have hz:x.length<=sizeLine:=PB h.str (by decide);have hh:∀T,fS [.d _,.d (.str "abcdefghijklmnopqrstuvwxyz0123456789-")] T=KQ (.bool (has ZZ x),T):=λT=>pV T hz;have e:single (.str x)=(decide _&&has ZZ x):=rfl;have hi:bQ .str .str=G3:=rfl
  by_cases hk:x.length<=20
  .have Fu:(x.length:Int)<=20:=by lia
   simp[lE,kn,whole,hh,hz,hi,e,hk,Fu]
  .have Fu:¬(x.length:Int)<=20:=by lia
   simp[lE,kn,whole,hz,hi,e,hk,Fu]
 |_=>rfl
noncomputable def oZ(h:kd d=.tup):∃ds,d=.tuple ds:=by cases d <;> first|simp_all|cases h
noncomputable def yu(h:kd d≠.tup):bQ (kd d) .tup=Gy:=by
 revert h
 cases kd d <;> simp[bQ]
noncomputable def uM(h:kd d≠.tup):az n d=single d:=by cases d <;> first|(cases n <;> rfl)|exact absurd rfl h
noncomputable def uY(h:kd d≠.tup):aD n d=1:=by cases d <;> first|(cases n <;> rfl)|exact absurd rfl h
noncomputable def zik(h:IQ 0 d=G3):kd d≠.tup:=by
 intro z
 cases d <;> first|cases h;done|cases z
theorem pb:bQ .tup .tup=G3:=rfl
theorem ze:∀(n k:Nat) (d:OY) (T:Tp),Sm d->n<k->fR k [.d d,.d (.int n)] T=KQ (.bool (az n d),T)
 |n,0,d,T,_,hk=>absurd hk (Re _)
 |n,k+1,d,T,hg,hk=>by
  by_cases ht:kd d=.tup
  .obtain⟨ds,rfl⟩:=oZ ht
   cases n with
   |zero=>simp[fR,pb,az]
   |succ n=>
    have e:az (n+1) (.tuple ds)=(decide (ds.length<=8)&&ds.all (az n)):=rfl
    have h0:¬((n+1:Nat):Int)=0:=by lia
    have II:¬(n:Int)+1=0:=by lia
    by_cases h8:ds.length<=8
    .have El:¬(8:Int)<(ds.length:Int):=by lia
     have hs:((n+1:Nat):Int)-1=(n:Int):=by lia
     have hc:bH bU (ar (fR k) (ab (aa 0) (ab (ae dw (aa 2) (fC (.int 1))) ag))) [KQ (.d (.tuple ds)),KQ (.d (.int ((n+1:Nat):Int)))] ds T=KQ (ds.map λx=>.bool (az n x),T):=gH λx hx=>by
      have:=ze n k x T (hg.part hx) (by lia);simp[hs,this]
     simp[fR,pb,e,h0,II,h8,El] at hc ⊢;simp[hc]
    .have El:(8:Int)<(ds.length:Int):=by lia
     simp[fR,pb,e,h0,II,h8,El]
  .simp[fR,yu ht,uM ht,zij T hg]
theorem Am:∀(n k:Nat) (d:OY) (T:Tp),IQ n d=G3->n<k->jg k [.d d] T=KQ (.int (aD n d),T)
 |n,0,d,T,_,hk=>absurd hk (Re _)
 |n,k+1,d,T,hg,hk=>by
  by_cases ht:kd d=.tup
  .cases n with
   |zero=>exact absurd ht (zik hg)
   |succ n=>
    obtain⟨ds,rfl⟩:=oZ ht;have Da:=hg;have e:aD (n+1) (.tuple ds)=1+(ds.map _).sum:=rfl
    have hc:bH _ (ar (jg k) (ab (aa 0) ag)) [KQ (.d (.tuple ds))] ds T=KQ (ds.map λx=>.int (aD n x),T):=gH λx hx=>by
     have:=Am n k x T (Po.mp Da x hx) (by lia)<;>simp_all
    simp[jg,pb,e,hc]
  .simp[jg,yu ht,uY ht]
noncomputable def zb(T:Tp)(h:Sm d):jW [.d d] T=KQ (.bool (au d),T):=by
 have h1:=ze 4 25 d T h (by decide);have Ii:fR 25 [.d d,.d (.int 4)] T=KQ _:=h1;have e:au d=(az 4 d&&decide _):=rfl
 cases hb:az 4 d with
 |false=>simp[jW,Ii,e,hb]
 |true=>
  have h2:=Am 4 25 d T (K1.ztf 4 d hb) (by decide);simp[jW,Ii,h2,e,hb]
variable {R:Tp}
open K1 (has Z1 ZZ single az aD isName au IQ Sh BM)
variable {R:Tp}
noncomputable def gT{α:Type}{xs:List α}{i:Int}(h0:0<=i)(h1:i<(xs.length:Int)):∃a,Zd xs i=KQ a/\a∈xs:=by unfold Zd Jh<;>simp_all
theorem zil:(Z1.cps.toList.length:Int)=26 :=rfl
noncomputable def wy(cs:List Nat):((cs.map λc=>(⟨#[c]⟩:Str)).map (·.cps.toList)).flatten=cs:=by induction cs <;>simp_all
noncomputable def zim{y:Str}:∀{ys:List OY},(∀d∈ys,∃c,c∈y.cps.toList/\d=.str ⟨#[c]⟩)->∃x,eB ys=KQ x/\(x.map (·.length)).sum=ys.length/\x.length=ys.length/\has y (PF "" x)=G3/\(PF "" x).length=ys.length:=by
 intro ys h
 have key:∃cs:List Nat,(∀c∈cs,c∈y.cps.toList)/\ys=cs.map (λc=>QP ⟨#[c]⟩):=by
  induction ys with
  |nil=>exact⟨[],by simp,rfl⟩
  |cons d r ih=>
   obtain⟨cs,h1,h2⟩:=ih λx hx=>h x (Pc _ hx);obtain⟨c,hc,rfl⟩:=h d Pf;refine⟨c::cs,λx hx=>?_,by rw[h2];rfl⟩
   rcases Pr.mp hx with z|z
   .simp_all
   .exact h1 x z
 obtain⟨cs,h1,rfl⟩:=key;refine⟨cs.map λc=>⟨#[c]⟩,nL _ cs,?_,by simp,?_,?_⟩
 .simp_all
  have:∀l:List Nat,(l.map ((λx:Str=>x.length) ∘ λc=>(⟨#[c]⟩:Str))).sum=l.length:=λl=>by
   induction l with
   |nil=>rfl
   |cons a r ih=>
    rw[P2,R3,ih,Nat.add_comm];rfl
  exact this cs
 .have jc:=qz (z:=OZ "") (rfl) (cs.map λc=>(⟨#[c]⟩:Str))
  unfold has;rw[jc,wy];exact Po.mpr λc hc=>decide_eq_true (h1 c hc)
 .have jc:=qz (z:=OZ "") (rfl) (cs.map λc=>(⟨#[c]⟩:Str))
  rw[PY];show (PF _ _).cps.size=_;rw[←R6,jc,wy]
noncomputable def rL{z:Str}{xs:List OY}{ys:List Str}(h:eB xs=KQ ys):fD (.str z) (.list xs)=if (ys.map (·.length)).sum+ys.length*z.length<=16777216 then KQ (.str (PF z ys)) else HA:=by
 show (match eB xs with|some (ys)=>if (ys.map λx:Str=>x.length).sum+ys.length*z.length<=16777216 then KQ _ else HA|none=>HA)=_;rw[h]
def xr(n:Nat):(dF 0 n).length=n:=by simp[dF]
noncomputable def qK(h0:0<=j)(h1:j<=1000):iK j=G3:=decide_eq_true (by lia)
noncomputable def qr(h:isName (.str x)=G3):single (.str x)=G3:=by
 have h':(decide _&&decide _&&has Z1 x)=G3:=h;rw[Pg,Pg] at h';have h8:=of_decide_eq_true h'.1.2;show (decide _&&has ZZ x)=G3;rw[decide_eq_true (by lia)]
 have sub:∀c∈Z1.cps.toList,c∈ZZ.cps.toList:=by decide +kernel
 exact Po.mpr λc hc=>decide_eq_true (sub c (of_decide_eq_true (Po.mp h'.2 c hc)))
noncomputable def ir(h : -1000000000000000000<=i)(h':i<=1000000000000000000):single (.int i)=G3:=by refine decide_eq_true ?_<;>lia
noncomputable def fQ{n:Nat}{d:OY}(h:single d=G3):az n d=G3/\aD n d=1:=by
 cases d with
 |int i=>exact⟨by cases n <;> exact h,by cases n <;> rfl⟩
 |str x=>exact⟨by cases n <;> exact h,by cases n <;> rfl⟩
 |_=>cases h
end G
namespace D
open L2
noncomputable def cd(x:Str):List Nat:=x.cps.toList
noncomputable def fz(h:cd x=cd y):x=y:=by
 obtain⟨x⟩:=x;obtain⟨y⟩:=y
 have h':x.toList=y.toList:=h<;>simp_all
theorem cS(x:Str):(cd x).length=x.length :=rfl
def jt(x y:Str):cd (x++y)=cd x++cd y:=S7 x y
theorem vY{α:Type}(xs:List α)(a:Nat):∀k:Nat,(RT k).filterMap (λm=>xs[a+m]?)=(xs.drop a).take k
 |0=>by simp
 |k+1=>by
  rw[List.range_succ,List.filterMap_append,vY xs a k,RR];simp only[TL,List.filterMap_nil,Wn]
  cases xs[a+k]? <;> rfl
noncomputable def xb(h0:0<=i)(h1:0<=j):cd (Rt x (KQ i) (KQ j))=((cd x).drop i.toNat).take (j.toNat-i.toNat):=by
 obtain⟨a,rfl⟩:=UT h0;obtain⟨b,rfl⟩:=UT h1;rw[Q7,Q7];have hl:x.cps.toList.length=x.length:=R6;obtain⟨p,hp⟩:∃p,min a x.length=p:=⟨_,rfl⟩;obtain⟨q,hq⟩:∃q,min b x.length=q:=⟨_,rfl⟩
 have e:Ry (KQ (a:Int)) (KQ (b:Int)) 1 x.length=(RT (q-p)).map λk=>p+k:=by
  have m:∀c:Nat,max 0 (min (c:Int) x.length)=((min c x.length:Nat):Int):=λc=>by
   rcases WJ c x.length with h|h
   .rw[Vm h,Int.min_eq_left (Yp.mpr h),W1 (RK c)]
   .rw[UU h,Int.min_eq_right (Yp.mpr h),W1 (RK _)]
  unfold Ry sliceRange;simp only[show (1:Int)>0 by decide,if_true,Int.not_lt.mpr (RK a),Int.not_lt.mpr (RK b),if_false];rw[m,m,hp,hq]
  have ec:(if (p:Int)<q then ((q:Int)-p+1-1) / 1 else 0).toNat=q-p:=by
   split
   .simp_all
   .simp_all
  rw[ec];refine Ra λk _=>?_;rw[Int.one_mul];rfl
 have fin:(x.cps.toList.drop p).take (q-p)=((cd x).drop a).take (b-a):=by
  unfold cd
  rcases WJ a x.length with hi|hi
  .rw[Vm hi] at hp
   subst hp
   rcases WJ b x.length with hj|hj
   .rw[←hq,Vm hj]
   .rw[←hq,UU hj,Qq (by simp_all),Qq (by rw[RD,hl];exact Nat.sub_le_sub_right hj _)]
  .rw[←hp,UU hi,Q6 (Wr hl),Q6 (hl ▸ hi)]
   rw[X4,X4]
 unfold Rt;split
 .rename_i h
  have h':(Ry (KQ (a:Int)) (KQ (b:Int)) 1 x.length).length=x.length:=by simpa using h
  rw[e,PY,List.length_range] at h';rw[←fin];show x.cps.toList=_;rw[h',Qq (by rw[RD,hl];exact Nat.sub_le _ _)];have q1:q<=x.length:=hq ▸ Nat.min_le_right _ _
  by_cases hz:x.length=0
  .rw[List.length_eq_zero_iff.mp (hl.trans hz),List.drop_nil]
  .rw[show p=0 by omega];rfl
 .rw[←fin,←vY]
  show List.filterMap _ (Ry _ _ 1 x.length)=_;rw[e,List.filterMap_map]
  congr 1
  funext m;simp
noncomputable def uQ(h0:0<=i)(h1:i<=(x.length:Int)):cd (Rt x (KQ i) HA)=(cd x).drop i.toNat:=by
 rw[slice_from_eq h0 h1 rfl];refine Qq ?_;rw[RD];have:x.cps.toList.length=x.length:=R6;omega
noncomputable def bg(c:List Nat):List (List Nat)->List Nat
 |[]=>[]
 |[x]=>x
 |x::y::r=>x++c++bg c (y::r)
theorem kc(z:Str):∀ys:List Str,cd (PF z ys)=bg (cd z) (ys.map cd)
 |[]=>rfl
 |[x]=>rfl
 |x::y::r=>by
  have ih:=kc z (y::r);show cd (_++PF z _)=_;rw[jt,jt,ih];rfl
noncomputable def qv(c x:List Nat)(r:List (List Nat)):bg c (x::r)=x++(r.map (c++·)).flatten:=by
 induction r generalizing x with
 |nil=>simp[bg]
 |cons y r ih=>
  show x++c++bg c _=_<;>simp_all
noncomputable def uO:Ro x ⟨#[c]⟩=decide ((cd x).head? = KQ c):=by
 unfold Ro
 have hl:(⟨#[c]⟩:Str).length=1:=rfl;obtain⟨⟨l⟩⟩:=x
 cases l with
 |nil=>rfl
 |cons a r=>
  have h1:(0+1<=(⟨⟨a::r⟩⟩:Str).length):=by show 0+1<=(a::r).length;simp
  show WK _ _ 0=decide ((a::r).head? = KQ c)
  have e:(⟨⟨a::r⟩⟩:Str).cps.extract 0 (0+(⟨#[c]⟩:Str).length) = #[a]:=by simp_all
  unfold WK;rw[e,Rb];simp
end D
namespace G
open L2 D
open K1 (has Z1 ZZ single az aD isName au IQ)
noncomputable def mk(l:List Nat):Str:=⟨l.toArray⟩
theorem eM(l:List Nat):cd (mk l)=l :=rfl
theorem tY(x:Str):mk (cd x)=x :=rfl
theorem di(l:List Nat):(mk l).length=l.length :=rfl
noncomputable def JG:Str:=OZ "0123456789"
noncomputable def dl(c:Nat):Bool:=decide (c∈cd "(),")
noncomputable def Ab(c:Nat):dl c=decide (c=40\/c=41\/c=44):=by
 have e:cd "(),"=[40,41,44]:=rfl
 unfold dl<;>simp_all
noncomputable def W(l:List Nat):List Nat:=l.takeWhile λc=>!dl c
noncomputable def gA(w:List Nat):Bool:=!decide (w=[])&&w.all (λc=>decide (c∈cd JG))&&(decide (w=[48])||!decide (w.head? = KQ 48))
noncomputable def AI(h:cd y=l):decide (x=y)=decide (cd x=l):=by refine decide_eq_decide.mpr ⟨λe=>by rw[e,h],λe=>fz (by rw[e,h])⟩
noncomputable def zin(T:Tp)(h:x.length<=Ph):ig [.d (.str x)] T=KQ (.bool (gA (cd x)),T):=by
 have h1:∀T,fS [.d (.str x),.d (.str "0123456789")] T=KQ (.bool (has JG x),T):=λT=>pV T h;have e1:decide (x=OZ "")=decide (cd x=[]):=AI (rfl);have e2:decide (x=OZ "0")=decide (cd x=[48]):=AI (rfl)
 have e3:Ro x "0"=decide ((cd x).head? = KQ 48):=by
  have:OZ "0"=⟨#[48]⟩:=fz (rfl);rw[this,uO]
 have e4:has JG x=(cd x).all (λc=>decide (c∈cd JG)):=rfl;have p1:=propext (by simpa using e1);have p2:=propext (by simpa using e2);unfold gA;rw[←e4]
 by_cases hn:cd x=[]
 .simp[ig,h1,p1,p2,e3,hn]
 .cases hf:has JG x with
  |false=>simp[ig,h1,p1,p2,e3,hn,hf]
  |true=>
   by_cases h0:cd x=[48]
   .simp[ig,h1,p1,p2,e3,hn,hf,h0]
   .simp[ig,h1,p1,p2,e3,hn,hf,h0]
noncomputable def jG:Option Int->OY
 |some i=>.int i
 |none=>.none
noncomputable def m7:Option OY->OY
 |some i=>i
 |none=>.none
noncomputable def LD(w:List Nat):Bool:=w.all (λc=>decide (c∈cd JG))
theorem wA:cd JG=[48,49,50,51,52,53,54,55,56,57] :=rfl
noncomputable def zio(h:LD w=G3):UA w:=λc hc=>by
 have:=of_decide_eq_true (Po.mp h c hc);rw[wA] at this;exact(show ∀x∈[48,49,50,51,52,53,54,55,56,57],48<=x/\x<=57 by decide) c this
noncomputable def ziq(h:gA w=G3):UA w/\w≠[]:=by
 unfold gA at h;rw[Pg,Pg] at h;exact⟨zio h.1.2,by simpa using h.1.1⟩
noncomputable def fg(w:List Nat):List Nat:=if w.head? = KQ 45 then w.tail else w
noncomputable def qc(w:List Nat):Option Int:=if w=[45,48]\/19<(fg w).length\/gA (fg w)=Gy then HA else KQ (if w.head? = KQ 45 then -((Ru w.tail:Nat):Int) else ((Ru w:Nat):Int))
noncomputable def uP(h:cd y=[c]):Ro x y=decide ((cd x).head? = KQ c):=by
 have:y=⟨#[c]⟩:=fz (by rw[h];rfl);rw[this,uO]
noncomputable def zir(T:Tp)(h:x.length<=Ph):lD [.d (.str x)] T=KQ (jG (qc (cd x)),T):=by
 have e1:Ro x "-"=decide ((cd x).head? = KQ 45):=uP (rfl);have p2:(x=OZ "-0")=(cd x=[45,48]):=propext ⟨λe=>by rw[e];decide +kernel,λe=>fz (by rw[e];decide +kernel)⟩;have hl:=cS x
 obtain⟨f,hf,hfl,hfe⟩:∃f:Str,cd f=fg (cd x)/\f.length<=x.length/\∀T,dQ (aP (ae iC (aa 0) (fC (.str "-")))) (GF (aa 0) (fP (fC (.int 1))) fM) (aa 0) [KQ (.d (.str x)),HA] T=KQ (.d (.str f),T):=by
  by_cases hm:(cd x).head? = KQ 45
  .have CB:1<=x.length:=by
    rw[←hl]
    cases hx:cd x with
    |nil=>rw[hx] at hm;cases hm
    |cons _ _=>simp
   refine⟨Rt x (KQ 1) HA,?_,Yq _ _ _,λT=>by simp[e1,hm,h]⟩;rw[uQ (by decide) (by lia)];unfold fg;rw[if_pos hm];simp
  .refine⟨x,?_,Pk _,λT=>by simp[e1,hm]⟩
   unfold fg;rw[if_neg hm]
 have Kf:f.length<=sizeLine:=PB hfl h;have h1:=λT=>zin (x:=f) T Kf
 have hfl':f.length=(fg (cd x)).length:=by rw[←hf,cS]
 unfold qc
 have start:lD [.d (.str x)] T=du (YS (YS (dQ (aP (ae iC (aa 0) (fC (.str "-")))) (GF (aa 0) (fP (fC (.int 1))) fM) (aa 0) [KQ (.d (.str x)),HA] T) (p9 1 [KQ (.d (.str x)),HA])) (gw (ah (YT (bO (aq (ae Z5 (aa 0) (fC (.str "-0")))) (bO (aq (ae HD (Zy aW (ab (aa 1) ag)) (fC (.int 19)))) (bA (aP (ar ig (ab (aa 1) ag)))))) (aj (fC .none)) aw) (aj (Zy intD (ab (aa 0) ag)))))):=by
  simp only[lD,pN,qU,qV,if_true,tJ,Ja];rfl
 rw[start,hfe]
 by_cases c1:cd x=[45,48]
 .rw[if_pos (.inl c1)]
  simp[p2,c1,jG]
 .by_cases c2:19<(fg (cd x)).length
  .rw[if_pos (.inr (.inl c2))]
   have Jn:(19:Int)<(f.length:Int):=by lia
   simp[p2,c1,Kf,Jn,jG]
  .have Jn:¬(19:Int)<(f.length:Int):=by lia
   cases c3:gA (fg (cd x)) with
   |false=>
    rw[if_pos (.inr (.inr rfl))];simp[p2,c1,Kf,Jn,h1,hf,c3,jG]
   |true=>
    rw[if_neg (by simp[c1,c2])];obtain⟨ad,ne⟩:=ziq c3
    have xl:x.length<=640:=by
     rw[←hl]
     have:(cd x).length<=(fg (cd x)).length+1:=by
      unfold fg;split
      .rw[List.length_tail];lia
      .lia
     lia
    by_cases hm:(cd x).head? = KQ 45
    .have ht:∃cs,cd x=45::cs:=by
      cases hx:cd x with
      |nil=>rw[hx] at hm;cases hm
      |cons a r=>rw[hx] at hm;cases hm;exact⟨r,rfl⟩
     obtain⟨cs,CC⟩:=ht
     have xY:fg (cd x)=cs:=by unfold fg;rw[if_pos hm,CC];rfl
     rw[xY] at ad ne;have it:=intText_neg (x:=x) (cs:=cs) CC ad ne (by lia)
     have vZ:intText? x=KQ (-((Ru (cd x).tail:Nat):Int)):=by rw[it,CC];rfl
     simp[p2,c1,Kf,Jn,h1,hf,c3,jG,xl,vZ,hm]
    .have xY:fg (cd x)=cd x:=by unfold fg;rw[if_neg hm]
     rw[xY] at ad ne;have it:=intText_digits (x:=x) ad ne (by lia);have vZ:intText? x=KQ ((Ru (cd x):Nat):Int):=it;simp[p2,c1,Kf,Jn,h1,hf,c3,jG,xl,vZ,hm]
noncomputable def gV(w:List Nat):Option PyData:=if w.head? = KQ 39 then KQ (.str (mk w.tail)) else (qc w).map .int
noncomputable def zis(o:Option Int):jG o=m7 (o.map .int):=by cases o <;> rfl
noncomputable def zit(T:Tp)(h:x.length<=Ph):lC [.d (.str x)] T=KQ (m7 (gV (cd x)),T):=by
 have e1:Ro x "'"=decide ((cd x).head? = KQ 39):=uP (rfl);unfold gV
 by_cases hm:(cd x).head? = KQ 39
 .have CB:1<=x.length:=by
   rw[←cS]
   cases hx:cd x <;>simp_all
  have es:Rt x (KQ 1) HA=mk (cd x).tail:=fz (by
   rw[uQ (by simp) (by lia),eM]
   simp)
  simp[lC,e1,hm,h,es,m7]
 .rw[if_neg hm,←zis]
  simp[lC,e1,hm,zir T h]
noncomputable def ziu{x:Str}{b:Nat}{a:Nat}{r:List Nat}(h:(cd x).drop b=a::r):Zd x.cps.toList (b:Int)=KQ a/\b<x.length:=by
 have hb:b<(cd x).length:=by
  apply Decidable.byContradiction;intro z;rw[Q6 (by lia)] at h;cases h
 refine⟨fq ?_,by exact hb⟩
 have:(cd x)[b]? = ((cd x).drop b)[0]?:=by simp
 show (cd x)[b]? = KQ a;rw[this,h];rfl
theorem yj(ht:t.length<=Ph):∀(n b:Nat),((cd t).drop b).length<n->b<=t.length ->
  bL (cX (aq (ae Fv (aa 2) (Zy aW (ab (aa 0) ag)))) (aq (ae eV (ae Y8 (aa 0) (aa 2)) (fC (.str "(),"))))) (ax 2 (ae aI (aa 2) (fC (.int 1)))) n [KQ (.d (.str t)),KQ (.d at'),KQ (.d (.int b)),HA] T
   = KQ ((.nx,[KQ (.d (.str t)),KQ (.d at'),KQ (.d (.int ((b+(W ((cd t).drop b)).length:Nat):Int))),HA]),T)
 |0,b,h,_=>absurd h (Re _)
 |n+1,b,h,hb=>by
  unfold bL
  cases hd:(cd t).drop b with
  |nil=>
   have hl:t.length<=b:=by
    have:=congrArg W8 hd;rw[RD,cS] at this;simp at this
    lia
   have hn:¬(b:Int)<(t.length:Int):=by lia
   simp[ht,hn,W]
  |cons a r=>
   obtain⟨h1,h2⟩:=ziu hd
   have hn:(b:Int)<(t.length:Int):=by lia
   have hin:eV (.str ⟨#[a]⟩) (.str "(),")=KQ (.bool (!dl a)):=by
    show KQ (YA (!jJ "()," ⟨#[a]⟩))=_;rw[zus];rfl
   cases Hk:dl a with
   |true=>simp[ht,hn,h1,hin,Hk,W]
   |false=>
    have hr:(cd t).drop (b+1)=r:=by
     have:=congrArg List.tail hd;simpa using this
    have ih:=yj (at':=at') (T:=T) ht n (b+1) (by simp_all) (by lia);rw[hr] at ih
    have eb:((b+1:Nat):Int)=(b:Int)+1:=by lia
    rw[eb] at ih
    have ew:W (a::r)=a::W r:=by simp[W,Hk]
    have el:b+(a::W r).length=b+1+(W r).length:=by simp;lia
    rw[ew,el];simp[ht,hn,h1,hin,Hk,ih]
noncomputable def ziv{t:Str}(T:Tp)(ht:t.length<=60000)(hb:b<=t.length):jT [.d (.str t),.d (.int b)] T=KQ ((match gV (W ((cd t).drop b)) with|none=>YB|some v=>.tuple [v,.int ((b+(W ((cd t).drop b)).length:Nat):Int)]),T):=by
 have FF:t.length<=sizeLine:=PB ht (by decide);have AK:=yj (at':=.int b) (T:=T) FF 100000 b (by rw[RD,cS];lia) hb
 have hsl:cd (Rt t (KQ (b:Int)) (KQ ((b+(W ((cd t).drop b)).length:Nat):Int)))=W ((cd t).drop b):=by
  rw[xb (RK _) (RK _),Q7,Q7,Nat.add_sub_cancel_left];exact List.prefix_iff_eq_take.mp (Vy _) |>.symm
 have Y3:(Rt t (KQ (b:Int)) (KQ ((b+(W ((cd t).drop b)).length:Nat):Int))).length<=sizeLine:=PB (Yq _ _ _) FF;have ZX:=zit (x:=Rt t (KQ (b:Int)) (KQ ((b+(W ((cd t).drop b)).length:Nat):Int))) T Y3;rw[hsl] at ZX;rw[Sn] at ZX hsl Y3 AK;rw[Sn]
 cases hs:gV (W ((cd t).drop b)) with
 |none=>
  rw[hs] at ZX;simp only[jT,pN,qU,qV,if_true];simp[AK,FF,ZX,m7,isNone]
 |some v=>
  have hv:isNone v=Gy:=by
   unfold gV at hs;split at hs
   .cases hs;rfl
   .obtain⟨i,_,rfl⟩:=PV.mp hs
    rfl
  rw[hs] at ZX;simp only[jT,pN,qU,qV,if_true];simp[AK,FF,ZX,m7,hv]
noncomputable def eF(n:Nat):Option (OY×List Nat)->OY
 |none=>.none
 |some (v,r)=>.tuple [v,.int ((n-r.length:Nat):Int)]
noncomputable def gX(val:List Nat->Option (OY×List Nat)):Nat->List OY->List Nat->Option (OY×List Nat)
 |0,_,_=>HA
 |n+1,acc,l=>match val l with
  |none=>HA
  |some (v,r)=>if r.head? = KQ 41 then KQ (.tuple (acc++[v]),r.tail) else if r.head? = KQ 44 then gX val n (acc++[v]) r.tail else HA
noncomputable def gU(l:List Nat):Option (OY×List Nat):=(gV (W l)).map λv=>(v,l.drop (W l).length)
noncomputable def eE:Nat->List Nat->Option (OY×List Nat)
 |0,l=>if l.head? = KQ 40 then HA else gU l
 |n+1,l=>if l.head? = KQ 40 then (if l.tail.head? = KQ 41 then KQ (.tuple [],l.tail.tail) else gX (eE n) 100000 [] l.tail) else gU l
def Suf(val:List Nat->Option (OY×List Nat)):Prop:=∀l v r,val l=KQ (v,r)->r <:+ l
theorem w4(h:Suf val):∀n acc l v r,gX val n acc l=KQ (v,r)->r <:+ l
 |0,acc,l,v,r,e=>by cases e
 |n+1,acc,l,v,r,e=>by
  unfold gX at e
  cases hv:val l with
  |none=>simp_all
  |some p=>
   obtain⟨v1,r1⟩:=p;have s1:=h l v1 r1 hv;rw[hv] at e;dsimp only at e;split at e
   .cases e
    exact(RF _).trans s1
   .split at e
    .exact((w4 h n _ _ _ _ e).trans (RF _)).trans s1
    .cases e
noncomputable def wZ:Suf gU:=λl v r e=>by
 obtain⟨v',_,e'⟩:=PV.mp e;cases e';exact List.drop_suffix _ _
theorem ye:∀n,Suf (eE n)
 |0=>λl v r e=>by
  unfold eE at e;split at e
  .cases e
  .exact wZ _ _ _ e
 |n+1=>λl v r e=>by
  unfold eE at e;split at e
  .split at e
   .cases e
    exact(RF _).trans (RF _)
   .exact(w4 (ye n) _ _ _ _ _ e).trans (RF _)
  .exact wZ _ _ _ e
noncomputable def nW{l:List Nat}(h:l.head? = KQ c):l.length=l.tail.length+1:=by
 cases l with
 |nil=>cases h
 |cons=>simp
noncomputable def mC(hl:l <:+ cd t)(hy:cd y=[c]):(Rt t (KQ ((t.length-l.length:Nat):Int)) (KQ (((t.length-l.length:Nat):Int)+1))=y)=(l.head? = KQ c):=by
 have hd:=by
  have:=UV.mp hl;rw[cS] at this;exact this.symm
 have e:cd (Rt t (KQ ((t.length-l.length:Nat))) (KQ (((t.length-l.length:Nat))+1)))=l.take 1:=by
  rw[xb _ _]<;>grind
 refine propext ⟨λz=>?_,λz=>fz ?_⟩
 .cases l <;>simp_all
 .rw[e]
  cases l <;>simp_all
theorem jN{α:Type}{a b:α}:Zd [a,b] 0=KQ a:=rfl
theorem iX{α:Type}{a b:α}:Zd [a,b] 1=KQ b:=rfl
noncomputable def vQ(hl:l <:+ cd t)(T:Tp)(ht:t.length<=60000):jT [.d (.str t),.d (.int ((t.length-l.length:Nat):Int))] T=KQ (eF t.length (gU l),T):=by
 have hd:=by
  have:=UV.mp hl;rw[cS] at this;exact this.symm
 have hn:=hl.length_le;rw[cS] at hn;have h:=ziv  (b:=t.length-l.length) T ht (by lia);rw[hd] at h;rw[h];unfold gU;have hw:(W l).length<=l.length:=(Vy _).length_le
 cases gV _ with
 |none=>rfl
 |some v=>
  show KQ _=KQ (Rz [v,.int _],T)<;>grind
noncomputable def k7(n:Nat):FS:=(ah (ax 4 (ar (eI n) (ab (aa 0) (ab (aa 1) (ab (aa 2) ag))))) (ah (YT (aq (ae EK (aa 4) (fC .none))) (aj (fC .none)) aw) (ah (cH 3 (ae Y8 (aa 4) (fC (.int 0)))) (ah (ax 1 (ae aI (ae Y8 (aa 4) (fC (.int 1))) (fC (.int 1)))) (ah (ax 5 (GF (aa 0) (fP (ae Y8 (aa 4) (fC (.int 1)))) (fP (aa 1)))) (ah (YT (aq (ae Z5 (aa 5) (fC (.str ")")))) (aj (av .tuple (ab (Zy dS (ab (aa 3) ag)) (ab (aa 1) ag)))) aw) (YT (aq (ae Kg (aa 5) (fC (.str ",")))) (aj (fC .none)) aw)))))))
theorem zv(ht:t.length<=60000)(hs:Suf val)(hv:∀l,l <:+ cd t->eI n [.d (.str t),.d (.int ((t.length-l.length:Nat):Int)),.d (.int rows)] T=KQ (eF t.length (val l),T)) :
  ∀(k:Nat) (l:List Nat) (acc:List OY) (o4 o5:Option D.W),l <:+ cd t->l.length<k->acc.length+l.length<=60000 ->
  du (bL (aP (fC (.bool G3))) (k7 n) k [KQ (.d (.str t)),KQ (.d (.int ((t.length-l.length:Nat):Int))),KQ (.d (.int rows)),KQ (.loc (.list acc)),o4,o5] T)=KQ (eF t.length (gX val k acc l),T)
 |0,l,acc,o4,o5,hl,hk,ha=>absurd hk (Re _)
 |k+1,l,acc,o4,o5,hl,hk,ha=>by
  have FF:t.length<=sizeLine:=PB ht (by decide);have B6:acc.length<sizeLine:=Qs (by lia:acc.length<=60000) (by decide);have h1:=hv l hl;unfold bL gX
  cases uz:val l with
  |none=>
   rw[uz] at h1;simp[k7,h1,eF,isNone]
  |some p=>
   obtain⟨v,r⟩:=p;have hr:=(hs l v r uz);have Ac:=hr.trans hl;have hrl:=hr.length_le;have KD:=hl.length_le;rw[cS] at KD;have s1:=mC (c:=41) Ac (y:=OZ ")") (by decide +kernel);have s2:=mC (c:=44) Ac (y:=OZ ",") (by decide +kernel);rw[uz] at h1
   have step:∀c,r.head? = KQ c->(((t.length-r.length:Nat):Int)+1)=((t.length-r.tail.length:Nat):Int):=λc hc=>by
    have:=nW hc
    lia
   dsimp only
   by_cases c1:r.head? = KQ 41
   .have e1:=step _ c1
    rw[if_pos c1]
    have goal:eF t.length (KQ (Rz (acc++[v]),r.tail))=.tuple [.tuple (acc++[v]),.int (((t.length-r.length:Nat):Int)+1)]:=by
     rw[e1];rfl
    rw[goal];simp[k7,h1,eF,isNone,jN,iX,B6,FF,s1,c1]
   .rw[if_neg c1]
    by_cases c2:r.head? = KQ 44
    .have e1:=step _ c2
     have e2:=nW c2;have ih:=zv ht hs hv k r.tail (acc++[v]) (KQ (.d (.tuple [v,.int ((t.length-r.length:Nat):Int)]))) (KQ (.d (.str (Rt t (KQ ((t.length-r.length:Nat):Int)) (KQ (((t.length-r.length:Nat):Int)+1)))))) ((RF _).trans Ac) (by lia) (by simp;lia);rw[←e1] at ih;rw[if_pos c2,←ih];simp[k7,h1,eF,isNone,jN,iX,B6,FF,s1,s2,c1,c2]
    .rw[if_neg c2]
     simp[k7,h1,eF,isNone,jN,iX,B6,FF,s1,s2,c1,c2]
noncomputable def uj(val:List Nat->Option (OY×List Nat))(l:List Nat):Option (OY×List Nat):=if l.head? = KQ 41 then KQ (.tuple [],l.tail) else gX val 100000 [] l
noncomputable def ziw(ht:t.length<=60000)(hs:Suf val)(hv:∀l,l <:+ cd t->eI n [.d (.str t),.d (.int ((t.length-l.length:Nat):Int)),.d (.int rows)] T=KQ (eF t.length (val l),T))(hl:l <:+ cd t) :
  lQ (n+1) [.d (.str t),.d (.int ((t.length-l.length:Nat):Int)),.d (.int rows)] T=KQ (eF t.length (uj val l),T):=by
 have FF:t.length<=sizeLine:=PB ht (by decide);have KD:=hl.length_le;rw[cS] at KD;have s1:=mC (c:=41) hl (y:=OZ ")") (rfl);have hr:=zv (T:=T) ht hs hv 100000 l [] HA HA hl (by lia) (by simp;lia);unfold uj
 by_cases c1:l.head? = KQ 41
 .rw[if_pos c1]
  have goal:eF t.length (KQ (Rz [],l.tail))=.tuple [.tuple [],.int (((t.length-l.length:Nat):Int)+1)]:=by
   have:=nW c1
   have e:(((t.length-l.length:Nat):Int)+1)=((t.length-l.tail.length:Nat):Int):=by lia
   rw[e];rfl
  rw[goal];simp[lQ,FF,s1,c1]
 .rw[if_neg c1,←hr]
  have:lQ (n+1)=aJ 6 (ah (YT (aq (ae Z5 (GF (aa 0) (fP (aa 1)) (fP (ae aI (aa 1) (fC (.int 1))))) (fC (.str ")")))) (aj (av .tuple (ab (av .tuple ag) (ab (ae aI (aa 1) (fC (.int 1))) ag)))) aw) (ah (cO 3 ag) (bL (aP (fC (.bool G3))) (k7 n) 100000))):=rfl;rw[this];simp[FF,s1,c1]
theorem zc(ht:t.length<=60000):∀(rows n:Nat),2*rows+1<=n->∀l,l <:+ cd t->eI n [.d (.str t),.d (.int ((t.length-l.length:Nat):Int)),.d (.int rows)] T=KQ (eF t.length (eE rows l),T)
 |_,0,h,_,_=>absurd h (by lia)
 |0,n+1,h,l,hl=>by
  have FF:t.length<=sizeLine:=PB ht (by decide);have s1:=mC (c:=40) hl (y:=OZ "(") (rfl);have sg:=vQ hl T ht;unfold eE
  by_cases c1:l.head? = KQ 40
  .simp[eI,FF,s1,c1,eF]
  .simp[eI,FF,s1,c1,sg]
 |rows+1,n+1,h,l,hl=>by
  have FF:t.length<=sizeLine:=PB ht (by decide);have s1:=mC (c:=40) hl (y:=OZ "(") (by decide +kernel);have sg:=vQ hl T ht;have KD:=hl.length_le;rw[cS] at KD;unfold eE
  by_cases c1:l.head? = KQ 40
  .obtain⟨m,rfl⟩:∃m,n=m+1:=⟨n-1,by lia⟩
   have rr:=ziw ht (ye rows) (zc (T:=T) ht rows m (by lia)) ((RF l).trans hl);have:=nW c1
   have e:(((t.length-l.length:Nat):Int)+1)=((t.length-l.tail.length:Nat):Int):=by lia
   rw[←e] at rr
   have e2:((rows+1:Nat):Int)-1=(rows:Int):=by lia
   have e3:¬((rows+1:Nat):Int)=0:=by lia
   rw[if_pos c1];show _=KQ (eF t.length (uj (eE rows) l.tail),T);rw[←e2] at rr;generalize ((rows+1:Nat):Int)=R at e3 rr;simp[eI,FF,s1,c1,e3,rr]
  .rw[if_neg c1]
   simp[eI,FF,s1,c1,sg]
noncomputable def dg(m:Nat):List Nat:=(T7 10 m).map YG
noncomputable def pP(m:Nat):UA (dg m):=λc hc=>by
 obtain⟨ch,HW,e⟩:=PD.mp hc;rw[←e];exact digit_range (Nat.isDigit_of_mem_toDigits (by decide) (by decide) HW)
def Ad(m:Nat):Ru (dg m)=m:=W.KIN.val_back m
noncomputable def ud(m:Nat):dg m≠[]:=λe=>by
 have h:=toDigits_len_ge 10 m
 rw[List.map_eq_nil_iff.mp e] at h<;>simp_all
noncomputable def pA{m:Nat}(h:m<=10^18):(dg m).length<=19:=by
 unfold dg;rw[PY];exact toDigits_len_pow (by decide) (by decide) (Qs h (by decide))
noncomputable def yQ(m:Nat):0<m->(dg m).head?≠KQ 48:=by
 induction m using TH with
 |_ m ih=>
  intro hm
  by_cases h:m<10
  .have:∀m ,m<10->0<m->((T7 10 m).map YG).head?≠KQ 48:=by decide
   exact this m h hm
  .have hm:m % 10<10:=Nat.mod_lt m (by decide)
   have t:T7 10 (m / 10)++T7 10 _=T7 10 _:=Nat.toDigits_append_toDigits (by simp) (by lia) hm;rw[Nat.div_add_mod] at t
   have e:dg m=dg (m / 10)++dg (m % 10):=by
    unfold dg;rw[←t,So]
   have i1:=ih (m / 10) (by lia) (by lia)
   have i2:=ud (m / 10)<;>simp_all
noncomputable def yR(m:Nat):gA (dg m)=G3:=by
 unfold gA;rw[Pg,Pg];refine⟨⟨by simpa using ud m,Po.mpr λc hc=>decide_eq_true ?_⟩,?_⟩
 .rw[wA]
  have:=pP m c hc;exact(show ∀x<58,48<=x->x∈[48,49,50,51,52,53,54,55,56,57] by decide) c (Nat.lt_succ_of_le this.2) this.1
 .rcases Nat.eq_zero_or_pos m with h|h
  .subst h
   rfl
  .rw[TF]
   right;simpa using yQ m h
noncomputable def nc:Int->List Nat
 |.ofNat m=>dg m
 |.negSucc m=>45::dg (m+1)
noncomputable def zix(i:Int):cd (OZ (toString i))=nc i:=by
 cases i with
 |ofNat m=>exact W.KIN.signs_num m
 |negSucc m=>
  have e:toString (Int.negSucc m)="-"++toString (m+1):=rfl;unfold cd;rw[VT]
  simp_all
  rfl
noncomputable def ox(i:Int):∀c∈nc i,c=45\/(48<=c/\c<=57):=by
 cases i with
 |ofNat m=>exact λc hc=>.inr (pP m c hc)
 |negSucc m=>
  intro c hc
  rcases Pr.mp hc with h|h
  .exact .inl h
  .exact .inr (pP _ c h)
noncomputable def ziy(i:Int):nc i≠[]:=by
 cases i with
 |ofNat m=>exact ud m
 |negSucc m=>exact λh=>nomatch h
noncomputable def lG(h:single (.int i)=G3):i.natAbs<=10^18:=by have h':=of_decide_eq_true h<;>lia
noncomputable def zP(h:single (.int i)=G3):(nc i).length<=20:=by
 have h:=lG h
 cases i with
 |ofNat m=>
  have:=pA (m:=m) h;show (dg m).length<=20
  lia
 |negSucc m=>
  have:=pA (m:=m+1) h;show (dg _).length+1<=20
  lia
noncomputable def rT(m:Nat):(dg m).head?≠KQ 45:=λh=>by
 cases hd:dg m with
 |nil=>simp_all
 |cons a r=>
  rw[hd] at h;have:=pP m 45 (by simp_all)
  lia
noncomputable def su(h:single (.int i)=G3):qc (nc i)=KQ i:=by
 have h:=lG h
 cases i with
 |ofNat m=>
  show (if dg m=[45,48]\/19<(fg (dg m)).length\/gA (fg (dg m))=Gy then HA else KQ (if (dg m).head? = KQ 45 then -_ else ((Ru (dg m):Nat):Int)))=_
  have e:fg (dg m)=dg m:=by unfold fg;rw[if_neg (rT m)]
  have l:=pA (m:=m) h;rw[e,if_neg (rT m),Ad,yR,if_neg]
  .rfl
  .rintro(z|z|z)
   .exact rT m (by rw[z];rfl)
   .lia
   .cases z
 |negSucc m=>
  show (if 45::dg (m+1)=[45,48]\/19<(fg (45::dg (m+1))).length\/gA (fg (45::dg (m+1)))=Gy then HA else KQ (if (45::dg (m+1)).head? = KQ 45 then -((Ru (45::dg (m+1)).tail:Nat):Int) else _))=_;have e:fg (45::dg (m+1))=dg (m+1):=rfl;have l:=pA (m:=m+1) h;have e2:(45::dg (m+1)).tail=dg (m+1):=rfl;rw[e,e2,Ad,yR,if_neg]
  .rfl
  .rintro(z|z|z)
   .have z':=(List.cons.inj z).2
    have:=yQ (m+1) (by lia)<;>simp_all
   .lia
   .cases z
noncomputable def cst:Nat->OY->List Nat
 |n+1,.tuple ds=>40::(bg [44] (ds.map (cst n))++[41])
 |0,.tuple _=>[]
 |_,.int i=>nc i
 |_,.str x=>39::cd x
 |_,_=>[]
noncomputable def oI(n:Nat)(i:Int):cst n (.int i)=nc i:=by cases n <;> rfl
noncomputable def oG(n:Nat)(x:Str):cst n (.str x)=39::cd x:=by cases n <;> rfl
noncomputable def dN(h:single d=G3):(∃i,d=.int i)\/∃x,d=.str x:=by cases d <;> first|exact .inl ⟨_,rfl⟩|exact .inr ⟨_,rfl⟩|cases h
noncomputable def cQ(h:az n d=G3):single d=G3\/∃m ds,n=m+1/\d=.tuple ds/\ds.length<=8/\∀x∈ds,az m x=G3:=by
 by_cases k:kd d=.tup
 .obtain⟨ds,rfl⟩:=oZ k
  cases n with
  |zero=>cases h
  |succ m=>
   right;have h':(decide _&&ds.all _)=G3:=h;rw[Pg] at h';exact⟨m,ds,rfl,rfl,of_decide_eq_true h'.1,Po.mp h'.2⟩
 .left
  rw[uM k] at h;exact h
noncomputable def txt_codes(h:has ZZ x=G3):∀c∈cd x,dl c=Gy:=λc hc=>by
 have h1:=of_decide_eq_true (Po.mp h c hc)
 have h2:∀c∈ZZ.cps.toList,dl c=Gy:=by decide +kernel
 exact h2 c h1
noncomputable def ziz(i:Int):∀c∈nc i,dl c=Gy:=λc hc=>by
 rw[Ab]
 have:=ox i c hc<;>grind
noncomputable def xG(h:a≠[]):(a++b).head? = a.head?:=by cases a <;>simp_all
def qj(l:List Nat):Prop:=∀c,l.head? = KQ c->dl c=G3
noncomputable def AU{w l:List Nat}(hw:∀c∈w,dl c=Gy)(hl:qj l):W (w++l)=w:=by
 unfold W
 simp_all
 cases l with
 |nil=>simp
 |cons a r=>
  have:=hl a rfl<;>simp_all
noncomputable def qI{d:OY}{n:Nat}{l:List Nat}(h:single d=G3)(hl:qj l):(cst n d++l).head?≠KQ 40/\(cst n d).head?≠KQ 41/\cst n d≠[]/\gU (cst n d++l)=KQ (d,l)/\(cst n d).length<=21:=by
 rcases dN h with⟨i,rfl⟩|⟨x,rfl⟩
 .rw[oI]
  have CB:=ziy i;have hs:=ox i;have hh:=λc hc=>hs c (List.mem_of_head? hc)
  have h39:(nc i).head?≠KQ 39:=λz=>by simp_all
  refine⟨?_,λz=>by simp_all,CB,?_,by have:=zP h;lia⟩
  .rw[xG CB]<;>grind
  .unfold gU
   rw[AU (ziz i) hl];unfold gV;rw[if_neg h39,su h];simp
 .rw[oG]
  have h':(decide (x.length<=20)&&has ZZ x)=G3:=h;rw[Pg] at h';refine⟨by simp,by simp,by simp,?_,?_⟩
  .unfold gU
   rw[AU (w:=39::cd x) (λc hc=>by
    rcases Pr.mp hc with z|z
    .subst z;rw[Ab];rfl
    .exact txt_codes h'.2 c z) hl]
   unfold gV;show (KQ (QP (mk (cd x)))).map _=_;rw[tY];simp
  .have:=of_decide_eq_true h'.1
   rw[P9,cS]
   lia
theorem wa{val:List Nat->Option (OY×List Nat)}{f:OY->List Nat}{post:List Nat}:∀(ds:List OY) (d:OY) (k:Nat) (acc:List OY),ds.length<k->(∀x∈d::ds,∀l,qj l->val (f x++l)=KQ (x,l)) ->
  gX val k acc (bg [44] ((d::ds).map f)++41::post)=KQ (.tuple (acc++d::ds),post)
 |ds,d,0,acc,h,_=>absurd h (Re _)
 |[],d,k+1,acc,h,hv=>by
  have:=hv d Pf (41::post) (λc hc=>by cases hc;rfl);show (match val (f d++41::post) with|none=>HA|some (v,r)=>_)=_;rw[this];rfl
 |e::ds,d,k+1,acc,h,hv=>by
  have h1:=hv d Pf (44::(bg [44] ((e::ds).map f)++41::post)) (λc hc=>by cases hc;rfl);have ih:=wa (post:=post) ds e k (acc++[d]) (by simp_all) (λx hx=>hv x (Pc _ hx))
  have e1:bg [44] ((d::e::ds).map f)++41::post=f d++44::(bg [44] ((e::ds).map f)++41::post):=by
   show (f d++[44]++bg [44] _)++41::post=_;simp
  unfold gX<;>simp_all
noncomputable def zja:∀(n:Nat) (d:OY),az n d=G3->cst n d≠[]/\(cst n d).head?≠KQ 41:=λn d h=>by
 rcases cQ h with h1|⟨m,ds,rfl,rfl,_,_⟩
 .have:=qI (n:=n) (l:=[]) h1 (λc hc=>by simp_all)
  exact⟨this.2.2.1,this.2.1⟩
 .exact⟨by simp[cst],by simp[cst]⟩
noncomputable def zjb(h:l.head?≠KQ 40):eE n l=gU l:=by
 cases n with
 |zero=>unfold eE;rw[if_neg h]
 |succ n=>unfold eE;rw[if_neg h]
theorem val_back:∀(n:Nat) (d:OY),az n d=G3->∀l,qj l->eE n (cst n d++l)=KQ (d,l)
 |n,d,h,l,hl=>by
  rcases cQ h with h1|⟨m,ds,rfl,rfl,h8,hb⟩
  .have:=qI (n:=n) h1 hl
   rw[zjb this.1,this.2.2.2.1]
  .have ih:=val_back m
   have e:cst (m+1) (.tuple ds)++l=40::(bg [44] (ds.map (cst m))++41::l):=by
    show (40::(bg [44] (ds.map (cst m))++[41]))++l=_;simp
   rw[e];unfold eE
   cases ds with
   |nil=>rfl
   |cons d ds=>
    have hh:=zja m d (hb d Pf);have e2:(40::(bg [44] ((d::ds).map (cst m))++41::l)).tail=bg [44] ((d::ds).map (cst m))++41::l:=rfl
    have e3:(bg [44] ((d::ds).map (cst m))++41::l).head?≠KQ 41:=by
     rw[P2,qv,Q8,xG hh.1];exact hh.2
    rw[e2,if_neg e3];have:=wa (val:=eE m) (f:=cst m) (post:=l) ds d 100000 [] (by simp at h8;omega) (λx hx l hl=>ih x (hb x hx) l hl);rw[this];rfl
termination_by n=>n
noncomputable def rF(n:Nat):∀d,1<=aD n d:=by
 induction n with
 |zero=>intro d;cases d <;> exact Sd _
 |succ n ih=>
  intro d
  by_cases k:kd d=.tup
  .obtain⟨ds,rfl⟩:=oZ k
   have:=K1.zte _ ih ds;show 1<=1+(ds.map _).sum
   lia
  .rw[uY k]<;>simp_all
theorem wY{f:OY->Int}(h:∀d,0<=f d):∀{ds:List OY}{d:OY},d∈ds->f d<=(ds.map f).sum
 |e::r,d,hd=>by
  have nn:∀l:List _,0<=(l.map f).sum:=λl=>by
   induction l with
   |nil=>exact Sd _
   |cons a l ih=>simp_all<;>grind
  rw[P2,R3]
  rcases Pr.mp hd with z|z
  .grind
  .have:=wY h  z<;>grind
noncomputable def qP{n:Nat}{ds:List OY}{d:OY}(h:d∈ds):aD n d<=aD (n+1) (.tuple ds):=by
 have:=wY (f:=aD n) (λd=>by have:=rF n d;lia) h;show aD n d<=1+(ds.map _).sum
 lia
theorem qD(f:OY->List Nat):∀ds:List OY,(ds.map λd=>(f d).length).sum+ds.length<=(bg [44] (ds.map f)).length+1/\(bg [44] (ds.map f)).length<=(ds.map λd=>(f d).length).sum+ds.length
 |[]=>by simp[bg]
 |[d]=>by simp[bg]
 |d::e::r=>by
  have ih:=qD f (e::r);have e1:bg [44] ((d::e::r).map f)=f d++[44]++bg [44] _:=rfl
  simp_all
  lia
theorem sv{n:Nat}:∀{ds:List OY},(∀d∈ds,((cst n d).length:Int)+1<=25*aD n d)->(((ds.map λd=>(cst n d).length).sum+ds.length:Nat):Int)<=25*(ds.map (aD n)).sum
 |[],_=>by simp
 |d::r,h=>by
  have h2:=sv  λx hx=>h x (Pc _ hx)<;>grind
theorem oH:∀(n:Nat) (d:OY),az n d=G3->((cst n d).length:Int)+1<=25*aD n d
 |n,d,h=>by
  rcases cQ h with h1|⟨m,ds,rfl,rfl,h8,hb⟩
  .have:=(qI (n:=n) (l:=[]) h1 (λc hc=>by simp_all)).2.2.2.2
   have:=rF n d
   lia
  .have ih:=oH m
   have h1:=sv  λd hd=>ih d (hb d hd);have h2:=(qD (cst m) ds).2
   show (((40::_).length):Int)+1<=25*(1+(ds.map _).sum)<;>grind
termination_by n=>n
noncomputable def oA(h:single (.int i)=G3):gv [.int i]=KQ (.str (mk (nc i))):=by
 have h1:=lG h
 have h2:i.natAbs.log2<1920:=by
  by_cases z:i.natAbs=0
  .rw[z];decide
  .exact PQ ((VQ (k:=64) z).mpr (Qs h1 (by decide))) (by decide)
 have e:OZ _=mk (nc i):=fz (by rw[zix,eM]);show (if i.natAbs.log2<1920 then KQ _ else HA)=_;rw[if_pos h2,e]
noncomputable def kD(a b:List Nat):mk a++mk b=mk (a++b):=fz (by rw[jt,eM,eM,eM])
noncomputable def lit(h:cd (OZ s)=l):OZ s=mk l:=fz (by rw[h,eM])
def fV(h:n<=2000):n<=sizeLine:=PB h (by decide)
noncomputable def yw(f:OY->List Nat)(ds:List OY):((ds.map λd=>mk (f d)).map (·.length)).sum=(ds.map λd=>(f d).length).sum:=by
 rw[S9];exact congrArg _ (Ra λd _=>di _)
noncomputable def yE(f:OY->List Nat)(ds:List OY):PF (mk [44]) (ds.map λd=>mk (f d))=mk (bg [44] (ds.map f)):=fz (by
 rw[kc,S9]
 exact congrArg _ (Ra λd _=>eM _))
theorem tF:bQ .str .str=G3:=rfl
theorem zU:bQ .tup .str=Gy:=rfl
noncomputable def xX{m:Nat}{ds:List OY}(hm:aD (m+1) (.tuple ds)<=40)(hb:∀x∈ds,az m x=G3):(bg [44] (ds.map (cst m))).length<=1000/\(ds.map λd=>(cst m d).length).sum+ds.length<=1000:=by
 have h1:=sv  λd hd=>oH m d (hb d hd);have h2:=(qD (cst m) ds).2;have h3:1+(ds.map (aD m)).sum<=40:=hm
 lia
noncomputable def str_len{n:Nat}{x:Str}(h:single (.str x)=G3):x.length<=20:=by have h':(decide _&&has ZZ x)=G3:=h<;>simp_all
theorem sP:∀(n k:Nat) (d:OY) (T:Tp),az n d=G3->aD n d<=40->n<k->fh k [.d d] T=KQ (.str (mk (cst n d)),T)
 |n,0,d,T,h,hm,hk=>absurd hk (Re _)
 |n,k+1,d,T,h,hm,hk=>by
  have q1:=lit (s:="'") (l:=[39]) (rfl);have q2:=lit (s:="(") (l:=[40]) (rfl);have q3:=lit (s:=")") (l:=[41]) (rfl);have q4:=lit (s:=",") (l:=[44]) (rfl)
  rcases cQ h with h1|⟨m,ds,rfl,rfl,h8,hb⟩
  .rcases dN h1 with⟨i,rfl⟩|⟨x,rfl⟩
   .simp[fh,kn,whole,oA h1,oI]
   .have e:mk [39]++x=mk (39::cd x):=by rw[←tY x,kD,eM];rfl
    have l:(mk [39]).length+x.length<=sizeLine:=fV (by rw[di];have:=str_len (n:=0) h1;simp;lia);simp[fh,kn,whole,oG,tF,q1,l,e]
  .obtain⟨l1,l2⟩:=xX hm hb
   have c:=gH (e:=ar (fh k) (ab (aa 0) ag)) (ρ:=[KQ (.d (.tuple ds))]) (T:=T) (g:=λd=>.str (mk (cst m d))) (ds:=ds) λd hd=>by
    have:=sP m k d T (hb d hd) (Yr (qP hd) hm) (by lia);simp[this]
   have j:=rL (z:=mk [44]) (nL (λd=>mk (cst m d)) ds);rw[yw,yE,PY,di] at j;rw[if_pos (by simp;lia)] at j;have a1:(mk [40]).length+(mk (bg [44] (ds.map (cst m)))).length<=sizeLine:=fV (by rw[di,di];simp;lia);have a2:(mk (40::bg [44] (ds.map (cst m)))).length+(mk [41]).length<=sizeLine:=fV (by rw[di,di];simp;lia)
   have e1:mk [40]++mk (bg [44] (ds.map (cst m)))=mk (40::bg [44] (ds.map (cst m))):=by rw[kD];rfl
   have e2:mk (40::bg [44] (ds.map (cst m)))++mk [41]=mk (cst (m+1) (.tuple ds)):=by rw[kD];rfl
   simp[fh,kn,whole,zU,q2,q3,q4,c,j,a1,a2,e1,e2]
theorem rX:∀(n:Nat) (v:OY),az n v=G3->Sm v
 |n,v,h=>by
  rcases cQ h with h1|⟨m,ds,rfl,rfl,_,hd⟩
  .rcases dN h1 with⟨i,rfl⟩|⟨x,rfl⟩
   .show GB _=G3
    rw[GB]<;>simp_all
   .have h2:(decide _&&has ZZ x)=G3:=h1
    rw[Pg] at h2;exact Sm.mkS (PB (of_decide_eq_true h2.1) (by simp)) (K1.mF K1.mK h2.2)
  .exact Sm.tup λd hx=>rX m d (hd d hx)
termination_by n=>n
noncomputable def gN(h:au v=G3):Sm v:=by
 have h':(az 4 v&&decide _)=G3:=h;rw[Pg] at h';exact rX 4 v h'.1
noncomputable def da(h:au v=G3):az 4 v=G3/\aD 4 v<=40:=by have h':(az 4 v&&decide _)=G3:=h<;>simp_all
noncomputable def mM(T:Tp)(h:au v=G3):iu [.d (.str (mk (cst 4 v)))] T=KQ (v,T):=by
 obtain⟨hb,hm⟩:=da h;have hl:=oH 4 v hb
 have ht:(mk (cst 4 v)).length<=60000:=by rw[di];lia
 have FF:(mk _).length<=sizeLine:=PB ht (by decide);have e:=zc (T:=T) ht 4 25 (by simp) (cst 4 v) (by rw[eM]<;>simp_all);have b:=val_back 4 v hb [] (λc hc=>by simp_all);rw[QJ] at b;rw[b,di,Nat.sub_self] at e;have e':eI 25 [.d _,.d (.int 0),.d (.int 4)] T=KQ (.tuple [v,.int _],T):=e;have iv:=zb T (gN h);have hz:(mk _).length=(cst 4 v).length:=di _
 simp[iu,e',isNone,jN,iX,iv,hz]<;>simp_all
def N3(l:List Nat):Prop:=∀c∈l,c<128/\c≠32
def N3.no(h:N3 l):32∉l:=λz=>(h 32 z).2 rfl
noncomputable def lV(x:List Nat)(r:List (List Nat)):bg [32] (x::r)=x++(r.map ([32]++·)).flatten:=qv [32] x r
noncomputable def zjc(ha:32∉a)(hb:32∉b)(hu:u=[]\/u.head? = KQ 32)(hv:v=[]\/v.head? = KQ 32)(h:a++u=b++v):a=b/\u=v:=by
 induction a generalizing b with
 |nil=>
  cases b <;>simp_all
 |cons x a ih=>
  cases b with
  |nil=>
   exfalso
   rw[Xd] at h<;>grind
  |cons c b=>
   injection h with h1 h2
   obtain⟨k1,k2⟩:=ih  (λz=>ha (Pc _ z)) (λz=>hb (Pc _ z)) h2<;>simp_all
noncomputable def yI(r:List (List Nat)):(r.map ([32]++·)).flatten=[]\/((r.map ([32]++·)).flatten).head? = KQ 32:=by
 cases r with
 |nil=>exact .inl rfl
 |cons a r=>exact .inr rfl
theorem yX:∀(A B:List (List Nat)),A≠[]->B≠[]->(∀a∈A,32∉a)->(∀b∈B,32∉b)->bg [32] A=bg [32] B->A=B
 |[],_,h,_,_,_,_=>absurd rfl h
 |_::_,[],_,h,_,_,_=>absurd rfl h
 |a::A,b::B,_,_,hA,hB,h=>by
  rw[lV,lV] at h;obtain⟨h1,h2⟩:=zjc (hA a Pf) (hB b Pf) (yI A) (yI B) h
  congr 1
  cases A with
  |nil=>
   cases B <;>simp_all
  |cons a' A=>
   cases B with
   |nil=>cases h2
   |cons b' B=>
    have h3:a'++(A.map ([32]++·)).flatten=b'++(B.map ([32]++·)).flatten:=by simp_all
    refine yX _ _ (by simp) (by simp) (λx hx=>hA x (Pc _ hx)) (λx hx=>hB x (Pc _ hx)) ?_
    rw[lV,lV]<;>omega
noncomputable def zjd(x y:Str):Sa x y≠[]:=by
 unfold Sa;split
 .simp
 .split
  .simp
  .rw[StrLaws.partsBetween_eq]
   obtain⟨p,r,e⟩:=StrLaws.partsFrom_ne x _ 0 _;rw[e];simp
noncomputable def BL:Str:=OZ " "
noncomputable def zje{A B:List Str}(h:A.map cd=B.map cd):A=B:=by
 induction A generalizing B with
 |nil=>simp_all
 |cons a A ih=>cases B with
  |nil=>cases h
  |cons b B=>
   injection h with h1 h2
   rw[fz h1,ih h2]
noncomputable def zjf(CB:ws≠[])(h:∀w∈ws,32∉cd w):Sa (PF BL ws) BL=ws:=by
 have j:=StrLaws.join_split (PF BL ws) BL
 have f:∀p∈Sa (PF BL ws) BL,32∉cd p:=by
  exact StrLaws.split_free _ 32
 generalize hA:Sa _ BL=A at j f
 have hA':A≠[]:=by rw[←hA];exact zjd _ _
 have c:cd (PF BL A)=cd (PF BL ws):=by rw[j]
 rw[kc,kc] at c;refine zje (yX _ _ (by simp_all) (by simp_all) (λa ha=>?_) (λa ha=>?_) c)
 .obtain⟨p,hp,rfl⟩:=PD.mp ha
  exact f p hp
 .obtain⟨p,hp,rfl⟩:=PD.mp ha
  exact h p hp
open K1 (has Z1 ZZ single az aD isName au IQ Sh BM)
@[simp] theorem Mh:OZ a=OZ b↔a=b:=by
 constructor
 .intro h
  have h2:(OZ a).cps.toList=(OZ b).cps.toList:=by rw[h]
  rw[VT,VT] at h2;have inj:Function.Injective _:=λx y e=>Char.ext (UInt32.toNat_inj.mp e);exact String.toList_inj.mp ((List.map_inj_right (λx y e=>inj e)).mp h2)
 .rintro rfl;rfl
theorem oi:∀(n:Nat) (d:OY),az n d=G3->az (n+1) d=G3/\aD (n+1) d=aD n d
 |n,d,h=>by
  rcases cQ h with h1|⟨m,ds,rfl,rfl,h8,hd⟩
  .exact⟨(fQ h1).1,by rw[(fQ  h1).2,(fQ  h1).2]⟩
  .have ih:=λd EF=>oi m d (hd d EF)
   refine⟨?_,?_⟩
   .show (decide _&&ds.all _)=G3<;>simp_all
   .show 1+(ds.map _).sum=1+(ds.map _).sum
    rw[Ra λd EF=>(ih d EF).2]
termination_by n=>n
noncomputable def sl(L:List Str):List PyData:=L.map .str
noncomputable def kZ(C:Addr)(L:List Str)(p b:Int):List PyData:=[cT C,.tuple [.str "parted",.list (sl L)],.tuple [.str "place",.int p],.tuple [.str "begun",.int b]]
abbrev TW(C:Addr)(t0:List OY)(L:List Str)(p b:Int):Tp:=[kZ C L p b]
section
variable {C:Addr}{t0:List OY}{L:List Str}{p b:Int}
noncomputable def kI:fA C (TW C t0 L p b) 0=KQ [.tuple [.str "parted",.list (sl L)],.tuple [.str "place",.int p],.tuple [.str "begun",.int b]]:=by simp[fA,kZ,iQ,cT]
noncomputable def xJ:hU C "parted" (.tp 0) (TW C t0 L p b)=KQ (.d (.list (sl L)),TW C t0 L p b):=by
 unfold hU;dsimp only;rw[kI];simp[fB]
noncomputable def sE:hU C "place" (.tp 0) (TW C t0 L p b)=KQ (.d (.int p),TW C t0 L p b):=by
 unfold hU;dsimp only;rw[kI];simp[fB]
noncomputable def zjg:hU C "begun" (.tp 0) (TW C t0 L p b)=KQ (.d (.int b),TW C t0 L p b):=by
 unfold hU;dsimp only;rw[kI];simp[fB]
noncomputable def zjh:eL C "place" ρ (.d (.int q)) (.tp 0) (TW C t0 L p b)=KQ ((.nx,ρ),TW C t0 L q b):=by
 unfold eL;dsimp only;rw[kI];simp[gy,kZ]
noncomputable def zji:eL C "begun" ρ (.d (.int q)) (.tp 0) (TW C t0 L p b)=KQ ((.nx,ρ),TW C t0 L p q):=by
 unfold eL;dsimp only;rw[kI];simp[gy,kZ]
theorem oB:fN C f fo ρ T=YS (fo ρ T) (hU C f):=rfl
theorem rM:jA C f fo fe ρ T=YS (fe ρ T) λw T1=>YS (fo ρ T1) (eL C f ρ w):=rfl
theorem eQ:dv C m mm fo g ρ T=YS (fo ρ T) (mT C m mm g ρ):=rfl
noncomputable def Ky(h:¬m="parted"/\¬m="place"/\¬m="begun"):mT C (OZ m) mm g ρ (.tp 0) (TW C t0 L p b)=YS (g ρ (TW C t0 L p b)) λws T2=>YS (mm (.tp 0::ws) T2) λx T3=>KQ (.d x,T3):=by
 unfold mT;dsimp only;rw[kI];have h1:¬ "parted"=m:=λz=>h.1 z.symm;have h2:¬ "place"=m:=λz=>h.2.1 z.symm;have h3:¬ "begun"=m:=λz=>h.2.2 z.symm;simp[fB,h1,h2,h3]
def iF:(sl L).length=L.length:=by simp[sl]
noncomputable def zjj{k:Nat}{w:Str}(h:L[k]? = KQ w):Zd (sl L) (k:Int)=KQ (.str w):=by
 refine fq ?_
 unfold sl<;>simp_all
noncomputable def gM{k:Nat}{w:Str}(h:L[k]? = KQ w):ie C [.tp 0] (TW C t0 L (k:Int) b)=KQ (.str w,TW C t0 L (k:Int) b):=by
 have hk:=(Pa.mp h).1
 have Fu:=by omega
 have a:=zjj h;have ln:=iF (L:=L);simp[ie,oB,xJ,sE,ln,Fu,a]
noncomputable def pE:i7 C [.tp 0,.d (.bool G3)] (TW C t0 L p b)=KQ (.none,TW C t0 L (p+1) b):=by simp[i7,oB,rM,sE,zjh]
noncomputable def km(ha:a<20)(hb:b<60):lz C [.tp 0,.d (.bool G3),.d (.int a)] (TW C t0 L p b)=KQ (.none,TW C t0 L (p+1) (b+1)):=by simp[lz,oB,rM,eQ,zjg,Ky,ha,hb,pE,zji]
noncomputable def zjk{k:Nat}(h:L.length<=k):jP C [.tp 0] (TW C t0 L (k:Int) b)=KQ (.none,TW C t0 L (k:Int) b):=by
 have Fu:¬(k)<(L.length):=by lia
 have ln:=iF (L:=L);simp[jP,oB,xJ,sE,ln,Fu]
noncomputable def zjl(T:Tp)(h:isName (.str x)=G3):eP [.d (.str x)] T=KQ (.bool G3,T):=by
 have h':(decide _&&decide _&&has Z1 x)=G3:=h;rw[Pg,Pg] at h';have l1:=of_decide_eq_true h'.1.1;have l8:=of_decide_eq_true h'.1.2
 have l1':(1:Int)<=(x.length):=by lia
 have l8':(x.length:Int)<=8:=by lia
 have hz:x.length<=sizeLine:=PB l8 (by decide);have hh:=pV (y:=Z1) T hz;rw[h'.2] at hh;have hh':fS [.d _,.d (.str "abcdefghijklmnopqrstuvwxyz")] T=KQ _:=hh;simp[eP,tF,hz,l1',l8',hh']
noncomputable def zjm{k:Nat}{w:Str}(h:L[k]? = KQ w)(hn:isName (.str w)=G3):nQ C [.tp 0] (TW C t0 L (k:Int) b)=KQ (.str w,TW C t0 L ((k:Int)+1) b):=by
 have a:=gM (C:=C) (t0:=t0) (b:=b) h;have i:=zjl (TW C t0 L (k) b) hn;simp[nQ,eQ,Ky,a,i,pE]
noncomputable def zjn(h:au v=G3):isNone v=Gy:=by
 cases v with
 |none=>cases h
 |_=>rfl
noncomputable def zjo{k:Nat}{v:OY}(h:L[k]? = KQ (mk (cst 4 v)))(hv:au v=G3):nX C [.tp 0] (TW C t0 L (k:Int) b)=KQ (v,TW C t0 L ((k:Int)+1) b):=by
 have a:=gM (C:=C) (t0:=t0) (b:=b) h;have i:=mM (TW C t0 L (k) b) hv
 have n:f7 v .none=KQ (.bool G3):=by
  have e:f7 v .none=KQ (.bool (!isNone v)):=rfl;rw[e,zjn hv];rfl
 simp[nX,eQ,Ky,a,i,pE,n]
def ns(j:Nat):Str:=mk (nc (j:Int))
noncomputable def zjp(h1:i<=1000)(h2:j<=1000)(h:ns i=ns j):i=j:=by
 have e:cd (ns i)=cd (ns j):=by rw[h]
 unfold ns at e;rw[eM,eM] at e;have a:=su (i:=(i)) (ir (by lia) (by lia))
 have b:=su (i:=(j)) (ir (by lia) (by lia))<;>grind
noncomputable def zjq(hn:n<=1000)(hj:j<n):jI (ns j) ((RT n).map ns)=KQ j:=by
 have key:∀(l a:Nat),a+l<=1000->a<=j->j<a+l->jI (ns j) ((List.range' a l).map ns)=KQ (j-a):=by
  intro l
  induction l with
  |zero=>grind
  |succ l ih=>
   intro a h0 h1 h2;rw[List.range'_succ,P2];unfold jI
   by_cases z:a=j
   simp_all
   .rw[if_neg (λe=>z (zjp _ _ e))]<;>grind
 have:=key n 0 (by lia) (Ql _) (by lia)
 rw[List.range_eq_range']<;>lia
theorem r8:∀l:List Str,eB (sl l)=KQ l
 |[]=>rfl
 |x::r=>by
  have ih:=r8 r;unfold sl at ih ⊢;rw[P2,eB,ih];rfl
noncomputable def in_sl(h:w∈l):inD (.str w) (.list (sl l))=KQ (.bool G3):=by
 have e1:(sl l).all dG=G3:=Po.mpr λd hd=>by
  obtain⟨x,_,rfl⟩:=PD.mp hd;rfl
 have e2:((sl l).any λy=>HZ y (.str w))=G3:=Th.mpr ⟨.str w,PD.mpr ⟨w,h,rfl⟩,beq_self_eq_true w⟩
 have e3:Js (.str w) (.list (sl l))=if _=G3 then KQ _ else HA:=rfl
 unfold inD;rw[e3,e1,e2];rfl
noncomputable def AW{k n j:Nat}(h:L[k]? = KQ (ns j))(hn:n<=100)(hj:j<n):lw C [.tp 0,.d (.int (n:Int))] (TW C t0 L (k:Int) b)=KQ (.int (j:Int),TW C t0 L ((k:Int)+1) b):=by
 have a:=gM (C:=C) (t0:=t0) (b:=b) h;have r:=qK (j:=(n:Int)) (by lia) (by lia)
 have c:=gH (e:=Zy gv (ab (aa 0) ag)) (ρ:=[KQ (.tp 0),KQ (.d (.int (n:Int))),HA,HA]) (T:=TW C t0 L (k:Int) b) (g:=λd=>match d with | .int i=>.str (mk (nc i))|_=>.none) (ds:=dF 0 n) λd hd=>by
  obtain⟨i,hi,rfl⟩:=PD.mp hd
  simp_all
  have z:=oA (i:=(0:Int)+(i:Int)) (ir (by lia) (by lia))<;>simp_all
 have m:(dF 0 n).map (λd=>match d with | .int i=>.str (mk (nc i))|_=>YB)=sl ((RT n).map ns):=by
  unfold sl dF;simp[ns]
 rw[m] at c;have i1:=in_sl (w:=ns j)  (PD.mpr ⟨j,VF.mpr hj,rfl⟩);have i2:=zjq (n:=n)  (by lia) hj;have i3:=r8 ((RT n).map ns);simp[lw,eQ,Ky,r,c,a,i1,pE,uq,uo,i3,i2]
noncomputable def fY{p:Nat}{w:Str}{r:List Str}(h:L.drop p=w::r):L[p]? = KQ w/\L.drop (p+1)=r:=by
 have h1:(L.drop p)[0]? = KQ w:=by rw[h];rfl
 have h2:(L.drop p).tail=r:=by rw[h];rfl
 exact⟨by simpa using h1,by rw[←h2,List.tail_drop]⟩
def wg(C:Addr)(k:Nat)(m a:Int)(c:Nat)(ws:List Str)(e:OY):Prop:=∀(t0:List OY) (L:List Str) (p b:Nat) (post:List Str),b+c<=60->L.drop p=ws++post->fU C k [.tp 0,.d (.int a),.d (.int m)] (TW C t0 L (p:Int) (b:Int))=KQ (e,TW C t0 L ((p+ws.length:Nat):Int) ((b+c:Nat):Int))
theorem wG{k:Nat}{m a:Int}{o1:Option D.W}{f:OY->Nat×List Str}{post:List Str}:∀(es ds:List OY) (p b:Nat),ds.length=es.length->(∀e∈es,wg C k m a (f e).1 (f e).2 e)->L.drop p=(es.map λe=>(f e).2).flatten++post->b+(es.map λe=>(f e).1).sum<=60 ->
  bH bU (ar (fU C k) (ab (aa 1) (ab (aa 3) (ab (aa 4) ag)))) [KQ (.tp 0),o1,KQ (.d (.int a)),KQ (.d (.int m))] ds (TW C t0 L (p:Int) (b:Int))=KQ (es,TW C t0 L ((p+(es.map λe=>(f e).2).flatten.length:Nat):Int) ((b+(es.map λe=>(f e).1).sum:Nat):Int))
 |[],[],p,b,_,_,_,_=>rfl
 |[],_::_,_,_,h,_,_,_=>by simp_all
 |_::_,[],_,_,h,_,_,_=>by simp_all
 |e::es,d::ds,p,b,hl,hr,hd,hb=>by
  have h0:=hr e Pf;simp only[P2,Ss,R3,Q8] at hd hb ⊢;have r0:=h0 t0 L p b _ (by lia) hd
  have EF:L.drop (p+(f e).2.length)=(es.map λe=>(f e).2).flatten++post:=by
   rw[←VU,hd,VW]
  have ih:=wG (k:=k) (m:=m) (a:=a) (o1:=o1) (f:=f) (post:=post) es ds _ (b+(f e).1) (by simpa using hl) (λx hx=>hr x (Pc _ hx)) EF (by lia)
  have e1:p+((f e).2++(es.map λe=>(f e).2).flatten).length=p+(f e).2.length+(es.map λe=>(f e).2).flatten.length:=by grind
  have e2:b+((f e).1+(es.map λe=>(f e).1).sum)=b+(f e).1+(es.map λe=>(f e).1).sum:=by lia
  rw[e1,e2]
  simp_all
  simp[bH,r0,ih]
noncomputable def za{k:Nat}{m a:Int}{f:OY->Nat×List Str}{post:List Str}{es:List OY}{p b:Nat}(hl:es.length<=8)(hr:∀e∈es,wg C k m a (f e).1 (f e).2 e)(hd:L.drop p=(es.map λe=>(f e).2).flatten++post)(hb:b+(es.map λe=>(f e).1).sum<=60) :
  lH C (k+1) [.tp 0,.d (.int (es.length:Int)),.d (.int a),.d (.int m)] (TW C t0 L (p:Int) (b:Int))=KQ (.tuple es,TW C t0 L ((p+(es.map λe=>(f e).2).flatten.length:Nat):Int) ((b+(es.map λe=>(f e).1).sum:Nat):Int)):=by
 have c:=wG  (t0:=t0) (o1:=KQ (.d (.int (es.length))))  es _ p b (xr _) hr hd hb;have r:=qK (j:=(es.length)) (by lia) (by lia);simp[lH,r,c]
end
noncomputable def Bk(i:Nat)(ρ:YR)(w:D.W)(T1:Tp)(o:Option (Option D.W)):Option ((Fl×YR)×Tp):=match w,o with
 |.d (.list ys),KQ (KQ (.loc (.list xs)))=>if xs.length+ys.length<=Ph then KQ ((.nx,ρ.set i (KQ (.loc (.list (xs++ys))))),T1) else HA
 |_,_=>HA
theorem z5:iW i f ρ T=YS (f ρ T) λw T1=>Bk i ρ w T1 ρ[i]?:=rfl
noncomputable def yJ(h:xs.length+ys.length<=Ph):Bk i ρ (.d (.list ys)) T (KQ (KQ (.loc (.list xs))))=KQ ((.nx,ρ.set i (KQ (.loc (.list (xs++ys))))),T):=if_pos h
noncomputable def zp(a b:List Str):sl a++sl b=sl (a++b):=by simp[sl]
def jC(h:n<=100000):n<=sizeLine:=PB h (by decide)
theorem xx{mw:YX}{e0:OY}{T:Tp}{g:OY->List Str}:∀(es:List OY) (acc:List Str) (o2:Option D.W),(∀e∈es,mw [.d e] T=KQ (.list (sl (g e)),T))->acc.length+(es.map g).flatten.length<=100000 ->
  ∃wQ,forL 2 (iW 1 (ar mw (ab (aa 2) ag))) es [KQ (.d e0),KQ (.loc (.list (sl acc))),o2] T=KQ ((.nx,[KQ (.d e0),KQ (.loc (.list (sl (acc++(es.map g).flatten)))),wQ]),T)
 |[],acc,o2,_,_=>⟨o2,by simp[forL]⟩
 |e::es,acc,o2,h,hl=>by
  simp only[P2,Ss,Qb] at hl;have h0:=h e Pf;obtain⟨o',ih⟩:=xx  (e0:=e0)   es (acc++g e) (KQ (.d e)) (λx hx=>h x (Pc _ hx)) (by grind);refine⟨o',?_⟩
  have z:(sl acc).length+(sl (g e)).length<=sizeLine:=by rw[iF,iF];exact jC (by lia)
  have k:=yJ (i:=1) (ρ:=[KQ (.d e0),KQ (.loc (.list (sl acc))),KQ (.d e)]) (T:=T) z;rw[zp] at k
  have st:iW 1 (ar mw (ab (aa 2) ag)) [KQ (.d e0),KQ (.loc (.list (sl acc))),KQ (.d e)] T=KQ ((.nx,[KQ (.d e0),KQ (.loc (.list (sl (acc++g e)))),KQ (.d e)]),T):=by
   rw[z5]<;>simp_all
  rw[forL]<;>simp_all
def zjr:Zd (a::r) 0=KQ a:=by simp[Zd,Jh]
noncomputable def nF{k:Nat}{T:Tp}{w0:Str}{rest:List OY}{fl:List Str}{es:List OY}{g:OY->List Str}(hf:h7 [.d (.tuple (.str w0::rest))] T=KQ (.list (sl fl),T))(hi:cA [.d (.tuple (.str w0::rest))] T=KQ (.list es,T))
  (hr:∀e∈es,gB k [.d e] T=KQ (.list (sl (g e)),T)) (hl:fl.length+(es.map g).flatten.length<=90000):gB (k+1) [.d (.tuple (.str w0::rest))] T=KQ (.list (sl (w0::(fl++(es.map g).flatten))),T):=by
 obtain⟨o2,lp⟩:=xx  (e0:=.tuple (.str w0::rest)) es (w0::fl) HA hr (by grind)
 have z:(sl fl).length+1<=sizeLine:=by rw[iF];exact jC (by lia)
 have z':1+(sl fl).length<=sizeLine:=by lia
 have st:jB 1 (av .list (ab (ae Y8 (aa 0) (fC (.int 0))) ag)) (ar h7 (ab (aa 0) ag)) [KQ (.d (.tuple (.str w0::rest))),HA,HA] T=KQ ((.nx,[KQ (.d (.tuple (.str w0::rest))),KQ (.loc (.list (sl (w0::fl)))),HA]),T):=by
  unfold jB;simp[zjr,hf,pG,z'];rfl
 have e0:gB (k+1)=aJ 3 _:=rfl<;>simp_all
noncomputable def zjs:cm (a::r) (KQ 1) HA=r:=by
 have e:cm (a::r) (KQ ((1:Nat))) HA=r:=by
  unfold cm;rw[HT.zso,HT.zsp];simp
 exact e
structure EX(C:Addr)(m:Int)(n c:Nat)(ws:List Str)(e:OY):Prop where
 n1:1<=n
 c1:1<=c
 c6:c<=60
 ln:ws.length<=2*c
 ne:ws≠[]
 ok:∀w∈ws,N3 (cd w)/\w.length<=1100
 pw:∀k T,n<k->gB k [.d e] T=KQ (.list (sl ws),T)
 rd:∀k a,2*n<=k->a+(n:Int)<=20->wg C k m a c ws e
 bt:az (2*n+5) e=G3
noncomputable def litOk(w:String):Bool:=(cd (OZ w)).all (λc=>decide (c<128/\c≠32))&&decide ((OZ w).length<=1100)
noncomputable def kE(h:litOk w=G3):N3 (cd (OZ w))/\(OZ w).length<=1100:=by
 unfold litOk at h;rw[Pg] at h;exact⟨λc hc=>of_decide_eq_true (Po.mp h.1 c hc),of_decide_eq_true h.2⟩
theorem vD:∀(k n:Nat) (d:OY),az n d=G3->az (n+k) d=G3
 |0,_,_,h=>h
 |k+1,n,d,h=>by
  have:=(oi _ d (vD k n d h)).1<;>omega
noncomputable def gI{n m:Nat}{d:OY}(h:az n d=G3)(l:n<=m):az m d=G3:=by have:=vD (m-n) n d h<;>simp_all
noncomputable def iz(hl:ds.length<=8)(h:∀d∈ds,az n d=G3):az (n+1) (.tuple ds)=G3:=by show (decide _&&ds.all _)=G3<;>simp_all
noncomputable def kK(h:single (.str (OZ w))=G3)(n:Nat):az n (.str (OZ w))=G3:=(fQ h).1
noncomputable def zjt:∀(ls:List (List Nat)),c∈bg [44] ls->c=44\/∃l∈ls,c∈l
 |[],h=>by cases h
 |x::r,h=>by
  rw[qv] at h
  rcases Pt.mp h with h|h
  .exact .inr ⟨x,Pf,h⟩
  .grind
def zju:∀c∈cd ZZ,c<128/\c≠32:=by decide +kernel
theorem xV:∀(n:Nat) (d:OY),az n d=G3->N3 (cst n d)
 |n,d,h=>λc z=>by
  rcases cQ h with h1|⟨m,ds,rfl,rfl,_,hd⟩
  .rcases dN h1 with⟨i,rfl⟩|⟨x,rfl⟩
   .rw[oI] at z
    have:=ox i c z
    lia
   .rw[oG] at z
    have h2:(decide (x.length<=20)&&has ZZ x)=G3:=h1;rw[Pg] at h2
    rcases Pr.mp z with z|z
    .simp_all
    .exact zju c (of_decide_eq_true (Po.mp h2.2 c z))
  .have e:cst (m+1) (.tuple ds)=40::(bg [44] (ds.map (cst m))++[41]):=rfl
   rw[e] at z
   rcases Pr.mp z with z|z
   .simp_all
   .rcases Pt.mp z with z|z
    .rcases zjt _ z with z|⟨l,hl,hc⟩
     .simp_all
     .obtain⟨d,EF,rfl⟩:=PD.mp hl
      exact xV m d (hd d EF) c hc
    .simp_all
termination_by n=>n
noncomputable def w8(h:au v=G3):N3 (cd (mk (cst 4 v)))/\(mk (cst 4 v)).length<=1100:=by
 obtain⟨hb,hm⟩:=da h;have hl:=oH 4 v hb;refine⟨?_,by rw[di];lia⟩;exact xV 4 v hb
noncomputable def AB(j:Nat)(h:j<=1000):N3 (cd (ns j))/\(ns j).length<=1100:=by
 have s:=ox (j);have l:=zP (i:=(j)) (ir (by lia) (by lia));unfold ns;rw[eM,di];exact⟨λc z=>by grind,by lia⟩
@[simp] theorem OI{α:Type}{a:α}{r:List α}:Zd (a::r) 0=KQ a:=by simp[Zd,Jh]
@[simp] theorem OH{α:Type}{a b:α}{r:List α}:Zd (a::b::r) 1=KQ b:=fq (rfl)
@[simp] theorem OG{α:Type}{a b c:α}{r:List α}:Zd (a::b::c::r) 2=KQ c:=fq (rfl)
noncomputable def qe:inD (.str (OZ x)) (.tuple [.str "put",.str "got",.str "row"])=KQ (.bool (decide (x="put")||(decide (x="got")||decide (x="row")))):=by
 have e:inD (.str (OZ x)) (.tuple [.str "put",.str "got",.str "row"])=KQ (.bool (HZ _ _||(HZ _ _||(HZ _ _||false)))):=rfl
 have f:∀a b ,HZ (.str (OZ a)) (.str (OZ b))=decide _:=λa b=>by
  rw[Rb];simp[HZ];exact⟨λh=>h.symm,λh=>h.symm⟩
 rw[e,f,f,f,X5]
section
variable {C:Addr}{m:Int}{n:Nat}
noncomputable def gY(h1:p=p')(h2:b=b'):TW C t0 L p b=TW C t0 L p' b' :=by simp_all
noncomputable def An(hn:1<=n)(h:au v=G3):EX C m n 1 [OZ "put",mk (cst 4 v)] (.tuple [.str "put",v]):=by
 obtain⟨hb,hm⟩:=da h;have st:∀T,fh 25 [.d v] T=KQ (.str (mk (cst 4 v)),T):=λT=>sP 4 25 v T hb hm (by decide);refine⟨hn,by decide,by decide,by simp,by simp,λw hw=>?_,λk T hk=>?_,λk a hk ha t0 L p b post hb hd=>?_,?_⟩
 .simp at hw
  rcases hw with rfl|rfl
  .exact kE (by decide +kernel)
  .exact w8 h
 .obtain⟨k,rfl⟩:=aS k (by omega)
  exact nF (k:=k) (T:=T) (fl:=[mk (cst 4 v)]) (es:=[]) (g:=λ_=>[]) (by simp[h7,st,sl]) (by simp[cA]) (λe he=>by cases he) (by simp)
 .obtain⟨k,rfl⟩:=aS k (by omega)
  obtain⟨a0,d0⟩:=fY (w:=OZ "put") (r:=mk (cst 4 v)::post) hd;obtain⟨a1,_⟩:=fY d0;have b1:=gM (C:=C) (t0:=t0) (b:=(b:Int)) a0;have b2:=km (C:=C) (t0:=t0) (L:=L) (p:=(p:Int)) (b:=(b:Int)) (a:=a) (by omega) (by omega);have b3:=zjo (C:=C) (t0:=t0) (b:=(b:Int)+1) a1 h;simp only[Sn,SV] at b3;have fin:TW C t0 L ((p + [OZ "put",mk (cst 4 v)].length:Nat):Int) ((b+1:Nat):Int)=TW C t0 L ((p:Int)+1+1) ((b:Int)+1):=gY (by show ((p+2:Nat):Int)=_;omega) (by omega);rw[fin];simp[fU,eQ,Ky,b1,qe,b2,b3]
 .exact gI (iz (n:=4) (by simp) λd hd=>by
   simp at hd
   rcases hd with rfl|rfl
   .exact kK (by decide +kernel) 4
   .exact hb) (by omega)
noncomputable def sV{j:Nat}(h:j<=1000):gv [.int (j:Int)]=KQ (.str (ns j)):=oA (ir (by omega) (by omega))
noncomputable def yf{j:Nat}(h:j<=1000):Ln [.int (j:Int)]=KQ (.str (ns j)):=sV h
noncomputable def zjv{g j:Nat}(hn:1<=n)(hg:g<=12)(hj:j<g):EX C (g:Int) n 1 [OZ "got",ns j] (.tuple [.str "got",.int (j:Int)]):=by
 have s1:=sV (j:=j) (by omega);have s2:=yf (j:=j) (by omega);refine⟨hn,by decide,by decide,by simp,by simp,λw hw=>?_,λk T hk=>?_,λk a hk ha t0 L p b post hb hd=>?_,?_⟩
 .simp at hw
  rcases hw with rfl|rfl
  .exact kE (by decide +kernel)
  .exact AB j (by omega)
 .obtain⟨k,rfl⟩:=aS k (by omega)
  exact nF (k:=k) (T:=T) (fl:=[ns j]) (es:=[]) (g:=λ_=>[]) (by simp[h7,s1,sl]) (by simp[cA]) (λe he=>by cases he) (by simp)
 .obtain⟨k,rfl⟩:=aS k (by omega)
  obtain⟨a0,d0⟩:=fY (w:=OZ "got") (r:=ns j::post) hd;obtain⟨a1,_⟩:=fY d0;have b1:=gM (C:=C) (t0:=t0) (b:=(b:Int)) a0;have b2:=km (C:=C) (t0:=t0) (L:=L) (p:=(p:Int)) (b:=(b:Int)) (a:=a) (by omega) (by omega);have b3:=AW (C:=C) (t0:=t0) (b:=(b:Int)+1) (n:=g) a1 (by omega) hj;simp only[Sn,SV] at b3;have fin:TW C t0 L ((p + [OZ "got",ns j].length:Nat):Int) ((b+1:Nat):Int)=TW C t0 L ((p:Int)+1+1) ((b:Int)+1):=gY (by show ((p+2:Nat):Int)=_;omega) (by omega);rw[fin];simp[fU,eQ,Ky,b1,qe,b2,b3]
 .exact gI (iz (n:=0) (by simp) λd hd=>by
   simp at hd
   rcases hd with rfl|rfl
   .exact kK (by decide +kernel) 0
   .exact(fQ (ir (by omega) (by omega))).1) (by omega)
theorem tH{f:OY->Nat×List Str}:∀{es:List OY},(∀e∈es,(f e).2.length<=2*(f e).1)->(es.map λe=>(f e).2).flatten.length<=2*(es.map λe=>(f e).1).sum
 |[],_=>by simp
 |e::es,h=>by
  have:=tH  λx hx=>h x (Pc _ hx)<;>grind
noncomputable def AH{f:OY->Nat×List Str}{P:Str->Prop}{es:List OY}(h:∀e∈es,∀w∈(f e).2,P w):∀w∈(es.map λe=>(f e).2).flatten,P w :=by grind
noncomputable def zjw{f:OY->Nat×List Str}{es:List OY}(hl:es.length<=8)(h:∀e∈es,EX C m n (f e).1 (f e).2 e)(hc:1+(es.map λe=>(f e).1).sum<=60) :
  EX C m (n+1) (1+(es.map λe=>(f e).1).sum) (OZ "row"::ns es.length::(es.map λe=>(f e).2).flatten) (.tuple [.str "row",.tuple es]):=by
 have fl:=tH (f:=f) (es:=es) λe he=>(h e he).ln;have s1:=sV (j:=es.length) (by omega);have s2:=yf (j:=es.length) (by omega);refine⟨by omega,by omega,hc,by simp only[P9];omega,by simp,λw hw=>?_,λk T hk=>?_,λk a hk ha t0 L p b post hb hd=>?_,?_⟩
 .rcases Pr.mp hw with rfl|hw
  .exact kE (by decide +kernel)
  .rcases Pr.mp hw with rfl|hw
   .exact AB _ (by omega)
   .exact AH (P:=λw=>N3 (cd w)/\w.length<=1100) (λe he=>(h e he).ok) w hw
 .obtain⟨k,rfl⟩:=aS k (by omega)
  exact nF (k:=k) (T:=T) (fl:=[ns es.length]) (es:=es) (g:=λe=>(f e).2) (by simp[h7,s1,sl]) (by simp[cA]) (λe he=>(h e he).pw k T (by omega)) (by simp only[P9,SO];omega)
 .obtain⟨k,rfl⟩:∃j,k=j+2:=⟨k-2,by omega⟩
  obtain⟨a0,d0⟩:=fY (w:=OZ "row") (r:=ns es.length::((es.map λe=>(f e).2).flatten++post)) hd;obtain⟨a1,d1⟩:=fY d0;have b1:=gM (C:=C) (t0:=t0) (b:=(b:Int)) a0;have b2:=km (C:=C) (t0:=t0) (L:=L) (p:=(p:Int)) (b:=(b:Int)) (a:=a) (by omega) (by omega);have b3:=AW (C:=C) (t0:=t0) (b:=(b:Int)+1) (n:=9) a1 (by omega) (by omega);have b4:=za (C:=C) (t0:=t0) (L:=L) (k:=k) (m:=m) (a:=a+1) (f:=f) (post:=post) (es:=es) (p:=p+2) (b:=b+1) hl (λe he=>(h e he).rd k (a+1) (by omega) (by omega)) d1 (by omega);have e4:TW C t0 L ((p+2:Nat):Int) ((b+1:Nat):Int)=TW C t0 L ((p:Int)+1+1) ((b:Int)+1):=gY (by omega) (by omega);rw[e4] at b4;simp only[Sn,SV] at b3;have fin:TW C t0 L ((p+(OZ "row"::ns es.length::(es.map λe=>(f e).2).flatten).length:Nat):Int) ((b+(1+(es.map λe=>(f e).1).sum):Nat):Int)=TW C t0 L ((p+2+(es.map λe=>(f e).2).flatten.length:Nat):Int) ((b+1+(es.map λe=>(f e).1).sum:Nat):Int):=gY (by simp only[P9];omega) (by omega);rw[fin];generalize TW C t0 L ((p+2+(es.map λe=>(f e).2).flatten.length:Nat):Int) ((b+1+(es.map λe=>(f e).1).sum:Nat):Int)=T9 at b4 ⊢;simp[fU,eQ,Ky,b1,qe,b2,b3,b4]
 .exact gI (iz (n:=2*n+6) (by simp) λd hd=>by
   simp at hd
   rcases hd with rfl|rfl
   .exact kK (by decide +kernel) _
   .exact iz hl λe he=>(h e he).bt) (by omega)
end
noncomputable def Hh:List String:=["part","sum","join","same","less"]
noncomputable def nj:List (Str×Int):=[("many",1),("part",2),("sum",2),("join",2),("same",2),("less",2)]
def Wide(w:String)(k:Nat):Prop:=(w="many"/\k=1)\/(w∈Hh/\k=2)
noncomputable def zjx{w:String}{k:Nat}(h:Wide w k):Jq nj (.str (OZ w))=KQ (.bool G3)/\D.atT nj (.str (OZ w))=KQ (.int (k:Int)):=by
 rcases h with⟨rfl,rfl⟩|⟨hw,rfl⟩
 .simp[Jq,D.atT,nj]
 .simp[Hh] at hw
  rcases hw with rfl|rfl|rfl|rfl|rfl <;> simp[Jq,D.atT,nj]
noncomputable def zjy(h:Wide w k):¬w="put"/\¬w="got"/\¬w="row"/\¬w="fail":=by
 rcases h with⟨rfl,_⟩|⟨hw,_⟩
 .simp
 .simp[Hh] at hw<;>grind
noncomputable def zjz(h:Wide w k):litOk w=G3/\single (.str (OZ w))=G3/\k<=2:=by
 have key:∀w∈"many"::Hh,litOk w=G3/\single (.str (OZ w))=G3:=by decide +kernel
 rcases h with⟨rfl,rfl⟩|⟨hw,rfl⟩<;>simp_all
section
variable {C:Addr}{m:Int}{n:Nat}
noncomputable def zf{w:String}{f:OY->Nat×List Str}{es:List OY}(hw:Wide w es.length)(h:∀e∈es,EX C m n (f e).1 (f e).2 e)(hc:1+(es.map λe=>(f e).1).sum<=60) :
  EX C m (n+1) (1+(es.map λe=>(f e).1).sum) (OZ w::(es.map λe=>(f e).2).flatten) (.tuple (.str (OZ w)::es)):=by
 have fl:=tH (f:=f) (es:=es) λe he=>(h e he).ln;obtain⟨n1,n2,n3,n4⟩:=zjy hw;obtain⟨t1,t2⟩:=zjx hw;obtain⟨l1,l2,l3⟩:=zjz hw;unfold nj at t1 t2;refine⟨by omega,by omega,hc,by simp only[P9];omega,by simp,λw hw=>?_,λk T hk=>?_,λk a hk ha t0 L p b post hb hd=>?_,?_⟩
 .rcases Pr.mp hw with rfl|hw
  .exact kE l1
  .exact AH (P:=λw=>N3 (cd w)/\w.length<=1100) (λe he=>(h e he).ok) w hw
 .obtain⟨k,rfl⟩:=aS k (by omega)
  exact nF (k:=k) (T:=T) (fl:=[]) (es:=es) (g:=λe=>(f e).2) (by simp[h7,n1,n2,n3,sl]) (by simp[cA,n1,n2,n3,zjs]) (λe he=>(h e he).pw k T (by omega)) (by simp only[SO];omega)
 .obtain⟨k,rfl⟩:∃j,k=j+2:=⟨k-2,by omega⟩
  obtain⟨a0,d0⟩:=fY (w:=OZ w) (r:=(es.map λe=>(f e).2).flatten++post) hd;have b1:=gM (C:=C) (t0:=t0) (b:=(b:Int)) a0;have b2:=km (C:=C) (t0:=t0) (L:=L) (p:=(p:Int)) (b:=(b:Int)) (a:=a) (by omega) (by omega);have b4:=za (C:=C) (t0:=t0) (L:=L) (k:=k) (m:=m) (a:=a+1) (f:=f) (post:=post) (es:=es) (p:=p+1) (b:=b+1) (by omega) (λe he=>(h e he).rd k (a+1) (by omega) (by omega)) d0 (by omega);have e4:TW C t0 L ((p+1:Nat):Int) ((b+1:Nat):Int)=TW C t0 L ((p:Int)+1) ((b:Int)+1):=gY (by omega) (by omega);rw[e4] at b4;have fin:TW C t0 L ((p+(OZ w::(es.map λe=>(f e).2).flatten).length:Nat):Int) ((b+(1+(es.map λe=>(f e).1).sum):Nat):Int)=TW C t0 L ((p+1+(es.map λe=>(f e).2).flatten.length:Nat):Int) ((b+1+(es.map λe=>(f e).1).sum:Nat):Int):=gY (by simp only[P9];omega) (by omega);rw[fin];have z:1+es.length<=sizeLine:=jC (by omega);have z':es.length+1<=sizeLine:=jC (by omega);generalize TW C t0 L ((p+1+(es.map λe=>(f e).2).flatten.length:Nat):Int) ((b+1+(es.map λe=>(f e).1).sum:Nat):Int)=T9 at b4 ⊢;simp[fU,eQ,Ky,b1,qe,n1,n2,n3,t1,t2,b2,b4,z,z']
 .exact gI (iz (n:=2*n+5) (by simp only[P9];omega) λd hd=>by
   rcases Pr.mp hd with rfl|hd
   .exact kK l2 _
   .exact(h d hd).bt) (by omega)
def EW(C:Addr)(m:Int)(n:Nat)(q:Int)(e:OY):Prop:=∃c ws,EX C m n c ws e/\(c:Int)<=q
noncomputable def uf{q:Int}{es:List OY}(h:∀d∈es,EW C m n q d):∃f:OY->Nat×List Str,∀d∈es,EX C m n (f d).1 (f d).2 d/\((f d).1:Int)<=q:=by
 classical
 refine⟨λd=>if h':d∈es then ((h d h').choose,(h d h').choose_spec.choose) else (0,[]),λd hd=>?_⟩;simp only[dif_pos hd];exact(h d hd).choose_spec.choose_spec
theorem oP{f:OY->Nat×List Str}{q:Int}:∀{l:List OY},(∀d∈l,((f d).1:Int)<=q)->(((l.map λd=>(f d).1).sum:Nat):Int)<=l.length*q
 |[],_=>by simp
 |d::l,h=>by
  have h2:=h d Pf;have i1:=oP  λx hx=>h x (Pc _ hx)
  simp <;>grind
noncomputable def zka(hl:es.length<=8)(h:∀d∈es,EW C m n q d)(hQ:es.length*q+1<=Q)(F4:Q<=60):EW C m (n+1) Q (.tuple [.str "row",.tuple es]):=by
 obtain⟨f,hf⟩:=uf h;have s:=oP    λd hd=>(hf d hd).2;exact⟨_,_,zjw hl (λd hd=>(hf d hd).1) (by lia),by lia⟩
noncomputable def zkb(h:EW C m n q e)(hQ:q+1<=Q)(F4:Q<=60):EW C m (n+1) Q (.tuple [.str "many",e]):=by
 obtain⟨f,hf⟩:=uf  λd hd=>by rw[Py.mp hd];exact h
 have s:=oP    λd hd=>(hf d hd).2;simp only[P9,SO] at s;exact⟨_,_,zf   (.inl ⟨rfl,rfl⟩) (λd hd=>(hf d hd).1) (by lia),by lia⟩
noncomputable def zkc(hw:w∈Hh)(ha:EW C m n q a)(hb:EW C m n q b)(hQ:q+q+1<=Q)(F4:Q<=60):EW C m (n+1) Q (.tuple [.str (OZ w),a,b]):=by
 obtain⟨f,hf⟩:=uf (es:=[a,b]) λd hd=>by
  simp at hd
  rcases hd with rfl|rfl
  .exact ha
  .exact hb
 have s:=oP    λd hd=>(hf d hd).2;simp only[P9,SO] at s;exact⟨_,_,zf   (.inr ⟨hw,rfl⟩) (λd hd=>(hf d hd).1) (by lia),by lia⟩
end
variable {R:Tp}{C:Addr}
theorem v8{mw:YX}{e0:OY}{T:Tp}:∀(ps:List (OY×List Str)) (acc:List Str) (o2:Option D.W),(∀q∈ps,mw [.d q.1] T=KQ (.list (sl q.2),T))->acc.length+(ps.map (·.2)).flatten.length<=100000 ->
  ∃wQ,forL 2 (iW 1 (ar mw (ab (aa 2) ag))) (ps.map (·.1)) [KQ (.d e0),KQ (.loc (.list (sl acc))),o2] T=KQ ((.nx,[KQ (.d e0),KQ (.loc (.list (sl (acc++(ps.map (·.2)).flatten)))),wQ]),T)
 |[],acc,o2,_,_=>⟨o2,by simp[forL]⟩
 |q::ps,acc,o2,h,hl=>by
  simp only[P2,Ss,Qb] at hl ⊢;have h0:=h q Pf;obtain⟨o',ih⟩:=v8  (e0:=e0)  ps (acc++q.2) (KQ (.d q.1)) (λx hx=>h x (Pc _ hx)) (by grind);refine⟨o',?_⟩
  have z:(sl acc).length+(sl q.2).length<=sizeLine:=by rw[iF,iF];exact jC (by lia)
  have k:=yJ (i:=1) (ρ:=[KQ (.d e0),KQ (.loc (.list (sl acc))),KQ (.d q.1)]) (T:=T) z;rw[zp] at k
  have st:iW 1 (ar mw (ab (aa 2) ag)) [KQ (.d e0),KQ (.loc (.list (sl acc))),KQ (.d q.1)] T=KQ ((.nx,[KQ (.d e0),KQ (.loc (.list (sl (acc++q.2)))),KQ (.d q.1)]),T):=by
   rw[z5]<;>simp_all
  rw[forL]<;>simp_all
noncomputable def zkd:cm (a::b::r) (KQ 2) HA=r:=by
 have e:cm (a::b::r) (KQ ((2:Nat))) HA=r:=by
  unfold cm;rw[HT.zso,HT.zsp];simp
 exact e
noncomputable def zke{k:Nat}{T:Tp}{w:String}{e:OY}{we:List Str}{ps:List (OY×List Str)}(hw:¬w="fail")(he:gB 25 [.d e] T=KQ (.list (sl we),T))(hr:∀q∈ps,ic k [.d q.1] T=KQ (.list (sl q.2),T))(hl:we.length+(ps.map (·.2)).flatten.length<=90000) :
  ic (k+1) [.d (.tuple (.str (OZ w)::e::ps.map (·.1)))] T=KQ (.list (sl (OZ w::(we++(ps.map (·.2)).flatten))),T):=by
 obtain⟨o2,lp⟩:=v8  (e0:=.tuple (.str (OZ w)::e::ps.map (·.1))) ps (OZ w::we) HA hr (by grind)
 have z':1+(sl we).length<=sizeLine:=by rw[iF];exact jC (by lia)
 have st:jB 1 (av .list (ab (ae Y8 (aa 0) (fC (.int 0))) ag)) (ar (gB 25) (ab (ae Y8 (aa 0) (fC (.int 1))) ag)) [KQ (.d (.tuple (.str (OZ w)::e::ps.map (·.1)))),HA,HA] T=KQ ((.nx,[KQ (.d (.tuple (.str (OZ w)::e::ps.map (·.1)))),KQ (.loc (.list (sl (OZ w::we)))),HA]),T):=by
  unfold jB;simp[he,pG,z'];rfl
 have e0:ic (k+1)=aJ 3 _:=rfl;rw[e0];simp[hw,st,zkd,lp]
def RdR(C:Addr)(k:Nat)(g:Nat)(a:Int)(c:Nat)(ws:List Str)(r:OY):Prop:=∀(t0:List OY) (L:List Str) (p b:Nat) (post:List Str),b+c<=60->L.drop p=ws++post->e8 C k [.tp 0,.d (.int a),.d (.int (g:Int))] (TW C t0 L (p:Int) (b:Int))=KQ (r,TW C t0 L ((p+ws.length:Nat):Int) ((b+c:Nat):Int))
section
variable {C:Addr}{t0:List OY}{L:List Str}
theorem vk{k g:Nat}{a:Int}{o3 o4 o5:Option D.W}{post:List Str}:∀(qs:List (OY×Nat×List Str)) (ds:List OY) (p b:Nat),ds.length=qs.length->(∀q∈qs,RdR C k g (a+1) q.2.1 q.2.2 q.1)->L.drop p=(qs.map (·.2.2)).flatten++post->b+(qs.map (·.2.1)).sum<=60 ->
  bH bU (ar (e8 C k) (ab (aa 1) (ab (ae aI (aa 2) (fC (.int 1))) (ab (aa 6) ag)))) [KQ (.tp 0),KQ (.d (.int a)),o3,o4,o5,KQ (.d (.int (g:Int)))] ds (TW C t0 L (p:Int) (b:Int))=KQ (qs.map (·.1),TW C t0 L ((p+(qs.map (·.2.2)).flatten.length:Nat):Int) ((b+(qs.map (·.2.1)).sum:Nat):Int))
 |[],[],p,b,_,_,_,_=>rfl
 |[],_::_,_,_,h,_,_,_=>by simp_all
 |_::_,[],_,_,h,_,_,_=>by simp_all
 |q::qs,d::ds,p,b,hl,hr,hd,hb=>by
  have h0:=hr q Pf;simp only[P2,Ss,R3,Q8] at hd hb ⊢;have r0:=h0 t0 L p b _ (by lia) hd
  have EF:L.drop (p+q.2.2.length)=(qs.map (·.2.2)).flatten++post:=by
   rw[←VU,hd,VW]
  have ih:=vk (k:=k) (g:=g) (a:=a) (o3:=o3) (o4:=o4) (o5:=o5) (post:=post) qs ds (p+q.2.2.length) (b+q.2.1) (by simpa using hl) (λx hx=>hr x (Pc _ hx)) EF (by lia)
  have e1:p+(q.2.2++(qs.map (·.2.2)).flatten).length=p+q.2.2.length+(qs.map (·.2.2)).flatten.length:=by grind
  have e2:b+(q.2.1+(qs.map (·.2.1)).sum)=b+q.2.1+(qs.map (·.2.1)).sum:=by lia
  rw[e1,e2]
  simp_all
  simp[bH,r0,ih]
end
noncomputable def ni:inD (.str (OZ x)) (.tuple [.str "want",.str "peek"])=KQ (.bool (decide (x="want")||decide (x="peek"))):=by
 have e:inD (.str (OZ x)) (.tuple [.str "want",.str "peek"])=KQ (.bool (HZ _ _||(HZ _ _||false))):=rfl
 have f:∀a b ,HZ (.str (OZ a)) (.str (OZ b))=decide _:=λa b=>by
  rw[Rb];simp[HZ];exact⟨λh=>h.symm,λh=>h.symm⟩
 rw[e,f,f,X5]
structure RX(C:Addr)(g n c:Nat)(ws:List Str)(r:OY):Prop where
 n1:1<=n
 c1:1<=c
 c6:c<=60
 ln:ws.length<=2*c
 ne:ws≠[]
 ok:∀w∈ws,N3 (cd w)/\w.length<=1100
 pw:∀k T,n<k->ic k [.d r] T=KQ (.list (sl ws),T)
 rd:∀k a,n<=k->a+(n:Int)<=20->RdR C k g a c ws r
 bt:az (2*n+6) r=G3
section
variable {C:Addr}{g n:Nat}
noncomputable def zkf(h:isName (.str x)=G3):N3 (cd x)/\x.length<=1100:=by
 have h':(decide _&&decide _&&has Z1 x)=G3:=h;rw[Pg,Pg] at h';have l8:=of_decide_eq_true h'.1.2
 have no:∀c∈cd Z1,c<128/\c≠32:=by decide +kernel
 exact⟨λc z=>no c (of_decide_eq_true (Po.mp h'.2 c z)),by lia⟩
noncomputable def hZ:List (Str×Int):=[("say",0),("fail",0),("want",1),("peek",1),("when",2)]
noncomputable def zkg(hn:1<=n)(hg:g<=12)(h:isName (.str x)=G3):RX C g n 1 [OZ "fail",x] (.tuple [.str "fail",.str x]):=by
 refine⟨hn,by decide,by decide,by simp,by simp,λw hw=>?_,λk T hk=>?_,λk a hk ha t0 L p b post hb hd=>?_,?_⟩
 .simp at hw
  rcases hw with rfl|rfl
  .exact kE (by decide +kernel)
  .exact zkf h
 .obtain⟨k,rfl⟩:=aS k (by omega)
  simp[ic,sl]
 .obtain⟨k,rfl⟩:=aS k (by omega)
  obtain⟨a0,d0⟩:=fY (w:=OZ "fail") (r:=x::post) hd;obtain⟨a1,_⟩:=fY d0;have b1:=gM (C:=C) (t0:=t0) (b:=(b:Int)) a0;have b2:=km (C:=C) (t0:=t0) (L:=L) (p:=(p:Int)) (b:=(b:Int)) (a:=a) (by omega) (by omega);have b3:=zjm (C:=C) (t0:=t0) (b:=(b:Int)+1) a1 h;simp only[Sn,SV] at b3;have fin:TW C t0 L ((p + [OZ "fail",x].length:Nat):Int) ((b+1:Nat):Int)=TW C t0 L ((p:Int)+1+1) ((b:Int)+1):=gY (by show ((p+2:Nat):Int)=_;omega) (by omega);rw[fin];simp[e8,eQ,Ky,b1,Jq,ni,b2,b3]
 .exact gI (iz (n:=0) (by simp) λd hd=>by
   simp at hd
   rcases hd with rfl|rfl
   .exact kK (by decide +kernel) 0
   .exact(fQ (qr h)).1) (by omega)
noncomputable def oK{w:String}{e:OY}{ce:Nat}{we:List Str}{qs:List (OY×Nat×List Str)}{g':Nat}(hw:¬w="put"/\¬w="got"/\¬w="row"/\¬w="fail")(FP:litOk w=G3/\single (.str (OZ w))=G3)(hq:qs.length<=2)
  (CI:Jq hZ (.str (OZ w))=KQ (.bool G3)) (Dt:D.atT hZ (.str (OZ w))=KQ (.int (qs.length:Int))) (Dp:(w="want"\/w="peek")->g<12) (Da:g'=if w="want"\/w="peek" then g+1 else g) (hn20:n<=12)
  (he:EX C (g:Int) n ce we e) (hr:∀q∈qs,RX C g' n q.2.1 q.2.2 q.1) (hc:1+ce+(qs.map (·.2.1)).sum<=60) :
  RX C g (n+1) (1+ce+(qs.map (·.2.1)).sum) (OZ w::(we++(qs.map (·.2.2)).flatten)) (.tuple (.str (OZ w)::e::qs.map (·.1))):=by
 obtain⟨n1,n2,n3,n4⟩:=hw
 have fl:(qs.map (·.2.2)).flatten.length<=2*(qs.map (·.2.1)).sum:=by
  clear Dt hq hc
  induction qs with
  |nil=>simp
  |cons q qs ih=>
   have h0:=(hr q Pf).ln;have:=ih λx hx=>hr x (Pc _ hx);simp only[P2,Ss,R3,Qb];omega
 have hel:=he.ln;refine⟨by omega,by omega,hc,by simp only[P9,Qb];omega,by simp,λu hu=>?_,λk T hk=>?_,λk a hk ha t0 L p b post hb hd=>?_,?_⟩
 .rcases Pr.mp hu with rfl|hu
  .exact kE FP.1
  .rcases Pt.mp hu with hu|hu
   .exact he.ok u hu
   .obtain⟨l,hl,z8⟩:=List.mem_flatten.mp hu
    obtain⟨q,ZP,rfl⟩:=PD.mp hl;exact(hr q ZP).ok u z8
 .obtain⟨k,rfl⟩:=aS k (by omega)
  have:=zke (k:=k) (T:=T) (w:=w) (e:=e) (we:=we) (ps:=qs.map λq=>(q.1,q.2.2)) n4 (he.pw 25 T (by omega)) (λq ZP=>by
   obtain⟨q',h1,rfl⟩:=PD.mp ZP
   exact(hr q' h1).pw k T (by omega)) (by simp only[S9];show we.length+(qs.map (·.2.2)).flatten.length<=90000;omega)
  simp only[S9] at this;exact this
 .obtain⟨k,rfl⟩:=aS k (by omega)
  have wH:L.drop p=OZ w::(we++((qs.map (·.2.2)).flatten++post)):=by rw[hd];simp
  obtain⟨a0,d0⟩:=fY wH;have b1:=gM (C:=C) (t0:=t0) (b:=(b:Int)) a0;have b2:=km (C:=C) (t0:=t0) (L:=L) (p:=(p:Int)) (b:=(b:Int)) (a:=a) (by omega) (by omega);have b3:=he.rd 25 (a+1) (by omega) (by omega) t0 L (p+1) (b+1) _ (by omega) d0;have e3:TW C t0 L ((p+1:Nat):Int) ((b+1:Nat):Int)=TW C t0 L ((p:Int)+1) ((b:Int)+1):=gY (by omega) (by omega);rw[e3] at b3
  have d1:L.drop (p+1+we.length)=(qs.map (·.2.2)).flatten++post:=by rw[←VU,d0,VW]
  have b4:=vk (C:=C) (t0:=t0) (L:=L) (k:=k) (g:=g') (a:=a) (o3:=KQ (.d (.int (g:Int)))) (o4:=KQ (.d (.str (OZ w)))) (o5:=KQ (.d e)) (post:=post) qs (dF 0 qs.length) (p+1+we.length) (b+1+ce) (xr _) (λq ZP=>(hr q ZP).rd k (a+1) (by omega) (by omega)) d1 (by omega);have r:=qK (j:=(qs.length:Int)) (by omega) (by omega);have fin:TW C t0 L ((p+(OZ w::(we++(qs.map (·.2.2)).flatten)).length:Nat):Int) ((b+(1+ce+(qs.map (·.2.1)).sum):Nat):Int)=TW C t0 L ((p+1+we.length+(qs.map (·.2.2)).flatten.length:Nat):Int) ((b+1+ce+(qs.map (·.2.1)).sum:Nat):Int):=gY (by simp only[P9,Qb];omega) (by omega);rw[fin];have z:2+(qs.map (·.1)).length<=sizeLine:=jC (by rw[PY];omega);rw[PY] at z;unfold hZ at CI Dt
  have gb:∀T,lB [.d (.str (OZ w)),.d (.int (g:Int))] T=KQ (.int (g':Int),T):=λT=>by
   by_cases hq:w="want"\/w="peek"
   .rw[if_pos hq] at Da
    have e2:((g':Nat):Int)=(g:Int)+1:=by omega
    rw[e2]
    rcases hq with rfl|rfl <;> simp[lB,ni]
   .rw[if_neg hq] at Da
    rw[Da];obtain⟨q1,q2⟩:=not_or.mp hq;simp[lB,ni,q1,q2]
  have ft:∀T:Tp,(if (decide (w="want")||decide (w="peek"))=G3 then decide ((g:Int)=12) else Gy)=Gy:=λ_=>by
   split
   .rename_i hq
    have:w="want"\/w="peek":=by simpa using hq
    have:=Dp this;exact decide_eq_false (by omega)
   .rfl
  generalize TW C t0 L ((p+1+we.length+(qs.map (·.2.2)).flatten.length:Nat):Int) ((b+1+ce+(qs.map (·.2.1)).sum:Nat):Int)=T9 at b4 ⊢;generalize TW C t0 L ((p+1+we.length:Nat):Int) ((b+1+ce:Nat):Int)=T8 at b3 b4
  by_cases hq:w="want"\/w="peek"
  .have g12:¬(g:Int)=12:=by have:=Dp hq;omega
   generalize (g:Int)=G at *
   rcases hq with rfl|rfl <;> simp[e8,eQ,Ky,b1,CI,ni,g12,b2,b3,gb,Dt,r,b4,z]
  .obtain⟨q1,q2⟩:=not_or.mp hq
   generalize (g:Int)=G at *;simp[e8,eQ,Ky,b1,CI,ni,q1,q2,n4,b2,b3,gb,Dt,r,b4,z]
 .exact gI (iz (n:=2*n+6) (by simp only[P9,PY];omega) λd hd=>by
   rcases Pr.mp hd with rfl|hd
   .exact kK FP.2 _
   .rcases Pr.mp hd with rfl|hd
    .exact gI he.bt (by omega)
    .obtain⟨q,ZP,rfl⟩:=PD.mp hd
     exact(hr q ZP).bt) (by omega)
end
variable {R:Tp}{C:Addr}
def RW(C:Addr)(g n:Nat)(q:Int)(r:OY):Prop:=∃c ws,RX C g n c ws r/\(c:Int)<=q
noncomputable def zkh{g n:Nat}{q Q:Int}{e:OY}(hn:n<=12)(h:EW C (g:Int) n q e)(hQ:q+1<=Q)(F4:Q<=60):RW C g (n+1) Q (.tuple [.str "say",e]):=by
 obtain⟨c,ws,h1,h2⟩:=h;exact⟨_,_,oK  (qs:=[]) (g':=g) (by simp) (by decide +kernel) (by simp) (rfl) (rfl) (by simp) (by simp) hn h1 (λq hq=>by simp_all) (by grind),by simp;lia⟩
noncomputable def zki{g n c:Nat}{ws:List Str}{q Q:Int}{w:String}{e r:OY}(hn:n<=12)(hw:w="want"\/w="peek")(hg:g<12)(h:EX C (g:Int) n c ws e)(hr:RW C (g+1) n q r)(hQ:1+(c:Int)+q<=Q)(F4:Q<=60):RW C g (n+1) Q (.tuple [.str (OZ w),e,r]):=by
 obtain⟨d,us,h1,h2⟩:=hr
 have a1:¬w="put"/\¬w="got"/\¬w="row"/\¬w="fail":=by rcases hw with rfl|rfl <;> simp
 have a2:litOk w=G3/\single (.str (OZ w))=G3:=by rcases hw with rfl|rfl <;> decide +kernel
 have a3:Jq hZ (.str (OZ w))=KQ (.bool G3):=by rcases hw with rfl|rfl <;> simp[Jq,hZ]
 have a4:D.atT hZ (.str (OZ w))=KQ (.int (([(r,d,us)]).length)):=by rcases hw with rfl|rfl <;> simp[D.atT,hZ]
 exact⟨_,_,oK    a1 a2 (by simp) a3 a4 (λ_=>hg) (rfl) hn h (λq hq=>by simp_all) (by simp;lia),by simp;lia⟩
noncomputable def zkj{g n c:Nat}{ws:List Str}{q Q:Int}{e r s:OY}(hn:n<=12)(h:EX C (g:Int) n c ws e)(hr:RW C g n q r)(hs:RW C g n q s)(hQ:1+(c:Int)+q+q<=Q)(F4:Q<=60):RW C g (n+1) Q (.tuple [.str "when",e,r,s]):=by
 obtain⟨d,us,h1,h2⟩:=hr;obtain⟨f,vs,h3,h4⟩:=hs
 exact⟨_,_,oK  (qs:=[(r,d,us),(s,f,vs)]) (g':=g) (by simp) (by decide +kernel) (by simp) (rfl) (rfl) (by simp) (by simp) hn h (λq hq=>by
  simp at hq
  rcases hq with rfl|rfl<;>lia) (by grind),by simp;lia⟩
theorem yW:∀ls:List (List Nat),(bg [32] ls).length<=(ls.map (·.length)).sum+ls.length
 |[]=>by simp[bg]
 |[x]=>by simp[bg]
 |x::y::r=>by
  have ih:=yW (y::r)
  have e:bg [32] (x::y::r)=x++[32]++bg [32] _:=rfl<;>grind
theorem zR{B:Nat}:∀{ws:List Str},(∀w∈ws,w.length<=B)->(ws.map (·.length)).sum<=B*ws.length
 |[],_=>by simp
 |w::ws,h=>by
  have:=zR  λx hx=>h x (Pc _ hx);have h0:=h w Pf;simp only[P2,R3,P9,Nat.mul_add]
  lia
theorem zkk:cd BL=[32] :=rfl
noncomputable def zkl(ws:List Str):(PF BL ws).length<=(ws.map (·.length)).sum+ws.length:=by
 have e:(PF BL ws).length=(bg [32] (ws.map cd)).length:=by rw[←cS,kc,zkk]
 have:=yW (ws.map cd);rw[e]
 have e2:((ws.map cd).map (·.length))=ws.map (·.length):=by
  rw[S9];exact Ra λx _=>cS x
 rw[e2,PY] at this<;>omega
section
variable {C:Addr}{g n c:Nat}{ws:List Str}{r:OY}
def RX.len(h:RX C g n c ws r):(ws.map (·.length)).sum+ws.length<=200000:=by
 have a:=zR  λw hw=>(h.ok w hw).2;have b:=h.ln
 have d:=h.c6<;>lia
noncomputable def zkm(hl:(ws.map (·.length)).sum+ws.length<=200000):fD (.str " ") (.list (sl ws))=KQ (.str (PF BL ws)):=by
 have e:fD (.str _) (.list (sl ws))=(match eB _ with|some ys=>if (ys.map _).sum+ys.length*(OZ " ").length<=16777216 then KQ _ else HA|none=>HA):=rfl;have b:(OZ " ").length=1:=rfl;rw[e,r8,b];dsimp only;rw[Nat.mul_one];exact if_pos (by lia)
noncomputable def zkn(h:RX C g n c ws r)(hn:n<=20)(T:Tp):nu [.d r] T=KQ (.str (PF BL ws),T):=by
 have a:=h.pw 25 T (by lia);have b:pJ (.str _) (.list _)=KQ _:=zkm h.len;simp[nu,a,b]
noncomputable def zko(h:RX C g n c ws r):i4 C [.tp 0,.d (.str (PF BL ws))] [[cT C]]=KQ (.none,TW C t0 ws 0 0):=by
 have sp:ms (.str (PF BL ws)) (.str " ")=KQ (.list (sl ws)):=by
  have jl:=zkl ws;have hl:=h.len;have z:(PF BL ws).length+2<=sizeLine:=PB (show _<=300000 by lia) (by decide);have b:((OZ " ").length == 0)=Gy:=rfl
  have e:ms (.str (PF BL ws)) (.str " ")=if _=Gy/\(PF BL ws).length+2<=Ph then KQ _ else HA:=rfl
  rw[e,if_pos ⟨b,z⟩];have s:=zjf h.ne λw hw=>(h.ok w hw).1.no;show KQ (Xa ((Sa (PF BL ws) BL).map .str))=_;rw[s];rfl
 have s1:∀{ρ:YR},eL C "parted" ρ (.d (.list (sl ws))) (.tp 0) [[cT C]]=KQ ((.nx,ρ),[[cT C,.tuple [.str "parted",.list (sl ws)]]]):=by
  intro ρ;simp[eL,fA,iQ,cT,gy]
 have s2:∀{ρ:YR},eL C "place" ρ (.d (.int 0)) (.tp 0) [[cT C,.tuple [.str "parted",.list (sl ws)]]]=KQ ((.nx,ρ),[[cT C,.tuple [.str "parted",.list (sl ws)],.tuple [.str "place",.int 0]]]):=by
  intro ρ;simp[eL,fA,iQ,cT,gy]
 have s3:∀{ρ:YR},eL C "begun" ρ (.d (.int 0)) (.tp 0) [[cT C,.tuple [.str "parted",.list (sl ws)],.tuple [.str "place",.int 0]]]=KQ ((.nx,ρ),TW C t0 ws 0 0):=by
  intro ρ;simp[eL,fA,iQ,cT,gy,kZ]
 simp[i4,rM,sp,s1,s2,s3]
noncomputable def mL{t0:List OY}(h:RX C 0 n c ws r)(hn:n<=20):ny C [.d (.str (PF BL ws))] []=KQ (r,[]):=by
 have i:=zko (t0:=t0) h;have rd:=h.rd 25 0 (by lia) (by lia) t0 ws 0 0 [] (by have:=h.c6;lia) (by simp);have e1:TW C t0 ws ((0:Nat):Int) ((0:Nat):Int)=TW C t0 ws 0 0:=rfl;rw[e1,Ys,Ys] at rd;have JE:e8 C 25 [.tp 0,.d (.int 0),.d (.int 0)] (TW C t0 ws 0 0)=KQ (r,TW C t0 ws (ws.length:Int) (c:Int)):=rd;have f:=zjk (C:=C) (t0:=t0) (b:=(c:Int)) (L:=ws) (Pk ws.length);have lt:jz (TW C t0 ws (ws.length:Int) (c:Int))=KQ ([],kZ C ws (ws.length:Int) (c:Int)):=rfl
 have go:(ah (ax 2 (ar (e8 C 25) (ab (aa 1) (ab (fC (.int 0)) (ab (fC (.int 0)) ag))))) (ah (fF (dv C "finish" (jP C) (aa 1) ag)) (aj (aa 2)))) [KQ (.d (.str (PF BL ws))),KQ (.tp 0),HA] (TW C t0 ws 0 0)=KQ ((.rt r,[KQ (.d (.str (PF BL ws))),KQ (.tp 0),KQ (.d r)]),TW C t0 ws (ws.length:Int) (c:Int)):=by
  simp[JE,eQ,Ky,f]
 have mk1:kR 1 C (i4 C) (aa 0) (ah (ax 2 (ar (e8 C 25) (ab (aa 1) (ab (fC (.int 0)) (ab (fC (.int 0)) ag))))) (ah (fF (dv C "finish" (jP C) (aa 1) ag)) (aj (aa 2)))) [KQ (.d (.str (PF BL ws))),HA,HA] []=KQ ((.rt r,[KQ (.d (.str (PF BL ws))),KQ (.tp 0),KQ (.d r)]),[]):=by
  unfold kR;show C5 1 C (i4 C) _ _ (.d (.str (PF BL ws))) []=_;unfold C5;dsimp only;show (match i4 C [.tp 0,.d (.str (PF BL ws))] [[cT C]] with|some (.none,T2)=>mR _|_=>HA)=_;rw[i];show mR ((ah _ _) [KQ (.d (.str (PF BL ws))),KQ (.tp 0),HA] (TW C t0 ws 0 0))=_;rw[go];unfold mR;dsimp only;rw[lt]
 have e0:ny C=aJ 3 _:=rfl;rw[e0];simp[mk1]
end
theorem zkp:pM (.int i) (.int j)=if 0<j/\j<18446744073709551616 then KQ (.int (i / j)) else HA:=rfl
noncomputable def fm(h:b (ρ.set i (KQ (.d d))) T=KQ ((.nx,ρ'),T')):forL i b (d::r) ρ T=forL i b r ρ' T':=by simp[forL,h]
theorem zkq:kJ N s ws T=if eC ws=G3 then pf (s (ws.map KQ++Pp (N-ws.length) HA) T) else HA:=rfl
theorem yK:gw s (.ro x,ρ) T=KQ ((.ro x,ρ),T):=rfl
def j5:1000<sizeLine:=by decide
noncomputable def il(cs:List Int):List PyData:=cs.map .int
noncomputable def f9(cs:List Int):(il cs).length=cs.length:=by simp[il]
noncomputable def zY(a:List Int)(c:Int):il a++[.int c]=il (a++[c]):=by simp[il]
def E9(zs cs:List Int):Prop:=cs.length=zs.length/\∀(i:Nat) (c z:Int),cs[i]? = KQ c->zs[i]? = KQ z->0<=c/\c<z
def E9.snoc(h:E9 zs cs)(h0:0<=c)(h1:c<z):E9 (zs++[z]) (cs++[c]):=by
 refine⟨by simp[h.1],λi a b ha hb=>?_⟩
 by_cases hi:i<cs.length
 .rw[Pn hi] at ha
  rw[Pn (by rw[←h.1];exact hi)] at hb;exact h.2 i a b ha hb
 .rw[Qc (by lia)] at ha
  rw[Qc (by have:=h.1;lia)] at hb;rw[h.1] at ha
  cases e:i-zs.length <;>simp_all
def E9.nil:E9 [] []:=⟨rfl,λi c z h=>by simp at h⟩
def E9.at(h:E9 zs cs)(i:Nat)(hz:zs[i]? = KQ z):∃c,cs[i]? = KQ c/\0<=c/\c<z:=by
 have hi:=(Pa.mp hz).1;have hc:cs[i]? = KQ (cs[i]'(by rw[h.1];exact hi)):=Qg _;exact⟨_,hc,h.2 i _ z hc hz⟩
noncomputable def CK(sc K Z:OY)(ce:Int)(fs:List Int)(o5 o6:Option D.W):YR:=[KQ (.d sc),KQ (.d K),KQ (.d Z),KQ (.d (.int ce)),KQ (.loc (.list (il fs))),o5,o6]
section
variable {sc Z:OY}{T:Tp}{k:Int}
theorem Bm:∀(zs D5 cs:List Int) (ce:Int) (o5 o6:Option D.W),(∀z∈zs,0<z/\z<18446744073709551616)->E9 D5 cs->D5.length+zs.length<=1000 ->
  ∃B8 LB p5,forL 5 lK (il zs) (CK sc (.int k) Z ce cs o5 o6) T=KQ ((.nx,CK sc (.int k) Z LB B8 p5 o6),T)/\E9 (D5++zs) B8
 |[],D5,cs,ce,o5,o6,_,h,_=>⟨cs,ce,o5,rfl,by simp_all⟩
 |z::zs,D5,cs,ce,o5,o6,hz,h,hl=>by
  have Er:D5.length+(zs.length+1)<=1000:=hl;have bl:=j5;obtain⟨z0,z1⟩:=hz z Pf
  have B7:(il cs).length<sizeLine:=by rw[f9,h.1];lia
  obtain⟨B8,LB,p5,e,d⟩:=Bm zs _ _ _ _ o6 (λy hy=>hz y (Pc _ hy)) (h.snoc (Qu _ (by lia)) (Qe _ z0)) (by simp;lia);refine⟨B8,LB,p5,?_,by simp_all⟩
  have st:lK ((CK sc (.int k) Z ce cs o5 o6).set 5 (KQ (.d (.int z)))) T=KQ ((.nx,CK sc (.int k) Z (ce / z) (cs++[ce % z]) (KQ (.d (.int z))) o6),T):=by
   simp[lK,CK,zkp,z0,z1,B7,zY]
  rw[←e];exact fm st
theorem Bl(hk : -18446744073709551616<k/\k<18446744073709551616):∀(zs D5 cs:List Int) (ce:Int) (o5 o6:Option D.W),(∀z∈zs,0<z/\z<18446744073709551616)->E9 D5 cs->D5.length+zs.length<=1000 ->
  ∃B8 p5 p6,forL 5 lJ (il zs) (CK sc (.int k) Z ce cs o5 o6) T=KQ ((.nx,CK sc (.int k) Z ce B8 p5 p6),T)/\E9 (D5++zs) B8
 |[],D5,cs,ce,o5,o6,_,h,_=>⟨cs,o5,o6,rfl,by simp_all⟩
 |z::zs,D5,cs,ce,o5,o6,hz,h,hl=>by
  have Er:D5.length+(zs.length+1)<=1000:=hl;have bl:=j5;obtain⟨z0,z1⟩:=hz z Pf
  have B7:(il cs).length<sizeLine:=by rw[f9,h.1];lia
  have st:∃c p6,lJ ((CK sc (.int k) Z ce cs o5 o6).set 5 (KQ (.d (.int z)))) T=KQ ((.nx,CK sc (.int k) Z ce (cs++[c]) (KQ (.d (.int z))) p6),T)/\0<=c/\c<z:=by
   have m1:0<=(ce+7919*k+104729*(cs.length:Int)) % 2147483629/\(ce+7919*k+104729*(cs.length:Int)) % 2147483629<2147483629:=⟨Qu _ (by decide),Qe _ (by decide)⟩;generalize e1:(ce+7919*k+104729*(cs.length:Int)) % 2147483629=a at m1;have m2:0<=(a*a+48271*a+k) % 2147483629/\(a*a+48271*a+k) % 2147483629<2147483629:=⟨Qu _ (by decide),Qe _ (by decide)⟩;generalize e2:(a*a+48271*a+k) % 2147483629=b at m2;generalize e3:(b*b+69621*b+(cs.length:Int)) % 2147483587=c;refine⟨c % z,KQ (.d (.int c)),?_,Qu _ (by lia),Qe _ z0⟩
   have a1 : -18446744073709551616<a:=by lia
   have a2:a<18446744073709551616:=by lia
   have b1 : -18446744073709551616<b:=by lia
   have b2:b<18446744073709551616:=by lia
   have EU:cs.length<sizeLine:=by rw[h.1];lia
   simp[lJ,CK,f9,e1,e2,e3,a1,a2,b1,b2,z0,EU,zY,hk]
  obtain⟨c,p6,st,c0,c1⟩:=st;obtain⟨B8,p5,q6,e,d⟩:=Bl hk zs (D5++[z]) (cs++[c]) ce (KQ (.d (.int z))) p6 (λy hy=>hz y (Pc _ hy)) (h.snoc c0 c1) (by simp;lia);refine⟨B8,p5,q6,?_,by simpa using d⟩;rw[←e];exact fm st
end
noncomputable def oO{ns zs:List Int}{k:Nat}{T:Tp}(hk:k<=1000)(hz:∀z∈zs,0<z/\z<18446744073709551616)(hl:zs.length<=1000):∃cs,gD [.d (bR ns),.d (.int (k:Int)),.d (.list (il zs))] T=KQ (.list (il cs),T)/\E9 zs cs:=by
 have Fu : -18446744073709551616<(k:Int)/\(k:Int)<18446744073709551616:=by lia
 have key:∀ce:Int,∃cs ρ',((ah (cO 4 ag) (ah (YT (aq (ae CH (aa 3) (ae g7 (fC (.int 10)) (fC (.int 18))))) (ah (cG 5 (bE (aa 2)) lK) (gc 4)) aw) (ah (cG 5 (bE (aa 2)) lJ) (gc 4)))) [KQ (.d (bR ns)),KQ (.d (.int (k:Int))),KQ (.d (.list (il zs))),KQ (.d (.int ce)),HA,HA,HA] T)=KQ ((.ro (.list (il cs)),ρ'),T)/\E9 zs cs:=λce=>by
  by_cases hc:1000000000000000000<=ce
  .obtain⟨B8,LB,p5,e,d⟩:=Bm (sc:=bR ns) (Z:=.list (il zs)) (T:=T) (k:=(k:Int)) zs [] [] ce HA HA hz E9.nil (by simp_all)
   refine⟨B8,CK (bR ns) (.int (k:Int)) (.list (il zs)) LB B8 p5 HA,?_,by simp_all⟩;have n0:il []=[]:=rfl;simp only[CK,n0] at e;simp[hc,e,gc,CK,oQ,yK]
  .obtain⟨B8,p5,p6,e,d⟩:=Bl (sc:=bR ns) (Z:=.list (il zs)) (T:=T) Fu zs [] [] ce HA HA hz E9.nil (by simpa using hl)
   refine⟨B8,CK (bR ns) (.int (k:Int)) (.list (il zs)) ce B8 p5 p6,?_,by simpa using d⟩;have n0:il []=[]:=rfl;simp only[CK,n0] at e;simp[hc,e,gc,CK,oQ,yK]
 rw[zif,zkq]
 by_cases h0:0<(ns.length:Int)
 .obtain⟨d,e1,hm⟩:=gT (xs:=ns.map Vc) (i:=(k:Int) % (ns.length:Int)) (Qu _ (by lia)) (by simpa using Qe _ h0)
  obtain⟨c,_,rfl⟩:=PD.mp hm;obtain⟨cs,ρ',e,d⟩:=key c;refine⟨cs,?_,d⟩;simp only[bR] at e ⊢
  have zl:0<ns.length:=by lia
  simp[zl,e1] at e ⊢;simp[e,pf]
 .obtain⟨cs,ρ',e,d⟩:=key 0
  refine⟨cs,?_,d⟩
  have zl:¬0<ns.length:=by lia
  simp only[bR] at e ⊢;simp[zl] at e ⊢;simp[e,pf]
end G
namespace K1
open L2 D
theorem sY:∀(n:Nat) (d:OY),az n d=G3->Sh d n (201*(aD n d).toNat)/\1<=aD n d
 |0,d,h=>by
  cases d with
  |int i=>
   have h':=of_decide_eq_true (p:=(if i<0 then -i else i)<=10^18) h;refine⟨(Sh.int ?_).mono (Pk _) (by show 200<=201*(1:Int).toNat;decide),Sd 1⟩
   have:i.natAbs<=10^18:=by split at h' <;> lia
   exact Qs this (by decide)
  |str x=>
   have h':(decide (x.length<=20)&&has ZZ x)=G3:=h;rw[Pg] at h';have:=of_decide_eq_true h'.1;exact⟨(Sh.str (n:=20) (mF mK h'.2) this).mono (Pk _) (by show 20<=201*(1:Int).toNat;decide),Sd 1⟩
  |_=>cases h
 |n+1,d,h=>by
  cases d with
  |int i=>
   have h':=of_decide_eq_true (p:=(if i<0 then -i else i)<=10^18) h;refine⟨(Sh.int ?_).mono (Ql _) (by show 200<=201*(1:Int).toNat;decide),Sd 1⟩
   have:i.natAbs<=10^18:=by split at h' <;> lia
   exact Qs this (by decide)
  |str x=>
   have h':(decide (x.length<=20)&&has ZZ x)=G3:=h;rw[Pg] at h';have:=of_decide_eq_true h'.1;exact⟨(Sh.str (n:=20) (mF mK h'.2) this).mono (Ql _) (by show 20<=201*(1:Int).toNat;decide),Sd 1⟩
  |tuple ds=>
   have h':(decide (ds.length<=8)&&ds.all (az n))=G3:=h;rw[Pg] at h';have ha:=Po.mp h'.2;have q:=BM.of (ds:=ds) (k:=n) (f:=λx=>201*(aD n x).toNat) λx hx=>(sY n x (ha x hx)).1
   have key:∀l:List OY,(∀x∈l,1<=aD n x)->0<=(l.map (aD n)).sum/\(l.map λx=>201*(aD n x).toNat+1).sum<=201*((l.map (aD n)).sum).toNat+l.length:=by
    intro l
    induction l with
    |nil=>intro _;exact⟨by simp,by simp⟩
    |cons x r ih=>
     intro hx;have h1:=hx x Pf;have h2:=ih λy hy=>hx y (Pc _ hy);simp only[P2,R3,P9]
     lia
   have kk:=key ds λx hx=>(sY n x (ha x hx)).2;have hl:=of_decide_eq_true h'.1;have e:aD (n+1) (.tuple ds)=1+(ds.map (aD n)).sum:=rfl;refine⟨(Sh.tuple q).mono (Pk _) ?_,?_⟩
   .rw[e];lia
   .rw[e];lia
  |_=>cases h
end K1
namespace G
open L2 D
open K1 (has Z1 ZZ single az aD isName au IQ)
noncomputable def uS(h:single (.str x)=G3):has ZZ x=G3:=by
 have h':(decide _&&has ZZ x)=G3:=h
 simp_all
open K1 (has Z1 ZZ single az aD isName au IQ Sh BM)
def GP(a b:OY):Bool:=@decide (a=b) (UW _)
def zkr:GP a b=G3↔a=b:=by unfold GP<;>simp_all
noncomputable def gt(ds:List OY)(i:Int):PyData:=(ds[i.toNat]?).getD .none
noncomputable def both(ds es:List OY):OY->Bool
 |.int i=>GP (gt ds i) (gt es i)
 |_=>G3
theorem ve{P:OY->Prop}(h:∀a b,P a->P b->(PH a b=G3↔a=b)):∀(ds es:List OY),(∀d∈ds,P d)->(∀d∈es,P d)->(Qd ds es=G3↔ds=es)
 |[],[],_,_=>by simp[Qd]
 |[],e::es,_,_=>by simp[Qd]
 |d::ds,[],_,_=>by simp[Qd]
 |d::ds,e::es,hd,he=>by
  have ih:=ve h ds es (λx hx=>hd x (Pc _ hx)) (λx hx=>he x (Pc _ hx));have i0:=h d e (hd d Pf) (he e Pf);simp only[Qd];rw[Pg,i0,ih];simp
theorem yM:∀(n:Nat) (a b:OY),az n a=G3->az n b=G3->(PH a b=G3↔a=b)
 |n,a,b,ha,hb=>by
  rcases cQ ha with h1|⟨m,ds,rfl,rfl,h8,hd⟩
  .rcases dN h1 with⟨i,rfl⟩|⟨x,rfl⟩
   .rcases cQ hb with h2|⟨m,es,rfl,rfl,g8,he⟩
    .rcases dN h2 with⟨j,rfl⟩|⟨y,rfl⟩
     .simp[PH]
     .simp[PH]
    .simp[PH]
   .rcases cQ hb with h2|⟨m,es,rfl,rfl,g8,he⟩
    .rcases dN h2 with⟨j,rfl⟩|⟨y,rfl⟩
     .simp[PH]
     .simp[PH]
    .simp[PH]
  .rcases cQ hb with h2|⟨m',es,e,rfl,g8,he⟩
   .rcases dN h2 with⟨j,rfl⟩|⟨y,rfl⟩
    .simp[PH]
    .simp[PH]
   .cases e
    have:=ve  (yM m) ds es hd he;simp only[PH];rw[this];simp
termination_by n=>n
noncomputable def zks(ha:au a=G3)(hb:au b=G3):PH a b=GP a b:=by rw[Rb,yM 4 a b (da ha).1 (da hb).1,zkr]
noncomputable def zkt(h:∀d∈ds,d.canLay0=G3):Qz ds=G3:=by
 induction ds with
 |nil=>simp[Qz]
 |cons d r ih=>
  simp only[Qz];rw[h d Pf,ih λx hx=>h x (Pc _ hx)];rfl
theorem vC:∀(n:Nat) (d:OY),az n d=G3->d.canLay0=G3
 |n,d,h=>by
  rcases cQ h with h1|⟨m,ds,rfl,rfl,h8,hd⟩
  .rcases dN h1 with⟨i,rfl⟩|⟨x,rfl⟩
   .simp[Q9]
   .have hx:=uS h1
    simp only[Q9];unfold Qk;rw[←W2,Po];intro c hc
    have:=K1.mF K1.mK hx c hc<;>grind
  .exact zkt λd EF=>vC m d (hd d EF)
termination_by n=>n
theorem zh{f:OY->Int}:∀{ds:List OY},(∀d∈ds,(d.weight:Int)+1<=61*f d)->(Sb ds:Int)<=61*(ds.map f).sum
 |[],_=>by simp[Sb]
 |d::r,h=>by
  have h1:=h d Pf;have h2:=zh  λx hx=>h x (Pc _ hx);simp only[Sb,P2,R3]
  lia
theorem zg:∀(n:Nat) (d:OY),az n d=G3->(d.weight:Int)+1<=61*aD n d
 |n,d,h=>by
  have hp:=rF n d
  rcases cQ h with h1|⟨m,ds,rfl,rfl,h8,hd⟩
  .rcases dN h1 with⟨i,rfl⟩|⟨x,rfl⟩
   .have ha:=lG h1
    have:(Vc i).weight<=60:=by
     simp only[V9];split
     .lia
     .rename_i hz
      have z:i.natAbs≠0:=by simp_all
      have:=(VQ (k:=60) z).mpr (Qs ha (by decide))
      lia
    lia
   .have h':(decide (x.length<=20)&&has ZZ x)=G3:=h1
    rw[Pg] at h';have hx:x.cps.size<=20:=of_decide_eq_true h'.1
    have:(QP x).weight=x.cps.size:=by simp only[V9]
    lia
  .have:=zh (f:=aD m) (ds:=ds) λd EF=>zg m d (hd d EF)
   have e:(Rz ds).weight=Sb ds:=by simp only[V9]
   rw[e];show _<=61*(1+(ds.map (aD m)).sum)
   lia
termination_by n=>n
noncomputable def zku(h:az n d=G3):Sh d n (61*aD n d).toNat:=by
 obtain⟨s,_⟩:=K1.sY n d h;have:=zg n d h;exact⟨s.sh,s.lv,s.dp,by lia⟩
noncomputable def zkv(h:au v=G3):Sh v 4 2440:=by
 obtain⟨hb,hm⟩:=da h;exact(zku hb).mono (Pk _) (by lia)
noncomputable def jU(h:au v=G3):PN v=G3:=by
 have:=(zkv h).dp;unfold PN;rw[vC 4 v (da h).1,decide_eq_true (by lia)];rfl
noncomputable def vl(v:OY):PyData:=.tuple [.str "value",v]
noncomputable def fl(w:String):PyData:=.tuple [.str "fails",.str (OZ w)]
noncomputable def FW:List String:=["kind","part","great"]
def cC(R:OY):Prop:=(∃v,R=vl v/\au v=G3)\/∃w∈FW,R=fl w
def cU:cC (fl "kind"):=.inr ⟨_,by simp[FW],rfl⟩
def zkw:cC (fl "part"):=.inr ⟨_,by simp[FW],rfl⟩
def zkx:cC (fl "great"):=.inr ⟨_,by simp[FW],rfl⟩
noncomputable def bd(d:OY):PyData:=if au d=G3 then vl d else fl "great"
noncomputable def lX(d:OY):cC (bd d):=by
 unfold bd;split
 .rename_i h;exact .inl ⟨d,rfl,h⟩
 .exact zkx
noncomputable def lN(T:Tp)(h:Sm d):iy [.d d] T=KQ (bd d,T):=by
 have:=zb T h;unfold bd
 cases hv:au d with
 |true=>rw[hv] at this;simp[iy,this,vl]
 |false=>rw[hv] at this;simp[iy,this,fl]
noncomputable def lO(h:au (.tuple ds)=G3)(hd:d∈ds):au d=G3:=by
 obtain⟨hb,hm⟩:=da h
 rcases cQ hb with h1|⟨m,Gf,e,e',h8,ER⟩
 .rcases dN h1 with⟨i,z⟩|⟨x,z⟩ <;> cases z
 .cases e;cases e'
  obtain⟨u1,u2⟩:=oi 3 d (ER d hd);have:=qP (n:=3) hd
  show (az 4 d&&decide _)=G3<;>grind
noncomputable def eO(h:au v=G3):(∃i,v=.int i/\single (.int i)=G3)\/(∃x,v=.str x/\x.length<=20/\∀c∈x.cps.toList,c<128)\/∃ds,v=.tuple ds/\ds.length<=8:=by
 rcases cQ (da h).1 with h1|⟨m,ds,e,rfl,h8,hd⟩
 .rcases dN h1 with⟨i,rfl⟩|⟨x,rfl⟩
  .exact .inl ⟨i,rfl,h1⟩
  .have h':(decide _&&has ZZ x)=G3:=h1
   rw[Pg] at h';exact .inr (.inl ⟨x,rfl,of_decide_eq_true h'.1,K1.mF K1.mK h'.2⟩)
 .exact .inr (.inr ⟨ds,rfl,h8⟩)
noncomputable def j6(h : -1000000000000000000<=i)(h':i<=1000000000000000000):au (.int i)=G3:=by
 show (single _&&decide _)=G3;rw[ir h h'];rfl
theorem zky(i:Int):Sm (.int i) :=rfl
noncomputable def zkz(h1:au x=G3)(h2:au y=G3):Fe x y=KQ (.bool (GP x y)):=by
 unfold Fe;rw[if_pos ⟨jU h1,jU h2⟩,zks h1 h2]
@[simp] theorem Nw{α:Type}{a b:α}:Zd [a,b] 0=KQ a:=rfl
@[simp] theorem Nv{α:Type}{a b:α}:Zd [a,b] 1=KQ b:=rfl
@[simp] theorem Nx{α:Type}{a:α}:Zd [a] 0=KQ a:=rfl
@[simp] theorem Nu{α:Type}{a b c:α}:Zd [a,b,c] 0=KQ a:=rfl
@[simp] theorem Nr{α:Type}{a b c:α}:Zd [a,b,c] 1=KQ b:=rfl
@[simp] theorem Nq{α:Type}{a b c:α}:Zd [a,b,c] 2=KQ c:=rfl
@[simp] theorem OU:bQ .int .int=G3:=rfl
@[simp] theorem OT:bQ .int .str=Gy:=rfl
@[simp] theorem OS:bQ .int .tup=Gy:=rfl
@[simp] theorem OV:bQ .int .bl=Gy:=rfl
@[simp] theorem OQ:bQ .str .str=G3:=rfl
@[simp] theorem OP:bQ .str .tup=Gy:=rfl
@[simp] theorem OR:bQ .str .int=Gy:=rfl
@[simp] theorem OM:bQ .tup .tup=G3:=rfl
@[simp] theorem OO:bQ .tup .int=Gy:=rfl
@[simp] theorem ON:bQ .tup .str=Gy:=rfl
@[simp] theorem Mg(x:OY)(T:Tp):fi [.d x] T=KQ (.bool (whole x),T):=kn x T
@[simp] theorem OL(i:Int):whole (.int i)=G3:=rfl
@[simp] theorem OK(x:Str):whole (.str x)=Gy:=rfl
@[simp] theorem OJ(x:List OY):whole (.tuple x)=Gy:=rfl
def Pairs(w:String)(a b:OY):Prop:=∃R,cC R/\∀T,bh [.d (.str (OZ w)),.d (.list [a,b])] T=KQ (R,T)
noncomputable def zla(h:au (.tuple ds)=G3)(h0:0<=i)(h1:i<(ds.length:Int)):∃d,Zd ds i=KQ d/\au d=G3:=by
 obtain⟨d,e,hd⟩:=gT h0 h1;exact⟨d,e,lO h hd⟩
noncomputable def PW:List String:=["part","sum","join","same","less"]
inductive Ex(m:Int):Nat->OY->Prop where
 |put {n:Nat}{v:OY}:au v=G3->Ex m n (.tuple [.str "put",v])
 |got {n:Nat}{i:Int}:0<=i->i<m->Ex m n (.tuple [.str "got",.int i])
 |row {n:Nat}{es:List OY}:es.length<=8->(∀e∈es,Ex m n e)->Ex m (n+1) (.tuple [.str "row",.tuple es])
 |many {n:Nat}{e:OY}:Ex m n e->Ex m (n+1) (.tuple [.str "many",e])
 |pair {n:Nat}{w:String}{a b:OY}:w∈PW->Ex m n a->Ex m n b->Ex m (n+1) (.tuple [.str (OZ w),a,b])
noncomputable def D6:OY->Bool
 |.tuple (.str x::_)=>decide (x=OZ "fails")
 |_=>Gy
noncomputable def ZW:OY->OY
 |.tuple [_,v]=>v
 |_=>.none
theorem zlb(v:OY):D6 (vl v)=Gy :=rfl
theorem zlc(w:String):D6 (fl w)=G3 :=rfl
noncomputable def nJ(h:cC R):(D6 R=G3/\∃w∈FW,R=fl w)\/(D6 R=Gy/\R=vl (ZW R)/\au (ZW R)=G3):=by
 rcases h with⟨v,rfl,hv⟩|⟨w,hw,rfl⟩
 .exact .inr ⟨zlb v,rfl,hv⟩
 .exact .inl ⟨zlc w,w,hw,rfl⟩
noncomputable def Dy:Int->List Int->Int
 |a,[]=>a
 |a,x::r=>Dy (max a x) r
theorem oX{m:Int}:∀(l:List Int) (a:Int),Dy a l<=m↔a<=m/\∀x∈l,x<=m
 |[],a=>by simp[Dy]
 |x::r,a=>by
  show Dy _ r<=m↔_;rw[oX r];simp only[Pr,forall_eq_or_imp,Int.max_le];exact and_assoc
noncomputable def Kk:Nat->OY->Int
 |n+1,.tuple ds=>Dy 0 (ds.map (Kk n))+1
 |_,_=>0
noncomputable def xS(h:single d=G3):Kk n d=0:=by rcases dN h with⟨i,rfl⟩|⟨x,rfl⟩ <;> cases n <;> rfl
theorem rS:∀(n m:Nat) (d:OY),az n d=G3->(az m d=G3↔Kk n d<=(m:Int))
 |n,m,d,h=>by
  rcases cQ h with h1|⟨n,ds,rfl,rfl,h8,hb⟩
  .rw[xS h1,(fQ h1).1]
   simp
  .show _↔Dy 0 (ds.map (Kk n))+1<=(m:Int)
   cases m with
   |zero=>
    constructor
    .intro z
     cases z
    .intro z
     have:=(oX (m:=-1) (ds.map (Kk n)) 0).mp (by lia);omega
   |succ m=>
    have e:az (m+1) (.tuple ds)=(decide (ds.length<=8)&&ds.all (az m)):=rfl
    simp_all
    constructor
    .intro z
     have:=(oX (m:=(m:Int)) (ds.map (Kk n)) 0).mpr ⟨by lia,λx hx=>by
      obtain⟨d,hd,rfl⟩:=PD.mp hx
      exact(rS n m d (hb d hd)).mp (z d hd)⟩
     omega
    .intro z d hd
     have:=(oX (m:=(m:Int)) (ds.map (Kk n)) 0).mp (by omega);exact(rS n m d (hb d hd)).mpr (this.2 _ (PD.mpr ⟨d,hd,rfl⟩))
termination_by n=>n
theorem rz{k n:Nat}{T:Tp}{X:OY}:∀(ds:List OY) (a b:Int) (o3 o4:Option D.W),(∀d∈ds,gG k [.d d] T=KQ (.tuple [.int (Kk n d),.int (aD n d)],T)) ->
  ∃p3 p4,forL 3 (nV k) ds [KQ (.d X),KQ (.d (.int a)),KQ (.d (.int b)),o3,o4] T=KQ ((.nx,[KQ (.d X),KQ (.d (.int (Dy a (ds.map (Kk n))))),KQ (.d (.int (b+(ds.map (aD n)).sum))),p3,p4]),T)
 |[],a,b,o3,o4,_=>⟨o3,o4,by simp[forL,Dy]⟩
 |d::ds,a,b,o3,o4,h=>by
  have h0:=h d Pf;obtain⟨p3,p4,e⟩:=rz  ds _ _ _ _ λx hx=>h x (Pc _ hx);refine⟨p3,p4,?_⟩
  have s:b+((d::ds).map (aD n)).sum=b+aD n d+(ds.map (aD n)).sum:=by simp;lia
  rw[s]
  have mx:(if Kk n d>a then Kk n d else a)=max a (Kk n d):=by grind
  have st:nV k [KQ (.d X),KQ (.d (.int a)),KQ (.d (.int b)),KQ (.d d),o4] T=KQ ((.nx,[KQ (.d X),KQ (.d (.int (max a (Kk n d)))),KQ (.d (.int (b+aD n d))),KQ (.d d),KQ (.d (.tuple [.int (Kk n d),.int (aD n d)]))]),T):=by
   rw[←mx];simp[nV,h0,iX]
  exact(fm st).trans e
theorem Al:∀(n k:Nat) (d:OY) (T:Tp),az n d=G3->n<k->gG k [.d d] T=KQ (.tuple [.int (Kk n d),.int (aD n d)],T)
 |n,k,d,T,h,hk=>by
  obtain⟨k,rfl⟩:=aS k (by omega)
  rcases cQ h with h1|⟨n,ds,rfl,rfl,h8,hb⟩
  .rw[xS h1,(fQ h1).2]
   rcases dN h1 with⟨i,rfl⟩|⟨x,rfl⟩ <;> simp[gG]
  .obtain⟨p3,p4,e⟩:=rz (X:=.tuple ds) ds 0 1 HA HA λd hd=>Al n k d T (hb d hd) (by omega)
   rw[zwy];simp[e];exact⟨rfl,rfl⟩
termination_by n=>n
def BG(d:OY):Prop:=(∃i,d=.int i)\/(∃x,d=.str x/\x.length<=60000/\has ZZ x=G3)\/∃ds,d=.tuple ds/\∀x∈ds,az 4 x=G3
noncomputable def zld(T:Tp)(h:∀x∈ds,az 4 x=G3):gG 25 [.d (.tuple ds)] T=KQ (.tuple [.int (Kk 5 (.tuple ds)),.int (aD 5 (.tuple ds))],T):=by
 obtain⟨p3,p4,e⟩:=rz    (X:=.tuple ds) ds 0 1 HA HA λd hd=>Al 4 24 d T (h d hd) (by simp);rw[zwy];simp[e];exact⟨rfl,rfl⟩
noncomputable def zle(ha:has y a=G3)(hb:has y b=G3):has y (a++b)=G3:=by
 refine Po.mpr λc hc=>?_;have E8:c∈cd _:=hc;rw[jt] at E8
 rcases Pt.mp E8 with z|z
 .exact Po.mp ha c z
 .exact Po.mp hb c z
noncomputable def yb(h:au (.str x)=G3):has ZZ x=G3:=by
 obtain⟨hb,_⟩:=da h
 rcases cQ hb with h1|⟨_,_,_,z,_⟩
 .exact uS h1
 .cases z
noncomputable def val_one(h:∀n,az n d=single d)(h2:aD 4 d=1):au d=single d:=by show (az 4 d&&decide _)=_<;>simp_all
noncomputable def oN(T:Tp)(h:BG d):eg [.d d] T=KQ (.bool (!au d),T):=by
 rcases h with⟨i,rfl⟩|⟨x,rfl,hx,ht⟩|⟨ds,rfl,hd⟩
 .have e:au (.int i)=decide (-1000000000000000000<=i/\i<=1000000000000000000):=by
   rw[val_one (λn=>by cases n <;> rfl) rfl]
   by_cases c : -1000000000000000000<=i/\i<=1000000000000000000
   .rw[ir c.1 c.2,decide_eq_true c]
   .rw[decide_eq_false c]
    cases z:single (.int i) with
    |false=>rfl
    |true=>exact absurd (by have:=lG z;lia) c
  have ng:jH (.int 1000000000000000000)=KQ (.int (-1000000000000000000)):=rfl
  by_cases c1 : -1000000000000000000<=i
  .by_cases c2:i<=1000000000000000000
   .simp[eg,ng,e,c1,c2]
   .simp[eg,ng,e,c1,c2]
  .simp[eg,ng,e,c1]
 .have e:au (.str x)=decide (x.length<=20):=by
   rw[val_one (λn=>by cases n <;> rfl) rfl];show (decide (x.length<=20)&&has ZZ x)=_;rw[ht,Bool.and_true]
  have z:x.length<=sizeLine:=PB hx (by decide)
  by_cases c:x.length<=20
  .have c':¬20<(x.length:Int):=by lia
   have c2:¬20<x.length:=by lia
   simp[eg,e,c,c',c2,z]
  .have c':20<(x.length:Int):=by lia
   have c2:20<x.length:=by lia
   simp[eg,e,c,c',c2,z]
 .have sz:=zld T hd
  have e4:au (.tuple ds)=(az 4 (.tuple ds)&&decide (aD 4 (.tuple ds)<=40)):=rfl
  by_cases h8:ds.length<=8
  .have b5:az 5 (.tuple ds)=G3:=iz h8 hd
   have dp:=rS 5 4 (.tuple ds) b5
   have n8:¬8<ds.length:=by lia
   have Hr:¬8<(ds.length:Int):=by lia
   cases hb:az 4 (.tuple ds) with
   |true=>
    have d4:=dp.mp hb
    have BK:¬4<Kk 5 (.tuple ds):=by lia
    have me:=(oi 4 _ hb).2;rw[e4,hb,Bool.true_and,←me]
    by_cases c:aD 5 (.tuple ds)<=40
    .have c':¬40<aD 5 (.tuple ds):=by lia
     simp[eg,sz,jN,iX,n8,Hr,BK,c,c']
    .have c':40<aD 5 (.tuple ds):=by lia
     simp[eg,sz,jN,iX,n8,Hr,BK,c,c']
   |false=>
    have BK:4<Kk 5 (.tuple ds):=by
     by_cases c:4<Kk 5 (.tuple ds)
     .exact c
     .have:=dp.mpr (by lia)
      rw[hb] at this;cases this
    rw[e4,hb];simp[eg,sz,jN,iX,n8,Hr,BK]
  .have n8:8<ds.length:=by lia
   have Hr:8<(ds.length:Int):=by lia
   have hb:az 4 (.tuple ds)=Gy:=by
    show (decide (ds.length<=8)&&_)=Gy;rw[decide_eq_false h8];rfl
   rw[e4,hb];simp[eg,sz,n8,Hr]
def kH(w:String)(a b:OY):Prop:=∃R,cC R/\(∀T,bh [.d (.str (OZ w)),.d (.list [a,b])] T=KQ (R,T))/\∀T,bG [.d (.str (OZ w)),.d a,.d b] T=KQ (R,T)
noncomputable def zlf(ha:au a=G3)(hb:au b=G3):kH "same" a b:=by
 have e1:=zkz ha hb;refine⟨vl (.int (if GP a b=G3 then 1 else 0)),.inl ⟨_,rfl,by split <;> exact j6 (by simp) (by simp)⟩,λT=>?_,λT=>?_⟩
 .cases hs:GP a b with
  |true=>rw[hs] at e1;simp[bh,e1,vl]
  |false=>rw[hs] at e1;simp[bh,e1,vl]
 .cases hs:GP a b with
  |true=>rw[hs] at e1;simp[bG,e1,vl,D.intD]
  |false=>rw[hs] at e1;simp[bG,e1,vl,D.intD]
noncomputable def zlg(ha:au a=G3)(hb:au b=G3):kH "part" a b:=by
 rcases eO ha with⟨i,rfl,hi⟩|⟨x,rfl,hx,C0⟩|⟨ds,rfl,hd⟩
 .refine⟨_,cU,λT=>?_,λT=>?_⟩ <;> simp[bh,gE,bG,fl]
 .refine⟨_,cU,λT=>?_,λT=>?_⟩ <;> simp[bh,gE,bG,fl]
 .rcases eO hb with⟨j,rfl,hj⟩|⟨y,rfl,hy,Ho⟩|⟨es,rfl,he⟩
  .by_cases c:0<=j/\j<(ds.length:Int)
   .obtain⟨d,e,hv⟩:=zla ha c.1 c.2
    refine⟨vl d,.inl ⟨d,rfl,hv⟩,λT=>?_,λT=>?_⟩ <;> simp[bh,gE,bG,vl,c.1,c.2,e]
   .refine⟨_,zkw,λT=>?_,λT=>?_⟩
    .by_cases c0:0<=j
     .have c1:¬j<(ds.length:Int):=λz=>c ⟨c0,z⟩
      simp[bh,gE,fl,c0,c1]
     .simp[bh,gE,fl,c0]
    .by_cases c0:0<=j
     .have c1:¬j<(ds.length:Int):=λz=>c ⟨c0,z⟩
      simp[bG,fl,c0,c1]
     .simp[bG,fl,c0]
  .refine⟨_,cU,λT=>?_,λT=>?_⟩ <;> simp[bh,gE,bG,fl]
  .refine⟨_,cU,λT=>?_,λT=>?_⟩ <;> simp[bh,gE,bG,fl]
noncomputable def zlh(ha:au a=G3)(hb:au b=G3):kH "sum" a b:=by
 rcases eO ha with⟨i,rfl,hi⟩|⟨x,rfl,hx,C0⟩|⟨ds,rfl,hd⟩
 .rcases eO hb with⟨j,rfl,hj⟩|⟨y,rfl,hy,Ho⟩|⟨es,rfl,he⟩
  .have b1:=λT=>lN T (zky (i+j))
   have b2:=λT=>oN T (.inl ⟨i+j,rfl⟩);refine⟨_,lX (.int (i+j)),λT=>?_,λT=>?_⟩
   .simp[bh,jb,b1]
   .cases hv:au (.int (i+j)) <;> simp[bG,b2,hv,bd,vl,fl]
  .refine⟨_,cU,λT=>?_,λT=>?_⟩ <;> simp[bh,jb,bG,fl]
  .refine⟨_,cU,λT=>?_,λT=>?_⟩ <;> simp[bh,jb,bG,fl]
 .refine⟨_,cU,λT=>?_,λT=>?_⟩ <;> simp[bh,jb,bG,fl]
 .refine⟨_,cU,λT=>?_,λT=>?_⟩ <;> simp[bh,jb,bG,fl]
noncomputable def zli(ha:au a=G3)(hb:au b=G3):kH "less" a b:=by
 rcases eO ha with⟨i,rfl,hi⟩|⟨x,rfl,hx,C0⟩|⟨ds,rfl,hd⟩
 .rcases eO hb with⟨j,rfl,hj⟩|⟨y,rfl,hy,Ho⟩|⟨es,rfl,he⟩
  .refine⟨vl (.int (if i<j then 1 else 0)),.inl ⟨_,rfl,by split <;> exact j6 (by decide) (by decide)⟩,λT=>?_,λT=>?_⟩
   .by_cases c:i<j
    .simp[bh,ik,c,vl]
    .simp[bh,ik,c,vl]
   .by_cases c:i<j
    .simp[bG,c,vl,D.intD]
    .simp[bG,c,vl,D.intD]
  .refine⟨_,cU,λT=>?_,λT=>?_⟩ <;> simp[bh,ik,bG,fl]
  .refine⟨_,cU,λT=>?_,λT=>?_⟩ <;> simp[bh,ik,bG,fl]
 .refine⟨_,cU,λT=>?_,λT=>?_⟩ <;> simp[bh,ik,bG,fl]
 .refine⟨_,cU,λT=>?_,λT=>?_⟩ <;> simp[bh,ik,bG,fl]
noncomputable def zlj(ha:au a=G3)(hb:au b=G3):kH "join" a b:=by
 rcases eO ha with⟨i,rfl,hi⟩|⟨x,rfl,hx,C0⟩|⟨ds,rfl,hd⟩
 .refine⟨_,cU,λT=>?_,λT=>?_⟩
  .simp[bh,gF,fl]
  .rcases eO hb with⟨j,rfl,hj⟩|⟨y,rfl,hy,Ho⟩|⟨es,rfl,he⟩ <;> simp[bG,fl]
 .rcases eO hb with⟨j,rfl,hj⟩|⟨y,rfl,hy,Ho⟩|⟨es,rfl,he⟩
  .refine⟨_,cU,λT=>?_,λT=>?_⟩ <;> simp[bh,gF,bG,fl]
  .have l:x.length+y.length<=sizeLine:=fV (by omega)
   have sx:Sm (.str (x++y)):=Sm.mkS (by rw[←cS,jt,Qb,cS,cS];omega) λc hc=>by
    have E8:c∈cd (x++y):=hc;rw[jt] at E8;exact(Pt.mp E8).elim (C0 c) (Ho c)
   have hxy:has ZZ (x++y)=G3:=zle (yb ha) (yb hb);have b1:=λT=>lN T sx;have b2:=λT=>oN (d:=.str (x++y)) T (.inr (.inl ⟨_,rfl,sx.both.1,hxy⟩));refine⟨_,lX (.str (x++y)),λT=>?_,λT=>?_⟩
   .simp[bh,gF,b1,l]
   .cases hv:au (.str (x++y)) <;> simp[bG,b2,l,hv,bd,vl,fl]
  .refine⟨_,cU,λT=>?_,λT=>?_⟩ <;> simp[bh,gF,bG,fl]
 .rcases eO hb with⟨j,rfl,hj⟩|⟨y,rfl,hy,Ho⟩|⟨es,rfl,he⟩
  .refine⟨_,cU,λT=>?_,λT=>?_⟩ <;> simp[bh,gF,bG,fl]
  .refine⟨_,cU,λT=>?_,λT=>?_⟩ <;> simp[bh,gF,bG,fl]
  .have l:ds.length+es.length<=sizeLine:=fV (by omega)
   have sx:Sm (.tuple (ds++es)):=Sm.tup λd hd=>by
    rcases Pt.mp hd with z|z
    .exact gN (lO ha z)
    .exact gN (lO hb z)
   have b1:=λT=>lN T sx;have b2:=λT=>oN (d:=.tuple (ds++es)) T (.inr (.inr ⟨_,rfl,λz hz=>(Pt.mp hz).elim (λq=>(da (lO ha q)).1) λq=>(da (lO hb q)).1⟩));refine⟨_,lX (.tuple (ds++es)),λT=>?_,λT=>?_⟩
   .simp[bh,gF,b1,l]
   .cases hv:au (.tuple (ds++es)) <;> simp[bG,b2,l,hv,bd,vl,fl]
noncomputable def AV(hw:w∈PW)(ha:au a=G3)(hb:au b=G3):kH w a b:=by
 simp[PW] at hw
 rcases hw with rfl|rfl|rfl|rfl|rfl
 .exact zlg ha hb
 .exact zlh ha hb
 .exact zlj ha hb
 .exact zlf ha hb
 .exact zli ha hb
open K1 (au)
noncomputable def zlk(hw:w∈PW)(ha:au a=G3)(hb:au b=G3):Pairs w a b:=let ⟨R,h,e,_⟩:=AV hw ha hb;⟨R,h,e⟩
noncomputable def dm(m:YX)(ws:List D.W)(T1:Tp):Option (D.W×Tp):=if m8 ws=G3 then (match m (ws.map lg) [] with
 |some (x,_)=>if bj x=G3 then KQ (.d x,T1) else HA
 | none=>HA) else HA
@[simp] theorem Me:dC m a ρ T=YS (a ρ T) (dm m):=rfl
noncomputable def j0(h1:m8 ws=G3)(h2:m (ws.map lg) []=KQ (x,T'))(h3:bj x=G3):dm m ws T=KQ (.d x,T):=by unfold dm<;>simp_all
theorem ri:∀{ds:List OY},(∀d∈ds,bj d=G3)->bS ds=G3
 |[],_=>rfl
 |d::r,h=>by simp[bS,h d Pf,ri  λx hx=>h x (Pc _ hx)]
theorem vL:∀(n:Nat) (d:OY),az n d=G3->bj d=G3
 |n,d,h=>by
  rcases cQ h with h1|⟨m,ds,rfl,rfl,_,hd⟩
  .rcases dN h1 with⟨i,rfl⟩|⟨x,rfl⟩ <;> simp[bj]
  .simp[bj,ri λx hx=>vL m x (hd x hx)]
termination_by n=>n
def om(h:au v=G3):bj v=G3:=vL 4 v (da h).1
noncomputable def rh(h:cC R):bj R=G3:=by
 rcases h with⟨v,rfl,hv⟩|⟨w,_,rfl⟩
 .simp[vl,bj,bS,om hv]
 .simp[fl,bj,bS]
noncomputable def gk(k:Nat):FS:=(ah (ax 4 (ar (cV k) (ab (aa 3) (ab (aa 1) ag)))) (ah (YT (aq (ae Z5 (ae Y8 (aa 4) (fC (.int 0))) (fC (.str "fails")))) (aj (aa 4)) aw) (cH 2 (ae Y8 (aa 4) (fC (.int 1))))))
noncomputable def jK(k:FS)(p:Fl×YR)(T:Tp):Option ((Fl×YR)×Tp):=match p with
 |(.nx,Ze)=>k Ze T
 |(.ct,Ze)=>k Ze T
 |(.bk,Ze)=>KQ ((.nx,Ze),T)
 |(.rt x,Ze)=>KQ ((.rt x,Ze),T)
 |(.ro x,Ze)=>KQ ((.ro x,Ze),T)
theorem ke:jK k (.nx,ρ) T=k ρ T:=rfl
theorem lL{k:Nat}{T:Tp}{e0 G:OY}{f:OY->OY}:∀(es:List OY) (acc:List OY) (o3 o4:Option D.W),(∀e∈es,cC (f e)/\cV k [.d e,.d G] T=KQ (f e,T))->acc.length+es.length<=1000 ->
  match (es.map f).filter D6 with
  |R::_=>∃ρ',forL 3 (gk k) es [KQ (.d e0),KQ (.d G),KQ (.loc (.list acc)),o3,o4] T=KQ ((.rt R,ρ'),T)
  |[]=>∃Ie Dm,forL 3 (gk k) es [KQ (.d e0),KQ (.d G),KQ (.loc (.list acc)),o3,o4] T=KQ ((.nx,[KQ (.d e0),KQ (.d G),KQ (.loc (.list (acc++es.map λe=>ZW (f e)))),(Ie:Option D.W),Dm]),T)
 |[],acc,o3,o4,_,_=>⟨o3,o4,by simp[forL]⟩
 |e::es,acc,o3,o4,h,hl=>by
  obtain⟨t,ht⟩:=h e Pf;have Er:acc.length<sizeLine:=PQ (by simp at hl;lia:acc.length<1000) (by decide);have go:forL 3 (gk k) (e::es) [KQ (.d e0),KQ (.d G),KQ (.loc (.list acc)),o3,o4] T=YS (gk k [KQ (.d e0),KQ (.d G),KQ (.loc (.list acc)),KQ (.d e),o4] T) (jK (forL 3 (gk k) es)):=rfl;rw[go]
  rcases nJ t with⟨hf,w,_,hw⟩|⟨hf,hv,_⟩
  .rw[P2,Ti,if_pos hf]
   rw[hw] at ht
   have hb:gk k [KQ (.d e0),KQ (.d G),KQ (.loc (.list acc)),KQ (.d e),o4] T=KQ ((.rt (fl w),[KQ (.d e0),KQ (.d G),KQ (.loc (.list acc)),KQ (.d e),KQ (.d (fl w))]),T):=by
    simp[gk,ht,fl]
   rw[hb,hw];exact⟨_,rfl⟩
  .rw[P2,Ti,hf]
   have ih:=lL (e0:=e0) es (acc++[ZW (f e)]) (KQ (.d e)) (KQ (.d (f e))) (λx hx=>h x (Pc _ hx)) (by simp at hl ⊢;lia)
   have hb:gk k [KQ (.d e0),KQ (.d G),KQ (.loc (.list acc)),KQ (.d e),o4] T=KQ ((.nx,[KQ (.d e0),KQ (.d G),KQ (.loc (.list (acc++[ZW (f e)]))),KQ (.d e),KQ (.d (f e))]),T):=by
    generalize hV:ZW (f e)=v at hv;rw[hv] at ht ⊢;simp[gk,ht,vl,Er]
   rw[hb,bv,ke];simp only[QD,if_false]
   cases hF:(es.map f).filter D6 with
   |nil=>
    rw[hF] at ih;obtain⟨Ie,Dm,hi⟩:=ih;exact⟨Ie,Dm,by rw[hi];simp⟩
   |cons R r=>
    rw[hF] at ih;exact ih
structure Node(e0:OY)(w0:Str)(es:List OY):Prop where
 w1:∀T,cA [.d e0] T=KQ (.list es,T)
 ix:Y8 e0 (.int 0)=KQ (.str w0)
 np:(w0=OZ "put")=False
 ng:(w0=OZ "got")=False
 ln:es.length<=8
def TB(G:OY)(n:Nat)(e:OY):Prop:=∃R,cC R/\∀k T,n<k->cV k [.d e,.d G] T=KQ (R,T)
def pW(G:OY)(gs:List OY):Prop:=∀i:Int,Y8 G (.int i)=Zd gs i
def nZ(gs:List OY):pW (.list gs) gs:=λ_=>rfl
theorem nK(n:Nat):cV (n+1)=aJ 5 (ah (YT (aq (ae Z5 (ae Y8 (aa 0) (fC (.int 0))) (fC (.str "put")))) (aj (av .tuple (ab (fC (.str "value")) (ab (ae Y8 (aa 0) (fC (.int 1))) ag)))) aw) (ah (YT (aq (ae Z5 (ae Y8 (aa 0) (fC (.int 0))) (fC (.str "got")))) (aj (av .tuple (ab (fC (.str "value")) (ab (ae Y8 (aa 1) (ae Y8 (aa 0) (fC (.int 1)))) ag)))) aw) (ah (cO 2 ag) (ah (cG 3 (bE (ar cA (ab (aa 0) ag))) (gk n)) (aj (dC bh (ab (ae Y8 (aa 0) (fC (.int 0))) (ab (aa 2) ag)))))))) :=rfl
noncomputable def qH{es:List OY}{f:OY->OY}(N:Node e0 w0 es)
  (hf:∀e∈es,cC (f e)/\∀k T,n<k->cV k [.d e,.d G] T=KQ (f e,T))
  (fin:(∀e∈es,f e=vl (ZW (f e))/\au (ZW (f e))=G3)->∃R,cC R/\∀T,bh [.d (.str w0),.d (.list (es.map λe=>ZW (f e)))] T=KQ (R,T)):TB G (n+1) e0:=by
 have ix:=N.ix;have np:=N.np;have ng:=N.ng;have He:∀k T,n<k->(∀e∈es,cC (f e)/\cV k [.d e,.d G] T=KQ (f e,T)):=λk T hk e he=>⟨(hf e he).1,(hf e he).2 k T hk⟩
 cases hF:(es.map f).filter D6 with
 |cons R r=>
  have hR:R∈(es.map f).filter D6:=by rw[hF];exact Pf
  obtain⟨e,he,eR⟩:=PD.mp (QH.mp hR).1;refine⟨R,by rw[←eR];exact(hf e he).1,λk T hk=>?_⟩;obtain⟨k,rfl⟩:=aS k (by omega);have lp:=lL (e0:=e0) es [] HA HA (He k T (by omega)) (by have:=N.ln;simp;omega);rw[hF] at lp;obtain⟨ρ',lp⟩:=lp;rw[nK];simp[ix,np,ng,N.w1,lp]
 |nil=>
  have all:∀e∈es,f e=vl (ZW (f e))/\au (ZW (f e))=G3:=λe he=>by
   rcases nJ (hf e he).1 with⟨h1,_⟩|⟨_,h2⟩
   .have:f e∈(es.map f).filter D6:=QH.mpr ⟨PD.mpr ⟨e,he,rfl⟩,h1⟩
    rw[hF] at this;cases this
   .exact h2
  obtain⟨R,t,q1⟩:=fin all;refine⟨R,t,λk T hk=>?_⟩;obtain⟨k,rfl⟩:=aS k (by omega);have lp:=lL (e0:=e0) es [] HA HA (He k T (by omega)) (by have:=N.ln;simp;omega);rw[hF] at lp;obtain⟨Ie,Dm,lp⟩:=lp;have cf:∀T,dm bh [.d (.str w0),.d (.list (es.map λe=>ZW (f e)))] T=KQ (.d R,T):=λT=>j0 rfl (q1 []) (rh t);rw[nK];simp[ix,np,ng,N.w1,lp,cf]
noncomputable def lm:cm (a::r) (KQ 1) HA=r:=by
 have e:HT.Zg (a::r).length 0 (KQ 1)=1:=rfl;have e2:HT.Zg (a::r).length _ HA=(a::r).length:=rfl
 unfold cm<;>simp_all
noncomputable def qx{G:OY}{n:Nat}{es:List OY}(h:∀e∈es,TB G n e):∃f:OY->OY,∀e∈es,cC (f e)/\∀k T,n<k->cV k [.d e,.d G] T=KQ (f e,T):=by
 classical
 refine⟨λe=>if h':e∈es then (h e h').choose else .none,λe he=>?_⟩;simp only[dif_pos he];exact(h e he).choose_spec
noncomputable def rZ(hG:pW G gs)(hg:∀g∈gs,au g=G3)(hm:m<=(gs.length:Int)):∀(n:Nat) (e:OY),Ex m n e->TB G n e:=by
 intro n e h
 induction h with
 |put hv=>
  rename_i n v;refine⟨vl v,.inl ⟨v,rfl,hv⟩,λk T hk=>?_⟩;obtain⟨k,rfl⟩:=aS k (by omega);simp[cV,vl]
 |got h0 h1=>
  rename_i n i;obtain⟨g,e,vA⟩:=gT (xs:=gs) h0 (by omega);refine⟨vl g,.inl ⟨g,rfl,hg g vA⟩,λk T hk=>?_⟩;obtain⟨k,rfl⟩:=aS k (by omega);simp[cV,vl,hG i,e]
 |row hl _ ih=>
  rename_i n es _;obtain⟨f,hf⟩:=qx ih
  have e1:∀T,cA [.d (.tuple [.str "row",.tuple es])] T=KQ (.list es,T):=λT=>by simp[cA]
  refine qH (w0:=OZ "row") (es:=es) (f:=f) ⟨e1,rfl,by simp,by simp,hl⟩ hf λall=>?_
  have sx:Sm (.tuple (es.map λe=>ZW (f e))):=Sm.tup λd hd=>by
   obtain⟨e,he,rfl⟩:=PD.mp hd;exact gN (all e he).2
  exact⟨bd (.tuple (es.map λe=>ZW (f e))),lX _,λT=>by simp[bh,lN T sx]⟩
 |many _ ih=>
  rename_i n e _;obtain⟨f,hf⟩:=qx (es:=[e]) (λx hx=>by rw[Py.mp hx];exact ih)
  have e1:∀T,cA [.d (.tuple [.str "many",e])] T=KQ (.list [e],T):=λT=>by simp[cA,lm]
  refine qH (w0:=OZ "many") (es:=[e]) (f:=f) ⟨e1,rfl,by simp,by simp,by simp⟩ hf λall=>?_;obtain⟨a1,a2⟩:=all e (by simp);generalize hV:ZW (f e)=v at a1 a2
  rcases eO a2 with⟨i,rfl,hi⟩|⟨x,rfl,hx,_⟩|⟨ds,rfl,hd⟩
  .exact⟨fl "kind",cU,λT=>by simp[bh,ij,hV,fl]⟩
  .have Dc:x.length<=sizeLine:=fV (by omega)
   exact⟨vl (.int x.length),.inl ⟨_,rfl,j6 (by omega) (by omega)⟩,λT=>by simp[bh,ij,hV,vl,Dc]⟩
  .exact⟨vl (.int ds.length),.inl ⟨_,rfl,j6 (by omega) (by omega)⟩,λT=>by simp[bh,ij,hV,vl]⟩
 |pair hw _ _ Hs Jr=>
  rename_i n w a b _ _
  obtain⟨f,hf⟩:=qx (es:=[a,b]) (λx hx=>by
   simp at hx
   rcases hx with rfl|rfl
   .exact Hs
   .exact Jr)
  have ne:¬w="put"/\¬w="got"/\¬w="row":=by
   simp[PW] at hw
   rcases hw with rfl|rfl|rfl|rfl|rfl <;> simp
  obtain⟨n1,n2,n4⟩:=ne
  have e1:∀T,cA [.d (.tuple [.str (OZ w),a,b])] T=KQ (.list [a,b],T):=λT=>by simp[cA,lm,n1,n2,n4]
  refine qH (w0:=OZ w) (es:=[a,b]) (f:=f) ⟨e1,rfl,by simp[n1],by simp[n2],by simp⟩ hf λall=>?_;obtain⟨a1,a2⟩:=all a (by simp);obtain⟨b1,b2⟩:=all b (by simp);exact zlk hw a2 b2
inductive Rg(p:Bool):Nat->Nat->OY->Prop where
 |fail {g n:Nat}{x:Str}:isName (.str x)=G3->Rg p g n (.tuple [.str "fail",.str x])
 |say {g n:Nat}{e:OY}:Ex (g:Int) n e->Rg p g (n+1) (.tuple [.str "say",e])
 |ask {g n:Nat}{w:String}{e r:OY}:(w="want"\/(w="peek"/\p=G3))->g<12->Ex (g:Int) n e->Rg p (g+1) n r->Rg p g (n+1) (.tuple [.str (OZ w),e,r])
 |whn {g n:Nat}{e r s:OY}:Ex (g:Int) n e->Rg p g n r->Rg p g n s->Rg p g (n+1) (.tuple [.str "when",e,r,s])
noncomputable def Z4(v:OY):PyData:=.tuple [.str "made",v]
noncomputable def ZC(x:Str):PyData:=.tuple [.str "fails",.str x]
noncomputable def Iu(b:Bool)(x:Str)(r:OY):PyData:=.tuple [.str (OZ (if b then "peek" else "want")),.str x,r]
inductive Zs(p:Bool)(g n:Nat):OY->Prop where
 |md {v:OY}:au v=G3->Zs p g n (Z4 v)
 |fl {x:Str}:isName (.str x)=G3->Zs p g n (ZC x)
 |ask {b:Bool}{x:Str}{r:OY}{n':Nat}:(b=G3->p=G3)->isName (.str x)=G3->g<12->n'<=n->Rg p (g+1) n' r->Zs p g n (Iu b x r)
def Zs.up(h:Zs p g n S)(l:n<=m):Zs p g m S:=by
 cases h with
 |md a=>exact .md a
 |fl a=>exact .fl a
 |ask a b c d e=>exact .ask a b c (PB d l) e
noncomputable def sC:∀w∈FW,isName (.str (OZ w))=G3:=by decide +kernel
theorem zll:isName (.str "name")=G3 :=rfl
noncomputable def wm(h:au v=G3):∃b,FJ v (.tuple [.int 0,.str "",.tuple []])=KQ (.bool b):=by
 have h2:([Vc 0,.str "",.tuple []]).all PN=G3:=by
  have a:PN (.int 0)=G3:=jU (rfl);have b:PN (.str "")=G3:=jU (rfl)
  have c:PN (.tuple [])=G3:=jU (rfl)<;>simp_all
 exact⟨_,if_pos ⟨jU h,h2⟩⟩
noncomputable def gJ(h:isName (.str x)=G3):Sm (.str x):=rX 4 _ (fQ (qr h)).1
noncomputable def oj(T:Tp)(h:Sm d):eP [.d d] T=KQ (.bool (isName d),T):=by
 cases d with
 |str x=>
  have hz:x.length<=sizeLine:=PB h.str (by decide);have hh:∀T,fS [.d _,.d (.str "abcdefghijklmnopqrstuvwxyz")] T=KQ (.bool (has Z1 x),T):=λT=>pV T hz;have e:isName (.str x)=(decide _&&decide _&&has Z1 x):=rfl
  by_cases h1:1<=x.length
  .have Ii:(1)<=(x.length:Int):=by omega
   by_cases h8:x.length<=8
   .have El:(x.length:Int)<=8:=by omega
    simp[eP,hz,hh,e,h1,Ii,h8,El]
   .have El:¬(x.length:Int)<=8:=by lia
    simp[eP,hz,e,Ii,h8,El]
  .have Ii:¬(1)<=(x.length:Int):=by lia
   simp[eP,hz,e,h1,Ii]
 |_=>rfl
theorem iO{α:Type}{a b c d:α}:Zd [a,b,c,d] 0=KQ a:=rfl
theorem kY{α:Type}{a b c d:α}:Zd [a,b,c,d] 1=KQ b:=rfl
theorem pX{α:Type}{a b c d:α}:Zd [a,b,c,d] 2=KQ c:=rfl
theorem m5{α:Type}{a b c d:α}:Zd [a,b,c,d] 3=KQ d:=rfl
noncomputable def se:∀(n g:Nat) (r:OY),Rg p g n r->∀(G:OY) (gs:List OY),pW G gs->gs.length=g->(∀v∈gs,au v=G3)->n<=20->∃S,Zs p g n S/\∀k T,n<k->bC k [.d r,.d G] T=KQ (S,T):=by
 intro n g r h
 induction h with
 |fail hx=>
  rename_i g n x;intro G gs hG hl hv hn;refine⟨ZC x,.fl hx,λk T hk=>?_⟩;obtain⟨k,rfl⟩:=aS k (by omega);simp[bC,ZC]
 |say he=>
  rename_i g n e;intro G gs hG hl hv hn;obtain⟨R,t,hR⟩:=rZ hG hv (by rw[hl];exact Sd _) n e he;have tb:=λT=>hR 25 T (by omega)
  rcases t with⟨v,rfl,Kj⟩|⟨w,hw,rfl⟩
  .refine⟨Z4 v,.md Kj,λk T hk=>?_⟩
   obtain⟨k,rfl⟩:=aS k (by omega);simp[bC,Z4,tb,vl]
  .refine⟨ZC (OZ w),.fl (sC w hw),λk T hk=>?_⟩
   obtain⟨k,rfl⟩:=aS k (by omega);simp[bC,ZC,tb,fl]
 |ask hw hg he hr ih=>
  rename_i g n w e r;intro G gs hG hl hv hn;obtain⟨R,t,hR⟩:=rZ hG hv (by rw[hl];exact Sd _) n e he;have tb:=λT=>hR 25 T (by omega)
  have nw:¬w="fail"/\¬w="when"/\¬w="say":=by rcases hw with rfl|⟨rfl,_⟩ <;> simp
  obtain⟨n1,n2,n3⟩:=nw
  rcases t with⟨v,rfl,Kj⟩|⟨u,hu,rfl⟩
  .have ln:=λT=>oj (d:=v) T (gN Kj)
   cases hi:isName v with
   |false=>
    refine⟨ZC "name",.fl zll,λk T hk=>?_⟩;obtain⟨k,rfl⟩:=aS k (by omega);simp[bC,ZC,tb,vl,n1,n2,n3,ln,hi]
   |true=>
    obtain⟨x,rfl⟩:∃x,v=.str x:=by cases v <;> first|exact⟨_,rfl⟩|cases hi
    obtain⟨b,hb,hbp⟩:∃b:Bool,w=(if b then "peek" else "want")/\(b=G3->p=G3):=by
     rcases hw with rfl|⟨rfl,hp⟩
     .exact⟨Gy,rfl,λz=>by cases z⟩
     .exact⟨G3,rfl,λ_=>hp⟩
    refine⟨Iu b x r,.ask hbp hi hg (VG n) hr,λk T hk=>?_⟩;obtain⟨k,rfl⟩:=aS k (by omega);simp[bC,Iu,tb,vl,n1,n2,n3,ln,hi,hb]
    cases b <;> simp
  .refine⟨ZC (OZ u),.fl (sC u hu),λk T hk=>?_⟩
   obtain⟨k,rfl⟩:=aS k (by omega);simp[bC,ZC,tb,fl,n1]
 |whn he hr hs yk xc=>
  rename_i g n e r s;intro G gs hG hl hv hn;obtain⟨R,t,hR⟩:=rZ hG hv (by rw[hl];exact Sd _) n e he;have tb:=λT=>hR 25 T (by omega)
  rcases t with⟨v,rfl,Kj⟩|⟨u,hu,rfl⟩
  .obtain⟨b,hb⟩:=wm Kj
   cases b with
   |true=>
    obtain⟨S,hS,hq⟩:=xc G gs hG hl hv (by omega);refine⟨S,hS.up (VG n),λk T hk=>?_⟩;obtain⟨k,rfl⟩:=aS k (by omega);have:=hq k T (by omega);simp[bC,tb,vl,hb,iO,kY,pX,m5,this]
   |false=>
    obtain⟨S,hS,hq⟩:=yk G gs hG hl hv (by omega);refine⟨S,hS.up (VG n),λk T hk=>?_⟩;obtain⟨k,rfl⟩:=aS k (by omega);have:=hq k T (by omega);simp[bC,tb,vl,hb,iO,kY,pX,m5,this]
  .refine⟨ZC (OZ u),.fl (sC u hu),λk T hk=>?_⟩
   obtain⟨k,rfl⟩:=aS k (by omega);simp[bC,ZC,tb,fl,iO,kY]
noncomputable def sR(h:Ex m n e):bj e=G3:=by
 induction h with
 |put hv=>simp[bj,bS,om hv]
 |got _ _=>simp[bj,bS]
 |row _ _ ih=>simp[bj,bS,ri ih]
 |many _ ih=>simp[bj,bS,ih]
 |pair _ _ _ Hs Jr=>simp[bj,bS,Hs,Jr]
noncomputable def zlm(h:Rg p g n r):bj r=G3:=by
 induction h with
 |fail _=>simp[bj,bS]
 |say he=>simp[bj,bS,sR he]
 |ask _ _ he _ ih=>simp[bj,bS,sR he,ih]
 |whn he _ _ uR yZ=>simp[bj,bS,sR he,uR,yZ]
noncomputable def wX(h:Zs p g n S):bj S=G3:=by
 cases h with
 |md hv=>simp[Z4,bj,bS,om hv]
 |fl _=>simp[ZC,bj,bS]
 |ask _ _ _ _ hr=>simp[Iu,bj,bS,zlm hr]
noncomputable def ZK(r:OY)(gs:List OY):PyData:=match bC 25 [.d r,.d (.list gs)] [] with
 |some (S,_)=>S
 |none=>.none
noncomputable def ot{p:Bool}{g n:Nat}{r:OY}{gs:List OY}(h:Rg p g n r)(hl:gs.length=g)(hv:∀v∈gs,au v=G3)(hn:n<=20):Zs p g n (ZK r gs)/\∀T,bC 25 [.d r,.d (.list gs)] T=KQ (ZK r gs,T):=by
 obtain⟨S,h1,h2⟩:=se n g r h _ gs (nZ gs) hl hv hn
 have e:ZK r gs=S:=by
  unfold ZK;rw[h2 25 [] (by lia)]
 rw[e];exact⟨h1,λT=>h2 25 T (by lia)⟩
noncomputable def cb:OY->Option (Bool×Str×OY)
 |.tuple [.str w,.str x,r]=>if w=OZ "want" then KQ (Gy,x,r) else if w=OZ "peek" then KQ (G3,x,r) else HA
 |_=>HA
@[simp] theorem iI:cb (Iu b x r)=KQ (b,x,r):=by cases b <;> simp[Iu,cb]
@[simp] theorem pC:cb (Z4 v)=HA:=by simp[Z4,cb]
@[simp] theorem ju:cb (ZC x)=HA :=rfl
abbrev PR:=List (Str×OY)
noncomputable def PL(l:PR):List PyData:=l.map λq=>.tuple [.str q.1,q.2]
noncomputable def dU(b:Bool)(x:Str):PyData:=.tuple [.str (OZ (if b then "peeks" else "wants")),.str x]
noncomputable def eN(rd pk:PR):Nat->Nat->Nat->List OY->OY->OY×Nat
 |0,i,_,_,_=>(.none,i)
 |f+1,i,j,gs,S=>match cb S with
  |none=>(S,i)
  |some (b,x,r)=>match (if b then pk[j]? else rd[i]?) with
   |none=>(dU b x,i)
   |some (y,v)=>if y=x then eN rd pk f (if b then i else i+1) (if b then j+1 else j) (gs++[v]) (ZK r (gs++[v])) else (dU b x,i)
noncomputable def Im:FT:=(aq (ae kO (ae Y8 (aa 6) (fC (.int 0))) (aa 3)))
noncomputable def G1:FS:=(ah (ax 7 (ae cD (aa 3) (ae Y8 (aa 6) (fC (.int 0))))) (ah (ax 8 (ae cD (aa 4) (ae Y8 (aa 6) (fC (.int 0))))) (ah (YT (bO (aq (ae CH (aa 8) (Zy aW (ab (aa 7) ag)))) (aq (ae Kg (ae Y8 (ae Y8 (aa 7) (aa 8)) (fC (.int 0))) (ae Y8 (aa 6) (fC (.int 1)))))) (aj (av .tuple (ab (av .tuple (ab (Zq (atS [("want","wants"),("peek","peeks")]) (ae Y8 (aa 6) (fC (.int 0)))) (ab (ae Y8 (aa 6) (fC (.int 1))) ag))) (ab (ae cD (aa 4) (fC (.str "want"))) ag)))) aw) (ah (cH 5 (ae Y8 (ae Y8 (aa 7) (aa 8)) (fC (.int 1)))) (ah (kP 4 (ae Y8 (aa 6) (fC (.int 0))) (ae aI (aa 8) (fC (.int 1)))) (ax 6 (dC (bC 25) (ab (ae Y8 (aa 6) (fC (.int 2))) (ab (aa 5) ag)))))))))
theorem zln:bL Im G1 (m+1) ρ T=YS (Im ρ T) λb T1=>if b=G3 then YS (G1 ρ T1) (jK (bL Im G1 m)) else KQ ((.nx,ρ),T1):=rfl
noncomputable def dW(a b:OY):PyData:=.dict [(.str "want",a),(.str "peek",b)]
noncomputable def Gw(r:OY)(rd pk:PR)(i j:Nat)(gs:List OY)(S:OY)(o7 o8:Option D.W):YR:=[KQ (.d r),KQ (.d (.list (PL rd))),KQ (.d (.list (PL pk))),KQ (.loc (dW (.list (PL rd)) (.list (PL pk)))),KQ (.loc (dW (.int (i:Int)) (.int (j:Int)))),KQ (.loc (.list gs)),KQ (.d S),o7,o8]
@[simp] theorem L9:kO (.str s) (dW a b)=KQ (.bool (decide (s=OZ "want")||decide (s=OZ "peek"))):=by unfold dW kO dr dr dr<;>grind
@[simp] theorem N7:cD (dW a b) (.str "want")=KQ a :=rfl
@[simp] theorem N9:cD (dW a b) (.str "peek")=KQ b :=rfl
theorem gz:Ko o T (.loc (dW a b)) (.d y)=Ew T (o (dW a b) y):=rfl
theorem k9:Ko o T (.d y) (.loc (dW a b))=Ew T (o y (dW a b)):=rfl
noncomputable def zi{r S:OY}{rd pk:PR}{i j:Nat}{gs:List OY}{o7 o8:Option D.W}{T:Tp}{w:String}{l:List OY}(hS:S=.tuple (.str (OZ w)::l))(h1:¬w="want")(h2:¬w="peek")(hl:l.length=1):Im (Gw r rd pk i j gs S o7 o8) T=KQ (Gy,T):=by
 subst hS;simp[Im,Gw,k9,h1,h2]
noncomputable def zlo:Im (Gw r rd pk i j gs (Iu b x r') o7 o8) T=KQ (G3,T):=by cases b <;> simp[Im,Gw,k9,Iu]
noncomputable def ku{l:PR}{i:Nat}{x:Str}{v:OY}(h:l[i]? = KQ (x,v)):Zd (PL l) (i:Int)=KQ (.tuple [.str x,v]):=by
 refine fq ?_
 unfold PL<;>simp_all
def fZ(l:PR):(PL l).length=l.length:=by simp[PL]
noncomputable def tW(ρ:YR)(a b:OY)(w k:D.W)(T:Tp):Option ((Fl×YR)×Tp):=match w,k with
 |.d x,.d (.str s)=>if (dr [(.str "want",a),(.str "peek",b)] s).isSome=G3/\([(QP "want",a),(.str "peek",b)]).length<=1000 then KQ ((.nx,ρ.set 4 (KQ (.loc (.dict (iG [(.str "want",a),(.str "peek",b)] s x))))),T) else HA
 |_,_=>HA
theorem og:kP 4 fk fv [a0,a1,a2,a3,KQ (.loc (dW a b)),a5,a6,a7,a8] T=YS (fv [a0,a1,a2,a3,KQ (.loc (dW a b)),a5,a6,a7,a8] T) λw T1=>YS (fk [a0,a1,a2,a3,KQ (.loc (dW a b)),a5,a6,a7,a8] T1) (tW [a0,a1,a2,a3,KQ (.loc (dW a b)),a5,a6,a7,a8] a b w):=rfl
theorem yo:tW ρ a b (.d x) (.d (.str "want")) T=KQ ((.nx,ρ.set 4 (KQ (.loc (dW x b)))),T) :=rfl
theorem yp:tW ρ a b (.d x) (.d (.str "peek")) T=KQ ((.nx,ρ.set 4 (KQ (.loc (dW a x)))),T) :=rfl
noncomputable def zlp{r:OY}{b:Bool}{x:Str}{r' v S':OY}{rd pk:PR}{i j:Nat}{gs:List OY}{o7 o8:Option D.W}{T:Tp}(hq:(if b then pk[j]? else rd[i]?)=KQ (x,v))(hg:gs.length<=12)
  (hS:∀T,dm (bC 25) [.d r',.loc (.list (gs++[v]))] T=KQ (.d S',T)):∃G2 Fs,G1 (Gw r rd pk i j gs (Iu b x r') o7 o8) T=KQ ((.nx,Gw r rd pk (if b then i else i+1) (if b then j+1 else j) (gs++[v]) S' G2 Fs),T):=by
 have hz:gs.length<sizeLine:=Qs hg (by decide)
 cases b with
 |false=>
  have ZP:=hq;have hi:=(Pa.mp ZP).1;have Ki:=ku ZP
  have nl:¬((rd.length:Int)<=(i:Int)):=by lia
  have ln:=fZ rd;refine⟨KQ (.d (.list (PL rd))),KQ (.d (.int (i:Int))),?_⟩;simp[G1,Gw,Iu,gz,ln,nl,Ki,hz,og,yo,hS]
 |true=>
  have ZP:=hq;have hi:=(Pa.mp ZP).1;have Ki:=ku ZP
  have nl:¬((pk.length:Int)<=(j:Int)):=by lia
  have ln:=fZ pk;refine⟨KQ (.d (.list (PL pk))),KQ (.d (.int (j:Int))),?_⟩;simp[G1,Gw,Iu,gz,ln,nl,Ki,hz,og,yp,hS]
theorem AQ:D.atS [("want","wants"),("peek","peeks")] (.str "want")=KQ (.str "wants") :=rfl
theorem AR:D.atS [("want","wants"),("peek","peeks")] (.str "peek")=KQ (.str "peeks") :=rfl
noncomputable def zlq{r:OY}{b:Bool}{x:Str}{r':OY}{rd pk:PR}{i j:Nat}{gs:List OY}{o7 o8:Option D.W}{T:Tp}(hq:∀v,(if b then pk[j]? else rd[i]?)≠KQ (x,v)):∃ρ',G1 (Gw r rd pk i j gs (Iu b x r') o7 o8) T=KQ ((.rt (.tuple [dU b x,.int (i:Int)]),ρ'),T):=by
 cases b with
 |false=>
  have ln:=fZ rd
  cases hg:rd[i]? with
  |none=>
   have nl:((rd.length:Int)<=(i:Int)):=by simp_all
   simp[G1,Gw,Iu,gz,k9,ln,nl,AQ,dU]
  |some q=>
   obtain⟨y,v⟩:=q;have hi:i<rd.length:=(Pa.mp hg).1
   have nl:¬((rd.length:Int)<=(i:Int)):=by lia
   have Ki:=ku hg;have hy:¬y=x:=λz=>hq v (by rw[←z];exact hg);simp[G1,Gw,Iu,gz,k9,ln,nl,Ki,hy,AQ,dU]
 |true=>
  have ln:=fZ pk
  cases hg:pk[j]? with
  |none=>
   have nl:((pk.length:Int)<=(j:Int)):=by
    have:=QO.mp hg
    lia
   simp[G1,Gw,Iu,gz,k9,ln,nl,AR,dU]
  |some q=>
   obtain⟨y,v⟩:=q;have hi:j<pk.length:=(Pa.mp hg).1
   have nl:¬((pk.length:Int)<=(j:Int)):=by lia
   have Ki:=ku hg;have hy:¬y=x:=λz=>hq v (by rw[←z];exact hg);simp[G1,Gw,Iu,gz,k9,ln,nl,Ki,hy,AR,dU]
noncomputable def fin:FS:=aj (av .tuple (ab (aa 6) (ab (ae cD (aa 4) (fC (.str "want"))) ag)))
theorem z4{r S:OY}{rd pk:PR}{i j:Nat}{gs:List OY}{o7 o8:Option D.W}{T:Tp}:du (fin (Gw r rd pk i j gs S o7 o8) T)=KQ (.tuple [S,.int (i:Int)],T) :=rfl
theorem l6:jK k (.rt x,ρ) T=KQ ((.rt x,ρ),T):=rfl
noncomputable def ti(h:cb S=HA):eN rd pk (f+1) i j gs S=(S,i):=by rw[eN,h]
noncomputable def yl(hS:cb S=KQ (b,x,r))(h:∀v,(if b then pk[j]? else rd[i]?)≠KQ (x,v)):eN rd pk (f+1) i j gs S=(dU b x,i):=by
 rw[eN,hS];dsimp only
 cases hq:(if b then pk[j]? else rd[i]?) with
 |none=>rfl
 |some q=>
  obtain⟨y,v⟩:=q;have hy:¬y=x:=λz=>h v (by rw[hq,z]);exact if_neg hy
noncomputable def Ax(hS:cb S=KQ (b,x,r))(h:(if b then pk[j]? else rd[i]?)=KQ (x,v)):eN rd pk (f+1) i j gs S=eN rd pk f (if b then i else i+1) (if b then j+1 else j) (gs++[v]) (ZK r (gs++[v])):=by rw[eN]<;>simp_all
def Iq(l:PR):Prop:=∀q∈l,au q.2=G3
noncomputable def wq{rd pk:PR}{b:Bool}{i j:Nat}{x:Str}{v:OY}(h1:Iq rd)(h2:Iq pk)(h:(if b then pk[j]? else rd[i]?)=KQ (x,v)):au v=G3:=by
 cases b with
 |true=>exact h2 _ (Px h)
 |false=>exact h1 _ (Px h)
noncomputable def qG(h:∀u∈gs,au u=G3)(hv:au v=G3):∀u∈gs++[v],au u=G3:=λu hu=>by
 rcases Pt.mp hu with z|z<;>simp_all
theorem yA(h1:Iq rd)(h2:Iq pk):∀(f m i j:Nat) (gs:List OY) (S:OY) (n:Nat) (o7 o8:Option D.W),Zs p gs.length n S->n<=20->(∀v∈gs,au v=G3)->gs.length<=12->13<=gs.length+f->f<=m ->
  du (YS (bL Im G1 m (Gw r rd pk i j gs S o7 o8) T) (gw fin))=KQ (.tuple [(eN rd pk f i j gs S).1,.int ((eN rd pk f i j gs S).2:Int)],T)
 |0,m,i,j,gs,S,n,o7,o8,_,_,_,hg,hf,_=>by omega
 |f+1,m,i,j,gs,S,n,o7,o8,hS,hn,hv,hg,hf,hm=>by
  obtain⟨m,rfl⟩:=aS m (by omega);rw[zln]
  cases hS with
  |md hx=>
   rename_i v;rw[zi (S:=Z4 v) (w:="made") (l:=[v]) rfl (by decide) (by decide) rfl,bv,if_neg (by decide),bv,kg,z4,ti pC]
  |fl hx=>
   rename_i x;rw[zi (S:=ZC x) (w:="fails") (l:=[.str x]) rfl (by decide) (by decide) rfl,bv,if_neg (by decide),bv,kg,z4,ti ju]
  |ask hb hx Da Kw hr=>
   rename_i b x r' n';rw[zlo,bv,if_pos rfl]
   by_cases hq:∃v,(if b then pk[j]? else rd[i]?)=KQ (x,v)
   .obtain⟨v,hq⟩:=hq
    have Kj:=qG hv (wq h1 h2 hq);obtain⟨s1,s2⟩:=ot hr (gs:=gs++[v]) (by simp) Kj (by omega);have cf:∀T,dm (bC 25) [.d r',.loc (.list (gs++[v]))] T=KQ (.d (ZK r' (gs++[v])),T):=λT=>j0 rfl (s2 []) (wX s1);obtain⟨G2,Fs,e⟩:=zlp (r:=r) (o7:=o7) (o8:=o8) (T:=T) hq hg cf;rw[e,bv,ke,Ax iI hq]
    have hl:(gs++[v]).length=gs.length+1:=by simp
    exact yA h1 h2 f m _ _ (gs++[v]) _ n' G2 Fs (by rw[hl];exact s1) (by omega) Kj (by rw[hl];omega) (by rw[hl];omega) (by omega)
   .have ZP:=λv z=>hq ⟨v,z⟩
    obtain⟨ρ',e⟩:=zlq (r:=r) (r':=r') (gs:=gs) (o7:=o7) (o8:=o8) (T:=T) ZP;rw[e,bv,l6,bv,ma,mi,yl iI ZP]
theorem zlr:nH=aJ 9 (ah (eX 3 "want" "peek" (aa 1) (aa 2)) (ah (eX 4 "want" "peek" (fC (.int 0)) (fC (.int 0))) (ah (cO 5 ag) (ah (ax 6 (dC (bC 25) (ab (aa 0) (ab (aa 5) ag)))) (ah (bL Im G1 100000) fin))))):=rfl
noncomputable def xM(h1:f ρ T=KQ (.d x,T))(h2:g ρ T=KQ (.d y,T)):eX i "want" "peek" f g ρ T=KQ ((.nx,ρ.set i (KQ (.loc (dW x y)))),T):=by
 unfold eX;rw[h1,bv,h2,bv];exact if_neg (by decide +kernel)
noncomputable def iP(rd pk:PR)(r:OY):OY×Nat:=eN rd pk 13 0 0 [] (ZK r [])
noncomputable def zls(T:Tp)(hr:Rg p 0 20 r)(h1:Iq rd)(h2:Iq pk):nH [.d r,.d (.list (PL rd)),.d (.list (PL pk))] T=KQ (.tuple [(iP rd pk r).1,.int ((iP rd pk r).2:Int)],T):=by
 obtain⟨s1,s2⟩:=ot hr (gs:=[]) rfl (λv hv=>by cases hv) (Pk _);have cf:∀T,dm _ [.d r,.loc _] T=KQ _:=λT=>j0 rfl (s2 []) (wX s1);have lp:=yA (r:=r) (T:=T) h1 h2 13 100000 0 0 [] _ 20 HA HA s1 (Pk _) (λv hv=>by cases hv) (by simp) (by simp) (by simp);rw[zlr,pN];have a1:eX 3 _ _ (aa 1) (aa 2) [KQ (.d r),KQ _,KQ _,HA,HA,HA,HA,HA,HA] T=KQ ((.nx,[KQ _,KQ (.d (.list (PL rd))),KQ (.d (.list (PL pk))),KQ _,HA,HA,HA,HA,HA]),T):=xM rfl rfl;have a2:eX 4 _ _ (fC (.int 0)) (fC (.int 0)) [KQ _,KQ _,KQ (.d (.list (PL pk))),KQ _,HA,HA,HA,HA,HA] T=KQ ((.nx,[KQ (.d r),KQ (.d (.list (PL rd))),KQ _,KQ (.loc (dW (.list (PL rd)) (.list (PL pk)))),KQ _,HA,HA,HA,HA]),T):=xM rfl rfl;rw[tJ];show du (YS (eX 3 _ _ _ _ [KQ _,KQ _,KQ _,HA,HA,HA,HA,HA,HA] T) _)=_;rw[a1,bv,kg,tJ,a2,bv,kg]
 have a3:(ah (cO 5 ag) (ah (ax 6 (dC (bC 25) (ab (aa 0) (ab (aa 5) ag)))) (ah (bL Im G1 100000) fin))) [KQ (.d r),KQ (.d (.list (PL rd))),KQ (.d (.list (PL pk))),KQ (.loc (dW (.list (PL rd)) (.list (PL pk)))),KQ (.loc (dW (.int 0) (.int 0))),HA,HA,HA,HA] T=YS (bL Im G1 100000 (Gw r rd pk 0 0 [] (ZK r []) HA HA) T) (gw fin):=by
  simp[cf];rfl
 rw[a3];exact lp
noncomputable def qa(rd pk:PR)(r:OY):PyData:=if (iP rd pk r).2<rd.length then .tuple [.str "strays",.int ((iP rd pk r).2:Int)] else (iP rd pk r).1
noncomputable def zlt(T:Tp)(hr:Rg p 0 20 r)(h1:Iq rd)(h2:Iq pk):j3 [.d r,.d (.list (PL rd)),.d (.list (PL pk))] T=KQ (qa rd pk r,T):=by
 have e:=zls T hr h1 h2;have ln:=fZ rd;unfold qa
 by_cases c:(iP rd pk r).2<rd.length
 .have c':=by omega
  simp[j3,e,ln,c']
 .have c':=by omega
  simp[j3,e,ln,c']
def cZ(A T:Tp):Prop:=∃cs:List Int,T=A++[il cs]/\cs.length<=1000
noncomputable def zlu(cs:List Int):Cz (il cs)=Gy:=by cases cs <;> rfl
theorem zlv:ub f ρ T=YS (f ρ T) mN:=rfl
noncomputable def zlw{α:Type}(A:List α)(a b:α):(A++[a]).set A.length b=A++[b] :=by simp
noncomputable def zlx(h:cs.length<1000):mN (.tp A.length) (A++[il (c::cs)])=KQ (.d (.int c),A++[il cs]):=by
 have e:(A++[il (c::cs)])[A.length]? = KQ (.int c::il cs):=by simp[il]
 have n:¬(Cz (.int c::il cs)=G3\/1000<=(il cs).length):=by
  rintro(z|z)
  .cases z
  .rw[f9] at z;lia
 unfold mN;dsimp only;rw[e];dsimp only;rw[if_neg n,zlw]
noncomputable def zly:view (A++[il cs]) (.tp A.length)=KQ (.list (il cs)):=by simp[zlu]
noncomputable def jv(t:cZ A T):∃r T',dA [.tp A.length] T=KQ (.int r,T')/\cZ A T':=by
 obtain⟨cs,rfl,hl⟩:=t
 have vw:∀cs ,views _ [.tp A.length]=KQ [.list (il cs)]:=λcs=>by
  unfold views;rw[zly];rfl
 cases cs with
 |nil=>
  refine⟨0,_,?_,[],rfl,by simp⟩;simp[dA,vw,f9]
 |cons c cs=>
  simp_all
  have Er:cs.length<1000:=by lia
  refine⟨c,_,?_,cs,rfl,by lia⟩;have p:=zlx (A:=A) (c:=c) Er;simp[dA,vw,f9,zlv,p]
noncomputable def Zp(ps:List Str):List PyData:=ps.map QP
structure KM(l:List Str):Prop where
 n0:0<l.length
 n1:l.length<=12
 nm:∀x∈l,isName (.str x)=G3
noncomputable def F8:List PyData:=[.int 0,.int 1,.int 2,.int (-1),.int 1000000000000000000,.str "",.str "a",.str "b-1",.tuple [],.tuple [.int 0],.tuple [.int 1,.str "a"],.tuple [.tuple [],.int 3]]
noncomputable def zlz:∀d∈F8,au d=G3:=by
 have h:F8.all au=G3:=rfl;exact λd hd=>Po.mp h d hd
noncomputable def name_val(h:isName (.str x)=G3):au (.str x)=G3:=by
 have:=qr h;show (az 4 (.str x)&&decide (aD 4 (.str x)<=40))=G3;obtain⟨a,b⟩:=fQ (n:=4) this;rw[a,b];rfl
noncomputable def P7:PyData:=.tuple [.int 7,.int 7]
noncomputable def P8:PyData:=.tuple [.int 8,.int 8]
def NV(v:OY):Prop:=v≠P7/\v≠P8
def NE(e:OY):Prop:=∀v,e=.tuple [.str "put",v]->NV v
def NR(r:OY):Prop:=∀e,r=.tuple [.str "say",e]->NE e
noncomputable def zma:∀d∈F8,NV d:=λd hd=>by
 unfold F8 at hd;simp only[Pr,RE,or_false] at hd
 rcases hd with rfl|rfl|rfl|rfl|rfl|rfl|rfl|rfl|rfl|rfl|rfl|rfl <;> constructor <;> simp[P7,P8]
noncomputable def zmb(h:NV v):NE (.tuple [.str "put",v]):=λu e=>by
 cases e;exact h
noncomputable def ul(h:OZ w≠OZ "put"):NE (.tuple (.str (OZ w)::ds)):=λu e=>by
 injection e with e
 injection e with e1 e2
 injection e1 with e1
 exact absurd e1 h
section
variable {l:List Str}{A T:Tp}
noncomputable def zmc(hl:KM l){r:Int}(h0:0<=r)(h1:r<(l.length:Int)):∃x,Zd (Zp l) r=KQ (.str x)/\isName (.str x)=G3:=by
 obtain⟨d,e,hm⟩:=gT (xs:=Zp l) h0 (by simpa[Zp] using h1);obtain⟨x,hx,rfl⟩:=PD.mp hm;exact⟨x,e,hl.nm x hx⟩
noncomputable def x8(hl:KM l)(t:cZ A T):∃v T',i8 [.tp A.length,.d (.list (Zp l))] T=KQ (v,T')/\cZ A T'/\au v=G3/\NV v:=by
 obtain⟨r,T1,e1,t1⟩:=jv t;have n1:=hl.n1;have ml:F8.length=12:=rfl
 have ln:(Zp l).length=l.length:=by simp[Zp]
 have hp:0<(((F8++Zp l).length:Nat):Int):=by rw[Qb,ml];omega
 obtain⟨d,e2,hm⟩:=gT (xs:=F8++Zp l) (i:=r % (((F8++Zp l).length:Nat):Int)) (Qu _ (by omega)) (Qe _ hp);refine⟨d,T1,?_,t1,?_⟩
 .have z:F8.length+(Zp l).length<=sizeLine:=by
   have zz:Ph=16777216:=rfl;rw[ml,ln];omega
  have am:aI (.list F8) (.list (Zp l))=KQ (.list (F8++Zp l)):=by rw[sF,if_pos z]
  unfold F8 at am;have ng:jH (.int 1)=KQ (.int (-1)):=rfl;generalize hX:F8++Zp l=X at *;unfold F8 at hX;rw[hX] at am
  have hX0:¬X=[]:=λz=>by rw[z] at hp;simp at hp
  simp[i8,ng,am,e1,hX0,e2,-sF]
 .rcases Pt.mp hm with z|z
  .exact⟨zlz d z,zma d z⟩
  .obtain⟨x,hx,rfl⟩:=PD.mp z
   exact⟨name_val (hl.nm x hx),by constructor <;> simp[P7,P8]⟩
def EX.up(h:EX C m n c ws e)(l:n<=k):EX C m k c ws e:=⟨by have:=h.n1;lia,h.c1,h.c6,h.ln,h.ne,h.ok,λj T hj=>h.pw j T (by lia),λj a hj ha=>h.rd j a (by lia) (by lia),gI h.bt (by lia)⟩
def RX.up(h:RX C g n c ws r)(l:n<=k):RX C g k c ws r:=⟨by have:=h.n1;omega,h.c1,h.c6,h.ln,h.ne,h.ok,λj T hj=>h.pw j T (by omega),λj a hj ha=>h.rd j a (by lia) (by omega),gI h.bt (by lia)⟩
def EB(C:Addr)(g n:Nat)(q:Int)(e:OY):Prop:=EW C (g:Int) n q e/\Ex (g:Int) n e
noncomputable def kU(h:Ex m n e):∀k,n<=k->Ex m k e:=by
 induction h with
 |put hv=>exact λk _=>.put hv
 |got h0 h1=>exact λk _=>.got h0 h1
 |row h8 _ ih=>
  intro k hk;obtain⟨k,rfl⟩:=aS k (by omega);exact .row h8 λe he=>ih e he k (by omega)
 |many _ ih=>
  intro k hk;obtain⟨k,rfl⟩:=aS k (by omega);exact .many (ih k (by omega))
 |pair hw _ _ ia ib=>
  intro k hk;obtain⟨k,rfl⟩:=aS k (by omega);exact .pair hw (ia k (by omega)) (ib k (by omega))
theorem EB.up(h:EB C g n q e)(l:n<=k)(l':q<=q'):EB C g k q' e:=by
 obtain⟨⟨c,ws,x,y⟩,z⟩:=h;exact⟨⟨c,ws,x.up l,by lia⟩,kU z k l⟩
theorem EB.put(h:au v=G3):EB C g 1 1 (.tuple [.str "put",v]):=⟨⟨1,_,An (by decide) h,by decide⟩,.put h⟩
theorem EB.got{C:Addr}{g j:Nat}(hg:g<=12)(h:j<g):EB C g 1 1 (.tuple [.str "got",.int (j:Int)]):=⟨⟨1,_,zjv (by decide) hg h,by decide⟩,.got (by lia) (by lia)⟩
noncomputable def zd{C:Addr}{g:Nat}(hl:KM l)(hg:g<=12)(t:cZ A T):∃e T',ja [.tp A.length,.d (.list (Zp l)),.d (.int (g:Int))] T=KQ (e,T')/\cZ A T'/\EB C g 1 1 e/\NE e:=by
 have pt:∀T,cZ A T->∃v T',i8 [.tp A.length,.d (.list (Zp l))] T=KQ (v,T')/\cZ A T'/\EB C g 1 1 (.tuple [.str "put",v])/\NE (.tuple [.str "put",v]):=λT t=>by
  obtain⟨v,T',e,t',hv,nv⟩:=x8 hl t;exact⟨v,T',e,t',.put hv,zmb nv⟩
 by_cases h0:0<(g:Int)
 .have II:0<g:=by omega
  obtain⟨r,T1,e1,t1⟩:=jv t
  by_cases h1:0<r % 3
  .obtain⟨s,T2,e2,t2⟩:=jv t1
   have s0:0<=s % (g:Int):=Qu _ (by omega);have s1:s % (g:Int)<(g:Int):=Qe _ h0;obtain⟨j,hj⟩:∃j:Nat,s % (g:Int)=(j:Int):=⟨(s % (g:Int)).toNat,by omega⟩;refine⟨_,T2,?_,t2,EB.got (j:=j) hg (by omega),ul (by decide +kernel)⟩;simp[ja,II,e1,h1,e2,hj]
  .obtain⟨v,T2,e2,t2,b⟩:=pt T1 t1
   refine⟨_,T2,?_,t2,b⟩;simp[ja,II,e1,h1,e2]
 .obtain⟨v,T2,e2,t2,b⟩:=pt T t
  refine⟨_,T2,?_,t2,b⟩
  have II:¬0<g:=by omega
  simp[ja,II,e2]
theorem EB.many(h:EB C g 1 1 e):EB C g 2 3 (.tuple [.str "many",e]):=⟨zkb h.1 (by simp) (by simp),.many h.2⟩
theorem EB.pair(hw:w∈Hh)(ha:EB C g 1 1 a)(hb:EB C g 1 1 b):EB C g 2 3 (.tuple [.str (OZ w),a,b]):=⟨zkc hw ha.1 hb.1 (by simp) (by simp),.pair hw ha.2 hb.2⟩
def EB.row2(ha:EB C g 1 1 a)(hb:EB C g 1 1 b):EB C g 2 3 (.tuple [.str "row",.tuple [a,b]]):=by
 have h:∀d∈[a,b],EB C g 1 1 d:=λd hd=>by
  simp at hd
  rcases hd with rfl|rfl <;> assumption
 exact⟨zka (by simp) (λd hd=>(h d hd).1) (by simp) (by simp),.row (by simp) λd hd=>(h d hd).2⟩
noncomputable def yq:List String:=["part","sum","join","same","less","sum"]
noncomputable def zmd{C:Addr}{g:Nat}(hl:KM l)(hg:g<=12)(t:cZ A T):∃e T',eG [.tp A.length,.d (.list (Zp l)),.d (.int (g:Int))] T=KQ (e,T')/\cZ A T'/\EB C g 2 3 e/\NE e:=by
 obtain⟨r,T1,e1,t1⟩:=jv t;obtain⟨a,T2,e2,t2,ba,na⟩:=zd (C:=C) hl hg t1;have m0:0<=r % 12:=Qu _ (by decide);have m1:r % 12<12:=Qe _ (by decide);generalize hk:r % 12=k at m0 m1
 by_cases c4:k<4
 .exact⟨a,T2,by simp[eG,e1,hk,e2,c4],t2,ba.up (by decide) (by decide),na⟩
 .by_cases c5:k=4
  .exact⟨_,T2,by simp[eG,e1,hk,e2,c5],t2,ba.many,ul (by decide +kernel)⟩
  .by_cases c6:k=5
   .exact⟨_,T2,by simp[eG,e1,hk,e2,c6],t2,ba.row2 (EB.put (v:=.int 1) (by decide +kernel)),ul (by decide +kernel)⟩
   .obtain⟨b,T3,e3,t3,bb,_⟩:=zd (C:=C) hl hg t2
    obtain⟨d,ed,hd⟩:=gT (xs:=yq.map λw=>QP (OZ w)) (i:=k-6) (by omega) (show k-6<6 by omega);obtain⟨w,hw,rfl⟩:=PD.mp hd
    have hw':w∈Hh:=by
     revert hw
     have:∀w∈yq,w∈Hh:=by decide +kernel
     exact this w
    refine⟨_,T3,?_,t3,ba.pair hw' bb,λv z=>by simp at z⟩;unfold yq at ed;simp at ed;simp[eG,e1,hk,e2,c4,c5,c6,ed,e3]
end
noncomputable def FY:FS:=(YT (cX (aq (ae HD (aa 2) (fC (.int 0)))) (aq (ae Z5 (aa 5) (fC (.int 4))))) (ax 8 (ar eG (ab (aa 0) (ab (aa 1) (ab (aa 2) ag))))) aw)
theorem Az(n:Nat):dM (n+1)=aJ 10 (ah (ax 5 (ae bF (ar dA (ab (aa 0) ag)) (fC (.int 12)))) (ah (YT (bO (aq (ae Z5 (aa 3) (fC (.int 0)))) (aq (ae Fv (aa 5) (fC (.int 2))))) (ah (YT (cX (aq (ae Z5 (aa 5) (fC (.int 1)))) (aq (ae Z5 (ae bF (ar dA (ab (aa 0) ag)) (fC (.int 2))) (fC (.int 0))))) (aj (av .tuple (ab (fC (.str "fail")) (ab (ae Y8 (aa 1) (ae bF (ar dA (ab (aa 0) ag)) (Zy aW (ab (aa 1) ag)))) ag)))) aw) (aj (av .tuple (ab (fC (.str "say")) (ab (ar eG (ab (aa 0) (ab (aa 1) (ab (aa 2) ag)))) ag))))) aw) (ah (YT (aq (ae Fv (aa 5) (fC (.int 4)))) (ah (ax 6 (ar eG (ab (aa 0) (ab (aa 1) (ab (aa 2) ag))))) (ah (ax 7 (ar (dM n) (ab (aa 0) (ab (aa 1) (ab (aa 2) (ab (ae dw (aa 3) (fC (.int 1))) (ab (aa 4) ag))))))) (aj (av .tuple (ab (fC (.str "when")) (ab (aa 6) (ab (aa 7) (ab (ar (dM n) (ab (aa 0) (ab (aa 1) (ab (aa 2) (ab (ae dw (aa 3) (fC (.int 1))) (ab (aa 4) ag)))))) ag)))))))) aw) (ah (ax 8 (av .tuple (ab (fC (.str "put")) (ab (ae Y8 (aa 1) (ae bF (ar dA (ab (aa 0) ag)) (Zy aW (ab (aa 1) ag)))) ag)))) (ah FY (ah (ax 9 (fC (.str "want"))) (ah (YT (cX (aP (aa 4)) (aq (ae Z5 (aa 5) (fC (.int 5))))) (ax 9 (fC (.str "peek"))) aw) (aj (av .tuple (ab (aa 9) (ab (aa 8) (ab (ar (dM n) (ab (aa 0) (ab (aa 1) (ab (ae aI (aa 2) (fC (.int 1))) (ab (ae dw (aa 3) (fC (.int 1))) (ab (aa 4) ag)))))) ag)))))))))))):=rfl
def RB(C:Addr)(p:Bool)(g n:Nat)(q:Int)(r:OY):Prop:=RW C g n q r/\Rg p g n r
noncomputable def rq:Nat->Int
 |0=>4
 |n+1=>4+rq n+rq n
def tU:∀d,d<=3->rq d<=60/\4<=rq d:=by decide
section
variable {C:Addr}{p:Bool}{g n:Nat}{l:List Str}{A:Tp}
noncomputable def tV(h:Rg p g n r):∀k,n<=k->Rg p g k r:=by
 induction h with
 |fail hx=>exact λk _=>.fail hx
 |say he=>
  intro k hk;obtain⟨k,rfl⟩:=aS k (by omega);exact .say (kU he k (by omega))
 |ask hw hg he _ ih=>
  intro k hk;obtain⟨k,rfl⟩:=aS k (by omega);exact .ask hw hg (kU he k (by omega)) (ih k (by omega))
 |whn he _ _ i1 i2=>
  intro k hk;obtain⟨k,rfl⟩:=aS k (by omega);exact .whn (kU he k (by omega)) (i1 k (by omega)) (i2 k (by omega))
theorem RB.up(h:RB C p g n q r)(l:n<=k)(l':q<=q'):RB C p g k q' r:=by
 obtain⟨⟨c,ws,x,y⟩,z⟩:=h;exact⟨⟨c,ws,x.up l,by lia⟩,tV z k l⟩
theorem RB.fail(hg:g<=12)(h:isName (.str x)=G3):RB C p g 3 4 (.tuple [.str "fail",.str x]):=⟨⟨1,_,zkg (by decide) hg h,by decide⟩,.fail h⟩
theorem RB.say(h:EB C g 2 3 e):RB C p g 3 4 (.tuple [.str "say",e]):=⟨zkh (by decide) h.1 (by simp) (by simp),.say h.2⟩
theorem RB.ask{w:String}{e r:OY}{q:Int}(hw:w="want"\/(w="peek"/\p=G3))(hn:n<=11)(EZ:2<=n)(hg:g<12)(he:EB C g 2 3 e)(hr:RB C p (g+1) n q r)(hq0:0<=q)(hq:4+q<=60):RB C p g (n+1) (4+q) (.tuple [.str (OZ w),e,r]):=by
 obtain⟨⟨c,ws,x,y⟩,z⟩:=he;exact⟨zki (by lia) (hw.imp id And.left) hg (x.up EZ) hr.1 (by lia) (by lia),.ask hw hg (kU z n EZ) hr.2⟩
theorem RB.whn(hn:n<=11)(EZ:2<=n)(he:EB C g 2 3 e)(hr:RB C p g n q r)(hs:RB C p g n q s)(hq0:0<=q)(hq:4+q+q<=60):RB C p g (n+1) (4+q+q) (.tuple [.str "when",e,r,s]):=by
 obtain⟨⟨c,ws,x,y⟩,z⟩:=he;exact⟨zkj (by lia) (x.up EZ) hr.1 hs.1 (by lia) (by lia),.whn (kU z n EZ) hr.2 hs.2⟩
noncomputable def zM(h:NE e):NR (.tuple [.str "say",e]):=λu z=>by
 cases z;exact h
noncomputable def qd(h:OZ w≠OZ "say"):NR (.tuple (.str (OZ w)::ds)):=λu e=>by
 injection e with e
 injection e with e1 e2
 injection e1 with e1
 exact absurd e1 h
theorem nU(hl:KM l):∀(d k g:Nat) (T:Tp),cZ A T->d<k->d<=3->g+d<=12->∃r T',dM k [.tp A.length,.d (.list (Zp l)),.d (.int (g:Int)),.d (.int (d:Int)),.d (.bool p)] T=KQ (r,T')/\cZ A T'/\RB C p g (3+d) (rq d) r/\NR r
 |d,0,g,T,_,h,_,_=>absurd h (Re _)
 |d,k+1,g,T,t,hk,hd3,hgd=>by
  have hg:g<=12:=by omega
  have q4:=(tU d hd3).2;obtain⟨r,T1,e1,t1⟩:=jv t;have m0:0<=r % 12:=Qu _ (by decide);have m1:r % 12<12:=Qe _ (by decide);generalize hw:r % 12=w at m0 m1
  have wR:(Zp l).length=l.length:=by simp[Zp]
  have lp:0<(l.length:Int):=by have:=hl.n0;omega
  have wO:=hl.n0
  have nam:∀T,cZ A T->∃s T' x,dA [.tp A.length] T=KQ (.int s,T')/\cZ A T'/\Zd (Zp l) (s % (l.length:Int))=KQ (.str x)/\isName (.str x)=G3:=λT t=>by
   obtain⟨s,T',e,t'⟩:=jv t;obtain⟨x,e2,hx⟩:=zmc hl (r:=s % (l.length:Int)) (Qu _ (by omega)) (Qe _ lp);exact⟨s,T',x,e,t',e2,hx⟩
  have say:∀T,cZ A T->∃e T',eG [.tp A.length,.d (.list (Zp l)),.d (.int (g:Int))] T=KQ (e,T')/\cZ A T'/\EB C g 2 3 e/\NE e:=λT t=>zmd hl hg t
  by_cases c1:d=0\/w<2
  .have c1':(decide ((d:Int)=0)||decide (w<2))=G3:=by
    rcases c1 with h|h
    .simp[h]
    .simp[h]
   by_cases c2:w=1
   .obtain⟨s,T2,e2,t2⟩:=jv t1
    by_cases c3:s % 2=0
    .obtain⟨s3,T3,x,e3,t3,e4,hx⟩:=nam T2 t2
     refine⟨_,T3,?_,t3,(RB.fail hg hx).up (by omega) q4,qd (by decide +kernel)⟩;simp[dM,e1,hw,c2,e2,c3,e3,wR,wO,e4]
    .obtain⟨e,T3,e3,t3,be⟩:=say T2 t2
     refine⟨_,T3,?_,t3,(RB.say be.1).up (by omega) q4,zM be.2⟩;simp[dM,e1,hw,c2,e2,c3,e3]
   .obtain⟨e,T3,e3,t3,be⟩:=say T1 t1
    refine⟨_,T3,?_,t3,(RB.say be.1).up (by omega) q4,zM be.2⟩
    rcases c1 with h|h
    .subst h
     simp[dM,e1,hw,c2,e3]
    .simp[dM,e1,hw,c2,h,e3]
  .obtain⟨c1a,c1b⟩:=not_or.mp c1
   obtain⟨d,rfl⟩:=aS d (by omega)
   have dz:¬((d:Int)+1=0):=by omega
   have ds:(d:Int)+1-1=(d:Int):=by omega
   have qs:=tU d (by omega);have qq:rq (d+1)=4+rq d+rq d:=rfl;have q60:=(tU (d+1) hd3).1
   by_cases c4:w<4
   .obtain⟨e,T2,e2,t2,be⟩:=say T1 t1
    obtain⟨r1,T3,e3,t3,b1⟩:=nU hl d k g T2 t2 (by omega) (by omega) (by omega);obtain⟨r2,T4,e4,t4,b2⟩:=nU hl d k g T3 t3 (by omega) (by omega) (by omega);have b:=RB.whn (by omega) (by omega) be.1 b1.1 b2.1 (by omega) (by omega);refine⟨_,T4,?_,t4,b.up (by omega) (by omega),qd (by decide +kernel)⟩;simp[dM,e1,hw,c1b,dz,c4,e2,ds,e3,e4]
   .obtain⟨s3,T2,x,e2,t2,e3,hx⟩:=nam T1 t1
    have wh:∃e T3,EB C g 2 3 e/\cZ A T3/\FY [KQ (.tp A.length),KQ (.d (.list (Zp l))),KQ (.d (.int (g:Int))),KQ (.d (.int ((d:Int)+1))),KQ (.d (.bool p)),KQ (.d (.int w)),HA,HA,KQ (.d (.tuple [.str "put",.str x])),HA] T2=KQ ((.nx,[KQ (.tp A.length),KQ (.d (.list (Zp l))),KQ (.d (.int (g:Int))),KQ (.d (.int ((d:Int)+1))),KQ (.d (.bool p)),KQ (.d (.int w)),HA,HA,KQ (.d e),HA]),T3):=by
     by_cases g0:0<g
     .by_cases c5:w=4
      .obtain⟨e,T3,e4,t3,be⟩:=say T2 t2
       exact⟨e,T3,be.1,t3,by simp[FY,g0,c5,e4]⟩
      .exact⟨_,T2,(EB.put (name_val hx)).up (by decide) (by decide),t2,by simp[FY,g0,c5]⟩
     .exact⟨_,T2,(EB.put (name_val hx)).up (by decide) (by decide),t2,by simp[FY,g0]⟩
    obtain⟨e,T3,be,t3,ew⟩:=wh;obtain⟨r1,T4,e5,t4,b1⟩:=nU hl d k (g+1) T3 t3 (by omega) (by omega) (by omega)
    have gi:((g+1:Nat):Int)=(g:Int)+1:=by omega
    rw[gi] at e5
    by_cases c6:p=G3/\w=5
    .obtain⟨hp,w5⟩:=c6
     have b:=RB.ask (w:="peek") (.inr ⟨rfl,hp⟩) (by omega) (by omega) (by omega) be b1.1 (by omega) (by omega);refine⟨_,T4,?_,t4,b.up (by omega) (by omega),qd (by decide +kernel)⟩;subst hp w5;rw[Az];simp[e1,hw,dz,e2,wR,wO,e3];rw[ew];simp[ds,e5]
    .have b:=RB.ask (w:="want") (p:=p) (.inl rfl) (by omega) (by omega) (by omega) be b1.1 (by omega) (by omega)
     refine⟨_,T4,?_,t4,b.up (by omega) (by omega),qd (by decide +kernel)⟩
     have c6':(if p=G3 then KQ (decide (w=5),T3) else KQ (Gy,T3))=KQ (Gy,T3):=by
      cases p with
      |false=>rfl
      |true=>
       have:¬w=5:=λz=>c6 ⟨rfl,z⟩;simp[this]
     rw[Az];simp[e1,hw,c1b,dz,c4,e2,wR,wO,e3];rw[ew];simp[ds,e5,c6']
end
@[simp] theorem Ov:Ko o T (.loc (.list ys)) (.d y)=Ew T (o (.list ys) y):=rfl
noncomputable def jq:FS:=(ah (YT (aq (ae Z5 (ae Y8 (aa 0) (fC (.int 0))) (fC (.str "row")))) (ah (YT (aP (ar eg (ab (Zy dS (ab (aa 3) ag)) ag))) (aj (av .tuple (ab (fC (.str "fails")) (ab (fC (.str "great")) ag)))) aw) (aj (av .tuple (ab (fC (.str "value")) (ab (Zy dS (ab (aa 3) ag)) ag))))) aw) (ah (YT (aq (ae Z5 (ae Y8 (aa 0) (fC (.int 0))) (fC (.str "many")))) (ah (YT (aP (Zq (bu .int) (ae Y8 (aa 3) (fC (.int 0))))) (aj (av .tuple (ab (fC (.str "fails")) (ab (fC (.str "kind")) ag)))) aw) (aj (av .tuple (ab (fC (.str "value")) (ab (Zy aW (ab (ae Y8 (aa 3) (fC (.int 0))) ag)) ag))))) aw) (aj (ar bG (ab (ae Y8 (aa 0) (fC (.int 0))) (ab (ae Y8 (aa 3) (fC (.int 0))) (ab (ae Y8 (aa 3) (fC (.int 1))) ag)))))))
theorem uZ(n:Nat):cp (n+1)=aJ 6 (ah (YT (aq (ae Z5 (ae Y8 (aa 0) (fC (.int 0))) (fC (.str "put")))) (aj (av .tuple (ab (fC (.str "value")) (ab (ae Y8 (aa 0) (fC (.int 1))) ag)))) aw) (ah (YT (aq (ae Z5 (ae Y8 (aa 0) (fC (.int 0))) (fC (.str "got")))) (aj (av .tuple (ab (fC (.str "value")) (ab (ae Y8 (aa 1) (ae Y8 (aa 0) (fC (.int 1)))) ag)))) aw) (ah (ax 2 (GF (aa 0) (fP (fC (.int 1))) fM)) (ah (YT (aq (ae Z5 (ae Y8 (aa 0) (fC (.int 0))) (fC (.str "row")))) (ax 2 (ae Y8 (aa 0) (fC (.int 1)))) aw) (ah (cO 3 ag) (ah (cG 4 (bE (aa 2)) (fT n)) jq)))))):=rfl
theorem tZ{M:Nat}{T:Tp}{e0 G P:OY}{f:OY->OY}:∀(es:List OY) (acc:List OY) (o3 o4:Option D.W),(∀e∈es,cC (f e)/\cp M [.d e,.d G] T=KQ (f e,T))->acc.length+es.length<=1000 ->
  match (es.map f).filter D6 with
  |R::_=>∃ρ',forL 4 (fT M) es [KQ (.d e0),KQ (.d G),KQ (.d P),KQ (.loc (.list acc)),o3,o4] T=KQ ((.rt R,ρ'),T)
  |[]=>∃Ie Dm,forL 4 (fT M) es [KQ (.d e0),KQ (.d G),KQ (.d P),KQ (.loc (.list acc)),o3,o4] T=KQ ((.nx,[KQ (.d e0),KQ (.d G),KQ (.d P),KQ (.loc (.list (acc++es.map λe=>ZW (f e)))),(Ie:Option D.W),Dm]),T)
 |[],acc,o3,o4,_,_=>⟨o3,o4,by simp[forL]⟩
 |e::es,acc,o3,o4,h,hl=>by
  obtain⟨t,ht⟩:=h e Pf;have Er:acc.length<sizeLine:=PQ (by simp at hl;omega:acc.length<1000) (by decide);have go:forL 4 (fT M) (e::es) [KQ (.d e0),KQ (.d G),KQ (.d P),KQ (.loc (.list acc)),o3,o4] T=YS (fT M [KQ (.d e0),KQ (.d G),KQ (.d P),KQ (.loc (.list acc)),KQ (.d e),o4] T) (jK (forL 4 (fT M) es)):=rfl;rw[go]
  rcases nJ t with⟨hf,w,_,hw⟩|⟨hf,hv,_⟩
  .rw[P2,Ti,if_pos hf]
   rw[hw] at ht
   have hb:fT M [KQ (.d e0),KQ (.d G),KQ (.d P),KQ (.loc (.list acc)),KQ (.d e),o4] T=KQ ((.rt (fl w),[KQ (.d e0),KQ (.d G),KQ (.d P),KQ (.loc (.list acc)),KQ (.d e),KQ (.d (fl w))]),T):=by
    simp[fT,ht,fl]
   rw[hb,hw];exact⟨_,rfl⟩
  .rw[P2,Ti,hf]
   have ih:=tZ (e0:=e0) (P:=P) es (acc++[ZW (f e)]) (KQ (.d e)) (KQ (.d (f e))) (λx hx=>h x (Pc _ hx)) (by simp at hl ⊢;omega)
   have hb:fT M [KQ (.d e0),KQ (.d G),KQ (.d P),KQ (.loc (.list acc)),KQ (.d e),o4] T=KQ ((.nx,[KQ (.d e0),KQ (.d G),KQ (.d P),KQ (.loc (.list (acc++[ZW (f e)]))),KQ (.d e),KQ (.d (f e))]),T):=by
    generalize hV:ZW (f e)=v at hv;rw[hv] at ht ⊢;simp[fT,ht,vl,Er]
   rw[hb,bv,ke]
   cases hF:(es.map f).filter D6 with
   |nil=>
    rw[hF] at ih;obtain⟨Ie,Dm,hi⟩:=ih;exact⟨Ie,Dm,by rw[hi];simp⟩
   |cons R r=>
    rw[hF] at ih;exact ih
def z9(G:OY)(gs:List OY)(n:Nat)(e:OY):Prop:=∃R,cC R/\(∀k T,n<k->cp k [.d e,.d (.list gs)] T=KQ (R,T))/\∀k T,n<k->cV k [.d e,.d G] T=KQ (R,T)
structure Es(e0:OY)(w0:Str)(es:List OY):Prop where
 nd:Node e0 w0 es
 w2:(w0=OZ "row"/\e0=.tuple [.str "row",.tuple es])\/((w0=OZ "row")=False/\e0=.tuple (.str w0::es))
noncomputable def qy{es:List OY}{f:OY->OY}(N:Es e0 w0 es)
  (hf:∀e∈es,cC (f e)/\(∀k T,n<k->cp k [.d e,.d (.list gs)] T=KQ (f e,T))/\∀k T,n<k->cV k [.d e,.d G] T=KQ (f e,T))
  (fin:(∀e∈es,f e=vl (ZW (f e))/\au (ZW (f e))=G3)->∃R,cC R/\(∀T,bh [.d (.str w0),.d (.list (es.map λe=>ZW (f e)))] T=KQ (R,T))/\∀o3 o4 T,du (jq [KQ (.d e0),KQ (.d (.list gs)),KQ (.d (.tuple es)),KQ (.loc (.list (es.map λe=>ZW (f e)))),o3,o4] T)=KQ (R,T)):z9 G gs (n+1) e0:=by
 have ix:=N.nd.ix;have np:=N.nd.np;have ng:=N.nd.ng;have byP:∀k T,n<k->(∀e∈es,cC (f e)/\cV k [.d e,.d G] T=KQ (f e,T)):=λk T hk e he=>⟨(hf e he).1,(hf e he).2.2 k T hk⟩;have byL:∀k T,n<k->(∀e∈es,cC (f e)/\cp k [.d e,.d (.list gs)] T=KQ (f e,T)):=λk T hk e he=>⟨(hf e he).1,(hf e he).2.1 k T hk⟩
 cases hF:(es.map f).filter D6 with
 |cons R r=>
  have hR:R∈(es.map f).filter D6:=by rw[hF];exact Pf
  obtain⟨e,he,eR⟩:=PD.mp (QH.mp hR).1;refine⟨R,by rw[←eR];exact(hf e he).1,λk T hk=>?_,λk T hk=>?_⟩
  .obtain⟨k,rfl⟩:=aS k (by omega)
   have lp:=tZ (e0:=e0) (P:=.tuple es) es [] HA HA (byL k T (by omega)) (by have:=N.nd.ln;simp;omega);rw[hF] at lp;obtain⟨ρ',lp⟩:=lp;rw[uZ]
   rcases N.w2 with⟨rfl,rfl⟩|⟨nr,rfl⟩
   .simp[lp]
   .simp[np,ng,nr,lm,lp]
  .obtain⟨k,rfl⟩:=aS k (by omega)
   have lp:=lL (e0:=e0) es [] HA HA (byP k T (by omega)) (by have:=N.nd.ln;simp;omega);rw[hF] at lp;obtain⟨ρ',lp⟩:=lp;rw[nK];simp[ix,np,ng,N.nd.w1,lp]
 |nil=>
  have all:∀e∈es,f e=vl (ZW (f e))/\au (ZW (f e))=G3:=λe he=>by
   rcases nJ (hf e he).1 with⟨h1,_⟩|⟨_,h2⟩
   .have:f e∈(es.map f).filter D6:=QH.mpr ⟨PD.mpr ⟨e,he,rfl⟩,h1⟩
    rw[hF] at this;cases this
   .exact h2
  obtain⟨R,t,q1,q2⟩:=fin all;refine⟨R,t,λk T hk=>?_,λk T hk=>?_⟩
  .obtain⟨k,rfl⟩:=aS k (by omega)
   have lp:=tZ (e0:=e0) (P:=.tuple es) es [] HA HA (byL k T (by omega)) (by have:=N.nd.ln;simp;omega);rw[hF] at lp;obtain⟨Ie,Dm,lp⟩:=lp;rw[uZ];have q:=q2 Ie Dm T
   rcases N.w2 with⟨rfl,rfl⟩|⟨nr,rfl⟩
   .simp[lp,q]
   .simp[np,ng,nr,lm,lp,q]
  .obtain⟨k,rfl⟩:=aS k (by omega)
   have lp:=lL (e0:=e0) es [] HA HA (byP k T (by omega)) (by have:=N.nd.ln;simp;omega);rw[hF] at lp;obtain⟨Ie,Dm,lp⟩:=lp;have cf:∀T,dm bh [.d (.str w0),.d (.list (es.map λe=>ZW (f e)))] T=KQ (.d R,T):=λT=>j0 rfl (q1 []) (rh t);rw[nK];simp[ix,np,ng,N.nd.w1,lp,cf]
noncomputable def qp{G:OY}{gs:List OY}{n:Nat}{es:List OY}(h:∀e∈es,z9 G gs n e):∃f:OY->OY,∀e∈es,cC (f e)/\(∀k T,n<k->cp k [.d e,.d (.list gs)] T=KQ (f e,T))/\∀k T,n<k->cV k [.d e,.d G] T=KQ (f e,T):=by
 classical
 refine⟨λe=>if h':e∈es then (h e h').choose else .none,λe he=>?_⟩;simp only[dif_pos he];exact(h e he).choose_spec
noncomputable def zme(hG:pW G gs)(hg:∀g∈gs,au g=G3)(hm:m<=(gs.length:Int)):∀(n:Nat) (e:OY),Ex m n e->z9 G gs n e:=by
 intro n e h
 induction h with
 |put hv=>
  rename_i n v;refine⟨vl v,.inl ⟨v,rfl,hv⟩,λk T hk=>?_,λk T hk=>?_⟩
  .obtain⟨k,rfl⟩:=aS k (by omega)
   simp[cp,vl]
  .obtain⟨k,rfl⟩:=aS k (by omega)
   simp[cV,vl]
 |got h0 h1=>
  rename_i n i;obtain⟨g,e,vA⟩:=gT (xs:=gs) h0 (by omega);refine⟨vl g,.inl ⟨g,rfl,hg g vA⟩,λk T hk=>?_,λk T hk=>?_⟩
  .obtain⟨k,rfl⟩:=aS k (by omega)
   simp[cp,vl,e]
  .obtain⟨k,rfl⟩:=aS k (by omega)
   simp[cV,vl,hG i,e]
 |row hl _ ih=>
  rename_i n es _;obtain⟨f,hf⟩:=qp ih
  have e1:∀T,cA [.d (.tuple [.str "row",.tuple es])] T=KQ (.list es,T):=λT=>by simp[cA]
  refine qy (w0:=OZ "row") (es:=es) (f:=f) ⟨⟨e1,rfl,by simp,by simp,hl⟩,.inl ⟨rfl,rfl⟩⟩ hf λall=>?_
  have sx:Sm (.tuple (es.map λe=>ZW (f e))):=Sm.tup λd hd=>by
   obtain⟨e,he,rfl⟩:=PD.mp hd;exact gN (all e he).2
  have bp:BG (.tuple (es.map λe=>ZW (f e))):=.inr (.inr ⟨_,rfl,λd hd=>by
   obtain⟨e,he,rfl⟩:=PD.mp hd
   exact(da (all e he).2).1⟩)
  refine⟨bd (.tuple (es.map λe=>ZW (f e))),lX _,λT=>?_,λo3 o4 T=>?_⟩
  .simp[bh,lN T sx]
  .have lv:=oN T bp
   generalize es.map (λe=>ZW (f e))=ps at lv ⊢
   cases hv:au (.tuple ps) <;> simp[jq,lv,hv,bd,vl,fl,D.dS]
 |many _ ih=>
  rename_i n e he;obtain⟨f,hf⟩:=qp (es:=[e]) (λx hx=>by rw[Py.mp hx];exact ih)
  have e1:∀T,cA [.d (.tuple [.str "many",e])] T=KQ (.list [e],T):=λT=>by simp[cA,lm]
  refine qy (w0:=OZ "many") (es:=[e]) (f:=f) ⟨⟨e1,rfl,by simp,by simp,by simp⟩,.inr ⟨by simp,rfl⟩⟩ hf λall=>?_;obtain⟨a1,a2⟩:=all e (by simp);generalize hV:ZW (f e)=v at a1 a2
  rcases eO a2 with⟨i,rfl,hi⟩|⟨x,rfl,hx,_⟩|⟨ds,rfl,hd⟩
  .refine⟨fl "kind",cU,λT=>?_,λo3 o4 T=>?_⟩
   .simp[bh,ij,hV,fl]
   .simp[jq,hV,fl]
  .have Dc:x.length<=sizeLine:=fV (by omega)
   refine⟨vl (.int x.length),.inl ⟨_,rfl,j6 (by omega) (by omega)⟩,λT=>?_,λo3 o4 T=>?_⟩
   .simp[bh,ij,hV,vl,Dc]
   .simp[jq,hV,vl,Dc]
  .refine⟨vl (.int ds.length),.inl ⟨_,rfl,j6 (by omega) (by omega)⟩,λT=>?_,λo3 o4 T=>?_⟩
   .simp[bh,ij,hV,vl]
   .simp[jq,hV,vl]
 |pair hw ha hb Hs Jr=>
  rename_i n w a b
  obtain⟨f,hf⟩:=qp (es:=[a,b]) (λx hx=>by
   simp at hx
   rcases hx with rfl|rfl
   .exact Hs
   .exact Jr)
  have ne:¬w="put"/\¬w="got"/\¬w="row"/\¬w="many":=by
   simp[PW] at hw
   rcases hw with rfl|rfl|rfl|rfl|rfl <;> simp
  obtain⟨n1,n2,n4,n5⟩:=ne
  have e1:∀T,cA [.d (.tuple [.str (OZ w),a,b])] T=KQ (.list [a,b],T):=λT=>by simp[cA,lm,n1,n2,n4]
  refine qy (w0:=OZ w) (es:=[a,b]) (f:=f) ⟨⟨e1,rfl,by simp[n1],by simp[n2],by simp⟩,.inr ⟨by simp[n4],rfl⟩⟩ hf λall=>?_;obtain⟨a1,a2⟩:=all a (by simp);obtain⟨b1,b2⟩:=all b (by simp);obtain⟨R,t,q1,q2⟩:=AV hw a2 b2;refine⟨R,t,λT=>q1 T,λo3 o4 T=>?_⟩;simp[jq,n4,n5,q2]
noncomputable def fJ(rd pk:PR):Nat->Nat->Nat->List OY->OY->OY
 |0,_,_,_,_=>.none
 |f+1,i,j,gs,S=>match cb S with
  |none=>S
  |some (b,x,r)=>match (if b then pk[j]? else rd[i]?) with
   |none=>dU b x
   |some (_,v)=>fJ rd pk f (if b then i else i+1) (if b then j+1 else j) (gs++[v]) (ZK r (gs++[v]))
noncomputable def C6:FT:=(aq (ae inD (ae Y8 (aa 6) (fC (.int 0))) (av .tuple (ab (fC (.str "want")) (ab (fC (.str "peek")) (ab (fC (.str "when")) ag))))))
noncomputable def F6:FS:=(ah (YT (aq (ae Z5 (ae Y8 (aa 6) (fC (.int 0))) (fC (.str "fail")))) (aj (av .tuple (ab (fC (.str "fails")) (ab (ae Y8 (aa 6) (fC (.int 1))) ag)))) aw) (ah (ax 7 (dC (cp 25) (ab (ae Y8 (aa 6) (fC (.int 1))) (ab (aa 3) ag)))) (ah (YT (aq (ae Z5 (ae Y8 (aa 7) (fC (.int 0))) (fC (.str "fails")))) (aj (aa 7)) aw) (aj (av .tuple (ab (fC (.str "made")) (ab (ae Y8 (aa 7) (fC (.int 1))) ag)))))))
theorem B0:bL C6 de (m+1) ρ T=YS (C6 ρ T) λb T1=>if b=G3 then YS (de ρ T1) (jK (bL C6 de m)) else KQ ((.nx,ρ),T1):=rfl
noncomputable def Z3(r0:OY)(rd pk:PR)(i j:Nat)(gs:List OY)(r:OY)(o7 o8:Option D.W):YR:=[KQ (.d r0),KQ (.d (.list (PL rd))),KQ (.d (.list (PL pk))),KQ (.loc (.list gs)),KQ (.loc (dW (.int (i:Int)) (.int (j:Int)))),KQ (.loc (dW (.list (PL rd)) (.list (PL pk)))),KQ (.d r),o7,o8]
noncomputable def sQ(T:Tp)(h:Sm d):i5 [.d d] T=KQ (.bool (isName d),T):=by
 cases d with
 |str x=>
  have hz:x.length<=sizeLine:=PB h.str (by decide);have e:isName (.str x)=(decide _&&decide _&&has Z1 x):=rfl;have hi:bQ .str .str=G3:=rfl
  have hc:bH bU (ae inD (aa 0) (fC (.str "abcdefghijklmnopqrstuvwxyz"))) [KQ (.d (.str x))] _ T=KQ ((D.signs x).map λd=>.bool (sW Z1 d),T):=gH λd hd=>by
   obtain⟨c,_,rfl⟩:=zut hd;rfl
  by_cases h1:1<=x.length
  .have Ii:(1:Int)<=(x.length:Int):=by omega
   by_cases h2:x.length<=8
   .have EL:(x.length:Int)<=8:=by omega
    simp[i5,hi,hz,hc,vS,e,h1,Ii,h2,EL]
   .have EL:¬(x.length:Int)<=8:=by omega
    simp[i5,hi,hz,e,h1,Ii,h2,EL]
  .have Ii:¬(1:Int)<=(x.length:Int):=by omega
   simp[i5,hi,hz,e,h1,Ii]
 |_=>rfl
variable {r0:OY}{rd pk:PR}{i j:Nat}{gs:List OY}{o7 o8:Option D.W}{T:Tp}
theorem zmf:inD (.str "want") (.tuple [.str "want",.str "peek",.str "when"])=KQ (.bool G3) :=rfl
theorem zmg:inD (.str "peek") (.tuple [.str "want",.str "peek",.str "when"])=KQ (.bool G3) :=rfl
theorem zmh:C6 (Z3 r0 rd pk i j gs (.tuple [.str "fail",x]) o7 o8) T=KQ (Gy,T) :=rfl
theorem zmi:C6 (Z3 r0 rd pk i j gs (.tuple [.str "say",x]) o7 o8) T=KQ (Gy,T) :=rfl
noncomputable def zmj{b:Bool}{x y:OY}:C6 (Z3 r0 rd pk i j gs (.tuple [.str (OZ (if b then "peek" else "want")),x,y]) o7 o8) T=KQ (G3,T):=by cases b <;> simp[C6,Z3,zmf,zmg]
theorem zmk:C6 (Z3 r0 rd pk i j gs (.tuple [.str "when",x,y,z]) o7 o8) T=KQ (G3,T) :=rfl
noncomputable def sM{g n:Nat}{e:OY}(he:Ex (g:Int) n e)(hl:gs.length=g)(hv:∀v∈gs,au v=G3)(hn:n<=20):∃R,cC R/\(∀T,dm (cp 25) [.d e,.loc (.list gs)] T=KQ (.d R,T))/\∀k T,n<k->cV k [.d e,.d (.list gs)] T=KQ (R,T):=by
 obtain⟨R,t,h1,h2⟩:=zme (nZ gs) hv (by simp_all) n e he;exact⟨R,t,λT=>j0 rfl (h1 25 [] (by lia)) (rh t),h2⟩
noncomputable def kq(h:cb S=HA):fJ rd pk (f+1) i j gs S=S:=by rw[fJ,h]
noncomputable def fu(h:∀T,bC 25 [.d r,.d (.list gs)] T=KQ (S,T)):ZK r gs=S:=by
 unfold ZK;rw[h]
variable {r0:OY}{rd pk:PR}{i j:Nat}{gs:List OY}{o7 o8:Option D.W}{T:Tp}
noncomputable def zml(h:∀T,dm (cp 25) [.d e,.loc (.list gs)] T=KQ (.d (fl u),T)):∃ρ',de (Z3 r0 rd pk i j gs (.tuple [.str (OZ w),e,r]) o7 o8) T=KQ ((.rt (fl u),ρ'),T):=by simp[de,Z3,h,fl]
noncomputable def zmm(h:∀T,dm (cp 25) [.d e,.loc (.list gs)] T=KQ (.d (fl u),T)):∃ρ',de (Z3 r0 rd pk i j gs (.tuple [.str (OZ w),e,r,s]) o7 o8) T=KQ ((.rt (fl u),ρ'),T):=by simp[de,Z3,h,fl,iO]
noncomputable def zmn(h:∀T,dm (cp 25) [.d e,.loc (.list gs)] T=KQ (.d (vl v),T))(hb:FJ v (.tuple [.int 0,.str "",.tuple []])=KQ (.bool b)):∃G2,de (Z3 r0 rd pk i j gs (.tuple [.str "when",e,r,s]) o7 o8) T=KQ ((.nx,Z3 r0 rd pk i j gs (if b then s else r) G2 o8),T):=by cases b <;> simp[de,Z3,h,vl,m5,hb]
noncomputable def zmo(hw:¬w="when")(h:∀T,dm (cp 25) [.d e,.loc (.list gs)] T=KQ (.d (vl v),T))(hs:Sm v)(hi:isName v=Gy):∃ρ',de (Z3 r0 rd pk i j gs (.tuple [.str (OZ w),e,r]) o7 o8) T=KQ ((.rt (ZC "name"),ρ'),T):=by
 have ln:=λT=>sQ T hs;simp[de,Z3,h,vl,hw,ln,hi,ZC]
noncomputable def zmp(h:∀T,dm (cp 25) [.d e,.loc (.list gs)] T=KQ (.d (vl (.str x)),T))(hi:isName (.str x)=G3)(hq:(if b then j else i)=(if b then pk else rd).length):∃ρ',de (Z3 r0 rd pk i j gs (.tuple [.str (OZ (if b then "peek" else "want")),e,r]) o7 o8) T=KQ ((.rt (dU b x),ρ'),T):=by
 have ln:=λT=>sQ T (gJ hi);have l1:=fZ rd;have l2:=fZ pk
 cases b with
 |false=>
  have ZP:i=rd.length:=hq;simp[de,Z3,h,vl,ln,hi,gz,l1,ZP];exact⟨by decide,rfl⟩
 |true=>
  have ZP:j=pk.length:=hq;simp[de,Z3,h,vl,ln,hi,gz,l2,ZP];exact⟨by decide,rfl⟩
noncomputable def zmq{b:Bool}{e r v:OY}{x y:Str}(h:∀T,dm (cp 25) [.d e,.loc (.list gs)] T=KQ (.d (vl (.str x)),T))(hi:isName (.str x)=G3)(hg:gs.length<=12)(hq:(if b then pk[j]? else rd[i]?)=KQ (y,v)):∃G2 Fs,de (Z3 r0 rd pk i j gs (.tuple [.str (OZ (if b then "peek" else "want")),e,r]) o7 o8) T=KQ ((.nx,Z3 r0 rd pk (if b then i else i+1) (if b then j+1 else j) (gs++[v]) r G2 Fs),T):=by
 have ln:=λT=>sQ T (gJ hi);have l1:=fZ rd;have l2:=fZ pk;have hz:gs.length<sizeLine:=Qs hg (by decide)
 cases b with
 |false=>
  have ZP:rd[i]? = KQ (y,v):=hq;have Ki:=ku ZP
  have n1:¬(i:Int)=(rd.length:Int):=by have:=(Pa.mp ZP).1;lia
  have n2:¬i=rd.length:=by lia
  refine⟨KQ (.d (vl (.str x))),KQ (.d (.str "want")),?_⟩;simp[de,Z3,h,vl,ln,hi,gz,l1,l2,n1,n2,Ki,hz,og,yo]
 |true=>
  have ZP:pk[j]? = KQ (y,v):=hq;have Ki:=ku ZP
  have n1:¬(j:Int)=(pk.length:Int):=by have:=(Pa.mp ZP).1;lia
  have n2:¬j=pk.length:=by lia
  refine⟨KQ (.d (vl (.str x))),KQ (.d (.str "peek")),?_⟩;simp[de,Z3,h,vl,ln,hi,gz,l1,l2,n1,n2,Ki,hz,og,yp]
theorem zmr:du (F6 (Z3 r0 rd pk i j gs (.tuple [.str "fail",x]) o7 o8) T)=KQ (.tuple [.str "fails",x],T) :=rfl
noncomputable def zms(h:∀T,dm (cp 25) [.d e,.loc (.list gs)] T=KQ (.d (fl u),T)):du (F6 (Z3 r0 rd pk i j gs (.tuple [.str "say",e]) o7 o8) T)=KQ (ZC (OZ u),T):=by simp[F6,Z3,h,fl,ZC]
noncomputable def zmt(h:∀T,dm (cp 25) [.d e,.loc (.list gs)] T=KQ (.d (vl v),T)):du (F6 (Z3 r0 rd pk i j gs (.tuple [.str "say",e]) o7 o8) T)=KQ (Z4 v,T):=by simp[F6,Z3,h,vl,Z4]
noncomputable def zmu(hR:Rg p g n r):∀(gs:List OY) (f m i j:Nat) (o7 o8:Option D.W),gs.length=g->(∀v∈gs,au v=G3)->Iq rd->Iq pk->n<=20->g<=12->13<=g+f->n<m->i<=rd.length->j<=pk.length ->
  du (YS (bL C6 de m (Z3 r0 rd pk i j gs r o7 o8) T) (gw F6))=KQ (fJ rd pk f i j gs (ZK r gs),T):=by
 induction hR with
 |fail hx=>
  rename_i g n x;intro gs f m i j o7 o8 hl hv k1 k2 hn hg hf hm hi hj;obtain⟨m,rfl⟩:=aS m (by omega);obtain⟨f,rfl⟩:=aS f (by omega)
  have es:ZK (.tuple [.str "fail",.str x]) gs=ZC x:=fu λT=>by simp[bC,ZC]
  rw[B0,zmh,bv,if_neg (by decide),bv,kg,zmr,es,kq ju];rfl
 |say he=>
  rename_i g n e;intro gs f m i j o7 o8 hl hv k1 k2 hn hg hf hm hi hj;obtain⟨m,rfl⟩:=aS m (by omega);obtain⟨f,rfl⟩:=aS f (by omega);obtain⟨R,t,h1,h2⟩:=sM he hl hv (by omega);have tb:=λT=>h2 25 T (by omega);rw[B0,zmi,bv,if_neg (by decide),bv,kg]
  rcases t with⟨v,rfl,Kj⟩|⟨w,hw,rfl⟩
  .have es:ZK (.tuple [.str "say",e]) gs=Z4 v:=fu λT=>by simp[bC,Z4,tb,vl]
   rw[zmt h1,es,kq pC]
  .have es:ZK (.tuple [.str "say",e]) gs=ZC (OZ w):=fu λT=>by simp[bC,ZC,tb,fl]
   rw[zms h1,es,kq ju]
 |ask hw Da he hr ih=>
  rename_i g n w e r;intro gs f m i j o7 o8 hl hv k1 k2 hn hg hf hm hi hj;obtain⟨m,rfl⟩:=aS m (by omega);obtain⟨f,rfl⟩:=aS f (by omega);obtain⟨R,t,h1,h2⟩:=sM he hl hv (by omega);have tb:=λT=>h2 25 T (by omega)
  have nw:¬w="fail"/\¬w="when"/\¬w="say":=by rcases hw with rfl|⟨rfl,_⟩ <;> simp
  obtain⟨n1,n2,n3⟩:=nw
  obtain⟨b,hb⟩:∃b:Bool,w=(if b then "peek" else "want"):=by
   rcases hw with rfl|⟨rfl,hp⟩
   .exact⟨Gy,rfl⟩
   .exact⟨G3,rfl⟩
  subst hb;rw[B0,zmj,bv,if_pos rfl]
  rcases t with⟨v,rfl,Kj⟩|⟨u,hu,rfl⟩
  .cases D8:isName v with
   |false=>
    have ln:=λT=>oj (d:=v) T (gN Kj)
    have es:ZK (.tuple [.str (OZ (if b then "peek" else "want")),e,r]) gs=ZC "name":=fu λT=>by simp[bC,ZC,tb,vl,n1,n2,n3,ln,D8]
    obtain⟨ρ',eb⟩:=zmo (r0:=r0) (rd:=rd) (pk:=pk) (i:=i) (j:=j) (o7:=o7) (o8:=o8) (T:=T) (r:=r) n2 h1 (gN Kj) D8;rw[eb,bv,l6,bv,ma,mi,es,kq ju]
   |true=>
    obtain⟨x,rfl⟩:∃x,v=.str x:=by cases v <;> first|exact⟨_,rfl⟩|cases D8
    have ln:=λT=>oj (d:=.str x) T (gN Kj)
    have es:ZK (.tuple [.str (OZ (if b then "peek" else "want")),e,r]) gs=Iu b x r:=fu λT=>by
     simp[bC,Iu,tb,vl,n1,n2,n3,ln,D8]
    cases hq:(if b then pk[j]? else rd[i]?) with
    |none=>
     have ZP:(if b then j else i)=(if b then pk else rd).length:=by
      cases b with
      |true=>have:=QO.mp (show pk[j]? = HA from hq);show j=pk.length;omega
      |false=>have:=QO.mp (show rd[i]? = HA from hq);show i=rd.length;omega
     obtain⟨ρ',eb⟩:=zmp (r0:=r0) (o7:=o7) (o8:=o8) (T:=T) (r:=r) h1 D8 ZP;rw[eb,bv,l6,bv,ma,mi,es,fJ,iI];dsimp only;rw[hq]
    |some q=>
     obtain⟨y,v⟩:=q;obtain⟨G2,Fs,eb⟩:=zmq (r0:=r0) (o7:=o7) (o8:=o8) (T:=T) (r:=r) h1 D8 (by omega) hq;have hv2:=qG hv (wq k1 k2 hq);rw[eb,bv,ke,es,fJ,iI];dsimp only;rw[hq];refine ih (gs++[v]) f m _ _ G2 Fs (by simp[hl]) hv2 k1 k2 (by omega) (by omega) (by omega) (by omega) ?_ ?_
     .cases b with
      |true=>exact hi
      |false=>have:=(Pa.mp (show rd[i]? = KQ (y,v) from hq)).1;show i+1<=rd.length;omega
     .cases b with
      |true=>have:=(Pa.mp (show pk[j]? = KQ (y,v) from hq)).1;show j+1<=pk.length;omega
      |false=>exact hj
  .have es:ZK (.tuple [.str (OZ (if b then "peek" else "want")),e,r]) gs=ZC (OZ u):=fu λT=>by simp[bC,ZC,tb,fl,n1]
   obtain⟨ρ',eb⟩:=zml (r0:=r0) (rd:=rd) (pk:=pk) (i:=i) (j:=j) (o7:=o7) (o8:=o8) (T:=T) (r:=r) (w:=if b then "peek" else "want") h1;rw[eb,bv,l6,bv,ma,mi,es,kq ju];rfl
 |whn he hr hs yk xc=>
  rename_i g n e r s;intro gs f m i j o7 o8 hl hv k1 k2 hn hg hf hm hi hj;obtain⟨m,rfl⟩:=aS m (by omega);obtain⟨R,t,h1,h2⟩:=sM he hl hv (by omega);have tb:=λT=>h2 25 T (by omega);rw[B0,zmk,bv,if_pos rfl]
  rcases t with⟨v,rfl,Kj⟩|⟨u,hu,rfl⟩
  .obtain⟨b,hb⟩:=wm Kj
   obtain⟨G2,eb⟩:=zmn (r0:=r0) (rd:=rd) (pk:=pk) (i:=i) (j:=j) (o7:=o7) (o8:=o8) (T:=T) (r:=r) (s:=s) h1 hb;rw[eb,bv,ke]
   cases b with
   |true=>
    obtain⟨S,_,hq⟩:=se n g s hs (.list gs) gs (nZ gs) hl hv (by omega)
    have w1:∀k T,n<k->bC (k+1) [.d (.tuple [.str "when",e,r,s]),.d (.list gs)] T=KQ (S,T):=λk T hk=>by
     have:=hq k T hk;simp[bC,tb,vl,hb,iO,kY,pX,m5,this]
    have es:ZK (.tuple [.str "when",e,r,s]) gs=ZK s gs:=by
     rw[fu λT=>hq 25 T (by omega)];exact fu λT=>w1 24 T (by omega)
    rw[es];exact xc gs f m i j G2 o8 hl hv k1 k2 (by omega) hg hf (by omega) hi hj
   |false=>
    obtain⟨S,_,hq⟩:=se n g r hr (.list gs) gs (nZ gs) hl hv (by omega)
    have w1:∀k T,n<k->bC (k+1) [.d (.tuple [.str "when",e,r,s]),.d (.list gs)] T=KQ (S,T):=λk T hk=>by
     have:=hq k T hk;simp[bC,tb,vl,hb,iO,kY,pX,m5,this]
    have es:ZK (.tuple [.str "when",e,r,s]) gs=ZK r gs:=by
     rw[fu λT=>hq 25 T (by omega)];exact fu λT=>w1 24 T (by omega)
    rw[es];exact yk gs f m i j G2 o8 hl hv k1 k2 (by omega) hg hf (by omega) hi hj
  .obtain⟨f,rfl⟩:=aS f (by omega)
   have es:ZK (.tuple [.str "when",e,r,s]) gs=ZC (OZ u):=fu λT=>by simp[bC,ZC,tb,fl,iO,kY]
   obtain⟨ρ',eb⟩:=zmm (r0:=r0) (rd:=rd) (pk:=pk) (i:=i) (j:=j) (o7:=o7) (o8:=o8) (T:=T) (r:=r) (s:=s) (w:="when") h1;rw[eb,bv,l6,bv,ma,mi,es,kq ju];rfl
noncomputable def tE(rd pk:PR)(r:OY):PyData:=fJ rd pk 13 0 0 [] (ZK r [])
noncomputable def zmv(T:Tp)(hr:Rg p 0 20 r)(h1:Iq rd)(h2:Iq pk):je [.d r,.d (.list (PL rd)),.d (.list (PL pk))] T=KQ (tE rd pk r,T):=by
 have lp:=zmu (r0:=r)   (T:=T) hr [] 13 100000 0 0 HA HA rfl (λv hv=>by simp_all) h1 h2 (Pk _) (by simp) (by decide) (by simp) (by lia) (by lia);show du (ah _ _ [KQ _,KQ _,KQ _,HA,HA,HA,HA,HA,HA] T)=_;exact lp
noncomputable def sn(rd:PR):List PyData:=rd.map λq=>q.2
inductive Ip(r:OY):PR->OY->Prop where
 |nil:Ip r [] (ZK r [])
 |snoc {rd:PR}{S r' v:OY}{x:Str}:Ip r rd S->cb S=KQ (Gy,x,r')->Ip r (rd++[(x,v)]) (ZK r' (sn rd++[v]))
def yg:sn (rd++[(x,v)])=sn rd++[v]:=by simp[sn]
noncomputable def endOf(S:OY):PyData:=match cb S with
 |none=>S
 |some (b,x,_)=>dU b x
noncomputable def yH{rd rest:PR}:(rd++[q]++rest)[rd.length]? = KQ q:=by simp
noncomputable def zmw(h:Ip r rd S):∀(rest:PR) (f:Nat),eN (rd++rest) [] (f+rd.length) 0 0 [] (ZK r [])=eN (rd++rest) [] f rd.length 0 (sn rd) S:=by
 induction h with
 |nil=>exact λrest f=>rfl
 |snoc hp ha ih=>
  rename_i rd S r' v x;intro rest f;have e:=ih ([(x,v)]++rest) (f+1)
  have l1:(rd++[(x,v)]).length=rd.length+1:=by simp
  have l2:f+(rd.length+1)=f+1+rd.length:=by lia
  rw[l1,l2,Q8,e,←Q8,yg];exact Ax  ha yH
noncomputable def zmx(h:Ip r rd S):∀(rest:PR) (f:Nat),fJ (rd++rest) [] (f+rd.length) 0 0 [] (ZK r [])=fJ (rd++rest) [] f rd.length 0 (sn rd) S:=by
 induction h with
 |nil=>exact λrest f=>rfl
 |snoc hp ha ih=>
  rename_i rd S r' v x;intro rest f;have e:=ih ([(x,v)]++rest) (f+1)
  have l1:(rd++[(x,v)]).length=rd.length+1:=by simp
  have l2:f+(rd.length+1)=f+1+rd.length:=by omega
  have gt:(if Gy=G3 then ([])[0]? else (rd++[(x,v)]++rest)[rd.length]?)=KQ _:=yH;rw[l1,l2,Q8,e,←Q8,yg,fJ,ha];dsimp only;rw[gt];rfl
noncomputable def zmy(h:Ip r rd S)(hl:rd.length<=12)(hb:∀x r',cb S≠KQ (G3,x,r')):tE rd [] r=endOf S:=by
 have e:=zmx h [] (13-rd.length)
 have l:13-rd.length+rd.length=13:=by lia
 obtain⟨f,hf⟩:∃f,13-rd.length=f+1:=⟨12-rd.length,by lia⟩;rw[QJ,l] at e;unfold tE endOf;rw[e,hf,fJ]
 cases ha:cb S <;>simp_all
noncomputable def zmz(h:Ip r rd S)(hl:rd.length<=12)(hb:∀x r',cb S≠KQ (G3,x,r')):iP rd [] r=(endOf S,rd.length):=by
 have e:=zmw h [] (13-rd.length)
 have l:13-rd.length+rd.length=13:=by omega
 obtain⟨f,hf⟩:∃f,13-rd.length=f+1:=⟨12-rd.length,by omega⟩;rw[QJ,l] at e;unfold iP endOf;rw[e,hf]
 cases ha:cb S with
 |none=>exact ti ha
 |some q=>
  obtain⟨b,x,r'⟩:=q
  cases b with
  |true=>exact absurd ha (hb x r')
  |false=>exact yl ha λv z=>by simp_all
noncomputable def zna(h:Ip r rd S)(hl:rd.length<=12)(hb:∀x r',cb S≠KQ (G3,x,r')):qa rd [] r=endOf S:=by
 unfold qa
 rw[zmz h hl hb]<;>simp_all
structure DC(r:OY)(rd:PR)(S:OY):Prop where
 pt:Ip r rd S
 st:Zs Gy rd.length 20 S
 ok:Iq rd
 ln:rd.length<=12
 nm:∀q∈rd,isName (.str q.1)=G3
def DC.no(h:DC r rd S):∀x r',cb S≠KQ (G3,x,r'):=by
 intro x r' z
 cases h.st <;>simp_all
noncomputable def znb(h:Iq rd):∀v∈sn rd,au v=G3:=λv hv=>by
 obtain⟨q,hq,rfl⟩:=PD.mp hv;exact h q hq
def DC.start(h:Rg Gy 0 20 r):DC r [] (ZK r []):=⟨.nil,(ot h rfl (λv hv=>by simp_all) (Pk _)).1,(λq hq=>by simp_all),Ql _,λq hq=>by simp_all⟩
def DC.more(h:DC r rd (Iu Gy x r'))(hv:au v=G3):DC r (rd++[(x,v)]) (ZK r' (sn rd++[v]))/\isName (.str x)=G3:=by
 obtain⟨n,nm,g12,n20,rg⟩:∃n,isName (.str x)=G3/\rd.length<12/\n<=20/\Rg Gy (rd.length+1) n r':=by
  generalize hS:Iu _ x r'=S at h
  cases h.st with
  |md _=>cases hS
  |fl _=>cases hS
  |ask a b c d e=>
   rename_i b' x' r2 n';have:=congrArg cb hS;rw[iI,iI] at this;cases this;exact⟨n',b,c,d,e⟩
 have l1:(sn rd++[v]).length=rd.length+1:=by simp[sn]
 have l2:(rd++[(x,v)]).length=rd.length+1:=by simp
 refine⟨⟨.snoc h.pt iI,?_,?_,by lia,λq hq=>by
  rcases Pt.mp hq with z|z
  .exact h.nm q z
  .simp_all⟩,nm⟩
 .rw[l2]
  exact(ot rg l1 (qG (znb h.ok) hv) n20).1.up n20
 .intro q hq
  rcases Pt.mp hq with z|z
  .exact h.ok q z
  .simp_all
noncomputable def C7:FT:=(aq (ae Z5 (ae Y8 (aa 6) (fC (.int 0))) (fC (.str "wants"))))
theorem wh7:bL C7 jf (m+1) ρ T=YS (C7 ρ T) λb T1=>if b=G3 then YS (jf ρ T1) (jK (bL C7 jf m)) else KQ ((.nx,ρ),T1):=rfl
def pz:endOf (Z4 v)=Z4 v:=by unfold endOf;rw[pC]
theorem tK:endOf (ZC x)=ZC x :=rfl
noncomputable def tL:endOf (Iu b x r)=dU b x:=by unfold endOf;rw[iI]
noncomputable def znc(h:Zs p g n S):bj (endOf S)=G3:=by
 cases h with
 |md hv=>rw[pz];simp[Z4,bj,bS,om hv]
 |fl _=>rw[tK];simp[ZC,bj,bS]
 |ask _ _ _ _ _=>rw[tL];simp[dU,bj,bS]
section
variable {A:Tp}{sc k r:OY}{l:List Str}
noncomputable def KF(A:Tp)(sc k:OY)(l:List Str)(r:OY)(rd:PR)(S:OY):YR:=[KQ (.d sc),KQ (.d k),KQ (.d (.list (Zp l))),KQ (.d r),KQ (.tp A.length),KQ (.loc (.list (PL rd))),KQ (.d (endOf S))]
noncomputable def znd:PL rd++[.tuple [.str x,v]]=PL (rd++[(x,v)]):=by simp[PL]
noncomputable def zu(hr:Rg Gy 0 20 r)(h:DC r rd S)(T:Tp):dm je [.d r,.loc (.list (PL rd)),.d (.list [])] T=KQ (.d (endOf S),T):=by
 have e:=zmv (pk:=[]) [] hr h.ok (λq hq=>by simp_all);rw[zmy h.pt h.ln h.no] at e;exact j0 rfl e (znc h.st)
theorem AF(hl:KM l)(hr:Rg Gy 0 20 r):∀(f m:Nat) (rd:PR) (S:OY) (T:Tp),DC r rd S->13<=rd.length+f->f<=m->cZ A T->∃JE S' T',bL C7 jf m (KF A sc k l r rd S) T=KQ ((.nx,KF A sc k l r JE S'),T')/\DC r JE S'/\cZ A T'/\cb S'=HA
 |0,m,rd,S,T,h,h13,_,_=>absurd h.ln (by omega)
 |f+1,m,rd,S,T,h,h13,hm,t=>by
  obtain⟨m,rfl⟩:=aS m (by omega);rw[wh7];have hS:=h.st;generalize hg:rd.length=g at hS
  cases hS with
  |md hx=>
   rename_i v;refine⟨rd,Z4 v,T,?_,h,t,pC⟩
   have c:C7 (KF A sc k l r rd (Z4 v)) T=KQ (Gy,T):=by
    unfold KF;rw[pz];simp[C7,Z4]
   rw[c,bv,if_neg (by decide)]
  |fl hx=>
   rename_i x;refine⟨rd,ZC x,T,?_,h,t,ju⟩
   have c:C7 (KF A sc k l r rd (ZC x)) T=KQ (Gy,T):=by
    unfold KF;rw[tK];simp[C7,ZC]
   rw[c,bv,if_neg (by decide)]
  |ask hb hx Da Kw FL=>
   rename_i b x r' n'
   have b0:b=Gy:=by simp_all
   subst b0
   have c:C7 (KF A sc k l r rd (Iu Gy x r')) T=KQ (G3,T):=by
    unfold KF;rw[tL];simp[C7,dU]
   obtain⟨v,T1,e1,t1,hv⟩:=x8 hl t;have h2:=(h.more hv.1).1;have ra:=zu hr h2
   have hz:(PL rd).length<sizeLine:=by
    rw[fZ];exact Qs h.ln (by decide)
   have st:jf (KF A sc k l r rd (Iu Gy x r')) T=KQ ((.nx,KF A sc k l r (rd++[(x,v)]) (ZK r' (sn rd++[v]))),T1):=by
    unfold KF;rw[tL];simp[jf,dU,e1,hz,znd,ra]
   rw[c,bv,if_pos rfl,st,bv,ke];exact AF hl hr f m _ _ T1 h2 (by simp;omega) (by omega) t1
def zne:jz (A++[x])=KQ (A,x):=by simp[jz]
def EJ{i:Nat}{fr:FS}{ρ ρ':YR}{xs:List OY}{BE:List OY}{fl:Fl}{A:Tp}(h:fr (ρ.set i (KQ (.tp A.length))) (A++[xs])=KQ ((fl,ρ'),A++[BE])):oR i fr ρ (.list xs) A=KQ ((fl,kW A.length ρ'),A):=by
 show j9 _ _=_;rw[h];unfold j9;dsimp only;rw[zne];exact if_pos rfl
@[simp] theorem LR:pj i m g fr ρ T=YS (g ρ T) λws T1=>YS (m ws T1) (oR i fr ρ):=rfl
theorem znf:gx (.list [.int 60]) (.int 12)=KQ (.list (il (Pp 12 60))) :=rfl
noncomputable def zng{ns:List Int}{kk:Nat}(T:Tp)(hk:kk<=1000)(hl:KM l)(hr:Rg Gy 0 20 r):∃rd S,jQ [.d (bR ns),.d (.int (kk:Int)),.d (.list (Zp l)),.d r] T=KQ (.tuple [.list (PL rd),endOf S],T)/\DC r rd S/\cb S=HA:=by
 obtain⟨cs,ed,hd⟩:=oO (ns:=ns) (zs:=Pp 12 60) (T:=T) hk (λz hz=>by rw[(Um.mp hz).2];decide) (by decide)
 have cl:cs.length<=1000:=by rw[hd.1];decide
 obtain⟨rd,S,T',e,hp,⟨B8,rfl,_⟩,ha⟩:=AF (sc:=bR ns) (k:=.int (kk:Int)) hl hr 13 100000 [] _ (T++[il cs]) (DC.start hr) (by simp) (by simp) ⟨cs,rfl,cl⟩;have ra:=zu hr (DC.start hr)
 have b2:vF [KQ (.d (bR ns)),KQ (.d (.int (kk:Int))),KQ (.d (.list (Zp l))),KQ (.d r),KQ (.tp T.length),HA,HA] (T++[il cs])=KQ ((.rt (.tuple [.list (PL rd),endOf S]),KF T (bR ns) (.int (kk:Int)) l r rd S),T++[il B8]):=by
  have e':=e;unfold KF at e';have ra':=ra;have pn:PL []=[]:=rfl;rw[pn] at e' ra';show ah _ (ah _ (ah (bL C7 _ 100000) _)) _ _=_;simp[ra',e',KF]
 refine⟨rd,S,?_,hp,ha⟩;have oo:=EJ (i:=4)  (ρ:=[KQ _,KQ _,KQ _,KQ (.d r),HA,HA,HA]) b2;rw[zih]
 have r6:=znf<;>simp_all
end
theorem znh:gx (.list [.int 60]) (.int 40)=KQ (.list (il (Pp 40 60))):=by rfl
noncomputable def zni(hg:g ρ T=KQ (ws,T))(hn:eC ws=G3)(h:mf (.tp T.length::ws) (T++[xs])=KQ (y,T++[BE])):oS mf g ρ (.list xs) T=KQ (.d y,T):=by
 show YS (g ρ T) (mz mf xs)=_;rw[hg,bv];unfold mz;simp[hn,h,tN]
theorem znj:tI mf mh g1 g2 ρ T=YS (g1 ρ T) λws T1=>YS (mh ws T1) (oS mf g2 ρ):=rfl
noncomputable def znk{C:Addr}{p:Bool}{ns:List Int}{kk:Nat}{l:List Str}(T:Tp)(hk:kk<=1000)(hl:KM l):∃r,lr [.d (bR ns),.d (.int (kk:Int)),.d (.list (Zp l)),.d (.bool p)] T=KQ (r,T)/\RB C p 0 6 (rq 3) r/\NR r:=by
 obtain⟨cs,ed,hd⟩:=oO (ns:=ns) (zs:=Pp 40 60) (T:=T) hk (λz hz=>by rw[(Um.mp hz).2];decide) (by decide)
 have cl:cs.length<=1000:=by rw[hd.1];decide
 obtain⟨r,T',e,⟨B8,rfl,_⟩,hb⟩:=nU (C:=C) (p:=p) (A:=T) hl 3 25 0 (T++[il cs]) ⟨cs,rfl,cl⟩ (by decide) (by decide) (by decide);refine⟨r,?_,hb⟩;have r6:=znh;have oc:=zni (mf:=dM 25) (g:=(ab (aa 2) (ab (fC (.int 0)) (ab (fC (.int 3)) (ab (aa 3) ag))))) (ρ:=[KQ (.d (bR ns)),KQ (.d (.int (kk:Int))),KQ (.d (.list (Zp l))),KQ (.d (.bool p))]) (xs:=il cs) (T:=T) rfl rfl e;unfold bR at ed oc ⊢;generalize il (Pp 40 60)=z6 at ed r6;simp[lr,znj,r6,ed,oc]
theorem x9:∀(n k:Nat) (d:OY) (T:Tp),az n d=G3->aD n d<=40->n<k->e7 k [.d d] T=KQ (.str (mk (cst n d)),T)
 |n,0,d,T,h,hm,hk=>absurd hk (Re _)
 |n,k+1,d,T,h,hm,hk=>by
  have q1:=lit (s:="'") (l:=[39]) (rfl);have q2:=lit (s:="(") (l:=[40]) (rfl);have q3:=lit (s:=")") (l:=[41]) (rfl);have q4:=lit (s:=",") (l:=[44]) (rfl)
  rcases cQ h with h1|⟨m,ds,rfl,rfl,h8,hb⟩
  .rcases dN h1 with⟨i,rfl⟩|⟨x,rfl⟩
   .simp[e7,oA h1,oI]
   .have e:mk [39]++x=mk (39::cd x):=by rw[←tY x,kD,eM];rfl
    have l:(mk [39]).length+x.length<=sizeLine:=fV (by rw[di];have:=str_len (n:=0) h1;simp;omega);simp[e7,oG,tF,q1,l,e]
  .obtain⟨l1,l2⟩:=xX hm hb
   have c:=gH (e:=ar (e7 k) (ab (aa 0) ag)) (ρ:=[KQ (.d (.tuple ds))]) (T:=T) (g:=λd=>.str (mk (cst m d))) (ds:=ds) λd hd=>by
    have:=x9 m k d T (hb d hd) (Yr (qP hd) hm) (by omega);simp[this]
   have j:=rL (z:=mk [44]) (nL (λd=>mk (cst m d)) ds);rw[yw,yE,PY,di] at j;rw[if_pos (by simp;omega)] at j;have a1:(mk [40]).length+(mk (bg [44] (ds.map (cst m)))).length<=sizeLine:=fV (by rw[di,di];simp;omega);have a2:(mk (40::bg [44] (ds.map (cst m)))).length+(mk [41]).length<=sizeLine:=fV (by rw[di,di];simp;omega)
   have e1:mk [40]++mk (bg [44] (ds.map (cst m)))=mk (40::bg [44] (ds.map (cst m))):=by rw[kD];rfl
   have e2:mk (40::bg [44] (ds.map (cst m)))++mk [41]=mk (cst (m+1) (.tuple ds)):=by rw[kD];rfl
   simp[e7,zU,q2,q3,q4,c,j,a1,a2,e1,e2]
def tS(v:OY):Str:=mk (cst 4 v)
noncomputable def yz(h:au v=G3)(T:Tp):e7 25 [.d v] T=KQ (.str (tS v),T):=x9 4 25 v T (da h).1 (da h).2 (by simp)
noncomputable def znl(h:au v=G3)(T:Tp):fh 25 [.d v] T=KQ (.str (tS v),T):=sP 4 25 v T (da h).1 (da h).2 (by simp)
noncomputable def Zm(rd:PR):List PyData:=rd.map λq=>.tuple [.str q.1,.str (tS q.2)]
inductive ZE:OY->OY->Prop where
 |md {v:OY}:au v=G3->ZE (Z4 v) (.tuple [.str "made",.str (tS v)])
 |fl {x:Str}:isName (.str x)=G3->ZE (ZC x) (ZC x)
noncomputable def ended(h:DC r rd S)(ha:cb S=HA):∃E,ZE S E/\endOf S=S:=by
 cases h.st with
 |md hv=>exact⟨_,.md hv,pz⟩
 |fl hx=>exact⟨_,.fl hx,tK⟩
 |ask _ _ _ _ _=>simp_all
theorem AO{ρ:YR}{T:Tp}:∀{rd:PR},Iq rd->gj bU (av .tuple (ab (aa 0) (ab (ar (e7 25) (ab (aa 1) ag)) ag))) ρ (PL rd) T=KQ (Zm rd,T)
 |[],_=>rfl
 |(x,v)::r,h=>by
  have ih:=AO (ρ:=ρ) (T:=T)  λq hq=>h q (Pc _ hq);have e:=yz (h _ Pf) T;show gj _ _ ρ (.tuple [.str x,v]::PL r) T=_;unfold gj;simp[e,ih,Zm]
noncomputable def znm(T:Tp)(hx:RX C 0 n c ws r)(hn:n<=20)(ho:Iq rd)(hE:ZE S E):i9 [.d r,.d (.tuple [.list (PL rd),S])] T=KQ (.tuple [.str (PF BL ws),.tuple (Zm rd),E],T):=by
 have sh:=zkn hx hn;have cr:=λρ=>AO (ρ:=ρ) (T:=T) ho
 cases hE with
 |md hv=>
  have st:=yz hv;simp[i9,Z4,st,sh,pq,cr]
 |fl Dc=>
  simp[i9,ZC,sh,pq,cr]
theorem k2:cm [a,b] (KQ 2) HA=[]:=rfl
theorem k3:cm [a,b,c] (KQ 2) HA=[c]:=rfl
theorem k4:cm [a,b,c,d] (KQ 2) HA=[c,d]:=rfl
noncomputable def znn(h:Rg Gy g n r):∀(k:Nat) (T:Tp),n<k->ip k [.d r] T=KQ (.bool G3,T):=by
 induction h with
 |fail _=>
  intro k T hk;obtain⟨k,rfl⟩:=aS k (by omega);simp[ip,k2,bH];rfl
 |say _=>
  intro k T hk;obtain⟨k,rfl⟩:=aS k (by omega);simp[ip,k2,bH];rfl
 |ask hw _ _ _ ih=>
  intro k T hk;obtain⟨k,rfl⟩:=aS k (by omega);have e:=ih k T (by omega)
  rcases hw with rfl|⟨_,z⟩
  .simp[ip,k3,bH,e]
   rfl
  .cases z
 |whn _ _ _ uR yZ=>
  intro k T hk;obtain⟨k,rfl⟩:=aS k (by omega);have e1:=uR k T (by omega);have e2:=yZ k T (by omega);simp[ip,k4,bH,e1,e2,iO];rfl
noncomputable def z7(ha:Qk a=G3)(hb:Qk b=G3):Fe (.tuple [.str a,.str b]) (.tuple [.str a,.str b])=KQ (.bool G3):=by
 have h:PN (.tuple [.str a,.str b])=G3:=by simp[PN,Q9,Qz,Sj,Rf,ha,hb]
 unfold Fe;rw[if_pos ⟨h,h⟩];simp[PH,Qd]
noncomputable def xq(h:∀c∈cd x,c<128):Qk x=G3:=by
 unfold Qk;rw[←W2,Po];intro c hc;have:=h c hc
 grind
noncomputable def mO(h:au v=G3):Qk (tS v)=G3:=xq λc hc=>((w8 h).1 c hc).1
noncomputable def zno(h:au v=G3):f7 v .none=KQ (.bool G3):=by cases v <;> first|rfl|exact absurd h (by decide)
noncomputable def zm(h:au v=G3)(T:Tp):jX [.d (.str (tS v))] T=KQ (.bool G3,T):=by
 have e:=λT=>mM  T h;have hi:bQ .str .str=G3:=rfl;have n:=zno h;show jX [.d (.str (mk _))] T=_;simp[jX,e,n]
noncomputable def AC(h:isName (.str x)=G3)(T:Tp):eP [.d (.str x)] T=KQ (.bool G3,T):=by rw[oj T (gJ h),h]
noncomputable def znp(hx:isName (.str x)=G3)(hv:au v=G3)(T:Tp):lM [.d (.tuple [.str x,.str (tS v)])] T=KQ (.bool G3,T):=by
 have a:=AC hx;have b:=zm hv;have hi:bQ .tup .tup=G3:=rfl;simp[lM,a,b]
noncomputable def znq(hl:rd.length<=12)(ho:Iq rd)(hn:∀q∈rd,isName (.str q.1)=G3)(T:Tp):nE [.d (.tuple (Zm rd))] T=KQ (.bool G3,T):=by
 have l:(Zm rd).length=rd.length:=by simp[Zm]
 have l2:¬12<(rd.length:Int):=by lia
 have hi:bQ .tup .tup=G3:=rfl
 have c:=gH (e:=ar lM (ab (aa 0) ag)) (ρ:=[KQ (.d (.tuple (Zm rd)))]) (T:=T) (g:=λ_=>.bool G3) (ds:=Zm rd) λd hd=>by
  obtain⟨q,hq,rfl⟩:=PD.mp hd
  have:=znp (hn q hq) (ho q hq) T<;>simp_all
 have al:hW [.list ((Zm rd).map λ_=>.bool G3)]=KQ (.bool G3):=by simp
 simp[nE,l,l2,c,al]
noncomputable def znr(h:ZE S E)(T:Tp):lR [.d E] T=KQ (.bool G3,T):=by
 have hi:bQ .tup .tup=G3:=rfl;have hs:bQ .str .str=G3:=rfl
 cases h with
 |md hv=>
  have b:=zm hv;simp[lR,b]
 |fl hx=>
  have a:=AC hx;have i6:inD (.str "fails") (.tuple [.str "fails",.str "wants"])=KQ (.bool G3):=rfl;simp[lR,ZC,a,i6]
theorem AN{ρ:YR}{T:Tp}:∀{rd:PR},Iq rd->bH bU (av .tuple (ab (ae Y8 (aa 0) (fC (.int 0))) (ab (ar iu (ab (ae Y8 (aa 0) (fC (.int 1))) ag)) ag))) ρ (Zm rd) T=KQ (PL rd,T)
 |[],_=>rfl
 |(x,v)::r,h=>by
  have ih:=AN (ρ:=ρ) (T:=T)  λq hq=>h q (Pc _ hq);have e:iu [.d (.str (tS v))] T=KQ _:=mM T (h _ Pf);show bH _ _ ρ (.tuple [.str x,.str (tS v)]::Zm r) T=_;unfold bH;simp[e,ih,PL]
noncomputable def zns(hr:Rg Gy 0 20 r)(h:DC r rd S)(hE:ZE S E)(he:endOf S=S)(T:Tp):lI [.d r,.d (.tuple (Zm rd)),.d E] T=KQ (.bool G3,T):=by
 have cv:=λρ=>AN (ρ:=ρ) (T:=T) h.ok
 have rp:j3 [.d r,.d (.list (PL rd)),.d (.list [])] T=KQ (S,T):=by
  have e:=zlt (pk:=[]) T hr h.ok (λq hq=>by simp_all);rw[zna h.pt h.ln h.no,he] at e;exact e
 cases hE with
 |md hv=>
  have st:=znl hv;have q:Fe (.tuple [.str "made",.str _]) _=KQ _:=z7 (by decide +kernel) (mO hv);unfold Z4 at rp;simp[lI,cv,rp,st,q]
 |fl hx=>
  have q:=z7 (a:=OZ "fails") (by decide +kernel) (gJ hx).ok;unfold ZC at rp ⊢;simp[lI,cv,rp,q]
noncomputable def znt(h:Rg p g n r):f7 r .none=KQ (.bool G3):=by cases h <;> rfl
noncomputable def znu(hx:RX C 0 n c ws r)(hn:n<=20)(hr:Rg Gy 0 20 r)(h:DC r rd S)(hE:ZE S E)(he:endOf S=S):nG C [.d (.tuple [.str (PF BL ws),.tuple (Zm rd),E])] []=KQ (.bool G3,[]):=by
 have a1:=znq h.ln h.ok h.nm;have a2:=znr hE
 have a3:nq C [.d (.str (PF BL ws))] []=KQ (r,[]):=by
  have:=mL (t0:=[]) hx hn;simp[nq,this]
 have a4:=λT=>znn hr 25 T (by simp);have a5:=zns hr h hE he;have a6:=znt hr;have hi:bQ .tup .tup=G3:=rfl;have hs:bQ .str .str=G3:=rfl
 have e0:∃w x,E=.tuple [.str (OZ w),.str x]/\¬w="wants":=by
  cases hE with
  |md _=>exact⟨"made",_,rfl,by decide⟩
  |fl _=>exact⟨"fails",_,rfl,by decide⟩
 obtain⟨w,x,rfl,nw⟩:=e0;have z0:∀a b c:OY,Zd [a,b,c] 0=KQ a:=λ_ _ _=>rfl;have z1:∀a b c:OY,Zd [a,b,c] 1=KQ b:=λ_ _ _=>rfl;have z2:∀a b c:OY,Zd [a,b,c] 2=KQ c:=λ_ _ _=>rfl;simp[nG,a1,a2,nw,a3,a6,a4,a5]
structure En(C:Addr)(ws:List Str)(r:OY)(rd:PR)(S E:OY):Prop where
 rx:∃n c,RX C 0 n c ws r/\n<=20
 rg:Rg Gy 0 20 r
 pw:DC r rd S
 en:ZE S E
 eo:endOf S=S
noncomputable def KW(ws:List Str)(rd:PR)(E:OY):PyData:=.tuple [.str (PF BL ws),.tuple (Zm rd),E]
def CA(C:Addr)(d:OY):Prop:=∃ws r rd S E,En C ws r rd S E/\d=KW ws rd E
def CA.true(h:CA C d):nG C [.d d] []=KQ (.bool G3,[]):=by
 obtain⟨ws,r,rd,S,E,h,rfl⟩:=h;obtain⟨n,c,hx,hn⟩:=h.rx;exact znu hx hn h.rg h.pw h.en h.eo
noncomputable def jF(v:OY):PyData:=.tuple [.str "say",.tuple [.str "put",v]]
def jE(v:OY):List Str:=[OZ "say",OZ "put",tS v]
noncomputable def zr(h:au v=G3):RX C 0 2 2 (jE v) (jF v):=by
 have e:=oK (C:=C) (w:="say") (qs:=[]) (g:=0) (g':=0) (by simp) (by decide +kernel) (by simp) (by simp[Jq,hZ]) (by simp[D.atT,hZ]) (by simp) (by simp) (by decide) (An (C:=C) (m:=0) (n:=1) (by decide) h) (λq hq=>by cases hq) (by simp);simpa[jE,jF,tS] using e
noncomputable def zt(h:au v=G3):Rg Gy 0 20 (jF v):=tV (.say (n:=1) (.put h)) 20 (by decide)
def Nt(d:OY):Prop:=∀ws rd E,d=KW ws rd E->PF BL ws≠PF BL (jE P7)/\PF BL ws≠PF BL (jE P8)
def Cg:au P7=G3/\au P8=G3:=by decide +kernel
noncomputable def znv(hx:RX C 0 n c ws r)(hn:n<=20)(h:NR r):Nt (KW ws rd E):=λHK JE E' e=>by
 have ej:PF BL ws=PF BL HK:=by
  unfold KW at e
  injection e with e
  injection e with e _
  injection e
 have key:∀{v:OY},au v=G3->¬NV v->PF BL HK≠PF BL (jE v):=λ{v} hv Kw z=>by
  have a:=mL (t0:=[]) hx hn;have b:=mL (C:=C) (t0:=[]) (zr hv) (by decide);rw[ej,z,b] at a;cases a;exact Kw (h _ rfl v rfl)
 exact⟨key Cg.1 λz=>z.1 rfl,key Cg.2 λz=>z.2 rfl⟩
noncomputable def znw{C:Addr}{ns:List Int}{kk:Nat}{l:List Str}{r:OY}(T:Tp)(hk:kk<=1000)(hl:KM l)(hb:RB C Gy 0 6 (rq 3) r)(nr:NR r):∃x d,jQ [.d (bR ns),.d (.int (kk:Int)),.d (.list (Zp l)),.d r] T=KQ (x,T)/\i9 [.d r,.d x] T=KQ (d,T)/\CA C d/\Nt d:=by
 obtain⟨⟨c,ws,hx,_⟩,hr⟩:=hb;have FL:=tV hr 20 (by decide);obtain⟨rd,S,e1,hp,ha⟩:=zng (ns:=ns) T hk hl FL;obtain⟨E,hE,he⟩:=ended hp ha;rw[he] at e1;exact⟨_,_,e1,znm T hx (by decide) hp.ok hE,⟨ws,r,rd,S,E,⟨⟨_,_,hx,by decide⟩,FL,hp,hE,he⟩,rfl⟩,znv hx (by decide) nr⟩
noncomputable def znx(ls:List (List Nat))(h:c∈bg [32] ls):c=32\/∃l∈ls,c∈l:=by
 cases ls with
 |nil=>cases h
 |cons x r=>
  rw[lV] at h
  rcases Pt.mp h with z|z
  .exact .inr ⟨x,Pf,z⟩
  .grind
noncomputable def yr(h:∀w∈ws,N3 (cd w)):Qk (PF BL ws)=G3:=xq λc hc=>by
 rw[kc] at hc
 rcases znx _ hc with rfl|⟨l,hl,hc⟩
 .decide
 .obtain⟨w,hw,rfl⟩:=PD.mp hl
  exact(h w hw c hc).1
theorem yB:∀{rd:PR},Iq rd->(∀q∈rd,isName (.str q.1)=G3)->Qz (Zm rd)=G3/\Rf (Zm rd)<=5
 |[],_,_=>by simp[Zm,Qz,Rf]
 |(x,v)::r,h,hn=>by
  obtain⟨i1,i2⟩:=yB  (λq hq=>h q (Pc _ hq)) λq hq=>hn q (Pc _ hq);have a:=(gJ (hn _ Pf)).ok;have b:=mO (h _ Pf);have e:Zm ((x,v)::r)=.tuple [.str x,.str _]::Zm r:=rfl;rw[e];simp[Qz,Q9,Rf,Sj,i1,a,b]
  lia
noncomputable def qJ(h:CA C d):PN d=G3:=by
 obtain⟨ws,r,rd,S,E,h,rfl⟩:=h;obtain⟨n,c,hx,hn⟩:=h.rx;have a:=yr λw hw=>(hx.ok w hw).1;obtain⟨b1,b2⟩:=yB h.pw.ok h.pw.nm
 have e0:∃w x,E=.tuple [.str w,.str x]/\Qk w=G3/\Qk x=G3:=by
  cases h.en with
  |md hv=>exact⟨_,_,rfl,by decide +kernel,mO hv⟩
  |fl hx=>exact⟨_,_,rfl,by decide +kernel,(gJ hx).ok⟩
 obtain⟨w,x,rfl,o1,o2⟩:=e0;simp[KW,PN,Qz,Q9,Rf,Sj,a,b1,o1,o2]
 lia
theorem yL:∀(a b:PR),Qd (Zm a) (Zm b)=G3↔Zm a=Zm b
 |[],[]=>by simp[Zm,Qd]
 |[],q::b=>by simp[Zm,Qd]
 |q::a,[]=>by simp[Zm,Qd]
 |(x,v)::a,(y,u)::b=>by
  have ih:=yL a b;show Qd (.tuple [.str x,.str (tS v)]::Zm a) (.tuple [.str y,.str (tS u)]::Zm b)=G3↔Rz [.str x,.str (tS v)]::Zm a=.tuple [.str y,.str (tS u)]::Zm b;simp[Qd,PH,ih]
noncomputable def zny(h:CA C d):PH d d=G3:=by
 obtain⟨ws,r,rd,S,E,h,rfl⟩:=h
 have e0:∃w x,E=.tuple [.str w,.str x]:=by
  cases h.en with
  |md hv=>exact⟨_,_,rfl⟩
  |fl hx=>exact⟨_,_,rfl⟩
 obtain⟨w,x,rfl⟩:=e0;simp[KW,PH,Qd,(yL rd rd).mpr rfl]
section
variable {C:Addr}{ns:List Int}{l:List Str}{T:Tp}
noncomputable def BD(ns:List Int)(l:List Str)(ds:List OY)(o3 o4 o5 o6:Option D.W):YR:=[KQ (.d (bR ns)),KQ (.d (.list (Zp l))),KQ (.loc (.list ds)),o3,o4,o5,o6]
def jO(C:Addr)(ds:List OY):Prop:=(∀d∈ds,CA C d/\Nt d)/\ds.Nodup
noncomputable def en1{ds:List OY}{r:OY}{i j:Nat}{o6:Option D.W}(hl:KM l)(hb:RB C Gy 0 6 (rq 3) r/\NR r)(hi:i<=10)(hj:j<=10)(hd:jO C ds)(hn:ds.length<=100):∃Gf IH,jS (BD ns l ds (KQ (.d (.int (i:Int)))) (KQ (.d r)) (KQ (.d (.int (j:Int)))) o6) T=KQ ((.nx,BD ns l Gf (KQ (.d (.int (i:Int)))) (KQ (.d r)) (KQ (.d (.int (j:Int)))) IH),T)/\jO C Gf/\Gf.length<=ds.length+1:=by
 obtain⟨x,d,e1,e2,hE,Cw⟩:=znw (C:=C) (ns:=ns) (kk:=20+3*i+j) T (by omega) hl hb.1 hb.2
 have ki:((20+3*i+j:Nat):Int)=20+3*(i:Int)+(j:Int):=by omega
 rw[ki] at e1;have hz:ds.length<sizeLine:=Qs hn (by decide);have sh:ds.all PN=G3:=Po.mpr λy hy=>qJ (hd.1 y hy).1
 have q:Ko iU T (.d d) (.loc (.list ds))=Ew T (KQ (.bool (!ds.any λy=>PH y d))):=by
  show Ew T (if PN d=G3/\ds.all PN=G3 then KQ (.bool (!ds.any λy=>PH y d)) else HA)=_;rw[if_pos ⟨qJ hE,sh⟩]
 cases hc:ds.any λy=>PH y d with
 |true=>
  rw[hc] at q;refine⟨ds,KQ (.d d),?_,hd,by omega⟩;simp[jS,BD,e1,e2,q]
 |false=>
  rw[hc] at q
  have nm:d∉ds:=λz=>by
   have E8:(ds.any λy=>PH y d)=G3:=Th.mpr ⟨d,z,zny hE⟩;rw[hc] at E8;cases E8
  refine⟨ds++[d],KQ (.d d),?_,⟨λy hy=>?_,QR.mpr ⟨hd.2,by simp,λa ha b hb z=>nm (by rw[Py.mp hb] at z;rw[←z];exact ha)⟩⟩,by simp⟩
  .simp[jS,BD,e1,e2,q,hz]
  .rcases Pt.mp hy with z|z
   .exact hd.1 y z
   .rw[Py.mp z]
    exact⟨hE,Cw⟩
theorem en2{r:OY}{i:Nat}(hl:KM l)(hb:RB C Gy 0 6 (rq 3) r/\NR r)(hi:i<=10):∀(js:List Nat) (ds:List OY) (o5 o6:Option D.W),(∀j∈js,j<=10)->jO C ds->ds.length+js.length<=100->∃Gf wN IH,forL 5 jS (js.map λ(j:Nat)=>Vc (j:Int)) (BD ns l ds (KQ (.d (.int (i:Int)))) (KQ (.d r)) o5 o6) T=KQ ((.nx,BD ns l Gf (KQ (.d (.int (i:Int)))) (KQ (.d r)) wN IH),T)/\jO C Gf/\Gf.length<=ds.length+js.length
 |[],ds,o5,o6,_,hd,_=>⟨ds,o5,o6,rfl,hd,by simp⟩
 |j::js,ds,o5,o6,hj,hd,hn=>by
  simp only[P9] at hn;obtain⟨d1,p6,e1,a1,l1⟩:=en1 (ns:=ns) (T:=T) (o6:=o6) hl hb hi (hj j Pf) hd (by omega);obtain⟨d2,p5,q6,e2,a2,l2⟩:=en2 hl hb hi js d1 (KQ (.d (.int (j:Int)))) p6 (λx hx=>hj x (Pc _ hx)) a1 (by omega);refine⟨d2,p5,q6,?_,a2,by simp only[P9];omega⟩;exact(fm e1).trans e2
noncomputable def zC{ds:List OY}{i:Nat}{o4 o5 o6:Option D.W}(hl:KM l)(hi:i<=10)(hd:jO C ds)(hn:ds.length<=50):∃Gf Dm wN IH,nB (BD ns l ds (KQ (.d (.int (i:Int)))) o4 o5 o6) T=KQ ((.nx,BD ns l Gf (KQ (.d (.int (i:Int)))) Dm wN IH),T)/\jO C Gf/\Gf.length<=ds.length+3:=by
 obtain⟨r,e,hb⟩:=znk (C:=C) (p:=Gy) (ns:=ns) (kk:=10+i) T (by omega) hl
 have ki:((10+i:Nat):Int)=10+(i:Int):=by omega
 rw[ki] at e;obtain⟨d2,p5,q6,e2,a2,l2⟩:=en2 (ns:=ns) (T:=T) hl hb hi [0,1,2] ds o5 o6 (by decide) hd (by simp;omega);refine⟨d2,KQ (.d r),p5,q6,?_,a2,by simpa using l2⟩;have Jd:forL 5 jS (dF 0 3) _ T=_:=e2;unfold BD at Jd
 have ro:iK 3=G3:=by decide
 simp[nB,BD,e,ro,Jd]
noncomputable def znz(hl:KM l):∃ds,ql [.d (bR ns),.d (.list (Zp l))] T=KQ (.list ds,T)/\jO C ds/\ds.length<=9:=by
 obtain⟨d1,a4,a5,a6,e1,h1,l1⟩:=zC (C:=C) (ns:=ns) (T:=T) (i:=0) (o4:=HA) (o5:=HA) (o6:=HA) hl (by omega) (ds:=[]) ⟨λd hd=>(by cases hd),Sv⟩ (by simp);obtain⟨d2,b4,b5,b6,e2,h2,l2⟩:=zC (C:=C) (ns:=ns) (T:=T) (i:=1) (o4:=a4) (o5:=a5) (o6:=a6) hl (by omega) h1 (by simp at l1;omega);obtain⟨d3,c4,c5,c6,e3,h3,l3⟩:=zC (C:=C) (ns:=ns) (T:=T) (i:=2) (o4:=b4) (o5:=b5) (o6:=b6) hl (by omega) h2 (by simp at l1;omega);refine⟨d3,?_,h3,by simp at l1;omega⟩
 have lp:forL 3 nB (dF 0 3) (BD ns l [] HA HA HA HA) T=KQ ((.nx,BD ns l d3 (KQ (.d (.int 2))) c4 c5 c6),T):=
  (fm e1).trans ((fm e2).trans ((fm e3).trans rfl))
 unfold BD at lp
 have ro:iK 3=G3:=by decide
 rw[zii];unfold bR at lp ⊢;simp[ro,lp]
end
def Ip.back(h:Ip r ru S):∀{rd:PR}{x:Str}{v:OY},ru=rd++[(x,v)]->∃S0 r',Ip r rd S0/\cb S0=KQ (Gy,x,r')/\S=ZK r' (sn rd++[v]):=by
 cases h with
 |nil=>
  simp_all
 |snoc hp ha=>
  intro rd x v e;obtain⟨rfl,e2⟩:=List.append_inj' e rfl;cases e2;exact⟨_,_,hp,ha,rfl⟩
def Ip.one(h:Ip r rd S):∀{S':OY},Ip r rd S'->S=S':=by
 induction h with
 |nil=>
  intro S' h';generalize e:([])=q at h'
  cases h' <;>simp_all
 |snoc hp ha ih=>
  intro S' h'
  obtain⟨S0,r1,hp',B6,rfl⟩:=h'.back rfl<;>grind
theorem Ip.asks:∀(n:Nat) (more:PR) {S:OY},more.length=n->Ip r (rd++(x,v)::more) S->∃S0 r',Ip r rd S0/\cb S0=KQ (Gy,x,r')
 |0,more,S,hn,h=>by
  cases Rp hn;obtain⟨S0,r',a,b,_⟩:=h.back rfl;exact⟨S0,r',a,b⟩
 |n+1,more,S,hn,h=>by
  rcases Ri more with rfl|⟨m',q,rfl⟩
  .cases hn
  .obtain⟨y,u⟩:=q
   obtain⟨S0,r',a,_,_⟩:=h.back (rd:=rd++(x,v)::m') (x:=y) (v:=u) (by simp);exact Ip.asks n m' (by simpa using hn) a
noncomputable def zoa(hv:au v=G3)(hu:au u=G3)(h:tS v=tS u):v=u:=by
 have a:=mM  [] hv;have b:=mM  [] hu
 have h':mk _=mk _:=h<;>simp_all
theorem sf:∀{rd ru:PR},Iq rd->Iq ru->Zm rd=Zm ru->rd=ru
 |[],[],_,_,_=>rfl
 |[],_::_,_,_,h=>by cases h
 |_::_,[],_,_,h=>by cases h
 |(x,v)::r,(y,u)::s,h1,h2,h=>by
  have e:Rz [.str x,.str (tS v)]::Zm r=.tuple [.str y,.str (tS u)]::Zm s:=h;simp  at e;obtain⟨⟨rfl,e2⟩,e3⟩:=e;have ev:v=u:=zoa (h1 _ Pf) (h2 _ Pf) e2;rw[ev,sf (λq hq=>h1 q (Pc _ hq)) (λq hq=>h2 q (Pc _ hq)) e3]
def En.same_r(h:En C ws r rd S E)(h':En C HK r' JE S' E')(ht:PF BL ws=PF BL HK):r=r':=by
 obtain⟨n,c,hx,hn⟩:=h.rx;obtain⟨n',c',Dc,Kw⟩:=h'.rx;have a:=mL (t0:=[]) hx hn
 have b:=mL (t0:=[]) Dc Kw<;>simp_all
def ZE.no(h:ZE S E):cb S=HA:=by cases h <;>simp_all
def ZE.one(h:ZE S E)(h':ZE S E'):E=E':=by
 cases h with
 |md _=>
  generalize e:Z4 _=S at h'
  cases h' with
  |md _=>cases e;rfl
  |fl _=>exact absurd e (by simp[Z4,ZC])
 |fl _=>
  generalize e:ZC _=S at h'
  cases h' with
  |md _=>exact absurd e (by simp[Z4,ZC])
  |fl _=>rfl
def En.end_one(h:En C ws r rd S E)(h':En C HK r' rd S' E')(ht:PF BL ws=PF BL HK):E=E':=by
 cases h.same_r h' ht;cases h.pw.pt.one h'.pw.pt;exact h.en.one h'.en
def En.no_more(h:En C ws r rd S E)(h':En C HK r' (rd++q::more) S' E')(ht:PF BL ws=PF BL HK):False:=by
 cases h.same_r h' ht;obtain⟨S0,r1,a,b⟩:=Ip.asks _ more rfl h'.pw.pt;cases h.pw.pt.one a;rw[h.en.no] at b;cases b
def En.next_one(h:En C ws r (rd++(x,v)::m) S E)(h':En C HK r' (rd++(y,u)::m') S' E')(ht:PF BL ws=PF BL HK):x=y:=by
 cases h.same_r h' ht;obtain⟨S0,r1,a,b⟩:=Ip.asks m.length m rfl h.pw.pt;obtain⟨S1,r2,a',b'⟩:=Ip.asks m'.length m' rfl h'.pw.pt;cases a.one a';rw[b] at b';cases b';rfl
noncomputable def sL{α:Type}(xs:List α)(a:Nat):cm xs HA (KQ (a:Int))=xs.take a:=by
 have e:HT.Zg xs.length 0 HA=0:=rfl;have e2:HT.Zg xs.length xs.length (KQ (a))=min a xs.length:=rfl
 unfold cm<;>simp_all
abbrev TE:=Str×PR×OY
noncomputable def YV(e:TE):PyData:=.tuple [.str e.1,.tuple (Zm e.2.1),e.2.2]
def Cu(a:PR):Prop:=Iq a/\∀q∈a,isName (.str q.1)=G3
theorem Cu.take(h:Cu a)(n:Nat):Cu (a.take n):=⟨λq hq=>h.1 q (Qr hq),λq hq=>h.2 q (Qr hq)⟩
open Classical in
noncomputable def bV(t:Str)(q:PR):List TE->OY->OY
 |[],a=>a
 | e::es,a=>if e.1=t/\e.2.1=q then e.2.2 else if e.1=t/\e.2.1.take q.length=q then bV t q es (match e.2.1[q.length]? with
  |some p=>.str p.1
  | none=>.none) else bV t q es a
def rB:(Zm a).take n=Zm (a.take n):=by simp[Zm]
noncomputable def xU{α:Type}(xs:List α)(a b:Nat)(h:a<=xs.length)(h2:b<=xs.length):cm xs (KQ (a:Int)) (KQ (b:Int))=(xs.drop a).take (b-a):=by
 have e1:HT.Zg xs.length 0 (KQ (a))=a:=by
  show (if (a:Int)<0 then ((a:Int)+(xs.length)).toNat else min _ _)=_<;>grind
 have e2:HT.Zg xs.length xs.length (KQ (b))=b:=by
  show (if (b:Int)<0 then ((b)+(xs.length:Int)).toNat else min _ _)=_<;>grind
 unfold cm;rw[e1,e2]
noncomputable def zX(xs:List Int)(a b:Nat):((il xs).drop a).take b=il ((xs.drop a).take b):=by simp[il]
noncomputable def Lp:List Str:=["told","made","want","say","a","b","wants","fails","got","when","put","ab"].map OZ
noncomputable def zob:∀x∈Lp,isName (.str x)=G3:=by
 have h:Lp.all (λx=>isName (.str x))=G3:=rfl;exact λx hx=>Po.mp h x hx
noncomputable def yv(h1:1<=x.length)(h8:x.length<=8)(h:has Z1 x=G3):isName (.str x)=G3:=by show (decide _&&decide _&&has Z1 x)=G3<;>simp_all
noncomputable def zoc(h:isName (.str x)=G3):1<=x.length/\x.length<=8/\has Z1 x=G3:=by have h':(decide _&&decide _&&has Z1 x)=G3:=h<;>simp_all
noncomputable def y0{i:Int}(h0:0<=i)(h1:i<26):∃c,c∈Z1.cps.toList/\Y8 (.str Z1) (.int i)=KQ (.str ⟨#[c]⟩):=by
 obtain⟨c,e,hm⟩:=gT  h0 (by rw[zil];exact h1);refine⟨c,hm,?_⟩;rw[Jc,e];rfl
theorem wI{ρ:YR}{T:Tp}(hv:aa 3 ρ T=KQ (.d (.str Z1),T)):∀(xs:List Int),(∀x∈xs,0<=x/\x<26)->∃ys,bH bU (ae Y8 (aa 4) (aa 0)) ρ (il xs) T=KQ (ys,T)/\ys.length=xs.length/\∀d∈ys,∃c,c∈Z1.cps.toList/\d=.str ⟨#[c]⟩
 |[],_=>⟨[],rfl,rfl,λd hd=>by simp_all⟩
 |x::xs,h=>by
  obtain⟨ys,e,hl,hy⟩:=wI hv xs λy hy=>h y (Pc _ hy);obtain⟨c,hc,ec⟩:=y0 (h x Pf).1 (h x Pf).2;refine⟨.str ⟨#[c]⟩::ys,?_,by simp[hl],λd hd=>?_⟩
  .unfold il at e ⊢
   simp[bH,hv,ec,e]
  .rcases Pr.mp hd with rfl|hd
   .exact⟨c,hc,rfl⟩
   .exact hy d hd
structure EA(p:List Int):Prop where
 ln:p.length=9
 p0:∃c,p[0]? = KQ c/\0<=c/\c<8
 p1:∀i,1<=i->i<9->∃c,p[i]? = KQ c/\0<=c/\c<26
noncomputable def tG(w:Str)(xs:List Str):inD (.str w) (.list (Zp xs))=KQ (.bool (decide (w∈xs))):=by
 have h:(xs.map QP).all dG=G3:=by simp[dG]
 show (if dG _&&(xs.map _).all _ then KQ ((xs.map _).any λy=>HZ y _) else HA).map _=_;simp[dG,HZ]
 induction xs with
 |nil=>simp
 |cons a r ih=>
  have ih':=ih (by simp[dG])
  simp_all
  by_cases e:w=a
  .simp_all
  .have e':¬a=w:=λz=>e z.symm<;>simp_all
noncomputable def zod(w:Str)(xs:List Str):eV (.str w) (.list (Zp xs))=KQ (.bool (!decide (w∈xs))):=by
 have h:=tG w xs;unfold inD at h
 unfold eV<;>simp_all
theorem zO{α:Type}[DecidableEq α]:∀{L N:List α},L.Nodup->N.length<L.length->∃x∈L,x∉N
 |[],N,_,h=>absurd h (by simp)
 |a::L,N,nd,h=>by
  rw[RN] at nd
  by_cases ha:a∈N
  .have hp:(N.erase a).length<L.length:=by grind
   obtain⟨x,hx,nx⟩:=zO nd.2 hp;refine⟨x,Pc _ hx,λz=>nx ?_⟩;exact(List.mem_erase_of_ne (λ(q:x=a)=>nd.1 (q ▸ hx))).mpr z
  .exact⟨a,Pf,ha⟩
noncomputable def Fm:List Str:=["u","v","w","x","y","z"].map OZ
theorem zoe:D.signs "uvwxyz"=Zp Fm :=rfl
def zof:Fm.Nodup:=by decide +kernel
noncomputable def zog:∀x∈Fm,isName (.str x)=G3:=by
 have h:Fm.all (λx=>isName (.str x))=G3:=rfl;exact λx hx=>Po.mp h x hx
noncomputable def zoh(h:l.length<6)(ρ:YR)(T:Tp)(hv:∀d,aa 7 (KQ (.d d)::ρ) T=KQ (.loc (.list (Zp l)),T)) :
  ∃x ys,isName (.str x)=G3/\bH (aq (ae eV (aa 0) (aa 7))) (aa 0) ρ (D.signs "uvwxyz") T=KQ (.str x::ys,T):=by
 have c:bH (aq (ae eV (aa 0) (aa 7))) _ ρ _ T=KQ ((Zp Fm).filter (λd=>match d with | .str x=>!decide (x∈l)|_=>Gy),T):=qo λd hd=>by
  obtain⟨x,hx,rfl⟩:=PD.mp hd;have:Ko eV T (.d (.str x)) (.loc (.list (Zp l)))=Ew T _:=rfl;simp[hv,this,zod]
 rw[zoe,c];obtain⟨x,hx,nx⟩:=zO  zof h
 have hm:QP x∈(Zp Fm).filter (λd=>match d with | .str x=>!decide (x∈l)|_=>Gy):=by
  rw[QH];exact⟨PD.mpr ⟨x,hx,rfl⟩,by simp[nx]⟩
 cases hf:(Zp Fm).filter _ with
 |nil=>simp_all
 |cons d r=>
  have hd:d∈(Zp Fm).filter (λd=>match d with | .str x=>!decide (x∈l)|_=>Gy):=by simp_all
  rw[QH] at hd;obtain⟨y,hy,rfl⟩:=PD.mp hd.1;exact⟨y,r,zog y hy,rfl⟩
noncomputable def KI:List Int:=5::([8,26,26,26,26,26,26,26,26]++[8,26,26,26,26,26,26,26,26]++[8,26,26,26,26,26,26,26,26]++[8,26,26,26,26,26,26,26,26])
noncomputable def Ap:∀j,j<4->∀i,i<9->KI[1+9*j+i]? = KQ (if i=0 then 8 else 26):=by decide
noncomputable def part6(h:E9 KI cs)(hj:j<4):EA ((cs.drop (1+9*j)).take 9):=by
 have hl:cs.length=37:=h.1;refine⟨by simp;lia,?_,λi h1 hi=>?_⟩
 .obtain⟨c,e,b⟩:=h.at _ (Ap j hj 0 (by simp))
  exact⟨c,by simp_all,b⟩
 .obtain⟨c,e,b⟩:=h.at _ (Ap j hj i hi)
  rw[if_neg (by lia)] at b;exact⟨c,by simp_all,b⟩
noncomputable def DL(ns cs:List Int)(l:List Str)(o7 o8 o9:Option D.W):YR:=[KQ (.d (bR ns)),KQ (.d (.int 0)),KQ (.d (.int 4)),KQ (.d (.str Z1)),KQ (.d (.list (Zp Lp))),KQ (.loc (.list (il cs))),KQ (.loc (.list (Zp l))),o7,o8,o9]
def Y0(C:Addr)(e:TE):Prop:=∃ws r S,En C ws r e.2.1 S e.2.2/\e.1=PF BL ws
theorem CA.te(h:CA C d):∃e,d=YV e/\Y0 C e:=by
 obtain⟨ws,r,rd,S,E,h,rfl⟩:=h;exact⟨(PF BL ws,rd,E),rfl,ws,r,S,h,rfl⟩
def Y0.en(h:Y0 C e):CA C (YV e):=by
 obtain⟨ws,r,S,h,he⟩:=h;exact⟨ws,r,e.2.1,S,e.2.2,h,by unfold YV KW;rw[he]⟩
theorem Ak{C:Addr}:∀{ds:List OY},(∀d∈ds,CA C d)->∃es:List TE,ds=es.map YV/\∀e∈es,Y0 C e
 |[],_=>⟨[],rfl,λe he=>by cases he⟩
 |d::ds,h=>by
  obtain⟨es,e1,e2⟩:=Ak (ds:=ds) λx hx=>h x (Pc _ hx);obtain⟨e,a,b⟩:=(h d Pf).te;refine⟨e::es,by rw[a,e1];rfl,λx hx=>?_⟩
  rcases Pr.mp hx with rfl|hx
  .exact b
  .exact e2 x hx
def Y0.gd(h:Y0 C e):Cu e.2.1:=by
 obtain⟨ws,r,S,h,he⟩:=h;exact⟨h.pw.ok,h.pw.nm⟩
def Y0.few(h:Y0 C e):e.2.1.length<=12:=by
 obtain⟨ws,r,S,h,he⟩:=h;exact h.pw.ln
def Y0.txt(h:Y0 C e):Qk e.1=G3:=by
 obtain⟨ws,r,S,h,he⟩:=h;obtain⟨n,c,hx,hn⟩:=h.rx;rw[he];exact yr λw hw=>(hx.ok w hw).1
def Bs(d:OY):Prop:=∃w x,d=.tuple [.str w,.str x]/\Qk w=G3/\Qk x=G3
def Y0.fin(h:Y0 C e):Bs e.2.2:=by
 obtain⟨ws,r,S,h,he⟩:=h;have hE:=h.en;generalize e.2.2=E at hE
 cases hE with
 |md hv=>exact⟨_,_,rfl,by decide +kernel,mO hv⟩
 |fl hx=>exact⟨_,_,rfl,by decide +kernel,(gJ hx).ok⟩
def Hw(x e:TE):Prop:=x.1=e.1->(x.2.1=e.2.1->x.2.2=e.2.2)/\∀q m,e.2.1≠x.2.1++q::m
noncomputable def zV(hx:Y0 C x)(he:Y0 C e):Hw x e:=λht=>by
 obtain⟨ws,r,S,hx,tx⟩:=hx;obtain⟨HK,r',S',he,te⟩:=he
 have hj:PF BL ws=PF BL HK:=by rw[←tx,←te,ht]
 constructor
 .intro h
  rw[←h] at he;exact hx.end_one he hj
 .intro q m h
  rw[h] at he;exact hx.no_more he hj
open Classical in
noncomputable def k8(e:TE)(t:Str)(q:PR)(a:OY):PyData:=if e.1=t/\e.2.1.take q.length=q then (match e.2.1[q.length]? with
  |some p=>.str p.1
  | none=>e.2.2) else a
open Classical in
theorem rP:∀{es:List TE}{a:OY},(∀x∈es,Hw x e)->bV t q (es++[e]) a=k8 e t q (bV t q es a)
 |[],a,_=>by
  show (if e.1=t/\e.2.1=q then e.2.2 else if e.1=t/\e.2.1.take q.length=q then _ else a)=(if e.1=t/\e.2.1.take q.length=q then _ else a)
  by_cases c1:e.1=t/\e.2.1=q
  .rw[if_pos c1,if_pos ⟨c1.1,by rw[c1.2,Sz]⟩,c1.2,Vz (Pk _)]
  .rw[if_neg c1]
   by_cases c2:e.1=t/\e.2.1.take q.length=q
   .rw[if_pos c2,if_pos c2]
    cases hg:e.2.1[q.length]? with
    |some p=>rfl
    |none=>
     rw[QO] at hg;rw[Qq hg] at c2;exact absurd c2 c1
   .rw[if_neg c2,if_neg c2]
 |x::es,a,h=>by
  have ih:=λa=>rP (t:=t) (q:=q) (e:=e) (es:=es) (a:=a) λy hy=>h y (Pc _ hy);have hx:=h x Pf;show (if x.1=t/\x.2.1=q then x.2.2 else if x.1=t/\x.2.1.take q.length=q then bV t q (es++[e]) _ else bV t q (es++[e]) a)=k8 e t q (if x.1=t/\x.2.1=q then x.2.2 else if x.1=t/\x.2.1.take q.length=q then bV t q es _ else bV t q es a)
  by_cases c1:x.1=t/\x.2.1=q
  .rw[if_pos c1,if_pos c1]
   unfold k8
   by_cases c2:e.1=t/\e.2.1.take q.length=q
   .rw[if_pos c2]
    obtain⟨h1,h2⟩:=hx (by rw[c1.1,c2.1])
    cases hg:e.2.1[q.length]? with
    |some p=>
     exfalso;obtain⟨hl,hp⟩:=Pa.mp hg;refine h2 p (e.2.1.drop (q.length+1)) ?_;rw[c1.2];have:=Td q.length e.2.1;rw[c2.2,QM hl,hp] at this;exact this.symm
    |none=>
     rw[QO] at hg;rw[Qq hg] at c2;exact h1 (by rw[c1.2,c2.2])
   .rw[if_neg c2]
  .rw[if_neg c1,if_neg c1]
   by_cases c2:x.1=t/\x.2.1.take q.length=q
   .rw[if_pos c2,if_pos c2,ih]
   .rw[if_neg c2,if_neg c2,ih]
def qk(d:OY):Prop:=d=.none\/(∃x,isName (.str x)=G3/\d=.str x)\/Bs d
open Classical in
theorem xQ:∀{es:List TE}{a:OY},(∀e∈es,Y0 C e)->qk a->qk (bV t q es a)
 |[],a,_,h=>h
 |e::es,a,hE,h=>by
  have ih:=λa=>xQ (C:=C) (t:=t) (q:=q) (es:=es) (a:=a) λy hy=>hE y (Pc _ hy);have he:=hE e Pf;show qk (if e.1=t/\e.2.1=q then e.2.2 else if e.1=t/\e.2.1.take q.length=q then bV t q es _ else bV t q es a);split
  .exact .inr (.inr he.fin)
  .split
   .refine ih _ ?_
    split
    .rename_i p hp
     exact .inr (.inl ⟨p.1,he.gd.2 p (Px hp),rfl⟩)
    .exact .inl rfl
   .exact ih _ h
def yn(a:PR):(Zm a).length=a.length:=by simp[Zm]
noncomputable def m6(h:a ρ T=KQ ((.nx,Ze),T1)):ah a b ρ T=b Ze T1 :=by simp_all
theorem zoi:CN o T (.loc (.list ys))=Ew T (o (.list ys)):=rfl
section
variable {ns cs:List Int}{l:List Str}{j:Nat}{T:Tp}{o8 o9:Option D.W}{p:List Int}{x:Str}
noncomputable def rN(ns cs:List Int)(l:List Str)(j:Nat)(p:List Int)(x:Str):YR:=DL ns cs l (KQ (.d (.int (j:Int)))) (KQ (.d (.list (il p)))) (KQ (.d (.str x)))
noncomputable def nt1(hl:cs.length=37)(hj:j<4):ax 8 (GF (aa 5) (fP (ae aI (fC (.int 1)) (ae cq (fC (.int 9)) (aa 7)))) (fP (ae aI (fC (.int 10)) (ae cq (fC (.int 9)) (aa 7))))) (DL ns cs l (KQ (.d (.int (j:Int)))) o8 o9) T=KQ ((.nx,DL ns cs l (KQ (.d (.int (j:Int)))) (KQ (.d (.list (il ((cs.drop (1+9*j)).take 9))))) o9),T):=by
 have c:cm (il cs) (KQ (1+9*(j))) (KQ (10+9*(j)))=il ((cs.drop (1+9*j)).take 9):=by
  have h:=xU (il cs) (1+9*j) (10+9*j) (by rw[f9];lia) (by rw[f9];lia)
  rw[zX,show 10+9*j-_=9 by lia] at h<;>simp_all
 simp[DL,zoi,c]
noncomputable def nt2(hp:EA p):∃x,isName (.str x)=G3/\ax 9 (ae fD (fC (.str "")) (bY (bE (GF (aa 8) (fP (fC (.int 1))) (fP (ae aI (fC (.int 2)) (ae Y8 (aa 8) (fC (.int 0))))))) bU (ae Y8 (aa 4) (aa 0)))) (DL ns cs l (KQ (.d (.int (j:Int)))) (KQ (.d (.list (il p)))) o9) T=KQ ((.nx,rN ns cs l j p x),T):=by
 obtain⟨c,e0,c0,c1⟩:=hp.p0;obtain⟨k,rfl⟩:∃k:Nat,c=(k:Int):=⟨c.toNat,by lia⟩;have hl:=hp.ln;have a0:Zd (il p) 0=KQ (.int (k:Int)):=fq (j:=0) (by simp[il,e0])
 have cc:cm (il p) (KQ 1) (KQ (2+(k:Int)))=il ((p.drop 1).take (1+k)):=by
  have h:=xU (il p) 1 (2+k) (by rw[f9];lia) (by rw[f9];lia);rw[zX,show 2+k-1=1+k by lia] at h;rw[←h];simp
 obtain⟨ys,e1,l1,h1⟩:=wI (ρ:=DL ns cs l (KQ (.d (.int (j:Int)))) (KQ (.d (.list (il p)))) o9) (T:=T) (by simp[DL]) ((p.drop 1).take (1+k)) λy hy=>by
  obtain⟨i,hi,rfl⟩:=TQ hy;simp only[RC,RD] at hi;obtain⟨c,e,b⟩:=hp.p1 (1+i) (by lia) (by lia)
  have:((p.drop 1).take (1+k))[i]? = KQ c:=by rw[SG (by lia),Wn];exact e
  have hz:=(Pa.mp this).2;rw[hz];exact b
 obtain⟨xs,s1,s2,s3,s4,s5⟩:=zim h1
 have ly:ys.length=1+k:=by rw[l1];simp;lia
 refine⟨PF "" xs,yv (by rw[s5];lia) (by rw[s5];lia) s4,?_⟩
 have ej:fD (.str "") (.list ys)=KQ (.str (PF "" xs)):=by
  have z:(OZ "").length=0:=by decide +kernel
  rw[rL s1,if_pos (by rw[s2,z];lia)]
 unfold DL at e1;simp[DL,rN,a0,cc,e1,ej,-List.drop_one]
noncomputable def zN(hn:∀y∈l,isName (.str y)=G3){i:Int}(h0:0<=i)(h1:i<(l.length:Int)):∃y,Zd (Zp l) i=KQ (.str y)/\isName (.str y)=G3:=by
 obtain⟨d,e,hm⟩:=gT (xs:=Zp l) h0 (by simpa[Zp] using h1);obtain⟨y,hy,rfl⟩:=PD.mp hm;exact⟨y,e,hn y hy⟩
theorem oU:Ko o T (.loc (.list ys)) (.d y)=Ew T (o (.list ys) y):=rfl
theorem zL:Ko o T (.d y) (.loc (.list ys))=Ew T (o y (.list ys)):=rfl
noncomputable def nt3(hc:∃c,cs[0]? = KQ c)(hp:EA p)(hl:l.length=j)(hj:j<4)(hn:∀y∈l,isName (.str y)=G3)(hx:isName (.str x)=G3):∃x',isName (.str x')=G3/\YT (cX (aq (ae Z5 (ae Y8 (aa 5) (fC (.int 0))) (fC (.int 0)))) (cX (aq (ae Z5 (ae bF (aa 7) (fC (.int 2))) (fC (.int 1)))) (aq (ae Fv (Zy aW (ab (ae Y8 (aa 6) (ae dw (aa 7) (fC (.int 1)))) ag)) (fC (.int 8)))))) (ax 9 (ae aI (ae Y8 (aa 6) (ae dw (aa 7) (fC (.int 1)))) (ae Y8 (aa 3) (ae Y8 (aa 8) (fC (.int 1)))))) aw (rN ns cs l j p x) T=KQ ((.nx,rN ns cs l j p x'),T):=by
 obtain⟨c,hc⟩:=hc;have a0:Zd (il cs) 0=KQ (.int c):=fq (j:=0) (by simp[il,hc])
 by_cases c0:c=0
 .by_cases c1:(j:Int) % 2=1
  .obtain⟨y,ey,hy⟩:=zN (l:=l) hn (i:=(j:Int)-1) (by lia) (by lia)
   obtain⟨y1,y2,y3⟩:=zoc hy
   by_cases c2:(y.length:Int)<8
   .obtain⟨d,ed,d0,d1⟩:=hp.p1 1 (by simp) (by simp)
    obtain⟨s,hs,es⟩:=y0 d0 d1;have a1:Zd (il p) 1=KQ (.int d):=fq (j:=1) (by simp[il,ed]);have sl:(⟨#[s]⟩:Str).length=1:=rfl
    have la:(y++(⟨#[s]⟩:Str)).length=y.length+1:=by rw[←cS,jt,Qb,cS,cS,sl]
    refine⟨y++⟨#[s]⟩,yv (by lia) (by lia) ?_,?_⟩
    .unfold has at y3 ⊢
     rw[S7,Xh,y3];simpa using hs
    .have z:y.length+1<=sizeLine:=by have:=j5;lia
     have z0:y.length<=sizeLine:=by lia
     simp[rN,DL,oU,a0,c0,c1,ey,c2,a1,es,sl,z,z0]
   .refine⟨x,hx,?_⟩
    have z0:y.length<=sizeLine:=by have:=j5;lia
    simp[rN,DL,oU,a0,c0,c1,ey,c2,z0]
  .exact⟨x,hx,by simp[rN,DL,oU,a0,c0,c1]⟩
 .exact⟨x,hx,by simp[rN,DL,oU,a0,c0]⟩
noncomputable def nt4(hc:∃c,cs[0]? = KQ c)(hp:EA p)(hx:isName (.str x)=G3):∃x',isName (.str x')=G3/\YT (aq (ae Z5 (ae Y8 (aa 5) (fC (.int 0))) (fC (.int 1)))) (ax 9 (ae Y8 (aa 4) (ae bF (ae Y8 (aa 8) (fC (.int 1))) (fC (.int 12))))) aw (rN ns cs l j p x) T=KQ ((.nx,rN ns cs l j p x'),T):=by
 obtain⟨c,hc⟩:=hc;have a0:Zd (il cs) 0=KQ (.int c):=fq  (by simp[il,hc])
 by_cases c0:c=1
 .obtain⟨d,ed,d0,d1⟩:=hp.p1 1 (by decide) (by simp)
  have a1:Zd (il p) 1=KQ (.int d):=fq  (by simp[il,ed]);obtain⟨y,ey,hy⟩:=zN  zob (i:=d % 12) (Qu _ (by decide)) (Qe _ (by simp));exact⟨y,hy,by simp[rN,DL,a0,c0,a1,ey]⟩
 .exact⟨x,hx,by simp[rN,DL,a0,c0]⟩
noncomputable def nt5(hl:l.length<6)(hx:isName (.str x)=G3):∃x',isName (.str x')=G3/\YT (aq (ae inD (aa 9) (aa 6))) (ax 9 (ae Y8 (bY (bE (fC (.str "uvwxyz"))) (aq (ae eV (aa 0) (aa 7))) (aa 0)) (fC (.int 0)))) aw (rN ns cs l j p x) T=KQ ((.nx,rN ns cs l j p x'),T):=by
 by_cases h:x∈l
 .obtain⟨y,ys,hy,e⟩:=zoh  hl (rN ns cs l j p x) T λd=>rfl
  refine⟨y,hy,?_⟩
  have z:(OZ "uvwxyz").length<=sizeLine:=by decide +kernel
  unfold rN DL at e;simp[rN,DL,zL,tG,h,z,e]
 .exact⟨x,hx,by simp[rN,DL,zL,tG,h]⟩
noncomputable def ow(hd:E9 KI cs)(hj:j<4)(hl:l.length=j)(hn:∀y∈l,isName (.str y)=G3):∃x Fs o9',isName (.str x)=G3/\nI (DL ns cs l (KQ (.d (.int (j:Int)))) o8 o9) T=KQ ((.nx,DL ns cs (l++[x]) (KQ (.d (.int (j:Int)))) Fs o9'),T):=by
 have hp:=part6 hd hj
 have hc:∃c,cs[0]? = KQ c:=by
  obtain⟨c,e,_⟩:=hd.at 0  rfl;exact⟨c,e⟩
 have h37:cs.length=37:=hd.1;obtain⟨x2,h2,e2⟩:=nt2       hp;obtain⟨x3,h3,e3⟩:=nt3   hc hp hl hj hn h2;obtain⟨x4,h4,e4⟩:=nt4     hc hp h3;obtain⟨x5,h5,e5⟩:=nt5   (l:=l)    (by lia) h4;refine⟨x5,KQ (.d (.list (il ((cs.drop (1+9*j)).take 9)))),KQ (.d (.str x5)),h5,?_⟩;unfold nI;rw[m6 (nt1 h37 hj),m6 e2,m6 e3,m6 e4,m6 e5]
 have z:l.length<sizeLine:=by have:=j5;lia
 simp[rN,DL,Zp,z]
noncomputable def zoj:∃l,qm [.d (bR ns),.d (.int 0),.d (.int 4)] T=KQ (.list (Zp l),T)/\KM l/\l.length=4:=by
 obtain⟨cs,e,hd⟩:=oO (ns:=ns) (zs:=KI) (k:=0) (T:=T) (by simp) (by decide) (by decide);obtain⟨x0,a8,a9,h0,e0⟩:=ow (ns:=ns) (T:=T) (l:=[]) (j:=0) (o8:=HA) (o9:=HA) hd (by decide) rfl (λy hy=>by cases hy);obtain⟨x1,b8,b9,h1,e1⟩:=ow (ns:=ns) (T:=T) (l:=[x0]) (j:=1) (o8:=a8) (o9:=a9) hd (by decide) rfl (by simpa using h0);obtain⟨x2,c8,c9,h2,e2⟩:=ow (ns:=ns) (T:=T) (l:=[x0,x1]) (j:=2) (o8:=b8) (o9:=b9) hd (by decide) rfl (by simp[h0,h1]);obtain⟨x3,d8,d9,h3,e3⟩:=ow (ns:=ns) (T:=T) (l:=[x0,x1,x2]) (j:=3) (o8:=c8) (o9:=c9) hd (by decide) rfl (by simp[h0,h1,h2]);refine⟨[x0,x1,x2,x3],?_,⟨by simp,by simp,by simp[h0,h1,h2,h3]⟩,rfl⟩
 have lp:forL 7 nI (dF 0 4) (DL ns cs [] HA HA HA) T=KQ ((.nx,DL ns cs [x0,x1,x2,x3] (KQ (.d (.int 3))) d8 d9),T):=
  (fm e0).trans ((fm e1).trans ((fm e2).trans ((fm e3).trans rfl)))
 have ro:iK 4=G3:=by decide
 have rp:gx (.list [.int 8,.int 26,.int 26,.int 26,.int 26,.int 26,.int 26,.int 26,.int 26]) (.int 4)=KQ (.list (il KI).tail):=by rfl
 have ad:aI (.list [.int 5]) (.list (il KI).tail)=KQ (.list (il KI)):=by rfl
 rw[zig];unfold DL at lp;have nw:(Xa [.str "told",.str "made",.str "want",.str "say",.str "a",.str "b",.str "wants",.str "fails",.str "got",.str "when",.str "put",.str "ab"])=.list (Zp Lp):=rfl;have n0:Zp []=[]:=rfl;rw[n0] at lp;have lt:OZ "abcdefghijklmnopqrstuvwxyz"=Z1:=rfl;have e':gD [.d (bR ns),.d (.int 0),.d (.list (il KI))] T=KQ (.list (il cs),T):=e;simp[rp,ad,e',ro,nw,lt,ph,zq,lp]
 done
end
inductive Due(t:Str)(q:PR)(es:List TE):OY->Prop where
 |ex (x:TE) (hx:x∈es) (h1:x.1=t) (h2:x.2.1=q):Due t q es x.2.2
 |nx (x:TE) (p:Str×OY) (hx:x∈es) (h1:x.1=t) (h2:x.2.1.take q.length=q) (h3:x.2.1[q.length]? = KQ p) (no:∀y∈es,¬(y.1=t/\y.2.1=q)):Due t q es (.str p.1)
 |no (no:∀y∈es,¬(y.1=t/\y.2.1.take q.length=q)):Due t q es .none
noncomputable def rm(h2:x.take q.length=q)(h3:x[q.length]? = KQ p):x=q++p::x.drop (q.length+1):=by
 obtain⟨hl,hp⟩:=Pa.mp h3;have:=Td q.length x;rw[h2,QM hl,hp] at this;exact this.symm
open Classical in
theorem tM:∀(n:Nat) (es:List TE),es.length=n->(∀e∈es,Y0 C e)->Due t q es (bV t q es .none)
 |0,es,hn,_=>by
  cases Rp hn
  exact .no λy hy=>by simp_all
 |n+1,es,hn,h=>by
  rcases Ri es with rfl|⟨fs,e,rfl⟩
  .cases hn
  rw[Te] at hn h ⊢;have ih:=tM (C:=C) (t:=t) (q:=q) n fs (by simpa using hn) λy hy=>h y (P6 _ hy);have he:=h e (by simp);have hc:∀x∈fs,Hw x e:=λx hx=>zV (h x (P6 _ hx)) he;rw[rP hc];unfold k8
  by_cases c:e.1=t/\e.2.1.take q.length=q
  .rw[if_pos c]
   cases hg:e.2.1[q.length]? with
   |none=>
    rw[QO] at hg;rw[Qq hg] at c;exact .ex e (by simp) c.1 c.2
   |some p=>
    refine .nx e p (by simp) c.1 c.2 hg λy hy z=>?_;have hk:=rm c.2 hg
    rcases Pt.mp hy with hy|hy
    .exact(hc y hy (z.1.trans c.1.symm)).2 p _ (by rw[z.2];exact hk)
    .rw[Py.mp hy] at z
     rw[z.2] at hg;simp at hg
  .rw[if_neg c]
   generalize bV t q fs .none=d at ih
   cases ih with
   |ex x hx h1 h2=>exact .ex x (P6 _ hx) h1 h2
   |nx x p hx h1 h2 h3 no=>
    refine .nx x p (P6 _ hx) h1 h2 h3 λy hy z=>?_
    rcases Pt.mp hy with hy|hy
    .exact no y hy z
    .rw[Py.mp hy] at z
     exact c ⟨z.1,by rw[z.2,Sz]⟩
   |no no=>
    refine .no λy hy z=>?_
    rcases Pt.mp hy with hy|hy
    .exact no y hy z
    .rw[Py.mp hy] at z
     exact c z
def Y0.next(hx:Y0 C x)(hy:Y0 C y)(ht:x.1=y.1)(ex:x.2.1=q++a::m)(ey:y.2.1=q++b::m'):a.1=b.1:=by
 obtain⟨ws,r,S,hx,tx⟩:=hx;obtain⟨HK,r',S',hy,ty⟩:=hy;rw[ex] at hx;rw[ey] at hy;exact En.next_one     hx hy (by simp_all)
def Due.one(hE:∀e∈es,Y0 C e)(hF:∀e∈fs,Y0 C e)(s:∀y,y∈es↔y∈fs)(h:Due t q es d)(h':Due t q fs d'):d=d':=by
 cases h with
 |ex x hx h1 h2=>
  cases h' with
  |ex y hy g1 g2=>exact(zV (hE x hx) (hF y hy) (h1.trans g1.symm)).1 (h2.trans g2.symm)
  |nx y p hy g1 g2 g3 no=>exact absurd ⟨h1,h2⟩ (no x ((s x).mp hx))
  |no no=>exact absurd ⟨h1,by simp_all⟩ (no x ((s x).mp hx))
 |nx x p hx h1 h2 h3 no=>
  cases h' with
  |ex y hy g1 g2=>exact absurd ⟨g1,g2⟩ (no y ((s y).mpr hy))
  |nx y p' hy g1 g2 g3 Ci=>rw[(hE x hx).next (hF y hy) (h1.trans g1.symm) (rm h2 h3) (rm g2 g3)]
  |no Ci=>exact absurd ⟨h1,h2⟩ (Ci x ((s x).mp hx))
 |no no=>
  cases h' with
  |ex y hy g1 g2=>exact absurd ⟨g1,by simp_all⟩ (no y ((s y).mpr hy))
  |nx y p hy g1 g2 g3 Ci=>exact absurd ⟨g1,g2⟩ (no y ((s y).mpr hy))
  |no Ci=>rfl
noncomputable def zok(hE:∀e∈es,Y0 C e)(hF:∀e∈fs,Y0 C e)(s:∀y,y∈es↔y∈fs):bV t q es .none=bV t q fs .none:=(tM _ es rfl hE).one hE hF s (tM _ fs rfl hF)
noncomputable def zk(ha:Y0 C a)(hb:Y0 C b)(h:YV a=YV b):a=b:=by
 have h':Rz [.str a.1,.tuple _,a.2.2]=.tuple [.str b.1,.tuple _,b.2.2]:=h
 simp_all
 exact Yw h'.1 (Yw (sf ha.gd.1 hb.gd.1 h'.2.1) h'.2.2)
open Classical in
noncomputable def bw(es:List TE):List TE:=es.foldl (λa e=>if e∈a then a else a++[e]) []
open Classical in
noncomputable def jZ(es:List TE)(e:TE):bw (es++[e])=if e∈bw es then bw es else bw es++[e]:=by unfold bw<;>simp_all
open Classical in
theorem xD:∀(n:Nat) (es fs:List TE),fs.length=n->es.Nodup->bw es=es->fs.Nodup->bw (es++fs)=es++fs.filter λe=>decide (e∉es)
 |0,es,fs,hn,_,h,_=>by simp_all
 |n+1,es,fs,hn,nd,h,nf=>by
  rcases Ri fs with rfl|⟨gs,e,rfl⟩
  .cases hn
  rw[Te] at hn nf ⊢;have ng:=QR.mp nf;have ih:=xD n es gs (by simpa using hn) nd h ng.1;rw[←Q8,jZ,ih,List.filter_append]
  have hm:e∈es++gs.filter (λe=>decide (e∉es))↔e∈es:=by
   rw[Pt];constructor
   .rintro(z|z)
    .exact z
    .exact absurd rfl (ng.2.2 e (QH.mp z).1 e (by simp))
   .exact .inl
  by_cases c:e∈es
  .simp_all
  .simp_all
open Classical in
theorem ka:∀(n:Nat) (es:List TE),es.length=n->es.Nodup->bw es=es
 |0,es,hn,_=>by
  simp_all
  rfl
 |n+1,es,hn,nd=>by
  rcases Ri es with rfl|⟨gs,e,rfl⟩
  .cases hn
  simp_all
  have ng:=QR.mp nd;rw[jZ,ka n gs (by omega) ng.1,if_neg λz=>ng.2.2 e z e (by simp) rfl]
theorem nY(es:List TE):∀n,es.length=n->(bw es).length<=n
 |0,hn=>by
  cases Rp hn;exact Ql _
 |n+1,hn=>by
  rcases Ri es with rfl|⟨gs,e,rfl⟩
  .cases hn
  simp_all
  have:=nY gs n (by omega);rw[jZ]
  split<;>grind
theorem lS:∀(n:Nat) (es:List TE),es.length=n->∀x,x∈bw es↔x∈es
 |0,es,hn,x=>by
  cases Rp hn;rfl
 |n+1,es,hn,x=>by
  rcases Ri es with rfl|⟨gs,e,rfl⟩
  .cases hn
  rw[Te] at hn ⊢;have ih:=lS n gs (by simpa using hn);rw[jZ]
  split<;>simp_all
end G
namespace TK
noncomputable def tk:Nat->OY->Bool
 |_,.str x=>Qk x
 |n+1,.tuple xs=>xs.all (tk n)
 |_,_=>Gy
noncomputable def hk(w:PU):Nat->OY->Int
 |_,.str x=>hashStr w x
 |n+1,.tuple xs=>Xw (QA (xs.map (hk w n)))
 |_,_=>0
noncomputable def dk:Nat->OY->Nat
 |_,.str _=>1
 |n+1,.tuple xs=>(xs.map (dk n)).sum+1
 |_,_=>0
noncomputable def iA:∀{n:Nat}{d:OY},tk n d=G3->(∃x,d=.str x/\Qk x=G3)\/∃m xs,n=m+1/\d=.tuple xs/\xs.all (tk m)=G3
 |0,.str x,h=>.inl ⟨x,rfl,h⟩
 |n+1,.str x,h=>.inl ⟨x,rfl,h⟩
 |n+1,.tuple xs,h=>.inr ⟨n,xs,rfl,rfl,h⟩
 |0,.tuple _,h=>by cases h
 |0,.none,h|0,.bool _,h|0,.int _,h|0,.list _,h|0,.dict _,h=>by cases h
 |n+1,.none,h|n+1,.bool _,h|n+1,.int _,h|n+1,.list _,h|n+1,.dict _,h=>by cases h
theorem tO:∀{xs:List OY},(∀x∈xs,p x=G3->x.canLay0=G3)->xs.all p=G3->Qz xs=G3
 |[],_,_=>rfl
 |x::r,h,e=>by
  rw[Q0,Pg] at e;show (x.canLay0&&Qz r)=G3;rw[h x Pf e.1,tO (λy hy=>h y (Pc _ hy)) e.2];rfl
theorem mq:∀{n:Nat}{d:OY},tk n d=G3->d.canLay0=G3
 |n,d,h=>by
  rcases iA h with⟨x,rfl,hx⟩|⟨m,xs,rfl,rfl,hx⟩
  .simpa[Q9] using hx
  .have:=tO (λx _ hx=>mq  hx) hx
   simpa[Q9] using this
theorem depthAll:∀{xs:List OY},(∀x∈xs,x.depth<=m)->Rf xs<=m
 |[],_=>Ql _
 |x::r,h=>by
  have h1:=h x Pf;have h2:=depthAll   λy hy=>h y (Pc _ hy);simp only[Rf]
  lia
theorem rj:∀{n:Nat}{d:OY},tk n d=G3->d.depth<=n
 |n,d,h=>by
  rcases iA h with⟨x,rfl,hx⟩|⟨m,xs,rfl,rfl,hx⟩
  .simp[Sj]
  .have:=depthAll λx hm=>rj  (Po.mp hx x hm)
   simp only[Sj]
   lia
theorem qW(ih:∀{x y:OY},tk n x=G3->tk n y=G3->(PH x y=G3↔x=y)):∀{xs ys:List OY},xs.all (tk n)=G3->ys.all (tk n)=G3->(Qd xs ys=G3↔xs=ys)
 |[],[],_,_=>by simp[Qd]
 |[],_::_,_,_=>by simp[Qd]
 |_::_,[],_,_=>by simp[Qd]
 |x::xs,y::ys,h,g=>by
  rw[Q0,Pg] at h g;simp only[Qd,Pg,List.cons.injEq];rw[ih h.1 g.1,qW ih h.2 g.2]
theorem mG:∀{n:Nat}{x y:OY},tk n x=G3->tk n y=G3->(PH x y=G3↔x=y)
 |n,x,y,h,g=>by
  rcases iA h with⟨a,rfl,ha⟩|⟨m,xs,rfl,rfl,hx⟩
  .rcases iA g with⟨b,rfl,hb⟩|⟨m',ys,rfl,rfl,hy⟩
   .simp[PH]
   .simp[PH]
  .rcases iA g with⟨b,rfl,hb⟩|⟨m',ys,e,rfl,hy⟩
   .simp[PH]
   .cases e
    simp;exact qW (λa b=>mG  a b) hx hy
noncomputable instance:DecidableEq PyData:=λa b=>UW (a=b)
section
variable {prog:Pu}{w:PU}
noncomputable def zol(n:Nat):∀(d:OY) {u:O9}{as:List Addr}{A:Qa}{E:O9->Pe->Prop}{s:Pe}{Q:Int->Pe->Prop},tk n d=G3->VM s.heap u d as->A.units+n<UI->Q (hk w n d) { s with toks:=s.toks+dk n d } ->
  PK (PP prog w) A (pyHash u) Q E s:=by
  induction n using TH with
  |_ n ih=>
  intro d u as A E s Q h r hu q
  rcases iA h with⟨x,rfl,hx⟩|⟨m,xs,rfl,rfl,hx⟩
  .cases r
   have e1:hk w n (.str x)=hashStr w x:=by cases n <;> rfl
   have e2:dk n (.str x)=1:=by cases n <;> rfl
   rw[e1,e2] at q;exact WO q
  .cases r with
   |@tuple a o vs k _ _ ho hc hd rs=>
   have hT:s.TypeIs (.ref a) "tuple":=⟨o,ho,hc⟩;unfold pyHash
   first|unfold pyHashByItsType|skip
   first|refine Pb (wpAny_cRoomFor_or (.inr (by lia)) ?_)|skip
   refine Pb (SN hT Ta.lookup ?_);show PK _ _ (if (KQ (Value.builtin "tuple.__hash__") == KQ QW)=G3 then _ else _) Q E s;rw[if_neg (by rw[beq_builtin_none];exact Pz)];refine Pb (SN hT Ta.lookup ?_);show PK _ _ (callSpecialIfBoundUnlessNone? (.ref a) "__hash__" _ >>= _) Q E s;refine Pb (wpAny_callSpecialIfBoundUnlessNone?_slot hT Ta (Rj Ta hT F.entry_tuple_hash ?_ (F.args_tuple_hash_1 _)));show PK _ _ (Su (.ref a) >>= _) _ _ s;refine Pb (wpAny_tupleItemsOf ho hd ?_);refine Pb ?_;rw[←Wo];refine W3 _ (λrest (b:Array Int) s'=>∃done left G5,xs=done++left/\Tt s.heap rest left G5/\b.toList=done.map (hk w m)/\s' = { s with toks:=s.toks+(done.map (dk m)).sum }) _ ?_ ?_ _ _ ⟨[],xs,_,rfl,rs,rfl,rfl⟩
   .rintro x rest b s' ⟨done,left,G5,rfl,hl,hb,rfl⟩
    cases hl with
    |@cons _ _ y ys _ _ h1 Er=>
     rw[Xh,Pg,Q0,Pg] at hx;refine Pb (ih m (R7 m) y hx.2.1 h1 (by show A.units+1+m<_;lia) ?_)
     first
      |exact Pl ⟨done++[y],ys,_,by simp,Er,by simp[hb],by simp[UE]⟩
      |exact Pb (Pl (Pl ⟨done++[y],ys,_,by simp,Er,by simp[hb],by simp[UE]⟩))
   .rintro b s' ⟨done,left,G5,rfl,hl,hb,rfl⟩
    cases hl;rw[QJ] at q;show PK _ _ (retInt (QA b.toList)) _ _ _;rw[hb];refine wpAny_ret_mkInt ?_;show PK _ _ (if (decide (-(2:Int)^63<=QA (done.map (hk w m)))&&decide (QA (done.map (hk w m))<2^63))=G3 then _ else _) Q E _;have q':Q (Xw (QA (done.map (hk w m)))) { s with toks:=s.toks+((done.map (dk m)).sum+1) }:=q;unfold Xw at q'
    by_cases hr:(decide (-(2:Int)^63<=QA (done.map (hk w m)))&&decide (QA (done.map (hk w m))<2^63))=G3
    .rw[if_pos hr]
     rw[if_pos hr] at q';exact Pl (by simpa[UE] using q')
    .rw[if_neg hr]
     rw[if_neg hr] at q';exact Pb (Xu (Pl (by simpa[UE] using q')))
noncomputable def zom(n:Nat):∀(k:Nat) (d:OY) {u:O9}{as:List Addr}{A:Qa}{E:O9->Pe->Prop}{s:Pe}{Q:Bool->Pe->Prop},n<=k->tk n d=G3->VM s.heap u d as->Q G3 s->PK (PP prog w) A (eqIsQuiet k u) Q E s:=by
  induction n using TH with
  |_ n ih=>
  intro k d u as A E s Q hk h r q
  rcases iA h with⟨x,rfl,hx⟩|⟨m,xs,rfl,rfl,hx⟩
  .cases r
   rw[eqIsQuiet_byValue _ rfl];exact Pl q
  .cases r with
   |@tuple a o vs c _ _ ho hc hd rs=>
   obtain⟨k,rfl⟩:=G.aS k (by omega);have hT:s.TypeIs (.ref a) "tuple":=⟨o,ho,hc⟩;unfold eqIsQuiet;refine Pb (SN hT F.slot_tuple_eq.lookup ?_);show PK _ _ (isInstance (.ref a) (.type "tuple") >>= _) _ _ s;refine Pb (W4 hT isSubtype_tuple_tuple ?_);simp only[X6,QD,if_false];refine Pb (VR ho hd ?_);refine Pb ?_;show PK _ _ (forIn vs _ _) _ _ s;rw[←Wo];refine W3 _ (λrest r s'=>r.1=HA/\s'=s/\∃left G5,left.all (tk m)=G3/\Tt s.heap rest left G5) _ ?_ ?_ _ _ ⟨rfl,rfl,xs,_,hx,rs⟩
   .rintro v rest r s' ⟨hr,rfl,left,G5,Kn,rl⟩
    cases rl with
    |@cons _ _ y ys _ _ h1 Er=>
     rw[Q0,Pg] at Kn;refine Pb (ih m (R7 m) k y (by omega) Kn.1 h1 ?_);simp only[X6,QD,if_false];exact Pl ⟨rfl,rfl,ys,_,Kn.2,Er⟩
   .rintro⟨r1,r2⟩ s' ⟨hr,rfl,_⟩
    simp only at hr;subst hr;exact Pl q
end
noncomputable def zon(k:∀b o,(∀es ep,o.data≠.dict es ep)->h.get? b=KQ o->h'.get? b=KQ o)(n:Nat):∀{d:OY}{v:O9}{as:List Addr},tk n d=G3->VM h v d as->VM h' v d as:=by
 induction n using TH with
 |_ n ih=>
 intro d v as t r
 rcases iA t with⟨x,rfl,_⟩|⟨m,xs,rfl,rfl,hx⟩
 .cases r
  exact .str _ _
 .have all:∀{ds:List OY}{vs:List O9}{as:List Addr},ds.all (tk m)=G3->Tt h vs ds as->Tt h' vs ds as:=λ{ds}=>by
   induction ds with
   |nil=>intro vs as _ r;cases r;exact .nil
   |cons d ds i2=>
    intro vs as t r;rw[Q0,Pg] at t
    cases r with
    |cons r rs=>exact .cons (ih m (R7 m) t.1 r) (i2 t.2 rs)
  cases r with
  |tuple ho hc hd rs=>exact .tuple (k _ _ (λes ep z=>by simp_all) ho) hc hd (all hx rs)
noncomputable def kind(prog:Pu)(w:PU):HeapKind prog w OY where
 is:=λh d a=>tk 3 d=G3/\∃as,VM h (.ref a) d as
 hash:=hk w 3
 draws:=dk 3
 room:=λA=>A.units+8<UI
 inj:=λhx hy=>SeqAt.Reads.unique _ _ _ _ _ (mq hx.1) hx.2.choose_spec hy.2.choose_spec
 keeps:=λ{_ _ _ _ d _ _ _} x ho hd hs=>⟨x.1,x.2.choose,zon (n:=3) (λb o nd e=>by
  by_cases hb:b=d
  .subst hb;rw[ho] at e;cases e;exact absurd hd (nd _ _)
  .exact(hs.2 b hb).trans e) x.1 x.2.choose_spec⟩
 pyHash:=λhu hk h=>zol 3 _ hk.1 hk.2.choose_spec (by omega) h
 eqBool:=λ{A _ _ x y _ _ _} hu hx hy h=>by
  refine UP _ _ _ _ _ _ _ _ hx.2.choose_spec hy.2.choose_spec (mq hx.1) (mq hy.1) ?_ _ _ _ _ ?_
  .have h1:=rj hx.1
   have:min x.depth y.depth<=3:=PB (Nat.min_le_left _ _) h1;omega
  .have e:=mG hx.1 hy.1
   have:PH x y=decide (x=y):=by
    by_cases z:x=y
    .rw[decide_eq_true z,e.mpr z]
    .rw[decide_eq_false z]
     exact Bool.eq_false_iff.mpr λq=>z (e.mp q)
   rw[this];exact h
 quiet:=λhk h=>zom 3 8 _ (by decide) hk.1 hk.2.choose_spec h
end TK
namespace TK
open L2
def ZV(h:Heap)(a:Addr)(es:Array UM)(ep:Nat):Prop:=∃o,h.get? a=KQ o/\o.ExactDict/\o.data=.dict es ep
section
variable {prog:Pu}{w:PU}{A:Qa}{E:O9->Pe->Prop}{s:Pe}{d it:Addr}{es:Array UM}{ep i:Nat}
def ZV.typeIs(x:ZV s.heap d es ep):s.TypeIs (.ref d) "dict":=let ⟨o,h,c,_⟩:=x;⟨o,h,c.1⟩
def ZV.at'(x:ZV h d es ep)(e:∀o,h.get? d=KQ o->h'.get? d=KQ o):ZV h' d es ep:=let ⟨o,ho,r⟩:=x;⟨o,e _ ho,r⟩
noncomputable def zoo(hd:(d == QB)=Gy)(hm:ZV s.heap d es ep)
  (hQ:Q (.ref s.heap.objs.size) { s with heap:=s.heap.push { cls:=.type "dict_keyiterator",data:=.fields #[.ref d,.int 0 0,.int es.size 0,.int ep 0] } }):PK (PP prog w) A (pyIter (.ref d)) Q E s:=by
 have hT:=hm.typeIs;obtain⟨o,ho,hc,Et⟩:=hm;refine wpAny_pyIter_slot hT W5 (Rj W5 hT F.entry_dict_iter ?_ (F.args_dict_iter_1 _));refine Pb ?_;refine Pb (wpAny_notOrdered_dict hT ?_);refine Pl ?_;show PK _ _ (VA d >>= _) _ _ s;unfold VA;rw[if_neg (by simp_all)];refine Pb (Pl ?_);refine Pb (UB ho Et ?_);refine Pb (Vn ho Et ?_);refine Pb (Qi (Pl ⟨_,rfl,"dict_keyiterator",_,⟨_,Pw _ rfl,rfl⟩,QV.lookup,?_⟩));simpa[Wl] using hQ
noncomputable def zop(hit:s.heap.IsKeyIter it d i es.size ep)(hm:ZV s.heap d es ep)(vU:i<es.size)
  (hQ:∀h',h'.IsKeyIter it d (i+1) es.size ep->Q2 it s.heap h'->Q (KQ es[i].key) { s with heap:=h' }):PK (PP prog w) A (Wf (.ref it)) Q E s:=by
 obtain⟨o,ho,hc,hd⟩:=id hit;obtain⟨od,KE,hcd,HX⟩:=hm;unfold Wf;refine Pb (wpAny_attempt (QY (name:=OZ "__next__") hit.typeIs QV (Rj QV hit.typeIs Tu ?_ (Tj _))));refine Pb (Pl ?_);refine Pb ?_;refine Pb ?_
 first|refine Pb (Rq hit.typeIs (Pl ?_))|refine Pb (R4 hit.typeIs (Pl ?_))
 refine Pb (wpAny_fieldsOf ho hd ?_);have HH:TJ "dict_keyiterator"=Gy:=rfl;simp only[HH,QD,if_false];show PK _ _ (if (P4 d == QW)=G3 then _ else _) _ _ s;rw[if_neg (show ¬((P4 d == QW)=G3) from Pz)];refine Pb (Pl ?_);refine Pb (UB KE HX ?_);rw[if_neg (by simp)];refine Pb (Pl ?_);refine Pb (Vn KE HX ?_);rw[if_neg (by simp)];refine Pl ?_;simp only[show ¬((i:Int)<0) from by lia,if_false,Q7,SC vU];refine Pb ?_
 first|refine Pb (Rq hit.typeIs (Pl ?_))|refine Pb (R4 hit.typeIs (Pl ?_))
 refine Pb (VB hit.typeIs ?_);show PK _ _ (setField (.ref it) 1 (Wl ((i:Int)+1)) >>= _) _ _ s;refine Pb (Uo ho hd (by simp) ?_)
 have GD:(s.heap.update it (X7 (·.setIfInBounds 1 (Wl ((i:Int)+1))))).IsKeyIter it d (i+1) es.size ep:=
  ⟨_,Vu _ ho (Vv (SU hd _)),(WG ..).trans hc,by rw[SU hd];simp[Wl]⟩
 refine Pb (RY ?_);refine Pb (VB (s:={ s with heap:=s.heap.update it (X7 (·.setIfInBounds 1 (Wl ((i:Int)+1)))) }) GD.typeIs ?_);show PK _ _ (pure es[i].key) _ _ _;exact Pl (Pl ⟨_,rfl,Pl (hQ _ GD (SD ..))⟩)
noncomputable def zoq(hh:A.handled=HA)(hit:s.heap.IsKeyIter it d i es.size ep)(hm:ZV s.heap d es ep)(hge:es.size<=i)
  (hQ:∀h',Uz it s.heap h'->Q HA { s with heap:=h' }):PK (PP prog w) A (Wf (.ref it)) Q E s:=by
 obtain⟨o,ho,hc,hd⟩:=id hit;obtain⟨od,KE,hcd,HX⟩:=hm;unfold Wf;refine Pb (wpAny_attempt (QY (name:=OZ "__next__") hit.typeIs QV (Rj QV hit.typeIs Tu ?_ (Tj _))));refine Pb (Pl ?_);refine Pb ?_;refine Pb ?_
 first|refine Pb (Rq hit.typeIs (Pl ?_))|refine Pb (R4 hit.typeIs (Pl ?_))
 refine Pb (wpAny_fieldsOf ho hd ?_);have HH:TJ "dict_keyiterator"=Gy:=rfl;simp only[HH,QD,if_false];show PK _ _ (if (P4 d == QW)=G3 then _ else _) _ _ s;rw[if_neg (show ¬((P4 d == QW)=G3) from Pz)];refine Pb (Pl ?_);refine Pb (UB KE HX ?_);rw[if_neg (by simp)];refine Pb (Pl ?_);refine Pb (Vn KE HX ?_);rw[if_neg (by simp)];refine Pl ?_;simp only[show ¬((i:Int)<0) from by omega,if_false,Q7,Vg hge];refine Pb ?_
 first|refine Pb (Rq hit.typeIs (Pl ?_))|refine Pb (R4 hit.typeIs (Pl ?_))
 show PK _ _ (setField (.ref it) 0 .none >>= _) _ _ s;refine Pb (Uo ho hd (by simp) ?_);show PK _ _ (newExc (.type "StopIteration") [] >>= _) _ _ _;refine Pb ?_;simp only[newExc,newTuple];refine Pb (Qi ?_ (by size_fits));refine Pb (m:=VS _ _) (wpAny_of_eq (a:=QW) (by first|rfl|(simp only[VS];rfl)) ?_);refine Qi ?_ (by size_fits);simp only[raiseNew];refine Pb (wpAny_handled ?_);rw[show A.in1.handled=HA from hh];refine Pb (Pl (wpAny_throw ?_));refine Pb (W4 (T:="StopIteration") (b:=G3) ⟨_,Pw _ rfl,rfl⟩ isSubtype_stop ?_);exact Pl (hQ _ (((SD ..).extBut.push _).push _))
noncomputable def zor(hh:A.handled=HA)(I:Addr)(CB:d≠I) :
  Walks prog w A I [I,d] [I] es.size (λi v=>∃h:i<es.size,v=es[i].key) (λi h=>h.IsKeyIter I d i es.size ep/\ZV h d es ep) where
 sub:=λb hb=>by simp_all
 frame:=λ_ _ _ st hk=>⟨st.1.at λo e=>hk I (by simp) o e,st.2.at' λo e=>hk d (by simp) o e⟩
 item:=λi s Q E hi st hQ=>zop st.1 st.2 hi λh' GD G9=>hQ _ h' _ ⟨hi,rfl⟩ ⟨GD,st.2.at' λo e=>G9.extBut d o CB e⟩ λb o hb e=>G9.extBut b o (λh=>hb (by simp[h])) e
 done:=λs Q E st hQ=>zoq hh st.1 st.2 (Pk _) λh' he'=>hQ h' _ λb o hb e=>he' b o (λh=>hb (by simp[h])) e
 self:=λ_ _ _ _ st hQ=>VJ st.1 hQ
noncomputable def zos(lo:(d == QB)=Gy):PySem.W.KdlSrc prog w "dict" d d es.size (λi v=>∃h:i<es.size,v=es[i].key) (λh=>ZV h d es ep) where
 type:=λ_ hm=>hm.typeIs
 there:=λ_ hm=>let ⟨_,h,_⟩:=hm;⟨Pq h,Pq h⟩
 keep:=λ_ _ hm hk=>hm.at' λo e=>hk d (.inl rfl) o e
 notList:=rfl
 notTuple:=rfl
 hint:=λ_ _ _ _ hm hq=>PySem.W.kdl_hint_dict hm.typeIs hq
 iter:=λ_ _ hh hm=>⟨_,_,(λ_ _ hq=>zoo lo hm hq),zor hh _ (PM (let ⟨_,h,_⟩:=hm;Pq h)),⟨⟨_,Pw _ rfl,rfl,rfl⟩,hm.at' λo e=>Pd _ e⟩⟩
end
end TK
namespace TK
open L2 D
abbrev cI:=List (OY×Addr×V)
def iZ(p:OY×Addr×V)(q:OY×Addr×O9):Prop:=p.1=q.1/\p.2.1=q.2.1/\RelV p.2.2 q.2.2
def Jv(P:Pu)(w:PU)(e:Addr)(kvs:cI)(h:Heap):Prop:=(e == QB)=Gy/\kvs.length<=Ph/\∃xs,SR iZ kvs xs/\(xs.map (·.1)).Nodup /\
 ∃o es ep,h.get? e=KQ o/\o.ExactDict/\o.data=.dict es ep/\es.toList=xs.map (Xn (kind P w))
noncomputable def TD(P:Pu)(w:PU)(e:Addr)(kvs:cI):HO:=.ext (Jv P w e kvs)
noncomputable def Aq(x:Jv P w e kvs h):Y5 P w H h e (TD P w e kvs):=⟨x,let ⟨_,_,_,_,_,o,_,_,a,_⟩:=x;⟨o,a⟩,λh1 h2 y k=>let ⟨a,b,xs,c,d,o,es,ep,e1,r⟩:=y;⟨a,b,xs,c,d,o,es,ep,k _ e1,r⟩⟩
noncomputable def tQ(ok:ZQ P w H h)(x:H e=KQ (TD P w e kvs)):Jv P w e kvs h:=(ok e _ x).1
noncomputable def ck(kvs:cI)(k:OY)(a:Addr)(v:V):cI:=if kvs.any (λq=>decide (q.1=k))=G3 then kvs.map (λq=>if q.1=k then (q.1,q.2.1,v) else q) else kvs++[(k,a,v)]
theorem uX:∀{kvs:cI}{xs:List (OY×Addr×O9)}{k:OY},SR iZ kvs xs->kvs.any (λq=>decide (q.1=k))=(UL xs k).isSome
 |_,_,_,.nil=>rfl
 |p::ps,q::qs,k,.cons r t=>by
  have ih:=uX (k:=k) t;rw[RA,ih];unfold UL;rw[QK,r.1]
  by_cases z:q.1=k
  .rw[decide_eq_true z];rfl
  .rw[decide_eq_false z];rfl
noncomputable def zot(rv:RelV v u)(r:SR iZ kvs xs):SR iZ (ck kvs k a v) (Yl xs k a u):=by
 unfold ck Yl;rw[uX r];split
 .rename_i h
  clear h
  induction r with
  |nil=>exact .nil
  |cons r t ih=>
   refine .cons ?_ ih;show iZ (if _ then _ else _) (if _ then _ else _);rw[r.1];split
   .exact⟨rfl,r.2.1,rv⟩
   .exact r
 .rename_i h
  clear h
  induction r with
  |nil=>exact .cons ⟨rfl,rfl,rv⟩ .nil
  |cons r t ih=>exact .cons r ih
noncomputable def rC(kvs:cI)(k:OY)(a:Addr)(v:V):(ck kvs k a v).length<=kvs.length+1:=by
 unfold ck
 split <;> simp
section
variable {X:Cx}{pos pos':Pos}
noncomputable def xo:PE X (.Dict [] [] pos) (λ_ H Q=>∀p,H p=HA->Q (.ref p) (upd H p (TD X.prog X.w p []))):=λpins s σ H Q I h=>
 wpAny_Dict_empty ⟨.ref _,_,I.laid    (λ_ _ q=>Pd _ q) (Pk _)
  (Aq ⟨beq_eq_false_iff_ne.mpr (P3 (PM I.big)),Ql _,[],.nil,Sv,_,#[],0,Pw _ rfl,⟨rfl,rfl,rfl⟩,rfl,rfl⟩),rfl,h _ (I.hok.fresh (Pk _))⟩
def dI(K:Frag)(O:Addr->Prop)(H:Hp)(q:OY×Addr):Prop:=tk 3 q.1=G3/\Rep K O H (.ref q.2) q.1
noncomputable def key_is(I:Inv X pins σ H s)(k:dI X.K O H q):(kind X.prog X.w).is s.heap q.1 q.2:=⟨k.1,let ⟨as,r,_⟩:=k.2.reads I rfl;⟨as,r⟩⟩
noncomputable def yd(I:Inv X pins σ H s)(x:H e=KQ (TD X.prog X.w e kvs))(k:∀q∈kvs,dI X.K O H (q.1,q.2.1)) :
  (e == QB)=Gy/\kvs.length<=Ph/\∃xs,SR iZ kvs xs/\s.heap.DictOfH (kind X.prog X.w) e xs:=by
 obtain⟨a,b,xs,c,d,o,es,ep,e1,e2,e3,e4⟩:=tQ I.hok x;refine⟨a,b,xs,c,o,es,ep,e1,e2,e3,e4,?_,d⟩;clear e4 d b x e1
 induction c with
 |nil=>simp_all
 |cons r t ih=>
  intro y hy
  rcases Pr.mp hy with rfl|hy
  .have:=key_is I (k _ Pf)
   rw[r.1,r.2.1] at this<;>omega
  .exact ih (λq hq=>k q (Pc _ hq)) y hy
inductive CT(X:Cx)(v x y:V)(σ:L2.St)(H:Hp)(D:Ends):Prop where
 |mk (O:Addr->Prop) (a:Addr) (kvs:cI) (b:Addr) (k:OY) (ex:x=.ref a) (ey:y=.ref b) (e:H a=KQ (TD X.prog X.w a kvs)) (ks:∀q∈kvs,dI X.K O H (q.1,q.2.1)) (kb:dI X.K O H (k,b)) (hl:kvs.length<Ph) (q:D.nx σ (upd H a (TD X.prog X.w a (ck kvs k b v)))):CT X v x y σ H D
noncomputable def JM(X:Cx)(td ty tv:TE):TS:=λD σ H=>tv σ H λv H1=>td σ H1 λx H2=>ty σ H2 λy H3=>CT X v x y σ H3 D
noncomputable def sj(hu:X.A.units+9<UI)(ho:PE X o td)(hi:PE X i ty)(hv:PE X value tv)(hs:autoParam (QF value (KQ (.Subscript o i pos')) pos.line X.env=pure Gy) u10) :
  PS X (.Assign [.Subscript o i pos'] value pos) (JM X td ty tv):=by
 intro pins s σ H D I h;refine U9 (YZ (hv pins s σ H _ I h) λr s1 ⟨v,H1,I1,rv,q1⟩=>YZ (ho pins s1 σ H1 _ I1 q1) λu s2 ⟨x,H2,I2,rx,q2⟩=>YZ (hi pins s2 σ H2 _ I2 q2) λiv s3 ⟨y,H3,I3,ry,O,a,kvs,b,k,ex,ey,e,ks,kb,hl,q3⟩=>?_) hs;subst ex ey;obtain rfl:u=P4 a:=rx;obtain rfl:iv=P4 b:=ry;obtain⟨lo,_,xs,pr,dd⟩:=yd I3 e ks
 have Er:xs.length<=sizeLine:=by rw[←Rl pr];omega
 refine Wk (hsz:=Er) (by show X.A.units+1+8<UI;omega) (key_is I3 kb) dd λh' C9 hs=>?_;obtain⟨q,es,ep,hq,h2,h3,h4,_,h5⟩:=C9;refine⟨σ,_,oF I3 (by rw[e];exact Q4) hs ⟨q,hq⟩ (Aq ⟨lo,?_,_,zot rv pr,h5,q,es,ep,hq,h2,h3,h4⟩),q3⟩;exact PB (rC kvs k b v) hl
theorem wB{P:Pu}{w:PU}:∀{kvs:cI}{xs:List (OY×Addr×O9)}{us:List O9},SR iZ kvs xs->us=xs.map (λx=>P4 x.2.1)->YQ (kvs.map λq=>V.ref q.2.1) us
 |_,_,_,.nil,e=>by subst e;exact .nil
 |_,_,_,.cons r t,e=>by
  subst e;refine .cons ?_ (wB (P:=P) (w:=w) t rfl)
  simp_all
  rw[r.2.1];exact rfl
noncomputable def zou(hcm:X.calm=G3):Zf X (.type "list") (λxs H Q=>∃a kvs,xs=[V.ref a]/\H a=KQ (TD X.prog X.w a kvs)/\∀l,H l=HA->Q (.ref l) (upd H l (.lst (kvs.map λq=>.ref q.2.1)))):=by
 intro pins s σ H xs us Q I r h;obtain⟨a,kvs,rfl,ha,q⟩:=h;obtain⟨u,rfl,ru⟩:=vals1 r;cases ru;obtain⟨lo,hl,xs,pr,nd,o,es,ep,e1,e2,e3,e4⟩:=tQ I.hok ha;have hsz:es.size=xs.length:=size_of_entries e4;have Zv:kvs.length=xs.length:=Rl pr;refine PySem.W.kdl_call (zos (prog:=X.prog) (w:=X.w) (es:=es) (ep:=ep) lo) (I.ok.hd hcm) ⟨o,e1,e2,e3⟩ (by lia) λh' tk acc c k1 k2 k3=>?_
 have hv:YQ (kvs.map λq=>V.ref q.2.1) acc.toList:=wB (P:=X.prog) (w:=X.w) pr (by
  refine WC λj=>?_;have k4:=k3.2 j
  by_cases hj:j<es.size
  .have hj':j<acc.size:=by rw[k3.1];exact hj
   obtain⟨_,k5⟩:=k4 acc[j] (by simp);rw[VC,SC hj',k5];have:=entry_at e4 j;rw[SC hj] at this;rw[P5]
   cases hx:xs[j]? with
   |none=>rw[hx] at this;cases this
   |some x=>
    rw[hx] at this;have e5:es[j]=Xn (kind X.prog X.w) x:=Rw this;rw[e5];rfl
  .rw[VC,Vg (by rw[k3.1];lia),P5,Vz (by lia)]
   rfl)
 have hn:H s.heap.objs.size=HA:=I.hok.fresh (Pk _);exact⟨.ref s.heap.objs.size,_,I.laid (t':=tk) (o:=.lst (kvs.map λq=>.ref q.2.1)) k1 (Pk _) ⟨by simp;lia,acc.toList,c,hv,by simpa using k2⟩,rfl,q _ hn⟩
noncomputable def gu(kvs:cI)(k:OY):Option V:=(kvs.find? λq=>decide (q.1=k)).map (·.2.2)
theorem uW{k:OY}:∀{kvs:cI}{xs:List (OY×Addr×O9)},SR iZ kvs xs->match gu kvs k,(UL xs k).map (·.2) with
  |some v,KQ u=>RelV v u
  |none,HA=>True
  |_,_=>False
 |_,_,.nil=>Q4
 |p::ps,q::qs,.cons r t=>by
  have ih:=uW (k:=k) t;unfold gu UL at ih ⊢;rw[QK,QK,r.1]
  by_cases z:q.1=k
  .rw[decide_eq_true z]
   exact r.2.2
  .rw[decide_eq_false z]<;>omega
noncomputable def zov(hu:X.A.units+10<UI):BA X "dict.get" (λx vs H Q=>∃O a kvs b k,x=.ref a/\vs=[.ref b]/\H a=KQ (TD X.prog X.w a kvs)/\(∀q∈kvs,dI X.K O H (q.1,q.2.1))/\dI X.K O H (k,b)/\Q ((gu kvs k).getD .non) H):=by
 intro pins s σ H x vs v us Q I rx rv h;obtain⟨O,a,kvs,b,k,rfl,rfl,ha,ks,kb,q⟩:=h;cases rx;obtain⟨lo,_,xs,pr,dd⟩:=yd I ha ks
 cases rv with
 |cons r1 r2=>
 cases r2;cases r1;have vv:=uW (k:=k) pr;refine call_meetsIn VD dd.typeIs PySem.F.entry_dict_get (PySem.F.args_dict_get_2 _ _) (meetsH_dict_get (kind X.prog X.w) a b lo) ⟨show X.A.units+1+8<UI from by lia,k,xs,key_is I kb,dd,?_⟩
 cases e1:gu kvs k with
 |none=>
  cases e2:(UL xs k).map (·.2) with
  |none=>rw[e1] at q;exact⟨.non,H,I.tok _,rfl,q⟩
  |some u=>simp_all
 |some v=>
  cases e2:(UL xs k).map (·.2) with
  |none=>simp_all
  |some u=>rw[e1,e2] at vv;rw[e1] at q;exact⟨v,H,I.tok _,vv,q⟩
noncomputable def zow(hu:X.A.units+10<UI)(ho:PE X o to)(ha:PA X [e] t)
  (Zk:autoParam (QI o "get" X.env (eval o X.env)=eval o X.env) u10)
  (ZI:autoParam (((Qj YO (Pi [e] X.env)).all (λx=>!x.1)&&(RO YO (QQ [] X.env)).all (λx=>x.1.isSome)
   && decide (([e]:List Expr).length+([]:List Rn).length+(if ([]:List Rn).isEmpty then 0 else 1)<30))=G3) u10)
  (Zj:autoParam ((apos.endLine == YO.line)=G3) u10) (hs:autoParam (Pi [e] X.env=(Gy,eval e X.env)::Pi [] X.env) u10) (Y6:autoParam ((Qj YO (Pi [] X.env)).any (·.1)=Gy) u10) :
  PE X (.Call (.Attribute o "get" apos) [e] [] YO) (λσ H Q=>to σ H λx H1=>(∃a kvs,x=.ref a/\H1 a=KQ (TD X.prog X.w a kvs))/\t σ H1 λxs H2=>∃O a kvs b k,x=.ref a/\xs=[.ref b]/\H2 a=KQ (TD X.prog X.w a kvs)/\(∀q∈kvs,dI X.K O H2 (q.1,q.2.1))/\dI X.K O H2 (k,b)/\Q ((gu kvs k).getD .non) H2):=by
 intro pins s σ H Q I h;refine U6 Zk ZI Zj rfl (YZ (ho pins s σ H _ I h) λv s1 ⟨x,H1,I1,r1,ty,q1⟩=>?_);obtain⟨a,kvs,rfl,hk⟩:=ty;cases r1;obtain⟨_,_,_,_,_,ob,_,_,e1,ex,_⟩:=tQ I1.hok hk;refine⟨"dict","dict.get",PySem.F.plainAttrs_dict,VD,PySem.F.type_dict_get,⟨ob,e1,ex.1⟩,λa e2=>?_,?_⟩
 .cases e2
  exact⟨ob,e1,ex.2.1⟩
 have hA:=ha YO pins s1 σ H1 _ I1 q1;rw[hs] at hA ⊢;refine U7 (by show (Gy||(Qj YO (Pi [] X.env)).any (·.1))=Gy;rw[Y6] <;> rfl) (VI ?_);exact YZ hA λus s2 ⟨vs,H2,I2,r2,q2⟩=>zov hu pins s2 σ H2 (.ref a) vs (.ref a) us Q I2 rfl r2 q2
end
noncomputable def zox(kvs:cI)(k k':OY)(a:Addr)(v:V):gu (ck kvs k a v) k'=if k'=k then KQ v else gu kvs k':=by
 unfold ck gu
 by_cases hk:k'=k
 .subst hk
  rw[if_pos rfl];split
  .rename_i h
   induction kvs with
   |nil=>cases h
   |cons p ps ih=>
    rw[P2,QK]
    by_cases z:p.1=k'
    .simp_all
    .rw[if_neg z,decide_eq_false z]
     rw[RA,decide_eq_false z,Bool.false_or] at h;exact ih h
  .rename_i h
   have n:kvs.find? (λq=>decide (q.1=k'))=HA:=by
    rw[List.find?_eq_none];intro q hq z;exact h (Th.mpr ⟨q,hq,z⟩)
   rw[List.find?_append,n,QK,decide_eq_true rfl];rfl
 .rw[if_neg hk]
  split
  .rename_i h
   clear h
   induction kvs with
   |nil=>rfl
   |cons p ps ih=>
    rw[P2,QK,QK]
    by_cases z:p.1=k
    .rw[if_pos z,decide_eq_false (show ¬(p.1,p.2.1,v).1=k' from λy=>hk (y.symm.trans z))]
     exact ih
    .rw[if_neg z]
     by_cases y:p.1=k'
     .rw[decide_eq_true y]
     .rw[decide_eq_false y]
      exact ih
  .grind
end TK
namespace D
open L2
def ZD.trans(h:ZD O H O1 H1)(g:ZD O1 H1 O2 H2):ZD O H O2 H2:=λa o n p e=>let ⟨n1,e1⟩:=h a o n p e;g a o n1 p e1
def ZD.refl:ZD O H O H:=λ_ _ n _ e=>⟨n,e⟩
def ZD.same(s:YM [] H H'):ZD O H O H':=λa o n _ e=>⟨n,s a o (by simp) e⟩
theorem ZD.new(h:H p=HA)(o:HO):ZD O H O (upd H p o):=.same (.new h o)
def ZD.put(h:O p\/∃q,H p=KQ q/\tq q=Gy):ZD O H O (upd H p u):=λa o n pl e=>by
 refine⟨n,?_⟩
 rw[aA]<;>grind
end D
namespace TK
open L2 D
def Tr(O:Addr->Prop)(H:Hp):Prop:=∀b,O b->D.Ez (H b)
def Tr.hc{K:Frag}{O:Addr->Prop}{H:Hp}(t:Tr O H):HC K O [] H []:=⟨λb hb=>(by simp_all),t,Sv,rfl,λi a xs e _=>by simp at e⟩
def Tr.same(t:Tr O H)(s:YM [] H H'):Tr O H':=λb hb=>(t b hb).to λu e=>s b u (by simp) e
def Tr.fresh(t:Tr O H)(h:H p=HA):¬O p:=λz=>by
 obtain⟨u,e⟩:=(t p z).ex<;>grind
noncomputable def putL(ls:List OY)(l:OY):List PyData:=if l∈ls then ls else ls++[l]
noncomputable def zoy(kvs:cI)(k:OY)(a:Addr)(v:V):(ck kvs k a v).map (·.1)=putL (kvs.map (·.1)) k:=by
 unfold ck putL
 have e:kvs.any (λq=>decide (q.1=k))=G3↔k∈kvs.map (·.1):=by simp
 by_cases h:k∈kvs.map (·.1)
 .rw[if_pos h,if_pos (e.mpr h),S9]
  refine Ra λq _=>?_;show (if q.1=k then _ else q).1=q.1
  split <;> rfl
 .rw[if_neg h,if_neg (λz=>h (e.mp z)),So]
  rfl
noncomputable def zoz(h:q∈ck kvs k a v):(q.1,q.2.1)=(k,a)\/∃q'∈kvs,(q.1,q.2.1)=(q'.1,q'.2.1):=by
 unfold ck at h;split at h
 .obtain⟨q',h1,rfl⟩:=PD.mp h
  refine .inr ⟨q',h1,?_⟩
  split <;> rfl
 .rcases Pt.mp h with h|h
  .exact .inr ⟨q,h,rfl⟩
  .rw[Py] at h
   subst h;exact .inl rfl
section
variable {K:Frag}{O O1:Addr->Prop}{ts:List Addr}{H:Hp}{σ:L2.St}{ρ:YR}
def bN:Zu K O ts H σ []:=λi w e=>by simp at e
noncomputable def aH(h:Zu K O ts H σ ρ):Zu K O ts H (v::σ) (HA::ρ):=λi w e=>by
 cases i with
 |zero=>simp at e
 |succ i=>exact h i w (by simpa using e)
noncomputable def bI(r:ZY K O ts H v w)(h:Zu K O ts H σ ρ):Zu K O ts H (KQ v::σ) (KQ w::ρ):=λi u e=>by
 cases i with
 |zero=>
  simp_all
 |succ i=>exact h i u (by simpa using e)
end
theorem xg{K:Frag}{O:Addr->Prop}{H:Hp}:∀{kvs:cI},(∀q∈kvs,dI K O H (q.1,q.2.1))->YK K O H (kvs.map λq=>.ref q.2.1) (kvs.map (·.1))
 |[],_=>.nil
 |q::r,h=>.cons (h q Pf).2 (xg λz hz=>h z (Pc _ hz))
noncomputable def uL(hr:YW k A):A.units+9<cLine:=by have:=hr.un;lia
noncomputable def K9(t:TS):TS:=λD σ H=>∃M:L2.St->Hp->Prop,t { D with nx:=M } σ H/\∀σ' H',M σ' H'->D.nx σ' H'
noncomputable def zpa{X:Cx}{st:Stmt}{t:TS}(h:PS X st t):PS X st (K9 t):=by
 intro pins s σ H D I ⟨M,a,b⟩;refine YZ (h pins s σ H _ I a) λf s' q=>?_
 cases f with
 |next=>obtain⟨Gs,H7,I7,n7⟩:=q;exact⟨Gs,H7,I7,b _ _ n7⟩
 |cont=>exact q
 |brk=>exact q
 |ret v=>exact q
noncomputable def zpb{K:Frag}{a:Addr}{xs:List V}{g:TG}{tb:TS}{D:Ends}{σ:L2.St}{H:Hp}(Pv:Nat->L2.St->Hp->Prop)(h0:Pv 0 σ H)(hl:∀i σ H,i<=xs.length->Pv i σ H->ZJ K H a xs)
  (hs:∀i x σ H p,xs[i]? = KQ x->H p=HA->Pv i σ H->g (.ref p) σ (upd H p (.tup [.int (i:Int),x])) λCc H2=>tb { D with nx:=Pv (i+1),ct:=Pv (i+1),bk:=D.nx } Cc H2) (hd:∀σ H,Pv xs.length σ H->D.nx σ H) :
  ∃W:Nat->Nat->L2.St->Hp->Prop,(∃m,W 0 m σ H)/\∀i m σ H,W i m σ H ->
   ((nk K a).stop i H/\D.nx σ H)\/((nk K a).go i H/\∃N:L2.St->Hp->Prop,(∀σ' H',N σ' H'->∃m',m' < m/\W (i+1) m' σ' H')/\∀x H',(nk K a).yld i H x H'->g x σ H' λCc H2=>tb { D with nx:=N,ct:=N,bk:=D.nx } Cc H2):=by
 refine⟨λi m σ H=>m=xs.length-i/\i<=xs.length/\Pv i σ H,⟨xs.length,by simp,Ql _,h0⟩,?_⟩;rintro i m σ H ⟨rfl,hi,p⟩;have q:=hl i σ H hi p
 by_cases ZM:i<xs.length
 .refine .inr ⟨⟨xs,q,ZM⟩,Pv _,λσ' H' p'=>⟨xs.length-_,by omega,rfl,ZM,p'⟩,λx H' y=>?_⟩
  obtain⟨b,v,e1,e2,rfl,rfl⟩:=y;exact hs i v σ _ b (e2 xs q) e1 p
 .have e:i=xs.length:=by omega
  subst e;exact .inl ⟨⟨xs,q,rfl⟩,hd σ H p⟩
end TK
namespace G
open L2 D
noncomputable def top(i:Nat):Stmt:=PySem.Challenge.pw_redo_k62_whole_shelves_merged.main.body.getD i (.Pass ⟨0,0,0,0⟩)
noncomputable def cF(i j:Nat):Stmt:=match top i with
 |.ClassDef _ _ _ b _ _ _ _ _ _ _=>b.getD j (.Pass ⟨0,0,0,0⟩)
 |s=>s
noncomputable abbrev zS:List (Str×Nat):=("merged",83)::("_law_finds",103)::("is_whole",8)::("has_only",9)::("is_name",10)::("is_single",11)::("is_built",12)::("many_of",14)::("is_value",13)::("exprs_within",18)::("got_behind",25)::("is_honest",26)::("stamp_of",34)::("is_figures",41)::("number_by",40)::("single_by",39)::("single_at",38)::("row_at",37)::("value_at",36)::("value_by",35)::("filling_words",47)::("expr_words",46)::("recipe_words",45)::("show_recipe",44)::("put_by",54)::("number_below",55)::("exprs_by",52)::("expr_by",51)::("name_by",53)::("recipe_by",50)::("read_recipe",49)::("recipe_or_none",57)::("told_less",66)::("bounded",61)::("told_many",62)::("told_part",63)::("told_sum",64)::("told_join",65)::("told_of",60)::("told_by",59)::("step_of",71)::("followed",70)::("replay",69)::("is_stamp",76)::("is_read",75)::("are_reads",74)::("is_end",77)::("comes_to",78)::("is_entry",81)::("_law_draws",85)::("_law_names",86)::("_law_next",87)::("_law_value",88)::("_law_leaf",89)::("_law_expr",90)::("_law_recipe",91)::("_law_size",92)::("_law_great",93)::("_law_both",94)::("_law_tells",95)::("_law_stamp",96)::("_law_is_name",97)::("_law_run",98)::("_law_doing",99)::("_law_entry",100)::("_law_recipe_by",101)::("_law_entries",102)::("law",104)::[]
noncomputable abbrev zZ:List Str:="enumerate"::["abs","all","bool","int","isinstance","len","list","max","range","str","sum","tuple"]
noncomputable abbrev zI:List (Str×Int):=[("MOST_DEEP",20),("MOST_FIGURES",19),("MOST_IN_ROW",8),("MOST_LETTERS",8),("MOST_PARTS",8),("MOST_PARTS_IN_ALL",60),("MOST_READS",12),("MOST_ROWS",4),("MOST_SIGNS",20),("MOST_VALUES",40),("MOST_WANTS",12)]
noncomputable abbrev zT:List (Str×Str):=[("FIGURES","0123456789"),("LETTERS","abcdefghijklmnopqrstuvwxyz"),("TEXT_SIGNS","abcdefghijklmnopqrstuvwxyz0123456789-")]
structure Bi(K:Frag)(mg:Str->Option O9)(C:Addr):Prop extends Bz K mg zZ zI zT where
 k_Words:Gb K C
 m_Words:mg "Words"=KQ (.ref C)
 n_Words_begun:Zl K C "begun"
 n_Words_parted:Zl K C "parted"
 n_Words_place:Zl K C "place"
 d_Words____init__:Cb K C "__init__" "Words.__init__" (cF 48 0)
 d_Words__ahead:Cb K C "ahead" "Words.ahead" (cF 48 1)
 d_Words__take:Cb K C "take" "Words.take" (cF 48 2)
 d_Words__begin:Cb K C "begin" "Words.begin" (cF 48 3)
 d_Words__finish:Cb K C "finish" "Words.finish" (cF 48 4)
 gC:Fg K C=G3
 t_RECIPES_WITHIN:qi K mg "RECIPES_WITHIN" [("say",0),("fail",0),("want",1),("peek",1),("when",2)]
 t_WITHIN:qi K mg "WITHIN" [("many",1),("part",2),("sum",2),("join",2),("same",2),("less",2)]
 s_NOT_GIVEN:Br K mg "NOT_GIVEN" [("want","wants"),("peek","peeks")]
 g_FILLED:uu K mg "FILLED" ["put","got","row"]
 g_GETTING:uu K mg "GETTING" ["want","peek"]
section
variable {P:Pu}{w:PU}{K:Frag}{mg:Str->Option O9}{base:Heap}{C:Addr}(E:Ev P w K mg base (Bi K mg C) top zS)
include E
noncomputable def zpc:Fz P w K mg base C ["self","text"] 1 (Y1 K 2 (i4 C)):=zie E.b E.b.d_Words____init__ E.b.gC ["self","text"] λB S hr=>(ay (mH B.k_Words B.n_Words_parted (af 0) (zgo (af 1) ap)) (ay (mH B.k_Words B.n_Words_place (af 0) ak) (bo (mH B.k_Words B.n_Words_begun (af 0) ak))))
noncomputable def lA:Jj P w K mg base C "ahead" ["self"] 1 (Y1 K 1 (ie C)):=pR E.b E.b.d_Words__ahead ["self"] λB S hr=>(Za (fG (aE d7 (gS B.k_Words B.n_Words_place (af 0)) (ZU B.z (gS B.k_Words B.n_Words_parted (af 0)))) (bc aZ (gS B.k_Words B.n_Words_parted (af 0)) (gS B.k_Words B.n_Words_place (af 0))) ap))
noncomputable def nz:Jj P w K mg base C "take" ["self","fits"] 1 (Y1 K 2 (i7 C)):=pR E.b E.b.d_Words__take ["self","fits"] λB S hr=>(ay (cy (bK (aY (af 1))) (bo zwd) cK) (bo (mH B.k_Words B.n_Words_place (af 0) (aF aR (gS B.k_Words B.n_Words_place (af 0)) ak))))
noncomputable def uC:Jj P w K mg base C "begin" ["self","fits","above"] 2 (Y1 K 3 (lz C)):=pR E.b E.b.d_Words__begin ["self","fits","above"] λB S hr=>(ay (jm (kl (nz E) B.k_Words (hr.mono (by lia)) (af 0) (ao (dD (af 1) (dD (cg d7 (af 2) (eS rfl B.i)) (eA (cg d7 (gS B.k_Words B.n_Words_begun (af 0)) (eS rfl B.i))))) aC) (aU cu))) (bo (mH B.k_Words B.n_Words_begun (af 0) (aF aR (gS B.k_Words B.n_Words_begun (af 0)) ak))))
noncomputable def zpd:Jj P w K mg base C "finish" ["self"] 1 (Y1 K 1 (jP C)):=pR E.b E.b.d_Words__finish ["self"] λB S hr=>(bo (cy (aE d7 (gS B.k_Words B.n_Words_place (af 0)) (ZU B.z (gS B.k_Words B.n_Words_parted (af 0)))) (bo zwd) cK))
noncomputable def iw:Fn P w K mg base "is_whole" ["thing"] 1 (Y1 K 1 fi):=aN E 8 ["thing"] λB S hr=>(Za (dD (bz .int B.z (af 0) B.z Sx) (eA (pB (bz .bl B.z (af 0) B.z boot_bool)))))
noncomputable def qB:Fn P w K mg base "has_only" ["text","signs"] 1 (Y1 K 2 fS):=aN E 9 ["text","signs"] λB S hr=>(Za (eJ m4 rfl B.z WL (ao (eZ (top 9) ["text","signs"] (cM (af 0)) (cg g9 (af 0) (af 2))) aC)))
noncomputable def nS:Fn P w K mg base "is_name" ["thing"] 2 (Y1 K 1 eP):=aN E 10 ["thing"] λB S hr=>(Za (dD (bz .str B.z (af 0) B.z Rr) (dD (ztu fL fL ak (ZU B.z (af 0)) (eS rfl B.i)) (eA (cP (qB E) hr (af 0) (rW rfl B.s))))))
noncomputable def zpe:Fn P w K mg base "is_single" ["thing"] 2 (Y1 K 1 lE):=aN E 11 ["thing"] λB S hr=>(Y4 (aY (aL (iw E) hr (af 0))) (cg fL (eJ zfq rfl B.z boot_abs (ao (af 0) aC)) (aF mP ak ak)) (Za (dD (bz .str B.z (af 0) B.z Rr) (dD (cg fL (ZU B.z (af 0)) (eS rfl B.i)) (eA (cP (qB E) hr (af 0) (rW rfl B.s)))))))
noncomputable def zpf:∀n,Fn P w K mg base "is_built" ["thing","rows_left"] (2+n) (Y1 K 2 (fR n)):=dP (dH E 12) λn ih=>aN (k:=2+n) E 12 ["thing","rows_left"] λB S hr=>(Y4 (bK (aY (bz .tup B.z (af 0) B.z QG))) (aL (zpe E) hr (af 0)) (Y4 (bZ (cx (aE aM (af 1) ak) (dj (aE eY (ZU B.z (af 0)) (eS rfl B.i))))) gr (Za (eJ m4 rfl B.z WL (ao (eZ (top 12) ["thing","rows_left"] (cM (af 0)) (cP ih hr (af 0) (aF iM (af 2) ak))) aC)))))
noncomputable def zpg:∀n,Fn P w K mg base "many_of" ["value"] (0+n) (Y1 K 1 (jg n)):=dP (dH E 14) λn ih=>aN (k:=0+n) E 14 ["value"] λB S hr=>(Y4 (bK (aY (bz .tup B.z (af 0) B.z QG))) ak (Za (aF aR ak (eJ zfs rfl B.z boot_sum (ao (eZ (top 14) ["value"] (cM (af 0)) (aL ih hr (af 0))) aC)))))
def u7:Fn P w K mg base "is_value" ["thing"] 28 (Y1 K 1 jW):=aN E 13 ["thing"] λB S hr=>(Za (dD (cP (zpf E 25) hr (af 0) (eS rfl B.i)) (eA (cg fL (aL (zpg E 25) hr (af 0)) (eS rfl B.i)))))
noncomputable def uB:Fn P w K mg base "exprs_within" ["expr"] 1 (Y1 K 1 cA):=aN E 18 ["expr"] λB S hr=>(Y4 (bZ (cx (aE aM (YU 0) ap) (dj (aE aM (YU 0) ap)))) (cR aC) (Y4 (aE aM (YU 0) ap) (dB zuo rfl B.z Yh (ao (YU 0) aC)) (Za (dB zuo rfl B.z Yh (ao (dY (af 0) (cL ak) gL) aC)))))
noncomputable def zph:Fn P w K mg base "got_behind" ["word","got"] 1 (Y1 K 2 lB):=aN E 25 ["word","got"] λB S hr=>(Za (fG (aE g9 (af 0) (rV (ss:=["want","peek"]) rfl B.g_GETTING)) (aF aR (af 1) ak) (af 1)))
noncomputable def zpi:∀n,Fn P w K mg base "is_honest" ["recipe"] (0+n) (Y1 K 1 (ip n)):=dP (dH E 26) λn ih=>aN (k:=0+n) E 26 ["recipe"] λB S hr=>(Y4 (aE aM (YU 0) ap) gr (Za (eJ m4 rfl B.z WL (ao (eZ (top 26) ["recipe"] (cM (dY (af 0) (cL ak) gL)) (aL ih hr (af 0))) aC))))
def u6:∀n,Fn P w K mg base "stamp_of" ["value"] (1+n) (Y1 K 1 (fh n)):=dP (dH E 34) λn ih=>aN (k:=1+n) E 34 ["value"] λB S hr=>(Y4 (aY (aL (iw E) hr (af 0))) (dB mY rfl B.z Rr (ao (af 0) aC)) (Y4 (aY (bz .str B.z (af 0) B.z Rr)) (aF aR ap (af 0)) (Za (aF aR (aF aR ap (sJ ap (eZ (top 34) ["value"] (cM (af 0)) (aL ih hr (af 0))))) ap))))
noncomputable def zpj:Fn P w K mg base "is_figures" ["text"] 2 (Y1 K 1 ig):=aN E 41 ["text"] λB S hr=>(Y4 (bZ (cx (aE aM (af 0) ap) (dj (bK (aY (cP (qB E) hr (af 0) (rW rfl B.s))))))) gr (Za (pQ (cg aM (af 0) ap) (eA (pB (qY (af 0) ap))))))
noncomputable def zpk:Fn P w K mg base "number_by" ["word"] 3 (Y1 K 1 lD):=aN E 40 ["word","figures"] λB S hr=>(ay (aK (i:=1) S.nd (fG (aY (qY (af 0) ap)) (dY (af 0) (cL ak) gL) (af 0))) (Y4 (bZ (cx (aE aM (af 0) ap) (cx (aE eY (ZU B.z (af 1)) (eS rfl B.i)) (dj (bK (aY (aL (zpj E) hr (af 1)))))))) eK (Za (dB ue rfl B.z Sx (ao (af 0) aC)))))
noncomputable def zpl:Fn P w K mg base "single_by" ["word"] 4 (Y1 K 1 lC):=aN E 39 ["word"] λB S hr=>(Y4 (aY (qY (af 0) ap)) (dY (af 0) (cL ak) gL) (Za (aL (zpk E) hr (af 0))))
noncomputable def zpm:Fn P w K mg base "single_at" ["text","at"] 5 (Y1 K 2 jT):=aN E 38 ["text","at","behind","single"] λB S hr=>(ay (aK (i:=2) S.nd (af 1)) (ay (lU 100000 (bZ (gQ (aE d7 (af 2) (ZU B.z (af 0))) (iE (aE zuh (bc aZ (af 0) (af 2)) ap)))) (bo (aK (i:=2) S.nd (aF aR (af 2) ak)))) (ay (aK (i:=3) S.nd (aL (zpl E) hr (dY (af 0) (cL (af 1)) (cL (af 2))))) (Za (fG (aE uk (af 3) eK) eK (Zb (af 3) (af 2)))))))
noncomputable def zpn:∀n,Fn P w K mg base "row_at" ["text","at","rows_left"] (5+n) (Y1 K 3 (lQ n))/\Fn P w K mg base "value_at" ["text","at","rows_left"] (5+n) (Y1 K 3 (eI n)):=dP ⟨(dH E 37),(dH E 36)⟩ λn ih=>⟨(aN (k:=5+n) E 37 ["text","at","rows_left","parts","found","sign"] λB S hr=>(Y4 (aE aM (dY (af 0) (cL (af 1)) (cL (aF aR (af 1) ak))) ap) (Zb (bX aC) (aF aR (af 1) ak)) (ay (gK (i:=3) S.nd aC) (bo (lU 100000 (aY gr) (ay (aK (i:=4) S.nd (dJ ih.2 hr (af 0) (af 1) (af 2))) (Y4 (aE uk (af 4) eK) eK (ay (gh (i:=3) (by exact(YU 4))) (ay (aK (i:=1) S.nd (aF aR (YU 4) ak)) (ay (aK (i:=5) S.nd (dY (af 0) (cL (YU 4)) (cL (af 1)))) (Y4 (aE aM (af 5) ap) (Zb (dB jn rfl B.z QG (ao (af 3) aC)) (af 1)) (bo (cy (aE iR (af 5) ap) (Za eK) cK))))))))))))),(aN (k:=5+n) E 36 ["text","at","rows_left"] λB S hr=>(Y4 (aE iR (dY (af 0) (cL (af 1)) (cL (aF aR (af 1) ak))) ap) (cP (zpm E) hr (af 0) (af 1)) (Y4 (aE aM (af 2) ak) eK (Za (dJ ih.1 hr (af 0) (aF aR (af 1) ak) (aF iM (af 2) ak))))))⟩
noncomputable def zpo:Fn P w K mg base "value_at" ["text","at","rows_left"] 30 (Y1 K 3 (eI 25)):=(zpn E 25).2
noncomputable def qA:Fn P w K mg base "value_by" ["text"] 31 (Y1 K 1 iu):=aN E 35 ["text","found"] λB S hr=>(ay (aK (i:=1) S.nd (dJ (zpo E) hr (af 0) ak (eS rfl B.i))) (Y4 (bZ (cx (aE uk (af 1) eK) (dj (aE d7 (YU 1) (ZU B.z (af 0)))))) eK (Za (fG (aY (aL (u7 E) hr (YU 1))) (YU 1) eK))))
noncomputable def zpp:Fn P w K mg base "filling_words" ["expr"] 27 (Y1 K 1 h7):=aN E 47 ["expr"] λB S hr=>(Y4 (aE aM (YU 0) ap) (cR (ao (aL (u6 E 25) hr (YU 0)) aC)) (Y4 (aE aM (YU 0) ap) (cR (ao (dB mY rfl B.z Rr (ao (YU 0) aC)) aC)) (Y4 (aE aM (YU 0) ap) (cR (ao (dB mY rfl B.z Rr (ao (ZU B.z (YU 0)) aC)) aC)) (Za (cR aC)))))
noncomputable def zpq:∀n,Fn P w K mg base "expr_words" ["expr"] (27+n) (Y1 K 1 (gB n)):=dP (dH E 46) λn ih=>aN (k:=27+n) E 46 ["expr","words","part"] λB S hr=>(ay (zwi (i:=1) S.nd (cR (ao (YU 0) aC)) (aL (zpp E) hr (af 0))) (ay (gf (i:=2) S.nd (cM (aL (uB E) hr (af 0))) (bo (zux (i:=1) (by exact(aL ih hr (af 2)))))) (Za (af 1))))
noncomputable def zpr:∀n,Fn P w K mg base "recipe_words" ["recipe"] (52+n) (Y1 K 1 (ic n)):=dP (dH E 45) λn ih=>aN (k:=52+n) E 45 ["recipe","words","part"] λB S hr=>(Y4 (aE aM (YU 0) ap) (cR (ao (YU 0) (ao (YU 0) aC))) (ay (zwi (i:=1) S.nd (cR (ao (YU 0) aC)) (aL (zpq E 25) hr (YU 0))) (ay (gf (i:=2) S.nd (cM (dY (af 0) (cL ak) gL)) (bo (zux (i:=1) (by exact(aL ih hr (af 2)))))) (Za (af 1)))))
noncomputable def zps:Fn P w K mg base "show_recipe" ["recipe"] 78 (Y1 K 1 nu):=aN E 44 ["recipe"] λB S hr=>(Za (zgs ap (aL (zpr E 25) hr (af 0))))
noncomputable def zpt:Fn P w K mg base "put_by" ["words"] 32 (Y1 K 1 (nX C)):=aN E 54 ["words","value"] λB S hr=>(ay (aK (i:=1) S.nd (aL (qA E) hr (j4 (lA E) B.k_Words (hr.mono (by lia)) (af 0)))) (ay (jm (kl (nz E) B.k_Words (hr.mono (by lia)) (af 0) (ao (cg sr (af 1) eK) aC) (aU cu))) (Za (af 1))))
noncomputable def uA:Fn P w K mg base "number_below" ["words","bound"] 2 (Y1 K 2 (lw C)):=aN E 55 ["words","bound","figures","word"] λB S hr=>(ay (zia (i:=2) (top 55) ["words","bound","figures","word"] ["words","bound","figures","word"] S.nd (kj rfl B.z (af 1)) (dB mY rfl B.z Rr (ao (af 0) aC)) sI) (ay (aK (i:=3) S.nd (j4 (lA E) B.k_Words (hr.mono (by omega)) (af 0))) (ay (jm (kl (nz E) B.k_Words (hr.mono (by omega)) (af 0) (ao (cg g9 (af 3) (af 2)) aC) (aU cu))) (Za (zgp (af 2) (af 3))))))
noncomputable def zpu:∀n,Fn P w K mg base "exprs_by" ["words","many","above","got"] (32+n) (Y1 K 4 (lH C n))/\Fn P w K mg base "expr_by" ["words","above","got"] (32+n) (Y1 K 3 (fU C n)):=dP ⟨(dH E 52),(dH E 51)⟩ λn ih=>⟨(aN (k:=32+n) E 52 ["words","many","above","got"] λB S hr=>(Za (dB jn rfl B.z QG (ao (eZ (top 52) ["words","many","above","got"] (kj rfl B.z (af 1)) (dJ ih.2 hr (af 1) (af 3) (af 4))) aC)))),(aN (k:=32+n) E 51 ["words","above","got","word"] λB S hr=>(ay (aK (i:=3) S.nd (j4 (lA E) B.k_Words (hr.mono (by lia)) (af 0))) (ay (jm (kl (uC E) B.k_Words (hr.mono (by lia)) (af 0) (ao (pQ (cg g9 (af 3) (rV (ss:=["put","got","row"]) rfl B.g_FILLED)) (eA (zvb B.t_WITHIN rfl (af 3)))) (ao (af 1) aC)) (aU (aU cu)))) (Y4 (aE aM (af 3) ap) (Zb (af 3) (aL (zpt E) hr (af 0))) (Y4 (aE aM (af 3) ap) (Zb (af 3) (cP (uA E) hr (af 0) (af 2))) (Y4 (aE aM (af 3) ap) (Zb (af 3) (qf ih.1 hr (af 0) (cP (uA E) hr (af 0) (aF aR (eS rfl B.i) ak)) (aF aR (af 1) ak) (af 2))) (Za (aF aR (bX (ao (af 3) aC)) (qf ih.1 hr (af 0) (zvc B.t_WITHIN rfl (af 3)) (aF aR (af 1) ak) (af 2))))))))))⟩
noncomputable def zpv:Fn P w K mg base "expr_by" ["words","above","got"] 57 (Y1 K 3 (fU C 25)):=(zpu E 25).2
noncomputable def zpw:Fn P w K mg base "name_by" ["words"] 3 (Y1 K 1 (nQ C)):=aN E 53 ["words","word"] λB S hr=>(ay (aK (i:=1) S.nd (j4 (lA E) B.k_Words (hr.mono (by lia)) (af 0))) (ay (jm (kl (nz E) B.k_Words (hr.mono (by lia)) (af 0) (ao (aL (nS E) hr (af 1)) aC) (aU cu))) (Za (af 1))))
noncomputable def zpx:∀n,Fn P w K mg base "recipe_by" ["words","above","got"] (57+n) (Y1 K 3 (e8 C n)):=dP (dH E 50) λn ih=>aN (k:=57+n) E 50 ["words","above","got","word","expr","behind"] λB S hr=>(ay (aK (i:=3) S.nd (j4 (lA E) B.k_Words (hr.mono (by lia)) (af 0))) (ay (jm (kl (uC E) B.k_Words (hr.mono (by lia)) (af 0) (ao (dD (zvb B.t_RECIPES_WITHIN rfl (af 3)) (eA (pB (dD (cg g9 (af 3) (rV (ss:=["want","peek"]) rfl B.g_GETTING)) (eA (cg aM (af 2) (eS rfl B.i))))))) (ao (af 1) aC)) (aU (aU cu)))) (Y4 (aE aM (af 3) ap) (Zb (af 3) (aL (zpw E) hr (af 0))) (ay (aK (i:=4) S.nd (dJ (zpv E) hr (af 0) (aF aR (af 1) ak) (af 2))) (ay (aK (i:=5) S.nd (cP (zph E) hr (af 3) (af 2))) (Za (aF aR (Zb (af 3) (af 4)) (dB jn rfl B.z QG (ao (eZ (top 50) ["words","above","got","word","expr","behind"] (kj rfl B.z (zvc B.t_RECIPES_WITHIN rfl (af 3))) (dJ ih hr (af 1) (aF aR (af 2) ak) (af 6))) aC)))))))))
noncomputable def zpy:Fn P w K mg base "read_recipe" ["text"] 83 (Y1 K 1 (ny C)):=aN E 49 ["text","words","recipe"] λB S hr=>(zgq (i:=1) (zpc E) (hr.mono (by lia)) rfl B.m_Words S.nd (af 0) (ay (aK (i:=2) S.nd (dJ (zpx E 25) hr (af 1) ak ak)) (ay (jm (j4 (zpd E) B.k_Words (hr.mono (by lia)) (af 1))) (Za (af 2)))))
noncomputable def zpz:Fn P w K mg base "recipe_or_none" ["text"] 84 (Y1 K 1 (nq C)):=aN E 57 ["text"] λB S hr=>(bo (zib (Za (aL (zpy E) hr (af 0))) λ_ _ z=>z))
noncomputable def zqa:Fn P w K mg base "told_less" ["one","other"] 2 (Y1 K 2 ik):=aN E 66 ["one","other"] λB S hr=>(Y4 (bZ (cx (bK (aY (aL (iw E) hr (af 0)))) (dj (bK (aY (aL (iw E) hr (af 1))))))) (Zb ap ap) (Za (Zb ap (fG (aE d7 (af 0) (af 1)) ak ak))))
noncomputable def nT:Fn P w K mg base "bounded" ["thing"] 29 (Y1 K 1 iy):=aN E 61 ["thing"] λB S hr=>(Za (fG (aY (aL (u7 E) hr (af 0))) (Zb ap (af 0)) (Zb ap ap)))
noncomputable def zqb:Fn P w K mg base "told_many" ["value"] 2 (Y1 K 1 ij):=aN E 62 ["value"] λB S hr=>(Y4 (aY (aL (iw E) hr (af 0))) (Zb ap ap) (Za (Zb ap (ZU B.z (af 0)))))
noncomputable def zqc:Fn P w K mg base "told_part" ["row","number"] 2 (Y1 K 2 gE):=aN E 63 ["row","number"] λB S hr=>(Y4 (bZ (cx (bK (aY (bz .tup B.z (af 0) B.z QG))) (dj (bK (aY (aL (iw E) hr (af 1))))))) (Zb ap ap) (Y4 (bK (rR fL d7 ak (af 1) (ZU B.z (af 0)))) (Zb ap ap) (Za (Zb ap (bc aZ (af 0) (af 1))))))
noncomputable def zqd:Fn P w K mg base "told_sum" ["one","other"] 30 (Y1 K 2 jb):=aN E 64 ["one","other"] λB S hr=>(Y4 (bZ (cx (bK (aY (aL (iw E) hr (af 0)))) (dj (bK (aY (aL (iw E) hr (af 1))))))) (Zb ap ap) (Za (aL (nT E) hr (aF aR (af 0) (af 1)))))
noncomputable def zqe:Fn P w K mg base "told_join" ["one","other"] 30 (Y1 K 2 gF):=aN E 65 ["one","other"] λB S hr=>(Y4 (bZ (gQ (aY (bz .str B.z (af 0) B.z Rr)) (iE (aY (bz .str B.z (af 1) B.z Rr))))) (aL (nT E) hr (aF aR (af 0) (af 1))) (Y4 (bZ (gQ (aY (bz .tup B.z (af 0) B.z QG)) (iE (aY (bz .tup B.z (af 1) B.z QG))))) (aL (nT E) hr (aF aR (af 0) (af 1))) (Za (Zb ap ap))))
noncomputable def zqf:Fn P w K mg base "told_of" ["word","parts"] 31 (Y1 K 2 bh):=aN E 60 ["word","parts"] λB S hr=>(Y4 (aE aM (af 0) ap) (aL (nT E) hr (dB jn rfl B.z QG (ao (af 1) aC))) (Y4 (aE aM (af 0) ap) (aL (zqb E) hr (YU 1)) (Y4 (aE aM (af 0) ap) (cP (zqc E) hr (YU 1) (YU 1)) (Y4 (aE aM (af 0) ap) (cP (zqd E) hr (YU 1) (YU 1)) (Y4 (aE aM (af 0) ap) (cP (zqe E) hr (YU 1) (YU 1)) (Y4 (aE aM (af 0) ap) (Zb ap (fG (aE (pI hr) (YU 1) (YU 1)) ak ak)) (Za (cP (zqa E) hr (YU 1) (YU 1)))))))))
noncomputable def zqg:∀n,Fn P w K mg base "told_by" ["expr","got"] (31+n) (Y1 K 2 (cV n)):=dP (dH E 59) λn ih=>aN (k:=31+n) E 59 ["expr","got","parts","inner","told"] λB S hr=>(Y4 (aE aM (YU 0) ap) (Zb ap (YU 0)) (Y4 (aE aM (YU 0) ap) (Zb ap (bc aZ (af 1) (YU 0))) (ay (gK (i:=2) S.nd aC) (ay (gf (i:=3) S.nd (cM (aL (uB E) hr (af 0))) (ay (aK (i:=4) S.nd (cP ih hr (af 3) (af 1))) (Y4 (aE aM (YU 4) ap) (af 4) (bo (gh (i:=2) (by exact(YU 4))))))) (Za (jj (zqf E) (hr.mono (by omega)) rfl (ao (YU 0) (ao (af 2) aC)) (aU (aU cu))))))))
noncomputable def wu:∀n,Fn P w K mg base "step_of" ["recipe","got"] (56+n) (Y1 K 2 (bC n)):=dP (dH E 71) λn ih=>aN (k:=56+n) E 71 ["recipe","got","told"] λB S hr=>(Y4 (aE aM (YU 0) ap) (Zb ap (YU 0)) (ay (aK (i:=2) S.nd (cP (zqg E 25) hr (YU 0) (af 1))) (Y4 (aE aM (YU 2) ap) (af 2) (Y4 (aE aM (YU 0) ap) (cP ih hr (fG (aE (zuw hr) (YU 2) (bX (ao ak (ao ap (ao (bX aC) aC))))) (YU 0) (YU 0)) (af 1)) (Y4 (aE aM (YU 0) ap) (Zb ap (YU 2)) (Y4 (bK (aY (aL (nS E) hr (YU 2)))) (Zb ap ap) (Za (bX (ao (YU 0) (ao (YU 2) (ao (YU 0) aC)))))))))))
noncomputable def zqh:Fn P w K mg base "followed" ["recipe","reads","peeks"] 82 (Y1 K 3 nH):=aN E 70 ["recipe","reads","peeks","given","used","got","step","pairs","k"] λB S hr=>(ay (oE (i:=3) S.nd (af 1) (af 2)) (ay (oE (i:=4) S.nd ak ak) (ay (gK (i:=5) S.nd aC) (ay (aK (i:=6) S.nd (jj (wu E 25) (hr.mono (by lia)) rfl (ao (af 0) (ao (af 5) aC)) (aU (aU cu)))) (ay (lU 100000 (zgd hr (YU 6) (af 3)) (ay (aK (i:=7) S.nd (gR hr (af 3) (YU 6))) (ay (aK (i:=8) S.nd (gR hr (af 4) (YU 6))) (Y4 (bZ (cx (aE zuc (af 8) (ZU B.z (af 7))) (dj (aE iR (bc aZ (bc aZ (af 7) (af 8)) ak) (YU 6))))) (Zb (Zb (zgg B.s_NOT_GIVEN rfl (YU 6)) (YU 6)) (gR hr (af 4) ap)) (ay (gh (i:=5) (by exact(bc aZ (bc aZ (af 7) (af 8)) ak))) (ay (zvi (i:=4) hr (YU 6) (aF aR (af 8) ak)) (bo (aK (i:=6) S.nd (jj (wu E 25) (hr.mono (by lia)) rfl (ao (YU 6) (ao (af 5) aC)) (aU (aU cu))))))))))) (Za (Zb (af 6) (gR hr (af 4) ap))))))))
noncomputable def zqi:Fn P w K mg base "replay" ["recipe","reads","peeks"] 83 (Y1 K 3 j3):=aN E 69 ["recipe","reads","peeks","came"] λB S hr=>(ay (aK (i:=3) S.nd (dJ (zqh E) hr (af 0) (af 1) (af 2))) (Y4 (aE d7 (YU 3) (ZU B.z (af 1))) (Zb ap (YU 3)) (Za (YU 3))))
def u9:Fn P w K mg base "is_stamp" ["thing"] 32 (Y1 K 1 jX):=aN E 76 ["thing"] λB S hr=>(Za (dD (bz .str B.z (af 0) B.z Rr) (eA (cg sr (aL (qA E) hr (af 0)) eK))))
noncomputable def zqj:Fn P w K mg base "is_read" ["thing"] 33 (Y1 K 1 lM):=aN E 75 ["thing"] λB S hr=>(Za (dD (bz .tup B.z (af 0) B.z QG) (dD (cg aM (ZU B.z (af 0)) ak) (dD (aL (nS E) hr (YU 0)) (eA (aL (u9 E) hr (YU 0)))))))
noncomputable def zqk:Fn P w K mg base "are_reads" ["thing"] 34 (Y1 K 1 nE):=aN E 74 ["thing"] λB S hr=>(Y4 (bZ (cx (bK (aY (bz .tup B.z (af 0) B.z QG))) (dj (aE eY (ZU B.z (af 0)) (eS rfl B.i))))) gr (Za (eJ m4 rfl B.z WL (ao (eZ (top 74) ["thing"] (cM (af 0)) (aL (zqj E) hr (af 0))) aC))))
noncomputable def zql:Fn P w K mg base "is_end" ["thing"] 33 (Y1 K 1 lR):=aN E 77 ["thing"] λB S hr=>(Y4 (bZ (cx (bK (aY (bz .tup B.z (af 0) B.z QG))) (cx (aE iR (ZU B.z (af 0)) ak) (dj (bK (aY (bz .str B.z (YU 0) B.z Rr))))))) gr (Y4 (aE aM (YU 0) ap) (aL (u9 E) hr (YU 0)) (Za (dD (cg g9 (YU 0) (Zb ap ap)) (eA (aL (nS E) hr (YU 0)))))))
noncomputable def zqm:Fn P w K mg base "comes_to" ["recipe","reads","end"] 84 (Y1 K 3 lI):=aN E 78 ["recipe","reads","end","came"] λB S hr=>(ay (aK (i:=3) S.nd (dJ (zqi E) hr (af 0) (eZ (top 78) ["recipe","reads","end","came"] (cM (af 1)) (Zb (YU 0) (aL (qA E) hr (YU 0)))) (cR aC))) (Y4 (aE aM (YU 3) ap) (cg (pI hr) (af 2) (Zb ap (aL (u6 E 25) hr (YU 3)))) (Za (cg (pI hr) (af 2) (af 3)))))
noncomputable def zqn:Fn P w K mg base "is_entry" ["thing"] 85 (Y1 K 1 (nG C)):=aN E 81 ["thing","recipe"] λB S hr=>(Y4 (bZ (cx (bK (aY (bz .tup B.z (af 0) B.z QG))) (cx (aE iR (ZU B.z (af 0)) ak) (dj (bK (aY (bz .str B.z (YU 0) B.z Rr))))))) gr (Y4 (bZ (cx (bK (aY (aL (zqk E) hr (YU 0)))) (cx (bK (aY (aL (zql E) hr (YU 0)))) (dj (aE aM (bc aZ (YU 0) ak) ap))))) gr (ay (aK (i:=1) S.nd (aL (zpz E) hr (YU 0))) (Za (dD (cg sr (af 1) eK) (dD (aL (zpi E 25) hr (af 1)) (eA (dJ (zqm E) hr (af 1) (YU 0) (YU 0)))))))))
noncomputable def nA:Fn P w K mg base "_law_draws" ["_law_script","_law_k","_law_sizes"] 1 (Fj K 3 gD):=zhy E 85 ["_law_script","_law_k","_law_sizes","_law_cell","_law_found","_law_size_here","_law_number"] λB S hr=>(ay (aK (i:=3) S.nd ak) (ay (cy (aE eY (ZU B.z (af 0)) ak) (bo (aK (i:=3) S.nd (bc aZ (af 0) (aF dq (af 1) (ZU B.z (af 0)))))) cK) (ay (gK (i:=4) S.nd aC) (ay (cy (aE zuc (af 3) (aF mP ak ak)) (ay (gf (i:=5) S.nd (cM (af 2)) (ay (gh (i:=4) (by exact(aF dq (af 3) (af 5)))) (bo (aK (i:=3) S.nd (aF zhp (af 3) (af 5)))))) (bo (zwr (i:=4)))) cK) (ay (gf (i:=5) S.nd (cM (af 2)) (ay (aK (i:=6) S.nd (aF dq (aF aR (aF aR (af 3) (aF gW ak (af 1))) (aF gW ak (ZU B.z (af 4)))) ak)) (ay (aK (i:=6) S.nd (aF dq (aF aR (aF aR (aF gW (af 6) (af 6)) (aF gW ak (af 6))) (af 1)) ak)) (ay (aK (i:=6) S.nd (aF dq (aF aR (aF aR (aF gW (af 6) (af 6)) (aF gW ak (af 6))) (ZU B.z (af 4))) ak)) (bo (gh (i:=4) (by exact(aF dq (af 6) (af 5))))))))) (bo (zwr (i:=4))))))))
noncomputable def zqo:Fn P w K mg base "_law_names" ["_law_script","_law_k","_law_many"] 2 (Y1 K 3 qm):=aN E 86 ["_law_script","_law_k","_law_many","_law_letters","_law_words","_law_draws_here","_law_names_here","_law_j","_law_part","_law_name"] λB S hr=>(ay (aK (i:=3) S.nd ap) (ay (aK (i:=4) S.nd (cR (ao ap (ao ap (ao ap (ao ap (ao ap (ao ap (ao ap (ao ap (ao ap (ao ap (ao ap (ao ap aC)))))))))))))) (ay (zhm (i:=5) (nA E) (hr.mono (by omega)) rfl S.nd (ao (af 0) (ao (af 1) (ao (aF aR (cR (ao ak aC)) (aF tD (cR (ao ak (ao ak (ao ak (ao ak (ao ak (ao ak (ao ak (ao ak (ao ak aC)))))))))) (af 2))) aC))) (aU (aU (aU cu)))) (ay (gK (i:=6) S.nd aC) (ay (gf (i:=7) S.nd (kj rfl B.z (af 2)) (ay (aK (i:=8) S.nd (dY (af 5) (cL (aF aR ak (aF gW ak (af 7)))) (cL (aF aR ak (aF gW ak (af 7)))))) (ay (aK (i:=9) S.nd (sJ ap (eZ (top 86) ["_law_script","_law_k","_law_many","_law_letters","_law_words","_law_draws_here","_law_names_here","_law_j","_law_part","_law_name"] (cM (dY (af 8) (cL ak) (cL (aF aR ak (YU 8))))) (bc aZ (af 4) (af 0))))) (ay (cy (bZ (gQ (aE aM (YU 5) ak) (gQ (aE aM (aF dq (af 7) ak) ak) (iE (aE d7 (ZU B.z (bc aZ (af 6) (aF iM (af 7) ak))) ak))))) (bo (aK (i:=9) S.nd (aF aR (bc aZ (af 6) (aF iM (af 7) ak)) (bc aZ (af 3) (YU 8))))) cK) (ay (cy (aE aM (YU 5) ak) (bo (aK (i:=9) S.nd (bc aZ (af 4) (aF dq (YU 8) ak)))) cK) (ay (cy (aE g9 (af 9) (af 6)) (bo (aK (i:=9) S.nd (bc aZ (zhz (top 86) ["_law_script","_law_k","_law_many","_law_letters","_law_words","_law_draws_here","_law_names_here","_law_j","_law_part","_law_name"] (cM ap) (af 0) (aE zuh (af 0) (af 7))) ak))) cK) (bo (gh (i:=6) (by exact(af 9)))))))))) (Za (af 6)))))))
noncomputable def iq:Fn P w K mg base "_law_next" ["_law_digits"] 1 (Y1 K 1 dA):=aN E 87 ["_law_digits"] λB S hr=>(Za (fG (aE eY (ZU B.z (af 0)) ak) (zic (af 0)) ak))
noncomputable def uE:Fn P w K mg base "_law_value" ["_law_digits","_law_names_here"] 2 (Y1 K 2 i8):=aN E 88 ["_law_digits","_law_names_here","_law_some"] λB S hr=>(ay (aK (i:=2) S.nd (aF aR (cR (ao ak (ao ak (ao ak (ao (zui ak) (ao (aF mP ak ak) (ao ap (ao ap (ao ap (ao (bX aC) (ao (bX (ao ak aC)) (ao (Zb ak ap) (ao (Zb (bX aC) ak) aC))))))))))))) (af 1))) (Za (bc aZ (af 2) (aF dq (aL (iq E) hr (af 0)) (ZU B.z (af 2))))))
noncomputable def uK:Fn P w K mg base "_law_leaf" ["_law_digits","_law_names_here","_law_many"] 3 (Y1 K 3 ja):=aN E 89 ["_law_digits","_law_names_here","_law_many"] λB S hr=>(Y4 (bZ (gQ (aE eY (af 2) ak) (iE (aE eY (aF dq (aL (iq E) hr (af 0)) ak) ak)))) (Zb ap (aF dq (aL (iq E) hr (af 0)) (af 2))) (Za (Zb ap (cP (uE E) hr (af 0) (af 1)))))
noncomputable def qu:Fn P w K mg base "_law_expr" ["_law_digits","_law_names_here","_law_many"] 4 (Y1 K 3 eG):=aN E 90 ["_law_digits","_law_names_here","_law_many","_law_kind","_law_one","_law_word"] λB S hr=>(ay (aK (i:=3) S.nd (aF dq (aL (iq E) hr (af 0)) ak)) (ay (aK (i:=4) S.nd (dJ (uK E) hr (af 0) (af 1) (af 2))) (Y4 (aE d7 (af 3) ak) (af 4) (Y4 (aE aM (af 3) ak) (Zb ap (af 4)) (Y4 (aE aM (af 3) ak) (Zb ap (Zb (af 4) (Zb ap ak))) (ay (aK (i:=5) S.nd (bc aZ (cR (ao ap (ao ap (ao ap (ao ap (ao ap (ao ap aC))))))) (aF iM (af 3) ak))) (Za (bX (ao (af 5) (ao (af 4) (ao (dJ (uK E) hr (af 0) (af 1) (af 2)) aC)))))))))))
noncomputable def zqp:∀n,Fn P w K mg base "_law_recipe" ["_law_digits","_law_names_here","_law_many","_law_deep","_law_peeks"] (4+n) (Y1 K 5 (dM n)):=dP (dH E 91) λn ih=>aN (k:=4+n) E 91 ["_law_digits","_law_names_here","_law_many","_law_deep","_law_peeks","_law_kind","_law_test","_law_first","_law_what","_law_word"] λB S hr=>(ay (aK (i:=5) S.nd (aF dq (aL (iq E) hr (af 0)) ak)) (ay (cy (bZ (cx (aE aM (af 3) ak) (dj (aE d7 (af 5) ak)))) (Y4 (bZ (gQ (aE aM (af 5) ak) (iE (aE aM (aF dq (aL (iq E) hr (af 0)) ak) ak)))) (Zb ap (bc aZ (af 1) (aF dq (aL (iq E) hr (af 0)) (ZU B.z (af 1))))) (Za (Zb ap (dJ (qu E) hr (af 0) (af 1) (af 2))))) cK) (ay (cy (aE d7 (af 5) ak) (ay (aK (i:=6) S.nd (dJ (qu E) hr (af 0) (af 1) (af 2))) (ay (aK (i:=7) S.nd (ur ih hr (af 0) (af 1) (af 2) (aF iM (af 3) ak) (af 4))) (Za (bX (ao ap (ao (af 6) (ao (af 7) (ao (ur ih hr (af 0) (af 1) (af 2) (aF iM (af 3) ak) (af 4)) aC)))))))) cK) (ay (aK (i:=8) S.nd (Zb ap (bc aZ (af 1) (aF dq (aL (iq E) hr (af 0)) (ZU B.z (af 1)))))) (ay (cy (bZ (gQ (aE eY (af 2) ak) (iE (aE aM (af 5) ak)))) (bo (aK (i:=8) S.nd (dJ (qu E) hr (af 0) (af 1) (af 2)))) cK) (ay (aK (i:=9) S.nd ap) (ay (cy (bZ (gQ (aY (af 4)) (iE (aE aM (af 5) ak)))) (bo (aK (i:=9) S.nd ap)) cK) (Za (bX (ao (af 9) (ao (af 8) (ao (ur ih hr (af 0) (af 1) (aF aR (af 2) ak) (aF iM (af 3) ak) (af 4)) aC))))))))))))
noncomputable def zqq:∀n,Fn P w K mg base "_law_size" ["_law_value_here"] (0+n) (Y1 K 1 (gG n)):=dP (dH E 92) λn ih=>aN (k:=0+n) E 92 ["_law_value_here","_law_deep","_law_many","_law_part","_law_one"] λB S hr=>(Y4 (bK (aY (bz .tup B.z (af 0) B.z QG))) (Zb ak ak) (ay (aK (i:=1) S.nd ak) (ay (aK (i:=2) S.nd ak) (ay (gf (i:=3) S.nd (cM (af 0)) (ay (aK (i:=4) S.nd (aL ih hr (af 3))) (ay (aK (i:=1) S.nd (eJ zfr rfl B.z boot_max (ao (af 1) (ao (YU 4) aC)))) (bo (aK (i:=2) S.nd (aF aR (af 2) (YU 4))))))) (Za (Zb (aF aR (af 1) ak) (af 2)))))))
noncomputable def uH:Fn P w K mg base "_law_great" ["_law_value_here"] 26 (Y1 K 1 eg):=aN E 93 ["_law_value_here","_law_size_here"] λB S hr=>(Y4 (aY (bz .int B.z (af 0) B.z Sx)) (pB (ztu fL fL (zui (aF mP ak ak)) (af 0) (aF mP ak ak))) (Y4 (aY (bz .str B.z (af 0) B.z Rr)) (cg eY (ZU B.z (af 0)) ak) (ay (aK (i:=1) S.nd (aL (zqq E 25) hr (af 0))) (Za (pQ (cg eY (ZU B.z (af 0)) ak) (pQ (cg eY (YU 1) ak) (eA (cg eY (YU 1) ak))))))))
noncomputable def zqr:Fn P w K mg base "_law_both" ["_law_word","_law_one","_law_two"] 27 (Y1 K 3 bG):=aN E 94 ["_law_word","_law_one","_law_two"] λB S hr=>(ay (cy (aE aM (af 0) ap) (Y4 (bZ (cx (bK (aY (bz .tup B.z (af 1) B.z QG))) (dj (bK (aY (bz .int B.z (af 2) B.z Sx)))))) (Zb ap ap) (Y4 (bK (rR fL d7 ak (af 2) (ZU B.z (af 1)))) (Zb ap ap) (Za (Zb ap (bc aZ (af 1) (af 2)))))) cK) (Y4 (aE aM (af 0) ap) (Zb ap (dB ue rfl B.z Sx (ao (cg (pI hr) (af 1) (af 2)) aC))) (ay (cy (aE aM (af 0) ap) (bo (cy (bZ (cx (aY (bz .int B.z (af 1) B.z Sx)) (cx (aE iR (bz .str B.z (af 1) B.z Rr) (bz .str B.z (af 2) B.z Rr)) (dj (aY (bz .int B.z (af 2) B.z Sx)))))) (Za (Zb ap ap)) cK)) (bo (cy (bZ (cx (bK (aY (bz .int B.z (af 1) B.z Sx))) (dj (bK (aY (bz .int B.z (af 2) B.z Sx)))))) (Za (Zb ap ap)) cK))) (Y4 (aE aM (af 0) ap) (Zb ap (dB ue rfl B.z Sx (ao (cg d7 (af 1) (af 2)) aC))) (Y4 (aY (aL (uH E) hr (aF aR (af 1) (af 2)))) (Zb ap ap) (Za (Zb ap (aF aR (af 1) (af 2)))))))))
noncomputable def uF:∀n,Fn P w K mg base "_law_tells" ["_law_expr_here","_law_got"] (27+n) (Y1 K 2 (cp n)):=dP (dH E 95) λn ih=>aN (k:=27+n) E 95 ["_law_expr_here","_law_got","_law_parts","_law_values","_law_part","_law_one"] λB S hr=>(Y4 (aE aM (YU 0) ap) (Zb ap (YU 0)) (Y4 (aE aM (YU 0) ap) (Zb ap (bc aZ (af 1) (YU 0))) (ay (aK (i:=2) S.nd (dY (af 0) (cL ak) gL)) (ay (cy (aE aM (YU 0) ap) (bo (aK (i:=2) S.nd (YU 0))) cK) (ay (gK (i:=3) S.nd aC) (ay (gf (i:=4) S.nd (cM (af 2)) (ay (aK (i:=5) S.nd (cP ih hr (af 4) (af 1))) (Y4 (aE aM (YU 5) ap) (af 5) (bo (gh (i:=3) (by exact(YU 5))))))) (ay (cy (aE aM (YU 0) ap) (Y4 (aY (aL (uH E) hr (dB jn rfl B.z QG (ao (af 3) aC)))) (Zb ap ap) (Za (Zb ap (dB jn rfl B.z QG (ao (af 3) aC))))) cK) (ay (cy (aE aM (YU 0) ap) (Y4 (aY (bz .int B.z (YU 3) B.z Sx)) (Zb ap ap) (Za (Zb ap (ZU B.z (YU 3))))) cK) (Za (dJ (zqr E) hr (YU 0) (YU 3) (YU 3)))))))))))
noncomputable def uG:∀n,Fn P w K mg base "_law_stamp" ["_law_value_here"] (0+n) (Y1 K 1 (e7 n)):=dP (dH E 96) λn ih=>aN (k:=0+n) E 96 ["_law_value_here"] λB S hr=>(Y4 (aY (bz .int B.z (af 0) B.z Sx)) (dB mY rfl B.z Rr (ao (af 0) aC)) (Y4 (aY (bz .str B.z (af 0) B.z Rr)) (aF aR ap (af 0)) (Za (aF aR (aF aR ap (sJ ap (eZ (top 96) ["_law_value_here"] (cM (af 0)) (aL ih hr (af 0))))) ap))))
noncomputable def zqs:Fn P w K mg base "_law_is_name" ["_law_value_here"] 1 (Y1 K 1 i5):=aN E 97 ["_law_value_here"] λB S hr=>(Y4 (bZ (cx (bK (aY (bz .str B.z (af 0) B.z Rr))) (dj (bK (rR fL fL ak (ZU B.z (af 0)) ak))))) gr (Za (eJ m4 rfl B.z WL (ao (eZ (top 97) ["_law_value_here"] (cM (af 0)) (cg g9 (af 0) ap)) aC))))
noncomputable def vc:Fn P w K mg base "_law_run" ["_law_recipe_here","_law_reads","_law_peeks"] 53 (Y1 K 3 je):=aN E 98 ["_law_recipe_here","_law_reads","_law_peeks","_law_got","_law_spots","_law_rows","_law_here","_law_one","_law_word"] λB S hr=>(ay (gK (i:=3) S.nd aC) (ay (oE (i:=4) S.nd ak ak) (ay (oE (i:=5) S.nd (af 1) (af 2)) (ay (aK (i:=6) S.nd (af 0)) (ay (lU 100000 (aE g9 (YU 6) (bX (ao ap (ao ap (ao ap aC))))) (ay (aK (i:=7) S.nd (jj (uF E 25) (hr.mono (by omega)) rfl (ao (YU 6) (ao (af 3) aC)) (aU (aU cu)))) (Y4 (aE aM (YU 7) ap) (af 7) (bo (cy (aE aM (YU 6) ap) (bo (aK (i:=6) S.nd (fG (aE (zuw hr) (YU 7) (bX (ao ak (ao ap (ao (bX aC) aC))))) (YU 6) (YU 6)))) (ay (aK (i:=8) S.nd (YU 6)) (Y4 (bK (aY (aL (zqs E) hr (YU 7)))) (Zb ap ap) (Y4 (aE aM (gR hr (af 4) (af 8)) (ZU B.z (gR hr (af 5) (af 8)))) (Zb (aF aR (af 8) ap) (YU 7)) (ay (gh (i:=3) (by exact(bc aZ (bc aZ (gR hr (af 5) (af 8)) (gR hr (af 4) (af 8))) ak))) (ay (zvi (i:=4) hr (af 8) (aF aR (gR hr (af 4) (af 8)) ak)) (bo (aK (i:=6) S.nd (YU 6))))))))))))) (Y4 (aE aM (YU 6) ap) (Zb ap (YU 6)) (ay (aK (i:=7) S.nd (jj (uF E 25) (hr.mono (by omega)) rfl (ao (YU 6) (ao (af 3) aC)) (aU (aU cu)))) (Y4 (aE aM (YU 7) ap) (af 7) (Za (Zb ap (YU 7)))))))))))
noncomputable def zqt:Fn P w K mg base "_law_doing" ["_law_script","_law_k","_law_names_here","_law_recipe_here"] 54 (Y1 K 4 jQ):=aN E 99 ["_law_script","_law_k","_law_names_here","_law_recipe_here","_law_digits","_law_reads","_law_came"] λB S hr=>(zhc (i:=4) (nA E) (hr.mono (by omega)) rfl S.nd (ao (af 0) (ao (af 1) (ao (aF tD (cR (ao ak aC)) ak) aC))) (aU (aU (aU cu))) (ay (gK (i:=5) S.nd aC) (ay (aK (i:=6) S.nd (jj (vc E) (hr.mono (by omega)) rfl (ao (af 3) (ao (af 5) (ao (cR aC) aC))) (aU (aU (aU cu))))) (ay (lU 100000 (aE aM (YU 6) ap) (ay (gh (i:=5) (by exact(Zb (YU 6) (cP (uE E) hr (af 4) (af 2))))) (bo (aK (i:=6) S.nd (jj (vc E) (hr.mono (by omega)) rfl (ao (af 3) (ao (af 5) (ao (cR aC) aC))) (aU (aU (aU cu)))))))) (Za (Zb (af 5) (af 6)))))))
noncomputable def zqu:Fn P w K mg base "_law_entry" ["_law_recipe_here","_law_doing_here"] 79 (Y1 K 2 i9):=aN E 100 ["_law_recipe_here","_law_doing_here","_law_end"] λB S hr=>(ay (aK (i:=2) S.nd (YU 1)) (ay (cy (aE aM (YU 2) ap) (bo (aK (i:=2) S.nd (Zb ap (aL (uG E 25) hr (YU 2))))) cK) (Za (bX (ao (aL (zps E) hr (af 0)) (ao (dB jn rfl B.z QG (ao (zgz (osc:=aO (top 100)) (N:=["_law_recipe_here","_law_doing_here","_law_end"]) (N':=["_law_recipe_here","_law_doing_here","_law_end"]) (x:="_law_name") (y:="_law_value_here") ⟨rfl,by decide +kernel,by decide +kernel,by decide +kernel,by decide +kernel,by decide +kernel,by decide +kernel,by decide +kernel,rfl,by decide +kernel⟩ (cM (YU 1)) (λC s0 H0 ex=>(Zb (af 0) (aL (uG E 25) hr (af 1)))) (λC s0 H0 ex=>sI)) aC)) (ao (af 2) aC)))))))
noncomputable def zqv:Fn P w K mg base "_law_recipe_by" ["_law_script","_law_k","_law_names_here","_law_peeks"] 30 (Y1 K 4 lr):=aN E 101 ["_law_script","_law_k","_law_names_here","_law_peeks"] λB S hr=>(Za (zhf (zqp E 25) (nA E) (hr.mono (by omega)) (hr.mono (by omega)) rfl rfl (ao (af 0) (ao (af 1) (ao (aF tD (cR (ao ak aC)) ak) aC))) (aU (aU (aU cu))) (ao (af 2) (ao ak (ao ak (ao (af 3) aC)))) (aU (aU (aU (aU (aU cu)))))))
noncomputable def zqw:Fn P w K mg base "_law_entries" ["_law_script","_law_names_here"] 80 (Y1 K 2 ql):=aN E 102 ["_law_script","_law_names_here","_law_found","_law_k","_law_recipe_here","_law_j","_law_entry_here"] λB S hr=>(ay (gK (i:=2) S.nd aC) (ay (gf (i:=3) S.nd (kj rfl B.z ak) (ay (aK (i:=4) S.nd (qf (zqv E) hr (af 0) (aF aR ak (af 3)) (af 1) gr)) (bo (gf (i:=5) S.nd (kj rfl B.z ak) (ay (aK (i:=6) S.nd (cP (zqu E) hr (af 4) (qf (zqt E) hr (af 0) (aF aR (aF aR ak (aF gW ak (af 3))) (af 5)) (af 1) (af 4)))) (bo (cy (aE (rE hr) (af 6) (af 2)) (bo (gh (i:=2) (by exact(af 6)))) cK))))))) (Za (af 2))))
end
end G
namespace TK
open L2 D G
structure Wc(K:Frag)(mg:Str->Option O9)(CS:Addr):Prop where
 q:mg "Shelf"=KQ (.ref CS)
 cl:Gb K CS
 ns:Zl K CS "shelved"
 no:Zl K CS "answers"
 mb:Fg K CS=G3
 d0:Cb K CS "__init__" "Shelf.__init__" (cF 80 0)
 d1:Cb K CS "put" "Shelf.put" (cF 80 1)
 d2:Cb K CS "found" "Shelf.found" (cF 80 2)
 d3:Cb K CS "entries" "Shelf.entries" (cF 80 3)
def Zn(t:Str)(q:PR):PyData:=.tuple [.str t,.tuple (Zm q)]
noncomputable def yD(hq:Cu q)(hp:Cu p):Zn t q=Zn s p↔t=s/\q=p:=by
 constructor
 .intro h
  have h':Rz [.str t,.tuple _]=.tuple [.str s,.tuple _]:=h;simp  at h';exact⟨h'.1,sf hq.1 hp.1 h'.2⟩
 .simp_all
noncomputable def ko(h:Qk x=G3)(n:Nat):tk n (.str x)=G3:=by cases n <;> exact h
noncomputable def zj(h:Cu q)(n:Nat):tk (n+2) (.tuple (Zm q))=G3:=by
 refine Po.mpr λd hd=>?_;obtain⟨p,hp,rfl⟩:=PD.mp hd;show Xx [QP p.1,.str _] _=G3;simp[ko (gJ (h.2 p hp)).ok,ko (mO (h.1 p hp))]
noncomputable def mr(ht:Qk t=G3)(h:Cu q):tk 3 (Zn t q)=G3:=by
 show Xx [QP t,.tuple _] _=G3;simp[ko ht,zj h 0]
noncomputable def jw(h:Y0 C e):tk 3 (YV e)=G3:=by
 show Xx [QP e.1,.tuple _,e.2.2] _=G3;obtain⟨w,x,he,h1,h2⟩:=h.fin
 have:tk 2 e.2.2=G3:=by
  rw[he];show Xx [QP w,.str x] _=G3;simp[ko h1,ko h2]
 simp[ko h.txt,zj h.gd 0,this]
def Ds(K:Frag)(O:Addr->Prop)(H:Hp)(kvs:cI)(f:Str->PR->OY):Prop:=∀t q,Cu q->(∃v,gu kvs (Zn t q)=KQ v/\Rep K O H v (f t q))\/(gu kvs (Zn t q)=HA/\f t q=.none)
section
variable {K:Frag}{O:Addr->Prop}{H H':Hp}{kvs:cI}{f g:Str->PR->OY}
open Classical in
def Ds.put(a:Ds K O H kvs f)(hp:Cu p)(rv:Rep K O H v y)(h:∀t q,Cu q->g t q=if t=s/\q=p then y else f t q):Ds K O H (ck kvs (Zn s p) b v) g:=λt q hq=>by
 rw[zox,h t q hq]
 by_cases c:t=s/\q=p
 .rw[if_pos c,if_pos ((yD hq hp).mpr c)]
  exact .inl ⟨v,rfl,rv⟩
 .rw[if_neg c,if_neg λz=>c ((yD hq hp).mp z)]
  exact a t q hq
def Ds.mono(a:Ds K O H kvs f)(l:ZD O H O H'):Ds K O H' kvs f:=λt q hq=>(a t q hq).imp_left λ⟨v,e,r⟩=>⟨v,e,Rep.monoP l r⟩
noncomputable def eh(a:∀q∈kvs,dI K O H (q.1,q.2.1))(l:ZD O H O H'):∀q∈kvs,dI K O H' (q.1,q.2.1):=λq hq=>⟨(a q hq).1,Rep.monoP l (a q hq).2⟩
noncomputable def rG(a:∀q∈kvs,dI K O H (q.1,q.2.1))(kb:dI K O H (k,b)):∀q∈ck kvs k b v,dI K O H (q.1,q.2.1):=λq hq=>by
 rcases zoz hq with z|⟨q',h,z⟩
 .rw[z];exact kb
 .rw[z];exact a q' h
end
structure SA(K:Frag)(P:Pu)(w:PU)(C CS:Addr)(O:Addr->Prop)(H:Hp)(p dx d1 d2:Addr)(es:List G.TE):Prop where
 hp:H p=KQ (.ins CS dx [(OZ "shelved",.ref d1),(OZ "answers",.ref d2)])
 h1:∃kvs,H d1=KQ (TD P w d1 kvs)/\kvs.map (·.1)=(bw es).map YV/\∀q∈kvs,dI K O H (q.1,q.2.1)
 h2:∃kvs,H d2=KQ (TD P w d2 kvs)/\(∀q∈kvs,dI K O H (q.1,q.2.1))/\Ds K O H kvs (λt q=>bV t q es .none)/\kvs.length<=20*es.length
 ne:d1≠d2
 al:∀x∈es,Y0 C x
section
variable {K:Frag}{P:Pu}{w:PU}{C CS:Addr}{O:Addr->Prop}{H H':Hp}{p dx d1 d2:Addr}{es:List G.TE}
theorem SA.mono(x:SA K P w C CS O H p dx d1 d2 es)(k:∀b o,tq o=Gy->(∀q,o≠.lst q)->H b=KQ o->H' b=KQ o)(l:ZD O H O H'):SA K P w C CS O H' p dx d1 d2 es:=by
 obtain⟨Gv,a1,a2,a3⟩:=x.h1;obtain⟨Ji,b1,b2,b3,b4⟩:=x.h2;exact⟨k _ _ rfl (λ_ z=>nomatch z) x.hp,⟨Gv,k _ _ rfl (λ_ z=>nomatch z) a1,a2,eh a3 l⟩,⟨Ji,k _ _ rfl (λ_ z=>nomatch z) b1,eh b2 l,b3.mono l,b4⟩,x.ne,x.al⟩
theorem SA.same(x:SA K P w C CS O H p dx d1 d2 es)(s:YM [] H H'):SA K P w C CS O H' p dx d1 d2 es:=x.mono (λb o _ _ e=>s b o (by simp) e) (.same s)
end
open Classical in
noncomputable def fK(e:G.TE)(i:Nat)(f:Str->PR->OY)(t:Str)(q:PR):PyData:=if t=e.1/\q.length<i/\e.2.1.take q.length=q then (match e.2.1[q.length]? with
  |some p=>.str p.1
  | none=>.none) else f t q
noncomputable def zqx(h:e.2.1[i]? = KQ (x,v))(t:Str)(q:PR):fK e (i+1) f t q=(open Classical in if t=e.1/\q=e.2.1.take i then .str x else fK e i f t q):=by
 classical
 unfold fK;have hi:=(Pa.mp h).1
 by_cases c:t=e.1/\q=e.2.1.take i
 .have hl:q.length=i:=by grind
  rw[if_pos c,if_pos ⟨c.1,by lia,by rw[hl,c.2]⟩,hl,h]
 .rw[if_neg c]
  by_cases c2:t=e.1/\q.length<i+1/\e.2.1.take q.length=q
  .have:q.length<i:=by grind
   rw[if_pos c2,if_pos ⟨c2.1,this,c2.2.2⟩]
  .rw[if_neg c2,if_neg λz=>c2 ⟨z.1,by lia,z.2.2⟩]
noncomputable def zqy(t:Str)(q:PR):k8 e t q (f t q)=(open Classical in if t=e.1/\q=e.2.1 then e.2.2 else fK e e.2.1.length f t q):=by
 classical
 unfold k8 fK
 by_cases c:t=e.1/\q=e.2.1
 simp_all
 .rw[if_neg c]
  by_cases c2:e.1=t/\e.2.1.take q.length=q
  .have hl:q.length<e.2.1.length:=by
    rcases Nat.lt_or_ge q.length e.2.1.length with z|z
    .exact z
    .rw[Qq z] at c2<;>simp_all
   rw[if_pos c2,if_pos ⟨c2.1.symm,hl,c2.2⟩,Qg hl]
  .rw[if_neg c2,if_neg λz=>c2 ⟨z.1.symm,z.2.2⟩]
noncomputable def zqz{X:Cx}{st:Stmt}:PS X st (λ_ _ _=>False):=λ_ _ _ _ _ _ h=>h.elim
noncomputable def zra(hr:YW k A):A.units+10<cLine:=by have:=hr.un;lia
inductive GW(K:Frag)(P:Pu)(w:PU)(C CS:Addr)(vs:List V)(H:Hp)(Q:VK):Prop where
 |mk (O:Addr->Prop) (p dx d1 d2 b:Addr) (es:List G.TE) (e:G.TE) (ev:vs=[.ref p,.ref b]) (sa:SA K P w C CS O H p dx d1 d2 es) (tr:Tr O H) (rb:Rep K O H (.ref b) (YV e)) (te:Y0 C e) (hl:es.length<100)
   (q:∀H',Tr O H'->ZD O H O H'->(∀c o,c≠d1->c≠d2->H c=KQ o->H' c=KQ o)->SA K P w C CS O H' p dx d1 d2 (es++[e])->Q .non H'):GW K P w C CS vs H Q
noncomputable def JX(K:Frag)(P:Pu)(w:PU)(C CS:Addr):Sp:=λvs H Q _=>GW K P w C CS vs H Q
inductive Dq(K:Frag)(P:Pu)(w:PU)(C CS:Addr)(vs:List V)(H:Hp)(Q:VK):Prop where
 |mk (O:Addr->Prop) (p dx d1 d2 b:Addr) (es:List G.TE) (t:Str) (q:PR) (ev:vs=[.ref p,.str t,.ref b]) (sa:SA K P w C CS O H p dx d1 d2 es) (tr:Tr O H) (rb:Rep K O H (.ref b) (.tuple (Zm q))) (hq:Cu q) (ht:Qk t=G3)
   (k:∀v H',YM [] H H'->Rep K O H' v (bV t q es .none)->Q v H'):Dq K P w C CS vs H Q
noncomputable def J0(K:Frag)(P:Pu)(w:PU)(C CS:Addr):Sp:=λvs H Q _=>Dq K P w C CS vs H Q
inductive Ik(K:Frag)(P:Pu)(w:PU)(C CS:Addr)(vs:List V)(H:Hp)(Q:VK):Prop where
 |mk (O:Addr->Prop) (p dx d1 d2:Addr) (es:List G.TE) (ev:vs=[.ref p]) (sa:SA K P w C CS O H p dx d1 d2 es)
   (k:∀a us,H a=HA->YK K O H us ((bw es).map YV)->Q (.ref a) (upd H a (.lst us))):Ik K P w C CS vs H Q
noncomputable def J2(K:Frag)(P:Pu)(w:PU)(C CS:Addr):Sp:=λvs H Q _=>Ik K P w C CS vs H Q
inductive FZ(P:Pu)(w:PU)(CS:Addr)(vs:List V)(H:Hp)(Q:VK):Prop where
 |mk (p dx:Addr) (e:vs=[.ref p]) (h:H p=KQ (.ins CS dx [])) (q:∀(d l:Addr) (H':Hp),H d=HA->H l=HA->d≠l->(∀b,b≠p->b≠d->b≠l->H' b=H b)->H' p=KQ (.ins CS dx [(OZ "shelved",.ref d),(OZ "answers",.ref l)])->H' d=KQ (TD P w d [])->H' l=KQ (TD P w l [])->Q .non H'):FZ P w CS vs H Q
noncomputable def JZ(P:Pu)(w:PU)(CS:Addr):Sp:=λvs H Q _=>FZ P w CS vs H Q
section
variable {P:Pu}{w:PU}{K:Frag}{mg:Str->Option O9}{base:Heap}{C:Addr}(E:Ev P w K mg base (Bi K mg C) top zS){CS:Addr}(W:Wc K mg CS)
include E W
noncomputable def v7:Jj P w K mg base CS "entries" ["self"] 1 (J2 K P w C CS):=by
 have S:Y2 ["self"] ["self"] (aO (cF 80 3)):=dX (rfl);refine W.d3.mth (λ_ _ _ _ _ _=>by exact D.KN λ_=>rfl) λf fd F=>F.ok S (λvs H Q E h=>by obtain⟨_,_,_,_,_,_,rfl,_⟩:=h;rfl) λY9 A outer s H vs Q E' hr h=>⟨_,cB (fw (zsn (zou rfl) rfl E.b.z Yh (aV (kz (pv 0) rfl) br))),?_⟩;obtain⟨O,p,dx,d1,d2,es,rfl,sa,q⟩:=h;obtain⟨kvs,a1,a2,a3⟩:=sa.h1;exact⟨_,rfl,p,CS,dx,_,_,rfl,sa.hp,W.cl,W.ns,rfl,d1,kvs,rfl,a1,λa ha=>q a _ ha (by rw[←a2];exact xg a3)⟩
omit E in
noncomputable def yy:Jj P w K mg base CS "found" ["self","text","reads"] 1 (J0 K P w C CS):=by
 have S:Y2 ["self","text","reads"] ["self","text","reads"] (aO (cF 80 2)):=dX (rfl);refine W.d2.mth (λ_ _ _ _ _ _=>by exact D.GQ λ_ _ _=>rfl) λf fd F=>F.ok S (λvs H Q E h=>by obtain⟨_,_,_,_,_,_,_,_,_,rfl,_⟩:=h;rfl) λY9 A outer s H vs Q E' hr h=>⟨_,cB (fw (zow (zra hr) (kz (pv 0) rfl) (aV (zsf (aV (pv 1) (aV (pv 2) br))) br))),?_⟩;obtain⟨O,p,dx,d1,d2,b,es,t,q,rfl,sa,tr,rb,hq,ht,k⟩:=h;obtain⟨kvs,b1,b2,b3,b4⟩:=sa.h2;refine⟨_,rfl,p,CS,dx,_,_,rfl,sa.hp,W.cl,W.no,rfl,⟨d2,kvs,rfl,b1⟩,_,rfl,_,rfl,by show (2:Nat)<=Ph;decide,λt4 KZ=>?_⟩;have lp:ZD O H O (upd H t4 (.tup [.str t,.ref b])):=.new KZ _;refine⟨O,d2,kvs,t4,Zn t q,rfl,rfl,by rw[aA (aX b1 KZ)];exact b1,eh b2 lp,⟨mr ht hq,.tup (.inl ⟨tr.fresh KZ,.inl aQ⟩) (.cons (.str _) (.cons (Rep.monoP lp rb) .nil))⟩,?_⟩;refine k _ _ (.new KZ _) ?_
 rcases b3 t q hq with⟨v,e1,e2⟩|⟨e1,e2⟩
 .rw[e1];exact Rep.monoP lp e2
 .rw[e1,show bV t q es .none=.none from e2];exact .non
omit E in
noncomputable def zQ:Fz P w K mg base CS ["self"] 1 (JZ P w CS):=by
 have S:Y2 ["self"] ["self"] (aO (cF 80 0)):=dX (rfl);refine W.d0.ini W.mb (λ_ _ _ _ _ _=>by exact D.KN λ_=>rfl) λf fd F=>F.ok S (λvs H Q E h=>by obtain⟨_,_,rfl,_⟩:=h;rfl) λY9 A outer s H vs Q E' hr h=>⟨_,bJ (tm (pv 0) xo rfl) (cB (tm (pv 0) xo rfl)),?_⟩;obtain⟨p,dx,rfl,h,q⟩:=h;refine λd hd=>⟨_,rfl,p,CS,dx,[],rfl,by rw[aA (aX h hd)];exact h,W.cl,W.ns,by decide,?_⟩;have uD:p≠d:=aX h hd;refine λl hl=>⟨_,rfl,p,CS,dx,[(OZ "shelved",.ref d)],rfl,?_,W.cl,W.no,by show (1:Nat)<1000;decide,?_⟩
 .have:upd (upd H d (TD P w d [])) p (.ins CS dx [(OZ "shelved",.ref d)]) p=KQ (.ins CS dx [(OZ "shelved",.ref d)]):=aQ
  exact(aA (aX this hl)).trans this
 .have Zv:p≠l:=λz=>by subst z;rw[show _=KQ _ from aQ] at hl;cases hl
  have Hk:d≠l:=λz=>by
   subst z;have:upd (upd H d (TD P w d [])) p (.ins CS dx [(OZ "shelved",.ref d)]) d=KQ (TD P w d []):=(aA (P3 uD)).trans aQ;have Er:upd (upd H d (TD P w d [])) p (.ins CS dx [(OZ "shelved",.ref d)]) d=HA:=hl;rw[this] at Er;cases Er
  refine q d l _ hd ?_ Hk (λb n1 n2 n3=>?_) ?_ ?_ ?_
  .have Er:upd (upd H d (TD P w d [])) p (.ins CS dx [(OZ "shelved",.ref d)]) l=HA:=hl
   rw[aA (P3 Zv),aA (P3 Hk)] at Er;exact Er
  .rw[aA n1,aA n3,aA n1]
   exact aA n2
  .rw[aQ];rfl
  .rw[aA (P3 uD),aA Hk,aA (P3 uD)]
   exact aQ
  .rw[aA (P3 Zv)]
   exact aQ
noncomputable def AE:Jj P w K mg base CS "put" ["self","entry"] 87 (JX K P w C CS):=by
 have S:Y2 ["self","entry","k","read"] ["self","entry"] (aO (cF 80 1)):=dX (by decide +kernel);refine W.d1.mth (λ_ _ _ _ _ _=>by exact D.K3 λ_ _=>rfl) λf fd F=>F.ok S (λvs H Q E h=>by obtain⟨_,_,_,_,_,_,_,_,rfl,_⟩:=h;rfl) λY9 A outer s H vs Q E' hr h=>?_
 refine⟨_,bJ (iL (DT.pe (bK (aY (aL (zqn E) hr (af 1))))) (cB zqz) iD)
  (bJ (sj (uL hr) (kz (pv 0) rfl) (pv 1) jy)
  (bJ (iH Rc rfl (zhw rfl E.b.z (aV (DE.pe (bc aZ (af 1) ak)) br) rfl) (zru rfl (jh (ei (i:=2) S.nd rfl (Qm rfl)) (jh (ei (i:=3) S.nd rfl (Qm rfl)) sm)))
    (cB (sj (uL hr) (kz (pv 0) rfl) (DE.pe (bX (ao (bc aZ (af 1) ak) (ao (dY (bc aZ (af 1) ak) gL (cL (af 2))) aC)))) (DE.pe (bc aZ (af 3) ak)))))
  (cB (sj (uL hr) (kz (pv 0) rfl) (DE.pe (bX (ao (bc aZ (af 1) ak) (ao (bc aZ (af 1) ak) aC)))) (DE.pe (bc aZ (af 1) ak)))))),?_⟩
 obtain⟨O,p,dx,d1,d2,b,es,e,rfl,sa,tr,rb,te,hl,q⟩:=h;have co:∀x∈es,Hw x e:=λx hx=>zV (sa.al x hx) te;obtain⟨Gv,a1,a2,a3⟩:=sa.h1;obtain⟨Ji,b1,b2,b3,b4⟩:=sa.h2
 have big:(3000:Nat)<sizeLine:=by decide
 have gd:=te.gd;refine⟨O,[],[HA,KQ (.d (YV e))],[],Gy,[],tr.hc,aH (bI rb bN),by simp[te.en.true],λH1 s1 _=>?_⟩;rw[if_neg (by decide)];have l1:ZD O H O H1:=.same s1;have Ki:∀{c o},H c=KQ o->H1 c=KQ o:=λ{c o} h=>s1 c o (by simp) h
 have kl1:Gv.length<=es.length:=by rw[←PY (f:=(·.1)),a2,PY];exact nY es _ rfl
 refine⟨_,rfl,p,CS,dx,_,_,rfl,Ki sa.hp,W.cl,W.ns,rfl,_,rfl,O,d1,Gv,b,YV e,rfl,rfl,Ki a1,eh a3 l1,⟨jw te,Rep.monoP l1 rb⟩,by lia,?_⟩;have l2:ZD O H1 O (upd H1 d1 (TD P w d1 (ck Gv (YV e) b (.bl G3)))):=.put (.inr ⟨_,Ki a1,rfl⟩)
 have tr2:Tr O (upd H1 d1 (TD P w d1 (ck Gv (YV e) b (.bl G3)))):=λc hc=>by
  have:=(Tr.same tr s1) c hc;rw[aA (λz=>by subst z;rw[Ki a1] at this;rcases this with⟨_,z⟩|⟨_,z⟩|⟨_,_,_,z⟩ <;> cases z)];exact this
 have Dh:∀c o,c≠d1->H c=KQ o->upd H1 d1 (TD P w d1 (ck Gv (YV e) b (.bl G3))) c=KQ o:=λc o h1 h=>by rw[aA h1];exact Ki h
 have wH:upd H1 d1 (TD P w d1 (ck Gv (YV e) b (.bl G3))) d1=KQ (TD P w d1 (ck Gv (YV e) b (.bl G3))):=aQ
 have xf:p≠d1:=λz=>by have h:=sa.hp;rw[z,a1] at h;cases h
 have zF:p≠d2:=λz=>by have h:=sa.hp;rw[z,b1] at h;cases h
 have u3:=Rep.monoP (l1.trans l2) rb;have Hz:∀a b c:OY,Zd [a,b,c] 1=KQ b:=λ_ _ _=>rfl;have F9:∀a b c:OY,Zd [a,b,c] 0=KQ a:=λ_ _ _=>rfl;have Ck:∀a b c:OY,Zd [a,b,c] 2=KQ c:=λ_ _ _=>rfl;refine⟨O,[],[HA,KQ (.d (YV e))],[],.d (.tuple (Zm e.2.1)),[],tr2.hc,aH (bI u3 bN),by simp[YV,Hz],λv3 H3 s3 _ yS=>?_⟩;have JH:Rep K O H3 v3 (.tuple (Zm e.2.1)):=yS
 cases JH with
 |@tup la vx _ tx rx=>
 have lx:=rx.length;have G8:∀{c o},(upd H1 d1 (TD P w d1 (ck Gv (YV e) b (.bl G3)))) c=KQ o->H3 c=KQ o:=λ{c o} h=>s3 c o (by simp) h;have l3:ZD O (upd H1 d1 (TD P w d1 (ck Gv (YV e) b (.bl G3)))) O H3:=.same s3;refine⟨la,vx,rfl,tx.sq,λ_=>?_⟩;refine zpb (xs:=vx) (λi σ Hi=>∃o2 o3 kvs,σ=[KQ (.ref p),KQ (.ref b),o2,o3]/\Tr O Hi/\ZD O H3 O Hi/\(∀c o,c≠d2->H3 c=KQ o->Hi c=KQ o)/\Hi d2=KQ (TD P w d2 kvs)/\(∀q∈kvs,dI K O Hi (q.1,q.2.1))/\Ds K O Hi kvs (fK e i λt q=>bV t q es .none)/\kvs.length<=Ji.length+i) ?_ (λi σ Hi hi h=>?_) (λi x σ Hi t4 hx KZ h=>?_) λσ Hi h=>?_
 .refine⟨HA,HA,Ji,rfl,tr2.same s3,.refl,λ_ _ _ h=>h,G8 (Dh _ _ (P3 sa.ne) b1),eh b2 (l1.trans (l2.trans l3)),?_,by lia⟩
  have:Ds K O H3 Ji (λt q=>bV t q es .none):=b3.mono (l1.trans (l2.trans l3));intro t q hq;have z:fK e 0 (λt q=>bV t q es .none) t q=bV t q es .none:=if_neg λz=>absurd z.2.1 (by lia);rw[z];exact this t q hq
 .obtain⟨_,_,_,_,_,h,_⟩:=h
  exact(TupAt.monoP h tx).sq
 .obtain⟨o2,o3,kvs,rfl,Gg,li,IY,vm,ki,ai,Ic⟩:=h
  obtain⟨d,hd,rd⟩:=rx.get hx
  obtain⟨⟨n,v⟩,hg,rfl⟩:∃q:Str×OY,e.2.1[i]? = KQ q/\d=.tuple [.str q.1,.str (tS q.2)]:=by
   unfold Zm at hd;rw[P5] at hd
   cases hq:e.2.1[i]? with
   |none=>rw[hq] at hd;cases hd
   |some q=>rw[hq] at hd;cases hd;exact⟨q,rfl,rfl⟩
  have hi:i<e.2.1.length:=(Pa.mp hg).1;have few:=te.few;have l4:ZD O Hi O (upd Hi t4 (.tup [.int (i:Int),x])):=.new KZ _;have s4:YM [] Hi (upd Hi t4 (.tup [.int (i:Int),x])):=.new KZ _;have rb4:=Rep.monoP (l3.trans (li.trans l4)) u3;have rx4:=Rep.monoP (li.trans l4) rd;refine⟨t4,_,rfl,ZJ.of aQ,rfl,_,_,rfl,_,_,rfl,rfl,?_⟩;have p0:∀a b:OY,Zd [a,b] 0=KQ a:=λ_ _=>rfl;refine⟨O,[],[HA,HA,HA,KQ (.d (.tuple [.str n,.str (tS v)]))],[],.d (.str n),[],(Gg.same s4).hc,aH (aH (aH (bI rx4 bN))),by simp[p0],λv5 H5 s5 _ Ae=>?_⟩;cases (show Rep K O H5 v5 (.str n) from Ae);have zy:=s4.trans s5;refine⟨_,rfl,p,CS,dx,_,_,rfl,zy _ _ (by simp) (IY _ _ zF (G8 (Dh _ _ xf sa.hp))),W.cl,W.no,rfl,?_⟩;refine⟨O,[],[HA,KQ (.d (YV e)),KQ (.d (.int (i:Int)))],[],.d (Zn e.1 (e.2.1.take i)),[],(Gg.same zy).hc,aH (bI (Rep.monoP (.same s5) rb4) (bI (.int _) bN)),by simp[YV,F9,Hz,sL,rB,Zn],λv6 H6 s6 _ yT=>?_⟩;have Jg:Rep K O H6 v6 (Zn e.1 (e.2.1.take i)):=yT;obtain⟨kb,_,rfl,_,_⟩:=(Vw.rep Jg).tup;have DQ:=zy.trans s6;have Fd:ZD O Hi O H6:=.same DQ;have h6:H6 d2=KQ (TD P w d2 kvs):=DQ _ _ (by simp) vm;refine⟨O,d2,kvs,kb,Zn e.1 (e.2.1.take i),rfl,rfl,h6,eh ki Fd,⟨mr te.txt (gd.take i),Jg⟩,by lia,?_⟩;have l7:ZD O H6 O (upd H6 d2 (TD P w d2 (ck kvs (Zn e.1 (e.2.1.take i)) kb (.str n)))):=.put (.inr ⟨_,h6,rfl⟩);refine⟨_,_,ck kvs (Zn e.1 (e.2.1.take i)) kb (.str n),rfl,λc hc=>?_,li.trans (Fd.trans l7),λc o h1 h=>?_,aQ,rG (eh (eh ki Fd) l7) ⟨mr te.txt (gd.take i),Rep.monoP l7 Jg⟩,?_,?_⟩
  .have:=(Gg.same DQ) c hc
   rw[aA (λz=>by subst z;rw[h6] at this;rcases this with⟨_,z⟩|⟨_,z⟩|⟨_,_,_,z⟩ <;> cases z)];exact this
  .rw[aA h1];exact DQ _ _ (by simp) (IY c o h1 h)
  .exact((ai.mono Fd).mono l7).put (gd.take i) (.str n) λt q _=>zqx hg t q
  .have:=rC kvs (Zn e.1 (e.2.1.take i)) kb (.str n);lia
 .obtain⟨o2,o3,kvs,rfl,Gg,li,IY,vm,ki,ai,Ic⟩:=h
  have few:=te.few;rw[lx,yn] at ai Ic;have rbi:=Rep.monoP (l3.trans li) u3;refine⟨O,[],[HA,KQ (.d (YV e))],[],.d e.2.2,[],Gg.hc,aH (bI rbi bN),by simp[YV,Ck],λv5 H5 s5 _ Ae=>?_⟩;have zB:Rep K O H5 v5 e.2.2:=Ae;refine⟨_,rfl,p,CS,dx,_,_,rfl,s5 _ _ (by simp) (IY _ _ zF (G8 (Dh _ _ xf sa.hp))),W.cl,W.no,rfl,?_⟩;refine⟨O,[],[HA,KQ (.d (YV e))],[],.d (Zn e.1 e.2.1),[],(Gg.same s5).hc,aH (bI (Rep.monoP (.same s5) rbi) bN),by simp[YV,F9,Hz,Zn],λv6 H6 s6 _ yT=>?_⟩;have Jg:Rep K O H6 v6 (Zn e.1 e.2.1):=yT;obtain⟨kb,_,rfl,_,_⟩:=(Vw.rep Jg).tup;have Eb:=s5.trans s6;have Cq:ZD O Hi O H6:=.same Eb;have h6:H6 d2=KQ (TD P w d2 kvs):=Eb _ _ (by simp) vm;refine⟨O,d2,kvs,kb,Zn e.1 e.2.1,rfl,rfl,h6,eh ki Cq,⟨mr te.txt gd,Jg⟩,by lia,?_⟩;have l7:ZD O H6 O (upd H6 d2 (TD P w d2 (ck kvs (Zn e.1 e.2.1) kb v5))):=.put (.inr ⟨_,h6,rfl⟩);have lf:ZD O H O H6:=l1.trans (l2.trans (l3.trans (li.trans Cq)))
  have frf:∀c o,c≠d2->(upd H1 d1 (TD P w d1 (ck Gv (YV e) b (.bl G3)))) c=KQ o->upd H6 d2 (TD P w d2 (ck kvs (Zn e.1 e.2.1) kb v5)) c=KQ o:=λc o h1 h=>by rw[aA h1];exact Eb _ _ (by simp) (IY c o h1 (G8 h))
  refine q _ (λc hc=>?_) (lf.trans l7) (λc o h1 h2 h=>frf c o h2 (Dh c o h1 h)) ⟨frf _ _ zF (Dh _ _ xf sa.hp),⟨_,frf _ _ sa.ne wH,?_,rG (eh a3 (lf.trans l7)) ⟨jw te,Rep.monoP (lf.trans l7) rb⟩⟩,⟨_,aQ,rG (eh (eh ki Cq) l7) ⟨mr te.txt gd,Rep.monoP l7 Jg⟩,?_,?_⟩,sa.ne,λx hx=>?_⟩
  .have:=(Gg.same Eb) c hc
   rw[aA (λz=>by subst z;rw[h6] at this;rcases this with⟨_,z⟩|⟨_,z⟩|⟨_,_,_,z⟩ <;> cases z)];exact this
  .classical
   rw[zoy,a2,jZ];unfold putL
   have hm:YV e∈(bw es).map YV↔e∈bw es:=⟨λz=>by
    obtain⟨y,hy,ey⟩:=PD.mp z;rw[←zk (sa.al y ((lS _ es rfl y).mp hy)) te ey]
    exact hy,λz=>TR z⟩
   by_cases c:e∈bw es
   .rw[if_pos (hm.mpr c),if_pos c]
   .rw[if_neg λz=>c (hm.mp z),if_neg c,So]
    rfl
  .refine((ai.mono Cq).mono l7).put gd (Rep.monoP (.trans (.same s6) l7) zB) λt q _=>?_
   rw[rP co];exact zqy (e:=e) (f:=λt q=>bV t q es .none) t q
  .have:=rC kvs (Zn e.1 e.2.1) kb v5
   rw[Qb];show _<=20*(es.length+1)
   lia
  .rcases Pt.mp hx with hx|hx
   .exact sa.al x hx
   .rw[Py.mp hx];exact te
end
end TK
namespace TK
open L2 D G
open K1 (au)
noncomputable def bD(v:OY):G.TE:=(PF BL (jE v),[],.tuple [.str "made",.str (tS v)])
noncomputable def yC(h:au v=G3)(hs:ZK (jF v) []=Z4 v):Y0 C (bD v):=⟨jE v,jF v,Z4 v,⟨⟨2,2,zr h,by simp⟩,zt h,hs ▸ DC.start (zt h),.md h,pz⟩,rfl⟩
theorem zrb:ZK (jF P7) []=Z4 P7 :=rfl
theorem zrc:ZK (jF P8) []=Z4 P8 :=rfl
theorem rQ:∀{es:List G.TE},(∀e∈es,e.1≠t)->bV t q es a=a
 |[],_=>rfl
 |e::es,h=>by
  have:=h e Pf;rw[bV,if_neg λz=>this z.1,if_neg λz=>this z.1];exact rQ λy hy=>h y (Pc _ hy)
noncomputable def zrd(h:qk d):PN d=G3/\PH d d=G3:=by
 rcases h with rfl|⟨x,hx,rfl⟩|⟨w,x,rfl,h1,h2⟩
 .exact⟨rfl,rfl⟩
 .have:=(gJ hx).ok
  simp[PN,Q9,Sj,PH,this]
 .simp[PN,Q9,Qz,Sj,Rf,PH,Qd,h1,h2]
noncomputable def mJ{es:List G.TE}(h:∀e∈es,Y0 C e):(es.map YV).all (tk 3)=G3:=Po.mpr λd hd=>by
 obtain⟨e,he,rfl⟩:=PD.mp hd;exact jw (h e he)
noncomputable def l5(h:ds.all (tk 3)=G3):PN (.list ds)=G3/\PH (.list ds) (.list ds)=G3:=by
 have a:=tO (λx _ hx=>mq hx) h;have b:=depthAll λx hm=>rj (Po.mp h x hm);have c:=(qW (λa b=>mG  a b) h h).mpr rfl;constructor
 .simp[PN,Q9,Sj,a]
  lia
 .simp[PH,c]
open Classical in
noncomputable def cN(A B:List G.TE):List G.TE:=A++B.filter λe=>decide (e∉A)
noncomputable def zre{A:List G.TE}(hA:∀x∈A,Y0 C x)(he:Y0 C e):(A.map YV).any (λy=>PH y (YV e))=G3↔e∈A:=by
 rw[Th];constructor
 .rintro⟨d,hd,z⟩
  obtain⟨x,hx,rfl⟩:=PD.mp hd
  rw[←zk (hA x hx) he ((mG (jw (hA x hx)) (jw he)).mp z)]<;>omega
 .exact λh=>⟨YV e,TR h,(mG (jw he) (jw he)).mpr rfl⟩
def vT(h:Y0 C e):PN (YV e)=G3:=qJ h.en
noncomputable def xO(hr:rows=.list ls)(hA:∀x∈A,Y0 C x)(hB:∀x∈B,Y0 C x)(ha:Zd ls i=KQ (.list (A.map YV)))(hb:Zd ls j=KQ (.list (B.map YV)))(hl:A.length<=20)(hm:B.length<=20) :
  (ae aI (ae Y8 (aa 3) (fC (.int i))) (bY (bE (ae Y8 (aa 3) (fC (.int j)))) (aq (ae iU (aa 0) (ae Y8 (aa 4) (fC (.int i))))) (aa 0))) [HA,HA,HA,KQ (.d rows)] []=KQ (.d (.list ((cN A B).map YV)),[]):=by
 classical
 subst hr
 have shA:(A.map YV).all PN=G3:=Po.mpr λd hd=>by
  obtain⟨x,hx,rfl⟩:=PD.mp hd;exact vT (hA x hx)
 have c:bH (aq (ae iU (aa 0) (ae Y8 (aa 4) (fC (.int i))))) (aa 0) [HA,HA,HA,KQ (.d (.list ls))] (B.map YV) []=KQ ((B.map YV).filter (λd=>!(A.map YV).any λy=>PH y d),[]):=qo λd hd=>by
  obtain⟨x,hx,rfl⟩:=PD.mp hd
  have q:iU (YV x) (.list (A.map YV))=KQ (.bool (!(A.map YV).any λy=>PH y (YV x))):=by
   show (if PN (YV x)=G3/\(A.map YV).all PN=G3 then KQ (YA (!(A.map YV).any λy=>PH y (YV x))) else HA)=_;rw[if_pos ⟨vT (hB x hx),shA⟩]
  simp[ha,q]
 have f:(B.map YV).filter (λd=>!(A.map YV).any λy=>PH y d)=(B.filter λe=>decide (e∉A)).map YV:=by
  rw[List.filter_map]
  congr 1
  refine List.filter_congr λx hx=>?_;have:=zre hA (hB x hx);show (!(A.map YV).any λy=>PH y (YV x))=decide (x∉A)
  by_cases z:x∈A
  .rw[this.mpr z,decide_eq_false (λy=>y z)];rfl
  .simp_all
 rw[f] at c
 have z:A.length+(B.filter λe=>decide (e∉A)).length<=sizeLine:=by
  have:=VE (λe=>decide (e∉A)) B;have:=j5
  lia
 have z':A.length+(B.filter λe=>!decide (e∈A)).length<=sizeLine:=by simp_all
 simp[ha,hb,c,cN,z']
noncomputable def wc(ha:A.Nodup)(hb:B.Nodup):bw (bw A++bw B)=cN A B:=by
 rw[ka _ A rfl ha,ka _ B rfl hb];exact xD _ A B rfl ha (ka _ A rfl ha) hb
noncomputable def zE(h:PE X e t):PE X e (λσ H Q=>∃M:VK,t σ H M/\∀v H',M v H'->Q v H'):=by
 intro pins s σ H Q I ⟨M,a,b⟩;exact YZ (h pins s σ H _ I a) λu s' ⟨v,H',I',r,q⟩=>⟨v,H',I',r,b _ _ q⟩
noncomputable def JW(X:Cx)(ta tb:L2.TE):L2.TE:=λσ H Q=>ta σ H λx H1=>tb σ H1 λy H2=>∃O d1 d2 d,HC X.K O [] H2 []/\Rep X.K O H2 x d1/\Rep X.K O H2 y d2/\aI d1 d2=KQ d/\∀v H',YM [] H2 H'->Rep X.K O H' v d->Q v H'
noncomputable def zrf(ha:PE X a ta)(hb:PE X b tb):PE X (.BinOp a .Add b pos) (JW X ta tb):=by
 obtain⟨r,hr,snd⟩:=aR;refine bi (tX hr (zE ha) (zE hb)) λσ H Q h=>?_;exact⟨_,h,λx H1 h1=>⟨_,h1,λy H2 ⟨O,d1,d2,d,hc,r1,r2,e,q⟩=>snd O [] H2 [] x y d1 d2 d Q hc (Vw.rep r1) (Vw.rep r2) e λv H' s _ rv=>q v H' s rv⟩⟩
section
variable {K:Frag}{P:Pu}{w:PU}{C CS:Addr}{O:Addr->Prop}{H H':Hp}{p dx a b d1 d2:Addr}{es:List G.TE}{k1 k2:cI}
def SA.off(x:SA K P w C CS O H p dx a b es)(fr:∀c o,c≠d1->c≠d2->H c=KQ o->H' c=KQ o)(l:ZD O H O H')(h1:H d1=KQ (TD P w d1 k1))(h2:H d2=KQ (TD P w d2 k2))(n1:a≠d1)(n2:a≠d2)(n3:b≠d1)(n4:b≠d2):SA K P w C CS O H' p dx a b es:=by
 obtain⟨Gv,a1,a2,a3⟩:=x.h1;obtain⟨Ji,b1,b2,b3,b4⟩:=x.h2;have hp:=x.hp;exact⟨fr _ _ (λz=>by rw[z,h1] at hp;cases hp) (λz=>by rw[z,h2] at hp;cases hp) hp,⟨Gv,fr _ _ n1 n2 a1,a2,eh a3 l⟩,⟨Ji,fr _ _ n3 n4 b1,eh b2 l,b3.mono l,b4⟩,x.ne,x.al⟩
end
noncomputable def rH{CS:Addr}{H H':Hp}{p dx d l:Addr}(hp:H p=HA)(F5:H dx=HA)(hd:upd (upd H dx (.own p)) p (.ins CS dx []) d=HA)(hl:upd (upd H dx (.own p)) p (.ins CS dx []) l=HA)
  (fr:∀b,b≠p->b≠d->b≠l->H' b=upd (upd H dx (.own p)) p (.ins CS dx []) b):YM [] H H':=λc o _ e=>by
 have e1:upd (upd H dx (.own p)) p (.ins CS dx []) c=KQ o:=by rw[aA (aX e hp),aA (aX e F5)];exact e
 rw[fr c (aX e hp) (aX e1 hd) (aX e1 hl)];exact e1
noncomputable def zrg(s:YM [] H H')(h:H' c=HA):H c=HA:=by
 cases e:H c with
 |none=>rfl
 |some o=>rw[s c o (by simp) e] at h;cases h
noncomputable def lq{CS:Addr}{H:Hp}{p dx c:Addr}(h:upd (upd H dx (.own p)) p (.ins CS dx []) c=HA):H c=HA:=by
 by_cases z:c=p
 .subst z;rw[aQ] at h;cases h
 .rw[aA z] at h
  by_cases y:c=dx
  .subst y;rw[aQ] at h;cases h
  .rw[aA y] at h;exact h
noncomputable def sZ{K:Frag}{P:Pu}{w:PU}{C CS:Addr}{O:Addr->Prop}{H:Hp}{p dx d1 d2:Addr}(e1:H p=KQ (.ins CS dx [(OZ "shelved",.ref d1),(OZ "answers",.ref d2)]))(e2:H d1=KQ (TD P w d1 []))(e3:H d2=KQ (TD P w d2 []))(nd:d1≠d2):SA K P w C CS O H p dx d1 d2 []:=⟨e1,⟨[],e2,rfl,λq hq=>(by cases hq)⟩,⟨[],e3,λq hq=>(by cases hq),λt q _=>.inr ⟨rfl,rfl⟩,Ql _⟩,nd,λx hx=>by simp_all⟩
inductive Gz(K:Frag)(P:Pu)(w:PU)(C CS:Addr)(vs:List V)(H:Hp)(Q:VK):Prop where
 |mk (O:Addr->Prop) (p dx d1 d2 p' Cy JB Ed:Addr) (es fs:List G.TE) (ev:vs=[.ref p,.ref p']) (sa:SA K P w C CS O H p dx d1 d2 es) (sb:SA K P w C CS O H p' Cy JB Ed fs) (tr:Tr O H) (hl:es.length<40) (hm:fs.length<40)
   (q:∀n nx n1 n2 H',Tr O H'->YM [] H H'->H n1=HA->H n2=HA->SA K P w C CS O H' n nx n1 n2 (bw es++bw fs)->Q (.ref n) H'):Gz K P w C CS vs H Q
noncomputable def JY(K:Frag)(P:Pu)(w:PU)(C CS:Addr):Sp:=λvs H Q _=>Gz K P w C CS vs H Q
inductive Eu(K:Frag)(P:Pu)(w:PU)(C CS:Addr)(vs:List V)(H:Hp)(Q:VK):Prop where
 |mk (O:Addr->Prop) (p dx d1 d2 p' Cy JB Ed a2:Addr) (xs:List V) (es fs gs:List G.TE) (ev:vs=[.ref p,.ref p',.ref a2]) (sa:SA K P w C CS O H p dx d1 d2 es) (sb:SA K P w C CS O H p' Cy JB Ed fs) (tr:Tr O H) (l2:LstAt K O H a2 xs) (r2:YK K O H xs (gs.map YV)) (hg:∀e∈gs,Y0 C e)
   (eq:∀t q,bV t q es .none=bV t q fs .none) (q:∀H',YM [] H H'->Q (.bl G3) H'):Eu K P w C CS vs H Q
noncomputable def J1(K:Frag)(P:Pu)(w:PU)(C CS:Addr):Sp:=λvs H Q _=>Eu K P w C CS vs H Q
section
variable {P:Pu}{w:PU}{K:Frag}{mg:Str->Option O9}{base:Heap}{C:Addr}(E:Ev P w K mg base (Bi K mg C) top zS){CS:Addr}(W:Wc K mg CS)
include E W
noncomputable def xI:Fn P w K mg base "merged" ["one","other"] 89 (JY K P w C CS):=by
 have S:Y2 ["one","other","shelf","entry"] ["one","other"] (aO (top 83)):=dX (rfl);obtain⟨f0,fd0,A1,A2,A3⟩:=(zQ (P:=P) (w:=w) (base:=base) W).ex;obtain⟨f1,fd1,B1,B2,B3⟩:=(AE E W).ex;obtain⟨f3,fd3,D1,D2,D3⟩:=(v7 E W).ex;refine mX E 83 λf0 fd F=>F.ok S (λvs H Q E h=>by obtain⟨_,_,_,_,_,_,_,_,_,_,_,rfl,_⟩:=h;rfl) λY9 A outer s H vs Q E' hr h=>?_
 refine⟨_,bJ (dh (i:=2) S.nd rfl (Qm rfl) (rD A3 A1 (hr.mono (by lia)) rfl W.q A2 .nil cw))
  (bJ (iH Rc rfl (sk (zrf (iB (pv 0) W.cl D3 D1 (hr.mono (by lia)) D2 .nil cw rfl) (iB (pv 1) W.cl D3 D1 (hr.mono (by lia)) D2 .nil cw rfl))) (ei (i:=3) S.nd rfl (Qm rfl))
   (cB (fW (fX (pv 2) W.cl B3 B1 (hr.mono (by lia)) B2 .nil cw (aV (pv 3) br) rfl rfl rfl))))
  (cB (fw (pv 2)))),?_⟩
 obtain⟨O,p,dx,d1,d2,p',Cy,JB,Ed,es,fs,rfl,sa,sb,tr,hl,hm,q⟩:=h
 have big:(3000:Nat)<sizeLine:=by decide
 refine λn nx hn hnx n0=>⟨n,nx,rfl,aQ,λn1 n2 Ha h1 h2 nd fr e1 e2 e3=>?_⟩;have sx:YM [] H Ha:=rH hn hnx h1 h2 fr;have hn1:=lq h1;have EZ:=lq h2;have sa:=sa.same sx;have sb:=sb.same sx;refine⟨rfl,_,rfl,p,dx,_,rfl,sa.hp,rfl,O,p,dx,d1,d2,es,rfl,sa,λu1 JD BQ BB=>?_⟩;have sy:=sx.trans (.new BQ (.lst JD));have sb:=sb.same (.new BQ (.lst JD));refine⟨_,rfl,p',Cy,_,rfl,sb.hp,rfl,O,p',Cy,JB,Ed,fs,rfl,sb,λu2 FU B4 BP=>?_⟩;have zH:YM [] Ha (upd (upd Ha u1 (.lst JD)) u2 (.lst FU)):=(YM.new BQ _).trans (.new B4 _);have sz:YM [] H (upd (upd Ha u1 (.lst JD)) u2 (.lst FU)):=sx.trans zH;have trz:=tr.same sz;have k1:=nY es _ rfl;have k2:=nY fs _ rfl;have no1:¬O u1:=(tr.same sx).fresh BQ;have no2:¬O u2:=(tr.same sy).fresh B4;refine⟨O,.list ((bw es).map YV),.list ((bw fs).map YV),.list ((bw es++bw fs).map YV),trz.hc,.lst (.inl ⟨no1,.inl ((YM.new (ts:=[]) B4 (.lst FU)) _ _ (by simp) aQ)⟩) (YK.monoP (.same zH) BB),.lst (.inl ⟨no2,.inl aQ⟩) (YK.monoP (.new B4 _) BP),?_,λv3 H3 s3 yS=>?_⟩
 .rw[sF,if_pos (by simp;lia),So]
 have JH:Rep K O H3 v3 (.list ((bw es++bw fs).map YV)):=yS
 cases JH with
 |@lst la vx _ tx rx=>
 have Cm:=zH.trans s3;have sh:=sx.trans Cm;refine⟨la,rfl,⟨vx,tx.sq⟩,?_⟩;have al:∀e∈bw es++bw fs,Y0 C e:=λe he=>(Pt.mp he).elim (λz=>sa.al e ((lS _ es rfl e).mp z)) λz=>sb.al e ((lS _ fs rfl e).mp z)
 have lx:vx.length=(bw es++bw fs).length:=by rw[rx.length,PY]
 have ll:(bw es++bw fs).length<80:=by rw[Qb];lia
 generalize bw es++bw fs=gs at *;refine oe (xs:=vx) (λi σ Hi=>∃o3,σ=[KQ (.ref p),KQ (.ref p'),KQ (.ref n),o3]/\Tr O Hi/\ZD O H3 O Hi/\YM [] H Hi/\SA K P w C CS O Hi n nx n1 n2 (gs.take i)) ⟨_,rfl,tr.same sh,.refl,sh,?_⟩ (λi σ Hi _ h=>?_) (λi x σ Hi hx h=>?_) λσ Hi h=>?_
 .exact sZ (Cm _ _ (by simp) e1) (Cm _ _ (by simp) e2) (Cm _ _ (by simp) e3) nd
 .obtain⟨_,_,_,h,_⟩:=h
  exact(LstAt.monoP h tx).sq
 .obtain⟨o3,rfl,Gg,li,si,IZ⟩:=h
  obtain⟨d,hd,rd⟩:=rx.get hx
  obtain⟨e,he,rfl⟩:∃e,gs[i]? = KQ e/\d=YV e:=by
   rw[P5] at hd
   cases hq:gs[i]? with
   |none=>rw[hq] at hd;cases hd
   |some e=>rw[hq] at hd;cases hd;exact⟨e,rfl,rfl⟩
  have rdi:=Rep.monoP li rd;obtain⟨b,_,rfl,_,_⟩:=(Vw.rep rdi).tup;refine⟨_,rfl,n,nx,_,rfl,IZ.hp,rfl,_,rfl,O,n,nx,n1,n2,b,gs.take i,e,rfl,IZ,Gg,rdi,al e (Px he),by rw[RC];lia,λH4 tr4 l4 Gd De=>?_⟩;refine⟨_,rfl,tr4,li.trans l4,λc o hc ho=>Gd c o (λz=>by rw[z,hn1] at ho;cases ho) (λz=>by rw[z,EZ] at ho;cases ho) (si c o hc ho),?_⟩;rw[RR,he];exact De
 .obtain⟨o3,rfl,Gg,li,si,IZ⟩:=h
  rw[lx,Sz] at IZ;exact⟨_,rfl,q n nx n1 n2 Hi Gg si hn1 EZ IZ⟩
noncomputable def zrh:Fn P w K mg base "_law_finds" ["_law_one","_law_other","_law_entries_here"] 3 (J1 K P w C CS):=by
 have S:Y2 ["_law_one","_law_other","_law_entries_here","_law_entry_here","_law_k","_law_found"] ["_law_one","_law_other","_law_entries_here"] (aO (top 103)):=dX (rfl);obtain⟨f2,fd2,C1,C2,C3⟩:=(yy (C:=C) (P:=P) (w:=w) (base:=base) W).ex;refine mX E 103 λf0 fd F=>F.ok S (λvs H Q E h=>by obtain⟨_,_,_,_,_,_,_,_,_,_,_,_,_,_,rfl,_⟩:=h;rfl) λY9 A outer s H vs Q E' hr h=>?_
 refine⟨_,bJ (iH Rc rfl (sk (pv 2)) (ei (i:=3) S.nd rfl (Qm rfl))
   (cB (iH Rc rfl (nN rfl E.b.z (aV (DE.pe (aF aR (eJ mZ rfl E.b.z WI (ao (bc aZ (af 3) ak) aC)) ak)) br)) (ei (i:=4) S.nd rfl (Qm rfl))
    (bJ (dh (i:=5) S.nd rfl (Qm rfl) (fX (pv 0) W.cl C3 C1 (hr.mono (by lia)) C2 .nil cw (aV (DE.pe (bc aZ (af 3) ak)) (aV (DE.pe (dY (bc aZ (af 3) ak) gL (cL (af 4)))) br)) rfl rfl rfl))
    (cB (iL (j7 (mB hr) (pv 5) (fX (pv 1) W.cl C3 C1 (hr.mono (by lia)) C2 .nil cw (aV (DE.pe (bc aZ (af 3) ak)) (aV (DE.pe (dY (bc aZ (af 3) ak) gL (cL (af 4)))) br)) rfl rfl rfl) (f6 _)) (cB (fw jy)) iD))))))
  (cB (fw jy)),?_⟩
 obtain⟨O,p,dx,d1,d2,p',Cy,JB,Ed,a2,xs,es,fs,gs,rfl,sa,sb,tr,l2,r2,hg,eq,q⟩:=h;have Dk:∀a b c:OY,Zd [a,b,c] 0=KQ a:=λ_ _ _=>rfl;have Ki:∀a b c:OY,Zd [a,b,c] 1=KQ b:=λ_ _ _=>rfl
 have big:(3000:Nat)<sizeLine:=by decide
 refine⟨_,rfl,a2,rfl,⟨xs,l2.sq⟩,oe (xs:=xs) (λi σ Hi=>∃o3 o4 o5,σ=[KQ (.ref p),KQ (.ref p'),KQ (.ref a2),o3,o4,o5]/\YM [] H Hi) ⟨_,_,_,rfl,λ_ _ _ h=>h⟩ (λi σ Hi _ h=>?_) (λi x σ Hi hx h=>?_) λσ Hi h=>?_⟩
 .obtain⟨_,_,_,_,s⟩:=h
  exact(LstAt.monoP (.same s) l2).sq
 .obtain⟨o3,o4,o5,rfl,s1⟩:=h
  obtain⟨d,hd,rd⟩:=r2.get hx
  obtain⟨e,he,rfl⟩:∃e,gs[i]? = KQ e/\d=YV e:=by
   rw[P5] at hd
   cases hq:gs[i]? with
   |none=>rw[hq] at hd;cases hd
   |some e=>rw[hq] at hd;cases hd;exact⟨e,rfl,rfl⟩
  have te:=hg e (Px he);have few:=te.few;refine⟨O,[],[HA,HA,HA,KQ (.d (YV e))],[],.d (.int ((e.2.1.length:Int)+1)),[],(tr.same s1).hc,aH (aH (aH (bI (Rep.monoP (.same s1) rd) bN))),by simp[YV,Ki,yn],λv H4 s4 _ rv=>?_⟩;cases (show Rep K O H4 v (.int ((e.2.1.length:Int)+1)) from rv);refine⟨_,rfl,by lia,by lia,qT (n:=((e.2.1.length:Int)+1).toNat) (λj σ Hj=>∃o4 o5,σ=[KQ (.ref p),KQ (.ref p'),KQ (.ref a2),KQ x,o4,o5]/\YM [] H Hj) ⟨_,_,rfl,s1.trans s4⟩ ?_ ?_⟩
  .rintro j σ Hj hj ⟨o4,o5,rfl,s5⟩
   rw[WM];have args:∀{Hx:Hp},YM [] H Hx->∀{o5:Option V},Zu K O [] Hx [KQ (.ref p),KQ (.ref p'),KQ (.ref a2),KQ x,KQ (.int (j:Int)),o5] [HA,HA,HA,KQ (.d (YV e)),KQ (.d (.int (j:Int)))]:=λsx=>aH (aH (aH (bI (Rep.monoP (.same sx) rd) (bI (.int _) bN))));have gq:Cu (e.2.1.take j):=te.gd.take j;have s5a:=sa.same s5;refine⟨_,rfl,p,dx,_,rfl,s5a.hp,rfl,O,[],_,[],.d (.str e.1),[],(tr.same s5).hc,args s5,by simp[YV,Dk],λvt H6 s6 _ K8=>?_⟩;cases (show Rep K O H6 vt (.str e.1) from K8);have Eb:=s5.trans s6;refine⟨O,[],_,[],.d (.tuple (Zm (e.2.1.take j))),[],(tr.same Eb).hc,args Eb,by simp[YV,Ki,sL,rB],λvq H7 s7 _ GY=>?_⟩;have GI:Rep K O H7 vq (.tuple (Zm (e.2.1.take j))):=GY;obtain⟨b8,_,rfl,_,_⟩:=(Vw.rep GI).tup;have zA:=Eb.trans s7;refine⟨O,p,dx,d1,d2,b8,es,e.1,e.2.1.take j,rfl,sa.same zA,tr.same zA,GI,gq,te.txt,λvf H8 s8 E4=>?_⟩;have DV:=zA.trans s8;refine⟨_,rfl,_,rfl,p',Cy,_,rfl,(sb.same DV).hp,rfl,O,[],_,[],.d (.str e.1),[],(tr.same DV).hc,args DV,by simp[YV,Dk],λvt H9 s9 _ K8=>?_⟩;cases (show Rep K O H9 vt (.str e.1) from K8);have xu:=DV.trans s9;refine⟨O,[],_,[],.d (.tuple (Zm (e.2.1.take j))),[],(tr.same xu).hc,args xu,by simp[YV,Ki,sL,rB],λvq Ef Gc _ GY=>?_⟩;have GI:Rep K O Ef vq (.tuple (Zm (e.2.1.take j))):=GY;obtain⟨b9,_,rfl,_,_⟩:=(Vw.rep GI).tup;have vP:=xu.trans Gc;refine⟨O,p',Cy,JB,Ed,b9,fs,e.1,e.2.1.take j,rfl,sb.same vP,tr.same vP,GI,gq,te.txt,λvg H11 FH rvg=>?_⟩;rw[←eq] at rvg;obtain⟨z1,z2⟩:=zrd (xQ (t:=e.1) (q:=e.2.1.take j) sa.al (.inl rfl));refine⟨O,_,_,Vw.rep (Rep.monoP (.same (s9.trans (Gc.trans FH))) E4),Vw.rep rvg,z1,z1,Gy,by rw[z2];rfl,?_⟩;show (if Gy=G3 then _ else _);rw[if_neg (by decide)];exact⟨_,_,rfl,vP.trans FH⟩
  .rintro σ Hj ⟨o4,o5,rfl,s5⟩
   exact⟨_,_,_,rfl,s5⟩
 .obtain⟨o3,o4,o5,rfl,s1⟩:=h
  exact q Hi s1
end
end TK
namespace TK
open L2 D G
open K1 (au)
noncomputable abbrev lc:List Str:=["_law_script","_law_names_here","_law_entries_here","_law_rows","_law_k","_law_way","_law_at","_law_spot","_law_shelves","_law_entry_here","_law_both_here","_law_turned","_law_due","_law_late","_law_other"]
noncomputable abbrev AD:List Str:=["_law_script","_law_names_here","_law_entries_here","_law_rows","_law_k","_law_way","_law_at","_law_spot","_law_shelves",".9.","_law_both_here","_law_turned","_law_due","_law_late","_law_other"]
noncomputable def zri{K:Frag}{O:Addr->Prop}{H:Hp}{cs:List Int}:∀{us:List V},YK K O H us (il cs)->us=cs.map V.int:=by
 induction cs with
 |nil=>intro us r;cases r;rfl
 |cons c cs ih=>intro us r;cases r with|cons a t=>cases a;rw[ih t];rfl
noncomputable def xh{K:Frag}{O:Addr->Prop}{H:Hp}{y:V}{d:OY}(ry:Rep K O H y d)(k:Nat){us:List V}{ds:List OY}(r:YK K O H us ds):YK K O H (us.take k++y::us.drop k) (ds.take k++d::ds.drop k):=(r.take k).append (.cons ry (r.drop k))
noncomputable def zrj(h:E9 [3,10,10] cs):∃c0 c1 c2,cs=[c0,c1,c2]/\0<=c1/\0<=c2:=by
 obtain⟨hl,hb⟩:=h
 match cs,hl with
 |[c0,c1,c2],_=>
  exact⟨c0,c1,c2,rfl,(hb 1 c1 10 rfl rfl).1,(hb 2 c2 10 rfl rfl).1⟩
noncomputable def zW{α:Type}{l:List α}{e:α}(k:Nat)(h:l.Nodup)(hn:e∉l):(l.take k++e::l.drop k).Nodup:=by
 have p:=by
  have:=List.perm_middle (a:=e) (l₁:=l.take k) (l₂:=l.drop k)
  rwa [Td] at this
 exact p.nodup_iff.mpr (RN.mpr ⟨hn,h⟩)
noncomputable def yF{α:Type}{l:List α}{e x:α}{k:Nat}(h:x∈l.take k++e::l.drop k):x=e\/x∈l :=by grind
structure Row(K:Frag)(O:Addr->Prop)(H:Hp)(es:List G.TE)(r:Addr)(k:Nat)(R:List G.TE)(us:List V):Prop where
 h:H r=KQ (.lst us)
 rs:YK K O H us (R.map YV)
 nd:R.Nodup
 sub:∀e∈R,e∈es.take k
def Row.mono{K:Frag}{O O':Addr->Prop}{H H':Hp}{es:List G.TE}{r:Addr}{k k':Nat}{R:List G.TE}{us:List V}(x:Row K O H es r k R us)(h:H' r=KQ (.lst us))(l:ZD O H O' H')(hk:∀e∈es.take k,e∈es.take k'):Row K O' H' es r k' R us:=⟨h,YK.monoP l x.rs,x.nd,λe he=>hk e (x.sub e he)⟩
structure RI(K:Frag)(O:Addr->Prop)(ns:List Int)(es:List G.TE)(v0:V)(a2:Addr)(xs:List V)(r0 r1 rl:Addr)(H:Hp)(k0 k1:Nat):Prop where
 tr:Tr O H
 hrl:H rl=KQ (.lst [.ref r0,.ref r1])
 ex:∃R0 R1 u0 u1,Row K O H es r0 k0 R0 u0/\Row K O H es r1 k1 R1 u1
 rv:Rep K O H v0 (bR ns)
 l2:LstAt K O H a2 xs
 r2:YK K O H xs (es.map YV)
theorem RI.same{K:Frag}{O:Addr->Prop}{ns:List Int}{es:List G.TE}{v0:V}{a2:Addr}{xs:List V}{r0 r1 rl:Addr}{H H':Hp}{k0 k1:Nat}(x:RI K O ns es v0 a2 xs r0 r1 rl H k0 k1)(s:YM [] H H'):RI K O ns es v0 a2 xs r0 r1 rl H' k0 k1:=by
 obtain⟨R0,R1,u0,u1,a,b⟩:=x.ex;exact⟨x.tr.same s,s _ _ (by simp) x.hrl,⟨R0,R1,u0,u1,a.mono (s _ _ (by simp) a.h) (.same s) λ_ h=>h,b.mono (s _ _ (by simp) b.h) (.same s) λ_ h=>h⟩,Rep.monoP (.same s) x.rv,LstAt.monoP (.same s) x.l2,YK.monoP (.same s) x.r2⟩
noncomputable def toF:ZD O H (λ_=>False) H:=λ_ _ _ _ e=>⟨λz=>z,e⟩
def Io:Tr (λ_=>False) H:=λ_ z=>z.elim
noncomputable def rA{K:Frag}{O:Addr->Prop}{H:Hp}{es:List G.TE}{r0 r1 rl:Addr}{k0 k1:Nat}{R0 R1:List G.TE}{u0 u1:List V}(h:H rl=KQ (.lst [.ref r0,.ref r1]))(a:Row K O H es r0 k0 R0 u0)(b:Row K O H es r1 k1 R1 u1):Rep K (λ_=>False) H (.ref rl) (.list [.list (R0.map YV),.list (R1.map YV)]):=.lst (.inl ⟨λz=>z,.inl h⟩) (.cons (.lst (.inl ⟨λz=>z,.inl a.h⟩) (YK.monoP toF a.rs)) (.cons (.lst (.inl ⟨λz=>z,.inl b.h⟩) (YK.monoP toF b.rs)) .nil))
structure JI(K:Frag)(P:Pu)(w:PU)(C CS:Addr)(es R0 R1:List G.TE)(u0 u1:List V)(a2:Addr)(xs:List V)(r0 r1 rl sl p0 x0 a0 b0 p1 x1 a1 b1:Addr)(H:Hp)(E0 E1:List G.TE):Prop where
 s0:SA K P w C CS (λ_=>False) H p0 x0 a0 b0 E0
 s1:SA K P w C CS (λ_=>False) H p1 x1 a1 b1 E1
 hrl:H rl=KQ (.lst [.ref r0,.ref r1])
 hsl:H sl=KQ (.lst [.ref p0,.ref p1])
 q0:Row K (λ_=>False) H es r0 es.length R0 u0
 q1:Row K (λ_=>False) H es r1 es.length R1 u1
 l2:LstAt K (λ_=>False) H a2 xs
 r2:YK K (λ_=>False) H xs (es.map YV)
section
variable {K:Frag}{P:Pu}{w:PU}{C CS:Addr}{es R0 R1:List G.TE}{u0 u1:List V}{a2:Addr}{xs:List V}{r0 r1 rl sl p0 x0 a0 b0 p1 x1 a1 b1:Addr}{H H':Hp}{E0 E1 E':List G.TE}{d1 d2:Addr}{k1 k2:cI}
theorem JI.same(x:JI K P w C CS es R0 R1 u0 u1 a2 xs r0 r1 rl sl p0 x0 a0 b0 p1 x1 a1 b1 H E0 E1)(s:YM [] H H'):JI K P w C CS es R0 R1 u0 u1 a2 xs r0 r1 rl sl p0 x0 a0 b0 p1 x1 a1 b1 H' E0 E1:=⟨x.s0.same s,x.s1.same s,s _ _ (by simp) x.hrl,s _ _ (by simp) x.hsl,x.q0.mono (s _ _ (by simp) x.q0.h) (.same s) λ_ h=>h,x.q1.mono (s _ _ (by simp) x.q1.h) (.same s) λ_ h=>h,LstAt.monoP (.same s) x.l2,YK.monoP (.same s) x.r2⟩
def JI.on(x:JI K P w C CS es R0 R1 u0 u1 a2 xs r0 r1 rl sl p0 x0 a0 b0 p1 x1 a1 b1 H E0 E1)(fr:∀c o,c≠d1->c≠d2->H c=KQ o->H' c=KQ o)(l:ZD (λ_=>False) H (λ_=>False) H')(h1:H d1=KQ (TD P w d1 k1))(h2:H d2=KQ (TD P w d2 k2))(t0:SA K P w C CS (λ_=>False) H' p0 x0 a0 b0 F0)(t1:SA K P w C CS (λ_=>False) H' p1 x1 a1 b1 F1):JI K P w C CS es R0 R1 u0 u1 a2 xs r0 r1 rl sl p0 x0 a0 b0 p1 x1 a1 b1 H' F0 F1:=by
 have k:∀{c us},H c=KQ _->H' c=KQ (.lst us):=λ{c us} h=>fr c _ (λz=>by rw[z,h1] at h;cases h) (λz=>by rw[z,h2] at h;cases h) h;exact⟨t0,t1,k x.hrl,k x.hsl,x.q0.mono (k x.q0.h) l λ_ h=>h,x.q1.mono (k x.q1.h) l λ_ h=>h,LstAt.monoP l x.l2,YK.monoP l x.r2⟩
end
theorem zrk:Rz [.str "say put (7,7)",.tuple [],.tuple [.str "made",.str "(7,7)"]]=YV (bD P7) :=rfl
theorem zrl:Rz [.str "say put (8,8)",.tuple [],.tuple [.str "made",.str "(8,8)"]]=YV (bD P8) :=rfl
noncomputable def fBody(s:Stmt):List Stmt:=match s with
 |.For _ _ b _ _=>b
 |_=>[]
section
variable {P:Pu}{w:PU}{K:Frag}{mg:Str->Option O9}{base:Heap}{C:Addr}(E:Ev P w K mg base (Bi K mg C) top zS){CS:Addr}(W:Wc K mg CS)
include E W
noncomputable def zrm(F:KH K "law" "law" (top 104) Ka fd):Zr P w K mg base Z7 91 Ka fd ["_law_script"] (pF K):=by
 have S:Y2 lc ["_law_script"] (aO (top 104)):=dX (by decide +kernel);obtain⟨f0,fd0,A1,A2,A3⟩:=(zQ (P:=P) (w:=w) (base:=base) W).ex;obtain⟨f1,fd1,B1,B2,B3⟩:=(AE E W).ex;obtain⟨f2,fd2,C1,C2,C3⟩:=(yy (C:=C) (P:=P) (w:=w) (base:=base) W).ex;obtain⟨f3,fd3,D1,D2,D3⟩:=(v7 E W).ex;refine F.ok S (λvs H Q E h=>by obtain⟨_,_,rfl,_⟩:=h;rfl) λY9 A outer s H vs Q E' hr h=>?_;obtain⟨as,ns,rfl,hS,hl,q⟩:=h
 have big:(3000:Nat)<sizeLine:=by decide
 have ax0:∀a b:OY,Zd [a,b] 0=KQ a:=λ_ _=>rfl;have ax1:∀a b:OY,Zd [a,b] 1=KQ b:=λ_ _=>rfl
 have DX:∃t,Kl (ef Z7 P w K mg base lc "law" (aO (top 104)) Ka Y9 A outer s H E').nox (Yg 6 (bP (top 104))) t/\∀(es R0 R1:List G.TE) (u0 u1:List V) (v1:V) (a2:Addr) (xs:List V) (r0 r1 rl sl p0 x0 a0 b0 p1 x1 a1 b1:Addr) (o4 o5 o6 o7 o9:Option V) (Hj:Hp) (Dn:Ends),(∀e∈es,Y0 C e)->(∀e∈es,e.1≠(bD P7).1/\e.1≠(bD P8).1)->R0.Nodup->R1.Nodup->R0.length<=9->R1.length<=9->(∀e∈R0,e∈es)->(∀e∈R1,e∈es)->a1≠a0->a1≠b0->b1≠a0->b1≠b0->JI K P w C CS es R0 R1 u0 u1 a2 xs r0 r1 rl sl p0 x0 a0 b0 p1 x1 a1 b1 Hj R0 R1->(∀H',Dn.rt (.bl G3) H')->t Dn [KQ (.ref as),KQ v1,KQ (.ref a2),KQ (.ref rl),o4,o5,o6,o7,KQ (.ref sl),o9,HA,HA,HA,HA,HA] Hj:=by
  refine⟨_,(bJ (dh (i:=10) S.nd rfl (Qm rfl) (gm (xI E W) (hr.mono (by lia)) rfl (aV (dE Y7 (pv 8) et (λ_ _=>rfl)) (aV (dE Y7 (pv 8) et (λ_ _=>rfl)) br))))
    (bJ (dh (i:=11) S.nd rfl (Qm rfl) (gm (xI E W) (hr.mono (by lia)) rfl (aV (dE Y7 (pv 8) et (λ_ _=>rfl)) (aV (dE Y7 (pv 8) et (λ_ _=>rfl)) br))))
    (bJ (dh (i:=12) S.nd rfl (Qm rfl) (DE.pe (aF aR (bc aZ (af 3) ak) (pS (top 104) lc AD (cM (bc aZ (af 3) ak)) (af 0) (sH rfl (aE (rE hr) (af 0) (bc aZ (af 4) ak)))))))
    (bJ (iL (PW.pt (pH (j7 (mB hr) (iB (pv 10) W.cl D3 D1 (hr.mono (by lia)) D2 .nil cw rfl) (pv 12) (f6 _)) (tj (zrr (zas (gm (zrh E W) (hr.mono (by lia)) rfl (aV (pv 10) (aV (pv 11) (aV (pv 2) br))))))))) (cB (fw jy)) iD)
    (bJ (iL (j7 (mB hr) (iB (pv 11) W.cl D3 D1 (hr.mono (by lia)) D2 .nil cw rfl) (DE.pe (aF aR (bc aZ (af 3) ak) (pS (top 104) lc AD (cM (bc aZ (af 3) ak)) (af 0) (sH rfl (aE (rE hr) (af 0) (bc aZ (af 4) ak)))))) (f6 _)) (cB (fw jy)) iD)
    (bJ (dh (i:=13) S.nd rfl (Qm rfl) (DE.pe ((bX (ao ap (ao (bX aC) (ao (bX (ao ap (ao ap aC))) aC)))))))
    (bJ (fW (fX (pv 10) W.cl B3 B1 (hr.mono (by lia)) B2 .nil cw (aV (pv 13) br) rfl rfl rfl))
    (bJ (iL (PW.pt (pH (j7 (mB hr) (iB (dE Y7 (pv 8) et (λ_ _=>rfl)) W.cl D3 D1 (hr.mono (by lia)) D2 .nil cw rfl) (dE Y7 (pv 3) et (λ_ _=>rfl)) (f6 _)) (pH (j7 (mB hr) (iB (dE Y7 (pv 8) et (λ_ _=>rfl)) W.cl D3 D1 (hr.mono (by lia)) D2 .nil cw rfl) (dE Y7 (pv 3) et (λ_ _=>rfl)) (f6 _)) (tj (zrq (zaq (fX (pv 11) W.cl C3 C1 (hr.mono (by lia)) C2 .nil cw (aV (DE.pe (bc aZ (af 13) ak)) (aV (DE.pe (bX aC)) br)) rfl rfl rfl))))))) (cB (fw jy)) iD)
    (bJ (dh (i:=14) S.nd rfl (Qm rfl) (DE.pe ((bX (ao ap (ao (bX aC) (ao (bX (ao ap (ao ap aC))) aC)))))))
    (bJ (fW (fX (dE Y7 (pv 8) et (λ_ _=>rfl)) W.cl B3 B1 (hr.mono (by lia)) B2 .nil cw (aV (pv 14) br) rfl rfl rfl))
    (bJ (fW (fX (dE Y7 (pv 8) et (λ_ _=>rfl)) W.cl B3 B1 (hr.mono (by lia)) B2 .nil cw (aV (pv 14) br) rfl rfl rfl))
    (cB (fw (zrt (so (zuv hr) (iB (pv 10) W.cl D3 D1 (hr.mono (by lia)) D2 .nil cw rfl) (DE.pe (aF aR (af 12) (cR (ao (af 13) aC)))) (f6 _)) (zrs (zar (zap (fX (pv 11) W.cl C3 C1 (hr.mono (by lia)) C2 .nil cw (aV (DE.pe (bc aZ (af 14) ak)) (aV (DE.pe (bX aC)) br)) rfl rfl rfl)))))))))))))))))),λes R0 R1 u0 u1 v1 a2 xs r0 r1 rl sl p0 x0 a0 b0 p1 x1 a1 b1 o4 o5 o6 o7 o9 Hj Dn hE Cw E6 Dj hR0 hR1 GT GU d1 d2 d3 d4 ji hD=>?_⟩
  have IW:∀e∈R0,Y0 C e:=λe he=>hE e (GT e he);have IE:∀e∈R1,Y0 C e:=λe he=>hE e (GU e he);refine⟨_,rfl,sl,_,0,_,rfl,rfl,Zc.of ji.hsl,rfl,_,rfl,sl,_,1,_,rfl,rfl,Zc.of ji.hsl,rfl,λ_=>False,p0,x0,a0,b0,p1,x1,a1,b1,R0,R1,rfl,ji.s0,ji.s1,Io,by lia,by lia,λB Bx aB bB H5 _ s5 HG J8 sB=>?_⟩;obtain⟨kv0a,Jz,_⟩:=ji.s0.h1;obtain⟨kv0b,K0,_⟩:=ji.s0.h2;obtain⟨kv1a,Jy,_⟩:=ji.s1.h1;obtain⟨kv1b,Jx,_⟩:=ji.s1.h2;have B0a:a0≠aB:=aX Jz HG;have B0b:a0≠bB:=aX Jz J8;have B0c:b0≠aB:=aX K0 HG;have B0d:b0≠bB:=aX K0 J8;have B1a:a1≠aB:=aX Jy HG;have B1b:a1≠bB:=aX Jy J8;have B1c:b1≠aB:=aX Jx HG;have B1d:b1≠bB:=aX Jx J8;have ji:=ji.same s5;refine⟨_,rfl,sl,_,1,_,rfl,rfl,Zc.of ji.hsl,rfl,_,rfl,sl,_,0,_,rfl,rfl,Zc.of ji.hsl,rfl,λ_=>False,p1,x1,a1,b1,p0,x0,a0,b0,R1,R0,rfl,ji.s1,ji.s0,Io,by lia,by lia,λT Tx aT bT H6 _ s6 Ei Fx sT=>?_⟩;obtain⟨kvBa,Dx,_⟩:=sB.h1;obtain⟨kvBb,GH,_⟩:=sB.h2;have TBa:aB≠aT:=aX Dx Ei;have TBb:aB≠bT:=aX Dx Fx;have TBc:bB≠aT:=aX GH Ei;have TBd:bB≠bT:=aX GH Fx;have ES:=s5;have T0a:a0≠aT:=aX (ES _ _ (by simp) Jz) Ei;have T0b:a0≠bT:=aX (ES _ _ (by simp) Jz) Fx;have T0c:b0≠aT:=aX (ES _ _ (by simp) K0) Ei;have T0d:b0≠bT:=aX (ES _ _ (by simp) K0) Fx;have T1a:a1≠aT:=aX (ES _ _ (by simp) Jy) Ei;have T1b:a1≠bT:=aX (ES _ _ (by simp) Jy) Fx;have T1c:b1≠aT:=aX (ES _ _ (by simp) Jx) Ei;have T1d:b1≠bT:=aX (ES _ _ (by simp) Jx) Fx;clear Dx GH Jz K0 Jy Jx ES HG J8 Ei Fx;have ji:=ji.same s6;have sB:=sB.same s6;have e0:=ka _ R0 rfl E6;have Hg:=ka _ R1 rfl Dj;have kB:=wc E6 Dj;have kT:=wc Dj E6;have j01:∀e∈cN R0 R1,Y0 C e:=λe he=>(Pt.mp he).elim (IW e) λz=>IE e (QH.mp z).1;have j10:∀e∈cN R1 R0,Y0 C e:=λe he=>(Pt.mp he).elim (IE e) λz=>IW e (QH.mp z).1;have rr:∀{Hx E0 E1},JI K P w C CS es R0 R1 u0 u1 a2 xs r0 r1 rl sl p0 x0 a0 b0 p1 x1 a1 b1 Hx E0 E1->Rep K (λ_=>False) Hx (.ref rl) (.list [.list (R0.map YV),.list (R1.map YV)]):=λj=>rA j.hrl j.q0 j.q1;refine⟨λ_=>False,[],[HA,HA,HA,KQ (.d (.list [.list (R0.map YV),.list (R1.map YV)]))],[],.d (.list ((cN R0 R1).map YV)),[],Io.hc,aH (aH (aH (bI (rr ji) bN))),xO rfl IW IE rfl rfl (by lia) (by lia),λv12 H7 s7 _ Aj=>?_⟩;have Zi:Rep K (λ_=>False) H7 v12 (.list ((cN R0 R1).map YV)):=Aj;have ji:=ji.same s7;have sB:=sB.same s7;have sT:=sT.same s7;obtain⟨y1,y2⟩:=l5 (mJ j01);obtain⟨y3,y4⟩:=l5 (mJ j10);obtain⟨y5,y6⟩:=l5 (mJ IW);obtain⟨y7,y8⟩:=l5 (mJ IE);rw[e0,Hg] at sB sT kB kT;have inE:∀e∈R0++R1,e∈es:=λe he=>(Pt.mp he).elim (GT e) (GU e);have KB:∀e∈R1++R0,e∈es:=λe he=>inE e (by rw[Pt] at he ⊢;exact he.symm);refine⟨_,rfl,B,Bx,_,rfl,sB.hp,rfl,λ_=>False,B,Bx,aB,bB,_,rfl,sB,λc1 JD YN BB=>?_⟩;rw[kB] at BB;refine⟨_,rfl,λ_=>False,.list ((cN R0 R1).map YV),.list ((cN R0 R1).map YV),Vw.rep (.lst (.inl ⟨λz=>z,.inl aQ⟩) (YK.monoP (.new YN _) BB)),Vw.rep (Rep.monoP (.new YN _) Zi),y1,y1,Gy,by rw[y2];rfl,?_⟩;show (if Gy=G3 then _ else _);rw[if_neg (by decide)];have n1:YM [] H7 (upd H7 c1 (.lst JD)):=.new YN _;have ji:=ji.same n1;have sB:=sB.same n1;have sT:=sT.same n1;refine⟨_,rfl,_,rfl,_,rfl,λ_=>False,B,Bx,aB,bB,T,Tx,aT,bT,a2,xs,R0++R1,R1++R0,es,rfl,sB,sT,Io,ji.l2,ji.r2,hE,λt q=>zok sB.al sT.al λy=>by rw[Pt,Pt,or_comm],λH8 s8=>⟨G3,rfl,?_⟩⟩;show (if (!G3)=G3 then _ else _);rw[if_neg (by decide)];have ji:=ji.same s8;have sB:=sB.same s8;have sT:=sT.same s8;have Zi:=Rep.monoP (.same (n1.trans s8)) Zi;refine⟨_,rfl,T,Tx,_,rfl,sT.hp,rfl,λ_=>False,T,Tx,aT,bT,_,rfl,sT,λc2 FU YY BP=>?_⟩;rw[kT] at BP;have n2:YM [] H8 (upd H8 c2 (.lst FU)):=.new YY _;refine⟨λ_=>False,[],[HA,HA,HA,KQ (.d (.list [.list (R0.map YV),.list (R1.map YV)]))],[],.d (.list ((cN R1 R0).map YV)),[],Io.hc,aH (aH (aH (bI (rr (ji.same n2)) bN))),xO rfl IE IW rfl rfl (by lia) (by lia),λvj H9 s9 _ rvj=>⟨λ_=>False,.list ((cN R1 R0).map YV),.list ((cN R1 R0).map YV),Vw.rep (.lst (.inl ⟨λz=>z,.inl (s9 _ _ (by simp) aQ)⟩) (YK.monoP (.same (n2.trans s9)) BP)),Vw.rep rvj,y3,y3,Gy,by rw[y4];rfl,?_⟩⟩;show (if Gy=G3 then _ else _);rw[if_neg (by decide)];have n3:=n2.trans s9;have ji:=ji.same n3;have sB:=sB.same n3;have sT:=sT.same n3;have Zi:=Rep.monoP (.same n3) Zi;refine⟨λ_=>False,[],[],[],.d (YV (bD P7)),[],Io.hc,bN,by rw[←zrk];simp,λv13 H11 FH _ xF=>?_⟩;have Zt:Rep K (λ_=>False) H11 v13 (YV (bD P7)):=xF;obtain⟨b13,_,rfl,_,_⟩:=(Vw.rep Zt).tup;have ji:=ji.same FH;have sB:=sB.same FH;have sT:=sT.same FH;have Zi:=Rep.monoP (.same FH) Zi;have ID:Y0 C (bD P7):=yC Cg.1 zrb;have Lu:Y0 C (bD P8):=yC Cg.2 zrc;refine⟨_,rfl,B,Bx,_,rfl,sB.hp,rfl,_,rfl,λ_=>False,B,Bx,aB,bB,b13,R0++R1,bD P7,rfl,sB,Io,Zt,ID,by rw[Qb];lia,λJe _ Hd Jf EI=>?_⟩;obtain⟨_,HF,_⟩:=sB.h1;obtain⟨_,HU,_⟩:=sB.h2;have sT:=sT.off Jf Hd HF HU (P3 TBa) (P3 TBc) (P3 TBb) (P3 TBd);have ji:=ji.on Jf Hd HF HU (ji.s0.off Jf Hd HF HU B0a B0b B0c B0d) (ji.s1.off Jf Hd HF HU B1a B1b B1c B1d);have Zi:=Rep.monoP Hd Zi;have Zt:=Rep.monoP Hd Zt;clear HF HU Jf sB;refine⟨_,rfl,sl,_,0,_,rfl,rfl,Zc.of ji.hsl,rfl,p0,x0,_,rfl,ji.s0.hp,rfl,λ_=>False,p0,x0,a0,b0,R0,rfl,ji.s0,λc3 BI ZA Hc=>?_⟩;rw[e0] at Hc;have n4:YM [] Je (upd Je c3 (.lst BI)):=.new ZA _;have ji:=ji.same n4;refine⟨_,rfl,rl,_,0,_,rfl,rfl,Zc.of ji.hrl,rfl,λ_=>False,.list (R0.map YV),.list (R0.map YV),Vw.rep (.lst (.inl ⟨λz=>z,.inl aQ⟩) (YK.monoP (.same n4) Hc)),Vw.rep (.lst (.inl ⟨λz=>z,.inl ji.q0.h⟩) ji.q0.rs),y5,y5,Gy,by rw[y6];rfl,?_⟩;show (if Gy=G3 then _ else _);rw[if_neg (by decide)];refine⟨_,rfl,sl,_,1,_,rfl,rfl,Zc.of ji.hsl,rfl,p1,x1,_,rfl,ji.s1.hp,rfl,λ_=>False,p1,x1,a1,b1,R1,rfl,ji.s1,λc4 us4 FX ru4=>?_⟩;rw[Hg] at ru4;have n5:YM [] (upd Je c3 (.lst BI)) (upd (upd Je c3 (.lst BI)) c4 (.lst us4)):=.new FX _;have ji:=ji.same n5;refine⟨_,rfl,rl,_,1,_,rfl,rfl,Zc.of ji.hrl,rfl,λ_=>False,.list (R1.map YV),.list (R1.map YV),Vw.rep (.lst (.inl ⟨λz=>z,.inl aQ⟩) (YK.monoP (.same n5) ru4)),Vw.rep (.lst (.inl ⟨λz=>z,.inl ji.q1.h⟩) ji.q1.rs),y7,y7,Gy,by rw[y8];rfl,?_⟩;show (if Gy=G3 then _ else _);rw[if_neg (by decide)];have DP:=n4.trans n5;have sT:=sT.same DP;have EI:=EI.same DP;have Zi:=Rep.monoP (.same DP) Zi;have Zt:=Rep.monoP (.same DP) Zt;have Dk:∀a b c:OY,Zd [a,b,c] 0=KQ a:=λ_ _ _=>rfl;have g0:Cu []:=⟨λq hq=>(by cases hq),λq hq=>by cases hq⟩;generalize upd (upd Je c3 (.lst BI)) c4 (.lst us4)=H14 at *;refine⟨_,rfl,T,Tx,_,rfl,sT.hp,rfl,λ_=>False,[],[HA,HA,HA,HA,HA,HA,HA,HA,HA,HA,HA,HA,HA,KQ (.d (YV (bD P7)))],[],.d (.str (bD P7).1),[],Io.hc,aH (aH (aH (aH (aH (aH (aH (aH (aH (aH (aH (aH (aH (bI Zt bN))))))))))))),by simp[YV,Dk],λvt H15 s15 _ K8=>?_⟩;cases (show Rep K (λ_=>False) H15 vt (.str (bD P7).1) from K8);refine⟨λ_=>False,[],[],[],.d (.tuple (Zm [])),[],Io.hc,bN,by simp[Zm],λvq H16 s16 _ GY=>?_⟩;have GI:Rep K (λ_=>False) H16 vq (.tuple (Zm [])):=GY;obtain⟨bq,_,rfl,_,_⟩:=(Vw.rep GI).tup;have n6:=s15.trans s16;have sT:=sT.same n6;refine⟨λ_=>False,T,Tx,aT,bT,bq,R1++R0,(bD P7).1,[],rfl,sT,Io,GI,g0,ID.txt,λvf H17 s17 E4=>?_⟩;rw[rQ λe he=>(Cw e (KB e he)).1] at E4;cases E4;refine⟨_,rfl,?_⟩;show (if (!decide (V.non=V.non))=G3 then _ else _);rw[if_neg (by decide)];have n7:=n6.trans s17;have sT:=sT.same s17;have EI:=EI.same n7;have ji:=ji.same n7;have Zi:=Rep.monoP (.same n7) Zi;have Zt:=Rep.monoP (.same n7) Zt;refine⟨λ_=>False,[],[],[],.d (YV (bD P8)),[],Io.hc,bN,by rw[←zrl];simp,λv14 H18 FM _ x6=>?_⟩;have IJ:Rep K (λ_=>False) H18 v14 (YV (bD P8)):=x6;obtain⟨b14,_,rfl,_,_⟩:=(Vw.rep IJ).tup;have sT:=sT.same FM;have EI:=EI.same FM;have ji:=ji.same FM;have Zi:=Rep.monoP (.same FM) Zi;have Zt:=Rep.monoP (.same FM) Zt;refine⟨_,rfl,sl,_,0,_,rfl,rfl,Zc.of ji.hsl,rfl,p0,x0,_,rfl,ji.s0.hp,rfl,_,rfl,λ_=>False,p0,x0,a0,b0,b14,R0,bD P8,rfl,ji.s0,Io,IJ,Lu,by lia,λH19 _ FN GJ s0'=>?_⟩;obtain⟨_,g1,_⟩:=ji.s0.h1;obtain⟨_,g2,_⟩:=ji.s0.h2;have sT:=sT.off GJ FN g1 g2 (P3 T0a) (P3 T0c) (P3 T0b) (P3 T0d);have EI:=EI.off GJ FN g1 g2 (P3 B0a) (P3 B0c) (P3 B0b) (P3 B0d);have ji:=ji.on GJ FN g1 g2 s0' (ji.s1.off GJ FN g1 g2 d1 d2 d3 d4);have Zi:=Rep.monoP FN Zi;have Zt:=Rep.monoP FN Zt;have IJ:=Rep.monoP FN IJ;clear g1 g2 GJ;refine⟨_,rfl,sl,_,1,_,rfl,rfl,Zc.of ji.hsl,rfl,p1,x1,_,rfl,ji.s1.hp,rfl,_,rfl,λ_=>False,p1,x1,a1,b1,b14,R1,bD P8,rfl,ji.s1,Io,IJ,Lu,by lia,λH20 _ Jp Ep s1'=>?_⟩;obtain⟨_,g1,_⟩:=ji.s1.h1;obtain⟨_,g2,_⟩:=ji.s1.h2;have sT:=sT.off Ep Jp g1 g2 (P3 T1a) (P3 T1c) (P3 T1b) (P3 T1d);have EI:=EI.off Ep Jp g1 g2 (P3 B1a) (P3 B1c) (P3 B1b) (P3 B1d);have Zi:=Rep.monoP Jp Zi;have Zt:=Rep.monoP Jp Zt;have IJ:=Rep.monoP Jp IJ
  have kL:bw (R0++R1++[bD P7])=cN R0 R1++[bD P7]:=by
   rw[jZ,kB,if_neg λz=>?_];rw[←kB] at z;exact(Cw _ (inE _ ((lS _ _ rfl _).mp z))).1 rfl
  have jl:∀e∈cN R0 R1++[bD P7],Y0 C e:=λe he=>(Pt.mp he).elim (j01 e) λz=>by rw[Py.mp z];exact ID
  obtain⟨y9,y10⟩:=l5 (mJ jl)
  have ljl:(cN R0 R1).length<=20:=by
   unfold cN;rw[Qb];have:=VE (λe=>decide (e∉R0)) R1
   lia
  refine⟨_,rfl,B,Bx,_,rfl,EI.hp,rfl,λ_=>False,B,Bx,aB,bB,_,rfl,EI,λc5 us5 CF ru5=>?_⟩;rw[kL] at ru5;have n8:YM [] H20 (upd H20 c5 (.lst us5)):=.new CF _
  have z1:((cN R0 R1).map YV).length+1<=sizeLine:=by rw[PY];lia
  refine⟨λ_=>False,[],[HA,HA,HA,HA,HA,HA,HA,HA,HA,HA,HA,HA,KQ (.d (.list ((cN R0 R1).map YV))),KQ (.d (YV (bD P7)))],[],.d (.list ((cN R0 R1++[bD P7]).map YV)),[],Io.hc,aH (aH (aH (aH (aH (aH (aH (aH (aH (aH (aH (aH (bI (Rep.monoP (.same n8) Zi) (bI (Rep.monoP (.same n8) Zt) bN))))))))))))),by simp at z1;simp[z1],λvd H21 zG _ rvd=>⟨λ_=>False,.list ((cN R0 R1++[bD P7]).map YV),.list ((cN R0 R1++[bD P7]).map YV),Vw.rep (.lst (.inl ⟨λz=>z,.inl (zG _ _ (by simp) aQ)⟩) (YK.monoP (.same (n8.trans zG)) ru5)),Vw.rep rvd,y9,y9,G3,by rw[y10],?_⟩⟩;show (if G3=G3 then _ else _);rw[if_pos rfl];have n9:=n8.trans zG;have sT:=sT.same n9;refine⟨_,rfl,T,Tx,_,rfl,sT.hp,rfl,λ_=>False,[],[HA,HA,HA,HA,HA,HA,HA,HA,HA,HA,HA,HA,HA,HA,KQ (.d (YV (bD P8)))],[],.d (.str (bD P8).1),[],Io.hc,aH (aH (aH (aH (aH (aH (aH (aH (aH (aH (aH (aH (aH (aH (bI (Rep.monoP (.same n9) IJ) bN)))))))))))))),by simp[YV,Dk],λvt H22 s22 _ K8=>?_⟩;cases (show Rep K (λ_=>False) H22 vt (.str (bD P8).1) from K8);refine⟨λ_=>False,[],[],[],.d (.tuple (Zm [])),[],Io.hc,bN,by simp[Zm],λvq H23 s23 _ GY=>?_⟩;have GI:Rep K (λ_=>False) H23 vq (.tuple (Zm [])):=GY;obtain⟨bq,_,rfl,_,_⟩:=(Vw.rep GI).tup;have sT:=sT.same (s22.trans s23);refine⟨λ_=>False,T,Tx,aT,bT,bq,R1++R0,(bD P8).1,[],rfl,sT,Io,GI,g0,Lu.txt,λvf H24 s24 E4=>?_⟩;rw[rQ λe he=>(Cw e (KB e he)).2] at E4;cases E4;show Dn.rt (.bl (decide (V.non=V.non))) H24;rw[decide_eq_true rfl];exact hD H24
 have Bv:∃t,Kl (ef Z7 P w K mg base lc "law" (aO (top 104)) Ka Y9 A outer s H E').nox (Yg 4 (bP (top 104))) t/\∀(es:List G.TE) (v1:V) (a2:Addr) (xs:List V) (r0 r1 rl:Addr) (o4 o5 o6 o7:Option V) (Hi:Hp) (Dn:Ends),(∀e∈es,Y0 C e)->(∀e∈es,e.1≠(bD P7).1/\e.1≠(bD P8).1)->es.length<=9->RI K (λb=>b=r0\/b=r1) ns es (.ref as) a2 xs r0 r1 rl Hi es.length es.length->(∀H',Dn.rt (.bl G3) H')->t Dn [KQ (.ref as),KQ v1,KQ (.ref a2),KQ (.ref rl),o4,o5,o6,o7,HA,HA,HA,HA,HA,HA,HA] Hi:=by
  obtain⟨t2,ht2,m2⟩:=DX
  refine⟨_,(bJ (dh (i:=8) S.nd rfl (Qm rfl) (ky (aV (rD A3 A1 (hr.mono (by lia)) rfl W.q A2 .nil cw) (aV (rD A3 A1 (hr.mono (by lia)) rfl W.q A2 .nil cw) br))))
    (bJ (iH Rc rfl (nN rfl E.b.z (aV (DE.pe (ak)) br)) (ei (i:=4) S.nd rfl (Qm rfl)) (cB (iH Rc rfl (sk (dE Y7 (pv 3) (pv 4) (λ_ _=>rfl))) (ei (i:=9) S.nd rfl (Qm rfl)) (cB (fW (fX (dE Y7 (pv 8) (pv 4) (λ_ _=>rfl)) W.cl B3 B1 (hr.mono (by lia)) B2 .nil cw (aV (pv 9) br) rfl rfl rfl))))))
    ht2)),λes v1 a2 xs r0 r1 rl o4 o5 o6 o7 Hi Dn hE Cw h9 li hD=>?_⟩
  let O:Addr->Prop:=λb=>b=r0\/b=r1
  obtain⟨R0,R1,u0,u1,w0,w1⟩:=li.ex;have hR0:R0.length<=9:=PB (w0.nd.length_le_of_subset λe he=>Qr (w0.sub e he)) h9;have hR1:R1.length<=9:=PB (w1.nd.length_le_of_subset λe he=>Qr (w1.sub e he)) h9;have IW:∀e∈R0,Y0 C e:=λe he=>hE e (Qr (w0.sub e he));have IE:∀e∈R1,Y0 C e:=λe he=>hE e (Qr (w1.sub e he));have E6:=w0.nd;have Dj:=w1.nd;refine λp0 x0 hp0 hx0 m0=>⟨p0,x0,rfl,aQ,λa0 b0 Ha ha0 hb0 vR fr0 e1 e2 e3=>⟨rfl,λp1 x1 hp1 hx1 m1=>⟨p1,x1,rfl,aQ,λa1 b1 Hb uN uV xH fr1 k1 k2 k3=>⟨rfl,by show (2:Nat)<=Ph;decide,λsl hsl=>?_⟩⟩⟩⟩;have sa:YM [] Hi Ha:=rH hp0 hx0 ha0 hb0 fr0;have sb:YM [] Ha Hb:=rH hp1 hx1 uN uV fr1;have sc:YM [] Hb (upd Hb sl (.lst [.ref p0,.ref p1])):=.new hsl _
  have d1:a1≠a0:=λz=>by have:=lq uN;rw[z,e2] at this;cases this
  have d2:a1≠b0:=λz=>by have:=lq uN;rw[z,e3] at this;cases this
  have d3:b1≠a0:=λz=>by have:=lq uV;rw[z,e2] at this;cases this
  have d4:b1≠b0:=λz=>by have:=lq uV;rw[z,e3] at this;cases this
  have Fc:=sb.trans sc;have CJ:=sa.trans Fc;have lF:ZD O Hi (λ_=>False) (upd Hb sl (.lst [.ref p0,.ref p1])):=toF.trans (.same CJ);have ji:JI K P w C CS es R0 R1 u0 u1 a2 xs r0 r1 rl sl p0 x0 a0 b0 p1 x1 a1 b1 (upd Hb sl (.lst [.ref p0,.ref p1])) [] []:=⟨sZ (Fc _ _ (by simp) e1) (Fc _ _ (by simp) e2) (Fc _ _ (by simp) e3) vR,sZ (sc _ _ (by simp) k1) (sc _ _ (by simp) k2) (sc _ _ (by simp) k3) xH,CJ _ _ (by simp) li.hrl,aQ,w0.mono (CJ _ _ (by simp) w0.h) lF λ_ h=>h,w1.mono (CJ _ _ (by simp) w1.h) lF λ_ h=>h,LstAt.monoP lF li.l2,YK.monoP lF li.r2⟩;refine⟨λ_=>False,[],[],[],.d (.int 2),[],Io.hc,bN,by simp,λv H3 s3 _ rv=>?_⟩;cases (show Rep K (λ_=>False) H3 v (.int 2) from rv);refine⟨_,rfl,by decide,by decide,qT (n:=2) (λi σ Hi=>∃o4 o9,σ=[KQ (.ref as),KQ v1,KQ (.ref a2),KQ (.ref rl),o4,o5,o6,o7,KQ (.ref sl),o9,HA,HA,HA,HA,HA]/\JI K P w C CS es R0 R1 u0 u1 a2 xs r0 r1 rl sl p0 x0 a0 b0 p1 x1 a1 b1 Hi (if i=0 then [] else R0) (if i=2 then R1 else [])) ⟨_,_,rfl,ji.same s3⟩ ?_ ?_⟩
  .rintro i σ Hi hi ⟨o4,o9,rfl,ji⟩
   rw[WM]
   rcases(show i=0\/i=1 by lia) with rfl|rfl
   .refine⟨_,rfl,_,rfl,rl,_,_,_,rfl,rfl,Zc.of ji.hrl,rfl,r0,rfl,⟨u0,Zc.of ji.q0.h⟩,oe (xs:=u0) (λm σ Hm=>∃o9,σ=[KQ (.ref as),KQ v1,KQ (.ref a2),KQ (.ref rl),KQ (.int ((0:Nat):Int)),o5,o6,o7,KQ (.ref sl),o9,HA,HA,HA,HA,HA]/\JI K P w C CS es R0 R1 u0 u1 a2 xs r0 r1 rl sl p0 x0 a0 b0 p1 x1 a1 b1 Hm (R0.take m) []) ⟨_,rfl,ji⟩ (λm σ Hm _ h=>by obtain⟨_,_,h⟩:=h;exact Zc.of h.q0.h) (λm x σ Hm hx h=>?_) λσ Hm h=>?_⟩
    .obtain⟨o9,rfl,ji⟩:=h
     obtain⟨d,hd,rx⟩:=ji.q0.rs.get hx
     obtain⟨e,he,rfl⟩:∃e,R0[m]? = KQ e/\d=YV e:=by
      rw[P5] at hd
      cases hq:R0[m]? with
      |none=>rw[hq] at hd;cases hd
      |some e=>rw[hq] at hd;cases hd;exact⟨e,rfl,rfl⟩
     obtain⟨b,_,rfl,_,_⟩:=(Vw.rep rx).tup;refine⟨_,rfl,_,rfl,sl,_,_,_,rfl,rfl,Zc.of ji.hsl,rfl,p0,x0,_,rfl,ji.s0.hp,rfl,_,rfl,λ_=>False,p0,x0,a0,b0,b,R0.take m,e,rfl,ji.s0,Io,rx,IW e (Px he),by rw[RC];lia,λH4 _ l4 Gd De=>?_⟩;obtain⟨Gv,g1,_⟩:=ji.s0.h1;obtain⟨Ji,g2,_⟩:=ji.s0.h2;refine⟨_,rfl,ji.on Gd l4 g1 g2 ?_ (ji.s1.off Gd l4 g1 g2 d1 d2 d3 d4)⟩;rw[RR,he];exact De
    .obtain⟨o9,rfl,ji⟩:=h
     have lu:u0.length=R0.length:=by rw[ji.q0.rs.length,PY]
     rw[lu,Sz] at ji;exact⟨_,_,rfl,ji⟩
   .refine⟨_,rfl,_,rfl,rl,_,_,_,rfl,rfl,Zc.of ji.hrl,rfl,r1,rfl,⟨u1,Zc.of ji.q1.h⟩,oe (xs:=u1) (λm σ Hm=>∃o9,σ=[KQ (.ref as),KQ v1,KQ (.ref a2),KQ (.ref rl),KQ (.int ((1:Nat):Int)),o5,o6,o7,KQ (.ref sl),o9,HA,HA,HA,HA,HA]/\JI K P w C CS es R0 R1 u0 u1 a2 xs r0 r1 rl sl p0 x0 a0 b0 p1 x1 a1 b1 Hm R0 (R1.take m)) ⟨_,rfl,ji⟩ (λm σ Hm _ h=>by obtain⟨_,_,h⟩:=h;exact Zc.of h.q1.h) (λm x σ Hm hx h=>?_) λσ Hm h=>?_⟩
    .obtain⟨o9,rfl,ji⟩:=h
     obtain⟨d,hd,rx⟩:=ji.q1.rs.get hx
     obtain⟨e,he,rfl⟩:∃e,R1[m]? = KQ e/\d=YV e:=by
      rw[P5] at hd
      cases hq:R1[m]? with
      |none=>rw[hq] at hd;cases hd
      |some e=>rw[hq] at hd;cases hd;exact⟨e,rfl,rfl⟩
     obtain⟨b,_,rfl,_,_⟩:=(Vw.rep rx).tup;refine⟨_,rfl,_,rfl,sl,_,_,_,rfl,rfl,Zc.of ji.hsl,rfl,p1,x1,_,rfl,ji.s1.hp,rfl,_,rfl,λ_=>False,p1,x1,a1,b1,b,R1.take m,e,rfl,ji.s1,Io,rx,IE e (Px he),by rw[RC];lia,λH4 _ l4 Gd De=>?_⟩;obtain⟨Gv,g1,_⟩:=ji.s1.h1;obtain⟨Ji,g2,_⟩:=ji.s1.h2;refine⟨_,rfl,ji.on Gd l4 g1 g2 (ji.s0.off Gd l4 g1 g2 (P3 d1) (P3 d3) (P3 d2) (P3 d4)) ?_⟩;rw[RR,he];exact De
    .obtain⟨o9,rfl,ji⟩:=h
     have lu:u1.length=R1.length:=by rw[ji.q1.rs.length,PY]
     rw[lu,Sz] at ji;exact⟨_,_,rfl,ji⟩
  .rintro σ Hj ⟨o4,o9,rfl,ji⟩
   exact m2 es R0 R1 u0 u1 v1 a2 xs r0 r1 rl sl p0 x0 a0 b0 p1 x1 a1 b1 o4 o5 o6 o7 o9 Hj Dn hE Cw E6 Dj hR0 hR1 (λe he=>Qr (w0.sub e he)) (λe he=>Qr (w1.sub e he)) d1 d2 d3 d4 ji hD
 have BF:∃t,Kl (ef Z7 P w K mg base lc "law" (aO (top 104)) Ka Y9 A outer s H E').nox (fBody ((bP (top 104)).getD 3 (.Pass ⟨0,0,0,0⟩))) t/\∀(es:List G.TE) (v1:V) (a2:Addr) (xs:List V) (r0 r1 rl:Addr) (i:Nat) (o5 o6 o7:Option V) (Hi:Hp) (Dn:Ends),i<es.length->es.Nodup->es.length<=9->r0≠r1->rl≠r0->rl≠r1->RI K (λb=>b=r0\/b=r1) ns es (.ref as) a2 xs r0 r1 rl Hi i i->(∀H' o5 o6 o7,RI K (λb=>b=r0\/b=r1) ns es (.ref as) a2 xs r0 r1 rl H' (i+1) (i+1)->Dn.nx [KQ (.ref as),KQ v1,KQ (.ref a2),KQ (.ref rl),KQ (.int (i:Int)),o5,o6,o7,HA,HA,HA,HA,HA,HA,HA] H')->t Dn [KQ (.ref as),KQ v1,KQ (.ref a2),KQ (.ref rl),KQ (.int (i:Int)),o5,o6,o7,HA,HA,HA,HA,HA,HA,HA] Hi:=by
  refine⟨_,(bJ (zay (gm (nA E) (hr.mono (by lia)) rfl (aV (pv 0) (aV (DE.pe (aF aR ak (af 4))) (aV (DE.pe (cR (ao ak (ao ak (ao ak aC))))) br)))) (zhi rfl (jh (ei (i:=5) S.nd rfl (Qm rfl)) (jh (ei (i:=6) S.nd rfl (Qm rfl)) (jh (ei (i:=7) S.nd rfl (Qm rfl)) sm)))))
  (bJ (zpa (iL (DT.pe (aE iR (af 5) ak)) (cB (fW (gn QZ UF UG zwp (dE Y7 (pv 3) et (λ_ _=>rfl)) (aV (DE.pe (aF dq (af 6) (aF aR (eJ mZ rfl E.b.z WI (ao (bc aZ (af 3) ak) aC)) ak))) (aV (DE.pe (bc aZ (af 2) (af 4))) br))))) iD))
  (cB (iL (DT.pe (aE iR (af 5) ak)) (cB (fW (gn QZ UF UG zwp (dE Y7 (pv 3) et (λ_ _=>rfl)) (aV (DE.pe (aF dq (af 7) (aF aR (eJ mZ rfl E.b.z WI (ao (bc aZ (af 3) ak) aC)) ak))) (aV (DE.pe (bc aZ (af 2) (af 4))) br))))) iD)))),λes v1 a2 xs r0 r1 rl i o5 o6 o7 Hi Dn D8 BJ h9 Jo CD BH li hD=>?_⟩
  let O:Addr->Prop:=λb=>b=r0\/b=r1
  obtain⟨e,he⟩:∃e,es[i]? = KQ e:=⟨_,Qg D8⟩;have ate:Zd (es.map YV) (i:Int)=KQ (YV e):=fq (by rw[P5,he];rfl)
  have Lv:es.take (i+1)=es.take i++[e]:=by rw[RR,he];rfl
  have E5:e∈es.take (i+1):=by rw[Lv];simp
  have up1:∀x∈es.take i,x∈es.take (i+1):=λx hx=>by rw[Lv];exact P6 _ hx
  have nme:e∉es.take i:=λz=>by
   have hn:(es.take i++[e]).Nodup:=by rw[←Lv];exact BJ.sublist (Wu _ _)
   exact(QR.mp hn).2.2 e z e (by simp) rfl
  obtain⟨cs,ed,hd⟩:=oO (ns:=ns) (zs:=[3,10,10]) (k:=40+i) (T:=[]) (by lia) (by decide) (by decide)
  have ki:((40+i:Nat):Int)=40+(i:Int):=by lia
  rw[ki] at ed;obtain⟨c0,c1,c2,rfl,h1,h2⟩:=zrj hd;refine⟨_,rfl,O,[],[HA,HA,HA,HA,KQ (.d (.int (i:Int)))],[],.d (.int (40+(i:Int))),[],li.tr.hc,aH (aH (aH (aH (bI (.int _) bN)))),by simp,λva H6 s6 _ IV=>?_⟩;cases (show Rep K O H6 va (.int (40+(i:Int))) from IV);refine⟨O,[],[],[],.d (.list (il [3,10,10])),[],(li.same s6).tr.hc,bN,by simp[il],λvz H7 s7 _ rvz=>?_⟩;have li:=li.same (s6.trans s7);refine⟨O,[],[],[.d (bR ns),.d (.int (40+(i:Int))),.d (.list (il [3,10,10]))],.list (il [c0,c1,c2]),[],li.tr.hc,.cons li.rv (.cons (.int _) (.cons rvz .nil)),rfl,ed,λA9 v9 H8 s8 hA9 hc8 own=>?_⟩;obtain⟨a9,rfl,_,us9,e9,r9⟩:∃a9,v9=.ref a9/\(∀c,A9 c↔c=a9)/\Zz K (λc=>O c\/A9 c) H8 a9 (.list (il [c0,c1,c2])):=own;cases zri r9;have li:=li.same s8;refine⟨a9,_,rfl,Zc.of e9,rfl,_,_,rfl,_,_,rfl,_,_,rfl,rfl,?_⟩;refine⟨λσ' H'=>σ'=[KQ (.ref as),KQ v1,KQ (.ref a2),KQ (.ref rl),KQ (.int (i:Int)),KQ (.int c0),KQ (.int c1),KQ (.int c2),HA,HA,HA,HA,HA,HA,HA]/\RI K O ns es (.ref as) a2 xs r0 r1 rl H' (i+1) i,?_,?_⟩
  .refine⟨O,[],[HA,HA,HA,HA,HA,KQ (.d (.int c0))],[],decide (c0≠1),[],li.tr.hc,aH (aH (aH (aH (aH (bI (.int _) bN))))),by simp,λH6 s6 _=>?_⟩
   have li:=li.same s6;obtain⟨R0,R1,u0,u1,w0,w1⟩:=li.ex
   by_cases hc:c0≠1
   .rw[if_pos (decide_eq_true hc)]
    have hR:R0.length<=es.length:=by
     have:=w0.nd.length_le_of_subset λe he=>Qr (w0.sub e he);exact this
    have lu:u0.length=R0.length:=by rw[w0.rs.length,PY]
    have m0:=Qu c1 (show ((R0.length:Int)+1)≠0 by lia);have m1:=Qe c1 (show 0<((R0.length:Int)+1) by lia);refine⟨_,rfl,rl,_,0,_,rfl,rfl,Zc.of li.hrl,rfl,.inl ⟨rfl,u0,Zc.of w0.h⟩,λ_=>False,[],[HA,HA,HA,KQ (.d (.list [.list (R0.map YV),.list (R1.map YV)])),HA,HA,KQ (.d (.int c1))],[],.d (.int (c1 % ((R0.length:Int)+1))),[],Io.hc,aH (aH (aH (bI (rA li.hrl w0 w1) (aH (aH (bI (.int _) bN)))))),by simp[show (0:Int)<(R0.length:Int)+1 by lia,ax0,ax1],λva H7 s7 _ IV=>?_⟩;cases (show Rep K (λ_=>False) H7 va (.int (c1 % ((R0.length:Int)+1))) from IV);have li:=li.same s7;refine⟨O,[],[HA,HA,KQ (.d (.list (es.map YV))),HA,KQ (.d (.int (i:Int)))],[],.d (YV e),[],li.tr.hc,aH (aH (bI (.lst li.l2 li.r2) (aH (bI (.int _) bN)))),by simp[ate],λvb H8 s8 _ vK=>?_⟩;have Eh:Rep K O H8 vb (YV e):=vK;have li:=li.same s8;have Fk:=s7.trans s8;have w0:=w0.mono (k':=i) (Fk _ _ (by simp) w0.h) (.same Fk) λ_ h=>h;have w1:=w1.mono (k':=i) (Fk _ _ (by simp) w1.h) (.same Fk) λ_ h=>h;refine⟨r0,u0,_,(c1 % ((R0.length:Int)+1)).toNat,vb,rfl,rfl,w0.h,rfl,m0,by lia,by lia,?_⟩;generalize (c1 % ((R0.length:Int)+1)).toNat=kk;have l9:ZD O H8 O (upd H8 r0 (.lst (u0.take kk++vb::u0.drop kk))):=.put (.inl (.inl rfl))
    have LC:Tr O (upd H8 r0 (.lst (u0.take kk++vb::u0.drop kk))):=λc hc=>by
     by_cases z:c=r0
     .rw[z,aQ];exact .inl ⟨_,rfl⟩
     .rw[aA z];exact li.tr c hc
    have row:Row K O (upd H8 r0 (.lst (u0.take kk++vb::u0.drop kk))) es r0 (i+1) (R0.take kk++e::R0.drop kk) (u0.take kk++vb::u0.drop kk):=by
     refine⟨aQ,?_,zW kk w0.nd λz=>nme (w0.sub e z),λx hx=>?_⟩
     .rw[So,P2,X8,X9]
      exact xh (Rep.monoP l9 Eh) kk (YK.monoP l9 w0.rs)
     .rcases yF hx with z|z
      .rw[z];exact E5
      .exact up1 x (w0.sub x z)
    refine⟨rfl,LC,by rw[aA CD];exact li.hrl,⟨_,R1,_,u1,row,w1.mono (by rw[aA (P3 Jo)];exact w1.h) l9 λ_ h=>h⟩,Rep.monoP l9 li.rv,LstAt.monoP l9 li.l2,YK.monoP l9 li.r2⟩
   .rw[if_neg (by rw[decide_eq_false hc];decide)]
    exact⟨rfl,li.tr,li.hrl,⟨R0,R1,u0,u1,w0.mono w0.h .refl up1,w1⟩,li.rv,li.l2,li.r2⟩
  clear li;rintro σ' H9 ⟨rfl,li⟩;refine⟨O,[],[HA,HA,HA,HA,HA,KQ (.d (.int c0))],[],decide (c0≠0),[],li.tr.hc,aH (aH (aH (aH (aH (bI (.int _) bN))))),by simp,λH6 s6 _=>?_⟩;have li:=li.same s6;obtain⟨R0,R1,u0,u1,w0,w1⟩:=li.ex
  by_cases hc:c0≠0
  .rw[if_pos (decide_eq_true hc)]
   have hR:R1.length<=es.length:=by
    have:=w1.nd.length_le_of_subset λe he=>Qr (w1.sub e he);exact this
   have lu:u1.length=R1.length:=by rw[w1.rs.length,PY]
   have m0:=Qu c2 (show ((R1.length:Int)+1)≠0 by lia);have m1:=Qe c2 (show 0<((R1.length:Int)+1) by lia);refine⟨_,rfl,rl,_,1,_,rfl,rfl,Zc.of li.hrl,rfl,.inl ⟨rfl,u1,Zc.of w1.h⟩,λ_=>False,[],[HA,HA,HA,KQ (.d (.list [.list (R0.map YV),.list (R1.map YV)])),HA,HA,HA,KQ (.d (.int c2))],[],.d (.int (c2 % ((R1.length:Int)+1))),[],Io.hc,aH (aH (aH (bI (rA li.hrl w0 w1) (aH (aH (aH (bI (.int _) bN))))))),by simp[show (0:Int)<(R1.length:Int)+1 by lia,ax0,ax1],λva H7 s7 _ IV=>?_⟩;cases (show Rep K (λ_=>False) H7 va (.int (c2 % ((R1.length:Int)+1))) from IV);have li:=li.same s7;refine⟨O,[],[HA,HA,KQ (.d (.list (es.map YV))),HA,KQ (.d (.int (i:Int)))],[],.d (YV e),[],li.tr.hc,aH (aH (bI (.lst li.l2 li.r2) (aH (bI (.int _) bN)))),by simp[ate],λvb H8 s8 _ vK=>?_⟩;have Eh:Rep K O H8 vb (YV e):=vK;have li:=li.same s8;have Fk:=s7.trans s8;have w0:=w0.mono (k':=(i+1)) (Fk _ _ (by simp) w0.h) (.same Fk) λ_ h=>h;have w1:=w1.mono (k':=i) (Fk _ _ (by simp) w1.h) (.same Fk) λ_ h=>h;refine⟨r1,u1,_,(c2 % ((R1.length:Int)+1)).toNat,vb,rfl,rfl,w1.h,rfl,m0,by lia,by lia,?_⟩;generalize (c2 % ((R1.length:Int)+1)).toNat=kk;have l9:ZD O H8 O (upd H8 r1 (.lst (u1.take kk++vb::u1.drop kk))):=.put (.inl (.inr rfl))
   have LC:Tr O (upd H8 r1 (.lst (u1.take kk++vb::u1.drop kk))):=λc hc=>by
    by_cases z:c=r1
    .rw[z,aQ];exact .inl ⟨_,rfl⟩
    .rw[aA z];exact li.tr c hc
   have row:Row K O (upd H8 r1 (.lst (u1.take kk++vb::u1.drop kk))) es r1 (i+1) (R1.take kk++e::R1.drop kk) (u1.take kk++vb::u1.drop kk):=by
    refine⟨aQ,?_,zW kk w1.nd λz=>nme (w1.sub e z),λx hx=>?_⟩
    .rw[So,P2,X8,X9]
     exact xh (Rep.monoP l9 Eh) kk (YK.monoP l9 w1.rs)
    .rcases yF hx with z|z
     .rw[z];exact E5
     .exact up1 x (w1.sub x z)
   exact hD _ _ _ _ ⟨LC,by rw[aA BH];exact li.hrl,⟨R0,_,u0,_,w0.mono (by rw[aA Jo];exact w0.h) l9 λ_ h=>h,row⟩,Rep.monoP l9 li.rv,LstAt.monoP l9 li.l2,YK.monoP l9 li.r2⟩
  .rw[if_neg (by rw[decide_eq_false hc];decide)]
   exact hD _ _ _ _ ⟨li.tr,li.hrl,⟨R0,R1,u0,u1,w0,w1.mono w1.h .refl up1⟩,li.rv,li.l2,li.r2⟩
 obtain⟨tb,hlb,mlb⟩:=BF;obtain⟨t1,ht1,m1⟩:=Bv
 refine⟨_,(bJ (dh (i:=1) S.nd rfl (Qm rfl) (DE.pe (dJ (zqo E) hr (af 0) ak ak)))
    (bJ (dh (i:=2) S.nd rfl (Qm rfl) (DE.pe (cP (zqw E) hr (af 0) (af 1))))
    (bJ (dh (i:=3) S.nd rfl (QU rfl) (ky (aV (ky br) (aV (ky br) br))))
    (bJ (iH Rc rfl (nN rfl E.b.z (aV (DE.pe (eJ mZ rfl E.b.z WI (ao (af 2) aC))) br)) (ei (i:=4) S.nd rfl (Qm rfl)) hlb)
    ht1)))),?_⟩
 have t0:Tr (λ_=>False) H:=Io
 have ra:Rep K (λ_=>False) H (.ref as) (bR ns):=.lst (by
  rcases hS with h|h
  .exact .inl ⟨λz=>z,h⟩
  .exact .inr (.inr h)) (zup ns)
 obtain⟨nm,en,hN,hn4⟩:=zoj (ns:=ns) (T:=[]);refine⟨λ_=>False,[],[KQ (.d (bR ns))],[],.d (.list (Zp nm)),[],t0.hc,bI ra bN,by simp[en],λv1 H1 s1 _ rv1=>?_⟩;have vW:Rep K (λ_=>False) H1 v1 (.list (Zp nm)):=rv1;obtain⟨ds,ee,hA,h9⟩:=znz (C:=C) (ns:=ns) (T:=[]) hN;obtain⟨es,rfl,hE⟩:=Ak λd hd=>(hA.1 d hd).1
 have Cw:∀e∈es,e.1≠(bD P7).1/\e.1≠(bD P8).1:=λe he=>by
  obtain⟨ws,r,S,_,h⟩:=hE e he;have:=(hA.1 _ (TR he)).2 ws e.2.1 e.2.2 (by unfold YV KW;rw[h]);rw[h];exact this
 have BJ:es.Nodup:=(List.pairwise_map.mp hA.2).imp λh z=>h (by rw[z]);rw[PY] at h9;refine⟨λ_=>False,[],[KQ (.d (bR ns)),KQ (.d (.list (Zp nm)))],[],.d (.list (es.map YV)),[],(t0.same s1).hc,bI (Rep.monoP (.same s1) ra) (bI vW bN),by simp[ee],λv2 H2 s2 _ rv2=>?_⟩;have xi:Rep K (λ_=>False) H2 v2 (.list (es.map YV)):=rv2
 cases xi with
 |@lst a2 xs _ l2 r2=>
 refine⟨Ql _,λr0 xn=>⟨Ql _,λr1 Cr=>⟨by show (2:Nat)<=Ph;decide,λrl hrl=>?_⟩⟩⟩
 let O:Addr->Prop:=λb=>b=r0\/b=r1
 have Jo:r0≠r1:=λz=>by rw[←z,aQ] at Cr;cases Cr
 have g0:upd (upd H2 r0 (.lst [])) r1 (.lst []) r0=KQ (.lst []):=by rw[aA Jo];exact aQ
 have g1:upd (upd H2 r0 (.lst [])) r1 (.lst []) r1=KQ (.lst []):=aQ
 have CD:rl≠r0:=λz=>by rw[z,show _=KQ _ from g0] at hrl;cases hrl
 have BH:rl≠r1:=λz=>by rw[z,show _=KQ _ from g1] at hrl;cases hrl
 have s3:YM [] H2 (upd (upd (upd H2 r0 (.lst [])) r1 (.lst [])) rl (.lst [.ref r0,.ref r1])):=(YM.new xn _).trans ((YM.new Cr _).trans (.new hrl _));have u4:H2 r1=HA:=zrg (.new xn _) Cr
 have xZ:ZD (λ_=>False) H2 O (upd (upd (upd H2 r0 (.lst [])) r1 (.lst [])) rl (.lst [.ref r0,.ref r1])):=λc o _ _ e=>⟨λz=>(by
  rcases z with z|z
  .rw[z,xn] at e;cases e
  .rw[z,u4] at e;cases e),s3 c o (by simp) e⟩
 have li:RI K O ns es (.ref as) a2 xs r0 r1 rl (upd (upd (upd H2 r0 (.lst [])) r1 (.lst [])) rl (.lst [.ref r0,.ref r1])) 0 0:=by
  refine⟨λc hc=>?_,aQ,⟨[],[],[],[],⟨?_,.nil,Sv,λe he=>by cases he⟩,⟨?_,.nil,Sv,λe he=>by cases he⟩⟩,Rep.monoP xZ (Rep.monoP (.same s2) (Rep.monoP (.same s1) ra)),LstAt.monoP xZ l2,YK.monoP xZ r2⟩
  .rcases hc with z|z
   .rw[z,aA (P3 CD),g0];exact .inl ⟨_,rfl⟩
   .rw[z,aA (P3 BH),g1];exact .inl ⟨_,rfl⟩
  .rw[aA (P3 CD)];exact g0
  .rw[aA (P3 BH)];exact g1
 refine⟨O,[],[HA,HA,KQ (.d (.list (es.map YV)))],[],.d (.int (es.length:Int)),[],li.tr.hc,aH (aH (bI (.lst li.l2 li.r2) bN)),by simp,λv H3 s4 _ rv=>?_⟩;cases (show Rep K O H3 v (.int (es.length:Int)) from rv);refine⟨_,rfl,by lia,by lia,qT (n:=(es.length:Int).toNat) (λi σ Hi=>∃o4 o5 o6 o7,σ=[KQ (.ref as),KQ v1,KQ (.ref a2),KQ (.ref rl),o4,o5,o6,o7,HA,HA,HA,HA,HA,HA,HA]/\RI K O ns es (.ref as) a2 xs r0 r1 rl Hi i i) ⟨HA,HA,HA,HA,rfl,li.same s4⟩ ?_ ?_⟩
 .rintro i σ Hi hi ⟨o4,o5,o6,o7,rfl,li⟩
  rw[WM];exact mlb es v1 a2 xs r0 r1 rl i o5 o6 o7 Hi _ (by lia) BJ h9 Jo CD BH li λH' o5 o6 o7 li=>⟨_,_,_,_,rfl,li⟩
 .rintro σ Hi ⟨o4,o5,o6,o7,rfl,li⟩
  have hz:(es.length:Int).toNat=es.length:=by lia
  rw[hz] at li;exact m1 es v1 a2 xs r0 r1 rl o4 o5 o6 o7 Hi _ hE Cw h9 li q
end
end TK
namespace G
open L2 D
noncomputable def all_mk{l:Vl}{w:PU}{K:Frag}{h:Heap}{mg:Str->Option O9}{fa:Addr}(X:K.In h)(G:h.Ns P1 mg)(hfa:mg "law"=KQ (.ref fa))(d:JF K top zS)(z:ZL K zZ)(i:IL K zI)(s:SL K zT){C:Addr}(qC:Qp K P1 "Words"=KQ (KQ (.ref C)))(kC:qg K C=G3)(gC:Fg K C=G3)(Fo:Jk K C "begun"=G3)(DF:Jk K C "parted"=G3)(BN:Jk K C "place"=G3)(d_Words____init__:Cb K C "__init__" "Words.__init__" (cF 48 0))(d_Words__ahead:Cb K C "ahead" "Words.ahead" (cF 48 1))(d_Words__take:Cb K C "take" "Words.take" (cF 48 2))(d_Words__begin:Cb K C "begin" "Words.begin" (cF 48 3))(d_Words__finish:Cb K C "finish" "Words.finish" (cF 48 4)){Zo:Addr}{ZF:Obj}(DH:Qp K P1 "RECIPES_WITHIN"=KQ (KQ (.ref Zo)))(IP:K.lookup Zo=KQ ZF)(DJ:p7 Zo ZF [("say",0),("fail",0),("want",1),("peek",1),("when",2)]=G3){Gj:Addr}{GE:Obj}(Ea:Qp K P1 "WITHIN"=KQ (KQ (.ref Gj)))(IG:K.lookup Gj=KQ GE)(G6:p7 Gj GE [("many",1),("part",2),("sum",2),("join",2),("same",2),("less",2)]=G3){ZO:Addr}{IM:Obj}(Ib:Qp K P1 "NOT_GIVEN"=KQ (KQ (.ref ZO)))(Dd:K.lookup ZO=KQ IM)(Hn:tR ZO IM [("want","wants"),("peek","peeks")]=G3){KC:Addr}{GA:Obj}(IC:Qp K P1 "FILLED"=KQ (KQ (.ref KC)))(IB:K.lookup KC=KQ GA)(Dz:ug GA ["put","got","row"]=G3){Iy:Addr}{Iz:Obj}(FD:Qp K P1 "GETTING"=KQ (KQ (.ref Iy)))(FB:K.lookup Iy=KQ Iz)(Gr:ug Iz ["want","peek"]=G3){CS:Addr}(qS:Qp K P1 "Shelf"=KQ (KQ (.ref CS)))(kS:qg K CS=G3)(mS:Fg K CS=G3)(n1:Jk K CS "shelved"=G3)(n2:Jk K CS "answers"=G3)
  (d0:Cb K CS "__init__" "Shelf.__init__" (cF 80 0)) (d1:Cb K CS "put" "Shelf.put" (cF 80 1)) (d2:Cb K CS "found" "Shelf.found" (cF 80 2)) (d3:Cb K CS "entries" "Shelf.entries" (cF 80 3)) :
  ∃fd:RG,(∀(s:Pe) (v:O9),Wt s fd ⟨[v],[]⟩ [("_law_script",v)])/\∀base:Heap,K.In base->base.Ns P1 mg->Zr l.prog w K mg base Z7 91 fa fd ["_law_script"] (pF K):=by
 obtain⟨f0,oc,od,an,sl,kV,dc,pm,cd,ct,a,lk,c,kp⟩:=(d.at (x:="law") (i:=104) (by decide +kernel)).ex;cases hfa.symm.trans (Q1 X G a);have W:TK.Wc K mg CS:=⟨Q1 X G qS,zwj kS,mD n1,mD n2,mS,d0,d1,d2,d3⟩;exact⟨Qf "law" "law" (df (top 104)) (bP (top 104)) (aO (top 104)) .none kV dc pm an cd ct,λs v=>.of_eq rfl,λbase _ _=>TK.zrm ⟨⟨_,X,G⟩,⟨zhx X G z i s,zwj kC,Q1 X G qC,mD Fo,mD DF,mD BN,d_Words____init__,d_Words__ahead,d_Words__take,d_Words__begin,d_Words__finish,gC,⟨_,Q1 X G DH,zvf IP DJ⟩,⟨_,Q1 X G Ea,zvf IG G6⟩,⟨_,Q1 X G Ib,zgh Dd Hn⟩,⟨_,Q1 X G IC,zvg IB Dz⟩,⟨_,Q1 X G FD,zvg FB Gr⟩⟩,d⟩ W (pd (st:=top 104) lk c kp)⟩
noncomputable def walk{l:Vl}{XP:(Str->Option O9)->Heap->Prop}{YP:PU->Heap->Prop}{d:DefRec}{K:Ym->Frag}(hn:l.most=KQ 63)(Kv:d.params.defaults=[])
  (hY:∀(w:PU) (h:Heap),YP w h->(K w.params).In h)
  (F:∀(w:PU) (mg:Str->Option O9) (fa:Addr) (h:Heap),(K w.params).In h->h.Ns P1 mg->mg d.name=KQ (.ref fa) ->
   ∃fd:RG,(∀(s:Pe) (u:O9),Wt s fd ⟨[u],[]⟩ [("_law_script",u)])/\∀base:Heap,(K w.params).In base->base.Ns P1 mg->Zr l.prog w (K w.params) mg base Z7 91 fa fd ["_law_script"] (pF (K w.params))) :
  V7 q loose XP YP l.row.toRowW d [] (λf vs=>Vb f vs):=L2.zec (n:=63) (k:=91) (x:="_law_script") (CX:=λ_=>Z7) (sp:=λw=>pF (K w.params)) hn (by decide) Kv ⟨rfl,by decide,by decide,rfl⟩ hY F (λ_ _ a ns hl _ hS=>⟨a,ns,rfl,hS,hl,λ_=>rfl⟩) λ_ _ _ _ _ z=>z
open PySem PySem.Spec PySem.Calls PySem.W PyProof.Rows PySem.W.X PySem.W.ZRun
noncomputable def walkZ{q:Pu}{loose:List Str}{XP:(Str->Option O9)->Heap->Prop}{K:Ym->Frag}{r:RowW}{d:DefRec}{kwd:List (Str×Expr)}
  {w:PU}{s₀ EO:Pe}{mg mb:Str->Option O9}{a:Addr}{o:Obj}{pm cd doc dV kV:O9}{args:List WData}{vals:List O9}{as:List Addr}
  (KX:(K w.params).In EO.heap) (GR:Ground q loose r.records XP w s₀ mg mb EO.heap) (ho:EO.heap.get? a=KQ o)
  (hd:o.data=.func { docDef d.name d.params d.body d.scope pm cd doc with defaults:=dV,kwdefaults:=kV }) (hcd:EO.heap.CodeRec cd d.name) (hD:Dflts mg EO.heap d.params kwd dV kV) (hmg:mg d.name=KQ (.ref a)) (hg:EO.gens = #[])
  (hpre:r.claim.pre args=G3) (hlay:WData.layableAll args=G3) (hrd:ReadsAllW r.records (classAt s₀.heap) EO.heap vals args as) (hwl:WellAll w.params EO.heap vals args) (hlo:∀a∈as,(a == QB)=Gy)
  (W:V7 q loose XP (λw h=>(K w.params).In h) r d kwd λf vs=>Vb f vs) :
  PK (PP r.prog w) Va (Vb (.ref a) vals) (λv s'=>GoodWG r.claim (classAt s₀.heap) (Ya s₀.heap) args EO (.ok (.ret v)) s')
    (λe s'=>GoodWG r.claim (classAt s₀.heap) (Ya s₀.heap) args EO (.error e) s') EO:=W w s₀ EO mg mb GR KX a o pm cd doc dV kV ho hd hcd hD hmg hg args vals as hpre hlay hrd hwl hlo
end G
end Internal
namespace PySem.W.Fast
def tw2324036776955801055:=Nat
def tw9259264363539012991:=Nat
def tw5783097676795634350:=Nat
def tw10228831931965200097:=Nat
def tw14012385133973813478:=Nat
def tw8455075926702798545:=Nat
def tw6693146728605252893:=Nat
def tw4988898188657148936:=Nat
def tw16769454074126074746:=Nat
def tw979459423206997860:=Nat
def tw6077638287892396496:=Nat
def tw15075760826974060845:=Nat
def tw4405702331434250352:=Nat
def tw17970679479243547236:=Nat
def tw16943459037580328411:=Nat
def tw5021951283379603740:=Nat
def tw3369548050355147561:=Nat
def tw156742461729920247:=Nat
def tw4618734044512733343:=Nat
def tw10506145309925552918:=Nat
def tw12276574467492313665:=Nat
def tw8877152307758634577:=Nat
def tw16462913350151714455:=Nat
def tw17894081250256477211:=Nat
def tw7625655543246503467:=Nat
def tw13936939039490358330:=Nat
def tw4439760871671621552:=Nat
def tw7452775336048315242:=Nat
def tw1291582037115325886:=Nat
def tw11650036646948937188:=Nat
def tw18274568352465481332:=Nat
def tw16359261469757701924:=Nat
def tw13352608425724153000:=Nat
def tw15992805851234662225:=Nat
def tw13224262290353399494:=Nat
def tw16183691669194992351:=Nat
def tw7781910631927256762:=Nat
def tw9611619844176883416:=Nat
def tw1698713583054356669:=Nat
def tw6893170183196309291:=Nat
def tw12445731852938702725:=Nat
def tw4381471832928532851:=Nat
def tw3159994879993460583:=Nat
def tw72549280744413893:=Nat
def tw3727459932167970093:=Nat
def tw17463568093534849091:=Nat
def tw1490921099014450329:=Nat
def tw3334169780832356054:=Nat
def tw9530830572526501658:=Nat
def tw7756281428278395789:=Nat
def tw11139759150939856849:=Nat
def tw4388643678821946271:=Nat
def tw3916692345106809045:=Nat
def tw3303226720857587757:=Nat
def tw7981070335040246768:=Nat
def tw11341747740003030246:=Nat
def tw3016804356185989173:=Nat
def tw4679541942438772731:=Nat
def tw16857734635425940035:=Nat
def tw8413960347891359992:=Nat
def tw15818376250968611003:=Nat
def tw6959644212522319390:=Nat
def tw10688662649926420667:=Nat
def tw10614606050565115822:=Nat
def tw8828005823869945964:=Nat
def tw13781117868529445201:=Nat
def tw4268535595615975920:=Nat
def tw6087394265590676417:=Nat
def tw7595108295111452750:=Nat
def tw16514684094267386131:=Nat
def tw13606401746304937830:=Nat
def tw2620673709136544453:=Nat
def tw16101767915077090592:=Nat
def tw3789090801343480874:=Nat
def tw850911739569276787:=Nat
def tw10686050794625575853:=Nat
def tw1964083485308196394:=Nat
def tw13135990356383787398:=Nat
def tw11964969313131771074:=Nat
def tw2776802740927255075:=Nat
def tw2391340671673007636:=Nat
def tw17567182219895370643:=Nat
def tw18418129497102004671:=Nat
def tw2312713761349166812:=Nat
def tw619814788216851732:=Nat
def tw17576617622435011532:=Nat
def tw8519760425243631260:=Nat
def tw4046522176964428341:=Nat
def tw17144287102828617003:=Nat
def tw3851905929660599704:=Nat
def tw10600409016359907266:=Nat
def tw12505019035649237134:=Nat
def tw9224711978349209046:=Nat
def tw7512813855603220543:=Nat
def tw7276658048065039318:=Nat
def tw4215712445390941703:=Nat
def tw7236452448128338750:=Nat
def tw8263928582614790159:=Nat
def tw3989352648529693753:=Nat
def tw15600385673956938316:=Nat
def tw4581158467091164951:=Nat
def tw10014493218536508371:=Nat
def tw4384897676507348526:=Nat
def tw13090731543931310597:=Nat
def tw921670711195118741:=Nat
def tw9666103382019964450:=Nat
def tw9963579129726895880:=Nat
def tw4735395151501448222:=Nat
def tw10754314063167830589:=Nat
def tw2123532129476096162:=Nat
def tw13704993304784624689:=Nat
def tw4234340719525316698:=Nat
def tw204073846103680603:=Nat
def tw7664846445580953962:=Nat
def tw12046001622048456265:=Nat
def tw4596355622701019338:=Nat
def tw1113051829011426448:=Nat
def tw16289169703141445440:=Nat
def tw3663113864273877315:=Nat
def tw7412274147526174990:=Nat
def tw12957987585064680039:=Nat
def tw14611193085372874631:=Nat
def tw14733216973674770412:=Nat
def tw12555648844226226438:=Nat
def tw12526535271428307872:=Nat
def tw10407034243194312352:=Nat
def tw10483807536773267881:=Nat
def tw13377288976743603709:=Nat
def tw10212310439577939176:=Nat
def tw10242363930841268123:=Nat
def tw2594704920831290378:=Nat
def tw15309650419224774088:=Nat
def tw5696204536284295235:=Nat
def tw11769749992266354991:=Nat
def tw18058957375203025789:=Nat
def tw1851382821904633850:=Nat
def tw11781105629555624299:=Nat
def tw9596177719172279489:=Nat
def tw823975533918022939:=Nat
def tw7826459315282826560:=Nat
def tw9319157038258523144:=Nat
def tw13196872636282872588:=Nat
def tw9360473734869128071:=Nat
def tw16997693774314149994:=Nat
def tw136616868260077669:=Nat
def tw12502522087952475410:=Nat
def tw14686819302286082587:=Nat
def tw15799475749128882395:=Nat
def tw9432038220198502301:=Nat
def tw12535517288513837910:=Nat
def tw10096888019165453143:=Nat
def tw5351225298848354903:=Nat
def tw9265361247278463213:=Nat
def tw2616098182370953460:=Nat
def tw7549794544985345089:=Nat
def tw3311624836037492772:=Nat
def tw3788313293659947776:=Nat
def tw8952896840528379801:=Nat
def tw10164848102548316747:=Nat
def tw16061138576535865135:=Nat
def tw15951650302453325776:=Nat
def tw8583101236953898467:=Nat
def tw8600089214835774368:=Nat
def tw10633249790640854783:=Nat
def tw8884185135362419014:=Nat
def tw16311728867974384902:=Nat
def tw13044208492815945634:=Nat
def tw2561819407337034140:=Nat
def tw13980065398522452854:=Nat
def tw6334407996119240581:=Nat
def tw13654612390170761548:=Nat
def tw14134994616461429132:=Nat
def tw15359825411087858170:=Nat
def tw10787816053896278249:=Nat
def tw1897045273764732134:=Nat
def tw2627659346658335399:=Nat
def tw4903641524642707509:=Nat
def tw9661389057724315309:=Nat
def tw5737090541630282326:=Nat
def tw10611235698851147060:=Nat
def tw8208689517900753280:=Nat
def tw8940341504959040619:=Nat
def tw4959059706977235993:=Nat
def tw16803402819904022860:=Nat
def tw10685901670417226781:=Nat
def tw9501328377082612789:=Nat
def tw16328992946356047372:=Nat
def tw7429340984733952862:=Nat
def tw14963616073285308585:=Nat
def tw178548177455962471:=Nat
def tw7047010555449370449:=Nat
def tw4458472295547297314:=Nat
def tw3843994423130743476:=Nat
def tw15961320680303923934:=Nat
def tw1448382688157583689:=Nat
def tw13163715577261106480:=Nat
def tw2288177431719779364:=Nat
def tw17038762727940248336:=Nat
def tw10811145597562715693:=Nat
def tw9641970972744477695:=Nat
def tw9289594722452074362:=Nat
def tw6999218382803156044:=Nat
def tw9847265434109577372:=Nat
def tw6471005143367870452:=Nat
def tw10090480781204988958:=Nat
def tw4339833899642136970:=Nat
def tw12267757141689608378:=Nat
def tw9222275938270612936:=Nat
def tw12145539735219024354:=Nat
def tw3322358808571864307:=Nat
def tw9803565363433393534:=Nat
def tw17108791253035511688:=Nat
def tw12206944036534596144:=Nat
def tw4876262000996611319:=Nat
def tw10468570077049552289:=Nat
def tw4602996726687646352:=Nat
def tw8750518773368137088:=Nat
def tw653714241163750111:=Nat
def tw9387581713036159686:=Nat
def tw14572363385990215308:=Nat
def tw11571377241873549581:=Nat
def tw10478434936816333424:=Nat
def tw16270218382236675480:=Nat
def tw9028111192921437874:=Nat
def tw4962640489761382671:=Nat
def tw4039796355137273660:=Nat
def tw1032905134672221680:=Nat
def tw15235517502226589451:=Nat
def tw92444822560932989:=Nat
def tw17619135144134926656:=Nat
def tw15805338965193257395:=Nat
def tw3161244241878173918:=Nat
def tw13053013963923192982:=Nat
def tw18419248168727901835:=Nat
def tw15113599706322353555:=Nat
def tw7175784193985990569:=Nat
def tw6773006940429643142:=Nat
def tw1829559794113050281:=Nat
def tw10521697271926609958:=Nat
def tw1793561776103853515:=Nat
def tw8248818568801133036:=Nat
def tw14499211503949476607:=Nat
def tw3080981770981289366:=Nat
def tw12742922379006558688:=Nat
def tw3588887287237293715:=Nat
def tw10876502135190484344:=Nat
def tw13594401587143475007:=Nat
def tw4803088546463193583:=Nat
def tw5986344382666177070:=Nat
def tw5291039277624830415:=Nat
def tw5870507600087572939:=Nat
def tw12130571402004224639:=Nat
def tw4546600909731262083:=Nat
def tw3363313731162705327:=Nat
def tw1071812214720145396:=Nat
def tw8310895522957754365:=Nat
def tw10347552327366069475:=Nat
def tw13936670042085706226:=Nat
def tw2192689993261657300:=Nat
def tw8073786070575040620:=Nat
def tw4258752861039529568:=Nat
def tw16728626389075919934:=Nat
def tw9256908821482379587:=Nat
def tw8707585719870612838:=Nat
def tw7370020358300164345:=Nat
def tw10779235238008000018:=Nat
def tw14507536954056511449:=Nat
def tw10042265747022588275:=Nat
def tw11885735086903433326:=Nat
def tw1278762783301673077:=Nat
def tw6531957648781194101:=Nat
def tw15383780980009327818:=Nat
def tw3004250198660268636:=Nat
def tw16047316232056282561:=Nat
def tw11063346505855412246:=Nat
def tw13229260377294290525:=Nat
def tw3843583155042248474:=Nat
def tw17588732668462410055:=Nat
def tw7138817390062735830:=Nat
def tw15281157076787801270:=Nat
def tw2683827750263456569:=Nat
def tw53352140504155771:=Nat
def tw15698654328398224851:=Nat
def tw14667498504661308236:=Nat
def tw3586544471149471294:=Nat
def tw289761137918876387:=Nat
def tw18346272402750136027:=Nat
def tw17677360380445789429:=Nat
def tw5182823577631386300:=Nat
def tw16441294816315008902:=Nat
def tw12854171970730631696:=Nat
def tw4119502306023854959:=Nat
def tw4999419141362563011:=Nat
def tw5394051677581879967:=Nat
def tw15042807806485883316:=Nat
def tw8660300076319486912:=Nat
def tw88736209296248084:=Nat
def tw2345331077141595102:=Nat
def tw14246208661445175270:=Nat
def tw932277348616933396:=Nat
def tw7500050308304354287:=Nat
def tw16276275781655150314:=Nat
def tw17186613038727707155:=Nat
def tw14549174625518945645:=Nat
def tw12887457203061701641:=Nat
def tw10102819699886252826:=Nat
def tw13869275183793233103:=Nat
def tw15849629961944315666:=Nat
def tw15073251020443664604:=Nat
def tw5049137968927560947:=Nat
def tw11720199105924678629:=Nat
def tw4417712485295238613:=Nat
def tw6543089404553187888:=Nat
def tw16523160265872560590:=Nat
def tw13293599168612645091:=Nat
def tw5247456895900576429:=Nat
def tw3516230426730868202:=Nat
def tw9646068612465879410:=Nat
def tw12796213815626186721:=Nat
def tw10075288962782839107:=Nat
def tw12966896252359354348:=Nat
def tw13614348194628433564:=Nat
def tw2772577546230380316:=Nat
def tw8626238277951617863:=Nat
def tw6490498411785134513:=Nat
def tw5796105001200803900:=Nat
def tw13390789673043700792:=Nat
def tw11157090939751895722:=Nat
def tw9131461904769770501:=Nat
def tw1381264562758684747:=Nat
def tw9151354258746790807:=Nat
def tw17914282473194386077:=Nat
def tw5543931685960226301:=Nat
def tw3697030868871438439:=Nat
def tw4566452665824310483:=Nat
def tw11094504512508395985:=Nat
def tw14868598219384789259:=Nat
def tw11724395849064348456:=Nat
def tw11699185994119577501:=Nat
def tw15857327824731182253:=Nat
def tw9344831575261528849:=Nat
def tw9914373451544361279:=Nat
def tw7263668737204476739:=Nat
def tw6895320337640662528:=Nat
def tw12822047832695551888:=Nat
def tw16846204122863865786:=Nat
def tw3453871962864956658:=Nat
def tw4323812812080990410:=Nat
def tw14049440202183956001:=Nat
def tw906409239926522506:=Nat
def tw4925130353778948790:=Nat
def tw14259281338853308882:=Nat
def tw3091690698445130233:=Nat
def tw6727531636183587044:=Nat
def tw8515698502021551537:=Nat
def tw10806875600101577414:=Nat
def tw14449010210922701997:=Nat
def tw13554725384547981867:=Nat
def tw8696664767803365298:=Nat
end PySem.W.Fast
noncomputable def PySem.W.Fast.tw12744065818048162229 : PySem.Program := PySem.Challenge.pw_redo_k62_whole_shelves_merged
theorem PySem.W.Fast.te12744065818048162229 : PySem.Challenge.pw_redo_k62_whole_shelves_merged = PySem.W.Fast.tw12744065818048162229 := rfl

open Internal
open PySem PySem.W PyProof.Rows PySem.W.X PySem.W.ZRun
set_option maxRecDepth 100000 in
set_option maxHeartbeats 0 in
theorem PySem.Challenge.cw_redo_k62_whole_shelves_merged_holds : PySem.Challenge.rw_redo_k62_whole_shelves_merged.Holds := by
 w_on; o_law; z_head; (case hw=>w_witness2)
 k_fill
 intro w s₀ s₁ mg mb GR y fa o pm cd doc dV kV ho hd hcd hD hmg hg args vals as L hpre hlay hrd hwl hlo
 z_open y L KX ZH ZN ZT
 clear ZH ZN ZT
 refine G.walkZ KX GR ho hd hcd hD hmg hg hpre hlay hrd hwl hlo ?W
 clear KX GR ho hd hcd hD hmg hg hpre hlay hrd hwl hlo L y
 refine G.walk (l:=PySem.Challenge.rw_redo_k62_whole_shelves_merged) rfl rfl (fun w h Y=>Y) ?F
 case F=>
  intro w mg fa h KX GG hmg
  refine' G.all_mk KX GG hmg ?_ ?_ ?_ ?_ ?_ ?_ ?_ ?_ ?_ ?_ ?_ ?_ ?_ ?_ ?_ ?_ ?_ ?_ ?_ ?_ ?_ ?_ ?_ ?_ ?_ ?_ ?_ ?_ ?_ ?_ ?_ ?_ ?_ ?_ ?_ ?_ ?_ ?_ ?_
  any_goals repeat' first | exact True.intro | refine' D.Fq ?_ ?_ | refine' D.FQ ?_ ?_ | refine' D.G4 ?_ ?_ | refine' D.Ga ?_ ?_
  any_goals first | (refine' D.KG ?a ?l ?c ?k; (case a=>k_is); (case l=>k_is); (case c=>k_is); (case k=>k_is)) | (refine' D.Jl ?a ?l ?c ?k ?n; (case a=>k_is); (case l=>k_is); (case c=>k_is); (case k=>k_is); (case n=>k_is)) | k_is
  all_goals first | rfl | decide +kernel
