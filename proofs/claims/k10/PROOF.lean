import PyProof.Rows.All
import Wide.All
import OpenK.AllK
import Wide.FinOn
import Lean
import PyProof.EqAt
import PyProof.EqKinds
import PyProof.TupleCall
import PySem.Challenge.RW_redo_k10_texts_that_write_no_recipe
noncomputable section
open PySem.W (Frag)
set_option Elab.async false
set_option linter.all false
set_option maxRecDepth 100000
set_option compiler.extract_closed false
set_option bootstrap.genMatcherCode false
open Option renaming some->vd,none->zc
open Bool renaming true->xV,false->zd
open PySem renaming PyData->OF,Value->OH,Shared->OJ,starEach->OM,wpAny_bind->ON,sizeLine->OO,Program->Pb,wpAny_pure->Pg,model->Pi,wpAny->Pk,World->Pp,mainGlobals->Pt,Around->Pw,compareOp->PC,backTo->PK,wpAny_loadPart_at->PM,foldedSetIterable->PN,attributeBase->P1,swapsWith->P4,keywordEach->Qb,wpAny_mono->Qe,FuncData->Qm,binaryOp->Qq,sysModules->Qv,wpAny_truthy_bool->Qw,wpAny_newObj_type->Qx,bootBuiltins->Qy,Scope->QA,wpAny_Call_Name_kw->QB,Keyword->QR,backToKw->QS,bindArgs->QZ,wpAny_holding->Q5,wpAny_field->Q7,strLen_append->Q8,wpAny_passesOwn->Re,call_meets->Rm,mem_of_lookup->Ro,wpAny_isSubtype_exc->Rt,NameKind->Rw,behindInMarks->RN,getMethod->RO,holding->RR,wpAny_comprehension_free->R6,wpAny_execs_nil->R9,assignEach->Sd,typeIs_str->Se,sizeLine_eq->Sh,sliceBounds->Sj,codeAny->So,codeAny_mono->Ss,codeAny_compStart_list->Sw,wpAny_setField->Sz,plainObj_wpAny_Assign_Attribute->SE,standAt->SO,wpAny_standAt->SQ,getItem->SR,Builtin->SU,wpAny_newFunctionEnv->SY,codeAny_call_builtin->SZ,unbindBehindTheSuite->S0,letOwnedTupleGo->S1,wpAny_loadPart'->S5,noteFrame->Td,wpAny_call->Tg,tupleKind_room_in1->Tj,intText?->To,wpAny_binaryOp_repeat_ref->Tu,notedBy->TK,wpAny_pyIter_list->TL,assign->TR,rawInt->T6,wpAny_execs_cons->T8,callWith->Ub,noFill_tuple_add->Uc,wpAny_callSpecial?_slot->Ud,concat_meets->Us,IsPart->Ut,wpAny_typeOf->Uu,typeLookup->Uv,typeIs_int->Ux,callerA->UA,call->UB,wpAny_specialOf->UJ,wpAny_ite_split->UP,wpAny_storeName_local->UR,builtinLookup_eq_fast->UW,Paired->UY,wpAny_loadPart->UZ,subscripted->U1,compEnvC->U2,lookup_relabel_local->U3,tupleKind->Vh,wpAny_Tuple_spliced->Vl,swapsWithSole->Vu,swappedStores->Vv,seq_tuple_add->Vx,Within->VP,GenState->VQ,wpAny_assign_Name->VR,wpAny_Assign_Name->VS,BindsTo->VX,wpAny_sequenceKey->VY,seqIndex_neg->VZ,slot_list_getitem->V0,valueAt->V1,relabel->V2,PassesOwn->Wa,lastMarks->Wb,pastItsLine_dict->Wc,Result->Wd,wpAny_call_entry->Wf,seqSlot_of->Wh,checkBuiltinCall->Wm,setFlight->Wo,wpAny_Try_except->Wp,CmpOp->Wu,seqIndex_of->Ww,slicePicked->Wx,excClassObj->Wy,wpAny_updateSeq->WI,typeLookup_type->WL,getAttr->WP,leaving->WQ,builtinsNs->WW,Model->WX,isTrue->WY,wpAny_Name->WZ,atKey->W2,compPost->W4,isInstance->W9,cLine->XM,bindL->XN,bindC->XQ,cellsFrom->XS,DictEntry->XT,strValues->XU,specialOf->XW,spliced->XY,setItem->XZ,setAttr->X0,Params->X4,ItemsOf->Ya
open PySem.Str renaming ofString->OG,join->Py,empty->XJ
open PySem.Heap renaming get?_push_of_some->OK,lt_size->OV,get?_update_other->Pf,get?_push_size->Pm,get?_update_self->P0,size_push->Q9,get?_none_of_le->Rg,SameBut->Rh,get?_push_at->RU,get?_some_iff->Tr,get?_update_ne->Vp
open List renaming getElem?_eq_some_iff->OL,mem_cons_of_mem->OP,replicate->OQ,getElem?_set_ne->OR,mem_cons_self->OU,getElem?_set_self->OX,mem_cons->OZ,getElem?_append_left->Pa,all_eq_true->Pd,mem_singleton->Pj,length_cons->Po,mem_append->Pq,mem_map->Pu,mem_of_getElem?->Px,length_append->Pz,map_cons->PD,mem_append_right->PJ,tail_suffix->PQ,drop_eq_nil_of_le->PR,length_drop->PU,length_map->PV,range->PY,map_congr_left->P2,size_toArray->P9,drop_eq_getElem_cons->Qc,getElem?_eq_getElem->Qh,takeWhile_prefix->Qk,singleton_append->Ql,getElem?_map->Qn,map_map->Qo,append_nil->Qu,length_nil->Qz,mem_append_left->QF,not_mem_nil->QO,flatten_cons->QU,filterMap_cons->QY,take_of_length_le->Q4,getElem?_append_right->Ra,nodup_append->Rj,replicate_succ->Rq,mem_range->Ru,length_take->Rx,lookup_cons->RA,length_eq_zero_iff->RC,reverse_cons->RT,all_cons->R4,sum_cons->R5,nil_append->Sa,suffix_iff_eq_drop->Sl,append_assoc->SD,foldl->SI,length_tail->SK,cons_append->SM,any_cons->SS,length->SW,nodup_cons->S3,drop_zero->Ts,mem_of_find?_eq_some->Tw,lookup->TF,getElem_mem->Uh,getElem?_set_self'->Ui,prefix_iff_eq_take->Up,of_mem_zip->UI,map_append->UM,length_set->UQ,length_replicate->US,dropLast_eq_take->UX,mem_of_mem_tail->Vb,mem_of_mem_drop->Vf,mem_of_mem_take->Vg,getElem_of_mem->Vn,length_reverse->Vq,map_eq_nil_iff->Vs,length_pos_iff->Vt,mem_filterMap->VD,mem_replicate->VH,find?_eq_none->VM,any_eq_false->VT,take_add_one->V3,any_eq_true->Wl,drop_suffix->Wq,mem_flatten->Wr,suffix_refl->Ws,mem_filter->WA,foldl_cons->WE,find?_cons->WJ,find?_some->WM,nodup_nil->W8,all_map->X6,map_nil->X9,map_id->Yj
open Nat renaming le_trans->OS,lt_of_lt_of_le->OY,le_refl->Pc,ne_of_lt->Pl,lt_irrefl->PH,not_lt_zero->P8,zero_le->Ri,ne_of_gt->RE,lt_of_le_of_lt->RK,le_of_lt->RY,lt_succ_of_lt->Sv,toDigits->SC,lt_succ_self->Ua,lt_trans->Uy,mul_le_mul->U4,le_succ->Wv,log2_lt->Wz,le_add_left->WN,le_of_eq->X1,sub_self->Yb
open Option renaming map_eq_some_iff->OT,isSome_iff_exists->Rl,map->Rn,getD_none->Ue,map_some->UL,isSome_some->VG
open Bool renaming and_eq_true->OW,false_ne_true->Ph,eq_iff_iff->Qt,false_eq_true->Sf,or_false->SV,or_eq_true->S7,false_and->W3,and_false->W6,true_and->XC
open PySem.W renaming findIn->Pe,fnOf->PF,nsIn->PL,kia_one->PX,mg_of->P3,keepIn->P5,looks_findIn->Qa,kitOne->Qr,hasDictIn->QK,emptyDict->QL,instObj->QV,mroIn->Q6,InstAt->Rv,codeIn->Ry,isFn->RF,callWith_K->RH,ownIn->RQ,plainGet->RZ,clsIn->R8,readsIn->Sb,lookIn->Sn,specialIn->Sq,methodCall_KW->SG,takesIn->S2,findCls->S6,plainGet_of->S8,plainOver->Tz,kitx_list->TH,kitx_dict->TJ,subIn->TY,handedIn->T9,cellsFrom_some->Ur,takerIn->UG,makesIn->UH,OpenLaw->UK,findObj->UN,isClsIn->UO,typeIn->U0,nsOkIn->U7,handedOut_of->U8,findObj_own->Vk,WalkO->Vz,kitx_tuple->VE,kt_text_in->VI,looks_find->VL,bind_fn->WC,kitMeta->WH,kitCls->Xa
open PySem.Value renaming ref->Pr,none->QJ,type->Rk,str->Tc,notImplemented->U5,bool->VC,int->V9,float->Wt,isStrOf->Xn,isInt->Yc,bytes->Yd
open PySem.Txt renaming slice->Pv,startswith->QT,split->Rf,slice_le->Tb,mul->TM,count->Vi
open PySem.NumText renaming digitsVal->PP,AllDigits->TQ
open False renaming elim->PZ
open PySem.Builtin.Str renaming strSliceIndices->P6,occurrences->QG,partsBetween->TX,strKind->Vo,glued->V5,subAt->V6
open PyProof.Rows renaming slot_tuple_getitem->P7,envOfC->Qf,boot_tuple->QE,boot_str->Q0,callWith_type1->Q1,boot_isinstance->RM,boot_list->SJ,AllBare->SN,cps_toList_append->TN,kindOf->Uq,subscriptTail_builtinR->Uw,signs_ofString->Va,cnt_cons->Vc,boot_int->Vd,boot_bool->Vj,entry_tuple_getitem->Vm,tupleItemsOf_->Vy,args_tuple_getitem->VF,callWith_builtin1->We,IntsAre->WR,Subscript_->W1,boot_min->Xb,IsTup->XH
open PyProof.Rows.KTD renaming datLooks->Qd,tabLook->Qi,rowsLook->R0,datumAt->TV,inKeys->Um,isSome_datumAt->V8,opened_int->WS,eachL_miss->WT,item_textA->WU,eachL_hit->W7,in_text->XD,EachL->X7,plain->X8,Dat->Yg
open PySem.Builtin.List renaming listTooLong->Qg,listExtendWith->Q3,listLengthHint->Ta,listSameRef->TZ,listItems->UE,listUpdate->XX
open PySem.PyData renaming int->Qj,str->QC,tuple->SA,list->U6,none->U9,eqv->Yo
open Or renaming inr->Qp,inl->QM
open Array renaming getElem?_eq_some_iff->Qs,length_toList->Rp
open Int renaming cast_ofNat_Int->QD,natCast_add->QX,eq_ofNat_of_zero_le->RD,le_ediv_iff_mul_le->Sx,mul_ediv_self_le->Ve,emod_lt_of_pos->VN,le_trans->V7,emod_nonneg->WO,le_of_eq->X5,le_refl->Yi
open PySem.Paired renaming length->QH,snoc->Ye
open PySem.NameKind renaming free->QI
open Sum renaming inr->QN,inl->VO
open Ne renaming symm->QP
open PySem.Builtin.Tuple renaming tupleExact->QQ,tupleItemsOf->Th,tupleTooMany->Tn
open True renaming intro->QW
open PySem.F renaming plainAttrs_str->Q2,plainAttrs_list->RB,slot_str_split->RJ,excAttr_ValueError->RV,args_tuple_add_2->R3,args_str_split_2->R7,entry_tuple_add->Si,entry_str_split->Sk,slot_tuple_add->Su,slot_tuple_mul->Sy,slot_dict_get->SH,slot_int_rmul->S4,slot_str_startswith->S9,excBase_ValueError->Tq,args_dict_get_2->Ug,slot_tuple_rmul->Uj,slot_list_index->Uo,entry_dict_get->Uz,slot_str_count->UF,slot_str_join->UU,type_str_join->UV,args_int_rmul_2->V4,slot_int_index->Wi,entry_int_rmul->Wj,fills_int_mul->WG
open PySem.Obj renaming isFreed_of_fields->Rb,data_mapFields->Sg,mapSeq->Ti,mapFields->T7
open Option.some renaming inj->Rc
open PySem.Calls renaming spliced_cons->RG,callWith_builtin->RI,spliced_nil->Sr,evalArgs_plain->SX,Constant_str->Te,Name_function_global->Tf
open ForInStep renaming yield->RL
open Decidable renaming byContradiction->R1
open PySem.Builtin.Slice renaming slicePlaces->Tt,slicePartIndex->WD,sliceApplied->W0,sliceAdjust->Xm
open PySem.Builtin.ObjectAttr renaming bindTo->Tv
open PySem.AutoSeq1 renaming sub_tuple_tuple->TU,sub_tuple_list->Uk,sub_list_tuple->Ul,sub_list_list->UD,idx_int->Wk
open PySem.SeqAt renaming shaped->UC,EqAt->Ym
open PySem.StrLaws renaming glued_eq_join->UT
open PySem.EntryCells renaming newEntry->Vr
open PySem.SeqAt.EqAt renaming int_str->VA,str_int->VB,str_str->XF
open PySem.Code renaming quiet_builtin->VJ,isGuard->X2,isFrame->X3
open PySem.Heap.Ns1 renaming of_empty->VU
open PySem.Around renaming under->VW
open PyProof.Rows.IsTup renaming new->Wg
open PySem.PassesOwn renaming never->WF
open PySem.AutoListH renaming joined_fits->WV
open PySem.Walks renaming dictKeys->W5,list->Yn
open PySem.EqNone renaming eq_none_none->Xc,eq_none_bool->Xd,eq_bool_none->Xe,ne_none_none->Xh,ne_none_bool->Xi,ne_bool_none->Xj,eq_none_int->Xo,eq_none_str->Xp,eq_int_none->Xr,eq_str_none->Xt,ne_none_int->Xv,ne_none_str->Xw,ne_int_none->Xx,ne_str_none->Xz
open PySem.EqMixed renaming eq_bool_str->Xf,eq_str_bool->Xg,ne_bool_str->Xk,ne_str_bool->Xl,eq_int_str->Xs,eq_str_int->Xu,ne_int_str->Xy,ne_str_int->XA
open PySem.ExcName renaming means->XG
open PySem.Builtin.Range renaming rangeSize->XI
open PySem.Data renaming seq->Yf
open Sum.inr renaming inj->Yh
open PySem.W.Looks renaming here->Yk
open PySem.Heap.IsSliceOf renaming new->Yl
open Char renaming toNat->Yp,ofNat->Yq
open PySem.Within renaming cons->Yr
open List.Pairwise renaming nil->Ys
open PySem.Heap.SameBut renaming refl->Yt
open PySem PySem.Spec PyProof.Rows
theorem Au10(h:True:=by rfl):True:=h
def u10:=Au10._auto_1
theorem Au11(h:True:=by decide):True:=h
def u11:=Au11._auto_1
theorem Au12(h:True:=by exact aW rfl):True:=h
def u12:=Au12._auto_1
theorem Au13(h:True:=by exact bD rfl):True:=h
def u13:=Au13._auto_1
theorem Au14(h:True:=by decide +kernel):True:=h
def u14:=Au14._auto_1
theorem Au15(h:True:=by first|exact .inl rfl|exact .inr rfl|assumption):True:=h
def u15:=Au15._auto_1
theorem Au16(h:True:=by intro _;rfl):True:=h
def u16:=Au16._auto_1
theorem Au17(h:True:=by exact rfl):True:=h
def u17:=Au17._auto_1
theorem Au18(h:True:=by first|exact QM rfl|exact Qp rfl):True:=h
def u18:=Au18._auto_1
theorem Au19(h:True:=by intro _ _ _ _ _ _;first|(show ∀us:List OH,us.length=0->_;exact D.Je rfl)|(show ∀us:List OH,us.length=1->_;exact D.Fm λ_=>rfl)|(show ∀us:List OH,us.length=2->_;exact D.Dw λ_ _=>rfl)|(show ∀us:List OH,us.length=3->_;exact D.Be λ_ _ _=>rfl)|(show ∀us:List OH,us.length=4->_;exact D.Jq λ_ _ _ _=>rfl)|(show ∀us:List OH,us.length=5->_;exact D.Jt λ_ _ _ _ _=>rfl)|(show ∀us:List OH,us.length=6->_;exact D.G7 λ_ _ _ _ _ _=>rfl)):True:=h
def u19:=Au19._auto_1
theorem Au20(h:True:=by exact il rfl):True:=h
def u20:=Au20._auto_1
theorem Au21(h:True:=by first|exact QM rfl|exact Qp (QM rfl)|exact Qp (Qp rfl)):True:=h
def u21:=Au21._auto_1
theorem Au22(h:True:=by with_unfolding_all rfl):True:=h
def u22:=Au22._auto_1
theorem Au23(h:True:=by omega):True:=h
def u23:=Au23._auto_1
theorem Au24(h:True:=by first|exact sM _|with_unfolding_all rfl):True:=h
def u24:=Au24._auto_1
theorem Au25(h:True:=by exact λ_ _=>rfl):True:=h
def u25:=Au25._auto_1
theorem Au26(h:True:=by exact WF):True:=h
def u26:=Au26._auto_1
namespace Internal
namespace L2
abbrev Key:=Sum Int Str
def iT:Key->OH->Bool
 |.inl k,v=>Yc k v
 |.inr x,v=>Xn x v
def Lv(w:Pp):Key->Int
 |.inl k=>hashInt k
 |.inr x=>hashStr w x
noncomputable def fJ:∀{k:Key}{v:OH},iT k v=xV->(∃i t,k=VO i/\v=V9 i t)\/(∃x t,k=QN x/\v=Tc x t)
 |.inl i,v,h=>by
  obtain⟨t,e⟩:=Value.isInt_shape   h;exact .inl ⟨i,t,rfl,e⟩
 |.inr x,v,h=>by
  obtain⟨t,e⟩:=Value.isStrOf_shape   h;exact .inr ⟨x,t,rfl,e⟩
def zaa(i:Int)(t:Tok):iT (.inl i) (.int i t)=xV:=by simp[iT,Yc]
def zab(x:Str)(t:Tok):iT (.inr x) (.str x t)=xV:=by simp[iT,Xn]
def zac(a b:Int):decide ((VO a:Key)=VO b)=(a == b) :=by grind
def zad(a b:Str):decide ((QN a:Key)=QN b)=decide (a=b) :=by simp
theorem zae(a:Int)(b:Str):decide ((VO a:Key)=QN b)=zd :=rfl
theorem zaf(a:Str)(b:Int):decide ((QN a:Key)=VO b)=zd :=rfl
noncomputable def cD(prog:Pb)(w:Pp):PySem.KeyKind prog w Key where
 is:=iT
 hash:=Lv w
 inj:=λv a b ha hb=>by
  rcases fJ ha with⟨i,t,rfl,rfl⟩|⟨x,t,rfl,rfl⟩
  .rcases fJ hb with⟨j,u,rfl,e⟩|⟨y,u,rfl,e⟩
   .injection e with e1 _;rw[e1]
   .exact nomatch e
  .rcases fJ hb with⟨j,u,rfl,e⟩|⟨y,u,rfl,e⟩
   .exact nomatch e
   .injection e with e1 _;rw[e1]
 byValue:=λk v h=>by
  rcases fJ h with⟨i,t,rfl,rfl⟩|⟨x,t,rfl,rfl⟩ <;> rfl
 pyHash:=λhv h=>by
  rcases fJ hv with⟨i,t,rfl,rfl⟩|⟨x,t,rfl,rfl⟩
  .exact wpAny_pyHash_int h
  .exact wpAny_pyHash_str h
 eqBool:=λhu hv h=>by
  rcases fJ hu with⟨i,t,rfl,rfl⟩|⟨x,t,rfl,rfl⟩
  .rcases fJ hv with⟨j,u,rfl,rfl⟩|⟨y,u,rfl,rfl⟩
   .rw[zac] at h;exact wpAny_eqBool_int h
   .rw[zae] at h;exact VA i t y u _ _ _ _ h
  .rcases fJ hv with⟨j,u,rfl,rfl⟩|⟨y,u,rfl,rfl⟩
   .rw[zaf] at h;exact VB x t j u _ _ _ _ h
   .rw[zad] at h;exact wpAny_eqBool_str h
 «strs»:=λk x t v h=>by
  rcases fJ h with⟨i,u,rfl,e⟩|⟨y,u,rfl,e⟩
  .exact nomatch e
  .injection e with e1 _
   subst e1
   cases v <;> rfl
def zag(prog:Pb)(w:Pp)(i:Int)(t:Tok):(cD prog w).is (.inl i) (.int i t)=xV:=zaa i t
def zah(prog:Pb)(w:Pp)(x:Str)(t:Tok):(cD prog w).is (.inr x) (.str x t)=xV:=zab x t
inductive V where
 |non|bl (b:Bool)|int (i:Int)|str (x:Str)|byt (b:Array UInt8)|flt (b:UInt64)|ref (a:Addr)|ty (n:String)
 deriving DecidableEq
def RelV:V->OH->Prop
 |.non,u=>u=QJ
 |.bl b,u=>u=VC b
 |.int i,u=>∃t,u=V9 i t
 |.str x,u=>∃t,u=Tc x t
 |.byt b,u=>∃t,u=Yd b t
 |.flt b,u=>∃t,u=Wt b t
 |.ref a,u=>u=Pr a
 |.ty n,u=>u=Rk n
abbrev Yx:List V->List OH->Prop:=UY RelV
theorem Yx.length(r:Yx xs us):xs.length=us.length:=QH r
theorem Yx.get:∀{xs:List V}{us:List OH}{i:Nat}{x:V},Yx xs us->xs[i]? = vd x->∃u,us[i]? = vd u/\RelV x u
 |_,_,_,_,.nil,e=>by simp at e
 |_,_,0,_,.cons r _,e=>by simp_all
 |_,_,i+1,x,.cons _ t,e=>by
  obtain⟨u,h1,h2⟩:=Yx.get   t (by simpa using e);exact⟨u,by simpa using h1,h2⟩
theorem Yx.set(r:RelV x u):∀{xs:List V}{us:List OH} (i:Nat),Yx xs us->Yx (xs.set i x) (us.set i u)
 |_,_,_,.nil=>.nil
 |_,_,0,.cons _ t=>.cons r t
 |_,_,i+1,.cons q t=>.cons q (Yx.set r i t)
theorem Yx.append:∀{xs ys:List V}{us ws:List OH},Yx xs us->Yx ys ws->Yx (xs++ys) (us++ws)
 |_,_,_,_,.nil,s=>s
 |_,_,_,_,.cons r t,s=>.cons r (Yx.append t s)
theorem Yx.take:∀{xs:List V}{us:List OH} (n:Nat),Yx xs us->Yx (xs.take n) (us.take n)
 |_,_,0,_=>.nil
 |_,_,_+1,.nil=>.nil
 |_,_,n+1,.cons r t=>.cons r (Yx.take n t)
theorem Yx.drop:∀{xs:List V}{us:List OH} (n:Nat),Yx xs us->Yx (xs.drop n) (us.drop n)
 |_,_,0,r=>r
 |_,_,_+1,.nil=>.nil
 |_,_,n+1,.cons _ t=>Yx.drop n t
def Zi:Option V->Option OH->Prop
 |some v,vd u=>RelV v u
 |none,zc=>True
 |_,_=>False
def KV{κ:Type}:List (κ×V)->List (κ×OH)->Prop:=UY λ(p:κ×V) (q:κ×OH)=>p.1=q.1/\RelV p.2 q.2
def kV:Key->V
 |.inl i=>.int i
 |.inr x=>.str x
inductive HO where
  |lst (xs:List V)
  |tup (xs:List V)
  |dK (kvs:List (Key×V))|dT (kvs:List (List Key×V))
  |set (S:Int->Bool) (n:Nat)
  |ins (C dx:Addr) (fs:List (Str×V))
  |own (x:Addr)
  |xd (fs:List (Str×V))
  |met (f x:Addr)
  |rng (lo hi:Int)
  |frz (o:Obj) (u:HO)
  |tbl (ps:Array OH)
  |ext (φ:Heap->Prop)
abbrev Hp:=Addr->Option HO
def upd(H:Hp)(a:Addr)(o:HO):Hp:=λb=>if b=a then vd o else H b
def bg:upd H a o a=vd o:=by unfold upd<;>simp_all
def aJ(h:b≠a):upd H a o b=H b:=by unfold upd;rw[if_neg h]
def zai{H:Hp}{a b:Addr}{o u:HO}(h:H a=vd o)(h':H b=vd u)(d:o≠u):a≠b:=by intro e<;>simp_all
def bx{H:Hp}{a b:Addr}{o:HO}(h:H a=vd o)(h':H b=zc):a≠b :=by grind
section
variable (P:Pb)(w:Pp)
def YM(H:Hp)(h:Heap)(a:Addr):HO->Prop
 |.lst xs=>xs.length<=OO/\∃(Yu:List OH) (n:Nat),Yx xs Yu/\h.get? a=vd { cls:=.type "list",data:=.seq Yu.toArray n }
 |.tup xs=>xs.length<=OO/\∃Yu:List OH,Yx xs Yu/\XH h a Yu.toArray
 |.dK kvs=>kvs.length<=OO/\(a == Qv)=zd/\∃vs,KV kvs vs/\h.DictOf (cD P w) a vs
 |.dT kvs=>kvs.length<=OO/\(a == Qv)=zd/\∃xs:List (List Key×Addr×OH),
   UY (λ(p:List Key×V) (q:List Key×Addr×OH)=>p.1=q.1/\H q.2.1=vd (.tup (p.1.map kV))/\RelV p.2 q.2.2) kvs xs /\
   ∃o es ep,h.get? a=vd o/\o.ExactDict/\o.data=.dict es ep/\es.toList=xs.map (entryOfKey (Vh (cD P w)))/\(xs.map (·.1)).Nodup
 |.set S n=>h.SetOf (intKind P w) a S n
 |.ins C dx fs=>H dx=vd (.own a)/\fs.length<=1000/\dx≠a/\h.get? a=vd (QV C dx) /\
   ∃mA,h.Ns1 dx mA/\(∀f,Zi (fs.lookup f) (mA f))/\VP mA (fs.map (·.1))
 |.own _=>∃o,h.get? a=vd o
 |.xd fs=>∃mA,h.Ns1 a mA/\∀f,Zi (fs.lookup f) (mA f)
 |.rng lo hi=>∃t u v,h.get? a=vd { cls:=.type "range",data:=.fields #[.int lo t,.int hi u,.int 1 v] }
 |.frz o u=>h.get? a=vd o/\YM H h a u
 |.tbl ps=>h.get? a=vd { cls:=.none,data:=.fields ps }
 |.met f x=>h.get? a=vd (PySem.W.methodObj (.ref f) (.ref x))
 |.ext φ=>φ h/\(∃o,h.get? a=vd o)/\∀h1 h2:Heap,φ h1->(∀o,h1.get? a=vd o->h2.get? a=vd o)->φ h2
def Zh(H:Hp)(h:Heap):Prop:=∀a o,H a=vd o->YM P w H h a o
end
section
variable {P:Pb}{w:Pp}{H H':Hp}{h h':Heap}{a:Addr}{o:HO}
theorem YM.lt(x:YM P w H h a o):a<h.objs.size:=by
 cases o with
 |lst xs=>obtain⟨_,_,_,_,e⟩:=x;exact OV e
 |tup xs=>obtain⟨_,_,_,p⟩:=x;exact p.lt
 |dK kvs=>obtain⟨_,_,_,_,o,_,_,e,_⟩:=x;exact OV e
 |dT kvs=>obtain⟨_,_,_,_,o,_,_,e,_⟩:=x;exact OV e
 |set S n=>obtain⟨o,_,_,_,e,_⟩:=x;exact OV e
 |ins C dx fs=>obtain⟨_,_,_,e,_⟩:=x;exact OV e
 |own y=>obtain⟨_,e⟩:=x;exact OV e
 |xd fs=>obtain⟨_,⟨_,_,_,e,_⟩,_⟩:=x;exact OV e
 |rng lo hi=>obtain⟨_,_,_,e⟩:=x;exact OV e
 |frz ob u=>obtain⟨e,_⟩:=x;exact OV e
 |tbl ps=>exact OV (x)
 |met f y=>exact OV (x)
 |ext φ=>obtain⟨_,⟨_,e⟩,_⟩:=x;exact OV e
theorem Paired.mapP{α β:Type}{F G:α->β->Prop}:∀{Hn:List α}{F6:List β},UY F Hn F6->(∀a b,F a b->G a b)->UY G Hn F6
 |_,_,.nil,_=>.nil
 |_,_,.cons r t,f=>.cons (f _ _ r) (Paired.mapP t f)
def YM.stay(x:YM P w H h a o)(k:∀b u,(b=a\/H b=vd (.own a))->h.get? b=vd u->h'.get? b=vd u)
  (ho:∀b,H b=vd (.own a)->H' b=vd (.own a)) (ht:∀b xs,H b=vd (.tup xs)->H' b=vd (.tup xs)):YM P w H' h' a o:=by
 induction o with
 |lst xs=>obtain⟨z,Yu,n,r,e⟩:=x;exact⟨z,Yu,n,r,k _ _ (.inl rfl) e⟩
 |tup xs=>obtain⟨z,Yu,r,ob,e,c⟩:=x;exact⟨z,Yu,r,ob,k _ _ (.inl rfl) e,c⟩
 |dK kvs=>obtain⟨z,y,vs,r,ob,es,ep,e,c⟩:=x;exact⟨z,y,vs,r,ob,es,ep,k _ _ (.inl rfl) e,c⟩
 |dT kvs=>
  obtain⟨z,y,xs,r,ob,es,ep,e,c⟩:=x;exact⟨z,y,xs,Paired.mapP r λp q z=>⟨z.1,ht _ _ z.2.1,z.2.2⟩,ob,es,ep,k _ _ (.inl rfl) e,c⟩
 |set S n=>obtain⟨ob,es,ep,t,e,c⟩:=x;exact⟨ob,es,ep,t,k _ _ (.inl rfl) e,c⟩
 |ins C dx fs=>
  obtain⟨d,z,ne,e,mA,⟨od,es,ep,e2,c⟩,r⟩:=x;exact⟨ho _ d,z,ne,k _ _ (.inl rfl) e,mA,⟨od,es,ep,k _ _ (.inr d) e2,c⟩,r⟩
 |own y=>obtain⟨ob,e⟩:=x;exact⟨ob,k _ _ (.inl rfl) e⟩
 |xd fs=>obtain⟨mA,⟨od,es,ep,e,c⟩,r⟩:=x;exact⟨mA,⟨od,es,ep,k _ _ (.inl rfl) e,c⟩,r⟩
 |rng lo hi=>obtain⟨t,u,v,e⟩:=x;exact⟨t,u,v,k _ _ (.inl rfl) e⟩
 |frz ob u ih=>obtain⟨e,q⟩:=x;exact⟨k _ _ (.inl rfl) e,ih q⟩
 |tbl ps=>
  have e:=x;exact k a _ (.inl rfl) e
 |met f y=>
  have e:=x;exact k a _ (.inl rfl) e
 |ext φ=>obtain⟨p,⟨o,e⟩,st⟩:=x;exact⟨st _ _ p λo q=>k _ _ (.inl rfl) q,⟨o,k _ _ (.inl rfl) e⟩,st⟩
theorem Zh.lt(x:Zh P w H h)(e:H a=vd o):a<h.objs.size:=(x a o e).lt
def Zh.fresh(x:Zh P w H h)(e:h.objs.size<=a):H a=zc:=by
 cases q:H a with
 |none=>rfl
 |some u=>exact absurd (OY (x.lt q) e) (PH _)
def Zh.kept(x:Zh P w H h)(k:∀b u,h.get? b=vd u->h'.get? b=vd u):Zh P w H h':=λa o e=>
 (x a o e).stay (λb u _ q=>k b u q) (λ_ q=>q) λ_ _ q=>q
def Zh.laid(x:Zh P w H h)(k:∀b u,h.get? b=vd u->h'.get? b=vd u)(hp:h.objs.size<=a)(new:YM P w (upd H a o) h' a o):Zh P w (upd H a o) h':=λb u e=>by
 have hn:=x.fresh hp
 by_cases hb:b=a
 .subst hb;rw[bg] at e<;>simp_all
 .rw[aJ hb] at e
  exact(x b u e).stay (λc v _ q=>k c v q) (λc q=>by rw[aJ (bx q hn)];exact q) λc xs q=>by rw[aJ (bx q hn)];exact q
end
def Rd(H:Hp)(a:Addr)(u:HO):Prop:=H a=vd u\/∃o,H a=vd (.frz o u)
def Rd.ok(r:Rd H a u)(x:Zh P w H h):YM P w H h a u:=by
 rcases r with r|⟨o,r⟩
 .exact x a u r
 .obtain⟨_,q⟩:=x a _ r
  exact q
def Kt:Option HO->Prop
 |some (.lst _)=>True
 |some (.dK _)=>True
 |some (.dT _)=>True
 |some (.set _ _)=>True
 |some (.ins _ _ _)=>True
 |some (.ext _)=>True
 |_=>False
section
variable {P:Pb}{w:Pp}{H:Hp}{h h':Heap}{x e:Addr}{o':HO}
def Zh.write(ok:Zh P w H h)(mu:Kt (H x))(he:e=x\/H e=vd (.own x))(k:∀b u,b≠e->h.get? b=vd u->h'.get? b=vd u)(JJ:∃u,h'.get? e=vd u)
  (new:YM P w (upd H x o') h' x o'):Zh P w (upd H x o') h':=λb u q=>by
 have Hj:∀c y,H c=vd (.own y)->c≠x:=λc y r z=>by subst z;rw[r] at mu;exact mu
 have DC:∀c xs,H c=vd (.tup xs)->c≠x:=λc xs r z=>by subst z;rw[r] at mu;exact mu
 by_cases hb:b=x
 .subst hb;rw[bg] at q;cases q;exact new
 .rw[aJ hb] at q
  by_cases hbe:b=e
  .have q':H b=vd (.own x):=by simp_all
   rw[q] at q';cases q';obtain⟨v,hv⟩:=JJ;exact⟨v,by simp_all⟩
  .refine(ok b u q).stay (λc v hc r=>k c v ?_ r) (λc r=>by rw[aJ (Hj c b r)];exact r) λc xs r=>by rw[aJ (DC c xs r)];exact r
   rcases hc with rfl|hc<;>grind
end
structure Un(fs ex:List Addr)(H H':Hp)(h h':Heap):Prop where
 keep:∀b o,h.get? b=vd o->H b=zc->b∉fs->b∉ex->h'.get? b=vd o
 slot:∀b o,h.get? b=vd o->H b=zc->b∈fs->b∉ex->∃sl,h'.get? b=vd { o with slots:=sl }
 free:∀b o,h.get? b=vd o->H b=zc->b∉ex->H' b=zc
 there:∀b o,h.get? b=vd o->b∉ex->∃o',h'.get? b=vd o'
 tups:∀b xs,H b=vd (.tup xs)->H' b=vd (.tup xs)
 frzs:∀b o u,H b=vd (.frz o u)->H' b=vd (.frz o u)
 tbls:∀b ps,H b=vd (.tbl ps)->∃more,H' b=vd (.tbl (ps++more))
section
variable {fs Fb ex ex':List Addr}{H H1 H2:Hp}{h h1 h2 h':Heap}{a x e:Addr}{o:HO}
def Un.any(u:Un fs ex H H1 h h1)(q:h.get? b=vd ob)(n:H b=zc)(hx:b∉ex):∃sl,h1.get? b=vd { ob with slots:=sl }:=by
 by_cases hb:b∈fs
 .exact u.slot b ob q n hb hx
 .exact⟨ob.slots,u.keep b ob q n hb hx⟩
def Un.kept(k:∀b u,h.get? b=vd u->h'.get? b=vd u):Un fs ex H H h h':=⟨λb ob q _ _ _=>k b ob q,λb ob q _ _ _=>⟨ob.slots,k b ob q⟩,λ_ _ _ n _=>n,λb ob q _=>⟨ob,k b ob q⟩,λ_ _ q=>q,λ_ _ _ q=>q,λ_ ps q=>⟨#[],by simp_all⟩⟩
def Un.refl:Un fs ex H H h h:=Un.kept λ_ _ q=>q
def Un.laid(k:∀b u,h.get? b=vd u->h'.get? b=vd u)(hp:h.objs.size<=a)(hn:H a=zc):Un fs ex H (upd H a o) h h' where
 keep:=λb u q _ _ _=>k b u q
 slot:=λb u q _ _ _=>⟨u.slots,k b u q⟩
 free:=λb u q n _=>by rw[aJ (Pl (OY (OV q) hp))];exact n
 there:=λb u q _=>⟨u,k b u q⟩
 tups:=λb xs q=>by rw[aJ (bx q hn)];exact q
 frzs:=λb u xs q=>by rw[aJ (bx q hn)];exact q
 tbls:=λb ps q=>⟨#[],by rw[aJ (bx q hn),q];simp⟩
def Un.write(mu:Kt (H x))(he:e=x\/H e=vd (.own x))(k:∀b u,b≠e->h.get? b=vd u->h'.get? b=vd u)(JJ:∃u,h'.get? e=vd u):Un fs ex H (upd H x o) h h':=by
 have hx:∀b,H b=zc->b≠x:=λb n z=>by subst z;rw[n] at mu;exact mu
 have hb:∀b,H b=zc->b≠e:=λb n z=>by simp_all
 have hm:∀b u,H b=vd u->¬Kt (vd u)->b≠x:=λb u q nm z=>by simp_all
 refine⟨λb u q n _ _=>k b u (hb b n) q,λb u q n _ _=>⟨u.slots,k b u (hb b n) q⟩,λb u q n _=>by rw[aJ (hx b n)];exact n,λb u q _=>?_,
  λb xs q=>by rw[aJ (hm b _ q λz=>z)];exact q,λb u xs q=>by rw[aJ (hm b _ q λz=>z)];exact q,λb ps q=>⟨#[],by rw[aJ (hm b _ q λz=>z),q];simp⟩⟩
 by_cases hbe:b=e<;>simp_all
end
def trk(h:Heap)(H:Hp):List Addr:=(PY h.objs.size).filter λa=>(H a).isSome
def ij(h:Heap)(H:Hp):Heap:=PySem.W.hideAll h (trk h H)
def zaj(h:Heap)(H:Hp):(ij h H).objs.size=h.objs.size:=PySem.W.hideAll_size _ _
noncomputable def zak(e:h.get? b=vd o)(n:H b=zc):(ij h H).get? b=vd o:=
 PySem.W.hideAll_get _ e λhm=>by
  have q:=(WA.mp hm).2<;>simp_all
noncomputable def zal(e:(ij h H).get? b=vd o):h.get? b=vd o/\H b=zc:=by
 have e':=PySem.W.of_hideAll _ e;refine⟨e',?_⟩
 cases q:H b with
 |none=>rfl
 |some x=>
  have hm:b∈trk h H:=WA.mpr ⟨Ru.mpr (OV e'),by simp[q]⟩
  have z:(ij h H).get? b=zc:=PySem.W.hideAll_none _ hm<;>simp_all
noncomputable def Hc(g h:Heap)(L:Addr):List (Addr×Obj):=(PY h.objs.size).filterMap λa=>if a=L\/(g.get? a).isSome=xV then zc else (h.get? a).map λo=>(a,o)
def rest(g h:Heap)(L d:Addr):List (Addr×Obj):=(Hc g h L).filter λp=>decide (p.1≠d)
structure Mod(K:Frag)(mg:Str->Option OH)(base:Heap):Prop where
 kin:K.In base
 glob:base.Ns Pt mg
 blt:∃mb,base.Ns WW mb/\∀x:Str,x≠"__name__"->mb x=Qy x
 nolimit:base.NoLimit
structure Cx where
 prog:Pb
 w:Pp
 K:Frag
 mg:Str->Option OH
 base:Heap
 A:Pw
 N:List Str
 s₀:OJ
 H₀:Hp
 env:Env
 outer:List Env
 stack:List Env
 ex:List Addr
 fn:Str->Bool
 calm:Bool
 pn:List (Addr×Obj)
 xe:OH->OJ->Prop
def frs(l:List Env):List Addr:=l.filterMap (·.frame)
abbrev Cx.fs(X:Cx):List Addr:=frs X.outer
def Ee(sc:QA)(x:Str):Prop:=sc.names.lookup x=vd .local\/sc.names.lookup x=vd .cell\/sc.names.lookup x=vd .free
def Loc(sc:QA)(x:Str):Prop:=sc.names.lookup x=vd .local\/sc.names.lookup x=vd .cell
def Look(env:Env)(h:Heap)(m:Str->Option OH)(x:Str)(u:OH):Prop:=(env.kindOf x=vd .local/\m x=vd u)\/((env.kindOf x=vd .cell\/env.kindOf x=vd .free)/\∃c,env.cells.lookup x=vd c/\h.IsCell c (vd u))
structure Cx.Ok(X:Cx):Prop where
 mod:Mod X.K X.mg X.base
 kind:X.env.scope.kind=.function
 glob:X.env.globals=Pt
 blt:X.env.builtins=WW
 above:X.s₀.heap.objs.size<=X.env.locals
 inj:∀x y c,X.env.cells.lookup x=vd c->X.env.cells.lookup y=vd c->x=y
 has:∀x,(X.env.kindOf x=vd .cell\/X.env.kindOf x=vd .free)->∃c,X.env.cells.lookup x=vd c
 cab:∀x c,X.fn x=xV->X.env.cells.lookup x=vd c->X.s₀.heap.objs.size<=c
 hd:X.calm=xV->X.A.handled=zc
 frames:X.A.frames=vd X.stack
 stk:X.stack=X.outer\/(X.stack=X.env::X.outer/\X.env.frame=vd X.env.locals)
 exf:∀b∈X.ex,b≠X.env.locals/\∀x c,X.env.cells.lookup x=vd c->c≠b
 bs:∀b o,X.base.get? b=vd o->X.s₀.heap.get? b=vd o/\X.H₀ b=zc
 bsz:X.base.objs.size<=X.s₀.heap.objs.size
 noex:∀b o,X.base.get? b=vd o->b∉X.ex
 exfs:∀b∈X.ex,b∉X.fs
 funs:X.s₀.heap.FunFrames X.base X.outer
 frf:∀b∈X.fs,X.H₀ b=zc
structure Inv(X:Cx)(pins:List (Addr×Obj))(σ:List (Option V))(H:Hp)(s:OJ):Prop where
 ok:X.Ok
 os:s.os=X.s₀.os
 bare:SN s.gens
 base:Un X.fs X.ex X.H₀ H X.s₀.heap s.heap
 loc:∃m,s.heap.Ns X.env.locals m/\∀(i:Nat) (x:Str) (v:V),X.N[i]? = vd x->σ[i]? = vd (vd v)->Ee X.env.scope x->∃u,RelV v u/\Look X.env s.heap m x u
 cell:∀x c,X.env.cells.lookup x=vd c->∃v,s.heap.IsCell c v
 free:H X.env.locals=zc
 freeC:∀x c,X.env.cells.lookup x=vd c->H c=zc
 pin:∀p∈X.pn++pins,s.heap.get? p.1=vd p.2/\H p.1=zc/\p.1≠X.env.locals/\p.1∉X.fs/\∀v,p.2.data≠.cell v
 hok:Zh X.prog X.w H s.heap
 len:σ.length=X.N.length
section
variable {X:Cx}{pins:List (Addr×Obj)}{σ:List (Option V)}{H H':Hp}{s:OJ}{h':Heap}
def Cx.Ok.nofr(ok:X.Ok)(e:X.base.get? b=vd o):b∉X.fs:=λhb=>by
 have:=(ok.funs.mem hb).1<;>simp_all
theorem Inv.bs(I:Inv X pins σ H s):∀b o,X.base.get? b=vd o->s.heap.get? b=vd o/\H b=zc:=λb o e=>
 ⟨I.base.keep b o (I.ok.bs b o e).1 (I.ok.bs b o e).2 (I.ok.nofr e) (I.ok.noex b o e),I.base.free b o (I.ok.bs b o e).1 (I.ok.bs b o e).2 (I.ok.noex b o e)⟩
def Inv.bk(I:Inv X pins σ H s):∀b o,X.base.get? b=vd o->s.heap.get? b=vd o:=λb o e=>(I.bs b o e).1
theorem Inv.mod(I:Inv X pins σ H s):Mod X.K X.mg X.base:=I.ok.mod
def Inv.kIn(I:Inv X pins σ H s):X.K.In s.heap:=I.ok.mod.kin.keeps I.bk
theorem Inv.lt(I:Inv X pins σ H s):X.env.locals<s.heap.objs.size:=let ⟨_,hn,_⟩:=I.loc;hn.lt
def Inv.sz(I:Inv X pins σ H s):X.s₀.heap.objs.size<=s.heap.objs.size:=OS I.ok.above (RY I.lt)
def Inv.nofs(I:Inv X pins σ H s)(h:s.heap.objs.size<=a):a∉X.fs:=λhb=>by
 obtain⟨_,o,ho,_⟩:=I.ok.funs.mem hb;exact absurd (OY (OV ho) (OS I.sz h)) (PH _)
def Inv.cne(I:Inv X pins σ H s):∀x c,X.env.cells.lookup x=vd c->c≠X.env.locals:=λx c e z=>by
 obtain⟨v,o,ho,hd⟩:=I.cell x c e
 obtain⟨m,⟨o',es,ep,Cs,Ef,_⟩,_⟩:=I.loc<;>simp_all
theorem Inv.funs(I:Inv X pins σ H s):s.heap.FunFrames X.base X.outer:=by
 have all:∀(l:List Env),(∀b∈frs l,b∈X.fs)->X.s₀.heap.FunFrames X.base l->s.heap.FunFrames X.base l:=by
  intro l
  induction l with
  |nil=>intro _ _;trivial
  |cons env r ih=>
   intro hs hl;obtain⟨hk,⟨L,o,hf,hn,ho,hd⟩,hr⟩:=hl;have hL:=hs L (by unfold frs<;>simp_all);obtain⟨sl,e⟩:=I.base.slot L o ho (I.ok.frf L hL) hL λz=>I.ok.exfs L z hL;exact⟨hk,⟨L,_,hf,hn,e,hd⟩,ih (λb hb=>hs b (by unfold frs;rw[QY,hf];exact OP _ hb)) hr⟩
 exact all _ (λ_ hb=>hb) I.ok.funs
theorem Inv.stack(I:Inv X pins σ H s):s.heap.FunFrames X.base X.stack:=by
 rcases I.ok.stk with e|⟨e,hf⟩
 .rw[e];exact I.funs
 .rw[e]
  obtain⟨m,hn,_⟩:=I.loc;refine .cons (by rw[I.ok.kind];decide) hf hn ?_ I.funs;exact Rg (OS I.ok.bsz I.ok.above)
def Inv.stkSub(I:Inv X pins σ H s):∀b∈frs X.stack,b∈X.env.locals::X.fs:=λb hb=>by
 rcases I.ok.stk with e|⟨e,hf⟩
 simp_all
 .rw[e] at hb
  unfold frs at hb;rw[QY,hf] at hb;exact hb
def Inv.stkFree(I:Inv X pins σ H s):∀b∈frs X.stack,H b=zc:=λb hb=>by
 rcases OZ.mp (I.stkSub b hb) with e|hb
 .rw[e];exact I.free
 .obtain⟨_,o,ho,_⟩:=I.ok.funs.mem hb
  exact I.base.free b o ho (I.ok.frf b hb) λz=>I.ok.exfs b z hb
def Inv.step{g':Array VQ}{t':Nat}{d':Drawn}{ch:List Addr}(I:Inv X pins σ H s)
  (Gd:∀b∈ch,(b∈X.ex\/X.s₀.heap.objs.size<=b)/\b≠X.env.locals/\(∀x c,X.env.cells.lookup x=vd c->c≠b)/\∀p∈X.pn++pins,p.1≠b)
  (keep:∀b o,b≠X.env.locals->b∉X.fs->b∉ch->s.heap.get? b=vd o->H b=zc->h'.get? b=vd o)
  (slot:∀b o,b≠X.env.locals->b∈X.fs->b∉ch->s.heap.get? b=vd o->H b=zc->∃sl,h'.get? b=vd { o with slots:=sl }) (free:∀b o,b∉ch->s.heap.get? b=vd o->H b=zc->H' b=zc)
  (there:∀b o,b∉ch->s.heap.get? b=vd o->∃o',h'.get? b=vd o')
  (tups:∀b xs,H b=vd (.tup xs)->H' b=vd (.tup xs)) (frzs:∀b o u,H b=vd (.frz o u)->H' b=vd (.frz o u)) (tbls:∀b ps,H b=vd (.tbl ps)->∃more,H' b=vd (.tbl (ps++more)))
  (ns:∀m,s.heap.Ns X.env.locals m->h'.Ns X.env.locals m) (hok:Zh X.prog X.w H' h') (hg:SN g') :
  Inv X pins σ H' { s with heap:=h',gens:=g',drawn:=d',toks:=t' }:=by
 have B6:∀b o,X.s₀.heap.get? b=vd o->b≠X.env.locals:=λb o e=>Pl (OY (OV e) I.ok.above)
 have CK:∀b o,X.s₀.heap.get? b=vd o->b∉X.ex->b∉ch:=λb o e hx hb=>by
  rcases(Gd b hb).1 with z|z
  .exact hx z
  .exact absurd (OY (OV e) z) (PH _)
 have cellK:∀x c,X.env.cells.lookup x=vd c->∀v,s.heap.IsCell c v->h'.IsCell c v:=λx c e v ⟨o,ho,hd⟩=>by
  have G6:c∉ch:=λz=>(Gd c z).2.2.1 x c e rfl
  by_cases hc:c∈X.fs
  .obtain⟨sl,q⟩:=slot c o (I.cne x c e) hc G6 ho (I.freeC x c e)
   exact⟨_,q,hd⟩
  .exact⟨o,keep c o (I.cne x c e) hc G6 ho (I.freeC x c e),hd⟩
 refine⟨I.ok,I.os,hg,⟨λb o e n hb hx=>?_,λb o e n hb hx=>?_,λb o e n hx=>?_,λb o e hx=>?_,λb xs e=>tups b xs (I.base.tups b xs e),λb o xs e=>frzs b o xs (I.base.frzs b o xs e),λb ps e=>?_⟩,?_,λx c e=>?_,?_,λx c e=>?_,λp hp=>?_,hok,I.len⟩
 .exact keep b o (B6 b o e) hb (CK b o e hx) (I.base.keep b o e n hb hx) (I.base.free b o e n hx)
 .obtain⟨sl,e1⟩:=I.base.slot b o e n hb hx
  obtain⟨GX,e2⟩:=slot b _ (B6 b o e) hb (CK b o e hx) e1 (I.base.free b o e n hx);exact⟨GX,e2⟩
 .obtain⟨o',e1⟩:=I.base.there b o e hx
  exact free b o' (CK b o e hx) e1 (I.base.free b o e n hx)
 .obtain⟨o',e1⟩:=I.base.there b o e hx
  exact there b o' (CK b o e hx) e1
 .obtain⟨m1,e1⟩:=I.base.tbls b ps e
  obtain⟨m2,e2⟩:=tbls b _ e1;exact⟨m1++m2,by rw[e2,Array.append_assoc]⟩
 .obtain⟨m,hn,hl⟩:=I.loc
  refine⟨m,ns m hn,λi x v e1 e2 e3=>?_⟩;obtain⟨u,r,l⟩:=hl i x v e1 e2 e3;refine⟨u,r,?_⟩
  rcases l with l|⟨k,c,e,z⟩
  .exact .inl l
  .exact .inr ⟨k,c,e,cellK x c e _ z⟩
 .obtain⟨v,z⟩:=I.cell x c e
  exact⟨v,cellK x c e v z⟩
 .obtain⟨m,⟨o,_,_,ho,_⟩,_⟩:=I.loc
  exact free _ o (λz=>(Gd _ z).2.1 rfl) ho I.free
 .obtain⟨v,o,ho,hd⟩:=I.cell x c e
  exact free c o (λz=>(Gd c z).2.2.1 x c e rfl) ho (I.freeC x c e)
 .obtain⟨e,n,ne,nf,d⟩:=I.pin p hp
  have G6:p.1∉ch:=λz=>(Gd p.1 z).2.2.2 p hp rfl;exact⟨keep p.1 p.2 ne nf G6 e n,free p.1 p.2 G6 e n,ne,nf,d⟩
def Inv.un(I:Inv X pins σ H s)(u:Un X.fs [] H H' s.heap h')(hok:Zh X.prog X.w H' h'):Inv X pins σ H' { s with heap:=h',toks:=t' }:=by
 obtain⟨m,⟨o,es,ep,ho,r⟩,_⟩:=id I.loc;obtain⟨sl,hL⟩:=u.any ho I.free (by simp)
 exact I.step   (ch:=[]) (λ_ z=>nomatch z) (λb o _ hb _ e n=>u.keep b o e n hb (by simp)) (λb o _ hb _ e n=>u.slot b o e n hb (by simp)) (λb o _ e n=>u.free b o e n (by simp)) (λb o _ e=>u.there b o e (by simp)) u.tups u.frzs u.tbls (λm' hm=>by
  obtain⟨o',FK,Ex,Cs,r'⟩:=hm;rw[ho] at Cs;cases Cs
  exact⟨_,FK,Ex,hL,r'⟩) hok I.bare
def Inv.call(I:Inv X pins σ H s)(u:Un (frs X.stack) ch H H' s.heap h')(hok:Zh X.prog X.w H' h')(hg:SN g')
  (Gd:∀b∈ch,(b∈X.ex\/X.s₀.heap.objs.size<=b)/\b≠X.env.locals/\(∀x c,X.env.cells.lookup x=vd c->c≠b)/\∀p∈X.pn++pins,p.1≠b) :
  Inv X pins σ H' { s with heap:=h',gens:=g',drawn:=d',toks:=t' }:=by
 obtain⟨m,⟨o,es,ep,ho,r⟩,_⟩:=id I.loc;obtain⟨sl,hL⟩:=u.any ho I.free λz=>(Gd _ z).2.1 rfl
 exact I.step  Gd (λb o hL hb hc e n=>u.keep b o e n (λz=>(OZ.mp (I.stkSub b z)).elim hL hb) hc) (λb o _ _ hc e n=>u.any e n hc) (λb o hc e n=>u.free b o e n hc) (λb o hc e=>u.there b o e hc) u.tups u.frzs u.tbls (λm' hm=>by
  obtain⟨o',FK,Ex,Cs,r'⟩:=hm;rw[ho] at Cs;cases Cs
  exact⟨_,FK,Ex,hL,r'⟩) hok hg
def Inv.turned(I:Inv X pins σ H s)(k:∀b o,b≠it->s.heap.get? b=vd o->h'.get? b=vd o)(hn:H it=zc)(hL:it≠X.env.locals)
  (h1:it∈X.ex\/X.s₀.heap.objs.size<=it) (h2:∀x c,X.env.cells.lookup x=vd c->c≠it) (h3:∀p∈X.pn++pins,p.1≠it):Inv X pins σ H { s with heap:=h',toks:=t' }:=by
 have nit:∀b u,H b=vd u->b≠it:=λb u e z=>by simp_all
 refine I.step   (ch:=[it]) (λb hb=>?_) (λb o _ _ hc e _=>k b o (λz=>hc (by simp[z])) e) (λb o _ _ hc e _=>⟨o.slots,k b o (λz=>hc (by simp[z])) e⟩) (λ_ _ _ _ n=>n)
  (λb o hc e=>⟨o,k b o (λz=>hc (by simp[z])) e⟩) (λ_ _ e=>e) (λ_ _ _ e=>e) (λb ps e=>⟨#[],by simp_all⟩) (λm hm=>?_) (λb u e=>?_) I.bare
 .have e:=by simpa using hb
  subst e;exact⟨h1,hL,h2,h3⟩
 .obtain⟨o,es,ep,ho,r⟩:=hm
  exact⟨o,es,ep,k _ o (QP hL) ho,r⟩
 .refine(I.hok b u e).stay (λc v hc q=>k c v ?_ q) (λ_ q=>q) λ_ _ q=>q
  rcases hc with z|z
  .rw[z];exact nit b u e
  .exact nit c _ z
def Inv.tok(I:Inv X pins σ H s)(t:Nat):Inv X pins σ H { s with toks:=t }:=I.un   Un.refl I.hok
theorem Inv.kept(I:Inv X pins σ H s)(k:∀b u,s.heap.get? b=vd u->h'.get? b=vd u):Inv X pins σ H { s with heap:=h',toks:=t' }:=I.un (Un.kept k) (I.hok.kept k)
theorem Inv.laid(I:Inv X pins σ H s)(k:∀b u,s.heap.get? b=vd u->h'.get? b=vd u)(hp:s.heap.objs.size<=a)(new:YM X.prog X.w (upd H a o) h' a o) :
  Inv X pins σ (upd H a o) { s with heap:=h',toks:=t' }:=I.un (Un.laid k hp (I.hok.fresh hp)) (I.hok.laid k hp new)
theorem Inv.write(I:Inv X pins σ H s)(mu:Kt (H x))(he:e=x\/H e=vd (.own x))(k:∀b u,b≠e->s.heap.get? b=vd u->h'.get? b=vd u)(JJ:∃u,h'.get? e=vd u)
  (new:YM X.prog X.w (upd H x o) h' x o):Inv X pins σ (upd H x o) { s with heap:=h',toks:=t' }:=I.un (Un.write mu he k JJ) (I.hok.write mu he k JJ new)
def Inv.pins_of(I:Inv X pins σ H s)(h:∀p∈ZD,s.heap.get? p.1=vd p.2/\H p.1=zc/\p.1≠X.env.locals/\p.1∉X.fs/\∀v,p.2.data≠.cell v):Inv X ZD σ H s:=⟨I.ok,I.os,I.bare,I.base,I.loc,I.cell,I.free,I.freeC,λp hp=>(Pq.mp hp).elim (λz=>I.pin p (QF _ z)) (h p),I.hok,I.len⟩
noncomputable def qY{N:List Str}(hN:N.Nodup){i j:Nat}{x:Str}(a:N[i]? = vd x)(b:N[j]? = vd x):i=j:=by
 obtain⟨h1,e1⟩:=OL.mp a;obtain⟨h2,e2⟩:=OL.mp b;exact(List.getElem_inj hN).mp (e1.trans e2.symm)
noncomputable def zev(I:Inv X pins σ H s)(hN:X.N.Nodup)(hi:X.N[i]? = vd x)(hx:Loc X.env.scope x)(r:RelV v u)
  (h:∀s',Inv X pins (σ.set i (vd v)) H s'->(∃a,Rh a s.heap s'.heap/\(a=X.env.locals\/X.env.cells.lookup x=vd a))->Q () s') (hf:autoParam (X.fn x=xV\/X.env.scope.names.lookup x=vd .local) u15):Pk M A (storeName X.env x u) Q E s:=by
 obtain⟨m,hn,hl⟩:=id I.loc
 have KU:(X.env.scope.kind == .class||(X.env.scope.kind == .module&&X.env.locals != X.env.globals))=zd:=by rw[I.ok.kind];rfl
 have KL:i<σ.length:=by rw[I.len];exact(OL.mp hi).1
 have cne:=I.cne
 have tracked:∀{a:Addr}{h':Heap},(∃o,s.heap.get? a=vd o/\H a=zc)->Rh a s.heap h'->Zh X.prog X.w H h':=λ{a h'} ha hs b ob e=>by
  obtain⟨_,_,hfree⟩:=ha;refine(I.hok b ob e).stay (λc w' hc q=>(hs.2 c ?_).trans q) (λ_ q=>q) λ_ _ q=>q;rintro rfl
  rcases hc with rfl|hc
  .simp_all
  .simp_all
 rcases hx with hk|hk
 .refine UR hk hn (λh' IZ hs=>?_) KU
  obtain⟨oL,_,_,hoL,_⟩:=id hn;refine h _ ⟨I.ok,I.os,I.bare,⟨λb o e n hb hx=>?_,λb o e n hb hx=>?_,I.base.free,λb o e hx=>?_,I.base.tups,I.base.frzs,I.base.tbls⟩,⟨_,IZ,λj y v' e1 e2 e3=>?_⟩,λy c e=>?_,I.free,I.freeC,λp hp=>?_,tracked ⟨oL,hoL,I.free⟩ hs,by simpa using I.len⟩ ⟨_,hs,.inl rfl⟩
  .exact(hs.2 b (Pl (OY (OV e) I.ok.above))).trans (I.base.keep b o e n hb hx)
  .obtain⟨sl,e1⟩:=I.base.slot b o e n hb hx
   exact⟨sl,(hs.2 b (Pl (OY (OV e) I.ok.above))).trans e1⟩
  .obtain⟨o',e1⟩:=I.base.there b o e hx
   exact⟨o',(hs.2 b (Pl (OY (OV e) I.ok.above))).trans e1⟩
  .by_cases hj:j=i
   .subst hj
    rw[hi] at e1;cases e1;rw[OX KL] at e2;cases e2;exact⟨u,r,.inl ⟨hk,by simp⟩⟩
   .rw[OR (QP hj)] at e2
    obtain⟨u',r',q⟩:=hl j y v' e1 e2 e3;refine⟨u',r',?_⟩
    rcases q with⟨k,e⟩|⟨k,c,e,z⟩
    .refine .inl ⟨k,?_⟩
     have:y≠x:=λe=>hj (qY hN e1 (e ▸ hi));simp[this,e]
    .exact .inr ⟨k,c,e,z.sameBut hs (cne y c e)⟩
  .obtain⟨w',z⟩:=I.cell y c e
   exact⟨w',z.sameBut hs (cne y c e)⟩
  .obtain⟨e,n,ne,nf,d⟩:=I.pin p hp
   exact⟨(hs.2 p.1 ne).trans e,n,ne,nf,d⟩
 .have Bm:X.fn x=xV:=by
   rcases hf with z|z
   .exact z
   .rw[z] at hk;cases hk
  obtain⟨c,hc⟩:=I.ok.has x (.inl hk);obtain⟨w',z⟩:=I.cell x c hc;refine wpAny_storeName_cell I.ok.kind hk hc z (λh' Il hs=>?_);obtain⟨oc,hoc,HF⟩:=id z;refine h { s with heap:=h' } ⟨I.ok,I.os,I.bare,⟨λb o e n hb hx=>?_,λb o e n hb hx=>?_,I.base.free,λb o e hx=>?_,I.base.tups,I.base.frzs,I.base.tbls⟩,⟨m,hn.sameBut hs (QP (cne x c hc)),λj y v' e1 e2 e3=>?_⟩,λy c' e=>?_,I.free,I.freeC,λp hp=>?_,tracked ⟨oc,hoc,I.freeC x c hc⟩ hs,by simpa using I.len⟩ ⟨c,hs,.inr hc⟩
  .exact(hs.2 b (Pl (OY (OV e) (I.ok.cab x c Bm hc)))).trans (I.base.keep b o e n hb hx)
  .obtain⟨sl,e1⟩:=I.base.slot b o e n hb hx
   exact⟨sl,(hs.2 b (Pl (OY (OV e) (I.ok.cab x c Bm hc)))).trans e1⟩
  .obtain⟨o',e1⟩:=I.base.there b o e hx
   exact⟨o',(hs.2 b (Pl (OY (OV e) (I.ok.cab x c Bm hc)))).trans e1⟩
  .by_cases hj:j=i
   .subst hj
    rw[hi] at e1;cases e1;rw[OX KL] at e2;cases e2;exact⟨u,r,.inr ⟨.inl hk,c,hc,Il⟩⟩
   .rw[OR (QP hj)] at e2
    obtain⟨u',r',q⟩:=hl j y v' e1 e2 e3;refine⟨u',r',?_⟩
    rcases q with q|⟨k,c',e,z'⟩
    .exact .inl q
    .refine .inr ⟨k,c',e,z'.sameBut hs ?_⟩
     rintro rfl;exact hj (qY hN e1 (I.ok.inj _ _ _ e hc ▸ hi))
  .by_cases hcc:c'=c
   .subst hcc;exact⟨_,Il⟩
   .obtain⟨w2,z2⟩:=I.cell y c' e
    exact⟨w2,z2.sameBut hs hcc⟩
  .obtain⟨e,n,ne,nf,d⟩:=I.pin p hp
   refine⟨(hs.2 p.1 ?_).trans e,n,ne,nf,d⟩;intro q;rw[q,hoc] at e;have q':oc=p.2:=Rc e;exact d w' (by rw[←q'];exact HF)
noncomputable def qU(I:Inv X pins σ H s)(hN:X.N.Nodup)(hi:X.N[i]? = vd x)(hx:Loc X.env.scope x)(r:RelV v u)
  (h:∀s',Inv X pins (σ.set i (vd v)) H s'->Q () s') (hf:autoParam (X.fn x=xV\/X.env.scope.names.lookup x=vd .local) u15):Pk M A (storeName X.env x u) Q E s:=zev I hN hi hx r (λs' I' _=>h s' I') hf
def Inv.call'(I:Inv X pins σ H s)(ho:s'.os=s.os)(u:Un (frs X.stack) ch H H' s.heap s'.heap)(hok:Zh X.prog X.w H' s'.heap)(hg:SN s'.gens)
  (Gd:∀b∈ch,(b∈X.ex\/X.s₀.heap.objs.size<=b)/\b≠X.env.locals/\(∀x c,X.env.cells.lookup x=vd c->c≠b)/\∀p∈X.pn++pins,p.1≠b):Inv X pins σ H' s':=by
 obtain⟨h',g',d',t',o'⟩:=s';have e:=ho;subst e;exact I.call    u hok hg Gd
end
abbrev XK:=OH->Option Addr->Hp->Prop
abbrev St:=List (Option V)
abbrev VK:=V->Hp->Prop
abbrev TE:=St->Hp->VK->Prop
abbrev TT:=St->Hp->(Bool->Hp->Prop)->Prop
abbrev TA:=St->Hp->(List V->Hp->Prop)->Prop
structure Ends where
 nx:St->Hp->Prop
 rt:VK
 bk:St->Hp->Prop:=λ_ _=>False
 ct:St->Hp->Prop:=λ_ _=>False
abbrev TS:=Ends->St->Hp->Prop
inductive EP(X:Cx)(pins:List (Addr×Obj))(σ:St)(Q:VK)(u:OH)(s':OJ):Prop where
 |mk (v:V) (H':Hp) (i:Inv X pins σ H' s') (r:RelV v u) (q:Q v H')
inductive TP(X:Cx)(pins:List (Addr×Obj))(σ:St)(Q:Bool->Hp->Prop)(b:Bool)(s':OJ):Prop where
 |mk (H':Hp) (i:Inv X pins σ H' s') (q:Q b H')
inductive AP(X:Cx)(pins:List (Addr×Obj))(σ:St)(Q:List V->Hp->Prop)(us:List OH)(s':OJ):Prop where
 |mk (vs:List V) (H':Hp) (i:Inv X pins σ H' s') (r:Yx vs us) (q:Q vs H')
inductive NP(X:Cx)(pins:List (Addr×Obj))(Q:St->Hp->Prop)(s':OJ):Prop where
 |mk (σ':St) (H':Hp) (i:Inv X pins σ' H' s') (q:Q σ' H')
inductive RP(X:Cx)(pins:List (Addr×Obj))(Q:VK)(u:OH)(s':OJ):Prop where
 |mk (v:V) (σ':St) (H':Hp) (i:Inv X pins σ' H' s') (r:RelV v u) (q:Q v H')
def SP(X:Cx)(pins:List (Addr×Obj))(D:Ends)(f:Flow)(s':OJ):Prop:=
 match f with
 |.next=>NP X pins D.nx s'
 |.brk=>NP X pins D.bk s'
 |.cont=>NP X pins D.ct s'
 |.ret u=>RP X pins D.rt u s'
def PE(X:Cx)(e:Expr)(t:TE):Prop:=∀(pins:List (Addr×Obj)) (s:OJ) (σ:St) (H:Hp) (Q:VK),Inv X pins σ H s->t σ H Q->Pk (Pi X.prog X.w) X.A (eval e X.env) (EP X pins σ Q) X.xe s
def PT(X:Cx)(e:Expr)(t:TT):Prop:=∀(pins:List (Addr×Obj)) (s:OJ) (σ:St) (H:Hp) (Q:Bool->Hp->Prop),Inv X pins σ H s->t σ H Q->Pk (Pi X.prog X.w) X.A (WY e X.env (eval e X.env)) (TP X pins σ Q) X.xe s
def PW(X:Cx)(e:Expr)(t:TT):Prop:=∀(whole:Sem OH) (pins:List (Addr×Obj)) (s:OJ) (σ:St) (H:Hp) (Q:Bool->Hp->Prop),Inv X pins σ H s->t σ H Q->Pk (Pi X.prog X.w) X.A (WY e X.env whole) (TP X pins σ Q) X.xe s
def PW.pt(h:PW X e t):PT X e t:=h _
def PA(X:Cx)(es:List Expr)(t:TA):Prop:=∀(pos:Pos) (pins:List (Addr×Obj)) (s:OJ) (σ:St) (H:Hp) (Q:List V->Hp->Prop),Inv X pins σ H s->t σ H Q->Pk (Pi X.prog X.w) X.A (XY (PK pos (OM es X.env))) (AP X pins σ Q) X.xe s
def PS(X:Cx)(st:Stmt)(t:TS):Prop:=∀(pins:List (Addr×Obj)) (s:OJ) (σ:St) (H:Hp) (D:Ends),Inv X pins σ H s->t D σ H->Pk (Pi X.prog X.w) X.A (exec st X.env) (SP X pins D) X.xe s
def Ii(X:Cx)(st:List Stmt)(t:TS):Prop:=∀(pins:List (Addr×Obj)) (s:OJ) (σ:St) (H:Hp) (D:Ends),Inv X pins σ H s->t D σ H->Pk (Pi X.prog X.w) X.A (execs st X.env) (SP X pins D) X.xe s
noncomputable def YF{α:Type}{t:Sem α}{Q Q':α->OJ->Prop}{M:WX}{A:Pw}{E:OH->OJ->Prop}{s:OJ}(h:Pk M A t Q E s)(hQ:∀a s,Q a s->Q' a s):Pk M A t Q' E s:=Qe h hQ λ_ _ x=>x
section
variable {X:Cx}
def fY(i:Nat):TE:=λσ H Q=>∃v,σ[i]? = vd (vd v)/\Q v H
def tC(v:V):TE:=λ_ H Q=>Q v H
noncomputable def zam(hN:X.N[i]? = vd x)(hv:Ee X.env.scope x)(hd:autoParam ((x == ("__debug__" : Str))=zd) u11)(hcd:autoParam ((x == ("__classdict__" : Str))=zd) u11):PE X (.Name x pos) (fY i):=by
 intro pins s σ H Q I h;obtain⟨v,e,h⟩:=h;obtain⟨m,hn,hl⟩:=I.loc;obtain⟨u,r,l⟩:=hl i x v hN e hv;have fin:EP X pins σ Q u s:=⟨v,H,I,r,h⟩
 rcases l with⟨hk,hm⟩|⟨hk,c,hc,BF⟩
 .exact WZ (wpAny_loadName_local I.ok.kind hk hn hm fin) hd
 .rcases hk with hk|hk
  .exact WZ (wpAny_loadName_cell I.ok.kind hk hc BF fin) hd
  .exact WZ (wpAny_loadName_free I.ok.kind hk hc BF fin hcd) hd
noncomputable def zan{i j pos}:PE X (.Constant (.int i) j pos) (tC (.int i)):=λ_ _ _ H _ I h=>wpAny_Constant_int ⟨.int i,H,I.tok _,⟨_,rfl⟩,h⟩
noncomputable def zao{b j pos}:PE X (.Constant (.bool b) j pos) (tC (.bl b)):=λ_ _ _ H _ I h=>Constant_bool ⟨.bl b,H,I,rfl,h⟩
def zap{j pos}:PE X (.Constant .none j pos) (tC .non):=λ_ _ _ H _ I h=>Constant_none ⟨.non,H,I,rfl,h⟩
noncomputable def zsm{x j pos}:PE X (.Constant (.str x) j pos) (tC (.str x)):=λ_ _ _ H _ I h=>Te ⟨.str x,H,I.tok _,⟨_,rfl⟩,h⟩
def Gl(X:Cx)(x:Str):Prop:=X.env.kindOf x=vd .globalImplicit
noncomputable def ju(I:Inv X pins σ H s)(hg:Gl X x)(hm:X.mg x=vd u)(h:Q u s)
  (hd:autoParam ((x == ("__debug__" : Str))=zd) u11):Pk (Pi X.prog X.w) X.A (eval (.Name x pos) X.env) Q E s:=Tf I.ok.kind hg (Calls.loadGlobal_global (by rw[I.ok.glob];exact I.mod.glob.keeps I.bk) hm h) hd
noncomputable def kL(I:Inv X pins σ H s)(hg:Gl X x)(hm:X.mg x=zc)(hv:Qy x=vd u)(h:Q u s)
  (hn:autoParam (x≠"__name__") u11) (hd:autoParam ((x == ("__debug__" : Str))=zd) u11):Pk (Pi X.prog X.w) X.A (eval (.Name x pos) X.env) Q E s:=by
 obtain⟨mb,h1,h2⟩:=I.mod.blt;exact Tf I.ok.kind hg (Calls.loadGlobal_builtin (by rw[I.ok.glob];exact I.mod.glob.keeps I.bk) hm (by rw[I.ok.blt];exact h1.keeps I.bk) ((h2 x hn).trans hv) h) hd
noncomputable def kA(hg:Gl X x)(hm:X.mg x=vd u)(r:RelV v u)(hd:autoParam ((x == ("__debug__" : Str))=zd) u11):PE X (.Name x pos) (tC v):=λ_ _ _ H _ I h=>ju I hg hm ⟨v,H,I,r,h⟩ hd
noncomputable def zsn(hg:Gl X x)(hm:X.mg x=zc)(hv:Qy x=vd u)(r:RelV v u)(hn:autoParam (x≠"__name__") u11)(hd:autoParam ((x == ("__debug__" : Str))=zd) u11):PE X (.Name x pos) (tC v):=λ_ _ _ H _ I h=>kL I hg hm hv ⟨v,H,I,r,h⟩ hn hd
variable {a b:Expr}{ta tb:TE}{pos:Pos}
variable {tA CQ:TT}{rest:List Expr}
def Lk(t u:TT):TT:=λσ H Q=>t σ H λc H1=>if c=xV then u σ H1 Q else Q zd H1
def tOr(t u:TT):TT:=λσ H Q=>t σ H λc H1=>if c=xV then Q xV H1 else u σ H1 Q
def Ld(t:TT):TT:=λσ H Q=>t σ H λc H1=>Q (!c) H1
noncomputable def zaq(ha:PT X a tA):PW X (.BoolOp .And [a] pos) tA:=by
 intro wh pins s σ H Q I h;refine isTrue_and (YF (ha pins s σ H Q I h) λc s1 e=>?_)
 cases c with
 |true=>exact isTrue_and_nil e
 |false=>exact e
noncomputable def zar(ha:PT X a tA):PW X (.BoolOp .Or [a] pos) tA:=by
 intro wh pins s σ H Q I h;refine isTrue_or (YF (ha pins s σ H Q I h) λc s1 e=>?_)
 cases c with
 |false=>exact isTrue_or_nil e
 |true=>exact e
noncomputable def zas(ha:PT X a tA)(hb:PW X (.BoolOp .And (b::rest) pos) CQ):PW X (.BoolOp .And (a::b::rest) pos) (Lk tA CQ):=by
 intro wh pins s σ H Q I h;refine isTrue_and (YF (ha pins s σ H _ I h) λc s1 ⟨H1,I1,q1⟩=>?_)
 cases c with
 |true=>exact hb wh pins s1 σ H1 Q I1 q1
 |false=>exact⟨H1,I1,q1⟩
noncomputable def zat(ha:PT X a tA)(hb:PW X (.BoolOp .Or (b::rest) pos) CQ):PW X (.BoolOp .Or (a::b::rest) pos) (tOr tA CQ):=by
 intro wh pins s σ H Q I h;refine isTrue_or (YF (ha pins s σ H _ I h) λc s1 ⟨H1,I1,q1⟩=>?_)
 cases c with
 |true=>exact⟨H1,I1,q1⟩
 |false=>exact hb wh pins s1 σ H1 Q I1 q1
noncomputable def zau(ha:PT X a tA):PT X (.UnaryOp .Not a pos) (Ld tA):=by
 intro pins s σ H Q I h;exact isTrue_not (Qe (ha pins s σ H _ I h) (λ_ _ ⟨a,b,c⟩=>⟨a,b,c⟩) λ_ _ z=>z)
def J1(ta tb:TE):TE:=λσ H Q=>ta σ H λx H1=>∃c,x=.bl c/\if c=xV then tb σ H1 Q else Q (.bl zd) H1
def Lc(ta tb:TE):TE:=λσ H Q=>ta σ H λx H1=>∃c,x=.bl c/\if c=xV then Q (.bl xV) H1 else tb σ H1 Q
def JV(ta:TE):TE:=λσ H Q=>ta σ H λx H1=>∃c,x=.bl c/\Q (.bl (!c)) H1
def zso{op}(h:PE X a t):PE X (.BoolOp op [a] pos) t:=λpins s σ H Q I hw=>BoolOp_one (h pins s σ H Q I hw)
noncomputable def zsp(ha:PE X a ta)(hb:PE X (.BoolOp .And (b::rest) pos) tb):PE X (.BoolOp .And (a::b::rest) pos) (J1 ta tb):=by
 intro pins s σ H Q I h;refine BoolOp_and (YF (ha pins s σ H _ I h) λv s1 ⟨x,H1,I1,r1,q1⟩=>?_);obtain⟨c,rfl,q1⟩:=q1;cases r1;refine Qw ?_
 cases c with
 |true=>exact hb pins s1 σ H1 Q I1 q1
 |false=>exact⟨.bl _,H1,I1,rfl,q1⟩
def Gc(ha:PE X a ta)(hb:PE X (.BoolOp .Or (b::rest) pos) tb):PE X (.BoolOp .Or (a::b::rest) pos) (Lc ta tb):=by
 intro pins s σ H Q I h;refine BoolOp_or (YF (ha pins s σ H _ I h) λv s1 ⟨x,H1,I1,r1,q1⟩=>?_);obtain⟨c,rfl,q1⟩:=q1;cases r1;refine Qw ?_
 cases c with
 |false=>exact hb pins s1 σ H1 Q I1 q1
 |true=>exact⟨.bl xV,H1,I1,rfl,q1⟩
noncomputable def zav(ha:PE X a ta):PE X (.UnaryOp .Not a pos) (JV ta):=by
 intro pins s σ H Q I h;refine UnaryOp_ (YF (ha pins s σ H _ I h) λv s1 ⟨x,H1,I1,r1,q1⟩=>?_);obtain⟨c,rfl,q1⟩:=q1;cases r1;exact not_of (Qw ⟨.bl (!c),H1,I1,rfl,q1⟩)
def tIf(t:TT)(ta tb:TE):TE:=λσ H Q=>t σ H λc H1=>if c=xV then ta σ H1 Q else tb σ H1 Q
noncomputable def zaw(hc:PT X c tA)(ha:PE X a ta)(hb:PE X b tb):PE X (.IfExp c a b pos) (tIf tA ta tb):=by
 intro pins s σ H Q I h;refine wpAny_IfExp (YF (hc pins s σ H _ I h) λd s1 ⟨H1,I1,q1⟩=>?_)
 cases d with
 |true=>exact ha pins s1 σ H1 Q I1 q1
 |false=>exact hb pins s1 σ H1 Q I1 q1
end
def Zm(K:Frag)(H:Hp)(a:Addr)(xs:List V):Prop:=
 Rd H a (.lst xs) \/
  ∃(o:Obj) (Yu:Array OH) (n:Nat),K.lookup a=vd o/\o.cls=.type "list"/\o.dict=zc/\o.data=.seq Yu n/\Yu.size<=OO/\Yx xs Yu.toList
def ZV(K:Frag)(H:Hp)(a:Addr)(xs:List V):Prop:=
 Rd H a (.tup xs) \/
  ∃(o:Obj) (Yu:Array OH) (n:Nat),K.lookup a=vd o/\o.cls=.type "tuple"/\o.data=.seq Yu n/\Yu.size<=OO/\Yx xs Yu.toList
noncomputable def LD:OH->Option V
 |.none=>vd .non
 |.bool b=>vd (.bl b)
 |.int i _=>vd (.int i)
 |.str x _=>vd (.str x)
 |.bytes b _=>vd (.byt b)
 |.float b _=>vd (.flt b)
 |.ref a=>vd (.ref a)
 |.type n=>vd (.ty n)
 |_=>zc
def RelV.abs(r:RelV x u):LD u=vd x:=by
 cases x with
 |non=>cases r;rfl
 |bl _=>cases r;rfl
 |int _=>obtain⟨t,rfl⟩:=r;rfl
 |str _=>obtain⟨t,rfl⟩:=r;rfl
 |byt _=>obtain⟨t,rfl⟩:=r;rfl
 |flt _=>obtain⟨t,rfl⟩:=r;rfl
 |ref _=>cases r;rfl
 |ty _=>cases r;rfl
def RelV.inj(r:RelV x u)(q:RelV y u):x=y:=Rc (r.abs.symm.trans q.abs)
theorem Yx.inj:∀{xs ys:List V}{us:List OH},Yx xs us->Yx ys us->xs=ys
 |_,_,_,.nil,.nil=>rfl
 |_,_,_,.cons r t,.cons r' t'=>by rw[r.inj r',Yx.inj t t']
section
variable {X:Cx}{pins:List (Addr×Obj)}{σ:St}{H:Hp}{s:OJ}{a:Addr}{xs ys:List V}
def Zm.of{K:Frag}(h:H a=vd (.lst xs)):Zm K H a xs:=.inl (.inl h)
def Inv.list(I:Inv X pins σ H s)(h:Zm X.K H a xs):∃Yu:List OH,Yx xs Yu/\PlainL s.heap a Yu.toArray/\xs.length<=sizeLine:=by
 rcases h with h|⟨o,Yu,n,hk,hc,hd,hs,hz,r⟩
 .obtain⟨z,Yu,n,r,e⟩:=h.ok I.hok
  exact⟨Yu,r,⟨_,n,e,rfl,rfl,rfl⟩,z⟩
 .refine⟨Yu.toList,r,⟨o,n,I.kIn a o hk,hc,hd,by omega⟩,?_⟩
  have e:=r.length<;>simp_all
def Inv.tuple(I:Inv X pins σ H s)(h:ZV X.K H a xs):∃Yu:List OH,Yx xs Yu/\XH s.heap a Yu.toArray/\xs.length<=sizeLine:=by
 rcases h with h|⟨o,Yu,n,hk,hc,hs,hz,r⟩
 .obtain⟨z,Yu,r,p⟩:=h.ok I.hok
  exact⟨Yu,r,p,z⟩
 .refine⟨Yu.toList,r,⟨o,I.kIn a o hk,hc,n,by omega⟩,?_⟩
  have e:=r.length<;>grind
def Inv.list_inj(I:Inv X pins σ H s)(h:Zm X.K H a xs)(h':Zm X.K H a ys):xs=ys:=by
 obtain⟨Yu,r,⟨o,n,e,_,_,d⟩,_⟩:=I.list h;obtain⟨its',r',⟨o',n',e',_,_,d'⟩,_⟩:=I.list h'
 rw[e] at e';have:Yu=its':=by simp_all
 subst this;exact r.inj r'
def Inv.tuple_inj(I:Inv X pins σ H s)(h:ZV X.K H a xs)(h':ZV X.K H a ys):xs=ys:=by
 obtain⟨Yu,r,⟨o,e,_,n,d⟩,_⟩:=I.tuple h;obtain⟨its',r',⟨o',e',_,n',d'⟩,_⟩:=I.tuple h'
 rw[e] at e';have:Yu=its':=by simp_all
 subst this;exact r.inj r'
end
abbrev Cx.wish(X:Cx)(E:OH->OJ->Prop):Cx:={ X with xe:=E }
abbrev Cx.nox(X:Cx):Cx:=X.wish λ_ _=>False
theorem Cx.Ok.wish{X:Cx}(ok:X.Ok)(E:OH->OJ->Prop):(X.wish E).Ok:=⟨ok.mod,ok.kind,ok.glob,ok.blt,ok.above,ok.inj,ok.has,ok.cab,ok.hd,ok.frames,ok.stk,ok.exf,ok.bs,ok.bsz,ok.noex,ok.exfs,ok.funs,ok.frf⟩
def Cx.Ok.unwish{X:Cx}{E:OH->OJ->Prop}(ok:(X.wish E).Ok):X.Ok:=⟨ok.mod,ok.kind,ok.glob,ok.blt,ok.above,ok.inj,ok.has,ok.cab,ok.hd,ok.frames,ok.stk,ok.exf,ok.bs,ok.bsz,ok.noex,ok.exfs,ok.funs,ok.frf⟩
section
variable {X:Cx}{pins:List (Addr×Obj)}{σ:St}{H:Hp}{s:OJ}{E:OH->OJ->Prop}{st:Stmt}{rest:List Stmt}{t u:TS}{e:Expr}{te:TE}{pos:Pos}
theorem Inv.wish(I:Inv X pins σ H s)(E:OH->OJ->Prop):Inv (X.wish E) pins σ H s:=⟨I.ok.wish E,I.os,I.bare,I.base,I.loc,I.cell,I.free,I.freeC,I.pin,I.hok,I.len⟩
theorem Inv.unwish(I:Inv (X.wish E) pins σ H s):Inv X pins σ H s:=⟨I.ok.unwish,I.os,I.bare,I.base,I.loc,I.cell,I.free,I.freeC,I.pin,I.hok,I.len⟩
theorem SP.unwish(h:SP (X.wish E) pins D f s'):SP X pins D f s':=by
 cases f with
 |next=>obtain⟨σ',H',I,q⟩:=h;exact⟨σ',H',I.unwish,q⟩
 |brk=>obtain⟨σ',H',I,q⟩:=h;exact⟨σ',H',I.unwish,q⟩
 |cont=>obtain⟨σ',H',I,q⟩:=h;exact⟨σ',H',I.unwish,q⟩
 |ret u=>obtain⟨v,σ',H',I,r,q⟩:=h;exact⟨v,σ',H',I.unwish,r,q⟩
theorem Ii.nox{st:List Stmt}{t:TS}(h:Ii X.nox st t):Ii X st t:=λpins s σ H D I hw=>
 Qe (h pins s σ H D (I.wish _) hw) (λ_ _ q=>q.unwish) λ_ _ z=>PZ z
def JW:TS:=λD σ H=>D.nx σ H
def AD(t u:TS):TS:=λD σ H=>t { D with nx:=u D } σ H
def rO:Ii X [] JW:=λ_ _ σ H _ I h=>R9 ⟨σ,H,I,h⟩
noncomputable def dh(h1:PS X st t)(h2:Ii X rest u):Ii X (st::rest) (AD t u):=by
 intro pins s σ H D I h;refine T8 (YF (h1 pins s σ H { D with nx:=u D } I h) λf s1 q=>?_)
 cases f with
 |next=>
  obtain⟨σ',H',I',q⟩:=q;exact h2 pins s1 σ' H' D I' q
 |ret v=>exact q
 |brk=>exact q
 |cont=>exact q
noncomputable def kz(h1:PS X st t):Ii X [st] t:=by
 intro pins s σ H D I h;refine T8 (YF (h1 pins s σ H D I h) λf s1 q=>?_)
 cases f with
 |next=>exact R9 q
 |ret v=>exact q
 |brk=>exact q
 |cont=>exact q
def Inv.quiet(I:Inv X pins σ H s):interactive X.env=zd:=by simp[interactive,I.ok.kind]
def z0(te:TE):TS:=λD σ H=>te σ H λ_ H1=>D.nx σ H1
noncomputable def mi(he:PE X e te)(hs:autoParam (P4 e zc pos.line X.env=pure zd) u10):PS X (.Expr e pos) (z0 te):=by
 intro pins s σ H D I h;exact wpAny_Expr_any (YF (he pins s σ H _ I h) λv s1 ⟨x,H1,I1,r1,q1⟩=>⟨σ,H1,I1,q1⟩) I.quiet hs
def Lb(te:TE):TS:=λD σ H=>te σ H D.rt
noncomputable def mz(he:PE X e te):PS X (.Return (vd e) pos) (Lb te):=by
 intro pins s σ H D I h;exact wpAny_Return_some (YF (he pins s σ H _ I h) λv s1 ⟨x,H1,I1,r1,q1⟩=>⟨x,σ,H1,I1,r1,q1⟩)
def Lg(c:TT)(t u:TS):TS:=λD σ H=>c σ H λb H1=>if b=xV then t D σ H1 else u D σ H1
def tw(hc:PT X c tc)(ha:Ii X a t)(hb:Ii X b u):PS X (.If c a b pos) (Lg tc t u):=by
 intro pins s σ H D I h;refine wpAny_If (YF (hc pins s σ H _ I h) λd s1 ⟨H1,I1,q1⟩=>?_)
 cases d with
 |true=>exact ha pins s1 σ H1 D I1 q1
 |false=>exact hb pins s1 σ H1 D I1 q1
end
abbrev TG:=V->St->Hp->(St->Hp->Prop)->Prop
abbrev Jp:=List V->St->Hp->(St->Hp->Prop)->Prop
def PG(X:Cx)(target:Expr)(t:TG):Prop:=
 ∀(pins:List (Addr×Obj)) (s:OJ) (σ:St) (H:Hp) (v:V) (u:OH) (Q:St->Hp->Prop),Inv X pins σ H s->RelV v u->t v σ H Q ->
  Pk (Pi X.prog X.w) X.A (TR target X.env u) (λ_ s'=>NP X pins Q s') X.xe s
def Hk(X:Cx)(ts:List Expr)(t:Jp):Prop:=
 ∀(pins:List (Addr×Obj)) (s:OJ) (σ:St) (H:Hp) (vs:List V) (us:List OH) (Q:St->Hp->Prop),Inv X pins σ H s->Yx vs us->t vs σ H Q ->
  Pk (Pi X.prog X.w) X.A (assignInOrder ((Sd ts X.env).map (·.2)) us) (λ_ s'=>NP X pins Q s') X.xe s
abbrev ub:=V->V->V->Hp->(Hp->Prop)->Prop
def Bd(X:Cx)(t:ub):Prop:=
 ∀(pins:List (Addr×Obj)) (s:OJ) (σ:St) (H:Hp) (o i v:V) (ov iv u:OH) (Q:Hp->Prop),Inv X pins σ H s->RelV o ov->RelV i iv->RelV v u->t o i v H Q ->
  Pk (Pi X.prog X.w) X.A (XZ ov iv u) (λ_ s'=>∃H',Inv X pins σ H' s'/\Q H') X.xe s
section
variable {X:Cx}{pos:Pos}
def jR(i:Nat):TG:=λv σ H Q=>Q (σ.set i (vd v)) H
noncomputable def iG(hN:X.N.Nodup)(hi:X.N[i]? = vd x)(hx:Loc X.env.scope x)(hf:autoParam (X.fn x=xV\/X.env.scope.names.lookup x=vd .local) u15):PG X (.Name x pos) (jR i):=by
 intro pins s σ H v u Q I r h;exact VR (qU I hN hi hx r (λs' I'=>⟨_,H,I',h⟩) hf)
def LB:Jp:=λvs σ H Q=>vs=[]/\Q σ H
def KD(t:TG)(u:Jp):Jp:=λvs σ H Q=>∃v r,vs=v::r/\t v σ H λσ' H'=>u r σ' H' Q
def zsq:Hk X [] LB:=by
 intro pins s σ H vs us Q I r h;obtain⟨e,h⟩:=h;exact assignInOrder_nil ⟨σ,H,I,h⟩
noncomputable def lV(h1:PG X e t)(h2:Hk X es u)
  (hs:autoParam ((Sd (e::es) X.env).map (·.2)=TR e X.env::(Sd es X.env).map (·.2)) u10):Hk X (e::es) (KD t u):=by
 intro pins s σ H vs us Q I r h;obtain⟨v,vr,e1,h⟩:=h;subst e1
 cases r with
 |cons r rr=>
  rw[hs];refine assignInOrder_cons (YF (h1 pins s σ H _ _ _ I r h) λ_ s1 ⟨F8,H1,I1,q1⟩=>?_);exact h2 pins s1 F8 H1 _ _ Q I1 rr q1
def Lz(K:Frag)(n:Nat)(t:Jp):TG:=λv σ H Q=>∃a xs,v=.ref a/\ZV K H a xs/\xs.length=n/\t xs σ H Q
noncomputable def zsr(hc:X.calm=xV)(h:Hk X es t)
  (hn:autoParam ((Sd es X.env).length=n) u10) (CJ:autoParam ((Sd es X.env).findIdx? (·.1)=zc) u10):PG X (.Tuple es k pos) (Lz X.K n t):=by
 intro pins s σ H v u Q I r hw;obtain⟨a,xs,e1,hq,hl,hw⟩:=hw;subst e1;cases r;obtain⟨Yu,rv,ht,hz⟩:=I.tuple hq;refine assign_Tuple_tuple (I.ok.hd hc) ht (by simp[hn,←hl,rv.length]) CJ λh' hx=>?_;have I1:=I.kept (t':=s.toks) λb o e=>hx b o (Pl (OV e)) e;exact h pins _ σ H xs _ Q I1 (by omega) hw
def LA(to ti:TE)(t:ub):TG:=λv σ H Q=>to σ H λo H1=>ti σ H1 λi H2=>t o i v H2 λH3=>Q σ H3
noncomputable def zax(ho:PE X o to)(hi:PE X i ti)(hs:Bd X t)
  (ha:autoParam (∀v,TR (.Subscript o i pos) X.env v=(do
   let ov ←RR [v] (eval o X.env)
   let iv ←RR [v,ov] (eval i X.env)
   SO pos
   RR [v,ov,iv] (XZ ov iv v)
   release [v,ov,iv] [])) u16):PG X (.Subscript o i pos) (LA to ti t):=by
 intro pins s σ H v u Q I r h;rw[ha];refine ON (Q5 (YF (ho pins s σ H _ I h) λov s1 ⟨x,H1,I1,r1,q1⟩=>?_));refine ON (Q5 (YF (hi pins s1 σ H1 _ I1 q1) λiv s2 ⟨y,H2,I2,r2,q2⟩=>?_));refine ON (SQ (ON (Q5 (YF (hs pins s2 σ H2 x y v ov iv u _ I2 r1 r2 r q2) λ_ s3 ⟨H3,I3,q3⟩=>?_))));exact wpAny_release ⟨σ,H3,I3,q3⟩
def AH(te:TE)(g:TG):TS:=λD σ H=>te σ H λx H1=>g x σ H1 D.nx
noncomputable def sJ(he:PE X e te)(hg:PG X tg g)(hs:autoParam (Vu [tg] e pos.line X.env=pure zd) u10)(hw:autoParam (Vv [tg] e X.env=pure zc) u10)
  (h1:autoParam ((Sd [tg] X.env).map (·.2)=[TR tg X.env]) u10):PS X (.Assign [tg] e pos) (AH te g):=by
 intro pins s σ H D I h;refine wpAny_Assign_stores (YF (he pins s σ H _ I h) λv s1 ⟨x,H1,I1,r1,q1⟩=>?_) hs hw;rw[h1];exact YF (hg pins s1 σ H1 x v _ I1 r1 q1) λ_ s2 q=>q
noncomputable def gB(hN:X.N.Nodup)(hi:X.N[i]? = vd x)(hx:Loc X.env.scope x)(he:PE X e te)(hs:autoParam (P4 e (vd (.Name x pos')) pos.line X.env=pure zd) u10)(hf:autoParam (X.fn x=xV\/X.env.scope.names.lookup x=vd .local) u15) :
  PS X (.Assign [.Name x pos'] e pos) (AH te (jR i)):=by
 intro pins s σ H D I h;refine VS (YF (he pins s σ H _ I h) λv s1 ⟨y,H1,I1,r1,q1⟩=>?_) hs;exact qU I1 hN hi hx r1 (λs2 I2=>⟨_,H1,I2,q1⟩) hf
noncomputable def HG(c:TT)(tb:TS):TS:=λD σ H=>∃W:Nat->St->Hp->Prop,(∃m,W m σ H)/\∀m σ H,W m σ H ->
 c σ H λb H1=>if b=xV then ∃N:St->Hp->Prop,(∀σ' H',N σ' H'->∃m',m' < m/\W m' σ' H')/\tb { D with nx:=N,ct:=N,bk:=D.nx } σ H1 else D.nx σ H1
noncomputable def zay(hp:Wa (Pi X.prog X.w) X.A X.env X.xe)(hc:PT X c tc)(hb:Ii X body tb):PS X (.While c body [] pos) (HG tc tb):=by
 intro pins s σ H D I h;obtain⟨W,⟨m0,w0⟩,turn⟩:=h;refine wpAny_While (codeAny_whileLoop (λn s'=>NP X pins (W n) s') ?_ m0 ⟨σ,H,I,w0⟩);rintro n s1 ⟨F8,H1,I1,w1⟩;refine Re hp (YF (hc pins s1 F8 H1 _ I1 (turn n F8 H1 w1)) λb s2 ⟨H2,I2,q2⟩=>?_)
 cases b with
 |true=>
  obtain⟨N,hN,q2⟩:=q2;refine Re hp (YF (hb pins s2 F8 H2 _ I2 q2) λf s3 q3=>?_)
  cases f with
  |next=>
   obtain⟨Z5,H3,I3,n3⟩:=q3;obtain⟨m',hm,w3⟩:=hN Z5 H3 n3;exact⟨m',hm,Z5,H3,I3,w3⟩
  |cont=>
   obtain⟨Z5,H3,I3,n3⟩:=q3;obtain⟨m',hm,w3⟩:=hN Z5 H3 n3;exact⟨m',hm,Z5,H3,I3,w3⟩
  |brk=>exact q3
  |ret v=>exact q3
 |false=>
  exact R9 ⟨F8,H2,I2,q2⟩
end
structure It where
 go:Nat->Hp->Prop
 yld:Nat->Hp->V->Hp->Prop
 stop:Nat->Hp->Prop
def eF(X:Cx)(pins:List (Addr×Obj))(H:Hp)(b:Addr):Prop:=H b=zc/\b≠X.env.locals/\b∉X.fs/\(b∈X.ex\/X.s₀.heap.objs.size<=b)/\(∀x c,X.env.cells.lookup x=vd c->c≠b)/\∀p∈X.pn++pins,p.1≠b
def Inv.fpOk(I:Inv X pins σ H s)(hb:s.heap.objs.size<=b)(hn:H' b=zc):eF X pins H' b:=by
 refine⟨hn,RE (OY I.lt hb),I.nofs hb,.inr (OS I.sz hb),λx c e z=>?_,λp hp z=>?_⟩
 .obtain⟨v,q⟩:=I.cell x c e
  exact absurd (OY q.lt (by simp_all)) (PH _)
 .exact absurd (OY (OV (I.pin p hp).1) (by simp_all)) (PH _)
inductive Dg(X:Cx)(pins:List (Addr×Obj))(σ:St)(J:It)(fp:List Addr)(tn:Nat->Heap->Prop)(i:Nat)(H:Hp)(u:OH)(s2:OJ):Prop where
 |mk (x:V) (H':Hp) (iv:Inv X pins σ H' s2) (r:RelV x u) (y:J.yld i H x H') (t:tn (i+1) s2.heap) (f:∀b∈fp,H' b=zc)
structure Turn(P:Pb)(w:Pp)(K:Frag)(tg:Expr)(J:It)(fp:List Addr)(it:Addr)(tn:Nat->Heap->Prop):Prop where
 mem:it∈fp
 obj:∀i h,tn i h->∀b∈fp,∃o,h.get? b=vd o/\∀v,o.data≠.cell v
 keep:∀i h h',tn i h->(∀b∈fp,∀o,h.get? b=vd o->h'.get? b=vd o)->tn i h'
 item:∀(X:Cx),X.prog=P->X.w=w->X.K=K->X.calm=xV->∀(i:Nat) (pins:List (Addr×Obj)) (s:OJ) (σ:St) (H:Hp) (E:OH->OJ->Prop),Inv X pins σ H s->(∀b∈fp,eF X pins H b)->tn i s.heap->J.go i H ->
  Pk (Pi P w) X.A (pyNext (.ref it)) (λr s1=>∃u,r=vd u /\
   Pk (Pi P w) X.A (S1 tg (.ref it) u) (λ_ s2=>Dg X pins σ J fp tn i H u s2) E s1) E s
 done:∀(X:Cx),X.prog=P->X.w=w->X.K=K->X.calm=xV->∀(i:Nat) (pins:List (Addr×Obj)) (s:OJ) (σ:St) (H:Hp) (E:OH->OJ->Prop),Inv X pins σ H s->(∀b∈fp,eF X pins H b)->tn i s.heap->J.stop i H ->
  Pk (Pi P w) X.A (pyNext (.ref it)) (λr s1=>r=zc/\Inv X pins σ H s1) E s
 self:∀(A:Pw) (i:Nat) (s:OJ) (Q:OH->OJ->Prop) (E:OH->OJ->Prop),tn i s.heap->Q (.ref it) s->Pk (Pi P w) A (pyIter (.ref it)) Q E s
abbrev TI:=St->Hp->(It->Hp->Prop)->Prop
inductive PIE(X:Cx)(pins:List (Addr×Obj))(σ:St)(tg:Expr)(R:It->Hp->Prop)(itv:OH)(s2:OJ):Prop where
 |mk (it:Addr) (fp:List Addr) (tn:Nat->Heap->Prop) (J:It) (H':Hp) (e:itv=.ref it) (i:Inv X pins σ H' s2) (t:Turn X.prog X.w X.K tg J fp it tn) (n:tn 0 s2.heap) (f:∀b∈fp,eF X pins H' b) (q:R J H')
def PI(X:Cx)(tg iter:Expr)(wi:TI):Prop:=
 ∀(pins:List (Addr×Obj)) (s:OJ) (σ:St) (H:Hp) (R:It->Hp->Prop),Inv X pins σ H s->wi σ H R ->
  Pk (Pi X.prog X.w) X.A (eval iter X.env) (λv s1=>Pk (Pi X.prog X.w) X.A (pyIter v) (PIE X pins σ tg R) X.xe s1) X.xe s
noncomputable def mU{M:WX}{A:Pw}{E:OH->OJ->Prop}{s:OJ}{tg:Expr}{it:Addr}{u:OH}{o:Obj}{n:String}{vs:Array OH}{Q:Unit->OJ->Prop}(ho:s.heap.get? it=vd o)(hc:o.cls=.type n)(hd:o.data=.fields vs)
  (hn:["enumerate","zip","dict_itemiterator","dict_reverseitemiterator","odict_iterator","itertools.zip_longest","itertools.pairwise"].contains n=zd) (hQ:Q () s):Pk M A (S1 tg (.ref it) u) Q E s:=by
 cases tg <;> first
  |exact Pg hQ
  | (cases u <;> first
    |exact Pg hQ
    | (refine ON (wpAny_load ho ?_)
       rw[hc,hd];show Pk M A (if _=xV then _ else _) Q E s;rw[if_neg (by intro h;rw[hn] at h;cases h)]
       exact Pg hQ))
noncomputable def Bv(K:Frag)(a:Addr):It:=⟨λi H=>∃xs x,Zm K H a xs/\xs[i]? = vd x,λi H x H'=>H'=H/\∀xs,Zm K H a xs->xs[i]? = vd x,λi H=>∃xs,Zm K H a xs/\xs.length<=i⟩
noncomputable def Ij(K:Frag)(a:Addr):It:=⟨λi H=>∃xs x,ZV K H a xs/\xs[i]? = vd x,λi H x H'=>H'=H/\∀xs,ZV K H a xs->xs[i]? = vd x,λi H=>∃xs,ZV K H a xs/\xs.length<=i⟩
def DG(lo:Int)(n:Nat):It:=⟨λi _=>i<n,λi H x H'=>H'=H/\x=.int (lo+i),λi _=>n<=i⟩
noncomputable def zaz{P:Pb}{w:Pp}{K:Frag}{tg:Expr}(a it:Addr):Turn P w K tg (Bv K a) [it] it (λi h=>h.IsListIter it a i) where
 mem:=by simp
 obj:=λi h st b hb=>by
  have e:b=it:=by simpa using hb
  subst e
  obtain⟨o,e,c,d⟩:=st<;>simp_all
 keep:=λi h h' st k=>st.at λo e=>k it (by simp) o e
 item:=by
  intro X hP hw hK hc i pins s σ H E I hf st hg;subst hP hw hK;obtain⟨xs,x,hq,hx⟩:=hg;obtain⟨Yu,rv,p,hz⟩:=I.list hq;obtain⟨u,hu,ru⟩:=rv.get hx;obtain⟨f0,f1,f2,f3,f4,f5⟩:=hf it (by simp);refine wpAny_pyNext_list_item st p.isList (x:=u) (by simp_all) λh' Gw sb=>?_;have I1:Inv X pins σ H { s with heap:=h' }:=I.turned (t':=s.toks) (λb o hb e=>(sb.2 b hb).trans e) f0 f1 f3 f4 f5;obtain⟨o,e,c,d⟩:=id Gw;exact⟨u,rfl,mU (s:={ s with heap:=h' }) e c d (rfl) ⟨x,H,I1,ru,⟨rfl,λys hy=>by rw[I.list_inj hy hq];exact hx⟩,Gw,λb hb=>(hf b hb).1⟩⟩
 done:=by
  intro X hP hw hK hc i pins s σ H E I hf st hg;subst hP hw hK;obtain⟨xs,hq,hx⟩:=hg;obtain⟨Yu,rv,p,hz⟩:=I.list hq;obtain⟨f0,f1,f2,f3,f4,f5⟩:=hf it (by simp);have hl:=rv.length;exact wpAny_pyNext_list_end (I.ok.hd hc) st p.isList (by simp;omega) λh' eb=>⟨rfl,I.turned (t':=s.toks) (λb o hb e=>eb b o hb e) f0 f1 f3 f4 f5⟩
 self:=λ_ _ _ _ _ st h=>wpAny_pyIter_listiter st h
noncomputable def zba{P:Pb}{w:Pp}{K:Frag}{tg:Expr}(a it:Addr):Turn P w K tg (Ij K a) [it] it (λi h=>h.IsTupleIter it a i) where
 mem:=by simp
 obj:=λi h st b hb=>by
  have e:b=it:=by simpa using hb
  subst e;obtain⟨o,e,c,d⟩:=st;exact⟨o,e,λv z=>by simp_all⟩
 keep:=λi h h' st k=>st.at λo e=>k it (by simp) o e
 item:=by
  intro X hP hw hK hc i pins s σ H E I hf st hg;subst hP hw hK;obtain⟨xs,x,hq,hx⟩:=hg;obtain⟨Yu,rv,p,hz⟩:=I.tuple hq;obtain⟨u,hu,ru⟩:=rv.get hx;obtain⟨f0,f1,f2,f3,f4,f5⟩:=hf it (by simp);refine wpAny_pyNext_tuple_item st (show s.heap.IsTuple a Yu.toArray from p) (x:=u) (by simp_all) λh' Gw sb=>?_;have I1:Inv X pins σ H { s with heap:=h' }:=I.turned (t':=s.toks) (λb o hb e=>(sb.2 b hb).trans e) f0 f1 f3 f4 f5;obtain⟨o,e,c,d⟩:=id Gw;exact⟨u,rfl,mU (s:={ s with heap:=h' }) e c d (by decide) ⟨x,H,I1,ru,⟨rfl,λys hy=>by rw[I.tuple_inj hy hq];exact hx⟩,Gw,λb hb=>(hf b hb).1⟩⟩
 done:=by
  intro X hP hw hK hc i pins s σ H E I hf st hg;subst hP hw hK;obtain⟨xs,hq,hx⟩:=hg;obtain⟨Yu,rv,p,hz⟩:=I.tuple hq;obtain⟨f0,f1,f2,f3,f4,f5⟩:=hf it (by simp);have hl:=rv.length;exact wpAny_pyNext_tuple_end (I.ok.hd hc) st (show s.heap.IsTuple a Yu.toArray from p) (by simp;omega) λh' eb=>⟨rfl,I.turned (t':=s.toks) (λb o hb e=>eb b o hb e) f0 f1 f3 f4 f5⟩
 self:=λ_ _ _ _ _ st h=>wpAny_pyIter_tupleiter st h
noncomputable def zbb{P:Pb}{w:Pp}{K:Frag}{tg:Expr}(it:Addr)(lo:Int)(n:Nat):Turn P w K tg (DG lo n) [it] it (λi h=>IsRangeIter h it (lo+(i:Nat)*1) ((n:Int)-(i:Nat)) 1) where
 mem:=by simp
 obj:=λi h st b hb=>by simp_all
 keep:=λi h h' st k=>k it (by simp) _ st
 item:=by
  intro X hP hw hK hc i pins s σ H E I hf st hg;subst hP hw hK;obtain⟨f0,f1,f2,f3,f4,f5⟩:=hf it (by simp);have W:=Walks.range (prog:=X.prog) (w:=X.w) (I.ok.hd hc) it lo 1 n;refine W.item i s _ _ hg st λv h' tk hv Gw kk=>?_;obtain⟨t,rfl⟩:=hv;have I1:Inv X pins σ H { s with heap:=h',toks:=tk }:=I.turned (λb o hb e=>kk b o (by simp_all) e) f0 f1 f3 f4 f5;refine⟨_,rfl,mU   Gw rfl rfl (rfl) ⟨.int (lo+i),H,I1,⟨t,?_⟩,⟨rfl,rfl⟩,Gw,λb hb=>(hf b hb).1⟩⟩;rw[Int.mul_one]
 done:=by
  intro X hP hw hK hc i pins s σ H E I hf st hg;obtain⟨f0,f1,f2,f3,f4,f5⟩:=hf it (by simp);exact wpAny_pyNext_range_end (I.ok.hd hc) st (by have:n<=i:=hg;omega) λh' eb=>⟨rfl,I.turned  (λb o hb e=>eb b o hb e) f0 f1 f3 f4 f5⟩
 self:=λ_ _ _ _ _ st h=>wpAny_pyIter_rangeiter st h
section
variable {X:Cx}{tg:Expr}
noncomputable def zbc{pins:List (Addr×Obj)}{σ:St}{H:Hp}{s:OJ}{R:It->Hp->Prop}{E:OH->OJ->Prop}{lo hi:Int}{t u v:Tok}{tk:Nat}(I:Inv X pins σ H s)(h1 : -(2^62)<=lo)(h2:lo<2^62)(h3 : -(2^62)<=hi)(h4:hi<2^62)
  (q:R (DG lo (hi-lo).toNat) H):Pk (Pi X.prog X.w) X.A (pyIter (.ref s.heap.objs.size)) (PIE X pins σ tg R) E { s with heap:=s.heap.push { cls:=.type "range",data:=.fields #[.int lo t,.int hi u,.int 1 v] },toks:=tk }:=by
 refine wpAny_pyIter_range (IsRange.new ..) (small_one h1 h2 h3 h4) ?_;have I1:Inv X pins σ H { s with heap:=s.heap.push { cls:=.type "range",data:=.fields #[.int lo t,.int hi u,.int 1 v] },toks:=tk }:=I.kept λb o e=>OK _ e
 refine⟨(s.heap.push { cls:=.type "range",data:=.fields #[.int lo t,.int hi u,.int 1 v] }).objs.size,[(s.heap.push { cls:=.type "range",data:=.fields #[.int lo t,.int hi u,.int 1 v] }).objs.size],_,_,H,rfl,
  I1.kept  λb o e=>OK _ e,zbb _ lo _,?_,λb hb=>?_,q⟩
 .have e1:lo+((0:Nat))*1=lo:=by simp
  have e2:(((hi-lo).toNat))-((0:Nat))=XI lo hi 1:=by rw[rangeSize_one]<;>grind
  rw[e1,e2];exact Pm _ rfl
 .have e:b=(s.heap.push { cls:=.type "range",data:=.fields #[.int lo t,.int hi u,.int 1 v] }).objs.size:=by simpa using hb
  subst e;exact I1.fpOk (Pc _) (I1.hok.fresh (Pc _))
def KC(ta:TA):TI:=λσ H R=>ta σ H λvs H1=>∃j:Int,vs=[.int j]/\-(2^62)<=j/\j<2^62/\R (DG 0 j.toNat) H1
noncomputable def zbd(hg:Gl X "range")(hm:X.mg "range"=zc)(ha:PA X [a] ta)(hs:autoParam (OM [a] X.env=[(zd,eval a X.env)]) u10):PI X tg (.Call (.Name "range" p) [a] [] pos) (KC ta):=by
 intro pins s σ H R I h;refine Call_ (kL I hg hm boot_range (Q1 (YF (ha pos pins s σ H _ I h) λus s1 ⟨vs,H1,I1,r1,q1⟩=>?_) hs rfl));obtain⟨j,e,q1,q2,q⟩:=q1;subst e
 cases r1 with
 |cons r rr=>
  cases rr;obtain⟨t,rfl⟩:=r;exact call_range_1 (zbc I1 (by lia) (by lia) q1 q2 (by simp_all))
noncomputable def Lh(wi:TI)(g:TG)(tb:TS):TS:=λD σ H=>wi σ H λJ H1=>∃W:Nat->Nat->St->Hp->Prop,(∃m,W 0 m σ H1)/\∀i m σ H,W i m σ H ->
 (J.stop i H/\D.nx σ H)\/(J.go i H/\∃N:St->Hp->Prop,(∀σ' H',N σ' H'->∃m',m' < m/\W (i+1) m' σ' H')/\∀x H',J.yld i H x H'->g x σ H' λDc H2=>tb { D with nx:=N,ct:=N,bk:=D.nx } Dc H2)
def iK(fp:List Addr)(h:Heap):List (Addr×Obj):=fp.filterMap λb=>(h.get? b).map λo=>(b,o)
def nE(hb:b∈fp)(e:h.get? b=vd o):(b,o)∈iK fp h:=VD.mpr ⟨b,hb,by rw[e];rfl⟩
noncomputable def zbe(hp:p∈iK fp h):p.1∈fp/\h.get? p.1=vd p.2:=by
 obtain⟨b,hb,e⟩:=VD.mp hp
 cases q:h.get? b with
 |none=>simp_all
 |some o=>
  rw[q] at e;have e':=Rc e;subst e';exact⟨hb,q⟩
def Inv.pinned(I:Inv X pins σ H s)(hf:∀b∈fp,eF X pins H b)(ho:∀b∈fp,∃o,s.heap.get? b=vd o/\∀v,o.data≠.cell v):Inv X (pins++iK fp s.heap) σ H s:=
 I.pins_of λp hp=>(Pq.mp hp).elim (λz=>I.pin p (PJ _ z)) λz=>by
  obtain⟨hb,e⟩:=zbe z;obtain⟨f0,f1,f2,_⟩:=hf p.1 hb
  obtain⟨o,e',d⟩:=ho p.1 hb<;>simp_all
def Inv.unpinned(I:Inv X (pins++pl) σ H s):Inv X pins σ H s:=I.pins_of λp hp=>I.pin p (PJ _ (QF _ hp))
noncomputable def zbf(hp:Wa (Pi X.prog X.w) X.A X.env X.xe)(hc:X.calm=xV)(hi:PI X tg iter wi)(hg:PG X tg g)(hb:Ii X body tb)
  (hs:autoParam (∀x,PN iter X.env x=pure x) u16):PS X (.For tg iter body [] pos) (Lh wi g tb):=by
 intro pins s σ H D I h;refine wpAny_For (YF (hi pins s σ H _ I h) λv s1 h1=>YF h1 λitv s2 h2=>?_) hs;obtain⟨it,fp,tn,J,H2,e,I2,T,G4,f2,W,⟨m0,w0⟩,turn⟩:=h2;subst e;have Gv:∀{H':Hp},(∀b∈fp,H' b=zc)->∀b∈fp,eF X pins H' b:=λhn b hb=>⟨hn b hb,(f2 b hb).2⟩;refine codeAny_forLoop_any (λn s'=>∃i σ' H',Inv X pins σ' H' s'/\tn i s'.heap/\(∀b∈fp,H' b=zc)/\W i n σ' H') ?_ m0 ⟨0,σ,H2,I2,G4,λb hb=>(f2 b hb).1,w0⟩;rintro n s3 ⟨i,Z5,H3,I3,FF,fr3,w3⟩
 rcases turn i n Z5 H3 w3 with⟨stop,qn⟩|⟨go,N,hN,step⟩
 .refine Re hp (YF (T.done X rfl rfl rfl hc i pins s3 Z5 H3 X.xe I3 (Gv fr3) FF stop) λr s4 ⟨hr,I4⟩=>?_)
  subst hr;exact R9 ⟨Z5,H3,I4,qn⟩
 .refine Re hp (YF (T.item X rfl rfl rfl hc i pins s3 Z5 H3 X.xe I3 (Gv fr3) FF go) λr s4 ⟨u,hr,h4⟩=>?_)
  subst hr;refine Re hp (YF h4 λ_ s5 ⟨x,H5,I5,r5,y5,Jw,JQ⟩=>?_);have I5':=I5.pinned (Gv JQ) (T.obj _ _ Jw);refine Re hp (YF (hg _ s5 Z5 H5 x u _ I5' r5 (step x H5 y5)) λ_ s6 ⟨σ6,H6,I6,q6⟩=>?_);refine Re hp (YF (hb _ s6 σ6 H6 _ I6 q6) λf s7 q7=>?_)
  have again:∀{JA:St}{H7:Hp},Inv X (pins++iK fp s5.heap) JA H7 s7->N JA H7->∃m,m<n/\∃i σ' H',Inv X pins σ' H' s7/\tn i s7.heap/\(∀b∈fp,H' b=zc)/\W i m σ' H':=λ{JA H7} I7 n7=>by
   obtain⟨m',hm,w7⟩:=hN JA H7 n7;refine⟨m',hm,i+1,JA,H7,I7.unpinned,T.keep _ _ _ Jw λb hb o e=>(I7.pin (b,o) (PJ _ (PJ _ (nE hb e)))).1,λb hb=>?_,w7⟩;obtain⟨o,e,d⟩:=T.obj _ _ Jw b hb;exact(I7.pin (b,o) (PJ _ (PJ _ (nE hb e)))).2.1
  cases f with
  |next=>obtain⟨JA,H7,I7,n7⟩:=q7;exact again I7 n7
  |cont=>obtain⟨JA,H7,I7,n7⟩:=q7;exact again I7 n7
  |brk=>obtain⟨JA,H7,I7,q7⟩:=q7;exact⟨JA,H7,I7.unpinned,q7⟩
  |ret v=>obtain⟨x7,JA,H7,I7,r7,q7⟩:=q7;exact⟨x7,JA,H7,I7.unpinned,r7,q7⟩
end
abbrev R2:=V->V->Hp->VK->Prop
def Zg(X:Cx)(f:OH->OH->Sem OH)(r:R2):Prop:=
 ∀(pins:List (Addr×Obj)) (s:OJ) (σ:St) (H:Hp) (x y:V) (v u:OH) (Q:VK),Inv X pins σ H s->RelV x v->RelV y u->r x y H Q ->
  Pk (Pi X.prog X.w) X.A (f v u) (EP X pins σ Q) X.xe s
def Gg(X:Cx)(f:OH->Sem OH)(r:V->Hp->VK->Prop):Prop:=
 ∀(pins:List (Addr×Obj)) (s:OJ) (σ:St) (H:Hp) (x:V) (v:OH) (Q:VK),Inv X pins σ H s->RelV x v->r x H Q ->
  Pk (Pi X.prog X.w) X.A (f v) (EP X pins σ Q) X.xe s
def YV(X:Cx)(f:OH)(r:List V->Hp->VK->Prop):Prop:=
 ∀(pins:List (Addr×Obj)) (s:OJ) (σ:St) (H:Hp) (xs:List V) (us:List OH) (Q:VK),Inv X pins σ H s->Yx xs us->r xs H Q ->
  Pk (Pi X.prog X.w) X.A (call f us) (EP X pins σ Q) X.xe s
def LF(X:Cx)(r:V->Hp->(Bool->Hp->Prop)->Prop):Prop:=
 ∀(pins:List (Addr×Obj)) (s:OJ) (σ:St) (H:Hp) (x:V) (v:OH) (Q:Bool->Hp->Prop),Inv X pins σ H s->RelV x v->r x H Q ->
  Pk (Pi X.prog X.w) X.A (truthy v) (TP X pins σ Q) X.xe s
def IF(r:R2)(ta tb:TE):TE:=λσ H Q=>ta σ H λx H1=>tb σ H1 λy H2=>r x y H2 Q
def tUn(r:V->Hp->VK->Prop)(ta:TE):TE:=λσ H Q=>ta σ H λx H1=>r x H1 Q
def rI(C:Int->Int->Prop)(g:Int->Int->V):R2:=λx y H Q=>∃i j,x=.int i/\y=.int j/\C i j/\Q (g i j) H
def C9(g:Int->Int->V):R2:=λx y H Q=>∃i j,x=.int i/\y=.int j/\Q (g i j) H
def rU(g:Int->V):V->Hp->VK->Prop:=λx H Q=>∃i,x=.int i/\Q (g i) H
section
variable {X:Cx}{a b c:Expr}{ta tb tc:TE}{pos:Pos}
noncomputable def t5(ha:PE X a ta)(hb:PE X b tb){R:V->V->Hp->Prop}(I:Inv X pins σ H s)
  (h:ta σ H λx H1=>tb σ H1 λy H2=>R x y H2) {Q:OH->OJ->Prop}{f:OH->OH->Sem OH}
  (hf:∀v u s2 x y H2,Inv X pins σ H2 s2->RelV x v->RelV y u->R x y H2->Pk (Pi X.prog X.w) X.A (f v u) Q X.xe s2) :
  Pk (Pi X.prog X.w) X.A (eval a X.env) (λv za=>Pk (Pi X.prog X.w) X.A (eval b X.env) (λu C3=>Pk (Pi X.prog X.w) X.A (f v u) Q X.xe C3) X.xe za) X.xe s:=by
 refine YF (ha pins s σ H _ I h) λv s1 ⟨x,H1,I1,r1,q1⟩=>?_;refine YF (hb pins s1 σ H1 _ I1 q1) λu s2 ⟨y,H2,I2,r2,q2⟩=>?_;exact hf v u s2 x y H2 I2 r1 r2 q2
noncomputable def mL(ho:Zg X (Qq op) r)(ha:PE X a ta)(hb:PE X b tb):PE X (.BinOp a op b pos) (IF r ta tb):=by
 intro pins s σ H Q I h;exact wpAny_BinOp (t5 ha hb I h λv u s2 x y H2 I2 rx ry q=>ho pins s2 σ H2 x y v u Q I2 rx ry q)
noncomputable def zbg(ho:Gg X (unaryOp op) r)(ha:PE X a ta):PE X (.UnaryOp op a pos) (tUn r ta):=by
 intro pins s σ H Q I h;exact UnaryOp_ (YF (ha pins s σ H _ I h) λv s1 ⟨x,H1,I1,r1,q1⟩=>ho pins s1 σ H1 x v Q I1 r1 q1)
noncomputable def HS{f:OH->OH->Sem OH}{C:Int->Int->Prop}{g:Int->Int->Int}
  (rule:∀(i j:Int) (t u:Tok) (s:OJ) (Q:OH->OJ->Prop) (E:OH->OJ->Prop),C i j->Q (.int (g i j) s.toks) { s with toks:=s.toks+1 }->Pk (Pi X.prog X.w) X.A (f (.int i t) (.int j u)) Q E s) :
  Zg X f (rI C λi j=>.int (g i j)):=by
 intro pins s σ H x y v u Q I rx ry h;obtain⟨i,j,rfl,rfl,hc,q⟩:=h;obtain⟨t,rfl⟩:=rx;obtain⟨t',rfl⟩:=ry;exact rule i j t t' s _ _ hc ⟨.int _,H,I.tok _,⟨_,rfl⟩,q⟩
noncomputable def zss{f:OH->OH->Sem OH}{g:Int->Int->Int}
  (rule:∀(i j:Int) (t u:Tok) (s:OJ) (Q:OH->OJ->Prop) (E:OH->OJ->Prop),Q (.int (g i j) s.toks) { s with toks:=s.toks+1 }->Pk (Pi X.prog X.w) X.A (f (.int i t) (.int j u)) Q E s) :
  Zg X f (C9 λi j=>.int (g i j)):=by
 intro pins s σ H x y v u Q I rx ry h;obtain⟨i,j,rfl,rfl,q⟩:=h;obtain⟨t,rfl⟩:=rx;obtain⟨t',rfl⟩:=ry;exact rule i j t t' s _ _ ⟨.int _,H,I.tok _,⟨_,rfl⟩,q⟩
noncomputable def p9{f:OH->OH->Sem OH}{g:Int->Int->Bool}
  (rule:∀(i j:Int) (t u:Tok) (s:OJ) (Q:OH->OJ->Prop) (E:OH->OJ->Prop),Q (.bool (g i j)) s->Pk (Pi X.prog X.w) X.A (f (.int i t) (.int j u)) Q E s) :
  Zg X f (C9 λi j=>.bl (g i j)):=by
 intro pins s σ H x y v u Q I rx ry h;obtain⟨i,j,rfl,rfl,q⟩:=h;obtain⟨t,rfl⟩:=rx;obtain⟨t',rfl⟩:=ry;exact rule i j t t' s _ _ ⟨.bl _,H,I,rfl,q⟩
def LH(i j:Int):Prop:=0<=j/\j<=1000000/\i.natAbs<2^64
def K9(i j:Int):Prop:=(-(2^64)<i/\i<2^64)\/(-(2^64)<j/\j<2^64)
def K9.ok(h:K9 i j):IntMulOk i j:=by
 rcases h with⟨h1,h2⟩|⟨h1,h2⟩
 .exact .of_left (intBits_le_64 h1 h2)
 .exact .of_right (intBits_le_64 h1 h2)
def zst:Zg X (Qq .Add) (C9 λi j=>.int (i+j)):=zss λ_ _ _ _ _ _ _ q=>add_int q
def zbh:Zg X (Qq .Sub) (C9 λi j=>.int (i-j)):=zss λ_ _ _ _ _ _ _ q=>sub_int q
def zsu:Zg X (Qq .Mult) (rI K9 λi j=>.int (i*j)):=HS λ_ _ _ _ _ _ _ hc q=>mul_int q hc.ok
noncomputable def zbi:Zg X (Qq .Mod) (rI (λ_ j=>0<j) λi j=>.int (i % j)):=HS λi j _ _ _ _ _ hc q=>by
 exact mod_int' (by lia) (by rw[Int.fmod_eq_emod_of_nonneg i (by lia)];exact q)
noncomputable def zbj:Zg X (Qq .Pow) (rI LH λi j=>.int (i^j.toNat)):=HS λ_ _ _ _ _ _ _ hc q=>pow_int_small hc.1 hc.2.1 hc.2.2 q
noncomputable def unI{f:OH->Sem OH}{g:Int->Int}
  (rule:∀(i:Int) (t:Tok) (s:OJ) (Q:OH->OJ->Prop) (E:OH->OJ->Prop),Q (.int (g i) s.toks) { s with toks:=s.toks+1 }->Pk (Pi X.prog X.w) X.A (f (.int i t)) Q E s) :
  Gg X f (rU λi=>.int (g i)):=by
 intro pins s σ H x v Q I rx h;obtain⟨i,rfl,q⟩:=h;obtain⟨t,rfl⟩:=rx;exact rule i t s _ _ ⟨.int _,H,I.tok _,⟨_,rfl⟩,q⟩
def zbk:Gg X (unaryOp .USub) (rU λi=>.int (-i)):=unI λ_ _ _ _ _ q=>neg_int q
end
noncomputable def tS:V->V->Bool
 |.non,.non=>xV | .non,.int _=>xV | .int _,.non=>xV | .non,.bl _=>xV | .bl _,.non=>xV | .non,.str _=>xV | .str _,.non=>xV
 |.int _,.int _=>xV | .bl _,.bl _=>xV | .str _,.str _=>xV | .byt _,.byt _=>xV
 |.int _,.str _=>xV | .str _,.int _=>xV | .bl _,.str _=>xV | .str _,.bl _=>xV
 |_,_=>zd
def rEq:R2:=λx y H Q=>tS x y=xV/\Q (.bl (decide (x=y))) H
def rNe:R2:=λx y H Q=>tS x y=xV/\Q (.bl (!decide (x=y))) H
def zsv:decide (V.int i=V.int j)=(i == j):=by
 rw[Qt];simp
def zsw:decide (V.bl i=V.bl j)=(i == j):=by
 rw[Qt];simp
def zsx:decide (V.str i=V.str j)=(i == j):=by
 rw[Qt];simp
def zsy:decide (V.byt i=V.byt j)=(i.toList == j.toList):=by rw[Qt]<;>simp_all
section
variable {X:Cx}{a b c:Expr}{ta tb tc:TE}{pos:Pos}
noncomputable def bv(I:Inv X pins σ H s)(q:Q (.bl k) H)(e:k=k'):EP X pins σ Q (.bool k') s:=by
 subst e;exact⟨.bl k,H,I,rfl,q⟩
noncomputable def zbl:Zg X (PC .Eq) rEq:=by
 intro pins s σ H x y v u Q I rx ry h;obtain⟨hs,q⟩:=h
 cases x with
 |non=>
  cases rx
  cases y with
  |non=>cases ry;exact Xc (bv I q (by simp))
  |bl j=>cases ry;exact Xd (bv I q (by simp))
  |int j=>obtain⟨t',rfl⟩:=ry;exact Xo (bv I q (by simp))
  |str j=>obtain⟨t',rfl⟩:=ry;exact Xp (bv I q (by simp))
  |_=>exact absurd (show zd=xV from hs) Ph
 |bl i=>
  cases rx
  cases y with
  |non=>cases ry;exact Xe (bv I q (by simp))
  |bl j=>cases ry;exact eq_bool (bv I q zsw)
  |str j=>obtain⟨t',rfl⟩:=ry;exact Xf (bv I q (by simp))
  |_=>exact absurd (show zd=xV from hs) Ph
 |int i=>
  obtain⟨t,rfl⟩:=rx
  cases y with
  |non=>cases ry;exact Xr (bv I q (by simp))
  |int j=>obtain⟨t',rfl⟩:=ry;exact eq_int (bv I q zsv)
  |str j=>obtain⟨t',rfl⟩:=ry;exact Xs (bv I q (by simp))
  |_=>exact absurd (show zd=xV from hs) Ph
 |str i=>
  obtain⟨t,rfl⟩:=rx
  cases y with
  |non=>cases ry;exact Xt (bv I q (by simp))
  |bl j=>cases ry;exact Xg (bv I q (by simp))
  |int j=>obtain⟨t',rfl⟩:=ry;exact Xu (bv I q (by simp))
  |str j=>obtain⟨t',rfl⟩:=ry;exact eq_str (bv I q zsx)
  |_=>exact absurd (show zd=xV from hs) Ph
 |byt i=>
  obtain⟨t,rfl⟩:=rx
  cases y with
  |byt j=>obtain⟨t',rfl⟩:=ry;exact PySem.W.eq_bytes (bv I q zsy)
  |_=>exact absurd (show zd=xV from hs) Ph
 |_=>cases y <;> exact absurd (show zd=xV from hs) Ph
noncomputable def zbm:Zg X (PC .NotEq) rNe:=by
 intro pins s σ H x y v u Q I rx ry h;obtain⟨hs,q⟩:=h
 cases x with
 |non=>
  cases rx
  cases y with
  |non=>cases ry;exact Xh (bv I q (by simp))
  |bl j=>cases ry;exact Xi (bv I q (by simp))
  |int j=>obtain⟨t',rfl⟩:=ry;exact Xv (bv I q (by simp))
  |str j=>obtain⟨t',rfl⟩:=ry;exact Xw (bv I q (by simp))
  |_=>exact absurd (show zd=xV from hs) Ph
 |bl i=>
  cases rx
  cases y with
  |non=>cases ry;exact Xj (bv I q (by simp))
  |bl j=>cases ry;exact ne_bool (bv I q (congrArg not zsw))
  |str j=>obtain⟨t',rfl⟩:=ry;exact Xk (bv I q (by simp))
  |_=>exact absurd (show zd=xV from hs) Ph
 |int i=>
  obtain⟨t,rfl⟩:=rx
  cases y with
  |non=>cases ry;exact Xx (bv I q (by simp))
  |int j=>obtain⟨t',rfl⟩:=ry;exact ne_int (bv I q (congrArg not zsv))
  |str j=>obtain⟨t',rfl⟩:=ry;exact Xy (bv I q (by simp))
  |_=>exact absurd (show zd=xV from hs) Ph
 |str i=>
  obtain⟨t,rfl⟩:=rx
  cases y with
  |non=>cases ry;exact Xz (bv I q (by simp))
  |bl j=>cases ry;exact Xl (bv I q (by simp))
  |int j=>obtain⟨t',rfl⟩:=ry;exact XA (bv I q (by simp))
  |str j=>obtain⟨t',rfl⟩:=ry;exact ne_str (bv I q (congrArg not zsx))
  |_=>exact absurd (show zd=xV from hs) Ph
 |byt i=>
  obtain⟨t,rfl⟩:=rx
  cases y with
  |byt j=>obtain⟨t',rfl⟩:=ry;exact PySem.W.ne_bytes (bv I q (congrArg not zsy))
  |_=>exact absurd (show zd=xV from hs) Ph
 |_=>cases y <;> exact absurd (show zd=xV from hs) Ph
def zbn:Zg X (PC .Lt) (C9 λi j=>.bl (decide (i<j))):=p9 λ_ _ _ _ _ _ _ q=>lt_int q
def zbo:Zg X (PC .LtE) (C9 λi j=>.bl (decide (i<=j))):=p9 λ_ _ _ _ _ _ _ q=>le_int q
def zbp:Zg X (PC .Gt) (C9 λi j=>.bl (decide (j<i))):=p9 λ_ _ _ _ _ _ _ q=>gt_int q
def zbq:Zg X (PC .GtE) (C9 λi j=>.bl (decide (j<=i))):=p9 λ_ _ _ _ _ _ _ q=>ge_int q
noncomputable def zsz:Zg X (PC .In) (λx y H Q=>∃i j,x=.str i/\y=.str j/\Q (.bl (!(QG j i 0 j.length 1).isEmpty)) H):=by
 intro pins s σ H x y v u Q I rx ry h;obtain⟨i,j,rfl,rfl,q⟩:=h;obtain⟨t,rfl⟩:=rx;obtain⟨t',rfl⟩:=ry;exact in_str (bv I q rfl)
noncomputable def zbr:Zg X (PC .Is) (λx y H Q=>y=.non/\Q (.bl (decide (x=.non))) H):=by
 intro pins s σ H x y v u Q I rx ry h;obtain⟨rfl,q⟩:=h;cases ry;refine is_none_gen (bv I q ?_)
 cases x <;> first
  |omega
  |(obtain⟨t,rfl⟩:=rx;rfl)
noncomputable def zta:Zg X (PC .IsNot) (λx y H Q=>y=.non/\Q (.bl (!decide (x=.non))) H):=by
 intro pins s σ H x y v u Q I rx ry h;obtain⟨rfl,q⟩:=h;cases ry;refine isnot_none_gen (bv I q ?_)
 cases x <;> first
  |(rfl)
  |(obtain⟨t,rfl⟩:=rx;rfl)
noncomputable def ztb:Zg X (PC .NotIn) (λx y H Q=>∃i j,x=.str i/\y=.str j/\Q (.bl (!(!(QG j i 0 j.length 1).isEmpty))) H):=by
 intro pins s σ H x y v u Q I rx ry h;obtain⟨i,j,rfl,rfl,q⟩:=h;obtain⟨t,rfl⟩:=rx;obtain⟨t',rfl⟩:=ry;exact notIn_str (bv I q rfl)
def Zg.or(h:Zg X f r)(h':Zg X f r'):Zg X f (λx y H Q=>r x y H Q\/r' x y H Q):=by
 intro pins s σ H x y v u Q I rx ry q
 rcases q with q|q
 .exact h pins s σ H x y v u Q I rx ry q
 .exact h' pins s σ H x y v u Q I rx ry q
noncomputable def sM(b:Expr)(h:autoParam (op≠.In) u11)(h2:autoParam (op≠.NotIn) u11):RN op b=zd:=by
 have e1:(op == CmpOp.In)=zd:=by simp_all
 have e2:(op == CmpOp.NotIn)=zd:=by simp_all
 cases b <;> simp[RN,e1,e2]
noncomputable def ztc(ho:Zg X (PC op) r)(ha:PE X a ta)(hb:PE X b tb)(hm:RN op b=zd):PE X (.Compare a [op] [b] pos) (IF r ta tb):=by
 intro pins s σ H Q I h;exact wpAny_Compare1 (t5 ha hb I h λv u s2 x y H2 I2 rx ry q=>ho pins s2 σ H2 x y v u Q I2 rx ry q) hm
def zY(t:TE):TT:=λσ H Q=>t σ H λx H'=>∃k,x=.bl k/\Q k H'
noncomputable def zbs(ho:Zg X (PC op) r)(ha:PE X a ta)(hb:PE X b tb)(hm:RN op b=zd):PT X (.Compare a [op] [b] pos) (zY (IF r ta tb)):=by
 intro pins s σ H Q I h
 refine wpAny_isTrue_Compare1 (YF (ha pins s σ H _ I h) λv s1 ⟨x,H1,I1,r1,q1⟩=>YF (hb pins s1 σ H1 _ I1 q1) λu s2 ⟨y,H2,I2,r2,q2⟩=>
  YF (ho pins s2 σ H2 x y v u _ I2 r1 r2 q2) λc s3 ⟨z,H3,I3,r3,k,e,q3⟩=>?_) hm
 subst e;cases r3;exact Qw ⟨H3,I3,q3⟩
noncomputable def sD(r r':R2)(ta tb tc:TE):TE:=λσ H Q=>ta σ H λx H1=>tb σ H1 λy H2=>r x y H2 λz H3=>∃k,z=.bl k /\
 (if k=xV then tc σ H3 λw' H4=>r' y w' H4 Q else Q (.bl zd) H3)
noncomputable def zbt(ho:Zg X (PC op) r)(Cs:Zg X (PC Fp) r')(ha:PE X a ta)(hb:PE X b tb)(hc:PE X c tc)
  (hm:autoParam (Wb [op,Fp] [b,c]=zd) u22):PE X (.Compare a [op,Fp] [b,c] pos) (sD r r' ta tb tc):=by
 intro pins s σ H Q I h
 refine Compare_chain (YF (ha pins s σ H _ I h) λv s1 ⟨x,H1,I1,r1,q1⟩=>chain_link (YF (hb pins s1 σ H1 _ I1 q1) λu s2 ⟨y,H2,I2,r2,q2⟩=>
  YF (ho pins s2 σ H2 x y v u _ I2 r1 r2 q2) λd s3 ⟨z,H3,I3,r3,k,e,q3⟩=>?_)) hm
 subst e;cases r3;refine Qw ?_
 cases k with
 |false=>exact ite_ff ⟨.bl _,H3,I3,rfl,q3⟩
 |true=>exact ite_tt (chain_last (YF (hc pins s3 σ H3 _ I3 q3) λw' s4 ⟨z',H4,I4,r4,q4⟩=>Cs pins s4 σ H4 y z' u w' Q I4 r2 r4 q4))
noncomputable def zbu(ho:Zg X (PC op) r)(Cs:Zg X (PC Fp) r')(ha:PE X a ta)(hb:PE X b tb)(hc:PE X c tc)
  (hm:autoParam (Wb [op,Fp] [b,c]=zd) u22):PT X (.Compare a [op,Fp] [b,c] pos) (zY (sD r r' ta tb tc)):=by
 intro pins s σ H Q I h
 refine isTrue_chain (YF (ha pins s σ H _ I h) λv s1 ⟨x,H1,I1,r1,q1⟩=>test_link (YF (hb pins s1 σ H1 _ I1 q1) λu s2 ⟨y,H2,I2,r2,q2⟩=>
  YF (ho pins s2 σ H2 x y v u _ I2 r1 r2 q2) λd s3 ⟨z,H3,I3,r3,k,e,q3⟩=>?_)) hm
 subst e;cases r3;refine Qw ?_
 cases k with
 |false=>
  obtain⟨k',e',q'⟩:=q3;cases e';exact ite_ff ⟨H3,I3,q'⟩
 |true=>
  refine ite_tt (test_last (YF (hc pins s3 σ H3 _ I3 q3) λw' s4 ⟨z',H4,I4,r4,q4⟩=>YF (Cs pins s4 σ H4 y z' u w' _ I4 r2 r4 q4) λd' s5 ⟨z2,H5,I5,r5,k2,e2,q5⟩=>?_));subst e2;cases r5;exact Qw ⟨H5,I5,q5⟩
def ua(K:Frag)(x:V)(H:Hp)(k:Bool):Prop:=
 match x with
 |.non=>k=zd
 |.bl b=>k=b
 |.int i=>k=(i != 0)
 |.str y=>y.length<=OO/\k=((y.length:Int) != 0)
 |.byt y=>y.size<=OO/\k=((y.size:Int) != 0)
 |.ref p=>(∃xs,Zm K H p xs/\k = !xs.isEmpty)\/(∃xs,ZV K H p xs/\k = !xs.isEmpty)\/∃kvs,H p=vd (.dK kvs)/\k = !kvs.isEmpty
 |_=>False
noncomputable def zbv{κ:Type}{kvs:List (κ×V)}{vs:List (κ×OH)}(r:KV kvs vs):(!vs.isEmpty) = !kvs.isEmpty:=by cases r <;> rfl
def ztd(r:Yx xs Yu):(!Yu.toArray.isEmpty) = !xs.isEmpty:=by cases r <;> simp
def jF:(OO:Nat)<2^63:=by decide
noncomputable def zbw:LF X (λx H Q=>∃k,ua X.K x H k/\Q k H):=by
 intro pins s σ H x v Q I rx h;obtain⟨k,e,q⟩:=h;have hl:=jF;have hs:OO=16777216:=Sh
 cases x with
 |non=>
  cases rx;have e':k=zd:=e;subst e';exact truthy_none ⟨H,I,q⟩
 |bl b=>
  cases rx;have e':k=b:=e;subst e';exact Qw ⟨H,I,q⟩
 |int i=>
  obtain⟨t,rfl⟩:=rx;have e':k=(i != 0):=e;subst e';exact PySem.P.truthy_int ⟨H,I,q⟩
 |str y=>
  obtain⟨t,rfl⟩:=rx;obtain⟨hy,e'⟩:y.length<=OO/\k=((y.length:Int) != 0):=e;subst e';exact PySem.P.truthy_str (by lia) ⟨H,I.tok _,q⟩
 |byt y=>
  obtain⟨t,rfl⟩:=rx;obtain⟨hy,e'⟩:y.size<=OO/\k=((y.size:Int) != 0):=e;subst e';exact PySem.W.truthy_bytes (by lia) ⟨H,I.tok _,q⟩
 |ref p=>
  cases rx;have e':(∃xs,Zm X.K H p xs/\k = !xs.isEmpty)\/(∃xs,ZV X.K H p xs/\k = !xs.isEmpty)\/∃kvs,H p=vd (.dK kvs)/\k = !kvs.isEmpty:=e
  rcases e' with⟨xs,hx,e'⟩|⟨xs,hx,e'⟩|⟨kvs,hx,e'⟩
  .subst e'
   obtain⟨Yu,r,pl,hz⟩:=I.list hx;have YH:=r.length;exact wpAny_truthy_list pl.isList (by simp only[P9];lia) ⟨H,I.tok _,by rw[ztd r];exact q⟩
  .subst e'
   obtain⟨Yu,r,pl,hz⟩:=I.tuple hx;have YH:=r.length;exact truthy_tuple pl (by simp only[P9];lia) ⟨H,I.tok _,by rw[ztd r];exact q⟩
  .subst e'
   obtain⟨hz,hS,vs,r,m⟩:kvs.length<=OO/\(p == Qv)=zd/\∃vs,KV kvs vs/\s.heap.DictOf (cD X.prog X.w) p vs:=I.hok p _ hx;have YH:kvs.length=vs.length:=QH r;exact wpAny_truthy_dict hS m (by lia) ⟨H,I.tok _,by rw[zbv r];exact q⟩
 |_=>exact(show False from e).elim
noncomputable def zbx(ha:PE X a ta)(he:∀whole,WY a X.env whole=(do let v ←whole;SO a.pos;RR [v] (truthy v))) :
  PT X a (λσ H Q=>ta σ H λx H'=>∃k,ua X.K x H' k/\Q k H'):=by
 intro pins s σ H Q I h;exact isTrue_plain (YF (ha pins s σ H _ I h) λv s1 ⟨x,H1,I1,r1,q1⟩=>zbw pins s1 σ H1 x v Q I1 r1 q1) (he _)
noncomputable def zte:Zg X (Qq .Add) (λx y H Q=>∃i j,x=.str i/\y=.str j/\i.length+j.length<=OO/\Q (.str (i++j)) H):=by
 intro pins s σ H x y v u Q I rx ry h;obtain⟨i,j,rfl,rfl,hz,q⟩:=h;obtain⟨t,rfl⟩:=rx;obtain⟨t',rfl⟩:=ry;exact add_str (λt' tk=>⟨.str _,H,I.tok _,⟨_,rfl⟩,q⟩) hz
def vals1(r:Yx [x] us):∃u,us=[u]/\RelV x u:=by
 cases r with
 |cons r1 r2=>cases r2;exact⟨_,rfl,r1⟩
noncomputable def vals2(r:Yx [x,y] us):∃u w',us=[u,w']/\RelV x u/\RelV y w':=by
 cases r with
 |cons r1 r2=>
  cases r2 with
  |cons r3 r4=>cases r4;exact⟨_,_,rfl,r1,r3⟩
noncomputable def zby:YV X (.builtin "abs") (λxs H Q=>∃i,xs=[.int i]/\Q (.int (if i<0 then -i else i)) H):=by
 intro pins s σ H xs us Q I r h;obtain⟨i,rfl,q⟩:=h;obtain⟨u,rfl,t,rfl⟩:=vals1 r;exact call_abs_int λu tk=>⟨.int _,H,I.tok _,⟨_,rfl⟩,q⟩
noncomputable def zbz(hc:X.calm=xV):YV X (.builtin "min") (λxs H Q=>∃i j,xs=[.int i,.int j]/\Q (.int (if j<i then j else i)) H):=by
 intro pins s σ H xs us Q I r h;obtain⟨i,j,rfl,q⟩:=h;obtain⟨u,w',rfl,⟨t,rfl⟩,⟨t',rfl⟩⟩:=vals2 r;refine min_two_ints (I.ok.hd hc) λh' tk k=>⟨_,H,I.kept k,?_,q⟩
 by_cases hj:j<i
 .rw[if_pos hj,if_pos hj];exact⟨_,rfl⟩
 .rw[if_neg hj,if_neg hj];exact⟨_,rfl⟩
noncomputable def ztf:YV X (.type "int") (λxs H Q=>(∃i,xs=[.int i]/\Q (.int i) H)\/∃k,xs=[.bl k]/\Q (.int (if k then 1 else 0)) H):=by
 intro pins s σ H xs us Q I r h
 rcases h with⟨i,rfl,q⟩|⟨k,rfl,q⟩
 .obtain⟨u,rfl,t,rfl⟩:=vals1 r
  exact call_int_int ⟨.int i,H,I,⟨_,rfl⟩,q⟩
 .obtain⟨u,rfl,r1⟩:=vals1 r
  cases r1;exact call_int_bool ⟨.int _,H,I.tok _,⟨_,rfl⟩,q⟩
noncomputable def ztg:YV X (.type "str") (λxs H Q=>∃i,xs=[.int i]/\i.natAbs.log2<1920/\Q (.str (toString i)) H):=by
 intro pins s σ H xs us Q I r h;obtain⟨i,rfl,hz,q⟩:=h;obtain⟨u,rfl,t,rfl⟩:=vals1 r;exact PySem.P.str_of_int hz ⟨.str _,H,I.tok _,⟨_,rfl⟩,q⟩
end
structure Cy(h:Heap)(x dx C:Addr)(mA:Str->Option OH):Prop where
 obj:h.get? x=vd (QV C dx)
 ns:h.Ns1 dx mA
 ne:dx≠x
noncomputable def zth{h:Heap}{mA:Str->Option OH}(n:h.Ns1 dx mA):∃od,h.get? dx=vd od/\∀name,Sn name od=vd (mA name):=by
 obtain⟨o,es,ep,ho,hd,hk,_,hm⟩:=n;refine⟨o,ho,λname=>?_⟩;have e:=hm name;unfold nsFind findBy at e;rw[←Array.find?_toList] at e;unfold Sn;rw[hd];dsimp only;split
 simp_all
 .rename_i q
  rw[q] at e
  have a:es.toList.any (·.refKey)=zd:=by
   rw[VT];intro y hy;obtain⟨z,t,Jl⟩:=hk y (Array.mem_toList_iff.mp hy);simp[DictEntry.refKey,Jl]
  have a':¬es.toList.any (·.refKey)=xV:=by rw[a]<;>simp_all
  rw[if_neg a']<;>simp_all
def Cy.look(I:Cy h x dx C mA):∃od,Rv h x (QV C dx) C (vd od)/\∀name,Sn name od=vd (mA name):=
 let ⟨od,ho,hl⟩:=zth I.ns
 ⟨od,⟨I.obj,rfl,rfl,ho⟩,hl⟩
section
variable {prog:Pb}{w:Pp}{A:Pw}{E:OH->OJ->Prop}{s:OJ}{K:Frag}{x dx C f:Addr}{mA:Str->Option OH}{name:Str}{v:OH}
noncomputable def get_map(X:K.In s.heap)(I:Cy s.heap x dx C mA)(hg:RZ K C name=xV)(hh:QK K C=xV)
  (ha:Pe K (.ref C) name=vd zc) (hv:mA name=vd v) (Hy:T9 v=xV) (h:Q v { s with toks:=s.toks+1 }) :
  Pk (Pi prog w) A (WP (.ref x) name expr) Q E s:=by
 obtain⟨od,J,hl⟩:=I.look;exact PySem.W.get_value X J (S8 hg).1 (Vk hh ha rfl (by simp_all)) Hy h
noncomputable def zca(X:K.In s.heap)(I:Cy s.heap x dx C mA)(hg:RZ K C name=xV)
  (hf:Pe K (.ref C) name=vd (vd (.ref f))) (ht:RF K (.ref f)=xV) (hv:mA name=zc) (h:Q (.ref f,[.ref x]) s) :
  Pk (Pi prog w) A (RO (.ref x) name pl) Q E s:=by
 obtain⟨od,J,hl⟩:=I.look;exact PySem.W.method_fn X J (S8 hg).1 (S8 hg).2 hf (beq_iff_eq.mp ht) (by show (Sn name od).map (·.isSome)=vd zd;rw[hl,hv];rfl) h
noncomputable def zcb(X:K.In s.heap)(I:Cy s.heap x dx C mA)
  (hs:Pe K (.ref C) "__setattr__"=vd (vd (.builtin "object.__setattr__"))) (hp:Tz K C=xV) (ht:UG K C name=vd zc) (hh:QK K C=xV)
  (hw:VP mA ns) (hsz:ns.length<=OO)
  (h:∀h',Cy h' x dx C (λy=>if y=name then vd v else mA y)->Rh dx s.heap h'->Q () { s with heap:=h',toks:=s.toks+2 }) :
  Pk (Pi prog w) A (X0 (.ref x) name v) Q E s:=by
 obtain⟨od,J,hl⟩:=I.look;refine PySem.W.set_plain X J hs (PySem.W.osa_open (s:={ s with toks:=s.toks+1 }) (r:=zc) X J hp ht λb=>?_);obtain⟨cd,hc,Ef⟩:=PySem.W.any_some hh;have hx:s.heap.get? x=vd ⟨.ref C,vd dx,.plain,#[]⟩:=I.obj;refine ON (Pg (ON (ON (UZ hx (ON (Yk (s:={ s with toks:=s.toks+1 }) (PySem.W.looks_clsIn X hc) ?_))))));rw[Ef];refine Pg (a:=vd dx) (ON (Pg (ON ?_)));refine wpAny_nsSet1 (s:={ s with toks:=s.toks+1 }) I.ns λh' GD FX=>?_;obtain⟨oD,esD,epD,BB,BV,DX⟩:=GD.count (Yr name v hw);refine ON (wpAny_lookBehind BB (by rw[BV];exact Wc (OS DX (by simp_all))) ?_);exact Pg (h _ ⟨(FX.2 _ (QP I.ne)).trans I.obj,GD,I.ne⟩ FX)
noncomputable def zcc(X:K.In s.heap)(hm:UH K C=xV)
  (hi:Pe K (.ref C) "__init__"=vd (vd (.ref f))) (hf:U0 K (.ref f)=vd (.type "function"))
  (h:So (Pi prog w) (A.under (.builtin "type.__call__" ⟨.ref C::vs,kw⟩)) (.call (.ref f) ⟨.ref (s.heap.objs.size+1)::vs,kw⟩) (PySem.W.InitBack (s.heap.objs.size+1) R)
   { s with heap:=(s.heap.push QL).push (QV C s.heap.objs.size) }) :
  So (Pi prog w) A (.call (.ref C) ⟨vs,kw⟩) R s:=by
 obtain⟨hh,g,d,t,os⟩:=s;exact PySem.W.make_core (PySem.W.makes_of X hm) (Qa X hi) (λself=>WC X self hf) (.inl rfl) h
end
noncomputable def de(f:Str)(v:V):List (Str×V)->List (Str×V)
 |[]=>[(f,v)]
 |(g,x)::r=>if g=f then (g,v)::r else (g,x)::de f v r
theorem zti(f g:Str)(v:V):∀fs:List (Str×V),(de f v fs).lookup g=if g=f then vd v else fs.lookup g
 |[]=>by
  show TF g [(f,v)]=_
  by_cases h:g=f
  .simp_all
  .simp_all
 |(k,x)::r=>by
  have ih:=zti f g v r;rw[show de f v ((k,x)::r)=(if k=f then (k,v)::r else (k,x)::de f v r) from rfl]
  by_cases hk:k=f
  .grind
  .grind
theorem qH(f:Str)(v:V):∀fs:List (Str×V),f∈(de f v fs).map (·.1)/\∀g,g∈fs.map (·.1)->g∈(de f v fs).map (·.1)
 |[]=>⟨by simp[de],λg h=>by simp at h⟩
 |(k,x)::r=>by
  obtain⟨i1,i2⟩:=qH f v r;rw[show de f v ((k,x)::r)=(if k=f then (k,v)::r else (k,x)::de f v r) from rfl]
  by_cases hk:k=f
  .grind
  .grind
theorem ztj(f:Str)(v:V):∀fs:List (Str×V),(de f v fs).length<=fs.length+1
 |[]=>by simp[de]
 |(k,x)::r=>by
  have ih:=ztj f v r;rw[show de f v ((k,x)::r)=(if k=f then (k,v)::r else (k,x)::de f v r) from rfl]
  by_cases hk:k=f
  .simp_all
  .simp_all
def Zi.some_of{v:V}{o:Option OH}(r:Zi (vd v) o):∃u,o=vd u/\RelV v u:=by
 cases o with
 |none=>exact(r).elim
 |some u=>exact⟨u,rfl,r⟩
def Zi.none_of(r:Zi zc o):o=zc:=by
 cases o with
 |none=>rfl
 |some u=>exact(show False from r).elim
noncomputable def ztk(r:RelV v u):T9 u=xV:=by
 cases v with
 |non=>cases (show u=QJ from r);rfl
 |bl b=>cases (show u=VC b from r);rfl
 |int i=>obtain⟨t,e⟩:=(show ∃t,u=V9 i t from r);cases e;rfl
 |str x=>obtain⟨t,e⟩:=(show ∃t,u=Tc x t from r);cases e;rfl
 |byt b=>obtain⟨t,e⟩:=(show ∃t,u=Yd b t from r);cases e;rfl
 |flt b=>obtain⟨t,e⟩:=(show ∃t,u=Wt b t from r);cases e;rfl
 |ref a=>cases (show u=Pr a from r);rfl
 |ty n=>cases (show u=Rk n from r);rfl
section
variable {P:Pb}{w:Pp}{H H':Hp}{h h':Heap}{a C dx:Addr}{fs Fb:List (Str×V)}
noncomputable def oy(hok:Zh P w H h)(e:H a=vd (.ins C dx fs)):∃mA,Cy h a dx C mA/\(∀f,Zi (fs.lookup f) (mA f))/\VP mA (fs.map (·.1))/\fs.length<=1000/\H dx=vd (.own a):=by
 obtain⟨d,z,ne,ob,mA,n,r,q⟩:=(hok a _ e);exact⟨mA,⟨ob,n,ne⟩,r,q,z,d⟩
end
structure Iw(K:Frag)(C:Addr):Prop where
 pg:RZ K C XJ=xV
 hd:QK K C=xV
 po:Tz K C=xV
 sa:Pe K (.ref C) "__setattr__"=vd (vd (.builtin "object.__setattr__"))
def Iw.get{K:Frag}{C:Addr}(c:Iw K C)(f:Str):RZ K C f=xV:=c.pg
def Y7(K:Frag)(C:Addr)(f:Str):Prop:=Pe K (.ref C) f=vd zc
def Y7.taker{K:Frag}{C:Addr}{f:Str}(n:Y7 K C f):UG K C f=vd zc:=by
 unfold UG;rw[show Pe K (.ref C) f=vd zc from n];rfl
structure Ec(K:Frag)(C:Addr)(m:Str)(f:Addr):Prop where
 at_:Pe K (.ref C) m=vd (vd (.ref f))
 fn:RF K (.ref f)=xV
 kp:P5 K (.ref f)=xV
section
variable {X:Cx}{pins:List (Addr×Obj)}{σ:St}{H:Hp}{s:OJ}{a C dx:Addr}{fs:List (Str×V)}{f:Str}{v:V}{A:Pw}{E:OH->OJ->Prop}
noncomputable def zcd(I:Inv X pins σ H s)(e:H a=vd (.ins C dx fs))(c:Iw X.K C)(n:Y7 X.K C f)(l:fs.lookup f=vd v)
  (h:∀u s',Inv X pins σ H s'->RelV v u->Q u s'):Pk (Pi X.prog X.w) A (WP (.ref a) f b) Q E s:=by
 obtain⟨mA,O,r,_,_,_⟩:=oy I.hok e;obtain⟨u,hu,ru⟩:=Zi.some_of (v:=v) (o:=mA f) (by rw[←l];exact r f);exact get_map I.kIn O (c.get f) c.hd n hu (ztk ru) (h u _ (I.tok _) ru)
noncomputable def ztl(I:Inv X pins σ H s)(e:H a=vd (.ins C dx fs))(c:Iw X.K C)(k:Ec X.K C m g)(l:fs.lookup m=zc)
  (h:Q (.ref g,[.ref a]) s):Pk (Pi X.prog X.w) A (RO (.ref a) m pl) Q E s:=by
 obtain⟨mA,O,r,_,_,_⟩:=oy I.hok e;have hn:mA m=zc:=Zi.none_of (by rw[←l];exact r m);exact zca I.kIn O (c.get m) k.at_ k.fn hn h
noncomputable def zce(I:Inv X pins σ H s)(e:H a=vd (.ins C dx fs))(c:Iw X.K C)(n:Y7 X.K C f)(hl:fs.length<1000)(ry:RelV y u)
  (h:∀s',Inv X pins σ (upd H a (.ins C dx (de f y fs))) s'->Q () s'):Pk (Pi X.prog X.w) A (X0 (.ref a) f u) Q E s:=by
 obtain⟨mA,O,r,wi,_,ho⟩:=oy I.hok e
 have hz:(fs.map (·.1)).length<=sizeLine:=by rw[PV,Sh];lia
 refine zcb I.kIn O c.sa c.po n.taker c.hd wi hz λh' O' sb=>h _ ?_
 have hd:∃o,h'.get? dx=vd o:=let ⟨o,_,_,e',_⟩:=O'.ns;⟨o,e'⟩
 refine I.write (x:=a) (e:=dx) (by rw[e];exact QW) (.inr ho) (λb q hb z=>(sb.2 b hb).trans z) hd ?_;refine⟨by rw[aJ O.ne];exact ho,?_,O.ne,O'.obj,_,O'.ns,λg=>?_,λg hg=>?_⟩
 .have:=ztj f y fs;lia
 .show Zi ((de f y fs).lookup g) (if g=f then vd u else mA g)
  rw[zti]
  by_cases q:g=f
  .rw[if_pos q,if_pos q];exact ry
  .simp_all
 .by_cases q:g=f
  .rw[q];exact(qH f y fs).1
  .refine(qH f y fs).2 g (wi g λz=>hg ?_)
   show (if g=f then vd u else mA g)=zc;rw[if_neg q];exact z
def Inv.made(I:Inv X pins σ H s):Inv X pins σ (upd (upd H s.heap.objs.size (.own (s.heap.objs.size+1))) (s.heap.objs.size+1) (.ins C s.heap.objs.size []))
  { s with heap:=(s.heap.push QL).push (QV C s.heap.objs.size) }:=by
 have e1:(s.heap.push QL).get? s.heap.objs.size=vd PySem.W.emptyDict:=Pm s.heap rfl
 have e2:((s.heap.push QL).push (QV C s.heap.objs.size)).get? (s.heap.objs.size+1)=vd (QV C s.heap.objs.size):=by
  have:=Pm (s.heap.push QL) (o:=QV C s.heap.objs.size) rfl
  rwa [Q9] at this
 have e3:(s.heap.push QL).Ns s.heap.objs.size (λ_=>zc):=⟨QL,#[],_,e1,rfl,(λe he=>absurd he (by simp)),λ_=>rfl⟩;have I1:=I.laid (a:=s.heap.objs.size) (o:=.own (s.heap.objs.size+1)) (h':=s.heap.push QL) (t':=s.toks) (λb u q=>OK _ q) (Pc _) ⟨_,e1⟩;refine I1.laid (a:=s.heap.objs.size+1) (o:=.ins C s.heap.objs.size []) (t':=s.toks) (λb u q=>OK _ q) (X1 (Q9 _ _)) ?_;have ne:s.heap.objs.size≠s.heap.objs.size+1:=Pl (Ua _);refine⟨by rw[aJ ne,bg],Ri _,ne,e2,λ_=>zc,(VU e3).at λo q=>OK _ q,λ_=>QW,λy hy=>absurd rfl hy⟩
noncomputable def ztm(hb:P1 e f env (eval e env)=eval e env)
  (h:Pk (Pi prog w) A (eval e env) (λo za=>Pk (Pi prog w) A (WP o f xV) Q E za) E s):Pk (Pi prog w) A (eval (.Attribute e f pos) env) Q E s:=Attribute_any_ h (by rw[arm_eval_Attribute,hb])
end
noncomputable def Li(K:Frag)(ta:TE)(f:Str):TE:=λσ H Q=>ta σ H λx H1=>∃a C dx fs v,x=.ref a/\H1 a=vd (.ins C dx fs)/\Iw K C/\Y7 K C f/\fs.lookup f=vd v/\Q v H1
noncomputable def Ll(K:Frag)(ta tv:TE)(f:Str):TS:=λD σ H=>tv σ H λy H1=>ta σ H1 λx H2=>∃a C dx fs,x=.ref a/\H2 a=vd (.ins C dx fs)/\Iw K C/\Y7 K C f/\fs.length<1000 /\
 D.nx σ (upd H2 a (.ins C dx (de f y fs)))
section
variable {X:Cx}{o e value:Expr}{f:Str}{pos pos' Z8:Pos}{ta tv:TE}{pins:List (Addr×Obj)}{σ:St}{H:Hp}{s:OJ}{A:Pw}{E Q:OH->OJ->Prop}{c:OH}{b:Bool}
noncomputable def zcf(he:PE X e ta)(hb:P1 e f X.env (eval e X.env)=eval e X.env):PE X (.Attribute e f pos) (Li X.K ta f):=by
 intro pins s σ H Q I h;refine ztm hb (YF (he pins s σ H _ I h) λu s1 ⟨x,H1,I1,rx,a,C,dx,fs,v,ex,ea,c,n,l,q⟩=>?_);subst ex;obtain rfl:u=Pr a:=rx;exact zcd I1 ea c n l λu' s2 I2 ru=>⟨v,H1,I2,ru,q⟩
noncomputable def zcg(ha:PE X o ta)(hv:PE X value tv)(hs:P4 value (vd (.Attribute o f pos')) pos.line X.env=pure zd):PS X (.Assign [.Attribute o f pos'] value pos) (Ll X.K ta tv f):=by
 intro pins s σ H D I h;refine SE (YF (hv pins s σ H _ I h) λu s1 ⟨y,H1,I1,ry,q⟩=>YF (ha pins s1 σ H1 _ I1 q) λov s2 ⟨x,H2,I2,rx,a,C,dx,fs,ex,ea,c,n,l,q2⟩=>?_) hs;subst ex;obtain rfl:ov=Pr a:=rx;exact zce I2 ea c n l ry λs3 I3=>⟨σ,_,I3,q2⟩
inductive Z9(K:Frag)(H:Hp):V->OH->Prop where
 |non:Z9 K H .non (.type "NoneType")
 |bl (x:Bool):Z9 K H (.bl x) (.type "bool")
 |int (i:Int):Z9 K H (.int i) (.type "int")
 |str (x:Str):Z9 K H (.str x) (.type "str")
 |flt (x:UInt64):Z9 K H (.flt x) (.type "float")
 |lst {a:Addr}{xs:List V} (e:H a=vd (.lst xs)):Z9 K H (.ref a) (.type "list")
 |frz {a:Addr}{o:Obj}{xs:List V} (e:H a=vd (.frz o (.lst xs))):Z9 K H (.ref a) (.type "list")
 |tup {a:Addr}{xs:List V} (e:H a=vd (.tup xs)):Z9 K H (.ref a) (.type "tuple")
 |dK {a:Addr}{kvs:List (Key×V)} (e:H a=vd (.dK kvs)):Z9 K H (.ref a) (.type "dict")
 |dT {a:Addr}{kvs:List (List Key×V)} (e:H a=vd (.dT kvs)):Z9 K H (.ref a) (.type "dict")
 |ins {a C dx:Addr}{fs:List (Str×V)} (e:H a=vd (.ins C dx fs)) (cl:Iw K C) (ha:Pe K (.ref C) "__class__"=vd (vd (.builtin "object.__class__")))
   (hn:Sq K (.builtin "object.__class__") "__get__"=vd (vd (.builtin "getset_descriptor.__get__"))) (htk:S2 K (.builtin "object.__class__")=vd xV)
   (hm:Q6 K C (.type "object")=vd xV):Z9 K H (.ref a) (.ref C)
noncomputable def nI(I:Inv X pins σ H s)(rx:RelV x u)(ty:Z9 X.K H x t)(e:Qr X.K t c=vd b)(h:∀tk,Q (.bool b) { s with toks:=tk }) :
  Pk (Pi X.prog X.w) A (call (.builtin "isinstance") [u,c]) Q E s:=by
 cases ty with
 |non=>cases (show u=QJ from rx);exact PX PySem.W.kitx_none I.kIn QW e (λz=>nomatch z) h
 |bl y=>cases (show u=VC y from rx);exact PX PySem.W.kitx_bool I.kIn QW e (λz=>nomatch z) h
 |int i=>obtain⟨t,q⟩:=(show ∃t,u=V9 i t from rx);cases q;exact PX PySem.W.kitx_int I.kIn QW e (λz=>nomatch z) h
 |str y=>obtain⟨t,q⟩:=(show ∃t,u=Tc y t from rx);cases q;exact PX PySem.W.kitx_str I.kIn QW e (λz=>nomatch z) h
 |flt y=>obtain⟨t,q⟩:=(show ∃t,u=Wt y t from rx);cases q;exact PX PySem.W.kitx_float I.kIn QW e (λz=>nomatch z) h
 |@lst a xs ea=>
  cases (show u=Pr a from rx);obtain⟨_,_,n,_,h1⟩:=(show YM X.prog X.w H s.heap a (.lst xs) from I.hok a _ ea);exact PX TH I.kIn ⟨_,h1,rfl⟩ e (λz=>nomatch z) h
 |@frz a ob xs ea=>
  cases (show u=Pr a from rx);obtain⟨_,_,_,n,_,h1⟩:=(show YM X.prog X.w H s.heap a (.frz ob (.lst xs)) from I.hok a _ ea);exact PX TH I.kIn ⟨_,h1,rfl⟩ e (λz=>nomatch z) h
 |@tup a xs ea=>
  cases (show u=Pr a from rx);obtain⟨_,_,_,p⟩:=(show YM X.prog X.w H s.heap a (.tup xs) from I.hok a _ ea);obtain⟨o,h1,h2,_⟩:=p;exact PX VE I.kIn ⟨o,h1,h2⟩ e (λz=>nomatch z) h
 |@dK a kvs ea=>
  cases (show u=Pr a from rx);obtain⟨_,_,vs,_,p⟩:=(show YM X.prog X.w H s.heap a (.dK kvs) from I.hok a _ ea);obtain⟨o,es,ep,h1,h2,_⟩:=p;exact PX TJ I.kIn ⟨o,h1,h2.1⟩ e (λz=>nomatch z) h
 |@dT a kvs ea=>
  cases (show u=Pr a from rx);obtain⟨_,_,xs,_,o,es,ep,h1,h2,_⟩:=(show YM X.prog X.w H s.heap a (.dT kvs) from I.hok a _ ea);exact PX TJ I.kIn ⟨o,h1,h2.1⟩ e (λz=>nomatch z) h
 |@ins a C dx fs ea cl ha hn htk hm=>
  cases (show u=Pr a from rx);obtain⟨mA,O,_⟩:=oy I.hok ea;obtain⟨od,J,_⟩:=O.look;exact PX (PySem.W.kitx_own (cl.get _) cl.hd ha hn htk hm) I.kIn J e (λz=>nomatch z) h
end
structure YD(k:Nat)(A:Pw):Prop where
 hd:A.handled=zc
 dp:A.depth+3*k+5<recursionLimit
 un:A.units+16*k+200<XM
 gd:A.guards=vd []
def YD.mono(r:YD k A)(h:j<=k):YD j A:=⟨r.hd,by have:=r.dp;lia,by have:=r.un;lia,r.gd⟩
theorem YD.deeper(r:YD (k+1) A)(env:Env):YD k (A.deeper env):=⟨r.hd,by have:=r.dp;show A.depth+1+3*k+5<_;lia,by have:=r.un;simp_all;lia,r.gd⟩
noncomputable def zch{A:Pw}:(A.under (.builtin "type.__call__" ⟨.ref C::us,kw⟩)).depth=A.depth+1:=by first|rfl|simp[VW,Code.weight,Code.isCreation,X2,Code.isCaller,Code.frames,X3,guardIds]
theorem zci{A:Pw}:(A.under (.builtin "type.__call__" ⟨.ref C::us,kw⟩)).units=A.units+1:=rfl
def YD.make(r:YD (k+1) A)(C:Addr)(us:List OH)(kw:List (Str×OH)):YD k (A.under (.builtin "type.__call__" ⟨.ref C::us,kw⟩)):=⟨r.hd,by have:=r.dp;rw[zch];lia,by have:=r.un;rw[zci];lia,by first|exact r.gd|(simpa[VW,X2,guardIds] using r.gd)⟩
theorem YD.depth(r:YD k A):A.depth<recursionLimit:=by have:=r.dp;lia
def p8:TA:=λ_ H Q=>Q [] H
def pB(ta:TE)(tr:TA):TA:=λσ H Q=>ta σ H λx H1=>tr σ H1 λxs H2=>Q (x::xs) H2
section
variable {X:Cx}{e:Expr}{es:List Expr}{te:TE}{t:TA}{pos:Pos}
def cu:PA X [] p8:=λ_ _ _ _ H Q I h=>Sr ⟨[],H,I,.nil,h⟩
noncomputable def br(ha:PE X e te)(hr:PA X es t)(hs:autoParam (OM (e::es) X.env=(zd,eval e X.env)::OM es X.env) u10):PA X (e::es) (pB te t):=by
 intro pos pins s σ H Q I h;rw[hs];refine RG (YF (ha pins s σ H _ I h) λu s1 ⟨x,H1,I1,r1,q1⟩=>?_);exact YF (hr pos pins s1 σ H1 _ I1 q1) λus s2 ⟨xs,H2,I2,r2,q2⟩=>⟨x::xs,H2,I2,.cons r1 r2,q2⟩
def La(t:TA):TE:=λσ H Q=>t σ H λxs H1=>xs.length<=OO/\∀p,H1 p=zc->Q (.ref p) (upd H1 p (.tup xs))
def Lf(t:TA):TE:=λσ H Q=>t σ H λxs H1=>xs.length<=OO/\∀p,H1 p=zc->Q (.ref p) (upd H1 p (.lst xs))
noncomputable def sL{x1}(h:PA X es t):PE X (.Tuple es x1 pos) (La t):=by
 intro pins s σ H Q I hq;refine Vl (YF (h pos pins s σ H _ I hq) λus s1 ⟨xs,H1,I1,r,z,q⟩=>⟨by rw[←r.length];exact z,?_⟩);have hf:=I1.hok.fresh (Pc _);refine⟨.ref _,upd H1 _ _,I1.laid  (λb u e=>OK _ e) (Pc _) ?_,rfl,q _ hf⟩;exact⟨z,us,r,⟨_,Pm _ rfl,rfl,_,rfl⟩⟩
noncomputable def kI(h:PA X es t):PE X (.List es pos) (Lf t):=by
 intro pins s σ H Q I hq;refine wpAny_List_spliced (YF (h pos pins s σ H _ I hq) λus s1 ⟨xs,H1,I1,r,z,q⟩=>⟨by rw[←r.length];exact z,?_⟩);have hf:=I1.hok.fresh (Pc _);refine⟨.ref _,upd H1 _ _,I1.laid  (λb u e=>OK _ e) (Pc _) ?_,rfl,q _ hf⟩;exact⟨z,us,0,r,Pm _ rfl⟩
end
abbrev Sp:=List V->Hp->VK->XK->Prop
abbrev Jr:=List Env->Hp->OJ->XK->OH->OJ->Prop
structure DY(P:Pb)(w:Pp)(K:Frag)(mg:Str->Option OH)(base:Heap)(A:Pw)(outer:List Env)(s:OJ)(H:Hp):Prop where
 frames:A.frames=vd outer
 mod:Mod K mg base
 bs:∀b o,base.get? b=vd o->s.heap.get? b=vd o/\H b=zc
 bsz:base.objs.size<=s.heap.objs.size
 funs:s.heap.FunFrames base outer
 frf:∀b∈frs outer,H b=zc
 hok:Zh P w H s.heap
 bare:SN s.gens
def CE(outer:List Env)(P:Pb)(w:Pp)(H:Hp)(s:OJ)(Q:VK)(u:OH)(s':OJ):Prop:=∃v H',s'.os=s.os/\SN s'.gens/\Un (frs outer) [] H H' s.heap s'.heap/\Zh P w H' s'.heap/\RelV v u/\Q v H'
def CR(CX:Jr)(outer:List Env)(P:Pb)(w:Pp)(H:Hp)(s:OJ)(Q:VK)(E:XK)(r:Wd)(s':OJ):Prop:=
 match r with
 |.ok (.ret u)=>CE outer P w H s Q u s'
 |.ok _=>False
 |.error e=>CX outer H s E e s'
structure YJ(P:Pb)(w:Pp)(K:Frag)(mg:Str->Option OH)(base:Heap)(CX:Jr)(k:Nat)(f:Addr)(fd:Qm)(ps:List Str)(sp:Sp):Prop where
 len:∀vs H Q E,sp vs H Q E->vs.length=ps.length
 run:∀(A:Pw) (outer:List Env) (s:OJ) (H:Hp) (args:Args) (us:List OH) (vs:List V) (Q:VK) (E:XK),YD k A->DY P w K mg base A outer s H->VX s fd args (ps.zip us)->Yx vs us->sp vs H Q E ->
  So (Pi P w) A (.call (.ref f) args) (CR CX outer P w H s Q E) s
def DY.make{P:Pb}{w:Pp}{K:Frag}{mg:Str->Option OH}{base:Heap}{A:Pw}{outer:List Env}{s:OJ}{H:Hp}(e:DY P w K mg base A outer s H)(C:Addr)(us:List OH)(kw:List (Str×OH)) :
  DY P w K mg base (A.under (.builtin "type.__call__" ⟨.ref C::us,kw⟩)) outer s H:=⟨by first|exact e.frames|(simpa[VW,Code.envs,X3,pushEnvs] using e.frames),e.mod,e.bs,e.bsz,e.funs,e.frf,e.hok,e.bare⟩
section
variable {X:Cx}{pins:List (Addr×Obj)}{σ:St}{H:Hp}{s s':OJ}
def Inv.env0(I:Inv X pins σ H s):DY X.prog X.w X.K X.mg X.base X.A X.stack s H:=⟨I.ok.frames,I.ok.mod,I.bs,OS I.ok.bsz I.sz,I.stack,I.stkFree,I.hok,I.bare⟩
def Inv.after(I:Inv X pins σ H s)(h:CE X.stack X.prog X.w H s Q u s'):EP X pins σ Q u s':=by
 obtain⟨v,H',os,bare,un,hok,r,q⟩:=h;obtain⟨hh,g,d,t,os'⟩:=s';obtain rfl:os'=s.os:=os;exact⟨v,H',I.call      un hok bare (λb z=>absurd z (by simp)),r,q⟩
end
def tu(sp:Sp)(Ei:List V)(E:XK)(t:TA):TE:=λσ H Q=>t σ H λvs H1=>sp (vs++Ei) H1 Q E
noncomputable def pA(C:Addr)(m:Str)(sp:Sp)(Ei:List V)(E:XK)(ta:TE)(t:TA):TE:=λσ H Q=>ta σ H λx H1=>∃a dx fs,x=.ref a/\H1 a=vd (.ins C dx fs)/\fs.lookup m=zc /\
 t σ H1 λvs H2=>sp (x::(vs++Ei)) H2 Q E
noncomputable def JX(C:Addr)(sp:Sp)(Ei:List V)(E:XK)(t:TA):TE:=λσ H Q=>t σ H λvs H1=>∀x dx,H1 x=zc->H1 dx=zc->dx≠x ->
 sp (.ref x::(vs++Ei)) (upd (upd H1 dx (.own x)) x (.ins C dx [])) (λv H2=>v=.non/\Q (.ref x) H2) E
def Binds(K:Frag)(fd:Qm)(ps:List Str)(ds:List OH):Prop:=∀(s:OJ) (us:List OH),K.In s.heap->(us++ds).length=ps.length->VX s fd ⟨us,[]⟩ (ps.zip (us++ds))
def Binds.all{K:Frag}{fd:Qm}{ps:List Str}(h:∀us:List OH,us.length=ps.length->QZ fd ⟨us,[]⟩=pure (ps.zip us)):Binds K fd ps []:=λs us _ hl=>by
 rw[Qu] at hl ⊢;exact .of_eq (h us hl)
def eO(CX:Jr)(X:Cx)(E:XK):Prop:=∀(pins:List (Addr×Obj)) (σ:St) (H:Hp) (s:OJ) (e:OH) (s':OJ),Inv X pins σ H s->CX X.stack H s E e s'->X.xe e s'
section
variable {X:Cx}{CX:Jr}{k:Nat}{f C:Addr}{fd:Qm}{ps:List Str}{sp:Sp}{Ei:List V}{ds:List OH}{E:XK}{x m:Str}{p pos apos:Pos}{e o:Expr}{es:List Expr}{ta:TE}{t:TA}
noncomputable def sI(F:YJ X.prog X.w X.K X.mg X.base CX k f fd ps sp)(hr:YD k X.A)(hb:Binds X.K fd ps ds)(hd:Yx Ei ds)(hx:eO CX X E)
  (I:Inv X pins σ H s) (r:Yx vs us) (h:sp (vs++Ei) H Q E):Pk (Pi X.prog X.w) X.A (call (.ref f) us) (EP X pins σ Q) X.xe s:=by
 have r2:=r.append hd
 have hl:(us++ds).length=ps.length:=by rw[←r2.length];exact F.len _ _ _ _ h
 refine Tg (Ss (F.run X.A _ s H _ _ _ Q E hr I.env0 (hb s us I.kIn hl) r2 h) λr s' hq=>?_)
 cases r with
 |error e=>exact hx pins σ H s e s' I hq
 |ok fl=>
  cases fl with
  |ret u=>exact I.after hq
  |next=>exact PZ hq
  |brk=>exact PZ hq
  |cont=>exact PZ hq
noncomputable def ztn(F:YJ X.prog X.w X.K X.mg X.base CX k f fd ps sp)(hr:YD k X.A)(hg:Gl X x)(hm:X.mg x=vd (.ref f))(hk:P5 X.K (.ref f)=xV)(hb:Binds X.K fd ps ds)(hd:Yx Ei ds)(hx:eO CX X E)
  (ha:PA X (e::es) t) (YU:autoParam ((x == ("__debug__" : Str))=zd) u11) (he:autoParam (OM (e::es) X.env=(zd,eval e X.env)::OM es X.env) u10) (Y1:autoParam ((PK pos (OM es X.env)).any (·.1)=zd) u10) :
  PE X (.Call (.Name x p) (e::es) [] pos) (tu sp Ei E t):=by
 intro pins s σ H Q I h;refine QB (ju I hg hm ?_ YU);refine RH  I.ok.mod.kin hk (YF (ha pos pins s σ H _ I h) λus s1 ⟨vs,H1,I1,r,q⟩=>⟨I1.kIn,?_⟩) he Y1;exact sI F hr hb hd hx I1 r q
noncomputable def zto(he:PE X o ta)(c:Iw X.K C)(hm:Ec X.K C m f)(F:YJ X.prog X.w X.K X.mg X.base CX k f fd ps sp)(hr:YD k X.A)(hb:Binds X.K fd ps ds)(hd:Yx Ei ds)(hx:eO CX X E)(ha:PA X (e::es) t)
  (CJ:autoParam (OM (e::es) X.env=(zd,eval e X.env)::OM es X.env) u10) (Y1:autoParam ((PK pos (OM es X.env)).any (·.1)=zd) u10)
  (ht:autoParam (eval (.Call (.Attribute o m apos) (e::es) [] pos) X.env=(do
   let ov ←eval o X.env
   SO apos.atName
   let (f,first) ←RR [ov] (RO ov m pl)
   Ub pos f first (PK pos (OM (e::es) X.env)) (QS pos (Qb [] X.env)))) u10) :
  PE X (.Call (.Attribute o m apos) (e::es) [] pos) (pA C m sp Ei E ta t):=by
 intro pins s σ H Q I h;refine SG (pl:=pl) (YF (he pins s σ H _ I h) λu s1 ⟨x,H1,I1,rx,a,dx,fs,ex,ea,l,q⟩=>?_) ht;subst ex;obtain rfl:u=Pr a:=rx;refine ztl I1 ea c hm l ?_;refine RH (first:=[.ref a]) (h₀:=X.base) I.ok.mod.kin hm.kp (YF (ha pos pins s1 σ H1 _ I1 q) λus s2 ⟨vs,H2,I2,r,q2⟩=>⟨I2.kIn,?_⟩) CJ Y1;exact sI (us:=.ref a::us) (vs:=.ref a::vs) F hr hb hd hx I2 (.cons rfl r) q2
noncomputable def ztp(he:PE X o ta)(c:Iw X.K C)(hm:Ec X.K C m f)(F:YJ X.prog X.w X.K X.mg X.base CX k f fd ps sp)(hr:YD k X.A)(hb:Binds X.K fd ps ds)(hd:Yx Ei ds)(hx:eO CX X E)
  (ht:autoParam (eval (.Call (.Attribute o m apos) [] [] pos) X.env=(do
   let ov ←eval o X.env
   SO apos.atName
   let (f,first) ←RR [ov] (RO ov m pl)
   Ub pos f first (PK pos (OM [] X.env)) (QS pos (Qb [] X.env)))) u10) :
  PE X (.Call (.Attribute o m apos) [] [] pos) (pA C m sp Ei E ta p8):=by
 intro pins s σ H Q I h;refine SG (pl:=pl) (YF (he pins s σ H _ I h) λu s1 ⟨x,H1,I1,rx,a,dx,fs,ex,ea,l,q⟩=>?_) ht;subst ex;obtain rfl:u=Pr a:=rx;refine ztl I1 ea c hm l ?_;exact PySem.W.callWith_K0 (first:=[.ref a]) I1.kIn hm.kp (sI (us:=[.ref a]) (vs:=[.ref a]) F hr hb hd hx I1 (.cons rfl .nil) q)
structure Mk(K:Frag)(C f:Addr):Prop where
 makes:UH K C=xV
 init:Pe K (.ref C) "__init__"=vd (vd (.ref f))
 fn:RF K (.ref f)=xV
 kp:P5 K (.ref C)=xV
noncomputable def zcj(M:Mk X.K C f)(F:YJ X.prog X.w X.K X.mg X.base CX k f fd ps sp)(hr:YD (k+1) X.A)(hb:Binds X.K fd ps ds)(hd:Yx Ei ds)
  (hx:eO CX X E) (I:Inv X pins σ H s) (r:Yx vs us)
  (h:∀x dx,H x=zc->H dx=zc->dx≠x->sp (.ref x::(vs++Ei)) (upd (upd H dx (.own x)) x (.ins C dx [])) (λv H2=>v=.non/\Q (.ref x) H2) E) :
  Pk (Pi X.prog X.w) X.A (call (.ref C) us) (EP X pins σ Q) X.xe s:=by
 have hq:=h (s.heap.objs.size+1) s.heap.objs.size (I.hok.fresh (Wv _)) (I.hok.fresh (Pc _)) (Pl (Ua _));have I2:=Inv.made (C:=C) I;have r2:Yx (V.ref (s.heap.objs.size+1)::(vs++Ei)) (Pr (s.heap.objs.size+1)::(us++ds)):=.cons rfl (r.append hd)
 have hl:(Pr (s.heap.objs.size+1)::us++ds).length=ps.length:=by
  have e:=r2.length;rw[F.len _ _ _ _ hq] at e;exact e.symm
 refine Tg (zcc (f:=f) I.kIn M.makes M.init (beq_iff_eq.mp M.fn) (Ss (F.run _ X.stack _ _ ⟨Pr (s.heap.objs.size+1)::us,[]⟩ (Pr (s.heap.objs.size+1)::(us++ds)) _ _ E (hr.make C us [])
  (I2.env0.make C us []) (hb _ (Pr (s.heap.objs.size+1)::us) I2.kIn hl) r2 hq) λr s' hq'=>?_))
 cases r with
 |error e=>exact hx pins σ _ _ e s' I2 hq'
 |ok fl=>
  cases fl with
  |ret u=>
   obtain⟨v,H',I3,rv,ev,q3⟩:=I2.after hq';subst ev;exact⟨rv,⟨V.ref (s.heap.objs.size+1),H',I3,rfl,q3⟩⟩
  |next=>exact PZ hq'
  |brk=>exact PZ hq'
  |cont=>exact PZ hq'
noncomputable def ztq(M:Mk X.K C f)(F:YJ X.prog X.w X.K X.mg X.base CX k f fd ps sp)(hr:YD (k+1) X.A)(hg:Gl X x)(hm:X.mg x=vd (.ref C))(hb:Binds X.K fd ps ds)(hd:Yx Ei ds)(hx:eO CX X E)
  (ha:PA X (e::es) t) (YU:autoParam ((x == ("__debug__" : Str))=zd) u11) (he:autoParam (OM (e::es) X.env=(zd,eval e X.env)::OM es X.env) u10) (Y1:autoParam ((PK pos (OM es X.env)).any (·.1)=zd) u10) :
  PE X (.Call (.Name x p) (e::es) [] pos) (JX C sp Ei E t):=by
 intro pins s σ H Q I h;refine QB (ju I hg hm ?_ YU);refine RH (h₀:=X.base) I.ok.mod.kin M.kp (YF (ha pos pins s σ H _ I h) λus s1 ⟨vs,H1,I1,r,q⟩=>⟨I1.kIn,?_⟩) he Y1;exact zcj M F hr hb hd hx I1 r q
end
structure YK(N P:List Str)(sc:QA):Prop where
 kind:sc.kind=.function
 co:sc.isCoroutine=zd
 gen:sc.isGenerator=zd
 nd:N.Nodup
 pre:N.take P.length=P
 par:∀x∈P,sc.names.lookup x=vd .local\/sc.names.lookup x=vd .cell
 nofree:∀y∈sc.names,y.2≠.free
theorem ztr{Uq:Str->Option Rw}:∀{binds:List (Str×OH)}{m:Str->Option OH},(∀v,(x,v)∉binds)->XN Uq binds m x=m x
 |[],_,_=>rfl
 |(n,v)::r,m,h=>by
  unfold XN;rw[ztr λw hw=>h w (OP _ hw)];split
  .grind
  .rfl
theorem zts{Uq:Str->Option Rw}:∀{binds:List (Str×OH)}{m:Str->Option OH},(∀v,(x,v)∉binds)->XQ Uq binds m x=m x
 |[],_,_=>rfl
 |(n,v)::r,m,h=>by
  unfold XQ;rw[zts λw hw=>h w (OP _ hw)];split
  .rfl
  .grind
theorem ztt{Uq:Str->Option Rw}:∀{P:List Str}{vs:List OH}{i:Nat}{m:Str->Option OH},P.Nodup->P[i]? = vd x->vs[i]? = vd v->Uq x=vd .local ->
  XN Uq (P.zip vs) m x=vd v
 |[],_,_,_,_,h,_,_=>by simp at h
 |_::_,[],_,_,_,_,h,_=>by simp at h
 |p::P,w::vs,0,m,nd,h1,h2,hk=>by
  simp at h1 h2;subst h1;subst h2;show XN _ (_::P.zip vs) m p=_;unfold XN;rw[ztr λv hv=>(S3.mp nd).1 (UI hv).1,if_pos hk];simp
 |p::P,w::vs,i+1,m,nd,h1,h2,hk=>by
  unfold XN;exact ztt  (S3.mp nd).2 (by simpa using h1) (by simpa using h2) hk
theorem ztu{Uq:Str->Option Rw}:∀{P:List Str}{vs:List OH}{i:Nat}{m:Str->Option OH},P.Nodup->P[i]? = vd x->vs[i]? = vd v->Uq x≠vd .local ->
  XQ Uq (P.zip vs) m x=vd v
 |[],_,_,_,_,h,_,_=>by simp at h
 |_::_,[],_,_,_,_,h,_=>by simp at h
 |p::P,w::vs,0,m,nd,h1,h2,hk=>by
  simp at h1 h2;subst h1;subst h2;show XQ _ (_::P.zip vs) m p=_;unfold XQ;rw[zts λv hv=>(S3.mp nd).1 (UI hv).1,if_neg hk];simp
 |p::P,w::vs,i+1,m,nd,h1,h2,hk=>by
  unfold XQ;exact ztu  (S3.mp nd).2 (by simpa using h1) (by simpa using h2) hk
def start(N:List Str)(vs:List V):St:=vs.map vd++OQ (N.length-vs.length) zc
noncomputable def aZ(CX:Jr)(P:Pb)(w:Pp)(K:Frag)(mg:Str->Option OH)(base:Heap)(N:List Str)(qual:Str)(scope:QA)(f:Addr)(cd:OH)(A:Pw)(outer:List Env)(s:OJ)(H:Hp)(E:XK):Cx where
 prog:=P
 w:=w
 K:=K
 mg:=mg
 base:=base
 A:=A.deeper (Qf qual scope s.heap.objs.size f cd)
 N:=N
 s₀:=s
 H₀:=H
 env:=Qf qual scope s.heap.objs.size f cd
 outer:=outer
 stack:=Qf qual scope s.heap.objs.size f cd::outer
 ex:=[]
 calm:=xV
 fn:=λ_=>xV
 pn:=[]
 xe:=λe s'=>Pk (Pi P w) (A.deeper (Qf qual scope s.heap.objs.size f cd)) (WQ (Qf qual scope s.heap.objs.size f cd) e) (λ_ D6=>CX outer H s E e D6) (λe' D6=>CX outer H s E e' D6) s'
noncomputable def ztv{sc:QA}{n:Nat}{x:Str}(h:sc.names.lookup x=vd .cell):∃c,(XS n sc.names []).lookup x=vd c:=by
 have q:=Ur _ n [] (.inl h);exact Rl.mp q
noncomputable def zck{CX:Jr}{P:Pb}{w:Pp}{K:Frag}{mg:Str->Option OH}{base:Heap}{N ps:List Str}{qual:Str}{scope:QA}{f:Addr}{cd:OH}{A:Pw}{outer:List Env}{s s1:OJ}{H:Hp}{E:XK}{us:List OH}{vs:List V}
  (S:YK N ps scope) (hd:A.handled=zc) (e0:DY P w K mg base A outer s H) (hl:vs.length=ps.length) (r:Yx vs us)
  (x:InCallC s s.heap.objs.size (XN (Qf qual scope s.heap.objs.size f cd).kindOf (ps.zip us) λ_=>zc) (XS (s.heap.objs.size+1) scope.names []) (XQ (Qf qual scope s.heap.objs.size f cd).kindOf (ps.zip us) λ_=>zc) s1) :
  Inv (aZ CX P w K mg base N qual scope f cd A outer s H E) [] (start N vs) H s1:=by
 have Y1:ps.length<=N.length:=by have:=congrArg SW S.pre;rw[Rx] at this;lia
 obtain⟨h1,tk,rfl,hk⟩:=x.done;have J3:∀b:Addr,b∉(aZ CX P w K mg base N qual scope f cd A outer s H E).ex:=λb z=>absurd (show b∈([]:List Addr) from z) (by simp)
 refine⟨⟨e0.mod,S.kind,rfl,rfl,Pc _,λy z c h1 h2=>?_,λy hy=>?_,λy c _ h=>?_,λ_=>hd,Around.frames_deeper e0.frames,.inr ⟨rfl,rfl⟩,λb z=>absurd z (J3 b),e0.bs,e0.bsz,λb _ _=>J3 b,λb z=>absurd z (J3 b),e0.funs,e0.frf⟩,
  rfl,e0.bare,Un.kept hk,⟨_,x.toInCall.ns,λi y v h1 h2 h3=>?_⟩,λy c h=>⟨_,x.cell y c h⟩,e0.hok.fresh (Pc _),λy c h=>?_,λp hp=>absurd (show p∈([]:List (Addr×Obj)) from hp) (by simp),e0.hok.kept hk,?_⟩
 .exact name_of_addr x.apart (Ro h1) (Ro h2)
 .rcases hy with hy|hy
  .exact ztv hy
  .exact absurd rfl (S.nofree _ (Ro hy))
 .exact RY (x.above y c (Ro h))
 .have hi:i<vs.length:=by
   unfold start at h2
   by_cases hi:i<vs.length
   .exact hi
   .rw[Ra (by simpa using hi)] at h2
    rw[List.getElem?_replicate] at h2
    split at h2 <;> cases h2
  have ha:vs[i]? = vd v:=by
   unfold start at h2
   rw[Pa (by simpa using hi),Qn] at h2<;>grind
  obtain⟨u,hu,rv⟩:=r.get ha
  have hp:ps[i]? = vd y:=by
   rw[←S.pre,List.getElem?_take_of_lt (by lia)];exact h1
  have ndP:ps.Nodup:=by rw[←S.pre];exact S.nd.sublist (List.take_sublist _ _)
  refine⟨u,rv,?_⟩
  rcases S.par y (Px hp) with k|k
  .exact .inl ⟨k,ztt ndP hp hu k⟩
  .obtain⟨c,e⟩:=ztv (n:=s.heap.objs.size+1) k
   refine .inr ⟨.inl k,c,e,?_⟩;have q:=x.cell y c e;rw[ztu ndP hp hu (by show scope.names.lookup y≠_;rw[k];decide)] at q;exact q
 .exact e0.hok.fresh (RY (x.above y c (Ro h)))
 .unfold start
  show _=N.length;rw[Pz,PV,US]
  lia
noncomputable def ztw{CX:Jr}{P:Pb}{w:Pp}{K:Frag}{mg:Str->Option OH}{base:Heap}{k:Nat}{f:Addr}{name qual:Str}{params:Arguments}{body:List Stmt}{scope:QA}{dV kV doc pm YA ct oc:OH}{an od:Option Addr}
  {osl:Array (Option OH)}{N ps:List Str}{sp:Sp} (lk:K.lookup f=vd ⟨oc,od,.func (PF name qual params body scope dV kV doc pm an YA ct),osl⟩) (hcd:Ry K YA qual=xV) (S:YK N ps scope)
  (len:∀vs H Q E,sp vs H Q E->vs.length=ps.length)
  (YO:∀(A:Pw) (outer:List Env) (s:OJ) (H:Hp) (vs:List V) (Q:VK) (E:XK),YD k (A.deeper (Qf qual scope s.heap.objs.size f YA))->sp vs H Q E ->
   ∃t,Ii (aZ CX P w K mg base N qual scope f YA A outer s H E) body t/\t { nx:=λ_ H'=>Q .non H',rt:=Q } (start N vs) H) :
  YJ P w K mg base CX (k+1) f (PF name qual params body scope dV kV doc pm an YA ct) ps sp:=by
 refine⟨len,λA outer s H args us vs Q E hr e0 hb r KO=>?_⟩;have hl:=len _ _ _ _ KO;have KX:=e0.mod.kin.keeps λb o e=>(e0.bs b o e).1;have lim:=e0.mod.nolimit.keeps λb o e=>(e0.bs b o e).1
 have Hr:∀y∈ps.zip us,scope.names.lookup y.1=vd .local\/(scope.names.lookup y.1=vd .cell/\((XS (s.heap.objs.size+1) _ []).lookup y.1).isSome=xV):=λ⟨n,v⟩ hy=>by
  rcases S.par n (UI hy).1 with q|q
  .exact .inl q
  .exact .inr ⟨q,Ur _ _ _ (.inl q)⟩
 refine codeAny_call_function hr.depth (KX _ _ lk) rfl S.co S.gen rfl (PySem.W.codeRec_of KX hcd) (hb _ _ _ _ ?_);refine wpAny_newFunctionEnv_cells S.kind Hr λenv he s1 x=>?_;subst he;refine⟨lim.keeps x.toInCall.keep,codeAny_func ?_⟩;obtain⟨t,ht,hq⟩:=YO A _ s H vs Q E (hr.deeper _) KO;have I:Inv (aZ CX P w K mg base N qual _ f YA A _ s H E) [] _ H s1:=zck S hr.hd e0 hl r x;refine Qe (ht [] s1 _ H _ I hq) (λfl s' hs=>?_) λe s' hs=>hs
 have fin:∀{σ':St}{H':Hp}{v:V}{u:OH},Inv (aZ CX P w K mg base N qual scope f YA A outer s H E) [] σ' H' s'->RelV v u->Q v H'->CE _ P w H s Q u s':=
  λ{σ' H' v u} J rv q=>⟨v,H',J.os,J.bare,J.base,J.hok,rv,q⟩
 cases fl with
 |ret u=>
  obtain⟨v,σ',H',J,rv,q⟩:=hs;exact fin J rv q
 |next=>
  obtain⟨σ',H',J,q⟩:=hs;exact fin (v:=V.non)  J rfl q
 |brk=>
  obtain⟨_,_,_,q⟩:=hs<;>simp_all
 |cont=>
  obtain⟨_,_,_,q⟩:=hs<;>simp_all
section
variable {X:Cx}{x:Str}{p pos:Pos}{e:Expr}{es:List Expr}{t:TA}{id T:String}{r:List V->Hp->VK->Prop}
def Do(r:List V->Hp->VK->Prop)(t:TA):TE:=λσ H Q=>t σ H λvs H1=>r vs H1 Q
noncomputable def nX(hc:YV X (.builtin id) r)(hg:Gl X x)(hm:X.mg x=zc)(hv:Qy x=vd (.builtin id))(ha:PA X (e::es) t)(hn:autoParam (x≠"__name__") u11)(YU:autoParam ((x == ("__debug__" : Str))=zd) u11)
  (he:autoParam (OM (e::es) X.env=(zd,eval e X.env)::OM es X.env) u10) (Y1:autoParam ((PK pos (OM es X.env)).any (·.1)=zd) u10):PE X (.Call (.Name x p) (e::es) [] pos) (Do r t):=by
 intro pins s σ H Q I h;refine QB (kL I hg hm hv ?_ hn YU);exact We (YF (ha pos pins s σ H _ I h) λus s1 ⟨vs,H1,I1,r1,q1⟩=>hc pins s1 σ H1 vs us Q I1 r1 q1) he Y1
noncomputable def ztx(hc:YV X (.type T) r)(hg:Gl X x)(hm:X.mg x=zc)(hv:Qy x=vd (.type T))(ha:PA X (e::es) t)(hn:autoParam (x≠"__name__") u11)(YU:autoParam ((x == ("__debug__" : Str))=zd) u11)
  (he:autoParam (OM (e::es) X.env=(zd,eval e X.env)::OM es X.env) u10) (Y1:autoParam ((PK pos (OM es X.env)).any (·.1)=zd) u10):PE X (.Call (.Name x p) (e::es) [] pos) (Do r t):=by
 intro pins s σ H Q I h;refine QB (kL I hg hm hv ?_ hn YU);exact Q1 (YF (ha pos pins s σ H _ I h) λus s1 ⟨vs,H1,I1,r1,q1⟩=>hc pins s1 σ H1 vs us Q I1 r1 q1) he Y1
end
end L2
namespace HT
open PySem PyProof.Rows
section
variable {prog:Pb}{w:Pp}{A:Pw}{E:OH->OJ->Prop}{s:OJ}
noncomputable def zcl(ht:XH s.heap t vs.toArray)(hb:XH s.heap b ws.toArray)(hv:vs≠[])
  (h1:ws=[]->Q (.ref t) s) (h2:ws≠[]->Q (.ref s.heap.objs.size) { s with heap:=s.heap.push { cls:=.type "tuple",data:=.seq (vs++ws).toArray } })
  (hsz:vs.length+ws.length<=OO):Pk (Pi prog w) A (Qq .Add (.ref t) (.ref b)) Q E s:=by
 obtain⟨⟨cls,dd,data,sl⟩,ho,hc,n,hd⟩:=id ht;obtain⟨⟨Fy,EM,data2,GK⟩,G0,YE,n2,hd2⟩:=id hb;subst hc hd YE hd2
 have e:vs.toArray++ws.toArray=(vs++ws).toArray:=by simp
 by_cases hw:ws=[]
 .exact Us ⟨_,ho,rfl⟩ ⟨_,G0,rfl⟩ Uc Vx Su Si (R3 _ _)
   (tuple_addW1 t b _ _ n n2 dd EM sl GK (by simpa using hv) (by simp[hw])) ⟨ho,G0,h1 hw⟩
 .refine Us ⟨_,ho,rfl⟩ ⟨_,G0,rfl⟩ Uc Vx Su Si (R3 _ _)
   (tuple_addW2 t b _ _ n n2 dd EM sl GK (by simpa using hv) (by simp_all) (by omega)) ⟨ho,G0,?_⟩
  rw[e];exact h2 hw
def Y0(n d:Nat):Option Int->Nat
 |none=>d
 |some v=>if v<0 then (v+(n:Int)).toNat else min v.toNat n
theorem qW(n d:Nat):Y0 n d zc=d:=rfl
theorem mh(n d k:Nat):Y0 n d (vd (k:Int))=min k n :=rfl
noncomputable def zcm(n d:Nat)(hd:d<=n)(o:Option Int):Y0 n d o<=n:=by
 cases o with
 |none=>exact hd
 |some v=>
  show (if v<0 then (v+_).toNat else min _ n)<=n<;>grind
noncomputable def zty(v:Int)(n d:Nat):(if v<0 then max (v+(n:Int)) 0 else min v (n:Int))=((Y0 n d (vd v):Nat):Int):=by show _=(((if v<0 then (v+_).toNat else min _ n):Nat):Int)<;>grind
noncomputable def zcn(lo hi:Option Int)(n:Nat):Xm lo hi 1 (n:Int)=(((Y0 n 0 lo:Nat):Int),((Y0 n n hi:Nat):Int)):=by
 have h1:¬((1:Int)<0):=by lia
 refine Prod.ext ?_ ?_
 .cases lo with
  |none=>rfl
  |some v=>exact zty v n 0
 .cases hi with
  |none=>rfl
  |some v=>exact zty v n n
def zco(i j:Nat):Tt (i:Int) (j:Int) 1=j-i:=by unfold Tt<;>grind
noncomputable def uF(p:Ut v o)(h:Q o s):Pk (Pi prog w) A (WD v) Q E s:=by
 cases p with
 |none=>exact slicePart_none h
 |int i t=>exact slicePart_int h
noncomputable def ug{sl:Addr}{vl vu:OH}{lo hi:Option Int}{n:Nat}{Q:Int×Int×Nat->OJ->Prop}(hs:s.heap.IsSliceOf sl vl vu .none)(pl:Ut vl lo)(pu:Ut vu hi)
  (h:Q (((Y0 n 0 lo:Nat):Int),1,Y0 n n hi-Y0 n 0 lo) s):Pk (Pi prog w) A (W0 (.ref sl) (pure (n:Int))) Q E s:=by
 obtain⟨os,Kl,Et,K3⟩:=id hs;refine ON (ON (Q7 Kl K3 (x:=vl) rfl (ON (Q7 Kl K3 (x:=vu) rfl (ON (Q7 Kl K3  rfl (Pg ?_)))))));refine ON (slicePart_none ?_);refine ON (uF pl (ON (uF pu (ON (Pg ?_)))))
 simp_all
 rw[zcn lo hi n];rw[zco];exact Pg h
noncomputable def zcp(xs:Array OH)(i k:Nat):((PY k).filterMap λ(m:Nat)=>xs[((i:Int)+(m:Int)*1).toNat]?).toArray=((xs.toList.drop i).take k).toArray:=by
 have e:(λ(m:Nat)=>xs[((i:Int)+(m)*1).toNat]?)=λm=>xs[i+m]?:=by grind
 rw[e];have:=pick_run xs i k
 have e2:(_ ∘ λx=>i+x)=λm=>xs[i+m]?:=rfl<;>simp_all
noncomputable def zcq{t sl:Addr}{items:Array OH}{vl vu:OH}{lo hi:Option Int}{Q:OH->OJ->Prop}(ht:XH s.heap t items)(hs:s.heap.IsSliceOf sl vl vu .none)(pl:Ut vl lo)(pu:Ut vu hi)
  (hw:¬(Y0 items.size 0 lo=0/\Y0 items.size items.size hi=items.size))
  (h:Q (.ref s.heap.objs.size) { s with heap:=s.heap.push { cls:=.type "tuple",data:=.seq ((items.toList.drop (Y0 items.size 0 lo)).take (Y0 items.size items.size hi-Y0 items.size 0 lo)).toArray } })
  (hsz:items.size<=OO):Pk (Pi prog w) A (SR (.ref t) (.ref sl)) Q E s:=by
 have Fo:sizeOk (.seq ((items.toList.drop (Y0 items.size 0 lo)).take (Y0 items.size items.size hi-Y0 items.size 0 lo)).toArray):=by
  show ((items.toList.drop (Y0 items.size 0 lo)).take (Y0 items.size items.size hi-Y0 items.size 0 lo)).toArray.size<=OO;rw[P9,Rx,PU,Rp];omega
 have hj:Y0 items.size items.size hi<=items.size:=zcm _ _ (Pc _) hi;obtain⟨os,Kl,Et,K3⟩:=id hs;have JN:s.TypeIs (.ref sl) "slice":=⟨os,Kl,Et⟩;unfold SR
 try with_reducible refine Q5 ?_
 first|refine ON (Pg ?_)|skip
 refine ON (VY ht.typeIs (rfl) ?_)
 refine ON (Ud (name:=OG "__getitem__") ht.typeIs P7
  (Wf P7 ht.typeIs Vm ?_ (VF _ _)))
 show Pk _ _ (Th (.ref t) >>= _) _ _ s;refine ON (Vy ht ?_);refine ON (Uu JN ?_);rw[if_pos (by rfl)];refine ON (ug hs pl pu ?_)
 have DN:¬((((Y0 items.size 0 lo:Nat):Int) == 0&&(1:Int) == 1&&(Y0 items.size items.size hi-Y0 items.size 0 lo) == items.size)=xV):=by simp_all
 show Pk _ _ (if (((Y0 items.size 0 lo:Nat):Int) == 0&&(1:Int) == 1&&(Y0 items.size items.size hi-Y0 items.size 0 lo) == items.size)=xV then _ else _) _ _ s;rw[if_neg DN,zcp]
 first
  |exact ON (m:=QQ _) (Qx (Pg ⟨_,rfl,Pg h⟩) Fo)
  |grind
  |exact ON (ON (m:=QQ _) (Qx (Pg (Pg ⟨_,rfl,Pg h⟩)) Fo))
  |exact ON (ON (m:=QQ _) (Qx (Pg ⟨_,rfl,Pg h⟩) Fo))
end
end HT
namespace L2
abbrev TO:=St->Hp->(Option Int->Hp->Prop)->Prop
def PO(X:Cx)(e:Option Expr)(t:TO):Prop:=
 ∀(pins:List (Addr×Obj)) (s:OJ) (σ:St) (H:Hp) (Q:Option Int->Hp->Prop),Inv X pins σ H s->t σ H Q ->
  Pk (Pi X.prog X.w) X.A (evalPart e X.env) (λu s'=>∃o H',Inv X pins σ H' s'/\Ut u o/\Q o H') X.xe s
def FR:TO:=λ_ H Q=>Q zc H
def JU(t:TE):TO:=λσ H Q=>t σ H λx H1=>∃i,x=.int i/\Q (vd i) H1
section
variable {X:Cx}{e:Expr}{te:TE}{lo hi:Option Expr}{tl th:TO}{pos p2:Pos}
def zcr:PO X zc FR:=by
 intro pins s σ H Q I h;exact Pg ⟨zc,H,I,.none,h⟩
noncomputable def zcs(h:PE X e te):PO X (vd e) (JU te):=by
 intro pins s σ H Q I hw;refine YF (h pins s σ H _ I hw) λu s1 ⟨x,H1,I1,r1,q1⟩=>?_;obtain⟨i,rfl,q⟩:=q1;obtain⟨t,rfl⟩:=r1;exact⟨vd i,H1,I1,.int i t,q⟩
def E2(X:Cx)(r:V->Option Int->Option Int->Hp->VK->Prop):Prop:=
 ∀(pins:List (Addr×Obj)) (s:OJ) (σ:St) (H:Hp) (x:V) (v vl vu:OH) (lo hi:Option Int) (sl:Addr) (Q:VK),Inv X pins σ H s->RelV x v->s.heap.IsSliceOf sl vl vu .none->Ut vl lo->Ut vu hi->r x lo hi H Q ->
  ∃T id,Uv (.type T) "__getitem__"=pure (vd (.builtin id))/\s.TypeIs v T/\Pk (Pi X.prog X.w) X.A (SR v (.ref sl)) (EP X pins σ Q) X.xe s
def E2.or(h:E2 X r)(h':E2 X r'):E2 X (λx lo hi H Q=>r x lo hi H Q\/r' x lo hi H Q):=by
 intro pins s σ H x v vl vu lo hi sl Q I rx hs pl pu q
 rcases q with q|q
 .exact h pins s σ H x v vl vu lo hi sl Q I rx hs pl pu q
 .exact h' pins s σ H x v vl vu lo hi sl Q I rx hs pl pu q
noncomputable def tSl(r:V->Option Int->Option Int->Hp->VK->Prop)(te:TE)(tl th:TO):TE:=λσ H Q=>te σ H λx H1=>tl σ H1 λl H2=>th σ H2 λu H3=>r x l u H3 Q
noncomputable def zct(hr:E2 X r)(he:PE X e te)(hl:PO X lo tl)(hu:PO X hi th):PE X (.Subscript e (.Slice lo hi zc p2) pos) (tSl r te tl th):=by
 intro pins s σ H Q I h;refine W1 (YF (he pins s σ H _ I h) λv s1 ⟨x,H1,I1,r1,q1⟩=>?_);refine wpAny_Slice (YF (hl pins s1 σ H1 _ I1 q1) λvl s2 ⟨l,H2,I2,pl,q2⟩=>YF (hu pins s2 σ H2 _ I2 q2) λvu s3 ⟨u,H3,I3,pu,q3⟩=>?_);refine Pg ?_;have I4:Inv X pins σ H3 { s3 with heap:=s3.heap.push { cls:=.type "slice",data:=.fields #[vl,vu,.none] } }:=I3.kept  λb ob q=>OK _ q;obtain⟨T,id,hT,ht,hg⟩:=hr pins { s3 with heap:=s3.heap.push { cls:=.type "slice",data:=.fields #[vl,vu,.none] } } σ H3 x v vl vu l u _ Q I4 r1 (Yl ..) pl pu q3;exact tail_any  ht hT hg (rfl)
noncomputable def ka(xs:List V)(lo hi:Option Int):List V:=(xs.drop (HT.Y0 xs.length 0 lo)).take (HT.Y0 xs.length xs.length hi-HT.Y0 xs.length 0 lo)
def ux(xs:List V)(lo hi:Option Int):(ka xs lo hi).length<=xs.length:=by
 unfold ka
 simp_all
 lia
def Lm(K:Frag):V->Option Int->Option Int->Hp->VK->Prop:=λx lo hi H Q=>∃a xs,x=.ref a/\ZV K H a xs /\
 ¬(HT.Y0 xs.length 0 lo=0/\HT.Y0 xs.length xs.length hi=xs.length)/\∀p,H p=zc->Q (.ref p) (upd H p (.tup (ka xs lo hi)))
noncomputable def zcu:E2 X (Lm X.K):=by
 intro pins s σ H x v vl vu lo hi sl Q I rx hs pl pu h;obtain⟨a,xs,rfl,hx,hw,q⟩:=h;cases rx;obtain⟨Yu,r,ht,hz⟩:=I.tuple hx
 have YH:Yu.toArray.size=xs.length:=by exact r.length.symm
 refine⟨"tuple",_,P7.lookup,ht.typeIs,?_⟩;refine HT.zcq ht hs pl pu (by rw[YH];exact hw) ?_ (by rw[YH];exact hz);rw[YH];refine⟨.ref _,_,I.laid   (λb ob q=>OK _ q) (Pc _) ?_,rfl,q _ (I.hok.fresh (Pc _))⟩;exact⟨OS (ux xs lo hi) hz,_,(r.drop _).take _,Wg _ _⟩
noncomputable def Kc(K:Frag):R2:=λx y H Q=>∃a b xs ys,x=.ref a/\y=.ref b/\ZV K H a xs/\ZV K H b ys/\xs≠[]/\xs.length+ys.length<=OO /\
 (ys=[]->Q (.ref a) H)/\(ys≠[]->∀p,H p=zc->Q (.ref p) (upd H p (.tup (xs++ys))))
def Yx.nil_iff(r:Yx xs us):us=[]↔xs=[]:=by cases r <;>simp_all
noncomputable def zcv:Zg X (Qq .Add) (Kc X.K):=by
 intro pins s σ H x y v u Q I rx ry h;obtain⟨a,b,xs,ys,rfl,rfl,ha,hb,hx,hz,q1,q2⟩:=h;cases rx;cases ry;obtain⟨Yu,r1,p1,_⟩:=I.tuple ha;obtain⟨CN,r2,p2,_⟩:=I.tuple hb;refine HT.zcl p1 p2 (λz=>hx (r1.nil_iff.mp z)) (λz=>⟨.ref a,H,I,rfl,q1 (r2.nil_iff.mp z)⟩) (λz=>?_) (by rw[←r1.length,←r2.length];exact hz);refine⟨.ref _,_,I.laid   (λb ob q=>OK _ q) (Pc _) ?_,rfl,q2 (λw=>z (r2.nil_iff.mpr w)) _ (I.hok.fresh (Pc _))⟩;exact⟨by simp_all,_,r1.append r2,Wg _ _⟩
end
def Zr(n:Nat)(i:Int):Option Nat:=if 0<=i then (if i<n then vd i.toNat else zc) else if -(n:Int)<=i then vd (i+n).toNat else zc
def Zd{α:Type}(xs:List α)(i:Int):Option α:=(Zr xs.length i).bind λj=>xs[j]?
noncomputable def x6{n:Nat}{i:Int}{j:Nat}(h:Zr n i=vd j):seqIndex? i n=vd j/\j<n/\-(n:Int)<=i/\i<n:=by
 unfold Zr at h
 by_cases h0:0<=i
 .rw[if_pos h0] at h
  by_cases h1:i<n
  .rw[if_pos h1] at h
   have e:=Rc h;exact⟨by rw[Ww h0 h1,e],by lia,by lia,h1⟩
  .simp_all
 .rw[if_neg h0] at h
  by_cases h1 : -(n)<=i
  .rw[if_pos h1] at h
   have e:=Rc h;exact⟨by rw[VZ (by lia) h1,e],by lia,h1,by lia⟩
  .simp_all
noncomputable def sr{α:Type}{xs:List α}{i:Int}{v:α}(h:Zd xs i=vd v):∃j,seqIndex? i xs.length=vd j/\xs[j]? = vd v/\j<xs.length/\-(xs.length:Int)<=i/\i<xs.length:=by
 unfold Zd at h
 cases e:Zr xs.length i with
 |none=>simp_all
 |some j=>
  rw[e] at h;obtain⟨h1,h2,h3,h4⟩:=x6 e;exact⟨j,h1,h,h2,h3,h4⟩
noncomputable def oE{α:Type}{xs:List α}{j:Nat}{v:α}(h:xs[j]? = vd v):Zd xs (j:Int)=vd v:=by
 have hj:=(OL.mp h).1
 have e:Zr xs.length (j)=vd j:=by
  unfold Zr<;>simp_all
 unfold Zd;rw[e];exact h
def sv(b:Expr):Prop:=∀o i,U1 b zd o i=operate [o,i] (SR o i)
def FL(X:Cx)(r:R2):Prop:=
 ∀(value slice:Expr) (pins:List (Addr×Obj)) (s:OJ) (σ:St) (H:Hp) (x y:V) (v u:OH) (Q:VK),Inv X pins σ H s->RelV x v->RelV y u->r x y H Q ->
  U1 slice zd v u=operate [v,u] (SR v u)->Pk (Pi X.prog X.w) X.A (subscriptTail value slice v u) (EP X pins σ Q) X.xe s
def Jf(X:Cx)(id:String)(r:V->List V->Hp->VK->Prop):Prop:=
 ∀(pins:List (Addr×Obj)) (s:OJ) (σ:St) (H:Hp) (x:V) (xs:List V) (v:OH) (us:List OH) (Q:VK),Inv X pins σ H s->RelV x v->Yx xs us->r x xs H Q ->
  Pk (Pi X.prog X.w) X.A (call (.builtin id) (v::us)) (EP X pins σ Q) X.xe s
section
variable {X:Cx}{a b:Expr}{ta tb:TE}{pos:Pos}
def FL.or(h:FL X r)(h':FL X r'):FL X (λx y H Q=>r x y H Q\/r' x y H Q):=by
 intro value slice pins s σ H x y v u Q I rx ry q hs
 rcases q with q|q
 .exact h _ _ pins s σ H x y v u Q I rx ry q hs
 .exact h' _ _ pins s σ H x y v u Q I rx ry q hs
def Jf.or{id:String}{r r':V->List V->Hp->VK->Prop}(h:Jf X id r)(h':Jf X id r'):Jf X id (λx xs H Q=>r x xs H Q\/r' x xs H Q):=by
 intro pins s σ H x xs v us Q I rx rs q
 rcases q with q|q
 .exact h pins s σ H x xs v us Q I rx rs q
 .exact h' pins s σ H x xs v us Q I rx rs q
noncomputable def z9(hr:FL X r)(ha:PE X a ta)(hb:PE X b tb)(hs:sv b):PE X (.Subscript a b pos) (IF r ta tb):=by
 intro pins s σ H Q I h;exact W1 (t5 ha hb I h λv u s2 x y H2 I2 rx ry q=>hr a b pins s2 σ H2 x y v u Q I2 rx ry q (hs _ _))
def AQ(K:Frag):R2:=λx y H Q=>∃p xs i v,x=.ref p/\y=.int i/\Zm K H p xs/\Zd xs i=vd v/\Q v H
def AN(K:Frag):R2:=λx y H Q=>∃p xs i v,x=.ref p/\y=.int i/\ZV K H p xs/\Zd xs i=vd v/\Q v H
def AO:R2:=λx y H Q=>∃z i c,x=.str z/\y=.int i/\z.length<=OO/\Zd z.cps.toList i=vd c/\Q (.str ⟨#[c]⟩) H
noncomputable def Kg:FL X (AQ X.K):=by
 intro value slice pins s σ H x y v u Q I rx ry h hs;obtain⟨p,xs,i,z,rfl,rfl,hq,he,q⟩:=h;cases rx;obtain⟨t,rfl⟩:=ry;obtain⟨Yu,r,pl,hz⟩:=I.list hq;obtain⟨j,h1,h2,h3,h4,h5⟩:=sr he;obtain⟨w,ew,Zc⟩:=r.get h2;have hl:=r.length;have hn:=jF;have fin:EP X pins σ Q w s:=⟨z,H,I,Zc,q⟩
 by_cases h0:0<=i
 .have hj:i.toNat=j:=by
   rw[Ww h0 h5] at h1<;>simp_all
  exact item_listR pl.isList h0 (by lia) (by rw[hj];simpa using ew) fin hs
 .have hj:(i+(Yu.toArray.size)).toNat=j:=by
   rw[VZ (by lia) h4] at h1<;>simp_all
  exact Uw  pl.isList.typeIs V0.lookup
   (wpAny_getItem_list_neg  pl.isList (by lia) (by grind) (by lia) (by rw[hj];simpa using ew) ⟨rfl,fin⟩) hs
noncomputable def FN:FL X (AN X.K):=by
 intro value slice pins s σ H x y v u Q I rx ry h hs;obtain⟨p,xs,i,z,rfl,rfl,hq,he,q⟩:=h;cases rx;obtain⟨t,rfl⟩:=ry;obtain⟨Yu,r,pl,hz⟩:=I.tuple hq;obtain⟨j,h1,h2,h3,h4,h5⟩:=sr he;obtain⟨w,ew,Zc⟩:=r.get h2;have hl:=r.length;have hn:=jF;have fin:EP X pins σ Q w s:=⟨z,H,I,Zc,q⟩
 exact Uw  pl.typeIs slot_tuple_getitem.lookup
  (getItem_tuple (j:=j)  pl (by lia) (by lia) (by simp_all) (by simpa using ew) ⟨rfl,fin⟩) hs
noncomputable def zcw:FL X AO:=by
 intro value slice pins s σ H x y v u Q I rx ry h hs;obtain⟨z,i,c,rfl,rfl,hz,he,q⟩:=h;obtain⟨t,rfl⟩:=rx;obtain⟨t',rfl⟩:=ry;obtain⟨j,h1,h2,h3,h4,h5⟩:=sr he;have hl:z.cps.toList.length=z.length:=rfl;rw[hl] at h1 h4 h5;have hn:=jF;exact tail_any (Se s z t) slot_str_getitem.lookup (getItem_str (c:=c) (by lia) (by rw[h1];simpa using h2) ⟨.str ⟨#[c]⟩,H,I.tok _,⟨_,rfl⟩,q⟩) hs
def rIx(K:Frag):R2:=λx y H Q=>AQ K x y H Q\/AN K x y H Q\/AO x y H Q
def zcx:FL X (rIx X.K):=Kg.or (FN.or zcw)
noncomputable def zcy(Yu:List OH)(n j:Nat)(u:OH):Ti (·.setIfInBounds j u) { cls:=.type "list",data:=.seq Yu.toArray n } = { cls:=.type "list",data:=.seq (Yu.set j u).toArray n }:=by simp[Ti]
theorem Inv.lst(I:Inv X pins σ H s)(h:H p=vd (.lst xs)) :
  ∃(Yu:List OH) (n:Nat),Yx xs Yu/\s.heap.get? p=vd { cls:=.type "list",data:=.seq Yu.toArray n }/\xs.length<=sizeLine:=by
 obtain⟨z,Yu,n,r,e⟩:=I.hok p _ h;exact⟨Yu,n,r,e,z⟩
def Inv.lstUpd{s:OJ}{xs ys:List V}{Yu its':List OH}{f:Obj->Obj}(I:Inv X pins σ H s)(h:H p=vd (.lst xs))
  (ho:s.heap.get? p=vd { cls:=.type "list",data:=.seq Yu.toArray n }) (hf:f { cls:=.type "list",data:=.seq Yu.toArray n } = { cls:=.type "list",data:=.seq its'.toArray n' }) (r:Yx ys its') (hz:ys.length<=OO) (t:Nat) :
  Inv X pins σ (upd H p (.lst ys)) { s with heap:=s.heap.update p f,toks:=t }:=by
 have e:(s.heap.update p f).get? p=vd { cls:=.type "list",data:=.seq its'.toArray n' }:=by
  rw[P0 f ho (by rw[hf] <;> rfl),hf]
 refine I.write   (by rw[h];trivial) (.inl rfl) (λb u hb q=>(Pf _ _ (QP hb)).trans q) ⟨_,e⟩ ?_;exact⟨hz,its',n',r,e⟩
def Kb:V->V->V->Hp->(Hp->Prop)->Prop:=λo i v H Q=>∃p xs k j,o=.ref p/\i=.int k/\H p=vd (.lst xs)/\Zr xs.length k=vd j/\Q (upd H p (.lst (xs.set j v)))
noncomputable def set_list:Bd X Kb:=by
 intro pins s σ H o i v ov iv u Q I ro ri rv h;obtain⟨p,xs,k,j,rfl,rfl,hp,hj,q⟩:=h;cases ro;obtain⟨t,rfl⟩:=ri;obtain⟨Yu,n,r,ho,hz⟩:=I.lst hp;obtain⟨h1,h2,h3,h4⟩:=x6 hj;have hl:=r.length;have hn:=jF
 have I'  :=
  I.lstUpd hp ho (zcy Yu n j u) (r.set rv j) (by simp_all) s.toks
 by_cases h0:0<=k
 .have hk:k.toNat=j:=by
   rw[Ww h0 h4] at h1<;>simp_all
  exact PySem.W.ki_setAt ho h0 (by omega) (by simp_all) (by rw[hk];exact⟨_,I',q⟩)
 .have hk:(k+(Yu.toArray.size)).toNat=j:=by
   rw[VZ _ h3] at h1<;>simp_all
  exact PySem.W.ki_setBack ho (by omega) (by simp_all) (by omega) (by rw[hk];exact⟨_,I',q⟩)
noncomputable def zcz(lo hi:Option Int)(n:Nat):(Sj lo hi zc n).1=((HT.Y0 n 0 lo:Nat):Int)/\(Sj lo hi zc n).2.1=((HT.Y0 n n hi:Nat):Int)/\(Sj lo hi zc n).2.2=1:=by
 refine⟨?_,?_,rfl⟩
 .cases lo with
  |none=>simp[Sj,HT.Y0]
  |some i=>
   simp only[Sj,HT.Y0,Ue,show (1:Int)>0 by decide,if_true]
   by_cases h:i<0
   .simp only[h,if_true] <;> lia
   .simp only[h,if_false] <;> lia
 .cases hi with
  |none=>simp[Sj,HT.Y0]
  |some i=>
   simp only[Sj,HT.Y0,Ue,show (1:Int)>0 by decide,if_true]
   by_cases h:i<0
   .simp only[h,if_true] <;> lia
   .simp only[h,if_false] <;> lia
noncomputable def zda(Yu:List OH)(lo hi:Option Int):slicePick Yu.toArray lo hi zc=((Yu.drop (HT.Y0 Yu.length 0 lo)).take (HT.Y0 Yu.length Yu.length hi-HT.Y0 Yu.length 0 lo)).toArray:=by
 obtain⟨h1,h2,h3⟩:=zcz lo hi _;unfold slicePick;rw[h1,h2,h3]
 simp only[sliceRange_one,pick_run] <;> rfl
def Ln(K:Frag):V->Option Int->Option Int->Hp->VK->Prop:=λx lo hi H Q=>∃a xs,x=.ref a/\Zm K H a xs/\∀p,H p=zc->Q (.ref p) (upd H p (.lst (ka xs lo hi)))
noncomputable def Dp:E2 X (Ln X.K):=by
 intro pins s σ H x v vl vu lo hi sl Q I rx hs pl pu h;obtain⟨a,xs,rfl,hx,q⟩:=h;cases rx;obtain⟨Yu,r,ht,hz⟩:=I.list hx;have YH:=r.length;refine⟨"list",_,V0.lookup,ht.isList.typeIs,?_⟩;refine wpAny_getItem_list_slice ht.isList hs pl pu .none (by simp) ?_ (by simp_all);rw[zda,←YH];refine⟨.ref _,_,I.laid   (λb ob q=>OK _ q) (Pc _) ?_,rfl,q _ (I.hok.fresh (Pc _))⟩;exact⟨OS (ux xs lo hi) hz,_,0,(r.drop _).take _,Pm _ rfl⟩
def gN:V->Bool
 |.non=>xV
 |.bl _=>xV
 |.int _=>xV
 |.str _=>xV
 |_=>zd
noncomputable def Bo:V->V->Bool
 |.non,.non=>xV
 |.bl a,.bl b=>a == b
 |.bl a,.int b=>(if a then 1 else 0) == b
 |.int a,.bl b=>a == (if b then 1 else 0)
 |.int a,.int b=>a == b
 |.str a,.str b=>a == b
 |_,_=>zd
noncomputable def zdb(ry:RelV y u)(rx:RelV x v)(fy:gN y=xV)(fx:gN x=xV):Ym A s u v (Bo y x):=by
 cases y with
 |non=>
  cases ry
  cases x with
  |non=>cases rx;exact SeqAt.EqAt.same _
  |bl b=>cases rx;exact SeqAt.EqAt.none_bool b
  |int b=>obtain⟨t,rfl⟩:=rx;exact SeqAt.EqAt.none_int b t
  |str b=>obtain⟨t,rfl⟩:=rx;exact SeqAt.EqAt.none_str b t
  |_=>exact absurd (show zd=xV from fx) Ph
 |bl a=>
  cases ry
  cases x with
  |non=>cases rx;exact SeqAt.EqAt.bool_none a
  |bl b=>cases rx;exact SeqAt.EqAt.bool_bool a b
  |int b=>obtain⟨t,rfl⟩:=rx;exact SeqAt.EqAt.bool_int a b t
  |str b=>obtain⟨t,rfl⟩:=rx;exact SeqAt.EqAt.bool_str a b t
  |_=>exact absurd (show zd=xV from fx) Ph
 |int a=>
  obtain⟨t',rfl⟩:=ry
  cases x with
  |non=>cases rx;exact SeqAt.EqAt.int_none a t'
  |bl b=>cases rx;exact SeqAt.EqAt.int_bool a t' b
  |int b=>obtain⟨t,rfl⟩:=rx;exact SeqAt.EqAt.int_int a t' b t
  |str b=>obtain⟨t,rfl⟩:=rx;exact VA a t' b t
  |_=>exact absurd (show zd=xV from fx) Ph
 |str a=>
  obtain⟨t',rfl⟩:=ry
  cases x with
  |non=>cases rx;exact SeqAt.EqAt.str_none a t'
  |bl b=>cases rx;exact SeqAt.EqAt.str_bool a t' b
  |int b=>obtain⟨t,rfl⟩:=rx;exact VB a t' b t
  |str b=>obtain⟨t,rfl⟩:=rx;exact SeqAt.EqAt.str_str a t' b t
  |_=>exact absurd (show zd=xV from fx) Ph
 |_=>exact absurd (show zd=xV from fy) Ph
noncomputable def Lu(x:V)(u:OH):Bool:=match u with
 |.none=>Bo .non x
 |.bool b=>Bo (.bl b) x
 |.int i _=>Bo (.int i) x
 |.str z _=>Bo (.str z) x
 |_=>zd
noncomputable def zy(r:RelV y u)(f:gN y=xV):Lu x u=Bo y x:=by
 cases y with
 |non=>cases r;rfl
 |bl b=>cases r;rfl
 |int i=>obtain⟨t,rfl⟩:=r;rfl
 |str z=>obtain⟨t,rfl⟩:=r;rfl
 |_=>exact absurd (f) Ph
theorem mq:∀{xs:List V}{us:List OH},Yx xs us->xs.all gN=xV->us.any (Lu x)=xs.any λy=>Bo y x
 |_,_,.nil,_=>rfl
 |y::xs,u::us,.cons r t,f=>by
  rw[R4,OW] at f;rw[SS,SS,zy r f.1,mq t f.2]
theorem lX(rx:RelV x v)(fx:gN x=xV):∀{xs:List V}{us:List OH},Yx xs us->xs.all gN=xV->∀u∈us,Ym A s u v (Lu x u)
 |_,_,.nil,_=>λu hu=>by simp_all
 |y::xs,u::us,.cons r t,f=>λu' hu=>by
  rw[R4,OW] at f
  rcases OZ.mp hu with rfl|hu
  .rw[zy r f.1];exact zdb r rx f.1 fx
  .exact lX rx fx t f.2 u' hu
def IM(x:V)(xs:List V):Bool:=xs.any λy=>Bo y x
noncomputable def CC(K:Frag)(neg:Bool):R2:=λx y H Q=>∃p xs,y=.ref p/\(Zm K H p xs\/ZV K H p xs)/\gN x=xV/\xs.all gN=xV/\Q (.bl (if neg then !IM x xs else IM x xs)) H
noncomputable def zdc:Zg X (PC .In) (CC X.K zd):=by
 intro pins s σ H x y v u Q I rx ry h;obtain⟨p,xs,rfl,hq,fx,fs,q⟩:=h;cases ry
 rcases hq with hq|hq
 .obtain⟨Yu,r,pl,hz⟩:=I.list hq
  refine SeqAt.in_listAt _ pl.isList (λw hw=>lX rx fx r fs w (by simp_all)) ⟨.bl _,H,I,rfl,?_⟩;rw[show Yu.toArray.any _=Yu.any (Lu x) by simp,mq r fs];exact q
 .obtain⟨Yu,r,pl,hz⟩:=I.tuple hq
  refine SeqAt.in_tupleAt _ pl (λw hw=>lX rx fx r fs w (by simp_all)) ⟨.bl _,H,I,rfl,?_⟩;rw[show Yu.toArray.any _=Yu.any (Lu x) by simp,mq r fs];exact q
noncomputable def zdd:Zg X (PC .NotIn) (CC X.K xV):=by
 intro pins s σ H x y v u Q I rx ry h;obtain⟨p,xs,rfl,hq,fx,fs,q⟩:=h;cases ry
 rcases hq with hq|hq
 .obtain⟨Yu,r,pl,hz⟩:=I.list hq
  refine SeqAt.notIn_listAt _ pl.isList (λw hw=>lX rx fx r fs w (by simp_all)) ⟨.bl _,H,I,rfl,?_⟩;rw[show Yu.toArray.any _=Yu.any (Lu x) by simp,mq r fs];exact q
 .obtain⟨Yu,r,pl,hz⟩:=I.tuple hq
  refine SeqAt.notIn_tupleAt _ pl (λw hw=>lX rx fx r fs w (by simp_all)) ⟨.bl _,H,I,rfl,?_⟩;rw[show Yu.toArray.any _=Yu.any (Lu x) by simp,mq r fs];exact q
noncomputable def C4:YV X (.builtin "len") (λxs H Q=>∃p ys,xs=[.ref p]/\(Zm X.K H p ys\/ZV X.K H p ys)/\Q (.int ys.length) H):=by
 intro pins s σ H xs us Q I r h;obtain⟨p,ys,rfl,hq,q⟩:=h;obtain⟨u,rfl,rx⟩:=vals1 r;cases rx;have hn:=jF
 rcases hq with hq|hq
 .obtain⟨Yu,r',pl,hz⟩:=I.list hq
  have YH:=r'.length;exact Calls.call_len_list pl.isList (by simp only[P9] <;> lia) ⟨.int _,H,I.tok _,⟨s.toks+1,by simp_all⟩,q⟩
 .obtain⟨Yu,r',pl,hz⟩:=I.tuple hq
  have YH:=r'.length;exact len_tuple pl (by simp only[P9] <;> lia) ⟨.int _,H,I.tok _,⟨s.toks+1,by simp_all⟩,q⟩
noncomputable def C0:YV X (.builtin "len") (λxs H Q=>∃z,xs=[.str z]/\z.length<=OO/\Q (.int z.length) H):=by
 intro pins s σ H xs us Q I r h;obtain⟨z,rfl,hz,q⟩:=h;obtain⟨u,rfl,t,rfl⟩:=vals1 r;have hn:=jF;exact len_str (by lia) ⟨.int _,H,I.tok _,⟨_,rfl⟩,q⟩
def YV.or(h:YV X f r)(h':YV X f r'):YV X f (λxs H Q=>r xs H Q\/r' xs H Q):=by
 intro pins s σ H xs us Q I rs q
 rcases q with q|q
 .exact h pins s σ H xs us Q I rs q
 .exact h' pins s σ H xs us Q I rs q
noncomputable def zde:YV X (.type "list") (λxs H Q=>∃p ys,xs=[.ref p]/\(Zm X.K H p ys\/ZV X.K H p ys)/\∀l,H l=zc->Q (.ref l) (upd H l (.lst ys))):=by
 intro pins s σ H xs us Q I r h;obtain⟨p,ys,rfl,hq,q⟩:=h;obtain⟨u,rfl,rx⟩:=vals1 r;cases rx
 have fin:∀(Yu:List _),Yx ys Yu->ys.length<=OO->∀(h':Heap) (c':Nat),_ ->
   h'.get? _=vd { cls:=.type "list",dict:=zc,data:=.seq _ c',slots:=#[] }->EP X pins σ Q _ { s with heap:=h' }:=λYu r' hz h' c' kp e=>
  ⟨.ref _,_,I.laid  kp (Pc _) (show YM _ X.w _ h' _ (.lst ys) from⟨hz,Yu,c',r',e⟩),rfl,q _ (I.hok.fresh (Pc _))⟩
 rcases hq with hq|hq
 .obtain⟨Yu,r',pl,hz⟩:=I.list hq
  have YH:=r'.length;obtain⟨o,ho,hc,n,hd⟩:=pl.isList;exact call_list_seq p (.inl rfl) ho hc hd (λh' c' kp e=>fin Yu r' hz h' c' kp e) (by simp_all)
 .obtain⟨Yu,r',pl,hz⟩:=I.tuple hq
  have YH:=r'.length;obtain⟨o,ho,hc,n,hd⟩:=pl;exact call_list_seq p (.inr rfl) ho hc hd (λh' c' kp e=>fin Yu r' hz h' c' kp e) (by simp_all)
noncomputable def zdf:YV X (.type "tuple") (λxs H Q=>∃p ys,xs=[.ref p]/\((Zm X.K H p ys/\∀l,H l=zc->Q (.ref l) (upd H l (.tup ys)))\/(ZV X.K H p ys/\Q (.ref p) H))):=by
 intro pins s σ H xs us Q I r h;obtain⟨p,ys,rfl,h⟩:=h;obtain⟨u,rfl,rx⟩:=vals1 r;cases rx
 rcases h with⟨hq,q⟩|⟨hq,q⟩
 .obtain⟨Yu,r',pl,hz⟩:=I.list hq
  have YH:=r'.length;refine call_tuple_list pl.isList (λh' kp=>?_) (by grind);have I1:=I.kept (t':=s.toks) kp
  have I2  :=
   I1.laid (t':=s.toks) (λb o e=>OK _ e) (Pc _) (show YM _ X.w _ _ _ (.tup ys) from⟨hz,Yu,r',Wg _ _⟩)
  exact⟨.ref _,_,I2,rfl,q _ (I1.hok.fresh (Pc _))⟩
 .obtain⟨Yu,r',pl,hz⟩:=I.tuple hq
  exact call_tuple_same pl ⟨.ref p,H,I,rfl,q⟩
def CG(K:Frag)(T:String)(x:V)(H:Hp):Prop:=match x with
 |.str _=>T="str"
 |.int _=>T="int"
 |.ref p=>(T="list"/\∃xs,Zm K H p xs)\/(T="tuple"/\∃o,K.lookup p=vd o/\o.cls=.type "tuple"/\o.dict=zc) \/
   (T="dict"/\((∃kvs,H p=vd (.dK kvs))\/∃kvs,H p=vd (.dT kvs)))\/(T="set"/\∃S n,H p=vd (.set S n))
 |_=>False
noncomputable def yT(I:Inv X pins σ H s)(r:RelV x v)(ty:CG X.K T x H) :
  s.TypeIs v T/\∀a,v=.ref a->∃ob,s.heap.get? a=vd ob/\ob.dict=zc:=by
 cases x with
 |str z=>
  obtain⟨t,rfl⟩:=r;cases (ty);exact⟨Se s z t,λ_ e=>nomatch e⟩
 |int i=>
  obtain⟨t,rfl⟩:=r;cases (ty);exact⟨Ux s i t,λ_ e=>nomatch e⟩
 |ref p=>
  cases r
  rcases ty with⟨rfl,xs,hq⟩|⟨rfl,o,hk,hc,hd⟩|⟨rfl,hk⟩|⟨rfl,S,n,hk⟩
  .obtain⟨Yu,_,pl,_⟩:=I.list hq
   refine⟨pl.isList.typeIs,λa e=>?_⟩;cases e;obtain⟨o,n,e,c,hd,_⟩:=pl;exact⟨o,e,hd⟩
  .refine⟨⟨o,I.kIn p o hk,hc⟩,λa e=>?_⟩
   cases e;exact⟨o,I.kIn _ o hk,hd⟩
  .have z:∃o,s.heap.get? p=vd o/\o.ExactDict:=by
    rcases hk with⟨kvs,hk⟩|⟨kvs,hk⟩
    .obtain⟨_,_,_,_,o,_,_,e,ex,_⟩:=I.hok p _ hk
     exact⟨o,e,ex⟩
    .obtain⟨_,_,_,_,o,_,_,e,ex,_⟩:=I.hok p _ hk
     exact⟨o,e,ex⟩
   obtain⟨o,e,ex⟩:=z;refine⟨⟨o,e,ex.1⟩,λa e2=>?_⟩;cases e2;exact⟨o,e,ex.2.1⟩
  .obtain⟨o,_,_,_,e,ex,_⟩:=I.hok p _ hk
   refine⟨⟨o,e,ex.1⟩,λa e2=>?_⟩;cases e2;exact⟨o,e,ex.2.1⟩
 |_=>exact PZ ty
def Lj(K:Frag)(T:String)(r:V->List V->Hp->VK->Prop)(to:TE):TE:=λσ H Q=>to σ H λx H1=>CG K T x H1/\r x [] H1 Q
noncomputable def tBM(K:Frag)(T:String)(r:V->List V->Hp->VK->Prop)(to:TE)(t:TA):TE:=λσ H Q=>to σ H λx H1=>CG K T x H1/\t σ H1 λxs H2=>r x xs H2 Q
variable {o e:Expr}{es:List Expr}{to:TE}{t:TA}{name:Str}{apos cpos:Pos}{T id:String}{r:V->List V->Hp->VK->Prop}
noncomputable def zdg(pa:PlainAttrs T)(slot:Slot T name id)(Iq:typeOf (.builtin id)=pure (.type "method_descriptor"))(hm:Jf X id r)(ho:PE X o to)
  (YY:autoParam (P1 o name X.env (eval o X.env)=eval o X.env) u10) (YX:autoParam ((apos.endLine == cpos.line)=xV) u10):PE X (.Call (.Attribute o name apos) [] [] cpos) (Lj X.K T r to):=by
 intro pins s σ H Q I h;refine wpAny_Call_method0_late YY YX (YF (ho pins s σ H _ I h) λv s1 ⟨x,H1,I1,r1,ty,q1⟩=>?_);obtain⟨h1,h2⟩:=yT I1 r1 ty;exact⟨T,id,pa,slot,Iq,h1,h2,RI rfl (PySem.evalArgs_none (hm pins s1 σ H1 x [] v [] Q I1 r1 .nil q1))⟩
noncomputable def iP(pa:PlainAttrs T)(slot:Slot T name id)(Iq:typeOf (.builtin id)=pure (.type "method_descriptor"))(hm:Jf X id r)(ho:PE X o to)(ha:PA X (e::es) t)
  (YY:autoParam (P1 o name X.env (eval o X.env)=eval o X.env) u10)
  (Zx:autoParam (((PK cpos (OM (e::es) X.env)).all (λx=>!x.1)&&(QS cpos (Qb [] X.env)).all (λx=>x.1.isSome)
   && decide ((e::es).length+([]:List QR).length+(if ([]:List QR).isEmpty then 0 else 1)<30))=xV) u10)
  (YX:autoParam ((apos.endLine == cpos.line)=xV) u10) (hs:autoParam (OM (e::es) X.env=(zd,eval e X.env)::OM es X.env) u10) (YQ:autoParam ((PK cpos (OM es X.env)).any (·.1)=zd) u10) :
  PE X (.Call (.Attribute o name apos) (e::es) [] cpos) (tBM X.K T r to t):=by
 intro pins s σ H Q I h;refine wpAny_Call_method_late YY Zx YX rfl (YF (ho pins s σ H _ I h) λv s1 ⟨x,H1,I1,r1,ty,q1⟩=>?_);obtain⟨h1,h2⟩:=yT I1 r1 ty;refine⟨T,id,pa,slot,Iq,h1,h2,?_⟩;have hA:=ha cpos pins s1 σ H1 _ I1 q1;rw[hs] at hA ⊢;refine RI (by show (zd||(PK cpos _).any _)=zd;rw[YQ] <;> rfl) (SX ?_);exact YF hA λus s2 ⟨vs,H2,I2,r2,q2⟩=>hm pins s2 σ H2 x vs v us Q I2 r1 r2 q2
end
def CL(X:Cx)(id:String)(r:V->List V->Hp->VK->Prop):Prop:=
 ∀(pins:List (Addr×Obj)) (s:OJ) (σ:St) (H:Hp) (x:V) (xs:List V) (v:OH) (us:List OH) (Q:VK),Inv X pins σ H s->RelV x v->Yx xs us->r x xs H Q ->
  Pk (Pi X.prog X.w) X.A (call (.builtin id) (v::us)) (EP X pins σ Q) X.xe s
def Yx.one:∀{x:V}{us:List OH},Yx [x] us->∃u,us=[u]/\RelV x u
 |_,_,.cons r .nil=>⟨_,rfl,r⟩
def Yx.zero:∀{us:List OH},Yx [] us->us=[]
 |_,.nil=>rfl
theorem Yx.dropLast(h:Yx xs us):Yx xs.dropLast us.dropLast:=by
 induction h with
 |nil=>exact .nil
 |cons r t ih=>
  cases t with
  |nil=>exact .nil
  |cons q t'=>exact .cons r ih
theorem Yx.rep(h:Yx xs us):∀k:Nat,Yx (OQ k xs).flatten (OQ k us).flatten
 |0=>.nil
 |k+1=>by
  exact Yx.append h (Yx.rep h k)
theorem foldl_rep(Yu:List OH):∀(k:Nat) (acc:List OH),
  SI (λx1 x2=>x1++x2) acc.toArray (OQ k Yu.toArray)=(acc++(OQ k Yu).flatten).toArray
 |0,acc=>by simp
 |k+1,acc=>by
  have e:acc.toArray++Yu.toArray=(acc++Yu).toArray:=by simp
  have e2:(acc++Yu)++(OQ k Yu).flatten=acc++(OQ (k+1) Yu).flatten:=by grind
  rw[←e2,←foldl_rep Yu k _,←e,Rq,WE]
section
variable {X:Cx}{pins:List (Addr×Obj)}{σ:St}{H:Hp}{s:OJ}{l b:Addr}{xs ys zs:List V}
def Inv.lset{Yu its':List OH}{f:Array OH->Array OH}(I:Inv X pins σ H s)(hH:H l=vd (.lst xs))
  (e:s.heap.get? l=vd { cls:=.type "list",data:=.seq Yu.toArray n }) (hf:f Yu.toArray=its'.toArray) (hv:Yx ys its') (hz:ys.length<=OO) :
  Inv X pins σ (upd H l (.lst ys)) { s with heap:=s.heap.update l (Ti f),toks:=t' }:=by
 have q:=PySem.IsL.update e f;rw[hf] at q;refine I.write   (by rw[hH];exact trivial) (.inl rfl) (λb' u hb hu=>(Pf _ _ (QP hb)).trans hu) ⟨_,q⟩ ?_;exact⟨hz,its',_,hv,q⟩
def Inv.lnew(I:Inv X pins σ H s)(hv:Yx ys Yu)(hz:ys.length<=OO) :
  Inv X pins σ (upd H s.heap.objs.size (.lst ys)) { s with heap:=s.heap.push { cls:=.type "list",data:=.seq Yu.toArray },toks:=t' }:=I.laid (λ_ _ q=>OK _ q) (Pc _) ⟨hz,Yu,0,hv,Pm _ rfl⟩
theorem Inv.fresh(I:Inv X pins σ H s):H s.heap.objs.size=zc:=I.hok.fresh (Pc _)
def Inv.lstM(I:Inv X pins σ H s)(hH:H l=vd (.lst xs)):xs.length<=OO/\∃(Yu:List OH) (n:Nat),Yx xs Yu/\xs.length=Yu.length/\s.heap.get? l=vd { cls:=.type "list",data:=.seq Yu.toArray n }:=by
 obtain⟨z,Yu,n,r,e⟩:=I.hok l _ hH;exact⟨z,Yu,n,r,r.length,e⟩
def zdh(h:n<=OO):Qg n=zd:=by
 unfold Qg;exact decide_eq_false (by lia)
def F7:V->List V->Hp->VK->Prop:=λx vs H Q=>∃l xs y,x=.ref l/\vs=[y]/\H l=vd (.lst xs)/\xs.length<OO/\Q .non (upd H l (.lst (xs++[y])))
noncomputable def zdi:CL X "list.append" F7:=by
 intro pins s σ H x vs v us Q I rx rv h;obtain⟨l,xs,y,rfl,rfl,hH,hz,q⟩:=h;cases rx;obtain⟨u,rfl,ru⟩:=rv.one;obtain⟨z,Yu,n,r,hl,e⟩:=I.lstM hH;refine Rm F.slot_list_append ⟨_,e,rfl⟩ F.entry_list_append (F.args_list_append_2 _ _) (PySem.list_append l _ n u (by simp_all)) ⟨e,?_⟩
 refine⟨.non,_,I.lset  hH e (by simp) (r.append (.cons ru .nil)) ?_,rfl,q⟩<;>grind
def Lo:V->List V->Hp->VK->Prop:=λx vs H Q=>∃l xs y,x=.ref l/\vs=[]/\H l=vd (.lst xs)/\xs[xs.length-1]? = vd y/\Q y (upd H l (.lst xs.dropLast))
noncomputable def zdj:CL X "list.pop" Lo:=by
 intro pins s σ H x vs v us Q I rx rv h;obtain⟨l,xs,y,rfl,rfl,hH,hy,q⟩:=h;cases rx;have hus:=rv.zero;subst hus;obtain⟨z,Yu,n,r,hl,e⟩:=I.lstM hH;obtain⟨u,hu,ru⟩:=r.get hy
 have hy':Yu.toArray[Yu.toArray.size-1]? = vd u:=by simp_all
 refine Rm F.slot_list_pop ⟨_,e,rfl⟩ F.entry_list_pop (F.args_list_pop_1 _) (MeetsSeq.list_pop_last l _ n u hy' (by grind)) ⟨e,?_⟩
 refine⟨y,_,I.lset  hH e ?_ r.dropLast ?_,ru,q⟩<;>grind
def len_rep{α:Type}(xs:List α)(k:Nat):(OQ k xs).flatten.length=k*xs.length :=by simp
end
section
variable {κ:Type}[DecidableEq κ]
def cB(kvs:List (κ×V))(k:κ):Option V:=(kvs.find? λkv=>decide (kv.1=k)).map (·.2)
noncomputable def putK(kvs:List (κ×V))(k:κ)(v:V):List (κ×V):=if (kvs.any λkv=>decide (kv.1=k))=xV then kvs.map (λkv=>if kv.1=k then (kv.1,v) else kv) else kvs++[(k,v)]
def qO{p:κ×V}(e:p.1=k):cB (p::r) k=vd p.2:=by simp[cB,e]
def qP{p:κ×V}(e:¬p.1=k):cB (p::r) k=cB r k:=by simp[cB,e]
theorem qQ(k:κ):∀kvs:List (κ×V),(kvs.any λkv=>decide (kv.1=k))=(cB kvs k).isSome
 |[]=>rfl
 |p::r=>by
  rw[SS]
  by_cases e:p.1=k
  .simp only[qO e,decide_eq_true e,Bool.true_or,VG]
  .rw[qP e,decide_eq_false e];exact qQ k r
def qg(kvs:List (κ×V))(k:κ)(v:V):(putK kvs k v).length<=kvs.length+1:=by unfold putK<;>grind
def zdk{kvs:List (κ×V)}{k:κ}(v:V)(h:cB kvs k=zc):putK kvs k v=kvs++[(k,v)]:=by
 unfold putK
 rw[qQ]<;>simp_all
def Zi.isSome_eq(r:Zi o u):o.isSome=u.isSome:=by
 cases o with
 |none=>cases u with
  |none=>rfl
  |some _=>exact(r).elim
 |some _=>cases u with
  |none=>exact(r).elim
  |some _=>rfl
theorem Zi.getD(r:Zi o u)(rd:RelV d d'):RelV (o.getD d) (u.getD d'):=by
 cases o with
 |none=>cases u with
  |none=>exact rd
  |some _=>exact(r).elim
 |some _=>cases u with
  |none=>exact(r).elim
  |some _=>exact r
def KV.val(r:KV kvs vs)(k:κ):Zi (cB kvs k) (V1 vs k):=by
 induction r with
 |nil=>exact QW
 |@cons p q ps qs h t ih=>
  obtain⟨h1,h2⟩:=h
  by_cases e:p.1=k
  .have e':=h1.symm.trans e
   have b:V1 (q::qs) k=vd q.2:=by simp[V1,e']
   rw[qO e,b];exact h2
  .have e':¬q.1=k:=λz=>e (h1.trans z)
   have b:V1 (q::qs) k=V1 qs k:=by simp[V1,e']
   rw[qP e,b];exact ih
theorem KV.any(r:KV kvs vs)(k:κ):(kvs.any λkv=>decide (kv.1=k))=vs.any λkv=>decide (kv.1=k):=by induction r <;>simp_all
def KV.repl(r:KV kvs vs)(k:κ)(ry:RelV y u) :
  KV (kvs.map λkv=>if kv.1=k then (kv.1,y) else kv) (vs.map λkv=>if kv.1=k then (kv.1,u) else kv):=by
 induction r with
 |nil=>exact .nil
 |@cons p q ps qs h t ih=>
  refine .cons ?_ ih
  by_cases e:p.1=k<;>simp_all
def KV.put(r:KV kvs vs)(k:κ)(ry:RelV y u):KV (putK kvs k y) (stored vs k u):=by
 unfold putK stored;rw[r.any k]
 by_cases e:(vs.any λkv=>decide (kv.1=k))=xV
 .rw[if_pos e,if_pos e];exact r.repl k ry
 .rw[if_neg e,if_neg e];exact Ye r ⟨rfl,ry⟩
def KV.keys{kvs:List (κ×V)}{vs:List (κ×OH)}(r:KV kvs vs):kvs.map (·.1)=vs.map (·.1):=by induction r <;>simp_all
theorem KV.length(r:KV kvs vs):kvs.length=vs.length:=QH r
end
noncomputable def mT(r:RelV (kV k) u):(cD P w).is k u=xV:=by
 cases k with
 |inl i=>obtain⟨t,e⟩:=(r);subst e;exact zag P w i t
 |inr x=>obtain⟨t,e⟩:=(r);subst e;exact zah P w x t
theorem vv:∀{ks:List Key}{us:List OH},Yx (ks.map kV) us->ItemsAre (cD P w) ks us
 |[],_,r=>by cases r;exact .nil
 |k::ks,_,r=>by
  cases r with
  |cons h t=>exact .cons (mT h) (vv t)
abbrev KT(H:Hp):List (List Key×V)->List (List Key×Addr×OH)->Prop:=UY λp q=>p.1=q.1/\H q.2.1=vd (.tup (p.1.map kV))/\RelV p.2 q.2.2
def KT.val(r:KT H kvs xs)(k:List Key):Zi (cB kvs k) ((W2 xs k).map (·.2)):=by
 induction r with
 |nil=>exact QW
 |@cons p q ps qs h t ih=>
  obtain⟨h1,_,h2⟩:=h
  by_cases e:p.1=k
  .have e':=h1.symm.trans e
   have b:W2 (q::qs) k=vd q.2:=by simp[W2,e']
   rw[qO e,b];exact h2
  .have e':¬q.1=k:=λz=>e (h1.trans z)
   have b:W2 (q::qs) k=W2 qs k:=by simp[W2,e']
   rw[qP e,b];exact ih
def KT.repl(r:KT H kvs xs)(k:List Key)(ry:RelV y u) :
  KT H (kvs.map λkv=>if kv.1=k then (kv.1,y) else kv) (xs.map (putAt k u)):=by
 induction r with
 |nil=>exact .nil
 |@cons p q ps qs h t ih=>
  refine .cons ?_ ih;unfold putAt
  by_cases e:p.1=k<;>simp_all
def KT.put(r:KT H kvs xs)(k:List Key)(hb:H b=vd (.tup (k.map kV)))(ry:RelV y u) :
  KT H (putK kvs k y) (storedH xs k b u):=by
 have e:(kvs.any λkv=>decide (kv.1=k))=(W2 xs k).isSome:=by
  rw[qQ,(r.val k).isSome_eq,Option.isSome_map]
 unfold putK storedH;rw[e]
 by_cases q:(W2 xs k).isSome=xV
 .rw[if_pos q,if_pos q];exact r.repl k ry
 .rw[if_neg q,if_neg q];exact Ye r ⟨rfl,hb,ry⟩
def KT.keeps(r:KT H kvs xs)(ht:∀b ys,H b=vd (.tup ys)->H' b=vd (.tup ys)):KT H' kvs xs:=Paired.mapP r λ_ _ z=>⟨z.1,ht _ _ z.2.1,z.2.2⟩
section
variable {P:Pb}{w:Pp}{H:Hp}{h:Heap}{a:Addr}
def z8(ok:Zh P w H h)(e:Rd H a u):YM P w H h a u:=e.ok ok
noncomputable def jT(ok:Zh P w H h)(e:Rd H a (.dK kvs)):kvs.length<=OO/\(a == Qv)=zd/\∃vs,KV kvs vs/\h.DictOf (cD P w) a vs:=z8 ok e
noncomputable def Am(ok:Zh P w H h)(e:H a=vd (.dK kvs)):kvs.length<=OO/\(a == Qv)=zd/\∃vs,KV kvs vs/\h.DictOf (cD P w) a vs:=jT ok (.inl e)
noncomputable def oY(ok:Zh P w H h)(e:H a=vd (.tup (ks.map kV))):(Vh (cD P w)).is h ks a:=by
 obtain⟨_,Yu,r,o,h1,h2,n,h3⟩:=(ok a _ e);exact⟨o,Yu.toArray,n,h1,h2,h3,by simpa using vv r⟩
noncomputable def mX(ok:Zh P w H h)(e:Rd H a (.dT kvs)):kvs.length<=OO/\(a == Qv)=zd /\
  ∃xs,KT H kvs xs/\h.DictOfH (Vh (cD P w)) a xs:=by
 obtain⟨z,y,xs,r,o,es,ep,h1,h2,h3,h4,h5⟩:=(z8 ok e);refine⟨z,y,xs,r,o,es,ep,h1,h2,h3,h4,λx hx=>?_,h5⟩
 have all:∀{l:List _}{m:List _},KT H l m->∀x∈m,(Vh (cD P w)).is h x.1 x.2.1:=by
  intro l m q
  induction q with
  |nil=>simp_all
  |@cons p q ps qs hq t ih=>
   intro x hx
   rcases OZ.mp hx with e|hx
   .exact oY ok (by simp_all)
   .exact ih x hx
 exact all r x hx
noncomputable def zdl(ok:Zh P w H h)(e:H a=vd (.dT kvs)):kvs.length<=OO/\(a == Qv)=zd /\
  ∃xs,KT H kvs xs/\h.DictOfH (Vh (cD P w)) a xs:=mX ok (.inl e)
end
def Cj(H:Hp)(a:Addr)(y:V)(r:Option V):Prop:=(∃kvs k,Rd H a (.dK kvs)/\y=kV k/\r=cB kvs k)\/∃kvs k b,Rd H a (.dT kvs)/\y=.ref b/\H b=vd (.tup (k.map kV))/\r=cB kvs k
def Gq(H:Hp)(a:Addr)(y v:V)(H':Hp):Prop:=
 (∃kvs k,H a=vd (.dK kvs)/\y=kV k/\kvs.length<OO/\H'=upd H a (.dK (putK kvs k v))) \/
 ∃kvs k b,H a=vd (.dT kvs)/\y=.ref b/\H b=vd (.tup (k.map kV))/\kvs.length<OO/\H'=upd H a (.dT (putK kvs k v))
theorem Gq.k{H:Hp}{a:Addr}{kvs:List (Key×V)}{k:Key}{v:V}(e:H a=vd (.dK kvs))(hl:kvs.length<OO):Gq H a (kV k) v (upd H a (.dK (putK kvs k v))):=.inl ⟨kvs,k,e,rfl,hl,rfl⟩
section
variable {X:Cx}{pins:List (Addr×Obj)}{σ:St}{H:Hp}{s:OJ}{a:Addr}{y v:V}{u r:OH}{o:Option V}{A:Pw}{E:OH->OJ->Prop}{kvs:List (Key×V)}{k:Key}
def Inv.big(I:Inv X pins σ H s):Qv<s.heap.objs.size:=by
 have h:=(I.mod.glob.keeps I.bk).lt;exact Uy (by decide) h
noncomputable def zdm(hu:A.units+1<XM)(I:Inv X pins σ H s)(g:Cj H a y (vd v))(ry:RelV y u)(h:∀w' s',Inv X pins σ H s'->RelV v w'->Q w' s') :
  Pk (Pi X.prog X.w) A (SR (.ref a) u) Q E s:=by
 rcases g with⟨kvs,k,e,ey,l⟩|⟨kvs,k,b,e,ey,eb,l⟩
 .subst ey
  obtain⟨z,hd,vs,rel,dd⟩:=jT I.hok e;obtain⟨w',hw,Zc⟩:=Zi.some_of   (by rw[l];exact rel.val k);exact wpAny_getItem_of (mT ry) dd.mapOf hw (h w' _ (I.tok _) Zc)
 .subst ey
  cases (ry);obtain⟨z,hd,xs,rel,dd⟩:=mX I.hok e;obtain⟨w',hw,Zc⟩:=Zi.some_of   (by rw[l];exact rel.val k);obtain⟨p,hp,CY⟩:=OT.mp hw;refine wpAny_getItem_heap (Tj hu) (oY I.hok eb) dd hp ?_;rw[CY];exact h w' _ (I.tok _) Zc
noncomputable def sj(I:Inv X pins σ H s)(mu:Kt (H a))(hs:Rh a s.heap h')(he:∃q,h'.get? a=vd q)(new:YM X.prog X.w (upd H a ob) h' a ob) :
  Inv X pins σ (upd H a ob) { s with heap:=h',toks:=t' }:=I.write   mu (.inl rfl) (λb q hb z=>(hs.2 b hb).trans z) he new
noncomputable def zE(z:kvs.length<=OO)(hd:(a == Qv)=zd)(rel:KV kvs vs)(dd:h'.DictOf (cD P w) a vs) :
  YM P w H' h' a (.dK kvs):=⟨z,hd,vs,rel,dd⟩
noncomputable def zdn(hu:A.units+1<XM)(I:Inv X pins σ H s)(g:Gq H a y v H')(ry:RelV y u)(rv:RelV v r)(h:∀s',Inv X pins σ H' s'->Q () s') :
  Pk (Pi X.prog X.w) A (XZ (.ref a) u r) Q E s:=by
 rcases g with⟨kvs,k,e,ey,l,eH⟩|⟨kvs,k,b,e,ey,eb,l,eH⟩
 .subst ey eH
  obtain⟨z,hd,vs,rel,dd⟩:=Am I.hok e
  have hz:vs.length<=sizeLine:=by rw[←rel.length];exact z
  have hl:(putK kvs k v).length<=sizeLine:=by have:=qg kvs k v;lia
  refine wpAny_setItem_pairs  (mT ry) dd λh' Gu hs=>h _ ?_
  have he:∃q,h'.get? a=vd q:=let ⟨q,_,_,hq,_⟩:=Gu;⟨q,hq⟩
  exact sj I (by rw[e];exact QW) hs he (zE hl hd (rel.put k rv) Gu)
 .subst ey eH
  cases (ry);obtain⟨z,hd,xs,rel,dd⟩:=zdl I.hok e
  have hz:xs.length<=sizeLine:=by rw[←QH rel];exact z
  have hl:(putK kvs k v).length<=sizeLine:=by have:=qg kvs k v;lia
  refine wpAny_setItem_heap (hsz:=hz) (Tj hu) (oY I.hok eb) dd λh' Gu hs=>h _ ?_;obtain⟨q,es,ep,hq,h2,h3,h4,_,h5⟩:=Gu;refine sj I (by rw[e];exact QW) hs ⟨q,hq⟩ ⟨hl,hd,_,(rel.put k eb rv).keeps λc ys ec=>?_,q,es,ep,hq,h2,h3,h4,h5⟩;rw[aJ (zai ec e (λz=>nomatch z))];exact ec
noncomputable def zdo(I:Inv X pins σ H s)(e:Rd H a (.dK kvs))(h:∀t s',Inv X pins σ H s'->Q (.int kvs.length t) s'):Pk (Pi X.prog X.w) A (call (.builtin "len") [.ref a]) Q E s:=by
 obtain⟨z,hd,vs,rel,dd⟩:=jT I.hok e;refine call_len_dict hd dd (by rw[←rel.length];rw[Sh] at z;lia) ?_;rw[←rel.length];exact h _ _ (I.tok _)
end
def ud(i:Expr):Prop:=∀ov iv,U1 i zd ov iv=operate [ov,iv] (SR ov iv)
noncomputable def zdp{prog:Pb}{w:Pp}{A:Pw}{E:OH->OJ->Prop}{s:OJ}{env:Env}{value slice:Expr}{pos:Pos}{T id:String}{Q:OH->OJ->Prop}
  (hl:Uv (.type T) "__getitem__"=pure (vd (.builtin id))) (hs:ud slice)
  (h:Pk (Pi prog w) A (eval value env) (λo za=>Pk (Pi prog w) A (eval slice env) (λi C3=>C3.TypeIs o T/\Pk (Pi prog w) A (SR o i) Q E C3) E za) E s) :
  Pk (Pi prog w) A (eval (.Subscript value slice pos) env) Q E s:=by
 refine W1 (Qe h (λo za Eb=>Qe Eb (λi C3 IQ=>?_) λ_ _ x=>x) λ_ _ x=>x);obtain⟨hT,IQ⟩:=IQ;refine ON ?_;refine ON (UJ hT hl ?_)
 have fin:Pk (Pi prog w) A (U1 slice zd o i) (λr Fv=>Pk (Pi prog w) A (letTemporaryGo value o r >>= λ_=>pure r) Q E Fv) E C3:=by
  rw[hs o i];exact wpAny_operating (Qe IQ (λr Fv JT=>ON (wpAny_letTemporaryGo (Pg JT))) λ_ _ x=>x)
 first
  |exact Pg (ON fin)
  |grind
  |grind
noncomputable def zdq(I:Inv X pins σ H s)(g:Cj H a y o):s.TypeIs (.ref a) "dict":=by
 rcases g with⟨kvs,k,e,_,_⟩|⟨kvs,k,b,e,_,_,_⟩
 .obtain⟨_,_,vs,_,dd⟩:=jT I.hok e
  exact dd.typeIs
 .obtain⟨_,_,xs,_,dd⟩:=mX I.hok e
  exact dd.typeIs
def J0(td ty:TE):TE:=λσ H Q=>td σ H λx H1=>ty σ H1 λy H2=>∃a v,x=.ref a/\Cj H2 a y (vd v)/\Q v H2
noncomputable def J8(td ty tv:TE):TS:=λD σ H=>tv σ H λv H1=>td σ H1 λx H2=>ty σ H2 λy H3=>∃a H4,x=.ref a/\Gq H3 a y v H4/\D.nx σ H4
section
variable {X:Cx}{o i e value:Expr}{pos pos' Z8:Pos}{td ty tv:TE}
noncomputable def zdr(hu:X.A.units+1<XM)(ho:PE X o td)(hi:PE X i ty)(hs:ud i):PE X (.Subscript o i pos) (J0 td ty):=by
 intro pins s σ H Q I h;refine zdp PySem.F.slot_dict_getitem.lookup hs (YF (ho pins s σ H _ I h) λu s1 ⟨x,H1,I1,rx,q1⟩=>YF (hi pins s1 σ H1 _ I1 q1) λiv s2 ⟨y,H2,I2,ry,a,v,ex,g,q2⟩=>?_);subst ex;obtain rfl:u=Pr a:=rx;exact⟨zdq I2 g,zdm hu I2 g ry λw' s3 I3 Zc=>⟨v,H2,I3,Zc,q2⟩⟩
noncomputable def zds(hu:X.A.units+1<XM)(ho:PE X o td)(hi:PE X i ty)(hv:PE X value tv)(hs:P4 value (vd (.Subscript o i pos')) pos.line X.env=pure zd) :
  PS X (.Assign [.Subscript o i pos'] value pos) (J8 td ty tv):=by
 intro pins s σ H D I h;refine wpAny_Assign_Subscript (YF (hv pins s σ H _ I h) λr s1 ⟨v,H1,I1,rv,q1⟩=>YF (ho pins s1 σ H1 _ I1 q1) λu s2 ⟨x,H2,I2,rx,q2⟩=>YF (hi pins s2 σ H2 _ I2 q2) λiv s3 ⟨y,H3,I3,ry,a,H4,ex,g,q3⟩=>?_) hs;subst ex;obtain rfl:u=Pr a:=rx;exact zdn hu I3 g ry rv λs4 I4=>⟨σ,H4,I4,q3⟩
end
noncomputable def zdt(h:Heap)(hb:Qv<h.objs.size):YM P w H (h.push { cls:=.type "dict",data:=.dict #[] }) h.objs.size (.dK []):=⟨Ri _,beq_eq_false_iff_ne.mpr (QP (Pl hb)),[],.nil,Heap.DictOf.new h⟩
noncomputable def oK:List (TE×TE)->St->Hp->(List (V×V)->Hp->Prop)->Prop
 |[],_,H,Q=>Q [] H
 |(tk,tv)::r,σ,H,Q=>tk σ H λx H1=>tv σ H1 λy H2=>oK r σ H2 λps H3=>Q ((x,y)::ps) H3
abbrev VV:List (V×V)->List (OH×OH)->Prop:=UY λp q=>RelV p.1 q.1/\RelV p.2 q.2
def Ia(X:Cx)(pos:Pos)(keys:List (Option Expr))(values:List Expr)(HV:List (TE×TE)):Prop:=
 ∀(pins:List (Addr×Obj)) (s:OJ) (σ:St) (H:Hp) (Q:List (V×V)->Hp->Prop),Inv X pins σ H s->oK HV σ H Q ->
  Pk (Pi X.prog X.w) X.A (evalPairs (pairTrees keys values X.env pos)) (λvs s'=>∃ps H',Inv X pins σ H' s'/\VV ps vs/\Q ps H') X.xe s
def zdu:Ia X pos [] [] []:=λpins s σ H Q I h=>pairTrees_nil_walk ⟨[],H,I,.nil,h⟩
noncomputable def zdv(hk:PE X k tk)(hv:PE X v tv)(hr:Ia X pos ks vs HV) :
  Ia X pos (vd k::ks) (v::vs) ((tk,tv)::HV):=λpins s σ H Q I h=>
 pairTrees_cons_walk (YF (hk pins s σ H _ I h) λu s1 ⟨x,H1,I1,rx,q1⟩=>YF (hv pins s1 σ H1 _ I1 q1) λw2 s2 ⟨y,H2,I2,ry,q2⟩=>
  YF (hr pins s2 σ H2 _ I2 q2) λws s3 ⟨ps,H3,I3,rel,q3⟩=>⟨_::ps,H3,I3,.cons ⟨rx,ry⟩ rel,q3⟩)
def gF(kvs more:List (Key×V)):List (Key×V):=more.foldl (λacc kv=>putK acc kv.1 kv.2) kvs
def KV.merge:∀{more:List (Key×V)}{rs:List (Key×OH)}{kvs:List (Key×V)}{vs:List (Key×OH)},KV more rs->KV kvs vs->KV (gF kvs more) (merged vs rs):=by
 intro more rs kvs vs r
 induction r generalizing kvs vs with
 |nil=>intro q;exact q
 |@cons p q ps qs h t ih=>
  intro r0
  have e:KV (putK kvs p.1 p.2) (stored vs q.1 q.2):=by
   have:=r0.put p.1 h.2<;>simp_all
  exact ih e
theorem uj:∀(more kvs:List (Key×V)),(gF kvs more).length<=kvs.length+more.length
 |[],kvs=>by show kvs.length<=kvs.length+0;lia
 |p::r,kvs=>by
  have h1:=uj r (putK kvs p.1 p.2);have h2:=qg kvs p.1 p.2
  show (gF _ r).length<=_<;>grind
theorem uV{P:Pb}{w:Pp}:∀{kvs:List (Key×V)}{ws:List (OH×OH)},VV (kvs.map λkv=>(kV kv.1,kv.2)) ws->∃rs,Carries (cD P w) ws rs/\KV kvs rs
 |[],_,r=>by cases r;exact⟨[],QW,.nil⟩
 |p::kvs,_,r=>by
  cases r with
  |@cons a b as bs h t=>
   obtain⟨rs,c,q⟩:=uV (P:=P) (w:=w) t;obtain⟨b1,b2⟩:=b;exact⟨(p.1,b2)::rs,⟨mT h.1,rfl,c⟩,.cons ⟨rfl,h.2⟩ q⟩
noncomputable def JZ(HV:List (TE×TE)):TE:=λσ H Q=>∀p,H p=zc->oK HV σ (upd H p (.dK [])) λps H2=>H2 p=vd (.dK [])/\∃kvs:List (Key×V),ps=kvs.map (λkv=>(kV kv.1,kv.2))/\kvs.length<=15/\Q (.ref p) (upd H2 p (.dK (gF [] kvs)))
noncomputable def zdw(h:Ia X pos keys values HV)(Cg:keys.all (·.isSome)=xV)(hl:keys.length=values.length)(h0:keys≠[])
  (Dl:keys.length<=15):PE X (.Dict keys values pos) (JZ HV):=by
 intro pins s σ H Q I q;have hn:=I.hok.fresh (Pc _);have I1:=I.laid    (t':=s.toks) (λ_ _ q=>OK _ q) (Pc _) (zdt _ I.big);refine wpAny_Dict_walk (knd:=cD _ X.w) Cg hl h0 Dl (YF (h pins _ σ _ _ I1 (q _ hn)) λws s2 ⟨ps,H2,I2,rel,e,kvs,ep,lk,q2⟩=>?_);subst ep;obtain⟨rs,c,rk⟩:=uV   rel;obtain⟨z,hd,vs0,r0,dd⟩:=Am I2.hok e;cases r0;refine⟨rs,c,dd,λh' Gu hs=>⟨.ref _,_,?_,rfl,q2⟩⟩
 have hz:(gF [] kvs).length<=sizeLine:=by
  have h1:=uj kvs [];rw[Qz] at h1;rw[Sh];lia
 have he:∃q,h'.get? _=vd q:=let ⟨q,_,_,hq,_⟩:=Gu;⟨q,hq⟩
 exact sj I2 (by rw[e];exact QW) hs he (zE hz hd (rk.merge .nil) Gu)
structure M1(X:Cx)(o:Expr)(m:Str)(apos:Pos)(e:Expr)(cpos:Pos):Prop where
 base:P1 o m X.env (eval o X.env)=eval o X.env
 few:((PK cpos (OM [e] X.env)).all (λx=>!x.1)&&(QS cpos (Qb [] X.env)).all (λx=>x.1.isSome)
  && decide (([e]:List Expr).length+([]:List QR).length+(if ([]:List QR).isEmpty then 0 else 1)<30))=xV
 line:(apos.endLine == cpos.line)=xV
 trees:PK cpos (OM [e] X.env)=[(zd,eval e X.env)]
def DK(H:Hp)(a:Addr):Prop:=(∃kvs,Rd H a (.dK kvs))\/∃kvs,Rd H a (.dT kvs)
noncomputable def zdx(I:Inv X pins σ H s)(d:DK H a) :
  s.TypeIs (.ref a) "dict"/\(∀b,Pr a=.ref b->∃ob,s.heap.get? b=vd ob/\ob.dict=zc)/\(a == Qv)=zd:=by
 rcases d with⟨kvs,e⟩|⟨kvs,e⟩
 .obtain⟨_,hd,vs,_,dd⟩:=jT I.hok e
  refine⟨dd.typeIs,λb q=>?_,hd⟩;cases q;obtain⟨ob,_,_,h1,h2,_⟩:=dd;exact⟨ob,h1,h2.2.1⟩
 .obtain⟨_,hd,xs,_,dd⟩:=mX I.hok e
  refine⟨dd.typeIs,λb q=>?_,hd⟩;cases q;obtain⟨ob,_,_,h1,h2,_⟩:=dd;exact⟨ob,h1,h2.2.1⟩
section
variable {X:Cx}{pins:List (Addr×Obj)}{σ:St}{H:Hp}{s:OJ}{a:Addr}{y d:V}{u r:OH}{o:Option V}{A:Pw}{E:OH->OJ->Prop}
noncomputable def zdy(hu:A.units+1<XM)(I:Inv X pins σ H s)(g:Cj H a y o)(ry:RelV y u)(h:∀w' s',Inv X pins σ H s'->RelV (o.getD .non) w'->Q w' s') :
  Pk (Pi X.prog X.w) A (call (.builtin "dict.get") [.ref a,u]) Q E s:=by
 rcases g with⟨kvs,k,e,ey,l⟩|⟨kvs,k,b,e,ey,eb,l⟩
 .subst ey
  obtain⟨z,hd,vs,rel,dd⟩:=jT I.hok e;refine call_meetsIn SH dd.typeIs Uz (Ug _ _) (meets_dict_get _ a (mT ry) hd) ⟨_,dd.mapOf,h _ _ (I.tok _) ?_⟩;rw[l];exact(rel.val k).getD rfl
 .subst ey
  cases (ry);obtain⟨z,hd,xs,rel,dd⟩:=mX I.hok e;refine call_meetsIn SH dd.typeIs Uz (Ug _ _) (meetsH_dict_get _ a b hd) ⟨Tj hu,k,xs,oY I.hok eb,dd,h _ _ (I.tok _) ?_⟩;rw[l];exact(rel.val k).getD rfl
end
noncomputable def HH(td ty:TE):TE:=λσ H Q=>td σ H λx H1=>∃a,x=.ref a/\DK H1 a/\ty σ H1 λy H2=>∃o,Cj H2 a y o/\Q (o.getD .non) H2
section
variable {X:Cx}{o e f:Expr}{apos cpos:Pos}{td ty tx:TE}
noncomputable def zdz(hu:X.A.units+1<XM)(ho:PE X o td)(he:PE X e ty)(m:M1 X o "get" apos e cpos):PE X (.Call (.Attribute o "get" apos) [e] [] cpos) (HH td ty):=by
 intro pins s σ H Q I h;refine wpAny_Call_method m.base m.few m.line PySem.F.plainAttrs_dict SH PySem.F.type_dict_get (YF (ho pins s σ H _ I h) λu s1 ⟨x,H1,I1,rx,a,ex,d,q1⟩=>?_);subst ex;obtain rfl:u=Pr a:=rx;obtain⟨t1,t2,_⟩:=zdx I1 d;refine⟨t1,t2,?_⟩;rw[m.trees];refine RI rfl (SX (RG (YF (he pins s1 σ H1 _ I1 q1) λiv s2 ⟨y,H2,I2,ry,ov,g,q2⟩=>Sr ?_)));exact zdy hu I2 g ry λw' s3 I3 Zc=>⟨_,H2,I3,Zc,q2⟩
end
end L2
namespace Att
open PySem PySem.W PySem.Calls PyProof.Rows
noncomputable def zea:∀(ns:List Int) (vs:List OH),WellAll P h vs (ns.map WData.int)->WR vs ns:=by
 intro ns
 induction ns with
 |nil=>
  intro vs w;cases w;exact .nil
 |cons n ns ih=>
  intro vs w
  cases w with
  |cons a b=>
   cases a;exact .cons _ _ (ih _ b)
noncomputable def zeb{l:OpenLaw}(hn:l.most=vd n){h:Heap}
  (hpre:l.row.toRowW.claim.pre args=xV) (hwl:WellAll P h vals args) :
  ∃a vs ns,vals=[Pr a]/\args=[WData.list (ns.map WData.int)]/\h.get? a=vd { cls:=.type "list",data:=.seq vs.toArray }/\WR vs ns/\ns.length<=n:=by
 have hsh:WShape.hasAll [] args [.list .int]=xV:=(pre_splitW hpre).1;have hc:l.pre.holds [] { args:=args } = xV:=(pre_splitW hpre).2;obtain⟨d,r,rfl,h1,h2⟩:=hasAllW_cons hsh;obtain rfl:=hasAllW_nil h2;obtain⟨xs,rfl,h3⟩:=hasW_list h1;obtain⟨ns,rfl⟩:=items_int h3
 have YH:ns.length<=n:=by
  have h4:=by
   have h4:=(holds_andW hc).1
   rw[hn] at h4<;>omega
  have h5:=condW_of h4 (w_not (w_lt w_lit (w_len_list (w_arg rfl))))<;>simp_all
 cases hwl with
 |cons w1 w2=>
  cases w2
  cases w1 with
  |list ho Cg=>exact⟨_,_,ns,rfl,rfl,ho,zea ns _ Cg,YH⟩
noncomputable def zec(l:OpenLaw)(args:List WData):l.row.toRowW.claim.post args (.bool xV) args=xV:=
 postW_of
  (rfl)
  (w_eq_bool (w_res rfl) w_lit) rfl
noncomputable def zed{l:OpenLaw}{XP:(Str->Option OH)->Heap->Prop}{YP:Pp->Heap->Prop}{d:DefRec}
  (hn:l.most=vd n) (K0:d.params.defaults=[])
  (call:∀(w:Pp) (s₀ za:OJ) (mg mb:Str->Option OH) (fa:Addr) (o:Obj) (pm cd doc:OH) (a:Addr) (vs:List OH) (ns:List Int),
   Ground q loose [] XP w s₀ mg mb za.heap->YP w za.heap ->
   za.heap.get? fa=vd o->o.data=.func (docDef d.name d.params d.body d.scope pm cd doc)->za.heap.CodeRec cd d.name->mg d.name=vd (.ref fa) ->
   za.heap.get? a=vd { cls:=.type "list",data:=.seq vs.toArray }->WR vs ns->ns.length<=n->za.gens = #[] ->
   So (Pi l.prog w) UA (.call (.ref fa) ⟨[.ref a],[]⟩) (λr s'=>r=.ok (.ret (.bool xV))/\OldK za.heap s'.heap/\s'.os=za.os/\SN s'.gens) za) :
  WalkO q loose XP YP l.row.toRowW d [] (λf vs=>UB f vs):=by
 intro w s₀ za mg mb G Y fa o pm cd doc dV kV ho hd hcd hD hmg hg args vals as hpre hlay hrd hwl hlo;obtain rfl:dV=.none:=Dflts.none hD K0;obtain rfl:kV=.none:=Dflts.noKw hD;obtain⟨a,vs,ns,rfl,rfl,Ki,GN,YH⟩:=zeb hn hpre hwl;refine enter_call (Ss (call w s₀ za mg mb fa o pm cd doc a vs ns G Y ho (fd_plain hd) hcd hmg Ki GN YH hg) λr s' hq=>?_);obtain⟨rfl,h2,h3,h4⟩:=hq;exact⟨.inl ⟨.bool xV,.bool xV,[],rfl,λ_=>rfl,.bool xV,zec l _,λ_=>⟨Ys,λ_ hm=>(nomatch hm)⟩⟩,h2,h3,h4⟩
end Att
namespace L2
theorem uY:∀{vs:List OH}{ns:List Int},WR vs ns->Yx (ns.map V.int) vs
 |_,_,.nil=>.nil
 |_,_,.cons n t h=>.cons ⟨t,rfl⟩ (uY h)
def uc(H:Hp):Prop:=∀b,H b=zc\/∃o xs,H b=vd (.frz o (.lst xs))
noncomputable def zee{K:Frag}{mg mb:Str->Option OH}{za:OJ}{vs:List OH}{ns:List Int}
  (KX:K.In za.heap) (Lr:za.heap.Ns Pt mg) (hb:za.heap.Ns WW mb) (Jy:∀x:Str,x≠"__name__"->mb x=Qy x) (GS:za.heap.NoLimit) (hg:za.gens = #[])
  (ha:za.heap.get? a=vd { cls:=.type "list",data:=.seq vs.toArray }) (hi:WR vs ns) (hl:ns.length<=OO) (hr:YD k UA)
  (F:∀base:Heap,K.In base->base.Ns Pt mg->YJ P w K mg base CX k fa fd [x] sp) (Ku:∀(s:OJ) (u:OH),VX s fd ⟨[u],[]⟩ [(x,u)])
  (KO:∀H:Hp,uc H->Zm K H a (ns.map V.int)->sp [.ref a] H (λv _=>v=.bl xV) λ_ _ _=>False)
  (EV:∀H e s',CX [] H za (λ_ _ _=>False) e s'->False) :
  So (Pi P w) UA (.call (.ref fa) ⟨[.ref a],[]⟩) (λr s'=>r=.ok (.ret (.bool xV))/\OldK za.heap s'.heap/\s'.os=za.os/\SN s'.gens) za:=by
 have rv:=uY hi;have Fx:=hi.length
 have core:∀H:Hp,uc H->Zm K H a (ns.map V.int)->Zh P w H za.heap->(∀b,H b≠zc->b=a)->(H a≠zc->K.lookup a=zc) ->
   So (Pi P w) UA (.call (.ref fa) ⟨[.ref a],[]⟩) (λr s'=>r=.ok (.ret (.bool xV))/\OldK za.heap s'.heap/\s'.os=za.os/\SN s'.gens) za:=by
  intro H hO hS hok hA hK;have Gi:∀{b:Addr}{o:Obj},za.heap.get? b=vd o->H b=zc->(ij za.heap H).get? b=vd o:=λe n=>zak e n
  have J3:∀{b:Addr}{o:Obj}{es:Array XT}{ep:Nat},za.heap.get? b=vd o->o.data=.dict es ep->H b=zc:=λ{b o es ep} e d=>by
   cases q:H b with
   |none=>rfl
   |some u=>
    have e':b=a:=hA b (by rw[q];simp);subst e';rw[ha] at e;cases e;have d':Yf vs.toArray _=Data.dict es ep:=d;cases d'
  have CU:∀{b:Addr}{m:Str->Option OH},za.heap.Ns b m->(ij za.heap H).Ns b m:=λ{b m} ⟨o,es,ep,e,d,r⟩=>⟨o,es,ep,Gi e (J3 e d),d,r⟩
  have hKb:K.In (ij za.heap H):=λb o e=>Gi (KX b o e) (by
   cases q:H b with
   |none=>rfl
   |some u=>
    have e':b=a:=hA b (by rw[q];simp);subst e'
    rw[hK (by rw[q];simp)] at e;cases e)
  have hM:Mod K mg (ij za.heap H):=⟨hKb,CU Lr,⟨mb,CU hb,Jy⟩,let ⟨mc,h1,h2⟩:=GS;⟨mc,CU h1,h2⟩⟩;have e0:DY P w K mg (ij za.heap H) UA [] za H:=⟨rfl,hM,λb o e=>zal e,X1 (zaj _ _),trivial,λb hb=>absurd (show b∈([]:List Addr) from hb) (by simp),hok,.of_eq hg⟩;refine Ss ((F _ hKb (CU Lr)).run UA [] za H ⟨[.ref a],[]⟩ [.ref a] [.ref a] _ _ hr e0 (Ku za (.ref a)) (.cons rfl .nil) (KO H hO hS)) λr s' h=>?_
  cases r with
  |error e=>exact(EV H e s' h).elim
  |ok fl=>
   cases fl with
   |next=>exact PZ h
   |brk=>exact PZ h
   |cont=>exact PZ h
   |ret u=>
    obtain⟨v,H',os,bare,un,GV,r',q⟩:=h;have q':v=.bl xV:=q;subst q';obtain rfl:u=VC xV:=r';refine⟨rfl,OldK.of_keep λb o e=>?_,os,bare⟩
    cases q:H b with
    |none=>exact un.keep b o e q (by intro z;exact absurd (show b∈([]:List Addr) from z) (by simp)) (by simp)
    |some u=>
     rcases hO b with z|⟨ob,xs,z⟩
     .rw[q] at z;cases z
     .have z2:=un.frzs b ob _ z
      obtain⟨e1,_⟩:=hok b _ z;obtain⟨e2,_⟩:=GV b _ z2;rw[e] at e1;cases e1;exact e2
 cases hk:K.lookup a with
 |some o=>
  have e:=KX a o hk;rw[ha] at e;cases e;refine core (λ_=>zc) (λ_=>.inl rfl) (.inr ⟨_,vs.toArray,_,hk,rfl,rfl,rfl,by rw[P9,Fx];exact hl,by simpa using rv⟩) (λb u z=>by have z':(zc:Option HO)=vd u:=z;cases z') (λb z=>absurd rfl z) λz=>absurd rfl z
 |none=>
  refine core (λb=>if b=a then vd (.frz { cls:=.type "list",data:=.seq vs.toArray } (.lst (ns.map V.int))) else zc) (λb=>?_) (.inl (.inr ⟨{ cls:=.type "list",data:=.seq vs.toArray },if_pos rfl⟩)) (λb u z=>?_) (λb z=>?_) λ_=>hk
  .by_cases hb:b=a
   .exact .inr ⟨_,_,if_pos hb⟩
   .exact .inl (if_neg hb)
  .by_cases hb:b=a
   .have z':=(if_pos hb).symm.trans z
    cases z';subst hb;exact⟨ha,by rw[PV];exact hl,vs,_,rv,ha⟩
   .have z':=(if_neg hb).symm.trans z
    cases z'
  .by_cases hb:b=a
   .exact hb
   .exact absurd (if_neg hb) z
noncomputable def zef{l:UK}{XP:(Str->Option OH)->Heap->Prop}{YP:Pp->Heap->Prop}{d:DefRec}{K:X4->Frag}{CX:Pp->Jr}{sp:Pp->Sp}
  (hn:l.most=vd n) (GD:n<=OO) (K0:d.params.defaults=[]) (hr:YD k UA)
  (hY:∀(w:Pp) (h:Heap),YP w h->(K w.params).In h)
  (F:∀(w:Pp) (mg:Str->Option OH) (fa:Addr) (h:Heap),(K w.params).In h->h.Ns Pt mg->mg d.name=vd (.ref fa) ->
   ∃fd:Qm,(∀(s:OJ) (u:OH),VX s fd ⟨[u],[]⟩ [(x,u)]) /\
    ∀base:Heap,(K w.params).In base->base.Ns Pt mg->YJ l.prog w (K w.params) mg base (CX w) k fa fd [x] (sp w))
  (KO:∀(w:Pp) (H:Hp) (a:Addr) (ns:List Int),ns.length<=n->uc H->Zm (K w.params) H a (ns.map V.int)->sp w [.ref a] H (λv _=>v=.bl xV) λ_ _ _=>False)
  (EV:∀(w:Pp) (H:Hp) (s:OJ) (e:OH) (s':OJ),CX w [] H s (λ_ _ _=>False) e s'->False) :
  Vz q loose XP YP l.row.toRowW d [] (λf vs=>UB f vs):=by
 refine Att.zed hn K0 λw s₀ za mg mb fa o pm cd doc a vs ns G Y ho hd hcd hmg Ki GN YH hg=>?_;have KX:=hY w _ Y;obtain⟨fd,hb,hF⟩:=F w mg fa _ KX G.T.g hmg;exact zee KX G.T.g G.T.b G.T.builtins G.T.nolimit hg Ki GN (OS YH GD) hr hF hb (λH hO hS=>KO w H a ns YH hO hS) λH e s'=>EV w H za e s'
noncomputable def bX(s:Stmt):Arguments:=match s with
 |.FunctionDef _ a _ _ _ _ _ _ _ _=>a
 |_=>{ posonlyargs:=[],args:=[],vararg:=zc,kwonlyargs:=[],kw_defaults:=[],kwarg:=zc,defaults:=[] }
def bt(s:Stmt):List Stmt:=match s with
 |.FunctionDef _ _ b _ _ _ _ _ _ _=>b
 |_=>[]
noncomputable def aK(s:Stmt):Scope:=match s with
 |.FunctionDef _ _ _ _ _ _ sc _ _ _=>sc
 |_=>{ kind:=.function,names:=[],isGenerator:=zd,isCoroutine:=zd }
abbrev ZA:Jr:=λ_ _ _ _ _ _=>False
abbrev E0:XK:=λ_ _ _=>False
def mM:eO ZA X E0:=λ_ _ _ _ _ _ _ h=>h.elim
structure Gy(K:Frag)(x qual:Str)(st:Stmt)(f:Addr)(fd:Qm):Prop where
 ex:∃(oc:OH) (od:Option Addr) (kV doc pm:OH) (an:Option Addr) (YA ct:OH) (osl:Array (Option OH)),
  fd=PF x qual (bX st) (bt st) (aK st) .none kV doc pm an YA ct/\K.lookup f=vd ⟨oc,od,.func fd,osl⟩/\Ry K YA qual=xV
 kp:P5 K (.ref f)=xV
section
variable {P:Pb}{w:Pp}{K:Frag}{mg:Str->Option OH}{base:Heap}{X:Cx}
def Gy.ok{x qual:Str}{st:Stmt}{f:Addr}{fd:Qm}{N ps:List Str}{k:Nat}{sp:Sp}(F:Gy K x qual st f fd)(S:YK N ps (aK st))(len:∀vs H Q E,sp vs H Q E->vs.length=ps.length)
  (YO:∀(YA:OH) (A:Pw) (outer:List Env) (s:OJ) (H:Hp) (vs:List V) (Q:VK) (E:XK),YD k (A.deeper (Qf qual (aK st) s.heap.objs.size f YA))->sp vs H Q E ->
   ∃t,Ii (aZ ZA P w K mg base N qual (aK st) f YA A outer s H E).nox (bt st) t/\t { nx:=λ_ H'=>Q .non H',rt:=Q } (start N vs) H):YJ P w K mg base ZA (k+1) f fd ps sp:=by
 obtain⟨oc,od,kV,doc,pm,an,YA,ct,osl,rfl,lk,hcd⟩:=F.ex;refine ztw lk hcd S len λA outer s H vs Q E hr KO=>?_;obtain⟨t,h,q⟩:=YO YA A _ s H vs Q E hr KO;exact⟨t,h.nox,q⟩
def Gy.binds{x qual:Str}{st:Stmt}{f:Addr}{fd:Qm}{ps:List Str}(F:Gy K x qual st f fd)
  (h:∀(kV doc pm:OH) (an:Option Addr) (YA ct:OH) (us:List OH),us.length=ps.length->QZ (PF x qual (bX st) (bt st) (aK st) .none kV doc pm an YA ct) ⟨us,[]⟩=pure (ps.zip us)):Binds K fd ps []:=by
 obtain⟨oc,od,kV,doc,pm,an,YA,ct,osl,rfl,lk,hcd⟩:=F.ex;exact .all (h kV doc pm an YA ct)
noncomputable def jI{x qual:Str}{st:Stmt}{f:Addr}{oc:OH}{od an:Option Addr}{osl:Array (Option OH)}{kV doc pm YA ct:OH}(l:K.lookup f=vd ⟨oc,od,.func (PF x qual (bX st) (bt st) (aK st) .none kV doc pm an YA ct),osl⟩)
  (c:Ry K YA qual=xV) (k:P5 K (.ref f)=xV):Gy K x qual st f (PF x qual (bX st) (bt st) (aK st) .none kV doc pm an YA ct):=⟨⟨oc,od,kV,doc,pm,an,YA,ct,osl,rfl,l,c⟩,k⟩
noncomputable def pv(i:Nat)(hN:autoParam (X.N[i]? = vd x) u10)(hv:autoParam (Ee X.env.scope x) u21)(hd:autoParam ((x == ("__debug__" : Str))=zd) u11)
  (hcd:autoParam ((x == ("__classdict__" : Str))=zd) u11):PE X (.Name x pos) (fY i):=zam hN hv hd hcd
end
def i7{A B:Prop}(h:B):if zd=xV then A else B :=by simp_all
def gU{A B:Prop}(h:A):if xV=xV then A else B :=by simp_all
end L2
set_option maxHeartbeats 4000000
namespace K1
open PySem
def has(signs x:Str):Bool:=x.cps.toList.all λc=>decide (c∈signs.cps.toList)
def HY:Str:="abcdefghijklmnopqrstuvwxyz"
def Z6:Str:="abcdefghijklmnopqrstuvwxyz0123456789-"
noncomputable def single:OF->Bool
 |.int i=>decide ((if i<0 then -i else i)<=10^18)
 |.str x=>decide (x.length<=20)&&has Z6 x
 |_=>zd
def aG:Nat->OF->Bool
 |0,.tuple _=>zd
 |n+1,.tuple ds=>decide (ds.length<=8)&&ds.all (aG n)
 |_,d=>single d
def aI:Nat->OF->Int
 |n+1,.tuple ds=>1+(ds.map (aI n)).sum
 |_,_=>1
noncomputable def Io:Nat->OF->Int
 |n+1,.tuple ds=>if ds.length>8 then 100 else 1+(ds.map (Io n)).sum
 |_,d=>if single d=xV then 1 else 100
def isName:OF->Bool
 |.str x=>decide (1<=x.length)&&decide (x.length<=8)&&has HY x
 |_=>zd
def aM(d:OF):Bool:=aG 4 d&&decide (aI 4 d<=40)
theorem oO{α:Type}(f:α->Int)(h:∀a,1<=f a):∀l:List α,(l.length:Int)<=(l.map f).sum
 |[]=>by simp
 |a::r=>by
  have:=oO f h r;have:=h a;simp
  lia
theorem x3:∀(n:Nat) (d:OF),1<=Io n d
 |0,d=>by
  have:Io 0 d=if single d=xV then 1 else 100:=by cases d <;> rfl
  rw[this]
  split <;> omega
 |n+1,d=>by
  cases d with
  |tuple ds=>
   show 1<=if ds.length>8 then (100:Int) else 1+(ds.map (Io n)).sum
   split
   .omega
   .have:=oO (Io n) (x3 n) ds
    omega
  |_=>
   show 1<=if single _=xV then (1:Int) else 100
   split <;> omega
theorem xt{α:Type}(f:α->Int)(h:∀a,1<=f a):∀(l:List α) (a:α),a∈l->f a<=(l.map f).sum
 |b::r,a,ha=>by
  have q:=oO f h r;simp only[PD,R5]
  rcases OZ.mp ha with e|e
  .subst e
   omega
  .have:=xt f h r a e
   have:=h b;omega
theorem qF:∀(n:Nat) (d:OF),(aG n d=xV->Io n d=aI n d)/\(aG n d=zd->100<=Io n d)
 |0,d=>by
  cases d with
  |tuple ds=>exact⟨λh=>(nomatch h),λ_=>(by show (100:Int)<=100;omega)⟩
  |_=>
   refine⟨λh=>?_,λh=>?_⟩
   .exact if_pos (c:=single _=xV) h
   .exact X5 (if_neg (c:=single _=xV) (λz=>Ph (h.symm.trans z))).symm
 |n+1,d=>by
  cases d with
  |tuple ds=>
   have e:aG (n+1) (.tuple ds)=(decide (ds.length<=8)&&ds.all (aG n)):=rfl
   have el:Io (n+1) (.tuple ds)=if ds.length>8 then 100 else 1+(ds.map (Io n)).sum:=rfl
   refine⟨λh=>?_,λh=>?_⟩
   .rw[e,OW] at h
    have h1:=of_decide_eq_true h.1;rw[el,if_neg (by omega)];show 1+(ds.map (Io n)).sum=1+(ds.map (aI n)).sum
    congr 2
    refine P2 λx hx=>(qF n x).1 ?_;exact Pd.mp h.2 x hx
   .rw[el]
    by_cases h1:ds.length>8
    .rw[if_pos h1]
     omega
    .rw[if_neg h1]
     rw[e,decide_eq_true (by omega:ds.length<=8),XC] at h
     obtain⟨x,hx,hb⟩:∃x∈ds,aG n x=zd:=by
      have:=List.all_eq_false.mp h;obtain⟨x,hx,hb⟩:=this;exact⟨x,hx,by simpa using hb⟩
     have q:=(qF n x).2 hb;have:=xt (Io n) (x3 n) ds x hx;omega
  |_=>
   refine⟨λh=>?_,λh=>?_⟩
   .exact if_pos (c:=single _=xV) h
   .exact X5 (if_neg (c:=single _=xV) (λz=>Ph (h.symm.trans z))).symm
noncomputable def zeg(d:OF):decide (Io 4 d<=40)=aM d:=by
 unfold aM;have q:=qF 4 d
 cases h:aG 4 d with
 |false=>
  have:=q.2 h;rw[W3];exact decide_eq_false (by omega)
 |true=>rw[q.1 h,XC]
def Jv:Nat->OF->Bool
 |0,.tuple _=>zd
 |n+1,.tuple ds=>ds.all (Jv n)
 |_,_=>xV
theorem vP:∀(n:Nat) (d:OF),aG n d=xV->Jv n d=xV
 |0,d,h=>by cases d <;> first|rfl|cases h
 |n+1,d,h=>by
  cases d with
  |tuple ds=>
   have e:aG (n+1) (.tuple ds)=(decide _&&ds.all _):=rfl;rw[e,OW] at h;exact Pd.mpr λx hx=>vP n x (Pd.mp h.2 x hx)
  |_=>rfl
end K1
namespace L2
open PySem
noncomputable def cP(env:Env):List (Str×Rw)->List (Str×Addr)->List (Str×Addr)
 |[],acc=>acc
 |(n,k)::r,acc=>cP env r (if (k == .free)=xV then (n,(env.cells.lookup n).getD 0)::acc else acc)
theorem qK:∀(l:List (Str×Rw)) (acc:List (Str×Addr)),(∀x∈l,x.2=.free->∃c,env.cells.lookup x.1=vd c) ->
  (forIn l acc (λx r=>match x with
   | (name,kind)=>if (kind == QI)=xV then (do
     let c ←cellOf env name
     pure (RL ((name,c)::r))) else pure (RL r)):Sem (List (Str×Addr)))=pure (cP env l acc)
 |[],acc,_=>rfl
 |(n,k)::r,acc,h=>by
  rw[List.forIn_cons];have hr:=λx hx=>h x (OP _ hx)
  cases hk:(k == QI) with
  |false=>
   have ih:=qK r acc hr
   have e:cP env ((n,k)::r) acc=cP env r acc:=by simp[cP,hk]
   rw[e];dsimp only;rw[if_neg (by simp_all)];exact ih
  |true=>
   obtain⟨c,hc⟩:=h _ OU (by simpa using hk);have ih:=qK r ((n,c)::acc) hr;have Il:=hc
   have e:cP env ((n,k)::r) acc=cP env r ((n,c)::acc):=by simp[cP,hk,Il]
   have e2:cellOf env n=pure c:=by unfold cellOf;rw[Il]
   rw[e];dsimp only;rw[if_pos hk,e2];exact ih
noncomputable def qw(h:∀x∈scope.names,x.2=.free->∃c,env.cells.lookup x.1=vd c):closureFor scope env=pure (cP env scope.names []):=by
 have q:=qK  _ [] h;exact congrArg (λt=>t >>= λz=>pure z) q
theorem uz:∀(l:List (Str×Rw)) (acc:List (Str×Addr)) (x:Str) (c:Addr),(∀y d,acc.lookup y=vd d->env.cells.lookup y=vd d) ->
  (∀y∈l,y.2=.free->∃c,env.cells.lookup y.1=vd c)->(cP env l acc).lookup x=vd c->env.cells.lookup x=vd c
 |[],acc,x,c,ha,_,e=>ha x c e
 |(n,k)::r,acc,x,c,ha,h,e=>by
  have hr:=λx hx=>h x (OP _ hx);refine uz r _ x c ?_ hr e;intro y d q
  cases hk:(k == QI) with
  |false=>simp_all
  |true=>
   rw[hk,if_pos rfl] at q
   obtain⟨c',hc⟩:=h _ OU (by simpa using hk)<;>grind
theorem uU:∀(l:List (Str×Rw)) (acc:List (Str×Addr)) (x:Str),(acc.lookup x).isSome=xV->((cP env l acc).lookup x).isSome=xV
 |[],_,_,h=>h
 |(n,k)::r,acc,x,h=>by
  refine uU r _ x ?_
  cases hk:(k == QI) <;>simp_all
theorem uT:∀(l:List (Str×Rw)) (acc:List (Str×Addr)) (x:Str),(x,QI)∈l->((cP env l acc).lookup x).isSome=xV
 |[],_,_,h=>absurd h (by simp)
 |(n,k)::r,acc,x,h=>by
  rcases OZ.mp h with e|e
  .refine uU r _ _ ?_<;>simp_all
  .exact uT r _ x e
structure KW(osc:QA)(N:List Str)(xs:List Str)(scope:QA)(N':List Str):Prop where
 kind:scope.kind=.function
 nocell:∀y∈scope.names,y.2≠.cell
 names:∀y∈scope.names,y.2=.local->scope.names.lookup y.1=vd .local
 hx:∀x∈xs,scope.names.lookup x=vd .local
 only:∀y∈scope.names,y.2=.local->y.1∈xs\/y.1=".0"
 free:∀y∈scope.names,y.2=.free->osc.names.lookup y.1=vd .cell\/osc.names.lookup y.1=vd .free
 nd:(xs++N').Nodup
 n0:(".0" : Str)∉N'
 len:N'.length=N.length
 rel:∀p∈N'.zip N,p.1=p.2\/∀q∈scope.names,q.1≠p.1
def KW.at{osc:QA}{N N':List Str}{xs:List Str}{scope:QA}(S:KW osc N xs scope N'){j:Nat}{y:Str}(h:N'[j]? = vd y):N[j]? = vd y\/∀q∈scope.names,q.1≠y:=by
 have hl:j<N'.length:=(OL.mp h).1
 have BO:j<N.length:=by rw[←S.len];exact hl
 have m:(N'.zip N)[j]? = vd (y,N[j]):=by
  rw[List.getElem?_zip_eq_some];exact⟨h,Qh BO⟩
 rcases S.rel _ (Px m) with z|z
 .simp_all
 .exact .inr z
theorem wB{c:Str×Rw->Bool}:∀{names:List (Str×Rw)}{y:Str}{k':Rw},
  (names.map λp=>if (p.2 == QI&&c p)=xV then (p.1,NameKind.cell) else (p.1,p.2)).lookup y=vd k'->∃k,(y,k)∈names/\(k'=k\/(k=.free/\k'=.cell))
 |[],_,_,h=>by simp at h
 |(n,k)::r,y,k',h=>by
  rw[PD] at h
  by_cases hy:y=n
  .grind
  .have hb:=beq_eq_false_iff_ne.mpr hy
   have h':=by
    cases hc:(k == QI&&c (n,k)) with
    |false=>simp only[hc,Sf,if_false,RA,hb] at h;exact h
    |true=>simp only[hc,if_true,RA,hb] at h;exact h
   obtain⟨k2,m,e⟩:=wB h';exact⟨k2,OP _ m,e⟩
noncomputable def qd(h:(V2 scope env).names.lookup y=vd k'):∃k,(y,k)∈scope.names/\(k'=k\/(k=.free/\k'=.cell)):=by
 refine wB (c:=λp=>env.scope.kind == .function&&env.kindOf p.1 == vd .cell) ?_;rw[←h]
 congr 1
 refine P2 λp _=>?_;simp only[Bool.and_assoc]
abbrev fQ(X:Cx)(xs:List Str)(scope:QA)(C:Addr)(s0:OJ)(H0:Hp)(ex:List Addr)(N':List Str):Cx where
 prog:=X.prog
 w:=X.w
 K:=X.K
 mg:=X.mg
 base:=X.base
 A:=X.A
 N:=xs++N'
 s₀:=s0
 H₀:=H0
 env:=U2 scope (cP X.env scope.names []) C X.env
 outer:=X.stack
 stack:=X.stack
 ex:=ex
 fn:=λ_=>zd
 calm:=X.calm
 pn:=[]
 xe:=λ_ _=>False
section
variable {X:Cx}{pins:List (Addr×Obj)}{σ:St}{H:Hp}{s:OJ}{xs:List Str}{scope:QA}{N':List Str}
noncomputable def nK(I:Inv X pins σ H s)(S:KW X.env.scope X.N xs scope N'):∀y∈scope.names,y.2=.free->∃c,X.env.cells.lookup y.1=vd c:=λy hy e=>
 I.ok.has y.1 (S.free y hy e)
noncomputable def uS(I:Inv X pins σ H s)(S:KW X.env.scope X.N xs scope N')(e:(cP X.env scope.names []).lookup y=vd c):X.env.cells.lookup y=vd c:=uz scope.names [] y c (λ_ _ z=>by simp at z) (nK I S) e
noncomputable def vN(I:Inv X pins σ H s)(S:KW X.env.scope X.N xs scope N')(e:(y,QI)∈scope.names):∃c,(cP X.env scope.names []).lookup y=vd c/\X.env.cells.lookup y=vd c:=by
 obtain⟨c,hc⟩:=Rl.mp (uT (env:=X.env) scope.names [] y e);exact⟨c,hc,uS I S hc⟩
noncomputable def qm(I:Inv X pins σ H s)(S:KW X.env.scope X.N xs scope N')(hf:∀b∈fp,eF X pins H b)(ho:∀b∈fp,∃o,s.heap.get? b=vd o)
  (Lr:h'.Ns (s.heap.push oD).objs.size m) (ZR:Rh (s.heap.push oD).objs.size ((s.heap.push oD).push oC) h') :
  Inv (fQ X xs scope (s.heap.push oD).objs.size { s with heap:=s.heap.push oD } H (s.heap.objs.size::fp) N') [] (OQ xs.length zc++σ) H { s with heap:=h',toks:=tk }:=by
 have I3:Inv X pins σ H { s with heap:=s.heap.push oD,toks:=s.toks }:=I.kept λb o e=>OK _ e;have hC:(s.heap.push oD).objs.size=s.heap.objs.size+1:=Q9 ..
 have Ej:∀b o,(s.heap.push oD).get? b=vd o->h'.get? b=vd o:=λb o e=>
  (ZR.2 b (Pl (OV e))).trans (OK _ e)
 have up:∀b o,s.heap.get? b=vd o->h'.get? b=vd o:=λb o e=>Ej b o (OK _ e);have cl:=λ{y c} e=>uS (y:=y) (c:=c) I S e
 have clt:∀y c,X.env.cells.lookup y=vd c->c<s.heap.objs.size:=λy c e=>let ⟨v,q⟩:=I.cell y c e;q.lt
 have inner:∀{y:Str}{k':Rw},(V2 scope X.env).names.lookup y=vd k'->(k'=.cell\/k'=.free)->(y,QI)∈scope.names:=λ{y k'} e hk=>by
  obtain⟨k,mem,r⟩:=qd e
  rcases r with r|⟨r,_⟩
  .rcases hk with z|z
   .exact absurd (r.symm.trans z) (S.nocell _ mem)
   .simp_all
  .simp_all
 have ok:(fQ X xs scope (s.heap.push oD).objs.size { s with heap:=s.heap.push oD } H (s.heap.objs.size::fp) N').Ok:=by
  refine⟨I.ok.mod,S.kind,I.ok.glob,I.ok.blt,Pc _,λy z c e1 e2=>I.ok.inj y z c (cl e1) (cl e2),λy hk=>?_,λy c e=>(nomatch e),I.ok.hd,I.ok.frames,.inl rfl,λb hb=>?_,λb o e=>?_,
   OS (OS I.ok.bsz I.sz) (by show s.heap.objs.size<=(s.heap.push oD).objs.size;lia),λb o e hb=>?_,λb hb z=>?_,I3.stack,I.stkFree⟩
  .have mem:(y,QI)∈scope.names:=by
    rcases hk with z|z
    .exact inner z (.inl rfl)
    .exact inner z (.inr rfl)
   obtain⟨c,hc,_⟩:=vN I S mem;exact⟨c,hc⟩
  .rcases OZ.mp hb with e|e
   .subst e
    exact⟨by show s.heap.objs.size≠(s.heap.push oD).objs.size;lia,λy c e=>Pl (clt y c (cl e))⟩
   .obtain⟨o,q⟩:=ho b e
    have q2:=OV q;exact⟨by show b≠(s.heap.push oD).objs.size;rw[hC];exact Pl (Sv q2),λy c e'=>(hf b e).2.2.2.2.1 y c (cl e')⟩
  .exact⟨OK _ (I.bs b o e).1,(I.bs b o e).2⟩
  .rcases OZ.mp hb with z|z
   .have q2:=OV (I.bs b o e).1
    rw[z] at q2;exact PH _ q2
   .rcases(hf b z).2.2.2.1 with q|q
    .exact I.ok.noex b o e q
    .have q2:=OV (I.ok.bs b o e).1
     exact PH _ (OY q2 q)
  .have z':=I.stkSub b z
   rcases OZ.mp hb with e|e
   .subst e
    rcases OZ.mp z' with q|q
    .have q2:=I.lt
     rw[←q] at q2;exact PH _ q2
    .exact I.nofs (Pc _) q
   .rcases OZ.mp z' with q|q
    .exact(hf b e).2.1 q
    .exact(hf b e).2.2.1 q
 obtain⟨mo,DN,hlo⟩:=I.loc;refine⟨ok,rfl,I.bare,Un.kept Ej,⟨m,Lr,λi y v e1 e2 e3=>?_⟩,λy c e=>?_,I.hok.fresh (by show s.heap.objs.size<=(s.heap.push oD).objs.size;lia),λy c e=>I.freeC y c (cl e),λp hp=>absurd hp (by simp),I.hok.kept up,?_⟩
 .by_cases hi:i<xs.length
  .rw[Pa (by simpa using hi)] at e2
   have:=Px e2;rw[VH] at this;cases this.2
  .obtain⟨j,rfl⟩:∃j,i=xs.length+j:=⟨i-xs.length,by lia⟩
   have Ew:N'[j]? = vd y:=by
    have Jc:(xs++N')[xs.length+j]? = vd y:=e1;rw[Ra (by lia)] at Jc;simpa using Jc
   have vis:∃k,(y,k)∈scope.names:=by
    rcases(show Ee (V2 scope X.env) y from e3) with z|z|z <;> exact let ⟨k,mem,_⟩:=qd z;⟨k,mem⟩
   have Jc:X.N[j]? = vd y:=by
    rcases S.at Ew with z|z
    .exact z
    .obtain⟨k,mem⟩:=vis
     exact absurd rfl (z _ mem)
   have e2':σ[j]? = vd (vd v):=by
    rw[Ra (by simp)] at e2;simpa using e2
   have yx:y∉xs:=λz=>(Rj.mp S.nd).2.2 y z y (Px Ew) rfl
   have kin:((V2 scope X.env).names.lookup y=vd .cell\/(V2 scope X.env).names.lookup y=vd .free):=by
    rcases(show Ee (V2 scope X.env) y from e3) with z|z|z
    .obtain⟨k,mem,r⟩:=qd z
     rcases r with r|⟨_,r⟩
     .rcases S.only _ mem r.symm with z2|z2
      .exact absurd z2 yx
      .exact absurd (Px Ew) (by rw[show y=(".0" : Str) from z2];exact S.n0)
     .cases r
    .exact .inl z
    .exact .inr z
   have mem:(y,QI)∈scope.names:=by
    rcases kin with z|z
    .exact inner z (.inl rfl)
    .exact inner z (.inr rfl)
   have vo:Ee X.env.scope y:=by
    rcases S.free _ mem rfl with z|z
    .exact .inr (.inl z)
    .exact .inr (.inr z)
   obtain⟨u,ru,lk⟩:=hlo j y v Jc e2' vo;refine⟨u,ru,.inr ⟨kin,?_⟩⟩;obtain⟨c,hc,Il⟩:=vN I S mem;refine⟨c,hc,?_⟩
   rcases lk with⟨z,_⟩|⟨_,c2,z2,q⟩
   .exfalso
    have z':X.env.scope.names.lookup y=vd .local:=z
    rcases S.free _ mem rfl with r|r <;> (rw[z'] at r;cases r)
   .rw[Il] at z2
    cases z2;obtain⟨o,q1,q2⟩:=q;exact⟨o,up _ _ q1,q2⟩
 .obtain⟨v,o,q1,q2⟩:=I.cell y c (cl e)
  exact⟨v,o,up _ _ q1,q2⟩
 .have:=I.len
  show (OQ xs.length zc++σ).length=(xs++N').length;simp[this,S.len]
noncomputable def ql(I:Inv X pins σ H s)(hf:∀b∈fp,eF X pins H b)
  (Ja:C=(s.heap.push oD).objs.size) (J:Inv (fQ X xs scope C { s with heap:=s.heap.push oD } H (s.heap.objs.size::fp) N') ZD σ' H1 s1) (ZR:Rh C s1.heap h') (hD0:H1 s.heap.objs.size=zc)
  (new:∃Yu n,Yx ys Yu/\s1.heap.get? s.heap.objs.size=vd { cls:=.type "list",data:=.seq Yu.toArray n }) (hz:ys.length<=OO) :
  Inv X pins σ (upd H1 s.heap.objs.size (.lst ys)) { s1 with heap:=h' }:=by
 have hC:C=s.heap.objs.size+1:=by simp_all
 have nD:∀b o,s.heap.get? b=vd o->b≠s.heap.objs.size:=λb o e=>Pl (OV e)
 have nC:∀b o,s.heap.get? b=vd o->b≠C:=λb o e=>by rw[hC];exact Pl (Sv (OV e))
 have up:∀b o,s.heap.get? b=vd o->(s.heap.push oD).get? b=vd o:=λb o e=>OK _ e;have nx:∀b,b∉fp->b≠s.heap.objs.size->b∉s.heap.objs.size::fp:=λb h1 h2 z=>(OZ.mp z).elim h2 h1
 have EC:s.heap.objs.size≠C:=by simp_all
 have tr:∀b u,H1 b=vd u->b≠s.heap.objs.size:=λb u e z=>by simp_all
 have GB:∀b u,H1 b=vd u->b≠C:=λb u e z=>by
  have:=J.free;rw[z] at e;have q:H1 C=zc:=J.free;rw[q] at e;cases e
 obtain⟨Yu,n,rv,eD⟩:=new;have B:Un (frs X.stack) (s.heap.objs.size::fp) H H1 (s.heap.push oD) s1.heap:=J.base;refine I.call' (s':={ s1 with heap:=h' }) (ch:=fp) J.os ⟨λb o e q h1 h2=>?_,λb o e q h1 h2=>?_,λb o e q h2=>?_,λb o e h2=>?_,λb xs e=>?_,λb o u e=>?_,λb ps e=>?_⟩ (λb u e=>?_) J.bare λb hb=>?_
 .exact(ZR.2 b (nC b o e)).trans (B.keep b o (up b o e) q h1 (nx b h2 (nD b o e)))
 .obtain⟨sl,z⟩:=B.slot b o (up b o e) q h1 (nx b h2 (nD b o e))
  exact⟨sl,(ZR.2 b (nC b o e)).trans z⟩
 .rw[aJ (nD b o e)]
  exact B.free b o (up b o e) q (nx b h2 (nD b o e))
 .obtain⟨o',z⟩:=B.there b o (up b o e) (nx b h2 (nD b o e))
  exact⟨o',(ZR.2 b (nC b o e)).trans z⟩
 .have z:=B.tups b xs e
  rw[aJ (tr b _ z)];exact z
 .have z:=B.frzs b o u e
  rw[aJ (tr b _ z)];exact z
 .obtain⟨more,z⟩:=B.tbls b ps e
  exact⟨more,by rw[aJ (tr b _ z)];exact z⟩
 .by_cases hb:b=s.heap.objs.size
  .subst hb
   rw[bg] at e;cases e;exact⟨hz,Yu,n,rv,(ZR.2 _ EC).trans eD⟩
  .rw[aJ hb] at e
   refine(J.hok b u e).stay (λc v hc q=>(ZR.2 c ?_).trans q) (λc q=>by rw[aJ (tr c _ q)];exact q) λc xs q=>by rw[aJ (tr c _ q)];exact q
   rcases hc with z|z
   .rw[z];exact GB b u e
   .exact GB c _ z
 .obtain⟨_,f1,_,f3,f4,f5⟩:=hf b hb
  exact⟨f3,f1,f4,f5⟩
end
def Dy(X:Cx)(ifs:List Expr)(t:TT):Prop:=
 ∀(pins:List (Addr×Obj)) (s:OJ) (σ:St) (H:Hp) (Q:Bool->Hp->Prop) (E:OH->OJ->Prop),Inv X pins σ H s->t σ H Q ->
  Pk (Pi X.prog X.w) X.A (forIn ifs xV λc r=>if r=xV then do
   let ok ←WY c X.env (eval c X.env)
   pure (RL ok) else pure (RL r)) (TP X pins σ Q) E s
def xO:Dy X [] (λ_ H Q=>Q xV H):=λ_ _ _ H _ _ I h=>wpAny_tests_nil ⟨H,I,h⟩
noncomputable def zeh(hx:X.xe=λ_ _=>False)(h:PT X c t):Dy X [c] t:=λpins s σ H Q _ I q=>
 wpAny_tests_one (Qe (h pins s σ H Q I q) (λ_ _ z=>z) λe s' z=>by simp_all)
noncomputable def zei(I:Nat->OJ->Prop)
  (turn:∀n s,I n s->Pk (Pi prog w) A (pyNext it) (λr s1=>match r with
   |none=>R (.ok .next) s1
   | some v=>Pk (Pi prog w) A (S1 tg it v) (λ_ s2=>Pk (Pi prog w) A (TR tg env v) (λ_ s2=>
     Pk (Pi prog w) A (forIn ifs xV λc r=>if r=xV then do
      let ok ←WY c env (eval c env)
      pure (RL ok) else pure (RL r)) (λok s3=>
      if ok=xV then Pk (Pi prog w) A (eval elt env) (λx s4=>Pk (Pi prog w) A (call (.builtin "list.append") [acc,x]) (λ_ s5=>∃m,m<n/\I m s5)
       (TK (Pi prog w) A env λe s'=>R (.error e) s') s4) (TK (Pi prog w) A env λe s'=>R (.error e) s') s3
      else ∃m,m<n/\I m s3) (TK (Pi prog w) A env λe s'=>R (.error e) s') s2) (TK (Pi prog w) A env λe s'=>R (.error e) s') s2) (TK (Pi prog w) A env λe s'=>R (.error e) s') s1) (TK (Pi prog w) A env λe s'=>R (.error e) s') s)
  (n:Nat) (h:I n s):So (Pi prog w) A (.compLoop (.ListComp elt [⟨tg,iter,ifs,0⟩] scope pos) 0 it acc env) R s:=by
 refine codeAny_loop rfl I (λn s hI=>wpAny_noted ?_) n h;rw[compTurn_list];refine ON (SQ (ON (YF (turn n s hI) λr s1 h1=>?_)))
 cases r with
 |none=>exact Pg h1
 |some v=>
  refine ON (YF h1 λ_ s2 h2=>ON (YF h2 λ_ s3 h3=>ON (YF h3 λok s4 h4=>?_)))
  cases ok with
  |false=>exact Pg ⟨rfl,h4⟩
  |true=>exact ON (ON (YF h4 λx s5 h5=>ON (YF h5 λ_ s6 h6=>Pg (Pg ⟨rfl,h6⟩))))
def kT(n:Nat)(g:TG)(σ:St)(J:It)(tt:TT)(te:TE)(W:Nat->Nat->List V->Hp->Prop)(D:List V->Hp->Prop):Prop:=∀i m ys H,W i m ys H ->
 (J.stop i H/\ys.length<=OO/\D ys H)\/(J.go i H/\ys.length<OO/\∃N:List V->Hp->Prop,(∀FY H',N FY H'->∃m',m' < m/\W (i+1) m' FY H')/\∀v H',J.yld i H v H'->∀Im:St,Im.length=n->g v (Im++σ) H' λF8 H1=>(∃G3:St,G3.length=n/\F8=G3++σ)/\tt F8 H1 λb H2=>
  if b=xV then te F8 H2 λy H3=>N (ys++[y]) H3 else N ys H2)
section
variable {X:Cx}{pins:List (Addr×Obj)}{σ:St}{H:Hp}{s:OJ}{xs:List Str}{scope:QA}{N':List Str}{tg elt iter:Expr}{ifs:List Expr}{pos:Pos}{wi:TI}{g:TG}{te:TE}{tt:TT}
noncomputable def qu{fp:List Addr}{it C:Addr}{tn:Nat->Heap->Prop}{J:It}{oD:Obj}{elt iter:Expr}{ifs:List Expr}{pos:Pos}{tg:Expr}{g:TG}{te:TE}{tt:TT}{W:Nat->Nat->List V->Hp->Prop}{Dn:List V->Hp->Prop}
  {R:Wd->OJ->Prop}{σ':St}{s4:OJ}{m0:Nat}{X':Cx}{E0:OH->OJ->Prop} (hX:{ fQ X xs scope C { s with heap:=s.heap.push oD } H (s.heap.objs.size::fp) N' with xe:=E0 } = X') (hE:∀v s',E0 v s'->TK (Pi X.prog X.w) X.A (U2 scope (cP X.env scope.names []) C X.env) (λe s'=>R (.error e) s') v s') (Kv:X.calm=xV) (S:KW X.env.scope X.N xs scope N') (hf:∀b∈fp,eF X pins H b) (ho:∀b∈fp,∃o,s.heap.get? b=vd o) (Ja:C=(s.heap.push oD).objs.size)
  (T:Turn X.prog X.w X.K tg J fp it tn) (I4:Inv X' [] (OQ xs.length zc++σ) H s4) (Fh:tn 0 s4.heap) (hD4:s4.heap.get? s.heap.objs.size=vd { cls:=.type "list",data:=.seq #[] 0 })
  (hDn:H s.heap.objs.size=zc) (hgg:PG X' tg g) (hte:PE X' elt te) (htt:Dy X' ifs tt)
  (w0:W 0 m0 [] H) (turn:kT xs.length g σ J tt te W Dn)
  (hR:∀s1 H1 F8 ys Yu n,Inv X' [] F8 H1 s1->H1 s.heap.objs.size=zc->Yx ys Yu->s1.heap.get? s.heap.objs.size=vd { cls:=.type "list",data:=.seq Yu.toArray n }->ys.length<=OO->Dn ys H1->R (.ok .next) s1) :
  So (Pi X.prog X.w) X.A (.compLoop (.ListComp elt [⟨tg,iter,ifs,0⟩] scope pos) 0 (.ref it) (.ref s.heap.objs.size) (U2 scope (cP X.env scope.names []) C X.env)) R s4:=by
 have hC:C=s.heap.objs.size+1:=by rw[Ja];exact Q9 ..
 have xP:X'.prog=X.prog:=by rw[←hX]
 have xW:X'.w=X.w:=by rw[←hX]
 have xK:X'.K=X.K:=by rw[←hX]
 have xA:X'.A=X.A:=by rw[←hX]
 have xE:X'.env=U2 scope (cP X.env scope.names []) C X.env:=by rw[←hX]
 have xC:X'.calm=xV:=by rw[←hX];exact Kv
 have Fj:X'.ex=s.heap.objs.size::fp:=by rw[←hX]
 have GU:X'.pn=[]:=by rw[←hX]
 have KQ:X'.xe=E0:=by rw[←hX]
 have xL:X'.env.locals=C:=by rw[xE];rfl
 have lt:∀b∈fp,b<s.heap.objs.size:=λb hb=>let ⟨_,e⟩:=ho b hb;OV e
 have Fs:∀{pl:List (Addr×Obj)}{H':Hp},(∀p∈pl,p.1=s.heap.objs.size)->(∀b∈fp,H' b=zc)->∀b∈fp,eF X' pl H' b:=λ{pl H'} hp hn b hb=>by
  have Ed:=I4.ok
  have hm:b∈X'.ex:=by rw[Fj];exact OP _ hb
  refine⟨hn b hb,(Ed.exf b hm).1,Ed.exfs b hm,.inl hm,(Ed.exf b hm).2,λp Y1 z=>?_⟩;rw[GU] at Y1;have q1:=hp p (by simpa using Y1);have q2:=lt b hb;rw[←z,q1] at q2;exact PH _ q2
 have dok:∀{pl:List (Addr×Obj)}{H':Hp},(∀p∈pl,p.1∈fp)->H' s.heap.objs.size=zc->eF X' pl H' s.heap.objs.size:=λ{pl H'} hp hn=>by
  have Ed:=I4.ok
  have hm:s.heap.objs.size∈X'.ex:=by rw[Fj];exact OU
  refine⟨hn,(Ed.exf _ hm).1,Ed.exfs _ hm,.inl hm,(Ed.exf _ hm).2,λp Y1 z=>?_⟩;rw[GU] at Y1;have q2:=lt p.1 (hp p (by simpa using Y1));rw[z] at q2;exact PH _ q2
 obtain⟨I,hI⟩:∃I:Nat->OJ->Prop,∀m s',I m s'↔∃i Im H' ys Yu n,Im.length=xs.length/\Inv X' [] (Im++σ) H' s'/\tn i s'.heap/\(∀b∈fp,H' b=zc)/\H' s.heap.objs.size=zc/\Yx ys Yu/\s'.heap.get? s.heap.objs.size=vd { cls:=.type "list",data:=.seq Yu.toArray n }/\W i m ys H':=⟨_,λ_ _=>.rfl⟩;refine zei (I:=I) ?_ m0 ((hI _ _).mpr ⟨0,OQ xs.length zc,H,[],[],0,by simp,I4,Fh,λb hb=>(hf b hb).1,hDn,.nil,hD4,w0⟩);generalize (TK (Pi X.prog X.w) X.A (U2 scope (cP X.env scope.names []) C X.env) λe s'=>R (.error e) s')=E at hE ⊢;intro m s5 h;obtain⟨i,Im,H5,ys,Yu,n,HE,I5,Jw,JQ,d5,rv,e5,w5⟩:=(hI _ _).mp h
 have FM:Inv X' ([]++iK [s.heap.objs.size] s5.heap) (Im++σ) H5 s5:=I5.pinned (λb hb=>by
   have e:b=s.heap.objs.size:=by simpa using hb
   rw[e];exact dok (λp hp=>absurd hp (by simp)) d5) λb hb=>by
   have e:b=s.heap.objs.size:=by simpa using hb
   rw[e];exact⟨_,e5,λv z=>by cases z⟩
 have pD:([]++iK [s.heap.objs.size] s5.heap:List (Addr×Obj))=[(s.heap.objs.size,{ cls:=.type "list",data:=.seq Yu.toArray n })]:=by
  simp[iK,e5]
 rw[pD] at FM
 have p1:∀p∈[(s.heap.objs.size,({ cls:=.type "list",data:=.seq Yu.toArray n }:Obj))],p.1=s.heap.objs.size:=λp hp=>by
  have e:p=(s.heap.objs.size,{ cls:=.type "list",data:=.seq Yu.toArray n }):=by simpa using hp
  rw[e]
 have hsz:Yu.length=ys.length:=rv.length.symm
 rcases turn i m ys H5 w5 with⟨stop,hz,dn⟩|⟨go,hz,N,hN,step⟩
 .have q:=T.done X' xP xW xK xC i _ s5 (Im++σ) H5 E FM (Fs p1 JQ) Jw stop
  rw[xA] at q;refine Qe q (λr s6 z=>?_) λ_ _ z=>z;obtain⟨rfl,I6⟩:=z;refine hR s6 H5 (Im++σ) ys Yu n ?_ d5 rv (I6.pin _ (PJ _ (Pj.mpr rfl))).1 hz dn;exact I6.pins_of λp hp=>absurd hp (by simp)
 .have q:=T.item X' xP xW xK xC i _ s5 (Im++σ) H5 E FM (Fs p1 JQ) Jw go
  rw[xA] at q;refine Qe q (λr s6 z=>?_) λ_ _ z=>z;obtain⟨u,rfl,z⟩:=z;dsimp only;refine Qe z (λ_ s7 z=>?_) λ_ _ z=>z;obtain⟨v,H7,I7,rv7,y7,Bq,fr7⟩:=z;have I7p:=I7.pinned (Fs p1 fr7) (T.obj _ _ Bq);rw[←xE];have a7:=hgg _ s7 _ H7 v u _ I7p rv7 (step v H7 y7 Im HE);rw[xP,xW,xA] at a7;refine Qe a7 (λ_ s8 z=>?_) λv s z=>hE v s (by rw[KQ] at z;exact z);obtain⟨F8,H8,I8,⟨G3,D2,rfl⟩,q8⟩:=z;have t8:=htt _ s8 (G3++σ) H8 _ E I8 q8;rw[xP,xW,xA] at t8;refine Qe t8 (λok s9 z=>?_) λ_ _ z=>z;obtain⟨H9,I9,q9⟩:=z
  have back:∀{s':OJ}{H':Hp}{Dc:St},Inv X' ([(s.heap.objs.size,({ cls:=.type "list",data:=.seq Yu.toArray n }:Obj))]++iK fp s7.heap) Dc H' s' ->
    tn (i+1) s'.heap/\(∀b∈fp,H' b=zc)/\H' s.heap.objs.size=zc/\s'.heap.get? s.heap.objs.size=vd { cls:=.type "list",data:=.seq Yu.toArray n }/\Inv X' [] Dc H' s':=λ{s' H' Dc} I'=>by
   refine⟨T.keep _ _ _ Bq λb hb o e=>(I'.pin (b,o) (PJ _ (PJ _ (nE hb e)))).1,λb hb=>?_,?_,?_,I'.pins_of λp hp=>absurd hp (by simp)⟩
   .obtain⟨o,e,_⟩:=T.obj _ _ Bq b hb
    exact(I'.pin (b,o) (PJ _ (PJ _ (nE hb e)))).2.1
   .exact(I'.pin (s.heap.objs.size,_) (PJ _ (QF _ (Pj.mpr rfl)))).2.1
   .exact(I'.pin (s.heap.objs.size,_) (PJ _ (QF _ (Pj.mpr rfl)))).1
  cases ok with
  |false=>
   simp only[Sf,if_false] at q9 ⊢;obtain⟨m',hm,w9⟩:=hN _ _ q9;obtain⟨a1,a2,a3,a4,a5⟩:=back I9;exact⟨m',hm,(hI _ _).mpr ⟨i+1,G3,H9,ys,Yu,n,D2,a5,a1,a2,a3,rv,a4,w9⟩⟩
  |true=>
   simp only[if_true] at q9 ⊢;have t9:=hte _ s9 (G3++σ) H9 _ I9 q9;rw[xP,xW,xA,KQ] at t9;refine Qe t9 (λu2 s10 z=>?_) hE;obtain⟨y,H10,I10,r10,q10⟩:=z;obtain⟨m',hm,w10⟩:=hN _ _ q10;obtain⟨a1,a2,a3,a4,a5⟩:=back I10;refine wpAny_list_append_plain ⟨n,a4⟩ (λh' pl sb=>?_) (by rw[P9];omega);obtain⟨n',e'⟩:=pl;have D0:=dok (pl:=[]) (λp hp=>absurd hp (by simp)) a3;refine⟨m',hm,(hI _ _).mpr ⟨i+1,G3,H10,ys++[y],Yu++[u2],n',D2,a5.turned (t':=s10.toks) (λb o hb e=>(sb.2 b hb).trans e) D0.1 D0.2.1 D0.2.2.2.1 D0.2.2.2.2.1 D0.2.2.2.2.2,?_,a2,a3,rv.append (.cons r10 .nil),by simpa using e',w10⟩⟩;exact T.keep _ _ _ a1 λb hb o e=>(sb.2 b (Pl (lt b hb))).trans e
noncomputable def yU(n:Nat)(g:TG)(wi:TI)(tt:TT)(te:TE):TE:=λσ H Q=>wi σ H λJ H1=>∃W:Nat->Nat->List V->Hp->Prop,(∃m,W 0 m [] H1)/\kT n g σ J tt te W λys H=>∀p,H p=zc->Q (.ref p) (upd H p (.lst ys))
noncomputable def zej(hc:X.calm=xV)(S:KW X.env.scope X.N xs scope N')(hi:PI X tg iter wi)(hg:∀C s0 H0 ex,PG (fQ X xs scope C s0 H0 ex N') tg g)(he:∀C s0 H0 ex,PE (fQ X xs scope C s0 H0 ex N') elt te)
  (ht:∀C s0 H0 ex,Dy (fQ X xs scope C s0 H0 ex N') ifs tt) (hs:autoParam (∀v,PN iter X.env v=pure v) u16):PE X (.ListComp elt [⟨tg,iter,ifs,0⟩] scope pos) (yU xs.length g wi tt te):=by
 intro pins s σ H Q I h;rw[eval_ListComp];refine R6 (use:=zc) rfl hs (qw (nK I S)) S.kind S.names (YF (hi pins s σ H _ I h) λv s1 h1=>YF h1 λitv s2 h2=>?_);obtain⟨it,fp,tn,J,H2,rfl,I2,T,G4,f2,W,⟨m0,w0⟩,turn⟩:=h2
 have ho:∀b∈fp,∃o,s2.heap.get? b=vd o:=λb hb=>let ⟨o,e,_⟩:=T.obj _ _ G4 b hb;⟨o,e⟩
 refine Qx (SY S.nocell (by simp) (λh' Lr ZR=>?_) S.kind);have I4:=qm (xs:=xs) (scope:=scope) (tk:=s2.toks+([]:List (Str×OH)).length) I2 S f2 ho Lr ZR
 have Ej:∀b o,(s2.heap.push { cls:=.type "list",dict:=zc,data:=.seq ([]:List OH).toArray }).get? b=vd o->h'.get? b=vd o:=λb o e=>
  (ZR.2 b (Pl (OV e))).trans (OK _ e)
 have Fh:tn 0 h':=T.keep _ _ _ G4 λb _ o e=>Ej b o (OK _ e)
 have loop:=qu (E0:=λ_ _=>False) (elt:=elt) (iter:=iter) (ifs:=ifs) (pos:=pos) (R:=W4 (Pi X.prog X.w) X.A X.xe zc (EP X pins σ Q) (.ref s2.heap.objs.size) (s2.heap.push { cls:=.type "list",dict:=zc,data:=.seq ([]:List OH).toArray }).objs.size) (σ':=σ)
  rfl (λ_ _ z=>z.elim) hc S f2 ho rfl T I4 Fh (Ej _ _ (Pm _ rfl)) (I2.hok.fresh (Pc _)) (hg _ _ _ _) (he _ _ _ _) (ht _ _ _ _) w0 turn λs5 H5 JC ys Yu n J5 d5 rv e5 hz dn=>by
   obtain⟨m,hn,_⟩:=J5.loc;exact⟨m,hn,λh'' sb=>⟨.ref s2.heap.objs.size,_,ql I2 f2 rfl J5 sb d5 ⟨Yu,n,rv,e5⟩ hz,rfl,dn _ d5⟩⟩
 exact Sw loop (T.self X.A 0 _ _ _ Fh loop)
noncomputable def yY(n:Nat)(g:TG)(i:Nat)(wi:TI)(tt:TT)(te:TE):TS:=λD σ H=>wi σ H λJ H1=>∃W:Nat->Nat->List V->Hp->Prop,(∃m,W 0 m [] H1)/\kT n g σ J tt te W λys H=>∀p,H p=zc->D.nx (σ.set i (vd (.ref p))) (upd H p (.lst ys))
noncomputable def zek(hc:X.calm=xV)(S:KW X.env.scope X.N xs scope N')(hN:X.N.Nodup)(Kj:X.N[i]? = vd y)(hy:Loc X.env.scope y)(E8:X.fn y=xV\/X.env.scope.names.lookup y=vd .local)
  (hi:PI X tg iter wi) (hg:∀C s0 H0 ex,PG (fQ X xs scope C s0 H0 ex N') tg g) (he:∀C s0 H0 ex,PE (fQ X xs scope C s0 H0 ex N') elt te)
  (ht:∀C s0 H0 ex,Dy (fQ X xs scope C s0 H0 ex N') ifs tt) (ED:P4 (.ListComp elt [⟨tg,iter,ifs,0⟩] scope pos) (vd (.Name y py)) IW.line X.env=pure xV) (hs:autoParam (∀v,PN iter X.env v=pure v) u16) :
  PS X (.Assign [.Name y py] (.ListComp elt [⟨tg,iter,ifs,0⟩] scope pos) IW) (yY xs.length g i wi tt te):=by
 intro pins s σ H D I h;rw[exec_Assign_Name_used _ _ _ _ ED];refine ON (SQ (ON ?_));show Pk _ _ (do let _ ←comprehension (.ListComp elt [⟨tg,iter,ifs,0⟩] scope pos) scope X.env _ (newList []) zd (eval iter X.env) (vd (TR (.Name y py) X.env))) _ _ s;refine ON (Qe (R6 (use:=vd (TR (.Name y py) X.env)) (Q:=λ_ s'=>SP X pins D .next s') rfl hs (qw (nK I S)) S.kind S.names (YF (hi pins s σ H _ I h) λv s1 h1=>YF h1 λitv s2 h2=>?_)) (λ_ _ q=>Pg (Pg q)) λ_ _ q=>q);obtain⟨it,fp,tn,J,H2,rfl,I2,T,G4,f2,W,⟨m0,w0⟩,turn⟩:=h2
 have ho:∀b∈fp,∃o,s2.heap.get? b=vd o:=λb hb=>let ⟨o,e,_⟩:=T.obj _ _ G4 b hb;⟨o,e⟩
 refine Qx (SY S.nocell (by intro y hy;simp at hy) (λh' Lr ZR=>?_) S.kind);have I4:=qm (xs:=xs) (scope:=scope) (tk:=s2.toks+([]:List (Str×OH)).length) I2 S f2 ho Lr ZR
 have Ej:∀b o,(s2.heap.push { cls:=.type "list",dict:=zc,data:=.seq ([]:List OH).toArray }).get? b=vd o->h'.get? b=vd o:=λb o e=>
  (ZR.2 b (Pl (OV e))).trans (OK _ e)
 have Fh:tn 0 h':=T.keep _ _ _ G4 λb _ o e=>Ej b o (OK _ e)
 have Bj:s2.heap.objs.size<=(s2.heap.push { cls:=.type "list",dict:=zc,data:=.seq ([]:List OH).toArray }).objs.size:=by rw[Q9];omega
 have EC:(s2.heap.push { cls:=.type "list",dict:=zc,data:=.seq ([]:List OH).toArray }).objs.size≠s2.heap.objs.size:=by rw[Q9];omega
 have loop:=qu (E0:=λ_ _=>False) (elt:=elt) (iter:=iter) (ifs:=ifs) (pos:=pos) (R:=W4 (Pi X.prog X.w) X.A X.xe (vd (TR (.Name y py) X.env)) (λ_ s'=>SP X pins D .next s') (.ref s2.heap.objs.size) (s2.heap.push { cls:=.type "list",dict:=zc,data:=.seq ([]:List OH).toArray }).objs.size) (σ':=σ)
  rfl (λ_ _ z=>z.elim) hc S f2 ho rfl T I4 Fh (Ej _ _ (Pm _ rfl)) (I2.hok.fresh (Pc _)) (hg _ _ _ _) (he _ _ _ _) (ht _ _ _ _) w0 turn λs5 H5 JC ys Yu n J5 d5 rv e5 hz dn=>by
   have J6:=ql I2 f2 rfl J5 (Yt _ _) d5 ⟨Yu,n,rv,e5⟩ hz;obtain⟨m,hn,_⟩:=J5.loc;refine VR (zev (u:=.ref s2.heap.objs.size) J6 hN Kj hy (show RelV (.ref s2.heap.objs.size) _ from rfl) (λs7 I7 ⟨a,sb,ha⟩=>?_) E8)
   have hCa:(s2.heap.push { cls:=.type "list",dict:=zc,data:=.seq ([]:List OH).toArray }).objs.size≠a:=by
    rcases ha with z|z
    .rw[z]
     exact RE (OY I2.lt Bj)
    .obtain⟨v,q⟩:=I2.cell _ _ z
     exact RE (OY q.lt Bj)
   have hn5:H5 (s2.heap.push { cls:=.type "list",dict:=zc,data:=.seq ([]:List OH).toArray }).objs.size=zc:=J5.free;have fk:=I2.fpOk (b:=(s2.heap.push { cls:=.type "list",dict:=zc,data:=.seq ([]:List OH).toArray }).objs.size) (H':=upd H5 s2.heap.objs.size (.lst ys)) Bj (by rw[aJ EC];exact hn5);refine⟨m,hn.sameBut sb hCa,λh'' sb2=>⟨_,_,I7.turned (t':=s7.toks) (λb o hb e=>(sb2.2 b hb).trans e) fk.1 fk.2.1 fk.2.2.2.1 fk.2.2.2.2.1 fk.2.2.2.2.2,dn _ d5⟩⟩
 exact Sw loop (T.self X.A 0 _ _ _ Fh loop)
end
abbrev CS(osc:QA)(N:List Str)(x:Str)(scope:QA)(N':List Str):Prop:=KW osc N [x] scope N'
abbrev cA(X:Cx)(x:Str)(scope:QA)(C:Addr)(s0:OJ)(H0:Hp)(ex:List Addr)(N':List Str):Cx:=fQ X [x] scope C s0 H0 ex N'
def Fk(σ:St)(J:It)(tt:TT)(te:TE)(W:Nat->Nat->List V->Hp->Prop)(D:List V->Hp->Prop):Prop:=∀i m ys H,W i m ys H ->
 (J.stop i H/\ys.length<=OO/\D ys H)\/(J.go i H/\ys.length<OO/\∃N:List V->Hp->Prop,(∀FY H',N FY H'->∃m',m' < m/\W (i+1) m' FY H')/\∀v H',J.yld i H v H'->tt (vd v::σ) H' λb H2=>
  if b=xV then te (vd v::σ) H2 λy H3=>N (ys++[y]) H3 else N ys H2)
theorem Fk.n(h:Fk σ J tt te W D):kT 1 (jR 0) σ J tt te W D:=λi m ys H w=>
 (h i m ys H w).imp_right λ⟨g,l,N,n,q⟩=>⟨g,l,N,n,λv H' y Im e=>match Im,e with | [_],_=>⟨⟨[_],rfl,rfl⟩,q v H' y⟩⟩
section
variable {X:Cx}{x:Str}{scope:QA}{N':List Str}{elt iter:Expr}{ifs:List Expr}{px pos:Pos}{wi:TI}{te:TE}{tt:TT}
abbrev tq(wi:TI)(tt:TT)(te:TE):TE:=yU 1 (jR 0) wi tt te
abbrev J9(i:Nat)(wi:TI)(tt:TT)(te:TE):TS:=yY 1 (jR 0) i wi tt te
noncomputable def zb(S:CS X.env.scope X.N x scope N'):PG (cA X x scope C s0 H0 ex N') (.Name x px) (jR 0):=have l:=U3 (S.hx x OU);iG S.nd rfl (.inl l) (.inr l)
noncomputable def zel(hc:X.calm=xV)(S:CS X.env.scope X.N x scope N')(hi:PI X (.Name x px) iter wi)(he:∀C s0 H0 ex,PE (cA X x scope C s0 H0 ex N') elt te)
  (ht:∀C s0 H0 ex,Dy (cA X x scope C s0 H0 ex N') ifs tt) (hs:autoParam (∀v,PN iter X.env v=pure v) u16):PE X (.ListComp elt [⟨.Name x px,iter,ifs,0⟩] scope pos) (tq wi tt te):=zej hc S hi (λ_ _ _ _=>zb S) he ht hs
noncomputable def zem(hc:X.calm=xV)(S:CS X.env.scope X.N x scope N')(hN:X.N.Nodup)(Kj:X.N[i]? = vd y)(hy:Loc X.env.scope y)(E8:X.fn y=xV\/X.env.scope.names.lookup y=vd .local)
  (hi:PI X (.Name x px) iter wi) (he:∀C s0 H0 ex,PE (cA X x scope C s0 H0 ex N') elt te)
  (ht:∀C s0 H0 ex,Dy (cA X x scope C s0 H0 ex N') ifs tt) (ED:P4 (.ListComp elt [⟨.Name x px,iter,ifs,0⟩] scope pos) (vd (.Name y py)) IW.line X.env=pure xV) (hs:autoParam (∀v,PN iter X.env v=pure v) u16) :
  PS X (.Assign [.Name y py] (.ListComp elt [⟨.Name x px,iter,ifs,0⟩] scope pos) IW) (J9 i wi tt te):=zek hc S hN Kj hy E8 hi (λ_ _ _ _=>zb S) he ht ED hs
end
noncomputable def F0(z:Str):It:=⟨λi _=>i<z.cps.size,λi H v H'=>H'=H/\∃c,z.cps[i]? = vd c/\v=.str ⟨#[c]⟩,λi _=>z.cps.size<=i⟩
noncomputable def vY{P:Pb}{w:Pp}{K:Frag}{tg:Expr}(z:Str)(t:Tok)(ty:String)(it:Addr)(Iq:ty="str_ascii_iterator"\/ty="str_iterator") :
  Turn P w K tg (F0 z) [it] it (λi h=>h.IsStrIter it ty z t i) where
 mem:=by simp
 obj:=λi h st b hb=>by
  have e:b=it:=by simpa using hb
  subst e;obtain⟨o,e,c,d⟩:=st;exact⟨o,e,λv q=>by lia⟩
 keep:=λi h h' st k=>let ⟨o,e,r⟩:=st;⟨o,k it (by simp) o e,r⟩
 item:=by
  intro X hP hw hK hc i pins s σ H E I hf st hg;subst hP hw hK;have hi:i<z.cps.size:=hg;obtain⟨f0,f1,f2,f3,f4,f5⟩:=hf it (by simp)
  have fin:∀h',h'.IsStrIter it ty z t (i+1)->Rh it s.heap h'->∃u,(vd (Tc ⟨#[z.cps[i]]⟩ s.toks):Option OH)=vd u /\
    Pk (Pi X.prog X.w) X.A (S1 tg (.ref it) u) (λ_ s2=>Dg X pins σ (F0 z) [it] (λi h=>h.IsStrIter it ty z t i) i H u s2) E { s with heap:=h',toks:=s.toks+1 }:=λh' Gw sb=>by
   have I1:Inv X pins σ H { s with heap:=h',toks:=s.toks+1 }:=I.turned (λb o hb e=>(sb.2 b hb).trans e) f0 f1 f3 f4 f5;obtain⟨o,e,c,d⟩:=id Gw;refine⟨_,rfl,mU (s:={ s with heap:=h',toks:=s.toks+1 }) (n:=ty) e c d ?_ ⟨.str ⟨#[z.cps[i]]⟩,H,I1,⟨_,rfl⟩,⟨rfl,z.cps[i],by simp[hi],rfl⟩,Gw,λb hb=>(hf b hb).1⟩⟩
   rcases Iq with e|e <;> (rw[e];decide)
  rcases Iq with e|e
  .subst e
   exact wpAny_pyNext_ascii_item st (c:=z.cps[i]) (by simp[hi]) fin
  .subst e
   exact wpAny_pyNext_wide_item st (c:=z.cps[i]) (by simp[hi]) fin
 done:=by
  intro X hP hw hK hc i pins s σ H E I hf st hg;subst hP hw hK;have hi:z.cps.size<=i:=hg;obtain⟨f0,f1,f2,f3,f4,f5⟩:=hf it (by simp);have fin:∀h',Heap.ExtBut it s.heap h'->(zc:Option OH)=zc/\Inv X pins σ H { s with heap:=h' }:=λh' eb=>⟨rfl,I.turned (t':=s.toks) (λb o hb e=>eb b o hb e) f0 f1 f3 f4 f5⟩
  rcases Iq with e|e
  .subst e
   exact wpAny_pyNext_ascii_end (I.ok.hd hc) st (by simp;omega) fin
  .subst e
   exact wpAny_pyNext_wide_end (I.ok.hd hc) st (by simp;omega) fin
 self:=λ_ _ _ _ _ st h=>by
  rcases Iq with e|e
  .subst e
   exact wpAny_pyIter_striter_ascii st h
  .subst e
   exact wpAny_pyIter_striter_wide st h
noncomputable def all_range(bs:List Bool)(n:Nat)(hn:n=bs.length):(PY n).all (λi=>bs.getD i zd)=bs.all id:=by
 subst hn;rw[Qt,Pd,Pd];constructor
 .intro h b hb
  obtain⟨i,hi,rfl⟩:=Vn hb<;>simp_all
 .intro h i hi
  have Kj:=Ru.mp hi
  have:=h bs[i] (Uh Kj)<;>simp_all
theorem uH:∀(ns:List Int) (k:Nat),k<=ns.length->preSum (λi=>ns.getD i 0) k=(ns.take k).sum
 |ns,0,_=>rfl
 |ns,k+1,h=>by
  have hk:k<ns.length:=h;have ih:=uH ns k (RY hk)
  have e:(ns.take (k+1)).sum=(ns.take k).sum+ns.getD k 0:=by
   rw[V3,List.sum_append]<;>simp_all
  rw[e,←ih];rfl
section
variable {X:Cx}
noncomputable def zen(hc:X.calm=xV):YV X (.builtin "all") (λxs H Q=>∃(p:Addr) (bs:List Bool),xs=[.ref p]/\Zm X.K H p (bs.map V.bl)/\Q (.bl (bs.all id)) H):=by
 intro pins s σ H xs us Q I r h;obtain⟨p,bs,rfl,hq,q⟩:=h;obtain⟨u,rfl,ru⟩:=vals1 r;cases ru;obtain⟨Yu,rv,pl,hz⟩:=I.list hq
 have YH:=by have:=rv.length;simpa using this.symm
 have Z2:p<s.heap.objs.size:=by
  obtain⟨o,n,e,_⟩:=pl;exact OV e
 refine call_all_walk (TL pl.isList ?_);refine⟨s.heap.objs.size,_,_,_,_,_,λi=>bs.getD i zd,rfl,Yn (A:=X.A.in1) (I.ok.hd hc) _ p (Pl Z2) Yu.toArray,⟨⟨_,Pm _ rfl,rfl,rfl⟩,?_⟩,λi v s' Q' E' hv hQ'=>?_,λh' tk hk=>?_⟩
 .obtain⟨o,n,e,r⟩:=pl.isList
  exact⟨o,OK _ n,e,r⟩
 .have hi:=by
   have:=(Qs.mp hv).1;simpa using this
  have hi2:i<bs.length:=by lia
  obtain⟨u,hu,ru⟩:=rv.get (i:=i) (x:=.bl bs[i]) (by simp[hi2])
  have e:v=u:=by simp_all
  subst e;cases (ru)
  refine Qw ?_<;>simp_all
 .have e:(PY Yu.toArray.size).all _=bs.all id:=all_range bs _ (by omega)
  rw[e];exact⟨.bl _,H,I.kept  λb o q=>hk b o (by simp;exact Pl (OV q)) (OK _ q),rfl,q⟩
noncomputable def zeo{ns:List Int}{Yu:List OH}(rv:Yx (ns.map V.int) Yu){i:Nat}{v:OH}(hv:Yu.toArray[i]? = vd v):∃t,v=.int (ns.getD i 0) t:=by
 have YH:=by have:=rv.length;simpa using this.symm
 have hi:=by
  have:=(Qs.mp hv).1<;>omega
 have hi2:=by omega
 obtain⟨u,hu,ru⟩:=rv.get (i:=i) (x:=.int ns[i]) (by simp )
 have e:v=u:=by simp_all
 obtain⟨t,e⟩:=(ru)<;>simp_all
noncomputable def zep(hc:X.calm=xV):YV X (.builtin "sum") (λxs H Q=>∃(p:Addr) (ns:List Int),xs=[.ref p]/\Zm X.K H p (ns.map V.int)/\Q (.int ns.sum) H):=by
 intro pins s σ H xs us Q I r h;obtain⟨p,ns,rfl,hq,q⟩:=h;obtain⟨u,rfl,ru⟩:=vals1 r;cases ru;obtain⟨Yu,rv,pl,hz⟩:=I.list hq
 have YH:=by have:=rv.length;simpa using this.symm
 have Z2:p<s.heap.objs.size:=by
  obtain⟨o,n,e,_⟩:=pl;exact OV e
 refine call_sum_walkG (TL pl.isList ?_);refine⟨s.heap.objs.size,_,_,_,_,_,λi=>ns.getD i 0,rfl,Yn (A:=X.A.in1) (I.ok.hd hc) _ p (Pl Z2) _,⟨⟨_,Pm _ rfl,rfl,rfl⟩,?_⟩,λb hb=>?_,λi v hv=>zeo rv hv,λh' tk t' hk=>?_⟩
 .obtain⟨o,n,e,r⟩:=pl.isList
  exact⟨o,OK _ n,e,r⟩
 .rw[Q9]
  rcases(by simpa using hb) with e|e
  simp_all
  .rw[e];exact Sv Z2
 .have e:preSum (λi=>ns.getD i 0) Yu.toArray.size=ns.sum:=by
   rw[uH ns _ _]<;>simp_all
  rw[e];exact⟨.int _,H,I.kept  λb o q=>hk b o (by simp;exact Pl (OV q)) (OK _ q),⟨t',rfl⟩,q⟩
noncomputable def zeq:Zg X (PC .IsNot) (λx y H Q=>∃b c,x=.bl b/\y=.bl c/\Q (.bl (b != c)) H):=by
 intro pins s σ H x y v u Q I rx ry h;obtain⟨b,c,rfl,rfl,q⟩:=h;cases rx;cases ry;exact isnot_bool ⟨.bl _,H,I,rfl,q⟩
noncomputable def Ip:Zg X (Qq .Add) (λx y H Q=>∃a b xs ys,x=.ref a/\y=.ref b/\ZV X.K H a xs/\ZV X.K H b ys/\xs.length+ys.length<=OO /\
  (xs=[]->Q (.ref b) H)/\(xs≠[]->ys=[]->Q (.ref a) H)/\(xs≠[]->ys≠[]->∀p,H p=zc->Q (.ref p) (upd H p (.tup (xs++ys))))):=by
 intro pins s σ H x y v u Q I rx ry h;obtain⟨a,b,xs,ys,rfl,rfl,ha,hb,hz,q0,q1,q2⟩:=h
 by_cases hx:xs=[]
 .cases rx
  cases ry;obtain⟨Yu,r1,p1,_⟩:=I.tuple ha;obtain⟨CN,r2,p2,_⟩:=I.tuple hb;have hv:=r1.nil_iff.mpr hx;obtain⟨⟨cls,dd,data,sl⟩,ho,hc,n,hd⟩:=id p1;obtain⟨⟨Fy,EM,data2,GK⟩,G0,YE,n2,hd2⟩:=id p2;subst hc hd YE hd2
  exact Us ⟨_,ho,rfl⟩ ⟨_,G0,rfl⟩ Uc Vx Su Si (R3 _ _)
   (tuple_addW0 a b _ _ n n2 dd EM sl GK (by simp[hv])) ⟨ho,G0,⟨.ref b,H,I,rfl,q0 hx⟩⟩
 .exact zcv pins s σ H _ _ v u Q I rx ry ⟨a,b,xs,ys,rfl,rfl,ha,hb,hx,hz,q1 hx,q2 hx⟩
noncomputable def zer:E2 X (λx lo hi H Q=>∃z:Str,x=.str z/\z.length<=OO/\Q (.str (Pv z lo hi)) H):=by
 intro pins s σ H x v vl vu lo hi sl Q I rx hs pl pu h;obtain⟨z,rfl,hz,q⟩:=h;obtain⟨t,rfl⟩:=rx
 have fin:∀l u:Option (Int×Tok),l.map (·.1)=lo->u.map (·.1)=hi->s.heap.IsSlice sl l u zc->Pk (Pi X.prog X.w) X.A (SR (.str z t) (.ref sl)) (EP X pins σ Q) X.xe s:=λl u el eu h=>by
  refine wpAny_getItem_str_slice h rfl ?_;refine post_val_or_made (λ_=>?_) λt' k=>?_
  .have:=sliceIndices_le (l.map (·.1)) (u.map (·.1)) z.length
   have e:=List.length_filterMap_le (λi=>z.cps[i]?) (Wx z l u zc);show ((Wx z l u zc).filterMap (z.cps[·]?)).toArray.size<=OO;rw[P9];unfold Wx at e ⊢;simp only[Option.map_none,Ue] at e ⊢
   lia
  .refine⟨.str (Pv z lo hi),H,I.tok _,⟨t',?_⟩,q⟩
   rw[←el,←eu];rfl
 refine⟨"str",_,PySem.F.slot_str_getitem.lookup,Se s z t,?_⟩
 cases pl with
 |none=>
  cases pu with
  |none=>exact fin zc zc rfl rfl hs
  |int j u=>exact fin zc (vd (j,u)) rfl rfl hs
 |int i u=>
  cases pu with
  |none=>exact fin (vd (i,u)) zc rfl rfl hs
  |int j u'=>exact fin (vd (i,u)) (vd (j,u')) rfl rfl hs
noncomputable def Dm:Zg X (Qq .Mult) (λx y H Q=>∃z k,x=.str z/\y=.int k/\0<=k/\k<=2000/\z.length<=1000/\Q (.str (TM z k)) H):=by
 intro pins s σ H x y v u Q I rx ry h;obtain⟨z,k,rfl,rfl,h1,h2,h3,q⟩:=h;obtain⟨t,rfl⟩:=rx;obtain⟨t',rfl⟩:=ry;have hm:z.length*k.toNat<=1000*2000:=U4 h3 (by lia);refine SB.mul ⟨?_,λg1 g2=>?_,λg1 g2=>?_⟩ λt' k'=>⟨.str _,H,I.tok _,⟨t',rfl⟩,q⟩
 .lia
 .have hk:1<=k:=by simp at g1;lia
  have e1:(1000:Int)<=(2^63-1) / k:=by
   rw[Sx (by lia)]
   lia
  lia
 .unfold Builtin.Str.tooLong
  simp[OO]
  lia
end
noncomputable def uB:∀{us:List OH},Yx (ys.map V.str) us->StrsAre us ys:=by
 induction ys with
 |nil=>intro us r;cases r;exact .nil
 |cons y ys ih=>
  intro us r
  cases r with
  |cons r1 r2=>
   obtain⟨t,e⟩:=r1;subst e;exact .cons y t (ih r2)
theorem qr{z:Str}(hz:z.cps.toList=[]):∀ys:List Str,(Py z ys).cps.toList=(ys.map (·.cps.toList)).flatten
 |[]=>rfl
 |[x]=>by simp[Py]
 |x::y::r=>by
  have ih:=qr hz (y::r);show ((x++z)++Py z (y::r)).cps.toList=_;rw[TN,TN,hz,ih];simp
structure Fn(P:Pb)(w:Pp)(K:Frag)(mg:Str->Option OH)(base:Heap)(name:Str)(ps:List Str)(k:Nat)(sp:Sp):Prop where
 ex:∃f fd,YJ P w K mg base ZA k f fd ps sp/\Binds K fd ps []/\P5 K (.ref f)=xV/\mg name=vd (.ref f)
section
variable {X:Cx}{name:Str}{ps:List Str}{k:Nat}{sp:Sp}{e:Expr}{es:List Expr}{t:TA}{p pos:Pos}
noncomputable def kZ(F:Fn X.prog X.w X.K X.mg X.base name ps k sp)(hr:YD k X.A)(hg:Gl X name)(ha:PA X (e::es) t)(YU:autoParam ((name == ("__debug__" : Str))=zd) u11)
  (he:autoParam (OM (e::es) X.env=(zd,eval e X.env)::OM es X.env) u10) (Y1:autoParam ((PK pos (OM es X.env)).any (·.1)=zd) u10):PE X (.Call (.Name name p) (e::es) [] pos) (tu sp [] E0 t):=by
 obtain⟨f,fd,h1,h2,h3,h4⟩:=F.ex;exact ztn h1 hr hg h4 h3 h2 .nil mM ha YU he Y1
end
noncomputable def zes(S:CS osc N x scope N')(hi:PI X (.Name x px) iter wi)
  (he:∀C s0 H0 ex,PE (cA X x scope C s0 H0 ex N') elt te) (ht:∀C s0 H0 ex,Dy (cA X x scope C s0 H0 ex N') ifs tt) (hc:autoParam (X.calm=xV) u10) (hs:autoParam (X.env.scope=osc) u10) (hN:autoParam (X.N=N) u10)
  (hf:autoParam (∀v,PN iter X.env v=pure v) u16):PE X (.ListComp elt [⟨.Name x px,iter,ifs,0⟩] scope pos) (tq wi tt te):=by
 subst hs hN;exact zel hc S hi he ht hf
end L2
namespace D
open L2
inductive Gh(P:Hp->Prop):Hp->Prop where
 |done {H:Hp}:P H->Gh P H
 |frz {H:Hp}{a:Addr}{kvs:List (Key×V)}:H a=vd (.dK kvs)->(∀o,Gh P (upd H a (.frz o (.dK kvs))))->Gh P H
def Gh.imp(g:Gh P H)(i:∀H,P H->P' H):Gh P' H:=by
 induction g with
 |done h=>exact .done (i _ h)
 |frz e _ ih=>exact .frz e ih
section
variable {X:Cx}{pins:List (Addr×Obj)}{σ:L2.St}{H:Hp}{s:OJ}
noncomputable def zet(I:Inv X pins σ H s)(e:H a=vd (.dK kvs)):∃o,Inv X pins σ (upd H a (.frz o (.dK kvs))) s:=by
 obtain⟨z,y,vs,kv,o,es,ep,eo,r⟩:=I.hok a _ e
 have U:∀{b:Addr}{u:HO},H b=vd u->(∀ks,u≠.dK ks)->upd H a (.frz o (.dK kvs)) b=vd u:=λ{b u} q n=>by
  rw[aJ (λz=>by subst z<;>grind)];exact q
 have hok:Zh _ X.w (upd H a (.frz o _)) _:=λb u q=>by
  by_cases hb:b=a
  .subst hb
   rw[bg] at q;cases q;exact⟨eo,(I.hok b _ e).stay (λ_ _ _ q=>q) (λc q=>U q (λ_ z=>nomatch z)) λc xs q=>U q (λ_ z=>nomatch z)⟩
  .rw[aJ hb] at q
   exact(I.hok b u q).stay (λ_ _ _ q=>q) (λc q=>U q (λ_ z=>nomatch z)) λc xs q=>U q (λ_ z=>nomatch z)
 exact⟨o,I.un   ⟨λb ob q n _ _=>q,λb ob q n _ _=>⟨_,q⟩,λb ob q n _=>by rw[aJ (λz=>by simp_all)];exact n,λb ob q _=>⟨_,q⟩,λb xs q=>U q (λ_ z=>nomatch z),
  λb ob u q=>U q (λ_ z=>nomatch z),λb ps q=>⟨#[],by simp_all⟩⟩ hok⟩
def Gh.ok(g:Gh P H)(I:Inv X pins σ H s):∃H',Inv X pins σ H' s/\P H':=by
 induction g with
 |done h=>exact⟨_,I,h⟩
 |frz e _ ih=>
  obtain⟨o,I'⟩:=zet I e;exact ih o I'
noncomputable def zeu{st:Stmt}{t:TS}(h:PS X st t):PS X st (λD σ H=>Gh (t D σ) H):=λpins s σ H D I q=>by
 obtain⟨H',I',q'⟩:=q.ok I;exact h pins s σ H' D I' q'
end
def lz(o:Obj):Nat:=match o.data with
 |.dict _ ep=>ep
 |_=>0
noncomputable def G8(a:Addr)(o:Obj)(kvs:List (Key×V)):It:=⟨λi H=>H a=vd (.frz o (.dK kvs))/\i<kvs.length,λi H x H'=>H'=H/\∃k v,kvs[i]? = vd (k,v)/\x=kV k,λi H=>H a=vd (.frz o (.dK kvs))/\i=kvs.length⟩
noncomputable def qI(ok:Zh P w H h)(e:H a=vd (.frz o (.dK kvs))):kvs.length<=OO/\(a == Qv)=zd/\∃vs,KV kvs vs/\h.DictAt (cD P w) a vs (lz o):=by
 obtain⟨e1,z,y,vs,kv,o',es,ep,e2,ed,dd,r⟩:=ok a _ e;rw[e1] at e2;cases e2;refine⟨z,y,vs,kv,o,es,e1,ed,?_,r⟩;unfold lz;rw[dd]
def Hz(e:(cD P w).is k v=xV):RelV (kV k) v:=by
 rcases fJ (e) with⟨i,t,rfl,rfl⟩|⟨x,t,rfl,rfl⟩
 .exact⟨t,rfl⟩
 .exact⟨t,rfl⟩
noncomputable def zew{kvs:List (Key×V)}{vs:List (Key×OH)}(r:KV kvs vs){i:Nat}{k:Key}{x:OH}(e:vs[i]? = vd (k,x)):∃v,kvs[i]? = vd (k,v):=by
 have h:=r.keys
 have h1:(vs.map (·.1))[i]? = vd k:=by simp_all
 rw[←h,Qn] at h1<;>simp_all
noncomputable def zex{P:Pb}{w:Pp}{K:Frag}{tg:Expr}(a it:Addr)(o:Obj)(kvs:List (Key×V)):Turn P w K tg (G8 a o kvs) [it] it (λi h=>h.IsKeyIter it a i kvs.length (lz o)) where
 mem:=by simp
 obj:=λi h st b hb=>by
  have e:b=it:=by simpa using hb
  subst e;obtain⟨o,e,c,d⟩:=st;exact⟨o,e,λv z=>by simp_all⟩
 keep:=λi h h' st k=>st.at λo e=>k it (by simp) o e
 item:=by
  intro X hP hw hK hc i pins s σ H E I hf st hg;subst hP hw hK;obtain⟨JI,JH⟩:=hg;obtain⟨z,y,vs,kv,dd⟩:=qI I.hok JI;obtain⟨f0,f1,f2,f3,f4,f5⟩:=hf it (by simp);have hl:=kv.length
  have ne:a≠it:=λq=>by simp_all
  have W:=W5 (prog:=X.prog) (w:=X.w) (knd:=cD X.prog X.w) (I.ok.hd hc) it a ne vs (lz o);refine W.item i s _ _ (by omega) ⟨by rw[←hl];exact st,dd⟩ λv h' tk hv Gw kk=>?_;obtain⟨k,x,h1,h2⟩:=hv;have I1:Inv X pins σ H { s with heap:=h',toks:=tk }:=I.turned (λb o hb e=>kk b o (by simpa using hb) e) f0 f1 f3 f4 f5
  have HX:h'.IsKeyIter it a (i+1) kvs.length (lz o):=by rw[hl];exact Gw.1
  obtain⟨o1,e1,c1,d1⟩:=id HX;obtain⟨v0,h3⟩:=zew kv h1;exact⟨v,rfl,mU (s:={ s with heap:=h',toks:=tk }) e1 c1 d1 (by decide) ⟨kV k,H,I1,Hz h2,⟨rfl,k,v0,h3,rfl⟩,HX,λb hb=>(hf b hb).1⟩⟩
 done:=by
  intro X hP hw hK hc i pins s σ H E I hf st hg;subst hP hw hK;obtain⟨JI,JH⟩:=hg;obtain⟨z,y,vs,kv,dd⟩:=qI I.hok JI;obtain⟨f0,f1,f2,f3,f4,f5⟩:=hf it (by simp);have hl:=kv.length
  have ne:a≠it:=λq=>by rw[q,f0] at JI;cases JI
  have W:=W5 (prog:=X.prog) (w:=X.w) (knd:=cD X.prog X.w) (I.ok.hd hc) it a ne vs (lz o);refine W.done s _ _ ⟨by rw[←hl,←JH];rw[←JH] at st;exact st,dd⟩ λh' tk kk=>⟨rfl,I.turned (λb o hb e=>kk b o (by simpa using hb) e) f0 f1 f3 f4 f5⟩
 self:=λ_ _ _ _ _ st h=>wpAny_pyIter_keyiter st h
inductive W where
 |d (x:OF)|tp (i:Nat)|loc (x:OF)
abbrev Tp:=List (List OF)
abbrev Yy:=List (Option W)
noncomputable def Yz{α β:Type}(o:Option (α×Tp))(k:α->Tp->Option β):Option β:=match o with
 |some (a,T)=>k a T
 |none=>zc
inductive KR{α β:Type}(o:Option (α×Tp))(k:α->Tp->Option β)(b:β):Prop where
 |mk (a:α) (T:Tp) (e:o=vd (a,T)) (h:k a T=vd b)
noncomputable def aE{α β:Type}{o:Option (α×Tp)}{k:α->Tp->Option β}{b:β}(h:Yz o k=vd b):KR o k b:=by
 cases o with
 |none=>cases h
 |some p=>exact⟨p.1,p.2,rfl,h⟩
def ni:Key->OF
 |.inl i=>.int i
 |.inr x=>.str x
def TupAt(K:Frag)(O:Addr->Prop)(H:Hp)(a:Addr)(vs:List V):Prop:=(¬O a/\Rd H a (.tup vs))\/ZV K (λ_=>zc) a vs
def LstAt(K:Frag)(O:Addr->Prop)(H:Hp)(a:Addr)(vs:List V):Prop:=(¬O a/\Rd H a (.lst vs))\/Zm K (λ_=>zc) a vs
noncomputable def zey{K:Frag}{H:Hp}{a:Addr}{vs:List V}(h:ZV K (λ_=>zc) a vs):ZV K H a vs:=by
 rcases h with(h|⟨o,h⟩)|h
 .cases h
 .cases h
 .exact .inr h
noncomputable def zez{K:Frag}{H:Hp}{a:Addr}{vs:List V}(h:Zm K (λ_=>zc) a vs):Zm K H a vs:=by
 rcases h with(h|⟨o,h⟩)|h
 .cases h
 .cases h
 .exact .inr h
def TupAt.sq{K:Frag}{O:Addr->Prop}{H:Hp}{a:Addr}{vs:List V}(h:TupAt K O H a vs):ZV K H a vs:=by
 rcases h with h|h
 .exact .inl h.2
 .exact zey h
def LstAt.sq{K:Frag}{O:Addr->Prop}{H:Hp}{a:Addr}{vs:List V}(h:LstAt K O H a vs):Zm K H a vs:=by
 rcases h with h|h
 .exact .inl h.2
 .exact zez h
mutual
inductive Rep(K:Frag)(O:Addr->Prop)(H:Hp):V->OF->Prop where
 |non:Rep K O H .non .none
 |bl (b:Bool):Rep K O H (.bl b) (.bool b)
 |int (i:Int):Rep K O H (.int i) (.int i)
 |str (x:Str):Rep K O H (.str x) (.str x)
 |tup {a:Addr}{vs:List V}{ds:List OF}:TupAt K O H a vs->Yw K O H vs ds->Rep K O H (.ref a) (.tuple ds)
 |lst {a:Addr}{vs:List V}{ds:List OF}:LstAt K O H a vs->Yw K O H vs ds->Rep K O H (.ref a) (.list ds)
 |dct {a:Addr}{o:Obj}{kvs:List (Key×V)}{ds:List (OF×OF)}:¬O a->H a=vd (.frz o (.dK kvs))->YN K O H kvs ds->Rep K O H (.ref a) (.dict ds)
inductive Yw(K:Frag)(O:Addr->Prop)(H:Hp):List V->List OF->Prop where
 |nil:Yw K O H [] []
 |cons {v:V}{d:OF}{vs:List V}{ds:List OF}:Rep K O H v d->Yw K O H vs ds->Yw K O H (v::vs) (d::ds)
inductive YN(K:Frag)(O:Addr->Prop)(H:Hp):List (Key×V)->List (OF×OF)->Prop where
 |nil:YN K O H [] []
 |cons {k:Key}{v:V}{d:OF}{kvs:List (Key×V)}{ds:List (OF×OF)}:Rep K O H v d->YN K O H kvs ds->YN K O H ((k,v)::kvs) ((ni k,d)::ds)
end
def Le(O:Addr->Prop)(H:Hp)(O':Addr->Prop)(H':Hp):Prop:=∀a o,¬O a->H a=vd o->¬O' a/\H' a=vd o
def Le.trans(h:Le O H O1 H1)(g:Le O1 H1 O2 H2):Le O H O2 H2:=λa o n e=>let ⟨n1,e1⟩:=h a o n e;g a o n1 e1
def Ig:HO->Bool
 |.tup _=>xV
 |.lst _=>xV
 |.frz _ _=>xV
 |_=>zd
def Hb(O:Addr->Prop)(H:Hp)(O':Addr->Prop)(H':Hp):Prop:=∀a o,¬O a->Ig o=xV->H a=vd o->¬O' a/\H' a=vd o
def m9(h:Le O H O' H'):Hb O H O' H':=λa o n _ e=>h a o n e
def TupAt.monoP{K:Frag}{O O':Addr->Prop}{H H':Hp}(h:Hb O H O' H'){a:Addr}{vs:List V}(t:TupAt K O H a vs):TupAt K O' H' a vs:=by
 rcases t with⟨n,t|⟨o,t⟩⟩|t
 .exact .inl ⟨(h _ _ n rfl t).1,.inl (h _ _ n rfl t).2⟩
 .exact .inl ⟨(h _ _ n rfl t).1,.inr ⟨o,(h _ _ n rfl t).2⟩⟩
 .exact .inr t
def LstAt.monoP{K:Frag}{O O':Addr->Prop}{H H':Hp}(h:Hb O H O' H'){a:Addr}{vs:List V}(t:LstAt K O H a vs):LstAt K O' H' a vs:=by
 rcases t with⟨n,t|⟨o,t⟩⟩|t
 .exact .inl ⟨(h _ _ n rfl t).1,.inl (h _ _ n rfl t).2⟩
 .exact .inl ⟨(h _ _ n rfl t).1,.inr ⟨o,(h _ _ n rfl t).2⟩⟩
 .exact .inr t
mutual
theorem Rep.monoP{K:Frag}{O O':Addr->Prop}{H H':Hp}(e:Hb O H O' H'):∀{v:V}{d:OF},Rep K O H v d->Rep K O' H' v d
 |_,_,.non=>.non
 |_,_,.bl b=>.bl b
 |_,_,.int i=>.int i
 |_,_,.str x=>.str x
 |_,_,.tup t r=>.tup (t.monoP e) (Yw.monoP e r)
 |_,_,.lst t r=>.lst (t.monoP e) (Yw.monoP e r)
 |_,_,.dct n h r=>.dct (e _ _ n rfl h).1 (e _ _ n rfl h).2 (YN.monoP e r)
theorem Yw.monoP{K:Frag}{O O':Addr->Prop}{H H':Hp}(e:Hb O H O' H'):∀{vs:List V}{ds:List OF},Yw K O H vs ds->Yw K O' H' vs ds
 |_,_,.nil=>.nil
 |_,_,.cons r t=>.cons (Rep.monoP e r) (Yw.monoP e t)
theorem YN.monoP{K:Frag}{O O':Addr->Prop}{H H':Hp}(e:Hb O H O' H'):∀{vs:List (Key×V)}{ds:List (OF×OF)},YN K O H vs ds->YN K O' H' vs ds
 |_,_,.nil=>.nil
 |_,_,.cons r t=>.cons (Rep.monoP e r) (YN.monoP e t)
end
def TupAt.mono{K:Frag}{O O':Addr->Prop}{H H':Hp}(h:Le O H O' H'){a:Addr}{vs:List V}(t:TupAt K O H a vs):TupAt K O' H' a vs:=t.monoP (m9 h)
def LstAt.mono{K:Frag}{O O':Addr->Prop}{H H':Hp}(h:Le O H O' H'){a:Addr}{vs:List V}(t:LstAt K O H a vs):LstAt K O' H' a vs:=t.monoP (m9 h)
def Rep.mono{K:Frag}{O O':Addr->Prop}{H H':Hp}(e:Le O H O' H'){v:V}{d:OF}(r:Rep K O H v d):Rep K O' H' v d:=Rep.monoP (m9 e) r
def Yw.mono{K:Frag}{O O':Addr->Prop}{H H':Hp}(e:Le O H O' H'){vs:List V}{ds:List OF}(r:Yw K O H vs ds):Yw K O' H' vs ds:=Yw.monoP (m9 e) r
def YN.mono{K:Frag}{O O':Addr->Prop}{H H':Hp}(e:Le O H O' H'){vs:List (Key×V)}{ds:List (OF×OF)}(r:YN K O H vs ds):YN K O' H' vs ds:=YN.monoP (m9 e) r
section
variable {K:Frag}{O:Addr->Prop}{H:Hp}
theorem Yw.length:∀{vs:List V}{ds:List OF},Yw K O H vs ds->vs.length=ds.length
 |_,_,.nil=>rfl
 |_,_,.cons _ t=>congrArg _ (Yw.length t)
theorem Yw.get:∀{vs:List V}{ds:List OF}{i:Nat}{v:V},Yw K O H vs ds->vs[i]? = vd v->∃d,ds[i]? = vd d/\Rep K O H v d
 |_,_,_,_,.nil,e=>by simp at e
 |_,_,0,_,.cons r _,e=>by simp_all
 |_,_,i+1,v,.cons _ t,e=>by
  obtain⟨d,h1,h2⟩:=Yw.get   t (by simpa using e);exact⟨d,by simpa using h1,h2⟩
theorem Yw.getD:∀{vs:List V}{ds:List OF}{i:Nat}{d:OF},Yw K O H vs ds->ds[i]? = vd d->∃v,vs[i]? = vd v/\Rep K O H v d
 |_,_,_,_,.nil,e=>by simp at e
 |_,_,0,_,.cons r _,e=>by simp_all
 |_,_,i+1,v,.cons _ t,e=>by
  obtain⟨d,h1,h2⟩:=Yw.getD   t (by simpa using e);exact⟨d,by simpa using h1,h2⟩
theorem Yw.set(r:Rep K O H v d):∀{vs:List V}{ds:List OF} (i:Nat),Yw K O H vs ds->Yw K O H (vs.set i v) (ds.set i d)
 |_,_,_,.nil=>.nil
 |_,_,0,.cons _ t=>.cons r t
 |_,_,i+1,.cons q t=>.cons q (Yw.set r i t)
theorem Yw.append:∀{vs:List V}{ds:List OF},Yw K O H vs ds->Yw K O H ws es->Yw K O H (vs++ws) (ds++es)
 |_,_,.nil,r=>r
 |_,_,.cons q t,r=>.cons q (Yw.append t r)
theorem Yw.take:∀{vs:List V}{ds:List OF} (n:Nat),Yw K O H vs ds->Yw K O H (vs.take n) (ds.take n)
 |_,_,0,_=>.nil
 |_,_,_+1,.nil=>.nil
 |_,_,n+1,.cons r t=>.cons r (Yw.take n t)
theorem Yw.drop:∀{vs:List V}{ds:List OF} (n:Nat),Yw K O H vs ds->Yw K O H (vs.drop n) (ds.drop n)
 |_,_,0,r=>r
 |_,_,_+1,.nil=>.nil
 |_,_,n+1,.cons _ t=>Yw.drop n t
theorem Yw.rep(r:Yw K O H vs ds):∀n:Nat,Yw K O H (OQ n vs).flatten (OQ n ds).flatten
 |0=>.nil
 |n+1=>by
  exact r.append (r.rep n)
end
def YB(ts:List Addr)(H H':Hp):Prop:=∀b o,b∉ts->H b=vd o->H' b=vd o
def YB.refl(ts:List Addr)(H:Hp):YB ts H H:=λ_ _ _ h=>h
def YB.trans(a:YB ts H H1)(b:YB ts H1 H2):YB ts H H2:=λc o n h=>b c o n (a c o n h)
def YB.new(h:H p=zc)(o:HO):YB ts H (upd H p o):=λb u _ q=>by rw[aJ (bx q h)];exact q
def Kt(o:Option HO):Prop:=(∃vs,o=vd (.lst vs))\/(∃kvs,o=vd (.dK kvs))\/∃C dx fs,o=vd (.ins C dx fs)
def Kt.ex(h:Kt o):∃u,o=vd u:=by rcases h with⟨vs,e⟩|⟨vs,e⟩|⟨C,dx,fs,e⟩ <;> exact⟨_,e⟩
def Kt.to(h:Kt o)(k:∀u,o=vd u->o'=vd u):Kt o':=by
 rcases h with⟨vs,e⟩|⟨vs,e⟩|⟨C,dx,fs,e⟩
 .exact .inl ⟨vs,k _ e⟩
 .exact .inr (.inl ⟨vs,k _ e⟩)
 .exact .inr (.inr ⟨C,dx,fs,k _ e⟩)
def bW(C:Addr):PyData:=.dict [(.none,.int (C:Int))]
def EZ:List OF->Bool
 |.dict [(.none,_)]::_=>xV
 |_=>zd
def pairF(p:Str×OF):PyData:=.tuple [.str p.1,p.2]
inductive ZW(K:Frag)(O:Addr->Prop)(H:Hp):List (Str×V)->List (Str×OF)->Prop where
 |nil:ZW K O H [] []
 |cons {n:Str}{v:V}{d:OF}{vs:List (Str×V)}{ds:List (Str×OF)}:Rep K O H v d->ZW K O H vs ds->ZW K O H ((n,v)::vs) ((n,d)::ds)
theorem ZW.mono{K:Frag}{O O':Addr->Prop}{H H':Hp}(e:Le O H O' H'){vs:List (Str×V)}{ds:List (Str×OF)}(r:ZW K O H vs ds):ZW K O' H' vs ds:=by
 induction r with
 |nil=>exact .nil
 |cons r _ ih=>exact .cons (Rep.mono e r) ih
def IU(K:Frag)(O:Addr->Prop)(H:Hp)(a:Addr)(xs:List OF):Prop:=(EZ xs=zd/\∃vs,H a=vd (.lst vs)/\Yw K O H vs xs)\/∃C dx fs fd,H a=vd (.ins C dx fs)/\xs=bW C::fd.map pairF/\ZW K O H fs fd
theorem IU.mono{K:Frag}{O O':Addr->Prop}{H H':Hp}{a:Addr}{xs:List OF}(h:IU K O H a xs)(k:∀o,H a=vd o->H' a=vd o)(l:Le O H O' H'):IU K O' H' a xs:=by
 rcases h with⟨n,vs,h1,h2⟩|⟨C,dx,fs,fd,h1,h2,h3⟩
 .exact .inl ⟨n,vs,k _ h1,h2.mono l⟩
 .exact .inr ⟨C,dx,fs,fd,k _ h1,h2,h3.mono l⟩
theorem IU.lst{K:Frag}{O:Addr->Prop}{H:Hp}{a:Addr}{xs:List OF}(h:IU K O H a xs)(n:EZ xs=zd):∃vs,H a=vd (.lst vs)/\Yw K O H vs xs:=by
 rcases h with⟨_,h⟩|⟨C,dx,fs,fd,h1,h2,h3⟩
 .exact h
 .rw[h2] at n
  cases n
noncomputable def zfa{K:Frag}{O:Addr->Prop}{H:Hp}{v:V}{y:OF}(h:Rep K O H v (.dict [(.none,y)])):False:=by
 cases h with
 |dct _ _ r=>
  generalize hl:[_]=l at r
  cases r with
  |nil=>cases hl
  |@cons k _ _ _ _ _ _=>
   injection hl with h1 _
   rcases k with i|x
   .cases h1
   .cases h1
def Yw.notO{K:Frag}{O:Addr->Prop}{H:Hp}{vs:List V}{xs:List OF}(r:Yw K O H vs xs):EZ xs=zd:=by
 cases r with
 |nil=>rfl
 |cons h _=>
  unfold EZ;split
  .rename_i e
   cases e;exact(zfa h).elim
  .rfl
structure HC(K:Frag)(O:Addr->Prop)(ts:List Addr)(H:Hp)(T:Tp):Prop where
 own:∀b∈ts,O b
 trk:∀b,O b->Kt (H b)
 nd:ts.Nodup
 len:ts.length=T.length
 tape:∀(i:Nat) (a:Addr) (xs:List OF),ts[i]? = vd a->T[i]? = vd xs->IU K O H a xs
section
variable {K:Frag}{O:Addr->Prop}{ts:List Addr}{H H':Hp}{T:Tp}
def HC.le(c:HC K O ts H T)(s:YB ts H H'):Le O H O H':=λa o n e=>⟨n,s a o (λz=>n (c.own a z)) e⟩
def HC.step(c:HC K O ts H T)(s:YB ts H H')(t:∀b∈ts,H' b=H b):HC K O ts H' T where
 own:=c.own
 trk:=λb hb=>by
  by_cases z:b∈ts
  .rw[t b z];exact c.trk b hb
  .exact(c.trk b hb).to λu e=>s b _ z e
 nd:=c.nd
 len:=c.len
 tape:=λi a xs e1 e2=>by
  exact(c.tape i a xs e1 e2).mono (λo h1=>by rw[t a (Px e1)];exact h1) (c.le s)
def HC.fresh(c:HC K O ts H T)(h:H p=zc):¬O p:=λz=>by
 obtain⟨u,e⟩:=(c.trk p z).ex<;>simp_all
theorem HC.new(c:HC K O ts H T)(h:H p=zc)(o:HO):HC K O ts (upd H p o) T:=c.step (.new h o) λb hb=>aJ λz=>c.fresh h (z ▸ c.own b hb)
def HC.leNew(c:HC K O ts H T)(h:H p=zc)(o:HO):Le O H O (upd H p o):=c.le (.new h o)
def HC.newT(c:HC K O ts H T)(h:H p=zc)(r:Yw K O H vs ds):Rep K O (upd H p (.tup vs)) (.ref p) (.tuple ds):=.tup (.inl ⟨c.fresh h,.inl bg⟩) (r.mono (c.leNew h _))
def HC.newL(c:HC K O ts H T)(h:H p=zc)(r:Yw K O H vs ds):Rep K O (upd H p (.lst vs)) (.ref p) (.list ds):=.lst (.inl ⟨c.fresh h,.inl bg⟩) (r.mono (c.leNew h _))
end
inductive Vw(K:Frag)(O:Addr->Prop)(H:Hp):V->OF->Prop where
 |rep {v:V}{x:OF}:Rep K O H v x->Vw K O H v x
 |raw {a:Addr}{vs:List V}{xs:List OF}:H a=vd (.lst vs)->Yw K O H vs xs->Vw K O H (.ref a) (.list xs)
 |rawD {a:Addr}{kvs:List (Key×V)}{ds:List (OF×OF)}:H a=vd (.dK kvs)->YN K O H kvs ds->Vw K O H (.ref a) (.dict ds)
section
variable {K:Frag}{O:Addr->Prop}{H:Hp}{v:V}
theorem Vw.int(h:Vw K O H v (.int i)):v=.int i:=by cases h with|rep h=>cases h;rfl
theorem Vw.str(h:Vw K O H v (.str x)):v=.str x:=by cases h with|rep h=>cases h;rfl
theorem Vw.bl(h:Vw K O H v (.bool b)):v=.bl b:=by cases h with|rep h=>cases h;rfl
theorem Vw.non(h:Vw K O H v .none):v=.non:=by cases h with|rep h=>cases h;rfl
theorem Vw.tup(h:Vw K O H v (.tuple ds)):∃a vs,v=.ref a/\TupAt K O H a vs/\Yw K O H vs ds:=by cases h with|rep h=>cases h with|tup t r=>exact⟨_,_,rfl,t,r⟩
def Vw.tupR(h:Vw K O H v (.tuple ds)):Rep K O H v (.tuple ds):=by cases h <;>simp_all
theorem Vw.lst(h:Vw K O H v (.list ds)):∃a vs,v=.ref a/\Zm K H a vs/\Yw K O H vs ds:=by
 cases h with
 |rep h=>cases h with|lst t r=>exact⟨_,_,rfl,t.sq,r⟩
 |raw h r=>exact⟨_,_,rfl,Zm.of h,r⟩
theorem Vw.dct(h:Vw K O H v (.dict ds)):∃a kvs,v=.ref a/\Rd H a (.dK kvs)/\YN K O H kvs ds:=by
 cases h with
 |rep h=>cases h with|dct n t r=>exact⟨_,_,rfl,.inr ⟨_,t⟩,r⟩
 |rawD t r=>exact⟨_,_,rfl,.inl t,r⟩
end
def Zt(K:Frag)(O:Addr->Prop)(H:Hp)(a:Addr):OF->Prop
 |.list xs=>∃vs,H a=vd (.lst vs)/\Yw K O H vs xs
 |.dict ds=>∃kvs,H a=vd (.dK kvs)/\YN K O H kvs ds
 |_=>False
theorem Zt.mono{K:Frag}{O O':Addr->Prop}{H H':Hp}{a:Addr}{x:OF}(h:Zt K O H a x)(k:∀o,H a=vd o->H' a=vd o)(l:Le O H O' H'):Zt K O' H' a x:=by
 cases x with
 |list xs=>obtain⟨vs,h1,h2⟩:=h;exact⟨vs,k _ h1,h2.mono l⟩
 |dict ds=>obtain⟨vs,h1,h2⟩:=h;exact⟨vs,k _ h1,h2.mono l⟩
 |_=>cases h
def Zt.some{K:Frag}{O:Addr->Prop}{H:Hp}{a:Addr}{x:OF}(h:Zt K O H a x):∃o,H a=vd o:=by
 cases x with
 |list xs=>obtain⟨vs,h1,h2⟩:=h;exact⟨_,h1⟩
 |dict ds=>obtain⟨vs,h1,h2⟩:=h;exact⟨_,h1⟩
 |_=>cases h
noncomputable def ZJ(K:Frag)(O:Addr->Prop)(ts:List Addr)(H:Hp)(v:V):W->Prop
 |.d x=>Rep K O H v x
 |.tp i=>∃a,ts[i]? = vd a/\v=.ref a
 |.loc x=>∃a,v=.ref a/\O a/\a∉ts/\Zt K O H a x
def ll(xs:List OF):Option PyData:=if EZ xs=xV then zc else vd (.list xs)
noncomputable def view(T:Tp):W->Option OF
 |.d x=>vd x
 |.tp i=>(T[i]?).bind ll
 |.loc (.list xs)=>vd (.list xs)
 |.loc (.dict ds)=>vd (.dict ds)
 |.loc _=>zc
noncomputable def views(T:Tp):List W->Option (List OF)
 |[]=>vd []
 |w::r=>match view T w with
  | some x=>(match views T r with
   |some xs=>vd (x::xs)
   | none=>zc)
  |none=>zc
def fX(K:Frag)(O:Addr->Prop)(ts:List Addr)(H:Hp):List V->List W->Prop:=UY λv w=>ZJ K O ts H v w
def JP(K:Frag)(O:Addr->Prop)(H:Hp):List V->List OF->Prop:=UY λv x=>Vw K O H v x
def Zj(K:Frag)(O:Addr->Prop)(ts:List Addr)(H:Hp)(σ:L2.St)(ρ:Yy):Prop:=∀(i:Nat) (w:W),ρ[i]? = vd (vd w)->∃v,σ[i]? = vd (vd v)/\ZJ K O ts H v w
section
variable {K:Frag}{O:Addr->Prop}{ts:List Addr}{H H':Hp}{T:Tp}{v:V}{w:W}
theorem ZJ.mono(r:ZJ K O ts H v w)(c:HC K O ts H T)(s:YB ts H H'):ZJ K O ts H' v w:=by
 cases w with
 |d x=>exact Rep.mono (c.le s) r
 |tp i=>exact r
 |loc xs=>
  obtain⟨a,e,h1,h2,h3⟩:=r;exact⟨a,e,h1,h2,h3.mono (λo q=>s _ _ h2 q) (c.le s)⟩
theorem Zj.mono(r:Zj K O ts H σ ρ)(c:HC K O ts H T)(s:YB ts H H'):Zj K O ts H' σ ρ:=λi w e=>
 let ⟨v,h1,h2⟩:=r i w e;⟨v,h1,h2.mono c s⟩
theorem HC.view(c:HC K O ts H T)(r:ZJ K O ts H v w)(e:view T w=vd x):Vw K O H v x:=by
 cases w with
 |d y=>cases e;exact .rep r
 |tp i=>
  obtain⟨a,h1,rfl⟩:=r;have e':(T[i]?).bind ll=vd x:=e
  cases ht:T[i]? with
  |none=>simp_all
  |some xs=>
   rw[ht] at e';have e2:(if EZ xs=xV then zc else vd _)=vd x:=e';split at e2
   .cases e2
   .rename_i hn
    cases e2;obtain⟨vs,h2,h3⟩:=(c.tape i a xs h1 ht).lst (by simpa using hn);exact .raw h2 h3
 |loc xs=>
  obtain⟨a,rfl,_,_,h3⟩:=r
  cases xs with
  |list xs=>cases e;obtain⟨vs,h1,h2⟩:=h3;exact .raw h1 h2
  |dict ds=>cases e;obtain⟨vs,h1,h2⟩:=h3;exact .rawD h1 h2
  |_=>cases h3
theorem HC.views(c:HC K O ts H T):∀{vs:List V}{ws:List W}{xs:List OF},fX K O ts H vs ws->views T ws=vd xs->JP K O H vs xs
 |_,[],xs,.nil,e=>by cases e;exact .nil
 |_,w::r,xs,.cons h t,e=>by
  unfold D.views at e;split at e
  .rename_i x h1
   split at e
   .rename_i ys h2
    cases e;exact .cons (c.view h h1) (HC.views c t h2)
   .cases e
  .cases e
end
def noStar:Expr->Bool
 |.Starred _ _=>zd
 |_=>xV
def aW(h:noStar e=xV):OM (e::es) env=(zd,eval e env)::OM es env:=by cases e <;> first|rfl|cases h
def v5(h:noStar e=xV):OM [e] env=[(zd,eval e env)]:=aW h
theorem bD:∀{es:List Expr},es.all noStar=xV->(PK pos (OM es env)).any (·.1)=zd
 |[],_=>rfl
 |e::r,h=>by
  rw[R4,OW] at h;rw[aW h.1];show (zd||(PK pos _).any _)=zd;rw[bD h.2];rfl
noncomputable def il(h:noStar e=xV):((PK cpos (OM [e] env)).all (λx=>!x.1)&&(QS cpos (Qb [] env)).all (λx=>x.1.isSome)
   && decide (([e]:List Expr).length+([]:List QR).length+(if ([]:List QR).isEmpty then 0 else 1)<30))=xV:=by
 rw[v5 h];rfl
abbrev FE:=Yy->Tp->Option (W×Tp)
abbrev FT:=Yy->Tp->Option (Bool×Tp)
abbrev FA:=Yy->Tp->Option (List W×Tp)
inductive Gk(K:Frag)(f:FE)(σ:L2.St)(H:Hp)(Q:VK):Prop where
 |mk (O:Addr->Prop) (ts:List Addr) (ρ:Yy) (T:Tp) (w:W) (T':Tp) (hc:HC K O ts H T) (re:Zj K O ts H σ ρ) (e:f ρ T=vd (w,T')) (q:∀v H',YB ts H H'->HC K O ts H' T'->ZJ K O ts H' v w->Q v H'):Gk K f σ H Q
def lift(K:Frag)(f:FE):TE:=λσ H Q=>Gk K f σ H Q
inductive HP(K:Frag)(f:FT)(σ:L2.St)(H:Hp)(Q:Bool->Hp->Prop):Prop where
 |mk (O:Addr->Prop) (ts:List Addr) (ρ:Yy) (T:Tp) (b:Bool) (T':Tp) (hc:HC K O ts H T) (re:Zj K O ts H σ ρ) (e:f ρ T=vd (b,T')) (q:∀H',YB ts H H'->HC K O ts H' T'->Q b H'):HP K f σ H Q
def liftT(K:Frag)(f:FT):TT:=λσ H Q=>HP K f σ H Q
inductive KB(K:Frag)(f:FA)(σ:L2.St)(H:Hp)(Q:List V->Hp->Prop):Prop where
 |mk (O:Addr->Prop) (ts:List Addr) (ρ:Yy) (T:Tp) (ws:List W) (T':Tp) (hc:HC K O ts H T) (re:Zj K O ts H σ ρ) (e:f ρ T=vd (ws,T')) (q:∀vs H',YB ts H H'->HC K O ts H' T'->fX K O ts H' vs ws->Q vs H'):KB K f σ H Q
def mS(K:Frag)(f:FA):TA:=λσ H Q=>KB K f σ H Q
structure DE(X:Cx)(e:Expr)(f:FE):Prop where
 pe:PE X e (lift X.K f)
structure DT(X:Cx)(e:Expr)(f:FT):Prop where
 pe:PT X e (liftT X.K f)
structure DW(X:Cx)(e:Expr)(f:FT):Prop where
 pe:PW X e (liftT X.K f)
structure DA(X:Cx)(es:List Expr)(f:FA):Prop where
 pe:PA X es (mS X.K f)
def pe_imp(h:PE X e t)(i:∀σ H Q,t' σ H Q->t σ H Q):PE X e t':=λpins s σ H Q I q=>h pins s σ H Q I (i σ H Q q)
def oP(h:PT X e t)(i:∀σ H Q,t' σ H Q->t σ H Q):PT X e t':=λpins s σ H Q I q=>h pins s σ H Q I (i σ H Q q)
noncomputable def y4(h:PW X e t)(i:∀σ H Q,t' σ H Q->t σ H Q):PW X e t':=λwh pins s σ H Q I q=>h wh pins s σ H Q I (i σ H Q q)
def B0(h:PA X e t)(i:∀σ H Q,t' σ H Q->t σ H Q):PA X e t':=λpo pins s σ H Q I q=>h po pins s σ H Q I (i σ H Q q)
def aa(i:Nat):FE:=λρ T=>match ρ[i]? with
 |some (vd w)=>vd (w,T)
 |_=>zc
noncomputable def fC(x:OF):FE:=λ_ T=>vd (.d x,T)
section
variable {X:Cx}{pos:Pos}
noncomputable def af(i:Nat)(hN:autoParam (X.N[i]? = vd x) u10)(hv:autoParam (Ee X.env.scope x) u21)(hd:autoParam ((x == ("__debug__" : Str))=zd) u11)
  (hcd:autoParam ((x == ("__classdict__" : Str))=zd) u11):DE X (.Name x pos) (aa i):=by
 refine⟨?_⟩;refine pe_imp (pv i hN hv hd hcd) λσ H Q=>?_;rintro⟨O,ts,ρ,T,w,T',hc,re,e,q⟩;unfold aa at e;split at e
 .rename_i w' he
  cases e;obtain⟨v,h1,h2⟩:=re i _ he;exact⟨v,h1,q v H (.refl _ _) hc h2⟩
 .cases e
noncomputable def jG(h:∀O H,Rep X.K O H v x):∀σ H Q,lift X.K (fC x) σ H Q->tC v σ H Q:=by
 rintro σ H Q ⟨O,ts,ρ,T,w,T',hc,re,e,q⟩;cases e;exact q v H (.refl _ _) hc (h O H)
def aj{i j}:DE X (.Constant (.int i) j pos) (fC (.int i)):=⟨pe_imp zan (jG λ_ _=>.int i)⟩
def dD{i j}:DE X (.Constant (.bool i) j pos) (fC (.bool i)):=⟨pe_imp zao (jG λ_ _=>.bl i)⟩
def ao{i j}:DE X (.Constant (.str i) j pos) (fC (.str i)):=⟨pe_imp zsm (jG λ_ _=>.str i)⟩
def bY{j}:DE X (.Constant .none j pos) (fC .none):=⟨pe_imp zap (jG λ_ _=>.non)⟩
noncomputable def cW(hg:Gl X x)(hm:∃t,X.mg x=vd (.int i t))(hd:autoParam ((x == ("__debug__" : Str))=zd) u11):DE X (.Name x pos) (fC (.int i)):=by
 refine⟨?_⟩;obtain⟨t,hm⟩:=hm;exact pe_imp (kA (v:=.int i) hg hm ⟨t,rfl⟩ hd) (jG λ_ _=>.int i)
noncomputable def rC(hg:Gl X x)(hm:∃t,X.mg x=vd (.str i t))(hd:autoParam ((x == ("__debug__" : Str))=zd) u11):DE X (.Name x pos) (fC (.str i)):=by
 refine⟨?_⟩;obtain⟨t,hm⟩:=hm;exact pe_imp (kA (v:=.str i) hg hm ⟨t,rfl⟩ hd) (jG λ_ _=>.str i)
end
noncomputable def Ce(g:OF->Option OF)(T:Tp)(w:W):Option (W×Tp):=match view T w with
 |some x=>match g x with
  |some d=>vd (.d d,T)
  |none=>zc
 |none=>zc
noncomputable def HB(g:OF->OF->Option OF)(T:Tp)(w1 w2:W):Option (W×Tp):=match view T w1,view T w2 with
 |some x,vd y=>match g x y with
  |some d=>vd (.d d,T)
  |none=>zc
 |_,_=>zc
noncomputable def kK(e:Ce g T w1=vd (w,T')):∃x d,view T w1=vd x/\g x=vd d/\w=.d d/\T'=T:=by
 unfold Ce at e;split at e
 .split at e<;>simp_all
 .cases e
noncomputable def gE(e:HB g T w1 w2=vd (w,T')):∃x y d,view T w1=vd x/\view T w2=vd y/\g x y=vd d/\w=.d d/\T'=T:=by
 unfold HB at e;split at e
 .split at e<;>simp_all
 .cases e
def ag(g:OF->OF->Option OF)(fa fb:FE):FE:=λρ T=>Yz (fa ρ T) λw1 T1=>Yz (fb ρ T1) λw2 T2=>HB g T2 w1 w2
def Y8(g:OF->Option OF)(fa:FE):FE:=λρ T=>Yz (fa ρ T) λw1 T1=>Ce g T1 w1
def i9(K:Frag)(r:R2)(g:OF->OF->Option OF):Prop:=∀(O:Addr->Prop) (ts:List Addr) (H:Hp) (T:Tp) (v1 v2:V) (x y d:OF) (Q:VK),HC K O ts H T->Vw K O H v1 x->Vw K O H v2 y->g x y=vd d ->
 (∀v H',YB ts H H'->HC K O ts H' T->Rep K O H' v d->Q v H')->r v1 v2 H Q
def LG(K:Frag)(r:V->Hp->VK->Prop)(g:OF->Option OF):Prop:=∀(O:Addr->Prop) (ts:List Addr) (H:Hp) (T:Tp) (v1:V) (x d:OF) (Q:VK),HC K O ts H T->Vw K O H v1 x->g x=vd d ->
 (∀v H',YB ts H H'->HC K O ts H' T->Rep K O H' v d->Q v H')->r v1 H Q
def Z4(X:Cx)(f:OH->OH->Sem OH)(g:OF->OF->Option OF):Prop:=∃r,Zg X f r/\i9 X.K r g
def IxD(X:Cx)(g:OF->OF->Option OF):Prop:=∃r,FL X r/\i9 X.K r g
noncomputable def oB{K:Frag}{r:R2}{g:OF->OF->Option OF}{fa fb:FE}(snd:i9 K r g){σ:L2.St}{H:Hp}{Q:VK}(h:lift K (ag g fa fb) σ H Q):IF r (lift K fa) (lift K fb) σ H Q:=by
 obtain⟨O,ts,ρ,T,w,T',hc,re,e,q⟩:=h;obtain⟨w1,T1,e1,e⟩:=aE e;obtain⟨w2,T2,e2,e⟩:=aE e;obtain⟨x,y,d,h1,h2,h3,rfl,rfl⟩:=gE e;refine⟨O,ts,ρ,T,w1,T1,hc,re,e1,λv1 H1 s1 Yv r1=>?_⟩;refine⟨O,ts,ρ,T1,w2,T',Yv,re.mono hc s1,e2,λv2 H2 s2 YE r2=>?_⟩;exact snd O ts H2 T' v1 v2 x y d Q YE (YE.view (r1.mono Yv s2) h1) (YE.view r2 h2) h3 λv H' s3 Zf r3=>q v H' (s1.trans (s2.trans s3)) Zf r3
noncomputable def BG:W->Option Bool
 |.d (.bool b)=>vd b
 |_=>zc
def mG(h:BG w=vd b):w=.d (.bool b):=by
 unfold BG at h
 split at h<;>simp_all
def aq(f:FE):FT:=λρ T=>Yz (f ρ T) λw T1=>match BG w with
 |some b=>vd (b,T1)
 |none=>zc
noncomputable def xp{K:Frag}{f:FE}{σ:L2.St}{H:Hp}{Q:Bool->Hp->Prop}(h:liftT K (aq f) σ H Q):lift K f σ H λx H'=>∃k,x=.bl k/\Q k H':=by
 obtain⟨O,ts,ρ,T,w,T',hc,re,e,q⟩:=h;obtain⟨w1,T1,e1,e⟩:=aE e;refine⟨O,ts,ρ,T,w1,T1,hc,re,e1,λv1 H1 s1 Yv r1=>?_⟩;split at e
 .rename_i b hb
  cases e;have hw:=mG hb;subst hw;cases (r1);exact⟨_,rfl,q H1 s1 Yv⟩
 .cases e
section
variable {X:Cx}{pos:Pos}{a b c:Expr}{fa fb fc:FE}{g g':OF->OF->Option OF}
noncomputable def av(ho:Z4 X (Qq op) g)(ha:DE X a fa)(hb:DE X b fb):DE X (.BinOp a op b pos) (ag g fa fb):=by
 refine⟨?_⟩;obtain⟨r,hr,snd⟩:=ho;exact pe_imp (mL hr ha.pe hb.pe) λσ H Q=>oB snd
noncomputable def bw(ho:Z4 X (PC op) g)(ha:DE X a fa)(hb:DE X b fb)(hm:autoParam (RN op b=zd) u24):DE X (.Compare a [op] [b] pos) (ag g fa fb):=by
 refine⟨?_⟩;obtain⟨r,hr,snd⟩:=ho;exact pe_imp (ztc hr ha.pe hb.pe hm) λσ H Q=>oB snd
noncomputable def aB(ho:Z4 X (PC op) g)(ha:DE X a fa)(hb:DE X b fb)(hm:autoParam (RN op b=zd) u24):DT X (.Compare a [op] [b] pos) (aq (ag g fa fb)):=by
 refine⟨?_⟩;obtain⟨r,hr,snd⟩:=ho;exact oP (zbs hr ha.pe hb.pe hm) λσ H Q h=>oB snd (xp h)
noncomputable def bS(ho:IxD X g)(ha:DE X a fa)(hb:DE X b fb)(hs:autoParam (sv b) u25):DE X (.Subscript a b pos) (ag g fa fb):=by
 refine⟨?_⟩;obtain⟨r,hr,snd⟩:=ho;exact pe_imp (z9 hr ha.pe hb.pe hs) λσ H Q=>oB snd
noncomputable def kM(g g':OF->OF->Option OF)(fa fb fc:FE):FE:=λρ T=>Yz (fa ρ T) λw1 T1=>Yz (fb ρ T1) λw2 T2=>Yz (HB g T2 w1 w2) λw T3=>match BG w with
 |some b=>if b=xV then Yz (fc ρ T3) λw3 T4=>HB g' T4 w2 w3 else vd (.d (.bool zd),T3)
 |none=>zc
noncomputable def vO{K:Frag}{r r':R2}(snd:i9 K r g)(DV:i9 K r' g'){σ:L2.St}{H:Hp}{Q:VK}(h:lift K (kM g g' fa fb fc) σ H Q):sD r r' (lift K fa) (lift K fb) (lift K fc) σ H Q:=by
 obtain⟨O,ts,ρ,T,w,T',hc,re,e,q⟩:=h;obtain⟨w1,T1,e1,e⟩:=aE e;obtain⟨w2,T2,e2,e⟩:=aE e;obtain⟨wz,T3,e3,ez⟩:=aE e;obtain⟨x,y,d,h1,h2,h3,rfl,rfl⟩:=gE e3;clear e;refine⟨O,ts,ρ,T,w1,T1,hc,re,e1,λv1 H1 s1 Yv r1=>?_⟩;refine⟨O,ts,ρ,T1,w2,T3,Yv,re.mono hc s1,e2,λv2 H2 s2 YE r2=>?_⟩;refine snd O ts H2 T3 v1 v2 x y d _ YE (YE.view (r1.mono Yv s2) h1) (YE.view r2 h2) h3 λv H3 s3 Zf r3=>?_;split at ez
 .rename_i b hb
  have hd:=mG hb
  injection hd with hd
  subst hd;cases r3
  cases b with
  |true=>
   refine⟨xV,rfl,gU ?_⟩;obtain⟨w3,T4,e4,e5⟩:=aE ez;obtain⟨x',y',d',Bf,JF,EJ,rfl,rfl⟩:=gE e5;refine⟨O,ts,ρ,T3,w3,T',Zf,(re.mono hc (s1.trans (s2.trans s3))),e4,λv3 H4 s4 Lp r4=>?_⟩;exact DV O ts H4 T' v2 v3 x' y' d' Q Lp (Lp.view (r2.mono YE (s3.trans s4)) Bf) (Lp.view r4 JF) EJ λv H' s5 hc5 r5=>q v H' (s1.trans (s2.trans (s3.trans (s4.trans s5)))) hc5 r5
  |false=>
   cases ez;exact⟨zd,rfl,i7 (q _ H3 (s1.trans (s2.trans s3)) Zf (.bl _))⟩
 .cases ez
noncomputable def zfb(ho:Z4 X (PC op) g)(Cs:Z4 X (PC Fp) g')(ha:DE X a fa)(hb:DE X b fb)(hc:DE X c fc)
  (hm:autoParam (Wb [op,Fp] [b,c]=zd) u22):DE X (.Compare a [op,Fp] [b,c] pos) (kM g g' fa fb fc):=by
 refine⟨?_⟩;obtain⟨r,hr,snd⟩:=ho;obtain⟨r',CT,DV⟩:=Cs;exact pe_imp (zbt hr CT ha.pe hb.pe hc.pe hm) λσ H Q=>vO snd DV
noncomputable def zfc(ho:Z4 X (PC op) g)(Cs:Z4 X (PC Fp) g')(ha:DE X a fa)(hb:DE X b fb)(hc:DE X c fc)
  (hm:autoParam (Wb [op,Fp] [b,c]=zd) u22):DT X (.Compare a [op,Fp] [b,c] pos) (aq (kM g g' fa fb fc)):=by
 refine⟨?_⟩;obtain⟨r,hr,snd⟩:=ho;obtain⟨r',CT,DV⟩:=Cs;exact oP (zbu hr CT ha.pe hb.pe hc.pe hm) λσ H Q h=>vO snd DV (xp h)
noncomputable def pY:OF->Option Bool
 |.none=>vd zd
 |.bool b=>vd b
 |.int i=>vd (i != 0)
 |.str y=>if y.length<=OO then vd ((y.length:Int) != 0) else zc
 |.list xs=>vd (!xs.isEmpty)
 |.tuple xs=>vd (!xs.isEmpty)
 |.dict _=>zc
noncomputable def pZ(T:Tp)(w:W):Option (Bool×Tp):=match view T w with
 |some x=>match pY x with
  |some b=>vd (b,T)
  |none=>zc
 |none=>zc
def bq(f:FE):FT:=λρ T=>Yz (f ρ T) λw T1=>pZ T1 w
noncomputable def uG{K:Frag}{O:Addr->Prop}{H:Hp}{vs:List V}{ds:List OF}(r:Yw K O H vs ds):vs.isEmpty=ds.isEmpty:=by cases r <;> rfl
noncomputable def zfd{K:Frag}{O:Addr->Prop}{H:Hp}{v:V}{x:OF}{b:Bool}(h:Vw K O H v x)(e:pY x=vd b):ua K v H b:=by
 cases x with
 |none=>cases h.non;cases e;rfl
 |bool c=>cases h.bl;cases e;rfl
 |int i=>cases h.int;cases e;rfl
 |str y=>
  cases h.str;have e':(if y.length<=OO then vd _ else zc)=vd b:=e;split at e'
  .rename_i hl
   cases e';exact⟨hl,rfl⟩
  .cases e'
 |list xs=>
  obtain⟨a,vs,rfl,h1,h2⟩:=h.lst;cases e;exact .inl ⟨vs,h1,by rw[uG h2]⟩
 |tuple xs=>
  obtain⟨a,vs,rfl,h1,h2⟩:=h.tup;cases e;exact .inr (.inl ⟨vs,h1.sq,by rw[uG h2]⟩)
 |dict kvs=>
  cases e
noncomputable def bL(ha:DE X a fa)(he:autoParam (∀whole,WY a X.env whole=(do let v ←whole;SO a.pos;RR [v] (truthy v))) u16):DT X a (bq fa):=by
 refine⟨?_⟩;refine oP (zbx ha.pe he) λσ H Q=>?_;rintro⟨O,ts,ρ,T,b,T',hc,re,e,q⟩;obtain⟨w1,T1,e1,e⟩:=aE e;refine⟨O,ts,ρ,T,w1,T1,hc,re,e1,λv1 H1 s1 Yv r1=>?_⟩;unfold pZ at e;split at e
 .rename_i x h1
  split at e
  .rename_i k h2
   cases e;exact⟨b,zfd (Yv.view r1 h1) h2,q H1 s1 Yv⟩
  .cases e
 .cases e
def eg(f g:FT):FT:=λρ T=>Yz (f ρ T) λb T1=>if b=xV then g ρ T1 else vd (zd,T1)
def bj(f g:FT):FT:=λρ T=>Yz (f ρ T) λb T1=>if b=xV then vd (xV,T1) else g ρ T1
def dC(f:FT):FT:=λρ T=>Yz (f ρ T) λb T1=>vd (!b,T1)
variable {ta tb:FT}{rest:List Expr}
def bR(h:DW X a f):DT X a f:=⟨PW.pt h.pe⟩
def jy(ha:DT X a ta):DW X (.BoolOp .And [a] pos) ta:=⟨zaq ha.pe⟩
def cO(ha:DT X a ta):DW X (.BoolOp .Or [a] pos) ta:=⟨zar ha.pe⟩
noncomputable def jK(ha:DT X a ta)(hb:DW X (.BoolOp .And (b::rest) pos) tb):DW X (.BoolOp .And (a::b::rest) pos) (eg ta tb):=by
 refine⟨?_⟩;refine y4 (zas ha.pe hb.pe) λσ H Q=>?_;rintro⟨O,ts,ρ,T,b,T',hc,re,e,q⟩;obtain⟨b1,T1,e1,e⟩:=aE e;refine⟨O,ts,ρ,T,b1,T1,hc,re,e1,λH1 s1 Yv=>?_⟩
 cases b1 with
 |true=>exact gU ⟨O,ts,ρ,T1,b,T',Yv,re.mono hc s1,by simpa using e,λH2 s2 YE=>q H2 (s1.trans s2) YE⟩
 |false=>
  simp_all
noncomputable def bM(ha:DT X a ta)(hb:DW X (.BoolOp .Or (b::rest) pos) tb):DW X (.BoolOp .Or (a::b::rest) pos) (bj ta tb):=by
 refine⟨?_⟩;refine y4 (zat ha.pe hb.pe) λσ H Q=>?_;rintro⟨O,ts,ρ,T,b,T',hc,re,e,q⟩;obtain⟨b1,T1,e1,e⟩:=aE e;refine⟨O,ts,ρ,T,b1,T1,hc,re,e1,λH1 s1 Yv=>?_⟩
 cases b1 with
 |false=>exact i7 ⟨O,ts,ρ,T1,b,T',Yv,re.mono hc s1,by simpa using e,λH2 s2 YE=>q H2 (s1.trans s2) YE⟩
 |true=>
  simp_all
noncomputable def fu(ha:DT X a ta):DT X (.UnaryOp .Not a pos) (dC ta):=by
 refine⟨?_⟩;refine oP (zau ha.pe) λσ H Q=>?_;rintro⟨O,ts,ρ,T,b,T',hc,re,e,q⟩;obtain⟨b1,T1,e1,e⟩:=aE e;cases e;exact⟨O,ts,ρ,T,b1,T',hc,re,e1,λH1 s1 Yv=>q H1 s1 Yv⟩
noncomputable def bZ(f g:FE):FE:=λρ T=>Yz (f ρ T) λw T1=>match BG w with
 |some b=>if b=xV then g ρ T1 else vd (.d (.bool zd),T1)
 |none=>zc
noncomputable def ly(f g:FE):FE:=λρ T=>Yz (f ρ T) λw T1=>match BG w with
 |some b=>if b=xV then vd (.d (.bool xV),T1) else g ρ T1
 |none=>zc
def iW(f:FE):FE:=λρ T=>Yz (f ρ T) λw T1=>match BG w with
 |some b=>vd (.d (.bool (!b)),T1)
 |none=>zc
def cG{op}(h:DE X a fa):DE X (.BoolOp op [a] pos) fa:=⟨zso h.pe⟩
noncomputable def cw(ha:DE X a fa)(hb:DE X (.BoolOp .And (b::rest) pos) fb):DE X (.BoolOp .And (a::b::rest) pos) (bZ fa fb):=by
 refine⟨?_⟩;refine pe_imp (zsp ha.pe hb.pe) λσ H Q=>?_;rintro⟨O,ts,ρ,T,w,T',hc,re,e,q⟩;obtain⟨w1,T1,e1,e⟩:=aE e;refine⟨O,ts,ρ,T,w1,T1,hc,re,e1,λv1 H1 s1 Yv r1=>?_⟩;split at e
 .rename_i b hb
  have hw:=mG hb;subst hw;cases (show Rep X.K O H1 v1 _ from r1)
  cases b with
  |true=>exact⟨_,rfl,gU ⟨O,ts,ρ,T1,w,T',Yv,re.mono hc s1,by simpa using e,λv H2 s2 YE r2=>q v H2 (s1.trans s2) YE r2⟩⟩
  |false=>
   simp_all
 .cases e
noncomputable def pO(ha:DE X a fa)(hb:DE X (.BoolOp .Or (b::rest) pos) fb):DE X (.BoolOp .Or (a::b::rest) pos) (ly fa fb):=by
 refine⟨?_⟩;refine pe_imp (Gc ha.pe hb.pe) λσ H Q=>?_;rintro⟨O,ts,ρ,T,w,T',hc,re,e,q⟩;obtain⟨w1,T1,e1,e⟩:=aE e;refine⟨O,ts,ρ,T,w1,T1,hc,re,e1,λv1 H1 s1 Yv r1=>?_⟩;split at e
 .rename_i b hb
  have hw:=mG hb;subst hw;cases (show Rep X.K O H1 v1 _ from r1)
  cases b with
  |false=>exact⟨_,rfl,i7 ⟨O,ts,ρ,T1,w,T',Yv,re.mono hc s1,by simpa using e,λv H2 s2 YE r2=>q v H2 (s1.trans s2) YE r2⟩⟩
  |true=>
   simp_all
 .cases e
noncomputable def kQ(ha:DE X a fa):DE X (.UnaryOp .Not a pos) (iW fa):=by
 refine⟨?_⟩;refine pe_imp (zav ha.pe) λσ H Q=>?_;rintro⟨O,ts,ρ,T,w,T',hc,re,e,q⟩;obtain⟨w1,T1,e1,e⟩:=aE e;refine⟨O,ts,ρ,T,w1,T1,hc,re,e1,λv1 H1 s1 Yv r1=>?_⟩;split at e
 .rename_i b hb
  have hw:=mG hb;subst hw;cases (r1);cases e;exact⟨_,rfl,q _ H1 s1 Yv (.bl _)⟩
 .cases e
def du(c:FT)(f g:FE):FE:=λρ T=>Yz (c ρ T) λb T1=>if b=xV then f ρ T1 else g ρ T1
noncomputable def gP(hc:DT X c ta)(ha:DE X a fa)(hb:DE X b fb):DE X (.IfExp c a b pos) (du ta fa fb):=by
 refine⟨?_⟩;refine pe_imp (zaw hc.pe ha.pe hb.pe) λσ H Q=>?_;rintro⟨O,ts,ρ,T,w,T',hc,re,e,q⟩;obtain⟨b1,T1,e1,e⟩:=aE e;refine⟨O,ts,ρ,T,b1,T1,hc,re,e1,λH1 s1 Yv=>?_⟩
 cases b1 with
 |true=>exact gU ⟨O,ts,ρ,T1,w,T',Yv,re.mono hc s1,by simpa using e,λv H2 s2 YE r2=>q v H2 (s1.trans s2) YE r2⟩
 |false=>exact i7 ⟨O,ts,ρ,T1,w,T',Yv,re.mono hc s1,by simpa using e,λv H2 s2 YE r2=>q v H2 (s1.trans s2) YE r2⟩
noncomputable def zfe(hr:Gg X (unaryOp op) r)(snd:LG X.K r g1)(ha:DE X a fa):DE X (.UnaryOp op a pos) (Y8 g1 fa):=by
 refine⟨?_⟩;refine pe_imp (zbg hr ha.pe) λσ H Q=>?_;rintro⟨O,ts,ρ,T,w,T',hc,re,e,q⟩;obtain⟨w1,T1,e1,e⟩:=aE e;obtain⟨x,d,h1,h3,rfl,rfl⟩:=kK e;refine⟨O,ts,ρ,T,w1,T',hc,re,e1,λv1 H1 s1 Yv r1=>?_⟩;exact snd O ts H1 T' v1 x d Q Yv (Yv.view r1 h1) h3 λv H' s3 Zf r3=>q v H' (s1.trans s3) Zf r3
end
def ah:FA:=λ_ T=>vd ([],T)
def ae(f:FE)(g:FA):FA:=λρ T=>Yz (f ρ T) λw T1=>Yz (g ρ T1) λws T2=>vd (w::ws,T2)
noncomputable def fE:List W->Option (List OF)
 |[]=>vd []
 |.d x::r=>match fE r with
  |some xs=>vd (x::xs)
  |none=>zc
 |_::_=>zc
theorem l9{K:Frag}{O:Addr->Prop}{ts:List Addr}{H:Hp}:∀{vs:List V}{ws:List W}{xs:List OF},fX K O ts H vs ws->fE ws=vd xs->Yw K O H vs xs
 |_,[],_,.nil,e=>by cases e;exact .nil
 |_,.d x::r,xs,.cons h t,e=>by
  unfold fE at e;split at e
  .rename_i ys h2
   cases e;exact .cons h (l9 t h2)
  .cases e
 |_,.tp _::_,_,.cons _ _,e=>by cases e
 |_,.loc _::_,_,.cons _ _,e=>by cases e
noncomputable def ax(mk:List OF->OF)(f:FA):FE:=λρ T=>Yz (f ρ T) λws T1=>match fE ws with
 |some xs=>if xs.length<=1000 then vd (.d (mk xs),T1) else zc
 |none=>zc
def ou(h:n<=1000):n<=sizeLine:=OS h (by decide)
def eV(X:Cx)(f:OH)(g:List OF->Option OF):Prop:=∃r,YV X f r/\∀(O:Addr->Prop) (ts:List Addr) (H:Hp) (T:Tp) (vs:List V) (xs:List OF) (d:OF) (Q:VK),HC X.K O ts H T->JP X.K O H vs xs->g xs=vd d ->
 (∀v H',YB ts H H'->HC X.K O ts H' T->Rep X.K O H' v d->Q v H')->r vs H Q
noncomputable def YR(g:List OF->Option OF)(f:FA):FE:=λρ T=>Yz (f ρ T) λws T1=>match views T1 ws with
 |some xs=>match g xs with
  |some d=>vd (.d d,T1)
  |none=>zc
 |none=>zc
section
variable {X:Cx}{pos p:Pos}{e:Expr}{es:List Expr}{f:FE}{g:FA}
noncomputable def aw:DA X [] ah:=by
 refine⟨?_⟩;refine B0 cu λσ H Q=>?_;rintro⟨O,ts,ρ,T,w,T',hc,re,e,q⟩;cases e;exact q [] H (.refl _ _) hc .nil
noncomputable def ai(ha:DE X e f)(hr:DA X es g)(hs:autoParam (OM (e::es) X.env=(zd,eval e X.env)::OM es X.env) u12):DA X (e::es) (ae f g):=by
 refine⟨?_⟩;refine B0 (br ha.pe hr.pe hs) λσ H Q=>?_;rintro⟨O,ts,ρ,T,w,T',hc,re,e,q⟩;obtain⟨w1,T1,e1,e⟩:=aE e;obtain⟨ws,T2,e2,e⟩:=aE e;cases e;refine⟨O,ts,ρ,T,w1,T1,hc,re,e1,λv1 H1 s1 Yv r1=>?_⟩;exact⟨O,ts,ρ,T1,ws,_,Yv,re.mono hc s1,e2,λvs H2 s2 YE r2=>q _ H2 (s1.trans s2) YE (.cons (r1.mono Yv s2) r2)⟩
noncomputable def xJ(e:ax mk g ρ T=vd (w,T')):∃ws xs,g ρ T=vd (ws,T')/\fE ws=vd xs/\xs.length<=1000/\w=.d (mk xs):=by
 obtain⟨ws,T1,e1,e⟩:=aE e
 split at e<;>simp_all
noncomputable def cF{x1}(h:DA X es g):DE X (.Tuple es x1 pos) (ax .tuple g):=by
 refine⟨?_⟩;refine pe_imp (sL h.pe) λσ H Q=>?_;rintro⟨O,ts,ρ,T,w,T',hc,re,e,q⟩;obtain⟨ws,xs,e1,h1,h2,rfl⟩:=xJ e;refine⟨O,ts,ρ,T,ws,T',hc,re,e1,λvs H1 s1 Yv r1=>?_⟩;have rs:=l9 r1 h1;refine⟨ou (by rw[rs.length];exact h2),λp hp=>?_⟩;exact q _ _ (s1.trans (.new hp _)) (Yv.new hp _) (Yv.newT hp rs)
noncomputable def aY(h:DA X es g):DE X (.List es pos) (ax .list g):=by
 refine⟨?_⟩;refine pe_imp (kI h.pe) λσ H Q=>?_;rintro⟨O,ts,ρ,T,w,T',hc,re,e,q⟩;obtain⟨ws,xs,e1,h1,h2,rfl⟩:=xJ e;refine⟨O,ts,ρ,T,ws,T',hc,re,e1,λvs H1 s1 Yv r1=>?_⟩;have rs:=l9 r1 h1;refine⟨ou (by rw[rs.length];exact h2),λp hp=>?_⟩;exact q _ _ (s1.trans (.new hp _)) (Yv.new hp _) (Yv.newL hp rs)
noncomputable def zJ{K:Frag}{r:List V->Hp->VK->Prop}{gg:List OF->Option OF}(snd:∀(O:Addr->Prop) (ts:List Addr) (H:Hp) (T:Tp) (vs:List V) (xs:List OF) (d:OF) (Q:VK),HC K O ts H T->JP K O H vs xs->gg xs=vd d ->
  (∀v H',YB ts H H'->HC K O ts H' T->Rep K O H' v d->Q v H')->r vs H Q) {σ:L2.St}{H:Hp}{Q:VK} (h:lift K (YR gg g) σ H Q):Do r (mS K g) σ H Q:=by
 obtain⟨O,ts,ρ,T,w,T',hc,re,e,q⟩:=h;obtain⟨ws,T1,e1,e⟩:=aE e;refine⟨O,ts,ρ,T,ws,T1,hc,re,e1,λvs H1 s1 Yv r1=>?_⟩;split at e
 .rename_i xs h1
  split at e
  .rename_i d h2
   cases e;exact snd O ts H1 T' vs xs d Q Yv (Yv.views r1 h1) h2 λv H' s3 Zf r3=>q v H' (s1.trans s3) Zf r3
  .cases e
 .cases e
noncomputable def eJ{x:Str}{id:String}{gg:List OF->Option OF}(hc:eV X (.builtin id) gg)(hg:Gl X x)(hm:X.mg x=zc)(hv:Qy x=vd (.builtin id))(ha:DA X (e::es) g)(hn:autoParam (x≠"__name__") u11)(YU:autoParam ((x == ("__debug__" : Str))=zd) u11)
  (he:autoParam (OM (e::es) X.env=(zd,eval e X.env)::OM es X.env) u12) (Y1:autoParam ((PK pos (OM es X.env)).any (·.1)=zd) u13):DE X (.Call (.Name x p) (e::es) [] pos) (YR gg g):=by
 refine⟨?_⟩;obtain⟨r,hr,snd⟩:=hc;exact pe_imp (nX hr hg hm hv ha.pe hn YU he Y1) λσ H Q h=>zJ snd h
noncomputable def cq{x:Str}{id:String}{gg:List OF->Option OF}(hc:eV X (.type id) gg)(hg:Gl X x)(hm:X.mg x=zc)(hv:Qy x=vd (.type id))(ha:DA X (e::es) g)(hn:autoParam (x≠"__name__") u11)(YU:autoParam ((x == ("__debug__" : Str))=zd) u11)
  (he:autoParam (OM (e::es) X.env=(zd,eval e X.env)::OM es X.env) u12) (Y1:autoParam ((PK pos (OM es X.env)).any (·.1)=zd) u13):DE X (.Call (.Name x p) (e::es) [] pos) (YR gg g):=by
 refine⟨?_⟩;obtain⟨r,hr,snd⟩:=hc;exact pe_imp (ztx hr hg hm hv ha.pe hn YU he Y1) λσ H Q h=>zJ snd h
end
abbrev FI:=Yy->Tp->Option (List OF×Tp)
noncomputable def Ly(K:Frag)(tl:TE):TI:=λσ H R=>tl σ H λx H1=>(∃a xs,x=.ref a/\Zm K H1 a xs/\(xs.length<=OO->R (Bv K a) H1))\/(∃a xs,x=.ref a/\ZV K H1 a xs/\(xs.length<=OO->R (Ij K a) H1))\/(∃z,x=.str z/\R (F0 z) H1)\/∃a o kvs,x=.ref a/\H1 a=vd (.frz o (.dK kvs))/\(kvs.length<=OO->R (G8 a o kvs) H1)
noncomputable def zff(hl:PE X l tl):PI X tg l (Ly X.K tl):=by
 intro pins s σ H R I h;refine YF (hl pins s σ H _ I h) λv s1 ⟨x,H1,I1,r1,q1⟩=>?_
 have fk:∀b∈[s1.heap.objs.size],eF X pins H1 b:=λb hb=>by
  have e:b=s1.heap.objs.size:=by simpa using hb
  subst e;exact I1.fpOk (Pc _) (I1.hok.fresh (Pc _))
 rcases q1 with⟨a,xs,e,hq,q⟩|⟨a,xs,e,hq,q⟩|⟨z,e,q⟩|⟨a,o,kvs,e,hq,q⟩
 .subst e
  cases r1;obtain⟨Yu,rv,p,hz⟩:=I1.list hq;refine TL p.isList ?_;exact⟨s1.heap.objs.size,[s1.heap.objs.size],_,_,H1,rfl,I1.kept (t':=s1.toks) λb o e=>OK _ e,zaz a _,⟨_,Pm _ rfl,rfl,rfl⟩,fk,q hz⟩
 .subst e
  cases r1;obtain⟨Yu,rv,p,hz⟩:=I1.tuple hq;refine wpAny_pyIter_tuple (show s1.heap.IsTuple a Yu.toArray from p) ?_;exact⟨s1.heap.objs.size,[s1.heap.objs.size],_,_,H1,rfl,I1.kept (t':=s1.toks) λb o e=>OK _ e,zba a _,⟨_,Pm _ rfl,rfl,rfl⟩,fk,q hz⟩
 .subst e
  obtain⟨t,rfl⟩:=r1
  cases ha:z.cps.all (· < 128) with
  |false=>
   refine wpAny_pyIter_wide ha ?_;exact⟨s1.heap.objs.size,[s1.heap.objs.size],_,_,H1,rfl,I1.kept (t':=s1.toks) λb o e=>OK _ e,vY z t "str_iterator" _ (.inr rfl),⟨_,Pm _ rfl,rfl,rfl⟩,fk,q⟩
  |true=>
   refine wpAny_pyIter_ascii ha ?_;exact⟨s1.heap.objs.size,[s1.heap.objs.size],_,_,H1,rfl,I1.kept (t':=s1.toks) λb o e=>OK _ e,vY z t "str_ascii_iterator" _ (.inl rfl),⟨_,Pm _ rfl,rfl,rfl⟩,fk,q⟩
 .subst e
  cases r1;obtain⟨z,y,vs,kv,dd⟩:=qI I1.hok hq;refine wpAny_pyIter_dict y dd ?_;exact⟨s1.heap.objs.size,[s1.heap.objs.size],_,_,H1,rfl,I1.kept (t':=s1.toks) λb o e=>OK _ e,zex a _ o kvs,⟨_,Pm _ rfl,rfl,by rw[kv.length];rfl⟩,fk,q z⟩
def ZX(K:Frag)(O:Addr->Prop)(H1:Hp)(J:It)(ds:List OF):Prop:=∀O' H',Le O H1 O' H'->(∀i,i<ds.length->J.go i H')/\J.stop ds.length H'/\∀i v EK,J.yld i H' v EK->i<ds.length->EK=H'/\∃d,ds[i]? = vd d/\Rep K O' H' v d
inductive Kh(K:Frag)(f:FI)(σ:L2.St)(H:Hp)(R:It->Hp->Prop):Prop where
 |mk (O:Addr->Prop) (ts:List Addr) (ρ:Yy) (T:Tp) (ds:List OF) (T':Tp) (hc:HC K O ts H T) (re:Zj K O ts H σ ρ) (e:f ρ T=vd (ds,T')) (q:∀J H1,YB ts H H1->HC K O ts H1 T'->ZX K O H1 J ds->ds.length<=OO->R J H1):Kh K f σ H R
def Ad(K:Frag)(f:FI):TI:=λσ H R=>Kh K f σ H R
structure DI(X:Cx)(tg e:Expr)(f:FI):Prop where
 pe:PI X tg e (Ad X.K f)
noncomputable def y9(h:PI X tg e t)(i:∀σ H Q,t' σ H Q->t σ H Q):PI X tg e t':=λpins s σ H Q I q=>h pins s σ H Q I (i σ H Q q)
def signs(z:Str):List PyData:=z.cps.toList.map λc=>.str ⟨#[c]⟩
noncomputable def jH:OF->Option (List OF)
 |.list xs=>vd xs
 |.tuple xs=>vd xs
 |.str z=>if z.length<=OO then vd (signs z) else zc
 |.dict ds=>vd (ds.map (·.1))
 |_=>zc
noncomputable def cQ(f:FE):FI:=λρ T=>Yz (f ρ T) λw T1=>match w with
 |.d x=>match jH x with
  |some xs=>vd (xs,T1)
  |none=>zc
 |_=>zc
def ZX.lst{K:Frag}{O:Addr->Prop}{H1:Hp}{a:Addr}{vs:List V}{ds:List OF}(h:LstAt K O H1 a vs)(r:Yw K O H1 vs ds):ZX K O H1 (Bv K a) ds:=λO' H' le=>by
 have sq:=(h.mono le).sq;have hl:=r.length;refine⟨λi hi=>⟨vs,vs[i]'(by lia),sq,by simp⟩,⟨vs,sq,by lia⟩,λi v EK y hi=>?_⟩;obtain⟨e,y⟩:=y;obtain⟨d,h1,h2⟩:=r.get (y vs sq);exact⟨e,d,h1,h2.mono le⟩
def ZX.tup{K:Frag}{O:Addr->Prop}{H1:Hp}{a:Addr}{vs:List V}{ds:List OF}(h:TupAt K O H1 a vs)(r:Yw K O H1 vs ds):ZX K O H1 (Ij K a) ds:=λO' H' le=>by
 have sq:=(h.mono le).sq;have hl:=r.length;refine⟨λi hi=>⟨vs,vs[i]'(by omega),sq,by simp⟩,⟨vs,sq,by omega⟩,λi v EK y hi=>?_⟩;obtain⟨e,y⟩:=y;obtain⟨d,h1,h2⟩:=r.get (y vs sq);exact⟨e,d,h1,h2.mono le⟩
theorem ZX.str{K:Frag}{O:Addr->Prop}{H1:Hp}{z:Str}:ZX K O H1 (F0 z) (signs z):=λO' H' le=>by
 have hl:(signs z).length=z.cps.size:=by simp[signs]
 refine⟨λi hi=>by rw[hl] at hi;exact hi,by rw[hl];exact Pc _,λi v EK y hi=>?_⟩;obtain⟨e,c,hc,y⟩:=y;subst y;refine⟨e,.str _,?_,.str _⟩
 unfold signs<;>simp_all
theorem qD{K:Frag}{O:Addr->Prop}{H:Hp}:∀{kvs:List (Key×V)}{ds:List (OF×OF)},YN K O H kvs ds->kvs.length=ds.length
 |_,_,.nil=>rfl
 |_,_,.cons _ t=>congrArg _ (qD t)
theorem wm{K:Frag}{O:Addr->Prop}{H:Hp}:∀{kvs:List (Key×V)}{ds:List (OF×OF)}{i:Nat}{k:Key}{v:V},YN K O H kvs ds->kvs[i]? = vd (k,v)->(ds.map (·.1))[i]? = vd (ni k)
 |_,_,_,_,_,.nil,e=>by simp at e
 |_,_,0,_,_,.cons r _,e=>by simp at e;obtain⟨rfl,rfl⟩:=e;rfl
 |_,_,i+1,k,v,.cons _ t,e=>by
  have:=wm  t (by simpa using e)<;>simp_all
noncomputable def zfg{K:Frag}{O:Addr->Prop}{H:Hp}(k:Key):Rep K O H (kV k) (ni k):=by
 cases k with
 |inl i=>exact .int i
 |inr x=>exact .str x
def ZX.dct{K:Frag}{O:Addr->Prop}{H1:Hp}{a:Addr}{o:Obj}{kvs:List (Key×V)}{ds:List (OF×OF)}(n:¬O a)(h:H1 a=vd (.frz o (.dK kvs)))(r:YN K O H1 kvs ds):ZX K O H1 (G8 a o kvs) (ds.map (·.1)):=λO' H' le=>by
 have h':=(le a _ n h).2;have hl:=qD r;refine⟨λi hi=>⟨h',by simp_all⟩,⟨h',by simp[hl]⟩,λi v EK y hi=>?_⟩;obtain⟨e,k,v0,y1,y2⟩:=y;subst y2;exact⟨e,_,wm r y1,zfg k⟩
noncomputable def dN(h:DE X e f):DI X tg e (cQ f):=by
 refine⟨?_⟩;refine y9 (zff h.pe) λσ H R=>?_;rintro⟨O,ts,ρ,T,ds,T',hc,re,e,q⟩;obtain⟨w1,T1,e1,e⟩:=aE e;refine⟨O,ts,ρ,T,w1,T1,hc,re,e1,λv1 H1 s1 Yv r1=>?_⟩;split at e
 .rename_i x
  split at e
  .rename_i xs h1
   cases e;have rr:Rep X.K O H1 v1 x:=r1
   cases x with
   |list ys=>
    cases h1
    cases rr with
    |lst t r=>exact .inl ⟨_,_,rfl,t.sq,λhz=>q _ H1 s1 Yv (.lst t r) (by rw[←r.length];exact hz)⟩
   |tuple ys=>
    cases h1
    cases rr with
    |tup t r=>exact .inr (.inl ⟨_,_,rfl,t.sq,λhz=>q _ H1 s1 Yv (.tup t r) (by rw[←r.length];exact hz)⟩)
   |str z=>
    have Bf:(if z.length<=OO then vd (signs z) else zc)=vd _:=h1;split at Bf
    .rename_i hz
     cases Bf;cases rr;exact .inr (.inr (.inl ⟨z,rfl,q _ H1 s1 Yv .str (by rw[show (signs z).length=z.cps.size by simp[signs]];exact hz)⟩))
    .cases Bf
   |dict ys=>
    cases h1
    cases rr with
    |dct n t r=>exact .inr (.inr (.inr ⟨_,_,_,rfl,t,λhz=>q _ H1 s1 Yv (.dct n t r) (by rw[PV,←qD r];exact hz)⟩))
   |_=>cases h1
  .cases e
 .cases e
def bA(lo:Int)(n:Nat):List PyData:=(PY n).map λ(i:Nat)=>.int (lo+(i:Int))
def ZX.rng{K:Frag}{O:Addr->Prop}{H1:Hp}{lo:Int}{n:Nat}:ZX K O H1 (DG lo n) (bA lo n):=λO' H' le=>by
 have hl:(bA lo n).length=n:=by simp[bA]
 refine⟨λi hi=>by rw[hl] at hi;exact hi,by rw[hl];exact Pc _,λi v EK y hi=>?_⟩;obtain⟨e,y⟩:=y;subst y;rw[hl] at hi;exact⟨e,.int _,by simp[bA,hi],.int _⟩
def jM(j:Int):Bool:=decide (-1000000<=j/\j<=16777216)
noncomputable def zfh(h:jM j=xV) : -(2^62)<=j/\j<2^62/\j.toNat<=sizeLine:=by
 have h':=of_decide_eq_true h;have e:OO=16777216:=rfl
 lia
noncomputable def cK(f:FE):FI:=λρ T=>Yz (f ρ T) λw T1=>match w with
 |.d (.int j)=>if jM j=xV then vd (bA 0 j.toNat,T1) else zc
 |_=>zc
noncomputable def di(hg:Gl X "range")(hm:X.mg "range"=zc)(ha:DE X a f)(hs:OM [a] X.env=[(zd,eval a X.env)]:=by exact v5 rfl):DI X tg (.Call (.Name "range" p) [a] [] pos) (cK f):=by
 refine⟨?_⟩;refine y9 (zbd  hg hm (br ha.pe cu (by rw[hs];rfl)) hs) λσ H R=>?_;rintro⟨O,ts,ρ,T,ds,T',hc,re,e,q⟩;obtain⟨w1,T1,e1,e⟩:=aE e;refine⟨O,ts,ρ,T,w1,T1,hc,re,e1,λv1 H1 s1 Yv r1=>?_⟩;split at e
 .rename_i j
  split at e
  .rename_i h1
   cases e;cases (r1);obtain⟨b1,b2,b3⟩:=zfh h1;exact⟨j,rfl,b1,b2,q _ H1 s1 Yv .rng (by simpa[bA] using b3)⟩
  .cases e
 .cases e
noncomputable def bI(c:FT)(e:FE)(ρ:Yy):List OF->Tp->Option (List OF×Tp)
 |[],T=>vd ([],T)
 |d::r,T=>Yz (c (vd (.d d)::ρ) T) λb T1=>if b=xV then Yz (e (vd (.d d)::ρ) T1) λw T2=>match w with
   |.d y=>Yz (bI c e ρ r T2) λys T3=>vd (y::ys,T3)
   |_=>zc
  else bI c e ρ r T1
def bH(it:FI)(c:FT)(e:FE):FE:=λρ T=>Yz (it ρ T) λds T1=>Yz (bI c e ρ ds T1) λys T2=>vd (.d (.list ys),T2)
def bB:FT:=λ_ T=>vd (xV,T)
def Zj.cons{K:Frag}{O:Addr->Prop}{ts:List Addr}{H:Hp}{σ:L2.St}{ρ:Yy}{v:V}{d:OF}(re:Zj K O ts H σ ρ)(r:Rep K O H v d):Zj K O ts H (vd v::σ) (vd (.d d)::ρ):=λi w e=>by
 cases i with
 |zero=>cases e;exact⟨v,rfl,r⟩
 |succ i=>
  obtain⟨u,h1,h2⟩:=re i w (by simpa using e);exact⟨u,by simpa using h1,h2⟩
theorem Zj.conss{K:Frag}{O:Addr->Prop}{ts:List Addr}{H:Hp}{σ:L2.St}{ρ:Yy}(re:Zj K O ts H σ ρ):∀{vs:List V}{ds:List OF},Yw K O H vs ds->Zj K O ts H (vs.map vd++σ) (ds.map (λd=>vd (.d d))++ρ)
 |_,_,.nil=>re
 |_,_,.cons r rs=>(re.conss rs).cons r
noncomputable def iY(u:OF->Option (List OF))(c:FT)(e:FE)(ρ:Yy):List OF->Tp->Option (List OF×Tp)
 |[],T=>vd ([],T)
 |d::r,T=>match u d with
  |none=>zc
  |some ps=>Yz (c (ps.map (λd=>vd (.d d))++ρ) T) λk T1=>if k=xV then Yz (e (ps.map (λd=>vd (.d d))++ρ) T1) λw T2=>match w with
   |.d y=>Yz (iY u c e ρ r T2) λys T3=>vd (y::ys,T3)
   |_=>zc
  else iY u c e ρ r T1
noncomputable def zfi{K:Frag}{O:Addr->Prop}{ts:List Addr}{H1:Hp}{σ:L2.St}{ρ:Yy}{J:It}{c:FT}{e:FE}{ds ys:List OF}{T1 T2:Tp}{Dn:List V->Hp->Prop}{u:OF->Option (List OF)}{n:Nat}{g:TG}(hc:HC K O ts H1 T1)(re:Zj K O ts H1 σ ρ)(ok:ZX K O H1 J ds)(hz:ds.length<=OO)
  (hg:∀v d ps H Im Q,Rep K O H v d->u d=vd ps->Im.length=n->(∀vs,Yw K O H vs ps->vs.length=n->Q (vs.map vd++σ) H)->g v (Im++σ) H Q)
  (ee:iY u c e ρ ds T1=vd (ys,T2)) (q:∀vs H',YB ts H1 H'->HC K O ts H' T2->Yw K O H' vs ys->Dn vs H') :
  ∃W:Nat->Nat->List V->Hp->Prop,(∃m,W 0 m [] H1)/\kT n g σ J (liftT K c) (lift K e) W Dn:=by
 refine⟨λi m vs H'=>m=ds.length-i/\i<=ds.length/\vs.length<=i/\∃T dn rs,YB ts H1 H'/\HC K O ts H' T/\Yw K O H' vs dn/\iY u c e ρ (ds.drop i) T=vd (rs,T2)/\ys=dn++rs,⟨_,rfl,Ri _,Pc _,T1,[],ys,.refl _ _,hc,.nil,ee,rfl⟩,?_⟩;rintro i m vs H' ⟨rfl,hi,hv,T,dn,rs,s1,Yv,rv,ec,ey⟩;obtain⟨k1,k2,k3⟩:=ok O H' (hc.le s1)
 by_cases Z2:i<ds.length
 .refine .inr ⟨k1 i Z2,by lia,λGI H2=>i+1<=ds.length/\GI.length<=i+1/\∃T dn rs,YB ts H1 H2/\HC K O ts H2 T/\Yw K O H2 GI dn/\iY u c e ρ (ds.drop (i+1)) T=vd (rs,T2)/\ys=dn++rs,λGI H2 n=>⟨ds.length-(i+1),by lia,rfl,n⟩,λv H2 y Im hσ=>?_⟩
  obtain⟨e2,d,hd,rd⟩:=k3 i v H2 y Z2;subst e2;rw[Qc Z2,(OL.mp hd).2,iY] at ec;split at ec
  .cases ec
  rename_i ps hp;refine hg v d ps H2 Im _ rd hp hσ λus ru hu=>⟨⟨us.map vd,by simpa using hu,rfl⟩,?_⟩;obtain⟨b,T3,e3,ec⟩:=aE ec;have JS:=(re.mono hc s1).conss ru;refine⟨O,ts,_,T,b,T3,Yv,JS,e3,λH3 s3 Zf=>?_⟩
  cases b with
  |false=>
   rw[if_neg Ph] at ec;exact i7 ⟨Z2,by lia,T3,dn,rs,s1.trans s3,Zf,rv.mono (Yv.le s3),ec,ey⟩
  |true=>
   rw[if_pos rfl] at ec;obtain⟨w,T4,e4,ec⟩:=aE ec;refine gU ⟨O,ts,_,T3,w,T4,Zf,JS.mono Yv s3,e4,λu H4 s4 Lp r4=>?_⟩;split at ec
   .rename_i y
    obtain⟨zs,T5,e5,ec⟩:=aE ec;cases ec;exact⟨Z2,by simp_all,T4,dn++[y],zs,s1.trans (s3.trans s4),Lp,(rv.mono (Yv.le (s3.trans s4))).append (.cons r4 .nil),e5,by rw[ey];simp⟩
   .cases ec
 .have e:i=ds.length:=by lia
  subst e;rw[PR (Pc _)] at ec;cases ec;rw[Qu] at ey;subst ey;exact .inl ⟨k2,by lia,q vs H' s1 Yv rv⟩
theorem yA:∀{l:List OF}{T:Tp},bI c e ρ l T=iY (λd=>vd [d]) c e ρ l T
 |[],_=>rfl
 |_::r,_=>by simp only[bI,iY,yA (l:=r)];rfl
noncomputable def yz{K:Frag}{O:Addr->Prop}{ts:List Addr}{H1:Hp}{σ:L2.St}{ρ:Yy}{J:It}{c:FT}{e:FE}{ds ys:List OF}{T1 T2:Tp}{Dn:List V->Hp->Prop}(hc:HC K O ts H1 T1)(re:Zj K O ts H1 σ ρ)(ok:ZX K O H1 J ds)(hz:ds.length<=OO)
  (ee:bI c e ρ ds T1=vd (ys,T2)) (q:∀vs H',YB ts H1 H'->HC K O ts H' T2->Yw K O H' vs ys->Dn vs H') :
  ∃W:Nat->Nat->List V->Hp->Prop,(∃m,W 0 m [] H1)/\kT 1 (jR 0) σ J (liftT K c) (lift K e) W Dn:=zfi hc re ok hz (λv d ps H Im Q r e h z=>by cases e;match Im,h with | [_],_=>exact z [v] (.cons r .nil) rfl) (yA ▸ ee) q
structure DR(X:Cx)(es:List Expr)(f:FT):Prop where
 pe:Dy X es (liftT X.K f)
noncomputable def se:DR X [] bB:=⟨λpins s σ H Q E I h=>by
 refine xO pins s σ H Q E I ?_;obtain⟨O,ts,ρ,T,w,T',hc,re,e,q⟩:=h;cases e
 exact q H (.refl _ _) hc⟩
def ym(hx:X.xe=λ_ _=>False)(h:DT X c f):DR X [c] f:=⟨zeh hx h.pe⟩
noncomputable def zfj(S:CS osc N x scope N')(hi:DI X (.Name x px) iter it)
  (he:∀C s0 H0 ex,DE (cA X x scope C s0 H0 ex N') elt f) (ht:∀C s0 H0 ex,DR (cA X x scope C s0 H0 ex N') ifs c) (hc:autoParam (X.calm=xV) u10) (hs:autoParam (X.env.scope=osc) u10) (hN:autoParam (X.N=N) u10)
  (hf:autoParam (∀v,PN iter X.env v=pure v) u16):DE X (.ListComp elt [⟨.Name x px,iter,ifs,0⟩] scope pos) (bH it c f):=by
 refine⟨?_⟩;refine pe_imp (zes  (tt:=liftT X.K c) (te:=lift X.K f) S hi.pe (λC s0 H0 ex=>(he C s0 H0 ex).pe) (λC s0 H0 ex=>(ht C s0 H0 ex).pe) hc hs hN hf) λσ H Q=>?_;rintro⟨O,ts,ρ,T,w,T',hc,re,e,q⟩;obtain⟨ds,T1,e1,e⟩:=aE e;obtain⟨ys,T2,e2,e⟩:=aE e;cases e;refine⟨O,ts,ρ,T,ds,T1,hc,re,e1,λJ H1 s1 Yv ok hz=>?_⟩;exact yz Yv (re.mono hc s1) ok hz e2 λvs H' s2 YE r2 p hp=>q _ _ (s1.trans (s2.trans (.new hp _))) (YE.new hp _) (YE.newL hp r2)
inductive Fl where
 |nx|rt (x:OF)|ro (x:OF)|bk|ct
abbrev FS:=Yy->Tp->Option ((Fl×Yy)×Tp)
structure RS(K:Frag)(ze:Addr->Prop)(H₀:Hp)(F:List ((Addr->Prop)×Hp))(ts:List Addr)(O:Addr->Prop)(H:Hp)(σ:L2.St)(ρ:Yy)(T:Tp):Prop where
 hc:HC K O ts H T
 re:Zj K O ts H σ ρ
 sub:∀b,ze b->O b
 ots:∀b∈ts,ze b
 same:YB ts H₀ H
 fresh:∀(i:Nat) (xs:OF) (a:Addr),ρ[i]? = vd (vd (.loc xs))->σ[i]? = vd (vd (.ref a))->H₀ a=zc/\¬ze a
 dist:∀(i j:Nat) (xs ys:OF) (v:V),ρ[i]? = vd (vd (.loc xs))->ρ[j]? = vd (vd (.loc ys))->σ[i]? = vd (vd v)->σ[j]? = vd (vd v)->i=j
 frs:∀f∈F,Le f.1 f.2 O H
 len:σ.length=ρ.length
noncomputable def Ie(K:Frag)(O A:Addr->Prop)(H:Hp)(v:V):OF->Prop
 |.tuple [x,y]=>∃p a b,v=.ref p/\a≠b/\(∀c,A c↔c=a\/c=b)/\¬O p/\H p=vd (.tup [.ref a,.ref b])/\Zt K O H a x/\Zt K O H b y
 |.none=>v=.non/\∀c,¬A c
 |x=>∃a,v=.ref a/\(∀c,A c↔c=a)/\Zt K O H a x
theorem Ie.mono{K:Frag}{O O' A:Addr->Prop}{H:Hp}{v:V}{x:OF}(le:Le O H O' H)(h:Ie K O A H v x):Ie K O' A H v x:=by
 unfold Ie at h ⊢;split at h
 .obtain⟨p,a,b,e1,e2,e3,np,hp,oa,ob⟩:=h
  exact⟨p,a,b,e1,e2,e3,(le p _ np hp).1,hp,oa.mono (λ_ h=>h) le,ob.mono (λ_ h=>h) le⟩
 .exact h
 .obtain⟨a,e,hA,oa⟩:=h
  exact⟨a,e,hA,oa.mono (λ_ h=>h) le⟩
noncomputable def Ay(K:Frag)(ze:Addr->Prop)(H₀:Hp)(F:List ((Addr->Prop)×Hp))(ts:List Addr)(D:Ends)(ρ':Yy)(T':Tp):Fl->Prop
 |.nx=>∀O' σ' H',RS K ze H₀ F ts O' H' σ' ρ' T'->D.nx σ' H'
 |.bk=>∀O' σ' H',RS K ze H₀ F ts O' H' σ' ρ' T'->D.bk σ' H'
 |.ct=>∀O' σ' H',RS K ze H₀ F ts O' H' σ' ρ' T'->D.ct σ' H'
 |.rt x=>∀v H',YB ts H₀ H'->HC K ze ts H' T'->Rep K ze H' v x->D.rt v H'
 |.ro x=>∀(A:Addr->Prop) v H',YB ts H₀ H'->(∀b,A b->H₀ b=zc/\¬ze b)->HC K (λb=>ze b\/A b) ts H' T'->Ie K (λb=>ze b\/A b) A H' v x->D.rt v H'
inductive Em(K:Frag)(f:FS)(D:Ends)(σ:L2.St)(H:Hp):Prop where
 |mk (ze:Addr->Prop) (H₀:Hp) (F:List ((Addr->Prop)×Hp)) (ts:List Addr) (O:Addr->Prop) (ρ:Yy) (T:Tp) (fl:Fl) (ρ':Yy) (T':Tp) (rs:RS K ze H₀ F ts O H σ ρ T) (e:f ρ T=vd ((fl,ρ'),T')) (q:Ay K ze H₀ F ts D ρ' T' fl):Em K f D σ H
def tE(K:Frag)(f:FS):TS:=λD σ H=>Em K f D σ H
structure DS(X:Cx)(s:Stmt)(f:FS):Prop where
 pe:PS X s (tE X.K f)
structure Z7(X:Cx)(s:List Stmt)(f:FS):Prop where
 pe:Ii X s (tE X.K f)
def dj(h:PS X e t)(i:∀D σ H,t' D σ H->t D σ H):PS X e t':=λpins s σ H D I q=>h pins s σ H D I (i D σ H q)
def fO(h:Ii X e t)(i:∀D σ H,t' D σ H->t D σ H):Ii X e t':=λpins s σ H D I q=>h pins s σ H D I (i D σ H q)
section
variable {K:Frag}{ze:Addr->Prop}{H₀:Hp}{F:List ((Addr->Prop)×Hp)}{ts:List Addr}{O:Addr->Prop}{H H1:Hp}{σ:L2.St}{ρ:Yy}{T T1:Tp}
def RS.step(r:RS K ze H₀ F ts O H σ ρ T)(s:YB ts H H1)(c:HC K O ts H1 T1):RS K ze H₀ F ts O H1 σ ρ T1 where
 hc:=c
 re:=r.re.mono r.hc s
 sub:=r.sub
 ots:=r.ots
 same:=r.same.trans s
 fresh:=r.fresh
 dist:=r.dist
 frs:=λf hf=>(r.frs f hf).trans (r.hc.le s)
 len:=r.len
noncomputable def eK{i j:Nat}{w:W}{xs:OF}(hw:∀ys,w≠.loc ys)(e:(ρ.set i (vd w))[j]? = vd (vd (.loc xs))):j≠i/\ρ[j]? = vd (vd (.loc xs)):=by
 by_cases z:i=j
 .subst z
  rw[Ui] at e<;>simp_all
 .rw[OR z] at e
  exact⟨λq=>z q.symm,e⟩
theorem RS.set{i:Nat}{v:V}{w:W}(r:RS K ze H₀ F ts O H σ ρ T)(Zc:ZJ K O ts H v w)(hw:∀ys,w≠.loc ys):RS K ze H₀ F ts O H (σ.set i (vd v)) (ρ.set i (vd w)) T where
 hc:=r.hc
 re:=λj u e=>by
  by_cases z:i=j
  .subst z
   have hl:=by
    have:=(OL.mp e).1;simpa using this
   rw[OX hl] at e;cases e;exact⟨v,by rw[OX (by rw[r.len];exact hl)],Zc⟩
  .rw[OR z] at e
   obtain⟨x,h1,h2⟩:=r.re j u e<;>simp_all
 sub:=r.sub
 ots:=r.ots
 same:=r.same
 fresh:=λj xs a e1 e2=>by
  obtain⟨n,e⟩:=eK hw e1;rw[OR (QP n)] at e2;exact r.fresh j xs a e e2
 dist:=λj k xs ys u e1 e2 e3 e4=>by
  obtain⟨n1,e1⟩:=eK hw e1;obtain⟨n2,e2⟩:=eK hw e2;rw[OR (QP n1)] at e3;rw[OR (QP n2)] at e4;exact r.dist j k xs ys u e1 e2 e3 e4
 frs:=r.frs
 len:=by simp[r.len]
def RS.ownO(r:RS K ze H₀ F ts O H σ ρ T)(hp:H p=zc)(hm:Kt (vd o))(rv:Le O H (λb=>O b\/b=p) (upd H p o)->Zt K (λb=>O b\/b=p) (upd H p o) p xs):RS K ze H₀ F ts (λb=>O b\/b=p) (upd H p o) (σ.set i (vd (.ref p))) (ρ.set i (vd (.loc xs))) T:=by
 have le:Le O H (λb=>O b\/b=p) (upd H p o):=λa o n e=>by
  have z:a≠p:=bx e hp;exact⟨λq=>q.elim n z,by rw[aJ z];exact e⟩
 have h0:∀{G:Hp},YB ts G H->p∉ts->G p=zc:=λ{G} s nt=>by
  cases e:G p with
  |none=>rfl
  |some o=>rw[s p o nt e] at hp;cases hp
 have nO:=r.hc.fresh hp;have nt:p∉ts:=λz=>nO (r.hc.own p z)
 have old:∀{j:Nat}{v:V}{w:W},σ[j]? = vd (vd v)->ZJ K O ts H v w->ZJ K (λb=>O b\/b=p) ts (upd H p o) v w:=λ{j v w} e q=>by
  cases w with
  |d x=>exact Rep.mono le q
  |tp k=>exact q
  |loc ys=>
   obtain⟨a,e1,h1,h2,h3⟩:=q;exact⟨a,e1,.inl h1,h2,h3.mono (λo' q=>by rw[aJ (bx q hp)];exact q) le⟩
 have Ka:∀{j:Nat}{ys:OF},ρ[j]? = vd (vd (.loc ys))->σ[j]? = vd (vd (.ref p))->False:=λ{j ys} e1 e2=>by
  obtain⟨v,h1,a,ea,h2,h3,h4⟩:=r.re j _ e1;rw[e2] at h1;cases h1;cases ea;obtain⟨o',h5⟩:=h4.some;rw[hp] at h5;cases h5
 refine⟨⟨λb hb=>.inl (r.hc.own b hb),λb hb=>?_,r.hc.nd,r.hc.len,λj a ys e1 e2=>?_⟩,λj w e=>?_,λb hb=>.inl (r.sub b hb),r.ots,r.same.trans (.new hp _),λj ys a e1 e2=>?_,λj k ys zs v e1 e2 e3 e4=>?_,λf hf=>(r.frs f hf).trans le,by simp[r.len]⟩
 .by_cases z:b=p
  .subst z;rw[bg];exact hm
  .rw[aJ z]
   exact r.hc.trk b (hb.resolve_right z)
 .exact(r.hc.tape j a ys e1 e2).mono (λo' h1=>by rw[aJ (bx h1 hp)];exact h1) le
 .by_cases z:i=j
  .subst z
   have hl:i<ρ.length:=by
    have:=(OL.mp e).1;simpa using this
   rw[OX hl] at e;cases e;exact⟨.ref p,by rw[OX (by rw[r.len];exact hl)],p,rfl,.inr rfl,nt,rv le⟩
  .rw[OR z] at e
   obtain⟨x,h1,h2⟩:=r.re j w e;exact⟨x,by rw[OR z];exact h1,old h1 h2⟩
 .by_cases z:i=j
  .subst z
   have hl:i<ρ.length:=by
    have:=(OL.mp e1).1;simpa using this
   rw[OX (by rw[r.len];exact hl)] at e2;cases e2;exact⟨h0 r.same nt,λq=>nO (r.sub _ q)⟩
  .rw[OR z] at e1 e2
   exact r.fresh j ys a e1 e2
 .by_cases z:i=j
  .by_cases z':i=k
   .rw[←z,←z']
   .exfalso
    subst z
    have hl:i<ρ.length:=by
     have:=(OL.mp e1).1;simpa using this
    rw[OX (by rw[r.len];exact hl)] at e3;cases e3;rw[OR z'] at e2 e4;exact Ka e2 e4
  .by_cases z':i=k
   .exfalso
    subst z'
    have hl:i<ρ.length:=by
     have:=(OL.mp e2).1;simpa using this
    rw[OX (by rw[r.len];exact hl)] at e4;cases e4;rw[OR z] at e1 e3;exact Ka e1 e3
   .rw[OR z] at e1 e3
    rw[OR z'] at e2 e4;exact r.dist j k ys zs v e1 e2 e3 e4
def RS.own(r:RS K ze H₀ F ts O H σ ρ T)(hp:H p=zc)(rv:Yw K O H vs xs):RS K ze H₀ F ts (λb=>O b\/b=p) (upd H p (.lst vs)) (σ.set i (vd (.ref p))) (ρ.set i (vd (.loc (.list xs)))) T:=r.ownO hp (.inl ⟨_,rfl⟩) λle=>⟨vs,bg,rv.mono le⟩
def RS.putO(r:RS K ze H₀ F ts O H σ ρ T)(e1:ρ[i]? = vd (vd (.loc xs)))(e2:σ[i]? = vd (vd (.ref a)))(hm:Kt (vd o))(rv:Le O H O (upd H a o)->Zt K O (upd H a o) a ys):RS K ze H₀ F ts O (upd H a o) σ (ρ.set i (vd (.loc ys))) T:=by
 obtain⟨v,z1,a',ea,oa,nt,ha⟩:=r.re i _ e1;rw[e2] at z1;cases z1;cases ea;have hl:i<ρ.length:=(OL.mp e1).1;obtain⟨f1,f2⟩:=r.fresh i xs a e1 e2;have le:Le O H O (upd H a o):=λb o n e=>⟨n,by rw[aJ (show b≠a from λz=>n (by simp_all))];exact e⟩
 have back:∀{j:Nat}{zs:OF},(ρ.set i (vd (W.loc ys)))[j]? = vd (vd (.loc zs))->∃ws,ρ[j]? = vd (vd (.loc ws)):=λ{j zs} e=>by
  by_cases z:i=j
  .subst z;exact⟨xs,e1⟩
  .simp_all
 refine⟨⟨r.hc.own,λb hb=>?_,r.hc.nd,r.hc.len,λj b zs q1 q2=>?_⟩,λj w e=>?_,r.sub,r.ots,λb o n e=>?_,λj zs b q1 q2=>?_,λj k zs zs' v q1 q2 q3 q4=>?_,λf hf=>(r.frs f hf).trans le,by simp[r.len]⟩
 .by_cases z:b=a
  .subst z;rw[bg];exact hm
  .rw[aJ z];exact r.hc.trk b hb
 .exact(r.hc.tape j b zs q1 q2).mono (λo' h1=>by rw[aJ (show b≠a from λz=>nt (by rw[←z];exact Px q1))];exact h1) le
 .by_cases z:i=j
  .subst z
   rw[OX hl] at e;cases e;exact⟨.ref a,e2,a,rfl,oa,nt,rv le⟩
  .rw[OR z] at e
   obtain⟨x,h1,h2⟩:=r.re j w e;refine⟨x,h1,?_⟩
   cases w with
   |d x=>exact Rep.mono le h2
   |tp k=>exact h2
   |loc zs=>
    obtain⟨b,eb,k1,k2,k3⟩:=h2;have n:b≠a:=λq=>z (r.dist i j xs zs (.ref a) e1 e e2 (by rw[h1,eb,q]));exact⟨b,eb,k1,k2,k3.mono (λo' q=>by rw[aJ n];exact q) le⟩
 .have:=r.same b o n e
  rw[aJ (show b≠a from λz=>by rw[z,f1] at e;cases e)];exact this
 .obtain⟨ws,q⟩:=back q1
  exact r.fresh j ws b q q2
 .obtain⟨ws,q⟩:=back q1
  obtain⟨FZ,q'⟩:=back q2;exact r.dist j k ws FZ v q q' q3 q4
def RS.put{i:Nat}{a:Addr}{vs us:List V}{xs ys:List OF}(r:RS K ze H₀ F ts O H σ ρ T)(e1:ρ[i]? = vd (vd (.loc (.list xs))))(e2:σ[i]? = vd (vd (.ref a)))(rv:Yw K O H vs ys):RS K ze H₀ F ts O (upd H a (.lst vs)) σ (ρ.set i (vd (.loc (.list ys)))) T:=r.putO e1 e2 (.inl ⟨_,rfl⟩) λle=>⟨vs,bg,rv.mono le⟩
def RS.tapeO(r:RS K ze H₀ F ts O H σ ρ T)(e:ts[n]? = vd a)(hm:Kt (vd o))(rv:Le O H O (upd H a o)->IU K O (upd H a o) a ys):RS K ze H₀ F ts O (upd H a o) σ ρ (T.set n ys):=by
 have am:=Px e;have le:Le O H O (upd H a o):=λb o' k q=>⟨k,by rw[aJ (λz=>k (by rw[z];exact r.hc.own a am))];exact q⟩
 have sx:YB ts H (upd H a o):=λb o' k q=>by rw[aJ (λz=>k (by simp_all))];exact q
 refine⟨⟨r.hc.own,λb hb=>?_,r.hc.nd,by simp[r.hc.len],λj b zs q1 q2=>?_⟩,r.re.mono r.hc sx,r.sub,r.ots,r.same.trans sx,r.fresh,r.dist,λf hf=>(r.frs f hf).trans le,r.len⟩
 .by_cases z:b=a
  .subst z;rw[bg];exact hm
  .rw[aJ z];exact r.hc.trk b hb
 .by_cases z:n=j
  .subst z
   rw[e] at q1
   have hl:n<T.length:=by
    have:=(OL.mp e).1;rw[←r.hc.len];exact this
   rw[OX hl] at q2<;>simp_all
  .simp_all
   refine(r.hc.tape j b zs q1 q2).mono (λo' h1=>?_) le
   have nb:b≠a:=λq=>by
    rw[q] at q1;exact z ((List.getElem?_inj (OL.mp e).1 r.hc.nd).mp (e.trans q1.symm))
   rw[aJ nb]<;>omega
def RS.tape(r:RS K ze H₀ F ts O H σ ρ T)(e:ts[n]? = vd a)(rv:Yw K O H vs ys):RS K ze H₀ F ts O (upd H a (.lst vs)) σ ρ (T.set n ys):=r.tapeO e (.inl ⟨_,rfl⟩) λle=>.inl ⟨rv.notO,vs,bg,rv.mono le⟩
def tW:W->W
 |.loc x=>.d x
 |w=>w
def cb(ρ:Yy):Yy:=ρ.map (Rn tW)
def RS.frzH(r:RS K ze H₀ F ts O H σ ρ T):HC K ze ts H T:=by
 have le:Le O H ze H:=λa o n e=>⟨λz=>n (r.sub a z),e⟩;exact⟨r.ots,λb hb=>r.hc.trk b (r.sub b hb),r.hc.nd,r.hc.len,λi a xs e1 e2=>(r.hc.tape i a xs e1 e2).mono (λ_ h=>h) le⟩
def ue(ρ:Yy):Prop:=∀(i:Nat) (ds:List (OF×OF)),ρ[i]?≠vd (vd (.loc (.dict ds)))
def RS.frz(r:RS K ze H₀ F ts O H σ ρ T)(nd:ue ρ):HC K ze ts H T/\Zj K ze ts H σ (cb ρ):=by
 have le:Le O H ze H:=λa o n e=>⟨λz=>n (r.sub a z),e⟩;refine⟨r.frzH,λi w e=>?_⟩;unfold cb at e;rw[Qn] at e
 cases hu:ρ[i]? with
 |none=>simp_all
 |some u=>
  cases u with
  |none=>simp_all
  |some u=>
   rw[hu] at e;cases e;obtain⟨v,h1,h2⟩:=r.re i u hu;refine⟨v,h1,?_⟩
   cases u with
   |d x=>exact Rep.mono le h2
   |tp k=>exact h2
   |loc xs=>
    obtain⟨a,rfl,k1,k2,k3⟩:=h2
    cases xs with
    |list xs=>obtain⟨vs,k3,k4⟩:=k3;exact .lst (.inl ⟨(r.fresh i _ a hu h1).2,.inl k3⟩) (k4.mono le)
    |dict xs=>exact absurd hu (nd i xs)
    |_=>cases k3
def RS.frzD(r:RS K ze H₀ F ts O H σ ρ T)(h1:ρ[i]? = vd (vd (.loc (.dict ds)))):∃a kvs,H a=vd (.dK kvs)/\∀o,RS K ze H₀ F ts (λb=>O b/\b≠a) (upd H a (.frz o (.dK kvs))) σ (ρ.set i (vd (.d (.dict ds)))) T:=by
 obtain⟨v,k1,a,rfl,k2,k3,kvs,k4,k5⟩:=r.re i _ h1;refine⟨a,kvs,k4,λo=>?_⟩;have hl:i<ρ.length:=(OL.mp h1).1;have U:∀{b:Addr},b≠a->upd H a (.frz o (.dK kvs)) b=H b:=λn=>aJ n;have le:Le O H (λb=>O b/\b≠a) (upd H a (.frz o (.dK kvs))):=λb u n e=>⟨λz=>n z.1,by rw[U (λz=>n (by simp_all))];exact e⟩;have fr:=r.fresh i _ a h1 k1
 have hw:∀ys,W.d (.dict ds)≠.loc ys:=λ_ z=>nomatch z
 refine⟨⟨λb hb=>⟨r.hc.own b hb,λz=>k3 (z ▸ hb)⟩,λb hb=>by rw[U hb.2];exact r.hc.trk b hb.1,r.hc.nd,r.hc.len,λj b ys e1 e2=>?_⟩,λj w e=>?_,λb hb=>⟨r.sub b hb,λz=>fr.2 (z ▸ hb)⟩,r.ots,λb u n e=>?_,λj ys b e1 e2=>?_,λj k ys zs v e1 e2 e3 e4=>?_,λf hf=>(r.frs f hf).trans le,by simp[r.len]⟩
 .exact(r.hc.tape j b ys e1 e2).mono (λ_ h=>by rw[U (λz=>k3 (by rw[←z];exact Px e1))];exact h) le
 .by_cases z:i=j
  .subst z
   rw[OX hl] at e;cases e;exact⟨.ref a,k1,.dct (λz=>z.2 rfl) bg (k5.mono le)⟩
  .rw[OR z] at e
   obtain⟨x,q1,q2⟩:=r.re j w e;refine⟨x,q1,?_⟩
   cases w with
   |d y=>exact Rep.mono le q2
   |tp k=>exact q2
   |loc ys=>
    obtain⟨b,eb,m1,m2,m3⟩:=q2;have nb:b≠a:=λq=>z (r.dist i j _ ys (.ref a) h1 e k1 (by rw[q1,eb,q]));exact⟨b,eb,⟨m1,nb⟩,m2,m3.mono (λ_ q=>by rw[U nb];exact q) le⟩
 .rw[U (λz=>by simp_all)]
  exact r.same b u n e
 .obtain⟨n,e⟩:=eK hw e1
  exact r.fresh j ys b e e2
 .obtain⟨n1,e1⟩:=eK hw e1
  obtain⟨n2,e2⟩:=eK hw e2;exact r.dist j k ys zs v e1 e2 e3 e4
noncomputable def zfk(h:ρ[i]? = vd (vd (.loc x))):cb (ρ.set i (vd (.d x)))=cb ρ:=by
 apply List.ext_getElem?;intro j;unfold cb;rw[Qn,Qn]
 by_cases z:i=j
 .subst z
  rw[OX (OL.mp h).1,h];rfl
 .simp_all
theorem RS.frzN(R:Yy):∀(k:Nat) {O:Addr->Prop}{H:Hp}{ρ:Yy},RS K ze H₀ F ts O H σ ρ T->(∀j ds,k<=j->ρ[j]?≠vd (vd (.loc (.dict ds))))->cb ρ=R ->
  Gh (λH'=>∃O' ρ',RS K ze H₀ F ts O' H' σ ρ' T/\ue ρ'/\cb ρ'=R) H
 |0,O,H,ρ,r,n,e=>.done ⟨O,ρ,r,λj ds=>n j ds (Ri _),e⟩
 |k+1,O,H,ρ,r,n,e=>by
  by_cases h:∃ds,ρ[k]? = vd (vd (.loc (.dict ds)))
  .obtain⟨ds,h⟩:=h
   obtain⟨a,kvs,e1,f⟩:=r.frzD h;refine .frz e1 λo=>RS.frzN R k (f o) (λj es hj=>?_) (by rw[zfk h];exact e)
   by_cases z:k=j
   .subst z
    rw[OX (OL.mp h).1]<;>simp_all
   .rw[OR z]
    exact n j es (by lia)
  .refine RS.frzN R k r (λj ds hj=>?_) e
   by_cases z:k=j
   .subst z<;>simp_all
   .exact n j ds (by lia)
def RS.frzG(r:RS K ze H₀ F ts O H σ ρ T):Gh (λH'=>YB ts H₀ H'/\HC K ze ts H' T/\Zj K ze ts H' σ (cb ρ)) H:=(RS.frzN _ ρ.length r (λj ds hj=>by simp_all) rfl).imp λH' ⟨O',ρ',r',n,e⟩=>⟨r'.same,by rw[←e];exact r'.frz n⟩
end
def aD:FS:=λρ T=>vd ((.nx,ρ),T)
def ak(f g:FS):FS:=λρ T=>Yz (f ρ T) λp T1=>match p with
 |(.nx,YT)=>g YT T1
 |(fl,YT)=>vd ((fl,YT),T1)
noncomputable def ay(i:Nat)(f:FE):FS:=λρ T=>Yz (f ρ T) λw T1=>match w with
 |.d x=>vd ((.nx,ρ.set i (vd (.d x))),T1)
 |.tp k=>vd ((.nx,ρ.set i (vd (.tp k))),T1)
 |.loc _=>zc
noncomputable def fU(i:Nat)(g:FA):FS:=λρ T=>Yz (g ρ T) λws T1=>match fE ws with
 |some xs=>if xs.length<=1000 then vd ((.nx,ρ.set i (vd (.loc (.list xs)))),T1) else zc
 |none=>zc
noncomputable def eX(i:Nat)(f:FE):FS:=λρ T=>Yz (f ρ T) λw T1=>match w with
 | .d x=>(match ρ[i]? with
  |some (vd (.loc (.list xs)))=>if xs.length<OO then vd ((.nx,ρ.set i (vd (.loc (.list (xs++[x]))))),T1) else zc
  | _=>zc)
 |_=>zc
noncomputable def ip(fo fk fe:FE):FS:=λρ T=>Yz (fe ρ T) λw T1=>Yz (fo ρ T1) λo T2=>Yz (fk ρ T2) λk T3=>match w,o,k with
 |.d x,.tp n,.d (.int i)=>match T3[n]? with
  |some xs=>if EZ xs=xV then zc else match Zr xs.length i with
   |some j=>vd ((.nx,ρ),T3.set n (xs.set j x))
   |none=>zc
  |none=>zc
 |_,_,_=>zc
def YC(c:FT)(f g:FS):FS:=λρ T=>Yz (c ρ T) λb T1=>if b=xV then f ρ T1 else g ρ T1
def au(f:FE):FS:=λρ T=>Yz (f (cb ρ) T) λw T1=>match w with
 |.d x=>vd ((.rt x,ρ),T1)
 |_=>zc
def fD(f:FE):FS:=λρ T=>Yz (f ρ T) λ_ T1=>vd ((.nx,ρ),T1)
noncomputable def forL(i:Nat)(body:FS):List OF->FS
 |[]=>aD
 |d::r=>λρ T=>Yz (body (ρ.set i (vd (.d d))) T) λp T1=>match p with
  |(.nx,YT)=>forL i body r YT T1
  |(.ct,YT)=>forL i body r YT T1
  |(.bk,YT)=>vd ((.nx,YT),T1)
  |(.rt x,YT)=>vd ((.rt x,YT),T1)
  |(.ro x,YT)=>vd ((.ro x,YT),T1)
def dX(i:Nat)(it:FI)(body:FS):FS:=λρ T=>Yz (it ρ T) λds T1=>forL i body ds ρ T1
noncomputable def cN(c:FT)(body:FS):Nat->FS
 |0=>λ_ _=>zc
 |n+1=>λρ T=>Yz (c ρ T) λb T1=>if b=xV then Yz (body ρ T1) λp T2=>match p with
   |(.nx,YT)=>cN c body n YT T2
   |(.ct,YT)=>cN c body n YT T2
   |(.bk,YT)=>vd ((.nx,YT),T2)
   |(.rt x,YT)=>vd ((.rt x,YT),T2)
   |(.ro x,YT)=>vd ((.ro x,YT),T2)
  else vd ((.nx,ρ),T1)
section
variable {X:Cx}{pos:Pos}{st:Stmt}{rest:List Stmt}{f g:FS}{e:Expr}{fe:FE}{c:FT}{K:Frag}{ze:Addr->Prop}{H₀:Hp}{F:List ((Addr->Prop)×Hp)}{ts:List Addr}{O:Addr->Prop}{H H1:Hp}{σ:L2.St}{ρ:Yy}{T T1:Tp}
noncomputable def cf:Z7 X [] aD:=by
 refine⟨?_⟩;refine fO rO λD σ H=>?_;rintro⟨ze,H₀,F,ts,O,ρ,T,fl,ρ',T',rs,e,q⟩;cases e;exact q O σ H rs
noncomputable def aA(h1:DS X st f)(h2:Z7 X rest g):Z7 X (st::rest) (ak f g):=by
 refine⟨?_⟩;refine fO (dh h1.pe h2.pe) λD σ H=>?_;rintro⟨ze,H₀,F,ts,O,ρ,T,fl,ρ',T',rs,e,q⟩;obtain⟨⟨BW,YT⟩,T1,e1,e⟩:=aE e;refine⟨ze,H₀,F,ts,O,ρ,T,BW,YT,T1,rs,e1,?_⟩
 cases BW with
 |nx=>exact λO' σ' H' B3=>⟨ze,H₀,F,ts,O',YT,T1,fl,ρ',T',B3,e,q⟩
 |rt x=>cases e;exact q
 |ro x=>cases e;exact q
 |bk=>cases e;exact q
 |ct=>cases e;exact q
def bb(h1:DS X st f):Z7 X [st] f:=⟨kz h1.pe⟩
noncomputable def aF(hN:X.N.Nodup)(he:DE X e fe)(hi:autoParam (X.N[i]? = vd x) u10)(hx:autoParam (Loc X.env.scope x) u18)(hs:autoParam (P4 e (vd (.Name x pos')) pos.line X.env=pure zd) u10)
  (hf:autoParam (X.fn x=xV\/X.env.scope.names.lookup x=vd .local) u15):DS X (.Assign [.Name x pos'] e pos) (ay i fe):=by
 refine⟨?_⟩;refine dj (gB hN hi hx he.pe hs hf) λD σ H=>?_;rintro⟨ze,H₀,F,ts,O,ρ,T,fl,ρ',T',rs,e,q⟩;obtain⟨w,T1,e1,e⟩:=aE e;refine⟨O,ts,ρ,T,w,T1,rs.hc,rs.re,e1,λv H1 s1 Yv r1=>?_⟩
 cases w with
 |d x=>cases e;exact q O _ _ ((rs.step s1 Yv).set r1 λ_ z=>nomatch z)
 |tp k=>cases e;exact q O _ _ ((rs.step s1 Yv).set r1 λ_ z=>nomatch z)
 |loc xs=>cases e
noncomputable def zfl{i:Nat}{x y:Str}{scope osc:QA}{N N':List Str}{elt iter:Expr}{ifs:List Expr}{px py IW:Pos}{it:FI}{c:FT}{f:FE}(S:CS osc N x scope N')(hN:X.N.Nodup)(hi:DI X (.Name x px) iter it)
  (he:∀C s0 H0 ex,DE (cA X x scope C s0 H0 ex N') elt f) (ht:∀C s0 H0 ex,DR (cA X x scope C s0 H0 ex N') ifs c) (Kj:autoParam (X.N[i]? = vd y) u10) (hy:autoParam (Loc X.env.scope y) u18)
  (E8:autoParam (X.fn y=xV\/X.env.scope.names.lookup y=vd .local) u15) (hc:autoParam (X.calm=xV) u10) (hs:autoParam (X.env.scope=osc) u10) (hN':autoParam (X.N=N) u10)
  (ED:autoParam (P4 (.ListComp elt [⟨.Name x px,iter,ifs,0⟩] scope pos) (vd (.Name y py)) IW.line X.env=pure xV) u10) (hf:autoParam (∀v,PN iter X.env v=pure v) u16) :
  DS X (.Assign [.Name y py] (.ListComp elt [⟨.Name x px,iter,ifs,0⟩] scope pos) IW) (ay i (bH it c f)):=by
 refine⟨?_⟩;subst hs hN';refine dj (zem  (tt:=liftT X.K c) (te:=lift X.K f) hc S hN Kj hy E8 hi.pe (λC s0 H0 ex=>(he C s0 H0 ex).pe) (λC s0 H0 ex=>(ht C s0 H0 ex).pe) ED hf) λD σ H=>?_;rintro⟨ze,H₀,F,ts,O,ρ,T,fl,ρ',T',rs,e,q⟩;obtain⟨w,T1,e1,e⟩:=aE e;obtain⟨ds,T2,e2,e1⟩:=aE e1;obtain⟨ys,T3,e3,e1⟩:=aE e1;cases e1;cases e;refine⟨O,ts,ρ,T,ds,T2,rs.hc,rs.re,e2,λJ H1 s1 Yv ok hz=>?_⟩;exact yz Yv (rs.re.mono rs.hc s1) ok hz e3 λvs H' s2 YE r2 p hp=>q O _ _ ((rs.step (s1.trans (s2.trans (.new hp _))) (YE.new hp _)).set (YE.newL hp r2) λ_ z=>nomatch z)
noncomputable def mj{i:Nat}{x:Str}{pos':Pos}{es:List Expr}{EI:Pos}{g:FA}(hN:X.N.Nodup)(he:DA X es g)(hi:autoParam (X.N[i]? = vd x) u10)(hx:autoParam (Loc X.env.scope x) u18)
  (hs:autoParam (P4 (.List es EI) (vd (.Name x pos')) pos.line X.env=pure zd) u10) (hf:autoParam (X.fn x=xV\/X.env.scope.names.lookup x=vd .local) u15):DS X (.Assign [.Name x pos'] (.List es EI) pos) (fU i g):=by
 refine⟨?_⟩;refine dj (gB hN hi hx (kI he.pe) hs hf) λD σ H=>?_;rintro⟨ze,H₀,F,ts,O,ρ,T,fl,ρ',T',rs,e,q⟩;obtain⟨ws,T1,e1,e⟩:=aE e;refine⟨O,ts,ρ,T,ws,T1,rs.hc,rs.re,e1,λvs H1 s1 Yv r1=>?_⟩;split at e
 .rename_i xs h1
  split at e
  .rename_i h2
   cases e;have rv:=l9 r1 h1;exact⟨ou (by rw[rv.length];exact h2),λp hp=>q _ _ _ ((rs.step s1 Yv).own hp rv)⟩
  .cases e
 .cases e
noncomputable def bF(hc:DT X ce c)(ha:Z7 X a f)(hb:Z7 X b g):DS X (.If ce a b pos) (YC c f g):=by
 refine⟨?_⟩;refine dj (tw hc.pe ha.pe hb.pe) λD σ H=>?_;rintro⟨ze,H₀,F,ts,O,ρ,T,fl,ρ',T',rs,e,q⟩;obtain⟨b1,T1,e1,e⟩:=aE e;refine⟨O,ts,ρ,T,b1,T1,rs.hc,rs.re,e1,λH1 s1 Yv=>?_⟩
 cases b1 with
 |true=>exact gU ⟨ze,H₀,F,ts,O,ρ,T1,fl,ρ',T',rs.step s1 Yv,by simpa using e,q⟩
 |false=>exact i7 ⟨ze,H₀,F,ts,O,ρ,T1,fl,ρ',T',rs.step s1 Yv,by simpa using e,q⟩
noncomputable def sV(he:DE X e fe):DS X (.Return (vd e) pos) (au fe):=by
 refine⟨?_⟩;refine dj (zeu (mz he.pe)) λD σ H=>?_;rintro⟨ze,H₀,F,ts,O,ρ,T,fl,ρ',T',rs,e,q⟩;obtain⟨w,T1,e1,e⟩:=aE e;refine rs.frzG.imp λH0 ⟨same,c0,IB⟩=>?_;refine⟨ze,ts,cb ρ,T,w,T1,c0,IB,e1,λv H1 s1 Yv r1=>?_⟩
 cases w with
 |d x=>cases e;exact q v H1 (same.trans s1) Yv r1
 |tp k=>cases e
 |loc xs=>cases e
noncomputable def hV(he:DE X e fe)(hs:autoParam (P4 e zc pos.line X.env=pure zd) u10):DS X (.Expr e pos) (fD fe):=by
 refine⟨?_⟩;refine dj (mi he.pe hs) λD σ H=>?_;rintro⟨ze,H₀,F,ts,O,ρ,T,fl,ρ',T',rs,e,q⟩;obtain⟨w,T1,e1,e⟩:=aE e;cases e;exact⟨O,ts,ρ,T,w,_,rs.hc,rs.re,e1,λv H1 s1 Yv r1=>q O _ _ (rs.step s1 Yv)⟩
noncomputable def kP(he:DE X e fe)(hN:autoParam (X.N[i]? = vd x) u10)(hv:autoParam (Ee X.env.scope x) u21)(hd:autoParam ((x == ("__debug__" : Str))=zd) u11)
  (hcd:autoParam ((x == ("__classdict__" : Str))=zd) u11) 
  (YY:autoParam (P1 (.Name x p) "append" X.env (eval (.Name x p) X.env)=eval (.Name x p) X.env) u10)
  (Zx:autoParam (((PK cpos (OM [e] X.env)).all (λx=>!x.1)&&(QS cpos (Qb [] X.env)).all (λx=>x.1.isSome)
   && decide (([e]:List Expr).length+([]:List QR).length+(if ([]:List QR).isEmpty then 0 else 1)<30))=xV) u20)
  (YX:autoParam ((apos.endLine == cpos.line)=xV) u10) (Zy:autoParam (OM [e] X.env=(zd,eval e X.env)::OM [] X.env) u12) (YQ:autoParam ((PK cpos (OM [] X.env)).any (·.1)=zd) u13)
  (hs:autoParam (P4 (.Call (.Attribute (.Name x p) "append" apos) [e] [] cpos) zc pos.line X.env=pure zd) u10) :
  DS X (.Expr (.Call (.Attribute (.Name x p) "append" apos) [e] [] cpos) pos) (eX i fe):=by
 refine⟨?_⟩;refine dj (mi (iP RB PySem.F.slot_list_append PySem.F.type_list_append zdi (pv i hN hv hd hcd) (br he.pe cu Zy) YY Zx YX Zy YQ) hs) λD σ H=>?_;rintro⟨ze,H₀,F,ts,O,ρ,T,fl,ρ',T',rs,e,q⟩;obtain⟨w,T1,e1,e⟩:=aE e;split at e
 .split at e
  .rename_i xs h1
   split at e
   .rename_i h2
    cases e;obtain⟨v,k1,a,rfl,k2,k3,vs,k4,k5⟩:=rs.re i _ h1;refine⟨_,k1,.inl ⟨rfl,vs,Zm.of k4⟩,O,ts,ρ,T,_,_,rs.hc,rs.re,e1,λu H1 s1 Yv r1=>?_⟩;have Y6:=rs.step s1 Yv;exact⟨a,vs,u,rfl,rfl,s1 _ _ k3 k4,by rw[k5.length];exact h2,q O _ _ (Y6.put (us:=[]) h1 k1 ((k5.mono (rs.hc.le s1)).append (.cons r1 .nil)))⟩
   .cases e
  .cases e
 .cases e
noncomputable def sW(ho:DE X o fo)(hk:DE X k fk)(he:DE X e fe)(ha:autoParam (∀v,TR (.Subscript o k Z8) X.env v=(do
   let ov ←RR [v] (eval o X.env)
   let iv ←RR [v,ov] (eval k X.env)
   SO Z8
   RR [v,ov,iv] (XZ ov iv v)
   release [v,ov,iv] [])) u16)
  (hs:autoParam (Vu [.Subscript o k Z8] e pos.line X.env=pure zd) u10) (hw:autoParam (Vv [.Subscript o k Z8] e X.env=pure zc) u10)
  (h1:autoParam ((Sd [.Subscript o k Z8] X.env).map (·.2)=[TR (.Subscript o k Z8) X.env]) u10):DS X (.Assign [.Subscript o k Z8] e pos) (ip fo fk fe):=by
 refine⟨?_⟩;refine dj (sJ he.pe (zax ho.pe hk.pe set_list ha) hs hw h1) λD σ H=>?_;rintro⟨ze,H₀,F,ts,O,ρ,T,fl,ρ',T',rs,e,q⟩;obtain⟨w,T1,e1,e⟩:=aE e;obtain⟨wo,T2,e2,e⟩:=aE e;obtain⟨wk,T3,e3,e⟩:=aE e;refine⟨O,ts,ρ,T,w,T1,rs.hc,rs.re,e1,λv H1 s1 Yv r1=>?_⟩;have Y6:=rs.step s1 Yv;refine⟨O,ts,ρ,T1,wo,T2,Yv,Y6.re,e2,λvo H2 s2 YE r2=>?_⟩;have Ik:=Y6.step s2 YE;refine⟨O,ts,ρ,T2,wk,T3,YE,Ik.re,e3,λvk H3 s3 Zf r3=>?_⟩;have Z1:=Ik.step s3 Zf;split at e
 .split at e
  .rename_i xs h1
   split at e
   .cases e
   .rename_i hn
    split at e
    .rename_i j h2
     cases e;obtain⟨a,k1,rfl⟩:=r2;cases (show Rep X.K O H3 vk (.int _) from r3);obtain⟨vs,k2,k3⟩:=(Zf.tape _ a xs k1 h1).lst (by simpa using hn);refine⟨a,vs,_,j,rfl,rfl,k2,by rw[k3.length];exact h2,q O _ _ (Z1.tape k1 (Yw.set ?_ j k3))⟩;exact Rep.mono ((Yv.le s2).trans (YE.le s3)) r1
    .cases e
  .cases e
 .cases e
def RS.less{f:(Addr->Prop)×Hp}(r:RS K ze H₀ (f::F) ts O H σ ρ T):RS K ze H₀ F ts O H σ ρ T:=⟨r.hc,r.re,r.sub,r.ots,r.same,r.fresh,r.dist,λf hf=>r.frs f (OP _ hf),r.len⟩
def RS.more(r:RS K ze H₀ F ts O H σ ρ T):RS K ze H₀ ((O,H)::F) ts O H σ ρ T:=⟨r.hc,r.re,r.sub,r.ots,r.same,r.fresh,r.dist,λf hf=>by
 rcases OZ.mp hf with z|z
 .subst z;exact λa o n e=>⟨n,e⟩
 .exact r.frs f z,r.len⟩
noncomputable def gH(hN:X.N.Nodup)(hi:DI X (.Name x Z8) iter it)(hb:Z7 X body f)(hix:autoParam (X.N[i]? = vd x) u10)(hx:autoParam (Loc X.env.scope x) u18)
  (hf:autoParam (X.fn x=xV\/X.env.scope.names.lookup x=vd .local) u15) (hp:autoParam (Wa (Pi X.prog X.w) X.A X.env X.xe) u26) (hc:autoParam (X.calm=xV) u10)
  (hs:autoParam (∀x,PN iter X.env x=pure x) u16):DS X (.For (.Name x Z8) iter body [] pos) (dX i it f):=by
 refine⟨?_⟩;refine dj (zbf hp hc hi.pe (iG hN hix hx hf) hb.pe hs) λD σ H=>?_;rintro⟨ze,H₀,F,ts,O,ρ,T,fl,ρ',T',rs,e,q⟩;obtain⟨ds,T1,e1,e⟩:=aE e;refine⟨O,ts,ρ,T,ds,T1,rs.hc,rs.re,e1,λJ H1 s1 Yv ok hz=>?_⟩;refine⟨λk m σ H=>m=ds.length-k/\k<=ds.length/\∃O' EQ Tk,RS X.K ze H₀ ((O,H1)::F) ts O' H σ EQ Tk/\forL i f (ds.drop k) EQ Tk=vd ((fl,ρ'),T'),⟨_,rfl,Ri _,O,ρ,T1,(rs.step s1 Yv).more,e⟩,?_⟩;rintro k m Dc H2 ⟨rfl,hk,O',EQ,Tk,Ik,ek⟩;obtain⟨k1,k2,k3⟩:=ok O' H2 (Ik.frs _ OU)
 by_cases Z2:k<ds.length
 .refine .inr ⟨k1 k Z2,λZ5 H3=>∃O' EQ Tk,RS X.K ze H₀ ((O,H1)::F) ts O' H3 Z5 EQ Tk/\forL i f (ds.drop (k+1)) EQ Tk=vd ((fl,ρ'),T'),λZ5 H3 n=>⟨ds.length-(k+1),by lia,rfl,Z2,n⟩,λv H3 y=>?_⟩
  obtain⟨e2,d,hd,rd⟩:=k3 k v H3 y Z2;subst e2
  have BD:ds.drop k=d::ds.drop (k+1):=by
   rw[Qc Z2];have:=(OL.mp hd).2;rw[this]
  rw[BD] at ek;obtain⟨⟨BW,YT⟩,T3,e3,ek⟩:=aE ek;refine⟨ze,H₀,(O,H1)::F,ts,O',_,Tk,BW,YT,T3,Ik.set (i:=i) (w:=.d d) rd (λ_ z=>nomatch z),e3,?_⟩
  cases BW with
  |nx=>exact λO3 Z5 H3 Z1=>⟨O3,YT,T3,Z1,ek⟩
  |ct=>exact λO3 Z5 H3 Z1=>⟨O3,YT,T3,Z1,ek⟩
  |bk=>
   cases ek;exact λO3 Z5 H3 Z1=>q O3 Z5 H3 Z1.less
  |rt x=>
   cases ek;exact q
  |ro x=>
   cases ek;exact q
 .have e:k=ds.length:=by lia
  subst e;rw[PR (Pc _)] at ek;cases ek;exact .inl ⟨k2,q O' Dc H2 Ik.less⟩
noncomputable def n8(n:Nat)(hc:DT X ce c)(hb:Z7 X body f)(hp:autoParam (Wa (Pi X.prog X.w) X.A X.env X.xe) u26):DS X (.While ce body [] pos) (cN c f n):=by
 refine⟨?_⟩;refine dj (zay hp hc.pe hb.pe) λD σ H=>?_;rintro⟨ze,H₀,F,ts,O,ρ,T,fl,ρ',T',rs,e,q⟩;refine⟨λm σ H=>∃O' Bt Tm,RS X.K ze H₀ F ts O' H σ Bt Tm/\cN c f m Bt Tm=vd _,⟨n,O,ρ,T,rs,e⟩,?_⟩;rintro m Dc H2 ⟨O',Bt,Tm,Ik,em⟩
 cases m with
 |zero=>cases em
 |succ m=>
  obtain⟨b,T3,e3,em⟩:=aE em;refine⟨O',ts,Bt,Tm,b,T3,Ik.hc,Ik.re,e3,λH3 s3 Zf=>?_⟩;have Z1:=Ik.step s3 Zf
  cases b with
  |false=>
   cases em;exact i7 (q O' Dc H3 Z1)
  |true=>
   obtain⟨⟨BW,YT⟩,T4,e4,em⟩:=aE em;refine gU ⟨λZ5 H3=>∃O' Bt Tm,RS X.K ze H₀ F ts O' H3 Z5 Bt Tm/\cN c f m Bt Tm=vd _,λZ5 H3 n=>⟨m,Ua m,n⟩,ze,H₀,F,ts,O',Bt,T3,BW,YT,T4,Z1,e4,?_⟩
   cases BW with
   |nx=>exact λO3 Z5 H3 Z1=>⟨O3,YT,T4,Z1,em⟩
   |ct=>exact λO3 Z5 H3 Z1=>⟨O3,YT,T4,Z1,em⟩
   |bk=>
    cases em;exact λO3 Z5 H3 Z1=>q O3 Z5 H3 Z1
   |rt x=>
    cases em;exact q
   |ro x=>
    cases em;exact q
end
abbrev YG:=List W->Tp->Option (OF×Tp)
def dB:List W->Bool
 |[]=>xV
 |.loc _::_=>zd
 |_::r=>dB r
noncomputable def c9(o:Option ((Fl×Yy)×Tp)):Option (OF×Tp):=Yz o λp T=>match p with
 |(.rt x,_)=>vd (x,T)
 |(.nx,_)=>vd (.none,T)
 |_=>zc
def aL(N:Nat)(f:FS):YG:=λws T=>if dB ws=xV then c9 (f (ws.map vd++OQ (N-ws.length) zc) T) else zc
inductive Hx(K:Frag)(n:Nat)(m:YG)(vs:List V)(H:Hp)(Q:VK):Prop where
 |mk (O:Addr->Prop) (ts:List Addr) (T:Tp) (ws:List W) (x:OF) (T':Tp) (hc:HC K O ts H T) (r:fX K O ts H vs ws) (hl:ws.length=n) (e:m ws T=vd (x,T')) (q:∀v H',YB ts H H'->HC K O ts H' T'->Rep K O H' v x->Q v H'):Hx K n m vs H Q
def Zq(K:Frag)(n:Nat)(m:YG):Sp:=λvs H Q _=>Hx K n m vs H Q
theorem nH{K:Frag}{O:Addr->Prop}{ts:List Addr}{H:Hp}:∀{vs:List V}{ws:List W}{i:Nat}{w:W},fX K O ts H vs ws->ws[i]? = vd w->∃v,vs[i]? = vd v/\ZJ K O ts H v w
 |_,_,_,_,.nil,e=>by simp at e
 |_,_,0,_,.cons r _,e=>by simp_all
 |_,_,i+1,w,.cons _ t,e=>by
  obtain⟨d,h1,h2⟩:=nH   t (by simpa using e);exact⟨d,by simpa using h1,h2⟩
theorem lP:∀{ws:List W}{xs:OF},dB ws=xV->W.loc xs∉ws
 |[],_,_,h=>by simp_all
 |.loc _::_,_,e,_=>by cases e
 |.d _::r,_,e,h=>by
  rcases OZ.mp h with z|z
  .cases z
  .exact lP (ws:=r) e z
 |.tp _::r,_,e,h=>by
  rcases OZ.mp h with z|z
  .cases z
  .exact lP (ws:=r) e z
noncomputable def ko{ws:List W}{n i:Nat}{w:W}(e:(ws.map vd++OQ n zc)[i]? = vd (vd w)):ws[i]? = vd w:=by
 by_cases h:i<ws.length
 .rw[Pa (by simp_all),Qn] at e<;>simp_all
 .rw[Ra (by simp_all)] at e
  have:=Px e<;>simp_all
noncomputable def BY{P:Pb}{w:Pp}{K:Frag}{mg:Str->Option OH}{base:Heap}{x qual:Str}{st:Stmt}{f:Addr}{fd:Qm}{N ps:List Str}{k:Nat}{m:FS}(F:Gy K x qual st f fd)(S:YK N ps (aK st))
  (YO:∀(YA:OH) (A:Pw) (outer:List Env) (s:OJ) (H:Hp) (E:XK),YD k (A.deeper (Qf qual (aK st) s.heap.objs.size f YA))->Z7 (aZ ZA P w K mg base N qual (aK st) f YA A outer s H E).nox (bt st) m) :
  YJ P w K mg base ZA (k+1) f fd ps (Zq K ps.length (aL N.length m)):=by
 refine F.ok S (λvs H Q E h=>?_) (λYA A outer s H vs Q E hr h=>⟨_,(YO YA A _ s H E hr).pe,?_⟩)
 .obtain⟨O,ts,T,ws,x,T',hc,Zc,hl,_⟩:=h
  rw[←hl];exact QH Zc
 obtain⟨O,ts,T,ws,x,T',hc,Zc,hl,e,q⟩:=h;unfold aL at e;split at e
 .rename_i hn
  obtain⟨⟨fl,ρ'⟩,T1,e1,e⟩:=aE e;have YH:=QH Zc;have DH:∀{i:Nat}{xs:OF},(ws.map vd++OQ (N.length-ws.length) zc)[i]? = vd (vd (W.loc xs))->False:=λ{i xs} e=>lP hn (Px (ko e));refine⟨O,H,[],ts,O,_,T,fl,ρ',T1,⟨hc,λi u e=>?_,λ_ h=>h,hc.own,.refl _ _,λi xs a e1 _=>(DH e1).elim,λi j xs ys v e1 _ _ _=>(DH e1).elim,λf hf=>absurd hf (by simp),by simp[L2.start,YH]⟩,e1,?_⟩
  .obtain⟨v,h1,h2⟩:=nH Zc (ko e)
   refine⟨v,?_,h2⟩;unfold L2.start;have hi:=(OL.mp h1).1;rw[Pa (by simpa using hi),Qn,h1];rfl
  .cases fl with
   |rt y=>cases e;exact λv H' s1 c1 r1=>q v H' s1 c1 r1
   |nx=>
    cases e;exact λO' σ' H' rs=>q _ _ rs.same rs.frzH .non
   |bk=>cases e
   |ct=>cases e
   |ro y=>cases e
 .cases e
def ar(m:YG)(g:FA):FE:=λρ T=>Yz (g ρ T) λws T1=>Yz (m ws T1) λx T2=>vd (.d x,T2)
def eY(g:FA)(n:Nat):Prop:=∀ρ T ws T',g ρ T=vd (ws,T')->ws.length=n
def bp:eY ah 0:=λρ T ws T' e=>by cases e;rfl
noncomputable def aO(h:eY g n):eY (ae f g) (n+1):=λρ T ws T' e=>by
 obtain⟨w1,T1,e1,e⟩:=aE e;obtain⟨ws,T2,e2,e⟩:=aE e;cases e;rw[Po,h _ _ _ _ e2]
noncomputable def jA(F:Fn X.prog X.w X.K X.mg X.base name ps k (Zq X.K ps.length m))(hr:YD k X.A)(hg:Gl X name)(ha:DA X (e::es) g)(hl:eY g ps.length)(YU:autoParam ((name == ("__debug__" : Str))=zd) u11)
  (he:autoParam (OM (e::es) X.env=(zd,eval e X.env)::OM es X.env) u12) (Y1:autoParam ((PK pos (OM es X.env)).any (·.1)=zd) u13):DE X (.Call (.Name name p) (e::es) [] pos) (ar m g):=by
 refine⟨?_⟩;refine pe_imp (kZ F hr hg ha.pe YU he Y1) λσ H Q=>?_;rintro⟨O,ts,ρ,T,w,T',hc,re,e,q⟩;obtain⟨ws,T1,e1,e⟩:=aE e;obtain⟨x,T2,e2,e⟩:=aE e;cases e;refine⟨O,ts,ρ,T,ws,T1,hc,re,e1,λvs H1 s1 Yv r1=>?_⟩;refine⟨O,ts,T1,ws,x,_,Yv,by simp_all,hl _ _ _ _ e1,e2,λv H2 s2 YE r2=>q v H2 (s1.trans s2) YE r2⟩
noncomputable def Du(g:Int->Int->Option OF):OF->OF->Option OF
 |.int i,.int j=>g i j
 |_,_=>zc
def bo:OF->OF->Option PyData:=Du λi j=>vd (.int (i-j))
def f7:OF->OF->Option PyData:=Du λi j=>if 0<j then vd (.int (i % j)) else zc
def fZ:OF->OF->Option PyData:=Du λi j=>if 0<=j/\j<=1000000/\i.natAbs<2^64 then vd (.int (i^j.toNat)) else zc
def IS:OF->OF->Option PyData:=Du λi j=>vd (.bool (decide (i<j)))
def Dv:OF->OF->Option PyData:=Du λi j=>vd (.bool (decide (i<=j)))
def Dj:OF->OF->Option PyData:=Du λi j=>vd (.bool (decide (j<i)))
def Bx:OF->OF->Option PyData:=Du λi j=>vd (.bool (decide (j<=i)))
def zl(e:Du g x y=vd d):∃i j,x=.int i/\y=.int j/\g i j=vd d:=by
 unfold Du at e
 split at e<;>simp_all
noncomputable def sG{K:Frag}{C:Int->Int->Prop}{g:Int->Int->V}{gd:Int->Int->Option OF}(h:∀i j d,gd i j=vd d->C i j/\∀O H,Rep K O H (g i j) d):i9 K (rI C g) (Du gd):=λO ts H T v1 v2 x y d Q hc h1 h2 e q=>by
 obtain⟨i,j,rfl,rfl,e⟩:=zl e;obtain⟨c,r⟩:=h i j d e;exact⟨i,j,h1.int,h2.int,c,q _ H (.refl _ _) hc (r O H)⟩
noncomputable def mf{K:Frag}{g:Int->Int->V}{gd:Int->Int->Option OF}(h:∀i j d,gd i j=vd d->∀O H,Rep K O H (g i j) d):i9 K (C9 g) (Du gd):=λO ts H T v1 v2 x y d Q hc h1 h2 e q=>by
 obtain⟨i,j,rfl,rfl,e⟩:=zl e;exact⟨i,j,h1.int,h2.int,q _ H (.refl _ _) hc (h i j d e O H)⟩
section
variable {X:Cx}
def bz:Z4 X (Qq .Sub) bo:=⟨_,zbh,mf λi j d e O H=>by cases e;exact .int _⟩
noncomputable def iR:Z4 X (Qq .Mod) f7:=⟨_,zbi,sG λi j d e=>by
 split at e
 .rename_i h;cases e;exact⟨h,λ_ _=>.int _⟩
 .cases e⟩
noncomputable def ib:Z4 X (Qq .Pow) fZ:=⟨_,zbj,sG λi j d e=>by
 split at e
 .rename_i h;cases e;exact⟨h,λ_ _=>.int _⟩
 .cases e⟩
def bG:Z4 X (PC .Lt) IS:=⟨_,zbn,mf λi j d e O H=>by cases e;exact .bl _⟩
def gS:Z4 X (PC .LtE) Dv:=⟨_,zbo,mf λi j d e O H=>by cases e;exact .bl _⟩
def eW:Z4 X (PC .Gt) Dj:=⟨_,zbp,mf λi j d e O H=>by cases e;exact .bl _⟩
def zfm:Z4 X (PC .GtE) Bx:=⟨_,zbq,mf λi j d e O H=>by cases e;exact .bl _⟩
noncomputable def az:OF->OF->Option OF
 |.int i,.int j=>vd (.int (i+j))
 |.str x,.str y=>if x.length+y.length<=OO then vd (.str (x++y)) else zc
 |.tuple xs,.tuple ys=>if xs.length+ys.length<=OO then vd (.tuple (xs++ys)) else zc
 |.list xs,.list ys=>if xs.length+ys.length<=OO then vd (.list (xs++ys)) else zc
 |_,_=>zc
noncomputable def Ke(K:Frag):R2:=λx y H Q=>∃l b xs zs,x=.ref l/\y=.ref b/\Zm K H l xs/\Zm K H b zs/\xs.length+zs.length<=OO/\∀p,H p=zc->Q (.ref p) (upd H p (.lst (xs++zs)))
noncomputable def om:Zg X (Qq .Add) (Ke X.K):=by
 intro pins s σ H x y v u Q I rx ry h;obtain⟨l,b,xs,zs,rfl,rfl,hH,hB,hz,q⟩:=h;cases rx;cases ry;obtain⟨Yu,r,p1,_⟩:=I.list hH;obtain⟨CN,r2,p2,_⟩:=I.list hB;have hl:=r.length;have BO:=r2.length;obtain⟨⟨cls,dd,data,sl⟩,ho,hc,n,hd⟩:=id p1.isList;obtain⟨⟨Fy,EM,data2,GK⟩,G0,YE,n2,hd2⟩:=id p2.isList;subst hc hd YE hd2
 have ea:Yu.toArray++CN.toArray=(Yu++CN).toArray:=by simp
 refine Us ⟨_,ho,rfl⟩ ⟨_,G0,rfl⟩ noFill_list_add seq_list_add PySem.F.slot_list_add PySem.F.entry_list_add (PySem.F.args_list_add_2 _ _) (list_addW l b _ _ n n2 dd EM sl GK (by simp_all)) ⟨ho,G0,?_⟩;rw[ea];exact⟨.ref _,_,I.lnew  (r.append r2) (by simp_all),rfl,q _ I.fresh⟩
noncomputable def aH:Z4 X (Qq .Add) az:=by
 refine⟨_,zst.or (zte.or (Ip.or om)),λO ts H T v1 v2 x y d Q hc h1 h2 e q=>?_⟩;unfold az at e;split at e
 .cases e
  exact .inl ⟨_,_,h1.int,h2.int,q _ H (.refl _ _) hc (.int _)⟩
 .split at e
  .rename_i hz
   cases e;exact .inr (.inl ⟨_,_,h1.str,h2.str,hz,q _ H (.refl _ _) hc (.str _)⟩)
  .cases e
 .split at e
  .rename_i xs ys hz
   cases e;obtain⟨a,vs,rfl,t1,r1⟩:=h1.tup;obtain⟨b,us,rfl,t2,r2⟩:=h2.tup;refine .inr (.inr (.inl ⟨a,b,vs,us,rfl,rfl,t1.sq,t2.sq,by rw[r1.length,r2.length];exact hz,λz=>?_,λ_ z=>?_,λ_ _ p hp=>?_⟩))
   .subst z
    cases r1;exact q _ H (.refl _ _) hc (.tup t2 r2)
   .subst z
    cases r2;rw[Qu] at q;exact q _ H (.refl _ _) hc (.tup t1 r1)
   .exact q _ _ (.new hp _) (hc.new hp _) (hc.newT hp (r1.append r2))
  .cases e
 .split at e
  .rename_i xs ys hz
   cases e;obtain⟨a,vs,rfl,t1,r1⟩:=h1.lst;obtain⟨b,us,rfl,t2,r2⟩:=h2.lst;exact .inr (.inr (.inr ⟨a,b,vs,us,rfl,rfl,t1,t2,by rw[r1.length,r2.length];exact hz,λp hp=>q _ _ (.new hp _) (hc.new hp _) (hc.newL hp (r1.append r2))⟩))
  .cases e
 .cases e
noncomputable def zfn:fillsNumberSlot (.type "tuple") "mul"=pure zd:=PySem.fillsNumberSlot_seq   Sy.lookup (rfl) Uj.lookup (rfl)
noncomputable def zfo:seqRepeat? (.type "tuple")=pure (vd (.builtin "tuple.__mul__")):=by
 unfold seqRepeat?;rw[Wh  (name:="__mul__")  Sy.lookup (rfl),Wh  (name:="__rmul__")  Uj.lookup (rfl)];rfl
noncomputable def zfp(a:Int)(t:Tok)(l:Addr)(items:Array OH)(n:Nat)(dd:Option Addr)(sl:Array (Option OH)) :
  Meets (SU.«int.__rmul__» ⟨[.int a t,.ref l],[]⟩) (λ_ R s=>s.heap.get? l=vd { cls:=.type "tuple",dict:=dd,data:=.seq items n,slots:=sl }/\R (.ok (.ret U5)) s):=.of_wp λprog w A R s h=>by obtain⟨hl,h⟩:=h;wp_walk;exact⟨_,rfl,h⟩
noncomputable def zfq(l:Addr)(items:Array OH)(n:Nat)(dd:Option Addr)(sl:Array (Option OH))(k:Int)(t:Tok)(h1:2<=k)(h2:k<=1000)(h3:items.isEmpty=zd)(h4:items.size<=1000) :
  Meets (SU.«tuple.__mul__» ⟨[.ref l,.int k t],[]⟩) (λ_ R s=>s.heap.get? l=vd { cls:=.type "tuple",dict:=dd,data:=.seq items n,slots:=sl }/\R (.ok (.ret (Pr s.heap.objs.size))) { s with heap:=s.heap.push { cls:=Rk "tuple",data:=Yf (SI (λx1 x2=>x1++x2) #[] (OQ k.toNat items)) },toks:=s.toks }):=
 .of_wp λprog w A R s h=>by
  obtain⟨hp,g,d,tk,os⟩:=s;obtain⟨hl,h⟩:=h
  have Eu:¬(decide (k < -(2^63))||decide (k>=2^63))=xV:=by lia
  have Yv:¬(items.isEmpty||k == 1)=xV:=by rw[h3];simp;lia
  have YE:¬(decide (k<=0)||items.isEmpty)=xV:=by rw[h3];simp;lia
  have hm:items.size*k.toNat<=1000*1000:=U4 h4 (by lia)
  have Cf:(items.size:Int)*k<=1000000:=by
   have e:((items.size*k.toNat:Nat):Int)=(items.size:Int)*k:=by rw[Int.natCast_mul,Int.toNat_of_nonneg (by lia)]
   lia
  have Zf:¬(items.size:Int)*k>(2^63-1) / 8:=by
   have:(1000000:Int)<=(2^63-1) / 8:=by decide
   lia
  have Lp:¬Tn ((items.size:Int)*k)=xV:=by
   unfold Tn
   have:OO=16777216:=by decide
   simp
   lia
  have ht:XH hp l items:=⟨_,hl,rfl,n,rfl⟩;wp_walk;rw[if_neg Eu];dsimp only;refine ON (Vy ht ?_);rw[if_neg Yv,if_neg YE,if_neg Zf,if_neg Lp]
  have fit:sizeOk (.seq (SI (λx1 x2=>x1++x2) #[] (OQ k.toNat items))):=by
   show (SI (λx1 x2=>x1++x2) #[] (OQ k.toNat items)).size<=OO;have q:=foldl_rep items.toList k.toNat [];rw[Sa] at q
   have q':SI (λx1 x2=>x1++x2) #[] (OQ k.toNat items)=(OQ k.toNat items.toList).flatten.toArray:=by simpa using q
   rw[q',P9,len_rep]
   have:OO=16777216:=by decide
   rw[Rp,Nat.mul_comm]
   lia
  first
  |exact ON (m:=QQ _) (Qx (Pg ⟨_,rfl,h⟩) fit)
  |exact ON (m:=QQ _) (Qx (ON (Pg (Pg ⟨_,rfl,h⟩))) fit)
noncomputable def zfr:Zg X (Qq .Mult) (λx y H Q=>∃a k xs,x=.ref a/\y=.int k/\ZV X.K H a xs/\2<=k/\k<=1000/\xs≠[]/\xs.length<=1000/\∀p,H p=zc->Q (.ref p) (upd H p (.tup (OQ k.toNat xs).flatten))):=by
 intro pins s σ H x y v u Q I rx ry h;obtain⟨a,k,xs,rfl,rfl,hq,h1,h2,h3,h4,q⟩:=h;cases rx;obtain⟨t,rfl⟩:=ry;obtain⟨Yu,r,p1,_⟩:=I.tuple hq;have hl:=r.length;have hv:=λz=>h3 (r.nil_iff.mp z);obtain⟨⟨cls,dd,data,sl⟩,ho,hc,n,hd⟩:=id p1;subst hc hd
 have GY:=by
  have q:=foldl_rep Yu k.toNat []<;>omega
 have he:Yu.toArray.isEmpty=zd:=by simp_all
 refine Tu   (rfl) ⟨_,ho,rfl⟩ (λs'=>Ux s' k t) zfn WG S4 zfo Wi.lookup
  (Rm S4 (Ux s k t) Wj (V4 _ _) (zfp k t a _ n dd sl)
   ⟨ho,rfl,⟨_,ho,rfl⟩,Rm Sy ⟨_,ho,rfl⟩ PySem.F.entry_tuple_mul (PySem.F.args_tuple_mul_2 _ _) (zfq a _ n dd sl k t h1 h2 he (by simp_all)) ⟨ho,?_⟩⟩)
 rw[GY];refine⟨.ref _,_,I.laid   (λb ob q=>OK _ q) (Pc _) ?_,rfl,q _ (I.hok.fresh (Pc _))⟩;refine⟨?_,_,r.rep _,Wg _ _⟩;rw[len_rep];have:k.toNat*xs.length<=1000*1000:=U4 (by lia) h4;have:OO=16777216:=rfl
 lia
noncomputable def er:OF->OF->Option OF
 |.int i,.int j=>if (-(2^64)<i/\i<2^64)\/(-(2^64)<j/\j<2^64) then vd (.int (i*j)) else zc
 |.str z,.int k=>if 0<=k/\k<=2000/\z.length<=1000 then vd (.str (TM z k)) else zc
 |.tuple xs,.int k=>if 2<=k/\k<=1000/\xs.isEmpty=zd/\xs.length<=1000 then vd (.tuple (OQ k.toNat xs).flatten) else zc
 |_,_=>zc
noncomputable def iQ:Z4 X (Qq .Mult) er:=by
 refine⟨_,zsu.or (Dm.or zfr),λO ts H T v1 v2 x y d Q hc h1 h2 e q=>?_⟩;unfold er at e;split at e
 .split at e
  .rename_i hz
   cases e;exact .inl ⟨_,_,h1.int,h2.int,hz,q _ H (.refl _ _) hc (.int _)⟩
  .cases e
 .split at e
  .rename_i hz
   cases e;exact .inr (.inl ⟨_,_,h1.str,h2.int,hz.1,hz.2.1,hz.2.2,q _ H (.refl _ _) hc (.str _)⟩)
  .cases e
 .split at e
  .rename_i xs k hz
   cases e;obtain⟨a,vs,rfl,t1,r1⟩:=h1.tup;exact .inr (.inr ⟨a,_,vs,rfl,h2.int,t1.sq,hz.1,hz.2.1,λz=>by subst z;cases r1<;>simp_all,by rw[r1.length];exact hz.2.2.2,λp hp=>q _ _ (.new hp _) (hc.new hp _) (hc.newT hp (r1.rep _))⟩)
  .cases e
 .cases e
noncomputable def Fe:OF->OF->Option Bool
 |.int i,.int j=>vd (decide (i=j))
 |.str x,.str y=>vd (decide (x=y))
 |.bool a,.bool b=>vd (decide (a=b))
 |.none,.none=>vd xV
 |.none,.int _=>vd zd | .int _,.none=>vd zd | .none,.bool _=>vd zd | .bool _,.none=>vd zd | .none,.str _=>vd zd | .str _,.none=>vd zd
 |.int _,.str _=>vd zd | .str _,.int _=>vd zd | .bool _,.str _=>vd zd | .str _,.bool _=>vd zd
 |_,_=>zc
noncomputable def zA{K:Frag}{O:Addr->Prop}{H:Hp}{v1 v2:V}{x y:OF}{b:Bool}(h1:Vw K O H v1 x)(h2:Vw K O H v2 y)(e:Fe x y=vd b):tS v1 v2=xV/\decide (v1=v2)=b:=by
 unfold Fe at e;split at e
 all_goals first|(simp_all)|skip
 .cases h1.int;cases h2.int;cases e;exact⟨rfl,by simp⟩
 .cases h1.str;cases h2.str;cases e;exact⟨rfl,by simp⟩
 .cases h1.bl;cases h2.bl;cases e;exact⟨rfl,by simp⟩
 .cases h1.non;cases h2.non;cases e;exact⟨rfl,by simp⟩
 .cases h1.non;cases h2.int;cases e;exact⟨rfl,by simp⟩
 .cases h1.int;cases h2.non;cases e;exact⟨rfl,by simp⟩
 .cases h1.non;cases h2.bl;cases e;exact⟨rfl,by simp⟩
 .cases h1.bl;cases h2.non;cases e;exact⟨rfl,by simp⟩
 .cases h1.non;cases h2.str;cases e;exact⟨rfl,by simp⟩
 .cases h1.str;cases h2.non;cases e;exact⟨rfl,by simp⟩
 .cases h1.int;cases h2.str;cases e;exact⟨rfl,by simp⟩
 .cases h1.str;cases h2.int;cases e;exact⟨rfl,by simp⟩
 .cases h1.bl;cases h2.str;cases e;exact⟨rfl,by simp⟩
 .cases h1.str;cases h2.bl;cases e;exact⟨rfl,by simp⟩
def Zu(x y:OF):Option PyData:=(Fe x y).map .bool
def Dx(x y:OF):Option PyData:=(Fe x y).map λb=>.bool (!b)
noncomputable def aN:Z4 X (PC .Eq) Zu:=⟨_,zbl,λO ts H T v1 v2 x y d Q hc h1 h2 e q=>by
 obtain⟨b,e1,rfl⟩:=OT.mp e;obtain⟨k1,k2⟩:=zA h1 h2 e1
 exact⟨k1,by rw[k2];exact q _ H (.refl _ _) hc (.bl _)⟩⟩
noncomputable def j7:Z4 X (PC .NotEq) Dx:=⟨_,zbm,λO ts H T v1 v2 x y d Q hc h1 h2 e q=>by
 obtain⟨b,e1,rfl⟩:=OT.mp e;obtain⟨k1,k2⟩:=zA h1 h2 e1
 exact⟨k1,by rw[k2];exact q _ H (.refl _ _) hc (.bl _)⟩⟩
def isNone:OF->Bool
 |.none=>xV
 |_=>zd
noncomputable def vx{K:Frag}{O:Addr->Prop}{H:Hp}{v:V}{x:OF}(h:Vw K O H v x):decide (v=.non)=isNone x:=by
 cases h with
 |rep h=>cases h <;> rfl
 |raw _ _=>rfl
 |rawD _ _=>rfl
def EY:OF->OF->Option OF
 |x,.none=>vd (.bool (isNone x))
 |_,_=>zc
noncomputable def ie:Z4 X (PC .Is) EY:=⟨_,zbr,λO ts H T v1 v2 x y d Q hc h1 h2 e q=>by
 unfold EY at e;split at e
 .cases e
  exact⟨h2.non,by rw[vx h1];exact q _ H (.refl _ _) hc (.bl _)⟩
 .cases e⟩
def fm:OF->OF->Option OF
 |x,.none=>vd (.bool (!isNone x))
 |.bool a,.bool b=>vd (.bool (a != b))
 |_,_=>zc
noncomputable def rQ:Z4 X (PC .IsNot) fm:=⟨_,zta.or zeq,λO ts H T v1 v2 x y d Q hc h1 h2 e q=>by
 unfold fm at e;split at e
 .cases e
  exact .inl ⟨h2.non,by rw[vx h1];exact q _ H (.refl _ _) hc (.bl _)⟩
 .cases e
  exact .inr ⟨_,_,h1.bl,h2.bl,q _ H (.refl _ _) hc (.bl _)⟩
 .cases e⟩
def eS:OF->Bool
 |.none=>xV | .bool _=>xV | .int _=>xV | .str _=>xV
 |_=>zd
noncomputable def Z3:OF->OF->Bool
 |.none,.none=>xV
 |.bool a,.bool b=>a == b
 |.bool a,.int b=>(if a then 1 else 0) == b
 |.int a,.bool b=>a == (if b then 1 else 0)
 |.int a,.int b=>a == b
 |.str a,.str b=>a == b
 |_,_=>zd
def j9(y x:Str):Bool:=!(QG y x 0 y.length 1).isEmpty
noncomputable def EF:OF->OF->Option Bool
 |.str x,.str y=>vd (j9 y x)
 |x,.list ys=>if eS x&&ys.all eS then vd (ys.any λy=>Z3 y x) else zc
 |x,.tuple ys=>if eS x&&ys.all eS then vd (ys.any λy=>Z3 y x) else zc
 |_,_=>zc
noncomputable def rX{K:Frag}{O:Addr->Prop}{H:Hp}{v:V}{x:OF}(h:Rep K O H v x)(e:eS x=xV):gN v=xV:=by cases h <;> first|rfl|cases e
noncomputable def zfs{K:Frag}{O:Addr->Prop}{H:Hp}{v u:V}{x y:OF}(h:Rep K O H v x)(g:Rep K O H u y)(ex:eS x=xV)(ey:eS y=xV):Bo v u=Z3 x y:=by cases h <;> cases g <;> first|rfl|cases ex|cases ey
theorem rj{K:Frag}{O:Addr->Prop}{H:Hp}:∀{vs:List V}{xs:List OF},Yw K O H vs xs->xs.all eS=xV->vs.all gN=xV
 |_,_,.nil,_=>rfl
 |_,_,.cons r t,e=>by
  rw[R4,OW] at e;rw[R4,rX r e.1,rj t e.2];rfl
theorem su{K:Frag}{O:Addr->Prop}{H:Hp}{v:V}{x:OF}(h:Rep K O H v x)(ex:eS x=xV):∀{vs:List V}{xs:List OF},Yw K O H vs xs->xs.all eS=xV->(vs.any λy=>Bo y v)=xs.any λy=>Z3 y x
 |_,_,.nil,_=>rfl
 |_,_,.cons r t,e=>by
  rw[R4,OW] at e;rw[SS,SS,zfs r h e.1 ex,su h ex t e.2]
def Vw.flat{K:Frag}{O:Addr->Prop}{H:Hp}{v:V}{x:OF}(h:Vw K O H v x)(e:eS x=xV):Rep K O H v x:=by
 cases h with
 |rep h=>exact h
 |raw _ _=>cases e
 |rawD _ _=>cases e
def inD(x y:OF):Option PyData:=(EF x y).map .bool
def dk(x y:OF):Option PyData:=(EF x y).map λb=>.bool (!b)
noncomputable def yW{K:Frag}(neg:Bool):i9 K (λx y H Q=>(∃i j,x=.str i/\y=.str j/\Q (.bl (if neg then !(j9 j i) else j9 j i)) H)\/CC K neg x y H Q) (λx y=>(EF x y).map λb=>.bool (if neg then !b else b)):=λO ts H T v1 v2 x y d Q hc h1 h2 e q=>by
 obtain⟨b,e1,rfl⟩:=OT.mp e;unfold EF at e1;split at e1
 .cases e1
  exact .inl ⟨_,_,h1.str,h2.str,q _ H (.refl _ _) hc (.bl _)⟩
 .split at e1
  .rename_i hf
   cases e1;rw[OW] at hf;obtain⟨a,vs,rfl,t,r⟩:=h2.lst;have r1:=h1.flat hf.1;refine .inr ⟨a,vs,rfl,.inl t,rX r1 hf.1,rj r hf.2,?_⟩;have z:IM v1 vs=_:=su r1 hf.1 r hf.2;rw[z];exact q _ H (.refl _ _) hc (.bl _)
  .cases e1
 .split at e1
  .rename_i hf
   cases e1;rw[OW] at hf;obtain⟨a,vs,rfl,t,r⟩:=h2.tup;have r1:=h1.flat hf.1;refine .inr ⟨a,vs,rfl,.inr t.sq,rX r1 hf.1,rj r hf.2,?_⟩;have z:IM v1 vs=_:=su r1 hf.1 r hf.2;rw[z];exact q _ H (.refl _ _) hc (.bl _)
  .cases e1
 .cases e1
def ei:Z4 X (PC .In) inD:=⟨_,zsz.or zdc,yW zd⟩
def oq:Z4 X (PC .NotIn) dk:=⟨_,ztb.or zdd,yW xV⟩
def lu:OF->Option OF
 |.int i=>vd (.int (-i))
 |_=>zc
noncomputable def sY(ha:DE X a fa):DE X (.UnaryOp .USub a pos) (Y8 lu fa):=zfe zbk (λO ts H T v x d Q hc h e q=>by
 unfold lu at e;split at e
 .cases e
  exact⟨_,h.int,q _ H (.refl _ _) hc (.int _)⟩
 .cases e) ha
noncomputable def Ze:OF->OF->Option OF
 |.list xs,.int i=>Zd xs i
 |.tuple xs,.int i=>Zd xs i
 |.str z,.int i=>if z.length<=OO then (Zd z.cps.toList i).map λc=>.str ⟨#[c]⟩ else zc
 |_,_=>zc
noncomputable def xN{K:Frag}{O:Addr->Prop}{H:Hp}{vs:List V}{xs:List OF}{i:Int}{d:OF}(r:Yw K O H vs xs)(e:Zd xs i=vd d):∃v,Zd vs i=vd v/\Rep K O H v d:=by
 unfold Zd at e ⊢;rw[r.length]
 cases h:Zr _ i with
 |none=>simp_all
 |some j=>
  rw[h] at e;exact r.getD e
noncomputable def bQ:IxD X Ze:=⟨_,zcx,λO ts H T v1 v2 x y d Q hc h1 h2 e q=>by
 unfold Ze at e;split at e
 .obtain⟨a,vs,rfl,t,r⟩:=h1.lst
  obtain⟨v,k1,k2⟩:=xN r e;exact .inl ⟨a,vs,_,v,rfl,h2.int,t,k1,q _ H (.refl _ _) hc k2⟩
 .obtain⟨a,vs,rfl,t,r⟩:=h1.tup
  obtain⟨v,k1,k2⟩:=xN r e;exact .inr (.inl ⟨a,vs,_,v,rfl,h2.int,t.sq,k1,q _ H (.refl _ _) hc k2⟩)
 .split at e
  .rename_i hz
   obtain⟨c,k1,rfl⟩:=OT.mp e;exact .inr (.inr ⟨_,_,c,h1.str,h2.int,hz,k1,q _ H (.refl _ _) hc (.str _)⟩)
  .cases e
 .cases e⟩
end
noncomputable def zft{prog:Pb}{w:Pp}{A:Pw}{E:OH->OJ->Prop}{s:OJ}{t sl:Addr}{items:Array OH}{vl vu:OH}{lo hi:Option Int}{Q:OH->OJ->Prop}(ht:XH s.heap t items)(hs:s.heap.IsSliceOf sl vl vu .none)(pl:Ut vl lo)(pu:Ut vu hi)
  (hw:HT.Y0 items.size 0 lo=0/\HT.Y0 items.size items.size hi=items.size) (h:Q (.ref t) s):Pk (Pi prog w) A (SR (.ref t) (.ref sl)) Q E s:=by
 obtain⟨os,Kl,Et,K3⟩:=id hs;have JN:s.TypeIs (.ref sl) "slice":=⟨os,Kl,Et⟩;unfold SR
 try with_reducible refine Q5 ?_
 refine ON (VY ht.typeIs (rfl) ?_)
 refine ON (Ud  ht.typeIs P7
  (Wf P7 ht.typeIs Vm ?_ (VF _ _)))
 show Pk _ _ (Th (.ref t) >>= _) _ _ s;refine ON (Vy ht ?_);refine ON (Uu JN ?_);rw[if_pos (by rfl)];refine ON (HT.ug hs pl pu ?_)
 have ID:((((HT.Y0 items.size 0 lo:Nat):Int) == 0&&(1:Int) == 1&&(HT.Y0 items.size items.size hi-HT.Y0 items.size 0 lo) == items.size)=xV):=by simp_all
 show Pk _ _ (if _=xV then _ else _) _ _ s;rw[if_pos ID];refine ON  (ON (Uu ht.typeIs (Pg ?_)))
 first
 |omega
 |(exact ON (wpAny_rule (Pg ⟨_,rfl,Pg h⟩)))
noncomputable def aQ{α:Type}(xs:List α)(lo hi:Option Int):List α:=(xs.drop (HT.Y0 xs.length 0 lo)).take (HT.Y0 xs.length xs.length hi-HT.Y0 xs.length 0 lo)
def Yw.cut{K:Frag}{O:Addr->Prop}{H:Hp}{vs:List V}{ds:List OF}(r:Yw K O H vs ds)(lo hi:Option Int):Yw K O H (ka vs lo hi) (aQ ds lo hi):=by
 unfold ka aQ;rw[r.length];exact(r.drop _).take _
noncomputable def zfu{α:Type}{xs:List α}{lo hi:Option Int}(h:HT.Y0 xs.length 0 lo=0/\HT.Y0 xs.length xs.length hi=xs.length):aQ xs lo hi=xs:=by unfold aQ<;>simp_all
section
variable {X:Cx}
noncomputable def C1:E2 X (λx lo hi H Q=>∃a xs,x=.ref a/\ZV X.K H a xs/\((HT.Y0 xs.length 0 lo=0/\HT.Y0 xs.length xs.length hi=xs.length)->Q (.ref a) H) /\
  (¬(HT.Y0 xs.length 0 lo=0/\HT.Y0 xs.length xs.length hi=xs.length)->∀p,H p=zc->Q (.ref p) (upd H p (.tup (ka xs lo hi))))):=by
 intro pins s σ H x v vl vu lo hi sl Q I rx hs pl pu h;obtain⟨a,xs,rfl,hx,q1,q2⟩:=h
 by_cases hw:HT.Y0 xs.length 0 lo=0/\HT.Y0 xs.length xs.length hi=xs.length
 .cases rx
  obtain⟨Yu,r,ht,hz⟩:=I.tuple hx
  have YH:Yu.toArray.size=xs.length:=by exact r.length.symm
  refine⟨"tuple",_,P7.lookup,ht.typeIs,?_⟩;exact zft ht hs pl pu (by rw[YH];exact hw) ⟨.ref a,H,I,rfl,q1 hw⟩
 .exact zcu pins s σ H _ v vl vu lo hi sl Q I rx hs pl pu ⟨a,xs,rfl,hx,hw,q2 hw⟩
noncomputable def gz(x:OF)(lo hi:Option Int):Option PyData:=match x with
 |.list xs=>vd (.list (aQ xs lo hi))
 |.tuple xs=>vd (.tuple (aQ xs lo hi))
 |.str z=>if z.length<=OO then vd (.str (Pv z lo hi)) else zc
 |_=>zc
abbrev FO:=Yy->Tp->Option (Option Int×Tp)
def aS:FO:=λ_ T=>vd (zc,T)
def fP(f:FE):FO:=λρ T=>Yz (f ρ T) λw T1=>match w with
 |.d (.int i)=>vd (vd i,T1)
 |_=>zc
inductive GM(K:Frag)(f:FO)(σ:L2.St)(H:Hp)(Q:Option Int->Hp->Prop):Prop where
 |mk (O:Addr->Prop) (ts:List Addr) (ρ:Yy) (T:Tp) (o:Option Int) (T':Tp) (hc:HC K O ts H T) (re:Zj K O ts H σ ρ) (e:f ρ T=vd (o,T')) (q:∀H',YB ts H H'->HC K O ts H' T'->Q o H'):GM K f σ H Q
def KA(K:Frag)(f:FO):TO:=λσ H Q=>GM K f σ H Q
structure DO(X:Cx)(e:Option Expr)(f:FO):Prop where
 pe:PO X e (KA X.K f)
def y6(h:PO X e t)(i:∀σ H Q,t' σ H Q->t σ H Q):PO X e t':=λpins s σ H Q I q=>h pins s σ H Q I (i σ H Q q)
noncomputable def bP:DO X zc aS:=by
 refine⟨?_⟩;refine y6 zcr λσ H Q=>?_;rintro⟨O,ts,ρ,T,o,T',hc,re,e,q⟩;cases e;exact q H (.refl _ _) hc
noncomputable def bi(h:DE X e f):DO X (vd e) (fP f):=by
 refine⟨?_⟩;refine y6 (zcs h.pe) λσ H Q=>?_;rintro⟨O,ts,ρ,T,o,T',hc,re,e,q⟩;obtain⟨w1,T1,e1,e⟩:=aE e;refine⟨O,ts,ρ,T,w1,T1,hc,re,e1,λv1 H1 s1 Yv r1=>?_⟩;split at e
 .cases e
  cases (r1);exact⟨_,rfl,q H1 s1 Yv⟩
 .cases e
noncomputable def YW(f:FE)(l u:FO):FE:=λρ T=>Yz (f ρ T) λw T1=>Yz (l ρ T1) λlo T2=>Yz (u ρ T2) λhi T3=>Ce (λx=>gz x lo hi) T3 w
noncomputable def bu{e:Expr}{lo hi:Option Expr}{f:FE}{l u:FO}{pos p2:Pos}(he:DE X e f)(hl:DO X lo l)(hu:DO X hi u):DE X (.Subscript e (.Slice lo hi zc p2) pos) (YW f l u):=by
 refine⟨?_⟩;refine pe_imp (zct (Dp.or (C1.or zer)) he.pe hl.pe hu.pe) λσ H Q=>?_;rintro⟨O,ts,ρ,T,w,T',hc,re,e,q⟩;obtain⟨w1,T1,e1,e⟩:=aE e;obtain⟨o1,T2,e2,e⟩:=aE e;obtain⟨o2,T3,e3,e⟩:=aE e;obtain⟨x,d,h1,h3,rfl,rfl⟩:=kK e;refine⟨O,ts,ρ,T,w1,T1,hc,re,e1,λv1 H1 s1 Yv r1=>?_⟩;refine⟨O,ts,ρ,T1,o1,T2,Yv,re.mono hc s1,e2,λH2 s2 YE=>?_⟩;refine⟨O,ts,ρ,T2,o2,T',YE,re.mono hc (s1.trans s2),e3,λH3 s3 Zf=>?_⟩;have vw:=Zf.view (r1.mono Yv (s2.trans s3)) h1;have q':=λv H' s c r=>q v H' (s1.trans (s2.trans (s3.trans s))) c r;clear q
 cases x with
 |list xs=>
  cases h3;obtain⟨a,vs,rfl,t,r⟩:=vw.lst;exact .inl ⟨a,vs,rfl,t,λp hp=>q' _ _ (.new hp _) (Zf.new hp _) (Zf.newL hp (r.cut _ _))⟩
 |tuple xs=>
  cases h3;obtain⟨a,vs,rfl,t,r⟩:=vw.tup;refine .inr (.inl ⟨a,vs,rfl,t.sq,λhw=>?_,λhw p hp=>?_⟩)
  .rw[r.length] at hw
   rw[zfu hw] at q';exact q' _ H3 (.refl _ _) Zf vw.tupR
  .exact q' _ _ (.new hp _) (Zf.new hp _) (Zf.newT hp (r.cut _ _))
 |str z=>
  have EJ:(if z.length<=OO then vd _ else zc)=vd d:=h3;split at EJ
  .rename_i hz
   cases EJ;exact .inr (.inr ⟨z,vw.str,hz,q' _ H3 (.refl _ _) Zf (.str _)⟩)
  .cases EJ
 |_=>cases h3
end
inductive Kd where
 |non|bl|int|str|tup|lst|dct
 deriving DecidableEq
def Kd.name:Kd->String
 |.non=>"NoneType" | .bl=>"bool" | .int=>"int" | .str=>"str" | .tup=>"tuple" | .lst=>"list" | .dct=>"dict"
noncomputable def kd:OF->Kd
 |.none=>.non | .bool _=>.bl | .int _=>.int | .str _=>.str | .list _=>.lst | .tuple _=>.tup | .dict _=>.dct
def cC(a b:Kd):Bool:=decide (a=b)||(decide (a=.bl)&&decide (b=.int))
noncomputable def Lw(t c:String):Option Bool:=if (Rk t == Rk c)=xV then vd xV else if WH c=xV then (fastBuiltinMro t).map (·.contains (.type c)) else zc
noncomputable def jv(a b:Kd):b≠.non->Lw a.name b.name=vd (cC a b):=by cases a <;> cases b <;> first|(intro h;exact absurd rfl h)|(intro _;decide +kernel)
section
variable {X:Cx}
noncomputable def zfv:YV X (.builtin "isinstance") (λxs H Q=>∃(x:V) (c:Kd) (O:Addr->Prop) (d:OF),xs=[x,.ty c.name]/\Vw X.K O H x d/\c≠.non/\Q (.bl (cC (kd d) c)) H):=by
 intro pins s σ H xs us Q I r h;obtain⟨x,c,O,d,rfl,vw,hc,q⟩:=h;obtain⟨u,w',rfl,ru,Zc⟩:=vals2 r;cases (Zc);have fin:∀tk,EP X pins σ Q _ { s with toks:=tk }:=λtk=>⟨.bl _,H,I.tok _,rfl,q⟩
 cases d with
 |none=>cases vw.non;exact nI I ru .non (jv .non c hc) fin
 |bool b=>cases vw.bl;exact nI I ru (.bl b) (jv .bl c hc) fin
 |int i=>cases vw.int;exact nI I ru (.int i) (jv .int c hc) fin
 |str z=>cases vw.str;exact nI I ru (.str z) (jv .str c hc) fin
 |list ds=>
  obtain⟨a,vs,rfl,t,r⟩:=vw.lst;cases (show u=Pr a from ru);obtain⟨Yu,_,pl,_⟩:=I.list t;obtain⟨o,n,e,c1,_⟩:=pl;exact PX TH I.kIn ⟨o,e,c1⟩ (jv .lst c hc) (λz=>nomatch z) fin
 |tuple ds=>
  obtain⟨a,vs,rfl,t,r⟩:=vw.tup;cases (show u=Pr a from ru);obtain⟨Yu,_,pl,_⟩:=I.tuple t.sq;obtain⟨o,e,c1,_⟩:=pl;exact PX VE I.kIn ⟨o,e,c1⟩ (jv .tup c hc) (λz=>nomatch z) fin
 |dict ds=>
  obtain⟨a,vs,rfl,t,r⟩:=vw.dct;cases (show u=Pr a from ru);obtain⟨_,_,_,_,o,_,_,e,c1,_⟩:=jT I.hok t;exact PX TJ I.kIn ⟨o,e,c1.1⟩ (jv .dct c hc) (λz=>nomatch z) fin
def bN(c:Kd)(x:OF):Option PyData:=vd (.bool (cC (kd x) c))
noncomputable def bV(c:Kd)(hi:X.mg "isinstance"=zc)(he:DE X e f)(hm:X.mg T=zc)(hb:Qy T=vd (.type c.name))(hcn:autoParam (c≠.non) u11)(hg:autoParam (Gl X "isinstance") u10)(hT:autoParam (Gl X T) u10)(hn:autoParam (T≠"__name__") u11)(YU:autoParam ((T == ("__debug__" : Str))=zd) u11)
  (hs:autoParam (OM [e,.Name T p] X.env=(zd,eval e X.env)::OM [.Name T p] X.env) u12) (FX:autoParam (OM [.Name T p] X.env=(zd,eval (.Name T p) X.env)::OM [] X.env) u12)
  (Y1:autoParam ((PK pos (OM [.Name T p] X.env)).any (·.1)=zd) u13):DE X (.Call (.Name "isinstance" p') [e,.Name T p] [] pos) (Y8 (bN c) f):=by
 refine⟨?_⟩;refine pe_imp (nX zfv hg hi RM (br he.pe (br (zsn (v:=.ty _) hT hm hb rfl hn YU) cu FX) hs) (by decide) (rfl) hs Y1) λσ H Q=>?_;rintro⟨O,ts,ρ,T,w,T',hc,re,e,q⟩;obtain⟨w1,T1,e1,e⟩:=aE e;obtain⟨x,d,h1,h3,rfl,rfl⟩:=kK e;cases h3;refine⟨O,ts,ρ,T,w1,T',hc,re,e1,λv1 H1 s1 Yv r1=>?_⟩;exact⟨v1,c,O,x,rfl,Yv.view r1 h1,hcn,q _ H1 s1 Yv (.bl _)⟩
noncomputable def aP:List OF->Option OF
 |[.list xs]=>vd (.int xs.length)
 |[.tuple xs]=>vd (.int xs.length)
 |[.str z]=>if z.length<=OO then vd (.int z.length) else zc
 |[.dict kvs]=>vd (.int kvs.length)
 |_=>zc
noncomputable def dm{K:Frag}{O:Addr->Prop}{H:Hp}{vs:List V}{x:OF}(h:JP K O H vs [x]):∃v,vs=[v]/\Vw K O H v x:=by cases h with|cons h t=>cases t;exact⟨_,rfl,h⟩
noncomputable def zfw{K:Frag}{O:Addr->Prop}{H:Hp}{vs:List V}{x y:OF}(h:JP K O H vs [x,y]):∃v u,vs=[v,u]/\Vw K O H v x/\Vw K O H u y:=by cases h with|cons h t=>cases t with|cons h' t=>cases t;exact⟨_,_,rfl,h,h'⟩
theorem wj{K:Frag}{O:Addr->Prop}{H:Hp}:∀{kvs:List (Key×V)}{ds:List (OF×OF)},YN K O H kvs ds->kvs.length=ds.length
 |_,_,.nil=>rfl
 |_,_,.cons _ t=>congrArg _ (wj t)
noncomputable def zfx:YV X (.builtin "len") (λxs H Q=>∃a kvs,xs=[V.ref a]/\Rd H a (.dK kvs)/\Q (.int kvs.length) H):=by
 intro pins s σ H xs us Q I r h;obtain⟨a,kvs,rfl,ha,q⟩:=h;obtain⟨u,rfl,ru⟩:=vals1 r;cases ru;exact zdo I ha λt s' I'=>⟨.int _,H,I',⟨t,rfl⟩,q⟩
noncomputable def zfy:eV X (.builtin "len") aP:=⟨_,C4.or (C0.or zfx),λO ts H T vs xs d Q hc h e q=>by
 unfold aP at e;split at e
 .cases e
  obtain⟨v,rfl,g⟩:=dm h;obtain⟨a,vs,rfl,t,r⟩:=g.lst;exact .inl ⟨a,vs,rfl,.inl t,by rw[r.length];exact q _ H (.refl _ _) hc (.int _)⟩
 .cases e
  obtain⟨v,rfl,g⟩:=dm h;obtain⟨a,vs,rfl,t,r⟩:=g.tup;exact .inl ⟨a,vs,rfl,.inr t.sq,by rw[r.length];exact q _ H (.refl _ _) hc (.int _)⟩
 .split at e
  .rename_i hz
   cases e;obtain⟨v,rfl,g⟩:=dm h;cases g.str;exact .inr (.inl ⟨_,rfl,hz,q _ H (.refl _ _) hc (.int _)⟩)
  .cases e
 .cases e
  obtain⟨v,rfl,g⟩:=dm h;obtain⟨a,kvs,rfl,t,r⟩:=g.dct;exact .inr (.inr ⟨a,kvs,rfl,t,by rw[wj r];exact q _ H (.refl _ _) hc (.int _)⟩)
 .cases e⟩
def nj:List OF->Option OF
 |[.int i]=>vd (.int (if i<0 then -i else i))
 |_=>zc
noncomputable def As:eV X (.builtin "abs") nj:=⟨_,zby,λO ts H T vs xs d Q hc h e q=>by
 unfold nj at e;split at e
 .cases e
  obtain⟨v,rfl,g⟩:=dm h;cases g.int;exact⟨_,rfl,q _ H (.refl _ _) hc (.int _)⟩
 .cases e⟩
def Kz:List OF->Option OF
 |[.int i,.int j]=>vd (.int (if j>i then j else i))
 |_=>zc
def jP:List OF->Option OF
 |[.int i,.int j]=>vd (.int (if j<i then j else i))
 |_=>zc
noncomputable def pT(hc:autoParam (X.calm=xV) u10):eV X (.builtin "min") jP:=⟨_,zbz hc,λO ts H T vs xs d Q hc h e q=>by
 unfold jP at e;split at e
 .cases e
  obtain⟨v,u,rfl,g,g'⟩:=zfw h;cases g.int;cases g'.int;exact⟨_,_,rfl,q _ H (.refl _ _) hc (.int _)⟩
 .cases e⟩
def kU:List OF->Option (List Bool)
 |[]=>vd []
 |.bool b::r=>(kU r).map (b::·)
 |_=>zc
def lg:List OF->Option (List Int)
 |[]=>vd []
 |.int b::r=>(lg r).map (b::·)
 |_=>zc
def d7:List OF->Option (List Str)
 |[]=>vd []
 |.str b::r=>(d7 r).map (b::·)
 |_=>zc
theorem wW{K:Frag}{O:Addr->Prop}{H:Hp}:∀{vs:List V}{xs:List OF}{bs:List Bool},Yw K O H vs xs->kU xs=vd bs->vs=bs.map V.bl
 |_,_,_,.nil,e=>by cases e;rfl
 |_,x::r,bs,.cons h t,e=>by
  cases x with
  |bool b=>
   obtain⟨cs,e1,rfl⟩:=OT.mp (e);cases h;rw[wW t e1];rfl
  |_=>cases e
theorem wF{K:Frag}{O:Addr->Prop}{H:Hp}:∀{vs:List V}{xs:List OF}{bs:List Int},Yw K O H vs xs->lg xs=vd bs->vs=bs.map V.int
 |_,_,_,.nil,e=>by cases e;rfl
 |_,x::r,bs,.cons h t,e=>by
  cases x with
  |int b=>
   obtain⟨cs,e1,rfl⟩:=OT.mp (e);cases h;rw[wF t e1];rfl
  |_=>cases e
theorem me{K:Frag}{O:Addr->Prop}{H:Hp}:∀{vs:List V}{xs:List OF}{bs:List Str},Yw K O H vs xs->d7 xs=vd bs->vs=bs.map V.str
 |_,_,_,.nil,e=>by cases e;rfl
 |_,x::r,bs,.cons h t,e=>by
  cases x with
  |str b=>
   obtain⟨cs,e1,rfl⟩:=OT.mp (e);cases h;rw[me t e1];rfl
  |_=>cases e
def lB:List OF->Option OF
 |[.list xs]=>(kU xs).map λbs=>.bool (bs.all id)
 |_=>zc
noncomputable def tM(hc:autoParam (X.calm=xV) u10):eV X (.builtin "all") lB:=⟨_,zen hc,λO ts H T vs xs d Q hc h e q=>by
 unfold lB at e;split at e
 .obtain⟨bs,e1,rfl⟩:=OT.mp e
  obtain⟨v,rfl,g⟩:=dm h;obtain⟨a,vs,rfl,t,r⟩:=g.lst;rw[wW r e1] at t;exact⟨a,bs,rfl,t,q _ H (.refl _ _) hc (.bl _)⟩
 .cases e⟩
def jY:List OF->Option OF
 |[.list xs]=>(lg xs).map λbs=>.int bs.sum
 |_=>zc
noncomputable def tK(hc:autoParam (X.calm=xV) u10):eV X (.builtin "sum") jY:=⟨_,zep hc,λO ts H T vs xs d Q hc h e q=>by
 unfold jY at e;split at e
 .obtain⟨bs,e1,rfl⟩:=OT.mp e
  obtain⟨v,rfl,g⟩:=dm h;obtain⟨a,vs,rfl,t,r⟩:=g.lst;rw[wF r e1] at t;exact⟨a,bs,rfl,t,q _ H (.refl _ _) hc (.int _)⟩
 .cases e⟩
def dE:List OF->Option OF
 |[.int i]=>if i.natAbs.log2<1920 then vd (.str (toString i)) else zc
 |_=>zc
noncomputable def jW:eV X (.type "str") dE:=⟨_,ztg,λO ts H T vs xs d Q hc h e q=>by
 unfold dE at e;split at e
 .split at e
  .rename_i hz
   cases e;obtain⟨v,rfl,g⟩:=dm h;cases g.int;exact⟨_,rfl,hz,q _ H (.refl _ _) hc (.str _)⟩
  .cases e
 .cases e⟩
def eM:List OF->Option OF
 |[.list xs]=>vd (.tuple xs)
 |[.tuple xs]=>vd (.tuple xs)
 |_=>zc
noncomputable def hW:eV X (.type "tuple") eM:=⟨_,zdf,λO ts H T vs xs d Q hc h e q=>by
 unfold eM at e;split at e
 .cases e
  obtain⟨v,rfl,g⟩:=dm h;obtain⟨a,vs,rfl,t,r⟩:=g.lst;exact⟨a,vs,rfl,.inl ⟨t,λp hp=>q _ _ (.new hp _) (hc.new hp _) (hc.newT hp r)⟩⟩
 .cases e
  obtain⟨v,rfl,g⟩:=dm h;obtain⟨a,vs,e1,t,r⟩:=g.tup;subst e1;exact⟨a,vs,rfl,.inr ⟨t.sq,q _ H (.refl _ _) hc (.tup t r)⟩⟩
 .cases e⟩
def iS:List OF->Option OF
 |[.list xs]=>vd (.list xs)
 |[.tuple xs]=>vd (.list xs)
 |_=>zc
noncomputable def pj:eV X (.type "list") iS:=⟨_,zde,λO ts H T vs xs d Q hc h e q=>by
 unfold iS at e;split at e
 .cases e
  obtain⟨v,rfl,g⟩:=dm h;obtain⟨a,vs,rfl,t,r⟩:=g.lst;exact⟨a,vs,rfl,.inl t,λp hp=>q _ _ (.new hp _) (hc.new hp _) (hc.newL hp r)⟩
 .cases e
  obtain⟨v,rfl,g⟩:=dm h;obtain⟨a,vs,rfl,t,r⟩:=g.tup;exact⟨a,vs,rfl,.inr t.sq,λp hp=>q _ _ (.new hp _) (hc.new hp _) (hc.newL hp r)⟩
 .cases e⟩
noncomputable def Iz:Jf X "str.join" (λx vs H Q=>∃(z:Str) (l:Addr) (ys:List Str),x=.str z/\vs=[.ref l]/\Zm X.K H l (ys.map V.str)/\(ys.map (·.length)).sum+ys.length*z.length<=16777216/\Q (.str (Py z ys)) H):=by
 intro pins s σ H x vs v us Q I rx rv h;obtain⟨z,l,ys,rfl,rfl,hq,hz,q⟩:=h;obtain⟨t,rfl⟩:=rx;obtain⟨u,rfl,ru⟩:=vals1 rv;cases ru;obtain⟨Yu,Zc,pl,_⟩:=I.list hq;refine join_list  pl.isList (by simpa using uB Zc) hz λt' k=>⟨.str _,H,I.tok _,⟨t',?_⟩,q⟩;show Tc (V5 z ys) t'=_;rw[UT]
noncomputable def ic:OF->OF->Option OF
 |.str z,.list xs=>match d7 xs with
  |some ys=>if (ys.map (·.length)).sum+ys.length*z.length<=16777216 then vd (.str (Py z ys)) else zc
  |none=>zc
 |_,_=>zc
noncomputable def si(ho:DE X o fo)(he:DE X e fe)
  (YY:autoParam (P1 o "join" X.env (eval o X.env)=eval o X.env) u10)
  (Zx:autoParam (((PK cpos (OM [e] X.env)).all (λx=>!x.1)&&(QS cpos (Qb [] X.env)).all (λx=>x.1.isSome)
   && decide (([e]:List Expr).length+([]:List QR).length+(if ([]:List QR).isEmpty then 0 else 1)<30))=xV) u20)
  (YX:autoParam ((apos.endLine == cpos.line)=xV) u10) (Zy:autoParam (OM [e] X.env=(zd,eval e X.env)::OM [] X.env) u12) (YQ:autoParam ((PK cpos (OM [] X.env)).any (·.1)=zd) u13) :
  DE X (.Call (.Attribute o "join" apos) [e] [] cpos) (ag ic fo fe):=by
 refine⟨?_⟩;refine pe_imp (iP Q2 UU UV Iz ho.pe (br he.pe cu Zy) YY Zx YX Zy YQ) λσ H Q=>?_;rintro⟨O,ts,ρ,T,w,T',hc,re,e,q⟩;obtain⟨w1,T1,e1,e⟩:=aE e;obtain⟨w2,T2,e2,e⟩:=aE e;obtain⟨x,y,d,h1,h2,h3,rfl,rfl⟩:=gE e;unfold ic at h3;split at h3
 .rename_i z xs
  split at h3
  .rename_i ys hy
   split at h3
   .rename_i hz
    cases h3;refine⟨O,ts,ρ,T,w1,T1,hc,re,e1,λv1 H1 s1 Yv r1=>?_⟩
    have ev:v1=.str z:=by
     cases w1 with
     |d x=>cases h1;cases (show Rep X.K O H1 v1 _ from r1);rfl
     | tp k=>exact(by
       have Bf:(T'[k]?).bind ll=vd (QC z):=h1
       cases hk:T'[k]? with
       |none=>simp_all
       |some xs=>
        rw[hk] at Bf;have e2:(if EZ xs=xV then zc else vd (U6 xs))=vd (QC z):=Bf
        split at e2 <;> cases e2)
     |loc zs=>cases zs <;> cases h1
    subst ev;refine⟨rfl,O,ts,ρ,T1,w2,T',Yv,re.mono hc s1,e2,λv2 H2 s2 YE r2=>?_⟩;obtain⟨a,vs,rfl,t,r⟩:=(YE.view r2 h2).lst;rw[me r hy] at t;exact⟨z,a,ys,rfl,rfl,t,hz,q _ H2 (s1.trans s2) YE (.str _)⟩
   .cases h3
  .cases h3
 .cases h3
end
mutual
def mN:OF->Bool
 |.list _=>zd
 |.tuple ds=>oS ds
 |.dict kvs=>oU kvs
 |.none | .bool _ | .int _ | .str _=>xV
def oS:List OF->Bool
 |[]=>xV
 |d::r=>mN d&&oS r
def oU:List (OF×OF)->Bool
 |[]=>xV
 |(_,v)::r=>mN v&&oU r
end
section
variable {X:Cx}{pins:List (Addr×Obj)}{σ:L2.St}{H:Hp}{s:OJ}{O:Addr->Prop}
noncomputable def zfz(e:iT k v=xV):Reads h v (ni k) []:=by
 rcases fJ e with⟨i,t,rfl,rfl⟩|⟨x,t,rfl,rfl⟩
 .exact .int i t
 .exact .str x t
mutual
theorem Rep.reads(I:Inv X pins σ H s):∀{v:V}{d:OF}{u:OH},Rep X.K O H v d->RelV v u->∃as,Reads s.heap u d as/\(mN d=xV->Qv∉as)
 |_,_,_,.non,r=>by cases r;exact⟨_,.none,λ_=>by simp⟩
 |_,_,_,.bl b,r=>by cases r;exact⟨_,.bool b,λ_=>by simp⟩
 |_,_,_,.int i,r=>by obtain⟨t,rfl⟩:=r;exact⟨_,.int i t,λ_=>by simp⟩
 |_,_,_,.str x,r=>by obtain⟨t,rfl⟩:=r;exact⟨_,.str x t,λ_=>by simp⟩
 |_,_,_,.tup (a:=a) (vs:=vs) h rs,r=>by
  cases r;obtain⟨Yu,rv,⟨o,e,c,n,dd⟩,_⟩:=I.tuple h.sq;obtain⟨as,q,f⟩:=Yw.reads I rs rv;exact⟨as,.tuple e c dd (by simpa using q),f⟩
 |_,_,_,.lst (a:=a) (vs:=vs) h rs,r=>by
  cases r;obtain⟨Yu,rv,pl,_⟩:=I.list h.sq;obtain⟨o,n,e,c,_,dd⟩:=pl;obtain⟨as,q,f⟩:=Yw.reads I rs rv;exact⟨_,.list e c dd (by simpa using q),λz=>by cases z⟩
 |_,_,_,.dct (a:=a) (kvs:=kvs) (ds:=ds) _ h rk,r=>by
  cases r;obtain⟨z,y,vs,kv,o,es,ep,e,ed,dd,_,ek,_⟩:=(show YM X.prog X.w H s.heap a (.dK kvs) from(I.hok a _ h).2);obtain⟨bs,q1,q2,f⟩:=YN.reads I rk kv ek;refine⟨_,.dict (kvs:=ds) (as:=[]) (bs:=bs) e ed.1 dd q1 q2,λzz hm=>?_⟩
  rcases OZ.mp (by simpa using hm:Qv∈a::bs) with q|q
  .rw[q] at y
   simp at y
  .exact f zz q
theorem Yw.reads(I:Inv X pins σ H s):∀{vs:List V}{ds:List OF}{us:List OH},Yw X.K O H vs ds->Yx vs us->∃as,ReadsAll s.heap us ds as/\(oS ds=xV->Qv∉as)
 |_,_,_,.nil,r=>by cases r;exact⟨_,.nil,λ_=>by simp⟩
 |_,_,_,.cons (d:=d) (ds:=ds) q t,r=>by
  cases r with
  |cons r1 r2=>
   obtain⟨as,h1,f1⟩:=Rep.reads I q r1;obtain⟨bs,h2,f2⟩:=Yw.reads I t r2;refine⟨as++bs,.cons h1 h2,λz=>?_⟩;have z':(mN d&&oS ds)=xV:=z;rw[OW] at z';intro hm
   rcases Pq.mp hm with hm|hm
   .exact f1 z'.1 hm
   .exact f2 z'.2 hm
theorem YN.reads(I:Inv X pins σ H s):∀{kvs:List (Key×V)}{ds:List (OF×OF)}{vs:List (Key×OH)}{es:List XT},YN X.K O H kvs ds->KV kvs vs->Pairs (cD X.prog X.w) es vs ->
  ∃bs,ReadsAll s.heap (es.map (·.key)) (ds.map (·.1)) []/\ReadsAll s.heap (es.map (·.val)) (ds.map (·.2)) bs/\(oU ds=xV->Qv∉bs)
 |_,_,_,_,.nil,r,ek=>by
  cases r;cases ek;exact⟨[],.nil,.nil,λ_=>by simp⟩
 |_,_,_,_,.cons (k:=k) (d:=d) (ds:=ds) q t,r,ek=>by
  cases r with
  |cons r1 r2=>
   cases ek with
   |cons e1 Jc e2=>
    obtain⟨as,h1,f1⟩:=Rep.reads I q r1.2;obtain⟨bs,h2,h3,f2⟩:=YN.reads I t r2 e2;rw[←Jc] at h1;have k1:=zfz (h:=s.heap) (show iT _ _=xV from e1);rw[←r1.1] at k1;refine⟨as++bs,.cons (as:=[]) (bs:=[]) k1 h2,.cons h1 h3,λz=>?_⟩;have z':(mN d&&oU ds)=xV:=z;rw[OW] at z';intro hm
    rcases Pq.mp hm with hm|hm
    .exact f1 z'.1 hm
    .exact f2 z'.2 hm
end
end
structure Df(K:Frag)(name:Str)(st:Stmt):Prop where
 ex:∃(f:Addr) (oc:OH) (od an:Option Addr) (sl:Array (Option OH)) (kV dc pm cd ct:OH),PL K Pt name=vd (vd (.ref f)) /\
  K.lookup f=vd ⟨oc,od,.func (PF name name (bX st) (bt st) (aK st) .none kV dc pm an cd ct),sl⟩/\Ry K cd name=xV/\P5 K (.ref f)=xV
noncomputable def KI{K:Frag}{name:Str}{st:Stmt}{f:Addr}{oc:OH}{od an:Option Addr}{sl:Array (Option OH)}{kV dc pm cd ct:OH}(a:PL K Pt name=vd (vd (.ref f)))
  (l:K.lookup f=vd ⟨oc,od,.func (PF name name (bX st) (bt st) (aK st) .none kV dc pm an cd ct),sl⟩) (c:Ry K cd name=xV) (k:P5 K (.ref f)=xV):Df K name st:=⟨f,oc,od,an,sl,kV,dc,pm,cd,ct,a,l,c,k⟩
def Df.fn{P:Pb}{w:Pp}{K:Frag}{mg:Str->Option OH}{base h:Heap}{name:Str}{st:Stmt}{ps:List Str}{k:Nat}{sp:Sp}(d:Df K name st)(X:K.In h)(G:h.Ns Pt mg)
  (hb:∀(kV doc pm:OH) (an:Option Addr) (YA ct:OH) (us:List OH),us.length=ps.length->QZ (PF name name (bX st) (bt st) (aK st) .none kV doc pm an YA ct) ⟨us,[]⟩=pure (ps.zip us))
  (ok:∀f fd,Gy K name name st f fd->YJ P w K mg base ZA k f fd ps sp):Fn P w K mg base name ps k sp:=by
 obtain⟨f,oc,od,an,sl,kV,dc,pm,cd,ct,a,l,c,kp⟩:=d.ex;have F:=jI  l c kp;exact⟨f,_,ok f _ F,F.binds hb,kp,P3 X G a⟩
noncomputable def zga{P:Pb}{w:Pp}{K:Frag}{mg:Str->Option OH}{base:Heap}{k n:Nat}{f:Addr}{fd:Qm}{ps:List Str}:YJ P w K mg base ZA k f fd ps (Zq K n λ_ _=>zc):=by
 have no:∀vs H Q E,¬Zq K n (λ_ _=>zc) vs H Q E:=λvs H Q E h=>by
  obtain⟨O,ts,T,ws,x,T',_,_,_,e,_⟩:=h;cases e
 exact⟨λvs H Q E h=>absurd h (no vs H Q E),λA outer s H args us vs Q E _ _ _ _ h=>absurd h (no vs H Q E)⟩
noncomputable def pC(K:Frag):Sp:=λvs H Q _=>∃(a:Addr) (ns:List Int),vs=[.ref a]/\Zm K H a (ns.map V.int)/\ns.length<=63/\∀H',Q (.bl xV) H'
def iJ(ns:List Int):PyData:=.list (ns.map .int)
theorem vg{K:Frag}{O:Addr->Prop}{H:Hp}:∀ns:List Int,Yw K O H (ns.map V.int) (ns.map Qj)
 |[]=>.nil
 |_::r=>.cons (.int _) (vg r)
section
variable {α β:Type}{ρ:Yy}{T:Tp}{f g:FE}{c c':FT}{s s':FS}{a:FA}{w w':W}{x y:OF}
@[simp] theorem zw:Yz (vd (b,T)) k=k b T:=rfl
@[simp] theorem Nh:Yz zc k=zc:=rfl
@[simp] theorem Ni[Decidable p]:Yz (if p then u else v) k=if p then Yz u k else Yz v k:=by split <;> rfl
@[simp] theorem pM:aL N s ws T=if dB ws=xV then c9 (s (ws.map vd++OQ (N-ws.length) zc) T) else zc:=rfl
@[simp] theorem nN:dB []=xV:=rfl
@[simp] theorem nL:dB (.d x::r)=dB r:=rfl
@[simp] theorem LQ:dB (.tp i::r)=dB r:=rfl
@[simp] theorem Na:c9 (vd ((.rt x,r),T))=vd (x,T):=rfl
@[simp] theorem Nb:c9 (vd ((.nx,r),T))=vd (.none,T):=rfl
@[simp] theorem Nc[Decidable p]:c9 (if p then u else v)=if p then c9 u else c9 v:=by split <;> rfl
def j4(s':FS)(p:Fl×Yy)(T:Tp):Option ((Fl×Yy)×Tp):=match p with
 |(.nx,YT)=>s' YT T
 |(fl,YT)=>vd ((fl,YT),T)
@[simp] theorem sU:ak s s' ρ T=Yz (s ρ T) (j4 s'):=rfl
@[simp] theorem My:j4 s' (.nx,YT) T=s' YT T:=rfl
@[simp] theorem Mx:j4 s' (.rt x,YT) T=vd ((.rt x,YT),T):=rfl
@[simp] theorem MB:j4 s' (.bk,YT) T=vd ((.bk,YT),T):=rfl
@[simp] theorem MA:j4 s' (.ct,YT) T=vd ((.ct,YT),T):=rfl
@[simp] theorem MO:aD ρ T=vd ((.nx,ρ),T):=rfl
def ifK(s s':FS)(ρ:Yy)(b:Bool)(T1:Tp):Option ((Fl×Yy)×Tp):=if b=xV then s ρ T1 else s' ρ T1
@[simp] theorem KF:YC c s s' ρ T=Yz (c ρ T) (ifK s s' ρ):=rfl
@[simp] theorem N9:ifK s s' ρ b T=if b=xV then s ρ T else s' ρ T:=rfl
def AM(ρ:Yy):W->Tp->Option ((Fl×Yy)×Tp):=λw T1=>match w with
 |.d x=>vd ((.rt x,ρ),T1)
 |_=>zc
@[simp] theorem ND:au f ρ T=Yz (f (cb ρ) T) (AM ρ):=rfl
@[simp] theorem MF:AM ρ (.d x) T=vd ((.rt x,ρ),T):=rfl
@[simp] theorem M9:cb []=[]:=rfl
@[simp] theorem M6:cb (zc::r)=zc::cb r:=rfl
@[simp] theorem M8:cb (vd (.d x)::r)=vd (.d x)::cb r:=rfl
@[simp] theorem M5:cb (vd (.tp i)::r)=vd (.tp i)::cb r:=rfl
@[simp] theorem M7:cb (vd (.loc x)::r)=vd (.d x)::cb r:=rfl
noncomputable def mZ(i:Nat)(ρ:Yy):W->Tp->Option ((Fl×Yy)×Tp):=λw T1=>match w with
 |.d x=>vd ((.nx,ρ.set i (vd (.d x))),T1)
 |.tp k=>vd ((.nx,ρ.set i (vd (.tp k))),T1)
 |.loc _=>zc
@[simp] theorem sT:ay i f ρ T=Yz (f ρ T) (mZ i ρ):=rfl
@[simp] theorem Mw:mZ i ρ (.d x) T=vd ((.nx,ρ.set i (vd (.d x))),T):=rfl
@[simp] theorem Mu:mZ i ρ (.tp k) T=vd ((.nx,ρ.set i (vd (.tp k))),T):=rfl
noncomputable def z4(i:Nat)(ρ:Yy)(T:Tp):Option (List OF)->Option ((Fl×Yy)×Tp)
 |some xs=>if xs.length<=1000 then vd ((.nx,ρ.set i (vd (.loc (.list xs)))),T) else zc
 |none=>zc
@[simp] theorem Mv:fU i a ρ T=Yz (a ρ T) λws T1=>z4 i ρ T1 (fE ws):=rfl
@[simp] theorem L4:z4 i ρ T (vd xs)=if xs.length<=1000 then vd ((.nx,ρ.set i (vd (.loc (.list xs)))),T) else zc:=rfl
noncomputable def Ba(i:Nat)(ρ:Yy)(x:OF)(T:Tp)(o:Option (Option W)):Option ((Fl×Yy)×Tp):=match o with
 |some (vd (.loc (.list xs)))=>if xs.length<OO then vd ((.nx,ρ.set i (vd (.loc (.list (xs++[x]))))),T) else zc
 |_=>zc
noncomputable def A9(i:Nat)(ρ:Yy):W->Tp->Option ((Fl×Yy)×Tp):=λw T1=>match w with
 | .d x=>(match ρ[i]? with
  |some (vd (.loc (.list xs)))=>if xs.length<OO then vd ((.nx,ρ.set i (vd (.loc (.list (xs++[x]))))),T1) else zc
  | _=>zc)
 |_=>zc
@[simp] theorem On:eX i f ρ T=Yz (f ρ T) (A9 i ρ):=rfl
@[simp] theorem Nk:A9 i ρ (.d x) T=Ba i ρ x T ρ[i]?:=rfl
@[simp] theorem Nl:Ba i ρ x T (vd (vd (.loc (.list xs))))=if xs.length<OO then vd ((.nx,ρ.set i (vd (.loc (.list (xs++[x]))))),T) else zc:=rfl
@[simp] theorem Ot:YW f l u ρ T=Yz (f ρ T) λw T1=>Yz (l ρ T1) λlo T2=>Yz (u ρ T2) λhi T3=>Ce (λx=>gz x lo hi) T3 w:=rfl
@[simp] theorem NJ:aS ρ T=vd (zc,T):=rfl
def pK:W->Tp->Option (Option Int×Tp):=λw T1=>match w with
 |.d (.int i)=>vd (vd i,T1)
 |_=>zc
@[simp] theorem OE:fP f ρ T=Yz (f ρ T) pK:=rfl
@[simp] theorem Ou:pK (.d (.int i)) T=vd (vd i,T):=rfl
@[simp] theorem NB{z:Str}{lo hi:Option Int}:gz (.str z) lo hi=if z.length<=OO then vd (.str (Pv z lo hi)) else zc:=rfl
@[simp] theorem NA{xs:List OF}{lo hi:Option Int}:gz (.tuple xs) lo hi=vd (.tuple (aQ xs lo hi)):=rfl
@[simp] theorem NC{xs:List OF}{lo hi:Option Int}:gz (.list xs) lo hi=vd (.list (aQ xs lo hi)):=rfl
@[simp] theorem Nd:fD f ρ T=Yz (f ρ T) λ_ T1=>vd ((.nx,ρ),T1):=rfl
@[simp] theorem yi:aa 0 (vd o::r) T=vd (o,T):=rfl
@[simp] theorem Mm:aa (i+1) (o::r) T=aa i r T:=rfl
@[simp] theorem yh:aa 1 (o::r) T=aa 0 r T :=rfl
@[simp] theorem yg:aa 2 (o::r) T=aa 1 r T :=rfl
@[simp] theorem yf:aa 3 (o::r) T=aa 2 r T :=rfl
@[simp] theorem ye:aa 4 (o::r) T=aa 3 r T :=rfl
@[simp] theorem yd:aa 5 (o::r) T=aa 4 r T :=rfl
@[simp] theorem GZ:aa 6 (o::r) T=aa 5 r T :=rfl
@[simp] theorem Mp:aa 7 (o::r) T=aa 6 r T :=rfl
@[simp] theorem Mo:aa 8 (o::r) T=aa 7 r T :=rfl
@[simp] theorem Mn:aa 9 (o::r) T=aa 8 r T :=rfl
@[simp] theorem A6:fC x ρ T=vd (.d x,T):=rfl
@[simp] theorem Ml:view T (.d x)=vd x:=rfl
@[simp] theorem LY:view T (.tp i)=(T[i]?).bind ll:=rfl
@[simp] theorem MC:ll xs=if EZ xs=xV then zc else vd (.list xs):=rfl
@[simp] theorem Mj:EZ (.list xs::r)=zd:=rfl
@[simp] theorem LZ:view T (.loc (.list xs))=vd (.list xs):=rfl
@[simp] theorem LL:view T (.loc (.dict xs))=vd (.dict xs):=rfl
noncomputable def IX(T:Tp)(o:Option OF):Option (W×Tp):=match o with
 |some d=>vd (.d d,T)
 |none=>zc
@[simp] theorem zu:IX T (vd x)=vd (.d x,T):=rfl
@[simp] theorem MR:IX T zc=zc:=rfl
@[simp] theorem MS[Decidable p]:IX T (if p then u else v)=if p then IX T u else IX T v:=by split <;> rfl
def A8(o:OF->OF->Option OF)(g:FE)(ρ:Yy)(w1:W)(T1:Tp):Option (W×Tp):=Yz (g ρ T1) λw2 T2=>HB o T2 w1 w2
@[simp] theorem zx:ag o f g ρ T=Yz (f ρ T) (A8 o g ρ):=rfl
@[simp] theorem Nj:A8 o g ρ w T=Yz (g ρ T) λw2 T2=>HB o T2 w w2:=rfl
@[simp] theorem zt:HB o T (.d x) (.d y)=IX T (o x y):=rfl
@[simp] theorem MJ:HB o ((.list zs::xs)::r) (.tp 0) (.d y)=IX ((.list zs::xs)::r) (o (.list (.list zs::xs)) y):=rfl
@[simp] theorem Os:Y8 o f ρ T=Yz (f ρ T) λw1 T1=>Ce o T1 w1:=rfl
@[simp] theorem NI:Ce o T (.d x)=IX T (o x):=rfl
@[simp] theorem Om:BG (.d (.bool b))=vd b:=rfl
def AB:W->Tp->Option (Bool×Tp):=λw T1=>match BG w with
 |some b=>vd (b,T1)
 |none=>zc
@[simp] theorem Nw:aq f ρ T=Yz (f ρ T) AB:=rfl
@[simp] theorem Mq:AB (.d (.bool b)) T=vd (b,T):=rfl
@[simp] theorem Nx:bq f ρ T=Yz (f ρ T) λw T1=>pZ T1 w:=rfl
def AC(T:Tp)(o:Option Bool):Option (Bool×Tp):=match o with
 |some b=>vd (b,T)
 |none=>zc
@[simp] theorem Mt:pZ T (.d x)=AC T (pY x):=rfl
@[simp] theorem Mr:AC T (vd b)=vd (b,T):=rfl
@[simp] theorem Ms:pY (.bool b)=vd b:=rfl
def Av(c':FT)(ρ:Yy)(b:Bool)(T1:Tp):Option (Bool×Tp):=if b=xV then c' ρ T1 else vd (zd,T1)
@[simp] theorem Np:eg c c' ρ T=Yz (c ρ T) (Av c' ρ):=rfl
@[simp] theorem Mi:Av c' ρ b T=if b=xV then c' ρ T else vd (zd,T):=rfl
def AS(c':FT)(ρ:Yy)(b:Bool)(T1:Tp):Option (Bool×Tp):=if b=xV then vd (xV,T1) else c' ρ T1
@[simp] theorem NG:bj c c' ρ T=Yz (c ρ T) (AS c' ρ):=rfl
@[simp] theorem MG:AS c' ρ b T=if b=xV then vd (xV,T) else c' ρ T:=rfl
@[simp] theorem MM:dC c ρ T=Yz (c ρ T) λb T1=>vd (!b,T1):=rfl
@[simp] theorem L3:bB ρ T=vd (xV,T):=rfl
noncomputable def Bb(g:FE)(ρ:Yy)(w:W)(T:Tp):Option (W×Tp):=match BG w with
 |some b=>if b=xV then g ρ T else vd (.d (.bool zd),T)
 |none=>zc
@[simp] theorem Nm:bZ f g ρ T=Yz (f ρ T) (Bb g ρ):=rfl
@[simp] theorem Nq:Bb g ρ (.d (.bool b)) T=if b=xV then g ρ T else vd (.d (.bool zd),T):=rfl
noncomputable def orK(g:FE)(ρ:Yy)(w:W)(T:Tp):Option (W×Tp):=match BG w with
 |some b=>if b=xV then vd (.d (.bool xV),T) else g ρ T
 |none=>zc
@[simp] theorem NF:ly f g ρ T=Yz (f ρ T) (orK g ρ):=rfl
@[simp] theorem NH:orK g ρ (.d (.bool b)) T=if b=xV then vd (.d (.bool xV),T) else g ρ T:=rfl
def AW(w:W)(T:Tp):Option (W×Tp):=match BG w with
 |some b=>vd (.d (.bool (!b)),T)
 |none=>zc
@[simp] theorem ML:iW f ρ T=Yz (f ρ T) AW:=rfl
@[simp] theorem MN:AW (.d (.bool b)) T=vd (.d (.bool (!b)),T):=rfl
def AY(f g:FE)(ρ:Yy)(b:Bool)(T1:Tp):Option (W×Tp):=if b=xV then f ρ T1 else g ρ T1
@[simp] theorem Ob:du c f g ρ T=Yz (c ρ T) (AY f g ρ):=rfl
@[simp] theorem M2:AY f g ρ b T=if b=xV then f ρ T else g ρ T:=rfl
noncomputable def chK(o':OF->OF->Option OF)(h:FE)(ρ:Yy)(w2 w:W)(T:Tp):Option (W×Tp):=match BG w with
 |some b=>if b=xV then Yz (h ρ T) λw3 T4=>HB o' T4 w2 w3 else vd (.d (.bool zd),T)
 |none=>zc
@[simp] theorem Mg:kM o o' f g h ρ T=Yz (f ρ T) λw1 T1=>Yz (g ρ T1) λw2 T2=>Yz (HB o T2 w1 w2) (chK o' h ρ w2):=rfl
@[simp] theorem Oj:chK o' h ρ w (.d (.bool b)) T=if b=xV then Yz (h ρ T) λw3 T4=>HB o' T4 w w3 else vd (.d (.bool zd),T):=rfl
@[simp] theorem NK:ah ρ T=vd ([],T):=rfl
def Ar(a:FA)(ρ:Yy)(w:W)(T1:Tp):Option (List W×Tp):=Yz (a ρ T1) λws T2=>vd (w::ws,T2)
@[simp] theorem yj:ae f a ρ T=Yz (f ρ T) (Ar a ρ):=rfl
@[simp] theorem Mf:Ar a ρ w T=Yz (a ρ T) λws T2=>vd (w::ws,T2):=rfl
@[simp] theorem LJ:views T []=vd []:=rfl
def pR(x:OF)(o:Option (List OF)):Option (List OF):=match o with
 |some xs=>vd (x::xs)
 |none=>zc
@[simp] theorem Me:pR x (vd xs)=vd (x::xs):=rfl
@[simp] theorem LX:views T (.d x::r)=pR x (views T r):=rfl
@[simp] theorem LI:views T (.loc (.list xs)::r)=pR (.list xs) (views T r):=rfl
@[simp] theorem LW:fE []=vd []:=rfl
@[simp] theorem Md:fE (.d x::r)=pR x (fE r):=rfl
noncomputable def IH(mk:List OF->OF)(T:Tp):Option (List OF)->Option (W×Tp)
 |some xs=>if xs.length<=1000 then vd (.d (mk xs),T) else zc
 |none=>zc
@[simp] theorem Mz:ax mk a ρ T=Yz (a ρ T) λws T1=>IH mk T1 (fE ws):=rfl
@[simp] theorem Nz:IH mk T (vd xs)=if xs.length<=1000 then vd (.d (mk xs),T) else zc:=rfl
noncomputable def cbK(o:List OF->Option OF)(T:Tp)(v:Option (List OF)):Option (W×Tp):=match v with
 | some xs=>(match o xs with
  |some d=>vd (.d d,T)
  | none=>zc)
 |none=>zc
@[simp] theorem OA:YR o a ρ T=Yz (a ρ T) λws T1=>cbK o T1 (views T1 ws):=rfl
@[simp] theorem Ol:cbK o T (vd xs)=IX T (o xs):=rfl
@[simp] theorem yk:ar m a ρ T=Yz (a ρ T) λws T1=>Yz (m ws T1) λx T2=>vd (.d x,T2):=rfl
@[simp] theorem Nf:bH it c f ρ T=Yz (it ρ T) λds T1=>Yz (bI c f ρ ds T1) λys T2=>vd (.d (.list ys),T2):=rfl
def itK(T:Tp)(o:Option (List OF)):Option (List OF×Tp):=match o with
 |some xs=>vd (xs,T)
 |none=>zc
noncomputable def itW:W->Tp->Option (List OF×Tp):=λw T1=>match w with
 | .d x=>(match jH x with
  |some xs=>vd (xs,T1)
  | none=>zc)
 |_=>zc
@[simp] theorem MX:cQ f ρ T=Yz (f ρ T) itW:=rfl
@[simp] theorem N5:itW (.d x) T=itK T (jH x):=rfl
@[simp] theorem N6:itK T (vd xs)=vd (xs,T):=rfl
@[simp] theorem LU:jH (.list xs)=vd xs:=rfl
@[simp] theorem LV:jH (.dict ds)=vd (ds.map (·.1)):=rfl
@[simp] theorem LR:jH (.tuple xs)=vd xs:=rfl
@[simp] theorem LS:jH (.str z)=if z.length<=OO then vd (signs z) else zc:=rfl
noncomputable def AK:W->Tp->Option (List OF×Tp):=λw T1=>match w with
 |.d (.int j)=>if jM j=xV then vd (bA 0 j.toNat,T1) else zc
 |_=>zc
@[simp] theorem ME:cK f ρ T=Yz (f ρ T) AK:=rfl
@[simp] theorem MD:AK (.d (.int j)) T=if jM j=xV then vd (bA 0 j.toNat,T) else zc:=rfl
@[simp] theorem Of:dX i it s ρ T=Yz (it ρ T) λds T1=>forL i s ds ρ T1:=rfl
@[simp] theorem zr:bo (.int i) (.int j)=vd (.int (i-j)):=rfl
@[simp] theorem NQ:f7 (.int i) (.int j)=if 0<j then vd (.int (i % j)) else zc:=rfl
@[simp] theorem NE:fZ (.int i) (.int j)=if 0<=j/\j<=1000000/\i.natAbs<2^64 then vd (.int (i^j.toNat)) else zc:=rfl
@[simp] theorem Ov:IS (.int i) (.int j)=vd (.bool (decide (i<j))):=rfl
@[simp] theorem Ow:Dv (.int i) (.int j)=vd (.bool (decide (i<=j))):=rfl
@[simp] theorem Oy:Dj (.int i) (.int j)=vd (.bool (decide (j<i))):=rfl
@[simp] theorem Oz:Bx (.int i) (.int j)=vd (.bool (decide (j<=i))):=rfl
@[simp] theorem Nv:az (.int i) (.int j)=vd (.int (i+j)):=rfl
@[simp] theorem Nt:az (.str u) (.str v)=if u.length+v.length<=OO then vd (.str (u++v)) else zc:=rfl
@[simp] theorem Nr:az (.tuple u) (.tuple v)=if u.length+v.length<=OO then vd (.tuple (u++v)) else zc:=rfl
@[simp] theorem Nu:az (.list u) (.list v)=if u.length+v.length<=OO then vd (.list (u++v)) else zc:=rfl
@[simp] theorem MQ:er (.int i) (.int j)=if (-(2^64)<i/\i<2^64)\/(-(2^64)<j/\j<2^64) then vd (.int (i*j)) else zc:=rfl
@[simp] theorem MP:er (.str z) (.int k)=if 0<=k/\k<=2000/\z.length<=1000 then vd (.str (TM z k)) else zc:=rfl
@[simp] theorem Oh:Zu (.int i) (.int j)=vd (.bool (decide (i=j))):=rfl
@[simp] theorem Og:Zu (.str i) (.str j)=vd (.bool (decide (i=j))):=rfl
@[simp] theorem Oi:Zu (.bool i) (.bool j)=vd (.bool (decide (i=j))):=rfl
@[simp] theorem NN:Dx (.int i) (.int j)=vd (.bool (!decide (i=j))):=rfl
@[simp] theorem NM:Dx (.str i) (.str j)=vd (.bool (!decide (i=j))):=rfl
@[simp] theorem NO:Dx (.bool i) (.bool j)=vd (.bool (!decide (i=j))):=rfl
@[simp] theorem Ox:EY x .none=vd (.bool (isNone x)) :=rfl
@[simp] theorem Ma:fm (.bool i) (.bool j)=vd (.bool (i != j)):=rfl
@[simp] theorem NL:lu (.int i)=vd (.int (-i)):=rfl
@[simp] theorem N7:bN k x=vd (.bool (cC (kd x) k)):=rfl
@[simp] theorem N4:Ze (.list xs) (.int i)=Zd xs i:=rfl
@[simp] theorem N1:Ze (.tuple xs) (.int i)=Zd xs i:=rfl
@[simp] theorem N2:Ze (.str z) (.int i)=if z.length<=OO then (Zd z.cps.toList i).map (λc=>.str ⟨#[c]⟩) else zc:=rfl
@[simp] theorem MW:aP [.list xs]=vd (.int xs.length):=rfl
@[simp] theorem MU:aP [.tuple xs]=vd (.int xs.length):=rfl
@[simp] theorem MV:aP [.str z]=if z.length<=OO then vd (.int z.length) else zc:=rfl
@[simp] theorem Oq:nj [.int i]=vd (.int (if i<0 then -i else i)):=rfl
@[simp] theorem NT:Kz [.int i,.int j]=vd (.int (if j>i then j else i)):=rfl
@[simp] theorem NS:jP [.int i,.int j]=vd (.int (if j<i then j else i)):=rfl
@[simp] theorem LN:eM [.list xs]=vd (.tuple xs):=rfl
@[simp] theorem LM:eM [.tuple xs]=vd (.tuple xs):=rfl
@[simp] theorem L9:iS [.list xs]=vd (.list xs):=rfl
@[simp] theorem L8:iS [.tuple xs]=vd (.list xs):=rfl
@[simp] theorem NY:kd (.int i)=.int:=rfl
@[simp] theorem N0:kd (.bool i)=.bl:=rfl
@[simp] theorem NV:kd (.str i)=.str:=rfl
@[simp] theorem NU:kd (.tuple i)=.tup:=rfl
@[simp] theorem NX:kd (.list i)=.lst:=rfl
@[simp] theorem NZ:kd (.dict i)=.dct:=rfl
@[simp] theorem NW:kd .none=.non:=rfl
end
theorem DD{α:Type}{a b c:α}:Zd [a,b,c] 0=vd a:=rfl
theorem ET{α:Type}{a b c:α}:Zd [a,b,c] 1=vd b:=rfl
theorem at2{α:Type}{a b c:α}:Zd [a,b,c] 2=vd c:=rfl
theorem Hv:Zr 3 1=vd 1:=rfl
theorem JM:Zr 3 2=vd 2:=rfl
theorem gr:∀{ds:List OF},(∀d∈ds,e (vd (.d d)::ρ) T=vd (.d (g d),T))->bI bB e ρ ds T=vd (ds.map g,T)
 |[],_=>rfl
 |d::r,h=>by
  have ih:=gr  λx hx=>h x (OP _ hx);have h0:=h d OU
  unfold bI<;>simp_all
theorem qf:∀{ds:List OF},(∀d∈ds,c (vd (.d d)::ρ) T=vd (p d,T))->bI c (aa 0) ρ ds T=vd (ds.filter p,T)
 |[],_=>rfl
 |d::r,h=>by
  have ih:=qf  λx hx=>h x (OP _ hx);have h0:=h d OU;unfold bI
  cases hp:p d <;>simp_all
theorem lS{e:FE}{ρ:Yy}{P:Tp->Prop}{Q:OF->Prop}:∀{ds:List OF}{T:Tp},P T->(∀d∈ds,∀T,P T->∃y T',e (vd (.d d)::ρ) T=vd (.d y,T')/\P T'/\Q y)->∃ys T',bI bB e ρ ds T=vd (ys,T')/\P T'/\ys.length=ds.length/\∀y∈ys,Q y
 |[],T,p,_=>⟨[],T,rfl,p,rfl,λy hy=>by cases hy⟩
 |d::r,T,p,h=>by
  obtain⟨y,T1,e1,p1,q1⟩:=h d OU T p;obtain⟨ys,T2,e2,p2,l2,q2⟩:=lS  p1 λx hx=>h x (OP _ hx);refine⟨y::ys,T2,?_,p2,by simp[l2],λz hz=>?_⟩
  .unfold bI<;>simp_all
  .grind
theorem uW{α:Type}(p:α->Bool):∀l:List α,kU (l.map λd=>.bool (p d))=vd (l.map p)
 |[]=>rfl
 |d::r=>by
  show (kU _).map _=_;rw[uW p r];rfl
theorem vz{α:Type}(p:α->Int):∀l:List α,lg (l.map λd=>.int (p d))=vd (l.map p)
 |[]=>rfl
 |d::r=>by
  show (lg _).map _=_;rw[vz p r];rfl
theorem qy{α:Type}(p:α->Str):∀l:List α,d7 (l.map λd=>.str (p d))=vd (l.map p)
 |[]=>rfl
 |d::r=>by
  show (d7 _).map _=_;rw[qy p r];rfl
@[simp] theorem Oo{α:Type}(p:α->Bool)(l:List α):lB [.list (l.map λd=>.bool (p d))]=vd (.bool (l.all p)):=by
 show (kU _).map _=_;rw[uW,UL,X6];rfl
@[simp] theorem Ny{α:Type}(p:α->Int)(l:List α):jY [.list (l.map λd=>.int (p d))]=vd (.int (l.map p).sum):=by
 show (lg _).map _=_;rw[vz,UL]
def gv(y:Str):OF->Bool
 |.str z=>j9 y z
 |_=>zd
def rh(y:Str)(c:Nat):j9 y ⟨#[c]⟩=decide (c∈y.cps.toList):=StrLaws.found_one ..
@[simp] theorem N8:inD (.str x) (.str y)=vd (.bool (j9 y x)):=rfl
def qz(h:d∈D.signs x):∃c,c∈x.cps.toList/\d=.str ⟨#[c]⟩:=by
 obtain⟨c,hc,rfl⟩:=Pu.mp h;exact⟨c,hc,rfl⟩
section
variable {X:Cx}
noncomputable def zgb:Jf X "str.startswith" (λx vs H Q=>∃z y:Str,x=.str z/\vs=[.str y]/\Q (.bl (QT z y)) H):=by
 intro pins s σ H x vs v us Q I rx rv h;obtain⟨z,y,rfl,rfl,q⟩:=h;obtain⟨t,rfl⟩:=rx;obtain⟨u,rfl,ru⟩:=vals1 rv;obtain⟨t',rfl⟩:=ru;exact call_gives S9 (Se _ _ _) PySem.F.entry_str_startswith (PySem.F.args_str_startswith_2 _ _) (gives_str_startswith z y t t') ⟨.bl _,H,I,rfl,q⟩
def iF:OF->OF->Option OF
 |.str z,.str y=>vd (.bool (QT z y))
 |_,_=>zc
noncomputable def qN(h:view T w=vd (.str z)):w=.d (.str z):=by
 cases w with
 |d x=>simp_all
 |tp k=>
  cases hk:T[k]? <;>simp_all
 |loc zs=>cases zs <;> cases h
noncomputable def qJ(ho:DE X o fo)(he:DE X e fe)
  (YY:autoParam (P1 o "startswith" X.env (eval o X.env)=eval o X.env) u10)
  (Zx:autoParam (((PK cpos (OM [e] X.env)).all (λx=>!x.1)&&(QS cpos (Qb [] X.env)).all (λx=>x.1.isSome)
   && decide (([e]:List Expr).length+([]:List QR).length+(if ([]:List QR).isEmpty then 0 else 1)<30))=xV) u20)
  (YX:autoParam ((apos.endLine == cpos.line)=xV) u10) (Zy:autoParam (OM [e] X.env=(zd,eval e X.env)::OM [] X.env) u12) (YQ:autoParam ((PK cpos (OM [] X.env)).any (·.1)=zd) u13) :
  DE X (.Call (.Attribute o "startswith" apos) [e] [] cpos) (ag iF fo fe):=by
 refine⟨?_⟩;refine pe_imp (iP Q2 S9 PySem.F.type_str_startswith zgb ho.pe (br he.pe cu Zy) YY Zx YX Zy YQ) λσ H Q=>?_;rintro⟨O,ts,ρ,T,w,T',hc,re,e,q⟩;obtain⟨w1,T1,e1,e⟩:=aE e;obtain⟨w2,T2,e2,e⟩:=aE e;obtain⟨x,y,d,h1,h2,h3,rfl,rfl⟩:=gE e;unfold iF at h3;split at h3
 .rename_i z y
  cases h3;have ew:=qN h1;subst ew;refine⟨O,ts,ρ,T,_,T1,hc,re,e1,λv1 H1 s1 Yv r1=>?_⟩;cases (r1);refine⟨rfl,O,ts,ρ,T1,w2,T',Yv,re.mono hc s1,e2,λv2 H2 s2 YE r2=>?_⟩;cases (YE.view r2 h2).str;exact⟨z,_,rfl,rfl,q _ H2 (s1.trans s2) YE (.bl _)⟩
 .cases h3
noncomputable def zgc:YV X (.type "int") (λxs H Q=>∃x n,xs=[.str x]/\To x=vd n/\x.length<=640/\Q (.int n) H):=by
 intro pins s σ H xs us Q I r h;obtain⟨x,n,rfl,hn,hl,q⟩:=h;obtain⟨u,rfl,ru⟩:=vals1 r;obtain⟨t,rfl⟩:=ru;exact PySem.W.KIN.call_text hn hl ⟨.int n,H,I.tok _,⟨_,rfl⟩,q⟩
noncomputable def intD:List OF->Option OF
 |[.int i]=>vd (.int i)
 |[.bool b]=>vd (.int (if b then 1 else 0))
 |[.str x]=>if x.length<=640 then (To x).map .int else zc
 |_=>zc
noncomputable def tL:eV X (.type "int") intD:=⟨_,ztf.or zgc,λO ts H T vs xs d Q hc h e q=>by
 unfold intD at e;split at e
 .cases e
  obtain⟨v,rfl,g⟩:=dm h;cases g.int;exact .inl (.inl ⟨_,rfl,q _ H (.refl _ _) hc (.int _)⟩)
 .cases e
  obtain⟨v,rfl,g⟩:=dm h;cases g.bl;exact .inl (.inr ⟨_,rfl,q _ H (.refl _ _) hc (.int _)⟩)
 .split at e
  .rename_i hz
   obtain⟨n,e1,rfl⟩:=OT.mp e;obtain⟨v,rfl,g⟩:=dm h;cases g.str;exact .inr ⟨_,n,rfl,e1,hz,q _ H (.refl _ _) hc (.int _)⟩
  .cases e
 .cases e⟩
theorem Yw.rev{K:Frag}{O:Addr->Prop}{H:Hp}:∀{vs:List V}{ds:List OF},Yw K O H vs ds->Yw K O H vs.reverse ds.reverse
 |_,_,.nil=>.nil
 |_,_,.cons r t=>by
  rw[RT,RT];exact(Yw.rev t).append (.cons r .nil)
end
@[simp] theorem LO:iF (.str z) (.str y)=vd (.bool (QT z y)):=rfl
@[simp] theorem MY:intD [.str x]=if x.length<=640 then (To x).map .int else zc:=rfl
@[simp] theorem MZ:intD [.int i]=vd (.int i):=rfl
@[simp] theorem M0:intD [.bool b]=vd (.int (if b then 1 else 0)):=rfl
def EB(x y:OF):Option PyData:=if UC x=xV/\UC y=xV then vd (.bool (Yo x y)) else zc
section
variable {X:Cx}
theorem Vw.reads(I:Inv X pins σ H s)(h:Vw X.K O H v d)(r:RelV v u):∃as,Reads s.heap u d as:=by
 cases h with
 |rep h=>obtain⟨as,rd,_⟩:=h.reads I r;exact⟨as,rd⟩
 |raw h hs=>
  cases r;obtain⟨Yu,rv,pl,_⟩:=I.list (Zm.of h);obtain⟨o,n,e,c,_,dd⟩:=pl;obtain⟨as,rd,_⟩:=hs.reads I rv;exact⟨_,.list e c dd (by omega)⟩
 |rawD h rk=>
  cases r;obtain⟨z,y,vs,kv,o,es,ep,e,ed,dd,_,ek,_⟩:=(I.hok _ _ h);obtain⟨bs,q1,q2,f⟩:=YN.reads I rk kv ek;exact⟨_,.dict   e ed.1 dd q1 q2⟩
noncomputable def zgd(hr:YD k X.A):Zg X (PC .Eq) (λx y H Q=>∃O d1 d2,Vw X.K O H x d1/\Vw X.K O H y d2/\UC d1=xV/\UC d2=xV/\Q (.bl (Yo d1 d2)) H):=by
 intro pins s σ H x y v u Q I rx ry h;obtain⟨O,d1,d2,h1,h2,s1,s2,q⟩:=h;obtain⟨as,r1⟩:=h1.reads I rx;obtain⟨bs,r2⟩:=h2.reads I ry;exact SeqAt.compareEq_shaped r1 r2 s1 s2 (by have:=hr.un;lia) ⟨.bl _,H,I,rfl,q⟩
noncomputable def Aa(hr:YD k X.A):Z4 X (PC .Eq) EB:=⟨_,zgd hr,λO ts H T v1 v2 x y d Q hc h1 h2 e q=>by
 unfold EB at e;split at e
 .rename_i h
  cases e;exact⟨O,x,y,h1,h2,h.1,h.2,q _ H (.refl _ _) hc (.bl _)⟩
 .cases e⟩
open Classical in
end
noncomputable def zge(l:Addr)(items:Array OH)(n:Nat)(b:Addr)(BZ:Array OH)(n2:Nat)(dd:Option Addr)(sl:Array (Option OH))(Eu:¬(!items.isEmpty&&Qg (items.size+BZ.size))=xV)(Yv:items.size<=OO)(FX:items.size+BZ.size<=OO+1) :
  Meets (SU.«list.extend» ⟨[.ref l,.ref b],[]⟩) (λ_ R s=>s.heap.get? l=vd { cls:=.type "list",dict:=zc,data:=.seq items n,slots:=#[] }/\s.heap.get? b=vd { cls:=.type "list",dict:=dd,data:=.seq BZ n2,slots:=sl }/\R (.ok (.ret QJ)) { s with heap:=s.heap.update l (Ti λx=>x++BZ),toks:=s.toks }):=
 .of_wp λprog w A R s h=>by
  obtain⟨hp,g,d,tk,os⟩:=s;obtain⟨hl,hb,h⟩:=h;have f1:=Wk;have f2:=TU;have f3:=UD;have f4:=Uk;have f5:=Ul
  have Ca:(items++BZ).size<=OO+1:=by rw[Array.size_append];exact FX
  wp_walk using(WI hl rfl (hz:=Yv) (_hz':=Ca)),S5 hl,S5 hb;exact⟨_,rfl,h⟩
section
variable {X:Cx}
noncomputable def zgf:CL X "list.extend" (λx vs H Q=>∃l b xs zs,x=.ref l/\vs=[.ref b]/\H l=vd (.lst xs)/\Zm X.K H b zs/\xs.length+zs.length<=OO/\Q .non (upd H l (.lst (xs++zs)))):=by
 intro pins s σ H x vs v us Q I rx rv h;obtain⟨l,b,xs,zs,rfl,rfl,hH,hB,hz,q⟩:=h;cases rx;obtain⟨u,rfl,ru⟩:=rv.one;cases ru;obtain⟨z,Yu,n,r,hl,e⟩:=I.lstM hH;obtain⟨CN,r2,pl,_⟩:=I.list hB;obtain⟨⟨Fy,EM,data2,GK⟩,n2,e2,c2,_,d2⟩:=pl;simp only at c2 d2;subst c2 d2;have BO:=r2.length
 have hsz:Yu.toArray.size+CN.toArray.size<=sizeLine:=by simp_all
 have Ht:¬(!Yu.toArray.isEmpty&&Qg (Yu.toArray.size+CN.toArray.size))=xV:=by
  rw[zdh hsz,W6];exact Ph
 refine Rm F.slot_list_extend ⟨_,e,rfl⟩ F.entry_list_extend (F.args_list_extend_2 _ _)
  (zge l Yu.toArray n b CN.toArray n2 EM GK Ht (by simp_all) (by lia)) ⟨e,e2,?_⟩
 refine⟨.non,_,I.lset (its':=Yu++CN) hH e (by simp) (r.append r2) ?_,rfl,q⟩;rw[Pz]
 lia
variable {pos:Pos}{e:Expr}{fe:FE}
noncomputable def gV(i:Nat)(f:FE):FS:=λρ T=>Yz (f ρ T) λw T1=>match w,ρ[i]? with
 |.d (.list ys),vd (vd (.loc (.list xs)))=>if xs.length+ys.length<=OO then vd ((.nx,ρ.set i (vd (.loc (.list (xs++ys))))),T1) else zc
 |_,_=>zc
noncomputable def sX(he:DE X e fe)(hN:autoParam (X.N[i]? = vd x) u10)(hv:autoParam (Ee X.env.scope x) u21)(hd:autoParam ((x == ("__debug__" : Str))=zd) u11)
  (hcd:autoParam ((x == ("__classdict__" : Str))=zd) u11) 
  (YY:autoParam (P1 (.Name x p) "extend" X.env (eval (.Name x p) X.env)=eval (.Name x p) X.env) u10)
  (Zx:autoParam (((PK cpos (OM [e] X.env)).all (λx=>!x.1)&&(QS cpos (Qb [] X.env)).all (λx=>x.1.isSome)
   && decide (([e]:List Expr).length+([]:List QR).length+(if ([]:List QR).isEmpty then 0 else 1)<30))=xV) u20)
  (YX:autoParam ((apos.endLine == cpos.line)=xV) u10) (Zy:autoParam (OM [e] X.env=(zd,eval e X.env)::OM [] X.env) u12) (YQ:autoParam ((PK cpos (OM [] X.env)).any (·.1)=zd) u13)
  (hs:autoParam (P4 (.Call (.Attribute (.Name x p) "extend" apos) [e] [] cpos) zc pos.line X.env=pure zd) u10) :
  DS X (.Expr (.Call (.Attribute (.Name x p) "extend" apos) [e] [] cpos) pos) (gV i fe):=by
 refine⟨?_⟩;refine dj (mi (iP RB PySem.F.slot_list_extend PySem.F.type_list_extend zgf (pv i hN hv hd hcd) (br he.pe cu Zy) YY Zx YX Zy YQ) hs) λD σ H=>?_;rintro⟨ze,H₀,F,ts,O,ρ,T,fl,ρ',T',rs,e,q⟩;obtain⟨w,T1,e1,e⟩:=aE e;split at e
 .rename_i ys xs h1
  split at e
  .rename_i h2
   cases e;obtain⟨v,k1,a,rfl,k2,k3,vs,k4,k5⟩:=rs.re i _ h1;refine⟨_,k1,.inl ⟨rfl,vs,Zm.of k4⟩,O,ts,ρ,T,_,_,rs.hc,rs.re,e1,λu H1 s1 Yv r1=>?_⟩;have Y6:=rs.step s1 Yv;have Bl:Rep X.K O H1 u (.list ys):=r1
   cases Bl with
   |lst t r=>
    rename_i b us;exact⟨a,b,vs,us,rfl,rfl,s1 _ _ k3 k4,t.sq,by rw[k5.length,r.length];exact h2,q O _ _ (Y6.put (us:=[]) h1 k1 ((k5.mono (rs.hc.le s1)).append r))⟩
  .cases e
 .cases e
end
def dS(B:List (Str×Int)):List (Str×Yg):=B.map λp=>(p.1,.flat (.int p.2))
def qb(K:Frag)(mg:Str->Option OH)(x:Str)(B:List (Str×Int)):Prop:=∃a,mg x=vd (.ref a)/\Qi (Qd λb=>K.lookup b) (λb=>K.lookup b) a (dS B)=xV
def De(B:List (Str×Int)):OF->Option OF
 |.str s=>vd (.bool (B.any λp=>decide (s=p.1)))
 |_=>zc
def atT(B:List (Str×Int)):OF->Option OF
 |.str s=>(B.find? λp=>decide (s=p.1)).map λp=>.int p.2
 |_=>zc
theorem uN(s:Str):∀B:List (Str×Int),Um s (dS B)=B.any λp=>decide (s=p.1)
 |[]=>rfl
 |(x,d)::B=>by
  show (decide (s=x)||PyProof.Rows.KTD.inKeys s (dS B))=_;rw[uN s B];rfl
theorem vM(s:Str):∀B:List (Str×Int),TV s (dS B)=(B.find? λp=>decide (s=p.1)).map λp=>.flat (.int p.2)
 |[]=>rfl
 |(x,d)::B=>by
  show (if decide (s=x)=xV then vd _ else TV s (dS B))=_;rw[vM s B,WJ]
  cases decide (s=x) <;> rfl
section
variable {X:Cx}{pos:Pos}{e:Expr}{f:FE}{x:Str}{p:Pos}{B:List (Str×Int)}
theorem vI:∀{B:List (Str×Int)}{d:Str×Int},(B.find? λp=>decide (s=p.1))=vd d->(∀t,P (.int d.2 t))->X7 h s P (dS B)
 |[],d,e,_=>by simp_all
 |(x,i)::B,d,e,hp=>by
  rw[WJ] at e
  by_cases hx:s=x
  .have:decide (s=x)=xV:=decide_eq_true hx
   simp only[this] at e;cases e;exact W7 hx (WS hp)
  .have:decide (s=x)=zd:=decide_eq_false hx
   simp only[this] at e;exact WT hx (vI e hp)
noncomputable def zgg(hl:Qi (Qd λb=>X.K.lookup b) (λb=>X.K.lookup b) a (dS B)=xV):Zg X (PC .In) (λx y H Q=>∃s,x=.str s/\y=.ref a/\Q (.bl (B.any λp=>decide (s=p.1))) H):=by
 intro pins s σ H x y v u Q I rx ry h;obtain⟨z,rfl,rfl,q⟩:=h;obtain⟨t,rfl⟩:=rx;cases ry;refine XD (h₀:=s.heap) ⟨VI I.kIn hl,λ_ _ e=>e⟩ ?_;rw[uN];exact⟨.bl _,H,I.tok _,rfl,q⟩
noncomputable def kR(ht:qb X.K X.mg x B)(hg:Gl X x)(he:DE X e f)(hd:autoParam ((x == ("__debug__" : Str))=zd) u11)(hm:autoParam (RN .In (.Name x p)=zd) u24):DE X (.Compare e [.In] [.Name x p] pos) (Y8 (De B) f):=by
 obtain⟨a,hx,hl⟩:=ht;refine⟨?_⟩;refine pe_imp (ztc (zgg hl) he.pe (kA (v:=.ref a) hg hx rfl hd) hm) λσ H Q=>?_;rintro⟨O,ts,ρ,T,w,T',hc,re,e,q⟩;obtain⟨w1,T1,e1,e⟩:=aE e;obtain⟨x,d,h1,h3,rfl,rfl⟩:=kK e;refine⟨O,ts,ρ,T,w1,T',hc,re,e1,λv1 H1 s1 Yv r1=>?_⟩;have vw:=Yv.view r1 h1;unfold De at h3;split at h3
 .cases h3
  cases vw.str;exact⟨_,rfl,rfl,q _ H1 s1 Yv (.bl _)⟩
 .cases h3
noncomputable def zgh(hl:Qi (Qd λb=>X.K.lookup b) (λb=>X.K.lookup b) a (dS B)=xV):FL X (λx y H Q=>∃s p,x=.ref a/\y=.str s/\(B.find? λp=>decide (s=p.1))=vd p/\Q (.int p.2) H):=by
 intro value slice pins s σ H x y v u Q I rx ry h hs;obtain⟨z,d,rfl,rfl,hf,q⟩:=h;obtain⟨t,rfl⟩:=ry;cases rx
 have hk:Um z (dS B)=xV:=by
  rw[←V8,vM,hf];rfl
 have hp:((dS B).all λp=>X8 p.2)=xV:=by
  rw[Pd];intro p hp;obtain⟨q,_,rfl⟩:=Pu.mp hp;rfl
 exact WU (h₀:=s.heap) ⟨VI I.kIn hl,λ_ _ e=>e⟩ hp hk (vI hf λt=>⟨.int d.2,H,I.tok _,⟨t,rfl⟩,q⟩) hs
noncomputable def ph(ht:qb X.K X.mg x B)(hg:Gl X x)(he:DE X e f)(hd:autoParam ((x == ("__debug__" : Str))=zd) u11)(hs:autoParam (sv e) u25):DE X (.Subscript (.Name x p) e pos) (Y8 (atT B) f):=by
 obtain⟨a,hx,hl⟩:=ht;refine⟨?_⟩;refine pe_imp (z9 (zgh hl) (kA (v:=.ref a) hg hx rfl hd) he.pe hs) λσ H Q=>?_;rintro⟨O,ts,ρ,T,w,T',hc,re,e,q⟩;obtain⟨w1,T1,e1,e⟩:=aE e;obtain⟨x,d,h1,h3,rfl,rfl⟩:=kK e;refine⟨O,ts,ρ,T,w1,T',hc,re,e1,λv1 H1 s1 Yv r1=>?_⟩;have vw:=Yv.view r1 h1;unfold atT at h3;split at h3
 .obtain⟨p,hp,rfl⟩:=OT.mp h3
  cases vw.str;exact⟨_,p,rfl,rfl,hp,q _ H1 s1 Yv (.int _)⟩
 .cases h3
def oj:List OH->List Str->Bool
 |[],[]=>xV
 |.str x _::r,y::s=>decide (x=y)&&oj r s
 |_,_=>zd
noncomputable def md(look:Addr->Option Obj)(a:Addr)(ss:List Str):Bool:=match look a with
 |some ⟨.type n,_,.seq Yu _,_⟩=>decide (n="tuple")&&oj Yu.toList ss
 |_=>zd
def t7(K:Frag)(mg:Str->Option OH)(x:Str)(ss:List Str):Prop:=∃a,mg x=vd (.ref a)/\md (λb=>K.lookup b) a ss=xV
theorem vc:∀{vs:List OH}{ss:List Str},oj vs ss=xV->Yx (ss.map V.str) vs
 |[],[],_=>.nil
 |.str x t::r,y::s,h=>by
  have h':(decide _&&oj r s)=xV:=h;rw[OW] at h';exact .cons ⟨t,by simp_all⟩ (vc h'.2)
theorem qB{K:Frag}{O:Addr->Prop}{H:Hp}:∀ss:List Str,Yw K O H (ss.map V.str) (ss.map QC)
 |[]=>.nil
 |x::r=>.cons (.str x) (qB r)
noncomputable def js(hg:Gl X x)(ht:t7 X.K X.mg x ss)(hz:autoParam (ss.length<=sizeLine) u11)(hd:autoParam ((x == ("__debug__" : Str))=zd) u11):DE X (.Name x p) (fC (.tuple (ss.map QC))):=by
 obtain⟨a,hx,hl⟩:=ht;refine⟨?_⟩;refine pe_imp (kA (v:=.ref a) hg hx rfl hd) (jG λO H=>?_);unfold md at hl;split at hl
 .rename_i n dd Yu c sl hk
  rw[OW] at hl;have rv:=vc hl.2;have hn:=of_decide_eq_true hl.1;subst hn;refine .tup  (.inr (.inr ⟨_,Yu,c,hk,rfl,rfl,?_,rv⟩)) (qB ss)
  have:=rv.length<;>simp_all
 .cases hl
def p7(a:Addr)(o:Obj)(B:List (Str×Int)):Bool:=Qi (Qd λ_=>zc) (λ_=>vd o) a (dS B)
theorem vf{g g':Addr->Option Obj}:∀(es:List XT) (B:List (Str×Int)),R0 (Qd g) es (dS B)=R0 (Qd g') es (dS B)
 |[],[]=>rfl
 |[],(_,_)::_=>rfl
 |_::_,[]=>rfl
 |e::es,(x,i)::B=>by
  have ih:=vf (g:=g) (g':=g') es B;unfold dS at ih ⊢;rw[PD];unfold R0;rw[ih];rfl
def u9{K:Frag}(h:K.lookup a=vd o)(g:p7 a o B=xV):Qi (Qd λb=>K.lookup b) (λb=>K.lookup b) a (dS B)=xV:=by
 unfold p7 Qi at g;unfold Qi;dsimp only at g ⊢;rw[h];rw[←g];dsimp only
 cases o.data <;> first|rfl|(dsimp only;rw[vf (g':=λ_=>zc)])
def tP(o:Obj)(ss:List Str):Bool:=md (λ_=>vd o) 0 ss
def u7{K:Frag}(h:K.lookup a=vd o)(g:tP o ss=xV):md (λb=>K.lookup b) a ss=xV:=by
 unfold md;dsimp only;rw[h];exact g
end
mutual
def lj:OF->Bool
 |.tuple ds=>mJ ds
 |.list _=>zd
 |.dict _=>zd
 |_=>xV
def mJ:List OF->Bool
 |[]=>xV
 |d::r=>lj d&&mJ r
end
noncomputable def cJ(ds:List (OF×OF))(s:Str):Option PyData:=match ds with
 |[]=>zc
 |(.str k,d)::r=>if k=s then vd d else cJ r s
 |_::r=>cJ r s
theorem lZ{K:Frag}{O:Addr->Prop}{H:Hp}{s:Str}:∀{kvs:List (Key×V)}{ds:List (OF×OF)},YN K O H kvs ds->(cJ ds s=zc/\cB kvs (QN s:Key)=zc)\/∃v d,cJ ds s=vd d/\cB kvs (QN s:Key)=vd v/\Rep K O H v d
 |_,_,.nil=>.inl ⟨rfl,rfl⟩
 |_,_,.cons (k:=.inl i) (v:=v)  (kvs:=kvs) (ds:=ds) r t=>by
  have e:cB (((VO i),v)::kvs) (QN s)=cB kvs (QN s):=rfl;rw[e];show (cJ ds s=zc/\_)\/∃v d,cJ ds s=vd d/\_;exact lZ  t
 |_,_,.cons (k:=.inr k) (v:=v) (d:=d) (kvs:=kvs) (ds:=ds) r t=>by
  by_cases hk:k=s
  .subst hk
   exact .inr ⟨v,d,by show (if k=k then vd d else cJ ds k)=vd d<;>simp_all,by simp[cB],r⟩
  .have e:cB (((QN k),v)::kvs) (QN s)=cB kvs (QN s):=by simp[cB,hk]
   have e2:cJ ((ni (QN k),d)::ds) s=cJ ds s:=by show (if k=s then vd d else cJ ds s)=_<;>simp_all
   rw[e,e2];exact lZ  t
def Cj.rd{H:Hp}{a:Addr}{kvs:List (Key×V)}{k:Key}(e:Rd H a (.dK kvs)):Cj H a (kV k) (cB kvs k):=.inl ⟨kvs,k,e,rfl,rfl⟩
def lc:OF->OF->Option OF
 |.dict ds,.str s=>cJ ds s
 |_,_=>zc
section
variable {X:Cx}{pos:Pos}{k:Nat}{K:Frag}{ze:Addr->Prop}{H₀:Hp}{F:List ((Addr->Prop)×Hp)}{ts:List Addr}{O:Addr->Prop}{H H1:Hp}{σ:L2.St}{ρ:Yy}{T T1:Tp}
def tF(hr:YD k A):A.units+1<cLine:=by have:=hr.un;lia
noncomputable def zgi(hr:YD k X.A)(ha:DE X a f)(hb:DE X b g)(hs:autoParam (ud b) u25):DE X (.Subscript a b pos) (ag lc f g):=by
 refine⟨?_⟩;refine pe_imp (zdr (tF hr) ha.pe hb.pe hs) λσ H Q=>?_;rintro⟨O,ts,ρ,T,w,T',hc,re,e,q⟩;obtain⟨w1,T1,e1,e⟩:=aE e;obtain⟨w2,T2,e2,e⟩:=aE e;obtain⟨x,y,d,h1,h2,h3,rfl,rfl⟩:=gE e;refine⟨O,ts,ρ,T,w1,T1,hc,re,e1,λv1 H1 s1 Yv r1=>?_⟩;refine⟨O,ts,ρ,T1,w2,T',Yv,re.mono hc s1,e2,λv2 H2 s2 YE r2=>?_⟩;have k1:=YE.view (r1.mono Yv s2) h1;have k2:=YE.view r2 h2;unfold lc at h3;split at h3
 .rename_i ds s
  cases k2.str;obtain⟨a,kvs,rfl,t,r⟩:=k1.dct
  rcases lZ (s:=s) r with⟨z1,z2⟩|⟨v,d',z1,z2,rv⟩
  .simp_all
  .rw[z1] at h3
   cases h3;exact⟨a,v,rfl,by rw[←z2];exact Cj.rd (k:=QN s) t,q v H2 (s1.trans s2) YE rv⟩
 .cases h3
def RS.lay(r:RS K ze H₀ F ts O H σ ρ T)(hp:H p=zc)(hm:Kt (vd o)):RS K ze H₀ F ts (λb=>O b\/b=p) (upd H p o) σ ρ T:=by
 have le:Le O H (λb=>O b\/b=p) (upd H p o):=λa o n e=>by
  have z:=bx e hp;exact⟨λq=>q.elim n z,by rw[aJ z];exact e⟩
 refine⟨⟨λb hb=>.inl (r.hc.own b hb),λb hb=>?_,r.hc.nd,r.hc.len,λj a ys e1 e2=>?_⟩,λj w e=>?_,λb hb=>.inl (r.sub b hb),r.ots,r.same.trans (.new hp _),r.fresh,r.dist,λf hf=>(r.frs f hf).trans le,r.len⟩
 .by_cases z:b=p
  .subst z;rw[bg];exact hm
  .rw[aJ z]
   exact r.hc.trk b (hb.resolve_right z)
 .exact(r.hc.tape j a ys e1 e2).mono (λo' h1=>by rw[aJ (bx h1 hp)];exact h1) le
 .obtain⟨x,h1,h2⟩:=r.re j w e
  refine⟨x,h1,?_⟩
  cases w with
  |d x=>exact Rep.mono le h2
  |tp k=>exact h2
  |loc ys=>
   obtain⟨a,e1,h1,h2,h3⟩:=h2;exact⟨a,e1,.inl h1,h2,h3.mono (λo' q=>by rw[aJ (bx q hp)];exact q) le⟩
def RS.take(r:RS K ze H₀ F ts O H σ ρ T)(oa:O p)(nt:p∉ts)(h0:H₀ p=zc/\¬ze p)(nh:∀(j:Nat) (ys:OF),ρ[j]? = vd (vd (W.loc ys))->σ[j]? = vd (vd (V.ref p))->False)(hm:Kt (vd o))(rv:Le O H O (upd H p o)->Zt K O (upd H p o) p y) :
  RS K ze H₀ F ts O (upd H p o) (σ.set i (vd (.ref p))) (ρ.set i (vd (.loc y))) T:=by
 have le:Le O H O (upd H p o):=λb o n e=>⟨n,by rw[aJ (show b≠p from λz=>n (by simp_all))];exact e⟩;refine⟨⟨r.hc.own,λb hb=>?_,r.hc.nd,r.hc.len,λj a ys e1 e2=>?_⟩,λj w e=>?_,r.sub,r.ots,λb o n e=>?_,λj ys a e1 e2=>?_,λj k ys zs v e1 e2 e3 e4=>?_,λf hf=>(r.frs f hf).trans le,by simp[r.len]⟩
 .by_cases z:b=p
  .subst z;rw[bg];exact hm
  .rw[aJ z];exact r.hc.trk b hb
 .exact(r.hc.tape j a ys e1 e2).mono (λo' h1=>by rw[aJ (show a≠p from λz=>nt (by rw[←z];exact Px e1))];exact h1) le
 .by_cases z:i=j
  .subst z
   have hl:i<ρ.length:=by
    have:=(OL.mp e).1;simpa using this
   rw[OX hl] at e;cases e;exact⟨.ref p,by rw[OX (by rw[r.len];exact hl)],p,rfl,oa,nt,rv le⟩
  .rw[OR z] at e
   obtain⟨x,h1,h2⟩:=r.re j w e;refine⟨x,by rw[OR z];exact h1,?_⟩
   cases w with
   |d x=>exact Rep.mono le h2
   |tp k=>exact h2
   |loc zs=>
    obtain⟨b,eb,k1,k2,k3⟩:=h2;have n:b≠p:=λq=>nh j zs e (by rw[h1,eb,q]);exact⟨b,eb,k1,k2,k3.mono (λo' q=>by rw[aJ n];exact q) le⟩
 .have:=r.same b o n e
  rw[aJ (show b≠p from λz=>by rw[z,h0.1] at e;cases e)];exact this
 .by_cases z:i=j
  .subst z
   have hl:i<ρ.length:=by
    have:=(OL.mp e1).1;simpa using this
   rw[OX (by rw[r.len];exact hl)] at e2;cases e2;exact h0
  .rw[OR z] at e1 e2
   exact r.fresh j ys a e1 e2
 .by_cases z:i=j
  .by_cases z':i=k
   .rw[←z,←z']
   .exfalso
    subst z
    have hl:i<ρ.length:=by
     have:=(OL.mp e1).1;simpa using this
    rw[OX (by rw[r.len];exact hl)] at e3;cases e3;rw[OR z'] at e2 e4;exact nh k zs e2 e4
  .by_cases z':i=k
   .exfalso
    subst z'
    have hl:i<ρ.length:=by
     have:=(OL.mp e2).1;simpa using this
    rw[OX (by rw[r.len];exact hl)] at e4;cases e4;rw[OR z] at e1 e3;exact nh j ys e1 e3
   .rw[OR z] at e1 e3
    rw[OR z'] at e2 e4;exact r.dist j k ys zs v e1 e2 e3 e4
noncomputable def dP(ds:List (OF×OF))(s:Str)(x:OF):List (OF×OF):=match ds with
 |[]=>[]
 |(.str k,d)::r=>if k=s then (.str k,x)::dP r s x else (.str k,d)::dP r s x
 |p::r=>p::dP r s x
theorem qE(rx:Rep K O H v x):∀{kvs:List (Key×V)}{ds:List (OF×OF)},YN K O H kvs ds->YN K O H (kvs.map λkv=>if kv.1=(QN s:Key) then (kv.1,v) else kv) (dP ds s x)
 |_,_,.nil=>.nil
 |_,_,.cons (k:=.inl i) r t=>by
  exact .cons  r (qE rx t)
 |_,_,.cons (k:=.inr k)    (ds:=ds) r t=>by
  rw[PD];have ih:=qE (s:=s) rx t;show YN K O H _ (if k=s then _::dP ds s x else _::dP ds s x)
  by_cases hk:k=s
  .rw[if_pos hk,if_pos (by rw[hk])]
   exact .cons  rx ih
  .rw[if_neg hk,if_neg (λz=>hk (Yh z))]
   exact .cons  r ih
theorem wq:∀{kvs:List (Key×V)}{ds:List (OF×OF)},YN K O H kvs ds->kvs.length=ds.length
 |_,_,.nil=>rfl
 |_,_,.cons _ t=>congrArg _ (wq t)
noncomputable def zgj{kvs:List (Key×V)}{k:Key}(h:(cB kvs k).isSome=xV):(kvs.any λkv=>decide (kv.1=k))=xV:=by unfold cB at h<;>simp_all
end
def eQ(f:Str):List OF->Option OF
 |.tuple [.str g,y]::r=>if g=f then vd y else eQ f r
 |_=>zc
noncomputable def i5(f:Str)(y:OF):List OF->List OF
 |.tuple [.str g,z]::r=>if g=f then .tuple [.str g,y]::r else .tuple [.str g,z]::i5 f y r
 |_=>[.tuple [.str f,y]]
def i6(C:Addr):List OF->Option (List OF)
 |.dict [(.none,.int c)]::ps=>if c=(C:Int) then vd ps else zc
 |_=>zc
def fw(C:Addr)(T:Tp)(n:Nat):Option (List OF):=(T[n]?).bind (i6 C)
section
variable {K:Frag}{O:Addr->Prop}{ts:List Addr}{H H':Hp}{T:Tp}{n:Nat}{a C:Addr}{ps:List OF}{X:Cx}{o e:Expr}{f m:Str}{pos pos' apos:Pos}{fo fe:FE}
noncomputable def zgk(h:i6 C xs=vd ps):xs=bW C::ps:=by
 unfold i6 at h;split at h
 .split at h
  .rename_i hc
   cases h;rw[hc];rfl
  .cases h
 .cases h
noncomputable def zgl(h:fw C T n=vd ps):T[n]? = vd (bW C::ps):=by
 unfold fw at h
 cases hT:T[n]? with
 |none=>simp_all
 |some xs=>
  rw[hT] at h;have h':i6 C xs=vd ps:=h;rw[zgk h']
def HC.obj(c:HC K O ts H T)(e:ts[n]? = vd a)(h:fw C T n=vd ps):∃dx fs fd,H a=vd (.ins C dx fs)/\ps=fd.map pairF/\ZW K O H fs fd:=by
 rcases c.tape n a _ e (zgl h) with⟨no,_⟩|⟨C',dx,fs,fd,h1,h2,h3⟩
 .cases no
 .injection h2 with e1 e2
  have e3:(C:Int)=(C':Int):=by
   have z:PyData.dict [(.none,.int (C:Int))]=.dict [(.none,.int (C':Int))]:=e1
   injection z with z
   injection z with z _
   injection z with _ z
   injection z
  have e4:C=C':=by exact Int.ofNat.inj e3
  subst e4;exact⟨dx,fs,fd,h1,e2,h3⟩
def ZW.look(r:ZW K O H fs fd):(eQ f (fd.map pairF)=zc/\fs.lookup f=zc)\/∃v y,eQ f (fd.map pairF)=vd y/\fs.lookup f=vd v/\Rep K O H v y:=by
 induction r with
 |nil=>exact .inl ⟨rfl,rfl⟩
 |cons r _ ih=>
  rename_i g v d vs ds _
  by_cases hg:g=f
  .subst hg
   refine .inr ⟨v,d,?_,?_,r⟩
   .show (if g=g then vd d else _)=_
    rw[if_pos rfl]
   .rw[RA,beq_self_eq_true]
  .have e1:eQ f (((g,d)::ds).map pairF)=eQ f (ds.map pairF):=if_neg hg
   have e2:TF f ((g,v)::vs)=TF f vs:=by grind
   rw[e1,e2];exact ih
noncomputable def jN(f:Str)(y:OF):List (Str×OF)->List (Str×OF)
 |[]=>[(f,y)]
 |(g,x)::r=>if g=f then (g,y)::r else (g,x)::jN f y r
def ZW.put(ry:Rep K O H v y)(r:ZW K O H fs fd):ZW K O H (de f v fs) (jN f y fd):=by
 induction r with
 |nil=>exact .cons ry .nil
 |cons r t ih=>
  rename_i g v' d vs ds;unfold de jN
  by_cases hg:g=f
  .rw[if_pos hg,if_pos hg]
   exact .cons ry t
  .rw[if_neg hg,if_neg hg]
   exact .cons r ih
theorem wt:∀fd:List (Str×OF),i5 f y (fd.map pairF)=(jN f y fd).map pairF
 |[]=>rfl
 |(g,x)::r=>by
  have e:i5 f y (((g,x)::r).map pairF)=if g=f then .tuple [.str g,y]::r.map pairF else .tuple [.str g,x]::i5 f y (r.map pairF):=rfl
  have e':jN f y ((g,x)::r)=if g=f then (g,y)::r else (g,x)::jN f y r:=rfl
  rw[e,e',wt r]
  by_cases hg:g=f
  .rw[if_pos hg,if_pos hg];rfl
  .rw[if_neg hg,if_neg hg];rfl
noncomputable def ik(C:Addr)(f:Str)(w:W)(T:Tp):Option (W×Tp):=match w with
 | .tp n=>(match fw C T n with
  | some ps=>(match eQ f ps with
   |some y=>vd (.d y,T)
   | none=>zc)
  | none=>zc)
 |_=>zc
def dF(C:Addr)(f:Str)(fo:FE):FE:=λρ T=>Yz (fo ρ T) (ik C f)
noncomputable def d6(c:Iw X.K C)(n:Y7 X.K C f)(ho:DE X o fo)(hb:autoParam (P1 o f X.env (eval o X.env)=eval o X.env) u10):DE X (.Attribute o f pos) (dF C f fo):=by
 refine⟨?_⟩;refine pe_imp (zcf ho.pe hb) λσ H Q=>?_;rintro⟨O,ts,ρ,T,w,T',hc,re,e,q⟩;obtain⟨w1,T1,e1,e⟩:=aE e;refine⟨O,ts,ρ,T,w1,T1,hc,re,e1,λv1 H1 s1 Yv r1=>?_⟩
 cases w1 with
 |tp k=>
  unfold ik at e;dsimp only at e;split at e
  .rename_i ps h1
   split at e
   .rename_i y h2
    cases e;obtain⟨a,k1,rfl⟩:=r1;obtain⟨dx,fs,fd,g1,g2,g3⟩:=Yv.obj k1 h1;subst g2
    rcases g3.look (f:=f) with⟨z,_⟩|⟨v,y',z1,z2,z3⟩
    .simp_all
    .rw[z1] at h2
     cases h2;exact⟨a,C,dx,fs,v,rfl,g1,c,n,z2,q v H1 s1 Yv z3⟩
   .cases e
  .cases e
 |d x=>cases e
 |loc x=>cases e
noncomputable def eP(C:Addr)(f:Str)(ρ:Yy)(w o:W)(T:Tp):Option ((Fl×Yy)×Tp):=match w,o with
 | .d y,.tp n=>(match fw C T n with
  |some ps=>if ps.length<1000 then vd ((.nx,ρ),T.set n (bW C::i5 f y ps)) else zc
  | none=>zc)
 |_,_=>zc
def jS(C:Addr)(f:Str)(fo fe:FE):FS:=λρ T=>Yz (fe ρ T) λw T1=>Yz (fo ρ T1) (eP C f ρ w)
noncomputable def mC(c:Iw X.K C)(n:Y7 X.K C f)(ho:DE X o fo)(he:DE X e fe)(hs:autoParam (P4 e (vd (.Attribute o f pos')) pos.line X.env=pure zd) u10):DS X (.Assign [.Attribute o f pos'] e pos) (jS C f fo fe):=by
 refine⟨?_⟩;refine dj (zcg ho.pe he.pe hs) λD σ H=>?_;rintro⟨ze,H₀,F,ts,O,ρ,T,fl,ρ',T',rs,e,q⟩;obtain⟨w,T1,e1,e⟩:=aE e;obtain⟨wo,T2,e2,e⟩:=aE e;refine⟨O,ts,ρ,T,w,T1,rs.hc,rs.re,e1,λv H1 s1 Yv r1=>?_⟩;have Y6:=rs.step s1 Yv;refine⟨O,ts,ρ,T1,wo,T2,Yv,Y6.re,e2,λvo H2 s2 YE r2=>?_⟩;have Ik:=Y6.step s2 YE
 cases w with
 |tp j=>cases e
 |loc j=>cases e
 |d y=>
 cases wo with
 |d j=>cases e
 |loc j=>cases e
 |tp k=>
  unfold eP at e;dsimp only at e;split at e
  .rename_i ps h1
   split at e
   .rename_i hl
    cases e;obtain⟨a,k1,rfl⟩:=r2;obtain⟨dx,fs,fd,g1,g2,g3⟩:=YE.obj k1 h1
    have YH:fs.length=fd.length:=by
     clear g1 g2
     induction g3 with
     |nil=>rfl
     |cons _ _ ih=>simp[ih]
    refine⟨a,C,dx,fs,rfl,g1,c,n,by simp_all,?_⟩;have ry:Rep X.K O H2 v y:=Rep.mono (Yv.le s2) r1;refine q O _ _ (Ik.tapeO k1 (.inr (.inr ⟨_,_,_,rfl⟩)) λle=>.inr ⟨C,dx,_,jN f y fd,bg,?_,(g3.mono le).put (Rep.mono le ry)⟩);rw[g2,wt]
   .cases e
  .cases e
structure ES(P:Pb)(w:Pp)(K:Frag)(mg:Str->Option OH)(base:Heap)(C:Addr)(m:Str)(ps:List Str)(k:Nat)(sp:Sp):Prop where
 ex:∃f fd,YJ P w K mg base ZA k f fd ps sp/\Binds K fd ps []/\Ec K C m f
noncomputable def mO(C:Addr)(m:Str)(mm:YG)(g:FA)(ρ:Yy)(w:W)(T:Tp):Option (W×Tp):=match w with
 | .tp n=>(match fw C T n with
  |some ps=>if (eQ m ps).isNone=xV then Yz (g ρ T) λws T2=>Yz (mm (.tp n::ws) T2) λx T3=>vd (.d x,T3) else zc
  | none=>zc)
 |_=>zc
def cj(C:Addr)(m:Str)(mm:YG)(fo:FE)(g:FA):FE:=λρ T=>Yz (fo ρ T) (mO C m mm g ρ)
variable {ps:List Str}{k:Nat}{mm:YG}{g:FA}{es:List Expr}{pl:Sem Bool}
noncomputable def wx(hl:eY g lv)(h1:ps.length=lv+1)(h:lift X.K (cj C m mm fo g) σ H Q):pA C m (Zq X.K ps.length mm) [] E0 (lift X.K fo) (mS X.K g) σ H Q:=by
 obtain⟨O,ts,ρ,T,w,T',hc,re,e,q⟩:=h;obtain⟨w1,T1,e1,e⟩:=aE e;refine⟨O,ts,ρ,T,w1,T1,hc,re,e1,λv1 H1 s1 Yv r1=>?_⟩
 cases w1 with
 |tp n=>
  unfold mO at e;dsimp only at e;split at e
  .rename_i qs o1
   split at e
   .rename_i hn
    obtain⟨ws,T2,e2,e⟩:=aE e;obtain⟨x,T3,e3,e⟩:=aE e;cases e;obtain⟨a,k1,rfl⟩:=r1;obtain⟨dx,fs,fd,g1,g2,g3⟩:=Yv.obj k1 o1;subst g2
    have l0:fs.lookup m=zc:=by
     rcases g3.look (f:=m) with⟨_,z⟩|⟨v,y',z1,z2,z3⟩
     .exact z
     .simp_all
    refine⟨a,dx,fs,rfl,g1,l0,O,ts,ρ,T1,ws,T2,Yv,re.mono hc s1,e2,λvs H2 s2 YE r2=>?_⟩;refine⟨O,ts,T2,.tp n::ws,x,_,YE,?_,by rw[h1,Po,hl _ _ _ _ e2],e3,λv H3 s3 Zf r3=>q v H3 (s1.trans (s2.trans s3)) Zf r3⟩;rw[Qu];exact .cons ⟨a,k1,rfl⟩ r2
   .cases e
  .cases e
 |d x=>cases e
 |loc x=>cases e
noncomputable def iI(F:ES X.prog X.w X.K X.mg X.base C m ps k (Zq X.K ps.length mm))(c:Iw X.K C)(hr:YD k X.A)(ho:DE X o fo)(ha:DA X (e::es) g)(hl:eY g lv)(h1:autoParam (ps.length=lv+1) u10)
  (he:autoParam (OM (e::es) X.env=(zd,eval e X.env)::OM es X.env) u12) (Y1:autoParam ((PK pos (OM es X.env)).any (·.1)=zd) u13)
  (ht:autoParam (eval (.Call (.Attribute o m apos) (e::es) [] pos) X.env=(do
   let ov ←eval o X.env
   SO apos.atName
   let (f,first) ←RR [ov] (RO ov m pl)
   Ub pos f first (PK pos (OM (e::es) X.env)) (QS pos (Qb [] X.env)))) u10):DE X (.Call (.Attribute o m apos) (e::es) [] pos) (cj C m mm fo g):=by
 obtain⟨f,fd,F1,F2,F3⟩:=F.ex;refine⟨?_⟩;exact pe_imp (zto ho.pe c F3 F1 hr F2 .nil mM ha.pe he Y1 ht) λσ H Q h=>wx hl h1 h
noncomputable def fN(F:ES X.prog X.w X.K X.mg X.base C m ps k (Zq X.K ps.length mm))(c:Iw X.K C)(hr:YD k X.A)(ho:DE X o fo)(h1:autoParam (ps.length=1) u10)
  (ht:autoParam (eval (.Call (.Attribute o m apos) [] [] pos) X.env=(do
   let ov ←eval o X.env
   SO apos.atName
   let (f,first) ←RR [ov] (RO ov m pl)
   Ub pos f first (PK pos (OM [] X.env)) (QS pos (Qb [] X.env)))) u10):DE X (.Call (.Attribute o m apos) [] [] pos) (cj C m mm fo ah):=by
 obtain⟨f,fd,F1,F2,F3⟩:=F.ex;refine⟨?_⟩
 exact pe_imp (ztp ho.pe c F3 F1 hr F2 .nil mM ht) λσ H Q h=>by
  have:=wx (X:=X) (ps:=ps) bp h1 h;obtain⟨O,ts,ρ,T,w,T',hc,re,e,q⟩:=this;refine⟨O,ts,ρ,T,w,T',hc,re,e,λv H1 s1 Yv r1=>?_⟩;obtain⟨a,dx,fs,ea,e1,e2,O2,ts2,B5,T2,ws,T3,YE,JS,e3,q2⟩:=q v H1 s1 Yv r1;cases e3;exact⟨a,dx,fs,ea,e1,e2,q2 [] H1 (.refl _ _) YE .nil⟩
def pL:FS:=λ_ _=>zc
def yn{st:Stmt}:DS X st pL:=⟨λ_ _ _ _ _ _ h=>by
 obtain⟨ze,H₀,F,ts,O,ρ,T,fl,ρ',T',rs,e,q⟩:=h
 cases e⟩
end
def jQ(T:Tp):Option (Tp×List OF):=match T.getLast? with
 |some xs=>vd (T.dropLast,xs)
 |none=>zc
noncomputable def rf(h:jQ T=vd (T1,ys)):T=T1++[ys]:=by
 unfold jQ at h;split at h
 .rename_i xs e
  cases h
  obtain⟨zs,hl⟩:=List.getLast?_eq_some_iff.mp e<;>simp_all
 .cases h
def jD:Yy->Bool
 |[]=>xV
 |none::r=>jD r
 |some (.d _)::r=>jD r
 |_::_=>zd
theorem g9:∀{ρ:Yy}{j:Nat}{w:W},jD ρ=xV->ρ[j]? = vd (vd w)->∃x,w=.d x
 |[],_,_,_,e=>by simp at e
 |none::r,0,_,h,e=>by simp at e
 |some (.d x)::r,0,_,h,e=>by simp at e;exact⟨x,e.symm⟩
 |some (.tp _)::_,_,_,h,_=>by cases h
 |some (.loc _)::_,_,_,h,_=>by cases h
 |none::r,j+1,w,h,e=>g9 (ρ:=r) (j:=j) h (by simpa using e)
 |some (.d x)::r,j+1,w,h,e=>g9 (ρ:=r) (j:=j) h (by simpa using e)
def uI(h:jD ρ=xV):ue ρ:=λi ds e=>by
 obtain⟨x,z⟩:=g9 h e;cases z
theorem nJ:∀{ρ:Yy},jD ρ=xV->cb ρ=ρ
 |[],_=>rfl
 |none::r,h=>by
  show zc::cb r=zc::r;rw[nJ (ρ:=r) h]
 |some (.d x)::r,h=>by
  show vd (W.d x)::cb r=vd (W.d x)::r;rw[nJ (ρ:=r) h]
 |some (.tp _)::_,h=>by cases h
 |some (.loc _)::_,h=>by cases h
noncomputable def k8(o:Option ((Fl×Yy)×Tp)):Option ((Fl×Yy)×Tp):=match o with
 | some ((.rt y,ρ'),T3)=>(match jQ T3 with
  |some (T4,_)=>vd ((.rt y,ρ'),T4)
  | none=>zc)
 |_=>zc
noncomputable def FC(i:Nat)(C:Addr)(m:YG)(fr:FS)(ρ:Yy)(w:W)(T1:Tp):Option ((Fl×Yy)×Tp):=match w with
 | .d x0=>(match m [.tp T1.length,.d x0] (T1++[[bW C]]) with
  |some (.none,T2)=>k8 (fr (ρ.set i (vd (.tp T1.length))) T2)
  | _=>zc)
 |_=>zc
def iX(i:Nat)(C:Addr)(m:YG)(fe:FE)(fr:FS):FS:=λρ T=>if jD ρ=xV then Yz (fe ρ T) (FC i C m fr ρ) else zc
section
variable {X:Cx}{C f:Addr}{e:Expr}{fe:FE}{fr:FS}{rest:List Stmt}{cn x:Str}{p pos pos' cpos:Pos}{ps:List Str}{k i:Nat}{m:YG}{fd:Qm}
noncomputable def zgm(M:Mk X.K C f)(Fi:YJ X.prog X.w X.K X.mg X.base ZA k f fd ps (Zq X.K ps.length m))(hb:Binds X.K fd ps [])(hr:YD (k+1) X.A)(hg:Gl X cn)(hm:X.mg cn=vd (.ref C))(hN:X.N.Nodup)(he:DE X e fe)(ZK:Z7 X rest fr)
  (h2:autoParam (ps.length=2) u10) (hi:autoParam (X.N[i]? = vd x) u10) (hx:autoParam (Loc X.env.scope x) u18) (YU:autoParam ((cn == ("__debug__" : Str))=zd) u11)
  (Zy:autoParam (OM [e] X.env=(zd,eval e X.env)::OM [] X.env) u12) (Y1:autoParam ((PK cpos (OM [] X.env)).any (·.1)=zd) u13)
  (hs:autoParam (P4 (.Call (.Name cn p) [e] [] cpos) (vd (.Name x pos')) pos.line X.env=pure zd) u10) (hf:autoParam (X.fn x=xV\/X.env.scope.names.lookup x=vd .local) u15) :
  Z7 X (.Assign [.Name x pos'] (.Call (.Name cn p) [e] [] cpos) pos::rest) (iX i C m fe fr):=by
 refine⟨?_⟩;refine fO (dh (gB hN hi hx (ztq M Fi hr hg hm hb .nil mM (br he.pe cu Zy) YU Zy Y1) hs hf) ZK.pe) λD σ H=>?_;rintro⟨ze,H₀,F,ts,O,ρ,T,fl,ρ',T',rs,e,q⟩;unfold iX at e;split at e
 .rename_i hp
  obtain⟨w,T1,e1,e⟩:=aE e;obtain⟨c0,IB⟩:=rs.frz (uI hp);rw[nJ hp] at IB;refine⟨ze,ts,ρ,T,w,T1,c0,IB,e1,λv1 H1 s1 Yv r1=>?_⟩
  cases w with
  |tp j=>cases e
  |loc y=>cases e
  |d x0=>
   unfold FC at e;dsimp only at e;split at e
   .rename_i T2 em
    intro px dx Gz EH Ib;have D4:=IB.mono c0 s1;have nO:=Yv.fresh Gz;have DQ:=Yv.fresh EH;have nt:px∉ts:=λz=>nO (Yv.own _ z)
    have U:∀b,b≠px->b≠dx->upd (upd H1 dx (.own px)) px (.ins C dx []) b=H1 b:=λb n1 n2=>by rw[aJ n1,aJ n2]
    have le:Le ze H1 (λb=>ze b\/b=px) (upd (upd H1 dx (.own px)) px (.ins C dx [])):=λa o n e=>by
     have z1:a≠px:=bx e Gz;have z2:a≠dx:=bx e EH;exact⟨λq=>q.elim n z1,by rw[U a z1 z2];exact e⟩
    have EA:HC X.K (λb=>ze b\/b=px) (ts++[px]) (upd (upd H1 dx (.own px)) px (.ins C dx [])) (T1++[[bW C]]):=by
     refine⟨λb hb=>?_,λb hb=>?_,?_,by simp[Yv.len],λj b zs q1 q2=>?_⟩
     .rcases Pq.mp hb with z|z
      .exact .inl (Yv.own b z)
      .exact .inr (Pj.mp z)
     .by_cases z:b=px
      .rw[z,bg];exact .inr (.inr ⟨_,_,_,rfl⟩)
      .have Bg:=hb.resolve_right z
       have z2:b≠dx:=λz2=>DQ (z2 ▸ Bg);rw[U b z z2];exact Yv.trk b Bg
     .rw[Rj]
      exact⟨Yv.nd,by simp,λb hb c hc z=>nt (by rw[←Pj.mp hc,←z];exact hb)⟩
     .by_cases hj:j<ts.length
      .rw[Pa hj] at q1
       rw[Pa (by rw[←Yv.len];exact hj)] at q2;exact(Yv.tape j b zs q1 q2).mono (λo h1=>by rw[U b (bx h1 Gz) (bx h1 EH)];exact h1) le
      .have E7:j=ts.length:=by
        have:=(OL.mp q1).1;simp at this;omega
       subst E7
       have e1:b=px:=by simpa using q1.symm
       have e2:zs=[bW C]:=by rw[Yv.len] at q2;simpa using q2.symm
       subst e1 e2;exact .inr ⟨C,dx,[],[],bg,rfl,.nil⟩
    refine⟨λb=>ze b\/b=px,ts++[px],T1++[[bW C]],[.tp T1.length,.d x0],.none,T2,EA,.cons ⟨px,by rw[←Yv.len];simp,rfl⟩ (.cons (Rep.mono le r1) .nil),by rw[h2];rfl,em,λv H2 s2 YE r2=>?_⟩;cases r2;refine⟨rfl,?_⟩
    have dxn:dx∉ts++[px]:=λz=>by
     rcases Pq.mp z with z|z
     .exact DQ (Yv.own _ z)
     .exact Ib (Pj.mp z)
    have BP:Le ze H1 (λb=>ze b\/b=px) H2:=le.trans (EA.le s2);generalize hE:fr (ρ.set i (vd (.tp T1.length))) T2=E at e;unfold k8 at e;split at e
    .rename_i y ρ3 T3
     split at e
     .rename_i T4 row hT
      have eT:=rf hT;subst eT;cases e;refine⟨λb=>ze b\/b=px,H2,[],ts++[px],λb=>ze b\/b=px,_,T2,_,_,_,⟨YE,λj u ej=>?_,λ_ h=>h,YE.own,.refl _ _,λj xs a ej _=>?_,λj l xs ys v' ej _ _ _=>?_,λf hf=>absurd hf (by simp),by simp[rs.len]⟩,hE,?_⟩
      .by_cases z:i=j
       .subst z
        have hl:i<ρ.length:=by
         have:=(OL.mp ej).1;simpa using this
        rw[OX hl] at ej;cases ej;exact⟨.ref px,by rw[OX (by rw[rs.len];exact hl)],px,by rw[←Yv.len];simp,rfl⟩
       .rw[OR z] at ej
        obtain⟨y',rfl⟩:=g9 hp ej;obtain⟨x',k1,k2⟩:=D4 j _ ej;exact⟨x',by rw[OR z];exact k1,Rep.mono BP k2⟩
      .exfalso
       obtain⟨_,ej⟩:=eK (w:=.tp T1.length) (λ_ z=>by cases z) ej;obtain⟨_,z⟩:=g9 hp ej;cases z
      .exfalso
       obtain⟨_,ej⟩:=eK (w:=.tp T1.length) (λ_ z=>by cases z) ej;obtain⟨_,z⟩:=g9 hp ej;cases z
      .intro v' H3 s3 Zf r3
       have lb:Le (λb=>ze b\/b=px) H3 ze H3:=λa o n e=>⟨λz=>n (.inl z),e⟩
       have Ea:ts.length=T'.length:=by have:=Zf.len;simp at this;exact this
       refine q v' H3 (λb o n eb=>?_) ⟨rs.ots,λb hb=>Zf.trk b (.inl hb),rs.hc.nd,Ea,λj b zs q1 q2=>?_⟩ (Rep.mono lb r3)
       .have E5:=s1 b o n (rs.same b o n eb)
        have z1:b≠px:=bx E5 Gz;have z2:b≠dx:=bx E5 EH
        have nb:b∉ts++[px]:=λz=>by
         rcases Pq.mp z with z|z
         .exact n z
         .exact z1 (Pj.mp z)
        exact s3 b o nb (s2 b o nb (by rw[U b z1 z2];exact E5))
       .have hj:j<ts.length:=(OL.mp q1).1
        exact(Zf.tape j b zs (by rw[Pa hj];exact q1) (by rw[Pa (by rw[←Ea];exact hj)];exact q2)).mono (λ_ h=>h) lb
     .cases e
    .cases e
   .cases e
 .cases e
end
end D
namespace L2
section
variable {X:Cx}
theorem uX:∀(l:List (Str×Tok)),Yx ((l.map (·.1)).map V.str) (XU l)
 |[]=>.nil
 |p::r=>.cons ⟨p.2,rfl⟩ (uX r)
noncomputable def zgn:Jf X "str.split" (λx vs H Q=>∃z y:Str,x=.str z/\vs=[.str y]/\(y.length == 0)=zd/\z.length+2<=OO/\∀l,H l=zc->Q (.ref l) (upd H l (.lst ((Rf z y).map V.str)))):=by
 intro pins s σ H x vs v us Q I rx rv h;obtain⟨z,y,rfl,rfl,hy,hz,q⟩:=h;obtain⟨t,rfl⟩:=rx;obtain⟨u,rfl,ru⟩:=vals1 rv;obtain⟨t',rfl⟩:=ru
 have np:(TX z (QG z y 0 z.length (z.length+1)) y.length).length<=sizeLine:=by
  have o1:=StrLaws.occ_length_le z y 0 z.length (z.length+1);rw[length_partsBetween];lia
 have fin:∀(l:List (Str×Tok)) (k:Nat),l.map (·.1)=Rf z y->l.length<=OO->EP X pins σ Q (.ref s.heap.objs.size) { s with toks:=k,heap:=s.heap.push { cls:=.type "list",data:=.seq (XU l).toArray } }:=λl k e hl=>by
  have hn:((Rf z y).map V.str).length<=sizeLine:=by rw[←e];simpa using hl
  refine⟨.ref s.heap.objs.size,_,I.laid (t':=k) (λb o w=>OK _ w) (Pc _) (show YM X.prog X.w _ _ _ (.lst ((Rf z y).map V.str)) from⟨hn,XU l,0,?_,Pm _ rfl⟩),rfl,q _ (I.hok.fresh (Pc _))⟩;rw[←e];exact uX l
 cases c1:(decide (z.length<y.length)||decide (Vo z<Vo y))
 .cases c2:(QG z y 0 z.length (z.length+1)).isEmpty
  .refine Rm RJ (Se _ _ _) Sk (R7 _ _) (meets_str_split_sep z y t t' c1 hy c2 (by lia) np) ?_
   rw[strsFrom_eq];have e:(numbered s.toks _).map (·.1)=Rf z y:=(numbered_texts s.toks _).trans ((if_neg (ne_true_of_eq_false c1)).trans (if_neg (ne_true_of_eq_false c2))).symm;refine fin (numbered s.toks _) _ e ?_;have e2:=congrArg SW (numbered_texts s.toks (TX z (QG z y 0 z.length (z.length+1)) y.length));rw[PV] at e2;rw[e2];exact np
  .exact Rm RJ (Se _ _ _) Sk (R7 _ _) (meets_str_split_not_found z y t t' c1 hy c2) (fin [(z,t)] s.toks ((if_neg (ne_true_of_eq_false c1)).trans (if_pos c2)).symm (by show 1<=OO;decide))
 .exact Rm RJ (Se _ _ _) Sk (R7 _ _) (meets_str_split_cannot_occur z y t t' c1) (fin [(z,t)] s.toks (if_pos c1).symm (by show 1<=OO;decide))
def eqT(y:Str):OH->Bool
 |.str a _=>a == y
 |_=>zd
theorem xm:∀{xs:List V}{us:List OH}{i:Nat}{x:V},Yx xs us->xs[i]? = vd x->∃u,us[i]? = vd u/\RelV x u
 |_,_,_,_,.nil,e=>by simp at e
 |_,_,0,_,.cons r _,e=>by simp_all
 |_,_,i+1,x,.cons _ t,e=>by
  obtain⟨u,h1,h2⟩:=xm (i:=i) (x:=x) t (by simpa using e);exact⟨u,by simpa using h1,h2⟩
noncomputable def zgo:Jf X "list.index" (λx vs H Q=>∃(a:Addr) (ys:List Str) (y:Str) (j:Nat),x=.ref a/\vs=[.str y]/\Zm X.K H a (ys.map V.str)/\ys[j]? = vd y/\(∀m,m<j->ys[m]?≠vd y)/\Q (.int j) H):=by
 intro pins s σ H x vs v us Q I rx rv h;obtain⟨a,ys,y,j,rfl,rfl,hq,hj,DN,q⟩:=h;cases rx;obtain⟨u,rfl,ru⟩:=vals1 rv;obtain⟨t',rfl⟩:=ru;obtain⟨Yu,Zc,pl,hz⟩:=I.list hq
 have YH:ys.length=Yu.length:=by have:=Zc.length;simpa using this
 have at_:∀m (h:m<Yu.length),∃t,Yu[m]=.str (ys[m]'(by lia)) t:=λm h=>by
  obtain⟨u,k1,k2⟩:=xm Zc (i:=m) (x:=.str (ys[m]'(by lia))) (by simp);rw[Qh h] at k1;cases k1;exact k2
 have ht:=pl.isList.typeIs;obtain⟨⟨c,d,dt,sl⟩,n,eo,hc,hd,hs⟩:=pl;dsimp only at hc hd hs;subst hc hd hs;have hjl:j<ys.length:=(OL.mp hj).1;have hjy:ys[j]=y:=(OL.mp hj).2
 have Ca:(j:Int)<2^63-1:=by
  have h1:j<sizeLine:=OY hjl (by simpa using hz)
  have h2:(OO:Int)<=2^63-1:=by decide
  lia
 refine Rm Uo ht PySem.F.entry_list_index (PySem.F.args_list_index_2 _ _) (PySem.SeqAt.list_indexAt a Yu.toArray n zc sl (.str y t') (eqT y) j (by simpa[←YH] using hjl) Ca ?_ λm hm hmj=>?_) ⟨eo,λv hv=>?_,⟨.int j,H,I.tok _,⟨_,rfl⟩,q⟩⟩
 .obtain⟨t,k⟩:=at_ j (by lia)
  show eqT y Yu[j]=xV;rw[k,hjy];exact beq_self_eq_true y
 .have Cf:m<Yu.length:=by simpa using hm
  obtain⟨t,k⟩:=at_ m Cf;show eqT y Yu[m]=zd;rw[k];exact beq_false_of_ne λz=>DN m hmj (by rw[Qh (by lia),z])
 .obtain⟨m,hm,Hy⟩:=Vn (show v∈Yu by simpa using hv)
  obtain⟨t,k⟩:=at_ m hm;rw[←Hy,k];exact XF _ t y t'
noncomputable def zgp:YV X (.type "str") (λxs H Q=>∃x,xs=[.str x]/\Q (.str x) H):=by
 intro pins s σ H xs us Q I r h;obtain⟨x,rfl,q⟩:=h;obtain⟨u,rfl,t,rfl⟩:=vals1 r;exact PySem.P.str_of_str ⟨.str x,H,I,⟨t,rfl⟩,q⟩
end
end L2
namespace D
open L2
section
variable {X:Cx}{pos:Pos}{K:Frag}
noncomputable def hZ:OF->OF->Option OF
 |.str z,.str y=>if (y.length == 0)=zd/\z.length+2<=OO then vd (.list ((Rf z y).map .str)) else zc
 |_,_=>zc
noncomputable def rB(ho:DE X o fo)(he:DE X e fe)
  (YY:autoParam (P1 o "split" X.env (eval o X.env)=eval o X.env) u10)
  (Zx:autoParam (((PK cpos (OM [e] X.env)).all (λx=>!x.1)&&(QS cpos (Qb [] X.env)).all (λx=>x.1.isSome)
   && decide (([e]:List Expr).length+([]:List QR).length+(if ([]:List QR).isEmpty then 0 else 1)<30))=xV) u20)
  (YX:autoParam ((apos.endLine == cpos.line)=xV) u10) (Zy:autoParam (OM [e] X.env=(zd,eval e X.env)::OM [] X.env) u12) (YQ:autoParam ((PK cpos (OM [] X.env)).any (·.1)=zd) u13) :
  DE X (.Call (.Attribute o "split" apos) [e] [] cpos) (ag hZ fo fe):=by
 refine⟨?_⟩;refine pe_imp (iP Q2 RJ PySem.F.type_str_split zgn ho.pe (br he.pe cu Zy) YY Zx YX Zy YQ) λσ H Q=>?_;rintro⟨O,ts,ρ,T,w,T',hc,re,e,q⟩;obtain⟨w1,T1,e1,e⟩:=aE e;obtain⟨w2,T2,e2,e⟩:=aE e;obtain⟨x,y,d,h1,h2,h3,rfl,rfl⟩:=gE e;unfold hZ at h3;split at h3
 .rename_i z y
  split at h3
  .rename_i hz
   cases h3;cases qN h1;refine⟨O,ts,ρ,T,_,T1,hc,re,e1,λv1 H1 s1 Yv r1=>?_⟩;cases (show Rep X.K O H1 v1 _ from r1);refine⟨rfl,O,ts,ρ,T1,w2,T',Yv,re.mono hc s1,e2,λv2 H2 s2 YE r2=>?_⟩;cases (YE.view r2 h2).str;exact⟨z,y,rfl,rfl,hz.1,hz.2,λl hl=>q _ _ (s1.trans (s2.trans (.new hl _))) (YE.new hl _) (YE.newL hl (qB _))⟩
  .cases h3
 .cases h3
def j8(y:Str):List Str->Option Nat
 |[]=>zc
 |x::r=>if x=y then vd 0 else (j8 y r).map (· + 1)
theorem x8:∀{ys:List Str}{j:Nat},j8 y ys=vd j->ys[j]? = vd y/\∀m,m<j->ys[m]?≠vd y
 |[],_,h=>by cases h
 |x::r,j,h=>by
  unfold j8 at h;split at h
  .rename_i hx
   cases h;exact⟨by simp[hx],λm hm=>absurd hm (P8 _)⟩
  .rename_i hx
   obtain⟨i,h1,rfl⟩:=OT.mp h;obtain⟨k1,k2⟩:=x8 h1;refine⟨by simpa using k1,λm hm=>?_⟩
   cases m with
   |zero=>simpa using hx
   |succ m=>simpa using k2 m (by lia)
noncomputable def tV(xs:List OF)(w:W)(T:Tp):Option (W×Tp):=match w with
 | .d (.str y)=>(match d7 xs with
  | some ys=>(match j8 y ys with
   |some j=>vd (.d (.int (j:Int)),T)
   | none=>zc)
  | none=>zc)
 |_=>zc
def tX(fo fe:FE):FE:=λρ T=>Yz (fo ρ T) λw T1=>match w with
 |.d (.list xs)=>Yz (fe ρ T1) (tV xs)
 |_=>zc
noncomputable def zgq(ho:DE X o fo)(he:DE X e fe)
  (YY:autoParam (P1 o "index" X.env (eval o X.env)=eval o X.env) u10)
  (Zx:autoParam (((PK cpos (OM [e] X.env)).all (λx=>!x.1)&&(QS cpos (Qb [] X.env)).all (λx=>x.1.isSome)
   && decide (([e]:List Expr).length+([]:List QR).length+(if ([]:List QR).isEmpty then 0 else 1)<30))=xV) u20)
  (YX:autoParam ((apos.endLine == cpos.line)=xV) u10) (Zy:autoParam (OM [e] X.env=(zd,eval e X.env)::OM [] X.env) u12) (YQ:autoParam ((PK cpos (OM [] X.env)).any (·.1)=zd) u13) :
  DE X (.Call (.Attribute o "index" apos) [e] [] cpos) (tX fo fe):=by
 refine⟨?_⟩;refine pe_imp (iP RB Uo PySem.F.type_list_index zgo ho.pe (br he.pe cu Zy) YY Zx YX Zy YQ) λσ H Q=>?_;rintro⟨O,ts,ρ,T,w,T',hc,re,e,q⟩;obtain⟨w1,T1,e1,e⟩:=aE e;split at e
 .rename_i xs
  obtain⟨w2,T2,e2,e⟩:=aE e;refine⟨O,ts,ρ,T,_,T1,hc,re,e1,λv1 H1 s1 Yv r1=>?_⟩;obtain⟨a1,vs1,rfl,t1,q1⟩:=(Vw.rep (show Rep X.K O H1 v1 (.list xs) from r1)).lst;refine⟨.inl ⟨rfl,vs1,t1⟩,O,ts,ρ,T1,w2,T2,Yv,re.mono hc s1,e2,λv2 H2 s2 YE r2=>?_⟩;have Bl:=Rep.mono (Yv.le s2) r1;obtain⟨a2,vs2,ea,t2,q2⟩:=(Vw.rep (show Rep X.K O H2 (.ref a1) (.list xs) from Bl)).lst;cases ea;unfold tV at e;split at e
  .rename_i y
   split at e
   .rename_i ss hs
    split at e
    .rename_i j h1
     cases e;obtain⟨k1,k2⟩:=x8 h1;rw[me q2 hs] at t2;cases (show Rep X.K O H2 v2 _ from r2);exact⟨a1,ss,_,j,rfl,rfl,t2,k1,k2,q _ H2 (s1.trans s2) YE (.int _)⟩
    .cases e
   .cases e
  .cases e
 .cases e
noncomputable def jZ:List OF->Option OF
 |[.int i]=>if i.natAbs.log2<1920 then vd (.str (toString i)) else zc
 |[.str x]=>vd (.str x)
 |_=>zc
noncomputable def zK:eV X (.type "str") jZ:=⟨_,ztg.or zgp,λO ts H T vs xs d Q hc h e q=>by
 unfold jZ at e;split at e
 .split at e
  .rename_i hz
   cases e;obtain⟨v,rfl,g⟩:=dm h;cases g.int;exact .inl ⟨_,rfl,hz,q _ H (.refl _ _) hc (.str _)⟩
  .cases e
 .cases e
  obtain⟨v,rfl,g⟩:=dm h;cases g.str;exact .inr ⟨_,rfl,q _ H (.refl _ _) hc (.str _)⟩
 .cases e⟩
noncomputable def kY(i:Nat)(ρ:Yy)(x y:Option OF)(T:Tp):Option ((Fl×Yy)×Tp):=match x,y with
 |some (.list xs),vd (.list ys)=>if xs.length+ys.length<=OO then vd ((.nx,ρ.set i (vd (.loc (.list (xs++ys))))),T) else zc
 |_,_=>zc
noncomputable def fA(i:Nat)(fa fb:FE):FS:=λρ T=>Yz (fa ρ T) λw1 T1=>Yz (fb ρ T1) λw2 T2=>kY i ρ (view T2 w1) (view T2 w2) T2
noncomputable def oz(hN:X.N.Nodup)(ha:DE X a fa)(hb:DE X b fb)(hi:autoParam (X.N[i]? = vd x) u10)(hx:autoParam (Loc X.env.scope x) u18)(hs:autoParam (P4 (.BinOp a .Add b Cn) (vd (.Name x pos')) pos.line X.env=pure zd) u10)
  (hf:autoParam (X.fn x=xV\/X.env.scope.names.lookup x=vd .local) u15):DS X (.Assign [.Name x pos'] (.BinOp a .Add b Cn) pos) (fA i fa fb):=by
 refine⟨?_⟩;refine dj (gB hN hi hx (mL om ha.pe hb.pe) hs hf) λD σ H=>?_;rintro⟨ze,H₀,F,ts,O,ρ,T,fl,ρ',T',rs,e,q⟩;obtain⟨w1,T1,e1,e⟩:=aE e;obtain⟨w2,T2,e2,e⟩:=aE e;refine⟨O,ts,ρ,T,w1,T1,rs.hc,rs.re,e1,λv1 H1 s1 Yv r1=>?_⟩;have Y6:=rs.step s1 Yv;refine⟨O,ts,ρ,T1,w2,T2,Yv,Y6.re,e2,λv2 H2 s2 YE r2=>?_⟩;have Ik:=Y6.step s2 YE;unfold kY at e;split at e
 .rename_i xs ys h1 h2
  split at e
  .rename_i hz
   cases e;obtain⟨a1,vs,rfl,t1,q1⟩:=(YE.view (r1.mono Yv s2) h1).lst;obtain⟨b1,us,rfl,t2,q2⟩:=(YE.view r2 h2).lst;exact⟨a1,b1,vs,us,rfl,rfl,t1,t2,by rw[q1.length,q2.length];exact hz,λp hp=>q _ _ _ (Ik.own hp (q1.append q2))⟩
  .cases e
 .cases e
structure Hd(P:Pb)(w:Pp)(K:Frag)(mg:Str->Option OH)(base:Heap)(C:Addr)(ps:List Str)(k:Nat)(sp:Sp):Prop where
 ex:∃f fd,YJ P w K mg base ZA k f fd ps sp/\L2.Binds K fd ps []/\Mk K C f
noncomputable def tZ(K:Frag)(C:Addr):Bool:=RZ K C XJ&&QK K C&&Tz K C&&(match Pe K (.ref C) "__setattr__" with
 |some (vd (.builtin s))=>s == "object.__setattr__"
 | _=>zd)
noncomputable def zgr(h:tZ K C=xV):Iw K C:=by
 unfold tZ at h;rw[OW,OW,OW] at h;obtain⟨⟨⟨h1,h2⟩,h3⟩,h4⟩:=h;refine⟨h1,h2,h3,?_⟩;split at h4
 .simp_all
 .cases h4
def K2(K:Frag)(C:Addr)(f:Str):Bool:=match Pe K (.ref C) f with
 |some zc=>xV
 |_=>zd
def sN(h:K2 K C f=xV):Y7 K C f:=by
 unfold K2 at h;split at h
 .rename_i e
  exact e
 .cases h
def DL(K:Frag)(C:Addr):Bool:=UH K C&&P5 K (.ref C)
structure Kk(K:Frag)(C:Addr)(name qual:Str)(st:Stmt):Prop where
 ex:∃(f:Addr) (oc:OH) (od an:Option Addr) (sl:Array (Option OH)) (kV dc pm cd ct:OH),Pe K (.ref C) name=vd (vd (.ref f)) /\
  K.lookup f=vd ⟨oc,od,.func (PF name qual (bX st) (bt st) (aK st) .none kV dc pm an cd ct),sl⟩/\Ry K cd qual=xV/\P5 K (.ref f)=xV/\RF K (.ref f)=xV
noncomputable def Jx{K:Frag}{C:Addr}{name qual:Str}{st:Stmt}{f:Addr}{oc:OH}{od an:Option Addr}{sl:Array (Option OH)}{kV dc pm cd ct:OH}(a:Pe K (.ref C) name=vd (vd (.ref f)))
  (l:K.lookup f=vd ⟨oc,od,.func (PF name qual (bX st) (bt st) (aK st) .none kV dc pm an cd ct),sl⟩) (c:Ry K cd qual=xV) (k:P5 K (.ref f)=xV) (n:RF K (.ref f)=xV):Kk K C name qual st:=⟨f,oc,od,an,sl,kV,dc,pm,cd,ct,a,l,c,k,n⟩
def Kk.mth{P:Pb}{w:Pp}{K:Frag}{mg:Str->Option OH}{base:Heap}{C:Addr}{name qual:Str}{st:Stmt}{ps:List Str}{k:Nat}{sp:Sp}(d:Kk K C name qual st)
  (hb:∀(kV doc pm:OH) (an:Option Addr) (YA ct:OH) (us:List OH),us.length=ps.length->QZ (PF name qual (bX st) (bt st) (aK st) .none kV doc pm an YA ct) ⟨us,[]⟩=pure (ps.zip us))
  (ok:∀f fd,Gy K name qual st f fd->YJ P w K mg base ZA k f fd ps sp):ES P w K mg base C name ps k sp:=by
 obtain⟨f,oc,od,an,sl,kV,dc,pm,cd,ct,a,l,c,kp,fn⟩:=d.ex;have F:=jI (st:=st) l c kp;exact⟨f,_,ok f _ F,F.binds hb,⟨a,fn,kp⟩⟩
def Kk.ini{P:Pb}{w:Pp}{K:Frag}{mg:Str->Option OH}{base:Heap}{C:Addr}{qual:Str}{st:Stmt}{ps:List Str}{k:Nat}{sp:Sp}(d:Kk K C "__init__" qual st)(m:DL K C=xV)
  (hb:∀(kV doc pm:OH) (an:Option Addr) (YA ct:OH) (us:List OH),us.length=ps.length->QZ (PF "__init__" qual (bX st) (bt st) (aK st) .none kV doc pm an YA ct) ⟨us,[]⟩=pure (ps.zip us))
  (ok:∀f fd,Gy K "__init__" qual st f fd->YJ P w K mg base ZA k f fd ps sp):Hd P w K mg base C ps k sp:=by
 obtain⟨f,oc,od,an,sl,kV,dc,pm,cd,ct,a,l,c,kp,fn⟩:=d.ex;have F:=jI (st:=st) l c kp;unfold DL at m;rw[OW] at m;exact⟨f,_,ok f _ F,F.binds hb,⟨m.1,a,fn,m.2⟩⟩
noncomputable def zgs{C:Addr}{e:Expr}{fe:FE}{fr:FS}{rest:List Stmt}{cn x:Str}{p pos' cpos:Pos}{ps:List Str}{k i:Nat}{m:YG}(G:Hd X.prog X.w X.K X.mg X.base C ps k (Zq X.K ps.length m))(hr:YD (k+1) X.A)(hg:Gl X cn)(hm:X.mg cn=vd (.ref C))(hN:X.N.Nodup)(he:DE X e fe)(ZK:Z7 X rest fr)
  (h2:autoParam (ps.length=2) u10) (hi:autoParam (X.N[i]? = vd x) u10) (hx:autoParam (Loc X.env.scope x) u18) (YU:autoParam ((cn == ("__debug__" : Str))=zd) u11)
  (Zy:autoParam (OM [e] X.env=(zd,eval e X.env)::OM [] X.env) u12) (Y1:autoParam ((PK cpos (OM [] X.env)).any (·.1)=zd) u13)
  (hs:autoParam (P4 (.Call (.Name cn p) [e] [] cpos) (vd (.Name x pos')) pos.line X.env=pure zd) u10) (hf:autoParam (X.fn x=xV\/X.env.scope.names.lookup x=vd .local) u15) :
  Z7 X (.Assign [.Name x pos'] (.Call (.Name cn p) [e] [] cpos) pos::rest) (iX i C m fe fr):=by
 obtain⟨f,fd,F1,F2,M⟩:=G.ex;exact zgm M F1 F2 hr hg hm hN he ZK h2 hi hx YU Zy Y1 hs hf
def gG:OF->OF->Option OF
 |.dict ds,.str s=>vd ((cJ ds s).getD .none)
 |_,_=>zc
def gM(T0:Tp)(w1 w2:W)(T:Tp):Option (W×Tp):=match view T0 w1 with
 |some (.dict _)=>HB gG T w1 w2
 |_=>zc
def fW(f g:FE):FE:=λρ T=>Yz (f ρ T) λw1 T1=>Yz (g ρ T1) λw2 T2=>gM T1 w1 w2 T2
def zgt(r:Rd H a (.dK kvs)):DK H a:=.inl ⟨kvs,r⟩
noncomputable def yy(hr:YD k X.A)(ho:DE X o f)(he:DE X e g)
  (m:M1 X o "get" apos e cpos:=by exact⟨rfl,il rfl,rfl,by rfl⟩):DE X (.Call (.Attribute o "get" apos) [e] [] cpos) (fW f g):=by
 refine⟨?_⟩;refine pe_imp (zdz (tF hr) ho.pe he.pe m) λσ H Q=>?_;rintro⟨O,ts,ρ,T,w,T',hc,re,e,q⟩;obtain⟨w1,T1,e1,e⟩:=aE e;obtain⟨w2,T2,e2,e⟩:=aE e;unfold gM at e;split at e
 .rename_i ds0 Jg
  obtain⟨x,y,d,h1,h2,h3,rfl,rfl⟩:=gE e;refine⟨O,ts,ρ,T,w1,T1,hc,re,e1,λv1 H1 s1 Yv r1=>?_⟩;obtain⟨a,kvs0,rfl,t0,_⟩:=(Yv.view r1 Jg).dct;refine⟨a,rfl,zgt t0,O,ts,ρ,T1,w2,T',Yv,re.mono hc s1,e2,λv2 H2 s2 YE r2=>?_⟩;have k1:=YE.view (r1.mono Yv s2) h1;have k2:=YE.view r2 h2;unfold gG at h3;split at h3
  .rename_i ds s
   cases k2.str;obtain⟨a',kvs,ea,t,r⟩:=k1.dct;cases ea;cases h3;refine⟨_,Cj.rd (k:=QN s) t,?_⟩
   rcases lZ  r with⟨z1,z2⟩|⟨v,d',z1,z2,rv⟩
   .rw[z2]
    exact q _ H2 (s1.trans s2) YE (by rw[z1];exact .non)
   .rw[z2]
    exact q _ H2 (s1.trans s2) YE (by rw[z1];exact rv)
  .cases h3
 .cases e
def TupAt.keep(h:∀b o,H b=vd o->(∀ks,o≠.dK ks)->(∀ob ks,o≠.frz ob (.dK ks))->H' b=vd o)(t:TupAt K (λ_=>False) H a vs):TupAt K (λ_=>False) H' a vs:=by
 rcases t with⟨n,t|⟨o,t⟩⟩|t
 .exact .inl ⟨n,.inl (h _ _ t (λ_ z=>nomatch z) (λ_ _ z=>nomatch z))⟩
 .exact .inl ⟨n,.inr ⟨o,h _ _ t (λ_ z=>nomatch z) (λ_ _ z=>nomatch z)⟩⟩
 .exact .inr t
mutual
theorem Rep.keep{H H':Hp}(h:∀b o,H b=vd o->(∀ks,o≠.dK ks)->(∀ob ks,o≠.frz ob (.dK ks))->H' b=vd o):∀{v:V}{d:OF},Rep K (λ_=>False) H v d->lj d=xV->Rep K (λ_=>False) H' v d
 |_,_,.non,_=>.non
 |_,_,.bl b,_=>.bl b
 |_,_,.int i,_=>.int i
 |_,_,.str x,_=>.str x
 |_,_,.tup t r,e=>.tup (t.keep h) (Yw.keep h r (by simpa[lj] using e))
 |_,_,.lst t r,e=>by simp[lj] at e
 |_,_,.dct n t r,e=>by simp[lj] at e
theorem Yw.keep{H H':Hp}(h:∀b o,H b=vd o->(∀ks,o≠.dK ks)->(∀ob ks,o≠.frz ob (.dK ks))->H' b=vd o):∀{vs:List V}{ds:List OF},Yw K (λ_=>False) H vs ds->mJ ds=xV->Yw K (λ_=>False) H' vs ds
 |_,_,.nil,_=>.nil
 |_,_,.cons (d:=d) (ds:=ds) r t,e=>by
  have e':(lj d&&mJ ds)=xV:=by simpa[mJ] using e
  rw[OW] at e';exact .cons (Rep.keep h r e'.1) (Yw.keep h t e'.2)
end
end
section
variable {X:Cx}{pos:Pos}{e:Expr}{fe:FE}
noncomputable def putN(ds:List (OF×OF))(s:Str)(x:OF):List (OF×OF):=if (cJ ds s).isSome=xV then dP ds s x else ds++[(.str s,x)]
theorem YN.app{K:Frag}{O:Addr->Prop}{H:Hp}{s:Str}{v:V}{x:OF}(rx:Rep K O H v x):∀{kvs:List (Key×V)}{ds:List (OF×OF)},YN K O H kvs ds->YN K O H (kvs++[(QN s,v)]) (ds++[(.str s,x)])
 |_,_,.nil=>.cons  rx .nil
 |_,_,.cons r t=>.cons r (YN.app rx t)
noncomputable def zgu{K:Frag}{O:Addr->Prop}{H:Hp}{s:Str}{v:V}{x:OF}(rx:Rep K O H v x){kvs:List (Key×V)}{ds:List (OF×OF)}(r:YN K O H kvs ds):YN K O H (putK kvs (QN s) v) (putN ds s x):=by
 unfold putN
 rcases lZ  r with⟨z1,z2⟩|⟨v',d',z1,z2,_⟩
 .rw[z1,zdk v z2]
  exact r.app rx
 .rw[z1]
  have JE:=zgj (by rw[z2];rfl);unfold putK;rw[if_pos JE];exact qE rx r
noncomputable def gL(i:Nat)(ρ:Yy)(ds:List (OF×OF))(w k:W)(T:Tp):Option ((Fl×Yy)×Tp):=match w,k with
 |.d x,.d (.str s)=>if ds.length<=1000 then vd ((.nx,ρ.set i (vd (.loc (.dict (putN ds s x))))),T) else zc
 |_,_=>zc
noncomputable def gK(i:Nat)(fk:FE)(ρ:Yy)(w:W)(T:Tp)(o:Option (Option W)):Option ((Fl×Yy)×Tp):=match o with
 |some (vd (.loc (.dict ds)))=>Yz (fk ρ T) (gL i ρ ds w)
 |_=>zc
def fB(i:Nat)(fk fv:FE):FS:=λρ T=>Yz (fv ρ T) λw T1=>gK i fk ρ w T1 ρ[i]?
noncomputable def sf(hr:YD k X.A)(hk:DE X kx fk)(he:DE X e fv)(hN:autoParam (X.N[i]? = vd x) u10)(hv:autoParam (Ee X.env.scope x) u21)(hd:autoParam ((x == ("__debug__" : Str))=zd) u11)
  (hcd:autoParam ((x == ("__classdict__" : Str))=zd) u11) (hs:autoParam (P4 e (vd (.Subscript (.Name x p) kx pos')) pos.line X.env=pure zd) u10):DS X (.Assign [.Subscript (.Name x p) kx pos'] e pos) (fB i fk fv):=by
 refine⟨?_⟩;refine dj (zds (tF hr) (pv i hN hv hd hcd) hk.pe he.pe hs) λD σ H=>?_;rintro⟨ze,H₀,F,ts,O,ρ,T,fl,ρ',T',rs,e,q⟩;obtain⟨w,T1,e1,e⟩:=aE e;refine⟨O,ts,ρ,T,w,T1,rs.hc,rs.re,e1,λv H1 s1 Yv r1=>?_⟩;have Y6:=rs.step s1 Yv;unfold gK at e;split at e
 .rename_i ds c3
  obtain⟨wk,T3,e3,e⟩:=aE e;unfold gL at e;split at e
  .rename_i xv s _
   split at e
   .rename_i c2
    cases e;obtain⟨u,k1,a,rfl,k2,k3,kvs,k4,k5⟩:=Y6.re i _ c3;refine⟨_,k1,O,ts,ρ,T1,_,_,Y6.hc,Y6.re,e3,λy H3 s3 Zf r3=>?_⟩;have Z1:=Y6.step s3 Zf;cases (show Rep X.K O H3 y (.str s) from r3);have k4':H3 a=vd (.dK kvs):=s3 _ _ k3 k4;have BQ:YN X.K O H3 kvs ds:=k5.mono (Yv.le s3)
    have YH:kvs.length<sizeLine:=by
     rw[wq BQ];exact RK c2 (by decide)
    have rx:Rep X.K O H3 v xv:=ZJ.mono (w:=.d xv) r1 Yv s3;refine⟨a,_,rfl,Gq.k (k:=(QN s:Key)) k4' YH,?_⟩;exact q O σ _ (Z1.putO c3 k1 (.inr (.inl ⟨_,rfl⟩)) λle=>⟨_,bg,zgu (Rep.mono le rx) (BQ.mono le)⟩)
   .cases e
  .cases e
 .cases e
end
def Al(n:Nat):W->Option W
 |.tp k=>if k<n then vd (.tp k) else zc
 |w=>vd w
def li(n:Nat)(ρ:Yy):Yy:=ρ.map λo=>o.bind (Al n)
noncomputable def kB(n:Nat)(o:Option ((Fl×Yy)×Tp)):Option ((Fl×Yy)×Tp):=match o with
 | some ((fl,ρ'),T3)=>(match jQ T3 with
  |some (T4,_)=>if T4.length=n then vd ((fl,li n ρ'),T4) else zc
  | none=>zc)
 |none=>zc
section
variable {K:Frag}{ze:Addr->Prop}{H₀:Hp}{F:List ((Addr->Prop)×Hp)}{ts:List Addr}{O:Addr->Prop}{H:Hp}{σ:L2.St}{ρ:Yy}{T:Tp}{X:Cx}{pos:Pos}{rest:List Stmt}{fr:FS}
def RS.openR(r:RS K ze H₀ F ts O H σ ρ T)(hp:H p=zc)(rv:Yw K O H vs xs) :
  RS K (λb=>ze b\/b=p) H₀ F (ts++[p]) (λb=>O b\/b=p) (upd H p (.lst vs)) (σ.set i (vd (.ref p))) (ρ.set i (vd (.tp T.length))) (T++[xs]):=by
 have nO:=r.hc.fresh hp;have nt:p∉ts:=λz=>nO (r.hc.own _ z)
 have le:Le O H (λb=>O b\/b=p) (upd H p (.lst vs)):=λa o n e=>by
  have z1:a≠p:=bx e hp;exact⟨λq=>q.elim n z1,by rw[aJ z1];exact e⟩
 have hw:∀ys,W.tp T.length≠.loc ys:=λ_ z=>nomatch z
 refine⟨⟨λb hb=>?_,λb hb=>?_,?_,by simp[r.hc.len],λj b zs q1 q2=>?_⟩,λj w e=>?_,λb hb=>hb.elim (λz=>.inl (r.sub b z)) .inr,λb hb=>?_,λb o n e=>?_,λj xs a e1 e2=>?_,λj k xs ys v e1 e2 e3 e4=>?_,λf hf=>(r.frs f hf).trans le,by simp[r.len]⟩
 .rcases Pq.mp hb with z|z
  .exact .inl (r.hc.own b z)
  .exact .inr (Pj.mp z)
 .by_cases z:b=p
  .rw[z,bg];exact .inl ⟨_,rfl⟩
  .rw[aJ z];exact r.hc.trk b (hb.resolve_right z)
 .rw[Rj]
  exact⟨r.hc.nd,by simp,λb hb c hc z=>nt (by rw[←Pj.mp hc,←z];exact hb)⟩
 .by_cases hj:j<ts.length
  .rw[Pa hj] at q1
   rw[Pa (by rw[←r.hc.len];exact hj)] at q2;exact(r.hc.tape j b zs q1 q2).mono (λo h1=>by rw[aJ (bx h1 hp)];exact h1) le
  .have E7:j=ts.length:=by
    have:=(OL.mp q1).1;simp at this;omega
   subst E7
   have e1:b=p:=by simpa using q1.symm
   have e2:zs=xs:=by rw[r.hc.len] at q2;simpa using q2.symm
   subst e1 e2;exact .inl ⟨rv.notO,vs,bg,rv.mono le⟩
 .by_cases z:i=j
  .subst z
   have hl:i<ρ.length:=by
    have:=(OL.mp e).1;simpa using this
   rw[OX hl] at e;cases e;exact⟨.ref p,by rw[OX (by rw[r.len];exact hl)],p,by rw[←r.hc.len];simp,rfl⟩
  .rw[OR z] at e
   obtain⟨x,h1,h2⟩:=r.re j w e;refine⟨x,by rw[OR z];exact h1,?_⟩
   cases w with
   |d y=>exact Rep.mono le h2
   |tp k=>
    obtain⟨a,k1,k2⟩:=h2;exact⟨a,by rw[Pa (OL.mp k1).1];exact k1,k2⟩
   |loc ys=>
    obtain⟨a,e1,m1,m2,m3⟩:=h2;have na:a≠p:=λz=>nO (z ▸ m1);refine⟨a,e1,.inl m1,λz=>?_,m3.mono (λo' q=>by rw[aJ na];exact q) le⟩
    rcases Pq.mp z with z|z
    .exact m2 z
    .exact na (Pj.mp z)
 .rcases Pq.mp hb with z|z
  .exact .inl (r.ots b z)
  .exact .inr (Pj.mp z)
 .have nb:b∉ts:=λz=>n (QF _ z)
  have e1:=r.same b o nb e;rw[aJ (bx e1 hp)];exact e1
 .obtain⟨n,e⟩:=eK hw e1
  rw[OR (QP n)] at e2;obtain⟨f1,f2⟩:=r.fresh j xs a e e2;refine⟨f1,λz=>z.elim f2 λz=>?_⟩;obtain⟨v,h1,a',ea,m1,_⟩:=r.re j _ e;rw[e2] at h1;cases h1;cases ea;exact nO (z ▸ m1)
 .obtain⟨n1,e1⟩:=eK hw e1
  obtain⟨n2,e2⟩:=eK hw e2;rw[OR (QP n1)] at e3;rw[OR (QP n2)] at e4;exact r.dist j k xs ys v e1 e2 e3 e4
def RS.closeR(ots:∀b∈ts,ze b)(nt:p∉ts)(h0:H₀ p=zc)(n0:¬ze p)(r:RS K (λb=>ze b\/b=p) H₀ F (ts++[p]) O H σ ρ (T++[row])):RS K ze H₀ F ts O H σ (li T.length ρ) T:=by
 have Ea:ts.length=T.length:=by have:=r.hc.len;simp at this;exact this
 have at_:∀{j:Nat}{w:W},(li T.length ρ)[j]? = vd (vd w)->ρ[j]? = vd (vd w)/\∀k,w=.tp k->k<T.length:=λ{j w} e=>by
  unfold li at e;rw[Qn] at e
  cases hu:ρ[j]? with
  |none=>simp_all
  |some u=>
   cases u with
   |none=>simp_all
   |some u=>
    rw[hu] at e;have e':Al T.length u=vd w:=Rc e
    cases u with
    |d x=>cases e';exact⟨rfl,λk z=>nomatch z⟩
    |loc x=>cases e';exact⟨rfl,λk z=>nomatch z⟩
    |tp k=>
     have e2:(if k<T.length then vd (W.tp k) else zc)=vd w:=e';split at e2
     .lia
     .cases e2
 refine⟨⟨λb hb=>r.hc.own b (QF _ hb),r.hc.trk,(Rj.mp r.hc.nd).1,Ea,λj b zs q1 q2=>?_⟩,λj w e=>?_,λb hb=>r.sub b (.inl hb),ots,λb o n e=>?_,λj xs a e1 e2=>?_,λj k xs ys v e1 e2 e3 e4=>?_,r.frs,by simp[li,r.len]⟩
 .have hj:j<ts.length:=(OL.mp q1).1
  exact r.hc.tape j b zs (by rw[Pa hj];exact q1) (by rw[Pa (by rw[←Ea];exact hj)];exact q2)
 .obtain⟨e1,hk⟩:=at_ e
  obtain⟨v,h1,h2⟩:=r.re j w e1;refine⟨v,h1,?_⟩
  cases w with
  |d x=>exact h2
  |tp k=>
   obtain⟨a,k1,k2⟩:=h2;have:=hk k rfl;exact⟨a,by rw[Pa (by rw[Ea];exact this)] at k1;exact k1,k2⟩
  |loc x=>
   obtain⟨a,k1,k2,k3,k4⟩:=h2;exact⟨a,k1,k2,λz=>k3 (QF _ z),k4⟩
 .refine r.same b o (λz=>?_) e<;>simp_all
 .obtain⟨f1,f2⟩:=r.fresh j xs a (at_ e1).1 e2
  exact⟨f1,λz=>f2 (.inl z)⟩
 .exact r.dist j k xs ys v (at_ e1).1 (at_ e2).1 e3 e4
noncomputable def zgv
  (rs:RS X.K ze H₀ F ts O H σ ρ T) (hp:H p=zc) (rv:Yw X.K O H vs xs) (e:kB T.length (fr (ρ.set i (vd (.tp T.length))) (T++[xs]))=vd ((fl,ρ'),T')) (q:Ay X.K ze H₀ F ts D ρ' T' fl):tE X.K fr D (σ.set i (vd (.ref p))) (upd H p (.lst vs)):=by
 have nO:=rs.hc.fresh hp;have nt:p∉ts:=λz=>nO (rs.hc.own _ z)
 have h0:H₀ p=zc:=by
  cases e:H₀ p with
  |none=>rfl
  |some o=>rw[rs.same p o nt e] at hp;cases hp
 have n0:¬ze p:=λz=>nO (rs.sub p z);have Y6:=rs.openR (i:=i) hp rv;generalize hE:fr (ρ.set i (vd (.tp T.length))) (T++[xs])=E at e;unfold kB at e;split at e
 .rename_i BW YT T3
  split at e
  .rename_i T4 row hT
   split at e
   .rename_i YH
    have eT:=rf hT;subst eT;cases e;have lb:∀{G:Hp},Le (λb=>ze b\/b=p) G ze G:=λa o n e=>⟨λz=>n (.inl z),e⟩
    have LC:∀{G:Hp}{B:Addr->Prop},HC X.K B (ts++[p]) G (T'++[row])->ts.length=T'.length:=λh=>by have:=h.len;simp at this;exact this
    have ER:∀{G:Hp},YB (ts++[p]) H₀ G->YB ts H₀ G:=λs b o n e=>s b o (λz=>by simp_all) e;refine⟨_,H₀,F,ts++[p],_,_,_,fl,YT,T'++[row],Y6,hE,?_⟩;have IE:T.length=T'.length:=YH.symm
    cases fl with
    |nx=>exact λO' σ' H' r=>q O' σ' H' (by rw[IE];exact RS.closeR rs.ots nt h0 n0 r)
    |bk=>exact λO' σ' H' r=>q O' σ' H' (by rw[IE];exact RS.closeR rs.ots nt h0 n0 r)
    |ct=>exact λO' σ' H' r=>q O' σ' H' (by rw[IE];exact RS.closeR rs.ots nt h0 n0 r)
    |rt y=>
     intro v H' s1 c1 r1;refine q v H' (ER s1) ⟨rs.ots,λb hb=>c1.trk b (.inl hb),rs.hc.nd,LC c1,λj b zs q1 q2=>?_⟩ (Rep.mono lb r1);have hj:j<ts.length:=(OL.mp q1).1;exact(c1.tape j b zs (by rw[Pa hj];exact q1) (by rw[Pa (by rw[←LC c1];exact hj)];exact q2)).mono (λ_ h=>h) lb
    |ro y=>
     intro A v H' s1 hA c1 o1;have lb2:Le (λb=>(ze b\/b=p)\/A b) H' (λb=>ze b\/A b) H':=λb o n e=>⟨λz=>n (z.elim (λz=>.inl (.inl z)) .inr),e⟩;refine q A v H' (ER s1) (λb hb=>⟨(hA b hb).1,λz=>(hA b hb).2 (.inl z)⟩) ⟨λb hb=>.inl (rs.ots b hb),λb hb=>c1.trk b (hb.elim (λz=>.inl (.inl z)) .inr),rs.hc.nd,LC c1,λj b zs q1 q2=>?_⟩ (Ie.mono lb2 o1);have hj:j<ts.length:=(OL.mp q1).1;exact(c1.tape j b zs (by rw[Pa hj];exact q1) (by rw[Pa (by rw[←LC c1];exact hj)];exact q2)).mono (λ_ h=>h) lb2
   .cases e
  .cases e
 .cases e
end
noncomputable def zgw{P:Pb}{w:Pp}{K:Frag}{mg:Str->Option OH}{base:Heap}{CX:Jr}{k:Nat}{f:Addr}{fd:Qm}{ps:List Str}{sp Dt:Sp}(F:YJ P w K mg base CX k f fd ps sp)(i:∀vs H Q E,Dt vs H Q E->sp vs H Q E):YJ P w K mg base CX k f fd ps Dt:=⟨λvs H Q E h=>F.1 vs H Q E (i _ _ _ _ h),λA outer s H args us vs Q E a b c d h=>F.2 A _ s H args us vs Q E a b c d (i _ _ _ _ h)⟩
noncomputable def zgx{K:Frag}{m:YG}(hm:∀ns:List Int,ns.length<=63->∃T',m [.d (iJ ns)] []=vd (.bool xV,T')):∀vs H Q E,pC K vs H Q E->Zq K 1 m vs H Q E:=by
 intro vs H Q E h;obtain⟨a,ns,rfl,hS,hl,q⟩:=h;obtain⟨T',e⟩:=hm ns hl
 have ra:LstAt K (λ_=>False) H a (ns.map V.int):=by
  rcases hS with h|h
  .exact .inl ⟨λz=>z,h⟩
  .exact .inr (.inr h)
 refine⟨λ_=>False,[],[],[.d _],.bool xV,T',⟨λb hb=>(by cases hb),λb hb=>hb.elim,W8,rfl,λi a xs e1 _=>by simp at e1⟩,.cons (.lst ra (vg ns)) .nil,rfl,e,λv H' _ _ r=>?_⟩;cases r;exact q H'
section
variable {X:Cx}{K:Frag}{ze:Addr->Prop}{H₀:Hp}{F:List ((Addr->Prop)×Hp)}{ts:List Addr}{O A:Addr->Prop}{H H1:Hp}{σ:L2.St}{ρ:Yy}{T T1:Tp}
noncomputable def zgy:Jf X "str.join" (λx vs H Q=>∃(z:Str) (l:Addr) (ys:List Str),x=.str z/\vs=[.ref l]/\ZV X.K H l (ys.map V.str)/\(ys.map (·.length)).sum+ys.length*z.length<=16777216/\Q (.str (Py z ys)) H):=by
 intro pins s σ H x vs v us Q I rx rv h;obtain⟨z,l,ys,rfl,rfl,hq,hz,q⟩:=h;obtain⟨t,rfl⟩:=rx;obtain⟨u,rfl,ru⟩:=vals1 rv;cases ru;obtain⟨Yu,Zc,pl,_⟩:=I.tuple hq;refine join_tuple (ys:=ys) pl (by simpa using uB Zc) hz λt' k=>⟨.str _,H,I.tok _,⟨t',?_⟩,q⟩;show Tc (V5 z ys) t'=_;rw[UT]
noncomputable def AA(r:ZJ K O ts H v w)(h:view T w=vd (.str z)):v=.str z:=by
 cases w with
 |d x=>cases h;cases (show Rep K O H v _ from r);rfl
 |tp k=>
  have Bf:(T[k]?).bind ll=vd (QC z):=h
  cases hk:T[k]? with
  |none=>simp_all
  |some xs=>
   simp_all
 |loc zs=>cases zs <;> cases h
noncomputable def iU:OF->OF->Option OF
 |.str z,.list xs=>match d7 xs with
  |some ys=>if (ys.map (·.length)).sum+ys.length*z.length<=16777216 then vd (.str (Py z ys)) else zc
  |none=>zc
 |.str z,.tuple xs=>match d7 xs with
  |some ys=>if (ys.map (·.length)).sum+ys.length*z.length<=16777216 then vd (.str (Py z ys)) else zc
  |none=>zc
 |_,_=>zc
noncomputable def og(ho:DE X o fo)(he:DE X e fe)
  (YY:autoParam (P1 o "join" X.env (eval o X.env)=eval o X.env) u10)
  (Zx:autoParam (((PK cpos (OM [e] X.env)).all (λx=>!x.1)&&(QS cpos (Qb [] X.env)).all (λx=>x.1.isSome)
   && decide (([e]:List Expr).length+([]:List QR).length+(if ([]:List QR).isEmpty then 0 else 1)<30))=xV) u20)
  (YX:autoParam ((apos.endLine == cpos.line)=xV) u10) (Zy:autoParam (OM [e] X.env=(zd,eval e X.env)::OM [] X.env) u12) (YQ:autoParam ((PK cpos (OM [] X.env)).any (·.1)=zd) u13) :
  DE X (.Call (.Attribute o "join" apos) [e] [] cpos) (ag iU fo fe):=by
 refine⟨?_⟩;refine pe_imp (iP Q2 UU UV (Iz.or zgy) ho.pe (br he.pe cu Zy) YY Zx YX Zy YQ) λσ H Q=>?_;rintro⟨O,ts,ρ,T,w,T',hc,re,e,q⟩;obtain⟨w1,T1,e1,e⟩:=aE e;obtain⟨w2,T2,e2,e⟩:=aE e;obtain⟨x,y,d,h1,h2,h3,rfl,rfl⟩:=gE e;unfold iU at h3;refine⟨O,ts,ρ,T,w1,T1,hc,re,e1,λv1 H1 s1 Yv r1=>?_⟩;split at h3
 .rename_i z xs
  split at h3
  .rename_i ys hy
   split at h3
   .rename_i hz
    cases h3;have ev:=AA r1 h1;subst ev;refine⟨rfl,O,ts,ρ,T1,w2,T',Yv,re.mono hc s1,e2,λv2 H2 s2 YE r2=>?_⟩;obtain⟨a,vs,rfl,t,r⟩:=(YE.view r2 h2).lst;rw[me r hy] at t;exact .inl ⟨z,a,ys,rfl,rfl,t,hz,q _ H2 (s1.trans s2) YE (.str _)⟩
   .cases h3
  .cases h3
 .rename_i z xs
  split at h3
  .rename_i ys hy
   split at h3
   .rename_i hz
    cases h3;have ev:=AA r1 h1;subst ev;refine⟨rfl,O,ts,ρ,T1,w2,T',Yv,re.mono hc s1,e2,λv2 H2 s2 YE r2=>?_⟩;obtain⟨a,vs,rfl,t,r⟩:=(YE.view r2 h2).tup;have t:=t.sq;rw[me r hy] at t;exact .inr ⟨z,a,ys,rfl,rfl,t,hz,q _ H2 (s1.trans s2) YE (.str _)⟩
   .cases h3
  .cases h3
 .cases h3
def RS.keep(r:RS K ze H₀ F ts O H σ ρ T)(hA:∀b,A b->O b):HC K (λb=>ze b\/A b) ts H T/\Le O H (λb=>ze b\/A b) H:=by
 have le:Le O H (λb=>ze b\/A b) H:=λa o n e=>⟨λz=>n (z.elim (r.sub a) (hA a)),e⟩;exact⟨⟨λb hb=>.inl (r.ots b hb),λb hb=>r.hc.trk b (hb.elim (r.sub b) (hA b)),r.hc.nd,r.hc.len,λi a xs e1 e2=>(r.hc.tape i a xs e1 e2).mono (λ_ h=>h) le⟩,le⟩
end
def Jo(o:Option ((Fl×Yy)×Tp)):Option (OF×Tp):=Yz o λp T=>match p with
 |(.ro x,_)=>vd (x,T)
 |_=>zc
def pH(N:Nat)(f:FS):YG:=λws T=>if dB ws=xV then Jo (f (ws.map vd++OQ (N-ws.length) zc) T) else zc
inductive CP(K:Frag)(n:Nat)(m:YG)(vs:List V)(H:Hp)(Q:VK):Prop where
 |mk (O:Addr->Prop) (ts:List Addr) (T:Tp) (ws:List W) (x:OF) (T':Tp) (hc:HC K O ts H T) (r:fX K O ts H vs ws) (hl:ws.length=n) (e:m ws T=vd (x,T'))
  (q:∀(A:Addr->Prop) v H',YB ts H H'->(∀b,A b->H b=zc/\¬O b)->HC K (λb=>O b\/A b) ts H' T'->Ie K (λb=>O b\/A b) A H' v x->Q v H'):CP K n m vs H Q
def Ft(K:Frag)(n:Nat)(m:YG):Sp:=λvs H Q _=>CP K n m vs H Q
noncomputable def zgz{P:Pb}{w:Pp}{K:Frag}{mg:Str->Option OH}{base:Heap}{x qual:Str}{st:Stmt}{f:Addr}{fd:Qm}{N ps:List Str}{k:Nat}{m:FS}(F:Gy K x qual st f fd)(S:YK N ps (aK st))
  (YO:∀(YA:OH) (A:Pw) (outer:List Env) (s:OJ) (H:Hp) (E:XK),YD k (A.deeper (Qf qual (aK st) s.heap.objs.size f YA))->Z7 (aZ ZA P w K mg base N qual (aK st) f YA A outer s H E).nox (bt st) m) :
  YJ P w K mg base ZA (k+1) f fd ps (Ft K ps.length (pH N.length m)):=by
 refine F.ok S (λvs H Q E h=>?_) (λYA A outer s H vs Q E hr h=>⟨_,(YO YA A _ s H E hr).pe,?_⟩)
 .obtain⟨O,ts,T,ws,x,T',hc,Zc,hl,_⟩:=h
  rw[←hl];exact QH Zc
 obtain⟨O,ts,T,ws,x,T',hc,Zc,hl,e,q⟩:=h;unfold pH at e;split at e
 .rename_i hn
  obtain⟨⟨fl,ρ'⟩,T1,e1,e⟩:=aE e;have YH:=QH Zc;have DH:∀{i:Nat}{xs:OF},(ws.map vd++OQ (N.length-ws.length) zc)[i]? = vd (vd (W.loc xs))->False:=λ{i xs} e=>lP hn (Px (ko e));refine⟨O,H,[],ts,O,_,T,fl,ρ',T1,⟨hc,λi u e=>?_,λ_ h=>h,hc.own,.refl _ _,λi xs a e1 _=>(DH e1).elim,λi j xs ys v e1 _ _ _=>(DH e1).elim,λf hf=>absurd hf (by simp),by simp[L2.start,YH]⟩,e1,?_⟩
  .obtain⟨v,h1,h2⟩:=nH Zc (ko e)
   refine⟨v,?_,h2⟩;unfold L2.start;have hi:=(OL.mp h1).1;rw[Pa (by simpa using hi),Qn,h1];rfl
  .cases fl with
   |ro y=>cases e;exact q
   |_=>cases e
 .cases e
section
variable {X:Cx}
abbrev FP:=Yy->Tp->Option (List (Str×OF)×Tp)
def fV:FP:=λ_ T=>vd ([],T)
noncomputable def gD(k:Str)(g:FP)(ρ:Yy)(w:W)(T:Tp):Option (List (Str×OF)×Tp):=match w with
 |.d x=>Yz (g ρ T) λr T2=>vd ((k,x)::r,T2)
 |_=>zc
def dA(k:Str)(f:FE)(g:FP):FP:=λρ T=>Yz (f ρ T) (gD k g ρ)
def gQ(l:List (Str×OF)):List (OF×OF):=l.map λp=>(.str p.1,p.2)
def eB(p:Str×V):Key×V:=(QN p.1,p.2)
structure DP(X:Cx)(pos:Pos)(keys:List (Option Expr))(values:List Expr)(g:FP):Prop where
 ex:∃HV,Ia X pos keys values HV/\∀(σ:L2.St) (H:Hp) (Q:List (V×V)->Hp->Prop) (O:Addr->Prop) (ts:List Addr) (ρ:Yy) (T:Tp) (l:List (Str×OF)) (T':Tp),HC X.K O ts H T->Zj X.K O ts H σ ρ->g ρ T=vd (l,T') ->
  (∀(kvs:List (Str×V)) (H':Hp),YB ts H H'->HC X.K O ts H' T'->kvs.map (·.1)=l.map (·.1)->YN X.K O H' (kvs.map eB) (gQ l)->Q (kvs.map λp=>(V.str p.1,p.2)) H')->oK HV σ H Q
noncomputable def zB:DP X pos [] [] fV:=⟨[],zdu,λσ H Q O ts ρ T l T' hc re e q=>by
 cases e
 exact q [] H (.refl _ _) hc rfl .nil⟩
noncomputable def jz{j}(he:DE X e f)(hr:DP X pos ks vs g):DP X pos (vd (.Constant (.str k) j Ge)::ks) (e::vs) (dA k f g):=by
 obtain⟨HV,hp,hq⟩:=hr.ex;refine⟨_,zdv zsm he.pe hp,λσ H Q O ts ρ T l T' hc re e q=>?_⟩;obtain⟨w,T1,e1,e⟩:=aE e;unfold gD at e;split at e
 .rename_i x
  obtain⟨r,T2,e2,e⟩:=aE e;cases e;refine⟨O,ts,ρ,T,_,_,hc,re,e1,λv H1 s1 Yv r1=>?_⟩;refine hq σ H1 _ O ts ρ T1 r T' Yv (re.mono hc s1) e2 λkvs H2 s2 YE hk rk=>?_;exact q ((k,v)::kvs) H2 (s1.trans s2) YE (by simp[hk]) (.cons (k:=QN k) (ZJ.mono (w:=.d x) r1 Yv s2) rk)
 .cases e
theorem vn:∀(l acc:List (Str×V)),(acc.map (·.1)++l.map (·.1)).Nodup->gF (acc.map eB) (l.map eB)=(acc++l).map eB
 |[],acc,_=>by simp[gF]
 |p::l,acc,h=>by
  have h1:putK (acc.map eB) (QN p.1:Key) p.2=(acc++[p]).map eB:=by
   unfold putK;rw[if_neg]
   .rw[UM]
    rfl
   .intro hc
    obtain⟨kv,m,e⟩:=Wl.mp hc;obtain⟨q,m2,rfl⟩:=Pu.mp m;have e':q.1=p.1:=Yh (of_decide_eq_true e);have:=(Rj.mp h).2.2 q.1 (Pu.mpr ⟨q,m2,rfl⟩) p.1 (by simp);exact this e'
  have:=vn l (acc++[p]) (by simpa using h);have e:gF (acc.map eB) ((p::l).map eB)=gF (putK (acc.map eB) (QN p.1:Key) p.2) (l.map eB):=rfl;rw[e,h1,this];simp
def IJ(l:List (Str×OF)):Bool:=decide ((l.map (·.1)).Nodup)&&decide (l.length<=15)
noncomputable def zha(kvs:List (Str×V)):kvs.map (λp=>(V.str p.1,p.2))=(kvs.map eB).map (λkv=>(kV kv.1,kv.2)):=by
 rw[Qo];rfl
noncomputable def gA(i:Nat)(ρ:Yy)(l:List (Str×OF))(T:Tp):Option ((Fl×Yy)×Tp):=if IJ l=xV then vd ((.nx,ρ.set i (vd (.loc (.dict (gQ l))))),T) else zc
def fR(i:Nat)(g:FP):FS:=λρ T=>Yz (g ρ T) (gA i ρ)
noncomputable def wJ(hN:X.N.Nodup)(h:DP X KN keys values g)(Cg:autoParam (keys.all (·.isSome)=xV) u10)(hl:autoParam (keys.length=values.length) u10)(h0:keys≠[]:=by simp)(Dl:autoParam (keys.length<=15) u11)(hi:autoParam (X.N[i]? = vd x) u10)(hx:autoParam (Loc X.env.scope x) u18)
  (hs:autoParam (P4 (.Dict keys values KN) (vd (.Name x pos')) pos.line X.env=pure zd) u10) (hf:autoParam (X.fn x=xV\/X.env.scope.names.lookup x=vd .local) u15) :
  DS X (.Assign [.Name x pos'] (.Dict keys values KN) pos) (fR i g):=by
 obtain⟨HV,hp,hq⟩:=h.ex;refine⟨?_⟩;refine dj (gB hN hi hx (zdw hp Cg hl h0 Dl) hs hf) λD σ H=>?_;rintro⟨ze,H₀,F,ts,O,ρ,T,fl,ρ',T',rs,e,q⟩;obtain⟨l,T1,e1,e⟩:=aE e;unfold gA at e;split at e
 .rename_i hok
  cases e;have D5:=of_decide_eq_true ((OW _ _ ▸ hok).1);have IT:=of_decide_eq_true ((OW _ _ ▸ hok).2);intro p hp;have nO:=rs.hc.fresh hp;have nt:p∉ts:=λz=>nO (rs.hc.own p z)
  have h00:H₀ p=zc:=by
   cases e:H₀ p with
   |none=>rfl
   |some o=>rw[rs.same p o nt e] at hp;cases hp
  have h0:H₀ p=zc/\¬ze p:=⟨h00,λz=>nO (rs.sub p z)⟩
  have nh:∀(j:Nat) (ys:OF),ρ[j]? = vd (vd (W.loc ys))->σ[j]? = vd (vd (V.ref p))->False:=λj ys q1 q2=>by
   obtain⟨v,h1,a,ea,h2,h3,h4⟩:=rs.re j _ q1;rw[q2] at h1;cases h1;cases ea;obtain⟨o',h5⟩:=h4.some;rw[hp] at h5;cases h5
  have B2:=rs.lay (o:=.dK []) hp (.inr (.inl ⟨_,rfl⟩));refine hq σ _ _ _ ts ρ T l T' B2.hc B2.re e1 λkvs H1 s1 Yv hk rk=>?_;have Y6:=B2.step s1 Yv;have FU:H1 p=vd (.dK []):=s1 p _ nt bg
  have YH:kvs.length=l.length:=by have:=congrArg SW hk;simpa using this
  refine⟨FU,kvs.map eB,zha kvs,by rw[PV,YH];exact IT,?_⟩
  have hm:gF [] (kvs.map eB)=kvs.map eB:=by
   have:=vn kvs [] (by rw[X9,Sa,hk];exact D5);simpa using this
  rw[hm];exact q _ _ _ (Y6.take (.inr rfl) nt h0 nh (.inr (.inl ⟨_,rfl⟩)) λle=>⟨_,bg,rk.mono le⟩)
 .cases e
end
noncomputable def oQ(i:Nat)(fr:FS)(ρ:Yy)(x:OF)(T:Tp):Option ((Fl×Yy)×Tp):=match x with
 |.list xs=>kB T.length (fr (ρ.set i (vd (.tp T.length))) (T++[xs]))
 |_=>zc
def sS(i:Nat)(m:YG)(g:FA)(fr:FS):FS:=λρ T=>Yz (g ρ T) λws T1=>Yz (m ws T1) (oQ i fr ρ)
noncomputable def zhb(h:oQ i fr ρ x T=vd r):∃xs,x=.list xs/\kB T.length (fr (ρ.set i (vd (.tp T.length))) (T++[xs]))=vd r:=by
 cases x with
 |list xs=>exact⟨xs,rfl,h⟩
 |_=>cases h
section
variable {X:Cx}{pos:Pos}{rest:List Stmt}{fr:FS}
noncomputable def zhc(F:Fn X.prog X.w X.K X.mg X.base name ps kk (Ft X.K ps.length m))(hr:YD kk X.A)(hg:Gl X name)(hN:X.N.Nodup)(ha:DA X (e::es) g)(hl:eY g ps.length)(ZK:Z7 X rest fr)(YU:autoParam ((name == ("__debug__" : Str))=zd) u11)
  (he:autoParam (OM (e::es) X.env=(zd,eval e X.env)::OM es X.env) u12) (Y1:autoParam ((PK cpos (OM es X.env)).any (·.1)=zd) u13) (hi:autoParam (X.N[i]? = vd x) u10) (hx:autoParam (Loc X.env.scope x) u18)
  (hs:autoParam (P4 (.Call (.Name name p) (e::es) [] cpos) (vd (.Name x pos')) pos.line X.env=pure zd) u10) (hf:autoParam (X.fn x=xV\/X.env.scope.names.lookup x=vd .local) u15) :
  Z7 X (.Assign [.Name x pos'] (.Call (.Name name p) (e::es) [] cpos) pos::rest) (sS i m g fr):=by
 refine⟨?_⟩;refine fO (dh (gB hN hi hx (kZ F hr hg ha.pe YU he Y1) hs hf) ZK.pe) λD σ H=>?_;rintro⟨ze,H₀,F,ts,O,ρ,T,fl,ρ',T',rs,e,q⟩;obtain⟨ws,T1,e1,e⟩:=aE e;obtain⟨x0,T2,e2,e⟩:=aE e;obtain⟨xs,rfl,e⟩:=zhb e;refine⟨O,ts,ρ,T,ws,T1,rs.hc,rs.re,e1,λvs H1 s1 Yv r1=>?_⟩;have Y6:=rs.step s1 Yv;refine⟨O,ts,T1,ws,_,_,Yv,by simp_all,hl _ _ _ _ e1,e2,λA v H2 s2 hA YE ov=>?_⟩;obtain⟨a,rfl,hAA,us,k1,k2⟩:=ov;have Cr:=hA a ((hAA a).mpr rfl);have nta:a∉ts:=λz=>Cr.2 (Yv.own a z)
 let H3:Hp:=λb=>if b=a then zc else H2 b
 have h3:∀{b:Addr},b≠a->H3 b=H2 b:=λn=>if_neg n;have ha3:H3 a=zc:=if_pos rfl
 have eH:upd H3 a (.lst us)=H2:=funext λb=>by
  by_cases z:b=a
  .subst z;rw[bg];exact k1.symm
  .rw[aJ z];exact h3 z
 have le:Le (λb=>O b\/A b) H2 O H3:=λb o n z=>⟨λy=>n (.inl y),by simp_all⟩
 have s3:YB ts H1 H3:=λb o n z=>by
  have nb:b≠a:=λy=>by rw[y,Cr.1] at z;cases z
  rw[h3 nb];exact s2 b o n z
 have c3:HC X.K O ts H3 T2:=⟨Yv.own,λb hb=>by
   have nb:b≠a:=λy=>Cr.2 (y ▸ hb);rw[h3 nb]
   exact YE.trk b (.inl hb),YE.nd,YE.len,λj b ys q1 q2=>(YE.tape j b ys q1 q2).mono (λo h=>by rw[h3 (show b≠a from λy=>nta (by rw[←y];exact Px q1))];exact h) le⟩
 have:=zgv (X:=X) (Y6.step s3 c3) ha3 (k2.mono le) e q;rw[eH] at this;exact this
end
noncomputable def y0(ρ:Yy)(o:Option (List OF))(T:Tp):Option ((Fl×Yy)×Tp):=match o with
 |some xs=>if xs.length<=1000 then vd ((.ro (.list xs),ρ),T) else zc
 |none=>zc
def zo(g:FA):FS:=λρ T=>Yz (g ρ T) λws T1=>y0 ρ (fE ws) T1
section
variable {X:Cx}{pos:Pos}
noncomputable def zhd(ha:DA X es g):DS X (.Return (vd (.List es EI)) pos) (zo g):=by
 refine⟨?_⟩;refine dj (mz (kI ha.pe)) λD σ H=>?_;rintro⟨ze,H₀,F,ts,O,ρ,T,fl,ρ',T',rs,e,q⟩;obtain⟨ws,T1,e1,e⟩:=aE e;refine⟨O,ts,ρ,T,ws,T1,rs.hc,rs.re,e1,λvs H1 s1 Yv r1=>?_⟩;have Y6:=rs.step s1 Yv;unfold y0 at e;split at e
 .rename_i xs h1
  split at e
  .rename_i h2
   cases e;have rv:=l9 r1 h1;refine⟨ou (by rw[rv.length];exact h2),λp hp=>?_⟩;have nO:=Y6.hc.fresh hp;have nt:p∉ts:=λz=>nO (Y6.hc.own p z)
   have h0:H₀ p=zc:=by
    cases z:H₀ p with
    |none=>rfl
    |some o=>rw[Y6.same p o nt z] at hp;cases hp
   have le:Le O H1 (λb=>ze b\/b=p) (upd H1 p (.lst vs)):=λb o n z=>by
    have nb:b≠p:=bx z hp;exact⟨λy=>y.elim (λy=>n (Y6.sub b y)) nb,by rw[aJ nb];exact z⟩
   refine q (λb=>b=p) (.ref p) _ (Y6.same.trans (.new hp _)) (λb hb=>by rw[hb];exact⟨h0,λz=>nO (Y6.sub p z)⟩) ⟨λb hb=>.inl (Y6.ots b hb),λb hb=>?_,Y6.hc.nd,Y6.hc.len,λj b ys q1 q2=>?_⟩ ⟨p,rfl,λc=>Iff.rfl,vs,bg,rv.mono le⟩
   .by_cases z:b=p
    .subst z;rw[bg];exact .inl ⟨_,rfl⟩
    .rw[aJ z];exact Y6.hc.trk b (Y6.sub b (hb.resolve_right z))
   .exact(Y6.hc.tape j b ys q1 q2).mono (λo h=>by rw[aJ (bx h hp)];exact h) le
  .cases e
 .cases e
end
end D
namespace XE
open L2
abbrev vE:List Value:=[.type "ValueError",.type "Exception",.type "BaseException",.type "object"]
def ZU(K:Frag)(C:Addr)(tl:List OH):Prop:=∃nm q N bs sn sub ab col dd k0 k1 k2 k3 k5,K.lookup C=vd (Wy nm q C N bs tl xV sn sub ab col dd k0 k1 k2 k3 k5 "ValueError.__new__")/\U7 K N=xV
noncomputable def xq{K:Frag}(X:K.In h)(r:ZU K R vE)(ri:RQ K "__init__" (.ref R)=vd zc):OwnTail h vE (.ref R::vE):=by
 obtain⟨nm,q,N,bs,sn,sub,ab,col,dd,k0,k1,k2,k3,k5,l,n⟩:=r;refine .own (X _ _ l) (.of_isNs (PySem.W.isNs_of_in X n)) (PySem.W.nsMap_none_of_in X n ?_) .base;simp only[RQ] at ri;rw[l] at ri;exact ri
section
variable {prog:Pb}{w:Pp}{A:Pw}{E:OH->OJ->Prop}{h:Heap}{g:Array VQ}{d:Drawn}{t:Nat}{os:OsState}{K:Frag}{C R fI:Addr}
noncomputable def zhe(X:K.In h)(c:ZU K C (.ref R::vE))(r:ZU K R vE)(ri:RQ K "__init__" (.ref R)=vd zc)
  (hi:Pe K (.ref C) "__init__"=vd (vd (.ref fI))) (hf:RF K (.ref fI)=xV) (hz:us.length<=OO)
  (k:∀h' e,Heap.MadeExcOf h h' e (.ref C) us->h.objs.size<=e->Pk (Pi prog w) (A.under (.builtin "type.__call__" ⟨.ref C::us,[]⟩)) (call (.ref fI) (.ref e::us)) (λv s'=>v=.none/\Q (.ref e) s') E ⟨h',g,d,t,os⟩) :
  Pk (Pi prog w) A (call (.ref C) us) Q E ⟨h,g,d,t,os⟩:=by
 have T:=xq X r ri;obtain⟨nm,q,N,bs,sn,sub,ab,col,dd,k0,k1,k2,k3,k5,l,_⟩:=c;have hC:=X _ _ l;have FB:=Tq;have f1:=tc_lookup;have f2:=tc_bind (.ref C);have hT:(⟨h,g,d,t,os⟩:OJ).TypeIs (.ref C) "type":=⟨_,hC,rfl⟩;refine Tg (codeAny_of_tree ?_);show Pk _ _ (callAny (.ref C) _) _ _ _
 repeat (any_goals (first|assumption|with_reducible refine PM hC ?_|wp_step))
 refine⟨rfl,codeAny_call_builtin_at (VJ _ (by decide +kernel)) entry_typeCall (wpAny_check_type_call_sub hC ?_)⟩
 repeat (first|with_reducible refine PM hC ?_|with_reducible refine wpAny_madeBy_exc hC ?_|wp_step)
 refine codeAny_call_builtin_code (VJ _ FB.quiet) (wpAny_check_new_subU FB (by decide +kernel) T hC (codeAny_exc_new_subU FB (by decide +kernel) FB T hC ?_ hz));show Pk _ _ _ _ _ _
 have up:∀b o,h.get? b=vd o->((h.push { cls:=.type "tuple",data:=.seq us.toArray }).push { cls:=.ref C,data:=.fields #[.ref h.objs.size,.none,.none,.none,.bool zd,.none] }).get? b=vd o:=
  λb o e=>OK _ (OK _ e)
 have ET:((h.push { cls:=.type "tuple",data:=.seq us.toArray }).push { cls:=.ref C,data:=.fields #[.ref h.objs.size,.none,.none,.none,.bool zd,.none] }).get? (h.objs.size+1)
   = vd { cls:=.ref C,data:=.fields #[.ref h.objs.size,.none,.none,.none,.bool zd,.none] }:=by heap_get
 have hC1:=up _ _ hC
 have cc:(Pr C::Pr R::vE).contains (.ref C)=xV:=by simp
 have mk:=k _ (h.objs.size+1) ⟨up,Rg (Wv _),h.objs.size,ET,Rg (Pc _),OK _ (RU rfl rfl)⟩ (Wv _);unfold W9
 repeat (first|with_reducible refine PM ET ?_|wp_step)
 refine Rt hC1 ?_;rw[cc]
 repeat (first|with_reducible refine PM ET ?_|wp_step)
 show Pk _ _ (Uv (.ref C) _) _ _ _;refine Qa (X.keeps up) hi _ _ _ _ (λ_ _ e=>e) ?_;refine Q5 (ON ?_);refine WC (X.keeps up) _ (by simpa[RF] using hf) _ _ _ _ (λ_ _ e=>e) ?_;refine ON (Qe mk (λv s' hv=>?_) λ_ _ z=>z);obtain⟨rfl,q'⟩:=hv;wp_walk;exact q'
end
end XE
namespace XE
open L2
def Zl(e C:Addr)(od:Option Addr):Heap->Prop:=λh=>∃t,h.get? e=vd { cls:=.ref C,dict:=od,data:=.fields #[.ref t,.none,.none,.none,.bool zd,.none] }
def Zl.stay(x:Zl e C od h1)(k:∀o,h1.get? e=vd o->h2.get? e=vd o):Zl e C od h2:=let ⟨t,y⟩:=x;⟨t,k _ y⟩
def Zl.ok(x:Zl e C od h):YM P w H h e (.ext (Zl e C od)):=⟨x,let ⟨_,y⟩:=x;⟨_,y⟩,λ_ _ a k=>a.stay k⟩
def Zl.of(ok:Zh P w H h)(x:H e=vd (.ext (Zl e C od))):Zl e C od h:=(ok _ _ x).1
section
variable {X:Cx}{C R:Addr}
noncomputable def zhf{K:Frag}{E:OH->OJ->Prop}{s:OJ}{Q:OH×List OH->OJ->Prop}(x:K.In s.heap)(hr:Sb K R (.type "type")=xV)
  (hf:S6 K (.ref R) (.type "type") "__init__"=vd (.val (.builtin "ValueError.__init__"))) (q:Q (.builtin "ValueError.__init__",[]) { s with toks:=s.toks+1 }) :
  Pk (Pi prog w) A (RO (.ref R) "__init__" pl) Q E s:=by
 have CT:=hr;simp only[Sb,OW,beq_iff_eq] at CT;obtain⟨⟨⟨⟨_,b⟩,c⟩,_⟩,_⟩:=CT
 have hc:(Manifest.canonical "type.__getattribute__" != "object.__getattribute__")=xV:=by decide +kernel
 unfold RO XW;refine ON (ON (PySem.W.looks_typeIn x b _ _ _ _ (λ_ _ e=>e) (Qa x c _ _ _ _ (λ_ _ e=>e) ?_)));simp only[hc,if_true];exact ON (PySem.W.cls_value x hr hf rfl (Pg q))
noncomputable def AF(C:Addr)(tt:TE):TE:=λσ H Q=>∃e,σ[0]? = vd (vd (.ref e))/\tt σ H λ_ H1=>H1 e=vd (.ext (Zl e C zc))/\Q .non H1
noncomputable def zhg(c:ZU X.K C (.ref R::vE))(r:ZU X.K R vE)(ri:RQ X.K "__init__" (.ref R)=vd zc)(hg:Gl X rn)(hm:X.mg rn=vd (.ref R))
  (hr:Sb X.K R (.type "type")=xV) (hf:S6 X.K (.ref R) (.type "type") "__init__"=vd (.val (.builtin "ValueError.__init__"))) (hs:PE X (.Name sn p2) (fY 0)) (ht:PE X tx tt)
  (hd:autoParam ((rn == ("__debug__" : Str))=zd) u11) (CJ:autoParam (OM [.Name sn p2,tx] X.env=[(zd,eval (.Name sn p2) X.env),(zd,eval tx X.env)]) u10) (FX:autoParam (OM [tx] X.env=[(zd,eval tx X.env)]) u10)
  (he:autoParam (eval (.Call (.Attribute (.Name rn p) "__init__" ap) [.Name sn p2,tx] [] pos) X.env=(do
   let ov ←eval (.Name rn p) X.env
   SO ap.atName
   let (f,first) ←RR [ov] (RO ov "__init__" pl)
   Ub pos f first (PK pos (OM [.Name sn p2,tx] X.env)) (QS pos (Qb [] X.env)))) u10) :
  PE X (.Call (.Attribute (.Name rn p) "__init__" ap) [.Name sn p2,tx] [] pos) (AF C tt):=by
 intro pins s σ H Q I h;obtain⟨e,h0,h⟩:=h;refine SG (pl:=pl) (ju I hg hm ?_ hd) he;refine zhf I.kIn hr hf ?_;have I0:=I.tok (s.toks+1);have pa:PA X [.Name sn p2,tx] (pB (fY 0) (pB tt p8)):=br hs (br ht cu (by rw[FX];rfl)) (by rw[CJ,FX])
 have hA:=pa pos pins _ σ H (λvs H1=>match vs with
  |[.ref a,_]=>H1 a=vd (.ext (Zl a C zc))/\Q .non H1
  | _=>False) I0 ⟨_,h0,h⟩
 rw[CJ] at hA ⊢;refine RI rfl (SX (YF hA λus s2 ⟨vs,H2,I2,r2,q2⟩=>?_))
 try dsimp only at q2
 split at q2
 .rename_i a v
  obtain⟨hx,q⟩:=q2
  obtain⟨u0,G5,rfl,r0,r3⟩:∃x b,us=x::b/\RelV (.ref a) x/\Yx [v] b:=by cases r2 with|cons a b=>exact⟨_,_,rfl,a,b⟩
  obtain⟨u1,us2,rfl,r1,r4⟩:∃a b,G5=a::b/\RelV v a/\Yx [] b:=by cases r3 with|cons a b=>exact⟨_,_,rfl,a,b⟩
  cases r4;obtain rfl:u0=Pr a:=r0;obtain⟨t,EL⟩:=Zl.of I2.hok hx;have T:=xq I2.kIn r ri;obtain⟨nm,qn,N,bs,sn,sub,ab,col,dd,k0,k1,k2,k3,k5,l,_⟩:=c;have hC:=I2.kIn _ _ l;have FB:=Tq;have up:∀b o,s2.heap.get? b=vd o->(s2.heap.push { cls:=.type "tuple",data:=.seq [u1].toArray }).get? b=vd o:=λb o e=>OK _ e
  have fin:∀(h':Heap) (tk:Nat),(∀b o,b≠a->s2.heap.get? b=vd o->h'.get? b=vd o)->Zl a C zc h'->EP X pins σ Q .none { s2 with heap:=h',toks:=tk }:=λh' tk k1 k2=>by
   have e1:upd H2 a (.ext (Zl a C zc))=H2:=by
    funext b
    by_cases e:b=a
    .rw[e,bg,hx]
    .rw[aJ e]
   have I3:=I2.write (x:=a) (e:=a) (o:=.ext (Zl a C zc)) (h':=h') (t':=tk) (by rw[hx];trivial) (.inl rfl) k1 (let ⟨_,y⟩:=k2;⟨_,y⟩) (Zl.ok k2);rw[e1] at I3;exact⟨.non,H2,I3,rfl,q⟩
  obtain⟨hp,g,d,tk,os⟩:=s2;show Pk _ _ (call (.builtin "ValueError.__init__") [.ref a,u1]) _ _ _;refine Tg (SZ FB.init.plain FB.initEntry (wpAny_check_init_subU FB T hC EL rfl ?_));wp_walk;refine fin _ _ (λb o hb e=>?_) ⟨hp.objs.size,?_⟩
  .rw[Pf _ _ (QP hb)]
   exact up b o e
  .rw[P0 _ (up _ _ EL) rfl]
   rfl
 .exact PZ q2
end
section
open Builtin Builtin.ObjectAttr
variable {prog:Pb}{w:Pp}{A:Pw}{E:OH->OJ->Prop}{h:Heap}{g:Array VQ}{d:Drawn}{t:Nat}{os:OsState}{K:Frag}{C R e:Addr}{name:Str}{v:OH}{vs:Array OH}
noncomputable def zhh(X:K.In h)(c:ZU K C (.ref R::vE))(hs:Pe K (.ref C) "__setattr__"=vd (vd (.builtin "object.__setattr__")))(hn:Pe K (.ref C) name=vd zc)
  (he:h.get? e=vd { cls:=.ref C,data:=.fields vs })
  (k:∀h' tk,h'.get? e=vd { cls:=.ref C,dict:=vd h.objs.size,data:=.fields vs }->h'.Ns1 h.objs.size (λy=>if y=name then vd v else zc)->(∀b o,b≠e->h.get? b=vd o->h'.get? b=vd o)->Q () ⟨h',g,d,tk,os⟩) :
  Pk (Pi prog w) A (X0 (.ref e) name v) Q E ⟨h,g,d,t,os⟩:=by
 obtain⟨nm,q,N,bs,sn,sub,ab,col,dd,k0,k1,k2,k3,k5,l,_⟩:=c;have hC:=X _ _ l;have SF:=PySem.F.store_ValueError;have FH:=SF.passes (.ref e);have f3:=SF.slot.bind (.ref e)
 have hO:(Pr C::Pr R::vE).contains (.type "object")=xV:=by simp
 unfold X0 callSpecial? XW
 repeat (any_goals (first|assumption|with_reducible refine PM he ?_|wp_step))
 refine Qa X hs _ _ _ _ (λ_ _ e=>e) ?_
 repeat (any_goals (first|assumption|wp_step))
 refine SZ SF.slot.plain SF.entry ?_
 have chk:∀{M:WX}{A:Pw}{Q:Unit->OJ->Prop}{E:OH->OJ->Prop}{tk t:Nat},Q () ⟨h,g,d,t,os⟩->Pk M A (Wm "object.__setattr__" ⟨[.ref e,.str name tk,v],[]⟩) Q E ⟨h,g,d,t,os⟩:=by
  intro M A Q E tk t hq;have ha:=SF.args (.ref e) (.str name tk) v;simp only[Wm,SF.kind,SF.split];refine ON ?_;unfold W9
  repeat (first|with_reducible refine PM he ?_|wp_step)
  refine Rt hC ?_;rw[hO]
  repeat wp_step
  exact hq
 refine chk ?_;unfold SU.«object.__setattr__»
 repeat (first|rw[refuse_eq]|(rw[refuseLoop_ref,refuseLoop_ref,FH])|with_reducible refine PM he ?_|refine wpAny_mroOf_exc hC ?_|wp_step)
 refine Qa X hn _ _ _ _ (λ_ _ e=>e) ?_;have up:(h.push { cls:=.type "dict",data:=.dict #[] }).get? e=vd { cls:=.ref C,data:=.fields vs }:=OK _ he;have ne:e≠h.objs.size:=Pl (OV he)
 have gd:((h.push { cls:=.type "dict",data:=.dict #[] }).update e λo=>{ cls:=o.cls,dict:=vd h.objs.size,data:=o.data,slots:=o.slots }).get? h.objs.size=vd { cls:=.type "dict",data:=.dict #[] }:=
  (Vp _ _ _ _ ne.symm).trans (RU rfl rfl)
 have nd:((h.push { cls:=.type "dict",data:=.dict #[] }).update e λo=>{ cls:=o.cls,dict:=vd h.objs.size,data:=o.data,slots:=o.slots }).Ns h.objs.size (λ_=>zc):=
  ⟨_,#[],_,gd,rfl,λ_ z=>absurd z (by simp),λ_=>rfl⟩
 repeat (first|with_reducible refine PM he ?_|with_reducible refine wpAny_nsSet1 (VU nd) λh' IZ KE=>?_|wp_step)
 obtain⟨oD,es,ep,BB,BV,DX⟩:=IZ.count (Within.cons name v Within.nil);refine UZ BB ?_;rw[BV,Wc (OS DX (by rw[Po,Qz,Sh];omega))]
 repeat wp_step
 refine k h' _ ((KE.2 e ne).trans (P0 _ up rfl)) IZ λb o hb z=>?_;exact(KE.2 b (Pl (OV z))).trans ((Vp _ _ _ _ hb).trans (OK _ z))
end
end XE
namespace XE
open L2
noncomputable def zhi{h:Heap}(ne:b≠h.objs.size)(z:(h.push o).get? b=vd u):h.get? b=vd u:=by
 obtain⟨z1,z2⟩:=Tr.mp z;refine Tr.mpr ⟨?_,z2⟩;have z3:(h.objs.push o)[b]? = vd u:=z1;rw[Array.getElem?_push,if_neg ne] at z3;exact z3
section
variable {X:Cx}{C R:Addr}
noncomputable def Ju(C:Addr)(i:Nat)(tv:TE)(f:Str):TS:=λD σ H=>tv σ H λy H1=>∃a,σ[i]? = vd (vd (.ref a))/\H1 a=vd (.ext (Zl a C zc)) /\
 ∀dx,H1 dx=zc->dx≠a->D.nx σ (upd (upd H1 dx (.xd [(f,y)])) a (.ext (Zl a C (vd dx))))
noncomputable def zhj(c:ZU X.K C (.ref R::vE))(hs:Pe X.K (.ref C) "__setattr__"=vd (vd (.builtin "object.__setattr__")))(hn:Pe X.K (.ref C) f=vd zc)
  (ho:PE X o (fY i)) (hv:PE X value tv) (hw:autoParam (P4 value (vd (.Attribute o f pos')) pos.line X.env=pure zd) u10):PS X (.Assign [.Attribute o f pos'] value pos) (Ju C i tv f):=by
 intro pins s σ H D I h;refine SE (YF (hv pins s σ H _ I h) λu s1 ⟨y,H1,I1,ry,a,h0,ha,q⟩=>YF (ho pins s1 σ H1 (λv H'=>v=.ref a/\H'=H1) I1 ⟨_,h0,rfl,rfl⟩) λov s2 ⟨x,H2,I2,rx,ex,eh⟩=>?_) hw;subst ex eh;obtain rfl:ov=Pr a:=rx;obtain⟨t,EL⟩:=Zl.of I2.hok ha;obtain⟨hp,g,d,tk,os⟩:=s2;refine zhh (v:=u) I2.kIn c hs hn EL λh' KZ k1 k2 k3=>?_;have fr:H2 hp.objs.size=zc:=I2.hok.fresh (Pc _);have ne:hp.objs.size≠a:=RE (OV EL);obtain⟨od,es,ep,e1,e2⟩:=k2;have nf:=(Tr.mp e1).2;have up:∀b o,hp.get? b=vd o->(hp.push od).get? b=vd o:=λb o z=>OK _ z
 have I3:=I2.laid (h':=hp.push od) (a:=hp.objs.size) (o:=.xd [(f,y)]) (t':=KZ) up (Pc _) ⟨_,⟨od,es,ep,RU rfl nf,e2⟩,λz=>by
  show Zi (TF z [(f,y)]) (if z=f then vd u else zc);simp only[TF]
  by_cases q:z=f
  .subst q;simp;exact ry
  .rw[if_neg q]
   have:(z == f)=zd:=by simpa using q
   rw[this]
   trivial⟩
 have I4:=I3.write (x:=a) (e:=a) (o:=.ext (Zl a C (vd hp.objs.size))) (h':=h') (t':=KZ) (by rw[aJ ne.symm,ha];trivial) (.inl rfl) (λb u hb z=>?_) ⟨_,k1⟩ (Zl.ok ⟨t,k1⟩)
 .exact⟨σ,_,I4,q _ fr ne⟩
 .by_cases e:b=hp.objs.size
  .subst e
   have z':(hp.push od).get? hp.objs.size=vd u:=z;rw[RU rfl nf] at z';cases z';exact e1
  .refine k3 b u hb ?_
   exact zhi e z
end
end XE
namespace XE
open L2
section
variable {X:Cx}{C R:Addr}{f:Str}{k:Nat}
noncomputable def zhk(h:dx≠a):upd (upd (upd H a o) dx u) a v=upd (upd H dx u) a v:=by
 funext b;unfold upd
 by_cases e:b=a
 .rw[if_pos e,if_pos e]
 .rw[if_neg e,if_neg e,if_neg e]
end
end XE
namespace XE
open L2
structure Kp(xs fs:List Addr)(h h':Heap):Prop where
 keep:∀b o,h.get? b=vd o->b∉xs->b∉fs->h'.get? b=vd o
 slot:∀b o,h.get? b=vd o->b∉xs->b∈fs->∃sl,h'.get? b=vd { o with slots:=sl }
 there:∀b o,h.get? b=vd o->∃o',h'.get? b=vd o'
def Kp.trans{xs fs:List Addr}{h h1 h2:Heap}(a:Kp xs fs h h1)(b:Kp xs fs h1 h2):Kp xs fs h h2 where
 keep:=λc o q n m=>b.keep c o (a.keep c o q n m) n m
 slot:=λc o q n m=>let ⟨_,e⟩:=a.slot c o q n m;let ⟨sl,e2⟩:=b.slot c _ e n m;⟨sl,e2⟩
 there:=λc o q=>let ⟨_,e⟩:=a.there c o q;b.there c _ e
def Kp.more(a:Kp xs fs h h')(k:∀x∈xs,x∈ys):Kp ys fs h h':=⟨λb o q n m=>a.keep b o q (λz=>n (k b z)) m,λb o q n m=>a.slot b o q (λz=>n (k b z)) m,a.there⟩
def Kp.fun_(a:Kp xs fs h h')(n:∀x∈xs,∃o vs,h.get? x=vd o/\o.data=.fields vs)(f:h.FunFrames base l):h'.FunFrames base l:=by
 refine f.of_keeps λb o q nf=>?_
 have hx:b∉xs:=λz=>by
  obtain⟨o',vs,e1,e2⟩:=n b z;rw[q] at e1;cases e1;exact nf vs e2
 by_cases hb:b∈fs
 .obtain⟨sl,e⟩:=a.slot b o q hx hb
  exact⟨_,e,rfl⟩
 .exact⟨o,a.keep b o q hx hb,rfl⟩
def XR(e C dx:Addr)(tb:OH)(h:Heap):Prop:=∃t,h.get? e=vd { cls:=.ref C,dict:=vd dx,data:=.fields #[.ref t,tb,.none,.none,.bool zd,.none] }
def TB(T:Addr)(fl:OH)(h:Heap):Prop:=∃oT ts,h.get? T=vd oT/\oT.data=.fields ts/\ts[3]? = vd fl
end XE
namespace XE
open L2
def forget(a:Addr)(H:Hp):Hp:=λb=>if b=a then zc else H b
def cT(h:b≠a):forget a H b=H b:=by unfold forget;rw[if_neg h]
def d0:forget a H a=zc:=by unfold forget;rw[if_pos rfl]
noncomputable def fK(h:H a=zc):forget a (upd H a o)=H:=by
 funext b;unfold forget upd
 by_cases e:b=a
 .rw[if_pos e,e,h]
 .rw[if_neg e,if_neg e]
section
variable {P:Pb}{w:Pp}{K:Frag}{mg:Str->Option OH}{base:Heap}{N:List Str}{qual:Str}{scope:QA}{f C R:Addr}{YA:OH}{A:Pw}{outer:List Env}{s0:OJ}{H0:Hp}{E:XK}
def C2(n0:Nat)(C:Addr)(E:XK)(te:TE):TS:=λ_ σ H=>te σ H λv H2=>∃a dx,v=.ref a/\n0<=a/\H2 a=vd (.ext (Zl a C (vd dx)))/\E (.ref C) (vd dx) (forget a H2)
end
end XE
namespace XE
open L2
section
variable {X:Cx}{pins:List (Addr×Obj)}{σ:L2.St}{H:Hp}{s:OJ}
noncomputable def name_goes(I:L2.Inv X pins σ H s)(hN:X.N.Nodup)(hi:X.N[i]? = vd n)(hl:X.env.scope.names.lookup n=vd .local)
  (k:∀s',L2.Inv X pins (σ.set i zc) H s'->Q () s'):Pk (Pi X.prog X.w) A (do bindName X.env n .none;S0 X.env n pos) Q E s:=by
 obtain⟨m,hn,hm⟩:=id I.loc
 have hp:(X.env.scope.kind == .class||(X.env.scope.kind == .module&&X.env.locals != X.env.globals))=zd:=by rw[I.ok.kind];rfl
 have hk:X.env.kindOf n=vd .local:=hl;refine ON (wpAny_bindName (UR hk hn (λh1 Kw hs1=>?_) hp));unfold S0;refine wpAny_onRaise ?_;unfold unbindName;refine ON (wpAny_point (ON ?_));unfold deleteName;simp only[hk,hp];rw[if_neg (by decide)];refine ON (wpAny_nsDel_keeps Kw λh2 v GD FX=>?_);simp only[if_true,VG,Bool.not_true,Sf,if_false];refine Pg (wpAny_point (k _ ?_));have hs:=hs1.trans FX;have cne:=I.cne;obtain⟨oL,_,_,hoL,_⟩:=id hn
 have KL:i<σ.length:=by rw[I.len];exact(OL.mp hi).1
 refine⟨I.ok,I.os,I.bare,⟨λb o e n hb hx=>?_,λb o e n hb hx=>?_,I.base.free,λb o e hx=>?_,I.base.tups,I.base.frzs,I.base.tbls⟩,⟨_,GD,λj y v' e1 e2 e3=>?_⟩,λy c e=>?_,I.free,I.freeC,λp hp=>?_,λb ob e=>?_,by simpa using I.len⟩
 .exact(hs.2 b (Pl (OY (OV e) I.ok.above))).trans (I.base.keep b o e n hb hx)
 .obtain⟨sl,e1⟩:=I.base.slot b o e n hb hx
  exact⟨sl,(hs.2 b (Pl (OY (OV e) I.ok.above))).trans e1⟩
 .obtain⟨o',e1⟩:=I.base.there b o e hx
  exact⟨o',(hs.2 b (Pl (OY (OV e) I.ok.above))).trans e1⟩
 .by_cases hj:j=i
  .simp_all
  .rw[OR (QP hj)] at e2
   obtain⟨u',r',q⟩:=hm j y v' e1 e2 e3;refine⟨u',r',?_⟩
   rcases q with⟨k,e⟩|⟨k,c,e,z⟩
   .refine .inl ⟨k,?_⟩
    have:y≠n:=λe=>hj (qY hN e1 (e ▸ hi));simp[this,e]
   .exact .inr ⟨k,c,e,z.sameBut hs (cne y c e)⟩
 .obtain⟨w',z⟩:=I.cell y c e
  exact⟨w',z.sameBut hs (cne y c e)⟩
 .obtain⟨e,n,ne,nf,d⟩:=I.pin p hp
  exact⟨(hs.2 p.1 ne).trans e,n,ne,nf,d⟩
 .refine(I.hok b ob e).stay (λc w' hc q=>(hs.2 c ?_).trans q) (λ_ q=>q) λ_ _ q=>q
  rintro rfl
  rcases hc with rfl|hc
  .rw[I.free] at e;cases e
  .rw[I.free] at hc;cases hc
theorem qk{A:Pw}:(A.mark v).frames=A.frames:=rfl
noncomputable def zhl{E:OH->OJ->Prop}{K:Frag}{oe:Obj}{Q:Bool->OJ->Prop}(x:K.In s.heap)(c:ZU K C (.ref R::vE))(r:ZU K R vE)(he:s.heap.get? e=vd oe)(hc:oe.cls=.ref C)(q:Q xV s) :
  Pk M A (excMatches (.ref e) (.ref R)) Q E s:=by
 obtain⟨nm,qn,N,bs,sn,sub,ab,col,dd,k0,k1,k2,k3,k5,l,_⟩:=c;obtain⟨nm',qn',N',bs',GE,Fu,ab',HJ,Gu,k0',Ky,B8,k3',BQ,l',_⟩:=r;have hC:=x _ _ l;have hR:=x _ _ l'
 have c1:(Pr R::vE).contains (.type "BaseException")=xV:=by simp
 have c2:(Pr C::Pr R::vE).contains (.ref R)=xV:=by simp
 have f:=tc_notTuple;obtain⟨hp,g,d,tk,os⟩:=s;unfold excMatches
 repeat (first|(with_reducible refine PM he ?_;rw[hc])|with_reducible refine PM hR ?_|wp_step)
 refine Rt hR ?_;rw[c1]
 repeat (first|(with_reducible refine PM he ?_;rw[hc])|with_reducible refine PM hR ?_|wp_step)
 refine Rt hC ?_;rw[c2]
 repeat wp_step
 exact q
end
end XE
namespace XE
open L2
section
variable {prog:Pb}{w:Pp}{A:Pw}{E:OH->OJ->Prop}{h:Heap}{g:Array VQ}{d:Drawn}{t:Nat}{os:OsState}{K:Frag}{C R x:Addr}{ox:Obj}{od:Option Obj}{name:Str}
def zhm:builtinKind "BaseException.__getattribute__"=vd .slot:=by decide +kernel
def zhn:splitId "BaseException.__getattribute__"=vd ("BaseException","__getattribute__"):=by decide +kernel
noncomputable def vV(He:Q6 K C (.type "BaseException")=vd xV)(X:K.In h)(I:Rv h x ox C od)
  (k:Pk (Pi prog w) A.in1 (SU.«object.__getattribute__» ⟨[.ref x,.str name tk],[]⟩) (λfin s'=>match fin with | .done f=>Rr (.ok f) s' | .again c'=>c'.quiet=xV/\So (Pi prog w) A c' Rr s') (λe s'=>Rr (.error e) s') ⟨h,g,d,t,os⟩) :
  So (Pi prog w) A (.call (.builtin "BaseException.__getattribute__") ⟨[.ref x,.str name tk],[]⟩) Rr ⟨h,g,d,t,os⟩:=by
 have sub:PySem.W.Looks (Pi prog w) h (W9 (.ref x) (.type "BaseException")) xV:=I.type.andThen (PySem.W.looks_mroIn X He);have ha:=F.args_bexc_ga (.ref x) (.str name tk);exact SZ RV.ga.plain F.entry_bexc_ga (@PySem.W.check_slot (Pi prog w) _ _ ⟨h,g,d,t,os⟩ "BaseException.__getattribute__" "BaseException" "__getattribute__" (.ref x) [.str name tk] [] _ zhm zhn sub ha k)
noncomputable def zho(X:K.In s.heap)(I:Rv s.heap x ox C od)(hf:UN K C od name=vd (.value v))(k:Q (.done (.ret v)) s) :
  Pk (Pi prog w) A (SU.«object.__getattribute__» ⟨[.ref x,.str name tk],[]⟩) Q E s:=by
 have L0:=I.type (M:=Pi prog w);have L1:=VL (M:=Pi prog w) X I hf;unfold SU.«object.__getattribute__»;refine ON (Pg (ON (Pg (ON (L0.here (ON (L1.here ?_)))))));exact Pg k
noncomputable def Az(He:Q6 K C (.type "BaseException")=vd xV)(Cd:Pe K (.ref C) "__getattr__"=vd zc)(Br:Pe K (.ref C) "__getattribute__"=vd (vd (.builtin "BaseException.__getattribute__")))(X:K.In h)(I:Rv h x ox C od)
  (hf:UN K C od name=vd (.value v)) (hv:T9 v=xV) (k:Q v ⟨h,g,d,t+1,os⟩):Pk (Pi prog w) A (WP (.ref x) name ex) Q E ⟨h,g,d,t,os⟩:=by
 have L0:=I.type (M:=Pi prog w);have L1:=Qa (M:=Pi prog w) X Br;have f3:=RV.ga.bind (.ref x)
 have hx0:(ex&&onTheHeap (Value.builtin "BaseException.__getattribute__"))=zd:=by cases ex <;> rfl
 unfold WP getAttrBy;refine ON (wpAny_mkText (Q5 (ON (L0.at (ON (L1.at ?_))))))
 repeat (any_goals (first|assumption|wp_step))
 refine Qa X Cd _ _ _ _ (λ_ _ e=>e) ?_
 repeat (any_goals (first|assumption|wp_step))
 refine vV He X I (zho (s:=⟨h,g,d,t+1,os⟩) X I hf ?_);show Pk _ _ (handedOut v) _ _ _;rw[U8 hv];exact Pg k
noncomputable def zhp{od:Obj}{Q:Option OH->OJ->Prop}(He:Q6 K C (.type "BaseException")=vd xV)(Cd:Pe K (.ref C) "__getattr__"=vd zc)(Br:Pe K (.ref C) "__getattribute__"=vd (vd (.builtin "BaseException.__getattribute__")))
  (hc:(R8 K C).isSome=xV) (ha:Pe K (.ref C) "__class__"=vd (vd (.builtin "object.__class__"))) (hn:Sq K (.builtin "object.__class__") "__get__"=vd (vd (.builtin "getset_descriptor.__get__")))
  (htk:S2 K (.builtin "object.__class__")=vd xV) (hm:Q6 K C (.type "object")=vd xV) (X:K.In h) (I:Rv h x ox C (vd od)) (k:Q (vd (.ref C)) ⟨h,g,d,t+1,os⟩) :
  Pk (Pi prog w) A (getAttr? (.ref x) "__class__") Q E ⟨h,g,d,t,os⟩:=by
 have hf:UN K C (vd od) "__class__"=vd (.bind (.builtin "getset_descriptor.__get__") (.builtin "object.__class__")):=PySem.W.findObj_data hc ha hn htk;have L0:=I.type (M:=Pi prog w);have L1:=Qa (M:=Pi prog w) X Br;have L2:=VL (M:=Pi prog w) X I hf;have f3:=RV.ga.bind (.ref x);unfold getAttr? getAttrBy? getAttrBy;refine ON (wpAny_mkText (ON (wpAny_attempt (Q5 (ON (L0.at (ON (L1.at ?_))))))))
 repeat (any_goals (first|assumption|wp_step))
 refine Qa X Cd _ _ _ _ (λ_ _ e=>e) ?_
 repeat (any_goals (first|assumption|wp_step))
 refine vV He X I ?_;unfold SU.«object.__getattribute__»;refine ON (Pg (ON (Pg (ON (L0.here (ON (L2.here ?_)))))));show Pk _ _ (Tv _ _ _ _) _ _ _;unfold Tv
 repeat wp_step
 refine PySem.W.class_get X I hm ?_;refine Pg ?_;show Pk _ _ (handedOut (.ref C)) _ _ _;rw[U8 (v:=.ref C) rfl];exact Pg (Pg k)
structure Gs(K:Frag)(C:Addr):Prop where
 bm:Q6 K C (.type "BaseException")=vd xV
 gt:Pe K (.ref C) "__getattr__"=vd zc
 ga:Pe K (.ref C) "__getattribute__"=vd (vd (.builtin "BaseException.__getattribute__"))
 hc:(R8 K C).isSome=xV
 ca:Pe K (.ref C) "__class__"=vd (vd (.builtin "object.__class__"))
 hn:Sq K (.builtin "object.__class__") "__get__"=vd (vd (.builtin "getset_descriptor.__get__"))
 tk:S2 K (.builtin "object.__class__")=vd xV
 hm:Q6 K C (.type "object")=vd xV
def Gs.kit{od:Obj}(q:Gs K C):PySem.W.KitX K (.ref x) (.ref C) (λh=>Rv h x ox C (vd od)) where
 ty:=λ_ _ _ I=>I.type
 it:=λ_ _ X _=>by
  obtain⟨cd,hcd⟩:=Rl.mp q.hc;unfold R8 at hcd;split at hcd
  .rename_i c' d' cd' GX ho
   intro A' Q' E' s' k q;unfold isType loadHead;exact ON (UZ (k _ _ (X _ _ ho)) (Pg q))
  .cases hcd
 ne:=λh tp dd Yu n sl X htp=>by
  obtain⟨cd,hcd⟩:=Rl.mp q.hc;refine Bool.eq_false_iff.mpr λz=>?_;have e:C=tp:=Value.ref.inj (beq_iff_eq.mp z);subst e;unfold R8 at hcd;split at hcd
  .rename_i c' d' cd' GX ho
   cases (X _ _ ho).symm.trans htp
  .cases hcd
 ca:=λ{_ _ _ _ _ s} X I k=>by
  obtain⟨h,g,d,t,os⟩:=s;exact zhp q.bm q.gt q.ga q.hc q.ca q.hn q.tk q.hm X I k
end
end XE
namespace XE
open L2 D
noncomputable def qX{K:Frag}{O:Addr->Prop}{ts:List Addr}{H:Hp}{T:Tp}{vs:List V}{ws:List W}{N:List Str}(hc:HC K O ts H T)(Zc:fX K O ts H vs ws)(hn:dB ws=xV) :
  RS K O H [] ts O H (start N vs) (ws.map vd++OQ (N.length-ws.length) zc) T:=by
 have YH:vs.length=ws.length:=QH Zc;have DH:∀{i:Nat}{xs:OF},(ws.map vd++OQ (N.length-ws.length) zc)[i]? = vd (vd (W.loc xs))->False:=λ{i xs} e=>lP hn (Px (ko e));refine⟨hc,λi u e=>?_,λ_ h=>h,hc.own,.refl _ _,λi xs a e1 _=>(DH e1).elim,λi j xs ys v e1 _ _ _=>(DH e1).elim,λf hf=>absurd hf (by simp),by simp[L2.start,YH]⟩;obtain⟨v,h1,h2⟩:=nH Zc (ko e);refine⟨v,?_,h2⟩;unfold L2.start;have hi:i<vs.length:=(OL.mp h1).1;rw[Pa (by simpa using hi),Qn,h1];rfl
structure XB(K:Frag)(C R:Addr)(f:Str)(Ds:List Addr):Prop where
 c:ZU K C (.ref R::vE)
 r:ZU K R vE
 ri:RQ K "__init__" (.ref R)=vd zc
 kp:P5 K (.ref C)=xV
 is:Gs K C
 hd:QK K C=xV
 nn:Pe K (.ref C) f=vd zc
 sa:Pe K (.ref C) "__setattr__"=vd (vd (.builtin "object.__setattr__"))
 rd:Sb K R (.type "type")=xV
 fc:S6 K (.ref R) (.type "type") "__init__"=vd (.val (.builtin "ValueError.__init__"))
 kC:Qr K (.ref C) (.ref C)=vd xV
 kV:Qr K (.ref C) (.type "ValueError")=vd xV
 kD:PySem.W.kitAny K (.ref C) (Ds.map Pr)=vd zd
def pF:Obj->Bool
 |⟨_,_,.dict es _,_⟩=>es.toList.all λe=>match e.key with
  |.str _ _=>xV
  |_=>zd
 |_=>zd
noncomputable def zhq{K:Frag}{C A:Addr}(h1:UO K A=xV)(h2:U0 K (.ref A)=vd (.type "type"))(h3:TY K (.ref C) (.ref A)=vd zd)(h4:(Pr C == Pr A)=zd):Qr K (.ref C) (.ref A)=vd zd:=by
 unfold Qr Xa;unfold UO at h1;rw[h4,if_neg Ph];simp only[h1,h2,h3,beq_self_eq_true,Bool.and_true,if_true]
noncomputable def zhr{K:Frag}{C:Addr}(h3:TY K (.ref C) (.type "ValueError")=vd xV):Qr K (.ref C) (.type "ValueError")=vd xV:=by
 have h4:(Pr C == Rk "ValueError")=zd:=by simp
 have h5:WH "ValueError"=xV:=by decide +kernel
 unfold Qr Xa;rw[h4,if_neg Ph];simp only[h5,h3,if_true]
end XE
namespace XE
open L2
section
variable {X:Cx}{C R:Addr}
noncomputable def AG(i:Nat)(z1 z2:Str):TE:=λσ H Q=>∃n:Int,σ[i]? = vd (vd (.int n))/\n.natAbs.log2<1920/\z1.length+(OG (toString n)).length+z2.length<=OO/\∀y,Q (.str y) H
noncomputable def zhs(hn:PE X (.Name n p) (fY i)):PE X (.JoinedStr [.Constant (.str z1) 0 p1,.FormattedValue (.Name n p) (-1) zc p2,.Constant (.str z2) 0 p3] pos) (AG i z1 z2):=by
 intro pins s σ H Q I h;obtain⟨m,h0,hd,hs,q⟩:=h;have e0:XJ.length=0:=rfl;refine wpAny_JoinedStr ?_;refine Te ⟨z1,_,rfl,by rw[Q8,e0];omega,?_⟩;have I0:=I.tok (s.toks+1);refine wpAny_FormattedValue_plain (YF (hn pins _ σ H (λv H'=>v=.int m/\H'=H) I0 ⟨_,h0,rfl,rfl⟩) λu s1 ⟨v,H1,I1,r1,e1,e2⟩=>?_);subst e1 e2;obtain⟨t,rfl⟩:=r1;refine wpAny_formatField_int hd ⟨OG (toString m),_,rfl,by rw[Q8,Q8,e0];omega,?_⟩;refine Te ⟨z2,_,rfl,by rw[Q8,Q8,Q8,e0];omega,?_⟩;exact⟨by rw[Q8,Q8,Q8,e0];omega,.str _,H1,((I1.tok _).tok _).tok _,⟨_,rfl⟩,q _⟩
end
end XE
namespace XE
open L2 D
noncomputable def CD(P:V->Prop)(C:Addr)(f:Str):Sp:=λvs H Q _=>∃a v,vs=[.ref a,v]/\H a=vd (.ext (Zl a C zc))/\P v /\
 ∀dx,H dx=zc->dx≠a->Q .non (upd (upd H dx (.xd [(f,v)])) a (.ext (Zl a C (vd dx))))
def ig(z1 z2:Str):V->Prop:=λv=>∃n:Int,v=.int n/\n.natAbs.log2<1920/\z1.length+(OG (toString n)).length+z2.length<=OO
noncomputable def zht(h:CD (ig z1 z2) C f vs H Q E) :
  AD (z0 (AF C (AG 1 z1 z2))) (Ju C 0 (fY 1) f) { nx:=λ_ H'=>Q .non H',rt:=Q } (start N vs) H:=by
 obtain⟨a,v,rfl,ha,⟨n,rfl,h1,h2⟩,q⟩:=h;refine⟨a,rfl,n,rfl,h1,h2,λy=>⟨ha,?_⟩⟩;exact⟨.int n,rfl,a,rfl,ha,λdx h1 h2=>q dx h1 h2⟩
structure ZM(A:V->Prop)(P:Pb)(w:Pp)(K:Frag)(mg:Str->Option OH)(base:Heap)(C R:Addr)(f:Str)(k:Nat):Prop where
 ex:∃fI fd ps,YJ P w K mg base ZA k fI fd ps (CD A C f)/\Binds K fd ps []/\Pe K (.ref C) "__init__"=vd (vd (.ref fI))/\RF K (.ref fI)=xV
 c:ZU K C (.ref R::vE)
 r:ZU K R vE
 ri:RQ K "__init__" (.ref R)=vd zc
 kp:P5 K (.ref C)=xV
noncomputable def tQ(P:V->Prop)(n0:Nat)(C:Addr)(f:Str)(te:TE):TE:=λσ H Q=>te σ H λv H1=>P v /\
 ∀a dx,n0<=a->H1 a=zc->H1 dx=zc->dx≠a->Q (.ref a) (upd (upd H1 dx (.xd [(f,v)])) a (.ext (Zl a C (vd dx))))
section
variable {X:Cx}{C R:Addr}{f:Str}{k:Nat}
noncomputable def rP(G:ZM P X.prog X.w X.K X.mg X.base C R f k)(hr:YD (k+1) X.A)(hg:Gl X cn)(hm:X.mg cn=vd (.ref C))(he:PE X e te)
  (YU:autoParam ((cn == ("__debug__" : Str))=zd) u11) (hs:autoParam (OM [e] X.env=[(zd,eval e X.env)]) u10) :
  PE X (.Call (.Name cn p) [e] [] pos) (tQ P X.s₀.heap.objs.size C f te):=by
 intro pins s σ H Q I h;obtain⟨fI,fd,ps,F,hb,hi,hf⟩:=G.ex;refine QB (ju I hg hm ?_ YU);have pa:PA X [e] (pB te p8):=br he cu (by rw[hs];rfl)
 have hA:=pa pos pins s σ H (λvs H1=>match vs with
  |[v]=>P v/\∀a dx,X.s₀.heap.objs.size<=a->H1 a=zc->H1 dx=zc->dx≠a->Q (.ref a) (upd (upd H1 dx (.xd [(f,v)])) a (.ext (Zl a C (vd dx))))
  | _=>False) I h
 refine RH (h₀:=X.base) I.ok.mod.kin G.kp (YF hA λus s1 ⟨vs,H1,I1,r1,q⟩=>⟨I1.kIn,?_⟩) (by rw[hs];rfl) rfl
 try dsimp only at q
 split at q
 .rename_i v
  obtain⟨hx,q⟩:=q
  obtain⟨u,G5,rfl,r2,r3⟩:∃a b,us=a::b/\RelV v a/\Yx [] b:=by cases r1 with|cons a b=>exact⟨_,_,rfl,a,b⟩
  cases r3;have GA:=I1;obtain⟨hp,g,d,tk,os⟩:=s1;refine zhe I1.kIn G.c G.r G.ri hi hf (show 1<=OO by decide) λh' a Cf BR=>?_;obtain⟨t,m1,m2,m3⟩:=Cf.there;have fr:H1 a=zc:=I1.hok.fresh BR;have I2:=GA.laid (h':=h') (a:=a) (o:=.ext (Zl a C zc)) (t':=tk) Cf.keeps BR (Zl.ok ⟨t,m1⟩)
  have hl:(Pr a::[u]).length=ps.length:=by
   have:=F.len [.ref a,v] (upd H1 a (.ext (Zl a C zc))) (λ_ H2=>True) E0 ⟨a,v,rfl,bg,hx,λ_ _ _=>trivial⟩;simpa using this
  have Bg:=hb ⟨h',g,d,tk,os⟩ [.ref a,u] I2.kIn (by simpa using hl);refine Tg (Ss (F.run _ X.stack ⟨h',g,d,tk,os⟩ (upd H1 a (.ext (Zl a C zc))) ⟨[.ref a,u],[]⟩ [.ref a,u] [.ref a,v] (λw H2=>w=.non/\Q (.ref a) H2) E0 ?_ (I2.env0.make C [u] []) (by simpa using Bg) (.cons rfl (.cons r2 .nil)) ⟨a,v,rfl,bg,hx,λdx h1 h2=>⟨rfl,?_⟩⟩) λr s' hq=>?_)
  .exact hr.make C [u] []
  .rw[zhk h2]
   have Bf:H1 dx=zc:=by rw[aJ h2] at h1;exact h1
   exact q a dx (OS I1.sz BR) fr Bf h2
  .cases r with
   |error e=>exact PZ hq
   |ok fl=>
    cases fl with
    |ret u'=>
     obtain⟨v,H3,I3,rv,ev,q'⟩:=I2.after hq;subst ev;exact⟨rv,.ref a,H3,I3,rfl,q'⟩
    |next=>exact PZ hq
    |brk=>exact PZ hq
    |cont=>exact PZ hq
 .exact PZ q
end
end XE
namespace XE
open L2 D
noncomputable def ck(K:Frag)(n:Nat)(C:Addr)(f:Str)(m:List W->Tp->Option (Int×Tp)):Sp:=λvs H _ E=>∃(O:Addr->Prop) (ts:List Addr) (T:Tp) (ws:List W) (x:Int) (T':Tp),HC K O ts H T/\fX K O ts H vs ws/\ws.length=n/\dB ws=xV/\m ws T=vd (x,T') /\
 ∀dx H',YB ts H H'->HC K O ts H' T'->H' dx=vd (.xd [(f,.int x)])->E (.ref C) (vd dx) H'
end XE
namespace D
open L2
section
variable {X:Cx}
noncomputable def zhu(l:Addr)(items:Array OH)(n:Nat)(dd:Option Addr)(sl:Array (Option OH))(x:Int)(u:Tok)(Eu:¬(!Builtin.List.listFitsIndex x)=xV)(Yv:¬items.size*x.toNat>(2^63-1) / 8)(YE:¬Qg (items.size*x.toNat)=xV) :
  Meets (SU.«list.__mul__» ⟨[.ref l,.int x u],[]⟩) (λ_ R s=>s.heap.get? l=vd { cls:=.type "list",dict:=dd,data:=.seq items n,slots:=sl }/\R (.ok (.ret (Pr s.heap.objs.size))) { s with heap:=s.heap.push { cls:=Rk "list",data:=Yf (SI (λx1 x2=>x1++x2) #[] (OQ (if items.isEmpty=xV then 0 else x.toNat) items)) },toks:=s.toks }):=
 .of_wp λprog w A R s h=>by
  obtain⟨hp,g,d,tk,os⟩:=s;obtain⟨hl,h⟩:=h;have f1:=Wk;have f2:=TU;have f3:=UD;have f4:=Uk;have f5:=Ul;have hsz:=WV YE;wp_walk using S5 hl;refine wpAny_ite_false (decide_eq_false (Nat.not_lt.mpr hsz)) ?_;wp_walk using S5 hl;exact⟨_,rfl,h⟩
noncomputable def zhv(a:Int)(t:Tok)(l:Addr)(items:Array OH)(n:Nat)(dd:Option Addr)(sl:Array (Option OH)) :
  Meets (SU.«int.__rmul__» ⟨[.int a t,.ref l],[]⟩) (λ_ R s=>s.heap.get? l=vd { cls:=.type "list",dict:=dd,data:=.seq items n,slots:=sl }/\R (.ok (.ret U5)) s):=.of_wp λprog w A R s h=>by obtain⟨hp,g,d,tk,os⟩:=s;obtain⟨hl,h⟩:=h;wp_walk;exact⟨_,rfl,h⟩
end
def K4(_ j:Int):Prop:=0<j/\j<18446744073709551616
def eU:OF->OF->Option PyData:=Du λi j=>if 0<j/\j<18446744073709551616 then vd (.int (i / j)) else zc
noncomputable def zhw(h:y.natAbs<18446744073709551616):Builtin.divisionGoesByPylong x y=zd:=by
 refine PyProof.noPylong_of_log2 ?_
 by_cases h0:y.natAbs=0
 .simp_all
 .have h30:y.natAbs.log2<64:=(Wz h0).mpr h
  lia
section
variable {X:Cx}
noncomputable def zhx:Zg X (Qq .FloorDiv) (rI K4 λi j=>.int (i / j)):=HS λi j _ _ _ _ _ hc q=>by
 have h1:=hc.1;have h2:=hc.2;exact floordiv_int (by lia) (by rw[Int.fdiv_eq_ediv_of_nonneg i (by lia)];exact q) (.inl (zhw (by lia)))
noncomputable def hU:Z4 X (Qq .FloorDiv) eU:=⟨_,zhx,sG λi j d e=>by
 split at e
 .rename_i h;cases e;exact⟨h,λ_ _=>.int _⟩
 .cases e⟩
end
end D
namespace L2
def zhy:Uv (.type "list_reverseiterator") "__len__"=pure zc:=by rw[WL,UW];kernel_rfl
noncomputable def zhz:Uv (.type "list_reverseiterator") "__length_hint__"=pure (vd (.builtin "list_reverseiterator.__length_hint__")):=by rw[WL,UW];kernel_rfl
section
variable {prog:Pb}{w:Pp}{A:Pw}{E:OH->OJ->Prop}{s:OJ}
noncomputable def zia(hit:s.heap.IsRevIter it l i)(h:Q zd s):Pk (Pi prog w) A (Ta (.ref it)) Q E s:=by
 unfold Ta;refine ON (UJ hit.typeIs zhy ?_);show Pk _ _ (XW (Pr it) "__length_hint__" >>= _) _ _ _;refine ON (UJ hit.typeIs zhz ?_);generalize hid:("list_reverseiterator.__length_hint__" : String)=id0;dsimp only;rw[show splitId id0=vd ("list_reverseiterator","__length_hint__") from by subst hid;decide +kernel];subst hid;dsimp only;refine ON (wpAny_isInstance (T:="list_reverseiterator") (b:=xV) hit.typeIs (by rw[isSubtype_type];kernel_rfl) ?_);refine UP (λHg=>absurd Hg (by decide)) (λ_=>?_);refine UP (λ_=>?_) (λHg=>absurd (by decide +kernel) Hg);refine UP (λHg=>absurd Hg (by decide)) (λ_=>?_);exact Pg h
noncomputable def zib(hh:A.handled=zc)(hit:s.heap.IsRevIter it l ((items.size:Int)-1))(hl:s.heap.IsList l items)(Ib:l≠it)(S:Addr)(res:OH)(xQ:Nat)(hS:s.heap.get? S=vd { cls:=.type "list",data:=.seq #[] xQ })(Hh:S≠it)(DJ:S≠l)
  (hR:∀h' tk ZE c',(∀b o,b≠S->b≠it->s.heap.get? b=vd o->h'.get? b=vd o)->h'.get? S=vd { cls:=.type "list",dict:=zc,data:=.seq ZE c',slots:=#[] } ->
   Ya (λi v=>items[items.size-1-i]? = vd v) ZE items.size->R (.ok (.ret res)) { s with heap:=h',toks:=tk }) (hn:items.size<=OO) :
  Pk (Pi prog w) A.in1 (Q3 (.ref S) (.ref it) res)
   (λfin s'=>match fin with | .done f=>R (.ok f) s' | .again c'=>c'.quiet=xV/\So (Pi prog w) A c' R s') (λe s'=>R (.error e) s') s:=by
 have hSf:S∉[it,l]:=λhm=>by
  rcases OZ.mp hm with e|e
  .exact Hh e
  .exact DJ (Pj.mp e)
 unfold Q3;refine ON (Uu hit.typeIs ?_)
 have h1:TZ (.ref S) (.ref it)=zd:=by simp[TZ,Hh]
 have h2:(Rk "list_reverseiterator" == Rk "list")=zd:=by decide
 have h3:(Rk "list_reverseiterator" == Rk "tuple")=zd:=by decide
 simp only[h1,h2,h3,SV,Sf,if_false];refine ON (wpAny_pyIter_revIter hit ?_);refine ON (Q5 (zia hit ?_));rw[if_neg (by decide)];refine Pg ⟨plainId_quiet PySem.F.plain_extend_loop _,codeAny_extend_loopS (Walks.listRev (prog:=prog) (w:=w) (A:=A.in1) hh it l Ib items).toS hn _ hSf _ items.size 0 _ _ _ rfl (Ri _) ⟨Ri _,by simpa using hit,hl⟩ hS (ItemsOf.nil _) λs' ZE c' hm Cz Cp=>?_⟩;rw[Moved.eq_with hm];refine hR s'.heap s'.toks ZE c' (λb ob hb hi e=>hm.heap b ob (λKY=>?_) e) Cz Cp
 rcases OZ.mp KY with e' | KY
 .exact hb e'
 .exact hi (Pj.mp KY)
noncomputable def zic(hh:A.handled=zc)(hit:s.heap.IsRevIter it l ((items.size:Int)-1))(hl:s.heap.IsList l items)(Ib:l≠it)(S:Addr)(hS:s.heap.get? S=vd { cls:=.type "list",data:=.seq #[] })(Hh:S≠it)(DJ:S≠l)
  (hR:∀h' tk ZE c',(∀b o,b≠S->b≠it->s.heap.get? b=vd o->h'.get? b=vd o)->h'.get? S=vd { cls:=.type "list",dict:=zc,data:=.seq ZE c',slots:=#[] } ->
   Ya (λi v=>items[items.size-1-i]? = vd v) ZE items.size->R (.ok (.ret .none)) { s with heap:=h',toks:=tk }) (hn:items.size<=OO) :
  Pk (Pi prog w) A.in1 (SU.«list.__init__» ⟨[.ref S,.ref it],[]⟩)
   (λfin s'=>match fin with | .done f=>R (.ok f) s' | .again c'=>c'.quiet=xV/\So (Pi prog w) A c' R s') (λe s'=>R (.error e) s') s:=by
 show Pk _ _ (do let old ←UE (.ref S);XX (.ref S) (λ_=>#[]);letGo old.toList.reverse;Q3 (.ref S) (.ref it) .none) _ _ s;refine ON ?_;unfold UE;refine ON (wpAny_seqItems hS rfl (Pg ?_));show Pk _ _ (updateSeq S (λ_=>#[]) >>= λ_=>letGo (#[]:Array OH).toList.reverse >>= λ_=>Q3 (.ref S) (.ref it) .none) _ _ s;refine ON (WI hS rfl ?_);have HR:=P0 (Ti (λ_=>(#[]:Array OH))) hS rfl
 have BM:∀b o,b≠S->s.heap.get? b=vd o->(s.heap.update S (Ti (λ_=>(#[]:Array OH)))).get? b=vd o:=
  λb o hb e=>(Pf _ _ (QP hb)).trans e
 refine ON (wpAny_letGo ?_);refine zib hh (hit.at λo e=>BM it o (QP Hh) e) (hl.at λo e=>BM l o (QP DJ) e) Ib S .none _ HR Hh DJ (λh' tk ZE c' hk Cz Cp=>?_) hn;exact hR h' tk ZE c' (λb o hb hi e=>hk b o hb hi (BM b o hb e)) Cz Cp
noncomputable def zid(hh:A.handled=zc)(hit:s.heap.IsRevIter it l ((items.size:Int)-1))(hl:s.heap.IsList l items)(Ib:l≠it)
  (hQ:∀h' tk ZE c',(∀b o,b≠it->s.heap.get? b=vd o->h'.get? b=vd o) ->
   h'.get? s.heap.objs.size=vd { cls:=.type "list",dict:=zc,data:=.seq ZE c',slots:=#[] }->Ya (λi v=>items[items.size-1-i]? = vd v) ZE items.size->Q (.ref s.heap.objs.size) { s with heap:=h',toks:=tk }) (hn:items.size<=OO) :
  Pk (Pi prog w) A (call (.type "list") [.ref it]) Q E s:=by
 refine callType_codes (Q₁:=λobj za=>obj=.ref s.heap.objs.size/\za = { s with heap:=s.heap.push { cls:=.type "list",data:=.seq #[] } }) PySem.F.called_list (PySem.F.typeCall_list_1 _) PySem.F.entry_list_init
  (code_list_new _ ⟨rfl,rfl⟩) λobj za Eb=>?_
 obtain⟨rfl,rfl⟩:=Eb;have hS:(s.heap.push { cls:=.type "list",data:=.seq #[] }).get? s.heap.objs.size=vd { cls:=.type "list",data:=.seq #[] }:=Pm _ rfl
 have l1:it<s.heap.objs.size:=by
  obtain⟨o,e,_⟩:=hit;exact OV e
 have l2:l<s.heap.objs.size:=by
  obtain⟨o,e,_⟩:=hl;exact OV e
 refine⟨⟨_,hS,rfl⟩,PySem.F.args_list_init_2 _ _,zic (A:=A.in1) hh (hit.at λo e=>OK _ e) (hl.at λo e=>OK _ e) Ib _ hS (λz=>absurd l1 (by rw[←z];exact PH _)) (λz=>absurd l2 (by rw[←z];exact PH _)) (λh' tk ZE c' hk Cz Cp=>?_) hn⟩;exact⟨rfl,hQ h' tk ZE c' (λb o hb e=>hk b o (Pl (OV e)) hb (OK _ e)) Cz Cp⟩
end
noncomputable def zie{Yu:List OH}(h:Ya (λi v=>Yu.toArray[Yu.toArray.size-1-i]? = vd v) acc Yu.toArray.size):acc=Yu.reverse.toArray:=by
 obtain⟨h1,h2⟩:=h;simp only[P9,List.getElem?_toArray] at h1 h2;apply Array.ext
 .simp[h1]
 .intro i hi Kj
  have a:=h2 i acc[i] (Array.getElem?_eq_getElem hi);have b:Yu.reverse[i]? = Yu[Yu.length-1-i]?:=List.getElem?_reverse (by omega);rw[a,Qh (by simpa using Kj)] at b;simpa using(Rc b).symm
def Yx.rev(h:Yx xs us):Yx xs.reverse us.reverse:=by
 induction h with
 |nil=>exact .nil
 |cons r _ ih=>
  rw[RT,RT];exact ih.append (.cons r .nil)
section
variable {X:Cx}{e:Expr}{te:TE}{x y:Str}{p p' pos pos':Pos}
noncomputable def JY(K:Frag)(te:TE):TE:=λσ H Q=>te σ H λv H1=>∃a ys,v=.ref a/\Zm K H1 a ys/\∀l,H1 l=zc->Q (.ref l) (upd H1 l (.lst ys.reverse))
noncomputable def zif(JG:X.calm=xV)(hg:Gl X x)(hm:X.mg x=zc)(hv:Qy x=vd (.type "list"))(Hi:Gl X y)(Cf:X.mg y=zc)(Hy:Qy y=vd (.type "reversed"))(he:PE X e te)(hn:x≠"__name__")(YU:(x == ("__debug__" : Str))=zd)(IZ:y≠"__name__")(GP:(y == ("__debug__" : Str))=zd)
  (hs:OM [.Call (.Name y p') [e] [] pos'] X.env=(zd,eval (.Call (.Name y p') [e] [] pos') X.env)::OM [] X.env) (KE:OM [e] X.env=(zd,eval e X.env)::OM [] X.env)
  (Y1:(PK pos (OM [] X.env)).any (·.1)=zd) (Gm:(PK pos' (OM [] X.env)).any (·.1)=zd) :
  PE X (.Call (.Name x p) [.Call (.Name y p') [e] [] pos'] [] pos) (JY X.K te):=by
 intro pins s σ H Q I h;refine QB (kL I hg hm hv ?_ hn YU);refine Q1 ?_ hs Y1;rw[hs];show Pk _ _ (XY ((zd,eval (.Call (.Name y p') [e] [] pos') X.env)::PK pos (OM [] X.env))) _ _ s;refine RG ?_;refine QB (kL I Hi Cf Hy ?_ IZ GP);refine Q1 ?_ KE Gm;rw[KE];show Pk _ _ (XY ((zd,eval e X.env)::PK pos' (OM [] X.env))) _ _ s;refine RG (YF (he pins s σ H _ I h) λu s1 ⟨v,H1,I1,r1,a,ys,ev,hq,q1⟩=>?_);subst ev;cases r1;refine Sr ?_;obtain⟨Yu,rv,pl,hz⟩:=I1.list hq;have YH:=rv.length
 have Z2:a<s1.heap.objs.size:=by
  obtain⟨o,n,e,_⟩:=pl;exact OV e
 refine call_reversed_list pl.isList ?_;refine Sr ?_;have gi:(s1.heap.push (revObj a ((Yu.toArray.size:Int)-1))).IsRevIter s1.heap.objs.size a ((Yu.toArray.size:Int)-1):=⟨_,Pm _ rfl,rfl,rfl⟩;refine zid (I1.ok.hd JG) gi (pl.isList.at λo e=>OK _ e) (Pl Z2) (λh' tk ZE c' hk Cz Cp=>?_) (by simp only[P9] <;> omega);have hS:(s1.heap.push (revObj a ((Yu.toArray.size:Int)-1))).objs.size=s1.heap.objs.size+1:=Q9 ..;rw[zie Cp] at Cz
 have le:s1.heap.objs.size<=(s1.heap.push (revObj a ((Yu.toArray.size:Int)-1))).objs.size:=by omega
 exact⟨.ref _,_,I1.laid (t':=tk) (λb o e=>hk b o (Pl (OV e)) (OK _ e)) le (show YM X.prog X.w _ h' _ (.lst ys.reverse) from⟨by rw[Vq];exact hz,Yu.reverse,c',rv.rev,Cz⟩),rfl,q1 _ (I1.hok.fresh le)⟩
end
end L2
namespace D
open L2
def mQ:OF->Option OF
 |.list xs=>vd (.list xs.reverse)
 |_=>zc
@[simp] theorem MT:mQ (.list xs)=vd (.list xs.reverse):=rfl
theorem boot_reversed:Qy "reversed"=vd (.type "reversed"):=by rfl
section
variable {X:Cx}{pos pos' p p':Pos}{e:Expr}{f:FE}
noncomputable def zig(hm:X.mg "list"=zc)(Cf:X.mg "reversed"=zc)(he:DE X e f)(JG:autoParam (X.calm=xV) u10)(hg:autoParam (Gl X "list") u10)(Hi:autoParam (Gl X "reversed") u10)
  (hs:autoParam (OM [.Call (.Name "reversed" p') [e] [] pos'] X.env=(zd,eval (.Call (.Name "reversed" p') [e] [] pos') X.env)::OM [] X.env) u12) (KE:autoParam (OM [e] X.env=(zd,eval e X.env)::OM [] X.env) u12)
  (Y1:autoParam ((PK pos (OM [] X.env)).any (·.1)=zd) u13) (Gm:autoParam ((PK pos' (OM [] X.env)).any (·.1)=zd) u13) :
  DE X (.Call (.Name "list" p) [.Call (.Name "reversed" p') [e] [] pos'] [] pos) (Y8 mQ f):=by
 refine⟨?_⟩;refine pe_imp (zif JG hg hm SJ Hi Cf boot_reversed he.pe (by decide) (by decide) (by decide) (by decide) hs KE Y1 Gm) λσ H Q=>?_;rintro⟨O,ts,ρ,T,w,T',hc,re,e,q⟩;obtain⟨w1,T1,e1,e⟩:=aE e;obtain⟨x,d,h1,h3,rfl,rfl⟩:=kK e;refine⟨O,ts,ρ,T,w1,T',hc,re,e1,λv1 H1 s1 Yv r1=>?_⟩;have k1:=Yv.view r1 h1;unfold mQ at h3;split at h3
 .cases h3
  obtain⟨a,vs,rfl,t,r⟩:=k1.lst;exact⟨a,vs,rfl,t,λl hl=>q _ _ (s1.trans (.new hl _)) (Yv.new hl _) (Yv.newL hl r.rev)⟩
 .cases h3
end
def dd:List Str->List Str
 |[]=>[]
 |a::r=>if a∈r then dd r else a::dd r
end D
namespace L2
def Hz:OH->Str
 |.str k _=>k
 |_=>""
section
variable {P:Pb}{w:Pp}{A:Pw}{E:OH->OJ->Prop}{s:OJ}
def TupAt(h:Heap)(q:Addr)(pl:Array OH):Prop:=∃o n,h.get? q=vd o/\o.data=.seq pl n
end
end L2
namespace D
open L2
section
variable {K:Frag}{ze:Addr->Prop}{H₀:Hp}{F:List ((Addr->Prop)×Hp)}{ts:List Addr}{O:Addr->Prop}{H H1:Hp}{σ:L2.St}{ρ:Yy}{T T1:Tp}
noncomputable def nT(e:(ρ.set i zc)[j]? = vd (vd w)):i≠j/\ρ[j]? = vd (vd w):=by
 by_cases z:i=j
 .subst z
  rw[Ui] at e<;>simp_all
 .simp_all
def RS.unset{i:Nat}{v:V}(r:RS K ze H₀ F ts O H σ ρ T):RS K ze H₀ F ts O H (σ.set i (vd v)) (ρ.set i zc) T where
 hc:=r.hc
 re:=λj u e=>by
  obtain⟨z,e⟩:=nT e
  obtain⟨x,h1,h2⟩:=r.re j u e<;>simp_all
 sub:=r.sub
 ots:=r.ots
 same:=r.same
 fresh:=λj xs a e1 e2=>by
  obtain⟨z,e⟩:=nT e1
  simp_all
  exact r.fresh j xs a e e2
 dist:=λj k xs ys u e1 e2 e3 e4=>by
  obtain⟨z1,e1⟩:=nT e1;obtain⟨z2,e2⟩:=nT e2;rw[OR z1] at e3
  simp_all
  exact r.dist j k xs ys u e1 e2 e3 e4
 frs:=r.frs
 len:=by simp[r.len]
end
end D
namespace XO
open L2
open XE (Kp forget cT d0 fK ZU vE Zl)
def XR(e C:Addr)(dx:Option Addr)(tb:OH)(h:Heap):Prop:=∃t,h.get? e=vd { cls:=.ref C,dict:=dx,data:=.fields #[.ref t,tb,.none,.none,.bool zd,.none] }
def TB(T:Addr)(fl:OH)(h:Heap):Prop:=∃oT ts,h.get? T=vd oT/\oT.data=.fields ts/\ts[3]? = vd fl
section
variable {M:WX}{A:Pw}{E:OH->OJ->Prop}{s:OJ}{base:Heap}{env:Env}{outer:List Env}{L e C T:Addr}{dx:Option Addr}
noncomputable def sd(CZ:A.frames=vd (env::outer))(hl:s.heap.FunFrames base (env::outer))(hf:env.frame=vd L)(hx:XR e C dx tb s.heap)
  (k:∀h' T,s.heap.objs.size<=T->XR e C dx (.ref T) h'->TB T (T6 L) h'->T≠e->Kp [e] (frs (env::outer)) s.heap h'->Q () { s with heap:=h' }) :
  Pk M A (do let a ←frameOf env;let pl ←entryPlaceOf L hn;let b ←Vr head a .none (T6 L) .none pl;setField (.ref e) 1 b) Q E s:=by
 obtain⟨t,he⟩:=hx
 have hen:e∉(env::outer).filterMap (·.frame):=λhm=>by
  obtain⟨_,o,ho,hnf⟩:=hl.mem hm;rw[he] at ho;cases ho;exact hnf _ rfl
 refine ON (wpAny_frameOf_fun CZ hl hf λh1 hs=>?_);refine ON (wpAny_entryPlaceOf λpl Y1=>?_);unfold Vr newFields;refine ON (Qx ?_ (Y1.sizeOk5 _ _ _ _ _));have he1:=(hs.2.1 e hen).trans he;generalize eo:(Obj.mk (.type "traceback") zc (.fields ([head,.ref L,.none,T6 L,.none]++(if pl.isEmpty then OQ 6 QJ else pl)).toArray) #[])=oT
 have eT:oT.data=.fields ([head,.ref L,.none,T6 L,.none]++(if pl.isEmpty then OQ 6 QJ else pl)).toArray:=by rw[←eo]
 have BN:=OK (h:=h1) oT he1;refine Sz BN rfl (by simp) ?_;have ne:h1.objs.size≠e:=RE (OV he1);have sz:h1.objs.size=s.heap.objs.size:=hs.1;refine k _ h1.objs.size (by rw[sz];exact Pc _) ⟨t,?_⟩ ⟨oT,_,?_,eT,by simp⟩ ne ⟨λb o q n m=>?_,λb o q n m=>?_,λb o q=>?_⟩
 .rw[P0 _ BN rfl]
  rfl
 .rw[Pf _ _ ne.symm]
  exact RU rfl (Rb eT)
 .rw[Pf _ _ (λz=>n (by simp[z]))]
  exact OK _ ((hs.2.1 b m).trans q)
 .obtain⟨sl,q'⟩:=hs.2.2 b o q
  refine⟨sl,?_⟩;rw[Pf _ _ (λz=>n (by simp[z]))];exact OK _ q'
 .by_cases hb:b=e
  .subst hb
   exact⟨_,P0 _ BN rfl⟩
  .obtain⟨sl,q'⟩:=hs.2.2 b o q
   exact⟨_,(Pf _ _ (QP hb)).trans (OK _ q')⟩
noncomputable def zih(CZ:A.frames=vd (env::outer))(hl:s.heap.FunFrames base (env::outer))(hf:env.frame=vd L)(hx:XR e C dx .none s.heap)
  (k:∀h' T,s.heap.objs.size<=T->XR e C dx (.ref T) h'->TB T (T6 L) h'->T≠e->Kp [e] (frs (env::outer)) s.heap h'->Q () { s with heap:=h' }):Pk M A (Td (.ref e) env) Q E s:=by
 obtain⟨t,he⟩:=id hx;unfold Td;simp only[hf];refine ON (Q7 he rfl  rfl ?_);exact sd CZ hl hf hx k
noncomputable def oX(hx:XR e C dx (.ref T) s.heap)(ht:TB T fl s.heap)(ne:T≠e)(k:∀h',XR e C dx (.ref T) h'->TB T .none h'->Kp [T] [] s.heap h'->Q () { s with heap:=h' }) :
  Pk M A (Wo (.ref e) zc) Q E s:=by
 obtain⟨t,he⟩:=hx;obtain⟨oT,ts,hT,hd,h3⟩:=ht;have sz:=(Qs.mp h3).1;refine ON (Q7 he rfl  rfl ?_);have dt:=Sg hd (·.setIfInBounds 3 QJ);have self:=P0 _ hT (Rb dt);refine Sz hT hd sz (k _ ⟨t,?_⟩ ⟨_,_,self,dt,by simp[sz]⟩ ⟨λb o q n _=>?_,λb o q n m=>absurd m (by simp),λb o q=>?_⟩)
 .rw[Pf _ _ ne]<;>omega
 .rw[Pf _ _ (λz=>n (by simp[z]))]
  exact q
 .by_cases hb:T=b
  .subst hb;exact⟨_,self⟩
  .exact⟨o,by rw[Pf _ _ hb];exact q⟩
noncomputable def rT(CZ:A.frames=vd (env::outer))(hl:s.heap.FunFrames base (env::outer))(hf:env.frame=vd L)(hx:XR e C dx (.ref T) s.heap)(ht:TB T .none s.heap)(ne:T≠e)
  (k:∀h' T',s.heap.objs.size<=T'->XR e C dx (.ref T') h'->TB T' (T6 L) h'->T'≠e->Kp [e,T] (frs (env::outer)) s.heap h'->Q () { s with heap:=h' }):Pk M A (Td (.ref e) env) Q E s:=by
 obtain⟨t,he⟩:=id hx;obtain⟨oT,ts,hT,hd,h3⟩:=id ht;have sz:=(Qs.mp h3).1;unfold Td;simp only[hf];refine ON (Q7 he rfl (x:=.ref T) rfl ?_);refine ON (Q7 hT hd h3 ?_);have dt:=Sg hd (·.setIfInBounds 3 QJ);have self:=P0 (T7 (·.setIfInBounds 3 QJ)) hT (Rb dt)
 have kp:Kp [e,T] (frs (env::outer)) s.heap (s.heap.update T (T7 (·.setIfInBounds 3 QJ))):=by
  refine⟨λb o q n _=>?_,λb o q n m=>⟨o.slots,?_⟩,λb o q=>?_⟩
  .rw[Pf _ _ (λz=>n (by simp[z]))]
   exact q
  .rw[Pf _ _ (λz=>n (by simp[z]))]
   exact q
  .by_cases hb:T=b
   .subst hb;exact⟨_,self⟩
   .exact⟨o,by rw[Pf _ _ hb];exact q⟩
 have fn:=kp.fun_ (λx hx=>by
  rcases OZ.mp hx with z|z
  .exact⟨_,_,z ▸ he,rfl⟩
  .exact⟨_,_,(Pj.mp z) ▸ hT,hd⟩) hl
 refine ON (Sz hT hd sz ?_);refine sd (base:=base) CZ fn hf ⟨t,by rw[Pf _ _ ne];exact he⟩ λh' T' g1 g2 g3 g4 g5=>?_
 refine k h' T' ?_ g2 g3 g4 (kp.trans (g5.more λx hx=>by simp at hx;simp[hx]))<;>simp_all
end
noncomputable def zii(u:Un fs [] H0 H2 h0 h2)(k:Kp xs Fb h2 h3)(nx:∀x∈xs,h0.objs.size<=x)(nf:∀x∈Fb,x∈fs\/h0.objs.size<=x)(ha:∀o,H2 a=vd o->∃φ,o=.ext φ) :
  Un fs [] H0 (forget a H2) h0 h3:=by
 have lt:∀{b:Addr}{o:Obj},h0.get? b=vd o->b<h0.objs.size:=λe=>OV e;have IA:∀{b:Addr}{o:Obj},h0.get? b=vd o->b∉xs:=λe z=>PH _ (OY (lt e) (nx _ z));refine⟨λb o q n m x=>?_,λb o q n m x=>?_,λb o q n x=>?_,λb o q x=>?_,λb xs e=>?_,λb o u' e=>?_,λb ps e=>?_⟩
 .refine k.keep b o (u.keep b o q n m x) (IA q) λz=>?_
  rcases nf b z with z|z
  .exact m z
  .exact PH _ (OY (lt q) z)
 .obtain⟨sl,e⟩:=u.slot b o q n m x
  by_cases z:b∈Fb
  .obtain⟨GX,e'⟩:=k.slot b _ e (IA q) z
   exact⟨GX,e'⟩
  .exact⟨sl,k.keep b _ e (IA q) z⟩
 .have e:=u.free b o q n x
  by_cases z:b=a
  .rw[z];exact d0
  .rw[cT z];exact e
 .obtain⟨o',e⟩:=u.there b o q x
  exact k.there b o' e
 .have e':=u.tups b xs e
  rw[cT (λz=>by simp_all)];exact e'
 .have e':=u.frzs b o u' e
  rw[cT (λz=>by simp_all)];exact e'
 .obtain⟨more,e'⟩:=u.tbls b ps e
  refine⟨more,?_⟩;rw[cT (λz=>by simp_all)];exact e'
noncomputable def zij(x:Zh P w H h)(k:Kp xs fs h h')(nx:∀y∈xs,y=a\/H y=zc)(nf:∀y∈fs,H y=zc)(ha:∀o,H a=vd o->∃φ,o=.ext φ):Zh P w (forget a H) h':=by
 intro b o e
 have nb:b≠a:=λz=>by rw[z,d0] at e;cases e
 rw[cT nb] at e;refine(x b o e).stay (λc u hc q=>?_) (λc q=>?_) λc ys q=>?_
 .have tr:∃v,H c=vd v/\c≠a:=by
   rcases hc with rfl|hc
   .exact⟨_,e,nb⟩
   .exact⟨_,hc,λz=>by simp_all⟩
  obtain⟨v,t1,t2⟩:=tr;refine k.keep c u q (λz=>?_) λz=>?_
  .rcases nx c z with z|z<;>simp_all
  .have:=nf c z<;>grind
 .rw[cT (λz=>by simp_all)];exact q
 .rw[cT (λz=>by simp_all)];exact q
noncomputable def Y3(P:Pb)(w:Pp):Jr:=λouter H s E v s'=>∃e C dx T H',v=.ref e/\s'.os=s.os/\SN s'.gens/\Un (frs outer) [] H H' s.heap s'.heap/\Zh P w H' s'.heap/\s.heap.objs.size<=e/\s.heap.objs.size<=T/\T≠e /\
 XR e C dx (.ref T) s'.heap/\TB T .none s'.heap/\H' e=zc/\H' T=zc/\E (.ref C) dx H'
section
variable {P:Pb}{w:Pp}{K:Frag}{mg:Str->Option OH}{base:Heap}{N:List Str}{qual:Str}{scope:QA}{f C R:Addr}{YA:OH}{A:Pw}{outer:List Env}{s0:OJ}{H0:Hp}{E:XK}
noncomputable def gone(I2:L2.Inv (aZ (Y3 P w) P w K mg base N qual scope f YA A outer s0 H0 E) pins σ H2 s2)(ha:∀o,H2 a=vd o->∃φ,o=.ext φ)(ge:s0.heap.objs.size<=a)
  (g1:s0.heap.objs.size<=T) (hT:H2 T=zc) (g2:XR a C dx (.ref T) h3) (g3:TB T fl h3) (g4:T≠a) (g5:Kp (a::xs) (frs (Qf qual scope s0.heap.objs.size f YA::outer)) s2.heap h3) (nx:∀y∈xs,s0.heap.objs.size<=y/\H2 y=zc) (q:E (.ref C) dx (forget a H2)) :
  Pk (Pi P w) A' (Wo (.ref a) zc) (λ_ D6=>Y3 P w outer H0 s0 E (.ref a) D6) X' { s2 with heap:=h3 }:=by
 have st:=I2.env0;have un:=I2.base;have osq:s2.os=s0.os:=I2.os;have hok:Zh P w H2 s2.heap:=I2.hok;refine oX g2 g3 g4 λh4 j1 j2 j3=>?_
 have kp:Kp (a::T::xs) (frs (Qf qual scope s0.heap.objs.size f YA::outer)) s2.heap h4:=by
  refine(g5.more λx hx=>by simp at hx;rcases hx with z|z <;> simp[z]).trans ?_;refine⟨λb o q n _=>j3.keep b o q (λz=>n (by simp at z;simp[z])) (by simp),λb o q n m=>⟨o.slots,?_⟩,j3.there⟩;exact j3.keep b o q (λz=>n (by simp at z;simp[z])) (by simp)
 refine⟨a,C,dx,T,forget a H2,rfl,osq,I2.bare,zii un kp (λx hx=>?_) (λx hx=>?_) ha,zij hok kp (λy hy=>?_) st.frf ha,ge,g1,g4,j1,j2,d0,?_,q⟩
 .simp at hx
  rcases hx with rfl|rfl|z<;>simp_all
 .have CV:=hx
  unfold frs at CV;rw[QY] at CV;have CZ:(Qf qual scope s0.heap.objs.size f YA).frame=vd s0.heap.objs.size:=rfl;rw[CZ] at CV
  rcases OZ.mp CV with z|z
  simp_all
  .exact .inl z
 .simp at hy
  rcases hy with rfl|rfl|z<;>simp_all
 .rw[cT g4];exact hT
def zik(h:H a=zc):forget a H=H:=by
 funext b
 by_cases e:b=a
 .rw[e,d0,h]
 .exact cT e
noncomputable def passes:eO (Y3 P w) (aZ (Y3 P w) P w K mg base N qual scope f YA A outer s0 H0 E) E:=by
 intro pins σ H1 s1 v s2 I1 hq;obtain⟨a,C,dx,T,H2,rfl,Ji,IV,HN,IT,ge,Dq,neT,xr,tb,fe,fT,q⟩:=hq;have I2:=I1.call'  Ji HN IT IV (λb z=>absurd z (by simp));have st:=I2.env0;have JK:=I1.sz;have sz:=I2.sz;refine ON (rT      st.frames st.funs rfl xr tb neT λh3 T3 g1 g2 g3 g4 g5=>gone  I2 (λo ho=>by grind) (OS JK ge) (OS sz g1) (IT.fresh g1) g2 g3 g4 g5 (λy hy=>?_) (by rw[zik fe];exact q));rw[Pj.mp hy];exact⟨OS JK Dq,fT⟩
def C2(n0:Nat)(C:Addr)(E:XK)(te:TE):TS:=λ_ σ H=>te σ H λv H2=>∃a dx,v=.ref a/\n0<=a/\H2 a=vd (.ext (Zl a C dx))/\E (.ref C) dx (forget a H2)
noncomputable def zil(c:ZU K C (.ref R::vE))(he:PE (aZ (Y3 P w) P w K mg base N qual scope f YA A outer s0 H0 E) e te) :
  PS (aZ (Y3 P w) P w K mg base N qual scope f YA A outer s0 H0 E) (.Raise (vd e) zc pos) (C2 s0.heap.objs.size C E te):=by
 intro pins s σ H D I h;rw[arm_exec_Raise];refine ON (SQ ?_);simp only[evalOpt,Rn];unfold raiseStmt;refine ON (ON (YF (he pins s σ H _ I h) λv s2 ⟨x,H2,I2,r2,a,dx,ex,ge,ha,q⟩=>ON (SQ (Pg ?_))));subst ex;obtain rfl:v=.ref a:=r2;obtain⟨t,EL⟩:=Zl.of I2.hok ha;obtain⟨nm,qn,Nn,bs,sn,sub,ab,col,dd,k0,k1,k2,k3,k5,l,_⟩:=c;have hC:=I2.kIn _ _ l
 have hcB:(Pr C::Pr R::vE).contains (.type "BaseException")=xV:=by simp
 have hh:=I2.ok.hd rfl;have st:=I2.env0;have sz:s0.heap.objs.size<=s2.heap.objs.size:=I2.sz;have hok:Zh P w H2 s2.heap:=I2.hok
 have fin:(aZ (Y3 P w) P w K mg base N qual scope f YA A outer s0 H0 E).xe (.ref a) s2:=by
  show Pk (Pi P w) (A.deeper (Qf qual scope s0.heap.objs.size f YA)) (WQ (Qf qual scope s0.heap.objs.size f YA) (.ref a)) (λ_ D6=>Y3 P w outer H0 s0 E (.ref a) D6) (λe' D6=>Y3 P w outer H0 s0 E e' D6) s2;unfold WQ;exact ON (zih (base:=base) (outer:=outer) (C:=C) (dx:=dx) st.frames st.funs rfl ⟨t,EL⟩ λh3 T g1 g2 g3 g4 g5=>gone (xs:=[]) I2 (λo ho=>by rw[ha] at ho;cases ho;exact⟨_,rfl⟩) ge (OS sz g1) (hok.fresh g1) g2 g3 g4 g5 (λ_ z=>nomatch z) q)
 obtain⟨hp,g,d,tk,os⟩:=s2
 repeat (first|with_reducible refine PM EL ?_|with_reducible refine PM hC ?_|wp_step)
 refine Rt hC ?_;rw[hcB]
 repeat (first|with_reducible refine PM EL ?_|with_reducible refine PM hC ?_|wp_step)
 exact wpAny_raiseNew_none hh fin
end
end XO
namespace L2
section
variable {X:Cx}{pins:List (Addr×Obj)}{σ:St}{H:Hp}{s:OJ}{x:Str}{scope:QA}{N':List Str}
noncomputable def zim(I:Inv X pins σ H s)(hf:∀b∈fp,eF X pins H b)
  (Ja:C=(s.heap.push oD).objs.size) (J:Inv (cA X x scope C { s with heap:=s.heap.push oD } H (s.heap.objs.size::fp) N') ZD σ' H1 s1) (ZR:Rh C s1.heap h') :
  Inv X pins σ H1 { s1 with heap:=h' }:=by
 have hC:C=s.heap.objs.size+1:=by simp_all
 have nD:∀b o,s.heap.get? b=vd o->b≠s.heap.objs.size:=λb o e=>Pl (OV e)
 have nC:∀b o,s.heap.get? b=vd o->b≠C:=λb o e=>by rw[hC];exact Pl (Sv (OV e))
 have up:∀b o,s.heap.get? b=vd o->(s.heap.push oD).get? b=vd o:=λb o e=>OK _ e;have nx:∀b,b∉fp->b≠s.heap.objs.size->b∉s.heap.objs.size::fp:=λb h1 h2 z=>(OZ.mp z).elim h2 h1
 have GB:∀b u,H1 b=vd u->b≠C:=λb u e z=>by
  rw[z] at e
  have q:H1 C=zc:=J.free<;>simp_all
 have B:=J.base;refine I.call'  (ch:=fp) J.os ⟨λb o e q h1 h2=>?_,λb o e q h1 h2=>?_,λb o e q h2=>?_,λb o e h2=>?_,λb xs e=>B.tups b xs e,λb o u e=>B.frzs b o u e,λb ps e=>B.tbls b ps e⟩ (λb u e=>?_) J.bare λb hb=>?_
 .exact(ZR.2 b (nC b o e)).trans (B.keep b o (up b o e) q h1 (nx b h2 (nD b o e)))
 .obtain⟨sl,z⟩:=B.slot b o (up b o e) q h1 (nx b h2 (nD b o e))
  exact⟨sl,(ZR.2 b (nC b o e)).trans z⟩
 .exact B.free b o (up b o e) q (nx b h2 (nD b o e))
 .obtain⟨o',z⟩:=B.there b o (up b o e) (nx b h2 (nD b o e))
  exact⟨o',(ZR.2 b (nC b o e)).trans z⟩
 .refine(J.hok b u e).stay (λc v hc q=>(ZR.2 c ?_).trans q) (λc q=>q) λc xs q=>q
  rcases hc with z|z
  .rw[z];exact GB b u e
  .exact GB c _ z
 .obtain⟨_,f1,_,f3,f4,f5⟩:=hf b hb
  exact⟨f3,f1,f4,f5⟩
end
end L2
namespace XO
open L2
open XE (Kp forget cT d0 fK ZU vE Zl)
structure Kq(xs fs:List Addr)(h h':Heap):Prop where
 keep:∀b o,h.get? b=vd o->b∉xs->b∉fs->h'.get? b=vd o
 slot:∀b o,h.get? b=vd o->b∉xs->b∈fs->∃sl,h'.get? b=vd { o with slots:=sl }
def Kq.of(k:Kp xs fs h h')(m:∀x∈xs,x∈ys):Kq ys fs h h':=⟨λb o q n=>k.keep b o q λz=>n (m b z),λb o q n=>k.slot b o q λz=>n (m b z)⟩
def Kq.trans(a:Kq xs fs h h1)(b:Kq xs fs h1 h2):Kq xs fs h h2:=⟨λc o q n m=>b.keep c o (a.keep c o q n m) n m,λc o q n m=>let ⟨_,e⟩:=a.slot c o q n m;let ⟨sl,e2⟩:=b.slot c _ e n m;⟨sl,e2⟩⟩
def Kq.same{xs fs:List Addr}{h h':Heap}{C:Addr}(s:Rh C h h')(m:C∈xs):Kq xs fs h h':=⟨λb o q n _=>(s.2 b λz=>n (z ▸ m)).trans q,λb o q n _=>⟨o.slots,(s.2 b λz=>n (z ▸ m)).trans q⟩⟩
noncomputable def zin(u:Un fs [] H0 H2 h0 h2)(k:Kq xs Fb h2 h3)(nx:∀x∈xs,h0.objs.size<=x)(nf:∀x∈Fb,x∈fs\/h0.objs.size<=x):Un fs [] H0 H2 h0 h3:=by
 have lt:∀{b:Addr}{o:Obj},h0.get? b=vd o->b<h0.objs.size:=λe=>OV e;have IA:∀{b:Addr}{o:Obj},h0.get? b=vd o->b∉xs:=λe z=>PH _ (OY (lt e) (nx _ z));refine⟨λb o q n m x=>?_,λb o q n m x=>?_,u.free,λb o q x=>?_,u.tups,u.frzs,u.tbls⟩
 .refine k.keep b o (u.keep b o q n m x) (IA q) λz=>?_
  rcases nf b z with z|z
  .exact m z
  .exact PH _ (OY (lt q) z)
 .obtain⟨sl,e⟩:=u.slot b o q n m x
  by_cases z:b∈Fb
  .obtain⟨GX,e'⟩:=k.slot b _ e (IA q) z
   exact⟨GX,e'⟩
  .exact⟨sl,k.keep b _ e (IA q) z⟩
 .obtain⟨o',e⟩:=u.there b o q x
  by_cases z:b∈Fb
  .obtain⟨sl,e'⟩:=k.slot b _ e (IA q) z
   exact⟨_,e'⟩
  .exact⟨_,k.keep b _ e (IA q) z⟩
noncomputable def zm(x:Zh P w H h)(k:Kq xs fs h h')(nx:∀y∈xs,H y=zc)(nf:∀y∈fs,H y=zc):Zh P w H h':=by
 intro b o e;refine(x b o e).stay (λc u hc q=>?_) (λc q=>q) λc ys q=>q
 have tr:∃v,H c=vd v:=by
  rcases hc with rfl|hc
  .exact⟨_,e⟩
  .exact⟨_,hc⟩
 obtain⟨v,t1⟩:=tr
 refine k.keep c u q (λz=>?_) λz=>?_<;>grind
section
variable {M:WX}{A:Pw}{E:OH->OJ->Prop}{s:OJ}{base:Heap}{env:Env}{outer:List Env}{L e C T:Addr}{dx:Option Addr}
noncomputable def zio(CZ:A.frames=vd (env::outer))(hl:s.heap.FunFrames base (env::outer))(hf:env.frame=vd L)(hx:XR e C dx (.ref T) s.heap)(ht:TB T fl s.heap)(ne:T≠e)(k0:Q () s)
  (k:∀h' T',s.heap.objs.size<=T'->XR e C dx (.ref T') h'->TB T' (T6 L) h'->T'≠e->Kp [e,T] (frs (env::outer)) s.heap h'->Q () { s with heap:=h' }):Pk M A (Td (.ref e) env) Q E s:=by
 obtain⟨t,he⟩:=id hx;obtain⟨oT,ts,hT,hd,h3⟩:=id ht;have sz:=(Qs.mp h3).1;unfold Td;simp only[hf];refine ON (Q7 he rfl (x:=.ref T) rfl ?_);rw[if_pos (show (Pr T != QJ)=xV from by kernel_rfl)];refine ON (Q7 hT hd h3 ?_)
 by_cases hq:(fl == T6 L)=xV
 .rw[if_pos hq]
  exact Pg k0
 rw[if_neg hq];have dt:=Sg hd (·.setIfInBounds 3 QJ);have self:=P0 (T7 (·.setIfInBounds 3 QJ)) hT (Rb dt)
 have kp:Kp [e,T] (frs (env::outer)) s.heap (s.heap.update T (T7 (·.setIfInBounds 3 QJ))):=by
  refine⟨λb o q n _=>?_,λb o q n m=>⟨o.slots,?_⟩,λb o q=>?_⟩
  .rw[Pf _ _ (λz=>n (by simp[z]))]
   exact q
  .rw[Pf _ _ (λz=>n (by simp[z]))]
   exact q
  .by_cases hb:T=b
   .subst hb;exact⟨_,self⟩
   .exact⟨o,by rw[Pf _ _ hb];exact q⟩
 have fn:=kp.fun_ (λx hx=>by
  rcases OZ.mp hx with z|z
  .exact⟨_,_,z ▸ he,rfl⟩
  .exact⟨_,_,(Pj.mp z) ▸ hT,hd⟩) hl
 refine ON (Sz hT hd sz ?_);refine sd (base:=base) CZ fn hf ⟨t,by rw[Pf _ _ ne];exact he⟩ λh' T' g1 g2 g3 g4 g5=>?_
 refine k h' T' ?_ g2 g3 g4 (kp.trans (g5.more λx hx=>by simp at hx;simp[hx]))<;>simp_all
noncomputable def ziq(hx:XR e C dx (.ref T) s.heap)(ht:TB T fl s.heap)(ne:T≠e)(k:∀h' fl',XR e C dx (.ref T) h'->TB T fl' h'->Kp [T] [] s.heap h'->Q () { s with heap:=h' }) :
  Pk M A (Wo (.ref e) fo) Q E s:=by
 obtain⟨t,he⟩:=hx;obtain⟨oT,ts,hT,hd,h3⟩:=ht;have sz:=(Qs.mp h3).1;refine ON (Q7 he rfl  rfl ?_);have dt:=Sg hd (·.setIfInBounds 3 (fo.elim .none λf=>T6 f));have self:=P0 _ hT (Rb dt);refine Sz hT hd sz (k _ (fo.elim .none λf=>T6 f) ⟨t,?_⟩ ⟨_,_,self,dt,by simp[sz]⟩ ⟨λb o q n _=>?_,λb o q n m=>absurd m (by simp),λb o q=>?_⟩)
 .rw[Pf _ _ ne]<;>omega
 .rw[Pf _ _ (λz=>n (by simp[z]))]
  exact q
 .by_cases hb:T=b
  .subst hb;exact⟨_,self⟩
  .exact⟨o,by rw[Pf _ _ hb];exact q⟩
end
end XO
namespace XO
open L2
open XE (Kp forget cT d0 fK ZU vE Zl)
def Kq.more(k:Kq xs fs h h')(m:∀x∈xs,x∈ys):Kq ys fs h h':=⟨λb o q n=>k.keep b o q λz=>n (m b z),λb o q n=>k.slot b o q λz=>n (m b z)⟩
def Kq.any{xs fs Fb:List Addr}{h h':Heap}(k:Kq xs [] h h'):Kq xs Fb h h':=⟨λb o q n _=>k.keep b o q n (by simp),λb o q n _=>⟨o.slots,k.keep b o q n (by simp)⟩⟩
theorem Kq.fun_(k:Kq xs fs h h'):∀{l:List Env},(∀b∈frs l,b∉xs)->h.FunFrames base l->h'.FunFrames base l
 |[],_,_=>trivial
 |env::l,nx,hl=>by
  obtain⟨h1,⟨L,o,e1,e2,e3,e4⟩,h3⟩:=hl
  have hm:L∈frs (env::l):=by
   unfold frs<;>simp_all
  have rest:∀b∈frs l,b∉xs:=λb hb=>nx b (by
   unfold frs at hb ⊢<;>simp_all)
  refine⟨h1,⟨L,?_⟩,k.fun_ rest h3⟩
  by_cases z:L∈fs
  .obtain⟨sl,e⟩:=k.slot L o e3 (nx L hm) z
   exact⟨_,e1,e2,e,e4⟩
  .exact⟨o,e1,e2,k.keep L o e3 (nx L hm) z,e4⟩
section
variable {P:Pb}{w:Pp}{K:Frag}{mg:Str->Option OH}{base:Heap}{N:List Str}{qual:Str}{sc:QA}{f Cc:Addr}{YA:OH}{A:Pw}{outer:List Env}{s0:OJ}{H0:Hp}{E:XK}
noncomputable def Ag(I2:L2.Inv (aZ (Y3 P w) P w K mg base N qual sc f YA A outer s0 H0 E) pins σ H2 s2)
  (g2:XR a Cc dx (.ref T) h3) (g3:TB T fl h3) (g4:T≠a) (g5:Kq (a::T::xs) (frs (Qf qual sc s0.heap.objs.size f YA::outer)) s2.heap h3) (nx:∀y∈a::T::xs,s0.heap.objs.size<=y/\H2 y=zc) (q:E (.ref Cc) dx H2) :
  Pk (Pi P w) A' (Wo (.ref a) zc) (λ_ D6=>Y3 P w outer H0 s0 E (.ref a) D6) X' { s2 with heap:=h3 }:=by
 have st:=I2.env0;refine oX g2 g3 g4 λh4 j1 j2 j3=>?_;have kq:=g5.trans (Kq.any (fs:=[]) (Kq.of j3 λx hx=>by simp_all));refine⟨a,Cc,dx,T,H2,rfl,I2.os,I2.bare,zin I2.base kq (λx hx=>(nx x hx).1) (λx hx=>?_),zm I2.hok kq (λy hy=>(nx y hy).2) st.frf,(nx a OU).1,(nx T (OP _ OU)).1,g4,j1,j2,(nx a OU).2,(nx T (OP _ OU)).2,q⟩;have CV:=hx;unfold frs at CV;rw[QY] at CV
 rcases OZ.mp CV with z|z
 simp_all
 .exact .inl z
noncomputable def zir(I:L2.Inv (aZ (Y3 P w) P w K mg base N qual sc f YA A outer s0 H0 E) pins σ H s)
  (hf:∀b∈fp,eF (aZ (Y3 P w) P w K mg base N qual sc f YA A outer s0 H0 E) pins H b) (Ja:C=(s.heap.push oD).objs.size)
  (J:L2.Inv (cA (aZ (Y3 P w) P w K mg base N qual sc f YA A outer s0 H0 E) x scope C { s with heap:=s.heap.push oD } H (s.heap.objs.size::fp) N') ZD σ' H1 s1) (hq:Y3 P w (Qf qual sc s0.heap.objs.size f YA::outer) H1 s1 E v s2) :
  TK (Pi P w) (A.deeper (Qf qual sc s0.heap.objs.size f YA)) (U2 scope (cP (Qf qual sc s0.heap.objs.size f YA) scope.names []) C (Qf qual sc s0.heap.objs.size f YA))
   (λe s'=>W4 (Pi P w) (A.deeper (Qf qual sc s0.heap.objs.size f YA)) (aZ (Y3 P w) P w K mg base N qual sc f YA A outer s0 H0 E).xe use Q acc C (.error e) s') v s2:=by
 obtain⟨a,Cc,dx,T,H2,rfl,Ji,IV,HN,IT,ge,Dq,neT,xr,tb,fe,fT,q⟩:=hq;have J2:L2.Inv (cA (aZ (Y3 P w) P w K mg base N qual sc f YA A outer s0 H0 E) x scope C { s with heap:=s.heap.push oD } H (s.heap.objs.size::fp) N') ZD σ' H2 s2:=J.call' (ch:=[]) Ji HN IT IV (λb z=>absurd z (by simp));have I2:L2.Inv (aZ (Y3 P w) P w K mg base N qual sc f YA A outer s0 H0 E) pins σ H2 s2:=zim I hf Ja J2 (h':=s2.heap) ⟨rfl,λ_ _=>rfl⟩;have st:=I2.env0;have CF:s0.heap.objs.size<=s.heap.objs.size:=I.sz
 have JK:s.heap.objs.size<=C:=by simp_all
 have G2:C<s1.heap.objs.size:=J.lt;have szs:s0.heap.objs.size<=s2.heap.objs.size:=I2.sz;have JL:C<s2.heap.objs.size:=J2.lt;have hC2:H2 C=zc:=J2.free;have aC:a≠C:=RE (OY G2 ge);have TC:T≠C:=RE (OY G2 Dq)
 have fr2:∀b∈frs (Qf qual sc s0.heap.objs.size f YA::outer),H2 b=zc/\b<C:=λb hb=>by
  refine⟨st.frf b hb,?_⟩
  have h1:∃o,({ s with heap:=s.heap.push oD }:OJ).heap.get? b=vd o:=let ⟨_,o,h,_⟩:=J2.ok.funs.mem hb;⟨o,h⟩
  obtain⟨o,h1⟩:=h1;rw[Ja];exact OV h1
 show Pk (Pi P w) _ (Td (.ref a) (Qf qual sc s0.heap.objs.size f YA)) _ _ s2;refine rT (base:=base) (outer:=outer) (C:=Cc) (dx:=dx) (T:=T) st.frames st.funs rfl xr tb neT λh3 T3 g1 g2 g3 g4 g5=>?_;obtain⟨m,hn,_⟩:=J2.loc;have IZ:s2.heap.Ns C m:=hn;refine⟨m,IZ.at λo e=>g5.keep C o e (by simp[QP aC,QP TC]) λz=>PH _ (fr2 C z).2,λh' sb cenv hcl=>?_⟩;have T3C:T3≠C:=RE (OY JL g1)
 have JB:XR a Cc dx (.ref T3) h':=let ⟨t,e⟩:=g2;⟨t,(sb.2 a aC).trans e⟩
 have tb':TB T3 (T6 s0.heap.objs.size) h':=let ⟨oT,ts,e1,e2,e3⟩:=g3;⟨oT,ts,(sb.2 T3 T3C).trans e1,e2,e3⟩
 unfold PySem.passOn;obtain⟨t,he⟩:=id JB;refine ON (Q7 he rfl (x:=.ref T3) rfl ?_);rw[if_neg (show ¬((Pr T3 == QJ)=xV) from Ph)];refine ON (ziq JB tb' g4 λh4 fl' j1 j2 j3=>wpAny_throw ?_);have Hs:Kq [a,T3,T,C] (frs (Qf qual sc s0.heap.objs.size f YA::outer)) s2.heap h4:=(Kq.of g5 (ys:=[a,T3,T,C]) λx hx=>by simp at hx ⊢;rcases hx with z|z <;> simp[z]).trans ((Kq.same sb (by simp)).trans (Kq.any (fs:=[]) (Kq.of j3 λx hx=>by simp at hx;simp[hx])))
 have Fz:∀y∈[a,T3,T,C],s0.heap.objs.size<=y/\H2 y=zc:=λy hy=>by
  simp only[OZ,QO,or_false] at hy
  rcases hy with rfl|rfl|rfl|rfl
  .exact⟨OS CF (OS JK (OS (RY G2) ge)),fe⟩
  .exact⟨OS szs g1,IT.fresh g1⟩
  .exact⟨OS CF (OS JK (OS (RY G2) Dq)),fT⟩
  .exact⟨OS CF JK,hC2⟩
 have HK:=Hs.fun_ (base:=base) (l:=Qf qual sc s0.heap.objs.size f YA::outer) (λb hb z=>by
  have l:=(fr2 b hb).2;simp only[OZ,QO,or_false] at z
  rcases z with z|z|z|z
  .exact PH _ (Uy l (z ▸ OY G2 ge))
  .exact PH _ (Uy l (z ▸ OY JL g1))
  .exact PH _ (Uy l (z ▸ OY G2 Dq))
  .exact PH _ (z ▸ l)) st.funs
 show Pk (Pi P w) (A.deeper (Qf qual sc s0.heap.objs.size f YA)) (WQ (Qf qual sc s0.heap.objs.size f YA) (.ref a)) _ _ _;unfold WQ;refine ON (zio (base:=base) (outer:=outer) (L:=s0.heap.objs.size) st.frames HK rfl j1 j2 g4 (Ag (s2:=s2) I2 j1 j2 g4 Hs Fz q) λh5 T5 r1 r2 r3 r4 r5=>?_)
 exact(Ag (s2:=s2) (xs:=[T3,T,C]) I2 r2 r3 r4 ((Hs.more λx hx=>by simp at hx ⊢;rcases hx with z|z|z|z <;> simp[z]).trans (Kq.of r5 λx hx=>by simp at hx ⊢;rcases hx with z|z <;> simp[z])) (λy hy=>by
  simp only[OZ,QO,or_false] at hy
  rcases hy with z|z|z|z|z
  .exact Fz y (by simp[z])
  .exact⟨OS (RY (OV (HK.mem (b:=s0.heap.objs.size) (by rw[QY];exact OU)).2.choose_spec.1)) (z ▸ r1),z ▸ (zm I2.hok Hs (λy hy=>(Fz y hy).2) st.frf).fresh r1⟩
  .exact Fz y (by simp[z])
  .exact Fz y (by simp[z])
  .exact Fz y (by simp[z])) q)
end
end XO
namespace L2
abbrev kS(X:Cx)(x:Str)(scope:QA)(C:Addr)(s0:OJ)(H0:Hp)(ex:List Addr)(N':List Str)(E':OH->OJ->Prop):Cx:={ cA X x scope C s0 H0 ex N' with xe:=E' }
section
variable {X:Cx}{pins:List (Addr×Obj)}{σ:St}{H:Hp}{s:OJ}{x:Str}{scope:QA}{N':List Str}{P:Pb}{w:Pp}{K:Frag}{mg:Str->Option OH}{base:Heap}{N:List Str}{qual:Str}{sc:QA}{f:Addr}{YA:OH}{A:Pw}{outer:List Env}{sq:OJ}{Hq:Hp}{E:XK}{elt iter:Expr}{ifs:List Expr}{px pos:Pos}{wi:TI}{te:TE}{tt:TT}
theorem Inv.xe(I:Inv X pins σ H s):Inv { X with xe:=E' } pins σ H s:=by
 obtain⟨ok,a1,a2,a3,a4,a5,a6,a7,a8,a9,a10⟩:=I;obtain⟨b1,b2,b3,b4,b5,b6,b7,b8,b9,b10,b11,b12,b13,b14,b15,b16,b17,b18⟩:=ok;exact⟨⟨b1,b2,b3,b4,b5,b6,b7,b8,b9,b10,b11,b12,b13,b14,b15,b16,b17,b18⟩,a1,a2,a3,a4,a5,a6,a7,a8,a9,a10⟩
noncomputable def zis(hc:(aZ (XO.Y3 P w) P w K mg base N qual sc f YA A outer sq Hq E).calm=xV)(S:CS (aZ (XO.Y3 P w) P w K mg base N qual sc f YA A outer sq Hq E).env.scope (aZ (XO.Y3 P w) P w K mg base N qual sc f YA A outer sq Hq E).N x scope N')(hi:PI (aZ (XO.Y3 P w) P w K mg base N qual sc f YA A outer sq Hq E) (.Name x px) iter wi)(he:∀C s0 H0 ex E',eO (XO.Y3 P w) (kS (aZ (XO.Y3 P w) P w K mg base N qual sc f YA A outer sq Hq E) x scope C s0 H0 ex N' E') E->PE (kS (aZ (XO.Y3 P w) P w K mg base N qual sc f YA A outer sq Hq E) x scope C s0 H0 ex N' E') elt te)
  (ht:∀C s0 H0 ex E',Dy (kS (aZ (XO.Y3 P w) P w K mg base N qual sc f YA A outer sq Hq E) x scope C s0 H0 ex N' E') ifs tt) (hs:autoParam (∀v,PN iter (aZ (XO.Y3 P w) P w K mg base N qual sc f YA A outer sq Hq E).env v=pure v) u16):PE (aZ (XO.Y3 P w) P w K mg base N qual sc f YA A outer sq Hq E) (.ListComp elt [⟨.Name x px,iter,ifs,0⟩] scope pos) (tq wi tt te):=by
 intro pins s σ H Q I h;rw[eval_ListComp];refine R6 (use:=zc) rfl hs (qw (nK I S)) S.kind S.names (YF (hi pins s σ H _ I h) λv s1 h1=>YF h1 λitv s2 h2=>?_);obtain⟨it,fp,tn,J,H2,rfl,I2,T,G4,f2,W,⟨m0,w0⟩,turn⟩:=h2
 have ho:∀b∈fp,∃o,s2.heap.get? b=vd o:=λb hb=>let ⟨o,e,_⟩:=T.obj _ _ G4 b hb;⟨o,e⟩
 refine Qx (SY S.nocell (by simp) (λh' Lr ZR=>?_) S.kind);have I4:=qm (xs:=[x]) (scope:=scope) (tk:=s2.toks+([]:List (Str×OH)).length) I2 S f2 ho Lr ZR
 have Ej:∀b o,(s2.heap.push { cls:=.type "list",dict:=zc,data:=.seq ([]:List OH).toArray }).get? b=vd o->h'.get? b=vd o:=λb o e=>
  (ZR.2 b (Pl (OV e))).trans (OK _ e)
 have Fh:tn 0 h':=T.keep _ _ _ G4 λb _ o e=>Ej b o (OK _ e)
 have loop:=qu (elt:=elt) (iter:=iter) (ifs:=ifs) (pos:=pos) (R:=W4 _ (aZ (XO.Y3 P w) P w K mg base N qual sc f YA A outer sq Hq E).A (aZ (XO.Y3 P w) P w K mg base N qual sc f YA A outer sq Hq E).xe zc (EP (aZ (XO.Y3 P w) P w K mg base N qual sc f YA A outer sq Hq E) pins σ Q) (.ref s2.heap.objs.size) _) (σ':=σ)
  rfl (λ_ _ z=>z) hc S f2 ho rfl T I4.xe Fh (Ej _ _ (Pm _ rfl)) (I2.hok.fresh (Pc _)) (have l:=U3 (S.hx x OU);iG S.nd rfl (.inl l) (.inr l)) (he _ _ _ _ _ λZD σ' H' s' v D6 J' hq=>XO.zir (use:=zc) I2 f2 rfl J'.xe hq) (ht _ _ _ _ _) w0 turn λs5 H5 JC ys Yu n J5 d5 rv e5 hz dn=>by
   obtain⟨m,hn,_⟩:=J5.loc;exact⟨m,hn,λh'' sb=>⟨.ref s2.heap.objs.size,_,ql I2 f2 rfl J5.xe sb d5 ⟨Yu,n,rv,e5⟩ hz,rfl,dn _ d5⟩⟩
 exact Sw loop (T.self (aZ (XO.Y3 P w) P w K mg base N qual sc f YA A outer sq Hq E).A 0 _ _ _ Fh loop)
end
end L2
namespace XO
open L2 D
open XE (Kp forget cT d0 fK ZU vE Zl)
def lU:Ii X s (λ_ _ _=>False):=λ_ _ _ _ _ _ h=>h.elim
structure Da(P:Pb)(w:Pp)(K:Frag)(mg:Str->Option OH)(base:Heap)(name:Str)(ps:List Str)(k:Nat)(sp:Sp):Prop where
 ex:∃f fd,YJ P w K mg base (Y3 P w) k f fd ps sp/\Binds K fd ps []/\P5 K (.ref f)=xV/\mg name=vd (.ref f)
end XO
namespace XO
open L2 D
open XE (Kp forget cT d0 fK ZU vE Zl name_goes qk)
section
variable {X:Cx}{cs:Nat->Addr}
def Bw(X:Cx)(e:Addr):Cx:={ X with A:=X.A.mark (vd (.ref e)),calm:=zd,xe:=λ_ _=>False }
noncomputable def zit(ok:X.Ok):(Bw X e).Ok:=⟨ok.mod,ok.kind,ok.glob,ok.blt,ok.above,ok.inj,ok.has,ok.cab,λz=>(nomatch z),ok.frames,ok.stk,ok.exf,ok.bs,ok.bsz,ok.noex,ok.exfs,ok.funs,ok.frf⟩
noncomputable def x9(I:L2.Inv X pins σ H s):L2.Inv (Bw X e) pins σ H s:=⟨zit I.ok,I.os,I.bare,I.base,I.loc,I.cell,I.free,I.freeC,I.pin,I.hok,I.len⟩
noncomputable def nY(ok:X.Ok)(I:L2.Inv (Bw X e) pins σ H s):L2.Inv X pins σ H s:=⟨ok,I.os,I.bare,I.base,I.loc,I.cell,I.free,I.freeC,I.pin,I.hok,I.len⟩
end
end XO
namespace D
open L2
noncomputable def ziu(h:Z7 X body fb)(hx:∀v s,¬X.xe v s):DS X (.Try body (h0::hs) [] [] pos) fb:=
 ⟨λpins s σ H D I q=>Wp (Qe (h.pe pins s σ H D I q) (λfl s1 z=>match fl,z with
  |.next,z=>R9 z
  |.brk,z=>z
  |.cont,z=>z
  | .ret _,z=>z) λ_ _ z=>(hx _ _ z).elim)⟩
end D
namespace XO
open L2 D
open XE (ZU vE pF)
noncomputable def fnX{P:Pb}{w:Pp}{K:Frag}{mg:Str->Option OH}{base h:Heap}{name:Str}{st:Stmt}{ps:List Str}{k:Nat}{sp:Sp}(d:Df K name st)(X:K.In h)(G:h.Ns Pt mg)
  (hb:∀(kV doc pm:OH) (an:Option Addr) (YA ct:OH) (us:List OH),us.length=ps.length->QZ (PF name name (bX st) (bt st) (aK st) .none kV doc pm an YA ct) ⟨us,[]⟩=pure (ps.zip us))
  (ok:∀f fd,Gy K name name st f fd->YJ P w K mg base (Y3 P w) k f fd ps sp):Da P w K mg base name ps k sp:=by
 obtain⟨f,oc,od,an,sl,kV,dc,pm,cd,ct,a,l,c,kp⟩:=d.ex;have F:=jI  l c kp;exact⟨f,_,ok f _ F,F.binds hb,kp,P3 X G a⟩
end XO
namespace XO
open L2 D
open XE (forget cT d0 fK ZU vE Zl ZM tQ rP ck)
abbrev Zb:=Yy->Tp->Option (Int×Tp)
inductive Za(K:Frag)(C:Addr)(fl:Str)(E:XK)(g:Zb)(σ:L2.St)(H:Hp):Prop where
 |mk (O:Addr->Prop) (ts:List Addr) (ρ:Yy) (T:Tp) (n:Int) (T':Tp) (hc:HC K O ts H T) (re:Zj K O ts H σ ρ) (e:g ρ T=vd (n,T')) (q:∀dx H',YB ts H H'->HC K O ts H' T'->H' dx=vd (.xd [(fl,.int n)])->E (.ref C) (vd dx) H'):Za K C fl E g σ H
inductive Zp(K:Frag)(C:Addr)(fl:Str)(E:XK)(g:Zb)(σ:L2.St)(H:Hp):Prop where
 |mk (ze:Addr->Prop) (H₀:Hp) (F:List ((Addr->Prop)×Hp)) (ts:List Addr) (O:Addr->Prop) (ρ:Yy) (T:Tp) (n:Int) (T':Tp) (rs:RS K ze H₀ F ts O H σ ρ T) (e:g ρ T=vd (n,T')) (q:∀dx H',YB ts H₀ H'->HC K ze ts H' T'->H' dx=vd (.xd [(fl,.int n)])->E (.ref C) (vd dx) H'):Zp K C fl E g σ H
theorem Zp.e{K:Frag}{C:Addr}{fl:Str}{E:XK}{g:Zb}{σ:L2.St}{H:Hp}:Zp K C fl E g σ H->Za K C fl E g σ H
 |⟨ze,H₀,F,ts,O,ρ,T,n,T',rs,e,q⟩=>⟨O,ts,ρ,T,n,T',rs.hc,rs.re,e,λdx H' s hc hx=>q dx H' (rs.same.trans s) (rs.step s hc).frzH hx⟩
structure Km(X:Cx)(C:Addr)(fl:Str)(E:XK)(e:Expr)(g:Zb):Prop where
 pe:PE X e (λσ H _=>Za X.K C fl E g σ H)
structure IK(X:Cx)(C:Addr)(fl:Str)(E:XK)(es:List Expr)(g:Zb):Prop where
 pe:PA X es (λσ H _=>Za X.K C fl E g σ H)
structure Iy(X:Cx)(C:Addr)(fl:Str)(E:XK)(s:List Stmt)(g:Zb):Prop where
 pe:Ii X s (λ_ σ H=>Zp X.K C fl E g σ H)
structure Cv(P:Pb)(w:Pp)(K:Frag)(mg:Str->Option OH)(base:Heap)(C:Addr)(m:Str)(ps:List Str)(k:Nat)(sp:Sp):Prop where
 ex:∃f fd,YJ P w K mg base (Y3 P w) k f fd ps sp/\Binds K fd ps []/\Ec K C m f
def dq(f g:Zb):Zb:=λρ T=>match g ρ T with
 |some r=>vd r
 |none=>f ρ T
def f9(f:FE)(g:Zb):Zb:=λρ T=>Yz (f ρ T) λ_ T1=>g ρ T1
def df(f:FS)(g:Zb):Zb:=λρ T=>Yz (f ρ T) λp T1=>match (p:Fl×Yy) with
 |(.nx,YT)=>g YT T1
 |_=>zc
def iq(f:FT)(g:Zb):Zb:=λρ T=>Yz (f ρ T) λb T1=>if b=xV then g ρ T1 else zc
noncomputable def pJ(l:Int->Bool)(f:FE):Zb:=λρ T=>Yz (f ρ T) λw T1=>match w with
 |.d (.int n)=>if l n=xV then vd (n,T1) else zc
 |_=>zc
def cZ(m:List W->Tp->Option (Int×Tp))(g:FA):Zb:=λρ T=>Yz (g ρ T) λws T1=>if dB ws=xV then m ws T1 else zc
noncomputable def mP(C:Addr)(m:Str)(mm:List W->Tp->Option (Int×Tp))(g:FA)(ρ:Yy)(w:W)(T:Tp):Option (Int×Tp):=match w with
 | .tp n=>(match fw C T n with
  |some ps=>if (eQ m ps).isNone=xV then Yz (g ρ T) λws T2=>if dB ws=xV then mm (.tp n::ws) T2 else zc else zc
  | none=>zc)
 |_=>zc
def fq(C:Addr)(m:Str)(mm:List W->Tp->Option (Int×Tp))(fo:FE)(g:FA):Zb:=λρ T=>Yz (fo ρ T) (mP C m mm g ρ)
noncomputable def ia(f:FE)(g:Zb)(ρ:Yy):List OF->Tp->Option (Int×Tp)
 |[],_=>zc
 |d::r,T=>match Yz (f (vd (.d d)::ρ) T) λ_ T1=>ia f g ρ r T1 with
  |some z=>vd z
  |none=>g (vd (.d d)::ρ) T
def o9(it:FI)(f:FE)(g:Zb):Zb:=λρ T=>Yz (it ρ T) λds T1=>ia f g ρ ds T1
def ziv:PA X es (λ_ _ _=>False):=λ_ _ _ _ _ _ _ h=>h.elim
def B0(h:PA X es t)(i:∀σ H Q,t' σ H Q->t σ H Q):PA X es t':=λpos pins s σ H Q I q=>h pos pins s σ H Q I (i σ H Q q)
def Gc(h1:PE X e t)(h2:PE X e u):PE X e (λσ H Q=>t σ H Q\/u σ H Q):=λpins s σ H Q I q=>q.elim (h1 pins s σ H Q I) (h2 pins s σ H Q I)
noncomputable def ziw{K:Frag}{C:Addr}{fl:Str}{E:XK}{f g:Zb}{σ:L2.St}{H:Hp}(h:Za K C fl E (dq f g) σ H):Za K C fl E f σ H\/Za K C fl E g σ H:=by
 obtain⟨O,ts,ρ,T,n,T',hc,re,e,q⟩:=h;unfold dq at e;split at e
 .rename_i r e1
  cases e;exact .inr ⟨O,ts,ρ,T,n,T',hc,re,e1,q⟩
 .exact .inl ⟨O,ts,ρ,T,n,T',hc,re,e,q⟩
noncomputable def zix{K:Frag}{C:Addr}{fl:Str}{E:XK}{f g:Zb}{σ:L2.St}{H:Hp}(h:Zp K C fl E (dq f g) σ H):Zp K C fl E f σ H\/Zp K C fl E g σ H:=by
 obtain⟨ze,H₀,F,ts,O,ρ,T,n,T',rs,e,q⟩:=h;unfold dq at e;split at e
 .rename_i r e1
  cases e;exact .inr ⟨ze,H₀,F,ts,O,ρ,T,n,T',rs,e1,q⟩
 .exact .inl ⟨ze,H₀,F,ts,O,ρ,T,n,T',rs,e,q⟩
section
variable {X:Cx}{C:Addr}{fl:Str}{E:XK}{e a b:Expr}{es:List Expr}{f:FE}{g g':Zb}{pos p:Pos}
noncomputable def ziy(h1:Km X C fl E e g)(h2:Km X C fl E e g'):Km X C fl E e (dq g g'):=⟨λpins s σ H Q I h=>(ziw h).elim (h1.pe pins s σ H Q I) (h2.pe pins s σ H Q I)⟩
noncomputable def AZ{K:Frag}{σ:L2.St}{H:Hp}(h:Za K C fl E (f9 f g) σ H){Q:VK}(k:∀v H1,Za K C fl E g σ H1->Q v H1):lift K f σ H Q:=by
 obtain⟨O,ts,ρ,T,n,T',hc,re,e,q⟩:=h;obtain⟨w,T1,e1,e⟩:=aE e;exact⟨O,ts,ρ,T,w,T1,hc,re,e1,λv H1 s1 Yv r1=>k v H1 ⟨O,ts,ρ,T1,n,T',Yv,re.mono hc s1,e,λdx H' s' Il hx=>q dx H' (s1.trans s') Il hx⟩⟩
noncomputable def jL(h:Km X C fl E e g)(hs:autoParam (OM (e::es) X.env=(zd,eval e X.env)::OM es X.env) u12):IK X C fl E (e::es) g:=⟨B0 (br h.pe ziv hs) λ_ _ _ z=>z⟩
noncomputable def mE(h:DE X e f)(h2:IK X C fl E es g)(hs:autoParam (OM (e::es) X.env=(zd,eval e X.env)::OM es X.env) u12):IK X C fl E (e::es) (f9 f g):=⟨B0 (br h.pe h2.pe hs) λσ H Q z=>AZ z λ_ _ y=>y⟩
def oA{x1}(h:IK X C fl E es g):Km X C fl E (.Tuple es x1 pos) g:=⟨pe_imp (sL h.pe) λ_ _ _ z=>z⟩
noncomputable def wN(ho:Z4 X (Qq op) o)(ha:DE X a f)(hb:Km X C fl E b g):Km X C fl E (.BinOp a op b pos) (f9 f g):=by
 obtain⟨r,hr,_⟩:=ho;exact⟨pe_imp (mL hr ha.pe hb.pe) λσ H Q z=>AZ z λ_ _ y=>y⟩
noncomputable def uR{x:Str}{id:String}{gg:List OF->Option OF}(hc:eV X (.type id) gg)(hg:Gl X x)(hm:X.mg x=zc)(hv:Qy x=vd (.type id))(ha:IK X C fl E (e::es) g)(hn:autoParam (x≠"__name__") u11)(YU:autoParam ((x == ("__debug__" : Str))=zd) u11)
  (he:autoParam (OM (e::es) X.env=(zd,eval e X.env)::OM es X.env) u12) (Y1:autoParam ((PK pos (OM es X.env)).any (·.1)=zd) u13):Km X C fl E (.Call (.Name x p) (e::es) [] pos) g:=by
 obtain⟨r,hr,_⟩:=hc;exact⟨pe_imp (ztx hr hg hm hv ha.pe hn YU he Y1) λ_ _ _ z=>z⟩
noncomputable def ziz(F:Fn X.prog X.w X.K X.mg X.base name ps k sp)(hr:YD k X.A)(hg:Gl X name)(ha:IK X C fl E (e::es) g)(YU:autoParam ((name == ("__debug__" : Str))=zd) u11)
  (he:autoParam (OM (e::es) X.env=(zd,eval e X.env)::OM es X.env) u12) (Y1:autoParam ((PK pos (OM es X.env)).any (·.1)=zd) u13):Km X C fl E (.Call (.Name name p) (e::es) [] pos) g:=⟨pe_imp (kZ F hr hg ha.pe YU he Y1) λ_ _ _ z=>z⟩
noncomputable def gs{name:Str}{ps:List Str}{k:Nat}{m:List W->Tp->Option (Int×Tp)}{g:FA}(G:Da X.prog X.w X.K X.mg X.base name ps k (ck X.K ps.length C fl m))(hr:YD k X.A)(hg:Gl X name)(hp:eO (Y3 X.prog X.w) X E)(ha:DA X (e::es) g)(hl:eY g ps.length)(YU:autoParam ((name == ("__debug__" : Str))=zd) u11)
  (he:autoParam (OM (e::es) X.env=(zd,eval e X.env)::OM es X.env) u12) (Y1:autoParam ((PK pos (OM es X.env)).any (·.1)=zd) u13):Km X C fl E (.Call (.Name name p) (e::es) [] pos) (cZ m g):=by
 obtain⟨f,fd,F,hb,hk,hm⟩:=G.ex;refine⟨pe_imp (ztn F hr hg hm hk hb .nil hp ha.pe YU he Y1) λσ H Q h=>?_⟩;obtain⟨O,ts,ρ,T,n,T',hc,re,e,q⟩:=h;obtain⟨ws,T1,e1,e⟩:=aE e;split at e
 .rename_i hn
  refine⟨O,ts,ρ,T,ws,T1,hc,re,e1,λvs H1 s1 Yv r1=>?_⟩;rw[Qu];exact⟨O,ts,T1,ws,n,T',Yv,r1,hl _ _ _ _ e1,hn,e,λdx H' s2 YE hx=>q dx H' (s1.trans s2) YE hx⟩
 .cases e
noncomputable def vm{Cw:Addr}{m:Str}{ps:List Str}{lv:Nat}{mm:List W->Tp->Option (Int×Tp)}{fo:FE}{g:FA}(hl:eY g lv)(h1:ps.length=lv+1){σ:L2.St}{H:Hp}{Q:VK}(h:Za X.K C fl E (fq Cw m mm fo g) σ H):pA Cw m (ck X.K ps.length C fl mm) [] E (lift X.K fo) (mS X.K g) σ H Q:=by
 obtain⟨O,ts,ρ,T,x,T',hc,re,e,q⟩:=h;obtain⟨w1,T1,e1,e⟩:=aE e;refine⟨O,ts,ρ,T,w1,T1,hc,re,e1,λv1 H1 s1 Yv r1=>?_⟩
 cases w1 with
 |tp n=>
  unfold mP at e;dsimp only at e;split at e
  .rename_i qs o1
   split at e
   .rename_i hn
    obtain⟨ws,T2,e2,e⟩:=aE e;split at e
    .rename_i hnl
     obtain⟨a,k1,rfl⟩:=r1;obtain⟨dx,fs,fd,g1,g2,g3⟩:=Yv.obj k1 o1;subst g2
     have l0:fs.lookup m=zc:=by
      rcases g3.look  with⟨_,z⟩|⟨v,y',z1,z2,z3⟩
      .exact z
      .simp_all
     refine⟨a,dx,fs,rfl,g1,l0,O,ts,ρ,T1,ws,T2,Yv,re.mono hc s1,e2,λvs H2 s2 YE r2=>?_⟩;refine⟨O,ts,T2,.tp n::ws,x,_,YE,?_,by rw[h1,Po,hl _ _ _ _ e2],hnl,e,λdx H3 s3 Zf r3=>q dx H3 (s1.trans (s2.trans s3)) Zf r3⟩;rw[Qu];exact .cons ⟨a,k1,rfl⟩ r2
    .cases e
   .cases e
  .cases e
 |d x=>cases e
 |loc x=>cases e
noncomputable def ku{Cw:Addr}{o:Expr}{m:Str}{ps:List Str}{k lv:Nat}{mm:List W->Tp->Option (Int×Tp)}{fo:FE}{g:FA}{apos:Pos}{pl:Sem Bool}(F:Cv X.prog X.w X.K X.mg X.base Cw m ps k (ck X.K ps.length C fl mm))(c:Iw X.K Cw)(hr:YD k X.A)(hp:eO (Y3 X.prog X.w) X E)(ho:DE X o fo)(ha:DA X (e::es) g)(hl:eY g lv)(h1:autoParam (ps.length=lv+1) u10)
  (he:autoParam (OM (e::es) X.env=(zd,eval e X.env)::OM es X.env) u12) (Y1:autoParam ((PK pos (OM es X.env)).any (·.1)=zd) u13)
  (ht:autoParam (eval (.Call (.Attribute o m apos) (e::es) [] pos) X.env=(do
   let ov ←eval o X.env
   SO apos.atName
   let (f,first) ←RR [ov] (RO ov m pl)
   Ub pos f first (PK pos (OM (e::es) X.env)) (QS pos (Qb [] X.env)))) u10):Km X C fl E (.Call (.Attribute o m apos) (e::es) [] pos) (fq Cw m mm fo g):=by
 obtain⟨f,fd,F1,F2,F3⟩:=F.ex;exact⟨pe_imp (zto ho.pe c F3 F1 hr F2 .nil hp ha.pe he Y1 ht) λσ H Q h=>vm hl h1 h⟩
noncomputable def zja(F:Cv X.prog X.w X.K X.mg X.base Cw m ps k (ck X.K ps.length C fl mm))(c:Iw X.K Cw)(hr:YD k X.A)(hp:eO (Y3 X.prog X.w) X E)(ho:DE X o fo)(h1:autoParam (ps.length=1) u10)
  (ht:autoParam (eval (.Call (.Attribute o m apos) [] [] pos) X.env=(do
   let ov ←eval o X.env
   SO apos.atName
   let (f,first) ←RR [ov] (RO ov m pl)
   Ub pos f first (PK pos (OM [] X.env)) (QS pos (Qb [] X.env)))) u10):Km X C fl E (.Call (.Attribute o m apos) [] [] pos) (fq Cw m mm fo ah):=by
 obtain⟨f,fd,F1,F2,F3⟩:=F.ex;refine⟨pe_imp (ztp ho.pe c F3 F1 hr F2 .nil hp ht) λσ H Q h=>?_⟩;obtain⟨O,ts,ρ,T,w,T',hc,re,e,q⟩:=vm   (Q:=Q) bp h1 h;refine⟨O,ts,ρ,T,w,T',hc,re,e,λv H1 s1 Yv r1=>?_⟩;obtain⟨a,dx,fs,ea,e1,e2,O2,ts2,B5,T2,ws,T3,YE,JS,e3,q2⟩:=q v H1 s1 Yv r1;cases e3;exact⟨a,dx,fs,ea,e1,e2,q2 [] H1 (.refl _ _) YE .nil⟩
noncomputable def iO(h1:Iy X C fl E CA g)(h2:Iy X C fl E CA g'):Iy X C fl E CA (dq g g'):=⟨λpins s σ H D I h=>(zix h).elim (h1.pe pins s σ H D I) (h2.pe pins s σ H D I)⟩
noncomputable def dQ{st:Stmt}{CA:List Stmt}{f:FS}(h1:DS X st f)(h2:Iy X C fl E CA g):Iy X C fl E (st::CA) (df f g):=by
 refine⟨fO (dh h1.pe h2.pe) λD σ H h=>?_⟩;obtain⟨ze,H₀,F,ts,O,ρ,T,c,T',rs,e,q⟩:=h;obtain⟨⟨fl,YT⟩,T1,e1,e⟩:=aE e
 cases fl with
 |nx=>exact⟨ze,H₀,F,ts,O,ρ,T,.nx,YT,T1,rs,e1,λO' σ' H' B3=>⟨ze,H₀,F,ts,O',YT,T1,c,T',B3,e,q⟩⟩
 |_=>cases e
def jx(h:Km X C fl E e g):Iy X C fl E (.Return (vd e) pos::CA) g:=⟨fO (dh (mz h.pe) lU) λ_ _ _ z=>z.e⟩
noncomputable def jr(h:Km X C fl E e g)(hs:autoParam (P4 e zc pos.line X.env=pure zd) u10):Iy X C fl E (.Expr e pos::CA) g:=⟨fO (dh (mi h.pe hs) lU) λ_ _ _ z=>z.e⟩
noncomputable def yl{i:Nat}{x:Str}{pos':Pos}{CA:List Stmt}(hN:X.N.Nodup)(h:Km X C fl E e g)(hi:autoParam (X.N[i]? = vd x) u10)(hx:autoParam (Loc X.env.scope x) u18)
  (hs:autoParam (P4 e (vd (.Name x pos')) pos.line X.env=pure zd) u10) (hf:autoParam (X.fn x=xV\/X.env.scope.names.lookup x=vd .local) u15):Iy X C fl E (.Assign [.Name x pos'] e pos::CA) g:=⟨fO (dh (gB hN hi hx h.pe hs hf) lU) λ_ _ _ z=>z.e⟩
noncomputable def zjb{K:Frag}{ft:FT}{σ:L2.St}{H:Hp}(h:Zp K C fl E (iq ft g) σ H){Q:Bool->Hp->Prop}(k:∀H1,Zp K C fl E g σ H1->Q xV H1):liftT K ft σ H Q:=by
 obtain⟨ze,H₀,F,ts,O,ρ,T,n,T',rs,e,q⟩:=h;obtain⟨b,T1,e1,e⟩:=aE e
 cases b with
 |false=>cases e
 |true=>exact⟨O,ts,ρ,T,xV,T1,rs.hc,rs.re,e1,λH1 s1 Yv=>k H1 ⟨ze,H₀,F,ts,O,ρ,T1,n,T',rs.step s1 Yv,e,q⟩⟩
noncomputable def kN{ft:FT}{st CA:List Stmt}(ht:DT X e ft)(h:Iy X C fl E st g):Iy X C fl E (.If e st [] pos::CA) (iq ft g):=⟨fO (dh (tw ht.pe h.pe rO) lU) λ_ _ _ z=>zjb z λ_ y=>gU y⟩
end
end XO
namespace XO
open L2 D
open XE (forget cT d0 fK ZU vE Zl ZM tQ rP ck)
section
variable {P:Pb}{w:Pp}{K:Frag}{mg:Str->Option OH}{base:Heap}{N:List Str}{qual:Str}{sc:QA}{f:Addr}{YA:OH}{A:Pw}{outer:List Env}{s0:OJ}{H0:Hp}{E:XK}{C R:Addr}{fl:Str}
noncomputable def vJ(G:ZM Pn P w K mg base C R fl k)(hP:∀n,l n=xV->Pn (.int n))(hr:YD (k+1) (A.deeper (Qf qual sc s0.heap.objs.size f YA)))(hm:mg cn=vd (.ref C))
  (he:DE (aZ (Y3 P w) P w K mg base N qual sc f YA A outer s0 H0 E) e fe) (hg:autoParam (Gl (aZ (Y3 P w) P w K mg base N qual sc f YA A outer s0 H0 E) cn) u10) (YU:autoParam ((cn == ("__debug__" : Str))=zd) u11)
  (hs:autoParam (OM [e] (Qf qual sc s0.heap.objs.size f YA)=[(zd,eval e (Qf qual sc s0.heap.objs.size f YA))]) u10) :
  Iy (aZ (Y3 P w) P w K mg base N qual sc f YA A outer s0 H0 E) C fl E (.Raise (vd (.Call (.Name cn p) [e] [] cpos)) zc pos::CA) (pJ l fe):=by
 refine⟨fO (dh (zil G.c (rP G hr hg hm he.pe YU hs)) lU) λD σ H h=>?_⟩;obtain⟨ze,H₀,F,ts,O,ρ,T,n,T',rs,e,q⟩:=h;obtain⟨w1,T1,e1,e⟩:=aE e;split at e
 .rename_i n'
  split at e
  .rename_i hl
   cases e;refine⟨O,ts,ρ,T,_,_,rs.hc,rs.re,e1,λv H1 s1 Yv r1=>?_⟩;cases (show Rep K O H1 v (.int n) from r1);have Y6:=rs.step s1 Yv;refine⟨hP n hl,λa dx ge ha hd ne=>⟨a,vd dx,rfl,ge,bg,?_⟩⟩;rw[fK (by rw[aJ ne.symm];exact ha)];exact q dx _ (Y6.same.trans (.new hd _)) (Y6.frzH.new hd _) bg
  .cases e
 .cases e
noncomputable def wM(S:CS sc N x scope N')(hi:DI (aZ (Y3 P w) P w K mg base N qual sc f YA A outer s0 H0 E) (.Name x px) iter it)
  (he:∀Cq sq Hq ex E',DE (kS (aZ (Y3 P w) P w K mg base N qual sc f YA A outer s0 H0 E) x scope Cq sq Hq ex N' E') elt ff)
  (hx:∀Cq sq Hq ex E',eO (Y3 P w) (kS (aZ (Y3 P w) P w K mg base N qual sc f YA A outer s0 H0 E) x scope Cq sq Hq ex N' E') E->Km (kS (aZ (Y3 P w) P w K mg base N qual sc f YA A outer s0 H0 E) x scope Cq sq Hq ex N' E') C fl E elt g)
  (hf:autoParam (∀v,PN iter (Qf qual sc s0.heap.objs.size f YA) v=pure v) u16):Km (aZ (Y3 P w) P w K mg base N qual sc f YA A outer s0 H0 E) C fl E (.ListComp elt [⟨.Name x px,iter,[],0⟩] scope pos) (o9 it ff g):=by
 refine⟨pe_imp (zis (wi:=Ad K it) (tt:=λ_ H Q=>Q xV H) (te:=λσ H Q=>lift K ff σ H Q\/Za K C fl E g σ H) rfl S hi.pe (λCq sq Hq ex E' hp=>Gc (he Cq sq Hq ex E').pe (hx Cq sq Hq ex E' hp).pe) (λCq sq Hq ex E'=>xO) hf) λσ H Q h=>?_⟩;obtain⟨O,ts,ρ,T,n,T',hc,re,e,q⟩:=h;obtain⟨ds,T1,e1,e⟩:=aE e;refine⟨O,ts,ρ,T,ds,T1,hc,re,e1,λJ H1 s1 Yv ok hz=>?_⟩;refine⟨λi m vs H'=>m=ds.length-i/\i<=ds.length/\vs.length<=i/\∃T,YB ts H1 H'/\HC K O ts H' T/\ia ff g ρ (ds.drop i) T=vd (n,T'),⟨_,rfl,Ri _,Pc _,T1,.refl _ _,Yv,e⟩,Fk.n ?_⟩;rintro i m vs H' ⟨rfl,Kj,hv,T2,s2,YE,ec⟩;obtain⟨k1,k2,k3⟩:=ok O H' (Yv.le s2)
 by_cases Z2:i<ds.length
 .refine .inr ⟨k1 i Z2,by lia,λGI H2=>i+1<=ds.length/\GI.length<=i+1/\∃T,YB ts H1 H2/\HC K O ts H2 T/\ia ff g ρ (ds.drop (i+1)) T=vd (n,T'),λGI H2 nn=>⟨ds.length-(i+1),by lia,rfl,nn⟩,λv H2 y=>?_⟩
  obtain⟨e2,d,hd,rd⟩:=k3 i v H2 y Z2;subst e2
  have BD:ds.drop i=d::ds.drop (i+1):=by
   rw[Qc Z2];have:=(OL.mp hd).2;rw[this]
  rw[BD] at ec;have JS:=((re.mono hc s1).mono Yv s2).cons rd;refine gU ?_;unfold ia at ec;split at ec
  .rename_i z ez
   cases ec;obtain⟨w1,T3,e3,ec⟩:=aE ez;exact .inl ⟨O,ts,_,T2,w1,T3,YE,JS,e3,λu H3 s3 Zf r3=>⟨Z2,by simp_all,T3,s2.trans s3,Zf,ec⟩⟩
  .exact .inr ⟨O,ts,_,T2,n,T',YE,JS,ec,λdx H3 s3 Zf hx3=>q dx H3 (s1.trans (s2.trans s3)) Zf hx3⟩
 .have en:i=ds.length:=by lia
  rw[en,PR (Pc _)] at ec;cases ec
end
def dW(N:Nat)(m:Zb):List W->Tp->Option (Int×Tp):=λws T=>m (ws.map vd++OQ (N-ws.length) zc) T
noncomputable def A7{P:Pb}{w:Pp}{K:Frag}{mg:Str->Option OH}{base:Heap}{x qual:Str}{st:Stmt}{f:Addr}{fd:Qm}{N ps:List Str}{k:Nat}{m:Zb}{C:Addr}{fl:Str}(F:Gy K x qual st f fd)(S:YK N ps (aK st))
  (YO:∀(YA:OH) (A:Pw) (outer:List Env) (s:OJ) (H:Hp) (E:XK),YD k (A.deeper (Qf qual (aK st) s.heap.objs.size f YA))->Iy (aZ (Y3 P w) P w K mg base N qual (aK st) f YA A outer s H E) C fl E (bt st) m) :
  YJ P w K mg base (Y3 P w) (k+1) f fd ps (ck K ps.length C fl (dW N.length m)):=by
 obtain⟨oc,od,kV,doc,pm,an,YA,ct,osl,rfl,lk,hcd⟩:=F.ex;refine ztw lk hcd S (λvs H Q E h=>?_) λA outer s H vs Q E hr h=>⟨_,(YO YA A _ s H E hr).pe,?_⟩
 .obtain⟨O,ts,T,ws,c,T',hc,Zc,hl,_⟩:=h
  exact(QH Zc).trans hl
 .obtain⟨O,ts,T,ws,c,T',hc,Zc,hl,hn,e,q⟩:=h
  exact⟨O,H,[],ts,O,_,T,c,T',XE.qX hc Zc hn,e,q⟩
noncomputable def zjc{P:Pb}{w:Pp}{K:Frag}{mg:Str->Option OH}{base:Heap}{C:Addr}{name qual:Str}{st:Stmt}{ps:List Str}{k:Nat}{sp:Sp}(d:Kk K C name qual st)
  (hb:∀(kV doc pm:OH) (an:Option Addr) (YA ct:OH) (us:List OH),us.length=ps.length->QZ (PF name qual (bX st) (bt st) (aK st) .none kV doc pm an YA ct) ⟨us,[]⟩=pure (ps.zip us))
  (ok:∀f fd,Gy K name qual st f fd->YJ P w K mg base (Y3 P w) k f fd ps sp):Cv P w K mg base C name ps k sp:=by
 obtain⟨f,oc,od,an,sl,kV,dc,pm,cd,ct,a,l,c,kp,fn⟩:=d.ex;have F:=jI  l c kp;exact⟨f,_,ok f _ F,F.binds hb,⟨a,fn,kp⟩⟩
end XO
namespace XO
open L2 D
open XE (Kp forget cT d0 fK ZU vE Zl ck name_goes qk)
noncomputable def oV(o:Option (Int×Tp)):Option (Int×Tp):=match o with
 | some (n,T3)=>(match jQ T3 with
  |some (T4,_)=>vd (n,T4)
  | none=>zc)
 |none=>zc
noncomputable def qa(i:Nat)(C:Addr)(m:YG)(fr:Zb)(ρ:Yy)(w:W)(T1:Tp):Option (Int×Tp):=match w with
 | .d x0=>(match m [.tp T1.length,.d x0] (T1++[[bW C]]) with
  |some (.none,T2)=>oV (fr (ρ.set i (vd (.tp T1.length))) T2)
  | _=>zc)
 |_=>zc
def jJ(i:Nat)(C:Addr)(m:YG)(fe:FE)(fr:Zb):Zb:=λρ T=>if jD ρ=xV then Yz (fe ρ T) (qa i C m fr ρ) else zc
section
variable {X:L2.Cx}{Cx:Addr}{fl:Str}{E:XK}{C f:Addr}{e:Expr}{fe:FE}{fr:Zb}{rest:List Stmt}{cn x:Str}{p pos pos' cpos:Pos}{ps:List Str}{k i:Nat}{m:YG}{fd:Qm}
noncomputable def zjd(M:Mk X.K C f)(Fi:YJ X.prog X.w X.K X.mg X.base ZA k f fd ps (Zq X.K ps.length m))(hb:Binds X.K fd ps [])(hr:YD (k+1) X.A)(hg:Gl X cn)(hm:X.mg cn=vd (.ref C))(hN:X.N.Nodup)(he:DE X e fe)(ZK:Iy X Cx fl E rest fr)
  (h2:autoParam (ps.length=2) u10) (hi:autoParam (X.N[i]? = vd x) u10) (hx:autoParam (Loc X.env.scope x) u18) (YU:autoParam ((cn == ("__debug__" : Str))=zd) u11)
  (Zy:autoParam (OM [e] X.env=(zd,eval e X.env)::OM [] X.env) u12) (Y1:autoParam ((PK cpos (OM [] X.env)).any (·.1)=zd) u13)
  (hs:autoParam (P4 (.Call (.Name cn p) [e] [] cpos) (vd (.Name x pos')) pos.line X.env=pure zd) u10) (hf:autoParam (X.fn x=xV\/X.env.scope.names.lookup x=vd .local) u15) :
  Iy X Cx fl E (.Assign [.Name x pos'] (.Call (.Name cn p) [e] [] cpos) pos::rest) (jJ i C m fe fr):=by
 refine⟨?_⟩;refine fO (dh (gB hN hi hx (ztq M Fi hr hg hm hb .nil mM (br he.pe cu Zy) YU Zy Y1) hs hf) ZK.pe) λD σ H=>?_;rintro⟨ze,H₀,F,ts,O,ρ,T,n0,T',rs,e,q⟩;unfold jJ at e;split at e
 .rename_i hp
  obtain⟨w,T1,e1,e⟩:=aE e;obtain⟨c0,IB⟩:=rs.frz (uI hp);rw[nJ hp] at IB;refine⟨ze,ts,ρ,T,w,T1,c0,IB,e1,λv1 H1 s1 Yv r1=>?_⟩
  cases w with
  |tp j=>cases e
  |loc y=>cases e
  |d x0=>
   unfold qa at e;dsimp only at e;split at e
   .rename_i T2 em
    intro px dx Gz EH Ib;have D4:=IB.mono c0 s1;have nO:=Yv.fresh Gz;have DQ:=Yv.fresh EH;have nt:px∉ts:=λz=>nO (Yv.own _ z)
    have U:∀b,b≠px->b≠dx->upd (upd H1 dx (.own px)) px (.ins C dx []) b=H1 b:=λb n1 n2=>by rw[aJ n1,aJ n2]
    have le:Le ze H1 (λb=>ze b\/b=px) (upd (upd H1 dx (.own px)) px (.ins C dx [])):=λa o n e=>by
     have z1:a≠px:=bx e Gz;have z2:a≠dx:=bx e EH;exact⟨λq=>q.elim n z1,by rw[U a z1 z2];exact e⟩
    have EA:HC X.K (λb=>ze b\/b=px) (ts++[px]) (upd (upd H1 dx (.own px)) px (.ins C dx [])) (T1++[[bW C]]):=by
     refine⟨λb hb=>?_,λb hb=>?_,?_,by simp[Yv.len],λj b zs q1 q2=>?_⟩
     .rcases Pq.mp hb with z|z
      .exact .inl (Yv.own b z)
      .exact .inr (Pj.mp z)
     .by_cases z:b=px
      .rw[z,bg];exact .inr (.inr ⟨_,_,_,rfl⟩)
      .have Bg:=hb.resolve_right z
       have z2:b≠dx:=λz2=>DQ (z2 ▸ Bg);rw[U b z z2];exact Yv.trk b Bg
     .rw[Rj]
      exact⟨Yv.nd,by simp,λb hb c hc z=>nt (by rw[←Pj.mp hc,←z];exact hb)⟩
     .by_cases hj:j<ts.length
      .rw[Pa hj] at q1
       rw[Pa (by rw[←Yv.len];exact hj)] at q2;exact(Yv.tape j b zs q1 q2).mono (λo h1=>by rw[U b (bx h1 Gz) (bx h1 EH)];exact h1) le
      .have E7:j=ts.length:=by
        have:=(OL.mp q1).1;simp at this;omega
       subst E7
       have e1:b=px:=by simpa using q1.symm
       have e2:zs=[bW C]:=by rw[Yv.len] at q2;simpa using q2.symm
       subst e1 e2;exact .inr ⟨C,dx,[],[],bg,rfl,.nil⟩
    refine⟨λb=>ze b\/b=px,ts++[px],T1++[[bW C]],[.tp T1.length,.d x0],.none,T2,EA,.cons ⟨px,by rw[←Yv.len];simp,rfl⟩ (.cons (Rep.mono le r1) .nil),by rw[h2];rfl,em,λv H2 s2 YE r2=>?_⟩;cases r2;refine⟨rfl,?_⟩
    have dxn:dx∉ts++[px]:=λz=>by
     rcases Pq.mp z with z|z
     .exact DQ (Yv.own _ z)
     .exact Ib (Pj.mp z)
    have BP:Le ze H1 (λb=>ze b\/b=px) H2:=le.trans (EA.le s2);generalize hE:fr (ρ.set i (vd (.tp T1.length))) T2=Er at e;unfold oV at e;split at e
    .rename_i n1 T3
     split at e
     .rename_i T4 row hT
      have eT:=rf hT;subst eT;cases e;refine⟨λb=>ze b\/b=px,H2,[],ts++[px],λb=>ze b\/b=px,_,T2,_,_,⟨YE,λj u ej=>?_,λ_ h=>h,YE.own,.refl _ _,λj xs a ej _=>?_,λj l xs ys v' ej _ _ _=>?_,λf hf=>absurd hf (by simp),by simp[rs.len]⟩,hE,?_⟩
      .by_cases z:i=j
       .subst z
        have hl:i<ρ.length:=by
         have:=(OL.mp ej).1;simpa using this
        rw[OX hl] at ej;cases ej;exact⟨.ref px,by rw[OX (by rw[rs.len];exact hl)],px,by rw[←Yv.len];simp,rfl⟩
       .rw[OR z] at ej
        obtain⟨y',rfl⟩:=g9 hp ej;obtain⟨x',k1,k2⟩:=D4 j _ ej;exact⟨x',by rw[OR z];exact k1,Rep.mono BP k2⟩
      .exfalso
       obtain⟨_,ej⟩:=eK (w:=.tp T1.length) (λ_ z=>by cases z) ej;obtain⟨_,z⟩:=g9 hp ej;cases z
      .exfalso
       obtain⟨_,ej⟩:=eK (w:=.tp T1.length) (λ_ z=>by cases z) ej;obtain⟨_,z⟩:=g9 hp ej;cases z
      .intro dx' H3 s3 Zf r3
       have lb:Le (λb=>ze b\/b=px) H3 ze H3:=λa o n e=>⟨λz=>n (.inl z),e⟩
       have Ea:ts.length=T'.length:=by have:=Zf.len;simp at this;exact this
       refine q dx' H3 (λb o n eb=>?_) ⟨rs.ots,λb hb=>Zf.trk b (.inl hb),rs.hc.nd,Ea,λj b zs q1 q2=>?_⟩ r3
       .have E5:=s1 b o n (rs.same b o n eb)
        have z1:b≠px:=bx E5 Gz;have z2:b≠dx:=bx E5 EH
        have nb:b∉ts++[px]:=λz=>by
         rcases Pq.mp z with z|z
         .exact n z
         .exact z1 (Pj.mp z)
        exact s3 b o nb (s2 b o nb (by rw[U b z1 z2];exact E5))
       .have hj:j<ts.length:=(OL.mp q1).1
        exact(Zf.tape j b zs (by rw[Pa hj];exact q1) (by rw[Pa (by rw[←Ea];exact hj)];exact q2)).mono (λ_ h=>h) lb
     .cases e
    .cases e
   .cases e
 .cases e
noncomputable def zje(G:Hd X.prog X.w X.K X.mg X.base C ps k (Zq X.K ps.length m))(hr:YD (k+1) X.A)(hg:Gl X cn)(hm:X.mg cn=vd (.ref C))(hN:X.N.Nodup)(he:DE X e fe)(ZK:Iy X Cx fl E rest fr)
  (h2:autoParam (ps.length=2) u10) (hi:autoParam (X.N[i]? = vd x) u10) (hx:autoParam (Loc X.env.scope x) u18) (YU:autoParam ((cn == ("__debug__" : Str))=zd) u11)
  (Zy:autoParam (OM [e] X.env=(zd,eval e X.env)::OM [] X.env) u12) (Y1:autoParam ((PK cpos (OM [] X.env)).any (·.1)=zd) u13)
  (hs:autoParam (P4 (.Call (.Name cn p) [e] [] cpos) (vd (.Name x pos')) pos.line X.env=pure zd) u10) (hf:autoParam (X.fn x=xV\/X.env.scope.names.lookup x=vd .local) u15) :
  Iy X Cx fl E (.Assign [.Name x pos'] (.Call (.Name cn p) [e] [] cpos) pos::rest) (jJ i C m fe fr):=by
 obtain⟨f,fd,F1,F2,M⟩:=G.ex;exact zjd M F1 F2 hr hg hm hN he ZK h2 hi hx YU Zy Y1 hs hf
inductive Ck(K:Frag)(C:Addr)(fl:Str)(E:XK)(f:Zb)(σ:L2.St)(H:Hp):Prop where
 |mk (ze:Addr->Prop) (H₀:Hp) (F:List ((Addr->Prop)×Hp)) (ts:List Addr) (O:Addr->Prop) (ρ:Yy) (T:Tp) (c:Int) (T':Tp) (rs:RS K ze H₀ F ts O H σ ρ T) (e:f ρ T=vd (c,T')) (q:∀dx H',RS K ze H₀ F ts O H' σ ρ T'->H' dx=vd (.xd [(fl,.int c)])->E (.ref C) (vd dx) H'):Ck K C fl E f σ H
structure DFI(X:L2.Cx)(C:Addr)(fl:Str)(body:List Stmt)(f:Zb):Prop where
 pe:∀(pins:List (Addr×Obj)) (s:OJ) (σ:L2.St) (H:Hp) (Eh:XK),L2.Inv X pins σ H s->Ck X.K C fl Eh f σ H->Pk (Pi X.prog X.w) X.A (execs body X.env) (λ_ _=>False) (λv s'=>∃H1 s1,L2.Inv X pins σ H1 s1/\Y3 X.prog X.w X.stack H1 s1 Eh v s') s
end
end XO
namespace XO
open L2 D
open XE (Kp forget cT d0 fK ZU vE Zl ck)
section
variable {X:L2.Cx}{C:Addr}{fl:Str}
noncomputable def zjf(hl:eY g n)(h:Ck X.K C fl E (cZ m g) σ H):tu (ck X.K n C fl m) [] E (mS X.K g) σ H Q:=by
 obtain⟨ze,H₀,F,ts,O,ρ,T,c,T',rs,e,q⟩:=h;obtain⟨ws,T1,e1,e⟩:=aE e;split at e
 .rename_i hn
  refine⟨O,ts,ρ,T,ws,T1,rs.hc,rs.re,e1,λvs H1 s1 Yv r1=>?_⟩;rw[Qu];exact⟨O,ts,T1,ws,c,T',Yv,r1,hl _ _ _ _ e1,hn,e,λdx H' s2 YE hx=>q dx H' ((rs.step s1 Yv).step s2 YE) hx⟩
 .cases e
end
end XO
namespace XE
open L2 D
structure EO(K:Frag)(C A:Addr):Prop where
 no:Qr K (.ref C) (.ref A)=vd zd
noncomputable def IG{K:Frag}{C A:Addr}(h1:UO K A=xV)(h2:U0 K (.ref A)=vd (.type "type"))(h3:TY K (.ref C) (.ref A)=vd zd)(h4:(Pr C == Pr A)=zd):EO K C A:=⟨zhq h1 h2 h3 h4⟩
noncomputable def Hw{K:Frag}{C R:Addr}{f:Str}{nm q nm' q':Str}{N N':Addr}{bs bs' sub Fu:List OH}{sn GE:List Str}{ab ab':Bool}{col HJ:Option Bool}{dd Gu:Option Addr}{k0 k1 k2 k3 k5 j0 j1 j2 j3 j5:Option OH}{oN oN':Obj}
  (lC:K.lookup C=vd (Wy nm q C N bs (.ref R::vE) xV sn sub ab col dd k0 k1 k2 k3 k5 "ValueError.__new__")) (nC:K.lookup N=vd oN)
  (lR:K.lookup R=vd (Wy nm' q' R N' bs' vE xV GE Fu ab' HJ Gu j0 j1 j2 j3 j5 "ValueError.__new__")) (nR:K.lookup N'=vd oN') (ri:PL K N' "__init__"=vd zc) (kp:P5 K (.ref C)=xV)
  (bm:Q6 K C (.type "BaseException")=vd xV) (gt:Pe K (.ref C) "__getattr__"=vd zc) (ga:Pe K (.ref C) "__getattribute__"=vd (vd (.builtin "BaseException.__getattribute__")))
  (ca:Pe K (.ref C) "__class__"=vd (vd (.builtin "object.__class__"))) (hn:Sq K (.builtin "object.__class__") "__get__"=vd (vd (.builtin "getset_descriptor.__get__")))
  (tk:S2 K (.builtin "object.__class__")=vd xV) (hm:Q6 K C (.type "object")=vd xV) (nn:Pe K (.ref C) f=vd zc) (sa:Pe K (.ref C) "__setattr__"=vd (vd (.builtin "object.__setattr__")))
  (rd:Sb K R (.type "type")=xV) (fc:S6 K (.ref R) (.type "type") "__init__"=vd (.val (.builtin "ValueError.__init__"))) (kV:TY K (.ref C) (.type "ValueError")=vd xV)
  (oC:pF oN=xV) (oR:pF oN'=xV):XB K C R f []:=by
 have cl:R8 K C=vd { name:=nm,bases:=bs,mro:=.ref C::.ref R::vE,ns:=N,qualname:=q,hasDict:=xV,slotNames:=sn,subclasses:=sub,abstract:=ab,collection:=col,hasDel:=zd }:=by
  unfold R8;rw[lC]
 have no:∀{N:Addr}{o:Obj},K.lookup N=vd o->pF o=xV->U7 K N=xV:=λ{N o} h1 h2=>by
  obtain⟨oc,od,dt,sl⟩:=o;unfold U7;rw[h1]
  cases dt with
  |dict es ep=>
   have h3:(es.toList.all λe=>match e.key with
    |.str _ _=>xV
    | _=>zd)=xV:=h2
   rw[Array.all_toList] at h3<;>omega
  |_=>cases h2
 refine⟨⟨_,_,_,_,_,_,_,_,_,_,_,_,_,_,lC,no nC oC⟩,⟨_,_,_,_,_,_,_,_,_,_,_,_,_,_,lR,no nR oR⟩,?_,kp,⟨bm,gt,ga,by simp_all,ca,hn,tk,hm⟩,?_,nn,sa,rd,fc,?_,zhr kV,rfl⟩
 .simp only[RQ]<;>simp_all
 .unfold QK<;>simp_all
 .unfold Qr<;>simp_all
end XE
namespace XO
open L2 D
noncomputable def zjg{P:Pb}{w:Pp}{K:Frag}{mg:Str->Option OH}{base:Heap}{k n:Nat}{f:Addr}{fd:Qm}{ps:List Str}{c:Addr}{fl:Str}:YJ P w K mg base (Y3 P w) k f fd ps (XE.ck K n c fl λ_ _=>zc):=by
 have no:∀vs H Q E,¬XE.ck K n c fl (λ_ _=>zc) vs H Q E:=λvs H Q E h=>by
  obtain⟨O,ts,T,ws,x,T',_,_,_,_,e,_⟩:=h;cases e
 exact⟨λvs H Q E h=>absurd h (no vs H Q E),λA outer s H args us vs Q E _ _ _ _ h=>absurd h (no vs H Q E)⟩
end XO
namespace D
open L2
def t6:List W->Bool
 |[]=>xV
 |.d _::r=>t6 r
 |_=>zd
theorem y8{K:Frag}{O:Addr->Prop}{ts:List Addr}{H:Hp}:∀{vs:List V}{ws:List W},fX K O ts H vs ws->t6 ws=xV->fX K O [] H vs ws
 |_,[],.nil,_=>.nil
 |_,.d x::r,.cons h t,e=>.cons (show Rep K O H _ x from h) (y8 t e)
 |_,.tp _::_,.cons _ _,e=>by cases e
 |_,.loc x::r,.cons _ _,e=>by cases e
noncomputable def mF(m:YG)(ws:List W)(T1:Tp):Option (W×Tp):=if t6 ws=xV then (match m ws [] with
 |some (x,_)=>vd (.d x,T1)
 | none=>zc) else zc
def mB(m:YG)(g:FA):FE:=λρ T=>Yz (g ρ T) (mF m)
noncomputable def rD(F:Fn X.prog X.w X.K X.mg X.base name ps k (Zq X.K ps.length m))(hr:YD k X.A)(hg:Gl X name)(ha:DA X (e::es) g)(hl:eY g ps.length)(YU:autoParam ((name == ("__debug__" : Str))=zd) u11)
  (he:autoParam (OM (e::es) X.env=(zd,eval e X.env)::OM es X.env) u12) (Y1:autoParam ((PK pos (OM es X.env)).any (·.1)=zd) u13):DE X (.Call (.Name name p) (e::es) [] pos) (mB m g):=by
 refine⟨?_⟩;refine pe_imp (kZ F hr hg ha.pe YU he Y1) λσ H Q=>?_;rintro⟨O,ts,ρ,T,w,T',hc,re,e,q⟩;obtain⟨ws,T1,e1,e⟩:=aE e;unfold mF at e;split at e
 .rename_i hn
  split at e
  .rename_i x T2 e2
   cases e;refine⟨O,ts,ρ,T,ws,_,hc,re,e1,λvs H1 s1 Yv r1=>?_⟩;refine⟨O,[],[],ws,x,T2,⟨λb hb=>(by simp_all),Yv.trk,W8,rfl,λi a xs e1 _=>by simp at e1⟩,by rw[Qu];exact y8 r1 hn,hl _ _ _ _ e1,e2,λv H2 s2 YE r2=>?_⟩;have IP:YB ts H1 H2:=λb o _ q=>s2 b o (by simp) q
   exact q v H2 (s1.trans IP) (Yv.step IP λb hb=>by
    obtain⟨u,z⟩:=(Yv.trk b (Yv.own b hb)).ex
    rw[z];exact s2 b _ (by simp) z) r2
  .cases e
 .cases e
section
variable {X:Cx}{pos:Pos}
noncomputable def zjh:Jf X "str.count" (λx vs H Q=>∃z y:Str,x=.str z/\vs=[.str y]/\Q (.int (Vi z y:Int)) H):=by
 intro pins s σ H x vs v us Q I rx rv h;obtain⟨z,y,rfl,rfl,q⟩:=h;obtain⟨t,rfl⟩:=rx;obtain⟨u,rfl,ru⟩:=vals1 rv;obtain⟨t',rfl⟩:=ru;exact call_gives UF (Se _ _ _) PySem.F.entry_str_count (PySem.F.args_str_count_2 _ _) (gives_str_count z y t t') ⟨.int _,H,I.tok _,⟨_,rfl⟩,q⟩
def jV:OF->OF->Option OF
 |.str z,.str y=>vd (.int (Vi z y:Int))
 |_,_=>zc
noncomputable def vL(ho:DE X o fo)(he:DE X e fe)
  (YY:autoParam (P1 o "count" X.env (eval o X.env)=eval o X.env) u10)
  (Zx:autoParam (((PK cpos (OM [e] X.env)).all (λx=>!x.1)&&(QS cpos (Qb [] X.env)).all (λx=>x.1.isSome)
   && decide (([e]:List Expr).length+([]:List QR).length+(if ([]:List QR).isEmpty then 0 else 1)<30))=xV) u20)
  (YX:autoParam ((apos.endLine == cpos.line)=xV) u10) (Zy:autoParam (OM [e] X.env=(zd,eval e X.env)::OM [] X.env) u12) (YQ:autoParam ((PK cpos (OM [] X.env)).any (·.1)=zd) u13) :
  DE X (.Call (.Attribute o "count" apos) [e] [] cpos) (ag jV fo fe):=by
 refine⟨?_⟩;refine pe_imp (iP Q2 UF PySem.F.type_str_count zjh ho.pe (br he.pe cu Zy) YY Zx YX Zy YQ) λσ H Q=>?_;rintro⟨O,ts,ρ,T,w,T',hc,re,e,q⟩;obtain⟨w1,T1,e1,e⟩:=aE e;obtain⟨w2,T2,e2,e⟩:=aE e;obtain⟨x,y,d,h1,h2,h3,rfl,rfl⟩:=gE e;unfold jV at h3;split at h3
 .rename_i z y
  cases h3;have ew:=qN h1;subst ew;refine⟨O,ts,ρ,T,_,T1,hc,re,e1,λv1 H1 s1 Yv r1=>?_⟩;cases (r1);refine⟨rfl,O,ts,ρ,T1,w2,T',Yv,re.mono hc s1,e2,λv2 H2 s2 YE r2=>?_⟩;cases (YE.view r2 h2).str;exact⟨z,_,rfl,rfl,q _ H2 (s1.trans s2) YE (.int _)⟩
 .cases h3
@[simp] theorem Ng:jV (.str z) (.str y)=vd (.int (Vi z y:Int)):=rfl
noncomputable def tB(i ja jb jc:Nat)(ρ:Yy)(T:Tp)(o:Option (Option W)):Option ((Fl×Yy)×Tp):=match o with
 |some (vd (.loc (.list xs)))=>match xs[xs.length-1]? with
  |some (.tuple [a,b,c])=>vd ((.nx,(((ρ.set i (vd (.loc (.list xs.dropLast)))).set ja (vd (.d a))).set jb (vd (.d b))).set jc (vd (.d c))),T)
  |_=>zc
 |_=>zc
def lh(i ja jb jc:Nat):FS:=λρ T=>tB i ja jb jc ρ T ρ[i]?
noncomputable def zji(Ez:X.N.Nodup)(hN:autoParam (X.N[i]? = vd x) u10)(hv:autoParam (Ee X.env.scope x) u21)(hd:autoParam ((x == ("__debug__" : Str))=zd) u11)
  (hcd:autoParam ((x == ("__classdict__" : Str))=zd) u11) (hja:autoParam (X.N[ja]? = vd xa) u10) (hjb:autoParam (X.N[jb]? = vd xb) u10) (hjc:autoParam (X.N[jc]? = vd xc) u10) (ha:autoParam (Loc X.env.scope xa) u18) (hb:autoParam (Loc X.env.scope xb) u18) (hc:autoParam (Loc X.env.scope xc) u18)
  (YY:autoParam (P1 (.Name x p) "pop" X.env (eval (.Name x p) X.env)=eval (.Name x p) X.env) u10) (YX:autoParam ((apos.endLine == cpos.line)=xV) u10)
  (fa:autoParam (X.fn xa=xV\/X.env.scope.names.lookup xa=vd .local) u15) (fb:autoParam (X.fn xb=xV\/X.env.scope.names.lookup xb=vd .local) u15) (fc:autoParam (X.fn xc=xV\/X.env.scope.names.lookup xc=vd .local) u15) (JG:autoParam (X.calm=xV) u10)
  (hs:autoParam (Vu [.Tuple [.Name xa pa,.Name xb pb,.Name xc pc] n tp] (.Call (.Attribute (.Name x p) "pop" apos) [] [] cpos) pos.line X.env=pure zd) u10) (hw:autoParam (Vv [.Tuple [.Name xa pa,.Name xb pb,.Name xc pc] n tp] (.Call (.Attribute (.Name x p) "pop" apos) [] [] cpos) X.env=pure zc) u10)
  (h1:autoParam ((Sd [.Tuple [.Name xa pa,.Name xb pb,.Name xc pc] n tp] X.env).map (·.2)=[TR (.Tuple [.Name xa pa,.Name xb pb,.Name xc pc] n tp) X.env]) u10) :
  DS X (.Assign [.Tuple [.Name xa pa,.Name xb pb,.Name xc pc] n tp] (.Call (.Attribute (.Name x p) "pop" apos) [] [] cpos) pos) (lh i ja jb jc):=by
 refine⟨?_⟩;refine dj (sJ (zdg RB PySem.F.slot_list_pop PySem.F.type_list_pop zdj (pv i hN hv hd hcd) YY YX) (zsr JG (lV (iG Ez hja ha fa) (lV (iG Ez hjb hb fb) (lV (iG Ez hjc hc fc) zsq)))) hs hw h1) λD σ H=>?_;rintro⟨ze,H₀,F,ts,O,ρ,T,fl,ρ',T',rs,e,q⟩;unfold lh tB at e;split at e
 .rename_i xs h1
  split at e
  .rename_i a b c hy0
   cases e;obtain⟨v,k1,l,rfl,k2,k3,vs,k4,k5⟩:=rs.re i _ h1;obtain⟨vy,hvy,ry⟩:=k5.getD hy0;have hl:=k5.length
   have rd:Yw X.K O H vs.dropLast xs.dropLast:=by
    rw[UX,UX,hl];exact k5.take _
   have Y6:=rs.put (us:=[]) h1 k1 rd;have ry':=Rep.mono (O':=O) (H':=upd H l (.lst vs.dropLast)) (λb o n z=>⟨n,by rw[aJ (show b≠l from λz=>n (by rw[z];exact k2))];exact z⟩) ry
   cases ry' with
   |tup t r=>
   cases r with
   |cons ra r=>
   cases r with
   |cons rb r=>
   cases r with
   |cons rc r=>
   cases r;exact⟨_,k1,.inl ⟨rfl,vs,Zm.of k4⟩,l,vs,_,rfl,rfl,k4,by rw[hl];exact hvy,_,_,rfl,t.sq,rfl,_,_,rfl,_,_,rfl,_,_,rfl,rfl,q O _ _ (((Y6.set (w:=.d a) ra λ_ z=>nomatch z).set (w:=.d b) rb λ_ z=>nomatch z).set (w:=.d c) rc λ_ z=>nomatch z)⟩
  .cases e
 .cases e
def k9{k:Int}(h:0<=k/\k<=8):k=0\/k=1\/k=2\/k=3\/k=4\/k=5\/k=6\/k=7\/k=8:=by lia
noncomputable def zjj:Zg X (Qq .Mult) (λx y H Q=>∃a k v,x=.ref a/\y=.int k/\Zm X.K H a [v]/\(0<=k/\k<=8)/\∀p,H p=zc->Q (.ref p) (upd H p (.lst (OQ k.toNat v)))):=by
 intro pins s σ H x y v u Q I rx ry h;obtain⟨a,k,v0,rfl,rfl,hq,hk,q⟩:=h;cases rx;obtain⟨t,rfl⟩:=ry;obtain⟨Yu,r,pl,_⟩:=I.list hq;obtain⟨u0,rfl,r0⟩:=r.one;obtain⟨⟨cls,dd,data,sl⟩,n,ho,c,d1,d2⟩:=pl;simp only at c d1 d2;subst c d1 d2
 have Jk:¬(!Builtin.List.listFitsIndex k)=xV:=by rcases k9 hk with rfl|rfl|rfl|rfl|rfl|rfl|rfl|rfl|rfl <;> decide
 have Yv:¬([u0].toArray.size*k.toNat>(2^63-1) / 8):=by
  rcases k9 hk with rfl|rfl|rfl|rfl|rfl|rfl|rfl|rfl|rfl <;> (show ¬(1*_>(2^63-1) / 8);decide)
 have YE:¬Qg ([u0].toArray.size*k.toNat)=xV:=by
  rcases k9 hk with rfl|rfl|rfl|rfl|rfl|rfl|rfl|rfl|rfl <;> (show ¬Qg (1*_)=xV;decide)
 have GY:SI (λx1 x2=>x1++x2) #[] (OQ (if [u0].toArray.isEmpty=xV then 0 else k.toNat) [u0].toArray)=(OQ k.toNat u0).toArray:=by
  rcases k9 hk with rfl|rfl|rfl|rfl|rfl|rfl|rfl|rfl|rfl <;> rfl
 refine Tu (T:="list") (U:="int") (by decide) ⟨_,ho,rfl⟩ (λs'=>Ux s' k t) noFill_list_mul WG S4 repeat_list Wi.lookup
  (Rm S4 (Ux s k t) Wj (V4 _ _) (zhv k t a [u0].toArray n zc sl)
   ⟨ho,rfl,⟨_,ho,rfl⟩,Rm PySem.F.slot_list_mul ⟨_,ho,rfl⟩ PySem.F.entry_list_mul (PySem.F.args_list_mul_2 _ _) (zhu a [u0].toArray n zc sl k t Jk Yv YE) ⟨ho,?_⟩⟩)
 rw[GY];refine⟨.ref s.heap.objs.size,_,I.laid (t':=s.toks) (o:=.lst (OQ k.toNat v0)) (λb ob q=>OK _ q) (Pc _) ?_,rfl,q _ (I.hok.fresh (Pc _))⟩;refine⟨?_,OQ k.toNat u0,0,?_,Pm _ rfl⟩
 .rw[US]
  rcases k9 hk with rfl|rfl|rfl|rfl|rfl|rfl|rfl|rfl|rfl <;> decide
 .rcases k9 hk with rfl|rfl|rfl|rfl|rfl|rfl|rfl|rfl|rfl <;> repeat (first|exact .nil|refine .cons r0 ?_)
def m8:OF->OF->Option OF
 |.list [x],.int k=>if 0<=k/\k<=8 then vd (.list (OQ k.toNat x)) else zc
 |_,_=>zc
noncomputable def zjk:Z4 X (Qq .Mult) m8:=⟨_,zjj,λO ts H T v1 v2 x y d Q hc h1 h2 e q=>by
 unfold m8 at e;split at e
 .split at e
  .rename_i hk
   cases e;obtain⟨a,vs,rfl,t,r⟩:=h1.lst
   cases r with
   |cons r0 r=>
    cases r;cases h2.int;refine⟨a,_,_,rfl,rfl,t,hk,λp hp=>q _ _ (.new hp _) (hc.new hp _) (hc.newL hp ?_)⟩
    rcases k9 hk with rfl|rfl|rfl|rfl|rfl|rfl|rfl|rfl|rfl <;> repeat (first|exact .nil|refine .cons r0 ?_)
  .cases e
 .cases e⟩
end
end D
namespace XO
open L2 D
open XE (Kp forget cT d0 fK ZU vE Zl ck name_goes qk Gs Az)
def Dd(e C dx:Addr):Heap->Prop:=λh=>∃vs,h.get? e=vd { cls:=.ref C,dict:=vd dx,data:=.fields vs }
def Dd.ok(x:Dd e C dx h):YM P w H h e (.ext (Dd e C dx)):=⟨x,let ⟨_,y⟩:=x;⟨_,y⟩,λ_ _ ⟨vs,y⟩ k=>⟨vs,k _ y⟩⟩
def Dd.of(ok:Zh P w H h)(x:H e=vd (.ext (Dd e C dx))):Dd e C dx h:=(ok _ _ x).1
section
variable {X:L2.Cx}{C:Addr}{fl:Str}{e dx:Addr}
noncomputable def zjl(I1:L2.Inv X pins σ H1 s1)(ho:s6.os=s1.os)(bare:SN s6.gens)(un:Un (frs X.stack) [] H1 H2 s1.heap s6.heap)(hok:Zh X.prog X.w H2 s6.heap)(ge:s1.heap.objs.size<=a)(fa:H2 a=zc)(x:Dd a C dx s6.heap) :
  L2.Inv X pins σ (upd H2 a (.ext (Dd a C dx))) s6:=by
 have up:∀{c:Addr}{u:HO},H2 c=vd u->upd H2 a (.ext (Dd a C dx)) c=vd u:=λ{c u} e=>(aJ (λz=>by simp_all)).trans e;refine I1.call'  ho ⟨un.keep,un.slot,λb o q n m=>?_,un.there,λb xs e=>up (un.tups b xs e),λb o u e=>up (un.frzs b o u e),λb ps e=>?_⟩ (λb o e=>?_) bare (λb z=>absurd z (by simp))
 .exact(aJ (Pl (OY (OV q) ge))).trans (un.free b o q n m)
 .obtain⟨more,z⟩:=un.tbls b ps e
  exact⟨more,up z⟩
 .by_cases hb:b=a
  .subst hb
   rw[bg] at e;cases e;exact x.ok
  .rw[aJ hb] at e
   exact(hok b o e).stay (λ_ _ _ q=>q) (λ_ q=>up q) λ_ _ q=>up q
noncomputable def HU(K:Frag)(C:Addr)(fl:Str)(i:Nat)(f:Zb)(ts:Addr->Addr->TS):TS:=λD σ H=>Ck K C fl (λcv od H2=>cv=.ref C/\∃dx,od=vd dx /\
 ∀e,H2 e=zc->ts e dx { nx:=λσ'=>D.nx (σ'.set i zc),rt:=D.rt,bk:=λσ'=>D.bk (σ'.set i zc),ct:=λσ'=>D.ct (σ'.set i zc) } (σ.set i (vd (.ref e))) (upd H2 e (.ext (Dd e C dx)))) f σ H
noncomputable def zjm{ts:Addr->Addr->TS}(hB:DFI X C fl body f)(c:ZU X.K C (.ref R::vE))(r:ZU X.K R vE)(hgR:Gl X rn)(hmR:X.mg rn=vd (.ref R))(hN:X.N.Nodup)(hs:∀e dx,Ii (Bw X e) (b0::CH) (ts e dx))
  (hi:autoParam (X.N[i]? = vd n) u10) (hl:autoParam (X.env.scope.names.lookup n=vd .local) u10) (CZ:autoParam (X.env.frame=vd X.env.locals) u10) (CJ:autoParam (X.stack=X.env::X.outer) u10) (hdR:autoParam ((rn == ("__debug__" : Str))=zd) u11) :
  PS X (.Try body [.ExceptHandler (vd (.Name rn p2)) (vd n) (b0::CH) Fd] [] [] pos) (HU X.K C fl i f ts):=by
 intro pins s σ H D I h;refine Wp (Qe (hB.pe pins s σ H _ I h) (λ_ _ z=>PZ z) λx s2 hx=>?_);obtain⟨H1,s1,I1,hq⟩:=hx;obtain⟨a,C',dx0,T,H2,rfl,Ji,IV,HN,IT,ge,Dq,neT,xr,tb,fe,fT,ec,dx,ed,qx⟩:=hq;cases ec;cases ed;have I2:L2.Inv X pins σ H2 s2:=I1.call' (ch:=[]) Ji HN IT IV (λb z=>absurd z (by simp));have st:=I2.env0;have B6:∀y,s1.heap.objs.size<=y->y≠X.env.locals:=λy hy z=>PH _ (OY (z ▸ I1.lt) hy)
 have nef:∀y,s1.heap.objs.size<=y->y∉frs X.stack:=λy hy z=>by
  obtain⟨_,o,ho,_⟩:=I1.stack.mem z;exact PH _ (OY (OV ho) hy)
 have Dk:∀(xs:List Addr) (h':Heap),(∀y∈xs,s1.heap.get? y=zc/\H2 y=zc)->Kp xs (frs X.stack) s2.heap h'->Un (frs X.stack) [] H1 H2 s1.heap h'/\Zh X.prog X.w H2 h':=λxs h' nx kp=>by
  have lt:∀{b:Addr}{o:Obj},s1.heap.get? b=vd o->b∉xs:=λq z=>by rw[(nx _ z).1] at q;cases q
  refine⟨⟨λb o q n m _=>?_,λb o q n m _=>?_,HN.free,λb o q _=>?_,HN.tups,HN.frzs,HN.tbls⟩,λb o e=>?_⟩
  .exact kp.keep b o (HN.keep b o q n m (by simp)) (lt q) m
  .obtain⟨sl,e1⟩:=HN.slot b o q n m (by simp)
   obtain⟨GX,e2⟩:=kp.slot b _ e1 (lt q) m;exact⟨GX,e2⟩
  .obtain⟨o',e1⟩:=HN.there b o q (by simp)
   exact kp.there b o' e1
  .refine(IT b o e).stay (λc' u hc q=>?_) (λ_ q=>q) λ_ _ q=>q
   have tr:∃v,H2 c'=vd v:=by
    rcases hc with rfl|hc
    .exact⟨_,e⟩
    .exact⟨_,hc⟩
   obtain⟨v,tr⟩:=tr;refine kp.keep c' u q (λz=>?_) λz=>?_
   .rw[(nx c' z).2] at tr;cases tr
   .rw[I2.stkFree c' z] at tr;cases tr
 have go:∀(xs:List Addr) (h':Heap),(∀y∈xs,s1.heap.get? y=zc/\H2 y=zc)->Kp xs (frs X.stack) s2.heap h'->L2.Inv X pins σ H2 { s2 with heap:=h' }:=λxs h' nx kp=>I1.call' (ch:=[]) (s':={ s2 with heap:=h' }) Ji (Dk xs h' nx kp).1 (Dk xs h' nx kp).2 IV (λb z=>absurd z (by simp))
 have KS:X.A.frames=vd (X.env::X.outer):=by rw[←CJ];exact st.frames
 have HQ:s2.heap.FunFrames X.base (X.env::X.outer):=by rw[←CJ];exact st.funs
 refine rT (base:=X.base) (outer:=X.outer) (L:=X.env.locals) KS HQ CZ xr tb neT λh3 T3 g1 g2 g3 g4 g5=>?_;rw[←CJ] at g5;have fT3:H2 T3=zc:=IT.fresh g1;refine oX g2 g3 g4 λh4 j1 j2 j3=>?_;have D9:∀{x:Addr}{u v:Heap},Kp [x] [] u v->Kp [x] (frs X.stack) u v:=λk=>⟨λb o q n _=>k.keep b o q n (by simp),λb o q n _=>⟨o.slots,k.keep b o q n (by simp)⟩,k.there⟩;have kp4:Kp [a,T,T3] (frs X.stack) s2.heap h4:=(g5.more λx hx=>by simp at hx;rcases hx with z|z <;> simp[z]).trans ((D9 j3).more λx hx=>by simp at hx;simp[hx])
 have nx:∀y∈[a,T,T3],s1.heap.get? y=zc/\H2 y=zc:=λy hy=>by
  simp at hy
  rcases hy with rfl|rfl|rfl
  .exact⟨Rg ge,fe⟩
  .exact⟨Rg Dq,fT⟩
  .refine⟨?_,fT3⟩
   cases z:s1.heap.get? y with
   |none=>rfl
   |some o=>
    obtain⟨o',e1⟩:=HN.there y o z (by simp);exact absurd (OV e1) (Nat.not_lt.mpr g1)
 have I4:=go _ h4 nx kp4;obtain⟨t4,he4⟩:=id j1;have I5:L2.Inv (Bw X a) pins σ H2 { s2 with heap:=h4 }:=x9 I4;refine wpAny_handleBy_cons (codeAny_handlers_test ?_) (by intro z;cases z);refine ju (X:=Bw X a) I5 hgR hmR ?_ hdR;refine XE.zhl I5.kIn c r he4 rfl ?_;refine codeAny_handlers_suite_as ?_;refine oX j1 j2 g4 λh6 l1 l2 l3=>?_;have u6:=Dk _ h6 nx (kp4.trans ((D9 l3).more λx hx=>by simp at hx;simp[hx]));have he6:Dd a C dx h6:=⟨_,l3.keep a _ he4 (by simp;exact g4.symm) (by simp)⟩;have I7:L2.Inv (Bw X a) pins σ (upd H2 a (.ext (Dd a C dx))) { s2 with heap:=h6 }:=x9 (zjl (s6:={ s2 with heap:=h6 }) I1 Ji IV u6.1 u6.2 ge fe he6);refine qU (X:=Bw X a) (i:=i) (v:=.ref a) I7 hN hi (.inl hl) rfl (λs8 I8=>?_) (.inr hl);refine Qe (hs a dx pins s8 _ _ _ I8 (qx a fe)) (λf s9 Ha=>?_) λ_ _ z=>PZ z;show Pk _ _ (do bindName X.env n .none;S0 X.env n Fd) _ _ _
 cases f with
 |next=>
  obtain⟨Bn,H9,I9,q9⟩:=Ha;exact name_goes (nY I.ok I9) hN hi hl λs' I'=>⟨_,_,I',q9⟩
 |brk=>
  obtain⟨Bn,H9,I9,q9⟩:=Ha;exact name_goes (nY I.ok I9) hN hi hl λs' I'=>⟨_,_,I',q9⟩
 |cont=>
  obtain⟨Bn,H9,I9,q9⟩:=Ha;exact name_goes (nY I.ok I9) hN hi hl λs' I'=>⟨_,_,I',q9⟩
 |ret u=>
  obtain⟨v9,Bn,H9,I9,r9,q9⟩:=Ha;exact name_goes (nY I.ok I9) hN hi hl λs' I'=>⟨_,_,_,I',r9,q9⟩
noncomputable def zjn{x name:Str}{ps:List Str}{k:Nat}{m:List W->Tp->Option (Int×Tp)}{e:Expr}{es more:List Expr}{g:FA}{j:Nat}{p cpos tp pos' pos:Pos}(G:Da X.prog X.w X.K X.mg X.base name ps k (ck X.K ps.length C fl m))(hr:YD k X.A)(hg:Gl X name)(ha:DA X.nox (e::es) g)(hl:eY g ps.length)(YU:autoParam ((name == ("__debug__" : Str))=zd) u11)
  (he:autoParam (OM (e::es) X.env=(zd,eval e X.env)::OM es X.env) u12) (Y1:autoParam ((PK cpos (OM es X.env)).any (·.1)=zd) u13)
  (hsT:autoParam (OM (.Call (.Name name p) (e::es) [] cpos::more) X.env=(zd,eval (.Call (.Name name p) (e::es) [] cpos) X.env)::OM more X.env) u12)
  (hs:autoParam (P4 (.Tuple (.Call (.Name name p) (e::es) [] cpos::more) j tp) (vd (.Name x pos')) pos.line X.env=pure zd) u10) :
  DFI X C fl [.Assign [.Name x pos'] (.Tuple (.Call (.Name name p) (e::es) [] cpos::more) j tp) pos] (cZ m g):=by
 refine⟨λpins s σ H Eh I h=>?_⟩;obtain⟨f,fd,F,hb,hk,hm⟩:=G.ex;have h2:=zjf (X:=X) (Q:=λ_ _=>False) hl h;refine T8 (VS (Vl ?_) hs);rw[hsT];show Pk _ _ (XY ((zd,eval (.Call (.Name name p) (e::es) [] cpos) X.env)::PK tp (OM more X.env))) _ _ s;refine RG ?_;refine QB (ju I hg hm ?_ YU);refine RH (h₀:=X.base) I.ok.mod.kin hk ?_ he Y1;refine Qe (ha.pe cpos pins s σ H _ (I.wish _) h2) (λus s1 ⟨vs,H1,GA,rv,q⟩=>?_) λ_ _ z=>PZ z;have I1:L2.Inv X pins σ H1 s1:=GA.unwish;refine⟨I1.kIn,?_⟩;have q:ck X.K ps.length C fl m (vs++[]) H1 (λ_ _=>False) Eh:=q;rw[Qu] at q
 have YH:us.length=ps.length:=by rw[←rv.length];exact F.len _ _ _ _ q
 refine Tg (Ss (F.run X.A X.stack s1 H1 ⟨us,[]⟩ us vs _ _ hr I1.env0 (by simpa using hb s1 us I1.kIn (by simp_all)) rv q) λres s2 hq=>?_)
 cases res with
 |ok fl=>
  cases fl with
  |ret u=>
   obtain⟨v,H2,I2,r2,q2⟩:=I1.after hq;exact PZ q2
  |next=>exact PZ hq
  |brk=>exact PZ hq
  |cont=>exact PZ hq
 |error x=>exact⟨H1,s1,I1,hq⟩
noncomputable def Ae(I:L2.Inv X pins σ H s)(he:H e=vd (.ext (Dd e C dx)))(h:H dx=vd (.xd fs)) :
  ∃(oe od:Obj) (mA:Str->Option OH),Rv s.heap e oe C (vd od)/\(∀f,Zi (fs.lookup f) (mA f))/\∀name,Sn name od=vd (mA name):=by
 obtain⟨mA,ns,r⟩:=(I.hok dx _ h);obtain⟨od,ho,hl⟩:=zth ns;obtain⟨vs,y⟩:=Dd.of I.hok he;exact⟨_,od,mA,⟨y,rfl,rfl,ho⟩,r,hl⟩
noncomputable def wV(is:Gs X.K C):YV X (.builtin "isinstance") λxs H Q=>∃v b,xs=[.ref e,v]/\H e=vd (.ext (Dd e C dx))/\(∃fs,H dx=vd (.xd fs))/\(∀u,RelV v u->Qr X.K (.ref C) u=vd b)/\Q (.bl b) H:=by
 intro pins s σ H xs us Q I r h;obtain⟨v,b,rfl,he,⟨fs,hx⟩,hk,q⟩:=h;obtain⟨u,w',rfl,ru,Zc⟩:=vals2 r;cases (ru);obtain⟨oe,od,mA,inst,_,_⟩:=Ae I he hx;exact PX is.kit I.kIn inst (hk _ Zc) (λz=>nomatch z) λtk=>⟨.bl _,H,I.tok _,rfl,q⟩
noncomputable def AE(i:Nat)(e C dx:Addr)(v:V):TE:=λσ H Q=>σ[i]? = vd (vd (.ref e))/\H e=vd (.ext (Dd e C dx))/\(∃fs,H dx=vd (.xd fs))/\Q v H
noncomputable def kJ(is:Gs X.K C)(hv:PE X (.Name n p1) (fY i))(hg:Gl X "isinstance")(hi:X.mg "isinstance"=zc)(hgD:Gl X cn)(hm:X.mg cn=vd (.ref D))(hk:Qr X.K (.ref C) (.ref D)=vd b)
  (hd:autoParam ((cn == ("__debug__" : Str))=zd) u11) (hs:autoParam (OM [.Name n p1,.Name cn p2] X.env=[(zd,eval (.Name n p1) X.env),(zd,eval (.Name cn p2) X.env)]) u10) (FX:autoParam (OM [.Name cn p2] X.env=[(zd,eval (.Name cn p2) X.env)]) u10) :
  PE X (.Call (.Name "isinstance" p) [.Name n p1,.Name cn p2] [] pos) (AE i e C dx (.bl b)):=by
 refine Internal.D.pe_imp (nX (wV (e:=e) (dx:=dx) is) hg hi RM (br hv (br (kA (v:=.ref D) hgD hm rfl hd) cu (by rfl)) (rfl)) (by decide) (rfl) (rfl) (by rfl)) λσ H Q ⟨h0,he,hx,q⟩=>?_;exact⟨_,h0,.ref D,b,rfl,he,hx,λu hu=>by cases (hu);exact hk,q⟩
noncomputable def zjo(is:Gs X.K C)(hv:PE X (.Name n p1) (fY i))(hg:Gl X "isinstance")(hi:X.mg "isinstance"=zc)(hgT:Gl X "ValueError")(hm:X.mg "ValueError"=zc)(hk:Qr X.K (.ref C) (.type "ValueError")=vd b)
  (hs:autoParam (OM [.Name n p1,.Name "ValueError" p2] X.env=[(zd,eval (.Name n p1) X.env),(zd,eval (.Name "ValueError" p2) X.env)]) u10) (FX:autoParam (OM [.Name "ValueError" p2] X.env=[(zd,eval (.Name "ValueError" p2) X.env)]) u10) :
  PE X (.Call (.Name "isinstance" p) [.Name n p1,.Name "ValueError" p2] [] pos) (AE i e C dx (.bl b)):=by
 refine Internal.D.pe_imp (nX (wV (e:=e) (dx:=dx) is) hg hi RM (br hv (br (zsn (v:=.ty "ValueError") hgT hm (rfl) rfl) cu (rfl)) (rfl)) (by decide) (by decide) (by rw[hs,FX]) (by rw[FX];rfl)) λσ H Q ⟨h0,he,hx,q⟩=>?_;exact⟨_,h0,.ty "ValueError",b,rfl,he,hx,λu hu=>by cases (hu);exact hk,q⟩
noncomputable def GF(i:Nat)(e C dx:Addr)(f:Str):TE:=λσ H Q=>σ[i]? = vd (vd (.ref e))/\H e=vd (.ext (Dd e C dx))/\∃fs v,H dx=vd (.xd fs)/\fs.lookup f=vd v/\Q v H
noncomputable def zjp(is:Gs X.K C)(hd:QK X.K C=xV)(hv:PE X (.Name n p1) (fY i))(ha:Pe X.K (.ref C) f=vd zc)(hb:autoParam (P1 (.Name n p1) f X.env (eval (.Name n p1) X.env)=eval (.Name n p1) X.env) u10) :
  PE X (.Attribute (.Name n p1) f pos) (GF i e C dx f):=by
 intro pins s σ H Q I h;obtain⟨h0,he,fs,v,hx,hf,q⟩:=h;refine ztm hb (YF (hv pins s σ H (λw H'=>w=.ref e/\H'=H) I ⟨_,h0,rfl,rfl⟩) λu s1 ⟨x,H1,I1,rx,ex,eh⟩=>?_);subst ex eh;cases (rx);obtain⟨oe,od,mA,inst,r,hl⟩:=Ae I1 he hx;obtain⟨u,hu,ru⟩:=Zi.some_of   (by rw[←hf];exact r f);exact Az is.bm is.gt is.ga I1.kIn inst (Vk hd ha rfl (by simp_all)) (ztk ru) ⟨v,H1,I1.tok _,ru,q⟩
end
def Iv(H H':Hp):Prop:=∀b o,H b=vd o->H' b=vd o
def Iv.new(h:Iv H H')(hp:H' p=zc):Iv H (upd H' p o):=λb u e=>(aJ (bx (h b u e) hp)).trans (h b u e)
def Iv.no(h:Iv H H')(hp:H' p=zc):H p=zc:=by
 cases e:H p with
 |none=>rfl
 |some o=>rw[h p o e] at hp;cases hp
def Iv.same(h:Iv H H'):YB ts H H':=λb o _ e=>h b o e
def Iv.hc{K:Frag}{O:Addr->Prop}{ts:List Addr}{H H':Hp}{T:Tp}(h:Iv H H')(c:HC K O ts H T):HC K O ts H' T:=c.step h.same λb hb=>by
 obtain⟨u,e⟩:=(c.trk b (c.own b hb)).ex;rw[h b _ e,e]
noncomputable def zjq{P:Pb}{w:Pp}{K:Frag}{mg:Str->Option OH}{base:Heap}{CX:Jr}{k:Nat}{f:Addr}{fd:Qm}{ps:List Str}{E3 E4 sp:Sp}(F1:YJ P w K mg base CX k f fd ps E3)(F2:YJ P w K mg base CX k f fd ps E4)(h:∀vs H Q E,sp vs H Q E->E3 vs H Q E\/E4 vs H Q E):YJ P w K mg base CX k f fd ps sp:=⟨λvs H Q E q=>(h _ _ _ _ q).elim (F1.len _ _ _ _) (F2.len _ _ _ _),λA outer s H args us vs Q E a b c d q=>(h _ _ _ _ q).elim (F1.run A _ s H args us vs Q E a b c d) (F2.run A _ s H args us vs Q E a b c d)⟩
end XO
namespace D
open L2
def G1(K:Frag)(tp:Nat->Stmt):List (Str×Nat)->Prop
 |[]=>True
 |(x,i)::r=>Df K x (tp i)/\G1 K tp r
noncomputable def Fc{K:Frag}{tp:Nat->Stmt}{x:Str}{i:Nat}{L:List (Str×Nat)}(a:Df K x (tp i))(r:G1 K tp L):G1 K tp ((x,i)::L):=⟨a,r⟩
theorem G1.at{K:Frag}{tp:Nat->Stmt}{x:Str}{i:Nat}:∀{L:List (Str×Nat)},G1 K tp L->L.lookup x=vd i->Df K x (tp i)
 |[],_,e=>nomatch e
 |_::r,h,e=>by
  rw[RA] at e;split at e
  .rename_i hx
   cases e;rw[eq_of_beq hx];exact h.1
  .exact h.2.at e
def ZL(K:Frag):List Str->Prop
 |[]=>True
 |x::r=>PL K Pt x=vd zc/\ZL K r
def FJ{K:Frag}{x:Str}{L:List Str}(a:PL K Pt x=vd zc)(r:ZL K L):ZL K (x::L):=⟨a,r⟩
theorem ZL.at{K:Frag}{x:Str}:∀{L:List Str},ZL K L->L.contains x=xV->PL K Pt x=vd zc
 |[],_,e=>nomatch e
 |y::r,h,e=>by
  rw[List.contains_cons,S7] at e
  rcases e with e|e
  .rw[eq_of_beq e];exact h.1
  .exact h.2.at e
def IL(K:Frag):List (Str×Int)->Prop
 |[]=>True
 |(x,i)::r=>(∃t,PL K Pt x=vd (vd (.int i t)))/\IL K r
noncomputable def GO{K:Frag}{x:Str}{i:Int}{t:Tok}{L:List (Str×Int)}(a:PL K Pt x=vd (vd (.int i t)))(r:IL K L):IL K ((x,i)::L):=⟨⟨t,a⟩,r⟩
theorem IL.at{K:Frag}{x:Str}{i:Int}:∀{L:List (Str×Int)},IL K L->L.lookup x=vd i->∃t,PL K Pt x=vd (vd (.int i t))
 |[],_,e=>nomatch e
 |_::r,h,e=>by
  rw[RA] at e;split at e
  .rename_i hx
   cases e;rw[eq_of_beq hx];exact h.1
  .exact h.2.at e
def SL(K:Frag):List (Str×Str)->Prop
 |[]=>True
 |(x,i)::r=>(∃t,PL K Pt x=vd (vd (.str i t)))/\SL K r
noncomputable def FW{K:Frag}{x i:Str}{t:Tok}{L:List (Str×Str)}(a:PL K Pt x=vd (vd (.str i t)))(r:SL K L):SL K ((x,i)::L):=⟨⟨t,a⟩,r⟩
theorem SL.at{K:Frag}{x i:Str}:∀{L:List (Str×Str)},SL K L->L.lookup x=vd i->∃t,PL K Pt x=vd (vd (.str i t))
 |[],_,e=>nomatch e
 |_::r,h,e=>by
  rw[RA] at e;split at e
  .rename_i hx
   cases e;rw[eq_of_beq hx];exact h.1
  .exact h.2.at e
structure Bz(K:Frag)(mg:Str->Option OH)(z:List Str)(i:List (Str×Int))(s:List (Str×Str)):Prop where
 z:∀{x:Str} (_:autoParam (z.contains x=xV) u14),mg x=zc
 i:∀{x:Str}{j:Int} (_:autoParam (i.lookup x=vd j) u14),∃t,mg x=vd (.int j t)
 s:∀{x y:Str} (_:autoParam (s.lookup x=vd y) u14),∃t,mg x=vd (.str y t)
noncomputable def zjr{K:Frag}{h:Heap}{mg:Str->Option OH}(X:K.In h)(G:h.Ns Pt mg)(a:ZL K z)(b:IL K i)(c:SL K s):Bz K mg z i s:=⟨λe=>PySem.W.mg_none_of X G (a.at e),λe=>let ⟨t,q⟩:=b.at e;⟨t,P3 X G q⟩,λe=>let ⟨t,q⟩:=c.at e;⟨t,P3 X G q⟩⟩
structure Ev(P:Pb)(w:Pp)(K:Frag)(mg:Str->Option OH)(base:Heap)(B:Prop)(tp:Nat->Stmt)(L:List (Str×Nat)):Prop where
 x:∃h:Heap,K.In h/\h.Ns Pt mg
 b:B
 d:G1 K tp L
noncomputable def C5(N P:List Str)(sc:QA):Bool:=decide (sc.kind=.function)&&!sc.isCoroutine&&!sc.isGenerator&&decide N.Nodup&&decide (N.take P.length=P)&&P.all (λx=>decide (sc.names.lookup x=vd .local)||decide (sc.names.lookup x=vd .cell))&&sc.names.all λy=>decide (y.2≠.free)
noncomputable def d9(h:C5 N P sc=xV):YK N P sc:=by
 simp only[C5,OW,decide_eq_true_eq,Bool.not_eq_true',Pd,S7] at h;exact⟨h.1.1.1.1.1.1,h.1.1.1.1.1.2,h.1.1.1.1.2,h.1.1.1.2,h.1.1.2,h.1.2,h.2⟩
def Fm{α:Type}{p:List α->Prop}(h:∀a,p [a]):∀us,us.length=1->p us
 |[a],_=>h a
def Dw{α:Type}{p:List α->Prop}(h:∀a b,p [a,b]):∀us,us.length=2->p us
 |[a,b],_=>h a b
def Be{α:Type}{p:List α->Prop}(h:∀a b c,p [a,b,c]):∀us,us.length=3->p us
 |[a,b,c],_=>h a b c
def Jq{α:Type}{p:List α->Prop}(h:∀a b c d,p [a,b,c,d]):∀us,us.length=4->p us
 |[a,b,c,d],_=>h a b c d
section
variable {P:Pb}{w:Pp}{K:Frag}{mg:Str->Option OH}{base:Heap}{B:Prop}{tp:Nat->Stmt}{L:List (Str×Nat)}{x:Str}{ps:List Str}{k:Nat}{m:FS}
noncomputable def mY(E:Ev P w K mg base B tp L)(i:Nat)(ok:∀f fd,Gy K x x (tp i) f fd->YJ P w K mg base ZA k f fd ps sp)(e:autoParam (L.lookup x=vd i) u14)
  (hb:autoParam (∀(kV doc pm:OH) (an:Option Addr) (YA ct:OH) (us:List OH),us.length=ps.length->QZ (PF x x (bX (tp i)) (bt (tp i)) (aK (tp i)) .none kV doc pm an YA ct) ⟨us,[]⟩=pure (ps.zip us)) u19):Fn P w K mg base x ps k sp:=
 let ⟨_,X,G⟩:=E.x
 (E.d.at e).fn X G hb ok
noncomputable def aT(E:Ev P w K mg base B tp L)(i:Nat)(N:List Str)(YO:∀{f:Addr}{YA:OH}{A:Pw}{outer:List Env}{s:OJ}{H:Hp}{E:XK},B->YK N ps (aK (tp i))->YD k (A.deeper (Qf x (aK (tp i)) s.heap.objs.size f YA))->Z7 (aZ ZA P w K mg base N x (aK (tp i)) f YA A outer s H E).nox (bt (tp i)) m)
  (S:autoParam (C5 N ps (aK (tp i))=xV) u14) (e:autoParam (L.lookup x=vd i) u14)
  (hb:autoParam (∀(kV doc pm:OH) (an:Option Addr) (YA ct:OH) (us:List OH),us.length=ps.length->QZ (PF x x (bX (tp i)) (bt (tp i)) (aK (tp i)) .none kV doc pm an YA ct) ⟨us,[]⟩=pure (ps.zip us)) u19):Fn P w K mg base x ps (k+1) (Zq K ps.length (aL N.length m)):=mY E i (λ_ _ F=>BY F (d9 S) λ_ _ _ _ _ _ hr=>YO E.b (d9 S) hr) e hb
noncomputable def zjs(E:Ev P w K mg base B tp L)(i:Nat)(N:List Str)(YO:∀{f:Addr}{YA:OH}{A:Pw}{outer:List Env}{s:OJ}{H:Hp}{E:XK},B->YK N ps (aK (tp i))->YD k (A.deeper (Qf x (aK (tp i)) s.heap.objs.size f YA))->Z7 (aZ ZA P w K mg base N x (aK (tp i)) f YA A outer s H E).nox (bt (tp i)) m)
  (S:autoParam (C5 N ps (aK (tp i))=xV) u14) (e:autoParam (L.lookup x=vd i) u14)
  (hb:autoParam (∀(kV doc pm:OH) (an:Option Addr) (YA ct:OH) (us:List OH),us.length=ps.length->QZ (PF x x (bX (tp i)) (bt (tp i)) (aK (tp i)) .none kV doc pm an YA ct) ⟨us,[]⟩=pure (ps.zip us)) u19):Fn P w K mg base x ps (k+1) (Ft K ps.length (pH N.length m)):=mY E i (λ_ _ F=>zgz F (d9 S) λ_ _ _ _ _ _ hr=>YO E.b (d9 S) hr) e hb
noncomputable def cR(E:Ev P w K mg base B tp L)(i:Nat)(e:autoParam (L.lookup x=vd i) u14)
  (hb:autoParam (∀(kV doc pm:OH) (an:Option Addr) (YA ct:OH) (us:List OH),us.length=ps.length->QZ (PF x x (bX (tp i)) (bt (tp i)) (aK (tp i)) .none kV doc pm an YA ct) ⟨us,[]⟩=pure (ps.zip us)) u19):Fn P w K mg base x ps k (Zq K n λ_ _=>zc):=mY E i (λ_ _ _=>zga) e hb
noncomputable def zjt(E:Ev P w K mg base B tp L)(N:List Str)(F:Gy K x x (tp i) f fd)(YO:∀{YA:OH}{A:Pw}{outer:List Env}{s:OJ}{H:Hp}{E:XK},B->YK N ps (aK (tp i))->YD k (A.deeper (Qf x (aK (tp i)) s.heap.objs.size f YA))->Z7 (aZ ZA P w K mg base N x (aK (tp i)) f YA A outer s H E).nox (bt (tp i)) m)
  (S:autoParam (C5 N ps (aK (tp i))=xV) u14):YJ P w K mg base ZA (k+1) f fd ps (Zq K ps.length (aL N.length m)):=BY F (d9 S) λ_ _ _ _ _ _ hr=>YO E.b (d9 S) hr
theorem cH{p:Nat->Prop}(z:p 0)(s:∀n,p n->p (n+1)):∀n,p n
 |0=>z
 |n+1=>s n (cH z s n)
end
section
variable {X:Cx}{name p1 p2 p3 p4 p5 p6:Str}{k k':Nat}{m:YG}{e1 e2 e3 e4 e5 e6:Expr}{g1 g2 g3 g4 g5 g6:FE}{p pos:Pos}
noncomputable def bf(F:Fn X.prog X.w X.K X.mg X.base name [p1] k (Zq X.K 1 m))(hr:YD k' X.A)(a1:DE X e1 g1)(h:autoParam (k<=k') u23)(hg:autoParam (Gl X name) u17)(YU:autoParam ((name == ("__debug__" : Str))=zd) u11)(n1:autoParam (noStar e1=xV) u17):DE X (.Call (.Name name p) [e1] [] pos) (ar m (ae g1 ah)):=jA F (hr.mono h) hg (ai a1 aw (aW n1)) (aO bp) YU (aW n1) (bD rfl)
noncomputable def aV(F:Fn X.prog X.w X.K X.mg X.base name [p1,p2] k (Zq X.K 2 m))(hr:YD k' X.A)(a1:DE X e1 g1)(a2:DE X e2 g2)(h:autoParam (k<=k') u23)(hg:autoParam (Gl X name) u17)(YU:autoParam ((name == ("__debug__" : Str))=zd) u11)(n1:autoParam (noStar e1=xV) u17)(n2:autoParam (noStar e2=xV) u17):DE X (.Call (.Name name p) [e1,e2] [] pos) (ar m (ae g1 (ae g2 ah))):=jA F (hr.mono h) hg (ai a1 (ai a2 aw (aW n2)) (aW n1)) (aO (aO bp)) YU (aW n1) (bD (by simp_all))
noncomputable def eE(F:Fn X.prog X.w X.K X.mg X.base name [p1,p2,p3] k (Zq X.K 3 m))(hr:YD k' X.A)(a1:DE X e1 g1)(a2:DE X e2 g2)(a3:DE X e3 g3)(h:autoParam (k<=k') u23)(hg:autoParam (Gl X name) u17)(YU:autoParam ((name == ("__debug__" : Str))=zd) u11)(n1:autoParam (noStar e1=xV) u17)(n2:autoParam (noStar e2=xV) u17)(n3:autoParam (noStar e3=xV) u17):DE X (.Call (.Name name p) [e1,e2,e3] [] pos) (ar m (ae g1 (ae g2 (ae g3 ah)))):=jA F (hr.mono h) hg (ai a1 (ai a2 (ai a3 aw (aW n3)) (aW n2)) (aW n1)) (aO (aO (aO bp))) YU (aW n1) (bD (by simp_all))
noncomputable def dG(F:Fn X.prog X.w X.K X.mg X.base name [p1,p2,p3,p4] k (Zq X.K 4 m))(hr:YD k' X.A)(a1:DE X e1 g1)(a2:DE X e2 g2)(a3:DE X e3 g3)(a4:DE X e4 g4)(h:autoParam (k<=k') u23)(hg:autoParam (Gl X name) u17)(YU:autoParam ((name == ("__debug__" : Str))=zd) u11)(n1:autoParam (noStar e1=xV) u17)(n2:autoParam (noStar e2=xV) u17)(n3:autoParam (noStar e3=xV) u17)(n4:autoParam (noStar e4=xV) u17):DE X (.Call (.Name name p) [e1,e2,e3,e4] [] pos) (ar m (ae g1 (ae g2 (ae g3 (ae g4 ah))))):=jA F (hr.mono h) hg (ai a1 (ai a2 (ai a3 (ai a4 aw (aW n4)) (aW n3)) (aW n2)) (aW n1)) (aO (aO (aO (aO bp)))) YU (aW n1) (bD (by simp_all))
end
noncomputable def Jd(osc:QA)(N:List Str)(x:Str)(sc:QA)(N':List Str):Bool:=decide (sc.kind=.function)&&(sc.names.all λy=>decide (y.2≠.cell))&&(sc.names.all λy=>decide (y.2=.local->sc.names.lookup y.1=vd .local))&&decide (sc.names.lookup x=vd .local)&&(sc.names.all λy=>decide (y.2=.local->y.1=x\/y.1=".0"))
 && (sc.names.all λy=>decide (y.2=.free->osc.names.lookup y.1=vd .cell\/osc.names.lookup y.1=vd .free))&&decide (x::N').Nodup&&decide ((".0" : Str)∉N')&&decide (N'.length=N.length)&&(N'.zip N).all λp=>decide (p.1=p.2)||sc.names.all λq=>decide (q.1≠p.1)
noncomputable def Aq(h:Jd osc N x sc N'=xV):CS osc N x sc N':=by
 simp only[Jd,OW,decide_eq_true_eq,Pd,S7] at h;exact⟨h.1.1.1.1.1.1.1.1.1,h.1.1.1.1.1.1.1.1.2,h.1.1.1.1.1.1.1.2,by simpa using h.1.1.1.1.1.1.2,by simpa using h.1.1.1.1.1.2,h.1.1.1.1.2,h.1.1.1.2,h.1.1.2,h.1.2,h.2⟩
section
variable {X:Cx}{x:Str}{scope:QA}{elt iter:Expr}{ifs:List Expr}{px pos:Pos}{it:FI}{c:FT}{f:FE}{P:Pb}{w:Pp}{K:Frag}{mg:Str->Option OH}{base:Heap}{C:Addr}{B:Prop}{q:Str}{st:Stmt}{ps:List Str}{k:Nat}{m:FS}
noncomputable def Ap(st:Stmt)(N N':List Str)(hi:DI X (.Name x px) iter it)(he:∀{C s0 H0 ex},DE (cA X x scope C s0 H0 ex N') elt f)(ht:∀{C s0 H0 ex},DR (cA X x scope C s0 H0 ex N') ifs c)
  (S:autoParam (Jd (aK st) N x scope N'=xV) u14) (hc:autoParam (X.calm=xV) u10) (hs:autoParam (X.env.scope=aK st) u10) (hN:autoParam (X.N=N) u10) (hf:autoParam (∀v,PN iter X.env v=pure v) u16):DE X (.ListComp elt [⟨.Name x px,iter,ifs,0⟩] scope pos) (bH it c f):=zfj (Aq S) hi (λ_ _ _ _=>he) (λ_ _ _ _=>ht) hc hs hN hf
noncomputable def dY(st:Stmt)(N:List Str)(hi:DI X (.Name x px) iter it)(he:∀{C s0 H0 ex},DE (cA X x scope C s0 H0 ex N) elt f)
  (S:autoParam (Jd (aK st) N x scope N=xV) u14) (hc:autoParam (X.calm=xV) u10) (hs:autoParam (X.env.scope=aK st) u10) (hN:autoParam (X.N=N) u10) (hf:autoParam (∀v,PN iter X.env v=pure v) u16):DE X (.ListComp elt [⟨.Name x px,iter,[],0⟩] scope pos) (bH it bB f):=Ap st N N hi he se S hc hs hN hf
noncomputable def Ao(st:Stmt)(N:List Str)(hi:DI X (.Name x px) iter it)(he:∀{C s0 H0 ex},DE (cA X x scope C s0 H0 ex N) elt f)(ht:∀{C s0 H0 ex},DT (cA X x scope C s0 H0 ex N) t c)
  (S:autoParam (Jd (aK st) N x scope N=xV) u14) (hc:autoParam (X.calm=xV) u10) (hs:autoParam (X.env.scope=aK st) u10) (hN:autoParam (X.N=N) u10) (hf:autoParam (∀v,PN iter X.env v=pure v) u16):DE X (.ListComp elt [⟨.Name x px,iter,[t],0⟩] scope pos) (bH it c f):=Ap st N N hi he (ym rfl ht) S hc hs hN hf
noncomputable def tH(st:Stmt)(N N':List Str)(nd:X.N.Nodup)(hi:DI X (.Name x px) iter it)(he:∀{C s0 H0 ex},DE (cA X x scope C s0 H0 ex N') elt f)(ht:∀{C s0 H0 ex},DR (cA X x scope C s0 H0 ex N') ifs c)
  (S:autoParam (Jd (aK st) N x scope N'=xV) u14) (Kj:autoParam (X.N[i]? = vd y) u10) (hy:autoParam (Loc X.env.scope y) u18)
  (E8:autoParam (X.fn y=xV\/X.env.scope.names.lookup y=vd .local) u15) (hc:autoParam (X.calm=xV) u10) (hs:autoParam (X.env.scope=aK st) u10) (hN:autoParam (X.N=N) u10)
  (ED:autoParam (P4 (.ListComp elt [⟨.Name x px,iter,ifs,0⟩] scope pos) (vd (.Name y py)) IW.line X.env=pure xV) u10) (hf:autoParam (∀v,PN iter X.env v=pure v) u16) :
  DS X (.Assign [.Name y py] (.ListComp elt [⟨.Name x px,iter,ifs,0⟩] scope pos) IW) (ay i (bH it c f)):=zfl (Aq S) nd hi (λ_ _ _ _=>he) (λ_ _ _ _=>ht) Kj hy E8 hc hs hN ED hf
noncomputable def pP(b:B)(d:Kk K C x q st)(N:List Str)(YO:∀{f:Addr}{YA:OH}{A:Pw}{outer:List Env}{s:OJ}{H:Hp}{E:XK},B->YK N ps (aK st)->YD k (A.deeper (Qf q (aK st) s.heap.objs.size f YA))->Z7 (aZ ZA P w K mg base N q (aK st) f YA A outer s H E).nox (bt st) m)
  (S:autoParam (C5 N ps (aK st)=xV) u14)
  (hb:autoParam (∀(kV doc pm:OH) (an:Option Addr) (YA ct:OH) (us:List OH),us.length=ps.length->QZ (PF x q (bX st) (bt st) (aK st) .none kV doc pm an YA ct) ⟨us,[]⟩=pure (ps.zip us)) u19):ES P w K mg base C x ps (k+1) (Zq K ps.length (aL N.length m)):=d.mth hb λ_ _ F=>BY F (d9 S) λ_ _ _ _ _ _ hr=>YO b (d9 S) hr
noncomputable def zju(b:B)(d:Kk K C "__init__" q st)(g:DL K C=xV)(N:List Str)(YO:∀{f:Addr}{YA:OH}{A:Pw}{outer:List Env}{s:OJ}{H:Hp}{E:XK},B->YK N ps (aK st)->YD k (A.deeper (Qf q (aK st) s.heap.objs.size f YA))->Z7 (aZ ZA P w K mg base N q (aK st) f YA A outer s H E).nox (bt st) m)
  (S:autoParam (C5 N ps (aK st)=xV) u14)
  (hb:autoParam (∀(kV doc pm:OH) (an:Option Addr) (YA ct:OH) (us:List OH),us.length=ps.length->QZ (PF "__init__" q (bX st) (bt st) (aK st) .none kV doc pm an YA ct) ⟨us,[]⟩=pure (ps.zip us)) u19):Hd P w K mg base C ps (k+1) (Zq K ps.length (aL N.length m)):=d.ini g hb λ_ _ F=>BY F (d9 S) λ_ _ _ _ _ _ hr=>YO b (d9 S) hr
end
section
variable {P:Pb}{w:Pp}{K:Frag}{mg:Str->Option OH}{base:Heap}{B:Prop}{tp:Nat->Stmt}{L:List (Str×Nat)}{x q fl:Str}{st:Stmt}{ps:List Str}{k:Nat}{m:XO.Zb}{C W:Addr}{X:Cx}{pos p p2:Pos}{e ce:Expr}{fe:FE}{c:FT}{g:FS}{rest:List Stmt}
noncomputable def An(E:Ev P w K mg base B tp L)(i:Nat)(ok:∀f fd,Gy K x x (tp i) f fd->YJ P w K mg base (XO.Y3 P w) k f fd ps sp)(e:autoParam (L.lookup x=vd i) u14)
  (hb:autoParam (∀(kV doc pm:OH) (an:Option Addr) (YA ct:OH) (us:List OH),us.length=ps.length->QZ (PF x x (bX (tp i)) (bt (tp i)) (aK (tp i)) .none kV doc pm an YA ct) ⟨us,[]⟩=pure (ps.zip us)) u19):XO.Da P w K mg base x ps k sp:=
 let ⟨_,X,G⟩:=E.x
 XO.fnX (E.d.at e) X G hb ok
noncomputable def jU(E:Ev P w K mg base B tp L)(i:Nat)(N:List Str)(YO:∀{f:Addr}{YA:OH}{A:Pw}{outer:List Env}{s:OJ}{H:Hp}{E:XK},B->YK N ps (aK (tp i))->YD k (A.deeper (Qf x (aK (tp i)) s.heap.objs.size f YA))->XO.Iy (aZ (XO.Y3 P w) P w K mg base N x (aK (tp i)) f YA A outer s H E) W fl E (bt (tp i)) m)
  (S:autoParam (C5 N ps (aK (tp i))=xV) u14) (e:autoParam (L.lookup x=vd i) u14)
  (hb:autoParam (∀(kV doc pm:OH) (an:Option Addr) (YA ct:OH) (us:List OH),us.length=ps.length->QZ (PF x x (bX (tp i)) (bt (tp i)) (aK (tp i)) .none kV doc pm an YA ct) ⟨us,[]⟩=pure (ps.zip us)) u19):XO.Da P w K mg base x ps (k+1) (XE.ck K ps.length W fl (XO.dW N.length m)):=An E i (λ_ _ F=>XO.A7 F (d9 S) λ_ _ _ _ _ _ hr=>YO E.b (d9 S) hr) e hb
noncomputable def tY(E:Ev P w K mg base B tp L)(i:Nat)(e:autoParam (L.lookup x=vd i) u14)
  (hb:autoParam (∀(kV doc pm:OH) (an:Option Addr) (YA ct:OH) (us:List OH),us.length=ps.length->QZ (PF x x (bX (tp i)) (bt (tp i)) (aK (tp i)) .none kV doc pm an YA ct) ⟨us,[]⟩=pure (ps.zip us)) u19):XO.Da P w K mg base x ps k (XE.ck K n W fl λ_ _=>zc):=An E i (λ_ _ _=>XO.zjg) e hb
noncomputable def sZ(b:B)(d:Kk K C x q st)(N:List Str)(YO:∀{f:Addr}{YA:OH}{A:Pw}{outer:List Env}{s:OJ}{H:Hp}{E:XK},B->YK N ps (aK st)->YD k (A.deeper (Qf q (aK st) s.heap.objs.size f YA))->XO.Iy (aZ (XO.Y3 P w) P w K mg base N q (aK st) f YA A outer s H E) W fl E (bt st) m)
  (S:autoParam (C5 N ps (aK st)=xV) u14)
  (hb:autoParam (∀(kV doc pm:OH) (an:Option Addr) (YA ct:OH) (us:List OH),us.length=ps.length->QZ (PF x q (bX st) (bt st) (aK st) .none kV doc pm an YA ct) ⟨us,[]⟩=pure (ps.zip us)) u19):XO.Cv P w K mg base C x ps (k+1) (XE.ck K ps.length W fl (XO.dW N.length m)):=XO.zjc d hb λ_ _ F=>XO.A7 F (d9 S) λ_ _ _ _ _ _ hr=>YO b (d9 S) hr
noncomputable def Y9(i:Nat){jd}(hN:autoParam (X.N[i]? = vd x) u10)(hv:autoParam (Ee X.env.scope x) u21)(hd:autoParam ((x == ("__debug__" : Str))=zd) u11)
  (hcd:autoParam ((x == ("__classdict__" : Str))=zd) u11):DE X (.Subscript (.Name x p) (.Constant (.int j) jd p2) pos) (ag Ze (aa i) (fC (.int j))):=bS bQ (af i hN hv hd hcd) aj
def YS(he:DE X e fe):Z7 X [.Return (vd e) pos] (au fe):=bb (sV he)
noncomputable def YZ(hc:DT X ce c)(he:DE X e fe)(hr:Z7 X rest g):Z7 X (.If ce [.Return (vd e) p] [] pos::rest) (ak (YC c (au fe) aD) g):=aA (bF hc (YS he) cf) hr
noncomputable def Zw(hm:X.mg "len"=zc)(he:DE X e fe)(hg:autoParam (Gl X "len") u17)(hs:autoParam (noStar e=xV) u17):DE X (.Call (.Name "len" p) [e] [] pos) (YR aP (ae fe ah)):=eJ zfy hg hm boot_len (ai he aw (aW hs)) (by decide) (by decide) (aW hs)
noncomputable def Zz{x1}(ha:DE X a f1)(hb:DE X b f2)(h1:autoParam (noStar a=xV) u17)(h2:autoParam (noStar b=xV) u17):DE X (.Tuple [a,b] x1 pos) (ax .tuple (ae f1 (ae f2 ah))):=cF (ai ha (ai hb aw (aW h2)) (aW h1))
end
end D
namespace G
open L2 D

def AR(k:Nat)(h:0<k):∃j,k=j+1:=⟨k-1,by omega⟩
abbrev Gj:=List D.W->Tp->Option (Int×Tp)
abbrev ac:FE:=fC (.int 1)
abbrev al:FE:=aa 0
abbrev bd:FE:=fC (.int 0)
abbrev be:FE:=aa 1
abbrev bn:FE:=aa 3
abbrev ci:FE:=aa 2
abbrev cr:FE:=fC (.int 2)
abbrev db:FE:=fC (.str "put")
abbrev dL:FE:=aa 4
abbrev eq:FE:=fC .none
abbrev f8:FE:=fC (.str "got")
abbrev ii:FE:=fC (.str "row")
abbrev im:FE:=fC (.int 8)
abbrev io:FE:=fC (.str "abcdefghijklmnopqrstuvwxyz0123456789-")
abbrev kt:FE:=fC (.int 10)
abbrev ld:FE:=fC (.str "fail")
abbrev lf:FE:=fC (.str "abcdefghijklmnopqrstuvwxyz")
abbrev mt:FE:=fC (.str "want")
abbrev nw:FE:=fC (.str "")
abbrev on:FE:=fC (.str ")")
abbrev pi:FE:=fC (.int 3)
abbrev pr:FE:=fC (.bool zd)
abbrev sw:FE:=fC (.str "say")
abbrev sB:FE:=fC (.str "recipe")
abbrev sK:FE:=fC (.int 4)
abbrev tz:FE:=fC (.int 9)
abbrev u8:FE:=fC (.int 18)
abbrev wf:FE:=aa 5
abbrev wp:FE:=fC (.int 12)
abbrev ww:FE:=fC (.str "peek")
abbrev wE:FE:=fC (.str "'")
abbrev wP:FE:=fC (.int 6)
abbrev wS:FE:=fC (.int 20)
abbrev wT:FE:=aa 6
abbrev zn:FE:=fC (.str "(")
abbrev At:FE:=fC (.str "0")
abbrev AT:FE:=fC (.str "a")
abbrev BT:FE:=fC (.str "many")
abbrev Ch:FE:=fC (.str "part")
abbrev Cl:FE:=aa 7
abbrev Db:FE:=fC (.str "sum")
abbrev Fa:FE:=fC (.str ",")
abbrev Fr:FE:=fC (.int 100)
abbrev Go:FE:=fC (.str "when")
abbrev Id:FE:=fC (.str "name")
abbrev Ix:FE:=fC (.str "join")
abbrev IN:FE:=fC (.str "same")
abbrev IO:FE:=fC (.str "less")
abbrev KK:FE:=fC (.str "expr")
abbrev LE(f:FE):FA:=ae f ah
abbrev LT:FE->FE->FE:=ag az
abbrev No:FE->FE->FE:=ag Ze
abbrev O0:FE->FE->FE:=ag Zu
abbrev O4:FA->FE:=ax .tuple
abbrev O5:FA->FE:=ax .list
abbrev O6:FA->FE:=YR aP
abbrev O7:FE->FE->FE:=ag bo
abbrev O8:FE->FE->FE:=ag IS
abbrev O9:FE->FE->FE:=ag inD
def lim(n:Int):Bool:=decide (0<=n)&&decide (n<1001)
noncomputable def dI(C:Addr):YG:=aL 2 (ak (jS C "parted" al (ag hZ be (fC (.str " ")))) (ak (jS C "place" al bd) (jS C "begun" al bd)))
noncomputable def dw(C:Addr):YG:=aL 1 (au (du (aq (O8 (dF C "place" al) (O6 (LE (dF C "parted" al))))) (No (dF C "parted" al) (dF C "place" al)) nw))
def iz(C:Addr):YG:=aL 2 (ak (YC (dC (bq be)) pL aD) (jS C "place" al (LT (dF C "place" al) ac)))
def jh(C:Addr):Gj:=XO.dW 2 (XO.iq (dC (bq be)) (XO.pJ lim (dF C "place" al)))
noncomputable def eZ(C:Addr):YG:=aL 3 (ak (fD (cj C "take" (iz C) al (LE (bZ be (bZ (O8 ci wS) (O8 (dF C "begun" al) (fC (.int 60)))))))) (jS C "begun" al (LT (dF C "begun" al) ac)))
noncomputable def iy(C:Addr):Gj:=XO.dW 3 (XO.fq C "take" (jh C) al (LE (bZ be (bZ (O8 ci wS) (O8 (dF C "begun" al) (fC (.int 60)))))))
def je(C:Addr):YG:=aL 1 (YC (aq (O8 (dF C "place" al) (O6 (LE (dF C "parted" al))))) pL aD)
noncomputable def lE(C:Addr):Gj:=XO.dW 1 (XO.iq (aq (O8 (dF C "place" al) (O6 (LE (dF C "parted" al))))) (XO.pJ lim (dF C "place" al)))
def nF:YG:=aL 1 (au (bZ (Y8 (bN .int) al) (iW (Y8 (bN .bl) al))))
def g8:YG:=aL 2 (au (YR lB (LE (bH (cQ al) bB (O9 al ci)))))
def fM:YG:=aL 1 (au (bZ (Y8 (bN .str) al) (bZ (kM Dv Dv ac (O6 (LE al)) im) (ar g8 (ae al (LE lf))))))
noncomputable def lL:YG:=aL 1 (ak (YC (bq (ar nF (LE al))) (au (ag Dv (YR nj (LE al)) (ag fZ kt u8))) aD) (au (bZ (Y8 (bN .str) al) (bZ (ag Dv (O6 (LE al)) wS) (ar g8 (ae al (LE io)))))))
noncomputable def g7:Nat->YG
 |0=>λ_ _=>zc
 |n+1=>aL 2 (ak (YC (dC (bq (Y8 (bN .tup) al))) (au (ar lL (LE al))) aD) (ak (YC (bj (aq (O0 be bd)) (aq (ag Dj (O6 (LE al)) im))) (au pr) aD) (au (YR lB (LE (bH (cQ al) bB (ar (g7 n) (ae al (LE (O7 ci ac))))))))))
noncomputable def jo:Nat->YG
 |0=>λ_ _=>zc
 |n+1=>aL 1 (ak (YC (dC (bq (Y8 (bN .tup) al))) (au ac) aD) (au (LT ac (YR jY (LE (bH (cQ al) bB (ar (jo n) (LE al))))))))
def lO:YG:=aL 1 (au (bZ (ar (g7 25) (ae al (LE sK))) (ag Dv (ar (jo 25) (LE al)) (fC (.int 40)))))
noncomputable def jg:YG:=aL 1 (ak (YC (bj (aq (O0 (No al bd) db)) (aq (O0 (No al bd) f8))) (au (O5 ah)) aD) (ak (YC (aq (O0 (No al bd) ii)) (au (YR iS (LE (No al ac)))) aD) (au (YR iS (LE (YW al (fP ac) aS))))))
def kg:YG:=aL 2 (au (du (aq (O9 al (fC (.tuple [.str "want",.str "peek"])))) (LT be ac) be))
noncomputable def g0:Nat->YG
 |0=>λ_ _=>zc
 |n+1=>aL 1 (ak (YC (bq (ar nF (LE al))) (au (YR dE (LE al))) aD) (ak (YC (bq (Y8 (bN .str) al)) (au (LT wE al)) aD) (au (LT (LT zn (ag ic Fa (bH (cQ al) bB (ar (g0 n) (LE al))))) on))))
noncomputable def iA:YG:=aL 1 (ak (YC (bj (aq (O0 al nw)) (dC (bq (ar g8 (ae al (LE (fC (.str "0123456789")))))))) (au pr) aD) (au (ly (O0 al At) (iW (ag iF al At)))))
noncomputable def lK:YG:=aL 2 (ak (ay 1 (du (bq (ag iF al (fC (.str "-")))) (YW al (fP ac) aS) al)) (ak (YC (bj (aq (O0 al (fC (.str "-0")))) (bj (aq (ag Dj (O6 (LE be)) (fC (.int 19)))) (dC (bq (ar iA (LE be)))))) (au eq) aD) (au (YR intD (LE al)))))
def lJ:YG:=aL 1 (ak (YC (bq (ag iF al wE)) (au (YW al (fP ac) aS)) aD) (au (ar lK (LE al))))
noncomputable def kh:YG:=aL 4 (ak (ay 2 be) (ak (cN (eg (aq (O8 ci (O6 (LE al)))) (aq (ag dk (No al ci) (fC (.str "(),"))))) (ay 2 (LT ci ac)) 100000) (ak (ay 3 (ar lJ (LE (YW al (fP be) (fP ci))))) (au (du (aq (ag EY bn eq)) eq (O4 (ae bn (LE ci))))))))
mutual
def lY:Nat->YG
 |0=>λ_ _=>zc
 |n+1=>aL 6 (ak (YC (aq (O0 (YW al (fP be) (fP (LT be ac))) on)) (au (O4 (ae (O4 ah) (LE (LT be ac))))) aD) (ak (fU 3 ah) (cN (bq (fC (.bool xV))) (ak (ay 4 (ar (dM n) (ae al (ae be (LE ci))))) (ak (YC (aq (ag EY dL eq)) (au eq) aD) (ak (eX 3 (No dL bd)) (ak (ay 1 (LT (No dL ac) ac)) (ak (ay 5 (YW al (fP (No dL ac)) (fP be))) (ak (YC (aq (O0 wf on)) (au (O4 (ae (YR eM (LE bn)) (LE be)))) aD) (YC (aq (ag Dx wf Fa)) (au eq) aD))))))) 100000)))
def dM:Nat->YG
 |0=>λ_ _=>zc
 |n+1=>aL 3 (ak (YC (aq (ag Dx (YW al (fP be) (fP (LT be ac))) zn)) (au (ar kh (ae al (LE be)))) aD) (ak (YC (aq (O0 ci bd)) (au eq) aD) (au (ar (lY n) (ae al (ae (LT be ac) (LE (O7 ci ac))))))))
end
noncomputable def fi:YG:=aL 2 (ak (ay 1 (ar (dM 25) (ae al (ae bd (LE sK))))) (ak (YC (bj (aq (ag EY be eq)) (aq (O8 (No be ac) (O6 (LE al))))) (au eq) aD) (au (du (bq (ar lO (LE (No be bd)))) (No be bd) eq))))
noncomputable def iw:YG:=aL 1 (ak (YC (aq (O0 (No al bd) db)) (au (O5 (LE (ar (g0 25) (LE (No al ac)))))) aD) (ak (YC (aq (O0 (No al bd) f8)) (au (O5 (LE (YR dE (LE (No al ac)))))) aD) (ak (YC (aq (O0 (No al bd) ii)) (au (O5 (LE (YR dE (LE (O6 (LE (No al ac)))))))) aD) (au (O5 ah)))))
noncomputable def gX:Nat->YG
 |0=>λ_ _=>zc
 |n+1=>aL 3 (ak (fA 1 (O5 (LE (No al bd))) (ar iw (LE al))) (ak (dX 2 (cQ (ar jg (LE al))) (gV 1 (ar (gX n) (LE ci)))) (au be)))
noncomputable def jf:Nat->YG
 |0=>λ_ _=>zc
 |n+1=>aL 3 (ak (YC (aq (O0 (No al bd) ld)) (au (O5 (ae (No al bd) (LE (No al ac))))) aD) (ak (fA 1 (O5 (LE (No al bd))) (ar (gX 25) (LE (No al ac)))) (ak (dX 2 (cQ (YW al (fP cr) aS)) (gV 1 (ar (jf n) (LE ci)))) (au be))))
def ji:YG:=aL 1 (au (ag iU (fC (.str " ")) (ar (jf 25) (LE al))))
noncomputable def jq(C:Addr):YG:=aL 2 (ak (ay 1 (ar fi (LE (cj C "ahead" (dw C) al ah)))) (ak (fD (cj C "take" (iz C) al (LE (ag fm be eq)))) (au be)))
noncomputable def nQ(C:Addr):Gj:=XO.dW 2 (XO.df (ay 1 (ar fi (LE (cj C "ahead" (dw C) al ah)))) (XO.fq C "take" (jh C) al (LE (ag fm be eq))))
noncomputable def fF(C:Addr):YG:=aL 4 (ak (ay 2 (bH (cK be) bB (YR dE (LE al)))) (ak (ay 3 (cj C "ahead" (dw C) al ah)) (ak (fD (cj C "take" (iz C) al (LE (O9 bn ci)))) (au (tX ci bn)))))
noncomputable def lF(C:Addr):Gj:=XO.dW 4 (XO.df (ay 2 (bH (cK be) bB (YR dE (LE al)))) (XO.df (ay 3 (cj C "ahead" (dw C) al ah)) (XO.fq C "take" (jh C) al (LE (O9 bn ci)))))
mutual
def iB(C:Addr):Nat->YG
 |0=>λ_ _=>zc
 |n+1=>aL 4 (au (YR eM (LE (bH (cK be) bB (ar (bO C n) (ae be (ae bn (LE dL))))))))
def bO(C:Addr):Nat->YG
 |0=>λ_ _=>zc
 |n+1=>aL 4 (ak (ay 3 (cj C "ahead" (dw C) al ah)) (ak (fD (cj C "begin" (eZ C) al (ae (ly (O9 bn (fC (.tuple [.str "put",.str "got",.str "row"]))) (Y8 (De [("many",1),("part",2),("sum",2),("join",2),("same",2),("less",2)]) bn)) (LE be)))) (ak (YC (aq (O0 bn db)) (au (O4 (ae bn (LE (ar (jq C) (LE al)))))) aD) (ak (YC (aq (O0 bn f8)) (au (O4 (ae bn (LE (ar (fF C) (ae al (LE ci))))))) aD) (ak (YC (aq (O0 bn ii)) (au (O4 (ae bn (LE (ar (iB C n) (ae al (ae (ar (fF C) (ae al (LE (LT im ac)))) (ae (LT be ac) (LE ci))))))))) aD) (au (LT (O4 (LE bn)) (ar (iB C n) (ae al (ae (Y8 (atT [("many",1),("part",2),("sum",2),("join",2),("same",2),("less",2)]) bn) (ae (LT be ac) (LE ci))))))))))))
end
mutual
def lN(C:Addr):Nat->Gj
 |0=>λ_ _=>zc
 |n+1=>XO.dW 4 (XO.o9 (cK be) (ar (bO C n) (ae be (ae bn (LE dL)))) (XO.cZ (cS C n) (ae be (ae bn (LE dL)))))
def cS(C:Addr):Nat->Gj
 |0=>λ_ _=>zc
 |n+1=>XO.dW 4 (XO.df (ay 3 (cj C "ahead" (dw C) al ah)) (XO.dq (XO.fq C "begin" (iy C) al (ae (ly (O9 bn (fC (.tuple [.str "put",.str "got",.str "row"]))) (Y8 (De [("many",1),("part",2),("sum",2),("join",2),("same",2),("less",2)]) bn)) (LE be))) (XO.df (fD (cj C "begin" (eZ C) al (ae (ly (O9 bn (fC (.tuple [.str "put",.str "got",.str "row"]))) (Y8 (De [("many",1),("part",2),("sum",2),("join",2),("same",2),("less",2)]) bn)) (LE be)))) (XO.dq (XO.iq (aq (O0 bn db)) (XO.f9 bn (XO.cZ (nQ C) (LE al)))) (XO.df (YC (aq (O0 bn db)) (au (O4 (ae bn (LE (ar (jq C) (LE al)))))) aD) (XO.dq (XO.iq (aq (O0 bn f8)) (XO.f9 bn (XO.cZ (lF C) (ae al (LE ci))))) (XO.df (YC (aq (O0 bn f8)) (au (O4 (ae bn (LE (ar (fF C) (ae al (LE ci))))))) aD) (XO.dq (XO.iq (aq (O0 bn ii)) (XO.f9 bn (XO.dq (XO.f9 al (XO.cZ (lF C) (ae al (LE (LT im ac))))) (XO.cZ (lN C n) (ae al (ae (ar (fF C) (ae al (LE (LT im ac)))) (ae (LT be ac) (LE ci)))))))) (XO.df (YC (aq (O0 bn ii)) (au (O4 (ae bn (LE (ar (iB C n) (ae al (ae (ar (fF C) (ae al (LE (LT im ac)))) (ae (LT be ac) (LE ci))))))))) aD) (XO.f9 (O4 (LE bn)) (XO.cZ (lN C n) (ae al (ae (Y8 (atT [("many",1),("part",2),("sum",2),("join",2),("same",2),("less",2)]) bn) (ae (LT be ac) (LE ci)))))))))))))))
end
noncomputable def jn(C:Addr):YG:=aL 2 (ak (ay 1 (cj C "ahead" (dw C) al ah)) (ak (fD (cj C "take" (iz C) al (LE (ar fM (LE be))))) (au be)))
noncomputable def nG(C:Addr):Gj:=XO.dW 2 (XO.df (ay 1 (cj C "ahead" (dw C) al ah)) (XO.fq C "take" (jh C) al (LE (ar fM (LE be)))))
noncomputable def bK(C:Addr):Nat->YG
 |0=>λ_ _=>zc
 |n+1=>aL 6 (ak (ay 3 (cj C "ahead" (dw C) al ah)) (ak (fD (cj C "begin" (eZ C) al (ae (bZ (Y8 (De [("say",0),("fail",0),("want",1),("peek",1),("when",2)]) bn) (iW (bZ (O9 bn (fC (.tuple [.str "want",.str "peek"]))) (O0 ci wp)))) (LE be)))) (ak (YC (aq (O0 bn ld)) (au (O4 (ae bn (LE (ar (jn C) (LE al)))))) aD) (ak (ay 4 (ar (bO C 50) (ae al (ae (LT be ac) (LE ci))))) (ak (ay 5 (ar kg (ae bn (LE ci)))) (au (LT (O4 (ae bn (LE dL))) (YR eM (LE (bH (cK (Y8 (atT [("say",0),("fail",0),("want",1),("peek",1),("when",2)]) bn)) bB (ar (bK C n) (ae be (ae (LT ci ac) (LE wT))))))))))))))
noncomputable def cM(C:Addr):Nat->Gj
 |0=>λ_ _=>zc
 |n+1=>XO.dW 6 (XO.df (ay 3 (cj C "ahead" (dw C) al ah)) (XO.dq (XO.fq C "begin" (iy C) al (ae (bZ (Y8 (De [("say",0),("fail",0),("want",1),("peek",1),("when",2)]) bn) (iW (bZ (O9 bn (fC (.tuple [.str "want",.str "peek"]))) (O0 ci wp)))) (LE be))) (XO.df (fD (cj C "begin" (eZ C) al (ae (bZ (Y8 (De [("say",0),("fail",0),("want",1),("peek",1),("when",2)]) bn) (iW (bZ (O9 bn (fC (.tuple [.str "want",.str "peek"]))) (O0 ci wp)))) (LE be)))) (XO.dq (XO.iq (aq (O0 bn ld)) (XO.f9 bn (XO.cZ (nG C) (LE al)))) (XO.df (YC (aq (O0 bn ld)) (au (O4 (ae bn (LE (ar (jn C) (LE al)))))) aD) (XO.dq (XO.cZ (cS C 50) (ae al (ae (LT be ac) (LE ci)))) (XO.df (ay 4 (ar (bO C 50) (ae al (ae (LT be ac) (LE ci))))) (XO.df (ay 5 (ar kg (ae bn (LE ci)))) (XO.f9 (O4 (ae bn (LE dL))) (XO.o9 (cK (Y8 (atT [("say",0),("fail",0),("want",1),("peek",1),("when",2)]) bn)) (ar (bK C n) (ae be (ae (LT ci ac) (LE wT)))) (XO.cZ (cM C n) (ae be (ae (LT ci ac) (LE wT))))))))))))))
noncomputable def eG(C:Addr):YG:=aL 3 (iX 1 C (dI C) al (ak (ay 2 (ar (bK C 25) (ae be (ae bd (LE bd))))) (ak (fD (cj C "finish" (je C) be ah)) (au ci))))
noncomputable def gm(C:Addr):Gj:=XO.dW 3 (XO.jJ 1 C (dI C) al (XO.dq (XO.cZ (cM C 25) (ae be (ae bd (LE bd)))) (XO.df (ay 2 (ar (bK C 25) (ae be (ae bd (LE bd))))) (XO.fq C "finish" (lE C) be ah))))
def ut:YG:=pH 1 (zo (ae al (ae bd (LE bd))))
noncomputable def aX:YG:=aL 6 (ak (YC (aq (O0 (No al cr) bd)) (ak (ay 2 (No al ac)) (ak (ip al ac (LT ci ac)) (ak (ay 3 ci) (ak (YC (aq (ag Dj (O6 (LE (No al bd))) bd)) (ay 3 (No (No al bd) (ag f7 ci (O6 (LE (No al bd)))))) aD) (ak (YC (bj (aq (O8 bn (ag fZ kt u8))) (aq (ag Bx ci (O6 (LE (No al bd)))))) (ak (ay 4 (ag f7 (ag er (LT (ag f7 bn (fC (.int 1000003))) ac) (LT (fC (.int 48271)) (ag er cr (ag f7 ci (fC (.int 997)))))) (fC (.int 2147483647)))) (au (ag f7 (ag eU (ag f7 (ag er (LT dL (ag er (fC (.int 104729)) ci)) (fC (.int 69621))) (fC (.int 2147483629))) (fC (.int 7))) be))) aD) (ip al cr bn)))))) aD) (ak (ay 5 (ag f7 (No al cr) be)) (ak (ip al cr (ag eU (No al cr) be)) (au wf))))
noncomputable def jm:YG:=aL 4 (ak (ay 1 (O5 (ae AT (ae (fC (.str "ab")) (ae (fC (.str "abc")) (ae (fC (.str "b")) (ae sw (ae mt (ae db (ae f8 (ae ii (ae (fC (.str "made")) (ae (fC (.str "told")) (ae ld (ae (fC (.str "fails")) (LE Go)))))))))))))))) (ak (ay 1 (LT be (O5 (LE BT)))) (ak (ay 1 (LT be (O5 (ae ww (ae Ch (ae Db (ae (fC (.str "kind")) (ae Id (ae (fC (.str "zzzzzzzz")) (ae (fC (.str "lacks")) (LE (fC (.str "x"))))))))))))) (ak (ay 2 (ar aX (ae al (LE (fC (.int 30)))))) (ak (YC (aq (O8 ci (fC (.int 23)))) (au (No be ci)) aD) (ak (ay 3 lf) (au (ag ic nw (bH (cK (LT ac (ar aX (ae al (LE im))))) bB (No dL (ar aX (ae be (LE (fC (.int 26)))))))))))))))
noncomputable def ki:YG:=aL 3 (ak (ay 1 io) (ak (ay 2 (ar aX (ae al (LE im)))) (ak (YC (aq (O8 ci pi)) (au (No (O5 (ae nw (ae AT (LE (fC (.str "-5")))))) ci)) aD) (ak (YC (aq (O8 ci wP)) (au (ar jm (LE al))) aD) (au (ag ic nw (bH (cK (No (O5 (ae (ar aX (ae al (LE (fC (.int 21))))) (LE wS))) (O7 ci wP))) bB (No ci (ar aX (ae be (LE (fC (.int 37)))))))))))))
noncomputable def kf:YG:=aL 2 (ak (ay 1 (ar aX (ae al (LE wp)))) (ak (YC (aq (O8 be tz)) (au (No (O5 (ae bd (ae ac (ae (Y8 lu ac) (ae cr (ae pi (ae kt (ae (ag fZ kt u8) (ae (Y8 lu (ag fZ kt u8)) (LE (O7 (ag fZ kt u8) ac))))))))))) be)) aD) (au (ag er (LT (ag er (ar aX (ae al (LE (ag fZ kt tz)))) (ag fZ kt tz)) (ar aX (ae al (LE (ag fZ kt tz))))) (No (O5 (ae ac (LE (Y8 lu ac)))) (ar aX (ae al (LE cr))))))))
noncomputable def fG:Nat->YG
 |0=>λ_ _=>zc
 |n+1=>aL 5 (ak (ay 3 (ar aX (ae al (LE (fC (.int 7)))))) (ak (YC (aq (O8 bn cr)) (au (ar kf (LE al))) aD) (ak (YC (bj (aq (O8 bn sK)) (aq (O0 be bd))) (au (ar ki (LE al))) aD) (ak (ay 4 (ar aX (ae al (LE (YR jP (ae tz (LE ci))))))) (au (YR eM (LE (bH (cK dL) bB (ar (fG n) (ae be (ae (O7 ci ac) (LE (ag eU (O7 bn ac) wf)))))))))))))
noncomputable def fH:Nat->YG
 |0=>λ_ _=>zc
 |n+1=>aL 3 (ak (YC (bq (Y8 (bN .tup) al)) (ak (ay 1 nw) (ak (dX 2 (cQ al) (ay 1 (LT (LT be Fa) (ar (fH n) (LE ci))))) (au (LT (LT zn (YW be (fP ac) aS)) on)))) aD) (ak (YC (bq (Y8 (bN .str) al)) (au (LT wE al)) aD) (au (YR dE (LE al)))))
noncomputable def eI:Nat->YG
 |0=>λ_ _=>zc
 |n+1=>aL 3 (ak (YC (bj (bq (Y8 (bN .bl) al)) (aq (ag EY al eq))) (au Fr) aD) (ak (YC (bq (Y8 (bN .int) al)) (au (du (aq (ag Dv (YR nj (LE al)) (ag fZ kt u8))) ac Fr)) aD) (ak (YC (bq (Y8 (bN .str) al)) (ak (ay 2 (bH (cQ al) (aq (O9 al io)) al)) (au (du (eg (aq (ag Dv (O6 (LE al)) wS)) (aq (O0 (O6 (LE ci)) (O6 (LE al))))) ac Fr))) aD) (ak (YC (bj (dC (bq (Y8 (bN .tup) al))) (bj (aq (ag Dj (O6 (LE al)) im)) (aq (ag Dj be pi)))) (au Fr) aD) (au (LT ac (YR jY (LE (bH (cQ al) bB (ar (eI n) (ae al (LE (LT ci ac)))))))))))))
noncomputable def kc:YG:=aL 1 (ak (YC (bj (dC (bq (Y8 (bN .str) al))) (dC (aq (kM Dv Dv ac (O6 (LE al)) im)))) (au pr) aD) (au (O0 (O6 (LE (bH (cQ al) (aq (O9 al lf)) al))) (O6 (LE al)))))
noncomputable def kj:YG:=aL 2 (ak (YC (eg (aq (ag Dj be bd)) (aq (ag Dj (ar aX (ae al (LE pi))) bd))) (au (O4 (ae f8 (LE (ar aX (ae al (LE be))))))) aD) (au (O4 (ae db (LE (ar (fG 25) (ae al (ae cr (LE im)))))))))
noncomputable def dz:Nat->YG
 |0=>λ_ _=>zc
 |n+1=>aL 8 (ak (ay 4 (ar aX (ae al (LE (fC (.int 11)))))) (ak (YC (bj (aq (O8 dL sK)) (bj (aq (O8 ci pi)) (aq (O8 bn cr)))) (au (ar kj (ae al (LE be)))) aD) (ak (YC (aq (O8 dL wP)) (ak (ay 5 (ar aX (ae al (LE (YR jP (ae tz (LE ci))))))) (au (O4 (ae ii (LE (YR eM (LE (bH (cK wf) bB (ar (dz n) (ae be (ae ci (ae (ag eU (O7 bn ac) wT) (LE (O7 dL ac)))))))))))))) aD) (ak (YC (aq (O0 dL wP)) (au (O4 (ae BT (LE (ar (dz n) (ae al (ae be (ae (O7 ci ac) (LE (O7 bn ac)))))))))) aD) (ak (ay 6 (No (O5 (ae Ch (ae Db (ae Ix (ae IN (LE IO)))))) (ar aX (ae al (LE (fC (.int 5))))))) (ak (ay 7 (ar (dz n) (ae al (ae be (ae (ag eU (O7 ci ac) cr) (LE (O7 bn ac))))))) (au (O4 (ae wT (ae Cl (LE (ar (dz n) (ae al (ae be (ae (ag eU (O7 ci ac) cr) (LE (O7 bn ac)))))))))))))))))
noncomputable def dJ:YG:=aL 1 (ak (YC (aq (O9 (No al bd) (O5 (ae db (ae f8 (LE ld)))))) (au (O5 ah)) aD) (ak (YC (aq (O0 (No al bd) ii)) (au (YR iS (LE (No al ac)))) aD) (au (YR iS (LE (YW al (fP ac) aS))))))
noncomputable def gn:Nat->YG
 |0=>λ_ _=>zc
 |n+1=>aL 1 (au (LT ac (YR jY (LE (bH (cQ (ar dJ (LE al))) bB (ar (gn n) (LE al)))))))
noncomputable def lH:YG:=aL 4 (ak (YC (aq (ag Dj (ar aX (ae al (LE wP))) bd)) (au (O4 (ae db (LE (ar jm (LE al)))))) aD) (au (ar (dz 25) (ae al (ae be (ae (YR jP (ae ci (LE (fC (.int 5))))) (LE bn)))))))
noncomputable def dy:Nat->YG
 |0=>λ_ _=>zc
 |n+1=>aL 9 (ak (ay 4 (ar aX (ae al (LE kt)))) (ak (YC (bj (aq (O8 ci cr)) (bj (aq (O8 bn cr)) (aq (O0 dL bd)))) (au (O4 (ae ld (LE (ar jm (LE al)))))) aD) (ak (YC (bj (aq (O8 ci (fC (.int 5)))) (bj (aq (O8 dL pi)) (eg (aq (O8 dL im)) (aq (O0 be wp))))) (au (O4 (ae sw (LE (ar (dz 25) (ae al (ae be (ae (O7 ci ac) (LE (O7 bn ac)))))))))) aD) (ak (YC (aq (O8 dL im)) (ak (ay 5 (ar lH (ae al (ae be (ae (O7 ci pi) (LE (O7 bn ac))))))) (ak (ay 6 (O7 (O7 ci ac) (ar (gn 25) (LE wf)))) (au (O4 (ae (No (O5 (ae mt (ae mt (LE ww)))) (ar aX (ae al (LE pi)))) (ae wf (LE (ar (dy n) (ae al (ae (LT be ac) (ae wT (LE (O7 bn ac))))))))))))) aD) (ak (ay 7 (ar (dz 25) (ae al (ae be (ae (ag eU ci sK) (LE (O7 bn ac))))))) (ak (ay 6 (ag eU (O7 (O7 ci ac) (ar (gn 25) (LE Cl))) cr)) (ak (ay 8 (ar (dy n) (ae al (ae be (ae wT (LE (O7 bn ac))))))) (au (O4 (ae Go (ae Cl (ae (aa 8) (LE (ar (dy n) (ae al (ae be (ae wT (LE (O7 bn ac)))))))))))))))))))
noncomputable def cp:Nat->YG
 |0=>λ_ _=>zc
 |n+1=>aL 3 (ak (fU 1 (LE (No al bd))) (ak (YC (aq (O0 (No al bd) db)) (eX 1 (ar (fH 25) (LE (No al ac)))) (YC (bj (aq (O0 (No al bd) f8)) (aq (O0 (No al bd) ld))) (eX 1 (YR jZ (LE (No al ac)))) (YC (aq (O0 (No al bd) ii)) (eX 1 (YR jZ (LE (O6 (LE (No al ac)))))) aD))) (ak (dX 2 (cQ (ar dJ (LE al))) (gV 1 (ar (cp n) (LE ci)))) (au be))))
noncomputable def gp:Nat->YG
 |0=>λ_ _=>zc
 |n+1=>aL 6 (ak (YC (aq (O0 al ac)) (au (O4 (ae db (LE bd)))) aD) (ak (ay 1 (YR jP (ae im (LE (O7 al ac))))) (ak (ay 2 (O7 al ac)) (ak (fU 3 ah) (ak (dX 4 (cK be) (ak (ay 5 (ag eU ci (O7 be dL))) (ak (eX 3 (ar (gp n) (LE wf))) (ay 2 (O7 ci wf))))) (au (O4 (ae ii (LE (YR eM (LE bn)))))))))))
noncomputable def gZ:YG:=aL 3 (ak (ay 1 (O4 (ae db (LE nw)))) (ak (dX 2 (cK (O7 al ac)) (ay 1 (O4 (ae BT (LE be))))) (au be)))
noncomputable def gh:Nat->YG
 |0=>λ_ _=>zc
 |n+1=>aL 8 (ak (YC (aq (ag Dx (YW al (fP be) (fP (LT be ac))) zn)) (ak (ay 2 be) (ak (cN (eg (aq (O8 ci (O6 (LE al)))) (aq (ag dk (No al ci) (fC (.str "(),"))))) (ay 2 (LT ci ac)) 100000) (ak (ay 3 (YW al (fP be) (fP ci))) (ak (YC (aq (O0 (YW bn aS (fP ac)) wE)) (au (O4 (ae (YW bn (fP ac) aS) (LE ci)))) aD) (ak (ay 4 (du (aq (O0 (YW bn aS (fP ac)) (fC (.str "-")))) (YW bn (fP ac) aS) bn)) (ak (ay 5 (O6 (LE (bH (cQ dL) (aq (ag dk al (fC (.str "0123456789")))) al)))) (ak (YC (bj (aq (O0 dL nw)) (bj (aq (ag Dj wf bd)) (bj (aq (ag Dj (O6 (LE dL)) (fC (.int 30)))) (eg (aq (O0 (No dL bd) At)) (aq (ag Dx bn At)))))) (au eq) aD) (au (O4 (ae (YR intD (LE bn)) (LE ci))))))))))) aD) (ak (YC (aq (ag Dj (O7 (ag jV (YW al aS (fP be)) zn) (ag jV (YW al aS (fP be)) on)) pi)) (au eq) aD) (ak (fU 6 ah) (ak (YC (aq (O0 (YW al (fP (LT be ac)) (fP (LT be cr))) on)) (au (O4 (ae (O4 ah) (LE (LT be cr))))) aD) (cN (bq (fC (.bool xV))) (ak (ay 7 (ar (gh n) (ae al (LE (LT be ac))))) (ak (YC (bj (aq (ag EY Cl eq)) (aq (ag dk (YW al (fP (No Cl ac)) (fP (LT (No Cl ac) ac))) (O5 (ae on (LE Fa)))))) (au eq) aD) (ak (eX 6 (No Cl bd)) (ak (ay 1 (No Cl ac)) (YC (aq (O0 (No al be) on)) (au (O4 (ae (YR eM (LE wT)) (LE (LT be ac))))) aD))))) 100000)))))
noncomputable def kb:YG:=aL 2 (ak (ay 1 (ar (gh 25) (ae al (LE bd)))) (au (bZ (ag fm be eq) (bZ (O0 (No be ac) (O6 (LE al))) (ag Dv (ar (eI 25) (ae (No be bd) (LE bd))) (fC (.int 40)))))))
noncomputable def dZ:YG:=aL 8 (ak (ay 4 (O4 (ae KK (ae ci (LE (LT bn ac)))))) (ak (YC (aq (O0 al sB)) (ak (ay 5 (O4 (ae sB (ae ci (LE (LT bn ac)))))) (ak (fR 6 (dA "say" (O5 (LE dL)) (dA "fail" (O5 (LE (O4 (ae Id (ae bd (LE bd)))))) (dA "when" (O5 (ae dL (ae wf (LE wf)))) fV)))) (ak (YC (aq (O8 ci wp)) (ak (fB 6 mt (O5 (ae dL (LE (O4 (ae sB (ae (LT ci ac) (LE (LT bn ac))))))))) (fB 6 ww (ag lc wT mt))) aD) (au (fW wT be))))) aD) (ak (fR 6 (dA "put" (O5 (LE (O4 (ae (fC (.str "stamp")) (ae bd (LE bd)))))) (dA "got" (O5 (LE (O4 (ae (fC (.str "k")) (ae ci (LE bd)))))) (dA "row" (O5 (LE (O4 (ae (fC (.str "n")) (ae ci (LE (LT bn ac))))))) (dA "many" (O5 (LE dL)) fV))))) (ak (dX 7 (cQ (O5 (ae Ch (ae Db (ae Ix (ae IN (LE IO))))))) (fB 6 Cl (O5 (ae dL (LE dL))))) (au (fW wT be))))))
noncomputable def fh:YG:=aL 3 (ak (YC (aq (O0 al (fC (.str "stamp")))) (au (ar kb (LE be))) aD) (ak (YC (aq (O0 al Id)) (au (ar kc (LE be))) aD) (au (O9 be (bH (cK (du (aq (O0 al (fC (.str "k")))) ci tz)) bB (YR dE (LE al)))))))
noncomputable def jj:YG:=aL 8 (ak (fU 1 (LE (O4 (ae sB (ae bd (LE bd)))))) (ak (ay 2 bd) (ak (dX 3 (cK (O6 (LE al))) (ak (YC (aq (O0 (O6 (LE be)) bd)) (au bn) aD) (ak (lh 1 4 5 6) (YC (bj (aq (O0 dL sB)) (aq (O0 dL KK))) (ak (ay 7 (ar dZ (ae dL (ae (No al bn) (ae wf (LE wT)))))) (ak (YC (bj (aq (ag EY Cl eq)) (bj (aq (O0 wT wS)) (aq (O0 ci (fC (.int 60)))))) (au bn) aD) (ak (ay 2 (LT ci ac)) (fA 1 be (Y8 mQ Cl))))) (YC (dC (bq (ar fh (ae dL (ae (No al bn) (LE wf)))))) (au bn) (YC (aq (O0 dL (fC (.str "n")))) (fA 1 be (ag m8 (O5 (LE (O4 (ae KK (ae wf (LE wT)))))) (YR intD (LE (No al bn))))) aD)))))) (ak (YC (aq (ag Dj (O6 (LE be)) bd)) (au (O6 (LE al))) aD) (au eq)))))
noncomputable def ke:YG:=aL 8 (ak (ay 2 (O5 (ae nw (ae sw (ae ld (ae mt (ae ww (ae Go (ae db (ae f8 (ae ii (ae BT (ae Ch (ae Db (LE Ix))))))))))))))) (ak (ay 2 (LT ci (O5 (ae IN (LE IO))))) (ak (ay 2 (LT ci (O5 (ae At (ae (fC (.str "1")) (ae (fC (.str "2")) (ae (fC (.str "8")) (ae (fC (.str "9")) (ae (fC (.str "12")) (ae (fC (.str "00")) (ae (fC (.str "-1")) (ae (fC (.str "()")) (ae (fC (.str "(0)")) (ae (fC (.str "(0")) (ae wE (ae (fC (.str "'a")) (ae (fC (.str "'A")) (ae AT (ae (fC (.str "A")) (LE (fC (.str "Say")))))))))))))))))))))) (ak (ay 2 (LT ci (O5 (LE (fC (.str "abcdefghi")))))) (ak (ay 2 (LT ci (O5 (ae (fC (.str "((((()))))")) (ae (fC (.str "1000000000000000001")) (ae (fC (.str "-")) (ae (fC (.str "(,)")) (ae (LT wE (ag er AT (fC (.int 21)))) (ae (fC (.str "(0,'a)")) (LE (fC (.str "+1")))))))))))) (ak (ay 3 (ar aX (ae al (LE (O6 (LE be)))))) (ak (ay 4 (No be bn)) (ak (ay 5 (ar aX (ae al (LE (LT (O6 (LE dL)) ac))))) (ak (ay 6 (No (fC (.str "0a-(,)' 9Z")) (ar aX (ae al (LE kt))))) (ak (ay 7 (ar aX (ae al (LE tz)))) (ak (YC (aq (O8 Cl sK)) (au (No (O5 (ae (LT (YW be aS (fP bn)) (YW be (fP (LT bn ac)) aS)) (ae (LT (LT (YW be aS (fP bn)) (O5 (LE dL))) (YW be (fP bn) aS)) (ae (LT be (O5 (LE dL))) (LE (YW be aS (fP bn))))))) Cl)) aD) (ak (YC (aq (O8 Cl wP)) (ay 4 (No ci (ar aX (ae al (LE (fC (.int 40))))))) (YC (aq (O0 Cl wP)) (ay 4 (LT (LT (YW dL aS (fP wf)) wT) (YW dL (fP wf) aS))) (YC (aq (O0 Cl (fC (.int 7)))) (ay 4 (LT (LT (YW dL aS (fP wf)) wT) (YW dL (fP (LT wf ac)) aS))) (ay 4 (LT (YW dL aS (fP wf)) (YW dL (fP (LT wf ac)) aS)))))) (au (LT (LT (YW be aS (fP bn)) (O5 (LE dL))) (YW be (fP (LT bn ac)) aS)))))))))))))))
noncomputable def nq:YG:=aL 3 (ak (ay 1 (O4 (ae sw (LE (O4 (ae f8 (LE (fC (.int 11))))))))) (ak (dX 2 (cK (LT wp (ar aX (ae al (LE cr))))) (ay 1 (O4 (ae (No (O5 (ae mt (LE ww))) (ar aX (ae al (LE cr)))) (ae (O4 (ae db (LE AT))) (LE be)))))) (au (O5 (ae be (ae (O4 (ae sw (LE (ar (gp 25) (LE (LT (fC (.int 58)) (ar aX (ae al (LE sK))))))))) (LE (O4 (ae sw (LE (ar gZ (LE (LT u8 (ar aX (ae al (LE sK))))))))))))))))
noncomputable def lI:Nat->YG
 |0=>λ_ _=>zc
 |n+1=>aL 2 (ak (YC (bj (bq (Y8 (bN .tup) al)) (bq (Y8 (bN .lst) al))) (ak (YC (aq (ag Dx (Y8 (bN .tup) al) (Y8 (bN .tup) be))) (au pr) aD) (ak (YC (aq (ag Dx (Y8 (bN .lst) al) (Y8 (bN .lst) be))) (au pr) aD) (ak (YC (aq (ag Dx (O6 (LE al)) (O6 (LE be)))) (au pr) aD) (au (YR lB (LE (bH (cK (O6 (LE al))) bB (ar (lI n) (ae (No be al) (LE (No ci al))))))))))) aD) (ak (YC (aq (ag EY al eq)) (au (ag EY be eq)) aD) (ak (YC (bq (Y8 (bN .str) al)) (au (bZ (Y8 (bN .str) be) (O0 be al))) aD) (ak (YC (bq (Y8 (bN .bl) al)) (au (bZ (Y8 (bN .bl) be) (O0 be al))) aD) (au (bZ (Y8 (bN .int) be) (bZ (iW (Y8 (bN .bl) be)) (O0 be al))))))))
open K1 (has HY Z6 single aG aI Io isName aM Jv)
mutual
def IY:OF->Bool
 |.str x=>decide (x.length<=60000)&&x.cps.toList.all λc=>decide (c<128)
 |.tuple ds=>iZ ds
 |_=>xV
def iZ:List OF->Bool
 |[]=>xV
 |d::r=>IY d&&iZ r
end
def Sm(d:OF):Prop:=IY d=xV
def Sm.both(h:Sm (.str x)):x.length<=60000/\∀c∈x.cps.toList,c<128:=by
 have h':=by
  have:IY _=xV:=h
  rw[IY] at this<;>omega
 rw[OW,Pd] at h';exact⟨of_decide_eq_true h'.1,λc hc=>of_decide_eq_true (h'.2 c hc)⟩
theorem Sm.str(h:Sm (.str x)):x.cps.size<=60000:=h.both.1
def Sm.mkS(h:x.length<=60000)(h2:∀c∈x.cps.toList,c<128):Sm (.str x):=by
 show IY _=xV;rw[IY,OW,Pd];exact⟨decide_eq_true h,λc hc=>decide_eq_true (h2 c hc)⟩
theorem v8:∀{ds:List OF}{d:OF},iZ ds=xV->d∈ds->IY d=xV
 |e::r,d,h,hd=>by
  have h':(IY e&&iZ r)=xV:=by simpa[iZ] using h
  rw[OW] at h'
  rcases OZ.mp hd with z|z
  .simp_all
  .exact v8 h'.2 z
def Sm.part(h:Sm (.tuple ds))(hd:d∈ds):Sm d:=v8 (by simpa[Sm,IY] using h) hd
theorem xD:∀{ds:List OF},(∀d∈ds,Sm d)->iZ ds=xV
 |[],_=>by simp[iZ]
 |d::r,h=>by
  have h1:IY d=xV:=h d OU;simp[iZ,h1,xD  λx hx=>h x (OP _ hx)]
def Sm.tup(h:∀d∈ds,Sm d):Sm (.tuple ds):=by simp[Sm,IY,xD h]
def whole:OF->Bool
 |.int _=>xV
 |_=>zd
def mr(x:OF)(T:Tp):nF [.d x] T=vd (.bool (whole x),T):=by cases x <;> rfl
def qA(y x:Str):(D.signs x).all (gv y)=has y x:=by
 unfold D.signs has;rw[X6]
 congr 1
 funext c;exact rh y c
noncomputable def tN(T:Tp)(h:x.length<=OO):g8 [.d (.str x),.d (.str y)] T=vd (.bool (has y x),T):=by
 have hc:bI _ (O9 al ci) [vd (.d (.str x)),vd (.d (.str y))] _ T=vd ((D.signs x).map λd=>.bool (gv y d),T):=gr λd hd=>by
  obtain⟨c,_,rfl⟩:=qz hd;rfl
 simp[g8,h,hc,qA]
noncomputable def zjv(T:Tp)(h:Sm d):lL [.d d] T=vd (.bool (single d),T):=by
 cases d with
 |str x=>
  have hz:x.length<=sizeLine:=OS h.str (by decide);have hh:∀T,g8 [.d _,.d (.str "abcdefghijklmnopqrstuvwxyz0123456789-")] T=vd (.bool (has Z6 x),T):=λT=>tN T hz;have e:single (.str x)=(decide _&&has Z6 x):=rfl;have hi:cC .str .str=xV:=rfl
  by_cases hk:x.length<=20
  .have Ek:(x.length:Int)<=20:=by lia
   simp[lL,mr,whole,hh,hz,hi,e,hk,Ek]
  .have Ek:¬(x.length:Int)<=20:=by lia
   simp[lL,mr,whole,hz,hi,e,hk,Ek]
 |_=>rfl
def oZ(h:kd d=.tup):∃ds,d=.tuple ds:=by cases d <;> first|simp_all|cases h
def xY(h:kd d≠.tup):cC (kd d) .tup=zd:=by
 revert h
 cases kd d <;> simp[cC]
def uA(h:kd d≠.tup):aG n d=single d:=by cases d <;> first|(cases n <;> rfl)|exact absurd rfl h
def uJ(h:kd d≠.tup):aI n d=1:=by cases d <;> first|(cases n <;> rfl)|exact absurd rfl h
def zjw(h:Jv 0 d=xV):kd d≠.tup:=by
 intro z
 cases d <;> first|cases h;done|cases z
theorem o8:cC .tup .tup=xV:=rfl
theorem yQ:∀(n k:Nat) (d:OF) (T:Tp),Sm d->n<k->g7 k [.d d,.d (.int n)] T=vd (.bool (aG n d),T)
 |n,0,d,T,_,hk=>absurd hk (P8 _)
 |n,k+1,d,T,hg,hk=>by
  by_cases ht:kd d=.tup
  .obtain⟨ds,rfl⟩:=oZ ht
   cases n with
   |zero=>kernel_rfl
   |succ n=>
    have e:aG (n+1) (.tuple ds)=(decide (ds.length<=8)&&ds.all (aG n)):=rfl
    have h0:¬((n+1:Nat):Int)=0:=by lia
    have h0':¬(n:Int)+1=0:=by lia
    by_cases h8:ds.length<=8
    .have Dr:¬(8:Int)<(ds.length:Int):=by lia
     have hs:((n+1:Nat):Int)-1=(n:Int):=by lia
     have hc:bI bB (ar (g7 k) (ae al (LE (O7 ci ac)))) [vd (.d (.tuple ds)),vd (.d (.int ((n+1:Nat):Int)))] ds T=vd (ds.map λx=>.bool (aG n x),T):=gr λx hx=>by
      have:=yQ n k x T (hg.part hx) (by lia);simp[hs,this]
     simp[g7,o8,e,h0,h0',h8,Dr] at hc ⊢;simp[hc]
    .have Dr:(8:Int)<(ds.length:Int):=by lia
     simp[g7,o8,e,h0,h0',h8,Dr]
  .simp[g7,xY ht,uA ht,zjv T hg]
theorem zR:∀(n k:Nat) (d:OF) (T:Tp),Jv n d=xV->n<k->jo k [.d d] T=vd (.int (aI n d),T)
 |n,0,d,T,_,hk=>absurd hk (P8 _)
 |n,k+1,d,T,hg,hk=>by
  by_cases ht:kd d=.tup
  .cases n with
   |zero=>exact absurd ht (zjw hg)
   |succ n=>
    obtain⟨ds,rfl⟩:=oZ ht;have Hi:=hg;have e:aI (n+1) (.tuple ds)=1+(ds.map _).sum:=rfl
    have hc:bI _ (ar (jo k) (LE al)) [vd (.d (.tuple ds))] ds T=vd (ds.map λx=>.int (aI n x),T):=gr λx hx=>by
     have:=zR n k x T (Pd.mp Hi x hx) (by lia)<;>simp_all
    simp[jo,o8,e,hc]
  .simp[jo,xY ht,uJ ht]
noncomputable def zjx(T:Tp)(h:Sm d):lO [.d d] T=vd (.bool (aM d),T):=by
 have h1:=yQ 4 25 d T h (by decide);have Bf:g7 25 [.d d,.d (.int 4)] T=vd _:=h1;have e:aM d=(aG 4 d&&decide _):=rfl
 cases hb:aG 4 d with
 |false=>simp[lO,Bf,e,hb]
 |true=>
  have h2:=zR 4 25 d T (K1.vP 4 d hb) (by decide);simp[lO,Bf,h2,e,hb]
variable {R:Tp}
variable {R:Tp}
noncomputable def fS{α:Type}{xs:List α}{i:Int}(h0:0<=i)(h1:i<(xs.length:Int)):∃a,Zd xs i=vd a/\a∈xs:=by unfold Zd Zr<;>simp_all
theorem zjy:(HY.cps.toList.length:Int)=26 :=rfl
theorem zjz:(Z6.cps.toList.length:Int)=37:=rfl
def vG(cs:List Nat):((cs.map λc=>(⟨#[c]⟩:Str)).map (·.cps.toList)).flatten=cs:=by induction cs <;>simp_all
noncomputable def zka{y:Str}:∀{ys:List OF},(∀d∈ys,∃c,c∈y.cps.toList/\d=.str ⟨#[c]⟩)->∃x,d7 ys=vd x/\(x.map (·.length)).sum=ys.length/\x.length=ys.length/\has y (Py "" x)=xV/\(Py "" x).length=ys.length:=by
 intro ys h
 have key:∃cs:List Nat,(∀c∈cs,c∈y.cps.toList)/\ys=cs.map (λc=>QC ⟨#[c]⟩):=by
  induction ys with
  |nil=>exact⟨[],by simp,rfl⟩
  |cons d r ih=>
   obtain⟨cs,h1,h2⟩:=ih λx hx=>h x (OP _ hx);obtain⟨c,hc,rfl⟩:=h d OU;refine⟨c::cs,λx hx=>?_,by rw[h2];rfl⟩
   rcases OZ.mp hx with z|z
   .simp_all
   .exact h1 x z
 obtain⟨cs,h1,rfl⟩:=key;refine⟨cs.map λc=>_,qy _ cs,?_,by simp,?_,?_⟩
 .simp_all
  have:∀l:List Nat,(l.map ((λx:Str=>x.length) ∘ λc=>(⟨#[c]⟩:Str))).sum=l.length:=λl=>by
   induction l with
   |nil=>rfl
   |cons a r ih=>
    rw[PD,R5,ih,Nat.add_comm];rfl
  exact this cs
 .have jc:=qr (z:=OG "") (rfl) (cs.map λc=>(⟨#[c]⟩))
  unfold has;rw[jc,vG];exact Pd.mpr λc hc=>decide_eq_true (h1 c hc)
 .have jc:=qr (z:=OG "") (rfl) (cs.map λc=>(⟨#[c]⟩:Str))
  rw[PV];show (Py _ _).cps.size=_;rw[←Rp,jc,vG]
noncomputable def wI{z:Str}{xs:List OF}{ys:List Str}(h:d7 xs=vd ys):ic (.str z) (.list xs)=if (ys.map (·.length)).sum+ys.length*z.length<=16777216 then vd (.str (Py z ys)) else zc:=by
 show (match d7 xs with|some (ys)=>if (ys.map λx:Str=>x.length).sum+ys.length*z.length<=16777216 then vd _ else zc|none=>zc)=_;rw[h]
def jp(n:Nat):(bA 0 n).length=n:=by simp[bA]
def fL(h0:0<=j)(h1:j<=1000):jM j=xV:=decide_eq_true (by lia)
def zkb:HY.length<=sizeLine:=by decide +kernel
def zkc:Z6.length<=sizeLine:=by decide +kernel
noncomputable def ur(h:isName (.str x)=xV):single (.str x)=xV:=by
 have h':(decide _&&decide _&&has HY x)=xV:=h;rw[OW,OW] at h';have h8:=of_decide_eq_true h'.1.2;show (decide _&&has Z6 x)=xV;rw[decide_eq_true (by lia)]
 have sub:∀c∈HY.cps.toList,c∈Z6.cps.toList:=by decide +kernel
 exact Pd.mpr λc hc=>decide_eq_true (sub c (of_decide_eq_true (Pd.mp h'.2 c hc)))
noncomputable def gq(h : -1000000000000000000<=i)(h':i<=1000000000000000000):single (.int i)=xV:=by refine decide_eq_true ?_<;>lia
noncomputable def jk{n:Nat}{d:OF}(h:single d=xV):aG n d=xV/\aI n d=1:=by
 cases d with
 |int i=>exact⟨by cases n <;> exact h,by cases n <;> rfl⟩
 |str x=>exact⟨by cases n <;> exact h,by cases n <;> rfl⟩
 |_=>cases h
theorem yV{f:OF->Int}{q:Int}:∀{l:List OF},(∀d∈l,f d<=q)->(l.map f).sum<=l.length*q
 |[],_=>by simp
 |a::r,h=>by
  have h1:=h a OU;have h2:=yV  λd hd=>h d (OP _ hd)
  simp_all<;>grind
end G
namespace D
open L2
def cd(x:Str):List Nat:=x.cps.toList
def cI(h:cd x=cd y):x=y:=by
 obtain⟨x⟩:=x;obtain⟨y⟩:=y
 have h':x.toList=y.toList:=h<;>simp_all
theorem aU(x:Str):(cd x).length=x.length :=rfl
def gI(x y:Str):cd (x++y)=cd x++cd y:=TN x y
theorem vh{α:Type}(xs:List α)(a:Nat):∀k:Nat,(PY k).filterMap (λm=>xs[a+m]?)=(xs.drop a).take k
 |0=>by simp
 |k+1=>by
  rw[List.range_succ,List.filterMap_append,vh xs a k,V3];simp only[QY,List.filterMap_nil,List.getElem?_drop]
  cases xs[a+k]? <;> rfl
noncomputable def kr(h0:0<=i)(h1:0<=j):cd (Pv x (vd i) (vd j))=((cd x).drop i.toNat).take (j.toNat-i.toNat):=by
 have hl:x.cps.toList.length=x.length:=Rp
 have e:P6 (vd i) (vd j) 1 x.length=(PY ((min j.toNat x.length)-(min i.toNat x.length))).map λk=>min i.toNat x.length+k:=by
  unfold P6 sliceRange;simp only[show (1:Int)>0 by decide,if_true,show ¬i<0 by lia,show ¬j<0 by lia,if_false]
  have ea:max 0 (min i (x.length:Int))=((min i.toNat x.length:Nat):Int):=by lia
  have eb:max 0 (min j (x.length:Int))=((min j.toNat x.length:Nat):Int):=by lia
  rw[ea,eb]
  have ec:(if ((min i.toNat x.length:Nat):Int)<((min j.toNat x.length:Nat):Int) then (((min j.toNat x.length:Nat):Int)-((min i.toNat x.length:Nat):Int)+1-1) / 1 else 0).toNat=(min j.toNat x.length)-(min i.toNat x.length):=by
   split
   .rw[Int.ediv_one];lia
   .lia
  rw[ec];refine P2 λk _=>?_
  lia
 have pk:(P6 (vd i) (vd j) 1 x.length).filterMap (x.cps[·]?)=(x.cps.toList.drop (min i.toNat x.length)).take ((min j.toNat x.length)-(min i.toNat x.length)):=by
  rw[e,List.filterMap_map,←vh]
  congr 1
  funext m;simp
 have fin:(x.cps.toList.drop (min i.toNat x.length)).take ((min j.toNat x.length)-(min i.toNat x.length))=((cd x).drop i.toNat).take (j.toNat-i.toNat):=by
  unfold cd
  by_cases hi:i.toNat<=x.length
  .have e1:min i.toNat x.length=i.toNat:=by lia
   rw[e1]
   by_cases hj:j.toNat<=x.length
   .have e2:min j.toNat x.length=j.toNat:=by lia
    rw[e2]
   .have e2:min j.toNat x.length=x.length:=by lia
    rw[e2,Q4 (by rw[PU,hl];lia),Q4 (by rw[PU,hl];lia)]
  .have e1:min i.toNat x.length=x.length:=by lia
   rw[e1,PR (by lia),PR (by lia)];simp
 unfold Pv;split
 .rename_i h
  have h':(P6 (vd i) (vd j) 1 x.length).length=x.length:=by simpa using h
  rw[e,PV,List.length_range] at h';rw[←fin];show x.cps.toList=_
  by_cases hz:x.length=0
  .have:x.cps.toList=[]:=RC.mp (by lia)
   rw[this];simp
  .have e1:min i.toNat x.length=0:=by lia
   have e2:min j.toNat x.length=x.length:=by lia
   rw[e1,e2,Ts,Nat.sub_zero,Q4 (by lia)]
 .rw[←fin,←pk]
  rfl
noncomputable def qq(h0:0<=i)(h1:i<=(x.length:Int)):cd (Pv x (vd i) zc)=(cd x).drop i.toNat:=by
 rw[slice_from_eq h0 h1 rfl];refine Q4 ?_;rw[PU];have:x.cps.toList.length=x.length:=Rp;omega
def ba(c:List Nat):List (List Nat)->List Nat
 |[]=>[]
 |[x]=>x
 |x::y::r=>x++c++ba c (y::r)
theorem iH(z:Str):∀ys:List Str,cd (Py z ys)=ba (cd z) (ys.map cd)
 |[]=>rfl
 |[x]=>by
  show cd _=cd x;simp[Py]
 |x::y::r=>by
  have ih:=iH z (y::r);show cd (_++Py z _)=_;rw[gI,gI,ih];rfl
noncomputable def km(c x:List Nat)(r:List (List Nat)):ba c (x::r)=x++(r.map (c++·)).flatten:=by
 induction r generalizing x with
 |nil=>simp[ba]
 |cons y r ih=>
  show x++c++ba c _=_<;>simp_all
noncomputable def uC:QT x ⟨#[c]⟩=decide ((cd x).head? = vd c):=by
 unfold QT
 have hl:(⟨#[c]⟩:Str).length=1:=rfl;obtain⟨⟨l⟩⟩:=x
 cases l with
 |nil=>rfl
 |cons a r=>
  have h1:(0+1<=(⟨⟨a::r⟩⟩:Str).length):=by show 0+1<=(a::r).length;simp
  show V6 _ _ 0=decide ((a::r).head? = vd c)
  have e:(⟨⟨a::r⟩⟩:Str).cps.extract 0 (0+(⟨#[c]⟩:Str).length) = #[a]:=by simp_all
  unfold V6;rw[e,Qt];simp
end D
namespace G
open L2 D
open K1 (has HY Z6 single aG aI Io isName aM Jv)
def mk(l:List Nat):Str:=⟨l.toArray⟩
theorem da(l:List Nat):cd (mk l)=l :=rfl
theorem pG(x:Str):mk (cd x)=x :=rfl
theorem cz(l:List Nat):(mk l).length=l.length :=rfl
def Bu:Str:=OG "0123456789"
def dl(c:Nat):Bool:=decide (c∈cd "(),")
noncomputable def zkd(c:Nat):dl c=decide (c=40\/c=41\/c=44):=by
 have e:cd "(),"=[40,41,44]:=by decide +kernel
 unfold dl<;>simp_all
def W(l:List Nat):List Nat:=l.takeWhile λc=>!dl c
noncomputable def cy(w:List Nat):Bool:=!decide (w=[])&&w.all (λc=>decide (c∈cd Bu))&&(decide (w=[48])||!decide (w.head? = vd 48))
noncomputable def Ak(h:cd y=l):decide (x=y)=decide (cd x=l):=by refine decide_eq_decide.mpr ⟨λe=>by rw[e,h],λe=>cI (by rw[e,h])⟩
noncomputable def zke(T:Tp)(h:x.length<=OO):iA [.d (.str x)] T=vd (.bool (cy (cd x)),T):=by
 have h1:∀T,g8 [.d _,.d (.str "0123456789")] T=vd (.bool (has Bu x),T):=λT=>tN T h;have e1:decide (x=OG "")=decide (cd x=[]):=Ak (rfl);have e2:decide (x=OG "0")=decide (cd x=[48]):=Ak (rfl)
 have e3:QT x "0"=decide ((cd x).head? = vd 48):=by
  have:OG "0"=⟨#[48]⟩:=cI (rfl);rw[this,uC]
 have e4:has Bu x=(cd x).all (λc=>decide (c∈cd Bu)):=rfl;have p1:=propext (by simpa using e1);have p2:=propext (by simpa using e2);unfold cy;rw[←e4]
 by_cases hn:cd x=[]
 .simp[iA,h1,p1,p2,e3,hn]
 .cases hf:has Bu x with
  |false=>simp[iA,h1,p1,p2,e3,hn,hf]
  |true=>
   by_cases h0:cd x=[48]
   .simp[iA,h1,p1,p2,e3,hn,hf,h0]
   .simp[iA,h1,p1,p2,e3,hn,hf,h0]
def j6:Option Int->OF
 |some i=>.int i
 |none=>.none
def f6:Option OF->OF
 |some i=>i
 |none=>.none
def ir(w:List Nat):Bool:=w.all (λc=>decide (c∈cd Bu))
theorem vH:cd Bu=[48,49,50,51,52,53,54,55,56,57] :=rfl
def zkf(h:ir w=xV):TQ w:=λc hc=>by
 have:=of_decide_eq_true (Pd.mp h c hc);rw[vH] at this;simp at this;omega
def rm(h:cy w=xV):TQ w/\w≠[]:=by
 unfold cy at h;rw[OW,OW] at h;exact⟨zkf h.1.2,by simpa using h.1.1⟩
def fg(w:List Nat):List Nat:=if w.head? = vd 45 then w.tail else w
noncomputable def gT(w:List Nat):Option Int:=if w=[45,48]\/19<(fg w).length\/cy (fg w)=zd then zc else vd (if w.head? = vd 45 then -((PP w.tail:Nat):Int) else ((PP w:Nat):Int))
def uD(h:cd y=[c]):QT x y=decide ((cd x).head? = vd c):=by
 have:y=⟨#[c]⟩:=cI (by rw[h];rfl);rw[this,uC]
noncomputable def zkg(T:Tp)(h:x.length<=OO):lK [.d (.str x)] T=vd (j6 (gT (cd x)),T):=by
 have e1:QT x "-"=decide ((cd x).head? = vd 45):=uD (rfl);have p2:(x=OG "-0")=(cd x=[45,48]):=propext ⟨λe=>by rw[e];decide +kernel,λe=>cI (by rw[e];decide +kernel)⟩;have hl:=aU x
 obtain⟨f,hf,BS,Cb⟩:∃f:Str,cd f=fg (cd x)/\f.length<=x.length/\∀T,du (bq (ag iF (aa 0) (fC (.str "-")))) (YW (aa 0) (fP (fC (.int 1))) aS) (aa 0) [vd (.d (.str x)),zc] T=vd (.d (.str f),T):=by
  by_cases hm:(cd x).head? = vd 45
  .have Ib:1<=x.length:=by
    rw[←hl]
    cases hx:cd x with
    |nil=>rw[hx] at hm;cases hm
    |cons _ _=>simp
   refine⟨Pv x (vd 1) zc,?_,Tb _ _ _,λT=>by simp[e1,hm,h]⟩;rw[qq (by decide) (by lia)];unfold fg;rw[if_pos hm];simp
  .refine⟨x,?_,Pc _,λT=>by simp[e1,hm]⟩
   unfold fg;rw[if_neg hm]
 have Gp:f.length<=sizeLine:=OS BS h;have h1:=λT=>zke (x:=f) T Gp
 have hfl':f.length=(fg (cd x)).length:=by rw[←hf,aU]
 unfold gT
 have start:lK [.d (.str x)] T=c9 (Yz (Yz (du (bq (ag iF (aa 0) (fC (.str "-")))) (YW (aa 0) (fP (fC (.int 1))) aS) (aa 0) [vd (.d (.str x)),zc] T) (mZ 1 [vd (.d (.str x)),zc])) (j4 (ak (YC (bj (aq (ag Zu (aa 0) (fC (.str "-0")))) (bj (aq (ag Dj (YR aP (ae (aa 1) ah)) (fC (.int 19)))) (dC (bq (ar iA (ae (aa 1) ah)))))) (au (fC .none)) aD) (au (YR intD (ae (aa 0) ah)))))):=by
  simp only[lK,pM,nL,nN,if_true,sU,sT];rfl
 rw[start,Cb]
 by_cases c1:cd x=[45,48]
 .rw[if_pos (.inl c1)]
  simp[p2,c1,j6]
 .by_cases c2:19<(fg (cd x)).length
  .rw[if_pos (.inr (.inl c2))]
   have Ci:(19:Int)<(f.length:Int):=by lia
   simp[p2,c1,Gp,Ci,j6]
  .have Ci:¬(19:Int)<(f.length:Int):=by lia
   cases c3:cy (fg (cd x)) with
   |false=>
    rw[if_pos (.inr (.inr rfl))];simp[p2,c1,Gp,Ci,h1,hf,c3,j6]
   |true=>
    rw[if_neg (by simp[c1,c2])];obtain⟨ad,ne⟩:=rm c3
    have xl:x.length<=640:=by
     rw[←hl]
     have:(cd x).length<=(fg (cd x)).length+1:=by
      unfold fg;split
      .rw[SK];lia
      .lia
     lia
    by_cases hm:(cd x).head? = vd 45
    .have ht:∃cs,cd x=45::cs:=by
      cases hx:cd x with
      |nil=>rw[hx] at hm;cases hm
      |cons a r=>rw[hx] at hm;cases hm;exact⟨r,rfl⟩
     obtain⟨cs,Et⟩:=ht
     have Jj:fg (cd x)=cs:=by unfold fg;rw[if_pos hm,Et];rfl
     rw[Jj] at ad ne;have it:=intText_neg (x:=x) (cs:=cs) Et ad ne (by lia)
     have Bs:intText? x=vd (-((PP (cd x).tail:Nat):Int)):=by rw[it,Et];rfl
     simp[p2,c1,Gp,Ci,h1,hf,c3,j6,xl,Bs,hm]
    .have Jj:fg (cd x)=cd x:=by unfold fg;rw[if_neg hm]
     rw[Jj] at ad ne;have it:=intText_digits (x:=x) ad ne (by lia);have Bs:intText? x=vd ((PP (cd x):Nat):Int):=it;simp[p2,c1,Gp,Ci,h1,hf,c3,j6,xl,Bs,hm]
def dR(w:List Nat):Option PyData:=if w.head? = vd 39 then vd (.str (mk w.tail)) else (gT w).map .int
def zkh(o:Option Int):j6 o=f6 (o.map .int):=by cases o <;> rfl
noncomputable def zki(T:Tp)(h:x.length<=OO):lJ [.d (.str x)] T=vd (f6 (dR (cd x)),T):=by
 have e1:QT x "'"=decide ((cd x).head? = vd 39):=uD (rfl);unfold dR
 by_cases hm:(cd x).head? = vd 39
 .have Ib:1<=x.length:=by
   rw[←aU]
   cases hx:cd x <;>simp_all
  have es:Pv x (vd 1) zc=mk (cd x).tail:=cI (by
   rw[qq (by simp) (by lia),da]
   simp)
  simp[lJ,e1,hm,h,es,f6]
 .rw[if_neg hm,←zkh]
  simp[lJ,e1,hm,zkg T h]
noncomputable def pV{x:Str}{b:Nat}{a:Nat}{r:List Nat}(h:(cd x).drop b=a::r):Zd x.cps.toList (b:Int)=vd a/\b<x.length:=by
 have hb:b<(cd x).length:=by
  apply R1;intro z;rw[PR (by lia)] at h;cases h
 refine⟨oE ?_,by exact hb⟩
 have:(cd x)[b]? = ((cd x).drop b)[0]?:=by simp
 show (cd x)[b]? = vd a;rw[this,h];rfl
theorem xM(ht:t.length<=OO):∀(n b:Nat),((cd t).drop b).length<n->b<=t.length ->
  cN (eg (aq (ag IS (aa 2) (YR aP (ae (aa 0) ah)))) (aq (ag dk (ag Ze (aa 0) (aa 2)) (fC (.str "(),"))))) (ay 2 (ag az (aa 2) (fC (.int 1)))) n [vd (.d (.str t)),vd (.d at'),vd (.d (.int b)),zc] T
   = vd ((.nx,[vd (.d (.str t)),vd (.d at'),vd (.d (.int ((b+(W ((cd t).drop b)).length:Nat):Int))),zc]),T)
 |0,b,h,_=>absurd h (P8 _)
 |n+1,b,h,hb=>by
  unfold cN
  cases hd:(cd t).drop b with
  |nil=>
   have hl:t.length<=b:=by
    have:=congrArg SW hd;rw[PU,aU] at this;simp at this
    lia
   have hn:¬(b:Int)<(t.length:Int):=by lia
   simp[ht,hn,W]
  |cons a r=>
   obtain⟨h1,h2⟩:=pV hd
   have hn:(b:Int)<(t.length:Int):=by lia
   have GC:dk (.str ⟨#[a]⟩) (.str "(),")=vd (.bool (!dl a)):=by
    show vd (PyData.bool (!j9 "()," ⟨#[a]⟩))=_;rw[rh];rfl
   cases Gr:dl a with
   |true=>simp[ht,hn,h1,GC,Gr,W]
   |false=>
    have hr:(cd t).drop (b+1)=r:=by
     have:=congrArg List.tail hd;simpa using this
    have ih:=xM (at':=at') (T:=T) ht n (b+1) (by simp_all) (by lia);rw[hr] at ih
    have eb:((b+1:Nat):Int)=(b:Int)+1:=by lia
    rw[eb] at ih
    have ew:W (a::r)=a::W r:=by simp[W,Gr]
    have el:b+(a::W r).length=b+1+(W r).length:=by simp;lia
    rw[ew,el];simp[ht,hn,h1,GC,Gr,ih]
noncomputable def zkj{t:Str}(T:Tp)(ht:t.length<=60000)(hb:b<=t.length):kh [.d (.str t),.d (.int b)] T=vd ((match dR (W ((cd t).drop b)) with|none=>U9|some v=>.tuple [v,.int ((b+(W ((cd t).drop b)).length:Nat):Int)]),T):=by
 have ZI:t.length<=sizeLine:=OS ht (by decide);have Di:=xM (at':=.int b) (T:=T) ZI 100000 b (by rw[PU,aU];lia) hb
 have KP:cd (Pv t (vd (b:Int)) (vd ((b+(W ((cd t).drop b)).length:Nat):Int)))=W ((cd t).drop b):=by
  rw[kr (by lia) (by lia)]
  have e:((b+(W ((cd t).drop b)).length:Nat):Int).toNat-((b:Nat):Int).toNat=(W ((cd t).drop b)).length:=by lia
  rw[e]
  have e2:((b:Nat):Int).toNat=b:=by lia
  rw[e2];exact Up.mp (Qk _) |>.symm
 have YH:(Pv t (vd (b:Int)) (vd ((b+(W ((cd t).drop b)).length:Nat):Int))).length<=sizeLine:=OS (Tb _ _ _) ZI;have ZR:=zki (x:=Pv t (vd (b:Int)) (vd ((b+(W ((cd t).drop b)).length:Nat):Int))) T YH;rw[KP] at ZR;rw[QX] at ZR KP YH Di;rw[QX]
 cases hs:dR (W ((cd t).drop b)) with
 |none=>
  rw[hs] at ZR;simp only[kh,pM,nL,nN,if_true];simp[Di,ZI,ZR,f6,isNone]
 |some v=>
  have hv:isNone v=zd:=by
   unfold dR at hs;split at hs
   .cases hs;rfl
   .obtain⟨i,_,rfl⟩:=OT.mp hs
    rfl
  rw[hs] at ZR;simp only[kh,pM,nL,nN,if_true];simp[Di,ZI,ZR,f6,hv]
def bJ(n:Nat):Option (OF×List Nat)->OF
 |none=>.none
 |some (v,r)=>.tuple [v,.int ((n-r.length:Nat):Int)]
noncomputable def cg(val:List Nat->Option (OF×List Nat)):Nat->List OF->List Nat->Option (OF×List Nat)
 |0,_,_=>zc
 |n+1,acc,l=>match val l with
  |none=>zc
  |some (v,r)=>if r.head? = vd 41 then vd (.tuple (acc++[v]),r.tail) else if r.head? = vd 44 then cg val n (acc++[v]) r.tail else zc
def d8(l:List Nat):Option (OF×List Nat):=(dR (W l)).map λv=>(v,l.drop (W l).length)
noncomputable def bT:Nat->List Nat->Option (OF×List Nat)
 |0,l=>if l.head? = vd 40 then zc else d8 l
 |n+1,l=>if l.head? = vd 40 then (if l.tail.head? = vd 41 then vd (.tuple [],l.tail.tail) else cg (bT n) 100000 [] l.tail) else d8 l
def Suf(val:List Nat->Option (OF×List Nat)):Prop:=∀l v r,val l=vd (v,r)->r <:+ l
theorem qR(h:Suf val):∀n acc l v r,cg val n acc l=vd (v,r)->r <:+ l
 |0,acc,l,v,r,e=>by cases e
 |n+1,acc,l,v,r,e=>by
  unfold cg at e
  cases hv:val l with
  |none=>simp_all
  |some p=>
   obtain⟨v1,r1⟩:=p;have s1:=h l v1 r1 hv;rw[hv] at e;dsimp only at e;split at e
   .cases e
    exact(PQ _).trans s1
   .split at e
    .exact((qR h n _ _ _ _ e).trans (PQ _)).trans s1
    .cases e
def v4:Suf d8:=λl v r e=>by
 obtain⟨v',_,e'⟩:=OT.mp e;cases e';exact Wq _ _
theorem oi:∀n,Suf (bT n)
 |0=>λl v r e=>by
  unfold bT at e;split at e
  .cases e
  .exact v4 _ _ _ e
 |n+1=>λl v r e=>by
  unfold bT at e;split at e
  .split at e
   .cases e
    exact(PQ _).trans (PQ _)
   .exact(qR (oi n) _ _ _ _ _ e).trans (PQ _)
  .exact v4 _ _ _ e
def iC{l:List Nat}(h:l.head? = vd c):l.length=l.tail.length+1:=by
 cases l with
 |nil=>cases h
 |cons=>simp
noncomputable def h7(hl:l <:+ cd t)(hy:cd y=[c]):(Pv t (vd ((t.length-l.length:Nat):Int)) (vd (((t.length-l.length:Nat):Int)+1))=y)=(l.head? = vd c):=by
 have hd:=by
  have:=Sl.mp hl;rw[aU] at this;exact this.symm
 have e:cd (Pv t (vd ((t.length-l.length:Nat))) (vd (((t.length-l.length:Nat))+1)))=l.take 1:=by
  rw[kr _ _]<;>grind
 refine propext ⟨λz=>?_,λz=>cI ?_⟩
 .cases l <;>simp_all
 .rw[e]
  cases l <;>simp_all
theorem gf{α:Type}{a b:α}:Zd [a,b] 0=vd a:=rfl
theorem gc{α:Type}{a b:α}:Zd [a,b] 1=vd b:=rfl
noncomputable def ve(hl:l <:+ cd t)(T:Tp)(ht:t.length<=60000):kh [.d (.str t),.d (.int ((t.length-l.length:Nat):Int))] T=vd (bJ t.length (d8 l),T):=by
 have hd:=by
  have:=Sl.mp hl;rw[aU] at this;exact this.symm
 have hn:=hl.length_le;rw[aU] at hn;have h:=zkj  (b:=t.length-l.length) T ht (by lia);rw[hd] at h;rw[h];unfold d8;have hw:(W l).length<=l.length:=(Qk _).length_le
 cases dR _ with
 |none=>rfl
 |some v=>
  show vd _=vd (SA [v,.int _],T)<;>grind
noncomputable def lq(n:Nat):FS:=(ak (ay 4 (ar (dM n) (ae (aa 0) (ae (aa 1) (ae (aa 2) ah))))) (ak (YC (aq (ag EY (aa 4) (fC .none))) (au (fC .none)) aD) (ak (eX 3 (ag Ze (aa 4) (fC (.int 0)))) (ak (ay 1 (ag az (ag Ze (aa 4) (fC (.int 1))) (fC (.int 1)))) (ak (ay 5 (YW (aa 0) (fP (ag Ze (aa 4) (fC (.int 1)))) (fP (aa 1)))) (ak (YC (aq (ag Zu (aa 5) (fC (.str ")")))) (au (ax .tuple (ae (YR eM (ae (aa 3) ah)) (ae (aa 1) ah)))) aD) (YC (aq (ag Dx (aa 5) (fC (.str ",")))) (au (fC .none)) aD)))))))
theorem yZ(ht:t.length<=60000)(hs:Suf val)(hv:∀l,l <:+ cd t->dM n [.d (.str t),.d (.int ((t.length-l.length:Nat):Int)),.d (.int rows)] T=vd (bJ t.length (val l),T)) :
  ∀(k:Nat) (l:List Nat) (acc:List OF) (o4 o5:Option D.W),l <:+ cd t->l.length<k->acc.length+l.length<=60000 ->
  c9 (cN (bq (fC (.bool xV))) (lq n) k [vd (.d (.str t)),vd (.d (.int ((t.length-l.length:Nat):Int))),vd (.d (.int rows)),vd (.loc (.list acc)),o4,o5] T)=vd (bJ t.length (cg val k acc l),T)
 |0,l,acc,o4,o5,hl,hk,ha=>absurd hk (P8 _)
 |k+1,l,acc,o4,o5,hl,hk,ha=>by
  have ZI:t.length<=sizeLine:=OS ht (by decide);have CB:acc.length<sizeLine:=RK (by lia:acc.length<=60000) (by decide);have h1:=hv l hl;unfold cN cg
  cases IR:val l with
  |none=>
   rw[IR] at h1;simp[lq,h1,bJ,isNone]
  |some p=>
   obtain⟨v,r⟩:=p;have hr:=(hs l v r IR);have C8:=hr.trans hl;have hrl:=hr.length_le;have Ey:=hl.length_le;rw[aU] at Ey;have s1:=h7 (c:=41) C8 (y:=OG ")") (by decide +kernel);have s2:=h7 (c:=44) C8 (y:=OG ",") (by decide +kernel);rw[IR] at h1
   have step:∀c,r.head? = vd c->(((t.length-r.length:Nat):Int)+1)=((t.length-r.tail.length:Nat):Int):=λc hc=>by
    have:=iC hc
    lia
   dsimp only
   by_cases c1:r.head? = vd 41
   .have e1:=step _ c1
    rw[if_pos c1]
    have goal:bJ t.length (vd (SA (acc++[v]),r.tail))=.tuple [.tuple (acc++[v]),.int (((t.length-r.length:Nat):Int)+1)]:=by
     rw[e1];rfl
    rw[goal];simp[lq,h1,bJ,isNone,gf,gc,CB,ZI,s1,c1]
   .rw[if_neg c1]
    by_cases c2:r.head? = vd 44
    .have e1:=step _ c2
     have e2:=iC c2;have ih:=yZ ht hs hv k r.tail (acc++[v]) (vd (.d (.tuple [v,.int ((t.length-r.length:Nat):Int)]))) (vd (.d (.str (Pv t (vd ((t.length-r.length:Nat):Int)) (vd (((t.length-r.length:Nat):Int)+1)))))) ((PQ _).trans C8) (by lia) (by simp;lia);rw[←e1] at ih;rw[if_pos c2,←ih];simp[lq,h1,bJ,isNone,gf,gc,CB,ZI,s1,s2,c1,c2]
    .rw[if_neg c2]
     simp[lq,h1,bJ,isNone,gf,gc,CB,ZI,s1,s2,c1,c2]
noncomputable def tT(val:List Nat->Option (OF×List Nat))(l:List Nat):Option (OF×List Nat):=if l.head? = vd 41 then vd (.tuple [],l.tail) else cg val 100000 [] l
noncomputable def zkk(ht:t.length<=60000)(hs:Suf val)(hv:∀l,l <:+ cd t->dM n [.d (.str t),.d (.int ((t.length-l.length:Nat):Int)),.d (.int rows)] T=vd (bJ t.length (val l),T))(hl:l <:+ cd t) :
  lY (n+1) [.d (.str t),.d (.int ((t.length-l.length:Nat):Int)),.d (.int rows)] T=vd (bJ t.length (tT val l),T):=by
 have ZI:t.length<=sizeLine:=OS ht (by decide);have Ey:=hl.length_le;rw[aU] at Ey;have s1:=h7 (c:=41) hl (y:=OG ")") (rfl);have hr:=yZ (T:=T) ht hs hv 100000 l [] zc zc hl (by lia) (by simp;lia);unfold tT
 by_cases c1:l.head? = vd 41
 .rw[if_pos c1]
  have goal:bJ t.length (vd (SA [],l.tail))=.tuple [.tuple [],.int (((t.length-l.length:Nat):Int)+1)]:=by
   have:=iC c1
   have e:(((t.length-l.length:Nat):Int)+1)=((t.length-l.tail.length:Nat):Int):=by lia
   rw[e];rfl
  rw[goal];simp[lY,ZI,s1,c1]
 .rw[if_neg c1,←hr]
  have:lY (n+1)=aL 6 (ak _ (ak (fU 3 ah) (cN _ (lq n) 100000))):=rfl<;>simp_all
theorem yM(ht:t.length<=60000):∀(rows n:Nat),2*rows+1<=n->∀l,l <:+ cd t->dM n [.d (.str t),.d (.int ((t.length-l.length:Nat):Int)),.d (.int rows)] T=vd (bJ t.length (bT rows l),T)
 |_,0,h,_,_=>absurd h (by lia)
 |0,n+1,h,l,hl=>by
  have ZI:t.length<=sizeLine:=OS ht (by decide);have s1:=h7 (c:=40) hl (y:=OG "(") (rfl);have sg:=ve hl T ht;unfold bT
  by_cases c1:l.head? = vd 40
  .simp[dM,ZI,s1,c1,bJ]
  .simp[dM,ZI,s1,c1,sg]
 |rows+1,n+1,h,l,hl=>by
  have ZI:t.length<=sizeLine:=OS ht (by decide);have s1:=h7 (c:=40) hl (y:=OG "(") (rfl);have sg:=ve hl T ht;have Ey:=hl.length_le;rw[aU] at Ey;unfold bT
  by_cases c1:l.head? = vd 40
  .obtain⟨m,rfl⟩:∃m,n=m+1:=⟨n-1,by lia⟩
   have rr:=zkk ht (oi rows) (yM (T:=T) ht rows m (by lia)) ((PQ l).trans hl);have:=iC c1
   have e:(((t.length-l.length:Nat):Int)+1)=((t.length-l.tail.length:Nat):Int):=by lia
   rw[←e] at rr
   have e2:((rows+1:Nat):Int)-1=(rows:Int):=by lia
   have e3:¬((rows+1:Nat):Int)=0:=by lia
   rw[if_pos c1];show _=vd (bJ t.length (tT (bT rows) l.tail),T);rw[←e2] at rr;generalize ((rows+1:Nat):Int)=R at e3 rr;simp[dM,ZI,s1,c1,e3,rr]
  .rw[if_neg c1]
   simp[dM,ZI,s1,c1,sg]
def dg(m:Nat):List Nat:=(SC 10 m).map Yp
noncomputable def pN(m:Nat):TQ (dg m):=λc hc=>by
 obtain⟨ch,Gd,e⟩:=Pu.mp hc;rw[←e];exact digit_range (Nat.isDigit_of_mem_toDigits (by decide) (by decide) Gd)
def zF(m:Nat):PP (dg m)=m:=W.KIN.val_back m
def tG(m:Nat):dg m≠[]:=λe=>by
 have h:=toDigits_len_ge 10 m
 rw[Vs.mp e] at h<;>simp_all
noncomputable def mD{m:Nat}(h:m<=10^18):(dg m).length<=19:=by
 unfold dg;rw[PV];exact toDigits_len_pow (by decide) (by decide) (RK h (by decide))
noncomputable def yq(m:Nat):0<m->(dg m).head?≠vd 48:=by
 induction m using Nat.strongRecOn with
 |_ m ih=>
  intro hm
  by_cases h:m<10
  .have:∀m ,m<10->0<m->((SC 10 m).map Yp).head?≠vd 48:=by decide
   exact this m h hm
  .have hm:m % 10<10:=Nat.mod_lt m (by decide)
   have t:SC 10 (m / 10)++SC 10 _=SC 10 _:=Nat.toDigits_append_toDigits (by simp) (by lia) hm;rw[Nat.div_add_mod] at t
   have e:dg m=dg (m / 10)++dg (m % 10):=by
    unfold dg;rw[←t,UM]
   have i1:=ih (m / 10) (by lia) (by lia)
   have i2:=tG (m / 10)<;>simp_all
theorem zkl:dg 0=[48] :=rfl
noncomputable def yr(m:Nat):cy (dg m)=xV:=by
 unfold cy;rw[OW,OW];refine⟨⟨by simpa using tG m,Pd.mpr λc hc=>decide_eq_true ?_⟩,?_⟩
 .rw[vH]
  have:=pN m c hc;simp
  lia
 .rcases Nat.eq_zero_or_pos m with h|h
  .subst h
   rfl
  .rw[S7]
   right;simpa using yq m h
def nc:Int->List Nat
 |.ofNat m=>dg m
 |.negSucc m=>45::dg (m+1)
noncomputable def zkm(i:Int):cd (OG (toString i))=nc i:=by
 cases i with
 |ofNat m=>exact W.KIN.signs_num m
 |negSucc m=>
  have e:toString (Int.negSucc m)="-"++toString (m+1):=rfl;unfold cd;rw[Va]
  simp_all
  rfl
noncomputable def ot(i:Int):∀c∈nc i,c=45\/(48<=c/\c<=57):=by
 cases i with
 |ofNat m=>exact λc hc=>.inr (pN m c hc)
 |negSucc m=>
  intro c hc
  rcases OZ.mp hc with h|h
  .exact .inl h
  .exact .inr (pN _ c h)
def Ab(i:Int):nc i≠[]:=by
 cases i with
 |ofNat m=>exact tG m
 |negSucc m=>exact λh=>nomatch h
def nz(h:single (.int i)=xV):i.natAbs<=10^18:=by have h':=of_decide_eq_true h<;>lia
noncomputable def zg(h:single (.int i)=xV):(nc i).length<=20:=by
 have h:=nz h
 cases i with
 |ofNat m=>
  have:=mD (m:=m) h;show (dg m).length<=20
  lia
 |negSucc m=>
  have:=mD (m:=m+1) h;show (dg _).length+1<=20
  lia
noncomputable def rA(m:Nat):(dg m).head?≠vd 45:=λh=>by
 cases hd:dg m with
 |nil=>simp_all
 |cons a r=>
  rw[hd] at h;have:=pN m 45 (by simp_all);omega
noncomputable def rS(h:single (.int i)=xV):gT (nc i)=vd i:=by
 have h:=nz h
 cases i with
 |ofNat m=>
  show (if dg m=[45,48]\/19<(fg (dg m)).length\/cy (fg (dg m))=zd then zc else vd (if (dg m).head? = vd 45 then -_ else ((PP (dg m)):Int)))=_
  have e:fg (dg m)=dg m:=by unfold fg;rw[if_neg (rA m)]
  have l:=mD (m:=m) h;rw[e,if_neg (rA m),zF,yr,if_neg]
  .rfl
  .rintro(z|z|z)
   .exact rA m (by rw[z];rfl)
   .lia
   .cases z
 |negSucc m=>
  show (if 45::dg _=[45,48]\/19<(fg (45::dg _)).length\/cy (fg (45::dg _))=zd then zc else vd (if (45::dg _).head? = vd 45 then -((PP (45::dg _).tail):Int) else _))=_;have e:fg (45::dg _)=dg (m+1):=rfl;have l:=mD (m:=m+1) h;have e2:(45::dg (m+1)).tail=dg _:=rfl;rw[e,e2,zF,yr,if_neg]
  .rfl
  .rintro(z|z|z)
   .have z':=(List.cons.inj z).2
    have:=yq (m+1) (by lia)<;>simp_all
   .lia
   .cases z
noncomputable def cst:Nat->OF->List Nat
 |n+1,.tuple ds=>40::(ba [44] (ds.map (cst n))++[41])
 |0,.tuple _=>[]
 |_,.int i=>nc i
 |_,.str x=>39::cd x
 |_,_=>[]
def mn(n:Nat)(i:Int):cst n (.int i)=nc i:=by cases n <;> rfl
def ml(n:Nat)(x:Str):cst n (.str x)=39::cd x:=by cases n <;> rfl
noncomputable def nv(h:single d=xV):(∃i,d=.int i)\/∃x,d=.str x:=by cases d <;> first|exact .inl ⟨_,rfl⟩|exact .inr ⟨_,rfl⟩|cases h
noncomputable def lM(h:aG n d=xV):single d=xV\/∃m ds,n=m+1/\d=.tuple ds/\ds.length<=8/\∀x∈ds,aG m x=xV:=by
 by_cases k:kd d=.tup
 .obtain⟨ds,rfl⟩:=oZ k
  cases n with
  |zero=>cases h
  |succ m=>
   right;have h':(decide _&&ds.all _)=xV:=h;rw[OW] at h';exact⟨m,ds,rfl,rfl,of_decide_eq_true h'.1,Pd.mp h'.2⟩
 .left
  rw[uA k] at h;exact h
noncomputable def txt_codes(h:has Z6 x=xV):∀c∈cd x,dl c=zd:=λc hc=>by
 have h1:=of_decide_eq_true (Pd.mp h c hc)
 have h2:∀c∈Z6.cps.toList,dl c=zd:=by decide +kernel
 exact h2 c h1
def zkn(i:Int):∀c∈nc i,dl c=zd:=λc hc=>by
 rw[zkd]
 have:=ot i c hc<;>grind
def zko(h:a≠[]):(a++b).head? = a.head?:=by cases a <;>simp_all
def Bc(l:List Nat):Prop:=∀c,l.head? = vd c->dl c=xV
noncomputable def Ax(hw:∀c∈w,dl c=zd)(hl:Bc l):W (w++l)=w:=by
 unfold W
 simp_all
 cases l with
 |nil=>simp
 |cons a r=>
  have:=hl a rfl<;>simp_all
noncomputable def zkp{d:OF}{n:Nat}{l:List Nat}(h:single d=xV)(hl:Bc l):(cst n d++l).head?≠vd 40/\(cst n d).head?≠vd 41/\cst n d≠[]/\d8 (cst n d++l)=vd (d,l)/\(cst n d).length<=21:=by
 rcases nv h with⟨i,rfl⟩|⟨x,rfl⟩
 .rw[mn]
  have Ib:=Ab i;have hs:=ot i;have hh:=λc hc=>hs c (List.mem_of_head? hc)
  have h39:(nc i).head?≠vd 39:=λz=>by simp_all
  refine⟨?_,λz=>by simp_all,Ib,?_,by have:=zg h;lia⟩
  .rw[zko Ib]<;>grind
  .unfold d8
   rw[Ax (zkn i) hl];unfold dR;rw[if_neg h39,rS h];simp
 .rw[ml]
  have h':(decide _&&has Z6 x)=xV:=h;rw[OW] at h';refine⟨by simp,by simp,by simp,?_,?_⟩
  .unfold d8
   rw[Ax  (λc hc=>by
    rcases OZ.mp hc with z|z
    .subst z;rfl
    .exact txt_codes h'.2 c z) hl]
   show (vd (QC (mk (cd x)))).map _=_;rw[pG];simp
  .have:=of_decide_eq_true h'.1
   rw[Po,aU]
   lia
noncomputable def zkq(h:l.head?≠vd 40):bT n l=d8 l:=by
 cases n with
 |zero=>unfold bT;rw[if_neg h]
 |succ n=>unfold bT;rw[if_neg h]
noncomputable def wy(n:Nat):∀d,1<=aI n d:=by
 induction n with
 |zero=>intro d;cases d <;> exact Yi _
 |succ n ih=>
  intro d
  by_cases k:kd d=.tup
  .obtain⟨ds,rfl⟩:=oZ k
   have:=K1.oO _ ih ds;show 1<=1+(ds.map _).sum
   lia
  .rw[uJ k]<;>simp_all
theorem vZ{f:OF->Int}(h:∀d,0<=f d):∀{ds:List OF}{d:OF},d∈ds->f d<=(ds.map f).sum
 |e::r,d,hd=>by
  have nn:∀l:List _,0<=(l.map f).sum:=λl=>by
   induction l with
   |nil=>exact Yi _
   |cons a l ih=>simp_all<;>grind
  rw[PD,R5]
  rcases OZ.mp hd with z|z
  .grind
  .have:=vZ h  z<;>grind
noncomputable def vp(h:d∈ds):aI n d<=aI (n+1) (.tuple ds):=by
 have:=vZ (f:=aI n) (λd=>by have:=wy n d;lia) h;show aI n d<=1+(ds.map _).sum
 lia
theorem qv(f:OF->List Nat):∀ds:List OF,(ds.map λd=>(f d).length).sum+ds.length<=(ba [44] (ds.map f)).length+1/\(ba [44] (ds.map f)).length<=(ds.map λd=>(f d).length).sum+ds.length
 |[]=>by simp[ba]
 |[d]=>by simp[ba]
 |d::e::r=>by
  have ih:=qv f (e::r);have e1:ba [44] ((d::e::r).map f)=f d++[44]++ba [44] _:=rfl
  simp_all
  lia
theorem rW{n:Nat}:∀{ds:List OF},(∀d∈ds,((cst n d).length:Int)+1<=25*aI n d)->(((ds.map λd=>(cst n d).length).sum+ds.length:Nat):Int)<=25*(ds.map (aI n)).sum
 |[],_=>by simp
 |d::r,h=>by
  have h2:=rW  λx hx=>h x (OP _ hx)<;>grind
theorem sk:∀(n:Nat) (d:OF),aG n d=xV->((cst n d).length:Int)+1<=25*aI n d
 |n,d,h=>by
  rcases lM h with h1|⟨m,ds,rfl,rfl,h8,hb⟩
  .have:=(zkp (n:=n) (l:=[]) h1 (λc hc=>by simp_all)).2.2.2.2
   have:=wy n d
   lia
  .have ih:=sk m
   have h1:=rW  λd hd=>ih d (hb d hd);have h2:=(qv (cst m) ds).2
   show (((40::_).length):Int)+1<=25*(1+(ds.map _).sum)<;>grind
termination_by n=>n
noncomputable def kF(h:single (.int i)=xV):dE [.int i]=vd (.str (mk (nc i))):=by
 have h1:=nz h
 have h2:i.natAbs.log2<1920:=by
  by_cases z:i.natAbs=0
  .rw[z];decide
  .exact OY ((Wz (k:=64) z).mpr (RK h1 (by decide))) (by decide)
 have e:OG _=mk (nc i):=cI (by rw[zkm,da]);show (if i.natAbs.log2<1920 then vd _ else zc)=_;rw[if_pos h2,e]
def jE(a b:List Nat):mk a++mk b=mk (a++b):=cI (by rw[gI,da,da,da])
def lit(h:cd (OG s)=l):OG s=mk l:=cI (by rw[h,da])
def hJ(h:n<=2000):n<=sizeLine:=OS h (by decide)
noncomputable def zkr(f:OF->List Nat)(ds:List OF):((ds.map λd=>mk (f d)).map (·.length)).sum=(ds.map λd=>(f d).length).sum:=by
 rw[Qo];exact congrArg _ (P2 λd _=>cz _)
noncomputable def zks(f:OF->List Nat)(ds:List OF):Py (mk [44]) (ds.map λd=>mk (f d))=mk (ba [44] (ds.map f)):=cI (by
 rw[iH,Qo]
 exact congrArg _ (P2 λd _=>da _))
theorem iN:cC .str .str=xV:=rfl
theorem zkt:cC .tup .str=zd:=rfl
theorem zku:cC .str .tup=zd:=rfl
theorem zkv:cC .int .tup=zd:=rfl
theorem zkw:cC .int .str=zd:=rfl
noncomputable def wQ{m:Nat}{ds:List OF}(hm:aI (m+1) (.tuple ds)<=40)(hb:∀x∈ds,aG m x=xV):(ba [44] (ds.map (cst m))).length<=1000/\(ds.map λd=>(cst m d).length).sum+ds.length<=1000:=by
 have h1:=rW  λd hd=>sk m d (hb d hd);have h2:=(qv (cst m) ds).2;have h3:1+(ds.map (aI m)).sum<=40:=hm
 lia
noncomputable def str_len{n:Nat}{x:Str}(h:single (.str x)=xV):x.length<=20:=by have h':(decide _&&has Z6 x)=xV:=h<;>simp_all
theorem yN:∀(n k:Nat) (d:OF) (T:Tp),aG n d=xV->aI n d<=40->n<k->g0 k [.d d] T=vd (.str (mk (cst n d)),T)
 |n,0,d,T,h,hm,hk=>absurd hk (P8 _)
 |n,k+1,d,T,h,hm,hk=>by
  have q1:=lit (s:="'") (l:=[39]) (rfl);have q2:=lit (s:="(") (l:=[40]) (rfl);have q3:=lit (s:=")") (l:=[41]) (rfl);have q4:=lit (s:=",") (l:=[44]) (rfl)
  rcases lM h with h1|⟨m,ds,rfl,rfl,h8,hb⟩
  .rcases nv h1 with⟨i,rfl⟩|⟨x,rfl⟩
   .simp[g0,mr,whole,kF h1,mn]
   .have e:mk [39]++x=mk (39::cd x):=by rw[←pG x,jE,da];rfl
    have l:(mk [39]).length+x.length<=sizeLine:=hJ (by rw[cz];have:=str_len (n:=0) h1;simp;lia);simp[g0,mr,whole,ml,iN,q1,l,e]
  .obtain⟨l1,l2⟩:=wQ hm hb
   have c:=gr (e:=ar (g0 k) (ae (aa 0) ah)) (ρ:=[vd (.d (.tuple ds))]) (T:=T) (g:=λd=>.str (mk (cst m d))) (ds:=ds) λd hd=>by
    have:=yN m k d T (hb d hd) (V7 (vp hd) hm) (by lia);simp[this]
   have j:=wI (z:=mk [44]) (qy (λd=>mk (cst m d)) ds);rw[zkr,zks,PV,cz] at j;rw[if_pos (by simp;lia)] at j;have a1:(mk [40]).length+(mk (ba [44] (ds.map (cst m)))).length<=sizeLine:=hJ (by rw[cz,cz];simp;lia);have a2:(mk (40::ba [44] (ds.map (cst m)))).length+(mk [41]).length<=sizeLine:=hJ (by rw[cz,cz];simp;lia)
   have e1:mk [40]++mk (ba [44] (ds.map (cst m)))=mk (40::ba [44] (ds.map (cst m))):=by rw[jE];rfl
   have e2:mk (40::ba [44] (ds.map (cst m)))++mk [41]=mk (cst (m+1) (.tuple ds)):=by rw[jE];rfl
   simp[g0,mr,whole,zkt,q2,q3,q4,c,j,a1,a2,e1,e2]
theorem vF{k n:Nat}{T:Tp}{x:OF}:∀(ds:List OF) (acc:List Nat) (o:Option D.W),(∀d∈ds,fH k [.d d] T=vd (.str (mk (cst n d)),T))->acc.length+(ds.map λd=>(cst n d).length).sum+ds.length<=2000 ->
  ∃o',forL 2 (ay 1 (ag az (ag az (aa 1) (fC (.str ","))) (ar (fH k) (ae (aa 2) ah)))) ds [vd (.d x),vd (.d (.str (mk acc))),o] T=vd ((.nx,[vd (.d x),vd (.d (.str (mk (acc++(ds.map λd=>44::cst n d).flatten)))),o']),T)
 |[],acc,o,_,_=>⟨o,by simp[forL]⟩
 |d::ds,acc,o,h,hl=>by
  have q4:=lit (s:=",") (l:=[44]) (rfl);simp  at hl;have h1:=h d OU;obtain⟨o',ih⟩:=vF (x:=x) ds (acc++44::cst n d) (vd (.d d)) (λx hx=>h x (OP _ hx)) (by grind);refine⟨o',?_⟩;have a1:(mk acc).length+(mk [44]).length<=sizeLine:=hJ (by rw[cz,cz]<;>grind);have a2:(mk (acc++[44])).length+(mk (cst n d)).length<=sizeLine:=hJ (by rw[cz,cz];simp;lia);unfold forL
  simp[q4,h1,a1,a2,jE]<;>simp_all
noncomputable def uy(f:OF->List Nat)(ds:List OF):(ds.map λd=>44::f d).flatten.drop 1=ba [44] (ds.map f):=by
 cases ds with
 |nil=>rfl
 |cons d r=>
  rw[PD,PD,km];rw[Qo];rfl
noncomputable def qo:cd (Pv x (vd 1) zc)=(cd x).drop 1:=by
 by_cases h:1<=x.length
 .rw[qq (by simp) (by lia)]
  rfl
 .have hl:=Tb x (vd 1) zc
  have:(cd (Pv x (vd 1) zc)).length=0:=by rw[aU];lia
  rw[RC.mp this,PR (by rw[aU];lia)]
theorem xh:∀(n k:Nat) (d:OF) (T:Tp),aG n d=xV->aI n d<=40->n<k->fH k [.d d] T=vd (.str (mk (cst n d)),T)
 |n,0,d,T,h,hm,hk=>absurd hk (P8 _)
 |n,k+1,d,T,h,hm,hk=>by
  have q1:=lit (s:="'") (l:=[39]) (rfl);have q2:=lit (s:="(") (l:=[40]) (rfl);have q3:=lit (s:=")") (l:=[41]) (rfl);have q0:=lit (s:="") (l:=[]) (rfl)
  rcases lM h with h1|⟨m,ds,rfl,rfl,h8,hb⟩
  .rcases nv h1 with⟨i,rfl⟩|⟨x,rfl⟩
   .simp[fH,zkv,zkw,kF h1,mn]
   .have e:mk [39]++x=mk (39::cd x):=by rw[←pG x,jE,da];rfl
    have l:(mk [39]).length+x.length<=sizeLine:=hJ (by rw[cz];have:=str_len (n:=0) h1;simp;lia);simp[fH,ml,iN,zku,q1,l,e]
  .obtain⟨l1,l2⟩:=wQ hm hb
   obtain⟨o',c⟩:=vF (k:=k) (n:=m) (T:=T) (x:=.tuple ds) ds [] zc (λd hd=>xh m k d T (hb d hd) (V7 (vp hd) hm) (by lia)) (by simp;lia);rw[Sa] at c;have es:Pv (mk (ds.map λd=>44::cst m d).flatten) (vd 1) zc=mk (ba [44] (ds.map (cst m))):=cI (by rw[qo,da,da,uy])
   have fl:(ds.map λd=>44::cst m d).flatten.length<=(ba [44] (ds.map (cst m))).length+1:=by
    rw[←uy,PU]
    lia
   have a0:(mk (ds.map λd=>44::cst m d).flatten).length<=sizeLine:=hJ (by rw[cz];lia);have a1:(mk [40]).length+(mk (ba [44] (ds.map (cst m)))).length<=sizeLine:=hJ (by rw[cz,cz];simp;lia);have a2:(mk (40::ba [44] (ds.map (cst m)))).length+(mk [41]).length<=sizeLine:=hJ (by rw[cz,cz];simp;lia)
   have e1:mk [40]++mk (ba [44] (ds.map (cst m)))=mk (40::ba [44] (ds.map (cst m))):=by rw[jE];rfl
   have e2:mk (40::ba [44] (ds.map (cst m)))++mk [41]=mk (cst (m+1) (.tuple ds)):=by rw[jE];rfl
   generalize hF:(ds.map λd=>44::cst m d).flatten=F at c es a0;simp[fH,o8,q0,q2,q3,c,es,a0,a1,a2,e1,e2]
def uZ(h:aM v=xV):aG 4 v=xV/\aI 4 v<=40:=by have h':(aG 4 v&&decide _)=xV:=h<;>simp_all
def oh(x:List Nat)(r:List (List Nat)):ba [32] (x::r)=x++(r.map ([32]++·)).flatten:=km [32] x r
noncomputable def zkx(ha:32∉a)(hb:32∉b)(hu:u=[]\/u.head? = vd 32)(hv:v=[]\/v.head? = vd 32)(h:a++u=b++v):a=b/\u=v:=by
 induction a generalizing b with
 |nil=>
  cases b <;>simp_all
 |cons x a ih=>
  cases b with
  |nil=>
   exfalso
   rw[Sa] at h<;>grind
  |cons c b=>
   injection h with h1 h2
   obtain⟨k1,k2⟩:=ih  (λz=>ha (OP _ z)) (λz=>hb (OP _ z)) h2<;>simp_all
noncomputable def yb(r:List (List Nat)):(r.map ([32]++·)).flatten=[]\/((r.map ([32]++·)).flatten).head? = vd 32:=by
 cases r with
 |nil=>exact .inl rfl
 |cons a r=>exact .inr rfl
theorem yC:∀(A B:List (List Nat)),A≠[]->B≠[]->(∀a∈A,32∉a)->(∀b∈B,32∉b)->ba [32] A=ba [32] B->A=B
 |[],_,h,_,_,_,_=>absurd rfl h
 |_::_,[],_,h,_,_,_=>absurd rfl h
 |a::A,b::B,_,_,hA,hB,h=>by
  rw[oh,oh] at h;obtain⟨h1,h2⟩:=zkx (hA a OU) (hB b OU) (yb A) (yb B) h
  congr 1
  cases A with
  |nil=>
   cases B <;>simp_all
  |cons a' A=>
   cases B with
   |nil=>cases h2
   |cons b' B=>
    have h3:a'++(A.map ([32]++·)).flatten=b'++(B.map ([32]++·)).flatten:=by simp_all
    refine yC _ _ (by simp) (by simp) (λx hx=>hA x (OP _ hx)) (λx hx=>hB x (OP _ hx)) ?_
    rw[oh,oh]<;>omega
noncomputable def zky(x y:Str):Rf x y≠[]:=by
 unfold Rf;split
 .simp
 .split
  .simp
  .rw[StrLaws.partsBetween_eq]
   obtain⟨p,r,e⟩:=StrLaws.partsFrom_ne x _ 0 _;rw[e];simp
def BL:Str:=OG " "
noncomputable def zkz{A B:List Str}(h:A.map cd=B.map cd):A=B:=by
 induction A generalizing B with
 |nil=>simp_all
 |cons a A ih=>cases B with
  |nil=>cases h
  |cons b B=>
   injection h with h1 h2
   rw[cI h1,ih h2]
noncomputable def uE(Ib:ws≠[])(h:∀w∈ws,32∉cd w):Rf (Py BL ws) BL=ws:=by
 have j:=StrLaws.join_split (Py BL ws) BL
 have f:∀p∈Rf (Py BL ws) BL,32∉cd p:=by
  exact StrLaws.split_free _ 32
 generalize hA:Rf _ BL=A at j f
 have hA':A≠[]:=by rw[←hA];exact zky _ _
 have c:cd (Py BL A)=cd (Py BL ws):=by rw[j]
 rw[iH,iH] at c;refine zkz (yC _ _ (by simpa using hA') (by simpa using Ib) (λa ha=>?_) (λa ha=>?_) c)
 .obtain⟨p,hp,rfl⟩:=Pu.mp ha
  exact f p hp
 .obtain⟨p,hp,rfl⟩:=Pu.mp ha
  exact h p hp
@[simp] theorem Gx:OG a=OG b↔a=b:=by
 constructor
 .intro h
  have h2:(OG a).cps.toList=(OG b).cps.toList:=by rw[h]
  rw[Va,Va] at h2;have inj:Function.Injective _:=λx y e=>Char.ext (UInt32.toNat_inj.mp e);exact String.toList_inj.mp ((List.map_inj_right (λx y e=>inj e)).mp h2)
 .rintro rfl;rfl
theorem rF:∀(n:Nat) (d:OF),aG n d=xV->aG (n+1) d=xV/\aI (n+1) d=aI n d
 |n,d,h=>by
  rcases lM h with h1|⟨m,ds,rfl,rfl,h8,hd⟩
  .exact⟨(jk h1).1,by rw[(jk  h1).2,(jk  h1).2]⟩
  .have ih:=λd Ef=>rF m d (hd d Ef)
   refine⟨?_,?_⟩
   .show (decide _&&ds.all _)=xV<;>simp_all
   .show 1+(ds.map _).sum=1+(ds.map _).sum
    rw[P2 λd Ef=>(ih d Ef).2]
termination_by n=>n
def sl(L:List Str):List PyData:=L.map .str
noncomputable def m6(C:Addr)(L:List Str)(p b:Int):List PyData:=[bW C,.tuple [.str "parted",.list (sl L)],.tuple [.str "place",.int p],.tuple [.str "begun",.int b]]
abbrev TW(C:Addr)(t0:List OF)(L:List Str)(p b:Int):Tp:=[m6 C L p b]
section
variable {C:Addr}{t0:List OF}{L:List Str}{p b:Int}
noncomputable def jO:fw C (TW C t0 L p b) 0=vd [.tuple [.str "parted",.list (sl L)],.tuple [.str "place",.int p],.tuple [.str "begun",.int b]]:=by simp[fw,m6,i6,bW]
noncomputable def l7:ik C "parted" (.tp 0) (TW C t0 L p b)=vd (.d (.list (sl L)),TW C t0 L p b):=by
 unfold ik;dsimp only;rw[jO];simp[eQ]
noncomputable def jw:ik C "place" (.tp 0) (TW C t0 L p b)=vd (.d (.int p),TW C t0 L p b):=by
 unfold ik;dsimp only;rw[jO];simp[eQ]
noncomputable def rY:ik C "begun" (.tp 0) (TW C t0 L p b)=vd (.d (.int b),TW C t0 L p b):=by
 unfold ik;dsimp only;rw[jO];simp[eQ]
noncomputable def zla:eP C "place" ρ (.d (.int q)) (.tp 0) (TW C t0 L p b)=vd ((.nx,ρ),TW C t0 L q b):=by
 unfold eP;dsimp only;rw[jO]
 kernel_rfl
noncomputable def zlb:eP C "begun" ρ (.d (.int q)) (.tp 0) (TW C t0 L p b)=vd ((.nx,ρ),TW C t0 L p q):=by
 unfold eP;dsimp only;rw[jO]
 kernel_rfl
theorem gu:dF C f fo ρ T=Yz (fo ρ T) (ik C f):=rfl
theorem rp:jS C f fo fe ρ T=Yz (fe ρ T) λw T1=>Yz (fo ρ T1) (eP C f ρ w):=rfl
theorem aR:cj C m mm fo g ρ T=Yz (fo ρ T) (mO C m mm g ρ):=rfl
noncomputable def Y2(h:¬m="parted"/\¬m="place"/\¬m="begun"):mO C (OG m) mm g ρ (.tp 0) (TW C t0 L p b)=Yz (g ρ (TW C t0 L p b)) λws T2=>Yz (mm (.tp 0::ws) T2) λx T3=>vd (.d x,T3):=by
 unfold mO;dsimp only;rw[jO];have h1:¬ "parted"=m:=λz=>h.1 z.symm;have h2:¬ "place"=m:=λz=>h.2.1 z.symm;have h3:¬ "begun"=m:=λz=>h.2.2 z.symm;simp[eQ,h1,h2,h3]
def cE:(sl L).length=L.length:=by simp[sl]
def mK{k:Nat}{w:Str}(h:L[k]? = vd w):Zd (sl L) (k:Int)=vd (.str w):=by
 refine oE ?_
 unfold sl<;>simp_all
noncomputable def yK{k:Nat}{w:Str}(h:L[k]? = vd w):dw C [.tp 0] (TW C t0 L (k:Int) b)=vd (.str w,TW C t0 L (k:Int) b):=by
 have hk:=(OL.mp h).1
 have Ek:=by omega
 have a:=mK h;have ln:=cE (L:=L);simp[dw,gu,l7,jw,ln,Ek,a]
def pq:iz C [.tp 0,.d (.bool xV)] (TW C t0 L p b)=vd (.none,TW C t0 L (p+1) b):=by simp[iz,gu,rp,jw,zla]
noncomputable def kH(ha:a<20)(hb:b<60):eZ C [.tp 0,.d (.bool xV),.d (.int a)] (TW C t0 L p b)=vd (.none,TW C t0 L (p+1) (b+1)):=by simp[eZ,gu,rp,aR,rY,Y2,ha,hb,pq,zlb]
noncomputable def zlc{k:Nat}(h:L.length<=k):je C [.tp 0] (TW C t0 L (k:Int) b)=vd (.none,TW C t0 L (k:Int) b):=by
 have Ek:¬(k)<(L.length):=by lia
 have ln:=cE (L:=L);simp[je,gu,l7,jw,ln,Ek]
def zld(h:aM v=xV):isNone v=zd:=by
 cases v with
 |none=>cases h
 |_=>rfl
def ns(j:Nat):Str:=mk (nc (j:Int))
noncomputable def zle(h1:i<=1000)(h2:j<=1000)(h:ns i=ns j):i=j:=by
 have e:cd (ns i)=cd (ns j):=by rw[h]
 unfold ns at e;rw[da,da] at e;have a:=rS (i:=(i)) (gq (by lia) (by lia))
 have b:=rS (i:=(j)) (gq (by lia) (by lia))<;>grind
noncomputable def zlf(hn:n<=1000)(hj:j<n):j8 (ns j) ((PY n).map ns)=vd j:=by
 have key:∀(l a:Nat),a+l<=1000->a<=j->j<a+l->j8 (ns j) ((List.range' a l).map ns)=vd (j-a):=by
  intro l
  induction l with
  |zero=>grind
  |succ l ih=>
   intro a h0 h1 h2;rw[List.range'_succ,PD];unfold j8
   by_cases z:a=j
   simp_all
   .rw[if_neg (λe=>z (zle _ _ e))]<;>grind
 have:=key n 0 (by lia) (Ri _) (by lia)
 rw[List.range_eq_range']<;>lia
theorem rH:∀l:List Str,d7 (sl l)=vd l
 |[]=>rfl
 |x::r=>by
  have ih:=rH r;unfold sl at ih ⊢;rw[PD,d7,ih];rfl
noncomputable def in_sl(h:w∈l):inD (.str w) (.list (sl l))=vd (.bool xV):=by
 have e1:(sl l).all eS=xV:=Pd.mpr λd hd=>by
  obtain⟨x,_,rfl⟩:=Pu.mp hd;rfl
 have e2:((sl l).any λy=>Z3 y (.str w))=xV:=Wl.mpr ⟨.str w,Pu.mpr ⟨w,h,rfl⟩,beq_self_eq_true w⟩
 have e3:EF (.str w) (.list (sl l))=if _=xV then vd _ else zc:=rfl
 unfold inD;rw[e3,e1,e2];rfl
noncomputable def zlg{k n j:Nat}(h:L[k]? = vd (ns j))(hn:n<=100)(hj:j<n):fF C [.tp 0,.d (.int (n:Int))] (TW C t0 L (k:Int) b)=vd (.int (j:Int),TW C t0 L ((k:Int)+1) b):=by
 have a:=yK (C:=C) (t0:=t0) (b:=b) h;have r:=fL (j:=(n)) (by lia) (by lia)
 have c:=gr (e:=YR dE (ae (aa 0) ah)) (ρ:=[vd (.tp 0),vd (.d (.int (n))),zc,zc]) (T:=TW C t0 L (k) b) (g:=λd=>match d with | .int i=>.str (mk (nc i))|_=>.none) (ds:=bA 0 n) λd hd=>by
  obtain⟨i,hi,rfl⟩:=Pu.mp hd
  simp_all
  have z:=kF (i:=(0)+(i)) (gq (by lia) (by lia))<;>simp_all
 have m:(bA 0 n).map (λd=>match d with | .int i=>.str (mk (nc i))|_=>U9)=sl ((PY n).map ns):=by
  unfold sl bA;simp[ns]
 rw[m] at c;have i1:=in_sl (w:=ns j)  (Pu.mpr ⟨j,Ru.mpr hj,rfl⟩);have i2:=zlf   (by lia) hj;have i3:=rH ((PY n).map ns);simp[fF,aR,Y2,r,c,a,i1,pq,tX,tV,i3,i2]
end
noncomputable def A0(i:Nat)(ρ:Yy)(w:D.W)(T1:Tp)(o:Option (Option D.W)):Option ((Fl×Yy)×Tp):=match w,o with
 |.d (.list ys),vd (vd (.loc (.list xs)))=>if xs.length+ys.length<=OO then vd ((.nx,ρ.set i (vd (.loc (.list (xs++ys))))),T1) else zc
 |_,_=>zc
theorem zv:gV i f ρ T=Yz (f ρ T) λw T1=>A0 i ρ w T1 ρ[i]?:=rfl
noncomputable def yc(h:xs.length+ys.length<=OO):A0 i ρ (.d (.list ys)) T (vd (vd (.loc (.list xs))))=vd ((.nx,ρ.set i (vd (.loc (.list (xs++ys))))),T):=if_pos h
def sH(a b:List Str):sl a++sl b=sl (a++b):=by simp[sl]
def jX(h:n<=100000):n<=sizeLine:=OS h (by decide)
theorem qZ{mw:YG}{e0:OF}{T:Tp}{g:OF->List Str}:∀(es:List OF) (acc:List Str) (o2:Option D.W),(∀e∈es,mw [.d e] T=vd (.list (sl (g e)),T))->acc.length+(es.map g).flatten.length<=100000 ->
  ∃B7,forL 2 (gV 1 (ar mw (ae (aa 2) ah))) es [vd (.d e0),vd (.loc (.list (sl acc))),o2] T=vd ((.nx,[vd (.d e0),vd (.loc (.list (sl (acc++(es.map g).flatten)))),B7]),T)
 |[],acc,o2,_,_=>⟨o2,by simp[forL]⟩
 |e::es,acc,o2,h,hl=>by
  simp only[PD,QU,Pz] at hl;have h0:=h e OU;obtain⟨o',ih⟩:=qZ  (e0:=e0)   es (acc++g e) (vd (.d e)) (λx hx=>h x (OP _ hx)) (by grind);refine⟨o',?_⟩
  have z:(sl acc).length+(sl (g e)).length<=sizeLine:=by rw[cE,cE];exact jX (by lia)
  have k:=yc (i:=1) (ρ:=[vd (.d e0),vd (.loc (.list (sl acc))),vd (.d e)]) (T:=T) z;rw[sH] at k
  have st:gV 1 (ar mw (ae (aa 2) ah)) [vd (.d e0),vd (.loc (.list (sl acc))),vd (.d e)] T=vd ((.nx,[vd (.d e0),vd (.loc (.list (sl (acc++g e)))),vd (.d e)]),T):=by
   rw[zv]<;>simp_all
  rw[forL]<;>simp_all
def zN:Zd (a::r) 0=vd a:=by simp[Zd,Zr]
noncomputable def nB{k:Nat}{T:Tp}{w0:Str}{rest:List OF}{fl:List Str}{es:List OF}{g:OF->List Str}(hf:iw [.d (.tuple (.str w0::rest))] T=vd (.list (sl fl),T))(hi:jg [.d (.tuple (.str w0::rest))] T=vd (.list es,T))
  (hr:∀e∈es,gX k [.d e] T=vd (.list (sl (g e)),T)) (hl:fl.length+(es.map g).flatten.length<=90000):gX (k+1) [.d (.tuple (.str w0::rest))] T=vd (.list (sl (w0::(fl++(es.map g).flatten))),T):=by
 obtain⟨o2,lp⟩:=qZ  (e0:=.tuple (.str w0::rest)) es (w0::fl) zc hr (by grind)
 have z:(sl fl).length+1<=sizeLine:=by rw[cE];exact jX (by lia)
 have z':1+(sl fl).length<=sizeLine:=by lia
 have st:fA 1 (ax .list (ae (ag Ze (aa 0) (fC (.int 0))) ah)) (ar iw (ae (aa 0) ah)) [vd (.d (.tuple (.str w0::rest))),zc,zc] T=vd ((.nx,[vd (.d (.tuple (.str w0::rest))),vd (.loc (.list (sl (w0::fl)))),zc]),T):=by
  unfold fA;simp[zN,hf,kY,z'];rfl
 have e0:gX (k+1)=aL 3 _:=rfl<;>simp_all
noncomputable def iV:FS:=(YC (aq (ag Zu (ag Ze (aa 0) (fC (.int 0))) (fC (.str "put")))) (eX 1 (ar (fH 25) (ae (ag Ze (aa 0) (fC (.int 1))) ah))) (YC (bj (aq (ag Zu (ag Ze (aa 0) (fC (.int 0))) (fC (.str "got")))) (aq (ag Zu (ag Ze (aa 0) (fC (.int 0))) (fC (.str "fail"))))) (eX 1 (YR jZ (ae (ag Ze (aa 0) (fC (.int 1))) ah))) (YC (aq (ag Zu (ag Ze (aa 0) (fC (.int 0))) (fC (.str "row")))) (eX 1 (YR jZ (ae (YR aP (ae (ag Ze (aa 0) (fC (.int 1))) ah)) ah))) aD)))
theorem Ac(k:Nat):cp (k+1)=aL 3 (ak (fU 1 (ae (ag Ze (aa 0) (fC (.int 0))) ah)) (ak iV (ak (dX 2 (cQ (ar dJ (ae (aa 0) ah))) (gV 1 (ar (cp k) (ae (aa 2) ah)))) (au (aa 1))))):=rfl
noncomputable def lW{k:Nat}{T:Tp}{w0:Str}{rest:List OF}{fl:List Str}{es:List OF}{g:OF->List Str}(hf:iV [vd (.d (.tuple (.str w0::rest))),vd (.loc (.list [.str w0])),zc] T=vd ((.nx,[vd (.d (.tuple (.str w0::rest))),vd (.loc (.list (sl (w0::fl)))),zc]),T))(hi:dJ [.d (.tuple (.str w0::rest))] T=vd (.list es,T))
  (hr:∀e∈es,cp k [.d e] T=vd (.list (sl (g e)),T)) (hl:fl.length+(es.map g).flatten.length<=90000):cp (k+1) [.d (.tuple (.str w0::rest))] T=vd (.list (sl (w0::(fl++(es.map g).flatten))),T):=by
 obtain⟨o2,lp⟩:=qZ  (e0:=.tuple (.str w0::rest)) es (w0::fl) zc hr (by grind);rw[Ac];simp[zN,hf,hi,lp]
noncomputable def i8:inD (.str (OG x)) (.list [.str "put",.str "got",.str "fail"])=vd (.bool (decide (x="put")||(decide (x="got")||decide (x="fail")))):=by
 have e:inD (.str (OG x)) (.list [.str "put",.str "got",.str "fail"])=vd (.bool (Z3 _ _||(Z3 _ _||(Z3 _ _||false)))):=rfl
 have f:∀a b ,Z3 (.str (OG a)) (.str (OG b))=decide _:=λa b=>by
  rw[Qt];simp[Z3];exact⟨λh=>h.symm,λh=>h.symm⟩
 rw[e,f,f,f,SV]
noncomputable def pQ:aQ (a::r) (vd 1) zc=r:=by
 have e:aQ (a::r) (vd ((1:Nat))) zc=r:=by
  unfold aQ;rw[HT.qW,HT.mh];simp
 exact e
theorem zlh:jY [.list []]=vd (.int 0):=rfl
theorem AI(f:OF->Nat):∀es:List OF,(es.map λe=>(f e:Int)).sum=(((es.map f).sum:Nat):Int)
 |[]=>rfl
 |e::es=>by
  have:=AI f es<;>simp_all
noncomputable def zh{n:Nat}{e0:OF}{es:List OF}{f:OF->Nat}(w:∀T,dJ [.d e0] T=vd (.list es,T))(h:∀e∈es,∀k T,n<k->gn k [.d e] T=vd (.int (f e:Int),T)):∀k T,n+1<k->gn k [.d e0] T=vd (.int ((1+(es.map f).sum:Nat):Int),T):=by
 intro k T hk;obtain⟨k,rfl⟩:∃j,k=j+1:=⟨k-1,by lia⟩
 have c:=gr (e:=ar (gn k) (ae (aa 0) ah)) (ρ:=[vd (.d e0)]) (T:=T) (g:=λe=>.int ((λe=>(f e)) e)) (ds:=es) λe he=>by simp_all
 have s:=AI f es;simp[gn,w,c,s]
def N3(l:List Nat):Prop:=∀c∈l,c<128/\c≠32
structure EX(C:Addr)(m:Int)(n c:Nat)(ws:List Str)(e:OF):Prop where
 n1:1<=n
 c1:1<=c
 c6:c<=60
 ln:ws.length<=2*c
 ne:ws≠[]
 ok:∀w∈ws,N3 (cd w)/\w.length<=1100
 my:∀k T,n<k->gn k [.d e] T=vd (.int (c:Int),T)
 pw:∀k T,n<k->gX k [.d e] T=vd (.list (sl ws),T)
 lw:∀k T,n<k->cp k [.d e] T=vd (.list (sl ws),T)
def litOk(w:String):Bool:=(cd (OG w)).all (λc=>decide (c<128/\c≠32))&&decide ((OG w).length<=1100)
noncomputable def iM(h:litOk w=xV):N3 (cd (OG w))/\(OG w).length<=1100:=by
 unfold litOk at h;rw[OW] at h;exact⟨λc hc=>of_decide_eq_true (Pd.mp h.1 c hc),of_decide_eq_true h.2⟩
noncomputable def zli:∀(ls:List (List Nat)),c∈ba [44] ls->c=44\/∃l∈ls,c∈l
 |[],h=>by cases h
 |x::r,h=>by
  rw[km] at h<;>grind
def zlj:∀c∈cd Z6,c<128/\c≠32:=by decide +kernel
theorem wO:∀(n:Nat) (d:OF),aG n d=xV->N3 (cst n d)
 |n,d,h=>λc z=>by
  rcases lM h with h1|⟨m,ds,rfl,rfl,_,hd⟩
  .rcases nv h1 with⟨i,rfl⟩|⟨x,rfl⟩
   .rw[mn] at z
    have:=ot i c z
    lia
   .rw[ml] at z
    have h2:(decide (x.length<=20)&&has Z6 x)=xV:=h1;rw[OW] at h2
    rcases OZ.mp z with z|z
    .simp_all
    .exact zlj c (of_decide_eq_true (Pd.mp h2.2 c z))
  .have e:cst (m+1) (.tuple ds)=40::(ba [44] (ds.map (cst m))++[41]):=rfl
   rw[e] at z
   rcases OZ.mp z with z|z
   .simp_all
   .rcases Pq.mp z with z|z
    .rcases zli _ z with z|⟨l,hl,hc⟩
     .simp_all
     .obtain⟨d,Ef,rfl⟩:=Pu.mp hl
      exact wO m d (hd d Ef) c hc
    .simp_all
termination_by n=>n
noncomputable def qV(h:aM v=xV):N3 (cd (mk (cst 4 v)))/\(mk (cst 4 v)).length<=1100:=by
 obtain⟨hb,hm⟩:=uZ h;have hl:=sk 4 v hb;refine⟨?_,by rw[cz];lia⟩;exact wO 4 v hb
noncomputable def pE(j:Nat)(h:j<=1000):N3 (cd (ns j))/\(ns j).length<=1100:=by
 have s:=ot (j);have l:=zg (i:=(j)) (gq (by lia) (by lia));unfold ns;rw[da,cz];exact⟨λc z=>by grind,by lia⟩
@[simp] theorem OD{α:Type}{a:α}{r:List α}:Zd (a::r) 0=vd a:=by simp[Zd,Zr]
@[simp] theorem OC{α:Type}{a b:α}{r:List α}:Zd (a::b::r) 1=vd b:=oE (rfl)
@[simp] theorem OB{α:Type}{a b c:α}{r:List α}:Zd (a::b::c::r) 2=vd c:=oE (rfl)
noncomputable def eC:inD (.str (OG x)) (.tuple [.str "put",.str "got",.str "row"])=vd (.bool (decide (x="put")||(decide (x="got")||decide (x="row")))):=by
 have e:inD (.str (OG x)) (.tuple [.str "put",.str "got",.str "row"])=vd (.bool (Z3 _ _||(Z3 _ _||(Z3 _ _||false)))):=rfl
 have f:∀a b ,Z3 (.str (OG a)) (.str (OG b))=decide _:=λa b=>by
  rw[Qt];simp[Z3];exact⟨λh=>h.symm,λh=>h.symm⟩
 rw[e,f,f,f,SV]
section
variable {C:Addr}{m:Int}{n:Nat}
def pW(h1:p=p')(h2:b=b'):TW C t0 L p b=TW C t0 L p' b' :=by simp_all
noncomputable def mH(hn:1<=n)(h:aM v=xV):EX C m n 1 [OG "put",mk (cst 4 v)] (.tuple [.str "put",v]):=by
 obtain⟨hb,hm⟩:=uZ h;have st:∀T,g0 25 [.d v] T=vd (.str (mk (cst 4 v)),T):=λT=>yN 4 25 v T hb hm (by decide);have ls:∀T,fH 25 [.d v] T=vd (.str (mk (cst 4 v)),T):=λT=>xh 4 25 v T hb hm (by decide);refine⟨hn,by simp,by simp,by simp,by simp,λw hw=>?_,λk T hk=>?_,λk T hk=>?_,λk T hk=>?_⟩
 .simp at hw
  rcases hw with rfl|rfl
  .exact iM (by decide +kernel)
  .exact qV h
 .obtain⟨k,rfl⟩:∃j,k=j+1:=⟨k-1,by lia⟩
  simp[gn,dJ,i8,bI,zlh]
 .obtain⟨k,rfl⟩:∃j,k=j+1:=⟨k-1,by lia⟩
  exact nB (k:=k) (T:=T) (fl:=[mk (cst 4 v)]) (es:=[]) (g:=λ_=>[]) (by simp[iw,st,sl]) (by simp[jg]) (λe he=>by cases he) (by simp)
 .obtain⟨k,rfl⟩:∃j,k=j+1:=⟨k-1,by lia⟩
  have z:1<sizeLine:=by decide
  exact lW (k:=k) (T:=T) (fl:=[mk (cst 4 v)]) (es:=[]) (g:=λ_=>[]) (by simp[iV,ls,sl,z]) (by simp[dJ,i8]) (λe he=>by cases he) (by simp)
def sE{j:Nat}(h:j<=1000):dE [.int (j:Int)]=vd (.str (ns j)):=kF (gq (by omega) (by omega))
def xB{j:Nat}(h:j<=1000):jZ [.int (j:Int)]=vd (.str (ns j)):=sE h
noncomputable def tj{g j:Nat}(hn:1<=n)(hg:g<=12)(hj:j<g):EX C (g:Int) n 1 [OG "got",ns j] (.tuple [.str "got",.int (j:Int)]):=by
 have s1:=sE (j:=j) (by lia);have s2:=xB (j:=j) (by lia);refine⟨hn,by simp,by simp,by simp,by simp,λw hw=>?_,λk T hk=>?_,λk T hk=>?_,λk T hk=>?_⟩
 .simp at hw
  rcases hw with rfl|rfl
  .exact iM (rfl)
  .exact pE j (by lia)
 .obtain⟨k,rfl⟩:∃j,k=j+1:=⟨k-1,by lia⟩
  kernel_rfl
 .obtain⟨k,rfl⟩:∃j,k=j+1:=⟨k-1,by lia⟩
  exact nB (k:=k) (T:=T) (fl:=[ns j]) (es:=[]) (g:=λ_=>[]) (by simp[iw,s1,sl]) (by simp[jg]) (λe he=>by cases he) (by simp)
 .obtain⟨k,rfl⟩:∃j,k=j+1:=⟨k-1,by lia⟩
  have z:1<sizeLine:=by decide
  exact lW (k:=k) (T:=T) (fl:=[ns j]) (es:=[]) (g:=λ_=>[]) (by simp[iV,s2,sl,z]) (by simp[dJ,i8]) (λe he=>by cases he) (by simp)
theorem sQ{f:OF->Nat×List Str}:∀{es:List OF},(∀e∈es,(f e).2.length<=2*(f e).1)->(es.map λe=>(f e).2).flatten.length<=2*(es.map λe=>(f e).1).sum
 |[],_=>by simp
 |e::es,h=>by
  have:=sQ  λx hx=>h x (OP _ hx)<;>grind
noncomputable def Ai{f:OF->Nat×List Str}{P:Str->Prop}{es:List OF}(h:∀e∈es,∀w∈(f e).2,P w):∀w∈(es.map λe=>(f e).2).flatten,P w :=by grind
noncomputable def zU{f:OF->Nat×List Str}{es:List OF}(hl:es.length<=8)(h:∀e∈es,EX C m n (f e).1 (f e).2 e)(hc:1+(es.map λe=>(f e).1).sum<=60) :
  EX C m (n+1) (1+(es.map λe=>(f e).1).sum) (OG "row"::ns es.length::(es.map λe=>(f e).2).flatten) (.tuple [.str "row",.tuple es]):=by
 have fl:=sQ (f:=f) (es:=es) λe he=>(h e he).ln;have s1:=sE (j:=es.length) (by lia);have s2:=xB (j:=es.length) (by lia);refine⟨by lia,by lia,hc,by simp only[Po];lia,by simp,λw hw=>?_,?_,λk T hk=>?_,λk T hk=>?_⟩
 .rcases OZ.mp hw with rfl|hw
  .exact iM (rfl)
  .rcases OZ.mp hw with rfl|hw
   .exact pE _ (by lia)
   .exact Ai (P:=λw=>N3 (cd w)/\w.length<=1100) (λe he=>(h e he).ok) w hw
 .exact zh (f:=λe=>(f e).1) (λT=>by simp[dJ,i8]) λe he=>(h e he).my
 .obtain⟨k,rfl⟩:∃j,k=j+1:=⟨k-1,by lia⟩
  exact nB (k:=k) (T:=T) (fl:=[ns es.length]) (es:=es) (g:=λe=>(f e).2) (by simp[iw,s1,sl]) (by simp[jg]) (λe he=>(h e he).pw k T (by lia)) (by simp only[Po,Qz];lia)
 .obtain⟨k,rfl⟩:∃j,k=j+1:=⟨k-1,by lia⟩
  have z:1<sizeLine:=by decide
  exact lW (k:=k) (T:=T) (fl:=[ns es.length]) (es:=es) (g:=λe=>(f e).2) (by simp[iV,s2,sl,z]) (by simp[dJ,i8]) (λe he=>(h e he).lw k T (by lia)) (by simp only[Po,Qz];lia)
end
def Gn:List String:=["part","sum","join","same","less"]
def gW:List (Str×Int):=[("many",1),("part",2),("sum",2),("join",2),("same",2),("less",2)]
def Wide(w:String)(k:Nat):Prop:=(w="many"/\k=1)\/(w∈Gn/\k=2)
noncomputable def zlk{w:String}{k:Nat}(h:Wide w k):De gW (.str (OG w))=vd (.bool xV)/\D.atT gW (.str (OG w))=vd (.int (k:Int)):=by
 rcases h with⟨rfl,rfl⟩|⟨hw,rfl⟩
 .simp[De,D.atT,gW]
 .simp[Gn] at hw
  rcases hw with rfl|rfl|rfl|rfl|rfl <;> simp[De,D.atT,gW]
noncomputable def xk(h:Wide w k):¬w="put"/\¬w="got"/\¬w="row"/\¬w="fail":=by
 rcases h with⟨rfl,_⟩|⟨hw,_⟩
 .simp
 .simp[Gn] at hw<;>grind
noncomputable def zll(h:Wide w k):litOk w=xV/\single (.str (OG w))=xV/\k<=2:=by
 have key:∀w∈"many"::Gn,litOk w=xV/\single (.str (OG w))=xV:=by decide +kernel
 rcases h with⟨rfl,rfl⟩|⟨hw,rfl⟩<;>simp_all
section
variable {C:Addr}{m:Int}{n:Nat}
noncomputable def sA{w:String}{f:OF->Nat×List Str}{es:List OF}(hw:Wide w es.length)(h:∀e∈es,EX C m n (f e).1 (f e).2 e)(hc:1+(es.map λe=>(f e).1).sum<=60) :
  EX C m (n+1) (1+(es.map λe=>(f e).1).sum) (OG w::(es.map λe=>(f e).2).flatten) (.tuple (.str (OG w)::es)):=by
 have fl:=sQ (f:=f) (es:=es) λe he=>(h e he).ln;obtain⟨n1,n2,n3,n4⟩:=xk hw;obtain⟨l1,_,_⟩:=zll hw;refine⟨by omega,by omega,hc,by grind,by simp,λw hw=>?_,?_,λk T hk=>?_,λk T hk=>?_⟩
 .rcases OZ.mp hw with rfl|hw
  .exact iM l1
  .exact Ai (P:=λw=>N3 (cd w)/\w.length<=1100) (λe he=>(h e he).ok) w hw
 .exact zh (f:=λe=>(f e).1) (λT=>by simp[dJ,i8,pQ,n1,n2,n3,n4]) λe he=>(h e he).my
 .obtain⟨k,rfl⟩:=AR k (by omega)
  exact nB (k:=k) (T:=T) (fl:=[]) (es:=es) (g:=λe=>(f e).2) (by simp[iw,n1,n2,n3,sl]) (by simp[jg,n1,n2,n3,pQ]) (λe he=>(h e he).pw k T (by omega)) (by simp only[Qz];omega)
 .obtain⟨k,rfl⟩:=AR k (by omega)
  exact lW (k:=k) (T:=T) (fl:=[]) (es:=es) (g:=λe=>(f e).2) (by simp[iV,n1,n2,n3,n4,sl]) (by simp[dJ,i8,pQ,n1,n2,n3,n4]) (λe he=>(h e he).lw k T (by omega)) (by simp only[Qz];omega)
def EW(C:Addr)(m:Int)(n:Nat)(q:Int)(e:OF):Prop:=∃c ws,EX C m n c ws e/\(c:Int)<=q
noncomputable def tO{q:Int}{es:List OF}(h:∀d∈es,EW C m n q d):∃f:OF->Nat×List Str,∀d∈es,EX C m n (f d).1 (f d).2 d/\((f d).1:Int)<=q:=by
 classical
 refine⟨λd=>if h':d∈es then ((h d h').choose,(h d h').choose_spec.choose) else (0,[]),λd hd=>?_⟩;simp only[dif_pos hd];exact(h d hd).choose_spec.choose_spec
theorem oM{f:OF->Nat×List Str}{q:Int}:∀{l:List OF},(∀d∈l,((f d).1:Int)<=q)->(((l.map λd=>(f d).1).sum:Nat):Int)<=l.length*q
 |[],_=>by simp
 |d::l,h=>by
  have h2:=h d OU;have i1:=oM  λx hx=>h x (OP _ hx)
  simp <;>grind
def pX(h:EW C m n q e)(hq:q<=q'):EW C m n q' e:=by
 obtain⟨c,ws,h1,h2⟩:=h;exact⟨c,ws,h1,V7 h2 hq⟩
noncomputable def zlm(hl:es.length<=8)(h:∀d∈es,EW C m n q d)(hQ:es.length*q+1<=Q)(Hf:Q<=60):EW C m (n+1) Q (.tuple [.str "row",.tuple es]):=by
 obtain⟨f,hf⟩:=tO h;have s:=oM    λd hd=>(hf d hd).2;exact⟨_,_,zU hl (λd hd=>(hf d hd).1) (by lia),by lia⟩
noncomputable def zln(h:EW C m n q e)(hQ:q+1<=Q)(Hf:Q<=60):EW C m (n+1) Q (.tuple [.str "many",e]):=by
 obtain⟨f,hf⟩:=tO  λd hd=>by rw[Pj.mp hd];exact h
 have s:=oM    λd hd=>(hf d hd).2;simp only[Po,Qz] at s;exact⟨_,_,sA   (.inl ⟨rfl,rfl⟩) (λd hd=>(hf d hd).1) (by lia),by lia⟩
noncomputable def zlo(hw:w∈Gn)(ha:EW C m n q a)(hb:EW C m n q b)(hQ:q+q+1<=Q)(Hf:Q<=60):EW C m (n+1) Q (.tuple [.str (OG w),a,b]):=by
 obtain⟨f,hf⟩:=tO (es:=[a,b]) λd hd=>by
  simp at hd
  rcases hd with rfl|rfl
  .exact ha
  .exact hb
 have s:=oM    λd hd=>(hf d hd).2;simp only[Po,Qz] at s;exact⟨_,_,sA   (.inr ⟨hw,rfl⟩) (λd hd=>(hf d hd).1) (by lia),by lia⟩
end
variable {R:Tp}{C:Addr}
noncomputable def zlp(hb:aG 2 v=xV)(hm:aI 2 v<=8):aM v=xV:=by
 obtain⟨u1,u2⟩:=rF 2 v hb;obtain⟨u3,u4⟩:=rF 3 v u1
 show (aG 4 v&&decide _)=xV<;>grind
theorem qG{mw:YG}{e0:OF}{T:Tp}:∀(ps:List (OF×List Str)) (acc:List Str) (o2:Option D.W),(∀q∈ps,mw [.d q.1] T=vd (.list (sl q.2),T))->acc.length+(ps.map (·.2)).flatten.length<=100000 ->
  ∃B7,forL 2 (gV 1 (ar mw (ae (aa 2) ah))) (ps.map (·.1)) [vd (.d e0),vd (.loc (.list (sl acc))),o2] T=vd ((.nx,[vd (.d e0),vd (.loc (.list (sl (acc++(ps.map (·.2)).flatten)))),B7]),T)
 |[],acc,o2,_,_=>⟨o2,by simp[forL]⟩
 |q::ps,acc,o2,h,hl=>by
  simp only[PD,QU,Pz] at hl ⊢;have h0:=h q OU;obtain⟨o',ih⟩:=qG  (e0:=e0)  ps (acc++q.2) (vd (.d q.1)) (λx hx=>h x (OP _ hx)) (by grind);refine⟨o',?_⟩
  have z:(sl acc).length+(sl q.2).length<=sizeLine:=by rw[cE,cE];exact jX (by lia)
  have k:=yc (i:=1) (ρ:=[vd (.d e0),vd (.loc (.list (sl acc))),vd (.d q.1)]) (T:=T) z;rw[sH] at k
  have st:gV 1 (ar mw (ae (aa 2) ah)) [vd (.d e0),vd (.loc (.list (sl acc))),vd (.d q.1)] T=vd ((.nx,[vd (.d e0),vd (.loc (.list (sl (acc++q.2)))),vd (.d q.1)]),T):=by
   rw[zv]<;>simp_all
  rw[forL]<;>simp_all
noncomputable def zlq:aQ (a::b::r) (vd 2) zc=r:=by
 have e:aQ (a::b::r) (vd ((2:Nat))) zc=r:=by
  unfold aQ;rw[HT.qW,HT.mh];simp
 exact e
noncomputable def zlr{k:Nat}{T:Tp}{w:String}{e:OF}{we:List Str}{ps:List (OF×List Str)}(hw:¬w="fail")(he:gX 25 [.d e] T=vd (.list (sl we),T))(hr:∀q∈ps,jf k [.d q.1] T=vd (.list (sl q.2),T))(hl:we.length+(ps.map (·.2)).flatten.length<=90000) :
  jf (k+1) [.d (.tuple (.str (OG w)::e::ps.map (·.1)))] T=vd (.list (sl (OG w::(we++(ps.map (·.2)).flatten))),T):=by
 obtain⟨o2,lp⟩:=qG  (e0:=.tuple (.str (OG w)::e::ps.map (·.1))) ps (OG w::we) zc hr (by grind)
 have z':1+(sl we).length<=sizeLine:=by rw[cE];exact jX (by lia)
 have st:fA 1 (ax .list (ae (ag Ze (aa 0) (fC (.int 0))) ah)) (ar (gX 25) (ae (ag Ze (aa 0) (fC (.int 1))) ah)) [vd (.d (.tuple (.str (OG w)::e::ps.map (·.1)))),zc,zc] T=vd ((.nx,[vd (.d (.tuple (.str (OG w)::e::ps.map (·.1)))),vd (.loc (.list (sl (OG w::we)))),zc]),T):=by
  unfold fA;simp[he,kY,z'];rfl
 have e0:jf (k+1)=aL 3 _:=rfl;rw[e0];simp[hw,st,zlq,lp]
noncomputable def rM{k:Nat}{T:Tp}{w:String}{ps:List (OF×List Str)}(hw:¬w="put"/\¬w="got"/\¬w="row"/\¬w="fail")(hr:∀q∈ps,cp k [.d q.1] T=vd (.list (sl q.2),T))(hl:(ps.map (·.2)).flatten.length<=90000) :
  cp (k+1) [.d (.tuple (.str (OG w)::ps.map (·.1)))] T=vd (.list (sl (OG w::(ps.map (·.2)).flatten)),T):=by
 obtain⟨n1,n2,n3,n4⟩:=hw;obtain⟨o2,lp⟩:=qG  (e0:=.tuple (.str (OG w)::ps.map (·.1))) ps [OG w] zc hr (by grind)
 have hi:dJ [.d (.tuple (.str (OG w)::ps.map (·.1)))] T=vd (.list (ps.map (·.1)),T):=by simp[dJ,i8,pQ,n1,n2,n3,n4]
 have hf:iV [vd (.d (.tuple (.str (OG w)::ps.map (·.1)))),vd (.loc (.list [.str (OG w)])),zc] T=vd ((.nx,[vd (.d (.tuple (.str (OG w)::ps.map (·.1)))),vd (.loc (.list (sl [OG w]))),zc]),T):=by
  simp[iV,n1,n2,n3,n4,sl]
 rw[Ac]<;>simp_all
noncomputable def cL:inD (.str (OG x)) (.tuple [.str "want",.str "peek"])=vd (.bool (decide (x="want")||decide (x="peek"))):=by
 have e:inD (.str (OG x)) (.tuple [.str "want",.str "peek"])=vd (.bool (Z3 _ _||(Z3 _ _||false))):=rfl
 have f:∀a b ,Z3 (.str (OG a)) (.str (OG b))=decide _:=λa b=>by
  rw[Qt];simp[Z3];exact⟨λh=>h.symm,λh=>h.symm⟩
 rw[e,f,f,SV]
structure RX(C:Addr)(g n c:Nat)(ws:List Str)(r:OF):Prop where
 n1:1<=n
 c1:1<=c
 c6:c<=60
 ln:ws.length<=2*c
 ne:ws≠[]
 ok:∀w∈ws,N3 (cd w)/\w.length<=1100
 pw:∀k T,n<k->jf k [.d r] T=vd (.list (sl ws),T)
 lw:∀k T,n<k->cp k [.d r] T=vd (.list (sl ws),T)
section
variable {C:Addr}{g n:Nat}
noncomputable def zls(h:isName (.str x)=xV):N3 (cd x)/\x.length<=1100:=by
 have h':(decide _&&decide _&&has HY x)=xV:=h;rw[OW,OW] at h';have l8:=of_decide_eq_true h'.1.2
 have no:∀c∈cd HY,c<128/\c≠32:=by decide +kernel
 exact⟨λc z=>no c (of_decide_eq_true (Pd.mp h'.2 c z)),by lia⟩
def iu:List (Str×Int):=[("say",0),("fail",0),("want",1),("peek",1),("when",2)]
noncomputable def yI(hn:1<=n)(hg:g<=12)(h:isName (.str x)=xV):RX C g n 1 [OG "fail",x] (.tuple [.str "fail",.str x]):=by
 refine⟨hn,by simp,by simp,by simp,by simp,λw hw=>?_,λk T hk=>?_,λk T hk=>?_⟩
 .simp at hw
  rcases hw with rfl|rfl
  .exact iM (rfl)
  .exact zls h
 .obtain⟨k,rfl⟩:∃j,k=j+1:=⟨k-1,by lia⟩
  kernel_rfl
 .obtain⟨k,rfl⟩:∃j,k=j+1:=⟨k-1,by lia⟩
  have z:1<sizeLine:=by decide
  exact lW (k:=k) (T:=T) (fl:=[x]) (es:=[]) (g:=λ_=>[]) (rfl) (rfl) (λe he=>by simp_all) (by simp)
noncomputable def oH{w:String}{e:OF}{ce:Nat}{we:List Str}{qs:List (OF×Nat×List Str)}{g':Nat}(hw:¬w="put"/\¬w="got"/\¬w="row"/\¬w="fail")(Jm:litOk w=xV)(Jn:n<=20)
  (he:EX C (g:Int) n ce we e) (hr:∀q∈qs,RX C g' n q.2.1 q.2.2 q.1) (hc:1+ce+(qs.map (·.2.1)).sum<=60) :
  RX C g (n+1) (1+ce+(qs.map (·.2.1)).sum) (OG w::(we++(qs.map (·.2.2)).flatten)) (.tuple (.str (OG w)::e::qs.map (·.1))):=by
 obtain⟨n1,n2,n3,n4⟩:=hw
 have fl:(qs.map (·.2.2)).flatten.length<=2*(qs.map (·.2.1)).sum:=by
  clear hc
  induction qs with
  |nil=>simp
  |cons q qs ih=>
   have h0:=(hr q OU).ln;have:=ih λx hx=>hr x (OP _ hx);simp only[PD,QU,R5,Pz]
   lia
 have hel:=he.ln;refine⟨by lia,by lia,hc,by simp only[Po,Pz];lia,by simp,λu hu=>?_,λk T hk=>?_,λk T hk=>?_⟩
 .rcases OZ.mp hu with rfl|hu
  .exact iM Jm
  .rcases Pq.mp hu with hu|hu
   .exact he.ok u hu
   .obtain⟨l,hl,hu'⟩:=Wr.mp hu
    obtain⟨q,hq',rfl⟩:=Pu.mp hl;exact(hr q hq').ok u hu'
 .obtain⟨k,rfl⟩:∃j,k=j+1:=⟨k-1,by lia⟩
  have:=zlr (k:=k) (T:=T) (w:=w) (e:=e) (we:=we) (ps:=qs.map λq=>(q.1,q.2.2)) n4 (he.pw 25 T (by lia)) (λq hq'=>by
   obtain⟨q',h1,rfl⟩:=Pu.mp hq'
   exact(hr q' h1).pw k T (by lia)) (by simp only[Qo];show we.length+(qs.map (·.2.2)).flatten.length<=90000;lia)
  simp only[Qo] at this;exact this
 .obtain⟨k,rfl⟩:∃j,k=j+1:=⟨k-1,by lia⟩
  have:=rM (k:=k) (T:=T) (w:=w) (ps:=(e,we)::qs.map λq=>(q.1,q.2.2)) ⟨n1,n2,n3,n4⟩ (λq hq'=>by
   rcases OZ.mp hq' with rfl|hq'
   .exact he.lw k T (by lia)
   .obtain⟨q',h1,rfl⟩:=Pu.mp hq'
    exact(hr q' h1).lw k T (by lia)) (by simp only[PD,Qo,QU,Pz];show we.length+(qs.map (·.2.2)).flatten.length<=90000;lia)
  simp only[PD,Qo,QU] at this;exact this
end
variable {R:Tp}{C:Addr}
def RW(C:Addr)(g n:Nat)(q:Int)(r:OF):Prop:=∃c ws,RX C g n c ws r/\(c:Int)<=q
noncomputable def zlt{g n:Nat}{q Q:Int}{e:OF}(hn:n<=20)(h:EW C (g:Int) n q e)(hQ:q+1<=Q)(Hf:Q<=60):RW C g (n+1) Q (.tuple [.str "say",e]):=by
 obtain⟨c,ws,h1,h2⟩:=h;exact⟨_,_,oH (qs:=[]) (g':=g) (by simp) (rfl) hn h1 (λq hq=>by simp_all) (by grind),by simp;lia⟩
noncomputable def zlu{g n c:Nat}{ws:List Str}{q Q:Int}{w:String}{e r:OF}(hn:n<=20)(hw:w="want"\/w="peek")(hg:g<12)(h:EX C (g:Int) n c ws e)(hr:RW C (g+1) n q r)(hQ:1+(c:Int)+q<=Q)(Hf:Q<=60):RW C g (n+1) Q (.tuple [.str (OG w),e,r]):=by
 obtain⟨d,us,h1,h2⟩:=hr
 have a1:¬w="put"/\¬w="got"/\¬w="row"/\¬w="fail":=by lia
 have a2:litOk w=xV:=by rcases hw with rfl|rfl <;> decide +kernel
 exact⟨_,_,oH (qs:=[(r,d,us)]) a1 a2 hn h (λq hq=>by simp at hq;subst hq;exact h1) (by grind),by simp;lia⟩
noncomputable def zlv{g n c:Nat}{ws:List Str}{q Q:Int}{e r s:OF}(hn:n<=20)(h:EX C (g:Int) n c ws e)(hr:RW C g n q r)(hs:RW C g n q s)(hQ:1+(c:Int)+q+q<=Q)(Hf:Q<=60):RW C g (n+1) Q (.tuple [.str "when",e,r,s]):=by
 obtain⟨d,us,h1,h2⟩:=hr;obtain⟨f,vs,h3,h4⟩:=hs
 exact⟨_,_,oH (qs:=[(r,d,us),(s,f,vs)]) (g':=g) (by simp) (rfl) hn h (λq hq=>by
  simp at hq
  rcases hq with rfl|rfl<;>lia) (by grind),by simp;lia⟩
theorem yB:∀ls:List (List Nat),(ba [32] ls).length<=(ls.map (·.length)).sum+ls.length
 |[]=>by simp[ba]
 |[x]=>by simp[ba]
 |x::y::r=>by
  have ih:=yB (y::r)
  have e:ba [32] (x::y::r)=x++[32]++ba [32] _:=rfl<;>grind
theorem sO{B:Nat}:∀{ws:List Str},(∀w∈ws,w.length<=B)->(ws.map (·.length)).sum<=B*ws.length
 |[],_=>by simp
 |w::ws,h=>by
  have:=sO  λx hx=>h x (OP _ hx);have h0:=h w OU;simp only[PD,R5,Po,Nat.mul_add]
  lia
theorem tJ:cd BL=[32] :=rfl
noncomputable def wC(ws:List Str):(Py BL ws).length<=(ws.map (·.length)).sum+ws.length:=by
 have e:(Py BL ws).length=(ba [32] (ws.map cd)).length:=by rw[←aU,iH,tJ]
 have:=yB (ws.map cd);rw[e]
 have e2:((ws.map cd).map (·.length))=ws.map (·.length):=by
  rw[Qo];exact P2 λx _=>aU x
 rw[e2,PV] at this<;>omega
section
variable {C:Addr}{g n c:Nat}{ws:List Str}{r:OF}
def RX.len(h:RX C g n c ws r):(ws.map (·.length)).sum+ws.length<=200000:=by
 have a:=sO  λw hw=>(h.ok w hw).2;have b:=h.ln
 have d:=h.c6<;>lia
noncomputable def x5(hl:(ws.map (·.length)).sum+ws.length<=200000):ic (.str " ") (.list (sl ws))=vd (.str (Py BL ws)):=by
 have e:ic (.str _) (.list (sl ws))=(match d7 _ with|some ys=>if (ys.map _).sum+ys.length*(OG " ").length<=16777216 then vd _ else zc|none=>zc):=rfl;have b:(OG " ").length=1:=rfl;rw[e,rH,b];dsimp only;rw[Nat.mul_one];exact if_pos (by lia)
noncomputable def zlw(h:RX C g n c ws r)(hn:n<=20)(T:Tp):ji [.d r] T=vd (.str (Py BL ws),T):=by
 have a:=h.pw 25 T (by lia);have b:iU (.str _) (.list _)=vd _:=x5 h.len;simp[ji,a,b]
end
abbrev OI:=Option (Int×Tp)
def Bp(o:OI)(k:Unit->OI):OI:=match o with
 |some r=>vd r
 |none=>k ()
theorem c8:XO.dq f g ρ T=Bp (g ρ T) λ_=>f ρ T :=rfl
@[simp] theorem MI:Bp zc k=k ():=rfl
@[simp] theorem MH:Bp (vd r) k=vd r:=rfl
def B1(g:XO.Zb)(p:Fl×Yy)(T:Tp):OI:=match p with
 |(.nx,YT)=>g YT T
 |_=>zc
@[simp] theorem Od:XO.df f g ρ T=Yz (f ρ T) (B1 g):=rfl
@[simp] theorem M4:B1 g (.nx,ρ) T=g ρ T:=rfl
@[simp] theorem M3:B1 g (.rt x,ρ) T=zc:=rfl
@[simp] theorem Oe:XO.f9 f g ρ T=Yz (f ρ T) λ_ T1=>g ρ T1:=rfl
@[simp] theorem Oa:XO.iq f g ρ T=Yz (f ρ T) λb T1=>if b=xV then g ρ T1 else zc:=rfl
def AV(l:Int->Bool)(w:D.W)(T:Tp):OI:=match w with
 |.d (.int n)=>if l n=xV then vd (n,T) else zc
 |_=>zc
@[simp] theorem MK:XO.pJ l f ρ T=Yz (f ρ T) (AV l):=rfl
@[simp] theorem L6:AV l (.d (.int n)) T=if l n=xV then vd (n,T) else zc:=rfl
@[simp] theorem Mh:XO.cZ m g ρ T=Yz (g ρ T) λws T1=>if dB ws=xV then m ws T1 else zc:=rfl
theorem cU:XO.fq C m mm fo g ρ T=Yz (fo ρ T) (XO.mP C m mm g ρ):=rfl
@[simp] theorem NR:XO.dW N m ws T=m (ws.map vd++OQ (N-ws.length) zc) T:=rfl
@[simp] theorem L7:pL ρ T=zc:=rfl
@[simp] theorem Mc:c9 zc=zc:=rfl
def zj{n:Nat}(h:n<=1000):lim (n:Int)=xV:=by
 unfold lim;simp
 lia
section
variable {C:Addr}{t0:List OF}{L:List Str}{p b:Int}
noncomputable def cV(h:¬m="parted"/\¬m="place"/\¬m="begun"):XO.mP C (OG m) mm g ρ (.tp 0) (TW C t0 L p b)=Yz (g ρ (TW C t0 L p b)) λws T2=>if dB ws=xV then mm (.tp 0::ws) T2 else zc:=by
 obtain⟨h1,h2,h3⟩:=h;have o:=jO (C:=C) (t0:=t0) (L:=L) (p:=p) (b:=b);unfold XO.mP;dsimp only;rw[o];dsimp only;rw[if_pos];simp only[eQ,Gx];rw[if_neg λz=>h1 z.symm,if_neg λz=>h2 z.symm,if_neg λz=>h3 z.symm];rfl
noncomputable def zlx{k:Nat}(h:L.length<=k):dw C [.tp 0] (TW C t0 L (k:Int) b)=vd (.str "",TW C t0 L (k:Int) b):=by
 have h':¬(k)<(L.length):=by lia
 simp[dw,gu,l7,jw,cE,h']
def YI(L:List Str)(k:Nat):Str:=(L[k]?).getD ""
noncomputable def dH{k:Nat}:dw C [.tp 0] (TW C t0 L (k:Int) b)=vd (.str (YI L k),TW C t0 L (k:Int) b):=by
 unfold YI
 cases h:L[k]? with
 |some w=>exact yK h
 |none=>exact zlx (List.getElem?_eq_none_iff.mp h)
theorem kX:iz C [.tp 0,.d (.bool zd)] (TW C t0 L p b)=zc :=rfl
noncomputable def kW{k:Nat}(h:k<=1000):jh C [.tp 0,.d (.bool zd)] (TW C t0 L (k:Int) b)=vd ((k:Int),TW C t0 L (k:Int) b):=by simp[jh,gu,jw,zj h]
def jB:eZ C [.tp 0,.d (.bool zd),.d (.int a)] (TW C t0 L p b)=zc:=by simp[eZ,aR,Y2,kX]
noncomputable def oG{k:Nat}{a:Int}(h:k<=1000):iy C [.tp 0,.d (.bool zd),.d (.int a)] (TW C t0 L (k:Int) b)=vd ((k:Int),TW C t0 L (k:Int) b):=by simp[iy,cU,cV,kW h]
end
structure Rz(C:Addr)(t0:List OF)(L:List Str)(q:Nat)(o:Option (OF×Tp))(x:OI):Prop where
 no:o=zc
 ra:∃p b,x=vd ((q:Int),TW C t0 L p b)
section
variable {C:Addr}{t0:List OF}{L:List Str}{k:Nat}{p b:Nat}{a:Int}
noncomputable def zly(hp:p<=1000)(hw:YI L p=w)(hv:∀T,fi [.d (.str w)] T=vd (.none,T)):Rz C t0 L p (jq C [.tp 0] (TW C t0 L (p:Int) (b:Int))) (nQ C [.tp 0] (TW C t0 L (p:Int) (b:Int))):=by
 subst hw;have a1:=dH (C:=C) (t0:=t0) (L:=L) (k:=p) (b:=(b));have i:=hv (TW C t0 L (p) (b));have n:fm .none .none=vd (.bool zd):=rfl;refine⟨?_,(p),(b),?_⟩
 .simp[jq,aR,Y2,a1,i,n,kX]
 .simp[nQ,aR,cU,Y2,cV,a1,i,n,kW hp]
noncomputable def zlz(hp:p<=1000)(hw:YI L p=w)(hv:∀T,fM [.d (.str w)] T=vd (.bool zd,T)):Rz C t0 L p (jn C [.tp 0] (TW C t0 L (p:Int) (b:Int))) (nG C [.tp 0] (TW C t0 L (p:Int) (b:Int))):=by
 subst hw;have a1:=dH (C:=C) (t0:=t0) (L:=L) (k:=p) (b:=(b));have i:=hv (TW C t0 L (p) (b));refine⟨?_,(p),(b),?_⟩
 .simp[jn,aR,Y2,a1,i,kX]
 .simp[nG,aR,cU,Y2,cV,a1,i,kW hp]
noncomputable def zma{n:Nat}{T:Tp}(hn:n<=100):bI bB (YR dE (ae (aa 0) ah)) [vd (.tp 0),vd (.d (.int (n:Int))),zc,zc] (bA 0 n) T=vd (sl ((PY n).map ns),T):=by
 have c:=gr (e:=YR dE (ae (aa 0) ah)) (ρ:=[vd (.tp 0),vd (.d (.int (n))),zc,zc]) (T:=T) (g:=λd=>match d with | .int i=>.str (mk (nc i))|_=>.none) (ds:=bA 0 n) λd hd=>by
  obtain⟨i,hi,rfl⟩:=Pu.mp hd
  simp_all
  have z:=kF (i:=(0)+(i)) (gq (by lia) (by lia))<;>simp_all
 have m:(bA 0 n).map (λd=>match d with | .int i=>.str (mk (nc i))|_=>U9)=sl ((PY n).map ns):=by
  unfold sl bA;simp[ns]
 rw[m] at c;exact c
noncomputable def Aw{w:Str}{n:Nat}(hp:p<=1000)(hn:n<=100)(hw:YI L p=w)(hv:inD (.str w) (.list (sl ((PY n).map ns)))=vd (.bool zd)):Rz C t0 L p (fF C [.tp 0,.d (.int (n:Int))] (TW C t0 L (p:Int) (b:Int))) (lF C [.tp 0,.d (.int (n:Int))] (TW C t0 L (p:Int) (b:Int))):=by
 subst hw;have a1:=dH (C:=C) (t0:=t0) (L:=L) (k:=p) (b:=(b));have r:=fL (j:=(n)) (by lia) (by lia);have c:=zma  (T:=TW C t0 L (p) (b)) hn;refine⟨?_,(p),(b),?_⟩
 .simp[fF,aR,Y2,r,c,a1,hv,kX]
 .simp[lF,aR,cU,Y2,cV,r,c,a1,hv,kW hp]
def EG:PyData:=.tuple [.str "put",.str "got",.str "row"]
noncomputable def zmb(hp:p<=1000)(hw:YI L p=w)(h1:inD (.str w) EG=vd (.bool zd))(h2:De gW (.str w)=vd (.bool zd)):Rz C t0 L p (bO C (k+1) [.tp 0,.d (.int a),.d (.int g)] (TW C t0 L (p:Int) (b:Int))) (cS C (k+1) [.tp 0,.d (.int a),.d (.int g)] (TW C t0 L (p:Int) (b:Int))):=by
 subst hw;have a1:=dH (C:=C) (t0:=t0) (L:=L) (k:=p) (b:=(b));unfold EG at h1;unfold gW at h2;refine⟨?_,(p),(b),?_⟩
 .simp[bO,aR,Y2,a1,h1,h2,jB]
 .simp[cS,c8,aR,cU,Y2,cV,a1,h1,h2,jB,oG hp]
noncomputable def zmc(hp:p<=900)(ha:a<20)(hb:b<60)(hw:YI L p=OG "put")(CI:YI L (p+1)=w)(hv:∀T,fi [.d (.str w)] T=vd (.none,T)):Rz C t0 L (p+1) (bO C (k+1) [.tp 0,.d (.int a),.d (.int g)] (TW C t0 L (p:Int) (b:Int))) (cS C (k+1) [.tp 0,.d (.int a),.d (.int g)] (TW C t0 L (p:Int) (b:Int))):=by
 have a1:=dH (C:=C) (t0:=t0) (L:=L) (k:=p) (b:=(b));have b2:=kH (C:=C) (t0:=t0) (L:=L) (p:=(p)) (b:=(b))  ha (by lia);obtain⟨n,p',b',x⟩:=zly (C:=C) (t0:=t0) (b:=b+1) (by lia) CI hv
 simp_all
 refine⟨?_,p',b',?_⟩
 .simp[bO,aR,Y2,a1,eC,b2,n]
 .simp[cS,c8,aR,Y2,a1,eC,b2,n,x]
noncomputable def zmd{g:Nat}{w:Str}(hp:p<=900)(ha:a<20)(hb:b<60)(hg:g<=12)(hw:YI L p=OG "got")(CI:YI L (p+1)=w)(hv:inD (.str w) (.list (sl ((PY g).map ns)))=vd (.bool zd)):Rz C t0 L (p+1) (bO C (k+1) [.tp 0,.d (.int a),.d (.int (g:Int))] (TW C t0 L (p:Int) (b:Int))) (cS C (k+1) [.tp 0,.d (.int a),.d (.int (g:Int))] (TW C t0 L (p:Int) (b:Int))):=by
 have a1:=dH (C:=C) (t0:=t0) (L:=L) (k:=p) (b:=(b));have b2:=kH (C:=C) (t0:=t0) (L:=L) (p:=(p)) (b:=(b))  ha (by lia);obtain⟨n,p',b',x⟩:=Aw (C:=C) (t0:=t0) (b:=b+1) (by lia) (by lia) CI hv
 simp_all
 refine⟨?_,p',b',?_⟩
 .simp[bO,aR,Y2,a1,eC,b2,n]
 .simp[cS,c8,aR,Y2,a1,eC,b2,n,x]
noncomputable def zme(hp:p<=900)(ha:a<20)(hb:b<60)(hw:YI L p=OG "row")(CI:YI L (p+1)=w)(hv:inD (.str w) (.list (sl ((PY 9).map ns)))=vd (.bool zd)):Rz C t0 L (p+1) (bO C (k+1) [.tp 0,.d (.int a),.d (.int g)] (TW C t0 L (p:Int) (b:Int))) (cS C (k+1) [.tp 0,.d (.int a),.d (.int g)] (TW C t0 L (p:Int) (b:Int))):=by
 have a1:=dH (C:=C) (t0:=t0) (L:=L) (k:=p) (b:=(b));have b2:=kH (C:=C) (t0:=t0) (L:=L) (p:=(p)) (b:=(b))  ha (by omega);obtain⟨n,p',b',x⟩:=Aw (C:=C) (t0:=t0) (b:=b+1)  (by omega) (by lia) CI hv
 simp_all
 refine⟨?_,p',b',?_⟩
 .simp[bO,aR,Y2,a1,eC,b2,n]
 .simp[cS,c8,aR,Y2,a1,eC,b2,n,x]
noncomputable def zO(hp:p<=1000)(hw:YI L p=w)(h2:De iu (.str w)=vd (.bool zd)):Rz C t0 L p (bK C (k+1) [.tp 0,.d (.int a),.d (.int g)] (TW C t0 L (p:Int) (b:Int))) (cM C (k+1) [.tp 0,.d (.int a),.d (.int g)] (TW C t0 L (p:Int) (b:Int))):=by
 subst hw;have a1:=dH (C:=C) (t0:=t0) (L:=L) (k:=p) (b:=(b));unfold iu at h2;refine⟨?_,(p),(b),?_⟩
 .simp[bK,aR,Y2,a1,h2,jB]
 .simp[cM,c8,aR,cU,Y2,cV,a1,h2,jB,oG hp]
noncomputable def zmf(hp:p<=900)(ha:a<20)(hb:b<60)(hw:YI L p=OG "fail")(CI:YI L (p+1)=w)(hv:∀T,fM [.d (.str w)] T=vd (.bool zd,T)):Rz C t0 L (p+1) (bK C (k+1) [.tp 0,.d (.int a),.d (.int g)] (TW C t0 L (p:Int) (b:Int))) (cM C (k+1) [.tp 0,.d (.int a),.d (.int g)] (TW C t0 L (p:Int) (b:Int))):=by
 have a1:=dH (C:=C) (t0:=t0) (L:=L) (k:=p) (b:=(b));have b2:=kH (C:=C) (t0:=t0) (L:=L) (p:=(p)) (b:=(b))  ha (by omega);obtain⟨n,p',b',x⟩:=zlz (C:=C) (t0:=t0) (b:=b+1) (by omega) CI hv
 simp_all
 refine⟨?_,p',b',?_⟩
 .simp[bK,aR,Y2,a1,De,cL,b2,n]
 .simp[cM,c8,aR,Y2,a1,De,cL,b2,n,x]
end
noncomputable def sh(h:cy w=xV):dg (PP w)=w:=by
 obtain⟨ha,Ib⟩:=rm h
 have hc:w.map Yq=SC 10 (PP w):=by
  obtain⟨c,r,rfl⟩:∃c r,w=c::r:=by
   cases w <;>simp_all
  refine(NumText.toDigits_digitsVal _ _ rfl ha ?_).symm
  by_cases hr:r=[]
  .left;rw[hr];rfl
  .right
   refine⟨c,r,rfl,?_⟩
   have hz:c≠48:=λz=>by
    unfold cy at h<;>simp_all
   have:=ha c OU
   lia
 unfold dg;rw[←hc,Qo];refine(P2  λc hc=>?_).trans (Yj _);have:=ha c hc;exact(by decide:∀c<58,(Yq c).toNat=c) c (by lia)
noncomputable def zmg(h:gT w=vd i):w=nc i:=by
 unfold gT at h;split at h
 .cases h
 .rename_i hn
  have h1:w≠[45,48]:=λz=>hn (.inl z)
  have h3:cy (fg w)=xV:=by simp_all
  injection h with h
  subst h
  by_cases hm:w.head? = vd 45
  .obtain⟨r,rfl⟩:∃r,w=45::r:=by
    cases w <;>simp_all
   have EJ:cy r=xV:=h3;have e:=sh EJ
   simp_all
   cases k:PP r with
   |zero=>
    rw[k] at e;exact absurd (by rw[←e,zkl]) h1
   |succ m=>
    rw[k] at e;show 45::r=45::dg _;rw[e]
  .have EJ:cy w=xV:=by
    unfold fg at h3<;>simp_all
   rw[if_neg hm];exact(sh EJ).symm
noncomputable def zmh(h:dR w=vd v)(n:Nat):w=cst n v:=by
 unfold dR at h
 by_cases hm:w.head? = vd 39
 .rw[if_pos hm] at h
  injection h with h
  subst h;rw[ml,da]
  cases w <;>simp_all
 .rw[if_neg hm] at h
  obtain⟨i,hi,rfl⟩:=OT.mp h;rw[mn];exact zmg hi
noncomputable def zmi(h:d8 l=vd (v,r))(n:Nat):l=cst n v++r:=by
 obtain⟨x,hx,e⟩:=OT.mp h
 injection e with e1 e2
 subst e1 e2;rw[←zmh hx n];have h2:W l <+: l:=Qk _
 obtain⟨t,ht⟩:=h2<;>grind
def head_cons(h:l.head? = vd c):l=c::l.tail:=by cases l <;>simp_all
theorem uK(hv:∀l v r,val l=vd (v,r)->l=f v++r) :
  ∀(n:Nat) (acc:List OF) (l:List Nat) (v:OF) (r:List Nat),cg val n acc l=vd (v,r)->∃d ds,v=.tuple (acc++d::ds)/\l=ba [44] ((d::ds).map f)++41::r
 |0,acc,l,v,r,e=>by cases e
 |n+1,acc,l,v,r,e=>by
  unfold cg at e
  cases hx:val l with
  |none=>simp_all
  |some p=>
   obtain⟨x,q⟩:=p;rw[hx] at e;have hl:=hv l x q hx
   by_cases c1:q.head? = vd 41
   .simp only[c1,if_true] at e
    injection e with e
    injection e with e1 e2
    refine⟨x,[],e1.symm,?_⟩;rw[hl,head_cons c1,e2];rfl
   .by_cases c2:q.head? = vd 44
    .simp only[c1,c2,if_true,if_false] at e
     obtain⟨d,ds,e1,e2⟩:=uK hv n _ _ _ _ e;refine⟨x,d::ds,by simp_all,?_⟩;rw[hl,head_cons c2,e2];rw[PD,PD,PD,km,km];simp
    .simp_all
theorem u5:∀(n:Nat) (l:List Nat) (v:OF) (r:List Nat),bT n l=vd (v,r)->l=cst n v++r
 |n,l,v,r,e=>by
  by_cases h:l.head? = vd 40
  .cases n with
   |zero=>unfold bT at e<;>simp_all
   |succ n=>
    unfold bT at e;rw[if_pos h] at e
    by_cases c:l.tail.head? = vd 41
    .rw[if_pos c] at e
     injection e with e
     injection e with e1 e2
     rw[head_cons h,head_cons c,e2,←e1];rfl
    .rw[if_neg c] at e
     obtain⟨d,ds,e1,e2⟩:=uK (u5 n) _ _ _ _ _ e;rw[head_cons h,e2,e1];show _=40::_++r;simp
  .rw[zkq h] at e
   exact zmi e n
def cY(l:List Nat):Option PyData:=match bT 4 l with
 |some (v,[])=>if aM v=xV then vd v else zc
 |_=>zc
def zmj(h:aM v=xV):aG 4 v=xV:=by
 unfold aM at h;simp at h;exact h.1
noncomputable def uq(h:cY l=vd v):aM v=xV/\l=cst 4 v:=by
 unfold cY at h;split at h
 .rename_i x hx
  split at h
  .rename_i hv
   injection h with h
   subst h;exact⟨hv,by simpa using u5 4 _ _ _ hx⟩
  .cases h
 .cases h
noncomputable def xF(hl:l.length<=2000)(hc:∀c∈l,c<128)(h:d8 l=vd (v,r)):Sm v:=by
 obtain⟨v',h1,h2⟩:=OT.mp h;cases h2;have hw:W l <+: l:=Qk _;unfold dR at h1;split at h1
 .injection h1 with h1
  subst h1;refine Sm.mkS ?_ λc Il=>?_
  .rw[cz,SK]<;>grind
  .exact hc c (hw.subset (Vb Il))
 .obtain⟨i,_,rfl⟩:=OT.mp h1
  simp[Sm,IY]
theorem rV(hs:Suf val)(hv:∀l v r,l.length<=2000->(∀c∈l,c<128)->val l=vd (v,r)->Sm v) :
  ∀(n:Nat) (acc:List OF) (l:List Nat) (v:OF) (r:List Nat),l.length<=2000->(∀c∈l,c<128)->(∀d∈acc,Sm d)->cg val n acc l=vd (v,r)->Sm v
 |0,_,_,_,_,_,_,_,e=>by cases e
 |n+1,acc,l,v,r,hl,hc,ha,e=>by
  unfold cg at e
  cases hx:val l with
  |none=>simp_all
  |some q=>
   obtain⟨v1,r1⟩:=q;have s1:=hs l v1 r1 hx;have m1:=hv l v1 r1 hl hc hx
   have CB:∀d∈acc++[v1],Sm d:=λd hd=>by grind
   rw[hx] at e;dsimp only at e;split at e
   .cases e
    exact Sm.tup CB
   .split at e
    .have s2:=(PQ r1).trans s1
     exact rV hs hv n _ _ _ _ (OS s2.length_le hl) (λc Il=>hc c (s2.subset Il)) CB e
    .cases e
theorem xn:∀(n:Nat) (l:List Nat) (v:OF) (r:List Nat),l.length<=2000->(∀c∈l,c<128)->bT n l=vd (v,r)->Sm v
 |0,l,v,r,hl,hc,e=>by
  unfold bT at e;split at e
  .cases e
  .exact xF hl hc e
 |n+1,l,v,r,hl,hc,e=>by
  unfold bT at e;split at e
  .split at e
   .cases e
    exact Sm.tup λd hd=>by cases hd
   .have s2:=PQ l
    exact rV (oi n) (λl v r=>xn n l v r) _ _ _ _ _ (OS s2.length_le hl) (λc Il=>hc c (s2.subset Il)) (λd hd=>by cases hd) e
  .exact xF hl hc e
noncomputable def zmk(T:Tp)(h:x.length<=2000)(hc:∀c∈cd x,c<128):fi [.d (.str x)] T=vd (f6 (cY (cd x)),T):=by
 have hz:x.length<=sizeLine:=OS h (by decide);have e:=yM (t:=x) (T:=T) (OS h (by simp)) 4 25 (by simp) (cd x) (Ws _);rw[aU,Yb] at e;have e':dM 25 [.d (.str x),.d (.int 0),.d (.int 4)] T=vd (bJ x.length (bT 4 (cd x)),T):=e;unfold cY
 cases hv:bT 4 (cd x) with
 |none=>
  rw[hv] at e';simp[fi,e',bJ,isNone,f6]
 |some q=>
  obtain⟨v,r⟩:=q;have hs:=(oi 4 _ _ _ hv).length_le;rw[aU] at hs;have sm:=xn 4 _ _ _ (by rw[aU];exact h) hc hv;have iv:=zjx T sm;rw[hv] at e'
  cases r with
  |nil=>
   have e2:dM 25 [.d (.str x),.d (.int 0),.d (.int 4)] T=vd (.tuple [v,.int (x.length:Int)],T):=e'
   cases hi:aM v with
   |true=>
    rw[hi] at iv;simp[fi,e2,isNone,gf,gc,hz,iv,f6,hi]
   |false=>
    rw[hi] at iv;simp[fi,e2,isNone,gf,gc,hz,iv,f6,hi]
  |cons a r=>
   rw[Po] at hs;have e2:dM 25 [.d (.str x),.d (.int 0),.d (.int 4)] T=vd (.tuple [v,.int _],T):=e'
   have lt:((x.length-(r.length+1):Nat):Int)<(x.length:Int):=by omega
   simp[fi,e2,isNone,gf,gc,hz,f6,lt]
inductive Oc(α:Type) where
 |ok (x:α) (p b:Nat)
 |bad (q:Nat)
def Oc.map{α β:Type}(f:α->β):Oc α->Oc β
 |.ok x p b=>.ok (f x) p b
 |.bad q=>.bad q
noncomputable def ZQ(r1:Nat->Nat->Oc OF):Nat->Nat->Nat->Oc (List OF)
 |0,p,b=>.ok [] p b
 |n+1,p,b=>match r1 p b with
  |.bad q=>.bad q
  |.ok t p' b'=>(ZQ r1 n p' b').map (t::·)
def Zr(g:Nat)(w:Str):Option Nat:=(PY g).find? λj=>decide (ns j=w)
noncomputable def D9(w:Str):Option Nat:=if w=OG "many" then vd 1 else if w∈["part","sum","join","same","less"].map OG then vd 2 else zc
noncomputable def rE(L:List Str):Nat->Nat->Nat->Nat->Nat->Oc OF
 |0,_,_,p,_=>.bad p
 |k+1,d,g,p,b=>
  if 20<=d\/60<=b then .bad p
  else if YI L p=OG "put" then (match cY (cd (YI L (p+1))) with
   |some v=>.ok (.tuple [.str "put",v]) (p+2) (b+1)
   | none=>.bad (p+1))
  else if YI L p=OG "got" then (match Zr g (YI L (p+1)) with
   |some j=>.ok (.tuple [.str "got",.int (j:Int)]) (p+2) (b+1)
   | none=>.bad (p+1))
  else if YI L p=OG "row" then (match Zr 9 (YI L (p+1)) with
   |some j=>(ZQ (rE L k (d+1) g) j (p+2) (b+1)).map λes=>.tuple [.str "row",.tuple es]
   | none=>.bad (p+1))
  else match D9 (YI L p) with
   |some n=>(ZQ (rE L k (d+1) g) n (p+1) (b+1)).map λes=>.tuple (.str (YI L p)::es)
   |none=>.bad p
section
variable {C:Addr}{t0:List OF}{L:List Str}
theorem tI{r1:Nat->Nat->Oc OF}{I:Nat->Nat->Prop}
  (ho:∀d p b t p' b',I p b->r1 p b=.ok t p' b'->e (vd (.d d)::ρ) (TW C t0 L (p:Int) (b:Int))=vd (.d t,TW C t0 L (p':Int) (b':Int))/\I p' b')
  (hb:∀d p b q,I p b->r1 p b=.bad q->e (vd (.d d)::ρ) (TW C t0 L (p:Int) (b:Int))=zc/\∃p' b',g (vd (.d d)::ρ) (TW C t0 L (p:Int) (b:Int))=vd ((q:Int),TW C t0 L p' b')) :
  ∀(ds:List OF) (p b:Nat),I p b->(∀es p' b',ZQ r1 ds.length p b=.ok es p' b'->bI bB e ρ ds (TW C t0 L (p:Int) (b:Int))=vd (es,TW C t0 L (p':Int) (b':Int))/\I p' b') /\
   ∀q,ZQ r1 ds.length p b=.bad q->bI bB e ρ ds (TW C t0 L (p:Int) (b:Int))=zc/\∃p' b',XO.ia e g ρ ds (TW C t0 L (p:Int) (b:Int))=vd ((q:Int),TW C t0 L p' b')
 |[],p,b,i=>⟨λes p' b' h=>by cases h;exact⟨rfl,i⟩,λq h=>by cases h⟩
 |d::ds,p,b,i=>by
  rw[Po,ZQ]
  cases hr:r1 p b with
  |bad q0=>
   obtain⟨h1,p',b',h2⟩:=hb d p b q0 i hr;refine⟨λes p' b' h=>(nomatch h),λq h=>?_⟩;cases h;refine⟨by simp[bI,bB,Yz,h1],p',b',?_⟩;show (match Yz (e (vd (.d d)::ρ) (TW C t0 L (p:Int) (b:Int))) (λ_ T1=>XO.ia e g ρ ds T1) with|some z=>vd z|none=>g (vd (.d d)::ρ) (TW C t0 L (p:Int) (b:Int)))=_;rw[h1];exact h2
  |ok t p1 b1=>
   obtain⟨h1,i1⟩:=ho d p b t p1 b1 i hr;obtain⟨k1,k2⟩:=tI ho hb ds p1 b1 i1;dsimp only
   cases hs:ZQ r1 ds.length p1 b1 with
   |bad q0=>
    dsimp only[Oc.map];refine⟨λes p' b' h=>(nomatch h),λq h=>?_⟩;cases h;obtain⟨g1,p',b',g2⟩:=k2 q0 hs;refine⟨by simp[bI,bB,Yz,h1,g1],p',b',?_⟩
    show (match Yz (e (vd (.d d)::ρ) (TW C t0 L (p:Int) (b:Int))) (λ_ T1=>XO.ia e g ρ ds T1) with|some z=>vd z|none=>g (vd (.d d)::ρ) (TW C t0 L (p:Int) (b:Int)))=_<;>simp_all
   |ok es p2 b2=>
    dsimp only[Oc.map];refine⟨λFK p' b' h=>?_,λq h=>(nomatch h)⟩;cases h;obtain⟨g1,i2⟩:=k1 es p2 b2 hs;exact⟨by simp[bI,bB,Yz,h1,g1],i2⟩
end
theorem rq:XO.o9 it f g ρ T=Yz (it ρ T) λds T1=>XO.ia f g ρ ds T1:=rfl
section
variable {C:Addr}{t0:List OF}{L:List Str}
structure RdE(C:Addr)(t0:List OF)(L:List Str)(k:Nat)(a m:Int)(I:Nat->Nat->Prop)(r1:Nat->Nat->Oc OF):Prop where
 ok:∀p b t p' b',I p b->r1 p b=.ok t p' b'->bO C k [.tp 0,.d (.int a),.d (.int m)] (TW C t0 L (p:Int) (b:Int))=vd (t,TW C t0 L (p':Int) (b':Int))/\I p' b'
 bad:∀p b q,I p b->r1 p b=.bad q->Rz C t0 L q (bO C k [.tp 0,.d (.int a),.d (.int m)] (TW C t0 L (p:Int) (b:Int))) (cS C k [.tp 0,.d (.int a),.d (.int m)] (TW C t0 L (p:Int) (b:Int)))
noncomputable def zq{k:Nat}{a m:Int}{I:Nat->Nat->Prop}{r1:Nat->Nat->Oc OF}{n p b:Nat}(hn:n<=9)(h:RdE C t0 L k a m I r1)(i:I p b) :
  (∀es p' b',ZQ r1 n p b=.ok es p' b'->iB C (k+1) [.tp 0,.d (.int (n:Int)),.d (.int a),.d (.int m)] (TW C t0 L (p:Int) (b:Int))=vd (.tuple es,TW C t0 L (p':Int) (b':Int))/\I p' b') /\
  ∀q,ZQ r1 n p b=.bad q->Rz C t0 L q (iB C (k+1) [.tp 0,.d (.int (n:Int)),.d (.int a),.d (.int m)] (TW C t0 L (p:Int) (b:Int))) (lN C (k+1) [.tp 0,.d (.int (n:Int)),.d (.int a),.d (.int m)] (TW C t0 L (p:Int) (b:Int))):=by
 have r:=fL (j:=(n)) (by lia) (by lia);have nl:(bA 0 n).length=n:=jp _
 obtain⟨k1,k2⟩:=tI (C:=C) (t0:=t0) (L:=L) (e:=ar (bO C k) (ae (aa 1) (ae (aa 3) (ae (aa 4) ah)))) (g:=XO.cZ (cS C k) (ae (aa 1) (ae (aa 3) (ae (aa 4) ah)))) (ρ:=[vd (.tp 0),vd (.d (.int (n))),vd (.d (.int a)),vd (.d (.int m))])
  (λd p b t p' b' i e=>by
   obtain⟨h1,h2⟩:=h.ok p b t p' b' i e<;>simp_all)
  (λd p b q i e=>by
   obtain⟨h1,p',b',h2⟩:=h.bad p b q i e
   exact⟨by simp[h1],p',b',by simp[h2]⟩) _ p b i
 rw[nl] at k1 k2;refine⟨λes p' b' e=>?_,λq e=>?_⟩
 .obtain⟨c,i'⟩:=k1 es p' b' e
  exact⟨by simp[iB,r,c],i'⟩
 .obtain⟨c,p',b',x⟩:=k2 q e
  exact⟨by simp[iB,r,c],p',b',by simp[lN,r,rq,x]⟩
end
theorem kG:Z3 (.str a) (.str b)=decide (a=b) :=rfl
noncomputable def inE:inD (.str w) EG=vd (.bool (decide (OG "put"=w)||(decide (OG "got"=w)||decide (OG "row"=w)))):=by
 have e:inD (.str w) EG=vd (.bool (Z3 _ _||(Z3 _ _||(Z3 _ _||false)))):=rfl;rw[e,kG,kG,kG,SV]
noncomputable def inW:De gW (.str w)=vd (.bool (D9 w).isSome):=by
 by_cases h:w∈["many","part","sum","join","same","less"].map OG
 .simp at h
  rcases h with rfl|rfl|rfl|rfl|rfl|rfl <;> kernel_rfl
 .simp at h
  obtain⟨h1,h2,h3,h4,h5,h6⟩:=h;simp[De,gW,D9,h1,h2,h3,h4,h5,h6]
section
variable {C:Addr}{t0:List OF}{L:List Str}{k p b:Nat}{a g:Int}
noncomputable def yJ(h:¬(a<20/\b<60)):eZ C [.tp 0,.d (.bool f),.d (.int a)] (TW C t0 L (p:Int) (b:Int))=zc:=by
 cases f with
 |false=>exact jB
 |true=>
  by_cases ha:a<20
  .have hb:¬((b:Int)<60):=by lia
   simp[eZ,gu,aR,rY,Y2,hb,kX]
  .simp[eZ,aR,Y2,ha,kX]
noncomputable def yH(hp:p<=1000)(h:¬(a<20/\b<60)):iy C [.tp 0,.d (.bool f),.d (.int a)] (TW C t0 L (p:Int) (b:Int))=vd ((p:Int),TW C t0 L (p:Int) (b:Int)):=by
 cases f with
 |false=>exact oG hp
 |true=>
  by_cases ha:a<20
  .have hb:¬((b:Int)<60):=by lia
   simp[iy,gu,cU,rY,cV,hb,kW hp]
  .simp[iy,cU,cV,ha,kW hp]
noncomputable def yG(hp:p<=1000)(h:¬(a<20/\b<60)):Rz C t0 L p (bO C (k+1) [.tp 0,.d (.int a),.d (.int g)] (TW C t0 L (p:Int) (b:Int))) (cS C (k+1) [.tp 0,.d (.int a),.d (.int g)] (TW C t0 L (p:Int) (b:Int))):=by
 have a1:=dH (C:=C) (t0:=t0) (L:=L) (k:=p) (b:=(b));have w1:=inE (w:=YI L p);have w2:=inW (w:=YI L p);have n:=λf=>yJ (C:=C) (t0:=t0) (L:=L) (p:=p) (f:=f) h;have x:=λf=>yH (C:=C) (t0:=t0) (L:=L) (f:=f) hp h;unfold EG at w1;unfold gW at w2;refine⟨?_,p,b,?_⟩
 .cases hd:(decide (OG "put"=YI L p)||_) <;> rw[hd] at w1 <;> simp[bO,aR,Y2,a1,w1,w2,n]
 .cases hd:(decide (OG "put"=YI L p)||_) <;> rw[hd] at w1 <;> simp[cS,c8,aR,cU,Y2,cV,a1,w1,w2,n,x]
end
noncomputable def sP(h:w∉l):inD (.str w) (.list (sl l))=vd (.bool zd):=by
 have e1:(sl l).all eS=xV:=Pd.mpr λd hd=>by
  obtain⟨x,_,rfl⟩:=Pu.mp hd;rfl
 have e2:((sl l).any λy=>Z3 y _)=zd:=VT.mpr λd hd=>by
  obtain⟨x,hx,rfl⟩:=Pu.mp hd;rw[kG];simp;rintro rfl;exact h hx
 have e3:EF (.str w) (.list (sl l))=if _=xV then vd _ else zc:=rfl
 unfold inD;rw[e3,e1,e2];rfl
def iE(h:Zr g w=vd j):j<g/\w=ns j:=by
 have h1:=WM h;exact⟨Ru.mp (Tw h),(of_decide_eq_true h1).symm⟩
def rg(h:Zr g w=zc):w∉(PY g).map ns:=λz=>by
 obtain⟨j,hj,e⟩:=Pu.mp z
 have:=VM.mp h j hj<;>simp_all
noncomputable def vX(h:D9 w=vd n):∃s,w=OG s/\Wide s n:=by
 unfold D9 at h;split at h
 .rename_i e
  cases h;exact⟨"many",e,.inl ⟨rfl,rfl⟩⟩
 .split at h
  .rename_i e
   cases h;obtain⟨s,hs,e⟩:=Pu.mp e;exact⟨s,e.symm,.inr ⟨hs,rfl⟩⟩
  .cases h
section
variable {C:Addr}{t0:List OF}{L:List Str}
def zml(h:YI L j=w)(hw:w≠OG ""):L[j]? = vd w:=by
 unfold YI at h
 cases e:L[j]? <;>simp_all
noncomputable def zmm{p b:Nat}{v:OF}(hv:∀T,fi [.d (.str (YI L p))] T=vd (v,T))(h:aM v=xV):jq C [.tp 0] (TW C t0 L (p:Int) (b:Int))=vd (v,TW C t0 L ((p:Int)+1) (b:Int)):=by
 have a1:=dH (C:=C) (t0:=t0) (L:=L) (k:=p) (b:=(b));have i:=hv (TW C t0 L (p) (b))
 have n:fm v .none=vd (.bool xV):=by
  have e:fm v .none=vd (.bool (!isNone v)):=rfl;rw[e,zld h];rfl
 simp[jq,aR,Y2,a1,i,n,pq]
noncomputable def zf{p b n j:Nat}(hw:YI L p=ns j)(hn:n<=100)(hj:j<n):fF C [.tp 0,.d (.int (n:Int))] (TW C t0 L (p:Int) (b:Int))=vd (.int (j:Int),TW C t0 L ((p:Int)+1) (b:Int)):=
 zlg (zml hw λz=>by
  have e:cd (ns j)=[]:=by rw[z];rfl
  unfold ns at e;rw[da] at e
  exact absurd e (Ab _)) hn hj
end
structure Wds(L:List Str):Prop where
 v:∀j T,fi [.d (.str (YI L j))] T=vd (f6 (cY (cd (YI L j))),T)
 s:∀j v,cY (cd (YI L j))=vd v->aM v=xV
abbrev E1(p b:Nat):Prop:=p<=2*b/\b<=60
theorem rN:∀{n p b:Nat}{es:List OF}{p' b':Nat},ZQ r1 n p b=.ok es p' b'->es.length=n
 |0,p,b,es,p',b',h=>by cases h;rfl
 |n+1,p,b,es,p',b',h=>by
  rw[ZQ] at h
  cases h1:r1 p b with
  |bad q=>simp_all
  |ok t p1 b1=>
   rw[h1] at h;dsimp only at h
   cases h2:ZQ r1 n p1 b1 with
   |bad q=>rw[h2] at h;cases h
   |ok ts p2 b2=>
    rw[h2] at h;cases h;exact congrArg _ (rN h2)
section
variable {C:Addr}{t0:List OF}{L:List Str}
theorem T_E(W:Wds L):∀(k F d g:Nat),2*k+1<=F->20<=k+d->g<=12->RdE C t0 L F (d:Int) (g:Int) E1 (rE L k d g)
 |0,F+1,d,g,_,hd,hg=>⟨λp b t p' b' i e=>(nomatch e),λp b q i e=>by
  cases e
  exact yG (by have:=i.1;have:=i.2;lia) (by lia)⟩
 |k+1,0,d,g,hF,hd,hg=>by lia
 |k+1,1,d,g,hF,hd,hg=>by lia
 |k+1,F+2,d,g,hF,hd,hg=>by
  have ih:=T_E W k F (d+1) g (by lia) (by lia) hg
  have cast:((d+1:Nat):Int)=(d:Int)+1:=by lia
  rw[cast] at ih
  have key:∀p b,E1 p b->(∀t p' b',rE L (k+1) d g p b=.ok t p' b'->bO C (F+1+1) [.tp 0,.d (.int (d:Int)),.d (.int (g:Int))] (TW C t0 L (p:Int) (b:Int))=vd (t,TW C t0 L (p':Int) (b':Int))/\E1 p' b') /\
    ∀q,rE L (k+1) d g p b=.bad q->Rz C t0 L q (bO C (F+1+1) [.tp 0,.d (.int (d:Int)),.d (.int (g:Int))] (TW C t0 L (p:Int) (b:Int))) (cS C (F+1+1) [.tp 0,.d (.int (d:Int)),.d (.int (g:Int))] (TW C t0 L (p:Int) (b:Int))):=λp b i=>by
   obtain⟨i1,i2⟩:=i;rw[rE]
   by_cases YU:20<=d\/60<=b
   .rw[if_pos YU]
    exact⟨λt p' b' e=>(nomatch e),λq e=>by cases e;exact yG (by lia) (by lia)⟩
   rw[if_neg YU]
   have Lq:(d:Int)<20:=by lia
   have Jy:b<60:=by lia
   have a1:=dH (C:=C) (t0:=t0) (L:=L) (k:=p) (b:=(b:Int));have b2:=kH (C:=C) (t0:=t0) (L:=L) (p:=(p:Int)) (b:=(b:Int)) (a:=(d:Int)) Lq (by lia);have C7:TW C t0 L ((p+1:Nat):Int) ((b+1:Nat):Int)=TW C t0 L ((p:Int)+1) ((b:Int)+1):=pW (by lia) (by lia);have Fw:TW C t0 L ((p+2:Nat):Int) ((b+1:Nat):Int)=TW C t0 L ((p:Int)+1+1) ((b:Int)+1):=pW (by lia) (by lia)
   by_cases h1:YI L p=OG "put"
   .rw[if_pos h1]
    rw[h1] at a1;have wv:=W.v (p+1)
    cases hv:cY (cd (YI L (p+1))) with
    |none=>
     refine⟨λt p' b' e=>(nomatch e),λq e=>?_⟩;cases e;rw[hv] at wv;exact zmc (by lia) Lq Jy h1 rfl wv
    |some v=>
     refine⟨λt p' b' e=>?_,λq e=>(nomatch e)⟩;cases e;rw[hv] at wv;have b3:=zmm (C:=C) (t0:=t0) (b:=b+1) (v:=v) wv (W.s _ _ hv);rw[C7] at b3;simp only[QX,QD] at b3;rw[Fw];exact⟨by simp[bO,aR,Y2,a1,eC,b2,b3],by lia,by lia⟩
   rw[if_neg h1]
   by_cases h2:YI L p=OG "got"
   .rw[if_pos h2]
    rw[h2] at a1
    cases hv:Zr g (YI L (p+1)) with
    |none=>
     refine⟨λt p' b' e=>(nomatch e),λq e=>?_⟩;cases e;exact zmd (by lia) Lq Jy hg h2 rfl (sP (rg hv))
    |some j=>
     refine⟨λt p' b' e=>?_,λq e=>(nomatch e)⟩;cases e;obtain⟨hj,hw⟩:=iE hv;have b3:=zf (C:=C) (t0:=t0) (b:=b+1) (n:=g) hw (by lia) hj;rw[C7] at b3;simp only[QX,QD] at b3;rw[Fw];exact⟨by simp[bO,aR,Y2,a1,eC,b2,b3],by lia,by lia⟩
   rw[if_neg h2]
   by_cases h3:YI L p=OG "row"
   .rw[if_pos h3]
    rw[h3] at a1
    cases hv:Zr 9 (YI L (p+1)) with
    |none=>
     refine⟨λt p' b' e=>(nomatch e),λq e=>?_⟩;cases e;exact zme (by lia) Lq Jy h3 rfl (sP (rg hv))
    |some j=>
     obtain⟨hj,hw⟩:=iE hv;have b3:=zf (C:=C) (t0:=t0) (b:=b+1) (n:=9) hw (by lia) hj;rw[C7] at b3;simp only[QX,QD] at b3;obtain⟨g1,g2⟩:=zq (C:=C) (t0:=t0) (L:=L) (n:=j) (p:=p+2) (b:=b+1) (by lia) ih ⟨by lia,by lia⟩;rw[Fw] at g1 g2;dsimp only
     cases hr:ZQ (rE L k (d+1) g) j (p+2) (b+1) with
     |bad q0=>
      refine⟨λt p' b' e=>(nomatch e),λq e=>?_⟩;cases e;obtain⟨n,p',b',x⟩:=g2 q0 hr;exact⟨by simp[bO,aR,Y2,a1,eC,b2,b3,n],p',b',by simp[cS,c8,aR,cU,Y2,cV,a1,eC,b2,b3,n,x]⟩
     |ok es p1 b1=>
      refine⟨λt p' b' e=>?_,λq e=>(nomatch e)⟩;cases e;obtain⟨m,i'⟩:=g1 es p1 b1 hr;exact⟨by simp[bO,aR,Y2,a1,eC,b2,b3,m],i'⟩
   rw[if_neg h3];have w1:=inE (w:=YI L p);have w2:=inW (w:=YI L p)
   have ed:(decide (OG "put"=YI L p)||(decide (OG "got"=YI L p)||decide (OG "row"=YI L p)))=zd:=by
    simp;exact⟨λz=>h1 z.symm,λz=>h2 z.symm,λz=>h3 z.symm⟩
   rw[ed] at w1
   cases hn:D9 (YI L p) with
   |none=>
    rw[hn] at w2;exact⟨λt p' b' e=>(nomatch e),λq e=>by cases e;exact zmb (by lia) rfl w1 w2⟩
   |some n=>
    obtain⟨s,hs,hw⟩:=vX hn;obtain⟨n1,n2,n3,n4⟩:=xk hw;obtain⟨t1,t2⟩:=zlk hw
    have n9:n<=2:=by rcases hw with⟨_,rfl⟩|⟨_,rfl⟩ <;> decide
    unfold gW at t1 t2;rw[hs] at a1 ⊢;obtain⟨g1,g2⟩:=zq (C:=C) (t0:=t0) (L:=L) (n:=n) (p:=p+1) (b:=b+1) (by lia) ih ⟨by lia,by lia⟩;rw[C7] at g1 g2;dsimp only
    cases hr:ZQ (rE L k (d+1) g) n (p+1) (b+1) with
    |bad q0=>
     refine⟨λt p' b' e=>(nomatch e),λq e=>?_⟩;cases e;obtain⟨m,p',b',x⟩:=g2 q0 hr;exact⟨by simp[bO,aR,Y2,a1,eC,n1,n2,n3,t1,t2,b2,m],p',b',by simp[cS,c8,aR,cU,Y2,cV,a1,eC,n1,n2,n3,t1,t2,b2,m,x]⟩
    |ok es p1 b1=>
     refine⟨λt p' b' e=>?_,λq e=>(nomatch e)⟩;cases e;obtain⟨m,i'⟩:=g1 es p1 b1 hr;have l:=rN hr;have z:1+es.length<=sizeLine:=jX (by lia);have z':es.length+1<=sizeLine:=jX (by lia);exact⟨by simp[bO,aR,Y2,a1,eC,n1,n2,n3,t1,t2,b2,m,z,z'],i'⟩
  exact⟨λp b t p' b' i e=>(key p b i).1 t p' b' e,λp b q i e=>(key p b i).2 q e⟩
end
def K8:List (String×Nat):=[("say",0),("fail",0),("want",1),("peek",1),("when",2)]
def KG(w:Str):Option (String×Nat):=K8.find? λx=>decide (OG x.1=w)
def ZG(s:String)(g:Nat):Nat:=if s="want"\/s="peek" then g+1 else g
noncomputable def rR(L:List Str):Nat->Nat->Nat->Nat->Nat->Oc OF
 |0,_,_,p,_=>.bad p
 |k+1,d,g,p,b=>
  if 20<=d\/60<=b then .bad p
  else match KG (YI L p) with
   |none=>.bad p
   |some (s,n)=>
    if (s="want"\/s="peek")/\g=12 then .bad p
    else if s="fail" then (if isName (.str (YI L (p+1)))=xV then .ok (.tuple [.str "fail",.str (YI L (p+1))]) (p+2) (b+1) else .bad (p+1))
    else match rE L 20 (d+1) g (p+1) (b+1) with
     |.bad q=>.bad q
     |.ok e p1 b1=>(ZQ (rR L k (d+1) (ZG s g)) n p1 b1).map λrs=>.tuple (.str (OG s)::e::rs)
noncomputable def nV{w:Str}{s:String}{n:Nat}(h:KG w=vd (s,n)):w=OG s/\(s,n)∈K8:=by
 have h1:=WM h;exact⟨(of_decide_eq_true h1).symm,Tw h⟩
noncomputable def ol{s:String}{n:Nat}(h:(s,n)∈K8):De iu (.str (OG s))=vd (.bool xV)/\D.atT iu (.str (OG s))=vd (.int (n:Int))/\n<=2:=by
 simp[K8] at h
 rcases h with⟨rfl,rfl⟩|⟨rfl,rfl⟩|⟨rfl,rfl⟩|⟨rfl,rfl⟩|⟨rfl,rfl⟩ <;> simp[De,D.atT,iu]
noncomputable def wg(h:KG w=zc):De iu (.str w)=vd (.bool zd):=by
 have h1:=VM.mp h;simp[K8] at h1;obtain⟨n1,n2,n3,n4,n5⟩:=h1;simp[De,iu];exact⟨λz=>n1 z.symm,λz=>n2 z.symm,λz=>n3 z.symm,λz=>n4 z.symm,λz=>n5 z.symm⟩
section
variable {C:Addr}{t0:List OF}{L:List Str}{k p b g:Nat}{a:Int}
noncomputable def zP(hp:p<=1000)(hw:YI L p=OG s)(hs:(s,n)∈K8)(h:¬(a<20/\b<60)):Rz C t0 L p (bK C (k+1) [.tp 0,.d (.int a),.d (.int (g:Int))] (TW C t0 L (p:Int) (b:Int))) (cM C (k+1) [.tp 0,.d (.int a),.d (.int (g:Int))] (TW C t0 L (p:Int) (b:Int))):=by
 have a1:=dH (C:=C) (t0:=t0) (L:=L) (k:=p) (b:=(b));obtain⟨t1,t2,_⟩:=ol hs;unfold iu at t1;rw[hw] at a1;have n:=λf=>yJ (C:=C) (t0:=t0) (L:=L) (p:=p) (f:=f) h;have x:=λf=>yH (C:=C) (t0:=t0) (L:=L) (f:=f) hp h
 by_cases hq:s="want"\/s="peek"
 .refine⟨?_,p,b,?_⟩
  .rcases hq with rfl|rfl <;> simp[bK,aR,Y2,a1,t1,cL,n]
  .rcases hq with rfl|rfl <;> simp[cM,c8,aR,cU,Y2,cV,a1,t1,cL,n,x]
 .obtain⟨q1,q2⟩:=not_or.mp hq
  refine⟨?_,p,b,?_⟩
  .simp[bK,aR,Y2,a1,t1,cL,q1,q2,n]
  .simp[cM,c8,aR,cU,Y2,cV,a1,t1,cL,q1,q2,n,x]
noncomputable def zmn(hp:p<=1000)(hw:YI L p=OG s)(hs:s="want"\/s="peek"):Rz C t0 L p (bK C (k+1) [.tp 0,.d (.int a),.d (.int ((12:Nat):Int))] (TW C t0 L (p:Int) (b:Int))) (cM C (k+1) [.tp 0,.d (.int a),.d (.int ((12:Nat):Int))] (TW C t0 L (p:Int) (b:Int))):=by
 have a1:=dH (C:=C) (t0:=t0) (L:=L) (k:=p) (b:=(b));rw[hw] at a1;refine⟨?_,p,b,?_⟩
 .rcases hs with rfl|rfl <;> simp[bK,aR,Y2,a1,De,cL,jB]
 .rcases hs with rfl|rfl <;> simp[cM,c8,aR,cU,Y2,cV,a1,De,cL,jB,oG hp]
end
structure DB(L:List Str):Prop extends Wds L where
 n:∀j T,fM [.d (.str (YI L j))] T=vd (.bool (isName (.str (YI L j))),T)
section
variable {C:Addr}{t0:List OF}{L:List Str}
structure JD(C:Addr)(t0:List OF)(L:List Str)(k:Nat)(a m:Int)(I:Nat->Nat->Prop)(r1:Nat->Nat->Oc OF):Prop where
 ok:∀p b t p' b',I p b->r1 p b=.ok t p' b'->bK C k [.tp 0,.d (.int a),.d (.int m)] (TW C t0 L (p:Int) (b:Int))=vd (t,TW C t0 L (p':Int) (b':Int))/\I p' b'
 bad:∀p b q,I p b->r1 p b=.bad q->Rz C t0 L q (bK C k [.tp 0,.d (.int a),.d (.int m)] (TW C t0 L (p:Int) (b:Int))) (cM C k [.tp 0,.d (.int a),.d (.int m)] (TW C t0 L (p:Int) (b:Int)))
noncomputable def zmo{p b:Nat}(hn:∀T,fM [.d (.str (YI L p))] T=vd (.bool xV,T)):jn C [.tp 0] (TW C t0 L (p:Int) (b:Int))=vd (.str (YI L p),TW C t0 L ((p:Int)+1) (b:Int)):=by
 have a1:=dH (C:=C) (t0:=t0) (L:=L) (k:=p) (b:=(b));have i:=hn (TW C t0 L (p) (b));simp[jn,aR,Y2,a1,i,pq]
theorem T_R(W:DB L):∀(k F d g:Nat),k+1<=F->20<=k+d->g<=12->JD C t0 L F (d:Int) (g:Int) E1 (rR L k d g)
 |0,F+1,d,g,_,hd,hg=>⟨λp b t p' b' i e=>(nomatch e),λp b q i e=>by
  cases e
  cases hr:KG (YI L p) with
  |none=>exact zO (by have:=i.1;have:=i.2;lia) rfl (wg hr)
  |some x=>
   obtain⟨hs,hm⟩:=nV (s:=x.1) (n:=x.2) hr
   exact zP (by have:=i.1;have:=i.2;lia) hs hm (by lia)⟩
 |k+1,0,d,g,hF,hd,hg=>by lia
 |k+1,F+1,d,g,hF,hd,hg=>by
  have key:∀p b,E1 p b->(∀t p' b',rR L (k+1) d g p b=.ok t p' b'->bK C (F+1) [.tp 0,.d (.int (d:Int)),.d (.int (g:Int))] (TW C t0 L (p:Int) (b:Int))=vd (t,TW C t0 L (p':Int) (b':Int))/\E1 p' b') /\
    ∀q,rR L (k+1) d g p b=.bad q->Rz C t0 L q (bK C (F+1) [.tp 0,.d (.int (d:Int)),.d (.int (g:Int))] (TW C t0 L (p:Int) (b:Int))) (cM C (F+1) [.tp 0,.d (.int (d:Int)),.d (.int (g:Int))] (TW C t0 L (p:Int) (b:Int))):=λp b i=>by
   obtain⟨i1,i2⟩:=i;rw[rR]
   cases hr:KG (YI L p) with
   |none=>
    have z:=λ{g':Int}=>zO (C:=C) (t0:=t0) (L:=L) (k:=F) (b:=b) (a:=(d:Int)) (g:=g') (by lia) rfl (wg hr);refine⟨λt p' b' e=>?_,λq e=>?_⟩
    .split at e <;> cases e
    .split at e <;> cases e <;> exact z
   |some x=>
   obtain⟨s,n⟩:=x;obtain⟨hs,hm⟩:=nV hr
   by_cases YU:20<=d\/60<=b
   .rw[if_pos YU]
    exact⟨λt p' b' e=>(nomatch e),λq e=>by cases e;exact zP (by lia) hs hm (by lia)⟩
   rw[if_neg YU];dsimp only
   have Lq:(d:Int)<20:=by lia
   have Jy:b<60:=by lia
   by_cases Jb:(s="want"\/s="peek")/\g=12
   .rw[if_pos Jb]
    obtain⟨hq,rfl⟩:=Jb;exact⟨λt p' b' e=>(nomatch e),λq e=>by cases e;exact zmn (by lia) hs hq⟩
   rw[if_neg Jb];have a1:=dH (C:=C) (t0:=t0) (L:=L) (k:=p) (b:=(b:Int));have b2:=kH (C:=C) (t0:=t0) (L:=L) (p:=(p:Int)) (b:=(b:Int)) (a:=(d:Int)) Lq (by lia);have C7:TW C t0 L ((p+1:Nat):Int) ((b+1:Nat):Int)=TW C t0 L ((p:Int)+1) ((b:Int)+1):=pW (by lia) (by lia);have Fw:TW C t0 L ((p+2:Nat):Int) ((b+1:Nat):Int)=TW C t0 L ((p:Int)+1+1) ((b:Int)+1):=pW (by lia) (by lia);rw[hs] at a1
   by_cases hf:s="fail"
   .rw[if_pos hf]
    subst hf;have wn:=W.n (p+1)
    cases hn:isName (.str (YI L (p+1))) with
    |false=>
     rw[hn] at wn;refine⟨λt p' b' e=>(nomatch e),λq e=>?_⟩;cases e;exact zmf (by lia) Lq Jy hs rfl wn
    |true=>
     rw[hn] at wn;refine⟨λt p' b' e=>?_,λq e=>(nomatch e)⟩;cases e;have b3:=zmo (C:=C) (t0:=t0) (b:=b+1) wn;rw[C7] at b3;simp only[QX,QD] at b3;rw[Fw];exact⟨by simp[bK,aR,Y2,a1,De,cL,b2,b3],by lia,by lia⟩
   rw[if_neg hf];obtain⟨t1,t2,n2⟩:=ol hm;unfold iu at t1 t2
   have cast:((d+1:Nat):Int)=(d:Int)+1:=by lia
   have hE:=T_E (C:=C) (t0:=t0) (L:=L) W.toWds 20 50 (d+1) g (by lia) (by lia) hg
   have ng:ZG s g<=12:=by
    unfold ZG;split
    .rename_i hq
     have:¬g=12:=λz=>Jb ⟨hq,z⟩
     lia
    .exact hg
   have ih:=T_R W k F (d+1) (ZG s g) (by lia) (by lia) ng;rw[cast] at hE ih
   have gb:∀T,kg [.d (.str (OG s)),.d (.int (g:Int))] T=vd (.int (ZG s g:Int),T):=λT=>by
    by_cases hq:s="want"\/s="peek"
    .have e2:((ZG s g:Nat):Int)=(g:Int)+1:=by unfold ZG;rw[if_pos hq];lia
     rw[e2]
     rcases hq with rfl|rfl <;> simp[kg,cL]
    .have e2:ZG s g=g:=by unfold ZG;rw[if_neg hq]
     rw[e2];obtain⟨q1,q2⟩:=not_or.mp hq;simp[kg,cL,q1,q2]
   have r:=fL (j:=(n:Int)) (by lia) (by lia);have nl:(bA 0 n).length=n:=jp _;have fits:∀{m:YG} ,True:=λ{_}=>trivial;have BH:(s="want"\/s="peek")->¬(g:Int)=12:=λhq z=>Jb ⟨hq,by lia⟩;clear fits Jb YU;generalize hG:(g:Int)=G at *
   cases he:rE L 20 (d+1) g (p+1) (b+1) with
   |bad q0=>
    obtain⟨m,p',b',x⟩:=hE.bad (p+1) (b+1) q0 ⟨by lia,by lia⟩ he;rw[C7] at m x;refine⟨λt p' b' e=>(nomatch e),λq e=>?_⟩;cases e;refine⟨?_,p',b',?_⟩
    .by_cases hq:s="want"\/s="peek"
     .have:=BH hq
      rcases hq with rfl|rfl <;> simp[bK,aR,Y2,a1,t1,cL,this,b2,m]
     .obtain⟨q1,q2⟩:=not_or.mp hq
      simp[bK,aR,Y2,a1,t1,cL,q1,q2,hf,b2,m]
    .by_cases hq:s="want"\/s="peek"
     .have:=BH hq
      rcases hq with rfl|rfl <;> simp[cM,c8,aR,cU,Y2,cV,a1,t1,cL,this,b2,m,x]
     .obtain⟨q1,q2⟩:=not_or.mp hq
      simp[cM,c8,aR,cU,Y2,cV,a1,t1,cL,q1,q2,hf,b2,m,x]
   |ok e p1 b1=>
    obtain⟨b3,i3⟩:=hE.ok (p+1) (b+1) e p1 b1 ⟨by lia,by lia⟩ he;rw[C7] at b3
    obtain⟨k1,k2⟩:=tI (C:=C) (t0:=t0) (L:=L) (e:=ar (bK C F) (ae (aa 1) (ae (ag az (aa 2) (fC (.int 1))) (ae (aa 6) ah)))) (g:=XO.cZ (cM C F) (ae (aa 1) (ae (ag az (aa 2) (fC (.int 1))) (ae (aa 6) ah)))) (ρ:=[vd (.tp 0),vd (.d (.int (d:Int))),vd (.d (.int G)),vd (.d (.str (OG s))),vd (.d e),vd (.d (.int (ZG s g:Int)))]) (r1:=rR L k (d+1) (ZG s g)) (I:=E1)
     (λd' p b t p' b' i e=>by
      obtain⟨h1,h2⟩:=ih.ok p b t p' b' i e
      exact⟨by simp[h1],h2⟩)
     (λd' p b q i e=>by
      obtain⟨h1,p',b',h2⟩:=ih.bad p b q i e
      exact⟨by simp[h1],p',b',by simp[h2]⟩) (bA 0 n) p1 b1 i3
    rw[nl] at k1 k2;dsimp only
    cases BU:ZQ (rR L k (d+1) (ZG s g)) n p1 b1 with
    |bad q0=>
     obtain⟨c,p',b',x⟩:=k2 q0 BU;refine⟨λt p' b' e=>(nomatch e),λq e=>?_⟩;cases e;refine⟨?_,p',b',?_⟩
     .by_cases hq:s="want"\/s="peek"
      .have:=BH hq
       rcases hq with rfl|rfl <;> simp[bK,aR,Y2,a1,t1,cL,this,b2,b3,gb,t2,r,c]
      .obtain⟨q1,q2⟩:=not_or.mp hq
       simp[bK,aR,Y2,a1,t1,cL,q1,q2,hf,b2,b3,gb,t2,r,c]
     .by_cases hq:s="want"\/s="peek"
      .have:=BH hq
       rcases hq with rfl|rfl <;> simp[cM,c8,aR,cU,Y2,cV,a1,t1,cL,this,b2,b3,gb,t2,r,rq,x]
      .obtain⟨q1,q2⟩:=not_or.mp hq
       simp[cM,c8,aR,cU,Y2,cV,a1,t1,cL,q1,q2,hf,b2,b3,gb,t2,r,rq,x]
    |ok rs p2 b2'=>
     obtain⟨c,i4⟩:=k1 rs p2 b2' BU;have l:=rN BU;have z:2+rs.length<=sizeLine:=jX (by lia);refine⟨λt p' b' e'=>?_,λq e=>(nomatch e)⟩;cases e';refine⟨?_,i4⟩
     by_cases hq:s="want"\/s="peek"
     .have:=BH hq
      rcases hq with rfl|rfl <;> simp[bK,aR,Y2,a1,t1,cL,this,b2,b3,gb,t2,r,c,z]
     .obtain⟨q1,q2⟩:=not_or.mp hq
      simp[bK,aR,Y2,a1,t1,cL,q1,q2,hf,b2,b3,gb,t2,r,c,z]
  exact⟨λp b t p' b' i e=>(key p b i).1 t p' b' e,λp b q i e=>(key p b i).2 q e⟩
end
noncomputable def Dz(C:Addr):FS:=(ak (ay 2 (ar (bK C 25) (ae (aa 1) (ae (fC (.int 0)) (ae (fC (.int 0)) ah))))) (ak (fD (cj C "finish" (je C) (aa 1) ah)) (au (aa 2))))
noncomputable def Ep(C:Addr):XO.Zb:=(XO.dq (XO.cZ (cM C 25) (ae (aa 1) (ae (fC (.int 0)) (ae (fC (.int 0)) ah)))) (XO.df (ay 2 (ar (bK C 25) (ae (aa 1) (ae (fC (.int 0)) (ae (fC (.int 0)) ah))))) (XO.fq C "finish" (lE C) (aa 1) ah)))
noncomputable def zmp{C:Addr}{t0:List OF}{L:List Str}{k:Nat}{b:Int}(h:k<L.length):je C [.tp 0] (TW C t0 L (k:Int) b)=zc:=by
 have h':=by omega
 simp[je,gu,l7,jw,cE,h']
noncomputable def zmq{C:Addr}{t0:List OF}{L:List Str}{k:Nat}{b:Int}(h:k<L.length)(hk:k<=1000):lE C [.tp 0] (TW C t0 L (k:Int) b)=vd ((k:Int),TW C t0 L (k:Int) b):=by
 have h':(k)<(L.length):=by omega
 simp[lE,gu,l7,jw,cE,h',zj hk]
theorem z7(C:Addr):eG C=aL 3 (iX 1 C (dI C) (aa 0) (Dz C)):=rfl
theorem zmr(C:Addr):gm C=XO.dW 3 (XO.jJ 1 C (dI C) (aa 0) (Ep C)):=rfl
structure Eo(ws:List Str):Prop where
 ne:ws≠[]
 no:∀w∈ws,32∉cd w
 len:(ws.map (·.length)).sum+ws.length<=250000
section
variable {C:Addr}{t0:List OF}{ws:List Str}
noncomputable def yP{t0:List OF}(Ib:ws≠[])(DN:∀w∈ws,32∉cd w)(hl:(ws.map (·.length)).sum+ws.length<=250000):dI C [.tp 0,.d (.str (Py BL ws))] [[bW C]]=vd (.none,TW C t0 ws 0 0):=by
 have sp:hZ (.str (Py BL ws)) (.str " ")=vd (.list (sl ws)):=by
  have jl:=wC ws;have z:(Py BL ws).length+2<=sizeLine:=OS (show _<=300000 by lia) (by decide);have b:((OG " ").length == 0)=zd:=rfl
  have e:hZ (.str _) (.str " ")=if _=zd/\(Py BL ws).length+2<=OO then vd _ else zc:=rfl
  rw[e,if_pos ⟨b,z⟩];have s:=uE Ib DN;show vd (U6 ((Rf _ BL).map .str))=_;rw[s];rfl
 have s1:∀{ρ:Yy},eP C "parted" ρ (.d (.list (sl ws))) (.tp 0) [[bW C]]=vd ((.nx,ρ),[[bW C,.tuple [.str "parted",.list (sl ws)]]]):=by
  simp[eP,fw,i6,bW,i5]
 have s2:∀{ρ:Yy},eP C "place" ρ (.d (.int 0)) (.tp 0) [[bW C,.tuple [.str "parted",.list (sl ws)]]]=vd ((.nx,ρ),[[bW C,.tuple [.str "parted",.list (sl ws)],.tuple [.str "place",.int 0]]]):=by
  simp[eP,fw,i6,bW,i5]
 have s3:∀{ρ:Yy},eP C "begun" ρ (.d (.int 0)) (.tp 0) [[bW C,.tuple [.str "parted",.list (sl ws)],.tuple [.str "place",.int 0]]]=vd ((.nx,ρ),TW C t0 ws 0 0):=by
  simp[eP,fw,i6,bW,i5,m6]
 simp[dI,rp,sp,s1,s2,s3]
noncomputable def y3(hw:Eo ws)(h1:Dz C [vd (.d (.str (Py BL ws))),vd (.tp 0),zc] (TW C t0 ws 0 0)=zc)(h2:Ep C [vd (.d (.str (Py BL ws))),vd (.tp 0),zc] (TW C t0 ws 0 0)=vd (q,TW C t0 ws p b)):eG C [.d (.str (Py BL ws))] []=zc/\gm C [.d (.str (Py BL ws))] []=vd (q,[]):=by
 have i:=yP (C:=C) (t0:=t0) hw.ne hw.no hw.len;have lt:jQ (TW C t0 ws p b)=vd ([],m6 C ws p b):=rfl
 have m1:iX 1 C (dI C) (aa 0) (Dz C) [vd (.d (.str (Py BL ws))),zc,zc] []=zc:=by
  unfold iX;show FC 1 C (dI C) _ _ (.d _) []=_;unfold FC;dsimp only;show (match dI C [.tp 0,.d _] [[bW C]] with|some (.none,T2)=>k8 _|_=>zc)=_;rw[i];show k8 (Dz C [vd _,vd (.tp 0),zc] (TW C t0 ws 0 0))=_;rw[h1];rfl
 have m2:XO.jJ 1 C (dI C) (aa 0) (Ep C) [vd (.d (.str (Py BL ws))),zc,zc] []=vd (q,[]):=by
  unfold XO.jJ;show XO.qa 1 C (dI C) _ _ (.d _) []=_;unfold XO.qa;dsimp only;show (match dI C [.tp 0,.d _] [[bW C]] with|some (.none,T2)=>_|_=>zc)=_;rw[i];show XO.oV (Ep C [vd _,vd (.tp 0),zc] (TW C t0 ws 0 0))=_;rw[h2];unfold XO.oV;dsimp only;rw[lt]
 have r1:eG C [.d (.str (Py BL ws))] []=zc:=by
  rw[z7];simp[m1]
 have r2:gm C [.d (.str (Py BL ws))] []=vd (q,[]):=by
  rw[zmr];simp[m2]
 exact⟨r1,r2⟩
noncomputable def DU(ws:List Str):Oc PyData:=match rR ws 20 0 0 0 0 with
 |.bad q=>.bad q
 |.ok t p b=>if p<ws.length then .bad p else .ok t p b
noncomputable def zms(hw:Eo ws)(h1:Dz C [vd (.d (.str (Py BL ws))),vd (.tp 0),zc] (TW C t0 ws 0 0)=vd ((.rt t,[vd (.d (.str (Py BL ws))),vd (.tp 0),vd (.d t)]),TW C t0 ws p b)):eG C [.d (.str (Py BL ws))] []=vd (t,[]):=by
 have i:=yP (C:=C) (t0:=t0) hw.ne hw.no hw.len;have lt:jQ (TW C t0 ws p b)=vd ([],m6 C ws p b):=rfl
 have m1:iX 1 C (dI C) (aa 0) (Dz C) [vd (.d (.str (Py BL ws))),zc,zc] []=vd ((.rt t,[vd (.d (.str (Py BL ws))),vd (.tp 0),vd (.d t)]),[]):=by
  show FC 1 C _ _ _ (.d _) []=_;unfold FC;show (match dI C [.tp 0,.d _] [[bW C]] with|some (.none,T2)=>k8 _|_=>zc)=_;rw[i]
  unfold k8<;>simp_all
 rw[z7];simp[m1]
noncomputable def zmt(hw:Eo ws)(W:DB ws):(∀t p b,DU ws=.ok t p b->eG C [.d (.str (Py BL ws))] []=vd (t,[]))/\∀q,DU ws=.bad q->eG C [.d (.str (Py BL ws))] []=zc/\gm C [.d (.str (Py BL ws))] []=vd ((q:Int),[]):=by
 have h:=T_R (C:=C) (t0:=[]) W 20 25 0 0 (by lia) (by lia) (by lia);unfold DU
 cases hr:rR ws 20 0 0 0 0 with
 |bad q0=>
  obtain⟨m,p',b',x⟩:=h.bad 0 0 q0 ⟨by lia,by lia⟩ hr;simp only[QD] at m x;refine⟨λt p b e=>(nomatch e),λq e=>?_⟩;cases e;exact y3 (t0:=[]) hw (p:=p') (b:=b') (by simp[Dz,m]) (by simp[Ep,c8,m,x])
 |ok t p b=>
  obtain⟨m,i⟩:=h.ok 0 0 t p b ⟨by lia,by lia⟩ hr;simp only[QD] at m;dsimp only
  by_cases hp:p<ws.length
  .rw[if_pos hp]
   have f1:=zmp (C:=C) (t0:=[]) (b:=(b:Int)) hp;have f2:=zmq (C:=C) (t0:=[]) (b:=(b:Int)) hp (by lia);refine⟨λt p b e=>(nomatch e),λq e=>?_⟩;cases e;exact y3 (t0:=[]) hw (p:=(p:Int)) (b:=(b:Int)) (by simp[Dz,m,aR,Y2,f1]) (by simp[Ep,c8,m,aR,cU,Y2,cV,f1,f2])
  .rw[if_neg hp]
   have f:=zlc (C:=C) (t0:=[]) (b:=(b:Int)) (L:=ws) (k:=p) (by lia);refine⟨λt' p' b' e=>?_,λq e=>(nomatch e)⟩;cases e;exact zms (t0:=[]) hw (p:=(p:Int)) (b:=(b:Int)) (by simp[Dz,m,aR,Y2,f])
end
structure Bk(Q:Nat->List Str->Prop)(L:List Str)(p b p' b':Nat)(c:Nat)(ws:List Str):Prop where
 q:Q c ws
 eb:b'=b+c
 b6:b'<=60
 ep:p'=p+ws.length
 d:L.drop p=ws++L.drop p'
noncomputable def gR(h:YI L p=w)(hw:w≠OG ""):L.drop p=w::L.drop (p+1):=by
 unfold YI at h
 cases hp:L[p]? with
 |none=>simp_all
 |some x=>
  rw[hp] at h;obtain⟨hl,hx⟩:=OL.mp hp
  rw[Qc hl]<;>simp_all
theorem nW{Q:OF->Nat->List Str->Prop}{L:List Str}{r1:Nat->Nat->Oc OF}
  (h:∀p b t p' b',b<=60->r1 p b=.ok t p' b'->∃c ws,Bk (Q t) L p b p' b' c ws):∀(k p b:Nat) (es:List OF) (p' b':Nat),b<=60->ZQ r1 k p b=.ok es p' b' ->
  ∃qs:List (OF×Nat×List Str),es=qs.map (·.1)/\qs.length=k/\(∀q∈qs,Q q.1 q.2.1 q.2.2)/\b'=b+(qs.map (·.2.1)).sum/\b'<=60/\p'=p+(qs.map (·.2.2)).flatten.length/\L.drop p=(qs.map (·.2.2)).flatten++L.drop p'
 |0,p,b,es,p',b',hb,e=>by
  cases e;exact⟨[],rfl,rfl,λq hq=>(nomatch hq),rfl,hb,rfl,rfl⟩
 |k+1,p,b,es,p',b',hb,e=>by
  rw[ZQ] at e
  cases h1:r1 p b with
  |bad q=>simp_all
  |ok t p1 b1=>
   rw[h1] at e;dsimp only at e
   cases h2:ZQ r1 k p1 b1 with
   |bad q=>rw[h2] at e;cases e
   |ok ts p2 b2=>
    rw[h2] at e;cases e;obtain⟨c,ws,hk⟩:=h p b t p1 b1 hb h1;obtain⟨qs,k1,k2,k3,k4,k5,k6,k7⟩:=nW h k p1 b1 ts _ _ hk.b6 h2;have e1:=hk.eb;have e2:=hk.ep;refine⟨(t,c,ws)::qs,congrArg (t::·) k1,congrArg (· + 1) k2,λq hq=>?_,?_,k5,?_,?_⟩
    .rcases OZ.mp hq with rfl|hq
     .exact hk.q
     .exact k3 q hq
    .grind
    .grind
    .simp
     rw[hk.d,k7]
theorem yX:∀{a b:List Str},sl a=sl b->a=b
 |[],[],_=>rfl
 |[],_::_,h=>by simp[sl] at h
 |_::_,[],h=>by simp[sl] at h
 |x::a,y::b,h=>by
  simp only[sl,PD,List.cons.injEq,PyData.str.injEq] at h;rw[h.1,yX   h.2]
section
variable {C:Addr}
noncomputable def zmu(h:EX C m n c ws e)(h':EX C m n c' FZ e):(c',FZ)=(c,ws):=by
 have a:=h.my (n+1) [] (by lia);rw[h'.my _ [] (by lia)] at a;have b:=h.pw (n+1) [] (by lia);rw[h'.pw _ [] (by lia)] at b;simp  at a b;rw[yX b,show c'=c by lia]
open Classical in
noncomputable def Lx(C:Addr)(m:Int)(n:Nat)(e:OF):Nat×List Str:=if h:∃x:Nat×List Str,EX C m n x.1 x.2 e then h.choose else (0,[])
noncomputable def zp(h:EX C m n c ws e):Lx C m n e=(c,ws):=by
 have h':∃x:Nat×List Str,EX C m n x.1 x.2 e:=⟨(c,ws),h⟩;unfold Lx;rw[dif_pos h'];exact zmu h h'.choose_spec
noncomputable def rZ{qs:List (OF×Nat×List Str)}(h:∀q∈qs,EX C m n q.2.1 q.2.2 q.1):qs.map (·.2)=(qs.map (·.1)).map (Lx C m n)/\∀e∈qs.map (·.1),EX C m n (Lx C m n e).1 (Lx C m n e).2 e:=by
 constructor
 .rw[Qo]
  exact P2 λq hq=>(zp (h q hq)).symm
 .intro e he
  obtain⟨q,hq,rfl⟩:=Pu.mp he;rw[zp (h q hq)];exact h q hq
noncomputable def Aj{qs:List (OF×Nat×List Str)}(h:∀q∈qs,EX C m n q.2.1 q.2.2 q.1):(qs.map (·.2.1))=(qs.map (·.1)).map (λe=>(Lx C m n e).1)/\(qs.map (·.2.2))=(qs.map (·.1)).map (λe=>(Lx C m n e).2):=by
 have e:=(rZ h).1;have a:=congrArg (List.map Prod.fst) e;have b:=congrArg (List.map Prod.snd) e;simp only[Qo] at a b ⊢;exact⟨a,b⟩
end
def tD(h:j<13):ns j≠OG "":=by
 have:∀j,j<13->ns j≠OG "":=by decide +kernel
 exact this j h
noncomputable def zmv(h:cY (cd w)=vd v):w≠OG "":=by
 rintro rfl
 have e:cd ""=[]:=by decide +kernel
 have:cY []=zc:=by decide +kernel
 cases h
section
variable {C:Addr}{L:List Str}
theorem pz:∀(k d g p b:Nat) (t:OF) (p' b':Nat),g<=12->b<=60->rE L k d g p b=.ok t p' b'->∃c ws,Bk (λc ws=>EX C (g:Int) (20-d) c ws t) L p b p' b' c ws
 |0,d,g,p,b,t,p',b',_,_,e=>nomatch e
 |k+1,d,g,p,b,t,p',b',hg,hb,e=>by
  rw[rE] at e
  by_cases YU:20<=d\/60<=b
  .simp_all
  rw[if_neg YU] at e;obtain⟨n,hn⟩:∃n,20-d=n+1:=⟨19-d,by lia⟩
  have IZ:20-(d+1)=n:=by lia
  have ih:=λp b t p' b' hb=>pz k (d+1) g p b t p' b' hg hb;rw[IZ] at ih;rw[hn]
  by_cases h1:YI L p=OG "put"
  .rw[if_pos h1] at e
   cases hv:cY (cd (YI L (p+1))) with
   |none=>simp_all
   |some v=>
    rw[hv] at e;cases e;obtain⟨v1,v2⟩:=uq hv;have a:=mH (C:=C) (m:=(g:Int)) (n:=n+1) (by lia) v1;rw[←v2,pG] at a;exact⟨_,_,a,rfl,by lia,rfl,by rw[gR h1 (by decide +kernel),gR rfl (zmv hv)];rfl⟩
  rw[if_neg h1] at e
  by_cases h2:YI L p=OG "got"
  .rw[if_pos h2] at e
   cases hv:Zr g (YI L (p+1)) with
   |none=>rw[hv] at e;cases e
   |some j=>
    rw[hv] at e;cases e;obtain⟨hj,hw⟩:=iE hv;exact⟨_,_,tj (by lia) hg hj,rfl,by lia,rfl,by rw[gR h2 (by decide +kernel),gR hw (tD (by lia))];rfl⟩
  rw[if_neg h2] at e
  by_cases h3:YI L p=OG "row"
  .rw[if_pos h3] at e
   cases hv:Zr 9 (YI L (p+1)) with
   |none=>rw[hv] at e;cases e
   |some j=>
    obtain⟨hj,hw⟩:=iE hv;rw[hv] at e;dsimp only at e
    cases hr:ZQ (rE L k (d+1) g) j (p+2) (b+1) with
    |bad q0=>rw[hr] at e;cases e
    |ok es p1 b1=>
     rw[hr] at e;cases e;obtain⟨qs,k1,k2,k3,k4,k5,k6,k7⟩:=nW (Q:=λt c ws=>EX C (g:Int) n c ws t) ih j (p+2) (b+1) es _ _ (by lia) hr;obtain⟨f1,f2⟩:=Aj k3;have f3:=(rZ k3).2;rw[←k1] at f1 f2 f3;rw[f1] at k4;rw[f2] at k6 k7
     have kl:es.length=j:=by rw[k1,PV,k2]
     have a:=zU (by lia) f3 (by lia);rw[kl] at a;exact⟨_,_,a,by lia,k5,by simp only[Po];lia,by rw[gR h3 (by decide +kernel),gR hw (tD (by lia)),k7];rfl⟩
  rw[if_neg h3] at e
  cases hv:D9 (YI L p) with
  |none=>rw[hv] at e;cases e
  |some j=>
   obtain⟨s,hs,hw⟩:=vX hv
   have s0:OG s≠OG "":=by
    rcases hw with⟨rfl,_⟩|⟨hw,_⟩
    .decide +kernel
    .simp[Gn] at hw
     rcases hw with rfl|rfl|rfl|rfl|rfl <;> decide +kernel
   rw[hv] at e;dsimp only at e
   cases hr:ZQ (rE L k (d+1) g) j (p+1) (b+1) with
   |bad q0=>rw[hr] at e;cases e
   |ok es p1 b1=>
    rw[hr] at e;cases e;obtain⟨qs,k1,k2,k3,k4,k5,k6,k7⟩:=nW (Q:=λt c ws=>EX C (g:Int) n c ws t) ih j (p+1) (b+1) es _ _ (by lia) hr;obtain⟨f1,f2⟩:=Aj k3;have f3:=(rZ k3).2;rw[←k1] at f1 f2 f3;rw[f1] at k4;rw[f2] at k6 k7
    have kl:es.length=j:=by rw[k1,PV,k2]
    rw[hs];exact⟨_,_,sA (by rw[kl];exact hw) f3 (by lia),by lia,k5,by simp only[Po];lia,by rw[gR hs s0,k7];rfl⟩
theorem tf:∀(k d g p b:Nat) (t:OF) (p' b':Nat),g<=12->b<=60->rR L k d g p b=.ok t p' b'->∃c ws,Bk (λc ws=>RX C g (20-d) c ws t) L p b p' b' c ws
 |0,d,g,p,b,t,p',b',_,_,e=>nomatch e
 |k+1,d,g,p,b,t,p',b',hg,hb,e=>by
  rw[rR] at e
  by_cases YU:20<=d\/60<=b
  .simp_all
  rw[if_neg YU] at e;obtain⟨n,hn⟩:∃n,20-d=n+1:=⟨19-d,by lia⟩
  have IZ:20-(d+1)=n:=by lia
  cases hv:KG (YI L p) with
  |none=>simp_all
  |some x=>
   obtain⟨s,j⟩:=x;rw[hv] at e;dsimp only at e;obtain⟨hs,hm⟩:=nV hv
   have s0:OG s≠OG ""/\litOk s=xV/\single (.str (OG s))=xV/\¬s="put"/\¬s="got"/\¬s="row":=by
    have Cf:=hm;simp[K8] at Cf
    rcases Cf with⟨rfl,_⟩|⟨rfl,_⟩|⟨rfl,_⟩|⟨rfl,_⟩|⟨rfl,_⟩ <;> decide +kernel
   obtain⟨t1,t2,t3⟩:=ol hm
   by_cases hq:(s="want"\/s="peek")/\g=12
   .rw[if_pos hq] at e;cases e
   rw[if_neg hq] at e;rw[hn]
   by_cases hf:s="fail"
   .rw[if_pos hf] at e
    by_cases hi:isName (.str (YI L (p+1)))=xV
    .rw[if_pos hi] at e
     cases e
     have w0:YI L (p+1)≠OG "":=λz=>by
      rw[z] at hi;exact absurd hi (by decide +kernel)
     subst hf;exact⟨_,_,yI (by lia) hg hi,rfl,by lia,rfl,by rw[gR hs s0.1,gR rfl w0];rfl⟩
    .rw[if_neg hi] at e;cases e
   rw[if_neg hf] at e
   cases he:rE L 20 (d+1) g (p+1) (b+1) with
   |bad q=>rw[he] at e;cases e
   |ok x p1 b1=>
    rw[he] at e;dsimp only at e;obtain⟨ce,we,hk⟩:=pz (C:=C) 20 (d+1) g (p+1) (b+1) x p1 b1 hg (by lia) he;rw[IZ] at hk
    have hx:ZG s g<=12:=by unfold ZG;split <;> grind
    have ih:=λp b t p' b' hb=>tf k (d+1) (ZG s g) p b t p' b' hx hb;rw[IZ] at ih
    cases hr:ZQ (rR L k (d+1) (ZG s g)) j p1 b1 with
    |bad q0=>rw[hr] at e;cases e
    |ok rs p2 b2=>
     rw[hr] at e;cases e;obtain⟨qs,k1,k2,k3,k4,k5,k6,k7⟩:=nW (Q:=λt c ws=>RX C (ZG s g) n c ws t) ih j p1 b1 rs _ _ hk.b6 hr;have e1:=hk.eb;have e2:=hk.ep;have a:=oH (C:=C) (g:=g) (w:=s) (e:=x) (qs:=qs) (g':=ZG s g) ⟨s0.2.2.2.1,s0.2.2.2.2.1,s0.2.2.2.2.2,hf⟩ s0.2.1 (by lia) hk.q k3 (by lia);rw[←k1] at a;exact⟨_,_,a,by lia,k5,by simp only[Po,Pz];lia,by rw[gR hs s0.1,hk.d,k7,SM,SD]⟩
end
noncomputable def zmw{C:Addr}{ws:List Str}{t:OF}{p b:Nat}(h:DU ws=.ok t p b):∃c,RX C 0 20 c ws t:=by
 unfold DU at h
 cases hr:rR ws 20 0 0 0 0 with
 |bad q=>simp_all
 |ok t1 p1 b1=>
  rw[hr] at h;dsimp only at h
  by_cases hp:p1<ws.length
  simp_all
  rw[if_neg hp] at h;cases h;obtain⟨c,FZ,hk⟩:=tf  20 0 0 0 0 t p b (by lia) (by lia) hr;have d:=hk.d;rw[Ts,PR (by lia),Qu] at d;rw[d];exact⟨c,hk.q⟩
inductive Wn where
 |rcp (g d:Nat)
 |ex (g d:Nat)
 |name
 |stamp
 |k (g:Nat)
 |n (g d:Nat)
noncomputable def Cu(w:Str)(g d:Nat):Option (List Wn):=
 if w=OG "put" then vd [.stamp]
 else if w=OG "got" then vd [.k g]
 else if w=OG "row" then vd [.n g (d+1)]
 else (D9 w).map λj=>OQ j (.ex g (d+1))
noncomputable def Gf(w:Str)(g d:Nat):Option (List Wn):=match KG w with
 |none=>zc
 |some (s,j)=>if (s="want"\/s="peek")/\g=12 then zc else if s="fail" then vd [.name] else vd (.ex g (d+1)::OQ j (.rcp (ZG s g) (d+1)))
noncomputable def Zv(w:Str)(b:Nat):Wn->Option (List Wn×Nat)
 |.rcp g d=>if d=20\/b=60 then zc else (Gf w g d).map (·,b+1)
 |.ex g d=>if d=20\/b=60 then zc else (Cu w g d).map (·,b+1)
 |.name=>if isName (.str w)=xV then vd ([],b) else zc
 |.stamp=>if (cY (cd w)).isSome then vd ([],b) else zc
 |.k g=>if (Zr g w).isSome then vd ([],b) else zc
 |.n g d=>(Zr 9 w).map λj=>(OQ j (.ex g d),b)
noncomputable def wr:List Str->List Wn->Nat->Nat->Option Nat
 |[],[],_,_=>zc
 |[],_::_,i,_=>vd i
 |_::_,[],i,_=>vd i
 |w::ws,x::st,i,b=>match Zv w b x with
  |none=>vd i
  |some (new,b')=>wr ws (new++st) (i+1) b'
def qc(L:List Str)(new:List Wn){α:Type}(o:Oc α)(p b:Nat):Prop:=∀st,wr (L.drop p) (new++st) p b=match o with
 |.ok _ p' b'=>wr (L.drop p') st p' b'
 |.bad q=>vd q
noncomputable def nS(L:List Str)(p:Nat)(hp:p<=L.length):(L.drop p=[]/\YI L p=OG "")\/(L.drop p=YI L p::L.drop (p+1)/\p+1<=L.length):=by
 unfold YI
 by_cases h:p<L.length
 .right
  rw[Qh h];exact⟨Qc h,h⟩
 .simp_all
theorem rz{L:List Str}{r1:Nat->Nat->Oc OF}{x:Wn}(h:∀p b,p<=L.length->b<=60->qc L [x] (r1 p b) p b/\∀t p' b',r1 p b=.ok t p' b'->p'<=L.length/\b'<=60) :
  ∀(j p b:Nat),p<=L.length->b<=60->qc L (OQ j x) (ZQ r1 j p b) p b
 |0,p,b,_,_=>λst=>rfl
 |j+1,p,b,hp,hb=>λst=>by
  have ih:=rz h j;obtain⟨h1,h2⟩:=h p b hp hb;have e:=h1 (OQ j x++st);rw[Rq,SM];rw[Ql] at e;rw[e,ZQ]
  cases hr:r1 p b with
  |bad q=>rfl
  |ok t p1 b1=>
   obtain⟨a1,a2⟩:=h2 t p1 b1 hr;dsimp only;rw[ih p1 b1 a1 a2 st]
   cases ZQ r1 j p1 b1 <;> rfl
noncomputable def so(h:Bk Q L p b p' b' c ws)(hp:p<=L.length):p'<=L.length:=by
 have l:=congrArg SW h.d
 have e:=h.ep<;>grind
theorem xj{w:Str}{ws:List Str}{x:Wn}{st:List Wn}{i b:Nat}:wr (w::ws) (x::st) i b=match Zv w b x with
  |none=>vd i
  |some (new,b')=>wr ws (new++st) (i+1) b':=rfl
noncomputable def iD{L:List Str}{p b:Nat}{x:Wn}(hp:p<=L.length)(he:Zv "" b x=zc)(st:List Wn):wr (L.drop p) (x::st) p b=match Zv (YI L p) b x with
  |none=>vd p
  |some (new,b')=>wr (L.drop (p+1)) (new++st) (p+1) b':=by
 rcases nS L p hp with⟨e1,e2⟩|⟨e1,e2⟩
 .rw[e1,e2,he]
  rfl
 .rw[e1,xj]
theorem zmx:D9 ""=zc :=rfl
theorem AL:KG ""=zc :=rfl
noncomputable def rJ{g d b:Nat}:Zv "" b (.ex g d)=zc:=by
 have a:Cu "" g d=zc:=by
  rfl
 show (if d=20\/b=60 then zc else (Cu _ g d).map _)=zc<;>simp_all
noncomputable def qT{g d b:Nat}:Zv "" b (.rcp g d)=zc:=by
 have a:Gf "" g d=zc:=by
  unfold Gf;rw[AL]
 show (if d=20\/b=60 then zc else (Gf _ g d).map _)=zc<;>simp_all
noncomputable def AX(hg:g<=12):Zr g ""=zc:=by
 cases h:Zr g _ with
 |none=>rfl
 |some j=>
  obtain⟨h1,h2⟩:=iE h;exact absurd h2.symm (tD (by lia))
def zmy(hg:g<=12):Zv "" b (.k g)=zc:=by
 unfold Zv;dsimp only;rw[AX hg];rfl
theorem zmz:Zv "" b (.n g d)=zc :=rfl
theorem zna:Zv "" b .stamp=zc :=rfl
theorem znb:Zv "" b .name=zc :=rfl
section
variable {L:List Str}
theorem zD:∀(k d g p b:Nat),20<=k+d->d<=20->g<=12->p<=L.length->b<=60->qc L [.ex g d] (rE L k d g p b) p b
 |0,d,g,p,b,hk,hd,hg,hp,hb=>λst=>by
  show wr (L.drop p) (.ex g d::st) p b=vd p;rw[iD hp rJ]
  have:d=20:=by lia
  unfold Zv;dsimp only;rw[if_pos (.inl this)]
 |k+1,d,g,p,b,hk,hd,hg,hp,hb=>λst=>by
  rw[Ql,iD hp rJ,rE]
  by_cases YU:20<=d\/60<=b
  .rw[if_pos YU]
   unfold Zv;dsimp only;rw[if_pos (by lia)]
  rw[if_neg YU]
  have dr:=λ(j p' b':Nat) (hp':p'<=L.length) (Bg:b'<=60)=>rz (L:=L) (r1:=rE L k (d+1) g) (x:=.ex g (d+1)) (λp b hp hb=>⟨zD k (d+1) g p b (by lia) (by lia) hg hp hb,λt p' b' e=>by
   obtain⟨c,ws,h⟩:=pz (C:=0) k (d+1) g p b t p' b' hg hb e
   exact⟨so h hp,h.b6⟩⟩) j p' b' hp' Bg
  rcases nS L p hp with⟨e1,e2⟩|⟨e1,FU⟩
  .have s0:=rJ (g:=g) (d:=d) (b:=b)
   rw[e2,s0,if_neg (by decide +kernel),if_neg (by decide +kernel),if_neg (by decide +kernel),zmx]
  have sx:Zv (YI L p) b (.ex g d)=(Cu (YI L p) g d).map (·,b+1):=by
   unfold Zv;dsimp only;rw[if_neg (by lia)]
  rw[sx];unfold Cu
  by_cases h1:YI L p=OG "put"
  .rw[if_pos h1,if_pos h1]
   dsimp only[Rn];rw[Ql,iD FU zna];unfold Zv;dsimp only
   cases hv:cY (cd (YI L (p+1))) <;> rfl
  rw[if_neg h1,if_neg h1]
  by_cases h2:YI L p=OG "got"
  .rw[if_pos h2,if_pos h2]
   dsimp only[Rn];rw[Ql,iD FU (zmy hg)];unfold Zv;dsimp only
   cases hv:Zr g (YI L (p+1)) <;> rfl
  rw[if_neg h2,if_neg h2]
  by_cases h3:YI L p=OG "row"
  .rw[if_pos h3,if_pos h3]
   dsimp only[Rn];rw[Ql,iD FU zmz];unfold Zv;dsimp only
   cases hv:Zr 9 (YI L (p+1)) with
   |none=>rfl
   |some j=>
    dsimp only[Rn]
    have CY:p+2<=L.length:=by
     rcases nS L (p+1) FU with⟨_,z⟩|⟨_,z⟩
     .rw[z,AX (by decide)] at hv
      cases hv
     .exact z
    rw[dr j (p+2) (b+1) CY (by lia) st]
    cases ZQ (rE L k (d+1) g) j (p+2) (b+1) <;> rfl
  rw[if_neg h3,if_neg h3]
  cases hv:D9 (YI L p) with
  |none=>rfl
  |some j=>
   dsimp only[Rn];rw[dr j (p+1) (b+1) FU (by lia) st]
   cases ZQ (rE L k (d+1) g) j (p+1) (b+1) <;> rfl
theorem zC:∀(k d g p b:Nat),20<=k+d->d<=20->g<=12->p<=L.length->b<=60->qc L [.rcp g d] (rR L k d g p b) p b
 |0,d,g,p,b,hk,hd,hg,hp,hb=>λst=>by
  show wr (L.drop p) (.rcp g d::st) p b=vd p;rw[iD hp qT]
  have:d=20:=by lia
  unfold Zv;dsimp only;rw[if_pos (.inl this)]
 |k+1,d,g,p,b,hk,hd,hg,hp,hb=>λst=>by
  rw[Ql,iD hp qT,rR]
  by_cases YU:20<=d\/60<=b
  .rw[if_pos YU]
   unfold Zv;dsimp only;rw[if_pos (by lia)]
  rw[if_neg YU]
  rcases nS L p hp with⟨e1,e2⟩|⟨e1,FU⟩
  .have s0:=qT (g:=g) (d:=d) (b:=b)
   rw[e2,s0,AL]
  have sx:Zv (YI L p) b (.rcp g d)=(Gf (YI L p) g d).map (·,b+1):=by
   unfold Zv;dsimp only;rw[if_neg (by lia)]
  rw[sx];unfold Gf
  cases hv:KG (YI L p) with
  |none=>rfl
  |some x=>
   obtain⟨s,j⟩:=x;dsimp only
   by_cases hq:(s="want"\/s="peek")/\g=12
   .rw[if_pos hq,if_pos hq]
    rfl
   rw[if_neg hq,if_neg hq]
   by_cases hf:s="fail"
   .rw[if_pos hf,if_pos hf]
    dsimp only[Rn];rw[Ql,iD FU znb];unfold Zv;dsimp only
    by_cases hi:isName (.str (YI L (p+1)))=xV
    .rw[if_pos hi,if_pos hi]
     rfl
    .rw[if_neg hi,if_neg hi]
   rw[if_neg hf,if_neg hf];dsimp only[Rn];have e:=zD (L:=L) 20 (d+1) g (p+1) (b+1) (by lia) (by lia) hg FU (by lia) (OQ j (.rcp (ZG s g) (d+1))++st);rw[Ql] at e;rw[SM,e]
   cases he:rE L 20 (d+1) g (p+1) (b+1) with
   |bad q=>rfl
   |ok x p1 b1=>
    dsimp only;obtain⟨c,ws,h⟩:=pz (C:=0) 20 (d+1) g (p+1) (b+1) x p1 b1 hg (by lia) he
    have hx:ZG s g<=12:=by unfold ZG;split <;> grind
    rw[rz (L:=L) (r1:=rR L k (d+1) (ZG s g)) (x:=.rcp (ZG s g) (d+1)) (λp b hp hb=>⟨zC k (d+1) (ZG s g) p b (by lia) (by lia) hx hp hb,λt p' b' e=>by
     obtain⟨c,ws,h⟩:=tf (C:=0) k (d+1) (ZG s g) p b t p' b' hx hb e
     exact⟨so h hp,h.b6⟩⟩) j p1 b1 (so h FU) h.b6 st]
    cases ZQ (rR L k (d+1) (ZG s g)) j p1 b1 <;> rfl
noncomputable def znc(ws:List Str):wr ws [.rcp 0 0] 0 0=match DU ws with
  |.ok _ _ _=>zc
  |.bad q=>vd q:=by
 have e:=zC (L:=ws) 20 0 0 0 0 (by lia) (by lia) (by lia) (by lia) (by lia) [];rw[Qu,Ts] at e;rw[e];unfold DU
 cases hr:rR ws 20 0 0 0 0 with
 |bad q=>rfl
 |ok t p b=>
  dsimp only
  by_cases hp:p<ws.length
  .rw[if_pos hp,Qc hp]
   rfl
  .rw[if_neg hp,PR (by lia)]
   rfl
end
noncomputable def wD:Wn->OF
 |.rcp g d=>.tuple [.str "recipe",.int (g:Int),.int (d:Int)]
 |.ex g d=>.tuple [.str "expr",.int (g:Int),.int (d:Int)]
 |.name=>.tuple [.str "name",.int 0,.int 0]
 |.stamp=>.tuple [.str "stamp",.int 0,.int 0]
 |.k g=>.tuple [.str "k",.int (g:Int),.int 0]
 |.n g d=>.tuple [.str "n",.int (g:Int),.int (d:Int)]
def D8:Option (List Wn)->OF
 |none=>.none
 |some l=>.list (l.map wD)
noncomputable def znd{w:Str}{g d:Nat}(T:Tp):dZ [.d (.str "expr"),.d (.str w),.d (.int (g:Int)),.d (.int (d:Int))] T=vd (D8 (Cu w g d),T):=by
 by_cases h1:w=OG "put"
 .subst h1
  simp[dZ,D8,wD,fR,dA,gD,fV,gA,IJ,gQ,fB,gK,gL,putN,dP,cJ,fW,gM,gG,Yz,forL,Cu]
 by_cases h2:w=OG "got"
 .subst h2
  simp[dZ,D8,wD,fR,dA,gD,fV,gA,IJ,gQ,fB,gK,gL,putN,dP,cJ,fW,gM,gG,Yz,forL,Cu]
 by_cases h3:w=OG "row"
 .subst h3
  simp[dZ,D8,wD,fR,dA,gD,fV,gA,IJ,gQ,fB,gK,gL,putN,dP,cJ,fW,gM,gG,Yz,forL,Cu]
 by_cases h:w∈["many","part","sum","join","same","less"].map OG
 .simp at h
  rcases h with rfl|rfl|rfl|rfl|rfl|rfl <;> simp[dZ,D8,wD,fR,dA,gD,fV,gA,IJ,gQ,fB,gK,gL,putN,dP,cJ,fW,gM,gG,Yz,forL,Cu,D9,OQ]
 .simp at h
  obtain⟨n1,n2,n3,n4,n5,n6⟩:=h;simp[dZ,D8,wD,fR,dA,gD,fV,gA,IJ,gQ,fB,gK,gL,putN,dP,cJ,fW,gM,gG,Yz,forL,Cu,D9,h1,h2,h3,n1,n2,n3,n4,n5,n6,λs:String=>(eq_comm:OG s=w↔w=OG s)]
noncomputable def zne{w:Str}{g d:Nat}(T:Tp)(hg:g<=12):dZ [.d (.str "recipe"),.d (.str w),.d (.int (g:Int)),.d (.int (d:Int))] T=vd (D8 (Gf w g d),T):=by
 by_cases h:w∈["say","fail","want","peek","when"].map OG
 .simp at h
  by_cases BH:g=12
  .subst BH
   rcases h with rfl|rfl|rfl|rfl|rfl <;> kernel_rfl
  .have gl:(g:Int)<12:=by lia
   rcases h with rfl|rfl|rfl|rfl|rfl <;> simp[dZ,D8,wD,fR,dA,gD,fV,gA,IJ,gQ,fB,gK,gL,putN,dP,cJ,fW,gM,gG,Yz,forL,HB,view,lc,Gf,KG,K8,ZG,OQ,BH,gl]
 .simp at h
  obtain⟨n1,n2,n3,n4,n5⟩:=h
  by_cases BH:g=12
  .subst BH
   simp[dZ,D8,wD,fR,dA,gD,fV,gA,IJ,gQ,fB,gK,gL,putN,dP,cJ,fW,gM,gG,Yz,forL,HB,view,lc,Gf,KG,K8,n1,n2,n3,n4,n5,λs:String=>(eq_comm:OG s=w↔w=OG s)]
  have gl:(g:Int)<12:=by lia
  simp[dZ,D8,wD,fR,dA,gD,fV,gA,IJ,gQ,fB,gK,gL,putN,dP,cJ,fW,gM,gG,Yz,forL,HB,view,lc,Gf,KG,K8,gl,n1,n2,n3,n4,n5,λs:String=>(eq_comm:OG s=w↔w=OG s)]
noncomputable def vj(hn:n<=100):bI bB (YR dE (ae (aa 0) ah)) ρ (bA 0 n) T=vd (sl ((PY n).map ns),T):=by
 have c:=gr (e:=YR dE (ae (aa 0) ah)) (ρ:=ρ) (T:=T) (g:=λd=>match d with | .int i=>.str (mk (nc i))|_=>.none) (ds:=bA 0 n) λd hd=>by
  obtain⟨i,hi,rfl⟩:=Pu.mp hd
  simp_all
  have z:=kF (i:=(0)+(i)) (gq (by lia) (by lia))<;>simp_all
 have m:(bA 0 n).map (λd=>match d with | .int i=>.str (mk (nc i))|_=>U9)=sl ((PY n).map ns):=by
  unfold sl bA;simp[ns]
 rw[m] at c;exact c
noncomputable def Af:inD (.str w) (.list (sl ((PY n).map ns)))=vd (.bool (Zr n w).isSome):=by
 cases h:Zr n w with
 |none=>exact sP (rg h)
 |some j=>
  obtain⟨h1,h2⟩:=iE h;exact in_sl (Pu.mpr ⟨j,Ru.mpr h1,h2.symm⟩)
noncomputable def znf{w:Str}{g:Nat}(T:Tp)(hg:g<=12):fh [.d (.str "k"),.d (.str w),.d (.int (g:Int))] T=vd (.bool (Zr g w).isSome,T):=by
 have r:=fL (j:=(g)) (by lia) (by lia);have c:=λρ=>vj (ρ:=ρ) (n:=g) (T:=T) (by lia);have i:=Af (w:=w) (n:=g);simp[fh,r,c,i]
noncomputable def zng{w:Str}{g:Nat}(T:Tp):fh [.d (.str "n"),.d (.str w),.d (.int (g:Int))] T=vd (.bool (Zr 9 w).isSome,T):=by
 have r:=fL (j:=(9)) (by lia) (by lia);have c:=λρ=>vj (ρ:=ρ) (n:=9) (T:=T) (by lia);have i:=Af (w:=w) (n:=9);simp[fh,r,c,i]
noncomputable def lr(w:List Nat):Option Int:=if w=[45,48]\/30<(fg w).length\/cy (fg w)=zd then zc else vd (if w.head? = vd 45 then -((PP w.tail:Nat):Int) else ((PP w:Nat):Int))
def gJ(w:List Nat):Option PyData:=if w.head? = vd 39 then vd (.str (mk w.tail)) else (lr w).map .int
def fj(l:List Nat):Option (OF×List Nat):=(gJ (W l)).map λv=>(v,l.drop (W l).length)
noncomputable def bU:Nat->List Nat->Option (OF×List Nat)
 |0,l=>if l.head? = vd 40 then zc else fj l
 |n+1,l=>if l.head? = vd 40 then (if l.tail.head? = vd 41 then vd (.tuple [],l.tail.tail) else cg (bU n) 100000 [] l.tail) else fj l
noncomputable def znh(h:gT w=vd i):lr w=vd i:=by
 unfold gT at h;unfold lr;split at h
 .cases h
 .rename_i hn
  rw[if_neg λz=>hn (z.imp id (Or.imp (λq=>by omega) id))];exact h
noncomputable def zni(h:lr w=vd i)(hs:single (.int i)=xV):gT w=vd i:=by
 unfold lr at h;unfold gT;split at h
 .cases h
 .have h3:cy (fg w)=xV:=by simp_all
  have ab:=nz hs;have e:=sh h3
  have v:PP (fg w)<=10^18:=by
   injection h with h
   unfold fg<;>grind
  have l:=mD v<;>simp_all
noncomputable def znj(h:dR w=vd v):gJ w=vd v:=by
 unfold dR at h;unfold gJ;split at h
 simp_all
 .rename_i z
  rw[if_neg z];obtain⟨i,h1,rfl⟩:=OT.mp h;rw[znh h1];rfl
noncomputable def znk(h:gJ w=vd v)(hs:aG n v=xV):dR w=vd v:=by
 unfold gJ at h;unfold dR;split at h
 simp_all
 .rename_i z
  rw[if_neg z];obtain⟨i,h1,rfl⟩:=OT.mp h;rw[zni h1 (by cases n <;> exact hs)];rfl
def xH(h:d8 l=vd x):fj l=vd x:=by
 obtain⟨v,h1,rfl⟩:=OT.mp h;unfold fj;rw[znj h1];rfl
noncomputable def xG(h:fj l=vd (v,r))(hs:aG n v=xV):d8 l=vd (v,r):=by
 obtain⟨v',h1,h2⟩:=OT.mp h;cases h2;unfold d8;rw[znk h1 hs];rfl
theorem vq(h:∀l x,f l=vd x->g l=vd x):∀(k:Nat) (acc:List OF) (l:List Nat) (x:OF×List Nat),cg f k acc l=vd x->cg g k acc l=vd x
 |0,_,_,_,e=>by cases e
 |k+1,acc,l,x,e=>by
  unfold cg at e ⊢
  cases hx:f l with
  |none=>simp_all
  |some y=>
   rw[hx] at e;rw[h l y hx];obtain⟨v,r⟩:=y;dsimp only at e ⊢;split at e
   simp_all
   .rename_i z
    rw[if_neg z];split at e
    .rename_i z2
     rw[if_pos z2];exact vq h k _ _ _ e
    .cases e
theorem zX:∀(n:Nat) (l:List Nat) (x:OF×List Nat),bT n l=vd x->bU n l=vd x
 |0,l,x,e=>by
  unfold bT at e;unfold bU;split at e
  .cases e
  .rename_i z
   rw[if_neg z];exact xH e
 |n+1,l,x,e=>by
  unfold bT at e;unfold bU;split at e
  .rename_i z
   rw[if_pos z];split at e
   .rename_i z2
    rw[if_pos z2]<;>omega
   .rename_i z2
    rw[if_neg z2];exact vq (zX n) _ _ _ _ e
  .rename_i z
   rw[if_neg z];exact xH e
theorem wA:∀(k:Nat) (acc:List OF) (l:List Nat) (v:OF) (r:List Nat),cg f k acc l=vd (v,r)->∃ds,v=.tuple (acc++ds)
 |0,_,_,_,_,e=>by cases e
 |k+1,acc,l,v,r,e=>by
  unfold cg at e;split at e
  .cases e
  .split at e
   .grind
   .split at e
    .obtain⟨ds,h⟩:=wA k _ _ _ _ e<;>simp_all
    .cases e
theorem uL(h:∀l v r,g l=vd (v,r)->aG n v=xV->f l=vd (v,r)):∀(k:Nat) (acc:List OF) (l:List Nat) (v:OF) (r:List Nat),cg g k acc l=vd (v,r)->aG (n+1) v=xV->cg f k acc l=vd (v,r)
 |0,_,_,_,_,e,_=>by cases e
 |k+1,acc,l,v,r,e,hb=>by
  unfold cg at e ⊢
  cases hx:g l with
  |none=>simp_all
  |some y=>
   obtain⟨v1,r1⟩:=y;rw[hx] at e;dsimp only at e
   have one:∀ds,v=.tuple _->aG n v1=xV:=λds hv=>by
    rw[hv] at hb
    have Bg:(decide _&&(acc++[v1]++ds).all _)=xV:=hb<;>simp_all
   split at e
   .rename_i z
    cases e;rw[h l v1 r1 hx (one [] (by simp))];exact if_pos z
   .rename_i z
    split at e
    .rename_i z2
     obtain⟨ds,hv⟩:=wA k _ _ _ _ e;rw[h l v1 r1 hx (one ds hv)];dsimp only;rw[if_neg z,if_pos z2];exact uL h k _ _ _ _ e hb
    .cases e
theorem zW:∀(n:Nat) (l:List Nat) (v:OF) (r:List Nat),bU n l=vd (v,r)->aG n v=xV->bT n l=vd (v,r)
 |0,l,v,r,e,hb=>by
  unfold bU at e;unfold bT;split at e
  .cases e
  .rename_i z
   rw[if_neg z];exact xG e hb
 |n+1,l,v,r,e,hb=>by
  unfold bU at e;unfold bT;split at e
  .rename_i z
   rw[if_pos z];split at e
   .rename_i z2
    rw[if_pos z2]<;>omega
   .rename_i z2
    rw[if_neg z2];exact uL (zW n) _ _ _ _ _ e hb
  .rename_i z
   rw[if_neg z];exact xG e hb
def sF(l:List Nat):Bool:=match bU 4 l with
 |some (v,[])=>aM v
 |_=>zd
noncomputable def znl(l:List Nat):sF l=(cY l).isSome:=by
 unfold sF cY
 cases hp:bT 4 l with
 |some x=>
  rw[zX 4 l x hp];obtain⟨v,r⟩:=x
  cases r with
  |nil=>
   dsimp only
   cases aM v <;> rfl
  |cons a r=>rfl
 |none=>
  cases hl:bU 4 l with
  |none=>rfl
  |some x=>
   obtain⟨v,r⟩:=x
   cases r with
   |cons a r=>rfl
   |nil=>
    dsimp only
    cases hv:aM v with
    |false=>rfl
    |true=>
     have:=zW 4 l v [] hl (zmj hv)<;>simp_all
def Zs(l:List Nat):Int:=cnt 40 l-cnt 41 l
def yp(a b:List Nat):Zs (a++b)=Zs a+Zs b:=by
 unfold Zs;rw[cnt_append,cnt_append]
 lia
noncomputable def znm(l:List Nat):Zs (W l)=0:=by
 have h:=λc hc=>by
  have:=Pd.mp (List.all_takeWhile (l:=l) (p:=λc=>!dl c)) c hc;simpa using this
 have n:∀k,dl k=xV->cnt k (W l)=0:=λk hk=>cnt_none k _ λhm=>by
  rw[h k hm] at hk<;>grind
 unfold Zs;rw[n 40 (by decide +kernel),n 41 (by decide +kernel)];rfl
def wL(l:List Nat):Zs (40::l)=Zs l+1:=by
 unfold Zs;rw[Vc,Vc,if_pos rfl,if_neg (by decide)]
 lia
def wK(l:List Nat):Zs (41::l)=Zs l-1:=by
 unfold Zs;rw[Vc,Vc,if_pos rfl,if_neg (by decide)]
 lia
def vK(l:List Nat):Zs (44::l)=Zs l:=by
 unfold Zs;rw[Vc,Vc,if_neg (by decide),if_neg (by decide)]
 lia
noncomputable def wX(h:fj l=vd (v,r)):Zs l=Zs r:=by
 obtain⟨v',_,h2⟩:=OT.mp h;cases h2;have e:l=W l++l.drop (W l).length:=(List.prefix_iff_eq_append.mp (Qk _)).symm;have:=congrArg Zs e;rw[yp,znm] at this
 lia
theorem wY(h:∀l v r,f l=vd (v,r)->Zs l=Zs r):∀(k:Nat) (acc:List OF) (l:List Nat) (v:OF) (r:List Nat),cg f k acc l=vd (v,r)->Zs l=Zs r-1
 |0,_,_,_,_,e=>by cases e
 |k+1,acc,l,v,r,e=>by
  unfold cg at e
  cases hx:f l with
  |none=>simp_all
  |some y=>
   obtain⟨v1,r1⟩:=y;have h1:=h l v1 r1 hx;rw[hx] at e;dsimp only at e;split at e
   .rename_i z
    cases e;have:=congrArg Zs (head_cons z)
    rw[wK] at this<;>lia
   .split at e
    .rename_i z
     have:=congrArg Zs (head_cons z);rw[vK] at this
     have:=wY h k _ _ _ _ e<;>simp_all
    .cases e
theorem yE:∀(n:Nat) (l:List Nat) (v:OF) (r:List Nat),bU n l=vd (v,r)->Zs l=Zs r
 |0,l,v,r,e=>by
  unfold bU at e;split at e
  .cases e
  .exact wX e
 |n+1,l,v,r,e=>by
  unfold bU at e;split at e
  .rename_i z
   have h0:=congrArg Zs (head_cons z);rw[wL] at h0;split at e
   .rename_i z2
    cases e;have:=congrArg Zs (head_cons z2)
    rw[wK] at this<;>lia
   .have:=wY (yE n) _ _ _ _ _ e<;>simp_all
  .exact wX e
def vb:Suf fj:=λl v r e=>by
 obtain⟨v',_,e'⟩:=OT.mp e;cases e';exact Wq _ _
theorem nU:∀n,Suf (bU n)
 |0=>λl v r e=>by
  unfold bU at e;split at e
  .cases e
  .exact vb _ _ _ e
 |n+1=>λl v r e=>by
  unfold bU at e;split at e
  .split at e
   .cases e
    exact(PQ _).trans (PQ _)
   .exact(qR (nU n) _ _ _ _ _ e).trans (PQ _)
  .exact vb _ _ _ e
theorem z5(ht:t.length<=OO):∀(n b:Nat),((cd t).drop b).length<n->b<=t.length ->
  cN (eg (aq (ag IS (aa 2) (YR aP (ae (aa 0) ah)))) (aq (ag dk (ag Ze (aa 0) (aa 2)) (fC (.str "(),"))))) (ay 2 (ag az (aa 2) (fC (.int 1)))) n [vd (.d (.str t)),vd (.d at'),vd (.d (.int b)),zc,zc,zc,zc,zc] T
   = vd ((.nx,[vd (.d (.str t)),vd (.d at'),vd (.d (.int ((b+(W ((cd t).drop b)).length:Nat):Int))),zc,zc,zc,zc,zc]),T)
 |0,b,h,_=>absurd h (P8 _)
 |n+1,b,h,hb=>by
  unfold cN
  cases hd:(cd t).drop b with
  |nil=>
   have hl:t.length<=b:=by
    have:=congrArg SW hd;rw[PU,aU] at this;simp at this
    lia
   have hn:¬(b:Int)<(t.length:Int):=by lia
   simp[ht,hn,W]
  |cons a r=>
   obtain⟨h1,h2⟩:=pV hd
   have hn:(b:Int)<(t.length:Int):=by lia
   have GC:dk (.str ⟨#[a]⟩) (.str "(),")=vd (.bool (!dl a)):=by
    show vd _=_;rw[rh];rfl
   cases Gr:dl a with
   |true=>simp[ht,hn,h1,GC,Gr,W]
   |false=>
    have hr:(cd t).drop (b+1)=r:=by
     have:=congrArg List.tail hd;simpa using this
    have ih:=z5 (at':=at') (T:=T) ht n (b+1) (by simp_all) (by lia);rw[hr] at ih
    have eb:((b+1:Nat):Int)=(b:Int)+1:=by lia
    rw[eb] at ih
    have ew:W (a::r)=a::W r:=by simp[W,Gr]
    have el:b+(a::W r).length=b+1+(W r).length:=by simp;lia
    rw[ew,el];simp[ht,hn,h1,GC,Gr,ih]
noncomputable def Jh:FS:=(ak (YC (aq (ag Zu (YW (aa 3) aS (fP (fC (.int 1)))) (fC (.str "'")))) (au (ax .tuple (ae (YW (aa 3) (fP (fC (.int 1))) aS) (ae (aa 2) ah)))) aD) (ak (ay 4 (du (aq (ag Zu (YW (aa 3) aS (fP (fC (.int 1)))) (fC (.str "-")))) (YW (aa 3) (fP (fC (.int 1))) aS) (aa 3))) (ak (ay 5 (YR aP (ae (bH (cQ (aa 4)) (aq (ag dk (aa 0) (fC (.str "0123456789")))) (aa 0)) ah))) (ak (YC (bj (aq (ag Zu (aa 4) (fC (.str "")))) (bj (aq (ag Dj (aa 5) (fC (.int 0)))) (bj (aq (ag Dj (YR aP (ae (aa 4) ah)) (fC (.int 30)))) (eg (aq (ag Zu (ag Ze (aa 4) (fC (.int 0))) (fC (.str "0")))) (aq (ag Dx (aa 3) (fC (.str "0")))))))) (au (fC .none)) aD) (au (ax .tuple (ae (YR intD (ae (aa 3) ah)) (ae (aa 2) ah))))))))
noncomputable def BK:FS:=(ak (ay 2 (aa 1)) (ak (cN (eg (aq (ag IS (aa 2) (YR aP (ae (aa 0) ah)))) (aq (ag dk (ag Ze (aa 0) (aa 2)) (fC (.str "(),"))))) (ay 2 (ag az (aa 2) (fC (.int 1)))) 100000) (ak (ay 3 (YW (aa 0) (fP (aa 1)) (fP (aa 2)))) Jh)))
noncomputable def znn:cd (Pv x zc (vd 1))=(cd x).take 1:=by
 have:Pv x zc (vd 1)=Pv x (vd 0) (vd 1):=by
  kernel_rfl
 rw[this,kr (by decide) (by simp)];rfl
noncomputable def wG(hy:cd y=[c]):(Pv x zc (vd 1)=y)=((cd x).head? = vd c):=by
 have e:=znn (x:=x);refine propext ⟨λz=>?_,λz=>cI ?_⟩
 .cases hx:cd x <;>simp_all
 .cases hx:cd x <;>simp_all
noncomputable def zno:bI (aq (ag dk (aa 0) (fC (.str y)))) (aa 0) ρ (D.signs x) T=vd ((D.signs x).filter (λd=>!gv y d),T):=qf λd hd=>by
 obtain⟨c',_,rfl⟩:=qz hd;have e:dk (.str ⟨#[c']⟩) (.str y)=vd _:=rfl;simp[gv,e]
noncomputable def znp:decide (0<(((D.signs x).filter (λd=>!gv y d)).length:Int)) = !has y x:=by
 have a:=qA y x;rw[←a,Qt];simp
noncomputable def znq{t x:Str}{a e:Int}{T:Tp}(hx:x.length<=OO):∃ρ',Jh [vd (.d (.str t)),vd (.d (.int a)),vd (.d (.int e)),vd (.d (.str x)),zc,zc,zc,zc] T=vd ((.rt (match gJ (cd x) with|none=>.none|some v=>.tuple [v,.int e]),ρ'),T):=by
 have q1:=wG (x:=x) (c:=39) (y:=OG "'") (rfl);have q2:=wG (x:=x) (c:=45) (y:=OG "-") (rfl);have hl:=aU x;unfold gJ
 by_cases h1:(cd x).head? = vd 39
 .rw[if_pos h1]
  have es:Pv x (vd 1) zc=mk (cd x).tail:=cI (by
   rw[qo,da]
   simp)
  exact⟨[vd (.d (.str t)),vd (.d (.int a)),vd (.d (.int e)),vd (.d (.str x)),zc,zc,zc,zc],by simp[Jh,hx,q1,h1,es]⟩
 rw[if_neg h1]
 obtain⟨f,hf,BS,Cb⟩:∃f:Str,cd f=fg (cd x)/\f.length<=x.length/\∀T,du (aq (ag Zu (YW (aa 3) aS (fP (fC (.int 1)))) (fC (.str "-")))) (YW (aa 3) (fP (fC (.int 1))) aS) (aa 3) [vd (.d (.str t)),vd (.d (.int a)),vd (.d (.int e)),vd (.d (.str x)),zc,zc,zc,zc] T=vd (.d (.str f),T):=by
  unfold fg
  by_cases hm:(cd x).head? = vd 45
  .rw[if_pos hm]
   exact⟨Pv x (vd 1) zc,by rw[qo];simp,Tb _ _ _,λT=>by simp[q2,hm,hx]⟩
  .rw[if_neg hm]
   exact⟨x,rfl,Pc _,λT=>by simp[q2,hm,hx]⟩
 have Gp:f.length<=sizeLine:=OS BS hx
 have hlf:f.length=(fg (cd x)).length:=by rw[←hf,aU]
 have bc:=λρ=>zno (y:=Bu) (x:=f) (T:=T) (ρ:=ρ);have bl:=znp (y:=Bu) (x:=f)
 have hh:has Bu f=ir (fg (cd x)):=by rw[←hf];rfl
 rw[hh] at bl;unfold Bu at bc bl
 have p0:(f=OG "")=(fg (cd x)=[]):=by rw[←hf];exact propext ⟨λz=>by rw[z];decide +kernel,λz=>cI (by rw[z];decide +kernel)⟩
 have p1:(x=OG "0")=(cd x=[48]):=propext ⟨λz=>by rw[z];decide +kernel,λz=>cI (by rw[z];decide +kernel)⟩
 have start:Jh [vd (.d (.str t)),vd (.d (.int a)),vd (.d (.int e)),vd (.d (.str x)),zc,zc,zc,zc] T=Yz (Yz (du (aq (ag Zu (YW (aa 3) aS (fP (fC (.int 1)))) (fC (.str "-")))) (YW (aa 3) (fP (fC (.int 1))) aS) (aa 3) [vd (.d (.str t)),vd (.d (.int a)),vd (.d (.int e)),vd (.d (.str x)),zc,zc,zc,zc] T) (mZ 4 [vd (.d (.str t)),vd (.d (.int a)),vd (.d (.int e)),vd (.d (.str x)),zc,zc,zc,zc])) (j4 (ak (ay 5 (YR aP (ae (bH (cQ (aa 4)) (aq (ag dk (aa 0) (fC (.str "0123456789")))) (aa 0)) ah))) (ak (YC (bj (aq (ag Zu (aa 4) (fC (.str "")))) (bj (aq (ag Dj (aa 5) (fC (.int 0)))) (bj (aq (ag Dj (YR aP (ae (aa 4) ah)) (fC (.int 30)))) (eg (aq (ag Zu (ag Ze (aa 4) (fC (.int 0))) (fC (.str "0")))) (aq (ag Dx (aa 3) (fC (.str "0")))))))) (au (fC .none)) aD) (au (ax .tuple (ae (YR intD (ae (aa 3) ah)) (ae (aa 2) ah))))))):=by
  have q1':(Pv x zc (vd 1)=OG "'")=False:=by rw[q1];exact eq_false h1
  simp only[Jh,sU,sT,KF];simp[hx,q1']
 rw[start,Cb];unfold lr
 by_cases c1:fg (cd x)=[]
 .rw[if_pos (.inr (.inr (by unfold cy;rw[c1];rfl)))]
  exact⟨_,by simp[bc,Gp,p0,c1];rfl⟩
 generalize (D.signs f).filter (λd=>!gv "0123456789" d)=F at bc bl
 have pf:(F=[])=(ir (fg (cd x))=xV):=by
  cases F with
  |nil=>
   have:ir (fg (cd x))=xV:=by simpa using bl
   simp[this]
  |cons a r=>
   have:ir (fg (cd x))=zd:=by
    have z:(0:Int)<((a::r).length:Int):=by simp
    rw[decide_eq_true z] at bl;simpa using bl.symm
   simp[this]
 have pc:(0<(F.length:Int))=(ir (fg (cd x))=zd):=by
  cases F with
  |nil=>simp at pf;simp[pf]
  |cons a r=>simp at pf;simp[pf]
 have pd:(0<F.length)=(ir (fg (cd x))=zd):=by rw[←pc];exact propext (by lia)
 by_cases c2:ir (fg (cd x))=zd
 .rw[if_pos (.inr (.inr (by unfold cy;rw[show (fg (cd x)).all (λc=>decide (c∈cd Bu))=zd from c2,W6,W3])))]
  exact⟨_,by simp[bc,Gp,p0,c1,pf,pc,pd,c2];rfl⟩
 have Ci:ir (fg (cd x))=xV:=by simpa using c2
 by_cases c3:30<(fg (cd x)).length
 .rw[if_pos (.inr (.inl c3))]
  have CM:(30:Int)<(f.length:Int):=by lia
  exact⟨_,by simp[bc,Gp,p0,c1,pf,pc,pd,Ci,CM];rfl⟩
 have CM:¬(30:Int)<(f.length:Int):=by lia
 obtain⟨a0,r0,h0⟩:∃a0 r0,fg (cd x)=a0::r0:=by
  cases hz:fg (cd x) with
  |nil=>exact absurd hz c1
  |cons a r=>exact⟨a,r,rfl⟩
 have i0:Zd f.cps.toList 0=vd a0:=(pV (x:=f) (b:=0) (a:=a0) (r:=r0) (by rw[hf,h0];rfl)).1
 have p4:((⟨#[a0]⟩:Str)=OG "0")=(a0=48):=by
  have:cd "0"=[48]:=by decide +kernel
  refine propext ⟨λz=>?_,λz=>cI ?_⟩
  .rw[←z] at this
   have e:[a0]=[48]:=this;injection e
  .rw[z,this]
   rfl
 by_cases c4:a0=48/\cd x≠[48]
 .have FG:cd x=[45,48]\/30<(fg (cd x)).length\/cy (fg (cd x))=zd:=by
   by_cases hr:r0=[]
   .left
    have e:fg (cd x)=[48]:=by rw[h0,hr,c4.1]
    unfold fg at e;split at e
    .rename_i hm
     rw[head_cons hm,e]
    .exact absurd e c4.2
   .right;right
    unfold cy;rw[h0,c4.1];simp[hr]
  rw[if_pos FG];exact⟨_,by simp[bc,Gp,p0,c1,pf,pc,pd,Ci,CM,i0,p4,c4.1,p1,c4.2];rfl⟩
 have K7:cy (fg (cd x))=xV:=by
  unfold cy;rw[show (fg (cd x)).all (λc=>decide (c∈cd Bu))=xV from Ci,h0];simp
  by_cases ha:a0=48
  .left
   have e:cd x=[48]:=R1 λz=>c4 ⟨ha,z⟩;rw[e] at h0;have e2:[48]=a0::r0:=h0;cases e2;exact⟨rfl,rfl⟩
  .exact .inr ha
 have FQ:¬(cd x=[45,48]):=λz=>by
  rw[z] at h0;have e2:[48]=a0::r0:=h0;cases e2;exact c4 ⟨rfl,by rw[z];decide⟩
 rw[if_neg λz=>z.elim FQ λq=>q.elim c3 λq=>by rw[K7] at q;cases q];obtain⟨ad,ne⟩:=rm K7
 have xl:x.length<=640:=by
  rw[←hl]
  have:(cd x).length<=(fg (cd x)).length+1:=by
   unfold fg;split
   .rw[SK];lia
   .lia
  lia
 have it:intText? x=vd (if (cd x).head? = vd 45 then -((PP (cd x).tail:Nat):Int) else ((PP (cd x):Nat):Int)):=by
  by_cases hm:(cd x).head? = vd 45
  .have Jj:fg (cd x)=(cd x).tail:=by unfold fg;rw[if_pos hm]
   rw[Jj] at ad ne;rw[if_pos hm];exact intText_neg (head_cons hm) ad ne (by lia)
  .have Jj:fg (cd x)=cd x:=by unfold fg;rw[if_neg hm]
   rw[Jj] at ad ne;rw[if_neg hm];exact intText_digits ad ne (by lia)
 by_cases ha:a0=48
 .have e:cd x=[48]:=R1 λz=>c4 ⟨ha,z⟩
  exact⟨_,by simp[bc,Gp,p0,c1,pf,pc,pd,Ci,CM,i0,p4,ha,p1,e,xl,it];rfl⟩
 .exact⟨_,by simp[bc,Gp,p0,c1,pf,pc,pd,Ci,CM,i0,p4,ha,xl,it];rfl⟩
noncomputable def lT{x:Str}{i:Nat}:cd (Pv x zc (vd (i:Int)))=(cd x).take i:=by
 have:Pv x zc (vd (i))=Pv x (vd 0) (vd (i)):=by
  kernel_rfl
 rw[this,kr (by decide) _]<;>simp_all
def qS(hl:l <:+ cd t):(cd t).drop (t.length-l.length)=l:=by
 have:=Sl.mp hl;exact this.symm
noncomputable def znr(hl:l <:+ cd t)(T:Tp)(ht:t.length<=60000):∃ρ',BK [vd (.d (.str t)),vd (.d (.int ((t.length-l.length:Nat):Int))),zc,zc,zc,zc,zc,zc] T=vd ((.rt (bJ t.length (fj l)),ρ'),T):=by
 have ZI:t.length<=sizeLine:=OS ht (by decide);have hd:=qS hl;have hn:=hl.length_le;rw[aU] at hn;have Di:=z5 (at':=.int ((t.length-l.length:Nat):Int)) (T:=T) ZI 100000 (t.length-l.length) (by lia) (by lia);rw[hd] at Di
 have KP:cd (Pv t (vd ((t.length-l.length:Nat):Int)) (vd ((t.length-l.length+(W l).length:Nat):Int)))=W l:=by
  rw[kr (by lia) (by lia)]
  have e:((t.length-l.length+(W l).length:Nat):Int).toNat-((t.length-l.length:Nat):Int).toNat=(W l).length:=by lia
  rw[e]
  have e2:((t.length-l.length:Nat):Int).toNat=t.length-l.length:=by lia
  rw[e2,hd];exact Up.mp (Qk _) |>.symm
 have YH:=OS (Tb t (vd ((t.length-l.length:Nat):Int)) (vd ((t.length-l.length+(W l).length:Nat):Int))) ZI;obtain⟨ρ',hs⟩:=znq (t:=t) (a:=((t.length-l.length:Nat):Int)) (e:=((t.length-l.length+(W l).length:Nat):Int)) (T:=T) YH;rw[KP] at hs
 have goal:bJ t.length (fj l)=match gJ (W l) with|none=>.none|some v=>.tuple [v,.int ((t.length-l.length+(W l).length:Nat):Int)]:=by
  unfold fj;have hw:(W l).length<=l.length:=(Qk _).length_le
  cases gJ (W l) with
  |none=>rfl
  |some v=>
   show SA [v,.int ((t.length-(l.drop (W l).length).length:Nat):Int)]=_;rw[PU]
   have:t.length-(l.length-(W l).length)=t.length-l.length+(W l).length:=by lia
   rw[this]
 rw[goal];refine⟨ρ',?_⟩;refine Eq.trans ?_ hs;generalize ((t.length-l.length:Nat):Int)=A at Di ⊢;generalize ((t.length-l.length+(W l).length:Nat):Int)=B at Di ⊢;simp only[BK,sU,sT];simp[Di,ZI]
noncomputable def FD(n:Nat):FS:=(ak (ay 7 (ar (gh n) (ae (aa 0) (ae (ag az (aa 1) (fC (.int 1))) ah)))) (ak (YC (bj (aq (ag EY (aa 7) (fC .none))) (aq (ag dk (YW (aa 0) (fP (ag Ze (aa 7) (fC (.int 1)))) (fP (ag az (ag Ze (aa 7) (fC (.int 1))) (fC (.int 1))))) (ax .list (ae (fC (.str ")")) (ae (fC (.str ",")) ah)))))) (au (fC .none)) aD) (ak (eX 6 (ag Ze (aa 7) (fC (.int 0)))) (ak (ay 1 (ag Ze (aa 7) (fC (.int 1)))) (YC (aq (ag Zu (ag Ze (aa 0) (aa 1)) (fC (.str ")")))) (au (ax .tuple (ae (YR eM (ae (aa 6) ah)) (ae (ag az (aa 1) (fC (.int 1))) ah)))) aD)))))
noncomputable def zns:dk (.str p) (.list [.str ")",.str ","])=vd (.bool (!(decide (p=OG ")")||decide (p=OG ",")))):=by
 have e:dk (.str p) (.list [.str ")",.str ","])=vd (.bool (!(Z3 _ _||(Z3 _ _||false)))):=rfl;rw[e,kG,kG];simp[λs=>(eq_comm:OG s=p↔p=OG s)]
noncomputable def one_sign(h:cd (OG s)=[c]):((⟨#[a]⟩:Str)=OG s)=(a=c):=by
 refine propext ⟨λz=>?_,λz=>cI ?_⟩
 .rw[←z] at h
  have e:=h;injection e
 .rw[z,h]
  rfl
theorem z6{t:Str}{T:Tp}{n m:Nat}{dd:Int}(ht:t.length<=60000)(hv:∀l,l <:+ cd t->Zs l=dd->gh m [.d (.str t),.d (.int ((t.length-l.length:Nat):Int))] T=vd (bJ t.length (bU n l),T)) :
  ∀(k:Nat) (l:List Nat) (acc:List OF) (a:Int) (o7:Option D.W),l <:+ cd t->Zs l=dd->a+1=((t.length-l.length:Nat):Int)->l.length<k->acc.length+l.length<=60000 ->
  c9 (cN (bq (fC (.bool xV))) (FD m) k [vd (.d (.str t)),vd (.d (.int a)),zc,zc,zc,zc,vd (.loc (.list acc)),o7] T)=vd (bJ t.length (cg (bU n) k acc l),T)
 |0,l,acc,a,o7,hl,hd,ha,hk,hc=>absurd hk (P8 _)
 |k+1,l,acc,a,o7,hl,hd,ha,hk,hc=>by
  have ZI:t.length<=sizeLine:=OS ht (by decide);have CB:acc.length<sizeLine:=RK (by lia:acc.length<=60000) (by decide);have h1:=hv l hl hd;rw[←ha] at h1;unfold cN cg
  cases IR:bU n l with
  |none=>
   rw[IR] at h1;simp[FD,h1,bJ,isNone]
  |some p=>
   obtain⟨v,r⟩:=p;have hr:=(nU n l v r IR);have hb:=yE n l v r IR;have C8:=hr.trans hl;have hrl:=hr.length_le;have Ey:=hl.length_le;rw[aU] at Ey;have s1:=h7 (c:=41) C8 (y:=OG ")") (by decide +kernel);have s2:=h7 (c:=44) C8 (y:=OG ",") (by decide +kernel);have n2:=zns (p:=Pv t (vd ((t.length-r.length:Nat):Int)) (vd (((t.length-r.length:Nat):Int)+1)));rw[IR] at h1
   have step:∀c,r.head? = vd c->(((t.length-r.length:Nat):Int)+1)=((t.length-r.tail.length:Nat):Int):=λc hc=>by
    have:=iC hc
    lia
   have ix:∀c,r.head? = vd c->Zd t.cps.toList ((t.length-r.length:Nat):Int)=vd c:=λc hc=>by
    exact(pV (r:=r.tail) (by rw[qS C8];exact head_cons hc)).1
   have p1:=one_sign (a:=41) (c:=41) (s:=")") (by decide +kernel);have p2:=one_sign (a:=44) (c:=41) (s:=")") (by decide +kernel);dsimp only
   by_cases c1:r.head? = vd 41
   .have e1:=step _ c1
    have i1:=ix _ c1;rw[if_pos c1]
    have goal:bJ t.length (vd (SA (acc++[v]),r.tail))=.tuple [.tuple (acc++[v]),.int (((t.length-r.length:Nat):Int)+1)]:=by
     rw[e1];rfl
    rw[goal];simp[FD,h1,bJ,isNone,gf,gc,CB,ZI,s1,s2,n2,c1,i1,p1]
   .rw[if_neg c1]
    by_cases c2:r.head? = vd 44
    .have e1:=step _ c2
     have e2:=iC c2;have i1:=ix _ c2;have d2:=congrArg Zs (head_cons c2);rw[vK] at d2;have ih:=z6 ht hv k r.tail (acc++[v]) ((t.length-r.length:Nat):Int) (vd (.d (.tuple [v,.int ((t.length-r.length:Nat):Int)]))) ((PQ _).trans C8) (by lia) e1 (by lia) (by simp;lia);rw[if_pos c2,←ih];simp[FD,h1,bJ,isNone,gf,gc,CB,ZI,s1,s2,n2,c1,c2,i1,p2]
    .rw[if_neg c2]
     simp[FD,h1,bJ,isNone,gf,gc,CB,ZI,s1,s2,n2,c1,c2]
theorem vU(ht:t.length<=60000):∀(n k:Nat),n<k->∀l,l <:+ cd t->Zs l=Zs (cd t)+n-4->gh k [.d (.str t),.d (.int ((t.length-l.length:Nat):Int))] T=vd (bJ t.length (bU n l),T)
 |n,0,h,_,_,_=>absurd h (by lia)
 |n,k+1,h,l,hl,hd=>by
  have ZI:t.length<=sizeLine:=OS ht (by decide);have s1:=h7 (c:=40) hl (y:=OG "(") (rfl);obtain⟨ρ',sg⟩:=znr hl T ht;have Ey:=hl.length_le;rw[aU] at Ey;have ms:gh (k+1)=aL 8 (ak (YC (aq (ag Dx (YW (aa 0) (fP (aa 1)) (fP (ag az (aa 1) (fC (.int 1))))) (fC (.str "(")))) BK aD) (ak (YC (aq (ag Dj (ag bo (ag jV (YW (aa 0) aS (fP (aa 1))) (fC (.str "("))) (ag jV (YW (aa 0) aS (fP (aa 1))) (fC (.str ")")))) (fC (.int 3)))) (au (fC .none)) aD) (ak (fU 6 ah) (ak (YC (aq (ag Zu (YW (aa 0) (fP (ag az (aa 1) (fC (.int 1)))) (fP (ag az (aa 1) (fC (.int 2))))) (fC (.str ")")))) (au (ax .tuple (ae (ax .tuple ah) (ae (ag az (aa 1) (fC (.int 2))) ah)))) aD) (cN (bq (fC (.bool xV))) (FD k) 100000))))):=rfl;rw[ms]
  by_cases c1:l.head? = vd 40
  .have tk:Zs ((cd t).take (t.length-l.length))=4-(n:Int):=by
    have:=yp ((cd t).take (t.length-l.length)) ((cd t).drop (t.length-l.length));rw[List.take_append_drop,qS hl] at this
    lia
   have o1:OG "("=⟨#[40]⟩:=cI (by decide +kernel);have o2:OG ")"=⟨#[41]⟩:=cI (by decide +kernel)
   have B9:(Vi (Pv t zc (vd ((t.length-l.length:Nat):Int))) "(" : Int)=cnt 40 ((cd t).take (t.length-l.length)):=by
    rw[o1,count_cnt,←lT];rfl
   have BJ:(Vi (Pv t zc (vd ((t.length-l.length:Nat):Int))) ")" : Int)=cnt 41 ((cd t).take (t.length-l.length)):=by
    rw[o2,count_cnt,←lT];rfl
   have tl:=iC c1
   have e1:(((t.length-l.length:Nat):Int)+1)=((t.length-l.tail.length:Nat):Int):=by lia
   have s2:=h7 (c:=41) ((PQ l).trans hl) (y:=OG ")") (by decide +kernel)
   have e2:(((t.length-l.tail.length:Nat):Int)+1)=((t.length-l.length:Nat):Int)+2:=by lia
   rw[e2,←e1] at s2
   cases n with
   |zero=>
    have g3:(3:Int)<cnt 40 ((cd t).take (t.length-l.length))-cnt 41 ((cd t).take (t.length-l.length)):=by
     unfold Zs at tk
     lia
    unfold bU;simp[ZI,s1,c1,B9,BJ,g3,bJ]
   |succ n=>
    have g3:¬(3:Int)<cnt 40 ((cd t).take (t.length-l.length))-cnt 41 ((cd t).take (t.length-l.length)):=by
     unfold Zs at tk
     lia
    have d1:=congrArg Zs (head_cons c1);rw[wL] at d1;unfold bU;rw[if_pos c1]
    by_cases c2:l.tail.head? = vd 41
    .rw[if_pos c2]
     have tl2:=iC c2
     have goal:bJ t.length (vd (SA [],l.tail.tail))=.tuple [.tuple [],.int (((t.length-l.length:Nat):Int)+2)]:=by
      have e:(((t.length-l.length:Nat):Int)+2)=((t.length-l.tail.tail.length:Nat):Int):=by lia
      rw[e];rfl
     rw[goal];simp[ZI,s1,c1,B9,BJ,g3,s2,c2]
    .rw[if_neg c2]
     have lp:=z6 (T:=T) (n:=n) (m:=k) (dd:=Zs l.tail) ht (λl' hl' Ef=>vU ht n k (by lia) l' hl' (by lia)) 100000 l.tail [] ((t.length-l.length:Nat):Int) zc ((PQ l).trans hl) rfl e1 (by lia) (by simp;lia);rw[←lp]
     have c3:¬l[1]? = vd 41:=by simpa using c2
     simp[ZI,s1,c1,B9,BJ,g3,s2,c3]
  .have:bU n l=fj l:=by
    cases n <;> (unfold bU;rw[if_neg c1])
   rw[this];simp[ZI,s1,c1,sg]
noncomputable def wa(hl:l.length<=2000)(hc:∀c∈l,c<128)(h:fj l=vd (v,r)):Sm v:=by
 obtain⟨v',h1,h2⟩:=OT.mp h;cases h2;have hw:W l <+: l:=Qk _;unfold gJ at h1;split at h1
 .injection h1 with h1
  subst h1;refine Sm.mkS ?_ λc Il=>?_
  .rw[cz,SK]<;>grind
  .exact hc c (hw.subset (Vb Il))
 .obtain⟨i,_,rfl⟩:=OT.mp h1
  simp[Sm,IY]
theorem xo:∀(n:Nat) (l:List Nat) (v:OF) (r:List Nat),l.length<=2000->(∀c∈l,c<128)->bU n l=vd (v,r)->Sm v
 |0,l,v,r,hl,hc,e=>by
  unfold bU at e;split at e
  .cases e
  .exact wa hl hc e
 |n+1,l,v,r,hl,hc,e=>by
  unfold bU at e;split at e
  .split at e
   .cases e
    exact Sm.tup λd hd=>by cases hd
   .have s2:=PQ l
    exact rV (nU n) (λl v r=>xo n l v r) _ _ _ _ _ (OS s2.length_le hl) (λc Il=>hc c (s2.subset Il)) (λd hd=>by cases hd) e
  .exact wa hl hc e
noncomputable def filter_all{α:Type}(p:α->Bool)(l:List α):decide ((l.filter p).length=l.length)=l.all p:=by rw[Qt,decide_eq_true_eq,Pd,List.length_filter_eq_length_iff]
noncomputable def um:bI (aq (ag inD (aa 0) (fC (.str y)))) (aa 0) ρ (D.signs x) T=vd ((D.signs x).filter (gv y),T):=qf λd hd=>by
 obtain⟨c',_,rfl⟩:=qz hd;simp[gv]
def znt(x:Str):(D.signs x).length=x.length:=by simp[D.signs];rfl
noncomputable def va(y x:Str):decide ((((D.signs x).filter (gv y)).length:Int)=(x.length:Int))=has y x:=by rw[←qA,←filter_all,znt]<;>grind
theorem zQ:∀(n k:Nat) (d:OF) (T:Tp) (a:Int),Sm d->n<k->a+n=4->eI k [.d d,.d (.int a)] T=vd (.int (Io n d),T)
 |n,0,d,T,a,_,hk,_=>absurd hk (P8 _)
 |n,k+1,d,T,a,hg,hk,ha=>by
  cases d with
  |none=>cases n <;> rfl
  |bool b=>cases n <;> rfl
  |int i=>
   have e:Io n (.int i)=if decide ((if i<0 then -i else i)<=10^18)=xV then 1 else 100:=by cases n <;> rfl
   by_cases hi:(if i<0 then -i else i)<=(10:Int)^18
   .rw[e,decide_eq_true hi]
    have Kj:(if i<0 then -i else i)<=1000000000000000000:=hi;simp[eI,cC,isNone,Kj]
   .rw[e,decide_eq_false hi]
    have Kj:¬(if i<0 then -i else i)<=1000000000000000000:=hi;simp[eI,cC,isNone,Kj]
  |str x=>
   have hz:x.length<=sizeLine:=OS hg.str (by decide)
   have e:Io n (.str x)=if (decide (x.length<=20)&&has Z6 x)=xV then 1 else 100:=by cases n <;> rfl
   have hc:=λρ=>um (y:=Z6) (x:=x) (T:=T) (ρ:=ρ);have hd:=va Z6 x;generalize (D.signs x).filter (gv Z6)=F at hc hd;unfold Z6 at hc
   by_cases h2:x.length<=20
   .have JF:(x.length:Int)<=20:=by lia
    simp only[eI,pM,nL,nN];simp[cC,isNone,hz,e,h2,JF,hc];rw[←hd];simp
    split <;> rfl
   .have JF:¬(x.length:Int)<=20:=by lia
    simp[eI,cC,isNone,hz,e,h2,JF,hc]
  |list ds=>cases n <;> rfl
  |dict ds=>cases n <;> rfl
  |tuple ds=>
   cases n with
   |zero=>
    have CB:(3:Int)<a:=by lia
    have e:Io 0 (.tuple ds)=100:=rfl
    by_cases h8:(8:Int)<(ds.length:Int)
    .simp[eI,cC,isNone,e,CB,h8]
    .simp[eI,cC,isNone,e,CB,h8]
   |succ n=>
    have CB:¬(3:Int)<a:=by lia
    have e:Io (n+1) (.tuple ds)=if ds.length>8 then 100 else 1+(ds.map (Io n)).sum:=rfl
    by_cases h8:ds.length>8
    .have Dr:(8:Int)<(ds.length:Int):=by lia
     simp[eI,cC,isNone,e,h8,Dr]
    .have Dr:¬(8:Int)<(ds.length:Int):=by lia
     have hc:bI bB (ar (eI k) (ae (aa 0) (ae (ag az (aa 2) (fC (.int 1))) ah))) [vd (.d (.tuple ds)),vd (.d (.int a)),zc] ds T=vd (ds.map λx=>.int (Io n x),T):=gr λx hx=>by
      have:=zQ n k x T (a+1) (hg.part hx) (by lia) (by lia);simp[this]
     simp[eI,cC,isNone,e,h8,Dr,CB,hc]
noncomputable def znu(T:Tp)(h:x.length<=2000)(hc:∀c∈cd x,c<128):kb [.d (.str x)] T=vd (.bool (cY (cd x)).isSome,T):=by
 have hz:x.length<=sizeLine:=OS h (by decide);have e:=vU  (T:=T) (OS h (by simp)) 4 25 (by simp) (cd x) (Ws _) (by lia);rw[aU,Yb] at e;have e':gh 25 [.d (.str x),.d (.int 0)] T=vd _:=e;rw[←znl];unfold sF
 cases hv:bU 4 (cd x) with
 |none=>
  rw[hv] at e';simp[kb,e',bJ,fm,isNone]
 |some q=>
  obtain⟨v,r⟩:=q;have hs:=(nU 4 _ _ _ hv).length_le;rw[aU] at hs;have sm:=xo 4 _ _ _ (by exact h) hc hv;have sz:=zQ 4 25 v T 0 sm (by simp) (rfl);have szv:=K1.zeg v;rw[hv] at e'
  cases r with
  |nil=>
   have e2:gh 25 [.d (.str x),.d (.int 0)] T=vd (.tuple [v,.int _],T):=e';dsimp only;rw[←szv];simp[kb,e2,fm,isNone,gf,gc,hz,sz]
  |cons a r=>
   rw[Po] at hs;have e2:gh 25 [.d (.str x),.d (.int 0)] T=vd (.tuple [v,.int _],T):=e'
   have ne:¬((x.length-(r.length+1):Nat):Int)=(x.length:Int):=by lia
   simp[kb,e2,fm,gf,gc,hz,ne]
noncomputable def znv(T:Tp)(hz:x.length<=OO):kc [.d (.str x)] T=vd (.bool (isName (.str x)),T):=by
 have hc:=λρ=>um (y:=HY) (x:=x) (T:=T) (ρ:=ρ);have hd:=va HY x;have e:isName (.str x)=(decide _&&decide _&&has HY x):=rfl;rw[e,←hd];generalize (D.signs x).filter _=F at hc ⊢;unfold HY at hc
 by_cases l1:1<=x.length
 .have Jz:(1:Int)<=(x.length):=by lia
  by_cases l8:x.length<=8
  .have JR:(x.length:Int)<=8:=by lia
   simp[kc,iN,hz,l1,Jz,l8,JR,hc]
  .have JR:¬(x.length:Int)<=8:=by lia
   simp[kc,iN,hz,Jz,l8,JR]
 .have Jz:¬(1)<=(x.length:Int):=by lia
  simp[kc,iN,hz,l1,Jz]
structure WB(w:Str):Prop where
 len:w.length<=2000
 lo:∀c∈cd w,c<128
noncomputable def znw(T:Tp)(h:WB w):fh [.d (.str "stamp"),.d (.str w),.d (.int 0)] T=vd (.bool (cY (cd w)).isSome,T):=by
 have e:=znu T h.len h.lo;simp[fh,e]
noncomputable def znx(T:Tp)(h:WB w):fh [.d (.str "name"),.d (.str w),.d (.int 0)] T=vd (.bool (isName (.str w)),T):=by
 have e:=znv  T (OS h.len (by decide));simp[fh,e]
noncomputable def Eg:FS:=(YC (bj (aq (ag Zu (aa 4) (fC (.str "recipe")))) (aq (ag Zu (aa 4) (fC (.str "expr"))))) (ak (ay 7 (ar dZ (ae (aa 4) (ae (ag Ze (aa 0) (aa 3)) (ae (aa 5) (ae (aa 6) ah)))))) (ak (YC (bj (aq (ag EY (aa 7) (fC .none))) (bj (aq (ag Zu (aa 6) (fC (.int 20)))) (aq (ag Zu (aa 2) (fC (.int 60)))))) (au (aa 3)) aD) (ak (ay 2 (ag az (aa 2) (fC (.int 1)))) (fA 1 (aa 1) (Y8 mQ (aa 7)))))) (YC (dC (bq (ar fh (ae (aa 4) (ae (ag Ze (aa 0) (aa 3)) (ae (aa 5) ah)))))) (au (aa 3)) (YC (aq (ag Zu (aa 4) (fC (.str "n")))) (fA 1 (aa 1) (ag m8 (ax .list (ae (ax .tuple (ae (fC (.str "expr")) (ae (aa 5) (ae (aa 6) ah)))) ah)) (YR intD (ae (ag Ze (aa 0) (aa 3)) ah)))) aD)))
def GJ:FS:=(ak (YC (aq (ag Zu (YR aP (ae (aa 1) ah)) (fC (.int 0)))) (au (aa 3)) aD) (ak (lh 1 4 5 6) Eg))
noncomputable def FV:FS:=(ak (YC (aq (ag Dj (YR aP (ae (aa 1) ah)) (fC (.int 0)))) (au (YR aP (ae (aa 0) ah))) aD) (au (fC .none)))
theorem zny:jj=aL 8 (ak (fU 1 (ae (ax .tuple (ae (fC (.str "recipe")) (ae (fC (.int 0)) (ae (fC (.int 0)) ah)))) ah)) (ak (ay 2 (fC (.int 0))) (ak (dX 3 (cK (YR aP (ae (aa 0) ah))) GJ) FV))):=rfl
def lD:Wn->Prop
 |.rcp g _=>g<=12
 |.ex g _=>g<=12
 |.k g=>g<=12
 |.n g _=>g<=12
 |_=>True
noncomputable def znz{j:Nat}(h:j<9):D.intD [.str (ns j)]=vd (.int (j:Int)):=by
 have a:∀j∈PY 9,(ns j).length<=640/\To (ns j)=vd (j:Int):=by decide +kernel
 obtain⟨a1,a2⟩:=a j (Ru.mpr h)<;>simp_all
noncomputable def zM(hg:g<=12)(h:Cu w g d=vd l):l.length<=8/\∀x∈l,lD x:=by
 unfold Cu at h;split at h
 .cases h;exact⟨by decide,λx hx=>by simp at hx;subst hx;trivial⟩
 split at h
 .cases h;exact⟨WN 1 7,λx hx=>by simp at hx;subst hx;exact hg⟩
 split at h
 .cases h;exact⟨WN 1 7,λx hx=>by simp at hx;subst hx;exact hg⟩
 .obtain⟨j,hj,rfl⟩:=OT.mp h
  have:j<=2:=by
   unfold D9 at hj;split at hj
   .cases hj;decide
   .simp_all
  refine⟨by grind,λx hx=>?_⟩
  simp_all
  exact hg
noncomputable def zL(hg:g<=12)(h:Gf w g d=vd l):l.length<=8/\∀x∈l,lD x:=by
 unfold Gf at h;split at h
 .cases h
 .rename_i s j hr
  have hs:=(ol (nV hr).2).2.2;split at h
  .cases h
  .split at h
   .cases h;exact⟨by decide,λx hx=>by simp at hx;subst hx;trivial⟩
   .cases h
    refine⟨by grind,λx hx=>?_⟩
    rcases OZ.mp hx with rfl|hx
    .exact hg
    .rw[(VH.mp hx).2]
     show ZG s g<=12
     unfold ZG<;>grind
noncomputable def zoa(hx:lD x)(h:Zv w b x=vd (l,b')):l.length<=8/\∀x∈l,lD x:=by
 cases x with
 |rcp g d=>
  unfold Zv at h;dsimp only at h;split at h
  .cases h
  .obtain⟨l',h1,h2⟩:=OT.mp h
   cases h2;exact zL hx h1
 |ex g d=>
  unfold Zv at h;dsimp only at h;split at h
  .cases h
  .obtain⟨l',h1,h2⟩:=OT.mp h
   cases h2;exact zM hx h1
 |n g d=>
  unfold Zv at h;dsimp only at h;obtain⟨j,h1,h2⟩:=OT.mp h;cases h2;have:=(iE h1).1;refine⟨by grind,λx CV=>?_⟩
  simp_all
  exact hx
 |name=>
  unfold Zv at h<;>simp_all
 |stamp=>
  unfold Zv at h<;>simp_all
 |k g=>
  unfold Zv at h<;>simp_all
@[simp] theorem L5:fA i f g ρ T=Yz (f ρ T) λw1 T1=>Yz (g ρ T1) λw2 T2=>kY i ρ (view T2 w1) (view T2 w2) T2:=rfl
@[simp] theorem LP:kY i ρ (vd (.list xs)) (vd (.list ys)) T=if xs.length+ys.length<=OO then vd ((.nx,ρ.set i (vd (.loc (.list (xs++ys))))),T) else zc:=rfl
section
variable {ws:List Str}{w:Str}{i b:Nat}{xs:List OF}{T:Tp}{o7:Option D.W}
noncomputable def vW{kd:String}{g d:Nat}{l:Option (List Wn)}(hk:kd="recipe"\/kd="expr")(hi:ws[i]? = vd w)(hb:dZ [.d (.str (OG kd)),.d (.str w),.d (.int (g:Int)),.d (.int (d:Int))] T=vd (D8 l,T))(hl:∀z,l=vd z->z.length<=8)(hx:xs.length<=4000000) :
  ∃Fg,Eg [vd (.d (.list (sl ws))),vd (.loc (.list xs)),vd (.d (.int (b:Int))),vd (.d (.int (i:Int))),vd (.d (.str (OG kd))),vd (.d (.int (g:Int))),vd (.d (.int (d:Int))),o7] T =
   match (if d=20\/b=60 then zc else l.map (·,b+1)) with
   |none=>vd ((.rt (.int (i:Int)),[vd (.d (.list (sl ws))),vd (.loc (.list xs)),vd (.d (.int (b:Int))),vd (.d (.int (i:Int))),vd (.d (.str (OG kd))),vd (.d (.int (g:Int))),vd (.d (.int (d:Int))),Fg]),T)
   |some (new,b')=>vd ((.nx,[vd (.d (.list (sl ws))),vd (.loc (.list (xs++(new.map wD).reverse))),vd (.d (.int (b':Int))),vd (.d (.int (i:Int))),vd (.d (.str (OG kd))),vd (.d (.int (g:Int))),vd (.d (.int (d:Int))),Fg]),T):=by
 have ET:=mK hi
 cases l with
 |none=>
  refine⟨vd (.d .none),?_⟩
  have:(if d=20\/b=60 then zc else Rn (λx=>(x,b+1)) (zc:Option (List Wn)))=zc:=by simp
  rw[this]
  rcases hk with rfl|rfl <;> simp[Eg,ET,hb,D8,isNone]
 |some l=>
  refine⟨vd (.d (.list (l.map wD))),?_⟩;have hl:=hl l rfl
  by_cases h20:d=20
  .rw[if_pos (.inl h20)]
   have El:(d:Int)=20:=by lia
   rw[El] at hb ⊢
   rcases hk with rfl|rfl <;> simp[Eg,ET,hb,D8,isNone]
  .by_cases h60:b=60
   .rw[if_pos (.inr h60)]
    have El:¬(d:Int)=20:=by lia
    have KM:(b:Int)=60:=by lia
    rw[KM]
    rcases hk with rfl|rfl <;> simp[Eg,ET,hb,D8,isNone,El]
   .rw[if_neg (λz=>z.elim h20 h60)]
    have El:¬(d:Int)=20:=by lia
    have KM:¬(b:Int)=60:=by lia
    have hz:xs.length+l.length<=sizeLine:=OS (show _<=5000000 by lia) (by decide)
    rcases hk with rfl|rfl <;> simp[Eg,ET,hb,D8,isNone,El,KM,hz]
noncomputable def qM{kd:String}{g d:Int}{ok:Bool}(hk:kd="name"\/kd="stamp"\/kd="k")(hi:ws[i]? = vd w)(hb:fh [.d (.str (OG kd)),.d (.str w),.d (.int g)] T=vd (.bool ok,T)) :
  Eg [vd (.d (.list (sl ws))),vd (.loc (.list xs)),vd (.d (.int (b:Int))),vd (.d (.int (i:Int))),vd (.d (.str (OG kd))),vd (.d (.int g)),vd (.d (.int d)),o7] T =
   vd ((if ok then .nx else .rt (.int (i:Int)),[vd (.d (.list (sl ws))),vd (.loc (.list xs)),vd (.d (.int (b:Int))),vd (.d (.int (i:Int))),vd (.d (.str (OG kd))),vd (.d (.int g)),vd (.d (.int d)),o7]),T):=by
 have ET:=mK hi
 cases ok <;> rcases hk with rfl|rfl|rfl <;> simp[Eg,ET,hb]
noncomputable def zob{g d:Nat}(hi:ws[i]? = vd w)(hx:xs.length<=4000000) :
  Eg [vd (.d (.list (sl ws))),vd (.loc (.list xs)),vd (.d (.int (b:Int))),vd (.d (.int (i:Int))),vd (.d (.str "n")),vd (.d (.int (g:Int))),vd (.d (.int (d:Int))),o7] T =
   match Zr 9 w with
   |none=>vd ((.rt (.int (i:Int)),[vd (.d (.list (sl ws))),vd (.loc (.list xs)),vd (.d (.int (b:Int))),vd (.d (.int (i:Int))),vd (.d (.str "n")),vd (.d (.int (g:Int))),vd (.d (.int (d:Int))),o7]),T)
   |some j=>vd ((.nx,[vd (.d (.list (sl ws))),vd (.loc (.list (xs++OQ j (wD (.ex g d))))),vd (.d (.int (b:Int))),vd (.d (.int (i:Int))),vd (.d (.str "n")),vd (.d (.int (g:Int))),vd (.d (.int (d:Int))),o7]),T):=by
 have ET:=mK hi;have hb:=zng (w:=w) (g:=g) T
 cases h:Zr 9 w with
 |none=>
  rw[h] at hb;simp[Eg,ET,hb]
 |some j=>
  rw[h] at hb;obtain⟨h9,e⟩:=iE h;have e2:=znz h9;rw[←e] at e2;have hz:xs.length+j<=sizeLine:=OS (show _<=5000000 by lia) (by decide)
  have h9':(j:Int)<=8:=by lia
  simp[Eg,ET,hb,e2,m8,h9',hz,wD]
end
noncomputable def kO:Wn->OF
 |.rcp _ _=>.str "recipe"
 |.ex _ _=>.str "expr"
 |.name=>.str "name"
 |.stamp=>.str "stamp"
 |.k _=>.str "k"
 |.n _ _=>.str "n"
noncomputable def gO:Wn->OF
 |.rcp g _=>.int (g:Int)
 |.ex g _=>.int (g:Int)
 |.k g=>.int (g:Int)
 |.n g _=>.int (g:Int)
 |_=>.int 0
def dO:Wn->OF
 |.rcp _ d=>.int (d:Int)
 |.ex _ d=>.int (d:Int)
 |.n _ d=>.int (d:Int)
 |_=>.int 0
def zoc(x:Wn):wD x=.tuple [kO x,gO x,dO x]:=by cases x <;> rfl
section
variable {ws:List Str}{w:Str}{i b:Nat}{xs:List OF}{T:Tp}{o3 o4 o5 o6 o7:Option D.W}
noncomputable def zod{x:Wn}(hx:lD x)(hw:WB w)(hi:ws[i]? = vd w)(hl:xs.length<=4000000):∃Fg,Eg [vd (.d (.list (sl ws))),vd (.loc (.list xs)),vd (.d (.int (b:Int))),vd (.d (.int (i:Int))),vd (.d (kO x)),vd (.d (gO x)),vd (.d (dO x)),o7] T=match Zv w b x with
  |none=>vd ((.rt (.int (i:Int)),[vd (.d (.list (sl ws))),vd (.loc (.list xs)),vd (.d (.int (b:Int))),vd (.d (.int (i:Int))),vd (.d (kO x)),vd (.d (gO x)),vd (.d (dO x)),Fg]),T)
  |some (new,b')=>vd ((.nx,[vd (.d (.list (sl ws))),vd (.loc (.list (xs++(new.map wD).reverse))),vd (.d (.int (b':Int))),vd (.d (.int (i:Int))),vd (.d (kO x)),vd (.d (gO x)),vd (.d (dO x)),Fg]),T):=by
 cases x with
 |rcp g d=>exact vW (.inl rfl) hi (zne T hx) (λz hz=>(zL hx hz).1) hl
 |ex g d=>exact vW (.inr rfl) hi (znd T) (λz hz=>(zM hx hz).1) hl
 |n g d=>
  refine⟨o7,(zob hi hl).trans ?_⟩;unfold Zv;dsimp only
  cases Zr 9 w with
  |none=>rfl
  |some j=>
   dsimp only[UL];rw[List.map_replicate,List.reverse_replicate];rfl
 |name=>
  refine⟨o7,(qM (.inl rfl) hi (znx T hw)).trans ?_⟩;unfold Zv
  cases isName _ <;> simp[kO,gO,dO]
 |stamp=>
  refine⟨o7,(qM (.inr (.inl rfl)) hi (znw T hw)).trans ?_⟩;unfold Zv
  cases (cY (cd w)).isSome <;> simp[kO,gO,dO]
 |k g=>
  refine⟨o7,(qM (.inr (.inr rfl)) hi (znf T hx)).trans ?_⟩;unfold Zv;dsimp only
  cases (Zr g w).isSome <;> simp[kO,gO,dO]
noncomputable def zoe{xs:List OF}{a b c:OF}{ρ:Yy}{T:Tp}{p q r s:Nat}(h:ρ[p]? = vd (vd (.loc (.list (xs++[.tuple [a,b,c]]))))):lh p q r s ρ T=vd ((.nx,(((ρ.set p (vd (.loc (.list xs)))).set q (vd (.d a))).set r (vd (.d b))).set s (vd (.d c))),T):=by
 unfold lh;rw[h];unfold tB;simp
def optN:Option Nat->OF
 |none=>.none
 |some q=>.int (q:Int)
noncomputable def lA(o:Option ((Fl×Yy)×Tp)):Option (OF×Tp):=c9 (Yz o λp T1=>match p with
 |(.nx,YT)=>FV YT T1
 | (fl,YT)=>vd ((fl,YT),T1))
theorem xi(hw:∀w∈ws,WB w)(hn:ws.length<=300000):∀(n i b:Nat) (st:List Wn) (o3 o4 o5 o6 o7:Option D.W),i+n=ws.length->(∀x∈st,lD x)->st.length<=1+8*i ->
  lA (forL 3 GJ ((PY n).map λ(k:Nat)=>.int ((i+k:Nat):Int)) [vd (.d (.list (sl ws))),vd (.loc (.list (st.map wD).reverse)),vd (.d (.int (b:Int))),o3,o4,o5,o6,o7] T)=vd (optN (wr (ws.drop i) st i b),T)
 |0,i,b,st,o3,o4,o5,o6,o7,hi,CJ,hl=>by
  rw[PR (by lia)]
  have Kj:i=ws.length:=by lia
  subst Kj
  cases st with
  |nil=>simp[lA,forL,FV,wr,optN]
  |cons x st=>
   have h1:(0:Int)<(st.length:Int)+1:=by lia
   simp[lA,forL,FV,wr,optN,cE,h1]
 |n+1,i,b,st,o3,o4,o5,o6,o7,hi,CJ,hl=>by
  have Z2:i<ws.length:=by lia
  have hiw:=Qh Z2;rw[Qc Z2,List.range_succ_eq_map,PD,Qo]
  have mp:(λ(k:Nat)=>Qj ((i+k:Nat):Int)) ∘ Nat.succ=λ(k:Nat)=>Qj ((i+1+k:Nat):Int):=by
   funext k;show Qj ((i+(k+1):Nat):Int)=_
   congr 2
   lia
  rw[mp]
  cases st with
  |nil=>simp[lA,forL,GJ,wr,optN]
  |cons x st=>
   have CI:=hw _ (Uh Z2);have hx:=CJ x OU;rw[Po] at hl;obtain⟨Fg,e⟩:=zod (T:=T) (b:=b) (o7:=o7) (xs:=(st.map wD).reverse) hx CI hiw (by rw[Vq,PV];lia)
   have e0:(((x::st).map wD).reverse:List OF)=(st.map wD).reverse++[.tuple [kO x,gO x,dO x]]:=by
    rw[PD,RT,zoc]
   rw[e0]
   have hp:GJ [vd (.d (.list (sl ws))),vd (.loc (.list ((st.map wD).reverse++[.tuple [kO x,gO x,dO x]]))),vd (.d (.int (b:Int))),vd (.d (.int (i:Int))),o4,o5,o6,o7] T=Eg [vd (.d (.list (sl ws))),vd (.loc (.list (st.map wD).reverse)),vd (.d (.int (b:Int))),vd (.d (.int (i:Int))),vd (.d (kO x)),vd (.d (gO x)),vd (.d (dO x)),o7] T:=by
    have h1:¬(st.length:Int)+1=0:=by lia
    have pp:=zoe (p:=1) (q:=4) (r:=5) (s:=6) (T:=T) (xs:=(st.map wD).reverse) (a:=kO x) (b:=gO x) (c:=dO x) (ρ:=[vd (.d (.list (sl ws))),vd (.loc (.list ((st.map wD).reverse++[.tuple [kO x,gO x,dO x]]))),vd (.d (.int (b:Int))),vd (.d (.int (i:Int))),o4,o5,o6,o7]) rfl;simp[GJ,pp,h1]
   unfold forL;show lA (Yz (GJ [vd (.d (.list (sl ws))),vd (.loc (.list ((st.map wD).reverse++[.tuple [kO x,gO x,dO x]]))),vd (.d (.int (b:Int))),vd (.d (.int ((i+0:Nat):Int))),o4,o5,o6,o7] T) _)=_;rw[Nat.add_zero,hp,e,xj]
   cases hs:Zv ws[i] b x with
   |none=>simp[lA,optN]
   |some q=>
    obtain⟨new,b'⟩:=q;obtain⟨h8,hok⟩:=zoa hx hs;dsimp only[Yz];have ih:=xi hw hn n (i+1) b' (new++st) (vd (.d (.int (i:Int)))) (vd (.d (kO x))) (vd (.d (gO x))) (vd (.d (dO x))) Fg (by lia) (λy hy=>(Pq.mp hy).elim (hok y) λz=>CJ y (OP _ z)) (by rw[Pz];lia);rw[UM,List.reverse_append] at ih;exact ih
end
noncomputable def zof(hw:∀w∈ws,WB w)(hn:ws.length<=300000):jj [.d (.list (sl ws))] T=vd (optN (wr ws [.rcp 0 0] 0 0),T):=by
 have h:=xi (T:=T) hw hn ws.length 0 0 [.rcp 0 0] zc zc zc zc zc (by lia) (λx hx=>by simp at hx;subst hx;exact Ri 12) (by decide);rw[Ts] at h;have r:jM (ws.length)=xV:=decide_eq_true (by lia);rw[←h,zny];have e:((PY ws.length).map λ(k)=>Qj ((0+k:Nat)))=bA 0 ws.length:=rfl;rw[e];simp[cE,r,wD];rfl
noncomputable def ZP:List Nat->List (List Nat)
 |[]=>[[]]
 |c::r=>if c=32 then []::ZP r else match ZP r with
  |[]=>[[c]]
  |p::q=>(c::p)::q
def mx:∀l,ZP l≠[]
 |[]=>by simp[ZP]
 |c::r=>by
  unfold ZP;split
  .simp
  .split <;> simp
noncomputable def zog(a b:List Nat):ZP (a++32::b)=ZP a++ZP b:=by
 induction a with
 |nil=>simp[ZP]
 |cons c a ih=>
  rw[SM,ZP,ZP,ih];split
  .rfl
  .cases h:ZP a with
   |nil=>exact absurd h (mx a)
   |cons p q=>rfl
theorem wc:∀l,ba [32] (ZP l)=l
 |[]=>rfl
 |c::r=>by
  have ih:=wc r;unfold ZP;split
  .rename_i h
   cases h2:ZP r with
   |nil=>exact absurd h2 (mx r)
   |cons p q=>
    rw[h2] at ih
    show []++[32]++ba [32] _=_<;>simp_all
  .cases h2:ZP r with
   |nil=>exact absurd h2 (mx r)
   |cons p q=>
    rw[h2] at ih
    rw[km] at ih ⊢<;>simp_all
theorem ky:∀(l p:List Nat),p∈ZP l->∀c∈p,c∈l/\c≠32
 |[],p,hp,c,hc=>by
  simp[ZP] at hp<;>simp_all
 |x::r,p,hp,c,hc=>by
  unfold ZP at hp;split at hp
  .rcases OZ.mp hp with rfl|hp
   .cases hc
   .exact⟨OP _ (ky r p hp c hc).1,(ky r p hp c hc).2⟩
  .rename_i hx
   split at hp
   .rename_i h2
    exact absurd h2 (mx r)
   .rename_i p' q h2
    rcases OZ.mp hp with rfl|hp
    .rcases OZ.mp hc with rfl|hc
     .exact⟨OU,hx⟩
     .have:=ky r p' (by simp_all) c hc<;>simp_all
    .have:=ky r p (by simp_all) c hc<;>simp_all
theorem rL:∀l,((ZP l).map (·.length)).sum+(ZP l).length=l.length+1
 |[]=>rfl
 |c::r=>by
  have ih:=rL r
  unfold ZP<;>grind
def PB(l:List Nat):Prop:=∀p∈ZP l,p.length<=2000
def PB.app(ha:PB a)(hb:PB b):PB (a++32::b):=λp hp=>by
 rw[zog] at hp;exact(Pq.mp hp).elim (ha p) (hb p)
theorem zk{p:List Nat}:∀{ls:List (List Nat)},p∈ls->p.length<=(ls.map (·.length)).sum
 |x::r,h=>by
  rw[PD,R5]
  rcases OZ.mp h with rfl|h
  .lia
  .have:=zk h
   lia
def PB.short(h:a.length<=1999):PB a:=λp hp=>by
 have l:=rL a
 have:=zk hp<;>grind
structure Zo(x:Str):Prop where
 len:x.length<=200000
 lo:∀c∈cd x,c<128
 pb:PB (cd x)
def Ic(x:Str):List Str:=(ZP (cd x)).map mk
section
variable {x:Str}
def yR(x:Str):(Ic x).map cd=ZP (cd x):=by
 unfold Ic;rw[Qo];exact(P2 λl _=>da l).trans (Yj _)
def qL(x:Str):Py BL (Ic x)=x:=cI (by rw[iH,yR,tJ,wc])
def rG(h:w∈Ic x):cd w∈ZP (cd x):=by
 rw[←yR];exact Pu.mpr ⟨w,h,rfl⟩
def Zo.ok(h:Zo x):Eo (Ic x) where
 ne:=λz=>mx _ (Vs.mp z)
 no:=λw hw z=>(ky _ _ (rG hw) 32 z).2 rfl
 len:=by
  have l:=rL (cd x)
  have e:((Ic x).map (·.length))=(ZP (cd x)).map (·.length):=by
   unfold Ic;rw[Qo];exact P2 λl _=>cz l
  have e2:(Ic x).length=(ZP _).length:=PV ..;have:=h.len
  rw[aU] at l<;>grind
def Zo.wb(h:Zo x):∀w∈Ic x,WB w:=λw hw=>
 ⟨by exact h.pb _ (rG hw),λc hc=>h.lo c (ky _ _ (rG hw) c hc).1⟩
def wb0:WB "":=⟨by decide,λc hc=>by cases (hc)⟩
noncomputable def tm(h:∀w∈ws,WB w)(j:Nat):WB (YI ws j):=by
 unfold YI
 cases e:ws[j]? with
 |none=>exact wb0
 |some w=>exact h w (Px e)
noncomputable def zoh(T:Tp)(hz:x.length<=OO):fM [.d (.str x)] T=vd (.bool (isName (.str x)),T):=by
 have hh:=tN (y:=HY) T hz;have hh':g8 [.d _,.d (.str "abcdefghijklmnopqrstuvwxyz")] T=vd _:=hh;have e:isName (.str x)=(decide _&&decide _&&has HY x):=rfl
 by_cases l1:1<=x.length
 .have Jz:(1:Int)<=(x.length):=by lia
  by_cases l8:x.length<=8
  .have JR:(x.length:Int)<=8:=by lia
   simp[fM,iN,hz,Jz,JR,hh',e,l1,l8]
  .have JR:¬(x.length:Int)<=8:=by lia
   simp[fM,iN,hz,Jz,JR,e,l8]
 .have Jz:¬(1)<=(x.length:Int):=by lia
  simp[fM,iN,hz,Jz,e,l1]
def Zo.wd(h:Zo x):DB (Ic x) where
 v:=λj T=>zmk T (tm h.wb j).len (tm h.wb j).lo
 s:=λj v e=>(uq e).1
 n:=λj T=>zoh T (OS (tm h.wb j).len (by decide))
def Zo.split(h:Zo x):hZ (.str x) (.str " ")=vd (.list (sl (Ic x))):=by
 have s:=uE h.ok.ne h.ok.no;rw[qL] at s;have z:x.length+2<=sizeLine:=OS (show _<=300000 by have:=h.len;lia) (by decide);have b:((OG " ").length == 0)=zd:=rfl
 have e:hZ (.str x) (.str " ")=if _=zd/\x.length+2<=OO then vd _ else zc:=rfl
 rw[e,if_pos ⟨b,z⟩];show vd (U6 ((Rf x BL).map .str))=_;rw[s];rfl
def Zo.wrong(h:Zo x)(T:Tp):jj [.d (.list (sl (Ic x)))] T=vd (optN (wr (Ic x) [.rcp 0 0] 0 0),T):=zof h.wb (by
 have:=h.ok.len
 lia)
def Zo.both(h:Zo x)(C:Addr):(∃t,wr (Ic x) [.rcp 0 0] 0 0=zc/\eG C [.d (.str x)] []=vd (t,[])/\∀T,ji [.d t] T=vd (.str x,T)) \/
  ∃q:Nat,wr (Ic x) [.rcp 0 0] 0 0=vd q/\eG C [.d (.str x)] []=zc/\gm C [.d (.str x)] []=vd ((q:Int),[]):=by
 obtain⟨k1,k2⟩:=zmt  h.ok h.wd;rw[qL] at k1 k2;have e:=znc (Ic x)
 cases hr:DU _ with
 |ok t p b=>
  rw[hr] at e;obtain⟨c,r⟩:=zmw (C:=C) hr;refine .inl ⟨t,e,k1 t p b hr,λT=>?_⟩;have s:=zlw r (Pc _) T;rw[qL] at s;exact s
 |bad q=>
  rw[hr] at e;exact .inr ⟨q,e,k2 q hr⟩
end
noncomputable def top(i:Nat):Stmt:=PySem.Challenge.pw_redo_k10_texts_that_write_no_recipe.main.body.getD i (.Pass ⟨0,0,0,0⟩)
def dU(i j:Nat):Stmt:=match top i with
 |.ClassDef _ _ _ b _ _ _ _ _ _ _=>b.getD j (.Pass ⟨0,0,0,0⟩)
 |s=>s
abbrev zS:List (Str×Nat):=("is_whole",16)::("has_only",17)::("is_name",18)::("is_single",19)::("is_built",20)::("many_of",22)::("is_value",21)::("exprs_within",26)::("got_behind",33)::("stamp_of",37)::("is_figures",44)::("number_by",43)::("single_by",42)::("single_at",41)::("row_at",40)::("value_at",39)::("value_by",38)::("filling_words",50)::("expr_words",49)::("recipe_words",48)::("show_recipe",47)::("put_by",57)::("number_below",58)::("exprs_by",55)::("expr_by",54)::("name_by",56)::("recipe_by",53)::("read_recipe",52)::("_law_tape",60)::("_law_draw",61)::("_law_name",62)::("_law_text",63)::("_law_number",64)::("_law_value",65)::("_law_stamp",67)::("_law_size",68)::("_law_is_name",69)::("_law_leaf",70)::("_law_expr",71)::("_law_within",72)::("_law_many",73)::("_law_asked",74)::("_law_recipe",75)::("_law_words",76)::("_law_full",77)::("_law_chain",78)::("_law_stamped",80)::("_law_is_stamp",79)::("_law_begun",81)::("_law_good",82)::("_law_wrong",83)::("_law_turned",84)::("_law_bounds",87)::("_law_alike",66)::("_law_read",85)::("_law_right",86)::("law",88)::[]
abbrev zZ:List Str:="ValueError"::["abs","all","bool","int","isinstance","len","list","min","range","reversed","str","sum","tuple"]
abbrev zI:List (Str×Int):=[("MOST_DEEP",20),("MOST_FIGURES",19),("MOST_IN_ROW",8),("MOST_LETTERS",8),("MOST_PARTS",8),("MOST_PARTS_IN_ALL",60),("MOST_ROWS",4),("MOST_SIGNS",20),("MOST_VALUES",40),("MOST_WANTS",12)]
abbrev zT:List (Str×Str):=[("FIGURES","0123456789"),("LETTERS","abcdefghijklmnopqrstuvwxyz"),("TEXT_SIGNS","abcdefghijklmnopqrstuvwxyz0123456789-")]
structure Bi(K:Frag)(mg:Str->Option OH)(C:Addr):Prop extends Bz K mg zZ zI zT where
 k_Words:Iw K C
 m_Words:mg "Words"=vd (.ref C)
 n_Words_begun:Y7 K C "begun"
 n_Words_parted:Y7 K C "parted"
 n_Words_place:Y7 K C "place"
 d_Words____init__:Kk K C "__init__" "Words.__init__" (dU 51 0)
 d_Words__ahead:Kk K C "ahead" "Words.ahead" (dU 51 1)
 d_Words__take:Kk K C "take" "Words.take" (dU 51 2)
 d_Words__begin:Kk K C "begin" "Words.begin" (dU 51 3)
 d_Words__finish:Kk K C "finish" "Words.finish" (dU 51 4)
 gC:DL K C=xV
 t_RECIPES_WITHIN:qb K mg "RECIPES_WITHIN" [("say",0),("fail",0),("want",1),("peek",1),("when",2)]
 t_WITHIN:qb K mg "WITHIN" [("many",1),("part",2),("sum",2),("join",2),("same",2),("less",2)]
 g_FILLED:t7 K mg "FILLED" ["put","got","row"]
 g_GETTING:t7 K mg "GETTING" ["want","peek"]
abbrev nM(i:Nat):Str:=match top i with
 |.FunctionDef n ..=>n
 |_=>""
abbrev pS(i:Nat):List Str:=(bX (top i)).args.map (·.arg)
abbrev Fq{P:Pb}{w:Pp}{K:Frag}{mg:Str->Option OH}{base:Heap}{C:Addr}(_:Ev P w K mg base (Bi K mg C) top zS)(i k:Nat)(m:YG):Prop:=Fn P w K mg base (nM i) (pS i) k (Zq K (pS i).length m)
abbrev Xq{P:Pb}{w:Pp}{K:Frag}{mg:Str->Option OH}{base:Heap}{C:Addr}(_:Ev P w K mg base (Bi K mg C) top zS)(W:Addr)(i k:Nat)(m:Gj):Prop:=XO.Da P w K mg base (nM i) (pS i) k (XE.ck K (pS i).length W "at" m)
section
variable {P:Pb}{w:Pp}{K:Frag}{mg:Str->Option OH}{base:Heap}{C:Addr}(E:Ev P w K mg base (Bi K mg C) top zS)
include E
noncomputable def uf:Hd P w K mg base C ["self","text"] 1 (Zq K 2 (dI C)):=zju E.b E.b.d_Words____init__ E.b.gC ["self","text"] λB S hr=>(aA (mC B.k_Words B.n_Words_parted (af 0) (rB (af 1) ao)) (aA (mC B.k_Words B.n_Words_place (af 0) aj) (bb (mC B.k_Words B.n_Words_begun (af 0) aj))))
noncomputable def gj:ES P w K mg base C "ahead" ["self"] 1 (Zq K 1 (dw C)):=pP E.b E.b.d_Words__ahead ["self"] λB S hr=>(YS (gP (aB bG (d6 B.k_Words B.n_Words_place (af 0)) (Zw B.z (d6 B.k_Words B.n_Words_parted (af 0)))) (bS bQ (d6 B.k_Words B.n_Words_parted (af 0)) (d6 B.k_Words B.n_Words_place (af 0))) ao))
noncomputable def nu:ES P w K mg base C "take" ["self","fits"] 1 (Zq K 2 (iz C)):=pP E.b E.b.d_Words__take ["self","fits"] λB S hr=>(aA (bF (fu (bL (af 1))) (bb yn) cf) (bb (mC B.k_Words B.n_Words_place (af 0) (av aH (d6 B.k_Words B.n_Words_place (af 0)) aj))))
noncomputable def nk:ES P w K mg base C "begin" ["self","fits","above"] 2 (Zq K 3 (eZ C)):=pP E.b E.b.d_Words__begin ["self","fits","above"] λB S hr=>(aA (hV (iI (nu E) B.k_Words (hr.mono (by omega)) (af 0) (ai (cw (af 1) (cw (bw bG (af 2) (cW rfl B.i)) (cG (bw bG (d6 B.k_Words B.n_Words_begun (af 0)) (cW rfl B.i))))) aw) (aO bp))) (bb (mC B.k_Words B.n_Words_begun (af 0) (av aH (d6 B.k_Words B.n_Words_begun (af 0)) aj))))
noncomputable def zoi:ES P w K mg base C "finish" ["self"] 1 (Zq K 1 (je C)):=pP E.b E.b.d_Words__finish ["self"] λB S hr=>(bb (bF (aB bG (d6 B.k_Words B.n_Words_place (af 0)) (Zw B.z (d6 B.k_Words B.n_Words_parted (af 0)))) (bb yn) cf))
noncomputable def uQ:Fq E 16 1 nF:=aT E 16 ["thing"] λB S hr=>(YS (cw (bV .int B.z (af 0) B.z Vd) (cG (kQ (bV .bl B.z (af 0) B.z Vj)))))
noncomputable def qt:Fq E 17 1 g8:=aT E 17 ["text","signs"] λB S hr=>(YS (eJ tM rfl B.z boot_all (ai (dY (top 17) ["text","signs"] (dN (af 0)) (bw ei (af 0) (af 2))) aw)))
noncomputable def vC:Fq E 18 2 fM:=aT E 18 ["thing"] λB S hr=>(YS (cw (bV .str B.z (af 0) B.z Q0) (cw (zfb gS gS aj (Zw B.z (af 0)) (cW rfl B.i)) (cG (aV (qt E) hr (af 0) (rC rfl B.s))))))
noncomputable def zoj:Fq E 19 2 lL:=aT E 19 ["thing"] λB S hr=>(YZ (bL (bf (uQ E) hr (af 0))) (bw gS (eJ As rfl B.z boot_abs (ai (af 0) aw)) (av ib aj aj)) (YS (cw (bV .str B.z (af 0) B.z Q0) (cw (bw gS (Zw B.z (af 0)) (cW rfl B.i)) (cG (aV (qt E) hr (af 0) (rC rfl B.s)))))))
noncomputable def zok:∀n,Fq E 20 (2+n) (g7 n):=cH (cR E 20) λn ih=>aT (k:=2+n) E 20 ["thing","rows_left"] λB S hr=>(YZ (fu (bL (bV .tup B.z (af 0) B.z QE))) (bf (zoj E) hr (af 0)) (YZ (bR (bM (aB aN (af 1) aj) (cO (aB eW (Zw B.z (af 0)) (cW rfl B.i))))) dD (YS (eJ tM rfl B.z boot_all (ai (dY (top 20) ["thing","rows_left"] (dN (af 0)) (aV ih hr (af 0) (av bz (af 2) aj))) aw)))))
noncomputable def zol:∀n,Fq E 22 (0+n) (jo n):=cH (cR E 22) λn ih=>aT (k:=0+n) E 22 ["value"] λB S hr=>(YZ (fu (bL (bV .tup B.z (af 0) B.z QE))) aj (YS (av aH aj (eJ tK rfl B.z boot_sum (ai (dY (top 22) ["value"] (dN (af 0)) (bf ih hr (af 0))) aw)))))
noncomputable def zom:Fq E 21 28 lO:=aT E 21 ["thing"] λB S hr=>(YS (cw (aV (zok E 25) hr (af 0) (cW rfl B.i)) (cG (bw gS (bf (zol E 25) hr (af 0)) (cW rfl B.i)))))
noncomputable def zon:Fq E 26 1 jg:=aT E 26 ["expr"] λB S hr=>(YZ (bR (bM (aB aN (Y9 0) ao) (cO (aB aN (Y9 0) ao)))) (aY aw) (YZ (aB aN (Y9 0) ao) (cq pj rfl B.z SJ (ai (Y9 0) aw)) (YS (cq pj rfl B.z SJ (ai (bu (af 0) (bi aj) bP) aw)))))
noncomputable def uo:Fq E 33 1 kg:=aT E 33 ["word","got"] λB S hr=>(YS (gP (aB ei (af 0) (js (ss:=["want","peek"]) rfl B.g_GETTING)) (av aH (af 1) aj) (af 1)))
noncomputable def zoo:∀n,Fq E 37 (1+n) (g0 n):=cH (cR E 37) λn ih=>aT (k:=1+n) E 37 ["value"] λB S hr=>(YZ (bL (bf (uQ E) hr (af 0))) (cq jW rfl B.z Q0 (ai (af 0) aw)) (YZ (bL (bV .str B.z (af 0) B.z Q0)) (av aH ao (af 0)) (YS (av aH (av aH ao (si ao (dY (top 37) ["value"] (dN (af 0)) (bf ih hr (af 0))))) ao))))
noncomputable def zop:Fq E 44 2 iA:=aT E 44 ["text"] λB S hr=>(YZ (bR (bM (aB aN (af 0) ao) (cO (fu (bL (aV (qt E) hr (af 0) (rC rfl B.s))))))) dD (YS (pO (bw aN (af 0) ao) (cG (kQ (qJ (af 0) ao))))))
noncomputable def zoq:Fq E 43 3 lK:=aT E 43 ["word","figures"] λB S hr=>(aA (aF (i:=1) S.nd (gP (bL (qJ (af 0) ao)) (bu (af 0) (bi aj) bP) (af 0))) (YZ (bR (bM (aB aN (af 0) ao) (bM (aB eW (Zw B.z (af 1)) (cW rfl B.i)) (cO (fu (bL (bf (zop E) hr (af 1)))))))) bY (YS (cq tL rfl B.z Vd (ai (af 0) aw)))))
noncomputable def zor:Fq E 42 4 lJ:=aT E 42 ["word"] λB S hr=>(YZ (bL (qJ (af 0) ao)) (bu (af 0) (bi aj) bP) (YS (bf (zoq E) hr (af 0))))
noncomputable def zos:Fq E 41 5 kh:=aT E 41 ["text","at","behind","single"] λB S hr=>(aA (aF (i:=2) S.nd (af 1)) (aA (n8 100000 (bR (jK (aB bG (af 2) (Zw B.z (af 0))) (jy (aB oq (bS bQ (af 0) (af 2)) ao)))) (bb (aF (i:=2) S.nd (av aH (af 2) aj)))) (aA (aF (i:=3) S.nd (bf (zor E) hr (bu (af 0) (bi (af 1)) (bi (af 2))))) (YS (gP (aB ie (af 3) bY) bY (Zz (af 3) (af 2)))))))
noncomputable def zot:∀n,Fq E 40 (5+n) (lY n)/\Fq E 39 (5+n) (dM n):=cH ⟨(cR E 40),(cR E 39)⟩ λn ih=>⟨(aT (k:=5+n) E 40 ["text","at","rows_left","parts","found","sign"] λB S hr=>(YZ (aB aN (bu (af 0) (bi (af 1)) (bi (av aH (af 1) aj))) ao) (Zz (cF aw) (av aH (af 1) aj)) (aA (mj (i:=3) S.nd aw) (bb (n8 100000 (bL dD) (aA (aF (i:=4) S.nd (eE ih.2 hr (af 0) (af 1) (af 2))) (YZ (aB ie (af 4) bY) bY (aA (kP (i:=3) (by exact(Y9 4))) (aA (aF (i:=1) S.nd (av aH (Y9 4) aj)) (aA (aF (i:=5) S.nd (bu (af 0) (bi (Y9 4)) (bi (af 1)))) (YZ (aB aN (af 5) ao) (Zz (cq hW rfl B.z QE (ai (af 3) aw)) (af 1)) (bb (bF (aB j7 (af 5) ao) (YS bY) cf))))))))))))),(aT (k:=5+n) E 39 ["text","at","rows_left"] λB S hr=>(YZ (aB j7 (bu (af 0) (bi (af 1)) (bi (av aH (af 1) aj))) ao) (aV (zos E) hr (af 0) (af 1)) (YZ (aB aN (af 2) aj) bY (YS (eE ih.1 hr (af 0) (av aH (af 1) aj) (av bz (af 2) aj))))))⟩
def zou:Fq E 39 30 (dM 25):=(zot E 25).2
noncomputable def uP:Fq E 38 31 fi:=aT E 38 ["text","found"] λB S hr=>(aA (aF (i:=1) S.nd (eE (zou E) hr (af 0) aj (cW rfl B.i))) (YZ (bR (bM (aB ie (af 1) bY) (cO (aB bG (Y9 1) (Zw B.z (af 0)))))) bY (YS (gP (bL (bf (zom E) hr (Y9 1))) (Y9 1) bY))))
noncomputable def zov:Fq E 50 27 iw:=aT E 50 ["expr"] λB S hr=>(YZ (aB aN (Y9 0) ao) (aY (ai (bf (zoo E 25) hr (Y9 0)) aw)) (YZ (aB aN (Y9 0) ao) (aY (ai (cq jW rfl B.z Q0 (ai (Y9 0) aw)) aw)) (YZ (aB aN (Y9 0) ao) (aY (ai (cq jW rfl B.z Q0 (ai (Zw B.z (Y9 0)) aw)) aw)) (YS (aY aw)))))
noncomputable def zow:∀n,Fq E 49 (27+n) (gX n):=cH (cR E 49) λn ih=>aT (k:=27+n) E 49 ["expr","words","part"] λB S hr=>(aA (oz (i:=1) S.nd (aY (ai (Y9 0) aw)) (bf (zov E) hr (af 0))) (aA (gH (i:=2) S.nd (dN (bf (zon E) hr (af 0))) (bb (sX (i:=1) (by exact(bf ih hr (af 2)))))) (YS (af 1))))
noncomputable def zox:∀n,Fq E 48 (52+n) (jf n):=cH (cR E 48) λn ih=>aT (k:=52+n) E 48 ["recipe","words","part"] λB S hr=>(YZ (aB aN (Y9 0) ao) (aY (ai (Y9 0) (ai (Y9 0) aw))) (aA (oz (i:=1) S.nd (aY (ai (Y9 0) aw)) (bf (zow E 25) hr (Y9 0))) (aA (gH (i:=2) S.nd (dN (bu (af 0) (bi aj) bP)) (bb (sX (i:=1) (by exact(bf ih hr (af 2)))))) (YS (af 1)))))
def zoy:Fq E 47 78 ji:=aT E 47 ["recipe"] λB S hr=>(YS (og ao (bf (zox E 25) hr (af 0))))
noncomputable def wH:Fq E 57 32 (jq C):=aT E 57 ["words","value"] λB S hr=>(aA (aF (i:=1) S.nd (bf (uP E) hr (fN (gj E) B.k_Words (hr.mono (by omega)) (af 0)))) (aA (hV (iI (nu E) B.k_Words (hr.mono (by omega)) (af 0) (ai (bw rQ (af 1) bY) aw) (aO bp))) (YS (af 1))))
noncomputable def lG:Fq E 58 2 (fF C):=aT E 58 ["words","bound","figures","word"] λB S hr=>(aA (tH (i:=2) (top 58) ["words","bound","figures","word"] ["words","bound","figures","word"] S.nd (di rfl B.z (af 1)) (cq jW rfl B.z Q0 (ai (af 0) aw)) se) (aA (aF (i:=3) S.nd (fN (gj E) B.k_Words (hr.mono (by omega)) (af 0))) (aA (hV (iI (nu E) B.k_Words (hr.mono (by omega)) (af 0) (ai (bw ei (af 3) (af 2)) aw) (aO bp))) (YS (zgq (af 2) (af 3))))))
noncomputable def nA:∀n,Fq E 55 (32+n) (iB C n)/\Fq E 54 (32+n) (bO C n):=cH ⟨(cR E 55),(cR E 54)⟩ λn ih=>⟨(aT (k:=32+n) E 55 ["words","many","above","got"] λB S hr=>(YS (cq hW rfl B.z QE (ai (dY (top 55) ["words","many","above","got"] (di rfl B.z (af 1)) (eE ih.2 hr (af 1) (af 3) (af 4))) aw)))),(aT (k:=32+n) E 54 ["words","above","got","word"] λB S hr=>(aA (aF (i:=3) S.nd (fN (gj E) B.k_Words (hr.mono (by omega)) (af 0))) (aA (hV (iI (nk E) B.k_Words (hr.mono (by omega)) (af 0) (ai (pO (bw ei (af 3) (js (ss:=["put","got","row"]) rfl B.g_FILLED)) (cG (kR B.t_WITHIN rfl (af 3)))) (ai (af 1) aw)) (aO (aO bp)))) (YZ (aB aN (af 3) ao) (Zz (af 3) (bf (wH E) hr (af 0))) (YZ (aB aN (af 3) ao) (Zz (af 3) (aV (lG E) hr (af 0) (af 2))) (YZ (aB aN (af 3) ao) (Zz (af 3) (dG ih.1 hr (af 0) (aV (lG E) hr (af 0) (av aH (cW rfl B.i) aj)) (av aH (af 1) aj) (af 2))) (YS (av aH (cF (ai (af 3) aw)) (dG ih.1 hr (af 0) (ph B.t_WITHIN rfl (af 3)) (av aH (af 1) aj) (af 2))))))))))⟩
def vD:Fq E 54 82 (bO C 50):=(nA E 50).2
noncomputable def vB:Fq E 56 3 (jn C):=aT E 56 ["words","word"] λB S hr=>(aA (aF (i:=1) S.nd (fN (gj E) B.k_Words (hr.mono (by omega)) (af 0))) (aA (hV (iI (nu E) B.k_Words (hr.mono (by omega)) (af 0) (ai (bf (vC E) hr (af 1)) aw) (aO bp))) (YS (af 1))))
noncomputable def qh:∀n,Fq E 53 (82+n) (bK C n):=cH (cR E 53) λn ih=>aT (k:=82+n) E 53 ["words","above","got","word","expr","behind"] λB S hr=>(aA (aF (i:=3) S.nd (fN (gj E) B.k_Words (hr.mono (by omega)) (af 0))) (aA (hV (iI (nk E) B.k_Words (hr.mono (by omega)) (af 0) (ai (cw (kR B.t_RECIPES_WITHIN rfl (af 3)) (cG (kQ (cw (bw ei (af 3) (js (ss:=["want","peek"]) rfl B.g_GETTING)) (cG (bw aN (af 2) (cW rfl B.i))))))) (ai (af 1) aw)) (aO (aO bp)))) (YZ (aB aN (af 3) ao) (Zz (af 3) (bf (vB E) hr (af 0))) (aA (aF (i:=4) S.nd (eE (vD E) hr (af 0) (av aH (af 1) aj) (af 2))) (aA (aF (i:=5) S.nd (aV (uo E) hr (af 3) (af 2))) (YS (av aH (Zz (af 3) (af 4)) (cq hW rfl B.z QE (ai (dY (top 53) ["words","above","got","word","expr","behind"] (di rfl B.z (ph B.t_RECIPES_WITHIN rfl (af 3))) (eE ih hr (af 1) (av aH (af 2) aj) (af 6))) aw)))))))))
noncomputable def zoz:Fq E 52 108 (eG C):=aT E 52 ["text","words","recipe"] λB S hr=>(zgs (i:=1) (uf E) (hr.mono (by omega)) rfl B.m_Words S.nd (af 0) (aA (aF (i:=2) S.nd (eE (qh E 25) hr (af 1) aj aj)) (aA (hV (fN (zoi E) B.k_Words (hr.mono (by omega)) (af 1))) (YS (af 2)))))
noncomputable def zpa:Fn P w K mg base "_law_tape" ["_law_script"] 1 (Ft K 1 ut):=zjs E 60 ["_law_script"] λB S hr=>(bb (zhd (ai (af 0) (ai aj (ai aj aw)))))
noncomputable def bC:Fq E 61 1 aX:=aT E 61 ["_law_tape_here","_law_many_here","_law_spot","_law_cell","_law_mixed","_law_found"] λB S hr=>(aA (bF (aB aN (Y9 0) aj) (aA (aF (i:=2) S.nd (Y9 0)) (aA (sW (af 0) aj (av aH (af 2) aj)) (aA (aF (i:=3) S.nd (af 2)) (aA (bF (aB eW (Zw B.z (Y9 0)) aj) (bb (aF (i:=3) S.nd (bS bQ (Y9 0) (av iR (af 2) (Zw B.z (Y9 0)))))) cf) (aA (bF (bR (bM (aB bG (af 3) (av ib aj aj)) (cO (aB zfm (af 2) (Zw B.z (Y9 0)))))) (aA (aF (i:=4) S.nd (av iR (av iQ (av aH (av iR (af 3) aj) aj) (av aH aj (av iQ aj (av iR (af 2) aj)))) aj)) (YS (av iR (av hU (av iR (av iQ (av aH (af 4) (av iQ aj (af 2))) aj) aj) aj) (af 1)))) cf) (bb (sW (af 0) aj (af 3)))))))) cf) (aA (aF (i:=5) S.nd (av iR (Y9 0) (af 1))) (aA (sW (af 0) aj (av hU (Y9 0) (af 1))) (YS (af 5)))))
noncomputable def qi:Fq E 62 2 jm:=aT E 62 ["_law_tape_here","_law_words_here","_law_way","_law_letters"] λB S hr=>(aA (aF (i:=1) S.nd (aY (ai ao (ai ao (ai ao (ai ao (ai ao (ai ao (ai ao (ai ao (ai ao (ai ao (ai ao (ai ao (ai ao (ai ao aw)))))))))))))))) (aA (aF (i:=1) S.nd (av aH (af 1) (aY (ai ao aw)))) (aA (aF (i:=1) S.nd (av aH (af 1) (aY (ai ao (ai ao (ai ao (ai ao (ai ao (ai ao (ai ao (ai ao aw))))))))))) (aA (aF (i:=2) S.nd (aV (bC E) hr (af 0) aj)) (YZ (aB bG (af 2) aj) (bS bQ (af 1) (af 2)) (aA (aF (i:=3) S.nd ao) (YS (si ao (dY (top 62) ["_law_tape_here","_law_words_here","_law_way","_law_letters"] (di rfl B.z (av aH aj (aV (bC E) hr (af 0) aj))) (bS bQ (af 4) (aV (bC E) hr (af 1) aj)))))))))))
noncomputable def zpb:Fq E 63 3 ki:=aT E 63 ["_law_tape_here","_law_signs","_law_way"] λB S hr=>(aA (aF (i:=1) S.nd ao) (aA (aF (i:=2) S.nd (aV (bC E) hr (af 0) aj)) (YZ (aB bG (af 2) aj) (bS bQ (aY (ai ao (ai ao (ai ao aw)))) (af 2)) (YZ (aB bG (af 2) aj) (bf (qi E) hr (af 0)) (YS (si ao (dY (top 63) ["_law_tape_here","_law_signs","_law_way"] (di rfl B.z (bS bQ (aY (ai (aV (bC E) hr (af 0) aj) (ai aj aw))) (av bz (af 2) aj))) (bS bQ (af 2) (aV (bC E) hr (af 1) aj)))))))))
noncomputable def zpc:Fq E 64 2 kf:=aT E 64 ["_law_tape_here","_law_way"] λB S hr=>(aA (aF (i:=1) S.nd (aV (bC E) hr (af 0) aj)) (YZ (aB bG (af 1) aj) (bS bQ (aY (ai aj (ai aj (ai (sY aj) (ai aj (ai aj (ai aj (ai (av ib aj aj) (ai (sY (av ib aj aj)) (ai (av bz (av ib aj aj) aj) aw)))))))))) (af 1)) (YS (av iQ (av aH (av iQ (aV (bC E) hr (af 0) (av ib aj aj)) (av ib aj aj)) (aV (bC E) hr (af 0) (av ib aj aj))) (bS bQ (aY (ai aj (ai (sY aj) aw))) (aV (bC E) hr (af 0) aj))))))
noncomputable def zpd:∀n,Fq E 65 (3+n) (fG n):=cH (cR E 65) λn ih=>aT (k:=3+n) E 65 ["_law_tape_here","_law_deep","_law_room","_law_way","_law_many_here"] λB S hr=>(aA (aF (i:=3) S.nd (aV (bC E) hr (af 0) aj)) (YZ (aB bG (af 3) aj) (bf (zpc E) hr (af 0)) (YZ (bR (bM (aB bG (af 3) aj) (cO (aB aN (af 1) aj)))) (bf (zpb E) hr (af 0)) (aA (aF (i:=4) S.nd (aV (bC E) hr (af 0) (eJ pT rfl B.z Xb (ai aj (ai (af 2) aw))))) (YS (cq hW rfl B.z QE (ai (dY (top 65) ["_law_tape_here","_law_deep","_law_room","_law_way","_law_many_here"] (di rfl B.z (af 4)) (eE ih hr (af 1) (av bz (af 2) aj) (av hU (av bz (af 3) aj) (af 5)))) aw)))))))
noncomputable def zpe:∀n,Fq E 67 (0+n) (fH n):=cH (cR E 67) λn ih=>aT (k:=0+n) E 67 ["_law_value_here","_law_text_here","_law_part"] λB S hr=>(aA (bF (bL (bV .tup B.z (af 0) B.z QE)) (aA (aF (i:=1) S.nd ao) (aA (gH (i:=2) S.nd (dN (af 0)) (bb (aF (i:=1) S.nd (av aH (av aH (af 1) ao) (bf ih hr (af 2)))))) (YS (av aH (av aH ao (bu (af 1) (bi aj) bP)) ao)))) cf) (YZ (bL (bV .str B.z (af 0) B.z Q0)) (av aH ao (af 0)) (YS (cq jW rfl B.z Q0 (ai (af 0) aw)))))
noncomputable def zpf:∀n,Fq E 68 (0+n) (eI n):=cH (cR E 68) λn ih=>aT (k:=0+n) E 68 ["_law_thing","_law_around","_law_good_here"] λB S hr=>(YZ (bR (bM (bL (bV .bl B.z (af 0) B.z Vj)) (cO (aB ie (af 0) bY)))) aj (YZ (bL (bV .int B.z (af 0) B.z Vd)) (gP (aB gS (eJ As rfl B.z boot_abs (ai (af 0) aw)) (av ib aj aj)) aj aj) (aA (bF (bL (bV .str B.z (af 0) B.z Q0)) (aA (tH (i:=2) (top 68) ["_law_thing","_law_around","_law_good_here"] ["_law_thing","_law_around","_law_good_here"] S.nd (dN (af 0)) (af 0) (ym rfl (aB ei (af 0) ao))) (YS (gP (bR (jK (aB gS (Zw B.z (af 0)) aj) (jy (aB aN (Zw B.z (af 2)) (Zw B.z (af 0)))))) aj aj))) cf) (YZ (bR (bM (fu (bL (bV .tup B.z (af 0) B.z QE))) (bM (aB eW (Zw B.z (af 0)) aj) (cO (aB eW (af 1) aj))))) aj (YS (av aH aj (eJ tK rfl B.z boot_sum (ai (dY (top 68) ["_law_thing","_law_around","_law_good_here"] (dN (af 0)) (aV ih hr (af 0) (av aH (af 2) aj))) aw))))))))
noncomputable def zpg:Fq E 69 1 kc:=aT E 69 ["_law_thing"] λB S hr=>(YZ (bR (bM (fu (bL (bV .str B.z (af 0) B.z Q0))) (cO (fu (zfc gS gS aj (Zw B.z (af 0)) aj))))) dD (YS (bw aN (Zw B.z (Ao (top 69) ["_law_thing"] (dN (af 0)) (af 0) (aB ei (af 0) ao))) (Zw B.z (af 0)))))
noncomputable def zph:Fq E 70 29 kj:=aT E 70 ["_law_tape_here","_law_got"] λB S hr=>(YZ (bR (jK (aB eW (af 1) aj) (jy (aB eW (aV (bC E) hr (af 0) aj) aj)))) (Zz ao (aV (bC E) hr (af 0) (af 1))) (YS (Zz ao (eE (zpd E 25) hr (af 0) aj aj))))
noncomputable def qj:∀n,Fq E 71 (29+n) (dz n):=cH (cR E 71) λn ih=>aT (k:=29+n) E 71 ["_law_tape_here","_law_got","_law_room","_law_deep","_law_way","_law_many_here","_law_word","_law_one"] λB S hr=>(aA (aF (i:=4) S.nd (aV (bC E) hr (af 0) aj)) (YZ (bR (bM (aB bG (af 4) aj) (bM (aB bG (af 2) aj) (cO (aB bG (af 3) aj))))) (aV (zph E) hr (af 0) (af 1)) (aA (bF (aB bG (af 4) aj) (aA (aF (i:=5) S.nd (aV (bC E) hr (af 0) (eJ pT rfl B.z Xb (ai aj (ai (af 2) aw))))) (YS (Zz ao (cq hW rfl B.z QE (ai (dY (top 71) ["_law_tape_here","_law_got","_law_room","_law_deep","_law_way","_law_many_here","_law_word","_law_one"] (di rfl B.z (af 5)) (dG ih hr (af 1) (af 2) (av hU (av bz (af 3) aj) (af 6)) (av bz (af 4) aj))) aw))))) cf) (YZ (aB aN (af 4) aj) (Zz ao (dG ih hr (af 0) (af 1) (av bz (af 2) aj) (av bz (af 3) aj))) (aA (aF (i:=6) S.nd (bS bQ (aY (ai ao (ai ao (ai ao (ai ao (ai ao aw)))))) (aV (bC E) hr (af 0) aj))) (aA (aF (i:=7) S.nd (dG ih hr (af 0) (af 1) (av hU (av bz (af 2) aj) aj) (av bz (af 3) aj))) (YS (cF (ai (af 6) (ai (af 7) (ai (dG ih hr (af 0) (af 1) (av hU (av bz (af 2) aj) aj) (av bz (af 3) aj)) aw)))))))))))
noncomputable def uk:Fq E 72 1 dJ:=aT E 72 ["_law_thing"] λB S hr=>(YZ (aB ei (Y9 0) (aY (ai ao (ai ao (ai ao aw))))) (aY aw) (YZ (aB aN (Y9 0) ao) (cq pj rfl B.z SJ (ai (Y9 0) aw)) (YS (cq pj rfl B.z SJ (ai (bu (af 0) (bi aj) bP) aw)))))
noncomputable def uw:∀n,Fq E 73 (1+n) (gn n):=cH (cR E 73) λn ih=>aT (k:=1+n) E 73 ["_law_thing"] λB S hr=>(YS (av aH aj (eJ tK rfl B.z boot_sum (ai (dY (top 73) ["_law_thing"] (dN (bf (uk E) hr (af 0))) (bf ih hr (af 0))) aw))))
noncomputable def zpi:Fq E 74 55 lH:=aT E 74 ["_law_tape_here","_law_got","_law_room","_law_deep"] λB S hr=>(YZ (aB eW (aV (bC E) hr (af 0) aj) aj) (Zz ao (bf (qi E) hr (af 0))) (YS (dG (qj E 25) hr (af 0) (af 1) (eJ pT rfl B.z Xb (ai (af 2) (ai aj aw))) (af 3))))
noncomputable def zpj:∀n,Fq E 75 (55+n) (dy n):=cH (cR E 75) λn ih=>aT (k:=55+n) E 75 ["_law_tape_here","_law_got","_law_room","_law_deep","_law_way","_law_asked_here","_law_left","_law_one","_law_first"] λB S hr=>(aA (aF (i:=4) S.nd (aV (bC E) hr (af 0) aj)) (YZ (bR (bM (aB bG (af 2) aj) (bM (aB bG (af 3) aj) (cO (aB aN (af 4) aj))))) (Zz ao (bf (qi E) hr (af 0))) (YZ (bR (bM (aB bG (af 2) aj) (bM (aB bG (af 4) aj) (cO (bR (jK (aB bG (af 4) aj) (jy (aB aN (af 1) aj)))))))) (Zz ao (dG (qj E 25) hr (af 0) (af 1) (av bz (af 2) aj) (av bz (af 3) aj))) (aA (bF (aB bG (af 4) aj) (aA (aF (i:=5) S.nd (dG (zpi E) hr (af 0) (af 1) (av bz (af 2) aj) (av bz (af 3) aj))) (aA (aF (i:=6) S.nd (av bz (av bz (af 2) aj) (bf (uw E 25) hr (af 5)))) (YS (cF (ai (bS bQ (aY (ai ao (ai ao (ai ao aw)))) (aV (bC E) hr (af 0) aj)) (ai (af 5) (ai (dG ih hr (af 0) (av aH (af 1) aj) (af 6) (av bz (af 3) aj)) aw))))))) cf) (aA (aF (i:=7) S.nd (dG (qj E 25) hr (af 0) (af 1) (av hU (af 2) aj) (av bz (af 3) aj))) (aA (aF (i:=6) S.nd (av hU (av bz (av bz (af 2) aj) (bf (uw E 25) hr (af 7))) aj)) (aA (aF (i:=8) S.nd (dG ih hr (af 0) (af 1) (af 6) (av bz (af 3) aj))) (YS (cF (ai ao (ai (af 7) (ai (af 8) (ai (dG ih hr (af 0) (af 1) (af 6) (av bz (af 3) aj)) aw)))))))))))))
noncomputable def zpk:∀n,Fq E 76 (25+n) (cp n):=cH (cR E 76) λn ih=>aT (k:=25+n) E 76 ["_law_thing","_law_words_here","_law_part"] λB S hr=>(aA (mj (i:=1) S.nd (ai (Y9 0) aw)) (aA (bF (aB aN (Y9 0) ao) (bb (kP (i:=1) (by exact(bf (zpe E 25) hr (Y9 0))))) (bb (bF (bR (bM (aB aN (Y9 0) ao) (cO (aB aN (Y9 0) ao)))) (bb (kP (i:=1) (by exact(cq zK rfl B.z Q0 (ai (Y9 0) aw))))) (bb (bF (aB aN (Y9 0) ao) (bb (kP (i:=1) (by exact(cq zK rfl B.z Q0 (ai (Zw B.z (Y9 0)) aw))))) cf))))) (aA (gH (i:=2) S.nd (dN (bf (uk E) hr (af 0))) (bb (sX (i:=1) (by exact(bf ih hr (af 2)))))) (YS (af 1)))))
noncomputable def zpl:∀n,Fq E 77 (0+n) (gp n):=cH (cR E 77) λn ih=>aT (k:=0+n) E 77 ["_law_many_here","_law_parts","_law_left","_law_found","_law_k","_law_own"] λB S hr=>(YZ (aB aN (af 0) aj) (Zz ao aj) (aA (aF (i:=1) S.nd (eJ pT rfl B.z Xb (ai aj (ai (av bz (af 0) aj) aw)))) (aA (aF (i:=2) S.nd (av bz (af 0) aj)) (aA (mj (i:=3) S.nd aw) (aA (gH (i:=4) S.nd (di rfl B.z (af 1)) (aA (aF (i:=5) S.nd (av hU (af 2) (av bz (af 1) (af 4)))) (aA (kP (i:=3) (by exact(bf ih hr (af 5)))) (bb (aF (i:=2) S.nd (av bz (af 2) (af 5))))))) (YS (Zz ao (cq hW rfl B.z QE (ai (af 3) aw)))))))))
noncomputable def zpm:Fq E 78 1 gZ:=aT E 78 ["_law_deep","_law_expr_here","_law_k"] λB S hr=>(aA (aF (i:=1) S.nd (Zz ao ao)) (aA (gH (i:=2) S.nd (di rfl B.z (av bz (af 0) aj)) (bb (aF (i:=1) S.nd (Zz ao (af 1))))) (YS (af 1))))
noncomputable def zpn:∀n,Fq E 80 (0+n) (gh n):=cH (cR E 80) λn ih=>aT (k:=0+n) E 80 ["_law_word","_law_at","_law_end","_law_text_here","_law_figures","_law_bad","_law_parts","_law_found"] λB S hr=>(aA (bF (aB j7 (bu (af 0) (bi (af 1)) (bi (av aH (af 1) aj))) ao) (aA (aF (i:=2) S.nd (af 1)) (aA (n8 100000 (bR (jK (aB bG (af 2) (Zw B.z (af 0))) (jy (aB oq (bS bQ (af 0) (af 2)) ao)))) (bb (aF (i:=2) S.nd (av aH (af 2) aj)))) (aA (aF (i:=3) S.nd (bu (af 0) (bi (af 1)) (bi (af 2)))) (YZ (aB aN (bu (af 3) bP (bi aj)) ao) (Zz (bu (af 3) (bi aj) bP) (af 2)) (aA (aF (i:=4) S.nd (gP (aB aN (bu (af 3) bP (bi aj)) ao) (bu (af 3) (bi aj) bP) (af 3))) (aA (aF (i:=5) S.nd (Zw B.z (Ao (top 80) ["_law_word","_law_at","_law_end","_law_text_here","_law_figures","_law_bad","_law_parts","_law_found"] (dN (af 4)) (af 0) (aB oq (af 0) ao)))) (YZ (bR (bM (aB aN (af 4) ao) (bM (aB eW (af 5) aj) (bM (aB eW (Zw B.z (af 4)) aj) (cO (bR (jK (aB aN (Y9 4) ao) (jy (aB j7 (af 3) ao))))))))) bY (YS (Zz (cq tL rfl B.z Vd (ai (af 3) aw)) (af 2)))))))))) cf) (YZ (aB eW (av bz (vL (bu (af 0) bP (bi (af 1))) ao) (vL (bu (af 0) bP (bi (af 1))) ao)) aj) bY (aA (mj (i:=6) S.nd aw) (YZ (aB aN (bu (af 0) (bi (av aH (af 1) aj)) (bi (av aH (af 1) aj))) ao) (Zz (cF aw) (av aH (af 1) aj)) (bb (n8 100000 (bL dD) (aA (aF (i:=7) S.nd (aV ih hr (af 0) (av aH (af 1) aj))) (YZ (bR (bM (aB ie (af 7) bY) (cO (aB oq (bu (af 0) (bi (Y9 7)) (bi (av aH (Y9 7) aj))) (aY (ai ao (ai ao aw))))))) bY (aA (kP (i:=6) (by exact(Y9 7))) (aA (aF (i:=1) S.nd (Y9 7)) (bb (bF (aB aN (bS bQ (af 0) (af 1)) ao) (YS (Zz (cq hW rfl B.z QE (ai (af 6) aw)) (av aH (af 1) aj))) cf))))))))))))
noncomputable def zpo:Fq E 79 26 kb:=aT E 79 ["_law_word","_law_value_here"] λB S hr=>(aA (aF (i:=1) S.nd (aV (zpn E 25) hr (af 0) aj)) (YS (cw (bw rQ (af 1) bY) (cw (bw aN (Y9 1) (Zw B.z (af 0))) (cG (bw gS (aV (zpf E 25) hr (Y9 1) aj) aj))))))
noncomputable def zpp:Fq E 81 1 dZ:=aT E 81 ["_law_kind","_law_word","_law_got","_law_around","_law_one","_law_own","_law_more","_law_pair"] λB S hr=>(aA (aF (i:=4) S.nd (cF (ai ao (ai (af 2) (ai (av aH (af 3) aj) aw))))) (aA (bF (aB aN (af 0) ao) (aA (aF (i:=5) S.nd (cF (ai ao (ai (af 2) (ai (av aH (af 3) aj) aw))))) (aA (wJ (i:=6) S.nd (jz (aY (ai (af 4) aw)) (jz (aY (ai (cF (ai ao (ai aj (ai aj aw)))) aw)) (jz (aY (ai (af 4) (ai (af 5) (ai (af 5) aw)))) zB)))) (aA (bF (aB bG (af 2) aj) (aA (sf (i:=6) hr ao (aY (ai (af 4) (ai (cF (ai ao (ai (av aH (af 2) aj) (ai (av aH (af 3) aj) aw)))) aw)))) (bb (sf (i:=6) hr ao (zgi hr (af 6) ao)))) cf) (YS (yy hr (af 6) (af 1)))))) cf) (aA (wJ (i:=6) S.nd (jz (aY (ai (cF (ai ao (ai aj (ai aj aw)))) aw)) (jz (aY (ai (cF (ai ao (ai (af 2) (ai aj aw)))) aw)) (jz (aY (ai (cF (ai ao (ai (af 2) (ai (av aH (af 3) aj) aw)))) aw)) (jz (aY (ai (af 4) aw)) zB))))) (aA (gH (i:=7) S.nd (dN (aY (ai ao (ai ao (ai ao (ai ao (ai ao aw))))))) (bb (sf (i:=6) hr (af 7) (aY (ai (af 4) (ai (af 4) aw)))))) (YS (yy hr (af 6) (af 1)))))))
noncomputable def zpq:Fq E 82 27 fh:=aT E 82 ["_law_kind","_law_word","_law_got"] λB S hr=>(YZ (aB aN (af 0) ao) (bf (zpo E) hr (af 1)) (YZ (aB aN (af 0) ao) (bf (zpg E) hr (af 1)) (YS (bw ei (af 1) (dY (top 82) ["_law_kind","_law_word","_law_got"] (di rfl B.z (gP (aB aN (af 0) ao) (af 2) aj)) (cq jW rfl B.z Q0 (ai (af 0) aw)))))))
noncomputable def zpr:Fq E 83 28 jj:=aT E 83 ["_law_words_here","_law_wanted","_law_begun_here","_law_at","_law_kind","_law_got","_law_around","_law_more"] λB S hr=>(aA (mj (i:=1) S.nd (ai (cF (ai ao (ai aj (ai aj aw)))) aw)) (aA (aF (i:=2) S.nd aj) (aA (gH (i:=3) S.nd (di rfl B.z (Zw B.z (af 0))) (YZ (aB aN (Zw B.z (af 1)) aj) (af 3) (aA (zji (i:=1) (ja:=4) (jb:=5) (jc:=6) S.nd) (bb (bF (bR (bM (aB aN (af 4) ao) (cO (aB aN (af 4) ao)))) (aA (aF (i:=7) S.nd (dG (zpp E) hr (af 4) (bS bQ (af 0) (af 3)) (af 5) (af 6))) (YZ (bR (bM (aB ie (af 7) bY) (bM (aB aN (af 6) aj) (cO (aB aN (af 2) aj))))) (af 3) (aA (aF (i:=2) S.nd (av aH (af 2) aj)) (bb (oz (i:=1) S.nd (af 1) (zig B.z B.z (af 7))))))) (bb (bF (fu (bL (eE (zpq E) hr (af 4) (bS bQ (af 0) (af 3)) (af 5)))) (YS (af 3)) (bb (bF (aB aN (af 4) ao) (bb (oz (i:=1) S.nd (af 1) (av zjk (aY (ai (cF (ai ao (ai (af 5) (ai (af 6) aw)))) aw)) (cq tL rfl B.z Vd (ai (bS bQ (af 0) (af 3)) aw))))) cf))))))))) (YZ (aB eW (Zw B.z (af 1)) aj) (Zw B.z (af 0)) (YS bY)))))
noncomputable def ul:Fq E 84 2 ke:=aT E 84 ["_law_tape_here","_law_words_here","_law_odd","_law_at","_law_word","_law_spot","_law_sign","_law_way"] λB S hr=>(aA (aF (i:=2) S.nd (aY (ai ao (ai ao (ai ao (ai ao (ai ao (ai ao (ai ao (ai ao (ai ao (ai ao (ai ao (ai ao (ai ao aw))))))))))))))) (aA (aF (i:=2) S.nd (av aH (af 2) (aY (ai ao (ai ao aw))))) (aA (aF (i:=2) S.nd (av aH (af 2) (aY (ai ao (ai ao (ai ao (ai ao (ai ao (ai ao (ai ao (ai ao (ai ao (ai ao (ai ao (ai ao (ai ao (ai ao (ai ao (ai ao (ai ao aw)))))))))))))))))))) (aA (aF (i:=2) S.nd (av aH (af 2) (aY (ai ao aw)))) (aA (aF (i:=2) S.nd (av aH (af 2) (aY (ai ao (ai ao (ai ao (ai ao (ai (av aH ao (av iQ ao aj)) (ai ao (ai ao aw)))))))))) (aA (aF (i:=3) S.nd (aV (bC E) hr (af 0) (Zw B.z (af 1)))) (aA (aF (i:=4) S.nd (bS bQ (af 1) (af 3))) (aA (aF (i:=5) S.nd (aV (bC E) hr (af 0) (av aH (Zw B.z (af 4)) aj))) (aA (aF (i:=6) S.nd (bS bQ ao (aV (bC E) hr (af 0) aj))) (aA (aF (i:=7) S.nd (aV (bC E) hr (af 0) aj)) (YZ (aB bG (af 7) aj) (bS bQ (aY (ai (av aH (bu (af 1) bP (bi (af 3))) (bu (af 1) (bi (av aH (af 3) aj)) bP)) (ai (av aH (av aH (bu (af 1) bP (bi (af 3))) (aY (ai (af 4) aw))) (bu (af 1) (bi (af 3)) bP)) (ai (av aH (af 1) (aY (ai (af 4) aw))) (ai (bu (af 1) bP (bi (af 3))) aw))))) (af 7)) (aA (bF (aB bG (af 7) aj) (bb (aF (i:=4) S.nd (bS bQ (af 2) (aV (bC E) hr (af 0) aj)))) (bb (bF (aB aN (af 7) aj) (bb (aF (i:=4) S.nd (av aH (av aH (bu (af 4) bP (bi (af 5))) (af 6)) (bu (af 4) (bi (af 5)) bP)))) (bb (bF (aB aN (af 7) aj) (bb (aF (i:=4) S.nd (av aH (av aH (bu (af 4) bP (bi (af 5))) (af 6)) (bu (af 4) (bi (av aH (af 5) aj)) bP)))) (bb (aF (i:=4) S.nd (av aH (bu (af 4) bP (bi (af 5))) (bu (af 4) (bi (av aH (af 5) aj)) bP))))))))) (YS (av aH (av aH (bu (af 1) bP (bi (af 3))) (aY (ai (af 4) aw))) (bu (af 1) (bi (av aH (af 3) aj)) bP)))))))))))))))
noncomputable def zps:Fq E 87 26 nq:=aT E 87 ["_law_tape_here","_law_wants","_law_k"] λB S hr=>(aA (aF (i:=1) S.nd (Zz ao (Zz ao aj))) (aA (gH (i:=2) S.nd (di rfl B.z (av aH aj (aV (bC E) hr (af 0) aj))) (bb (aF (i:=1) S.nd (cF (ai (bS bQ (aY (ai ao (ai ao aw))) (aV (bC E) hr (af 0) aj)) (ai (Zz ao ao) (ai (af 1) aw))))))) (YS (aY (ai (af 1) (ai (Zz ao (bf (zpl E 25) hr (av aH aj (aV (bC E) hr (af 0) aj)))) (ai (Zz ao (bf (zpm E) hr (av aH aj (aV (bC E) hr (af 0) aj)))) aw)))))))
noncomputable def zpt:∀n,Fq E 66 (0+n) (lI n):=cH (cR E 66) λn ih=>aT (k:=0+n) E 66 ["_law_due","_law_found"] λB S hr=>(aA (bF (bR (bM (bL (bV .tup B.z (af 0) B.z QE)) (cO (bL (bV .lst B.z (af 0) B.z SJ))))) (YZ (aB j7 (bV .tup B.z (af 0) B.z QE) (bV .tup B.z (af 1) B.z QE)) dD (YZ (aB j7 (bV .lst B.z (af 0) B.z SJ) (bV .lst B.z (af 1) B.z SJ)) dD (YZ (aB j7 (Zw B.z (af 0)) (Zw B.z (af 1))) dD (YS (eJ tM rfl B.z boot_all (ai (dY (top 66) ["_law_due","_law_found"] (di rfl B.z (Zw B.z (af 0))) (aV ih hr (bS bQ (af 1) (af 0)) (bS bQ (af 2) (af 0)))) aw)))))) cf) (YZ (aB ie (af 0) bY) (bw ie (af 1) bY) (YZ (bL (bV .str B.z (af 0) B.z Q0)) (cw (bV .str B.z (af 1) B.z Q0) (cG (bw aN (af 1) (af 0)))) (YZ (bL (bV .bl B.z (af 0) B.z Vj)) (cw (bV .bl B.z (af 1) B.z Vj) (cG (bw aN (af 1) (af 0)))) (YS (cw (bV .int B.z (af 1) B.z Vd) (cw (kQ (bV .bl B.z (af 1) B.z Vj)) (cG (bw aN (af 1) (af 0))))))))))
end
noncomputable def zpu:YK ["self","at"] ["self","at"] (aK (dU 2 0)):=⟨rfl,rfl,rfl,by decide +kernel,rfl,by decide +kernel,by decide +kernel⟩
def HW:Str:=OG "word "
def F5:Str:=OG " is not as told"
noncomputable def zpv{P:Pb}{w:Pp}{K:Frag}{mg:Str->Option OH}{base:Heap}{f:Addr}{fd:Qm}{C R:Addr}{Ds:List Addr}(x:XE.XB K C R "at" Ds)(mR:mg "RedoError"=vd (.ref R))(F:Gy K "__init__" "BadWord.__init__" (dU 2 0) f fd) :
  YJ P w K mg base ZA 1 f fd ["self","at"] (XE.CD (XE.ig HW F5) C "at"):=by
 refine F.ok zpu (λvs H Q E h=>?_) (λYA A outer s H vs Q E hr h=>?_)
 .obtain⟨a,y,rfl,_⟩:=h
  rfl
 .exact⟨_,dh (mi (XE.zhg x.c x.r x.ri rfl mR x.rd x.fc (pv 0) (XE.zhs (i:=1) (z1:=HW) (z2:=F5) (pv 1)))) (kz (XE.zhj x.c x.sa x.nn (pv 0) (pv 1))),XE.zht h⟩
noncomputable def zpw{P:Pb}{w:Pp}{K:Frag}{mg:Str->Option OH}{base:Heap}{C R:Addr}{Ds:List Addr}(x:XE.XB K C R "at" Ds)(mR:mg "RedoError"=vd (.ref R))(d:Kk K C "__init__" "BadWord.__init__" (dU 2 0)):XE.ZM (XE.ig HW F5) P w K mg base C R "at" 1:=by
 obtain⟨f,oc,od,an,sl,kV,dc,pm,cd,ct,a,l,c,kp,fn⟩:=d.ex;have F:=jI (st:=dU 2 0) l c kp;exact⟨⟨f,_,_,zpv x mR F,F.binds (ps:=["self","at"]) (λ_ _ _ _ _ _ us hl=>match us,hl with | [_,_],_=>rfl),a,fn⟩,x.c,x.r,x.ri,x.kp⟩
def zpx:∀n:Nat,n<1001->HW.length+(OG (toString (n:Int))).length+F5.length<=1000:=by decide +kernel
noncomputable def zpy{n:Nat}(h:n<1001):XE.ig HW F5 (.int (n:Int)):=⟨n,rfl,by
 rw[Int.natAbs_natCast]
 by_cases z:n=0
 .subst z;decide
 .exact OY ((Wz (k:=10) z).mpr (by omega)) (by decide),OS (zpx n h) (by decide)⟩
noncomputable def x4(n:Int)(h:lim n=xV):XE.ig HW F5 (.int n):=by
 unfold lim at h;simp only[OW,decide_eq_true_eq] at h;obtain⟨k,rfl⟩:=RD h.1;exact zpy (by omega)
section
variable {P:Pb}{w:Pp}{K:Frag}{mg:Str->Option OH}{base:Heap}{C W R:Addr}(E:Ev P w K mg base (Bi K mg C) top zS)(ZS:XE.ZM (XE.ig HW F5) P w K mg base W R "at" 1)(HA:mg "BadWord"=vd (.ref W))
include E ZS HA
noncomputable def nr:XO.Cv P w K mg base C "take" ["self","fits"] 4 (XE.ck K 2 W "at" (jh C)):=sZ E.b E.b.d_Words__take ["self","fits"] λB S hr=>(XO.kN (fu (bL (af 1))) (XO.vJ ZS x4 (hr.mono (by omega)) HA (d6 B.k_Words B.n_Words_place (af 0))))
noncomputable def ui:XO.Cv P w K mg base C "begin" ["self","fits","above"] 5 (XE.ck K 3 W "at" (iy C)):=sZ E.b E.b.d_Words__begin ["self","fits","above"] λB S hr=>(XO.jr (XO.ku (nr E ZS HA) B.k_Words (hr.mono (by omega)) XO.passes (af 0) (ai (cw (af 1) (cw (bw bG (af 2) (cW rfl B.i)) (cG (bw bG (d6 B.k_Words B.n_Words_begun (af 0)) (cW rfl B.i))))) aw) (aO bp)))
noncomputable def zpz:XO.Cv P w K mg base C "finish" ["self"] 4 (XE.ck K 1 W "at" (lE C)):=sZ E.b E.b.d_Words__finish ["self"] λB S hr=>(XO.kN (aB bG (d6 B.k_Words B.n_Words_place (af 0)) (Zw B.z (d6 B.k_Words B.n_Words_parted (af 0)))) (XO.vJ ZS x4 (hr.mono (by omega)) HA (d6 B.k_Words B.n_Words_place (af 0))))
noncomputable def zqa:Xq E W 57 35 (nQ C):=jU E 57 ["words","value"] λB S hr=>(XO.dQ (aF (i:=1) S.nd (bf (uP E) hr (fN (gj E) B.k_Words (hr.mono (by omega)) (af 0)))) (XO.jr (XO.ku (nr E ZS HA) B.k_Words (hr.mono (by omega)) XO.passes (af 0) (ai (bw rQ (af 1) bY) aw) (aO bp))))
noncomputable def uh:Xq E W 58 5 (lF C):=jU E 58 ["words","bound","figures","word"] λB S hr=>(XO.dQ (tH (i:=2) (top 58) ["words","bound","figures","word"] ["words","bound","figures","word"] S.nd (di rfl B.z (af 1)) (cq jW rfl B.z Q0 (ai (af 0) aw)) se) (XO.dQ (aF (i:=3) S.nd (fN (gj E) B.k_Words (hr.mono (by omega)) (af 0))) (XO.jr (XO.ku (nr E ZS HA) B.k_Words (hr.mono (by omega)) XO.passes (af 0) (ai (bw ei (af 3) (af 2)) aw) (aO bp)))))
noncomputable def zqb:∀n,Xq E W 55 (35+n) (lN C n)/\Xq E W 54 (35+n) (cS C n):=cH ⟨(tY E 55),(tY E 54)⟩ λn ih=>⟨(jU (k:=35+n) E 55 ["words","many","above","got"] λB S hr=>(XO.jx (XO.uR hW rfl B.z QE (XO.jL (XO.wM (sc:=aK (top 55)) (N:=["words","many","above","got"]) (N':=["words","many","above","got"]) (x:="k") ⟨rfl,by decide +kernel,by decide +kernel,by decide +kernel,by decide +kernel,by decide +kernel,by decide +kernel,by decide +kernel,rfl,by decide +kernel⟩ (di rfl B.z (af 1)) (λCq sq Hq ex E'=>(eE (nA E n).2 hr (af 1) (af 3) (af 4))) (λCq sq Hq ex E' hp=>(XO.gs ih.2 (hr.mono (by omega)) rfl hp (ai (af 1) (ai (af 3) (ai (af 4) aw))) (aO (aO (aO bp)))))))))),(jU (k:=35+n) E 54 ["words","above","got","word"] λB S hr=>(XO.dQ (aF (i:=3) S.nd (fN (gj E) B.k_Words (hr.mono (by omega)) (af 0))) (XO.iO (XO.jr (XO.ku (ui E ZS HA) B.k_Words (hr.mono (by omega)) XO.passes (af 0) (ai (pO (bw ei (af 3) (js (ss:=["put","got","row"]) rfl B.g_FILLED)) (cG (kR B.t_WITHIN rfl (af 3)))) (ai (af 1) aw)) (aO (aO bp)))) (XO.dQ (hV (iI (nk E) B.k_Words (hr.mono (by omega)) (af 0) (ai (pO (bw ei (af 3) (js (ss:=["put","got","row"]) rfl B.g_FILLED)) (cG (kR B.t_WITHIN rfl (af 3)))) (ai (af 1) aw)) (aO (aO bp)))) (XO.iO (XO.kN (aB aN (af 3) ao) (XO.jx (XO.oA (XO.mE (af 3) (XO.jL (XO.gs (zqa E ZS HA) (hr.mono (by omega)) rfl XO.passes (ai (af 0) aw) (aO bp))))))) (XO.dQ (bF (aB aN (af 3) ao) (YS (Zz (af 3) (bf (wH E) hr (af 0)))) cf) (XO.iO (XO.kN (aB aN (af 3) ao) (XO.jx (XO.oA (XO.mE (af 3) (XO.jL (XO.gs (uh E ZS HA) (hr.mono (by omega)) rfl XO.passes (ai (af 0) (ai (af 2) aw)) (aO (aO bp)))))))) (XO.dQ (bF (aB aN (af 3) ao) (YS (Zz (af 3) (aV (lG E) hr (af 0) (af 2)))) cf) (XO.iO (XO.kN (aB aN (af 3) ao) (XO.jx (XO.oA (XO.mE (af 3) (XO.jL (XO.ziy (XO.ziz (nA E n).1 (hr.mono (by omega)) rfl (XO.mE (af 0) (XO.jL (XO.gs (uh E ZS HA) (hr.mono (by omega)) rfl XO.passes (ai (af 0) (ai (av aH (cW rfl B.i) aj) aw)) (aO (aO bp)))))) (XO.gs ih.1 (hr.mono (by omega)) rfl XO.passes (ai (af 0) (ai (aV (lG E) hr (af 0) (av aH (cW rfl B.i) aj)) (ai (av aH (af 1) aj) (ai (af 2) aw)))) (aO (aO (aO (aO bp))))))))))) (XO.dQ (bF (aB aN (af 3) ao) (YS (Zz (af 3) (dG (nA E n).1 hr (af 0) (aV (lG E) hr (af 0) (av aH (cW rfl B.i) aj)) (av aH (af 1) aj) (af 2)))) cf) (XO.jx (XO.wN aH (cF (ai (af 3) aw)) (XO.gs ih.1 (hr.mono (by omega)) rfl XO.passes (ai (af 0) (ai (ph B.t_WITHIN rfl (af 3)) (ai (av aH (af 1) aj) (ai (af 2) aw)))) (aO (aO (aO (aO bp)))))))))))))))))⟩
def zqc:Xq E W 54 85 (cS C 50):=(zqb E ZS HA 50).2
noncomputable def zqd:Xq E W 56 6 (nG C):=jU E 56 ["words","word"] λB S hr=>(XO.dQ (aF (i:=1) S.nd (fN (gj E) B.k_Words (hr.mono (by omega)) (af 0))) (XO.jr (XO.ku (nr E ZS HA) B.k_Words (hr.mono (by omega)) XO.passes (af 0) (ai (bf (vC E) hr (af 1)) aw) (aO bp))))
noncomputable def zqe:∀n,Xq E W 53 (85+n) (cM C n):=cH (tY E 53) λn ih=>jU (k:=85+n) E 53 ["words","above","got","word","expr","behind"] λB S hr=>(XO.dQ (aF (i:=3) S.nd (fN (gj E) B.k_Words (hr.mono (by omega)) (af 0))) (XO.iO (XO.jr (XO.ku (ui E ZS HA) B.k_Words (hr.mono (by omega)) XO.passes (af 0) (ai (cw (kR B.t_RECIPES_WITHIN rfl (af 3)) (cG (kQ (cw (bw ei (af 3) (js (ss:=["want","peek"]) rfl B.g_GETTING)) (cG (bw aN (af 2) (cW rfl B.i))))))) (ai (af 1) aw)) (aO (aO bp)))) (XO.dQ (hV (iI (nk E) B.k_Words (hr.mono (by omega)) (af 0) (ai (cw (kR B.t_RECIPES_WITHIN rfl (af 3)) (cG (kQ (cw (bw ei (af 3) (js (ss:=["want","peek"]) rfl B.g_GETTING)) (cG (bw aN (af 2) (cW rfl B.i))))))) (ai (af 1) aw)) (aO (aO bp)))) (XO.iO (XO.kN (aB aN (af 3) ao) (XO.jx (XO.oA (XO.mE (af 3) (XO.jL (XO.gs (zqd E ZS HA) (hr.mono (by omega)) rfl XO.passes (ai (af 0) aw) (aO bp))))))) (XO.dQ (bF (aB aN (af 3) ao) (YS (Zz (af 3) (bf (vB E) hr (af 0)))) cf) (XO.iO (XO.yl (i:=4) S.nd (XO.gs (zqc E ZS HA) (hr.mono (by omega)) rfl XO.passes (ai (af 0) (ai (av aH (af 1) aj) (ai (af 2) aw))) (aO (aO (aO bp))))) (XO.dQ (aF (i:=4) S.nd (eE (vD E) hr (af 0) (av aH (af 1) aj) (af 2))) (XO.dQ (aF (i:=5) S.nd (aV (uo E) hr (af 3) (af 2))) (XO.jx (XO.wN aH (Zz (af 3) (af 4)) (XO.uR hW rfl B.z QE (XO.jL (XO.wM (sc:=aK (top 53)) (N:=["words","above","got","word","expr","behind"]) (N':=["words","above","got","word","expr","behind"]) (x:="k") ⟨rfl,by decide +kernel,by decide +kernel,by decide +kernel,by decide +kernel,by decide +kernel,by decide +kernel,by decide +kernel,rfl,by decide +kernel⟩ (di rfl B.z (ph B.t_RECIPES_WITHIN rfl (af 3))) (λCq sq Hq ex E'=>(eE (qh E n) hr (af 1) (av aH (af 2) aj) (af 6))) (λCq sq Hq ex E' hp=>(XO.gs ih (hr.mono (by omega)) rfl hp (ai (af 1) (ai (av aH (af 2) aj) (ai (af 6) aw))) (aO (aO (aO bp))))))))))))))))))
noncomputable def zqf:Xq E W 52 111 (gm C):=jU E 52 ["text","words","recipe"] λB S hr=>(XO.zje (i:=1) (uf E) (hr.mono (by omega)) rfl B.m_Words S.nd (af 0) (XO.iO (XO.yl (i:=2) S.nd (XO.gs (zqe E ZS HA 25) (hr.mono (by omega)) rfl XO.passes (ai (af 1) (ai aj (ai aj aw))) (aO (aO (aO bp))))) (XO.dQ (aF (i:=2) S.nd (eE (qh E 25) hr (af 1) aj aj)) (XO.jr (XO.zja (zpz E ZS HA) B.k_Words (hr.mono (by omega)) XO.passes (af 1))))))
end
noncomputable def YL:YK ["_law_text_here","_law_told","e","_law_some"] ["_law_text_here"] (aK (top 85)):=⟨rfl,rfl,rfl,by decide +kernel,rfl,by decide +kernel,by decide +kernel⟩
def Au:List V:=[.bl xV,.bl xV,.bl zd,.bl zd,.bl zd,.bl zd,.bl zd]
def pU:List PyData:=[.bool xV,.bool xV,.bool zd,.bool zd,.bool zd,.bool zd,.bool zd]
noncomputable def zqg{K:Frag}{O:Addr->Prop}{H:Hp}:Yw K O H Au pU:=.cons (.bl _) (.cons (.bl _) (.cons (.bl _) (.cons (.bl _) (.cons (.bl _) (.cons (.bl _) (.cons (.bl _) .nil))))))
noncomputable def ny(C:Addr):YG:=aL 4 (ak (ay 1 (ax .tuple (ae (fC .none) (ae (ax .list ah) ah)))) (ak (ay 1 (ax .tuple (ae (ar (eG C) (ae (aa 0) ah)) (ae (ax .list ah) ah)))) (au (aa 1))))
noncomputable def AJ(K:Frag)(C W:Addr):Sp:=λvs H Q _=>∃(O:Addr->Prop) (x:Str) (q:Int),HC K O [] H []/\vs=[.str x]/\gm C [.d (.str x)] []=vd (q,[]) /\
 ∀p e dx l H',YB [] H H'->HC K O [] H' []->H' p=vd (.tup [.ref e,.ref l])->H' e=vd (.ext (XO.Dd e W dx))->H' dx=vd (.xd [("at",.int q)])->Rep K O H' (.ref l) (.list pU)->Q (.ref p) H'
def tR(K:Frag)(C W:Addr):Sp:=λvs H Q E=>Zq K 1 (ny C) vs H Q E\/AJ K C W vs H Q E
section
variable {P:Pb}{w:Pp}{K:Frag}{mg:Str->Option OH}{base:Heap}{f:Addr}{fd:Qm}{C W R A1 A2 A3 A4 A5:Addr}
structure Ir(K:Frag)(mg:Str->Option OH)(W R A1 A2 A3 A4 A5:Addr):Prop where
 x:XE.XB K W R "at" []
 mR:mg "RedoError"=vd (.ref R)
 mW:mg "BadWord"=vd (.ref W)
 m1:mg "BadLine"=vd (.ref A1)
 m2:mg "NoLine"=vd (.ref A2)
 m3:mg "NoName"=vd (.ref A3)
 m4:mg "NoRecipe"=vd (.ref A4)
 m5:mg "NoRow"=vd (.ref A5)
 mV:mg "ValueError"=zc
 mI:mg "isinstance"=zc
 n1:XE.EO K W A1
 n2:XE.EO K W A2
 n3:XE.EO K W A3
 n4:XE.EO K W A4
 n5:XE.EO K W A5
noncomputable def zqh(B:Bi K mg C)(F:Gy K "_law_read" "_law_read" (top 85) f fd)(D1:Fn P w K mg base "read_recipe" ["text"] 108 (Zq K 1 (eG C))):YJ P w K mg base ZA 112 f fd ["_law_text_here"] (Zq K 1 (ny C)):=BY F YL λYA A outer s H E hr=>aA (aF  YL.nd (cF (ai bY (ai (aY aw) aw)))) (aA (ziu (bb (aF  YL.nd (cF (ai (jA D1 (hr.mono (by lia)) rfl (ai (af 0) aw) (aO bp)) (ai (aY aw) aw))))) (λ_ _ z=>z)) (bb (sV (af 1))))
noncomputable def zqi(B:Bi K mg C)(c:Ir K mg W R A1 A2 A3 A4 A5)(F:Gy K "_law_read" "_law_read" (top 85) f fd)(Zk:XO.Da P w K mg base "read_recipe" ["text"] 111 (XE.ck K 1 W "at" (gm C))):YJ P w K mg base ZA 112 f fd ["_law_text_here"] (AJ K C W):=by
 refine F.ok YL (λvs H Q E h=>?_) (λYA A outer s H vs Q E hr h=>?_)
 .obtain⟨O,x,q,_,rfl,_⟩:=h
  rfl
 .obtain⟨O,x,q,hc,rfl,hx,k⟩:=h
  refine⟨_,dh (DS.pe (aF (i:=1) YL.nd (cF (ai bY (ai (aY aw) aw)))))
   (dh (XO.zjm (i:=2) (R:=R) (C:=W) (fl:="at") (XO.zjn Zk (hr.mono (by lia)) rfl (ai (af 0) aw) (aO bp)) c.x.c c.x.r rfl c.mR YL.nd
    (λe dx=>dh (gB (i:=3) YL.nd rfl (.inl rfl) (kI (br (XO.kJ (e:=e) (dx:=dx) c.x.is (pv 2) rfl c.mI rfl c.m1 c.n1.no) (br (XO.kJ (e:=e) (dx:=dx) c.x.is (pv 2) rfl c.mI rfl c.m2 c.n2.no) (br (XO.kJ (e:=e) (dx:=dx) c.x.is (pv 2) rfl c.mI rfl c.m3 c.n3.no) (br (XO.kJ (e:=e) (dx:=dx) c.x.is (pv 2) rfl c.mI rfl c.m4 c.n4.no) cu))))))
     (kz (gB (i:=1) YL.nd rfl (.inl rfl) (sL (br (pv 2) (br (mL om (mL om (kI (br (XO.kJ (e:=e) (dx:=dx) c.x.is (pv 2) rfl c.mI rfl c.mW c.x.kC) (br (XO.zjo (e:=e) (dx:=dx) c.x.is (pv 2) rfl c.mI rfl c.mV c.x.kV) cu))) (pv 3)) (kI (br (XO.kJ (e:=e) (dx:=dx) c.x.is (pv 2) rfl c.mI rfl c.m5 c.n5.no) cu))) cu)))))))
   (kz (mz (pv 1)))),?_⟩
  have rs:=XE.qX (N:=["_law_text_here","_law_told","e","_law_some"]) hc (.cons (.str x) .nil:fX K O [] H [.str x] [.d (.str x)]) rfl;refine⟨O,H,[],[],O,_,[],.nx,[vd (.d (.str x)),vd (.d (.tuple [.none,.list []])),zc,zc],[],rs,rfl,λO1 F8 H1 Y6=>?_⟩;have CV:XO.cZ (gm C) (ae (aa 0) ah) [vd (.d (.str x)),vd (.d (.tuple [.none,.list []])),zc,zc] []=vd (q,[]):=hx;refine⟨O,H,[],[],O1,_,[],q,[],Y6,CV,λdx H2 Ik hd=>⟨rfl,dx,rfl,λe he=>?_⟩⟩;have l4:F8.length=4:=Y6.len;have c2:HC K O [] H2 []:=Ik.frzH
  have ne:dx≠e:=λz=>by rw[z,he] at hd;cases hd
  have i2:(F8.set 2 (vd (.ref e)))[2]? = vd (vd (.ref e)):=OX (by lia);have e3:(upd H2 e (.ext (XO.Dd e W dx))) e=vd (.ext (XO.Dd e W dx)):=bg;have d3:(upd H2 e (.ext (XO.Dd e W dx))) dx=vd (.xd [("at",.int q)]):=(aJ ne).trans hd;have r0:XO.Iv H2 (upd H2 e (.ext (XO.Dd e W dx))):=XO.Iv.new (λ_ _ z=>z) he;generalize upd H2 e (.ext (XO.Dd e W dx))=H3 at e3 d3 r0;refine⟨i2,e3,⟨_,d3⟩,i2,e3,⟨_,d3⟩,i2,e3,⟨_,d3⟩,i2,e3,⟨_,d3⟩,(by show 4<=OO;decide),λl hl=>?_⟩
  have j2:((F8.set 2 (vd (.ref e))).set 3 (vd (.ref l)))[2]? = vd (vd (.ref e)):=by rw[OR (by decide)];exact i2
  have j3:((F8.set 2 (vd (.ref e))).set 3 (vd (.ref l)))[3]? = vd (vd (.ref l)):=OX (by rw[UQ];lia);have r1:XO.Iv H3 (upd H3 l (.lst [.bl zd,.bl zd,.bl zd,.bl zd])):=XO.Iv.new (λ_ _ z=>z) hl;have e4:=r1 e _ e3;have d4:=r1 dx _ d3;have J7:XO.Iv H2 (upd H3 l (.lst [.bl zd,.bl zd,.bl zd,.bl zd])):=r0.new hl;have k4:(upd H3 l (.lst [V.bl zd,.bl zd,.bl zd,.bl zd])) l=vd (.lst [.bl zd,.bl zd,.bl zd,.bl zd]):=bg;generalize upd H3 l (.lst [.bl zd,.bl zd,.bl zd,.bl zd])=H4 at e4 d4 J7 k4;refine⟨.ref e,j2,j2,e4,⟨_,d4⟩,j2,e4,⟨_,d4⟩,(by show 2<=OO;decide),λl2 h2=>⟨.ref l,j3,l2,l,_,_,rfl,rfl,.inl (.inl bg),.inl (.inl ((aJ (bx k4 h2)).trans k4)),(by show 6<=OO;decide),λl3 h3=>?_⟩⟩;have r5:XO.Iv H4 (upd H4 l2 (.lst [.bl xV,.bl xV])):=XO.Iv.new (λ_ _ z=>z) h2;have r6:=r5.new (o:=.lst ([V.bl xV,.bl xV]++[.bl zd,.bl zd,.bl zd,.bl zd])) h3;refine⟨j2,r6 _ _ e4,⟨_,r6 _ _ d4⟩,(by show 1<=OO;decide),λl5 h5=>⟨l3,l5,_,_,rfl,rfl,.inl (.inl ((aJ (bx bg h5)).trans bg)),.inl (.inl bg),(by show 7<=OO;decide),λl6 h6=>⟨(by show 2<=OO;decide),λp hp=>?_⟩⟩⟩;have r7:=(r6.new (o:=.lst [V.bl zd]) h5).new (o:=.lst Au) h6;have r8:=r7.new (o:=.tup [.ref e,.ref l6]) hp;have n6:H2 l6=zc:=(J7.no ((r6.new (o:=.lst [V.bl zd]) h5).no h6));refine⟨.ref p,?_,k p e dx l6 _ (Ik.same.trans (XO.Iv.same (λb o z=>r8 b o (J7 b o z)))) (XO.Iv.hc (λb o z=>r8 b o (J7 b o z)) c2) bg (r8 _ _ e4) (r8 _ _ d4) (.lst (.inl ⟨c2.fresh n6,.inl ((aJ (bx bg hp)).trans bg)⟩) zqg)⟩;rw[OR (by decide)];exact OX (by rw[UQ,UQ];lia)
noncomputable def zqj(B:Bi K mg C)(c:Ir K mg W R A1 A2 A3 A4 A5)(F:Gy K "_law_read" "_law_read" (top 85) f fd)(D1:Fn P w K mg base "read_recipe" ["text"] 108 (Zq K 1 (eG C)))(Zk:XO.Da P w K mg base "read_recipe" ["text"] 111 (XE.ck K 1 W "at" (gm C))):YJ P w K mg base ZA 112 f fd ["_law_text_here"] (tR K C W):=XO.zjq (zqh B F D1) (zqi B c F Zk) λ_ _ _ _ h=>h
variable (E:Ev P w K mg base (Bi K mg C) top zS)(ZS:XE.ZM (XE.ig HW F5) P w K mg base W R "at" 1)(c:Ir K mg W R A1 A2 A3 A4 A5)
include E ZS c
noncomputable def zqk:Fn P w K mg base "_law_read" ["_law_text_here"] 112 (tR K C W):=mY E 85 λ_ _ F=>zqj E.b c F (zoz E) (zqf E ZS c.mW)
end
open Classical in
def gY:YG:=λws T=>match ws,T with
 |[.d (.str x)],[]=>if Zo x then vd (.bool xV,[]) else zc
 |_,_=>zc
noncomputable def right_of(h:gY ws T=vd (y,T')):∃x,ws=[.d (.str x)]/\T=[]/\Zo x/\y=.bool xV/\T'=[]:=by
 unfold gY at h
 split at h<;>simp_all
def zql(h:Zo x):gY [.d (.str x)] []=vd (.bool xV,[]):=if_pos h
noncomputable def Y5:YK ["_law_text_here","_law_due","_law_found","_law_marks"] ["_law_text_here"] (aK (top 86)):=⟨rfl,rfl,rfl,by decide +kernel,rfl,by decide +kernel,by decide +kernel⟩
def B4:FS:=au (bZ (ag EB (aa 3) (ax .list ah)) (ag Zu (ar ji (ae (aa 2) ah)) (aa 0)))
noncomputable def rtA(hs:∀T,ji [.d t] T=vd (.str x,T)):B4 [vd (.d (.str x)),vd (.d .none),vd (.d t),vd (.d (.list []))] []=vd ((.rt (.bool xV),[vd (.d (.str x)),vd (.d .none),vd (.d t),vd (.d (.list []))]),[]):=by
 have e0:EB (.list []) (.list [])=vd (.bool xV):=rfl;simp[B4,hs,e0]
theorem rtM:ag EB (aa 3) (ax .list (ae (fC (.bool xV)) (ae (fC (.bool xV)) (ae (fC (.bool zd)) (ae (fC (.bool zd)) (ae (fC (.bool zd)) (ae (fC (.bool zd)) (ae (fC (.bool zd)) ah)))))))) [o0,o1,o2,vd (.d (.list pU))] []=vd (.d (.bool xV),[]) :=rfl
def zqm:lI 25 [.d (.int q),.d (.int q)] T=vd (.bool xV,T):=by simp[lI,cC,isNone]
def zqn(h:eG C [.d (.str x)] []=vd (t,[])):ny C [.d (.str x)] []=vd (.tuple [t,.list []],[]):=by simp[ny,h]
noncomputable def zqo{x:Str}(h:Zo x){o1 o2 o3:Option D.W}:ar jj (ae (ag hZ (aa 0) (fC (.str " "))) ah) [vd (.d (.str x)),o1,o2,o3] []=vd (.d (optN (wr (Ic x) [.rcp 0 0] 0 0)),[]):=by
 have a:=h.split;have b:=h.wrong [];simp[a,b]
section
variable {P:Pb}{w:Pp}{K:Frag}{mg:Str->Option OH}{base:Heap}{f:Addr}{fd:Qm}{C W R A1 A2 A3 A4 A5:Addr}
noncomputable def zqp{X:L2.Cx}{i:Nat}{n f:Str}{p1 pos:Pos}(is:XE.Gs X.K C)(hd:QK X.K C=xV)(hv:PE X (.Name n p1) (fY i))(ha:Pe X.K (.ref C) f=vd zc)(hb:autoParam (P1 (.Name n p1) f X.env (eval (.Name n p1) X.env)=eval (.Name n p1) X.env) u10) :
  PE X (.Attribute (.Name n p1) f pos) (λσ H Q=>∃e dx,XO.GF i e C dx f σ H Q):=λpins s σ H Q I ⟨e,dx,h⟩=>XO.zjp   is hd hv ha hb pins s σ H Q I h
noncomputable def zqq(B:Bi K mg C)(c:Ir K mg W R A1 A2 A3 A4 A5)(F:Gy K "_law_right" "_law_right" (top 86) f fd)(Qac:Fn P w K mg base "_law_wrong" ["_law_words_here"] 28 (Zq K 1 jj))(Qae:Fn P w K mg base "_law_read" ["_law_text_here"] 112 (tR K C W))(Qab:Fn P w K mg base "show_recipe" ["recipe"] 78 (Zq K 1 ji))(Qad:Fn P w K mg base "_law_alike" ["_law_due","_law_found"] 25 (Zq K 2 (lI 25))):YJ P w K mg base ZA 113 f fd ["_law_text_here"] (Zq K 1 gY):=by
 refine F.ok Y5 (λvs H Q E h=>?_) (λYA A outer s H vs Q E hr h=>?_)
 .obtain⟨O,ts,T,ws,y,T',hc,Zc,hl,e,q⟩:=h
  exact(QH Zc).trans hl
 .obtain⟨O,ts,T,ws,y,T',hc,Zc,hl,e,q⟩:=h
  obtain⟨x,rfl,rfl,hf,rfl,rfl⟩:=right_of e;obtain rfl:=RC.mp hc.len
  refine⟨_,dh (DS.pe (aF (i:=1) Y5.nd (jA Qac (hr.mono (by lia)) rfl (ai (rB (af 0) ao) aw) (aO bp))))
   (dh (sJ (kZ Qae (hr.mono (by lia)) rfl (br (pv 0) cu)) (zsr rfl (lV (iG (i:=2) Y5.nd rfl (.inl rfl)) (lV (iG (i:=3) Y5.nd rfl (.inl rfl)) zsq))))
   (dh (tw (DT.pe (f:=aq (ag EY (aa 1) (fC .none))) (aB ie (af 1) bY)) (kz (DS.pe (f:=B4) (sV (cw (bw (Aa hr) (af 3) (aY aw)) (cG (bw aN (jA Qab (hr.mono (by lia)) rfl (ai (af 2) aw) (aO bp)) (af 0))))))) rO)
   (kz (mz (zsp (DE.pe (bw (Aa hr) (af 3) (aY (ai dD (ai dD (ai dD (ai dD (ai dD (ai dD (ai dD aw)))))))))) (zso (kZ Qad (hr.mono (by lia)) rfl (br (DE.pe (af 1)) (br (zqp (C:=W) c.x.is c.x.hd (pv 2) c.x.nn) cu))))))))),?_⟩
  have rs:=XE.qX (N:=["_law_text_here","_law_due","_law_found","_law_marks"]) hc Zc rfl;refine⟨O,H,[],[],O,_,[],.nx,[vd (.d (.str x)),vd (.d (optN (wr (Ic x) [.rcp 0 0] 0 0))),zc,zc],[],rs,?_,λO1 F8 H1 Y6=>?_⟩
  .have a:=zqo hf (o1:=zc) (o2:=zc) (o3:=zc)
   show Yz (ar jj _ _ _) _=_;exact(congrArg (λz=>Yz z _) a).trans rfl
  obtain⟨v0,Jg,r0⟩:=Y6.re 0 (.d (.str x)) rfl;cases (show Rep K O1 H1 v0 (.str x) from r0)
  rcases hf.both C with⟨t,hw,hm,hs⟩|⟨q0,hw,hm,hx⟩
  .rw[hw] at Y6
   refine⟨.str x,Jg,.inl ⟨O1,[],[],[.d (.str x)],.tuple [t,.list []],[],Y6.hc,.cons (.str x) .nil,rfl,zqn hm,λv H2 s2 c2 r2=>?_⟩⟩;have Ik:=Y6.step s2 c2
   cases r2 with
   |tup tt r=>
   cases r with
   |cons ra r=>
   cases r with
   |cons rb r=>
   cases r;refine⟨_,_,rfl,tt.sq,rfl,_,_,rfl,_,_,rfl,rfl,?_⟩
   have Z1:=(Ik.set (i:=2) (w:=.d t) ra λ_ z=>nomatch z).set (i:=3) (w:=.d (.list [])) rb λ_ z=>nomatch z
   refine⟨O1,[],_,[],xV,[],Z1.hc,Z1.re,rfl,λH4 s4 c4=>gU ?_⟩;exact⟨O,H,[],[],O1,_,[],.rt (.bool xV),_,[],Z1.step s4 c4,rtA hs,λv H' s1 c1 r1=>q v H' s1 c1 r1⟩
  .rw[hw] at Y6
   refine⟨.str x,Jg,.inr ⟨O1,x,(q0:Int),Y6.hc,rfl,hx,λp e dx l H2 s2 c2 hp he hd rl=>?_⟩⟩;have Ik:=Y6.step s2 c2
   have Z1:=(Ik.unset (i:=2) (v:=.ref e)).set (i:=3) (w:=.d (.list pU)) rl λ_ z=>nomatch z
   refine⟨p,_,rfl,.inl (.inl hp),rfl,_,_,rfl,_,_,rfl,rfl,?_⟩;refine⟨O1,[],_,[],zd,[],Z1.hc,Z1.re,rfl,λH4 s4 c4=>i7 ?_⟩;have rs4:=Z1.step s4 c4;have l4:F8.length=4:=Y6.len;refine⟨O1,[],_,[],.d (.bool xV),[],c4,rs4.re,rtM,λv H5 s5 c5 r5=>⟨xV,by cases (show Rep K O1 H5 v (.bool xV) from r5);rfl,?_⟩⟩;have rs5:=rs4.step s5 c5
   show if xV=xV then _ else _
   rw[if_pos rfl];refine⟨O1,[],_,[],.d (.int (q0:Int)),[],c5,rs5.re,rfl,λv6 H6 s6 c6 r6=>?_⟩;have rs6:=rs5.step s6 c6;have st:∀b o,H2 b=vd o->H6 b=vd o:=λb o z=>s6 b o (by simp) (s5 b o (by simp) (s4 b o (by simp) z));refine⟨e,dx,?_,st _ _ he,_,_,st _ _ hd,rfl,?_⟩
   .rw[OR (by decide)]
    exact OX (by lia)
   .exact⟨O1,[],[],[.d (.int (q0:Int)),.d (.int (q0:Int))],.bool xV,[],c6,.cons r6 (.cons (.int _) .nil),rfl,zqm,λv7 H7 s7 c7 r7=>by
     have IC:=rs6.step s7 c7
     exact q v7 H7 IC.same IC.frzH (by cases r7;exact .bl _)⟩
variable (E:Ev P w K mg base (Bi K mg C) top zS)(ZS:XE.ZM (XE.ig HW F5) P w K mg base W R "at" 1)(c:Ir K mg W R A1 A2 A3 A4 A5)
include E ZS c
noncomputable def qe:Fn P w K mg base "_law_right" ["_law_text_here"] 113 (Zq K 1 gY):=mY E 86 λ_ _ F=>zqq E.b c F (zpr E) (zqk E ZS c) (zoy E) (zpt E 25)
end
section
variable {R:Tp}{C:Addr}
@[simp] theorem Mb:eU (.int i) (.int j)=if 0<j/\j<18446744073709551616 then vd (.int (i / j)) else zc:=rfl
def bh(R T:Tp):Prop:=∃ns spot rest,T=[iJ ns,.int spot,.int rest]::R/\ns.length<=63/\(0:Int)<=spot/\(0:Int)<=rest
noncomputable def zqr{ns:List Int}{spot:Int}(h:0<ns.length):∃c,Zd (ns.map Qj) (spot % (ns.length:Int))=vd (.int c):=by
 have h1:0<=spot % (ns.length):=WO _ (by lia);have h2:spot % (ns.length)<_:=VN _ (by lia)
 unfold Zd L2.Zr<;>simp_all
noncomputable def lx(c spot m:Int):Int:=(((c % 1000003+1)*(48271+2*(spot % 997)) % 2147483647+104729*spot)*69621 % 2147483629 / 7) % m
noncomputable def bE{T:Tp}{m:Int}(t:(bh R) T)(h1:0<m)(h2:m<1073741824):∃r T',aX [.tp 0,.d (.int m)] T=vd (.int r,T')/\(bh R) T'/\0<=r/\r<m:=by
 obtain⟨ns,spot,rest,rfl,hl,hs,hr⟩:=t;have big:∀x:Int,(0:Int)<=x % m/\x % m<m:=λx=>⟨WO _ (by lia),VN _ h1⟩;have dv:∀x:Int,0<=x->0<=x / m:=λx hx=>Int.ediv_nonneg hx (by lia)
 have BC:∀c:Int,(-18446744073709551616<c % 1000003+1/\c % 1000003+1<18446744073709551616):=λc=>by lia
 have m64:m<18446744073709551616:=by lia
 by_cases h0:rest=0
 .subst h0
  by_cases hn:0<ns.length
  .obtain⟨c,hc⟩:=zqr (spot:=spot) hn
   by_cases Yv:c<1000000000000000000
   .refine⟨lx c spot m,_,?_,⟨ns,spot+1,0,rfl,hl,by lia,by lia⟩,big _⟩
    simp[aX,Zu,Fe,DD,ET,at2,Hv,JM,ip,iJ,hn,hc,Yv,h1,BC c,lx]
   .by_cases KO:(ns.length:Int)<=spot
    .refine⟨lx c spot m,_,?_,⟨ns,spot+1,0,rfl,hl,by lia,by lia⟩,big _⟩
     simp[aX,Zu,Fe,DD,ET,at2,Hv,JM,ip,iJ,hn,hc,Yv,KO,h1,BC c,lx]
    .refine⟨c % m,_,?_,⟨ns,spot+1,c / m,rfl,hl,by lia,dv _ (by lia)⟩,big _⟩
     simp[aX,Zu,Fe,DD,ET,at2,Hv,JM,ip,iJ,hn,hc,Yv,KO,h1,h2,m64]
  .have hz:ns=[]:=RC.mp (by lia)
   subst hz;refine⟨lx spot spot m,_,?_,⟨[],spot+1,0,rfl,hl,by lia,by lia⟩,big _⟩;simp[aX,Zu,Fe,DD,ET,at2,Hv,JM,ip,iJ,hs,h1,BC spot,lx]
 .refine⟨rest % m,_,?_,⟨ns,spot,rest / m,rfl,hl,hs,dv _ hr⟩,big _⟩
  simp[aX,Zu,Fe,DD,ET,at2,Hv,JM,ip,iJ,h0,h1,h2,m64]
noncomputable def yO{y:Str}{T:Tp}{ρ:Yy}{e:FE}{k:Int}(t:(bh R) T)(hk:0<=k)(hk2:k<=100)(he:∀d T,(bh R) T->∃c T',e (vd (.d d)::ρ) T=vd (.d (.str ⟨#[c]⟩),T')/\(bh R) T'/\c∈y.cps.toList) :
  ∃x ys T',bI bB e ρ (bA 0 k.toNat) T=vd (ys,T')/\(bh R) T'/\ic (.str "") (.list ys)=vd (.str x)/\has y x=xV/\(x.length:Int)=k:=by
 obtain⟨ys,T',e1,t1,l1,q1⟩:=lS  (Q:=λd=>∃c,c∈y.cps.toList/\d=.str ⟨#[c]⟩)  t λd _ T t=>by
  obtain⟨c,T',e1,t1,h1⟩:=he d T t;exact⟨_,T',e1,t1,c,h1,rfl⟩
 obtain⟨x,h1,h2,h3,h4,h5⟩:=zka q1;rw[jp] at l1;refine⟨_,ys,T',e1,t1,?_,h4,by lia⟩;rw[wI h1,if_pos ?_];have:(OG "").length=0:=rfl;rw[h2,this,l1]
 lia
noncomputable def rK{y:Str}{i:Int}(h0:0<=i)(h1:i<(y.cps.toList.length:Int)):∃c,Zd y.cps.toList i=vd c/\c∈y.cps.toList:=fS h0 h1
noncomputable def words:List PyData:=["a","ab","abc","b","say","want","put","got","row","made","told","fail","fails","when","many","peek","part","sum","kind","name","zzzzzzzz","lacks","x"].map λs=>.str (OG s)
noncomputable def zqs:∀d∈words,∃x,d=.str x/\isName (.str x)=xV:=by
 intro d hd;obtain⟨s,hs,rfl⟩:=Pu.mp hd;refine⟨_,rfl,?_⟩;clear hd;revert s
 decide +kernel
noncomputable def sy(t:(bh R) T):∃x T',jm [.tp 0] T=vd (.str x,T')/\(bh R) T'/\isName (.str x)=xV:=by
 obtain⟨w,T1,e1,t1,w0,w1⟩:=bE (m:=30) t (by simp) (by simp)
 by_cases hw:w<23
 .obtain⟨d,hd,hm⟩:=fS (xs:=words) w0 (by show w<23;exact hw)
  obtain⟨x,rfl,hx⟩:=zqs d hm;refine⟨x,T1,?_,t1,hx⟩;have Ef:Zd words w=vd (.str x):=hd;simp[words] at Ef;simp[jm,e1,hw,Ef,Sh]
 .obtain⟨k,T2,e2,t2,k0,k1⟩:=bE (m:=8) t1 (by decide) (by decide)
  obtain⟨x,ys,T3,e3,t3,e4,hx,hl⟩:=yO (y:=HY) (k:=1+k) (e:=ag Ze (aa 4) (ar aX (ae (aa 1) (ae (fC (.int 26)) ah)))) (ρ:=[vd (.tp 0),vd (.d (.list words)),vd (.d (.int w)),vd (.d (.str HY))]) t2 (by lia) (by lia) λd T t=>by
   obtain⟨r,T',e1,t1,r0,r1⟩:=bE (m:=26) t (by decide) (by decide);obtain⟨c,hc,hm⟩:=rK (y:=HY) r0 (by rw[zjy];exact r1);exact⟨c,T',by simp[e1,hc,zkb],t1,hm⟩
  have hr:=fL (j:=1+k) (by lia) (by lia);refine⟨x,T3,?_,t3,?_⟩
  .have Co:=e3
   simp[words,HY] at Co;simp[jm,e1,hw,e2,hr,Co,e4,Sh]
  .show (decide (1<=x.length)&&decide (x.length<=8)&&has HY x)=xV
   rw[hx,decide_eq_true (by lia),decide_eq_true (by lia)];rfl
noncomputable def zqt:∀d∈[QC "",.str "a",.str "-5"],∃x,d=.str x/\single (.str x)=xV:=by
 intro d hd;simp at hd
 rcases hd with rfl|rfl|rfl
 .exact⟨_,rfl,by decide +kernel⟩
 .exact⟨_,rfl,by decide +kernel⟩
 .exact⟨_,rfl,by decide +kernel⟩
noncomputable def yL(t:(bh R) T):∃x T',ki [.tp 0] T=vd (.str x,T')/\(bh R) T'/\single (.str x)=xV:=by
 obtain⟨w,T1,e1,t1,w0,w1⟩:=bE (m:=8) t (by simp) (by simp)
 by_cases hw:w<3
 .obtain⟨d,hd,hm⟩:=fS (xs:=[QC "",.str "a",.str "-5"]) w0 (by simp_all)
  obtain⟨x,rfl,hx⟩:=zqt d hm;exact⟨x,T1,by simp[ki,e1,hw,hd],t1,hx⟩
 .by_cases hw6:w<6
  .obtain⟨x,T2,e2,t2,hx⟩:=sy t1
   exact⟨x,T2,by simp[ki,e1,hw,hw6,e2],t2,ur hx⟩
  .obtain⟨k,T2,e2,t2,k0,k1⟩:=bE (m:=21) t1 (by decide) (by decide)
   obtain⟨n,hn,hm⟩:=fS (xs:=[Qj k,.int 20]) (i:=w-6) (by lia) (by show w-6<2;lia)
   have:∃j:Int,n=.int j/\0<=j/\j<=20:=by
    simp at hm
    rcases hm with rfl|rfl
    .exact⟨k,rfl,k0,by lia⟩
    .exact⟨20,rfl,by lia,by lia⟩
   obtain⟨j,rfl,j0,j1⟩:=this
   obtain⟨x,ys,T3,e3,t3,e4,hx,hl⟩:=yO (y:=Z6) (k:=j) (e:=ag Ze (aa 2) (ar aX (ae (aa 1) (ae (fC (.int 37)) ah)))) (ρ:=[vd (.tp 0),vd (.d (.str Z6)),vd (.d (.int w))]) t2 j0 (by lia) λd T t=>by
    obtain⟨r,T',e1,t1,r0,r1⟩:=bE (m:=37) t (by decide) (by decide);obtain⟨c,hc,hm⟩:=rK (y:=Z6) r0 (by rw[zjz];exact r1);exact⟨c,T',by simp[e1,hc,zkc],t1,hm⟩
   have hr:=fL (j:=j) j0 (by lia);refine⟨x,T3,?_,t3,?_⟩
   .have Co:=e3
    simp[Z6] at Co;simp[ki,e1,hw,hw6,e2,hn,hr,Co,e4]
   .show (decide (x.length<=20)&&has Z6 x)=xV
    rw[hx,decide_eq_true (by lia)];rfl
noncomputable def zqu:∀d∈[Qj 0,.int 1,.int (-1),.int 2,.int 3,.int 10,.int 1000000000000000000,.int (-1000000000000000000),.int 999999999999999999],∃i:Int,d=.int i/\single (.int i)=xV:=by
 intro d hd;simp at hd
 rcases hd with rfl|rfl|rfl|rfl|rfl|rfl|rfl|rfl|rfl <;> exact⟨_,rfl,gq (by simp) (by simp)⟩
noncomputable def zqv(t:(bh R) T):∃i T',kf [.tp 0] T=vd (.int i,T')/\(bh R) T'/\single (.int i)=xV:=by
 obtain⟨w,T1,e1,t1,w0,w1⟩:=bE (m:=12) t (by simp) (by simp)
 by_cases hw:w<9
 .obtain⟨d,hd,hm⟩:=fS (xs:=[Qj 0,.int 1,.int (-1),.int 2,.int 3,.int 10,.int 1000000000000000000,.int (-1000000000000000000),.int 999999999999999999]) w0 (by simp_all)
  obtain⟨i,rfl,hi⟩:=zqu d hm;exact⟨i,T1,by simp[kf,e1,hw,hd],t1,hi⟩
 .obtain⟨a,T2,e2,t2,a0,a1⟩:=bE (m:=1000000000) t1 (by decide) (by decide)
  obtain⟨b,T3,e3,t3,b0,b1⟩:=bE (m:=1000000000) t2 (by decide) (by decide);obtain⟨c,T4,e4,t4,c0,c1⟩:=bE (m:=2) t3 (by decide) (by decide)
  have cm:=by omega
  have cc:c=0\/c=1:=by omega
  rcases cc with rfl|rfl
  .have h0:Zd [Qj 1,.int (-1)] 0=vd (.int 1):=rfl
   exact⟨a*1000000000+b,T4,by simp[kf,e1,hw,e2,e3,e4,h0,cm],t4,gq (by omega) (by omega)⟩
  .have h0:Zd [Qj 1,.int (-1)] 1=vd (.int (-1)):=rfl
   exact⟨-(a*1000000000+b),T4,by simp[kf,e1,hw,e2,e3,e4,h0,cm],t4,gq (by omega) (by omega)⟩
theorem w4:∀(n k:Nat) (T:Tp) (room:Int),(bh R) T->n<k->1<=room->∃d T',fG k [.tp 0,.d (.int n),.d (.int room)] T=vd (d,T')/\(bh R) T'/\aG n d=xV/\aI n d<=room
 |n,0,T,room,_,hk,_=>absurd hk (P8 _)
 |n,k+1,T,room,t,hk,hr=>by
  obtain⟨w,T1,e1,t1,w0,w1⟩:=bE (m:=7) t (by simp) (by decide)
  by_cases hw:w<2
  .obtain⟨i,T2,e2,t2,hi⟩:=zqv t1
   obtain⟨b1,b2⟩:=jk (n:=n) hi;exact⟨.int i,T2,by simp[fG,e1,hw,e2],t2,b1,by lia⟩
  .by_cases EU:w<4
   .obtain⟨i,T2,e2,t2,hi⟩:=yL t1
    obtain⟨b1,b2⟩:=jk (n:=n) hi;exact⟨.str i,T2,by simp[fG,e1,hw,EU,e2],t2,b1,by lia⟩
   .cases n with
    |zero=>
     obtain⟨i,T2,e2,t2,hi⟩:=yL t1;obtain⟨b1,b2⟩:=jk (n:=0) hi;exact⟨.str i,T2,by simp[fG,e1,hw,EU,e2],t2,b1,by lia⟩
    |succ n=>
     have h0:¬(n:Int)+1=0:=by lia
     obtain⟨m,hm,hm1,hm2,hm3⟩:∃m:Int,(if room<9 then room else 9)=m/\1<=m/\m<=9/\m<=room:=⟨_,rfl,by split <;> lia,by split <;> lia,by split <;> lia⟩;obtain⟨j,T2,e2,t2,j0,j1⟩:=bE (m:=m) t1 (by lia) (by lia);have HI:=fL (j:=j) j0 (by lia)
     by_cases hj:j=0
     .subst hj
      refine⟨.tuple [],T2,?_,t2,rfl,?_⟩
      .simp[fG,e1,hw,EU,h0,hm,e2,HI,bA,bI]
      .show (1:Int)+0<=room
       lia
     .have GL:0<j:=by lia
      have hq:1<=(room-1) / j:=by
       rw[Sx GL]
       lia
      obtain⟨ys,T3,e3,t3,l3,q3⟩:=lS (P:=(bh R)) (Q:=λd=>aG n d=xV/\aI n d<=(room-1) / j) (ds:=bA 0 j.toNat)
       (e:=ar (fG k) (ae (aa 1) (ae (ag bo (aa 2) (fC (.int 1))) (ae (ag eU (ag bo (aa 3) (fC (.int 1))) (aa 5)) ah)))) (ρ:=[vd (.tp 0),vd (.d (.int ((n+1:Nat):Int))),vd (.d (.int room)),vd (.d (.int w)),vd (.d (.int j))]) t2 λd _ T t=>by
       obtain⟨d',T',e1,t1,b1,b2⟩:=w4 n k T ((room-1) / j) t (by lia) hq
       have hs:((n+1:Nat):Int)-1=(n:Int):=by lia
       have E7:j<18446744073709551616:=by lia
       refine⟨d',T',?_,t1,b1,b2⟩;simp only[yk,yj,yi,yh,yg,yf,ye,yd,zx,A6,zw,zt,zr,zu,hs];simp[GL,E7,e1]
      have hl:(ys.length:Int)=j:=by rw[l3,jp];lia
      refine⟨.tuple ys,T3,?_,t3,?_,?_⟩
      .simp only[QX,QD] at e3
       simp[fG,e1,hw,EU,h0,hm,e2,HI,e3]
      .show (decide (ys.length<=8)&&ys.all (aG n))=xV
       rw[decide_eq_true (by lia)];exact Pd.mpr λd hd=>(q3 d hd).1
      .show 1+(ys.map (aI n)).sum<=room
       have s1:=yV (f:=aI n) (q:=(room-1) / j) λd hd=>(q3 d hd).2;rw[hl] at s1;have s2:j*((room-1) / j)<=room-1:=Ve (by lia)
       lia
noncomputable def wZ(t:bh R T):∃v T',fG 25 [.tp 0,.d (.int 2),.d (.int 8)] T=vd (v,T')/\bh R T'/\aM v=xV:=by
 obtain⟨v,T',e,t',hb,hm⟩:=w4 2 25 T 8 t (by decide) (by decide);exact⟨v,T',e,t',zlp hb hm⟩
noncomputable def zqw{T:Tp}{m n:Nat}(t:bh R T)(h1:m<=12)(hn:1<=n):∃e T',kj [.tp 0,.d (.int (m:Int))] T=vd (e,T')/\bh R T'/\EW C (m:Int) n 1 e:=by
 by_cases hm:(0)<(m:Int)
 .obtain⟨r,T1,e1,t1,r0,r1⟩:=bE (m:=3) t (by simp) (by simp)
  by_cases hr:0<r
  .obtain⟨i,T2,e2,t2,i0,i1⟩:=bE  t1 hm (by lia)
   obtain⟨j,rfl⟩:∃j:Nat,i=(j):=⟨i.toNat,by lia⟩;refine⟨_,T2,?_,t2,_,_,tj (j:=j) hn h1 (by lia),by decide⟩;generalize (m:Int)=M at *;simp[kj,hm,e1,hr,e2]
  .obtain⟨v,T2,e2,t2,x⟩:=wZ t1
   refine⟨_,T2,?_,t2,_,_,mH hn x,by decide⟩;generalize (m:Int)=M at *;simp[kj,hm,e1,hr,e2]
 .obtain⟨v,T2,e2,t2,x⟩:=wZ t
  refine⟨_,T2,?_,t2,_,_,mH hn x,by decide⟩;generalize (m:Int)=M at *;simp[kj,hm,e2]
theorem jC{m:Nat}(h1:m<=12):∀(n k:Nat) (T:Tp) (room:Int),bh R T->n<k->1<=n->1<=room->room<=60->∃e T',dz k [.tp 0,.d (.int (m:Int)),.d (.int room),.d (.int n)] T=vd (e,T')/\bh R T'/\EW C (m:Int) n room e
 |n,0,T,room,_,hk,_,_,_=>absurd hk (P8 _)
 |n,k+1,T,room,t,hk,Kw,Ko,ZF=>by
  obtain⟨w,T1,e1,t1,w0,w1⟩:=bE (m:=11) t (by decide) (by decide);obtain⟨ef,T2,f1,t2,xf⟩:=zqw (C:=C) (n:=n) t1 h1 Kw
  by_cases c1:w<4
  .exact⟨ef,T2,by simp[dz,e1,c1,f1],t2,pX xf Ko⟩
  by_cases c2:room<3
  .exact⟨ef,T2,by simp[dz,e1,c1,c2,f1],t2,pX xf Ko⟩
  by_cases c3:(n:Int)<2
  .exact⟨ef,T2,by simp[dz,e1,c1,c2,c3,f1],t2,pX xf Ko⟩
  obtain⟨n,rfl⟩:∃j,n=j+1:=⟨n-1,by lia⟩
  have hs:((n+1:Nat):Int)-1=(n:Int):=by lia
  clear f1 t2 xf
  by_cases c4:w<6
  .obtain⟨b,hb,hb1,hb2,hb3⟩:∃b:Int,(if room<9 then room else 9)=b/\1<=b/\b<=9/\b<=room:=⟨_,rfl,by split <;> lia,by split <;> lia,by split <;> lia⟩
   obtain⟨j,T2,e2,t2,j0,j1⟩:=bE (m:=b) t1 (by lia) (by lia);have HI:=fL (j:=j) j0 (by lia)
   have E7:j<18446744073709551616:=by lia
   have dv:0<j->1<=(room-1) / j:=λhj=>by
    rw[Sx hj]
    lia
   have dv2:0<j->(room-1) / j<=60:=λhj=>by
    have:(room-1) / j<=room-1:=Int.ediv_le_self _ (by lia)
    lia
   obtain⟨ys,T3,e3,t3,l3,q3⟩:=lS (P:=bh R) (Q:=λd=>EW C (m:Int) n ((room-1) / j) d) (ds:=bA 0 j.toNat)
    (e:=ar (dz k) (ae (aa 1) (ae (aa 2) (ae (ag eU (ag bo (aa 3) (fC (.int 1))) (aa 6)) (ae (ag bo (aa 4) (fC (.int 1))) ah))))) (ρ:=[vd (.tp 0),vd (.d (.int (m:Int))),vd (.d (.int room)),vd (.d (.int ((n+1:Nat):Int))),vd (.d (.int w)),vd (.d (.int j)),zc,zc]) (T:=T2) t2 λd hd T t=>by
     have GL:0<j:=by
      obtain⟨i,hi,_⟩:=Pu.mp hd;have:=Ru.mp hi
      lia
     obtain⟨e',T',e1,t1,x⟩:=jC h1 n k T ((room-1) / j) t (by lia) (by lia) (dv GL) (dv2 GL);refine⟨e',T',?_,t1,x⟩;simp only[yk,yj,yi,yh,yg,yf,ye,yd,GZ,zx,A6,zw,zt,zr,zu,hs];simp[GL,E7,e1]
   have hl:(ys.length:Int)=j:=by rw[l3,jp];lia
   have hQ:(ys.length:Int)*((room-1) / j)+1<=room:=by
    rw[hl];have:=Ve (x:=room-1) (k:=j)
    by_cases hj:j=0
    .subst hj;simp;lia
    .have:=this hj
     lia
   refine⟨.tuple [.str "row",.tuple ys],T3,?_,t3,zlm (by lia) q3 hQ ZF⟩;simp only[QX,QD] at e3 c3;simp[dz,e1,c1,c2,c3,c4,hb,e2,HI,e3]
  by_cases c5:w=6
  .obtain⟨e',T2,f2,t2,x⟩:=jC h1 n k T1 (room-1) t1 (by lia) (by lia) (by lia) (by lia)
   refine⟨.tuple [.str "many",e'],T2,?_,t2,zln x (by lia) ZF⟩;rw[←hs] at f2;generalize ((n+1:Nat):Int)=N at f2 c3;simp[dz,e1,c1,c2,c3,c4,c5,f2]
  .obtain⟨i,T2,e2,t2,i0,i1⟩:=bE (m:=5) t1 (by decide) (by decide)
   obtain⟨a,T3,f3,t3,xa⟩:=jC h1 n k T2 ((room-1) / 2) t2 (by lia) (by lia) (by lia) (by lia);obtain⟨b,T4,f4,t4,xb⟩:=jC h1 n k T3 ((room-1) / 2) t3 (by lia) (by lia) (by lia) (by lia)
   obtain⟨wd,Hu,EL⟩:∃wd∈Gn,Zd [QC "part",.str "sum",.str "join",.str "same",.str "less"] i=vd (.str (OG wd)):=by
    obtain⟨d,h,hm⟩:=fS (xs:=[QC "part",.str "sum",.str "join",.str "same",.str "less"]) i0 (by simpa using i1);simp at hm
    rcases hm with rfl|rfl|rfl|rfl|rfl
    .exact⟨"part",by simp[Gn],h⟩
    .exact⟨"sum",by simp[Gn],h⟩
    .exact⟨"join",by simp[Gn],h⟩
    .exact⟨"same",by simp[Gn],h⟩
    .exact⟨"less",by simp[Gn],h⟩
   refine⟨.tuple [.str (OG wd),a,b],T4,?_,t4,zlo Hu xa xb (by lia) ZF⟩;rw[←hs] at f3 f4;generalize ((n+1:Nat):Int)=N at f3 f4 c3;simp[dz,e1,c1,c2,c3,c4,c5,e2,EL,f3,f4]
noncomputable def zqx{T:Tp}{g n:Nat}{room:Int}(t:bh R T)(hg:g<=12)(hn:n<25)(Kw:1<=n)(hr:1<=room):∃e T',lH [.tp 0,.d (.int (g:Int)),.d (.int room),.d (.int (n:Int))] T=vd (e,T')/\bh R T'/\EW C (g:Int) n room e:=by
 obtain⟨w,T1,e1,t1,w0,w1⟩:=bE (m:=6) t (by simp) (by simp)
 by_cases hw:0<w
 .obtain⟨x,T2,e2,t2,hx⟩:=sy t1
  have iv:aM (.str x)=xV:=by
   obtain⟨u1,u2⟩:=jk (n:=4) (ur hx)
   show (aG 4 _&&decide _)=xV<;>simp_all
  exact⟨_,T2,by simp[lH,e1,hw,e2],t2,_,_,mH Kw iv,by omega⟩
 .obtain⟨e,T2,e2,t2,x⟩:=jC  hg n 25 T1 (if (5)<room then 5 else room) t1 hn Kw (by split <;> omega) (by grind)
  exact⟨e,T2,by simp[lH,e1,hw,e2],t2,pX x (by grind)⟩
theorem nP:∀(n k:Nat) (T:Tp) (room:Int) (g:Nat),bh R T->n<k->k<=25->1<=n->n<=20->g<=12->1<=room->room<=60->∃r T',dy k [.tp 0,.d (.int (g:Int)),.d (.int room),.d (.int (n:Int))] T=vd (r,T')/\bh R T'/\RW C g n room r
 |n,0,T,room,g,_,hk,_,_,_,_,_,_=>absurd hk (P8 _)
 |n,k+1,T,room,g,t,hk,hk2,Kw,Jn,hg,Ko,ZF=>by
  obtain⟨w,T1,e1,t1,w0,w1⟩:=bE (m:=10) t (by decide) (by decide);obtain⟨x,Tx,ex,tx,hx⟩:=sy t1;have fl:RW C g n room (.tuple [.str "fail",.str x]):=⟨_,_,yI Kw hg hx,by simpa using Ko⟩
  by_cases c1:room<2
  .exact⟨_,Tx,by simp[dy,e1,c1,ex],tx,fl⟩
  by_cases c2:(n:Int)<2
  .exact⟨_,Tx,by simp[dy,e1,c1,c2,ex],tx,fl⟩
  by_cases c3:w=0
  .exact⟨_,Tx,by simp[dy,e1,c1,c2,c3,ex],tx,fl⟩
  clear ex tx fl;obtain⟨n,rfl⟩:∃j,n=j+1:=⟨n-1,by lia⟩
  have hs:((n+1:Nat):Int)-1=(n:Int):=by lia
  have say:(room<5\/w<3\/(w<8/\(g:Int)=12))->∃r T',dy (k+1) [.tp 0,.d (.int (g:Int)),.d (.int room),.d (.int ((n+1:Nat):Int))] T=vd (r,T')/\bh R T'/\RW C g (n+1) room r:=λhc=>by
   obtain⟨e,T2,e2,t2,xe⟩:=jC (C:=C) hg n 25 T1 (room-1) t1 (by lia) (by lia) (by lia) (by lia);refine⟨.tuple [.str "say",e],T2,?_,t2,zlt (by lia) xe (by lia) ZF⟩;rw[←hs] at e2;generalize ((n+1:Nat):Int)=N at e2 c2
   by_cases d1:room<5
   .simp[dy,e1,c1,c2,c3,d1,e2]
   by_cases d2:w<3
   .simp[dy,e1,c1,c2,c3,d1,d2,e2]
   .obtain⟨d3,d4⟩:w<8/\(g:Int)=12:=by
     rcases hc with z|z|z
     .exact absurd z d1
     .exact absurd z d2
     .exact z
    simp[dy,e1,c1,c2,c3,d1,d2,d3];simp[d4] at e2 ⊢;simp[e2]
  by_cases c4:room<5
  .exact say (.inl c4)
  by_cases c5:w<3
  .exact say (.inr (.inl c5))
  by_cases c6:w<8/\(g:Int)=12
  .exact say (.inr (.inr c6))
  clear say
  by_cases c7:w<8
  .have JH:g<12:=by
    have:¬(g:Int)=12:=λz=>c6 ⟨c7,z⟩
    lia
   have GQ:¬(g:Int)=12:=by lia
   obtain⟨e,T2,e2,t2,xe⟩:=zqx (C:=C) (g:=g) (n:=n) (room:=room-3) t1 hg (by lia) (by lia) (by lia);obtain⟨A,we,xx,k2⟩:=xe;have f1:=xx.my 25 T2 (by lia);obtain⟨i,T3,e3,t3,i0,i1⟩:=bE (m:=3) t2 (by decide) (by decide);obtain⟨y,T4,e4,t4,xy⟩:=nP n k T3 (room-1-(A:Int)) (g+1) t3 (by lia) (by lia) (by lia) (by lia) (by lia) (by lia) (by lia)
   obtain⟨wd,Hu,EL⟩:∃wd:String,(wd="want"\/wd="peek")/\Zd [QC "want",.str "want",.str "peek"] i=vd (.str (OG wd)):=by
    obtain⟨d,h,hm⟩:=fS (xs:=[QC "want",.str "want",.str "peek"]) i0 (by simpa using i1);simp at hm
    rcases hm with rfl|rfl
    .exact⟨"want",.inl rfl,h⟩
    .exact⟨"peek",.inr rfl,h⟩
   have xl:=xx.c1;refine⟨.tuple [.str (OG wd),e,y],T4,?_,t4,zlu (by lia) Hu JH xx xy (by lia) ZF⟩;rw[←hs] at e2 e4;rw[show ((g+1:Nat):Int)=(g:Int)+1 by lia] at e4;generalize ((n+1:Nat):Int)=N at e2 e4 c2;generalize (A:Int)=A' at *;generalize (g:Int)=G at *;simp[dy,e1,c1,c2,c3,c4,c5,c7,GQ,e2,f1,e3,EL,e4]
  .obtain⟨e,T2,e2,t2,xe⟩:=jC (C:=C) hg n 25 T1 (room / 4) t1 (by lia) (by lia) (by lia) (by lia)
   obtain⟨A,we,xx,k2⟩:=xe;have xl:=xx.c1;have f1:=xx.my 25 T2 (by lia);obtain⟨y,T3,e3,t3,xy⟩:=nP n k T2 ((room-1-(A:Int)) / 2) g t2 (by lia) (by lia) (by lia) (by lia) hg (by lia) (by lia);obtain⟨z,T4,e4,t4,xz⟩:=nP n k T3 ((room-1-(A:Int)) / 2) g t3 (by lia) (by lia) (by lia) (by lia) hg (by lia) (by lia);refine⟨.tuple [.str "when",e,y,z],T4,?_,t4,zlv (by lia) xx xy xz (by lia) ZF⟩;rw[←hs] at e2 e3 e4;generalize ((n+1:Nat):Int)=N at e2 e3 e4 c2;generalize (A:Int)=A' at *;generalize (g:Int)=G at *;simp[dy,e1,c1,c2,c3,c4,c5,c7,e2,f1,e3,e4]
end
structure WK(B:Nat)(w:Str):Prop where
 len:w.length<=B
 lo:∀c∈cd w,c<128
structure LK(B n:Nat)(L:List Str):Prop where
 len:L.length<=n
 ws:∀w∈L,WK B w
def WK.up(h:WK B w)(l:B<=B'):WK B' w:=⟨OS h.len l,h.lo⟩
def mv(L:List Str)(lo hi:Option Int):aQ (sl L) lo hi=sl (aQ L lo hi):=by
 unfold aQ sl;simp
def jt{α:Type}{l:List α}{lo hi:Option Int}{x:α}(h:x∈aQ l lo hi):x∈l:=Vf (Vg h)
def ma{α:Type}(l:List α)(lo hi:Option Int):(aQ l lo hi).length<=l.length:=by
 unfold aQ
 simp_all
 lia
noncomputable def qp(x:Str)(i:Int)(h:0<=i):cd (Pv x (vd i) zc)=(cd x).drop i.toNat:=by
 have e:P6 (vd i) zc 1 x.length=P6 (vd i) (vd (x.length)) 1 x.length:=by
  have n:¬((x.length:Int)<0):=by lia
  unfold P6 sliceRange;simp[n]
 have e2:Pv x (vd i) zc=Pv x (vd i) (vd (x.length)):=by
  unfold Pv;rw[e]
 rw[e2,kr h (by lia),Q4];rw[PU,aU]
 lia
def zV(h:WK B w)(e:∀c∈cd x,c∈cd w)(l:x.length<=w.length):WK B x:=⟨OS l h.len,λc hc=>h.lo c (e c hc)⟩
noncomputable def yS{B:Nat}{w:Str}{s:Nat}(h:WK B w):WK B (Pv w zc (vd (s:Int))):=zV h (λc hc=>by rw[lT] at hc;exact Vg hc) (by
 rw[←aU,←aU,lT,Rx]
 lia)
noncomputable def sC{B:Nat}{w:Str}{s:Int}(h:WK B w)(hs:0<=s):WK B (Pv w (vd s) zc):=zV h (λc hc=>by rw[qp _ _ hs] at hc;exact Vf hc) (by
 rw[←aU,←aU,qp _ _ hs,PU]
 omega)
def zqy{w:Str}{s:Nat}:(Pv w zc (vd (s:Int))).length=min s w.length:=by rw[←aU,lT,Rx,aU]
def xu(hs:0<=s):(Pv w (vd s) zc).length=w.length-s.toNat:=by rw[←aU,qp _ _ hs,PU,aU]
noncomputable def oI(hx:WK B x)(hy:WK B y)(l:x.length+y.length<=C):WK C (x++y):=⟨by rw[←aU,gI,Pz,aU];exact l,λc hc=>by
 rw[gI] at hc
 exact(Pq.mp hc).elim (hx.lo c) (hy.lo c)⟩
noncomputable def Ga:List Str:=["","say","fail","want","peek","when","put","got","row","many","part","sum","join","same","less","0","1","2","8","9","12","00","-1","()","(0)","(0","'","'a","'A","a","A","Say","abcdefghi","((((()))))","1000000000000000001","-","(,)","'aaaaaaaaaaaaaaaaaaaaa","(0,'a)","+1"].map OG
noncomputable def Bh:FS:=(ak (YC (aq (ag IS (aa 7) (fC (.int 4)))) (au (ag Ze (ax .list (ae (ag az (YW (aa 1) aS (fP (aa 3))) (YW (aa 1) (fP (ag az (aa 3) (fC (.int 1)))) aS)) (ae (ag az (ag az (YW (aa 1) aS (fP (aa 3))) (ax .list (ae (aa 4) ah))) (YW (aa 1) (fP (aa 3)) aS)) (ae (ag az (aa 1) (ax .list (ae (aa 4) ah))) (ae (YW (aa 1) aS (fP (aa 3))) ah))))) (aa 7))) aD) (ak (YC (aq (ag IS (aa 7) (fC (.int 6)))) (ay 4 (ag Ze (aa 2) (ar aX (ae (aa 0) (ae (fC (.int 40)) ah))))) (YC (aq (ag Zu (aa 7) (fC (.int 6)))) (ay 4 (ag az (ag az (YW (aa 4) aS (fP (aa 5))) (aa 6)) (YW (aa 4) (fP (aa 5)) aS))) (YC (aq (ag Zu (aa 7) (fC (.int 7)))) (ay 4 (ag az (ag az (YW (aa 4) aS (fP (aa 5))) (aa 6)) (YW (aa 4) (fP (ag az (aa 5) (fC (.int 1)))) aS))) (ay 4 (ag az (YW (aa 4) aS (fP (aa 5))) (YW (aa 4) (fP (ag az (aa 5) (fC (.int 1)))) aS)))))) (au (ag az (ag az (YW (aa 1) aS (fP (aa 3))) (ax .list (ae (aa 4) ah))) (YW (aa 1) (fP (ag az (aa 3) (fC (.int 1)))) aS)))))
noncomputable def KH:FS:=(ak (ay 3 (ar aX (ae (aa 0) (ae (YR aP (ae (aa 1) ah)) ah)))) (ak (ay 4 (ag Ze (aa 1) (aa 3))) (ak (ay 5 (ar aX (ae (aa 0) (ae (ag az (YR aP (ae (aa 4) ah)) (fC (.int 1))) ah)))) (ak (ay 6 (ag Ze (fC (.str "0a-(,)' 9Z")) (ar aX (ae (aa 0) (ae (fC (.int 10)) ah))))) (ak (ay 7 (ar aX (ae (aa 0) (ae (fC (.int 9)) ah)))) Bh)))))
theorem zqz:ke=aL 8 (ak (ay 2 (ax .list (ae (fC (.str "")) (ae (fC (.str "say")) (ae (fC (.str "fail")) (ae (fC (.str "want")) (ae (fC (.str "peek")) (ae (fC (.str "when")) (ae (fC (.str "put")) (ae (fC (.str "got")) (ae (fC (.str "row")) (ae (fC (.str "many")) (ae (fC (.str "part")) (ae (fC (.str "sum")) (ae (fC (.str "join")) ah))))))))))))))) (ak (ay 2 (ag az (aa 2) (ax .list (ae (fC (.str "same")) (ae (fC (.str "less")) ah))))) (ak (ay 2 (ag az (aa 2) (ax .list (ae (fC (.str "0")) (ae (fC (.str "1")) (ae (fC (.str "2")) (ae (fC (.str "8")) (ae (fC (.str "9")) (ae (fC (.str "12")) (ae (fC (.str "00")) (ae (fC (.str "-1")) (ae (fC (.str "()")) (ae (fC (.str "(0)")) (ae (fC (.str "(0")) (ae (fC (.str "'")) (ae (fC (.str "'a")) (ae (fC (.str "'A")) (ae (fC (.str "a")) (ae (fC (.str "A")) (ae (fC (.str "Say")) ah)))))))))))))))))))) (ak (ay 2 (ag az (aa 2) (ax .list (ae (fC (.str "abcdefghi")) ah)))) (ak (ay 2 (ag az (aa 2) (ax .list (ae (fC (.str "((((()))))")) (ae (fC (.str "1000000000000000001")) (ae (fC (.str "-")) (ae (fC (.str "(,)")) (ae (ag az (fC (.str "'")) (ag er (fC (.str "a")) (fC (.int 21)))) (ae (fC (.str "(0,'a)")) (ae (fC (.str "+1")) ah)))))))))) KH))))):=rfl
theorem zra:(ak (ay 2 (ax .list (ae (fC (.str "")) (ae (fC (.str "say")) (ae (fC (.str "fail")) (ae (fC (.str "want")) (ae (fC (.str "peek")) (ae (fC (.str "when")) (ae (fC (.str "put")) (ae (fC (.str "got")) (ae (fC (.str "row")) (ae (fC (.str "many")) (ae (fC (.str "part")) (ae (fC (.str "sum")) (ae (fC (.str "join")) ah))))))))))))))) (ak (ay 2 (ag az (aa 2) (ax .list (ae (fC (.str "same")) (ae (fC (.str "less")) ah))))) (ak (ay 2 (ag az (aa 2) (ax .list (ae (fC (.str "0")) (ae (fC (.str "1")) (ae (fC (.str "2")) (ae (fC (.str "8")) (ae (fC (.str "9")) (ae (fC (.str "12")) (ae (fC (.str "00")) (ae (fC (.str "-1")) (ae (fC (.str "()")) (ae (fC (.str "(0)")) (ae (fC (.str "(0")) (ae (fC (.str "'")) (ae (fC (.str "'a")) (ae (fC (.str "'A")) (ae (fC (.str "a")) (ae (fC (.str "A")) (ae (fC (.str "Say")) ah)))))))))))))))))))) (ak (ay 2 (ag az (aa 2) (ax .list (ae (fC (.str "abcdefghi")) ah)))) (ak (ay 2 (ag az (aa 2) (ax .list (ae (fC (.str "((((()))))")) (ae (fC (.str "1000000000000000001")) (ae (fC (.str "-")) (ae (fC (.str "(,)")) (ae (ag az (fC (.str "'")) (ag er (fC (.str "a")) (fC (.int 21)))) (ae (fC (.str "(0,'a)")) (ae (fC (.str "+1")) ah)))))))))) KH))))) [vd (.tp 0),vd w0,zc,zc,zc,zc,zc,zc] T=KH [vd (.tp 0),vd w0,vd (.d (.list (sl Ga))),zc,zc,zc,zc,zc] T:=by rfl
noncomputable def zrb:∀w∈Ga,WK 30 w:=λw hw=>by
 have:(Ga.all λw=>decide (w.length<=30)&&(cd w).all λc=>decide (c<128))=xV:=by decide +kernel
 have:=Pd.mp this w hw;rw[OW,decide_eq_true_eq,Pd] at this;exact⟨this.1,λc hc=>of_decide_eq_true (this.2 c hc)⟩
section
variable {R:Tp}{L:List Str}{w sg:Str}{at' sp:Nat}{way:Int}{T:Tp}{B n:Nat}
abbrev m7(L:List Str)(at':Nat)(w:Str)(sp:Nat)(sg:Str)(way:Int):Yy:=[vd (.tp 0),vd (.d (.list (sl L))),vd (.d (.list (sl Ga))),vd (.d (.int (at':Int))),vd (.d (.str w)),vd (.d (.int (sp:Int))),vd (.d (.str sg)),vd (.d (.int way))]
noncomputable def zrc(h:LK B n L)(hv:WK (B+1) v)(hl:aQ L zc (vd (at':Int))++[v]++aQ L (vd ((at':Int)+1)) zc=L')(ha:at' < L.length):LK (B+1) (n+1) L':=by
 subst hl;refine⟨?_,λu hu=>?_⟩
 .have b:(aQ L (vd ((at':Int)+1)) zc).length<=L.length-(at' + 1):=by
   have e:HT.Y0 L.length 0 (vd ((at':Int)+1))=at' + 1:=by
    unfold HT.Y0<;>grind
   unfold aQ
   simp_all
   lia
  have c:(aQ L zc (vd (at':Int))).length<=at':=by
   have e:HT.Y0 L.length L.length (vd (at':Int))<=at':=by
    rw[HT.mh]
    lia
   unfold aQ<;>grind
  have:=h.len;simp
  lia
 .simp only[Pq,Pj] at hu
  rcases hu with(hu|rfl)|hu
  .exact(h.ws u (jt hu)).up (by lia)
  .exact hv
  .exact(h.ws u (jt hu)).up (by lia)
noncomputable def zrd{a b c d:List OF}{i:Int}(h0:0<=i)(h1:i<4):∃x∈[a,b,c,d],Zd [U6 a,.list b,.list c,.list d] i=vd (.list x):=by
 have:i=0\/i=1\/i=2\/i=3:=by lia
 rcases this with rfl|rfl|rfl|rfl
 .exact⟨a,by simp,rfl⟩
 .exact⟨b,by simp,rfl⟩
 .exact⟨c,by simp,rfl⟩
 .exact⟨d,by simp,rfl⟩
noncomputable def zre(h:LK B n L)(hn:n<=1000)(hw:WK B w)(w0:0<=way)(w1:way<4):∃L',c9 (Bh (m7 L at' w sp sg way) T)=vd (.list (sl L'),T)/\LK (B+1) (n+1) L':=by
 have hl:=h.len
 have big:5000<=sizeLine:=by decide
 have c1:=ma L zc (vd (at':Int));have c2:=ma L (vd ((at':Int)+1)) zc;have c3:=ma L (vd (at':Int)) zc
 have c4:(aQ L zc (vd (at':Int))).length+(aQ L (vd (at':Int)) zc).length<=L.length:=by
  unfold aQ;simp only[HT.mh,HT.qW,Rx,PU]
  lia
 have f1:(aQ L zc (vd (at':Int))).length+(aQ L (vd ((at':Int)+1)) zc).length<=sizeLine:=by lia
 have f2:(aQ L zc (vd (at':Int))).length+1<=sizeLine:=by lia
 have f3:(aQ L zc (vd (at':Int))).length+((aQ L (vd (at':Int)) zc).length+1)<=sizeLine:=by lia
 have f3':(aQ L zc (vd (at':Int))).length+1+(aQ L (vd (at':Int)) zc).length<=sizeLine:=by lia
 have f4:L.length+1<=sizeLine:=by lia
 obtain⟨x,hz,ex⟩:=zrd (a:=sl (aQ L zc (vd (at':Int)))++sl (aQ L (vd ((at':Int)+1)) zc)) (b:=sl (aQ L zc (vd (at':Int)))++.str w::sl (aQ L (vd (at':Int)) zc)) (c:=sl L++[.str w]) (d:=sl (aQ L zc (vd (at':Int)))) w0 w1
 obtain⟨x,hx,rfl⟩:∃y∈[aQ L zc (vd (at':Int))++aQ L (vd ((at':Int)+1)) zc,aQ L zc (vd (at':Int))++[w]++aQ L (vd (at':Int)) zc,L++[w],aQ L zc (vd (at':Int))],x=sl y:=by
  simp only[OZ,QO,or_false] at hz
  rcases hz with rfl|rfl|rfl|rfl
  .exact⟨_,OU,sH _ _⟩
  .exact⟨_,OP _ OU,by simp[sl]⟩
  .exact⟨_,OP _ (OP _ OU),by simp[sl]⟩
  .exact⟨_,OP _ (OP _ (OP _ OU)),rfl⟩
 clear hz;refine⟨x,?_,?_⟩
 .simp[Bh,w1,mv,cE,gz,f1,f2,f3,f3',f4,ex]
 .have mem:∀u,u∈x->u=w\/u∈L:=λu hu=>by
   simp only[OZ,QO,or_false] at hx
   rcases hx with rfl|rfl|rfl|rfl
   .exact .inr ((Pq.mp hu).elim jt jt)
   .simp only[Pq,Pj] at hu
    rcases hu with(hu|hu)|hu
    .exact .inr (jt hu)
    .exact .inl hu
    .exact .inr (jt hu)
   .simp only[Pq,Pj] at hu
    exact hu.elim .inr .inl
   .exact .inr (jt hu)
  refine⟨?_,λu hu=>?_⟩
  .simp only[OZ,QO,or_false] at hx
   rcases hx with rfl|rfl|rfl|rfl
   .have:(aQ L (vd ((at':Int)+1)) zc).length<=(aQ L (vd (at':Int)) zc).length:=by
     have n:¬((at':Int)+1<0):=by lia
     unfold aQ;rw[HT.mh];unfold HT.Y0;simp only[n,if_false,Rx,PU]
     lia
    rw[Pz];lia
   .simp only[Pz,Po,Qz];lia
   .simp only[Pz,Po,Qz];lia
   .lia
  .rcases mem u hu with rfl|hu
   .exact hw.up (by lia)
   .exact(h.ws u hu).up (by lia)
noncomputable def oJ(h:LK B n L)(hn:n<=1000)(ha:at' < L.length)(hv:WK (B+1) v)
  (e:c9 (Bh (m7 L at' w sp sg way) T)=vd (.list (sl (aQ L zc (vd (at':Int))++[v]++aQ L (vd ((at':Int)+1)) zc)),T')) :
  ∃L',c9 (Bh (m7 L at' w sp sg way) T)=vd (.list (sl L'),T')/\LK (B+1) (n+1) L':=⟨_,e,zrc h hv rfl ha⟩
noncomputable def zrf(h:LK B n L)(hn:n<=1000)(ha:at' < L.length)(hw:WK B w)(hs:WK 1 sg)(hB:B<=5000)(hB2:30<=B)(KO:sp<=w.length)(w0:4<=way)(w1:way<9)(t:bh R T):∃L' T',c9 (Bh (m7 L at' w sp sg way) T)=vd (.list (sl L'),T')/\bh R T'/\LK (B+1) (n+1) L':=by
 have hl:=h.len
 have big:50000<=sizeLine:=by decide
 have c1:=ma L zc (vd (at':Int));have c2:=ma L (vd ((at':Int)+1)) zc
 have f1:(aQ L zc (vd (at':Int))).length+((aQ L (vd ((at':Int)+1)) zc).length+1)<=sizeLine:=by lia
 have f2:(aQ L zc (vd (at':Int))).length+1<=sizeLine:=by lia
 have f3:(aQ L zc (vd (at':Int))).length+1+(aQ L (vd ((at':Int)+1)) zc).length<=sizeLine:=by lia
 have hwl:=hw.len;have KP:=hs.len
 have wl:w.length<=sizeLine:=by lia
 have n4:¬way<4:=by lia
 have p1:(Pv w zc (vd (sp:Int))).length=sp:=by rw[zqy];lia
 have p2:(Pv w (vd (sp:Int)) zc).length=w.length-sp:=by rw[xu (by lia)];rfl
 have p3:(Pv w (vd ((sp:Int)+1)) zc).length=w.length-(sp+1):=by rw[xu (by lia)];rfl
 have a1:=oI (yS (s:=sp) hw) (hs.up (by lia:1<=B)) (C:=B+1) (by rw[p1];lia)
 have q1:(Pv w zc (vd (sp:Int))++sg).length=sp+sg.length:=by rw[←aU,gI,Pz,aU,aU,p1]
 have g1:sp+sg.length<=sizeLine:=by lia
 by_cases w6:way<6
 .obtain⟨i,T1,e1,t1,i0,i1⟩:=bE (m:=40) t (by decide) (by decide)
  obtain⟨d,hd,hm⟩:=fS (xs:=sl Ga) i0 (by rw[cE];exact i1);obtain⟨v,hv,rfl⟩:=Pu.mp hm
  obtain⟨L',e',k'⟩:=oJ (w:=w) (sp:=sp) (sg:=sg) (way:=way) (T:=T) (T':=T1) h hn ha (v:=v) ((zrb v hv).up (by lia)) (by
   simp[Bh,n4,w6,e1,hd,mv,cE,gz,f1,f2,f3]
   simp[sl])
  exact⟨L',T1,e',t1,k'⟩
 .by_cases w7:way=6
  .subst w7
   have r1:(sp+sg.length)+(w.length-sp)<=sizeLine:=by lia
   obtain⟨L',e',k'⟩:=oJ (w:=w) (sp:=sp) (sg:=sg) (way:=6) (T:=T) (T':=T) h hn ha (oI a1 ((sC (s:=(sp:Int)) hw (by lia)).up (by lia:B<=B+1)) (C:=B+1) (by rw[q1,p2];lia)) (by
    simp[Bh,wl,mv,cE,gz,f1,f2,f3,p1,p2,q1,g1,r1]
    simp[sl])
   exact⟨L',T,e',t,k'⟩
  .by_cases w8:way=7
   .subst w8
    have r1:(sp+sg.length)+(w.length-(sp+1))<=sizeLine:=by lia
    obtain⟨L',e',k'⟩:=oJ (w:=w) (sp:=sp) (sg:=sg) (way:=7) (T:=T) (T':=T) h hn ha (oI a1 ((sC (s:=(sp:Int)+1) hw (by lia)).up (by lia:B<=B+1)) (C:=B+1) (by rw[q1,p3];lia)) (by
     simp[Bh,wl,mv,cE,gz,f1,f2,f3,p1,p3,q1,g1,r1]
     simp[sl])
    exact⟨L',T,e',t,k'⟩
   .have r1:sp+(w.length-(sp+1))<=sizeLine:=by lia
    obtain⟨L',e',k'⟩:=oJ (w:=w) (sp:=sp) (sg:=sg) (way:=way) (T:=T) (T':=T) h hn ha (oI (yS (s:=sp) hw) (sC (s:=(sp:Int)+1) hw (by lia)) (C:=B+1) (by rw[p1,p3];lia)) (by
     simp[Bh,n4,w6,w7,w8,wl,mv,cE,gz,f1,f2,f3,p1,p3,r1]
     simp[sl])
    exact⟨L',T,e',t,k'⟩
noncomputable def xg(t:bh R T)(h:LK B n L)(hn:n<=1000)(hB:B<=5000)(hB2:30<=B)(ne:L≠[]):∃L' T',ke [.tp 0,.d (.list (sl L))] T=vd (.list (sl L'),T')/\bh R T'/\LK (B+1) (n+1) L':=by
 have Fd:=Vt.mpr ne;have hl:=h.len;obtain⟨a,T1,e1,t1,a0,a1⟩:=bE (m:=(L.length:Int)) t (by lia) (by lia);obtain⟨k,rfl⟩:=RD a0
 have hk:k<L.length:=by lia
 have ET:=mK (Qh hk);have hw:=h.ws _ (Uh hk);generalize L[k]=w at ET hw;have hwl:=hw.len;obtain⟨s,T2,e2,t2,s0,s1⟩:=bE (m:=(w.length:Int)+1) t1 (by lia) (by lia);obtain⟨sp,rfl⟩:=RD s0;obtain⟨c,T3,e3,t3,c0,c1⟩:=bE (m:=10) t2 (by simp) (by decide);obtain⟨x,hx,hm⟩:=rK (y:=OG "0a-(,)' 9Z") c0 (by exact c1);obtain⟨way,T4,e4,t4,w0,w1⟩:=bE (m:=9) t3 (by decide) (by decide)
 have sgl:∀c∈(OG "0a-(,)' 9Z").cps.toList,c<128:=by decide +kernel
 have hs:WK 1 (⟨#[x]⟩:Str):=⟨Pc _,λc hc=>by
  simp[cd] at hc;subst hc
  exact sgl _ hm⟩
 have start:∀(T5:Tp) (z:OF),c9 (Bh (m7 L k w sp ⟨#[x]⟩ way) T4)=vd (z,T5)->ke [.tp 0,.d (.list (sl L))] T=vd (z,T5):=λT5 z hz=>by
  rw[zqz];show c9 (_ )=_;rw[show ([D.W.tp 0,.d (.list (sl L))].map vd++OQ (8 - [D.W.tp 0,.d (.list (sl L))].length) zc:Yy)=[vd (.tp 0),vd (.d (.list (sl L))),zc,zc,zc,zc,zc,zc] from rfl,zra,←hz];have wl:w.length<=sizeLine:=OS hwl (OS hB (by decide))
  have sgn:(OG "0a-(,)' 9Z").length<=sizeLine:=by decide
  simp[KH,cE,e1,ET,e2,e3,hx,e4,wl,sgn]
 by_cases EU:way<4
 .obtain⟨L',e',k'⟩:=zre (T:=T4) (at':=k) (w:=w) (sp:=sp) (sg:=⟨#[x]⟩) h hn hw w0 EU
  exact⟨L',T4,start _ _ e',t4,k'⟩
 .obtain⟨L',T5,e',t',k'⟩:=zrf (at':=k) (sp:=sp) (sg:=⟨#[x]⟩) h hn hk hw hs hB hB2 (by lia) (by lia) w1 t4
  exact⟨L',T5,start _ _ e',t',k'⟩
end
structure GW(t:OF)(ws:List Str):Prop where
 lw:∀T,cp 25 [.d t] T=vd (.list (sl ws),T)
 ok:LK 1100 150 ws
 ne:ws≠[]
def J4:OF->List Str
 |.list l=>l.filterMap λd=>match d with | .str x=>vd x|_=>zc
 |_=>[]
def cx(t:OF):PyData:=.tuple [.str "say",t]
def eR(m:Int):PyData:=match gp 25 [.d (.int m)] [] with
 |some (t,_)=>t
 |none=>.none
def eN(m:Int):PyData:=match gZ [.d (.int m)] [] with
 |some (t,_)=>t
 |none=>.none
def eL(t:OF):List Str:=match cp 25 [.d t] [] with
 |some (t,_)=>J4 t
 |none=>[]
noncomputable def Ls(ws:List Str):Bool:=decide (ws.length<=150)&&!ws.isEmpty&&ws.all λw=>decide (w.length<=1100)&&(cd w).all λc=>decide (c<128)
def zrg:gp 25 [.d (.int 58)] T=vd (eR 58,T):=by kernel_rfl
def zrh:cp 25 [.d (cx (eR 58))] T=vd (.list (sl (eL (cx (eR 58)))),T):=by kernel_rfl
def zri:gp 25 [.d (.int 59)] T=vd (eR 59,T):=by kernel_rfl
def zrj:cp 25 [.d (cx (eR 59))] T=vd (.list (sl (eL (cx (eR 59)))),T):=by kernel_rfl
def zrk:gp 25 [.d (.int 60)] T=vd (eR 60,T):=by kernel_rfl
def zrl:cp 25 [.d (cx (eR 60))] T=vd (.list (sl (eL (cx (eR 60)))),T):=by kernel_rfl
def zrm:gp 25 [.d (.int 61)] T=vd (eR 61,T):=by kernel_rfl
def zrn:cp 25 [.d (cx (eR 61))] T=vd (.list (sl (eL (cx (eR 61)))),T):=by kernel_rfl
theorem zro:gZ [.d (.int 18)] T=vd (eN 18,T) :=rfl
def zrp:cp 25 [.d (cx (eN 18))] T=vd (.list (sl (eL (cx (eN 18)))),T):=by kernel_rfl
theorem zrq:gZ [.d (.int 19)] T=vd (eN 19,T) :=rfl
def zrr:cp 25 [.d (cx (eN 19))] T=vd (.list (sl (eL (cx (eN 19)))),T):=by kernel_rfl
theorem zrs:gZ [.d (.int 20)] T=vd (eN 20,T) :=rfl
def zrt:cp 25 [.d (cx (eN 20))] T=vd (.list (sl (eL (cx (eN 20)))),T):=by kernel_rfl
theorem zru:gZ [.d (.int 21)] T=vd (eN 21,T) :=rfl
def zrv:cp 25 [.d (cx (eN 21))] T=vd (.list (sl (eL (cx (eN 21)))),T):=by kernel_rfl
noncomputable def xX:([58,59,60,61].all λm=>Ls (eL (cx (eR m))))=xV/\([18,19,20,21].all λm=>Ls (eL (cx (eN m))))=xV:=by decide +kernel
noncomputable def iL(h:Ls (eL t)=xV)(e:∀T,cp 25 [.d t] T=vd (.list (sl (eL t)),T)):GW t (eL t):=by
 simp only[Ls,OW,decide_eq_true_eq,Pd] at h;exact⟨e,⟨h.1.1,λw hw=>⟨(h.2 w hw).1,(h.2 w hw).2⟩⟩,λz=>by simp_all⟩
noncomputable def zrw{m:Int}(h0:58<=m)(h1:m<62)(T:Tp):∃t ws,gp 25 [.d (.int m)] T=vd (t,T)/\GW (cx t) ws:=by
 have o:=Pd.mp xX.1
 have:m=58\/m=59\/m=60\/m=61:=by lia
 rcases this with rfl|rfl|rfl|rfl
 .exact⟨_,_,zrg,iL (o 58 (by decide)) λT=>zrh⟩
 .exact⟨_,_,zri,iL (o 59 (by decide)) λT=>zrj⟩
 .exact⟨_,_,zrk,iL (o 60 (by decide)) λT=>zrl⟩
 .exact⟨_,_,zrm,iL (o 61 (by decide)) λT=>zrn⟩
noncomputable def zrx{m:Int}(h0:18<=m)(h1:m<22)(T:Tp):∃t ws,gZ [.d (.int m)] T=vd (t,T)/\GW (cx t) ws:=by
 have o:=Pd.mp xX.2
 have:m=18\/m=19\/m=20\/m=21:=by lia
 rcases this with rfl|rfl|rfl|rfl
 .exact⟨_,_,zro,iL (o 18 (by decide)) λT=>zrp⟩
 .exact⟨_,_,zrq,iL (o 19 (by decide)) λT=>zrr⟩
 .exact⟨_,_,zrs,iL (o 20 (by decide)) λT=>zrt⟩
 .exact⟨_,_,zru,iL (o 21 (by decide)) λT=>zrv⟩
section
variable {C:Addr}
def RW.gw(h:RW C 0 n q r)(hn:n<=20):∃ws,GW r ws:=by
 obtain⟨c,ws,h,_⟩:=h;exact⟨ws,λT=>h.lw 25 T (by lia),⟨by have:=h.ln;have:=h.c6;lia,λw hw=>⟨(h.ok w hw).2,λc hc=>((h.ok w hw).1 c hc).1⟩⟩,h.ne⟩
structure CW(j:Nat)(t:OF)(ws:List Str):Prop where
 lw:∀k T,j+3<k->cp k [.d t] T=vd (.list (sl ws),T)
 ok:LK 1100 (3*j+3) ws
 ne:ws≠[]
noncomputable def kE(h:WK B w)(hs:LK B n ws):LK B (n+1) (w::ws):=⟨Nat.succ_le_succ hs.len,λu hu=>(OZ.mp hu).elim (λz=>z ▸ h) (hs.ws u)⟩
def oW(h:litOk w=xV):WK 1100 (OG w):=⟨(iM h).2,λc hc=>((iM h).1 c hc).1⟩
noncomputable def cw0:CW 0 (.tuple [.str "say",.tuple [.str "got",.int 11]]) [OG "say",OG "got",ns 11]:=by
 refine⟨λk T hk=>?_,kE (oW (rfl)) (kE (oW (rfl)) (kE ⟨(pE 11 (by decide)).2,λc hc=>((pE 11 (by decide)).1 c hc).1⟩ ⟨Pc _,λ_ z=>nomatch z⟩)),by simp⟩;obtain⟨k,rfl⟩:∃j,k=j+1:=⟨k-1,by lia⟩;have e:=(tj (C:=0)  (g:=12) (j:=11) (Pc _) (by decide) (by simp)).lw k T (by lia);exact rM  (ps:=[(.tuple [.str _,.int 11],[OG "got",ns 11])]) (by decide) (λq hq=>by simp at hq;subst hq;exact e) (by simp)
noncomputable def zry(hw:w="want"\/w="peek")(h:CW j t ws)(hj:j<=40):CW (j+1) (.tuple [.str (OG w),.tuple [.str "put",.str "a"],t]) (OG w::OG "put"::mk (cst 4 (.str "a"))::ws):=by
 have iv:aM (.str "a")=xV:=rfl
 have lw:litOk w=xV:=by rcases hw with rfl|rfl <;> decide +kernel
 refine⟨λk T hk=>?_,kE (oW lw) (kE (oW (rfl)) (kE ⟨(qV iv).2,λc hc=>((qV iv).1 c hc).1⟩ h.ok)),by simp⟩;obtain⟨k,rfl⟩:∃j,k=j+1:=⟨k-1,by lia⟩;have e:=(mH (C:=0) (m:=0)  (Pc _) iv).lw k T (by lia);have e2:=h.lw k T (by lia);have hl:=h.ok.len
 have:=rM (w:=w) (ps:=[(.tuple [.str _,.str _],[OG "put",mk _]),(t,ws)]) (by rcases hw with rfl|rfl <;> decide) (λq hq=>by
  simp_all
  rcases hq with rfl|rfl<;>omega) (by simp;lia)
 simpa using this
def CW.gw(h:CW j t ws)(hj:j<=20):GW t ws:=⟨λT=>h.lw 25 T (by lia),⟨by have:=h.ok.len;lia,h.ok.ws⟩,h.ne⟩
end
noncomputable def tU:FS:=(ay 2 (ag az (bH (cK (fC (.int 6))) bB (ar (dy 25) (ae (aa 2) (ae (fC (.int 0)) (ae (ag Ze (ax .list (ae (fC (.int 30)) (ae (fC (.int 60)) ah))) (ag f7 (aa 0) (fC (.int 2)))) (ae (fC (.int 20)) ah)))))) (ar nq (ae (aa 1) ah))))
noncomputable def Hm:FS:=(ak (ay 4 (ar (cp 25) (ae (aa 3) ah))) (ak (ay 5 (ar ke (ae (aa 1) (ae (aa 4) ah)))) (ak (YC (eg (aq (ag Zu (ar aX (ae (aa 1) (ae (fC (.int 3)) ah))) (fC (.int 0)))) (aq (ag Dj (YR aP (ae (aa 5) ah)) (fC (.int 0))))) (ay 5 (ar ke (ae (aa 1) (ae (aa 5) ah)))) aD) (YC (bj (dC (bq (mB gY (ae (ag iU (fC (.str " ")) (aa 4)) ah)))) (dC (bq (mB gY (ae (ag iU (fC (.str " ")) (aa 5)) ah))))) (au (fC (.bool zd))) aD))))
noncomputable def Ho:FS:=(ay 6 (ag Ze (ax .list (ae (fC (.str "say many")) (ae (fC (.str "say row 1")) (ae (fC (.str "say sum put 0")) (ae (fC (.str "want put 'a")) (ae (fC (.str "when put 0 say put 0")) ah)))))) (ar aX (ae (aa 1) (ae (fC (.int 5)) ah)))))
noncomputable def K6:FS:=(ay 7 (ag iU (fC (.str " ")) (YW (ag hZ (aa 6) (fC (.str " "))) (fP (du (aq (ag Zu (YW (aa 6) aS (fP (fC (.int 3)))) (fC (.str "say")))) (fC (.int 1)) (fC (.int 0)))) aS)))
noncomputable def DF:FS:=(au (mB gY (ae (ag az (ag az (aa 6) (ag er (ag az (fC (.str " ")) (aa 7)) (fC (.int 2000)))) (fC (.str " put 0"))) ah)))
def DM:FS:=(ak tU (ak (dX 3 (cQ (aa 2)) Hm) (ak Ho (ak K6 DF))))
def pI:YG:=aL 8 (sS 1 ut (ae (aa 0) ah) DM)
noncomputable def DZ:FS:=(ay 1 (ax .tuple (ae (ag Ze (ax .list (ae (fC (.str "want")) (ae (fC (.str "peek")) ah))) (ar aX (ae (aa 0) (ae (fC (.int 2)) ah)))) (ae (ax .tuple (ae (fC (.str "put")) (ae (fC (.str "a")) ah))) (ae (aa 1) ah)))))
noncomputable def bdR:FS:=(au (ax .list (ae (aa 1) (ae (ax .tuple (ae (fC (.str "say")) (ae (ar (gp 25) (ae (ag az (fC (.int 58)) (ar aX (ae (aa 0) (ae (fC (.int 4)) ah)))) ah)) ah))) (ae (ax .tuple (ae (fC (.str "say")) (ae (ar gZ (ae (ag az (fC (.int 18)) (ar aX (ae (aa 0) (ae (fC (.int 4)) ah)))) ah)) ah))) ah)))))
theorem zrz:nq=aL 3 (ak (ay 1 (ax .tuple (ae (fC (.str "say")) (ae (ax .tuple (ae (fC (.str "got")) (ae (fC (.int 11)) ah))) ah)))) (ak (dX 2 (cK (ag az (fC (.int 12)) (ar aX (ae (aa 0) (ae (fC (.int 2)) ah))))) DZ) bdR)):=rfl
theorem ya{i N:Nat}{body:FS}{P:Nat->Yy->Tp->Prop}:∀{ds:List OF}{j:Nat}{ρ:Yy}{T:Tp},j+ds.length<=N->P j ρ T->(∀d∈ds,∀j ρ T,j<N->P j ρ T->∃ρ' T',body (ρ.set i (vd (.d d))) T=vd ((.nx,ρ'),T')/\P (j+1) ρ' T')->∃ρ' T',forL i body ds ρ T=vd ((.nx,ρ'),T')/\P (j+ds.length) ρ' T'
 |[],j,ρ,T,_,p,_=>⟨ρ,T,rfl,p⟩
 |d::r,j,ρ,T,hN,p,h=>by
  rw[Po] at hN;obtain⟨YT,T1,e1,p1⟩:=h d OU j ρ T (by lia) p;obtain⟨B5,T2,e2,p2⟩:=ya  (by lia) p1 λx hx=>h x (OP _ hx);refine⟨B5,T2,?_,by grind⟩
  unfold forL<;>simp_all
theorem nZ:mB m g ρ T=Yz (g ρ T) (mF m):=rfl
def kn(h:Zo x):mF gY [.d (.str x)] T=vd (.d (.bool xV),T):=by
 have e:=zql h;unfold mF;rw[e];rfl
theorem wR:∀(ls:List (List Nat)),c∈ba s ls->c∈s\/∃l∈ls,c∈l
 |[],h=>by cases h
 |[x],h=>.inr ⟨x,OU,h⟩
 |x::y::r,h=>by
  have h:c∈x++s++ba s _:=h;simp only[Pq] at h
  rcases h with(h|h)|h
  .exact .inr ⟨x,OU,h⟩
  .exact .inl h
  .rcases wR _ h with h|⟨l,hl,h⟩
   .exact .inl h
   .exact .inr ⟨l,OP _ hl,h⟩
theorem zH:∀(ls:List (List Nat)),(∀l∈ls,PB l)->PB (ba [32] ls)
 |[],_=>PB.short (by decide)
 |[x],h=>h x OU
 |x::y::r,h=>by
  have e:ba [32] (x::y::r)=x++32::ba [32] (y::r):=by
   show x++[32]++ba [32] _=_<;>simp_all
  rw[e];exact(h x OU).app (zH _ λl hl=>h l (OP _ hl))
noncomputable def zi{L:List Str}(h:LK 1105 155 L):(L.map (·.length)).sum+L.length<=200000:=by
 have a:=sO  λw hw=>(h.ws w hw).len
 have b:=h.len<;>lia
noncomputable def lQ{L:List Str}(h:LK 1105 155 L):Zo (Py BL L) where
 len:=OS (wC L) (zi h)
 lo:=λc hc=>by
  rw[iH,tJ] at hc
  rcases wR _ hc with hc|⟨l,hl,hc⟩
  .simp_all
  .obtain⟨w,hw,rfl⟩:=Pu.mp hl
   exact(h.ws w hw).lo c hc
 pb:=by
  rw[iH];refine zH _ λl hl=>?_;obtain⟨w,hw,rfl⟩:=Pu.mp hl;refine PB.short ?_;have:=(h.ws w hw).len;rw[aU]
  lia
def ow(h:LK 1105 155 L):iU (.str " ") (.list (sl L))=vd (.str (Py BL L)):=x5 (zi h)
theorem LK.up(h:LK B n L)(hB:B<=B')(hn:n<=n'):LK B' n' L:=⟨OS h.len hn,λw hw=>(h.ws w hw).up hB⟩
abbrev Ct(s:OF)(rs:List OF)(o3 o4 o5:Option D.W):Yy:=[vd (.d s),vd (.tp 0),vd (.d (.list rs)),o3,o4,o5,zc,zc]
noncomputable def zsa{s t:OF}{rs:List OF}{o4 o5:Option D.W}{ws:List Str}{T:Tp}(g:GW t ws)(tp:bh [] T):∃BA By T',Hm (Ct s rs (vd (.d t)) o4 o5) T=vd ((.nx,Ct s rs (vd (.d t)) BA By),T')/\bh [] T':=by
 have lw:=g.lw T;obtain⟨L1,T1,e1,t1,k1⟩:=xg tp g.ok (by simp) (by simp) (by simp) g.ne;obtain⟨r,T2,e2,t2,r0,r1⟩:=bE (m:=3) t1 (by simp) (by simp);have gk:=g.ok.up (show 1100<=1105 by decide) (show 150<=155 by decide);have j0:=ow gk;have f0:=kn (T:=T2) (lQ gk)
 by_cases hr:r=0
 .subst hr
  by_cases hp:L1=[]
  .subst hp
   have Ky:=k1.up (show 1101<=1105 by decide) (show 151<=155 by decide);have j1:=ow Ky;have f1:=kn (T:=T2) (lQ Ky);refine⟨vd (.d (.list (sl ws))),vd (.d (.list (sl []))),T2,?_,t2⟩
   have z:¬(0:Int)<(([]:List Str).length:Int):=by decide
   have Es:(sl []:List OF)=[]:=rfl;rw[Es] at e1 j1;simp[Hm,lw,e1,e2,j0,j1,nZ,f0,f1,Es]
  .have FU:=Vt.mpr hp
   obtain⟨L2,T3,e3,t3,k2⟩:=xg t2 k1 (by decide) (by decide) (by decide) hp;have B8:=k2.up (show 1102<=1105 by decide) (show 152<=155 by decide);have j1:=ow B8;have f0':=kn (T:=T3) (lQ gk);have f1:=kn (T:=T3) (lQ B8)
   have CY:(0:Int)<(L1.length:Int):=by omega
   refine⟨vd (.d (.list (sl ws))),vd (.d (.list (sl L2))),T3,?_,t3⟩;simp[Hm,lw,e1,e2,e3,j0,j1,nZ,f0',f1,cE,CY,hp]
 .have Ky:=k1.up (show 1101<=1105 by decide) (show 151<=155 by decide)
  have j1:=ow Ky;have f1:=kn (T:=T2) (lQ Ky);refine⟨vd (.d (.list (sl ws))),vd (.d (.list (sl L1))),T2,?_,t2⟩;simp[Hm,lw,e1,e2,j0,j1,nZ,f0,f1,hr]
noncomputable def zsb(t:bh [] T):∃rs T',nq [.tp 0] T=vd (.list rs,T')/\bh [] T'/\rs.length=3/\∀d∈rs,∃ws,GW d ws:=by
 obtain⟨i,T1,e1,t1,i0,i1⟩:=bE (m:=2) t (by decide) (by decide);obtain⟨k,rfl⟩:=RD i0;have r12:=fL (j:=12+(k:Int)) (by lia) (by lia)
 have nl:(bA 0 (12+(k:Int)).toNat).length=12+k:=by rw[jp];lia
 obtain⟨YT,T2,f1,v,wv,o2,rfl,h2,t2⟩:=ya (i:=2) (N:=14) (body:=DZ) (ds:=bA 0 (12+(k:Int)).toNat) (j:=0) (P:=λj ρ T=>∃v ws o2,ρ=[vd (.tp 0),vd (.d v),o2]/\CW j v ws/\bh [] T)
    (T:=T1) (by lia) ⟨_,_,zc,rfl,cw0,t1⟩ (by
   rintro d hd j ρ T hj ⟨v,ws,o2,rfl,h,t⟩;obtain⟨c,T2,e2,t2,c0,c1⟩:=bE (m:=2) t (by decide) (by decide)
   obtain⟨wd,Hu,EL⟩:∃wd:String,(wd="want"\/wd="peek")/\Zd [QC "want",.str "peek"] c=vd (.str (OG wd)):=by
    obtain⟨d,h,hm⟩:=fS (xs:=[QC "want",.str "peek"]) c0 (by simpa using c1)<;>simp_all
   exact⟨_,T2,by simp[DZ,e2,EL];rfl,_,_,_,rfl,zry Hu h (by lia),t2⟩)
 rw[nl,Nat.zero_add] at h2;obtain⟨a,T3,e3,t3,a0,a1⟩:=bE (m:=4) t2 (by decide) (by decide);obtain⟨x,xw,ex,gx⟩:=zrw (m:=58+a) (by lia) (by lia) T3;obtain⟨b,T4,e4,t4,b0,b1⟩:=bE (m:=4) t3 (by decide) (by decide);obtain⟨y,yw,ey,gy⟩:=zrx (m:=18+b) (by lia) (by lia) T4;refine⟨[v,cx x,cx y],T4,?_,t4,rfl,λd hd=>?_⟩
 .rw[zrz]
  simp[e1,r12,f1,bdR,e3,ex,e4,ey,cx]
 .simp only[OZ,QO,or_false] at hd
  rcases hd with rfl|rfl|rfl
  .exact⟨_,h2.gw (by lia)⟩
  .exact⟨_,gx⟩
  .exact⟨_,gy⟩
noncomputable def zsc(k:Nat)(a acc:Array Nat):((OQ k a).foldl (·++·) acc).toList=acc.toList++(OQ k a.toList).flatten:=by
 induction k generalizing acc with
 |zero=>simp
 |succ k ih=>
  rw[Rq,WE,ih,Rq,QU,Array.toList_append,SD]
noncomputable def zsd(h:x.length≠0):cd (TM x 2000)=(OQ 2000 (cd x)).flatten:=by
 unfold TM
 have n:((2000:Int) == 1||x.length == 0)=zd:=by simp_all
 have t:(2000:Int).toNat=2000:=by decide
 rw[n,t];generalize 2000=k;exact(zsc k _ #[]).trans (Sa _)
theorem PB.rep(hm:PB m)(hz:PB z):∀(k:Nat) (a:List Nat),PB a->PB (a++((OQ k (32::m)).flatten++32::z))
 |0,a,ha=>ha.app hz
 |k+1,a,ha=>by
  rw[Rq,QU,SD];exact ha.app (PB.rep hm hz k m hm)
def zse(l:List Nat):∀k:Nat,((OQ k l).flatten).length=k*l.length
 :=by simp
def zsf(h:c∈(OQ k l).flatten):c∈l:=by obtain⟨x,hx,hc⟩:=Wr.mp h<;>simp_all
def Cm:List Str:=["say many","say row 1","say sum put 0","want put 'a","when put 0 say put 0"].map OG
def Js:List Str:=["many","row 1","sum put 0","want put 'a","when put 0 say put 0"].map OG
def Kn:Str:=OG " put 0"
noncomputable def zsg(h:((cd a).all λc=>decide (c<128))&&((cd m).all λc=>decide (c<128))&&decide (a.length<=50)&&decide (m.length<=50)):Zo (a++TM (OG " "++m) 2000++Kn):=by
 simp_all
 obtain⟨⟨⟨ha,hm⟩,la⟩,lm⟩:=h
 have e1:cd (OG " "++m)=32::cd m:=by
  rw[gI];rfl
 have ln:(OG " "++m).length≠0:=by
  rw[←aU,e1,Po]
  lia
 have et:cd Kn=32::cd "put 0":=rfl
 have e:cd (a++TM (OG " "++m) 2000++Kn)=cd a++((OQ 2000 (32::cd m)).flatten++32::cd "put 0"):=by
  rw[gI,gI,zsd ln,e1,et,SD]
 have lp:(cd "put 0").length=5:=rfl;have e2:=zse (32::cd m) 2000
 have e3:∀c∈(OQ 2000 (32::cd m)).flatten,c<128:=λc hc=>by
  rcases OZ.mp (zsf hc) with rfl|hc
  .decide
  .exact hm c hc
 have e4:=PB.rep (m:=cd m) (z:=cd "put 0") (PB.short (by rw[aU];lia)) (PB.short (by rw[lp];decide)) 2000 (cd a) (PB.short (by rw[aU];lia));refine⟨?_,λc hc=>?_,e ▸ e4⟩
 .rw[←aU,e,Pz,Pz,e2,Po,Po,lp,aU,aU]
  lia
 .rw[e] at hc
  rcases Pq.mp hc with hc|hc
  .exact ha c hc
  .rcases Pq.mp hc with hc|hc
   .exact e3 c hc
   .rcases OZ.mp hc with rfl|hc
    .decide
    .exact(show ∀c∈cd "put 0",c<128 by decide +kernel) c hc
theorem xZ{s:OF}{rs:List OF}:∀(ds:List OF) (o3 o4 o5:Option D.W) (T:Tp),(∀d∈ds,∃ws,GW d ws)->bh [] T->∃o3' BA By T',forL 3 Hm ds (Ct s rs o3 o4 o5) T=vd ((.nx,Ct s rs o3' BA By),T')/\bh [] T'
 |[],o3,o4,o5,T,_,t=>⟨o3,o4,o5,T,rfl,t⟩
 |d::r,o3,o4,o5,T,h,t=>by
  obtain⟨ws,g⟩:=h d OU;obtain⟨p4,p5,T1,e1,t1⟩:=zsa (s:=s) (rs:=rs) (o4:=o4) (o5:=o5) g t;obtain⟨q3,q4,q5,T2,e2,t2⟩:=xZ (s:=s) (rs:=rs) r (vd (.d d)) p4 p5 T1 (λx hx=>h x (OP _ hx)) t1;refine⟨q3,q4,q5,T2,?_,t2⟩
  unfold forL<;>simp_all
noncomputable def zsh{s:OF}{T:Tp}(t:bh [] T):∃rs T',tU [vd (.d s),vd (.tp 0),zc,zc,zc,zc,zc,zc] T=vd ((.nx,Ct s rs zc zc zc),T')/\bh [] T'/\∀d∈rs,∃ws,GW d ws:=by
 obtain⟨ys,T1,e1,t1,l1,q1⟩:=lS (P:=bh [])  (ds:=bA 0 6)
  (e:=ar (dy 25) (ae (aa 2) (ae (fC (.int 0)) (ae (ag Ze (ax .list (ae (fC (.int 30)) (ae (fC (.int 60)) ah))) (ag f7 (aa 0) (fC (.int 2)))) (ae (fC (.int 20)) ah))))) (ρ:=[vd (.d s),vd (.tp 0),zc,zc,zc,zc,zc,zc]) t (λd hd T t=>by
   obtain⟨j,_,rfl⟩:=Pu.mp hd
   obtain⟨room,h1,h2⟩:∃room:Int,Zd [Qj 30,.int 60] ((0+(j:Int)) % 2)=vd (.int room)/\(room=30\/room=60):=by
    obtain⟨d,h,hm⟩:=fS (xs:=[Qj 30,.int 60]) (i:=(0+(j:Int)) % 2) (by lia) (by
     show (0+(j:Int)) % 2<2
     lia)
    simp  at hm
    rcases hm with rfl|rfl
    .exact⟨30,h,.inl rfl⟩
    .exact⟨60,h,.inr rfl⟩
   obtain⟨r,T',e,t',w⟩:=nP (C:=0) 20 25 T room 0 t (by simp) (by decide) (by simp) (by decide) (by simp) (by lia) (by lia)
   refine⟨r,T',?_,t',w.gw (by decide)⟩<;>simp_all)
 obtain⟨zs,T2,e2,t2,l2,q2⟩:=zsb t1;refine⟨ys++zs,T2,?_,t2,λd hd=>(Pq.mp hd).elim (q1 d) (q2 d)⟩;have r6:jM 6=xV:=rfl
 have l6:ys.length=6:=by rw[l1,jp]
 have sz:6+3<=sizeLine:=by decide
 simp[tU,r6,e1,e2,l6,l2,sz]
noncomputable def zsi(h:fr (ρ.set i (vd (.tp 0))) [xs]=vd ((fl,ρ'),[xs'])):oQ i fr ρ (.list xs) []=vd ((fl,li 0 ρ'),[]):=by
 show kB _ _=_
 simp_all
 unfold kB;exact if_pos rfl
theorem yo:(Cm.zip Js).all (λp=>((cd p.1).all λc=>decide (c<128))&&((cd p.2).all λc=>decide (c<128))&&decide (p.1.length<=50)&&decide (p.2.length<=50))=xV :=rfl
section
variable {o0 o1 o2 o3 o4 o5 o7:Option D.W}{T:Tp}
noncomputable def dm0:K6 [o0,o1,o2,o3,o4,o5,vd (.d (.str "say many")),o7] T=vd ((.nx,[o0,o1,o2,o3,o4,o5,vd (.d (.str "say many")),vd (.d (.str "many"))]),T):=by kernel_rfl
noncomputable def dm1:K6 [o0,o1,o2,o3,o4,o5,vd (.d (.str "say row 1")),o7] T=vd ((.nx,[o0,o1,o2,o3,o4,o5,vd (.d (.str "say row 1")),vd (.d (.str "row 1"))]),T):=by kernel_rfl
noncomputable def dm2:K6 [o0,o1,o2,o3,o4,o5,vd (.d (.str "say sum put 0")),o7] T=vd ((.nx,[o0,o1,o2,o3,o4,o5,vd (.d (.str "say sum put 0")),vd (.d (.str "sum put 0"))]),T):=by kernel_rfl
noncomputable def dm3:K6 [o0,o1,o2,o3,o4,o5,vd (.d (.str "want put 'a")),o7] T=vd ((.nx,[o0,o1,o2,o3,o4,o5,vd (.d (.str "want put 'a")),vd (.d (.str "want put 'a"))]),T):=by kernel_rfl
noncomputable def dm4:K6 [o0,o1,o2,o3,o4,o5,vd (.d (.str "when put 0 say put 0")),o7] T=vd ((.nx,[o0,o1,o2,o3,o4,o5,vd (.d (.str "when put 0 say put 0")),vd (.d (.str "when put 0 say put 0"))]),T):=by kernel_rfl
noncomputable def zsj(h:a∈Cm):∃m,K6 [o0,o1,o2,o3,o4,o5,vd (.d (.str a)),o7] T=vd ((.nx,[o0,o1,o2,o3,o4,o5,vd (.d (.str a)),vd (.d (.str m))]),T)/\(a,m)∈Cm.zip Js:=by
 simp only[Cm,PD,X9,OZ,QO,or_false] at h
 rcases h with rfl|rfl|rfl|rfl|rfl
 .exact⟨_,dm0,by simp[Cm,Js]⟩
 .exact⟨_,dm1,by simp[Cm,Js]⟩
 .exact⟨_,dm2,by simp[Cm,Js]⟩
 .exact⟨_,dm3,by simp[Cm,Js]⟩
 .exact⟨_,dm4,by simp[Cm,Js]⟩
end
def oF(x y:Str):(x++y).length=x.length+y.length:=by rw[←aU,gI,Pz,aU,aU]
def xI(h:a ρ T=vd ((.nx,YT),T1)):ak a b ρ T=b YT T1 :=by simp_all
noncomputable def zsk{s:OF}{rs:List OF}{o3 o4 o5:Option D.W}{T:Tp}(t:bh [] T):∃ρ' T',(ak Ho (ak K6 DF)) (Ct s rs o3 o4 o5) T=vd ((.rt (.bool xV),ρ'),T')/\bh [] T':=by
 obtain⟨c,T1,e1,t1,c0,c1⟩:=bE (m:=5) t (by simp) (by simp);obtain⟨d,hd,hm⟩:=fS (xs:=sl Cm) c0 c1;obtain⟨a,ha,rfl⟩:=Pu.mp hm;obtain⟨m,em,hz⟩:=zsj (o0:=vd (.d s)) (o1:=vd (.tp 0)) (o2:=vd (.d (.list rs))) (o3:=o3) (o4:=o4) (o5:=o5) (o7:=zc) (T:=T1) ha;have fn:=zsg (Pd.mp yo _ hz);dsimp only at fn;have fl:=fn.len;rw[oF,oF] at fl
 have z:200000<=sizeLine:=by decide
 have rc:=kn (T:=T1) fn;have Ef:Zd [QC "say many",.str "say row 1",.str "say sum put 0",.str "want put 'a",.str "when put 0 say put 0"] c=vd (.str a):=hd
 have s6:Ho (Ct s rs o3 o4 o5) T=vd ((.nx,[vd (.d s),vd (.tp 0),vd (.d (.list rs)),o3,o4,o5,vd (.d (.str a)),zc]),T1):=by
  simp[Ho,e1,Ef]
 have GT:=Pd.mp yo _ hz;simp only[OW,decide_eq_true_eq] at GT
 have b1:(OG " ").length+m.length<=sizeLine:=by
  have:(OG " ").length=1:=rfl
  lia
 have b2:(OG " "++m).length<=1000:=by
  have:(OG " ").length=1:=by decide
  rw[oF]
  lia
 have b3:a.length+(TM (OG " "++m) 2000).length<=sizeLine:=by lia
 have b4:(a++TM (OG " "++m) 2000).length+Kn.length<=sizeLine:=by
  rw[oF]
  lia
 have sR:DF [vd (.d s),vd (.tp 0),vd (.d (.list rs)),o3,o4,o5,vd (.d (.str a)),vd (.d (.str m))] T1=vd ((.rt (.bool xV),[vd (.d s),vd (.tp 0),vd (.d (.list rs)),o3,o4,o5,vd (.d (.str a)),vd (.d (.str m))]),T1):=by
  unfold Kn at b4 rc;have fz:∀(o:Option D.W) (r:Yy),cb (o::r)=Rn tW o::cb r:=λ_ _=>rfl;simp[DF,nZ,fz,tW,b1,b2,b3,b4,rc]
 exact⟨_,T1,(xI s6).trans ((xI em).trans sR),t1⟩
noncomputable def EN(ns:List Int)(hl:ns.length<=63):∃T',pI [.d (.list (ns.map Qj))] []=vd (.bool xV,T'):=by
 have t0:bh [] [[.list _,.int 0,.int 0]]:=⟨ns,0,0,rfl,hl,by decide,by decide⟩;obtain⟨rs,T1,e1,t1,g⟩:=zsh (s:=.list (ns.map Qj)) t0;obtain⟨o3,o4,o5,T2,e2,t2⟩:=xZ (s:=.list (ns.map Qj)) (rs:=rs) rs zc zc zc T1 g t1;obtain⟨ρ',T3,e3,t3⟩:=zsk (s:=.list (ns.map Qj)) (rs:=rs) (o3:=o3) (o4:=o4) (o5:=o5) t2
 have eA:DM [vd (.d (.list (ns.map Qj))),vd (.tp 0),zc,zc,zc,zc,zc,zc] [[.list (ns.map Qj),.int 0,.int 0]]=vd ((.rt (.bool xV),ρ'),T3):=by
  unfold DM<;>simp_all
 obtain⟨ns',sp,rst,rfl,_⟩:=t3;have oo:=zsi (i:=1) (ρ:=[vd _,zc,zc,zc,zc,zc,zc,zc]) eA;refine⟨[],?_⟩;unfold pI
 simp_all
 rw[show sS 1 _ _ DM [vd _,zc,zc,zc,zc,zc,zc,zc] []=oQ 1 DM [vd _,zc,zc,zc,zc,zc,zc,zc] (.list [.list _,.int 0,.int 0]) [] from rfl,oo];rfl
section
variable {P:Pb}{w:Pp}{K:Frag}{mg:Str->Option OH}{base:Heap}{C W R A1 A2 A3 A4 A5:Addr}(E:Ev P w K mg base (Bi K mg C) top zS)(ZS:XE.ZM (XE.ig HW F5) P w K mg base W R "at" 1)(c:Ir K mg W R A1 A2 A3 A4 A5)
include E ZS c
noncomputable def zsl(F:Gy K "law" "law" (top 88) f fd):YJ P w K mg base ZA 114 f fd ["_law_script"] (Zq K 1 pI):=zjt E ["_law_script","_law_tape_here","_law_recipes","_law_recipe_here","_law_words_here","_law_bent","_law_deep","_law_more"] F λB S hr=>(zhc (i:=1) (zpa E) (hr.mono (by omega)) rfl S.nd (ai (af 0) aw) (aO bp) (aA (aF (i:=2) S.nd (av aH (dY (top 88) ["_law_script","_law_tape_here","_law_recipes","_law_recipe_here","_law_words_here","_law_bent","_law_deep","_law_more"] (di rfl B.z aj) (dG (zpj E 25) hr (af 2) aj (bS bQ (aY (ai aj (ai aj aw))) (av iR (af 0) aj)) aj)) (bf (zps E) hr (af 1)))) (aA (gH (i:=3) S.nd (dN (af 2)) (aA (aF (i:=4) S.nd (bf (zpk E 25) hr (af 3))) (aA (aF (i:=5) S.nd (aV (ul E) hr (af 1) (af 4))) (aA (bF (bR (jK (aB aN (aV (bC E) hr (af 1) aj) aj) (jy (aB eW (Zw B.z (af 5)) aj)))) (bb (aF (i:=5) S.nd (aV (ul E) hr (af 1) (af 5)))) cf) (bb (bF (bR (bM (fu (bL (rD (qe E ZS c) (hr.mono (by omega)) rfl (ai (og ao (af 4)) aw) (aO bp)))) (cO (fu (bL (rD (qe E ZS c) (hr.mono (by omega)) rfl (ai (og ao (af 5)) aw) (aO bp))))))) (YS dD) cf)))))) (aA (aF (i:=6) S.nd (bS bQ (aY (ai ao (ai ao (ai ao (ai ao (ai ao aw)))))) (aV (bC E) hr (af 1) aj))) (aA (aF (i:=7) S.nd (og ao (bu (rB (af 6) ao) (bi (gP (aB aN (bu (af 6) bP (bi aj)) ao) aj aj)) bP))) (YS (rD (qe E ZS c) (hr.mono (by omega)) rfl (ai (av aH (av aH (af 6) (av iQ (av aH ao (af 7)) aj)) ao) aw) (aO bp))))))))
end
noncomputable def all_mk{l:UK}{K:Frag}{h:Heap}{mg:Str->Option OH}(X:K.In h)(G:h.Ns Pt mg)(hfa:mg "law"=vd (.ref fa))(d:G1 K top zS)(z:ZL K zZ)(i:IL K zI)(s:SL K zT)(qC:PL K Pt "Words"=vd (vd (.ref C)))(kC:tZ K C=xV)(gC:DL K C=xV)(D7:K2 K C "begun"=xV)(HD:K2 K C "parted"=xV)(K5:K2 K C "place"=xV)(d_Words____init__:Kk K C "__init__" "Words.__init__" (dU 51 0))(d_Words__ahead:Kk K C "ahead" "Words.ahead" (dU 51 1))(d_Words__take:Kk K C "take" "Words.take" (dU 51 2))(d_Words__begin:Kk K C "begin" "Words.begin" (dU 51 3))(d_Words__finish:Kk K C "finish" "Words.finish" (dU 51 4))(ZZ:PL K Pt "RECIPES_WITHIN"=vd (vd (.ref Y4)))(Z0:K.lookup Y4=vd Zn)(ZY:p7 Y4 Zn [("say",0),("fail",0),("want",1),("peek",1),("when",2)]=xV)(HM:PL K Pt "WITHIN"=vd (vd (.ref Kx)))(KJ:K.lookup Kx=vd Kr)(CO:p7 Kx Kr [("many",1),("part",2),("sum",2),("join",2),("same",2),("less",2)]=xV)(F4:PL K Pt "FILLED"=vd (vd (.ref Gb)))(Ih:K.lookup Gb=vd Ks)(HL:tP Ks ["put","got","row"]=xV)(BX:PL K Pt "GETTING"=vd (vd (.ref Kf)))(C6:K.lookup Kf=vd HZ)(BI:tP HZ ["want","peek"]=xV)(BE:PL K Pt "BadWord"=vd (vd (.ref F9)))(En:PL K Pt "RedoError"=vd (vd (.ref XR)))(Iu:PL K Pt "BadLine"=vd (vd (.ref A1)))(E6:PL K Pt "NoLine"=vd (vd (.ref A2)))(Ff:PL K Pt "NoName"=vd (vd (.ref A3)))(Dh:PL K Pt "NoRecipe"=vd (vd (.ref A4)))(E9:PL K Pt "NoRow"=vd (vd (.ref A5)))(xW:XE.XB K F9 XR "at" [])(n_1:XE.EO K F9 A1)(n_2:XE.EO K F9 A2)(n_3:XE.EO K F9 A3)(n_4:XE.EO K F9 A4)(n_5:XE.EO K F9 A5)(ZC:Kk K F9 "__init__" "BadWord.__init__" (dU 2 0))
  (hm:∀ns:List Int,ns.length<=63->∃T',pI [.d (iJ ns)] []=vd (.bool xV,T')) :
  ∃fd:Qm,(∀(s:OJ) (v:OH),VX s fd ⟨[v],[]⟩ [("_law_script",v)])/\∀base:Heap,K.In base->base.Ns Pt mg->YJ l.prog w K mg base ZA 114 fa fd ["_law_script"] (pC K):=by
 obtain⟨f0,oc,od,an,sl,kV,dc,pm,cd,ct,a,lk,c,kp⟩:=(d.at (x:="law") (i:=88) (rfl)).ex;cases hfa.symm.trans (P3 X G a);have B:Bi K mg C:=⟨zjr X G z i s,zgr kC,P3 X G qC,sN D7,sN HD,sN K5,d_Words____init__,d_Words__ahead,d_Words__take,d_Words__begin,d_Words__finish,gC,⟨_,P3 X G ZZ,u9 Z0 ZY⟩,⟨_,P3 X G HM,u9 KJ CO⟩,⟨_,P3 X G F4,u7 Ih HL⟩,⟨_,P3 X G BX,u7 C6 BI⟩⟩;have mR:=P3 X G En;have cX:Ir K mg F9 XR A1 A2 A3 A4 A5:=⟨xW,mR,P3 X G BE,P3 X G Iu,P3 X G E6,P3 X G Ff,P3 X G Dh,P3 X G E9,B.z,B.z,n_1,n_2,n_3,n_4,n_5⟩;exact⟨PF "law" "law" (bX (top 88)) (bt (top 88)) (aK (top 88)) .none kV dc pm an cd ct,λs v=>.of_eq rfl,λbase _ _=>zgw (zsl ⟨⟨_,X,G⟩,B,d⟩ (zpw xW mR ZC) cX (jI (st:=top 88) lk c kp)) (zgx hm)⟩
noncomputable def walk{l:UK}{XP:(Str->Option OH)->Heap->Prop}{YP:Pp->Heap->Prop}{d:DefRec}{K:X4->Frag}(hn:l.most=vd 63)(K0:d.params.defaults=[])
  (hY:∀(w:Pp) (h:Heap),YP w h->(K w.params).In h)
  (F:∀(w:Pp) (mg:Str->Option OH) (fa:Addr) (h:Heap),(K w.params).In h->h.Ns Pt mg->mg d.name=vd (.ref fa) ->
   ∃fd:Qm,(∀(s:OJ) (u:OH),VX s fd ⟨[u],[]⟩ [("_law_script",u)])/\∀base:Heap,(K w.params).In base->base.Ns Pt mg->YJ l.prog w (K w.params) mg base ZA 114 fa fd ["_law_script"] (pC (K w.params))) :
  Vz q loose XP YP l.row.toRowW d [] (λf vs=>UB f vs):=L2.zef (n:=63) (k:=114) (x:="_law_script") (CX:=λ_=>ZA) (sp:=λw=>pC (K w.params)) hn (by decide) K0 ⟨rfl,by decide,by decide,rfl⟩ hY F (λ_ _ a ns hl _ hS=>⟨a,ns,rfl,hS,hl,λ_=>rfl⟩) λ_ _ _ _ _ z=>z
open PySem PySem.Spec PySem.Calls PySem.W PyProof.Rows PySem.W.X PySem.W.ZRun
noncomputable def walkZ{q:Pb}{loose:List Str}{XP:(Str->Option OH)->Heap->Prop}{K:X4->Frag}{r:RowW}{d:DefRec}{kwd:List (Str×Expr)}
  {w:Pp}{s₀ za:OJ}{mg mb:Str->Option OH}{a:Addr}{o:Obj}{pm cd doc dV kV:OH}{args:List WData}{vals:List OH}{as:List Addr}
  (KX:(K w.params).In za.heap) (GR:Ground q loose r.records XP w s₀ mg mb za.heap) (ho:za.heap.get? a=vd o)
  (hd:o.data=.func { docDef d.name d.params d.body d.scope pm cd doc with defaults:=dV,kwdefaults:=kV }) (hcd:za.heap.CodeRec cd d.name) (hD:Dflts mg za.heap d.params kwd dV kV) (hmg:mg d.name=vd (.ref a)) (hg:za.gens = #[])
  (hpre:r.claim.pre args=xV) (hlay:WData.layableAll args=xV) (hrd:ReadsAllW r.records (classAt s₀.heap) za.heap vals args as) (hwl:WellAll w.params za.heap vals args) (hlo:∀a∈as,(a == Qv)=zd)
  (W:Vz q loose XP (λw h=>(K w.params).In h) r d kwd λf vs=>UB f vs) :
  Pk (Pi r.prog w) UA (UB (.ref a) vals) (λv s'=>GoodWG r.claim (classAt s₀.heap) (XG s₀.heap) args za (.ok (.ret v)) s')
    (λe s'=>GoodWG r.claim (classAt s₀.heap) (XG s₀.heap) args za (.error e) s') za:=W w s₀ za mg mb GR KX a o pm cd doc dV kV ho hd hcd hD hmg hg args vals as hpre hlay hrd hwl hlo
end G
end Internal
namespace PySem.W.Fast
def tw14704632228882462206:=Nat
def tw8224242696181587017:=Nat
def tw6553194613676525136:=Nat
def tw6277180880637367041:=Nat
def tw16133414078116582402:=Nat
def tw11563528751811233176:=Nat
def tw2359191504032143049:=Nat
def tw7124169534056780672:=Nat
def tw10187459112230802761:=Nat
def tw17840032965704264730:=Nat
def tw564840551750880653:=Nat
def tw12640514911726828722:=Nat
def tw16891207735674424973:=Nat
def tw14719388403862352864:=Nat
def tw10105266544114303638:=Nat
def tw17798109118383880358:=Nat
def tw800882498588654256:=Nat
def tw5576816317651785761:=Nat
def tw6711037897173428913:=Nat
def tw11644781243909616320:=Nat
def tw15313188217041203661:=Nat
def tw13499621480507753739:=Nat
def tw4497197823338386880:=Nat
def tw15004697090175146848:=Nat
def tw9672245017024024074:=Nat
def tw15746784271603976355:=Nat
def tw11766819158359567767:=Nat
def tw10317830430468505478:=Nat
def tw15218891753838494516:=Nat
def tw11613664512907011209:=Nat
def tw14260148998037819524:=Nat
def tw1532760280205068093:=Nat
def tw6225997920933527101:=Nat
def tw7650899632784341824:=Nat
def tw18269399196095645255:=Nat
def tw493034015075234577:=Nat
def tw3857971860349487708:=Nat
def tw783814132204925457:=Nat
def tw5567042570440433508:=Nat
def tw4109904601948750045:=Nat
def tw5210473150669296590:=Nat
def tw786623444855254489:=Nat
def tw3169359008932489939:=Nat
def tw2448309990967978428:=Nat
def tw17552605186000368397:=Nat
def tw16566489712477769229:=Nat
def tw1426750431830087336:=Nat
def tw12059769960600454696:=Nat
def tw10298173425238551856:=Nat
def tw14336291662009720987:=Nat
def tw9631301201241735130:=Nat
def tw15109939779430007352:=Nat
def tw8311893193263358590:=Nat
def tw16452182971068456314:=Nat
def tw7417922700814295933:=Nat
def tw11422065784034502228:=Nat
def tw17548949085643405146:=Nat
def tw6096389522839524923:=Nat
def tw17561261780948261901:=Nat
def tw12720453573349531646:=Nat
def tw5333484982576078671:=Nat
def tw12310865535830986499:=Nat
def tw9732807540503058854:=Nat
def tw10978224104511323733:=Nat
def tw3514711663515427499:=Nat
def tw8040716056900258912:=Nat
def tw14239772455963494863:=Nat
def tw11640363130891213209:=Nat
def tw9226751811586674758:=Nat
def tw12429674652692385473:=Nat
def tw2740691403564566683:=Nat
def tw6183946493014550350:=Nat
def tw11076561283621740565:=Nat
def tw765187504429048342:=Nat
def tw6468423663316635297:=Nat
def tw4367214580525213230:=Nat
def tw2620363117266968051:=Nat
def tw17720889211074459226:=Nat
def tw16594178404282889992:=Nat
def tw9315199593670682231:=Nat
def tw13643374211636665078:=Nat
def tw2403928333974145937:=Nat
def tw1821806819415745127:=Nat
def tw6562657776183690192:=Nat
def tw10067537355717595059:=Nat
def tw5691431411956130327:=Nat
def tw7609182149210185072:=Nat
def tw5455227349295962499:=Nat
def tw3692810349737476391:=Nat
def tw15342212481779888187:=Nat
def tw12033880459981978979:=Nat
def tw8255014434687996465:=Nat
def tw900396815253268378:=Nat
def tw12974833261637925433:=Nat
def tw4351213926698669962:=Nat
def tw17747595496207619461:=Nat
def tw14705518506796453004:=Nat
def tw8123698949990372944:=Nat
def tw1907250838008039350:=Nat
def tw3492029722501559728:=Nat
def tw2498487592855345717:=Nat
def tw555447866176310740:=Nat
def tw7267017553833555905:=Nat
def tw8557152050934071301:=Nat
def tw11156037118737963682:=Nat
def tw10584463921222469240:=Nat
def tw6229220940299633359:=Nat
def tw4878810501437337457:=Nat
def tw16091764150771557493:=Nat
def tw77374471545479814:=Nat
def tw9573605491868149072:=Nat
def tw458671122830759062:=Nat
def tw15679567161779246559:=Nat
def tw497078350240635006:=Nat
def tw12347722865836025313:=Nat
def tw4568674300372771799:=Nat
def tw10779228435795091008:=Nat
def tw2343223215535712308:=Nat
def tw7684914969332937730:=Nat
def tw7278286754310568270:=Nat
def tw7819606116050229976:=Nat
def tw4067162653512712522:=Nat
def tw11129422818301068504:=Nat
def tw10432238244248896748:=Nat
def tw6802647190618044214:=Nat
def tw3679256028892583826:=Nat
def tw16803046414487820194:=Nat
def tw16992985496098813733:=Nat
def tw9559929203517359150:=Nat
def tw11442330223679574641:=Nat
def tw2961621129309738048:=Nat
def tw1297285840465122715:=Nat
def tw7209092489834630283:=Nat
def tw17956622620018240081:=Nat
def tw11128978977786585373:=Nat
def tw5443902048919321357:=Nat
def tw4555475379674758054:=Nat
def tw9189175520181956193:=Nat
def tw13182147254770913096:=Nat
def tw15895834556297865379:=Nat
def tw9167584770555794318:=Nat
def tw779329798142394280:=Nat
def tw4560198397332669950:=Nat
def tw16685209751843331633:=Nat
def tw1015597490213711090:=Nat
def tw4169757937846898551:=Nat
def tw5826520867132755483:=Nat
def tw5052161289803492430:=Nat
def tw1702468110113672636:=Nat
def tw3903795261015123845:=Nat
def tw18274369540099841144:=Nat
def tw12453325994223440396:=Nat
def tw16930275783206122601:=Nat
def tw13383273851920913500:=Nat
def tw918917376964577906:=Nat
def tw5315391950334374175:=Nat
def tw18418431567336345798:=Nat
def tw5253385823122455536:=Nat
def tw7684999919144818250:=Nat
def tw10240057958663908514:=Nat
def tw9600549998879568282:=Nat
def tw11950571637791781845:=Nat
def tw2298878749649265958:=Nat
def tw11983390709404137836:=Nat
def tw13416056620006744702:=Nat
def tw16417369924759254199:=Nat
def tw18438159316185847564:=Nat
def tw3010669577238481485:=Nat
def tw971811271382145996:=Nat
def tw3662921539104946676:=Nat
def tw11486146177845038195:=Nat
def tw9350911713915569726:=Nat
def tw2303240122255108872:=Nat
def tw8426086780554273630:=Nat
def tw14589049279598766487:=Nat
def tw9231735921730971112:=Nat
def tw8805369661052506766:=Nat
def tw6230923563140065894:=Nat
def tw4933765219740138850:=Nat
def tw10897374945834518918:=Nat
def tw6278865553638412556:=Nat
def tw18366915403511239960:=Nat
def tw13401774223754860269:=Nat
def tw1680575462987014828:=Nat
def tw15036895996487190530:=Nat
def tw18370513716716432421:=Nat
def tw3043984694514214285:=Nat
def tw5784797119524831453:=Nat
def tw135261457960173803:=Nat
def tw2002407011758935768:=Nat
def tw6848155605575519949:=Nat
def tw14178568229783955693:=Nat
def tw11475604302107228428:=Nat
def tw8630198771577406140:=Nat
def tw11313172494419378877:=Nat
def tw536559006073764192:=Nat
def tw16240992651136652694:=Nat
def tw3297158662164461491:=Nat
def tw14585366019442442485:=Nat
def tw10346425139987199709:=Nat
def tw15732161038409967580:=Nat
def tw13163196590388336862:=Nat
def tw11567066318643544169:=Nat
def tw10448440190934715772:=Nat
def tw6546804476407103086:=Nat
def tw7055096899590184484:=Nat
def tw5074576474955192345:=Nat
def tw9898461111317120028:=Nat
def tw5955867981669358717:=Nat
def tw6258400873817412675:=Nat
def tw9571874883978510417:=Nat
def tw4489153350071824992:=Nat
def tw16353336294185456949:=Nat
def tw9971262210454859835:=Nat
def tw8852719163155354338:=Nat
def tw8853312329124226454:=Nat
def tw12942283330912835432:=Nat
def tw7387239766065563503:=Nat
def tw16637662439304933919:=Nat
def tw16239168359008736902:=Nat
def tw14245478894666032136:=Nat
def tw10884577533092398318:=Nat
def tw4748686574749568440:=Nat
def tw16583087138832450929:=Nat
def tw2635394688755443137:=Nat
def tw6230696815242001153:=Nat
def tw15255003498503082820:=Nat
def tw15886042464902441476:=Nat
def tw12254786759524639264:=Nat
def tw14749653761629236618:=Nat
def tw9863486132594380746:=Nat
def tw8946075862621897006:=Nat
def tw8912318586708659710:=Nat
def tw2104413980710211849:=Nat
def tw13103359648539663690:=Nat
def tw7188999376548932082:=Nat
def tw16066119223336156620:=Nat
def tw17187825691787610441:=Nat
def tw14616594508180172158:=Nat
def tw5742692880236809661:=Nat
def tw14629283639805662617:=Nat
def tw17745496335190622013:=Nat
def tw18010234242892293975:=Nat
def tw14962346573745537241:=Nat
def tw5321693821094070271:=Nat
def tw14376772454671321764:=Nat
def tw8867265855609397701:=Nat
def tw2069936484826055555:=Nat
def tw15757030635885215344:=Nat
def tw5750138708476830079:=Nat
def tw7781292381554896891:=Nat
def tw15169900586528528002:=Nat
def tw14093273242308003152:=Nat
def tw404452551949839464:=Nat
def tw5660558366171766110:=Nat
def tw10245613440037326542:=Nat
def tw16347346372499311508:=Nat
def tw17243678429249629100:=Nat
def tw4803886414866611562:=Nat
def tw1512704916746843902:=Nat
def tw96365143344700656:=Nat
def tw2061206658362208436:=Nat
def tw631126428529527673:=Nat
def tw15713527038506360773:=Nat
def tw3604739060996292266:=Nat
def tw9859607296176991263:=Nat
def tw17019906874543188202:=Nat
def tw4893763702738665900:=Nat
def tw15879566867403007143:=Nat
def tw16305777654445175880:=Nat
def tw12127521983307408093:=Nat
def tw10128391070520930946:=Nat
def tw10840070520167513204:=Nat
def tw5482886732077772779:=Nat
def tw8803136694342780602:=Nat
def tw12936133828767424316:=Nat
def tw15804550226647111816:=Nat
def tw15196945064199622618:=Nat
def tw8316541343193566911:=Nat
def tw6462410289251472076:=Nat
def tw13939892241636772410:=Nat
def tw9387979569589330701:=Nat
def tw938853275420901405:=Nat
def tw17793104310388052122:=Nat
def tw4650281257014590845:=Nat
def tw4936252030182941761:=Nat
def tw7168241386307157170:=Nat
def tw3274327302943664496:=Nat
def tw9316741084993200450:=Nat
def tw16580363182111884289:=Nat
def tw3314026819855707506:=Nat
def tw14004095603190226530:=Nat
def tw1348532066159519616:=Nat
def tw15944872752474594170:=Nat
def tw8195585729151129927:=Nat
def tw12619124162258443941:=Nat
def tw6444043246779775903:=Nat
def tw523219507075711822:=Nat
def tw15704825405053700871:=Nat
def tw17824683249218739986:=Nat
def tw17062692080838193261:=Nat
def tw8065361166632794985:=Nat
def tw8040902824399996760:=Nat
def tw2493998591553155733:=Nat
end PySem.W.Fast
noncomputable def PySem.W.Fast.tw11422096492190898174 : PySem.Program := PySem.Challenge.pw_redo_k10_texts_that_write_no_recipe
theorem PySem.W.Fast.te11422096492190898174 : PySem.Challenge.pw_redo_k10_texts_that_write_no_recipe = PySem.W.Fast.tw11422096492190898174 := rfl

open Internal
open PySem PySem.W PyProof.Rows PySem.W.X PySem.W.ZRun
set_option maxRecDepth 100000 in
set_option maxHeartbeats 0 in
theorem PySem.Challenge.cw_redo_k10_texts_that_write_no_recipe_holds : PySem.Challenge.rw_redo_k10_texts_that_write_no_recipe.Holds := by
 w_on; o_law; z_head; (case hw=>w_witness2)
 k_fill
 intro w s₀ s₁ mg mb GR y fa o pm cd doc dV kV ho hd hcd hD hmg hg args vals as L hpre hlay hrd hwl hlo
 z_open y L KX ZH ZN ZT
 clear ZH ZN ZT
 refine G.walkZ KX GR ho hd hcd hD hmg hg hpre hlay hrd hwl hlo ?W
 clear KX GR ho hd hcd hD hmg hg hpre hlay hrd hwl hlo L y
 refine G.walk (l:=PySem.Challenge.rw_redo_k10_texts_that_write_no_recipe) rfl rfl (fun w h Y=>Y) ?F
 case F=>
  intro w mg fa h KX GG hmg
  refine' G.all_mk KX GG hmg ?_ ?_ ?_ ?_ ?_ ?_ ?_ ?_ ?_ ?_ ?_ ?_ ?_ ?_ ?_ ?_ ?_ ?_ ?_ ?_ ?_ ?_ ?_ ?_ ?_ ?_ ?_ ?_ ?_ ?_ ?_ ?_ ?_ ?_ ?_ ?_ ?_ ?_ ?_ ?_ ?_ G.EN
  any_goals repeat' first | exact True.intro | refine' D.Fc ?_ ?_ | refine' D.FJ ?_ ?_ | refine' D.GO ?_ ?_ | refine' D.FW ?_ ?_
  any_goals first | (refine' XE.Hw ?e1 ?e2 ?e3 ?e4 ?e5 ?e6 ?e7 ?e8 ?e9 ?e10 ?e11 ?e12 ?e13 ?e14 ?e15 ?e16 ?e17 ?e18 ?e19 ?e20; (case e1=>k_is); (case e2=>k_is); (case e3=>k_is); (case e4=>k_is); (case e5=>k_is); (case e6=>k_is); (case e7=>k_is); (case e8=>k_is); (case e9=>k_is); (case e10=>k_is); (case e11=>k_is); (case e12=>k_is); (case e13=>k_is); (case e14=>k_is); (case e15=>k_is); (case e16=>k_is); (case e17=>k_is); (case e18=>k_is); (case e19=>rfl); (case e20=>rfl)) | (refine' XE.IG ?e1 ?e2 ?e3 ?e4; (case e1=>k_is); (case e2=>k_is); (case e3=>k_is); (case e4=>rfl)) | (refine' D.KI ?a ?l ?c ?k; (case a=>k_is); (case l=>k_is); (case c=>k_is); (case k=>k_is)) | (refine' D.Jx ?a ?l ?c ?k ?n; (case a=>k_is); (case l=>k_is); (case c=>k_is); (case k=>k_is); (case n=>k_is)) | k_is
  all_goals first | rfl | decide +kernel
