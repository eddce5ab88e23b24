import PyProof.Rows.All
import Wide.All
import OpenK.AllK
import Wide.FinOn
import Lean
import PyProof.EqAt
import PyProof.EqKinds
import PyProof.TupleCall
import PySem.Challenge.RW_redo_k60_found_on_a_shelf
noncomputable section
open PySem.W (Frag)
set_option Elab.async false
set_option linter.all false
set_option maxRecDepth 100000
set_option compiler.extract_closed false
set_option bootstrap.genMatcherCode false
open PySem renaming PyData->Oa,Value->Oc,wpAny_bind->Oe,Shared->Oi,starEach->Ol,sizeLine->Om,wpAny_pure->Ot,Program->Oz,wpAny->OG,model->OJ,World->OO,compareOp->OQ,mainGlobals->OT,Around->O0,boot_len->O5,foldedSetIterable->Pc,wpAny_newObj_type->Pd,backTo->Pe,wpAny_truthy_bool->Pq,sysModules->Pu,wpAny_mono->Pw,swapsWith->PB,attributeBase->PD,binaryOp->PJ,keywordEach->PN,wpAny_callSpecial?_slot->PZ,wpAny_call_entry->Qf,Scope->Qg,Keyword->Qk,wpAny_typeNameOfWhole_keyiter->Qm,bootBuiltins->Qw,behindInMarks->Qy,FuncData->QD,wpAny_passesOwn->QI,backToKw->QJ,NameKind->QK,call_meets->QP,wpAny_typeNameOf_keyiter->QS,mem_of_lookup->QT,wpAny_Call_Name_kw->Q2,compEnvC->Q8,bindArgs->Rm,wpAny_comprehension_free->Rq,wpAny_execs_nil->Ru,notedBy->Rw,Paired->Ry,wpAny_field->RE,sliceBounds->RF,wpAny_pyIter_list->RI,codeAny_compStart_list->RM,typeIs_str->RY,getItem->R3,relabel->R4,lookup_relabel_local->R5,wpAny_newFunctionEnv->R6,ReadsAll->R7,letOwnedTupleGo->R9,wpAny_specialOf->Sa,wpAny_loadPart'->Sd,tupleKind_room_in1->SD,wpAny_pyIter_tuple->SG,wpAny_setField->SO,wpAny_binaryOp_repeat_ref->SS,wpAny_assign_Name->SV,sizeLine_eq->SW,codeAny->SY,wpAny_dictEntries->S4,getMethod->Ta,cLine->Tb,noFill_tuple_add->Tc,atKey->Te,DictEntry->Tf,wpAny_list_append_plain->Tg,assignEach->Tx,codeAny_mono->Tz,concat_meets->TH,IsPart->TJ,typeIs_int->TM,wpAny_Call_method_late->TN,wpAny_Assign_Subscript->TU,callerA->TV,call->TX,wpAny_dictEpoch->Ug,wpAny_isTrue_Compare1->Uh,wpAny_isOneOf_keyiter->Ut,subscripted->Uy,wpAny_pyIter_keyiter->UA,Reads->UC,intText?->UD,wpAny_seqItems->UH,firstArgMember->UI,tupleKind->UN,standAt->UO,holding->UP,CmpOp->UU,seq_tuple_add->UV,wpAny_holding->UW,wpAny_setItem_heap->U7,rawInt->U8,Within->Vd,BindsTo->Vg,wpAny_sequenceKey->Vi,wpAny_typeOf->Vj,slot_list_getitem->Vk,valueAt->Vl,Builtin->Vp,wpAny_pyIter_enum->Vt,wpAny_pyHash_str->Vz,isTrue->VA,wpAny_execs_cons->VB,PassesOwn->VC,pyNext->VD,lastMarks->VE,seqIndex?->VH,seqSlot_of->VJ,wpAny_forIn_list->VQ,wpAny_isInstance->VR,slicePicked->VY,entryOfKey->Wd,builtinsNs->We,wpAny_Name->Wf,assign->Wg,callWith->Wh,wpAny_rule->Wl,reduceHash->Wn,bindL->WV,bindC->WW,cellsFrom->WX,strValues->WY,Result->W0,storedH->W3,Params->W4,Meets->Xg
open PySem.Str renaming ofString->Ob,join->OM
open List renaming getElem?_eq_some_iff->Od,mem_cons_of_mem->Of,mem_cons_self->Oh,getElem?_set_ne->On,getElem?_set_self->Oq,getElem?_append_left->Os,all_eq_true->Ou,replicate->Ov,mem_cons->Ox,mem_of_getElem?->OA,mem_append->OD,mem_append_right->OE,mem_map->OF,mem_singleton->OK,map_cons->OU,length_map->OW,getElem?_eq_getElem->OX,take_of_length_le->OZ,length_cons->O4,getElem?_append_right->O6,getElem?_map->O7,mem_append_left->Pb,size_toArray->Pg,length_append->Pj,append_nil->PF,find?_cons->PH,all_cons->P0,drop_eq_nil_of_le->P6,map_congr_left->P8,getElem?_eq_none_iff->Qe,nodup_append->Qq,append_assoc->Qs,mem_filter->Qu,any_cons->Qz,length_take->QA,length_drop->QB,tail_suffix->QC,drop_eq_getElem_cons->QG,range->QN,sum_cons->QR,lookup_cons->QX,not_mem_nil->QZ,nodup_cons->Q6,flatten_cons->Re,mem_of_mem_take->Rh,getElem?_take_of_lt->Ro,length_nil->Rv,map_append->Rx,foldl->Rz,map_map->RP,eraseIdx_eq_take_drop_succ->RT,eq_nil_or_concat->RU,filter_cons->R0,filterMap_cons->Sj,replicate_succ->Sl,getElem_of_mem->Sn,nodup_nil->SK,mem_replicate->SM,getElem?_zip_eq_some->SR,take_add_one->S2,suffix_iff_eq_drop->Tt,any_eq_true->Tu,of_mem_zip->Uc,takeWhile_prefix->Uq,concat_eq_append->Ur,mem_range->Uw,drop_drop->UK,drop_left->UL,mem_of_mem_drop->UM,mem_filterMap->U3,getElem?_drop->Va,take_sublist->Vh,getElem?_inj->Vn,ext_getElem?->Vo,lookup->VU,length->VW,foldl_cons->V1,nil_append->V2,all_append->V6,all->Wo,take_nil->WP,all_map->W6
open PySem.Heap renaming get?_push_of_some->Og,lt_size->Ow,get?_push_size->Oy,size_push->P5,SameBut->Qi,get?_update_self->Um,ExtBut->VX
open Bool renaming and_eq_true->Oj,false_ne_true->OB,false_eq_true->PX,eq_iff_iff->P9,or_eq_true->Sf,or_false->WQ,not_true->WR
open Nat renaming le_refl->Oo,le_trans->OC,lt_of_lt_of_le->OH,ne_of_lt->OI,lt_of_le_of_lt->Pk,zero_le->Pm,lt_irrefl->Pp,not_lt_zero->Qa,lt_succ_of_lt->QL,lt_succ_self->QV,strongRecOn->Sg,ne_of_gt->So,toDigits->Sw,mul_le_mul->SF,add_assoc->S9,min_eq_right->Ts,le_of_lt->Tw,lt_trans->TR,min_eq_left->Ue,le_succ->Ux,log2_lt->UG,le_of_eq->Ve,le_total->Vu,mul_comm->W5,zero_add->Xa
open PySem.PyData renaming eqv->OL,eqvAll->OY,strOk->O8,canLayAll0->Pi,str->PM,canLay0->PQ,depthAll->PU,depth->QM,weightAll->Q0,tuple->Rj,int->RZ,leavesShortAll->Up,weight->UZ,showableAll->U9,list->VZ,none->Xh
open Option renaming map_eq_some_iff->ON,isSome_iff_exists->Rn,getD_none->Td,isSome_map->Vm,map_some->V5
open PySem.SeqAt renaming shaped->OP,canLay_of_shaped->Q4,eqAt_reads->Ti,room_of_shaped->UE,notIn_listAt->U6,in_tupleAt->VI,EqAt->Xk
open PyProof.Rows.KTD renaming datLooks->OR,tabLook->OS,rowsLook->PK,datumAt->QQ,inKeys->RG,isSome_datumAt->RR,eachL_miss->Ss,item_textA->Su,eachL_hit->SI,EachL->TZ,plain->T6,Dat->UF,opened_int->V8,opened_str->V9,in_text->WN
open PySem.Value renaming ref->OV,none->P2,type->RV,str->Sx,notImplemented->UB,bool->U2,int->Vy,float->VT,isStrOf->WA,isInt->Xc,bytes->Xd
open Int renaming emod_lt_of_pos->O9,emod_nonneg->Pn,toNat_natCast->P7,natCast_nonneg->QF,le_refl->Q1,natCast_add->Ra,cast_ofNat_Int->RC,eq_ofNat_of_zero_le->Tq,max_eq_right->VO,ofNat_le->W7,le_trans->W9,zero_add->Xb
open PySem.W renaming fnOf->Pa,kia_one->Pf,nsIn->Ph,findIn->Po,keepIn->PP,mg_of->P1,emptyDict->P3,instObj->Qt,codeIn->QW,plainGet->Ri,hasDictIn->RJ,plainGet_of->Sk,isFn->Sq,lookIn->Sz,callWith_K->SC,kt_text_in->SJ,plainOver->SX,kitx_list->SZ,kitx_dict->S1,cellsFrom_some->TF,takerIn->Ua,makesIn->Ub,OpenLaw->Ud,methodCall_KW->Ui,callWith_K0->UR,WalkO->UY,kitx_tuple->U4,handedIn->VF
open PyProof.Rows renaming slot_tuple_getitem->Pl,boot_tuple->Px,boot_str->Qn,boot_int->Rb,callWith_type1->Rc,envOfC->RK,cps_toList_append->RN,AllBare->SU,kindOf->TC,subscriptTail_builtinR->TL,signs_ofString->UJ,entry_tuple_getitem->US,tupleItemsOf_->UX,args_tuple_getitem->U5,boot_all->Vx,callWith_builtin1->VG,boot_isinstance->V4,IntsAre->V7,IsTup->Wb,Subscript_->Wj,boot_list->WZ
open PySem.NameKind renaming free->Pr
open PySem.Builtin.Tuple renaming tupleHashOf->Pt,tupleExact->Qj,tupleItemsOf->Rf,tupleTooMany->SH
open Or renaming inl->Py,inr->Qb
open PySem.Builtin.List renaming listTooLong->Pz,listFitsIndex->SN
open PySem.F renaming slot_dict_keyiterator_next->PV,plainAttrs_list->Qp,slot_tuple_iterator_next->QE,plainAttrs_str->Q3,slot_str_split->Q5,args_tuple_add_2->Rp,args_str_split_2->Rr,entry_tuple_add->RD,entry_str_split->RH,slot_tuple_add->RL,slot_tuple_mul->RO,slot_tuple_hash->RQ,args_dict_keyiterator_next_1->R1,entry_dict_keyiterator_next->R8,slot_int_rmul->Sb,args_tuple_iterator_next_1->Se,slot_str_startswith->Sr,entry_tuple_iterator_next->Sv,slot_list_append->S5,type_list_append->S6,slot_tuple_rmul->Th,slot_list_index->To,slot_str_join->Uk,type_str_join->Ul,slot_dict_get->Uv,args_int_rmul_2->Vq,slot_int_index->VL,entry_int_rmul->VM,slot_dict_iter->VS,fills_int_mul->V3
open PySem.Builtin.Str renaming occurrences->PY,strSliceIndices->Qx,partsBetween->S8,strKind->UT,glued->Vr,subAt->Vv
open True renaming intro->P4
open Sum renaming inr->Qc,inl->Vc
open Ne renaming symm->Qd
open PySem.Paired renaming length->Qh,snoc->Xe
open PySem.Txt renaming startswith->Ql,slice->Qo,split->QY,slice_le->W8,mul->Xq
open PySem.NumText renaming digitsVal->Qr,AllDigits->S3
open Option.some renaming inj->Qv
open PySem.Builtin.SmallTypes renaming nextOf->QH
open False renaming elim->QO
open Array renaming length_toList->QU,getElem?_eq_getElem->Rk,getElem?_eq_some_iff->SE,getElem?_eq_none->T7,getElem?_toList->Uu,forIn_toList->Vb,all_toList->VP
open ForInStep renaming yield->Q7
open PySem.PassesOwn renaming never->Q9
open PySem.Heap.SameBut renaming update->Rl,refl->Xp
open PySem.AutoSeq1 renaming wpAny_loadPart'->Rt,sub_tuple_tuple->S7,sub_tuple_list->Tj,sub_list_tuple->Tn,sub_list_list->TY,idx_int->VN
open PySem.Obj renaming data_mapFields->RA,isFreed_of_fields->Uo,cls_mapFields->Vs,mapFields->WS
open PySem.Builtin.Dict_items renaming ownsTuple->Si
open PySem.Calls renaming Name_function_global->Sy,callWith_builtin->TQ,evalArgs_plain->Uz
open PySem.Builtin.Slice renaming slicePlaces->SQ,slicePartIndex->V0,sliceApplied->Wi,sliceAdjust->Wz
open Classical renaming propDecidable->Tv
open PySem.StrLaws renaming glued_eq_join->Uj
open PySem.Builtin.Dict renaming showsAll->Us
open PyProof.Rows.IsTup renaming new->UQ
open PySem.SeqAt.EqAt renaming int_str->U0,str_int->U1,str_str->WO
open PySem.Around renaming under->Vf
open PySem.AutoListH renaming joined_fits->Wa
open PySem.Walks renaming dictKeys->Wk,list->Xl
open PySem.MeetsSeq renaming list_pop_at->Wm
open PySem.EqNone renaming eq_none_none->Wp,eq_none_bool->Wq,eq_bool_none->Wr,ne_none_none->Wu,ne_none_bool->Wv,ne_bool_none->Ww,eq_none_int->WB,eq_none_str->WC,eq_int_none->WD,eq_str_none->WF,ne_none_int->WH,ne_none_str->WI,ne_int_none->WJ,ne_str_none->WL
open PySem.EqMixed renaming eq_bool_str->Ws,eq_str_bool->Wt,ne_bool_str->Wx,ne_str_bool->Wy,eq_int_str->WE,eq_str_int->WG,ne_int_str->WK,ne_str_int->WM
open PySem.ExcName renaming means->WT
open PySem.Builtin.Range renaming rangeSize->WU
open PySem.Code renaming isGuard->W1,isFrame->W2
open PySem.Data renaming seq->Xf
open PySem.W.Looks renaming here->Xi
open PySem.Heap.IsSliceOf renaming new->Xj
open Char renaming toNat->Xm
open PySem.Within renaming cons->Xn
open List.Pairwise renaming nil->Xo
open PySem PySem.Spec PyProof.Rows
theorem Au10(h:True:=by rfl):True:=h
def u10:=Au10._auto_1
theorem Au11(h:True:=by decide):True:=h
def u11:=Au11._auto_1
theorem Au12(h:True:=by exact bi rfl):True:=h
def u12:=Au12._auto_1
theorem Au13(h:True:=by exact bU rfl):True:=h
def u13:=Au13._auto_1
theorem Au14(h:True:=by exact rfl):True:=h
def u14:=Au14._auto_1
theorem Au15(h:True:=by first|exact .inl rfl|exact .inr rfl|assumption):True:=h
def u15:=Au15._auto_1
theorem Au16(h:True:=by intro _;rfl):True:=h
def u16:=Au16._auto_1
theorem Au17(h:True:=by decide +kernel):True:=h
def u17:=Au17._auto_1
theorem Au18(h:True:=by first|exact Py rfl|exact Qb rfl):True:=h
def u18:=Au18._auto_1
theorem Au19(h:True:=by exact iM rfl):True:=h
def u19:=Au19._auto_1
theorem Au20(h:True:=by first|exact Py rfl|exact Qb (Py rfl)|exact Qb (Qb rfl)):True:=h
def u20:=Au20._auto_1
theorem Au21(h:True:=by intro _ _ _ _ _ _;first|(show ∀us:List Oc,us.length=0->_;exact D.Da rfl)|(show ∀us:List Oc,us.length=1->_;exact D.E9 fun _=>rfl)|(show ∀us:List Oc,us.length=2->_;exact D.CM fun _ _=>rfl)|(show ∀us:List Oc,us.length=3->_;exact D.Aq fun _ _ _=>rfl)|(show ∀us:List Oc,us.length=4->_;exact D.Dv fun _ _ _ _=>rfl)|(show ∀us:List Oc,us.length=5->_;exact D.BV fun _ _ _ _ _=>rfl)|(show ∀us:List Oc,us.length=6->_;exact D.GE fun _ _ _ _ _ _=>rfl)):True:=h
def u21:=Au21._auto_1
theorem Au22(h:True:=by omega):True:=h
def u22:=Au22._auto_1
theorem Au23(h:True:=by with_unfolding_all rfl):True:=h
def u23:=Au23._auto_1
theorem Au24(h:True:=by first|exact lN _|with_unfolding_all rfl):True:=h
def u24:=Au24._auto_1
theorem Au25(h:True:=by exact fun _ _=>rfl):True:=h
def u25:=Au25._auto_1
theorem Au26(h:True:=by exact Q9):True:=h
def u26:=Au26._auto_1
namespace Internal
namespace L2
abbrev Key:=Sum Int Str
noncomputable def iF:Key->Oc->Bool
 |.inl k,v=>Xc k v
 |.inr x,v=>WA x v
noncomputable def KD(w:OO):Key->Int
 |.inl k=>hashInt k
 |.inr x=>hashStr w x
theorem fi:∀{k:Key}{v:Oc},iF k v=true->(∃i t,k=Vc i/\v=Vy i t)\/(∃x t,k=Qc x/\v=Sx x t)
 |.inl i,v,h=>by
  obtain⟨t,e⟩:=Value.isInt_shape   h;exact .inl ⟨i,t,rfl,e⟩
 |.inr x,v,h=>by
  obtain⟨t,e⟩:=Value.isStrOf_shape   h;exact .inr ⟨x,t,rfl,e⟩
theorem zaa(i:Int)(t:Tok):iF (.inl i) (.int i t)=true:=by simp[iF,Xc]
theorem zab(x:Str)(t:Tok):iF (.inr x) (.str x t)=true:=by simp[iF,WA]
theorem zac(a b:Int):decide ((Vc a:Key)=Vc b)=(a == b) :=by grind
theorem zad(a b:Str):decide ((Qc a:Key)=Qc b)=decide (a=b) :=by simp
theorem zae(a:Int)(b:Str):decide ((Vc a:Key)=Qc b)=false :=rfl
theorem zaf(a:Str)(b:Int):decide ((Qc a:Key)=Vc b)=false :=rfl
noncomputable def cI(prog:Oz)(w:OO):PySem.KeyKind prog w Key where
 is:=iF
 hash:=KD w
 inj:=fun v a b ha hb=>by
  rcases fi ha with⟨i,t,rfl,rfl⟩|⟨x,t,rfl,rfl⟩
  .rcases fi hb with⟨j,u,rfl,e⟩|⟨y,u,rfl,e⟩
   .injection e with e1 _;rw[e1]
   .exact nomatch e
  .rcases fi hb with⟨j,u,rfl,e⟩|⟨y,u,rfl,e⟩
   .exact nomatch e
   .injection e with e1 _;rw[e1]
 byValue:=fun k v h=>by
  rcases fi h with⟨i,t,rfl,rfl⟩|⟨x,t,rfl,rfl⟩ <;> rfl
 pyHash:=fun hv h=>by
  rcases fi hv with⟨i,t,rfl,rfl⟩|⟨x,t,rfl,rfl⟩
  .exact wpAny_pyHash_int h
  .exact Vz h
 eqBool:=fun hu hv h=>by
  rcases fi hu with⟨i,t,rfl,rfl⟩|⟨x,t,rfl,rfl⟩
  .rcases fi hv with⟨j,u,rfl,rfl⟩|⟨y,u,rfl,rfl⟩
   .rw[zac] at h;exact wpAny_eqBool_int h
   .rw[zae] at h;exact U0 i t y u _ _ _ _ h
  .rcases fi hv with⟨j,u,rfl,rfl⟩|⟨y,u,rfl,rfl⟩
   .rw[zaf] at h;exact U1 x t j u _ _ _ _ h
   .rw[zad] at h;exact wpAny_eqBool_str h
 «strs»:=fun k x t v h=>by
  rcases fi h with⟨i,u,rfl,e⟩|⟨y,u,rfl,e⟩
  .exact nomatch e
  .injection e with e1 _
   subst e1
   cases v <;> rfl
theorem zag(prog:Oz)(w:OO)(i:Int)(t:Tok):(cI prog w).is (.inl i) (.int i t)=true:=zaa i t
theorem zah(prog:Oz)(w:OO)(x:Str)(t:Tok):(cI prog w).is (.inr x) (.str x t)=true:=zab x t
inductive V where
 |non|bl (b:Bool)|int (i:Int)|str (x:Str)|byt (b:Array UInt8)|flt (b:UInt64)|ref (a:Addr)|ty (n:String)
 deriving DecidableEq
noncomputable def RelV:V->Oc->Prop
 |.non,u=>u=P2
 |.bl b,u=>u=U2 b
 |.int i,u=>∃t,u=Vy i t
 |.str x,u=>∃t,u=Sx x t
 |.byt b,u=>∃t,u=Xd b t
 |.flt b,u=>∃t,u=VT b t
 |.ref a,u=>u=OV a
 |.ty n,u=>u=RV n
abbrev Xv:List V->List Oc->Prop:=Ry RelV
theorem Xv.length(r:Xv xs us):xs.length=us.length:=Qh r
theorem Xv.get:∀{xs:List V}{us:List Oc}{i:Nat}{x:V},Xv xs us->xs[i]? = some x->∃u,us[i]? = some u/\RelV x u
 |_,_,_,_,.nil,e=>by simp at e
 |_,_,0,_,.cons r _,e=>by simp_all
 |_,_,i+1,x,.cons _ t,e=>by
  obtain⟨u,h1,h2⟩:=Xv.get   t (by simpa using e);exact⟨u,by simpa using h1,h2⟩
theorem Xv.append:∀{xs ys:List V}{us ws:List Oc},Xv xs us->Xv ys ws->Xv (xs++ys) (us++ws)
 |_,_,_,_,.nil,s=>s
 |_,_,_,_,.cons r t,s=>.cons r (Xv.append t s)
theorem Xv.take:∀{xs:List V}{us:List Oc} (n:Nat),Xv xs us->Xv (xs.take n) (us.take n)
 |_,_,0,_=>.nil
 |_,_,_+1,.nil=>.nil
 |_,_,n+1,.cons r t=>.cons r (Xv.take n t)
theorem Xv.drop:∀{xs:List V}{us:List Oc} (n:Nat),Xv xs us->Xv (xs.drop n) (us.drop n)
 |_,_,0,r=>r
 |_,_,_+1,.nil=>.nil
 |_,_,n+1,.cons _ t=>Xv.drop n t
noncomputable def Yt:Option V->Option Oc->Prop
 |some v,some u=>RelV v u
 |none,none=>True
 |_,_=>False
def KV{κ:Type}:List (κ×V)->List (κ×Oc)->Prop:=Ry fun(p:κ×V) (q:κ×Oc)=>p.1=q.1/\RelV p.2 q.2
noncomputable def kV:Key->V
 |.inl i=>.int i
 |.inr x=>.str x
inductive HO where
  |lst (xs:List V)
  |tup (xs:List V)
  |dK (kvs:List (Key×V))|dT (kvs:List (List Key×V))
  |set (S:Int->Bool) (n:Nat)
  |ins (C dx:Addr) (fs:List (Str×V))
  |own (x:Addr)
  |xd (fs:List (Str×V))
  |met (f x:Addr)
  |rng (lo hi:Int)
  |frz (o:Obj) (u:HO)
  |tbl (ps:Array Oc)
  |ext (φ:Heap->Prop)
abbrev Hp:=Addr->Option HO
noncomputable def upd(H:Hp)(a:Addr)(o:HO):Hp:=fun b=>if b=a then some o else H b
theorem bj:upd H a o a=some o:=by unfold upd<;>simp_all
theorem aK(h:b≠a):upd H a o b=H b:=by unfold upd;rw[if_neg h]
theorem zai{H:Hp}{a b:Addr}{o u:HO}(h:H a=some o)(h':H b=some u)(d:o≠u):a≠b:=by intro e<;>simp_all
theorem bF{H:Hp}{a b:Addr}{o:HO}(h:H a=some o)(h':H b=none):a≠b :=by grind
section
variable (P:Oz)(w:OO)
noncomputable def XM(H:Hp)(h:Heap)(a:Addr):HO->Prop
 |.lst xs=>xs.length<=Om/\∃(Xr:List Oc) (n:Nat),Xv xs Xr/\h.get? a=some { cls:=.type "list",data:=.seq Xr.toArray n }
 |.tup xs=>xs.length<=Om/\∃Xr:List Oc,Xv xs Xr/\Wb h a Xr.toArray
 |.dK kvs=>kvs.length<=Om/\(a == Pu)=false/\∃vs,KV kvs vs/\h.DictOf (cI P w) a vs
 |.dT kvs=>kvs.length<=Om/\(a == Pu)=false/\∃xs:List (List Key×Addr×Oc),
   Ry (fun(p:List Key×V) (q:List Key×Addr×Oc)=>p.1=q.1/\H q.2.1=some (.tup (p.1.map kV))/\RelV p.2 q.2.2) kvs xs /\
   ∃o es ep,h.get? a=some o/\o.ExactDict/\o.data=.dict es ep/\es.toList=xs.map (Wd (UN (cI P w)))/\(xs.map (·.1)).Nodup
 |.set S n=>h.SetOf (intKind P w) a S n
 |.ins C dx fs=>H dx=some (.own a)/\fs.length<=1000/\dx≠a/\h.get? a=some (Qt C dx) /\
   ∃mA,h.Ns1 dx mA/\(∀f,Yt (fs.lookup f) (mA f))/\Vd mA (fs.map (·.1))
 |.own _=>∃o,h.get? a=some o
 |.xd fs=>∃mA,h.Ns1 a mA/\∀f,Yt (fs.lookup f) (mA f)
 |.rng lo hi=>∃t u v,h.get? a=some { cls:=.type "range",data:=.fields #[.int lo t,.int hi u,.int 1 v] }
 |.frz o u=>h.get? a=some o/\XM H h a u
 |.tbl ps=>h.get? a=some { cls:=.none,data:=.fields ps }
 |.met f x=>h.get? a=some (PySem.W.methodObj (.ref f) (.ref x))
 |.ext φ=>φ h/\(∃o,h.get? a=some o)/\∀h1 h2:Heap,φ h1->(∀o,h1.get? a=some o->h2.get? a=some o)->φ h2
def Ys(H:Hp)(h:Heap):Prop:=∀a o,H a=some o->XM P w H h a o
end
section
variable {P:Oz}{w:OO}{H H':Hp}{h h':Heap}{a:Addr}{o:HO}
theorem XM.lt(x:XM P w H h a o):a<h.objs.size:=by
 cases o with
 |lst xs=>obtain⟨_,_,_,_,e⟩:=x;exact Ow e
 |tup xs=>obtain⟨_,_,_,p⟩:=x;exact p.lt
 |dK kvs=>obtain⟨_,_,_,_,o,_,_,e,_⟩:=x;exact Ow e
 |dT kvs=>obtain⟨_,_,_,_,o,_,_,e,_⟩:=x;exact Ow e
 |set S n=>obtain⟨o,_,_,_,e,_⟩:=x;exact Ow e
 |ins C dx fs=>obtain⟨_,_,_,e,_⟩:=x;exact Ow e
 |own y=>obtain⟨_,e⟩:=x;exact Ow e
 |xd fs=>obtain⟨_,⟨_,_,_,e,_⟩,_⟩:=x;exact Ow e
 |rng lo hi=>obtain⟨_,_,_,e⟩:=x;exact Ow e
 |frz ob u=>obtain⟨e,_⟩:=x;exact Ow e
 |tbl ps=>exact Ow (x)
 |met f y=>exact Ow (x)
 |ext φ=>obtain⟨_,⟨_,e⟩,_⟩:=x;exact Ow e
theorem Paired.mapP{α β:Type}{F G:α->β->Prop}:∀{IF:List α}{CW:List β},Ry F IF CW->(∀a b,F a b->G a b)->Ry G IF CW
 |_,_,.nil,_=>.nil
 |_,_,.cons r t,f=>.cons (f _ _ r) (Paired.mapP t f)
theorem XM.stay(x:XM P w H h a o)(k:∀b u,(b=a\/H b=some (.own a))->h.get? b=some u->h'.get? b=some u)
  (ho:∀b,H b=some (.own a)->H' b=some (.own a)) (ht:∀b xs,H b=some (.tup xs)->H' b=some (.tup xs)):XM P w H' h' a o:=by
 induction o with
 |lst xs=>obtain⟨z,Xr,n,r,e⟩:=x;exact⟨z,Xr,n,r,k _ _ (.inl rfl) e⟩
 |tup xs=>obtain⟨z,Xr,r,ob,e,c⟩:=x;exact⟨z,Xr,r,ob,k _ _ (.inl rfl) e,c⟩
 |dK kvs=>obtain⟨z,y,vs,r,ob,es,ep,e,c⟩:=x;exact⟨z,y,vs,r,ob,es,ep,k _ _ (.inl rfl) e,c⟩
 |dT kvs=>
  obtain⟨z,y,xs,r,ob,es,ep,e,c⟩:=x;exact⟨z,y,xs,Paired.mapP r fun p q z=>⟨z.1,ht _ _ z.2.1,z.2.2⟩,ob,es,ep,k _ _ (.inl rfl) e,c⟩
 |set S n=>obtain⟨ob,es,ep,t,e,c⟩:=x;exact⟨ob,es,ep,t,k _ _ (.inl rfl) e,c⟩
 |ins C dx fs=>
  obtain⟨d,z,ne,e,mA,⟨od,es,ep,e2,c⟩,r⟩:=x;exact⟨ho _ d,z,ne,k _ _ (.inl rfl) e,mA,⟨od,es,ep,k _ _ (.inr d) e2,c⟩,r⟩
 |own y=>obtain⟨ob,e⟩:=x;exact⟨ob,k _ _ (.inl rfl) e⟩
 |xd fs=>obtain⟨mA,⟨od,es,ep,e,c⟩,r⟩:=x;exact⟨mA,⟨od,es,ep,k _ _ (.inl rfl) e,c⟩,r⟩
 |rng lo hi=>obtain⟨t,u,v,e⟩:=x;exact⟨t,u,v,k _ _ (.inl rfl) e⟩
 |frz ob u ih=>obtain⟨e,q⟩:=x;exact⟨k _ _ (.inl rfl) e,ih q⟩
 |tbl ps=>
  have e:=x;exact k a _ (.inl rfl) e
 |met f y=>
  have e:=x;exact k a _ (.inl rfl) e
 |ext φ=>obtain⟨p,⟨o,e⟩,st⟩:=x;exact⟨st _ _ p fun o q=>k _ _ (.inl rfl) q,⟨o,k _ _ (.inl rfl) e⟩,st⟩
theorem Ys.lt(x:Ys P w H h)(e:H a=some o):a<h.objs.size:=(x a o e).lt
theorem Ys.fresh(x:Ys P w H h)(e:h.objs.size<=a):H a=none:=by
 cases q:H a with
 |none=>rfl
 |some u=>exact absurd (OH (x.lt q) e) (Pp _)
theorem Ys.kept(x:Ys P w H h)(k:∀b u,h.get? b=some u->h'.get? b=some u):Ys P w H h':=fun a o e=>
 (x a o e).stay (fun b u _ q=>k b u q) (fun _ q=>q) fun _ _ q=>q
theorem Ys.laid(x:Ys P w H h)(k:∀b u,h.get? b=some u->h'.get? b=some u)(hp:h.objs.size<=a)(new:XM P w (upd H a o) h' a o):Ys P w (upd H a o) h':=fun b u e=>by
 have hn:=x.fresh hp
 by_cases hb:b=a
 .subst hb;rw[bj] at e<;>simp_all
 .rw[aK hb] at e
  exact(x b u e).stay (fun c v _ q=>k c v q) (fun c q=>by rw[aK (bF q hn)];exact q) fun c xs q=>by rw[aK (bF q hn)];exact q
end
def Rd(H:Hp)(a:Addr)(u:HO):Prop:=H a=some u\/∃o,H a=some (.frz o u)
theorem Rd.ok(r:Rd H a u)(x:Ys P w H h):XM P w H h a u:=by
 rcases r with r|⟨o,r⟩
 .exact x a u r
 .obtain⟨_,q⟩:=x a _ r
  exact q
def Y9:Option HO->Prop
 |some (.lst _)=>True
 |some (.dK _)=>True
 |some (.dT _)=>True
 |some (.set _ _)=>True
 |some (.ins _ _ _)=>True
 |some (.ext _)=>True
 |_=>False
section
variable {P:Oz}{w:OO}{H:Hp}{h h':Heap}{x e:Addr}{o':HO}
theorem Ys.write(ok:Ys P w H h)(mu:Y9 (H x))(he:e=x\/H e=some (.own x))(k:∀b u,b≠e->h.get? b=some u->h'.get? b=some u)(Kl:∃u,h'.get? e=some u)
  (new:XM P w (upd H x o') h' x o'):Ys P w (upd H x o') h':=fun b u q=>by
 have Gf:∀c y,H c=some (.own y)->c≠x:=fun c y r z=>by subst z;rw[r] at mu;exact mu
 have Ge:∀c xs,H c=some (.tup xs)->c≠x:=fun c xs r z=>by subst z;rw[r] at mu;exact mu
 by_cases hb:b=x
 .subst hb;rw[bj] at q;cases q;exact new
 .rw[aK hb] at q
  by_cases hbe:b=e
  .have q':H b=some (.own x):=by simp_all
   rw[q] at q';cases q';obtain⟨v,hv⟩:=Kl;exact⟨v,by simp_all⟩
  .refine(ok b u q).stay (fun c v hc r=>k c v ?_ r) (fun c r=>by rw[aK (Gf c b r)];exact r) fun c xs r=>by rw[aK (Ge c xs r)];exact r
   rcases hc with rfl|hc<;>grind
end
structure Un(fs ex:List Addr)(H H':Hp)(h h':Heap):Prop where
 keep:∀b o,h.get? b=some o->H b=none->b∉fs->b∉ex->h'.get? b=some o
 slot:∀b o,h.get? b=some o->H b=none->b∈fs->b∉ex->∃sl,h'.get? b=some { o with slots:=sl }
 free:∀b o,h.get? b=some o->H b=none->b∉ex->H' b=none
 there:∀b o,h.get? b=some o->b∉ex->∃o',h'.get? b=some o'
 tups:∀b xs,H b=some (.tup xs)->H' b=some (.tup xs)
 frzs:∀b o u,H b=some (.frz o u)->H' b=some (.frz o u)
 tbls:∀b ps,H b=some (.tbl ps)->∃more,H' b=some (.tbl (ps++more))
section
variable {fs fs' ex ex':List Addr}{H H1 H2:Hp}{h h1 h2 h':Heap}{a x e:Addr}{o:HO}
theorem Un.any(u:Un fs ex H H1 h h1)(q:h.get? b=some ob)(n:H b=none)(hx:b∉ex):∃sl,h1.get? b=some { ob with slots:=sl }:=by
 by_cases hb:b∈fs
 .exact u.slot b ob q n hb hx
 .exact⟨ob.slots,u.keep b ob q n hb hx⟩
theorem Un.kept(k:∀b u,h.get? b=some u->h'.get? b=some u):Un fs ex H H h h':=⟨fun b ob q _ _ _=>k b ob q,fun b ob q _ _ _=>⟨ob.slots,k b ob q⟩,fun _ _ _ n _=>n,fun b ob q _=>⟨ob,k b ob q⟩,fun _ _ q=>q,fun _ _ _ q=>q,fun _ ps q=>⟨#[],by simp_all⟩⟩
theorem Un.refl:Un fs ex H H h h:=Un.kept fun _ _ q=>q
theorem Un.laid(k:∀b u,h.get? b=some u->h'.get? b=some u)(hp:h.objs.size<=a)(hn:H a=none):Un fs ex H (upd H a o) h h' where
 keep:=fun b u q _ _ _=>k b u q
 slot:=fun b u q _ _ _=>⟨u.slots,k b u q⟩
 free:=fun b u q n _=>by rw[aK (OI (OH (Ow q) hp))];exact n
 there:=fun b u q _=>⟨u,k b u q⟩
 tups:=fun b xs q=>by rw[aK (bF q hn)];exact q
 frzs:=fun b u xs q=>by rw[aK (bF q hn)];exact q
 tbls:=fun b ps q=>⟨#[],by rw[aK (bF q hn),q];simp⟩
theorem Un.write(mu:Y9 (H x))(he:e=x\/H e=some (.own x))(k:∀b u,b≠e->h.get? b=some u->h'.get? b=some u)(Kl:∃u,h'.get? e=some u):Un fs ex H (upd H x o) h h':=by
 have hx:∀b,H b=none->b≠x:=fun b n z=>by subst z;rw[n] at mu;exact mu
 have hb:∀b,H b=none->b≠e:=fun b n z=>by simp_all
 have hm:∀b u,H b=some u->¬Y9 (some u)->b≠x:=fun b u q nm z=>by simp_all
 refine⟨fun b u q n _ _=>k b u (hb b n) q,fun b u q n _ _=>⟨u.slots,k b u (hb b n) q⟩,fun b u q n _=>by rw[aK (hx b n)];exact n,fun b u q _=>?_,
  fun b xs q=>by rw[aK (hm b _ q fun z=>z)];exact q,fun b u xs q=>by rw[aK (hm b _ q fun z=>z)];exact q,fun b ps q=>⟨#[],by rw[aK (hm b _ q fun z=>z),q];simp⟩⟩
 by_cases hbe:b=e<;>simp_all
end
noncomputable def trk(h:Heap)(H:Hp):List Addr:=(QN h.objs.size).filter fun a=>(H a).isSome
noncomputable def gX(h:Heap)(H:Hp):Heap:=PySem.W.hideAll h (trk h H)
theorem zaj(h:Heap)(H:Hp):(gX h H).objs.size=h.objs.size:=PySem.W.hideAll_size _ _
theorem zak(e:h.get? b=some o)(n:H b=none):(gX h H).get? b=some o:=
 PySem.W.hideAll_get _ e fun hm=>by
  have q:=(Qu.mp hm).2<;>simp_all
theorem zal(e:(gX h H).get? b=some o):h.get? b=some o/\H b=none:=by
 have e':=PySem.W.of_hideAll _ e;refine⟨e',?_⟩
 cases q:H b with
 |none=>rfl
 |some x=>
  have hm:b∈trk h H:=Qu.mpr ⟨Uw.mpr (Ow e'),by simp[q]⟩
  have z:(gX h H).get? b=none:=PySem.W.hideAll_none _ hm<;>simp_all
noncomputable def GF(g h:Heap)(L:Addr):List (Addr×Obj):=(QN h.objs.size).filterMap fun a=>if a=L\/(g.get? a).isSome=true then none else (h.get? a).map fun o=>(a,o)
noncomputable def rest(g h:Heap)(L d:Addr):List (Addr×Obj):=(GF g h L).filter fun p=>decide (p.1≠d)
structure Mod(K:Frag)(mg:Str->Option Oc)(base:Heap):Prop where
 kin:K.In base
 glob:base.Ns OT mg
 blt:∃mb,base.Ns We mb/\∀x:Str,x≠"__name__"->mb x=Qw x
 nolimit:base.NoLimit
structure Cx where
 prog:Oz
 w:OO
 K:Frag
 mg:Str->Option Oc
 base:Heap
 A:O0
 N:List Str
 s₀:Oi
 H₀:Hp
 env:Env
 outer:List Env
 stack:List Env
 ex:List Addr
 fn:Str->Bool
 calm:Bool
 pn:List (Addr×Obj)
 xe:Oc->Oi->Prop
noncomputable def frs(l:List Env):List Addr:=l.filterMap (·.frame)
abbrev Cx.fs(X:Cx):List Addr:=frs X.outer
def A0(sc:Qg)(x:Str):Prop:=sc.names.lookup x=some .local\/sc.names.lookup x=some .cell\/sc.names.lookup x=some .free
def Loc(sc:Qg)(x:Str):Prop:=sc.names.lookup x=some .local\/sc.names.lookup x=some .cell
def Look(env:Env)(h:Heap)(m:Str->Option Oc)(x:Str)(u:Oc):Prop:=(env.kindOf x=some .local/\m x=some u)\/((env.kindOf x=some .cell\/env.kindOf x=some .free)/\∃c,env.cells.lookup x=some c/\h.IsCell c (some u))
structure Cx.Ok(X:Cx):Prop where
 mod:Mod X.K X.mg X.base
 kind:X.env.scope.kind=.function
 glob:X.env.globals=OT
 blt:X.env.builtins=We
 above:X.s₀.heap.objs.size<=X.env.locals
 inj:∀x y c,X.env.cells.lookup x=some c->X.env.cells.lookup y=some c->x=y
 has:∀x,(X.env.kindOf x=some .cell\/X.env.kindOf x=some .free)->∃c,X.env.cells.lookup x=some c
 cab:∀x c,X.fn x=true->X.env.cells.lookup x=some c->X.s₀.heap.objs.size<=c
 hd:X.calm=true->X.A.handled=none
 frames:X.A.frames=some X.stack
 stk:X.stack=X.outer\/(X.stack=X.env::X.outer/\X.env.frame=some X.env.locals)
 exf:∀b∈X.ex,b≠X.env.locals/\∀x c,X.env.cells.lookup x=some c->c≠b
 bs:∀b o,X.base.get? b=some o->X.s₀.heap.get? b=some o/\X.H₀ b=none
 bsz:X.base.objs.size<=X.s₀.heap.objs.size
 noex:∀b o,X.base.get? b=some o->b∉X.ex
 exfs:∀b∈X.ex,b∉X.fs
 funs:X.s₀.heap.FunFrames X.base X.outer
 frf:∀b∈X.fs,X.H₀ b=none
structure Inv(X:Cx)(pins:List (Addr×Obj))(σ:List (Option V))(H:Hp)(s:Oi):Prop where
 ok:X.Ok
 os:s.os=X.s₀.os
 bare:SU s.gens
 base:Un X.fs X.ex X.H₀ H X.s₀.heap s.heap
 loc:∃m,s.heap.Ns X.env.locals m/\∀(i:Nat) (x:Str) (v:V),X.N[i]? = some x->σ[i]? = some (some v)->A0 X.env.scope x->∃u,RelV v u/\Look X.env s.heap m x u
 cell:∀x c,X.env.cells.lookup x=some c->∃v,s.heap.IsCell c v
 free:H X.env.locals=none
 freeC:∀x c,X.env.cells.lookup x=some c->H c=none
 pin:∀p∈X.pn++pins,s.heap.get? p.1=some p.2/\H p.1=none/\p.1≠X.env.locals/\p.1∉X.fs/\∀v,p.2.data≠.cell v
 hok:Ys X.prog X.w H s.heap
 len:σ.length=X.N.length
section
variable {X:Cx}{pins:List (Addr×Obj)}{σ:List (Option V)}{H H':Hp}{s:Oi}{h':Heap}
theorem Cx.Ok.nofr(ok:X.Ok)(e:X.base.get? b=some o):b∉X.fs:=fun hb=>by
 have:=(ok.funs.mem hb).1<;>simp_all
theorem Inv.bs(I:Inv X pins σ H s):∀b o,X.base.get? b=some o->s.heap.get? b=some o/\H b=none:=fun b o e=>
 ⟨I.base.keep b o (I.ok.bs b o e).1 (I.ok.bs b o e).2 (I.ok.nofr e) (I.ok.noex b o e),I.base.free b o (I.ok.bs b o e).1 (I.ok.bs b o e).2 (I.ok.noex b o e)⟩
theorem Inv.bk(I:Inv X pins σ H s):∀b o,X.base.get? b=some o->s.heap.get? b=some o:=fun b o e=>(I.bs b o e).1
theorem Inv.mod(I:Inv X pins σ H s):Mod X.K X.mg X.base:=I.ok.mod
theorem Inv.kIn(I:Inv X pins σ H s):X.K.In s.heap:=I.ok.mod.kin.keeps I.bk
theorem Inv.lt(I:Inv X pins σ H s):X.env.locals<s.heap.objs.size:=let ⟨_,hn,_⟩:=I.loc;hn.lt
theorem Inv.sz(I:Inv X pins σ H s):X.s₀.heap.objs.size<=s.heap.objs.size:=OC I.ok.above (Tw I.lt)
theorem Inv.nofs(I:Inv X pins σ H s)(h:s.heap.objs.size<=a):a∉X.fs:=fun hb=>by
 obtain⟨_,o,ho,_⟩:=I.ok.funs.mem hb;exact absurd (OH (Ow ho) (OC I.sz h)) (Pp _)
theorem Inv.cne(I:Inv X pins σ H s):∀x c,X.env.cells.lookup x=some c->c≠X.env.locals:=fun x c e z=>by
 obtain⟨v,o,ho,hd⟩:=I.cell x c e
 obtain⟨m,⟨o',es,ep,HF,ZX,_⟩,_⟩:=I.loc<;>simp_all
theorem Inv.funs(I:Inv X pins σ H s):s.heap.FunFrames X.base X.outer:=by
 have all:∀(l:List Env),(∀b∈frs l,b∈X.fs)->X.s₀.heap.FunFrames X.base l->s.heap.FunFrames X.base l:=by
  intro l
  induction l with
  |nil=>intro _ _;trivial
  |cons env r ih=>
   intro hs hl;obtain⟨hk,⟨L,o,hf,hn,ho,hd⟩,hr⟩:=hl;have hL:=hs L (by unfold frs<;>simp_all);obtain⟨sl,e⟩:=I.base.slot L o ho (I.ok.frf L hL) hL fun z=>I.ok.exfs L z hL;exact⟨hk,⟨L,_,hf,hn,e,hd⟩,ih (fun b hb=>hs b (by unfold frs;rw[Sj,hf];exact Of _ hb)) hr⟩
 exact all _ (fun _ hb=>hb) I.ok.funs
theorem Inv.stack(I:Inv X pins σ H s):s.heap.FunFrames X.base X.stack:=by
 rcases I.ok.stk with e|⟨e,hf⟩
 .rw[e];exact I.funs
 .rw[e]
  obtain⟨m,hn,_⟩:=I.loc;refine .cons (by rw[I.ok.kind];decide) hf hn ?_ I.funs;exact Heap.get?_none_of_le (OC I.ok.bsz I.ok.above)
theorem Inv.stkSub(I:Inv X pins σ H s):∀b∈frs X.stack,b∈X.env.locals::X.fs:=fun b hb=>by
 rcases I.ok.stk with e|⟨e,hf⟩
 simp_all
 .rw[e] at hb
  unfold frs at hb;rw[Sj,hf] at hb;exact hb
theorem Inv.stkFree(I:Inv X pins σ H s):∀b∈frs X.stack,H b=none:=fun b hb=>by
 rcases Ox.mp (I.stkSub b hb) with e|hb
 .rw[e];exact I.free
 .obtain⟨_,o,ho,_⟩:=I.ok.funs.mem hb
  exact I.base.free b o ho (I.ok.frf b hb) fun z=>I.ok.exfs b z hb
theorem Inv.step{g':Array GenState}{t':Nat}{d':Drawn}{ch:List Addr}(I:Inv X pins σ H s)
  (GT:∀b∈ch,(b∈X.ex\/X.s₀.heap.objs.size<=b)/\b≠X.env.locals/\(∀x c,X.env.cells.lookup x=some c->c≠b)/\∀p∈X.pn++pins,p.1≠b)
  (keep:∀b o,b≠X.env.locals->b∉X.fs->b∉ch->s.heap.get? b=some o->H b=none->h'.get? b=some o)
  (slot:∀b o,b≠X.env.locals->b∈X.fs->b∉ch->s.heap.get? b=some o->H b=none->∃sl,h'.get? b=some { o with slots:=sl }) (free:∀b o,b∉ch->s.heap.get? b=some o->H b=none->H' b=none)
  (there:∀b o,b∉ch->s.heap.get? b=some o->∃o',h'.get? b=some o')
  (tups:∀b xs,H b=some (.tup xs)->H' b=some (.tup xs)) (frzs:∀b o u,H b=some (.frz o u)->H' b=some (.frz o u)) (tbls:∀b ps,H b=some (.tbl ps)->∃more,H' b=some (.tbl (ps++more)))
  (ns:∀m,s.heap.Ns X.env.locals m->h'.Ns X.env.locals m) (hok:Ys X.prog X.w H' h') (hg:SU g') :
  Inv X pins σ H' { s with heap:=h',gens:=g',drawn:=d',toks:=t' }:=by
 have CB:∀b o,X.s₀.heap.get? b=some o->b≠X.env.locals:=fun b o e=>OI (OH (Ow e) I.ok.above)
 have Dd:∀b o,X.s₀.heap.get? b=some o->b∉X.ex->b∉ch:=fun b o e hx hb=>by
  rcases(GT b hb).1 with z|z
  .exact hx z
  .exact absurd (OH (Ow e) z) (Pp _)
 have cellK:∀x c,X.env.cells.lookup x=some c->∀v,s.heap.IsCell c v->h'.IsCell c v:=fun x c e v ⟨o,ho,hd⟩=>by
  have Cm:c∉ch:=fun z=>(GT c z).2.2.1 x c e rfl
  by_cases hc:c∈X.fs
  .obtain⟨sl,q⟩:=slot c o (I.cne x c e) hc Cm ho (I.freeC x c e)
   exact⟨_,q,hd⟩
  .exact⟨o,keep c o (I.cne x c e) hc Cm ho (I.freeC x c e),hd⟩
 refine⟨I.ok,I.os,hg,⟨fun b o e n hb hx=>?_,fun b o e n hb hx=>?_,fun b o e n hx=>?_,fun b o e hx=>?_,fun b xs e=>tups b xs (I.base.tups b xs e),fun b o xs e=>frzs b o xs (I.base.frzs b o xs e),fun b ps e=>?_⟩,?_,fun x c e=>?_,?_,fun x c e=>?_,fun p hp=>?_,hok,I.len⟩
 .exact keep b o (CB b o e) hb (Dd b o e hx) (I.base.keep b o e n hb hx) (I.base.free b o e n hx)
 .obtain⟨sl,e1⟩:=I.base.slot b o e n hb hx
  obtain⟨sl',e2⟩:=slot b _ (CB b o e) hb (Dd b o e hx) e1 (I.base.free b o e n hx);exact⟨sl',e2⟩
 .obtain⟨o',e1⟩:=I.base.there b o e hx
  exact free b o' (Dd b o e hx) e1 (I.base.free b o e n hx)
 .obtain⟨o',e1⟩:=I.base.there b o e hx
  exact there b o' (Dd b o e hx) e1
 .obtain⟨m1,e1⟩:=I.base.tbls b ps e
  obtain⟨m2,e2⟩:=tbls b _ e1;exact⟨m1++m2,by rw[e2,Array.append_assoc]⟩
 .obtain⟨m,hn,hl⟩:=I.loc
  refine⟨m,ns m hn,fun i x v e1 e2 e3=>?_⟩;obtain⟨u,r,l⟩:=hl i x v e1 e2 e3;refine⟨u,r,?_⟩
  rcases l with l|⟨k,c,e,z⟩
  .exact .inl l
  .exact .inr ⟨k,c,e,cellK x c e _ z⟩
 .obtain⟨v,z⟩:=I.cell x c e
  exact⟨v,cellK x c e v z⟩
 .obtain⟨m,⟨o,_,_,ho,_⟩,_⟩:=I.loc
  exact free _ o (fun z=>(GT _ z).2.1 rfl) ho I.free
 .obtain⟨v,o,ho,hd⟩:=I.cell x c e
  exact free c o (fun z=>(GT c z).2.2.1 x c e rfl) ho (I.freeC x c e)
 .obtain⟨e,n,ne,nf,d⟩:=I.pin p hp
  have Cm:p.1∉ch:=fun z=>(GT p.1 z).2.2.2 p hp rfl;exact⟨keep p.1 p.2 ne nf Cm e n,free p.1 p.2 Cm e n,ne,nf,d⟩
theorem Inv.un(I:Inv X pins σ H s)(u:Un X.fs [] H H' s.heap h')(hok:Ys X.prog X.w H' h'):Inv X pins σ H' { s with heap:=h',toks:=t' }:=by
 obtain⟨m,⟨o,es,ep,ho,r⟩,_⟩:=id I.loc;obtain⟨sl,hL⟩:=u.any ho I.free (by simp)
 exact I.step   (ch:=[]) (fun _ z=>nomatch z) (fun b o _ hb _ e n=>u.keep b o e n hb (by simp)) (fun b o _ hb _ e n=>u.slot b o e n hb (by simp)) (fun b o _ e n=>u.free b o e n (by simp)) (fun b o _ e=>u.there b o e (by simp)) u.tups u.frzs u.tbls (fun m' hm=>by
  obtain⟨o',CZ,GW,HF,r'⟩:=hm;rw[ho] at HF;cases HF
  exact⟨_,CZ,GW,hL,r'⟩) hok I.bare
theorem Inv.call(I:Inv X pins σ H s)(u:Un (frs X.stack) ch H H' s.heap h')(hok:Ys X.prog X.w H' h')(hg:SU g')
  (GT:∀b∈ch,(b∈X.ex\/X.s₀.heap.objs.size<=b)/\b≠X.env.locals/\(∀x c,X.env.cells.lookup x=some c->c≠b)/\∀p∈X.pn++pins,p.1≠b) :
  Inv X pins σ H' { s with heap:=h',gens:=g',drawn:=d',toks:=t' }:=by
 obtain⟨m,⟨o,es,ep,ho,r⟩,_⟩:=id I.loc;obtain⟨sl,hL⟩:=u.any ho I.free fun z=>(GT _ z).2.1 rfl
 exact I.step  GT (fun b o hL hb hc e n=>u.keep b o e n (fun z=>(Ox.mp (I.stkSub b z)).elim hL hb) hc) (fun b o _ _ hc e n=>u.any e n hc) (fun b o hc e n=>u.free b o e n hc) (fun b o hc e=>u.there b o e hc) u.tups u.frzs u.tbls (fun m' hm=>by
  obtain⟨o',CZ,GW,HF,r'⟩:=hm;rw[ho] at HF;cases HF
  exact⟨_,CZ,GW,hL,r'⟩) hok hg
theorem Inv.turned(I:Inv X pins σ H s)(k:∀b o,b≠it->s.heap.get? b=some o->h'.get? b=some o)(hn:H it=none)(hL:it≠X.env.locals)
  (h1:it∈X.ex\/X.s₀.heap.objs.size<=it) (h2:∀x c,X.env.cells.lookup x=some c->c≠it) (h3:∀p∈X.pn++pins,p.1≠it):Inv X pins σ H { s with heap:=h',toks:=t' }:=by
 have BD:∀b u,H b=some u->b≠it:=fun b u e z=>by simp_all
 refine I.step   (ch:=[it]) (fun b hb=>?_) (fun b o _ _ hc e _=>k b o (fun z=>hc (by simp[z])) e) (fun b o _ _ hc e _=>⟨o.slots,k b o (fun z=>hc (by simp[z])) e⟩) (fun _ _ _ _ n=>n)
  (fun b o hc e=>⟨o,k b o (fun z=>hc (by simp[z])) e⟩) (fun _ _ e=>e) (fun _ _ _ e=>e) (fun b ps e=>⟨#[],by simp_all⟩) (fun m hm=>?_) (fun b u e=>?_) I.bare
 .have e:=by simpa using hb
  subst e;exact⟨h1,hL,h2,h3⟩
 .obtain⟨o,es,ep,ho,r⟩:=hm
  exact⟨o,es,ep,k _ o (Qd hL) ho,r⟩
 .refine(I.hok b u e).stay (fun c v hc q=>k c v ?_ q) (fun _ q=>q) fun _ _ q=>q
  rcases hc with z|z
  .rw[z];exact BD b u e
  .exact BD c _ z
theorem Inv.tok(I:Inv X pins σ H s)(t:Nat):Inv X pins σ H { s with toks:=t }:=I.un   Un.refl I.hok
theorem Inv.kept(I:Inv X pins σ H s)(k:∀b u,s.heap.get? b=some u->h'.get? b=some u):Inv X pins σ H { s with heap:=h',toks:=t' }:=I.un (Un.kept k) (I.hok.kept k)
theorem Inv.laid(I:Inv X pins σ H s)(k:∀b u,s.heap.get? b=some u->h'.get? b=some u)(hp:s.heap.objs.size<=a)(new:XM X.prog X.w (upd H a o) h' a o) :
  Inv X pins σ (upd H a o) { s with heap:=h',toks:=t' }:=I.un (Un.laid k hp (I.hok.fresh hp)) (I.hok.laid k hp new)
theorem Inv.write(I:Inv X pins σ H s)(mu:Y9 (H x))(he:e=x\/H e=some (.own x))(k:∀b u,b≠e->s.heap.get? b=some u->h'.get? b=some u)(Kl:∃u,h'.get? e=some u)
  (new:XM X.prog X.w (upd H x o) h' x o):Inv X pins σ (upd H x o) { s with heap:=h',toks:=t' }:=I.un (Un.write mu he k Kl) (I.hok.write mu he k Kl new)
theorem Inv.pins_of(I:Inv X pins σ H s)(h:∀p∈Zf,s.heap.get? p.1=some p.2/\H p.1=none/\p.1≠X.env.locals/\p.1∉X.fs/\∀v,p.2.data≠.cell v):Inv X Zf σ H s:=⟨I.ok,I.os,I.bare,I.base,I.loc,I.cell,I.free,I.freeC,fun p hp=>(OD.mp hp).elim (fun z=>I.pin p (Pb _ z)) (h p),I.hok,I.len⟩
theorem wq{N:List Str}(hN:N.Nodup){i j:Nat}{x:Str}(a:N[i]? = some x)(b:N[j]? = some x):i=j:=by
 obtain⟨h1,e1⟩:=Od.mp a;obtain⟨h2,e2⟩:=Od.mp b;exact(List.getElem_inj hN).mp (e1.trans e2.symm)
theorem uP(I:Inv X pins σ H s)(hN:X.N.Nodup)(hi:X.N[i]? = some x)(hx:Loc X.env.scope x)(r:RelV v u)
  (h:∀s',Inv X pins (σ.set i (some v)) H s'->(∃a,Qi a s.heap s'.heap/\(a=X.env.locals\/X.env.cells.lookup x=some a))->Q () s') (hf:autoParam (X.fn x=true\/X.env.scope.names.lookup x=some .local) u15):OG M A (storeName X.env x u) Q E s:=by
 obtain⟨m,hn,hl⟩:=id I.loc
 have CG:(X.env.scope.kind == .class||(X.env.scope.kind == .module&&X.env.locals != X.env.globals))=false:=by rw[I.ok.kind];rfl
 have Iq:i<σ.length:=by rw[I.len];exact(Od.mp hi).1
 have cne:=I.cne
 have tracked:∀{a:Addr}{h':Heap},(∃o,s.heap.get? a=some o/\H a=none)->Qi a s.heap h'->Ys X.prog X.w H h':=fun {a h'} ha hs b ob e=>by
  obtain⟨_,_,Ck⟩:=ha;refine(I.hok b ob e).stay (fun c w' hc q=>(hs.2 c ?_).trans q) (fun _ q=>q) fun _ _ q=>q;rintro rfl
  rcases hc with rfl|hc
  .simp_all
  .simp_all
 rcases hx with hk|hk
 .refine wpAny_storeName_local hk hn (fun h' JW hs=>?_) CG
  obtain⟨oL,_,_,hoL,_⟩:=id hn;refine h _ ⟨I.ok,I.os,I.bare,⟨fun b o e n hb hx=>?_,fun b o e n hb hx=>?_,I.base.free,fun b o e hx=>?_,I.base.tups,I.base.frzs,I.base.tbls⟩,⟨_,JW,fun j y v' e1 e2 e3=>?_⟩,fun y c e=>?_,I.free,I.freeC,fun p hp=>?_,tracked ⟨oL,hoL,I.free⟩ hs,by simpa using I.len⟩ ⟨_,hs,.inl rfl⟩
  .exact(hs.2 b (OI (OH (Ow e) I.ok.above))).trans (I.base.keep b o e n hb hx)
  .obtain⟨sl,e1⟩:=I.base.slot b o e n hb hx
   exact⟨sl,(hs.2 b (OI (OH (Ow e) I.ok.above))).trans e1⟩
  .obtain⟨o',e1⟩:=I.base.there b o e hx
   exact⟨o',(hs.2 b (OI (OH (Ow e) I.ok.above))).trans e1⟩
  .by_cases hj:j=i
   .subst hj
    rw[hi] at e1;cases e1;rw[Oq Iq] at e2;cases e2;exact⟨u,r,.inl ⟨hk,by simp⟩⟩
   .rw[On (Qd hj)] at e2
    obtain⟨u',r',q⟩:=hl j y v' e1 e2 e3;refine⟨u',r',?_⟩
    rcases q with⟨k,e⟩|⟨k,c,e,z⟩
    .refine .inl ⟨k,?_⟩
     have:y≠x:=fun e=>hj (wq hN e1 (e ▸ hi));simp[this,e]
    .exact .inr ⟨k,c,e,z.sameBut hs (cne y c e)⟩
  .obtain⟨w',z⟩:=I.cell y c e
   exact⟨w',z.sameBut hs (cne y c e)⟩
  .obtain⟨e,n,ne,nf,d⟩:=I.pin p hp
   exact⟨(hs.2 p.1 ne).trans e,n,ne,nf,d⟩
 .have HR:X.fn x=true:=by
   rcases hf with z|z
   .exact z
   .rw[z] at hk;cases hk
  obtain⟨c,hc⟩:=I.ok.has x (.inl hk);obtain⟨w',z⟩:=I.cell x c hc;refine wpAny_storeName_cell I.ok.kind hk hc z (fun h' YK hs=>?_);obtain⟨oc,D9,FR⟩:=id z;refine h { s with heap:=h' } ⟨I.ok,I.os,I.bare,⟨fun b o e n hb hx=>?_,fun b o e n hb hx=>?_,I.base.free,fun b o e hx=>?_,I.base.tups,I.base.frzs,I.base.tbls⟩,⟨m,hn.sameBut hs (Qd (cne x c hc)),fun j y v' e1 e2 e3=>?_⟩,fun y c' e=>?_,I.free,I.freeC,fun p hp=>?_,tracked ⟨oc,D9,I.freeC x c hc⟩ hs,by simpa using I.len⟩ ⟨c,hs,.inr hc⟩
  .exact(hs.2 b (OI (OH (Ow e) (I.ok.cab x c HR hc)))).trans (I.base.keep b o e n hb hx)
  .obtain⟨sl,e1⟩:=I.base.slot b o e n hb hx
   exact⟨sl,(hs.2 b (OI (OH (Ow e) (I.ok.cab x c HR hc)))).trans e1⟩
  .obtain⟨o',e1⟩:=I.base.there b o e hx
   exact⟨o',(hs.2 b (OI (OH (Ow e) (I.ok.cab x c HR hc)))).trans e1⟩
  .by_cases hj:j=i
   .subst hj
    rw[hi] at e1;cases e1;rw[Oq Iq] at e2;cases e2;exact⟨u,r,.inr ⟨.inl hk,c,hc,YK⟩⟩
   .rw[On (Qd hj)] at e2
    obtain⟨u',r',q⟩:=hl j y v' e1 e2 e3;refine⟨u',r',?_⟩
    rcases q with q|⟨k,c',e,z'⟩
    .exact .inl q
    .refine .inr ⟨k,c',e,z'.sameBut hs ?_⟩
     rintro rfl;exact hj (wq hN e1 (I.ok.inj _ _ _ e hc ▸ hi))
  .by_cases AC:c'=c
   .subst AC;exact⟨_,YK⟩
   .obtain⟨w2,z2⟩:=I.cell y c' e
    exact⟨w2,z2.sameBut hs AC⟩
  .obtain⟨e,n,ne,nf,d⟩:=I.pin p hp
   refine⟨(hs.2 p.1 ?_).trans e,n,ne,nf,d⟩;intro q;rw[q,D9] at e;have q':oc=p.2:=Qv e;exact d w' (by rw[←q'];exact FR)
theorem qv(I:Inv X pins σ H s)(hN:X.N.Nodup)(hi:X.N[i]? = some x)(hx:Loc X.env.scope x)(r:RelV v u)
  (h:∀s',Inv X pins (σ.set i (some v)) H s'->Q () s') (hf:autoParam (X.fn x=true\/X.env.scope.names.lookup x=some .local) u15):OG M A (storeName X.env x u) Q E s:=uP I hN hi hx r (fun s' I' _=>h s' I') hf
theorem Inv.call'(I:Inv X pins σ H s)(ho:s'.os=s.os)(u:Un (frs X.stack) ch H H' s.heap s'.heap)(hok:Ys X.prog X.w H' s'.heap)(hg:SU s'.gens)
  (GT:∀b∈ch,(b∈X.ex\/X.s₀.heap.objs.size<=b)/\b≠X.env.locals/\(∀x c,X.env.cells.lookup x=some c->c≠b)/\∀p∈X.pn++pins,p.1≠b):Inv X pins σ H' s':=by
 obtain⟨h',g',d',t',o'⟩:=s';have e:=ho;subst e;exact I.call    u hok hg GT
end
abbrev XK:=Oc->Option Addr->Hp->Prop
abbrev St:=List (Option V)
abbrev VK:=V->Hp->Prop
abbrev TE:=St->Hp->VK->Prop
abbrev TT:=St->Hp->(Bool->Hp->Prop)->Prop
abbrev TA:=St->Hp->(List V->Hp->Prop)->Prop
structure Ends where
 nx:St->Hp->Prop
 rt:VK
 bk:St->Hp->Prop:=fun _ _=>False
 ct:St->Hp->Prop:=fun _ _=>False
abbrev TS:=Ends->St->Hp->Prop
def EP(X:Cx)(pins:List (Addr×Obj))(σ:St)(Q:VK)(u:Oc)(s':Oi):Prop:=∃v H',Inv X pins σ H' s'/\RelV v u/\Q v H'
def TP(X:Cx)(pins:List (Addr×Obj))(σ:St)(Q:Bool->Hp->Prop)(b:Bool)(s':Oi):Prop:=∃H',Inv X pins σ H' s'/\Q b H'
def AP(X:Cx)(pins:List (Addr×Obj))(σ:St)(Q:List V->Hp->Prop)(us:List Oc)(s':Oi):Prop:=∃vs H',Inv X pins σ H' s'/\Xv vs us/\Q vs H'
def SP(X:Cx)(pins:List (Addr×Obj))(D:Ends)(f:Flow)(s':Oi):Prop:=
 match f with
 |.next=>∃σ' H',Inv X pins σ' H' s'/\D.nx σ' H'
 |.brk=>∃σ' H',Inv X pins σ' H' s'/\D.bk σ' H'
 |.cont=>∃σ' H',Inv X pins σ' H' s'/\D.ct σ' H'
 |.ret u=>∃v σ' H',Inv X pins σ' H' s'/\RelV v u/\D.rt v H'
def PE(X:Cx)(e:Expr)(t:TE):Prop:=∀(pins:List (Addr×Obj)) (s:Oi) (σ:St) (H:Hp) (Q:VK),Inv X pins σ H s->t σ H Q->OG (OJ X.prog X.w) X.A (eval e X.env) (EP X pins σ Q) X.xe s
def PT(X:Cx)(e:Expr)(t:TT):Prop:=∀(pins:List (Addr×Obj)) (s:Oi) (σ:St) (H:Hp) (Q:Bool->Hp->Prop),Inv X pins σ H s->t σ H Q->OG (OJ X.prog X.w) X.A (VA e X.env (eval e X.env)) (TP X pins σ Q) X.xe s
def PW(X:Cx)(e:Expr)(t:TT):Prop:=∀(whole:Sem Oc) (pins:List (Addr×Obj)) (s:Oi) (σ:St) (H:Hp) (Q:Bool->Hp->Prop),Inv X pins σ H s->t σ H Q->OG (OJ X.prog X.w) X.A (VA e X.env whole) (TP X pins σ Q) X.xe s
theorem PW.pt(h:PW X e t):PT X e t:=h _
def PA(X:Cx)(es:List Expr)(t:TA):Prop:=∀(pos:Pos) (pins:List (Addr×Obj)) (s:Oi) (σ:St) (H:Hp) (Q:List V->Hp->Prop),Inv X pins σ H s->t σ H Q->OG (OJ X.prog X.w) X.A (spliced (Pe pos (Ol es X.env))) (AP X pins σ Q) X.xe s
def PS(X:Cx)(st:Stmt)(t:TS):Prop:=∀(pins:List (Addr×Obj)) (s:Oi) (σ:St) (H:Hp) (D:Ends),Inv X pins σ H s->t D σ H->OG (OJ X.prog X.w) X.A (exec st X.env) (SP X pins D) X.xe s
def Zy(X:Cx)(st:List Stmt)(t:TS):Prop:=∀(pins:List (Addr×Obj)) (s:Oi) (σ:St) (H:Hp) (D:Ends),Inv X pins σ H s->t D σ H->OG (OJ X.prog X.w) X.A (execs st X.env) (SP X pins D) X.xe s
theorem XD{α:Type}{t:Sem α}{Q Q':α->Oi->Prop}{M:Model}{A:O0}{E:Oc->Oi->Prop}{s:Oi}(h:OG M A t Q E s)(hQ:∀a s,Q a s->Q' a s):OG M A t Q' E s:=Pw h hQ fun _ _ x=>x
section
variable {X:Cx}
noncomputable def z4(i:Nat):TE:=fun σ H Q=>∃v,σ[i]? = some (some v)/\Q v H
noncomputable def tC(v:V):TE:=fun _ H Q=>Q v H
theorem zam(hN:X.N[i]? = some x)(hv:A0 X.env.scope x)(hd:autoParam ((x == ("__debug__" : Str))=false) u11)(hcd:autoParam ((x == ("__classdict__" : Str))=false) u11):PE X (.Name x pos) (z4 i):=by
 intro pins s σ H Q I h;obtain⟨v,e,h⟩:=h;obtain⟨m,hn,hl⟩:=I.loc;obtain⟨u,r,l⟩:=hl i x v hN e hv;have fin:EP X pins σ Q u s:=⟨v,H,I,r,h⟩
 rcases l with⟨hk,hm⟩|⟨hk,c,hc,Ey⟩
 .exact Wf (wpAny_loadName_local I.ok.kind hk hn hm fin) hd
 .rcases hk with hk|hk
  .exact Wf (wpAny_loadName_cell I.ok.kind hk hc Ey fin) hd
  .exact Wf (wpAny_loadName_free I.ok.kind hk hc Ey fin hcd) hd
theorem yD{i j pos}:PE X (.Constant (.int i) j pos) (tC (.int i)):=fun _ _ _ H _ I h=>wpAny_Constant_int ⟨.int i,H,I.tok _,⟨_,rfl⟩,h⟩
theorem sJ{b j pos}:PE X (.Constant (.bool b) j pos) (tC (.bl b)):=fun _ _ _ H _ I h=>Constant_bool ⟨.bl b,H,I,rfl,h⟩
theorem zan{j pos}:PE X (.Constant .none j pos) (tC .non):=fun _ _ _ H _ I h=>Constant_none ⟨.non,H,I,rfl,h⟩
theorem rT{x j pos}:PE X (.Constant (.str x) j pos) (tC (.str x)):=fun _ _ _ H _ I h=>Calls.Constant_str ⟨.str x,H,I.tok _,⟨_,rfl⟩,h⟩
def Gl(X:Cx)(x:Str):Prop:=X.env.kindOf x=some .globalImplicit
theorem nG(I:Inv X pins σ H s)(hg:Gl X x)(hm:X.mg x=some u)(h:Q u s)
  (hd:autoParam ((x == ("__debug__" : Str))=false) u11):OG (OJ X.prog X.w) X.A (eval (.Name x pos) X.env) Q E s:=Sy I.ok.kind hg (Calls.loadGlobal_global (by rw[I.ok.glob];exact I.mod.glob.keeps I.bk) hm h) hd
theorem lP(I:Inv X pins σ H s)(hg:Gl X x)(hm:X.mg x=none)(hv:Qw x=some u)(h:Q u s)
  (hn:autoParam (x≠"__name__") u11) (hd:autoParam ((x == ("__debug__" : Str))=false) u11):OG (OJ X.prog X.w) X.A (eval (.Name x pos) X.env) Q E s:=by
 obtain⟨mb,h1,h2⟩:=I.mod.blt;exact Sy I.ok.kind hg (Calls.loadGlobal_builtin (by rw[I.ok.glob];exact I.mod.glob.keeps I.bk) hm (by rw[I.ok.blt];exact h1.keeps I.bk) ((h2 x hn).trans hv) h) hd
theorem jO(hg:Gl X x)(hm:X.mg x=some u)(r:RelV v u)(hd:autoParam ((x == ("__debug__" : Str))=false) u11):PE X (.Name x pos) (tC v):=fun _ _ _ H _ I h=>nG I hg hm ⟨v,H,I,r,h⟩ hd
theorem zao(hg:Gl X x)(hm:X.mg x=none)(hv:Qw x=some u)(r:RelV v u)(hn:autoParam (x≠"__name__") u11)(hd:autoParam ((x == ("__debug__" : Str))=false) u11):PE X (.Name x pos) (tC v):=fun _ _ _ H _ I h=>lP I hg hm hv ⟨v,H,I,r,h⟩ hn hd
variable {a b:Expr}{ta tb:TE}{pos:Pos}
def PC(X:Cx)(op:UU)(a b:Expr)(t:TE):Prop:=
 ∀(pins:List (Addr×Obj)) (s:Oi) (σ:St) (H:Hp) (Q:VK),Inv X pins σ H s->t σ H Q ->
  OG (OJ X.prog X.w) X.A (eval a X.env) (fun v s₁=>OG (OJ X.prog X.w) X.A (eval b X.env) (fun u ZF=>OG (OJ X.prog X.w) X.A (OQ op v u) (EP X pins σ Q) X.xe ZF) X.xe s₁) X.xe s
noncomputable def tB(t:TE):TT:=fun σ H Q=>t σ H fun x H1=>∃c,x=.bl c/\Q c H1
theorem zap(h:PC X op a b t)(h1:Qy op b=false:=by first|exact GI _ (by decide) (by decide)|rfl):PT X (.Compare a [op] [b] pos) (tB t):=by
 intro pins s σ H Q I hw;refine Uh (XD (h pins s σ H _ I hw) fun v s1 h1=>XD h1 fun u s2 h2=>XD h2 fun c s3 ⟨x,H1,I1,r1,q1⟩=>?_) h1;obtain⟨d,rfl,q⟩:=q1;cases r1;exact Pq ⟨H1,I1,q⟩
theorem zaq(h:PE X e t)(he:autoParam (∀whole,VA e X.env whole=(do let v ←whole;UO e.pos;UP [v] (truthy v))) u16):PT X e (tB t):=by
 intro pins s σ H Q I hw;refine isTrue_plain (XD (h pins s σ H _ I hw) fun v s1 ⟨x,H1,I1,r1,q1⟩=>?_) (he _);obtain⟨d,rfl,q⟩:=q1;cases r1;exact Pq ⟨H1,I1,q⟩
variable {tA IG:TT}{rest:List Expr}
noncomputable def Ky(t u:TT):TT:=fun σ H Q=>t σ H fun c H1=>if c=true then u σ H1 Q else Q false H1
noncomputable def tOr(t u:TT):TT:=fun σ H Q=>t σ H fun c H1=>if c=true then Q true H1 else u σ H1 Q
noncomputable def Kr(t:TT):TT:=fun σ H Q=>t σ H fun c H1=>Q (!c) H1
theorem zar(ha:PT X a tA):PW X (.BoolOp .And [a] pos) tA:=by
 intro wh pins s σ H Q I h;refine isTrue_and (XD (ha pins s σ H Q I h) fun c s1 e=>?_)
 cases c with
 |true=>exact isTrue_and_nil e
 |false=>exact e
theorem zas(ha:PT X a tA):PW X (.BoolOp .Or [a] pos) tA:=by
 intro wh pins s σ H Q I h;refine isTrue_or (XD (ha pins s σ H Q I h) fun c s1 e=>?_)
 cases c with
 |false=>exact isTrue_or_nil e
 |true=>exact e
theorem zat(ha:PT X a tA)(hb:PW X (.BoolOp .And (b::rest) pos) IG):PW X (.BoolOp .And (a::b::rest) pos) (Ky tA IG):=by
 intro wh pins s σ H Q I h;refine isTrue_and (XD (ha pins s σ H _ I h) fun c s1 ⟨H1,I1,q1⟩=>?_)
 cases c with
 |true=>exact hb wh pins s1 σ H1 Q I1 q1
 |false=>exact⟨H1,I1,q1⟩
theorem zau(ha:PT X a tA)(hb:PW X (.BoolOp .Or (b::rest) pos) IG):PW X (.BoolOp .Or (a::b::rest) pos) (tOr tA IG):=by
 intro wh pins s σ H Q I h;refine isTrue_or (XD (ha pins s σ H _ I h) fun c s1 ⟨H1,I1,q1⟩=>?_)
 cases c with
 |true=>exact⟨H1,I1,q1⟩
 |false=>exact hb wh pins s1 σ H1 Q I1 q1
theorem yw(ha:PT X a tA):PT X (.UnaryOp .Not a pos) (Kr tA):=by
 intro pins s σ H Q I h;exact isTrue_not (ha pins s σ H _ I h)
noncomputable def Ja(ta tb:TE):TE:=fun σ H Q=>ta σ H fun x H1=>∃c,x=.bl c/\if c=true then tb σ H1 Q else Q (.bl false) H1
noncomputable def Kq(ta tb:TE):TE:=fun σ H Q=>ta σ H fun x H1=>∃c,x=.bl c/\if c=true then Q (.bl true) H1 else tb σ H1 Q
noncomputable def IV(ta:TE):TE:=fun σ H Q=>ta σ H fun x H1=>∃c,x=.bl c/\Q (.bl (!c)) H1
theorem zav{op}(h:PE X a t):PE X (.BoolOp op [a] pos) t:=fun pins s σ H Q I hw=>BoolOp_one (h pins s σ H Q I hw)
theorem zaw(ha:PE X a ta)(hb:PE X (.BoolOp .And (b::rest) pos) tb):PE X (.BoolOp .And (a::b::rest) pos) (Ja ta tb):=by
 intro pins s σ H Q I h;refine BoolOp_and (XD (ha pins s σ H _ I h) fun v s1 ⟨x,H1,I1,r1,q1⟩=>?_);obtain⟨c,rfl,q1⟩:=q1;cases r1;refine Pq ?_
 cases c with
 |true=>exact hb pins s1 σ H1 Q I1 q1
 |false=>exact⟨.bl _,H1,I1,rfl,q1⟩
theorem zax(ha:PE X a ta)(hb:PE X (.BoolOp .Or (b::rest) pos) tb):PE X (.BoolOp .Or (a::b::rest) pos) (Kq ta tb):=by
 intro pins s σ H Q I h;refine BoolOp_or (XD (ha pins s σ H _ I h) fun v s1 ⟨x,H1,I1,r1,q1⟩=>?_);obtain⟨c,rfl,q1⟩:=q1;cases r1;refine Pq ?_
 cases c with
 |false=>exact hb pins s1 σ H1 Q I1 q1
 |true=>exact⟨.bl true,H1,I1,rfl,q1⟩
theorem zay(ha:PE X a ta):PE X (.UnaryOp .Not a pos) (IV ta):=by
 intro pins s σ H Q I h;refine UnaryOp_ (XD (ha pins s σ H _ I h) fun v s1 ⟨x,H1,I1,r1,q1⟩=>?_);obtain⟨c,rfl,q1⟩:=q1;cases r1;exact not_of (Pq ⟨.bl (!c),H1,I1,rfl,q1⟩)
noncomputable def tIf(t:TT)(ta tb:TE):TE:=fun σ H Q=>t σ H fun c H1=>if c=true then ta σ H1 Q else tb σ H1 Q
theorem zaz(hc:PT X c tA)(ha:PE X a ta)(hb:PE X b tb):PE X (.IfExp c a b pos) (tIf tA ta tb):=by
 intro pins s σ H Q I h;refine wpAny_IfExp (XD (hc pins s σ H _ I h) fun d s1 ⟨H1,I1,q1⟩=>?_)
 cases d with
 |true=>exact ha pins s1 σ H1 Q I1 q1
 |false=>exact hb pins s1 σ H1 Q I1 q1
end
def Ye(K:Frag)(H:Hp)(a:Addr)(xs:List V):Prop:=
 Rd H a (.lst xs) \/
  ∃(o:Obj) (Xr:Array Oc) (n:Nat),K.lookup a=some o/\o.cls=.type "list"/\o.dict=none/\o.data=.seq Xr n/\Xr.size<=Om/\Xv xs Xr.toList
def Yn(K:Frag)(H:Hp)(a:Addr)(xs:List V):Prop:=
 Rd H a (.tup xs) \/
  ∃(o:Obj) (Xr:Array Oc) (n:Nat),K.lookup a=some o/\o.cls=.type "tuple"/\o.data=.seq Xr n/\Xr.size<=Om/\Xv xs Xr.toList
noncomputable def KN:Oc->Option V
 |.none=>some .non
 |.bool b=>some (.bl b)
 |.int i _=>some (.int i)
 |.str x _=>some (.str x)
 |.bytes b _=>some (.byt b)
 |.float b _=>some (.flt b)
 |.ref a=>some (.ref a)
 |.type n=>some (.ty n)
 |_=>none
theorem RelV.abs(r:RelV x u):KN u=some x:=by
 cases x with
 |non=>cases r;rfl
 |bl _=>cases r;rfl
 |int _=>obtain⟨t,rfl⟩:=r;rfl
 |str _=>obtain⟨t,rfl⟩:=r;rfl
 |byt _=>obtain⟨t,rfl⟩:=r;rfl
 |flt _=>obtain⟨t,rfl⟩:=r;rfl
 |ref _=>cases r;rfl
 |ty _=>cases r;rfl
theorem RelV.inj(r:RelV x u)(q:RelV y u):x=y:=Qv (r.abs.symm.trans q.abs)
theorem Xv.inj:∀{xs ys:List V}{us:List Oc},Xv xs us->Xv ys us->xs=ys
 |_,_,_,.nil,.nil=>rfl
 |_,_,_,.cons r t,.cons r' t'=>by rw[r.inj r',Xv.inj t t']
section
variable {X:Cx}{pins:List (Addr×Obj)}{σ:St}{H:Hp}{s:Oi}{a:Addr}{xs ys:List V}
theorem Ye.of{K:Frag}(h:H a=some (.lst xs)):Ye K H a xs:=.inl (.inl h)
theorem Yn.of{K:Frag}(h:H a=some (.tup xs)):Yn K H a xs:=.inl (.inl h)
theorem Inv.list(I:Inv X pins σ H s)(h:Ye X.K H a xs):∃Xr:List Oc,Xv xs Xr/\PlainL s.heap a Xr.toArray/\xs.length<=sizeLine:=by
 rcases h with h|⟨o,Xr,n,hk,hc,hd,hs,hz,r⟩
 .obtain⟨z,Xr,n,r,e⟩:=h.ok I.hok
  exact⟨Xr,r,⟨_,n,e,rfl,rfl,rfl⟩,z⟩
 .refine⟨Xr.toList,r,⟨o,n,I.kIn a o hk,hc,hd,by omega⟩,?_⟩
  have e:=r.length<;>simp_all
theorem Inv.tuple(I:Inv X pins σ H s)(h:Yn X.K H a xs):∃Xr:List Oc,Xv xs Xr/\Wb s.heap a Xr.toArray/\xs.length<=sizeLine:=by
 rcases h with h|⟨o,Xr,n,hk,hc,hs,hz,r⟩
 .obtain⟨z,Xr,r,p⟩:=h.ok I.hok
  exact⟨Xr,r,p,z⟩
 .refine⟨Xr.toList,r,⟨o,I.kIn a o hk,hc,n,by omega⟩,?_⟩
  have e:=r.length<;>grind
theorem Inv.list_inj(I:Inv X pins σ H s)(h:Ye X.K H a xs)(h':Ye X.K H a ys):xs=ys:=by
 obtain⟨Xr,r,⟨o,n,e,_,_,d⟩,_⟩:=I.list h;obtain⟨its',r',⟨o',n',e',_,_,d'⟩,_⟩:=I.list h'
 rw[e] at e';have:Xr=its':=by simp_all
 subst this;exact r.inj r'
theorem Inv.tuple_inj(I:Inv X pins σ H s)(h:Yn X.K H a xs)(h':Yn X.K H a ys):xs=ys:=by
 obtain⟨Xr,r,⟨o,e,_,n,d⟩,_⟩:=I.tuple h;obtain⟨its',r',⟨o',e',_,n',d'⟩,_⟩:=I.tuple h'
 rw[e] at e';have:Xr=its':=by simp_all
 subst this;exact r.inj r'
end
abbrev Cx.wish(X:Cx)(E:Oc->Oi->Prop):Cx:={ X with xe:=E }
abbrev Cx.nox(X:Cx):Cx:=X.wish fun _ _=>False
theorem Cx.Ok.wish{X:Cx}(ok:X.Ok)(E:Oc->Oi->Prop):(X.wish E).Ok:=⟨ok.mod,ok.kind,ok.glob,ok.blt,ok.above,ok.inj,ok.has,ok.cab,ok.hd,ok.frames,ok.stk,ok.exf,ok.bs,ok.bsz,ok.noex,ok.exfs,ok.funs,ok.frf⟩
theorem Cx.Ok.unwish{X:Cx}{E:Oc->Oi->Prop}(ok:(X.wish E).Ok):X.Ok:=⟨ok.mod,ok.kind,ok.glob,ok.blt,ok.above,ok.inj,ok.has,ok.cab,ok.hd,ok.frames,ok.stk,ok.exf,ok.bs,ok.bsz,ok.noex,ok.exfs,ok.funs,ok.frf⟩
section
variable {X:Cx}{pins:List (Addr×Obj)}{σ:St}{H:Hp}{s:Oi}{E:Oc->Oi->Prop}{st:Stmt}{rest:List Stmt}{t u:TS}{e:Expr}{te:TE}{pos:Pos}
theorem Inv.wish(I:Inv X pins σ H s)(E:Oc->Oi->Prop):Inv (X.wish E) pins σ H s:=⟨I.ok.wish E,I.os,I.bare,I.base,I.loc,I.cell,I.free,I.freeC,I.pin,I.hok,I.len⟩
theorem Inv.unwish(I:Inv (X.wish E) pins σ H s):Inv X pins σ H s:=⟨I.ok.unwish,I.os,I.bare,I.base,I.loc,I.cell,I.free,I.freeC,I.pin,I.hok,I.len⟩
theorem SP.unwish(h:SP (X.wish E) pins D f s'):SP X pins D f s':=by
 cases f with
 |next=>obtain⟨σ',H',I,q⟩:=h;exact⟨σ',H',I.unwish,q⟩
 |brk=>obtain⟨σ',H',I,q⟩:=h;exact⟨σ',H',I.unwish,q⟩
 |cont=>obtain⟨σ',H',I,q⟩:=h;exact⟨σ',H',I.unwish,q⟩
 |ret u=>obtain⟨v,σ',H',I,r,q⟩:=h;exact⟨v,σ',H',I.unwish,r,q⟩
theorem Zy.nox{st:List Stmt}{t:TS}(h:Zy X.nox st t):Zy X st t:=fun pins s σ H D I hw=>
 Pw (h pins s σ H D (I.wish _) hw) (fun _ _ q=>q.unwish) fun _ _ z=>QO z
noncomputable def IW:TS:=fun D σ H=>D.nx σ H
noncomputable def Ko(t u:TS):TS:=fun D σ H=>t { D with nx:=u D } σ H
theorem jN:Zy X [] IW:=fun _ _ σ H _ I h=>Ru ⟨σ,H,I,h⟩
theorem cH(h1:PS X st t)(h2:Zy X rest u):Zy X (st::rest) (Ko t u):=by
 intro pins s σ H D I h;refine VB (XD (h1 pins s σ H { D with nx:=u D } I h) fun f s1 q=>?_)
 cases f with
 |next=>
  obtain⟨σ',H',I',q⟩:=q;exact h2 pins s1 σ' H' D I' q
 |ret v=>exact q
 |brk=>exact q
 |cont=>exact q
theorem dO(h1:PS X st t):Zy X [st] t:=by
 intro pins s σ H D I h;refine VB (XD (h1 pins s σ H D I h) fun f s1 q=>?_)
 cases f with
 |next=>exact Ru q
 |ret v=>exact q
 |brk=>exact q
 |cont=>exact q
theorem Inv.quiet(I:Inv X pins σ H s):interactive X.env=false:=by simp[interactive,I.ok.kind]
noncomputable def IX(te:TE):TS:=fun D σ H=>te σ H fun _ H1=>D.nx σ H1
theorem lA(he:PE X e te)(hs:autoParam (PB e none pos.line X.env=pure false) u10):PS X (.Expr e pos) (IX te):=by
 intro pins s σ H D I h;exact wpAny_Expr_any (XD (he pins s σ H _ I h) fun v s1 ⟨x,H1,I1,r1,q1⟩=>⟨σ,H1,I1,q1⟩) I.quiet hs
noncomputable def Kp(te:TE):TS:=fun D σ H=>te σ H D.rt
theorem jZ(he:PE X e te):PS X (.Return (some e) pos) (Kp te):=by
 intro pins s σ H D I h;exact wpAny_Return_some (XD (he pins s σ H _ I h) fun v s1 ⟨x,H1,I1,r1,q1⟩=>⟨x,σ,H1,I1,r1,q1⟩)
noncomputable def Kt(c:TT)(t u:TS):TS:=fun D σ H=>c σ H fun b H1=>if b=true then t D σ H1 else u D σ H1
theorem kc(hc:PT X c tc)(ha:Zy X a t)(hb:Zy X b u):PS X (.If c a b pos) (Kt tc t u):=by
 intro pins s σ H D I h;refine wpAny_If (XD (hc pins s σ H _ I h) fun d s1 ⟨H1,I1,q1⟩=>?_)
 cases d with
 |true=>exact ha pins s1 σ H1 D I1 q1
 |false=>exact hb pins s1 σ H1 D I1 q1
end
abbrev TG:=V->St->Hp->(St->Hp->Prop)->Prop
abbrev Ez:=List V->St->Hp->(St->Hp->Prop)->Prop
def PG(X:Cx)(target:Expr)(t:TG):Prop:=
 ∀(pins:List (Addr×Obj)) (s:Oi) (σ:St) (H:Hp) (v:V) (u:Oc) (Q:St->Hp->Prop),Inv X pins σ H s->RelV v u->t v σ H Q ->
  OG (OJ X.prog X.w) X.A (Wg target X.env u) (fun _ s'=>∃σ' H',Inv X pins σ' H' s'/\Q σ' H') X.xe s
def HN(X:Cx)(ts:List Expr)(t:Ez):Prop:=
 ∀(pins:List (Addr×Obj)) (s:Oi) (σ:St) (H:Hp) (vs:List V) (us:List Oc) (Q:St->Hp->Prop),Inv X pins σ H s->Xv vs us->t vs σ H Q ->
  OG (OJ X.prog X.w) X.A (assignInOrder ((Tx ts X.env).map (·.2)) us) (fun _ s'=>∃σ' H',Inv X pins σ' H' s'/\Q σ' H') X.xe s
section
variable {X:Cx}{pos:Pos}
noncomputable def oE(i:Nat):TG:=fun v σ H Q=>Q (σ.set i (some v)) H
theorem iw(hN:X.N.Nodup)(hi:X.N[i]? = some x)(hx:Loc X.env.scope x)(hf:autoParam (X.fn x=true\/X.env.scope.names.lookup x=some .local) u15):PG X (.Name x pos) (oE i):=by
 intro pins s σ H v u Q I r h;exact SV (qv I hN hi hx r (fun s' I'=>⟨_,H,I',h⟩) hf)
noncomputable def Ag:Ez:=fun vs σ H Q=>vs=[]/\Q σ H
noncomputable def sQ(t:TG)(u:Ez):Ez:=fun vs σ H Q=>∃v r,vs=v::r/\t v σ H fun σ' H'=>u r σ' H' Q
theorem xq:HN X [] Ag:=by
 intro pins s σ H vs us Q I r h;obtain⟨e,h⟩:=h;exact assignInOrder_nil ⟨σ,H,I,h⟩
theorem m9(h1:PG X e t)(h2:HN X es u)
  (hs:autoParam ((Tx (e::es) X.env).map (·.2)=Wg e X.env::(Tx es X.env).map (·.2)) u10):HN X (e::es) (sQ t u):=by
 intro pins s σ H vs us Q I r h;obtain⟨v,vr,e1,h⟩:=h;subst e1
 cases r with
 |cons r rr=>
  rw[hs];refine assignInOrder_cons (XD (h1 pins s σ H _ _ _ I r h) fun _ s1 ⟨Z0,H1,I1,q1⟩=>?_);exact h2 pins s1 Z0 H1 _ _ Q I1 rr q1
noncomputable def Af(K:Frag)(n:Nat)(t:Ez):TG:=fun v σ H Q=>∃a xs,v=.ref a/\Yn K H a xs/\xs.length=n/\t xs σ H Q
theorem yB(hc:X.calm=true)(h:HN X es t)
  (hn:autoParam ((Tx es X.env).length=n) u10) (ES:autoParam ((Tx es X.env).findIdx? (·.1)=none) u10):PG X (.Tuple es k pos) (Af X.K n t):=by
 intro pins s σ H v u Q I r hw;obtain⟨a,xs,e1,hq,hl,hw⟩:=hw;subst e1;cases r;obtain⟨Xr,rv,ht,hz⟩:=I.tuple hq;refine assign_Tuple_tuple (I.ok.hd hc) ht (by simp[hn,←hl,rv.length]) ES fun h' hx=>?_;have I1:=I.kept (t':=s.toks) fun b o e=>hx b o (OI (Ow e)) e;exact h pins _ σ H xs _ Q I1 (by omega) hw
noncomputable def Kx(te:TE)(g:TG):TS:=fun D σ H=>te σ H fun x H1=>g x σ H1 D.nx
theorem da(hN:X.N.Nodup)(hi:X.N[i]? = some x)(hx:Loc X.env.scope x)(he:PE X e te)(hs:autoParam (PB e (some (.Name x pos')) pos.line X.env=pure false) u10)(hf:autoParam (X.fn x=true\/X.env.scope.names.lookup x=some .local) u15) :
  PS X (.Assign [.Name x pos'] e pos) (Kx te (oE i)):=by
 intro pins s σ H D I h;refine wpAny_Assign_Name (XD (he pins s σ H _ I h) fun v s1 ⟨y,H1,I1,r1,q1⟩=>?_) hs;exact qv I1 hN hi hx r1 (fun s2 I2=>⟨_,H1,I2,q1⟩) hf
noncomputable def GZ(c:TT)(tb:TS):TS:=fun D σ H=>∃W:Nat->St->Hp->Prop,(∃m,W m σ H)/\∀m σ H,W m σ H ->
 c σ H fun b H1=>if b=true then ∃N:St->Hp->Prop,(∀σ' H',N σ' H'->∃m',m' < m/\W m' σ' H')/\tb { D with nx:=N,ct:=N,bk:=D.nx } σ H1 else D.nx σ H1
theorem zba(hp:VC (OJ X.prog X.w) X.A X.env X.xe)(hc:PT X c tc)(hb:Zy X body tb):PS X (.While c body [] pos) (GZ tc tb):=by
 intro pins s σ H D I h;obtain⟨W,⟨m0,w0⟩,turn⟩:=h;refine wpAny_While (codeAny_whileLoop (fun n s'=>∃σ' H',Inv X pins σ' H' s'/\W n σ' H') ?_ m0 ⟨σ,H,I,w0⟩);rintro n s1 ⟨Z0,H1,I1,w1⟩;refine QI hp (XD (hc pins s1 Z0 H1 _ I1 (turn n Z0 H1 w1)) fun b s2 ⟨H2,I2,q2⟩=>?_)
 cases b with
 |true=>
  obtain⟨N,hN,q2⟩:=q2;refine QI hp (XD (hb pins s2 Z0 H2 _ I2 q2) fun f s3 q3=>?_)
  cases f with
  |next=>
   obtain⟨YV,H3,I3,n3⟩:=q3;obtain⟨m',hm,w3⟩:=hN YV H3 n3;exact⟨m',hm,YV,H3,I3,w3⟩
  |cont=>
   obtain⟨YV,H3,I3,n3⟩:=q3;obtain⟨m',hm,w3⟩:=hN YV H3 n3;exact⟨m',hm,YV,H3,I3,w3⟩
  |brk=>exact q3
  |ret v=>exact q3
 |false=>
  exact Ru ⟨Z0,H2,I2,q2⟩
end
structure It where
 go:Nat->Hp->Prop
 yld:Nat->Hp->V->Hp->Prop
 stop:Nat->Hp->Prop
def cU(X:Cx)(pins:List (Addr×Obj))(H:Hp)(b:Addr):Prop:=H b=none/\b≠X.env.locals/\b∉X.fs/\(b∈X.ex\/X.s₀.heap.objs.size<=b)/\(∀x c,X.env.cells.lookup x=some c->c≠b)/\∀p∈X.pn++pins,p.1≠b
theorem Inv.fpOk(I:Inv X pins σ H s)(hb:s.heap.objs.size<=b)(hn:H' b=none):cU X pins H' b:=by
 refine⟨hn,So (OH I.lt hb),I.nofs hb,.inr (OC I.sz hb),fun x c e z=>?_,fun p hp z=>?_⟩
 .obtain⟨v,q⟩:=I.cell x c e
  exact absurd (OH q.lt (by simp_all)) (Pp _)
 .exact absurd (OH (Ow (I.pin p hp).1) (by simp_all)) (Pp _)
structure Turn(P:Oz)(w:OO)(K:Frag)(tg:Expr)(J:It)(fp:List Addr)(it:Addr)(tn:Nat->Heap->Prop):Prop where
 mem:it∈fp
 obj:∀i h,tn i h->∀b∈fp,∃o,h.get? b=some o/\∀v,o.data≠.cell v
 keep:∀i h h',tn i h->(∀b∈fp,∀o,h.get? b=some o->h'.get? b=some o)->tn i h'
 item:∀(X:Cx),X.prog=P->X.w=w->X.K=K->X.calm=true->∀(i:Nat) (pins:List (Addr×Obj)) (s:Oi) (σ:St) (H:Hp) (E:Oc->Oi->Prop),Inv X pins σ H s->(∀b∈fp,cU X pins H b)->tn i s.heap->J.go i H ->
  OG (OJ P w) X.A (VD (.ref it)) (fun r s1=>∃u,r=some u /\
   OG (OJ P w) X.A (R9 tg (.ref it) u) (fun _ s2=>∃x H',Inv X pins σ H' s2/\RelV x u/\J.yld i H x H'/\tn (i+1) s2.heap/\∀b∈fp,H' b=none) E s1) E s
 done:∀(X:Cx),X.prog=P->X.w=w->X.K=K->X.calm=true->∀(i:Nat) (pins:List (Addr×Obj)) (s:Oi) (σ:St) (H:Hp) (E:Oc->Oi->Prop),Inv X pins σ H s->(∀b∈fp,cU X pins H b)->tn i s.heap->J.stop i H ->
  OG (OJ P w) X.A (VD (.ref it)) (fun r s1=>r=none/\Inv X pins σ H s1) E s
 self:∀(A:O0) (i:Nat) (s:Oi) (Q:Oc->Oi->Prop) (E:Oc->Oi->Prop),tn i s.heap->Q (.ref it) s->OG (OJ P w) A (pyIter (.ref it)) Q E s
abbrev TI:=St->Hp->(It->Hp->Prop)->Prop
def E4(X:Cx)(pins:List (Addr×Obj))(σ:St)(tg:Expr)(R:It->Hp->Prop)(Bs:Oc)(s2:Oi):Prop:=∃(it:Addr) (fp:List Addr) (tn:Nat->Heap->Prop) (J:It) (H':Hp),Bs=.ref it/\Inv X pins σ H' s2/\Turn X.prog X.w X.K tg J fp it tn/\tn 0 s2.heap/\(∀b∈fp,cU X pins H' b)/\R J H'
def PI(X:Cx)(tg iter:Expr)(wi:TI):Prop:=
 ∀(pins:List (Addr×Obj)) (s:Oi) (σ:St) (H:Hp) (R:It->Hp->Prop),Inv X pins σ H s->wi σ H R ->
  OG (OJ X.prog X.w) X.A (eval iter X.env) (fun v s1=>OG (OJ X.prog X.w) X.A (pyIter v) (E4 X pins σ tg R) X.xe s1) X.xe s
theorem mj{M:Model}{A:O0}{E:Oc->Oi->Prop}{s:Oi}{tg:Expr}{it:Addr}{u:Oc}{o:Obj}{n:String}{vs:Array Oc}{Q:Unit->Oi->Prop}(ho:s.heap.get? it=some o)(hc:o.cls=.type n)(hd:o.data=.fields vs)
  (hn:["enumerate","zip","dict_itemiterator","dict_reverseitemiterator","odict_iterator","itertools.zip_longest","itertools.pairwise"].contains n=false) (hQ:Q () s):OG M A (R9 tg (.ref it) u) Q E s:=by
 cases tg <;> first
  |exact Ot hQ
  | (cases u <;> first
    |exact Ot hQ
    | (refine Oe (wpAny_load ho ?_)
       rw[hc,hd];show OG M A (if _=true then _ else _) Q E s;rw[if_neg (by intro h;rw[hn] at h;cases h)]
       exact Ot hQ))
noncomputable def CQ(K:Frag)(a:Addr):It:=⟨fun i H=>∃xs x,Ye K H a xs/\xs[i]? = some x,fun i H x H'=>H'=H/\∀xs,Ye K H a xs->xs[i]? = some x,fun i H=>∃xs,Ye K H a xs/\xs.length<=i⟩
noncomputable def GO(K:Frag)(a:Addr):It:=⟨fun i H=>∃xs x,Yn K H a xs/\xs[i]? = some x,fun i H x H'=>H'=H/\∀xs,Yn K H a xs->xs[i]? = some x,fun i H=>∃xs,Yn K H a xs/\xs.length<=i⟩
noncomputable def Kk(lo:Int)(n:Nat):It:=⟨fun i _=>i<n,fun i H x H'=>H'=H/\x=.int (lo+i),fun i _=>n<=i⟩
theorem uK{P:Oz}{w:OO}{K:Frag}{tg:Expr}(a it:Addr):Turn P w K tg (CQ K a) [it] it (fun i h=>h.IsListIter it a i) where
 mem:=by simp
 obj:=fun i h st b hb=>by
  have e:b=it:=by simpa using hb
  subst e
  obtain⟨o,e,c,d⟩:=st<;>simp_all
 keep:=fun i h h' st k=>st.at fun o e=>k it (by simp) o e
 item:=by
  intro X hP hw hK hc i pins s σ H E I hf st hg;subst hP hw hK;obtain⟨xs,x,hq,hx⟩:=hg;obtain⟨Xr,rv,p,hz⟩:=I.list hq;obtain⟨u,hu,ru⟩:=rv.get hx;obtain⟨f0,f1,f2,f3,f4,f5⟩:=hf it (by simp);refine wpAny_pyNext_list_item st p.isList (x:=u) (by simp_all) fun h' Hk sb=>?_;have I1:Inv X pins σ H { s with heap:=h' }:=I.turned (t':=s.toks) (fun b o hb e=>(sb.2 b hb).trans e) f0 f1 f3 f4 f5;obtain⟨o,e,c,d⟩:=id Hk;exact⟨u,rfl,mj (s:={ s with heap:=h' }) e c d (rfl) ⟨x,H,I1,ru,⟨rfl,fun ys hy=>by rw[I.list_inj hy hq];exact hx⟩,Hk,fun b hb=>(hf b hb).1⟩⟩
 done:=by
  intro X hP hw hK hc i pins s σ H E I hf st hg;subst hP hw hK;obtain⟨xs,hq,hx⟩:=hg;obtain⟨Xr,rv,p,hz⟩:=I.list hq;obtain⟨f0,f1,f2,f3,f4,f5⟩:=hf it (by simp);have hl:=rv.length;exact wpAny_pyNext_list_end (I.ok.hd hc) st p.isList (by simp;omega) fun h' eb=>⟨rfl,I.turned (t':=s.toks) (fun b o hb e=>eb b o hb e) f0 f1 f3 f4 f5⟩
 self:=fun _ _ _ _ _ st h=>wpAny_pyIter_listiter st h
theorem zbb{P:Oz}{w:OO}{K:Frag}{tg:Expr}(a it:Addr):Turn P w K tg (GO K a) [it] it (fun i h=>h.IsTupleIter it a i) where
 mem:=by simp
 obj:=fun i h st b hb=>by
  have e:b=it:=by simpa using hb
  subst e;obtain⟨o,e,c,d⟩:=st;exact⟨o,e,fun v z=>by simp_all⟩
 keep:=fun i h h' st k=>st.at fun o e=>k it (by simp) o e
 item:=by
  intro X hP hw hK hc i pins s σ H E I hf st hg;subst hP hw hK;obtain⟨xs,x,hq,hx⟩:=hg;obtain⟨Xr,rv,p,hz⟩:=I.tuple hq;obtain⟨u,hu,ru⟩:=rv.get hx;obtain⟨f0,f1,f2,f3,f4,f5⟩:=hf it (by simp);refine wpAny_pyNext_tuple_item st (show s.heap.IsTuple a Xr.toArray from p) (x:=u) (by simp_all) fun h' Hk sb=>?_;have I1:Inv X pins σ H { s with heap:=h' }:=I.turned (t':=s.toks) (fun b o hb e=>(sb.2 b hb).trans e) f0 f1 f3 f4 f5;obtain⟨o,e,c,d⟩:=id Hk;exact⟨u,rfl,mj (s:={ s with heap:=h' }) e c d (by decide) ⟨x,H,I1,ru,⟨rfl,fun ys hy=>by rw[I.tuple_inj hy hq];exact hx⟩,Hk,fun b hb=>(hf b hb).1⟩⟩
 done:=by
  intro X hP hw hK hc i pins s σ H E I hf st hg;subst hP hw hK;obtain⟨xs,hq,hx⟩:=hg;obtain⟨Xr,rv,p,hz⟩:=I.tuple hq;obtain⟨f0,f1,f2,f3,f4,f5⟩:=hf it (by simp);have hl:=rv.length;exact wpAny_pyNext_tuple_end (I.ok.hd hc) st (show s.heap.IsTuple a Xr.toArray from p) (by simp;omega) fun h' eb=>⟨rfl,I.turned (t':=s.toks) (fun b o hb e=>eb b o hb e) f0 f1 f3 f4 f5⟩
 self:=fun _ _ _ _ _ st h=>wpAny_pyIter_tupleiter st h
theorem zbc{P:Oz}{w:OO}{K:Frag}{tg:Expr}(it:Addr)(lo:Int)(n:Nat):Turn P w K tg (Kk lo n) [it] it (fun i h=>IsRangeIter h it (lo+(i:Nat)*1) ((n:Int)-(i:Nat)) 1) where
 mem:=by simp
 obj:=fun i h st b hb=>by simp_all
 keep:=fun i h h' st k=>k it (by simp) _ st
 item:=by
  intro X hP hw hK hc i pins s σ H E I hf st hg;subst hP hw hK;obtain⟨f0,f1,f2,f3,f4,f5⟩:=hf it (by simp);have W:=Walks.range (prog:=X.prog) (w:=X.w) (I.ok.hd hc) it lo 1 n;refine W.item i s _ _ hg st fun v h' tk hv Hk kk=>?_;obtain⟨t,rfl⟩:=hv;have I1:Inv X pins σ H { s with heap:=h',toks:=tk }:=I.turned (fun b o hb e=>kk b o (by simp_all) e) f0 f1 f3 f4 f5;refine⟨_,rfl,mj   Hk rfl rfl (rfl) ⟨.int (lo+i),H,I1,⟨t,?_⟩,⟨rfl,rfl⟩,Hk,fun b hb=>(hf b hb).1⟩⟩;rw[Int.mul_one]
 done:=by
  intro X hP hw hK hc i pins s σ H E I hf st hg;obtain⟨f0,f1,f2,f3,f4,f5⟩:=hf it (by simp);exact wpAny_pyNext_range_end (I.ok.hd hc) st (by have:n<=i:=hg;omega) fun h' eb=>⟨rfl,I.turned  (fun b o hb e=>eb b o hb e) f0 f1 f3 f4 f5⟩
 self:=fun _ _ _ _ _ st h=>wpAny_pyIter_rangeiter st h
section
variable {X:Cx}{tg:Expr}
noncomputable def JJ(K:Frag)(tl:TE):TI:=fun σ H R=>tl σ H fun x H1=>∃a,x=.ref a/\(∃xs,Ye K H1 a xs)/\R (CQ K a) H1
theorem zbd(hl:PE X l tl):PI X tg l (JJ X.K tl):=by
 intro pins s σ H R I h;refine XD (hl pins s σ H _ I h) fun v s1 ⟨x,H1,I1,r1,q1⟩=>?_;obtain⟨a,e,⟨xs,hq⟩,q⟩:=q1;subst e;cases r1;obtain⟨Xr,rv,p,hz⟩:=I1.list hq;refine RI p.isList ?_;refine⟨s1.heap.objs.size,[s1.heap.objs.size],_,_,H1,rfl,I1.kept (t':=s1.toks) fun b o e=>Og _ e,uK a _,⟨_,Oy _ rfl,rfl,rfl⟩,fun b hb=>?_,q⟩
 have e:b=s1.heap.objs.size:=by simpa using hb
 subst e;exact I1.fpOk (Oo _) (I1.hok.fresh (Oo _))
theorem zbe{pins:List (Addr×Obj)}{σ:St}{H:Hp}{s:Oi}{R:It->Hp->Prop}{E:Oc->Oi->Prop}{lo hi:Int}{t u v:Tok}{tk:Nat}(I:Inv X pins σ H s)(h1 : -(2^62)<=lo)(h2:lo<2^62)(h3 : -(2^62)<=hi)(h4:hi<2^62)
  (q:R (Kk lo (hi-lo).toNat) H):OG (OJ X.prog X.w) X.A (pyIter (.ref s.heap.objs.size)) (E4 X pins σ tg R) E { s with heap:=s.heap.push { cls:=.type "range",data:=.fields #[.int lo t,.int hi u,.int 1 v] },toks:=tk }:=by
 refine wpAny_pyIter_range (IsRange.new ..) (small_one h1 h2 h3 h4) ?_;have I1:Inv X pins σ H { s with heap:=s.heap.push { cls:=.type "range",data:=.fields #[.int lo t,.int hi u,.int 1 v] },toks:=tk }:=I.kept fun b o e=>Og _ e
 refine⟨(s.heap.push { cls:=.type "range",data:=.fields #[.int lo t,.int hi u,.int 1 v] }).objs.size,[(s.heap.push { cls:=.type "range",data:=.fields #[.int lo t,.int hi u,.int 1 v] }).objs.size],_,_,H,rfl,
  I1.kept  fun b o e=>Og _ e,zbc _ lo _,?_,fun b hb=>?_,q⟩
 .have e1:lo+((0:Nat))*1=lo:=by simp
  have e2:(((hi-lo).toNat))-((0:Nat))=WU lo hi 1:=by rw[rangeSize_one]<;>grind
  rw[e1,e2];exact Oy _ rfl
 .have e:b=(s.heap.push { cls:=.type "range",data:=.fields #[.int lo t,.int hi u,.int 1 v] }).objs.size:=by simpa using hb
  subst e;exact I1.fpOk (Oo _) (I1.hok.fresh (Oo _))
noncomputable def JI(ta:TA):TI:=fun σ H R=>ta σ H fun vs H1=>∃j:Int,vs=[.int j]/\-(2^62)<=j/\j<2^62/\R (Kk 0 j.toNat) H1
theorem qd(hg:Gl X "range")(hm:X.mg "range"=none)(ha:PA X [a] ta)(hs:autoParam (Ol [a] X.env=[(false,eval a X.env)]) u10):PI X tg (.Call (.Name "range" p) [a] [] pos) (JI ta):=by
 intro pins s σ H R I h;refine Call_ (lP I hg hm boot_range (Rc (XD (ha pos pins s σ H _ I h) fun us s1 ⟨vs,H1,I1,r1,q1⟩=>?_) hs rfl));obtain⟨j,e,q1,q2,q⟩:=q1;subst e
 cases r1 with
 |cons r rr=>
  cases rr;obtain⟨t,rfl⟩:=r;exact call_range_1 (zbe I1 (by lia) (by lia) q1 q2 (by simp_all))
noncomputable def Ku(wi:TI)(g:TG)(tb:TS):TS:=fun D σ H=>wi σ H fun J H1=>∃W:Nat->Nat->St->Hp->Prop,(∃m,W 0 m σ H1)/\∀i m σ H,W i m σ H ->
 (J.stop i H/\D.nx σ H)\/(J.go i H/\∃N:St->Hp->Prop,(∀σ' H',N σ' H'->∃m',m' < m/\W (i+1) m' σ' H')/\∀x H',J.yld i H x H'->g x σ H' fun YW H2=>tb { D with nx:=N,ct:=N,bk:=D.nx } YW H2)
noncomputable def eW(fp:List Addr)(h:Heap):List (Addr×Obj):=fp.filterMap fun b=>(h.get? b).map fun o=>(b,o)
theorem jG(hb:b∈fp)(e:h.get? b=some o):(b,o)∈eW fp h:=U3.mpr ⟨b,hb,by rw[e];rfl⟩
theorem zbf(hp:p∈eW fp h):p.1∈fp/\h.get? p.1=some p.2:=by
 obtain⟨b,hb,e⟩:=U3.mp hp
 cases q:h.get? b with
 |none=>simp_all
 |some o=>
  rw[q] at e;have e':=Qv e;subst e';exact⟨hb,q⟩
theorem Inv.pinned(I:Inv X pins σ H s)(hf:∀b∈fp,cU X pins H b)(ho:∀b∈fp,∃o,s.heap.get? b=some o/\∀v,o.data≠.cell v):Inv X (pins++eW fp s.heap) σ H s:=
 I.pins_of fun p hp=>(OD.mp hp).elim (fun z=>I.pin p (OE _ z)) fun z=>by
  obtain⟨hb,e⟩:=zbf z;obtain⟨f0,f1,f2,_⟩:=hf p.1 hb
  obtain⟨o,e',d⟩:=ho p.1 hb<;>simp_all
theorem Inv.unpinned(I:Inv X (pins++pl) σ H s):Inv X pins σ H s:=I.pins_of fun p hp=>I.pin p (OE _ (Pb _ hp))
theorem lL(hp:VC (OJ X.prog X.w) X.A X.env X.xe)(hc:X.calm=true)(hi:PI X tg iter wi)(hg:PG X tg g)(hb:Zy X body tb)
  (hs:autoParam (∀x,Pc iter X.env x=pure x) u16):PS X (.For tg iter body [] pos) (Ku wi g tb):=by
 intro pins s σ H D I h;refine wpAny_For (XD (hi pins s σ H _ I h) fun v s1 h1=>XD h1 fun Bs s2 h2=>?_) hs;obtain⟨it,fp,tn,J,H2,e,I2,T,Cv,f2,W,⟨m0,w0⟩,turn⟩:=h2;subst e;have CT:∀{H':Hp},(∀b∈fp,H' b=none)->∀b∈fp,cU X pins H' b:=fun hn b hb=>⟨hn b hb,(f2 b hb).2⟩;refine codeAny_forLoop_any (fun n s'=>∃i σ' H',Inv X pins σ' H' s'/\tn i s'.heap/\(∀b∈fp,H' b=none)/\W i n σ' H') ?_ m0 ⟨0,σ,H2,I2,Cv,fun b hb=>(f2 b hb).1,w0⟩;rintro n s3 ⟨i,YV,H3,I3,Be,BU,w3⟩
 rcases turn i n YV H3 w3 with⟨stop,qn⟩|⟨go,N,hN,step⟩
 .refine QI hp (XD (T.done X rfl rfl rfl hc i pins s3 YV H3 X.xe I3 (CT BU) Be stop) fun r s4 ⟨hr,I4⟩=>?_)
  subst hr;exact Ru ⟨YV,H3,I4,qn⟩
 .refine QI hp (XD (T.item X rfl rfl rfl hc i pins s3 YV H3 X.xe I3 (CT BU) Be go) fun r s4 ⟨u,hr,h4⟩=>?_)
  subst hr;refine QI hp (XD h4 fun _ s5 ⟨x,H5,I5,r5,y5,Ds,AA⟩=>?_);have I5':=I5.pinned (CT AA) (T.obj _ _ Ds);refine QI hp (XD (hg _ s5 YV H5 x u _ I5' r5 (step x H5 y5)) fun _ s6 ⟨σ6,H6,I6,q6⟩=>?_);refine QI hp (XD (hb _ s6 σ6 H6 _ I6 q6) fun f s7 q7=>?_)
  have again:∀{D5:St}{H7:Hp},Inv X (pins++eW fp s5.heap) D5 H7 s7->N D5 H7->∃m,m<n/\∃i σ' H',Inv X pins σ' H' s7/\tn i s7.heap/\(∀b∈fp,H' b=none)/\W i m σ' H':=fun {D5 H7} I7 n7=>by
   obtain⟨m',hm,w7⟩:=hN D5 H7 n7;refine⟨m',hm,i+1,D5,H7,I7.unpinned,T.keep _ _ _ Ds fun b hb o e=>(I7.pin (b,o) (OE _ (OE _ (jG hb e)))).1,fun b hb=>?_,w7⟩;obtain⟨o,e,d⟩:=T.obj _ _ Ds b hb;exact(I7.pin (b,o) (OE _ (OE _ (jG hb e)))).2.1
  cases f with
  |next=>obtain⟨D5,H7,I7,n7⟩:=q7;exact again I7 n7
  |cont=>obtain⟨D5,H7,I7,n7⟩:=q7;exact again I7 n7
  |brk=>obtain⟨D5,H7,I7,q7⟩:=q7;exact⟨D5,H7,I7.unpinned,q7⟩
  |ret v=>obtain⟨x7,D5,H7,I7,r7,q7⟩:=q7;exact⟨x7,D5,H7,I7.unpinned,r7,q7⟩
end
theorem zbg{K:Frag}{a:Addr}{xs:List V}{g:TG}{tb:TS}{D:Ends}{σ:St}{H:Hp}(Pv:Nat->St->Hp->Prop)(h0:Pv 0 σ H)(hl:∀i σ H,i<=xs.length->Pv i σ H->Ye K H a xs)
  (hs:∀i x σ H,xs[i]? = some x->Pv i σ H->g x σ H fun YW H2=>tb { D with nx:=Pv (i+1),ct:=Pv (i+1),bk:=D.nx } YW H2) (hd:∀σ H,Pv xs.length σ H->D.nx σ H) :
  ∃W:Nat->Nat->St->Hp->Prop,(∃m,W 0 m σ H)/\∀i m σ H,W i m σ H ->
   ((CQ K a).stop i H/\D.nx σ H)\/((CQ K a).go i H/\∃N:St->Hp->Prop,(∀σ' H',N σ' H'->∃m',m' < m/\W (i+1) m' σ' H')/\∀x H',(CQ K a).yld i H x H'->g x σ H' fun YW H2=>tb { D with nx:=N,ct:=N,bk:=D.nx } YW H2):=by
 refine⟨fun i m σ H=>m=xs.length-i/\i<=xs.length/\Pv i σ H,⟨xs.length,by simp,Pm _,h0⟩,?_⟩;rintro i m σ H ⟨rfl,hi,p⟩;have q:=hl i σ H hi p
 by_cases Yq:i<xs.length
 .refine .inr ⟨⟨xs,xs[i],q,by simp⟩,Pv (i+1),fun σ' H' p'=>⟨xs.length-(i+1),by lia,rfl,Yq,p'⟩,fun x H' y=>?_⟩
  obtain⟨e,y⟩:=y;subst e;exact hs i x σ _ (y xs q) p
 .have e:i=xs.length:=by lia
  subst e;exact .inl ⟨⟨xs,q,Oo _⟩,hd σ H p⟩
theorem vj{lo:Int}{n:Nat}{g:TG}{tb:TS}{D:Ends}{σ:St}{H:Hp}(Pv:Nat->St->Hp->Prop)(h0:Pv 0 σ H)
  (hs:∀i σ H,i<n->Pv i σ H->g (.int (lo+i)) σ H fun YW H2=>tb { D with nx:=Pv (i+1),ct:=Pv (i+1),bk:=D.nx } YW H2) (hd:∀σ H,Pv n σ H->D.nx σ H) :
  ∃W:Nat->Nat->St->Hp->Prop,(∃m,W 0 m σ H)/\∀i m σ H,W i m σ H ->
   ((Kk lo n).stop i H/\D.nx σ H)\/((Kk lo n).go i H/\∃N:St->Hp->Prop,(∀σ' H',N σ' H'->∃m',m' < m/\W (i+1) m' σ' H')/\∀x H',(Kk lo n).yld i H x H'->g x σ H' fun YW H2=>tb { D with nx:=N,ct:=N,bk:=D.nx } YW H2):=by
 refine⟨fun i m σ H=>m=n-i/\i<=n/\Pv i σ H,⟨n,by simp,Pm _,h0⟩,?_⟩;rintro i m σ H ⟨rfl,hi,p⟩
 by_cases Yq:i<n
 .refine .inr ⟨Yq,Pv (i+1),fun σ' H' p'=>⟨n-(i+1),by lia,rfl,Yq,p'⟩,fun x H' y=>?_⟩
  obtain⟨e,y⟩:=y;subst e y;exact hs i σ _ Yq p
 .have e:i=n:=by lia
  subst e;exact .inl ⟨Oo _,hd σ H p⟩
abbrev R2:=V->V->Hp->VK->Prop
def Yc(X:Cx)(f:Oc->Oc->Sem Oc)(r:R2):Prop:=
 ∀(pins:List (Addr×Obj)) (s:Oi) (σ:St) (H:Hp) (x y:V) (v u:Oc) (Q:VK),Inv X pins σ H s->RelV x v->RelV y u->r x y H Q ->
  OG (OJ X.prog X.w) X.A (f v u) (EP X pins σ Q) X.xe s
def HS(X:Cx)(f:Oc->Sem Oc)(r:V->Hp->VK->Prop):Prop:=
 ∀(pins:List (Addr×Obj)) (s:Oi) (σ:St) (H:Hp) (x:V) (v:Oc) (Q:VK),Inv X pins σ H s->RelV x v->r x H Q ->
  OG (OJ X.prog X.w) X.A (f v) (EP X pins σ Q) X.xe s
def XW(X:Cx)(f:Oc)(r:List V->Hp->VK->Prop):Prop:=
 ∀(pins:List (Addr×Obj)) (s:Oi) (σ:St) (H:Hp) (xs:List V) (us:List Oc) (Q:VK),Inv X pins σ H s->Xv xs us->r xs H Q ->
  OG (OJ X.prog X.w) X.A (call f us) (EP X pins σ Q) X.xe s
def KO(X:Cx)(r:V->Hp->(Bool->Hp->Prop)->Prop):Prop:=
 ∀(pins:List (Addr×Obj)) (s:Oi) (σ:St) (H:Hp) (x:V) (v:Oc) (Q:Bool->Hp->Prop),Inv X pins σ H s->RelV x v->r x H Q ->
  OG (OJ X.prog X.w) X.A (truthy v) (TP X pins σ Q) X.xe s
noncomputable def DK(r:R2)(ta tb:TE):TE:=fun σ H Q=>ta σ H fun x H1=>tb σ H1 fun y H2=>r x y H2 Q
noncomputable def tUn(r:V->Hp->VK->Prop)(ta:TE):TE:=fun σ H Q=>ta σ H fun x H1=>r x H1 Q
noncomputable def rI(C:Int->Int->Prop)(g:Int->Int->V):R2:=fun x y H Q=>∃i j,x=.int i/\y=.int j/\C i j/\Q (g i j) H
noncomputable def G5(g:Int->Int->V):R2:=fun x y H Q=>∃i j,x=.int i/\y=.int j/\Q (g i j) H
def rU(g:Int->V):V->Hp->VK->Prop:=fun x H Q=>∃i,x=.int i/\Q (g i) H
section
variable {X:Cx}{a b c:Expr}{ta tb tc:TE}{pos:Pos}
theorem tw(ha:PE X a ta)(hb:PE X b tb){R:V->V->Hp->Prop}(I:Inv X pins σ H s)
  (h:ta σ H fun x H1=>tb σ H1 fun y H2=>R x y H2) {Q:Oc->Oi->Prop}{f:Oc->Oc->Sem Oc}
  (hf:∀v u s2 x y H2,Inv X pins σ H2 s2->RelV x v->RelV y u->R x y H2->OG (OJ X.prog X.w) X.A (f v u) Q X.xe s2) :
  OG (OJ X.prog X.w) X.A (eval a X.env) (fun v s₁=>OG (OJ X.prog X.w) X.A (eval b X.env) (fun u ZF=>OG (OJ X.prog X.w) X.A (f v u) Q X.xe ZF) X.xe s₁) X.xe s:=by
 refine XD (ha pins s σ H _ I h) fun v s1 ⟨x,H1,I1,r1,q1⟩=>?_;refine XD (hb pins s1 σ H1 _ I1 q1) fun u s2 ⟨y,H2,I2,r2,q2⟩=>?_;exact hf v u s2 x y H2 I2 r1 r2 q2
theorem zu(ho:Yc X (PJ op) r)(ha:PE X a ta)(hb:PE X b tb):PE X (.BinOp a op b pos) (DK r ta tb):=by
 intro pins s σ H Q I h;exact wpAny_BinOp (tw ha hb I h fun v u s2 x y H2 I2 rx ry q=>ho pins s2 σ H2 x y v u Q I2 rx ry q)
theorem zbh(ho:HS X (unaryOp op) r)(ha:PE X a ta):PE X (.UnaryOp op a pos) (tUn r ta):=by
 intro pins s σ H Q I h;exact UnaryOp_ (XD (ha pins s σ H _ I h) fun v s1 ⟨x,H1,I1,r1,q1⟩=>ho pins s1 σ H1 x v Q I1 r1 q1)
theorem E1{f:Oc->Oc->Sem Oc}{C:Int->Int->Prop}{g:Int->Int->Int}
  (rule:∀(i j:Int) (t u:Tok) (s:Oi) (Q:Oc->Oi->Prop) (E:Oc->Oi->Prop),C i j->Q (.int (g i j) s.toks) { s with toks:=s.toks+1 }->OG (OJ X.prog X.w) X.A (f (.int i t) (.int j u)) Q E s) :
  Yc X f (rI C fun i j=>.int (g i j)):=by
 intro pins s σ H x y v u Q I rx ry h;obtain⟨i,j,rfl,rfl,hc,q⟩:=h;obtain⟨t,rfl⟩:=rx;obtain⟨t',rfl⟩:=ry;exact rule i j t t' s _ _ hc ⟨.int _,H,I.tok _,⟨_,rfl⟩,q⟩
theorem Ab{f:Oc->Oc->Sem Oc}{g:Int->Int->Int}
  (rule:∀(i j:Int) (t u:Tok) (s:Oi) (Q:Oc->Oi->Prop) (E:Oc->Oi->Prop),Q (.int (g i j) s.toks) { s with toks:=s.toks+1 }->OG (OJ X.prog X.w) X.A (f (.int i t) (.int j u)) Q E s) :
  Yc X f (G5 fun i j=>.int (g i j)):=by
 intro pins s σ H x y v u Q I rx ry h;obtain⟨i,j,rfl,rfl,q⟩:=h;obtain⟨t,rfl⟩:=rx;obtain⟨t',rfl⟩:=ry;exact rule i j t t' s _ _ ⟨.int _,H,I.tok _,⟨_,rfl⟩,q⟩
theorem oZ{f:Oc->Oc->Sem Oc}{g:Int->Int->Bool}
  (rule:∀(i j:Int) (t u:Tok) (s:Oi) (Q:Oc->Oi->Prop) (E:Oc->Oi->Prop),Q (.bool (g i j)) s->OG (OJ X.prog X.w) X.A (f (.int i t) (.int j u)) Q E s) :
  Yc X f (G5 fun i j=>.bl (g i j)):=by
 intro pins s σ H x y v u Q I rx ry h;obtain⟨i,j,rfl,rfl,q⟩:=h;obtain⟨t,rfl⟩:=rx;obtain⟨t',rfl⟩:=ry;exact rule i j t t' s _ _ ⟨.bl _,H,I,rfl,q⟩
def KQ(i j:Int):Prop:=0<=j/\j<=1000000/\i.natAbs<2^64
def F0(i j:Int):Prop:=(-(2^64)<i/\i<2^64)\/(-(2^64)<j/\j<2^64)
theorem F0.ok(h:F0 i j):IntMulOk i j:=by
 rcases h with⟨h1,h2⟩|⟨h1,h2⟩
 .exact .of_left (intBits_le_64 h1 h2)
 .exact .of_right (intBits_le_64 h1 h2)
theorem Bv:Yc X (PJ .Add) (G5 fun i j=>.int (i+j)):=Ab fun _ _ _ _ _ _ _ q=>add_int q
theorem zbi:Yc X (PJ .Sub) (G5 fun i j=>.int (i-j)):=Ab fun _ _ _ _ _ _ _ q=>sub_int q
theorem Ii:Yc X (PJ .Mult) (rI F0 fun i j=>.int (i*j)):=E1 fun _ _ _ _ _ _ _ hc q=>mul_int q hc.ok
theorem zbj:Yc X (PJ .Mod) (rI (fun _ j=>0<j) fun i j=>.int (i % j)):=E1 fun i j _ _ _ _ _ hc q=>by
 exact mod_int' (by lia) (by rw[Int.fmod_eq_emod_of_nonneg i (by lia)];exact q)
theorem zbk:Yc X (PJ .Pow) (rI KQ fun i j=>.int (i^j.toNat)):=E1 fun _ _ _ _ _ _ _ hc q=>pow_int_small hc.1 hc.2.1 hc.2.2 q
theorem unI{f:Oc->Sem Oc}{g:Int->Int}
  (rule:∀(i:Int) (t:Tok) (s:Oi) (Q:Oc->Oi->Prop) (E:Oc->Oi->Prop),Q (.int (g i) s.toks) { s with toks:=s.toks+1 }->OG (OJ X.prog X.w) X.A (f (.int i t)) Q E s) :
  HS X f (rU fun i=>.int (g i)):=by
 intro pins s σ H x v Q I rx h;obtain⟨i,rfl,q⟩:=h;obtain⟨t,rfl⟩:=rx;exact rule i t s _ _ ⟨.int _,H,I.tok _,⟨_,rfl⟩,q⟩
theorem zbl:HS X (unaryOp .USub) (rU fun i=>.int (-i)):=unI fun _ _ _ _ _ q=>neg_int q
end
noncomputable def sY:V->V->Bool
 |.non,.non=>true | .non,.int _=>true | .int _,.non=>true | .non,.bl _=>true | .bl _,.non=>true | .non,.str _=>true | .str _,.non=>true
 |.int _,.int _=>true | .bl _,.bl _=>true | .str _,.str _=>true | .byt _,.byt _=>true
 |.int _,.str _=>true | .str _,.int _=>true | .bl _,.str _=>true | .str _,.bl _=>true
 |_,_=>false
noncomputable def rEq:R2:=fun x y H Q=>sY x y=true/\Q (.bl (decide (x=y))) H
noncomputable def rNe:R2:=fun x y H Q=>sY x y=true/\Q (.bl (!decide (x=y))) H
theorem xX:decide (V.int i=V.int j)=(i == j):=by
 rw[P9];simp
theorem y4:decide (V.bl i=V.bl j)=(i == j):=by
 rw[P9];simp
theorem xV:decide (V.str i=V.str j)=(i == j):=by
 rw[P9];simp
theorem xY:decide (V.byt i=V.byt j)=(i.toList == j.toList):=by rw[P9]<;>simp_all
section
variable {X:Cx}{a b c:Expr}{ta tb tc:TE}{pos:Pos}
theorem bA(I:Inv X pins σ H s)(q:Q (.bl k) H)(e:k=k'):EP X pins σ Q (.bool k') s:=by
 subst e;exact⟨.bl k,H,I,rfl,q⟩
theorem zbm:Yc X (OQ .Eq) rEq:=by
 intro pins s σ H x y v u Q I rx ry h;obtain⟨hs,q⟩:=h
 cases x with
 |non=>
  cases rx
  cases y with
  |non=>cases ry;exact Wp (bA I q (by simp))
  |bl j=>cases ry;exact Wq (bA I q (by simp))
  |int j=>obtain⟨t',rfl⟩:=ry;exact WB (bA I q (by simp))
  |str j=>obtain⟨t',rfl⟩:=ry;exact WC (bA I q (by simp))
  |_=>exact absurd (show false=true from hs) OB
 |bl i=>
  cases rx
  cases y with
  |non=>cases ry;exact Wr (bA I q (by simp))
  |bl j=>cases ry;exact eq_bool (bA I q y4)
  |str j=>obtain⟨t',rfl⟩:=ry;exact Ws (bA I q (by simp))
  |_=>exact absurd (show false=true from hs) OB
 |int i=>
  obtain⟨t,rfl⟩:=rx
  cases y with
  |non=>cases ry;exact WD (bA I q (by simp))
  |int j=>obtain⟨t',rfl⟩:=ry;exact eq_int (bA I q xX)
  |str j=>obtain⟨t',rfl⟩:=ry;exact WE (bA I q (by simp))
  |_=>exact absurd (show false=true from hs) OB
 |str i=>
  obtain⟨t,rfl⟩:=rx
  cases y with
  |non=>cases ry;exact WF (bA I q (by simp))
  |bl j=>cases ry;exact Wt (bA I q (by simp))
  |int j=>obtain⟨t',rfl⟩:=ry;exact WG (bA I q (by simp))
  |str j=>obtain⟨t',rfl⟩:=ry;exact eq_str (bA I q xV)
  |_=>exact absurd (show false=true from hs) OB
 |byt i=>
  obtain⟨t,rfl⟩:=rx
  cases y with
  |byt j=>obtain⟨t',rfl⟩:=ry;exact PySem.W.eq_bytes (bA I q xY)
  |_=>exact absurd (show false=true from hs) OB
 |_=>cases y <;> exact absurd (show false=true from hs) OB
theorem zbn:Yc X (OQ .NotEq) rNe:=by
 intro pins s σ H x y v u Q I rx ry h;obtain⟨hs,q⟩:=h
 cases x with
 |non=>
  cases rx
  cases y with
  |non=>cases ry;exact Wu (bA I q (by simp))
  |bl j=>cases ry;exact Wv (bA I q (by simp))
  |int j=>obtain⟨t',rfl⟩:=ry;exact WH (bA I q (by simp))
  |str j=>obtain⟨t',rfl⟩:=ry;exact WI (bA I q (by simp))
  |_=>exact absurd (show false=true from hs) OB
 |bl i=>
  cases rx
  cases y with
  |non=>cases ry;exact Ww (bA I q (by simp))
  |bl j=>cases ry;exact ne_bool (bA I q (congrArg not y4))
  |str j=>obtain⟨t',rfl⟩:=ry;exact Wx (bA I q (by simp))
  |_=>exact absurd (show false=true from hs) OB
 |int i=>
  obtain⟨t,rfl⟩:=rx
  cases y with
  |non=>cases ry;exact WJ (bA I q (by simp))
  |int j=>obtain⟨t',rfl⟩:=ry;exact ne_int (bA I q (congrArg not xX))
  |str j=>obtain⟨t',rfl⟩:=ry;exact WK (bA I q (by simp))
  |_=>exact absurd (show false=true from hs) OB
 |str i=>
  obtain⟨t,rfl⟩:=rx
  cases y with
  |non=>cases ry;exact WL (bA I q (by simp))
  |bl j=>cases ry;exact Wy (bA I q (by simp))
  |int j=>obtain⟨t',rfl⟩:=ry;exact WM (bA I q (by simp))
  |str j=>obtain⟨t',rfl⟩:=ry;exact ne_str (bA I q (congrArg not xV))
  |_=>exact absurd (show false=true from hs) OB
 |byt i=>
  obtain⟨t,rfl⟩:=rx
  cases y with
  |byt j=>obtain⟨t',rfl⟩:=ry;exact PySem.W.ne_bytes (bA I q (congrArg not xY))
  |_=>exact absurd (show false=true from hs) OB
 |_=>cases y <;> exact absurd (show false=true from hs) OB
theorem zbo:Yc X (OQ .Lt) (G5 fun i j=>.bl (decide (i<j))):=oZ fun _ _ _ _ _ _ _ q=>lt_int q
theorem zbp:Yc X (OQ .LtE) (G5 fun i j=>.bl (decide (i<=j))):=oZ fun _ _ _ _ _ _ _ q=>le_int q
theorem zbq:Yc X (OQ .Gt) (G5 fun i j=>.bl (decide (j<i))):=oZ fun _ _ _ _ _ _ _ q=>gt_int q
theorem zbr:Yc X (OQ .GtE) (G5 fun i j=>.bl (decide (j<=i))):=oZ fun _ _ _ _ _ _ _ q=>ge_int q
theorem Hn:Yc X (OQ .In) (fun x y H Q=>∃i j,x=.str i/\y=.str j/\Q (.bl (!(PY j i 0 j.length 1).isEmpty)) H):=by
 intro pins s σ H x y v u Q I rx ry h;obtain⟨i,j,rfl,rfl,q⟩:=h;obtain⟨t,rfl⟩:=rx;obtain⟨t',rfl⟩:=ry;exact in_str (bA I q rfl)
theorem zbs:Yc X (OQ .Is) (fun x y H Q=>y=.non/\Q (.bl (decide (x=.non))) H):=by
 intro pins s σ H x y v u Q I rx ry h;obtain⟨rfl,q⟩:=h;cases ry;refine is_none_gen (bA I q ?_)
 cases x <;> first
  |omega
  |(obtain⟨t,rfl⟩:=rx;rfl)
theorem KM:Yc X (OQ .IsNot) (fun x y H Q=>y=.non/\Q (.bl (!decide (x=.non))) H):=by
 intro pins s σ H x y v u Q I rx ry h;obtain⟨rfl,q⟩:=h;cases ry;refine isnot_none_gen (bA I q ?_)
 cases x <;> first
  |(rfl)
  |(obtain⟨t,rfl⟩:=rx;rfl)
theorem Zr:Yc X (OQ .NotIn) (fun x y H Q=>∃i j,x=.str i/\y=.str j/\Q (.bl (!(!(PY j i 0 j.length 1).isEmpty))) H):=by
 intro pins s σ H x y v u Q I rx ry h;obtain⟨i,j,rfl,rfl,q⟩:=h;obtain⟨t,rfl⟩:=rx;obtain⟨t',rfl⟩:=ry;exact notIn_str (bA I q rfl)
theorem Yc.or(h:Yc X f r)(h':Yc X f r'):Yc X f (fun x y H Q=>r x y H Q\/r' x y H Q):=by
 intro pins s σ H x y v u Q I rx ry q
 rcases q with q|q
 .exact h pins s σ H x y v u Q I rx ry q
 .exact h' pins s σ H x y v u Q I rx ry q
theorem lN(b:Expr)(h:autoParam (op≠.In) u11)(h2:autoParam (op≠.NotIn) u11):Qy op b=false:=by
 have e1:(op == CmpOp.In)=false:=by simp_all
 have e2:(op == CmpOp.NotIn)=false:=by simp_all
 cases b <;> simp[Qy,e1,e2]
theorem qU(ho:Yc X (OQ op) r)(ha:PE X a ta)(hb:PE X b tb)(hm:Qy op b=false):PE X (.Compare a [op] [b] pos) (DK r ta tb):=by
 intro pins s σ H Q I h;exact wpAny_Compare1 (tw ha hb I h fun v u s2 x y H2 I2 rx ry q=>ho pins s2 σ H2 x y v u Q I2 rx ry q) hm
noncomputable def zj(t:TE):TT:=fun σ H Q=>t σ H fun x H'=>∃k,x=.bl k/\Q k H'
theorem zbt(ho:Yc X (OQ op) r)(ha:PE X a ta)(hb:PE X b tb)(hm:Qy op b=false):PT X (.Compare a [op] [b] pos) (zj (DK r ta tb)):=by
 intro pins s σ H Q I h
 refine Uh (XD (ha pins s σ H _ I h) fun v s1 ⟨x,H1,I1,r1,q1⟩=>XD (hb pins s1 σ H1 _ I1 q1) fun u s2 ⟨y,H2,I2,r2,q2⟩=>
  XD (ho pins s2 σ H2 x y v u _ I2 r1 r2 q2) fun c s3 ⟨z,H3,I3,r3,k,e,q3⟩=>?_) hm
 subst e;cases r3;exact Pq ⟨H3,I3,q3⟩
noncomputable def rJ(r r':R2)(ta tb tc:TE):TE:=fun σ H Q=>ta σ H fun x H1=>tb σ H1 fun y H2=>r x y H2 fun z H3=>∃k,z=.bl k /\
 (if k=true then tc σ H3 fun w' H4=>r' y w' H4 Q else Q (.bl false) H3)
theorem zbu(ho:Yc X (OQ op) r)(HF:Yc X (OQ Z2) r')(ha:PE X a ta)(hb:PE X b tb)(hc:PE X c tc)
  (hm:autoParam (VE [op,Z2] [b,c]=false) u23):PE X (.Compare a [op,Z2] [b,c] pos) (rJ r r' ta tb tc):=by
 intro pins s σ H Q I h
 refine Compare_chain (XD (ha pins s σ H _ I h) fun v s1 ⟨x,H1,I1,r1,q1⟩=>chain_link (XD (hb pins s1 σ H1 _ I1 q1) fun u s2 ⟨y,H2,I2,r2,q2⟩=>
  XD (ho pins s2 σ H2 x y v u _ I2 r1 r2 q2) fun d s3 ⟨z,H3,I3,r3,k,e,q3⟩=>?_)) hm
 subst e;cases r3;refine Pq ?_
 cases k with
 |false=>exact ite_ff ⟨.bl _,H3,I3,rfl,q3⟩
 |true=>exact ite_tt (chain_last (XD (hc pins s3 σ H3 _ I3 q3) fun w' s4 ⟨z',H4,I4,r4,q4⟩=>HF pins s4 σ H4 y z' u w' Q I4 r2 r4 q4))
theorem zbv(ho:Yc X (OQ op) r)(HF:Yc X (OQ Z2) r')(ha:PE X a ta)(hb:PE X b tb)(hc:PE X c tc)
  (hm:autoParam (VE [op,Z2] [b,c]=false) u23):PT X (.Compare a [op,Z2] [b,c] pos) (zj (rJ r r' ta tb tc)):=by
 intro pins s σ H Q I h
 refine isTrue_chain (XD (ha pins s σ H _ I h) fun v s1 ⟨x,H1,I1,r1,q1⟩=>test_link (XD (hb pins s1 σ H1 _ I1 q1) fun u s2 ⟨y,H2,I2,r2,q2⟩=>
  XD (ho pins s2 σ H2 x y v u _ I2 r1 r2 q2) fun d s3 ⟨z,H3,I3,r3,k,e,q3⟩=>?_)) hm
 subst e;cases r3;refine Pq ?_
 cases k with
 |false=>
  obtain⟨k',e',q'⟩:=q3;cases e';exact ite_ff ⟨H3,I3,q'⟩
 |true=>
  refine ite_tt (test_last (XD (hc pins s3 σ H3 _ I3 q3) fun w' s4 ⟨z',H4,I4,r4,q4⟩=>XD (HF pins s4 σ H4 y z' u w' _ I4 r2 r4 q4) fun d' s5 ⟨z2,H5,I5,r5,k2,e2,q5⟩=>?_));subst e2;cases r5;exact Pq ⟨H5,I5,q5⟩
def tE(K:Frag)(x:V)(H:Hp)(k:Bool):Prop:=
 match x with
 |.non=>k=false
 |.bl b=>k=b
 |.int i=>k=(i != 0)
 |.str y=>y.length<=Om/\k=((y.length:Int) != 0)
 |.byt y=>y.size<=Om/\k=((y.size:Int) != 0)
 |.ref p=>(∃xs,Ye K H p xs/\k = !xs.isEmpty)\/(∃xs,Yn K H p xs/\k = !xs.isEmpty)\/∃kvs,H p=some (.dK kvs)/\k = !kvs.isEmpty
 |_=>False
theorem zbw{κ:Type}{kvs:List (κ×V)}{vs:List (κ×Oc)}(r:KV kvs vs):(!vs.isEmpty) = !kvs.isEmpty:=by cases r <;> rfl
theorem ui(r:Xv xs Xr):(!Xr.toArray.isEmpty) = !xs.isEmpty:=by cases r <;> simp
theorem j8:(Om:Nat)<2^63:=by decide
theorem zbx:KO X (fun x H Q=>∃k,tE X.K x H k/\Q k H):=by
 intro pins s σ H x v Q I rx h;obtain⟨k,e,q⟩:=h;have hl:=j8;have hs:Om=16777216:=SW
 cases x with
 |non=>
  cases rx;have e':k=false:=e;subst e';exact truthy_none ⟨H,I,q⟩
 |bl b=>
  cases rx;have e':k=b:=e;subst e';exact Pq ⟨H,I,q⟩
 |int i=>
  obtain⟨t,rfl⟩:=rx;have e':k=(i != 0):=e;subst e';exact PySem.P.truthy_int ⟨H,I,q⟩
 |str y=>
  obtain⟨t,rfl⟩:=rx;obtain⟨hy,e'⟩:y.length<=Om/\k=((y.length:Int) != 0):=e;subst e';exact PySem.P.truthy_str (by lia) ⟨H,I.tok _,q⟩
 |byt y=>
  obtain⟨t,rfl⟩:=rx;obtain⟨hy,e'⟩:y.size<=Om/\k=((y.size:Int) != 0):=e;subst e';exact PySem.W.truthy_bytes (by lia) ⟨H,I.tok _,q⟩
 |ref p=>
  cases rx;have e':(∃xs,Ye X.K H p xs/\k = !xs.isEmpty)\/(∃xs,Yn X.K H p xs/\k = !xs.isEmpty)\/∃kvs,H p=some (.dK kvs)/\k = !kvs.isEmpty:=e
  rcases e' with⟨xs,hx,e'⟩|⟨xs,hx,e'⟩|⟨kvs,hx,e'⟩
  .subst e'
   obtain⟨Xr,r,pl,hz⟩:=I.list hx;have XI:=r.length;exact wpAny_truthy_list pl.isList (by simp only[Pg];lia) ⟨H,I.tok _,by rw[ui r];exact q⟩
  .subst e'
   obtain⟨Xr,r,pl,hz⟩:=I.tuple hx;have XI:=r.length;exact truthy_tuple pl (by simp only[Pg];lia) ⟨H,I.tok _,by rw[ui r];exact q⟩
  .subst e'
   obtain⟨hz,hS,vs,r,m⟩:kvs.length<=Om/\(p == Pu)=false/\∃vs,KV kvs vs/\s.heap.DictOf (cI X.prog X.w) p vs:=I.hok p _ hx;have XI:kvs.length=vs.length:=Qh r;exact wpAny_truthy_dict hS m (by lia) ⟨H,I.tok _,by rw[zbw r];exact q⟩
 |_=>exact(show False from e).elim
theorem zby(ha:PE X a ta)(he:∀whole,VA a X.env whole=(do let v ←whole;UO a.pos;UP [v] (truthy v))) :
  PT X a (fun σ H Q=>ta σ H fun x H'=>∃k,tE X.K x H' k/\Q k H'):=by
 intro pins s σ H Q I h;exact isTrue_plain (XD (ha pins s σ H _ I h) fun v s1 ⟨x,H1,I1,r1,q1⟩=>zbx pins s1 σ H1 x v Q I1 r1 q1) (he _)
theorem Ct:Yc X (PJ .Add) (fun x y H Q=>∃i j,x=.str i/\y=.str j/\i.length+j.length<=Om/\Q (.str (i++j)) H):=by
 intro pins s σ H x y v u Q I rx ry h;obtain⟨i,j,rfl,rfl,hz,q⟩:=h;obtain⟨t,rfl⟩:=rx;obtain⟨t',rfl⟩:=ry;exact add_str (fun t' tk=>⟨.str _,H,I.tok _,⟨_,rfl⟩,q⟩) hz
theorem vals1(r:Xv [x] us):∃u,us=[u]/\RelV x u:=by
 cases r with
 |cons r1 r2=>cases r2;exact⟨_,rfl,r1⟩
theorem vals2(r:Xv [x,y] us):∃u w',us=[u,w']/\RelV x u/\RelV y w':=by
 cases r with
 |cons r1 r2=>
  cases r2 with
  |cons r3 r4=>cases r4;exact⟨_,_,rfl,r1,r3⟩
theorem zbz:XW X (.builtin "abs") (fun xs H Q=>∃i,xs=[.int i]/\Q (.int (if i<0 then -i else i)) H):=by
 intro pins s σ H xs us Q I r h;obtain⟨i,rfl,q⟩:=h;obtain⟨u,rfl,t,rfl⟩:=vals1 r;exact call_abs_int fun u tk=>⟨.int _,H,I.tok _,⟨_,rfl⟩,q⟩
theorem zca(hc:X.calm=true):XW X (.builtin "max") (fun xs H Q=>∃i j,xs=[.int i,.int j]/\Q (.int (if j>i then j else i)) H):=by
 intro pins s σ H xs us Q I r h;obtain⟨i,j,rfl,q⟩:=h;obtain⟨u,w',rfl,⟨t,rfl⟩,⟨t',rfl⟩⟩:=vals2 r;refine max_two_ints (I.ok.hd hc) fun h' tk k=>⟨_,H,I.kept k,?_,q⟩
 by_cases hj:j>i
 .rw[if_pos hj,if_pos hj];exact⟨_,rfl⟩
 .rw[if_neg hj,if_neg hj];exact⟨_,rfl⟩
theorem Dm:XW X (.type "int") (fun xs H Q=>(∃i,xs=[.int i]/\Q (.int i) H)\/∃k,xs=[.bl k]/\Q (.int (if k then 1 else 0)) H):=by
 intro pins s σ H xs us Q I r h
 rcases h with⟨i,rfl,q⟩|⟨k,rfl,q⟩
 .obtain⟨u,rfl,t,rfl⟩:=vals1 r
  exact call_int_int ⟨.int i,H,I,⟨_,rfl⟩,q⟩
 .obtain⟨u,rfl,r1⟩:=vals1 r
  cases r1;exact call_int_bool ⟨.int _,H,I.tok _,⟨_,rfl⟩,q⟩
theorem zcb:XW X (.type "str") (fun xs H Q=>∃i,xs=[.int i]/\i.natAbs.log2<1920/\Q (.str (toString i)) H):=by
 intro pins s σ H xs us Q I r h;obtain⟨i,rfl,hz,q⟩:=h;obtain⟨u,rfl,t,rfl⟩:=vals1 r;exact PySem.P.str_of_int hz ⟨.str _,H,I.tok _,⟨_,rfl⟩,q⟩
end
structure Z9(h:Heap)(x dx C:Addr)(mA:Str->Option Oc):Prop where
 obj:h.get? x=some (Qt C dx)
 ns:h.Ns1 dx mA
 ne:dx≠x
theorem zcc{h:Heap}{mA:Str->Option Oc}(n:h.Ns1 dx mA):∃od,h.get? dx=some od/\∀name,Sz name od=some (mA name):=by
 obtain⟨o,es,ep,ho,hd,hk,_,hm⟩:=n;refine⟨o,ho,fun name=>?_⟩;have e:=hm name;unfold nsFind findBy at e;rw[←Array.find?_toList] at e;unfold Sz;rw[hd];dsimp only;split
 simp_all
 .rename_i q
  rw[q] at e
  have a:es.toList.any (·.refKey)=false:=by
   rw[List.any_eq_false];intro y hy;obtain⟨z,t,Dj⟩:=hk y (Array.mem_toList_iff.mp hy);simp[DictEntry.refKey,Dj]
  have a':¬es.toList.any (·.refKey)=true:=by rw[a]<;>simp_all
  rw[if_neg a']<;>simp_all
theorem Z9.look(I:Z9 h x dx C mA):∃od,PySem.W.InstAt h x (Qt C dx) C (some od)/\∀name,Sz name od=some (mA name):=
 let ⟨od,ho,hl⟩:=zcc I.ns
 ⟨od,⟨I.obj,rfl,rfl,ho⟩,hl⟩
section
variable {prog:Oz}{w:OO}{A:O0}{E:Oc->Oi->Prop}{s:Oi}{K:Frag}{x dx C f:Addr}{mA:Str->Option Oc}{name:Str}{v:Oc}
theorem get_map(X:K.In s.heap)(I:Z9 s.heap x dx C mA)(hg:Ri K C name=true)(hh:RJ K C=true)
  (ha:Po K (.ref C) name=some none) (hv:mA name=some v) (Zl:VF v=true) (h:Q v { s with toks:=s.toks+1 }) :
  OG (OJ prog w) A (getAttr (.ref x) name expr) Q E s:=by
 obtain⟨od,J,hl⟩:=I.look;exact PySem.W.get_value X J (Sk hg).1 (PySem.W.findObj_own hh ha rfl (by simp_all)) Zl h
theorem zcd(X:K.In s.heap)(I:Z9 s.heap x dx C mA)(hg:Ri K C name=true)
  (hf:Po K (.ref C) name=some (some (.ref f))) (ht:Sq K (.ref f)=true) (hv:mA name=none) (h:Q (.ref f,[.ref x]) s) :
  OG (OJ prog w) A (Ta (.ref x) name pl) Q E s:=by
 obtain⟨od,J,hl⟩:=I.look;exact PySem.W.method_fn X J (Sk hg).1 (Sk hg).2 hf (beq_iff_eq.mp ht) (by show (Sz name od).map (·.isSome)=some false;rw[hl,hv];rfl) h
theorem zce(X:K.In s.heap)(I:Z9 s.heap x dx C mA)
  (hs:Po K (.ref C) "__setattr__"=some (some (.builtin "object.__setattr__"))) (hp:SX K C=true) (ht:Ua K C name=some none) (hh:RJ K C=true)
  (hw:Vd mA ns) (hsz:ns.length<=Om)
  (h:∀h',Z9 h' x dx C (fun y=>if y=name then some v else mA y)->Qi dx s.heap h'->Q () { s with heap:=h',toks:=s.toks+2 }) :
  OG (OJ prog w) A (setAttr (.ref x) name v) Q E s:=by
 obtain⟨od,J,hl⟩:=I.look;refine PySem.W.set_plain X J hs (PySem.W.osa_open (s:={ s with toks:=s.toks+1 }) (r:=none) X J hp ht fun b=>?_);obtain⟨cd,hc,ZX⟩:=PySem.W.any_some hh;have hx:s.heap.get? x=some ⟨.ref C,some dx,.plain,#[]⟩:=I.obj;refine Oe (Ot (Oe (Oe (wpAny_loadPart hx (Oe (Xi (s:={ s with toks:=s.toks+1 }) (PySem.W.looks_clsIn X hc) ?_))))));rw[ZX];refine Ot (a:=some dx) (Oe (Ot (Oe ?_)));refine wpAny_nsSet1 (s:={ s with toks:=s.toks+1 }) I.ns fun h' Dq DL=>?_;obtain⟨oD,esD,epD,hoD,hdD,hcD⟩:=Dq.count (Xn name v hw);refine Oe (wpAny_lookBehind hoD (by rw[hdD];exact pastItsLine_dict (OC hcD (by simp_all))) ?_);exact Ot (h _ ⟨(DL.2 _ (Qd I.ne)).trans I.obj,Dq,I.ne⟩ DL)
theorem zcf(X:K.In s.heap)(hm:Ub K C=true)
  (hi:Po K (.ref C) "__init__"=some (some (.ref f))) (hf:PySem.W.typeIn K (.ref f)=some (.type "function"))
  (h:SY (OJ prog w) (A.under (.builtin "type.__call__" ⟨.ref C::vs,kw⟩)) (.call (.ref f) ⟨.ref (s.heap.objs.size+1)::vs,kw⟩) (PySem.W.InitBack (s.heap.objs.size+1) R)
   { s with heap:=(s.heap.push P3).push (Qt C s.heap.objs.size) }) :
  SY (OJ prog w) A (.call (.ref C) ⟨vs,kw⟩) R s:=by
 obtain⟨hh,g,d,t,os⟩:=s;exact PySem.W.make_core (PySem.W.makes_of X hm) (PySem.W.looks_findIn X hi) (fun self=>PySem.W.bind_fn X self hf) (.inl rfl) h
end
noncomputable def du(f:Str)(v:V):List (Str×V)->List (Str×V)
 |[]=>[(f,v)]
 |(g,x)::r=>if g=f then (g,v)::r else (g,x)::du f v r
theorem tR(f g:Str)(v:V):∀fs:List (Str×V),(du f v fs).lookup g=if g=f then some v else fs.lookup g
 |[]=>by
  show VU g [(f,v)]=_
  by_cases h:g=f
  .simp_all
  .simp_all
 |(k,x)::r=>by
  have ih:=tR f g v r;rw[show du f v ((k,x)::r)=(if k=f then (k,v)::r else (k,x)::du f v r) from rfl]
  by_cases hk:k=f
  .grind
  .grind
theorem qf(f:Str)(v:V):∀fs:List (Str×V),f∈(du f v fs).map (·.1)/\∀g,g∈fs.map (·.1)->g∈(du f v fs).map (·.1)
 |[]=>⟨by simp[du],fun g h=>by simp at h⟩
 |(k,x)::r=>by
  obtain⟨i1,i2⟩:=qf f v r;rw[show du f v ((k,x)::r)=(if k=f then (k,v)::r else (k,x)::du f v r) from rfl]
  by_cases hk:k=f
  .grind
  .grind
theorem tT(f:Str)(v:V):∀fs:List (Str×V),(du f v fs).length<=fs.length+1
 |[]=>by simp[du]
 |(k,x)::r=>by
  have ih:=tT f v r;rw[show du f v ((k,x)::r)=(if k=f then (k,v)::r else (k,x)::du f v r) from rfl]
  by_cases hk:k=f
  .simp_all
  .simp_all
theorem Yt.some_of{v:V}{o:Option Oc}(r:Yt (some v) o):∃u,o=some u/\RelV v u:=by
 cases o with
 |none=>exact(r).elim
 |some u=>exact⟨u,rfl,r⟩
theorem Yt.none_of(r:Yt none o):o=none:=by
 cases o with
 |none=>rfl
 |some u=>exact(show False from r).elim
theorem zcg(r:RelV v u):VF u=true:=by
 cases v with
 |non=>cases (show u=P2 from r);rfl
 |bl b=>cases (show u=U2 b from r);rfl
 |int i=>obtain⟨t,e⟩:=(show ∃t,u=Vy i t from r);cases e;rfl
 |str x=>obtain⟨t,e⟩:=(show ∃t,u=Sx x t from r);cases e;rfl
 |byt b=>obtain⟨t,e⟩:=(show ∃t,u=Xd b t from r);cases e;rfl
 |flt b=>obtain⟨t,e⟩:=(show ∃t,u=VT b t from r);cases e;rfl
 |ref a=>cases (show u=OV a from r);rfl
 |ty n=>cases (show u=RV n from r);rfl
section
variable {P:Oz}{w:OO}{H H':Hp}{h h':Heap}{a C dx:Addr}{fs fs':List (Str×V)}
theorem nH(hok:Ys P w H h)(e:H a=some (.ins C dx fs)):∃mA,Z9 h a dx C mA/\(∀f,Yt (fs.lookup f) (mA f))/\Vd mA (fs.map (·.1))/\fs.length<=1000/\H dx=some (.own a):=by
 obtain⟨d,z,ne,ob,mA,n,r,q⟩:=(hok a _ e);exact⟨mA,⟨ob,n,ne⟩,r,q,z,d⟩
end
structure ZD(K:Frag)(C:Addr):Prop where
 pg:Ri K C Str.empty=true
 hd:RJ K C=true
 po:SX K C=true
 sa:Po K (.ref C) "__setattr__"=some (some (.builtin "object.__setattr__"))
theorem ZD.get{K:Frag}{C:Addr}(c:ZD K C)(f:Str):Ri K C f=true:=c.pg
def X0(K:Frag)(C:Addr)(f:Str):Prop:=Po K (.ref C) f=some none
theorem X0.taker{K:Frag}{C:Addr}{f:Str}(n:X0 K C f):Ua K C f=some none:=by
 unfold Ua;rw[show Po K (.ref C) f=some none from n];rfl
structure DF(K:Frag)(C:Addr)(m:Str)(f:Addr):Prop where
 at_:Po K (.ref C) m=some (some (.ref f))
 fn:Sq K (.ref f)=true
 kp:PP K (.ref f)=true
section
variable {X:Cx}{pins:List (Addr×Obj)}{σ:St}{H:Hp}{s:Oi}{a C dx:Addr}{fs:List (Str×V)}{f:Str}{v:V}{A:O0}{E:Oc->Oi->Prop}
theorem zch(I:Inv X pins σ H s)(e:H a=some (.ins C dx fs))(c:ZD X.K C)(n:X0 X.K C f)(l:fs.lookup f=some v)
  (h:∀u s',Inv X pins σ H s'->RelV v u->Q u s'):OG (OJ X.prog X.w) A (getAttr (.ref a) f b) Q E s:=by
 obtain⟨mA,O,r,_,_,_⟩:=nH I.hok e;obtain⟨u,hu,ru⟩:=Yt.some_of (v:=v) (o:=mA f) (by rw[←l];exact r f);exact get_map I.kIn O (c.get f) c.hd n hu (zcg ru) (h u _ (I.tok _) ru)
theorem uk(I:Inv X pins σ H s)(e:H a=some (.ins C dx fs))(c:ZD X.K C)(k:DF X.K C m g)(l:fs.lookup m=none)
  (h:Q (.ref g,[.ref a]) s):OG (OJ X.prog X.w) A (Ta (.ref a) m pl) Q E s:=by
 obtain⟨mA,O,r,_,_,_⟩:=nH I.hok e;have hn:mA m=none:=Yt.none_of (by rw[←l];exact r m);exact zcd I.kIn O (c.get m) k.at_ k.fn hn h
theorem zci(I:Inv X pins σ H s)(e:H a=some (.ins C dx fs))(c:ZD X.K C)(n:X0 X.K C f)(hl:fs.length<1000)(ry:RelV y u)
  (h:∀s',Inv X pins σ (upd H a (.ins C dx (du f y fs))) s'->Q () s'):OG (OJ X.prog X.w) A (setAttr (.ref a) f u) Q E s:=by
 obtain⟨mA,O,r,wi,_,ho⟩:=nH I.hok e
 have hz:(fs.map (·.1)).length<=sizeLine:=by rw[OW,SW];lia
 refine zce I.kIn O c.sa c.po n.taker c.hd wi hz fun h' O' sb=>h _ ?_
 have hd:∃o,h'.get? dx=some o:=let ⟨o,_,_,e',_⟩:=O'.ns;⟨o,e'⟩
 refine I.write (x:=a) (e:=dx) (by rw[e];exact P4) (.inr ho) (fun b q hb z=>(sb.2 b hb).trans z) hd ?_;refine⟨by rw[aK O.ne];exact ho,?_,O.ne,O'.obj,_,O'.ns,fun g=>?_,fun g hg=>?_⟩
 .have:=tT f y fs;lia
 .show Yt ((du f y fs).lookup g) (if g=f then some u else mA g)
  rw[tR]
  by_cases q:g=f
  .rw[if_pos q,if_pos q];exact ry
  .simp_all
 .by_cases q:g=f
  .rw[q];exact(qf f y fs).1
  .refine(qf f y fs).2 g (wi g fun z=>hg ?_)
   show (if g=f then some u else mA g)=none;rw[if_neg q];exact z
theorem Inv.made(I:Inv X pins σ H s):Inv X pins σ (upd (upd H s.heap.objs.size (.own (s.heap.objs.size+1))) (s.heap.objs.size+1) (.ins C s.heap.objs.size []))
  { s with heap:=(s.heap.push P3).push (Qt C s.heap.objs.size) }:=by
 have e1:(s.heap.push P3).get? s.heap.objs.size=some PySem.W.emptyDict:=Oy s.heap rfl
 have e2:((s.heap.push P3).push (Qt C s.heap.objs.size)).get? (s.heap.objs.size+1)=some (Qt C s.heap.objs.size):=by
  have:=Oy (s.heap.push P3) (o:=Qt C s.heap.objs.size) rfl
  rwa [P5] at this
 have e3:(s.heap.push P3).Ns s.heap.objs.size (fun _=>none):=⟨P3,#[],_,e1,rfl,(fun e he=>absurd he (by simp)),fun _=>rfl⟩;have I1:=I.laid (a:=s.heap.objs.size) (o:=.own (s.heap.objs.size+1)) (h':=s.heap.push P3) (t':=s.toks) (fun b u q=>Og _ q) (Oo _) ⟨_,e1⟩;refine I1.laid (a:=s.heap.objs.size+1) (o:=.ins C s.heap.objs.size []) (t':=s.toks) (fun b u q=>Og _ q) (Ve (P5 _ _)) ?_;have ne:s.heap.objs.size≠s.heap.objs.size+1:=OI (QV _);refine⟨by rw[aK ne,bj],Pm _,ne,e2,fun _=>none,(Heap.Ns1.of_empty e3).at fun o q=>Og _ q,fun _=>P4,fun y hy=>absurd rfl hy⟩
theorem zcj(hb:PD e f env (eval e env)=eval e env)
  (h:OG (OJ prog w) A (eval e env) (fun o s₁=>OG (OJ prog w) A (getAttr o f true) Q E s₁) E s):OG (OJ prog w) A (eval (.Attribute e f pos) env) Q E s:=Attribute_any_ h (by rw[arm_eval_Attribute,hb])
end
noncomputable def Kv(K:Frag)(ta:TE)(f:Str):TE:=fun σ H Q=>ta σ H fun x H1=>∃a C dx fs v,x=.ref a/\H1 a=some (.ins C dx fs)/\ZD K C/\X0 K C f/\fs.lookup f=some v/\Q v H1
noncomputable def KA(K:Frag)(ta tv:TE)(f:Str):TS:=fun D σ H=>tv σ H fun y H1=>ta σ H1 fun x H2=>∃a C dx fs,x=.ref a/\H2 a=some (.ins C dx fs)/\ZD K C/\X0 K C f/\fs.length<1000 /\
 D.nx σ (upd H2 a (.ins C dx (du f y fs)))
section
variable {X:Cx}{o e value:Expr}{f:Str}{pos pos' ZE:Pos}{ta tv:TE}{pins:List (Addr×Obj)}{σ:St}{H:Hp}{s:Oi}{A:O0}{E Q:Oc->Oi->Prop}{c:Oc}{b:Bool}
theorem j4(he:PE X e ta)(hb:PD e f X.env (eval e X.env)=eval e X.env):PE X (.Attribute e f pos) (Kv X.K ta f):=by
 intro pins s σ H Q I h;refine zcj hb (XD (he pins s σ H _ I h) fun u s1 ⟨x,H1,I1,rx,a,C,dx,fs,v,ex,ea,c,n,l,q⟩=>?_);subst ex;obtain rfl:u=OV a:=rx;exact zch I1 ea c n l fun u' s2 I2 ru=>⟨v,H1,I2,ru,q⟩
theorem rR(ha:PE X o ta)(hv:PE X value tv)(hs:PB value (some (.Attribute o f pos')) pos.line X.env=pure false):PS X (.Assign [.Attribute o f pos'] value pos) (KA X.K ta tv f):=by
 intro pins s σ H D I h;refine plainObj_wpAny_Assign_Attribute (XD (hv pins s σ H _ I h) fun u s1 ⟨y,H1,I1,ry,q⟩=>XD (ha pins s1 σ H1 _ I1 q) fun ov s2 ⟨x,H2,I2,rx,a,C,dx,fs,ex,ea,c,n,l,q2⟩=>?_) hs;subst ex;obtain rfl:ov=OV a:=rx;exact zci I2 ea c n l ry fun s3 I3=>⟨σ,_,I3,q2⟩
inductive YY(K:Frag)(H:Hp):V->Oc->Prop where
 |non:YY K H .non (.type "NoneType")
 |bl (x:Bool):YY K H (.bl x) (.type "bool")
 |int (i:Int):YY K H (.int i) (.type "int")
 |str (x:Str):YY K H (.str x) (.type "str")
 |flt (x:UInt64):YY K H (.flt x) (.type "float")
 |lst {a:Addr}{xs:List V} (e:H a=some (.lst xs)):YY K H (.ref a) (.type "list")
 |frz {a:Addr}{o:Obj}{xs:List V} (e:H a=some (.frz o (.lst xs))):YY K H (.ref a) (.type "list")
 |tup {a:Addr}{xs:List V} (e:H a=some (.tup xs)):YY K H (.ref a) (.type "tuple")
 |dK {a:Addr}{kvs:List (Key×V)} (e:H a=some (.dK kvs)):YY K H (.ref a) (.type "dict")
 |dT {a:Addr}{kvs:List (List Key×V)} (e:H a=some (.dT kvs)):YY K H (.ref a) (.type "dict")
 |ins {a C dx:Addr}{fs:List (Str×V)} (e:H a=some (.ins C dx fs)) (cl:ZD K C) (ha:Po K (.ref C) "__class__"=some (some (.builtin "object.__class__")))
   (hn:PySem.W.specialIn K (.builtin "object.__class__") "__get__"=some (some (.builtin "getset_descriptor.__get__"))) (htk:PySem.W.takesIn K (.builtin "object.__class__")=some true)
   (hm:PySem.W.mroIn K C (.type "object")=some true):YY K H (.ref a) (.ref C)
theorem mY(I:Inv X pins σ H s)(rx:RelV x u)(ty:YY X.K H x t)(e:PySem.W.kitOne X.K t c=some b)(h:∀tk,Q (.bool b) { s with toks:=tk }) :
  OG (OJ X.prog X.w) A (call (.builtin "isinstance") [u,c]) Q E s:=by
 cases ty with
 |non=>cases (show u=P2 from rx);exact Pf PySem.W.kitx_none I.kIn P4 e (fun z=>nomatch z) h
 |bl y=>cases (show u=U2 y from rx);exact Pf PySem.W.kitx_bool I.kIn P4 e (fun z=>nomatch z) h
 |int i=>obtain⟨t,q⟩:=(show ∃t,u=Vy i t from rx);cases q;exact Pf PySem.W.kitx_int I.kIn P4 e (fun z=>nomatch z) h
 |str y=>obtain⟨t,q⟩:=(show ∃t,u=Sx y t from rx);cases q;exact Pf PySem.W.kitx_str I.kIn P4 e (fun z=>nomatch z) h
 |flt y=>obtain⟨t,q⟩:=(show ∃t,u=VT y t from rx);cases q;exact Pf PySem.W.kitx_float I.kIn P4 e (fun z=>nomatch z) h
 |@lst a xs ea=>
  cases (show u=OV a from rx);obtain⟨_,_,n,_,h1⟩:=(show XM X.prog X.w H s.heap a (.lst xs) from I.hok a _ ea);exact Pf SZ I.kIn ⟨_,h1,rfl⟩ e (fun z=>nomatch z) h
 |@frz a ob xs ea=>
  cases (show u=OV a from rx);obtain⟨_,_,_,n,_,h1⟩:=(show XM X.prog X.w H s.heap a (.frz ob (.lst xs)) from I.hok a _ ea);exact Pf SZ I.kIn ⟨_,h1,rfl⟩ e (fun z=>nomatch z) h
 |@tup a xs ea=>
  cases (show u=OV a from rx);obtain⟨_,_,_,p⟩:=(show XM X.prog X.w H s.heap a (.tup xs) from I.hok a _ ea);obtain⟨o,h1,h2,_⟩:=p;exact Pf U4 I.kIn ⟨o,h1,h2⟩ e (fun z=>nomatch z) h
 |@dK a kvs ea=>
  cases (show u=OV a from rx);obtain⟨_,_,vs,_,p⟩:=(show XM X.prog X.w H s.heap a (.dK kvs) from I.hok a _ ea);obtain⟨o,es,ep,h1,h2,_⟩:=p;exact Pf S1 I.kIn ⟨o,h1,h2.1⟩ e (fun z=>nomatch z) h
 |@dT a kvs ea=>
  cases (show u=OV a from rx);obtain⟨_,_,xs,_,o,es,ep,h1,h2,_⟩:=(show XM X.prog X.w H s.heap a (.dT kvs) from I.hok a _ ea);exact Pf S1 I.kIn ⟨o,h1,h2.1⟩ e (fun z=>nomatch z) h
 |@ins a C dx fs ea cl ha hn htk hm=>
  cases (show u=OV a from rx);obtain⟨mA,O,_⟩:=nH I.hok ea;obtain⟨od,J,_⟩:=O.look;exact Pf (PySem.W.kitx_own (cl.get _) cl.hd ha hn htk hm) I.kIn J e (fun z=>nomatch z) h
end
structure XA(k:Nat)(A:O0):Prop where
 hd:A.handled=none
 dp:A.depth+3*k+5<recursionLimit
 un:A.units+16*k+200<Tb
 gd:A.guards=some []
theorem XA.mono(r:XA k A)(h:j<=k):XA j A:=⟨r.hd,by have:=r.dp;lia,by have:=r.un;lia,r.gd⟩
theorem XA.deeper(r:XA (k+1) A)(env:Env):XA k (A.deeper env):=⟨r.hd,by have:=r.dp;show A.depth+1+3*k+5<_;lia,by have:=r.un;simp_all;lia,r.gd⟩
theorem zck{A:O0}:(A.under (.builtin "type.__call__" ⟨.ref C::us,kw⟩)).depth=A.depth+1:=by first|rfl|simp[Vf,Code.weight,Code.isCreation,W1,Code.isCaller,Code.frames,W2,guardIds]
theorem zcl{A:O0}:(A.under (.builtin "type.__call__" ⟨.ref C::us,kw⟩)).units=A.units+1:=rfl
theorem XA.make(r:XA (k+1) A)(C:Addr)(us:List Oc)(kw:List (Str×Oc)):XA k (A.under (.builtin "type.__call__" ⟨.ref C::us,kw⟩)):=⟨r.hd,by have:=r.dp;rw[zck];lia,by have:=r.un;rw[zcl];lia,by first|exact r.gd|(simpa[Vf,W1,guardIds] using r.gd)⟩
theorem XA.depth(r:XA k A):A.depth<recursionLimit:=by have:=r.dp;lia
noncomputable def sX:TA:=fun _ H Q=>Q [] H
noncomputable def I0(ta:TE)(tr:TA):TA:=fun σ H Q=>ta σ H fun x H1=>tr σ H1 fun xs H2=>Q (x::xs) H2
section
variable {X:Cx}{e:Expr}{es:List Expr}{te:TE}{t:TA}{pos:Pos}
theorem bY:PA X [] sX:=fun _ _ _ _ H Q I h=>Calls.spliced_nil ⟨[],H,I,.nil,h⟩
theorem bH(ha:PE X e te)(hr:PA X es t)(hs:autoParam (Ol (e::es) X.env=(false,eval e X.env)::Ol es X.env) u10):PA X (e::es) (I0 te t):=by
 intro pos pins s σ H Q I h;rw[hs];refine Calls.spliced_cons (XD (ha pins s σ H _ I h) fun u s1 ⟨x,H1,I1,r1,q1⟩=>?_);exact XD (hr pos pins s1 σ H1 _ I1 q1) fun us s2 ⟨xs,H2,I2,r2,q2⟩=>⟨x::xs,H2,I2,.cons r1 r2,q2⟩
noncomputable def Kn(t:TA):TE:=fun σ H Q=>t σ H fun xs H1=>xs.length<=Om/\∀p,H1 p=none->Q (.ref p) (upd H1 p (.tup xs))
noncomputable def Ks(t:TA):TE:=fun σ H Q=>t σ H fun xs H1=>xs.length<=Om/\∀p,H1 p=none->Q (.ref p) (upd H1 p (.lst xs))
theorem yC{x1}(h:PA X es t):PE X (.Tuple es x1 pos) (Kn t):=by
 intro pins s σ H Q I hq;refine wpAny_Tuple_spliced (XD (h pos pins s σ H _ I hq) fun us s1 ⟨xs,H1,I1,r,z,q⟩=>⟨by rw[←r.length];exact z,?_⟩);have hf:=I1.hok.fresh (Oo _);refine⟨.ref _,upd H1 _ _,I1.laid  (fun b u e=>Og _ e) (Oo _) ?_,rfl,q _ hf⟩;exact⟨z,us,r,⟨_,Oy _ rfl,rfl,_,rfl⟩⟩
theorem rV(h:PA X es t):PE X (.List es pos) (Ks t):=by
 intro pins s σ H Q I hq;refine wpAny_List_spliced (XD (h pos pins s σ H _ I hq) fun us s1 ⟨xs,H1,I1,r,z,q⟩=>⟨by rw[←r.length];exact z,?_⟩);have hf:=I1.hok.fresh (Oo _);refine⟨.ref _,upd H1 _ _,I1.laid  (fun b u e=>Og _ e) (Oo _) ?_,rfl,q _ hf⟩;exact⟨z,us,0,r,Oy _ rfl⟩
end
abbrev Sp:=List V->Hp->VK->XK->Prop
abbrev Fp:=List Env->Hp->Oi->XK->Oc->Oi->Prop
structure Cu(P:Oz)(w:OO)(K:Frag)(mg:Str->Option Oc)(base:Heap)(A:O0)(outer:List Env)(s:Oi)(H:Hp):Prop where
 frames:A.frames=some outer
 mod:Mod K mg base
 bs:∀b o,base.get? b=some o->s.heap.get? b=some o/\H b=none
 bsz:base.objs.size<=s.heap.objs.size
 funs:s.heap.FunFrames base outer
 frf:∀b∈frs outer,H b=none
 hok:Ys P w H s.heap
 bare:SU s.gens
def CE(outer:List Env)(P:Oz)(w:OO)(H:Hp)(s:Oi)(Q:VK)(u:Oc)(s':Oi):Prop:=∃v H',s'.os=s.os/\SU s'.gens/\Un (frs outer) [] H H' s.heap s'.heap/\Ys P w H' s'.heap/\RelV v u/\Q v H'
def CR(CX:Fp)(outer:List Env)(P:Oz)(w:OO)(H:Hp)(s:Oi)(Q:VK)(E:XK)(r:W0)(s':Oi):Prop:=
 match r with
 |.ok (.ret u)=>CE outer P w H s Q u s'
 |.ok _=>False
 |.error e=>CX outer H s E e s'
structure X5(P:Oz)(w:OO)(K:Frag)(mg:Str->Option Oc)(base:Heap)(CX:Fp)(k:Nat)(f:Addr)(fd:QD)(ps:List Str)(sp:Sp):Prop where
 len:∀vs H Q E,sp vs H Q E->vs.length=ps.length
 run:∀(A:O0) (outer:List Env) (s:Oi) (H:Hp) (args:Args) (us:List Oc) (vs:List V) (Q:VK) (E:XK),XA k A->Cu P w K mg base A outer s H->Vg s fd args (ps.zip us)->Xv vs us->sp vs H Q E ->
  SY (OJ P w) A (.call (.ref f) args) (CR CX outer P w H s Q E) s
theorem Cu.make{P:Oz}{w:OO}{K:Frag}{mg:Str->Option Oc}{base:Heap}{A:O0}{outer:List Env}{s:Oi}{H:Hp}(e:Cu P w K mg base A outer s H)(C:Addr)(us:List Oc)(kw:List (Str×Oc)) :
  Cu P w K mg base (A.under (.builtin "type.__call__" ⟨.ref C::us,kw⟩)) outer s H:=⟨by first|exact e.frames|(simpa[Vf,Code.envs,W2,pushEnvs] using e.frames),e.mod,e.bs,e.bsz,e.funs,e.frf,e.hok,e.bare⟩
section
variable {X:Cx}{pins:List (Addr×Obj)}{σ:St}{H:Hp}{s s':Oi}
theorem Inv.env0(I:Inv X pins σ H s):Cu X.prog X.w X.K X.mg X.base X.A X.stack s H:=⟨I.ok.frames,I.ok.mod,I.bs,OC I.ok.bsz I.sz,I.stack,I.stkFree,I.hok,I.bare⟩
theorem Inv.after(I:Inv X pins σ H s)(h:CE X.stack X.prog X.w H s Q u s'):EP X pins σ Q u s':=by
 obtain⟨v,H',os,bare,un,hok,r,q⟩:=h;obtain⟨hh,g,d,t,os'⟩:=s';obtain rfl:os'=s.os:=os;exact⟨v,H',I.call      un hok bare (fun b z=>absurd z (by simp)),r,q⟩
end
noncomputable def zm(sp:Sp)(Y8:List V)(E:XK)(t:TA):TE:=fun σ H Q=>t σ H fun vs H1=>sp (vs++Y8) H1 Q E
noncomputable def sE(C:Addr)(m:Str)(sp:Sp)(Y8:List V)(E:XK)(ta:TE)(t:TA):TE:=fun σ H Q=>ta σ H fun x H1=>∃a dx fs,x=.ref a/\H1 a=some (.ins C dx fs)/\fs.lookup m=none /\
 t σ H1 fun vs H2=>sp (x::(vs++Y8)) H2 Q E
noncomputable def zk(C:Addr)(sp:Sp)(Y8:List V)(E:XK)(t:TA):TE:=fun σ H Q=>t σ H fun vs H1=>∀x dx,H1 x=none->H1 dx=none->dx≠x ->
 sp (.ref x::(vs++Y8)) (upd (upd H1 dx (.own x)) x (.ins C dx [])) (fun v H2=>v=.non/\Q (.ref x) H2) E
def Binds(K:Frag)(fd:QD)(ps:List Str)(ds:List Oc):Prop:=∀(s:Oi) (us:List Oc),K.In s.heap->(us++ds).length=ps.length->Vg s fd ⟨us,[]⟩ (ps.zip (us++ds))
theorem Binds.all{K:Frag}{fd:QD}{ps:List Str}(h:∀us:List Oc,us.length=ps.length->Rm fd ⟨us,[]⟩=pure (ps.zip us)):Binds K fd ps []:=fun s us _ hl=>by
 rw[PF] at hl ⊢;exact .of_eq (h us hl)
def iB(CX:Fp)(X:Cx)(E:XK):Prop:=∀(pins:List (Addr×Obj)) (σ:St) (H:Hp) (s:Oi) (e:Oc) (s':Oi),Inv X pins σ H s->CX X.stack H s E e s'->X.xe e s'
section
variable {X:Cx}{CX:Fp}{k:Nat}{f C:Addr}{fd:QD}{ps:List Str}{sp:Sp}{Y8:List V}{ds:List Oc}{E:XK}{x m:Str}{p pos apos:Pos}{e o:Expr}{es:List Expr}{ta:TE}{t:TA}
theorem rP(F:X5 X.prog X.w X.K X.mg X.base CX k f fd ps sp)(hr:XA k X.A)(hb:Binds X.K fd ps ds)(hd:Xv Y8 ds)(hx:iB CX X E)
  (I:Inv X pins σ H s) (r:Xv vs us) (h:sp (vs++Y8) H Q E):OG (OJ X.prog X.w) X.A (call (.ref f) us) (EP X pins σ Q) X.xe s:=by
 have r2:=r.append hd
 have hl:(us++ds).length=ps.length:=by rw[←r2.length];exact F.len _ _ _ _ h
 refine wpAny_call (Tz (F.run X.A _ s H _ _ _ Q E hr I.env0 (hb s us I.kIn hl) r2 h) fun r s' hq=>?_)
 cases r with
 |error e=>exact hx pins σ H s e s' I hq
 |ok fl=>
  cases fl with
  |ret u=>exact I.after hq
  |next=>exact QO hq
  |brk=>exact QO hq
  |cont=>exact QO hq
theorem zcm(F:X5 X.prog X.w X.K X.mg X.base CX k f fd ps sp)(hr:XA k X.A)(hg:Gl X x)(hm:X.mg x=some (.ref f))(hk:PP X.K (.ref f)=true)(hb:Binds X.K fd ps ds)(hd:Xv Y8 ds)(hx:iB CX X E)
  (ha:PA X (e::es) t) (Yk:autoParam ((x == ("__debug__" : Str))=false) u11) (he:autoParam (Ol (e::es) X.env=(false,eval e X.env)::Ol es X.env) u10) (X7:autoParam ((Pe pos (Ol es X.env)).any (·.1)=false) u10) :
  PE X (.Call (.Name x p) (e::es) [] pos) (zm sp Y8 E t):=by
 intro pins s σ H Q I h;refine Q2 (nG I hg hm ?_ Yk);refine SC  I.ok.mod.kin hk (XD (ha pos pins s σ H _ I h) fun us s1 ⟨vs,H1,I1,r,q⟩=>⟨I1.kIn,?_⟩) he X7;exact rP F hr hb hd hx I1 r q
theorem qT(he:PE X o ta)(c:ZD X.K C)(hm:DF X.K C m f)(F:X5 X.prog X.w X.K X.mg X.base CX k f fd ps sp)(hr:XA k X.A)(hb:Binds X.K fd ps ds)(hd:Xv Y8 ds)(hx:iB CX X E)(ha:PA X (e::es) t)
  (ES:autoParam (Ol (e::es) X.env=(false,eval e X.env)::Ol es X.env) u10) (X7:autoParam ((Pe pos (Ol es X.env)).any (·.1)=false) u10)
  (ht:autoParam (eval (.Call (.Attribute o m apos) (e::es) [] pos) X.env=(do
   let ov ←eval o X.env
   UO apos.atName
   let (f,first) ←UP [ov] (Ta ov m pl)
   Wh pos f first (Pe pos (Ol (e::es) X.env)) (QJ pos (PN [] X.env)))) u10) :
  PE X (.Call (.Attribute o m apos) (e::es) [] pos) (sE C m sp Y8 E ta t):=by
 intro pins s σ H Q I h;refine Ui (pl:=pl) (XD (he pins s σ H _ I h) fun u s1 ⟨x,H1,I1,rx,a,dx,fs,ex,ea,l,q⟩=>?_) ht;subst ex;obtain rfl:u=OV a:=rx;refine uk I1 ea c hm l ?_;refine SC (first:=[.ref a]) (h₀:=X.base) I.ok.mod.kin hm.kp (XD (ha pos pins s1 σ H1 _ I1 q) fun us s2 ⟨vs,H2,I2,r,q2⟩=>⟨I2.kIn,?_⟩) ES X7;exact rP (us:=.ref a::us) (vs:=.ref a::vs) F hr hb hd hx I2 (.cons rfl r) q2
theorem wd(he:PE X o ta)(c:ZD X.K C)(hm:DF X.K C m f)(F:X5 X.prog X.w X.K X.mg X.base CX k f fd ps sp)(hr:XA k X.A)(hb:Binds X.K fd ps ds)(hd:Xv Y8 ds)(hx:iB CX X E)
  (ht:autoParam (eval (.Call (.Attribute o m apos) [] [] pos) X.env=(do
   let ov ←eval o X.env
   UO apos.atName
   let (f,first) ←UP [ov] (Ta ov m pl)
   Wh pos f first (Pe pos (Ol [] X.env)) (QJ pos (PN [] X.env)))) u10) :
  PE X (.Call (.Attribute o m apos) [] [] pos) (sE C m sp Y8 E ta sX):=by
 intro pins s σ H Q I h;refine Ui (pl:=pl) (XD (he pins s σ H _ I h) fun u s1 ⟨x,H1,I1,rx,a,dx,fs,ex,ea,l,q⟩=>?_) ht;subst ex;obtain rfl:u=OV a:=rx;refine uk I1 ea c hm l ?_;exact UR (first:=[.ref a]) I1.kIn hm.kp (rP (us:=[.ref a]) (vs:=[.ref a]) F hr hb hd hx I1 (.cons rfl .nil) q)
structure Mk(K:Frag)(C f:Addr):Prop where
 makes:Ub K C=true
 init:Po K (.ref C) "__init__"=some (some (.ref f))
 fn:Sq K (.ref f)=true
 kp:PP K (.ref C)=true
theorem vX(M:Mk X.K C f)(F:X5 X.prog X.w X.K X.mg X.base CX k f fd ps sp)(hr:XA (k+1) X.A)(hb:Binds X.K fd ps ds)(hd:Xv Y8 ds)
  (hx:iB CX X E) (I:Inv X pins σ H s) (r:Xv vs us)
  (h:∀x dx,H x=none->H dx=none->dx≠x->sp (.ref x::(vs++Y8)) (upd (upd H dx (.own x)) x (.ins C dx [])) (fun v H2=>v=.non/\Q (.ref x) H2) E) :
  OG (OJ X.prog X.w) X.A (call (.ref C) us) (EP X pins σ Q) X.xe s:=by
 have hq:=h (s.heap.objs.size+1) s.heap.objs.size (I.hok.fresh (Ux _)) (I.hok.fresh (Oo _)) (OI (QV _));have I2:=Inv.made (C:=C) I;have r2:Xv (V.ref (s.heap.objs.size+1)::(vs++Y8)) (OV (s.heap.objs.size+1)::(us++ds)):=.cons rfl (r.append hd)
 have hl:(OV (s.heap.objs.size+1)::us++ds).length=ps.length:=by
  have e:=r2.length;rw[F.len _ _ _ _ hq] at e;exact e.symm
 refine wpAny_call (zcf (f:=f) I.kIn M.makes M.init (beq_iff_eq.mp M.fn) (Tz (F.run _ X.stack _ _ ⟨OV (s.heap.objs.size+1)::us,[]⟩ (OV (s.heap.objs.size+1)::(us++ds)) _ _ E (hr.make C us [])
  (I2.env0.make C us []) (hb _ (OV (s.heap.objs.size+1)::us) I2.kIn hl) r2 hq) fun r s' Yp=>?_))
 cases r with
 |error e=>exact hx pins σ _ _ e s' I2 Yp
 |ok fl=>
  cases fl with
  |ret u=>
   obtain⟨v,H',I3,rv,ev,q3⟩:=I2.after Yp;subst ev;exact⟨rv,⟨V.ref (s.heap.objs.size+1),H',I3,rfl,q3⟩⟩
  |next=>exact QO Yp
  |brk=>exact QO Yp
  |cont=>exact QO Yp
theorem zcn(M:Mk X.K C f)(F:X5 X.prog X.w X.K X.mg X.base CX k f fd ps sp)(hr:XA (k+1) X.A)(hg:Gl X x)(hm:X.mg x=some (.ref C))(hb:Binds X.K fd ps ds)(hd:Xv Y8 ds)(hx:iB CX X E)
  (ha:PA X (e::es) t) (Yk:autoParam ((x == ("__debug__" : Str))=false) u11) (he:autoParam (Ol (e::es) X.env=(false,eval e X.env)::Ol es X.env) u10) (X7:autoParam ((Pe pos (Ol es X.env)).any (·.1)=false) u10) :
  PE X (.Call (.Name x p) (e::es) [] pos) (zk C sp Y8 E t):=by
 intro pins s σ H Q I h;refine Q2 (nG I hg hm ?_ Yk);refine SC (h₀:=X.base) I.ok.mod.kin M.kp (XD (ha pos pins s σ H _ I h) fun us s1 ⟨vs,H1,I1,r,q⟩=>⟨I1.kIn,?_⟩) he X7;exact vX M F hr hb hd hx I1 r q
theorem zco(M:Mk X.K C f)(F:X5 X.prog X.w X.K X.mg X.base CX k f fd ps sp)(hr:XA (k+1) X.A)(hg:Gl X x)(hm:X.mg x=some (.ref C))(hb:Binds X.K fd ps ds)(hd:Xv Y8 ds)(hx:iB CX X E)
  (Yk:autoParam ((x == ("__debug__" : Str))=false) u11):PE X (.Call (.Name x p) [] [] pos) (zk C sp Y8 E sX):=by
 intro pins s σ H Q I h;refine Q2 (nG I hg hm ?_ Yk);exact UR I.kIn M.kp (vX (us:=[]) M F hr hb hd hx I .nil h)
end
structure XQ(N P:List Str)(sc:Qg):Prop where
 kind:sc.kind=.function
 co:sc.isCoroutine=false
 gen:sc.isGenerator=false
 nd:N.Nodup
 pre:N.take P.length=P
 par:∀x∈P,sc.names.lookup x=some .local\/sc.names.lookup x=some .cell
 nofree:∀y∈sc.names,y.2≠.free
theorem vH{TC:Str->Option QK}:∀{binds:List (Str×Oc)}{m:Str->Option Oc},(∀v,(x,v)∉binds)->WV TC binds m x=m x
 |[],_,_=>rfl
 |(n,v)::r,m,h=>by
  unfold WV;rw[vH fun w hw=>h w (Of _ hw)];split
  .grind
  .rfl
theorem vJ{TC:Str->Option QK}:∀{binds:List (Str×Oc)}{m:Str->Option Oc},(∀v,(x,v)∉binds)->WW TC binds m x=m x
 |[],_,_=>rfl
 |(n,v)::r,m,h=>by
  unfold WW;rw[vJ fun w hw=>h w (Of _ hw)];split
  .rfl
  .grind
theorem vI{TC:Str->Option QK}:∀{P:List Str}{vs:List Oc}{i:Nat}{m:Str->Option Oc},P.Nodup->P[i]? = some x->vs[i]? = some v->TC x=some .local ->
  WV TC (P.zip vs) m x=some v
 |[],_,_,_,_,h,_,_=>by simp at h
 |_::_,[],_,_,_,_,h,_=>by simp at h
 |p::P,w::vs,0,m,nd,h1,h2,hk=>by
  simp at h1 h2;subst h1;subst h2;show WV _ (_::P.zip vs) m p=_;unfold WV;rw[vH fun v hv=>(Q6.mp nd).1 (Uc hv).1,if_pos hk];simp
 |p::P,w::vs,i+1,m,nd,h1,h2,hk=>by
  unfold WV;exact vI  (Q6.mp nd).2 (by simpa using h1) (by simpa using h2) hk
theorem vK{TC:Str->Option QK}:∀{P:List Str}{vs:List Oc}{i:Nat}{m:Str->Option Oc},P.Nodup->P[i]? = some x->vs[i]? = some v->TC x≠some .local ->
  WW TC (P.zip vs) m x=some v
 |[],_,_,_,_,h,_,_=>by simp at h
 |_::_,[],_,_,_,_,h,_=>by simp at h
 |p::P,w::vs,0,m,nd,h1,h2,hk=>by
  simp at h1 h2;subst h1;subst h2;show WW _ (_::P.zip vs) m p=_;unfold WW;rw[vJ fun v hv=>(Q6.mp nd).1 (Uc hv).1,if_neg hk];simp
 |p::P,w::vs,i+1,m,nd,h1,h2,hk=>by
  unfold WW;exact vK  (Q6.mp nd).2 (by simpa using h1) (by simpa using h2) hk
noncomputable def start(N:List Str)(vs:List V):St:=vs.map some++Ov (N.length-vs.length) none
noncomputable def dY(CX:Fp)(P:Oz)(w:OO)(K:Frag)(mg:Str->Option Oc)(base:Heap)(N:List Str)(qual:Str)(scope:Qg)(f:Addr)(cd:Oc)(A:O0)(outer:List Env)(s:Oi)(H:Hp)(E:XK):Cx where
 prog:=P
 w:=w
 K:=K
 mg:=mg
 base:=base
 A:=A.deeper (RK qual scope s.heap.objs.size f cd)
 N:=N
 s₀:=s
 H₀:=H
 env:=RK qual scope s.heap.objs.size f cd
 outer:=outer
 stack:=RK qual scope s.heap.objs.size f cd::outer
 ex:=[]
 calm:=true
 fn:=fun _=>true
 pn:=[]
 xe:=fun e s'=>OG (OJ P w) (A.deeper (RK qual scope s.heap.objs.size f cd)) (leaving (RK qual scope s.heap.objs.size f cd) e) (fun _ Iw=>CX outer H s E e Iw) (fun e' Iw=>CX outer H s E e' Iw) s'
theorem wU{sc:Qg}{n:Nat}{x:Str}(h:sc.names.lookup x=some .cell):∃c,(WX n sc.names []).lookup x=some c:=by
 have q:=TF _ n [] (.inl h);exact Rn.mp q
theorem zcp{CX:Fp}{P:Oz}{w:OO}{K:Frag}{mg:Str->Option Oc}{base:Heap}{N ps:List Str}{qual:Str}{scope:Qg}{f:Addr}{cd:Oc}{A:O0}{outer:List Env}{s s1:Oi}{H:Hp}{E:XK}{us:List Oc}{vs:List V}
  (S:XQ N ps scope) (hd:A.handled=none) (e0:Cu P w K mg base A outer s H) (hl:vs.length=ps.length) (r:Xv vs us)
  (x:InCallC s s.heap.objs.size (WV (RK qual scope s.heap.objs.size f cd).kindOf (ps.zip us) fun _=>none) (WX (s.heap.objs.size+1) scope.names []) (WW (RK qual scope s.heap.objs.size f cd).kindOf (ps.zip us) fun _=>none) s1) :
  Inv (dY CX P w K mg base N qual scope f cd A outer s H E) [] (start N vs) H s1:=by
 have X7:ps.length<=N.length:=by have:=congrArg VW S.pre;rw[QA] at this;lia
 obtain⟨h1,tk,rfl,hk⟩:=x.done;have CU:∀b:Addr,b∉(dY CX P w K mg base N qual scope f cd A outer s H E).ex:=fun b z=>absurd (show b∈([]:List Addr) from z) (by simp)
 refine⟨⟨e0.mod,S.kind,rfl,rfl,Oo _,fun y z c h1 h2=>?_,fun y hy=>?_,fun y c _ h=>?_,fun _=>hd,Around.frames_deeper e0.frames,.inr ⟨rfl,rfl⟩,fun b z=>absurd z (CU b),e0.bs,e0.bsz,fun b _ _=>CU b,fun b z=>absurd z (CU b),e0.funs,e0.frf⟩,
  rfl,e0.bare,Un.kept hk,⟨_,x.toInCall.ns,fun i y v h1 h2 h3=>?_⟩,fun y c h=>⟨_,x.cell y c h⟩,e0.hok.fresh (Oo _),fun y c h=>?_,fun p hp=>absurd (show p∈([]:List (Addr×Obj)) from hp) (by simp),e0.hok.kept hk,?_⟩
 .exact name_of_addr x.apart (QT h1) (QT h2)
 .rcases hy with hy|hy
  .exact wU hy
  .exact absurd rfl (S.nofree _ (QT hy))
 .exact Tw (x.above y c (QT h))
 .have hi:i<vs.length:=by
   unfold start at h2
   by_cases hi:i<vs.length
   .exact hi
   .rw[O6 (by simpa using hi)] at h2
    rw[List.getElem?_replicate] at h2
    split at h2 <;> cases h2
  have ha:vs[i]? = some v:=by
   unfold start at h2
   rw[Os (by simpa using hi),O7] at h2<;>grind
  obtain⟨u,hu,rv⟩:=r.get ha
  have hp:ps[i]? = some y:=by
   rw[←S.pre,Ro (by lia)];exact h1
  have Bd:ps.Nodup:=by rw[←S.pre];exact S.nd.sublist (Vh _ _)
  refine⟨u,rv,?_⟩
  rcases S.par y (OA hp) with k|k
  .exact .inl ⟨k,vI Bd hp hu k⟩
  .obtain⟨c,e⟩:=wU (n:=s.heap.objs.size+1) k
   refine .inr ⟨.inl k,c,e,?_⟩;have q:=x.cell y c e;rw[vK Bd hp hu (by show scope.names.lookup y≠_;rw[k];decide)] at q;exact q
 .exact e0.hok.fresh (Tw (x.above y c (QT h)))
 .unfold start
  show _=N.length;rw[Pj,OW,List.length_replicate]
  lia
theorem zcq{CX:Fp}{P:Oz}{w:OO}{K:Frag}{mg:Str->Option Oc}{base:Heap}{k:Nat}{f:Addr}{name qual:Str}{params:Arguments}{body:List Stmt}{scope:Qg}{dV kV doc pm XS ct oc:Oc}{an od:Option Addr}
  {osl:Array (Option Oc)}{N ps:List Str}{sp:Sp} (lk:K.lookup f=some ⟨oc,od,.func (Pa name qual params body scope dV kV doc pm an XS ct),osl⟩) (hcd:QW K XS qual=true) (S:XQ N ps scope)
  (len:∀vs H Q E,sp vs H Q E->vs.length=ps.length)
  (Yb:∀(A:O0) (outer:List Env) (s:Oi) (H:Hp) (vs:List V) (Q:VK) (E:XK),XA k (A.deeper (RK qual scope s.heap.objs.size f XS))->sp vs H Q E ->
   ∃t,Zy (dY CX P w K mg base N qual scope f XS A outer s H E) body t/\t { nx:=fun _ H'=>Q .non H',rt:=Q } (start N vs) H) :
  X5 P w K mg base CX (k+1) f (Pa name qual params body scope dV kV doc pm an XS ct) ps sp:=by
 refine⟨len,fun A outer s H args us vs Q E hr e0 hb r G7=>?_⟩;have hl:=len _ _ _ _ G7;have KX:=e0.mod.kin.keeps fun b o e=>(e0.bs b o e).1;have lim:=e0.mod.nolimit.keeps fun b o e=>(e0.bs b o e).1
 have Ca:∀y∈ps.zip us,scope.names.lookup y.1=some .local\/(scope.names.lookup y.1=some .cell/\((WX (s.heap.objs.size+1) _ []).lookup y.1).isSome=true):=fun⟨n,v⟩ hy=>by
  rcases S.par n (Uc hy).1 with q|q
  .exact .inl q
  .exact .inr ⟨q,TF _ _ _ (.inl q)⟩
 refine codeAny_call_function hr.depth (KX _ _ lk) rfl S.co S.gen rfl (PySem.W.codeRec_of KX hcd) (hb _ _ _ _ ?_);refine wpAny_newFunctionEnv_cells S.kind Ca fun env he s1 x=>?_;subst he;refine⟨lim.keeps x.toInCall.keep,codeAny_func ?_⟩;obtain⟨t,ht,hq⟩:=Yb A _ s H vs Q E (hr.deeper _) G7;have I:Inv (dY CX P w K mg base N qual _ f XS A _ s H E) [] _ H s1:=zcp S hr.hd e0 hl r x;refine Pw (ht [] s1 _ H _ I hq) (fun fl s' hs=>?_) fun e s' hs=>hs
 have fin:∀{σ':St}{H':Hp}{v:V}{u:Oc},Inv (dY CX P w K mg base N qual scope f XS A outer s H E) [] σ' H' s'->RelV v u->Q v H'->CE _ P w H s Q u s':=
  fun {σ' H' v u} J rv q=>⟨v,H',J.os,J.bare,J.base,J.hok,rv,q⟩
 cases fl with
 |ret u=>
  obtain⟨v,σ',H',J,rv,q⟩:=hs;exact fin J rv q
 |next=>
  obtain⟨σ',H',J,q⟩:=hs;exact fin (v:=V.non)  J rfl q
 |brk=>
  obtain⟨_,_,_,q⟩:=hs<;>simp_all
 |cont=>
  obtain⟨_,_,_,q⟩:=hs<;>simp_all
section
variable {X:Cx}{x:Str}{p pos:Pos}{e:Expr}{es:List Expr}{t:TA}{id T:String}{r:List V->Hp->VK->Prop}
noncomputable def B7(r:List V->Hp->VK->Prop)(t:TA):TE:=fun σ H Q=>t σ H fun vs H1=>r vs H1 Q
theorem wg(hc:XW X (.builtin id) r)(hg:Gl X x)(hm:X.mg x=none)(hv:Qw x=some (.builtin id))(ha:PA X (e::es) t)(hn:autoParam (x≠"__name__") u11)(Yk:autoParam ((x == ("__debug__" : Str))=false) u11)
  (he:autoParam (Ol (e::es) X.env=(false,eval e X.env)::Ol es X.env) u10) (X7:autoParam ((Pe pos (Ol es X.env)).any (·.1)=false) u10):PE X (.Call (.Name x p) (e::es) [] pos) (B7 r t):=by
 intro pins s σ H Q I h;refine Q2 (lP I hg hm hv ?_ hn Yk);exact VG (XD (ha pos pins s σ H _ I h) fun us s1 ⟨vs,H1,I1,r1,q1⟩=>hc pins s1 σ H1 vs us Q I1 r1 q1) he X7
theorem uZ(hc:XW X (.type T) r)(hg:Gl X x)(hm:X.mg x=none)(hv:Qw x=some (.type T))(ha:PA X (e::es) t)(hn:autoParam (x≠"__name__") u11)(Yk:autoParam ((x == ("__debug__" : Str))=false) u11)
  (he:autoParam (Ol (e::es) X.env=(false,eval e X.env)::Ol es X.env) u10) (X7:autoParam ((Pe pos (Ol es X.env)).any (·.1)=false) u10):PE X (.Call (.Name x p) (e::es) [] pos) (B7 r t):=by
 intro pins s σ H Q I h;refine Q2 (lP I hg hm hv ?_ hn Yk);exact Rc (XD (ha pos pins s σ H _ I h) fun us s1 ⟨vs,H1,I1,r1,q1⟩=>hc pins s1 σ H1 vs us Q I1 r1 q1) he X7
end
end L2
namespace HT
open PySem PyProof.Rows
section
variable {prog:Oz}{w:OO}{A:O0}{E:Oc->Oi->Prop}{s:Oi}
theorem zcr(ht:Wb s.heap t vs.toArray)(hb:Wb s.heap b ws.toArray)(hv:vs≠[])
  (h1:ws=[]->Q (.ref t) s) (h2:ws≠[]->Q (.ref s.heap.objs.size) { s with heap:=s.heap.push { cls:=.type "tuple",data:=.seq (vs++ws).toArray } })
  (hsz:vs.length+ws.length<=Om):OG (OJ prog w) A (PJ .Add (.ref t) (.ref b)) Q E s:=by
 obtain⟨⟨cls,dd,data,sl⟩,ho,hc,n,hd⟩:=id ht;obtain⟨⟨Ic,Fb,data2,Fk⟩,BY,XC,n2,hd2⟩:=id hb;subst hc hd XC hd2
 have e:vs.toArray++ws.toArray=(vs++ws).toArray:=by simp
 by_cases hw:ws=[]
 .exact TH ⟨_,ho,rfl⟩ ⟨_,BY,rfl⟩ Tc UV RL RD (Rp _ _)
   (tuple_addW1 t b _ _ n n2 dd Fb sl Fk (by simpa using hv) (by simp[hw])) ⟨ho,BY,h1 hw⟩
 .refine TH ⟨_,ho,rfl⟩ ⟨_,BY,rfl⟩ Tc UV RL RD (Rp _ _)
   (tuple_addW2 t b _ _ n n2 dd Fb sl Fk (by simpa using hv) (by simp_all) (by omega)) ⟨ho,BY,?_⟩
  rw[e];exact h2 hw
noncomputable def XT(n d:Nat):Option Int->Nat
 |none=>d
 |some v=>if v<0 then (v+(n:Int)).toNat else min v.toNat n
theorem vW(n d:Nat):XT n d none=d:=rfl
theorem xj(n d k:Nat):XT n d (some (k:Int))=min k n :=rfl
theorem zcs(n d:Nat)(hd:d<=n)(o:Option Int):XT n d o<=n:=by
 cases o with
 |none=>exact hd
 |some v=>
  show (if v<0 then (v+_).toNat else min _ n)<=n<;>grind
theorem ya(v:Int)(n d:Nat):(if v<0 then max (v+(n:Int)) 0 else min v (n:Int))=((XT n d (some v):Nat):Int):=by show _=(((if v<0 then (v+_).toNat else min _ n):Nat):Int)<;>grind
theorem zct(lo hi:Option Int)(n:Nat):Wz lo hi 1 (n:Int)=(((XT n 0 lo:Nat):Int),((XT n n hi:Nat):Int)):=by
 have h1:¬((1:Int)<0):=by lia
 refine Prod.ext ?_ ?_
 .cases lo with
  |none=>rfl
  |some v=>exact ya v n 0
 .cases hi with
  |none=>rfl
  |some v=>exact ya v n n
theorem zcu(i j:Nat):SQ (i:Int) (j:Int) 1=j-i:=by unfold SQ<;>grind
theorem t6(p:TJ v o)(h:Q o s):OG (OJ prog w) A (V0 v) Q E s:=by
 cases p with
 |none=>exact slicePart_none h
 |int i t=>exact slicePart_int h
theorem tI{sl:Addr}{vl vu:Oc}{lo hi:Option Int}{n:Nat}{Q:Int×Int×Nat->Oi->Prop}(hs:s.heap.IsSliceOf sl vl vu .none)(pl:TJ vl lo)(pu:TJ vu hi)
  (h:Q (((XT n 0 lo:Nat):Int),1,XT n n hi-XT n 0 lo) s):OG (OJ prog w) A (Wi (.ref sl) (pure (n:Int))) Q E s:=by
 obtain⟨os,E6,Bp,DV⟩:=id hs;refine Oe (Oe (RE E6 DV (x:=vl) rfl (Oe (RE E6 DV (x:=vu) rfl (Oe (RE E6 DV  rfl (Ot ?_)))))));refine Oe (slicePart_none ?_);refine Oe (t6 pl (Oe (t6 pu (Oe (Ot ?_)))))
 simp_all
 rw[zct lo hi n];rw[zcu];exact Ot h
theorem zcv(xs:Array Oc)(i k:Nat):((QN k).filterMap fun(m:Nat)=>xs[((i:Int)+(m:Int)*1).toNat]?).toArray=((xs.toList.drop i).take k).toArray:=by
 have e:(fun(m:Nat)=>xs[((i:Int)+(m)*1).toNat]?)=fun m=>xs[i+m]?:=by grind
 rw[e];have:=pick_run xs i k
 have e2:(_ ∘ fun x=>i+x)=fun m=>xs[i+m]?:=rfl<;>simp_all
theorem zcw{t sl:Addr}{items:Array Oc}{vl vu:Oc}{lo hi:Option Int}{Q:Oc->Oi->Prop}(ht:Wb s.heap t items)(hs:s.heap.IsSliceOf sl vl vu .none)(pl:TJ vl lo)(pu:TJ vu hi)
  (hw:¬(XT items.size 0 lo=0/\XT items.size items.size hi=items.size))
  (h:Q (.ref s.heap.objs.size) { s with heap:=s.heap.push { cls:=.type "tuple",data:=.seq ((items.toList.drop (XT items.size 0 lo)).take (XT items.size items.size hi-XT items.size 0 lo)).toArray } })
  (hsz:items.size<=Om):OG (OJ prog w) A (R3 (.ref t) (.ref sl)) Q E s:=by
 have EC:sizeOk (.seq ((items.toList.drop (XT items.size 0 lo)).take (XT items.size items.size hi-XT items.size 0 lo)).toArray):=by
  show ((items.toList.drop (XT items.size 0 lo)).take (XT items.size items.size hi-XT items.size 0 lo)).toArray.size<=Om;rw[Pg,QA,QB,QU];omega
 have hj:XT items.size items.size hi<=items.size:=zcs _ _ (Oo _) hi;obtain⟨os,E6,Bp,DV⟩:=id hs;have Ij:s.TypeIs (.ref sl) "slice":=⟨os,E6,Bp⟩;unfold R3
 try with_reducible refine UW ?_
 first|refine Oe (Ot ?_)|skip
 refine Oe (Vi ht.typeIs (rfl) ?_)
 refine Oe (PZ (name:=Ob "__getitem__") ht.typeIs Pl
  (Qf Pl ht.typeIs US ?_ (U5 _ _)))
 show OG _ _ (Rf (.ref t) >>= _) _ _ s;refine Oe (UX ht ?_);refine Oe (Vj Ij ?_);rw[if_pos (by rfl)];refine Oe (tI hs pl pu ?_)
 have BA:¬((((XT items.size 0 lo:Nat):Int) == 0&&(1:Int) == 1&&(XT items.size items.size hi-XT items.size 0 lo) == items.size)=true):=by simp_all
 show OG _ _ (if (((XT items.size 0 lo:Nat):Int) == 0&&(1:Int) == 1&&(XT items.size items.size hi-XT items.size 0 lo) == items.size)=true then _ else _) _ _ s;rw[if_neg BA,zcv]
 first
  |exact Oe (m:=Qj _) (Pd (Ot ⟨_,rfl,Ot h⟩) EC)
  |grind
  |exact Oe (Oe (m:=Qj _) (Pd (Ot (Ot ⟨_,rfl,Ot h⟩)) EC))
  |exact Oe (Oe (m:=Qj _) (Pd (Ot ⟨_,rfl,Ot h⟩) EC))
end
end HT
namespace L2
abbrev TO:=St->Hp->(Option Int->Hp->Prop)->Prop
def PO(X:Cx)(e:Option Expr)(t:TO):Prop:=
 ∀(pins:List (Addr×Obj)) (s:Oi) (σ:St) (H:Hp) (Q:Option Int->Hp->Prop),Inv X pins σ H s->t σ H Q ->
  OG (OJ X.prog X.w) X.A (evalPart e X.env) (fun u s'=>∃o H',Inv X pins σ H' s'/\TJ u o/\Q o H') X.xe s
noncomputable def ET:TO:=fun _ H Q=>Q none H
noncomputable def IU(t:TE):TO:=fun σ H Q=>t σ H fun x H1=>∃i,x=.int i/\Q (some i) H1
section
variable {X:Cx}{e:Expr}{te:TE}{lo hi:Option Expr}{tl th:TO}{pos p2:Pos}
theorem zcx:PO X none ET:=by
 intro pins s σ H Q I h;exact Ot ⟨none,H,I,.none,h⟩
theorem zcy(h:PE X e te):PO X (some e) (IU te):=by
 intro pins s σ H Q I hw;refine XD (h pins s σ H _ I hw) fun u s1 ⟨x,H1,I1,r1,q1⟩=>?_;obtain⟨i,rfl,q⟩:=q1;obtain⟨t,rfl⟩:=r1;exact⟨some i,H1,I1,.int i t,q⟩
def Ia(X:Cx)(r:V->Option Int->Option Int->Hp->VK->Prop):Prop:=
 ∀(pins:List (Addr×Obj)) (s:Oi) (σ:St) (H:Hp) (x:V) (v vl vu:Oc) (lo hi:Option Int) (sl:Addr) (Q:VK),Inv X pins σ H s->RelV x v->s.heap.IsSliceOf sl vl vu .none->TJ vl lo->TJ vu hi->r x lo hi H Q ->
  ∃T id,typeLookup (.type T) "__getitem__"=pure (some (.builtin id))/\s.TypeIs v T/\OG (OJ X.prog X.w) X.A (R3 v (.ref sl)) (EP X pins σ Q) X.xe s
theorem Ia.or(h:Ia X r)(h':Ia X r'):Ia X (fun x lo hi H Q=>r x lo hi H Q\/r' x lo hi H Q):=by
 intro pins s σ H x v vl vu lo hi sl Q I rx hs pl pu q
 rcases q with q|q
 .exact h pins s σ H x v vl vu lo hi sl Q I rx hs pl pu q
 .exact h' pins s σ H x v vl vu lo hi sl Q I rx hs pl pu q
noncomputable def tSl(r:V->Option Int->Option Int->Hp->VK->Prop)(te:TE)(tl th:TO):TE:=fun σ H Q=>te σ H fun x H1=>tl σ H1 fun l H2=>th σ H2 fun u H3=>r x l u H3 Q
theorem zcz(hr:Ia X r)(he:PE X e te)(hl:PO X lo tl)(hu:PO X hi th):PE X (.Subscript e (.Slice lo hi none p2) pos) (tSl r te tl th):=by
 intro pins s σ H Q I h;refine Wj (XD (he pins s σ H _ I h) fun v s1 ⟨x,H1,I1,r1,q1⟩=>?_);refine wpAny_Slice (XD (hl pins s1 σ H1 _ I1 q1) fun vl s2 ⟨l,H2,I2,pl,q2⟩=>XD (hu pins s2 σ H2 _ I2 q2) fun vu s3 ⟨u,H3,I3,pu,q3⟩=>?_);refine Ot ?_;have I4:Inv X pins σ H3 { s3 with heap:=s3.heap.push { cls:=.type "slice",data:=.fields #[vl,vu,.none] } }:=I3.kept  fun b ob q=>Og _ q;obtain⟨T,id,hT,ht,hg⟩:=hr pins { s3 with heap:=s3.heap.push { cls:=.type "slice",data:=.fields #[vl,vu,.none] } } σ H3 x v vl vu l u _ Q I4 r1 (Xj ..) pl pu q3;exact tail_any  ht hT hg (rfl)
noncomputable def jw(xs:List V)(lo hi:Option Int):List V:=(xs.drop (HT.XT xs.length 0 lo)).take (HT.XT xs.length xs.length hi-HT.XT xs.length 0 lo)
theorem tV(xs:List V)(lo hi:Option Int):(jw xs lo hi).length<=xs.length:=by
 unfold jw
 simp_all
 lia
def KB(K:Frag):V->Option Int->Option Int->Hp->VK->Prop:=fun x lo hi H Q=>∃a xs,x=.ref a/\Yn K H a xs /\
 ¬(HT.XT xs.length 0 lo=0/\HT.XT xs.length xs.length hi=xs.length)/\∀p,H p=none->Q (.ref p) (upd H p (.tup (jw xs lo hi)))
theorem zda:Ia X (KB X.K):=by
 intro pins s σ H x v vl vu lo hi sl Q I rx hs pl pu h;obtain⟨a,xs,rfl,hx,hw,q⟩:=h;cases rx;obtain⟨Xr,r,ht,hz⟩:=I.tuple hx
 have XI:Xr.toArray.size=xs.length:=by exact r.length.symm
 refine⟨"tuple",_,Pl.lookup,ht.typeIs,?_⟩;refine HT.zcw ht hs pl pu (by rw[XI];exact hw) ?_ (by rw[XI];exact hz);rw[XI];refine⟨.ref _,_,I.laid   (fun b ob q=>Og _ q) (Oo _) ?_,rfl,q _ (I.hok.fresh (Oo _))⟩;exact⟨OC (tV xs lo hi) hz,_,(r.drop _).take _,UQ _ _⟩
noncomputable def Jl(K:Frag):R2:=fun x y H Q=>∃a b xs ys,x=.ref a/\y=.ref b/\Yn K H a xs/\Yn K H b ys/\xs≠[]/\xs.length+ys.length<=Om /\
 (ys=[]->Q (.ref a) H)/\(ys≠[]->∀p,H p=none->Q (.ref p) (upd H p (.tup (xs++ys))))
theorem Xv.nil_iff(r:Xv xs us):us=[]↔xs=[]:=by cases r <;>simp_all
theorem zdb:Yc X (PJ .Add) (Jl X.K):=by
 intro pins s σ H x y v u Q I rx ry h;obtain⟨a,b,xs,ys,rfl,rfl,ha,hb,hx,hz,q1,q2⟩:=h;cases rx;cases ry;obtain⟨Xr,r1,p1,_⟩:=I.tuple ha;obtain⟨Zo,r2,p2,_⟩:=I.tuple hb;refine HT.zcr p1 p2 (fun z=>hx (r1.nil_iff.mp z)) (fun z=>⟨.ref a,H,I,rfl,q1 (r2.nil_iff.mp z)⟩) (fun z=>?_) (by rw[←r1.length,←r2.length];exact hz);refine⟨.ref _,_,I.laid   (fun b ob q=>Og _ q) (Oo _) ?_,rfl,q2 (fun w=>z (r2.nil_iff.mpr w)) _ (I.hok.fresh (Oo _))⟩;exact⟨by simp_all,_,r1.append r2,UQ _ _⟩
end
noncomputable def Hs(n:Nat)(i:Int):Option Nat:=if 0<=i then (if i<n then some i.toNat else none) else if -(n:Int)<=i then some (i+n).toNat else none
noncomputable def XR{α:Type}(xs:List α)(i:Int):Option α:=(Hs xs.length i).bind fun j=>xs[j]?
theorem zdc{n:Nat}{i:Int}{j:Nat}(h:Hs n i=some j):VH i n=some j/\j<n/\-(n:Int)<=i/\i<n:=by
 unfold Hs at h
 by_cases h0:0<=i
 .rw[if_pos h0] at h
  by_cases h1:i<n
  .rw[if_pos h1] at h
   have e:=Qv h;exact⟨by rw[seqIndex_of h0 h1,e],by lia,by lia,h1⟩
  .simp_all
 .rw[if_neg h0] at h
  by_cases h1 : -(n)<=i
  .rw[if_pos h1] at h
   have e:=Qv h;exact⟨by rw[seqIndex_neg (by lia) h1,e],by lia,h1,by lia⟩
  .simp_all
theorem rB{α:Type}{xs:List α}{i:Int}{v:α}(h:XR xs i=some v):∃j,VH i xs.length=some j/\xs[j]? = some v/\j<xs.length/\-(xs.length:Int)<=i/\i<xs.length:=by
 unfold XR at h
 cases e:Hs xs.length i with
 |none=>simp_all
 |some j=>
  rw[e] at h;obtain⟨h1,h2,h3,h4⟩:=zdc e;exact⟨j,h1,h,h2,h3,h4⟩
theorem eV{α:Type}{xs:List α}{j:Nat}{v:α}(h:xs[j]? = some v):XR xs (j:Int)=some v:=by
 have hj:=(Od.mp h).1
 have e:Hs xs.length (j)=some j:=by
  unfold Hs<;>simp_all
 unfold XR;rw[e];exact h
def nR(b:Expr):Prop:=∀o i,Uy b false o i=operate [o,i] (R3 o i)
def Jt(X:Cx)(r:R2):Prop:=
 ∀(value slice:Expr) (pins:List (Addr×Obj)) (s:Oi) (σ:St) (H:Hp) (x y:V) (v u:Oc) (Q:VK),Inv X pins σ H s->RelV x v->RelV y u->r x y H Q ->
  Uy slice false v u=operate [v,u] (R3 v u)->OG (OJ X.prog X.w) X.A (subscriptTail value slice v u) (EP X pins σ Q) X.xe s
def Dl(X:Cx)(id:String)(r:V->List V->Hp->VK->Prop):Prop:=
 ∀(pins:List (Addr×Obj)) (s:Oi) (σ:St) (H:Hp) (x:V) (xs:List V) (v:Oc) (us:List Oc) (Q:VK),Inv X pins σ H s->RelV x v->Xv xs us->r x xs H Q ->
  OG (OJ X.prog X.w) X.A (call (.builtin id) (v::us)) (EP X pins σ Q) X.xe s
section
variable {X:Cx}{a b:Expr}{ta tb:TE}{pos:Pos}
theorem Jt.or(h:Jt X r)(h':Jt X r'):Jt X (fun x y H Q=>r x y H Q\/r' x y H Q):=by
 intro value slice pins s σ H x y v u Q I rx ry q hs
 rcases q with q|q
 .exact h _ _ pins s σ H x y v u Q I rx ry q hs
 .exact h' _ _ pins s σ H x y v u Q I rx ry q hs
theorem Dl.or{id:String}{r r':V->List V->Hp->VK->Prop}(h:Dl X id r)(h':Dl X id r'):Dl X id (fun x xs H Q=>r x xs H Q\/r' x xs H Q):=by
 intro pins s σ H x xs v us Q I rx rs q
 rcases q with q|q
 .exact h pins s σ H x xs v us Q I rx rs q
 .exact h' pins s σ H x xs v us Q I rx rs q
theorem sI(hr:Jt X r)(ha:PE X a ta)(hb:PE X b tb)(hs:nR b):PE X (.Subscript a b pos) (DK r ta tb):=by
 intro pins s σ H Q I h;exact Wj (tw ha hb I h fun v u s2 x y H2 I2 rx ry q=>hr a b pins s2 σ H2 x y v u Q I2 rx ry q (hs _ _))
noncomputable def z9(K:Frag):R2:=fun x y H Q=>∃p xs i v,x=.ref p/\y=.int i/\Ye K H p xs/\XR xs i=some v/\Q v H
noncomputable def z7(K:Frag):R2:=fun x y H Q=>∃p xs i v,x=.ref p/\y=.int i/\Yn K H p xs/\XR xs i=some v/\Q v H
noncomputable def z8:R2:=fun x y H Q=>∃z i c,x=.str z/\y=.int i/\z.length<=Om/\XR z.cps.toList i=some c/\Q (.str ⟨#[c]⟩) H
theorem Fw:Jt X (z9 X.K):=by
 intro value slice pins s σ H x y v u Q I rx ry h hs;obtain⟨p,xs,i,z,rfl,rfl,hq,he,q⟩:=h;cases rx;obtain⟨t,rfl⟩:=ry;obtain⟨Xr,r,pl,hz⟩:=I.list hq;obtain⟨j,h1,h2,h3,h4,h5⟩:=rB he;obtain⟨w,ew,YA⟩:=r.get h2;have hl:=r.length;have hn:=j8;have fin:EP X pins σ Q w s:=⟨z,H,I,YA,q⟩
 by_cases h0:0<=i
 .have hj:i.toNat=j:=by
   rw[seqIndex_of h0 h5] at h1<;>simp_all
  exact item_listR pl.isList h0 (by lia) (by rw[hj];simpa using ew) fin hs
 .have hj:(i+(Xr.toArray.size)).toNat=j:=by
   rw[seqIndex_neg (by lia) h4] at h1<;>simp_all
  exact TL  pl.isList.typeIs Vk.lookup
   (wpAny_getItem_list_neg  pl.isList (by lia) (by grind) (by lia) (by rw[hj];simpa using ew) ⟨rfl,fin⟩) hs
theorem FH:Jt X (z7 X.K):=by
 intro value slice pins s σ H x y v u Q I rx ry h hs;obtain⟨p,xs,i,z,rfl,rfl,hq,he,q⟩:=h;cases rx;obtain⟨t,rfl⟩:=ry;obtain⟨Xr,r,pl,hz⟩:=I.tuple hq;obtain⟨j,h1,h2,h3,h4,h5⟩:=rB he;obtain⟨w,ew,YA⟩:=r.get h2;have hl:=r.length;have hn:=j8;have fin:EP X pins σ Q w s:=⟨z,H,I,YA,q⟩
 exact TL  pl.typeIs slot_tuple_getitem.lookup
  (getItem_tuple (j:=j)  pl (by lia) (by lia) (by simp_all) (by simpa using ew) ⟨rfl,fin⟩) hs
theorem zdd:Jt X z8:=by
 intro value slice pins s σ H x y v u Q I rx ry h hs;obtain⟨z,i,c,rfl,rfl,hz,he,q⟩:=h;obtain⟨t,rfl⟩:=rx;obtain⟨t',rfl⟩:=ry;obtain⟨j,h1,h2,h3,h4,h5⟩:=rB he;have hl:z.cps.toList.length=z.length:=rfl;rw[hl] at h1 h4 h5;have hn:=j8;exact tail_any (RY s z t) slot_str_getitem.lookup (getItem_str (c:=c) (by lia) (by rw[h1];simpa using h2) ⟨.str ⟨#[c]⟩,H,I.tok _,⟨_,rfl⟩,q⟩) hs
noncomputable def rIx(K:Frag):R2:=fun x y H Q=>z9 K x y H Q\/z7 K x y H Q\/z8 x y H Q
theorem zde:Jt X (rIx X.K):=Fw.or (FH.or zdd)
theorem zdf(lo hi:Option Int)(n:Nat):(RF lo hi none n).1=((HT.XT n 0 lo:Nat):Int)/\(RF lo hi none n).2.1=((HT.XT n n hi:Nat):Int)/\(RF lo hi none n).2.2=1:=by
 refine⟨?_,?_,rfl⟩
 .cases lo with
  |none=>simp[RF,HT.XT]
  |some i=>
   simp only[RF,HT.XT,Td,show (1:Int)>0 by decide,if_true]
   by_cases h:i<0
   .simp only[h,if_true] <;> lia
   .simp only[h,if_false] <;> lia
 .cases hi with
  |none=>simp[RF,HT.XT]
  |some i=>
   simp only[RF,HT.XT,Td,show (1:Int)>0 by decide,if_true]
   by_cases h:i<0
   .simp only[h,if_true] <;> lia
   .simp only[h,if_false] <;> lia
theorem zdg(Xr:List Oc)(lo hi:Option Int):slicePick Xr.toArray lo hi none=((Xr.drop (HT.XT Xr.length 0 lo)).take (HT.XT Xr.length Xr.length hi-HT.XT Xr.length 0 lo)).toArray:=by
 obtain⟨h1,h2,h3⟩:=zdf lo hi _;unfold slicePick;rw[h1,h2,h3]
 simp only[sliceRange_one,pick_run] <;> rfl
def KC(K:Frag):V->Option Int->Option Int->Hp->VK->Prop:=fun x lo hi H Q=>∃a xs,x=.ref a/\Ye K H a xs/\∀p,H p=none->Q (.ref p) (upd H p (.lst (jw xs lo hi)))
theorem CL:Ia X (KC X.K):=by
 intro pins s σ H x v vl vu lo hi sl Q I rx hs pl pu h;obtain⟨a,xs,rfl,hx,q⟩:=h;cases rx;obtain⟨Xr,r,ht,hz⟩:=I.list hx;have XI:=r.length;refine⟨"list",_,Vk.lookup,ht.isList.typeIs,?_⟩;refine wpAny_getItem_list_slice ht.isList hs pl pu .none (by simp) ?_ (by simp_all);rw[zdg,←XI];refine⟨.ref _,_,I.laid   (fun b ob q=>Og _ q) (Oo _) ?_,rfl,q _ (I.hok.fresh (Oo _))⟩;exact⟨OC (tV xs lo hi) hz,_,0,(r.drop _).take _,Oy _ rfl⟩
noncomputable def gk:V->Bool
 |.non=>true
 |.bl _=>true
 |.int _=>true
 |.str _=>true
 |_=>false
noncomputable def Ar:V->V->Bool
 |.non,.non=>true
 |.bl a,.bl b=>a == b
 |.bl a,.int b=>(if a then 1 else 0) == b
 |.int a,.bl b=>a == (if b then 1 else 0)
 |.int a,.int b=>a == b
 |.str a,.str b=>a == b
 |_,_=>false
theorem zdh(ry:RelV y u)(rx:RelV x v)(fy:gk y=true)(fx:gk x=true):Xk A s u v (Ar y x):=by
 cases y with
 |non=>
  cases ry
  cases x with
  |non=>cases rx;exact SeqAt.EqAt.same _
  |bl b=>cases rx;exact SeqAt.EqAt.none_bool b
  |int b=>obtain⟨t,rfl⟩:=rx;exact SeqAt.EqAt.none_int b t
  |str b=>obtain⟨t,rfl⟩:=rx;exact SeqAt.EqAt.none_str b t
  |_=>exact absurd (show false=true from fx) OB
 |bl a=>
  cases ry
  cases x with
  |non=>cases rx;exact SeqAt.EqAt.bool_none a
  |bl b=>cases rx;exact SeqAt.EqAt.bool_bool a b
  |int b=>obtain⟨t,rfl⟩:=rx;exact SeqAt.EqAt.bool_int a b t
  |str b=>obtain⟨t,rfl⟩:=rx;exact SeqAt.EqAt.bool_str a b t
  |_=>exact absurd (show false=true from fx) OB
 |int a=>
  obtain⟨t',rfl⟩:=ry
  cases x with
  |non=>cases rx;exact SeqAt.EqAt.int_none a t'
  |bl b=>cases rx;exact SeqAt.EqAt.int_bool a t' b
  |int b=>obtain⟨t,rfl⟩:=rx;exact SeqAt.EqAt.int_int a t' b t
  |str b=>obtain⟨t,rfl⟩:=rx;exact U0 a t' b t
  |_=>exact absurd (show false=true from fx) OB
 |str a=>
  obtain⟨t',rfl⟩:=ry
  cases x with
  |non=>cases rx;exact SeqAt.EqAt.str_none a t'
  |bl b=>cases rx;exact SeqAt.EqAt.str_bool a t' b
  |int b=>obtain⟨t,rfl⟩:=rx;exact U1 a t' b t
  |str b=>obtain⟨t,rfl⟩:=rx;exact SeqAt.EqAt.str_str a t' b t
  |_=>exact absurd (show false=true from fx) OB
 |_=>exact absurd (show false=true from fy) OB
noncomputable def FB(x:V)(u:Oc):Bool:=match u with
 |.none=>Ar .non x
 |.bool b=>Ar (.bl b) x
 |.int i _=>Ar (.int i) x
 |.str z _=>Ar (.str z) x
 |_=>false
theorem yU(r:RelV y u)(f:gk y=true):FB x u=Ar y x:=by
 cases y with
 |non=>cases r;rfl
 |bl b=>cases r;rfl
 |int i=>obtain⟨t,rfl⟩:=r;rfl
 |str z=>obtain⟨t,rfl⟩:=r;rfl
 |_=>exact absurd (f) OB
theorem lF:∀{xs:List V}{us:List Oc},Xv xs us->xs.all gk=true->us.any (FB x)=xs.any fun y=>Ar y x
 |_,_,.nil,_=>rfl
 |y::xs,u::us,.cons r t,f=>by
  rw[P0,Oj] at f;rw[Qz,Qz,yU r f.1,lF t f.2]
theorem k9(rx:RelV x v)(fx:gk x=true):∀{xs:List V}{us:List Oc},Xv xs us->xs.all gk=true->∀u∈us,Xk A s u v (FB x u)
 |_,_,.nil,_=>fun u hu=>by simp_all
 |y::xs,u::us,.cons r t,f=>fun u' hu=>by
  rw[P0,Oj] at f
  rcases Ox.mp hu with rfl|hu
  .rw[yU r f.1];exact zdh r rx f.1 fx
  .exact k9 rx fx t f.2 u' hu
noncomputable def IE(x:V)(xs:List V):Bool:=xs.any fun y=>Ar y x
noncomputable def Gz(K:Frag)(neg:Bool):R2:=fun x y H Q=>∃p xs,y=.ref p/\(Ye K H p xs\/Yn K H p xs)/\gk x=true/\xs.all gk=true/\Q (.bl (if neg then !IE x xs else IE x xs)) H
theorem zdi:Yc X (OQ .In) (Gz X.K false):=by
 intro pins s σ H x y v u Q I rx ry h;obtain⟨p,xs,rfl,hq,fx,fs,q⟩:=h;cases ry
 rcases hq with hq|hq
 .obtain⟨Xr,r,pl,hz⟩:=I.list hq
  refine SeqAt.in_listAt _ pl.isList (fun w hw=>k9 rx fx r fs w (by simp_all)) ⟨.bl _,H,I,rfl,?_⟩;rw[show Xr.toArray.any _=Xr.any (FB x) by simp,lF r fs];exact q
 .obtain⟨Xr,r,pl,hz⟩:=I.tuple hq
  refine VI _ pl (fun w hw=>k9 rx fx r fs w (by simp_all)) ⟨.bl _,H,I,rfl,?_⟩;rw[show Xr.toArray.any _=Xr.any (FB x) by simp,lF r fs];exact q
theorem zdj:Yc X (OQ .NotIn) (Gz X.K true):=by
 intro pins s σ H x y v u Q I rx ry h;obtain⟨p,xs,rfl,hq,fx,fs,q⟩:=h;cases ry
 rcases hq with hq|hq
 .obtain⟨Xr,r,pl,hz⟩:=I.list hq
  refine U6 _ pl.isList (fun w hw=>k9 rx fx r fs w (by simp_all)) ⟨.bl _,H,I,rfl,?_⟩;rw[show Xr.toArray.any _=Xr.any (FB x) by simp,lF r fs];exact q
 .obtain⟨Xr,r,pl,hz⟩:=I.tuple hq
  refine SeqAt.notIn_tupleAt _ pl (fun w hw=>k9 rx fx r fs w (by simp_all)) ⟨.bl _,H,I,rfl,?_⟩;rw[show Xr.toArray.any _=Xr.any (FB x) by simp,lF r fs];exact q
theorem Zt:XW X (.builtin "len") (fun xs H Q=>∃p ys,xs=[.ref p]/\(Ye X.K H p ys\/Yn X.K H p ys)/\Q (.int ys.length) H):=by
 intro pins s σ H xs us Q I r h;obtain⟨p,ys,rfl,hq,q⟩:=h;obtain⟨u,rfl,rx⟩:=vals1 r;cases rx;have hn:=j8
 rcases hq with hq|hq
 .obtain⟨Xr,r',pl,hz⟩:=I.list hq
  have XI:=r'.length;exact Calls.call_len_list pl.isList (by simp only[Pg] <;> lia) ⟨.int _,H,I.tok _,⟨s.toks+1,by simp_all⟩,q⟩
 .obtain⟨Xr,r',pl,hz⟩:=I.tuple hq
  have XI:=r'.length;exact len_tuple pl (by simp only[Pg] <;> lia) ⟨.int _,H,I.tok _,⟨s.toks+1,by simp_all⟩,q⟩
theorem Zs:XW X (.builtin "len") (fun xs H Q=>∃z,xs=[.str z]/\z.length<=Om/\Q (.int z.length) H):=by
 intro pins s σ H xs us Q I r h;obtain⟨z,rfl,hz,q⟩:=h;obtain⟨u,rfl,t,rfl⟩:=vals1 r;have hn:=j8;exact len_str (by lia) ⟨.int _,H,I.tok _,⟨_,rfl⟩,q⟩
theorem XW.or(h:XW X f r)(h':XW X f r'):XW X f (fun xs H Q=>r xs H Q\/r' xs H Q):=by
 intro pins s σ H xs us Q I rs q
 rcases q with q|q
 .exact h pins s σ H xs us Q I rs q
 .exact h' pins s σ H xs us Q I rs q
theorem zdk:XW X (.type "list") (fun xs H Q=>∃p ys,xs=[.ref p]/\(Ye X.K H p ys\/Yn X.K H p ys)/\∀l,H l=none->Q (.ref l) (upd H l (.lst ys))):=by
 intro pins s σ H xs us Q I r h;obtain⟨p,ys,rfl,hq,q⟩:=h;obtain⟨u,rfl,rx⟩:=vals1 r;cases rx
 have fin:∀(Xr:List _),Xv ys Xr->ys.length<=Om->∀(h':Heap) (c':Nat),_ ->
   h'.get? _=some { cls:=.type "list",dict:=none,data:=.seq _ c',slots:=#[] }->EP X pins σ Q _ { s with heap:=h' }:=fun Xr r' hz h' c' kp e=>
  ⟨.ref _,_,I.laid  kp (Oo _) (show XM _ X.w _ h' _ (.lst ys) from⟨hz,Xr,c',r',e⟩),rfl,q _ (I.hok.fresh (Oo _))⟩
 rcases hq with hq|hq
 .obtain⟨Xr,r',pl,hz⟩:=I.list hq
  have XI:=r'.length;obtain⟨o,ho,hc,n,hd⟩:=pl.isList;exact call_list_seq p (.inl rfl) ho hc hd (fun h' c' kp e=>fin Xr r' hz h' c' kp e) (by simp_all)
 .obtain⟨Xr,r',pl,hz⟩:=I.tuple hq
  have XI:=r'.length;obtain⟨o,ho,hc,n,hd⟩:=pl;exact call_list_seq p (.inr rfl) ho hc hd (fun h' c' kp e=>fin Xr r' hz h' c' kp e) (by simp_all)
theorem zdl:XW X (.type "tuple") (fun xs H Q=>∃p ys,xs=[.ref p]/\((Ye X.K H p ys/\∀l,H l=none->Q (.ref l) (upd H l (.tup ys)))\/(Yn X.K H p ys/\Q (.ref p) H))):=by
 intro pins s σ H xs us Q I r h;obtain⟨p,ys,rfl,h⟩:=h;obtain⟨u,rfl,rx⟩:=vals1 r;cases rx
 rcases h with⟨hq,q⟩|⟨hq,q⟩
 .obtain⟨Xr,r',pl,hz⟩:=I.list hq
  have XI:=r'.length;refine call_tuple_list pl.isList (fun h' kp=>?_) (by grind);have I1:=I.kept (t':=s.toks) kp
  have I2  :=
   I1.laid (t':=s.toks) (fun b o e=>Og _ e) (Oo _) (show XM _ X.w _ _ _ (.tup ys) from⟨hz,Xr,r',UQ _ _⟩)
  exact⟨.ref _,_,I2,rfl,q _ (I1.hok.fresh (Oo _))⟩
 .obtain⟨Xr,r',pl,hz⟩:=I.tuple hq
  exact call_tuple_same pl ⟨.ref p,H,I,rfl,q⟩
def AQ(K:Frag)(T:String)(x:V)(H:Hp):Prop:=match x with
 |.str _=>T="str"
 |.int _=>T="int"
 |.ref p=>(T="list"/\∃xs,Ye K H p xs)\/(T="tuple"/\∃o,K.lookup p=some o/\o.cls=.type "tuple"/\o.dict=none) \/
   (T="dict"/\((∃kvs,H p=some (.dK kvs))\/∃kvs,H p=some (.dT kvs)))\/(T="set"/\∃S n,H p=some (.set S n))
 |_=>False
theorem zdm(I:Inv X pins σ H s)(r:RelV x v)(ty:AQ X.K T x H) :
  s.TypeIs v T/\∀a,v=.ref a->∃ob,s.heap.get? a=some ob/\ob.dict=none:=by
 cases x with
 |str z=>
  obtain⟨t,rfl⟩:=r;cases (ty);exact⟨RY s z t,fun _ e=>nomatch e⟩
 |int i=>
  obtain⟨t,rfl⟩:=r;cases (ty);exact⟨TM s i t,fun _ e=>nomatch e⟩
 |ref p=>
  cases r
  rcases ty with⟨rfl,xs,hq⟩|⟨rfl,o,hk,hc,hd⟩|⟨rfl,hk⟩|⟨rfl,S,n,hk⟩
  .obtain⟨Xr,_,pl,_⟩:=I.list hq
   refine⟨pl.isList.typeIs,fun a e=>?_⟩;cases e;obtain⟨o,n,e,c,hd,_⟩:=pl;exact⟨o,e,hd⟩
  .refine⟨⟨o,I.kIn p o hk,hc⟩,fun a e=>?_⟩
   cases e;exact⟨o,I.kIn _ o hk,hd⟩
  .have z:∃o,s.heap.get? p=some o/\o.ExactDict:=by
    rcases hk with⟨kvs,hk⟩|⟨kvs,hk⟩
    .obtain⟨_,_,_,_,o,_,_,e,ex,_⟩:=I.hok p _ hk
     exact⟨o,e,ex⟩
    .obtain⟨_,_,_,_,o,_,_,e,ex,_⟩:=I.hok p _ hk
     exact⟨o,e,ex⟩
   obtain⟨o,e,ex⟩:=z;refine⟨⟨o,e,ex.1⟩,fun a e2=>?_⟩;cases e2;exact⟨o,e,ex.2.1⟩
  .obtain⟨o,_,_,_,e,ex,_⟩:=I.hok p _ hk
   refine⟨⟨o,e,ex.1⟩,fun a e2=>?_⟩;cases e2;exact⟨o,e,ex.2.1⟩
 |_=>exact QO ty
noncomputable def tBM(K:Frag)(T:String)(r:V->List V->Hp->VK->Prop)(to:TE)(t:TA):TE:=fun σ H Q=>to σ H fun x H1=>AQ K T x H1/\t σ H1 fun xs H2=>r x xs H2 Q
variable {o e:Expr}{es:List Expr}{to:TE}{t:TA}{name:Str}{apos Xu:Pos}{T id:String}{r:V->List V->Hp->VK->Prop}
theorem gR(pa:PlainAttrs T)(slot:Slot T name id)(Ie:typeOf (.builtin id)=pure (.type "method_descriptor"))(hm:Dl X id r)(ho:PE X o to)(ha:PA X (e::es) t)
  (XZ:autoParam (PD o name X.env (eval o X.env)=eval o X.env) u10)
  (Yl:autoParam (((Pe Xu (Ol (e::es) X.env)).all (fun x=>!x.1)&&(QJ Xu (PN [] X.env)).all (fun x=>x.1.isSome)
   && decide ((e::es).length+([]:List Qk).length+(if ([]:List Qk).isEmpty then 0 else 1)<30))=true) u10)
  (XY:autoParam ((apos.endLine == Xu.line)=true) u10) (hs:autoParam (Ol (e::es) X.env=(false,eval e X.env)::Ol es X.env) u10) (XN:autoParam ((Pe Xu (Ol es X.env)).any (·.1)=false) u10) :
  PE X (.Call (.Attribute o name apos) (e::es) [] Xu) (tBM X.K T r to t):=by
 intro pins s σ H Q I h;refine TN XZ Yl XY rfl (XD (ho pins s σ H _ I h) fun v s1 ⟨x,H1,I1,r1,ty,q1⟩=>?_);obtain⟨h1,h2⟩:=zdm I1 r1 ty;refine⟨T,id,pa,slot,Ie,h1,h2,?_⟩;have hA:=ha Xu pins s1 σ H1 _ I1 q1;rw[hs] at hA ⊢;refine TQ (by show (false||(Pe Xu _).any _)=false;rw[XN] <;> rfl) (Uz ?_);exact XD hA fun us s2 ⟨vs,H2,I2,r2,q2⟩=>hm pins s2 σ H2 x vs v us Q I2 r1 r2 q2
end
def JK(X:Cx)(id:String)(r:V->List V->Hp->VK->Prop):Prop:=
 ∀(pins:List (Addr×Obj)) (s:Oi) (σ:St) (H:Hp) (x:V) (xs:List V) (v:Oc) (us:List Oc) (Q:VK),Inv X pins σ H s->RelV x v->Xv xs us->r x xs H Q ->
  OG (OJ X.prog X.w) X.A (call (.builtin id) (v::us)) (EP X pins σ Q) X.xe s
theorem Xv.one:∀{x:V}{us:List Oc},Xv [x] us->∃u,us=[u]/\RelV x u
 |_,_,.cons r .nil=>⟨_,rfl,r⟩
theorem Xv.rep(h:Xv xs us):∀k:Nat,Xv (Ov k xs).flatten (Ov k us).flatten
 |0=>.nil
 |k+1=>by
  exact Xv.append h (Xv.rep h k)
theorem foldl_rep(Xr:List Oc):∀(k:Nat) (acc:List Oc),
  Rz (fun x1 x2=>x1++x2) acc.toArray (Ov k Xr.toArray)=(acc++(Ov k Xr).flatten).toArray
 |0,acc=>by simp
 |k+1,acc=>by
  have e:acc.toArray++Xr.toArray=(acc++Xr).toArray:=by simp
  have e2:(acc++Xr)++(Ov k Xr).flatten=acc++(Ov (k+1) Xr).flatten:=by grind
  rw[←e2,←foldl_rep Xr k _,←e,Sl,V1]
section
variable {X:Cx}{pins:List (Addr×Obj)}{σ:St}{H:Hp}{s:Oi}{l b:Addr}{xs ys zs:List V}
theorem Inv.lset{Xr its':List Oc}{f:Array Oc->Array Oc}(I:Inv X pins σ H s)(hH:H l=some (.lst xs))
  (e:s.heap.get? l=some { cls:=.type "list",data:=.seq Xr.toArray n }) (hf:f Xr.toArray=its'.toArray) (hv:Xv ys its') (hz:ys.length<=Om) :
  Inv X pins σ (upd H l (.lst ys)) { s with heap:=s.heap.update l (Obj.mapSeq f),toks:=t' }:=by
 have q:=PySem.IsL.update e f;rw[hf] at q;refine I.write   (by rw[hH];exact trivial) (.inl rfl) (fun b' u hb hu=>(Heap.get?_update_other _ _ (Qd hb)).trans hu) ⟨_,q⟩ ?_;exact⟨hz,its',_,hv,q⟩
theorem Inv.lnew(I:Inv X pins σ H s)(hv:Xv ys Xr)(hz:ys.length<=Om) :
  Inv X pins σ (upd H s.heap.objs.size (.lst ys)) { s with heap:=s.heap.push { cls:=.type "list",data:=.seq Xr.toArray },toks:=t' }:=I.laid (fun _ _ q=>Og _ q) (Oo _) ⟨hz,Xr,0,hv,Oy _ rfl⟩
theorem Inv.fresh(I:Inv X pins σ H s):H s.heap.objs.size=none:=I.hok.fresh (Oo _)
theorem Inv.lstM(I:Inv X pins σ H s)(hH:H l=some (.lst xs)):xs.length<=Om/\∃(Xr:List Oc) (n:Nat),Xv xs Xr/\xs.length=Xr.length/\s.heap.get? l=some { cls:=.type "list",data:=.seq Xr.toArray n }:=by
 obtain⟨z,Xr,n,r,e⟩:=I.hok l _ hH;exact⟨z,Xr,n,r,r.length,e⟩
theorem zdn(h:n<=Om):Pz n=false:=by
 unfold Pz;exact decide_eq_false (by lia)
def E7:V->List V->Hp->VK->Prop:=fun x vs H Q=>∃l xs y,x=.ref l/\vs=[y]/\H l=some (.lst xs)/\xs.length<Om/\Q .non (upd H l (.lst (xs++[y])))
theorem u0:JK X "list.append" E7:=by
 intro pins s σ H x vs v us Q I rx rv h;obtain⟨l,xs,y,rfl,rfl,hH,hz,q⟩:=h;cases rx;obtain⟨u,rfl,ru⟩:=rv.one;obtain⟨z,Xr,n,r,hl,e⟩:=I.lstM hH;refine QP F.slot_list_append ⟨_,e,rfl⟩ F.entry_list_append (F.args_list_append_2 _ _) (PySem.list_append l _ n u (by simp_all)) ⟨e,?_⟩
 refine⟨.non,_,I.lset  hH e (by simp) (r.append (.cons ru .nil)) ?_,rfl,q⟩<;>grind
theorem len_rep{α:Type}(xs:List α)(k:Nat):(Ov k xs).flatten.length=k*xs.length :=by simp
end
section
variable {κ:Type}[DecidableEq κ]
noncomputable def cD(kvs:List (κ×V))(k:κ):Option V:=(kvs.find? fun kv=>decide (kv.1=k)).map (·.2)
noncomputable def putK(kvs:List (κ×V))(k:κ)(v:V):List (κ×V):=if (kvs.any fun kv=>decide (kv.1=k))=true then kvs.map (fun kv=>if kv.1=k then (kv.1,v) else kv) else kvs++[(k,v)]
theorem qo{p:κ×V}(e:p.1=k):cD (p::r) k=some p.2:=by simp[cD,e]
theorem qp{p:κ×V}(e:¬p.1=k):cD (p::r) k=cD r k:=by simp[cD,e]
theorem vM(k:κ):∀kvs:List (κ×V),(kvs.any fun kv=>decide (kv.1=k))=(cD kvs k).isSome
 |[]=>rfl
 |p::r=>by
  rw[Qz]
  by_cases e:p.1=k
  .simp only[qo e,decide_eq_true e,Bool.true_or,Option.isSome_some]
  .rw[qp e,decide_eq_false e];exact vM k r
theorem pL(kvs:List (κ×V))(k:κ)(v:V):(putK kvs k v).length<=kvs.length+1:=by unfold putK<;>grind
theorem Yt.isSome_eq(r:Yt o u):o.isSome=u.isSome:=by
 cases o with
 |none=>cases u with
  |none=>rfl
  |some _=>exact(r).elim
 |some _=>cases u with
  |none=>exact(r).elim
  |some _=>rfl
theorem KV.val(r:KV kvs vs)(k:κ):Yt (cD kvs k) (Vl vs k):=by
 induction r with
 |nil=>exact P4
 |@cons p q ps qs h t ih=>
  obtain⟨h1,h2⟩:=h
  by_cases e:p.1=k
  .have e':=h1.symm.trans e
   have b:Vl (q::qs) k=some q.2:=by simp[Vl,e']
   rw[qo e,b];exact h2
  .have e':¬q.1=k:=fun z=>e (h1.trans z)
   have b:Vl (q::qs) k=Vl qs k:=by simp[Vl,e']
   rw[qp e,b];exact ih
theorem KV.any(r:KV kvs vs)(k:κ):(kvs.any fun kv=>decide (kv.1=k))=vs.any fun kv=>decide (kv.1=k):=by induction r <;>simp_all
theorem KV.repl(r:KV kvs vs)(k:κ)(ry:RelV y u) :
  KV (kvs.map fun kv=>if kv.1=k then (kv.1,y) else kv) (vs.map fun kv=>if kv.1=k then (kv.1,u) else kv):=by
 induction r with
 |nil=>exact .nil
 |@cons p q ps qs h t ih=>
  refine .cons ?_ ih
  by_cases e:p.1=k<;>simp_all
theorem KV.put(r:KV kvs vs)(k:κ)(ry:RelV y u):KV (putK kvs k y) (stored vs k u):=by
 unfold putK stored;rw[r.any k]
 by_cases e:(vs.any fun kv=>decide (kv.1=k))=true
 .rw[if_pos e,if_pos e];exact r.repl k ry
 .rw[if_neg e,if_neg e];exact Xe r ⟨rfl,ry⟩
theorem KV.keys{kvs:List (κ×V)}{vs:List (κ×Oc)}(r:KV kvs vs):kvs.map (·.1)=vs.map (·.1):=by induction r <;>simp_all
theorem KV.length(r:KV kvs vs):kvs.length=vs.length:=Qh r
end
theorem mi(r:RelV (kV k) u):(cI P w).is k u=true:=by
 cases k with
 |inl i=>obtain⟨t,e⟩:=(r);subst e;exact zag P w i t
 |inr x=>obtain⟨t,e⟩:=(r);subst e;exact zah P w x t
theorem u6:∀{ks:List Key}{us:List Oc},Xv (ks.map kV) us->ItemsAre (cI P w) ks us
 |[],_,r=>by cases r;exact .nil
 |k::ks,_,r=>by
  cases r with
  |cons h t=>exact .cons (mi h) (u6 t)
abbrev KT(H:Hp):List (List Key×V)->List (List Key×Addr×Oc)->Prop:=Ry fun p q=>p.1=q.1/\H q.2.1=some (.tup (p.1.map kV))/\RelV p.2 q.2.2
theorem KT.val(r:KT H kvs xs)(k:List Key):Yt (cD kvs k) ((Te xs k).map (·.2)):=by
 induction r with
 |nil=>exact P4
 |@cons p q ps qs h t ih=>
  obtain⟨h1,_,h2⟩:=h
  by_cases e:p.1=k
  .have e':=h1.symm.trans e
   have b:Te (q::qs) k=some q.2:=by simp[Te,e']
   rw[qo e,b];exact h2
  .have e':¬q.1=k:=fun z=>e (h1.trans z)
   have b:Te (q::qs) k=Te qs k:=by simp[Te,e']
   rw[qp e,b];exact ih
theorem KT.repl(r:KT H kvs xs)(k:List Key)(ry:RelV y u) :
  KT H (kvs.map fun kv=>if kv.1=k then (kv.1,y) else kv) (xs.map (putAt k u)):=by
 induction r with
 |nil=>exact .nil
 |@cons p q ps qs h t ih=>
  refine .cons ?_ ih;unfold putAt
  by_cases e:p.1=k<;>simp_all
theorem KT.put(r:KT H kvs xs)(k:List Key)(hb:H b=some (.tup (k.map kV)))(ry:RelV y u) :
  KT H (putK kvs k y) (W3 xs k b u):=by
 have e:(kvs.any fun kv=>decide (kv.1=k))=(Te xs k).isSome:=by
  rw[vM,(r.val k).isSome_eq,Vm]
 unfold putK W3;rw[e]
 by_cases q:(Te xs k).isSome=true
 .rw[if_pos q,if_pos q];exact r.repl k ry
 .rw[if_neg q,if_neg q];exact Xe r ⟨rfl,hb,ry⟩
theorem KT.keeps(r:KT H kvs xs)(ht:∀b ys,H b=some (.tup ys)->H' b=some (.tup ys)):KT H' kvs xs:=Paired.mapP r fun _ _ z=>⟨z.1,ht _ _ z.2.1,z.2.2⟩
section
variable {P:Oz}{w:OO}{H:Hp}{h:Heap}{a:Addr}
theorem zr(ok:Ys P w H h)(e:Rd H a u):XM P w H h a u:=e.ok ok
theorem kz(ok:Ys P w H h)(e:Rd H a (.dK kvs)):kvs.length<=Om/\(a == Pu)=false/\∃vs,KV kvs vs/\h.DictOf (cI P w) a vs:=zr ok e
theorem zH(ok:Ys P w H h)(e:H a=some (.dK kvs)):kvs.length<=Om/\(a == Pu)=false/\∃vs,KV kvs vs/\h.DictOf (cI P w) a vs:=kz ok (.inl e)
theorem og(ok:Ys P w H h)(e:H a=some (.tup (ks.map kV))):(UN (cI P w)).is h ks a:=by
 obtain⟨_,Xr,r,o,h1,h2,n,h3⟩:=(ok a _ e);exact⟨o,Xr.toArray,n,h1,h2,h3,by simpa using u6 r⟩
theorem oH(ok:Ys P w H h)(e:Rd H a (.dT kvs)):kvs.length<=Om/\(a == Pu)=false /\
  ∃xs,KT H kvs xs/\h.DictOfH (UN (cI P w)) a xs:=by
 obtain⟨z,y,xs,r,o,es,ep,h1,h2,h3,h4,h5⟩:=(zr ok e);refine⟨z,y,xs,r,o,es,ep,h1,h2,h3,h4,fun x hx=>?_,h5⟩
 have all:∀{l:List _}{m:List _},KT H l m->∀x∈m,(UN (cI P w)).is h x.1 x.2.1:=by
  intro l m q
  induction q with
  |nil=>simp_all
  |@cons p q ps qs hq t ih=>
   intro x hx
   rcases Ox.mp hx with e|hx
   .exact og ok (by simp_all)
   .exact ih x hx
 exact all r x hx
theorem zdo(ok:Ys P w H h)(e:H a=some (.dT kvs)):kvs.length<=Om/\(a == Pu)=false /\
  ∃xs,KT H kvs xs/\h.DictOfH (UN (cI P w)) a xs:=oH ok (.inl e)
end
def Zp(H:Hp)(a:Addr)(y:V)(r:Option V):Prop:=(∃kvs k,Rd H a (.dK kvs)/\y=kV k/\r=cD kvs k)\/∃kvs k b,Rd H a (.dT kvs)/\y=.ref b/\H b=some (.tup (k.map kV))/\r=cD kvs k
def Dk(H:Hp)(a:Addr)(y v:V)(H':Hp):Prop:=
 (∃kvs k,H a=some (.dK kvs)/\y=kV k/\kvs.length<Om/\H'=upd H a (.dK (putK kvs k v))) \/
 ∃kvs k b,H a=some (.dT kvs)/\y=.ref b/\H b=some (.tup (k.map kV))/\kvs.length<Om/\H'=upd H a (.dT (putK kvs k v))
theorem Dk.k{H:Hp}{a:Addr}{kvs:List (Key×V)}{k:Key}{v:V}(e:H a=some (.dK kvs))(hl:kvs.length<Om):Dk H a (kV k) v (upd H a (.dK (putK kvs k v))):=.inl ⟨kvs,k,e,rfl,hl,rfl⟩
section
variable {X:Cx}{pins:List (Addr×Obj)}{σ:St}{H:Hp}{s:Oi}{a:Addr}{y v:V}{u r:Oc}{o:Option V}{A:O0}{E:Oc->Oi->Prop}{kvs:List (Key×V)}{k:Key}
theorem Inv.big(I:Inv X pins σ H s):Pu<s.heap.objs.size:=by
 have h:=(I.mod.glob.keeps I.bk).lt;exact TR (by decide) h
theorem zdp(hu:A.units+1<Tb)(I:Inv X pins σ H s)(g:Zp H a y (some v))(ry:RelV y u)(h:∀w' s',Inv X pins σ H s'->RelV v w'->Q w' s') :
  OG (OJ X.prog X.w) A (R3 (.ref a) u) Q E s:=by
 rcases g with⟨kvs,k,e,ey,l⟩|⟨kvs,k,b,e,ey,eb,l⟩
 .subst ey
  obtain⟨z,hd,vs,rel,dd⟩:=kz I.hok e;obtain⟨w',hw,YA⟩:=Yt.some_of   (by rw[l];exact rel.val k);exact wpAny_getItem_of (mi ry) dd.mapOf hw (h w' _ (I.tok _) YA)
 .subst ey
  cases (ry);obtain⟨z,hd,xs,rel,dd⟩:=oH I.hok e;obtain⟨w',hw,YA⟩:=Yt.some_of   (by rw[l];exact rel.val k);obtain⟨p,hp,Jj⟩:=ON.mp hw;refine wpAny_getItem_heap (SD hu) (og I.hok eb) dd hp ?_;rw[Jj];exact h w' _ (I.tok _) YA
theorem zdq(hu:A.units+1<Tb)(I:Inv X pins σ H s)(g:Zp H a y o)(ry:RelV y u)(h:∀s',Inv X pins σ H s'->Q (.bool o.isSome) s') :
  OG (OJ X.prog X.w) A (OQ .In u (.ref a)) Q E s:=by
 rcases g with⟨kvs,k,e,ey,l⟩|⟨kvs,k,b,e,ey,eb,l⟩
 .subst ey
  obtain⟨z,hd,vs,rel,dd⟩:=kz I.hok e;refine wpAny_in_of (mi ry) hd dd.mapOf ?_;rw[←(rel.val k).isSome_eq,←l];exact h _ (I.tok _)
 .subst ey
  cases (ry);obtain⟨z,hd,xs,rel,dd⟩:=oH I.hok e;refine wpAny_in_heap (SD hu) (og I.hok eb) hd dd ?_;have q:=(rel.val k).isSome_eq;rw[Vm] at q;rw[←q,←l];exact h _ (I.tok _)
theorem nL(I:Inv X pins σ H s)(mu:Y9 (H a))(hs:Qi a s.heap h')(he:∃q,h'.get? a=some q)(new:XM X.prog X.w (upd H a ob) h' a ob) :
  Inv X pins σ (upd H a ob) { s with heap:=h',toks:=t' }:=I.write   mu (.inl rfl) (fun b q hb z=>(hs.2 b hb).trans z) he new
theorem yY(z:kvs.length<=Om)(hd:(a == Pu)=false)(rel:KV kvs vs)(dd:h'.DictOf (cI P w) a vs) :
  XM P w H' h' a (.dK kvs):=⟨z,hd,vs,rel,dd⟩
theorem zdr(hu:A.units+1<Tb)(I:Inv X pins σ H s)(g:Dk H a y v H')(ry:RelV y u)(rv:RelV v r)(h:∀s',Inv X pins σ H' s'->Q () s') :
  OG (OJ X.prog X.w) A (setItem (.ref a) u r) Q E s:=by
 rcases g with⟨kvs,k,e,ey,l,eH⟩|⟨kvs,k,b,e,ey,eb,l,eH⟩
 .subst ey eH
  obtain⟨z,hd,vs,rel,dd⟩:=zH I.hok e
  have hz:vs.length<=sizeLine:=by rw[←rel.length];exact z
  have hl:(putK kvs k v).length<=sizeLine:=by have:=pL kvs k v;lia
  refine wpAny_setItem_pairs  (mi ry) dd fun h' AE hs=>h _ ?_
  have he:∃q,h'.get? a=some q:=let ⟨q,_,_,hq,_⟩:=AE;⟨q,hq⟩
  exact nL I (by rw[e];exact P4) hs he (yY hl hd (rel.put k rv) AE)
 .subst ey eH
  cases (ry);obtain⟨z,hd,xs,rel,dd⟩:=zdo I.hok e
  have hz:xs.length<=sizeLine:=by rw[←Qh rel];exact z
  have hl:(putK kvs k v).length<=sizeLine:=by have:=pL kvs k v;lia
  refine U7 (hsz:=hz) (SD hu) (og I.hok eb) dd fun h' AE hs=>h _ ?_;obtain⟨q,es,ep,hq,h2,h3,h4,_,h5⟩:=AE;refine nL I (by rw[e];exact P4) hs ⟨q,hq⟩ ⟨hl,hd,_,(rel.put k eb rv).keeps fun c ys ec=>?_,q,es,ep,hq,h2,h3,h4,h5⟩;rw[aK (zai ec e (fun z=>nomatch z))];exact ec
theorem zds(I:Inv X pins σ H s)(e:Rd H a (.dK kvs))(h:∀t s',Inv X pins σ H s'->Q (.int kvs.length t) s'):OG (OJ X.prog X.w) A (call (.builtin "len") [.ref a]) Q E s:=by
 obtain⟨z,hd,vs,rel,dd⟩:=kz I.hok e;refine call_len_dict hd dd (by rw[←rel.length];rw[SW] at z;lia) ?_;rw[←rel.length];exact h _ _ (I.tok _)
end
def tG(i:Expr):Prop:=∀ov iv,Uy i false ov iv=operate [ov,iv] (R3 ov iv)
theorem zdt{prog:Oz}{w:OO}{A:O0}{E:Oc->Oi->Prop}{s:Oi}{env:Env}{value slice:Expr}{pos:Pos}{T id:String}{Q:Oc->Oi->Prop}
  (hl:typeLookup (.type T) "__getitem__"=pure (some (.builtin id))) (hs:tG slice)
  (h:OG (OJ prog w) A (eval value env) (fun o s₁=>OG (OJ prog w) A (eval slice env) (fun i ZF=>ZF.TypeIs o T/\OG (OJ prog w) A (R3 o i) Q E ZF) E s₁) E s) :
  OG (OJ prog w) A (eval (.Subscript value slice pos) env) Q E s:=by
 refine Wj (Pw h (fun o s₁ De=>Pw De (fun i ZF Cr=>?_) fun _ _ x=>x) fun _ _ x=>x);obtain⟨hT,Cr⟩:=Cr;refine Oe ?_;refine Oe (Sa hT hl ?_)
 have fin:OG (OJ prog w) A (Uy slice false o i) (fun r E2=>OG (OJ prog w) A (letTemporaryGo value o r >>= fun _=>pure r) Q E E2) E ZF:=by
  rw[hs o i];exact wpAny_operating (Pw Cr (fun r E2 Di=>Oe (wpAny_letTemporaryGo (Ot Di))) fun _ _ x=>x)
 first
  |exact Ot (Oe fin)
  |grind
  |grind
theorem zdu(I:Inv X pins σ H s)(g:Zp H a y o):s.TypeIs (.ref a) "dict":=by
 rcases g with⟨kvs,k,e,_,_⟩|⟨kvs,k,b,e,_,_,_⟩
 .obtain⟨_,_,vs,_,dd⟩:=kz I.hok e
  exact dd.typeIs
 .obtain⟨_,_,xs,_,dd⟩:=oH I.hok e
  exact dd.typeIs
noncomputable def IZ(td ty:TE):TE:=fun σ H Q=>td σ H fun x H1=>ty σ H1 fun y H2=>∃a v,x=.ref a/\Zp H2 a y (some v)/\Q v H2
noncomputable def Kw(ty td:TE):TE:=fun σ H Q=>ty σ H fun y H1=>td σ H1 fun x H2=>∃a o,x=.ref a/\Zp H2 a y o/\Q (.bl o.isSome) H2
noncomputable def Jg(td ty tv:TE):TS:=fun D σ H=>tv σ H fun v H1=>td σ H1 fun x H2=>ty σ H2 fun y H3=>∃a H4,x=.ref a/\Dk H3 a y v H4/\D.nx σ H4
section
variable {X:Cx}{o i e value:Expr}{pos pos' ZE:Pos}{td ty tv:TE}
theorem zdv(hu:X.A.units+1<Tb)(ho:PE X o td)(hi:PE X i ty)(hs:tG i):PE X (.Subscript o i pos) (IZ td ty):=by
 intro pins s σ H Q I h;refine zdt PySem.F.slot_dict_getitem.lookup hs (XD (ho pins s σ H _ I h) fun u s1 ⟨x,H1,I1,rx,q1⟩=>XD (hi pins s1 σ H1 _ I1 q1) fun iv s2 ⟨y,H2,I2,ry,a,v,ex,g,q2⟩=>?_);subst ex;obtain rfl:u=OV a:=rx;exact⟨zdu I2 g,zdp hu I2 g ry fun w' s3 I3 YA=>⟨v,H2,I3,YA,q2⟩⟩
theorem zdw(hu:X.A.units+1<Tb)(hi:PE X i ty)(ho:PE X o td):PC X .In i o (Kw ty td):=by
 intro pins s σ H Q I h;refine XD (hi pins s σ H _ I h) fun iv s1 ⟨y,H1,I1,ry,q1⟩=>XD (ho pins s1 σ H1 _ I1 q1) fun u s2 ⟨x,H2,I2,rx,a,ov,ex,g,q2⟩=>?_;subst ex;obtain rfl:u=OV a:=rx;exact zdq hu I2 g ry fun s3 I3=>⟨.bl _,H2,I3,rfl,q2⟩
theorem zdx(hu:X.A.units+1<Tb)(ho:PE X o td)(hi:PE X i ty)(hv:PE X value tv)(hs:PB value (some (.Subscript o i pos')) pos.line X.env=pure false) :
  PS X (.Assign [.Subscript o i pos'] value pos) (Jg td ty tv):=by
 intro pins s σ H D I h;refine TU (XD (hv pins s σ H _ I h) fun r s1 ⟨v,H1,I1,rv,q1⟩=>XD (ho pins s1 σ H1 _ I1 q1) fun u s2 ⟨x,H2,I2,rx,q2⟩=>XD (hi pins s2 σ H2 _ I2 q2) fun iv s3 ⟨y,H3,I3,ry,a,H4,ex,g,q3⟩=>?_) hs;subst ex;obtain rfl:u=OV a:=rx;exact zdr hu I3 g ry rv fun s4 I4=>⟨σ,H4,I4,q3⟩
end
theorem zdy(h:Heap)(hb:Pu<h.objs.size):XM P w H (h.push { cls:=.type "dict",data:=.dict #[] }) h.objs.size (.dK []):=⟨Pm _,beq_eq_false_iff_ne.mpr (Qd (OI hb)),[],.nil,Heap.DictOf.new h⟩
noncomputable def rH:List (TE×TE)->St->Hp->(List (V×V)->Hp->Prop)->Prop
 |[],_,H,Q=>Q [] H
 |(tk,tv)::r,σ,H,Q=>tk σ H fun x H1=>tv σ H1 fun y H2=>rH r σ H2 fun ps H3=>Q ((x,y)::ps) H3
abbrev VV:List (V×V)->List (Oc×Oc)->Prop:=Ry fun p q=>RelV p.1 q.1/\RelV p.2 q.2
def EH(X:Cx)(pos:Pos)(keys:List (Option Expr))(values:List Expr)(Fo:List (TE×TE)):Prop:=
 ∀(pins:List (Addr×Obj)) (s:Oi) (σ:St) (H:Hp) (Q:List (V×V)->Hp->Prop),Inv X pins σ H s->rH Fo σ H Q ->
  OG (OJ X.prog X.w) X.A (evalPairs (pairTrees keys values X.env pos)) (fun vs s'=>∃ps H',Inv X pins σ H' s'/\VV ps vs/\Q ps H') X.xe s
theorem zdz:EH X pos [] [] []:=fun pins s σ H Q I h=>pairTrees_nil_walk ⟨[],H,I,.nil,h⟩
theorem wb(hk:PE X k tk)(hv:PE X v tv)(hr:EH X pos ks vs Fo) :
  EH X pos (some k::ks) (v::vs) ((tk,tv)::Fo):=fun pins s σ H Q I h=>
 pairTrees_cons_walk (XD (hk pins s σ H _ I h) fun u s1 ⟨x,H1,I1,rx,q1⟩=>XD (hv pins s1 σ H1 _ I1 q1) fun w2 s2 ⟨y,H2,I2,ry,q2⟩=>
  XD (hr pins s2 σ H2 _ I2 q2) fun ws s3 ⟨ps,H3,I3,rel,q3⟩=>⟨_::ps,H3,I3,.cons ⟨rx,ry⟩ rel,q3⟩)
noncomputable def jd(kvs more:List (Key×V)):List (Key×V):=more.foldl (fun acc kv=>putK acc kv.1 kv.2) kvs
theorem KV.merge:∀{more:List (Key×V)}{rs:List (Key×Oc)}{kvs:List (Key×V)}{vs:List (Key×Oc)},KV more rs->KV kvs vs->KV (jd kvs more) (merged vs rs):=by
 intro more rs kvs vs r
 induction r generalizing kvs vs with
 |nil=>intro q;exact q
 |@cons p q ps qs h t ih=>
  intro r0
  have e:KV (putK kvs p.1 p.2) (stored vs q.1 q.2):=by
   have:=r0.put p.1 h.2<;>simp_all
  exact ih e
theorem tM:∀(more kvs:List (Key×V)),(jd kvs more).length<=kvs.length+more.length
 |[],kvs=>by show kvs.length<=kvs.length+0;lia
 |p::r,kvs=>by
  have h1:=tM r (putK kvs p.1 p.2);have h2:=pL kvs p.1 p.2
  show (jd _ r).length<=_<;>grind
theorem uA{P:Oz}{w:OO}:∀{kvs:List (Key×V)}{ws:List (Oc×Oc)},VV (kvs.map fun kv=>(kV kv.1,kv.2)) ws->∃rs,Carries (cI P w) ws rs/\KV kvs rs
 |[],_,r=>by cases r;exact⟨[],P4,.nil⟩
 |p::kvs,_,r=>by
  cases r with
  |@cons a b as bs h t=>
   obtain⟨rs,c,q⟩:=uA (P:=P) (w:=w) t;obtain⟨b1,b2⟩:=b;exact⟨(p.1,b2)::rs,⟨mi h.1,rfl,c⟩,.cons ⟨rfl,h.2⟩ q⟩
noncomputable def IY(Fo:List (TE×TE)):TE:=fun σ H Q=>∀p,H p=none->rH Fo σ (upd H p (.dK [])) fun ps H2=>H2 p=some (.dK [])/\∃kvs:List (Key×V),ps=kvs.map (fun kv=>(kV kv.1,kv.2))/\kvs.length<=15/\Q (.ref p) (upd H2 p (.dK (jd [] kvs)))
theorem zea(h:EH X pos keys values Fo)(Z7:keys.all (·.isSome)=true)(hl:keys.length=values.length)(h0:keys≠[])
  (h15:keys.length<=15):PE X (.Dict keys values pos) (IY Fo):=by
 intro pins s σ H Q I q;have hn:=I.hok.fresh (Oo _);have I1:=I.laid    (t':=s.toks) (fun _ _ q=>Og _ q) (Oo _) (zdy _ I.big);refine wpAny_Dict_walk (knd:=cI _ X.w) Z7 hl h0 h15 (XD (h pins _ σ _ _ I1 (q _ hn)) fun ws s2 ⟨ps,H2,I2,rel,e,kvs,ep,lk,q2⟩=>?_);subst ep;obtain⟨rs,c,rk⟩:=uA   rel;obtain⟨z,hd,vs0,r0,dd⟩:=zH I2.hok e;cases r0;refine⟨rs,c,dd,fun h' AE hs=>⟨.ref _,_,?_,rfl,q2⟩⟩
 have hz:(jd [] kvs).length<=sizeLine:=by
  have h1:=tM kvs [];rw[Rv] at h1;rw[SW];lia
 have he:∃q,h'.get? _=some q:=let ⟨q,_,_,hq,_⟩:=AE;⟨q,hq⟩
 exact nL I2 (by rw[e];exact P4) hs he (yY hz hd (rk.merge .nil) AE)
end L2
namespace Att
open PySem PySem.W PySem.Calls PyProof.Rows
theorem zeb:∀(ns:List Int) (vs:List Oc),WellAll P h vs (ns.map WData.int)->V7 vs ns:=by
 intro ns
 induction ns with
 |nil=>
  intro vs w;cases w;exact .nil
 |cons n ns ih=>
  intro vs w
  cases w with
  |cons a b=>
   cases a;exact .cons _ _ (ih _ b)
theorem zec{l:OpenLaw}(hn:l.most=some n){h:Heap}
  (hpre:l.row.toRowW.claim.pre args=true) (hwl:WellAll P h vals args) :
  ∃a vs ns,vals=[OV a]/\args=[WData.list (ns.map WData.int)]/\h.get? a=some { cls:=.type "list",data:=.seq vs.toArray }/\V7 vs ns/\ns.length<=n:=by
 have Fq:WShape.hasAll [] args [.list .int]=true:=(pre_splitW hpre).1;have hc:l.pre.holds [] { args:=args } = true:=(pre_splitW hpre).2;obtain⟨d,r,rfl,h1,h2⟩:=hasAllW_cons Fq;obtain rfl:=hasAllW_nil h2;obtain⟨xs,rfl,h3⟩:=hasW_list h1;obtain⟨ns,rfl⟩:=items_int h3
 have XI:ns.length<=n:=by
  have h4:=by
   have h4:=(holds_andW hc).1
   rw[hn] at h4<;>omega
  have h5:=condW_of h4 (w_not (w_lt w_lit (w_len_list (w_arg rfl))))<;>simp_all
 cases hwl with
 |cons w1 w2=>
  cases w2
  cases w1 with
  |list ho Z7=>exact⟨_,_,ns,rfl,rfl,ho,zeb ns _ Z7,XI⟩
theorem zed(l:OpenLaw)(args:List WData):l.row.toRowW.claim.post args (.bool true) args=true:=
 postW_of
  (rfl)
  (w_eq_bool (w_res rfl) w_lit) rfl
theorem zee{l:OpenLaw}{XP:(Str->Option Oc)->Heap->Prop}{YP:OO->Heap->Prop}{d:DefRec}
  (hn:l.most=some n) (G9:d.params.defaults=[])
  (call:∀(w:OO) (s₀ s₁:Oi) (mg mb:Str->Option Oc) (fa:Addr) (o:Obj) (pm cd doc:Oc) (a:Addr) (vs:List Oc) (ns:List Int),
   Ground q loose [] XP w s₀ mg mb s₁.heap->YP w s₁.heap ->
   s₁.heap.get? fa=some o->o.data=.func (docDef d.name d.params d.body d.scope pm cd doc)->s₁.heap.CodeRec cd d.name->mg d.name=some (.ref fa) ->
   s₁.heap.get? a=some { cls:=.type "list",data:=.seq vs.toArray }->V7 vs ns->ns.length<=n->s₁.gens = #[] ->
   SY (OJ l.prog w) TV (.call (.ref fa) ⟨[.ref a],[]⟩) (fun r s'=>r=.ok (.ret (.bool true))/\OldK s₁.heap s'.heap/\s'.os=s₁.os/\SU s'.gens) s₁) :
  WalkO q loose XP YP l.row.toRowW d [] (fun f vs=>TX f vs):=by
 intro w s₀ s₁ mg mb G Y fa o pm cd doc dV kV ho hd hcd hD hmg hg args vals as hpre hlay hrd hwl hlo;obtain rfl:dV=.none:=Dflts.none hD G9;obtain rfl:kV=.none:=Dflts.noKw hD;obtain⟨a,vs,ns,rfl,rfl,HI,CP,XI⟩:=zec hn hpre hwl;refine enter_call (Tz (call w s₀ s₁ mg mb fa o pm cd doc a vs ns G Y ho (fd_plain hd) hcd hmg HI CP XI hg) fun r s' hq=>?_);obtain⟨rfl,h2,h3,h4⟩:=hq;exact⟨.inl ⟨.bool true,.bool true,[],rfl,fun _=>rfl,.bool true,zed l _,fun _=>⟨Xo,fun _ hm=>(nomatch hm)⟩⟩,h2,h3,h4⟩
end Att
namespace L2
theorem uH:∀{vs:List Oc}{ns:List Int},V7 vs ns->Xv (ns.map V.int) vs
 |_,_,.nil=>.nil
 |_,_,.cons n t h=>.cons ⟨t,rfl⟩ (uH h)
def tF(H:Hp):Prop:=∀b,H b=none\/∃o xs,H b=some (.frz o (.lst xs))
theorem zef{K:Frag}{mg mb:Str->Option Oc}{s₁:Oi}{vs:List Oc}{ns:List Int}
  (KX:K.In s₁.heap) (Ht:s₁.heap.Ns OT mg) (hb:s₁.heap.Ns We mb) (hbb:∀x:Str,x≠"__name__"->mb x=Qw x) (Cc:s₁.heap.NoLimit) (hg:s₁.gens = #[])
  (ha:s₁.heap.get? a=some { cls:=.type "list",data:=.seq vs.toArray }) (hi:V7 vs ns) (hl:ns.length<=Om) (hr:XA k TV)
  (F:∀base:Heap,K.In base->base.Ns OT mg->X5 P w K mg base CX k fa fd [x] sp) (FQ:∀(s:Oi) (u:Oc),Vg s fd ⟨[u],[]⟩ [(x,u)])
  (G7:∀H:Hp,tF H->Ye K H a (ns.map V.int)->sp [.ref a] H (fun v _=>v=.bl true) fun _ _ _=>False)
  (Ew:∀H e s',CX [] H s₁ (fun _ _ _=>False) e s'->False) :
  SY (OJ P w) TV (.call (.ref fa) ⟨[.ref a],[]⟩) (fun r s'=>r=.ok (.ret (.bool true))/\OldK s₁.heap s'.heap/\s'.os=s₁.os/\SU s'.gens) s₁:=by
 have rv:=uH hi;have Cb:=hi.length
 have core:∀H:Hp,tF H->Ye K H a (ns.map V.int)->Ys P w H s₁.heap->(∀b,H b≠none->b=a)->(H a≠none->K.lookup a=none) ->
   SY (OJ P w) TV (.call (.ref fa) ⟨[.ref a],[]⟩) (fun r s'=>r=.ok (.ret (.bool true))/\OldK s₁.heap s'.heap/\s'.os=s₁.os/\SU s'.gens) s₁:=by
  intro H hO hS hok hA hK;have Cw:∀{b:Addr}{o:Obj},s₁.heap.get? b=some o->H b=none->(gX s₁.heap H).get? b=some o:=fun e n=>zak e n
  have CU:∀{b:Addr}{o:Obj}{es:Array Tf}{ep:Nat},s₁.heap.get? b=some o->o.data=.dict es ep->H b=none:=fun {b o es ep} e d=>by
   cases q:H b with
   |none=>rfl
   |some u=>
    have e':b=a:=hA b (by rw[q];simp);subst e';rw[ha] at e;cases e;have d':Xf vs.toArray _=Data.dict es ep:=d;cases d'
  have Gx:∀{b:Addr}{m:Str->Option Oc},s₁.heap.Ns b m->(gX s₁.heap H).Ns b m:=fun {b m} ⟨o,es,ep,e,d,r⟩=>⟨o,es,ep,Cw e (CU e d),d,r⟩
  have AU:K.In (gX s₁.heap H):=fun b o e=>Cw (KX b o e) (by
   cases q:H b with
   |none=>rfl
   |some u=>
    have e':b=a:=hA b (by rw[q];simp);subst e'
    rw[hK (by rw[q];simp)] at e;cases e)
  have hM:Mod K mg (gX s₁.heap H):=⟨AU,Gx Ht,⟨mb,Gx hb,hbb⟩,let ⟨mc,h1,h2⟩:=Cc;⟨mc,Gx h1,h2⟩⟩;have e0:Cu P w K mg (gX s₁.heap H) TV [] s₁ H:=⟨rfl,hM,fun b o e=>zal e,Ve (zaj _ _),trivial,fun b hb=>absurd (show b∈([]:List Addr) from hb) (by simp),hok,.of_eq hg⟩;refine Tz ((F _ AU (Gx Ht)).run TV [] s₁ H ⟨[.ref a],[]⟩ [.ref a] [.ref a] _ _ hr e0 (FQ s₁ (.ref a)) (.cons rfl .nil) (G7 H hO hS)) fun r s' h=>?_
  cases r with
  |error e=>exact(Ew H e s' h).elim
  |ok fl=>
   cases fl with
   |next=>exact QO h
   |brk=>exact QO h
   |cont=>exact QO h
   |ret u=>
    obtain⟨v,H',os,bare,un,AY,r',q⟩:=h;have q':v=.bl true:=q;subst q';obtain rfl:u=U2 true:=r';refine⟨rfl,OldK.of_keep fun b o e=>?_,os,bare⟩
    cases q:H b with
    |none=>exact un.keep b o e q (by intro z;exact absurd (show b∈([]:List Addr) from z) (by simp)) (by simp)
    |some u=>
     rcases hO b with z|⟨ob,xs,z⟩
     .rw[q] at z;cases z
     .have z2:=un.frzs b ob _ z
      obtain⟨e1,_⟩:=hok b _ z;obtain⟨e2,_⟩:=AY b _ z2;rw[e] at e1;cases e1;exact e2
 cases hk:K.lookup a with
 |some o=>
  have e:=KX a o hk;rw[ha] at e;cases e;refine core (fun _=>none) (fun _=>.inl rfl) (.inr ⟨_,vs.toArray,_,hk,rfl,rfl,rfl,by rw[Pg,Cb];exact hl,by simpa using rv⟩) (fun b u z=>by have z':(none:Option HO)=some u:=z;cases z') (fun b z=>absurd rfl z) fun z=>absurd rfl z
 |none=>
  refine core (fun b=>if b=a then some (.frz { cls:=.type "list",data:=.seq vs.toArray } (.lst (ns.map V.int))) else none) (fun b=>?_) (.inl (.inr ⟨{ cls:=.type "list",data:=.seq vs.toArray },if_pos rfl⟩)) (fun b u z=>?_) (fun b z=>?_) fun _=>hk
  .by_cases hb:b=a
   .exact .inr ⟨_,_,if_pos hb⟩
   .exact .inl (if_neg hb)
  .by_cases hb:b=a
   .have z':=(if_pos hb).symm.trans z
    cases z';subst hb;exact⟨ha,by rw[OW];exact hl,vs,_,rv,ha⟩
   .have z':=(if_neg hb).symm.trans z
    cases z'
  .by_cases hb:b=a
   .exact hb
   .exact absurd (if_neg hb) z
theorem zeg{l:Ud}{XP:(Str->Option Oc)->Heap->Prop}{YP:OO->Heap->Prop}{d:DefRec}{K:W4->Frag}{CX:OO->Fp}{sp:OO->Sp}
  (hn:l.most=some n) (Dq:n<=Om) (G9:d.params.defaults=[]) (hr:XA k TV)
  (hY:∀(w:OO) (h:Heap),YP w h->(K w.params).In h)
  (F:∀(w:OO) (mg:Str->Option Oc) (fa:Addr) (h:Heap),(K w.params).In h->h.Ns OT mg->mg d.name=some (.ref fa) ->
   ∃fd:QD,(∀(s:Oi) (u:Oc),Vg s fd ⟨[u],[]⟩ [(x,u)]) /\
    ∀base:Heap,(K w.params).In base->base.Ns OT mg->X5 l.prog w (K w.params) mg base (CX w) k fa fd [x] (sp w))
  (G7:∀(w:OO) (H:Hp) (a:Addr) (ns:List Int),ns.length<=n->tF H->Ye (K w.params) H a (ns.map V.int)->sp w [.ref a] H (fun v _=>v=.bl true) fun _ _ _=>False)
  (Ew:∀(w:OO) (H:Hp) (s:Oi) (e:Oc) (s':Oi),CX w [] H s (fun _ _ _=>False) e s'->False) :
  UY q loose XP YP l.row.toRowW d [] (fun f vs=>TX f vs):=by
 refine Att.zee hn G9 fun w s₀ s₁ mg mb fa o pm cd doc a vs ns G Y ho hd hcd hmg HI CP XI hg=>?_;have KX:=hY w _ Y;obtain⟨fd,hb,hF⟩:=F w mg fa _ KX G.T.g hmg;exact zef KX G.T.g G.T.b G.T.builtins G.T.nolimit hg HI CP (OC XI Dq) hr hF hb (fun H hO hS=>G7 w H a ns XI hO hS) fun H e s'=>Ew w H s₁ e s'
noncomputable def cZ(s:Stmt):Arguments:=match s with
 |.FunctionDef _ a _ _ _ _ _ _ _ _=>a
 |_=>{ posonlyargs:=[],args:=[],vararg:=none,kwonlyargs:=[],kw_defaults:=[],kwarg:=none,defaults:=[] }
noncomputable def bV(s:Stmt):List Stmt:=match s with
 |.FunctionDef _ _ b _ _ _ _ _ _ _=>b
 |_=>[]
noncomputable def aW(s:Stmt):Scope:=match s with
 |.FunctionDef _ _ _ _ _ _ sc _ _ _=>sc
 |_=>{ kind:=.function,names:=[],isGenerator:=false,isCoroutine:=false }
abbrev YT:Fp:=fun _ _ _ _ _ _=>False
abbrev E0:XK:=fun _ _ _=>False
theorem iD:iB YT X E0:=fun _ _ _ _ _ _ _ h=>h.elim
structure Ju(K:Frag)(x qual:Str)(st:Stmt)(f:Addr)(fd:QD):Prop where
 ex:∃(oc:Oc) (od:Option Addr) (kV doc pm:Oc) (an:Option Addr) (XS ct:Oc) (osl:Array (Option Oc)),
  fd=Pa x qual (cZ st) (bV st) (aW st) .none kV doc pm an XS ct/\K.lookup f=some ⟨oc,od,.func fd,osl⟩/\QW K XS qual=true
 kp:PP K (.ref f)=true
section
variable {P:Oz}{w:OO}{K:Frag}{mg:Str->Option Oc}{base:Heap}{X:Cx}
theorem Ju.ok{x qual:Str}{st:Stmt}{f:Addr}{fd:QD}{N ps:List Str}{k:Nat}{sp:Sp}(F:Ju K x qual st f fd)(S:XQ N ps (aW st))(len:∀vs H Q E,sp vs H Q E->vs.length=ps.length)
  (Yb:∀(XS:Oc) (A:O0) (outer:List Env) (s:Oi) (H:Hp) (vs:List V) (Q:VK) (E:XK),XA k (A.deeper (RK qual (aW st) s.heap.objs.size f XS))->sp vs H Q E ->
   ∃t,Zy (dY YT P w K mg base N qual (aW st) f XS A outer s H E).nox (bV st) t/\t { nx:=fun _ H'=>Q .non H',rt:=Q } (start N vs) H):X5 P w K mg base YT (k+1) f fd ps sp:=by
 obtain⟨oc,od,kV,doc,pm,an,XS,ct,osl,rfl,lk,hcd⟩:=F.ex;refine zcq lk hcd S len fun A outer s H vs Q E hr G7=>?_;obtain⟨t,h,q⟩:=Yb XS A _ s H vs Q E hr G7;exact⟨t,h.nox,q⟩
theorem Ju.binds{x qual:Str}{st:Stmt}{f:Addr}{fd:QD}{ps:List Str}(F:Ju K x qual st f fd)
  (h:∀(kV doc pm:Oc) (an:Option Addr) (XS ct:Oc) (us:List Oc),us.length=ps.length->Rm (Pa x qual (cZ st) (bV st) (aW st) .none kV doc pm an XS ct) ⟨us,[]⟩=pure (ps.zip us)):Binds K fd ps []:=by
 obtain⟨oc,od,kV,doc,pm,an,XS,ct,osl,rfl,lk,hcd⟩:=F.ex;exact .all (h kV doc pm an XS ct)
theorem oj{x qual:Str}{st:Stmt}{f:Addr}{oc:Oc}{od an:Option Addr}{osl:Array (Option Oc)}{kV doc pm XS ct:Oc}(l:K.lookup f=some ⟨oc,od,.func (Pa x qual (cZ st) (bV st) (aW st) .none kV doc pm an XS ct),osl⟩)
  (c:QW K XS qual=true) (k:PP K (.ref f)=true):Ju K x qual st f (Pa x qual (cZ st) (bV st) (aW st) .none kV doc pm an XS ct):=⟨⟨oc,od,kV,doc,pm,an,XS,ct,osl,rfl,l,c⟩,k⟩
theorem pv(i:Nat)(hN:autoParam (X.N[i]? = some x) u10)(hv:autoParam (A0 X.env.scope x) u20)(hd:autoParam ((x == ("__debug__" : Str))=false) u11)
  (hcd:autoParam ((x == ("__classdict__" : Str))=false) u11):PE X (.Name x pos) (z4 i):=zam hN hv hd hcd
end
theorem iK{A B:Prop}(h:B):if false=true then A else B :=by simp_all
theorem iJ{A B:Prop}(h:A):if true=true then A else B :=by simp_all
end L2
set_option maxHeartbeats 4000000
namespace K1
open PySem
noncomputable def has(signs x:Str):Bool:=x.cps.toList.all fun c=>decide (c∈signs.cps.toList)
noncomputable def YH:Str:="abcdefghijklmnopqrstuvwxyz"
noncomputable def YF:Str:="abcdefghijklmnopqrstuvwxyz0123456789-"
noncomputable def single:Oa->Bool
 |.int i=>decide ((if i<0 then -i else i)<=10^18)
 |.str x=>decide (x.length<=20)&&has YF x
 |_=>false
noncomputable def aE:Nat->Oa->Bool
 |0,.tuple _=>false
 |n+1,.tuple ds=>decide (ds.length<=8)&&ds.all (aE n)
 |_,d=>single d
noncomputable def aH:Nat->Oa->Int
 |n+1,.tuple ds=>1+(ds.map (aH n)).sum
 |_,_=>1
noncomputable def isName:Oa->Bool
 |.str x=>decide (1<=x.length)&&decide (x.length<=8)&&has YH x
 |_=>false
noncomputable def aA(d:Oa):Bool:=aE 4 d&&decide (aH 4 d<=40)
theorem ym{α:Type}(f:α->Int)(h:∀a,1<=f a):∀l:List α,(l.length:Int)<=(l.map f).sum
 |[]=>by simp
 |a::r=>by
  have:=ym f h r;have:=h a;simp
  lia
noncomputable def Dt:Nat->Oa->Bool
 |0,.tuple _=>false
 |n+1,.tuple ds=>ds.all (Dt n)
 |_,_=>true
theorem vG:∀(n:Nat) (d:Oa),aE n d=true->Dt n d=true
 |0,d,h=>by cases d <;> first|rfl|cases h
 |n+1,d,h=>by
  cases d with
  |tuple ds=>
   have e:aE (n+1) (.tuple ds)=(decide _&&ds.all _):=rfl;rw[e,Oj] at h;exact Ou.mpr fun x hx=>vG n x (Ou.mp h.2 x hx)
  |_=>rfl
end K1
namespace L2
open PySem
noncomputable def bO(env:Env):List (Str×QK)->List (Str×Addr)->List (Str×Addr)
 |[],acc=>acc
 |(n,k)::r,acc=>bO env r (if (k == .free)=true then (n,(env.cells.lookup n).getD 0)::acc else acc)
theorem qm:∀(l:List (Str×QK)) (acc:List (Str×Addr)),(∀x∈l,x.2=.free->∃c,env.cells.lookup x.1=some c) ->
  (forIn l acc (fun x r=>match x with
   | (name,kind)=>if (kind == Pr)=true then (do
     let c ←cellOf env name
     pure (Q7 ((name,c)::r))) else pure (Q7 r)):Sem (List (Str×Addr)))=pure (bO env l acc)
 |[],acc,_=>rfl
 |(n,k)::r,acc,h=>by
  rw[List.forIn_cons];have hr:=fun x hx=>h x (Of _ hx)
  cases hk:(k == Pr) with
  |false=>
   have ih:=qm r acc hr
   have e:bO env ((n,k)::r) acc=bO env r acc:=by simp[bO,hk]
   rw[e];dsimp only;rw[if_neg (by simp_all)];exact ih
  |true=>
   obtain⟨c,hc⟩:=h _ Oh (by simpa using hk);have ih:=qm r ((n,c)::acc) hr;have YK:=hc
   have e:bO env ((n,k)::r) acc=bO env r ((n,c)::acc):=by simp[bO,hk,YK]
   have e2:cellOf env n=pure c:=by unfold cellOf;rw[YK]
   rw[e];dsimp only;rw[if_pos hk,e2];exact ih
theorem pW(h:∀x∈scope.names,x.2=.free->∃c,env.cells.lookup x.1=some c):closureFor scope env=pure (bO env scope.names []):=by
 have q:=qm  _ [] h;exact congrArg (fun t=>t >>= fun z=>pure z) q
theorem pO:∀(l:List (Str×QK)) (acc:List (Str×Addr)) (x:Str) (c:Addr),(∀y d,acc.lookup y=some d->env.cells.lookup y=some d) ->
  (∀y∈l,y.2=.free->∃c,env.cells.lookup y.1=some c)->(bO env l acc).lookup x=some c->env.cells.lookup x=some c
 |[],acc,x,c,ha,_,e=>ha x c e
 |(n,k)::r,acc,x,c,ha,h,e=>by
  have hr:=fun x hx=>h x (Of _ hx);refine pO r _ x c ?_ hr e;intro y d q
  cases hk:(k == Pr) with
  |false=>simp_all
  |true=>
   rw[hk,if_pos rfl] at q
   obtain⟨c',hc⟩:=h _ Oh (by simpa using hk)<;>grind
theorem uz:∀(l:List (Str×QK)) (acc:List (Str×Addr)) (x:Str),(acc.lookup x).isSome=true->((bO env l acc).lookup x).isSome=true
 |[],_,_,h=>h
 |(n,k)::r,acc,x,h=>by
  refine uz r _ x ?_
  cases hk:(k == Pr) <;>simp_all
theorem pX:∀(l:List (Str×QK)) (acc:List (Str×Addr)) (x:Str),(x,Pr)∈l->((bO env l acc).lookup x).isSome=true
 |[],_,_,h=>absurd h (by simp)
 |(n,k)::r,acc,x,h=>by
  rcases Ox.mp h with e|e
  .refine uz r _ _ ?_<;>simp_all
  .exact pX r _ x e
structure CS(osc:Qg)(N:List Str)(x:Str)(scope:Qg)(N':List Str):Prop where
 kind:scope.kind=.function
 nocell:∀y∈scope.names,y.2≠.cell
 names:∀y∈scope.names,y.2=.local->scope.names.lookup y.1=some .local
 hx:scope.names.lookup x=some .local
 only:∀y∈scope.names,y.2=.local->y.1=x\/y.1=".0"
 free:∀y∈scope.names,y.2=.free->osc.names.lookup y.1=some .cell\/osc.names.lookup y.1=some .free
 nd:(x::N').Nodup
 n0:(".0" : Str)∉N'
 len:N'.length=N.length
 rel:∀p∈N'.zip N,p.1=p.2\/∀q∈scope.names,q.1≠p.1
theorem CS.at{osc:Qg}{N N':List Str}{x:Str}{scope:Qg}(S:CS osc N x scope N'){j:Nat}{y:Str}(h:N'[j]? = some y):N[j]? = some y\/∀q∈scope.names,q.1≠y:=by
 have hl:=(Od.mp h).1
 have HJ:j<N.length:=by rw[←S.len];exact hl
 have m:(N'.zip N)[j]? = some (y,N[j]):=by
  rw[SR];exact⟨h,OX HJ⟩
 rcases S.rel _ (OA m) with z|z
 simp_all
 .exact .inr z
theorem wy{c:Str×QK->Bool}:∀{names:List (Str×QK)}{y:Str}{k':QK},
  (names.map fun p=>if (p.2 == Pr&&c p)=true then (p.1,NameKind.cell) else (p.1,p.2)).lookup y=some k'->∃k,(y,k)∈names/\(k'=k\/(k=.free/\k'=.cell))
 |[],_,_,h=>by simp at h
 |(n,k)::r,y,k',h=>by
  rw[OU] at h
  by_cases hy:y=n
  .grind
  .have hb:=beq_eq_false_iff_ne.mpr hy
   have h':=by
    cases hc:(k == Pr&&c (n,k)) with
    |false=>simp only[hc,PX,if_false,QX,hb] at h;exact h
    |true=>simp only[hc,if_true,QX,hb] at h;exact h
   obtain⟨k2,m,e⟩:=wy h';exact⟨k2,Of _ m,e⟩
theorem jD(h:(R4 scope env).names.lookup y=some k'):∃k,(y,k)∈scope.names/\(k'=k\/(k=.free/\k'=.cell)):=by
 refine wy (c:=fun p=>env.scope.kind == .function&&env.kindOf p.1 == some .cell) ?_;rw[←h]
 congr 1
 refine P8 fun p _=>?_;simp only[Bool.and_assoc]
abbrev bZ(X:Cx)(x:Str)(scope:Qg)(C:Addr)(s0:Oi)(H0:Hp)(ex:List Addr)(N':List Str):Cx where
 prog:=X.prog
 w:=X.w
 K:=X.K
 mg:=X.mg
 base:=X.base
 A:=X.A
 N:=x::N'
 s₀:=s0
 H₀:=H0
 env:=Q8 scope (bO X.env scope.names []) C X.env
 outer:=X.stack
 stack:=X.stack
 ex:=ex
 fn:=fun _=>false
 calm:=X.calm
 pn:=[]
 xe:=fun _ _=>False
section
variable {X:Cx}{pins:List (Addr×Obj)}{σ:St}{H:Hp}{s:Oi}{x:Str}{scope:Qg}{N':List Str}
theorem qA(I:Inv X pins σ H s)(S:CS X.env.scope X.N x scope N'):∀y∈scope.names,y.2=.free->∃c,X.env.cells.lookup y.1=some c:=fun y hy e=>
 I.ok.has y.1 (S.free y hy e)
theorem vD(I:Inv X pins σ H s)(S:CS X.env.scope X.N x scope N')(e:(bO X.env scope.names []).lookup y=some c):X.env.cells.lookup y=some c:=pO _ [] y c (fun _ _ z=>by simp at z) (qA I S) e
theorem wR(I:Inv X pins σ H s)(S:CS X.env.scope X.N x scope N')(e:(y,Pr)∈scope.names):∃c,(bO X.env scope.names []).lookup y=some c/\X.env.cells.lookup y=some c:=by
 obtain⟨c,hc⟩:=Rn.mp (pX  _ [] y e);exact⟨c,hc,vD I S hc⟩
theorem ux(I:Inv X pins σ H s)(S:CS X.env.scope X.N x scope N')(hf:∀b∈fp,cU X pins H b)(ho:∀b∈fp,∃o,s.heap.get? b=some o)
  (Ht:h'.Ns (s.heap.push oD).objs.size m) (Yy:Qi (s.heap.push oD).objs.size ((s.heap.push oD).push oC) h') :
  Inv (bZ X x scope (s.heap.push oD).objs.size { s with heap:=s.heap.push oD } H (s.heap.objs.size::fp) N') [] (none::σ) H { s with heap:=h',toks:=tk }:=by
 have I3:Inv X pins σ H { s with heap:=s.heap.push oD,toks:=s.toks }:=I.kept fun b o e=>Og _ e;have hC:(s.heap.push oD).objs.size=s.heap.objs.size+1:=P5 ..
 have HH:∀b o,(s.heap.push oD).get? b=some o->h'.get? b=some o:=fun b o e=>
  (Yy.2 b (OI (Ow e))).trans (Og _ e)
 have up:∀b o,s.heap.get? b=some o->h'.get? b=some o:=fun b o e=>HH b o (Og _ e);have cl:=fun {y c} e=>vD (y:=y) (c:=c) I S e
 have FN:∀y c,X.env.cells.lookup y=some c->c<s.heap.objs.size:=fun y c e=>let ⟨v,q⟩:=I.cell y c e;q.lt
 have inner:∀{y:Str}{k':QK},(R4 scope X.env).names.lookup y=some k'->(k'=.cell\/k'=.free)->(y,Pr)∈scope.names:=fun {y k'} e hk=>by
  obtain⟨k,mem,r⟩:=jD e
  rcases r with r|⟨r,_⟩
  .rcases hk with z|z
   .exact absurd (r.symm.trans z) (S.nocell _ mem)
   .simp_all
  .simp_all
 have ok:(bZ X x scope (s.heap.push oD).objs.size { s with heap:=s.heap.push oD } H (s.heap.objs.size::fp) N').Ok:=by
  refine⟨I.ok.mod,S.kind,I.ok.glob,I.ok.blt,Oo _,fun y z c e1 e2=>I.ok.inj y z c (cl e1) (cl e2),fun y hk=>?_,fun y c e=>(nomatch e),I.ok.hd,I.ok.frames,.inl rfl,fun b hb=>?_,fun b o e=>?_,
   OC (OC I.ok.bsz I.sz) (by simp_all),fun b o e hb=>?_,fun b hb z=>?_,I3.stack,I.stkFree⟩
  .have mem:(y,Pr)∈scope.names:=by
    rcases hk with z|z
    .exact inner z (.inl rfl)
    .exact inner z (.inr rfl)
   obtain⟨c,hc,_⟩:=wR I S mem;exact⟨c,hc⟩
  .rcases Ox.mp hb with e|e
   .subst e
    exact⟨by show s.heap.objs.size≠(s.heap.push oD).objs.size;lia,fun y c e=>OI (FN y c (cl e))⟩
   .obtain⟨o,q⟩:=ho b e
    have q2:=Ow q;exact⟨by show b≠(s.heap.push oD).objs.size;rw[hC];exact OI (QL q2),fun y c e'=>(hf b e).2.2.2.2.1 y c (cl e')⟩
  .exact⟨Og _ (I.bs b o e).1,(I.bs b o e).2⟩
  .rcases Ox.mp hb with z|z
   .have q2:=Ow (I.bs b o e).1
    rw[z] at q2;exact Pp _ q2
   .rcases(hf b z).2.2.2.1 with q|q
    .exact I.ok.noex b o e q
    .have q2:=Ow (I.ok.bs b o e).1
     exact Pp _ (OH q2 q)
  .have z':=I.stkSub b z
   rcases Ox.mp hb with e|e
   .subst e
    rcases Ox.mp z' with q|q
    .have q2:=I.lt
     rw[←q] at q2;exact Pp _ q2
    .exact I.nofs (Oo _) q
   .rcases Ox.mp z' with q|q
    .exact(hf b e).2.1 q
    .exact(hf b e).2.2.1 q
 obtain⟨mo,BA,hlo⟩:=I.loc;refine⟨ok,rfl,I.bare,Un.kept HH,⟨m,Ht,fun i y v e1 e2 e3=>?_⟩,fun y c e=>?_,I.hok.fresh (by show s.heap.objs.size<=(s.heap.push oD).objs.size;lia),fun y c e=>I.freeC y c (cl e),fun p hp=>absurd hp (by simp),I.hok.kept up,?_⟩
 .cases i with
  |zero=>simp at e2
  |succ j=>
   have HZ:N'[j]? = some y:=by simpa using e1
   have FU:∃k,(y,k)∈scope.names:=by
    rcases(show A0 (R4 scope X.env) y from e3) with z|z|z <;> exact let ⟨k,mem,_⟩:=jD z;⟨k,mem⟩
   have EO:X.N[j]? = some y:=by
    rcases S.at HZ with z|z
    .exact z
    .obtain⟨k,mem⟩:=FU
     exact absurd rfl (z _ mem)
   have Bn:σ[j]? = some (some v):=by simpa using e2
   have yx:y≠x:=fun z=>by
    have nd:=S.nd;rw[Q6] at nd;refine nd.1 ?_;rw[←z];exact OA HZ
   have kin:((R4 scope X.env).names.lookup y=some .cell\/(R4 scope X.env).names.lookup y=some .free):=by
    rcases(show A0 (R4 scope X.env) y from e3) with z|z|z
    .obtain⟨k,mem,r⟩:=jD z
     rcases r with r|⟨_,r⟩
     .rcases S.only _ mem r.symm with z2|z2
      .exact absurd z2 yx
      .exact absurd (OA HZ) (by rw[show y=(".0" : Str) from z2];exact S.n0)
     .cases r
    .exact .inl z
    .exact .inr z
   have mem:(y,Pr)∈scope.names:=by
    rcases kin with z|z
    .exact inner z (.inl rfl)
    .exact inner z (.inr rfl)
   have vo:A0 X.env.scope y:=by
    rcases S.free _ mem rfl with z|z
    .exact .inr (.inl z)
    .exact .inr (.inr z)
   obtain⟨u,ru,lk⟩:=hlo j y v EO Bn vo;refine⟨u,ru,.inr ⟨kin,?_⟩⟩;obtain⟨c,hc,YK⟩:=wR I S mem;refine⟨c,hc,?_⟩
   rcases lk with⟨z,_⟩|⟨_,c2,z2,q⟩
   .exfalso
    have z':X.env.scope.names.lookup y=some .local:=z
    rcases S.free _ mem rfl with r|r <;> (rw[z'] at r;cases r)
   .rw[YK] at z2
    cases z2;obtain⟨o,q1,q2⟩:=q;exact⟨o,up _ _ q1,q2⟩
 .obtain⟨v,o,q1,q2⟩:=I.cell y c (cl e)
  exact⟨v,o,up _ _ q1,q2⟩
 .have:=I.len
  simp[this,S.len]
theorem uw(I:Inv X pins σ H s)(hf:∀b∈fp,cU X pins H b)
  (EF:C=(s.heap.push oD).objs.size) (J:Inv (bZ X x scope C { s with heap:=s.heap.push oD } H (s.heap.objs.size::fp) N') Zf σ' H1 s1) (Yy:Qi C s1.heap h') (hD0:H1 s.heap.objs.size=none)
  (new:∃Xr n,Xv ys Xr/\s1.heap.get? s.heap.objs.size=some { cls:=.type "list",data:=.seq Xr.toArray n }) (hz:ys.length<=Om) :
  Inv X pins σ (upd H1 s.heap.objs.size (.lst ys)) { s1 with heap:=h' }:=by
 have hC:C=s.heap.objs.size+1:=by simp_all
 have nD:∀b o,s.heap.get? b=some o->b≠s.heap.objs.size:=fun b o e=>OI (Ow e)
 have nC:∀b o,s.heap.get? b=some o->b≠C:=fun b o e=>by rw[hC];exact OI (QL (Ow e))
 have up:∀b o,s.heap.get? b=some o->(s.heap.push oD).get? b=some o:=fun b o e=>Og _ e;have nx:∀b,b∉fp->b≠s.heap.objs.size->b∉s.heap.objs.size::fp:=fun b h1 h2 z=>(Ox.mp z).elim h2 h1
 have Dy:s.heap.objs.size≠C:=by simp_all
 have tr:∀b u,H1 b=some u->b≠s.heap.objs.size:=fun b u e z=>by simp_all
 have Eo:∀b u,H1 b=some u->b≠C:=fun b u e z=>by
  have:=J.free;rw[z] at e;have q:H1 C=none:=J.free;rw[q] at e;cases e
 obtain⟨Xr,n,rv,eD⟩:=new;have B:=J.base;refine I.call' (s':={ s1 with heap:=h' }) (ch:=fp) J.os ⟨fun b o e q h1 h2=>?_,fun b o e q h1 h2=>?_,fun b o e q h2=>?_,fun b o e h2=>?_,fun b xs e=>?_,fun b o u e=>?_,fun b ps e=>?_⟩ (fun b u e=>?_) J.bare fun b hb=>?_
 .exact(Yy.2 b (nC b o e)).trans (B.keep b o (up b o e) q h1 (nx b h2 (nD b o e)))
 .obtain⟨sl,z⟩:=B.slot b o (up b o e) q h1 (nx b h2 (nD b o e))
  exact⟨sl,(Yy.2 b (nC b o e)).trans z⟩
 .rw[aK (nD b o e)]
  exact B.free b o (up b o e) q (nx b h2 (nD b o e))
 .obtain⟨o',z⟩:=B.there b o (up b o e) (nx b h2 (nD b o e))
  exact⟨o',(Yy.2 b (nC b o e)).trans z⟩
 .have z:=B.tups b xs e
  rw[aK (tr b _ z)];exact z
 .have z:=B.frzs b o u e
  rw[aK (tr b _ z)];exact z
 .obtain⟨more,z⟩:=B.tbls b ps e
  exact⟨more,by rw[aK (tr b _ z)];exact z⟩
 .by_cases hb:b=s.heap.objs.size
  .subst hb
   rw[bj] at e;cases e;exact⟨hz,Xr,n,rv,(Yy.2 _ Dy).trans eD⟩
  .rw[aK hb] at e
   refine(J.hok b u e).stay (fun c v hc q=>(Yy.2 c ?_).trans q) (fun c q=>by rw[aK (tr c _ q)];exact q) fun c xs q=>by rw[aK (tr c _ q)];exact q
   rcases hc with z|z
   .rw[z];exact Eo b u e
   .exact Eo c _ z
 .obtain⟨_,f1,_,f3,f4,f5⟩:=hf b hb
  exact⟨f3,f1,f4,f5⟩
end
def Ci(X:Cx)(ifs:List Expr)(t:TT):Prop:=
 ∀(pins:List (Addr×Obj)) (s:Oi) (σ:St) (H:Hp) (Q:Bool->Hp->Prop) (E:Oc->Oi->Prop),Inv X pins σ H s->t σ H Q ->
  OG (OJ X.prog X.w) X.A (forIn ifs true fun c r=>if r=true then do
   let ok ←VA c X.env (eval c X.env)
   pure (Q7 ok) else pure (Q7 r)) (TP X pins σ Q) E s
theorem zeh:Ci X [] (fun _ H Q=>Q true H):=fun _ _ _ H _ _ I h=>wpAny_tests_nil ⟨H,I,h⟩
theorem zei(hx:X.xe=fun _ _=>False)(h:PT X c t):Ci X [c] t:=fun pins s σ H Q _ I q=>
 wpAny_tests_one (Pw (h pins s σ H Q I q) (fun _ _ z=>z) fun e s' z=>by simp_all)
def oO(σ:St)(J:It)(tt:TT)(te:TE)(W:Nat->Nat->List V->Hp->Prop)(D:List V->Hp->Prop):Prop:=∀i m ys H,W i m ys H ->
 (J.stop i H/\ys.length<=Om/\D ys H)\/(J.go i H/\ys.length<Om/\∃N:List V->Hp->Prop,(∀Es H',N Es H'->∃m',m' < m/\W (i+1) m' Es H')/\∀v H',J.yld i H v H'->tt (some v::σ) H' fun b H2=>
  if b=true then te (some v::σ) H2 fun y H3=>N (ys++[y]) H3 else N ys H2)
section
variable {X:Cx}{pins:List (Addr×Obj)}{σ:St}{H:Hp}{s:Oi}{x:Str}{scope:Qg}{N':List Str}{elt iter:Expr}{ifs:List Expr}{px pos:Pos}{wi:TI}{te:TE}{tt:TT}
theorem vB{fp:List Addr}{it C:Addr}{tn:Nat->Heap->Prop}{J:It}{oD:Obj}{elt iter:Expr}{ifs:List Expr}{px pos:Pos}{te:TE}{tt:TT}{W:Nat->Nat->List V->Hp->Prop}{Dn:List V->Hp->Prop}
  {R:W0->Oi->Prop}{σ':St}{s4:Oi}{m0:Nat} (AX:X.calm=true) (S:CS X.env.scope X.N x scope N') (hf:∀b∈fp,cU X pins H b) (ho:∀b∈fp,∃o,s.heap.get? b=some o) (EF:C=(s.heap.push oD).objs.size)
  (T:Turn X.prog X.w X.K (.Name x px) J fp it tn) (I4:Inv (bZ X x scope C { s with heap:=s.heap.push oD } H (s.heap.objs.size::fp) N') [] (none::σ) H s4) (Br:tn 0 s4.heap) (CY:s4.heap.get? s.heap.objs.size=some { cls:=.type "list",data:=.seq #[] 0 })
  (Hb:H s.heap.objs.size=none) (G4:PE (bZ X x scope C { s with heap:=s.heap.push oD } H (s.heap.objs.size::fp) N') elt te) (Fd:Ci (bZ X x scope C { s with heap:=s.heap.push oD } H (s.heap.objs.size::fp) N') ifs tt)
  (w0:W 0 m0 [] H) (turn:oO σ J tt te W Dn)
  (hR:∀s1 H1 Z0 ys Xr n,Inv (bZ X x scope C { s with heap:=s.heap.push oD } H (s.heap.objs.size::fp) N') [] Z0 H1 s1->H1 s.heap.objs.size=none->Xv ys Xr->s1.heap.get? s.heap.objs.size=some { cls:=.type "list",data:=.seq Xr.toArray n }->ys.length<=Om->Dn ys H1->R (.ok .next) s1) :
  SY (OJ X.prog X.w) X.A (.compLoop (.ListComp elt [⟨.Name x px,iter,ifs,0⟩] scope pos) 0 (.ref it) (.ref s.heap.objs.size) (Q8 scope (bO X.env scope.names []) C X.env)) R s4:=by
 have hC:C=s.heap.objs.size+1:=by rw[EF];exact P5 ..
 generalize hX:bZ X x scope C { s with heap:=s.heap.push oD } H (s.heap.objs.size::fp) N'=X' at *
 have xP:X'.prog=X.prog:=by rw[←hX]
 have xW:X'.w=X.w:=by rw[←hX]
 have xK:X'.K=X.K:=by rw[←hX]
 have xA:X'.A=X.A:=by rw[←hX]
 have xE:X'.env=Q8 scope (bO X.env scope.names []) C X.env:=by rw[←hX]
 have xC:X'.calm=true:=by rw[←hX];exact AX
 have Ce:X'.ex=s.heap.objs.size::fp:=by rw[←hX]
 have KL:X'.pn=[]:=by rw[←hX]
 have J1:X'.xe=fun _ _=>False:=by rw[←hX]
 have xN:X'.N=x::N':=by rw[←hX]
 have xL:X'.env.locals=C:=by rw[xE];rfl
 have Gb:X'.env.scope.names.lookup x=some .local:=by rw[xE];exact R5 S.hx
 have lt:∀b∈fp,b<s.heap.objs.size:=fun b hb=>let ⟨_,e⟩:=ho b hb;Ow e
 have Bt:∀{pl:List (Addr×Obj)}{H':Hp},(∀p∈pl,p.1=s.heap.objs.size)->(∀b∈fp,H' b=none)->∀b∈fp,cU X' pl H' b:=fun {pl H'} hp hn b hb=>by
  have Z3:=I4.ok
  have hm:b∈X'.ex:=by rw[Ce];exact Of _ hb
  refine⟨hn b hb,(Z3.exf b hm).1,Z3.exfs b hm,.inl hm,(Z3.exf b hm).2,fun p X7 z=>?_⟩;rw[KL] at X7;have q1:=hp p (by simpa using X7);have q2:=lt b hb;rw[←z,q1] at q2;exact Pp _ q2
 have Et:∀{pl:List (Addr×Obj)}{H':Hp},(∀p∈pl,p.1∈fp)->H' s.heap.objs.size=none->cU X' pl H' s.heap.objs.size:=fun {pl H'} hp hn=>by
  have Z3:=I4.ok
  have hm:s.heap.objs.size∈X'.ex:=by rw[Ce];exact Oh
  refine⟨hn,(Z3.exf _ hm).1,Z3.exfs _ hm,.inl hm,(Z3.exf _ hm).2,fun p X7 z=>?_⟩;rw[KL] at X7;have q2:=lt p.1 (hp p (by simpa using X7));rw[z] at q2;exact Pp _ q2
 refine codeAny_compLoop_tests (I:=fun m s'=>∃i Y7 H' ys Xr n,Inv X' [] (Y7::σ) H' s'/\tn i s'.heap/\(∀b∈fp,H' b=none)/\H' s.heap.objs.size=none/\Xv ys Xr/\s'.heap.get? s.heap.objs.size=some { cls:=.type "list",data:=.seq Xr.toArray n }/\W i m ys H') ?_ m0
  ⟨0,none,H,[],[],0,I4,Br,fun b hb=>(hf b hb).1,Hb,.nil,CY,w0⟩
 rintro m s5 ⟨i,Y7,H5,ys,Xr,n,I5,Ds,AA,d5,rv,e5,w5⟩
 have J4:Inv X' ([]++eW [s.heap.objs.size] s5.heap) (Y7::σ) H5 s5:=I5.pinned (fun b hb=>by
   have e:b=s.heap.objs.size:=by simpa using hb
   rw[e];exact Et (fun p hp=>absurd hp (by simp)) d5) fun b hb=>by
   have e:b=s.heap.objs.size:=by simpa using hb
   rw[e];exact⟨_,e5,fun v z=>by cases z⟩
 have pD:([]++eW [s.heap.objs.size] s5.heap:List (Addr×Obj))=[(s.heap.objs.size,{ cls:=.type "list",data:=.seq Xr.toArray n })]:=by
  simp[eW,e5]
 rw[pD] at J4
 have p1:∀p∈[(s.heap.objs.size,({ cls:=.type "list",data:=.seq Xr.toArray n }:Obj))],p.1=s.heap.objs.size:=fun p hp=>by
  have e:p=(s.heap.objs.size,{ cls:=.type "list",data:=.seq Xr.toArray n }):=by simpa using hp
  rw[e]
 have hsz:Xr.length=ys.length:=rv.length.symm
 rcases turn i m ys H5 w5 with⟨stop,hz,dn⟩|⟨go,hz,N,hN,step⟩
 .have q:=T.done X' xP xW xK xC i _ s5 (Y7::σ) H5 (Rw (OJ X.prog X.w) X.A (Q8 scope (bO X.env scope.names []) C X.env) fun e s'=>R (.error e) s') J4 (Bt p1 AA) Ds stop
  rw[xA] at q;refine Pw q (fun r s6 z=>?_) fun _ _ z=>z;obtain⟨rfl,I6⟩:=z;refine hR s6 H5 (Y7::σ) ys Xr n ?_ d5 rv (I6.pin _ (OE _ (OK.mpr rfl))).1 hz dn;exact I6.pins_of fun p hp=>absurd hp (by simp)
 .have q:=T.item X' xP xW xK xC i _ s5 (Y7::σ) H5 (Rw (OJ X.prog X.w) X.A (Q8 scope (bO X.env scope.names []) C X.env) fun e s'=>R (.error e) s') J4 (Bt p1 AA) Ds go
  rw[xA] at q;refine Pw q (fun r s6 z=>?_) fun _ _ z=>z;obtain⟨u,rfl,z⟩:=z;dsimp only;have z':OG (OJ X.prog X.w) X.A (pure ()) _ _ s6:=z;refine Oe (m:=pure ()) (f:=fun _=>Wg (.Name x px) (Q8 scope (bO X.env scope.names []) C X.env) u) (Pw z' (fun _ s7 z=>?_) fun _ _ z=>z);obtain⟨v,H7,I7,IA,y7,Jq,HY⟩:=z;have EJ:=I7.pinned (Bt p1 HY) (T.obj _ _ Jq);rw[←xE]
  have nd:X'.N.Nodup:=by rw[xN];exact S.nd
  have hi0:X'.N[0]? = some x:=by rw[xN];rfl
  refine SV (qv (E:=Rw (OJ X.prog X.w) X.A X'.env fun e s'=>R (.error e) s') (i:=0) EJ nd hi0 (.inl Gb) IA (fun s8 I8=>?_) (.inr Gb));have I8':Inv X' _ (some v::σ) H7 s8:=I8;have t8:=Fd _ s8 (some v::σ) H7 _ (Rw (OJ X.prog X.w) X.A X'.env fun e s'=>R (.error e) s') I8' (step v H7 y7);rw[xP,xW,xA] at t8;refine Pw t8 (fun ok s9 z=>?_) fun _ _ z=>z;obtain⟨H9,I9,q9⟩:=z
  have back:∀{s':Oi}{H':Hp}{YW:St},Inv X' ([(s.heap.objs.size,({ cls:=.type "list",data:=.seq Xr.toArray n }:Obj))]++eW fp s7.heap) YW H' s' ->
    tn (i+1) s'.heap/\(∀b∈fp,H' b=none)/\H' s.heap.objs.size=none/\s'.heap.get? s.heap.objs.size=some { cls:=.type "list",data:=.seq Xr.toArray n }/\Inv X' [] YW H' s':=fun {s' H' YW} I'=>by
   refine⟨T.keep _ _ _ Jq fun b hb o e=>(I'.pin (b,o) (OE _ (OE _ (jG hb e)))).1,fun b hb=>?_,?_,?_,I'.pins_of fun p hp=>absurd hp (by simp)⟩
   .obtain⟨o,e,_⟩:=T.obj _ _ Jq b hb
    exact(I'.pin (b,o) (OE _ (OE _ (jG hb e)))).2.1
   .exact(I'.pin (s.heap.objs.size,_) (OE _ (Pb _ (OK.mpr rfl)))).2.1
   .exact(I'.pin (s.heap.objs.size,_) (OE _ (Pb _ (OK.mpr rfl)))).1
  cases ok with
  |false=>
   simp only[PX,if_false] at q9 ⊢;obtain⟨m',hm,w9⟩:=hN _ _ q9;obtain⟨a1,a2,a3,a4,a5⟩:=back I9;exact⟨m',hm,i+1,some v,H9,ys,Xr,n,a5,a1,a2,a3,rv,a4,w9⟩
  |true=>
   simp only[if_true] at q9 ⊢;have t9:=G4 _ s9 (some v::σ) H9 _ I9 q9;rw[xP,xW,xA,J1] at t9;refine Pw t9 (fun u2 Fs z=>?_) fun _ _ z=>z.elim;obtain⟨y,J3,CO,Ik,Il⟩:=z;obtain⟨m',hm,EQ⟩:=hN _ _ Il;obtain⟨a1,a2,a3,a4,a5⟩:=back CO;refine Tg ⟨n,a4⟩ (fun h' pl sb=>?_) (by rw[Pg];omega);obtain⟨n',e'⟩:=pl;have D0:=Et (pl:=[]) (fun p hp=>absurd hp (by simp)) a3;refine⟨m',hm,i+1,some v,J3,ys++[y],Xr++[u2],n',a5.turned (t':=Fs.toks) (fun b o hb e=>(sb.2 b hb).trans e) D0.1 D0.2.1 D0.2.2.2.1 D0.2.2.2.2.1 D0.2.2.2.2.2,?_,a2,a3,rv.append (.cons Ik .nil),by simpa using e',EQ⟩;exact T.keep _ _ _ a1 fun b hb o e=>(sb.2 b (OI (lt b hb))).trans e
noncomputable def zl(wi:TI)(tt:TT)(te:TE):TE:=fun σ H Q=>wi σ H fun J H1=>∃W:Nat->Nat->List V->Hp->Prop,(∃m,W 0 m [] H1)/\oO σ J tt te W fun ys H=>∀p,H p=none->Q (.ref p) (upd H p (.lst ys))
theorem zej(hc:X.calm=true)(S:CS X.env.scope X.N x scope N')(hi:PI X (.Name x px) iter wi)(he:∀C s0 H0 ex,PE (bZ X x scope C s0 H0 ex N') elt te)
  (ht:∀C s0 H0 ex,Ci (bZ X x scope C s0 H0 ex N') ifs tt) (hs:autoParam (∀v,Pc iter X.env v=pure v) u16):PE X (.ListComp elt [⟨.Name x px,iter,ifs,0⟩] scope pos) (zl wi tt te):=by
 intro pins s σ H Q I h;refine Rq  rfl hs (pW (qA I S)) S.kind S.names (XD (hi pins s σ H _ I h) fun v s1 h1=>XD h1 fun Bs s2 h2=>?_);obtain⟨it,fp,tn,J,H2,rfl,I2,T,Cv,f2,W,⟨m0,w0⟩,turn⟩:=h2
 have ho:∀b∈fp,∃o,s2.heap.get? b=some o:=fun b hb=>let ⟨o,e,_⟩:=T.obj _ _ Cv b hb;⟨o,e⟩
 refine Pd (R6 S.nocell (by simp) (fun h' Ht Yy=>?_) S.kind);have I4:=ux (x:=x)  (tk:=s2.toks+([]:List (Str×Oc)).length) I2 S f2 ho Ht Yy
 have HH:∀b o,(s2.heap.push { cls:=.type "list",dict:=none,data:=.seq _ }).get? b=some o->h'.get? b=some o:=fun b o e=>
  (Yy.2 b (OI (Ow e))).trans (Og _ e)
 have Br:=T.keep _ _ _ Cv fun b _ o e=>HH b o (Og _ e)
 have loop:=vB  (iter:=iter)  (pos:=pos) (R:=compPost (OJ X.prog X.w) X.A X.xe none (EP X pins σ Q) _ _) (σ':=σ)
  hc S f2 ho rfl T I4 Br (HH _ _ (Oy _ rfl)) (I2.hok.fresh (Oo _)) (he _ _ _ _) (ht _ _ _ _) w0 turn fun s5 H5 BQ ys Xr n J5 d5 rv e5 hz dn=>by
   obtain⟨m,hn,_⟩:=J5.loc;exact⟨m,hn,fun GJ sb=>⟨.ref _,_,uw I2 f2 rfl J5 sb d5 ⟨Xr,n,rv,e5⟩ hz,rfl,dn _ d5⟩⟩
 exact RM loop (T.self X.A 0 _ _ _ Br loop)
noncomputable def Jh(i:Nat)(wi:TI)(tt:TT)(te:TE):TS:=fun D σ H=>wi σ H fun J H1=>∃W:Nat->Nat->List V->Hp->Prop,(∃m,W 0 m [] H1)/\oO σ J tt te W fun ys H=>∀p,H p=none->D.nx (σ.set i (some (.ref p))) (upd H p (.lst ys))
theorem zek(hc:X.calm=true)(S:CS X.env.scope X.N x scope N')(hN:X.N.Nodup)(Zm:X.N[i]? = some y)(hy:Loc X.env.scope y)(EE:X.fn y=true\/X.env.scope.names.lookup y=some .local)
  (hi:PI X (.Name x px) iter wi) (he:∀C s0 H0 ex,PE (bZ X x scope C s0 H0 ex N') elt te)
  (ht:∀C s0 H0 ex,Ci (bZ X x scope C s0 H0 ex N') ifs tt) (JU:PB (.ListComp elt [⟨.Name x px,iter,ifs,0⟩] scope pos) (some (.Name y py)) ZG.line X.env=pure true) (hs:autoParam (∀v,Pc iter X.env v=pure v) u16) :
  PS X (.Assign [.Name y py] (.ListComp elt [⟨.Name x px,iter,ifs,0⟩] scope pos) ZG) (Jh i wi tt te):=by
 intro pins s σ H D I h;rw[exec_Assign_Name_used _ _ _ _ JU];refine Oe (wpAny_standAt (Oe ?_));refine Oe (Pw (Rq (use:=some (Wg (.Name y py) X.env)) (Q:=fun _ s'=>SP X pins D .next s') rfl hs (pW (qA I S)) S.kind S.names (XD (hi pins s σ H _ I h) fun v s1 h1=>XD h1 fun Bs s2 h2=>?_)) (fun _ _ q=>Ot (Ot q)) fun _ _ q=>q);obtain⟨it,fp,tn,J,H2,rfl,I2,T,Cv,f2,W,⟨m0,w0⟩,turn⟩:=h2
 have ho:∀b∈fp,∃o,s2.heap.get? b=some o:=fun b hb=>let ⟨o,e,_⟩:=T.obj _ _ Cv b hb;⟨o,e⟩
 refine Pd (R6 S.nocell (by simp) (fun h' Ht Yy=>?_) S.kind);have I4:=ux (x:=x) (scope:=scope) (tk:=s2.toks+([]:List (Str×Oc)).length) I2 S f2 ho Ht Yy
 have HH:∀b o,(s2.heap.push { cls:=.type "list",dict:=none,data:=.seq ([]:List Oc).toArray }).get? b=some o->h'.get? b=some o:=fun b o e=>
  (Yy.2 b (OI (Ow e))).trans (Og _ e)
 have Br:tn 0 h':=T.keep _ _ _ Cv fun b _ o e=>HH b o (Og _ e)
 have Kh:s2.heap.objs.size<=(s2.heap.push { cls:=.type "list",dict:=none,data:=.seq ([]:List Oc).toArray }).objs.size:=by simp
 have Dy:(s2.heap.push { cls:=.type "list",dict:=none,data:=.seq ([]:List Oc).toArray }).objs.size≠s2.heap.objs.size:=by rw[P5];lia
 have loop:=vB (elt:=elt) (iter:=iter) (ifs:=ifs) (pos:=pos) (R:=compPost (OJ X.prog X.w) X.A X.xe (some (Wg (.Name y py) X.env)) (fun _ s'=>SP X pins D .next s') (.ref s2.heap.objs.size) (s2.heap.push { cls:=.type "list",dict:=none,data:=.seq ([]:List Oc).toArray }).objs.size) (σ':=σ)
  hc S f2 ho rfl T I4 Br (HH _ _ (Oy _ rfl)) (I2.hok.fresh (Oo _)) (he _ _ _ _) (ht _ _ _ _) w0 turn fun s5 H5 BQ ys Xr n J5 d5 rv e5 hz dn=>by
   have J6:=uw I2 f2 rfl J5 (Xp _ _) d5 ⟨Xr,n,rv,e5⟩ hz;obtain⟨m,hn,_⟩:=J5.loc;refine SV (uP (u:=.ref s2.heap.objs.size) J6 hN Zm hy (show RelV (.ref s2.heap.objs.size) _ from rfl) (fun s7 I7 ⟨a,sb,ha⟩=>?_) EE)
   have hCa:(s2.heap.push { cls:=.type "list",dict:=none,data:=.seq ([]:List Oc).toArray }).objs.size≠a:=by
    rcases ha with z|z
    .rw[z]
     exact So (OH I2.lt Kh)
    .obtain⟨v,q⟩:=I2.cell _ _ z
     exact So (OH q.lt Kh)
   have hn5:H5 (s2.heap.push { cls:=.type "list",dict:=none,data:=.seq ([]:List Oc).toArray }).objs.size=none:=J5.free;have fk:=I2.fpOk (b:=(s2.heap.push { cls:=.type "list",dict:=none,data:=.seq ([]:List Oc).toArray }).objs.size) (H':=upd H5 s2.heap.objs.size (.lst ys)) Kh (by rw[aK Dy];exact hn5);refine⟨m,hn.sameBut sb hCa,fun GJ sb2=>⟨_,_,I7.turned (t':=s7.toks) (fun b o hb e=>(sb2.2 b hb).trans e) fk.1 fk.2.1 fk.2.2.2.1 fk.2.2.2.2.1 fk.2.2.2.2.2,dn _ d5⟩⟩
 exact RM loop (T.self X.A 0 _ _ _ Br loop)
end
noncomputable def B8(z:Str):It:=⟨fun i _=>i<z.cps.size,fun i H v H'=>H'=H/\∃c,z.cps[i]? = some c/\v=.str ⟨#[c]⟩,fun i _=>z.cps.size<=i⟩
theorem vN{P:Oz}{w:OO}{K:Frag}{tg:Expr}(z:Str)(t:Tok)(ty:String)(it:Addr)(Ie:ty="str_ascii_iterator"\/ty="str_iterator") :
  Turn P w K tg (B8 z) [it] it (fun i h=>h.IsStrIter it ty z t i) where
 mem:=by simp
 obj:=fun i h st b hb=>by
  have e:b=it:=by simpa using hb
  subst e;obtain⟨o,e,c,d⟩:=st;exact⟨o,e,fun v q=>by lia⟩
 keep:=fun i h h' st k=>let ⟨o,e,r⟩:=st;⟨o,k it (by simp) o e,r⟩
 item:=by
  intro X hP hw hK hc i pins s σ H E I hf st hg;subst hP hw hK;have hi:i<z.cps.size:=hg;obtain⟨f0,f1,f2,f3,f4,f5⟩:=hf it (by simp)
  have fin:∀h',h'.IsStrIter it ty z t (i+1)->Qi it s.heap h'->∃u,(some (Sx ⟨#[z.cps[i]]⟩ s.toks):Option Oc)=some u /\
    OG (OJ X.prog X.w) X.A (R9 tg (.ref it) u) (fun _ s2=>∃x H',Inv X pins σ H' s2/\RelV x u/\(B8 z).yld i H x H'/\s2.heap.IsStrIter it ty z t (i+1)/\∀b∈[it],H' b=none) E { s with heap:=h',toks:=s.toks+1 }:=fun h' Hk sb=>by
   have I1:Inv X pins σ H { s with heap:=h',toks:=s.toks+1 }:=I.turned (fun b o hb e=>(sb.2 b hb).trans e) f0 f1 f3 f4 f5;obtain⟨o,e,c,d⟩:=id Hk;refine⟨_,rfl,mj (s:={ s with heap:=h',toks:=s.toks+1 }) (n:=ty) e c d ?_ ⟨.str ⟨#[z.cps[i]]⟩,H,I1,⟨_,rfl⟩,⟨rfl,z.cps[i],by simp[hi],rfl⟩,Hk,fun b hb=>(hf b hb).1⟩⟩
   rcases Ie with e|e <;> (rw[e];decide)
  rcases Ie with e|e
  .subst e
   exact wpAny_pyNext_ascii_item st (c:=z.cps[i]) (by simp[hi]) fin
  .subst e
   exact wpAny_pyNext_wide_item st (c:=z.cps[i]) (by simp[hi]) fin
 done:=by
  intro X hP hw hK hc i pins s σ H E I hf st hg;subst hP hw hK;have hi:z.cps.size<=i:=hg;obtain⟨f0,f1,f2,f3,f4,f5⟩:=hf it (by simp);have fin:∀h',VX it s.heap h'->(none:Option Oc)=none/\Inv X pins σ H { s with heap:=h' }:=fun h' eb=>⟨rfl,I.turned (t':=s.toks) (fun b o hb e=>eb b o hb e) f0 f1 f3 f4 f5⟩
  rcases Ie with e|e
  .subst e
   exact wpAny_pyNext_ascii_end (I.ok.hd hc) st (by simp;omega) fin
  .subst e
   exact wpAny_pyNext_wide_end (I.ok.hd hc) st (by simp;omega) fin
 self:=fun _ _ _ _ _ st h=>by
  rcases Ie with e|e
  .subst e
   exact wpAny_pyIter_striter_ascii st h
  .subst e
   exact wpAny_pyIter_striter_wide st h
theorem all_range(bs:List Bool)(n:Nat)(hn:n=bs.length):(QN n).all (fun i=>bs.getD i false)=bs.all id:=by
 subst hn;rw[P9,Ou,Ou];constructor
 .intro h b hb
  obtain⟨i,hi,rfl⟩:=Sn hb<;>simp_all
 .intro h i hi
  have Zm:=Uw.mp hi
  have:=h bs[i] (List.getElem_mem Zm)<;>simp_all
theorem ud:∀(ns:List Int) (k:Nat),k<=ns.length->preSum (fun i=>ns.getD i 0) k=(ns.take k).sum
 |ns,0,_=>rfl
 |ns,k+1,h=>by
  have hk:k<ns.length:=h;have ih:=ud ns k (Tw hk)
  have e:(ns.take (k+1)).sum=(ns.take k).sum+ns.getD k 0:=by
   rw[S2,List.sum_append]<;>simp_all
  rw[e,←ih];rfl
section
variable {X:Cx}
theorem zel(hc:X.calm=true):XW X (.builtin "all") (fun xs H Q=>∃(p:Addr) (bs:List Bool),xs=[.ref p]/\Ye X.K H p (bs.map V.bl)/\Q (.bl (bs.all id)) H):=by
 intro pins s σ H xs us Q I r h;obtain⟨p,bs,rfl,hq,q⟩:=h;obtain⟨u,rfl,ru⟩:=vals1 r;cases ru;obtain⟨Xr,rv,pl,hz⟩:=I.list hq
 have XI:=by have:=rv.length;simpa using this.symm
 have Yq:p<s.heap.objs.size:=by
  obtain⟨o,n,e,_⟩:=pl;exact Ow e
 refine call_all_walk (RI pl.isList ?_);refine⟨s.heap.objs.size,_,_,_,_,_,fun i=>bs.getD i false,rfl,Xl (A:=X.A.in1) (I.ok.hd hc) _ p (OI Yq) Xr.toArray,⟨⟨_,Oy _ rfl,rfl,rfl⟩,?_⟩,fun i v s' Q' E' hv hQ'=>?_,fun h' tk hk=>?_⟩
 .obtain⟨o,n,e,r⟩:=pl.isList
  exact⟨o,Og _ n,e,r⟩
 .have hi:=by
   have:=(SE.mp hv).1;simpa using this
  have AI:i<bs.length:=by lia
  obtain⟨u,hu,ru⟩:=rv.get (i:=i) (x:=.bl bs[i]) (by simp[AI])
  have e:v=u:=by simp_all
  subst e;cases (ru)
  refine Pq ?_<;>simp_all
 .have e:(QN Xr.toArray.size).all _=bs.all id:=all_range bs _ (by omega)
  rw[e];exact⟨.bl _,H,I.kept  fun b o q=>hk b o (by simp;exact OI (Ow q)) (Og _ q),rfl,q⟩
theorem zem{ns:List Int}{Xr:List Oc}(rv:Xv (ns.map V.int) Xr){i:Nat}{v:Oc}(hv:Xr.toArray[i]? = some v):∃t,v=.int (ns.getD i 0) t:=by
 have XI:=by have:=rv.length;simpa using this.symm
 have hi:=by
  have:=(SE.mp hv).1<;>omega
 have AI:=by omega
 obtain⟨u,hu,ru⟩:=rv.get (i:=i) (x:=.int ns[i]) (by simp )
 have e:v=u:=by simp_all
 obtain⟨t,e⟩:=(ru)<;>simp_all
theorem zen(hc:X.calm=true):XW X (.builtin "sum") (fun xs H Q=>∃(p:Addr) (ns:List Int),xs=[.ref p]/\Ye X.K H p (ns.map V.int)/\Q (.int ns.sum) H):=by
 intro pins s σ H xs us Q I r h;obtain⟨p,ns,rfl,hq,q⟩:=h;obtain⟨u,rfl,ru⟩:=vals1 r;cases ru;obtain⟨Xr,rv,pl,hz⟩:=I.list hq
 have XI:=by have:=rv.length;simpa using this.symm
 have Yq:p<s.heap.objs.size:=by
  obtain⟨o,n,e,_⟩:=pl;exact Ow e
 refine call_sum_walkG (RI pl.isList ?_);refine⟨s.heap.objs.size,_,_,_,_,_,fun i=>ns.getD i 0,rfl,Xl (A:=X.A.in1) (I.ok.hd hc) _ p (OI Yq) _,⟨⟨_,Oy _ rfl,rfl,rfl⟩,?_⟩,fun b hb=>?_,fun i v hv=>zem rv hv,fun h' tk t' hk=>?_⟩
 .obtain⟨o,n,e,r⟩:=pl.isList
  exact⟨o,Og _ n,e,r⟩
 .rw[P5]
  rcases(by simpa using hb) with e|e
  simp_all
  .rw[e];exact QL Yq
 .have e:preSum (fun i=>ns.getD i 0) Xr.toArray.size=ns.sum:=by
   rw[ud ns _ _]<;>simp_all
  rw[e];exact⟨.int _,H,I.kept  fun b o q=>hk b o (by simp;exact OI (Ow q)) (Og _ q),⟨t',rfl⟩,q⟩
theorem zeo:Yc X (OQ .IsNot) (fun x y H Q=>∃b c,x=.bl b/\y=.bl c/\Q (.bl (b != c)) H):=by
 intro pins s σ H x y v u Q I rx ry h;obtain⟨b,c,rfl,rfl,q⟩:=h;cases rx;cases ry;exact isnot_bool ⟨.bl _,H,I,rfl,q⟩
theorem JX:Yc X (PJ .Add) (fun x y H Q=>∃a b xs ys,x=.ref a/\y=.ref b/\Yn X.K H a xs/\Yn X.K H b ys/\xs.length+ys.length<=Om /\
  (xs=[]->Q (.ref b) H)/\(xs≠[]->ys=[]->Q (.ref a) H)/\(xs≠[]->ys≠[]->∀p,H p=none->Q (.ref p) (upd H p (.tup (xs++ys))))):=by
 intro pins s σ H x y v u Q I rx ry h;obtain⟨a,b,xs,ys,rfl,rfl,ha,hb,hz,q0,q1,q2⟩:=h
 by_cases hx:xs=[]
 .cases rx
  cases ry;obtain⟨Xr,r1,p1,_⟩:=I.tuple ha;obtain⟨Zo,r2,p2,_⟩:=I.tuple hb;have hv:=r1.nil_iff.mpr hx;obtain⟨⟨cls,dd,data,sl⟩,ho,hc,n,hd⟩:=id p1;obtain⟨⟨Ic,Fb,data2,Fk⟩,BY,XC,n2,hd2⟩:=id p2;subst hc hd XC hd2
  exact TH ⟨_,ho,rfl⟩ ⟨_,BY,rfl⟩ Tc UV RL RD (Rp _ _)
   (tuple_addW0 a b _ _ n n2 dd Fb sl Fk (by simp[hv])) ⟨ho,BY,⟨.ref b,H,I,rfl,q0 hx⟩⟩
 .exact zdb pins s σ H _ _ v u Q I rx ry ⟨a,b,xs,ys,rfl,rfl,ha,hb,hx,hz,q1 hx,q2 hx⟩
theorem zep:Ia X (fun x lo hi H Q=>∃z:Str,x=.str z/\z.length<=Om/\Q (.str (Qo z lo hi)) H):=by
 intro pins s σ H x v vl vu lo hi sl Q I rx hs pl pu h;obtain⟨z,rfl,hz,q⟩:=h;obtain⟨t,rfl⟩:=rx
 have fin:∀l u:Option (Int×Tok),l.map (·.1)=lo->u.map (·.1)=hi->s.heap.IsSlice sl l u none->OG (OJ X.prog X.w) X.A (R3 (.str z t) (.ref sl)) (EP X pins σ Q) X.xe s:=fun l u el eu h=>by
  refine wpAny_getItem_str_slice h rfl ?_;refine post_val_or_made (fun _=>?_) fun t' k=>?_
  .have:=sliceIndices_le (l.map (·.1)) (u.map (·.1)) z.length
   have e:=List.length_filterMap_le (fun i=>z.cps[i]?) (VY z l u none);show ((VY z l u none).filterMap (z.cps[·]?)).toArray.size<=Om;rw[Pg];unfold VY at e ⊢;simp only[Option.map_none,Td] at e ⊢
   lia
  .refine⟨.str (Qo z lo hi),H,I.tok _,⟨t',?_⟩,q⟩
   rw[←el,←eu];rfl
 refine⟨"str",_,PySem.F.slot_str_getitem.lookup,RY s z t,?_⟩
 cases pl with
 |none=>
  cases pu with
  |none=>exact fin none none rfl rfl hs
  |int j u=>exact fin none (some (j,u)) rfl rfl hs
 |int i u=>
  cases pu with
  |none=>exact fin (some (i,u)) none rfl rfl hs
  |int j u'=>exact fin (some (i,u)) (some (j,u')) rfl rfl hs
theorem CK:Yc X (PJ .Mult) (fun x y H Q=>∃z k,x=.str z/\y=.int k/\0<=k/\k<=2000/\z.length<=1000/\Q (.str (Xq z k)) H):=by
 intro pins s σ H x y v u Q I rx ry h;obtain⟨z,k,rfl,rfl,h1,h2,h3,q⟩:=h;obtain⟨t,rfl⟩:=rx;obtain⟨t',rfl⟩:=ry;have hm:z.length*k.toNat<=1000*2000:=SF h3 (by lia);refine SB.mul ⟨?_,fun g1 g2=>?_,fun g1 g2=>?_⟩ fun t' k'=>⟨.str _,H,I.tok _,⟨t',rfl⟩,q⟩
 .lia
 .have hk:1<=k:=by simp at g1;lia
  have e1:(1000:Int)<=(2^63-1) / k:=by
   rw[Int.le_ediv_iff_mul_le (by lia)]
   lia
  lia
 .unfold Builtin.Str.tooLong
  simp[Om]
  lia
end
theorem tX:∀{us:List Oc},Xv (ys.map V.str) us->StrsAre us ys:=by
 induction ys with
 |nil=>intro us r;cases r;exact .nil
 |cons y ys ih=>
  intro us r
  cases r with
  |cons r1 r2=>
   obtain⟨t,e⟩:=r1;subst e;exact .cons y t (ih r2)
theorem pS{z:Str}(hz:z.cps.toList=[]):∀ys:List Str,(OM z ys).cps.toList=(ys.map (·.cps.toList)).flatten
 |[]=>rfl
 |[x]=>by simp[OM]
 |x::y::r=>by
  have ih:=pS hz (y::r);show ((x++z)++OM z (y::r)).cps.toList=_;rw[RN,RN,hz,ih];simp
structure Fn(P:Oz)(w:OO)(K:Frag)(mg:Str->Option Oc)(base:Heap)(name:Str)(ps:List Str)(k:Nat)(sp:Sp):Prop where
 ex:∃f fd,X5 P w K mg base YT k f fd ps sp/\Binds K fd ps []/\PP K (.ref f)=true/\mg name=some (.ref f)
section
variable {X:Cx}{name:Str}{ps:List Str}{k:Nat}{sp:Sp}{e:Expr}{es:List Expr}{t:TA}{p pos:Pos}
theorem gQ(F:Fn X.prog X.w X.K X.mg X.base name ps k sp)(hr:XA k X.A)(hg:Gl X name)(ha:PA X (e::es) t)(Yk:autoParam ((name == ("__debug__" : Str))=false) u11)
  (he:autoParam (Ol (e::es) X.env=(false,eval e X.env)::Ol es X.env) u10) (X7:autoParam ((Pe pos (Ol es X.env)).any (·.1)=false) u10):PE X (.Call (.Name name p) (e::es) [] pos) (zm sp [] E0 t):=by
 obtain⟨f,fd,h1,h2,h3,h4⟩:=F.ex;exact zcm h1 hr hg h4 h3 h2 .nil iD ha Yk he X7
end
theorem zeq(S:CS osc N x scope N')(hi:PI X (.Name x px) iter wi)
  (he:∀C s0 H0 ex,PE (bZ X x scope C s0 H0 ex N') elt te) (ht:∀C s0 H0 ex,Ci (bZ X x scope C s0 H0 ex N') ifs tt) (hc:autoParam (X.calm=true) u10) (hs:autoParam (X.env.scope=osc) u10) (hN:autoParam (X.N=N) u10)
  (hf:autoParam (∀v,Pc iter X.env v=pure v) u16):PE X (.ListComp elt [⟨.Name x px,iter,ifs,0⟩] scope pos) (zl wi tt te):=by
 subst hs hN;exact zej hc S hi he ht hf
end L2
namespace D
open L2
inductive Gh(P:Hp->Prop):Hp->Prop where
 |done {H:Hp}:P H->Gh P H
 |frz {H:Hp}{a:Addr}{kvs:List (Key×V)}:H a=some (.dK kvs)->(∀o,Gh P (upd H a (.frz o (.dK kvs))))->Gh P H
theorem Gh.imp(g:Gh P H)(i:∀H,P H->P' H):Gh P' H:=by
 induction g with
 |done h=>exact .done (i _ h)
 |frz e _ ih=>exact .frz e ih
section
variable {X:Cx}{pins:List (Addr×Obj)}{σ:L2.St}{H:Hp}{s:Oi}
theorem zer(I:Inv X pins σ H s)(e:H a=some (.dK kvs)):∃o,Inv X pins σ (upd H a (.frz o (.dK kvs))) s:=by
 obtain⟨z,y,vs,kv,o,es,ep,eo,r⟩:=I.hok a _ e
 have U:∀{b:Addr}{u:HO},H b=some u->(∀ks,u≠.dK ks)->upd H a (.frz o (.dK kvs)) b=some u:=fun {b u} q n=>by
  rw[aK (fun z=>by subst z<;>grind)];exact q
 have hok:Ys _ X.w (upd H a (.frz o _)) _:=fun b u q=>by
  by_cases hb:b=a
  .subst hb
   rw[bj] at q;cases q;exact⟨eo,(I.hok b _ e).stay (fun _ _ _ q=>q) (fun c q=>U q (fun _ z=>nomatch z)) fun c xs q=>U q (fun _ z=>nomatch z)⟩
  .rw[aK hb] at q
   exact(I.hok b u q).stay (fun _ _ _ q=>q) (fun c q=>U q (fun _ z=>nomatch z)) fun c xs q=>U q (fun _ z=>nomatch z)
 exact⟨o,I.un   ⟨fun b ob q n _ _=>q,fun b ob q n _ _=>⟨_,q⟩,fun b ob q n _=>by rw[aK (fun z=>by simp_all)];exact n,fun b ob q _=>⟨_,q⟩,fun b xs q=>U q (fun _ z=>nomatch z),
  fun b ob u q=>U q (fun _ z=>nomatch z),fun b ps q=>⟨#[],by simp_all⟩⟩ hok⟩
theorem Gh.ok(g:Gh P H)(I:Inv X pins σ H s):∃H',Inv X pins σ H' s/\P H':=by
 induction g with
 |done h=>exact⟨_,I,h⟩
 |frz e _ ih=>
  obtain⟨o,I'⟩:=zer I e;exact ih o I'
theorem zes{st:Stmt}{t:TS}(h:PS X st t):PS X st (fun D σ H=>Gh (t D σ) H):=fun pins s σ H D I q=>by
 obtain⟨H',I',q'⟩:=q.ok I;exact h pins s σ H' D I' q'
end
noncomputable def kK(o:Obj):Nat:=match o.data with
 |.dict _ ep=>ep
 |_=>0
noncomputable def Jz(a:Addr)(o:Obj)(kvs:List (Key×V)):It:=⟨fun i H=>H a=some (.frz o (.dK kvs))/\i<kvs.length,fun i H x H'=>H'=H/\∃k v,kvs[i]? = some (k,v)/\x=kV k,fun i H=>H a=some (.frz o (.dK kvs))/\i=kvs.length⟩
theorem qk(ok:Ys P w H h)(e:H a=some (.frz o (.dK kvs))):kvs.length<=Om/\(a == Pu)=false/\∃vs,KV kvs vs/\h.DictAt (cI P w) a vs (kK o):=by
 obtain⟨e1,z,y,vs,kv,o',es,ep,e2,ed,dd,r⟩:=ok a _ e;rw[e1] at e2;cases e2;refine⟨z,y,vs,kv,o,es,e1,ed,?_,r⟩;unfold kK;rw[dd]
theorem Kf(e:(cI P w).is k v=true):RelV (kV k) v:=by
 rcases fi (e) with⟨i,t,rfl,rfl⟩|⟨x,t,rfl,rfl⟩
 .exact⟨t,rfl⟩
 .exact⟨t,rfl⟩
theorem zet{kvs:List (Key×V)}{vs:List (Key×Oc)}(r:KV kvs vs){i:Nat}{k:Key}{x:Oc}(e:vs[i]? = some (k,x)):∃v,kvs[i]? = some (k,v):=by
 have h:=r.keys
 have h1:(vs.map (·.1))[i]? = some k:=by simp_all
 rw[←h,O7] at h1<;>simp_all
theorem zeu{P:Oz}{w:OO}{K:Frag}{tg:Expr}(a it:Addr)(o:Obj)(kvs:List (Key×V)):Turn P w K tg (Jz a o kvs) [it] it (fun i h=>h.IsKeyIter it a i kvs.length (kK o)) where
 mem:=by simp
 obj:=fun i h st b hb=>by
  have e:b=it:=by simpa using hb
  subst e;obtain⟨o,e,c,d⟩:=st;exact⟨o,e,fun v z=>by simp_all⟩
 keep:=fun i h h' st k=>st.at fun o e=>k it (by simp) o e
 item:=by
  intro X hP hw hK hc i pins s σ H E I hf st hg;subst hP hw hK;obtain⟨AN,GM⟩:=hg;obtain⟨z,y,vs,kv,dd⟩:=qk I.hok AN;obtain⟨f0,f1,f2,f3,f4,f5⟩:=hf it (by simp);have hl:=kv.length
  have ne:a≠it:=fun q=>by simp_all
  have W:=Wk (prog:=X.prog) (w:=X.w) (knd:=cI X.prog X.w) (I.ok.hd hc) it a ne vs (kK o);refine W.item i s _ _ (by omega) ⟨by rw[←hl];exact st,dd⟩ fun v h' tk hv Hk kk=>?_;obtain⟨k,x,h1,h2⟩:=hv;have I1:Inv X pins σ H { s with heap:=h',toks:=tk }:=I.turned (fun b o hb e=>kk b o (by simpa using hb) e) f0 f1 f3 f4 f5
  have Bb:h'.IsKeyIter it a (i+1) kvs.length (kK o):=by rw[hl];exact Hk.1
  obtain⟨o1,e1,c1,d1⟩:=id Bb;obtain⟨v0,h3⟩:=zet kv h1;exact⟨v,rfl,mj (s:={ s with heap:=h',toks:=tk }) e1 c1 d1 (by decide) ⟨kV k,H,I1,Kf h2,⟨rfl,k,v0,h3,rfl⟩,Bb,fun b hb=>(hf b hb).1⟩⟩
 done:=by
  intro X hP hw hK hc i pins s σ H E I hf st hg;subst hP hw hK;obtain⟨AN,GM⟩:=hg;obtain⟨z,y,vs,kv,dd⟩:=qk I.hok AN;obtain⟨f0,f1,f2,f3,f4,f5⟩:=hf it (by simp);have hl:=kv.length
  have ne:a≠it:=fun q=>by rw[q,f0] at AN;cases AN
  have W:=Wk (prog:=X.prog) (w:=X.w) (knd:=cI X.prog X.w) (I.ok.hd hc) it a ne vs (kK o);refine W.done s _ _ ⟨by rw[←hl,←GM];rw[←GM] at st;exact st,dd⟩ fun h' tk kk=>⟨rfl,I.turned (fun b o hb e=>kk b o (by simpa using hb) e) f0 f1 f3 f4 f5⟩
 self:=fun _ _ _ _ _ st h=>UA st h
inductive W where
 |d (x:Oa)|tp (i:Nat)|loc (x:Oa)
abbrev Tp:=List (List Oa)
abbrev Xw:=List (Option W)
noncomputable def Xy{α β:Type}(o:Option (α×Tp))(k:α->Tp->Option β):Option β:=match o with
 |some (a,T)=>k a T
 |none=>none
theorem aL{α β:Type}{o:Option (α×Tp)}{k:α->Tp->Option β}{b:β}(h:Xy o k=some b):∃a T,o=some (a,T)/\k a T=some b:=by
 cases o with
 |none=>cases h
 |some p=>exact⟨p.1,p.2,rfl,h⟩
theorem zew{α β:Type}{a:α}{T:Tp}{k:α->Tp->Option β}:Xy (some (a,T)) k=k a T:=rfl
def X2:Key->Oa
 |.inl i=>.int i
 |.inr x=>.str x
def TupAt(K:Frag)(O:Addr->Prop)(H:Hp)(a:Addr)(vs:List V):Prop:=(¬O a/\Rd H a (.tup vs))\/Yn K (fun _=>none) a vs
def LstAt(K:Frag)(O:Addr->Prop)(H:Hp)(a:Addr)(vs:List V):Prop:=(¬O a/\Rd H a (.lst vs))\/Ye K (fun _=>none) a vs
theorem zex{K:Frag}{H:Hp}{a:Addr}{vs:List V}(h:Yn K (fun _=>none) a vs):Yn K H a vs:=by
 rcases h with(h|⟨o,h⟩)|h
 .cases h
 .cases h
 .exact .inr h
theorem zey{K:Frag}{H:Hp}{a:Addr}{vs:List V}(h:Ye K (fun _=>none) a vs):Ye K H a vs:=by
 rcases h with(h|⟨o,h⟩)|h
 .cases h
 .cases h
 .exact .inr h
theorem TupAt.sq{K:Frag}{O:Addr->Prop}{H:Hp}{a:Addr}{vs:List V}(h:TupAt K O H a vs):Yn K H a vs:=by
 rcases h with h|h
 .exact .inl h.2
 .exact zex h
theorem LstAt.sq{K:Frag}{O:Addr->Prop}{H:Hp}{a:Addr}{vs:List V}(h:LstAt K O H a vs):Ye K H a vs:=by
 rcases h with h|h
 .exact .inl h.2
 .exact zey h
mutual
inductive Rep(K:Frag)(O:Addr->Prop)(H:Hp):V->Oa->Prop where
 |non:Rep K O H .non .none
 |bl (b:Bool):Rep K O H (.bl b) (.bool b)
 |int (i:Int):Rep K O H (.int i) (.int i)
 |str (x:Str):Rep K O H (.str x) (.str x)
 |tup {a:Addr}{vs:List V}{ds:List Oa}:TupAt K O H a vs->Xs K O H vs ds->Rep K O H (.ref a) (.tuple ds)
 |lst {a:Addr}{vs:List V}{ds:List Oa}:LstAt K O H a vs->Xs K O H vs ds->Rep K O H (.ref a) (.list ds)
 |dct {a:Addr}{o:Obj}{kvs:List (Key×V)}{ds:List (Oa×Oa)}:¬O a->H a=some (.frz o (.dK kvs))->XX K O H kvs ds->Rep K O H (.ref a) (.dict ds)
inductive Xs(K:Frag)(O:Addr->Prop)(H:Hp):List V->List Oa->Prop where
 |nil:Xs K O H [] []
 |cons {v:V}{d:Oa}{vs:List V}{ds:List Oa}:Rep K O H v d->Xs K O H vs ds->Xs K O H (v::vs) (d::ds)
inductive XX(K:Frag)(O:Addr->Prop)(H:Hp):List (Key×V)->List (Oa×Oa)->Prop where
 |nil:XX K O H [] []
 |cons {k:Key}{v:V}{d:Oa}{kvs:List (Key×V)}{ds:List (Oa×Oa)}:Rep K O H v d->XX K O H kvs ds->XX K O H ((k,v)::kvs) ((X2 k,d)::ds)
end
def Le(O:Addr->Prop)(H:Hp)(O':Addr->Prop)(H':Hp):Prop:=∀a o,¬O a->H a=some o->¬O' a/\H' a=some o
theorem Le.trans(h:Le O H O1 H1)(g:Le O1 H1 O2 H2):Le O H O2 H2:=fun a o n e=>let ⟨n1,e1⟩:=h a o n e;g a o n1 e1
noncomputable def rS:HO->Bool
 |.tup _=>true
 |.lst _=>true
 |.frz _ _=>true
 |_=>false
def Ym(O:Addr->Prop)(H:Hp)(O':Addr->Prop)(H':Hp):Prop:=∀a o,¬O a->rS o=true->H a=some o->¬O' a/\H' a=some o
theorem mC(h:Le O H O' H'):Ym O H O' H':=fun a o n _ e=>h a o n e
theorem TupAt.monoP{K:Frag}{O O':Addr->Prop}{H H':Hp}(h:Ym O H O' H'){a:Addr}{vs:List V}(t:TupAt K O H a vs):TupAt K O' H' a vs:=by
 rcases t with⟨n,t|⟨o,t⟩⟩|t
 .exact .inl ⟨(h _ _ n rfl t).1,.inl (h _ _ n rfl t).2⟩
 .exact .inl ⟨(h _ _ n rfl t).1,.inr ⟨o,(h _ _ n rfl t).2⟩⟩
 .exact .inr t
theorem LstAt.monoP{K:Frag}{O O':Addr->Prop}{H H':Hp}(h:Ym O H O' H'){a:Addr}{vs:List V}(t:LstAt K O H a vs):LstAt K O' H' a vs:=by
 rcases t with⟨n,t|⟨o,t⟩⟩|t
 .exact .inl ⟨(h _ _ n rfl t).1,.inl (h _ _ n rfl t).2⟩
 .exact .inl ⟨(h _ _ n rfl t).1,.inr ⟨o,(h _ _ n rfl t).2⟩⟩
 .exact .inr t
mutual
theorem Rep.monoP{K:Frag}{O O':Addr->Prop}{H H':Hp}(e:Ym O H O' H'):∀{v:V}{d:Oa},Rep K O H v d->Rep K O' H' v d
 |_,_,.non=>.non
 |_,_,.bl b=>.bl b
 |_,_,.int i=>.int i
 |_,_,.str x=>.str x
 |_,_,.tup t r=>.tup (t.monoP e) (Xs.monoP e r)
 |_,_,.lst t r=>.lst (t.monoP e) (Xs.monoP e r)
 |_,_,.dct n h r=>.dct (e _ _ n rfl h).1 (e _ _ n rfl h).2 (XX.monoP e r)
theorem Xs.monoP{K:Frag}{O O':Addr->Prop}{H H':Hp}(e:Ym O H O' H'):∀{vs:List V}{ds:List Oa},Xs K O H vs ds->Xs K O' H' vs ds
 |_,_,.nil=>.nil
 |_,_,.cons r t=>.cons (Rep.monoP e r) (Xs.monoP e t)
theorem XX.monoP{K:Frag}{O O':Addr->Prop}{H H':Hp}(e:Ym O H O' H'):∀{vs:List (Key×V)}{ds:List (Oa×Oa)},XX K O H vs ds->XX K O' H' vs ds
 |_,_,.nil=>.nil
 |_,_,.cons r t=>.cons (Rep.monoP e r) (XX.monoP e t)
end
theorem TupAt.mono{K:Frag}{O O':Addr->Prop}{H H':Hp}(h:Le O H O' H'){a:Addr}{vs:List V}(t:TupAt K O H a vs):TupAt K O' H' a vs:=t.monoP (mC h)
theorem LstAt.mono{K:Frag}{O O':Addr->Prop}{H H':Hp}(h:Le O H O' H'){a:Addr}{vs:List V}(t:LstAt K O H a vs):LstAt K O' H' a vs:=t.monoP (mC h)
theorem Rep.mono{K:Frag}{O O':Addr->Prop}{H H':Hp}(e:Le O H O' H'){v:V}{d:Oa}(r:Rep K O H v d):Rep K O' H' v d:=Rep.monoP (mC e) r
theorem Xs.mono{K:Frag}{O O':Addr->Prop}{H H':Hp}(e:Le O H O' H'){vs:List V}{ds:List Oa}(r:Xs K O H vs ds):Xs K O' H' vs ds:=Xs.monoP (mC e) r
theorem XX.mono{K:Frag}{O O':Addr->Prop}{H H':Hp}(e:Le O H O' H'){vs:List (Key×V)}{ds:List (Oa×Oa)}(r:XX K O H vs ds):XX K O' H' vs ds:=XX.monoP (mC e) r
section
variable {K:Frag}{O:Addr->Prop}{H:Hp}
theorem Xs.length:∀{vs:List V}{ds:List Oa},Xs K O H vs ds->vs.length=ds.length
 |_,_,.nil=>rfl
 |_,_,.cons _ t=>congrArg _ (Xs.length t)
theorem Xs.get:∀{vs:List V}{ds:List Oa}{i:Nat}{v:V},Xs K O H vs ds->vs[i]? = some v->∃d,ds[i]? = some d/\Rep K O H v d
 |_,_,_,_,.nil,e=>by simp at e
 |_,_,0,_,.cons r _,e=>by simp_all
 |_,_,i+1,v,.cons _ t,e=>by
  obtain⟨d,h1,h2⟩:=Xs.get   t (by simpa using e);exact⟨d,by simpa using h1,h2⟩
theorem Xs.getD:∀{vs:List V}{ds:List Oa}{i:Nat}{d:Oa},Xs K O H vs ds->ds[i]? = some d->∃v,vs[i]? = some v/\Rep K O H v d
 |_,_,_,_,.nil,e=>by simp at e
 |_,_,0,_,.cons r _,e=>by simp_all
 |_,_,i+1,v,.cons _ t,e=>by
  obtain⟨d,h1,h2⟩:=Xs.getD   t (by simpa using e);exact⟨d,by simpa using h1,h2⟩
theorem Xs.append:∀{vs:List V}{ds:List Oa},Xs K O H vs ds->Xs K O H ws es->Xs K O H (vs++ws) (ds++es)
 |_,_,.nil,r=>r
 |_,_,.cons q t,r=>.cons q (Xs.append t r)
theorem Xs.take:∀{vs:List V}{ds:List Oa} (n:Nat),Xs K O H vs ds->Xs K O H (vs.take n) (ds.take n)
 |_,_,0,_=>.nil
 |_,_,_+1,.nil=>.nil
 |_,_,n+1,.cons r t=>.cons r (Xs.take n t)
theorem Xs.drop:∀{vs:List V}{ds:List Oa} (n:Nat),Xs K O H vs ds->Xs K O H (vs.drop n) (ds.drop n)
 |_,_,0,r=>r
 |_,_,_+1,.nil=>.nil
 |_,_,n+1,.cons _ t=>Xs.drop n t
theorem Xs.rep(r:Xs K O H vs ds):∀n:Nat,Xs K O H (Ov n vs).flatten (Ov n ds).flatten
 |0=>.nil
 |n+1=>by
  exact r.append (r.rep n)
end
def Xx(ts:List Addr)(H H':Hp):Prop:=∀b o,b∉ts->H b=some o->H' b=some o
theorem Xx.refl(ts:List Addr)(H:Hp):Xx ts H H:=fun _ _ _ h=>h
theorem Xx.trans(a:Xx ts H H1)(b:Xx ts H1 H2):Xx ts H H2:=fun c o n h=>b c o n (a c o n h)
theorem Xx.new(h:H p=none)(o:HO):Xx ts H (upd H p o):=fun b u _ q=>by rw[aK (bF q h)];exact q
def Y9(o:Option HO):Prop:=(∃vs,o=some (.lst vs))\/(∃kvs,o=some (.dK kvs))\/∃C dx fs,o=some (.ins C dx fs)
theorem Y9.ex(h:Y9 o):∃u,o=some u:=by rcases h with⟨vs,e⟩|⟨vs,e⟩|⟨C,dx,fs,e⟩ <;> exact⟨_,e⟩
theorem Y9.to(h:Y9 o)(k:∀u,o=some u->o'=some u):Y9 o':=by
 rcases h with⟨vs,e⟩|⟨vs,e⟩|⟨C,dx,fs,e⟩
 .exact .inl ⟨vs,k _ e⟩
 .exact .inr (.inl ⟨vs,k _ e⟩)
 .exact .inr (.inr ⟨C,dx,fs,k _ e⟩)
noncomputable def cQ(C:Addr):PyData:=.dict [(.none,.int (C:Int))]
noncomputable def E8:List Oa->Bool
 |.dict [(.none,_)]::_=>true
 |_=>false
noncomputable def pairF(p:Str×Oa):PyData:=.tuple [.str p.1,p.2]
inductive YM(K:Frag)(O:Addr->Prop)(H:Hp):List (Str×V)->List (Str×Oa)->Prop where
 |nil:YM K O H [] []
 |cons {n:Str}{v:V}{d:Oa}{vs:List (Str×V)}{ds:List (Str×Oa)}:Rep K O H v d->YM K O H vs ds->YM K O H ((n,v)::vs) ((n,d)::ds)
theorem YM.mono{K:Frag}{O O':Addr->Prop}{H H':Hp}(e:Le O H O' H'){vs:List (Str×V)}{ds:List (Str×Oa)}(r:YM K O H vs ds):YM K O' H' vs ds:=by
 induction r with
 |nil=>exact .nil
 |cons r _ ih=>exact .cons (Rep.mono e r) ih
def Y3(K:Frag)(O:Addr->Prop)(H:Hp)(a:Addr)(xs:List Oa):Prop:=(E8 xs=false/\∃vs,H a=some (.lst vs)/\Xs K O H vs xs)\/∃C dx fs fd,H a=some (.ins C dx fs)/\xs=cQ C::fd.map pairF/\YM K O H fs fd
theorem Y3.mono{K:Frag}{O O':Addr->Prop}{H H':Hp}{a:Addr}{xs:List Oa}(h:Y3 K O H a xs)(k:∀o,H a=some o->H' a=some o)(l:Le O H O' H'):Y3 K O' H' a xs:=by
 rcases h with⟨n,vs,h1,h2⟩|⟨C,dx,fs,fd,h1,h2,h3⟩
 .exact .inl ⟨n,vs,k _ h1,h2.mono l⟩
 .exact .inr ⟨C,dx,fs,fd,k _ h1,h2,h3.mono l⟩
theorem Y3.lst{K:Frag}{O:Addr->Prop}{H:Hp}{a:Addr}{xs:List Oa}(h:Y3 K O H a xs)(n:E8 xs=false):∃vs,H a=some (.lst vs)/\Xs K O H vs xs:=by
 rcases h with⟨_,h⟩|⟨C,dx,fs,fd,h1,h2,h3⟩
 .exact h
 .rw[h2] at n
  cases n
theorem zez{K:Frag}{O:Addr->Prop}{H:Hp}{v:V}{y:Oa}(h:Rep K O H v (.dict [(.none,y)])):False:=by
 cases h with
 |dct _ _ r=>
  generalize hl:[_]=l at r
  cases r with
  |nil=>cases hl
  |@cons k _ _ _ _ _ _=>
   injection hl with h1 _
   rcases k with i|x
   .cases h1
   .cases h1
theorem Xs.notO{K:Frag}{O:Addr->Prop}{H:Hp}{vs:List V}{xs:List Oa}(r:Xs K O H vs xs):E8 xs=false:=by
 cases r with
 |nil=>rfl
 |cons h _=>
  unfold E8;split
  .rename_i e
   cases e;exact(zez h).elim
  .rfl
structure HC(K:Frag)(O:Addr->Prop)(ts:List Addr)(H:Hp)(T:Tp):Prop where
 own:∀b∈ts,O b
 trk:∀b,O b->Y9 (H b)
 nd:ts.Nodup
 len:ts.length=T.length
 tape:∀(i:Nat) (a:Addr) (xs:List Oa),ts[i]? = some a->T[i]? = some xs->Y3 K O H a xs
section
variable {K:Frag}{O:Addr->Prop}{ts:List Addr}{H H':Hp}{T:Tp}
theorem HC.le(c:HC K O ts H T)(s:Xx ts H H'):Le O H O H':=fun a o n e=>⟨n,s a o (fun z=>n (c.own a z)) e⟩
theorem HC.step(c:HC K O ts H T)(s:Xx ts H H')(t:∀b∈ts,H' b=H b):HC K O ts H' T where
 own:=c.own
 trk:=fun b hb=>by
  by_cases z:b∈ts
  .rw[t b z];exact c.trk b hb
  .exact(c.trk b hb).to fun u e=>s b _ z e
 nd:=c.nd
 len:=c.len
 tape:=fun i a xs e1 e2=>by
  exact(c.tape i a xs e1 e2).mono (fun o h1=>by rw[t a (OA e1)];exact h1) (c.le s)
theorem HC.fresh(c:HC K O ts H T)(h:H p=none):¬O p:=fun z=>by
 obtain⟨u,e⟩:=(c.trk p z).ex<;>simp_all
theorem HC.new(c:HC K O ts H T)(h:H p=none)(o:HO):HC K O ts (upd H p o) T:=c.step (.new h o) fun b hb=>aK fun z=>c.fresh h (z ▸ c.own b hb)
theorem HC.leNew(c:HC K O ts H T)(h:H p=none)(o:HO):Le O H O (upd H p o):=c.le (.new h o)
theorem HC.newT(c:HC K O ts H T)(h:H p=none)(r:Xs K O H vs ds):Rep K O (upd H p (.tup vs)) (.ref p) (.tuple ds):=.tup (.inl ⟨c.fresh h,.inl bj⟩) (r.mono (c.leNew h _))
theorem HC.newL(c:HC K O ts H T)(h:H p=none)(r:Xs K O H vs ds):Rep K O (upd H p (.lst vs)) (.ref p) (.list ds):=.lst (.inl ⟨c.fresh h,.inl bj⟩) (r.mono (c.leNew h _))
end
inductive Vw(K:Frag)(O:Addr->Prop)(H:Hp):V->Oa->Prop where
 |rep {v:V}{x:Oa}:Rep K O H v x->Vw K O H v x
 |raw {a:Addr}{vs:List V}{xs:List Oa}:H a=some (.lst vs)->Xs K O H vs xs->Vw K O H (.ref a) (.list xs)
 |rawD {a:Addr}{kvs:List (Key×V)}{ds:List (Oa×Oa)}:H a=some (.dK kvs)->XX K O H kvs ds->Vw K O H (.ref a) (.dict ds)
section
variable {K:Frag}{O:Addr->Prop}{H:Hp}{v:V}
theorem Vw.int(h:Vw K O H v (.int i)):v=.int i:=by cases h with|rep h=>cases h;rfl
theorem Vw.str(h:Vw K O H v (.str x)):v=.str x:=by cases h with|rep h=>cases h;rfl
theorem Vw.bl(h:Vw K O H v (.bool b)):v=.bl b:=by cases h with|rep h=>cases h;rfl
theorem Vw.non(h:Vw K O H v .none):v=.non:=by cases h with|rep h=>cases h;rfl
theorem Vw.tup(h:Vw K O H v (.tuple ds)):∃a vs,v=.ref a/\TupAt K O H a vs/\Xs K O H vs ds:=by cases h with|rep h=>cases h with|tup t r=>exact⟨_,_,rfl,t,r⟩
theorem Vw.tupR(h:Vw K O H v (.tuple ds)):Rep K O H v (.tuple ds):=by cases h <;>simp_all
theorem Vw.lst(h:Vw K O H v (.list ds)):∃a vs,v=.ref a/\Ye K H a vs/\Xs K O H vs ds:=by
 cases h with
 |rep h=>cases h with|lst t r=>exact⟨_,_,rfl,t.sq,r⟩
 |raw h r=>exact⟨_,_,rfl,Ye.of h,r⟩
theorem Vw.dct(h:Vw K O H v (.dict ds)):∃a kvs,v=.ref a/\Rd H a (.dK kvs)/\XX K O H kvs ds:=by
 cases h with
 |rep h=>cases h with|dct n t r=>exact⟨_,_,rfl,.inr ⟨_,t⟩,r⟩
 |rawD t r=>exact⟨_,_,rfl,.inl t,r⟩
end
noncomputable def Yf(K:Frag)(O:Addr->Prop)(H:Hp)(a:Addr):Oa->Prop
 |.list xs=>∃vs,H a=some (.lst vs)/\Xs K O H vs xs
 |.dict ds=>∃kvs,H a=some (.dK kvs)/\XX K O H kvs ds
 |_=>False
theorem Yf.mono{K:Frag}{O O':Addr->Prop}{H H':Hp}{a:Addr}{x:Oa}(h:Yf K O H a x)(k:∀o,H a=some o->H' a=some o)(l:Le O H O' H'):Yf K O' H' a x:=by
 cases x with
 |list xs=>obtain⟨vs,h1,h2⟩:=h;exact⟨vs,k _ h1,h2.mono l⟩
 |dict ds=>obtain⟨vs,h1,h2⟩:=h;exact⟨vs,k _ h1,h2.mono l⟩
 |_=>cases h
theorem Yf.some{K:Frag}{O:Addr->Prop}{H:Hp}{a:Addr}{x:Oa}(h:Yf K O H a x):∃o,H a=some o:=by
 cases x with
 |list xs=>obtain⟨vs,h1,h2⟩:=h;exact⟨_,h1⟩
 |dict ds=>obtain⟨vs,h1,h2⟩:=h;exact⟨_,h1⟩
 |_=>cases h
noncomputable def Yz(K:Frag)(O:Addr->Prop)(ts:List Addr)(H:Hp)(v:V):W->Prop
 |.d x=>Rep K O H v x
 |.tp i=>∃a,ts[i]? = some a/\v=.ref a
 |.loc x=>∃a,v=.ref a/\O a/\a∉ts/\Yf K O H a x
noncomputable def kE(xs:List Oa):Option PyData:=if E8 xs=true then none else some (.list xs)
noncomputable def view(T:Tp):W->Option Oa
 |.d x=>some x
 |.tp i=>(T[i]?).bind kE
 |.loc (.list xs)=>some (.list xs)
 |.loc (.dict ds)=>some (.dict ds)
 |.loc _=>none
noncomputable def views(T:Tp):List W->Option (List Oa)
 |[]=>some []
 |w::r=>match view T w with
  | some x=>(match views T r with
   |some xs=>some (x::xs)
   | none=>none)
  |none=>none
def gU(K:Frag)(O:Addr->Prop)(ts:List Addr)(H:Hp):List V->List W->Prop:=Ry fun v w=>Yz K O ts H v w
def HB(K:Frag)(O:Addr->Prop)(H:Hp):List V->List Oa->Prop:=Ry fun v x=>Vw K O H v x
def X9(K:Frag)(O:Addr->Prop)(ts:List Addr)(H:Hp)(σ:L2.St)(ρ:Xw):Prop:=∀(i:Nat) (w:W),ρ[i]? = some (some w)->∃v,σ[i]? = some (some v)/\Yz K O ts H v w
section
variable {K:Frag}{O:Addr->Prop}{ts:List Addr}{H H':Hp}{T:Tp}{v:V}{w:W}
theorem Yz.mono(r:Yz K O ts H v w)(c:HC K O ts H T)(s:Xx ts H H'):Yz K O ts H' v w:=by
 cases w with
 |d x=>exact Rep.mono (c.le s) r
 |tp i=>exact r
 |loc xs=>
  obtain⟨a,e,h1,h2,h3⟩:=r;exact⟨a,e,h1,h2,h3.mono (fun o q=>s _ _ h2 q) (c.le s)⟩
theorem X9.mono(r:X9 K O ts H σ ρ)(c:HC K O ts H T)(s:Xx ts H H'):X9 K O ts H' σ ρ:=fun i w e=>
 let ⟨v,h1,h2⟩:=r i w e;⟨v,h1,h2.mono c s⟩
theorem HC.view(c:HC K O ts H T)(r:Yz K O ts H v w)(e:view T w=some x):Vw K O H v x:=by
 cases w with
 |d y=>cases e;exact .rep r
 |tp i=>
  obtain⟨a,h1,rfl⟩:=r;have e':(T[i]?).bind kE=some x:=e
  cases ht:T[i]? with
  |none=>simp_all
  |some xs=>
   rw[ht] at e';have e2:(if E8 xs=true then none else some _)=some x:=e';split at e2
   .cases e2
   .rename_i hn
    cases e2;obtain⟨vs,h2,h3⟩:=(c.tape i a xs h1 ht).lst (by simpa using hn);exact .raw h2 h3
 |loc xs=>
  obtain⟨a,rfl,_,_,h3⟩:=r
  cases xs with
  |list xs=>cases e;obtain⟨vs,h1,h2⟩:=h3;exact .raw h1 h2
  |dict ds=>cases e;obtain⟨vs,h1,h2⟩:=h3;exact .rawD h1 h2
  |_=>cases h3
theorem HC.views(c:HC K O ts H T):∀{vs:List V}{ws:List W}{xs:List Oa},gU K O ts H vs ws->views T ws=some xs->HB K O H vs xs
 |_,[],xs,.nil,e=>by cases e;exact .nil
 |_,w::r,xs,.cons h t,e=>by
  unfold D.views at e;split at e
  .rename_i x h1
   split at e
   .rename_i ys h2
    cases e;exact .cons (c.view h h1) (HC.views c t h2)
   .cases e
  .cases e
end
noncomputable def noStar:Expr->Bool
 |.Starred _ _=>false
 |_=>true
theorem bi(h:noStar e=true):Ol (e::es) env=(false,eval e env)::Ol es env:=by cases e <;> first|rfl|cases h
theorem vS(h:noStar e=true):Ol [e] env=[(false,eval e env)]:=bi h
theorem bU:∀{es:List Expr},es.all noStar=true->(Pe pos (Ol es env)).any (·.1)=false
 |[],_=>rfl
 |e::r,h=>by
  rw[P0,Oj] at h;rw[bi h.1];show (false||(Pe pos _).any _)=false;rw[bU h.2];rfl
theorem iM(h:noStar e=true):((Pe Xu (Ol [e] env)).all (fun x=>!x.1)&&(QJ Xu (PN [] env)).all (fun x=>x.1.isSome)
   && decide (([e]:List Expr).length+([]:List Qk).length+(if ([]:List Qk).isEmpty then 0 else 1)<30))=true:=by
 rw[vS h];rfl
abbrev FE:=Xw->Tp->Option (W×Tp)
abbrev FT:=Xw->Tp->Option (Bool×Tp)
abbrev FA:=Xw->Tp->Option (List W×Tp)
inductive G6(K:Frag)(f:FE)(σ:L2.St)(H:Hp)(Q:VK):Prop where
 |mk (O:Addr->Prop) (ts:List Addr) (ρ:Xw) (T:Tp) (w:W) (T':Tp) (hc:HC K O ts H T) (re:X9 K O ts H σ ρ) (e:f ρ T=some (w,T')) (q:∀v H',Xx ts H H'->HC K O ts H' T'->Yz K O ts H' v w->Q v H'):G6 K f σ H Q
noncomputable def lift(K:Frag)(f:FE):TE:=fun σ H Q=>G6 K f σ H Q
inductive Cp(K:Frag)(f:FT)(σ:L2.St)(H:Hp)(Q:Bool->Hp->Prop):Prop where
 |mk (O:Addr->Prop) (ts:List Addr) (ρ:Xw) (T:Tp) (b:Bool) (T':Tp) (hc:HC K O ts H T) (re:X9 K O ts H σ ρ) (e:f ρ T=some (b,T')) (q:∀H',Xx ts H H'->HC K O ts H' T'->Q b H'):Cp K f σ H Q
noncomputable def liftT(K:Frag)(f:FT):TT:=fun σ H Q=>Cp K f σ H Q
inductive Cy(K:Frag)(f:FA)(σ:L2.St)(H:Hp)(Q:List V->Hp->Prop):Prop where
 |mk (O:Addr->Prop) (ts:List Addr) (ρ:Xw) (T:Tp) (ws:List W) (T':Tp) (hc:HC K O ts H T) (re:X9 K O ts H σ ρ) (e:f ρ T=some (ws,T')) (q:∀vs H',Xx ts H H'->HC K O ts H' T'->gU K O ts H' vs ws->Q vs H'):Cy K f σ H Q
noncomputable def sO(K:Frag)(f:FA):TA:=fun σ H Q=>Cy K f σ H Q
structure DE(X:Cx)(e:Expr)(f:FE):Prop where
 pe:PE X e (lift X.K f)
structure DT(X:Cx)(e:Expr)(f:FT):Prop where
 pe:PT X e (liftT X.K f)
structure DW(X:Cx)(e:Expr)(f:FT):Prop where
 pe:PW X e (liftT X.K f)
structure DA(X:Cx)(es:List Expr)(f:FA):Prop where
 pe:PA X es (sO X.K f)
theorem bo(h:PE X e t)(i:∀σ H Q,t' σ H Q->t σ H Q):PE X e t':=fun pins s σ H Q I q=>h pins s σ H Q I (i σ H Q q)
theorem lK(h:PT X e t)(i:∀σ H Q,t' σ H Q->t σ H Q):PT X e t':=fun pins s σ H Q I q=>h pins s σ H Q I (i σ H Q q)
theorem yv(h:PW X e t)(i:∀σ H Q,t' σ H Q->t σ H Q):PW X e t':=fun wh pins s σ H Q I q=>h wh pins s σ H Q I (i σ H Q q)
theorem yE(h:PA X e t)(i:∀σ H Q,t' σ H Q->t σ H Q):PA X e t':=fun po pins s σ H Q I q=>h po pins s σ H Q I (i σ H Q q)
noncomputable def aa(i:Nat):FE:=fun ρ T=>match ρ[i]? with
 |some (some w)=>some (w,T)
 |_=>none
noncomputable def fC(x:Oa):FE:=fun _ T=>some (.d x,T)
section
variable {X:Cx}{pos:Pos}
theorem ae(i:Nat)(hN:autoParam (X.N[i]? = some x) u10)(hv:autoParam (A0 X.env.scope x) u20)(hd:autoParam ((x == ("__debug__" : Str))=false) u11)
  (hcd:autoParam ((x == ("__classdict__" : Str))=false) u11):DE X (.Name x pos) (aa i):=by
 refine⟨?_⟩;refine bo (pv i hN hv hd hcd) fun σ H Q=>?_;rintro⟨O,ts,ρ,T,w,T',hc,re,e,q⟩;unfold aa at e;split at e
 .rename_i w' he
  cases e;obtain⟨v,h1,h2⟩:=re i _ he;exact⟨v,h1,q v H (.refl _ _) hc h2⟩
 .cases e
theorem je(h:∀O H,Rep X.K O H v x):∀σ H Q,lift X.K (fC x) σ H Q->tC v σ H Q:=by
 rintro σ H Q ⟨O,ts,ρ,T,w,T',hc,re,e,q⟩;cases e;exact q v H (.refl _ _) hc (h O H)
theorem aj{i j}:DE X (.Constant (.int i) j pos) (fC (.int i)):=⟨bo yD (je fun _ _=>.int i)⟩
theorem gm{i j}:DE X (.Constant (.bool i) j pos) (fC (.bool i)):=⟨bo sJ (je fun _ _=>.bl i)⟩
theorem ax{i j}:DE X (.Constant (.str i) j pos) (fC (.str i)):=⟨bo rT (je fun _ _=>.str i)⟩
theorem ef{j}:DE X (.Constant .none j pos) (fC .none):=⟨bo zan (je fun _ _=>.non)⟩
theorem eP(hg:Gl X x)(hm:∃t,X.mg x=some (.int i t))(hd:autoParam ((x == ("__debug__" : Str))=false) u11):DE X (.Name x pos) (fC (.int i)):=by
 refine⟨?_⟩;obtain⟨t,hm⟩:=hm;exact bo (jO (v:=.int i) hg hm ⟨t,rfl⟩ hd) (je fun _ _=>.int i)
theorem qK(hg:Gl X x)(hm:∃t,X.mg x=some (.str i t))(hd:autoParam ((x == ("__debug__" : Str))=false) u11):DE X (.Name x pos) (fC (.str i)):=by
 refine⟨?_⟩;obtain⟨t,hm⟩:=hm;exact bo (jO (v:=.str i) hg hm ⟨t,rfl⟩ hd) (je fun _ _=>.str i)
end
noncomputable def Fm(g:Oa->Option Oa)(T:Tp)(w:W):Option (W×Tp):=match view T w with
 |some x=>match g x with
  |some d=>some (.d d,T)
  |none=>none
 |none=>none
noncomputable def Zk(g:Oa->Oa->Option Oa)(T:Tp)(w1 w2:W):Option (W×Tp):=match view T w1,view T w2 with
 |some x,some y=>match g x y with
  |some d=>some (.d d,T)
  |none=>none
 |_,_=>none
theorem j5(e:Fm g T w1=some (w,T')):∃x d,view T w1=some x/\g x=some d/\w=.d d/\T'=T:=by
 unfold Fm at e;split at e
 .split at e<;>simp_all
 .cases e
theorem gI(e:Zk g T w1 w2=some (w,T')):∃x y d,view T w1=some x/\view T w2=some y/\g x y=some d/\w=.d d/\T'=T:=by
 unfold Zk at e;split at e
 .split at e<;>simp_all
 .cases e
noncomputable def af(g:Oa->Oa->Option Oa)(fa fb:FE):FE:=fun ρ T=>Xy (fa ρ T) fun w1 T1=>Xy (fb ρ T1) fun w2 T2=>Zk g T2 w1 w2
noncomputable def X1(g:Oa->Option Oa)(fa:FE):FE:=fun ρ T=>Xy (fa ρ T) fun w1 T1=>Fm g T1 w1
def iP(K:Frag)(r:R2)(g:Oa->Oa->Option Oa):Prop:=∀(O:Addr->Prop) (ts:List Addr) (H:Hp) (T:Tp) (v1 v2:V) (x y d:Oa) (Q:VK),HC K O ts H T->Vw K O H v1 x->Vw K O H v2 y->g x y=some d ->
 (∀v H',Xx ts H H'->HC K O ts H' T->Rep K O H' v d->Q v H')->r v1 v2 H Q
def KP(K:Frag)(r:V->Hp->VK->Prop)(g:Oa->Option Oa):Prop:=∀(O:Addr->Prop) (ts:List Addr) (H:Hp) (T:Tp) (v1:V) (x d:Oa) (Q:VK),HC K O ts H T->Vw K O H v1 x->g x=some d ->
 (∀v H',Xx ts H H'->HC K O ts H' T->Rep K O H' v d->Q v H')->r v1 H Q
def YL(X:Cx)(f:Oc->Oc->Sem Oc)(g:Oa->Oa->Option Oa):Prop:=∃r,Yc X f r/\iP X.K r g
def DY(X:Cx)(g:Oa->Oa->Option Oa):Prop:=∃r,Jt X r/\iP X.K r g
theorem nQ{K:Frag}{r:R2}{g:Oa->Oa->Option Oa}{fa fb:FE}(snd:iP K r g){σ:L2.St}{H:Hp}{Q:VK}(h:lift K (af g fa fb) σ H Q):DK r (lift K fa) (lift K fb) σ H Q:=by
 obtain⟨O,ts,ρ,T,w,T',hc,re,e,q⟩:=h;obtain⟨w1,T1,e1,e⟩:=aL e;obtain⟨w2,T2,e2,e⟩:=aL e;obtain⟨x,y,d,h1,h2,h3,rfl,rfl⟩:=gI e;refine⟨O,ts,ρ,T,w1,T1,hc,re,e1,fun v1 H1 s1 Xt r1=>?_⟩;refine⟨O,ts,ρ,T1,w2,T',Xt,re.mono hc s1,e2,fun v2 H2 s2 XC r2=>?_⟩;exact snd O ts H2 T' v1 v2 x y d Q XC (XC.view (r1.mono Xt s2) h1) (XC.view r2 h2) h3 fun v H' s3 Yj r3=>q v H' (s1.trans (s2.trans s3)) Yj r3
noncomputable def Hd:W->Option Bool
 |.d (.bool b)=>some b
 |_=>none
theorem lT(h:Hd w=some b):w=.d (.bool b):=by
 unfold Hd at h
 split at h<;>simp_all
noncomputable def aw(f:FE):FT:=fun ρ T=>Xy (f ρ T) fun w T1=>match Hd w with
 |some b=>some (b,T1)
 |none=>none
theorem qM{K:Frag}{f:FE}{σ:L2.St}{H:Hp}{Q:Bool->Hp->Prop}(h:liftT K (aw f) σ H Q):lift K f σ H fun x H'=>∃k,x=.bl k/\Q k H':=by
 obtain⟨O,ts,ρ,T,w,T',hc,re,e,q⟩:=h;obtain⟨w1,T1,e1,e⟩:=aL e;refine⟨O,ts,ρ,T,w1,T1,hc,re,e1,fun v1 H1 s1 Xt r1=>?_⟩;split at e
 .rename_i b hb
  cases e;have hw:=lT hb;subst hw;cases (r1);exact⟨_,rfl,q H1 s1 Xt⟩
 .cases e
section
variable {X:Cx}{pos:Pos}{a b c:Expr}{fa fb fc:FE}{g g':Oa->Oa->Option Oa}
theorem aJ(ho:YL X (PJ op) g)(ha:DE X a fa)(hb:DE X b fb):DE X (.BinOp a op b pos) (af g fa fb):=by
 refine⟨?_⟩;obtain⟨r,hr,snd⟩:=ho;exact bo (zu hr ha.pe hb.pe) fun σ H Q=>nQ snd
theorem bQ(ho:YL X (OQ op) g)(ha:DE X a fa)(hb:DE X b fb)(hm:autoParam (Qy op b=false) u24):DE X (.Compare a [op] [b] pos) (af g fa fb):=by
 refine⟨?_⟩;obtain⟨r,hr,snd⟩:=ho;exact bo (qU hr ha.pe hb.pe hm) fun σ H Q=>nQ snd
theorem aF(ho:YL X (OQ op) g)(ha:DE X a fa)(hb:DE X b fb)(hm:autoParam (Qy op b=false) u24):DT X (.Compare a [op] [b] pos) (aw (af g fa fb)):=by
 refine⟨?_⟩;obtain⟨r,hr,snd⟩:=ho;exact lK (zbt hr ha.pe hb.pe hm) fun σ H Q h=>nQ snd (qM h)
theorem av(ho:DY X g)(ha:DE X a fa)(hb:DE X b fb)(hs:autoParam (nR b) u25):DE X (.Subscript a b pos) (af g fa fb):=by
 refine⟨?_⟩;obtain⟨r,hr,snd⟩:=ho;exact bo (sI hr ha.pe hb.pe hs) fun σ H Q=>nQ snd
noncomputable def gJ(g g':Oa->Oa->Option Oa)(fa fb fc:FE):FE:=fun ρ T=>Xy (fa ρ T) fun w1 T1=>Xy (fb ρ T1) fun w2 T2=>Xy (Zk g T2 w1 w2) fun w T3=>match Hd w with
 |some b=>if b=true then Xy (fc ρ T3) fun w3 T4=>Zk g' T4 w2 w3 else some (.d (.bool false),T3)
 |none=>none
theorem vF{K:Frag}{r r':R2}(snd:iP K r g)(GX:iP K r' g'){σ:L2.St}{H:Hp}{Q:VK}(h:lift K (gJ g g' fa fb fc) σ H Q):rJ r r' (lift K fa) (lift K fb) (lift K fc) σ H Q:=by
 obtain⟨O,ts,ρ,T,w,T',hc,re,e,q⟩:=h;obtain⟨w1,T1,e1,e⟩:=aL e;obtain⟨w2,T2,e2,e⟩:=aL e;obtain⟨wz,T3,e3,ez⟩:=aL e;obtain⟨x,y,d,h1,h2,h3,rfl,rfl⟩:=gI e3;clear e;refine⟨O,ts,ρ,T,w1,T1,hc,re,e1,fun v1 H1 s1 Xt r1=>?_⟩;refine⟨O,ts,ρ,T1,w2,T3,Xt,re.mono hc s1,e2,fun v2 H2 s2 XC r2=>?_⟩;refine snd O ts H2 T3 v1 v2 x y d _ XC (XC.view (r1.mono Xt s2) h1) (XC.view r2 h2) h3 fun v H3 s3 Yj r3=>?_;split at ez
 .rename_i b hb
  have hd:=lT hb
  injection hd with hd
  subst hd;cases r3
  cases b with
  |true=>
   refine⟨true,rfl,iJ ?_⟩;obtain⟨w3,T4,e4,e5⟩:=aL ez;obtain⟨x',y',d',Y6,EG,J9,rfl,rfl⟩:=gI e5;refine⟨O,ts,ρ,T3,w3,T',Yj,(re.mono hc (s1.trans (s2.trans s3))),e4,fun v3 H4 s4 Fg r4=>?_⟩;exact GX O ts H4 T' v2 v3 x' y' d' Q Fg (Fg.view (r2.mono XC (s3.trans s4)) Y6) (Fg.view r4 EG) J9 fun v H' s5 CH r5=>q v H' (s1.trans (s2.trans (s3.trans (s4.trans s5)))) CH r5
  |false=>
   cases ez;exact⟨false,rfl,iK (q _ H3 (s1.trans (s2.trans s3)) Yj (.bl _))⟩
 .cases ez
theorem wM(ho:YL X (OQ op) g)(HF:YL X (OQ Z2) g')(ha:DE X a fa)(hb:DE X b fb)(hc:DE X c fc)
  (hm:autoParam (VE [op,Z2] [b,c]=false) u23):DE X (.Compare a [op,Z2] [b,c] pos) (gJ g g' fa fb fc):=by
 refine⟨?_⟩;obtain⟨r,hr,snd⟩:=ho;obtain⟨r',Hh,GX⟩:=HF;exact bo (zbu hr Hh ha.pe hb.pe hc.pe hm) fun σ H Q=>vF snd GX
theorem qG(ho:YL X (OQ op) g)(HF:YL X (OQ Z2) g')(ha:DE X a fa)(hb:DE X b fb)(hc:DE X c fc)
  (hm:autoParam (VE [op,Z2] [b,c]=false) u23):DT X (.Compare a [op,Z2] [b,c] pos) (aw (gJ g g' fa fb fc)):=by
 refine⟨?_⟩;obtain⟨r,hr,snd⟩:=ho;obtain⟨r',Hh,GX⟩:=HF;exact lK (zbv hr Hh ha.pe hb.pe hc.pe hm) fun σ H Q h=>vF snd GX (qM h)
noncomputable def oS:Oa->Option Bool
 |.none=>some false
 |.bool b=>some b
 |.int i=>some (i != 0)
 |.str y=>if y.length<=Om then some ((y.length:Int) != 0) else none
 |.list xs=>some (!xs.isEmpty)
 |.tuple xs=>some (!xs.isEmpty)
 |.dict _=>none
noncomputable def oU(T:Tp)(w:W):Option (Bool×Tp):=match view T w with
 |some x=>match oS x with
  |some b=>some (b,T)
  |none=>none
 |none=>none
noncomputable def aV(f:FE):FT:=fun ρ T=>Xy (f ρ T) fun w T1=>oU T1 w
theorem uc{K:Frag}{O:Addr->Prop}{H:Hp}{vs:List V}{ds:List Oa}(r:Xs K O H vs ds):vs.isEmpty=ds.isEmpty:=by cases r <;> rfl
theorem zfa{K:Frag}{O:Addr->Prop}{H:Hp}{v:V}{x:Oa}{b:Bool}(h:Vw K O H v x)(e:oS x=some b):tE K v H b:=by
 cases x with
 |none=>cases h.non;cases e;rfl
 |bool c=>cases h.bl;cases e;rfl
 |int i=>cases h.int;cases e;rfl
 |str y=>
  cases h.str;have e':(if y.length<=Om then some _ else none)=some b:=e;split at e'
  .rename_i hl
   cases e';exact⟨hl,rfl⟩
  .cases e'
 |list xs=>
  obtain⟨a,vs,rfl,h1,h2⟩:=h.lst;cases e;exact .inl ⟨vs,h1,by rw[uc h2]⟩
 |tuple xs=>
  obtain⟨a,vs,rfl,h1,h2⟩:=h.tup;cases e;exact .inr (.inl ⟨vs,h1.sq,by rw[uc h2]⟩)
 |dict kvs=>
  cases e
theorem bf(ha:DE X a fa)(he:autoParam (∀whole,VA a X.env whole=(do let v ←whole;UO a.pos;UP [v] (truthy v))) u16):DT X a (aV fa):=by
 refine⟨?_⟩;refine lK (zby ha.pe he) fun σ H Q=>?_;rintro⟨O,ts,ρ,T,b,T',hc,re,e,q⟩;obtain⟨w1,T1,e1,e⟩:=aL e;refine⟨O,ts,ρ,T,w1,T1,hc,re,e1,fun v1 H1 s1 Xt r1=>?_⟩;unfold oU at e;split at e
 .rename_i x h1
  split at e
  .rename_i k h2
   cases e;exact⟨b,zfa (Xt.view r1 h1) h2,q H1 s1 Xt⟩
  .cases e
 .cases e
noncomputable def cg(f g:FT):FT:=fun ρ T=>Xy (f ρ T) fun b T1=>if b=true then g ρ T1 else some (false,T1)
noncomputable def bP(f g:FT):FT:=fun ρ T=>Xy (f ρ T) fun b T1=>if b=true then some (true,T1) else g ρ T1
noncomputable def bC(f:FT):FT:=fun ρ T=>Xy (f ρ T) fun b T1=>some (!b,T1)
variable {ta tb:FT}{rest:List Expr}
theorem bK(h:DW X a f):DT X a f:=⟨PW.pt h.pe⟩
theorem eS(ha:DT X a ta):DW X (.BoolOp .And [a] pos) ta:=⟨zar ha.pe⟩
theorem df(ha:DT X a ta):DW X (.BoolOp .Or [a] pos) ta:=⟨zas ha.pe⟩
theorem eF(ha:DT X a ta)(hb:DW X (.BoolOp .And (b::rest) pos) tb):DW X (.BoolOp .And (a::b::rest) pos) (cg ta tb):=by
 refine⟨?_⟩;refine yv (zat ha.pe hb.pe) fun σ H Q=>?_;rintro⟨O,ts,ρ,T,b,T',hc,re,e,q⟩;obtain⟨b1,T1,e1,e⟩:=aL e;refine⟨O,ts,ρ,T,b1,T1,hc,re,e1,fun H1 s1 Xt=>?_⟩
 cases b1 with
 |true=>exact iJ ⟨O,ts,ρ,T1,b,T',Xt,re.mono hc s1,by simpa using e,fun H2 s2 XC=>q H2 (s1.trans s2) XC⟩
 |false=>
  simp_all
theorem cx(ha:DT X a ta)(hb:DW X (.BoolOp .Or (b::rest) pos) tb):DW X (.BoolOp .Or (a::b::rest) pos) (bP ta tb):=by
 refine⟨?_⟩;refine yv (zau ha.pe hb.pe) fun σ H Q=>?_;rintro⟨O,ts,ρ,T,b,T',hc,re,e,q⟩;obtain⟨b1,T1,e1,e⟩:=aL e;refine⟨O,ts,ρ,T,b1,T1,hc,re,e1,fun H1 s1 Xt=>?_⟩
 cases b1 with
 |false=>exact iK ⟨O,ts,ρ,T1,b,T',Xt,re.mono hc s1,by simpa using e,fun H2 s2 XC=>q H2 (s1.trans s2) XC⟩
 |true=>
  simp_all
theorem bJ(ha:DT X a ta):DT X (.UnaryOp .Not a pos) (bC ta):=by
 refine⟨?_⟩;refine lK (yw ha.pe) fun σ H Q=>?_;rintro⟨O,ts,ρ,T,b,T',hc,re,e,q⟩;obtain⟨b1,T1,e1,e⟩:=aL e;cases e;exact⟨O,ts,ρ,T,b1,T',hc,re,e1,fun H1 s1 Xt=>q H1 s1 Xt⟩
noncomputable def cP(f g:FE):FE:=fun ρ T=>Xy (f ρ T) fun w T1=>match Hd w with
 |some b=>if b=true then g ρ T1 else some (.d (.bool false),T1)
 |none=>none
noncomputable def kJ(f g:FE):FE:=fun ρ T=>Xy (f ρ T) fun w T1=>match Hd w with
 |some b=>if b=true then some (.d (.bool true),T1) else g ρ T1
 |none=>none
noncomputable def kq(f:FE):FE:=fun ρ T=>Xy (f ρ T) fun w T1=>match Hd w with
 |some b=>some (.d (.bool (!b)),T1)
 |none=>none
theorem dR{op}(h:DE X a fa):DE X (.BoolOp op [a] pos) fa:=⟨zav h.pe⟩
theorem dh(ha:DE X a fa)(hb:DE X (.BoolOp .And (b::rest) pos) fb):DE X (.BoolOp .And (a::b::rest) pos) (cP fa fb):=by
 refine⟨?_⟩;refine bo (zaw ha.pe hb.pe) fun σ H Q=>?_;rintro⟨O,ts,ρ,T,w,T',hc,re,e,q⟩;obtain⟨w1,T1,e1,e⟩:=aL e;refine⟨O,ts,ρ,T,w1,T1,hc,re,e1,fun v1 H1 s1 Xt r1=>?_⟩;split at e
 .rename_i b hb
  have hw:=lT hb;subst hw;cases (show Rep X.K O H1 v1 _ from r1)
  cases b with
  |true=>exact⟨_,rfl,iJ ⟨O,ts,ρ,T1,w,T',Xt,re.mono hc s1,by simpa using e,fun v H2 s2 XC r2=>q v H2 (s1.trans s2) XC r2⟩⟩
  |false=>
   simp_all
 .cases e
theorem oJ(ha:DE X a fa)(hb:DE X (.BoolOp .Or (b::rest) pos) fb):DE X (.BoolOp .Or (a::b::rest) pos) (kJ fa fb):=by
 refine⟨?_⟩;refine bo (zax ha.pe hb.pe) fun σ H Q=>?_;rintro⟨O,ts,ρ,T,w,T',hc,re,e,q⟩;obtain⟨w1,T1,e1,e⟩:=aL e;refine⟨O,ts,ρ,T,w1,T1,hc,re,e1,fun v1 H1 s1 Xt r1=>?_⟩;split at e
 .rename_i b hb
  have hw:=lT hb;subst hw;cases (show Rep X.K O H1 v1 _ from r1)
  cases b with
  |false=>exact⟨_,rfl,iK ⟨O,ts,ρ,T1,w,T',Xt,re.mono hc s1,by simpa using e,fun v H2 s2 XC r2=>q v H2 (s1.trans s2) XC r2⟩⟩
  |true=>
   simp_all
 .cases e
theorem ox(ha:DE X a fa):DE X (.UnaryOp .Not a pos) (kq fa):=by
 refine⟨?_⟩;refine bo (zay ha.pe) fun σ H Q=>?_;rintro⟨O,ts,ρ,T,w,T',hc,re,e,q⟩;obtain⟨w1,T1,e1,e⟩:=aL e;refine⟨O,ts,ρ,T,w1,T1,hc,re,e1,fun v1 H1 s1 Xt r1=>?_⟩;split at e
 .rename_i b hb
  have hw:=lT hb;subst hw;cases (r1);cases e;exact⟨_,rfl,q _ H1 s1 Xt (.bl _)⟩
 .cases e
noncomputable def dJ(c:FT)(f g:FE):FE:=fun ρ T=>Xy (c ρ T) fun b T1=>if b=true then f ρ T1 else g ρ T1
theorem fJ(hc:DT X c ta)(ha:DE X a fa)(hb:DE X b fb):DE X (.IfExp c a b pos) (dJ ta fa fb):=by
 refine⟨?_⟩;refine bo (zaz hc.pe ha.pe hb.pe) fun σ H Q=>?_;rintro⟨O,ts,ρ,T,w,T',hc,re,e,q⟩;obtain⟨b1,T1,e1,e⟩:=aL e;refine⟨O,ts,ρ,T,b1,T1,hc,re,e1,fun H1 s1 Xt=>?_⟩
 cases b1 with
 |true=>exact iJ ⟨O,ts,ρ,T1,w,T',Xt,re.mono hc s1,by simpa using e,fun v H2 s2 XC r2=>q v H2 (s1.trans s2) XC r2⟩
 |false=>exact iK ⟨O,ts,ρ,T1,w,T',Xt,re.mono hc s1,by simpa using e,fun v H2 s2 XC r2=>q v H2 (s1.trans s2) XC r2⟩
theorem zfb(hr:HS X (unaryOp op) r)(snd:KP X.K r g1)(ha:DE X a fa):DE X (.UnaryOp op a pos) (X1 g1 fa):=by
 refine⟨?_⟩;refine bo (zbh hr ha.pe) fun σ H Q=>?_;rintro⟨O,ts,ρ,T,w,T',hc,re,e,q⟩;obtain⟨w1,T1,e1,e⟩:=aL e;obtain⟨x,d,h1,h3,rfl,rfl⟩:=j5 e;refine⟨O,ts,ρ,T,w1,T',hc,re,e1,fun v1 H1 s1 Xt r1=>?_⟩;exact snd O ts H1 T' v1 x d Q Xt (Xt.view r1 h1) h3 fun v H' s3 Yj r3=>q v H' (s1.trans s3) Yj r3
end
noncomputable def ag:FA:=fun _ T=>some ([],T)
noncomputable def ab(f:FE)(g:FA):FA:=fun ρ T=>Xy (f ρ T) fun w T1=>Xy (g ρ T1) fun ws T2=>some (w::ws,T2)
noncomputable def fL:List W->Option (List Oa)
 |[]=>some []
 |.d x::r=>match fL r with
  |some xs=>some (x::xs)
  |none=>none
 |_::_=>none
theorem nq{K:Frag}{O:Addr->Prop}{ts:List Addr}{H:Hp}:∀{vs:List V}{ws:List W}{xs:List Oa},gU K O ts H vs ws->fL ws=some xs->Xs K O H vs xs
 |_,[],_,.nil,e=>by cases e;exact .nil
 |_,.d x::r,xs,.cons h t,e=>by
  unfold fL at e;split at e
  .rename_i ys h2
   cases e;exact .cons h (nq t h2)
  .cases e
 |_,.tp _::_,_,.cons _ _,e=>by cases e
 |_,.loc _::_,_,.cons _ _,e=>by cases e
noncomputable def aB(mk:List Oa->Oa)(f:FA):FE:=fun ρ T=>Xy (f ρ T) fun ws T1=>match fL ws with
 |some xs=>if xs.length<=1000 then some (.d (mk xs),T1) else none
 |none=>none
theorem qZ(h:n<=1000):n<=sizeLine:=OC h (by decide)
def fN(X:Cx)(f:Oc)(g:List Oa->Option Oa):Prop:=∃r,XW X f r/\∀(O:Addr->Prop) (ts:List Addr) (H:Hp) (T:Tp) (vs:List V) (xs:List Oa) (d:Oa) (Q:VK),HC X.K O ts H T->HB X.K O H vs xs->g xs=some d ->
 (∀v H',Xx ts H H'->HC X.K O ts H' T->Rep X.K O H' v d->Q v H')->r vs H Q
noncomputable def Yd(g:List Oa->Option Oa)(f:FA):FE:=fun ρ T=>Xy (f ρ T) fun ws T1=>match views T1 ws with
 |some xs=>match g xs with
  |some d=>some (.d d,T1)
  |none=>none
 |none=>none
section
variable {X:Cx}{pos p:Pos}{e:Expr}{es:List Expr}{f:FE}{g:FA}
theorem ao:DA X [] ag:=by
 refine⟨?_⟩;refine yE bY fun σ H Q=>?_;rintro⟨O,ts,ρ,T,w,T',hc,re,e,q⟩;cases e;exact q [] H (.refl _ _) hc .nil
theorem ah(ha:DE X e f)(hr:DA X es g)(hs:autoParam (Ol (e::es) X.env=(false,eval e X.env)::Ol es X.env) u12):DA X (e::es) (ab f g):=by
 refine⟨?_⟩;refine yE (bH ha.pe hr.pe hs) fun σ H Q=>?_;rintro⟨O,ts,ρ,T,w,T',hc,re,e,q⟩;obtain⟨w1,T1,e1,e⟩:=aL e;obtain⟨ws,T2,e2,e⟩:=aL e;cases e;refine⟨O,ts,ρ,T,w1,T1,hc,re,e1,fun v1 H1 s1 Xt r1=>?_⟩;exact⟨O,ts,ρ,T1,ws,_,Xt,re.mono hc s1,e2,fun vs H2 s2 XC r2=>q _ H2 (s1.trans s2) XC (.cons (r1.mono Xt s2) r2)⟩
theorem xh(e:aB mk g ρ T=some (w,T')):∃ws xs,g ρ T=some (ws,T')/\fL ws=some xs/\xs.length<=1000/\w=.d (mk xs):=by
 obtain⟨ws,T1,e1,e⟩:=aL e
 split at e<;>simp_all
theorem aP{x1}(h:DA X es g):DE X (.Tuple es x1 pos) (aB .tuple g):=by
 refine⟨?_⟩;refine bo (yC h.pe) fun σ H Q=>?_;rintro⟨O,ts,ρ,T,w,T',hc,re,e,q⟩;obtain⟨ws,xs,e1,h1,h2,rfl⟩:=xh e;refine⟨O,ts,ρ,T,ws,T',hc,re,e1,fun vs H1 s1 Xt r1=>?_⟩;have rs:=nq r1 h1;refine⟨qZ (by rw[rs.length];exact h2),fun p hp=>?_⟩;exact q _ _ (s1.trans (.new hp _)) (Xt.new hp _) (Xt.newT hp rs)
theorem cN(h:DA X es g):DE X (.List es pos) (aB .list g):=by
 refine⟨?_⟩;refine bo (rV h.pe) fun σ H Q=>?_;rintro⟨O,ts,ρ,T,w,T',hc,re,e,q⟩;obtain⟨ws,xs,e1,h1,h2,rfl⟩:=xh e;refine⟨O,ts,ρ,T,ws,T',hc,re,e1,fun vs H1 s1 Xt r1=>?_⟩;have rs:=nq r1 h1;refine⟨qZ (by rw[rs.length];exact h2),fun p hp=>?_⟩;exact q _ _ (s1.trans (.new hp _)) (Xt.new hp _) (Xt.newL hp rs)
theorem y9{K:Frag}{r:List V->Hp->VK->Prop}{gg:List Oa->Option Oa}(snd:∀(O:Addr->Prop) (ts:List Addr) (H:Hp) (T:Tp) (vs:List V) (xs:List Oa) (d:Oa) (Q:VK),HC K O ts H T->HB K O H vs xs->gg xs=some d ->
  (∀v H',Xx ts H H'->HC K O ts H' T->Rep K O H' v d->Q v H')->r vs H Q) {σ:L2.St}{H:Hp}{Q:VK} (h:lift K (Yd gg g) σ H Q):B7 r (sO K g) σ H Q:=by
 obtain⟨O,ts,ρ,T,w,T',hc,re,e,q⟩:=h;obtain⟨ws,T1,e1,e⟩:=aL e;refine⟨O,ts,ρ,T,ws,T1,hc,re,e1,fun vs H1 s1 Xt r1=>?_⟩;split at e
 .rename_i xs h1
  split at e
  .rename_i d h2
   cases e;exact snd O ts H1 T' vs xs d Q Xt (Xt.views r1 h1) h2 fun v H' s3 Yj r3=>q v H' (s1.trans s3) Yj r3
  .cases e
 .cases e
theorem bh{x:Str}{id:String}{gg:List Oa->Option Oa}(hc:fN X (.builtin id) gg)(hg:Gl X x)(hm:X.mg x=none)(hv:Qw x=some (.builtin id))(ha:DA X (e::es) g)(hn:autoParam (x≠"__name__") u11)(Yk:autoParam ((x == ("__debug__" : Str))=false) u11)
  (he:autoParam (Ol (e::es) X.env=(false,eval e X.env)::Ol es X.env) u12) (X7:autoParam ((Pe pos (Ol es X.env)).any (·.1)=false) u13):DE X (.Call (.Name x p) (e::es) [] pos) (Yd gg g):=by
 refine⟨?_⟩;obtain⟨r,hr,snd⟩:=hc;exact bo (wg hr hg hm hv ha.pe hn Yk he X7) fun σ H Q h=>y9 snd h
theorem cX{x:Str}{id:String}{gg:List Oa->Option Oa}(hc:fN X (.type id) gg)(hg:Gl X x)(hm:X.mg x=none)(hv:Qw x=some (.type id))(ha:DA X (e::es) g)(hn:autoParam (x≠"__name__") u11)(Yk:autoParam ((x == ("__debug__" : Str))=false) u11)
  (he:autoParam (Ol (e::es) X.env=(false,eval e X.env)::Ol es X.env) u12) (X7:autoParam ((Pe pos (Ol es X.env)).any (·.1)=false) u13):DE X (.Call (.Name x p) (e::es) [] pos) (Yd gg g):=by
 refine⟨?_⟩;obtain⟨r,hr,snd⟩:=hc;exact bo (uZ hr hg hm hv ha.pe hn Yk he X7) fun σ H Q h=>y9 snd h
end
abbrev FI:=Xw->Tp->Option (List Oa×Tp)
noncomputable def KF(K:Frag)(tl:TE):TI:=fun σ H R=>tl σ H fun x H1=>(∃a xs,x=.ref a/\Ye K H1 a xs/\(xs.length<=Om->R (CQ K a) H1))\/(∃a xs,x=.ref a/\Yn K H1 a xs/\(xs.length<=Om->R (GO K a) H1))\/(∃z,x=.str z/\R (B8 z) H1)\/∃a o kvs,x=.ref a/\H1 a=some (.frz o (.dK kvs))/\(kvs.length<=Om->R (Jz a o kvs) H1)
theorem zfc(hl:PE X l tl):PI X tg l (KF X.K tl):=by
 intro pins s σ H R I h;refine XD (hl pins s σ H _ I h) fun v s1 ⟨x,H1,I1,r1,q1⟩=>?_
 have fk:∀b∈[s1.heap.objs.size],cU X pins H1 b:=fun b hb=>by
  have e:b=s1.heap.objs.size:=by simpa using hb
  subst e;exact I1.fpOk (Oo _) (I1.hok.fresh (Oo _))
 rcases q1 with⟨a,xs,e,hq,q⟩|⟨a,xs,e,hq,q⟩|⟨z,e,q⟩|⟨a,o,kvs,e,hq,q⟩
 .subst e
  cases r1;obtain⟨Xr,rv,p,hz⟩:=I1.list hq;refine RI p.isList ?_;exact⟨s1.heap.objs.size,[s1.heap.objs.size],_,_,H1,rfl,I1.kept (t':=s1.toks) fun b o e=>Og _ e,uK a _,⟨_,Oy _ rfl,rfl,rfl⟩,fk,q hz⟩
 .subst e
  cases r1;obtain⟨Xr,rv,p,hz⟩:=I1.tuple hq;refine SG (show s1.heap.IsTuple a Xr.toArray from p) ?_;exact⟨s1.heap.objs.size,[s1.heap.objs.size],_,_,H1,rfl,I1.kept (t':=s1.toks) fun b o e=>Og _ e,zbb a _,⟨_,Oy _ rfl,rfl,rfl⟩,fk,q hz⟩
 .subst e
  obtain⟨t,rfl⟩:=r1
  cases ha:z.cps.all (· < 128) with
  |false=>
   refine wpAny_pyIter_wide ha ?_;exact⟨s1.heap.objs.size,[s1.heap.objs.size],_,_,H1,rfl,I1.kept (t':=s1.toks) fun b o e=>Og _ e,vN z t "str_iterator" _ (.inr rfl),⟨_,Oy _ rfl,rfl,rfl⟩,fk,q⟩
  |true=>
   refine wpAny_pyIter_ascii ha ?_;exact⟨s1.heap.objs.size,[s1.heap.objs.size],_,_,H1,rfl,I1.kept (t':=s1.toks) fun b o e=>Og _ e,vN z t "str_ascii_iterator" _ (.inl rfl),⟨_,Oy _ rfl,rfl,rfl⟩,fk,q⟩
 .subst e
  cases r1;obtain⟨z,y,vs,kv,dd⟩:=qk I1.hok hq;refine wpAny_pyIter_dict y dd ?_;exact⟨s1.heap.objs.size,[s1.heap.objs.size],_,_,H1,rfl,I1.kept (t':=s1.toks) fun b o e=>Og _ e,zeu a _ o kvs,⟨_,Oy _ rfl,rfl,by rw[kv.length];rfl⟩,fk,q z⟩
def YN(K:Frag)(O:Addr->Prop)(H1:Hp)(J:It)(ds:List Oa):Prop:=∀O' H',Le O H1 O' H'->(∀i,i<ds.length->J.go i H')/\J.stop ds.length H'/\∀i v J2,J.yld i H' v J2->i<ds.length->J2=H'/\∃d,ds[i]? = some d/\Rep K O' H' v d
inductive DN(K:Frag)(f:FI)(σ:L2.St)(H:Hp)(R:It->Hp->Prop):Prop where
 |mk (O:Addr->Prop) (ts:List Addr) (ρ:Xw) (T:Tp) (ds:List Oa) (T':Tp) (hc:HC K O ts H T) (re:X9 K O ts H σ ρ) (e:f ρ T=some (ds,T')) (q:∀J H1,Xx ts H H1->HC K O ts H1 T'->YN K O H1 J ds->ds.length<=Om->R J H1):DN K f σ H R
noncomputable def zC(K:Frag)(f:FI):TI:=fun σ H R=>DN K f σ H R
structure DI(X:Cx)(tg e:Expr)(f:FI):Prop where
 pe:PI X tg e (zC X.K f)
theorem yA(h:PI X tg e t)(i:∀σ H Q,t' σ H Q->t σ H Q):PI X tg e t':=fun pins s σ H Q I q=>h pins s σ H Q I (i σ H Q q)
noncomputable def signs(z:Str):List PyData:=z.cps.toList.map fun c=>.str ⟨#[c]⟩
noncomputable def jg:Oa->Option (List Oa)
 |.list xs=>some xs
 |.tuple xs=>some xs
 |.str z=>if z.length<=Om then some (signs z) else none
 |.dict ds=>some (ds.map (·.1))
 |_=>none
noncomputable def bD(f:FE):FI:=fun ρ T=>Xy (f ρ T) fun w T1=>match w with
 |.d x=>match jg x with
  |some xs=>some (xs,T1)
  |none=>none
 |_=>none
theorem YN.lst{K:Frag}{O:Addr->Prop}{H1:Hp}{a:Addr}{vs:List V}{ds:List Oa}(h:LstAt K O H1 a vs)(r:Xs K O H1 vs ds):YN K O H1 (CQ K a) ds:=fun O' H' le=>by
 have sq:=(h.mono le).sq;have hl:=r.length;refine⟨fun i hi=>⟨vs,vs[i]'(by lia),sq,by simp⟩,⟨vs,sq,by lia⟩,fun i v J2 y hi=>?_⟩;obtain⟨e,y⟩:=y;obtain⟨d,h1,h2⟩:=r.get (y vs sq);exact⟨e,d,h1,h2.mono le⟩
theorem YN.tup{K:Frag}{O:Addr->Prop}{H1:Hp}{a:Addr}{vs:List V}{ds:List Oa}(h:TupAt K O H1 a vs)(r:Xs K O H1 vs ds):YN K O H1 (GO K a) ds:=fun O' H' le=>by
 have sq:=(h.mono le).sq;have hl:=r.length;refine⟨fun i hi=>⟨vs,vs[i]'(by omega),sq,by simp⟩,⟨vs,sq,by omega⟩,fun i v J2 y hi=>?_⟩;obtain⟨e,y⟩:=y;obtain⟨d,h1,h2⟩:=r.get (y vs sq);exact⟨e,d,h1,h2.mono le⟩
theorem YN.str{K:Frag}{O:Addr->Prop}{H1:Hp}{z:Str}:YN K O H1 (B8 z) (signs z):=fun O' H' le=>by
 have hl:(signs z).length=z.cps.size:=by simp[signs]
 refine⟨fun i hi=>by rw[hl] at hi;exact hi,by rw[hl];exact Oo _,fun i v J2 y hi=>?_⟩;obtain⟨e,c,hc,y⟩:=y;subst y;refine⟨e,.str _,?_,.str _⟩
 unfold signs<;>simp_all
theorem qb{K:Frag}{O:Addr->Prop}{H:Hp}:∀{kvs:List (Key×V)}{ds:List (Oa×Oa)},XX K O H kvs ds->kvs.length=ds.length
 |_,_,.nil=>rfl
 |_,_,.cons _ t=>congrArg _ (qb t)
theorem v4{K:Frag}{O:Addr->Prop}{H:Hp}:∀{kvs:List (Key×V)}{ds:List (Oa×Oa)}{i:Nat}{k:Key}{v:V},XX K O H kvs ds->kvs[i]? = some (k,v)->(ds.map (·.1))[i]? = some (X2 k)
 |_,_,_,_,_,.nil,e=>by simp at e
 |_,_,0,_,_,.cons r _,e=>by simp at e;obtain⟨rfl,rfl⟩:=e;rfl
 |_,_,i+1,k,v,.cons _ t,e=>by
  have:=v4  t (by simpa using e)<;>simp_all
theorem zfd{K:Frag}{O:Addr->Prop}{H:Hp}(k:Key):Rep K O H (kV k) (X2 k):=by
 cases k with
 |inl i=>exact .int i
 |inr x=>exact .str x
theorem YN.dct{K:Frag}{O:Addr->Prop}{H1:Hp}{a:Addr}{o:Obj}{kvs:List (Key×V)}{ds:List (Oa×Oa)}(n:¬O a)(h:H1 a=some (.frz o (.dK kvs)))(r:XX K O H1 kvs ds):YN K O H1 (Jz a o kvs) (ds.map (·.1)):=fun O' H' le=>by
 have h':=(le a _ n h).2;have hl:=qb r;refine⟨fun i hi=>⟨h',by simp_all⟩,⟨h',by simp[hl]⟩,fun i v J2 y hi=>?_⟩;obtain⟨e,k,v0,y1,y2⟩:=y;subst y2;exact⟨e,_,v4 r y1,zfd k⟩
theorem cM(h:DE X e f):DI X tg e (bD f):=by
 refine⟨?_⟩;refine yA (zfc h.pe) fun σ H R=>?_;rintro⟨O,ts,ρ,T,ds,T',hc,re,e,q⟩;obtain⟨w1,T1,e1,e⟩:=aL e;refine⟨O,ts,ρ,T,w1,T1,hc,re,e1,fun v1 H1 s1 Xt r1=>?_⟩;split at e
 .rename_i x
  split at e
  .rename_i xs h1
   cases e;have rr:Rep X.K O H1 v1 x:=r1
   cases x with
   |list ys=>
    cases h1
    cases rr with
    |lst t r=>exact .inl ⟨_,_,rfl,t.sq,fun hz=>q _ H1 s1 Xt (.lst t r) (by rw[←r.length];exact hz)⟩
   |tuple ys=>
    cases h1
    cases rr with
    |tup t r=>exact .inr (.inl ⟨_,_,rfl,t.sq,fun hz=>q _ H1 s1 Xt (.tup t r) (by rw[←r.length];exact hz)⟩)
   |str z=>
    have Y6:(if z.length<=Om then some (signs z) else none)=some _:=h1;split at Y6
    .rename_i hz
     cases Y6;cases rr;exact .inr (.inr (.inl ⟨z,rfl,q _ H1 s1 Xt .str (by rw[show (signs z).length=z.cps.size by simp[signs]];exact hz)⟩))
    .cases Y6
   |dict ys=>
    cases h1
    cases rr with
    |dct n t r=>exact .inr (.inr (.inr ⟨_,_,_,rfl,t,fun hz=>q _ H1 s1 Xt (.dct n t r) (by rw[OW,←qb r];exact hz)⟩))
   |_=>cases h1
  .cases e
 .cases e
noncomputable def dy(lo:Int)(n:Nat):List PyData:=(QN n).map fun(i:Nat)=>.int (lo+(i:Int))
theorem YN.rng{K:Frag}{O:Addr->Prop}{H1:Hp}{lo:Int}{n:Nat}:YN K O H1 (Kk lo n) (dy lo n):=fun O' H' le=>by
 have hl:(dy lo n).length=n:=by simp[dy]
 refine⟨fun i hi=>by rw[hl] at hi;exact hi,by rw[hl];exact Oo _,fun i v J2 y hi=>?_⟩;obtain⟨e,y⟩:=y;subst y;rw[hl] at hi;exact⟨e,.int _,by simp[dy,hi],.int _⟩
noncomputable def iC(j:Int):Bool:=decide (-1000000<=j/\j<=16777216)
theorem zfe(h:iC j=true) : -(2^62)<=j/\j<2^62/\j.toNat<=sizeLine:=by
 have h':=of_decide_eq_true h;have e:Om=16777216:=rfl
 lia
noncomputable def fH(f:FE):FI:=fun ρ T=>Xy (f ρ T) fun w T1=>match w with
 |.d (.int j)=>if iC j=true then some (dy 0 j.toNat,T1) else none
 |_=>none
theorem jT(hg:Gl X "range")(hm:X.mg "range"=none)(ha:DE X a f)(hs:Ol [a] X.env=[(false,eval a X.env)]:=by exact vS rfl):DI X tg (.Call (.Name "range" p) [a] [] pos) (fH f):=by
 refine⟨?_⟩;refine yA (qd  hg hm (bH ha.pe bY (by rw[hs];rfl)) hs) fun σ H R=>?_;rintro⟨O,ts,ρ,T,ds,T',hc,re,e,q⟩;obtain⟨w1,T1,e1,e⟩:=aL e;refine⟨O,ts,ρ,T,w1,T1,hc,re,e1,fun v1 H1 s1 Xt r1=>?_⟩;split at e
 .rename_i j
  split at e
  .rename_i h1
   cases e;cases (r1);obtain⟨b1,b2,b3⟩:=zfe h1;exact⟨j,rfl,b1,b2,q _ H1 s1 Xt .rng (by simpa[dy] using b3)⟩
  .cases e
 .cases e
noncomputable def bL(c:FT)(e:FE)(ρ:Xw):List Oa->Tp->Option (List Oa×Tp)
 |[],T=>some ([],T)
 |d::r,T=>Xy (c (some (.d d)::ρ) T) fun b T1=>if b=true then Xy (e (some (.d d)::ρ) T1) fun w T2=>match w with
   |.d y=>Xy (bL c e ρ r T2) fun ys T3=>some (y::ys,T3)
   |_=>none
  else bL c e ρ r T1
noncomputable def cb(it:FI)(c:FT)(e:FE):FE:=fun ρ T=>Xy (it ρ T) fun ds T1=>Xy (bL c e ρ ds T1) fun ys T2=>some (.d (.list ys),T2)
noncomputable def bT:FT:=fun _ T=>some (true,T)
theorem X9.cons{K:Frag}{O:Addr->Prop}{ts:List Addr}{H:Hp}{σ:L2.St}{ρ:Xw}{v:V}{d:Oa}(re:X9 K O ts H σ ρ)(r:Rep K O H v d):X9 K O ts H (some v::σ) (some (.d d)::ρ):=fun i w e=>by
 cases i with
 |zero=>cases e;exact⟨v,rfl,r⟩
 |succ i=>
  obtain⟨u,h1,h2⟩:=re i w (by simpa using e);exact⟨u,by simpa using h1,h2⟩
theorem xZ{K:Frag}{O:Addr->Prop}{ts:List Addr}{H1:Hp}{σ:L2.St}{ρ:Xw}{J:It}{c:FT}{e:FE}{ds ys:List Oa}{T1 T2:Tp}{Dn:List V->Hp->Prop}(hc:HC K O ts H1 T1)(re:X9 K O ts H1 σ ρ)(ok:YN K O H1 J ds)(hz:ds.length<=Om)
  (ee:bL c e ρ ds T1=some (ys,T2)) (q:∀vs H',Xx ts H1 H'->HC K O ts H' T2->Xs K O H' vs ys->Dn vs H') :
  ∃W:Nat->Nat->List V->Hp->Prop,(∃m,W 0 m [] H1)/\oO σ J (liftT K c) (lift K e) W Dn:=by
 refine⟨fun i m vs H'=>m=ds.length-i/\i<=ds.length/\vs.length<=i/\∃T dn rs,Xx ts H1 H'/\HC K O ts H' T/\Xs K O H' vs dn/\bL c e ρ (ds.drop i) T=some (rs,T2)/\ys=dn++rs,⟨_,rfl,Pm _,Oo _,T1,[],ys,.refl _ _,hc,.nil,ee,rfl⟩,?_⟩;rintro i m vs H' ⟨rfl,hi,hv,T,dn,rs,s1,Xt,rv,ec,ey⟩;obtain⟨k1,k2,k3⟩:=ok O H' (hc.le s1)
 by_cases Yq:i<ds.length
 .refine .inr ⟨k1 i Yq,by lia,fun FG H2=>i+1<=ds.length/\FG.length<=i+1/\∃T dn rs,Xx ts H1 H2/\HC K O ts H2 T/\Xs K O H2 FG dn/\bL c e ρ (ds.drop (i+1)) T=some (rs,T2)/\ys=dn++rs,fun FG H2 n=>⟨ds.length-(i+1),by lia,rfl,n⟩,fun v H2 y=>?_⟩
  obtain⟨e2,d,hd,rd⟩:=k3 i v H2 y Yq;subst e2
  have II:ds.drop i=d::ds.drop (i+1):=by
   rw[QG Yq];have:=(Od.mp hd).2;rw[this]
  rw[II] at ec;obtain⟨b,T3,e3,ec⟩:=aL ec;refine⟨O,ts,some (.d d)::ρ,T,b,T3,Xt,(re.mono hc s1).cons rd,e3,fun H3 s3 Yj=>?_⟩
  cases b with
  |false=>
   rw[if_neg OB] at ec;exact iK ⟨Yq,by lia,T3,dn,rs,s1.trans s3,Yj,rv.mono (Xt.le s3),ec,ey⟩
  |true=>
   rw[if_pos rfl] at ec;obtain⟨w,T4,e4,ec⟩:=aL ec;refine iJ ⟨O,ts,some (.d d)::ρ,T3,w,T4,Yj,((re.mono hc s1).cons rd).mono Xt s3,e4,fun u H4 s4 Fg r4=>?_⟩;split at ec
   .rename_i y
    obtain⟨zs,T5,e5,ec⟩:=aL ec;cases ec;refine⟨Yq,by simp_all,T4,dn++[y],zs,s1.trans (s3.trans s4),Fg,(rv.mono (Xt.le (s3.trans s4))).append (.cons r4 .nil),e5,by rw[ey];simp⟩
   .cases ec
 .have e:i=ds.length:=by lia
  subst e;rw[P6 (Oo _)] at ec;cases ec;rw[PF] at ey;subst ey;exact .inl ⟨k2,by lia,q vs H' s1 Xt rv⟩
structure Cn(X:Cx)(es:List Expr)(f:FT):Prop where
 pe:Ci X es (liftT X.K f)
theorem rn:Cn X [] bT:=⟨fun pins s σ H Q E I h=>by
 refine zeh pins s σ H Q E I ?_;obtain⟨O,ts,ρ,T,w,T',hc,re,e,q⟩:=h;cases e
 exact q H (.refl _ _) hc⟩
theorem zff(hx:X.xe=fun _ _=>False)(h:DT X c f):Cn X [c] f:=⟨zei hx h.pe⟩
theorem zfg(S:CS osc N x scope N')(hi:DI X (.Name x px) iter it)
  (he:∀C s0 H0 ex,DE (bZ X x scope C s0 H0 ex N') elt f) (ht:∀C s0 H0 ex,Cn (bZ X x scope C s0 H0 ex N') ifs c) (hc:autoParam (X.calm=true) u10) (hs:autoParam (X.env.scope=osc) u10) (hN:autoParam (X.N=N) u10)
  (hf:autoParam (∀v,Pc iter X.env v=pure v) u16):DE X (.ListComp elt [⟨.Name x px,iter,ifs,0⟩] scope pos) (cb it c f):=by
 refine⟨?_⟩;refine bo (zeq  (tt:=liftT X.K c) (te:=lift X.K f) S hi.pe (fun C s0 H0 ex=>(he C s0 H0 ex).pe) (fun C s0 H0 ex=>(ht C s0 H0 ex).pe) hc hs hN hf) fun σ H Q=>?_;rintro⟨O,ts,ρ,T,w,T',hc,re,e,q⟩;obtain⟨ds,T1,e1,e⟩:=aL e;obtain⟨ys,T2,e2,e⟩:=aL e;cases e;refine⟨O,ts,ρ,T,ds,T1,hc,re,e1,fun J H1 s1 Xt ok hz=>?_⟩;exact xZ Xt (re.mono hc s1) ok hz e2 fun vs H' s2 XC r2 p hp=>q _ _ (s1.trans (s2.trans (.new hp _))) (XC.new hp _) (XC.newL hp r2)
inductive Fl where
 |nx|rt (x:Oa)|ro (x:Oa)|bk|ct
abbrev FS:=Xw->Tp->Option ((Fl×Xw)×Tp)
structure RS(K:Frag)(O₀:Addr->Prop)(H₀:Hp)(F:List ((Addr->Prop)×Hp))(ts:List Addr)(O:Addr->Prop)(H:Hp)(σ:L2.St)(ρ:Xw)(T:Tp):Prop where
 hc:HC K O ts H T
 re:X9 K O ts H σ ρ
 sub:∀b,O₀ b->O b
 ots:∀b∈ts,O₀ b
 same:Xx ts H₀ H
 fresh:∀(i:Nat) (xs:Oa) (a:Addr),ρ[i]? = some (some (.loc xs))->σ[i]? = some (some (.ref a))->H₀ a=none/\¬O₀ a
 dist:∀(i j:Nat) (xs ys:Oa) (v:V),ρ[i]? = some (some (.loc xs))->ρ[j]? = some (some (.loc ys))->σ[i]? = some (some v)->σ[j]? = some (some v)->i=j
 frs:∀f∈F,Le f.1 f.2 O H
 len:σ.length=ρ.length
noncomputable def Z8(K:Frag)(O A:Addr->Prop)(H:Hp)(v:V):Oa->Prop
 |.tuple [x,y]=>∃p a b,v=.ref p/\a≠b/\(∀c,A c↔c=a\/c=b)/\¬O p/\H p=some (.tup [.ref a,.ref b])/\Yf K O H a x/\Yf K O H b y
 |.none=>v=.non/\∀c,¬A c
 |x=>∃a,v=.ref a/\(∀c,A c↔c=a)/\Yf K O H a x
theorem Z8.mono{K:Frag}{O O' A:Addr->Prop}{H:Hp}{v:V}{x:Oa}(le:Le O H O' H)(h:Z8 K O A H v x):Z8 K O' A H v x:=by
 unfold Z8 at h ⊢;split at h
 .obtain⟨p,a,b,e1,e2,e3,np,hp,oa,ob⟩:=h
  exact⟨p,a,b,e1,e2,e3,(le p _ np hp).1,hp,oa.mono (fun _ h=>h) le,ob.mono (fun _ h=>h) le⟩
 .exact h
 .obtain⟨a,e,hA,oa⟩:=h
  exact⟨a,e,hA,oa.mono (fun _ h=>h) le⟩
noncomputable def zV(K:Frag)(O₀:Addr->Prop)(H₀:Hp)(F:List ((Addr->Prop)×Hp))(ts:List Addr)(D:Ends)(ρ':Xw)(T':Tp):Fl->Prop
 |.nx=>∀O' σ' H',RS K O₀ H₀ F ts O' H' σ' ρ' T'->D.nx σ' H'
 |.bk=>∀O' σ' H',RS K O₀ H₀ F ts O' H' σ' ρ' T'->D.bk σ' H'
 |.ct=>∀O' σ' H',RS K O₀ H₀ F ts O' H' σ' ρ' T'->D.ct σ' H'
 |.rt x=>∀v H',Xx ts H₀ H'->HC K O₀ ts H' T'->Rep K O₀ H' v x->D.rt v H'
 |.ro x=>∀(A:Addr->Prop) v H',Xx ts H₀ H'->(∀b,A b->H₀ b=none/\¬O₀ b)->HC K (fun b=>O₀ b\/A b) ts H' T'->Z8 K (fun b=>O₀ b\/A b) A H' v x->D.rt v H'
inductive D6(K:Frag)(f:FS)(D:Ends)(σ:L2.St)(H:Hp):Prop where
 |mk (O₀:Addr->Prop) (H₀:Hp) (F:List ((Addr->Prop)×Hp)) (ts:List Addr) (O:Addr->Prop) (ρ:Xw) (T:Tp) (fl:Fl) (ρ':Xw) (T':Tp) (rs:RS K O₀ H₀ F ts O H σ ρ T) (e:f ρ T=some ((fl,ρ'),T')) (q:zV K O₀ H₀ F ts D ρ' T' fl):D6 K f D σ H
noncomputable def sN(K:Frag)(f:FS):TS:=fun D σ H=>D6 K f D σ H
structure DS(X:Cx)(s:Stmt)(f:FS):Prop where
 pe:PS X s (sN X.K f)
structure Za(X:Cx)(s:List Stmt)(f:FS):Prop where
 pe:Zy X s (sN X.K f)
theorem dG(h:PS X e t)(i:∀D σ H,t' D σ H->t D σ H):PS X e t':=fun pins s σ H D I q=>h pins s σ H D I (i D σ H q)
theorem nB(h:Zy X e t)(i:∀D σ H,t' D σ H->t D σ H):Zy X e t':=fun pins s σ H D I q=>h pins s σ H D I (i D σ H q)
section
variable {K:Frag}{O₀:Addr->Prop}{H₀:Hp}{F:List ((Addr->Prop)×Hp)}{ts:List Addr}{O:Addr->Prop}{H H1:Hp}{σ:L2.St}{ρ:Xw}{T T1:Tp}
theorem RS.step(r:RS K O₀ H₀ F ts O H σ ρ T)(s:Xx ts H H1)(c:HC K O ts H1 T1):RS K O₀ H₀ F ts O H1 σ ρ T1 where
 hc:=c
 re:=r.re.mono r.hc s
 sub:=r.sub
 ots:=r.ots
 same:=r.same.trans s
 fresh:=r.fresh
 dist:=r.dist
 frs:=fun f hf=>(r.frs f hf).trans (r.hc.le s)
 len:=r.len
theorem fu{i j:Nat}{w:W}{xs:Oa}(hw:∀ys,w≠.loc ys)(e:(ρ.set i (some w))[j]? = some (some (.loc xs))):j≠i/\ρ[j]? = some (some (.loc xs)):=by
 by_cases z:i=j
 .subst z
  rw[List.getElem?_set_self'] at e<;>simp_all
 .rw[On z] at e
  exact⟨fun q=>z q.symm,e⟩
theorem RS.set{i:Nat}{v:V}{w:W}(r:RS K O₀ H₀ F ts O H σ ρ T)(YA:Yz K O ts H v w)(hw:∀ys,w≠.loc ys):RS K O₀ H₀ F ts O H (σ.set i (some v)) (ρ.set i (some w)) T where
 hc:=r.hc
 re:=fun j u e=>by
  by_cases z:i=j
  .subst z
   have hl:=by
    have:=(Od.mp e).1;simpa using this
   rw[Oq hl] at e;cases e;exact⟨v,by rw[Oq (by rw[r.len];exact hl)],YA⟩
  .rw[On z] at e
   obtain⟨x,h1,h2⟩:=r.re j u e<;>simp_all
 sub:=r.sub
 ots:=r.ots
 same:=r.same
 fresh:=fun j xs a e1 e2=>by
  obtain⟨n,e⟩:=fu hw e1;rw[On (Qd n)] at e2;exact r.fresh j xs a e e2
 dist:=fun j k xs ys u e1 e2 e3 e4=>by
  obtain⟨n1,e1⟩:=fu hw e1;obtain⟨n2,e2⟩:=fu hw e2;rw[On (Qd n1)] at e3;rw[On (Qd n2)] at e4;exact r.dist j k xs ys u e1 e2 e3 e4
 frs:=r.frs
 len:=by simp[r.len]
theorem RS.ownO(r:RS K O₀ H₀ F ts O H σ ρ T)(hp:H p=none)(hm:Y9 (some o))(rv:Le O H (fun b=>O b\/b=p) (upd H p o)->Yf K (fun b=>O b\/b=p) (upd H p o) p xs):RS K O₀ H₀ F ts (fun b=>O b\/b=p) (upd H p o) (σ.set i (some (.ref p))) (ρ.set i (some (.loc xs))) T:=by
 have le:Le O H (fun b=>O b\/b=p) (upd H p o):=fun a o n e=>by
  have z:a≠p:=bF e hp;exact⟨fun q=>q.elim n z,by rw[aK z];exact e⟩
 have h0:∀{G:Hp},Xx ts G H->p∉ts->G p=none:=fun {G} s nt=>by
  cases e:G p with
  |none=>rfl
  |some o=>rw[s p o nt e] at hp;cases hp
 have nO:=r.hc.fresh hp;have nt:p∉ts:=fun z=>nO (r.hc.own p z)
 have old:∀{j:Nat}{v:V}{w:W},σ[j]? = some (some v)->Yz K O ts H v w->Yz K (fun b=>O b\/b=p) ts (upd H p o) v w:=fun {j v w} e q=>by
  cases w with
  |d x=>exact Rep.mono le q
  |tp k=>exact q
  |loc ys=>
   obtain⟨a,e1,h1,h2,h3⟩:=q;exact⟨a,e1,.inl h1,h2,h3.mono (fun o' q=>by rw[aK (bF q hp)];exact q) le⟩
 have ED:∀{j:Nat}{ys:Oa},ρ[j]? = some (some (.loc ys))->σ[j]? = some (some (.ref p))->False:=fun {j ys} e1 e2=>by
  obtain⟨v,h1,a,ea,h2,h3,h4⟩:=r.re j _ e1;rw[e2] at h1;cases h1;cases ea;obtain⟨o',h5⟩:=h4.some;rw[hp] at h5;cases h5
 refine⟨⟨fun b hb=>.inl (r.hc.own b hb),fun b hb=>?_,r.hc.nd,r.hc.len,fun j a ys e1 e2=>?_⟩,fun j w e=>?_,fun b hb=>.inl (r.sub b hb),r.ots,r.same.trans (.new hp _),fun j ys a e1 e2=>?_,fun j k ys zs v e1 e2 e3 e4=>?_,fun f hf=>(r.frs f hf).trans le,by simp[r.len]⟩
 .by_cases z:b=p
  .subst z;rw[bj];exact hm
  .rw[aK z]
   exact r.hc.trk b (hb.resolve_right z)
 .exact(r.hc.tape j a ys e1 e2).mono (fun o' h1=>by rw[aK (bF h1 hp)];exact h1) le
 .by_cases z:i=j
  .subst z
   have hl:i<ρ.length:=by
    have:=(Od.mp e).1;simpa using this
   rw[Oq hl] at e;cases e;exact⟨.ref p,by rw[Oq (by rw[r.len];exact hl)],p,rfl,.inr rfl,nt,rv le⟩
  .rw[On z] at e
   obtain⟨x,h1,h2⟩:=r.re j w e;exact⟨x,by rw[On z];exact h1,old h1 h2⟩
 .by_cases z:i=j
  .subst z
   have hl:i<ρ.length:=by
    have:=(Od.mp e1).1;simpa using this
   rw[Oq (by rw[r.len];exact hl)] at e2;cases e2;exact⟨h0 r.same nt,fun q=>nO (r.sub _ q)⟩
  .rw[On z] at e1 e2
   exact r.fresh j ys a e1 e2
 .by_cases z:i=j
  .by_cases z':i=k
   .rw[←z,←z']
   .exfalso
    subst z
    have hl:i<ρ.length:=by
     have:=(Od.mp e1).1;simpa using this
    rw[Oq (by rw[r.len];exact hl)] at e3;cases e3;rw[On z'] at e2 e4;exact ED e2 e4
  .by_cases z':i=k
   .exfalso
    subst z'
    have hl:i<ρ.length:=by
     have:=(Od.mp e2).1;simpa using this
    rw[Oq (by rw[r.len];exact hl)] at e4;cases e4;rw[On z] at e1 e3;exact ED e1 e3
   .rw[On z] at e1 e3
    rw[On z'] at e2 e4;exact r.dist j k ys zs v e1 e2 e3 e4
theorem RS.own(r:RS K O₀ H₀ F ts O H σ ρ T)(hp:H p=none)(rv:Xs K O H vs xs):RS K O₀ H₀ F ts (fun b=>O b\/b=p) (upd H p (.lst vs)) (σ.set i (some (.ref p))) (ρ.set i (some (.loc (.list xs)))) T:=r.ownO hp (.inl ⟨_,rfl⟩) fun le=>⟨vs,bj,rv.mono le⟩
theorem RS.putO(r:RS K O₀ H₀ F ts O H σ ρ T)(e1:ρ[i]? = some (some (.loc xs)))(e2:σ[i]? = some (some (.ref a)))(hm:Y9 (some o))(rv:Le O H O (upd H a o)->Yf K O (upd H a o) a ys):RS K O₀ H₀ F ts O (upd H a o) σ (ρ.set i (some (.loc ys))) T:=by
 obtain⟨v,z1,a',ea,oa,nt,ha⟩:=r.re i _ e1;rw[e2] at z1;cases z1;cases ea;have hl:i<ρ.length:=(Od.mp e1).1;obtain⟨f1,f2⟩:=r.fresh i xs a e1 e2;have le:Le O H O (upd H a o):=fun b o n e=>⟨n,by rw[aK (show b≠a from fun z=>n (by simp_all))];exact e⟩
 have back:∀{j:Nat}{zs:Oa},(ρ.set i (some (W.loc ys)))[j]? = some (some (.loc zs))->∃ws,ρ[j]? = some (some (.loc ws)):=fun {j zs} e=>by
  by_cases z:i=j
  .subst z;exact⟨xs,e1⟩
  .simp_all
 refine⟨⟨r.hc.own,fun b hb=>?_,r.hc.nd,r.hc.len,fun j b zs q1 q2=>?_⟩,fun j w e=>?_,r.sub,r.ots,fun b o n e=>?_,fun j zs b q1 q2=>?_,fun j k zs zs' v q1 q2 q3 q4=>?_,fun f hf=>(r.frs f hf).trans le,by simp[r.len]⟩
 .by_cases z:b=a
  .subst z;rw[bj];exact hm
  .rw[aK z];exact r.hc.trk b hb
 .exact(r.hc.tape j b zs q1 q2).mono (fun o' h1=>by rw[aK (show b≠a from fun z=>nt (by rw[←z];exact OA q1))];exact h1) le
 .by_cases z:i=j
  .subst z
   rw[Oq hl] at e;cases e;exact⟨.ref a,e2,a,rfl,oa,nt,rv le⟩
  .rw[On z] at e
   obtain⟨x,h1,h2⟩:=r.re j w e;refine⟨x,h1,?_⟩
   cases w with
   |d x=>exact Rep.mono le h2
   |tp k=>exact h2
   |loc zs=>
    obtain⟨b,eb,k1,k2,k3⟩:=h2;have n:b≠a:=fun q=>z (r.dist i j xs zs (.ref a) e1 e e2 (by rw[h1,eb,q]));exact⟨b,eb,k1,k2,k3.mono (fun o' q=>by rw[aK n];exact q) le⟩
 .have:=r.same b o n e
  rw[aK (show b≠a from fun z=>by rw[z,f1] at e;cases e)];exact this
 .obtain⟨ws,q⟩:=back q1
  exact r.fresh j ws b q q2
 .obtain⟨ws,q⟩:=back q1
  obtain⟨Bq,q'⟩:=back q2;exact r.dist j k ws Bq v q q' q3 q4
theorem RS.put{i:Nat}{a:Addr}{vs us:List V}{xs ys:List Oa}(r:RS K O₀ H₀ F ts O H σ ρ T)(e1:ρ[i]? = some (some (.loc (.list xs))))(e2:σ[i]? = some (some (.ref a)))(rv:Xs K O H vs ys):RS K O₀ H₀ F ts O (upd H a (.lst vs)) σ (ρ.set i (some (.loc (.list ys)))) T:=r.putO e1 e2 (.inl ⟨_,rfl⟩) fun le=>⟨vs,bj,rv.mono le⟩
theorem RS.tapeO(r:RS K O₀ H₀ F ts O H σ ρ T)(e:ts[n]? = some a)(hm:Y9 (some o))(rv:Le O H O (upd H a o)->Y3 K O (upd H a o) a ys):RS K O₀ H₀ F ts O (upd H a o) σ ρ (T.set n ys):=by
 have am:=OA e;have le:Le O H O (upd H a o):=fun b o' k q=>⟨k,by rw[aK (fun z=>k (by rw[z];exact r.hc.own a am))];exact q⟩
 have sx:Xx ts H (upd H a o):=fun b o' k q=>by rw[aK (fun z=>k (by simp_all))];exact q
 refine⟨⟨r.hc.own,fun b hb=>?_,r.hc.nd,by simp[r.hc.len],fun j b zs q1 q2=>?_⟩,r.re.mono r.hc sx,r.sub,r.ots,r.same.trans sx,r.fresh,r.dist,fun f hf=>(r.frs f hf).trans le,r.len⟩
 .by_cases z:b=a
  .subst z;rw[bj];exact hm
  .rw[aK z];exact r.hc.trk b hb
 .by_cases z:n=j
  .subst z
   rw[e] at q1
   have hl:n<T.length:=by
    have:=(Od.mp e).1;rw[←r.hc.len];exact this
   rw[Oq hl] at q2<;>simp_all
  .simp_all
   refine(r.hc.tape j b zs q1 q2).mono (fun o' h1=>?_) le
   have nb:b≠a:=fun q=>by
    rw[q] at q1;exact z ((Vn (Od.mp e).1 r.hc.nd).mp (e.trans q1.symm))
   rw[aK nb]<;>omega
noncomputable def kI:W->W
 |.loc x=>.d x
 |w=>w
noncomputable def cz(ρ:Xw):Xw:=ρ.map (Option.map kI)
theorem RS.frzH(r:RS K O₀ H₀ F ts O H σ ρ T):HC K O₀ ts H T:=by
 have le:Le O H O₀ H:=fun a o n e=>⟨fun z=>n (r.sub a z),e⟩;exact⟨r.ots,fun b hb=>r.hc.trk b (r.sub b hb),r.hc.nd,r.hc.len,fun i a xs e1 e2=>(r.hc.tape i a xs e1 e2).mono (fun _ h=>h) le⟩
def tH(ρ:Xw):Prop:=∀(i:Nat) (ds:List (Oa×Oa)),ρ[i]?≠some (some (.loc (.dict ds)))
theorem RS.frz(r:RS K O₀ H₀ F ts O H σ ρ T)(nd:tH ρ):HC K O₀ ts H T/\X9 K O₀ ts H σ (cz ρ):=by
 have le:Le O H O₀ H:=fun a o n e=>⟨fun z=>n (r.sub a z),e⟩;refine⟨r.frzH,fun i w e=>?_⟩;unfold cz at e;rw[O7] at e
 cases hu:ρ[i]? with
 |none=>simp_all
 |some u=>
  cases u with
  |none=>simp_all
  |some u=>
   rw[hu] at e;cases e;obtain⟨v,h1,h2⟩:=r.re i u hu;refine⟨v,h1,?_⟩
   cases u with
   |d x=>exact Rep.mono le h2
   |tp k=>exact h2
   |loc xs=>
    obtain⟨a,rfl,k1,k2,k3⟩:=h2
    cases xs with
    |list xs=>obtain⟨vs,k3,k4⟩:=k3;exact .lst (.inl ⟨(r.fresh i _ a hu h1).2,.inl k3⟩) (k4.mono le)
    |dict xs=>exact absurd hu (nd i xs)
    |_=>cases k3
theorem RS.frzD(r:RS K O₀ H₀ F ts O H σ ρ T)(h1:ρ[i]? = some (some (.loc (.dict ds)))):∃a kvs,H a=some (.dK kvs)/\∀o,RS K O₀ H₀ F ts (fun b=>O b/\b≠a) (upd H a (.frz o (.dK kvs))) σ (ρ.set i (some (.d (.dict ds)))) T:=by
 obtain⟨v,k1,a,rfl,k2,k3,kvs,k4,k5⟩:=r.re i _ h1;refine⟨a,kvs,k4,fun o=>?_⟩;have hl:i<ρ.length:=(Od.mp h1).1;have U:∀{b:Addr},b≠a->upd H a (.frz o (.dK kvs)) b=H b:=fun n=>aK n;have le:Le O H (fun b=>O b/\b≠a) (upd H a (.frz o (.dK kvs))):=fun b u n e=>⟨fun z=>n z.1,by rw[U (fun z=>n (by simp_all))];exact e⟩;have fr:=r.fresh i _ a h1 k1
 have hw:∀ys,W.d (.dict ds)≠.loc ys:=fun _ z=>nomatch z
 refine⟨⟨fun b hb=>⟨r.hc.own b hb,fun z=>k3 (z ▸ hb)⟩,fun b hb=>by rw[U hb.2];exact r.hc.trk b hb.1,r.hc.nd,r.hc.len,fun j b ys e1 e2=>?_⟩,fun j w e=>?_,fun b hb=>⟨r.sub b hb,fun z=>fr.2 (z ▸ hb)⟩,r.ots,fun b u n e=>?_,fun j ys b e1 e2=>?_,fun j k ys zs v e1 e2 e3 e4=>?_,fun f hf=>(r.frs f hf).trans le,by simp[r.len]⟩
 .exact(r.hc.tape j b ys e1 e2).mono (fun _ h=>by rw[U (fun z=>k3 (by rw[←z];exact OA e1))];exact h) le
 .by_cases z:i=j
  .subst z
   rw[Oq hl] at e;cases e;exact⟨.ref a,k1,.dct (fun z=>z.2 rfl) bj (k5.mono le)⟩
  .rw[On z] at e
   obtain⟨x,q1,q2⟩:=r.re j w e;refine⟨x,q1,?_⟩
   cases w with
   |d y=>exact Rep.mono le q2
   |tp k=>exact q2
   |loc ys=>
    obtain⟨b,eb,m1,m2,m3⟩:=q2;have nb:b≠a:=fun q=>z (r.dist i j _ ys (.ref a) h1 e k1 (by rw[q1,eb,q]));exact⟨b,eb,⟨m1,nb⟩,m2,m3.mono (fun _ q=>by rw[U nb];exact q) le⟩
 .rw[U (fun z=>by simp_all)]
  exact r.same b u n e
 .obtain⟨n,e⟩:=fu hw e1
  exact r.fresh j ys b e e2
 .obtain⟨n1,e1⟩:=fu hw e1
  obtain⟨n2,e2⟩:=fu hw e2;exact r.dist j k ys zs v e1 e2 e3 e4
theorem zfh(h:ρ[i]? = some (some (.loc x))):cz (ρ.set i (some (.d x)))=cz ρ:=by
 apply Vo;intro j;unfold cz;rw[O7,O7]
 by_cases z:i=j
 .subst z
  rw[Oq (Od.mp h).1,h];rfl
 .simp_all
theorem RS.frzN(R:Xw):∀(k:Nat) {O:Addr->Prop}{H:Hp}{ρ:Xw},RS K O₀ H₀ F ts O H σ ρ T->(∀j ds,k<=j->ρ[j]?≠some (some (.loc (.dict ds))))->cz ρ=R ->
  Gh (fun H'=>∃O' ρ',RS K O₀ H₀ F ts O' H' σ ρ' T/\tH ρ'/\cz ρ'=R) H
 |0,O,H,ρ,r,n,e=>.done ⟨O,ρ,r,fun j ds=>n j ds (Pm _),e⟩
 |k+1,O,H,ρ,r,n,e=>by
  by_cases h:∃ds,ρ[k]? = some (some (.loc (.dict ds)))
  .obtain⟨ds,h⟩:=h
   obtain⟨a,kvs,e1,f⟩:=r.frzD h;refine .frz e1 fun o=>RS.frzN R k (f o) (fun j es hj=>?_) (by rw[zfh h];exact e)
   by_cases z:k=j
   .subst z
    rw[Oq (Od.mp h).1]<;>simp_all
   .rw[On z]
    exact n j es (by lia)
  .refine RS.frzN R k r (fun j ds hj=>?_) e
   by_cases z:k=j
   .subst z<;>simp_all
   .exact n j ds (by lia)
theorem RS.frzG(r:RS K O₀ H₀ F ts O H σ ρ T):Gh (fun H'=>Xx ts H₀ H'/\HC K O₀ ts H' T/\X9 K O₀ ts H' σ (cz ρ)) H:=(RS.frzN _ ρ.length r (fun j ds hj=>by simp_all) rfl).imp fun H' ⟨O',ρ',r',n,e⟩=>⟨r'.same,by rw[←e];exact r'.frz n⟩
end
noncomputable def aC:FS:=fun ρ T=>some ((.nx,ρ),T)
noncomputable def ak(f g:FS):FS:=fun ρ T=>Xy (f ρ T) fun p T1=>match p with
 |(.nx,XU)=>g XU T1
 |(fl,XU)=>some ((fl,XU),T1)
noncomputable def aD(i:Nat)(f:FE):FS:=fun ρ T=>Xy (f ρ T) fun w T1=>match w with
 |.d x=>some ((.nx,ρ.set i (some (.d x))),T1)
 |.tp k=>some ((.nx,ρ.set i (some (.tp k))),T1)
 |.loc _=>none
noncomputable def cJ(i:Nat)(g:FA):FS:=fun ρ T=>Xy (g ρ T) fun ws T1=>match fL ws with
 |some xs=>if xs.length<=1000 then some ((.nx,ρ.set i (some (.loc (.list xs)))),T1) else none
 |none=>none
noncomputable def cF(i:Nat)(f:FE):FS:=fun ρ T=>Xy (f ρ T) fun w T1=>match w with
 | .d x=>(match ρ[i]? with
  |some (some (.loc (.list xs)))=>if xs.length<Om then some ((.nx,ρ.set i (some (.loc (.list (xs++[x]))))),T1) else none
  | _=>none)
 |_=>none
noncomputable def Xz(c:FT)(f g:FS):FS:=fun ρ T=>Xy (c ρ T) fun b T1=>if b=true then f ρ T1 else g ρ T1
noncomputable def aq(f:FE):FS:=fun ρ T=>Xy (f (cz ρ) T) fun w T1=>match w with
 |.d x=>some ((.rt x,ρ),T1)
 |_=>none
noncomputable def fI(f:FE):FS:=fun ρ T=>Xy (f ρ T) fun _ T1=>some ((.nx,ρ),T1)
noncomputable def forL(i:Nat)(body:FS):List Oa->FS
 |[]=>aC
 |d::r=>fun ρ T=>Xy (body (ρ.set i (some (.d d))) T) fun p T1=>match p with
  |(.nx,XU)=>forL i body r XU T1
  |(.ct,XU)=>forL i body r XU T1
  |(.bk,XU)=>some ((.nx,XU),T1)
  |(.rt x,XU)=>some ((.rt x,XU),T1)
  |(.ro x,XU)=>some ((.ro x,XU),T1)
noncomputable def cq(i:Nat)(it:FI)(body:FS):FS:=fun ρ T=>Xy (it ρ T) fun ds T1=>forL i body ds ρ T1
noncomputable def bN(c:FT)(body:FS):Nat->FS
 |0=>fun _ _=>none
 |n+1=>fun ρ T=>Xy (c ρ T) fun b T1=>if b=true then Xy (body ρ T1) fun p T2=>match p with
   |(.nx,XU)=>bN c body n XU T2
   |(.ct,XU)=>bN c body n XU T2
   |(.bk,XU)=>some ((.nx,XU),T2)
   |(.rt x,XU)=>some ((.rt x,XU),T2)
   |(.ro x,XU)=>some ((.ro x,XU),T2)
  else some ((.nx,ρ),T1)
section
variable {X:Cx}{pos:Pos}{st:Stmt}{rest:List Stmt}{f g:FS}{e:Expr}{fe:FE}{c:FT}{K:Frag}{O₀:Addr->Prop}{H₀:Hp}{F:List ((Addr->Prop)×Hp)}{ts:List Addr}{O:Addr->Prop}{H H1:Hp}{σ:L2.St}{ρ:Xw}{T T1:Tp}
theorem aI:Za X [] aC:=by
 refine⟨?_⟩;refine nB jN fun D σ H=>?_;rintro⟨O₀,H₀,F,ts,O,ρ,T,fl,ρ',T',rs,e,q⟩;cases e;exact q O σ H rs
theorem ap(h1:DS X st f)(h2:Za X rest g):Za X (st::rest) (ak f g):=by
 refine⟨?_⟩;refine nB (cH h1.pe h2.pe) fun D σ H=>?_;rintro⟨O₀,H₀,F,ts,O,ρ,T,fl,ρ',T',rs,e,q⟩;obtain⟨⟨AK,XU⟩,T1,e1,e⟩:=aL e;refine⟨O₀,H₀,F,ts,O,ρ,T,AK,XU,T1,rs,e1,?_⟩
 cases AK with
 |nx=>exact fun O' σ' H' rs'=>⟨O₀,H₀,F,ts,O',XU,T1,fl,ρ',T',rs',e,q⟩
 |rt x=>cases e;exact q
 |ro x=>cases e;exact q
 |bk=>cases e;exact q
 |ct=>cases e;exact q
theorem ar(h1:DS X st f):Za X [st] f:=⟨dO h1.pe⟩
theorem aQ(hN:X.N.Nodup)(he:DE X e fe)(hi:autoParam (X.N[i]? = some x) u10)(hx:autoParam (Loc X.env.scope x) u18)(hs:autoParam (PB e (some (.Name x pos')) pos.line X.env=pure false) u10)
  (hf:autoParam (X.fn x=true\/X.env.scope.names.lookup x=some .local) u15):DS X (.Assign [.Name x pos'] e pos) (aD i fe):=by
 refine⟨?_⟩;refine dG (da hN hi hx he.pe hs hf) fun D σ H=>?_;rintro⟨O₀,H₀,F,ts,O,ρ,T,fl,ρ',T',rs,e,q⟩;obtain⟨w,T1,e1,e⟩:=aL e;refine⟨O,ts,ρ,T,w,T1,rs.hc,rs.re,e1,fun v H1 s1 Xt r1=>?_⟩
 cases w with
 |d x=>cases e;exact q O _ _ ((rs.step s1 Xt).set r1 fun _ z=>nomatch z)
 |tp k=>cases e;exact q O _ _ ((rs.step s1 Xt).set r1 fun _ z=>nomatch z)
 |loc xs=>cases e
theorem zfi{i:Nat}{x y:Str}{scope osc:Qg}{N N':List Str}{elt iter:Expr}{ifs:List Expr}{px py ZG:Pos}{it:FI}{c:FT}{f:FE}(S:CS osc N x scope N')(hN:X.N.Nodup)(hi:DI X (.Name x px) iter it)
  (he:∀C s0 H0 ex,DE (bZ X x scope C s0 H0 ex N') elt f) (ht:∀C s0 H0 ex,Cn (bZ X x scope C s0 H0 ex N') ifs c) (Zm:autoParam (X.N[i]? = some y) u10) (hy:autoParam (Loc X.env.scope y) u18)
  (EE:autoParam (X.fn y=true\/X.env.scope.names.lookup y=some .local) u15) (hc:autoParam (X.calm=true) u10) (hs:autoParam (X.env.scope=osc) u10) (hN':autoParam (X.N=N) u10)
  (JU:autoParam (PB (.ListComp elt [⟨.Name x px,iter,ifs,0⟩] scope pos) (some (.Name y py)) ZG.line X.env=pure true) u10) (hf:autoParam (∀v,Pc iter X.env v=pure v) u16) :
  DS X (.Assign [.Name y py] (.ListComp elt [⟨.Name x px,iter,ifs,0⟩] scope pos) ZG) (aD i (cb it c f)):=by
 refine⟨?_⟩;subst hs hN';refine dG (zek  (tt:=liftT X.K c) (te:=lift X.K f) hc S hN Zm hy EE hi.pe (fun C s0 H0 ex=>(he C s0 H0 ex).pe) (fun C s0 H0 ex=>(ht C s0 H0 ex).pe) JU hf) fun D σ H=>?_;rintro⟨O₀,H₀,F,ts,O,ρ,T,fl,ρ',T',rs,e,q⟩;obtain⟨w,T1,e1,e⟩:=aL e;obtain⟨ds,T2,e2,e1⟩:=aL e1;obtain⟨ys,T3,e3,e1⟩:=aL e1;cases e1;cases e;refine⟨O,ts,ρ,T,ds,T2,rs.hc,rs.re,e2,fun J H1 s1 Xt ok hz=>?_⟩;exact xZ Xt (rs.re.mono rs.hc s1) ok hz e3 fun vs H' s2 XC r2 p hp=>q O _ _ ((rs.step (s1.trans (s2.trans (.new hp _))) (XC.new hp _)).set (XC.newL hp r2) fun _ z=>nomatch z)
theorem gG{i:Nat}{x:Str}{pos':Pos}{es:List Expr}{FL:Pos}{g:FA}(hN:X.N.Nodup)(he:DA X es g)(hi:autoParam (X.N[i]? = some x) u10)(hx:autoParam (Loc X.env.scope x) u18)
  (hs:autoParam (PB (.List es FL) (some (.Name x pos')) pos.line X.env=pure false) u10) (hf:autoParam (X.fn x=true\/X.env.scope.names.lookup x=some .local) u15):DS X (.Assign [.Name x pos'] (.List es FL) pos) (cJ i g):=by
 refine⟨?_⟩;refine dG (da hN hi hx (rV he.pe) hs hf) fun D σ H=>?_;rintro⟨O₀,H₀,F,ts,O,ρ,T,fl,ρ',T',rs,e,q⟩;obtain⟨ws,T1,e1,e⟩:=aL e;refine⟨O,ts,ρ,T,ws,T1,rs.hc,rs.re,e1,fun vs H1 s1 Xt r1=>?_⟩;split at e
 .rename_i xs h1
  split at e
  .rename_i h2
   cases e;have rv:=nq r1 h1;exact⟨qZ (by rw[rv.length];exact h2),fun p hp=>q _ _ _ ((rs.step s1 Xt).own hp rv)⟩
  .cases e
 .cases e
theorem aG(hc:DT X ce c)(ha:Za X a f)(hb:Za X b g):DS X (.If ce a b pos) (Xz c f g):=by
 refine⟨?_⟩;refine dG (kc hc.pe ha.pe hb.pe) fun D σ H=>?_;rintro⟨O₀,H₀,F,ts,O,ρ,T,fl,ρ',T',rs,e,q⟩;obtain⟨b1,T1,e1,e⟩:=aL e;refine⟨O,ts,ρ,T,b1,T1,rs.hc,rs.re,e1,fun H1 s1 Xt=>?_⟩
 cases b1 with
 |true=>exact iJ ⟨O₀,H₀,F,ts,O,ρ,T1,fl,ρ',T',rs.step s1 Xt,by simpa using e,q⟩
 |false=>exact iK ⟨O₀,H₀,F,ts,O,ρ,T1,fl,ρ',T',rs.step s1 Xt,by simpa using e,q⟩
theorem az(he:DE X e fe):DS X (.Return (some e) pos) (aq fe):=by
 refine⟨?_⟩;refine dG (zes (jZ he.pe)) fun D σ H=>?_;rintro⟨O₀,H₀,F,ts,O,ρ,T,fl,ρ',T',rs,e,q⟩;obtain⟨w,T1,e1,e⟩:=aL e;refine rs.frzG.imp fun H0 ⟨same,c0,AF⟩=>?_;refine⟨O₀,ts,cz ρ,T,w,T1,c0,AF,e1,fun v H1 s1 Xt r1=>?_⟩
 cases w with
 |d x=>cases e;exact q v H1 (same.trans s1) Xt r1
 |tp k=>cases e
 |loc xs=>cases e
theorem ja(he:DE X e fe)(hs:autoParam (PB e none pos.line X.env=pure false) u10):DS X (.Expr e pos) (fI fe):=by
 refine⟨?_⟩;refine dG (lA he.pe hs) fun D σ H=>?_;rintro⟨O₀,H₀,F,ts,O,ρ,T,fl,ρ',T',rs,e,q⟩;obtain⟨w,T1,e1,e⟩:=aL e;cases e;exact⟨O,ts,ρ,T,w,_,rs.hc,rs.re,e1,fun v H1 s1 Xt r1=>q O _ _ (rs.step s1 Xt)⟩
theorem gc(he:DE X e fe)(hN:autoParam (X.N[i]? = some x) u10)(hv:autoParam (A0 X.env.scope x) u20)(hd:autoParam ((x == ("__debug__" : Str))=false) u11)
  (hcd:autoParam ((x == ("__classdict__" : Str))=false) u11) 
  (XZ:autoParam (PD (.Name x p) "append" X.env (eval (.Name x p) X.env)=eval (.Name x p) X.env) u10)
  (Yl:autoParam (((Pe Xu (Ol [e] X.env)).all (fun x=>!x.1)&&(QJ Xu (PN [] X.env)).all (fun x=>x.1.isSome)
   && decide (([e]:List Expr).length+([]:List Qk).length+(if ([]:List Qk).isEmpty then 0 else 1)<30))=true) u19)
  (XY:autoParam ((apos.endLine == Xu.line)=true) u10) (YG:autoParam (Ol [e] X.env=(false,eval e X.env)::Ol [] X.env) u12) (XN:autoParam ((Pe Xu (Ol [] X.env)).any (·.1)=false) u13)
  (hs:autoParam (PB (.Call (.Attribute (.Name x p) "append" apos) [e] [] Xu) none pos.line X.env=pure false) u10) :
  DS X (.Expr (.Call (.Attribute (.Name x p) "append" apos) [e] [] Xu) pos) (cF i fe):=by
 refine⟨?_⟩;refine dG (lA (gR Qp S5 S6 u0 (pv i hN hv hd hcd) (bH he.pe bY YG) XZ Yl XY YG XN) hs) fun D σ H=>?_;rintro⟨O₀,H₀,F,ts,O,ρ,T,fl,ρ',T',rs,e,q⟩;obtain⟨w,T1,e1,e⟩:=aL e;split at e
 .split at e
  .rename_i xs h1
   split at e
   .rename_i h2
    cases e;obtain⟨v,k1,a,rfl,k2,k3,vs,k4,k5⟩:=rs.re i _ h1;refine⟨_,k1,.inl ⟨rfl,vs,Ye.of k4⟩,O,ts,ρ,T,_,_,rs.hc,rs.re,e1,fun u H1 s1 Xt r1=>?_⟩;have YI:=rs.step s1 Xt;exact⟨a,vs,u,rfl,rfl,s1 _ _ k3 k4,by rw[k5.length];exact h2,q O _ _ (YI.put (us:=[]) h1 k1 ((k5.mono (rs.hc.le s1)).append (.cons r1 .nil)))⟩
   .cases e
  .cases e
 .cases e
theorem RS.less{f:(Addr->Prop)×Hp}(r:RS K O₀ H₀ (f::F) ts O H σ ρ T):RS K O₀ H₀ F ts O H σ ρ T:=⟨r.hc,r.re,r.sub,r.ots,r.same,r.fresh,r.dist,fun f hf=>r.frs f (Of _ hf),r.len⟩
theorem RS.more(r:RS K O₀ H₀ F ts O H σ ρ T):RS K O₀ H₀ ((O,H)::F) ts O H σ ρ T:=⟨r.hc,r.re,r.sub,r.ots,r.same,r.fresh,r.dist,fun f hf=>by
 rcases Ox.mp hf with z|z
 .subst z;exact fun a o n e=>⟨n,e⟩
 .exact r.frs f z,r.len⟩
theorem fB(hN:X.N.Nodup)(hi:DI X (.Name x ZE) iter it)(hb:Za X body f)(hix:autoParam (X.N[i]? = some x) u10)(hx:autoParam (Loc X.env.scope x) u18)
  (hf:autoParam (X.fn x=true\/X.env.scope.names.lookup x=some .local) u15) (hp:autoParam (VC (OJ X.prog X.w) X.A X.env X.xe) u26) (hc:autoParam (X.calm=true) u10)
  (hs:autoParam (∀x,Pc iter X.env x=pure x) u16):DS X (.For (.Name x ZE) iter body [] pos) (cq i it f):=by
 refine⟨?_⟩;refine dG (lL hp hc hi.pe (iw hN hix hx hf) hb.pe hs) fun D σ H=>?_;rintro⟨O₀,H₀,F,ts,O,ρ,T,fl,ρ',T',rs,e,q⟩;obtain⟨ds,T1,e1,e⟩:=aL e;refine⟨O,ts,ρ,T,ds,T1,rs.hc,rs.re,e1,fun J H1 s1 Xt ok hz=>?_⟩;refine⟨fun k m σ H=>m=ds.length-k/\k<=ds.length/\∃O' DC Tk,RS X.K O₀ H₀ ((O,H1)::F) ts O' H σ DC Tk/\forL i f (ds.drop k) DC Tk=some ((fl,ρ'),T'),⟨_,rfl,Pm _,O,ρ,T1,(rs.step s1 Xt).more,e⟩,?_⟩;rintro k m YW H2 ⟨rfl,hk,O',DC,Tk,ZV,ek⟩;obtain⟨k1,k2,k3⟩:=ok O' H2 (ZV.frs _ Oh)
 by_cases Yq:k<ds.length
 .refine .inr ⟨k1 k Yq,fun YV H3=>∃O' DC Tk,RS X.K O₀ H₀ ((O,H1)::F) ts O' H3 YV DC Tk/\forL i f (ds.drop (k+1)) DC Tk=some ((fl,ρ'),T'),fun YV H3 n=>⟨ds.length-(k+1),by lia,rfl,Yq,n⟩,fun v H3 y=>?_⟩
  obtain⟨e2,d,hd,rd⟩:=k3 k v H3 y Yq;subst e2
  have II:ds.drop k=d::ds.drop (k+1):=by
   rw[QG Yq];have:=(Od.mp hd).2;rw[this]
  rw[II] at ek;obtain⟨⟨AK,XU⟩,T3,e3,ek⟩:=aL ek;refine⟨O₀,H₀,(O,H1)::F,ts,O',_,Tk,AK,XU,T3,ZV.set (i:=i) (w:=.d d) rd (fun _ z=>nomatch z),e3,?_⟩
  cases AK with
  |nx=>exact fun O3 YV H3 ZU=>⟨O3,XU,T3,ZU,ek⟩
  |ct=>exact fun O3 YV H3 ZU=>⟨O3,XU,T3,ZU,ek⟩
  |bk=>
   cases ek;exact fun O3 YV H3 ZU=>q O3 YV H3 ZU.less
  |rt x=>
   cases ek;exact q
  |ro x=>
   cases ek;exact q
 .have e:k=ds.length:=by lia
  subst e;rw[P6 (Oo _)] at ek;cases ek;exact .inl ⟨k2,q O' YW H2 ZV.less⟩
theorem lj(n:Nat)(hc:DT X ce c)(hb:Za X body f)(hp:autoParam (VC (OJ X.prog X.w) X.A X.env X.xe) u26):DS X (.While ce body [] pos) (bN c f n):=by
 refine⟨?_⟩;refine dG (zba hp hc.pe hb.pe) fun D σ H=>?_;rintro⟨O₀,H₀,F,ts,O,ρ,T,fl,ρ',T',rs,e,q⟩;refine⟨fun m σ H=>∃O' Hr Tm,RS X.K O₀ H₀ F ts O' H σ Hr Tm/\bN c f m Hr Tm=some _,⟨n,O,ρ,T,rs,e⟩,?_⟩;rintro m YW H2 ⟨O',Hr,Tm,ZV,em⟩
 cases m with
 |zero=>cases em
 |succ m=>
  obtain⟨b,T3,e3,em⟩:=aL em;refine⟨O',ts,Hr,Tm,b,T3,ZV.hc,ZV.re,e3,fun H3 s3 Yj=>?_⟩;have ZU:=ZV.step s3 Yj
  cases b with
  |false=>
   cases em;exact iK (q O' YW H3 ZU)
  |true=>
   obtain⟨⟨AK,XU⟩,T4,e4,em⟩:=aL em;refine iJ ⟨fun YV H3=>∃O' Hr Tm,RS X.K O₀ H₀ F ts O' H3 YV Hr Tm/\bN c f m Hr Tm=some _,fun YV H3 n=>⟨m,QV m,n⟩,O₀,H₀,F,ts,O',Hr,T3,AK,XU,T4,ZU,e4,?_⟩
   cases AK with
   |nx=>exact fun O3 YV H3 ZU=>⟨O3,XU,T4,ZU,em⟩
   |ct=>exact fun O3 YV H3 ZU=>⟨O3,XU,T4,ZU,em⟩
   |bk=>
    cases em;exact fun O3 YV H3 ZU=>q O3 YV H3 ZU
   |rt x=>
    cases em;exact q
   |ro x=>
    cases em;exact q
end
abbrev XB:=List W->Tp->Option (Oa×Tp)
noncomputable def eh:List W->Bool
 |[]=>true
 |.loc _::_=>false
 |_::r=>eh r
noncomputable def cO(o:Option ((Fl×Xw)×Tp)):Option (Oa×Tp):=Xy o fun p T=>match p with
 |(.rt x,_)=>some (x,T)
 |(.nx,_)=>some (.none,T)
 |_=>none
noncomputable def aN(N:Nat)(f:FS):XB:=fun ws T=>if eh ws=true then cO (f (ws.map some++Ov (N-ws.length) none) T) else none
inductive EL(K:Frag)(n:Nat)(m:XB)(vs:List V)(H:Hp)(Q:VK):Prop where
 |mk (O:Addr->Prop) (ts:List Addr) (T:Tp) (ws:List W) (x:Oa) (T':Tp) (hc:HC K O ts H T) (r:gU K O ts H vs ws) (hl:ws.length=n) (e:m ws T=some (x,T')) (q:∀v H',Xx ts H H'->HC K O ts H' T'->Rep K O H' v x->Q v H'):EL K n m vs H Q
noncomputable def XF(K:Frag)(n:Nat)(m:XB):Sp:=fun vs H Q _=>EL K n m vs H Q
theorem p9{K:Frag}{O:Addr->Prop}{ts:List Addr}{H:Hp}:∀{vs:List V}{ws:List W}{i:Nat}{w:W},gU K O ts H vs ws->ws[i]? = some w->∃v,vs[i]? = some v/\Yz K O ts H v w
 |_,_,_,_,.nil,e=>by simp at e
 |_,_,0,_,.cons r _,e=>by simp_all
 |_,_,i+1,w,.cons _ t,e=>by
  obtain⟨d,h1,h2⟩:=p9   t (by simpa using e);exact⟨d,by simpa using h1,h2⟩
theorem mW:∀{ws:List W}{xs:Oa},eh ws=true->W.loc xs∉ws
 |[],_,_,h=>by simp_all
 |.loc _::_,_,e,_=>by cases e
 |.d _::r,_,e,h=>by
  rcases Ox.mp h with z|z
  .cases z
  .exact mW (ws:=r) e z
 |.tp _::r,_,e,h=>by
  rcases Ox.mp h with z|z
  .cases z
  .exact mW (ws:=r) e z
theorem mV{ws:List W}{n i:Nat}{w:W}(e:(ws.map some++Ov n none)[i]? = some (some w)):ws[i]? = some w:=by
 by_cases h:i<ws.length
 .rw[Os (by simp_all),O7] at e<;>simp_all
 .rw[O6 (by simp_all)] at e
  have:=OA e<;>simp_all
theorem FP{P:Oz}{w:OO}{K:Frag}{mg:Str->Option Oc}{base:Heap}{x qual:Str}{st:Stmt}{f:Addr}{fd:QD}{N ps:List Str}{k:Nat}{m:FS}(F:Ju K x qual st f fd)(S:XQ N ps (aW st))
  (Yb:∀(XS:Oc) (A:O0) (outer:List Env) (s:Oi) (H:Hp) (E:XK),XA k (A.deeper (RK qual (aW st) s.heap.objs.size f XS))->Za (dY YT P w K mg base N qual (aW st) f XS A outer s H E).nox (bV st) m) :
  X5 P w K mg base YT (k+1) f fd ps (XF K ps.length (aN N.length m)):=by
 refine F.ok S (fun vs H Q E h=>?_) (fun XS A outer s H vs Q E hr h=>⟨_,(Yb XS A _ s H E hr).pe,?_⟩)
 .obtain⟨O,ts,T,ws,x,T',hc,YA,hl,_⟩:=h
  rw[←hl];exact Qh YA
 obtain⟨O,ts,T,ws,x,T',hc,YA,hl,e,q⟩:=h;unfold aN at e;split at e
 .rename_i hn
  obtain⟨⟨fl,ρ'⟩,T1,e1,e⟩:=aL e;have XI:=Qh YA;have FJ:∀{i:Nat}{xs:Oa},(ws.map some++Ov (N.length-ws.length) none)[i]? = some (some (W.loc xs))->False:=fun {i xs} e=>mW hn (OA (mV e));refine⟨O,H,[],ts,O,_,T,fl,ρ',T1,⟨hc,fun i u e=>?_,fun _ h=>h,hc.own,.refl _ _,fun i xs a e1 _=>(FJ e1).elim,fun i j xs ys v e1 _ _ _=>(FJ e1).elim,fun f hf=>absurd hf (by simp),by simp[L2.start,XI]⟩,e1,?_⟩
  .obtain⟨v,h1,h2⟩:=p9 YA (mV e)
   refine⟨v,?_,h2⟩;unfold L2.start;have hi:=(Od.mp h1).1;rw[Os (by simpa using hi),O7,h1];rfl
  .cases fl with
   |rt y=>cases e;exact fun v H' s1 c1 r1=>q v H' s1 c1 r1
   |nx=>
    cases e;exact fun O' σ' H' rs=>q _ _ rs.same rs.frzH .non
   |bk=>cases e
   |ct=>cases e
   |ro y=>cases e
 .cases e
noncomputable def ay(m:XB)(g:FA):FE:=fun ρ T=>Xy (g ρ T) fun ws T1=>Xy (m ws T1) fun x T2=>some (.d x,T2)
def fT(g:FA)(n:Nat):Prop:=∀ρ T ws T',g ρ T=some (ws,T')->ws.length=n
theorem cu:fT ag 0:=fun ρ T ws T' e=>by cases e;rfl
theorem bc(h:fT g n):fT (ab f g) (n+1):=fun ρ T ws T' e=>by
 obtain⟨w1,T1,e1,e⟩:=aL e;obtain⟨ws,T2,e2,e⟩:=aL e;cases e;rw[O4,h _ _ _ _ e2]
theorem lD(F:Fn X.prog X.w X.K X.mg X.base name ps k (XF X.K ps.length m))(hr:XA k X.A)(hg:Gl X name)(ha:DA X (e::es) g)(hl:fT g ps.length)(Yk:autoParam ((name == ("__debug__" : Str))=false) u11)
  (he:autoParam (Ol (e::es) X.env=(false,eval e X.env)::Ol es X.env) u12) (X7:autoParam ((Pe pos (Ol es X.env)).any (·.1)=false) u13):DE X (.Call (.Name name p) (e::es) [] pos) (ay m g):=by
 refine⟨?_⟩;refine bo (gQ F hr hg ha.pe Yk he X7) fun σ H Q=>?_;rintro⟨O,ts,ρ,T,w,T',hc,re,e,q⟩;obtain⟨ws,T1,e1,e⟩:=aL e;obtain⟨x,T2,e2,e⟩:=aL e;cases e;refine⟨O,ts,ρ,T,ws,T1,hc,re,e1,fun vs H1 s1 Xt r1=>?_⟩;refine⟨O,ts,T1,ws,x,_,Xt,by simp_all,hl _ _ _ _ e1,e2,fun v H2 s2 XC r2=>q v H2 (s1.trans s2) XC r2⟩
noncomputable def Hu(g:Int->Int->Option Oa):Oa->Oa->Option Oa
 |.int i,.int j=>g i j
 |_,_=>none
noncomputable def dr:Oa->Oa->Option PyData:=Hu fun i j=>some (.int (i-j))
noncomputable def bz:Oa->Oa->Option PyData:=Hu fun i j=>if 0<j then some (.int (i % j)) else none
noncomputable def gV:Oa->Oa->Option PyData:=Hu fun i j=>if 0<=j/\j<=1000000/\i.natAbs<2^64 then some (.int (i^j.toNat)) else none
noncomputable def F4:Oa->Oa->Option PyData:=Hu fun i j=>some (.bool (decide (i<j)))
noncomputable def Hg:Oa->Oa->Option PyData:=Hu fun i j=>some (.bool (decide (i<=j)))
noncomputable def Au:Oa->Oa->Option PyData:=Hu fun i j=>some (.bool (decide (j<i)))
noncomputable def AL:Oa->Oa->Option PyData:=Hu fun i j=>some (.bool (decide (j<=i)))
theorem yM(e:Hu g x y=some d):∃i j,x=.int i/\y=.int j/\g i j=some d:=by
 unfold Hu at e
 split at e<;>simp_all
theorem rM{K:Frag}{C:Int->Int->Prop}{g:Int->Int->V}{gd:Int->Int->Option Oa}(h:∀i j d,gd i j=some d->C i j/\∀O H,Rep K O H (g i j) d):iP K (rI C g) (Hu gd):=fun O ts H T v1 v2 x y d Q hc h1 h2 e q=>by
 obtain⟨i,j,rfl,rfl,e⟩:=yM e;obtain⟨c,r⟩:=h i j d e;exact⟨i,j,h1.int,h2.int,c,q _ H (.refl _ _) hc (r O H)⟩
theorem lw{K:Frag}{g:Int->Int->V}{gd:Int->Int->Option Oa}(h:∀i j d,gd i j=some d->∀O H,Rep K O H (g i j) d):iP K (G5 g) (Hu gd):=fun O ts H T v1 v2 x y d Q hc h1 h2 e q=>by
 obtain⟨i,j,rfl,rfl,e⟩:=yM e;exact⟨i,j,h1.int,h2.int,q _ H (.refl _ _) hc (h i j d e O H)⟩
section
variable {X:Cx}
theorem iE:YL X (PJ .Sub) dr:=⟨_,zbi,lw fun i j d e O H=>by cases e;exact .int _⟩
theorem cT:YL X (PJ .Mod) bz:=⟨_,zbj,rM fun i j d e=>by
 split at e
 .rename_i h;cases e;exact⟨h,fun _ _=>.int _⟩
 .cases e⟩
theorem lY:YL X (PJ .Pow) gV:=⟨_,zbk,rM fun i j d e=>by
 split at e
 .rename_i h;cases e;exact⟨h,fun _ _=>.int _⟩
 .cases e⟩
theorem dI:YL X (OQ .Lt) F4:=⟨_,zbo,lw fun i j d e O H=>by cases e;exact .bl _⟩
theorem fR:YL X (OQ .LtE) Hg:=⟨_,zbp,lw fun i j d e O H=>by cases e;exact .bl _⟩
theorem eB:YL X (OQ .Gt) Au:=⟨_,zbq,lw fun i j d e O H=>by cases e;exact .bl _⟩
theorem Ac:YL X (OQ .GtE) AL:=⟨_,zbr,lw fun i j d e O H=>by cases e;exact .bl _⟩
noncomputable def aO:Oa->Oa->Option Oa
 |.int i,.int j=>some (.int (i+j))
 |.str x,.str y=>if x.length+y.length<=Om then some (.str (x++y)) else none
 |.tuple xs,.tuple ys=>if xs.length+ys.length<=Om then some (.tuple (xs++ys)) else none
 |.list xs,.list ys=>if xs.length+ys.length<=Om then some (.list (xs++ys)) else none
 |_,_=>none
noncomputable def Jm(K:Frag):R2:=fun x y H Q=>∃l b xs zs,x=.ref l/\y=.ref b/\Ye K H l xs/\Ye K H b zs/\xs.length+zs.length<=Om/\∀p,H p=none->Q (.ref p) (upd H p (.lst (xs++zs)))
theorem xr:Yc X (PJ .Add) (Jm X.K):=by
 intro pins s σ H x y v u Q I rx ry h;obtain⟨l,b,xs,zs,rfl,rfl,hH,hB,hz,q⟩:=h;cases rx;cases ry;obtain⟨Xr,r,p1,_⟩:=I.list hH;obtain⟨Zo,r2,p2,_⟩:=I.list hB;have hl:=r.length;have HJ:=r2.length;obtain⟨⟨cls,dd,data,sl⟩,ho,hc,n,hd⟩:=id p1.isList;obtain⟨⟨Ic,Fb,data2,Fk⟩,BY,XC,n2,hd2⟩:=id p2.isList;subst hc hd XC hd2
 have ea:Xr.toArray++Zo.toArray=(Xr++Zo).toArray:=by simp
 refine TH ⟨_,ho,rfl⟩ ⟨_,BY,rfl⟩ noFill_list_add seq_list_add PySem.F.slot_list_add PySem.F.entry_list_add (PySem.F.args_list_add_2 _ _) (list_addW l b _ _ n n2 dd Fb sl Fk (by simp_all)) ⟨ho,BY,?_⟩;rw[ea];exact⟨.ref _,_,I.lnew  (r.append r2) (by simp_all),rfl,q _ I.fresh⟩
theorem aX:YL X (PJ .Add) aO:=by
 refine⟨_,Bv.or (Ct.or (JX.or xr)),fun O ts H T v1 v2 x y d Q hc h1 h2 e q=>?_⟩;unfold aO at e;split at e
 .cases e
  exact .inl ⟨_,_,h1.int,h2.int,q _ H (.refl _ _) hc (.int _)⟩
 .split at e
  .rename_i hz
   cases e;exact .inr (.inl ⟨_,_,h1.str,h2.str,hz,q _ H (.refl _ _) hc (.str _)⟩)
  .cases e
 .split at e
  .rename_i xs ys hz
   cases e;obtain⟨a,vs,rfl,t1,r1⟩:=h1.tup;obtain⟨b,us,rfl,t2,r2⟩:=h2.tup;refine .inr (.inr (.inl ⟨a,b,vs,us,rfl,rfl,t1.sq,t2.sq,by rw[r1.length,r2.length];exact hz,fun z=>?_,fun _ z=>?_,fun _ _ p hp=>?_⟩))
   .subst z
    cases r1;exact q _ H (.refl _ _) hc (.tup t2 r2)
   .subst z
    cases r2;rw[PF] at q;exact q _ H (.refl _ _) hc (.tup t1 r1)
   .exact q _ _ (.new hp _) (hc.new hp _) (hc.newT hp (r1.append r2))
  .cases e
 .split at e
  .rename_i xs ys hz
   cases e;obtain⟨a,vs,rfl,t1,r1⟩:=h1.lst;obtain⟨b,us,rfl,t2,r2⟩:=h2.lst;exact .inr (.inr (.inr ⟨a,b,vs,us,rfl,rfl,t1,t2,by rw[r1.length,r2.length];exact hz,fun p hp=>q _ _ (.new hp _) (hc.new hp _) (hc.newL hp (r1.append r2))⟩))
  .cases e
 .cases e
theorem zfj:fillsNumberSlot (.type "tuple") "mul"=pure false:=PySem.fillsNumberSlot_seq   RO.lookup (rfl) Th.lookup (rfl)
theorem zfk:seqRepeat? (.type "tuple")=pure (some (.builtin "tuple.__mul__")):=by
 unfold seqRepeat?;rw[VJ  (name:="__mul__")  RO.lookup (rfl),VJ  (name:="__rmul__")  Th.lookup (rfl)];rfl
theorem zfl(a:Int)(t:Tok)(l:Addr)(items:Array Oc)(n:Nat)(dd:Option Addr)(sl:Array (Option Oc)) :
  Xg (Vp.«int.__rmul__» ⟨[.int a t,.ref l],[]⟩) (fun _ R s=>s.heap.get? l=some { cls:=.type "tuple",dict:=dd,data:=.seq items n,slots:=sl }/\R (.ok (.ret UB)) s):=.of_wp fun prog w A R s h=>by obtain⟨hl,h⟩:=h;wp_walk;exact⟨_,rfl,h⟩
theorem zfm(l:Addr)(items:Array Oc)(n:Nat)(dd:Option Addr)(sl:Array (Option Oc))(k:Int)(t:Tok)(h1:2<=k)(h2:k<=1000)(h3:items.isEmpty=false)(h4:items.size<=1000) :
  Xg (Vp.«tuple.__mul__» ⟨[.ref l,.int k t],[]⟩) (fun _ R s=>s.heap.get? l=some { cls:=.type "tuple",dict:=dd,data:=.seq items n,slots:=sl }/\R (.ok (.ret (OV s.heap.objs.size))) { s with heap:=s.heap.push { cls:=RV "tuple",data:=Xf (Rz (fun x1 x2=>x1++x2) #[] (Ov k.toNat items)) },toks:=s.toks }):=
 .of_wp fun prog w A R s h=>by
  obtain⟨hp,g,d,tk,os⟩:=s;obtain⟨hl,h⟩:=h
  have KH:¬(decide (k < -(2^63))||decide (k>=2^63))=true:=by lia
  have Xt:¬(items.isEmpty||k == 1)=true:=by rw[h3];simp;lia
  have XC:¬(decide (k<=0)||items.isEmpty)=true:=by rw[h3];simp;lia
  have hm:items.size*k.toNat<=1000*1000:=SF h4 (by lia)
  have BS:(items.size:Int)*k<=1000000:=by
   have e:((items.size*k.toNat:Nat):Int)=(items.size:Int)*k:=by rw[Int.natCast_mul,Int.toNat_of_nonneg (by lia)]
   lia
  have Yj:¬(items.size:Int)*k>(2^63-1) / 8:=by
   have:(1000000:Int)<=(2^63-1) / 8:=by decide
   lia
  have Fg:¬SH ((items.size:Int)*k)=true:=by
   unfold SH
   have:Om=16777216:=by decide
   simp
   lia
  have ht:Wb hp l items:=⟨_,hl,rfl,n,rfl⟩;wp_walk;rw[if_neg KH];dsimp only;refine Oe (UX ht ?_);rw[if_neg Xt,if_neg XC,if_neg Yj,if_neg Fg]
  have fit:sizeOk (.seq (Rz (fun x1 x2=>x1++x2) #[] (Ov k.toNat items))):=by
   show (Rz (fun x1 x2=>x1++x2) #[] (Ov k.toNat items)).size<=Om;have q:=foldl_rep items.toList k.toNat [];rw[V2] at q
   have q':Rz (fun x1 x2=>x1++x2) #[] (Ov k.toNat items)=(Ov k.toNat items.toList).flatten.toArray:=by simpa using q
   rw[q',Pg,len_rep]
   have:Om=16777216:=by decide
   rw[QU,W5]
   lia
  first
  |exact Oe (m:=Qj _) (Pd (Ot ⟨_,rfl,h⟩) fit)
  |exact Oe (m:=Qj _) (Pd (Oe (Ot (Ot ⟨_,rfl,h⟩))) fit)
theorem zfn:Yc X (PJ .Mult) (fun x y H Q=>∃a k xs,x=.ref a/\y=.int k/\Yn X.K H a xs/\2<=k/\k<=1000/\xs≠[]/\xs.length<=1000/\∀p,H p=none->Q (.ref p) (upd H p (.tup (Ov k.toNat xs).flatten))):=by
 intro pins s σ H x y v u Q I rx ry h;obtain⟨a,k,xs,rfl,rfl,hq,h1,h2,h3,h4,q⟩:=h;cases rx;obtain⟨t,rfl⟩:=ry;obtain⟨Xr,r,p1,_⟩:=I.tuple hq;have hl:=r.length;have hv:=fun z=>h3 (r.nil_iff.mp z);obtain⟨⟨cls,dd,data,sl⟩,ho,hc,n,hd⟩:=id p1;subst hc hd
 have FD:=by
  have q:=foldl_rep Xr k.toNat []<;>omega
 have he:Xr.toArray.isEmpty=false:=by simp_all
 refine SS   (rfl) ⟨_,ho,rfl⟩ (fun s'=>TM s' k t) zfj V3 Sb zfk VL.lookup
  (QP Sb (TM s k t) VM (Vq _ _) (zfl k t a _ n dd sl)
   ⟨ho,rfl,⟨_,ho,rfl⟩,QP RO ⟨_,ho,rfl⟩ PySem.F.entry_tuple_mul (PySem.F.args_tuple_mul_2 _ _) (zfm a _ n dd sl k t h1 h2 he (by simp_all)) ⟨ho,?_⟩⟩)
 rw[FD];refine⟨.ref _,_,I.laid   (fun b ob q=>Og _ q) (Oo _) ?_,rfl,q _ (I.hok.fresh (Oo _))⟩;refine⟨?_,_,r.rep _,UQ _ _⟩;rw[len_rep];have:k.toNat*xs.length<=1000*1000:=SF (by lia) h4;have:Om=16777216:=rfl
 lia
noncomputable def ck:Oa->Oa->Option Oa
 |.int i,.int j=>if (-(2^64)<i/\i<2^64)\/(-(2^64)<j/\j<2^64) then some (.int (i*j)) else none
 |.str z,.int k=>if 0<=k/\k<=2000/\z.length<=1000 then some (.str (Xq z k)) else none
 |.tuple xs,.int k=>if 2<=k/\k<=1000/\xs.isEmpty=false/\xs.length<=1000 then some (.tuple (Ov k.toNat xs).flatten) else none
 |_,_=>none
theorem gj:YL X (PJ .Mult) ck:=by
 refine⟨_,Ii.or (CK.or zfn),fun O ts H T v1 v2 x y d Q hc h1 h2 e q=>?_⟩;unfold ck at e;split at e
 .split at e
  .rename_i hz
   cases e;exact .inl ⟨_,_,h1.int,h2.int,hz,q _ H (.refl _ _) hc (.int _)⟩
  .cases e
 .split at e
  .rename_i hz
   cases e;exact .inr (.inl ⟨_,_,h1.str,h2.int,hz.1,hz.2.1,hz.2.2,q _ H (.refl _ _) hc (.str _)⟩)
  .cases e
 .split at e
  .rename_i xs k hz
   cases e;obtain⟨a,vs,rfl,t1,r1⟩:=h1.tup;exact .inr (.inr ⟨a,_,vs,rfl,h2.int,t1.sq,hz.1,hz.2.1,fun z=>by subst z;cases r1<;>simp_all,by rw[r1.length];exact hz.2.2.2,fun p hp=>q _ _ (.new hp _) (hc.new hp _) (hc.newT hp (r1.rep _))⟩)
  .cases e
 .cases e
noncomputable def GV:Oa->Oa->Option Bool
 |.int i,.int j=>some (decide (i=j))
 |.str x,.str y=>some (decide (x=y))
 |.bool a,.bool b=>some (decide (a=b))
 |.none,.none=>some true
 |.none,.int _=>some false | .int _,.none=>some false | .none,.bool _=>some false | .bool _,.none=>some false | .none,.str _=>some false | .str _,.none=>some false
 |.int _,.str _=>some false | .str _,.int _=>some false | .bool _,.str _=>some false | .str _,.bool _=>some false
 |_,_=>none
theorem yV{K:Frag}{O:Addr->Prop}{H:Hp}{v1 v2:V}{x y:Oa}{b:Bool}(h1:Vw K O H v1 x)(h2:Vw K O H v2 y)(e:GV x y=some b):sY v1 v2=true/\decide (v1=v2)=b:=by
 unfold GV at e;split at e
 all_goals first|(simp_all)|skip
 .cases h1.int;cases h2.int;cases e;exact⟨rfl,by simp⟩
 .cases h1.str;cases h2.str;cases e;exact⟨rfl,by simp⟩
 .cases h1.bl;cases h2.bl;cases e;exact⟨rfl,by simp⟩
 .cases h1.non;cases h2.non;cases e;exact⟨rfl,by simp⟩
 .cases h1.non;cases h2.int;cases e;exact⟨rfl,by simp⟩
 .cases h1.int;cases h2.non;cases e;exact⟨rfl,by simp⟩
 .cases h1.non;cases h2.bl;cases e;exact⟨rfl,by simp⟩
 .cases h1.bl;cases h2.non;cases e;exact⟨rfl,by simp⟩
 .cases h1.non;cases h2.str;cases e;exact⟨rfl,by simp⟩
 .cases h1.str;cases h2.non;cases e;exact⟨rfl,by simp⟩
 .cases h1.int;cases h2.str;cases e;exact⟨rfl,by simp⟩
 .cases h1.str;cases h2.int;cases e;exact⟨rfl,by simp⟩
 .cases h1.bl;cases h2.str;cases e;exact⟨rfl,by simp⟩
 .cases h1.str;cases h2.bl;cases e;exact⟨rfl,by simp⟩
noncomputable def YC(x y:Oa):Option PyData:=(GV x y).map .bool
noncomputable def Eb(x y:Oa):Option PyData:=(GV x y).map fun b=>.bool (!b)
theorem aR:YL X (OQ .Eq) YC:=⟨_,zbm,fun O ts H T v1 v2 x y d Q hc h1 h2 e q=>by
 obtain⟨b,e1,rfl⟩:=ON.mp e;obtain⟨k1,k2⟩:=yV h1 h2 e1
 exact⟨k1,by rw[k2];exact q _ H (.refl _ _) hc (.bl _)⟩⟩
theorem kH:YL X (OQ .NotEq) Eb:=⟨_,zbn,fun O ts H T v1 v2 x y d Q hc h1 h2 e q=>by
 obtain⟨b,e1,rfl⟩:=ON.mp e;obtain⟨k1,k2⟩:=yV h1 h2 e1
 exact⟨k1,by rw[k2];exact q _ H (.refl _ _) hc (.bl _)⟩⟩
noncomputable def isNone:Oa->Bool
 |.none=>true
 |_=>false
theorem u7{K:Frag}{O:Addr->Prop}{H:Hp}{v:V}{x:Oa}(h:Vw K O H v x):decide (v=.non)=isNone x:=by
 cases h with
 |rep h=>cases h <;> rfl
 |raw _ _=>rfl
 |rawD _ _=>rfl
noncomputable def G2:Oa->Oa->Option Oa
 |x,.none=>some (.bool (isNone x))
 |_,_=>none
theorem tf:YL X (OQ .Is) G2:=⟨_,zbs,fun O ts H T v1 v2 x y d Q hc h1 h2 e q=>by
 unfold G2 at e;split at e
 .cases e
  exact⟨h2.non,by rw[u7 h1];exact q _ H (.refl _ _) hc (.bl _)⟩
 .cases e⟩
noncomputable def f6:Oa->Oa->Option Oa
 |x,.none=>some (.bool (!isNone x))
 |.bool a,.bool b=>some (.bool (a != b))
 |_,_=>none
theorem qV:YL X (OQ .IsNot) f6:=⟨_,KM.or zeo,fun O ts H T v1 v2 x y d Q hc h1 h2 e q=>by
 unfold f6 at e;split at e
 .cases e
  exact .inl ⟨h2.non,by rw[u7 h1];exact q _ H (.refl _ _) hc (.bl _)⟩
 .cases e
  exact .inr ⟨_,_,h1.bl,h2.bl,q _ H (.refl _ _) hc (.bl _)⟩
 .cases e⟩
noncomputable def dA:Oa->Bool
 |.none=>true | .bool _=>true | .int _=>true | .str _=>true
 |_=>false
noncomputable def ZY:Oa->Oa->Bool
 |.none,.none=>true
 |.bool a,.bool b=>a == b
 |.bool a,.int b=>(if a then 1 else 0) == b
 |.int a,.bool b=>a == (if b then 1 else 0)
 |.int a,.int b=>a == b
 |.str a,.str b=>a == b
 |_,_=>false
noncomputable def ju(y x:Str):Bool:=!(PY y x 0 y.length 1).isEmpty
noncomputable def Dr:Oa->Oa->Option Bool
 |.str x,.str y=>some (ju y x)
 |x,.list ys=>if dA x&&ys.all dA then some (ys.any fun y=>ZY y x) else none
 |x,.tuple ys=>if dA x&&ys.all dA then some (ys.any fun y=>ZY y x) else none
 |_,_=>none
theorem rh{K:Frag}{O:Addr->Prop}{H:Hp}{v:V}{x:Oa}(h:Rep K O H v x)(e:dA x=true):gk v=true:=by cases h <;> first|rfl|cases e
theorem zfo{K:Frag}{O:Addr->Prop}{H:Hp}{v u:V}{x y:Oa}(h:Rep K O H v x)(g:Rep K O H u y)(ex:dA x=true)(ey:dA y=true):Ar v u=ZY x y:=by cases h <;> cases g <;> first|rfl|cases ex|cases ey
theorem qB{K:Frag}{O:Addr->Prop}{H:Hp}:∀{vs:List V}{xs:List Oa},Xs K O H vs xs->xs.all dA=true->vs.all gk=true
 |_,_,.nil,_=>rfl
 |_,_,.cons r t,e=>by
  rw[P0,Oj] at e;rw[P0,rh r e.1,qB t e.2];rfl
theorem rC{K:Frag}{O:Addr->Prop}{H:Hp}{v:V}{x:Oa}(h:Rep K O H v x)(ex:dA x=true):∀{vs:List V}{xs:List Oa},Xs K O H vs xs->xs.all dA=true->(vs.any fun y=>Ar y v)=xs.any fun y=>ZY y x
 |_,_,.nil,_=>rfl
 |_,_,.cons r t,e=>by
  rw[P0,Oj] at e;rw[Qz,Qz,zfo r h e.1 ex,rC h ex t e.2]
theorem Vw.flat{K:Frag}{O:Addr->Prop}{H:Hp}{v:V}{x:Oa}(h:Vw K O H v x)(e:dA x=true):Rep K O H v x:=by
 cases h with
 |rep h=>exact h
 |raw _ _=>cases e
 |rawD _ _=>cases e
noncomputable def inD(x y:Oa):Option PyData:=(Dr x y).map .bool
noncomputable def eX(x y:Oa):Option PyData:=(Dr x y).map fun b=>.bool (!b)
theorem yo{K:Frag}(neg:Bool):iP K (fun x y H Q=>(∃i j,x=.str i/\y=.str j/\Q (.bl (if neg then !(ju j i) else ju j i)) H)\/Gz K neg x y H Q) (fun x y=>(Dr x y).map fun b=>.bool (if neg then !b else b)):=fun O ts H T v1 v2 x y d Q hc h1 h2 e q=>by
 obtain⟨b,e1,rfl⟩:=ON.mp e;unfold Dr at e1;split at e1
 .cases e1
  exact .inl ⟨_,_,h1.str,h2.str,q _ H (.refl _ _) hc (.bl _)⟩
 .split at e1
  .rename_i hf
   cases e1;rw[Oj] at hf;obtain⟨a,vs,rfl,t,r⟩:=h2.lst;have r1:=h1.flat hf.1;refine .inr ⟨a,vs,rfl,.inl t,rh r1 hf.1,qB r hf.2,?_⟩;have z:IE v1 vs=_:=rC r1 hf.1 r hf.2;rw[z];exact q _ H (.refl _ _) hc (.bl _)
  .cases e1
 .split at e1
  .rename_i hf
   cases e1;rw[Oj] at hf;obtain⟨a,vs,rfl,t,r⟩:=h2.tup;have r1:=h1.flat hf.1;refine .inr ⟨a,vs,rfl,.inr t.sq,rh r1 hf.1,qB r hf.2,?_⟩;have z:IE v1 vs=_:=rC r1 hf.1 r hf.2;rw[z];exact q _ H (.refl _ _) hc (.bl _)
  .cases e1
 .cases e1
theorem gW:YL X (OQ .In) inD:=⟨_,Hn.or zdi,yo false⟩
theorem xu:YL X (OQ .NotIn) eX:=⟨_,Zr.or zdj,yo true⟩
noncomputable def e7:Oa->Option Oa
 |.int i=>some (.int (-i))
 |_=>none
theorem lS(ha:DE X a fa):DE X (.UnaryOp .USub a pos) (X1 e7 fa):=zfb zbl (fun O ts H T v x d Q hc h e q=>by
 unfold e7 at e;split at e
 .cases e
  exact⟨_,h.int,q _ H (.refl _ _) hc (.int _)⟩
 .cases e) ha
noncomputable def XH:Oa->Oa->Option Oa
 |.list xs,.int i=>XR xs i
 |.tuple xs,.int i=>XR xs i
 |.str z,.int i=>if z.length<=Om then (XR z.cps.toList i).map fun c=>.str ⟨#[c]⟩ else none
 |_,_=>none
theorem xm{K:Frag}{O:Addr->Prop}{H:Hp}{vs:List V}{xs:List Oa}{i:Int}{d:Oa}(r:Xs K O H vs xs)(e:XR xs i=some d):∃v,XR vs i=some v/\Rep K O H v d:=by
 unfold XR at e ⊢;rw[r.length]
 cases h:Hs _ i with
 |none=>simp_all
 |some j=>
  rw[h] at e;exact r.getD e
theorem au:DY X XH:=⟨_,zde,fun O ts H T v1 v2 x y d Q hc h1 h2 e q=>by
 unfold XH at e;split at e
 .obtain⟨a,vs,rfl,t,r⟩:=h1.lst
  obtain⟨v,k1,k2⟩:=xm r e;exact .inl ⟨a,vs,_,v,rfl,h2.int,t,k1,q _ H (.refl _ _) hc k2⟩
 .obtain⟨a,vs,rfl,t,r⟩:=h1.tup
  obtain⟨v,k1,k2⟩:=xm r e;exact .inr (.inl ⟨a,vs,_,v,rfl,h2.int,t.sq,k1,q _ H (.refl _ _) hc k2⟩)
 .split at e
  .rename_i hz
   obtain⟨c,k1,rfl⟩:=ON.mp e;exact .inr (.inr ⟨_,_,c,h1.str,h2.int,hz,k1,q _ H (.refl _ _) hc (.str _)⟩)
  .cases e
 .cases e⟩
end
theorem zfp{prog:Oz}{w:OO}{A:O0}{E:Oc->Oi->Prop}{s:Oi}{t sl:Addr}{items:Array Oc}{vl vu:Oc}{lo hi:Option Int}{Q:Oc->Oi->Prop}(ht:Wb s.heap t items)(hs:s.heap.IsSliceOf sl vl vu .none)(pl:TJ vl lo)(pu:TJ vu hi)
  (hw:HT.XT items.size 0 lo=0/\HT.XT items.size items.size hi=items.size) (h:Q (.ref t) s):OG (OJ prog w) A (R3 (.ref t) (.ref sl)) Q E s:=by
 obtain⟨os,E6,Bp,DV⟩:=id hs;have Ij:s.TypeIs (.ref sl) "slice":=⟨os,E6,Bp⟩;unfold R3
 try with_reducible refine UW ?_
 refine Oe (Vi ht.typeIs (rfl) ?_)
 refine Oe (PZ  ht.typeIs Pl
  (Qf Pl ht.typeIs US ?_ (U5 _ _)))
 show OG _ _ (Rf (.ref t) >>= _) _ _ s;refine Oe (UX ht ?_);refine Oe (Vj Ij ?_);rw[if_pos (by rfl)];refine Oe (HT.tI hs pl pu ?_)
 have DG:((((HT.XT items.size 0 lo:Nat):Int) == 0&&(1:Int) == 1&&(HT.XT items.size items.size hi-HT.XT items.size 0 lo) == items.size)=true):=by simp_all
 show OG _ _ (if _=true then _ else _) _ _ s;rw[if_pos DG];refine Oe  (Oe (Vj ht.typeIs (Ot ?_)))
 first
 |omega
 |(exact Oe (Wl (Ot ⟨_,rfl,Ot h⟩)))
noncomputable def bM{α:Type}(xs:List α)(lo hi:Option Int):List α:=(xs.drop (HT.XT xs.length 0 lo)).take (HT.XT xs.length xs.length hi-HT.XT xs.length 0 lo)
theorem Xs.cut{K:Frag}{O:Addr->Prop}{H:Hp}{vs:List V}{ds:List Oa}(r:Xs K O H vs ds)(lo hi:Option Int):Xs K O H (jw vs lo hi) (bM ds lo hi):=by
 unfold jw bM;rw[r.length];exact(r.drop _).take _
theorem zfq{α:Type}{xs:List α}{lo hi:Option Int}(h:HT.XT xs.length 0 lo=0/\HT.XT xs.length xs.length hi=xs.length):bM xs lo hi=xs:=by unfold bM<;>simp_all
section
variable {X:Cx}
theorem JR:Ia X (fun x lo hi H Q=>∃a xs,x=.ref a/\Yn X.K H a xs/\((HT.XT xs.length 0 lo=0/\HT.XT xs.length xs.length hi=xs.length)->Q (.ref a) H) /\
  (¬(HT.XT xs.length 0 lo=0/\HT.XT xs.length xs.length hi=xs.length)->∀p,H p=none->Q (.ref p) (upd H p (.tup (jw xs lo hi))))):=by
 intro pins s σ H x v vl vu lo hi sl Q I rx hs pl pu h;obtain⟨a,xs,rfl,hx,q1,q2⟩:=h
 by_cases hw:HT.XT xs.length 0 lo=0/\HT.XT xs.length xs.length hi=xs.length
 .cases rx
  obtain⟨Xr,r,ht,hz⟩:=I.tuple hx
  have XI:Xr.toArray.size=xs.length:=by exact r.length.symm
  refine⟨"tuple",_,Pl.lookup,ht.typeIs,?_⟩;exact zfp ht hs pl pu (by rw[XI];exact hw) ⟨.ref a,H,I,rfl,q1 hw⟩
 .exact zda pins s σ H _ v vl vu lo hi sl Q I rx hs pl pu ⟨a,xs,rfl,hx,hw,q2 hw⟩
noncomputable def lJ(x:Oa)(lo hi:Option Int):Option PyData:=match x with
 |.list xs=>some (.list (bM xs lo hi))
 |.tuple xs=>some (.tuple (bM xs lo hi))
 |.str z=>if z.length<=Om then some (.str (Qo z lo hi)) else none
 |_=>none
abbrev FO:=Xw->Tp->Option (Option Int×Tp)
noncomputable def dD:FO:=fun _ T=>some (none,T)
noncomputable def fP(f:FE):FO:=fun ρ T=>Xy (f ρ T) fun w T1=>match w with
 |.d (.int i)=>some (some i,T1)
 |_=>none
inductive EZ(K:Frag)(f:FO)(σ:L2.St)(H:Hp)(Q:Option Int->Hp->Prop):Prop where
 |mk (O:Addr->Prop) (ts:List Addr) (ρ:Xw) (T:Tp) (o:Option Int) (T':Tp) (hc:HC K O ts H T) (re:X9 K O ts H σ ρ) (e:f ρ T=some (o,T')) (q:∀H',Xx ts H H'->HC K O ts H' T'->Q o H'):EZ K f σ H Q
noncomputable def JG(K:Frag)(f:FO):TO:=fun σ H Q=>EZ K f σ H Q
structure DO(X:Cx)(e:Option Expr)(f:FO):Prop where
 pe:PO X e (JG X.K f)
theorem yz(h:PO X e t)(i:∀σ H Q,t' σ H Q->t σ H Q):PO X e t':=fun pins s σ H Q I q=>h pins s σ H Q I (i σ H Q q)
theorem eU:DO X none dD:=by
 refine⟨?_⟩;refine yz zcx fun σ H Q=>?_;rintro⟨O,ts,ρ,T,o,T',hc,re,e,q⟩;cases e;exact q H (.refl _ _) hc
theorem cp(h:DE X e f):DO X (some e) (fP f):=by
 refine⟨?_⟩;refine yz (zcy h.pe) fun σ H Q=>?_;rintro⟨O,ts,ρ,T,o,T',hc,re,e,q⟩;obtain⟨w1,T1,e1,e⟩:=aL e;refine⟨O,ts,ρ,T,w1,T1,hc,re,e1,fun v1 H1 s1 Xt r1=>?_⟩;split at e
 .cases e
  cases (r1);exact⟨_,rfl,q H1 s1 Xt⟩
 .cases e
noncomputable def YE(f:FE)(l u:FO):FE:=fun ρ T=>Xy (f ρ T) fun w T1=>Xy (l ρ T1) fun lo T2=>Xy (u ρ T2) fun hi T3=>Fm (fun x=>lJ x lo hi) T3 w
theorem dq{e:Expr}{lo hi:Option Expr}{f:FE}{l u:FO}{pos p2:Pos}(he:DE X e f)(hl:DO X lo l)(hu:DO X hi u):DE X (.Subscript e (.Slice lo hi none p2) pos) (YE f l u):=by
 refine⟨?_⟩;refine bo (zcz (CL.or (JR.or zep)) he.pe hl.pe hu.pe) fun σ H Q=>?_;rintro⟨O,ts,ρ,T,w,T',hc,re,e,q⟩;obtain⟨w1,T1,e1,e⟩:=aL e;obtain⟨o1,T2,e2,e⟩:=aL e;obtain⟨o2,T3,e3,e⟩:=aL e;obtain⟨x,d,h1,h3,rfl,rfl⟩:=j5 e;refine⟨O,ts,ρ,T,w1,T1,hc,re,e1,fun v1 H1 s1 Xt r1=>?_⟩;refine⟨O,ts,ρ,T1,o1,T2,Xt,re.mono hc s1,e2,fun H2 s2 XC=>?_⟩;refine⟨O,ts,ρ,T2,o2,T',XC,re.mono hc (s1.trans s2),e3,fun H3 s3 Yj=>?_⟩;have vw:=Yj.view (r1.mono Xt (s2.trans s3)) h1;have q':=fun v H' s c r=>q v H' (s1.trans (s2.trans (s3.trans s))) c r;clear q
 cases x with
 |list xs=>
  cases h3;obtain⟨a,vs,rfl,t,r⟩:=vw.lst;exact .inl ⟨a,vs,rfl,t,fun p hp=>q' _ _ (.new hp _) (Yj.new hp _) (Yj.newL hp (r.cut _ _))⟩
 |tuple xs=>
  cases h3;obtain⟨a,vs,rfl,t,r⟩:=vw.tup;refine .inr (.inl ⟨a,vs,rfl,t.sq,fun hw=>?_,fun hw p hp=>?_⟩)
  .rw[r.length] at hw
   rw[zfq hw] at q';exact q' _ H3 (.refl _ _) Yj vw.tupR
  .exact q' _ _ (.new hp _) (Yj.new hp _) (Yj.newT hp (r.cut _ _))
 |str z=>
  have J9:(if z.length<=Om then some _ else none)=some d:=h3;split at J9
  .rename_i hz
   cases J9;exact .inr (.inr ⟨z,vw.str,hz,q' _ H3 (.refl _ _) Yj (.str _)⟩)
  .cases J9
 |_=>cases h3
end
inductive Kd where
 |non|bl|int|str|tup|lst|dct
 deriving DecidableEq
def Kd.name:Kd->String
 |.non=>"NoneType" | .bl=>"bool" | .int=>"int" | .str=>"str" | .tup=>"tuple" | .lst=>"list" | .dct=>"dict"
noncomputable def kd:Oa->Kd
 |.none=>.non | .bool _=>.bl | .int _=>.int | .str _=>.str | .list _=>.lst | .tuple _=>.tup | .dict _=>.dct
noncomputable def bR(a b:Kd):Bool:=decide (a=b)||(decide (a=.bl)&&decide (b=.int))
noncomputable def KE(t c:String):Option Bool:=if (RV t == RV c)=true then some true else if PySem.W.kitMeta c=true then (fastBuiltinMro t).map (·.contains (.type c)) else none
theorem i9(a b:Kd):b≠.non->KE a.name b.name=some (bR a b):=by cases a <;> cases b <;> first|(intro h;exact absurd rfl h)|(intro _;decide +kernel)
section
variable {X:Cx}
theorem zfr:XW X (.builtin "isinstance") (fun xs H Q=>∃(x:V) (c:Kd) (O:Addr->Prop) (d:Oa),xs=[x,.ty c.name]/\Vw X.K O H x d/\c≠.non/\Q (.bl (bR (kd d) c)) H):=by
 intro pins s σ H xs us Q I r h;obtain⟨x,c,O,d,rfl,vw,hc,q⟩:=h;obtain⟨u,w',rfl,ru,YA⟩:=vals2 r;cases (YA);have fin:∀tk,EP X pins σ Q _ { s with toks:=tk }:=fun tk=>⟨.bl _,H,I.tok _,rfl,q⟩
 cases d with
 |none=>cases vw.non;exact mY I ru .non (i9 .non c hc) fin
 |bool b=>cases vw.bl;exact mY I ru (.bl b) (i9 .bl c hc) fin
 |int i=>cases vw.int;exact mY I ru (.int i) (i9 .int c hc) fin
 |str z=>cases vw.str;exact mY I ru (.str z) (i9 .str c hc) fin
 |list ds=>
  obtain⟨a,vs,rfl,t,r⟩:=vw.lst;cases (show u=OV a from ru);obtain⟨Xr,_,pl,_⟩:=I.list t;obtain⟨o,n,e,c1,_⟩:=pl;exact Pf SZ I.kIn ⟨o,e,c1⟩ (i9 .lst c hc) (fun z=>nomatch z) fin
 |tuple ds=>
  obtain⟨a,vs,rfl,t,r⟩:=vw.tup;cases (show u=OV a from ru);obtain⟨Xr,_,pl,_⟩:=I.tuple t.sq;obtain⟨o,e,c1,_⟩:=pl;exact Pf U4 I.kIn ⟨o,e,c1⟩ (i9 .tup c hc) (fun z=>nomatch z) fin
 |dict ds=>
  obtain⟨a,vs,rfl,t,r⟩:=vw.dct;cases (show u=OV a from ru);obtain⟨_,_,_,_,o,_,_,e,c1,_⟩:=kz I.hok t;exact Pf S1 I.kIn ⟨o,e,c1.1⟩ (i9 .dct c hc) (fun z=>nomatch z) fin
noncomputable def bu(c:Kd)(x:Oa):Option PyData:=some (.bool (bR (kd x) c))
theorem bx(c:Kd)(hi:X.mg "isinstance"=none)(he:DE X e f)(hm:X.mg T=none)(hb:Qw T=some (.type c.name))(hcn:autoParam (c≠.non) u11)(hg:autoParam (Gl X "isinstance") u10)(hT:autoParam (Gl X T) u10)(hn:autoParam (T≠"__name__") u11)(Yk:autoParam ((T == ("__debug__" : Str))=false) u11)
  (hs:autoParam (Ol [e,.Name T p] X.env=(false,eval e X.env)::Ol [.Name T p] X.env) u12) (DL:autoParam (Ol [.Name T p] X.env=(false,eval (.Name T p) X.env)::Ol [] X.env) u12)
  (X7:autoParam ((Pe pos (Ol [.Name T p] X.env)).any (·.1)=false) u13):DE X (.Call (.Name "isinstance" p') [e,.Name T p] [] pos) (X1 (bu c) f):=by
 refine⟨?_⟩;refine bo (wg zfr hg hi V4 (bH he.pe (bH (zao (v:=.ty _) hT hm hb rfl hn Yk) bY DL) hs) (by decide) (rfl) hs X7) fun σ H Q=>?_;rintro⟨O,ts,ρ,T,w,T',hc,re,e,q⟩;obtain⟨w1,T1,e1,e⟩:=aL e;obtain⟨x,d,h1,h3,rfl,rfl⟩:=j5 e;cases h3;refine⟨O,ts,ρ,T,w1,T',hc,re,e1,fun v1 H1 s1 Xt r1=>?_⟩;exact⟨v1,c,O,x,rfl,Xt.view r1 h1,hcn,q _ H1 s1 Xt (.bl _)⟩
noncomputable def aZ:List Oa->Option Oa
 |[.list xs]=>some (.int xs.length)
 |[.tuple xs]=>some (.int xs.length)
 |[.str z]=>if z.length<=Om then some (.int z.length) else none
 |[.dict kvs]=>some (.int kvs.length)
 |_=>none
theorem dU{K:Frag}{O:Addr->Prop}{H:Hp}{vs:List V}{x:Oa}(h:HB K O H vs [x]):∃v,vs=[v]/\Vw K O H v x:=by cases h with|cons h t=>cases t;exact⟨_,rfl,h⟩
theorem zfs{K:Frag}{O:Addr->Prop}{H:Hp}{vs:List V}{x y:Oa}(h:HB K O H vs [x,y]):∃v u,vs=[v,u]/\Vw K O H v x/\Vw K O H u y:=by cases h with|cons h t=>cases t with|cons h' t=>cases t;exact⟨_,_,rfl,h,h'⟩
theorem vZ{K:Frag}{O:Addr->Prop}{H:Hp}:∀{kvs:List (Key×V)}{ds:List (Oa×Oa)},XX K O H kvs ds->kvs.length=ds.length
 |_,_,.nil=>rfl
 |_,_,.cons _ t=>congrArg _ (vZ t)
theorem zft:XW X (.builtin "len") (fun xs H Q=>∃a kvs,xs=[V.ref a]/\Rd H a (.dK kvs)/\Q (.int kvs.length) H):=by
 intro pins s σ H xs us Q I r h;obtain⟨a,kvs,rfl,ha,q⟩:=h;obtain⟨u,rfl,ru⟩:=vals1 r;cases ru;exact zds I ha fun t s' I'=>⟨.int _,H,I',⟨t,rfl⟩,q⟩
theorem bv:fN X (.builtin "len") aZ:=⟨_,Zt.or (Zs.or zft),fun O ts H T vs xs d Q hc h e q=>by
 unfold aZ at e;split at e
 .cases e
  obtain⟨v,rfl,g⟩:=dU h;obtain⟨a,vs,rfl,t,r⟩:=g.lst;exact .inl ⟨a,vs,rfl,.inl t,by rw[r.length];exact q _ H (.refl _ _) hc (.int _)⟩
 .cases e
  obtain⟨v,rfl,g⟩:=dU h;obtain⟨a,vs,rfl,t,r⟩:=g.tup;exact .inl ⟨a,vs,rfl,.inr t.sq,by rw[r.length];exact q _ H (.refl _ _) hc (.int _)⟩
 .split at e
  .rename_i hz
   cases e;obtain⟨v,rfl,g⟩:=dU h;cases g.str;exact .inr (.inl ⟨_,rfl,hz,q _ H (.refl _ _) hc (.int _)⟩)
  .cases e
 .cases e
  obtain⟨v,rfl,g⟩:=dU h;obtain⟨a,kvs,rfl,t,r⟩:=g.dct;exact .inr (.inr ⟨a,kvs,rfl,t,by rw[vZ r];exact q _ H (.refl _ _) hc (.int _)⟩)
 .cases e⟩
noncomputable def pq:List Oa->Option Oa
 |[.int i]=>some (.int (if i<0 then -i else i))
 |_=>none
theorem zfu:fN X (.builtin "abs") pq:=⟨_,zbz,fun O ts H T vs xs d Q hc h e q=>by
 unfold pq at e;split at e
 .cases e
  obtain⟨v,rfl,g⟩:=dU h;cases g.int;exact⟨_,rfl,q _ H (.refl _ _) hc (.int _)⟩
 .cases e⟩
noncomputable def ma:List Oa->Option Oa
 |[.int i,.int j]=>some (.int (if j>i then j else i))
 |_=>none
theorem zfv(hc:autoParam (X.calm=true) u10):fN X (.builtin "max") ma:=⟨_,zca hc,fun O ts H T vs xs d Q hc h e q=>by
 unfold ma at e;split at e
 .cases e
  obtain⟨v,u,rfl,g,g'⟩:=zfs h;cases g.int;cases g'.int;exact⟨_,_,rfl,q _ H (.refl _ _) hc (.int _)⟩
 .cases e⟩
noncomputable def j9:List Oa->Option (List Bool)
 |[]=>some []
 |.bool b::r=>(j9 r).map (b::·)
 |_=>none
noncomputable def km:List Oa->Option (List Int)
 |[]=>some []
 |.int b::r=>(km r).map (b::·)
 |_=>none
noncomputable def eg:List Oa->Option (List Str)
 |[]=>some []
 |.str b::r=>(eg r).map (b::·)
 |_=>none
theorem wV{K:Frag}{O:Addr->Prop}{H:Hp}:∀{vs:List V}{xs:List Oa}{bs:List Bool},Xs K O H vs xs->j9 xs=some bs->vs=bs.map V.bl
 |_,_,_,.nil,e=>by cases e;rfl
 |_,x::r,bs,.cons h t,e=>by
  cases x with
  |bool b=>
   obtain⟨cs,e1,rfl⟩:=ON.mp (e);cases h;rw[wV t e1];rfl
  |_=>cases e
theorem wB{K:Frag}{O:Addr->Prop}{H:Hp}:∀{vs:List V}{xs:List Oa}{bs:List Int},Xs K O H vs xs->km xs=some bs->vs=bs.map V.int
 |_,_,_,.nil,e=>by cases e;rfl
 |_,x::r,bs,.cons h t,e=>by
  cases x with
  |int b=>
   obtain⟨cs,e1,rfl⟩:=ON.mp (e);cases h;rw[wB t e1];rfl
  |_=>cases e
theorem lu{K:Frag}{O:Addr->Prop}{H:Hp}:∀{vs:List V}{xs:List Oa}{bs:List Str},Xs K O H vs xs->eg xs=some bs->vs=bs.map V.str
 |_,_,_,.nil,e=>by cases e;rfl
 |_,x::r,bs,.cons h t,e=>by
  cases x with
  |str b=>
   obtain⟨cs,e1,rfl⟩:=ON.mp (e);cases h;rw[lu t e1];rfl
  |_=>cases e
noncomputable def gZ:List Oa->Option Oa
 |[.list xs]=>(j9 xs).map fun bs=>.bool (bs.all id)
 |_=>none
theorem mr(hc:autoParam (X.calm=true) u10):fN X (.builtin "all") gZ:=⟨_,zel hc,fun O ts H T vs xs d Q hc h e q=>by
 unfold gZ at e;split at e
 .obtain⟨bs,e1,rfl⟩:=ON.mp e
  obtain⟨v,rfl,g⟩:=dU h;obtain⟨a,vs,rfl,t,r⟩:=g.lst;rw[wV r e1] at t;exact⟨a,bs,rfl,t,q _ H (.refl _ _) hc (.bl _)⟩
 .cases e⟩
noncomputable def oW:List Oa->Option Oa
 |[.list xs]=>(km xs).map fun bs=>.int bs.sum
 |_=>none
theorem zfw(hc:autoParam (X.calm=true) u10):fN X (.builtin "sum") oW:=⟨_,zen hc,fun O ts H T vs xs d Q hc h e q=>by
 unfold oW at e;split at e
 .obtain⟨bs,e1,rfl⟩:=ON.mp e
  obtain⟨v,rfl,g⟩:=dU h;obtain⟨a,vs,rfl,t,r⟩:=g.lst;rw[wB r e1] at t;exact⟨a,bs,rfl,t,q _ H (.refl _ _) hc (.int _)⟩
 .cases e⟩
noncomputable def gp:List Oa->Option Oa
 |[.int i]=>if i.natAbs.log2<1920 then some (.str (toString i)) else none
 |_=>none
theorem mq:fN X (.type "str") gp:=⟨_,zcb,fun O ts H T vs xs d Q hc h e q=>by
 unfold gp at e;split at e
 .split at e
  .rename_i hz
   cases e;obtain⟨v,rfl,g⟩:=dU h;cases g.int;exact⟨_,rfl,hz,q _ H (.refl _ _) hc (.str _)⟩
  .cases e
 .cases e⟩
noncomputable def dQ:List Oa->Option Oa
 |[.list xs]=>some (.tuple xs)
 |[.tuple xs]=>some (.tuple xs)
 |_=>none
theorem jb:fN X (.type "tuple") dQ:=⟨_,zdl,fun O ts H T vs xs d Q hc h e q=>by
 unfold dQ at e;split at e
 .cases e
  obtain⟨v,rfl,g⟩:=dU h;obtain⟨a,vs,rfl,t,r⟩:=g.lst;exact⟨a,vs,rfl,.inl ⟨t,fun p hp=>q _ _ (.new hp _) (hc.new hp _) (hc.newT hp r)⟩⟩
 .cases e
  obtain⟨v,rfl,g⟩:=dU h;obtain⟨a,vs,e1,t,r⟩:=g.tup;subst e1;exact⟨a,vs,rfl,.inr ⟨t.sq,q _ H (.refl _ _) hc (.tup t r)⟩⟩
 .cases e⟩
noncomputable def kl:List Oa->Option Oa
 |[.list xs]=>some (.list xs)
 |[.tuple xs]=>some (.list xs)
 |_=>none
theorem za:fN X (.type "list") kl:=⟨_,zdk,fun O ts H T vs xs d Q hc h e q=>by
 unfold kl at e;split at e
 .cases e
  obtain⟨v,rfl,g⟩:=dU h;obtain⟨a,vs,rfl,t,r⟩:=g.lst;exact⟨a,vs,rfl,.inl t,fun p hp=>q _ _ (.new hp _) (hc.new hp _) (hc.newL hp r)⟩
 .cases e
  obtain⟨v,rfl,g⟩:=dU h;obtain⟨a,vs,rfl,t,r⟩:=g.tup;exact⟨a,vs,rfl,.inr t.sq,fun p hp=>q _ _ (.new hp _) (hc.new hp _) (hc.newL hp r)⟩
 .cases e⟩
theorem ZM:Dl X "str.join" (fun x vs H Q=>∃(z:Str) (l:Addr) (ys:List Str),x=.str z/\vs=[.ref l]/\Ye X.K H l (ys.map V.str)/\(ys.map (·.length)).sum+ys.length*z.length<=16777216/\Q (.str (OM z ys)) H):=by
 intro pins s σ H x vs v us Q I rx rv h;obtain⟨z,l,ys,rfl,rfl,hq,hz,q⟩:=h;obtain⟨t,rfl⟩:=rx;obtain⟨u,rfl,ru⟩:=vals1 rv;cases ru;obtain⟨Xr,YA,pl,_⟩:=I.list hq;refine join_list  pl.isList (by simpa using tX YA) hz fun t' k=>⟨.str _,H,I.tok _,⟨t',?_⟩,q⟩;show Sx (Vr z ys) t'=_;rw[Uj]
noncomputable def fG:Oa->Oa->Option Oa
 |.str z,.list xs=>match eg xs with
  |some ys=>if (ys.map (·.length)).sum+ys.length*z.length<=16777216 then some (.str (OM z ys)) else none
  |none=>none
 |_,_=>none
theorem rz(ho:DE X o fo)(he:DE X e fe)
  (XZ:autoParam (PD o "join" X.env (eval o X.env)=eval o X.env) u10)
  (Yl:autoParam (((Pe Xu (Ol [e] X.env)).all (fun x=>!x.1)&&(QJ Xu (PN [] X.env)).all (fun x=>x.1.isSome)
   && decide (([e]:List Expr).length+([]:List Qk).length+(if ([]:List Qk).isEmpty then 0 else 1)<30))=true) u19)
  (XY:autoParam ((apos.endLine == Xu.line)=true) u10) (YG:autoParam (Ol [e] X.env=(false,eval e X.env)::Ol [] X.env) u12) (XN:autoParam ((Pe Xu (Ol [] X.env)).any (·.1)=false) u13) :
  DE X (.Call (.Attribute o "join" apos) [e] [] Xu) (af fG fo fe):=by
 refine⟨?_⟩;refine bo (gR Q3 Uk Ul ZM ho.pe (bH he.pe bY YG) XZ Yl XY YG XN) fun σ H Q=>?_;rintro⟨O,ts,ρ,T,w,T',hc,re,e,q⟩;obtain⟨w1,T1,e1,e⟩:=aL e;obtain⟨w2,T2,e2,e⟩:=aL e;obtain⟨x,y,d,h1,h2,h3,rfl,rfl⟩:=gI e;unfold fG at h3;split at h3
 .rename_i z xs
  split at h3
  .rename_i ys hy
   split at h3
   .rename_i hz
    cases h3;refine⟨O,ts,ρ,T,w1,T1,hc,re,e1,fun v1 H1 s1 Xt r1=>?_⟩
    have ev:v1=.str z:=by
     cases w1 with
     |d x=>cases h1;cases (show Rep X.K O H1 v1 _ from r1);rfl
     | tp k=>exact(by
       have Y6:(T'[k]?).bind kE=some (PM z):=h1
       cases hk:T'[k]? with
       |none=>simp_all
       |some xs=>
        rw[hk] at Y6;have e2:(if E8 xs=true then none else some (VZ xs))=some (PM z):=Y6
        split at e2 <;> cases e2)
     |loc zs=>cases zs <;> cases h1
    subst ev;refine⟨rfl,O,ts,ρ,T1,w2,T',Xt,re.mono hc s1,e2,fun v2 H2 s2 XC r2=>?_⟩;obtain⟨a,vs,rfl,t,r⟩:=(XC.view r2 h2).lst;rw[lu r hy] at t;exact⟨z,a,ys,rfl,rfl,t,hz,q _ H2 (s1.trans s2) XC (.str _)⟩
   .cases h3
  .cases h3
 .cases h3
end
mutual
def lZ:Oa->Bool
 |.list _=>false
 |.tuple ds=>n6 ds
 |.dict kvs=>n9 kvs
 |.none | .bool _ | .int _ | .str _=>true
def n6:List Oa->Bool
 |[]=>true
 |d::r=>lZ d&&n6 r
def n9:List (Oa×Oa)->Bool
 |[]=>true
 |(_,v)::r=>lZ v&&n9 r
end
section
variable {X:Cx}{pins:List (Addr×Obj)}{σ:L2.St}{H:Hp}{s:Oi}{O:Addr->Prop}
theorem zfx(e:iF k v=true):UC h v (X2 k) []:=by
 rcases fi e with⟨i,t,rfl,rfl⟩|⟨x,t,rfl,rfl⟩
 .exact .int i t
 .exact .str x t
mutual
theorem Rep.reads(I:Inv X pins σ H s):∀{v:V}{d:Oa}{u:Oc},Rep X.K O H v d->RelV v u->∃as,UC s.heap u d as/\(lZ d=true->Pu∉as)
 |_,_,_,.non,r=>by cases r;exact⟨_,.none,fun _=>by simp⟩
 |_,_,_,.bl b,r=>by cases r;exact⟨_,.bool b,fun _=>by simp⟩
 |_,_,_,.int i,r=>by obtain⟨t,rfl⟩:=r;exact⟨_,.int i t,fun _=>by simp⟩
 |_,_,_,.str x,r=>by obtain⟨t,rfl⟩:=r;exact⟨_,.str x t,fun _=>by simp⟩
 |_,_,_,.tup (a:=a) (vs:=vs) h rs,r=>by
  cases r;obtain⟨Xr,rv,⟨o,e,c,n,dd⟩,_⟩:=I.tuple h.sq;obtain⟨as,q,f⟩:=Xs.reads I rs rv;exact⟨as,.tuple e c dd (by simpa using q),f⟩
 |_,_,_,.lst (a:=a) (vs:=vs) h rs,r=>by
  cases r;obtain⟨Xr,rv,pl,_⟩:=I.list h.sq;obtain⟨o,n,e,c,_,dd⟩:=pl;obtain⟨as,q,f⟩:=Xs.reads I rs rv;exact⟨_,.list e c dd (by simpa using q),fun z=>by cases z⟩
 |_,_,_,.dct (a:=a) (kvs:=kvs) (ds:=ds) _ h rk,r=>by
  cases r;obtain⟨z,y,vs,kv,o,es,ep,e,ed,dd,_,ek,_⟩:=(show XM X.prog X.w H s.heap a (.dK kvs) from(I.hok a _ h).2);obtain⟨bs,q1,q2,f⟩:=XX.reads I rk kv ek;refine⟨_,.dict (kvs:=ds) (as:=[]) (bs:=bs) e ed.1 dd q1 q2,fun zz hm=>?_⟩
  rcases Ox.mp (by simpa using hm:Pu∈a::bs) with q|q
  .rw[q] at y
   simp at y
  .exact f zz q
theorem Xs.reads(I:Inv X pins σ H s):∀{vs:List V}{ds:List Oa}{us:List Oc},Xs X.K O H vs ds->Xv vs us->∃as,R7 s.heap us ds as/\(n6 ds=true->Pu∉as)
 |_,_,_,.nil,r=>by cases r;exact⟨_,.nil,fun _=>by simp⟩
 |_,_,_,.cons (d:=d) (ds:=ds) q t,r=>by
  cases r with
  |cons r1 r2=>
   obtain⟨as,h1,f1⟩:=Rep.reads I q r1;obtain⟨bs,h2,f2⟩:=Xs.reads I t r2;refine⟨as++bs,.cons h1 h2,fun z=>?_⟩;have z':(lZ d&&n6 ds)=true:=z;rw[Oj] at z';intro hm
   rcases OD.mp hm with hm|hm
   .exact f1 z'.1 hm
   .exact f2 z'.2 hm
theorem XX.reads(I:Inv X pins σ H s):∀{kvs:List (Key×V)}{ds:List (Oa×Oa)}{vs:List (Key×Oc)}{es:List Tf},XX X.K O H kvs ds->KV kvs vs->Pairs (cI X.prog X.w) es vs ->
  ∃bs,R7 s.heap (es.map (·.key)) (ds.map (·.1)) []/\R7 s.heap (es.map (·.val)) (ds.map (·.2)) bs/\(n9 ds=true->Pu∉bs)
 |_,_,_,_,.nil,r,ek=>by
  cases r;cases ek;exact⟨[],.nil,.nil,fun _=>by simp⟩
 |_,_,_,_,.cons (k:=k) (d:=d) (ds:=ds) q t,r,ek=>by
  cases r with
  |cons r1 r2=>
   cases ek with
   |cons e1 EO e2=>
    obtain⟨as,h1,f1⟩:=Rep.reads I q r1.2;obtain⟨bs,h2,h3,f2⟩:=XX.reads I t r2 e2;rw[←EO] at h1;have k1:=zfx (h:=s.heap) (show iF _ _=true from e1);rw[←r1.1] at k1;refine⟨as++bs,.cons (as:=[]) (bs:=[]) k1 h2,.cons h1 h3,fun z=>?_⟩;have z':(lZ d&&n9 ds)=true:=z;rw[Oj] at z';intro hm
    rcases OD.mp hm with hm|hm
    .exact f1 z'.1 hm
    .exact f2 z'.2 hm
end
end
structure Df(K:Frag)(name:Str)(st:Stmt):Prop where
 ex:∃(f:Addr) (oc:Oc) (od an:Option Addr) (sl:Array (Option Oc)) (kV dc pm cd ct:Oc),Ph K OT name=some (some (.ref f)) /\
  K.lookup f=some ⟨oc,od,.func (Pa name name (cZ st) (bV st) (aW st) .none kV dc pm an cd ct),sl⟩/\QW K cd name=true/\PP K (.ref f)=true
theorem JS{K:Frag}{name:Str}{st:Stmt}{f:Addr}{oc:Oc}{od an:Option Addr}{sl:Array (Option Oc)}{kV dc pm cd ct:Oc}(a:Ph K OT name=some (some (.ref f)))
  (l:K.lookup f=some ⟨oc,od,.func (Pa name name (cZ st) (bV st) (aW st) .none kV dc pm an cd ct),sl⟩) (c:QW K cd name=true) (k:PP K (.ref f)=true):Df K name st:=⟨f,oc,od,an,sl,kV,dc,pm,cd,ct,a,l,c,k⟩
theorem Df.fn{P:Oz}{w:OO}{K:Frag}{mg:Str->Option Oc}{base h:Heap}{name:Str}{st:Stmt}{ps:List Str}{k:Nat}{sp:Sp}(d:Df K name st)(X:K.In h)(G:h.Ns OT mg)
  (hb:∀(kV doc pm:Oc) (an:Option Addr) (XS ct:Oc) (us:List Oc),us.length=ps.length->Rm (Pa name name (cZ st) (bV st) (aW st) .none kV doc pm an XS ct) ⟨us,[]⟩=pure (ps.zip us))
  (ok:∀f fd,Ju K name name st f fd->X5 P w K mg base YT k f fd ps sp):Fn P w K mg base name ps k sp:=by
 obtain⟨f,oc,od,an,sl,kV,dc,pm,cd,ct,a,l,c,kp⟩:=d.ex;have F:=oj  l c kp;exact⟨f,_,ok f _ F,F.binds hb,kp,P1 X G a⟩
theorem zfy{P:Oz}{w:OO}{K:Frag}{mg:Str->Option Oc}{base:Heap}{k n:Nat}{f:Addr}{fd:QD}{ps:List Str}:X5 P w K mg base YT k f fd ps (XF K n fun _ _=>none):=by
 have no:∀vs H Q E,¬XF K n (fun _ _=>none) vs H Q E:=fun vs H Q E h=>by
  obtain⟨O,ts,T,ws,x,T',_,_,_,e,_⟩:=h;cases e
 exact⟨fun vs H Q E h=>absurd h (no vs H Q E),fun A outer s H args us vs Q E _ _ _ _ h=>absurd h (no vs H Q E)⟩
noncomputable def sF(K:Frag):Sp:=fun vs H Q _=>∃(a:Addr) (ns:List Int),vs=[.ref a]/\Ye K H a (ns.map V.int)/\ns.length<=63/\∀H',Q (.bl true) H'
noncomputable def bX(ns:List Int):PyData:=.list (ns.map .int)
theorem uW{K:Frag}{O:Addr->Prop}{H:Hp}:∀ns:List Int,Xs K O H (ns.map V.int) (ns.map RZ)
 |[]=>.nil
 |_::r=>.cons (.int _) (uW r)
section
variable {α β:Type}{ρ:Xw}{T:Tp}{f g:FE}{c c':FT}{s s':FS}{a:FA}{w w':W}{x y:Oa}
@[simp] theorem bB:Xy (some (b,T)) k=k b T:=rfl
@[simp] theorem Ms:Xy none k=none:=rfl
@[simp] theorem Mt[Decidable p]:Xy (if p then u else v) k=if p then Xy u k else Xy v k:=by split <;> rfl
@[simp] theorem oG:aN N s ws T=if eh ws=true then cO (s (ws.map some++Ov (N-ws.length) none) T) else none:=rfl
@[simp] theorem qi:eh []=true:=rfl
@[simp] theorem qh:eh (.d x::r)=eh r:=rfl
@[simp] theorem K3:eh (.tp i::r)=eh r:=rfl
@[simp] theorem lC:cO (some ((.rt x,r),T))=some (x,T):=rfl
@[simp] theorem Mm:cO (some ((.nx,r),T))=some (.none,T):=rfl
@[simp] theorem Mn[Decidable p]:cO (if p then u else v)=if p then cO u else cO v:=by split <;> rfl
noncomputable def fO(s':FS)(p:Fl×Xw)(T:Tp):Option ((Fl×Xw)×Tp):=match p with
 |(.nx,XU)=>s' XU T
 |(fl,XU)=>some ((fl,XU),T)
@[simp] theorem sf:ak s s' ρ T=Xy (s ρ T) (fO s'):=rfl
@[simp] theorem jS:fO s' (.nx,XU) T=s' XU T:=rfl
@[simp] theorem lB:fO s' (.rt x,XU) T=some ((.rt x,XU),T):=rfl
@[simp] theorem LQ:fO s' (.bk,XU) T=some ((.bk,XU),T):=rfl
@[simp] theorem LP:fO s' (.ct,XU) T=some ((.ct,XU),T):=rfl
@[simp] theorem L3:aC ρ T=some ((.nx,ρ),T):=rfl
noncomputable def CD(s s':FS)(ρ:Xw)(b:Bool)(T1:Tp):Option ((Fl×Xw)×Tp):=if b=true then s ρ T1 else s' ρ T1
@[simp] theorem NJ:Xz c s s' ρ T=Xy (c ρ T) (CD s s' ρ):=rfl
@[simp] theorem Nn:CD s s' ρ b T=if b=true then s ρ T else s' ρ T:=rfl
noncomputable def z6(ρ:Xw):W->Tp->Option ((Fl×Xw)×Tp):=fun w T1=>match w with
 |.d x=>some ((.rt x,ρ),T1)
 |_=>none
@[simp] theorem MR:aq f ρ T=Xy (f (cz ρ) T) (z6 ρ):=rfl
@[simp] theorem LV:z6 ρ (.d x) T=some ((.rt x,ρ),T):=rfl
@[simp] theorem Ml:cz []=[]:=rfl
@[simp] theorem Mh:cz (none::r)=none::cz r:=rfl
@[simp] theorem Mj:cz (some (.d x)::r)=some (.d x)::cz r:=rfl
@[simp] theorem Mg:cz (some (.tp i)::r)=some (.tp i)::cz r:=rfl
@[simp] theorem Mi:cz (some (.loc x)::r)=some (.d x)::cz r:=rfl
noncomputable def oX(i:Nat)(ρ:Xw):W->Tp->Option ((Fl×Xw)×Tp):=fun w T1=>match w with
 |.d x=>some ((.nx,ρ.set i (some (.d x))),T1)
 |.tp k=>some ((.nx,ρ.set i (some (.tp k))),T1)
 |.loc _=>none
@[simp] theorem HV:aD i f ρ T=Xy (f ρ T) (oX i ρ):=rfl
@[simp] theorem LN:oX i ρ (.d x) T=some ((.nx,ρ.set i (some (.d x))),T):=rfl
@[simp] theorem LL:oX i ρ (.tp k) T=some ((.nx,ρ.set i (some (.tp k))),T):=rfl
noncomputable def zo(i:Nat)(ρ:Xw)(T:Tp):Option (List Oa)->Option ((Fl×Xw)×Tp)
 |some xs=>if xs.length<=1000 then some ((.nx,ρ.set i (some (.loc (.list xs)))),T) else none
 |none=>none
@[simp] theorem LM:cJ i a ρ T=Xy (a ρ T) fun ws T1=>zo i ρ T1 (fL ws):=rfl
@[simp] theorem Ld:zo i ρ T (some xs)=if xs.length<=1000 then some ((.nx,ρ.set i (some (.loc (.list xs)))),T) else none:=rfl
noncomputable def Am(i:Nat)(ρ:Xw)(x:Oa)(T:Tp)(o:Option (Option W)):Option ((Fl×Xw)×Tp):=match o with
 |some (some (.loc (.list xs)))=>if xs.length<Om then some ((.nx,ρ.set i (some (.loc (.list (xs++[x]))))),T) else none
 |_=>none
noncomputable def Al(i:Nat)(ρ:Xw):W->Tp->Option ((Fl×Xw)×Tp):=fun w T1=>match w with
 | .d x=>(match ρ[i]? with
  |some (some (.loc (.list xs)))=>if xs.length<Om then some ((.nx,ρ.set i (some (.loc (.list (xs++[x]))))),T1) else none
  | _=>none)
 |_=>none
@[simp] theorem Nz:cF i f ρ T=Xy (f ρ T) (Al i ρ):=rfl
@[simp] theorem Mv:Al i ρ (.d x) T=Am i ρ x T ρ[i]?:=rfl
@[simp] theorem Mw:Am i ρ x T (some (some (.loc (.list xs))))=if xs.length<Om then some ((.nx,ρ.set i (some (.loc (.list (xs++[x]))))),T) else none:=rfl
@[simp] theorem NE:YE f l u ρ T=Xy (f ρ T) fun w T1=>Xy (l ρ T1) fun lo T2=>Xy (u ρ T2) fun hi T3=>Fm (fun x=>lJ x lo hi) T3 w:=rfl
@[simp] theorem MY:dD ρ T=some (none,T):=rfl
noncomputable def pK:W->Tp->Option (Option Int×Tp):=fun w T1=>match w with
 |.d (.int i)=>some (some i,T1)
 |_=>none
@[simp] theorem N4:fP f ρ T=Xy (f ρ T) pK:=rfl
@[simp] theorem NF:pK (.d (.int i)) T=some (some i,T):=rfl
@[simp] theorem MP{z:Str}{lo hi:Option Int}:lJ (.str z) lo hi=if z.length<=Om then some (.str (Qo z lo hi)) else none:=rfl
@[simp] theorem MO{xs:List Oa}{lo hi:Option Int}:lJ (.tuple xs) lo hi=some (.tuple (bM xs lo hi)):=rfl
@[simp] theorem MQ{xs:List Oa}{lo hi:Option Int}:lJ (.list xs) lo hi=some (.list (bM xs lo hi)):=rfl
@[simp] theorem Mo:fI f ρ T=Xy (f ρ T) fun _ T1=>some ((.nx,ρ),T1):=rfl
@[simp] theorem LF:aa 0 (some o::r) T=some (o,T):=rfl
@[simp] theorem Lu:aa (i+1) (o::r) T=aa i r T:=rfl
@[simp] theorem LD:aa 1 (o::r) T=aa 0 r T :=rfl
@[simp] theorem LC:aa 2 (o::r) T=aa 1 r T :=rfl
@[simp] theorem LB:aa 3 (o::r) T=aa 2 r T :=rfl
@[simp] theorem LA:aa 4 (o::r) T=aa 3 r T :=rfl
@[simp] theorem Lz:aa 5 (o::r) T=aa 4 r T :=rfl
@[simp] theorem Ly:aa 6 (o::r) T=aa 5 r T :=rfl
@[simp] theorem Lx:aa 7 (o::r) T=aa 6 r T :=rfl
@[simp] theorem Lw:aa 8 (o::r) T=aa 7 r T :=rfl
@[simp] theorem Lv:aa 9 (o::r) T=aa 8 r T :=rfl
@[simp] theorem N5:fC x ρ T=some (.d x,T):=rfl
@[simp] theorem Ls:view T (.d x)=some x:=rfl
@[simp] theorem La:view T (.tp i)=(T[i]?).bind kE:=rfl
@[simp] theorem LR:kE xs=if E8 xs=true then none else some (.list xs):=rfl
@[simp] theorem Lr:E8 (.list xs::r)=false:=rfl
@[simp] theorem Lb:view T (.loc (.list xs))=some (.list xs):=rfl
@[simp] theorem KW:view T (.loc (.dict xs))=some (.dict xs):=rfl
noncomputable def Zv(T:Tp)(o:Option Oa):Option (W×Tp):=match o with
 |some d=>some (.d d,T)
 |none=>none
@[simp] theorem M5:Zv T (some x)=some (.d x,T):=rfl
@[simp] theorem L6:Zv T none=none:=rfl
@[simp] theorem L7[Decidable p]:Zv T (if p then u else v)=if p then Zv T u else Zv T v:=by split <;> rfl
noncomputable def Ak(o:Oa->Oa->Option Oa)(g:FE)(ρ:Xw)(w1:W)(T1:Tp):Option (W×Tp):=Xy (g ρ T1) fun w2 T2=>Zk o T2 w1 w2
@[simp] theorem Nx:af o f g ρ T=Xy (f ρ T) (Ak o g ρ):=rfl
@[simp] theorem Mu:Ak o g ρ w T=Xy (g ρ T) fun w2 T2=>Zk o T2 w w2:=rfl
@[simp] theorem MW:Zk o T (.d x) (.d y)=Zv T (o x y):=rfl
@[simp] theorem LX:Zk o ((.list zs::xs)::r) (.tp 0) (.d y)=Zv ((.list zs::xs)::r) (o (.list (.list zs::xs)) y):=rfl
@[simp] theorem ND:X1 o f ρ T=Xy (f ρ T) fun w1 T1=>Fm o T1 w1:=rfl
@[simp] theorem MX:Fm o T (.d x)=Zv T (o x):=rfl
@[simp] theorem Ny:Hd (.d (.bool b))=some b:=rfl
noncomputable def zX:W->Tp->Option (Bool×Tp):=fun w T1=>match Hd w with
 |some b=>some (b,T1)
 |none=>none
@[simp] theorem MJ:aw f ρ T=Xy (f ρ T) zX:=rfl
@[simp] theorem LG:zX (.d (.bool b)) T=some (b,T):=rfl
@[simp] theorem MK:aV f ρ T=Xy (f ρ T) fun w T1=>oU T1 w:=rfl
noncomputable def zY(T:Tp)(o:Option Bool):Option (Bool×Tp):=match o with
 |some b=>some (b,T)
 |none=>none
@[simp] theorem LK:oU T (.d x)=zY T (oS x):=rfl
@[simp] theorem LH:zY T (some b)=some (b,T):=rfl
@[simp] theorem LJ:oS (.bool b)=some b:=rfl
noncomputable def zQ(c':FT)(ρ:Xw)(b:Bool)(T1:Tp):Option (Bool×Tp):=if b=true then c' ρ T1 else some (false,T1)
@[simp] theorem My:cg c c' ρ T=Xy (c ρ T) (zQ c' ρ):=rfl
@[simp] theorem Lo:zQ c' ρ b T=if b=true then c' ρ T else some (false,T):=rfl
noncomputable def Aa(c':FT)(ρ:Xw)(b:Bool)(T1:Tp):Option (Bool×Tp):=if b=true then some (true,T1) else c' ρ T1
@[simp] theorem MU:bP c c' ρ T=Xy (c ρ T) (Aa c' ρ):=rfl
@[simp] theorem LW:Aa c' ρ b T=if b=true then some (true,T) else c' ρ T:=rfl
@[simp] theorem LZ:bC c ρ T=Xy (c ρ T) fun b T1=>some (!b,T1):=rfl
@[simp] theorem Lc:bT ρ T=some (true,T):=rfl
noncomputable def An(g:FE)(ρ:Xw)(w:W)(T:Tp):Option (W×Tp):=match Hd w with
 |some b=>if b=true then g ρ T else some (.d (.bool false),T)
 |none=>none
@[simp] theorem Mx:cP f g ρ T=Xy (f ρ T) (An g ρ):=rfl
@[simp] theorem Mz:An g ρ (.d (.bool b)) T=if b=true then g ρ T else some (.d (.bool false),T):=rfl
noncomputable def By(g:FE)(ρ:Xw)(w:W)(T:Tp):Option (W×Tp):=match Hd w with
 |some b=>if b=true then some (.d (.bool true),T) else g ρ T
 |none=>none
@[simp] theorem MT:kJ f g ρ T=Xy (f ρ T) (By g ρ):=rfl
@[simp] theorem MV:By g ρ (.d (.bool b)) T=if b=true then some (.d (.bool true),T) else g ρ T:=rfl
noncomputable def Ad(w:W)(T:Tp):Option (W×Tp):=match Hd w with
 |some b=>some (.d (.bool (!b)),T)
 |none=>none
@[simp] theorem LY:kq f ρ T=Xy (f ρ T) Ad:=rfl
@[simp] theorem L0:Ad (.d (.bool b)) T=some (.d (.bool (!b)),T):=rfl
noncomputable def Ae(f g:FE)(ρ:Xw)(b:Bool)(T1:Tp):Option (W×Tp):=if b=true then f ρ T1 else g ρ T1
@[simp] theorem Np:dJ c f g ρ T=Xy (c ρ T) (Ae f g ρ):=rfl
@[simp] theorem Mf:Ae f g ρ b T=if b=true then f ρ T else g ρ T:=rfl
noncomputable def Gc(o':Oa->Oa->Option Oa)(h:FE)(ρ:Xw)(w2 w:W)(T:Tp):Option (W×Tp):=match Hd w with
 |some b=>if b=true then Xy (h ρ T) fun w3 T4=>Zk o' T4 w2 w3 else some (.d (.bool false),T)
 |none=>none
@[simp] theorem Lm:gJ o o' f g h ρ T=Xy (f ρ T) fun w1 T1=>Xy (g ρ T1) fun w2 T2=>Xy (Zk o T2 w1 w2) (Gc o' h ρ w2):=rfl
@[simp] theorem Nv:Gc o' h ρ w (.d (.bool b)) T=if b=true then Xy (h ρ T) fun w3 T4=>Zk o' T4 w w3 else some (.d (.bool false),T):=rfl
@[simp] theorem MZ:ag ρ T=some ([],T):=rfl
noncomputable def zL(a:FA)(ρ:Xw)(w:W)(T1:Tp):Option (List W×Tp):=Xy (a ρ T1) fun ws T2=>some (w::ws,T2)
@[simp] theorem Mp:ab f a ρ T=Xy (f ρ T) (zL a ρ):=rfl
@[simp] theorem Ll:zL a ρ w T=Xy (a ρ T) fun ws T2=>some (w::ws,T2):=rfl
@[simp] theorem KU:views T []=some []:=rfl
noncomputable def oM(x:Oa)(o:Option (List Oa)):Option (List Oa):=match o with
 |some xs=>some (x::xs)
 |none=>none
@[simp] theorem Lk:oM x (some xs)=some (x::xs):=rfl
@[simp] theorem K9:views T (.d x::r)=oM x (views T r):=rfl
@[simp] theorem KS:views T (.loc (.list xs)::r)=oM (.list xs) (views T r):=rfl
@[simp] theorem K8:fL []=some []:=rfl
@[simp] theorem Lj:fL (.d x::r)=oM x (fL r):=rfl
noncomputable def Bc(mk:List Oa->Oa)(T:Tp):Option (List Oa)->Option (W×Tp)
 |some xs=>if xs.length<=1000 then some (.d (mk xs),T) else none
 |none=>none
@[simp] theorem LO:aB mk a ρ T=Xy (a ρ T) fun ws T1=>Bc mk T1 (fL ws):=rfl
@[simp] theorem MN:Bc mk T (some xs)=if xs.length<=1000 then some (.d (mk xs),T) else none:=rfl
noncomputable def HU(o:List Oa->Option Oa)(T:Tp)(v:Option (List Oa)):Option (W×Tp):=match v with
 | some xs=>(match o xs with
  |some d=>some (.d d,T)
  | none=>none)
 |none=>none
@[simp] theorem NM:Yd o a ρ T=Xy (a ρ T) fun ws T1=>HU o T1 (views T1 ws):=rfl
@[simp] theorem Nw:HU o T (some xs)=Zv T (o xs):=rfl
@[simp] theorem Mr:ay m a ρ T=Xy (a ρ T) fun ws T1=>Xy (m ws T1) fun x T2=>some (.d x,T2):=rfl
@[simp] theorem Mq:cb it c f ρ T=Xy (it ρ T) fun ds T1=>Xy (bL c f ρ ds T1) fun ys T2=>some (.d (.list ys),T2):=rfl
noncomputable def D7(T:Tp)(o:Option (List Oa)):Option (List Oa×Tp):=match o with
 |some xs=>some (xs,T)
 |none=>none
noncomputable def BR:W->Tp->Option (List Oa×Tp):=fun w T1=>match w with
 | .d x=>(match jg x with
  |some xs=>some (xs,T1)
  | none=>none)
 |_=>none
@[simp] theorem Mb:bD f ρ T=Xy (f ρ T) BR:=rfl
@[simp] theorem Nj:BR (.d x) T=D7 T (jg x):=rfl
@[simp] theorem Nk:D7 T (some xs)=some (xs,T):=rfl
@[simp] theorem K6:jg (.list xs)=some xs:=rfl
@[simp] theorem K7:jg (.dict ds)=some (ds.map (·.1)):=rfl
@[simp] theorem K4:jg (.tuple xs)=some xs:=rfl
@[simp] theorem K5:jg (.str z)=if z.length<=Om then some (signs z) else none:=rfl
noncomputable def z5:W->Tp->Option (List Oa×Tp):=fun w T1=>match w with
 |.d (.int j)=>if iC j=true then some (dy 0 j.toNat,T1) else none
 |_=>none
@[simp] theorem LU:fH f ρ T=Xy (f ρ T) z5:=rfl
@[simp] theorem LS:z5 (.d (.int j)) T=if iC j=true then some (dy 0 j.toNat,T) else none:=rfl
@[simp] theorem Nq:cq i it s ρ T=Xy (it ρ T) fun ds T1=>forL i s ds ρ T1:=rfl
@[simp] theorem MM:dr (.int i) (.int j)=some (.int (i-j)):=rfl
@[simp] theorem M4:bz (.int i) (.int j)=if 0<j then some (.int (i % j)) else none:=rfl
@[simp] theorem MS:gV (.int i) (.int j)=if 0<=j/\j<=1000000/\i.natAbs<2^64 then some (.int (i^j.toNat)) else none:=rfl
@[simp] theorem NG:F4 (.int i) (.int j)=some (.bool (decide (i<j))):=rfl
@[simp] theorem NH:Hg (.int i) (.int j)=some (.bool (decide (i<=j))):=rfl
@[simp] theorem NK:Au (.int i) (.int j)=some (.bool (decide (j<i))):=rfl
@[simp] theorem NL:AL (.int i) (.int j)=some (.bool (decide (j<=i))):=rfl
@[simp] theorem MC:aO (.int i) (.int j)=some (.int (i+j)):=rfl
@[simp] theorem MB:aO (.str u) (.str v)=if u.length+v.length<=Om then some (.str (u++v)) else none:=rfl
@[simp] theorem MA:aO (.tuple u) (.tuple v)=if u.length+v.length<=Om then some (.tuple (u++v)) else none:=rfl
@[simp] theorem Gm:aO (.list u) (.list v)=if u.length+v.length<=Om then some (.list (u++v)) else none:=rfl
@[simp] theorem L5:ck (.int i) (.int j)=if (-(2^64)<i/\i<2^64)\/(-(2^64)<j/\j<2^64) then some (.int (i*j)) else none:=rfl
@[simp] theorem L4:ck (.str z) (.int k)=if 0<=k/\k<=2000/\z.length<=1000 then some (.str (Xq z k)) else none:=rfl
@[simp] theorem Nt:YC (.int i) (.int j)=some (.bool (decide (i=j))):=rfl
@[simp] theorem Nr:YC (.str i) (.str j)=some (.bool (decide (i=j))):=rfl
@[simp] theorem Nu:YC (.bool i) (.bool j)=some (.bool (decide (i=j))):=rfl
@[simp] theorem M2:Eb (.int i) (.int j)=some (.bool (!decide (i=j))):=rfl
@[simp] theorem M1:Eb (.str i) (.str j)=some (.bool (!decide (i=j))):=rfl
@[simp] theorem M3:Eb (.bool i) (.bool j)=some (.bool (!decide (i=j))):=rfl
@[simp] theorem NI:G2 x .none=some (.bool (isNone x)) :=rfl
@[simp] theorem Lh:f6 (.bool i) (.bool j)=some (.bool (i != j)):=rfl
@[simp] theorem M0:e7 (.int i)=some (.int (-i)):=rfl
@[simp] theorem Nl:bu k x=some (.bool (bR (kd x) k)):=rfl
@[simp] theorem Ni:XH (.list xs) (.int i)=XR xs i:=rfl
@[simp] theorem Ng:XH (.tuple xs) (.int i)=XR xs i:=rfl
@[simp] theorem HX:XH (.str z) (.int i)=if z.length<=Om then (XR z.cps.toList i).map (fun c=>.str ⟨#[c]⟩) else none:=rfl
@[simp] theorem Ma:aZ [.list xs]=some (.int xs.length):=rfl
@[simp] theorem L8:aZ [.tuple xs]=some (.int xs.length):=rfl
@[simp] theorem L9:aZ [.str z]=if z.length<=Om then some (.int z.length) else none:=rfl
@[simp] theorem NB:pq [.int i]=some (.int (if i<0 then -i else i)):=rfl
@[simp] theorem M6:ma [.int i,.int j]=some (.int (if j>i then j else i)):=rfl
@[simp] theorem KZ:dQ [.list xs]=some (.tuple xs):=rfl
@[simp] theorem KY:dQ [.tuple xs]=some (.tuple xs):=rfl
@[simp] theorem Lg:kl [.list xs]=some (.list xs):=rfl
@[simp] theorem Lf:kl [.tuple xs]=some (.list xs):=rfl
@[simp] theorem Nb:kd (.int i)=.int:=rfl
@[simp] theorem Nd:kd (.bool i)=.bl:=rfl
@[simp] theorem M8:kd (.str i)=.str:=rfl
@[simp] theorem M7:kd (.tuple i)=.tup:=rfl
@[simp] theorem Na:kd (.list i)=.lst:=rfl
@[simp] theorem Nc:kd (.dict i)=.dct:=rfl
@[simp] theorem M9:kd .none=.non:=rfl
end
theorem EN{α:Type}{a b c:α}:XR [a,b,c] 0=some a:=rfl
theorem Y0{α:Type}{a b c:α}:XR [a,b,c] 1=some b:=rfl
theorem at2{α:Type}{a b c:α}:XR [a,b,c] 2=some c:=rfl
theorem gB:∀{ds:List Oa},(∀d∈ds,e (some (.d d)::ρ) T=some (.d (g d),T))->bL bT e ρ ds T=some (ds.map g,T)
 |[],_=>rfl
 |d::r,h=>by
  have ih:=gB  fun x hx=>h x (Of _ hx);have h0:=h d Oh
  unfold bL<;>simp_all
theorem tQ:∀{ds:List Oa},(∀d∈ds,c (some (.d d)::ρ) T=some (p d,T))->bL c (aa 0) ρ ds T=some (ds.filter p,T)
 |[],_=>rfl
 |d::r,h=>by
  have ih:=tQ  fun x hx=>h x (Of _ hx);have h0:=h d Oh;unfold bL
  cases hp:p d <;>simp_all
theorem uD{α:Type}(p:α->Bool):∀l:List α,j9 (l.map fun d=>.bool (p d))=some (l.map p)
 |[]=>rfl
 |d::r=>by
  show (j9 _).map _=_;rw[uD p r];rfl
theorem u9{α:Type}(p:α->Int):∀l:List α,km (l.map fun d=>.int (p d))=some (l.map p)
 |[]=>rfl
 |d::r=>by
  show (km _).map _=_;rw[u9 p r];rfl
theorem mU{α:Type}(p:α->Str):∀l:List α,eg (l.map fun d=>.str (p d))=some (l.map p)
 |[]=>rfl
 |d::r=>by
  show (eg _).map _=_;rw[mU p r];rfl
@[simp] theorem NA{α:Type}(p:α->Bool)(l:List α):gZ [.list (l.map fun d=>.bool (p d))]=some (.bool (l.all p)):=by
 show (j9 _).map _=_;rw[uD,V5,W6];rfl
@[simp] theorem ML{α:Type}(p:α->Int)(l:List α):oW [.list (l.map fun d=>.int (p d))]=some (.int (l.map p).sum):=by
 show (km _).map _=_;rw[u9,V5]
noncomputable def rL(y:Str):Oa->Bool
 |.str z=>ju y z
 |_=>false
theorem wD(y:Str)(c:Nat):ju y ⟨#[c]⟩=decide (c∈y.cps.toList):=StrLaws.found_one ..
@[simp] theorem Nm:inD (.str x) (.str y)=some (.bool (ju y x)):=rfl
theorem uR(h:d∈D.signs x):∃c,c∈x.cps.toList/\d=.str ⟨#[c]⟩:=by
 obtain⟨c,hc,rfl⟩:=OF.mp h;exact⟨c,hc,rfl⟩
section
variable {X:Cx}
theorem zfz:Dl X "str.startswith" (fun x vs H Q=>∃z y:Str,x=.str z/\vs=[.str y]/\Q (.bl (Ql z y)) H):=by
 intro pins s σ H x vs v us Q I rx rv h;obtain⟨z,y,rfl,rfl,q⟩:=h;obtain⟨t,rfl⟩:=rx;obtain⟨u,rfl,ru⟩:=vals1 rv;obtain⟨t',rfl⟩:=ru;exact call_gives Sr (RY _ _ _) PySem.F.entry_str_startswith (PySem.F.args_str_startswith_2 _ _) (gives_str_startswith z y t t') ⟨.bl _,H,I,rfl,q⟩
noncomputable def iu:Oa->Oa->Option Oa
 |.str z,.str y=>some (.bool (Ql z y))
 |_,_=>none
theorem vL(h:view T w=some (.str z)):w=.d (.str z):=by
 cases w with
 |d x=>simp_all
 |tp k=>
  cases hk:T[k]? <;>simp_all
 |loc zs=>cases zs <;> cases h
theorem ql(ho:DE X o fo)(he:DE X e fe)
  (XZ:autoParam (PD o "startswith" X.env (eval o X.env)=eval o X.env) u10)
  (Yl:autoParam (((Pe Xu (Ol [e] X.env)).all (fun x=>!x.1)&&(QJ Xu (PN [] X.env)).all (fun x=>x.1.isSome)
   && decide (([e]:List Expr).length+([]:List Qk).length+(if ([]:List Qk).isEmpty then 0 else 1)<30))=true) u19)
  (XY:autoParam ((apos.endLine == Xu.line)=true) u10) (YG:autoParam (Ol [e] X.env=(false,eval e X.env)::Ol [] X.env) u12) (XN:autoParam ((Pe Xu (Ol [] X.env)).any (·.1)=false) u13) :
  DE X (.Call (.Attribute o "startswith" apos) [e] [] Xu) (af iu fo fe):=by
 refine⟨?_⟩;refine bo (gR Q3 Sr PySem.F.type_str_startswith zfz ho.pe (bH he.pe bY YG) XZ Yl XY YG XN) fun σ H Q=>?_;rintro⟨O,ts,ρ,T,w,T',hc,re,e,q⟩;obtain⟨w1,T1,e1,e⟩:=aL e;obtain⟨w2,T2,e2,e⟩:=aL e;obtain⟨x,y,d,h1,h2,h3,rfl,rfl⟩:=gI e;unfold iu at h3;split at h3
 .rename_i z y
  cases h3;have ew:=vL h1;subst ew;refine⟨O,ts,ρ,T,_,T1,hc,re,e1,fun v1 H1 s1 Xt r1=>?_⟩;cases (r1);refine⟨rfl,O,ts,ρ,T1,w2,T',Xt,re.mono hc s1,e2,fun v2 H2 s2 XC r2=>?_⟩;cases (XC.view r2 h2).str;exact⟨z,_,rfl,rfl,q _ H2 (s1.trans s2) XC (.bl _)⟩
 .cases h3
theorem zga:XW X (.type "int") (fun xs H Q=>∃x n,xs=[.str x]/\UD x=some n/\x.length<=640/\Q (.int n) H):=by
 intro pins s σ H xs us Q I r h;obtain⟨x,n,rfl,hn,hl,q⟩:=h;obtain⟨u,rfl,ru⟩:=vals1 r;obtain⟨t,rfl⟩:=ru;exact PySem.W.KIN.call_text hn hl ⟨.int n,H,I.tok _,⟨_,rfl⟩,q⟩
noncomputable def intD:List Oa->Option Oa
 |[.int i]=>some (.int i)
 |[.bool b]=>some (.int (if b then 1 else 0))
 |[.str x]=>if x.length<=640 then (UD x).map .int else none
 |_=>none
theorem oN:fN X (.type "int") intD:=⟨_,Dm.or zga,fun O ts H T vs xs d Q hc h e q=>by
 unfold intD at e;split at e
 .cases e
  obtain⟨v,rfl,g⟩:=dU h;cases g.int;exact .inl (.inl ⟨_,rfl,q _ H (.refl _ _) hc (.int _)⟩)
 .cases e
  obtain⟨v,rfl,g⟩:=dU h;cases g.bl;exact .inl (.inr ⟨_,rfl,q _ H (.refl _ _) hc (.int _)⟩)
 .split at e
  .rename_i hz
   obtain⟨n,e1,rfl⟩:=ON.mp e;obtain⟨v,rfl,g⟩:=dU h;cases g.str;exact .inr ⟨_,n,rfl,e1,hz,q _ H (.refl _ _) hc (.int _)⟩
  .cases e
 .cases e⟩
end
@[simp] theorem K0:iu (.str z) (.str y)=some (.bool (Ql z y)):=rfl
@[simp] theorem Mc:intD [.str x]=if x.length<=640 then (UD x).map .int else none:=rfl
@[simp] theorem Md:intD [.int i]=some (.int i):=rfl
@[simp] theorem Me:intD [.bool b]=some (.int (if b then 1 else 0)):=rfl
noncomputable def Zd(x y:Oa):Option PyData:=if OP x=true/\OP y=true then some (.bool (OL x y)) else none
section
variable {X:Cx}
theorem Vw.reads(I:Inv X pins σ H s)(h:Vw X.K O H v d)(r:RelV v u):∃as,UC s.heap u d as:=by
 cases h with
 |rep h=>obtain⟨as,rd,_⟩:=h.reads I r;exact⟨as,rd⟩
 |raw h hs=>
  cases r;obtain⟨Xr,rv,pl,_⟩:=I.list (Ye.of h);obtain⟨o,n,e,c,_,dd⟩:=pl;obtain⟨as,rd,_⟩:=hs.reads I rv;exact⟨_,.list e c dd (by omega)⟩
 |rawD h rk=>
  cases r;obtain⟨z,y,vs,kv,o,es,ep,e,ed,dd,_,ek,_⟩:=(I.hok _ _ h);obtain⟨bs,q1,q2,f⟩:=XX.reads I rk kv ek;exact⟨_,.dict   e ed.1 dd q1 q2⟩
theorem yF(hr:XA k X.A):Yc X (OQ .Eq) (fun x y H Q=>∃O d1 d2,Vw X.K O H x d1/\Vw X.K O H y d2/\OP d1=true/\OP d2=true/\Q (.bl (OL d1 d2)) H):=by
 intro pins s σ H x y v u Q I rx ry h;obtain⟨O,d1,d2,h1,h2,s1,s2,q⟩:=h;obtain⟨as,r1⟩:=h1.reads I rx;obtain⟨bs,r2⟩:=h2.reads I ry;exact SeqAt.compareEq_shaped r1 r2 s1 s2 (by have:=hr.un;lia) ⟨.bl _,H,I,rfl,q⟩
theorem jk(hr:XA k X.A):YL X (OQ .Eq) Zd:=⟨_,yF hr,fun O ts H T v1 v2 x y d Q hc h1 h2 e q=>by
 unfold Zd at e;split at e
 .rename_i h
  cases e;exact⟨O,x,y,h1,h2,h.1,h.2,q _ H (.refl _ _) hc (.bl _)⟩
 .cases e⟩
open Classical in
noncomputable def jv(h:Heap)(x:Oa)(v:Oc):Bool:=if e:∃p:Oa×List Addr,UC h v p.1 p.2 then OL e.choose.1 x else false
theorem rm(r:UC h v d as):jv h x v=OL d x:=by
 have e:∃p:Oa×List Addr,UC h v p.1 p.2:=⟨(d,as),r⟩;unfold jv;rw[dif_pos e];have:=(PySem.Reads.unique e.choose_spec d as r).1;rw[this]
theorem qF:∀{vs:List Oc}{ds:List Oa}{as:List Addr},R7 h vs ds as->vs.any (jv h x)=ds.any fun d=>OL d x
 |_,_,_,.nil=>rfl
 |_,_,_,.cons r rs=>by rw[Qz,Qz,rm r,qF rs]
theorem readsAll_mem:∀{vs:List Oc}{ds:List Oa}{as:List Addr}{v:Oc},R7 h vs ds as->v∈vs->∃d bs,d∈ds/\UC h v d bs
 |_,_,_,_,.cons r rs,hm=>by
  rcases Ox.mp hm with z|z
  .subst z;exact⟨_,_,Oh,r⟩
  .obtain⟨d,bs,h1,h2⟩:=readsAll_mem rs z
   exact⟨d,bs,Of _ h1,h2⟩
noncomputable def G3:Oa->Oa->Option Oa
 |x,.tuple ys=>if OP x=true/\ys.all OP=true then some (.bool (ys.any fun y=>OL y x)) else none
 |_,_=>none
theorem zgb(hr:XA k X.A):Yc X (OQ .In) (fun x y H Q=>∃O d1 a vs ds,Vw X.K O H x d1/\y=.ref a/\Yn X.K H a vs/\Xs X.K O H vs ds/\OP d1=true/\ds.all OP=true/\Q (.bl (ds.any fun y=>OL y d1)) H):=by
 intro pins s σ H x y v u Q I rx ry h;obtain⟨O,d1,a,vs,ds,h1,rfl,h2,h3,s1,s2,q⟩:=h;cases ry;obtain⟨as,r1⟩:=h1.reads I rx;obtain⟨Xr,rv,p1,_⟩:=I.tuple h2;obtain⟨bs,r2,_⟩:=h3.reads I rv;refine VI (jv s.heap d1) p1 (fun y hy=>?_) ?_
 .obtain⟨d,cs,hd,rd⟩:=readsAll_mem r2 (by simpa using hy)
  rw[rm rd];have sd:=Ou.mp s2 d hd;refine Ti d d1 _ s y v _ _ rd r1 (Q4 sd) (Q4 s1) (UE sd ?_)
  have:=hr.un<;>grind
 .have e:Xr.toArray.any (jv s.heap d1)=ds.any fun y=>OL y d1:=by
   rw[←qF r2];simp
  rw[e];exact⟨.bl _,H,I,rfl,q⟩
theorem zv(hr:XA k X.A):YL X (OQ .In) G3:=⟨_,zgb hr,fun O ts H T v1 v2 x y d Q hc h1 h2 e q=>by
 unfold G3 at e;split at e
 .split at e
  .rename_i h
   cases e;obtain⟨a,vs,rfl,t,r⟩:=h2.tup;exact⟨O,x,a,vs,_,h1,rfl,t.sq,r,h.1,h.2,q _ H (.refl _ _) hc (.bl _)⟩
  .cases e
 .cases e⟩
end
theorem zgc(l:Addr)(items:Array Oc)(n:Nat)(b:Addr)(Y4:Array Oc)(n2:Nat)(dd:Option Addr)(sl:Array (Option Oc))(KH:¬(!items.isEmpty&&Pz (items.size+Y4.size))=true)(Xt:items.size<=Om)(DL:items.size+Y4.size<=Om+1) :
  Xg (Vp.«list.extend» ⟨[.ref l,.ref b],[]⟩) (fun _ R s=>s.heap.get? l=some { cls:=.type "list",dict:=none,data:=.seq items n,slots:=#[] }/\s.heap.get? b=some { cls:=.type "list",dict:=dd,data:=.seq Y4 n2,slots:=sl }/\R (.ok (.ret P2)) { s with heap:=s.heap.update l (Obj.mapSeq fun x=>x++Y4),toks:=s.toks }):=
 .of_wp fun prog w A R s h=>by
  obtain⟨hp,g,d,tk,os⟩:=s;obtain⟨hl,hb,h⟩:=h;have f1:=VN;have f2:=S7;have f3:=TY;have f4:=Tj;have f5:=Tn
  have JY:(items++Y4).size<=Om+1:=by rw[Array.size_append];exact DL
  wp_walk using(wpAny_updateSeq hl rfl (hz:=Xt) (_hz':=JY)),Sd hl,Sd hb;exact⟨_,rfl,h⟩
section
variable {X:Cx}
theorem zgd:JK X "list.extend" (fun x vs H Q=>∃l b xs zs,x=.ref l/\vs=[.ref b]/\H l=some (.lst xs)/\Ye X.K H b zs/\xs.length+zs.length<=Om/\Q .non (upd H l (.lst (xs++zs)))):=by
 intro pins s σ H x vs v us Q I rx rv h;obtain⟨l,b,xs,zs,rfl,rfl,hH,hB,hz,q⟩:=h;cases rx;obtain⟨u,rfl,ru⟩:=rv.one;cases ru;obtain⟨z,Xr,n,r,hl,e⟩:=I.lstM hH;obtain⟨Zo,r2,pl,_⟩:=I.list hB;obtain⟨⟨Ic,Fb,data2,Fk⟩,n2,e2,c2,_,d2⟩:=pl;simp only at c2 d2;subst c2 d2;have HJ:=r2.length
 have hsz:Xr.toArray.size+Zo.toArray.size<=sizeLine:=by simp_all
 have JZ:¬(!Xr.toArray.isEmpty&&Pz (Xr.toArray.size+Zo.toArray.size))=true:=by
  rw[zdn hsz,Bool.and_false];exact OB
 refine QP F.slot_list_extend ⟨_,e,rfl⟩ F.entry_list_extend (F.args_list_extend_2 _ _)
  (zgc l Xr.toArray n b Zo.toArray n2 Fb Fk JZ (by simp_all) (by lia)) ⟨e,e2,?_⟩
 refine⟨.non,_,I.lset (its':=Xr++Zo) hH e (by simp) (r.append r2) ?_,rfl,q⟩;rw[Pj]
 lia
variable {pos:Pos}{e:Expr}{fe:FE}
noncomputable def iN(i:Nat)(f:FE):FS:=fun ρ T=>Xy (f ρ T) fun w T1=>match w,ρ[i]? with
 |.d (.list ys),some (some (.loc (.list xs)))=>if xs.length+ys.length<=Om then some ((.nx,ρ.set i (some (.loc (.list (xs++ys))))),T1) else none
 |_,_=>none
theorem yW(he:DE X e fe)(hN:autoParam (X.N[i]? = some x) u10)(hv:autoParam (A0 X.env.scope x) u20)(hd:autoParam ((x == ("__debug__" : Str))=false) u11)
  (hcd:autoParam ((x == ("__classdict__" : Str))=false) u11) 
  (XZ:autoParam (PD (.Name x p) "extend" X.env (eval (.Name x p) X.env)=eval (.Name x p) X.env) u10)
  (Yl:autoParam (((Pe Xu (Ol [e] X.env)).all (fun x=>!x.1)&&(QJ Xu (PN [] X.env)).all (fun x=>x.1.isSome)
   && decide (([e]:List Expr).length+([]:List Qk).length+(if ([]:List Qk).isEmpty then 0 else 1)<30))=true) u19)
  (XY:autoParam ((apos.endLine == Xu.line)=true) u10) (YG:autoParam (Ol [e] X.env=(false,eval e X.env)::Ol [] X.env) u12) (XN:autoParam ((Pe Xu (Ol [] X.env)).any (·.1)=false) u13)
  (hs:autoParam (PB (.Call (.Attribute (.Name x p) "extend" apos) [e] [] Xu) none pos.line X.env=pure false) u10) :
  DS X (.Expr (.Call (.Attribute (.Name x p) "extend" apos) [e] [] Xu) pos) (iN i fe):=by
 refine⟨?_⟩;refine dG (lA (gR Qp PySem.F.slot_list_extend PySem.F.type_list_extend zgd (pv i hN hv hd hcd) (bH he.pe bY YG) XZ Yl XY YG XN) hs) fun D σ H=>?_;rintro⟨O₀,H₀,F,ts,O,ρ,T,fl,ρ',T',rs,e,q⟩;obtain⟨w,T1,e1,e⟩:=aL e;split at e
 .rename_i ys xs h1
  split at e
  .rename_i h2
   cases e;obtain⟨v,k1,a,rfl,k2,k3,vs,k4,k5⟩:=rs.re i _ h1;refine⟨_,k1,.inl ⟨rfl,vs,Ye.of k4⟩,O,ts,ρ,T,_,_,rs.hc,rs.re,e1,fun u H1 s1 Xt r1=>?_⟩;have YI:=rs.step s1 Xt;have JB:Rep X.K O H1 u (.list ys):=r1
   cases JB with
   |lst t r=>
    rename_i b us;exact⟨a,b,vs,us,rfl,rfl,s1 _ _ k3 k4,t.sq,by rw[k5.length,r.length];exact h2,q O _ _ (YI.put (us:=[]) h1 k1 ((k5.mono (rs.hc.le s1)).append r))⟩
  .cases e
 .cases e
end
noncomputable def dX(B:List (Str×Int)):List (Str×UF):=B.map fun p=>(p.1,.flat (.int p.2))
def pz(K:Frag)(mg:Str->Option Oc)(x:Str)(B:List (Str×Int)):Prop:=∃a,mg x=some (.ref a)/\OS (OR fun b=>K.lookup b) (fun b=>K.lookup b) a (dX B)=true
noncomputable def Jx(B:List (Str×Int)):Oa->Option Oa
 |.str s=>some (.bool (B.any fun p=>decide (s=p.1)))
 |_=>none
noncomputable def atT(B:List (Str×Int)):Oa->Option Oa
 |.str s=>(B.find? fun p=>decide (s=p.1)).map fun p=>.int p.2
 |_=>none
theorem uj(s:Str):∀B:List (Str×Int),RG s (dX B)=B.any fun p=>decide (s=p.1)
 |[]=>rfl
 |(x,d)::B=>by
  show (decide (s=x)||PyProof.Rows.KTD.inKeys s (dX B))=_;rw[uj s B];rfl
theorem vq(s:Str):∀B:List (Str×Int),QQ s (dX B)=(B.find? fun p=>decide (s=p.1)).map fun p=>.flat (.int p.2)
 |[]=>rfl
 |(x,d)::B=>by
  show (if decide (s=x)=true then some _ else QQ s (dX B))=_;rw[vq s B,PH]
  cases decide (s=x) <;> rfl
section
variable {X:Cx}{pos:Pos}{e:Expr}{f:FE}{x:Str}{p:Pos}{B:List (Str×Int)}
theorem vp:∀{B:List (Str×Int)}{d:Str×Int},(B.find? fun p=>decide (s=p.1))=some d->(∀t,P (.int d.2 t))->TZ h s P (dX B)
 |[],d,e,_=>by simp_all
 |(x,i)::B,d,e,hp=>by
  rw[PH] at e
  by_cases hx:s=x
  .have:decide (s=x)=true:=decide_eq_true hx
   simp only[this] at e;cases e;exact SI hx (V8 hp)
  .have:decide (s=x)=false:=decide_eq_false hx
   simp only[this] at e;exact Ss hx (vp e hp)
theorem zge(hl:OS (OR fun b=>X.K.lookup b) (fun b=>X.K.lookup b) a (dX B)=true):Yc X (OQ .In) (fun x y H Q=>∃s,x=.str s/\y=.ref a/\Q (.bl (B.any fun p=>decide (s=p.1))) H):=by
 intro pins s σ H x y v u Q I rx ry h;obtain⟨z,rfl,rfl,q⟩:=h;obtain⟨t,rfl⟩:=rx;cases ry;refine WN (h₀:=s.heap) ⟨SJ I.kIn hl,fun _ _ e=>e⟩ ?_;rw[uj];exact⟨.bl _,H,I.tok _,rfl,q⟩
theorem y8(ht:pz X.K X.mg x B)(hg:Gl X x)(he:DE X e f)(hd:autoParam ((x == ("__debug__" : Str))=false) u11)(hm:autoParam (Qy .In (.Name x p)=false) u24):DE X (.Compare e [.In] [.Name x p] pos) (X1 (Jx B) f):=by
 obtain⟨a,hx,hl⟩:=ht;refine⟨?_⟩;refine bo (qU (zge hl) he.pe (jO (v:=.ref a) hg hx rfl hd) hm) fun σ H Q=>?_;rintro⟨O,ts,ρ,T,w,T',hc,re,e,q⟩;obtain⟨w1,T1,e1,e⟩:=aL e;obtain⟨x,d,h1,h3,rfl,rfl⟩:=j5 e;refine⟨O,ts,ρ,T,w1,T',hc,re,e1,fun v1 H1 s1 Xt r1=>?_⟩;have vw:=Xt.view r1 h1;unfold Jx at h3;split at h3
 .cases h3
  cases vw.str;exact⟨_,rfl,rfl,q _ H1 s1 Xt (.bl _)⟩
 .cases h3
theorem zgf(hl:OS (OR fun b=>X.K.lookup b) (fun b=>X.K.lookup b) a (dX B)=true):Jt X (fun x y H Q=>∃s p,x=.ref a/\y=.str s/\(B.find? fun p=>decide (s=p.1))=some p/\Q (.int p.2) H):=by
 intro value slice pins s σ H x y v u Q I rx ry h hs;obtain⟨z,d,rfl,rfl,hf,q⟩:=h;obtain⟨t,rfl⟩:=ry;cases rx
 have hk:RG z (dX B)=true:=by
  rw[←RR,vq,hf];rfl
 have hp:((dX B).all fun p=>T6 p.2)=true:=by
  rw[Ou];intro p hp;obtain⟨q,_,rfl⟩:=OF.mp hp;rfl
 exact Su (h₀:=s.heap) ⟨SJ I.kIn hl,fun _ _ e=>e⟩ hp hk (vp hf fun t=>⟨.int d.2,H,I.tok _,⟨t,rfl⟩,q⟩) hs
theorem y6(ht:pz X.K X.mg x B)(hg:Gl X x)(he:DE X e f)(hd:autoParam ((x == ("__debug__" : Str))=false) u11)(hs:autoParam (nR e) u25):DE X (.Subscript (.Name x p) e pos) (X1 (atT B) f):=by
 obtain⟨a,hx,hl⟩:=ht;refine⟨?_⟩;refine bo (sI (zgf hl) (jO (v:=.ref a) hg hx rfl hd) he.pe hs) fun σ H Q=>?_;rintro⟨O,ts,ρ,T,w,T',hc,re,e,q⟩;obtain⟨w1,T1,e1,e⟩:=aL e;obtain⟨x,d,h1,h3,rfl,rfl⟩:=j5 e;refine⟨O,ts,ρ,T,w1,T',hc,re,e1,fun v1 H1 s1 Xt r1=>?_⟩;have vw:=Xt.view r1 h1;unfold atT at h3;split at h3
 .obtain⟨p,hp,rfl⟩:=ON.mp h3
  cases vw.str;exact⟨_,p,rfl,rfl,hp,q _ H1 s1 Xt (.int _)⟩
 .cases h3
noncomputable def nz:List Oc->List Str->Bool
 |[],[]=>true
 |.str x _::r,y::s=>decide (x=y)&&nz r s
 |_,_=>false
noncomputable def lr(look:Addr->Option Obj)(a:Addr)(ss:List Str):Bool:=match look a with
 |some ⟨.type n,_,.seq Xr _,_⟩=>decide (n="tuple")&&nz Xr.toList ss
 |_=>false
def tD(K:Frag)(mg:Str->Option Oc)(x:Str)(ss:List Str):Prop:=∃a,mg x=some (.ref a)/\lr (fun b=>K.lookup b) a ss=true
theorem uO:∀{vs:List Oc}{ss:List Str},nz vs ss=true->Xv (ss.map V.str) vs
 |[],[],_=>.nil
 |.str x t::r,y::s,h=>by
  have h':(decide _&&nz r s)=true:=h;rw[Oj] at h';exact .cons ⟨t,by simp_all⟩ (uO h'.2)
theorem qa{K:Frag}{O:Addr->Prop}{H:Hp}:∀ss:List Str,Xs K O H (ss.map V.str) (ss.map PM)
 |[]=>.nil
 |x::r=>.cons (.str x) (qa r)
theorem qJ(hg:Gl X x)(ht:tD X.K X.mg x ss)(hz:autoParam (ss.length<=sizeLine) u11)(hd:autoParam ((x == ("__debug__" : Str))=false) u11):DE X (.Name x p) (fC (.tuple (ss.map PM))):=by
 obtain⟨a,hx,hl⟩:=ht;refine⟨?_⟩;refine bo (jO (v:=.ref a) hg hx rfl hd) (je fun O H=>?_);unfold lr at hl;split at hl
 .rename_i n dd Xr c sl hk
  rw[Oj] at hl;have rv:=uO hl.2;have hn:=of_decide_eq_true hl.1;subst hn;refine .tup  (.inr (.inr ⟨_,Xr,c,hk,rfl,rfl,?_,rv⟩)) (qa ss)
  have:=rv.length<;>simp_all
 .cases hl
noncomputable def mD:Oa->Oa->Option Oa
 |x,.list ys=>if OP x=true/\ys.all OP=true then some (.bool (!ys.any fun y=>OL y x)) else none
 |_,_=>none
theorem zgg(hr:XA k X.A):Yc X (OQ .NotIn) (fun x y H Q=>∃O d1 a vs ds,Vw X.K O H x d1/\y=.ref a/\Ye X.K H a vs/\Xs X.K O H vs ds/\OP d1=true/\ds.all OP=true/\Q (.bl (!ds.any fun y=>OL y d1)) H):=by
 intro pins s σ H x y v u Q I rx ry h;obtain⟨O,d1,a,vs,ds,h1,rfl,h2,h3,s1,s2,q⟩:=h;cases ry;obtain⟨as,r1⟩:=h1.reads I rx;obtain⟨Xr,rv,p1,_⟩:=I.list h2;obtain⟨bs,r2,_⟩:=h3.reads I rv;refine U6 (jv s.heap d1) p1.isList (fun y hy=>?_) ?_
 .obtain⟨d,cs,hd,rd⟩:=readsAll_mem r2 (by simpa using hy)
  rw[rm rd];have sd:=Ou.mp s2 d hd;refine Ti d d1 _ s y v _ _ rd r1 (Q4 sd) (Q4 s1) (UE sd ?_)
  have:=hr.un<;>grind
 .have e:Xr.toArray.any (jv s.heap d1)=ds.any fun y=>OL y d1:=by
   rw[←qF r2];simp
  rw[e];exact⟨.bl _,H,I,rfl,q⟩
theorem zgh(hr:XA k X.A):YL X (OQ .NotIn) mD:=⟨_,zgg hr,fun O ts H T v1 v2 x y d Q hc h1 h2 e q=>by
 unfold mD at e;split at e
 .split at e
  .rename_i h
   cases e;obtain⟨a,vs,rfl,t,r⟩:=h2.lst;exact⟨O,x,a,vs,_,h1,rfl,t,r,h.1,h.2,q _ H (.refl _ _) hc (.bl _)⟩
  .cases e
 .cases e⟩
noncomputable def oV(a:Addr)(o:Obj)(B:List (Str×Int)):Bool:=OS (OR fun _=>none) (fun _=>some o) a (dX B)
theorem uU{g g':Addr->Option Obj}:∀(es:List Tf) (B:List (Str×Int)),PK (OR g) es (dX B)=PK (OR g') es (dX B)
 |[],[]=>rfl
 |[],(_,_)::_=>rfl
 |_::_,[]=>rfl
 |e::es,(x,i)::B=>by
  have ih:=uU (g:=g) (g':=g') es B;unfold dX at ih ⊢;rw[OU];unfold PK;rw[ih];rfl
theorem uN{K:Frag}(h:K.lookup a=some o)(g:oV a o B=true):OS (OR fun b=>K.lookup b) (fun b=>K.lookup b) a (dX B)=true:=by
 unfold oV OS at g;unfold OS;dsimp only at g ⊢;rw[h];rw[←g];dsimp only
 cases o.data <;> first|rfl|(dsimp only;rw[uU (g':=fun _=>none)])
noncomputable def sW(o:Obj)(ss:List Str):Bool:=lr (fun _=>some o) 0 ss
theorem uM{K:Frag}(h:K.lookup a=some o)(g:sW o ss=true):lr (fun b=>K.lookup b) a ss=true:=by
 unfold lr;dsimp only;rw[h];exact g
end
mutual
def bq:Oa->Bool
 |.tuple ds=>bS ds
 |.list _=>false
 |.dict _=>false
 |_=>true
def bS:List Oa->Bool
 |[]=>true
 |d::r=>bq d&&bS r
end
section
variable {K:Frag}{O:Addr->Prop}{H:Hp}
theorem TupAt.own(hm:∀b,O b->Y9 (H b))(t:TupAt K (fun _=>False) H a vs):TupAt K O H a vs:=by
 rcases t with⟨_,t⟩|t
 .refine .inl ⟨fun z=>?_,t⟩
  rcases hm a z with⟨us,e⟩|⟨us,e⟩|⟨C,dx,us,e⟩ <;> rcases t with t|⟨o,t⟩ <;> (simp_all)
 .exact .inr t
mutual
theorem Rep.own(hm:∀b,O b->Y9 (H b)):∀{v:V}{d:Oa},Rep K (fun _=>False) H v d->bq d=true->Rep K O H v d
 |_,_,.non,_=>.non
 |_,_,.bl b,_=>.bl b
 |_,_,.int i,_=>.int i
 |_,_,.str x,_=>.str x
 |_,_,.tup t r,h=>.tup (t.own hm) (Xs.own hm r (by simpa[bq] using h))
 |_,_,.lst t r,h=>by simp[bq] at h
 |_,_,.dct n t r,h=>by simp[bq] at h
theorem Xs.own(hm:∀b,O b->Y9 (H b)):∀{vs:List V}{ds:List Oa},Xs K (fun _=>False) H vs ds->bS ds=true->Xs K O H vs ds
 |_,_,.nil,_=>.nil
 |_,_,.cons (d:=d) (ds:=ds) r t,h=>by
  have h':(bq d&&bS ds)=true:=by simpa[bS] using h
  rw[Oj] at h';exact .cons (Rep.own hm r h'.1) (Xs.own hm t h'.2)
end
end
noncomputable def mB:List W->Bool
 |[]=>true
 |.tp _::_=>false
 |.loc (.dict _)::_=>false
 |_::r=>mB r
theorem ti{K:Frag}{O:Addr->Prop}{ts:List Addr}{H:Hp}:∀{vs:List V}{ws:List W},gU K O ts H vs ws->mB ws=true->gU K (fun _=>False) [] H vs (ws.map kI)
 |_,[],.nil,_=>.nil
 |_,.d x::r,.cons h t,e=>.cons (Rep.mono (fun a o n e=>⟨fun z=>z,e⟩) h) (ti t e)
 |_,.tp _::_,.cons _ _,e=>by cases e
 |_,.loc x::r,.cons h t,e=>by
  have le:Le O H _ H:=fun a o n e=>⟨fun z=>z,e⟩;obtain⟨a,rfl,_,_,h3⟩:=h
  cases x with
  |list xs=>obtain⟨vs,h1,h2⟩:=h3;exact .cons (.lst (.inl ⟨fun z=>z,.inl h1⟩) (h2.mono le)) (ti t e)
  |dict xs=>cases e
  |_=>cases h3
noncomputable def dw(m:XB)(g:FA):FE:=fun ρ T=>Xy (g ρ T) fun ws T1=>if mB ws=true then (match m (ws.map kI) [] with
 |some (x,_)=>if bq x=true then some (.d x,T1) else none
 | none=>none) else none
theorem i5(F:Fn X.prog X.w X.K X.mg X.base name ps k (XF X.K ps.length m))(hr:XA k X.A)(hg:Gl X name)(ha:DA X (e::es) g)(hl:fT g ps.length)(Yk:autoParam ((name == ("__debug__" : Str))=false) u11)
  (he:autoParam (Ol (e::es) X.env=(false,eval e X.env)::Ol es X.env) u12) (X7:autoParam ((Pe pos (Ol es X.env)).any (·.1)=false) u13):DE X (.Call (.Name name p) (e::es) [] pos) (dw m g):=by
 refine⟨?_⟩;refine bo (gQ F hr hg ha.pe Yk he X7) fun σ H Q=>?_;rintro⟨O,ts,ρ,T,w,T',hc,re,e,q⟩;obtain⟨ws,T1,e1,e⟩:=aL e;split at e
 .rename_i hn
  split at e
  .rename_i x T2 e2
   split at e
   .rename_i hx
    cases e;refine⟨O,ts,ρ,T,ws,_,hc,re,e1,fun vs H1 s1 Xt r1=>?_⟩;refine⟨fun _=>False,[],[],ws.map kI,x,T2,⟨fun b hb=>(by simp_all),fun b hb=>hb.elim,SK,rfl,fun i a xs e1 _=>by simp at e1⟩,by rw[PF];exact ti r1 hn,by rw[OW];exact hl _ _ _ _ e1,e2,fun v H2 s2 XC r2=>?_⟩;have Ay:Xx ts H1 H2:=fun b o _ q=>s2 b o (by simp) q
    have hm:=fun b hb=>by
     exact(Xt.trk b hb).to fun u z=>s2 b _ (by simp) z
    have As:=Xt.step Ay fun b hb=>by
     obtain⟨u,z⟩:=(Xt.trk b (Xt.own b hb)).ex;rw[z];exact s2 b _ (by simp) z
    exact q v H2 (s1.trans Ay) As (Rep.own hm r2 hx)
   .cases e
  .cases e
 .cases e
noncomputable def dj(ds:List (Oa×Oa))(s:Str):Option PyData:=match ds with
 |[]=>none
 |(.str k,d)::r=>if k=s then some d else dj r s
 |_::r=>dj r s
theorem lh{K:Frag}{O:Addr->Prop}{H:Hp}{s:Str}:∀{kvs:List (Key×V)}{ds:List (Oa×Oa)},XX K O H kvs ds->(dj ds s=none/\cD kvs (Qc s:Key)=none)\/∃v d,dj ds s=some d/\cD kvs (Qc s:Key)=some v/\Rep K O H v d
 |_,_,.nil=>.inl ⟨rfl,rfl⟩
 |_,_,.cons (k:=.inl i) (v:=v)  (kvs:=kvs) (ds:=ds) r t=>by
  have e:cD (((Vc i),v)::kvs) (Qc s)=cD kvs (Qc s):=rfl;rw[e];show (dj ds s=none/\_)\/∃v d,dj ds s=some d/\_;exact lh  t
 |_,_,.cons (k:=.inr k) (v:=v) (d:=d) (kvs:=kvs) (ds:=ds) r t=>by
  by_cases hk:k=s
  .subst hk
   exact .inr ⟨v,d,by show (if k=k then some d else dj ds k)=some d<;>simp_all,by simp[cD],r⟩
  .have e:cD (((Qc k),v)::kvs) (Qc s)=cD kvs (Qc s):=by simp[cD,hk]
   have e2:dj ((X2 (Qc k),d)::ds) s=dj ds s:=by show (if k=s then some d else dj ds s)=_<;>simp_all
   rw[e,e2];exact lh  t
theorem Zp.rd{H:Hp}{a:Addr}{kvs:List (Key×V)}{k:Key}(e:Rd H a (.dK kvs)):Zp H a (kV k) (cD kvs k):=.inl ⟨kvs,k,e,rfl,rfl⟩
noncomputable def kn:Oa->Oa->Option Oa
 |.str s,.dict ds=>some (.bool (dj ds s).isSome)
 |_,_=>none
noncomputable def cC:Oa->Oa->Option Oa
 |.dict ds,.str s=>dj ds s
 |_,_=>none
section
variable {X:Cx}{pos:Pos}{k:Nat}{K:Frag}{O₀:Addr->Prop}{H₀:Hp}{F:List ((Addr->Prop)×Hp)}{ts:List Addr}{O:Addr->Prop}{H H1:Hp}{σ:L2.St}{ρ:Xw}{T T1:Tp}
theorem sP(hr:XA k A):A.units+1<cLine:=by have:=hr.un;lia
theorem zgi(hr:XA k X.A)(ha:DE X a f)(hb:DE X b g)(h1:autoParam (Qy .In b=false) u24):DT X (.Compare a [.In] [b] pos) (aw (af kn f g)):=by
 refine⟨?_⟩;refine lK (zap (zdw (sP hr) ha.pe hb.pe) h1) fun σ H Q h=>?_;have h:=qM h;revert h;rintro⟨O,ts,ρ,T,w,T',hc,re,e,q⟩;obtain⟨w1,T1,e1,e⟩:=aL e;obtain⟨w2,T2,e2,e⟩:=aL e;obtain⟨x,y,d,h1,h2,h3,rfl,rfl⟩:=gI e;refine⟨O,ts,ρ,T,w1,T1,hc,re,e1,fun v1 H1 s1 Xt r1=>?_⟩;refine⟨O,ts,ρ,T1,w2,T',Xt,re.mono hc s1,e2,fun v2 H2 s2 XC r2=>?_⟩;have k1:=XC.view (r1.mono Xt s2) h1;have k2:=XC.view r2 h2;unfold kn at h3;split at h3
 .rename_i s ds
  cases h3;cases k1.str;obtain⟨a,kvs,rfl,t,r⟩:=k2.dct;refine⟨a,_,rfl,Zp.rd (k:=Qc s) t,?_⟩
  have e:(cD kvs (Qc s)).isSome=(dj ds s).isSome:=by
   rcases lh  r with⟨z1,z2⟩|⟨v,d,z1,z2,_⟩ <;> rw[z1,z2] <;> rfl
  rw[e];exact q _ H2 (s1.trans s2) XC (.bl _)
 .cases h3
theorem gK(hr:XA k X.A)(ha:DE X a f)(hb:DE X b g)(hs:autoParam (tG b) u25):DE X (.Subscript a b pos) (af cC f g):=by
 refine⟨?_⟩;refine bo (zdv (sP hr) ha.pe hb.pe hs) fun σ H Q=>?_;rintro⟨O,ts,ρ,T,w,T',hc,re,e,q⟩;obtain⟨w1,T1,e1,e⟩:=aL e;obtain⟨w2,T2,e2,e⟩:=aL e;obtain⟨x,y,d,h1,h2,h3,rfl,rfl⟩:=gI e;refine⟨O,ts,ρ,T,w1,T1,hc,re,e1,fun v1 H1 s1 Xt r1=>?_⟩;refine⟨O,ts,ρ,T1,w2,T',Xt,re.mono hc s1,e2,fun v2 H2 s2 XC r2=>?_⟩;have k1:=XC.view (r1.mono Xt s2) h1;have k2:=XC.view r2 h2;unfold cC at h3;split at h3
 .rename_i ds s
  cases k2.str;obtain⟨a,kvs,rfl,t,r⟩:=k1.dct
  rcases lh (s:=s) r with⟨z1,z2⟩|⟨v,d',z1,z2,rv⟩
  .simp_all
  .rw[z1] at h3
   cases h3;exact⟨a,v,rfl,by rw[←z2];exact Zp.rd (k:=Qc s) t,q v H2 (s1.trans s2) XC rv⟩
 .cases h3
theorem RS.lay(r:RS K O₀ H₀ F ts O H σ ρ T)(hp:H p=none)(hm:Y9 (some o)):RS K O₀ H₀ F ts (fun b=>O b\/b=p) (upd H p o) σ ρ T:=by
 have le:Le O H (fun b=>O b\/b=p) (upd H p o):=fun a o n e=>by
  have z:=bF e hp;exact⟨fun q=>q.elim n z,by rw[aK z];exact e⟩
 refine⟨⟨fun b hb=>.inl (r.hc.own b hb),fun b hb=>?_,r.hc.nd,r.hc.len,fun j a ys e1 e2=>?_⟩,fun j w e=>?_,fun b hb=>.inl (r.sub b hb),r.ots,r.same.trans (.new hp _),r.fresh,r.dist,fun f hf=>(r.frs f hf).trans le,r.len⟩
 .by_cases z:b=p
  .subst z;rw[bj];exact hm
  .rw[aK z]
   exact r.hc.trk b (hb.resolve_right z)
 .exact(r.hc.tape j a ys e1 e2).mono (fun o' h1=>by rw[aK (bF h1 hp)];exact h1) le
 .obtain⟨x,h1,h2⟩:=r.re j w e
  refine⟨x,h1,?_⟩
  cases w with
  |d x=>exact Rep.mono le h2
  |tp k=>exact h2
  |loc ys=>
   obtain⟨a,e1,h1,h2,h3⟩:=h2;exact⟨a,e1,.inl h1,h2,h3.mono (fun o' q=>by rw[aK (bF q hp)];exact q) le⟩
theorem RS.take(r:RS K O₀ H₀ F ts O H σ ρ T)(oa:O p)(nt:p∉ts)(h0:H₀ p=none/\¬O₀ p)(nh:∀(j:Nat) (ys:Oa),ρ[j]? = some (some (W.loc ys))->σ[j]? = some (some (V.ref p))->False)(hm:Y9 (some o))(rv:Le O H O (upd H p o)->Yf K O (upd H p o) p y) :
  RS K O₀ H₀ F ts O (upd H p o) (σ.set i (some (.ref p))) (ρ.set i (some (.loc y))) T:=by
 have le:Le O H O (upd H p o):=fun b o n e=>⟨n,by rw[aK (show b≠p from fun z=>n (by simp_all))];exact e⟩;refine⟨⟨r.hc.own,fun b hb=>?_,r.hc.nd,r.hc.len,fun j a ys e1 e2=>?_⟩,fun j w e=>?_,r.sub,r.ots,fun b o n e=>?_,fun j ys a e1 e2=>?_,fun j k ys zs v e1 e2 e3 e4=>?_,fun f hf=>(r.frs f hf).trans le,by simp[r.len]⟩
 .by_cases z:b=p
  .subst z;rw[bj];exact hm
  .rw[aK z];exact r.hc.trk b hb
 .exact(r.hc.tape j a ys e1 e2).mono (fun o' h1=>by rw[aK (show a≠p from fun z=>nt (by rw[←z];exact OA e1))];exact h1) le
 .by_cases z:i=j
  .subst z
   have hl:i<ρ.length:=by
    have:=(Od.mp e).1;simpa using this
   rw[Oq hl] at e;cases e;exact⟨.ref p,by rw[Oq (by rw[r.len];exact hl)],p,rfl,oa,nt,rv le⟩
  .rw[On z] at e
   obtain⟨x,h1,h2⟩:=r.re j w e;refine⟨x,by rw[On z];exact h1,?_⟩
   cases w with
   |d x=>exact Rep.mono le h2
   |tp k=>exact h2
   |loc zs=>
    obtain⟨b,eb,k1,k2,k3⟩:=h2;have n:b≠p:=fun q=>nh j zs e (by rw[h1,eb,q]);exact⟨b,eb,k1,k2,k3.mono (fun o' q=>by rw[aK n];exact q) le⟩
 .have:=r.same b o n e
  rw[aK (show b≠p from fun z=>by rw[z,h0.1] at e;cases e)];exact this
 .by_cases z:i=j
  .subst z
   have hl:i<ρ.length:=by
    have:=(Od.mp e1).1;simpa using this
   rw[Oq (by rw[r.len];exact hl)] at e2;cases e2;exact h0
  .rw[On z] at e1 e2
   exact r.fresh j ys a e1 e2
 .by_cases z:i=j
  .by_cases z':i=k
   .rw[←z,←z']
   .exfalso
    subst z
    have hl:i<ρ.length:=by
     have:=(Od.mp e1).1;simpa using this
    rw[Oq (by rw[r.len];exact hl)] at e3;cases e3;rw[On z'] at e2 e4;exact nh k zs e2 e4
  .by_cases z':i=k
   .exfalso
    subst z'
    have hl:i<ρ.length:=by
     have:=(Od.mp e2).1;simpa using this
    rw[Oq (by rw[r.len];exact hl)] at e4;cases e4;rw[On z] at e1 e3;exact nh j ys e1 e3
   .rw[On z] at e1 e3
    rw[On z'] at e2 e4;exact r.dist j k ys zs v e1 e2 e3 e4
noncomputable def eZ(i:Nat)(k1 k2:Str)(f g:FE):FS:=fun ρ T=>Xy (f ρ T) fun w1 T1=>Xy (g ρ T1) fun w2 T2=>match w1,w2 with
 |.d x,.d y=>if k1=k2 then none else some ((.nx,ρ.set i (some (.loc (.dict [(.str k1,x),(.str k2,y)])))),T2)
 |_,_=>none
theorem nK{j1 j2}(hN:X.N.Nodup)(he1:DE X e1 f)(he2:DE X e2 g)(hi:autoParam (X.N[i]? = some x) u10)(hx:autoParam (Loc X.env.scope x) u18)
  (hs:autoParam (PB (.Dict [some (.Constant (.str k1) j1 CA),some (.Constant (.str k2) j2 Cz)] [e1,e2] C9) (some (.Name x pos')) pos.line X.env=pure false) u10) (hf:autoParam (X.fn x=true\/X.env.scope.names.lookup x=some .local) u15) :
  DS X (.Assign [.Name x pos'] (.Dict [some (.Constant (.str k1) j1 CA),some (.Constant (.str k2) j2 Cz)] [e1,e2] C9) pos) (eZ i k1 k2 f g):=by
 refine⟨?_⟩;refine dG (da hN hi hx (zea (wb rT he1.pe (wb rT he2.pe zdz)) rfl rfl (by simp) (by simp)) hs hf) fun D σ H=>?_;rintro⟨O₀,H₀,F,ts,O,ρ,T,fl,ρ',T',rs,e,q⟩;obtain⟨w1,T1,z1,e⟩:=aL e;obtain⟨w2,T2,z2,e⟩:=aL e
 obtain⟨x1,rfl⟩:∃x,w1=.d x:=by
  cases w1 with
  |d x=>exact⟨x,rfl⟩
  |tp k=>cases e
  |loc k=>cases e
 obtain⟨y1,rfl⟩:∃x,w2=.d x:=by
  cases w2 with
  |d x=>exact⟨x,rfl⟩
  |tp k=>cases e
  |loc k=>cases e
 intro p hp;have nO:=rs.hc.fresh hp;have nt:p∉ts:=fun z=>nO (rs.hc.own p z)
 have h00:H₀ p=none:=by
  cases e:H₀ p with
  |none=>rfl
  |some o=>rw[rs.same p o nt e] at hp;cases hp
 have h0:H₀ p=none/\¬O₀ p:=⟨h00,fun z=>nO (rs.sub p z)⟩
 have nh:∀(j:Nat) (ys:Oa),ρ[j]? = some (some (W.loc ys))->σ[j]? = some (some (V.ref p))->False:=fun j ys q1 q2=>by
  obtain⟨v,h1,a,ea,h2,h3,h4⟩:=rs.re j _ q1;rw[q2] at h1;cases h1;cases ea;obtain⟨o',h5⟩:=h4.some;rw[hp] at h5;cases h5
 have DZ:=rs.lay (o:=.dK []) hp (.inr (.inl ⟨_,rfl⟩));refine⟨_,ts,ρ,T,_,T1,DZ.hc,DZ.re,z1,fun v1 H1 s1 Xt r1=>?_⟩;have YI:=DZ.step s1 Xt;refine⟨_,ts,ρ,T1,_,T2,YI.hc,YI.re,z2,fun v2 H2 s2 XC r2=>?_⟩;have ZV:=YI.step s2 XC
 by_cases ZA:k1=k2
 .have e':(if k1=k2 then none else some ((Fl.nx,ρ.set i (some (.loc (.dict [(.str k1,x1),(.str k2,y1)])))),T2))=some ((fl,ρ'),T'):=e
  rw[if_pos ZA] at e';cases e'
 have e':(if k1=k2 then none else some ((Fl.nx,ρ.set i (some (.loc (.dict [(.str k1,x1),(.str k2,y1)])))),T2))=some ((fl,ρ'),T'):=e;rw[if_neg ZA] at e';cases e';have Jj:H2 p=some (.dK []):=s2 p _ nt (s1 p _ nt bj);refine⟨Jj,[(.inr k1,v1),(.inr k2,v2)],rfl,by simp,?_⟩
 have hm:jd [] [((Qc k1:Key),v1),((Qc k2:Key),v2)]=[(.inr k1,v1),(.inr k2,v2)]:=by
  simp[jd,putK,ZA]
 rw[hm];have JB:Rep X.K (fun b=>O b\/b=p) H2 v1 x1:=Yz.mono (w:=.d x1) r1 Xt s2;exact q _ _ _ (ZV.take (.inr rfl) nt h0 nh (.inr (.inl ⟨_,rfl⟩)) fun le=>⟨_,bj,.cons (k:=.inr k1) (Rep.mono le JB) (.cons (k:=.inr k2) (Rep.mono le r2) .nil)⟩)
noncomputable def iz(ds:List (Oa×Oa))(s:Str)(x:Oa):List (Oa×Oa):=match ds with
 |[]=>[]
 |(.str k,d)::r=>if k=s then (.str k,x)::iz r s x else (.str k,d)::iz r s x
 |p::r=>p::iz r s x
theorem qc(rx:Rep K O H v x):∀{kvs:List (Key×V)}{ds:List (Oa×Oa)},XX K O H kvs ds->XX K O H (kvs.map fun kv=>if kv.1=(Qc s:Key) then (kv.1,v) else kv) (iz ds s x)
 |_,_,.nil=>.nil
 |_,_,.cons (k:=.inl i) r t=>by
  exact .cons  r (qc rx t)
 |_,_,.cons (k:=.inr k)    (ds:=ds) r t=>by
  rw[OU];have ih:=qc (s:=s) rx t;show XX K O H _ (if k=s then _::iz ds s x else _::iz ds s x)
  by_cases hk:k=s
  .rw[if_pos hk,if_pos (by rw[hk])]
   exact .cons  rx ih
  .rw[if_neg hk,if_neg (fun z=>hk (Sum.inr.inj z))]
   exact .cons  r ih
noncomputable def ko(i:Nat)(fk fv:FE):FS:=fun ρ T=>Xy (fv ρ T) fun w T1=>match ρ[i]? with
 |some (some (.loc (.dict ds)))=>Xy (fk ρ T1) fun k T3=>match w,k with
  |.d x,.d (.str s)=>if (dj ds s).isSome=true/\ds.length<=1000 then some ((.nx,ρ.set i (some (.loc (.dict (iz ds s x))))),T3) else none
  |_,_=>none
 |_=>none
theorem v7:∀{kvs:List (Key×V)}{ds:List (Oa×Oa)},XX K O H kvs ds->kvs.length=ds.length
 |_,_,.nil=>rfl
 |_,_,.cons _ t=>congrArg _ (v7 t)
theorem zgj{kvs:List (Key×V)}{k:Key}(h:(cD kvs k).isSome=true):(kvs.any fun kv=>decide (kv.1=k))=true:=by unfold cD at h<;>simp_all
theorem xS(hr:XA k X.A)(hk:DE X kx fk)(he:DE X e fv)(hN:autoParam (X.N[i]? = some x) u10)(hv:autoParam (A0 X.env.scope x) u20)(hd:autoParam ((x == ("__debug__" : Str))=false) u11)
  (hcd:autoParam ((x == ("__classdict__" : Str))=false) u11) (hs:autoParam (PB e (some (.Subscript (.Name x p) kx pos')) pos.line X.env=pure false) u10):DS X (.Assign [.Subscript (.Name x p) kx pos'] e pos) (ko i fk fv):=by
 refine⟨?_⟩;refine dG (zdx (sP hr) (pv i hN hv hd hcd) hk.pe he.pe hs) fun D σ H=>?_;rintro⟨O₀,H₀,F,ts,O,ρ,T,fl,ρ',T',rs,e,q⟩;obtain⟨w,T1,e1,e⟩:=aL e;refine⟨O,ts,ρ,T,w,T1,rs.hc,rs.re,e1,fun v H1 s1 Xt r1=>?_⟩;have YI:=rs.step s1 Xt;split at e
 .rename_i ds c3
  obtain⟨wk,T3,e3,e⟩:=aL e;split at e
  .rename_i xv s _
   split at e
   .rename_i GA
    cases e;obtain⟨c1,c2⟩:=GA;obtain⟨u,k1,a,rfl,k2,k3,kvs,k4,k5⟩:=YI.re i _ c3;refine⟨_,k1,O,ts,ρ,T1,_,_,YI.hc,YI.re,e3,fun y H3 s3 Yj r3=>?_⟩;have ZU:=YI.step s3 Yj;cases (show Rep X.K O H3 y (.str s) from r3);have k4':H3 a=some (.dK kvs):=s3 _ _ k3 k4;have Gd:XX X.K O H3 kvs ds:=k5.mono (Xt.le s3)
    have Az:(kvs.any fun kv=>decide (kv.1=(Qc s:Key)))=true:=zgj (by
     rcases lh (s:=s) Gd with⟨z1,z2⟩|⟨v',d',z1,z2,_⟩
     .rw[z1] at c1;cases c1
     .rw[z2];rfl)
    have B0:putK kvs (Qc s:Key) v=kvs.map (fun kv=>if kv.1=(Qc s:Key) then (kv.1,v) else kv):=by
     unfold putK;rw[if_pos Az]
    have XI:kvs.length<sizeLine:=by
     rw[v7 Gd];exact Pk c2 (by decide)
    have rx:Rep X.K O H3 v xv:=Yz.mono (w:=.d xv) r1 Xt s3;refine⟨a,_,rfl,Dk.k (k:=(Qc s:Key)) k4' XI,?_⟩;rw[B0];exact q O σ _ (ZU.putO c3 k1 (.inr (.inl ⟨_,rfl⟩)) fun le=>⟨_,bj,qc (Rep.mono le rx) (Gd.mono le)⟩)
   .cases e
  .cases e
 .cases e
end
noncomputable def eY(B:List (Str×Str)):List (Str×UF):=B.map fun p=>(p.1,.flat (.str p.2))
def Ao(K:Frag)(mg:Str->Option Oc)(x:Str)(B:List (Str×Str)):Prop:=∃a,mg x=some (.ref a)/\OS (OR fun b=>K.lookup b) (fun b=>K.lookup b) a (eY B)=true
noncomputable def atS(B:List (Str×Str)):Oa->Option Oa
 |.str s=>(B.find? fun p=>decide (s=p.1)).map fun p=>.str p.2
 |_=>none
theorem uu(s:Str):∀B:List (Str×Str),QQ s (eY B)=(B.find? fun p=>decide (s=p.1)).map fun p=>.flat (.str p.2)
 |[]=>rfl
 |(x,d)::B=>by
  show (if decide (s=x)=true then some _ else QQ s (eY B))=_;rw[uu s B,PH]
  cases decide (s=x) <;> rfl
section
variable {X:Cx}{pos:Pos}{e:Expr}{f:FE}{x:Str}{p:Pos}{B:List (Str×Str)}
theorem ut:∀{B:List (Str×Str)}{d:Str×Str},(B.find? fun p=>decide (s=p.1))=some d->(∀t,P (.str d.2 t))->TZ h s P (eY B)
 |[],d,e,_=>by simp_all
 |(x,i)::B,d,e,hp=>by
  rw[PH] at e
  by_cases hx:s=x
  .have:=decide_eq_true hx
   simp only[this] at e;cases e;exact SI hx (V9 hp)
  .have:=decide_eq_false hx
   simp only[this] at e;exact Ss hx (ut e hp)
theorem zgk(hl:OS (OR fun b=>X.K.lookup b) (fun b=>X.K.lookup b) a (eY B)=true):Jt X (fun x y H Q=>∃s p,x=.ref a/\y=.str s/\(B.find? fun p=>decide (s=p.1))=some p/\Q (.str p.2) H):=by
 intro value slice pins s σ H x y v u Q I rx ry h hs;obtain⟨z,d,rfl,rfl,hf,q⟩:=h;obtain⟨t,rfl⟩:=ry;cases rx
 have hk:RG z (eY B)=true:=by
  rw[←RR,uu,hf];rfl
 have hp:((eY B).all fun p=>T6 p.2)=true:=by
  rw[Ou];intro p hp;obtain⟨q,_,rfl⟩:=OF.mp hp;rfl
 exact Su  ⟨SJ I.kIn hl,fun _ _ e=>e⟩ hp hk (ut hf fun t=>⟨.str d.2,H,I.tok _,⟨t,rfl⟩,q⟩) hs
theorem zgl(ht:Ao X.K X.mg x B)(hg:Gl X x)(he:DE X e f)(hd:autoParam ((x == ("__debug__" : Str))=false) u11)(hs:autoParam (nR e) u25):DE X (.Subscript (.Name x p) e pos) (X1 (atS B) f):=by
 obtain⟨a,hx,hl⟩:=ht;refine⟨?_⟩;refine bo (sI (zgk hl) (jO (v:=.ref a) hg hx rfl hd) he.pe hs) fun σ H Q=>?_;rintro⟨O,ts,ρ,T,w,T',hc,re,e,q⟩;obtain⟨w1,T1,e1,e⟩:=aL e;obtain⟨x,d,h1,h3,rfl,rfl⟩:=j5 e;refine⟨O,ts,ρ,T,w1,T',hc,re,e1,fun v1 H1 s1 Xt r1=>?_⟩;have vw:=Xt.view r1 h1;unfold atS at h3;split at h3
 .obtain⟨p,hp,rfl⟩:=ON.mp h3
  cases vw.str;exact⟨_,p,rfl,rfl,hp,q _ H1 s1 Xt (.str _)⟩
 .cases h3
noncomputable def sD(a:Addr)(o:Obj)(B:List (Str×Str)):Bool:=OS (OR fun _=>none) (fun _=>some o) a (eY B)
theorem ub:∀(es:List Tf) (B:List (Str×Str)),PK (OR g) es (eY B)=PK (OR g') es (eY B)
 |[],[]=>rfl
 |[],_::_=>rfl
 |_::_,[]=>rfl
 |e::es,_::B=>by
  have ih:=ub (g:=g) (g':=g') es B;unfold eY at ih ⊢;rw[OU];unfold PK;rw[ih];rfl
theorem zgm{K:Frag}(h:K.lookup a=some o)(g:sD a o B=true):OS (OR fun b=>K.lookup b) (fun b=>K.lookup b) a (eY B)=true:=by
 unfold sD OS at g;unfold OS;dsimp only at g ⊢;rw[h];rw[←g];dsimp only
 cases o.data <;> first|rfl|(dsimp only;rw[ub ])
end
noncomputable def fF(f:Str):List Oa->Option Oa
 |.tuple [.str g,y]::r=>if g=f then some y else fF f r
 |_=>none
noncomputable def gu(f:Str)(y:Oa):List Oa->List Oa
 |.tuple [.str g,z]::r=>if g=f then .tuple [.str g,y]::r else .tuple [.str g,z]::gu f y r
 |_=>[.tuple [.str f,y]]
noncomputable def iI(C:Addr):List Oa->Option (List Oa)
 |.dict [(.none,.int c)]::ps=>if c=(C:Int) then some ps else none
 |_=>none
noncomputable def fE(C:Addr)(T:Tp)(n:Nat):Option (List Oa):=(T[n]?).bind (iI C)
section
variable {K:Frag}{O:Addr->Prop}{ts:List Addr}{H H':Hp}{T:Tp}{n:Nat}{a C:Addr}{ps:List Oa}{X:Cx}{o e:Expr}{f m:Str}{pos pos' apos:Pos}{fo fe:FE}
theorem zgn(h:iI C xs=some ps):xs=cQ C::ps:=by
 unfold iI at h;split at h
 .split at h
  .rename_i hc
   cases h;rw[hc];rfl
  .cases h
 .cases h
theorem zgo(h:fE C T n=some ps):T[n]? = some (cQ C::ps):=by
 unfold fE at h
 cases hT:T[n]? with
 |none=>simp_all
 |some xs=>
  rw[hT] at h;have h':iI C xs=some ps:=h;rw[zgn h']
theorem HC.obj(c:HC K O ts H T)(e:ts[n]? = some a)(h:fE C T n=some ps):∃dx fs fd,H a=some (.ins C dx fs)/\ps=fd.map pairF/\YM K O H fs fd:=by
 rcases c.tape n a _ e (zgo h) with⟨no,_⟩|⟨C',dx,fs,fd,h1,h2,h3⟩
 .cases no
 .injection h2 with e1 e2
  have e3:(C:Int)=(C':Int):=by
   have z:PyData.dict [(.none,.int (C:Int))]=.dict [(.none,.int (C':Int))]:=e1
   injection z with z
   injection z with z _
   injection z with _ z
   injection z
  have e4:C=C':=by exact Int.ofNat.inj e3
  subst e4;exact⟨dx,fs,fd,h1,e2,h3⟩
theorem YM.look(r:YM K O H fs fd):(fF f (fd.map pairF)=none/\fs.lookup f=none)\/∃v y,fF f (fd.map pairF)=some y/\fs.lookup f=some v/\Rep K O H v y:=by
 induction r with
 |nil=>exact .inl ⟨rfl,rfl⟩
 |cons r _ ih=>
  rename_i g v d vs ds _
  by_cases hg:g=f
  .subst hg
   refine .inr ⟨v,d,?_,?_,r⟩
   .show (if g=g then some d else _)=_
    rw[if_pos rfl]
   .rw[QX,beq_self_eq_true]
  .have e1:fF f (((g,d)::ds).map pairF)=fF f (ds.map pairF):=if_neg hg
   have e2:VU f ((g,v)::vs)=VU f vs:=by grind
   rw[e1,e2];exact ih
noncomputable def jj(f:Str)(y:Oa):List (Str×Oa)->List (Str×Oa)
 |[]=>[(f,y)]
 |(g,x)::r=>if g=f then (g,y)::r else (g,x)::jj f y r
theorem YM.put(ry:Rep K O H v y)(r:YM K O H fs fd):YM K O H (du f v fs) (jj f y fd):=by
 induction r with
 |nil=>exact .cons ry .nil
 |cons r t ih=>
  rename_i g v' d vs ds;unfold du jj
  by_cases hg:g=f
  .rw[if_pos hg,if_pos hg]
   exact .cons ry t
  .rw[if_neg hg,if_neg hg]
   exact .cons r ih
theorem wa:∀fd:List (Str×Oa),gu f y (fd.map pairF)=(jj f y fd).map pairF
 |[]=>rfl
 |(g,x)::r=>by
  have e:gu f y (((g,x)::r).map pairF)=if g=f then .tuple [.str g,y]::r.map pairF else .tuple [.str g,x]::gu f y (r.map pairF):=rfl
  have e':jj f y ((g,x)::r)=if g=f then (g,y)::r else (g,x)::jj f y r:=rfl
  rw[e,e',wa r]
  by_cases hg:g=f
  .rw[if_pos hg,if_pos hg];rfl
  .rw[if_neg hg,if_neg hg];rfl
noncomputable def gY(C:Addr)(f:Str)(w:W)(T:Tp):Option (W×Tp):=match w with
 | .tp n=>(match fE C T n with
  | some ps=>(match fF f ps with
   |some y=>some (.d y,T)
   | none=>none)
  | none=>none)
 |_=>none
noncomputable def fS(C:Addr)(f:Str)(fo:FE):FE:=fun ρ T=>Xy (fo ρ T) (gY C f)
theorem gL(c:ZD X.K C)(n:X0 X.K C f)(ho:DE X o fo)(hb:autoParam (PD o f X.env (eval o X.env)=eval o X.env) u10):DE X (.Attribute o f pos) (fS C f fo):=by
 refine⟨?_⟩;refine bo (j4 ho.pe hb) fun σ H Q=>?_;rintro⟨O,ts,ρ,T,w,T',hc,re,e,q⟩;obtain⟨w1,T1,e1,e⟩:=aL e;refine⟨O,ts,ρ,T,w1,T1,hc,re,e1,fun v1 H1 s1 Xt r1=>?_⟩
 cases w1 with
 |tp k=>
  unfold gY at e;dsimp only at e;split at e
  .rename_i ps h1
   split at e
   .rename_i y h2
    cases e;obtain⟨a,k1,rfl⟩:=r1;obtain⟨dx,fs,fd,g1,g2,g3⟩:=Xt.obj k1 h1;subst g2
    rcases g3.look (f:=f) with⟨z,_⟩|⟨v,y',z1,z2,z3⟩
    .simp_all
    .rw[z1] at h2
     cases h2;exact⟨a,C,dx,fs,v,rfl,g1,c,n,z2,q v H1 s1 Xt z3⟩
   .cases e
  .cases e
 |d x=>cases e
 |loc x=>cases e
noncomputable def eG(C:Addr)(f:Str)(ρ:Xw)(w o:W)(T:Tp):Option ((Fl×Xw)×Tp):=match w,o with
 | .d y,.tp n=>(match fE C T n with
  |some ps=>if ps.length<1000 then some ((.nx,ρ),T.set n (cQ C::gu f y ps)) else none
  | none=>none)
 |_,_=>none
noncomputable def jn(C:Addr)(f:Str)(fo fe:FE):FS:=fun ρ T=>Xy (fe ρ T) fun w T1=>Xy (fo ρ T1) (eG C f ρ w)
theorem lR(c:ZD X.K C)(n:X0 X.K C f)(ho:DE X o fo)(he:DE X e fe)(hs:autoParam (PB e (some (.Attribute o f pos')) pos.line X.env=pure false) u10):DS X (.Assign [.Attribute o f pos'] e pos) (jn C f fo fe):=by
 refine⟨?_⟩;refine dG (rR ho.pe he.pe hs) fun D σ H=>?_;rintro⟨O₀,H₀,F,ts,O,ρ,T,fl,ρ',T',rs,e,q⟩;obtain⟨w,T1,e1,e⟩:=aL e;obtain⟨wo,T2,e2,e⟩:=aL e;refine⟨O,ts,ρ,T,w,T1,rs.hc,rs.re,e1,fun v H1 s1 Xt r1=>?_⟩;have YI:=rs.step s1 Xt;refine⟨O,ts,ρ,T1,wo,T2,Xt,YI.re,e2,fun vo H2 s2 XC r2=>?_⟩;have ZV:=YI.step s2 XC
 cases w with
 |tp j=>cases e
 |loc j=>cases e
 |d y=>
 cases wo with
 |d j=>cases e
 |loc j=>cases e
 |tp k=>
  unfold eG at e;dsimp only at e;split at e
  .rename_i ps h1
   split at e
   .rename_i hl
    cases e;obtain⟨a,k1,rfl⟩:=r2;obtain⟨dx,fs,fd,g1,g2,g3⟩:=XC.obj k1 h1
    have XI:fs.length=fd.length:=by
     clear g1 g2
     induction g3 with
     |nil=>rfl
     |cons _ _ ih=>simp[ih]
    refine⟨a,C,dx,fs,rfl,g1,c,n,by simp_all,?_⟩;have ry:Rep X.K O H2 v y:=Rep.mono (Xt.le s2) r1;refine q O _ _ (ZV.tapeO k1 (.inr (.inr ⟨_,_,_,rfl⟩)) fun le=>.inr ⟨C,dx,_,jj f y fd,bj,?_,(g3.mono le).put (Rep.mono le ry)⟩);rw[g2,wa]
   .cases e
  .cases e
structure Dx(P:Oz)(w:OO)(K:Frag)(mg:Str->Option Oc)(base:Heap)(C:Addr)(m:Str)(ps:List Str)(k:Nat)(sp:Sp):Prop where
 ex:∃f fd,X5 P w K mg base YT k f fd ps sp/\Binds K fd ps []/\DF K C m f
noncomputable def l9(C:Addr)(m:Str)(mm:XB)(g:FA)(ρ:Xw)(w:W)(T:Tp):Option (W×Tp):=match w with
 | .tp n=>(match fE C T n with
  |some ps=>if (fF m ps).isNone=true then Xy (g ρ T) fun ws T2=>Xy (mm (.tp n::ws) T2) fun x T3=>some (.d x,T3) else none
  | none=>none)
 |_=>none
noncomputable def dm(C:Addr)(m:Str)(mm:XB)(fo:FE)(g:FA):FE:=fun ρ T=>Xy (fo ρ T) (l9 C m mm g ρ)
variable {ps:List Str}{k:Nat}{mm:XB}{g:FA}{es:List Expr}{pl:Sem Bool}
theorem wu(hl:fT g lv)(h1:ps.length=lv+1)(h:lift X.K (dm C m mm fo g) σ H Q):sE C m (XF X.K ps.length mm) [] E0 (lift X.K fo) (sO X.K g) σ H Q:=by
 obtain⟨O,ts,ρ,T,w,T',hc,re,e,q⟩:=h;obtain⟨w1,T1,e1,e⟩:=aL e;refine⟨O,ts,ρ,T,w1,T1,hc,re,e1,fun v1 H1 s1 Xt r1=>?_⟩
 cases w1 with
 |tp n=>
  unfold l9 at e;dsimp only at e;split at e
  .rename_i qs o1
   split at e
   .rename_i hn
    obtain⟨ws,T2,e2,e⟩:=aL e;obtain⟨x,T3,e3,e⟩:=aL e;cases e;obtain⟨a,k1,rfl⟩:=r1;obtain⟨dx,fs,fd,g1,g2,g3⟩:=Xt.obj k1 o1;subst g2
    have l0:fs.lookup m=none:=by
     rcases g3.look (f:=m) with⟨_,z⟩|⟨v,y',z1,z2,z3⟩
     .exact z
     .simp_all
    refine⟨a,dx,fs,rfl,g1,l0,O,ts,ρ,T1,ws,T2,Xt,re.mono hc s1,e2,fun vs H2 s2 XC r2=>?_⟩;refine⟨O,ts,T2,.tp n::ws,x,_,XC,?_,by rw[h1,O4,hl _ _ _ _ e2],e3,fun v H3 s3 Yj r3=>q v H3 (s1.trans (s2.trans s3)) Yj r3⟩;rw[PF];exact .cons ⟨a,k1,rfl⟩ r2
   .cases e
  .cases e
 |d x=>cases e
 |loc x=>cases e
theorem jU(F:Dx X.prog X.w X.K X.mg X.base C m ps k (XF X.K ps.length mm))(c:ZD X.K C)(hr:XA k X.A)(ho:DE X o fo)(ha:DA X (e::es) g)(hl:fT g lv)(h1:autoParam (ps.length=lv+1) u10)
  (he:autoParam (Ol (e::es) X.env=(false,eval e X.env)::Ol es X.env) u12) (X7:autoParam ((Pe pos (Ol es X.env)).any (·.1)=false) u13)
  (ht:autoParam (eval (.Call (.Attribute o m apos) (e::es) [] pos) X.env=(do
   let ov ←eval o X.env
   UO apos.atName
   let (f,first) ←UP [ov] (Ta ov m pl)
   Wh pos f first (Pe pos (Ol (e::es) X.env)) (QJ pos (PN [] X.env)))) u10):DE X (.Call (.Attribute o m apos) (e::es) [] pos) (dm C m mm fo g):=by
 obtain⟨f,fd,F1,F2,F3⟩:=F.ex;refine⟨?_⟩;exact bo (qT ho.pe c F3 F1 hr F2 .nil iD ha.pe he X7 ht) fun σ H Q h=>wu hl h1 h
theorem jM(F:Dx X.prog X.w X.K X.mg X.base C m ps k (XF X.K ps.length mm))(c:ZD X.K C)(hr:XA k X.A)(ho:DE X o fo)(h1:autoParam (ps.length=1) u10)
  (ht:autoParam (eval (.Call (.Attribute o m apos) [] [] pos) X.env=(do
   let ov ←eval o X.env
   UO apos.atName
   let (f,first) ←UP [ov] (Ta ov m pl)
   Wh pos f first (Pe pos (Ol [] X.env)) (QJ pos (PN [] X.env)))) u10):DE X (.Call (.Attribute o m apos) [] [] pos) (dm C m mm fo ag):=by
 obtain⟨f,fd,F1,F2,F3⟩:=F.ex;refine⟨?_⟩
 exact bo (wd ho.pe c F3 F1 hr F2 .nil iD ht) fun σ H Q h=>by
  have:=wu (X:=X) (ps:=ps) cu h1 h;obtain⟨O,ts,ρ,T,w,T',hc,re,e,q⟩:=this;refine⟨O,ts,ρ,T,w,T',hc,re,e,fun v H1 s1 Xt r1=>?_⟩;obtain⟨a,dx,fs,ea,e1,e2,O2,ts2,ρ2,T2,ws,T3,XC,Cq,e3,q2⟩:=q v H1 s1 Xt r1;cases e3;exact⟨a,dx,fs,ea,e1,e2,q2 [] H1 (.refl _ _) XC .nil⟩
noncomputable def sS:FS:=fun _ _=>none
theorem xR{st:Stmt}:DS X st sS:=⟨fun _ _ _ _ _ _ h=>by
 obtain⟨O₀,H₀,F,ts,O,ρ,T,fl,ρ',T',rs,e,q⟩:=h
 cases e⟩
end
noncomputable def jm(T:Tp):Option (Tp×List Oa):=match T.getLast? with
 |some xs=>some (T.dropLast,xs)
 |none=>none
theorem wA(h:jm T=some (T1,ys)):T=T1++[ys]:=by
 unfold jm at h;split at h
 .rename_i xs e
  cases h
  obtain⟨zs,hl⟩:=List.getLast?_eq_some_iff.mp e<;>simp_all
 .cases h
noncomputable def j0:Xw->Bool
 |[]=>true
 |none::r=>j0 r
 |some (.d _)::r=>j0 r
 |_::_=>false
theorem jJ:∀{ρ:Xw}{j:Nat}{w:W},j0 ρ=true->ρ[j]? = some (some w)->∃x,w=.d x
 |[],_,_,_,e=>by simp at e
 |none::r,0,_,h,e=>by simp at e
 |some (.d x)::r,0,_,h,e=>by simp at e;exact⟨x,e.symm⟩
 |some (.tp _)::_,_,_,h,_=>by cases h
 |some (.loc _)::_,_,_,h,_=>by cases h
 |none::r,j+1,w,h,e=>jJ (ρ:=r) (j:=j) h (by simpa using e)
 |some (.d x)::r,j+1,w,h,e=>jJ (ρ:=r) (j:=j) h (by simpa using e)
theorem zgp(h:j0 ρ=true):tH ρ:=fun i ds e=>by
 obtain⟨x,z⟩:=jJ h e;cases z
theorem qg:∀{ρ:Xw},j0 ρ=true->cz ρ=ρ
 |[],_=>rfl
 |none::r,h=>by
  show none::cz r=none::r;rw[qg (ρ:=r) h]
 |some (.d x)::r,h=>by
  show some (W.d x)::cz r=some (W.d x)::r;rw[qg (ρ:=r) h]
 |some (.tp _)::_,h=>by cases h
 |some (.loc _)::_,h=>by cases h
noncomputable def l5(o:Option ((Fl×Xw)×Tp)):Option ((Fl×Xw)×Tp):=match o with
 | some ((.rt y,ρ'),T3)=>(match jm T3 with
  |some (T4,_)=>some ((.rt y,ρ'),T4)
  | none=>none)
 |_=>none
noncomputable def Dc(i:Nat)(C:Addr)(m:XB)(fr:FS)(ρ:Xw)(w:W)(T1:Tp):Option ((Fl×Xw)×Tp):=match w with
 | .d x0=>(match m [.tp T1.length,.d x0] (T1++[[cQ C]]) with
  |some (.none,T2)=>l5 (fr (ρ.set i (some (.tp T1.length))) T2)
  | _=>none)
 |_=>none
noncomputable def kr(i:Nat)(C:Addr)(m:XB)(fe:FE)(fr:FS):FS:=fun ρ T=>if j0 ρ=true then Xy (fe ρ T) (Dc i C m fr ρ) else none
section
variable {X:Cx}{C f:Addr}{e:Expr}{fe:FE}{fr:FS}{rest:List Stmt}{cn x:Str}{p pos pos' Xu:Pos}{ps:List Str}{k i:Nat}{m:XB}{fd:QD}
theorem zgq(M:Mk X.K C f)(Fi:X5 X.prog X.w X.K X.mg X.base YT k f fd ps (XF X.K ps.length m))(hb:Binds X.K fd ps [])(hr:XA (k+1) X.A)(hg:Gl X cn)(hm:X.mg cn=some (.ref C))(hN:X.N.Nodup)(he:DE X e fe)(ZI:Za X rest fr)
  (h2:autoParam (ps.length=2) u10) (hi:autoParam (X.N[i]? = some x) u10) (hx:autoParam (Loc X.env.scope x) u18) (Yk:autoParam ((cn == ("__debug__" : Str))=false) u11)
  (YG:autoParam (Ol [e] X.env=(false,eval e X.env)::Ol [] X.env) u12) (X7:autoParam ((Pe Xu (Ol [] X.env)).any (·.1)=false) u13)
  (hs:autoParam (PB (.Call (.Name cn p) [e] [] Xu) (some (.Name x pos')) pos.line X.env=pure false) u10) (hf:autoParam (X.fn x=true\/X.env.scope.names.lookup x=some .local) u15) :
  Za X (.Assign [.Name x pos'] (.Call (.Name cn p) [e] [] Xu) pos::rest) (kr i C m fe fr):=by
 refine⟨?_⟩;refine nB (cH (da hN hi hx (zcn M Fi hr hg hm hb .nil iD (bH he.pe bY YG) Yk YG X7) hs hf) ZI.pe) fun D σ H=>?_;rintro⟨O₀,H₀,F,ts,O,ρ,T,fl,ρ',T',rs,e,q⟩;unfold kr at e;split at e
 .rename_i hp
  obtain⟨w,T1,e1,e⟩:=aL e;obtain⟨c0,AF⟩:=rs.frz (zgp hp);rw[qg hp] at AF;refine⟨O₀,ts,ρ,T,w,T1,c0,AF,e1,fun v1 H1 s1 Xt r1=>?_⟩
  cases w with
  |tp j=>cases e
  |loc y=>cases e
  |d x0=>
   unfold Dc at e;dsimp only at e;split at e
   .rename_i T2 em
    intro px dx Ke Cd ZA;have re1:=AF.mono c0 s1;have nO:=Xt.fresh Ke;have Av:=Xt.fresh Cd;have nt:px∉ts:=fun z=>nO (Xt.own _ z)
    have U:∀b,b≠px->b≠dx->upd (upd H1 dx (.own px)) px (.ins C dx []) b=H1 b:=fun b n1 n2=>by rw[aK n1,aK n2]
    have le:Le O₀ H1 (fun b=>O₀ b\/b=px) (upd (upd H1 dx (.own px)) px (.ins C dx [])):=fun a o n e=>by
     have z1:a≠px:=bF e Ke;have z2:a≠dx:=bF e Cd;exact⟨fun q=>q.elim n z1,by rw[U a z1 z2];exact e⟩
    have AV:HC X.K (fun b=>O₀ b\/b=px) (ts++[px]) (upd (upd H1 dx (.own px)) px (.ins C dx [])) (T1++[[cQ C]]):=by
     refine⟨fun b hb=>?_,fun b hb=>?_,?_,by simp[Xt.len],fun j b zs q1 q2=>?_⟩
     .rcases OD.mp hb with z|z
      .exact .inl (Xt.own b z)
      .exact .inr (OK.mp z)
     .by_cases z:b=px
      .rw[z,bj];exact .inr (.inr ⟨_,_,_,rfl⟩)
      .have Gq:=hb.resolve_right z
       have z2:b≠dx:=fun z2=>Av (z2 ▸ Gq);rw[U b z z2];exact Xt.trk b Gq
     .rw[Qq]
      exact⟨Xt.nd,by simp,fun b hb c hc z=>nt (by rw[←OK.mp hc,←z];exact hb)⟩
     .by_cases hj:j<ts.length
      .rw[Os hj] at q1
       rw[Os (by rw[←Xt.len];exact hj)] at q2;exact(Xt.tape j b zs q1 q2).mono (fun o h1=>by rw[U b (bF h1 Ke) (bF h1 Cd)];exact h1) le
      .have GK:j=ts.length:=by
        have:=(Od.mp q1).1;simp at this;omega
       subst GK
       have e1:b=px:=by simpa using q1.symm
       have e2:zs=[cQ C]:=by rw[Xt.len] at q2;simpa using q2.symm
       subst e1 e2;exact .inr ⟨C,dx,[],[],bj,rfl,.nil⟩
    refine⟨fun b=>O₀ b\/b=px,ts++[px],T1++[[cQ C]],[.tp T1.length,.d x0],.none,T2,AV,.cons ⟨px,by rw[←Xt.len];simp,rfl⟩ (.cons (Rep.mono le r1) .nil),by rw[h2];rfl,em,fun v H2 s2 XC r2=>?_⟩;cases r2;refine⟨rfl,?_⟩
    have dxn:dx∉ts++[px]:=fun z=>by
     rcases OD.mp z with z|z
     .exact Av (Xt.own _ z)
     .exact ZA (OK.mp z)
    have IC:Le O₀ H1 (fun b=>O₀ b\/b=px) H2:=le.trans (AV.le s2);generalize hE:fr (ρ.set i (some (.tp T1.length))) T2=E at e;unfold l5 at e;split at e
    .rename_i y ρ3 T3
     split at e
     .rename_i T4 row hT
      have eT:=wA hT;subst eT;cases e;refine⟨fun b=>O₀ b\/b=px,H2,[],ts++[px],fun b=>O₀ b\/b=px,_,T2,_,_,_,⟨XC,fun j u ej=>?_,fun _ h=>h,XC.own,.refl _ _,fun j xs a ej _=>?_,fun j l xs ys v' ej _ _ _=>?_,fun f hf=>absurd hf (by simp),by simp[rs.len]⟩,hE,?_⟩
      .by_cases z:i=j
       .subst z
        have hl:i<ρ.length:=by
         have:=(Od.mp ej).1;simpa using this
        rw[Oq hl] at ej;cases ej;exact⟨.ref px,by rw[Oq (by rw[rs.len];exact hl)],px,by rw[←Xt.len];simp,rfl⟩
       .rw[On z] at ej
        obtain⟨y',rfl⟩:=jJ hp ej;obtain⟨x',k1,k2⟩:=re1 j _ ej;exact⟨x',by rw[On z];exact k1,Rep.mono IC k2⟩
      .exfalso
       obtain⟨_,ej⟩:=fu (w:=.tp T1.length) (fun _ z=>by cases z) ej;obtain⟨_,z⟩:=jJ hp ej;cases z
      .exfalso
       obtain⟨_,ej⟩:=fu (w:=.tp T1.length) (fun _ z=>by cases z) ej;obtain⟨_,z⟩:=jJ hp ej;cases z
      .intro v' H3 s3 Yj r3
       have lb:Le (fun b=>O₀ b\/b=px) H3 O₀ H3:=fun a o n e=>⟨fun z=>n (.inl z),e⟩
       have He:ts.length=T'.length:=by have:=Yj.len;simp at this;exact this
       refine q v' H3 (fun b o n eb=>?_) ⟨rs.ots,fun b hb=>Yj.trk b (.inl hb),rs.hc.nd,He,fun j b zs q1 q2=>?_⟩ (Rep.mono lb r3)
       .have JA:=s1 b o n (rs.same b o n eb)
        have z1:b≠px:=bF JA Ke;have z2:b≠dx:=bF JA Cd
        have nb:b∉ts++[px]:=fun z=>by
         rcases OD.mp z with z|z
         .exact n z
         .exact z1 (OK.mp z)
        exact s3 b o nb (s2 b o nb (by rw[U b z1 z2];exact JA))
       .have hj:j<ts.length:=(Od.mp q1).1
        exact(Yj.tape j b zs (by rw[Os hj];exact q1) (by rw[Os (by rw[←He];exact hj)];exact q2)).mono (fun _ h=>h) lb
     .cases e
    .cases e
   .cases e
 .cases e
end
end D
namespace L2
section
variable {X:Cx}
theorem uF:∀(l:List (Str×Tok)),Xv ((l.map (·.1)).map V.str) (WY l)
 |[]=>.nil
 |p::r=>.cons ⟨p.2,rfl⟩ (uF r)
theorem zgr:Dl X "str.split" (fun x vs H Q=>∃z y:Str,x=.str z/\vs=[.str y]/\(y.length == 0)=false/\z.length+2<=Om/\∀l,H l=none->Q (.ref l) (upd H l (.lst ((QY z y).map V.str)))):=by
 intro pins s σ H x vs v us Q I rx rv h;obtain⟨z,y,rfl,rfl,hy,hz,q⟩:=h;obtain⟨t,rfl⟩:=rx;obtain⟨u,rfl,ru⟩:=vals1 rv;obtain⟨t',rfl⟩:=ru
 have np:(S8 z (PY z y 0 z.length (z.length+1)) y.length).length<=sizeLine:=by
  have o1:=StrLaws.occ_length_le z y 0 z.length (z.length+1);rw[length_partsBetween];lia
 have fin:∀(l:List (Str×Tok)) (k:Nat),l.map (·.1)=QY z y->l.length<=Om->EP X pins σ Q (.ref s.heap.objs.size) { s with toks:=k,heap:=s.heap.push { cls:=.type "list",data:=.seq (WY l).toArray } }:=fun l k e hl=>by
  have hn:((QY z y).map V.str).length<=sizeLine:=by rw[←e];simpa using hl
  refine⟨.ref s.heap.objs.size,_,I.laid (t':=k) (fun b o w=>Og _ w) (Oo _) (show XM X.prog X.w _ _ _ (.lst ((QY z y).map V.str)) from⟨hn,WY l,0,?_,Oy _ rfl⟩),rfl,q _ (I.hok.fresh (Oo _))⟩;rw[←e];exact uF l
 cases c1:(decide (z.length<y.length)||decide (UT z<UT y))
 .cases c2:(PY z y 0 z.length (z.length+1)).isEmpty
  .refine QP Q5 (RY _ _ _) RH (Rr _ _) (meets_str_split_sep z y t t' c1 hy c2 (by lia) np) ?_
   rw[strsFrom_eq];have e:(numbered s.toks _).map (·.1)=QY z y:=(numbered_texts s.toks _).trans ((if_neg (ne_true_of_eq_false c1)).trans (if_neg (ne_true_of_eq_false c2))).symm;refine fin (numbered s.toks _) _ e ?_;have e2:=congrArg VW (numbered_texts s.toks (S8 z (PY z y 0 z.length (z.length+1)) y.length));rw[OW] at e2;rw[e2];exact np
  .exact QP Q5 (RY _ _ _) RH (Rr _ _) (meets_str_split_not_found z y t t' c1 hy c2) (fin [(z,t)] s.toks ((if_neg (ne_true_of_eq_false c1)).trans (if_pos c2)).symm (by show 1<=Om;decide))
 .exact QP Q5 (RY _ _ _) RH (Rr _ _) (meets_str_split_cannot_occur z y t t' c1) (fin [(z,t)] s.toks (if_pos c1).symm (by show 1<=Om;decide))
noncomputable def eqT(y:Str):Oc->Bool
 |.str a _=>a == y
 |_=>false
theorem wY:∀{xs:List V}{us:List Oc}{i:Nat}{x:V},Xv xs us->xs[i]? = some x->∃u,us[i]? = some u/\RelV x u
 |_,_,_,_,.nil,e=>by simp at e
 |_,_,0,_,.cons r _,e=>by simp_all
 |_,_,i+1,x,.cons _ t,e=>by
  obtain⟨u,h1,h2⟩:=wY (i:=i) (x:=x) t (by simpa using e);exact⟨u,by simpa using h1,h2⟩
theorem zgs:Dl X "list.index" (fun x vs H Q=>∃(a:Addr) (ys:List Str) (y:Str) (j:Nat),x=.ref a/\vs=[.str y]/\Ye X.K H a (ys.map V.str)/\ys[j]? = some y/\(∀m,m<j->ys[m]?≠some y)/\Q (.int j) H):=by
 intro pins s σ H x vs v us Q I rx rv h;obtain⟨a,ys,y,j,rfl,rfl,hq,hj,BA,q⟩:=h;cases rx;obtain⟨u,rfl,ru⟩:=vals1 rv;obtain⟨t',rfl⟩:=ru;obtain⟨Xr,YA,pl,hz⟩:=I.list hq
 have XI:ys.length=Xr.length:=by have:=YA.length;simpa using this
 have at_:∀m (h:m<Xr.length),∃t,Xr[m]=.str (ys[m]'(by lia)) t:=fun m h=>by
  obtain⟨u,k1,k2⟩:=wY YA (i:=m) (x:=.str (ys[m]'(by lia))) (by simp);rw[OX h] at k1;cases k1;exact k2
 have ht:=pl.isList.typeIs;obtain⟨⟨c,d,dt,sl⟩,n,eo,hc,hd,hs⟩:=pl;dsimp only at hc hd hs;subst hc hd hs;have BP:j<ys.length:=(Od.mp hj).1;have hjy:ys[j]=y:=(Od.mp hj).2
 have JY:(j:Int)<2^63-1:=by
  have h1:j<sizeLine:=OH BP (by simpa using hz)
  have h2:(Om:Int)<=2^63-1:=by decide
  lia
 refine QP To ht PySem.F.entry_list_index (PySem.F.args_list_index_2 _ _) (PySem.SeqAt.list_indexAt a Xr.toArray n none sl (.str y t') (eqT y) j (by simpa[←XI] using BP) JY ?_ fun m hm hmj=>?_) ⟨eo,fun v hv=>?_,⟨.int j,H,I.tok _,⟨_,rfl⟩,q⟩⟩
 .obtain⟨t,k⟩:=at_ j (by lia)
  show eqT y Xr[j]=true;rw[k,hjy];exact beq_self_eq_true y
 .have BS:m<Xr.length:=by simpa using hm
  obtain⟨t,k⟩:=at_ m BS;show eqT y Xr[m]=false;rw[k];exact beq_false_of_ne fun z=>BA m hmj (by rw[OX (by lia),z])
 .obtain⟨m,hm,Zl⟩:=Sn (show v∈Xr by simpa using hv)
  obtain⟨t,k⟩:=at_ m hm;rw[←Zl,k];exact WO _ t y t'
end
end L2
namespace D
open L2
section
variable {X:Cx}{pos:Pos}{K:Frag}
noncomputable def lI:Oa->Oa->Option Oa
 |.str z,.str y=>if (y.length == 0)=false/\z.length+2<=Om then some (.list ((QY z y).map .str)) else none
 |_,_=>none
theorem zgt(ho:DE X o fo)(he:DE X e fe)
  (XZ:autoParam (PD o "split" X.env (eval o X.env)=eval o X.env) u10)
  (Yl:autoParam (((Pe Xu (Ol [e] X.env)).all (fun x=>!x.1)&&(QJ Xu (PN [] X.env)).all (fun x=>x.1.isSome)
   && decide (([e]:List Expr).length+([]:List Qk).length+(if ([]:List Qk).isEmpty then 0 else 1)<30))=true) u19)
  (XY:autoParam ((apos.endLine == Xu.line)=true) u10) (YG:autoParam (Ol [e] X.env=(false,eval e X.env)::Ol [] X.env) u12) (XN:autoParam ((Pe Xu (Ol [] X.env)).any (·.1)=false) u13) :
  DE X (.Call (.Attribute o "split" apos) [e] [] Xu) (af lI fo fe):=by
 refine⟨?_⟩;refine bo (gR Q3 Q5 PySem.F.type_str_split zgr ho.pe (bH he.pe bY YG) XZ Yl XY YG XN) fun σ H Q=>?_;rintro⟨O,ts,ρ,T,w,T',hc,re,e,q⟩;obtain⟨w1,T1,e1,e⟩:=aL e;obtain⟨w2,T2,e2,e⟩:=aL e;obtain⟨x,y,d,h1,h2,h3,rfl,rfl⟩:=gI e;unfold lI at h3;split at h3
 .rename_i z y
  split at h3
  .rename_i hz
   cases h3;cases vL h1;refine⟨O,ts,ρ,T,_,T1,hc,re,e1,fun v1 H1 s1 Xt r1=>?_⟩;cases (show Rep X.K O H1 v1 _ from r1);refine⟨rfl,O,ts,ρ,T1,w2,T',Xt,re.mono hc s1,e2,fun v2 H2 s2 XC r2=>?_⟩;cases (XC.view r2 h2).str;exact⟨z,y,rfl,rfl,hz.1,hz.2,fun l hl=>q _ _ (s1.trans (s2.trans (.new hl _))) (XC.new hl _) (XC.newL hl (qa _))⟩
  .cases h3
 .cases h3
noncomputable def jt(y:Str):List Str->Option Nat
 |[]=>none
 |x::r=>if x=y then some 0 else (jt y r).map (· + 1)
theorem xG:∀{ys:List Str}{j:Nat},jt y ys=some j->ys[j]? = some y/\∀m,m<j->ys[m]?≠some y
 |[],_,h=>by cases h
 |x::r,j,h=>by
  unfold jt at h;split at h
  .rename_i hx
   cases h;exact⟨by simp[hx],fun m hm=>absurd hm (Qa _)⟩
  .rename_i hx
   obtain⟨i,h1,rfl⟩:=ON.mp h;obtain⟨k1,k2⟩:=xG h1;refine⟨by simpa using k1,fun m hm=>?_⟩
   cases m with
   |zero=>simpa using hx
   |succ m=>simpa using k2 m (by lia)
noncomputable def tj(xs:List Oa)(w:W)(T:Tp):Option (W×Tp):=match w with
 | .d (.str y)=>(match eg xs with
  | some ys=>(match jt y ys with
   |some j=>some (.d (.int (j:Int)),T)
   | none=>none)
  | none=>none)
 |_=>none
noncomputable def tm(fo fe:FE):FE:=fun ρ T=>Xy (fo ρ T) fun w T1=>match w with
 |.d (.list xs)=>Xy (fe ρ T1) (tj xs)
 |_=>none
theorem zgu(ho:DE X o fo)(he:DE X e fe)
  (XZ:autoParam (PD o "index" X.env (eval o X.env)=eval o X.env) u10)
  (Yl:autoParam (((Pe Xu (Ol [e] X.env)).all (fun x=>!x.1)&&(QJ Xu (PN [] X.env)).all (fun x=>x.1.isSome)
   && decide (([e]:List Expr).length+([]:List Qk).length+(if ([]:List Qk).isEmpty then 0 else 1)<30))=true) u19)
  (XY:autoParam ((apos.endLine == Xu.line)=true) u10) (YG:autoParam (Ol [e] X.env=(false,eval e X.env)::Ol [] X.env) u12) (XN:autoParam ((Pe Xu (Ol [] X.env)).any (·.1)=false) u13) :
  DE X (.Call (.Attribute o "index" apos) [e] [] Xu) (tm fo fe):=by
 refine⟨?_⟩;refine bo (gR Qp To PySem.F.type_list_index zgs ho.pe (bH he.pe bY YG) XZ Yl XY YG XN) fun σ H Q=>?_;rintro⟨O,ts,ρ,T,w,T',hc,re,e,q⟩;obtain⟨w1,T1,e1,e⟩:=aL e;split at e
 .rename_i xs
  obtain⟨w2,T2,e2,e⟩:=aL e;refine⟨O,ts,ρ,T,_,T1,hc,re,e1,fun v1 H1 s1 Xt r1=>?_⟩;obtain⟨a1,vs1,rfl,t1,q1⟩:=(Vw.rep (show Rep X.K O H1 v1 (.list xs) from r1)).lst;refine⟨.inl ⟨rfl,vs1,t1⟩,O,ts,ρ,T1,w2,T2,Xt,re.mono hc s1,e2,fun v2 H2 s2 XC r2=>?_⟩;have JB:=Rep.mono (Xt.le s2) r1;obtain⟨a2,CC,ea,t2,q2⟩:=(Vw.rep (show Rep X.K O H2 (.ref a1) (.list xs) from JB)).lst;cases ea;unfold tj at e;split at e
  .rename_i y
   split at e
   .rename_i ss hs
    split at e
    .rename_i j h1
     cases e;obtain⟨k1,k2⟩:=xG h1;rw[lu q2 hs] at t2;cases (show Rep X.K O H2 v2 _ from r2);exact⟨a1,ss,_,j,rfl,rfl,t2,k1,k2,q _ H2 (s1.trans s2) XC (.int _)⟩
    .cases e
   .cases e
  .cases e
 .cases e
noncomputable def Kz:List Oa->Option Oa
 |[.int i]=>if i.natAbs.log2<1920 then some (.str (toString i)) else none
 |[.str x]=>some (.str x)
 |_=>none
noncomputable def oA(i:Nat)(ρ:Xw)(x y:Option Oa)(T:Tp):Option ((Fl×Xw)×Tp):=match x,y with
 |some (.list xs),some (.list ys)=>if xs.length+ys.length<=Om then some ((.nx,ρ.set i (some (.loc (.list (xs++ys))))),T) else none
 |_,_=>none
noncomputable def jo(i:Nat)(fa fb:FE):FS:=fun ρ T=>Xy (fa ρ T) fun w1 T1=>Xy (fb ρ T1) fun w2 T2=>oA i ρ (view T2 w1) (view T2 w2) T2
theorem xQ(hN:X.N.Nodup)(ha:DE X a fa)(hb:DE X b fb)(hi:autoParam (X.N[i]? = some x) u10)(hx:autoParam (Loc X.env.scope x) u18)(hs:autoParam (PB (.BinOp a .Add b IM) (some (.Name x pos')) pos.line X.env=pure false) u10)
  (hf:autoParam (X.fn x=true\/X.env.scope.names.lookup x=some .local) u15):DS X (.Assign [.Name x pos'] (.BinOp a .Add b IM) pos) (jo i fa fb):=by
 refine⟨?_⟩;refine dG (da hN hi hx (zu xr ha.pe hb.pe) hs hf) fun D σ H=>?_;rintro⟨O₀,H₀,F,ts,O,ρ,T,fl,ρ',T',rs,e,q⟩;obtain⟨w1,T1,e1,e⟩:=aL e;obtain⟨w2,T2,e2,e⟩:=aL e;refine⟨O,ts,ρ,T,w1,T1,rs.hc,rs.re,e1,fun v1 H1 s1 Xt r1=>?_⟩;have YI:=rs.step s1 Xt;refine⟨O,ts,ρ,T1,w2,T2,Xt,YI.re,e2,fun v2 H2 s2 XC r2=>?_⟩;have ZV:=YI.step s2 XC;unfold oA at e;split at e
 .rename_i xs ys h1 h2
  split at e
  .rename_i hz
   cases e;obtain⟨a1,vs,rfl,t1,q1⟩:=(XC.view (r1.mono Xt s2) h1).lst;obtain⟨b1,us,rfl,t2,q2⟩:=(XC.view r2 h2).lst;exact⟨a1,b1,vs,us,rfl,rfl,t1,t2,by rw[q1.length,q2.length];exact hz,fun p hp=>q _ _ _ (ZV.own hp (q1.append q2))⟩
  .cases e
 .cases e
structure Bw(P:Oz)(w:OO)(K:Frag)(mg:Str->Option Oc)(base:Heap)(C:Addr)(ps:List Str)(k:Nat)(sp:Sp):Prop where
 ex:∃f fd,X5 P w K mg base YT k f fd ps sp/\L2.Binds K fd ps []/\Mk K C f
noncomputable def pj(K:Frag)(C:Addr):Bool:=Ri K C Str.empty&&RJ K C&&SX K C&&(match Po K (.ref C) "__setattr__" with
 |some (some (.builtin s))=>s == "object.__setattr__"
 | _=>false)
theorem x9(h:pj K C=true):ZD K C:=by
 unfold pj at h;rw[Oj,Oj,Oj] at h;obtain⟨⟨⟨h1,h2⟩,h3⟩,h4⟩:=h;refine⟨h1,h2,h3,?_⟩;split at h4
 .simp_all
 .cases h4
noncomputable def B5(K:Frag)(C:Addr)(f:Str):Bool:=match Po K (.ref C) f with
 |some none=>true
 |_=>false
theorem lO(h:B5 K C f=true):X0 K C f:=by
 unfold B5 at h;split at h
 .rename_i e
  exact e
 .cases h
noncomputable def Im(K:Frag)(C:Addr):Bool:=Ub K C&&PP K (.ref C)
structure YX(K:Frag)(C:Addr)(name qual:Str)(st:Stmt):Prop where
 ex:∃(f:Addr) (oc:Oc) (od an:Option Addr) (sl:Array (Option Oc)) (kV dc pm cd ct:Oc),Po K (.ref C) name=some (some (.ref f)) /\
  K.lookup f=some ⟨oc,od,.func (Pa name qual (cZ st) (bV st) (aW st) .none kV dc pm an cd ct),sl⟩/\QW K cd qual=true/\PP K (.ref f)=true/\Sq K (.ref f)=true
theorem Ih{K:Frag}{C:Addr}{name qual:Str}{st:Stmt}{f:Addr}{oc:Oc}{od an:Option Addr}{sl:Array (Option Oc)}{kV dc pm cd ct:Oc}(a:Po K (.ref C) name=some (some (.ref f)))
  (l:K.lookup f=some ⟨oc,od,.func (Pa name qual (cZ st) (bV st) (aW st) .none kV dc pm an cd ct),sl⟩) (c:QW K cd qual=true) (k:PP K (.ref f)=true) (n:Sq K (.ref f)=true):YX K C name qual st:=⟨f,oc,od,an,sl,kV,dc,pm,cd,ct,a,l,c,k,n⟩
theorem YX.mth{P:Oz}{w:OO}{K:Frag}{mg:Str->Option Oc}{base:Heap}{C:Addr}{name qual:Str}{st:Stmt}{ps:List Str}{k:Nat}{sp:Sp}(d:YX K C name qual st)
  (hb:∀(kV doc pm:Oc) (an:Option Addr) (XS ct:Oc) (us:List Oc),us.length=ps.length->Rm (Pa name qual (cZ st) (bV st) (aW st) .none kV doc pm an XS ct) ⟨us,[]⟩=pure (ps.zip us))
  (ok:∀f fd,Ju K name qual st f fd->X5 P w K mg base YT k f fd ps sp):Dx P w K mg base C name ps k sp:=by
 obtain⟨f,oc,od,an,sl,kV,dc,pm,cd,ct,a,l,c,kp,fn⟩:=d.ex;have F:=oj (st:=st) l c kp;exact⟨f,_,ok f _ F,F.binds hb,⟨a,fn,kp⟩⟩
theorem YX.ini{P:Oz}{w:OO}{K:Frag}{mg:Str->Option Oc}{base:Heap}{C:Addr}{qual:Str}{st:Stmt}{ps:List Str}{k:Nat}{sp:Sp}(d:YX K C "__init__" qual st)(m:Im K C=true)
  (hb:∀(kV doc pm:Oc) (an:Option Addr) (XS ct:Oc) (us:List Oc),us.length=ps.length->Rm (Pa "__init__" qual (cZ st) (bV st) (aW st) .none kV doc pm an XS ct) ⟨us,[]⟩=pure (ps.zip us))
  (ok:∀f fd,Ju K "__init__" qual st f fd->X5 P w K mg base YT k f fd ps sp):Bw P w K mg base C ps k sp:=by
 obtain⟨f,oc,od,an,sl,kV,dc,pm,cd,ct,a,l,c,kp,fn⟩:=d.ex;have F:=oj (st:=st) l c kp;unfold Im at m;rw[Oj] at m;exact⟨f,_,ok f _ F,F.binds hb,⟨m.1,a,fn,m.2⟩⟩
theorem zgv{C:Addr}{e:Expr}{fe:FE}{fr:FS}{rest:List Stmt}{cn x:Str}{p pos' Xu:Pos}{ps:List Str}{k i:Nat}{m:XB}(G:Bw X.prog X.w X.K X.mg X.base C ps k (XF X.K ps.length m))(hr:XA (k+1) X.A)(hg:Gl X cn)(hm:X.mg cn=some (.ref C))(hN:X.N.Nodup)(he:DE X e fe)(ZI:Za X rest fr)
  (h2:autoParam (ps.length=2) u10) (hi:autoParam (X.N[i]? = some x) u10) (hx:autoParam (Loc X.env.scope x) u18) (Yk:autoParam ((cn == ("__debug__" : Str))=false) u11)
  (YG:autoParam (Ol [e] X.env=(false,eval e X.env)::Ol [] X.env) u12) (X7:autoParam ((Pe Xu (Ol [] X.env)).any (·.1)=false) u13)
  (hs:autoParam (PB (.Call (.Name cn p) [e] [] Xu) (some (.Name x pos')) pos.line X.env=pure false) u10) (hf:autoParam (X.fn x=true\/X.env.scope.names.lookup x=some .local) u15) :
  Za X (.Assign [.Name x pos'] (.Call (.Name cn p) [e] [] Xu) pos::rest) (kr i C m fe fr):=by
 obtain⟨f,fd,F1,F2,M⟩:=G.ex;exact zgq M F1 F2 hr hg hm hN he ZI h2 hi hx Yk YG X7 hs hf
theorem TupAt.keep(h:∀b o,H b=some o->(∀ks,o≠.dK ks)->(∀ob ks,o≠.frz ob (.dK ks))->H' b=some o)(t:TupAt K (fun _=>False) H a vs):TupAt K (fun _=>False) H' a vs:=by
 rcases t with⟨n,t|⟨o,t⟩⟩|t
 .exact .inl ⟨n,.inl (h _ _ t (fun _ z=>nomatch z) (fun _ _ z=>nomatch z))⟩
 .exact .inl ⟨n,.inr ⟨o,h _ _ t (fun _ z=>nomatch z) (fun _ _ z=>nomatch z)⟩⟩
 .exact .inr t
mutual
theorem Rep.keep{H H':Hp}(h:∀b o,H b=some o->(∀ks,o≠.dK ks)->(∀ob ks,o≠.frz ob (.dK ks))->H' b=some o):∀{v:V}{d:Oa},Rep K (fun _=>False) H v d->bq d=true->Rep K (fun _=>False) H' v d
 |_,_,.non,_=>.non
 |_,_,.bl b,_=>.bl b
 |_,_,.int i,_=>.int i
 |_,_,.str x,_=>.str x
 |_,_,.tup t r,e=>.tup (t.keep h) (Xs.keep h r (by simpa[bq] using e))
 |_,_,.lst t r,e=>by simp[bq] at e
 |_,_,.dct n t r,e=>by simp[bq] at e
theorem Xs.keep{H H':Hp}(h:∀b o,H b=some o->(∀ks,o≠.dK ks)->(∀ob ks,o≠.frz ob (.dK ks))->H' b=some o):∀{vs:List V}{ds:List Oa},Xs K (fun _=>False) H vs ds->bS ds=true->Xs K (fun _=>False) H' vs ds
 |_,_,.nil,_=>.nil
 |_,_,.cons (d:=d) (ds:=ds) r t,e=>by
  have e':(bq d&&bS ds)=true:=by simpa[bS] using e
  rw[Oj] at e';exact .cons (Rep.keep h r e'.1) (Xs.keep h t e'.2)
end
end
noncomputable def zG(n:Nat):W->Option W
 |.tp k=>if k<n then some (.tp k) else none
 |w=>some w
noncomputable def ky(n:Nat)(ρ:Xw):Xw:=ρ.map fun o=>o.bind (zG n)
noncomputable def jP(n:Nat)(o:Option ((Fl×Xw)×Tp)):Option ((Fl×Xw)×Tp):=match o with
 | some ((fl,ρ'),T3)=>(match jm T3 with
  |some (T4,_)=>if T4.length=n then some ((fl,ky n ρ'),T4) else none
  | none=>none)
 |none=>none
section
variable {K:Frag}{O₀:Addr->Prop}{H₀:Hp}{F:List ((Addr->Prop)×Hp)}{ts:List Addr}{O:Addr->Prop}{H:Hp}{σ:L2.St}{ρ:Xw}{T:Tp}{X:Cx}{pos:Pos}{rest:List Stmt}{fr:FS}
theorem RS.openR(r:RS K O₀ H₀ F ts O H σ ρ T)(hp:H p=none)(rv:Xs K O H vs xs) :
  RS K (fun b=>O₀ b\/b=p) H₀ F (ts++[p]) (fun b=>O b\/b=p) (upd H p (.lst vs)) (σ.set i (some (.ref p))) (ρ.set i (some (.tp T.length))) (T++[xs]):=by
 have nO:=r.hc.fresh hp;have nt:p∉ts:=fun z=>nO (r.hc.own _ z)
 have le:Le O H (fun b=>O b\/b=p) (upd H p (.lst vs)):=fun a o n e=>by
  have z1:a≠p:=bF e hp;exact⟨fun q=>q.elim n z1,by rw[aK z1];exact e⟩
 have hw:∀ys,W.tp T.length≠.loc ys:=fun _ z=>nomatch z
 refine⟨⟨fun b hb=>?_,fun b hb=>?_,?_,by simp[r.hc.len],fun j b zs q1 q2=>?_⟩,fun j w e=>?_,fun b hb=>hb.elim (fun z=>.inl (r.sub b z)) .inr,fun b hb=>?_,fun b o n e=>?_,fun j xs a e1 e2=>?_,fun j k xs ys v e1 e2 e3 e4=>?_,fun f hf=>(r.frs f hf).trans le,by simp[r.len]⟩
 .rcases OD.mp hb with z|z
  .exact .inl (r.hc.own b z)
  .exact .inr (OK.mp z)
 .by_cases z:b=p
  .rw[z,bj];exact .inl ⟨_,rfl⟩
  .rw[aK z];exact r.hc.trk b (hb.resolve_right z)
 .rw[Qq]
  exact⟨r.hc.nd,by simp,fun b hb c hc z=>nt (by rw[←OK.mp hc,←z];exact hb)⟩
 .by_cases hj:j<ts.length
  .rw[Os hj] at q1
   rw[Os (by rw[←r.hc.len];exact hj)] at q2;exact(r.hc.tape j b zs q1 q2).mono (fun o h1=>by rw[aK (bF h1 hp)];exact h1) le
  .have GK:j=ts.length:=by
    have:=(Od.mp q1).1;simp at this;omega
   subst GK
   have e1:b=p:=by simpa using q1.symm
   have e2:zs=xs:=by rw[r.hc.len] at q2;simpa using q2.symm
   subst e1 e2;exact .inl ⟨rv.notO,vs,bj,rv.mono le⟩
 .by_cases z:i=j
  .subst z
   have hl:i<ρ.length:=by
    have:=(Od.mp e).1;simpa using this
   rw[Oq hl] at e;cases e;exact⟨.ref p,by rw[Oq (by rw[r.len];exact hl)],p,by rw[←r.hc.len];simp,rfl⟩
  .rw[On z] at e
   obtain⟨x,h1,h2⟩:=r.re j w e;refine⟨x,by rw[On z];exact h1,?_⟩
   cases w with
   |d y=>exact Rep.mono le h2
   |tp k=>
    obtain⟨a,k1,k2⟩:=h2;exact⟨a,by rw[Os (Od.mp k1).1];exact k1,k2⟩
   |loc ys=>
    obtain⟨a,e1,m1,m2,m3⟩:=h2;have na:a≠p:=fun z=>nO (z ▸ m1);refine⟨a,e1,.inl m1,fun z=>?_,m3.mono (fun o' q=>by rw[aK na];exact q) le⟩
    rcases OD.mp z with z|z
    .exact m2 z
    .exact na (OK.mp z)
 .rcases OD.mp hb with z|z
  .exact .inl (r.ots b z)
  .exact .inr (OK.mp z)
 .have nb:b∉ts:=fun z=>n (Pb _ z)
  have e1:=r.same b o nb e;rw[aK (bF e1 hp)];exact e1
 .obtain⟨n,e⟩:=fu hw e1
  rw[On (Qd n)] at e2;obtain⟨f1,f2⟩:=r.fresh j xs a e e2;refine⟨f1,fun z=>z.elim f2 fun z=>?_⟩;obtain⟨v,h1,a',ea,m1,_⟩:=r.re j _ e;rw[e2] at h1;cases h1;cases ea;exact nO (z ▸ m1)
 .obtain⟨n1,e1⟩:=fu hw e1
  obtain⟨n2,e2⟩:=fu hw e2;rw[On (Qd n1)] at e3;rw[On (Qd n2)] at e4;exact r.dist j k xs ys v e1 e2 e3 e4
theorem RS.closeR(ots:∀b∈ts,O₀ b)(nt:p∉ts)(h0:H₀ p=none)(n0:¬O₀ p)(r:RS K (fun b=>O₀ b\/b=p) H₀ F (ts++[p]) O H σ ρ (T++[row])):RS K O₀ H₀ F ts O H σ (ky T.length ρ) T:=by
 have He:ts.length=T.length:=by have:=r.hc.len;simp at this;exact this
 have at_:∀{j:Nat}{w:W},(ky T.length ρ)[j]? = some (some w)->ρ[j]? = some (some w)/\∀k,w=.tp k->k<T.length:=fun {j w} e=>by
  unfold ky at e;rw[O7] at e
  cases hu:ρ[j]? with
  |none=>simp_all
  |some u=>
   cases u with
   |none=>simp_all
   |some u=>
    rw[hu] at e;have e':zG T.length u=some w:=Qv e
    cases u with
    |d x=>cases e';exact⟨rfl,fun k z=>nomatch z⟩
    |loc x=>cases e';exact⟨rfl,fun k z=>nomatch z⟩
    |tp k=>
     have e2:(if k<T.length then some (W.tp k) else none)=some w:=e';split at e2
     .lia
     .cases e2
 refine⟨⟨fun b hb=>r.hc.own b (Pb _ hb),r.hc.trk,(Qq.mp r.hc.nd).1,He,fun j b zs q1 q2=>?_⟩,fun j w e=>?_,fun b hb=>r.sub b (.inl hb),ots,fun b o n e=>?_,fun j xs a e1 e2=>?_,fun j k xs ys v e1 e2 e3 e4=>?_,r.frs,by simp[ky,r.len]⟩
 .have hj:j<ts.length:=(Od.mp q1).1
  exact r.hc.tape j b zs (by rw[Os hj];exact q1) (by rw[Os (by rw[←He];exact hj)];exact q2)
 .obtain⟨e1,hk⟩:=at_ e
  obtain⟨v,h1,h2⟩:=r.re j w e1;refine⟨v,h1,?_⟩
  cases w with
  |d x=>exact h2
  |tp k=>
   obtain⟨a,k1,k2⟩:=h2;have:=hk k rfl;exact⟨a,by rw[Os (by rw[He];exact this)] at k1;exact k1,k2⟩
  |loc x=>
   obtain⟨a,k1,k2,k3,k4⟩:=h2;exact⟨a,k1,k2,fun z=>k3 (Pb _ z),k4⟩
 .refine r.same b o (fun z=>?_) e<;>simp_all
 .obtain⟨f1,f2⟩:=r.fresh j xs a (at_ e1).1 e2
  exact⟨f1,fun z=>f2 (.inl z)⟩
 .exact r.dist j k xs ys v (at_ e1).1 (at_ e2).1 e3 e4
theorem Zq
  (rs:RS X.K O₀ H₀ F ts O H σ ρ T) (hp:H p=none) (rv:Xs X.K O H vs xs) (e:jP T.length (fr (ρ.set i (some (.tp T.length))) (T++[xs]))=some ((fl,ρ'),T')) (q:zV X.K O₀ H₀ F ts D ρ' T' fl):sN X.K fr D (σ.set i (some (.ref p))) (upd H p (.lst vs)):=by
 have nO:=rs.hc.fresh hp;have nt:p∉ts:=fun z=>nO (rs.hc.own _ z)
 have h0:H₀ p=none:=by
  cases e:H₀ p with
  |none=>rfl
  |some o=>rw[rs.same p o nt e] at hp;cases hp
 have n0:¬O₀ p:=fun z=>nO (rs.sub p z);have YI:=rs.openR (i:=i) hp rv;generalize hE:fr (ρ.set i (some (.tp T.length))) (T++[xs])=E at e;unfold jP at e;split at e
 .rename_i AK XU T3
  split at e
  .rename_i T4 row hT
   split at e
   .rename_i XI
    have eT:=wA hT;subst eT;cases e;have lb:∀{G:Hp},Le (fun b=>O₀ b\/b=p) G O₀ G:=fun a o n e=>⟨fun z=>n (.inl z),e⟩
    have AJ:∀{G:Hp}{B:Addr->Prop},HC X.K B (ts++[p]) G (T'++[row])->ts.length=T'.length:=fun h=>by have:=h.len;simp at this;exact this
    have F7:∀{G:Hp},Xx (ts++[p]) H₀ G->Xx ts H₀ G:=fun s b o n e=>s b o (fun z=>by simp_all) e;refine⟨_,H₀,F,ts++[p],_,_,_,fl,XU,T'++[row],YI,hE,?_⟩;have Hx:T.length=T'.length:=XI.symm
    cases fl with
    |nx=>exact fun O' σ' H' r=>q O' σ' H' (by rw[Hx];exact RS.closeR rs.ots nt h0 n0 r)
    |bk=>exact fun O' σ' H' r=>q O' σ' H' (by rw[Hx];exact RS.closeR rs.ots nt h0 n0 r)
    |ct=>exact fun O' σ' H' r=>q O' σ' H' (by rw[Hx];exact RS.closeR rs.ots nt h0 n0 r)
    |rt y=>
     intro v H' s1 c1 r1;refine q v H' (F7 s1) ⟨rs.ots,fun b hb=>c1.trk b (.inl hb),rs.hc.nd,AJ c1,fun j b zs q1 q2=>?_⟩ (Rep.mono lb r1);have hj:j<ts.length:=(Od.mp q1).1;exact(c1.tape j b zs (by rw[Os hj];exact q1) (by rw[Os (by rw[←AJ c1];exact hj)];exact q2)).mono (fun _ h=>h) lb
    |ro y=>
     intro A v H' s1 hA c1 o1;have A6:Le (fun b=>(O₀ b\/b=p)\/A b) H' (fun b=>O₀ b\/A b) H':=fun b o n e=>⟨fun z=>n (z.elim (fun z=>.inl (.inl z)) .inr),e⟩;refine q A v H' (F7 s1) (fun b hb=>⟨(hA b hb).1,fun z=>(hA b hb).2 (.inl z)⟩) ⟨fun b hb=>.inl (rs.ots b hb),fun b hb=>c1.trk b (hb.elim (fun z=>.inl (.inl z)) .inr),rs.hc.nd,AJ c1,fun j b zs q1 q2=>?_⟩ (Z8.mono A6 o1);have hj:j<ts.length:=(Od.mp q1).1;exact(c1.tape j b zs (by rw[Os hj];exact q1) (by rw[Os (by rw[←AJ c1];exact hj)];exact q2)).mono (fun _ h=>h) A6
   .cases e
  .cases e
 .cases e
theorem zgw:Dl X "str.join" (fun x vs H Q=>∃(z:Str) (l:Addr) (ys:List Str),x=.str z/\vs=[.ref l]/\Yn X.K H l (ys.map V.str)/\(ys.map (·.length)).sum+ys.length*z.length<=16777216/\Q (.str (OM z ys)) H):=by
 intro pins s σ H x vs v us Q I rx rv h;obtain⟨z,l,ys,rfl,rfl,hq,hz,q⟩:=h;obtain⟨t,rfl⟩:=rx;obtain⟨u,rfl,ru⟩:=vals1 rv;cases ru;obtain⟨Xr,YA,pl,_⟩:=I.tuple hq;refine join_tuple (ys:=ys) pl (by simpa using tX YA) hz fun t' k=>⟨.str _,H,I.tok _,⟨t',?_⟩,q⟩;show Sx (Vr z ys) t'=_;rw[Uj]
theorem zW(r:Yz K O ts H v w)(h:view T w=some (.str z)):v=.str z:=by
 cases w with
 |d x=>cases h;cases (show Rep K O H v _ from r);rfl
 |tp k=>
  have Y6:(T[k]?).bind kE=some (PM z):=h
  cases hk:T[k]? with
  |none=>simp_all
  |some xs=>
   simp_all
 |loc zs=>cases zs <;> cases h
noncomputable def oB:Oa->Oa->Option Oa
 |.str z,.list xs=>match eg xs with
  |some ys=>if (ys.map (·.length)).sum+ys.length*z.length<=16777216 then some (.str (OM z ys)) else none
  |none=>none
 |.str z,.tuple xs=>match eg xs with
  |some ys=>if (ys.map (·.length)).sum+ys.length*z.length<=16777216 then some (.str (OM z ys)) else none
  |none=>none
 |_,_=>none
theorem zgx(ho:DE X o fo)(he:DE X e fe)
  (XZ:autoParam (PD o "join" X.env (eval o X.env)=eval o X.env) u10)
  (Yl:autoParam (((Pe Xu (Ol [e] X.env)).all (fun x=>!x.1)&&(QJ Xu (PN [] X.env)).all (fun x=>x.1.isSome)
   && decide (([e]:List Expr).length+([]:List Qk).length+(if ([]:List Qk).isEmpty then 0 else 1)<30))=true) u19)
  (XY:autoParam ((apos.endLine == Xu.line)=true) u10) (YG:autoParam (Ol [e] X.env=(false,eval e X.env)::Ol [] X.env) u12) (XN:autoParam ((Pe Xu (Ol [] X.env)).any (·.1)=false) u13) :
  DE X (.Call (.Attribute o "join" apos) [e] [] Xu) (af oB fo fe):=by
 refine⟨?_⟩;refine bo (gR Q3 Uk Ul (ZM.or zgw) ho.pe (bH he.pe bY YG) XZ Yl XY YG XN) fun σ H Q=>?_;rintro⟨O,ts,ρ,T,w,T',hc,re,e,q⟩;obtain⟨w1,T1,e1,e⟩:=aL e;obtain⟨w2,T2,e2,e⟩:=aL e;obtain⟨x,y,d,h1,h2,h3,rfl,rfl⟩:=gI e;unfold oB at h3;refine⟨O,ts,ρ,T,w1,T1,hc,re,e1,fun v1 H1 s1 Xt r1=>?_⟩;split at h3
 .rename_i z xs
  split at h3
  .rename_i ys hy
   split at h3
   .rename_i hz
    cases h3;have ev:=zW r1 h1;subst ev;refine⟨rfl,O,ts,ρ,T1,w2,T',Xt,re.mono hc s1,e2,fun v2 H2 s2 XC r2=>?_⟩;obtain⟨a,vs,rfl,t,r⟩:=(XC.view r2 h2).lst;rw[lu r hy] at t;exact .inl ⟨z,a,ys,rfl,rfl,t,hz,q _ H2 (s1.trans s2) XC (.str _)⟩
   .cases h3
  .cases h3
 .rename_i z xs
  split at h3
  .rename_i ys hy
   split at h3
   .rename_i hz
    cases h3;have ev:=zW r1 h1;subst ev;refine⟨rfl,O,ts,ρ,T1,w2,T',Xt,re.mono hc s1,e2,fun v2 H2 s2 XC r2=>?_⟩;obtain⟨a,vs,rfl,t,r⟩:=(XC.view r2 h2).tup;have t:=t.sq;rw[lu r hy] at t;exact .inr ⟨z,a,ys,rfl,rfl,t,hz,q _ H2 (s1.trans s2) XC (.str _)⟩
   .cases h3
  .cases h3
 .cases h3
end
end D
namespace L2
structure AM(osc:Qg)(N:List Str)(xs:List Str)(scope:Qg)(N':List Str):Prop where
 kind:scope.kind=.function
 nocell:∀y∈scope.names,y.2≠.cell
 names:∀y∈scope.names,y.2=.local->scope.names.lookup y.1=some .local
 hx:∀x∈xs,scope.names.lookup x=some .local
 only:∀y∈scope.names,y.2=.local->y.1∈xs\/y.1=".0"
 free:∀y∈scope.names,y.2=.free->osc.names.lookup y.1=some .cell\/osc.names.lookup y.1=some .free
 nd:(xs++N').Nodup
 n0:(".0" : Str)∉N'
 len:N'.length=N.length
 rel:∀p∈N'.zip N,p.1=p.2\/∀q∈scope.names,q.1≠p.1
theorem AM.at{osc:Qg}{N N':List Str}{xs:List Str}{scope:Qg}(S:AM osc N xs scope N'){j:Nat}{y:Str}(h:N'[j]? = some y):N[j]? = some y\/∀q∈scope.names,q.1≠y:=by
 have hl:j<N'.length:=(Od.mp h).1
 have HJ:j<N.length:=by rw[←S.len];exact hl
 have m:(N'.zip N)[j]? = some (y,N[j]):=by
  rw[SR];exact⟨h,OX HJ⟩
 rcases S.rel _ (OA m) with z|z
 .simp_all
 .exact .inr z
abbrev dP(X:Cx)(xs:List Str)(scope:Qg)(C:Addr)(s0:Oi)(H0:Hp)(ex:List Addr)(N':List Str):Cx where
 prog:=X.prog
 w:=X.w
 K:=X.K
 mg:=X.mg
 base:=X.base
 A:=X.A
 N:=xs++N'
 s₀:=s0
 H₀:=H0
 env:=Q8 scope (bO X.env scope.names []) C X.env
 outer:=X.stack
 stack:=X.stack
 ex:=ex
 fn:=fun _=>false
 calm:=X.calm
 pn:=[]
 xe:=fun _ _=>False
section
variable {X:Cx}{pins:List (Addr×Obj)}{σ:St}{H:Hp}{s:Oi}{xs:List Str}{scope:Qg}{N':List Str}
theorem vi(I:Inv X pins σ H s)(S:AM X.env.scope X.N xs scope N'):∀y∈scope.names,y.2=.free->∃c,X.env.cells.lookup y.1=some c:=fun y hy e=>
 I.ok.has y.1 (S.free y hy e)
theorem uy(I:Inv X pins σ H s)(S:AM X.env.scope X.N xs scope N')(e:(bO X.env scope.names []).lookup y=some c):X.env.cells.lookup y=some c:=pO scope.names [] y c (fun _ _ z=>by simp at z) (vi I S) e
theorem vE(I:Inv X pins σ H s)(S:AM X.env.scope X.N xs scope N')(e:(y,Pr)∈scope.names):∃c,(bO X.env scope.names []).lookup y=some c/\X.env.cells.lookup y=some c:=by
 obtain⟨c,hc⟩:=Rn.mp (pX (env:=X.env) scope.names [] y e);exact⟨c,hc,uy I S hc⟩
theorem zgy(I:Inv X pins σ H s)(S:AM X.env.scope X.N xs scope N')(hf:∀b∈fp,cU X pins H b)(ho:∀b∈fp,∃o,s.heap.get? b=some o)
  (Ht:h'.Ns (s.heap.push oD).objs.size m) (Yy:Qi (s.heap.push oD).objs.size ((s.heap.push oD).push oC) h') :
  Inv (dP X xs scope (s.heap.push oD).objs.size { s with heap:=s.heap.push oD } H (s.heap.objs.size::fp) N') [] (Ov xs.length none++σ) H { s with heap:=h',toks:=tk }:=by
 have I3:Inv X pins σ H { s with heap:=s.heap.push oD,toks:=s.toks }:=I.kept fun b o e=>Og _ e;have hC:(s.heap.push oD).objs.size=s.heap.objs.size+1:=P5 ..
 have HH:∀b o,(s.heap.push oD).get? b=some o->h'.get? b=some o:=fun b o e=>
  (Yy.2 b (OI (Ow e))).trans (Og _ e)
 have up:∀b o,s.heap.get? b=some o->h'.get? b=some o:=fun b o e=>HH b o (Og _ e);have cl:=fun {y c} e=>uy (y:=y) (c:=c) I S e
 have FN:∀y c,X.env.cells.lookup y=some c->c<s.heap.objs.size:=fun y c e=>let ⟨v,q⟩:=I.cell y c e;q.lt
 have inner:∀{y:Str}{k':QK},(R4 scope X.env).names.lookup y=some k'->(k'=.cell\/k'=.free)->(y,Pr)∈scope.names:=fun {y k'} e hk=>by
  obtain⟨k,mem,r⟩:=jD e
  rcases r with r|⟨r,_⟩
  .rcases hk with z|z
   .exact absurd (r.symm.trans z) (S.nocell _ mem)
   .simp_all
  .simp_all
 have ok:(dP X xs scope (s.heap.push oD).objs.size { s with heap:=s.heap.push oD } H (s.heap.objs.size::fp) N').Ok:=by
  refine⟨I.ok.mod,S.kind,I.ok.glob,I.ok.blt,Oo _,fun y z c e1 e2=>I.ok.inj y z c (cl e1) (cl e2),fun y hk=>?_,fun y c e=>(nomatch e),I.ok.hd,I.ok.frames,.inl rfl,fun b hb=>?_,fun b o e=>?_,
   OC (OC I.ok.bsz I.sz) (by show s.heap.objs.size<=(s.heap.push oD).objs.size;lia),fun b o e hb=>?_,fun b hb z=>?_,I3.stack,I.stkFree⟩
  .have mem:(y,Pr)∈scope.names:=by
    rcases hk with z|z
    .exact inner z (.inl rfl)
    .exact inner z (.inr rfl)
   obtain⟨c,hc,_⟩:=vE I S mem;exact⟨c,hc⟩
  .rcases Ox.mp hb with e|e
   .subst e
    exact⟨by show s.heap.objs.size≠(s.heap.push oD).objs.size;lia,fun y c e=>OI (FN y c (cl e))⟩
   .obtain⟨o,q⟩:=ho b e
    have q2:=Ow q;exact⟨by show b≠(s.heap.push oD).objs.size;rw[hC];exact OI (QL q2),fun y c e'=>(hf b e).2.2.2.2.1 y c (cl e')⟩
  .exact⟨Og _ (I.bs b o e).1,(I.bs b o e).2⟩
  .rcases Ox.mp hb with z|z
   .have q2:=Ow (I.bs b o e).1
    rw[z] at q2;exact Pp _ q2
   .rcases(hf b z).2.2.2.1 with q|q
    .exact I.ok.noex b o e q
    .have q2:=Ow (I.ok.bs b o e).1
     exact Pp _ (OH q2 q)
  .have z':=I.stkSub b z
   rcases Ox.mp hb with e|e
   .subst e
    rcases Ox.mp z' with q|q
    .have q2:=I.lt
     rw[←q] at q2;exact Pp _ q2
    .exact I.nofs (Oo _) q
   .rcases Ox.mp z' with q|q
    .exact(hf b e).2.1 q
    .exact(hf b e).2.2.1 q
 obtain⟨mo,BA,hlo⟩:=I.loc;refine⟨ok,rfl,I.bare,Un.kept HH,⟨m,Ht,fun i y v e1 e2 e3=>?_⟩,fun y c e=>?_,I.hok.fresh (by show s.heap.objs.size<=(s.heap.push oD).objs.size;lia),fun y c e=>I.freeC y c (cl e),fun p hp=>absurd hp (by simp),I.hok.kept up,?_⟩
 .by_cases hi:i<xs.length
  .rw[Os (by simpa using hi)] at e2
   have:=OA e2;rw[SM] at this;cases this.2
  .obtain⟨j,rfl⟩:∃j,i=xs.length+j:=⟨i-xs.length,by lia⟩
   have HZ:N'[j]? = some y:=by
    have EO:(xs++N')[xs.length+j]? = some y:=e1;rw[O6 (by lia)] at EO;simpa using EO
   have FU:∃k,(y,k)∈scope.names:=by
    rcases(show A0 (R4 scope X.env) y from e3) with z|z|z <;> exact let ⟨k,mem,_⟩:=jD z;⟨k,mem⟩
   have EO:X.N[j]? = some y:=by
    rcases S.at HZ with z|z
    .exact z
    .obtain⟨k,mem⟩:=FU
     exact absurd rfl (z _ mem)
   have Bn:σ[j]? = some (some v):=by
    rw[O6 (by simp)] at e2;simpa using e2
   have yx:y∉xs:=fun z=>(Qq.mp S.nd).2.2 y z y (OA HZ) rfl
   have kin:((R4 scope X.env).names.lookup y=some .cell\/(R4 scope X.env).names.lookup y=some .free):=by
    rcases(show A0 (R4 scope X.env) y from e3) with z|z|z
    .obtain⟨k,mem,r⟩:=jD z
     rcases r with r|⟨_,r⟩
     .rcases S.only _ mem r.symm with z2|z2
      .exact absurd z2 yx
      .exact absurd (OA HZ) (by rw[show y=(".0" : Str) from z2];exact S.n0)
     .cases r
    .exact .inl z
    .exact .inr z
   have mem:(y,Pr)∈scope.names:=by
    rcases kin with z|z
    .exact inner z (.inl rfl)
    .exact inner z (.inr rfl)
   have vo:A0 X.env.scope y:=by
    rcases S.free _ mem rfl with z|z
    .exact .inr (.inl z)
    .exact .inr (.inr z)
   obtain⟨u,ru,lk⟩:=hlo j y v EO Bn vo;refine⟨u,ru,.inr ⟨kin,?_⟩⟩;obtain⟨c,hc,YK⟩:=vE I S mem;refine⟨c,hc,?_⟩
   rcases lk with⟨z,_⟩|⟨_,c2,z2,q⟩
   .exfalso
    have z':X.env.scope.names.lookup y=some .local:=z
    rcases S.free _ mem rfl with r|r <;> (rw[z'] at r;cases r)
   .rw[YK] at z2
    cases z2;obtain⟨o,q1,q2⟩:=q;exact⟨o,up _ _ q1,q2⟩
 .obtain⟨v,o,q1,q2⟩:=I.cell y c (cl e)
  exact⟨v,o,up _ _ q1,q2⟩
 .have:=I.len
  show (Ov xs.length none++σ).length=(xs++N').length;simp[this,S.len]
theorem zgz(I:Inv X pins σ H s)(hf:∀b∈fp,cU X pins H b)
  (EF:C=(s.heap.push oD).objs.size) (J:Inv (dP X xs scope C { s with heap:=s.heap.push oD } H (s.heap.objs.size::fp) N') Zf σ' H1 s1) (Yy:Qi C s1.heap h') (hD0:H1 s.heap.objs.size=none)
  (new:∃Xr n,Xv ys Xr/\s1.heap.get? s.heap.objs.size=some { cls:=.type "list",data:=.seq Xr.toArray n }) (hz:ys.length<=Om) :
  Inv X pins σ (upd H1 s.heap.objs.size (.lst ys)) { s1 with heap:=h' }:=by
 have hC:C=s.heap.objs.size+1:=by simp_all
 have nD:∀b o,s.heap.get? b=some o->b≠s.heap.objs.size:=fun b o e=>OI (Ow e)
 have nC:∀b o,s.heap.get? b=some o->b≠C:=fun b o e=>by rw[hC];exact OI (QL (Ow e))
 have up:∀b o,s.heap.get? b=some o->(s.heap.push oD).get? b=some o:=fun b o e=>Og _ e;have nx:∀b,b∉fp->b≠s.heap.objs.size->b∉s.heap.objs.size::fp:=fun b h1 h2 z=>(Ox.mp z).elim h2 h1
 have Dy:s.heap.objs.size≠C:=by simp_all
 have tr:∀b u,H1 b=some u->b≠s.heap.objs.size:=fun b u e z=>by simp_all
 have Eo:∀b u,H1 b=some u->b≠C:=fun b u e z=>by
  have:=J.free;rw[z] at e;have q:H1 C=none:=J.free;rw[q] at e;cases e
 obtain⟨Xr,n,rv,eD⟩:=new;have B:Un (frs X.stack) (s.heap.objs.size::fp) H H1 (s.heap.push oD) s1.heap:=J.base;refine I.call' (s':={ s1 with heap:=h' }) (ch:=fp) J.os ⟨fun b o e q h1 h2=>?_,fun b o e q h1 h2=>?_,fun b o e q h2=>?_,fun b o e h2=>?_,fun b xs e=>?_,fun b o u e=>?_,fun b ps e=>?_⟩ (fun b u e=>?_) J.bare fun b hb=>?_
 .exact(Yy.2 b (nC b o e)).trans (B.keep b o (up b o e) q h1 (nx b h2 (nD b o e)))
 .obtain⟨sl,z⟩:=B.slot b o (up b o e) q h1 (nx b h2 (nD b o e))
  exact⟨sl,(Yy.2 b (nC b o e)).trans z⟩
 .rw[aK (nD b o e)]
  exact B.free b o (up b o e) q (nx b h2 (nD b o e))
 .obtain⟨o',z⟩:=B.there b o (up b o e) (nx b h2 (nD b o e))
  exact⟨o',(Yy.2 b (nC b o e)).trans z⟩
 .have z:=B.tups b xs e
  rw[aK (tr b _ z)];exact z
 .have z:=B.frzs b o u e
  rw[aK (tr b _ z)];exact z
 .obtain⟨more,z⟩:=B.tbls b ps e
  exact⟨more,by rw[aK (tr b _ z)];exact z⟩
 .by_cases hb:b=s.heap.objs.size
  .subst hb
   rw[bj] at e;cases e;exact⟨hz,Xr,n,rv,(Yy.2 _ Dy).trans eD⟩
  .rw[aK hb] at e
   refine(J.hok b u e).stay (fun c v hc q=>(Yy.2 c ?_).trans q) (fun c q=>by rw[aK (tr c _ q)];exact q) fun c xs q=>by rw[aK (tr c _ q)];exact q
   rcases hc with z|z
   .rw[z];exact Eo b u e
   .exact Eo c _ z
 .obtain⟨_,f1,_,f3,f4,f5⟩:=hf b hb
  exact⟨f3,f1,f4,f5⟩
end
theorem zha(I:Nat->Oi->Prop)
  (turn:∀n s,I n s->OG (OJ prog w) A (VD it) (fun r s1=>match r with
   |none=>R (.ok .next) s1
   | some v=>OG (OJ prog w) A (R9 tg it v) (fun _ s2=>OG (OJ prog w) A (Wg tg env v) (fun _ s2=>
     OG (OJ prog w) A (forIn ifs true fun c r=>if r=true then do
      let ok ←VA c env (eval c env)
      pure (Q7 ok) else pure (Q7 r)) (fun ok s3=>
      if ok=true then OG (OJ prog w) A (eval elt env) (fun x s4=>OG (OJ prog w) A (call (.builtin "list.append") [acc,x]) (fun _ s5=>∃m,m<n/\I m s5)
       (Rw (OJ prog w) A env fun e s'=>R (.error e) s') s4) (Rw (OJ prog w) A env fun e s'=>R (.error e) s') s3
      else ∃m,m<n/\I m s3) (Rw (OJ prog w) A env fun e s'=>R (.error e) s') s2) (Rw (OJ prog w) A env fun e s'=>R (.error e) s') s2) (Rw (OJ prog w) A env fun e s'=>R (.error e) s') s1) (Rw (OJ prog w) A env fun e s'=>R (.error e) s') s)
  (n:Nat) (h:I n s):SY (OJ prog w) A (.compLoop (.ListComp elt [⟨tg,iter,ifs,0⟩] scope pos) 0 it acc env) R s:=by
 refine codeAny_loop rfl I (fun n s hI=>wpAny_noted ?_) n h;rw[compTurn_list];refine Oe (wpAny_standAt (Oe (XD (turn n s hI) fun r s1 h1=>?_)))
 cases r with
 |none=>exact Ot h1
 |some v=>
  refine Oe (XD h1 fun _ s2 h2=>Oe (XD h2 fun _ s3 h3=>Oe (XD h3 fun ok s4 h4=>?_)))
  cases ok with
  |false=>exact Ot ⟨rfl,h4⟩
  |true=>exact Oe (Oe (XD h4 fun x s5 h5=>Oe (XD h5 fun _ s6 h6=>Ot (Ot ⟨rfl,h6⟩))))
def su(n:Nat)(g:TG)(σ:St)(J:It)(tt:TT)(te:TE)(W:Nat->Nat->List V->Hp->Prop)(D:List V->Hp->Prop):Prop:=∀i m ys H,W i m ys H ->
 (J.stop i H/\ys.length<=Om/\D ys H)\/(J.go i H/\ys.length<Om/\∃N:List V->Hp->Prop,(∀Es H',N Es H'->∃m',m' < m/\W (i+1) m' Es H')/\∀v H',J.yld i H v H'->∀Y7:St,Y7.length=n->g v (Y7++σ) H' fun Z0 H1=>(∃Dw:St,Dw.length=n/\Z0=Dw++σ)/\tt Z0 H1 fun b H2=>
  if b=true then te Z0 H2 fun y H3=>N (ys++[y]) H3 else N ys H2)
section
variable {X:Cx}{pins:List (Addr×Obj)}{σ:St}{H:Hp}{s:Oi}{xs:List Str}{scope:Qg}{N':List Str}{tg elt iter:Expr}{ifs:List Expr}{pos:Pos}{wi:TI}{g:TG}{te:TE}{tt:TT}
theorem zhb{fp:List Addr}{it C:Addr}{tn:Nat->Heap->Prop}{J:It}{oD:Obj}{elt iter:Expr}{ifs:List Expr}{pos:Pos}{tg:Expr}{g:TG}{te:TE}{tt:TT}{W:Nat->Nat->List V->Hp->Prop}{Dn:List V->Hp->Prop}
  {R:W0->Oi->Prop}{σ':St}{s4:Oi}{m0:Nat} (AX:X.calm=true) (S:AM X.env.scope X.N xs scope N') (hf:∀b∈fp,cU X pins H b) (ho:∀b∈fp,∃o,s.heap.get? b=some o) (EF:C=(s.heap.push oD).objs.size)
  (T:Turn X.prog X.w X.K tg J fp it tn) (I4:Inv (dP X xs scope C { s with heap:=s.heap.push oD } H (s.heap.objs.size::fp) N') [] (Ov xs.length none++σ) H s4) (Br:tn 0 s4.heap) (CY:s4.heap.get? s.heap.objs.size=some { cls:=.type "list",data:=.seq #[] 0 })
  (Hb:H s.heap.objs.size=none) (hgg:PG (dP X xs scope C { s with heap:=s.heap.push oD } H (s.heap.objs.size::fp) N') tg g) (G4:PE (dP X xs scope C { s with heap:=s.heap.push oD } H (s.heap.objs.size::fp) N') elt te) (Fd:Ci (dP X xs scope C { s with heap:=s.heap.push oD } H (s.heap.objs.size::fp) N') ifs tt)
  (w0:W 0 m0 [] H) (turn:su xs.length g σ J tt te W Dn)
  (hR:∀s1 H1 Z0 ys Xr n,Inv (dP X xs scope C { s with heap:=s.heap.push oD } H (s.heap.objs.size::fp) N') [] Z0 H1 s1->H1 s.heap.objs.size=none->Xv ys Xr->s1.heap.get? s.heap.objs.size=some { cls:=.type "list",data:=.seq Xr.toArray n }->ys.length<=Om->Dn ys H1->R (.ok .next) s1) :
  SY (OJ X.prog X.w) X.A (.compLoop (.ListComp elt [⟨tg,iter,ifs,0⟩] scope pos) 0 (.ref it) (.ref s.heap.objs.size) (Q8 scope (bO X.env scope.names []) C X.env)) R s4:=by
 have hC:C=s.heap.objs.size+1:=by rw[EF];exact P5 ..
 generalize hX:dP X xs scope C { s with heap:=s.heap.push oD } H (s.heap.objs.size::fp) N'=X' at *
 have xP:X'.prog=X.prog:=by rw[←hX]
 have xW:X'.w=X.w:=by rw[←hX]
 have xK:X'.K=X.K:=by rw[←hX]
 have xA:X'.A=X.A:=by rw[←hX]
 have xE:X'.env=Q8 scope (bO X.env scope.names []) C X.env:=by rw[←hX]
 have xC:X'.calm=true:=by rw[←hX];exact AX
 have Ce:X'.ex=s.heap.objs.size::fp:=by rw[←hX]
 have KL:X'.pn=[]:=by rw[←hX]
 have J1:X'.xe=fun _ _=>False:=by rw[←hX]
 have xL:X'.env.locals=C:=by rw[xE];rfl
 have lt:∀b∈fp,b<s.heap.objs.size:=fun b hb=>let ⟨_,e⟩:=ho b hb;Ow e
 have Bt:∀{pl:List (Addr×Obj)}{H':Hp},(∀p∈pl,p.1=s.heap.objs.size)->(∀b∈fp,H' b=none)->∀b∈fp,cU X' pl H' b:=fun {pl H'} hp hn b hb=>by
  have Z3:=I4.ok
  have hm:b∈X'.ex:=by rw[Ce];exact Of _ hb
  refine⟨hn b hb,(Z3.exf b hm).1,Z3.exfs b hm,.inl hm,(Z3.exf b hm).2,fun p X7 z=>?_⟩;rw[KL] at X7;have q1:=hp p (by simpa using X7);have q2:=lt b hb;rw[←z,q1] at q2;exact Pp _ q2
 have Et:∀{pl:List (Addr×Obj)}{H':Hp},(∀p∈pl,p.1∈fp)->H' s.heap.objs.size=none->cU X' pl H' s.heap.objs.size:=fun {pl H'} hp hn=>by
  have Z3:=I4.ok
  have hm:s.heap.objs.size∈X'.ex:=by rw[Ce];exact Oh
  refine⟨hn,(Z3.exf _ hm).1,Z3.exfs _ hm,.inl hm,(Z3.exf _ hm).2,fun p X7 z=>?_⟩;rw[KL] at X7;have q2:=lt p.1 (hp p (by simpa using X7));rw[z] at q2;exact Pp _ q2
 refine zha (I:=fun m s'=>∃i Y7 H' ys Xr n,Y7.length=xs.length/\Inv X' [] (Y7++σ) H' s'/\tn i s'.heap/\(∀b∈fp,H' b=none)/\H' s.heap.objs.size=none/\Xv ys Xr/\s'.heap.get? s.heap.objs.size=some { cls:=.type "list",data:=.seq Xr.toArray n }/\W i m ys H') ?_ m0
  ⟨0,Ov xs.length none,H,[],[],0,by simp,I4,Br,fun b hb=>(hf b hb).1,Hb,.nil,CY,w0⟩
 rintro m s5 ⟨i,Y7,H5,ys,Xr,n,DX,I5,Ds,AA,d5,rv,e5,w5⟩
 have J4:Inv X' ([]++eW [s.heap.objs.size] s5.heap) (Y7++σ) H5 s5:=I5.pinned (fun b hb=>by
   have e:b=s.heap.objs.size:=by simpa using hb
   rw[e];exact Et (fun p hp=>absurd hp (by simp)) d5) fun b hb=>by
   have e:b=s.heap.objs.size:=by simpa using hb
   rw[e];exact⟨_,e5,fun v z=>by cases z⟩
 have pD:([]++eW [s.heap.objs.size] s5.heap:List (Addr×Obj))=[(s.heap.objs.size,{ cls:=.type "list",data:=.seq Xr.toArray n })]:=by
  simp[eW,e5]
 rw[pD] at J4
 have p1:∀p∈[(s.heap.objs.size,({ cls:=.type "list",data:=.seq Xr.toArray n }:Obj))],p.1=s.heap.objs.size:=fun p hp=>by
  have e:p=(s.heap.objs.size,{ cls:=.type "list",data:=.seq Xr.toArray n }):=by simpa using hp
  rw[e]
 have hsz:Xr.length=ys.length:=rv.length.symm
 rcases turn i m ys H5 w5 with⟨stop,hz,dn⟩|⟨go,hz,N,hN,step⟩
 .have q:=T.done X' xP xW xK xC i _ s5 (Y7++σ) H5 (Rw (OJ X.prog X.w) X.A (Q8 scope (bO X.env scope.names []) C X.env) fun e s'=>R (.error e) s') J4 (Bt p1 AA) Ds stop
  rw[xA] at q;refine Pw q (fun r s6 z=>?_) fun _ _ z=>z;obtain⟨rfl,I6⟩:=z;refine hR s6 H5 (Y7++σ) ys Xr n ?_ d5 rv (I6.pin _ (OE _ (OK.mpr rfl))).1 hz dn;exact I6.pins_of fun p hp=>absurd hp (by simp)
 .have q:=T.item X' xP xW xK xC i _ s5 (Y7++σ) H5 (Rw (OJ X.prog X.w) X.A (Q8 scope (bO X.env scope.names []) C X.env) fun e s'=>R (.error e) s') J4 (Bt p1 AA) Ds go
  rw[xA] at q;refine Pw q (fun r s6 z=>?_) fun _ _ z=>z;obtain⟨u,rfl,z⟩:=z;dsimp only;refine Pw z (fun _ s7 z=>?_) fun _ _ z=>z;obtain⟨v,H7,I7,IA,y7,Jq,HY⟩:=z;have EJ:=I7.pinned (Bt p1 HY) (T.obj _ _ Jq);rw[←xE];have a7:=hgg _ s7 _ H7 v u _ EJ IA (step v H7 y7 Y7 DX);rw[xP,xW,xA] at a7
  refine Pw a7 (fun _ s8 z=>?_) fun _ _ z=>by rw[J1] at z;exact z.elim
  obtain⟨Z0,H8,I8,⟨Dw,Hz,rfl⟩,q8⟩:=z;have t8:=Fd _ s8 (Dw++σ) H8 _ (Rw (OJ X.prog X.w) X.A X'.env fun e s'=>R (.error e) s') I8 q8;rw[xP,xW,xA] at t8;refine Pw t8 (fun ok s9 z=>?_) fun _ _ z=>z;obtain⟨H9,I9,q9⟩:=z
  have back:∀{s':Oi}{H':Hp}{YW:St},Inv X' ([(s.heap.objs.size,({ cls:=.type "list",data:=.seq Xr.toArray n }:Obj))]++eW fp s7.heap) YW H' s' ->
    tn (i+1) s'.heap/\(∀b∈fp,H' b=none)/\H' s.heap.objs.size=none/\s'.heap.get? s.heap.objs.size=some { cls:=.type "list",data:=.seq Xr.toArray n }/\Inv X' [] YW H' s':=fun {s' H' YW} I'=>by
   refine⟨T.keep _ _ _ Jq fun b hb o e=>(I'.pin (b,o) (OE _ (OE _ (jG hb e)))).1,fun b hb=>?_,?_,?_,I'.pins_of fun p hp=>absurd hp (by simp)⟩
   .obtain⟨o,e,_⟩:=T.obj _ _ Jq b hb
    exact(I'.pin (b,o) (OE _ (OE _ (jG hb e)))).2.1
   .exact(I'.pin (s.heap.objs.size,_) (OE _ (Pb _ (OK.mpr rfl)))).2.1
   .exact(I'.pin (s.heap.objs.size,_) (OE _ (Pb _ (OK.mpr rfl)))).1
  cases ok with
  |false=>
   simp only[PX,if_false] at q9 ⊢;obtain⟨m',hm,w9⟩:=hN _ _ q9;obtain⟨a1,a2,a3,a4,a5⟩:=back I9;exact⟨m',hm,i+1,Dw,H9,ys,Xr,n,Hz,a5,a1,a2,a3,rv,a4,w9⟩
  |true=>
   simp only[if_true] at q9 ⊢;have t9:=G4 _ s9 (Dw++σ) H9 _ I9 q9;rw[xP,xW,xA,J1] at t9;refine Pw t9 (fun u2 Fs z=>?_) fun _ _ z=>z.elim;obtain⟨y,J3,CO,Ik,Il⟩:=z;obtain⟨m',hm,EQ⟩:=hN _ _ Il;obtain⟨a1,a2,a3,a4,a5⟩:=back CO;refine Tg ⟨n,a4⟩ (fun h' pl sb=>?_) (by rw[Pg];omega);obtain⟨n',e'⟩:=pl;have D0:=Et (pl:=[]) (fun p hp=>absurd hp (by simp)) a3;refine⟨m',hm,i+1,Dw,J3,ys++[y],Xr++[u2],n',Hz,a5.turned (t':=Fs.toks) (fun b o hb e=>(sb.2 b hb).trans e) D0.1 D0.2.1 D0.2.2.2.1 D0.2.2.2.2.1 D0.2.2.2.2.2,?_,a2,a3,rv.append (.cons Ik .nil),by simpa using e',EQ⟩;exact T.keep _ _ _ a1 fun b hb o e=>(sb.2 b (OI (lt b hb))).trans e
noncomputable def G0(n:Nat)(g:TG)(wi:TI)(tt:TT)(te:TE):TE:=fun σ H Q=>wi σ H fun J H1=>∃W:Nat->Nat->List V->Hp->Prop,(∃m,W 0 m [] H1)/\su n g σ J tt te W fun ys H=>∀p,H p=none->Q (.ref p) (upd H p (.lst ys))
theorem zhc(hc:X.calm=true)(S:AM X.env.scope X.N xs scope N')(hi:PI X tg iter wi)(hg:∀C s0 H0 ex,PG (dP X xs scope C s0 H0 ex N') tg g)(he:∀C s0 H0 ex,PE (dP X xs scope C s0 H0 ex N') elt te)
  (ht:∀C s0 H0 ex,Ci (dP X xs scope C s0 H0 ex N') ifs tt) (hs:autoParam (∀v,Pc iter X.env v=pure v) u16):PE X (.ListComp elt [⟨tg,iter,ifs,0⟩] scope pos) (G0 xs.length g wi tt te):=by
 intro pins s σ H Q I h;rw[eval_ListComp];refine Rq (use:=none) rfl hs (pW (vi I S)) S.kind S.names (XD (hi pins s σ H _ I h) fun v s1 h1=>XD h1 fun Bs s2 h2=>?_);obtain⟨it,fp,tn,J,H2,rfl,I2,T,Cv,f2,W,⟨m0,w0⟩,turn⟩:=h2
 have ho:∀b∈fp,∃o,s2.heap.get? b=some o:=fun b hb=>let ⟨o,e,_⟩:=T.obj _ _ Cv b hb;⟨o,e⟩
 refine Pd (R6 S.nocell (by simp) (fun h' Ht Yy=>?_) S.kind);have I4:=zgy (xs:=xs) (scope:=scope) (tk:=s2.toks+([]:List (Str×Oc)).length) I2 S f2 ho Ht Yy
 have HH:∀b o,(s2.heap.push { cls:=.type "list",dict:=none,data:=.seq ([]:List Oc).toArray }).get? b=some o->h'.get? b=some o:=fun b o e=>
  (Yy.2 b (OI (Ow e))).trans (Og _ e)
 have Br:tn 0 h':=T.keep _ _ _ Cv fun b _ o e=>HH b o (Og _ e)
 have loop:=zhb (elt:=elt) (iter:=iter) (ifs:=ifs) (pos:=pos) (R:=compPost (OJ X.prog X.w) X.A X.xe none (EP X pins σ Q) (.ref s2.heap.objs.size) (s2.heap.push { cls:=.type "list",dict:=none,data:=.seq ([]:List Oc).toArray }).objs.size) (σ':=σ)
  hc S f2 ho rfl T I4 Br (HH _ _ (Oy _ rfl)) (I2.hok.fresh (Oo _)) (hg _ _ _ _) (he _ _ _ _) (ht _ _ _ _) w0 turn fun s5 H5 BQ ys Xr n J5 d5 rv e5 hz dn=>by
   obtain⟨m,hn,_⟩:=J5.loc;exact⟨m,hn,fun GJ sb=>⟨.ref s2.heap.objs.size,_,zgz I2 f2 rfl J5 sb d5 ⟨Xr,n,rv,e5⟩ hz,rfl,dn _ d5⟩⟩
 exact RM loop (T.self X.A 0 _ _ _ Br loop)
end
end L2
namespace D
open L2
noncomputable def gf(c:FT)(e:FE)(ρ:Xw):List Oa->Tp->Option (List Oa×Tp)
 |[],T=>some ([],T)
 |.tuple [a,b]::r,T=>Xy (c (some (.d a)::some (.d b)::ρ) T) fun k T1=>if k=true then Xy (e (some (.d a)::some (.d b)::ρ) T1) fun w T2=>match w with
   |.d y=>Xy (gf c e ρ r T2) fun ys T3=>some (y::ys,T3)
   |_=>none
  else gf c e ρ r T1
 |_,_=>none
noncomputable def ou(it:FI)(c:FT)(e:FE):FE:=fun ρ T=>Xy (it ρ T) fun ds T1=>Xy (gf c e ρ ds T1) fun ys T2=>some (.d (.list ys),T2)
theorem zhd{K:Frag}{O:Addr->Prop}{ts:List Addr}{H1:Hp}{σ:L2.St}{ρ:Xw}{J:It}{c:FT}{e:FE}{g:TG}{ds ys:List Oa}{T1 T2:Tp}{Dn:List V->Hp->Prop}(hc:HC K O ts H1 T1)(re:X9 K O ts H1 σ ρ)(ok:YN K O H1 J ds)(hz:ds.length<=Om)
  (hg:∀(a:Addr) (v u o1 o2:V) (p q:Option V) (H:Hp) (Q:L2.St->Hp->Prop),Yn K H a [v,u]->Q (some v::some u::σ) H->g (.ref a) (p::q::σ) H Q)
  (ee:gf c e ρ ds T1=some (ys,T2)) (q:∀vs H',Xx ts H1 H'->HC K O ts H' T2->Xs K O H' vs ys->Dn vs H') :
  ∃W:Nat->Nat->List V->Hp->Prop,(∃m,W 0 m [] H1)/\su 2 g σ J (liftT K c) (lift K e) W Dn:=by
 refine⟨fun i m vs H'=>m=ds.length-i/\i<=ds.length/\vs.length<=i/\∃T dn rs,Xx ts H1 H'/\HC K O ts H' T/\Xs K O H' vs dn/\gf c e ρ (ds.drop i) T=some (rs,T2)/\ys=dn++rs,⟨_,rfl,Pm _,Oo _,T1,[],ys,.refl _ _,hc,.nil,ee,rfl⟩,?_⟩;rintro i m vs H' ⟨rfl,hi,hv,T,dn,rs,s1,Xt,rv,ec,ey⟩;obtain⟨k1,k2,k3⟩:=ok O H' (hc.le s1)
 by_cases Yq:i<ds.length
 .refine .inr ⟨k1 i Yq,by omega,fun FG H2=>i+1<=ds.length/\FG.length<=i+1/\∃T dn rs,Xx ts H1 H2/\HC K O ts H2 T/\Xs K O H2 FG dn/\gf c e ρ (ds.drop (i+1)) T=some (rs,T2)/\ys=dn++rs,fun FG H2 n=>⟨ds.length-(i+1),by omega,rfl,n⟩,fun v H2 y Y7 hσ=>?_⟩
  obtain⟨e2,d,hd,rd⟩:=k3 i v H2 y Yq;subst e2
  have II:ds.drop i=d::ds.drop (i+1):=by
   rw[QG Yq,(Od.mp hd).2]
  rw[II] at ec;generalize ds.drop (i+1)=rest at ec
  have hab:∃a b,d=.tuple [a,b]:=by
   unfold gf at ec;split at ec
   .simp_all
   .simp_all
   .cases ec
  obtain⟨a,b,rfl⟩:=hab
  .cases rd with
   |@tup ad us _ tu ru=>
   cases ru with
   |cons ra ru=>
   cases ru with
   |cons rb ru=>
   cases ru
   obtain⟨p1,p2,rfl⟩:∃p1 p2,Y7=[p1,p2]:=by
    match Y7,hσ with
    |[p1,p2],_=>exact⟨p1,p2,rfl⟩
   refine hg ad _ _ .non .non p1 p2 H2 _ tu.sq ⟨⟨[_,_],rfl,rfl⟩,?_⟩;obtain⟨k,T3,e3,ec⟩:=aL ec;have Cq:X9 K O ts H2 (_::_::σ) (some (.d a)::some (.d b)::ρ):=((re.mono hc s1).cons rb).cons ra;refine⟨O,ts,some (.d a)::some (.d b)::ρ,T,k,T3,Xt,Cq,e3,fun H3 s3 Yj=>?_⟩
   cases k with
   |false=>
    rw[if_neg OB] at ec;exact iK ⟨Yq,by omega,T3,dn,rs,s1.trans s3,Yj,rv.mono (Xt.le s3),ec,ey⟩
   |true=>
    rw[if_pos rfl] at ec;obtain⟨w,T4,e4,ec⟩:=aL ec;refine iJ ⟨O,ts,some (.d a)::some (.d b)::ρ,T3,w,T4,Yj,Cq.mono Xt s3,e4,fun u H4 s4 Fg r4=>?_⟩;split at ec
    .rename_i y
     obtain⟨zs,T5,e5,ec⟩:=aL ec;cases ec;exact⟨Yq,by simp;omega,T4,dn++[y],zs,s1.trans (s3.trans s4),Fg,(rv.mono (Xt.le (s3.trans s4))).append (.cons r4 .nil),e5,by rw[ey];simp⟩
    .cases ec
 .have e:i=ds.length:=by omega
  subst e;rw[P6 (Oo _)] at ec;cases ec;rw[PF] at ey;subst ey;exact .inl ⟨k2,by omega,q vs H' s1 Xt rv⟩
theorem zhe(S:AM osc N [x,y] scope N')(hi:DI X (.Tuple [.Name x px,.Name y py] k tp) iter it)
  (he:∀C s0 H0 ex,DE (dP X [x,y] scope C s0 H0 ex N') elt f) (ht:∀C s0 H0 ex,Cn (dP X [x,y] scope C s0 H0 ex N') ifs c) (hc:autoParam (X.calm=true) u10) (hs:autoParam (X.env.scope=osc) u10) (hN:autoParam (X.N=N) u10)
  (hf:autoParam (∀v,Pc iter X.env v=pure v) u16):DE X (.ListComp elt [⟨.Tuple [.Name x px,.Name y py] k tp,iter,ifs,0⟩] scope pos) (ou it c f):=by
 refine⟨?_⟩;subst hs hN;have lx:∀C,(Q8 scope (bO X.env scope.names []) C X.env).scope.names.lookup x=some .local:=fun C=>R5 (S.hx x (by simp));have ly:∀C,(Q8 scope (bO X.env scope.names []) C X.env).scope.names.lookup y=some .local:=fun C=>R5 (S.hx y (by simp));refine bo (zhc (xs:=[x,y]) (g:=Af X.K 2 (sQ (oE 0) (sQ (oE 1) Ag))) (wi:=zC X.K it) (tt:=liftT X.K c) (te:=lift X.K f) hc S hi.pe (fun C s0 H0 ex=>yB (X:=dP X [x,y] scope C s0 H0 ex N') (n:=2) hc (m9 (iw S.nd (i:=0) rfl (.inl (lx C)) (.inr (lx C))) (m9 (iw S.nd (i:=1) rfl (.inl (ly C)) (.inr (ly C))) xq))) (fun C s0 H0 ex=>(he C s0 H0 ex).pe) (fun C s0 H0 ex=>(ht C s0 H0 ex).pe) hf) fun σ H Q=>?_;rintro⟨O,ts,ρ,T,w,T',hc,re,e,q⟩;obtain⟨ds,T1,e1,e⟩:=aL e;obtain⟨ys,T2,e2,e⟩:=aL e;cases e;refine⟨O,ts,ρ,T,ds,T1,hc,re,e1,fun J H1 s1 Xt ok hz=>?_⟩;exact zhd Xt (re.mono hc s1) ok hz (fun a v u _ _ p q H Q t z=>⟨a,_,rfl,t,rfl,_,_,rfl,_,_,rfl,rfl,z⟩) e2 fun vs H' s2 XC r2 p hp=>q _ _ (s1.trans (s2.trans (.new hp _))) (XC.new hp _) (XC.newL hp r2)
theorem w4{X:Cx}{pins:List (Addr×Obj)}{σ:L2.St}{H:Hp}{s:Oi}{h':Heap}{t':Nat}{fp:List Addr}(I:Inv X pins σ H s)(k:∀b o,b∉fp->s.heap.get? b=some o->h'.get? b=some o)(hf:∀b∈fp,cU X pins H b):Inv X pins σ H { s with heap:=h',toks:=t' }:=by
 have BD:∀b u,H b=some u->b∉fp:=fun b u e z=>by rw[(hf b z).1] at e;cases e
 have hL:X.env.locals∉fp:=fun z=>(hf _ z).2.1 rfl
 refine I.step (g':=s.gens) (d':=s.drawn) (ch:=fp) (fun b hb=>?_) (fun b o _ _ hc e _=>k b o hc e) (fun b o _ _ hc e _=>⟨o.slots,k b o hc e⟩) (fun _ _ _ _ n=>n)
  (fun b o hc e=>⟨o,k b o hc e⟩) (fun _ _ e=>e) (fun _ _ _ e=>e) (fun b ps e=>⟨#[],by simp_all⟩) (fun m hm=>?_) (fun b u e=>?_) I.bare
 .obtain⟨_,f1,_,f3,f4,f5⟩:=hf b hb
  exact⟨f3,f1,f4,f5⟩
 .obtain⟨o,es,ep,ho,r⟩:=hm
  exact⟨o,es,ep,k _ o hL ho,r⟩
 .refine(I.hok b u e).stay (fun c v hc q=>k c v ?_ q) (fun _ q=>q) fun _ _ q=>q
  rcases hc with z|z
  .rw[z];exact BD b u e
  .exact BD c _ z
section
variable {K:Frag}{O₀:Addr->Prop}{H₀:Hp}{F:List ((Addr->Prop)×Hp)}{ts:List Addr}{O A:Addr->Prop}{H H1:Hp}{σ:L2.St}{ρ:Xw}{T T1:Tp}
theorem RS.widen(r:RS K O₀ H₀ F ts O H σ ρ T)(s:Xx ts H H1)(hA:∀b,A b->H b=none/\¬O b)(c:HC K (fun b=>O b\/A b) ts H1 T1):RS K O₀ H₀ F ts (fun b=>O b\/A b) H1 σ ρ T1:=by
 have le:Le O H (fun b=>O b\/A b) H1:=fun a o n e=>⟨fun z=>z.elim n fun z=>(by simp_all),s a o (fun z=>n (r.hc.own a z)) e⟩;refine⟨c,fun i w e=>?_,fun b hb=>.inl (r.sub b hb),r.ots,r.same.trans s,r.fresh,r.dist,fun f hf=>(r.frs f hf).trans le,r.len⟩;obtain⟨v,h1,h2⟩:=r.re i w e;refine⟨v,h1,?_⟩
 cases w with
 |d x=>exact Rep.mono le h2
 |tp k=>exact h2
 |loc ys=>
  obtain⟨a,ea,m1,m2,m3⟩:=h2;exact⟨a,ea,.inl m1,m2,m3.mono (fun o q=>s _ _ m2 q) le⟩
theorem RS.hold(r:RS K O₀ H₀ F ts O H σ ρ T)(ha:O a)(nt:a∉ts)(hf:H₀ a=none/\¬O₀ a)(nh:∀(j:Nat) (ys:Oa),ρ[j]? = some (some (W.loc ys))->σ[j]? = some (some (V.ref a))->False)(rv:Yf K O H a xs) :
  RS K O₀ H₀ F ts O H (σ.set i (some (.ref a))) (ρ.set i (some (.loc xs))) T:=by
 refine⟨r.hc,fun j w e=>?_,r.sub,r.ots,r.same,fun j ys b e1 e2=>?_,fun j k ys zs v e1 e2 e3 e4=>?_,r.frs,by simp[r.len]⟩
 .by_cases z:i=j
  .subst z
   have hl:i<ρ.length:=by
    have:=(Od.mp e).1;simpa using this
   rw[Oq hl] at e;cases e;exact⟨.ref a,by rw[Oq (by rw[r.len];exact hl)],a,rfl,ha,nt,rv⟩
  .rw[On z] at e
   obtain⟨x,h1,h2⟩:=r.re j w e;exact⟨x,by simp_all,h2⟩
 .by_cases z:i=j
  .subst z
   have hl:i<ρ.length:=by
    have:=(Od.mp e1).1;simpa using this
   rw[Oq (by rw[r.len];exact hl)] at e2;cases e2;exact hf
  .rw[On z] at e1 e2
   exact r.fresh j ys b e1 e2
 .by_cases z:i=j
  .by_cases z':i=k
   .rw[←z,←z']
   .exfalso
    subst z
    have hl:i<ρ.length:=by
     have:=(Od.mp e1).1;simpa using this
    rw[Oq (by rw[r.len];exact hl)] at e3;cases e3;rw[On z'] at e2 e4;exact nh k zs e2 e4
  .by_cases z':i=k
   .exfalso
    subst z'
    have hl:i<ρ.length:=by
     have:=(Od.mp e2).1;simpa using this
    rw[Oq (by rw[r.len];exact hl)] at e4;cases e4;rw[On z] at e1 e3;exact nh j ys e1 e3
   .rw[On z] at e1 e3
    rw[On z'] at e2 e4;exact r.dist j k ys zs v e1 e2 e3 e4
theorem RS.keep(r:RS K O₀ H₀ F ts O H σ ρ T)(hA:∀b,A b->O b):HC K (fun b=>O₀ b\/A b) ts H T/\Le O H (fun b=>O₀ b\/A b) H:=by
 have le:Le O H (fun b=>O₀ b\/A b) H:=fun a o n e=>⟨fun z=>n (z.elim (r.sub a) (hA a)),e⟩;exact⟨⟨fun b hb=>.inl (r.ots b hb),fun b hb=>r.hc.trk b (hb.elim (r.sub b) (hA b)),r.hc.nd,r.hc.len,fun i a xs e1 e2=>(r.hc.tape i a xs e1 e2).mono (fun _ h=>h) le⟩,le⟩
end
noncomputable def om(o:Option ((Fl×Xw)×Tp)):Option (Oa×Tp):=Xy o fun p T=>match p with
 |(.ro x,_)=>some (x,T)
 |_=>none
noncomputable def kg(N:Nat)(f:FS):XB:=fun ws T=>if eh ws=true then om (f (ws.map some++Ov (N-ws.length) none) T) else none
inductive C0(K:Frag)(n:Nat)(m:XB)(vs:List V)(H:Hp)(Q:VK):Prop where
 |mk (O:Addr->Prop) (ts:List Addr) (T:Tp) (ws:List W) (x:Oa) (T':Tp) (hc:HC K O ts H T) (r:gU K O ts H vs ws) (hl:ws.length=n) (e:m ws T=some (x,T'))
  (q:∀(A:Addr->Prop) v H',Xx ts H H'->(∀b,A b->H b=none/\¬O b)->HC K (fun b=>O b\/A b) ts H' T'->Z8 K (fun b=>O b\/A b) A H' v x->Q v H'):C0 K n m vs H Q
noncomputable def BC(K:Frag)(n:Nat)(m:XB):Sp:=fun vs H Q _=>C0 K n m vs H Q
theorem zhf{P:Oz}{w:OO}{K:Frag}{mg:Str->Option Oc}{base:Heap}{x qual:Str}{st:Stmt}{f:Addr}{fd:QD}{N ps:List Str}{k:Nat}{m:FS}(F:Ju K x qual st f fd)(S:XQ N ps (aW st))
  (Yb:∀(XS:Oc) (A:O0) (outer:List Env) (s:Oi) (H:Hp) (E:XK),XA k (A.deeper (RK qual (aW st) s.heap.objs.size f XS))->Za (dY YT P w K mg base N qual (aW st) f XS A outer s H E).nox (bV st) m) :
  X5 P w K mg base YT (k+1) f fd ps (BC K ps.length (kg N.length m)):=by
 refine F.ok S (fun vs H Q E h=>?_) (fun XS A outer s H vs Q E hr h=>⟨_,(Yb XS A _ s H E hr).pe,?_⟩)
 .obtain⟨O,ts,T,ws,x,T',hc,YA,hl,_⟩:=h
  rw[←hl];exact Qh YA
 obtain⟨O,ts,T,ws,x,T',hc,YA,hl,e,q⟩:=h;unfold kg at e;split at e
 .rename_i hn
  obtain⟨⟨fl,ρ'⟩,T1,e1,e⟩:=aL e;have XI:=Qh YA;have FJ:∀{i:Nat}{xs:Oa},(ws.map some++Ov (N.length-ws.length) none)[i]? = some (some (W.loc xs))->False:=fun {i xs} e=>mW hn (OA (mV e));refine⟨O,H,[],ts,O,_,T,fl,ρ',T1,⟨hc,fun i u e=>?_,fun _ h=>h,hc.own,.refl _ _,fun i xs a e1 _=>(FJ e1).elim,fun i j xs ys v e1 _ _ _=>(FJ e1).elim,fun f hf=>absurd hf (by simp),by simp[L2.start,XI]⟩,e1,?_⟩
  .obtain⟨v,h1,h2⟩:=p9 YA (mV e)
   refine⟨v,?_,h2⟩;unfold L2.start;have hi:=(Od.mp h1).1;rw[Os (by simpa using hi),O7,h1];rfl
  .cases fl with
   |ro y=>cases e;exact q
   |_=>cases e
 .cases e
section
variable {X:Cx}
def YS(l:List (Str×Oa)):Bool:=decide ((l.map (·.1)).Nodup)&&decide (l.length<=15)
end
noncomputable def nW(i:Nat)(fr:FS)(ρ:Xw)(x:Oa)(T:Tp):Option ((Fl×Xw)×Tp):=match x with
 |.list xs=>jP T.length (fr (ρ.set i (some (.tp T.length))) (T++[xs]))
 |_=>none
noncomputable def ot(i:Nat)(m:XB)(g:FA)(fr:FS):FS:=fun ρ T=>Xy (g ρ T) fun ws T1=>Xy (m ws T1) (nW i fr ρ)
theorem zhg(h:nW i fr ρ x T=some r):∃xs,x=.list xs/\jP T.length (fr (ρ.set i (some (.tp T.length))) (T++[xs]))=some r:=by
 cases x with
 |list xs=>exact⟨xs,rfl,h⟩
 |_=>cases h
section
variable {X:Cx}{pos:Pos}{rest:List Stmt}{fr:FS}
theorem zhh(F:Fn X.prog X.w X.K X.mg X.base name ps kk (BC X.K ps.length m))(hr:XA kk X.A)(hg:Gl X name)(hN:X.N.Nodup)(ha:DA X (e::es) g)(hl:fT g ps.length)(ZI:Za X rest fr)(Yk:autoParam ((name == ("__debug__" : Str))=false) u11)
  (he:autoParam (Ol (e::es) X.env=(false,eval e X.env)::Ol es X.env) u12) (X7:autoParam ((Pe Xu (Ol es X.env)).any (·.1)=false) u13) (hi:autoParam (X.N[i]? = some x) u10) (hx:autoParam (Loc X.env.scope x) u18)
  (hs:autoParam (PB (.Call (.Name name p) (e::es) [] Xu) (some (.Name x pos')) pos.line X.env=pure false) u10) (hf:autoParam (X.fn x=true\/X.env.scope.names.lookup x=some .local) u15) :
  Za X (.Assign [.Name x pos'] (.Call (.Name name p) (e::es) [] Xu) pos::rest) (ot i m g fr):=by
 refine⟨?_⟩;refine nB (cH (da hN hi hx (gQ F hr hg ha.pe Yk he X7) hs hf) ZI.pe) fun D σ H=>?_;rintro⟨O₀,H₀,F,ts,O,ρ,T,fl,ρ',T',rs,e,q⟩;obtain⟨ws,T1,e1,e⟩:=aL e;obtain⟨x0,T2,e2,e⟩:=aL e;obtain⟨xs,rfl,e⟩:=zhg e;refine⟨O,ts,ρ,T,ws,T1,rs.hc,rs.re,e1,fun vs H1 s1 Xt r1=>?_⟩;have YI:=rs.step s1 Xt;refine⟨O,ts,T1,ws,_,_,Xt,by simp_all,hl _ _ _ _ e1,e2,fun A v H2 s2 hA XC ov=>?_⟩;obtain⟨a,rfl,Gu,us,k1,k2⟩:=ov;have DP:=hA a ((Gu a).mpr rfl);have Gn:a∉ts:=fun z=>DP.2 (Xt.own a z)
 let H3:Hp:=fun b=>if b=a then none else H2 b
 have h3:∀{b:Addr},b≠a->H3 b=H2 b:=fun n=>if_neg n;have ha3:H3 a=none:=if_pos rfl
 have eH:upd H3 a (.lst us)=H2:=funext fun b=>by
  by_cases z:b=a
  .subst z;rw[bj];exact k1.symm
  .rw[aK z];exact h3 z
 have le:Le (fun b=>O b\/A b) H2 O H3:=fun b o n z=>⟨fun y=>n (.inl y),by simp_all⟩
 have s3:Xx ts H1 H3:=fun b o n z=>by
  have nb:b≠a:=fun y=>by rw[y,DP.1] at z;cases z
  rw[h3 nb];exact s2 b o n z
 have c3:HC X.K O ts H3 T2:=⟨Xt.own,fun b hb=>by
   have nb:b≠a:=fun y=>DP.2 (y ▸ hb);rw[h3 nb]
   exact XC.trk b (.inl hb),XC.nd,XC.len,fun j b ys q1 q2=>(XC.tape j b ys q1 q2).mono (fun o h=>by rw[h3 (show b≠a from fun y=>Gn (by rw[←y];exact OA q1))];exact h) le⟩
 have:=Zq (X:=X) (YI.step s3 c3) ha3 (k2.mono le) e q;rw[eH] at this;exact this
end
end D
namespace XE
open L2
def TB(T:Addr)(fl:Oc)(h:Heap):Prop:=∃oT ts,h.get? T=some oT/\oT.data=.fields ts/\ts[3]? = some fl
end XE
namespace XE
open L2
section
variable {X:Cx}{pins:List (Addr×Obj)}{σ:L2.St}{H:Hp}{s:Oi}
theorem KR{A:O0}:(A.mark v).frames=A.frames:=rfl
end
end XE
namespace D
open L2
noncomputable def so(n:Nat)(o:Option (Oa×Tp)):Option (W×Tp):=match o with
 |some (y,T)=>if T.length=n+1 then some (.d y,T.take n) else none
 |none=>none
noncomputable def nY(mf:XB)(xs:List Oa)(ws:List W)(T:Tp):Option (W×Tp):=if eh ws=true then so T.length (mf (.tp T.length::ws) (T++[xs])) else none
noncomputable def nX(mf:XB)(g:FA)(ρ:Xw)(x:Oa)(T:Tp):Option (W×Tp):=match x with
 |.list xs=>Xy (g ρ T) (nY mf xs)
 |_=>none
noncomputable def se(mf mh:XB)(g1 g2:FA):FE:=fun ρ T=>Xy (g1 ρ T) fun ws T1=>Xy (mh ws T1) (nX mf g2 ρ)
theorem zhi(h:nX mf g ρ x T=some (w,T')):∃xs ws T3 y T5,x=.list xs/\g ρ T=some (ws,T3)/\eh ws=true/\mf (.tp T3.length::ws) (T3++[xs])=some (y,T5)/\T5.length=T3.length+1/\w=.d y/\T'=T5.take T3.length:=by
 cases x with
 |list xs=>
  obtain⟨ws,T3,e1,e⟩:=aL (show Xy (g ρ T) (nY mf xs)=_ from h);unfold nY at e;split at e
  .rename_i hn
   unfold so at e;split at e
   .rename_i y T5 e2
    split at e
    .rename_i hl
     cases e;exact⟨xs,ws,T3,y,T5,rfl,e1,hn,e2,hl,rfl,rfl⟩
    .cases e
   .cases e
  .cases e
 |_=>cases h
section
variable {X:Cx}{pos:Pos}{e:Expr}{fe:FE}
theorem zhj(Ff:Fn X.prog X.w X.K X.mg X.base JC ps kf (XF X.K ps.length mf))(Fh:Fn X.prog X.w X.K X.mg X.base Zg qs kh (BC X.K qs.length mh))(hrf:XA kf X.A)(hrh:XA kh X.A)(hgf:Gl X JC)(hgh:Gl X Zg)
  (ha:DA X (a::as) g1) (HL:fT g1 qs.length) (he:DA X es g2) (HJ:fT (ab (fC .none) g2) ps.length) (G9:autoParam ((JC == ("__debug__" : Str))=false) u11) (hdh:autoParam ((Zg == ("__debug__" : Str))=false) u11)
  (Fq:autoParam (Ol (a::as) X.env=(false,eval a X.env)::Ol as X.env) u12) (EV:autoParam ((Pe c2 (Ol as X.env)).any (·.1)=false) u13)
  (Bh:autoParam (Ol (.Call (.Name Zg p2) (a::as) [] c2::es) X.env=(false,eval (.Call (.Name Zg p2) (a::as) [] c2) X.env)::Ol es X.env) u12) (BB:autoParam ((Pe Xu (Ol es X.env)).any (·.1)=false) u13) :
  DE X (.Call (.Name JC p) (.Call (.Name Zg p2) (a::as) [] c2::es) [] Xu) (se mf mh g1 g2):=by
 refine⟨?_⟩;refine bo (gQ Ff hrf hgf (bH (gQ Fh hrh hgh ha.pe hdh Fq EV) he.pe Bh) G9 Bh BB) fun σ H Q=>?_;rintro⟨O,ts,ρ,T,w,T',hc,re,e,q⟩;obtain⟨ws,T1,e1,e⟩:=aL e;obtain⟨x,T2,e2,e⟩:=aL e;obtain⟨xs,CJ,T3,y,T5,rfl,e3,BA,e4,XI,rfl,rfl⟩:=zhi e;refine⟨O,ts,ρ,T,ws,T1,hc,re,e1,fun vs H1 s1 Xt r1=>?_⟩;refine⟨O,ts,T1,ws,_,_,Xt,by simp_all,HL _ _ _ _ e1,e2,fun A v H2 s2 hA XC ov=>?_⟩;obtain⟨b,rfl,Gu,us,k1,k2⟩:=ov;have Aw:=hA b ((Gu b).mpr rfl);have CF:b∉ts:=fun z=>Aw.2 (Xt.own b z);have IC:Le O H1 (fun c=>O c\/A c) H2:=fun c o n z=>⟨fun y=>y.elim n fun y=>(by simp_all),s2 c o (fun y=>n (Xt.own c y)) z⟩
 have Cq:X9 X.K (fun c=>O c\/A c) ts H2 σ ρ:=fun i w e=>by
  obtain⟨v,h1,h2⟩:=(re.mono hc s1) i w e;refine⟨v,h1,?_⟩
  cases w with
  |d x=>exact Rep.mono IC h2
  |tp k=>exact h2
  |loc ys=>
   obtain⟨a',ea,m1,m2,m3⟩:=h2;exact⟨a',ea,.inl m1,m2,m3.mono (fun o q=>s2 _ _ m2 q) IC⟩
 refine⟨_,ts,ρ,T2,CJ,T3,XC,Cq,e3,fun CC H3 s3 Yj r3=>?_⟩;have kb3:H3 b=some (.lst us):=s3 b _ CF k1;have AB:=k2.mono (XC.le s3);have Bu:ts.length=T3.length:=Yj.len
 have Fg:HC X.K (fun c=>O c\/A c) (ts++[b]) H3 (T3++[xs]):=by
  refine⟨fun c YK=>?_,Yj.trk,?_,by simp[Bu],fun i c ys q1 q2=>?_⟩
  .rcases OD.mp YK with z|z
   .exact Yj.own c z
   .rw[OK.mp z];exact .inr ((Gu b).mpr rfl)
  .exact Qq.mpr ⟨Yj.nd,by simp,fun c YK d hd z=>CF (by rw[←OK.mp hd,←z];exact YK)⟩
  .by_cases hi:i<ts.length
   .rw[Os hi] at q1
    rw[Os (by lia)] at q2;exact Yj.tape i c ys q1 q2
   .have Zm:i=ts.length:=by
     have:=(Od.mp q1).1;simp at this
     lia
    subst Zm;rw[O6 (Oo _)] at q1;rw[O6 (by lia)] at q2;simp[Bu] at q1 q2;subst q1 q2;exact .inl ⟨AB.notO,us,kb3,AB⟩
 have rw4:gU X.K (fun c=>O c\/A c) (ts++[b]) H3 (.ref b::CC) (.tp T3.length::CJ):=by
  refine .cons ⟨b,by rw[O6 (by lia)];simp[Bu],rfl⟩ ?_;clear e4 XI q e3
  induction r3 with
  |nil=>exact .nil
  |@cons v w vs ws h t ih=>
   cases w with
   |d x=>exact .cons h (ih BA)
   |tp i=>
    obtain⟨c,h1,h2⟩:=h;exact .cons ⟨c,by rw[Os (Od.mp h1).1];exact h1,h2⟩ (ih BA)
   |loc _=>cases BA
 have hlw:(W.tp T3.length::CJ).length=ps.length:=by
  have:=HJ ρ T2 (.d .none::CJ) T3 (by show Xy (some (W.d .none,T2)) _=_;rw[zew,e3];rfl);simpa using this
 refine⟨_,ts++[b],T3++[xs],.tp T3.length::CJ,y,T5,Fg,by rw[PF];exact rw4,hlw,e4,fun v H4 s4 CH r5=>?_⟩;have A7:Le (fun c=>O c\/A c) H4 O H4:=fun c o n z=>⟨fun y=>n (.inl y),z⟩;refine q v H4 (fun c o n z=>?_) ⟨hc.own,fun c YK=>CH.trk c (.inl YK),hc.nd,?_,fun i c ys q1 q2=>?_⟩ (Rep.mono A7 r5)
 .have h1:=s1 c o n z
  have nb:c≠b:=fun y=>by rw[y,Aw.1] at h1;cases h1
  refine s4 c o (fun y=>?_) (s3 c o n (s2 c o n h1))
  rcases OD.mp y with z|z
  .exact n z
  .exact nb (OK.mp z)
 .rw[QA,XI,Bu]
  lia
 .have hi:i<ts.length:=(Od.mp q1).1
  rw[Ro (by lia)] at q2;exact(CH.tape i c ys (by rw[Os hi];exact q1) q2).mono (fun _ h=>h) A7
theorem zhk:JK X "list.pop" (fun x vs H Q=>∃(l:Addr) (xs:List V) (i:Int) (k:Nat) (y:V),x=.ref l/\vs=[.int i]/\H l=some (.lst xs)/\i=k/\xs[k]? = some y/\xs.length<=1000/\Q y (upd H l (.lst (xs.eraseIdx k)))):=by
 intro pins s σ H x vs v us Q I rx rv h;obtain⟨l,xs,i,k,y,rfl,rfl,hH,hik,hy,hz,q⟩:=h;cases rx;obtain⟨u,rfl,ru⟩:=rv.one;obtain⟨t,rfl⟩:=ru;obtain⟨z,Xr,n,r,hl,e⟩:=I.lstM hH
 have JT:(1001:Nat)<=sizeLine:=by decide
 obtain⟨u,hu,ru⟩:=r.get hy;have hk:k<Xr.length:=(Od.mp hu).1;have Z6:SN i=true:=fitsIndex_both (by lia) (by lia)
 have hsi:VH i Xr.toArray.size=some k:=by
  have h0:¬(i<0):=by lia
  unfold VH;rw[if_neg h0];simp[hk,hik]
 have Fc:Xr.toArray[k]? = some u:=by simpa using hu
 have JY:Xr.toArray.size<=sizeLine:=by simp_all
 clear JT hz
 have er:Xv (xs.eraseIdx k) (Xr.eraseIdx k):=by
  rw[RT,RT];exact(r.take k).append (r.drop (k+1))
 refine QP F.slot_list_pop ⟨_,e,rfl⟩ F.entry_list_pop (F.args_list_pop_2 _ _) (Wm l Xr.toArray n i t k u Z6 hsi Fc JY) ⟨e,?_⟩;refine⟨y,_,I.lset  hH e ?_ er ?_,ru,q⟩
 simp_all
 .exact OC (List.length_eraseIdx_le xs k) (by simp_all)
theorem zhl(l:Addr)(items:Array Oc)(n:Nat)(dd:Option Addr)(sl:Array (Option Oc))(x:Int)(u:Tok)(KH:¬(!Builtin.List.listFitsIndex x)=true)(Xt:¬items.size*x.toNat>(2^63-1) / 8)(XC:¬Pz (items.size*x.toNat)=true) :
  Xg (Vp.«list.__mul__» ⟨[.ref l,.int x u],[]⟩) (fun _ R s=>s.heap.get? l=some { cls:=.type "list",dict:=dd,data:=.seq items n,slots:=sl }/\R (.ok (.ret (OV s.heap.objs.size))) { s with heap:=s.heap.push { cls:=RV "list",data:=Xf (Rz (fun x1 x2=>x1++x2) #[] (Ov (if items.isEmpty=true then 0 else x.toNat) items)) },toks:=s.toks }):=
 .of_wp fun prog w A R s h=>by
  obtain⟨hp,g,d,tk,os⟩:=s;obtain⟨hl,h⟩:=h;have f1:=VN;have f2:=S7;have f3:=TY;have f4:=Tj;have f5:=Tn;have hsz:=Wa XC;wp_walk using Sd hl;refine wpAny_ite_false (decide_eq_false (Nat.not_lt.mpr hsz)) ?_;wp_walk using Sd hl;exact⟨_,rfl,h⟩
theorem zhm(a:Int)(t:Tok)(l:Addr)(items:Array Oc)(n:Nat)(dd:Option Addr)(sl:Array (Option Oc)) :
  Xg (Vp.«int.__rmul__» ⟨[.int a t,.ref l],[]⟩) (fun _ R s=>s.heap.get? l=some { cls:=.type "list",dict:=dd,data:=.seq items n,slots:=sl }/\R (.ok (.ret UB)) s):=.of_wp fun prog w A R s h=>by obtain⟨hp,g,d,tk,os⟩:=s;obtain⟨hl,h⟩:=h;wp_walk;exact⟨_,rfl,h⟩
noncomputable def nV(ρ:Xw)(T:Tp)(o:Option (Option W)):Option ((Fl×Xw)×Tp):=match o with
 |some (some (.loc (.list xs)))=>some ((.ro (.list xs),ρ),T)
 |_=>none
noncomputable def f9(i:Nat):FS:=fun ρ T=>nV ρ T ρ[i]?
theorem wK(hN:autoParam (X.N[i]? = some x) u10)(hv:autoParam (A0 X.env.scope x) u20)(hd:autoParam ((x == ("__debug__" : Str))=false) u11)(hcd:autoParam ((x == ("__classdict__" : Str))=false) u11) :
  DS X (.Return (some (.Name x p)) pos) (f9 i):=by
 refine⟨?_⟩;refine dG (jZ (pv i hN hv hd hcd)) fun D σ H=>?_;rintro⟨O₀,H₀,F,ts,O,ρ,T,fl,ρ',T',rs,e,q⟩;unfold f9 nV at e;split at e
 .rename_i xs h1
  cases e;obtain⟨v,k1,a,rfl,k2,k3,vs,k4,k5⟩:=rs.re i _ h1
  obtain⟨c,le⟩:=rs.keep (A:=fun c=>c=a) fun c hc=>by simp_all
  exact⟨_,k1,q (fun c=>c=a) (.ref a) H rs.same (fun c hc=>by rw[hc];exact rs.fresh i _ a h1 k1) c ⟨a,rfl,fun _=>Iff.rfl,vs,k4,k5.mono le⟩⟩
 .cases e
noncomputable def yr(i:Nat)(ρ:Xw)(x:Oa)(T:Tp):Option ((Fl×Xw)×Tp):=match x with
 |.list xs=>some ((.nx,ρ.set i (some (.loc (.list xs)))),T)
 |.none=>some ((.nx,ρ.set i (some (.d .none))),T)
 |_=>none
noncomputable def oq(i:Nat)(m:XB)(g:FA):FS:=fun ρ T=>Xy (g ρ T) fun ws T1=>Xy (m ws T1) (yr i ρ)
theorem zhn(F:Fn X.prog X.w X.K X.mg X.base name ps kk (BC X.K ps.length m))(hr:XA kk X.A)(hg:Gl X name)(hN:X.N.Nodup)(ha:DA X (e::es) g)(hl:fT g ps.length)(Yk:autoParam ((name == ("__debug__" : Str))=false) u11)
  (he:autoParam (Ol (e::es) X.env=(false,eval e X.env)::Ol es X.env) u12) (X7:autoParam ((Pe Xu (Ol es X.env)).any (·.1)=false) u13) (hi:autoParam (X.N[i]? = some x) u10) (hx:autoParam (Loc X.env.scope x) u18)
  (hs:autoParam (PB (.Call (.Name name p) (e::es) [] Xu) (some (.Name x pos')) pos.line X.env=pure false) u10) (hf:autoParam (X.fn x=true\/X.env.scope.names.lookup x=some .local) u15) :
  DS X (.Assign [.Name x pos'] (.Call (.Name name p) (e::es) [] Xu) pos) (oq i m g):=by
 refine⟨?_⟩;refine dG (da hN hi hx (gQ F hr hg ha.pe Yk he X7) hs hf) fun D σ H=>?_;rintro⟨O₀,H₀,F,ts,O,ρ,T,fl,ρ',T',rs,e,q⟩;obtain⟨ws,T1,e1,e⟩:=aL e;obtain⟨x0,T2,e2,e⟩:=aL e;refine⟨O,ts,ρ,T,ws,T1,rs.hc,rs.re,e1,fun vs H1 s1 Xt r1=>?_⟩;have YI:=rs.step s1 Xt;refine⟨O,ts,T1,ws,_,_,Xt,by simp_all,hl _ _ _ _ e1,e2,fun A v H2 s2 hA XC ov=>?_⟩;have ZV:=YI.widen s2 hA XC
 cases x0 with
 |list xs=>
  cases e;obtain⟨a,rfl,Gu,oa⟩:=ov;have DP:=hA a ((Gu a).mpr rfl);have Gn:a∉ts:=fun z=>DP.2 (Xt.own a z)
  have h0:H₀ a=none:=by
   cases z:H₀ a with
   |none=>rfl
   |some o=>have:=YI.same a o Gn z;rw[DP.1] at this;cases this
  exact q _ _ _ (ZV.hold (i:=i) (.inr ((Gu a).mpr rfl)) Gn ⟨h0,fun z=>DP.2 (YI.sub a z)⟩ (fun j ys q1 q2=>by
   obtain⟨v,h1,b,ea,h2,h3,h4⟩:=YI.re j _ q1;rw[q2] at h1;cases h1;cases ea;obtain⟨o',h5⟩:=h4.some;rw[DP.1] at h5
   cases h5) oa)
 |none=>
  cases e;obtain⟨rfl,BA⟩:=ov;exact q _ _ _ (ZV.set (i:=i) (v:=.non) (w:=.d .none) .non fun _ z=>nomatch z)
 |_=>cases e
end
def Kj(_ j:Int):Prop:=0<j/\j<18446744073709551616
noncomputable def oF:Oa->Oa->Option PyData:=Hu fun i j=>if 0<j/\j<18446744073709551616 then some (.int (i / j)) else none
theorem zho(h:y.natAbs<18446744073709551616):Builtin.divisionGoesByPylong x y=false:=by
 refine PyProof.noPylong_of_log2 ?_
 by_cases h0:y.natAbs=0
 .simp_all
 .have h30:y.natAbs.log2<64:=(UG h0).mpr h
  lia
section
variable {X:Cx}
theorem zhp:Yc X (PJ .FloorDiv) (rI Kj fun i j=>.int (i / j)):=E1 fun i j _ _ _ _ _ hc q=>by
 have h1:=hc.1;have h2:=hc.2;exact floordiv_int (by lia) (by rw[Int.fdiv_eq_ediv_of_nonneg i (by lia)];exact q) (.inl (zho (by lia)))
theorem zhq:YL X (PJ .FloorDiv) oF:=⟨_,zhp,rM fun i j d e=>by
 split at e
 .rename_i h;cases e;exact⟨h,fun _ _=>.int _⟩
 .cases e⟩
end
noncomputable def dd:List Str->List Str
 |[]=>[]
 |a::r=>if a∈r then dd r else a::dd r
end D
namespace L2
noncomputable def Kf:Oc->Str
 |.str k _=>k
 |_=>""
section
variable {P:Oz}{w:OO}{A:O0}{E:Oc->Oi->Prop}{s:Oi}
def TupAt(h:Heap)(q:Addr)(pl:Array Oc):Prop:=∃o n,h.get? q=some o/\o.data=.seq pl n
end
end L2
namespace D
open L2
theorem zhr:Qw "enumerate"=some (.type "enumerate"):=by rfl
section
variable {P:Oz}{w:OO}{A:O0}{E:Oc->Oi->Prop}{s:Oi}
theorem zhs(hit:s.heap.IsTupleIter it t i)(ht:s.heap.IsTuple t items)(hx:items[i]? = some x)(hQ:∀h',h'.IsTupleIter it t (i+1)->Qi it s.heap h'->Q x { s with heap:=h' }) :
  OG (OJ P w) A (QH (.ref it)) Q E s:=by
 obtain⟨o,ho,hc,hd⟩:=id hit;obtain⟨ol,Dz,_,nl,Hv⟩:=ht;unfold QH;refine Oe (PZ (name:=Ob "__next__") hit.typeIs QE (Qf QE hit.typeIs Sv ?_ (Se _)));show OG _ _ (field (.ref it) 0 >>= _) _ _ s;refine Oe (RE ho hd (x:=.ref t) rfl ?_);show OG _ _ (if (OV t == P2)=true then _ else _) _ _ s;rw[if_neg (show ¬((OV t == P2)=true) from OB)];show OG _ _ (field (.ref it) 1 >>= _) _ _ s;refine Oe (RE ho hd (x:=.int i 0) rfl ?_);show OG _ _ (seqItems? (.ref t) >>= _) _ _ s;refine Oe (UH Dz Hv ?_);simp only[P7,hx];refine Oe (SO ho hd (by simp) (Ot ⟨x,rfl,Ot (hQ _ ⟨_,Um _ ho (Uo (RA hd _)),(Vs ..).trans hc,by rw[RA hd];simp[U8]⟩ (Rl ..))⟩))
theorem zht(hh:A.handled=none)(hit:s.heap.IsTupleIter it t i)(ht:s.heap.IsTuple t items)(hx:items[i]? = none)
  (hE:∀h' e,VX it s.heap h'->(∃o,h'.get? e=some o/\o.cls=.type "StopIteration")->E (.ref e) { s with heap:=h' }):OG (OJ P w) A (QH (.ref it)) Q E s:=by
 obtain⟨o,ho,hc,hd⟩:=id hit;obtain⟨ol,Dz,_,nl,Hv⟩:=ht;unfold QH;refine Oe (PZ (name:=Ob "__next__") hit.typeIs QE (Qf QE hit.typeIs Sv ?_ (Se _)));show OG _ _ (field (.ref it) 0 >>= _) _ _ s;refine Oe (RE ho hd (x:=.ref t) rfl ?_);show OG _ _ (if (OV t == P2)=true then _ else _) _ _ s;rw[if_neg (show ¬((OV t == P2)=true) from OB)];show OG _ _ (field (.ref it) 1 >>= _) _ _ s;refine Oe (RE ho hd (x:=.int i 0) rfl ?_);show OG _ _ (seqItems? (.ref t) >>= _) _ _ s;refine Oe (UH Dz Hv ?_);simp only[P7,hx];refine Oe (Wl (Oe (SO ho hd (by simp) ?_)));show OG _ _ (newExc (.type "StopIteration") [] >>= _) _ _ _;refine Oe ?_;simp only[newExc,newTuple];refine Oe (Pd ?_ (by size_fits));refine Oe (m:=UI _ _) (wpAny_of_eq (a:=P2) (rfl) ?_);refine Pd ?_ (by size_fits);simp only[raiseNew];refine Oe (wpAny_handled ?_)
 first|rw[show A.in1.handled=none from hh]|rw[hh]
 refine Oe (Ot (wpAny_throw ?_));exact hE _ _ (((Rl ..).extBut.push _).push _) ⟨_,Oy _ rfl,rfl⟩
theorem zg(hh:A.handled=none)(it t:Addr)(ZA:t≠it)(items:Array Oc):Draws P w A it [it,t] items.size (fun i v=>items[i]? = some v) (fun i h=>h.IsTupleIter it t i/\h.IsTuple t items) where
 live:=fun _ _ st=>let ⟨o,ho,_⟩:=st.1;⟨o,ho⟩
 frame:=fun _ _ _ st hk=>⟨let ⟨o,ho,r⟩:=st.1;⟨o,hk it (by simp) o ho,r⟩,let ⟨o,ho,r⟩:=st.2;⟨o,hk t (by simp) o ho,r⟩⟩
 item:=fun i s Q E hi st hQ=>zhs st.1 st.2 (x:=items[i]) (by simp) fun h' Jn Ei=>hQ _ h' s.toks (by simp) ⟨Jn,st.2.extBut Ei.extBut ZA⟩ Ei
 done:=fun s Q E st hE=>zht hh st.1 st.2 (by simp) hE
theorem zhu(t:Addr)(items:Array Oc)(n:Nat)(dct:Option Addr)(sl:Array (Option Oc)) :
  Xg (Vp.«enumerate.__new__» ⟨[.type "enumerate",.ref t],[]⟩) (fun _ R s=>s.heap.get? t=some { cls:=.type "tuple",dict:=dct,data:=.seq items n,slots:=sl }/\R (.ok (.ret (.ref (s.heap.push { cls:=.type "tuple_iterator",data:=.fields #[.ref t,.int 0 0] }).objs.size)))
    { s with heap:=(s.heap.push { cls:=.type "tuple_iterator",data:=.fields #[.ref t,.int 0 0] }).push { cls:=.type "enumerate",data:=.fields #[.none,.bool false,.ref s.heap.objs.size,U8 0,.none,.none] } }):=
 .of_wp fun prog w A R s h=>by
  obtain⟨hp,g,d,tk,os⟩:=s;obtain⟨hl,h⟩:=h;have hsub:=sub_enumerate;have hT:Heap.IsTuple (Shared.heap ⟨hp,g,d,tk,os⟩) t items:=⟨_,hl,rfl,n,rfl⟩;wp_walk using Rt hl;refine wpAny_stack_any fun st=>Ot ?_;split
  .rename_i c _ _ _ _ _
   cases (c == RV "enumerate") <;> wp_walk using Rt hl,SG hT <;> exact⟨_,rfl,h⟩
  .wp_walk using Rt hl,SG hT
   exact⟨_,rfl,h⟩
theorem zhv(hT:s.heap.IsTuple t items)
  (h:∀h',IsEnum h' (s.heap.objs.size+1) s.heap.objs.size 0 .none->h'.IsTupleIter s.heap.objs.size t 0->h'.objs.size=s.heap.objs.size+2->(∀b o,s.heap.get? b=some o->h'.get? b=some o)->Q (.ref (s.heap.objs.size+1)) { s with heap:=h' }) :
  OG (OJ P w) A (call (.type "enumerate") [.ref t]) Q E s:=by
 obtain⟨⟨c,dct,dt,sl⟩,hl,hc,n,hd⟩:=hT;obtain rfl:c=.type "tuple":=hc;obtain rfl:dt=.seq items n:=hd;refine callType_new F.called_enumerate (rfl) (F.typeCall_enumerate_1 _) (F.newCall_enumerate_1 _) (fun obj=>F.args_object_init_2 obj _) F.entry_enumerate_new (zhu t items n dct sl) ⟨hl,?_⟩;have hz:(s.heap.push { cls:=.type "tuple_iterator",data:=.fields #[.ref t,.int 0 0] }).objs.size=s.heap.objs.size+1:=P5 ..;show _/\_;rw[hz]
 have he:IsEnum ((s.heap.push { cls:=.type "tuple_iterator",data:=.fields #[.ref t,.int 0 0] }).push { cls:=.type "enumerate",data:=.fields #[.none,.bool false,.ref s.heap.objs.size,U8 0,.none,.none] }) (s.heap.objs.size+1) s.heap.objs.size 0 .none:=by
  rw[←hz];exact Oy _ rfl
 exact⟨⟨_,he,rfl⟩,h _ he ⟨_,Og _ (Oy _ rfl),rfl,rfl⟩ (by rw[P5,hz]) fun b o x=>Og _ (Og _ x)⟩
end
noncomputable def mG(K:Frag)(a:Addr):It:=⟨fun i H=>∃xs,Yn K H a xs/\i<xs.length,fun i H x H'=>∃p v,H p=none/\(∀xs,Yn K H a xs->xs[i]? = some v)/\x=.ref p/\H'=upd H p (.tup [.int (i:Int),v]),fun i H=>∃xs,Yn K H a xs/\i=xs.length⟩
theorem zhw{P:Oz}{w:OO}{K:Frag}{DD:List Expr}{x1:Nat}{ZE:Pos}{l e it:Addr}(Jk:e≠it)(hle:l≠e)(BJ:l≠it):Turn P w K (.Tuple DD x1 ZE) (mG K l) [e,it] e (fun i h=>(∃old,IsEnum h e it i old)/\h.IsTupleIter it l i) where
 mem:=by simp
 obj:=fun i h st b hb=>by
  obtain⟨⟨old,a1⟩,⟨o4,a4,_,d4⟩⟩:=st;simp only[Ox,QZ,or_false] at hb
  rcases hb with e|e <;> subst e
  .exact⟨_,a1,fun v z=>nomatch (show Data.fields _=Data.cell v from z)⟩
  .exact⟨_,a4,fun v z=>by simp_all⟩
 keep:=fun i h h' st k=>by
  obtain⟨⟨old,a1⟩,⟨o4,a4,r⟩⟩:=st;exact⟨⟨old,k e (by simp) _ a1⟩,o4,k it (by simp) _ a4,r⟩
 item:=by
  intro X hP hw hK hc i pins s σ H E I hf st hg;subst hP hw hK;obtain⟨xs,hx,k1⟩:=hg;obtain⟨⟨old,a1⟩,a4⟩:=st;obtain⟨Xr,rx,px,_⟩:=I.tuple hx;obtain⟨u,hu,ru⟩:=rx.get (OX k1);have XI:=rx.length;have Ep:s.heap.IsTuple l Xr.toArray:=px;refine wpAny_pyNext_enum_itemD (zg (A:=X.A.in1) (by simp[I.ok.hd hc]) it l BJ Xr.toArray) a1 ⟨a4,Ep⟩ (by simp;lia) Jk (by simp only[Ox,QZ,or_false,not_or];exact⟨Jk,Qd hle⟩) fun x h' tk Gw b1 b2 b3 b4 b5=>?_
  have ex:x=u:=by
   have h2:Xr.toArray[i]? = some u:=by simpa using hu
   rw[h2] at Gw;exact(Qv Gw).symm
  subst ex;refine⟨.ref s.heap.objs.size,rfl,wpAny_letOwnedTupleGo_enum b1 fun GJ c1 c2=>?_⟩;have hn:H s.heap.objs.size=none:=I.hok.fresh (Oo _);have le:e<s.heap.objs.size:=Ow a1
  have l1:it<s.heap.objs.size:=by obtain⟨_,e,_⟩:=a4;exact Ow e
  have T1:Wb (s.heap.push { cls:=.type "tuple",data:=.seq #[.int i tk,x] }) s.heap.objs.size #[.int i tk,x]:=UQ ..
  have I1:Inv X pins σ (upd H s.heap.objs.size (.tup [.int (i:Int),xs[i]])) { s with heap:=s.heap.push { cls:=.type "tuple",data:=.seq #[.int i tk,x] } }:=
   I.laid (t':=s.toks) (o:=.tup [.int (i:Int),xs[i]]) (fun b ob e=>Og _ e) (Oo _) ⟨by show 2<=Om;decide,[.int i tk,x],.cons ⟨tk,rfl⟩ (.cons ru .nil),T1⟩
  have nn:∀b∈[e,it],b≠s.heap.objs.size:=fun b hb q=>by
   simp only[Ox,QZ,or_false] at hb
   rcases hb with z|z <;> rw[q] at z
   .exact So le z
   .exact So l1 z
  have f':∀b∈[e,it],cU X pins (upd H s.heap.objs.size (.tup [.int (i:Int),xs[i]])) b:=fun b hb=>by
   obtain⟨f0,fr⟩:=hf b hb;exact⟨by rw[aK (nn b hb)];exact f0,fr⟩
  have I2:Inv X pins σ (upd H s.heap.objs.size (.tup [.int (i:Int),xs[i]])) { s with heap:=GJ,toks:=tk+1 }:=w4 (s:={ s with heap:=s.heap.push { cls:=.type "tuple",data:=.seq #[.int i tk,x] } }) (t':=tk+1) (h':=GJ) (fp:=[e,it]) I1 (fun b ob hb q=>by
   simp only[Ox,QZ,or_false,not_or] at hb
   by_cases z:b=s.heap.objs.size
   .subst z
    have q':some _=some ob:=(Oy _ rfl).symm.trans q;cases q';exact(c2.2 _ hb.1).trans b3
   .rw[Heap.get?_push_ne _ _ _ z] at q
    exact(c2.2 b hb.1).trans (b5 b ob hb.1 hb.2 q)) f'
  refine⟨.ref s.heap.objs.size,_,I2,rfl,⟨s.heap.objs.size,xs[i],hn,fun DU h=>by rw[I.tuple_inj h hx];exact OX k1,rfl,rfl⟩,?_,fun b hb=>(f' b hb).1⟩;obtain⟨o,eo,ro⟩:=b2.1;exact⟨⟨_,c1⟩,o,(c2.2 it (Qd Jk)).trans eo,ro⟩
 done:=by
  intro X hP hw hK hc i pins s σ H E I hf st hg;subst hP hw hK;obtain⟨xs,hx,k⟩:=hg;obtain⟨⟨old,a1⟩,a4⟩:=st;obtain⟨Xr,rx,px,_⟩:=I.tuple hx;have h1:=rx.length;have Ep:s.heap.IsTuple l Xr.toArray:=px
  have hs:Xr.toArray.size=i:=by simp;lia
  refine wpAny_pyNext_enum_endD (zg (A:=X.A.in1) (by simp[I.ok.hd hc]) it l BJ Xr.toArray) a1 ⟨by rw[hs];exact a4,Ep⟩ fun h' b7=>⟨rfl,w4 (t':=s.toks) (fp:=[e,it]) I (fun b ob hb q=>?_) hf⟩;simp only[Ox,QZ,or_false,not_or] at hb;exact b7 b ob hb.2 q
 self:=fun _ _ _ _ _ st h=>let ⟨old,he⟩:=st.1;Vt he h
section
variable {X:Cx}{pos:Pos}
noncomputable def HQ(K:Frag)(ta:TA):TI:=fun σ H R=>ta σ H fun vs H1=>∃a xs,vs=[.ref a]/\Yn K H1 a xs/\(xs.length<=Om->R (mG K a) H1)
theorem zhx(hg:Gl X "enumerate")(hm:X.mg "enumerate"=none)(ha:PA X [a] ta)(hs:Ol [a] X.env=[(false,eval a X.env)]) :
  PI X (.Tuple DD x1 ZE) (.Call (.Name "enumerate" p) [a] [] pos) (HQ X.K ta):=by
 intro pins s σ H R I h;refine Call_ (lP I hg hm zhr (Rc (XD (ha pos pins s σ H _ I h) fun us s1 ⟨vs,H1,I1,r1,q1⟩=>?_) hs rfl));obtain⟨l,xs,e,hx,q⟩:=q1;subst e
 cases r1 with
 |cons r rr=>
  cases rr;cases r;obtain⟨Xr,rx,px,zx⟩:=I1.tuple hx;have Ep:s1.heap.IsTuple l Xr.toArray:=px
  have L1:l<s1.heap.objs.size:=by obtain⟨_,e,_⟩:=Ep;exact Ow e
  refine zhv Ep fun h' c1 c2 c3 c7=>?_;have I2:Inv X pins σ H1 { s1 with heap:=h' }:=I1.kept (t':=s1.toks) c7;refine Vt c1 ⟨s1.heap.objs.size+1,[s1.heap.objs.size+1,s1.heap.objs.size],_,_,H1,rfl,I2,zhw (Nat.succ_ne_self _) (OI (QL L1)) (OI L1),⟨⟨_,c1⟩,c2⟩,fun b hb=>?_,q zx⟩
  have Gq:s1.heap.objs.size<=b:=by
   simp only[Ox,QZ,or_false] at hb
   rcases hb with q|q <;> rw[q] <;> first|exact Nat.le_add_right _ _|exact Oo _
  exact I1.fpOk Gq (I1.hok.fresh Gq)
end
end D
namespace L2
section
variable {X:Cx}
def PE1(X:Cx)(e:Expr)(t:TE):Prop:=∀(pins:List (Addr×Obj)) (s:Oi) (σ:St) (H:Hp) (Q:VK),Inv X pins σ H s->1<=s.toks->t σ H Q->OG (OJ X.prog X.w) X.A (eval e X.env) (EP X pins σ Q) X.xe s
end
end L2
namespace D
open L2
abbrev HD:=List (List Oa)
abbrev FK:=Xw->HD->Tp->Option ((Fl×Xw×HD)×Tp)
structure DE1(X:Cx)(e:Expr)(f:FE):Prop where
 pe:PE1 X e (lift X.K f)
open PySem.W (KasT kas_sort KatTups kat_kind kat_lt kat_cons kat_no kat_run kat_snds Looks)
structure Bf(h:Heap)(v:Oc)(k:Str):Prop where
 ex:∃x o t u m,v=.ref x/\h.get? x=some o/\o.cls=.type "tuple"/\o.data=.seq #[.str k t,u] m
inductive Zh(h:Heap):List Oc->List Str->Prop where
 |nil:Zh h [] []
 |cons {v:Oc}{k:Str}{vs:List Oc}{ks:List Str}:Bf h v k->Zh h vs ks->Zh h (v::vs) (k::ks)
theorem Zh.keep(t:Zh h vs ks)(kp:∀b o,h.get? b=some o->o.cls=.type "tuple"->h'.get? b=some o):Zh h' vs ks:=by
 induction t with
 |nil=>exact .nil
 |cons hv _ ih=>
  obtain⟨x,o,t,u,m,e,e1,e2,e3⟩:=hv.ex;exact .cons ⟨x,o,t,u,m,e,kp x o e1 e2,e2,e3⟩ ih
noncomputable def Ga(K:Frag)(tp:Nat->Stmt):List (Str×Nat)->Prop
 |[]=>True
 |(x,i)::r=>Df K x (tp i)/\Ga K tp r
theorem El{K:Frag}{tp:Nat->Stmt}{x:Str}{i:Nat}{L:List (Str×Nat)}(a:Df K x (tp i))(r:Ga K tp L):Ga K tp ((x,i)::L):=⟨a,r⟩
theorem Ga.at{K:Frag}{tp:Nat->Stmt}{x:Str}{i:Nat}:∀{L:List (Str×Nat)},Ga K tp L->L.lookup x=some i->Df K x (tp i)
 |[],_,e=>nomatch e
 |_::r,h,e=>by
  rw[QX] at e;split at e
  .rename_i hx
   cases e;rw[eq_of_beq hx];exact h.1
  .exact h.2.at e
noncomputable def ZL(K:Frag):List Str->Prop
 |[]=>True
 |x::r=>Ph K OT x=some none/\ZL K r
theorem EK{K:Frag}{x:Str}{L:List Str}(a:Ph K OT x=some none)(r:ZL K L):ZL K (x::L):=⟨a,r⟩
theorem ZL.at{K:Frag}{x:Str}:∀{L:List Str},ZL K L->L.contains x=true->Ph K OT x=some none
 |[],_,e=>nomatch e
 |y::r,h,e=>by
  rw[List.contains_cons,Sf] at e
  rcases e with e|e
  .rw[eq_of_beq e];exact h.1
  .exact h.2.at e
noncomputable def IL(K:Frag):List (Str×Int)->Prop
 |[]=>True
 |(x,i)::r=>(∃t,Ph K OT x=some (some (.int i t)))/\IL K r
theorem F8{K:Frag}{x:Str}{i:Int}{t:Tok}{L:List (Str×Int)}(a:Ph K OT x=some (some (.int i t)))(r:IL K L):IL K ((x,i)::L):=⟨⟨t,a⟩,r⟩
theorem IL.at{K:Frag}{x:Str}{i:Int}:∀{L:List (Str×Int)},IL K L->L.lookup x=some i->∃t,Ph K OT x=some (some (.int i t))
 |[],_,e=>nomatch e
 |_::r,h,e=>by
  rw[QX] at e;split at e
  .rename_i hx
   cases e;rw[eq_of_beq hx];exact h.1
  .exact h.2.at e
noncomputable def SL(K:Frag):List (Str×Str)->Prop
 |[]=>True
 |(x,i)::r=>(∃t,Ph K OT x=some (some (.str i t)))/\SL K r
theorem EY{K:Frag}{x i:Str}{t:Tok}{L:List (Str×Str)}(a:Ph K OT x=some (some (.str i t)))(r:SL K L):SL K ((x,i)::L):=⟨⟨t,a⟩,r⟩
theorem SL.at{K:Frag}{x i:Str}:∀{L:List (Str×Str)},SL K L->L.lookup x=some i->∃t,Ph K OT x=some (some (.str i t))
 |[],_,e=>nomatch e
 |_::r,h,e=>by
  rw[QX] at e;split at e
  .rename_i hx
   cases e;rw[eq_of_beq hx];exact h.1
  .exact h.2.at e
structure Bz(K:Frag)(mg:Str->Option Oc)(z:List Str)(i:List (Str×Int))(s:List (Str×Str)):Prop where
 z:∀{x:Str} (_:autoParam (z.contains x=true) u17),mg x=none
 i:∀{x:Str}{j:Int} (_:autoParam (i.lookup x=some j) u17),∃t,mg x=some (.int j t)
 s:∀{x y:Str} (_:autoParam (s.lookup x=some y) u17),∃t,mg x=some (.str y t)
theorem zhy{K:Frag}{h:Heap}{mg:Str->Option Oc}(X:K.In h)(G:h.Ns OT mg)(a:ZL K z)(b:IL K i)(c:SL K s):Bz K mg z i s:=⟨fun e=>PySem.W.mg_none_of X G (a.at e),fun e=>let ⟨t,q⟩:=b.at e;⟨t,P1 X G q⟩,fun e=>let ⟨t,q⟩:=c.at e;⟨t,P1 X G q⟩⟩
structure Ev(P:Oz)(w:OO)(K:Frag)(mg:Str->Option Oc)(base:Heap)(B:Prop)(tp:Nat->Stmt)(L:List (Str×Nat)):Prop where
 x:∃h:Heap,K.In h/\h.Ns OT mg
 b:B
 d:Ga K tp L
noncomputable def Eh(N P:List Str)(sc:Qg):Bool:=decide (sc.kind=.function)&&!sc.isCoroutine&&!sc.isGenerator&&decide N.Nodup&&decide (N.take P.length=P)&&P.all (fun x=>decide (sc.names.lookup x=some .local)||decide (sc.names.lookup x=some .cell))&&sc.names.all fun y=>decide (y.2≠.free)
theorem eI(h:Eh N P sc=true):XQ N P sc:=by
 simp only[Eh,Oj,decide_eq_true_eq,Bool.not_eq_true',Ou,Sf] at h;exact⟨h.1.1.1.1.1.1,h.1.1.1.1.1.2,h.1.1.1.1.2,h.1.1.1.2,h.1.1.2,h.1.2,h.2⟩
theorem E9{α:Type}{p:List α->Prop}(h:∀a,p [a]):∀us,us.length=1->p us
 |[a],_=>h a
theorem CM{α:Type}{p:List α->Prop}(h:∀a b,p [a,b]):∀us,us.length=2->p us
 |[a,b],_=>h a b
theorem Aq{α:Type}{p:List α->Prop}(h:∀a b c,p [a,b,c]):∀us,us.length=3->p us
 |[a,b,c],_=>h a b c
theorem Dv{α:Type}{p:List α->Prop}(h:∀a b c d,p [a,b,c,d]):∀us,us.length=4->p us
 |[a,b,c,d],_=>h a b c d
theorem BV{α:Type}{p:List α->Prop}(h:∀a b c d e,p [a,b,c,d,e]):∀us,us.length=5->p us
 |[a,b,c,d,e],_=>h a b c d e
section
variable {P:Oz}{w:OO}{K:Frag}{mg:Str->Option Oc}{base:Heap}{B:Prop}{tp:Nat->Stmt}{L:List (Str×Nat)}{x:Str}{ps:List Str}{k:Nat}{m:FS}
theorem sU(E:Ev P w K mg base B tp L)(i:Nat)(ok:∀f fd,Ju K x x (tp i) f fd->X5 P w K mg base YT k f fd ps sp)(e:autoParam (L.lookup x=some i) u17)
  (hb:autoParam (∀(kV doc pm:Oc) (an:Option Addr) (XS ct:Oc) (us:List Oc),us.length=ps.length->Rm (Pa x x (cZ (tp i)) (bV (tp i)) (aW (tp i)) .none kV doc pm an XS ct) ⟨us,[]⟩=pure (ps.zip us)) u21):Fn P w K mg base x ps k sp:=
 let ⟨_,X,G⟩:=E.x
 (E.d.at e).fn X G hb ok
theorem aU(E:Ev P w K mg base B tp L)(i:Nat)(N:List Str)(Yb:∀{f:Addr}{XS:Oc}{A:O0}{outer:List Env}{s:Oi}{H:Hp}{E:XK},B->XQ N ps (aW (tp i))->XA k (A.deeper (RK x (aW (tp i)) s.heap.objs.size f XS))->Za (dY YT P w K mg base N x (aW (tp i)) f XS A outer s H E).nox (bV (tp i)) m)
  (S:autoParam (Eh N ps (aW (tp i))=true) u17) (e:autoParam (L.lookup x=some i) u17)
  (hb:autoParam (∀(kV doc pm:Oc) (an:Option Addr) (XS ct:Oc) (us:List Oc),us.length=ps.length->Rm (Pa x x (cZ (tp i)) (bV (tp i)) (aW (tp i)) .none kV doc pm an XS ct) ⟨us,[]⟩=pure (ps.zip us)) u21):Fn P w K mg base x ps (k+1) (XF K ps.length (aN N.length m)):=sU E i (fun _ _ F=>FP F (eI S) fun _ _ _ _ _ _ hr=>Yb E.b (eI S) hr) e hb
theorem zhz(E:Ev P w K mg base B tp L)(i:Nat)(N:List Str)(Yb:∀{f:Addr}{XS:Oc}{A:O0}{outer:List Env}{s:Oi}{H:Hp}{E:XK},B->XQ N ps (aW (tp i))->XA k (A.deeper (RK x (aW (tp i)) s.heap.objs.size f XS))->Za (dY YT P w K mg base N x (aW (tp i)) f XS A outer s H E).nox (bV (tp i)) m)
  (S:autoParam (Eh N ps (aW (tp i))=true) u17) (e:autoParam (L.lookup x=some i) u17)
  (hb:autoParam (∀(kV doc pm:Oc) (an:Option Addr) (XS ct:Oc) (us:List Oc),us.length=ps.length->Rm (Pa x x (cZ (tp i)) (bV (tp i)) (aW (tp i)) .none kV doc pm an XS ct) ⟨us,[]⟩=pure (ps.zip us)) u21):Fn P w K mg base x ps (k+1) (BC K ps.length (kg N.length m)):=sU E i (fun _ _ F=>zhf F (eI S) fun _ _ _ _ _ _ hr=>Yb E.b (eI S) hr) e hb
theorem dB(E:Ev P w K mg base B tp L)(i:Nat)(e:autoParam (L.lookup x=some i) u17)
  (hb:autoParam (∀(kV doc pm:Oc) (an:Option Addr) (XS ct:Oc) (us:List Oc),us.length=ps.length->Rm (Pa x x (cZ (tp i)) (bV (tp i)) (aW (tp i)) .none kV doc pm an XS ct) ⟨us,[]⟩=pure (ps.zip us)) u21):Fn P w K mg base x ps k (XF K n fun _ _=>none):=sU E i (fun _ _ _=>zfy) e hb
theorem dH{p:Nat->Prop}(z:p 0)(s:∀n,p n->p (n+1)):∀n,p n
 |0=>z
 |n+1=>s n (dH z s n)
end
section
variable {X:Cx}{name p1 p2 p3 p4 p5 p6:Str}{k k':Nat}{m:XB}{e1 e2 e3 e4 e5 e6:Expr}{g1 g2 g3 g4 g5 g6:FE}{p pos:Pos}
theorem aS(F:Fn X.prog X.w X.K X.mg X.base name [p1] k (XF X.K 1 m))(hr:XA k' X.A)(a1:DE X e1 g1)(h:autoParam (k<=k') u22)(hg:autoParam (Gl X name) u14)(Yk:autoParam ((name == ("__debug__" : Str))=false) u11)(n1:autoParam (noStar e1=true) u14):DE X (.Call (.Name name p) [e1] [] pos) (ay m (ab g1 ag)):=lD F (hr.mono h) hg (ah a1 ao (bi n1)) (bc cu) Yk (bi n1) (bU rfl)
theorem cK(F:Fn X.prog X.w X.K X.mg X.base name [p1,p2] k (XF X.K 2 m))(hr:XA k' X.A)(a1:DE X e1 g1)(a2:DE X e2 g2)(h:autoParam (k<=k') u22)(hg:autoParam (Gl X name) u14)(Yk:autoParam ((name == ("__debug__" : Str))=false) u11)(n1:autoParam (noStar e1=true) u14)(n2:autoParam (noStar e2=true) u14):DE X (.Call (.Name name p) [e1,e2] [] pos) (ay m (ab g1 (ab g2 ag))):=lD F (hr.mono h) hg (ah a1 (ah a2 ao (bi n2)) (bi n1)) (bc (bc cu)) Yk (bi n1) (bU (by simp_all))
theorem dE(F:Fn X.prog X.w X.K X.mg X.base name [p1,p2,p3] k (XF X.K 3 m))(hr:XA k' X.A)(a1:DE X e1 g1)(a2:DE X e2 g2)(a3:DE X e3 g3)(h:autoParam (k<=k') u22)(hg:autoParam (Gl X name) u14)(Yk:autoParam ((name == ("__debug__" : Str))=false) u11)(n1:autoParam (noStar e1=true) u14)(n2:autoParam (noStar e2=true) u14)(n3:autoParam (noStar e3=true) u14):DE X (.Call (.Name name p) [e1,e2,e3] [] pos) (ay m (ab g1 (ab g2 (ab g3 ag)))):=lD F (hr.mono h) hg (ah a1 (ah a2 (ah a3 ao (bi n3)) (bi n2)) (bi n1)) (bc (bc (bc cu))) Yk (bi n1) (bU (by simp_all))
theorem ph(F:Fn X.prog X.w X.K X.mg X.base name [p1,p2,p3,p4] k (XF X.K 4 m))(hr:XA k' X.A)(a1:DE X e1 g1)(a2:DE X e2 g2)(a3:DE X e3 g3)(a4:DE X e4 g4)(h:autoParam (k<=k') u22)(hg:autoParam (Gl X name) u14)(Yk:autoParam ((name == ("__debug__" : Str))=false) u11)(n1:autoParam (noStar e1=true) u14)(n2:autoParam (noStar e2=true) u14)(n3:autoParam (noStar e3=true) u14)(n4:autoParam (noStar e4=true) u14):DE X (.Call (.Name name p) [e1,e2,e3,e4] [] pos) (ay m (ab g1 (ab g2 (ab g3 (ab g4 ag))))):=lD F (hr.mono h) hg (ah a1 (ah a2 (ah a3 (ah a4 ao (bi n4)) (bi n3)) (bi n2)) (bi n1)) (bc (bc (bc (bc cu)))) Yk (bi n1) (bU (by simp_all))
theorem tq(F:Fn X.prog X.w X.K X.mg X.base name [p1,p2,p3,p4,p5] k (XF X.K 5 m))(hr:XA k' X.A)(a1:DE X e1 g1)(a2:DE X e2 g2)(a3:DE X e3 g3)(a4:DE X e4 g4)(a5:DE X e5 g5)(h:autoParam (k<=k') u22)(hg:autoParam (Gl X name) u14)(Yk:autoParam ((name == ("__debug__" : Str))=false) u11)(n1:autoParam (noStar e1=true) u14)(n2:autoParam (noStar e2=true) u14)(n3:autoParam (noStar e3=true) u14)(n4:autoParam (noStar e4=true) u14)(n5:autoParam (noStar e5=true) u14):DE X (.Call (.Name name p) [e1,e2,e3,e4,e5] [] pos) (ay m (ab g1 (ab g2 (ab g3 (ab g4 (ab g5 ag)))))):=lD F (hr.mono h) hg (ah a1 (ah a2 (ah a3 (ah a4 (ah a5 ao (bi n5)) (bi n4)) (bi n3)) (bi n2)) (bi n1)) (bc (bc (bc (bc (bc cu))))) Yk (bi n1) (bU (by simp_all))
end
noncomputable def Bm(osc:Qg)(N:List Str)(x:Str)(sc:Qg)(N':List Str):Bool:=decide (sc.kind=.function)&&(sc.names.all fun y=>decide (y.2≠.cell))&&(sc.names.all fun y=>decide (y.2=.local->sc.names.lookup y.1=some .local))&&decide (sc.names.lookup x=some .local)&&(sc.names.all fun y=>decide (y.2=.local->y.1=x\/y.1=".0"))
 && (sc.names.all fun y=>decide (y.2=.free->osc.names.lookup y.1=some .cell\/osc.names.lookup y.1=some .free))&&decide (x::N').Nodup&&decide ((".0" : Str)∉N')&&decide (N'.length=N.length)&&(N'.zip N).all fun p=>decide (p.1=p.2)||sc.names.all fun q=>decide (q.1≠p.1)
theorem zK(h:Bm osc N x sc N'=true):CS osc N x sc N':=by
 simp only[Bm,Oj,decide_eq_true_eq,Ou,Sf] at h;exact⟨h.1.1.1.1.1.1.1.1.1,h.1.1.1.1.1.1.1.1.2,h.1.1.1.1.1.1.1.2,h.1.1.1.1.1.1.2,h.1.1.1.1.1.2,h.1.1.1.1.2,h.1.1.1.2,h.1.1.2,h.1.2,h.2⟩
section
variable {X:Cx}{x:Str}{scope:Qg}{elt iter:Expr}{ifs:List Expr}{px pos:Pos}{it:FI}{c:FT}{f:FE}
theorem zJ(st:Stmt)(N N':List Str)(hi:DI X (.Name x px) iter it)(he:∀{C s0 H0 ex},DE (bZ X x scope C s0 H0 ex N') elt f)(ht:∀{C s0 H0 ex},Cn (bZ X x scope C s0 H0 ex N') ifs c)
  (S:autoParam (Bm (aW st) N x scope N'=true) u17) (hc:autoParam (X.calm=true) u10) (hs:autoParam (X.env.scope=aW st) u10) (hN:autoParam (X.N=N) u10) (hf:autoParam (∀v,Pc iter X.env v=pure v) u16):DE X (.ListComp elt [⟨.Name x px,iter,ifs,0⟩] scope pos) (cb it c f):=zfg (zK S) hi (fun _ _ _ _=>he) (fun _ _ _ _=>ht) hc hs hN hf
theorem e8(st:Stmt)(N:List Str)(hi:DI X (.Name x px) iter it)(he:∀{C s0 H0 ex},DE (bZ X x scope C s0 H0 ex N) elt f)
  (S:autoParam (Bm (aW st) N x scope N=true) u17) (hc:autoParam (X.calm=true) u10) (hs:autoParam (X.env.scope=aW st) u10) (hN:autoParam (X.N=N) u10) (hf:autoParam (∀v,Pc iter X.env v=pure v) u16):DE X (.ListComp elt [⟨.Name x px,iter,[],0⟩] scope pos) (cb it bT f):=zJ st N N hi he rn S hc hs hN hf
theorem zia(st:Stmt)(N:List Str)(hi:DI X (.Name x px) iter it)(he:∀{C s0 H0 ex},DE (bZ X x scope C s0 H0 ex N) elt f)(ht:∀{C s0 H0 ex},DT (bZ X x scope C s0 H0 ex N) t c)
  (S:autoParam (Bm (aW st) N x scope N=true) u17) (hc:autoParam (X.calm=true) u10) (hs:autoParam (X.env.scope=aW st) u10) (hN:autoParam (X.N=N) u10) (hf:autoParam (∀v,Pc iter X.env v=pure v) u16):DE X (.ListComp elt [⟨.Name x px,iter,[t],0⟩] scope pos) (cb it c f):=zJ st N N hi he (zff rfl ht) S hc hs hN hf
theorem zib(st:Stmt)(N N':List Str)(nd:X.N.Nodup)(hi:DI X (.Name x px) iter it)(he:∀{C s0 H0 ex},DE (bZ X x scope C s0 H0 ex N') elt f)(ht:∀{C s0 H0 ex},Cn (bZ X x scope C s0 H0 ex N') ifs c)
  (S:autoParam (Bm (aW st) N x scope N'=true) u17) (Zm:autoParam (X.N[i]? = some y) u10) (hy:autoParam (Loc X.env.scope y) u18)
  (EE:autoParam (X.fn y=true\/X.env.scope.names.lookup y=some .local) u15) (hc:autoParam (X.calm=true) u10) (hs:autoParam (X.env.scope=aW st) u10) (hN:autoParam (X.N=N) u10)
  (JU:autoParam (PB (.ListComp elt [⟨.Name x px,iter,ifs,0⟩] scope pos) (some (.Name y py)) ZG.line X.env=pure true) u10) (hf:autoParam (∀v,Pc iter X.env v=pure v) u16) :
  DS X (.Assign [.Name y py] (.ListComp elt [⟨.Name x px,iter,ifs,0⟩] scope pos) ZG) (aD i (cb it c f)):=zfi (zK S) nd hi (fun _ _ _ _=>he) (fun _ _ _ _=>ht) Zm hy EE hc hs hN JU hf
end
end D
namespace XO
open L2
def TB(T:Addr)(fl:Oc)(h:Heap):Prop:=∃oT ts,h.get? T=some oT/\oT.data=.fields ts/\ts[3]? = some fl
end XO
namespace D
open L2
theorem zic(h:Za X body fb)(hx:∀v s,¬X.xe v s):DS X (.Try body (h0::hs) [] [] pos) fb:=
 ⟨fun pins s σ H D I q=>wpAny_Try_except (Pw (h.pe pins s σ H D I q) (fun fl s1 z=>match fl,z with
  |.next,z=>Ru z
  |.brk,z=>z
  |.cont,z=>z
  | .ret _,z=>z) fun _ _ z=>(hx _ _ z).elim)⟩
theorem HC.tapeL{K:Frag}{O:Addr->Prop}{ts:List Addr}{H:Hp}{T:Tp}{n:Nat}{a:Addr}{vs:List V}{ys:List Oa}(c:HC K O ts H T)(e:ts[n]? = some a)(rv:Xs K O H vs ys):HC K O ts (upd H a (.lst vs)) (T.set n ys)/\Xx ts H (upd H a (.lst vs))/\Le O H O (upd H a (.lst vs)):=by
 have am:=OA e;have le:Le O H O (upd H a (.lst vs)):=fun b o' k q=>⟨k,by rw[aK (fun z=>k (by rw[z];exact c.own a am))];exact q⟩
 have sx:Xx ts H (upd H a (.lst vs)):=fun b o' k q=>by rw[aK (fun z=>k (by simp_all))];exact q
 refine⟨⟨c.own,fun b hb=>?_,c.nd,by simp[c.len],fun j b zs q1 q2=>?_⟩,sx,le⟩
 .by_cases z:b=a
  .subst z;rw[bj];exact .inl ⟨_,rfl⟩
  .rw[aK z];exact c.trk b hb
 .by_cases z:n=j
  .subst z
   rw[e] at q1
   have hl:n<T.length:=by
    have:=(Od.mp e).1;rw[←c.len];exact this
   rw[Oq hl] at q2;cases q1;cases q2;exact .inl ⟨rv.notO,vs,bj,rv.mono le⟩
  .simp_all
   refine(c.tape j b zs q1 q2).mono (fun o' h1=>?_) le
   have nb:b≠a:=fun q=>by
    rw[q] at q1;exact z ((Vn (Od.mp e).1 c.nd).mp (e.trans q1.symm))
   rw[aK nb]<;>omega
noncomputable def lW(w:W)(T:Tp):Option (W×Tp):=match w with
 | .tp n=>(match T[n]? with
  |some (y::r)=>if E8 (y::r)=true\/1000<=r.length then none else some (.d y,T.set n r)
  | _=>none)
 |_=>none
noncomputable def sR(f:FE):FE:=fun ρ T=>Xy (f ρ T) lW
section
variable {X:Cx}{pos:Pos}
theorem zid(ho:DE X o fo)
  (XZ:autoParam (PD o "pop" X.env (eval o X.env)=eval o X.env) u10)
  (Yl:autoParam (((Pe Xu (Ol [.Constant (.int 0) k kp] X.env)).all (fun x=>!x.1)&&(QJ Xu (PN [] X.env)).all (fun x=>x.1.isSome)
   && decide (([.Constant (.int 0) k kp]:List Expr).length+([]:List Qk).length+(if ([]:List Qk).isEmpty then 0 else 1)<30))=true) u19)
  (XY:autoParam ((apos.endLine == Xu.line)=true) u10) (YG:autoParam (Ol [.Constant (.int 0) k kp] X.env=(false,eval (.Constant (.int 0) k kp) X.env)::Ol [] X.env) u12) (XN:autoParam ((Pe Xu (Ol [] X.env)).any (·.1)=false) u13) :
  DE X (.Call (.Attribute o "pop" apos) [.Constant (.int 0) k kp] [] Xu) (sR fo):=by
 refine⟨?_⟩;refine bo (gR Qp PySem.F.slot_list_pop PySem.F.type_list_pop zhk ho.pe (bH yD bY YG) XZ Yl XY YG XN) fun σ H Q=>?_;rintro⟨O,ts,ρ,T,w,T',hc,re,e,q⟩;obtain⟨w1,T1,e1,e⟩:=aL e;refine⟨O,ts,ρ,T,w1,T1,hc,re,e1,fun v1 H1 s1 Xt r1=>?_⟩;unfold lW at e;split at e
 .rename_i n
  split at e
  .rename_i y r hT
   split at e
   .cases e
   .rename_i hn
    cases e;obtain⟨a,k1,rfl⟩:=r1
    obtain⟨vs,k2,k3⟩:=(Xt.tape _ a _ k1 hT).lst (by
     cases hb:E8 (y::r) with
     |false=>rfl
     | true=>exact absurd (.inl hb) hn)
    cases k3 with
    |@cons vy _ vr _ ry rr=>
     have hl:=rr.length;obtain⟨XC,sx,le⟩:=Xt.tapeL k1 rr;exact⟨.inl ⟨rfl,_,Ye.of k2⟩,a,vy::vr,0,0,vy,rfl,rfl,k2,rfl,rfl,by grind,q vy _ (s1.trans sx) XC (show Rep X.K O _ vy y from Rep.mono le ry)⟩
  .cases e
 .cases e
end
theorem uI:∀{vs FG:List V}{us Cf:List Oc},Xv vs us->Xv FG Cf->Xv (vs++FG) (us++Cf)
 |_,_,_,_,.nil,h=>h
 |_,_,_,_,.cons a t,h=>.cons a (uI t h)
theorem uG(h:Xv vs us):∀n,Xv (Ov n vs).flatten (Ov n us).flatten
 |0=>.nil
 |n+1=>by
  exact uI h (uG h n)
theorem uX{K:Frag}{O:Addr->Prop}{H:Hp}:∀{vs FG:List V}{us Cf:List Oa},Xs K O H vs us->Xs K O H FG Cf->Xs K O H (vs++FG) (us++Cf)
 |_,_,_,_,.nil,h=>h
 |_,_,_,_,.cons a t,h=>.cons a (uX t h)
theorem uV{K:Frag}{O:Addr->Prop}{H:Hp}{vs:List V}{xs:List Oa}(h:Xs K O H vs xs):∀n,Xs K O H (Ov n vs).flatten (Ov n xs).flatten
 |0=>.nil
 |n+1=>by
  exact uX h (uV h n)
section
variable {X:Cx}{P:Oz}{w:OO}{K:Frag}{mg:Str->Option Oc}{base:Heap}{C:Addr}{B:Prop}{x q:Str}{st:Stmt}{ps:List Str}{k:Nat}{m:FS}
theorem zie:Yc X (PJ .Mult) (fun x y H Q=>∃a k vs,x=.ref a/\y=.int k/\Ye X.K H a vs/\(0<vs.length/\vs.length<=20/\0<=k/\k<=200)/\∀p,H p=none->Q (.ref p) (upd H p (.lst (Ov k.toNat vs).flatten))):=by
 intro pins s σ H x y v u Q I rx ry h;obtain⟨a,k,vs,rfl,rfl,hq,⟨h0,h20,hk⟩,q⟩:=h;cases rx;obtain⟨t,rfl⟩:=ry;obtain⟨Xr,r,pl,_⟩:=I.list hq;have hl:=r.length;obtain⟨⟨cls,dd,data,sl⟩,n,ho,c,d1,d2⟩:=pl;simp only at c d1 d2;subst c d1 d2
 have hn:k.toNat<=200:=by lia
 have Z6:¬(!Builtin.List.listFitsIndex k)=true:=by
  simp[SN];lia
 have hm:Xr.length*k.toNat<=4000:=OC (SF (show Xr.length<=20 by lia) hn) (by decide)
 have Xt:¬(Xr.toArray.size*k.toNat>(2^63-1) / 8):=by
  rw[Pg]
  lia
 have XC:¬Pz (Xr.toArray.size*k.toNat)=true:=by
  rw[Pg];simp[Pz,SW]
  lia
 have hfo:∀(n:Nat) (acc:Array Oc),Rz (fun x1 x2=>x1++x2) acc (Ov n Xr.toArray)=acc++(Ov n Xr).flatten.toArray:=fun n=>by
  induction n with
  |zero=>intro acc;simp
  |succ n ih=>intro acc;rw[Sl,V1,ih];exact Array.ext' (by simp[Sl])
 have ZA:¬Xr.toArray.isEmpty=true:=by
  cases Xr with
  |nil=>rw[hl] at h0;exact absurd h0 (by simp)
  |cons a b=>simp
 have FD:Rz (fun x1 x2=>x1++x2) #[] (Ov (if Xr.toArray.isEmpty=true then 0 else k.toNat) Xr.toArray)=(Ov k.toNat Xr).flatten.toArray:=by
  rw[if_neg ZA,hfo];simp
 refine SS (T:="list") (U:="int") (by decide) ⟨_,ho,rfl⟩ (fun s'=>TM s' k t) noFill_list_mul V3 Sb repeat_list VL.lookup
  (QP Sb (TM s k t) VM (Vq _ _) (zhm k t a Xr.toArray n none sl)
   ⟨ho,rfl,⟨_,ho,rfl⟩,QP PySem.F.slot_list_mul ⟨_,ho,rfl⟩ PySem.F.entry_list_mul (PySem.F.args_list_mul_2 _ _) (zhl a Xr.toArray n none sl k t Z6 Xt XC) ⟨ho,?_⟩⟩)
 rw[FD];refine⟨.ref s.heap.objs.size,_,I.laid (t':=s.toks) (o:=.lst (Ov k.toNat vs).flatten) (fun b ob q=>Og _ q) (Oo _) ?_,rfl,q _ (I.hok.fresh (Oo _))⟩;refine⟨?_,(Ov k.toNat Xr).flatten,0,uG r _,Oy _ rfl⟩;rw[List.length_flatten,List.map_replicate,List.sum_replicate_nat,hl,W5];exact OC hm (by decide)
noncomputable def gr:Oa->Oa->Option Oa
 |.list xs,.int k=>if 0<xs.length/\xs.length<=20/\0<=k/\k<=200 then some (.list (Ov k.toNat xs).flatten) else none
 |_,_=>none
theorem rW:YL X (PJ .Mult) gr:=⟨_,zie,fun O ts H T v1 v2 x y d Q hc h1 h2 e q=>by
 unfold gr at e;split at e
 .split at e
  .rename_i hk
   cases e;obtain⟨a,vs,rfl,t,r⟩:=h1.lst;cases h2.int;have hl:=r.length;exact⟨a,_,_,rfl,rfl,t,⟨by lia,by lia,hk.2.2⟩,fun p hp=>q _ _ (.new hp _) (hc.new hp _) (hc.newL hp (uV r _))⟩
  .cases e
 .cases e⟩
theorem oK(b:B)(d:YX K C x q st)(N:List Str)(Yb:∀{f:Addr}{XS:Oc}{A:O0}{outer:List Env}{s:Oi}{H:Hp}{E:XK},B->XQ N ps (aW st)->XA k (A.deeper (RK q (aW st) s.heap.objs.size f XS))->Za (dY YT P w K mg base N q (aW st) f XS A outer s H E).nox (bV st) m)
  (S:autoParam (Eh N ps (aW st)=true) u17)
  (hb:autoParam (∀(kV doc pm:Oc) (an:Option Addr) (XS ct:Oc) (us:List Oc),us.length=ps.length->Rm (Pa x q (cZ st) (bV st) (aW st) .none kV doc pm an XS ct) ⟨us,[]⟩=pure (ps.zip us)) u21):Dx P w K mg base C x ps (k+1) (XF K ps.length (aN N.length m)):=d.mth hb fun _ _ F=>FP F (eI S) fun _ _ _ _ _ _ hr=>Yb b (eI S) hr
theorem zif(b:B)(d:YX K C "__init__" q st)(g:Im K C=true)(N:List Str)(Yb:∀{f:Addr}{XS:Oc}{A:O0}{outer:List Env}{s:Oi}{H:Hp}{E:XK},B->XQ N ps (aW st)->XA k (A.deeper (RK q (aW st) s.heap.objs.size f XS))->Za (dY YT P w K mg base N q (aW st) f XS A outer s H E).nox (bV st) m)
  (S:autoParam (Eh N ps (aW st)=true) u17)
  (hb:autoParam (∀(kV doc pm:Oc) (an:Option Addr) (XS ct:Oc) (us:List Oc),us.length=ps.length->Rm (Pa "__init__" q (cZ st) (bV st) (aW st) .none kV doc pm an XS ct) ⟨us,[]⟩=pure (ps.zip us)) u21):Bw P w K mg base C ps (k+1) (XF K ps.length (aN N.length m)):=d.ini g hb fun _ _ F=>FP F (eI S) fun _ _ _ _ _ _ hr=>Yb b (eI S) hr
end
end D
namespace G
open L2 D

theorem aY(k:Nat)(h:0<k):∃j,k=j+1:=⟨k-1,by omega⟩
abbrev ac:FE:=fC (.int 1)
abbrev bm:FE:=fC (.int 0)
abbrev bn:FE:=aa 0
abbrev ca:FE:=aa 1
abbrev ci:FE:=fC (.str "fails")
abbrev db:FE:=aa 2
abbrev dL:FE:=aa 3
abbrev eq:FE:=fC (.str "value")
abbrev f8:FE:=fC (.int 2)
abbrev ge:FE:=aa 6
abbrev gl:FE:=aa 4
abbrev ii:FE:=fC (.int 26)
abbrev im:FE:=fC (.bool false)
abbrev io:FE:=aa 5
abbrev kt:FE:=fC (.str "abcdefghijklmnopqrstuvwxyz")
abbrev ld:FE:=fC (.str "put")
abbrev mt:FE:=fC (.str "kind")
abbrev o0:FE:=fC (.str "made")
abbrev on:FE:=fC (.int 3)
abbrev pc:FE:=fC (.int 10)
abbrev pi:FE:=fC (.str "got")
abbrev pp:FE:=fC .none
abbrev sw:FE:=aa 7
abbrev sB:FE:=fC (.str "when")
abbrev sK:FE:=aa 8
abbrev tz:FE:=fC (.str "row")
abbrev u8:FE:=fC (.str "wants")
abbrev wf:FE:=fC (.int 8)
abbrev wl:FE:=fC (.str "")
abbrev wn:FE:=fC (.int 12)
abbrev wp:FE:=fC (.str "want")
abbrev wr:FE:=fC (.str "fail")
abbrev wv:FE:=fC (.str "part")
abbrev ww:FE:=fC (.int 2147483629)
abbrev wE:FE:=fC (.int 4)
abbrev wP:FE:=fC (.int 18)
abbrev wS:FE:=fC (.int 20)
abbrev wT:FE:=fC (.str "say")
abbrev xz:FE:=fC (.str ")")
abbrev zn:FE:=fC (.str "a")
abbrev At:FE:=fC (.str "great")
abbrev AT:FE:=fC (.int 60)
abbrev BT:FE:=fC (.str "peek")
abbrev Ch:FE:=fC (.str "many")
abbrev Cl:FE:=fC (.str "join")
abbrev Db:FE:=fC (.str "same")
abbrev Fa:FE:=fC (.str "name")
abbrev Fr:FE:=fC (.str "sum")
abbrev Go:FE:=fC (.int 5)
abbrev Id:FE:=fC (.int 9)
abbrev Ix(f:FE):FA:=ab f ag
abbrev IN:FE->FE->FE:=af XH
abbrev IO:FA->FE:=aB .tuple
abbrev KK:FE->FE->FE:=af YC
abbrev LE:FE->FE->FE:=af aO
abbrev LT:FA->FE:=Yd aZ
abbrev N6:FA->FE:=aB .list
abbrev N7:FE->FE->FE:=af bz
abbrev N8:FE->FE->FE:=af ck
abbrev N9:FE->FE->FE:=af F4
abbrev No:FE->FE->FE:=af Au
noncomputable def iR(C:Addr):XB:=aN 2 (ak (jn C "parted" bn (af lI ca (fC (.str " ")))) (ak (jn C "place" bn bm) (jn C "begun" bn bm)))
noncomputable def hJ(C:Addr):XB:=aN 1 (aq (dJ (aw (N9 (fS C "place" bn) (LT (Ix (fS C "parted" bn))))) (IN (fS C "parted" bn) (fS C "place" bn)) wl))
noncomputable def iT(C:Addr):XB:=aN 2 (ak (Xz (bC (aV ca)) sS aC) (jn C "place" bn (LE (fS C "place" bn) ac)))
noncomputable def kO(C:Addr):XB:=aN 3 (ak (fI (dm C "take" (iT C) bn (Ix (cP ca (cP (N9 db wS) (N9 (fS C "begun" bn) AT)))))) (jn C "begun" bn (LE (fS C "begun" bn) ac)))
noncomputable def jA(C:Addr):XB:=aN 1 (Xz (aw (N9 (fS C "place" bn) (LT (Ix (fS C "parted" bn))))) sS aC)
noncomputable def fq:XB:=aN 1 (aq (cP (X1 (bu .int) bn) (kq (X1 (bu .bl) bn))))
noncomputable def fV:XB:=aN 2 (aq (Yd gZ (Ix (cb (bD bn) bT (af inD bn db)))))
noncomputable def eM:XB:=aN 1 (aq (cP (X1 (bu .str) bn) (cP (gJ Hg Hg ac (LT (Ix bn)) wf) (ay fV (ab bn (Ix kt))))))
noncomputable def kW:XB:=aN 1 (ak (Xz (aV (ay fq (Ix bn))) (aq (af Hg (Yd pq (Ix bn)) (af gV pc wP))) aC) (aq (cP (X1 (bu .str) bn) (cP (af Hg (LT (Ix bn)) wS) (ay fV (ab bn (Ix (fC (.str "abcdefghijklmnopqrstuvwxyz0123456789-")))))))))
noncomputable def fU:Nat->XB
 |0=>fun _ _=>none
 |n+1=>aN 2 (ak (Xz (bC (aV (X1 (bu .tup) bn))) (aq (ay kW (Ix bn))) aC) (ak (Xz (bP (aw (KK ca bm)) (aw (No (LT (Ix bn)) wf))) (aq im) aC) (aq (Yd gZ (Ix (cb (bD bn) bT (ay (fU n) (ab bn (Ix (af dr db ac))))))))))
noncomputable def iZ:Nat->XB
 |0=>fun _ _=>none
 |n+1=>aN 1 (ak (Xz (bC (aV (X1 (bu .tup) bn))) (aq ac) aC) (aq (LE ac (Yd oW (Ix (cb (bD bn) bT (ay (iZ n) (Ix bn))))))))
noncomputable def jH:XB:=aN 1 (aq (cP (ay (fU 25) (ab bn (Ix wE))) (af Hg (ay (iZ 25) (Ix bn)) (fC (.int 40)))))
noncomputable def cA:XB:=aN 1 (ak (Xz (bP (aw (KK (IN bn bm) ld)) (aw (KK (IN bn bm) pi))) (aq (N6 ag)) aC) (ak (Xz (aw (KK (IN bn bm) tz)) (aq (Yd kl (Ix (IN bn ac)))) aC) (aq (Yd kl (Ix (YE bn (fP ac) dD))))))
noncomputable def kQ:XB:=aN 2 (aq (dJ (aw (af inD bn (fC (.tuple [.str "want",.str "peek"])))) (LE ca ac) ca))
noncomputable def hZ:Nat->XB
 |0=>fun _ _=>none
 |n+1=>aN 1 (ak (Xz (aw (KK (IN bn bm) BT)) (aq im) aC) (aq (Yd gZ (Ix (cb (bD (YE bn (fP f8) dD)) bT (ay (hZ n) (Ix bn)))))))
noncomputable def fm:Nat->XB
 |0=>fun _ _=>none
 |n+1=>aN 1 (ak (Xz (aV (ay fq (Ix bn))) (aq (Yd gp (Ix bn))) aC) (ak (Xz (aV (X1 (bu .str) bn)) (aq (LE (fC (.str "'")) bn)) aC) (aq (LE (LE (fC (.str "(")) (af fG (fC (.str ",")) (cb (bD bn) bT (ay (fm n) (Ix bn))))) xz))))
noncomputable def hU:XB:=aN 1 (ak (Xz (bP (aw (KK bn wl)) (bC (aV (ay fV (ab bn (Ix (fC (.str "0123456789")))))))) (aq im) aC) (aq (kJ (KK bn (fC (.str "0"))) (kq (af iu bn (fC (.str "0")))))))
noncomputable def kU:XB:=aN 2 (ak (aD 1 (dJ (aV (af iu bn (fC (.str "-")))) (YE bn (fP ac) dD) bn)) (ak (Xz (bP (aw (KK bn (fC (.str "-0")))) (bP (aw (No (LT (Ix ca)) (fC (.int 19)))) (bC (aV (ay hU (Ix ca)))))) (aq pp) aC) (aq (Yd intD (Ix bn)))))
noncomputable def kT:XB:=aN 1 (ak (Xz (aV (af iu bn (fC (.str "'")))) (aq (YE bn (fP ac) dD)) aC) (aq (ay kU (Ix bn))))
noncomputable def jE:XB:=aN 4 (ak (aD 2 ca) (ak (bN (cg (aw (N9 db (LT (Ix bn)))) (aw (af eX (IN bn db) (fC (.str "(),"))))) (aD 2 (LE db ac)) 100000) (ak (aD 3 (ay kT (Ix (YE bn (fP ca) (fP db))))) (aq (dJ (aw (af G2 dL pp)) pp (IO (ab dL (Ix db))))))))
mutual
def lc:Nat->XB
 |0=>fun _ _=>none
 |n+1=>aN 6 (ak (Xz (aw (KK (YE bn (fP ca) (fP (LE ca ac))) xz)) (aq (IO (ab (IO ag) (Ix (LE ca ac))))) aC) (ak (cJ 3 ag) (bN (aV (fC (.bool true))) (ak (aD 4 (ay (eE n) (ab bn (ab ca (Ix db))))) (ak (Xz (aw (af G2 gl pp)) (aq pp) aC) (ak (cF 3 (IN gl bm)) (ak (aD 1 (LE (IN gl ac) ac)) (ak (aD 5 (YE bn (fP (IN gl ac)) (fP ca))) (ak (Xz (aw (KK io xz)) (aq (IO (ab (Yd dQ (Ix dL)) (Ix ca)))) aC) (Xz (aw (af Eb io (fC (.str ",")))) (aq pp) aC))))))) 100000)))
def eE:Nat->XB
 |0=>fun _ _=>none
 |n+1=>aN 3 (ak (Xz (aw (af Eb (YE bn (fP ca) (fP (LE ca ac))) (fC (.str "(")))) (aq (ay jE (ab bn (Ix ca)))) aC) (ak (Xz (aw (KK db bm)) (aq pp) aC) (aq (ay (lc n) (ab bn (ab (LE ca ac) (Ix (af dr db ac))))))))
end
noncomputable def ic:XB:=aN 2 (ak (aD 1 (ay (eE 25) (ab bn (ab bm (Ix wE))))) (ak (Xz (bP (aw (af G2 ca pp)) (aw (N9 (IN ca ac) (LT (Ix bn))))) (aq pp) aC) (aq (dJ (aV (ay jH (Ix (IN ca bm)))) (IN ca bm) pp))))
noncomputable def g7:XB:=aN 1 (ak (Xz (aw (KK (IN bn bm) ld)) (aq (N6 (Ix (ay (fm 25) (Ix (IN bn ac)))))) aC) (ak (Xz (aw (KK (IN bn bm) pi)) (aq (N6 (Ix (Yd gp (Ix (IN bn ac)))))) aC) (ak (Xz (aw (KK (IN bn bm) tz)) (aq (N6 (Ix (Yd gp (Ix (LT (Ix (IN bn ac)))))))) aC) (aq (N6 ag)))))
noncomputable def gx:Nat->XB
 |0=>fun _ _=>none
 |n+1=>aN 3 (ak (jo 1 (N6 (Ix (IN bn bm))) (ay g7 (Ix bn))) (ak (cq 2 (bD (ay cA (Ix bn))) (iN 1 (ay (gx n) (Ix db)))) (aq ca)))
noncomputable def g9:Nat->XB
 |0=>fun _ _=>none
 |n+1=>aN 3 (ak (Xz (aw (KK (IN bn bm) wr)) (aq (N6 (ab (IN bn bm) (Ix (IN bn ac))))) aC) (ak (jo 1 (N6 (Ix (IN bn bm))) (ay (gx 25) (Ix (IN bn ac)))) (ak (cq 2 (bD (YE bn (fP f8) dD)) (iN 1 (ay (g9 n) (Ix db)))) (aq ca))))
noncomputable def mI:XB:=aN 1 (aq (af oB (fC (.str " ")) (ay (g9 25) (Ix bn))))
noncomputable def ni(C:Addr):XB:=aN 2 (ak (aD 1 (ay ic (Ix (dm C "ahead" (hJ C) bn ag)))) (ak (fI (dm C "take" (iT C) bn (Ix (af f6 ca pp)))) (aq ca)))
noncomputable def kN(C:Addr):XB:=aN 4 (ak (aD 2 (cb (fH ca) bT (Yd gp (Ix bn)))) (ak (aD 3 (dm C "ahead" (hJ C) bn ag)) (ak (fI (dm C "take" (iT C) bn (Ix (af inD dL db)))) (aq (tm db dL)))))
mutual
def kY(C:Addr):Nat->XB
 |0=>fun _ _=>none
 |n+1=>aN 4 (aq (Yd dQ (Ix (cb (fH ca) bT (ay (fX C n) (ab ca (ab dL (Ix gl))))))))
def fX(C:Addr):Nat->XB
 |0=>fun _ _=>none
 |n+1=>aN 4 (ak (aD 3 (dm C "ahead" (hJ C) bn ag)) (ak (fI (dm C "begin" (kO C) bn (ab (kJ (af inD dL (fC (.tuple [.str "put",.str "got",.str "row"]))) (X1 (Jx [("many",1),("part",2),("sum",2),("join",2),("same",2),("less",2)]) dL)) (Ix ca)))) (ak (Xz (aw (KK dL ld)) (aq (IO (ab dL (Ix (ay (ni C) (Ix bn)))))) aC) (ak (Xz (aw (KK dL pi)) (aq (IO (ab dL (Ix (ay (kN C) (ab bn (Ix db))))))) aC) (ak (Xz (aw (KK dL tz)) (aq (IO (ab dL (Ix (ay (kY C n) (ab bn (ab (ay (kN C) (ab bn (Ix (LE wf ac)))) (ab (LE ca ac) (Ix db))))))))) aC) (aq (LE (IO (Ix dL)) (ay (kY C n) (ab bn (ab (X1 (atT [("many",1),("part",2),("sum",2),("join",2),("same",2),("less",2)]) dL) (ab (LE ca ac) (Ix db))))))))))))
end
noncomputable def mX(C:Addr):XB:=aN 2 (ak (aD 1 (dm C "ahead" (hJ C) bn ag)) (ak (fI (dm C "take" (iT C) bn (Ix (ay eM (Ix ca))))) (aq ca)))
noncomputable def fh(C:Addr):Nat->XB
 |0=>fun _ _=>none
 |n+1=>aN 6 (ak (aD 3 (dm C "ahead" (hJ C) bn ag)) (ak (fI (dm C "begin" (kO C) bn (ab (cP (X1 (Jx [("say",0),("fail",0),("want",1),("peek",1),("when",2)]) dL) (kq (cP (af inD dL (fC (.tuple [.str "want",.str "peek"]))) (KK db wn)))) (Ix ca)))) (ak (Xz (aw (KK dL wr)) (aq (IO (ab dL (Ix (ay (mX C) (Ix bn)))))) aC) (ak (aD 4 (ay (fX C 25) (ab bn (ab (LE ca ac) (Ix db))))) (ak (aD 5 (ay kQ (ab dL (Ix db)))) (aq (LE (IO (ab dL (Ix gl))) (Yd dQ (Ix (cb (fH (X1 (atT [("say",0),("fail",0),("want",1),("peek",1),("when",2)]) dL)) bT (ay (fh C n) (ab ca (ab (LE db ac) (Ix ge))))))))))))))
noncomputable def mJ(C:Addr):XB:=aN 3 (kr 1 C (iR C) bn (ak (aD 2 (ay (fh C 25) (ab ca (ab bm (Ix bm))))) (ak (fI (dm C "finish" (jA C) ca ag)) (aq db))))
noncomputable def mH(C:Addr):XB:=aN 1 (aq (ay (mJ C) (Ix bn)))
noncomputable def d7:XB:=aN 2 (ak (Xz (bP (bC (aV (ay fq (Ix bn)))) (bC (aV (ay fq (Ix ca))))) (aq (IO (ab ci (Ix mt)))) aC) (aq (IO (ab eq (Ix (dJ (aw (N9 bn ca)) ac bm))))))
noncomputable def ig:XB:=aN 1 (aq (dJ (aV (ay jH (Ix bn))) (IO (ab eq (Ix bn))) (IO (ab ci (Ix At)))))
noncomputable def hW:XB:=aN 1 (ak (Xz (aV (ay fq (Ix bn))) (aq (IO (ab ci (Ix mt)))) aC) (aq (IO (ab eq (Ix (LT (Ix bn)))))))
noncomputable def d6:XB:=aN 2 (ak (Xz (bP (bC (aV (X1 (bu .tup) bn))) (bC (aV (ay fq (Ix ca))))) (aq (IO (ab ci (Ix mt)))) aC) (ak (Xz (bC (aw (gJ Hg F4 bm ca (LT (Ix bn))))) (aq (IO (ab ci (Ix wv)))) aC) (aq (IO (ab eq (Ix (IN bn ca)))))))
noncomputable def fj:XB:=aN 2 (ak (Xz (bP (bC (aV (ay fq (Ix bn)))) (bC (aV (ay fq (Ix ca))))) (aq (IO (ab ci (Ix mt)))) aC) (aq (ay ig (Ix (LE bn ca)))))
noncomputable def dN:XB:=aN 2 (ak (Xz (cg (aV (X1 (bu .str) bn)) (aV (X1 (bu .str) ca))) (aq (ay ig (Ix (LE bn ca)))) aC) (ak (Xz (cg (aV (X1 (bu .tup) bn)) (aV (X1 (bu .tup) ca))) (aq (ay ig (Ix (LE bn ca)))) aC) (aq (IO (ab ci (Ix mt))))))
noncomputable def aT:XB:=aN 2 (ak (Xz (aw (KK bn tz)) (aq (ay ig (Ix (Yd dQ (Ix ca))))) aC) (ak (Xz (aw (KK bn Ch)) (aq (ay hW (Ix (IN ca bm)))) aC) (ak (Xz (aw (KK bn wv)) (aq (ay d6 (ab (IN ca bm) (Ix (IN ca ac))))) aC) (ak (Xz (aw (KK bn Fr)) (aq (ay fj (ab (IN ca bm) (Ix (IN ca ac))))) aC) (ak (Xz (aw (KK bn Cl)) (aq (ay dN (ab (IN ca bm) (Ix (IN ca ac))))) aC) (ak (Xz (aw (KK bn Db)) (aq (IO (ab eq (Ix (dJ (aw (af Zd (IN ca bm) (IN ca ac))) ac bm))))) aC) (aq (ay d7 (ab (IN ca bm) (Ix (IN ca ac)))))))))))
noncomputable def cS:Nat->XB
 |0=>fun _ _=>none
 |n+1=>aN 5 (ak (Xz (aw (KK (IN bn bm) ld)) (aq (IO (ab eq (Ix (IN bn ac))))) aC) (ak (Xz (aw (KK (IN bn bm) pi)) (aq (IO (ab eq (Ix (IN ca (IN bn ac)))))) aC) (ak (cJ 2 ag) (ak (cq 3 (bD (ay cA (Ix bn))) (ak (aD 4 (ay (cS n) (ab dL (Ix ca)))) (ak (Xz (aw (KK (IN gl bm) ci)) (aq gl) aC) (cF 2 (IN gl ac))))) (aq (dw aT (ab (IN bn bm) (Ix db))))))))
noncomputable def bG:Nat->XB
 |0=>fun _ _=>none
 |n+1=>aN 3 (ak (Xz (aw (KK (IN bn bm) wr)) (aq (IO (ab ci (Ix (IN bn ac))))) aC) (ak (aD 2 (ay (cS 25) (ab (IN bn ac) (Ix ca)))) (ak (Xz (aw (KK (IN db bm) ci)) (aq db) aC) (ak (Xz (aw (KK (IN bn bm) sB)) (aq (ay (bG n) (ab (dJ (aw (af G3 (IN db ac) (IO (ab bm (ab wl (Ix (IO ag))))))) (IN bn on) (IN bn f8)) (Ix ca)))) aC) (ak (Xz (aw (KK (IN bn bm) wT)) (aq (IO (ab o0 (Ix (IN db ac))))) aC) (ak (Xz (bC (aV (ay eM (Ix (IN db ac))))) (aq (IO (ab ci (Ix Fa)))) aC) (aq (IO (ab (IN bn bm) (ab (IN db ac) (Ix (IN bn f8))))))))))))
noncomputable def mP:XB:=aN 9 (ak (eZ 3 "want" "peek" ca db) (ak (eZ 4 "want" "peek" bm bm) (ak (cJ 5 ag) (ak (aD 6 (dw (bG 25) (ab bn (Ix io)))) (ak (bN (aw (af kn (IN ge bm) dL)) (ak (aD 7 (af cC dL (IN ge bm))) (ak (aD 8 (af cC gl (IN ge bm))) (ak (Xz (bP (aw (af AL sK (LT (Ix sw)))) (aw (af Eb (IN (IN sw sK) bm) (IN ge ac)))) (aq (IO (ab (IO (ab (X1 (atS [("want","wants"),("peek","peeks")]) (IN ge bm)) (Ix (IN ge ac)))) (Ix (af cC gl wp))))) aC) (ak (cF 5 (IN (IN sw sK) ac)) (ak (ko 4 (IN ge bm) (LE sK ac)) (aD 6 (dw (bG 25) (ab (IN ge f8) (Ix io))))))))) 100000) (aq (IO (ab ge (Ix (af cC gl wp))))))))))
noncomputable def jL:XB:=aN 4 (ak (aD 3 (ay mP (ab bn (ab ca (Ix db))))) (ak (Xz (aw (N9 (IN dL ac) (LT (Ix ca)))) (aq (IO (ab (fC (.str "strays")) (Ix (IN dL ac))))) aC) (aq (IN dL bm))))
noncomputable def jI:XB:=aN 1 (aq (cP (X1 (bu .str) bn) (af f6 (ay ic (Ix bn)) pp)))
noncomputable def k8:XB:=aN 1 (aq (cP (X1 (bu .tup) bn) (cP (KK (LT (Ix bn)) f8) (cP (ay eM (Ix (IN bn bm))) (ay jI (Ix (IN bn ac)))))))
noncomputable def mM:XB:=aN 1 (ak (Xz (bP (bC (aV (X1 (bu .tup) bn))) (aw (No (LT (Ix bn)) wn))) (aq im) aC) (aq (Yd gZ (Ix (cb (bD bn) bT (ay k8 (Ix bn)))))))
noncomputable def lg:XB:=aN 1 (ak (Xz (bP (bC (aV (X1 (bu .tup) bn))) (bP (aw (af Eb (LT (Ix bn)) f8)) (bC (aV (X1 (bu .str) (IN bn bm)))))) (aq im) aC) (ak (Xz (aw (KK (IN bn bm) o0)) (aq (ay jI (Ix (IN bn ac)))) aC) (aq (cP (af inD (IN bn bm) (IO (ab ci (Ix u8)))) (ay eM (Ix (IN bn ac)))))))
noncomputable def kZ:XB:=aN 4 (ak (aD 3 (ay jL (ab bn (ab (cb (bD ca) bT (IO (ab (IN bn bm) (Ix (ay ic (Ix (IN bn ac))))))) (Ix (N6 ag)))))) (ak (Xz (aw (KK (IN dL bm) o0)) (aq (af Zd db (IO (ab o0 (Ix (ay (fm 25) (Ix (IN dL ac)))))))) aC) (aq (af Zd db dL))))
noncomputable def mO(C:Addr):XB:=aN 2 (ak (Xz (bP (bC (aV (X1 (bu .tup) bn))) (bP (aw (af Eb (LT (Ix bn)) on)) (bC (aV (X1 (bu .str) (IN bn bm)))))) (aq im) aC) (ak (Xz (bP (bC (aV (ay mM (Ix (IN bn ac))))) (bP (bC (aV (ay lg (Ix (IN bn f8))))) (aw (KK (IN (IN bn f8) bm) u8)))) (aq im) aC) (ak (aD 1 (ay (mH C) (Ix (IN bn bm)))) (aq (cP (af f6 ca pp) (cP (ay (hZ 25) (Ix ca)) (ay kZ (ab ca (ab (IN bn ac) (Ix (IN bn f8)))))))))))
noncomputable def gy:XB:=kg 7 (ak (aD 3 bm) (ak (Xz (aw (No (LT (Ix bn)) bm)) (aD 3 (IN bn (N7 ca (LT (Ix bn))))) aC) (ak (cJ 4 ag) (ak (Xz (aw (af AL dL (af gV pc wP))) (ak (cq 5 (bD db) (ak (cF 4 (N7 dL io)) (aD 3 (af oF dL io)))) (f9 4)) aC) (ak (cq 5 (bD db) (ak (aD 6 (N7 (LE (LE dL (N8 (fC (.int 7919)) ca)) (N8 (fC (.int 104729)) (LT (Ix gl)))) ww)) (ak (aD 6 (N7 (LE (LE (N8 ge ge) (N8 (fC (.int 48271)) ge)) ca) ww)) (ak (aD 6 (N7 (LE (LE (N8 ge ge) (N8 (fC (.int 69621)) ge)) (LT (Ix gl))) (fC (.int 2147483587)))) (cF 4 (N7 ge io)))))) (f9 4))))))
noncomputable def pE:XB:=aN 10 (ak (aD 3 kt) (ak (aD 4 (N6 (ab (fC (.str "told")) (ab o0 (ab wp (ab wT (ab zn (ab (fC (.str "b")) (ab u8 (ab ci (ab pi (ab sB (ab ld (Ix (fC (.str "ab")))))))))))))))) (ak (oq 5 gy (ab bn (ab ca (Ix (LE (N6 (Ix Go)) (af gr (N6 (ab wf (ab ii (ab ii (ab ii (ab ii (ab ii (ab ii (ab ii (Ix ii)))))))))) db)))))) (ak (cJ 6 ag) (ak (cq 7 (fH db) (ak (aD 8 (YE io (fP (LE ac (N8 Id sw))) (fP (LE pc (N8 Id sw))))) (ak (aD 9 (af fG wl (cb (bD (YE sK (fP ac) (fP (LE f8 (IN sK bm))))) bT (IN gl bn)))) (ak (Xz (cg (aw (KK (IN io bm) bm)) (cg (aw (KK (N7 sw f8) ac)) (aw (N9 (LT (Ix (IN ge (af dr sw ac)))) wf)))) (aD 9 (LE (IN ge (af dr sw ac)) (IN dL (IN sK ac)))) aC) (ak (Xz (aw (KK (IN io bm) ac)) (aD 9 (IN gl (N7 (IN sK ac) wn))) aC) (ak (Xz (aw (af inD (aa 9) ge)) (aD 9 (IN (cb (bD (fC (.str "uvwxyz"))) (aw (af eX bn sw)) bn) bm)) aC) (cF 6 (aa 9)))))))) (aq ge))))))
noncomputable def dv:XB:=aN 1 (aq (dJ (aw (No (LT (Ix bn)) bm)) (sR bn) bm))
noncomputable def iU:XB:=aN 3 (ak (aD 2 (LE (N6 (ab bm (ab ac (ab f8 (ab (X1 e7 ac) (ab (af gV pc wP) (ab wl (ab zn (ab (fC (.str "b-1")) (ab (IO ag) (ab (IO (Ix bm)) (ab (IO (ab ac (Ix zn))) (Ix (IO (ab (IO ag) (Ix on)))))))))))))))) ca)) (aq (IN db (N7 (ay dv (Ix bn)) (LT (Ix db))))))
noncomputable def iW:XB:=aN 3 (ak (Xz (cg (aw (No db bm)) (aw (No (N7 (ay dv (Ix bn)) on) bm))) (aq (IO (ab pi (Ix (N7 (ay dv (Ix bn)) db))))) aC) (aq (IO (ab ld (Ix (ay iU (ab bn (Ix ca))))))))
noncomputable def eC:XB:=aN 6 (ak (aD 3 (N7 (ay dv (Ix bn)) wn)) (ak (aD 4 (ay iW (ab bn (ab ca (Ix db))))) (ak (Xz (aw (N9 dL wE)) (aq gl) aC) (ak (Xz (aw (KK dL wE)) (aq (IO (ab Ch (Ix gl)))) aC) (ak (Xz (aw (KK dL Go)) (aq (IO (ab tz (Ix (IO (ab gl (Ix (IO (ab ld (Ix ac)))))))))) aC) (ak (aD 5 (IN (N6 (ab wv (ab Fr (ab Cl (ab Db (ab (fC (.str "less")) (Ix Fr))))))) (af dr dL (fC (.int 6))))) (aq (IO (ab io (ab gl (Ix (ay iW (ab bn (ab ca (Ix db)))))))))))))))
noncomputable def dM:Nat->XB
 |0=>fun _ _=>none
 |n+1=>aN 10 (ak (aD 5 (N7 (ay dv (Ix bn)) wn)) (ak (Xz (bP (aw (KK dL bm)) (aw (N9 io f8))) (ak (Xz (cg (aw (KK io ac)) (aw (KK (N7 (ay dv (Ix bn)) f8) bm))) (aq (IO (ab wr (Ix (IN ca (N7 (ay dv (Ix bn)) (LT (Ix ca)))))))) aC) (aq (IO (ab wT (Ix (ay eC (ab bn (ab ca (Ix db))))))))) aC) (ak (Xz (aw (N9 io wE)) (ak (aD 6 (ay eC (ab bn (ab ca (Ix db))))) (ak (aD 7 (ay (dM n) (ab bn (ab ca (ab db (ab (af dr dL ac) (Ix gl))))))) (aq (IO (ab sB (ab ge (ab sw (Ix (ay (dM n) (ab bn (ab ca (ab db (ab (af dr dL ac) (Ix gl)))))))))))))) aC) (ak (aD 8 (IO (ab ld (Ix (IN ca (N7 (ay dv (Ix bn)) (LT (Ix ca)))))))) (ak (Xz (cg (aw (No db bm)) (aw (KK io wE))) (aD 8 (ay eC (ab bn (ab ca (Ix db))))) aC) (ak (aD 9 wp) (ak (Xz (cg (aV gl) (aw (KK io Go))) (aD 9 BT) aC) (aq (IO (ab (aa 9) (ab sK (Ix (ay (dM n) (ab bn (ab ca (ab (LE db ac) (ab (af dr dL ac) (Ix gl))))))))))))))))))
noncomputable def gz:Nat->XB
 |0=>fun _ _=>none
 |n+1=>aN 5 (ak (Xz (bC (aV (X1 (bu .tup) bn))) (aq (IO (ab bm (Ix ac)))) aC) (ak (aD 1 bm) (ak (aD 2 ac) (ak (cq 3 (bD bn) (ak (aD 4 (ay (gz n) (Ix dL))) (ak (aD 1 (Yd ma (ab ca (Ix (IN gl bm))))) (aD 2 (LE db (IN gl ac)))))) (aq (IO (ab (LE ca ac) (Ix db))))))))
noncomputable def dZ:XB:=aN 2 (ak (Xz (aV (X1 (bu .int) bn)) (aq (kq (gJ Hg Hg (X1 e7 (af gV pc wP)) bn (af gV pc wP)))) aC) (ak (Xz (aV (X1 (bu .str) bn)) (aq (No (LT (Ix bn)) wS)) aC) (ak (aD 1 (ay (gz 25) (Ix bn))) (aq (kJ (No (LT (Ix bn)) wf) (kJ (No (IN ca bm) wE) (No (IN ca ac) (fC (.int 40)))))))))
noncomputable def bI:XB:=aN 3 (ak (Xz (aw (KK bn wv)) (ak (Xz (bP (bC (aV (X1 (bu .tup) ca))) (bC (aV (X1 (bu .int) db)))) (aq (IO (ab ci (Ix mt)))) aC) (ak (Xz (bC (aw (gJ Hg F4 bm db (LT (Ix ca))))) (aq (IO (ab ci (Ix wv)))) aC) (aq (IO (ab eq (Ix (IN ca db))))))) aC) (ak (Xz (aw (KK bn Db)) (aq (IO (ab eq (Ix (Yd intD (Ix (af Zd ca db))))))) aC) (ak (Xz (aw (KK bn Cl)) (Xz (bP (aV (X1 (bu .int) ca)) (bP (aw (af Eb (X1 (bu .str) ca) (X1 (bu .str) db))) (aV (X1 (bu .int) db)))) (aq (IO (ab ci (Ix mt)))) aC) (Xz (bP (bC (aV (X1 (bu .int) ca))) (bC (aV (X1 (bu .int) db)))) (aq (IO (ab ci (Ix mt)))) aC)) (ak (Xz (aw (KK bn (fC (.str "less")))) (aq (IO (ab eq (Ix (Yd intD (Ix (N9 ca db))))))) aC) (ak (Xz (aV (ay dZ (Ix (LE ca db)))) (aq (IO (ab ci (Ix At)))) aC) (aq (IO (ab eq (Ix (LE ca db))))))))))
noncomputable def cm:Nat->XB
 |0=>fun _ _=>none
 |n+1=>aN 6 (ak (Xz (aw (KK (IN bn bm) ld)) (aq (IO (ab eq (Ix (IN bn ac))))) aC) (ak (Xz (aw (KK (IN bn bm) pi)) (aq (IO (ab eq (Ix (IN ca (IN bn ac)))))) aC) (ak (aD 2 (YE bn (fP ac) dD)) (ak (Xz (aw (KK (IN bn bm) tz)) (aD 2 (IN bn ac)) aC) (ak (cJ 3 ag) (ak (cq 4 (bD db) (ak (aD 5 (ay (cm n) (ab gl (Ix ca)))) (ak (Xz (aw (KK (IN io bm) ci)) (aq io) aC) (cF 3 (IN io ac))))) (ak (Xz (aw (KK (IN bn bm) tz)) (ak (Xz (aV (ay dZ (Ix (Yd dQ (Ix dL))))) (aq (IO (ab ci (Ix At)))) aC) (aq (IO (ab eq (Ix (Yd dQ (Ix dL))))))) aC) (ak (Xz (aw (KK (IN bn bm) Ch)) (ak (Xz (aV (X1 (bu .int) (IN dL bm))) (aq (IO (ab ci (Ix mt)))) aC) (aq (IO (ab eq (Ix (LT (Ix (IN dL bm)))))))) aC) (aq (ay bI (ab (IN bn bm) (ab (IN dL bm) (Ix (IN dL ac))))))))))))))
noncomputable def eL:Nat->XB
 |0=>fun _ _=>none
 |n+1=>aN 1 (ak (Xz (aV (X1 (bu .int) bn)) (aq (Yd gp (Ix bn))) aC) (ak (Xz (aV (X1 (bu .str) bn)) (aq (LE (fC (.str "'")) bn)) aC) (aq (LE (LE (fC (.str "(")) (af fG (fC (.str ",")) (cb (bD bn) bT (ay (eL n) (Ix bn))))) xz))))
noncomputable def iS:XB:=aN 1 (ak (Xz (bP (bC (aV (X1 (bu .str) bn))) (bC (aw (gJ Hg Hg ac (LT (Ix bn)) wf)))) (aq im) aC) (aq (Yd gZ (Ix (cb (bD bn) bT (af inD bn kt))))))
noncomputable def iX:XB:=aN 9 (ak (cJ 3 ag) (ak (eZ 4 "want" "peek" bm bm) (ak (eZ 5 "want" "peek" ca db) (ak (aD 6 bn) (ak (bN (aw (af inD (IN ge bm) (IO (ab wp (ab BT (Ix sB)))))) (ak (aD 7 (dw (cm 25) (ab (IN ge ac) (Ix dL)))) (ak (Xz (aw (KK (IN sw bm) ci)) (aq sw) aC) (Xz (aw (KK (IN ge bm) sB)) (aD 6 (dJ (aw (af G3 (IN sw ac) (IO (ab bm (ab wl (Ix (IO ag))))))) (IN ge on) (IN ge f8))) (ak (aD 8 (IN ge bm)) (ak (Xz (bC (aV (ay iS (Ix (IN sw ac))))) (aq (IO (ab ci (Ix Fa)))) aC) (ak (Xz (aw (KK (af cC gl sK) (LT (Ix (af cC io sK))))) (aq (IO (ab (LE sK (fC (.str "s"))) (Ix (IN sw ac))))) aC) (ak (cF 3 (IN (IN (af cC io sK) (af cC gl sK)) ac)) (ak (ko 4 sK (LE (af cC gl sK) ac)) (aD 6 (IN ge f8)))))))))) 100000) (ak (Xz (aw (KK (IN ge bm) wr)) (aq (IO (ab ci (Ix (IN ge ac))))) aC) (ak (aD 7 (dw (cm 25) (ab (IN ge ac) (Ix dL)))) (ak (Xz (aw (KK (IN sw bm) ci)) (aq sw) aC) (aq (IO (ab o0 (Ix (IN sw ac)))))))))))))
noncomputable def jC:XB:=aN 7 (ot 4 gy (ab bn (ab ca (Ix (af gr (N6 (Ix AT)) wn)))) (ak (cJ 5 ag) (ak (aD 6 (dw iX (ab dL (ab io (Ix (N6 ag)))))) (ak (bN (aw (KK (IN ge bm) u8)) (ak (cF 5 (IO (ab (IN ge ac) (Ix (ay iU (ab gl (Ix db))))))) (aD 6 (dw iX (ab dL (ab io (Ix (N6 ag))))))) 100000) (aq (IO (ab io (Ix ge))))))))
noncomputable def iV:XB:=aN 3 (ak (aD 2 (IN ca ac)) (ak (Xz (aw (KK (IN db bm) o0)) (aD 2 (IO (ab o0 (Ix (ay (eL 25) (Ix (IN db ac))))))) aC) (aq (IO (ab (ay mI (Ix bn)) (ab (Yd dQ (Ix (ou (bD (IN ca bm)) bT (IO (ab bn (Ix (ay (eL 25) (Ix ca)))))))) (Ix db)))))))
noncomputable def kM:XB:=aN 4 (aq (se (dM 25) gy (ab bn (ab ca (Ix (af gr (N6 (Ix AT)) (fC (.int 40)))))) (ab db (ab bm (ab on (Ix dL))))))
noncomputable def pC:XB:=aN 7 (ak (cJ 2 ag) (ak (cq 3 (fH on) (ak (aD 4 (ay kM (ab bn (ab (LE pc dL) (ab ca (Ix im)))))) (cq 5 (fH on) (ak (aD 6 (ay iV (ab gl (Ix (ay jC (ab bn (ab (LE (LE wS (N8 on dL)) io) (ab ca (Ix gl))))))))) (Xz (aw (af mD ge db)) (cF 2 ge) aC))))) (aq db)))
noncomputable def pR:XB:=aN 5 (ak (aD 3 pp) (ak (cq 4 (bD bn) (ak (Xz (cg (aw (KK (IN gl bm) ca)) (aw (af Zd (IN gl ac) db))) (aq (IN gl f8)) aC) (Xz (cg (aw (KK (IN gl bm) ca)) (aw (af Zd (YE (IN gl ac) dD (fP (LT (Ix db)))) db))) (aD 3 (IN (IN (IN gl ac) (LT (Ix db))) bm)) aC))) (aq dL)))
noncomputable def pF:XB:=aN 2 (aq (cP (KK (X1 (bu .tup) bn) (X1 (bu .tup) ca)) (af Zd bn ca)))
noncomputable def k6:FS:=(ak (cF 4 (N7 dL io)) (aD 3 (af oF dL io)))
noncomputable def k0:FS:=(ak (aD 6 (N7 (LE (LE dL (N8 (fC (.int 7919)) ca)) (N8 (fC (.int 104729)) (LT (Ix gl)))) ww)) (ak (aD 6 (N7 (LE (LE (N8 ge ge) (N8 (fC (.int 48271)) ge)) ca) ww)) (ak (aD 6 (N7 (LE (LE (N8 ge ge) (N8 (fC (.int 69621)) ge)) (LT (Ix gl))) (fC (.int 2147483587)))) (cF 4 (N7 ge io)))))
theorem zig:gy=kg 7 (ak (aD 3 bm) (ak (Xz (aw (No (LT (Ix bn)) bm)) (aD 3 (IN bn (N7 ca (LT (Ix bn))))) aC) (ak (cJ 4 ag) (ak (Xz (aw (af AL dL (af gV pc wP))) (ak (cq 5 (bD db) k6) (f9 4)) aC) (ak (cq 5 (bD db) k0) (f9 4)))))):=rfl
noncomputable def mQ:FS:=(ak (aD 8 (YE io (fP (LE ac (N8 Id sw))) (fP (LE pc (N8 Id sw))))) (ak (aD 9 (af fG wl (cb (bD (YE sK (fP ac) (fP (LE f8 (IN sK bm))))) bT (IN gl bn)))) (ak (Xz (cg (aw (KK (IN io bm) bm)) (cg (aw (KK (N7 sw f8) ac)) (aw (N9 (LT (Ix (IN ge (af dr sw ac)))) wf)))) (aD 9 (LE (IN ge (af dr sw ac)) (IN dL (IN sK ac)))) aC) (ak (Xz (aw (KK (IN io bm) ac)) (aD 9 (IN gl (N7 (IN sK ac) wn))) aC) (ak (Xz (aw (af inD (aa 9) ge)) (aD 9 (IN (cb (bD (fC (.str "uvwxyz"))) (aw (af eX bn sw)) bn) bm)) aC) (cF 6 (aa 9)))))))
theorem zih:pE=aN 10 (ak (aD 3 kt) (ak (aD 4 (N6 (ab (fC (.str "told")) (ab o0 (ab wp (ab wT (ab zn (ab (fC (.str "b")) (ab u8 (ab ci (ab pi (ab sB (ab ld (Ix (fC (.str "ab")))))))))))))))) (ak (oq 5 gy (ab bn (ab ca (Ix (LE (N6 (Ix Go)) (af gr (N6 (ab wf (ab ii (ab ii (ab ii (ab ii (ab ii (ab ii (ab ii (Ix ii)))))))))) db)))))) (ak (cJ 6 ag) (ak (cq 7 (fH db) mQ) (aq ge)))))):=rfl
noncomputable def m6(n:Nat):FS:=(ak (aD 4 (ay (gz n) (Ix dL))) (ak (aD 1 (Yd ma (ab ca (Ix (IN gl bm))))) (aD 2 (LE db (IN gl ac)))))
theorem u5(n:Nat):gz (n+1)=aN 5 (ak (Xz (bC (aV (X1 (bu .tup) bn))) (aq (IO (ab bm (Ix ac)))) aC) (ak (aD 1 bm) (ak (aD 2 ac) (ak (cq 3 (bD bn) (m6 n)) (aq (IO (ab (LE ca ac) (Ix db)))))))):=rfl
noncomputable def fW(n:Nat):FS:=(ak (aD 5 (ay (cm n) (ab gl (Ix ca)))) (ak (Xz (aw (KK (IN io bm) ci)) (aq io) aC) (cF 3 (IN io ac))))
noncomputable def cY:FS:=(ak (aD 7 (dw (cm 25) (ab (IN ge ac) (Ix dL)))) (ak (Xz (aw (KK (IN sw bm) ci)) (aq sw) aC) (Xz (aw (KK (IN ge bm) sB)) (aD 6 (dJ (aw (af G3 (IN sw ac) (IO (ab bm (ab wl (Ix (IO ag))))))) (IN ge on) (IN ge f8))) (ak (aD 8 (IN ge bm)) (ak (Xz (bC (aV (ay iS (Ix (IN sw ac))))) (aq (IO (ab ci (Ix Fa)))) aC) (ak (Xz (aw (KK (af cC gl sK) (LT (Ix (af cC io sK))))) (aq (IO (ab (LE sK (fC (.str "s"))) (Ix (IN sw ac))))) aC) (ak (cF 3 (IN (IN (af cC io sK) (af cC gl sK)) ac)) (ak (ko 4 sK (LE (af cC gl sK) ac)) (aD 6 (IN ge f8))))))))))
noncomputable def iY:FS:=(ak (cF 5 (IO (ab (IN ge ac) (Ix (ay iU (ab gl (Ix db))))))) (aD 6 (dw iX (ab dL (ab io (Ix (N6 ag)))))))
noncomputable def uE:FS:=(ak (cJ 5 ag) (ak (aD 6 (dw iX (ab dL (ab io (Ix (N6 ag)))))) (ak (bN (aw (KK (IN ge bm) u8)) iY 100000) (aq (IO (ab io (Ix ge)))))))
theorem zii:jC=aN 7 (ot 4 gy (ab bn (ab ca (Ix (af gr (N6 (Ix AT)) wn)))) uE):=rfl
noncomputable def kR:FS:=(ak (aD 6 (ay iV (ab gl (Ix (ay jC (ab bn (ab (LE (LE wS (N8 on dL)) io) (ab ca (Ix gl))))))))) (Xz (aw (af mD ge db)) (cF 2 ge) aC))
noncomputable def pI:FS:=(ak (aD 4 (ay kM (ab bn (ab (LE pc dL) (ab ca (Ix im)))))) (cq 5 (fH on) kR))
theorem zij:pC=aN 7 (ak (cJ 2 ag) (ak (cq 3 (fH on) pI) (aq db))):=rfl
noncomputable def i8:FS:=(ak (Xz (cg (aw (KK (IN gl bm) ca)) (aw (af Zd (IN gl ac) db))) (aq (IN gl f8)) aC) (Xz (cg (aw (KK (IN gl bm) ca)) (aw (af Zd (YE (IN gl ac) dD (fP (LT (Ix db)))) db))) (aD 3 (IN (IN (IN gl ac) (LT (Ix db))) bm)) aC))
theorem zik:pR=aN 5 (ak (aD 3 pp) (ak (cq 4 (bD bn) i8) (aq dL))):=rfl
end G
namespace K1
open PySem
structure Sh(d:Oa)(k n:Nat):Prop where
 sh:d.showable=true
 lv:d.leavesShort 200=true
 dp:d.depth<=k
 wt:d.weight<=n
theorem Sh.mono(h:Sh d k n)(hk:k<=k')(hn:n<=n'):Sh d k' n':=⟨h.sh,h.lv,OC h.dp hk,OC h.wt hn⟩
theorem Sh.int(h:i.natAbs<10^40):Sh (.int i) 0 200:=by
 have l:i.natAbs.log2<150:=by
  by_cases h0:i.natAbs=0
  .rw[h0];decide
  .exact(UG h0).mpr (TR h (by decide))
 refine⟨?_,?_,Oo _,?_⟩
 .exact decide_eq_true (by lia)
 .refine decide_eq_true ?_
  have e:=int_text_length_le10  (by decide) h;show (Ob _).length<=200;rw[PySem.ofString_length]
  lia
 .show (if i == 0 then 0 else i.natAbs.log2+1)<=200<;>grind
theorem Sh.str{x:Str}{n:Nat}(h:∀c∈x.cps.toList,c<128)(hn:x.length<=n):Sh (.str x) 0 n:=by
 refine⟨rfl,?_,Oo _,hn⟩;exact Ou.mpr fun c hc=>decide_eq_true (TR (h c hc) (by decide))
structure Z4(ds:List Oa)(k n:Nat):Prop where
 sh:U9 ds=true
 lv:Up 200 ds=true
 dp:PU ds<=k
 wt:Q0 ds<=n
theorem Z4.nil(k n:Nat):Z4 [] k n:=⟨rfl,rfl,Pm _,Pm _⟩
theorem Z4.cons(h:Sh d k n)(t:Z4 ds k m):Z4 (d::ds) k (n+1+m):=by
 refine⟨?_,?_,?_,?_⟩
 .show (d.showable&&U9 ds)=true
  rw[h.sh,t.sh];rfl
 .show (d.leavesShort 200&&Up 200 ds)=true
  rw[h.lv,t.lv];rfl
 .exact Nat.max_le.mpr ⟨h.dp,t.dp⟩
 .show d.weight+1+Q0 ds<=n+1+m
  have:=h.wt;have:=t.wt
  lia
theorem Z4.of:∀{ds:List Oa}{k:Nat}{f:Oa->Nat},(∀d∈ds,Sh d k (f d))->Z4 ds k ((ds.map fun d=>f d+1).sum)
 |[],k,f,_=>Z4.nil _ _
 |d::r,k,f,h=>by
  have q:=Z4.of   fun x hx=>h x (Of _ hx)
  have z:=Z4.cons (h d Oh) q<;>simp_all
theorem Sh.tuple(h:Z4 ds k n):Sh (.tuple ds) (k+1) n:=⟨h.sh,h.lv,Nat.succ_le_succ h.dp,h.wt⟩
theorem lQ(hs:∀c∈s.cps.toList,c<128)(h:has s x=true):∀c∈x.cps.toList,c<128:=fun c hc=>
 hs c (of_decide_eq_true (Ou.mp h c hc))
theorem lU:∀c∈YF.cps.toList,c<128:=by decide +kernel
end K1
namespace G
open L2 D
open K1 (has YH YF single aE aH isName aA Dt)
mutual
def Ho:Oa->Bool
 |.str x=>decide (x.length<=60000)&&x.cps.toList.all fun c=>decide (c<128)
 |.tuple ds=>jq ds
 |_=>true
def jq:List Oa->Bool
 |[]=>true
 |d::r=>Ho d&&jq r
end
def Sm(d:Oa):Prop:=Ho d=true
theorem Sm.both(h:Sm (.str x)):x.length<=60000/\∀c∈x.cps.toList,c<128:=by
 have h':=by
  have:Ho _=true:=h
  rw[Ho] at this<;>omega
 rw[Oj,Ou] at h';exact⟨of_decide_eq_true h'.1,fun c hc=>of_decide_eq_true (h'.2 c hc)⟩
theorem Sm.str(h:Sm (.str x)):x.cps.size<=60000:=h.both.1
theorem Sm.mkS(h:x.length<=60000)(h2:∀c∈x.cps.toList,c<128):Sm (.str x):=by
 show Ho _=true;rw[Ho,Oj,Ou];exact⟨decide_eq_true h,fun c hc=>decide_eq_true (h2 c hc)⟩
theorem Sm.ok(h:Sm (.str x)):O8 x=true:=by
 unfold O8;rw[Array.all_eq_true'];intro c hc;exact decide_eq_true (TR (h.both.2 c (by simp_all)) (by simp))
theorem vU:∀{ds:List Oa}{d:Oa},jq ds=true->d∈ds->Ho d=true
 |e::r,d,h,hd=>by
  have h':(Ho e&&jq r)=true:=by simpa[jq] using h
  rw[Oj] at h'
  rcases Ox.mp hd with z|z
  .simp_all
  .exact vU h'.2 z
theorem Sm.part(h:Sm (.tuple ds))(hd:d∈ds):Sm d:=vU (by simpa[Sm,Ho] using h) hd
theorem xg:∀{ds:List Oa},(∀d∈ds,Sm d)->jq ds=true
 |[],_=>rfl
 |d::r,h=>by
  have h1:Ho d=true:=h d Oh;simp[jq,h1,xg  fun x hx=>h x (Of _ hx)]
theorem Sm.tup(h:∀d∈ds,Sm d):Sm (.tuple ds):=by simp[Sm,Ho,xg h]
noncomputable def whole:Oa->Bool
 |.int _=>true
 |_=>false
theorem jW(x:Oa)(T:Tp):fq [.d x] T=some (.bool (whole x),T):=by cases x <;> rfl
theorem uS(y x:Str):(D.signs x).all (rL y)=has y x:=by
 unfold D.signs has;rw[W6]
 congr 1
 funext c;exact wD y c
theorem oP(T:Tp)(h:x.length<=Om):fV [.d (.str x),.d (.str y)] T=some (.bool (has y x),T):=by
 have hc:bL _ (af inD (aa 0) (aa 2)) [some (.d (.str x)),some (.d (.str y))] _ T=some ((D.signs x).map fun d=>.bool (rL y d),T):=gB fun d hd=>by
  obtain⟨c,_,rfl⟩:=uR hd;rfl
 simp[fV,h,hc,uS]
theorem zil(T:Tp)(h:Sm d):kW [.d d] T=some (.bool (single d),T):=by
 cases d with
 |str x=>
  have hz:x.length<=sizeLine:=OC h.str (by decide);have hh:∀T,fV [.d _,.d (.str "abcdefghijklmnopqrstuvwxyz0123456789-")] T=some (.bool (has YF x),T):=fun T=>oP T hz;have e:single (.str x)=(decide _&&has YF x):=rfl;have hi:bR .str .str=true:=rfl
  by_cases hk:x.length<=20
  .have HK:(x.length:Int)<=20:=by lia
   simp[kW,jW,whole,hh,hz,hi,e,hk,HK]
  .have HK:¬(x.length:Int)<=20:=by lia
   simp[kW,jW,whole,hz,hi,e,hk,HK]
 |_=>rfl
theorem oh(h:kd d=.tup):∃ds,d=.tuple ds:=by cases d <;> first|simp_all|cases h
theorem xw(h:kd d≠.tup):bR (kd d) .tup=false:=by
 revert h
 cases kd d <;> simp[bR]
theorem tW(h:kd d≠.tup):aE n d=single d:=by cases d <;> first|(cases n <;> rfl)|exact absurd rfl h
theorem ug(h:kd d≠.tup):aH n d=1:=by cases d <;> first|(cases n <;> rfl)|exact absurd rfl h
theorem zim(h:Dt 0 d=true):kd d≠.tup:=by
 intro z
 cases d <;> first|cases h;done|cases z
theorem oi:bR .tup .tup=true:=rfl
theorem yg:∀(n k:Nat) (d:Oa) (T:Tp),Sm d->n<k->fU k [.d d,.d (.int n)] T=some (.bool (aE n d),T)
 |n,0,d,T,_,hk=>absurd hk (Qa _)
 |n,k+1,d,T,hg,hk=>by
  by_cases ht:kd d=.tup
  .obtain⟨ds,rfl⟩:=oh ht
   cases n with
   |zero=>simp[fU,oi,aE]
   |succ n=>
    have e:aE (n+1) (.tuple ds)=(decide (ds.length<=8)&&ds.all (aE n)):=rfl
    have h0:¬((n+1:Nat):Int)=0:=by lia
    have Gr:¬(n:Int)+1=0:=by lia
    by_cases h8:ds.length<=8
    .have Ea:¬(8:Int)<(ds.length:Int):=by lia
     have hs:((n+1:Nat):Int)-1=(n:Int):=by lia
     have hc:bL bT (ay (fU k) (ab (aa 0) (ab (af dr (aa 2) (fC (.int 1))) ag))) [some (.d (.tuple ds)),some (.d (.int ((n+1:Nat):Int)))] ds T=some (ds.map fun x=>.bool (aE n x),T):=gB fun x hx=>by
      have:=yg n k x T (hg.part hx) (by lia);simp[hs,this]
     simp[fU,oi,e,h0,Gr,h8,Ea] at hc ⊢;simp[hc]
    .have Ea:(8:Int)<(ds.length:Int):=by lia
     simp[fU,oi,e,h0,Gr,h8,Ea]
  .simp[fU,xw ht,tW ht,zil T hg]
theorem zf:∀(n k:Nat) (d:Oa) (T:Tp),Dt n d=true->n<k->iZ k [.d d] T=some (.int (aH n d),T)
 |n,0,d,T,_,hk=>absurd hk (Qa _)
 |n,k+1,d,T,hg,hk=>by
  by_cases ht:kd d=.tup
  .cases n with
   |zero=>exact absurd ht (zim hg)
   |succ n=>
    obtain⟨ds,rfl⟩:=oh ht;have B9:=hg;have e:aH (n+1) (.tuple ds)=1+(ds.map _).sum:=rfl
    have hc:bL _ (ay (iZ k) (ab (aa 0) ag)) [some (.d (.tuple ds))] ds T=some (ds.map fun x=>.int (aH n x),T):=gB fun x hx=>by
     have:=zf n k x T (Ou.mp B9 x hx) (by lia)<;>simp_all
    simp[iZ,oi,e,hc]
  .simp[iZ,xw ht,ug ht]
theorem yd(T:Tp)(h:Sm d):jH [.d d] T=some (.bool (aA d),T):=by
 have h1:=yg 4 25 d T h (by decide);have Y6:fU 25 [.d d,.d (.int 4)] T=some _:=h1;have e:aA d=(aE 4 d&&decide _):=rfl
 cases hb:aE 4 d with
 |false=>simp[jH,Y6,e,hb]
 |true=>
  have h2:=zf 4 25 d T (K1.vG 4 d hb) (by decide);simp[jH,Y6,h2,e,hb]
variable {R:Tp}
open K1 (has YH YF single aE aH isName aA Dt Sh Z4)
variable {R:Tp}
theorem gN{α:Type}{xs:List α}{i:Int}(h0:0<=i)(h1:i<(xs.length:Int)):∃a,XR xs i=some a/\a∈xs:=by unfold XR Hs<;>simp_all
theorem zin:(YH.cps.toList.length:Int)=26 :=rfl
theorem vk(cs:List Nat):((cs.map fun c=>(⟨#[c]⟩:Str)).map (·.cps.toList)).flatten=cs:=by induction cs <;>simp_all
theorem zio{y:Str}:∀{ys:List Oa},(∀d∈ys,∃c,c∈y.cps.toList/\d=.str ⟨#[c]⟩)->∃x,eg ys=some x/\(x.map (·.length)).sum=ys.length/\x.length=ys.length/\has y (OM "" x)=true/\(OM "" x).length=ys.length:=by
 intro ys h
 have key:∃cs:List Nat,(∀c∈cs,c∈y.cps.toList)/\ys=cs.map (fun c=>PM ⟨#[c]⟩):=by
  induction ys with
  |nil=>exact⟨[],by simp,rfl⟩
  |cons d r ih=>
   obtain⟨cs,h1,h2⟩:=ih fun x hx=>h x (Of _ hx);obtain⟨c,hc,rfl⟩:=h d Oh;refine⟨c::cs,fun x hx=>?_,by rw[h2];rfl⟩
   rcases Ox.mp hx with z|z
   .simp_all
   .exact h1 x z
 obtain⟨cs,h1,rfl⟩:=key;refine⟨cs.map fun c=>⟨#[c]⟩,mU _ cs,?_,by simp,?_,?_⟩
 .simp_all
  have:∀l:List Nat,(l.map ((fun x:Str=>x.length) ∘ fun c=>(⟨#[c]⟩:Str))).sum=l.length:=fun l=>by
   induction l with
   |nil=>rfl
   |cons a r ih=>
    rw[OU,QR,ih,Nat.add_comm];rfl
  exact this cs
 .have jc:=pS (z:=Ob "") (rfl) (cs.map fun c=>(⟨#[c]⟩:Str))
  unfold has;rw[jc,vk];exact Ou.mpr fun c hc=>decide_eq_true (h1 c hc)
 .have jc:=pS (z:=Ob "") (rfl) (cs.map fun c=>(⟨#[c]⟩:Str))
  rw[OW];show (OM _ _).cps.size=_;rw[←QU,jc,vk]
theorem qD{z:Str}{xs:List Oa}{ys:List Str}(h:eg xs=some ys):fG (.str z) (.list xs)=if (ys.map (·.length)).sum+ys.length*z.length<=16777216 then some (.str (OM z ys)) else none:=by
 show (match eg xs with|some (ys)=>if (ys.map fun x:Str=>x.length).sum+ys.length*z.length<=16777216 then some _ else none|none=>none)=_;rw[h]
theorem wm(n:Nat):(dy 0 n).length=n:=by simp[dy]
theorem p8(h0:0<=j)(h1:j<=1000):iC j=true:=decide_eq_true (by lia)
theorem pJ(h:isName (.str x)=true):single (.str x)=true:=by
 have h':(decide _&&decide _&&has YH x)=true:=h;rw[Oj,Oj] at h';have h8:=of_decide_eq_true h'.1.2;show (decide _&&has YF x)=true;rw[decide_eq_true (by lia)]
 have sub:∀c∈YH.cps.toList,c∈YF.cps.toList:=by decide +kernel
 exact Ou.mpr fun c hc=>decide_eq_true (sub c (of_decide_eq_true (Ou.mp h'.2 c hc)))
theorem gA(h : -1000000000000000000<=i)(h':i<=1000000000000000000):single (.int i)=true:=by refine decide_eq_true ?_<;>lia
theorem ff(h:single d=true):aE n d=true/\aH n d=1:=by
 cases d with
 |int i=>exact⟨by cases n <;> exact h,by cases n <;> rfl⟩
 |str x=>exact⟨by cases n <;> exact h,by cases n <;> rfl⟩
 |_=>cases h
end G
namespace D
open L2
noncomputable def cd(x:Str):List Nat:=x.cps.toList
theorem fD(h:cd x=cd y):x=y:=by
 obtain⟨x⟩:=x;obtain⟨y⟩:=y
 have h':x.toList=y.toList:=h<;>simp_all
theorem cw(x:Str):(cd x).length=x.length :=rfl
theorem gM(x y:Str):cd (x++y)=cd x++cd y:=RN x y
theorem uY{α:Type}(xs:List α)(a:Nat):∀k:Nat,(QN k).filterMap (fun m=>xs[a+m]?)=(xs.drop a).take k
 |0=>by simp
 |k+1=>by
  rw[List.range_succ,List.filterMap_append,uY xs a k,S2];simp only[Sj,List.filterMap_nil,Va]
  cases xs[a+k]? <;> rfl
theorem vV(h0:0<=i)(h1:0<=j):cd (Qo x (some i) (some j))=((cd x).drop i.toNat).take (j.toNat-i.toNat):=by
 obtain⟨a,rfl⟩:=Tq h0;obtain⟨b,rfl⟩:=Tq h1;rw[P7,P7];have hl:x.cps.toList.length=x.length:=QU;obtain⟨p,hp⟩:∃p,min a x.length=p:=⟨_,rfl⟩;obtain⟨q,hq⟩:∃q,min b x.length=q:=⟨_,rfl⟩
 have e:Qx (some (a:Int)) (some (b:Int)) 1 x.length=(QN (q-p)).map fun k=>p+k:=by
  have m:∀c:Nat,max 0 (min (c:Int) x.length)=((min c x.length:Nat):Int):=fun c=>by
   rcases Vu c x.length with h|h
   .rw[Ue h,Int.min_eq_left (W7.mpr h),VO (QF c)]
   .rw[Ts h,Int.min_eq_right (W7.mpr h),VO (QF _)]
  unfold Qx sliceRange;simp only[show (1:Int)>0 by decide,if_true,Int.not_lt.mpr (QF a),Int.not_lt.mpr (QF b),if_false];rw[m,m,hp,hq]
  have ec:(if (p:Int)<q then ((q:Int)-p+1-1) / 1 else 0).toNat=q-p:=by
   split
   .simp_all
   .simp_all
  rw[ec];refine P8 fun k _=>?_;rw[Int.one_mul];rfl
 have fin:(x.cps.toList.drop p).take (q-p)=((cd x).drop a).take (b-a):=by
  unfold cd
  rcases Vu a x.length with hi|hi
  .rw[Ue hi] at hp
   subst hp
   rcases Vu b x.length with hj|hj
   .rw[←hq,Ue hj]
   .rw[←hq,Ts hj,OZ (by simp_all),OZ (by rw[QB,hl];exact Nat.sub_le_sub_right hj _)]
  .rw[←hp,Ts hi,P6 (Ve hl),P6 (hl ▸ hi)]
   rw[WP,WP]
 unfold Qo;split
 .rename_i h
  have h':(Qx (some (a:Int)) (some (b:Int)) 1 x.length).length=x.length:=by simpa using h
  rw[e,OW,List.length_range] at h';rw[←fin];show x.cps.toList=_;rw[h',OZ (by rw[QB,hl];exact Nat.sub_le _ _)];have q1:q<=x.length:=hq ▸ Nat.min_le_right _ _
  by_cases hz:x.length=0
  .rw[List.length_eq_zero_iff.mp (hl.trans hz),List.drop_nil]
  .rw[show p=0 by omega];rfl
 .rw[←fin,←uY]
  show List.filterMap _ (Qx _ _ 1 x.length)=_;rw[e,List.filterMap_map]
  congr 1
  funext m;simp
theorem t5(h0:0<=i)(h1:i<=(x.length:Int)):cd (Qo x (some i) none)=(cd x).drop i.toNat:=by
 rw[slice_from_eq h0 h1 rfl];refine OZ ?_;rw[QB];have:x.cps.toList.length=x.length:=QU;omega
noncomputable def bg(c:List Nat):List (List Nat)->List Nat
 |[]=>[]
 |[x]=>x
 |x::y::r=>x++c++bg c (y::r)
theorem jQ(z:Str):∀ys:List Str,cd (OM z ys)=bg (cd z) (ys.map cd)
 |[]=>rfl
 |[x]=>rfl
 |x::y::r=>by
  have ih:=jQ z (y::r);show cd (_++OM z _)=_;rw[gM,gM,ih];rfl
theorem pN(c x:List Nat)(r:List (List Nat)):bg c (x::r)=x++(r.map (c++·)).flatten:=by
 induction r generalizing x with
 |nil=>simp[bg]
 |cons y r ih=>
  show x++c++bg c _=_<;>simp_all
theorem tY:Ql x ⟨#[c]⟩=decide ((cd x).head? = some c):=by
 unfold Ql
 have hl:(⟨#[c]⟩:Str).length=1:=rfl;obtain⟨⟨l⟩⟩:=x
 cases l with
 |nil=>rfl
 |cons a r=>
  have h1:(0+1<=(⟨⟨a::r⟩⟩:Str).length):=by show 0+1<=(a::r).length;simp
  show Vv _ _ 0=decide ((a::r).head? = some c)
  have e:(⟨⟨a::r⟩⟩:Str).cps.extract 0 (0+(⟨#[c]⟩:Str).length) = #[a]:=by simp_all
  unfold Vv;rw[e,P9];simp
end D
namespace G
open L2 D
open K1 (has YH YF single aE aH isName aA Dt)
noncomputable def mk(l:List Nat):Str:=⟨l.toArray⟩
theorem eJ(l:List Nat):cd (mk l)=l :=rfl
theorem sL(x:Str):mk (cd x)=x :=rfl
theorem de(l:List Nat):(mk l).length=l.length :=rfl
noncomputable def Cs:Str:=Ob "0123456789"
noncomputable def dl(c:Nat):Bool:=decide (c∈cd "(),")
theorem yX(c:Nat):dl c=decide (c=40\/c=41\/c=44):=by
 have e:cd "(),"=[40,41,44]:=rfl
 unfold dl<;>simp_all
noncomputable def W(l:List Nat):List Nat:=l.takeWhile fun c=>!dl c
noncomputable def gw(w:List Nat):Bool:=!decide (w=[])&&w.all (fun c=>decide (c∈cd Cs))&&(decide (w=[48])||!decide (w.head? = some 48))
theorem zE(h:cd y=l):decide (x=y)=decide (cd x=l):=by refine decide_eq_decide.mpr ⟨fun e=>by rw[e,h],fun e=>fD (by rw[e,h])⟩
theorem ziq(T:Tp)(h:x.length<=Om):hU [.d (.str x)] T=some (.bool (gw (cd x)),T):=by
 have h1:∀T,fV [.d (.str x),.d (.str "0123456789")] T=some (.bool (has Cs x),T):=fun T=>oP T h;have e1:decide (x=Ob "")=decide (cd x=[]):=zE (rfl);have e2:decide (x=Ob "0")=decide (cd x=[48]):=zE (rfl)
 have e3:Ql x "0"=decide ((cd x).head? = some 48):=by
  have:Ob "0"=⟨#[48]⟩:=fD (rfl);rw[this,tY]
 have e4:has Cs x=(cd x).all (fun c=>decide (c∈cd Cs)):=rfl;have p1:=propext (by simpa using e1);have p2:=propext (by simpa using e2);unfold gw;rw[←e4]
 by_cases hn:cd x=[]
 .simp[hU,h1,p1,p2,e3,hn]
 .cases hf:has Cs x with
  |false=>simp[hU,h1,p1,p2,e3,hn,hf]
  |true=>
   by_cases h0:cd x=[48]
   .simp[hU,h1,p1,p2,e3,hn,hf,h0]
   .simp[hU,h1,p1,p2,e3,hn,hf,h0]
noncomputable def jr:Option Int->Oa
 |some i=>.int i
 |none=>.none
noncomputable def mz:Option Oa->Oa
 |some i=>i
 |none=>.none
noncomputable def KJ(w:List Nat):Bool:=w.all (fun c=>decide (c∈cd Cs))
theorem vm:cd Cs=[48,49,50,51,52,53,54,55,56,57] :=rfl
theorem zir(h:KJ w=true):S3 w:=fun c hc=>by
 have:=of_decide_eq_true (Ou.mp h c hc);rw[vm] at this;exact(show ∀x∈[48,49,50,51,52,53,54,55,56,57],48<=x/\x<=57 by decide) c this
theorem zis(h:gw w=true):S3 w/\w≠[]:=by
 unfold gw at h;rw[Oj,Oj] at h;exact⟨zir h.1.2,by simpa using h.1.1⟩
noncomputable def fg(w:List Nat):List Nat:=if w.head? = some 45 then w.tail else w
noncomputable def pb(w:List Nat):Option Int:=if w=[45,48]\/19<(fg w).length\/gw (fg w)=false then none else some (if w.head? = some 45 then -((Qr w.tail:Nat):Int) else ((Qr w:Nat):Int))
theorem tZ(h:cd y=[c]):Ql x y=decide ((cd x).head? = some c):=by
 have:y=⟨#[c]⟩:=fD (by rw[h];rfl);rw[this,tY]
theorem zit(T:Tp)(h:x.length<=Om):kU [.d (.str x)] T=some (jr (pb (cd x)),T):=by
 have e1:Ql x "-"=decide ((cd x).head? = some 45):=tZ (rfl);have p2:(x=Ob "-0")=(cd x=[45,48]):=propext ⟨fun e=>by rw[e];decide +kernel,fun e=>fD (by rw[e];decide +kernel)⟩;have hl:=cw x
 obtain⟨f,hf,hfl,hfe⟩:∃f:Str,cd f=fg (cd x)/\f.length<=x.length/\∀T,dJ (aV (af iu (aa 0) (fC (.str "-")))) (YE (aa 0) (fP (fC (.int 1))) dD) (aa 0) [some (.d (.str x)),none] T=some (.d (.str f),T):=by
  by_cases hm:(cd x).head? = some 45
  .have ZA:1<=x.length:=by
    rw[←hl]
    cases hx:cd x with
    |nil=>rw[hx] at hm;cases hm
    |cons _ _=>simp
   refine⟨Qo x (some 1) none,?_,W8 _ _ _,fun T=>by simp[e1,hm,h]⟩;rw[t5 (by decide) (by lia)];unfold fg;rw[if_pos hm];simp
  .refine⟨x,?_,Oo _,fun T=>by simp[e1,hm]⟩
   unfold fg;rw[if_neg hm]
 have DR:f.length<=sizeLine:=OC hfl h;have h1:=fun T=>ziq (x:=f) T DR
 have hfl':f.length=(fg (cd x)).length:=by rw[←hf,cw]
 unfold pb
 have start:kU [.d (.str x)] T=cO (Xy (Xy (dJ (aV (af iu (aa 0) (fC (.str "-")))) (YE (aa 0) (fP (fC (.int 1))) dD) (aa 0) [some (.d (.str x)),none] T) (oX 1 [some (.d (.str x)),none])) (fO (ak (Xz (bP (aw (af YC (aa 0) (fC (.str "-0")))) (bP (aw (af Au (Yd aZ (ab (aa 1) ag)) (fC (.int 19)))) (bC (aV (ay hU (ab (aa 1) ag)))))) (aq (fC .none)) aC) (aq (Yd intD (ab (aa 0) ag)))))):=by
  simp only[kU,oG,qh,qi,if_true,sf,HV];rfl
 rw[start,hfe]
 by_cases c1:cd x=[45,48]
 .rw[if_pos (.inl c1)]
  simp[p2,c1,jr]
 .by_cases c2:19<(fg (cd x)).length
  .rw[if_pos (.inr (.inl c2))]
   have Bo:(19:Int)<(f.length:Int):=by lia
   simp[p2,c1,DR,Bo,jr]
  .have Bo:¬(19:Int)<(f.length:Int):=by lia
   cases c3:gw (fg (cd x)) with
   |false=>
    rw[if_pos (.inr (.inr rfl))];simp[p2,c1,DR,Bo,h1,hf,c3,jr]
   |true=>
    rw[if_neg (by simp[c1,c2])];obtain⟨ad,ne⟩:=zis c3
    have xl:x.length<=640:=by
     rw[←hl]
     have:(cd x).length<=(fg (cd x)).length+1:=by
      unfold fg;split
      .rw[List.length_tail];lia
      .lia
     lia
    by_cases hm:(cd x).head? = some 45
    .have ht:∃cs,cd x=45::cs:=by
      cases hx:cd x with
      |nil=>rw[hx] at hm;cases hm
      |cons a r=>rw[hx] at hm;cases hm;exact⟨r,rfl⟩
     obtain⟨cs,Bp⟩:=ht
     have B4:fg (cd x)=cs:=by unfold fg;rw[if_pos hm,Bp];rfl
     rw[B4] at ad ne;have it:=intText_neg (x:=x) (cs:=cs) Bp ad ne (by lia)
     have JN:intText? x=some (-((Qr (cd x).tail:Nat):Int)):=by rw[it,Bp];rfl
     simp[p2,c1,DR,Bo,h1,hf,c3,jr,xl,JN,hm]
    .have B4:fg (cd x)=cd x:=by unfold fg;rw[if_neg hm]
     rw[B4] at ad ne;have it:=intText_digits (x:=x) ad ne (by lia);have JN:intText? x=some ((Qr (cd x):Nat):Int):=it;simp[p2,c1,DR,Bo,h1,hf,c3,jr,xl,JN,hm]
noncomputable def gP(w:List Nat):Option PyData:=if w.head? = some 39 then some (.str (mk w.tail)) else (pb w).map .int
theorem ziu(o:Option Int):jr o=mz (o.map .int):=by cases o <;> rfl
theorem ziv(T:Tp)(h:x.length<=Om):kT [.d (.str x)] T=some (mz (gP (cd x)),T):=by
 have e1:Ql x "'"=decide ((cd x).head? = some 39):=tZ (rfl);unfold gP
 by_cases hm:(cd x).head? = some 39
 .have ZA:1<=x.length:=by
   rw[←cw]
   cases hx:cd x <;>simp_all
  have es:Qo x (some 1) none=mk (cd x).tail:=fD (by
   rw[t5 (by simp) (by lia),eJ]
   simp)
  simp[kT,e1,hm,h,es,mz]
 .rw[if_neg hm,←ziu]
  simp[kT,e1,hm,zit T h]
theorem ziw{x:Str}{b:Nat}{a:Nat}{r:List Nat}(h:(cd x).drop b=a::r):XR x.cps.toList (b:Int)=some a/\b<x.length:=by
 have hb:b<(cd x).length:=by
  apply Decidable.byContradiction;intro z;rw[P6 (by lia)] at h;cases h
 refine⟨eV ?_,by exact hb⟩
 have:(cd x)[b]? = ((cd x).drop b)[0]?:=by simp
 show (cd x)[b]? = some a;rw[this,h];rfl
theorem xi(ht:t.length<=Om):∀(n b:Nat),((cd t).drop b).length<n->b<=t.length ->
  bN (cg (aw (af F4 (aa 2) (Yd aZ (ab (aa 0) ag)))) (aw (af eX (af XH (aa 0) (aa 2)) (fC (.str "(),"))))) (aD 2 (af aO (aa 2) (fC (.int 1)))) n [some (.d (.str t)),some (.d at'),some (.d (.int b)),none] T
   = some ((.nx,[some (.d (.str t)),some (.d at'),some (.d (.int ((b+(W ((cd t).drop b)).length:Nat):Int))),none]),T)
 |0,b,h,_=>absurd h (Qa _)
 |n+1,b,h,hb=>by
  unfold bN
  cases hd:(cd t).drop b with
  |nil=>
   have hl:t.length<=b:=by
    have:=congrArg VW hd;rw[QB,cw] at this;simp at this
    lia
   have hn:¬(b:Int)<(t.length:Int):=by lia
   simp[ht,hn,W]
  |cons a r=>
   obtain⟨h1,h2⟩:=ziw hd
   have hn:(b:Int)<(t.length:Int):=by lia
   have HM:eX (.str ⟨#[a]⟩) (.str "(),")=some (.bool (!dl a)):=by
    show some (PyData.bool (!ju "()," ⟨#[a]⟩))=_;rw[wD];rfl
   cases Hv:dl a with
   |true=>simp[ht,hn,h1,HM,Hv,W]
   |false=>
    have hr:(cd t).drop (b+1)=r:=by
     have:=congrArg List.tail hd;simpa using this
    have ih:=xi (at':=at') (T:=T) ht n (b+1) (by simp_all) (by lia);rw[hr] at ih
    have eb:((b+1:Nat):Int)=(b:Int)+1:=by lia
    rw[eb] at ih
    have ew:W (a::r)=a::W r:=by simp[W,Hv]
    have el:b+(a::W r).length=b+1+(W r).length:=by simp;lia
    rw[ew,el];simp[ht,hn,h1,HM,Hv,ih]
theorem zix{t:Str}(T:Tp)(ht:t.length<=60000)(hb:b<=t.length):jE [.d (.str t),.d (.int b)] T=some ((match gP (W ((cd t).drop b)) with|none=>Xh|some v=>.tuple [v,.int ((b+(W ((cd t).drop b)).length:Nat):Int)]),T):=by
 have Zw:t.length<=sizeLine:=OC ht (by decide);have DQ:=xi (at':=.int b) (T:=T) Zw 100000 b (by rw[QB,cw];lia) hb
 have JT:cd (Qo t (some (b:Int)) (some ((b+(W ((cd t).drop b)).length:Nat):Int)))=W ((cd t).drop b):=by
  rw[vV (QF _) (QF _),P7,P7,Nat.add_sub_cancel_left];exact List.prefix_iff_eq_take.mp (Uq _) |>.symm
 have XI:(Qo t (some (b:Int)) (some ((b+(W ((cd t).drop b)).length:Nat):Int))).length<=sizeLine:=OC (W8 _ _ _) Zw;have Yy:=ziv (x:=Qo t (some (b:Int)) (some ((b+(W ((cd t).drop b)).length:Nat):Int))) T XI;rw[JT] at Yy;rw[Ra] at Yy JT XI DQ;rw[Ra]
 cases hs:gP (W ((cd t).drop b)) with
 |none=>
  rw[hs] at Yy;simp only[jE,oG,qh,qi,if_true];simp[DQ,Zw,Yy,mz,isNone]
 |some v=>
  have hv:isNone v=false:=by
   unfold gP at hs;split at hs
   .cases hs;rfl
   .obtain⟨i,_,rfl⟩:=ON.mp hs
    rfl
  rw[hs] at Yy;simp only[jE,oG,qh,qi,if_true];simp[DQ,Zw,Yy,mz,hv]
noncomputable def eA(n:Nat):Option (Oa×List Nat)->Oa
 |none=>.none
 |some (v,r)=>.tuple [v,.int ((n-r.length:Nat):Int)]
noncomputable def gS(val:List Nat->Option (Oa×List Nat)):Nat->List Oa->List Nat->Option (Oa×List Nat)
 |0,_,_=>none
 |n+1,acc,l=>match val l with
  |none=>none
  |some (v,r)=>if r.head? = some 41 then some (.tuple (acc++[v]),r.tail) else if r.head? = some 44 then gS val n (acc++[v]) r.tail else none
noncomputable def gO(l:List Nat):Option (Oa×List Nat):=(gP (W l)).map fun v=>(v,l.drop (W l).length)
noncomputable def ei:Nat->List Nat->Option (Oa×List Nat)
 |0,l=>if l.head? = some 40 then none else gO l
 |n+1,l=>if l.head? = some 40 then (if l.tail.head? = some 41 then some (.tuple [],l.tail.tail) else gS (ei n) 100000 [] l.tail) else gO l
def Suf(val:List Nat->Option (Oa×List Nat)):Prop:=∀l v r,val l=some (v,r)->r <:+ l
theorem vR(h:Suf val):∀n acc l v r,gS val n acc l=some (v,r)->r <:+ l
 |0,acc,l,v,r,e=>by cases e
 |n+1,acc,l,v,r,e=>by
  unfold gS at e
  cases hv:val l with
  |none=>simp_all
  |some p=>
   obtain⟨v1,r1⟩:=p;have s1:=h l v1 r1 hv;rw[hv] at e;dsimp only at e;split at e
   .cases e
    exact(QC _).trans s1
   .split at e
    .exact((vR h n _ _ _ _ e).trans (QC _)).trans s1
    .cases e
theorem vQ:Suf gO:=fun l v r e=>by
 obtain⟨v',_,e'⟩:=ON.mp e;cases e';exact List.drop_suffix _ _
theorem xb:∀n,Suf (ei n)
 |0=>fun l v r e=>by
  unfold ei at e;split at e
  .cases e
  .exact vQ _ _ _ e
 |n+1=>fun l v r e=>by
  unfold ei at e;split at e
  .split at e
   .cases e
    exact(QC _).trans (QC _)
   .exact(vR (xb n) _ _ _ _ _ e).trans (QC _)
  .exact vQ _ _ _ e
theorem m7{l:List Nat}(h:l.head? = some c):l.length=l.tail.length+1:=by
 cases l with
 |nil=>cases h
 |cons=>simp
theorem lM(hl:l <:+ cd t)(hy:cd y=[c]):(Qo t (some ((t.length-l.length:Nat):Int)) (some (((t.length-l.length:Nat):Int)+1))=y)=(l.head? = some c):=by
 have hd:=by
  have:=Tt.mp hl;rw[cw] at this;exact this.symm
 have e:cd (Qo t (some ((t.length-l.length:Nat))) (some (((t.length-l.length:Nat))+1)))=l.take 1:=by
  rw[vV _ _]<;>grind
 refine propext ⟨fun z=>?_,fun z=>fD ?_⟩
 .cases l <;>simp_all
 .rw[e]
  cases l <;>simp_all
theorem jx{α:Type}{a b:α}:XR [a,b] 0=some a:=rfl
theorem iO{α:Type}{a b:α}:XR [a,b] 1=some b:=rfl
theorem uQ(hl:l <:+ cd t)(T:Tp)(ht:t.length<=60000):jE [.d (.str t),.d (.int ((t.length-l.length:Nat):Int))] T=some (eA t.length (gO l),T):=by
 have hd:=by
  have:=Tt.mp hl;rw[cw] at this;exact this.symm
 have hn:=hl.length_le;rw[cw] at hn;have h:=zix  (b:=t.length-l.length) T ht (by lia);rw[hd] at h;rw[h];unfold gO;have hw:(W l).length<=l.length:=(Uq _).length_le
 cases gP _ with
 |none=>rfl
 |some v=>
  show some _=some (Rj [v,.int _],T)<;>grind
noncomputable def kF(n:Nat):FS:=(ak (aD 4 (ay (eE n) (ab (aa 0) (ab (aa 1) (ab (aa 2) ag))))) (ak (Xz (aw (af G2 (aa 4) (fC .none))) (aq (fC .none)) aC) (ak (cF 3 (af XH (aa 4) (fC (.int 0)))) (ak (aD 1 (af aO (af XH (aa 4) (fC (.int 1))) (fC (.int 1)))) (ak (aD 5 (YE (aa 0) (fP (af XH (aa 4) (fC (.int 1)))) (fP (aa 1)))) (ak (Xz (aw (af YC (aa 5) (fC (.str ")")))) (aq (aB .tuple (ab (Yd dQ (ab (aa 3) ag)) (ab (aa 1) ag)))) aC) (Xz (aw (af Eb (aa 5) (fC (.str ",")))) (aq (fC .none)) aC)))))))
theorem yu(ht:t.length<=60000)(hs:Suf val)(hv:∀l,l <:+ cd t->eE n [.d (.str t),.d (.int ((t.length-l.length:Nat):Int)),.d (.int rows)] T=some (eA t.length (val l),T)) :
  ∀(k:Nat) (l:List Nat) (acc:List Oa) (o4 o5:Option D.W),l <:+ cd t->l.length<k->acc.length+l.length<=60000 ->
  cO (bN (aV (fC (.bool true))) (kF n) k [some (.d (.str t)),some (.d (.int ((t.length-l.length:Nat):Int))),some (.d (.int rows)),some (.loc (.list acc)),o4,o5] T)=some (eA t.length (gS val k acc l),T)
 |0,l,acc,o4,o5,hl,hk,ha=>absurd hk (Qa _)
 |k+1,l,acc,o4,o5,hl,hk,ha=>by
  have Zw:t.length<=sizeLine:=OC ht (by decide);have FM:acc.length<sizeLine:=Pk (by lia:acc.length<=60000) (by decide);have h1:=hv l hl;unfold bN gS
  cases Jo:val l with
  |none=>
   rw[Jo] at h1;simp[kF,h1,eA,isNone]
  |some p=>
   obtain⟨v,r⟩:=p;have hr:=(hs l v r Jo);have Ji:=hr.trans hl;have hrl:=hr.length_le;have BH:=hl.length_le;rw[cw] at BH;have s1:=lM (c:=41) Ji (y:=Ob ")") (by decide +kernel);have s2:=lM (c:=44) Ji (y:=Ob ",") (by decide +kernel);rw[Jo] at h1
   have step:∀c,r.head? = some c->(((t.length-r.length:Nat):Int)+1)=((t.length-r.tail.length:Nat):Int):=fun c hc=>by
    have:=m7 hc
    lia
   dsimp only
   by_cases c1:r.head? = some 41
   .have e1:=step _ c1
    rw[if_pos c1]
    have goal:eA t.length (some (Rj (acc++[v]),r.tail))=.tuple [.tuple (acc++[v]),.int (((t.length-r.length:Nat):Int)+1)]:=by
     rw[e1];rfl
    rw[goal];simp[kF,h1,eA,isNone,jx,iO,FM,Zw,s1,c1]
   .rw[if_neg c1]
    by_cases c2:r.head? = some 44
    .have e1:=step _ c2
     have e2:=m7 c2;have ih:=yu ht hs hv k r.tail (acc++[v]) (some (.d (.tuple [v,.int ((t.length-r.length:Nat):Int)]))) (some (.d (.str (Qo t (some ((t.length-r.length:Nat):Int)) (some (((t.length-r.length:Nat):Int)+1)))))) ((QC _).trans Ji) (by lia) (by simp;lia);rw[←e1] at ih;rw[if_pos c2,←ih];simp[kF,h1,eA,isNone,jx,iO,FM,Zw,s1,s2,c1,c2]
    .rw[if_neg c2]
     simp[kF,h1,eA,isNone,jx,iO,FM,Zw,s1,s2,c1,c2]
noncomputable def sZ(val:List Nat->Option (Oa×List Nat))(l:List Nat):Option (Oa×List Nat):=if l.head? = some 41 then some (.tuple [],l.tail) else gS val 100000 [] l
theorem ziy(ht:t.length<=60000)(hs:Suf val)(hv:∀l,l <:+ cd t->eE n [.d (.str t),.d (.int ((t.length-l.length:Nat):Int)),.d (.int rows)] T=some (eA t.length (val l),T))(hl:l <:+ cd t) :
  lc (n+1) [.d (.str t),.d (.int ((t.length-l.length:Nat):Int)),.d (.int rows)] T=some (eA t.length (sZ val l),T):=by
 have Zw:t.length<=sizeLine:=OC ht (by decide);have BH:=hl.length_le;rw[cw] at BH;have s1:=lM (c:=41) hl (y:=Ob ")") (rfl);have hr:=yu (T:=T) ht hs hv 100000 l [] none none hl (by lia) (by simp;lia);unfold sZ
 by_cases c1:l.head? = some 41
 .rw[if_pos c1]
  have goal:eA t.length (some (Rj [],l.tail))=.tuple [.tuple [],.int (((t.length-l.length:Nat):Int)+1)]:=by
   have:=m7 c1
   have e:(((t.length-l.length:Nat):Int)+1)=((t.length-l.tail.length:Nat):Int):=by lia
   rw[e];rfl
  rw[goal];simp[lc,Zw,s1,c1]
 .rw[if_neg c1,←hr]
  have:lc (n+1)=aN 6 (ak (Xz (aw (af YC (YE (aa 0) (fP (aa 1)) (fP (af aO (aa 1) (fC (.int 1))))) (fC (.str ")")))) (aq (aB .tuple (ab (aB .tuple ag) (ab (af aO (aa 1) (fC (.int 1))) ag)))) aC) (ak (cJ 3 ag) (bN (aV (fC (.bool true))) (kF n) 100000))):=rfl;rw[this];simp[Zw,s1,c1]
theorem ye(ht:t.length<=60000):∀(rows n:Nat),2*rows+1<=n->∀l,l <:+ cd t->eE n [.d (.str t),.d (.int ((t.length-l.length:Nat):Int)),.d (.int rows)] T=some (eA t.length (ei rows l),T)
 |_,0,h,_,_=>absurd h (by lia)
 |0,n+1,h,l,hl=>by
  have Zw:t.length<=sizeLine:=OC ht (by decide);have s1:=lM (c:=40) hl (y:=Ob "(") (rfl);have sg:=uQ hl T ht;unfold ei
  by_cases c1:l.head? = some 40
  .simp[eE,Zw,s1,c1,eA]
  .simp[eE,Zw,s1,c1,sg]
 |rows+1,n+1,h,l,hl=>by
  have Zw:t.length<=sizeLine:=OC ht (by decide);have s1:=lM (c:=40) hl (y:=Ob "(") (by decide +kernel);have sg:=uQ hl T ht;have BH:=hl.length_le;rw[cw] at BH;unfold ei
  by_cases c1:l.head? = some 40
  .obtain⟨m,rfl⟩:∃m,n=m+1:=⟨n-1,by lia⟩
   have rr:=ziy ht (xb rows) (ye (T:=T) ht rows m (by lia)) ((QC l).trans hl);have:=m7 c1
   have e:(((t.length-l.length:Nat):Int)+1)=((t.length-l.tail.length:Nat):Int):=by lia
   rw[←e] at rr
   have e2:((rows+1:Nat):Int)-1=(rows:Int):=by lia
   have e3:¬((rows+1:Nat):Int)=0:=by lia
   rw[if_pos c1];show _=some (eA t.length (sZ (ei rows) l.tail),T);rw[←e2] at rr;generalize ((rows+1:Nat):Int)=R at e3 rr;simp[eE,Zw,s1,c1,e3,rr]
  .rw[if_neg c1]
   simp[eE,Zw,s1,c1,sg]
noncomputable def dg(m:Nat):List Nat:=(Sw 10 m).map Xm
theorem oI(m:Nat):S3 (dg m):=fun c hc=>by
 obtain⟨ch,GT,e⟩:=OF.mp hc;rw[←e];exact digit_range (Nat.isDigit_of_mem_toDigits (by decide) (by decide) GT)
theorem yZ(m:Nat):Qr (dg m)=m:=W.KIN.val_back m
theorem sT(m:Nat):dg m≠[]:=fun e=>by
 have h:=toDigits_len_ge 10 m
 rw[List.map_eq_nil_iff.mp e] at h<;>simp_all
theorem ow{m:Nat}(h:m<=10^18):(dg m).length<=19:=by
 unfold dg;rw[OW];exact toDigits_len_pow (by decide) (by decide) (Pk h (by decide))
theorem xT(m:Nat):0<m->(dg m).head?≠some 48:=by
 induction m using Sg with
 |_ m ih=>
  intro hm
  by_cases h:m<10
  .have:∀m ,m<10->0<m->((Sw 10 m).map Xm).head?≠some 48:=by decide
   exact this m h hm
  .have hm:m % 10<10:=Nat.mod_lt m (by decide)
   have t:Sw 10 (m / 10)++Sw 10 _=Sw 10 _:=Nat.toDigits_append_toDigits (by simp) (by lia) hm;rw[Nat.div_add_mod] at t
   have e:dg m=dg (m / 10)++dg (m % 10):=by
    unfold dg;rw[←t,Rx]
   have i1:=ih (m / 10) (by lia) (by lia)
   have i2:=sT (m / 10)<;>simp_all
theorem xU(m:Nat):gw (dg m)=true:=by
 unfold gw;rw[Oj,Oj];refine⟨⟨by simpa using sT m,Ou.mpr fun c hc=>decide_eq_true ?_⟩,?_⟩
 .rw[vm]
  have:=oI m c hc;exact(show ∀x<58,48<=x->x∈[48,49,50,51,52,53,54,55,56,57] by decide) c (Nat.lt_succ_of_le this.2) this.1
 .rcases Nat.eq_zero_or_pos m with h|h
  .subst h
   rfl
  .rw[Sf]
   right;simpa using xT m h
noncomputable def nc:Int->List Nat
 |.ofNat m=>dg m
 |.negSucc m=>45::dg (m+1)
theorem ziz(i:Int):cd (Ob (toString i))=nc i:=by
 cases i with
 |ofNat m=>exact W.KIN.signs_num m
 |negSucc m=>
  have e:toString (Int.negSucc m)="-"++toString (m+1):=rfl;unfold cd;rw[UJ]
  simp_all
  rfl
theorem nF(i:Int):∀c∈nc i,c=45\/(48<=c/\c<=57):=by
 cases i with
 |ofNat m=>exact fun c hc=>.inr (oI m c hc)
 |negSucc m=>
  intro c hc
  rcases Ox.mp hc with h|h
  .exact .inl h
  .exact .inr (oI _ c h)
theorem zja(i:Int):nc i≠[]:=by
 cases i with
 |ofNat m=>exact sT m
 |negSucc m=>exact fun h=>nomatch h
theorem kX(h:single (.int i)=true):i.natAbs<=10^18:=by have h':=of_decide_eq_true h<;>lia
theorem yJ(h:single (.int i)=true):(nc i).length<=20:=by
 have h:=kX h
 cases i with
 |ofNat m=>
  have:=ow (m:=m) h;show (dg m).length<=20
  lia
 |negSucc m=>
  have:=ow (m:=m+1) h;show (dg _).length+1<=20
  lia
theorem qI(m:Nat):(dg m).head?≠some 45:=fun h=>by
 cases hd:dg m with
 |nil=>simp_all
 |cons a r=>
  rw[hd] at h;have:=oI m 45 (by simp_all)
  lia
theorem qW(h:single (.int i)=true):pb (nc i)=some i:=by
 have h:=kX h
 cases i with
 |ofNat m=>
  show (if dg m=[45,48]\/19<(fg (dg m)).length\/gw (fg (dg m))=false then none else some (if (dg m).head? = some 45 then -_ else ((Qr (dg m):Nat):Int)))=_
  have e:fg (dg m)=dg m:=by unfold fg;rw[if_neg (qI m)]
  have l:=ow (m:=m) h;rw[e,if_neg (qI m),yZ,xU,if_neg]
  .rfl
  .rintro(z|z|z)
   .exact qI m (by rw[z];rfl)
   .lia
   .cases z
 |negSucc m=>
  show (if 45::dg (m+1)=[45,48]\/19<(fg (45::dg (m+1))).length\/gw (fg (45::dg (m+1)))=false then none else some (if (45::dg (m+1)).head? = some 45 then -((Qr (45::dg (m+1)).tail:Nat):Int) else _))=_;have e:fg (45::dg (m+1))=dg (m+1):=rfl;have l:=ow (m:=m+1) h;have e2:(45::dg (m+1)).tail=dg (m+1):=rfl;rw[e,e2,yZ,xU,if_neg]
  .rfl
  .rintro(z|z|z)
   .have z':=(List.cons.inj z).2
    have:=xT (m+1) (by lia)<;>simp_all
   .lia
   .cases z
noncomputable def cst:Nat->Oa->List Nat
 |n+1,.tuple ds=>40::(bg [44] (ds.map (cst n))++[41])
 |0,.tuple _=>[]
 |_,.int i=>nc i
 |_,.str x=>39::cd x
 |_,_=>[]
theorem nP(n:Nat)(i:Int):cst n (.int i)=nc i:=by cases n <;> rfl
theorem nM(n:Nat)(x:Str):cst n (.str x)=39::cd x:=by cases n <;> rfl
theorem dF(h:single d=true):(∃i,d=.int i)\/∃x,d=.str x:=by cases d <;> first|exact .inl ⟨_,rfl⟩|exact .inr ⟨_,rfl⟩|cases h
theorem cL(h:aE n d=true):single d=true\/∃m ds,n=m+1/\d=.tuple ds/\ds.length<=8/\∀x∈ds,aE m x=true:=by
 by_cases k:kd d=.tup
 .obtain⟨ds,rfl⟩:=oh k
  cases n with
  |zero=>cases h
  |succ m=>
   right;have h':(decide _&&ds.all _)=true:=h;rw[Oj] at h';exact⟨m,ds,rfl,rfl,of_decide_eq_true h'.1,Ou.mp h'.2⟩
 .left
  rw[tW k] at h;exact h
theorem txt_codes(h:has YF x=true):∀c∈cd x,dl c=false:=fun c hc=>by
 have h1:=of_decide_eq_true (Ou.mp h c hc)
 have h2:∀c∈YF.cps.toList,dl c=false:=by decide +kernel
 exact h2 c h1
theorem zjb(i:Int):∀c∈nc i,dl c=false:=fun c hc=>by
 rw[yX]
 have:=nF i c hc<;>grind
theorem wC(h:a≠[]):(a++b).head? = a.head?:=by cases a <;>simp_all
def pA(l:List Nat):Prop:=∀c,l.head? = some c->dl c=true
theorem zR{w l:List Nat}(hw:∀c∈w,dl c=false)(hl:pA l):W (w++l)=w:=by
 unfold W
 simp_all
 cases l with
 |nil=>simp
 |cons a r=>
  have:=hl a rfl<;>simp_all
theorem p7{d:Oa}{n:Nat}{l:List Nat}(h:single d=true)(hl:pA l):(cst n d++l).head?≠some 40/\(cst n d).head?≠some 41/\cst n d≠[]/\gO (cst n d++l)=some (d,l)/\(cst n d).length<=21:=by
 rcases dF h with⟨i,rfl⟩|⟨x,rfl⟩
 .rw[nP]
  have ZA:=zja i;have hs:=nF i;have hh:=fun c hc=>hs c (List.mem_of_head? hc)
  have h39:(nc i).head?≠some 39:=fun z=>by simp_all
  refine⟨?_,fun z=>by simp_all,ZA,?_,by have:=yJ h;lia⟩
  .rw[wC ZA]<;>grind
  .unfold gO
   rw[zR (zjb i) hl];unfold gP;rw[if_neg h39,qW h];simp
 .rw[nM]
  have h':(decide (x.length<=20)&&has YF x)=true:=h;rw[Oj] at h';refine⟨by simp,by simp,by simp,?_,?_⟩
  .unfold gO
   rw[zR (w:=39::cd x) (fun c hc=>by
    rcases Ox.mp hc with z|z
    .subst z;rw[yX];rfl
    .exact txt_codes h'.2 c z) hl]
   unfold gP;show (some (PM (mk (cd x)))).map _=_;rw[sL];simp
  .have:=of_decide_eq_true h'.1
   rw[O4,cw]
   lia
theorem u4{val:List Nat->Option (Oa×List Nat)}{f:Oa->List Nat}{post:List Nat}:∀(ds:List Oa) (d:Oa) (k:Nat) (acc:List Oa),ds.length<k->(∀x∈d::ds,∀l,pA l->val (f x++l)=some (x,l)) ->
  gS val k acc (bg [44] ((d::ds).map f)++41::post)=some (.tuple (acc++d::ds),post)
 |ds,d,0,acc,h,_=>absurd h (Qa _)
 |[],d,k+1,acc,h,hv=>by
  have:=hv d Oh (41::post) (fun c hc=>by cases hc;rfl);show (match val (f d++41::post) with|none=>none|some (v,r)=>_)=_;rw[this];rfl
 |e::ds,d,k+1,acc,h,hv=>by
  have h1:=hv d Oh (44::(bg [44] ((e::ds).map f)++41::post)) (fun c hc=>by cases hc;rfl);have ih:=u4 (post:=post) ds e k (acc++[d]) (by simp_all) (fun x hx=>hv x (Of _ hx))
  have e1:bg [44] ((d::e::ds).map f)++41::post=f d++44::(bg [44] ((e::ds).map f)++41::post):=by
   show (f d++[44]++bg [44] _)++41::post=_;simp
  unfold gS<;>simp_all
theorem zjc:∀(n:Nat) (d:Oa),aE n d=true->cst n d≠[]/\(cst n d).head?≠some 41:=fun n d h=>by
 rcases cL h with h1|⟨m,ds,rfl,rfl,_,_⟩
 .have:=p7 (n:=n) (l:=[]) h1 (fun c hc=>by simp_all)
  exact⟨this.2.2.1,this.2.1⟩
 .exact⟨by simp[cst],by simp[cst]⟩
theorem zjd(h:l.head?≠some 40):ei n l=gO l:=by
 cases n with
 |zero=>unfold ei;rw[if_neg h]
 |succ n=>unfold ei;rw[if_neg h]
theorem val_back:∀(n:Nat) (d:Oa),aE n d=true->∀l,pA l->ei n (cst n d++l)=some (d,l)
 |n,d,h,l,hl=>by
  rcases cL h with h1|⟨m,ds,rfl,rfl,h8,hb⟩
  .have:=p7 (n:=n) h1 hl
   rw[zjd this.1,this.2.2.2.1]
  .have ih:=val_back m
   have e:cst (m+1) (.tuple ds)++l=40::(bg [44] (ds.map (cst m))++41::l):=by
    show (40::(bg [44] (ds.map (cst m))++[41]))++l=_;simp
   rw[e];unfold ei
   cases ds with
   |nil=>rfl
   |cons d ds=>
    have hh:=zjc m d (hb d Oh);have e2:(40::(bg [44] ((d::ds).map (cst m))++41::l)).tail=bg [44] ((d::ds).map (cst m))++41::l:=rfl
    have e3:(bg [44] ((d::ds).map (cst m))++41::l).head?≠some 41:=by
     rw[OU,pN,Qs,wC hh.1];exact hh.2
    rw[e2,if_neg e3];have:=u4 (val:=ei m) (f:=cst m) (post:=l) ds d 100000 [] (by simp at h8;omega) (fun x hx l hl=>ih x (hb x hx) l hl);rw[this];rfl
termination_by n=>n
theorem qy(n:Nat):∀d,1<=aH n d:=by
 induction n with
 |zero=>intro d;cases d <;> exact Q1 _
 |succ n ih=>
  intro d
  by_cases k:kd d=.tup
  .obtain⟨ds,rfl⟩:=oh k
   have:=K1.ym _ ih ds;show 1<=1+(ds.map _).sum
   lia
  .rw[ug k]<;>simp_all
theorem vP{f:Oa->Int}(h:∀d,0<=f d):∀{ds:List Oa}{d:Oa},d∈ds->f d<=(ds.map f).sum
 |e::r,d,hd=>by
  have nn:∀l:List _,0<=(l.map f).sum:=fun l=>by
   induction l with
   |nil=>exact Q1 _
   |cons a l ih=>simp_all<;>grind
  rw[OU,QR]
  rcases Ox.mp hd with z|z
  .grind
  .have:=vP h  z<;>grind
theorem qe{n:Nat}{ds:List Oa}{d:Oa}(h:d∈ds):aH n d<=aH (n+1) (.tuple ds):=by
 have:=vP (f:=aH n) (fun d=>by have:=qy n d;lia) h;show aH n d<=1+(ds.map _).sum
 lia
theorem pV(f:Oa->List Nat):∀ds:List Oa,(ds.map fun d=>(f d).length).sum+ds.length<=(bg [44] (ds.map f)).length+1/\(bg [44] (ds.map f)).length<=(ds.map fun d=>(f d).length).sum+ds.length
 |[]=>by simp[bg]
 |[d]=>by simp[bg]
 |d::e::r=>by
  have ih:=pV f (e::r);have e1:bg [44] ((d::e::r).map f)=f d++[44]++bg [44] _:=rfl
  simp_all
  lia
theorem qY{n:Nat}:∀{ds:List Oa},(∀d∈ds,((cst n d).length:Int)+1<=25*aH n d)->(((ds.map fun d=>(cst n d).length).sum+ds.length:Nat):Int)<=25*(ds.map (aH n)).sum
 |[],_=>by simp
 |d::r,h=>by
  have h2:=qY  fun x hx=>h x (Of _ hx)<;>grind
theorem nN:∀(n:Nat) (d:Oa),aE n d=true->((cst n d).length:Int)+1<=25*aH n d
 |n,d,h=>by
  rcases cL h with h1|⟨m,ds,rfl,rfl,h8,hb⟩
  .have:=(p7 (n:=n) (l:=[]) h1 (fun c hc=>by simp_all)).2.2.2.2
   have:=qy n d
   lia
  .have ih:=nN m
   have h1:=qY  fun d hd=>ih d (hb d hd);have h2:=(pV (cst m) ds).2
   show (((40::_).length):Int)+1<=25*(1+(ds.map _).sum)<;>grind
termination_by n=>n
theorem nI(h:single (.int i)=true):gp [.int i]=some (.str (mk (nc i))):=by
 have h1:=kX h
 have h2:i.natAbs.log2<1920:=by
  by_cases z:i.natAbs=0
  .rw[z];decide
  .exact OH ((UG (k:=64) z).mpr (Pk h1 (by decide))) (by decide)
 have e:Ob _=mk (nc i):=fD (by rw[ziz,eJ]);show (if i.natAbs.log2<1920 then some _ else none)=_;rw[if_pos h2,e]
theorem j6(a b:List Nat):mk a++mk b=mk (a++b):=fD (by rw[gM,eJ,eJ,eJ])
theorem lit(h:cd (Ob s)=l):Ob s=mk l:=fD (by rw[h,eJ])
theorem eQ(h:n<=2000):n<=sizeLine:=OC h (by decide)
theorem xy(f:Oa->List Nat)(ds:List Oa):((ds.map fun d=>mk (f d)).map (·.length)).sum=(ds.map fun d=>(f d).length).sum:=by
 rw[RP];exact congrArg _ (P8 fun d _=>de _)
theorem xF(f:Oa->List Nat)(ds:List Oa):OM (mk [44]) (ds.map fun d=>mk (f d))=mk (bg [44] (ds.map f)):=fD (by
 rw[jQ,RP]
 exact congrArg _ (P8 fun d _=>eJ _))
theorem rY:bR .str .str=true:=rfl
theorem yL:bR .tup .str=false:=rfl
theorem wQ{m:Nat}{ds:List Oa}(hm:aH (m+1) (.tuple ds)<=40)(hb:∀x∈ds,aE m x=true):(bg [44] (ds.map (cst m))).length<=1000/\(ds.map fun d=>(cst m d).length).sum+ds.length<=1000:=by
 have h1:=qY  fun d hd=>nN m d (hb d hd);have h2:=(pV (cst m) ds).2;have h3:1+(ds.map (aH m)).sum<=40:=hm
 lia
theorem str_len{n:Nat}{x:Str}(h:single (.str x)=true):x.length<=20:=by have h':(decide _&&has YF x)=true:=h<;>simp_all
theorem rE:∀(n k:Nat) (d:Oa) (T:Tp),aE n d=true->aH n d<=40->n<k->fm k [.d d] T=some (.str (mk (cst n d)),T)
 |n,0,d,T,h,hm,hk=>absurd hk (Qa _)
 |n,k+1,d,T,h,hm,hk=>by
  have q1:=lit (s:="'") (l:=[39]) (rfl);have q2:=lit (s:="(") (l:=[40]) (rfl);have q3:=lit (s:=")") (l:=[41]) (rfl);have q4:=lit (s:=",") (l:=[44]) (rfl)
  rcases cL h with h1|⟨m,ds,rfl,rfl,h8,hb⟩
  .rcases dF h1 with⟨i,rfl⟩|⟨x,rfl⟩
   .simp[fm,jW,whole,nI h1,nP]
   .have e:mk [39]++x=mk (39::cd x):=by rw[←sL x,j6,eJ];rfl
    have l:(mk [39]).length+x.length<=sizeLine:=eQ (by rw[de];have:=str_len (n:=0) h1;simp;lia);simp[fm,jW,whole,nM,rY,q1,l,e]
  .obtain⟨l1,l2⟩:=wQ hm hb
   have c:=gB (e:=ay (fm k) (ab (aa 0) ag)) (ρ:=[some (.d (.tuple ds))]) (T:=T) (g:=fun d=>.str (mk (cst m d))) (ds:=ds) fun d hd=>by
    have:=rE m k d T (hb d hd) (W9 (qe hd) hm) (by lia);simp[this]
   have j:=qD (z:=mk [44]) (mU (fun d=>mk (cst m d)) ds);rw[xy,xF,OW,de] at j;rw[if_pos (by simp;lia)] at j;have a1:(mk [40]).length+(mk (bg [44] (ds.map (cst m)))).length<=sizeLine:=eQ (by rw[de,de];simp;lia);have a2:(mk (40::bg [44] (ds.map (cst m)))).length+(mk [41]).length<=sizeLine:=eQ (by rw[de,de];simp;lia)
   have e1:mk [40]++mk (bg [44] (ds.map (cst m)))=mk (40::bg [44] (ds.map (cst m))):=by rw[j6];rfl
   have e2:mk (40::bg [44] (ds.map (cst m)))++mk [41]=mk (cst (m+1) (.tuple ds)):=by rw[j6];rfl
   simp[fm,jW,whole,yL,q2,q3,q4,c,j,a1,a2,e1,e2]
theorem qL:∀(n:Nat) (v:Oa),aE n v=true->Sm v
 |n,v,h=>by
  rcases cL h with h1|⟨m,ds,rfl,rfl,_,hd⟩
  .rcases dF h1 with⟨i,rfl⟩|⟨x,rfl⟩
   .show Ho _=true
    rw[Ho]<;>simp_all
   .have h2:(decide _&&has YF x)=true:=h1
    rw[Oj] at h2;exact Sm.mkS (OC (of_decide_eq_true h2.1) (by simp)) (K1.lQ K1.lU h2.2)
  .exact Sm.tup fun d hx=>qL m d (hd d hx)
termination_by n=>n
theorem fz(h:aA v=true):Sm v:=by
 have h':(aE 4 v&&decide _)=true:=h;rw[Oj] at h';exact qL 4 v h'.1
theorem cW(h:aA v=true):aE 4 v=true/\aH 4 v<=40:=by have h':(aE 4 v&&decide _)=true:=h<;>simp_all
theorem lV(T:Tp)(h:aA v=true):ic [.d (.str (mk (cst 4 v)))] T=some (v,T):=by
 obtain⟨hb,hm⟩:=cW h;have hl:=nN 4 v hb
 have ht:(mk (cst 4 v)).length<=60000:=by rw[de];lia
 have Zw:(mk _).length<=sizeLine:=OC ht (by decide);have e:=ye (T:=T) ht 4 25 (by simp) (cst 4 v) (by rw[eJ]<;>simp_all);have b:=val_back 4 v hb [] (fun c hc=>by simp_all);rw[PF] at b;rw[b,de,Nat.sub_self] at e;have e':eE 25 [.d _,.d (.int 0),.d (.int 4)] T=some (.tuple [v,.int _],T):=e;have iv:=yd T (fz h);have hz:(mk _).length=(cst 4 v).length:=de _
 simp[ic,e',isNone,jx,iO,iv,hz]<;>simp_all
def N3(l:List Nat):Prop:=∀c∈l,c<128/\c≠32
theorem N3.no(h:N3 l):32∉l:=fun z=>(h 32 z).2 rfl
theorem ll(x:List Nat)(r:List (List Nat)):bg [32] (x::r)=x++(r.map ([32]++·)).flatten:=pN [32] x r
theorem zje(ha:32∉a)(hb:32∉b)(hu:u=[]\/u.head? = some 32)(hv:v=[]\/v.head? = some 32)(h:a++u=b++v):a=b/\u=v:=by
 induction a generalizing b with
 |nil=>
  cases b <;>simp_all
 |cons x a ih=>
  cases b with
  |nil=>
   exfalso
   rw[V2] at h<;>grind
  |cons c b=>
   injection h with h1 h2
   obtain⟨k1,k2⟩:=ih  (fun z=>ha (Of _ z)) (fun z=>hb (Of _ z)) h2<;>simp_all
theorem xI(r:List (List Nat)):(r.map ([32]++·)).flatten=[]\/((r.map ([32]++·)).flatten).head? = some 32:=by
 cases r with
 |nil=>exact .inl rfl
 |cons a r=>exact .inr rfl
theorem x8:∀(A B:List (List Nat)),A≠[]->B≠[]->(∀a∈A,32∉a)->(∀b∈B,32∉b)->bg [32] A=bg [32] B->A=B
 |[],_,h,_,_,_,_=>absurd rfl h
 |_::_,[],_,h,_,_,_=>absurd rfl h
 |a::A,b::B,_,_,hA,hB,h=>by
  rw[ll,ll] at h;obtain⟨h1,h2⟩:=zje (hA a Oh) (hB b Oh) (xI A) (xI B) h
  congr 1
  cases A with
  |nil=>
   cases B <;>simp_all
  |cons a' A=>
   cases B with
   |nil=>cases h2
   |cons b' B=>
    have h3:a'++(A.map ([32]++·)).flatten=b'++(B.map ([32]++·)).flatten:=by simp_all
    refine x8 _ _ (by simp) (by simp) (fun x hx=>hA x (Of _ hx)) (fun x hx=>hB x (Of _ hx)) ?_
    rw[ll,ll]<;>omega
theorem zjf(x y:Str):QY x y≠[]:=by
 unfold QY;split
 .simp
 .split
  .simp
  .rw[StrLaws.partsBetween_eq]
   obtain⟨p,r,e⟩:=StrLaws.partsFrom_ne x _ 0 _;rw[e];simp
noncomputable def BL:Str:=Ob " "
theorem zjg{A B:List Str}(h:A.map cd=B.map cd):A=B:=by
 induction A generalizing B with
 |nil=>simp_all
 |cons a A ih=>cases B with
  |nil=>cases h
  |cons b B=>
   injection h with h1 h2
   rw[fD h1,ih h2]
theorem zjh(ZA:ws≠[])(h:∀w∈ws,32∉cd w):QY (OM BL ws) BL=ws:=by
 have j:=StrLaws.join_split (OM BL ws) BL
 have f:∀p∈QY (OM BL ws) BL,32∉cd p:=by
  exact StrLaws.split_free _ 32
 generalize hA:QY _ BL=A at j f
 have hA':A≠[]:=by rw[←hA];exact zjf _ _
 have c:cd (OM BL A)=cd (OM BL ws):=by rw[j]
 rw[jQ,jQ] at c;refine zjg (x8 _ _ (by simp_all) (by simp_all) (fun a ha=>?_) (fun a ha=>?_) c)
 .obtain⟨p,hp,rfl⟩:=OF.mp ha
  exact f p hp
 .obtain⟨p,hp,rfl⟩:=OF.mp ha
  exact h p hp
open K1 (has YH YF single aE aH isName aA Dt Sh Z4)
@[simp] theorem Lq:Ob a=Ob b↔a=b:=by
 constructor
 .intro h
  have h2:(Ob a).cps.toList=(Ob b).cps.toList:=by rw[h]
  rw[UJ,UJ] at h2;have inj:Function.Injective _:=fun x y e=>Char.ext (UInt32.toNat_inj.mp e);exact String.toList_inj.mp ((List.map_inj_right (fun x y e=>inj e)).mp h2)
 .rintro rfl;rfl
theorem nu:∀(n:Nat) (d:Oa),aE n d=true->aE (n+1) d=true/\aH (n+1) d=aH n d
 |n,d,h=>by
  rcases cL h with h1|⟨m,ds,rfl,rfl,h8,hd⟩
  .exact⟨(ff h1).1,by rw[(ff  h1).2,(ff  h1).2]⟩
  .have ih:=fun d ZX=>nu m d (hd d ZX)
   refine⟨?_,?_⟩
   .show (decide _&&ds.all _)=true<;>simp_all
   .show 1+(ds.map _).sum=1+(ds.map _).sum
    rw[P8 fun d ZX=>(ih d ZX).2]
termination_by n=>n
noncomputable def sl(L:List Str):List PyData:=L.map .str
noncomputable def kD(C:Addr)(L:List Str)(p b:Int):List PyData:=[cQ C,.tuple [.str "parted",.list (sl L)],.tuple [.str "place",.int p],.tuple [.str "begun",.int b]]
abbrev TW(C:Addr)(t0:List Oa)(L:List Str)(p b:Int):Tp:=[kD C L p b]
section
variable {C:Addr}{t0:List Oa}{L:List Str}{p b:Int}
theorem ke:fE C (TW C t0 L p b) 0=some [.tuple [.str "parted",.list (sl L)],.tuple [.str "place",.int p],.tuple [.str "begun",.int b]]:=by simp[fE,kD,iI,cQ]
theorem wF:gY C "parted" (.tp 0) (TW C t0 L p b)=some (.d (.list (sl L)),TW C t0 L p b):=by
 unfold gY;dsimp only;rw[ke];simp[fF]
theorem ri:gY C "place" (.tp 0) (TW C t0 L p b)=some (.d (.int p),TW C t0 L p b):=by
 unfold gY;dsimp only;rw[ke];simp[fF]
theorem zji:gY C "begun" (.tp 0) (TW C t0 L p b)=some (.d (.int b),TW C t0 L p b):=by
 unfold gY;dsimp only;rw[ke];simp[fF]
theorem zjj:eG C "place" ρ (.d (.int q)) (.tp 0) (TW C t0 L p b)=some ((.nx,ρ),TW C t0 L q b):=by
 unfold eG;dsimp only;rw[ke];simp[gu,kD]
theorem zjk:eG C "begun" ρ (.d (.int q)) (.tp 0) (TW C t0 L p b)=some ((.nx,ρ),TW C t0 L p q):=by
 unfold eG;dsimp only;rw[ke];simp[gu,kD]
theorem nJ:fS C f fo ρ T=Xy (fo ρ T) (gY C f):=rfl
theorem qE:jn C f fo fe ρ T=Xy (fe ρ T) fun w T1=>Xy (fo ρ T1) (eG C f ρ w):=rfl
theorem eO:dm C m mm fo g ρ T=Xy (fo ρ T) (l9 C m mm g ρ):=rfl
theorem Jr(h:¬m="parted"/\¬m="place"/\¬m="begun"):l9 C (Ob m) mm g ρ (.tp 0) (TW C t0 L p b)=Xy (g ρ (TW C t0 L p b)) fun ws T2=>Xy (mm (.tp 0::ws) T2) fun x T3=>some (.d x,T3):=by
 unfold l9;dsimp only;rw[ke];have h1:¬ "parted"=m:=fun z=>h.1 z.symm;have h2:¬ "place"=m:=fun z=>h.2.1 z.symm;have h3:¬ "begun"=m:=fun z=>h.2.2 z.symm;simp[fF,h1,h2,h3]
theorem iy:(sl L).length=L.length:=by simp[sl]
theorem zjl{k:Nat}{w:Str}(h:L[k]? = some w):XR (sl L) (k:Int)=some (.str w):=by
 refine eV ?_
 unfold sl<;>simp_all
theorem gH{k:Nat}{w:Str}(h:L[k]? = some w):hJ C [.tp 0] (TW C t0 L (k:Int) b)=some (.str w,TW C t0 L (k:Int) b):=by
 have hk:=(Od.mp h).1
 have HK:=by omega
 have a:=zjl h;have ln:=iy (L:=L);simp[hJ,nJ,wF,ri,ln,HK,a]
theorem oz:iT C [.tp 0,.d (.bool true)] (TW C t0 L p b)=some (.none,TW C t0 L (p+1) b):=by simp[iT,nJ,qE,ri,zjj]
theorem jV(ha:a<20)(hb:b<60):kO C [.tp 0,.d (.bool true),.d (.int a)] (TW C t0 L p b)=some (.none,TW C t0 L (p+1) (b+1)):=by simp[kO,nJ,qE,eO,zji,Jr,ha,hb,oz,zjk]
theorem zjm{k:Nat}(h:L.length<=k):jA C [.tp 0] (TW C t0 L (k:Int) b)=some (.none,TW C t0 L (k:Int) b):=by
 have HK:¬(k)<(L.length):=by lia
 have ln:=iy (L:=L);simp[jA,nJ,wF,ri,ln,HK]
theorem zjn(T:Tp)(h:isName (.str x)=true):eM [.d (.str x)] T=some (.bool true,T):=by
 have h':(decide _&&decide _&&has YH x)=true:=h;rw[Oj,Oj] at h';have l1:=of_decide_eq_true h'.1.1;have l8:=of_decide_eq_true h'.1.2
 have l1':(1:Int)<=(x.length):=by lia
 have l8':(x.length:Int)<=8:=by lia
 have hz:x.length<=sizeLine:=OC l8 (by decide);have hh:=oP (y:=YH) T hz;rw[h'.2] at hh;have hh':fV [.d _,.d (.str "abcdefghijklmnopqrstuvwxyz")] T=some _:=hh;simp[eM,rY,hz,l1',l8',hh']
theorem zjo{k:Nat}{w:Str}(h:L[k]? = some w)(hn:isName (.str w)=true):mX C [.tp 0] (TW C t0 L (k:Int) b)=some (.str w,TW C t0 L ((k:Int)+1) b):=by
 have a:=gH (C:=C) (t0:=t0) (b:=b) h;have i:=zjn (TW C t0 L (k) b) hn;simp[mX,eO,Jr,a,i,oz]
theorem zjp(h:aA v=true):isNone v=false:=by
 cases v with
 |none=>cases h
 |_=>rfl
theorem zjq{k:Nat}{v:Oa}(h:L[k]? = some (mk (cst 4 v)))(hv:aA v=true):ni C [.tp 0] (TW C t0 L (k:Int) b)=some (v,TW C t0 L ((k:Int)+1) b):=by
 have a:=gH (C:=C) (t0:=t0) (b:=b) h;have i:=lV (TW C t0 L (k) b) hv
 have n:f6 v .none=some (.bool true):=by
  have e:f6 v .none=some (.bool (!isNone v)):=rfl;rw[e,zjp hv];rfl
 simp[ni,eO,Jr,a,i,oz,n]
noncomputable def ns(j:Nat):Str:=mk (nc (j:Int))
theorem zjr(h1:i<=1000)(h2:j<=1000)(h:ns i=ns j):i=j:=by
 have e:cd (ns i)=cd (ns j):=by rw[h]
 unfold ns at e;rw[eJ,eJ] at e;have a:=qW (i:=(i)) (gA (by lia) (by lia))
 have b:=qW (i:=(j)) (gA (by lia) (by lia))<;>grind
theorem zjs(hn:n<=1000)(hj:j<n):jt (ns j) ((QN n).map ns)=some j:=by
 have key:∀(l a:Nat),a+l<=1000->a<=j->j<a+l->jt (ns j) ((List.range' a l).map ns)=some (j-a):=by
  intro l
  induction l with
  |zero=>grind
  |succ l ih=>
   intro a h0 h1 h2;rw[List.range'_succ,OU];unfold jt
   by_cases z:a=j
   simp_all
   .rw[if_neg (fun e=>z (zjr _ _ e))]<;>grind
 have:=key n 0 (by lia) (Pm _) (by lia)
 rw[List.range_eq_range']<;>lia
theorem qO:∀l:List Str,eg (sl l)=some l
 |[]=>rfl
 |x::r=>by
  have ih:=qO r;unfold sl at ih ⊢;rw[OU,eg,ih];rfl
theorem in_sl(h:w∈l):inD (.str w) (.list (sl l))=some (.bool true):=by
 have e1:(sl l).all dA=true:=Ou.mpr fun d hd=>by
  obtain⟨x,_,rfl⟩:=OF.mp hd;rfl
 have e2:((sl l).any fun y=>ZY y (.str w))=true:=Tu.mpr ⟨.str w,OF.mpr ⟨w,h,rfl⟩,beq_self_eq_true w⟩
 have e3:Dr (.str w) (.list (sl l))=if _=true then some _ else none:=rfl
 unfold inD;rw[e3,e1,e2];rfl
theorem zU{k n j:Nat}(h:L[k]? = some (ns j))(hn:n<=100)(hj:j<n):kN C [.tp 0,.d (.int (n:Int))] (TW C t0 L (k:Int) b)=some (.int (j:Int),TW C t0 L ((k:Int)+1) b):=by
 have a:=gH (C:=C) (t0:=t0) (b:=b) h;have r:=p8 (j:=(n:Int)) (by lia) (by lia)
 have c:=gB (e:=Yd gp (ab (aa 0) ag)) (ρ:=[some (.tp 0),some (.d (.int (n:Int))),none,none]) (T:=TW C t0 L (k:Int) b) (g:=fun d=>match d with | .int i=>.str (mk (nc i))|_=>.none) (ds:=dy 0 n) fun d hd=>by
  obtain⟨i,hi,rfl⟩:=OF.mp hd
  simp_all
  have z:=nI (i:=(0:Int)+(i:Int)) (gA (by lia) (by lia))<;>simp_all
 have m:(dy 0 n).map (fun d=>match d with | .int i=>.str (mk (nc i))|_=>Xh)=sl ((QN n).map ns):=by
  unfold sl dy;simp[ns]
 rw[m] at c;have i1:=in_sl (w:=ns j)  (OF.mpr ⟨j,Uw.mpr hj,rfl⟩);have i2:=zjs (n:=n)  (by lia) hj;have i3:=qO ((QN n).map ns);simp[kN,eO,Jr,r,c,a,i1,oz,tm,tj,i3,i2]
theorem fY{p:Nat}{w:Str}{r:List Str}(h:L.drop p=w::r):L[p]? = some w/\L.drop (p+1)=r:=by
 have h1:(L.drop p)[0]? = some w:=by rw[h];rfl
 have h2:(L.drop p).tail=r:=by rw[h];rfl
 exact⟨by simpa using h1,by rw[←h2,List.tail_drop]⟩
def IR(C:Addr)(k:Nat)(m a:Int)(c:Nat)(ws:List Str)(e:Oa):Prop:=∀(t0:List Oa) (L:List Str) (p b:Nat) (post:List Str),b+c<=60->L.drop p=ws++post->fX C k [.tp 0,.d (.int a),.d (.int m)] (TW C t0 L (p:Int) (b:Int))=some (e,TW C t0 L ((p+ws.length:Nat):Int) ((b+c:Nat):Int))
theorem vA{k:Nat}{m a:Int}{o1:Option D.W}{f:Oa->Nat×List Str}{post:List Str}:∀(es ds:List Oa) (p b:Nat),ds.length=es.length->(∀e∈es,IR C k m a (f e).1 (f e).2 e)->L.drop p=(es.map fun e=>(f e).2).flatten++post->b+(es.map fun e=>(f e).1).sum<=60 ->
  bL bT (ay (fX C k) (ab (aa 1) (ab (aa 3) (ab (aa 4) ag)))) [some (.tp 0),o1,some (.d (.int a)),some (.d (.int m))] ds (TW C t0 L (p:Int) (b:Int))=some (es,TW C t0 L ((p+(es.map fun e=>(f e).2).flatten.length:Nat):Int) ((b+(es.map fun e=>(f e).1).sum:Nat):Int))
 |[],[],p,b,_,_,_,_=>rfl
 |[],_::_,_,_,h,_,_,_=>by simp_all
 |_::_,[],_,_,h,_,_,_=>by simp_all
 |e::es,d::ds,p,b,hl,hr,hd,hb=>by
  have h0:=hr e Oh;simp only[OU,Re,QR,Qs] at hd hb ⊢;have r0:=h0 t0 L p b _ (by lia) hd
  have ZX:L.drop (p+(f e).2.length)=(es.map fun e=>(f e).2).flatten++post:=by
   rw[←UK,hd,UL]
  have ih:=vA (k:=k) (m:=m) (a:=a) (o1:=o1) (f:=f) (post:=post) es ds _ (b+(f e).1) (by simpa using hl) (fun x hx=>hr x (Of _ hx)) ZX (by lia)
  have e1:p+((f e).2++(es.map fun e=>(f e).2).flatten).length=p+(f e).2.length+(es.map fun e=>(f e).2).flatten.length:=by grind
  have e2:b+((f e).1+(es.map fun e=>(f e).1).sum)=b+(f e).1+(es.map fun e=>(f e).1).sum:=by lia
  rw[e1,e2]
  simp_all
  simp[bL,r0,ih]
theorem yc{k:Nat}{m a:Int}{f:Oa->Nat×List Str}{post:List Str}{es:List Oa}{p b:Nat}(hl:es.length<=8)(hr:∀e∈es,IR C k m a (f e).1 (f e).2 e)(hd:L.drop p=(es.map fun e=>(f e).2).flatten++post)(hb:b+(es.map fun e=>(f e).1).sum<=60) :
  kY C (k+1) [.tp 0,.d (.int (es.length:Int)),.d (.int a),.d (.int m)] (TW C t0 L (p:Int) (b:Int))=some (.tuple es,TW C t0 L ((p+(es.map fun e=>(f e).2).flatten.length:Nat):Int) ((b+(es.map fun e=>(f e).1).sum:Nat):Int)):=by
 have c:=vA  (t0:=t0) (o1:=some (.d (.int (es.length))))  es _ p b (wm _) hr hd hb;have r:=p8 (j:=(es.length)) (by lia) (by lia);simp[kY,r,c]
end
noncomputable def Ah(i:Nat)(ρ:Xw)(w:D.W)(T1:Tp)(o:Option (Option D.W)):Option ((Fl×Xw)×Tp):=match w,o with
 |.d (.list ys),some (some (.loc (.list xs)))=>if xs.length+ys.length<=Om then some ((.nx,ρ.set i (some (.loc (.list (xs++ys))))),T1) else none
 |_,_=>none
theorem yQ:iN i f ρ T=Xy (f ρ T) fun w T1=>Ah i ρ w T1 ρ[i]?:=rfl
theorem xJ(h:xs.length+ys.length<=Om):Ah i ρ (.d (.list ys)) T (some (some (.loc (.list xs))))=some ((.nx,ρ.set i (some (.loc (.list (xs++ys))))),T):=if_pos h
theorem yq(a b:List Str):sl a++sl b=sl (a++b):=by simp[sl]
theorem jp(h:n<=100000):n<=sizeLine:=OC h (by decide)
theorem wx{mw:XB}{e0:Oa}{T:Tp}{g:Oa->List Str}:∀(es:List Oa) (acc:List Str) (o2:Option D.W),(∀e∈es,mw [.d e] T=some (.list (sl (g e)),T))->acc.length+(es.map g).flatten.length<=100000 ->
  ∃CV,forL 2 (iN 1 (ay mw (ab (aa 2) ag))) es [some (.d e0),some (.loc (.list (sl acc))),o2] T=some ((.nx,[some (.d e0),some (.loc (.list (sl (acc++(es.map g).flatten)))),CV]),T)
 |[],acc,o2,_,_=>⟨o2,by simp[forL]⟩
 |e::es,acc,o2,h,hl=>by
  simp only[OU,Re,Pj] at hl;have h0:=h e Oh;obtain⟨o',ih⟩:=wx  (e0:=e0)   es (acc++g e) (some (.d e)) (fun x hx=>h x (Of _ hx)) (by grind);refine⟨o',?_⟩
  have z:(sl acc).length+(sl (g e)).length<=sizeLine:=by rw[iy,iy];exact jp (by lia)
  have k:=xJ (i:=1) (ρ:=[some (.d e0),some (.loc (.list (sl acc))),some (.d e)]) (T:=T) z;rw[yq] at k
  have st:iN 1 (ay mw (ab (aa 2) ag)) [some (.d e0),some (.loc (.list (sl acc))),some (.d e)] T=some ((.nx,[some (.d e0),some (.loc (.list (sl (acc++g e)))),some (.d e)]),T):=by
   rw[yQ]<;>simp_all
  rw[forL]<;>simp_all
theorem zjt:XR (a::r) 0=some a:=by simp[XR,Hs]
theorem mN{k:Nat}{T:Tp}{w0:Str}{rest:List Oa}{fl:List Str}{es:List Oa}{g:Oa->List Str}(hf:g7 [.d (.tuple (.str w0::rest))] T=some (.list (sl fl),T))(hi:cA [.d (.tuple (.str w0::rest))] T=some (.list es,T))
  (hr:∀e∈es,gx k [.d e] T=some (.list (sl (g e)),T)) (hl:fl.length+(es.map g).flatten.length<=90000):gx (k+1) [.d (.tuple (.str w0::rest))] T=some (.list (sl (w0::(fl++(es.map g).flatten))),T):=by
 obtain⟨o2,lp⟩:=wx  (e0:=.tuple (.str w0::rest)) es (w0::fl) none hr (by grind)
 have z:(sl fl).length+1<=sizeLine:=by rw[iy];exact jp (by lia)
 have z':1+(sl fl).length<=sizeLine:=by lia
 have st:jo 1 (aB .list (ab (af XH (aa 0) (fC (.int 0))) ag)) (ay g7 (ab (aa 0) ag)) [some (.d (.tuple (.str w0::rest))),none,none] T=some ((.nx,[some (.d (.tuple (.str w0::rest))),some (.loc (.list (sl (w0::fl)))),none]),T):=by
  unfold jo;simp[zjt,hf,oA,z'];rfl
 have e0:gx (k+1)=aN 3 _:=rfl<;>simp_all
theorem zju:bM (a::r) (some 1) none=r:=by
 have e:bM (a::r) (some ((1:Nat))) none=r:=by
  unfold bM;rw[HT.vW,HT.xj];simp
 exact e
structure EX(C:Addr)(m:Int)(n c:Nat)(ws:List Str)(e:Oa):Prop where
 n1:1<=n
 c1:1<=c
 c6:c<=60
 ln:ws.length<=2*c
 ne:ws≠[]
 ok:∀w∈ws,N3 (cd w)/\w.length<=1100
 pw:∀k T,n<k->gx k [.d e] T=some (.list (sl ws),T)
 rd:∀k a,2*n<=k->a+(n:Int)<=20->IR C k m a c ws e
 bt:aE (2*n+5) e=true
noncomputable def litOk(w:String):Bool:=(cd (Ob w)).all (fun c=>decide (c<128/\c≠32))&&decide ((Ob w).length<=1100)
theorem j7(h:litOk w=true):N3 (cd (Ob w))/\(Ob w).length<=1100:=by
 unfold litOk at h;rw[Oj] at h;exact⟨fun c hc=>of_decide_eq_true (Ou.mp h.1 c hc),of_decide_eq_true h.2⟩
theorem uC:∀(k n:Nat) (d:Oa),aE n d=true->aE (n+k) d=true
 |0,_,_,h=>h
 |k+1,n,d,h=>by
  have:=(nu _ d (uC k n d h)).1<;>omega
theorem gD{n m:Nat}{d:Oa}(h:aE n d=true)(l:n<=m):aE m d=true:=by have:=uC (m-n) n d h<;>simp_all
theorem ij(hl:ds.length<=8)(h:∀d∈ds,aE n d=true):aE (n+1) (.tuple ds)=true:=by show (decide _&&ds.all _)=true<;>simp_all
theorem kj(h:single (.str (Ob w))=true)(n:Nat):aE n (.str (Ob w))=true:=(ff h).1
theorem zjv:∀(ls:List (List Nat)),c∈bg [44] ls->c=44\/∃l∈ls,c∈l
 |[],h=>by cases h
 |x::r,h=>by
  rw[pN] at h
  rcases OD.mp h with h|h
  .exact .inr ⟨x,Oh,h⟩
  .grind
theorem zjw:∀c∈cd YF,c<128/\c≠32:=by decide +kernel
theorem wO:∀(n:Nat) (d:Oa),aE n d=true->N3 (cst n d)
 |n,d,h=>fun c z=>by
  rcases cL h with h1|⟨m,ds,rfl,rfl,_,hd⟩
  .rcases dF h1 with⟨i,rfl⟩|⟨x,rfl⟩
   .rw[nP] at z
    have:=nF i c z
    lia
   .rw[nM] at z
    have h2:(decide (x.length<=20)&&has YF x)=true:=h1;rw[Oj] at h2
    rcases Ox.mp z with z|z
    .simp_all
    .exact zjw c (of_decide_eq_true (Ou.mp h2.2 c z))
  .have e:cst (m+1) (.tuple ds)=40::(bg [44] (ds.map (cst m))++[41]):=rfl
   rw[e] at z
   rcases Ox.mp z with z|z
   .simp_all
   .rcases OD.mp z with z|z
    .rcases zjv _ z with z|⟨l,hl,hc⟩
     .simp_all
     .obtain⟨d,ZX,rfl⟩:=OF.mp hl
      exact wO m d (hd d ZX) c hc
    .simp_all
termination_by n=>n
theorem vT(h:aA v=true):N3 (cd (mk (cst 4 v)))/\(mk (cst 4 v)).length<=1100:=by
 obtain⟨hb,hm⟩:=cW h;have hl:=nN 4 v hb;refine⟨?_,by rw[de];lia⟩;exact wO 4 v hb
theorem zw(j:Nat)(h:j<=1000):N3 (cd (ns j))/\(ns j).length<=1100:=by
 have s:=nF (j);have l:=yJ (i:=(j)) (gA (by lia) (by lia));unfold ns;rw[eJ,de];exact⟨fun c z=>by grind,by lia⟩
@[simp] theorem NP{α:Type}{a:α}{r:List α}:XR (a::r) 0=some a:=by simp[XR,Hs]
@[simp] theorem NO{α:Type}{a b:α}{r:List α}:XR (a::b::r) 1=some b:=eV (rfl)
@[simp] theorem NN{α:Type}{a b c:α}{r:List α}:XR (a::b::c::r) 2=some c:=eV (rfl)
theorem pf:inD (.str (Ob x)) (.tuple [.str "put",.str "got",.str "row"])=some (.bool (decide (x="put")||(decide (x="got")||decide (x="row")))):=by
 have e:inD (.str (Ob x)) (.tuple [.str "put",.str "got",.str "row"])=some (.bool (ZY _ _||(ZY _ _||(ZY _ _||false)))):=rfl
 have f:∀a b ,ZY (.str (Ob a)) (.str (Ob b))=decide _:=fun a b=>by
  rw[P9];simp[ZY];exact⟨fun h=>h.symm,fun h=>h.symm⟩
 rw[e,f,f,f,WQ]
section
variable {C:Addr}{m:Int}{n:Nat}
theorem gT(h1:p=p')(h2:b=b'):TW C t0 L p b=TW C t0 L p' b' :=by simp_all
theorem zjx(hn:1<=n)(h:aA v=true):EX C m n 1 [Ob "put",mk (cst 4 v)] (.tuple [.str "put",v]):=by
 obtain⟨hb,hm⟩:=cW h;have st:∀T,fm 25 [.d v] T=some (.str (mk (cst 4 v)),T):=fun T=>rE 4 25 v T hb hm (by decide);refine⟨hn,by decide,by decide,by simp,by simp,fun w hw=>?_,fun k T hk=>?_,fun k a hk ha t0 L p b post hb hd=>?_,?_⟩
 .simp at hw
  rcases hw with rfl|rfl
  .exact j7 (by decide +kernel)
  .exact vT h
 .obtain⟨k,rfl⟩:=aY k (by omega)
  exact mN (k:=k) (T:=T) (fl:=[mk (cst 4 v)]) (es:=[]) (g:=fun _=>[]) (by simp[g7,st,sl]) (by simp[cA]) (fun e he=>by cases he) (by simp)
 .obtain⟨k,rfl⟩:=aY k (by omega)
  obtain⟨a0,d0⟩:=fY (w:=Ob "put") (r:=mk (cst 4 v)::post) hd;obtain⟨a1,_⟩:=fY d0;have b1:=gH (C:=C) (t0:=t0) (b:=(b:Int)) a0;have b2:=jV (C:=C) (t0:=t0) (L:=L) (p:=(p:Int)) (b:=(b:Int)) (a:=a) (by omega) (by omega);have b3:=zjq (C:=C) (t0:=t0) (b:=(b:Int)+1) a1 h;simp only[Ra,RC] at b3;have fin:TW C t0 L ((p + [Ob "put",mk (cst 4 v)].length:Nat):Int) ((b+1:Nat):Int)=TW C t0 L ((p:Int)+1+1) ((b:Int)+1):=gT (by show ((p+2:Nat):Int)=_;omega) (by omega);rw[fin];simp[fX,eO,Jr,b1,pf,b2,b3]
 .exact gD (ij (n:=4) (by simp) fun d hd=>by
   simp at hd
   rcases hd with rfl|rfl
   .exact kj (by decide +kernel) 4
   .exact hb) (by omega)
theorem rK{j:Nat}(h:j<=1000):gp [.int (j:Int)]=some (.str (ns j)):=nI (gA (by omega) (by omega))
theorem xc{j:Nat}(h:j<=1000):Kz [.int (j:Int)]=some (.str (ns j)):=rK h
theorem zjy{g j:Nat}(hn:1<=n)(hg:g<=12)(hj:j<g):EX C (g:Int) n 1 [Ob "got",ns j] (.tuple [.str "got",.int (j:Int)]):=by
 have s1:=rK (j:=j) (by omega);have s2:=xc (j:=j) (by omega);refine⟨hn,by decide,by decide,by simp,by simp,fun w hw=>?_,fun k T hk=>?_,fun k a hk ha t0 L p b post hb hd=>?_,?_⟩
 .simp at hw
  rcases hw with rfl|rfl
  .exact j7 (by decide +kernel)
  .exact zw j (by omega)
 .obtain⟨k,rfl⟩:=aY k (by omega)
  exact mN (k:=k) (T:=T) (fl:=[ns j]) (es:=[]) (g:=fun _=>[]) (by simp[g7,s1,sl]) (by simp[cA]) (fun e he=>by cases he) (by simp)
 .obtain⟨k,rfl⟩:=aY k (by omega)
  obtain⟨a0,d0⟩:=fY (w:=Ob "got") (r:=ns j::post) hd;obtain⟨a1,_⟩:=fY d0;have b1:=gH (C:=C) (t0:=t0) (b:=(b:Int)) a0;have b2:=jV (C:=C) (t0:=t0) (L:=L) (p:=(p:Int)) (b:=(b:Int)) (a:=a) (by omega) (by omega);have b3:=zU (C:=C) (t0:=t0) (b:=(b:Int)+1) (n:=g) a1 (by omega) hj;simp only[Ra,RC] at b3;have fin:TW C t0 L ((p + [Ob "got",ns j].length:Nat):Int) ((b+1:Nat):Int)=TW C t0 L ((p:Int)+1+1) ((b:Int)+1):=gT (by show ((p+2:Nat):Int)=_;omega) (by omega);rw[fin];simp[fX,eO,Jr,b1,pf,b2,b3]
 .exact gD (ij (n:=0) (by simp) fun d hd=>by
   simp at hd
   rcases hd with rfl|rfl
   .exact kj (by decide +kernel) 0
   .exact(ff (gA (by omega) (by omega))).1) (by omega)
theorem r8{f:Oa->Nat×List Str}:∀{es:List Oa},(∀e∈es,(f e).2.length<=2*(f e).1)->(es.map fun e=>(f e).2).flatten.length<=2*(es.map fun e=>(f e).1).sum
 |[],_=>by simp
 |e::es,h=>by
  have:=r8  fun x hx=>h x (Of _ hx)<;>grind
theorem zD{f:Oa->Nat×List Str}{P:Str->Prop}{es:List Oa}(h:∀e∈es,∀w∈(f e).2,P w):∀w∈(es.map fun e=>(f e).2).flatten,P w :=by grind
theorem zjz{f:Oa->Nat×List Str}{es:List Oa}(hl:es.length<=8)(h:∀e∈es,EX C m n (f e).1 (f e).2 e)(hc:1+(es.map fun e=>(f e).1).sum<=60) :
  EX C m (n+1) (1+(es.map fun e=>(f e).1).sum) (Ob "row"::ns es.length::(es.map fun e=>(f e).2).flatten) (.tuple [.str "row",.tuple es]):=by
 have fl:=r8 (f:=f) (es:=es) fun e he=>(h e he).ln;have s1:=rK (j:=es.length) (by omega);have s2:=xc (j:=es.length) (by omega);refine⟨by omega,by omega,hc,by simp only[O4];omega,by simp,fun w hw=>?_,fun k T hk=>?_,fun k a hk ha t0 L p b post hb hd=>?_,?_⟩
 .rcases Ox.mp hw with rfl|hw
  .exact j7 (by decide +kernel)
  .rcases Ox.mp hw with rfl|hw
   .exact zw _ (by omega)
   .exact zD (P:=fun w=>N3 (cd w)/\w.length<=1100) (fun e he=>(h e he).ok) w hw
 .obtain⟨k,rfl⟩:=aY k (by omega)
  exact mN (k:=k) (T:=T) (fl:=[ns es.length]) (es:=es) (g:=fun e=>(f e).2) (by simp[g7,s1,sl]) (by simp[cA]) (fun e he=>(h e he).pw k T (by omega)) (by simp only[O4,Rv];omega)
 .obtain⟨k,rfl⟩:∃j,k=j+2:=⟨k-2,by omega⟩
  obtain⟨a0,d0⟩:=fY (w:=Ob "row") (r:=ns es.length::((es.map fun e=>(f e).2).flatten++post)) hd;obtain⟨a1,d1⟩:=fY d0;have b1:=gH (C:=C) (t0:=t0) (b:=(b:Int)) a0;have b2:=jV (C:=C) (t0:=t0) (L:=L) (p:=(p:Int)) (b:=(b:Int)) (a:=a) (by omega) (by omega);have b3:=zU (C:=C) (t0:=t0) (b:=(b:Int)+1) (n:=9) a1 (by omega) (by omega);have b4:=yc (C:=C) (t0:=t0) (L:=L) (k:=k) (m:=m) (a:=a+1) (f:=f) (post:=post) (es:=es) (p:=p+2) (b:=b+1) hl (fun e he=>(h e he).rd k (a+1) (by omega) (by omega)) d1 (by omega);have e4:TW C t0 L ((p+2:Nat):Int) ((b+1:Nat):Int)=TW C t0 L ((p:Int)+1+1) ((b:Int)+1):=gT (by omega) (by omega);rw[e4] at b4;simp only[Ra,RC] at b3;have fin:TW C t0 L ((p+(Ob "row"::ns es.length::(es.map fun e=>(f e).2).flatten).length:Nat):Int) ((b+(1+(es.map fun e=>(f e).1).sum):Nat):Int)=TW C t0 L ((p+2+(es.map fun e=>(f e).2).flatten.length:Nat):Int) ((b+1+(es.map fun e=>(f e).1).sum:Nat):Int):=gT (by simp only[O4];omega) (by omega);rw[fin];generalize TW C t0 L ((p+2+(es.map fun e=>(f e).2).flatten.length:Nat):Int) ((b+1+(es.map fun e=>(f e).1).sum:Nat):Int)=T9 at b4 ⊢;simp[fX,eO,Jr,b1,pf,b2,b3,b4]
 .exact gD (ij (n:=2*n+6) (by simp) fun d hd=>by
   simp at hd
   rcases hd with rfl|rfl
   .exact kj (by decide +kernel) _
   .exact ij hl fun e he=>(h e he).bt) (by omega)
end
noncomputable def EA:List String:=["part","sum","join","same","less"]
noncomputable def mF:List (Str×Int):=[("many",1),("part",2),("sum",2),("join",2),("same",2),("less",2)]
def Wide(w:String)(k:Nat):Prop:=(w="many"/\k=1)\/(w∈EA/\k=2)
theorem zka{w:String}{k:Nat}(h:Wide w k):Jx mF (.str (Ob w))=some (.bool true)/\D.atT mF (.str (Ob w))=some (.int (k:Int)):=by
 rcases h with⟨rfl,rfl⟩|⟨hw,rfl⟩
 .simp[Jx,D.atT,mF]
 .simp[EA] at hw
  rcases hw with rfl|rfl|rfl|rfl|rfl <;> simp[Jx,D.atT,mF]
theorem zkb(h:Wide w k):¬w="put"/\¬w="got"/\¬w="row"/\¬w="fail":=by
 rcases h with⟨rfl,_⟩|⟨hw,_⟩
 .simp
 .simp[EA] at hw<;>grind
theorem zkc(h:Wide w k):litOk w=true/\single (.str (Ob w))=true/\k<=2:=by
 have key:∀w∈"many"::EA,litOk w=true/\single (.str (Ob w))=true:=by decide +kernel
 rcases h with⟨rfl,rfl⟩|⟨hw,rfl⟩<;>simp_all
section
variable {C:Addr}{m:Int}{n:Nat}
theorem yh{w:String}{f:Oa->Nat×List Str}{es:List Oa}(hw:Wide w es.length)(h:∀e∈es,EX C m n (f e).1 (f e).2 e)(hc:1+(es.map fun e=>(f e).1).sum<=60) :
  EX C m (n+1) (1+(es.map fun e=>(f e).1).sum) (Ob w::(es.map fun e=>(f e).2).flatten) (.tuple (.str (Ob w)::es)):=by
 have fl:=r8 (f:=f) (es:=es) fun e he=>(h e he).ln;obtain⟨n1,n2,n3,n4⟩:=zkb hw;obtain⟨t1,t2⟩:=zka hw;obtain⟨l1,l2,l3⟩:=zkc hw;unfold mF at t1 t2;refine⟨by omega,by omega,hc,by simp only[O4];omega,by simp,fun w hw=>?_,fun k T hk=>?_,fun k a hk ha t0 L p b post hb hd=>?_,?_⟩
 .rcases Ox.mp hw with rfl|hw
  .exact j7 l1
  .exact zD (P:=fun w=>N3 (cd w)/\w.length<=1100) (fun e he=>(h e he).ok) w hw
 .obtain⟨k,rfl⟩:=aY k (by omega)
  exact mN (k:=k) (T:=T) (fl:=[]) (es:=es) (g:=fun e=>(f e).2) (by simp[g7,n1,n2,n3,sl]) (by simp[cA,n1,n2,n3,zju]) (fun e he=>(h e he).pw k T (by omega)) (by simp only[Rv];omega)
 .obtain⟨k,rfl⟩:∃j,k=j+2:=⟨k-2,by omega⟩
  obtain⟨a0,d0⟩:=fY (w:=Ob w) (r:=(es.map fun e=>(f e).2).flatten++post) hd;have b1:=gH (C:=C) (t0:=t0) (b:=(b:Int)) a0;have b2:=jV (C:=C) (t0:=t0) (L:=L) (p:=(p:Int)) (b:=(b:Int)) (a:=a) (by omega) (by omega);have b4:=yc (C:=C) (t0:=t0) (L:=L) (k:=k) (m:=m) (a:=a+1) (f:=f) (post:=post) (es:=es) (p:=p+1) (b:=b+1) (by omega) (fun e he=>(h e he).rd k (a+1) (by omega) (by omega)) d0 (by omega);have e4:TW C t0 L ((p+1:Nat):Int) ((b+1:Nat):Int)=TW C t0 L ((p:Int)+1) ((b:Int)+1):=gT (by omega) (by omega);rw[e4] at b4;have fin:TW C t0 L ((p+(Ob w::(es.map fun e=>(f e).2).flatten).length:Nat):Int) ((b+(1+(es.map fun e=>(f e).1).sum):Nat):Int)=TW C t0 L ((p+1+(es.map fun e=>(f e).2).flatten.length:Nat):Int) ((b+1+(es.map fun e=>(f e).1).sum:Nat):Int):=gT (by simp only[O4];omega) (by omega);rw[fin];have z:1+es.length<=sizeLine:=jp (by omega);have z':es.length+1<=sizeLine:=jp (by omega);generalize TW C t0 L ((p+1+(es.map fun e=>(f e).2).flatten.length:Nat):Int) ((b+1+(es.map fun e=>(f e).1).sum:Nat):Int)=T9 at b4 ⊢;simp[fX,eO,Jr,b1,pf,n1,n2,n3,t1,t2,b2,b4,z,z']
 .exact gD (ij (n:=2*n+5) (by simp only[O4];omega) fun d hd=>by
   rcases Ox.mp hd with rfl|hd
   .exact kj l2 _
   .exact(h d hd).bt) (by omega)
def EW(C:Addr)(m:Int)(n:Nat)(q:Int)(e:Oa):Prop:=∃c ws,EX C m n c ws e/\(c:Int)<=q
theorem sV{q:Int}{es:List Oa}(h:∀d∈es,EW C m n q d):∃f:Oa->Nat×List Str,∀d∈es,EX C m n (f d).1 (f d).2 d/\((f d).1:Int)<=q:=by
 classical
 refine⟨fun d=>if h':d∈es then ((h d h').choose,(h d h').choose_spec.choose) else (0,[]),fun d hd=>?_⟩;simp only[dif_pos hd];exact(h d hd).choose_spec.choose_spec
theorem nU{f:Oa->Nat×List Str}{q:Int}:∀{l:List Oa},(∀d∈l,((f d).1:Int)<=q)->(((l.map fun d=>(f d).1).sum:Nat):Int)<=l.length*q
 |[],_=>by simp
 |d::l,h=>by
  have h2:=h d Oh;have i1:=nU  fun x hx=>h x (Of _ hx)
  simp <;>grind
theorem zkd(hl:es.length<=8)(h:∀d∈es,EW C m n q d)(hQ:es.length*q+1<=Q)(EI:Q<=60):EW C m (n+1) Q (.tuple [.str "row",.tuple es]):=by
 obtain⟨f,hf⟩:=sV h;have s:=nU    fun d hd=>(hf d hd).2;exact⟨_,_,zjz hl (fun d hd=>(hf d hd).1) (by lia),by lia⟩
theorem zke(h:EW C m n q e)(hQ:q+1<=Q)(EI:Q<=60):EW C m (n+1) Q (.tuple [.str "many",e]):=by
 obtain⟨f,hf⟩:=sV  fun d hd=>by rw[OK.mp hd];exact h
 have s:=nU    fun d hd=>(hf d hd).2;simp only[O4,Rv] at s;exact⟨_,_,yh   (.inl ⟨rfl,rfl⟩) (fun d hd=>(hf d hd).1) (by lia),by lia⟩
theorem zkf(hw:w∈EA)(ha:EW C m n q a)(hb:EW C m n q b)(hQ:q+q+1<=Q)(EI:Q<=60):EW C m (n+1) Q (.tuple [.str (Ob w),a,b]):=by
 obtain⟨f,hf⟩:=sV (es:=[a,b]) fun d hd=>by
  simp at hd
  rcases hd with rfl|rfl
  .exact ha
  .exact hb
 have s:=nU    fun d hd=>(hf d hd).2;simp only[O4,Rv] at s;exact⟨_,_,yh   (.inr ⟨hw,rfl⟩) (fun d hd=>(hf d hd).1) (by lia),by lia⟩
end
variable {R:Tp}{C:Addr}
theorem u3{mw:XB}{e0:Oa}{T:Tp}:∀(ps:List (Oa×List Str)) (acc:List Str) (o2:Option D.W),(∀q∈ps,mw [.d q.1] T=some (.list (sl q.2),T))->acc.length+(ps.map (·.2)).flatten.length<=100000 ->
  ∃CV,forL 2 (iN 1 (ay mw (ab (aa 2) ag))) (ps.map (·.1)) [some (.d e0),some (.loc (.list (sl acc))),o2] T=some ((.nx,[some (.d e0),some (.loc (.list (sl (acc++(ps.map (·.2)).flatten)))),CV]),T)
 |[],acc,o2,_,_=>⟨o2,by simp[forL]⟩
 |q::ps,acc,o2,h,hl=>by
  simp only[OU,Re,Pj] at hl ⊢;have h0:=h q Oh;obtain⟨o',ih⟩:=u3  (e0:=e0)  ps (acc++q.2) (some (.d q.1)) (fun x hx=>h x (Of _ hx)) (by grind);refine⟨o',?_⟩
  have z:(sl acc).length+(sl q.2).length<=sizeLine:=by rw[iy,iy];exact jp (by lia)
  have k:=xJ (i:=1) (ρ:=[some (.d e0),some (.loc (.list (sl acc))),some (.d q.1)]) (T:=T) z;rw[yq] at k
  have st:iN 1 (ay mw (ab (aa 2) ag)) [some (.d e0),some (.loc (.list (sl acc))),some (.d q.1)] T=some ((.nx,[some (.d e0),some (.loc (.list (sl (acc++q.2)))),some (.d q.1)]),T):=by
   rw[yQ]<;>simp_all
  rw[forL]<;>simp_all
theorem zkg:bM (a::b::r) (some 2) none=r:=by
 have e:bM (a::b::r) (some ((2:Nat))) none=r:=by
  unfold bM;rw[HT.vW,HT.xj];simp
 exact e
theorem zkh{k:Nat}{T:Tp}{w:String}{e:Oa}{we:List Str}{ps:List (Oa×List Str)}(hw:¬w="fail")(he:gx 25 [.d e] T=some (.list (sl we),T))(hr:∀q∈ps,g9 k [.d q.1] T=some (.list (sl q.2),T))(hl:we.length+(ps.map (·.2)).flatten.length<=90000) :
  g9 (k+1) [.d (.tuple (.str (Ob w)::e::ps.map (·.1)))] T=some (.list (sl (Ob w::(we++(ps.map (·.2)).flatten))),T):=by
 obtain⟨o2,lp⟩:=u3  (e0:=.tuple (.str (Ob w)::e::ps.map (·.1))) ps (Ob w::we) none hr (by grind)
 have z':1+(sl we).length<=sizeLine:=by rw[iy];exact jp (by lia)
 have st:jo 1 (aB .list (ab (af XH (aa 0) (fC (.int 0))) ag)) (ay (gx 25) (ab (af XH (aa 0) (fC (.int 1))) ag)) [some (.d (.tuple (.str (Ob w)::e::ps.map (·.1)))),none,none] T=some ((.nx,[some (.d (.tuple (.str (Ob w)::e::ps.map (·.1)))),some (.loc (.list (sl (Ob w::we)))),none]),T):=by
  unfold jo;simp[he,oA,z'];rfl
 have e0:g9 (k+1)=aN 3 _:=rfl;rw[e0];simp[hw,st,zkg,lp]
def JF(C:Addr)(k:Nat)(g:Nat)(a:Int)(c:Nat)(ws:List Str)(r:Oa):Prop:=∀(t0:List Oa) (L:List Str) (p b:Nat) (post:List Str),b+c<=60->L.drop p=ws++post->fh C k [.tp 0,.d (.int a),.d (.int (g:Int))] (TW C t0 L (p:Int) (b:Int))=some (r,TW C t0 L ((p+ws.length:Nat):Int) ((b+c:Nat):Int))
section
variable {C:Addr}{t0:List Oa}{L:List Str}
theorem uv{k g:Nat}{a:Int}{o3 o4 o5:Option D.W}{post:List Str}:∀(qs:List (Oa×Nat×List Str)) (ds:List Oa) (p b:Nat),ds.length=qs.length->(∀q∈qs,JF C k g (a+1) q.2.1 q.2.2 q.1)->L.drop p=(qs.map (·.2.2)).flatten++post->b+(qs.map (·.2.1)).sum<=60 ->
  bL bT (ay (fh C k) (ab (aa 1) (ab (af aO (aa 2) (fC (.int 1))) (ab (aa 6) ag)))) [some (.tp 0),some (.d (.int a)),o3,o4,o5,some (.d (.int (g:Int)))] ds (TW C t0 L (p:Int) (b:Int))=some (qs.map (·.1),TW C t0 L ((p+(qs.map (·.2.2)).flatten.length:Nat):Int) ((b+(qs.map (·.2.1)).sum:Nat):Int))
 |[],[],p,b,_,_,_,_=>rfl
 |[],_::_,_,_,h,_,_,_=>by simp_all
 |_::_,[],_,_,h,_,_,_=>by simp_all
 |q::qs,d::ds,p,b,hl,hr,hd,hb=>by
  have h0:=hr q Oh;simp only[OU,Re,QR,Qs] at hd hb ⊢;have r0:=h0 t0 L p b _ (by lia) hd
  have ZX:L.drop (p+q.2.2.length)=(qs.map (·.2.2)).flatten++post:=by
   rw[←UK,hd,UL]
  have ih:=uv (k:=k) (g:=g) (a:=a) (o3:=o3) (o4:=o4) (o5:=o5) (post:=post) qs ds (p+q.2.2.length) (b+q.2.1) (by simpa using hl) (fun x hx=>hr x (Of _ hx)) ZX (by lia)
  have e1:p+(q.2.2++(qs.map (·.2.2)).flatten).length=p+q.2.2.length+(qs.map (·.2.2)).flatten.length:=by grind
  have e2:b+(q.2.1+(qs.map (·.2.1)).sum)=b+q.2.1+(qs.map (·.2.1)).sum:=by lia
  rw[e1,e2]
  simp_all
  simp[bL,r0,ih]
end
theorem mE:inD (.str (Ob x)) (.tuple [.str "want",.str "peek"])=some (.bool (decide (x="want")||decide (x="peek"))):=by
 have e:inD (.str (Ob x)) (.tuple [.str "want",.str "peek"])=some (.bool (ZY _ _||(ZY _ _||false))):=rfl
 have f:∀a b ,ZY (.str (Ob a)) (.str (Ob b))=decide _:=fun a b=>by
  rw[P9];simp[ZY];exact⟨fun h=>h.symm,fun h=>h.symm⟩
 rw[e,f,f,WQ]
structure RX(C:Addr)(g n c:Nat)(ws:List Str)(r:Oa):Prop where
 n1:1<=n
 c1:1<=c
 c6:c<=60
 ln:ws.length<=2*c
 ne:ws≠[]
 ok:∀w∈ws,N3 (cd w)/\w.length<=1100
 pw:∀k T,n<k->g9 k [.d r] T=some (.list (sl ws),T)
 rd:∀k a,n<=k->a+(n:Int)<=20->JF C k g a c ws r
 bt:aE (2*n+6) r=true
section
variable {C:Addr}{g n:Nat}
theorem zki(h:isName (.str x)=true):N3 (cd x)/\x.length<=1100:=by
 have h':(decide _&&decide _&&has YH x)=true:=h;rw[Oj,Oj] at h';have l8:=of_decide_eq_true h'.1.2
 have no:∀c∈cd YH,c<128/\c≠32:=by decide +kernel
 exact⟨fun c z=>no c (of_decide_eq_true (Ou.mp h'.2 c z)),by lia⟩
noncomputable def jy:List (Str×Int):=[("say",0),("fail",0),("want",1),("peek",1),("when",2)]
theorem zkj(hn:1<=n)(hg:g<=12)(h:isName (.str x)=true):RX C g n 1 [Ob "fail",x] (.tuple [.str "fail",.str x]):=by
 refine⟨hn,by decide,by decide,by simp,by simp,fun w hw=>?_,fun k T hk=>?_,fun k a hk ha t0 L p b post hb hd=>?_,?_⟩
 .simp at hw
  rcases hw with rfl|rfl
  .exact j7 (by decide +kernel)
  .exact zki h
 .obtain⟨k,rfl⟩:=aY k (by omega)
  simp[g9,sl]
 .obtain⟨k,rfl⟩:=aY k (by omega)
  obtain⟨a0,d0⟩:=fY (w:=Ob "fail") (r:=x::post) hd;obtain⟨a1,_⟩:=fY d0;have b1:=gH (C:=C) (t0:=t0) (b:=(b:Int)) a0;have b2:=jV (C:=C) (t0:=t0) (L:=L) (p:=(p:Int)) (b:=(b:Int)) (a:=a) (by omega) (by omega);have b3:=zjo (C:=C) (t0:=t0) (b:=(b:Int)+1) a1 h;simp only[Ra,RC] at b3;have fin:TW C t0 L ((p + [Ob "fail",x].length:Nat):Int) ((b+1:Nat):Int)=TW C t0 L ((p:Int)+1+1) ((b:Int)+1):=gT (by show ((p+2:Nat):Int)=_;omega) (by omega);rw[fin];simp[fh,eO,Jr,b1,Jx,mE,b2,b3]
 .exact gD (ij (n:=0) (by simp) fun d hd=>by
   simp at hd
   rcases hd with rfl|rfl
   .exact kj (by decide +kernel) 0
   .exact(ff (pJ h)).1) (by omega)
theorem rD{w:String}{e:Oa}{ce:Nat}{we:List Str}{qs:List (Oa×Nat×List Str)}{g':Nat}(hw:¬w="put"/\¬w="got"/\¬w="row"/\¬w="fail")(HP:litOk w=true/\single (.str (Ob w))=true)(hq:qs.length<=2)
  (Z6:Jx jy (.str (Ob w))=some (.bool true)) (GU:D.atT jy (.str (Ob w))=some (.int (qs.length:Int))) (J0:(w="want"\/w="peek")->g<12) (B9:g'=if w="want"\/w="peek" then g+1 else g) (hn20:n<=12)
  (he:EX C (g:Int) n ce we e) (hr:∀q∈qs,RX C g' n q.2.1 q.2.2 q.1) (hc:1+ce+(qs.map (·.2.1)).sum<=60) :
  RX C g (n+1) (1+ce+(qs.map (·.2.1)).sum) (Ob w::(we++(qs.map (·.2.2)).flatten)) (.tuple (.str (Ob w)::e::qs.map (·.1))):=by
 obtain⟨n1,n2,n3,n4⟩:=hw
 have fl:(qs.map (·.2.2)).flatten.length<=2*(qs.map (·.2.1)).sum:=by
  clear GU hq hc
  induction qs with
  |nil=>simp
  |cons q qs ih=>
   have h0:=(hr q Oh).ln;have:=ih fun x hx=>hr x (Of _ hx);simp only[OU,Re,QR,Pj];omega
 have Bj:=he.ln;refine⟨by omega,by omega,hc,by simp only[O4,Pj];omega,by simp,fun u hu=>?_,fun k T hk=>?_,fun k a hk ha t0 L p b post hb hd=>?_,?_⟩
 .rcases Ox.mp hu with rfl|hu
  .exact j7 HP.1
  .rcases OD.mp hu with hu|hu
   .exact he.ok u hu
   .obtain⟨l,hl,Fc⟩:=List.mem_flatten.mp hu
    obtain⟨q,Yp,rfl⟩:=OF.mp hl;exact(hr q Yp).ok u Fc
 .obtain⟨k,rfl⟩:=aY k (by omega)
  have:=zkh (k:=k) (T:=T) (w:=w) (e:=e) (we:=we) (ps:=qs.map fun q=>(q.1,q.2.2)) n4 (he.pw 25 T (by omega)) (fun q Yp=>by
   obtain⟨q',h1,rfl⟩:=OF.mp Yp
   exact(hr q' h1).pw k T (by omega)) (by simp only[RP];show we.length+(qs.map (·.2.2)).flatten.length<=90000;omega)
  simp only[RP] at this;exact this
 .obtain⟨k,rfl⟩:=aY k (by omega)
  have Ec:L.drop p=Ob w::(we++((qs.map (·.2.2)).flatten++post)):=by rw[hd];simp
  obtain⟨a0,d0⟩:=fY Ec;have b1:=gH (C:=C) (t0:=t0) (b:=(b:Int)) a0;have b2:=jV (C:=C) (t0:=t0) (L:=L) (p:=(p:Int)) (b:=(b:Int)) (a:=a) (by omega) (by omega);have b3:=he.rd 25 (a+1) (by omega) (by omega) t0 L (p+1) (b+1) _ (by omega) d0;have e3:TW C t0 L ((p+1:Nat):Int) ((b+1:Nat):Int)=TW C t0 L ((p:Int)+1) ((b:Int)+1):=gT (by omega) (by omega);rw[e3] at b3
  have d1:L.drop (p+1+we.length)=(qs.map (·.2.2)).flatten++post:=by rw[←UK,d0,UL]
  have b4:=uv (C:=C) (t0:=t0) (L:=L) (k:=k) (g:=g') (a:=a) (o3:=some (.d (.int (g:Int)))) (o4:=some (.d (.str (Ob w)))) (o5:=some (.d e)) (post:=post) qs (dy 0 qs.length) (p+1+we.length) (b+1+ce) (wm _) (fun q Yp=>(hr q Yp).rd k (a+1) (by omega) (by omega)) d1 (by omega);have r:=p8 (j:=(qs.length:Int)) (by omega) (by omega);have fin:TW C t0 L ((p+(Ob w::(we++(qs.map (·.2.2)).flatten)).length:Nat):Int) ((b+(1+ce+(qs.map (·.2.1)).sum):Nat):Int)=TW C t0 L ((p+1+we.length+(qs.map (·.2.2)).flatten.length:Nat):Int) ((b+1+ce+(qs.map (·.2.1)).sum:Nat):Int):=gT (by simp only[O4,Pj];omega) (by omega);rw[fin];have z:2+(qs.map (·.1)).length<=sizeLine:=jp (by rw[OW];omega);rw[OW] at z;unfold jy at Z6 GU
  have gb:∀T,kQ [.d (.str (Ob w)),.d (.int (g:Int))] T=some (.int (g':Int),T):=fun T=>by
   by_cases hq:w="want"\/w="peek"
   .rw[if_pos hq] at B9
    have e2:((g':Nat):Int)=(g:Int)+1:=by omega
    rw[e2]
    rcases hq with rfl|rfl <;> simp[kQ,mE]
   .rw[if_neg hq] at B9
    rw[B9];obtain⟨q1,q2⟩:=not_or.mp hq;simp[kQ,mE,q1,q2]
  have ft:∀T:Tp,(if (decide (w="want")||decide (w="peek"))=true then decide ((g:Int)=12) else false)=false:=fun _=>by
   split
   .rename_i hq
    have:w="want"\/w="peek":=by simpa using hq
    have:=J0 this;exact decide_eq_false (by omega)
   .rfl
  generalize TW C t0 L ((p+1+we.length+(qs.map (·.2.2)).flatten.length:Nat):Int) ((b+1+ce+(qs.map (·.2.1)).sum:Nat):Int)=T9 at b4 ⊢;generalize TW C t0 L ((p+1+we.length:Nat):Int) ((b+1+ce:Nat):Int)=T8 at b3 b4
  by_cases hq:w="want"\/w="peek"
  .have AD:¬(g:Int)=12:=by have:=J0 hq;omega
   generalize (g:Int)=G at *
   rcases hq with rfl|rfl <;> simp[fh,eO,Jr,b1,Z6,mE,AD,b2,b3,gb,GU,r,b4,z]
  .obtain⟨q1,q2⟩:=not_or.mp hq
   generalize (g:Int)=G at *;simp[fh,eO,Jr,b1,Z6,mE,q1,q2,n4,b2,b3,gb,GU,r,b4,z]
 .exact gD (ij (n:=2*n+6) (by simp only[O4,OW];omega) fun d hd=>by
   rcases Ox.mp hd with rfl|hd
   .exact kj HP.2 _
   .rcases Ox.mp hd with rfl|hd
    .exact gD he.bt (by omega)
    .obtain⟨q,Yp,rfl⟩:=OF.mp hd
     exact(hr q Yp).bt) (by omega)
end
variable {R:Tp}{C:Addr}
def RW(C:Addr)(g n:Nat)(q:Int)(r:Oa):Prop:=∃c ws,RX C g n c ws r/\(c:Int)<=q
theorem zkk{g n:Nat}{q Q:Int}{e:Oa}(hn:n<=12)(h:EW C (g:Int) n q e)(hQ:q+1<=Q)(EI:Q<=60):RW C g (n+1) Q (.tuple [.str "say",e]):=by
 obtain⟨c,ws,h1,h2⟩:=h;exact⟨_,_,rD  (qs:=[]) (g':=g) (by simp) (by decide +kernel) (by simp) (rfl) (rfl) (by simp) (by simp) hn h1 (fun q hq=>by simp_all) (by grind),by simp;lia⟩
theorem zkl{g n c:Nat}{ws:List Str}{q Q:Int}{w:String}{e r:Oa}(hn:n<=12)(hw:w="want"\/w="peek")(hg:g<12)(h:EX C (g:Int) n c ws e)(hr:RW C (g+1) n q r)(hQ:1+(c:Int)+q<=Q)(EI:Q<=60):RW C g (n+1) Q (.tuple [.str (Ob w),e,r]):=by
 obtain⟨d,us,h1,h2⟩:=hr
 have a1:¬w="put"/\¬w="got"/\¬w="row"/\¬w="fail":=by rcases hw with rfl|rfl <;> simp
 have a2:litOk w=true/\single (.str (Ob w))=true:=by rcases hw with rfl|rfl <;> decide +kernel
 have a3:Jx jy (.str (Ob w))=some (.bool true):=by rcases hw with rfl|rfl <;> simp[Jx,jy]
 have a4:D.atT jy (.str (Ob w))=some (.int (([(r,d,us)]).length)):=by rcases hw with rfl|rfl <;> simp[D.atT,jy]
 exact⟨_,_,rD    a1 a2 (by simp) a3 a4 (fun _=>hg) (rfl) hn h (fun q hq=>by simp_all) (by simp;lia),by simp;lia⟩
theorem zkm{g n c:Nat}{ws:List Str}{q Q:Int}{e r s:Oa}(hn:n<=12)(h:EX C (g:Int) n c ws e)(hr:RW C g n q r)(hs:RW C g n q s)(hQ:1+(c:Int)+q+q<=Q)(EI:Q<=60):RW C g (n+1) Q (.tuple [.str "when",e,r,s]):=by
 obtain⟨d,us,h1,h2⟩:=hr;obtain⟨f,vs,h3,h4⟩:=hs
 exact⟨_,_,rD  (qs:=[(r,d,us),(s,f,vs)]) (g':=g) (by simp) (by decide +kernel) (by simp) (rfl) (rfl) (by simp) (by simp) hn h (fun q hq=>by
  simp at hq
  rcases hq with rfl|rfl<;>lia) (by grind),by simp;lia⟩
theorem x6:∀ls:List (List Nat),(bg [32] ls).length<=(ls.map (·.length)).sum+ls.length
 |[]=>by simp[bg]
 |[x]=>by simp[bg]
 |x::y::r=>by
  have ih:=x6 (y::r)
  have e:bg [32] (x::y::r)=x++[32]++bg [32] _:=rfl<;>grind
theorem yK{B:Nat}:∀{ws:List Str},(∀w∈ws,w.length<=B)->(ws.map (·.length)).sum<=B*ws.length
 |[],_=>by simp
 |w::ws,h=>by
  have:=yK  fun x hx=>h x (Of _ hx);have h0:=h w Oh;simp only[OU,QR,O4,Nat.mul_add]
  lia
theorem zkn:cd BL=[32] :=rfl
theorem zko(ws:List Str):(OM BL ws).length<=(ws.map (·.length)).sum+ws.length:=by
 have e:(OM BL ws).length=(bg [32] (ws.map cd)).length:=by rw[←cw,jQ,zkn]
 have:=x6 (ws.map cd);rw[e]
 have e2:((ws.map cd).map (·.length))=ws.map (·.length):=by
  rw[RP];exact P8 fun x _=>cw x
 rw[e2,OW] at this<;>omega
section
variable {C:Addr}{g n c:Nat}{ws:List Str}{r:Oa}
theorem RX.len(h:RX C g n c ws r):(ws.map (·.length)).sum+ws.length<=200000:=by
 have a:=yK  fun w hw=>(h.ok w hw).2;have b:=h.ln
 have d:=h.c6<;>lia
theorem zkp(hl:(ws.map (·.length)).sum+ws.length<=200000):fG (.str " ") (.list (sl ws))=some (.str (OM BL ws)):=by
 have e:fG (.str _) (.list (sl ws))=(match eg _ with|some ys=>if (ys.map _).sum+ys.length*(Ob " ").length<=16777216 then some _ else none|none=>none):=rfl;have b:(Ob " ").length=1:=rfl;rw[e,qO,b];dsimp only;rw[Nat.mul_one];exact if_pos (by lia)
theorem zkq(h:RX C g n c ws r)(hn:n<=20)(T:Tp):mI [.d r] T=some (.str (OM BL ws),T):=by
 have a:=h.pw 25 T (by lia);have b:oB (.str _) (.list _)=some _:=zkp h.len;simp[mI,a,b]
theorem zkr(h:RX C g n c ws r):iR C [.tp 0,.d (.str (OM BL ws))] [[cQ C]]=some (.none,TW C t0 ws 0 0):=by
 have sp:lI (.str (OM BL ws)) (.str " ")=some (.list (sl ws)):=by
  have jl:=zko ws;have hl:=h.len;have z:(OM BL ws).length+2<=sizeLine:=OC (show _<=300000 by lia) (by decide);have b:((Ob " ").length == 0)=false:=rfl
  have e:lI (.str (OM BL ws)) (.str " ")=if _=false/\(OM BL ws).length+2<=Om then some _ else none:=rfl
  rw[e,if_pos ⟨b,z⟩];have s:=zjh h.ne fun w hw=>(h.ok w hw).1.no;show some (VZ ((QY (OM BL ws) BL).map .str))=_;rw[s];rfl
 have s1:∀{ρ:Xw},eG C "parted" ρ (.d (.list (sl ws))) (.tp 0) [[cQ C]]=some ((.nx,ρ),[[cQ C,.tuple [.str "parted",.list (sl ws)]]]):=by
  intro ρ;simp[eG,fE,iI,cQ,gu]
 have s2:∀{ρ:Xw},eG C "place" ρ (.d (.int 0)) (.tp 0) [[cQ C,.tuple [.str "parted",.list (sl ws)]]]=some ((.nx,ρ),[[cQ C,.tuple [.str "parted",.list (sl ws)],.tuple [.str "place",.int 0]]]):=by
  intro ρ;simp[eG,fE,iI,cQ,gu]
 have s3:∀{ρ:Xw},eG C "begun" ρ (.d (.int 0)) (.tp 0) [[cQ C,.tuple [.str "parted",.list (sl ws)],.tuple [.str "place",.int 0]]]=some ((.nx,ρ),TW C t0 ws 0 0):=by
  intro ρ;simp[eG,fE,iI,cQ,gu,kD]
 simp[iR,qE,sp,s1,s2,s3]
theorem sy{t0:List Oa}(h:RX C 0 n c ws r)(hn:n<=20):mJ C [.d (.str (OM BL ws))] []=some (r,[]):=by
 have i:=zkr (t0:=t0) h;have rd:=h.rd 25 0 (by lia) (by lia) t0 ws 0 0 [] (by have:=h.c6;lia) (by simp);have e1:TW C t0 ws ((0:Nat):Int) ((0:Nat):Int)=TW C t0 ws 0 0:=rfl;rw[e1,Xa,Xa] at rd;have DM:fh C 25 [.tp 0,.d (.int 0),.d (.int 0)] (TW C t0 ws 0 0)=some (r,TW C t0 ws (ws.length:Int) (c:Int)):=rd;have f:=zjm (C:=C) (t0:=t0) (b:=(c:Int)) (L:=ws) (Oo ws.length);have lt:jm (TW C t0 ws (ws.length:Int) (c:Int))=some ([],kD C ws (ws.length:Int) (c:Int)):=rfl
 have go:(ak (aD 2 (ay (fh C 25) (ab (aa 1) (ab (fC (.int 0)) (ab (fC (.int 0)) ag))))) (ak (fI (dm C "finish" (jA C) (aa 1) ag)) (aq (aa 2)))) [some (.d (.str (OM BL ws))),some (.tp 0),none] (TW C t0 ws 0 0)=some ((.rt r,[some (.d (.str (OM BL ws))),some (.tp 0),some (.d r)]),TW C t0 ws (ws.length:Int) (c:Int)):=by
  simp[DM,eO,Jr,f]
 have mk1:kr 1 C (iR C) (aa 0) (ak (aD 2 (ay (fh C 25) (ab (aa 1) (ab (fC (.int 0)) (ab (fC (.int 0)) ag))))) (ak (fI (dm C "finish" (jA C) (aa 1) ag)) (aq (aa 2)))) [some (.d (.str (OM BL ws))),none,none] []=some ((.rt r,[some (.d (.str (OM BL ws))),some (.tp 0),some (.d r)]),[]):=by
  unfold kr;show Dc 1 C (iR C) _ _ (.d (.str (OM BL ws))) []=_;unfold Dc;dsimp only;show (match iR C [.tp 0,.d (.str (OM BL ws))] [[cQ C]] with|some (.none,T2)=>l5 _|_=>none)=_;rw[i];show l5 ((ak _ _) [some (.d (.str (OM BL ws))),some (.tp 0),none] (TW C t0 ws 0 0))=_;rw[go];unfold l5;dsimp only;rw[lt]
 have e0:mJ C=aN 3 _:=rfl;rw[e0];simp[mk1]
end
theorem zks:oF (.int i) (.int j)=if 0<j/\j<18446744073709551616 then some (.int (i / j)) else none:=rfl
theorem fw(h:b (ρ.set i (some (.d d))) T=some ((.nx,ρ'),T')):forL i b (d::r) ρ T=forL i b r ρ' T':=by simp[forL,h]
theorem zkt:kg N s ws T=if eh ws=true then om (s (ws.map some++Ov (N-ws.length) none) T) else none:=rfl
theorem xM:fO s (.ro x,ρ) T=some ((.ro x,ρ),T):=rfl
theorem i7:1000<sizeLine:=by decide
noncomputable def il(cs:List Int):List PyData:=cs.map .int
theorem f7(cs:List Int):(il cs).length=cs.length:=by simp[il]
theorem yO(a:List Int)(c:Int):il a++[.int c]=il (a++[c]):=by simp[il]
def Zz(zs cs:List Int):Prop:=cs.length=zs.length/\∀(i:Nat) (c z:Int),cs[i]? = some c->zs[i]? = some z->0<=c/\c<z
theorem Zz.snoc(h:Zz zs cs)(h0:0<=c)(h1:c<z):Zz (zs++[z]) (cs++[c]):=by
 refine⟨by simp[h.1],fun i a b ha hb=>?_⟩
 by_cases hi:i<cs.length
 .rw[Os hi] at ha
  rw[Os (by rw[←h.1];exact hi)] at hb;exact h.2 i a b ha hb
 .rw[O6 (by lia)] at ha
  rw[O6 (by have:=h.1;lia)] at hb;rw[h.1] at ha
  cases e:i-zs.length <;>simp_all
theorem Zz.nil:Zz [] []:=⟨rfl,fun i c z h=>by simp at h⟩
theorem Zz.at(h:Zz zs cs)(i:Nat)(hz:zs[i]? = some z):∃c,cs[i]? = some c/\0<=c/\c<z:=by
 have hi:=(Od.mp hz).1;have hc:cs[i]? = some (cs[i]'(by rw[h.1];exact hi)):=OX _;exact⟨_,hc,h.2 i _ z hc hz⟩
noncomputable def ZS(sc K Z:Oa)(ce:Int)(fs:List Int)(o5 o6:Option D.W):Xw:=[some (.d sc),some (.d K),some (.d Z),some (.d (.int ce)),some (.loc (.list (il fs))),o5,o6]
section
variable {sc Z:Oa}{T:Tp}{k:Int}
theorem Aj:∀(zs A4 cs:List Int) (ce:Int) (o5 o6:Option D.W),(∀z∈zs,0<z/\z<18446744073709551616)->Zz A4 cs->A4.length+zs.length<=1000 ->
  ∃Zx C5 p5,forL 5 k6 (il zs) (ZS sc (.int k) Z ce cs o5 o6) T=some ((.nx,ZS sc (.int k) Z C5 Zx p5 o6),T)/\Zz (A4++zs) Zx
 |[],A4,cs,ce,o5,o6,_,h,_=>⟨cs,ce,o5,rfl,by simp_all⟩
 |z::zs,A4,cs,ce,o5,o6,hz,h,hl=>by
  have Zc:A4.length+(zs.length+1)<=1000:=hl;have bl:=i7;obtain⟨z0,z1⟩:=hz z Oh
  have HL:(il cs).length<sizeLine:=by rw[f7,h.1];lia
  obtain⟨Zx,C5,p5,e,d⟩:=Aj zs _ _ _ _ o6 (fun y hy=>hz y (Of _ hy)) (h.snoc (Pn _ (by lia)) (O9 _ z0)) (by simp;lia);refine⟨Zx,C5,p5,?_,by simp_all⟩
  have st:k6 ((ZS sc (.int k) Z ce cs o5 o6).set 5 (some (.d (.int z)))) T=some ((.nx,ZS sc (.int k) Z (ce / z) (cs++[ce % z]) (some (.d (.int z))) o6),T):=by
   simp[k6,ZS,zks,z0,z1,HL,yO]
  rw[←e];exact fw st
theorem Ai(hk : -18446744073709551616<k/\k<18446744073709551616):∀(zs A4 cs:List Int) (ce:Int) (o5 o6:Option D.W),(∀z∈zs,0<z/\z<18446744073709551616)->Zz A4 cs->A4.length+zs.length<=1000 ->
  ∃Zx p5 p6,forL 5 k0 (il zs) (ZS sc (.int k) Z ce cs o5 o6) T=some ((.nx,ZS sc (.int k) Z ce Zx p5 p6),T)/\Zz (A4++zs) Zx
 |[],A4,cs,ce,o5,o6,_,h,_=>⟨cs,o5,o6,rfl,by simp_all⟩
 |z::zs,A4,cs,ce,o5,o6,hz,h,hl=>by
  have Zc:A4.length+(zs.length+1)<=1000:=hl;have bl:=i7;obtain⟨z0,z1⟩:=hz z Oh
  have HL:(il cs).length<sizeLine:=by rw[f7,h.1];lia
  have st:∃c p6,k0 ((ZS sc (.int k) Z ce cs o5 o6).set 5 (some (.d (.int z)))) T=some ((.nx,ZS sc (.int k) Z ce (cs++[c]) (some (.d (.int z))) p6),T)/\0<=c/\c<z:=by
   have m1:0<=(ce+7919*k+104729*(cs.length:Int)) % 2147483629/\(ce+7919*k+104729*(cs.length:Int)) % 2147483629<2147483629:=⟨Pn _ (by decide),O9 _ (by decide)⟩;generalize e1:(ce+7919*k+104729*(cs.length:Int)) % 2147483629=a at m1;have m2:0<=(a*a+48271*a+k) % 2147483629/\(a*a+48271*a+k) % 2147483629<2147483629:=⟨Pn _ (by decide),O9 _ (by decide)⟩;generalize e2:(a*a+48271*a+k) % 2147483629=b at m2;generalize e3:(b*b+69621*b+(cs.length:Int)) % 2147483587=c;refine⟨c % z,some (.d (.int c)),?_,Pn _ (by lia),O9 _ z0⟩
   have a1 : -18446744073709551616<a:=by lia
   have a2:a<18446744073709551616:=by lia
   have b1 : -18446744073709551616<b:=by lia
   have b2:b<18446744073709551616:=by lia
   have HJ:cs.length<sizeLine:=by rw[h.1];lia
   simp[k0,ZS,f7,e1,e2,e3,a1,a2,b1,b2,z0,HJ,yO,hk]
  obtain⟨c,p6,st,c0,c1⟩:=st;obtain⟨Zx,p5,q6,e,d⟩:=Ai hk zs (A4++[z]) (cs++[c]) ce (some (.d (.int z))) p6 (fun y hy=>hz y (Of _ hy)) (h.snoc c0 c1) (by simp;lia);refine⟨Zx,p5,q6,?_,by simpa using d⟩;rw[←e];exact fw st
end
theorem nT{ns zs:List Int}{k:Nat}{T:Tp}(hk:k<=1000)(hz:∀z∈zs,0<z/\z<18446744073709551616)(hl:zs.length<=1000):∃cs,gy [.d (bX ns),.d (.int (k:Int)),.d (.list (il zs))] T=some (.list (il cs),T)/\Zz zs cs:=by
 have HK : -18446744073709551616<(k:Int)/\(k:Int)<18446744073709551616:=by lia
 have key:∀ce:Int,∃cs ρ',((ak (cJ 4 ag) (ak (Xz (aw (af AL (aa 3) (af gV (fC (.int 10)) (fC (.int 18))))) (ak (cq 5 (bD (aa 2)) k6) (f9 4)) aC) (ak (cq 5 (bD (aa 2)) k0) (f9 4)))) [some (.d (bX ns)),some (.d (.int (k:Int))),some (.d (.list (il zs))),some (.d (.int ce)),none,none,none] T)=some ((.ro (.list (il cs)),ρ'),T)/\Zz zs cs:=fun ce=>by
  by_cases hc:1000000000000000000<=ce
  .obtain⟨Zx,C5,p5,e,d⟩:=Aj (sc:=bX ns) (Z:=.list (il zs)) (T:=T) (k:=(k:Int)) zs [] [] ce none none hz Zz.nil (by simp_all)
   refine⟨Zx,ZS (bX ns) (.int (k:Int)) (.list (il zs)) C5 Zx p5 none,?_,by simp_all⟩;have n0:il []=[]:=rfl;simp only[ZS,n0] at e;simp[hc,e,f9,ZS,nV,xM]
  .obtain⟨Zx,p5,p6,e,d⟩:=Ai (sc:=bX ns) (Z:=.list (il zs)) (T:=T) HK zs [] [] ce none none hz Zz.nil (by simpa using hl)
   refine⟨Zx,ZS (bX ns) (.int (k:Int)) (.list (il zs)) ce Zx p5 p6,?_,by simpa using d⟩;have n0:il []=[]:=rfl;simp only[ZS,n0] at e;simp[hc,e,f9,ZS,nV,xM]
 rw[zig,zkt]
 by_cases h0:0<(ns.length:Int)
 .obtain⟨d,e1,hm⟩:=gN (xs:=ns.map RZ) (i:=(k:Int) % (ns.length:Int)) (Pn _ (by lia)) (by simpa using O9 _ h0)
  obtain⟨c,_,rfl⟩:=OF.mp hm;obtain⟨cs,ρ',e,d⟩:=key c;refine⟨cs,?_,d⟩;simp only[bX] at e ⊢
  have CI:0<ns.length:=by lia
  simp[CI,e1] at e ⊢;simp[e,om]
 .obtain⟨cs,ρ',e,d⟩:=key 0
  refine⟨cs,?_,d⟩
  have CI:¬0<ns.length:=by lia
  simp only[bX] at e ⊢;simp[CI] at e ⊢;simp[e,om]
end G
namespace K1
open L2 D
theorem rO:∀(n:Nat) (d:Oa),aE n d=true->Sh d n (201*(aH n d).toNat)/\1<=aH n d
 |0,d,h=>by
  cases d with
  |int i=>
   have h':=of_decide_eq_true (p:=(if i<0 then -i else i)<=10^18) h;refine⟨(Sh.int ?_).mono (Oo _) (by show 200<=201*(1:Int).toNat;decide),Q1 1⟩
   have:i.natAbs<=10^18:=by split at h' <;> lia
   exact Pk this (by decide)
  |str x=>
   have h':(decide (x.length<=20)&&has YF x)=true:=h;rw[Oj] at h';have:=of_decide_eq_true h'.1;exact⟨(Sh.str (n:=20) (lQ lU h'.2) this).mono (Oo _) (by show 20<=201*(1:Int).toNat;decide),Q1 1⟩
  |_=>cases h
 |n+1,d,h=>by
  cases d with
  |int i=>
   have h':=of_decide_eq_true (p:=(if i<0 then -i else i)<=10^18) h;refine⟨(Sh.int ?_).mono (Pm _) (by show 200<=201*(1:Int).toNat;decide),Q1 1⟩
   have:i.natAbs<=10^18:=by split at h' <;> lia
   exact Pk this (by decide)
  |str x=>
   have h':(decide (x.length<=20)&&has YF x)=true:=h;rw[Oj] at h';have:=of_decide_eq_true h'.1;exact⟨(Sh.str (n:=20) (lQ lU h'.2) this).mono (Pm _) (by show 20<=201*(1:Int).toNat;decide),Q1 1⟩
  |tuple ds=>
   have h':(decide (ds.length<=8)&&ds.all (aE n))=true:=h;rw[Oj] at h';have ha:=Ou.mp h'.2;have q:=Z4.of (ds:=ds) (k:=n) (f:=fun x=>201*(aH n x).toNat) fun x hx=>(rO n x (ha x hx)).1
   have key:∀l:List Oa,(∀x∈l,1<=aH n x)->0<=(l.map (aH n)).sum/\(l.map fun x=>201*(aH n x).toNat+1).sum<=201*((l.map (aH n)).sum).toNat+l.length:=by
    intro l
    induction l with
    |nil=>intro _;exact⟨by simp,by simp⟩
    |cons x r ih=>
     intro hx;have h1:=hx x Oh;have h2:=ih fun y hy=>hx y (Of _ hy);simp only[OU,QR,O4]
     lia
   have kk:=key ds fun x hx=>(rO n x (ha x hx)).2;have hl:=of_decide_eq_true h'.1;have e:aH (n+1) (.tuple ds)=1+(ds.map (aH n)).sum:=rfl;refine⟨(Sh.tuple q).mono (Oo _) ?_,?_⟩
   .rw[e];lia
   .rw[e];lia
  |_=>cases h
end K1
namespace G
open L2 D
open K1 (has YH YF single aE aH isName aA Dt)
theorem t7(h:single (.str x)=true):has YF x=true:=by
 have h':(decide _&&has YF x)=true:=h
 simp_all
open K1 (has YH YF single aE aH isName aA Dt Sh Z4)
noncomputable def JL(a b:Oa):Bool:=@decide (a=b) (Tv _)
theorem zku:JL a b=true↔a=b:=by unfold JL<;>simp_all
noncomputable def gt(ds:List Oa)(i:Int):PyData:=(ds[i.toNat]?).getD .none
noncomputable def both(ds es:List Oa):Oa->Bool
 |.int i=>JL (gt ds i) (gt es i)
 |_=>true
theorem ur{P:Oa->Prop}(h:∀a b,P a->P b->(OL a b=true↔a=b)):∀(ds es:List Oa),(∀d∈ds,P d)->(∀d∈es,P d)->(OY ds es=true↔ds=es)
 |[],[],_,_=>by simp[OY]
 |[],e::es,_,_=>by simp[OY]
 |d::ds,[],_,_=>by simp[OY]
 |d::ds,e::es,hd,he=>by
  have ih:=ur h ds es (fun x hx=>hd x (Of _ hx)) (fun x hx=>he x (Of _ hx));have i0:=h d e (hd d Oh) (he e Oh);simp only[OY];rw[Oj,i0,ih];simp
theorem xO:∀(n:Nat) (a b:Oa),aE n a=true->aE n b=true->(OL a b=true↔a=b)
 |n,a,b,ha,hb=>by
  rcases cL ha with h1|⟨m,ds,rfl,rfl,h8,hd⟩
  .rcases dF h1 with⟨i,rfl⟩|⟨x,rfl⟩
   .rcases cL hb with h2|⟨m,es,rfl,rfl,g8,he⟩
    .rcases dF h2 with⟨j,rfl⟩|⟨y,rfl⟩
     .simp[OL]
     .simp[OL]
    .simp[OL]
   .rcases cL hb with h2|⟨m,es,rfl,rfl,g8,he⟩
    .rcases dF h2 with⟨j,rfl⟩|⟨y,rfl⟩
     .simp[OL]
     .simp[OL]
    .simp[OL]
  .rcases cL hb with h2|⟨m',es,e,rfl,g8,he⟩
   .rcases dF h2 with⟨j,rfl⟩|⟨y,rfl⟩
    .simp[OL]
    .simp[OL]
   .cases e
    have:=ur  (xO m) ds es hd he;simp only[OL];rw[this];simp
termination_by n=>n
theorem zkv(ha:aA a=true)(hb:aA b=true):OL a b=JL a b:=by rw[P9,xO 4 a b (cW ha).1 (cW hb).1,zku]
theorem zkw(h:∀d∈ds,d.canLay0=true):Pi ds=true:=by
 induction ds with
 |nil=>simp[Pi]
 |cons d r ih=>
  simp only[Pi];rw[h d Oh,ih fun x hx=>h x (Of _ hx)];rfl
theorem uB:∀(n:Nat) (d:Oa),aE n d=true->d.canLay0=true
 |n,d,h=>by
  rcases cL h with h1|⟨m,ds,rfl,rfl,h8,hd⟩
  .rcases dF h1 with⟨i,rfl⟩|⟨x,rfl⟩
   .simp[PQ]
   .have hx:=t7 h1
    simp only[PQ];unfold O8;rw[←VP,Ou];intro c hc
    have:=K1.lQ K1.lU hx c hc<;>grind
  .exact zkw fun d ZX=>uB m d (hd d ZX)
termination_by n=>n
theorem yj{f:Oa->Int}:∀{ds:List Oa},(∀d∈ds,(d.weight:Int)+1<=61*f d)->(Q0 ds:Int)<=61*(ds.map f).sum
 |[],_=>by simp[Q0]
 |d::r,h=>by
  have h1:=h d Oh;have h2:=yj  fun x hx=>h x (Of _ hx);simp only[Q0,OU,QR]
  lia
theorem yi:∀(n:Nat) (d:Oa),aE n d=true->(d.weight:Int)+1<=61*aH n d
 |n,d,h=>by
  have hp:=qy n d
  rcases cL h with h1|⟨m,ds,rfl,rfl,h8,hd⟩
  .rcases dF h1 with⟨i,rfl⟩|⟨x,rfl⟩
   .have ha:=kX h1
    have:(RZ i).weight<=60:=by
     simp only[UZ];split
     .lia
     .rename_i hz
      have z:i.natAbs≠0:=by simp_all
      have:=(UG (k:=60) z).mpr (Pk ha (by decide))
      lia
    lia
   .have h':(decide (x.length<=20)&&has YF x)=true:=h1
    rw[Oj] at h';have hx:x.cps.size<=20:=of_decide_eq_true h'.1
    have:(PM x).weight=x.cps.size:=by simp only[UZ]
    lia
  .have:=yj (f:=aH m) (ds:=ds) fun d ZX=>yi m d (hd d ZX)
   have e:(Rj ds).weight=Q0 ds:=by simp only[UZ]
   rw[e];show _<=61*(1+(ds.map (aH m)).sum)
   lia
termination_by n=>n
theorem zkx(h:aE n d=true):Sh d n (61*aH n d).toNat:=by
 obtain⟨s,_⟩:=K1.rO n d h;have:=yi n d h;exact⟨s.sh,s.lv,s.dp,by lia⟩
theorem zky(h:aA v=true):Sh v 4 2440:=by
 obtain⟨hb,hm⟩:=cW h;exact(zkx hb).mono (Oo _) (by lia)
theorem jF(h:aA v=true):OP v=true:=by
 have:=(zky h).dp;unfold OP;rw[uB 4 v (cW h).1,decide_eq_true (by lia)];rfl
noncomputable def vl(v:Oa):PyData:=.tuple [.str "value",v]
noncomputable def fl(w:String):PyData:=.tuple [.str "fails",.str (Ob w)]
noncomputable def FW:List String:=["kind","part","great"]
def cB(R:Oa):Prop:=(∃v,R=vl v/\aA v=true)\/∃w∈FW,R=fl w
theorem bw:cB (fl "kind"):=.inr ⟨_,by simp[FW],rfl⟩
theorem w6:cB (fl "part"):=.inr ⟨_,by simp[FW],rfl⟩
theorem zkz:cB (fl "great"):=.inr ⟨_,by simp[FW],rfl⟩
noncomputable def bd(d:Oa):PyData:=if aA d=true then vl d else fl "great"
theorem ir(d:Oa):cB (bd d):=by
 unfold bd;split
 .rename_i h;exact .inl ⟨d,rfl,h⟩
 .exact zkz
theorem ik(T:Tp)(h:Sm d):ig [.d d] T=some (bd d,T):=by
 have:=yd T h;unfold bd
 cases hv:aA d with
 |true=>rw[hv] at this;simp[ig,this,vl]
 |false=>rw[hv] at this;simp[ig,this,fl]
theorem i4(h:aA (.tuple ds)=true)(hd:d∈ds):aA d=true:=by
 obtain⟨hb,hm⟩:=cW h
 rcases cL hb with h1|⟨m,Jy,e,e',h8,Gq⟩
 .rcases dF h1 with⟨i,z⟩|⟨x,z⟩ <;> cases z
 .cases e;cases e'
  obtain⟨u1,u2⟩:=nu 3 d (Gq d hd);have:=qe (n:=3) hd
  show (aE 4 d&&decide _)=true<;>grind
theorem cG(h:aA v=true):(∃i,v=.int i/\single (.int i)=true)\/(∃x,v=.str x/\x.length<=20/\∀c∈x.cps.toList,c<128)\/∃ds,v=.tuple ds/\ds.length<=8:=by
 rcases cL (cW h).1 with h1|⟨m,ds,e,rfl,h8,hd⟩
 .rcases dF h1 with⟨i,rfl⟩|⟨x,rfl⟩
  .exact .inl ⟨i,rfl,h1⟩
  .have h':(decide _&&has YF x)=true:=h1
   rw[Oj] at h';exact .inr (.inl ⟨x,rfl,of_decide_eq_true h'.1,K1.lQ K1.lU h'.2⟩)
 .exact .inr (.inr ⟨ds,rfl,h8⟩)
theorem iq(h : -1000000000000000000<=i)(h':i<=1000000000000000000):aA (.int i)=true:=by
 show (single _&&decide _)=true;rw[gA h h'];rfl
theorem yp(i:Int):Sm (.int i) :=rfl
theorem yR(h1:aA x=true)(h2:aA y=true):Zd x y=some (.bool (JL x y)):=by
 unfold Zd;rw[if_pos ⟨jF h1,jF h2⟩,zkv h1 h2]
@[simp] theorem MH{α:Type}{a b:α}:XR [a,b] 0=some a:=rfl
@[simp] theorem MG{α:Type}{a b:α}:XR [a,b] 1=some b:=rfl
@[simp] theorem MI{α:Type}{a:α}:XR [a] 0=some a:=rfl
@[simp] theorem MF{α:Type}{a b c:α}:XR [a,b,c] 0=some a:=rfl
@[simp] theorem ME{α:Type}{a b c:α}:XR [a,b,c] 1=some b:=rfl
@[simp] theorem MD{α:Type}{a b c:α}:XR [a,b,c] 2=some c:=rfl
@[simp] theorem N1:bR .int .int=true:=rfl
@[simp] theorem N0:bR .int .str=false:=rfl
@[simp] theorem NZ:bR .int .tup=false:=rfl
@[simp] theorem N2:bR .int .bl=false:=rfl
@[simp] theorem NX:bR .str .str=true:=rfl
@[simp] theorem NW:bR .str .tup=false:=rfl
@[simp] theorem NY:bR .str .int=false:=rfl
@[simp] theorem NT:bR .tup .tup=true:=rfl
@[simp] theorem NV:bR .tup .int=false:=rfl
@[simp] theorem NU:bR .tup .str=false:=rfl
@[simp] theorem Lp(x:Oa)(T:Tp):fq [.d x] T=some (.bool (whole x),T):=jW x T
@[simp] theorem NS(i:Int):whole (.int i)=true:=rfl
@[simp] theorem NR(x:Str):whole (.str x)=false:=rfl
@[simp] theorem NQ(x:List Oa):whole (.tuple x)=false:=rfl
def Pairs(w:String)(a b:Oa):Prop:=∃R,cB R/\∀T,aT [.d (.str (Ob w)),.d (.list [a,b])] T=some (R,T)
theorem zla(ha:aA a=true)(hb:aA b=true):Pairs "same" a b:=by
 have e1:=yR ha hb;refine⟨vl (.int (if JL a b=true then 1 else 0)),.inl ⟨_,rfl,by split <;> exact iq (by simp) (by simp)⟩,fun T=>?_⟩
 cases hs:JL a b with
 |true=>rw[hs] at e1;simp[aT,e1,vl]
 |false=>rw[hs] at e1;simp[aT,e1,vl]
theorem zc(h:aA (.tuple ds)=true)(h0:0<=i)(h1:i<(ds.length:Int)):∃d,XR ds i=some d/\aA d=true:=by
 obtain⟨d,e,hd⟩:=gN h0 h1;exact⟨d,e,i4 h hd⟩
theorem zlb(ha:aA a=true)(hb:aA b=true):Pairs "part" a b:=by
 rcases cG ha with⟨i,rfl,hi⟩|⟨x,rfl,hx⟩|⟨ds,rfl,hd⟩
 .exact⟨_,bw,fun T=>rfl⟩
 .exact⟨_,bw,fun T=>rfl⟩
 .rcases cG hb with⟨j,rfl,hj⟩|⟨y,rfl,hy⟩|⟨es,rfl,he⟩
  .by_cases c:0<=j/\j<(ds.length:Int)
   .obtain⟨d,e,hv⟩:=zc ha c.1 c.2
    exact⟨vl d,.inl ⟨d,rfl,hv⟩,fun T=>by simp[aT,d6,vl,c.1,c.2,e]⟩
   .refine⟨_,w6,fun T=>?_⟩
    by_cases c0:0<=j
    .have c1:¬j<(ds.length:Int):=fun z=>c ⟨c0,z⟩
     simp[aT,d6,fl,c0,c1]
    .simp[aT,d6,fl,c0]
  .exact⟨_,bw,fun T=>by simp[aT,d6,fl]⟩
  .exact⟨_,bw,fun T=>by simp[aT,d6,fl]⟩
theorem zlc(ha:aA a=true)(hb:aA b=true):Pairs "sum" a b:=by
 rcases cG ha with⟨i,rfl,hi⟩|⟨x,rfl,hx⟩|⟨ds,rfl,hd⟩
 .rcases cG hb with⟨j,rfl,hj⟩|⟨y,rfl,hy⟩|⟨es,rfl,he⟩
  .have b1:=fun T=>ik T (yp (i+j))
   exact⟨_,ir (.int (i+j)),fun T=>by simp[aT,fj,b1]⟩
  .exact⟨_,bw,fun T=>rfl⟩
  .exact⟨_,bw,fun T=>by simp[aT,fj,fl]⟩
 .exact⟨_,bw,fun T=>by simp[aT,fj,fl]⟩
 .exact⟨_,bw,fun T=>by simp[aT,fj,fl]⟩
theorem zld(ha:aA a=true)(hb:aA b=true):Pairs "less" a b:=by
 rcases cG ha with⟨i,rfl,hi⟩|⟨x,rfl,hx⟩|⟨ds,rfl,hd⟩
 .rcases cG hb with⟨j,rfl,hj⟩|⟨y,rfl,hy⟩|⟨es,rfl,he⟩
  .refine⟨vl (.int (if i<j then 1 else 0)),.inl ⟨_,rfl,by split <;> exact iq (by decide) (by decide)⟩,fun T=>?_⟩
   by_cases c:i<j
   .simp[aT,d7,c,vl]
   .simp[aT,d7,c,vl]
  .exact⟨_,bw,fun T=>by simp[aT,d7,fl]⟩
  .exact⟨_,bw,fun T=>by simp[aT,d7,fl]⟩
 .exact⟨_,bw,fun T=>by simp[aT,d7,fl]⟩
 .exact⟨_,bw,fun T=>by simp[aT,d7,fl]⟩
theorem zle(ha:aA a=true)(hb:aA b=true):Pairs "join" a b:=by
 rcases cG ha with⟨i,rfl,hi⟩|⟨x,rfl,hx,Er⟩|⟨ds,rfl,hd⟩
 .exact⟨_,bw,fun T=>rfl⟩
 .rcases cG hb with⟨j,rfl,hj⟩|⟨y,rfl,hy,Ax⟩|⟨es,rfl,he⟩
  .exact⟨_,bw,fun T=>by simp[aT,dN,fl]⟩
  .have l:x.length+y.length<=sizeLine:=eQ (by lia)
   have sx:Sm (.str (x++y)):=Sm.mkS (by rw[←cw,gM,Pj,cw,cw];lia) fun c hc=>by
    have YK:c∈cd (x++y):=hc;rw[gM] at YK;exact(OD.mp YK).elim (Er c) (Ax c)
   have b1:=fun T=>ik T sx;exact⟨_,ir (.str (x++y)),fun T=>by simp[aT,dN,b1,l]⟩
  .exact⟨_,bw,fun T=>by simp[aT,dN,fl]⟩
 .rcases cG hb with⟨j,rfl,hj⟩|⟨y,rfl,hy⟩|⟨es,rfl,he⟩
  .exact⟨_,bw,fun T=>by simp[aT,dN,fl]⟩
  .exact⟨_,bw,fun T=>by simp[aT,dN,fl]⟩
  .have l:ds.length+es.length<=sizeLine:=eQ (by lia)
   have sx:Sm (.tuple (ds++es)):=Sm.tup fun d hd=>by
    rcases OD.mp hd with z|z
    .exact fz (i4 ha z)
    .exact fz (i4 hb z)
   have b1:=fun T=>ik T sx;exact⟨_,ir (.tuple (ds++es)),fun T=>by simp[aT,dN,b1,l]⟩
def PW:List String:=["part","sum","join","same","less"]
inductive Ex(m:Int):Nat->Oa->Prop where
 |put {n:Nat}{v:Oa}:aA v=true->Ex m n (.tuple [.str "put",v])
 |got {n:Nat}{i:Int}:0<=i->i<m->Ex m n (.tuple [.str "got",.int i])
 |row {n:Nat}{es:List Oa}:es.length<=8->(∀e∈es,Ex m n e)->Ex m (n+1) (.tuple [.str "row",.tuple es])
 |many {n:Nat}{e:Oa}:Ex m n e->Ex m (n+1) (.tuple [.str "many",e])
 |pair {n:Nat}{w:String}{a b:Oa}:w∈PW->Ex m n a->Ex m n b->Ex m (n+1) (.tuple [.str (Ob w),a,b])
theorem zlf(hw:w∈PW)(ha:aA a=true)(hb:aA b=true):Pairs w a b:=by
 simp[PW] at hw
 rcases hw with rfl|rfl|rfl|rfl|rfl
 .exact zlb ha hb
 .exact zlc ha hb
 .exact zle ha hb
 .exact zla ha hb
 .exact zld ha hb
noncomputable def HG:Oa->Bool
 |.tuple (.str x::_)=>decide (x=Ob "fails")
 |_=>false
noncomputable def Yv:Oa->Oa
 |.tuple [_,v]=>v
 |_=>.none
theorem zlg(v:Oa):HG (vl v)=false :=rfl
theorem zlh(w:String):HG (fl w)=true :=rfl
theorem mR(h:cB R):(HG R=true/\∃w∈FW,R=fl w)\/(HG R=false/\R=vl (Yv R)/\aA (Yv R)=true):=by
 rcases h with⟨v,rfl,hv⟩|⟨w,hw,rfl⟩
 .exact .inr ⟨zlg v,rfl,hv⟩
 .exact .inl ⟨zlh w,w,hw,rfl⟩
noncomputable def di(m:XB)(ws:List D.W)(T1:Tp):Option (D.W×Tp):=if mB ws=true then (match m (ws.map kI) [] with
 |some (x,_)=>if bq x=true then some (.d x,T1) else none
 | none=>none) else none
@[simp] theorem Ln:dw m a ρ T=Xy (a ρ T) (di m):=rfl
theorem jK(h1:mB ws=true)(h2:m (ws.map kI) []=some (x,T'))(h3:bq x=true):di m ws T=some (.d x,T):=by unfold di<;>simp_all
theorem qt:∀{ds:List Oa},(∀d∈ds,bq d=true)->bS ds=true
 |[],_=>rfl
 |d::r,h=>by simp[bS,h d Oh,qt  fun x hx=>h x (Of _ hx)]
theorem uL:∀(n:Nat) (d:Oa),aE n d=true->bq d=true
 |n,d,h=>by
  rcases cL h with h1|⟨m,ds,rfl,rfl,_,hd⟩
  .rcases dF h1 with⟨i,rfl⟩|⟨x,rfl⟩ <;> simp[bq]
  .simp[bq,qt fun x hx=>uL m x (hd x hx)]
termination_by n=>n
theorem ny(h:aA v=true):bq v=true:=uL 4 v (cW h).1
theorem qr(h:cB R):bq R=true:=by
 rcases h with⟨v,rfl,hv⟩|⟨w,_,rfl⟩
 .simp[vl,bq,bS,ny hv]
 .simp[fl,bq,bS]
noncomputable def gh(k:Nat):FS:=(ak (aD 4 (ay (cS k) (ab (aa 3) (ab (aa 1) ag)))) (ak (Xz (aw (af YC (af XH (aa 4) (fC (.int 0))) (fC (.str "fails")))) (aq (aa 4)) aC) (cF 2 (af XH (aa 4) (fC (.int 1))))))
noncomputable def iL(k:FS)(p:Fl×Xw)(T:Tp):Option ((Fl×Xw)×Tp):=match p with
 |(.nx,XU)=>k XU T
 |(.ct,XU)=>k XU T
 |(.bk,XU)=>some ((.nx,XU),T)
 |(.rt x,XU)=>some ((.rt x,XU),T)
 |(.ro x,XU)=>some ((.ro x,XU),T)
theorem gF:iL k (.nx,ρ) T=k ρ T:=rfl
theorem zli:forL i b (d::r) ρ T=Xy (b (ρ.set i (some (.d d))) T) (iL (forL i b r)):=rfl
theorem k7{k:Nat}{T:Tp}{e0 G:Oa}{f:Oa->Oa}:∀(es:List Oa) (acc:List Oa) (o3 o4:Option D.W),(∀e∈es,cB (f e)/\cS k [.d e,.d G] T=some (f e,T))->acc.length+es.length<=1000 ->
  match (es.map f).filter HG with
  |R::_=>∃ρ',forL 3 (gh k) es [some (.d e0),some (.d G),some (.loc (.list acc)),o3,o4] T=some ((.rt R,ρ'),T)
  |[]=>∃Jw Fz,forL 3 (gh k) es [some (.d e0),some (.d G),some (.loc (.list acc)),o3,o4] T=some ((.nx,[some (.d e0),some (.d G),some (.loc (.list (acc++es.map fun e=>Yv (f e)))),(Jw:Option D.W),Fz]),T)
 |[],acc,o3,o4,_,_=>⟨o3,o4,by simp[forL]⟩
 |e::es,acc,o3,o4,h,hl=>by
  obtain⟨t,ht⟩:=h e Oh;have Zc:acc.length<sizeLine:=OH (by simp at hl;lia:acc.length<1000) (by decide);have go:forL 3 (gh k) (e::es) [some (.d e0),some (.d G),some (.loc (.list acc)),o3,o4] T=Xy (gh k [some (.d e0),some (.d G),some (.loc (.list acc)),some (.d e),o4] T) (iL (forL 3 (gh k) es)):=rfl;rw[go]
  rcases mR t with⟨hf,w,_,hw⟩|⟨hf,hv,_⟩
  .rw[OU,R0,if_pos hf]
   rw[hw] at ht
   have hb:gh k [some (.d e0),some (.d G),some (.loc (.list acc)),some (.d e),o4] T=some ((.rt (fl w),[some (.d e0),some (.d G),some (.loc (.list acc)),some (.d e),some (.d (fl w))]),T):=by
    simp[gh,ht,fl]
   rw[hb,hw];exact⟨_,rfl⟩
  .rw[OU,R0,hf]
   have ih:=k7 (e0:=e0) es (acc++[Yv (f e)]) (some (.d e)) (some (.d (f e))) (fun x hx=>h x (Of _ hx)) (by simp at hl ⊢;lia)
   have hb:gh k [some (.d e0),some (.d G),some (.loc (.list acc)),some (.d e),o4] T=some ((.nx,[some (.d e0),some (.d G),some (.loc (.list (acc++[Yv (f e)]))),some (.d e),some (.d (f e))]),T):=by
    generalize hV:Yv (f e)=v at hv;rw[hv] at ht ⊢;simp[gh,ht,vl,Zc]
   rw[hb,bB,gF];simp only[PX,if_false]
   cases hF:(es.map f).filter HG with
   |nil=>
    rw[hF] at ih;obtain⟨Jw,Fz,hi⟩:=ih;exact⟨Jw,Fz,by rw[hi];simp⟩
   |cons R r=>
    rw[hF] at ih;exact ih
structure Node(e0:Oa)(w0:Str)(es:List Oa):Prop where
 w1:∀T,cA [.d e0] T=some (.list es,T)
 ix:XH e0 (.int 0)=some (.str w0)
 np:(w0=Ob "put")=False
 ng:(w0=Ob "got")=False
 ln:es.length<=8
def TB(G:Oa)(n:Nat)(e:Oa):Prop:=∃R,cB R/\∀k T,n<k->cS k [.d e,.d G] T=some (R,T)
def oQ(G:Oa)(gs:List Oa):Prop:=∀i:Int,XH G (.int i)=XR gs i
theorem nj(gs:List Oa):oQ (.list gs) gs:=fun _=>rfl
theorem mT(n:Nat):cS (n+1)=aN 5 (ak (Xz (aw (af YC (af XH (aa 0) (fC (.int 0))) (fC (.str "put")))) (aq (aB .tuple (ab (fC (.str "value")) (ab (af XH (aa 0) (fC (.int 1))) ag)))) aC) (ak (Xz (aw (af YC (af XH (aa 0) (fC (.int 0))) (fC (.str "got")))) (aq (aB .tuple (ab (fC (.str "value")) (ab (af XH (aa 1) (af XH (aa 0) (fC (.int 1)))) ag)))) aC) (ak (cJ 2 ag) (ak (cq 3 (bD (ay cA (ab (aa 0) ag))) (gh n)) (aq (dw aT (ab (af XH (aa 0) (fC (.int 0))) (ab (aa 2) ag)))))))) :=rfl
theorem pZ{es:List Oa}{f:Oa->Oa}(N:Node e0 w0 es)
  (hf:∀e∈es,cB (f e)/\∀k T,n<k->cS k [.d e,.d G] T=some (f e,T))
  (fin:(∀e∈es,f e=vl (Yv (f e))/\aA (Yv (f e))=true)->∃R,cB R/\∀T,aT [.d (.str w0),.d (.list (es.map fun e=>Yv (f e)))] T=some (R,T)):TB G (n+1) e0:=by
 have ix:=N.ix;have np:=N.np;have ng:=N.ng;have IK:∀k T,n<k->(∀e∈es,cB (f e)/\cS k [.d e,.d G] T=some (f e,T)):=fun k T hk e he=>⟨(hf e he).1,(hf e he).2 k T hk⟩
 cases hF:(es.map f).filter HG with
 |cons R r=>
  have hR:R∈(es.map f).filter HG:=by rw[hF];exact Oh
  obtain⟨e,he,eR⟩:=OF.mp (Qu.mp hR).1;refine⟨R,by rw[←eR];exact(hf e he).1,fun k T hk=>?_⟩;obtain⟨k,rfl⟩:=aY k (by omega);have lp:=k7 (e0:=e0) es [] none none (IK k T (by omega)) (by have:=N.ln;simp;omega);rw[hF] at lp;obtain⟨ρ',lp⟩:=lp;rw[mT];simp[ix,np,ng,N.w1,lp]
 |nil=>
  have all:∀e∈es,f e=vl (Yv (f e))/\aA (Yv (f e))=true:=fun e he=>by
   rcases mR (hf e he).1 with⟨h1,_⟩|⟨_,h2⟩
   .have:f e∈(es.map f).filter HG:=Qu.mpr ⟨OF.mpr ⟨e,he,rfl⟩,h1⟩
    rw[hF] at this;cases this
   .exact h2
  obtain⟨R,t,q1⟩:=fin all;refine⟨R,t,fun k T hk=>?_⟩;obtain⟨k,rfl⟩:=aY k (by omega);have lp:=k7 (e0:=e0) es [] none none (IK k T (by omega)) (by have:=N.ln;simp;omega);rw[hF] at lp;obtain⟨Jw,Fz,lp⟩:=lp;have cf:∀T,di aT [.d (.str w0),.d (.list (es.map fun e=>Yv (f e)))] T=some (.d R,T):=fun T=>jK rfl (q1 []) (qr t);rw[mT];simp[ix,np,ng,N.w1,lp,cf]
theorem kL:bM (a::r) (some 1) none=r:=by
 have e:HT.XT (a::r).length 0 (some 1)=1:=rfl;have e2:HT.XT (a::r).length _ none=(a::r).length:=rfl
 unfold bM<;>simp_all
theorem pP{G:Oa}{n:Nat}{es:List Oa}(h:∀e∈es,TB G n e):∃f:Oa->Oa,∀e∈es,cB (f e)/\∀k T,n<k->cS k [.d e,.d G] T=some (f e,T):=by
 classical
 refine⟨fun e=>if h':e∈es then (h e h').choose else .none,fun e he=>?_⟩;simp only[dif_pos he];exact(h e he).choose_spec
theorem qN(hG:oQ G gs)(hg:∀g∈gs,aA g=true)(hm:m<=(gs.length:Int)):∀(n:Nat) (e:Oa),Ex m n e->TB G n e:=by
 intro n e h
 induction h with
 |put hv=>
  rename_i n v;refine⟨vl v,.inl ⟨v,rfl,hv⟩,fun k T hk=>?_⟩;obtain⟨k,rfl⟩:=aY k (by omega);simp[cS,vl]
 |got h0 h1=>
  rename_i n i;obtain⟨g,e,G1⟩:=gN (xs:=gs) h0 (by omega);refine⟨vl g,.inl ⟨g,rfl,hg g G1⟩,fun k T hk=>?_⟩;obtain⟨k,rfl⟩:=aY k (by omega);simp[cS,vl,hG i,e]
 |row hl _ ih=>
  rename_i n es _;obtain⟨f,hf⟩:=pP ih
  have e1:∀T,cA [.d (.tuple [.str "row",.tuple es])] T=some (.list es,T):=fun T=>by simp[cA]
  refine pZ (w0:=Ob "row") (es:=es) (f:=f) ⟨e1,rfl,by simp,by simp,hl⟩ hf fun all=>?_
  have sx:Sm (.tuple (es.map fun e=>Yv (f e))):=Sm.tup fun d hd=>by
   obtain⟨e,he,rfl⟩:=OF.mp hd;exact fz (all e he).2
  exact⟨bd (.tuple (es.map fun e=>Yv (f e))),ir _,fun T=>by simp[aT,ik T sx]⟩
 |many _ ih=>
  rename_i n e _;obtain⟨f,hf⟩:=pP (es:=[e]) (fun x hx=>by rw[OK.mp hx];exact ih)
  have e1:∀T,cA [.d (.tuple [.str "many",e])] T=some (.list [e],T):=fun T=>by simp[cA,kL]
  refine pZ (w0:=Ob "many") (es:=[e]) (f:=f) ⟨e1,rfl,by simp,by simp,by simp⟩ hf fun all=>?_;obtain⟨a1,a2⟩:=all e (by simp);generalize hV:Yv (f e)=v at a1 a2
  rcases cG a2 with⟨i,rfl,hi⟩|⟨x,rfl,hx,_⟩|⟨ds,rfl,hd⟩
  .exact⟨fl "kind",bw,fun T=>by simp[aT,hW,hV,fl]⟩
  .have Gw:x.length<=sizeLine:=eQ (by omega)
   exact⟨vl (.int x.length),.inl ⟨_,rfl,iq (by omega) (by omega)⟩,fun T=>by simp[aT,hW,hV,vl,Gw]⟩
  .exact⟨vl (.int ds.length),.inl ⟨_,rfl,iq (by omega) (by omega)⟩,fun T=>by simp[aT,hW,hV,vl]⟩
 |pair hw _ _ JV J7=>
  rename_i n w a b _ _
  obtain⟨f,hf⟩:=pP (es:=[a,b]) (fun x hx=>by
   simp at hx
   rcases hx with rfl|rfl
   .exact JV
   .exact J7)
  have ne:¬w="put"/\¬w="got"/\¬w="row":=by
   simp[PW] at hw
   rcases hw with rfl|rfl|rfl|rfl|rfl <;> simp
  obtain⟨n1,n2,n4⟩:=ne
  have e1:∀T,cA [.d (.tuple [.str (Ob w),a,b])] T=some (.list [a,b],T):=fun T=>by simp[cA,kL,n1,n2,n4]
  refine pZ (w0:=Ob w) (es:=[a,b]) (f:=f) ⟨e1,rfl,by simp[n1],by simp[n2],by simp⟩ hf fun all=>?_;obtain⟨a1,a2⟩:=all a (by simp);obtain⟨b1,b2⟩:=all b (by simp);exact zlf hw a2 b2
inductive Rg(p:Bool):Nat->Nat->Oa->Prop where
 |fail {g n:Nat}{x:Str}:isName (.str x)=true->Rg p g n (.tuple [.str "fail",.str x])
 |say {g n:Nat}{e:Oa}:Ex (g:Int) n e->Rg p g (n+1) (.tuple [.str "say",e])
 |ask {g n:Nat}{w:String}{e r:Oa}:(w="want"\/(w="peek"/\p=true))->g<12->Ex (g:Int) n e->Rg p (g+1) n r->Rg p g (n+1) (.tuple [.str (Ob w),e,r])
 |whn {g n:Nat}{e r s:Oa}:Ex (g:Int) n e->Rg p g n r->Rg p g n s->Rg p g (n+1) (.tuple [.str "when",e,r,s])
noncomputable def Y1(v:Oa):PyData:=.tuple [.str "made",v]
noncomputable def Yg(x:Str):PyData:=.tuple [.str "fails",.str x]
noncomputable def Y2(b:Bool)(x:Str)(r:Oa):PyData:=.tuple [.str (Ob (if b then "peek" else "want")),.str x,r]
inductive X6(p:Bool)(g n:Nat):Oa->Prop where
 |md {v:Oa}:aA v=true->X6 p g n (Y1 v)
 |fl {x:Str}:isName (.str x)=true->X6 p g n (Yg x)
 |ask {b:Bool}{x:Str}{r:Oa}{n':Nat}:(b=true->p=true)->isName (.str x)=true->g<12->n'<=n->Rg p (g+1) n' r->X6 p g n (Y2 b x r)
theorem X6.up(h:X6 p g n S)(l:n<=m):X6 p g m S:=by
 cases h with
 |md a=>exact .md a
 |fl a=>exact .fl a
 |ask a b c d e=>exact .ask a b c (OC d l) e
theorem rf:∀w∈FW,isName (.str (Ob w))=true:=by decide +kernel
theorem zlj:isName (.str "name")=true :=rfl
theorem ve(h:aA v=true):∃b,G3 v (.tuple [.int 0,.str "",.tuple []])=some (.bool b):=by
 have h2:([RZ 0,.str "",.tuple []]).all OP=true:=by
  have a:OP (.int 0)=true:=jF (rfl);have b:OP (.str "")=true:=jF (rfl)
  have c:OP (.tuple [])=true:=jF (rfl)<;>simp_all
 exact⟨_,if_pos ⟨jF h,h2⟩⟩
theorem gE(h:isName (.str x)=true):Sm (.str x):=qL 4 _ (ff (pJ h)).1
theorem nv(T:Tp)(h:Sm d):eM [.d d] T=some (.bool (isName d),T):=by
 cases d with
 |str x=>
  have hz:x.length<=sizeLine:=OC h.str (by decide);have hh:∀T,fV [.d _,.d (.str "abcdefghijklmnopqrstuvwxyz")] T=some (.bool (has YH x),T):=fun T=>oP T hz;have e:isName (.str x)=(decide _&&decide _&&has YH x):=rfl
  by_cases h1:1<=x.length
  .have Y6:(1)<=(x.length:Int):=by omega
   by_cases h8:x.length<=8
   .have Ea:(x.length:Int)<=8:=by omega
    simp[eM,hz,hh,e,h1,Y6,h8,Ea]
   .have Ea:¬(x.length:Int)<=8:=by lia
    simp[eM,hz,e,Y6,h8,Ea]
  .have Y6:¬(1)<=(x.length:Int):=by lia
   simp[eM,hz,e,h1,Y6]
 |_=>rfl
theorem iG{α:Type}{a b c d:α}:XR [a,b,c,d] 0=some a:=rfl
theorem kA{α:Type}{a b c d:α}:XR [a,b,c,d] 1=some b:=rfl
theorem oR{α:Type}{a b c d:α}:XR [a,b,c,d] 2=some c:=rfl
theorem ms{α:Type}{a b c d:α}:XR [a,b,c,d] 3=some d:=rfl
theorem qP:∀(n g:Nat) (r:Oa),Rg p g n r->∀(G:Oa) (gs:List Oa),oQ G gs->gs.length=g->(∀v∈gs,aA v=true)->n<=20->∃S,X6 p g n S/\∀k T,n<k->bG k [.d r,.d G] T=some (S,T):=by
 intro n g r h
 induction h with
 |fail hx=>
  rename_i g n x;intro G gs hG hl hv hn;refine⟨Yg x,.fl hx,fun k T hk=>?_⟩;obtain⟨k,rfl⟩:=aY k (by omega);simp[bG,Yg]
 |say he=>
  rename_i g n e;intro G gs hG hl hv hn;obtain⟨R,t,hR⟩:=qN hG hv (by rw[hl];exact Q1 _) n e he;have tb:=fun T=>hR 25 T (by omega)
  rcases t with⟨v,rfl,Zl⟩|⟨w,hw,rfl⟩
  .refine⟨Y1 v,.md Zl,fun k T hk=>?_⟩
   obtain⟨k,rfl⟩:=aY k (by omega);simp[bG,Y1,tb,vl]
  .refine⟨Yg (Ob w),.fl (rf w hw),fun k T hk=>?_⟩
   obtain⟨k,rfl⟩:=aY k (by omega);simp[bG,Yg,tb,fl]
 |ask hw hg he hr ih=>
  rename_i g n w e r;intro G gs hG hl hv hn;obtain⟨R,t,hR⟩:=qN hG hv (by rw[hl];exact Q1 _) n e he;have tb:=fun T=>hR 25 T (by omega)
  have nw:¬w="fail"/\¬w="when"/\¬w="say":=by rcases hw with rfl|⟨rfl,_⟩ <;> simp
  obtain⟨n1,n2,n3⟩:=nw
  rcases t with⟨v,rfl,Zl⟩|⟨u,hu,rfl⟩
  .have ln:=fun T=>nv (d:=v) T (fz Zl)
   cases hi:isName v with
   |false=>
    refine⟨Yg "name",.fl zlj,fun k T hk=>?_⟩;obtain⟨k,rfl⟩:=aY k (by omega);simp[bG,Yg,tb,vl,n1,n2,n3,ln,hi]
   |true=>
    obtain⟨x,rfl⟩:∃x,v=.str x:=by cases v <;> first|exact⟨_,rfl⟩|cases hi
    obtain⟨b,hb,hbp⟩:∃b:Bool,w=(if b then "peek" else "want")/\(b=true->p=true):=by
     rcases hw with rfl|⟨rfl,hp⟩
     .exact⟨false,rfl,fun z=>by cases z⟩
     .exact⟨true,rfl,fun _=>hp⟩
    refine⟨Y2 b x r,.ask hbp hi hg (Ux n) hr,fun k T hk=>?_⟩;obtain⟨k,rfl⟩:=aY k (by omega);simp[bG,Y2,tb,vl,n1,n2,n3,ln,hi,hb]
    cases b <;> simp
  .refine⟨Yg (Ob u),.fl (rf u hu),fun k T hk=>?_⟩
   obtain⟨k,rfl⟩:=aY k (by omega);simp[bG,Yg,tb,fl,n1]
 |whn he hr hs G8 JM=>
  rename_i g n e r s;intro G gs hG hl hv hn;obtain⟨R,t,hR⟩:=qN hG hv (by rw[hl];exact Q1 _) n e he;have tb:=fun T=>hR 25 T (by omega)
  rcases t with⟨v,rfl,Zl⟩|⟨u,hu,rfl⟩
  .obtain⟨b,hb⟩:=ve Zl
   cases b with
   |true=>
    obtain⟨S,hS,hq⟩:=JM G gs hG hl hv (by omega);refine⟨S,hS.up (Ux n),fun k T hk=>?_⟩;obtain⟨k,rfl⟩:=aY k (by omega);have:=hq k T (by omega);simp[bG,tb,vl,hb,iG,kA,oR,ms,this]
   |false=>
    obtain⟨S,hS,hq⟩:=G8 G gs hG hl hv (by omega);refine⟨S,hS.up (Ux n),fun k T hk=>?_⟩;obtain⟨k,rfl⟩:=aY k (by omega);have:=hq k T (by omega);simp[bG,tb,vl,hb,iG,kA,oR,ms,this]
  .refine⟨Yg (Ob u),.fl (rf u hu),fun k T hk=>?_⟩
   obtain⟨k,rfl⟩:=aY k (by omega);simp[bG,Yg,tb,fl,iG,kA]
theorem rG(h:Ex m n e):bq e=true:=by
 induction h with
 |put hv=>simp[bq,bS,ny hv]
 |got _ _=>simp[bq,bS]
 |row _ _ ih=>simp[bq,bS,qt ih]
 |many _ ih=>simp[bq,bS,ih]
 |pair _ _ _ JV J7=>simp[bq,bS,JV,J7]
theorem zlk(h:Rg p g n r):bq r=true:=by
 induction h with
 |fail _=>simp[bq,bS]
 |say he=>simp[bq,bS,rG he]
 |ask _ _ he _ ih=>simp[bq,bS,rG he,ih]
 |whn he _ _ Jp Kg=>simp[bq,bS,rG he,Jp,Kg]
theorem vO(h:X6 p g n S):bq S=true:=by
 cases h with
 |md hv=>simp[Y1,bq,bS,ny hv]
 |fl _=>simp[Yg,bq,bS]
 |ask _ _ _ _ hr=>simp[Y2,bq,bS,zlk hr]
noncomputable def Yr(r:Oa)(gs:List Oa):PyData:=match bG 25 [.d r,.d (.list gs)] [] with
 |some (S,_)=>S
 |none=>.none
theorem nA{p:Bool}{g n:Nat}{r:Oa}{gs:List Oa}(h:Rg p g n r)(hl:gs.length=g)(hv:∀v∈gs,aA v=true)(hn:n<=20):X6 p g n (Yr r gs)/\∀T,bG 25 [.d r,.d (.list gs)] T=some (Yr r gs,T):=by
 obtain⟨S,h1,h2⟩:=qP n g r h _ gs (nj gs) hl hv hn
 have e:Yr r gs=S:=by
  unfold Yr;rw[h2 25 [] (by lia)]
 rw[e];exact⟨h1,fun T=>h2 25 T (by lia)⟩
noncomputable def bW:Oa->Option (Bool×Str×Oa)
 |.tuple [.str w,.str x,r]=>if w=Ob "want" then some (false,x,r) else if w=Ob "peek" then some (true,x,r) else none
 |_=>none
@[simp] theorem iA:bW (Y2 b x r)=some (b,x,r):=by cases b <;> simp[Y2,bW]
@[simp] theorem oy:bW (Y1 v)=none:=by simp[Y1,bW]
@[simp] theorem jh:bW (Yg x)=none :=rfl
abbrev PR:=List (Str×Oa)
noncomputable def PL(l:PR):List PyData:=l.map fun q=>.tuple [.str q.1,q.2]
noncomputable def dS(b:Bool)(x:Str):PyData:=.tuple [.str (Ob (if b then "peeks" else "wants")),.str x]
noncomputable def eK(rd pk:PR):Nat->Nat->Nat->List Oa->Oa->Oa×Nat
 |0,i,_,_,_=>(.none,i)
 |f+1,i,j,gs,S=>match bW S with
  |none=>(S,i)
  |some (b,x,r)=>match (if b then pk[j]? else rd[i]?) with
   |none=>(dS b x,i)
   |some (y,v)=>if y=x then eK rd pk f (if b then i else i+1) (if b then j+1 else j) (gs++[v]) (Yr r (gs++[v])) else (dS b x,i)
noncomputable def Jv:FT:=(aw (af kn (af XH (aa 6) (fC (.int 0))) (aa 3)))
noncomputable def Z1:FS:=(ak (aD 7 (af cC (aa 3) (af XH (aa 6) (fC (.int 0))))) (ak (aD 8 (af cC (aa 4) (af XH (aa 6) (fC (.int 0))))) (ak (Xz (bP (aw (af AL (aa 8) (Yd aZ (ab (aa 7) ag)))) (aw (af Eb (af XH (af XH (aa 7) (aa 8)) (fC (.int 0))) (af XH (aa 6) (fC (.int 1)))))) (aq (aB .tuple (ab (aB .tuple (ab (X1 (atS [("want","wants"),("peek","peeks")]) (af XH (aa 6) (fC (.int 0)))) (ab (af XH (aa 6) (fC (.int 1))) ag))) (ab (af cC (aa 4) (fC (.str "want"))) ag)))) aC) (ak (cF 5 (af XH (af XH (aa 7) (aa 8)) (fC (.int 1)))) (ak (ko 4 (af XH (aa 6) (fC (.int 0))) (af aO (aa 8) (fC (.int 1)))) (aD 6 (dw (bG 25) (ab (af XH (aa 6) (fC (.int 2))) (ab (aa 5) ag)))))))))
theorem zll:bN Jv Z1 (m+1) ρ T=Xy (Jv ρ T) fun b T1=>if b=true then Xy (Z1 ρ T1) (iL (bN Jv Z1 m)) else some ((.nx,ρ),T1):=rfl
noncomputable def dW(a b:Oa):PyData:=.dict [(.str "want",a),(.str "peek",b)]
noncomputable def ZW(r:Oa)(rd pk:PR)(i j:Nat)(gs:List Oa)(S:Oa)(o7 o8:Option D.W):Xw:=[some (.d r),some (.d (.list (PL rd))),some (.d (.list (PL pk))),some (.loc (dW (.list (PL rd)) (.list (PL pk)))),some (.loc (dW (.int (i:Int)) (.int (j:Int)))),some (.loc (.list gs)),some (.d S),o7,o8]
@[simp] theorem Li:kn (.str s) (dW a b)=some (.bool (decide (s=Ob "want")||decide (s=Ob "peek"))):=by unfold dW kn dj dj dj<;>grind
@[simp] theorem Nf:cC (dW a b) (.str "want")=some a :=rfl
@[simp] theorem Nh:cC (dW a b) (.str "peek")=some b :=rfl
theorem gv:Zk o T (.loc (dW a b)) (.d y)=Zv T (o (dW a b) y):=rfl
theorem kG:Zk o T (.d y) (.loc (dW a b))=Zv T (o y (dW a b)):=rfl
theorem yk{r S:Oa}{rd pk:PR}{i j:Nat}{gs:List Oa}{o7 o8:Option D.W}{T:Tp}{w:String}{l:List Oa}(hS:S=.tuple (.str (Ob w)::l))(h1:¬w="want")(h2:¬w="peek")(hl:l.length=1):Jv (ZW r rd pk i j gs S o7 o8) T=some (false,T):=by
 subst hS;simp[Jv,ZW,kG,h1,h2]
theorem zlm:Jv (ZW r rd pk i j gs (Y2 b x r') o7 o8) T=some (true,T):=by cases b <;> simp[Jv,ZW,kG,Y2]
theorem j3{l:PR}{i:Nat}{x:Str}{v:Oa}(h:l[i]? = some (x,v)):XR (PL l) (i:Int)=some (.tuple [.str x,v]):=by
 refine eV ?_
 unfold PL<;>simp_all
theorem fZ(l:PR):(PL l).length=l.length:=by simp[PL]
noncomputable def sH(ρ:Xw)(a b:Oa)(w k:D.W)(T:Tp):Option ((Fl×Xw)×Tp):=match w,k with
 |.d x,.d (.str s)=>if (dj [(.str "want",a),(.str "peek",b)] s).isSome=true/\([(PM "want",a),(.str "peek",b)]).length<=1000 then some ((.nx,ρ.set 4 (some (.loc (.dict (iz [(.str "want",a),(.str "peek",b)] s x))))),T) else none
 |_,_=>none
theorem nk:ko 4 fk fv [a0,a1,a2,a3,some (.loc (dW a b)),a5,a6,a7,a8] T=Xy (fv [a0,a1,a2,a3,some (.loc (dW a b)),a5,a6,a7,a8] T) fun w T1=>Xy (fk [a0,a1,a2,a3,some (.loc (dW a b)),a5,a6,a7,a8] T1) (sH [a0,a1,a2,a3,some (.loc (dW a b)),a5,a6,a7,a8] a b w):=rfl
theorem xo:sH ρ a b (.d x) (.d (.str "want")) T=some ((.nx,ρ.set 4 (some (.loc (dW x b)))),T) :=rfl
theorem xp:sH ρ a b (.d x) (.d (.str "peek")) T=some ((.nx,ρ.set 4 (some (.loc (dW a x)))),T) :=rfl
theorem zln{r:Oa}{b:Bool}{x:Str}{r' v S':Oa}{rd pk:PR}{i j:Nat}{gs:List Oa}{o7 o8:Option D.W}{T:Tp}(hq:(if b then pk[j]? else rd[i]?)=some (x,v))(hg:gs.length<=12)
  (hS:∀T,di (bG 25) [.d r',.loc (.list (gs++[v]))] T=some (.d S',T)):∃Cj FF,Z1 (ZW r rd pk i j gs (Y2 b x r') o7 o8) T=some ((.nx,ZW r rd pk (if b then i else i+1) (if b then j+1 else j) (gs++[v]) S' Cj FF),T):=by
 have hz:gs.length<sizeLine:=Pk hg (by decide)
 cases b with
 |false=>
  have Yp:=hq;have hi:=(Od.mp Yp).1;have Y0:=j3 Yp
  have nl:¬((rd.length:Int)<=(i:Int)):=by lia
  have ln:=fZ rd;refine⟨some (.d (.list (PL rd))),some (.d (.int (i:Int))),?_⟩;simp[Z1,ZW,Y2,gv,ln,nl,Y0,hz,nk,xo,hS]
 |true=>
  have Yp:=hq;have hi:=(Od.mp Yp).1;have Y0:=j3 Yp
  have nl:¬((pk.length:Int)<=(j:Int)):=by lia
  have ln:=fZ pk;refine⟨some (.d (.list (PL pk))),some (.d (.int (j:Int))),?_⟩;simp[Z1,ZW,Y2,gv,ln,nl,Y0,hz,nk,xp,hS]
theorem zO:D.atS [("want","wants"),("peek","peeks")] (.str "want")=some (.str "wants") :=rfl
theorem zP:D.atS [("want","wants"),("peek","peeks")] (.str "peek")=some (.str "peeks") :=rfl
theorem zlo{r:Oa}{b:Bool}{x:Str}{r':Oa}{rd pk:PR}{i j:Nat}{gs:List Oa}{o7 o8:Option D.W}{T:Tp}(hq:∀v,(if b then pk[j]? else rd[i]?)≠some (x,v)):∃ρ',Z1 (ZW r rd pk i j gs (Y2 b x r') o7 o8) T=some ((.rt (.tuple [dS b x,.int (i:Int)]),ρ'),T):=by
 cases b with
 |false=>
  have ln:=fZ rd
  cases hg:rd[i]? with
  |none=>
   have nl:((rd.length:Int)<=(i:Int)):=by simp_all
   simp[Z1,ZW,Y2,gv,kG,ln,nl,zO,dS]
  |some q=>
   obtain⟨y,v⟩:=q;have hi:i<rd.length:=(Od.mp hg).1
   have nl:¬((rd.length:Int)<=(i:Int)):=by lia
   have Y0:=j3 hg;have hy:¬y=x:=fun z=>hq v (by rw[←z];exact hg);simp[Z1,ZW,Y2,gv,kG,ln,nl,Y0,hy,zO,dS]
 |true=>
  have ln:=fZ pk
  cases hg:pk[j]? with
  |none=>
   have nl:((pk.length:Int)<=(j:Int)):=by
    have:=Qe.mp hg
    lia
   simp[Z1,ZW,Y2,gv,kG,ln,nl,zP,dS]
  |some q=>
   obtain⟨y,v⟩:=q;have hi:j<pk.length:=(Od.mp hg).1
   have nl:¬((pk.length:Int)<=(j:Int)):=by lia
   have Y0:=j3 hg;have hy:¬y=x:=fun z=>hq v (by rw[←z];exact hg);simp[Z1,ZW,Y2,gv,kG,ln,nl,Y0,hy,zP,dS]
noncomputable def fin:FS:=aq (aB .tuple (ab (aa 6) (ab (af cC (aa 4) (fC (.str "want"))) ag)))
theorem yP{r S:Oa}{rd pk:PR}{i j:Nat}{gs:List Oa}{o7 o8:Option D.W}{T:Tp}:cO (fin (ZW r rd pk i j gs S o7 o8) T)=some (.tuple [S,.int (i:Int)],T) :=rfl
theorem jR:iL k (.rt x,ρ) T=some ((.rt x,ρ),T):=rfl
theorem rQ(h:bW S=none):eK rd pk (f+1) i j gs S=(S,i):=by rw[eK,h]
theorem xk(hS:bW S=some (b,x,r))(h:∀v,(if b then pk[j]? else rd[i]?)≠some (x,v)):eK rd pk (f+1) i j gs S=(dS b x,i):=by
 rw[eK,hS];dsimp only
 cases hq:(if b then pk[j]? else rd[i]?) with
 |none=>rfl
 |some q=>
  obtain⟨y,v⟩:=q;have hy:¬y=x:=fun z=>h v (by rw[hq,z]);exact if_neg hy
theorem zp(hS:bW S=some (b,x,r))(h:(if b then pk[j]? else rd[i]?)=some (x,v)):eK rd pk (f+1) i j gs S=eK rd pk f (if b then i else i+1) (if b then j+1 else j) (gs++[v]) (Yr r (gs++[v])):=by rw[eK]<;>simp_all
def YS(l:PR):Prop:=∀q∈l,aA q.2=true
theorem vg{rd pk:PR}{b:Bool}{i j:Nat}{x:Str}{v:Oa}(h1:YS rd)(h2:YS pk)(h:(if b then pk[j]? else rd[i]?)=some (x,v)):aA v=true:=by
 cases b with
 |true=>exact h2 _ (OA h)
 |false=>exact h1 _ (OA h)
theorem pY(h:∀u∈gs,aA u=true)(hv:aA v=true):∀u∈gs++[v],aA u=true:=fun u hu=>by
 rcases OD.mp hu with z|z<;>simp_all
theorem xB(h1:YS rd)(h2:YS pk):∀(f m i j:Nat) (gs:List Oa) (S:Oa) (n:Nat) (o7 o8:Option D.W),X6 p gs.length n S->n<=20->(∀v∈gs,aA v=true)->gs.length<=12->13<=gs.length+f->f<=m ->
  cO (Xy (bN Jv Z1 m (ZW r rd pk i j gs S o7 o8) T) (fO fin))=some (.tuple [(eK rd pk f i j gs S).1,.int ((eK rd pk f i j gs S).2:Int)],T)
 |0,m,i,j,gs,S,n,o7,o8,_,_,_,hg,hf,_=>by omega
 |f+1,m,i,j,gs,S,n,o7,o8,hS,hn,hv,hg,hf,hm=>by
  obtain⟨m,rfl⟩:=aY m (by omega);rw[zll]
  cases hS with
  |md hx=>
   rename_i v;rw[yk (S:=Y1 v) (w:="made") (l:=[v]) rfl (by decide) (by decide) rfl,bB,if_neg (by decide),bB,jS,yP,rQ oy]
  |fl hx=>
   rename_i x;rw[yk (S:=Yg x) (w:="fails") (l:=[.str x]) rfl (by decide) (by decide) rfl,bB,if_neg (by decide),bB,jS,yP,rQ jh]
  |ask hb hx B9 JW hr=>
   rename_i b x r' n';rw[zlm,bB,if_pos rfl]
   by_cases hq:∃v,(if b then pk[j]? else rd[i]?)=some (x,v)
   .obtain⟨v,hq⟩:=hq
    have Zl:=pY hv (vg h1 h2 hq);obtain⟨s1,s2⟩:=nA hr (gs:=gs++[v]) (by simp) Zl (by omega);have cf:∀T,di (bG 25) [.d r',.loc (.list (gs++[v]))] T=some (.d (Yr r' (gs++[v])),T):=fun T=>jK rfl (s2 []) (vO s1);obtain⟨Cj,FF,e⟩:=zln (r:=r) (o7:=o7) (o8:=o8) (T:=T) hq hg cf;rw[e,bB,gF,zp iA hq]
    have hl:(gs++[v]).length=gs.length+1:=by simp
    exact xB h1 h2 f m _ _ (gs++[v]) _ n' Cj FF (by rw[hl];exact s1) (by omega) Zl (by rw[hl];omega) (by rw[hl];omega) (by omega)
   .have Yp:=fun v z=>hq ⟨v,z⟩
    obtain⟨ρ',e⟩:=zlo (r:=r) (r':=r') (gs:=gs) (o7:=o7) (o8:=o8) (T:=T) Yp;rw[e,bB,jR,bB,lB,lC,xk iA Yp]
theorem zlp:mP=aN 9 (ak (eZ 3 "want" "peek" (aa 1) (aa 2)) (ak (eZ 4 "want" "peek" (fC (.int 0)) (fC (.int 0))) (ak (cJ 5 ag) (ak (aD 6 (dw (bG 25) (ab (aa 0) (ab (aa 5) ag)))) (ak (bN Jv Z1 100000) fin))))):=rfl
theorem wG(h1:f ρ T=some (.d x,T))(h2:g ρ T=some (.d y,T)):eZ i "want" "peek" f g ρ T=some ((.nx,ρ.set i (some (.loc (dW x y)))),T):=by
 unfold eZ;rw[h1,bB,h2,bB];exact if_neg (by decide +kernel)
noncomputable def iH(rd pk:PR)(r:Oa):Oa×Nat:=eK rd pk 13 0 0 [] (Yr r [])
theorem zlq(T:Tp)(hr:Rg p 0 20 r)(h1:YS rd)(h2:YS pk):mP [.d r,.d (.list (PL rd)),.d (.list (PL pk))] T=some (.tuple [(iH rd pk r).1,.int ((iH rd pk r).2:Int)],T):=by
 obtain⟨s1,s2⟩:=nA hr (gs:=[]) rfl (fun v hv=>by cases hv) (Oo _);have cf:∀T,di _ [.d r,.loc _] T=some _:=fun T=>jK rfl (s2 []) (vO s1);have lp:=xB (r:=r) (T:=T) h1 h2 13 100000 0 0 [] _ 20 none none s1 (Oo _) (fun v hv=>by cases hv) (by simp) (by simp) (by simp);rw[zlp,oG];have a1:eZ 3 _ _ (aa 1) (aa 2) [some (.d r),some _,some _,none,none,none,none,none,none] T=some ((.nx,[some _,some (.d (.list (PL rd))),some (.d (.list (PL pk))),some _,none,none,none,none,none]),T):=wG rfl rfl;have a2:eZ 4 _ _ (fC (.int 0)) (fC (.int 0)) [some _,some _,some (.d (.list (PL pk))),some _,none,none,none,none,none] T=some ((.nx,[some (.d r),some (.d (.list (PL rd))),some _,some (.loc (dW (.list (PL rd)) (.list (PL pk)))),some _,none,none,none,none]),T):=wG rfl rfl;rw[sf];show cO (Xy (eZ 3 _ _ _ _ [some _,some _,some _,none,none,none,none,none,none] T) _)=_;rw[a1,bB,jS,sf,a2,bB,jS]
 have a3:(ak (cJ 5 ag) (ak (aD 6 (dw (bG 25) (ab (aa 0) (ab (aa 5) ag)))) (ak (bN Jv Z1 100000) fin))) [some (.d r),some (.d (.list (PL rd))),some (.d (.list (PL pk))),some (.loc (dW (.list (PL rd)) (.list (PL pk)))),some (.loc (dW (.int 0) (.int 0))),none,none,none,none] T=Xy (bN Jv Z1 100000 (ZW r rd pk 0 0 [] (Yr r []) none none) T) (fO fin):=by
  simp[cf];rfl
 rw[a3];exact lp
noncomputable def oY(rd pk:PR)(r:Oa):PyData:=if (iH rd pk r).2<rd.length then .tuple [.str "strays",.int ((iH rd pk r).2:Int)] else (iH rd pk r).1
theorem zlr(T:Tp)(hr:Rg p 0 20 r)(h1:YS rd)(h2:YS pk):jL [.d r,.d (.list (PL rd)),.d (.list (PL pk))] T=some (oY rd pk r,T):=by
 have e:=zlq T hr h1 h2;have ln:=fZ rd;unfold oY
 by_cases c:(iH rd pk r).2<rd.length
 .have c':=by omega
  simp[jL,e,ln,c']
 .have c':=by omega
  simp[jL,e,ln,c']
def cV(A T:Tp):Prop:=∃cs:List Int,T=A++[il cs]/\cs.length<=1000
theorem zls(cs:List Int):E8 (il cs)=false:=by cases cs <;> rfl
theorem zlt:sR f ρ T=Xy (f ρ T) lW:=rfl
theorem zlu{α:Type}(A:List α)(a b:α):(A++[a]).set A.length b=A++[b] :=by simp
theorem zlv(h:cs.length<1000):lW (.tp A.length) (A++[il (c::cs)])=some (.d (.int c),A++[il cs]):=by
 have e:(A++[il (c::cs)])[A.length]? = some (.int c::il cs):=by simp[il]
 have n:¬(E8 (.int c::il cs)=true\/1000<=(il cs).length):=by
  rintro(z|z)
  .cases z
  .rw[f7] at z;lia
 unfold lW;dsimp only;rw[e];dsimp only;rw[if_neg n,zlu]
theorem zlw:view (A++[il cs]) (.tp A.length)=some (.list (il cs)):=by simp[zls]
theorem ji(t:cV A T):∃r T',dv [.tp A.length] T=some (.int r,T')/\cV A T':=by
 obtain⟨cs,rfl,hl⟩:=t
 have vw:∀cs ,views _ [.tp A.length]=some [.list (il cs)]:=fun cs=>by
  unfold views;rw[zlw];rfl
 cases cs with
 |nil=>
  refine⟨0,_,?_,[],rfl,by simp⟩;simp[dv,vw,f7]
 |cons c cs=>
  simp_all
  have Zc:cs.length<1000:=by lia
  refine⟨c,_,?_,cs,rfl,by lia⟩;have p:=zlv (A:=A) (c:=c) Zc;simp[dv,vw,f7,zlt,p]
noncomputable def X4(ps:List Str):List PyData:=ps.map PM
structure ZZ(l:List Str):Prop where
 n0:0<l.length
 n1:l.length<=12
 nm:∀x∈l,isName (.str x)=true
noncomputable def BK:List PyData:=[.int 0,.int 1,.int 2,.int (-1),.int 1000000000000000000,.str "",.str "a",.str "b-1",.tuple [],.tuple [.int 0],.tuple [.int 1,.str "a"],.tuple [.tuple [],.int 3]]
theorem zlx:∀d∈BK,aA d=true:=by
 have h:BK.all aA=true:=rfl;exact fun d hd=>Ou.mp h d hd
theorem name_val(h:isName (.str x)=true):aA (.str x)=true:=by
 have:=pJ h;show (aE 4 _&&decide _)=true;obtain⟨a,b⟩:=ff  this;rw[a];rfl
section
variable {l:List Str}{A T:Tp}
theorem zy(hl:ZZ l){r:Int}(h0:0<=r)(h1:r<(l.length:Int)):∃x,XR (X4 l) r=some (.str x)/\isName (.str x)=true:=by
 obtain⟨d,e,hm⟩:=gN (xs:=X4 l) h0 (by simpa[X4] using h1);obtain⟨x,hx,rfl⟩:=OF.mp hm;exact⟨x,e,hl.nm x hx⟩
theorem wW(hl:ZZ l)(t:cV A T):∃v T',iU [.tp A.length,.d (.list (X4 l))] T=some (v,T')/\cV A T'/\aA v=true:=by
 obtain⟨r,T1,e1,t1⟩:=ji t;have n1:=hl.n1;have ml:BK.length=12:=rfl
 have ln:(X4 l).length=l.length:=by simp[X4]
 have hp:0<(((BK++X4 l).length:Nat):Int):=by grind
 obtain⟨d,e2,hm⟩:=gN (xs:=BK++X4 l) (i:=r % _) (Pn _ (by lia)) (O9 _ hp);refine⟨d,T1,?_,t1,?_⟩
 .have z:BK.length+(X4 l).length<=sizeLine:=by
   have zz:Om=16777216:=rfl<;>grind
  have am:aO (.list BK) (.list (X4 l))=some (.list (BK++X4 l)):=by simp_all
  unfold BK at am;have ng:e7 (.int 1)=some (.int (-1)):=rfl;generalize hX:BK++X4 l=X at *;unfold BK at hX;rw[hX] at am
  have hX0:¬X=[]:=fun z=>by simp_all
  simp[iU,ng,am,e1,hX0,e2,-Gm]
 .rcases OD.mp hm with z|z
  .exact zlx d z
  .obtain⟨x,hx,rfl⟩:=OF.mp z
   exact name_val (hl.nm x hx)
theorem EX.up(h:EX C m n c ws e)(l:n<=k):EX C m k c ws e:=⟨by have:=h.n1;lia,h.c1,h.c6,h.ln,h.ne,h.ok,fun j T hj=>h.pw j T (by lia),fun j a hj ha=>h.rd j a (by lia) (by lia),gD h.bt (by lia)⟩
theorem RX.up(h:RX C g n c ws r)(l:n<=k):RX C g k c ws r:=⟨by have:=h.n1;omega,h.c1,h.c6,h.ln,h.ne,h.ok,fun j T hj=>h.pw j T (by omega),fun j a hj ha=>h.rd j a (by lia) (by omega),gD h.bt (by lia)⟩
def EB(C:Addr)(g n:Nat)(q:Int)(e:Oa):Prop:=EW C (g:Int) n q e/\Ex (g:Int) n e
theorem ku(h:Ex m n e):∀k,n<=k->Ex m k e:=by
 induction h with
 |put hv=>exact fun k _=>.put hv
 |got h0 h1=>exact fun k _=>.got h0 h1
 |row h8 _ ih=>
  intro k hk;obtain⟨k,rfl⟩:=aY k (by omega);exact .row h8 fun e he=>ih e he k (by omega)
 |many _ ih=>
  intro k hk;obtain⟨k,rfl⟩:=aY k (by omega);exact .many (ih k (by omega))
 |pair hw _ _ ia ib=>
  intro k hk;obtain⟨k,rfl⟩:=aY k (by omega);exact .pair hw (ia k (by omega)) (ib k (by omega))
theorem EB.up(h:EB C g n q e)(l:n<=k)(l':q<=q'):EB C g k q' e:=by
 obtain⟨⟨c,ws,x,y⟩,z⟩:=h;exact⟨⟨c,ws,x.up l,by lia⟩,ku z k l⟩
theorem EB.put(h:aA v=true):EB C g 1 1 (.tuple [.str "put",v]):=⟨⟨1,_,zjx (by decide) h,by decide⟩,.put h⟩
theorem EB.got{C:Addr}{g j:Nat}(hg:g<=12)(h:j<g):EB C g 1 1 (.tuple [.str "got",.int (j:Int)]):=⟨⟨1,_,zjy (by decide) hg h,by decide⟩,.got (by lia) (by lia)⟩
theorem yf{C:Addr}{g:Nat}(hl:ZZ l)(hg:g<=12)(t:cV A T):∃e T',iW [.tp A.length,.d (.list (X4 l)),.d (.int (g:Int))] T=some (e,T')/\cV A T'/\EB C g 1 1 e:=by
 have pt:∀T,cV A T->∃v T',iU [.tp A.length,.d (.list (X4 l))] T=some (v,T')/\cV A T'/\EB C g 1 1 (.tuple [.str "put",v]):=fun T t=>by
  obtain⟨v,T',e,t',hv⟩:=wW hl t;exact⟨v,T',e,t',.put hv⟩
 by_cases h0:0<(g:Int)
 .have Gr:0<g:=by lia
  obtain⟨r,T1,e1,t1⟩:=ji t
  by_cases h1:0<r % 3
  .obtain⟨s,T2,e2,t2⟩:=ji t1
   have s0:0<=s % (g:Int):=Pn _ (by lia);have s1:s % (g:Int)<(g:Int):=O9 _ h0;obtain⟨j,hj⟩:∃j:Nat,s % (g:Int)=(j:Int):=⟨(s % (g:Int)).toNat,by lia⟩;refine⟨_,T2,?_,t2,EB.got (j:=j) hg (by lia)⟩;simp[iW,Gr,e1,h1,e2,hj]
  .obtain⟨v,T2,e2,t2,b⟩:=pt T1 t1
   refine⟨_,T2,?_,t2,b⟩;simp[iW,Gr,e1,h1,e2]
 .obtain⟨v,T2,e2,t2,b⟩:=pt T t
  refine⟨_,T2,?_,t2,b⟩
  have Gr:¬0<g:=by lia
  simp[iW,Gr,e2]
theorem EB.many(h:EB C g 1 1 e):EB C g 2 3 (.tuple [.str "many",e]):=⟨zke h.1 (by simp) (by simp),.many h.2⟩
theorem EB.pair(hw:w∈EA)(ha:EB C g 1 1 a)(hb:EB C g 1 1 b):EB C g 2 3 (.tuple [.str (Ob w),a,b]):=⟨zkf hw ha.1 hb.1 (by simp) (by simp),.pair hw ha.2 hb.2⟩
theorem EB.row2(ha:EB C g 1 1 a)(hb:EB C g 1 1 b):EB C g 2 3 (.tuple [.str "row",.tuple [a,b]]):=by
 have h:∀d∈[a,b],EB C g 1 1 d:=fun d hd=>by
  simp at hd
  rcases hd with rfl|rfl <;> assumption
 exact⟨zkd (by simp) (fun d hd=>(h d hd).1) (by simp) (by simp),.row (by simp) fun d hd=>(h d hd).2⟩
noncomputable def C8:List String:=["part","sum","join","same","less","sum"]
theorem zly{C:Addr}{g:Nat}(hl:ZZ l)(hg:g<=12)(t:cV A T):∃e T',eC [.tp A.length,.d (.list (X4 l)),.d (.int (g:Int))] T=some (e,T')/\cV A T'/\EB C g 2 3 e:=by
 obtain⟨r,T1,e1,t1⟩:=ji t;obtain⟨a,T2,e2,t2,ba⟩:=yf (C:=C) hl hg t1;have m0:0<=r % 12:=Pn _ (by decide);have m1:r % 12<12:=O9 _ (by decide);generalize hk:r % 12=k at m0 m1
 by_cases c4:k<4
 .exact⟨a,T2,by simp[eC,e1,hk,e2,c4],t2,ba.up (by decide) (by decide)⟩
 .by_cases c5:k=4
  .exact⟨_,T2,by simp[eC,e1,hk,e2,c5],t2,ba.many⟩
  .by_cases c6:k=5
   .exact⟨_,T2,by simp[eC,e1,hk,e2,c6],t2,ba.row2 (EB.put (v:=.int 1) (by decide +kernel))⟩
   .obtain⟨b,T3,e3,t3,bb⟩:=yf (C:=C) hl hg t2
    obtain⟨d,ed,hd⟩:=gN (xs:=C8.map fun w=>PM (Ob w)) (i:=k-6) (by lia) (show k-6<6 by lia);obtain⟨w,hw,rfl⟩:=OF.mp hd
    have hw':w∈EA:=by
     revert hw
     have:∀w∈C8,w∈EA:=by decide +kernel
     exact this w
    refine⟨_,T3,?_,t3,ba.pair hw' bb⟩;unfold C8 at ed;simp at ed;simp[eC,e1,hk,e2,c4,c5,c6,ed,e3]
end
noncomputable def Ej:FS:=(Xz (cg (aw (af Au (aa 2) (fC (.int 0)))) (aw (af YC (aa 5) (fC (.int 4))))) (aD 8 (ay eC (ab (aa 0) (ab (aa 1) (ab (aa 2) ag))))) aC)
theorem zt(n:Nat):dM (n+1)=aN 10 (ak (aD 5 (af bz (ay dv (ab (aa 0) ag)) (fC (.int 12)))) (ak (Xz (bP (aw (af YC (aa 3) (fC (.int 0)))) (aw (af F4 (aa 5) (fC (.int 2))))) (ak (Xz (cg (aw (af YC (aa 5) (fC (.int 1)))) (aw (af YC (af bz (ay dv (ab (aa 0) ag)) (fC (.int 2))) (fC (.int 0))))) (aq (aB .tuple (ab (fC (.str "fail")) (ab (af XH (aa 1) (af bz (ay dv (ab (aa 0) ag)) (Yd aZ (ab (aa 1) ag)))) ag)))) aC) (aq (aB .tuple (ab (fC (.str "say")) (ab (ay eC (ab (aa 0) (ab (aa 1) (ab (aa 2) ag)))) ag))))) aC) (ak (Xz (aw (af F4 (aa 5) (fC (.int 4)))) (ak (aD 6 (ay eC (ab (aa 0) (ab (aa 1) (ab (aa 2) ag))))) (ak (aD 7 (ay (dM n) (ab (aa 0) (ab (aa 1) (ab (aa 2) (ab (af dr (aa 3) (fC (.int 1))) (ab (aa 4) ag))))))) (aq (aB .tuple (ab (fC (.str "when")) (ab (aa 6) (ab (aa 7) (ab (ay (dM n) (ab (aa 0) (ab (aa 1) (ab (aa 2) (ab (af dr (aa 3) (fC (.int 1))) (ab (aa 4) ag)))))) ag)))))))) aC) (ak (aD 8 (aB .tuple (ab (fC (.str "put")) (ab (af XH (aa 1) (af bz (ay dv (ab (aa 0) ag)) (Yd aZ (ab (aa 1) ag)))) ag)))) (ak Ej (ak (aD 9 (fC (.str "want"))) (ak (Xz (cg (aV (aa 4)) (aw (af YC (aa 5) (fC (.int 5))))) (aD 9 (fC (.str "peek"))) aC) (aq (aB .tuple (ab (aa 9) (ab (aa 8) (ab (ay (dM n) (ab (aa 0) (ab (aa 1) (ab (af aO (aa 2) (fC (.int 1))) (ab (af dr (aa 3) (fC (.int 1))) (ab (aa 4) ag)))))) ag)))))))))))):=rfl
def RB(C:Addr)(p:Bool)(g n:Nat)(q:Int)(r:Oa):Prop:=RW C g n q r/\Rg p g n r
noncomputable def rq:Nat->Int
 |0=>4
 |n+1=>4+rq n+rq n
theorem sG:∀d,d<=3->rq d<=60/\4<=rq d:=by decide
section
variable {C:Addr}{p:Bool}{g n:Nat}{l:List Str}{A:Tp}
theorem zq(h:Rg p g n r):∀k,n<=k->Rg p g k r:=by
 induction h with
 |fail hx=>exact fun k _=>.fail hx
 |say he=>
  intro k hk;obtain⟨k,rfl⟩:=aY k (by omega);exact .say (ku he k (by omega))
 |ask hw hg he _ ih=>
  intro k hk;obtain⟨k,rfl⟩:=aY k (by omega);exact .ask hw hg (ku he k (by omega)) (ih k (by omega))
 |whn he _ _ i1 i2=>
  intro k hk;obtain⟨k,rfl⟩:=aY k (by omega);exact .whn (ku he k (by omega)) (i1 k (by omega)) (i2 k (by omega))
theorem RB.up(h:RB C p g n q r)(l:n<=k)(l':q<=q'):RB C p g k q' r:=by
 obtain⟨⟨c,ws,x,y⟩,z⟩:=h;exact⟨⟨c,ws,x.up l,by lia⟩,zq z k l⟩
theorem RB.fail(hg:g<=12)(h:isName (.str x)=true):RB C p g 3 4 (.tuple [.str "fail",.str x]):=⟨⟨1,_,zkj (by decide) hg h,by decide⟩,.fail h⟩
theorem RB.say(h:EB C g 2 3 e):RB C p g 3 4 (.tuple [.str "say",e]):=⟨zkk (by decide) h.1 (by simp) (by simp),.say h.2⟩
theorem RB.ask{w:String}{e r:Oa}{q:Int}(hw:w="want"\/(w="peek"/\p=true))(hn:n<=11)(Dq:2<=n)(hg:g<12)(he:EB C g 2 3 e)(hr:RB C p (g+1) n q r)(hq0:0<=q)(hq:4+q<=60):RB C p g (n+1) (4+q) (.tuple [.str (Ob w),e,r]):=by
 obtain⟨⟨c,ws,x,y⟩,z⟩:=he;exact⟨zkl (by lia) (hw.imp id And.left) hg (x.up Dq) hr.1 (by lia) (by lia),.ask hw hg (ku z n Dq) hr.2⟩
theorem RB.whn(hn:n<=11)(Dq:2<=n)(he:EB C g 2 3 e)(hr:RB C p g n q r)(hs:RB C p g n q s)(hq0:0<=q)(hq:4+q+q<=60):RB C p g (n+1) (4+q+q) (.tuple [.str "when",e,r,s]):=by
 obtain⟨⟨c,ws,x,y⟩,z⟩:=he;exact⟨zkm (by lia) (x.up Dq) hr.1 hs.1 (by lia) (by lia),.whn (ku z n Dq) hr.2 hs.2⟩
theorem m5(hl:ZZ l):∀(d k g:Nat) (T:Tp),cV A T->d<k->d<=3->g+d<=12->∃r T',dM k [.tp A.length,.d (.list (X4 l)),.d (.int (g:Int)),.d (.int (d:Int)),.d (.bool p)] T=some (r,T')/\cV A T'/\RB C p g (3+d) (rq d) r
 |d,0,g,T,_,h,_,_=>absurd h (Qa _)
 |d,k+1,g,T,t,hk,Bk,hgd=>by
  have hg:g<=12:=by omega
  have q4:=(sG d Bk).2;obtain⟨r,T1,e1,t1⟩:=ji t;have m0:0<=r % 12:=Pn _ (by decide);have m1:r % 12<12:=O9 _ (by decide);generalize hw:r % 12=w at m0 m1
  have J8:(X4 l).length=l.length:=by simp[X4]
  have lp:0<(l.length:Int):=by have:=hl.n0;omega
  have GC:=hl.n0
  have AH:∀T,cV A T->∃s T' x,dv [.tp A.length] T=some (.int s,T')/\cV A T'/\XR (X4 l) (s % (l.length:Int))=some (.str x)/\isName (.str x)=true:=fun T t=>by
   obtain⟨s,T',e,t'⟩:=ji t;obtain⟨x,e2,hx⟩:=zy hl (r:=s % (l.length:Int)) (Pn _ (by omega)) (O9 _ lp);exact⟨s,T',x,e,t',e2,hx⟩
  have say:∀T,cV A T->∃e T',eC [.tp A.length,.d (.list (X4 l)),.d (.int (g:Int))] T=some (e,T')/\cV A T'/\EB C g 2 3 e:=fun T t=>zly hl hg t
  by_cases c1:d=0\/w<2
  .have c1':(decide ((d:Int)=0)||decide (w<2))=true:=by
    rcases c1 with h|h
    .simp[h]
    .simp[h]
   by_cases c2:w=1
   .obtain⟨s,T2,e2,t2⟩:=ji t1
    by_cases c3:s % 2=0
    .obtain⟨s3,T3,x,e3,t3,e4,hx⟩:=AH T2 t2
     refine⟨_,T3,?_,t3,(RB.fail hg hx).up (by omega) q4⟩;simp[dM,e1,hw,c2,e2,c3,e3,J8,GC,e4]
    .obtain⟨e,T3,e3,t3,be⟩:=say T2 t2
     refine⟨_,T3,?_,t3,(RB.say be).up (by omega) q4⟩;simp[dM,e1,hw,c2,e2,c3,e3]
   .obtain⟨e,T3,e3,t3,be⟩:=say T1 t1
    refine⟨_,T3,?_,t3,(RB.say be).up (by omega) q4⟩
    rcases c1 with h|h
    .subst h
     simp[dM,e1,hw,c2,e3]
    .simp[dM,e1,hw,c2,h,e3]
  .obtain⟨c1a,Do⟩:=not_or.mp c1
   obtain⟨d,rfl⟩:=aY d (by omega)
   have dz:¬((d:Int)+1=0):=by omega
   have ds:(d:Int)+1-1=(d:Int):=by omega
   have qs:=sG d (by omega);have qq:rq (d+1)=4+rq d+rq d:=rfl;have q60:=(sG (d+1) Bk).1
   by_cases c4:w<4
   .obtain⟨e,T2,e2,t2,be⟩:=say T1 t1
    obtain⟨r1,T3,e3,t3,b1⟩:=m5 hl d k g T2 t2 (by omega) (by omega) (by omega);obtain⟨r2,T4,e4,t4,b2⟩:=m5 hl d k g T3 t3 (by omega) (by omega) (by omega);have b:=RB.whn (by omega) (by omega) be b1 b2 (by omega) (by omega);refine⟨_,T4,?_,t4,b.up (by omega) (by omega)⟩;simp[dM,e1,hw,Do,dz,c4,e2,ds,e3,e4]
   .obtain⟨s3,T2,x,e2,t2,e3,hx⟩:=AH T1 t1
    have wh:∃e T3,EB C g 2 3 e/\cV A T3/\Ej [some (.tp A.length),some (.d (.list (X4 l))),some (.d (.int (g:Int))),some (.d (.int ((d:Int)+1))),some (.d (.bool p)),some (.d (.int w)),none,none,some (.d (.tuple [.str "put",.str x])),none] T2=some ((.nx,[some (.tp A.length),some (.d (.list (X4 l))),some (.d (.int (g:Int))),some (.d (.int ((d:Int)+1))),some (.d (.bool p)),some (.d (.int w)),none,none,some (.d e),none]),T3):=by
     by_cases g0:0<g
     .by_cases c5:w=4
      .obtain⟨e,T3,e4,t3,be⟩:=say T2 t2
       exact⟨e,T3,be,t3,by simp[Ej,g0,c5,e4]⟩
      .exact⟨_,T2,(EB.put (name_val hx)).up (by decide) (by decide),t2,by simp[Ej,g0,c5]⟩
     .exact⟨_,T2,(EB.put (name_val hx)).up (by decide) (by decide),t2,by simp[Ej,g0]⟩
    obtain⟨e,T3,be,t3,ew⟩:=wh;obtain⟨r1,T4,e5,t4,b1⟩:=m5 hl d k (g+1) T3 t3 (by omega) (by omega) (by omega)
    have gi:((g+1:Nat):Int)=(g:Int)+1:=by omega
    rw[gi] at e5
    by_cases c6:p=true/\w=5
    .obtain⟨hp,w5⟩:=c6
     have b:=RB.ask (w:="peek") (.inr ⟨rfl,hp⟩) (by omega) (by omega) (by omega) be b1 (by omega) (by omega);refine⟨_,T4,?_,t4,b.up (by omega) (by omega)⟩;subst hp w5;rw[zt];simp[e1,hw,dz,e2,J8,GC,e3];rw[ew];simp[ds,e5]
    .have b:=RB.ask (w:="want") (p:=p) (.inl rfl) (by omega) (by omega) (by omega) be b1 (by omega) (by omega)
     refine⟨_,T4,?_,t4,b.up (by omega) (by omega)⟩
     have c6':(if p=true then some (decide (w=5),T3) else some (false,T3))=some (false,T3):=by
      cases p with
      |false=>rfl
      |true=>
       have:¬w=5:=fun z=>c6 ⟨rfl,z⟩;simp[this]
     rw[zt];simp[e1,hw,Do,dz,c4,e2,J8,GC,e3];rw[ew];simp[ds,e5,c6']
end
noncomputable def Fv:Int->List Int->Int
 |a,[]=>a
 |a,x::r=>Fv (max a x) r
theorem oe{m:Int}:∀(l:List Int) (a:Int),Fv a l<=m↔a<=m/\∀x∈l,x<=m
 |[],a=>by simp[Fv]
 |x::r,a=>by
  show Fv _ r<=m↔_;rw[oe r];simp only[Ox,forall_eq_or_imp,Int.max_le];exact and_assoc
noncomputable def Zn:Nat->Oa->Int
 |n+1,.tuple ds=>Fv 0 (ds.map (Zn n))+1
 |_,_=>0
theorem wL(h:single d=true):Zn n d=0:=by rcases dF h with⟨i,rfl⟩|⟨x,rfl⟩ <;> cases n <;> rfl
theorem qH:∀(n m:Nat) (d:Oa),aE n d=true->(aE m d=true↔Zn n d<=(m:Int))
 |n,m,d,h=>by
  rcases cL h with h1|⟨n,ds,rfl,rfl,h8,hb⟩
  .rw[wL h1,(ff h1).1]
   simp
  .show _↔Fv 0 (ds.map (Zn n))+1<=(m:Int)
   cases m with
   |zero=>
    constructor
    .intro z
     cases z
    .intro z
     have:=(oe (m:=-1) (ds.map (Zn n)) 0).mp (by lia);omega
   |succ m=>
    have e:aE (m+1) (.tuple ds)=(decide (ds.length<=8)&&ds.all (aE m)):=rfl
    simp_all
    constructor
    .intro z
     have:=(oe (m:=(m:Int)) (ds.map (Zn n)) 0).mpr ⟨by lia,fun x hx=>by
      obtain⟨d,hd,rfl⟩:=OF.mp hx
      exact(qH n m d (hb d hd)).mp (z d hd)⟩
     omega
    .intro z d hd
     have:=(oe (m:=(m:Int)) (ds.map (Zn n)) 0).mp (by omega);exact(qH n m d (hb d hd)).mpr (this.2 _ (OF.mpr ⟨d,hd,rfl⟩))
termination_by n=>n
theorem qw{k n:Nat}{T:Tp}{X:Oa}:∀(ds:List Oa) (a b:Int) (o3 o4:Option D.W),(∀d∈ds,gz k [.d d] T=some (.tuple [.int (Zn n d),.int (aH n d)],T)) ->
  ∃p3 p4,forL 3 (m6 k) ds [some (.d X),some (.d (.int a)),some (.d (.int b)),o3,o4] T=some ((.nx,[some (.d X),some (.d (.int (Fv a (ds.map (Zn n))))),some (.d (.int (b+(ds.map (aH n)).sum))),p3,p4]),T)
 |[],a,b,o3,o4,_=>⟨o3,o4,by simp[forL,Fv]⟩
 |d::ds,a,b,o3,o4,h=>by
  have h0:=h d Oh;obtain⟨p3,p4,e⟩:=qw  ds _ _ _ _ fun x hx=>h x (Of _ hx);refine⟨p3,p4,?_⟩
  have s:b+((d::ds).map (aH n)).sum=b+aH n d+(ds.map (aH n)).sum:=by simp;lia
  rw[s]
  have mx:(if Zn n d>a then Zn n d else a)=max a (Zn n d):=by grind
  have st:m6 k [some (.d X),some (.d (.int a)),some (.d (.int b)),some (.d d),o4] T=some ((.nx,[some (.d X),some (.d (.int (max a (Zn n d)))),some (.d (.int (b+aH n d))),some (.d d),some (.d (.tuple [.int (Zn n d),.int (aH n d)]))]),T):=by
   rw[←mx];simp[m6,h0,iO]
  exact(fw st).trans e
theorem ze:∀(n k:Nat) (d:Oa) (T:Tp),aE n d=true->n<k->gz k [.d d] T=some (.tuple [.int (Zn n d),.int (aH n d)],T)
 |n,k,d,T,h,hk=>by
  obtain⟨k,rfl⟩:=aY k (by omega)
  rcases cL h with h1|⟨n,ds,rfl,rfl,h8,hb⟩
  .rw[wL h1,(ff h1).2]
   rcases dF h1 with⟨i,rfl⟩|⟨x,rfl⟩ <;> simp[gz]
  .obtain⟨p3,p4,e⟩:=qw (X:=.tuple ds) ds 0 1 none none fun d hd=>ze n k d T (hb d hd) (by omega)
   rw[u5];simp[e];exact⟨rfl,rfl⟩
termination_by n=>n
def BG(d:Oa):Prop:=(∃i,d=.int i)\/(∃x,d=.str x/\x.length<=60000/\has YF x=true)\/∃ds,d=.tuple ds/\∀x∈ds,aE 4 x=true
theorem zlz(T:Tp)(h:∀x∈ds,aE 4 x=true):gz 25 [.d (.tuple ds)] T=some (.tuple [.int (Zn 5 (.tuple ds)),.int (aH 5 (.tuple ds))],T):=by
 obtain⟨p3,p4,e⟩:=qw    (X:=.tuple ds) ds 0 1 none none fun d hd=>ze 4 24 d T (h d hd) (by simp);rw[u5];simp[e];exact⟨rfl,rfl⟩
theorem zma(ha:has y a=true)(hb:has y b=true):has y (a++b)=true:=by
 refine Ou.mpr fun c hc=>?_;have YK:c∈cd _:=hc;rw[gM] at YK
 rcases OD.mp YK with z|z
 .exact Ou.mp ha c z
 .exact Ou.mp hb c z
theorem wZ(h:aA (.str x)=true):has YF x=true:=by
 obtain⟨hb,_⟩:=cW h
 rcases cL hb with h1|⟨_,_,_,z,_⟩
 .exact t7 h1
 .cases z
theorem val_one(h:∀n,aE n d=single d)(h2:aH 4 d=1):aA d=single d:=by show (aE 4 d&&decide _)=_<;>simp_all
theorem nS(T:Tp)(h:BG d):dZ [.d d] T=some (.bool (!aA d),T):=by
 rcases h with⟨i,rfl⟩|⟨x,rfl,hx,ht⟩|⟨ds,rfl,hd⟩
 .have e:aA (.int i)=decide (-1000000000000000000<=i/\i<=1000000000000000000):=by
   rw[val_one (fun n=>by cases n <;> rfl) rfl]
   by_cases c : -1000000000000000000<=i/\i<=1000000000000000000
   .rw[gA c.1 c.2,decide_eq_true c]
   .rw[decide_eq_false c]
    cases z:single (.int i) with
    |false=>rfl
    |true=>exact absurd (by have:=kX z;lia) c
  have ng:e7 (.int 1000000000000000000)=some (.int (-1000000000000000000)):=rfl
  by_cases c1 : -1000000000000000000<=i
  .by_cases c2:i<=1000000000000000000
   .simp[dZ,ng,e,c1,c2]
   .simp[dZ,ng,e,c1,c2]
  .simp[dZ,ng,e,c1]
 .have e:aA (.str x)=decide (x.length<=20):=by
   rw[val_one (fun n=>by cases n <;> rfl) rfl];show (decide (x.length<=20)&&has YF x)=_;rw[ht,Bool.and_true]
  have z:x.length<=sizeLine:=OC hx (by decide)
  by_cases c:x.length<=20
  .have c':¬20<(x.length:Int):=by lia
   have c2:¬20<x.length:=by lia
   simp[dZ,e,c,c',c2,z]
  .have c':20<(x.length:Int):=by lia
   have c2:20<x.length:=by lia
   simp[dZ,e,c,c',c2,z]
 .have sz:=zlz T hd
  have e4:aA (.tuple ds)=(aE 4 (.tuple ds)&&decide (aH 4 (.tuple ds)<=40)):=rfl
  by_cases h8:ds.length<=8
  .have b5:aE 5 (.tuple ds)=true:=ij h8 hd
   have dp:=qH 5 4 (.tuple ds) b5
   have n8:¬8<ds.length:=by lia
   have A5:¬8<(ds.length:Int):=by lia
   cases hb:aE 4 (.tuple ds) with
   |true=>
    have d4:=dp.mp hb
    have GS:¬4<Zn 5 (.tuple ds):=by lia
    have me:=(nu 4 _ hb).2;rw[e4,hb,Bool.true_and,←me]
    by_cases c:aH 5 (.tuple ds)<=40
    .have c':¬40<aH 5 (.tuple ds):=by lia
     simp[dZ,sz,jx,iO,n8,A5,GS,c,c']
    .have c':40<aH 5 (.tuple ds):=by lia
     simp[dZ,sz,jx,iO,n8,A5,GS,c,c']
   |false=>
    have GS:4<Zn 5 (.tuple ds):=by
     by_cases c:4<Zn 5 (.tuple ds)
     .exact c
     .have:=dp.mpr (by lia)
      rw[hb] at this;cases this
    rw[e4,hb];simp[dZ,sz,jx,iO,n8,A5,GS]
  .have n8:8<ds.length:=by lia
   have A5:8<(ds.length:Int):=by lia
   have hb:aE 4 (.tuple ds)=false:=by
    show (decide (ds.length<=8)&&_)=false;rw[decide_eq_false h8];rfl
   rw[e4,hb];simp[dZ,sz,n8,A5]
def ka(w:String)(a b:Oa):Prop:=∃R,cB R/\(∀T,aT [.d (.str (Ob w)),.d (.list [a,b])] T=some (R,T))/\∀T,bI [.d (.str (Ob w)),.d a,.d b] T=some (R,T)
theorem zmb(ha:aA a=true)(hb:aA b=true):ka "same" a b:=by
 have e1:=yR ha hb;refine⟨vl (.int (if JL a b=true then 1 else 0)),.inl ⟨_,rfl,by split <;> exact iq (by simp) (by simp)⟩,fun T=>?_,fun T=>?_⟩
 .cases hs:JL a b with
  |true=>rw[hs] at e1;simp[aT,e1,vl]
  |false=>rw[hs] at e1;simp[aT,e1,vl]
 .cases hs:JL a b with
  |true=>rw[hs] at e1;simp[bI,e1,vl,D.intD]
  |false=>rw[hs] at e1;simp[bI,e1,vl,D.intD]
theorem zmc(ha:aA a=true)(hb:aA b=true):ka "part" a b:=by
 rcases cG ha with⟨i,rfl,hi⟩|⟨x,rfl,hx,Er⟩|⟨ds,rfl,hd⟩
 .refine⟨_,bw,fun T=>?_,fun T=>?_⟩ <;> simp[aT,d6,bI,fl]
 .refine⟨_,bw,fun T=>?_,fun T=>?_⟩ <;> simp[aT,d6,bI,fl]
 .rcases cG hb with⟨j,rfl,hj⟩|⟨y,rfl,hy,Ax⟩|⟨es,rfl,he⟩
  .by_cases c:0<=j/\j<(ds.length:Int)
   .obtain⟨d,e,hv⟩:=zc ha c.1 c.2
    refine⟨vl d,.inl ⟨d,rfl,hv⟩,fun T=>?_,fun T=>?_⟩ <;> simp[aT,d6,bI,vl,c.1,c.2,e]
   .refine⟨_,w6,fun T=>?_,fun T=>?_⟩
    .by_cases c0:0<=j
     .have c1:¬j<(ds.length:Int):=fun z=>c ⟨c0,z⟩
      simp[aT,d6,fl,c0,c1]
     .simp[aT,d6,fl,c0]
    .by_cases c0:0<=j
     .have c1:¬j<(ds.length:Int):=fun z=>c ⟨c0,z⟩
      simp[bI,fl,c0,c1]
     .simp[bI,fl,c0]
  .refine⟨_,bw,fun T=>?_,fun T=>?_⟩ <;> simp[aT,d6,bI,fl]
  .refine⟨_,bw,fun T=>?_,fun T=>?_⟩ <;> simp[aT,d6,bI,fl]
theorem zmd(ha:aA a=true)(hb:aA b=true):ka "sum" a b:=by
 rcases cG ha with⟨i,rfl,hi⟩|⟨x,rfl,hx,Er⟩|⟨ds,rfl,hd⟩
 .rcases cG hb with⟨j,rfl,hj⟩|⟨y,rfl,hy,Ax⟩|⟨es,rfl,he⟩
  .have b1:=fun T=>ik T (yp (i+j))
   have b2:=fun T=>nS T (.inl ⟨i+j,rfl⟩);refine⟨_,ir (.int (i+j)),fun T=>?_,fun T=>?_⟩
   .simp[aT,fj,b1]
   .cases hv:aA (.int (i+j)) <;> simp[bI,b2,hv,bd,vl,fl]
  .refine⟨_,bw,fun T=>?_,fun T=>?_⟩ <;> simp[aT,fj,bI,fl]
  .refine⟨_,bw,fun T=>?_,fun T=>?_⟩ <;> simp[aT,fj,bI,fl]
 .refine⟨_,bw,fun T=>?_,fun T=>?_⟩ <;> simp[aT,fj,bI,fl]
 .refine⟨_,bw,fun T=>?_,fun T=>?_⟩ <;> simp[aT,fj,bI,fl]
theorem zme(ha:aA a=true)(hb:aA b=true):ka "less" a b:=by
 rcases cG ha with⟨i,rfl,hi⟩|⟨x,rfl,hx,Er⟩|⟨ds,rfl,hd⟩
 .rcases cG hb with⟨j,rfl,hj⟩|⟨y,rfl,hy,Ax⟩|⟨es,rfl,he⟩
  .refine⟨vl (.int (if i<j then 1 else 0)),.inl ⟨_,rfl,by split <;> exact iq (by decide) (by decide)⟩,fun T=>?_,fun T=>?_⟩
   .by_cases c:i<j
    .simp[aT,d7,c,vl]
    .simp[aT,d7,c,vl]
   .by_cases c:i<j
    .simp[bI,c,vl,D.intD]
    .simp[bI,c,vl,D.intD]
  .refine⟨_,bw,fun T=>?_,fun T=>?_⟩ <;> simp[aT,d7,bI,fl]
  .refine⟨_,bw,fun T=>?_,fun T=>?_⟩ <;> simp[aT,d7,bI,fl]
 .refine⟨_,bw,fun T=>?_,fun T=>?_⟩ <;> simp[aT,d7,bI,fl]
 .refine⟨_,bw,fun T=>?_,fun T=>?_⟩ <;> simp[aT,d7,bI,fl]
theorem zmf(ha:aA a=true)(hb:aA b=true):ka "join" a b:=by
 rcases cG ha with⟨i,rfl,hi⟩|⟨x,rfl,hx,Er⟩|⟨ds,rfl,hd⟩
 .refine⟨_,bw,fun T=>?_,fun T=>?_⟩
  .simp[aT,dN,fl]
  .rcases cG hb with⟨j,rfl,hj⟩|⟨y,rfl,hy,Ax⟩|⟨es,rfl,he⟩ <;> simp[bI,fl]
 .rcases cG hb with⟨j,rfl,hj⟩|⟨y,rfl,hy,Ax⟩|⟨es,rfl,he⟩
  .refine⟨_,bw,fun T=>?_,fun T=>?_⟩ <;> simp[aT,dN,bI,fl]
  .have l:x.length+y.length<=sizeLine:=eQ (by omega)
   have sx:Sm (.str (x++y)):=Sm.mkS (by rw[←cw,gM,Pj,cw,cw];omega) fun c hc=>by
    have YK:c∈cd (x++y):=hc;rw[gM] at YK;exact(OD.mp YK).elim (Er c) (Ax c)
   have hxy:has YF (x++y)=true:=zma (wZ ha) (wZ hb);have b1:=fun T=>ik T sx;have b2:=fun T=>nS (d:=.str (x++y)) T (.inr (.inl ⟨_,rfl,sx.both.1,hxy⟩));refine⟨_,ir (.str (x++y)),fun T=>?_,fun T=>?_⟩
   .simp[aT,dN,b1,l]
   .cases hv:aA (.str (x++y)) <;> simp[bI,b2,l,hv,bd,vl,fl]
  .refine⟨_,bw,fun T=>?_,fun T=>?_⟩ <;> simp[aT,dN,bI,fl]
 .rcases cG hb with⟨j,rfl,hj⟩|⟨y,rfl,hy,Ax⟩|⟨es,rfl,he⟩
  .refine⟨_,bw,fun T=>?_,fun T=>?_⟩ <;> simp[aT,dN,bI,fl]
  .refine⟨_,bw,fun T=>?_,fun T=>?_⟩ <;> simp[aT,dN,bI,fl]
  .have l:ds.length+es.length<=sizeLine:=eQ (by omega)
   have sx:Sm (.tuple (ds++es)):=Sm.tup fun d hd=>by
    rcases OD.mp hd with z|z
    .exact fz (i4 ha z)
    .exact fz (i4 hb z)
   have b1:=fun T=>ik T sx;have b2:=fun T=>nS (d:=.tuple (ds++es)) T (.inr (.inr ⟨_,rfl,fun z hz=>(OD.mp hz).elim (fun q=>(cW (i4 ha q)).1) fun q=>(cW (i4 hb q)).1⟩));refine⟨_,ir (.tuple (ds++es)),fun T=>?_,fun T=>?_⟩
   .simp[aT,dN,b1,l]
   .cases hv:aA (.tuple (ds++es)) <;> simp[bI,b2,l,hv,bd,vl,fl]
theorem zmg(hw:w∈PW)(ha:aA a=true)(hb:aA b=true):ka w a b:=by
 simp[PW] at hw
 rcases hw with rfl|rfl|rfl|rfl|rfl
 .exact zmc ha hb
 .exact zmd ha hb
 .exact zmf ha hb
 .exact zmb ha hb
 .exact zme ha hb
@[simp] theorem NC:Zk o T (.loc (.list ys)) (.d y)=Zv T (o (.list ys) y):=rfl
noncomputable def jf:FS:=(ak (Xz (aw (af YC (af XH (aa 0) (fC (.int 0))) (fC (.str "row")))) (ak (Xz (aV (ay dZ (ab (Yd dQ (ab (aa 3) ag)) ag))) (aq (aB .tuple (ab (fC (.str "fails")) (ab (fC (.str "great")) ag)))) aC) (aq (aB .tuple (ab (fC (.str "value")) (ab (Yd dQ (ab (aa 3) ag)) ag))))) aC) (ak (Xz (aw (af YC (af XH (aa 0) (fC (.int 0))) (fC (.str "many")))) (ak (Xz (aV (X1 (bu .int) (af XH (aa 3) (fC (.int 0))))) (aq (aB .tuple (ab (fC (.str "fails")) (ab (fC (.str "kind")) ag)))) aC) (aq (aB .tuple (ab (fC (.str "value")) (ab (Yd aZ (ab (af XH (aa 3) (fC (.int 0))) ag)) ag))))) aC) (aq (ay bI (ab (af XH (aa 0) (fC (.int 0))) (ab (af XH (aa 3) (fC (.int 0))) (ab (af XH (aa 3) (fC (.int 1))) ag)))))))
theorem uh(n:Nat):cm (n+1)=aN 6 (ak (Xz (aw (af YC (af XH (aa 0) (fC (.int 0))) (fC (.str "put")))) (aq (aB .tuple (ab (fC (.str "value")) (ab (af XH (aa 0) (fC (.int 1))) ag)))) aC) (ak (Xz (aw (af YC (af XH (aa 0) (fC (.int 0))) (fC (.str "got")))) (aq (aB .tuple (ab (fC (.str "value")) (ab (af XH (aa 1) (af XH (aa 0) (fC (.int 1)))) ag)))) aC) (ak (aD 2 (YE (aa 0) (fP (fC (.int 1))) dD)) (ak (Xz (aw (af YC (af XH (aa 0) (fC (.int 0))) (fC (.str "row")))) (aD 2 (af XH (aa 0) (fC (.int 1)))) aC) (ak (cJ 3 ag) (ak (cq 4 (bD (aa 2)) (fW n)) jf)))))):=rfl
theorem sM{M:Nat}{T:Tp}{e0 G P:Oa}{f:Oa->Oa}:∀(es:List Oa) (acc:List Oa) (o3 o4:Option D.W),(∀e∈es,cB (f e)/\cm M [.d e,.d G] T=some (f e,T))->acc.length+es.length<=1000 ->
  match (es.map f).filter HG with
  |R::_=>∃ρ',forL 4 (fW M) es [some (.d e0),some (.d G),some (.d P),some (.loc (.list acc)),o3,o4] T=some ((.rt R,ρ'),T)
  |[]=>∃Jw Fz,forL 4 (fW M) es [some (.d e0),some (.d G),some (.d P),some (.loc (.list acc)),o3,o4] T=some ((.nx,[some (.d e0),some (.d G),some (.d P),some (.loc (.list (acc++es.map fun e=>Yv (f e)))),(Jw:Option D.W),Fz]),T)
 |[],acc,o3,o4,_,_=>⟨o3,o4,by simp[forL]⟩
 |e::es,acc,o3,o4,h,hl=>by
  obtain⟨t,ht⟩:=h e Oh;have Zc:acc.length<sizeLine:=OH (by simp at hl;omega:acc.length<1000) (by decide);have go:forL 4 (fW M) (e::es) [some (.d e0),some (.d G),some (.d P),some (.loc (.list acc)),o3,o4] T=Xy (fW M [some (.d e0),some (.d G),some (.d P),some (.loc (.list acc)),some (.d e),o4] T) (iL (forL 4 (fW M) es)):=rfl;rw[go]
  rcases mR t with⟨hf,w,_,hw⟩|⟨hf,hv,_⟩
  .rw[OU,R0,if_pos hf]
   rw[hw] at ht
   have hb:fW M [some (.d e0),some (.d G),some (.d P),some (.loc (.list acc)),some (.d e),o4] T=some ((.rt (fl w),[some (.d e0),some (.d G),some (.d P),some (.loc (.list acc)),some (.d e),some (.d (fl w))]),T):=by
    simp[fW,ht,fl]
   rw[hb,hw];exact⟨_,rfl⟩
  .rw[OU,R0,hf]
   have ih:=sM (e0:=e0) (P:=P) es (acc++[Yv (f e)]) (some (.d e)) (some (.d (f e))) (fun x hx=>h x (Of _ hx)) (by simp at hl ⊢;omega)
   have hb:fW M [some (.d e0),some (.d G),some (.d P),some (.loc (.list acc)),some (.d e),o4] T=some ((.nx,[some (.d e0),some (.d G),some (.d P),some (.loc (.list (acc++[Yv (f e)]))),some (.d e),some (.d (f e))]),T):=by
    generalize hV:Yv (f e)=v at hv;rw[hv] at ht ⊢;simp[fW,ht,vl,Zc]
   rw[hb,bB,gF]
   cases hF:(es.map f).filter HG with
   |nil=>
    rw[hF] at ih;obtain⟨Jw,Fz,hi⟩:=ih;exact⟨Jw,Fz,by rw[hi];simp⟩
   |cons R r=>
    rw[hF] at ih;exact ih
def IS(G:Oa)(gs:List Oa)(n:Nat)(e:Oa):Prop:=∃R,cB R/\(∀k T,n<k->cm k [.d e,.d (.list gs)] T=some (R,T))/\∀k T,n<k->cS k [.d e,.d G] T=some (R,T)
structure Iv(e0:Oa)(w0:Str)(es:List Oa):Prop where
 nd:Node e0 w0 es
 w2:(w0=Ob "row"/\e0=.tuple [.str "row",.tuple es])\/((w0=Ob "row")=False/\e0=.tuple (.str w0::es))
theorem pQ{es:List Oa}{f:Oa->Oa}(N:Iv e0 w0 es)
  (hf:∀e∈es,cB (f e)/\(∀k T,n<k->cm k [.d e,.d (.list gs)] T=some (f e,T))/\∀k T,n<k->cS k [.d e,.d G] T=some (f e,T))
  (fin:(∀e∈es,f e=vl (Yv (f e))/\aA (Yv (f e))=true)->∃R,cB R/\(∀T,aT [.d (.str w0),.d (.list (es.map fun e=>Yv (f e)))] T=some (R,T))/\∀o3 o4 T,cO (jf [some (.d e0),some (.d (.list gs)),some (.d (.tuple es)),some (.loc (.list (es.map fun e=>Yv (f e)))),o3,o4] T)=some (R,T)):IS G gs (n+1) e0:=by
 have ix:=N.nd.ix;have np:=N.nd.np;have ng:=N.nd.ng;have KG:∀k T,n<k->(∀e∈es,cB (f e)/\cS k [.d e,.d G] T=some (f e,T)):=fun k T hk e he=>⟨(hf e he).1,(hf e he).2.2 k T hk⟩;have Co:∀k T,n<k->(∀e∈es,cB (f e)/\cm k [.d e,.d (.list gs)] T=some (f e,T)):=fun k T hk e he=>⟨(hf e he).1,(hf e he).2.1 k T hk⟩
 cases hF:(es.map f).filter HG with
 |cons R r=>
  have hR:R∈(es.map f).filter HG:=by rw[hF];exact Oh
  obtain⟨e,he,eR⟩:=OF.mp (Qu.mp hR).1;refine⟨R,by rw[←eR];exact(hf e he).1,fun k T hk=>?_,fun k T hk=>?_⟩
  .obtain⟨k,rfl⟩:=aY k (by omega)
   have lp:=sM (e0:=e0) (P:=.tuple es) es [] none none (Co k T (by omega)) (by have:=N.nd.ln;simp;omega);rw[hF] at lp;obtain⟨ρ',lp⟩:=lp;rw[uh]
   rcases N.w2 with⟨rfl,rfl⟩|⟨nr,rfl⟩
   .simp[lp]
   .simp[np,ng,nr,kL,lp]
  .obtain⟨k,rfl⟩:=aY k (by omega)
   have lp:=k7 (e0:=e0) es [] none none (KG k T (by omega)) (by have:=N.nd.ln;simp;omega);rw[hF] at lp;obtain⟨ρ',lp⟩:=lp;rw[mT];simp[ix,np,ng,N.nd.w1,lp]
 |nil=>
  have all:∀e∈es,f e=vl (Yv (f e))/\aA (Yv (f e))=true:=fun e he=>by
   rcases mR (hf e he).1 with⟨h1,_⟩|⟨_,h2⟩
   .have:f e∈(es.map f).filter HG:=Qu.mpr ⟨OF.mpr ⟨e,he,rfl⟩,h1⟩
    rw[hF] at this;cases this
   .exact h2
  obtain⟨R,t,q1,q2⟩:=fin all;refine⟨R,t,fun k T hk=>?_,fun k T hk=>?_⟩
  .obtain⟨k,rfl⟩:=aY k (by omega)
   have lp:=sM (e0:=e0) (P:=.tuple es) es [] none none (Co k T (by omega)) (by have:=N.nd.ln;simp;omega);rw[hF] at lp;obtain⟨Jw,Fz,lp⟩:=lp;rw[uh];have q:=q2 Jw Fz T
   rcases N.w2 with⟨rfl,rfl⟩|⟨nr,rfl⟩
   .simp[lp,q]
   .simp[np,ng,nr,kL,lp,q]
  .obtain⟨k,rfl⟩:=aY k (by omega)
   have lp:=k7 (e0:=e0) es [] none none (KG k T (by omega)) (by have:=N.nd.ln;simp;omega);rw[hF] at lp;obtain⟨Jw,Fz,lp⟩:=lp;have cf:∀T,di aT [.d (.str w0),.d (.list (es.map fun e=>Yv (f e)))] T=some (.d R,T):=fun T=>jK rfl (q1 []) (qr t);rw[mT];simp[ix,np,ng,N.nd.w1,lp,cf]
theorem pH{G:Oa}{gs:List Oa}{n:Nat}{es:List Oa}(h:∀e∈es,IS G gs n e):∃f:Oa->Oa,∀e∈es,cB (f e)/\(∀k T,n<k->cm k [.d e,.d (.list gs)] T=some (f e,T))/\∀k T,n<k->cS k [.d e,.d G] T=some (f e,T):=by
 classical
 refine⟨fun e=>if h':e∈es then (h e h').choose else .none,fun e he=>?_⟩;simp only[dif_pos he];exact(h e he).choose_spec
theorem zmh(hG:oQ G gs)(hg:∀g∈gs,aA g=true)(hm:m<=(gs.length:Int)):∀(n:Nat) (e:Oa),Ex m n e->IS G gs n e:=by
 intro n e h
 induction h with
 |put hv=>
  rename_i n v;refine⟨vl v,.inl ⟨v,rfl,hv⟩,fun k T hk=>?_,fun k T hk=>?_⟩
  .obtain⟨k,rfl⟩:=aY k (by omega)
   simp[cm,vl]
  .obtain⟨k,rfl⟩:=aY k (by omega)
   simp[cS,vl]
 |got h0 h1=>
  rename_i n i;obtain⟨g,e,G1⟩:=gN (xs:=gs) h0 (by omega);refine⟨vl g,.inl ⟨g,rfl,hg g G1⟩,fun k T hk=>?_,fun k T hk=>?_⟩
  .obtain⟨k,rfl⟩:=aY k (by omega)
   simp[cm,vl,e]
  .obtain⟨k,rfl⟩:=aY k (by omega)
   simp[cS,vl,hG i,e]
 |row hl _ ih=>
  rename_i n es _;obtain⟨f,hf⟩:=pH ih
  have e1:∀T,cA [.d (.tuple [.str "row",.tuple es])] T=some (.list es,T):=fun T=>by simp[cA]
  refine pQ (w0:=Ob "row") (es:=es) (f:=f) ⟨⟨e1,rfl,by simp,by simp,hl⟩,.inl ⟨rfl,rfl⟩⟩ hf fun all=>?_
  have sx:Sm (.tuple (es.map fun e=>Yv (f e))):=Sm.tup fun d hd=>by
   obtain⟨e,he,rfl⟩:=OF.mp hd;exact fz (all e he).2
  have bp:BG (.tuple (es.map fun e=>Yv (f e))):=.inr (.inr ⟨_,rfl,fun d hd=>by
   obtain⟨e,he,rfl⟩:=OF.mp hd
   exact(cW (all e he).2).1⟩)
  refine⟨bd (.tuple (es.map fun e=>Yv (f e))),ir _,fun T=>?_,fun o3 o4 T=>?_⟩
  .simp[aT,ik T sx]
  .have lv:=nS T bp
   generalize es.map (fun e=>Yv (f e))=ps at lv ⊢
   cases hv:aA (.tuple ps) <;> simp[jf,lv,hv,bd,vl,fl,D.dQ]
 |many _ ih=>
  rename_i n e he;obtain⟨f,hf⟩:=pH (es:=[e]) (fun x hx=>by rw[OK.mp hx];exact ih)
  have e1:∀T,cA [.d (.tuple [.str "many",e])] T=some (.list [e],T):=fun T=>by simp[cA,kL]
  refine pQ (w0:=Ob "many") (es:=[e]) (f:=f) ⟨⟨e1,rfl,by simp,by simp,by simp⟩,.inr ⟨by simp,rfl⟩⟩ hf fun all=>?_;obtain⟨a1,a2⟩:=all e (by simp);generalize hV:Yv (f e)=v at a1 a2
  rcases cG a2 with⟨i,rfl,hi⟩|⟨x,rfl,hx,_⟩|⟨ds,rfl,hd⟩
  .refine⟨fl "kind",bw,fun T=>?_,fun o3 o4 T=>?_⟩
   .simp[aT,hW,hV,fl]
   .simp[jf,hV,fl]
  .have Gw:x.length<=sizeLine:=eQ (by omega)
   refine⟨vl (.int x.length),.inl ⟨_,rfl,iq (by omega) (by omega)⟩,fun T=>?_,fun o3 o4 T=>?_⟩
   .simp[aT,hW,hV,vl,Gw]
   .simp[jf,hV,vl,Gw]
  .refine⟨vl (.int ds.length),.inl ⟨_,rfl,iq (by omega) (by omega)⟩,fun T=>?_,fun o3 o4 T=>?_⟩
   .simp[aT,hW,hV,vl]
   .simp[jf,hV,vl]
 |pair hw ha hb JV J7=>
  rename_i n w a b
  obtain⟨f,hf⟩:=pH (es:=[a,b]) (fun x hx=>by
   simp at hx
   rcases hx with rfl|rfl
   .exact JV
   .exact J7)
  have ne:¬w="put"/\¬w="got"/\¬w="row"/\¬w="many":=by
   simp[PW] at hw
   rcases hw with rfl|rfl|rfl|rfl|rfl <;> simp
  obtain⟨n1,n2,n4,n5⟩:=ne
  have e1:∀T,cA [.d (.tuple [.str (Ob w),a,b])] T=some (.list [a,b],T):=fun T=>by simp[cA,kL,n1,n2,n4]
  refine pQ (w0:=Ob w) (es:=[a,b]) (f:=f) ⟨⟨e1,rfl,by simp[n1],by simp[n2],by simp⟩,.inr ⟨by simp[n4],rfl⟩⟩ hf fun all=>?_;obtain⟨a1,a2⟩:=all a (by simp);obtain⟨b1,b2⟩:=all b (by simp);obtain⟨R,t,q1,q2⟩:=zmg hw a2 b2;refine⟨R,t,fun T=>q1 T,fun o3 o4 T=>?_⟩;simp[jf,n4,n5,q2]
noncomputable def fQ(rd pk:PR):Nat->Nat->Nat->List Oa->Oa->Oa
 |0,_,_,_,_=>.none
 |f+1,i,j,gs,S=>match bW S with
  |none=>S
  |some (b,x,r)=>match (if b then pk[j]? else rd[i]?) with
   |none=>dS b x
   |some (_,v)=>fQ rd pk f (if b then i else i+1) (if b then j+1 else j) (gs++[v]) (Yr r (gs++[v]))
noncomputable def C6:FT:=(aw (af inD (af XH (aa 6) (fC (.int 0))) (aB .tuple (ab (fC (.str "want")) (ab (fC (.str "peek")) (ab (fC (.str "when")) ag))))))
noncomputable def F6:FS:=(ak (Xz (aw (af YC (af XH (aa 6) (fC (.int 0))) (fC (.str "fail")))) (aq (aB .tuple (ab (fC (.str "fails")) (ab (af XH (aa 6) (fC (.int 1))) ag)))) aC) (ak (aD 7 (dw (cm 25) (ab (af XH (aa 6) (fC (.int 1))) (ab (aa 3) ag)))) (ak (Xz (aw (af YC (af XH (aa 7) (fC (.int 0))) (fC (.str "fails")))) (aq (aa 7)) aC) (aq (aB .tuple (ab (fC (.str "made")) (ab (af XH (aa 7) (fC (.int 1))) ag)))))))
theorem FZ:bN C6 cY (m+1) ρ T=Xy (C6 ρ T) fun b T1=>if b=true then Xy (cY ρ T1) (iL (bN C6 cY m)) else some ((.nx,ρ),T1):=rfl
noncomputable def YJ(r0:Oa)(rd pk:PR)(i j:Nat)(gs:List Oa)(r:Oa)(o7 o8:Option D.W):Xw:=[some (.d r0),some (.d (.list (PL rd))),some (.d (.list (PL pk))),some (.loc (.list gs)),some (.loc (dW (.int (i:Int)) (.int (j:Int)))),some (.loc (dW (.list (PL rd)) (.list (PL pk)))),some (.d r),o7,o8]
theorem rF(T:Tp)(h:Sm d):iS [.d d] T=some (.bool (isName d),T):=by
 cases d with
 |str x=>
  have hz:x.length<=sizeLine:=OC h.str (by decide);have e:isName (.str x)=(decide _&&decide _&&has YH x):=rfl;have hi:bR .str .str=true:=rfl
  have hc:bL bT (af inD (aa 0) (fC (.str "abcdefghijklmnopqrstuvwxyz"))) [some (.d (.str x))] _ T=some ((D.signs x).map fun d=>.bool (rL YH d),T):=gB fun d hd=>by
   obtain⟨c,_,rfl⟩:=uR hd;rfl
  by_cases h1:1<=x.length
  .have Y6:(1:Int)<=(x.length:Int):=by omega
   by_cases h2:x.length<=8
   .have EG:(x.length:Int)<=8:=by omega
    simp[iS,hi,hz,hc,uS,e,h1,Y6,h2,EG]
   .have EG:¬(x.length:Int)<=8:=by omega
    simp[iS,hi,hz,e,h1,Y6,h2,EG]
  .have Y6:¬(1:Int)<=(x.length:Int):=by omega
   simp[iS,hi,hz,e,h1,Y6]
 |_=>rfl
variable {r0:Oa}{rd pk:PR}{i j:Nat}{gs:List Oa}{o7 o8:Option D.W}{T:Tp}
theorem zmi:inD (.str "want") (.tuple [.str "want",.str "peek",.str "when"])=some (.bool true) :=rfl
theorem zmj:inD (.str "peek") (.tuple [.str "want",.str "peek",.str "when"])=some (.bool true) :=rfl
theorem zmk:C6 (YJ r0 rd pk i j gs (.tuple [.str "fail",x]) o7 o8) T=some (false,T) :=rfl
theorem zml:C6 (YJ r0 rd pk i j gs (.tuple [.str "say",x]) o7 o8) T=some (false,T) :=rfl
theorem zmm{b:Bool}{x y:Oa}:C6 (YJ r0 rd pk i j gs (.tuple [.str (Ob (if b then "peek" else "want")),x,y]) o7 o8) T=some (true,T):=by cases b <;> simp[C6,YJ,zmi,zmj]
theorem zmn:C6 (YJ r0 rd pk i j gs (.tuple [.str "when",x,y,z]) o7 o8) T=some (true,T) :=rfl
theorem rA{g n:Nat}{e:Oa}(he:Ex (g:Int) n e)(hl:gs.length=g)(hv:∀v∈gs,aA v=true)(hn:n<=20):∃R,cB R/\(∀T,di (cm 25) [.d e,.loc (.list gs)] T=some (.d R,T))/\∀k T,n<k->cS k [.d e,.d (.list gs)] T=some (R,T):=by
 obtain⟨R,t,h1,h2⟩:=zmh (nj gs) hv (by simp_all) n e he;exact⟨R,t,fun T=>jK rfl (h1 25 [] (by lia)) (qr t),h2⟩
theorem jY(h:bW S=none):fQ rd pk (f+1) i j gs S=S:=by rw[fQ,h]
theorem fA(h:∀T,bG 25 [.d r,.d (.list gs)] T=some (S,T)):Yr r gs=S:=by
 unfold Yr;rw[h]
variable {r0:Oa}{rd pk:PR}{i j:Nat}{gs:List Oa}{o7 o8:Option D.W}{T:Tp}
theorem zmo(h:∀T,di (cm 25) [.d e,.loc (.list gs)] T=some (.d (fl u),T)):∃ρ',cY (YJ r0 rd pk i j gs (.tuple [.str (Ob w),e,r]) o7 o8) T=some ((.rt (fl u),ρ'),T):=by simp[cY,YJ,h,fl]
theorem zmp(h:∀T,di (cm 25) [.d e,.loc (.list gs)] T=some (.d (fl u),T)):∃ρ',cY (YJ r0 rd pk i j gs (.tuple [.str (Ob w),e,r,s]) o7 o8) T=some ((.rt (fl u),ρ'),T):=by simp[cY,YJ,h,fl,iG]
theorem zmq(h:∀T,di (cm 25) [.d e,.loc (.list gs)] T=some (.d (vl v),T))(hb:G3 v (.tuple [.int 0,.str "",.tuple []])=some (.bool b)):∃Cj,cY (YJ r0 rd pk i j gs (.tuple [.str "when",e,r,s]) o7 o8) T=some ((.nx,YJ r0 rd pk i j gs (if b then s else r) Cj o8),T):=by cases b <;> simp[cY,YJ,h,vl,ms,hb]
theorem zmr(hw:¬w="when")(h:∀T,di (cm 25) [.d e,.loc (.list gs)] T=some (.d (vl v),T))(hs:Sm v)(hi:isName v=false):∃ρ',cY (YJ r0 rd pk i j gs (.tuple [.str (Ob w),e,r]) o7 o8) T=some ((.rt (Yg "name"),ρ'),T):=by
 have ln:=fun T=>rF T hs;simp[cY,YJ,h,vl,hw,ln,hi,Yg]
theorem zms(h:∀T,di (cm 25) [.d e,.loc (.list gs)] T=some (.d (vl (.str x)),T))(hi:isName (.str x)=true)(hq:(if b then j else i)=(if b then pk else rd).length):∃ρ',cY (YJ r0 rd pk i j gs (.tuple [.str (Ob (if b then "peek" else "want")),e,r]) o7 o8) T=some ((.rt (dS b x),ρ'),T):=by
 have ln:=fun T=>rF T (gE hi);have l1:=fZ rd;have l2:=fZ pk
 cases b with
 |false=>
  have Yp:i=rd.length:=hq;simp[cY,YJ,h,vl,ln,hi,gv,l1,Yp];exact⟨by decide,rfl⟩
 |true=>
  have Yp:j=pk.length:=hq;simp[cY,YJ,h,vl,ln,hi,gv,l2,Yp];exact⟨by decide,rfl⟩
theorem zmt{b:Bool}{e r v:Oa}{x y:Str}(h:∀T,di (cm 25) [.d e,.loc (.list gs)] T=some (.d (vl (.str x)),T))(hi:isName (.str x)=true)(hg:gs.length<=12)(hq:(if b then pk[j]? else rd[i]?)=some (y,v)):∃Cj FF,cY (YJ r0 rd pk i j gs (.tuple [.str (Ob (if b then "peek" else "want")),e,r]) o7 o8) T=some ((.nx,YJ r0 rd pk (if b then i else i+1) (if b then j+1 else j) (gs++[v]) r Cj FF),T):=by
 have ln:=fun T=>rF T (gE hi);have l1:=fZ rd;have l2:=fZ pk;have hz:gs.length<sizeLine:=Pk hg (by decide)
 cases b with
 |false=>
  have Yp:rd[i]? = some (y,v):=hq;have Y0:=j3 Yp
  have n1:¬(i:Int)=(rd.length:Int):=by have:=(Od.mp Yp).1;lia
  have n2:¬i=rd.length:=by lia
  refine⟨some (.d (vl (.str x))),some (.d (.str "want")),?_⟩;simp[cY,YJ,h,vl,ln,hi,gv,l1,l2,n1,n2,Y0,hz,nk,xo]
 |true=>
  have Yp:pk[j]? = some (y,v):=hq;have Y0:=j3 Yp
  have n1:¬(j:Int)=(pk.length:Int):=by have:=(Od.mp Yp).1;lia
  have n2:¬j=pk.length:=by lia
  refine⟨some (.d (vl (.str x))),some (.d (.str "peek")),?_⟩;simp[cY,YJ,h,vl,ln,hi,gv,l1,l2,n1,n2,Y0,hz,nk,xp]
theorem zmu:cO (F6 (YJ r0 rd pk i j gs (.tuple [.str "fail",x]) o7 o8) T)=some (.tuple [.str "fails",x],T) :=rfl
theorem zmv(h:∀T,di (cm 25) [.d e,.loc (.list gs)] T=some (.d (fl u),T)):cO (F6 (YJ r0 rd pk i j gs (.tuple [.str "say",e]) o7 o8) T)=some (Yg (Ob u),T):=by simp[F6,YJ,h,fl,Yg]
theorem zmw(h:∀T,di (cm 25) [.d e,.loc (.list gs)] T=some (.d (vl v),T)):cO (F6 (YJ r0 rd pk i j gs (.tuple [.str "say",e]) o7 o8) T)=some (Y1 v,T):=by simp[F6,YJ,h,vl,Y1]
theorem zmx(hR:Rg p g n r):∀(gs:List Oa) (f m i j:Nat) (o7 o8:Option D.W),gs.length=g->(∀v∈gs,aA v=true)->YS rd->YS pk->n<=20->g<=12->13<=g+f->n<m->i<=rd.length->j<=pk.length ->
  cO (Xy (bN C6 cY m (YJ r0 rd pk i j gs r o7 o8) T) (fO F6))=some (fQ rd pk f i j gs (Yr r gs),T):=by
 induction hR with
 |fail hx=>
  rename_i g n x;intro gs f m i j o7 o8 hl hv k1 k2 hn hg hf hm hi hj;obtain⟨m,rfl⟩:=aY m (by omega);obtain⟨f,rfl⟩:=aY f (by omega)
  have es:Yr (.tuple [.str "fail",.str x]) gs=Yg x:=fA fun T=>by simp[bG,Yg]
  rw[FZ,zmk,bB,if_neg (by decide),bB,jS,zmu,es,jY jh];rfl
 |say he=>
  rename_i g n e;intro gs f m i j o7 o8 hl hv k1 k2 hn hg hf hm hi hj;obtain⟨m,rfl⟩:=aY m (by omega);obtain⟨f,rfl⟩:=aY f (by omega);obtain⟨R,t,h1,h2⟩:=rA he hl hv (by omega);have tb:=fun T=>h2 25 T (by omega);rw[FZ,zml,bB,if_neg (by decide),bB,jS]
  rcases t with⟨v,rfl,Zl⟩|⟨w,hw,rfl⟩
  .have es:Yr (.tuple [.str "say",e]) gs=Y1 v:=fA fun T=>by simp[bG,Y1,tb,vl]
   rw[zmw h1,es,jY oy]
  .have es:Yr (.tuple [.str "say",e]) gs=Yg (Ob w):=fA fun T=>by simp[bG,Yg,tb,fl]
   rw[zmv h1,es,jY jh]
 |ask hw B9 he hr ih=>
  rename_i g n w e r;intro gs f m i j o7 o8 hl hv k1 k2 hn hg hf hm hi hj;obtain⟨m,rfl⟩:=aY m (by omega);obtain⟨f,rfl⟩:=aY f (by omega);obtain⟨R,t,h1,h2⟩:=rA he hl hv (by omega);have tb:=fun T=>h2 25 T (by omega)
  have nw:¬w="fail"/\¬w="when"/\¬w="say":=by rcases hw with rfl|⟨rfl,_⟩ <;> simp
  obtain⟨n1,n2,n3⟩:=nw
  obtain⟨b,hb⟩:∃b:Bool,w=(if b then "peek" else "want"):=by
   rcases hw with rfl|⟨rfl,hp⟩
   .exact⟨false,rfl⟩
   .exact⟨true,rfl⟩
  subst hb;rw[FZ,zmm,bB,if_pos rfl]
  rcases t with⟨v,rfl,Zl⟩|⟨u,hu,rfl⟩
  .cases Zm:isName v with
   |false=>
    have ln:=fun T=>nv (d:=v) T (fz Zl)
    have es:Yr (.tuple [.str (Ob (if b then "peek" else "want")),e,r]) gs=Yg "name":=fA fun T=>by simp[bG,Yg,tb,vl,n1,n2,n3,ln,Zm]
    obtain⟨ρ',eb⟩:=zmr (r0:=r0) (rd:=rd) (pk:=pk) (i:=i) (j:=j) (o7:=o7) (o8:=o8) (T:=T) (r:=r) n2 h1 (fz Zl) Zm;rw[eb,bB,jR,bB,lB,lC,es,jY jh]
   |true=>
    obtain⟨x,rfl⟩:∃x,v=.str x:=by cases v <;> first|exact⟨_,rfl⟩|cases Zm
    have ln:=fun T=>nv (d:=.str x) T (fz Zl)
    have es:Yr (.tuple [.str (Ob (if b then "peek" else "want")),e,r]) gs=Y2 b x r:=fA fun T=>by
     simp[bG,Y2,tb,vl,n1,n2,n3,ln,Zm]
    cases hq:(if b then pk[j]? else rd[i]?) with
    |none=>
     have Yp:(if b then j else i)=(if b then pk else rd).length:=by
      cases b with
      |true=>have:=Qe.mp (show pk[j]? = none from hq);show j=pk.length;omega
      |false=>have:=Qe.mp (show rd[i]? = none from hq);show i=rd.length;omega
     obtain⟨ρ',eb⟩:=zms (r0:=r0) (o7:=o7) (o8:=o8) (T:=T) (r:=r) h1 Zm Yp;rw[eb,bB,jR,bB,lB,lC,es,fQ,iA];dsimp only;rw[hq]
    |some q=>
     obtain⟨y,v⟩:=q;obtain⟨Cj,FF,eb⟩:=zmt (r0:=r0) (o7:=o7) (o8:=o8) (T:=T) (r:=r) h1 Zm (by omega) hq;have hv2:=pY hv (vg k1 k2 hq);rw[eb,bB,gF,es,fQ,iA];dsimp only;rw[hq];refine ih (gs++[v]) f m _ _ Cj FF (by simp[hl]) hv2 k1 k2 (by omega) (by omega) (by omega) (by omega) ?_ ?_
     .cases b with
      |true=>exact hi
      |false=>have:=(Od.mp (show rd[i]? = some (y,v) from hq)).1;show i+1<=rd.length;omega
     .cases b with
      |true=>have:=(Od.mp (show pk[j]? = some (y,v) from hq)).1;show j+1<=pk.length;omega
      |false=>exact hj
  .have es:Yr (.tuple [.str (Ob (if b then "peek" else "want")),e,r]) gs=Yg (Ob u):=fA fun T=>by simp[bG,Yg,tb,fl,n1]
   obtain⟨ρ',eb⟩:=zmo (r0:=r0) (rd:=rd) (pk:=pk) (i:=i) (j:=j) (o7:=o7) (o8:=o8) (T:=T) (r:=r) (w:=if b then "peek" else "want") h1;rw[eb,bB,jR,bB,lB,lC,es,jY jh];rfl
 |whn he hr hs G8 JM=>
  rename_i g n e r s;intro gs f m i j o7 o8 hl hv k1 k2 hn hg hf hm hi hj;obtain⟨m,rfl⟩:=aY m (by omega);obtain⟨R,t,h1,h2⟩:=rA he hl hv (by omega);have tb:=fun T=>h2 25 T (by omega);rw[FZ,zmn,bB,if_pos rfl]
  rcases t with⟨v,rfl,Zl⟩|⟨u,hu,rfl⟩
  .obtain⟨b,hb⟩:=ve Zl
   obtain⟨Cj,eb⟩:=zmq (r0:=r0) (rd:=rd) (pk:=pk) (i:=i) (j:=j) (o7:=o7) (o8:=o8) (T:=T) (r:=r) (s:=s) h1 hb;rw[eb,bB,gF]
   cases b with
   |true=>
    obtain⟨S,_,hq⟩:=qP n g s hs (.list gs) gs (nj gs) hl hv (by omega)
    have w1:∀k T,n<k->bG (k+1) [.d (.tuple [.str "when",e,r,s]),.d (.list gs)] T=some (S,T):=fun k T hk=>by
     have:=hq k T hk;simp[bG,tb,vl,hb,iG,kA,oR,ms,this]
    have es:Yr (.tuple [.str "when",e,r,s]) gs=Yr s gs:=by
     rw[fA fun T=>hq 25 T (by omega)];exact fA fun T=>w1 24 T (by omega)
    rw[es];exact JM gs f m i j Cj o8 hl hv k1 k2 (by omega) hg hf (by omega) hi hj
   |false=>
    obtain⟨S,_,hq⟩:=qP n g r hr (.list gs) gs (nj gs) hl hv (by omega)
    have w1:∀k T,n<k->bG (k+1) [.d (.tuple [.str "when",e,r,s]),.d (.list gs)] T=some (S,T):=fun k T hk=>by
     have:=hq k T hk;simp[bG,tb,vl,hb,iG,kA,oR,ms,this]
    have es:Yr (.tuple [.str "when",e,r,s]) gs=Yr r gs:=by
     rw[fA fun T=>hq 25 T (by omega)];exact fA fun T=>w1 24 T (by omega)
    rw[es];exact G8 gs f m i j Cj o8 hl hv k1 k2 (by omega) hg hf (by omega) hi hj
  .obtain⟨f,rfl⟩:=aY f (by omega)
   have es:Yr (.tuple [.str "when",e,r,s]) gs=Yg (Ob u):=fA fun T=>by simp[bG,Yg,tb,fl,iG,kA]
   obtain⟨ρ',eb⟩:=zmp (r0:=r0) (rd:=rd) (pk:=pk) (i:=i) (j:=j) (o7:=o7) (o8:=o8) (T:=T) (r:=r) (s:=s) (w:="when") h1;rw[eb,bB,jR,bB,lB,lC,es,jY jh];rfl
noncomputable def rX(rd pk:PR)(r:Oa):PyData:=fQ rd pk 13 0 0 [] (Yr r [])
theorem zmy(T:Tp)(hr:Rg p 0 20 r)(h1:YS rd)(h2:YS pk):iX [.d r,.d (.list (PL rd)),.d (.list (PL pk))] T=some (rX rd pk r,T):=by
 have lp:=zmx (r0:=r)   (T:=T) hr [] 13 100000 0 0 none none rfl (fun v hv=>by simp_all) h1 h2 (Oo _) (by simp) (by decide) (by simp) (by lia) (by lia);show cO (ak _ _ [some _,some _,some _,none,none,none,none,none,none] T)=_;exact lp
noncomputable def sn(rd:PR):List PyData:=rd.map fun q=>q.2
inductive Ze(r:Oa):PR->Oa->Prop where
 |nil:Ze r [] (Yr r [])
 |snoc {rd:PR}{S r' v:Oa}{x:Str}:Ze r rd S->bW S=some (false,x,r')->Ze r (rd++[(x,v)]) (Yr r' (sn rd++[v]))
theorem xf:sn (rd++[(x,v)])=sn rd++[v]:=by simp[sn]
noncomputable def endOf(S:Oa):PyData:=match bW S with
 |none=>S
 |some (b,x,_)=>dS b x
theorem xH{rd rest:PR}:(rd++[q]++rest)[rd.length]? = some q:=by simp
theorem zmz(h:Ze r rd S):∀(rest:PR) (f:Nat),eK (rd++rest) [] (f+rd.length) 0 0 [] (Yr r [])=eK (rd++rest) [] f rd.length 0 (sn rd) S:=by
 induction h with
 |nil=>exact fun rest f=>rfl
 |snoc hp ha ih=>
  rename_i rd S r' v x;intro rest f;have e:=ih ([(x,v)]++rest) (f+1)
  have l1:(rd++[(x,v)]).length=rd.length+1:=by simp
  have l2:f+(rd.length+1)=f+1+rd.length:=by lia
  rw[l1,l2,Qs,e,←Qs,xf];exact zp  ha xH
theorem zna(h:Ze r rd S):∀(rest:PR) (f:Nat),fQ (rd++rest) [] (f+rd.length) 0 0 [] (Yr r [])=fQ (rd++rest) [] f rd.length 0 (sn rd) S:=by
 induction h with
 |nil=>exact fun rest f=>rfl
 |snoc hp ha ih=>
  rename_i rd S r' v x;intro rest f;have e:=ih ([(x,v)]++rest) (f+1)
  have l1:(rd++[(x,v)]).length=rd.length+1:=by simp
  have l2:f+(rd.length+1)=f+1+rd.length:=by omega
  have gt:(if false=true then ([])[0]? else (rd++[(x,v)]++rest)[rd.length]?)=some _:=xH;rw[l1,l2,Qs,e,←Qs,xf,fQ,ha];dsimp only;rw[gt];rfl
theorem znb(h:Ze r rd S)(hl:rd.length<=12)(hb:∀x r',bW S≠some (true,x,r')):rX rd [] r=endOf S:=by
 have e:=zna h [] (13-rd.length)
 have l:13-rd.length+rd.length=13:=by lia
 obtain⟨f,hf⟩:∃f,13-rd.length=f+1:=⟨12-rd.length,by lia⟩;rw[PF,l] at e;unfold rX endOf;rw[e,hf,fQ]
 cases ha:bW S <;>simp_all
theorem znc(h:Ze r rd S)(hl:rd.length<=12)(hb:∀x r',bW S≠some (true,x,r')):iH rd [] r=(endOf S,rd.length):=by
 have e:=zmz h [] (13-rd.length)
 have l:13-rd.length+rd.length=13:=by omega
 obtain⟨f,hf⟩:∃f,13-rd.length=f+1:=⟨12-rd.length,by omega⟩;rw[PF,l] at e;unfold iH endOf;rw[e,hf]
 cases ha:bW S with
 |none=>exact rQ ha
 |some q=>
  obtain⟨b,x,r'⟩:=q
  cases b with
  |true=>exact absurd ha (hb x r')
  |false=>exact xk ha fun v z=>by simp_all
theorem znd(h:Ze r rd S)(hl:rd.length<=12)(hb:∀x r',bW S≠some (true,x,r')):oY rd [] r=endOf S:=by
 unfold oY
 rw[znc h hl hb]<;>simp_all
structure ZC(r:Oa)(rd:PR)(S:Oa):Prop where
 pt:Ze r rd S
 st:X6 false rd.length 20 S
 ok:YS rd
 ln:rd.length<=12
 nm:∀q∈rd,isName (.str q.1)=true
theorem ZC.no(h:ZC r rd S):∀x r',bW S≠some (true,x,r'):=by
 intro x r' z
 cases h.st <;>simp_all
theorem zne(h:YS rd):∀v∈sn rd,aA v=true:=fun v hv=>by
 obtain⟨q,hq,rfl⟩:=OF.mp hv;exact h q hq
theorem ZC.start(h:Rg false 0 20 r):ZC r [] (Yr r []):=⟨.nil,(nA h rfl (fun v hv=>by simp_all) (Oo _)).1,(fun q hq=>by simp_all),Pm _,fun q hq=>by simp_all⟩
theorem ZC.more(h:ZC r rd (Y2 false x r'))(hv:aA v=true):ZC r (rd++[(x,v)]) (Yr r' (sn rd++[v]))/\isName (.str x)=true:=by
 obtain⟨n,nm,AD,A8,rg⟩:∃n,isName (.str x)=true/\rd.length<12/\n<=20/\Rg false (rd.length+1) n r':=by
  generalize hS:Y2 _ x r'=S at h
  cases h.st with
  |md _=>cases hS
  |fl _=>cases hS
  |ask a b c d e=>
   rename_i b' x' r2 n';have:=congrArg bW hS;rw[iA,iA] at this;cases this;exact⟨n',b,c,d,e⟩
 have l1:(sn rd++[v]).length=rd.length+1:=by simp[sn]
 have l2:(rd++[(x,v)]).length=rd.length+1:=by simp
 refine⟨⟨.snoc h.pt iA,?_,?_,by lia,fun q hq=>by
  rcases OD.mp hq with z|z
  .exact h.nm q z
  .simp_all⟩,nm⟩
 .rw[l2]
  exact(nA rg l1 (pY (zne h.ok) hv) A8).1.up A8
 .intro q hq
  rcases OD.mp hq with z|z
  .exact h.ok q z
  .simp_all
noncomputable def C7:FT:=(aw (af YC (af XH (aa 6) (fC (.int 0))) (fC (.str "wants"))))
theorem wh7:bN C7 iY (m+1) ρ T=Xy (C7 ρ T) fun b T1=>if b=true then Xy (iY ρ T1) (iL (bN C7 iY m)) else some ((.nx,ρ),T1):=rfl
theorem sj:endOf (Y1 v)=Y1 v:=by unfold endOf;rw[oy]
theorem sk:endOf (Yg x)=Yg x :=rfl
theorem sm:endOf (Y2 b x r)=dS b x:=by unfold endOf;rw[iA]
theorem znf(h:X6 p g n S):bq (endOf S)=true:=by
 cases h with
 |md hv=>rw[sj];simp[Y1,bq,bS,ny hv]
 |fl _=>rw[sk];simp[Yg,bq,bS]
 |ask _ _ _ _ _=>rw[sm];simp[dS,bq,bS]
section
variable {A:Tp}{sc k r:Oa}{l:List Str}
noncomputable def HE(A:Tp)(sc k:Oa)(l:List Str)(r:Oa)(rd:PR)(S:Oa):Xw:=[some (.d sc),some (.d k),some (.d (.list (X4 l))),some (.d r),some (.tp A.length),some (.loc (.list (PL rd))),some (.d (endOf S))]
theorem zng:PL rd++[.tuple [.str x,v]]=PL (rd++[(x,v)]):=by simp[PL]
theorem yt(hr:Rg false 0 20 r)(h:ZC r rd S)(T:Tp):di iX [.d r,.loc (.list (PL rd)),.d (.list [])] T=some (.d (endOf S),T):=by
 have e:=zmy (pk:=[]) [] hr h.ok (fun q hq=>by simp_all);rw[znb h.pt h.ln h.no] at e;exact jK rfl e (znf h.st)
theorem zB(hl:ZZ l)(hr:Rg false 0 20 r):∀(f m:Nat) (rd:PR) (S:Oa) (T:Tp),ZC r rd S->13<=rd.length+f->f<=m->cV A T->∃DM S' T',bN C7 iY m (HE A sc k l r rd S) T=some ((.nx,HE A sc k l r DM S'),T')/\ZC r DM S'/\cV A T'/\bW S'=none
 |0,m,rd,S,T,h,h13,_,_=>absurd h.ln (by omega)
 |f+1,m,rd,S,T,h,h13,hm,t=>by
  obtain⟨m,rfl⟩:=aY m (by omega);rw[wh7];have hS:=h.st;generalize hg:rd.length=g at hS
  cases hS with
  |md hx=>
   rename_i v;refine⟨rd,Y1 v,T,?_,h,t,oy⟩
   have c:C7 (HE A sc k l r rd (Y1 v)) T=some (false,T):=by
    unfold HE;rw[sj];simp[C7,Y1]
   rw[c,bB,if_neg (by decide)]
  |fl hx=>
   rename_i x;refine⟨rd,Yg x,T,?_,h,t,jh⟩
   have c:C7 (HE A sc k l r rd (Yg x)) T=some (false,T):=by
    unfold HE;rw[sk];simp[C7,Yg]
   rw[c,bB,if_neg (by decide)]
  |ask hb hx B9 JW Hh=>
   rename_i b x r' n'
   have b0:b=false:=by simp_all
   subst b0
   have c:C7 (HE A sc k l r rd (Y2 false x r')) T=some (true,T):=by
    unfold HE;rw[sm];simp[C7,dS]
   obtain⟨v,T1,e1,t1,hv⟩:=wW hl t;have h2:=(h.more hv).1;have ra:=yt hr h2
   have hz:(PL rd).length<sizeLine:=by
    rw[fZ];exact Pk h.ln (by decide)
   have st:iY (HE A sc k l r rd (Y2 false x r')) T=some ((.nx,HE A sc k l r (rd++[(x,v)]) (Yr r' (sn rd++[v]))),T1):=by
    unfold HE;rw[sm];simp[iY,dS,e1,hz,zng,ra]
   rw[c,bB,if_pos rfl,st,bB,gF];exact zB hl hr f m _ _ T1 h2 (by simp;omega) (by omega) t1
theorem znh:jm (A++[x])=some (A,x):=by simp[jm]
theorem Zq{i:Nat}{fr:FS}{ρ ρ':Xw}{xs:List Oa}{DU:List Oa}{fl:Fl}{A:Tp}(h:fr (ρ.set i (some (.tp A.length))) (A++[xs])=some ((fl,ρ'),A++[DU])):nW i fr ρ (.list xs) A=some ((fl,ky A.length ρ'),A):=by
 show jP _ _=_;rw[h];unfold jP;dsimp only;rw[znh];exact if_pos rfl
@[simp] theorem K2:ot i m g fr ρ T=Xy (g ρ T) fun ws T1=>Xy (m ws T1) (nW i fr ρ):=rfl
theorem zni:gr (.list [.int 60]) (.int 12)=some (.list (il (Ov 12 60))) :=rfl
theorem znj{ns:List Int}{kk:Nat}(T:Tp)(hk:kk<=1000)(hl:ZZ l)(hr:Rg false 0 20 r):∃rd S,jC [.d (bX ns),.d (.int (kk:Int)),.d (.list (X4 l)),.d r] T=some (.tuple [.list (PL rd),endOf S],T)/\ZC r rd S/\bW S=none:=by
 obtain⟨cs,ed,hd⟩:=nT (ns:=ns) (zs:=Ov 12 60) (T:=T) hk (fun z hz=>by rw[(SM.mp hz).2];decide) (by decide)
 have cl:cs.length<=1000:=by rw[hd.1];decide
 obtain⟨rd,S,T',e,hp,⟨Zx,rfl,_⟩,ha⟩:=zB (sc:=bX ns) (k:=.int (kk:Int)) hl hr 13 100000 [] _ (T++[il cs]) (ZC.start hr) (by simp) (by simp) ⟨cs,rfl,cl⟩;have ra:=yt hr (ZC.start hr)
 have b2:uE [some (.d (bX ns)),some (.d (.int (kk:Int))),some (.d (.list (X4 l))),some (.d r),some (.tp T.length),none,none] (T++[il cs])=some ((.rt (.tuple [.list (PL rd),endOf S]),HE T (bX ns) (.int (kk:Int)) l r rd S),T++[il Zx]):=by
  have e':=e;unfold HE at e';have D8:=ra;have pn:PL []=[]:=rfl;rw[pn] at e' D8;show ak _ (ak _ (ak (bN C7 _ 100000) _)) _ _=_;simp[D8,e',HE]
 refine⟨rd,S,?_,hp,ha⟩;have oo:=Zq (i:=4)  (ρ:=[some _,some _,some _,some (.d r),none,none,none]) b2;rw[zii]
 have r6:=zni<;>simp_all
end
theorem znk:gr (.list [.int 60]) (.int 40)=some (.list (il (Ov 40 60))) :=rfl
theorem znl(hg:g ρ T=some (ws,T))(hn:eh ws=true)(h:mf (.tp T.length::ws) (T++[xs])=some (y,T++[DU])):nX mf g ρ (.list xs) T=some (.d y,T):=by
 show Xy _ _=_;rw[hg];unfold nY;simp[hn,h,so]
theorem znm:se mf mh g1 g2 ρ T=Xy (g1 ρ T) fun ws T1=>Xy (mh ws T1) (nX mf g2 ρ):=rfl
theorem znn{C:Addr}{p:Bool}{ns:List Int}{kk:Nat}{l:List Str}(T:Tp)(hk:kk<=1000)(hl:ZZ l):∃r,kM [.d (bX ns),.d (.int (kk:Int)),.d (.list (X4 l)),.d (.bool p)] T=some (r,T)/\RB C p 0 6 (rq 3) r:=by
 obtain⟨cs,ed,hd⟩:=nT (ns:=ns) (zs:=Ov 40 60) (T:=T) hk (fun z hz=>by rw[(SM.mp hz).2];decide) (by decide)
 have cl:cs.length<=1000:=by rw[hd.1];decide
 obtain⟨r,T',e,⟨Zx,rfl,_⟩,hb⟩:=m5   (A:=T) hl 3 25 0 _ ⟨cs,rfl,cl⟩ (by simp) (by decide) (by decide);refine⟨r,?_,hb⟩;have r6:=znk;have oc:=znl  (g:=(ab (aa 2) (ab (fC _) (ab (fC _) (ab (aa 3) ag))))) (ρ:=[some (.d (bX ns)),some (.d (.int (kk))),some _,some _])   rfl rfl e
 simp_all
 simp[kM,znm,r6,ed,oc]
theorem wX:∀(n k:Nat) (d:Oa) (T:Tp),aE n d=true->aH n d<=40->n<k->eL k [.d d] T=some (.str (mk (cst n d)),T)
 |n,0,d,T,h,hm,hk=>absurd hk (Qa _)
 |n,k+1,d,T,h,hm,hk=>by
  have q1:=lit (s:="'") (l:=[39]) (rfl);have q2:=lit (s:="(") (l:=[40]) (rfl);have q3:=lit (s:=")") (l:=[41]) (rfl);have q4:=lit (s:=",") (l:=[44]) (rfl)
  rcases cL h with h1|⟨m,ds,rfl,rfl,h8,hb⟩
  .rcases dF h1 with⟨i,rfl⟩|⟨x,rfl⟩
   .simp[eL,nI h1,nP]
   .have e:mk [39]++x=mk (39::cd x):=by rw[←sL x,j6,eJ];rfl
    have l:(mk [39]).length+x.length<=sizeLine:=eQ (by rw[de];have:=str_len (n:=0) h1;simp;omega);simp[eL,nM,rY,q1,l,e]
  .obtain⟨l1,l2⟩:=wQ hm hb
   have c:=gB (e:=ay (eL k) (ab (aa 0) ag)) (ρ:=[some (.d (.tuple ds))]) (T:=T) (g:=fun d=>.str (mk (cst m d))) (ds:=ds) fun d hd=>by
    have:=wX m k d T (hb d hd) (W9 (qe hd) hm) (by omega);simp[this]
   have j:=qD (z:=mk [44]) (mU (fun d=>mk (cst m d)) ds);rw[xy,xF,OW,de] at j;rw[if_pos (by simp;omega)] at j;have a1:(mk [40]).length+(mk (bg [44] (ds.map (cst m)))).length<=sizeLine:=eQ (by rw[de,de];simp;omega);have a2:(mk (40::bg [44] (ds.map (cst m)))).length+(mk [41]).length<=sizeLine:=eQ (by rw[de,de];simp;omega)
   have e1:mk [40]++mk (bg [44] (ds.map (cst m)))=mk (40::bg [44] (ds.map (cst m))):=by rw[j6];rfl
   have e2:mk (40::bg [44] (ds.map (cst m)))++mk [41]=mk (cst (m+1) (.tuple ds)):=by rw[j6];rfl
   simp[eL,yL,q2,q3,q4,c,j,a1,a2,e1,e2]
noncomputable def tS(v:Oa):Str:=mk (cst 4 v)
theorem qX(h:aA v=true)(T:Tp):eL 25 [.d v] T=some (.str (tS v),T):=wX 4 25 v T (cW h).1 (cW h).2 (by simp)
theorem zno(h:aA v=true)(T:Tp):fm 25 [.d v] T=some (.str (tS v),T):=rE 4 25 v T (cW h).1 (cW h).2 (by simp)
noncomputable def XG(rd:PR):List PyData:=rd.map fun q=>.tuple [.str q.1,.str (tS q.2)]
inductive Yh:Oa->Oa->Prop where
 |md {v:Oa}:aA v=true->Yh (Y1 v) (.tuple [.str "made",.str (tS v)])
 |fl {x:Str}:isName (.str x)=true->Yh (Yg x) (Yg x)
theorem ended(h:ZC r rd S)(ha:bW S=none):∃E,Yh S E/\endOf S=S:=by
 cases h.st with
 |md hv=>exact⟨_,.md hv,sj⟩
 |fl hx=>exact⟨_,.fl hx,sk⟩
 |ask _ _ _ _ _=>simp_all
theorem zN{ρ:Xw}{T:Tp}:∀{rd:PR},YS rd->gf bT (aB .tuple (ab (aa 0) (ab (ay (eL 25) (ab (aa 1) ag)) ag))) ρ (PL rd) T=some (XG rd,T)
 |[],_=>rfl
 |(x,v)::r,h=>by
  have ih:=zN (ρ:=ρ) (T:=T)  fun q hq=>h q (Of _ hq);have e:=qX (h _ Oh) T;show gf _ _ ρ (.tuple [.str x,v]::PL r) T=_;unfold gf;simp[e,ih,XG]
theorem znp(T:Tp)(hx:RX C 0 n c ws r)(hn:n<=20)(ho:YS rd)(hE:Yh S E):iV [.d r,.d (.tuple [.list (PL rd),S])] T=some (.tuple [.str (OM BL ws),.tuple (XG rd),E],T):=by
 have sh:=zkq hx hn;have cr:=fun ρ=>zN (ρ:=ρ) (T:=T) ho
 cases hE with
 |md hv=>
  have st:=qX hv;simp[iV,Y1,st,sh,ou,cr]
 |fl Gw=>
  simp[iV,Yg,sh,ou,cr]
theorem k2:bM [a,b] (some 2) none=[]:=rfl
theorem k3:bM [a,b,c] (some 2) none=[c]:=rfl
theorem k4:bM [a,b,c,d] (some 2) none=[c,d]:=rfl
theorem znq(h:Rg false g n r):∀(k:Nat) (T:Tp),n<k->hZ k [.d r] T=some (.bool true,T):=by
 induction h with
 |fail _=>
  intro k T hk;obtain⟨k,rfl⟩:=aY k (by omega);simp[hZ,k2,bL];rfl
 |say _=>
  intro k T hk;obtain⟨k,rfl⟩:=aY k (by omega);simp[hZ,k2,bL];rfl
 |ask hw _ _ _ ih=>
  intro k T hk;obtain⟨k,rfl⟩:=aY k (by omega);have e:=ih k T (by omega)
  rcases hw with rfl|⟨_,z⟩
  .simp[hZ,k3,bL,e]
   rfl
  .cases z
 |whn _ _ _ Jp Kg=>
  intro k T hk;obtain⟨k,rfl⟩:=aY k (by omega);have e1:=Jp k T (by omega);have e2:=Kg k T (by omega);simp[hZ,k4,bL,e1,e2,iG];rfl
theorem yS(ha:O8 a=true)(hb:O8 b=true):Zd (.tuple [.str a,.str b]) (.tuple [.str a,.str b])=some (.bool true):=by
 have h:OP (.tuple [.str a,.str b])=true:=by simp[OP,PQ,Pi,QM,PU,ha,hb]
 unfold Zd;rw[if_pos ⟨h,h⟩];simp[OL,OY]
theorem wj(h:∀c∈cd x,c<128):O8 x=true:=by
 unfold O8;rw[←VP,Ou];intro c hc;have:=h c hc
 grind
theorem lX(h:aA v=true):O8 (tS v)=true:=wj fun c hc=>((vT h).1 c hc).1
theorem znr(h:aA v=true):f6 v .none=some (.bool true):=by cases v <;> first|rfl|exact absurd h (by decide)
theorem yn(h:aA v=true)(T:Tp):jI [.d (.str (tS v))] T=some (.bool true,T):=by
 have e:=fun T=>lV  T h;have hi:bR .str .str=true:=rfl;have n:=znr h;show jI [.d (.str (mk _))] T=_;simp[jI,e,n]
theorem zA(h:isName (.str x)=true)(T:Tp):eM [.d (.str x)] T=some (.bool true,T):=by rw[nv T (gE h),h]
theorem zns(hx:isName (.str x)=true)(hv:aA v=true)(T:Tp):k8 [.d (.tuple [.str x,.str (tS v)])] T=some (.bool true,T):=by
 have a:=zA hx;have b:=yn hv;have hi:bR .tup .tup=true:=rfl;simp[k8,a,b]
theorem znt(hl:rd.length<=12)(ho:YS rd)(hn:∀q∈rd,isName (.str q.1)=true)(T:Tp):mM [.d (.tuple (XG rd))] T=some (.bool true,T):=by
 have l:(XG rd).length=rd.length:=by simp[XG]
 have l2:¬12<(rd.length:Int):=by lia
 have hi:bR .tup .tup=true:=rfl
 have c:=gB (e:=ay k8 (ab (aa 0) ag)) (ρ:=[some (.d (.tuple (XG rd)))]) (T:=T) (g:=fun _=>.bool true) (ds:=XG rd) fun d hd=>by
  obtain⟨q,hq,rfl⟩:=OF.mp hd
  have:=zns (hn q hq) (ho q hq) T<;>simp_all
 have al:gZ [.list ((XG rd).map fun _=>.bool true)]=some (.bool true):=by simp
 simp[mM,l,l2,c,al]
theorem znu(h:Yh S E)(T:Tp):lg [.d E] T=some (.bool true,T):=by
 have hi:bR .tup .tup=true:=rfl;have hs:bR .str .str=true:=rfl
 cases h with
 |md hv=>
  have b:=yn hv;simp[lg,b]
 |fl hx=>
  have a:=zA hx;have i6:inD (.str "fails") (.tuple [.str "fails",.str "wants"])=some (.bool true):=rfl;simp[lg,Yg,a,i6]
theorem zM{ρ:Xw}{T:Tp}:∀{rd:PR},YS rd->bL bT (aB .tuple (ab (af XH (aa 0) (fC (.int 0))) (ab (ay ic (ab (af XH (aa 0) (fC (.int 1))) ag)) ag))) ρ (XG rd) T=some (PL rd,T)
 |[],_=>rfl
 |(x,v)::r,h=>by
  have ih:=zM (ρ:=ρ) (T:=T)  fun q hq=>h q (Of _ hq);have e:ic [.d (.str (tS v))] T=some _:=lV T (h _ Oh);show bL _ _ ρ (.tuple [.str x,.str (tS v)]::XG r) T=_;unfold bL;simp[e,ih,PL]
theorem znv(hr:Rg false 0 20 r)(h:ZC r rd S)(hE:Yh S E)(he:endOf S=S)(T:Tp):kZ [.d r,.d (.tuple (XG rd)),.d E] T=some (.bool true,T):=by
 have cv:=fun ρ=>zM (ρ:=ρ) (T:=T) h.ok
 have rp:jL [.d r,.d (.list (PL rd)),.d (.list [])] T=some (S,T):=by
  have e:=zlr (pk:=[]) T hr h.ok (fun q hq=>by simp_all);rw[znd h.pt h.ln h.no,he] at e;exact e
 cases hE with
 |md hv=>
  have st:=zno hv;have q:Zd (.tuple [.str "made",.str _]) _=some _:=yS (by decide +kernel) (lX hv);unfold Y1 at rp;simp[kZ,cv,rp,st,q]
 |fl hx=>
  have q:=yS (a:=Ob "fails") (by decide +kernel) (gE hx).ok;unfold Yg at rp ⊢;simp[kZ,cv,rp,q]
theorem znw(h:Rg p g n r):f6 r .none=some (.bool true):=by cases h <;> rfl
theorem znx(hx:RX C 0 n c ws r)(hn:n<=20)(hr:Rg false 0 20 r)(h:ZC r rd S)(hE:Yh S E)(he:endOf S=S):mO C [.d (.tuple [.str (OM BL ws),.tuple (XG rd),E])] []=some (.bool true,[]):=by
 have a1:=znt h.ln h.ok h.nm;have a2:=znu hE
 have a3:mH C [.d (.str (OM BL ws))] []=some (r,[]):=by
  have:=sy (t0:=[]) hx hn;simp[mH,this]
 have a4:=fun T=>znq hr 25 T (by simp);have a5:=znv hr h hE he;have a6:=znw hr;have hi:bR .tup .tup=true:=rfl;have hs:bR .str .str=true:=rfl
 have e0:∃w x,E=.tuple [.str (Ob w),.str x]/\¬w="wants":=by
  cases hE with
  |md _=>exact⟨"made",_,rfl,by decide⟩
  |fl _=>exact⟨"fails",_,rfl,by decide⟩
 obtain⟨w,x,rfl,nw⟩:=e0;have z0:∀a b c:Oa,XR [a,b,c] 0=some a:=fun _ _ _=>rfl;have z1:∀a b c:Oa,XR [a,b,c] 1=some b:=fun _ _ _=>rfl;have z2:∀a b c:Oa,XR [a,b,c] 2=some c:=fun _ _ _=>rfl;simp[mO,a1,a2,nw,a3,a6,a4,a5]
structure En(C:Addr)(ws:List Str)(r:Oa)(rd:PR)(S E:Oa):Prop where
 rx:∃n c,RX C 0 n c ws r/\n<=20
 rg:Rg false 0 20 r
 pw:ZC r rd S
 en:Yh S E
 eo:endOf S=S
noncomputable def EM(ws:List Str)(rd:PR)(E:Oa):PyData:=.tuple [.str (OM BL ws),.tuple (XG rd),E]
def Zb(C:Addr)(d:Oa):Prop:=∃ws r rd S E,En C ws r rd S E/\d=EM ws rd E
theorem Zb.true(h:Zb C d):mO C [.d d] []=some (.bool true,[]):=by
 obtain⟨ws,r,rd,S,E,h,rfl⟩:=h;obtain⟨n,c,hx,hn⟩:=h.rx;exact znx hx hn h.rg h.pw h.en h.eo
theorem zny{C:Addr}{ns:List Int}{kk:Nat}{l:List Str}{r:Oa}(T:Tp)(hk:kk<=1000)(hl:ZZ l)(hb:RB C false 0 6 (rq 3) r):∃x d,jC [.d (bX ns),.d (.int (kk:Int)),.d (.list (X4 l)),.d r] T=some (x,T)/\iV [.d r,.d x] T=some (d,T)/\Zb C d:=by
 obtain⟨⟨c,ws,hx,_⟩,hr⟩:=hb;have Hh:=zq hr 20 (by decide);obtain⟨rd,S,e1,hp,ha⟩:=znj  T hk hl Hh;obtain⟨E,hE,he⟩:=ended hp ha;rw[he] at e1;exact⟨_,_,e1,znp T hx (by decide) hp.ok hE,ws,r,rd,S,E,⟨⟨_,_,hx,by decide⟩,Hh,hp,hE,he⟩,rfl⟩
theorem znz(ls:List (List Nat))(h:c∈bg [32] ls):c=32\/∃l∈ls,c∈l:=by
 cases ls with
 |nil=>cases h
 |cons x r=>
  rw[ll] at h
  rcases OD.mp h with z|z
  .exact .inr ⟨x,Oh,z⟩
  .grind
theorem xt(h:∀w∈ws,N3 (cd w)):O8 (OM BL ws)=true:=wj fun c hc=>by
 rw[jQ] at hc
 rcases znz _ hc with rfl|⟨l,hl,hc⟩
 .decide
 .obtain⟨w,hw,rfl⟩:=OF.mp hl
  exact(h w hw c hc).1
theorem rc:∀{rd:PR},YS rd->(∀q∈rd,isName (.str q.1)=true)->Pi (XG rd)=true/\PU (XG rd)<=5
 |[],_,_=>by simp[XG,Pi,PU]
 |(x,v)::r,h,hn=>by
  obtain⟨i1,i2⟩:=rc  (fun q hq=>h q (Of _ hq)) fun q hq=>hn q (Of _ hq);have a:=(gE (hn _ Oh)).ok;have b:=lX (h _ Oh);have e:XG ((x,v)::r)=.tuple [.str x,.str _]::XG r:=rfl;rw[e];simp[Pi,PQ,PU,QM,i1,a,b]
  lia
theorem uT(h:Zb C d):OP d=true:=by
 obtain⟨ws,r,rd,S,E,h,rfl⟩:=h;obtain⟨n,c,hx,hn⟩:=h.rx;have a:=xt fun w hw=>(hx.ok w hw).1;obtain⟨b1,b2⟩:=rc h.pw.ok h.pw.nm
 have e0:∃w x,E=.tuple [.str w,.str x]/\O8 w=true/\O8 x=true:=by
  cases h.en with
  |md hv=>exact⟨_,_,rfl,by decide +kernel,lX hv⟩
  |fl hx=>exact⟨_,_,rfl,by decide +kernel,(gE hx).ok⟩
 obtain⟨w,x,rfl,o1,o2⟩:=e0;simp[EM,OP,Pi,PQ,PU,QM,a,b1,o1,o2]
 lia
theorem rj:∀(a b:PR),OY (XG a) (XG b)=true↔XG a=XG b
 |[],[]=>by simp[XG,OY]
 |[],q::b=>by simp[XG,OY]
 |q::a,[]=>by simp[XG,OY]
 |(x,v)::a,(y,u)::b=>by
  have ih:=rj a b;show OY (.tuple [.str x,.str (tS v)]::XG a) (.tuple [.str y,.str (tS u)]::XG b)=true↔Rj [.str x,.str (tS v)]::XG a=.tuple [.str y,.str (tS u)]::XG b;simp[OY,OL,ih]
theorem zoa(h:Zb C d):OL d d=true:=by
 obtain⟨ws,r,rd,S,E,h,rfl⟩:=h
 have e0:∃w x,E=.tuple [.str w,.str x]:=by
  cases h.en with
  |md hv=>exact⟨_,_,rfl⟩
  |fl hx=>exact⟨_,_,rfl⟩
 obtain⟨w,x,rfl⟩:=e0;simp[EM,OL,OY,(rj rd rd).mpr rfl]
section
variable {C:Addr}{ns:List Int}{l:List Str}{T:Tp}
noncomputable def Dg(ns:List Int)(l:List Str)(ds:List Oa)(o3 o4 o5 o6:Option D.W):Xw:=[some (.d (bX ns)),some (.d (.list (X4 l))),some (.loc (.list ds)),o3,o4,o5,o6]
def jz(C:Addr)(ds:List Oa):Prop:=(∀d∈ds,Zb C d)/\ds.Nodup
theorem en1{ds:List Oa}{r:Oa}{i j:Nat}{o6:Option D.W}(hl:ZZ l)(hb:RB C false 0 6 (rq 3) r)(hi:i<=10)(hj:j<=10)(hd:jz C ds)(hn:ds.length<=100):∃Jy DB,kR (Dg ns l ds (some (.d (.int (i:Int)))) (some (.d r)) (some (.d (.int (j:Int)))) o6) T=some ((.nx,Dg ns l Jy (some (.d (.int (i:Int)))) (some (.d r)) (some (.d (.int (j:Int)))) DB),T)/\jz C Jy/\Jy.length<=ds.length+1:=by
 obtain⟨x,d,e1,e2,hE⟩:=zny (C:=C) (ns:=ns) (kk:=20+3*i+j) T (by lia) hl hb
 have ki:((20+3*i+j:Nat):Int)=20+3*(i:Int)+(j:Int):=by lia
 rw[ki] at e1;have hz:ds.length<sizeLine:=Pk hn (by decide);have sh:ds.all OP=true:=Ou.mpr fun y hy=>uT (hd.1 y hy)
 have q:Zk mD T (.d d) (.loc (.list ds))=Zv T (some (.bool (!ds.any fun y=>OL y d))):=by
  show Zv T (if OP d=true/\ds.all OP=true then some (.bool (!ds.any fun y=>OL y d)) else none)=_;rw[if_pos ⟨uT hE,sh⟩]
 cases hc:ds.any fun y=>OL y d with
 |true=>
  rw[hc] at q;refine⟨ds,some (.d d),?_,hd,by lia⟩;simp[kR,Dg,e1,e2,q]
 |false=>
  rw[hc] at q
  have nm:d∉ds:=fun z=>by
   have YK:(ds.any fun y=>OL y d)=true:=Tu.mpr ⟨d,z,zoa hE⟩;rw[hc] at YK;cases YK
  refine⟨ds++[d],some (.d d),?_,⟨fun y hy=>?_,Qq.mpr ⟨hd.2,by simp,fun a ha b hb z=>nm (by simp_all)⟩⟩,by simp⟩
  .simp[kR,Dg,e1,e2,q,hz]
  .rcases OD.mp hy with z|z
   .exact hd.1 y z
   .simp_all
theorem AW{r:Oa}{i:Nat}(hl:ZZ l)(hb:RB C false 0 6 (rq 3) r)(hi:i<=10):∀(js:List Nat) (ds:List Oa) (o5 o6:Option D.W),(∀j∈js,j<=10)->jz C ds->ds.length+js.length<=100->∃Jy GB DB,forL 5 kR (js.map fun(j:Nat)=>RZ (j:Int)) (Dg ns l ds (some (.d (.int (i:Int)))) (some (.d r)) o5 o6) T=some ((.nx,Dg ns l Jy (some (.d (.int (i:Int)))) (some (.d r)) GB DB),T)/\jz C Jy/\Jy.length<=ds.length+js.length
 |[],ds,o5,o6,_,hd,_=>⟨ds,o5,o6,rfl,hd,by simp⟩
 |j::js,ds,o5,o6,hj,hd,hn=>by
  simp  at hn;obtain⟨d1,p6,e1,a1,l1⟩:=en1    hl hb hi (hj j Oh) hd (by lia);obtain⟨d2,p5,q6,e2,a2,l2⟩:=AW hl hb hi js d1 _ p6 (fun x hx=>hj x (Of _ hx)) a1 (by lia);refine⟨d2,p5,q6,?_,a2,by grind⟩;exact(fw e1).trans e2
theorem Ki{ds:List Oa}{i:Nat}{o4 o5 o6:Option D.W}(hl:ZZ l)(hi:i<=10)(hd:jz C ds)(hn:ds.length<=50):∃Jy Fz GB DB,pI (Dg ns l ds (some (.d (.int (i:Int)))) o4 o5 o6) T=some ((.nx,Dg ns l Jy (some (.d (.int (i:Int)))) Fz GB DB),T)/\jz C Jy/\Jy.length<=ds.length+3:=by
 obtain⟨r,e,hb⟩:=znn   (ns:=ns) (kk:=10+i) T (by lia) hl
 have ki:((10+i:Nat):Int)=10+(i):=by lia
 rw[ki] at e;obtain⟨d2,p5,q6,e2,a2,l2⟩:=AW (ns:=ns)  hl hb hi [0,1,2] ds o5 o6 (by decide) hd (by simp;lia);refine⟨d2,some (.d r),p5,q6,?_,a2,by omega⟩;have Bn:forL 5 _ (dy 0 3) _ T=_:=e2;unfold Dg at Bn;have ro:iC 3=true:=rfl;simp[pI,Dg,e,ro,Bn]
theorem zob(hl:ZZ l):∃ds,pC [.d (bX ns),.d (.list (X4 l))] T=some (.list ds,T)/\jz C ds/\ds.length<=9:=by
 obtain⟨d1,a4,a5,a6,e1,h1,l1⟩:=Ki    (i:=0)    hl (by lia)  ⟨fun d hd=>(by simp_all),SK⟩ (by simp);obtain⟨d2,b4,b5,b6,e2,h2,l2⟩:=Ki   (T:=T) (i:=1)    hl (by lia) h1 (by simp at l1;lia);obtain⟨d3,c4,c5,c6,e3,h3,l3⟩:=Ki (C:=C)   (i:=2)    hl (by lia) h2 (by grind);refine⟨d3,?_,h3,by grind⟩
 have lp:forL 3 _ (dy 0 3) (Dg ns l [] none none none none) T=some _:=
  (fw e1).trans ((fw e2).trans ((fw e3).trans rfl))
 unfold Dg at lp;have ro:iC 3=true:=rfl
 rw[zij]<;>simp_all
end
theorem Ze.back(h:Ze r ru S):∀{rd:PR}{x:Str}{v:Oa},ru=rd++[(x,v)]->∃S0 r',Ze r rd S0/\bW S0=some (false,x,r')/\S=Yr r' (sn rd++[v]):=by
 cases h with
 |nil=>
  simp_all
 |snoc hp ha=>
  intro rd x v e;obtain⟨rfl,e2⟩:=List.append_inj' e rfl;cases e2;exact⟨_,_,hp,ha,rfl⟩
theorem Ze.one(h:Ze r rd S):∀{S':Oa},Ze r rd S'->S=S':=by
 induction h with
 |nil=>
  intro S' h';generalize e:([])=q at h'
  cases h' <;>simp_all
 |snoc hp ha ih=>
  intro S' h'
  obtain⟨S0,r1,hp',FM,rfl⟩:=h'.back rfl<;>grind
theorem Ze.asks:∀(n:Nat) (more:PR) {S:Oa},more.length=n->Ze r (rd++(x,v)::more) S->∃S0 r',Ze r rd S0/\bW S0=some (false,x,r')
 |0,more,S,hn,h=>by
  cases List.eq_nil_of_length_eq_zero hn;obtain⟨S0,r',a,b,_⟩:=h.back rfl;exact⟨S0,r',a,b⟩
 |n+1,more,S,hn,h=>by
  rcases RU more with rfl|⟨m',q,rfl⟩
  .cases hn
  .obtain⟨y,u⟩:=q
   obtain⟨S0,r',a,_,_⟩:=h.back (rd:=rd++(x,v)::m') (x:=y) (v:=u) (by simp);exact Ze.asks n m' (by simpa using hn) a
theorem zoc(hv:aA v=true)(hu:aA u=true)(h:tS v=tS u):v=u:=by
 have a:=lV  [] hv;have b:=lV  [] hu
 have h':mk _=mk _:=h<;>simp_all
theorem qQ:∀{rd ru:PR},YS rd->YS ru->XG rd=XG ru->rd=ru
 |[],[],_,_,_=>rfl
 |[],_::_,_,_,h=>by cases h
 |_::_,[],_,_,h=>by cases h
 |(x,v)::r,(y,u)::s,h1,h2,h=>by
  have e:Rj [.str x,.str (tS v)]::XG r=.tuple [.str y,.str (tS u)]::XG s:=h;simp  at e;obtain⟨⟨rfl,e2⟩,e3⟩:=e;have ev:v=u:=zoc (h1 _ Oh) (h2 _ Oh) e2;rw[ev,qQ (fun q hq=>h1 q (Of _ hq)) (fun q hq=>h2 q (Of _ hq)) e3]
theorem En.same_r(h:En C ws r rd S E)(h':En C Bq r' DM S' E')(ht:OM BL ws=OM BL Bq):r=r':=by
 obtain⟨n,c,hx,hn⟩:=h.rx;obtain⟨n',c',Gw,JW⟩:=h'.rx;have a:=sy (t0:=[]) hx hn
 have b:=sy (t0:=[]) Gw JW<;>simp_all
theorem Yh.no(h:Yh S E):bW S=none:=by cases h <;>simp_all
theorem Yh.one(h:Yh S E)(h':Yh S E'):E=E':=by
 cases h with
 |md _=>
  generalize e:Y1 _=S at h'
  cases h' with
  |md _=>cases e;rfl
  |fl _=>exact absurd e (by simp[Y1,Yg])
 |fl _=>
  generalize e:Yg _=S at h'
  cases h' with
  |md _=>exact absurd e (by simp[Y1,Yg])
  |fl _=>rfl
theorem En.end_one(h:En C ws r rd S E)(h':En C Bq r' rd S' E')(ht:OM BL ws=OM BL Bq):E=E':=by
 cases h.same_r h' ht;cases h.pw.pt.one h'.pw.pt;exact h.en.one h'.en
theorem En.no_more(h:En C ws r rd S E)(h':En C Bq r' (rd++q::more) S' E')(ht:OM BL ws=OM BL Bq):False:=by
 cases h.same_r h' ht;obtain⟨S0,r1,a,b⟩:=Ze.asks _ more rfl h'.pw.pt;cases h.pw.pt.one a;rw[h.en.no] at b;cases b
theorem ua(h:YS a)(hn:∀q∈a,isName (.str q.1)=true):OP (.tuple (XG a))=true:=by
 obtain⟨b1,b2⟩:=rc h hn;simp[OP,PQ,QM,b1]
 lia
open Classical in
theorem yT(ha:YS a)(na:∀q∈a,isName (.str q.1)=true)(hb:YS b)(nb:∀q∈b,isName (.str q.1)=true):Zd (.tuple (XG a)) (.tuple (XG b))=some (.bool (decide (a=b))):=by
 unfold Zd;rw[if_pos ⟨ua ha na,ua hb nb⟩];have e:OL (.tuple (XG a)) (.tuple (XG b))=OY (XG a) (XG b):=rfl;rw[e];have i:=rj a b
 by_cases c:a=b
 .rw[decide_eq_true c,i.mpr (by rw[c])]
 .rw[decide_eq_false c]
  cases z:OY _ _ with
  |false=>rfl
  |true=>exact absurd (qQ ha hb (i.mp z)) c
theorem lE{α:Type}(xs:List α)(a:Nat):bM xs none (some (a:Int))=xs.take a:=by
 have e:HT.XT xs.length 0 none=0:=rfl;have e2:HT.XT xs.length xs.length (some (a))=min a xs.length:=rfl
 unfold bM<;>simp_all
abbrev TE:=Str×PR×Oa
noncomputable def XJ(e:TE):PyData:=.tuple [.str e.1,.tuple (XG e.2.1),e.2.2]
def YD(a:PR):Prop:=YS a/\∀q∈a,isName (.str q.1)=true
theorem YD.take(h:YD a)(n:Nat):YD (a.take n):=⟨fun q hq=>h.1 q (Rh hq),fun q hq=>h.2 q (Rh hq)⟩
open Classical in
noncomputable def bE(t:Str)(q:PR):List TE->Oa->Oa
 |[],a=>a
 | e::es,a=>if e.1=t/\e.2.1=q then e.2.2 else if e.1=t/\e.2.1.take q.length=q then bE t q es (match e.2.1[q.length]? with
  |some p=>.str p.1
  | none=>.none) else bE t q es a
theorem m8:(XG a).take n=XG (a.take n):=by simp[XG]
theorem xn{a:PR}{n:Nat}{x:Str}{v:Oa}(h:a[n]? = some (x,v)):XR (XG a) (n:Int)=some (.tuple [.str x,.str (tS v)]):=by
 refine eV ?_;unfold XG;simp[h]
theorem wI{t:Str}{q:PR}(hq:YD q){X:Oa}{T:Tp}:∀(es:List TE) (a:Oa) (o4:Option D.W),(∀e∈es,YD e.2.1) ->
  cO (Xy (forL 4 i8 (es.map XJ) [some (.d X),some (.d (.str t)),some (.d (.tuple (XG q))),some (.d a),o4] T) (fO (aq (aa 3))))=some (bE t q es a,T)
 |[],a,o4,_=>rfl
 |(x,rd,E)::es,a,o4,h=>by
  classical
  have hr:YD rd:=h (x,rd,E) Oh;have e1:=yT hr.1 hr.2 hq.1 hq.2;have e2:=yT (hr.take q.length).1 (hr.take q.length).2 hq.1 hq.2
  have l1:(XG q).length=q.length:=by simp[XG]
  have z0:∀a b c:Oa,XR [a,b,c] 0=some a:=fun _ _ _=>rfl;have z1:∀a b c:Oa,XR [a,b,c] 1=some b:=fun _ _ _=>rfl;have z2:∀a b c:Oa,XR [a,b,c] 2=some c:=fun _ _ _=>rfl;have ih:=fun a o4=>wI (t:=t) hq (X:=X) (T:=T) es a o4 fun e he=>h e (Of _ he);rw[OU,zli];show cO (Xy (Xy (i8 [some (.d X),some (.d (.str t)),some (.d (.tuple (XG q))),some (.d a),some (.d (XJ (x,rd,E)))] T) _) _)=_
  by_cases ct:x=t
  .by_cases c1:rd=q
   .rw[decide_eq_true c1] at e1
    have d:bE t q ((x,rd,E)::es) a=E:=if_pos ⟨ct,c1⟩;rw[d];simp[i8,XJ,z0,z1,z2,ct,e1,jR]
   .rw[decide_eq_false c1] at e1
    by_cases c2:rd.take q.length=q
    .rw[decide_eq_true c2] at e2
     have hl:q.length<rd.length:=by
      apply Nat.lt_of_not_le;intro z;rw[OZ z] at c2;exact c1 c2
     have hg:rd[q.length]? = some rd[q.length]:=OX hl;have Y0:=xn hg
     have d:bE t q ((x,rd,E)::es) a=bE t q es (.str rd[q.length].1):=by
      rw[bE,if_neg (fun z=>c1 z.2),if_pos ⟨ct,c2⟩];dsimp only;rw[hg]
     rw[d,←ih _ (some (.d (XJ (x,rd,E))))];simp[i8,XJ,z0,z1,z2,ct,e1,e2,lE,m8,l1,Y0,gF]
    .rw[decide_eq_false c2] at e2
     have d:bE t q ((x,rd,E)::es) a=bE t q es a:=by
      rw[bE,if_neg (fun z=>c1 z.2),if_neg (fun z=>c2 z.2)]
     rw[d,←ih _ (some (.d (XJ (x,rd,E))))];simp[i8,XJ,z0,z1,z2,ct,e1,e2,lE,m8,l1,gF]
  .have d:bE t q ((x,rd,E)::es) a=bE t q es a:=by
    rw[bE,if_neg (fun z=>ct z.1),if_neg (fun z=>ct z.1)]
   rw[d,←ih _ (some (.d (XJ (x,rd,E))))];simp[i8,XJ,z0,ct,gF]
theorem zod(hq:YD q)(h:∀e∈es,YD e.2.1)(T:Tp):pR [.d (.list (es.map XJ)),.d (.str t),.d (.tuple (XG q))] T=some (bE t q es .none,T):=by
 have lp:=wI hq (t:=t) (X:=.list (es.map XJ)) (T:=T) es .none none h
 rw[zik]<;>simp_all
theorem wN{α:Type}(xs:List α)(a b:Nat)(h:a<=xs.length)(h2:b<=xs.length):bM xs (some (a:Int)) (some (b:Int))=(xs.drop a).take (b-a):=by
 have e1:HT.XT xs.length 0 (some (a))=a:=by
  show (if (a:Int)<0 then ((a:Int)+(xs.length)).toNat else min _ _)=_<;>grind
 have e2:HT.XT xs.length xs.length (some (b))=b:=by
  show (if (b:Int)<0 then ((b)+(xs.length:Int)).toNat else min _ _)=_<;>grind
 unfold bM;rw[e1,e2]
theorem yN(xs:List Int)(a b:Nat):((il xs).drop a).take b=il ((xs.drop a).take b):=by simp[il]
noncomputable def Gj:List Str:=["told","made","want","say","a","b","wants","fails","got","when","put","ab"].map Ob
theorem zoe:∀x∈Gj,isName (.str x)=true:=by
 have h:Gj.all (fun x=>isName (.str x))=true:=rfl;exact fun x hx=>Ou.mp h x hx
theorem xx(h1:1<=x.length)(h8:x.length<=8)(h:has YH x=true):isName (.str x)=true:=by show (decide _&&decide _&&has YH x)=true<;>simp_all
theorem zof(h:isName (.str x)=true):1<=x.length/\x.length<=8/\has YH x=true:=by have h':(decide _&&decide _&&has YH x)=true:=h<;>simp_all
theorem yb{i:Int}(h0:0<=i)(h1:i<26):∃c,c∈YH.cps.toList/\XH (.str YH) (.int i)=some (.str ⟨#[c]⟩):=by
 obtain⟨c,e,hm⟩:=gN  h0 (by rw[zin];exact h1);refine⟨c,hm,?_⟩;rw[HX,e];rfl
theorem vC{ρ:Xw}{T:Tp}(hv:aa 3 ρ T=some (.d (.str YH),T)):∀(xs:List Int),(∀x∈xs,0<=x/\x<26)->∃ys,bL bT (af XH (aa 4) (aa 0)) ρ (il xs) T=some (ys,T)/\ys.length=xs.length/\∀d∈ys,∃c,c∈YH.cps.toList/\d=.str ⟨#[c]⟩
 |[],_=>⟨[],rfl,rfl,fun d hd=>by simp_all⟩
 |x::xs,h=>by
  obtain⟨ys,e,hl,hy⟩:=vC hv xs fun y hy=>h y (Of _ hy);obtain⟨c,hc,ec⟩:=yb (h x Oh).1 (h x Oh).2;refine⟨.str ⟨#[c]⟩::ys,?_,by simp[hl],fun d hd=>?_⟩
  .unfold il at e ⊢
   simp[bL,hv,ec,e]
  .rcases Ox.mp hd with rfl|hd
   .exact⟨c,hc,rfl⟩
   .exact hy d hd
structure BZ(p:List Int):Prop where
 ln:p.length=9
 p0:∃c,p[0]? = some c/\0<=c/\c<8
 p1:∀i,1<=i->i<9->∃c,p[i]? = some c/\0<=c/\c<26
theorem rZ(w:Str)(xs:List Str):inD (.str w) (.list (X4 xs))=some (.bool (decide (w∈xs))):=by
 have h:(xs.map PM).all dA=true:=by simp[dA]
 show (if dA _&&(xs.map _).all _ then some ((xs.map _).any fun y=>ZY y _) else none).map _=_;simp[dA,ZY]
 induction xs with
 |nil=>simp
 |cons a r ih=>
  have ih':=ih (by simp[dA])
  simp_all
  by_cases e:w=a
  .simp_all
  .have e':¬a=w:=fun z=>e z.symm<;>simp_all
theorem zog(w:Str)(xs:List Str):eX (.str w) (.list (X4 xs))=some (.bool (!decide (w∈xs))):=by
 have h:=rZ w xs;unfold inD at h
 unfold eX<;>simp_all
theorem yI{α:Type}[DecidableEq α]:∀{L N:List α},L.Nodup->N.length<L.length->∃x∈L,x∉N
 |[],N,_,h=>absurd h (by simp)
 |a::L,N,nd,h=>by
  rw[Q6] at nd
  by_cases ha:a∈N
  .have hp:(N.erase a).length<L.length:=by grind
   obtain⟨x,hx,nx⟩:=yI nd.2 hp;refine⟨x,Of _ hx,fun z=>nx ?_⟩;exact(List.mem_erase_of_ne (fun(q:x=a)=>nd.1 (q ▸ hx))).mpr z
  .exact⟨a,Oh,ha⟩
noncomputable def Fj:List Str:=["u","v","w","x","y","z"].map Ob
theorem zoh:D.signs "uvwxyz"=X4 Fj :=rfl
theorem zoi:Fj.Nodup:=by decide +kernel
theorem zoj:∀x∈Fj,isName (.str x)=true:=by
 have h:Fj.all (fun x=>isName (.str x))=true:=rfl;exact fun x hx=>Ou.mp h x hx
theorem zok(h:l.length<6)(ρ:Xw)(T:Tp)(hv:∀d,aa 7 (some (.d d)::ρ) T=some (.loc (.list (X4 l)),T)) :
  ∃x ys,isName (.str x)=true/\bL (aw (af eX (aa 0) (aa 7))) (aa 0) ρ (D.signs "uvwxyz") T=some (.str x::ys,T):=by
 have c:bL (aw (af eX (aa 0) (aa 7))) _ ρ _ T=some ((X4 Fj).filter (fun d=>match d with | .str x=>!decide (x∈l)|_=>false),T):=tQ fun d hd=>by
  obtain⟨x,hx,rfl⟩:=OF.mp hd;have:Zk eX T (.d (.str x)) (.loc (.list (X4 l)))=Zv T _:=rfl;simp[hv,this,zog]
 rw[zoh,c];obtain⟨x,hx,nx⟩:=yI  zoi h
 have hm:PM x∈(X4 Fj).filter (fun d=>match d with | .str x=>!decide (x∈l)|_=>false):=by
  rw[Qu];exact⟨OF.mpr ⟨x,hx,rfl⟩,by simp[nx]⟩
 cases hf:(X4 Fj).filter _ with
 |nil=>simp_all
 |cons d r=>
  have hd:d∈(X4 Fj).filter (fun d=>match d with | .str x=>!decide (x∈l)|_=>false):=by simp_all
  rw[Qu] at hd;obtain⟨y,hy,rfl⟩:=OF.mp hd.1;exact⟨y,r,zoj y hy,rfl⟩
noncomputable def Fx:List Int:=5::([8,26,26,26,26,26,26,26,26]++[8,26,26,26,26,26,26,26,26]++[8,26,26,26,26,26,26,26,26]++[8,26,26,26,26,26,26,26,26])
theorem zh:∀j,j<4->∀i,i<9->Fx[1+9*j+i]? = some (if i=0 then 8 else 26):=by decide
theorem part6(h:Zz Fx cs)(hj:j<4):BZ ((cs.drop (1+9*j)).take 9):=by
 have hl:cs.length=37:=h.1;refine⟨by simp;lia,?_,fun i h1 hi=>?_⟩
 .obtain⟨c,e,b⟩:=h.at _ (zh j hj 0 (by simp))
  exact⟨c,by simp_all,b⟩
 .obtain⟨c,e,b⟩:=h.at _ (zh j hj i hi)
  rw[if_neg (by lia)] at b;exact⟨c,by simp_all,b⟩
noncomputable def YZ(ns cs:List Int)(l:List Str)(o7 o8 o9:Option D.W):Xw:=[some (.d (bX ns)),some (.d (.int 0)),some (.d (.int 4)),some (.d (.str YH)),some (.d (.list (X4 Gj))),some (.loc (.list (il cs))),some (.loc (.list (X4 l))),o7,o8,o9]
def Ya(C:Addr)(e:TE):Prop:=∃ws r S,En C ws r e.2.1 S e.2.2/\e.1=OM BL ws
theorem Zb.te(h:Zb C d):∃e,d=XJ e/\Ya C e:=by
 obtain⟨ws,r,rd,S,E,h,rfl⟩:=h;exact⟨(OM BL ws,rd,E),rfl,ws,r,S,h,rfl⟩
theorem Ya.en(h:Ya C e):Zb C (XJ e):=by
 obtain⟨ws,r,S,h,he⟩:=h;exact⟨ws,r,e.2.1,S,e.2.2,h,by unfold XJ EM;rw[he]⟩
theorem zd:∀{ds:List Oa},(∀d∈ds,Zb C d)->∃es:List TE,ds=es.map XJ/\∀e∈es,Ya C e
 |[],_=>⟨[],rfl,fun e he=>by simp_all⟩
 |d::ds,h=>by
  obtain⟨es,e1,e2⟩:=zd  fun x hx=>h x (Of _ hx);obtain⟨e,a,b⟩:=(h d Oh).te;refine⟨e::es,by simp_all,fun x hx=>?_⟩
  rcases Ox.mp hx with rfl|hx
  .exact b
  .exact e2 x hx
theorem Ya.gd(h:Ya C e):YD e.2.1:=by
 obtain⟨ws,r,S,h,he⟩:=h;exact⟨h.pw.ok,h.pw.nm⟩
theorem Ya.few(h:Ya C e):e.2.1.length<=12:=by
 obtain⟨ws,r,S,h,he⟩:=h;exact h.pw.ln
theorem Ya.txt(h:Ya C e):O8 e.1=true:=by
 obtain⟨ws,r,S,h,he⟩:=h;obtain⟨n,c,hx,hn⟩:=h.rx;rw[he];exact xt fun w hw=>(hx.ok w hw).1
def Ap(d:Oa):Prop:=∃w x,d=.tuple [.str w,.str x]/\O8 w=true/\O8 x=true
theorem Ya.fin(h:Ya C e):Ap e.2.2:=by
 obtain⟨ws,r,S,h,he⟩:=h;have hE:=h.en;generalize e.2.2=E at hE
 cases hE with
 |md hv=>exact⟨_,_,rfl,by decide +kernel,lX hv⟩
 |fl hx=>exact⟨_,_,rfl,by decide +kernel,(gE hx).ok⟩
def CN(x e:TE):Prop:=x.1=e.1->(x.2.1=e.2.1->x.2.2=e.2.2)/\∀q m,e.2.1≠x.2.1++q::m
theorem coh(hx:Ya C x)(he:Ya C e):CN x e:=fun ht=>by
 obtain⟨ws,r,S,hx,tx⟩:=hx;obtain⟨Bq,r',S',he,te⟩:=he
 have hj:OM BL ws=OM BL Bq:=by simp_all
 constructor
 .intro h
  rw[←h] at he;exact hx.end_one he hj
 .intro q m h
  rw[h] at he;exact hx.no_more he hj
open Classical in
noncomputable def my(e:TE)(t:Str)(q:PR)(a:Oa):PyData:=if e.1=t/\e.2.1.take q.length=q then (match e.2.1[q.length]? with
  |some p=>.str p.1
  | none=>e.2.2) else a
open Classical in
theorem wH:∀{es:List TE}{a:Oa},(∀x∈es,CN x e)->bE t q (es++[e]) a=my e t q (bE t q es a)
 |[],a,_=>by
  show (if e.1=t/\e.2.1=q then e.2.2 else if e.1=t/\e.2.1.take q.length=q then _ else a)=(if e.1=t/\e.2.1.take q.length=q then _ else a)
  by_cases c1:e.1=t/\e.2.1=q
  simp_all
  .rw[if_neg c1]
   by_cases c2:e.1=t/\e.2.1.take q.length=q
   .rw[if_pos c2,if_pos c2]
    cases hg:e.2.1[q.length]? with
    |some p=>rfl
    |none=>
     rw[Qe] at hg;rw[OZ hg] at c2;exact absurd c2 c1
   .rw[if_neg c2,if_neg c2]
 |x::es,a,h=>by
  have ih:=fun a=>wH (t:=t) (q:=q) (e:=e) (es:=es) (a:=a) fun y hy=>h y (Of _ hy);have hx:=h x Oh;show (if x.1=t/\x.2.1=q then x.2.2 else if x.1=t/\x.2.1.take q.length=q then bE t q (es++[e]) _ else bE t q (es++[e]) a)=my e t q (if x.1=t/\x.2.1=q then x.2.2 else if x.1=t/\x.2.1.take q.length=q then bE t q es _ else bE t q es a)
  by_cases c1:x.1=t/\x.2.1=q
  .rw[if_pos c1,if_pos c1]
   unfold my
   by_cases c2:e.1=t/\e.2.1.take q.length=q
   .rw[if_pos c2]
    obtain⟨h1,h2⟩:=hx (by simp_all)
    cases hg:e.2.1[q.length]? with
    |some p=>
     exfalso;obtain⟨hl,hp⟩:=Od.mp hg;refine h2 p (e.2.1.drop (q.length+1)) ?_;rw[c1.2];have:=List.take_append_drop q.length e.2.1;rw[c2.2,QG hl,hp] at this;exact this.symm
    |none=>
     rw[Qe] at hg;rw[OZ hg] at c2;exact h1 (by simp_all)
   .rw[if_neg c2]
  .rw[if_neg c1,if_neg c1]
   by_cases c2:x.1=t/\x.2.1.take q.length=q
   .rw[if_pos c2,if_pos c2,ih]
   .rw[if_neg c2,if_neg c2,ih]
def pB(d:Oa):Prop:=d=.none\/(∃x,isName (.str x)=true/\d=.str x)\/Ap d
open Classical in
theorem wJ:∀{es:List TE}{a:Oa},(∀e∈es,Ya C e)->pB a->pB (bE t q es a)
 |[],a,_,h=>h
 |e::es,a,hE,h=>by
  have ih:=fun a=>wJ  (t:=t) (q:=q)  (a:=a) fun y hy=>hE y (Of _ hy);have he:=hE e Oh;show pB (if e.1=t/\e.2.1=q then e.2.2 else if e.1=t/\e.2.1.take _=q then bE t q es _ else bE t q es a);split
  .exact .inr (.inr he.fin)
  .split
   .refine ih _ ?_
    split
    .rename_i p hp
     exact .inr (.inl ⟨p.1,he.gd.2 p (OA hp),rfl⟩)
    .exact .inl rfl
   .exact ih _ h
theorem zol(h:pB d)(T:Tp):pF [.d d,.d d] T=some (.bool true,T):=by
 have q:Zd d d=some (.bool true):=by
  unfold Zd
  rcases h with rfl|⟨x,hx,rfl⟩|⟨w,x,rfl,h1,h2⟩
  .rfl
  .have:=(gE hx).ok
   simp[OP,PQ,QM,OL,this]
  .simp[OP,PQ,Pi,QM,PU,OL,OY,h1,h2]
 simp[pF,q]
theorem lz(a:PR):(XG a).length=a.length:=by simp[XG]
theorem YD.app(ha:YD a)(hb:YD b):YD (a++b):=⟨fun q hq=>(OD.mp hq).elim (ha.1 q) (hb.1 q),fun q hq=>(OD.mp hq).elim (ha.2 q) (hb.2 q)⟩
theorem YD.drop(h:YD a)(n:Nat):YD (a.drop n):=⟨fun q hq=>h.1 q (UM hq),fun q hq=>h.2 q (UM hq)⟩
theorem YD.one(hv:aA v=true)(hx:isName (.str x)=true):YD [(x,v)]:=⟨fun q hq=>by simp_all,fun q hq=>by simp_all⟩
theorem mv(h:a ρ T=some ((.nx,XU),T1)):ak a b ρ T=b XU T1 :=by simp_all
theorem zom:Fm o T (.loc (.list ys))=Zv T (o (.list ys)):=rfl
section
variable {ns cs:List Int}{l:List Str}{j:Nat}{T:Tp}{o8 o9:Option D.W}{p:List Int}{x:Str}
noncomputable def rN(ns cs:List Int)(l:List Str)(j:Nat)(p:List Int)(x:Str):Xw:=YZ ns cs l (some (.d (.int (j:Int)))) (some (.d (.list (il p)))) (some (.d (.str x)))
theorem nt1(hl:cs.length=37)(hj:j<4):aD 8 (YE (aa 5) (fP (af aO (fC (.int 1)) (af ck (fC (.int 9)) (aa 7)))) (fP (af aO (fC (.int 10)) (af ck (fC (.int 9)) (aa 7))))) (YZ ns cs l (some (.d (.int (j:Int)))) o8 o9) T=some ((.nx,YZ ns cs l (some (.d (.int (j:Int)))) (some (.d (.list (il ((cs.drop (1+9*j)).take 9))))) o9),T):=by
 have c:bM (il cs) (some (1+9*(j))) (some (10+9*(j)))=il ((cs.drop (1+9*j)).take 9):=by
  have h:=wN (il cs) (1+9*j) (10+9*j) (by rw[f7];lia) (by rw[f7];lia)
  rw[yN,show 10+9*j-_=9 by lia] at h<;>simp_all
 simp[YZ,zom,c]
theorem nt2(hp:BZ p):∃x,isName (.str x)=true/\aD 9 (af fG (fC (.str "")) (cb (bD (YE (aa 8) (fP (fC (.int 1))) (fP (af aO (fC (.int 2)) (af XH (aa 8) (fC (.int 0))))))) bT (af XH (aa 4) (aa 0)))) (YZ ns cs l (some (.d (.int (j:Int)))) (some (.d (.list (il p)))) o9) T=some ((.nx,rN ns cs l j p x),T):=by
 obtain⟨c,e0,c0,c1⟩:=hp.p0;obtain⟨k,rfl⟩:∃k:Nat,c=(k:Int):=⟨c.toNat,by lia⟩;have hl:=hp.ln;have a0:XR (il p) 0=some (.int (k:Int)):=eV (j:=0) (by simp[il,e0])
 have cc:bM (il p) (some 1) (some (2+(k:Int)))=il ((p.drop 1).take (1+k)):=by
  have h:=wN (il p) 1 (2+k) (by rw[f7];lia) (by rw[f7];lia);rw[yN,show 2+k-1=1+k by lia] at h;rw[←h];simp
 obtain⟨ys,e1,l1,h1⟩:=vC (ρ:=YZ ns cs l (some (.d (.int (j:Int)))) (some (.d (.list (il p)))) o9) (T:=T) (by simp[YZ]) ((p.drop 1).take (1+k)) fun y hy=>by
  obtain⟨i,hi,rfl⟩:=Sn hy;simp only[QA,QB] at hi;obtain⟨c,e,b⟩:=hp.p1 (1+i) (by lia) (by lia)
  have:((p.drop 1).take (1+k))[i]? = some c:=by rw[Ro (by lia),Va];exact e
  have hz:=(Od.mp this).2;rw[hz];exact b
 obtain⟨xs,s1,s2,s3,s4,s5⟩:=zio h1
 have ly:ys.length=1+k:=by rw[l1];simp;lia
 refine⟨OM "" xs,xx (by rw[s5];lia) (by rw[s5];lia) s4,?_⟩
 have ej:fG (.str "") (.list ys)=some (.str (OM "" xs)):=by
  have z:(Ob "").length=0:=by decide +kernel
  rw[qD s1,if_pos (by rw[s2,z];lia)]
 unfold YZ at e1;simp[YZ,rN,a0,cc,e1,ej,-List.drop_one]
theorem yH(hn:∀y∈l,isName (.str y)=true){i:Int}(h0:0<=i)(h1:i<(l.length:Int)):∃y,XR (X4 l) i=some (.str y)/\isName (.str y)=true:=by
 obtain⟨d,e,hm⟩:=gN (xs:=X4 l) h0 (by simpa[X4] using h1);obtain⟨y,hy,rfl⟩:=OF.mp hm;exact⟨y,e,hn y hy⟩
theorem nZ:Zk o T (.loc (.list ys)) (.d y)=Zv T (o (.list ys) y):=rfl
theorem yG:Zk o T (.d y) (.loc (.list ys))=Zv T (o y (.list ys)):=rfl
theorem nt3(hc:∃c,cs[0]? = some c)(hp:BZ p)(hl:l.length=j)(hj:j<4)(hn:∀y∈l,isName (.str y)=true)(hx:isName (.str x)=true):∃x',isName (.str x')=true/\Xz (cg (aw (af YC (af XH (aa 5) (fC (.int 0))) (fC (.int 0)))) (cg (aw (af YC (af bz (aa 7) (fC (.int 2))) (fC (.int 1)))) (aw (af F4 (Yd aZ (ab (af XH (aa 6) (af dr (aa 7) (fC (.int 1)))) ag)) (fC (.int 8)))))) (aD 9 (af aO (af XH (aa 6) (af dr (aa 7) (fC (.int 1)))) (af XH (aa 3) (af XH (aa 8) (fC (.int 1)))))) aC (rN ns cs l j p x) T=some ((.nx,rN ns cs l j p x'),T):=by
 obtain⟨c,hc⟩:=hc;have a0:XR (il cs) 0=some (.int c):=eV (j:=0) (by simp[il,hc])
 by_cases c0:c=0
 .by_cases c1:(j:Int) % 2=1
  .obtain⟨y,ey,hy⟩:=yH (l:=l) hn (i:=(j:Int)-1) (by lia) (by lia)
   obtain⟨y1,y2,y3⟩:=zof hy
   by_cases c2:(y.length:Int)<8
   .obtain⟨d,ed,d0,d1⟩:=hp.p1 1 (by simp) (by simp)
    obtain⟨s,hs,es⟩:=yb d0 d1;have a1:XR (il p) 1=some (.int d):=eV (j:=1) (by simp[il,ed]);have sl:(⟨#[s]⟩:Str).length=1:=rfl
    have la:(y++(⟨#[s]⟩:Str)).length=y.length+1:=by rw[←cw,gM,Pj,cw,cw,sl]
    refine⟨y++⟨#[s]⟩,xx (by lia) (by lia) ?_,?_⟩
    .unfold has at y3 ⊢
     rw[RN,V6,y3];simpa using hs
    .have z:y.length+1<=sizeLine:=by have:=i7;lia
     have z0:y.length<=sizeLine:=by lia
     simp[rN,YZ,nZ,a0,c0,c1,ey,c2,a1,es,sl,z,z0]
   .refine⟨x,hx,?_⟩
    have z0:y.length<=sizeLine:=by have:=i7;lia
    simp[rN,YZ,nZ,a0,c0,c1,ey,c2,z0]
  .exact⟨x,hx,by simp[rN,YZ,nZ,a0,c0,c1]⟩
 .exact⟨x,hx,by simp[rN,YZ,nZ,a0,c0]⟩
theorem nt4(hc:∃c,cs[0]? = some c)(hp:BZ p)(hx:isName (.str x)=true):∃x',isName (.str x')=true/\Xz (aw (af YC (af XH (aa 5) (fC (.int 0))) (fC (.int 1)))) (aD 9 (af XH (aa 4) (af bz (af XH (aa 8) (fC (.int 1))) (fC (.int 12))))) aC (rN ns cs l j p x) T=some ((.nx,rN ns cs l j p x'),T):=by
 obtain⟨c,hc⟩:=hc;have a0:XR (il cs) 0=some (.int c):=eV  (by simp[il,hc])
 by_cases c0:c=1
 .obtain⟨d,ed,d0,d1⟩:=hp.p1 1 (by decide) (by simp)
  have a1:XR (il p) 1=some (.int d):=eV  (by simp[il,ed]);obtain⟨y,ey,hy⟩:=yH  zoe (i:=d % 12) (Pn _ (by decide)) (O9 _ (by simp));exact⟨y,hy,by simp[rN,YZ,a0,c0,a1,ey]⟩
 .exact⟨x,hx,by simp[rN,YZ,a0,c0]⟩
theorem nt5(hl:l.length<6)(hx:isName (.str x)=true):∃x',isName (.str x')=true/\Xz (aw (af inD (aa 9) (aa 6))) (aD 9 (af XH (cb (bD (fC (.str "uvwxyz"))) (aw (af eX (aa 0) (aa 7))) (aa 0)) (fC (.int 0)))) aC (rN ns cs l j p x) T=some ((.nx,rN ns cs l j p x'),T):=by
 by_cases h:x∈l
 .obtain⟨y,ys,hy,e⟩:=zok  hl (rN ns cs l j p x) T fun d=>rfl
  refine⟨y,hy,?_⟩
  have z:(Ob "uvwxyz").length<=sizeLine:=by decide +kernel
  unfold rN YZ at e;simp[rN,YZ,yG,rZ,h,z,e]
 .exact⟨x,hx,by simp[rN,YZ,yG,rZ,h]⟩
theorem nE(hd:Zz Fx cs)(hj:j<4)(hl:l.length=j)(hn:∀y∈l,isName (.str y)=true):∃x FF o9',isName (.str x)=true/\mQ (YZ ns cs l (some (.d (.int (j:Int)))) o8 o9) T=some ((.nx,YZ ns cs (l++[x]) (some (.d (.int (j:Int)))) FF o9'),T):=by
 have hp:=part6 hd hj
 have hc:∃c,cs[0]? = some c:=by
  obtain⟨c,e,_⟩:=hd.at 0  rfl;exact⟨c,e⟩
 have h37:cs.length=37:=hd.1;obtain⟨x2,h2,e2⟩:=nt2       hp;obtain⟨x3,h3,e3⟩:=nt3   hc hp hl hj hn h2;obtain⟨x4,h4,e4⟩:=nt4     hc hp h3;obtain⟨x5,h5,e5⟩:=nt5   (l:=l)    (by lia) h4;refine⟨x5,some (.d (.list (il ((cs.drop (1+9*j)).take 9)))),some (.d (.str x5)),h5,?_⟩;unfold mQ;rw[mv (nt1 h37 hj),mv e2,mv e3,mv e4,mv e5]
 have z:l.length<sizeLine:=by have:=i7;lia
 simp[rN,YZ,X4,z]
theorem zon:∃l,pE [.d (bX ns),.d (.int 0),.d (.int 4)] T=some (.list (X4 l),T)/\ZZ l/\l.length=4:=by
 obtain⟨cs,e,hd⟩:=nT (ns:=ns) (zs:=Fx) (k:=0) (T:=T) (by simp) (by decide) (by decide);obtain⟨x0,a8,a9,h0,e0⟩:=nE (ns:=ns) (T:=T) (l:=[]) (j:=0) (o8:=none) (o9:=none) hd (by decide) rfl (fun y hy=>by cases hy);obtain⟨x1,b8,b9,h1,e1⟩:=nE (ns:=ns) (T:=T) (l:=[x0]) (j:=1) (o8:=a8) (o9:=a9) hd (by decide) rfl (by simpa using h0);obtain⟨x2,c8,c9,h2,e2⟩:=nE (ns:=ns) (T:=T) (l:=[x0,x1]) (j:=2) (o8:=b8) (o9:=b9) hd (by decide) rfl (by simp[h0,h1]);obtain⟨x3,d8,d9,h3,e3⟩:=nE (ns:=ns) (T:=T) (l:=[x0,x1,x2]) (j:=3) (o8:=c8) (o9:=c9) hd (by decide) rfl (by simp[h0,h1,h2]);refine⟨[x0,x1,x2,x3],?_,⟨by simp,by simp,by simp[h0,h1,h2,h3]⟩,rfl⟩
 have lp:forL 7 mQ (dy 0 4) (YZ ns cs [] none none none) T=some ((.nx,YZ ns cs [x0,x1,x2,x3] (some (.d (.int 3))) d8 d9),T):=
  (fw e0).trans ((fw e1).trans ((fw e2).trans ((fw e3).trans rfl)))
 have ro:iC 4=true:=by decide
 have rp:gr (.list [.int 8,.int 26,.int 26,.int 26,.int 26,.int 26,.int 26,.int 26,.int 26]) (.int 4)=some (.list (il Fx).tail):=by rfl
 have ad:aO (.list [.int 5]) (.list (il Fx).tail)=some (.list (il Fx)):=by rfl
 rw[zih];unfold YZ at lp;have nw:(VZ [.str "told",.str "made",.str "want",.str "say",.str "a",.str "b",.str "wants",.str "fails",.str "got",.str "when",.str "put",.str "ab"])=.list (X4 Gj):=rfl;have n0:X4 []=[]:=rfl;rw[n0] at lp;have lt:Ob "abcdefghijklmnopqrstuvwxyz"=YH:=rfl;have e':gy [.d (bX ns),.d (.int 0),.d (.list (il Fx))] T=some (.list (il cs),T):=e;simp[rp,ad,e',ro,nw,lt,oq,yr,lp]
 done
end
theorem zoo{α:Type}(xs:List α)(a:Nat)(h:a<=xs.length):bM xs (some (a:Int)) none=xs.drop a:=by
 have e1:HT.XT xs.length 0 (some (a))=a:=by
  show (if (a:Int)<0 then ((a)+(xs.length:Int)).toNat else min _ _)=_<;>grind
 have e2:HT.XT xs.length _ none=xs.length:=rfl;unfold bM;rw[e1,e2,OZ (by simp)]
theorem zop{α:Type}(xs:List α)(y:α):bM (xs++[y]) none (some (-1))=xs:=by
 have e1:HT.XT (xs++[y]).length 0 none=0:=rfl
 have e2:HT.XT (xs++[y]).length (xs++[y]).length (some (-1))=xs.length:=by
  unfold HT.XT;simp
  lia
 unfold bM;rw[e1,e2];simp
theorem lm{α:Type}(xs:List α)(y:α):XR (xs++[y]) (-1)=some y:=by
 have e:Hs (xs++[y]).length (-1)=some xs.length:=by
  unfold Hs;simp
  lia
 unfold XR<;>simp_all
section
variable {cs:List Int}{q:PR}{j:Nat}{nm:List Str}
abbrev Ib:FE:=YE (af XH (aa 6) (fC (.int 1))) dD (fP (aa 7))
theorem zoq:Ib [none,none,none,none,none,none,some (.d (XJ e)),some (.d (.int (j:Int)))] []=some (.d (.tuple (XG (e.2.1.take j))),[]):=by
 have Hl:∀a b c:Oa,XR [a,b,c] 1=some b:=fun _ _ _=>rfl;simp[XJ,lE,m8]
theorem fM:XR (il [c0,c1,c2,c3]) 0=some (.int c0)/\XR (il [c0,c1,c2,c3]) 1=some (.int c1)/\XR (il [c0,c1,c2,c3]) 2=some (.int c2)/\XR (il [c0,c1,c2,c3]) 3=some (.int c3):=⟨rfl,rfl,rfl,rfl⟩
theorem uJ(h0:0<=c)(h1:c<7):aA (.int c)=true:=by
 have:single (.int c)=true:=gA (by lia) (by lia);show (aE 4 _&&decide _)=true;obtain⟨a,b⟩:=ff  this;rw[a];rfl
abbrev zF:FE:=af aO (YE (aa 8) dD (fP (X1 e7 (fC (.int 1))))) (aB .tuple (ab (aB .tuple (ab (af XH (af XH (aa 8) (X1 e7 (fC (.int 1)))) (fC (.int 0))) (ab (ay (eL 25) (ab (af XH (aa 9) (fC (.int 1))) ag)) ag))) ag))
theorem zor(h0:0<=c1)(h1:c1<7)(hl:a.length<=12):zF [none,none,none,none,none,none,none,none,some (.d (.tuple (XG (a++[(x,v)])))),some (.d (.list (il [c0,c1,c2,c3])))] []=some (.d (.tuple (XG (a++[(x,.int c1)]))),[]):=by
 have z:(XG a).length+1<=sizeLine:=by have:=i7;rw[lz];lia
 have e1:∀u:Oa,XG (a++[(x,u)])=XG a++[.tuple [.str x,.str (tS u)]]:=fun u=>by simp[XG]
 have st:=qX (uJ h0 h1) [];have ng:e7 (.int 1)=some (.int (-1)):=rfl;have p0:∀a b:Oa,XR [a,b] 0=some a:=fun _ _=>rfl;rw[e1,e1];simp[zF,ng,fM.2.1,zop,lm,p0,st,z]
abbrev JP:FE:=af bz (af XH (aa 9) (fC (.int 1))) (aa 7)
theorem zos(hj:0<j)(h12:j<=12):JP [none,none,none,none,none,none,none,some (.d (.int (j:Int))),none,some (.d (.list (il [c0,c1,c2,c3])))] []=some (.d (.int (c1 % (j:Int))),[]):=by simp[fM.2.1,hj]
abbrev JQ:FE:=aB .tuple (ab (af XH (aa 1) (af bz (af XH (aa 9) (fC (.int 1))) (fC (.int 4)))) (ab (af XH (af XH (aa 8) (aa 10)) (fC (.int 1))) ag))
theorem zot{c0 c1 c2 c3:Int}{s:Nat}{x y:Str}{v:Oa}(hy:XR (X4 nm) (c1 % 4)=some (.str y))(hs:q[s]? = some (x,v)):JQ [none,some (.d (.list (X4 nm))),none,none,none,none,none,none,some (.d (.tuple (XG q))),some (.d (.list (il [c0,c1,c2,c3]))),some (.d (.int (s:Int)))] []=some (.d (.tuple [.str y,.str (tS v)]),[]):=by
 have p1:∀a b:Oa,XR [a,b] 1=some b:=fun _ _=>rfl;simp[fM.2.1,hy,xn hs]
abbrev JO:FE:=af aO (af aO (YE (aa 8) dD (fP (aa 10))) (aB .tuple (ab (aa 11) ag))) (YE (aa 8) (fP (af aO (aa 10) (fC (.int 1)))) dD)
theorem zou{s:Nat}{y:Str}{v:Oa}(hs:s<q.length)(hl:q.length<=13):JO [none,none,none,none,none,none,none,none,some (.d (.tuple (XG q))),none,some (.d (.int (s:Int))),some (.d (.tuple [.str y,.str (tS v)]))] []=some (.d (.tuple (XG (q.take s++[(y,v)]++q.drop (s+1)))),[]):=by
 have bl:=i7;have c1:=lE (XG q) s;have c2:=zoo (XG q) (s+1) (by rw[lz];lia)
 have Bo:bM (XG q) (some ((s:Int)+1)) none=(XG q).drop (s+1):=by simp_all
 have z1:min s (XG q).length+1<=sizeLine:=by grind
 have z2:min s (XG q).length+1+((XG q).length-(s+1))<=sizeLine:=by rw[lz];lia
 have e3:XG (q.take s++[(y,v)]++q.drop (s+1))=(XG q).take s++[.tuple [.str y,.str (tS v)]]++(XG q).drop (s+1):=by
  simp[XG]
 rw[e3]<;>simp_all
abbrev mn:FE:=af XH (aB .list (ab (af XH (aa 6) (fC (.int 0))) (ab (af XH (af XH (aa 2) (X1 e7 (fC (.int 1)))) (fC (.int 0))) (ab (fC (.str "say put 77")) ag)))) (af ck (af XH (aa 9) (fC (.int 2))) (Yd D.intD (ab (af YC (af bz (aa 7) (fC (.int 2))) (fC (.int 1))) ag)))
theorem zov{es:List TE}(he:e∈es)(hE:∀x∈es,Ya C x)(h0:0<=c2)(h1:c2<3):∃t,O8 t=true/\mn [none,none,some (.d (.list (es.map XJ))),none,none,none,some (.d (XJ e)),some (.d (.int (j:Int))),none,some (.d (.list (il [c0,c1,c2,c3])))] []=some (.d (.str t),[]):=by
 have ng:e7 (.int 1)=some (.int (-1)):=rfl
 rcases RU es with rfl|⟨fs,l,rfl⟩
 .cases he
 have hl:=hE l (by simp)
 have e1:(fs++[l]).map XJ=fs.map XJ++[XJ l]:=by simp
 have t77:O8 "say put 77"=true:=by decide +kernel
 rw[Ur,e1]
 by_cases hj:(j:Int) % 2=1
 .rcases(show c2=0\/c2=1\/c2=2 by omega) with rfl|rfl|rfl
  .refine⟨e.1,(hE e he).txt,?_⟩
   simp[mn,ng,XJ,lm,EN,Y0,at2,fM.2.2.1,hj]
  .refine⟨l.1,hl.txt,?_⟩
   simp[mn,ng,XJ,lm,EN,Y0,at2,fM.2.2.1,hj]
  .refine⟨_,t77,?_⟩
   simp[mn,ng,XJ,lm,EN,Y0,at2,fM.2.2.1,hj]
 .refine⟨e.1,(hE e he).txt,?_⟩
  simp[mn,ng,XJ,lm,EN,Y0,at2,fM.2.2.1,hj]
end
end G
namespace TK
noncomputable def tk:Nat->Oa->Bool
 |_,.str x=>O8 x
 |n+1,.tuple xs=>xs.all (tk n)
 |_,_=>false
noncomputable def hk(w:OO):Nat->Oa->Int
 |_,.str x=>hashStr w x
 |n+1,.tuple xs=>Wn (Pt (xs.map (hk w n)))
 |_,_=>0
noncomputable def dk:Nat->Oa->Nat
 |_,.str _=>1
 |n+1,.tuple xs=>(xs.map (dk n)).sum+1
 |_,_=>0
theorem ip:∀{n:Nat}{d:Oa},tk n d=true->(∃x,d=.str x/\O8 x=true)\/∃m xs,n=m+1/\d=.tuple xs/\xs.all (tk m)=true
 |0,.str x,h=>.inl ⟨x,rfl,h⟩
 |n+1,.str x,h=>.inl ⟨x,rfl,h⟩
 |n+1,.tuple xs,h=>.inr ⟨n,xs,rfl,rfl,h⟩
 |0,.tuple _,h=>by cases h
 |0,.none,h|0,.bool _,h|0,.int _,h|0,.list _,h|0,.dict _,h=>by cases h
 |n+1,.none,h|n+1,.bool _,h|n+1,.int _,h|n+1,.list _,h|n+1,.dict _,h=>by cases h
theorem sr:∀{xs:List Oa},(∀x∈xs,p x=true->x.canLay0=true)->xs.all p=true->Pi xs=true
 |[],_,_=>rfl
 |x::r,h,e=>by
  rw[P0,Oj] at e;show (x.canLay0&&Pi r)=true;rw[h x Oh e.1,sr (fun y hy=>h y (Of _ hy)) e.2];rfl
theorem lG:∀{n:Nat}{d:Oa},tk n d=true->d.canLay0=true
 |n,d,h=>by
  rcases ip h with⟨x,rfl,hx⟩|⟨m,xs,rfl,rfl,hx⟩
  .simpa[PQ] using hx
  .have:=sr (fun x _ hx=>lG  hx) hx
   simpa[PQ] using this
theorem depthAll:∀{xs:List Oa},(∀x∈xs,x.depth<=m)->PU xs<=m
 |[],_=>Pm _
 |x::r,h=>by
  have h1:=h x Oh;have h2:=depthAll   fun y hy=>h y (Of _ hy);simp only[PU]
  lia
theorem qu:∀{n:Nat}{d:Oa},tk n d=true->d.depth<=n
 |n,d,h=>by
  rcases ip h with⟨x,rfl,hx⟩|⟨m,xs,rfl,rfl,hx⟩
  .simp[QM]
  .have:=depthAll fun x hm=>qu  (Ou.mp hx x hm)
   simp only[QM]
   lia
theorem qj(ih:∀{x y:Oa},tk n x=true->tk n y=true->(OL x y=true↔x=y)):∀{xs ys:List Oa},xs.all (tk n)=true->ys.all (tk n)=true->(OY xs ys=true↔xs=ys)
 |[],[],_,_=>by simp[OY]
 |[],_::_,_,_=>by simp[OY]
 |_::_,[],_,_=>by simp[OY]
 |x::xs,y::ys,h,g=>by
  rw[P0,Oj] at h g;simp only[OY,Oj,List.cons.injEq];rw[ih h.1 g.1,qj ih h.2 g.2]
theorem si:∀{n:Nat}{x y:Oa},tk n x=true->tk n y=true->(OL x y=true↔x=y)
 |n,x,y,h,g=>by
  rcases ip h with⟨a,rfl,ha⟩|⟨m,xs,rfl,rfl,hx⟩
  .rcases ip g with⟨b,rfl,hb⟩|⟨m',ys,rfl,rfl,hy⟩
   .simp[OL]
   .simp[OL]
  .rcases ip g with⟨b,rfl,hb⟩|⟨m',ys,e,rfl,hy⟩
   .simp[OL]
   .cases e
    simp;exact qj (fun a b=>si  a b) hx hy
noncomputable instance:DecidableEq PyData:=fun a b=>Tv (a=b)
section
variable {prog:Oz}{w:OO}
theorem zow(n:Nat):∀(d:Oa) {u:Oc}{as:List Addr}{A:O0}{E:Oc->Oi->Prop}{s:Oi}{Q:Int->Oi->Prop},tk n d=true->UC s.heap u d as->A.units+n<Tb->Q (hk w n d) { s with toks:=s.toks+dk n d } ->
  OG (OJ prog w) A (pyHash u) Q E s:=by
  induction n using Sg with
  |_ n ih=>
  intro d u as A E s Q h r hu q
  rcases ip h with⟨x,rfl,hx⟩|⟨m,xs,rfl,rfl,hx⟩
  .cases r
   have e1:hk w n (.str x)=hashStr w x:=by cases n <;> rfl
   have e2:dk n (.str x)=1:=by cases n <;> rfl
   rw[e1,e2] at q;exact Vz q
  .cases r with
   |@tuple a o vs k _ _ ho hc hd rs=>
   have hT:s.TypeIs (.ref a) "tuple":=⟨o,ho,hc⟩;unfold pyHash
   first|unfold pyHashByItsType|skip
   first|refine Oe (wpAny_cRoomFor_or (.inr (by lia)) ?_)|skip
   refine Oe (Sa hT RQ.lookup ?_);show OG _ _ (if (some (Value.builtin "tuple.__hash__") == some P2)=true then _ else _) Q E s;rw[if_neg (by rw[beq_builtin_none];exact OB)];refine Oe (Sa hT RQ.lookup ?_);show OG _ _ (callSpecialIfBoundUnlessNone? (.ref a) "__hash__" _ >>= _) Q E s;refine Oe (wpAny_callSpecialIfBoundUnlessNone?_slot hT RQ (Qf RQ hT F.entry_tuple_hash ?_ (F.args_tuple_hash_1 _)));show OG _ _ (Rf (.ref a) >>= _) _ _ s;refine Oe (wpAny_tupleItemsOf ho hd ?_);refine Oe ?_;rw[←Vb];refine VQ _ (fun rest (b:Array Int) s'=>∃done left Eu,xs=done++left/\R7 s.heap rest left Eu/\b.toList=done.map (hk w m)/\s' = { s with toks:=s.toks+(done.map (dk m)).sum }) _ ?_ ?_ _ _ ⟨[],xs,_,rfl,rs,rfl,rfl⟩
   .rintro x rest b s' ⟨done,left,Eu,rfl,hl,hb,rfl⟩
    cases hl with
    |@cons _ _ y ys _ _ h1 Zc=>
     rw[V6,Oj,P0,Oj] at hx;refine Oe (ih m (QV m) y hx.2.1 h1 (by show A.units+1+m<_;lia) ?_)
     first
      |exact Ot ⟨done++[y],ys,_,by simp,Zc,by simp[hb],by simp[S9]⟩
      |exact Oe (Ot (Ot ⟨done++[y],ys,_,by simp,Zc,by simp[hb],by simp[S9]⟩))
   .rintro b s' ⟨done,left,Eu,rfl,hl,hb,rfl⟩
    cases hl;rw[PF] at q;show OG _ _ (retInt (Pt b.toList)) _ _ _;rw[hb];refine wpAny_ret_mkInt ?_;show OG _ _ (if (decide (-(2:Int)^63<=Pt (done.map (hk w m)))&&decide (Pt (done.map (hk w m))<2^63))=true then _ else _) Q E _;have q':Q (Wn (Pt (done.map (hk w m)))) { s with toks:=s.toks+((done.map (dk m)).sum+1) }:=q;unfold Wn at q'
    by_cases hr:(decide (-(2:Int)^63<=Pt (done.map (hk w m)))&&decide (Pt (done.map (hk w m))<2^63))=true
    .rw[if_pos hr]
     rw[if_pos hr] at q';exact Ot (by simpa[S9] using q')
    .rw[if_neg hr]
     rw[if_neg hr] at q';exact Oe (Wl (Ot (by simpa[S9] using q')))
theorem zox(n:Nat):∀(k:Nat) (d:Oa) {u:Oc}{as:List Addr}{A:O0}{E:Oc->Oi->Prop}{s:Oi}{Q:Bool->Oi->Prop},n<=k->tk n d=true->UC s.heap u d as->Q true s->OG (OJ prog w) A (eqIsQuiet k u) Q E s:=by
  induction n using Sg with
  |_ n ih=>
  intro k d u as A E s Q hk h r q
  rcases ip h with⟨x,rfl,hx⟩|⟨m,xs,rfl,rfl,hx⟩
  .cases r
   rw[eqIsQuiet_byValue _ rfl];exact Ot q
  .cases r with
   |@tuple a o vs c _ _ ho hc hd rs=>
   obtain⟨k,rfl⟩:=G.aY k (by omega);have hT:s.TypeIs (.ref a) "tuple":=⟨o,ho,hc⟩;unfold eqIsQuiet;refine Oe (Sa hT F.slot_tuple_eq.lookup ?_);show OG _ _ (isInstance (.ref a) (.type "tuple") >>= _) _ _ s;refine Oe (VR hT isSubtype_tuple_tuple ?_);simp only[WR,PX,if_false];refine Oe (UH ho hd ?_);refine Oe ?_;show OG _ _ (forIn vs _ _) _ _ s;rw[←Vb];refine VQ _ (fun rest r s'=>r.1=none/\s'=s/\∃left Eu,left.all (tk m)=true/\R7 s.heap rest left Eu) _ ?_ ?_ _ _ ⟨rfl,rfl,xs,_,hx,rs⟩
   .rintro v rest r s' ⟨hr,rfl,left,Eu,Z7,rl⟩
    cases rl with
    |@cons _ _ y ys _ _ h1 Zc=>
     rw[P0,Oj] at Z7;refine Oe (ih m (QV m) k y (by omega) Z7.1 h1 ?_);simp only[WR,PX,if_false];exact Ot ⟨rfl,rfl,ys,_,Z7.2,Zc⟩
   .rintro⟨r1,r2⟩ s' ⟨hr,rfl,_⟩
    simp only at hr;subst hr;exact Ot q
end
theorem zoy(k:∀b o,(∀es ep,o.data≠.dict es ep)->h.get? b=some o->h'.get? b=some o)(n:Nat):∀{d:Oa}{v:Oc}{as:List Addr},tk n d=true->UC h v d as->UC h' v d as:=by
 induction n using Sg with
 |_ n ih=>
 intro d v as t r
 rcases ip t with⟨x,rfl,_⟩|⟨m,xs,rfl,rfl,hx⟩
 .cases r
  exact .str _ _
 .have all:∀{ds:List Oa}{vs:List Oc}{as:List Addr},ds.all (tk m)=true->R7 h vs ds as->R7 h' vs ds as:=fun {ds}=>by
   induction ds with
   |nil=>intro vs as _ r;cases r;exact .nil
   |cons d ds i2=>
    intro vs as t r;rw[P0,Oj] at t
    cases r with
    |cons r rs=>exact .cons (ih m (QV m) t.1 r) (i2 t.2 rs)
  cases r with
  |tuple ho hc hd rs=>exact .tuple (k _ _ (fun es ep z=>by simp_all) ho) hc hd (all hx rs)
noncomputable def kind(prog:Oz)(w:OO):HeapKind prog w Oa where
 is:=fun h d a=>tk 3 d=true/\∃as,UC h (.ref a) d as
 hash:=hk w 3
 draws:=dk 3
 room:=fun A=>A.units+8<Tb
 inj:=fun hx hy=>SeqAt.Reads.unique _ _ _ _ _ (lG hx.1) hx.2.choose_spec hy.2.choose_spec
 keeps:=fun {_ _ _ _ d _ _ _} x ho hd hs=>⟨x.1,x.2.choose,zoy (n:=3) (fun b o nd e=>by
  by_cases hb:b=d
  .subst hb;rw[ho] at e;cases e;exact absurd hd (nd _ _)
  .exact(hs.2 b hb).trans e) x.1 x.2.choose_spec⟩
 pyHash:=fun hu hk h=>zow 3 _ hk.1 hk.2.choose_spec (by omega) h
 eqBool:=fun {A _ _ x y _ _ _} hu hx hy h=>by
  refine Ti _ _ _ _ _ _ _ _ hx.2.choose_spec hy.2.choose_spec (lG hx.1) (lG hy.1) ?_ _ _ _ _ ?_
  .have h1:=qu hx.1
   have:min x.depth y.depth<=3:=OC (Nat.min_le_left _ _) h1;omega
  .have e:=si hx.1 hy.1
   have:OL x y=decide (x=y):=by
    by_cases z:x=y
    .rw[decide_eq_true z,e.mpr z]
    .rw[decide_eq_false z]
     exact Bool.eq_false_iff.mpr fun q=>z (e.mp q)
   rw[this];exact h
 quiet:=fun hk h=>zox 3 8 _ (by decide) hk.1 hk.2.choose_spec h
end TK
namespace TK
open L2
def Yu(h:Heap)(a:Addr)(es:Array Tf)(ep:Nat):Prop:=∃o,h.get? a=some o/\o.ExactDict/\o.data=.dict es ep
section
variable {prog:Oz}{w:OO}{A:O0}{E:Oc->Oi->Prop}{s:Oi}{d it:Addr}{es:Array Tf}{ep i:Nat}
theorem Yu.typeIs(x:Yu s.heap d es ep):s.TypeIs (.ref d) "dict":=let ⟨o,h,c,_⟩:=x;⟨o,h,c.1⟩
theorem Yu.at'(x:Yu h d es ep)(e:∀o,h.get? d=some o->h'.get? d=some o):Yu h' d es ep:=let ⟨o,ho,r⟩:=x;⟨o,e _ ho,r⟩
theorem zoz(hd:(d == Pu)=false)(hm:Yu s.heap d es ep)
  (hQ:Q (.ref s.heap.objs.size) { s with heap:=s.heap.push { cls:=.type "dict_keyiterator",data:=.fields #[.ref d,.int 0 0,.int es.size 0,.int ep 0] } }):OG (OJ prog w) A (pyIter (.ref d)) Q E s:=by
 have hT:=hm.typeIs;obtain⟨o,ho,hc,Gv⟩:=hm;refine wpAny_pyIter_slot hT VS (Qf VS hT F.entry_dict_iter ?_ (F.args_dict_iter_1 _));refine Oe ?_;refine Oe (wpAny_notOrdered_dict hT ?_);refine Ot ?_;show OG _ _ (Us d >>= _) _ _ s;unfold Us;rw[if_neg (by simp_all)];refine Oe (Ot ?_);refine Oe (S4 ho Gv ?_);refine Oe (Ug ho Gv ?_);refine Oe (Pd (Ot ⟨_,rfl,"dict_keyiterator",_,⟨_,Oy _ rfl,rfl⟩,PV.lookup,?_⟩));simpa[U8] using hQ
theorem zpa(hit:s.heap.IsKeyIter it d i es.size ep)(hm:Yu s.heap d es ep)(ER:i<es.size)
  (hQ:∀h',h'.IsKeyIter it d (i+1) es.size ep->Qi it s.heap h'->Q (some es[i].key) { s with heap:=h' }):OG (OJ prog w) A (VD (.ref it)) Q E s:=by
 obtain⟨o,ho,hc,hd⟩:=id hit;obtain⟨od,Gs,hcd,Ig⟩:=hm;unfold VD;refine Oe (wpAny_attempt (PZ (name:=Ob "__next__") hit.typeIs PV (Qf PV hit.typeIs R8 ?_ (R1 _))));refine Oe (Ot ?_);refine Oe ?_;refine Oe ?_
 first|refine Oe (Qm hit.typeIs (Ot ?_))|refine Oe (QS hit.typeIs (Ot ?_))
 refine Oe (wpAny_fieldsOf ho hd ?_);have Hw:Si "dict_keyiterator"=false:=rfl;simp only[Hw,PX,if_false];show OG _ _ (if (OV d == P2)=true then _ else _) _ _ s;rw[if_neg (show ¬((OV d == P2)=true) from OB)];refine Oe (Ot ?_);refine Oe (S4 Gs Ig ?_);rw[if_neg (by simp)];refine Oe (Ot ?_);refine Oe (Ug Gs Ig ?_);rw[if_neg (by simp)];refine Ot ?_;simp only[show ¬((i:Int)<0) from by lia,if_false,P7,Rk ER];refine Oe ?_
 first|refine Oe (Qm hit.typeIs (Ot ?_))|refine Oe (QS hit.typeIs (Ot ?_))
 refine Oe (Ut hit.typeIs ?_);show OG _ _ (setField (.ref it) 1 (U8 ((i:Int)+1)) >>= _) _ _ s;refine Oe (SO ho hd (by simp) ?_)
 have Jn:(s.heap.update it (WS (·.setIfInBounds 1 (U8 ((i:Int)+1))))).IsKeyIter it d (i+1) es.size ep:=
  ⟨_,Um _ ho (Uo (RA hd _)),(Vs ..).trans hc,by rw[RA hd];simp[U8]⟩
 refine Oe (UW ?_);refine Oe (Ut (s:={ s with heap:=s.heap.update it (WS (·.setIfInBounds 1 (U8 ((i:Int)+1)))) }) Jn.typeIs ?_);show OG _ _ (pure es[i].key) _ _ _;exact Ot (Ot ⟨_,rfl,Ot (hQ _ Jn (Rl ..))⟩)
theorem zpb(hh:A.handled=none)(hit:s.heap.IsKeyIter it d i es.size ep)(hm:Yu s.heap d es ep)(hge:es.size<=i)
  (hQ:∀h',VX it s.heap h'->Q none { s with heap:=h' }):OG (OJ prog w) A (VD (.ref it)) Q E s:=by
 obtain⟨o,ho,hc,hd⟩:=id hit;obtain⟨od,Gs,hcd,Ig⟩:=hm;unfold VD;refine Oe (wpAny_attempt (PZ (name:=Ob "__next__") hit.typeIs PV (Qf PV hit.typeIs R8 ?_ (R1 _))));refine Oe (Ot ?_);refine Oe ?_;refine Oe ?_
 first|refine Oe (Qm hit.typeIs (Ot ?_))|refine Oe (QS hit.typeIs (Ot ?_))
 refine Oe (wpAny_fieldsOf ho hd ?_);have Hw:Si "dict_keyiterator"=false:=rfl;simp only[Hw,PX,if_false];show OG _ _ (if (OV d == P2)=true then _ else _) _ _ s;rw[if_neg (show ¬((OV d == P2)=true) from OB)];refine Oe (Ot ?_);refine Oe (S4 Gs Ig ?_);rw[if_neg (by simp)];refine Oe (Ot ?_);refine Oe (Ug Gs Ig ?_);rw[if_neg (by simp)];refine Ot ?_;simp only[show ¬((i:Int)<0) from by omega,if_false,P7,T7 hge];refine Oe ?_
 first|refine Oe (Qm hit.typeIs (Ot ?_))|refine Oe (QS hit.typeIs (Ot ?_))
 show OG _ _ (setField (.ref it) 0 .none >>= _) _ _ s;refine Oe (SO ho hd (by simp) ?_);show OG _ _ (newExc (.type "StopIteration") [] >>= _) _ _ _;refine Oe ?_;simp only[newExc,newTuple];refine Oe (Pd ?_ (by size_fits));refine Oe (m:=UI _ _) (wpAny_of_eq (a:=P2) (by first|rfl|(simp only[UI];rfl)) ?_);refine Pd ?_ (by size_fits);simp only[raiseNew];refine Oe (wpAny_handled ?_);rw[show A.in1.handled=none from hh];refine Oe (Ot (wpAny_throw ?_));refine Oe (VR (T:="StopIteration") (b:=true) ⟨_,Oy _ rfl,rfl⟩ isSubtype_stop ?_);exact Ot (hQ _ (((Rl ..).extBut.push _).push _))
theorem zpc(hh:A.handled=none)(I:Addr)(ZA:d≠I) :
  Walks prog w A I [I,d] [I] es.size (fun i v=>∃h:i<es.size,v=es[i].key) (fun i h=>h.IsKeyIter I d i es.size ep/\Yu h d es ep) where
 sub:=fun b hb=>by simp_all
 frame:=fun _ _ _ st hk=>⟨st.1.at fun o e=>hk I (by simp) o e,st.2.at' fun o e=>hk d (by simp) o e⟩
 item:=fun i s Q E hi st hQ=>zpa st.1 st.2 hi fun h' Jn Ei=>hQ _ h' _ ⟨hi,rfl⟩ ⟨Jn,st.2.at' fun o e=>Ei.extBut d o ZA e⟩ fun b o hb e=>Ei.extBut b o (fun h=>hb (by simp[h])) e
 done:=fun s Q E st hQ=>zpb hh st.1 st.2 (Oo _) fun h' he'=>hQ h' _ fun b o hb e=>he' b o (fun h=>hb (by simp[h])) e
 self:=fun _ _ _ _ st hQ=>UA st.1 hQ
theorem zpd(lo:(d == Pu)=false):PySem.W.KdlSrc prog w "dict" d d es.size (fun i v=>∃h:i<es.size,v=es[i].key) (fun h=>Yu h d es ep) where
 type:=fun _ hm=>hm.typeIs
 there:=fun _ hm=>let ⟨_,h,_⟩:=hm;⟨Ow h,Ow h⟩
 keep:=fun _ _ hm hk=>hm.at' fun o e=>hk d (.inl rfl) o e
 notList:=rfl
 notTuple:=rfl
 hint:=fun _ _ _ _ hm hq=>PySem.W.kdl_hint_dict hm.typeIs hq
 iter:=fun _ _ hh hm=>⟨_,_,(fun _ _ hq=>zoz lo hm hq),zpc hh _ (OI (let ⟨_,h,_⟩:=hm;Ow h)),⟨⟨_,Oy _ rfl,rfl,rfl⟩,hm.at' fun o e=>Og _ e⟩⟩
end
end TK
namespace TK
open L2 D
abbrev cR:=List (Oa×Addr×V)
def iQ(p:Oa×Addr×V)(q:Oa×Addr×Oc):Prop:=p.1=q.1/\p.2.1=q.2.1/\RelV p.2.2 q.2.2
def BX(P:Oz)(w:OO)(e:Addr)(kvs:cR)(h:Heap):Prop:=(e == Pu)=false/\kvs.length<=Om/\∃xs,Ry iQ kvs xs/\(xs.map (·.1)).Nodup /\
 ∃o es ep,h.get? e=some o/\o.ExactDict/\o.data=.dict es ep/\es.toList=xs.map (Wd (kind P w))
noncomputable def TD(P:Oz)(w:OO)(e:Addr)(kvs:cR):HO:=.ext (BX P w e kvs)
theorem zi(x:BX P w e kvs h):XM P w H h e (TD P w e kvs):=⟨x,let ⟨_,_,_,_,_,o,_,_,a,_⟩:=x;⟨o,a⟩,fun h1 h2 y k=>let ⟨a,b,xs,c,d,o,es,ep,e1,r⟩:=y;⟨a,b,xs,c,d,o,es,ep,k _ e1,r⟩⟩
theorem sC(ok:Ys P w H h)(x:H e=some (TD P w e kvs)):BX P w e kvs h:=(ok e _ x).1
noncomputable def cj(kvs:cR)(k:Oa)(a:Addr)(v:V):cR:=if kvs.any (fun q=>decide (q.1=k))=true then kvs.map (fun q=>if q.1=k then (q.1,q.2.1,v) else q) else kvs++[(k,a,v)]
theorem uf:∀{kvs:cR}{xs:List (Oa×Addr×Oc)}{k:Oa},Ry iQ kvs xs->kvs.any (fun q=>decide (q.1=k))=(Te xs k).isSome
 |_,_,_,.nil=>rfl
 |p::ps,q::qs,k,.cons r t=>by
  have ih:=uf (k:=k) t;rw[Qz,ih];unfold Te;rw[PH,r.1]
  by_cases z:q.1=k
  .rw[decide_eq_true z];rfl
  .rw[decide_eq_false z];rfl
theorem zpe(rv:RelV v u)(r:Ry iQ kvs xs):Ry iQ (cj kvs k a v) (W3 xs k a u):=by
 unfold cj W3;rw[uf r];split
 .rename_i h
  clear h
  induction r with
  |nil=>exact .nil
  |cons r t ih=>
   refine .cons ?_ ih;show iQ (if _ then _ else _) (if _ then _ else _);rw[r.1];split
   .exact⟨rfl,r.2.1,rv⟩
   .exact r
 .rename_i h
  clear h
  induction r with
  |nil=>exact .cons ⟨rfl,rfl,rv⟩ .nil
  |cons r t ih=>exact .cons r ih
theorem qx(kvs:cR)(k:Oa)(a:Addr)(v:V):(cj kvs k a v).length<=kvs.length+1:=by
 unfold cj
 split <;> simp
section
variable {X:Cx}{pos pos':Pos}
theorem wc:PE X (.Dict [] [] pos) (fun _ H Q=>∀p,H p=none->Q (.ref p) (upd H p (TD X.prog X.w p []))):=fun pins s σ H Q I h=>
 wpAny_Dict_empty ⟨.ref _,_,I.laid    (fun _ _ q=>Og _ q) (Oo _)
  (zi ⟨beq_eq_false_iff_ne.mpr (Qd (OI I.big)),Pm _,[],.nil,SK,_,#[],0,Oy _ rfl,⟨rfl,rfl,rfl⟩,rfl,rfl⟩),rfl,h _ (I.hok.fresh (Oo _))⟩
def dC(K:Frag)(O:Addr->Prop)(H:Hp)(q:Oa×Addr):Prop:=tk 3 q.1=true/\Rep K O H (.ref q.2) q.1
theorem key_is(I:Inv X pins σ H s)(k:dC X.K O H q):(kind X.prog X.w).is s.heap q.1 q.2:=⟨k.1,let ⟨as,r,_⟩:=k.2.reads I rfl;⟨as,r⟩⟩
theorem xa(I:Inv X pins σ H s)(x:H e=some (TD X.prog X.w e kvs))(k:∀q∈kvs,dC X.K O H (q.1,q.2.1)) :
  (e == Pu)=false/\kvs.length<=Om/\∃xs,Ry iQ kvs xs/\s.heap.DictOfH (kind X.prog X.w) e xs:=by
 obtain⟨a,b,xs,c,d,o,es,ep,e1,e2,e3,e4⟩:=sC I.hok x;refine⟨a,b,xs,c,o,es,ep,e1,e2,e3,e4,?_,d⟩;clear e4 d b x e1
 induction c with
 |nil=>simp_all
 |cons r t ih=>
  intro y hy
  rcases Ox.mp hy with rfl|hy
  .have:=key_is I (k _ Oh)
   rw[r.1,r.2.1] at this<;>omega
  .exact ih (fun q hq=>k q (Of _ hq)) y hy
inductive Cg(X:Cx)(v x y:V)(σ:L2.St)(H:Hp)(D:Ends):Prop where
 |mk (O:Addr->Prop) (a:Addr) (kvs:cR) (b:Addr) (k:Oa) (ex:x=.ref a) (ey:y=.ref b) (e:H a=some (TD X.prog X.w a kvs)) (ks:∀q∈kvs,dC X.K O H (q.1,q.2.1)) (kb:dC X.K O H (k,b)) (hl:kvs.length<Om) (q:D.nx σ (upd H a (TD X.prog X.w a (cj kvs k b v)))):Cg X v x y σ H D
noncomputable def IT(X:Cx)(td ty tv:TE):TS:=fun D σ H=>tv σ H fun v H1=>td σ H1 fun x H2=>ty σ H2 fun y H3=>Cg X v x y σ H3 D
theorem qR(hu:X.A.units+9<Tb)(ho:PE X o td)(hi:PE X i ty)(hv:PE X value tv)(hs:autoParam (PB value (some (.Subscript o i pos')) pos.line X.env=pure false) u10) :
  PS X (.Assign [.Subscript o i pos'] value pos) (IT X td ty tv):=by
 intro pins s σ H D I h;refine TU (XD (hv pins s σ H _ I h) fun r s1 ⟨v,H1,I1,rv,q1⟩=>XD (ho pins s1 σ H1 _ I1 q1) fun u s2 ⟨x,H2,I2,rx,q2⟩=>XD (hi pins s2 σ H2 _ I2 q2) fun iv s3 ⟨y,H3,I3,ry,O,a,kvs,b,k,ex,ey,e,ks,kb,hl,q3⟩=>?_) hs;subst ex ey;obtain rfl:u=OV a:=rx;obtain rfl:iv=OV b:=ry;obtain⟨lo,_,xs,pr,dd⟩:=xa I3 e ks
 have Zc:xs.length<=sizeLine:=by rw[←Qh pr];omega
 refine U7 (hsz:=Zc) (by show X.A.units+1+8<Tb;omega) (key_is I3 kb) dd fun h' AE hs=>?_;obtain⟨q,es,ep,hq,h2,h3,h4,_,h5⟩:=AE;refine⟨σ,_,nL I3 (by rw[e];exact P4) hs ⟨q,hq⟩ (zi ⟨lo,?_,_,zpe rv pr,h5,q,es,ep,hq,h2,h3,h4⟩),q3⟩;exact OC (qx kvs k b v) hl
theorem vn{P:Oz}{w:OO}:∀{kvs:cR}{xs:List (Oa×Addr×Oc)}{us:List Oc},Ry iQ kvs xs->us=xs.map (fun x=>OV x.2.1)->Xv (kvs.map fun q=>V.ref q.2.1) us
 |_,_,_,.nil,e=>by subst e;exact .nil
 |_,_,_,.cons r t,e=>by
  subst e;refine .cons ?_ (vn (P:=P) (w:=w) t rfl)
  simp_all
  rw[r.2.1];exact rfl
theorem zpf(hcm:X.calm=true):XW X (.type "list") (fun xs H Q=>∃a kvs,xs=[V.ref a]/\H a=some (TD X.prog X.w a kvs)/\∀l,H l=none->Q (.ref l) (upd H l (.lst (kvs.map fun q=>.ref q.2.1)))):=by
 intro pins s σ H xs us Q I r h;obtain⟨a,kvs,rfl,ha,q⟩:=h;obtain⟨u,rfl,ru⟩:=vals1 r;cases ru;obtain⟨lo,hl,xs,pr,nd,o,es,ep,e1,e2,e3,e4⟩:=sC I.hok ha;have hsz:es.size=xs.length:=size_of_entries e4;have X7:kvs.length=xs.length:=Qh pr;refine PySem.W.kdl_call (zpd (prog:=X.prog) (w:=X.w) (es:=es) (ep:=ep) lo) (I.ok.hd hcm) ⟨o,e1,e2,e3⟩ (by lia) fun h' tk acc c k1 k2 k3=>?_
 have hv:Xv (kvs.map fun q=>V.ref q.2.1) acc.toList:=vn (P:=X.prog) (w:=X.w) pr (by
  refine Vo fun j=>?_;have k4:=k3.2 j
  by_cases hj:j<es.size
  .have AS:j<acc.size:=by rw[k3.1];exact hj
   obtain⟨_,k5⟩:=k4 acc[j] (by simp);rw[Uu,Rk AS,k5];have:=entry_at e4 j;rw[Rk hj] at this;rw[O7]
   cases hx:xs[j]? with
   |none=>rw[hx] at this;cases this
   |some x=>
    rw[hx] at this;have e5:es[j]=Wd (kind X.prog X.w) x:=Qv this;rw[e5];rfl
  .rw[Uu,T7 (by rw[k3.1];lia),O7,List.getElem?_eq_none (by lia)]
   rfl)
 have hn:H s.heap.objs.size=none:=I.hok.fresh (Oo _);exact⟨.ref s.heap.objs.size,_,I.laid (t':=tk) (o:=.lst (kvs.map fun q=>.ref q.2.1)) k1 (Oo _) ⟨by simp;lia,acc.toList,c,hv,by simpa using k2⟩,rfl,q _ hn⟩
noncomputable def gn(kvs:cR)(k:Oa):Option V:=(kvs.find? fun q=>decide (q.1=k)).map (·.2.2)
theorem ue{k:Oa}:∀{kvs:cR}{xs:List (Oa×Addr×Oc)},Ry iQ kvs xs->match gn kvs k,(Te xs k).map (·.2) with
  |some v,some u=>RelV v u
  |none,none=>True
  |_,_=>False
 |_,_,.nil=>P4
 |p::ps,q::qs,.cons r t=>by
  have ih:=ue (k:=k) t;unfold gn Te at ih ⊢;rw[PH,PH,r.1]
  by_cases z:q.1=k
  .rw[decide_eq_true z]
   exact r.2.2
  .rw[decide_eq_false z]<;>omega
theorem zpg(hu:X.A.units+10<Tb):Dl X "dict.get" (fun x vs H Q=>∃O a kvs b k,x=.ref a/\vs=[.ref b]/\H a=some (TD X.prog X.w a kvs)/\(∀q∈kvs,dC X.K O H (q.1,q.2.1))/\dC X.K O H (k,b)/\Q ((gn kvs k).getD .non) H):=by
 intro pins s σ H x vs v us Q I rx rv h;obtain⟨O,a,kvs,b,k,rfl,rfl,ha,ks,kb,q⟩:=h;cases rx;obtain⟨lo,_,xs,pr,dd⟩:=xa I ha ks
 cases rv with
 |cons r1 r2=>
 cases r2;cases r1;have vv:=ue (k:=k) pr;refine call_meetsIn Uv dd.typeIs PySem.F.entry_dict_get (PySem.F.args_dict_get_2 _ _) (meetsH_dict_get (kind X.prog X.w) a b lo) ⟨show X.A.units+1+8<Tb from by lia,k,xs,key_is I kb,dd,?_⟩
 cases e1:gn kvs k with
 |none=>
  cases e2:(Te xs k).map (·.2) with
  |none=>rw[e1] at q;exact⟨.non,H,I.tok _,rfl,q⟩
  |some u=>simp_all
 |some v=>
  cases e2:(Te xs k).map (·.2) with
  |none=>simp_all
  |some u=>rw[e1,e2] at vv;rw[e1] at q;exact⟨v,H,I.tok _,vv,q⟩
theorem zph(hu:X.A.units+10<Tb)(ho:PE X o to)(ha:PA X [e] t)
  (XZ:autoParam (PD o "get" X.env (eval o X.env)=eval o X.env) u10)
  (Yl:autoParam (((Pe Xu (Ol [e] X.env)).all (fun x=>!x.1)&&(QJ Xu (PN [] X.env)).all (fun x=>x.1.isSome)
   && decide (([e]:List Expr).length+([]:List Qk).length+(if ([]:List Qk).isEmpty then 0 else 1)<30))=true) u10)
  (XY:autoParam ((apos.endLine == Xu.line)=true) u10) (hs:autoParam (Ol [e] X.env=(false,eval e X.env)::Ol [] X.env) u10) (XN:autoParam ((Pe Xu (Ol [] X.env)).any (·.1)=false) u10) :
  PE X (.Call (.Attribute o "get" apos) [e] [] Xu) (fun σ H Q=>to σ H fun x H1=>(∃a kvs,x=.ref a/\H1 a=some (TD X.prog X.w a kvs))/\t σ H1 fun xs H2=>∃O a kvs b k,x=.ref a/\xs=[.ref b]/\H2 a=some (TD X.prog X.w a kvs)/\(∀q∈kvs,dC X.K O H2 (q.1,q.2.1))/\dC X.K O H2 (k,b)/\Q ((gn kvs k).getD .non) H2):=by
 intro pins s σ H Q I h;refine TN XZ Yl XY rfl (XD (ho pins s σ H _ I h) fun v s1 ⟨x,H1,I1,r1,ty,q1⟩=>?_);obtain⟨a,kvs,rfl,hk⟩:=ty;cases r1;obtain⟨_,_,_,_,_,ob,_,_,e1,ex,_⟩:=sC I1.hok hk;refine⟨"dict","dict.get",PySem.F.plainAttrs_dict,Uv,PySem.F.type_dict_get,⟨ob,e1,ex.1⟩,fun a e2=>?_,?_⟩
 .cases e2
  exact⟨ob,e1,ex.2.1⟩
 have hA:=ha Xu pins s1 σ H1 _ I1 q1;rw[hs] at hA ⊢;refine TQ (by show (false||(Pe Xu (Ol [] X.env)).any (·.1))=false;rw[XN] <;> rfl) (Uz ?_);exact XD hA fun us s2 ⟨vs,H2,I2,r2,q2⟩=>zpg hu pins s2 σ H2 (.ref a) vs (.ref a) us Q I2 rfl r2 q2
end
theorem zpi(kvs:cR)(k k':Oa)(a:Addr)(v:V):gn (cj kvs k a v) k'=if k'=k then some v else gn kvs k':=by
 unfold cj gn
 by_cases hk:k'=k
 .subst hk
  rw[if_pos rfl];split
  .rename_i h
   induction kvs with
   |nil=>cases h
   |cons p ps ih=>
    rw[OU,PH]
    by_cases z:p.1=k'
    .simp_all
    .rw[if_neg z,decide_eq_false z]
     rw[Qz,decide_eq_false z,Bool.false_or] at h;exact ih h
  .rename_i h
   have n:kvs.find? (fun q=>decide (q.1=k'))=none:=by
    rw[List.find?_eq_none];intro q hq z;exact h (Tu.mpr ⟨q,hq,z⟩)
   rw[List.find?_append,n,PH,decide_eq_true rfl];rfl
 .rw[if_neg hk]
  split
  .rename_i h
   clear h
   induction kvs with
   |nil=>rfl
   |cons p ps ih=>
    rw[OU,PH,PH]
    by_cases z:p.1=k
    .rw[if_pos z,decide_eq_false (show ¬(p.1,p.2.1,v).1=k' from fun y=>hk (y.symm.trans z))]
     exact ih
    .rw[if_neg z]
     by_cases y:p.1=k'
     .rw[decide_eq_true y]
     .rw[decide_eq_false y]
      exact ih
  .grind
end TK
namespace D
open L2
theorem Ym.trans(h:Ym O H O1 H1)(g:Ym O1 H1 O2 H2):Ym O H O2 H2:=fun a o n p e=>let ⟨n1,e1⟩:=h a o n p e;g a o n1 p e1
theorem Ym.refl:Ym O H O H:=fun _ _ n _ e=>⟨n,e⟩
theorem Ym.same(s:Xx [] H H'):Ym O H O H':=fun a o n _ e=>⟨n,s a o (by simp) e⟩
theorem Ym.new(h:H p=none)(o:HO):Ym O H O (upd H p o):=.same (.new h o)
theorem Ym.put(h:O p\/∃q,H p=some q/\rS q=false):Ym O H O (upd H p u):=fun a o n pl e=>by
 refine⟨n,?_⟩
 rw[aK]<;>grind
end D
namespace TK
open L2 D
def Tr(O:Addr->Prop)(H:Hp):Prop:=∀b,O b->D.Y9 (H b)
theorem Tr.hc{K:Frag}{O:Addr->Prop}{H:Hp}(t:Tr O H):HC K O [] H []:=⟨fun b hb=>(by simp_all),t,SK,rfl,fun i a xs e _=>by simp at e⟩
theorem Tr.same(t:Tr O H)(s:Xx [] H H'):Tr O H':=fun b hb=>(t b hb).to fun u e=>s b u (by simp) e
theorem Tr.fresh(t:Tr O H)(h:H p=none):¬O p:=fun z=>by
 obtain⟨u,e⟩:=(t p z).ex<;>grind
noncomputable def putL(ls:List Oa)(l:Oa):List PyData:=if l∈ls then ls else ls++[l]
theorem zpj(kvs:cR)(k:Oa)(a:Addr)(v:V):(cj kvs k a v).map (·.1)=putL (kvs.map (·.1)) k:=by
 unfold cj putL
 have e:kvs.any (fun q=>decide (q.1=k))=true↔k∈kvs.map (·.1):=by simp
 by_cases h:k∈kvs.map (·.1)
 .rw[if_pos h,if_pos (e.mpr h),RP]
  refine P8 fun q _=>?_;show (if q.1=k then _ else q).1=q.1
  split <;> rfl
 .rw[if_neg h,if_neg (fun z=>h (e.mp z)),Rx]
  rfl
theorem zpk(h:q∈cj kvs k a v):(q.1,q.2.1)=(k,a)\/∃q'∈kvs,(q.1,q.2.1)=(q'.1,q'.2.1):=by
 unfold cj at h;split at h
 .obtain⟨q',h1,rfl⟩:=OF.mp h
  refine .inr ⟨q',h1,?_⟩
  split <;> rfl
 .rcases OD.mp h with h|h
  .exact .inr ⟨q,h,rfl⟩
  .rw[OK] at h
   subst h;exact .inl rfl
section
variable {K:Frag}{O O1:Addr->Prop}{ts:List Addr}{H:Hp}{σ:L2.St}{ρ:Xw}
theorem cy:X9 K O ts H σ []:=fun i w e=>by simp at e
theorem aM(h:X9 K O ts H σ ρ):X9 K O ts H (v::σ) (none::ρ):=fun i w e=>by
 cases i with
 |zero=>simp at e
 |succ i=>exact h i w (by simpa using e)
theorem br(r:Yz K O ts H v w)(h:X9 K O ts H σ ρ):X9 K O ts H (some v::σ) (some w::ρ):=fun i u e=>by
 cases i with
 |zero=>
  simp_all
 |succ i=>exact h i u (by simpa using e)
def but(O:Addr->Prop)(a:Addr):Addr->Prop:=fun c=>O c/\c≠a
theorem sv(a:Addr):Ym O H (but O a) H:=fun _ _ n _ e=>⟨fun z=>n z.1,e⟩
theorem zb(t:Tr O H)(a:Addr):Tr (but O a) H:=fun c h=>t c h.1
theorem zpl(h:H a=some (.lst us))(r:Xs K O H us ds):Rep K (but O a) H (.ref a) (.list ds):=.lst (.inl ⟨fun z=>z.2 rfl,.inl h⟩) (Xs.monoP (sv a) r)
end
theorem vY{K:Frag}{O:Addr->Prop}{H:Hp}:∀{kvs:cR},(∀q∈kvs,dC K O H (q.1,q.2.1))->Xs K O H (kvs.map fun q=>.ref q.2.1) (kvs.map (·.1))
 |[],_=>.nil
 |q::r,h=>.cons (h q Oh).2 (vY fun z hz=>h z (Of _ hz))
theorem Fe(hr:XA k A):A.units+9<cLine:=by have:=hr.un;lia
noncomputable def Km(t:TS):TS:=fun D σ H=>∃M:L2.St->Hp->Prop,t { D with nx:=M } σ H/\∀σ' H',M σ' H'->D.nx σ' H'
theorem yy{X:Cx}{st:Stmt}{t:TS}(h:PS X st t):PS X st (Km t):=by
 intro pins s σ H D I ⟨M,a,b⟩;refine XD (h pins s σ H _ I a) fun f s' q=>?_
 cases f with
 |next=>obtain⟨D5,H7,I7,n7⟩:=q;exact⟨D5,H7,I7,b _ _ n7⟩
 |cont=>exact q
 |brk=>exact q
 |ret v=>exact q
theorem zpm{K:Frag}{a:Addr}{xs:List V}{g:TG}{tb:TS}{D:Ends}{σ:L2.St}{H:Hp}(Pv:Nat->L2.St->Hp->Prop)(h0:Pv 0 σ H)(hl:∀i σ H,i<=xs.length->Pv i σ H->Yn K H a xs)
  (hs:∀i x σ H p,xs[i]? = some x->H p=none->Pv i σ H->g (.ref p) σ (upd H p (.tup [.int (i:Int),x])) fun YW H2=>tb { D with nx:=Pv (i+1),ct:=Pv (i+1),bk:=D.nx } YW H2) (hd:∀σ H,Pv xs.length σ H->D.nx σ H) :
  ∃W:Nat->Nat->L2.St->Hp->Prop,(∃m,W 0 m σ H)/\∀i m σ H,W i m σ H ->
   ((mG K a).stop i H/\D.nx σ H)\/((mG K a).go i H/\∃N:L2.St->Hp->Prop,(∀σ' H',N σ' H'->∃m',m' < m/\W (i+1) m' σ' H')/\∀x H',(mG K a).yld i H x H'->g x σ H' fun YW H2=>tb { D with nx:=N,ct:=N,bk:=D.nx } YW H2):=by
 refine⟨fun i m σ H=>m=xs.length-i/\i<=xs.length/\Pv i σ H,⟨xs.length,by simp,Pm _,h0⟩,?_⟩;rintro i m σ H ⟨rfl,hi,p⟩;have q:=hl i σ H hi p
 by_cases Yq:i<xs.length
 .refine .inr ⟨⟨xs,q,Yq⟩,Pv _,fun σ' H' p'=>⟨xs.length-_,by omega,rfl,Yq,p'⟩,fun x H' y=>?_⟩
  obtain⟨b,v,e1,e2,rfl,rfl⟩:=y;exact hs i v σ _ b (e2 xs q) e1 p
 .have e:i=xs.length:=by omega
  subst e;exact .inl ⟨⟨xs,q,rfl⟩,hd σ H p⟩
end TK
namespace G
open L2 D
noncomputable def top(i:Nat):Stmt:=PySem.Challenge.pw_redo_k60_found_on_a_shelf.main.body.getD i (.Pass ⟨0,0,0,0⟩)
noncomputable def cE(i j:Nat):Stmt:=match top i with
 |.ClassDef _ _ _ b _ _ _ _ _ _ _=>b.getD j (.Pass ⟨0,0,0,0⟩)
 |s=>s
abbrev zS:List (Str×Nat):=("is_whole",8)::("has_only",9)::("is_name",10)::("is_single",11)::("is_built",12)::("many_of",14)::("is_value",13)::("exprs_within",18)::("got_behind",25)::("is_honest",26)::("stamp_of",34)::("is_figures",41)::("number_by",40)::("single_by",39)::("single_at",38)::("row_at",37)::("value_at",36)::("value_by",35)::("filling_words",47)::("expr_words",46)::("recipe_words",45)::("show_recipe",44)::("put_by",54)::("number_below",55)::("exprs_by",52)::("expr_by",51)::("name_by",53)::("recipe_by",50)::("read_recipe",49)::("recipe_or_none",57)::("told_less",66)::("bounded",61)::("told_many",62)::("told_part",63)::("told_sum",64)::("told_join",65)::("told_of",60)::("told_by",59)::("step_of",71)::("followed",70)::("replay",69)::("is_stamp",76)::("is_read",75)::("are_reads",74)::("is_end",77)::("comes_to",78)::("is_entry",81)::("_law_draws",83)::("_law_names",84)::("_law_next",85)::("_law_value",86)::("_law_leaf",87)::("_law_expr",88)::("_law_recipe",89)::("_law_size",90)::("_law_great",91)::("_law_both",92)::("_law_tells",93)::("_law_stamp",94)::("_law_is_name",95)::("_law_run",96)::("_law_doing",97)::("_law_entry",98)::("_law_recipe_by",99)::("_law_entries",100)::("_law_due",101)::("_law_alike",102)::("law",103)::[]
abbrev zZ:List Str:="enumerate"::["abs","all","bool","int","isinstance","len","list","max","range","str","sum","tuple"]
abbrev zI:List (Str×Int):=[("MOST_DEEP",20),("MOST_FIGURES",19),("MOST_IN_ROW",8),("MOST_LETTERS",8),("MOST_PARTS",8),("MOST_PARTS_IN_ALL",60),("MOST_READS",12),("MOST_ROWS",4),("MOST_SIGNS",20),("MOST_VALUES",40),("MOST_WANTS",12)]
abbrev zT:List (Str×Str):=[("FIGURES","0123456789"),("LETTERS","abcdefghijklmnopqrstuvwxyz"),("TEXT_SIGNS","abcdefghijklmnopqrstuvwxyz0123456789-")]
structure Bi(K:Frag)(mg:Str->Option Oc)(C:Addr):Prop extends Bz K mg zZ zI zT where
 k_Words:ZD K C
 m_Words:mg "Words"=some (.ref C)
 n_Words_begun:X0 K C "begun"
 n_Words_parted:X0 K C "parted"
 n_Words_place:X0 K C "place"
 d_Words____init__:YX K C "__init__" "Words.__init__" (cE 48 0)
 d_Words__ahead:YX K C "ahead" "Words.ahead" (cE 48 1)
 d_Words__take:YX K C "take" "Words.take" (cE 48 2)
 d_Words__begin:YX K C "begin" "Words.begin" (cE 48 3)
 d_Words__finish:YX K C "finish" "Words.finish" (cE 48 4)
 gC:Im K C=true
 t_RECIPES_WITHIN:pz K mg "RECIPES_WITHIN" [("say",0),("fail",0),("want",1),("peek",1),("when",2)]
 t_WITHIN:pz K mg "WITHIN" [("many",1),("part",2),("sum",2),("join",2),("same",2),("less",2)]
 s_NOT_GIVEN:Ao K mg "NOT_GIVEN" [("want","wants"),("peek","peeks")]
 g_FILLED:tD K mg "FILLED" ["put","got","row"]
 g_GETTING:tD K mg "GETTING" ["want","peek"]
section
variable {P:Oz}{w:OO}{K:Frag}{mg:Str->Option Oc}{base:Heap}{C:Addr}(E:Ev P w K mg base (Bi K mg C) top zS)
include E
theorem zpn:Bw P w K mg base C ["self","text"] 1 (XF K 2 (iR C)):=zif E.b E.b.d_Words____init__ E.b.gC ["self","text"] fun B S hr=>(ap (lR B.k_Words B.n_Words_parted (ae 0) (zgt (ae 1) ax)) (ap (lR B.k_Words B.n_Words_place (ae 0) aj) (ar (lR B.k_Words B.n_Words_begun (ae 0) aj))))
theorem kP:Dx P w K mg base C "ahead" ["self"] 1 (XF K 1 (hJ C)):=oK E.b E.b.d_Words__ahead ["self"] fun B S hr=>(ar (az (fJ (aF dI (gL B.k_Words B.n_Words_place (ae 0)) (bh bv rfl B.z O5 (ah (gL B.k_Words B.n_Words_parted (ae 0)) ao))) (av au (gL B.k_Words B.n_Words_parted (ae 0)) (gL B.k_Words B.n_Words_place (ae 0))) ax)))
theorem mK:Dx P w K mg base C "take" ["self","fits"] 1 (XF K 2 (iT C)):=oK E.b E.b.d_Words__take ["self","fits"] fun B S hr=>(ap (aG (bJ (bf (ae 1))) (ar xR) aI) (ar (lR B.k_Words B.n_Words_place (ae 0) (aJ aX (gL B.k_Words B.n_Words_place (ae 0)) aj))))
theorem tL:Dx P w K mg base C "begin" ["self","fits","above"] 2 (XF K 3 (kO C)):=oK E.b E.b.d_Words__begin ["self","fits","above"] fun B S hr=>(ap (ja (jU (mK E) B.k_Words (hr.mono (by lia)) (ae 0) (ah (dh (ae 1) (dh (bQ dI (ae 2) (eP rfl B.i)) (dR (bQ dI (gL B.k_Words B.n_Words_begun (ae 0)) (eP rfl B.i))))) ao) (bc cu))) (ar (lR B.k_Words B.n_Words_begun (ae 0) (aJ aX (gL B.k_Words B.n_Words_begun (ae 0)) aj))))
theorem zpo:Dx P w K mg base C "finish" ["self"] 1 (XF K 1 (jA C)):=oK E.b E.b.d_Words__finish ["self"] fun B S hr=>(ar (aG (aF dI (gL B.k_Words B.n_Words_place (ae 0)) (bh bv rfl B.z O5 (ah (gL B.k_Words B.n_Words_parted (ae 0)) ao))) (ar xR) aI))
theorem ie:Fn P w K mg base "is_whole" ["thing"] 1 (XF K 1 fq):=aU E 8 ["thing"] fun B S hr=>(ar (az (dh (bx .int B.z (ae 0) B.z Rb) (dR (ox (bx .bl B.z (ae 0) B.z boot_bool))))))
theorem pU:Fn P w K mg base "has_only" ["text","signs"] 1 (XF K 2 fV):=aU E 9 ["text","signs"] fun B S hr=>(ar (az (bh mr rfl B.z Vx (ah (e8 (top 9) ["text","signs"] (cM (ae 0)) (bQ gW (ae 0) (ae 2))) ao))))
theorem mZ:Fn P w K mg base "is_name" ["thing"] 2 (XF K 1 eM):=aU E 10 ["thing"] fun B S hr=>(ar (az (dh (bx .str B.z (ae 0) B.z Qn) (dh (wM fR fR aj (bh bv rfl B.z O5 (ah (ae 0) ao)) (eP rfl B.i)) (dR (cK (pU E) hr (ae 0) (qK rfl B.s)))))))
theorem zpp:Fn P w K mg base "is_single" ["thing"] 2 (XF K 1 kW):=aU E 11 ["thing"] fun B S hr=>(ap (aG (bf (aS (ie E) hr (ae 0))) (ar (az (bQ fR (bh zfu rfl B.z boot_abs (ah (ae 0) ao)) (aJ lY aj aj)))) aI) (ar (az (dh (bx .str B.z (ae 0) B.z Qn) (dh (bQ fR (bh bv rfl B.z O5 (ah (ae 0) ao)) (eP rfl B.i)) (dR (cK (pU E) hr (ae 0) (qK rfl B.s))))))))
theorem zpq:∀n,Fn P w K mg base "is_built" ["thing","rows_left"] (2+n) (XF K 2 (fU n)):=dH (dB E 12) fun n ih=>aU (k:=2+n) E 12 ["thing","rows_left"] fun B S hr=>(ap (aG (bJ (bf (bx .tup B.z (ae 0) B.z Px))) (ar (az (aS (zpp E) hr (ae 0)))) aI) (ap (aG (bK (cx (aF aR (ae 1) aj) (df (aF eB (bh bv rfl B.z O5 (ah (ae 0) ao)) (eP rfl B.i))))) (ar (az gm)) aI) (ar (az (bh mr rfl B.z Vx (ah (e8 (top 12) ["thing","rows_left"] (cM (ae 0)) (cK ih hr (ae 0) (aJ iE (ae 2) aj))) ao))))))
theorem zpr:∀n,Fn P w K mg base "many_of" ["value"] (0+n) (XF K 1 (iZ n)):=dH (dB E 14) fun n ih=>aU (k:=0+n) E 14 ["value"] fun B S hr=>(ap (aG (bJ (bf (bx .tup B.z (ae 0) B.z Px))) (ar (az aj)) aI) (ar (az (aJ aX aj (bh zfw rfl B.z boot_sum (ah (e8 (top 14) ["value"] (cM (ae 0)) (aS ih hr (ae 0))) ao))))))
theorem um:Fn P w K mg base "is_value" ["thing"] 28 (XF K 1 jH):=aU E 13 ["thing"] fun B S hr=>(ar (az (dh (cK (zpq E 25) hr (ae 0) (eP rfl B.i)) (dR (bQ fR (aS (zpr E 25) hr (ae 0)) (eP rfl B.i))))))
theorem tK:Fn P w K mg base "exprs_within" ["expr"] 1 (XF K 1 cA):=aU E 18 ["expr"] fun B S hr=>(ap (aG (bK (cx (aF aR (av au (ae 0) aj) ax) (df (aF aR (av au (ae 0) aj) ax)))) (ar (az (cN ao))) aI) (ap (aG (aF aR (av au (ae 0) aj) ax) (ar (az (cX za rfl B.z WZ (ah (av au (ae 0) aj) ao)))) aI) (ar (az (cX za rfl B.z WZ (ah (dq (ae 0) (cp aj) eU) ao))))))
theorem zps:Fn P w K mg base "got_behind" ["word","got"] 1 (XF K 2 kQ):=aU E 25 ["word","got"] fun B S hr=>(ar (az (fJ (aF gW (ae 0) (qJ (ss:=["want","peek"]) rfl B.g_GETTING)) (aJ aX (ae 1) aj) (ae 1))))
theorem zpt:∀n,Fn P w K mg base "is_honest" ["recipe"] (0+n) (XF K 1 (hZ n)):=dH (dB E 26) fun n ih=>aU (k:=0+n) E 26 ["recipe"] fun B S hr=>(ap (aG (aF aR (av au (ae 0) aj) ax) (ar (az gm)) aI) (ar (az (bh mr rfl B.z Vx (ah (e8 (top 26) ["recipe"] (cM (dq (ae 0) (cp aj) eU)) (aS ih hr (ae 0))) ao)))))
theorem ul:∀n,Fn P w K mg base "stamp_of" ["value"] (1+n) (XF K 1 (fm n)):=dH (dB E 34) fun n ih=>aU (k:=1+n) E 34 ["value"] fun B S hr=>(ap (aG (bf (aS (ie E) hr (ae 0))) (ar (az (cX mq rfl B.z Qn (ah (ae 0) ao)))) aI) (ap (aG (bf (bx .str B.z (ae 0) B.z Qn)) (ar (az (aJ aX ax (ae 0)))) aI) (ar (az (aJ aX (aJ aX ax (rz ax (e8 (top 34) ["value"] (cM (ae 0)) (aS ih hr (ae 0))))) ax)))))
theorem zpu:Fn P w K mg base "is_figures" ["text"] 2 (XF K 1 hU):=aU E 41 ["text"] fun B S hr=>(ap (aG (bK (cx (aF aR (ae 0) ax) (df (bJ (bf (cK (pU E) hr (ae 0) (qK rfl B.s))))))) (ar (az gm)) aI) (ar (az (oJ (bQ aR (ae 0) ax) (dR (ox (ql (ae 0) ax)))))))
theorem zpv:Fn P w K mg base "number_by" ["word"] 3 (XF K 1 kU):=aU E 40 ["word","figures"] fun B S hr=>(ap (aQ (i:=1) S.nd (fJ (bf (ql (ae 0) ax)) (dq (ae 0) (cp aj) eU) (ae 0))) (ap (aG (bK (cx (aF aR (ae 0) ax) (cx (aF eB (bh bv rfl B.z O5 (ah (ae 1) ao)) (eP rfl B.i)) (df (bJ (bf (aS (zpu E) hr (ae 1)))))))) (ar (az ef)) aI) (ar (az (cX oN rfl B.z Rb (ah (ae 0) ao))))))
theorem zpw:Fn P w K mg base "single_by" ["word"] 4 (XF K 1 kT):=aU E 39 ["word"] fun B S hr=>(ap (aG (bf (ql (ae 0) ax)) (ar (az (dq (ae 0) (cp aj) eU))) aI) (ar (az (aS (zpv E) hr (ae 0)))))
theorem zpx:Fn P w K mg base "single_at" ["text","at"] 5 (XF K 2 jE):=aU E 38 ["text","at","behind","single"] fun B S hr=>(ap (aQ (i:=2) S.nd (ae 1)) (ap (lj 100000 (bK (eF (aF dI (ae 2) (bh bv rfl B.z O5 (ah (ae 0) ao))) (eS (aF xu (av au (ae 0) (ae 2)) ax)))) (ar (aQ (i:=2) S.nd (aJ aX (ae 2) aj)))) (ap (aQ (i:=3) S.nd (aS (zpw E) hr (dq (ae 0) (cp (ae 1)) (cp (ae 2))))) (ar (az (fJ (aF tf (ae 3) ef) ef (aP (ah (ae 3) (ah (ae 2) ao)))))))))
theorem zpy:∀n,Fn P w K mg base "row_at" ["text","at","rows_left"] (5+n) (XF K 3 (lc n))/\Fn P w K mg base "value_at" ["text","at","rows_left"] (5+n) (XF K 3 (eE n)):=dH ⟨(dB E 37),(dB E 36)⟩ fun n ih=>⟨(aU (k:=5+n) E 37 ["text","at","rows_left","parts","found","sign"] fun B S hr=>(ap (aG (aF aR (dq (ae 0) (cp (ae 1)) (cp (aJ aX (ae 1) aj))) ax) (ar (az (aP (ah (aP ao) (ah (aJ aX (ae 1) aj) ao))))) aI) (ap (gG (i:=3) S.nd ao) (ar (lj 100000 (bf gm) (ap (aQ (i:=4) S.nd (dE ih.2 hr (ae 0) (ae 1) (ae 2))) (ap (aG (aF tf (ae 4) ef) (ar (az ef)) aI) (ap (gc (i:=3) (by exact(av au (ae 4) aj))) (ap (aQ (i:=1) S.nd (aJ aX (av au (ae 4) aj) aj)) (ap (aQ (i:=5) S.nd (dq (ae 0) (cp (av au (ae 4) aj)) (cp (ae 1)))) (ap (aG (aF aR (ae 5) ax) (ar (az (aP (ah (cX jb rfl B.z Px (ah (ae 3) ao)) (ah (ae 1) ao))))) aI) (ar (aG (aF kH (ae 5) ax) (ar (az ef)) aI))))))))))))),(aU (k:=5+n) E 36 ["text","at","rows_left"] fun B S hr=>(ap (aG (aF kH (dq (ae 0) (cp (ae 1)) (cp (aJ aX (ae 1) aj))) ax) (ar (az (cK (zpx E) hr (ae 0) (ae 1)))) aI) (ap (aG (aF aR (ae 2) aj) (ar (az ef)) aI) (ar (az (dE ih.1 hr (ae 0) (aJ aX (ae 1) aj) (aJ iE (ae 2) aj)))))))⟩
theorem zpz:Fn P w K mg base "value_at" ["text","at","rows_left"] 30 (XF K 3 (eE 25)):=(zpy E 25).2
theorem pT:Fn P w K mg base "value_by" ["text"] 31 (XF K 1 ic):=aU E 35 ["text","found"] fun B S hr=>(ap (aQ (i:=1) S.nd (dE (zpz E) hr (ae 0) aj (eP rfl B.i))) (ap (aG (bK (cx (aF tf (ae 1) ef) (df (aF dI (av au (ae 1) aj) (bh bv rfl B.z O5 (ah (ae 0) ao)))))) (ar (az ef)) aI) (ar (az (fJ (bf (aS (um E) hr (av au (ae 1) aj))) (av au (ae 1) aj) ef)))))
theorem zqa:Fn P w K mg base "filling_words" ["expr"] 27 (XF K 1 g7):=aU E 47 ["expr"] fun B S hr=>(ap (aG (aF aR (av au (ae 0) aj) ax) (ar (az (cN (ah (aS (ul E 25) hr (av au (ae 0) aj)) ao)))) aI) (ap (aG (aF aR (av au (ae 0) aj) ax) (ar (az (cN (ah (cX mq rfl B.z Qn (ah (av au (ae 0) aj) ao)) ao)))) aI) (ap (aG (aF aR (av au (ae 0) aj) ax) (ar (az (cN (ah (cX mq rfl B.z Qn (ah (bh bv rfl B.z O5 (ah (av au (ae 0) aj) ao)) ao)) ao)))) aI) (ar (az (cN ao))))))
theorem zqb:∀n,Fn P w K mg base "expr_words" ["expr"] (27+n) (XF K 1 (gx n)):=dH (dB E 46) fun n ih=>aU (k:=27+n) E 46 ["expr","words","part"] fun B S hr=>(ap (xQ (i:=1) S.nd (cN (ah (av au (ae 0) aj) ao)) (aS (zqa E) hr (ae 0))) (ap (fB (i:=2) S.nd (cM (aS (tK E) hr (ae 0))) (ar (yW (i:=1) (by exact(aS ih hr (ae 2)))))) (ar (az (ae 1)))))
theorem zqc:∀n,Fn P w K mg base "recipe_words" ["recipe"] (52+n) (XF K 1 (g9 n)):=dH (dB E 45) fun n ih=>aU (k:=52+n) E 45 ["recipe","words","part"] fun B S hr=>(ap (aG (aF aR (av au (ae 0) aj) ax) (ar (az (cN (ah (av au (ae 0) aj) (ah (av au (ae 0) aj) ao))))) aI) (ap (xQ (i:=1) S.nd (cN (ah (av au (ae 0) aj) ao)) (aS (zqb E 25) hr (av au (ae 0) aj))) (ap (fB (i:=2) S.nd (cM (dq (ae 0) (cp aj) eU)) (ar (yW (i:=1) (by exact(aS ih hr (ae 2)))))) (ar (az (ae 1))))))
theorem zqd:Fn P w K mg base "show_recipe" ["recipe"] 78 (XF K 1 mI):=aU E 44 ["recipe"] fun B S hr=>(ar (az (zgx ax (aS (zqc E 25) hr (ae 0)))))
theorem zqe:Fn P w K mg base "put_by" ["words"] 32 (XF K 1 (ni C)):=aU E 54 ["words","value"] fun B S hr=>(ap (aQ (i:=1) S.nd (aS (pT E) hr (jM (kP E) B.k_Words (hr.mono (by lia)) (ae 0)))) (ap (ja (jU (mK E) B.k_Words (hr.mono (by lia)) (ae 0) (ah (bQ qV (ae 1) ef) ao) (bc cu))) (ar (az (ae 1)))))
theorem tJ:Fn P w K mg base "number_below" ["words","bound"] 2 (XF K 2 (kN C)):=aU E 55 ["words","bound","figures","word"] fun B S hr=>(ap (zib (i:=2) (top 55) ["words","bound","figures","word"] ["words","bound","figures","word"] S.nd (jT rfl B.z (ae 1)) (cX mq rfl B.z Qn (ah (ae 0) ao)) rn) (ap (aQ (i:=3) S.nd (jM (kP E) B.k_Words (hr.mono (by omega)) (ae 0))) (ap (ja (jU (mK E) B.k_Words (hr.mono (by omega)) (ae 0) (ah (bQ gW (ae 3) (ae 2)) ao) (bc cu))) (ar (az (zgu (ae 2) (ae 3)))))))
theorem zqf:∀n,Fn P w K mg base "exprs_by" ["words","many","above","got"] (32+n) (XF K 4 (kY C n))/\Fn P w K mg base "expr_by" ["words","above","got"] (32+n) (XF K 3 (fX C n)):=dH ⟨(dB E 52),(dB E 51)⟩ fun n ih=>⟨(aU (k:=32+n) E 52 ["words","many","above","got"] fun B S hr=>(ar (az (cX jb rfl B.z Px (ah (e8 (top 52) ["words","many","above","got"] (jT rfl B.z (ae 1)) (dE ih.2 hr (ae 1) (ae 3) (ae 4))) ao))))),(aU (k:=32+n) E 51 ["words","above","got","word"] fun B S hr=>(ap (aQ (i:=3) S.nd (jM (kP E) B.k_Words (hr.mono (by lia)) (ae 0))) (ap (ja (jU (tL E) B.k_Words (hr.mono (by lia)) (ae 0) (ah (oJ (bQ gW (ae 3) (qJ (ss:=["put","got","row"]) rfl B.g_FILLED)) (dR (y8 B.t_WITHIN rfl (ae 3)))) (ah (ae 1) ao)) (bc (bc cu)))) (ap (aG (aF aR (ae 3) ax) (ar (az (aP (ah (ae 3) (ah (aS (zqe E) hr (ae 0)) ao))))) aI) (ap (aG (aF aR (ae 3) ax) (ar (az (aP (ah (ae 3) (ah (cK (tJ E) hr (ae 0) (ae 2)) ao))))) aI) (ap (aG (aF aR (ae 3) ax) (ar (az (aP (ah (ae 3) (ah (ph ih.1 hr (ae 0) (cK (tJ E) hr (ae 0) (aJ aX (eP rfl B.i) aj)) (aJ aX (ae 1) aj) (ae 2)) ao))))) aI) (ar (az (aJ aX (aP (ah (ae 3) ao)) (ph ih.1 hr (ae 0) (y6 B.t_WITHIN rfl (ae 3)) (aJ aX (ae 1) aj) (ae 2)))))))))))⟩
theorem zqg:Fn P w K mg base "expr_by" ["words","above","got"] 57 (XF K 3 (fX C 25)):=(zqf E 25).2
theorem zqh:Fn P w K mg base "name_by" ["words"] 3 (XF K 1 (mX C)):=aU E 53 ["words","word"] fun B S hr=>(ap (aQ (i:=1) S.nd (jM (kP E) B.k_Words (hr.mono (by lia)) (ae 0))) (ap (ja (jU (mK E) B.k_Words (hr.mono (by lia)) (ae 0) (ah (aS (mZ E) hr (ae 1)) ao) (bc cu))) (ar (az (ae 1)))))
theorem zqi:∀n,Fn P w K mg base "recipe_by" ["words","above","got"] (57+n) (XF K 3 (fh C n)):=dH (dB E 50) fun n ih=>aU (k:=57+n) E 50 ["words","above","got","word","expr","behind"] fun B S hr=>(ap (aQ (i:=3) S.nd (jM (kP E) B.k_Words (hr.mono (by lia)) (ae 0))) (ap (ja (jU (tL E) B.k_Words (hr.mono (by lia)) (ae 0) (ah (dh (y8 B.t_RECIPES_WITHIN rfl (ae 3)) (dR (ox (dh (bQ gW (ae 3) (qJ (ss:=["want","peek"]) rfl B.g_GETTING)) (dR (bQ aR (ae 2) (eP rfl B.i))))))) (ah (ae 1) ao)) (bc (bc cu)))) (ap (aG (aF aR (ae 3) ax) (ar (az (aP (ah (ae 3) (ah (aS (zqh E) hr (ae 0)) ao))))) aI) (ap (aQ (i:=4) S.nd (dE (zqg E) hr (ae 0) (aJ aX (ae 1) aj) (ae 2))) (ap (aQ (i:=5) S.nd (cK (zps E) hr (ae 3) (ae 2))) (ar (az (aJ aX (aP (ah (ae 3) (ah (ae 4) ao))) (cX jb rfl B.z Px (ah (e8 (top 50) ["words","above","got","word","expr","behind"] (jT rfl B.z (y6 B.t_RECIPES_WITHIN rfl (ae 3))) (dE ih hr (ae 1) (aJ aX (ae 2) aj) (ae 6))) ao))))))))))
theorem zqj:Fn P w K mg base "read_recipe" ["text"] 83 (XF K 1 (mJ C)):=aU E 49 ["text","words","recipe"] fun B S hr=>(zgv (i:=1) (zpn E) (hr.mono (by lia)) rfl B.m_Words S.nd (ae 0) (ap (aQ (i:=2) S.nd (dE (zqi E 25) hr (ae 1) aj aj)) (ap (ja (jM (zpo E) B.k_Words (hr.mono (by lia)) (ae 1))) (ar (az (ae 2))))))
theorem zqk:Fn P w K mg base "recipe_or_none" ["text"] 84 (XF K 1 (mH C)):=aU E 57 ["text"] fun B S hr=>(ar (zic (ar (az (aS (zqj E) hr (ae 0)))) fun _ _ z=>z))
theorem zql:Fn P w K mg base "told_less" ["one","other"] 2 (XF K 2 d7):=aU E 66 ["one","other"] fun B S hr=>(ap (aG (bK (cx (bJ (bf (aS (ie E) hr (ae 0)))) (df (bJ (bf (aS (ie E) hr (ae 1))))))) (ar (az (aP (ah ax (ah ax ao))))) aI) (ar (az (aP (ah ax (ah (fJ (aF dI (ae 0) (ae 1)) aj aj) ao))))))
theorem m4:Fn P w K mg base "bounded" ["thing"] 29 (XF K 1 ig):=aU E 61 ["thing"] fun B S hr=>(ar (az (fJ (bf (aS (um E) hr (ae 0))) (aP (ah ax (ah (ae 0) ao))) (aP (ah ax (ah ax ao))))))
theorem zqm:Fn P w K mg base "told_many" ["value"] 2 (XF K 1 hW):=aU E 62 ["value"] fun B S hr=>(ap (aG (bf (aS (ie E) hr (ae 0))) (ar (az (aP (ah ax (ah ax ao))))) aI) (ar (az (aP (ah ax (ah (bh bv rfl B.z O5 (ah (ae 0) ao)) ao))))))
theorem zqn:Fn P w K mg base "told_part" ["row","number"] 2 (XF K 2 d6):=aU E 63 ["row","number"] fun B S hr=>(ap (aG (bK (cx (bJ (bf (bx .tup B.z (ae 0) B.z Px))) (df (bJ (bf (aS (ie E) hr (ae 1))))))) (ar (az (aP (ah ax (ah ax ao))))) aI) (ap (aG (bJ (qG fR dI aj (ae 1) (bh bv rfl B.z O5 (ah (ae 0) ao)))) (ar (az (aP (ah ax (ah ax ao))))) aI) (ar (az (aP (ah ax (ah (av au (ae 0) (ae 1)) ao)))))))
theorem zqo:Fn P w K mg base "told_sum" ["one","other"] 30 (XF K 2 fj):=aU E 64 ["one","other"] fun B S hr=>(ap (aG (bK (cx (bJ (bf (aS (ie E) hr (ae 0)))) (df (bJ (bf (aS (ie E) hr (ae 1))))))) (ar (az (aP (ah ax (ah ax ao))))) aI) (ar (az (aS (m4 E) hr (aJ aX (ae 0) (ae 1))))))
theorem zqp:Fn P w K mg base "told_join" ["one","other"] 30 (XF K 2 dN):=aU E 65 ["one","other"] fun B S hr=>(ap (aG (bK (eF (bf (bx .str B.z (ae 0) B.z Qn)) (eS (bf (bx .str B.z (ae 1) B.z Qn))))) (ar (az (aS (m4 E) hr (aJ aX (ae 0) (ae 1))))) aI) (ap (aG (bK (eF (bf (bx .tup B.z (ae 0) B.z Px)) (eS (bf (bx .tup B.z (ae 1) B.z Px))))) (ar (az (aS (m4 E) hr (aJ aX (ae 0) (ae 1))))) aI) (ar (az (aP (ah ax (ah ax ao)))))))
theorem zqq:Fn P w K mg base "told_of" ["word","parts"] 31 (XF K 2 aT):=aU E 60 ["word","parts"] fun B S hr=>(ap (aG (aF aR (ae 0) ax) (ar (az (aS (m4 E) hr (cX jb rfl B.z Px (ah (ae 1) ao))))) aI) (ap (aG (aF aR (ae 0) ax) (ar (az (aS (zqm E) hr (av au (ae 1) aj)))) aI) (ap (aG (aF aR (ae 0) ax) (ar (az (cK (zqn E) hr (av au (ae 1) aj) (av au (ae 1) aj)))) aI) (ap (aG (aF aR (ae 0) ax) (ar (az (cK (zqo E) hr (av au (ae 1) aj) (av au (ae 1) aj)))) aI) (ap (aG (aF aR (ae 0) ax) (ar (az (cK (zqp E) hr (av au (ae 1) aj) (av au (ae 1) aj)))) aI) (ap (aG (aF aR (ae 0) ax) (ar (az (aP (ah ax (ah (fJ (aF (jk hr) (av au (ae 1) aj) (av au (ae 1) aj)) aj aj) ao))))) aI) (ar (az (cK (zql E) hr (av au (ae 1) aj) (av au (ae 1) aj))))))))))
theorem zqr:∀n,Fn P w K mg base "told_by" ["expr","got"] (31+n) (XF K 2 (cS n)):=dH (dB E 59) fun n ih=>aU (k:=31+n) E 59 ["expr","got","parts","inner","told"] fun B S hr=>(ap (aG (aF aR (av au (ae 0) aj) ax) (ar (az (aP (ah ax (ah (av au (ae 0) aj) ao))))) aI) (ap (aG (aF aR (av au (ae 0) aj) ax) (ar (az (aP (ah ax (ah (av au (ae 1) (av au (ae 0) aj)) ao))))) aI) (ap (gG (i:=2) S.nd ao) (ap (fB (i:=3) S.nd (cM (aS (tK E) hr (ae 0))) (ap (aQ (i:=4) S.nd (cK ih hr (ae 3) (ae 1))) (ap (aG (aF aR (av au (ae 4) aj) ax) (ar (az (ae 4))) aI) (ar (gc (i:=2) (by exact(av au (ae 4) aj))))))) (ar (az (i5 (zqq E) (hr.mono (by omega)) rfl (ah (av au (ae 0) aj) (ah (ae 2) ao)) (bc (bc cu)))))))))
theorem vh:∀n,Fn P w K mg base "step_of" ["recipe","got"] (56+n) (XF K 2 (bG n)):=dH (dB E 71) fun n ih=>aU (k:=56+n) E 71 ["recipe","got","told"] fun B S hr=>(ap (aG (aF aR (av au (ae 0) aj) ax) (ar (az (aP (ah ax (ah (av au (ae 0) aj) ao))))) aI) (ap (aQ (i:=2) S.nd (cK (zqr E 25) hr (av au (ae 0) aj) (ae 1))) (ap (aG (aF aR (av au (ae 2) aj) ax) (ar (az (ae 2))) aI) (ap (aG (aF aR (av au (ae 0) aj) ax) (ar (az (cK ih hr (fJ (aF (zv hr) (av au (ae 2) aj) (aP (ah aj (ah ax (ah (aP ao) ao))))) (av au (ae 0) aj) (av au (ae 0) aj)) (ae 1)))) aI) (ap (aG (aF aR (av au (ae 0) aj) ax) (ar (az (aP (ah ax (ah (av au (ae 2) aj) ao))))) aI) (ap (aG (bJ (bf (aS (mZ E) hr (av au (ae 2) aj)))) (ar (az (aP (ah ax (ah ax ao))))) aI) (ar (az (aP (ah (av au (ae 0) aj) (ah (av au (ae 2) aj) (ah (av au (ae 0) aj) ao))))))))))))
theorem zqs:Fn P w K mg base "followed" ["recipe","reads","peeks"] 82 (XF K 3 mP):=aU E 70 ["recipe","reads","peeks","given","used","got","step","pairs","k"] fun B S hr=>(ap (nK (i:=3) S.nd (ae 1) (ae 2)) (ap (nK (i:=4) S.nd aj aj) (ap (gG (i:=5) S.nd ao) (ap (aQ (i:=6) S.nd (i5 (vh E 25) (hr.mono (by lia)) rfl (ah (ae 0) (ah (ae 5) ao)) (bc (bc cu)))) (ap (lj 100000 (zgi hr (av au (ae 6) aj) (ae 3)) (ap (aQ (i:=7) S.nd (gK hr (ae 3) (av au (ae 6) aj))) (ap (aQ (i:=8) S.nd (gK hr (ae 4) (av au (ae 6) aj))) (ap (aG (bK (cx (aF Ac (ae 8) (bh bv rfl B.z O5 (ah (ae 7) ao))) (df (aF kH (av au (av au (ae 7) (ae 8)) aj) (av au (ae 6) aj))))) (ar (az (aP (ah (aP (ah (zgl B.s_NOT_GIVEN rfl (av au (ae 6) aj)) (ah (av au (ae 6) aj) ao))) (ah (gK hr (ae 4) ax) ao))))) aI) (ap (gc (i:=5) (by exact(av au (av au (ae 7) (ae 8)) aj))) (ap (xS (i:=4) hr (av au (ae 6) aj) (aJ aX (ae 8) aj)) (ar (aQ (i:=6) S.nd (i5 (vh E 25) (hr.mono (by lia)) rfl (ah (av au (ae 6) aj) (ah (ae 5) ao)) (bc (bc cu))))))))))) (ar (az (aP (ah (ae 6) (ah (gK hr (ae 4) ax) ao))))))))))
theorem zqt:Fn P w K mg base "replay" ["recipe","reads","peeks"] 83 (XF K 3 jL):=aU E 69 ["recipe","reads","peeks","came"] fun B S hr=>(ap (aQ (i:=3) S.nd (dE (zqs E) hr (ae 0) (ae 1) (ae 2))) (ap (aG (aF dI (av au (ae 3) aj) (bh bv rfl B.z O5 (ah (ae 1) ao))) (ar (az (aP (ah ax (ah (av au (ae 3) aj) ao))))) aI) (ar (az (av au (ae 3) aj)))))
theorem uo:Fn P w K mg base "is_stamp" ["thing"] 32 (XF K 1 jI):=aU E 76 ["thing"] fun B S hr=>(ar (az (dh (bx .str B.z (ae 0) B.z Qn) (dR (bQ qV (aS (pT E) hr (ae 0)) ef)))))
theorem zqu:Fn P w K mg base "is_read" ["thing"] 33 (XF K 1 k8):=aU E 75 ["thing"] fun B S hr=>(ar (az (dh (bx .tup B.z (ae 0) B.z Px) (dh (bQ aR (bh bv rfl B.z O5 (ah (ae 0) ao)) aj) (dh (aS (mZ E) hr (av au (ae 0) aj)) (dR (aS (uo E) hr (av au (ae 0) aj))))))))
theorem zqv:Fn P w K mg base "are_reads" ["thing"] 34 (XF K 1 mM):=aU E 74 ["thing"] fun B S hr=>(ap (aG (bK (cx (bJ (bf (bx .tup B.z (ae 0) B.z Px))) (df (aF eB (bh bv rfl B.z O5 (ah (ae 0) ao)) (eP rfl B.i))))) (ar (az gm)) aI) (ar (az (bh mr rfl B.z Vx (ah (e8 (top 74) ["thing"] (cM (ae 0)) (aS (zqu E) hr (ae 0))) ao)))))
theorem zqw:Fn P w K mg base "is_end" ["thing"] 33 (XF K 1 lg):=aU E 77 ["thing"] fun B S hr=>(ap (aG (bK (cx (bJ (bf (bx .tup B.z (ae 0) B.z Px))) (cx (aF kH (bh bv rfl B.z O5 (ah (ae 0) ao)) aj) (df (bJ (bf (bx .str B.z (av au (ae 0) aj) B.z Qn))))))) (ar (az gm)) aI) (ap (aG (aF aR (av au (ae 0) aj) ax) (ar (az (aS (uo E) hr (av au (ae 0) aj)))) aI) (ar (az (dh (bQ gW (av au (ae 0) aj) (aP (ah ax (ah ax ao)))) (dR (aS (mZ E) hr (av au (ae 0) aj))))))))
theorem zqx:Fn P w K mg base "comes_to" ["recipe","reads","end"] 84 (XF K 3 kZ):=aU E 78 ["recipe","reads","end","came"] fun B S hr=>(ap (aQ (i:=3) S.nd (dE (zqt E) hr (ae 0) (e8 (top 78) ["recipe","reads","end","came"] (cM (ae 1)) (aP (ah (av au (ae 0) aj) (ah (aS (pT E) hr (av au (ae 0) aj)) ao)))) (cN ao))) (ap (aG (aF aR (av au (ae 3) aj) ax) (ar (az (bQ (jk hr) (ae 2) (aP (ah ax (ah (aS (ul E 25) hr (av au (ae 3) aj)) ao)))))) aI) (ar (az (bQ (jk hr) (ae 2) (ae 3))))))
theorem zqy:Fn P w K mg base "is_entry" ["thing"] 85 (XF K 1 (mO C)):=aU E 81 ["thing","recipe"] fun B S hr=>(ap (aG (bK (cx (bJ (bf (bx .tup B.z (ae 0) B.z Px))) (cx (aF kH (bh bv rfl B.z O5 (ah (ae 0) ao)) aj) (df (bJ (bf (bx .str B.z (av au (ae 0) aj) B.z Qn))))))) (ar (az gm)) aI) (ap (aG (bK (cx (bJ (bf (aS (zqv E) hr (av au (ae 0) aj)))) (cx (bJ (bf (aS (zqw E) hr (av au (ae 0) aj)))) (df (aF aR (av au (av au (ae 0) aj) aj) ax))))) (ar (az gm)) aI) (ap (aQ (i:=1) S.nd (aS (zqk E) hr (av au (ae 0) aj))) (ar (az (dh (bQ qV (ae 1) ef) (dh (aS (zpt E 25) hr (ae 1)) (dR (dE (zqx E) hr (ae 1) (av au (ae 0) aj) (av au (ae 0) aj))))))))))
theorem mL:Fn P w K mg base "_law_draws" ["_law_script","_law_k","_law_sizes"] 1 (BC K 3 gy):=zhz E 83 ["_law_script","_law_k","_law_sizes","_law_cell","_law_found","_law_size_here","_law_number"] fun B S hr=>(ap (aQ (i:=3) S.nd aj) (ap (aG (aF eB (bh bv rfl B.z O5 (ah (ae 0) ao)) aj) (ar (aQ (i:=3) S.nd (av au (ae 0) (aJ cT (ae 1) (bh bv rfl B.z O5 (ah (ae 0) ao)))))) aI) (ap (gG (i:=4) S.nd ao) (ap (aG (aF Ac (ae 3) (aJ lY aj aj)) (ap (fB (i:=5) S.nd (cM (ae 2)) (ap (gc (i:=4) (by exact(aJ cT (ae 3) (ae 5)))) (ar (aQ (i:=3) S.nd (aJ zhq (ae 3) (ae 5)))))) (ar (wK (i:=4)))) aI) (ap (fB (i:=5) S.nd (cM (ae 2)) (ap (aQ (i:=6) S.nd (aJ cT (aJ aX (aJ aX (ae 3) (aJ gj aj (ae 1))) (aJ gj aj (bh bv rfl B.z O5 (ah (ae 4) ao)))) aj)) (ap (aQ (i:=6) S.nd (aJ cT (aJ aX (aJ aX (aJ gj (ae 6) (ae 6)) (aJ gj aj (ae 6))) (ae 1)) aj)) (ap (aQ (i:=6) S.nd (aJ cT (aJ aX (aJ aX (aJ gj (ae 6) (ae 6)) (aJ gj aj (ae 6))) (bh bv rfl B.z O5 (ah (ae 4) ao))) aj)) (ar (gc (i:=4) (by exact(aJ cT (ae 6) (ae 5))))))))) (ar (wK (i:=4))))))))
theorem zqz:Fn P w K mg base "_law_names" ["_law_script","_law_k","_law_many"] 2 (XF K 3 pE):=aU E 84 ["_law_script","_law_k","_law_many","_law_letters","_law_words","_law_draws_here","_law_names_here","_law_j","_law_part","_law_name"] fun B S hr=>(ap (aQ (i:=3) S.nd ax) (ap (aQ (i:=4) S.nd (cN (ah ax (ah ax (ah ax (ah ax (ah ax (ah ax (ah ax (ah ax (ah ax (ah ax (ah ax (ah ax ao)))))))))))))) (ap (zhn (i:=5) (mL E) (hr.mono (by omega)) rfl S.nd (ah (ae 0) (ah (ae 1) (ah (aJ aX (cN (ah aj ao)) (aJ rW (cN (ah aj (ah aj (ah aj (ah aj (ah aj (ah aj (ah aj (ah aj (ah aj ao)))))))))) (ae 2))) ao))) (bc (bc (bc cu)))) (ap (gG (i:=6) S.nd ao) (ap (fB (i:=7) S.nd (jT rfl B.z (ae 2)) (ap (aQ (i:=8) S.nd (dq (ae 5) (cp (aJ aX aj (aJ gj aj (ae 7)))) (cp (aJ aX aj (aJ gj aj (ae 7)))))) (ap (aQ (i:=9) S.nd (rz ax (e8 (top 84) ["_law_script","_law_k","_law_many","_law_letters","_law_words","_law_draws_here","_law_names_here","_law_j","_law_part","_law_name"] (cM (dq (ae 8) (cp aj) (cp (aJ aX aj (av au (ae 8) aj))))) (av au (ae 4) (ae 0))))) (ap (aG (bK (eF (aF aR (av au (ae 5) aj) aj) (eF (aF aR (aJ cT (ae 7) aj) aj) (eS (aF dI (bh bv rfl B.z O5 (ah (av au (ae 6) (aJ iE (ae 7) aj)) ao)) aj))))) (ar (aQ (i:=9) S.nd (aJ aX (av au (ae 6) (aJ iE (ae 7) aj)) (av au (ae 3) (av au (ae 8) aj))))) aI) (ap (aG (aF aR (av au (ae 5) aj) aj) (ar (aQ (i:=9) S.nd (av au (ae 4) (aJ cT (av au (ae 8) aj) aj)))) aI) (ap (aG (aF gW (ae 9) (ae 6)) (ar (aQ (i:=9) S.nd (av au (zia (top 84) ["_law_script","_law_k","_law_many","_law_letters","_law_words","_law_draws_here","_law_names_here","_law_j","_law_part","_law_name"] (cM ax) (ae 0) (aF xu (ae 0) (ae 7))) aj))) aI) (ar (gc (i:=6) (by exact(ae 9)))))))))) (ar (az (ae 6))))))))
theorem h7:Fn P w K mg base "_law_next" ["_law_digits"] 1 (XF K 1 dv):=aU E 85 ["_law_digits"] fun B S hr=>(ar (az (fJ (aF eB (bh bv rfl B.z O5 (ah (ae 0) ao)) aj) (zid (ae 0)) aj)))
theorem tN:Fn P w K mg base "_law_value" ["_law_digits","_law_names_here"] 2 (XF K 2 iU):=aU E 86 ["_law_digits","_law_names_here","_law_some"] fun B S hr=>(ap (aQ (i:=2) S.nd (aJ aX (cN (ah aj (ah aj (ah aj (ah (lS aj) (ah (aJ lY aj aj) (ah ax (ah ax (ah ax (ah (aP ao) (ah (aP (ah aj ao)) (ah (aP (ah aj (ah ax ao))) (ah (aP (ah (aP ao) (ah aj ao))) ao))))))))))))) (ae 1))) (ar (az (av au (ae 2) (aJ cT (aS (h7 E) hr (ae 0)) (bh bv rfl B.z O5 (ah (ae 2) ao)))))))
theorem tU:Fn P w K mg base "_law_leaf" ["_law_digits","_law_names_here","_law_many"] 3 (XF K 3 iW):=aU E 87 ["_law_digits","_law_names_here","_law_many"] fun B S hr=>(ap (aG (bK (eF (aF eB (ae 2) aj) (eS (aF eB (aJ cT (aS (h7 E) hr (ae 0)) aj) aj)))) (ar (az (aP (ah ax (ah (aJ cT (aS (h7 E) hr (ae 0)) (ae 2)) ao))))) aI) (ar (az (aP (ah ax (ah (cK (tN E) hr (ae 0) (ae 1)) ao))))))
theorem pM:Fn P w K mg base "_law_expr" ["_law_digits","_law_names_here","_law_many"] 4 (XF K 3 eC):=aU E 88 ["_law_digits","_law_names_here","_law_many","_law_kind","_law_one","_law_word"] fun B S hr=>(ap (aQ (i:=3) S.nd (aJ cT (aS (h7 E) hr (ae 0)) aj)) (ap (aQ (i:=4) S.nd (dE (tU E) hr (ae 0) (ae 1) (ae 2))) (ap (aG (aF dI (ae 3) aj) (ar (az (ae 4))) aI) (ap (aG (aF aR (ae 3) aj) (ar (az (aP (ah ax (ah (ae 4) ao))))) aI) (ap (aG (aF aR (ae 3) aj) (ar (az (aP (ah ax (ah (aP (ah (ae 4) (ah (aP (ah ax (ah aj ao))) ao))) ao))))) aI) (ap (aQ (i:=5) S.nd (av au (cN (ah ax (ah ax (ah ax (ah ax (ah ax (ah ax ao))))))) (aJ iE (ae 3) aj))) (ar (az (aP (ah (ae 5) (ah (ae 4) (ah (dE (tU E) hr (ae 0) (ae 1) (ae 2)) ao))))))))))))
theorem zra:∀n,Fn P w K mg base "_law_recipe" ["_law_digits","_law_names_here","_law_many","_law_deep","_law_peeks"] (4+n) (XF K 5 (dM n)):=dH (dB E 89) fun n ih=>aU (k:=4+n) E 89 ["_law_digits","_law_names_here","_law_many","_law_deep","_law_peeks","_law_kind","_law_test","_law_first","_law_what","_law_word"] fun B S hr=>(ap (aQ (i:=5) S.nd (aJ cT (aS (h7 E) hr (ae 0)) aj)) (ap (aG (bK (cx (aF aR (ae 3) aj) (df (aF dI (ae 5) aj)))) (ap (aG (bK (eF (aF aR (ae 5) aj) (eS (aF aR (aJ cT (aS (h7 E) hr (ae 0)) aj) aj)))) (ar (az (aP (ah ax (ah (av au (ae 1) (aJ cT (aS (h7 E) hr (ae 0)) (bh bv rfl B.z O5 (ah (ae 1) ao)))) ao))))) aI) (ar (az (aP (ah ax (ah (dE (pM E) hr (ae 0) (ae 1) (ae 2)) ao)))))) aI) (ap (aG (aF dI (ae 5) aj) (ap (aQ (i:=6) S.nd (dE (pM E) hr (ae 0) (ae 1) (ae 2))) (ap (aQ (i:=7) S.nd (tq ih hr (ae 0) (ae 1) (ae 2) (aJ iE (ae 3) aj) (ae 4))) (ar (az (aP (ah ax (ah (ae 6) (ah (ae 7) (ah (tq ih hr (ae 0) (ae 1) (ae 2) (aJ iE (ae 3) aj) (ae 4)) ao))))))))) aI) (ap (aQ (i:=8) S.nd (aP (ah ax (ah (av au (ae 1) (aJ cT (aS (h7 E) hr (ae 0)) (bh bv rfl B.z O5 (ah (ae 1) ao)))) ao)))) (ap (aG (bK (eF (aF eB (ae 2) aj) (eS (aF aR (ae 5) aj)))) (ar (aQ (i:=8) S.nd (dE (pM E) hr (ae 0) (ae 1) (ae 2)))) aI) (ap (aQ (i:=9) S.nd ax) (ap (aG (bK (eF (bf (ae 4)) (eS (aF aR (ae 5) aj)))) (ar (aQ (i:=9) S.nd ax)) aI) (ar (az (aP (ah (ae 9) (ah (ae 8) (ah (tq ih hr (ae 0) (ae 1) (aJ aX (ae 2) aj) (aJ iE (ae 3) aj) (ae 4)) ao)))))))))))))
theorem zrb:∀n,Fn P w K mg base "_law_size" ["_law_value_here"] (0+n) (XF K 1 (gz n)):=dH (dB E 90) fun n ih=>aU (k:=0+n) E 90 ["_law_value_here","_law_deep","_law_many","_law_part","_law_one"] fun B S hr=>(ap (aG (bJ (bf (bx .tup B.z (ae 0) B.z Px))) (ar (az (aP (ah aj (ah aj ao))))) aI) (ap (aQ (i:=1) S.nd aj) (ap (aQ (i:=2) S.nd aj) (ap (fB (i:=3) S.nd (cM (ae 0)) (ap (aQ (i:=4) S.nd (aS ih hr (ae 3))) (ap (aQ (i:=1) S.nd (bh zfv rfl B.z boot_max (ah (ae 1) (ah (av au (ae 4) aj) ao)))) (ar (aQ (i:=2) S.nd (aJ aX (ae 2) (av au (ae 4) aj))))))) (ar (az (aP (ah (aJ aX (ae 1) aj) (ah (ae 2) ao)))))))))
theorem tP:Fn P w K mg base "_law_great" ["_law_value_here"] 26 (XF K 1 dZ):=aU E 91 ["_law_value_here","_law_size_here"] fun B S hr=>(ap (aG (bf (bx .int B.z (ae 0) B.z Rb)) (ar (az (ox (wM fR fR (lS (aJ lY aj aj)) (ae 0) (aJ lY aj aj))))) aI) (ap (aG (bf (bx .str B.z (ae 0) B.z Qn)) (ar (az (bQ eB (bh bv rfl B.z O5 (ah (ae 0) ao)) aj))) aI) (ap (aQ (i:=1) S.nd (aS (zrb E 25) hr (ae 0))) (ar (az (oJ (bQ eB (bh bv rfl B.z O5 (ah (ae 0) ao)) aj) (oJ (bQ eB (av au (ae 1) aj) aj) (dR (bQ eB (av au (ae 1) aj) aj)))))))))
theorem zrc:Fn P w K mg base "_law_both" ["_law_word","_law_one","_law_two"] 27 (XF K 3 bI):=aU E 92 ["_law_word","_law_one","_law_two"] fun B S hr=>(ap (aG (aF aR (ae 0) ax) (ap (aG (bK (cx (bJ (bf (bx .tup B.z (ae 1) B.z Px))) (df (bJ (bf (bx .int B.z (ae 2) B.z Rb)))))) (ar (az (aP (ah ax (ah ax ao))))) aI) (ap (aG (bJ (qG fR dI aj (ae 2) (bh bv rfl B.z O5 (ah (ae 1) ao)))) (ar (az (aP (ah ax (ah ax ao))))) aI) (ar (az (aP (ah ax (ah (av au (ae 1) (ae 2)) ao))))))) aI) (ap (aG (aF aR (ae 0) ax) (ar (az (aP (ah ax (ah (cX oN rfl B.z Rb (ah (bQ (jk hr) (ae 1) (ae 2)) ao)) ao))))) aI) (ap (aG (aF aR (ae 0) ax) (ar (aG (bK (cx (bf (bx .int B.z (ae 1) B.z Rb)) (cx (aF kH (bx .str B.z (ae 1) B.z Qn) (bx .str B.z (ae 2) B.z Qn)) (df (bf (bx .int B.z (ae 2) B.z Rb)))))) (ar (az (aP (ah ax (ah ax ao))))) aI)) (ar (aG (bK (cx (bJ (bf (bx .int B.z (ae 1) B.z Rb))) (df (bJ (bf (bx .int B.z (ae 2) B.z Rb)))))) (ar (az (aP (ah ax (ah ax ao))))) aI))) (ap (aG (aF aR (ae 0) ax) (ar (az (aP (ah ax (ah (cX oN rfl B.z Rb (ah (bQ dI (ae 1) (ae 2)) ao)) ao))))) aI) (ap (aG (bf (aS (tP E) hr (aJ aX (ae 1) (ae 2)))) (ar (az (aP (ah ax (ah ax ao))))) aI) (ar (az (aP (ah ax (ah (aJ aX (ae 1) (ae 2)) ao))))))))))
theorem tO:∀n,Fn P w K mg base "_law_tells" ["_law_expr_here","_law_got"] (27+n) (XF K 2 (cm n)):=dH (dB E 93) fun n ih=>aU (k:=27+n) E 93 ["_law_expr_here","_law_got","_law_parts","_law_values","_law_part","_law_one"] fun B S hr=>(ap (aG (aF aR (av au (ae 0) aj) ax) (ar (az (aP (ah ax (ah (av au (ae 0) aj) ao))))) aI) (ap (aG (aF aR (av au (ae 0) aj) ax) (ar (az (aP (ah ax (ah (av au (ae 1) (av au (ae 0) aj)) ao))))) aI) (ap (aQ (i:=2) S.nd (dq (ae 0) (cp aj) eU)) (ap (aG (aF aR (av au (ae 0) aj) ax) (ar (aQ (i:=2) S.nd (av au (ae 0) aj))) aI) (ap (gG (i:=3) S.nd ao) (ap (fB (i:=4) S.nd (cM (ae 2)) (ap (aQ (i:=5) S.nd (cK ih hr (ae 4) (ae 1))) (ap (aG (aF aR (av au (ae 5) aj) ax) (ar (az (ae 5))) aI) (ar (gc (i:=3) (by exact(av au (ae 5) aj))))))) (ap (aG (aF aR (av au (ae 0) aj) ax) (ap (aG (bf (aS (tP E) hr (cX jb rfl B.z Px (ah (ae 3) ao)))) (ar (az (aP (ah ax (ah ax ao))))) aI) (ar (az (aP (ah ax (ah (cX jb rfl B.z Px (ah (ae 3) ao)) ao)))))) aI) (ap (aG (aF aR (av au (ae 0) aj) ax) (ap (aG (bf (bx .int B.z (av au (ae 3) aj) B.z Rb)) (ar (az (aP (ah ax (ah ax ao))))) aI) (ar (az (aP (ah ax (ah (bh bv rfl B.z O5 (ah (av au (ae 3) aj) ao)) ao)))))) aI) (ar (az (dE (zrc E) hr (av au (ae 0) aj) (av au (ae 3) aj) (av au (ae 3) aj))))))))))))
theorem pG:∀n,Fn P w K mg base "_law_stamp" ["_law_value_here"] (0+n) (XF K 1 (eL n)):=dH (dB E 94) fun n ih=>aU (k:=0+n) E 94 ["_law_value_here"] fun B S hr=>(ap (aG (bf (bx .int B.z (ae 0) B.z Rb)) (ar (az (cX mq rfl B.z Qn (ah (ae 0) ao)))) aI) (ap (aG (bf (bx .str B.z (ae 0) B.z Qn)) (ar (az (aJ aX ax (ae 0)))) aI) (ar (az (aJ aX (aJ aX ax (rz ax (e8 (top 94) ["_law_value_here"] (cM (ae 0)) (aS ih hr (ae 0))))) ax)))))
theorem zrd:Fn P w K mg base "_law_is_name" ["_law_value_here"] 1 (XF K 1 iS):=aU E 95 ["_law_value_here"] fun B S hr=>(ap (aG (bK (cx (bJ (bf (bx .str B.z (ae 0) B.z Qn))) (df (bJ (qG fR fR aj (bh bv rfl B.z O5 (ah (ae 0) ao)) aj))))) (ar (az gm)) aI) (ar (az (bh mr rfl B.z Vx (ah (e8 (top 95) ["_law_value_here"] (cM (ae 0)) (bQ gW (ae 0) ax)) ao)))))
theorem uq:Fn P w K mg base "_law_run" ["_law_recipe_here","_law_reads","_law_peeks"] 53 (XF K 3 iX):=aU E 96 ["_law_recipe_here","_law_reads","_law_peeks","_law_got","_law_spots","_law_rows","_law_here","_law_one","_law_word"] fun B S hr=>(ap (gG (i:=3) S.nd ao) (ap (nK (i:=4) S.nd aj aj) (ap (nK (i:=5) S.nd (ae 1) (ae 2)) (ap (aQ (i:=6) S.nd (ae 0)) (ap (lj 100000 (aF gW (av au (ae 6) aj) (aP (ah ax (ah ax (ah ax ao))))) (ap (aQ (i:=7) S.nd (i5 (tO E 25) (hr.mono (by lia)) rfl (ah (av au (ae 6) aj) (ah (ae 3) ao)) (bc (bc cu)))) (ap (aG (aF aR (av au (ae 7) aj) ax) (ar (az (ae 7))) aI) (ar (aG (aF aR (av au (ae 6) aj) ax) (ar (aQ (i:=6) S.nd (fJ (aF (zv hr) (av au (ae 7) aj) (aP (ah aj (ah ax (ah (aP ao) ao))))) (av au (ae 6) aj) (av au (ae 6) aj)))) (ap (aQ (i:=8) S.nd (av au (ae 6) aj)) (ap (aG (bJ (bf (aS (zrd E) hr (av au (ae 7) aj)))) (ar (az (aP (ah ax (ah ax ao))))) aI) (ap (aG (aF aR (gK hr (ae 4) (ae 8)) (bh bv rfl B.z O5 (ah (gK hr (ae 5) (ae 8)) ao))) (ar (az (aP (ah (aJ aX (ae 8) ax) (ah (av au (ae 7) aj) ao))))) aI) (ap (gc (i:=3) (by exact(av au (av au (gK hr (ae 5) (ae 8)) (gK hr (ae 4) (ae 8))) aj))) (ap (xS (i:=4) hr (ae 8) (aJ aX (gK hr (ae 4) (ae 8)) aj)) (ar (aQ (i:=6) S.nd (av au (ae 6) aj))))))))))))) (ap (aG (aF aR (av au (ae 6) aj) ax) (ar (az (aP (ah ax (ah (av au (ae 6) aj) ao))))) aI) (ap (aQ (i:=7) S.nd (i5 (tO E 25) (hr.mono (by lia)) rfl (ah (av au (ae 6) aj) (ah (ae 3) ao)) (bc (bc cu)))) (ap (aG (aF aR (av au (ae 7) aj) ax) (ar (az (ae 7))) aI) (ar (az (aP (ah ax (ah (av au (ae 7) aj) ao)))))))))))))
theorem zre:Fn P w K mg base "_law_doing" ["_law_script","_law_k","_law_names_here","_law_recipe_here"] 54 (XF K 4 jC):=aU E 97 ["_law_script","_law_k","_law_names_here","_law_recipe_here","_law_digits","_law_reads","_law_came"] fun B S hr=>(zhh (i:=4) (mL E) (hr.mono (by lia)) rfl S.nd (ah (ae 0) (ah (ae 1) (ah (aJ rW (cN (ah aj ao)) aj) ao))) (bc (bc (bc cu))) (ap (gG (i:=5) S.nd ao) (ap (aQ (i:=6) S.nd (i5 (uq E) (hr.mono (by lia)) rfl (ah (ae 3) (ah (ae 5) (ah (cN ao) ao))) (bc (bc (bc cu))))) (ap (lj 100000 (aF aR (av au (ae 6) aj) ax) (ap (gc (i:=5) (by exact(aP (ah (av au (ae 6) aj) (ah (cK (tN E) hr (ae 4) (ae 2)) ao))))) (ar (aQ (i:=6) S.nd (i5 (uq E) (hr.mono (by lia)) rfl (ah (ae 3) (ah (ae 5) (ah (cN ao) ao))) (bc (bc (bc cu)))))))) (ar (az (aP (ah (ae 5) (ah (ae 6) ao)))))))))
theorem zrf:Fn P w K mg base "_law_entry" ["_law_recipe_here","_law_doing_here"] 79 (XF K 2 iV):=aU E 98 ["_law_recipe_here","_law_doing_here","_law_end"] fun B S hr=>(ap (aQ (i:=2) S.nd (av au (ae 1) aj)) (ap (aG (aF aR (av au (ae 2) aj) ax) (ar (aQ (i:=2) S.nd (aP (ah ax (ah (aS (pG E 25) hr (av au (ae 2) aj)) ao))))) aI) (ar (az (aP (ah (aS (zqd E) hr (ae 0)) (ah (cX jb rfl B.z Px (ah (zhe (osc:=aW (top 98)) (N:=["_law_recipe_here","_law_doing_here","_law_end"]) (N':=["_law_recipe_here","_law_doing_here","_law_end"]) (x:="_law_name") (y:="_law_value_here") ⟨rfl,by decide +kernel,by decide +kernel,by decide +kernel,by decide +kernel,by decide +kernel,by decide +kernel,by decide +kernel,rfl,by decide +kernel⟩ (cM (av au (ae 1) aj)) (fun C s0 H0 ex=>(aP (ah (ae 0) (ah (aS (pG E 25) hr (ae 1)) ao)))) (fun C s0 H0 ex=>rn)) ao)) (ah (ae 2) ao))))))))
theorem zrg:Fn P w K mg base "_law_recipe_by" ["_law_script","_law_k","_law_names_here","_law_peeks"] 30 (XF K 4 kM):=aU E 99 ["_law_script","_law_k","_law_names_here","_law_peeks"] fun B S hr=>(ar (az (zhj (zra E 25) (mL E) (hr.mono (by lia)) (hr.mono (by omega)) rfl rfl (ah (ae 0) (ah (ae 1) (ah (aJ rW (cN (ah aj ao)) aj) ao))) (bc (bc (bc cu))) (ah (ae 2) (ah aj (ah aj (ah (ae 3) ao)))) (bc (bc (bc (bc (bc cu))))))))
theorem zrh:Fn P w K mg base "_law_entries" ["_law_script","_law_names_here"] 80 (XF K 2 pC):=aU E 100 ["_law_script","_law_names_here","_law_found","_law_k","_law_recipe_here","_law_j","_law_entry_here"] fun B S hr=>(ap (gG (i:=2) S.nd ao) (ap (fB (i:=3) S.nd (jT rfl B.z aj) (ap (aQ (i:=4) S.nd (ph (zrg E) hr (ae 0) (aJ aX aj (ae 3)) (ae 1) gm)) (ar (fB (i:=5) S.nd (jT rfl B.z aj) (ap (aQ (i:=6) S.nd (cK (zrf E) hr (ae 4) (ph (zre E) hr (ae 0) (aJ aX (aJ aX aj (aJ gj aj (ae 3))) (ae 5)) (ae 1) (ae 4)))) (ar (aG (aF (zgh hr) (ae 6) (ae 2)) (ar (gc (i:=2) (by exact(ae 6)))) aI))))))) (ar (az (ae 2)))))
theorem zri:Fn P w K mg base "_law_due" ["_law_entries_here","_law_text","_law_reads"] 1 (XF K 3 pR):=aU E 101 ["_law_entries_here","_law_text","_law_reads","_law_found","_law_entry_here"] fun B S hr=>(ap (aQ (i:=3) S.nd ef) (ap (fB (i:=4) S.nd (cM (ae 0)) (ap (aG (bK (eF (aF aR (av au (ae 4) aj) (ae 1)) (eS (aF (jk hr) (av au (ae 4) aj) (ae 2))))) (ar (az (av au (ae 4) aj))) aI) (ar (aG (bK (eF (aF aR (av au (ae 4) aj) (ae 1)) (eS (aF (jk hr) (dq (av au (ae 4) aj) eU (cp (bh bv rfl B.z O5 (ah (ae 2) ao)))) (ae 2))))) (ar (aQ (i:=3) S.nd (av au (av au (av au (ae 4) aj) (bh bv rfl B.z O5 (ah (ae 2) ao))) aj))) aI)))) (ar (az (ae 3)))))
theorem zrj:Fn P w K mg base "_law_alike" ["_law_found","_law_due_here"] 1 (XF K 2 pF):=aU E 102 ["_law_found","_law_due_here"] fun B S hr=>(ar (az (dh (bQ aR (bx .tup B.z (ae 0) B.z Px) (bx .tup B.z (ae 1) B.z Px)) (dR (bQ (jk hr) (ae 0) (ae 1))))))
end
end G
namespace TK
open L2 D G
structure Wc(K:Frag)(mg:Str->Option Oc)(CS:Addr):Prop where
 q:mg "Shelf"=some (.ref CS)
 cl:ZD K CS
 ns:X0 K CS "shelved"
 no:X0 K CS "answers"
 mb:Im K CS=true
 d0:YX K CS "__init__" "Shelf.__init__" (cE 80 0)
 d1:YX K CS "put" "Shelf.put" (cE 80 1)
 d2:YX K CS "found" "Shelf.found" (cE 80 2)
 d3:YX K CS "entries" "Shelf.entries" (cE 80 3)
def X2(t:Str)(q:PR):PyData:=.tuple [.str t,.tuple (XG q)]
theorem xD(hq:YD q)(hp:YD p):X2 t q=X2 s p↔t=s/\q=p:=by
 constructor
 .intro h
  have h':Rj [.str t,.tuple _]=.tuple [.str s,.tuple _]:=h;simp  at h';exact⟨h'.1,qQ hq.1 hp.1 h'.2⟩
 .simp_all
theorem jX(h:O8 x=true)(n:Nat):tk n (.str x)=true:=by cases n <;> exact h
theorem yl(h:YD q)(n:Nat):tk (n+2) (.tuple (XG q))=true:=by
 refine Ou.mpr fun d hd=>?_;obtain⟨p,hp,rfl⟩:=OF.mp hd;show Wo [PM p.1,.str _] _=true;simp[jX (gE (h.2 p hp)).ok,jX (lX (h.1 p hp))]
theorem lH(ht:O8 t=true)(h:YD q):tk 3 (X2 t q)=true:=by
 show Wo [PM t,.tuple _] _=true;simp[jX ht,yl h 0]
theorem sA(h:Ya C e):tk 3 (XJ e)=true:=by
 show Wo [PM e.1,.tuple _,e.2.2] _=true;obtain⟨w,x,he,h1,h2⟩:=h.fin
 have:tk 2 e.2.2=true:=by
  rw[he];show Wo [PM w,.str x] _=true;simp[jX h1,jX h2]
 simp[jX h.txt,yl h.gd 0,this]
def AZ(K:Frag)(O:Addr->Prop)(H:Hp)(kvs:cR)(f:Str->PR->Oa):Prop:=∀t q,YD q->(∃v,gn kvs (X2 t q)=some v/\Rep K O H v (f t q))\/(gn kvs (X2 t q)=none/\f t q=.none)
section
variable {K:Frag}{O:Addr->Prop}{H H':Hp}{kvs:cR}{f g:Str->PR->Oa}
open Classical in
theorem AZ.put(a:AZ K O H kvs f)(hp:YD p)(rv:Rep K O H v y)(h:∀t q,YD q->g t q=if t=s/\q=p then y else f t q):AZ K O H (cj kvs (X2 s p) b v) g:=fun t q hq=>by
 rw[zpi,h t q hq]
 by_cases c:t=s/\q=p
 .rw[if_pos c,if_pos ((xD hq hp).mpr c)]
  exact .inl ⟨v,rfl,rv⟩
 .rw[if_neg c,if_neg fun z=>c ((xD hq hp).mp z)]
  exact a t q hq
theorem AZ.mono(a:AZ K O H kvs f)(l:Ym O H O H'):AZ K O H' kvs f:=fun t q hq=>(a t q hq).imp_left fun⟨v,e,r⟩=>⟨v,e,Rep.monoP l r⟩
theorem eN(a:∀q∈kvs,dC K O H (q.1,q.2.1))(l:Ym O H O H'):∀q∈kvs,dC K O H' (q.1,q.2.1):=fun q hq=>⟨(a q hq).1,Rep.monoP l (a q hq).2⟩
theorem qz(a:∀q∈kvs,dC K O H (q.1,q.2.1))(kb:dC K O H (k,b)):∀q∈cj kvs k b v,dC K O H (q.1,q.2.1):=fun q hq=>by
 rcases zpk hq with z|⟨q',h,z⟩
 .rw[z];exact kb
 .rw[z];exact a q' h
end
structure SA(K:Frag)(P:Oz)(w:OO)(CS:Addr)(O:Addr->Prop)(H:Hp)(p dx d1 d2:Addr)(es:List G.TE):Prop where
 hp:H p=some (.ins CS dx [(Ob "shelved",.ref d1),(Ob "answers",.ref d2)])
 h1:∃kvs,H d1=some (TD P w d1 kvs)/\kvs.map (·.1)=es.map XJ/\∀q∈kvs,dC K O H (q.1,q.2.1)
 h2:∃kvs,H d2=some (TD P w d2 kvs)/\(∀q∈kvs,dC K O H (q.1,q.2.1))/\AZ K O H kvs (fun t q=>bE t q es .none)/\kvs.length<=20*es.length
 ne:d1≠d2
section
variable {K:Frag}{P:Oz}{w:OO}{CS:Addr}{O:Addr->Prop}{H H':Hp}{p dx d1 d2:Addr}{es:List G.TE}
theorem SA.mono(x:SA K P w CS O H p dx d1 d2 es)(k:∀b o,rS o=false->(∀q,o≠.lst q)->H b=some o->H' b=some o)(l:Ym O H O H'):SA K P w CS O H' p dx d1 d2 es:=by
 obtain⟨Hf,a1,a2,a3⟩:=x.h1;obtain⟨Em,b1,b2,b3,b4⟩:=x.h2;exact⟨k _ _ rfl (fun _ z=>nomatch z) x.hp,⟨Hf,k _ _ rfl (fun _ z=>nomatch z) a1,a2,eN a3 l⟩,⟨Em,k _ _ rfl (fun _ z=>nomatch z) b1,eN b2 l,b3.mono l,b4⟩,x.ne⟩
theorem SA.same(x:SA K P w CS O H p dx d1 d2 es)(s:Xx [] H H'):SA K P w CS O H' p dx d1 d2 es:=x.mono (fun b o _ _ e=>s b o (by simp) e) (.same s)
end
open Classical in
noncomputable def fK(e:G.TE)(i:Nat)(f:Str->PR->Oa)(t:Str)(q:PR):PyData:=if t=e.1/\q.length<i/\e.2.1.take q.length=q then (match e.2.1[q.length]? with
  |some p=>.str p.1
  | none=>.none) else f t q
theorem zrk(h:e.2.1[i]? = some (x,v))(t:Str)(q:PR):fK e (i+1) f t q=(open Classical in if t=e.1/\q=e.2.1.take i then .str x else fK e i f t q):=by
 classical
 unfold fK;have hi:=(Od.mp h).1
 by_cases c:t=e.1/\q=e.2.1.take i
 .have hl:q.length=i:=by grind
  rw[if_pos c,if_pos ⟨c.1,by lia,by rw[hl,c.2]⟩,hl,h]
 .rw[if_neg c]
  by_cases c2:t=e.1/\q.length<i+1/\e.2.1.take q.length=q
  .have:q.length<i:=by
    grind
   rw[if_pos c2,if_pos ⟨c2.1,this,c2.2.2⟩]
  .rw[if_neg c2,if_neg fun z=>c2 ⟨z.1,by lia,z.2.2⟩]
theorem zrl(t:Str)(q:PR):my e t q (f t q)=(open Classical in if t=e.1/\q=e.2.1 then e.2.2 else fK e e.2.1.length f t q):=by
 classical
 unfold my fK
 by_cases c:t=e.1/\q=e.2.1
 simp_all
 .rw[if_neg c]
  by_cases c2:e.1=t/\e.2.1.take q.length=q
  .have hl:q.length<e.2.1.length:=by
    rcases Nat.lt_or_ge _ _ with z|z
    .exact z
    .rw[OZ z] at c2<;>simp_all
   rw[if_pos c2,if_pos ⟨c2.1.symm,hl,c2.2⟩,OX hl]
  .rw[if_neg c2,if_neg fun z=>c2 ⟨z.1.symm,z.2.2⟩]
theorem zrm{X:Cx}{st:Stmt}:PS X st (fun _ _ _=>False):=fun _ _ _ _ _ _ h=>h.elim
theorem zrn(hr:XA k A):A.units+10<cLine:=by have:=hr.un;lia
inductive C4(K:Frag)(P:Oz)(w:OO)(C CS:Addr)(vs:List V)(H:Hp)(Q:VK):Prop where
 |mk (O:Addr->Prop) (p dx d1 d2 b:Addr) (es:List G.TE) (e:G.TE) (ev:vs=[.ref p,.ref b]) (sa:SA K P w CS O H p dx d1 d2 es) (tr:Tr O H) (rb:Rep K O H (.ref b) (XJ e)) (te:Ya C e) (co:∀x∈es,CN x e) (nm:XJ e∉es.map XJ) (hl:es.length<100)
   (q:∀H',Tr O H'->Ym O H O H'->(∀c o,c≠d1->c≠d2->H c=some o->H' c=some o)->SA K P w CS O H' p dx d1 d2 (es++[e])->Q .non H'):C4 K P w C CS vs H Q
noncomputable def Jb(K:Frag)(P:Oz)(w:OO)(C CS:Addr):Sp:=fun vs H Q _=>C4 K P w C CS vs H Q
inductive GQ(K:Frag)(P:Oz)(w:OO)(CS:Addr)(vs:List V)(H:Hp)(Q:VK):Prop where
 |mk (O:Addr->Prop) (p dx d1 d2 b:Addr) (es:List G.TE) (t:Str) (q:PR) (ev:vs=[.ref p,.str t,.ref b]) (sa:SA K P w CS O H p dx d1 d2 es) (tr:Tr O H) (rb:Rep K O H (.ref b) (.tuple (XG q))) (hq:YD q) (ht:O8 t=true)
   (k:∀v H',Xx [] H H'->Rep K O H' v (bE t q es .none)->Q v H'):GQ K P w CS vs H Q
noncomputable def Jd(K:Frag)(P:Oz)(w:OO)(CS:Addr):Sp:=fun vs H Q _=>GQ K P w CS vs H Q
inductive GP(K:Frag)(P:Oz)(w:OO)(CS:Addr)(vs:List V)(H:Hp)(Q:VK):Prop where
 |mk (O:Addr->Prop) (p dx d1 d2:Addr) (es:List G.TE) (ev:vs=[.ref p]) (sa:SA K P w CS O H p dx d1 d2 es)
   (k:∀a us,H a=none->Xs K O H us (es.map XJ)->Q (.ref a) (upd H a (.lst us))):GP K P w CS vs H Q
noncomputable def Je(K:Frag)(P:Oz)(w:OO)(CS:Addr):Sp:=fun vs H Q _=>GP K P w CS vs H Q
inductive IP(P:Oz)(w:OO)(CS:Addr)(vs:List V)(H:Hp)(Q:VK):Prop where
 |mk (p dx:Addr) (e:vs=[.ref p]) (h:H p=some (.ins CS dx [])) (q:∀(d l:Addr) (H':Hp),H d=none->H l=none->d≠l->(∀b,b≠p->b≠d->b≠l->H' b=H b)->H' p=some (.ins CS dx [(Ob "shelved",.ref d),(Ob "answers",.ref l)])->H' d=some (TD P w d [])->H' l=some (TD P w l [])->Q .non H'):IP P w CS vs H Q
noncomputable def Jc(P:Oz)(w:OO)(CS:Addr):Sp:=fun vs H Q _=>IP P w CS vs H Q
section
variable {P:Oz}{w:OO}{K:Frag}{mg:Str->Option Oc}{base:Heap}{C:Addr}(E:Ev P w K mg base (Bi K mg C) top zS){CS:Addr}(W:Wc K mg CS)
include E W
theorem zro:Dx P w K mg base CS "entries" ["self"] 1 (Je K P w CS):=by
 have S:XQ ["self"] ["self"] (aW (cE 80 3)):=eI (rfl);refine W.d3.mth (fun _ _ _ _ _ _=>by exact D.E9 fun _=>rfl) fun f fd F=>F.ok S (fun vs H Q E h=>by obtain⟨_,_,_,_,_,_,rfl,_⟩:=h;rfl) fun XS A outer s H vs Q E' hr h=>⟨_,dO (jZ (uZ (zpf rfl) rfl E.b.z WZ (bH (j4 (pv 0) rfl) bY))),?_⟩;obtain⟨O,p,dx,d1,d2,es,rfl,sa,q⟩:=h;obtain⟨kvs,a1,a2,a3⟩:=sa.h1;exact⟨_,rfl,p,CS,dx,_,_,rfl,sa.hp,W.cl,W.ns,rfl,d1,kvs,rfl,a1,fun a ha=>q a _ ha (by rw[←a2];exact vY a3)⟩
omit E in
theorem zrp:Dx P w K mg base CS "found" ["self","text","reads"] 1 (Jd K P w CS):=by
 have S:XQ ["self","text","reads"] ["self","text","reads"] (aW (cE 80 2)):=eI (rfl);refine W.d2.mth (fun _ _ _ _ _ _=>by exact D.Aq fun _ _ _=>rfl) fun f fd F=>F.ok S (fun vs H Q E h=>by obtain⟨_,_,_,_,_,_,_,_,_,rfl,_⟩:=h;rfl) fun XS A outer s H vs Q E' hr h=>⟨_,dO (jZ (zph (zrn hr) (j4 (pv 0) rfl) (bH (yC (bH (pv 1) (bH (pv 2) bY))) bY))),?_⟩;obtain⟨O,p,dx,d1,d2,b,es,t,q,rfl,sa,tr,rb,hq,ht,k⟩:=h;obtain⟨kvs,b1,b2,b3,b4⟩:=sa.h2;refine⟨_,rfl,p,CS,dx,_,_,rfl,sa.hp,W.cl,W.no,rfl,⟨d2,kvs,rfl,b1⟩,_,rfl,_,rfl,by show (2:Nat)<=Om;decide,fun t4 GY=>?_⟩;have lp:Ym O H O (upd H t4 (.tup [.str t,.ref b])):=.new GY _;refine⟨O,d2,kvs,t4,X2 t q,rfl,rfl,by rw[aK (bF b1 GY)];exact b1,eN b2 lp,⟨lH ht hq,.tup (.inl ⟨tr.fresh GY,.inl bj⟩) (.cons (.str _) (.cons (Rep.monoP lp rb) .nil))⟩,?_⟩;refine k _ _ (.new GY _) ?_
 rcases b3 t q hq with⟨v,e1,e2⟩|⟨e1,e2⟩
 .rw[e1];exact Rep.monoP lp e2
 .rw[e1,show bE t q es .none=.none from e2];exact .non
omit E in
theorem zrq:Bw P w K mg base CS ["self"] 1 (Jc P w CS):=by
 have S:XQ ["self"] ["self"] (aW (cE 80 0)):=eI (rfl);refine W.d0.ini W.mb (fun _ _ _ _ _ _=>by exact D.E9 fun _=>rfl) fun f fd F=>F.ok S (fun vs H Q E h=>by obtain⟨_,_,rfl,_⟩:=h;rfl) fun XS A outer s H vs Q E' hr h=>⟨_,cH (rR (pv 0) wc rfl) (dO (rR (pv 0) wc rfl)),?_⟩;obtain⟨p,dx,rfl,h,q⟩:=h;refine fun d hd=>⟨_,rfl,p,CS,dx,[],rfl,by rw[aK (bF h hd)];exact h,W.cl,W.ns,by decide,?_⟩;have GN:p≠d:=bF h hd;refine fun l hl=>⟨_,rfl,p,CS,dx,[(Ob "shelved",.ref d)],rfl,?_,W.cl,W.no,by show (1:Nat)<1000;decide,?_⟩
 .have:upd (upd H d (TD P w d [])) p (.ins CS dx [(Ob "shelved",.ref d)]) p=some (.ins CS dx [(Ob "shelved",.ref d)]):=bj
  exact(aK (bF this hl)).trans this
 .have X7:p≠l:=fun z=>by subst z;rw[show _=some _ from bj] at hl;cases hl
  have Hv:d≠l:=fun z=>by
   subst z;have:upd (upd H d (TD P w d [])) p (.ins CS dx [(Ob "shelved",.ref d)]) d=some (TD P w d []):=(aK (Qd GN)).trans bj;have Zc:upd (upd H d (TD P w d [])) p (.ins CS dx [(Ob "shelved",.ref d)]) d=none:=hl;rw[this] at Zc;cases Zc
  refine q d l _ hd ?_ Hv (fun b n1 n2 n3=>?_) ?_ ?_ ?_
  .have Zc:upd (upd H d (TD P w d [])) p (.ins CS dx [(Ob "shelved",.ref d)]) l=none:=hl
   rw[aK (Qd X7),aK (Qd Hv)] at Zc;exact Zc
  .rw[aK n1,aK n3,aK n1]
   exact aK n2
  .rw[bj];rfl
  .rw[aK (Qd GN),aK Hv,aK (Qd GN)]
   exact bj
  .rw[aK (Qd X7)]
   exact bj
theorem zrr:Dx P w K mg base CS "put" ["self","entry"] 87 (Jb K P w C CS):=by
 have S:XQ ["self","entry","k","read"] ["self","entry"] (aW (cE 80 1)):=eI (rfl);refine W.d1.mth (fun _ _ _ _ _ _=>by exact D.CM fun _ _=>rfl) fun f fd F=>F.ok S (fun vs H Q E h=>by obtain⟨_,_,_,_,_,_,_,_,rfl,_⟩:=h;rfl) fun XS A outer s H vs Q E' hr h=>?_
 refine⟨_,cH (kc (DT.pe (bJ (bf (aS (zqy E) hr (ae 1))))) (dO zrm) jN)
  (cH (qR (Fe hr) (j4 (pv 0) rfl) (pv 1) sJ)
  (cH (lL Q9 rfl (zhx rfl E.b.z (bH (DE.pe (av au (ae 1) aj)) bY) rfl) (yB rfl (m9 (iw (i:=2) S.nd rfl (Py rfl)) (m9 (iw (i:=3) S.nd rfl (Py rfl)) xq)))
    (dO (qR (Fe hr) (j4 (pv 0) rfl) (DE.pe (aP (ah (av au (ae 1) aj) (ah (dq (av au (ae 1) aj) eU (cp (ae 2))) ao)))) (DE.pe (av au (ae 3) aj)))))
  (dO (qR (Fe hr) (j4 (pv 0) rfl) (DE.pe (aP (ah (av au (ae 1) aj) (ah (av au (ae 1) aj) ao)))) (DE.pe (av au (ae 1) aj)))))),?_⟩
 obtain⟨O,p,dx,d1,d2,b,es,e,rfl,sa,tr,rb,te,co,nm,hl,q⟩:=h;obtain⟨Hf,a1,a2,a3⟩:=sa.h1;obtain⟨Em,b1,b2,b3,b4⟩:=sa.h2
 have big:(3000:Nat)<sizeLine:=by decide
 have gd:=te.gd;refine⟨O,[],[none,some (.d (XJ e))],[],false,[],tr.hc,aM (br rb cy),by simp[te.en.true],fun H1 s1 _=>?_⟩;rw[if_neg (by decide)];have l1:Ym O H O H1:=.same s1;have Y0:∀{c o},H c=some o->H1 c=some o:=fun {c o} h=>s1 c o (by simp) h
 have kl1:Hf.length=es.length:=by rw[←OW (f:=(·.1)),a2,OW]
 refine⟨_,rfl,p,CS,dx,_,_,rfl,Y0 sa.hp,W.cl,W.ns,rfl,_,rfl,O,d1,Hf,b,XJ e,rfl,rfl,Y0 a1,eN a3 l1,⟨sA te,Rep.monoP l1 rb⟩,by lia,?_⟩;have l2:Ym O H1 O (upd H1 d1 (TD P w d1 (cj Hf (XJ e) b (.bl true)))):=.put (.inr ⟨_,Y0 a1,rfl⟩)
 have Bg:Tr O (upd H1 d1 (TD P w d1 (cj Hf (XJ e) b (.bl true)))):=fun c hc=>by
  have:=(Tr.same tr s1) c hc;rw[aK (fun z=>by subst z;rw[Y0 a1] at this;rcases this with⟨_,z⟩|⟨_,z⟩|⟨_,_,_,z⟩ <;> cases z)];exact this
 have JD:∀c o,c≠d1->H c=some o->upd H1 d1 (TD P w d1 (cj Hf (XJ e) b (.bl true))) c=some o:=fun c o h1 h=>by rw[aK h1];exact Y0 h
 have Ec:upd H1 d1 (TD P w d1 (cj Hf (XJ e) b (.bl true))) d1=some (TD P w d1 (cj Hf (XJ e) b (.bl true))):=bj
 have Ip:p≠d1:=fun z=>by have h:=sa.hp;rw[z,a1] at h;cases h
 have Gy:p≠d2:=fun z=>by have h:=sa.hp;rw[z,b1] at h;cases h
 have D4:=Rep.monoP (l1.trans l2) rb;have Hl:∀a b c:Oa,XR [a,b,c] 1=some b:=fun _ _ _=>rfl;have IJ:∀a b c:Oa,XR [a,b,c] 0=some a:=fun _ _ _=>rfl;have Iu:∀a b c:Oa,XR [a,b,c] 2=some c:=fun _ _ _=>rfl;refine⟨O,[],[none,some (.d (XJ e))],[],.d (.tuple (XG e.2.1)),[],Bg.hc,aM (br D4 cy),by simp[XJ,Hl],fun v3 H3 s3 _ rv3=>?_⟩;have Gk:Rep K O H3 v3 (.tuple (XG e.2.1)):=rv3
 cases Gk with
 |@tup la vx _ tx rx=>
 have lx:=rx.length;have IQ:∀{c o},(upd H1 d1 (TD P w d1 (cj Hf (XJ e) b (.bl true)))) c=some o->H3 c=some o:=fun {c o} h=>s3 c o (by simp) h;have l3:Ym O (upd H1 d1 (TD P w d1 (cj Hf (XJ e) b (.bl true)))) O H3:=.same s3;refine⟨la,vx,rfl,tx.sq,fun _=>?_⟩;refine zpm (xs:=vx) (fun i σ Hi=>∃o2 o3 kvs,σ=[some (.ref p),some (.ref b),o2,o3]/\Tr O Hi/\Ym O H3 O Hi/\(∀c o,c≠d2->H3 c=some o->Hi c=some o)/\Hi d2=some (TD P w d2 kvs)/\(∀q∈kvs,dC K O Hi (q.1,q.2.1))/\AZ K O Hi kvs (fK e i fun t q=>bE t q es .none)/\kvs.length<=Em.length+i) ?_ (fun i σ Hi hi h=>?_) (fun i x σ Hi t4 hx GY h=>?_) fun σ Hi h=>?_
 .refine⟨none,none,Em,rfl,Bg.same s3,.refl,fun _ _ _ h=>h,IQ (JD _ _ (Qd sa.ne) b1),eN b2 (l1.trans (l2.trans l3)),?_,by lia⟩
  have:AZ K O H3 Em (fun t q=>bE t q es .none):=b3.mono (l1.trans (l2.trans l3));intro t q hq;have z:fK e 0 (fun t q=>bE t q es .none) t q=bE t q es .none:=if_neg fun z=>absurd z.2.1 (by lia);rw[z];exact this t q hq
 .obtain⟨_,_,_,_,_,h,_⟩:=h
  exact(TupAt.monoP h tx).sq
 .obtain⟨o2,o3,kvs,rfl,F5,li,JE,Hc,ki,ai,BJ⟩:=h
  obtain⟨d,hd,rd⟩:=rx.get hx
  obtain⟨⟨n,v⟩,hg,rfl⟩:∃q:Str×Oa,e.2.1[i]? = some q/\d=.tuple [.str q.1,.str (tS q.2)]:=by
   unfold XG at hd;rw[O7] at hd
   cases hq:e.2.1[i]? with
   |none=>rw[hq] at hd;cases hd
   |some q=>rw[hq] at hd;cases hd;exact⟨q,rfl,rfl⟩
  have hi:i<e.2.1.length:=(Od.mp hg).1;have few:=te.few;have l4:Ym O Hi O (upd Hi t4 (.tup [.int (i:Int),x])):=.new GY _;have s4:Xx [] Hi (upd Hi t4 (.tup [.int (i:Int),x])):=.new GY _;have rb4:=Rep.monoP (l3.trans (li.trans l4)) D4;have rx4:=Rep.monoP (li.trans l4) rd;refine⟨t4,_,rfl,Yn.of bj,rfl,_,_,rfl,_,_,rfl,rfl,?_⟩;have p0:∀a b:Oa,XR [a,b] 0=some a:=fun _ _=>rfl;refine⟨O,[],[none,none,none,some (.d (.tuple [.str n,.str (tS v)]))],[],.d (.str n),[],(F5.same s4).hc,aM (aM (aM (br rx4 cy))),by simp[p0],fun v5 H5 s5 _ B6=>?_⟩;cases (show Rep K O H5 v5 (.str n) from B6);have F9:=s4.trans s5;refine⟨_,rfl,p,CS,dx,_,_,rfl,F9 _ _ (by simp) (JE _ _ Gy (IQ (JD _ _ Ip sa.hp))),W.cl,W.no,rfl,?_⟩;refine⟨O,[],[none,some (.d (XJ e)),some (.d (.int (i:Int)))],[],.d (X2 e.1 (e.2.1.take i)),[],(F5.same F9).hc,aM (br (Rep.monoP (.same s5) rb4) (br (.int _) cy)),by simp[XJ,IJ,Hl,lE,m8,X2],fun v6 H6 s6 _ Kb=>?_⟩;have Z5:Rep K O H6 v6 (X2 e.1 (e.2.1.take i)):=Kb;obtain⟨kb,_,rfl,_,_⟩:=(Vw.rep Z5).tup;have Eg:=F9.trans s6;have ID:Ym O Hi O H6:=.same Eg;have h6:H6 d2=some (TD P w d2 kvs):=Eg _ _ (by simp) Hc;refine⟨O,d2,kvs,kb,X2 e.1 (e.2.1.take i),rfl,rfl,h6,eN ki ID,⟨lH te.txt (gd.take i),Z5⟩,by lia,?_⟩;have l7:Ym O H6 O (upd H6 d2 (TD P w d2 (cj kvs (X2 e.1 (e.2.1.take i)) kb (.str n)))):=.put (.inr ⟨_,h6,rfl⟩);refine⟨_,_,cj kvs (X2 e.1 (e.2.1.take i)) kb (.str n),rfl,fun c hc=>?_,li.trans (ID.trans l7),fun c o h1 h=>?_,bj,qz (eN (eN ki ID) l7) ⟨lH te.txt (gd.take i),Rep.monoP l7 Z5⟩,?_,?_⟩
  .have:=(F5.same Eg) c hc
   rw[aK (fun z=>by subst z;rw[h6] at this;rcases this with⟨_,z⟩|⟨_,z⟩|⟨_,_,_,z⟩ <;> cases z)];exact this
  .rw[aK h1];exact Eg _ _ (by simp) (JE c o h1 h)
  .exact((ai.mono ID).mono l7).put (gd.take i) (.str n) fun t q _=>zrk hg t q
  .have:=qx kvs (X2 e.1 (e.2.1.take i)) kb (.str n);lia
 .obtain⟨o2,o3,kvs,rfl,F5,li,JE,Hc,ki,ai,BJ⟩:=h
  have few:=te.few;rw[lx,lz] at ai BJ;have AG:=Rep.monoP (l3.trans li) D4;refine⟨O,[],[none,some (.d (XJ e))],[],.d e.2.2,[],F5.hc,aM (br AG cy),by simp[XJ,Iu],fun v5 H5 s5 _ B6=>?_⟩;have Ef:Rep K O H5 v5 e.2.2:=B6;refine⟨_,rfl,p,CS,dx,_,_,rfl,s5 _ _ (by simp) (JE _ _ Gy (IQ (JD _ _ Ip sa.hp))),W.cl,W.no,rfl,?_⟩;refine⟨O,[],[none,some (.d (XJ e))],[],.d (X2 e.1 e.2.1),[],(F5.same s5).hc,aM (br (Rep.monoP (.same s5) AG) cy),by simp[XJ,IJ,Hl,X2],fun v6 H6 s6 _ Kb=>?_⟩;have Z5:Rep K O H6 v6 (X2 e.1 e.2.1):=Kb;obtain⟨kb,_,rfl,_,_⟩:=(Vw.rep Z5).tup;have IH:=s5.trans s6;have Kc:Ym O Hi O H6:=.same IH;have h6:H6 d2=some (TD P w d2 kvs):=IH _ _ (by simp) Hc;refine⟨O,d2,kvs,kb,X2 e.1 e.2.1,rfl,rfl,h6,eN ki Kc,⟨lH te.txt gd,Z5⟩,by lia,?_⟩;have l7:Ym O H6 O (upd H6 d2 (TD P w d2 (cj kvs (X2 e.1 e.2.1) kb v5))):=.put (.inr ⟨_,h6,rfl⟩);have lf:Ym O H O H6:=l1.trans (l2.trans (l3.trans (li.trans Kc)))
  have frf:∀c o,c≠d2->(upd H1 d1 (TD P w d1 (cj Hf (XJ e) b (.bl true)))) c=some o->upd H6 d2 (TD P w d2 (cj kvs (X2 e.1 e.2.1) kb v5)) c=some o:=fun c o h1 h=>by rw[aK h1];exact IH _ _ (by simp) (JE c o h1 (IQ h))
  refine q _ (fun c hc=>?_) (lf.trans l7) (fun c o h1 h2 h=>frf c o h2 (JD c o h1 h)) ⟨frf _ _ Gy (JD _ _ Ip sa.hp),⟨_,frf _ _ sa.ne Ec,?_,qz (eN a3 (lf.trans l7)) ⟨sA te,Rep.monoP (lf.trans l7) rb⟩⟩,⟨_,bj,qz (eN (eN ki Kc) l7) ⟨lH te.txt gd,Rep.monoP l7 Z5⟩,?_,?_⟩,sa.ne⟩
  .have:=(F5.same IH) c hc
   rw[aK (fun z=>by subst z;rw[h6] at this;rcases this with⟨_,z⟩|⟨_,z⟩|⟨_,_,_,z⟩ <;> cases z)];exact this
  .rw[zpj,a2]
   unfold putL;rw[if_neg nm,Rx];rfl
  .refine((ai.mono Kc).mono l7).put gd (Rep.monoP (.trans (.same s6) l7) Ef) fun t q _=>?_
   rw[wH co];exact zrl (e:=e) (f:=fun t q=>bE t q es .none) t q
  .have:=qx kvs (X2 e.1 e.2.1) kb v5
   rw[Pj];show _<=20*(es.length+1)
   lia
end
end TK
namespace TK
open L2 D G
theorem zrs{K:Frag}{O O1:Addr->Prop}{H:Hp}{us:List V}{cs:List Int}(h:Xs K O1 H us (il cs)):Xs K O H us (il cs):=by
 induction cs generalizing us with
 |nil=>cases h;exact .nil
 |cons c cs ih=>
  cases h with
  |cons a b=>cases a;exact .cons (.int _) (ih b)
theorem zrt{P:Oz}{w:OO}{CS:Addr}{H H':Hp}{p dx d l:Addr}(hp:H p=none)(Cd:H dx=none)(n:dx≠p)(hd:upd (upd H dx (.own p)) p (.ins CS dx []) d=none)(hl:upd (upd H dx (.own p)) p (.ins CS dx []) l=none)
  (fr:∀b,b≠p->b≠d->b≠l->H' b=upd (upd H dx (.own p)) p (.ins CS dx []) b):Xx [] H H':=fun c o _ e=>by
 have e1:upd (upd H dx (.own p)) p (.ins CS dx []) c=some o:=by rw[aK (bF e hp),aK (bF e Cd)];exact e
 rw[fr c (bF e hp) (bF e1 hd) (bF e1 hl)];exact e1
theorem zru(s:Xx [] H H')(h:H' c=none):H c=none:=by
 cases e:H c with
 |none=>rfl
 |some o=>rw[s c o (by simp) e] at h;cases h
theorem KI(h:Zz [2,7,3,3] cs):∃c0 c1 c2 c3,cs=[c0,c1,c2,c3]/\0<=c1/\c1<7/\0<=c2/\c2<3:=by
 obtain⟨hl,hb⟩:=h
 match cs,hl with
 |[c0,c1,c2,c3],_=>
  have b1:=hb 1 c1 7 rfl rfl;have b2:=hb 2 c2 3 rfl rfl;exact⟨c0,c1,c2,c3,rfl,b1.1,b1.2,b2.1,b2.2⟩
theorem Ir{es:List G.TE}(h:∀e∈es,Ya C e):(es.map XJ).all (tk 3)=true:=Ou.mpr fun d hd=>by
 obtain⟨e,he,rfl⟩:=OF.mp hd;exact sA (h e he)
theorem FX(h:ds.all (tk 3)=true):OP (.list ds)=true/\OL (.list ds) (.list ds)=true:=by
 have a:Pi ds=true:=sr (fun x _ hx=>lG hx) h;have b:PU ds<=3:=depthAll fun x hm=>qu (Ou.mp h x hm);have c:OY ds ds=true:=(qj (fun a b=>si (n:=3) a b) h h).mpr rfl;constructor
 .simp[OP,PQ,QM,a]
  lia
 .simp[OL,c]
theorem Ee{c0 c1 c2 c3:Int}{j:Nat}:(cg (aw (af YC (af XH (aa 9) (fC (.int 0))) (fC (.int 1)))) (aw (af Au (aa 7) (fC (.int 0))))) [none,none,none,none,none,none,none,some (.d (.int (j:Int))),none,some (.d (.list (il [c0,c1,c2,c3])))] []=some (decide (c0=1/\0<j),[]):=by
 by_cases h:c0=1
 .simp[fM.1,h]
 .simp[fM.1,h]
theorem Ed{c0 c1 c2 c3:Int}{j:Nat}:(cg (aw (af YC (af XH (aa 9) (fC (.int 3))) (fC (.int 1)))) (aw (af Au (aa 7) (fC (.int 0))))) [none,none,none,none,none,none,none,some (.d (.int (j:Int))),none,some (.d (.list (il [c0,c1,c2,c3])))] []=some (decide (c3=1/\0<j),[]):=by
 by_cases h:c3=1
 .simp[fM.2.2.2,h]
 .simp[fM.2.2.2,h]
structure LI(K:Frag)(P:Oz)(w:OO)(CS:Addr)(O:Addr->Prop)(ns:List Int)(nm:List Str)(es:List G.TE)(v0 v1:V)(a2:Addr)(xs:List V)(p dx d1 d2 ly:Addr)(H:Hp)(n:Nat):Prop where
 tr:Tr O H
 sa:SA K P w CS O H p dx d1 d2 (es.take n)
 lf:∃us,H ly=some (.lst us)/\Xs K O H us ((es.take n).map XJ)
 r0:Rep K O H v0 (bX ns)
 r1:Rep K O H v1 (.list (X4 nm))
 l2:LstAt K O H a2 xs
 r2:Xs K O H xs (es.map XJ)
section
variable {K:Frag}{P:Oz}{w:OO}{CS:Addr}{O:Addr->Prop}{ns:List Int}{nm:List Str}{es:List G.TE}{v0 v1:V}{a2:Addr}{xs:List V}{p dx d1 d2 ly:Addr}{H H':Hp}{n:Nat}
theorem LI.same(h:LI K P w CS O ns nm es v0 v1 a2 xs p dx d1 d2 ly H n)(s:Xx [] H H'):LI K P w CS O ns nm es v0 v1 a2 xs p dx d1 d2 ly H' n:=by
 obtain⟨us,e,r⟩:=h.lf;have l:Ym O H O H':=.same s;exact⟨h.tr.same s,h.sa.same s,⟨us,s _ _ (by simp) e,Xs.monoP l r⟩,Rep.monoP l h.r0,Rep.monoP l h.r1,LstAt.monoP l h.l2,Xs.monoP l h.r2⟩
theorem LI.lst2(h:LI K P w CS O ns nm es v0 v1 a2 xs p dx d1 d2 ly H n):Rep K O H (.ref a2) (.list (es.map XJ)):=.lst h.l2 h.r2
end
noncomputable def fBody(s:Stmt):List Stmt:=match s with
 |.For _ _ b _ _=>b
 |_=>[]
noncomputable def kB:List Stmt:=fBody ((bV (top 103)).getD 4 (.Pass ⟨0,0,0,0⟩))
noncomputable def jB:List Stmt:=fBody ((fBody (kB.getD 0 (.Pass ⟨0,0,0,0⟩))).getD 0 (.Pass ⟨0,0,0,0⟩))
abbrev pd:List Str:=["_law_script","_law_names_here","_law_entries_here","_law_shelf","_law_lying","_law_k","_law_entry_here","_law_j","_law_reads","_law_draws_here","_law_spot","_law_read","_law_text"]
section
variable {P:Oz}{w:OO}{K:Frag}{mg:Str->Option Oc}{base:Heap}{C:Addr}(E:Ev P w K mg base (Bi K mg C) top zS){CS:Addr}(W:Wc K mg CS)
include E W
theorem Hy(F:Ju K "law" "law" (top 103) DH fd):X5 P w K mg base YT 90 DH fd ["_law_script"] (sF K):=by
 have S:XQ pd ["_law_script"] (aW (top 103)):=eI (by decide +kernel);obtain⟨f0,fd0,A1,A2,A3⟩:=(zrq (P:=P) (w:=w) (base:=base) W).ex;obtain⟨f1,fd1,B1,B2,B3⟩:=(zrr E W).ex;obtain⟨f2,fd2,C1,C2,C3⟩:=(zrp (P:=P) (w:=w) (base:=base) W).ex;obtain⟨f3,fd3,D1,D2,D3⟩:=(zro E W).ex;refine F.ok S (fun vs H Q E h=>by obtain⟨_,_,rfl,_⟩:=h;rfl) fun XS A outer s H vs Q E' hr h=>?_;obtain⟨as,ns,rfl,hS,hl,q⟩:=h
 have inner:∃t,Zy (dY YT P w K mg base pd "law" (aW (top 103)) DH XS A outer s H E').nox jB t/\∀(nm:List Str) (es:List G.TE) (v1:V) (a2:Addr) (xs:List V) (p dx d1 d2 ly:Addr) (i j:Nat) (e:G.TE) (x:V) (o8 o9 Yx Yw YB:Option V) (Hj:Hp) (D:Ends),ZZ nm->nm.length=4->(∀e∈es,Ya C e)->e∈es->j<=e.2.1.length->i<=20->LI K P w CS (fun b=>b=ly) ns nm es (.ref as) v1 a2 xs p dx d1 d2 ly Hj i->Rep K (fun b=>b=ly) Hj x (XJ e) ->
   (∀H' o8 o9 Yx Yw YB,LI K P w CS (fun b=>b=ly) ns nm es (.ref as) v1 a2 xs p dx d1 d2 ly H' i->Rep K (fun b=>b=ly) H' x (XJ e)->D.nx [some (.ref as),some v1,some (.ref a2),some (.ref p),some (.ref ly),some (.int (i:Int)),some x,some (.int (j:Int)),o8,o9,Yx,Yw,YB] H') ->
   t D [some (.ref as),some v1,some (.ref a2),some (.ref p),some (.ref ly),some (.int (i:Int)),some x,some (.int (j:Int)),o8,o9,Yx,Yw,YB] Hj:=by
  refine⟨_,(cH (da (i:=8) S.nd rfl (Py rfl) (DE.pe (dq (av au (ae 6) aj) eU (cp (ae 7)))))
    (cH (da (i:=9) S.nd rfl (Py rfl) (gQ (mL E) (hr.mono (by lia)) rfl (bH (pv 0) (bH (DE.pe (aJ aX (aJ aX aj (ae 7)) (ae 5))) (bH (DE.pe (cN (ah aj (ah aj (ah aj (ah aj ao)))))) bY)))))
    (cH (yy (kc (DT.pe (bK (eF (aF aR (av au (ae 9) aj) aj) (eS (aF eB (ae 7) aj))))) (dO (da (i:=8) S.nd rfl (Py rfl) (DE.pe (aJ aX (dq (ae 8) eU (cp (lS aj))) (aP (ah (aP (ah (av au (av au (ae 8) (lS aj)) aj) (ah (aS (pG E 25) hr (av au (ae 9) aj)) ao))) ao)))))) jN))
    (cH (yy (kc (DT.pe (bK (eF (aF aR (av au (ae 9) aj) aj) (eS (aF eB (ae 7) aj))))) (cH (da (i:=10) S.nd rfl (Py rfl) (DE.pe (aJ cT (av au (ae 9) aj) (ae 7))))
    (cH (da (i:=11) S.nd rfl (Py rfl) (DE.pe (aP (ah (av au (ae 1) (aJ cT (av au (ae 9) aj) aj)) (ah (av au (av au (ae 8) (ae 10)) aj) ao)))))
    (dO (da (i:=8) S.nd rfl (Py rfl) (DE.pe (aJ aX (aJ aX (dq (ae 8) eU (cp (ae 10))) (aP (ah (ae 11) ao))) (dq (ae 8) (cp (aJ aX (ae 10) aj)) eU))))))) jN))
    (cH (da (i:=12) S.nd rfl (Py rfl) (DE.pe (av au (cN (ah (av au (ae 6) aj) (ah (av au (av au (ae 2) (lS aj)) aj) (ah ax ao)))) (aJ gj (av au (ae 9) aj) (cX oN rfl E.b.z Rb (ah (bQ aR (aJ cT (ae 7) aj) aj) ao))))))
    (dO (kc (yw (zaq (gQ (zrj E) (hr.mono (by lia)) rfl (bH (qT (pv 3) W.cl C3 C1 (hr.mono (by lia)) C2 .nil iD (bH (pv 12) (bH (pv 8) bY)) rfl rfl rfl) (bH (gQ (zri E) (hr.mono (by lia)) rfl (bH (pv 4) (bH (pv 12) (bH (pv 8) bY)))) bY))))) (dO (jZ sJ)) jN))))))),fun nm es v1 a2 xs p dx d1 d2 ly i j e x o8 o9 Yx Yw YB Hj D hN FC hE FY AS hi li rx hD=>?_⟩
  have te:=hE e FY;have few:=te.few;have Io:(fun b=>b=ly) ly:=rfl;generalize (fun b=>b=ly)=O at *;refine⟨O,[],[none,none,none,none,none,none,some (.d (XJ e)),some (.d (.int (j:Int)))],[],.d (.tuple (XG (e.2.1.take j))),[],li.tr.hc,aM (aM (aM (aM (aM (aM (br rx (br (.int _) cy))))))),zoq,fun v8 H5 s5 _ Iz=>?_⟩;have X8:Rep K O H5 v8 (.tuple (XG (e.2.1.take j))):=Iz;have li:=li.same s5;have rx:=Rep.monoP (.same s5) rx;obtain⟨cs,ed,hd⟩:=nT (ns:=ns) (zs:=[2,7,3,3]) (k:=40+j+i) (T:=[]) (by lia) (by decide) (by decide)
  have ki:((40+j+i:Nat):Int)=40+(j:Int)+(i:Int):=by lia
  rw[ki] at ed;obtain⟨c0,c1,c2,c3,rfl,b1,b2,b3,b4⟩:=KI hd;refine⟨_,rfl,O,[],[none,none,none,none,none,some (.d (.int (i:Int))),none,some (.d (.int (j:Int)))],[],.d (.int (40+(j:Int)+(i:Int))),[],li.tr.hc,aM (aM (aM (aM (aM (br (.int _) (aM (br (.int _) cy))))))),by simp,fun va H6 s6 _ Ka=>?_⟩;cases (show Rep K O H6 va (.int (40+(j:Int)+(i:Int))) from Ka);refine⟨O,[],[],[],.d (.list (il [2,7,3,3])),[],(li.same s6).tr.hc,cy,by simp[il],fun vz H7 s7 _ rvz=>?_⟩;have BN:=s6.trans s7;have li:=li.same BN;refine⟨O,[],[],[.d (bX ns),.d (.int (40+(j:Int)+(i:Int))),.d (.list (il [2,7,3,3]))],.list (il [c0,c1,c2,c3]),[],li.tr.hc,.cons li.r0 (.cons (.int _) (.cons rvz .nil)),rfl,ed,fun A9 v9 H8 s8 hA9 hc8 own=>?_⟩;obtain⟨a9,rfl,hA5,us9,e9,r9⟩:∃a9,v9=.ref a9/\(∀c,A9 c↔c=a9)/\Yf K (fun c=>O c\/A9 c) H8 a9 (.list (il [c0,c1,c2,c3])):=own;have no9:¬O a9:=li.tr.fresh (hA9 a9 ((hA5 a9).mpr rfl)).1;have Zu:Rep K O H8 (.ref a9) (.list (il [c0,c1,c2,c3])):=.lst (.inl ⟨no9,.inl e9⟩) (zrs r9);have Dh:=BN.trans s8;have li:=li.same s8;have rx:=Rep.monoP (.same Dh) rx;have X8:=Rep.monoP (.same Dh) X8;have gq:YD (e.2.1.take j):=te.gd.take j
  have lq:(e.2.1.take j).length=j:=by rw[QA];lia
  refine⟨fun σ' H'=>∃q v8,σ'=[some (.ref as),some v1,some (.ref a2),some (.ref p),some (.ref ly),some (.int (i:Int)),some x,some (.int (j:Int)),some v8,some (.ref a9),Yx,Yw,YB]/\LI K P w CS O ns nm es (.ref as) v1 a2 xs p dx d1 d2 ly H' i/\Rep K O H' x (XJ e)/\Rep K O H' v8 (.tuple (XG q))/\Rep K O H' (.ref a9) (.list (il [c0,c1,c2,c3]))/\YD q/\q.length=j,?_,?_⟩
  .refine⟨O,[],[none,none,none,none,none,none,none,some (.d (.int (j:Int))),none,some (.d (.list (il [c0,c1,c2,c3])))],[],decide (c0=1/\0<j),[],li.tr.hc,aM (aM (aM (aM (aM (aM (aM (br (.int _) (aM (br Zu cy))))))))),Ee,fun H9 s9 _=>?_⟩
   have li:=li.same s9;have rx:=Rep.monoP (.same s9) rx;have X8:=Rep.monoP (.same s9) X8;have Zu:=Rep.monoP (.same s9) Zu
   by_cases hc:c0=1/\0<j
   .rw[if_pos (decide_eq_true hc)]
    obtain⟨a,⟨y,u⟩,hq⟩:∃a q,e.2.1.take j=a++[q]:=by
     rcases RU (e.2.1.take j) with z|⟨a,q,z⟩
     .rw[z] at lq;simp at lq;lia
     .exact⟨a,q,by rw[z,Ur]⟩
    rw[hq] at X8 gq lq
    have la:a.length+1=j:=by simpa using lq
    refine⟨O,[],[none,none,none,none,none,none,none,none,some (.d (.tuple (XG (a++[(y,u)])))),some (.d (.list (il [c0,c1,c2,c3])))],[],.d (.tuple (XG (a++[(y,.int c1)]))),[],li.tr.hc,aM (aM (aM (aM (aM (aM (aM (aM (br X8 (br Zu cy))))))))),zor b1 b2 (by lia),fun w8 J3 Fs _ rw8=>?_⟩;refine⟨a++[(y,RZ c1)],w8,rfl,li.same Fs,Rep.monoP (.same Fs) rx,(show Rep K O J3 w8 (.tuple (XG (a++[(y,RZ c1)]))) from rw8),Rep.monoP (.same Fs) Zu,?_,by simpa using lq⟩;have ga:YD a:=⟨fun z hz=>gq.1 z (Pb _ hz),fun z hz=>gq.2 z (Pb _ hz)⟩;exact ga.app (.one (uJ b1 b2) (gq.2 (y,u) (by simp)))
   .rw[if_neg (by rw[decide_eq_false hc];decide)]
    exact⟨_,v8,rfl,li,rx,X8,Zu,gq,lq⟩
  clear gq lq X8 rx li Zu;rintro σ' H9 ⟨q1,w8,rfl,li,rx,X8,Zu,gq,lq⟩;refine⟨fun σ' H'=>∃q v8 Yx Yw,σ'=[some (.ref as),some v1,some (.ref a2),some (.ref p),some (.ref ly),some (.int (i:Int)),some x,some (.int (j:Int)),some v8,some (.ref a9),Yx,Yw,YB]/\LI K P w CS O ns nm es (.ref as) v1 a2 xs p dx d1 d2 ly H' i/\Rep K O H' x (XJ e)/\Rep K O H' v8 (.tuple (XG q))/\Rep K O H' (.ref a9) (.list (il [c0,c1,c2,c3]))/\YD q,?_,?_⟩
  .refine⟨O,[],[none,none,none,none,none,none,none,some (.d (.int (j:Int))),none,some (.d (.list (il [c0,c1,c2,c3])))],[],decide (c3=1/\0<j),[],li.tr.hc,aM (aM (aM (aM (aM (aM (aM (br (.int _) (aM (br Zu cy))))))))),Ed,fun J3 Fs _=>?_⟩
   have li:=li.same Fs;have rx:=Rep.monoP (.same Fs) rx;have X8:=Rep.monoP (.same Fs) X8;have Zu:=Rep.monoP (.same Fs) Zu
   by_cases hc:c3=1/\0<j
   .rw[if_pos (decide_eq_true hc)]
    refine⟨O,[],[none,none,none,none,none,none,none,some (.d (.int (j:Int))),none,some (.d (.list (il [c0,c1,c2,c3])))],[],.d (.int (c1 % (j:Int))),[],li.tr.hc,aM (aM (aM (aM (aM (aM (aM (br (.int _) (aM (br Zu cy))))))))),zos hc.2 (by lia),fun va Dp Ek _ Ka=>?_⟩;cases (show Rep K O Dp va (.int (c1 % (j:Int))) from Ka);have m0:=Pn c1 (show (j:Int)≠0 by lia);have m1:=O9 c1 (show 0<(j:Int) by lia);obtain⟨sp,G7⟩:∃n:Nat,c1 % (j:Int)=(n:Int):=⟨(c1 % (j:Int)).toNat,by lia⟩
    have JT:sp<q1.length:=by lia
    obtain⟨⟨y0,u⟩,hq⟩:∃z,q1[sp]? = some z:=⟨_,OX JT⟩;obtain⟨y,ey,hy⟩:=zy hN (r:=c1 % 4) (Pn _ (by decide)) (by rw[FC];exact O9 _ (by decide));rw[G7];have li:=li.same Ek;have X8:=Rep.monoP (.same Ek) X8;refine⟨O,[],[none,some (.d (.list (X4 nm))),none,none,none,none,none,none,some (.d (.tuple (XG q1))),some (.d (.list (il [c0,c1,c2,c3]))),some (.d (.int (sp:Int)))],[],.d (.tuple [.str y,.str (tS u)]),[],li.tr.hc,aM (br li.r1 (aM (aM (aM (aM (aM (aM (br X8 (br (Rep.monoP (.same Ek) Zu) (br (.int _) cy)))))))))),zot ey hq,fun vr H12 JH _ rvr=>?_⟩;have li:=li.same JH;have X8:=Rep.monoP (.same JH) X8;refine⟨O,[],[none,none,none,none,none,none,none,none,some (.d (.tuple (XG q1))),none,some (.d (.int (sp:Int))),some (.d (.tuple [.str y,.str (tS u)]))],[],.d (.tuple (XG (q1.take sp++[(y,u)]++q1.drop (sp+1)))),[],li.tr.hc,aM (aM (aM (aM (aM (aM (aM (aM (br X8 (aM (br (.int _) (br rvr cy))))))))))),zou JT (by lia),fun w9 H13 DJ _ rw9=>?_⟩;have sx:=Ek.trans (JH.trans DJ);exact⟨_,w9,_,_,rfl,li.same DJ,Rep.monoP (.same sx) rx,rw9,Rep.monoP (.same sx) Zu,((gq.take sp).app (.one (gq.1 (y0,u) (OA hq)) hy)).app (gq.drop (sp+1))⟩
   .rw[if_neg (by rw[decide_eq_false hc];decide)]
    exact⟨q1,w8,_,_,rfl,li,rx,X8,Zu,gq⟩
  clear gq lq X8 rx li Zu;rintro σ' J3 ⟨q2,w9,p10,p11,rfl,li,rx,Iz,Zu,gq⟩;obtain⟨t,ht,et⟩:=zov (j:=j) (c0:=c0) (c1:=c1) (c3:=c3) FY hE b3 b4;refine⟨O,[],[none,none,some (.d (.list (es.map XJ))),none,none,none,some (.d (XJ e)),some (.d (.int (j:Int))),none,some (.d (.list (il [c0,c1,c2,c3])))],[],.d (.str t),[],li.tr.hc,aM (aM (br li.lst2 (aM (aM (aM (br rx (br (.int _) (aM (br Zu cy))))))))),et,fun vt Dp Ek _ rvt=>?_⟩;cases (show Rep K O Dp vt (.str t) from rvt);have li:=li.same Ek;have rx:=Rep.monoP (.same Ek) rx;have X8:Rep K O Dp w9 (.tuple (XG q2)):=Rep.monoP (.same Ek) Iz;obtain⟨b8,_,rfl,_,_⟩:=(Vw.rep X8).tup;have AO:∀y∈es.take i,Ya C y:=fun y hy=>hE y (Rh hy);refine⟨_,rfl,p,dx,_,rfl,li.sa.hp,rfl,_,rfl,_,rfl,O,p,dx,d1,d2,b8,es.take i,t,q2,rfl,li.sa,li.tr,X8,gq,ht,fun vf H12 JH rvf=>?_⟩;have li:=li.same JH;obtain⟨us,E5,HW⟩:=li.lf;refine⟨_,rfl,_,rfl,_,rfl,but O ly,[],[],[.d (.list ((es.take i).map XJ)),.d (.str t),.d (.tuple (XG q2))],bE t q2 (es.take i) .none,[],(zb li.tr ly).hc,.cons (zpl E5 HW) (.cons (.str t) (.cons (Rep.monoP (sv ly) (Rep.monoP (.same JH) X8)) .nil)),rfl,zod gq (fun y hy=>(AO y hy).gd) [],fun vd H13 DJ _ rvd=>?_⟩;have li:=li.same DJ;refine⟨but O ly,[],[],[.d (bE t q2 (es.take i) .none),.d (bE t q2 (es.take i) .none)],.bool true,[],(zb li.tr ly).hc,.cons (Rep.monoP (sv ly) (Rep.monoP (.same DJ) rvf)) (.cons rvd .nil),rfl,zol (wJ AO (.inl rfl)) [],fun vb H14 AR _ Iy=>?_⟩;cases (show Rep K (but O ly) H14 vb (.bool true) from Iy);refine⟨true,rfl,?_⟩;show (if (!true)=true then _ else _);rw[if_neg (by decide)];exact hD _ _ _ _ _ _ (li.same AR) (Rep.monoP (.same (JH.trans (DJ.trans AR))) rx)
 obtain⟨tin,HM,main⟩:=inner
 have GH:∃t,PS (dY YT P w K mg base pd "law" (aW (top 103)) DH XS A outer s H E').nox (kB.getD 0 (.Pass ⟨0,0,0,0⟩)) t/\∀(nm:List Str) (es:List G.TE) (v1:V) (a2:Addr) (xs:List V) (p dx d1 d2 ly:Addr) (i:Nat) (o6 o7 o8 o9 Yx Yw YB:Option V) (Hi:Hp) (D:Ends),ZZ nm->nm.length=4->(∀e∈es,Ya C e)->i<=20->LI K P w CS (fun b=>b=ly) ns nm es (.ref as) v1 a2 xs p dx d1 d2 ly Hi i->(∀H' o6 o7 o8 o9 Yx Yw YB,LI K P w CS (fun b=>b=ly) ns nm es (.ref as) v1 a2 xs p dx d1 d2 ly H' i->D.nx [some (.ref as),some v1,some (.ref a2),some (.ref p),some (.ref ly),some (.int (i:Int)),o6,o7,o8,o9,Yx,Yw,YB] H')->t D [some (.ref as),some v1,some (.ref a2),some (.ref p),some (.ref ly),some (.int (i:Int)),o6,o7,o8,o9,Yx,Yw,YB] Hi:=by
  refine⟨_,(lL Q9 rfl (zbd (pv 2)) (iw (i:=6) S.nd rfl (Py rfl)) (dO (lL Q9 rfl (qd rfl E.b.z (bH (DE.pe (aJ aX (bh bv rfl E.b.z O5 (ah (av au (ae 6) aj) ao)) aj)) bY)) (iw (i:=7) S.nd rfl (Py rfl)) HM))),fun nm es v1 a2 xs p dx d1 d2 ly i o6 o7 o8 o9 Yx Yw YB Hi D hN FC hE hi li hD=>?_⟩
  have big:(3000:Nat)<sizeLine:=by decide
  let O:Addr->Prop:=fun b=>b=ly
  refine⟨_,rfl,a2,rfl,⟨xs,li.l2.sq⟩,zbg (xs:=xs) (fun m σ Hm=>∃o6 o7 o8 o9 Yx Yw YB,σ=[some (.ref as),some v1,some (.ref a2),some (.ref p),some (.ref ly),some (.int (i:Int)),o6,o7,o8,o9,Yx,Yw,YB]/\LI K P w CS O ns nm es (.ref as) v1 a2 xs p dx d1 d2 ly Hm i) ⟨_,_,_,_,_,_,_,rfl,li⟩ (fun m σ Hm _ h=>?_) ?_ ?_⟩
  .obtain⟨_,_,_,_,_,_,_,_,h⟩:=h
   exact h.l2.sq
  .rintro m x σ Hm hx ⟨o6,o7,o8,o9,Yx,Yw,YB,rfl,li⟩
   obtain⟨d,hd,rx⟩:=li.r2.get hx
   obtain⟨e,he,rfl⟩:∃e,es[m]? = some e/\d=XJ e:=by
    rw[O7] at hd
    cases hq:es[m]? with
    |none=>rw[hq] at hd;cases hd
    |some e=>rw[hq] at hd;cases hd;exact⟨e,rfl,rfl⟩
   have FY:e∈es:=OA he;have te:=hE e FY;have few:=te.few;have Hl:∀a b c:Oa,XR [a,b,c] 1=some b:=fun _ _ _=>rfl;refine⟨O,[],[none,none,none,none,none,none,some (.d (XJ e))],[],.d (.int ((e.2.1.length:Int)+1)),[],li.tr.hc,aM (aM (aM (aM (aM (aM (br rx cy)))))),by simp[XJ,Hl,lz],fun v H4 s4 _ rv=>?_⟩;cases (show Rep K O H4 v (.int ((e.2.1.length:Int)+1)) from rv);refine⟨_,rfl,by lia,by lia,vj (n:=((e.2.1.length:Int)+1).toNat) (fun j σ Hj=>∃o7 o8 o9 Yx Yw YB,σ=[some (.ref as),some v1,some (.ref a2),some (.ref p),some (.ref ly),some (.int (i:Int)),some x,o7,o8,o9,Yx,Yw,YB]/\LI K P w CS O ns nm es (.ref as) v1 a2 xs p dx d1 d2 ly Hj i/\Rep K O Hj x (XJ e)) ⟨_,_,_,_,_,_,rfl,li.same s4,Rep.monoP (.same s4) rx⟩ ?_ ?_⟩
   .rintro j σ Hj hj ⟨o7,o8,o9,Yx,Yw,YB,rfl,li,rx⟩
    rw[Xb];exact main nm es v1 a2 xs p dx d1 d2 ly i j e x _ _ _ _ _ Hj _ hN FC hE FY (by lia) (by lia) li rx fun H' o8 o9 Yx Yw YB li rx=>⟨_,_,_,_,_,_,rfl,li,rx⟩
   .rintro σ Hj ⟨o7,o8,o9,Yx,Yw,YB,rfl,li,rx⟩
    exact⟨_,_,_,_,_,_,_,rfl,li⟩
  .rintro σ Hm ⟨o6,o7,o8,o9,Yx,Yw,YB,rfl,li⟩
   exact hD _ _ _ _ _ _ _ _ li
 have Gi:∃t,Zy (dY YT P w K mg base pd "law" (aW (top 103)) DH XS A outer s H E').nox (kB.drop 1) t/\∀(nm:List Str) (es:List G.TE) (v1:V) (a2:Addr) (xs:List V) (p dx d1 d2 ly:Addr) (i:Nat) (o6 o7 o8 o9 Yx Yw YB:Option V) (Hm:Hp) (D:Ends),(∀e∈es,Ya C e)->(es.map XJ).Nodup->es.length<=9->i<=es.length->LI K P w CS (fun b=>b=ly) ns nm es (.ref as) v1 a2 xs p dx d1 d2 ly Hm i->(∀H',LI K P w CS (fun b=>b=ly) ns nm es (.ref as) v1 a2 xs p dx d1 d2 ly H' (i+1)->D.nx [some (.ref as),some v1,some (.ref a2),some (.ref p),some (.ref ly),some (.int (i:Int)),o6,o7,o8,o9,Yx,Yw,YB] H')->t D [some (.ref as),some v1,some (.ref a2),some (.ref p),some (.ref ly),some (.int (i:Int)),o6,o7,o8,o9,Yx,Yw,YB] Hm:=by
  refine⟨_,(dO (kc (DT.pe (aF dI (ae 5) (bh bv rfl E.b.z O5 (ah (ae 2) ao)))) (cH (lA (qT (pv 3) W.cl B3 B1 (hr.mono (by lia)) B2 .nil iD (bH (DE.pe (av au (ae 2) (ae 5))) bY) rfl rfl rfl))
    (dO (lA (gR Qp S5 S6 u0 (pv 4) (bH (DE.pe (av au (ae 2) (ae 5))) bY))))) jN)),fun nm es v1 a2 xs p dx d1 d2 ly i o6 o7 o8 o9 Yx Yw YB Hm D hE hA h9 Zm li hD=>?_⟩
  have big:(3000:Nat)<sizeLine:=by decide
  let O:Addr->Prop:=fun b=>b=ly
  have Io:O ly:=rfl;refine⟨O,[],[none,none,some (.d (.list (es.map XJ))),none,none,some (.d (.int (i:Int)))],[],decide (i<es.length),[],li.tr.hc,aM (aM (br li.lst2 (aM (aM (br (.int _) cy))))),by simp,fun H4 s4 _=>?_⟩;have li:=li.same s4
  by_cases Yq:i<es.length
  .rw[if_pos (decide_eq_true Yq)]
   obtain⟨e,he⟩:∃e,es[i]? = some e:=⟨_,OX Yq⟩;have FV:XR (es.map XJ) (i:Int)=some (XJ e):=eV (by rw[O7,he];rfl);have te:=hE e (OA he)
   have GL:es.take (i+1)=es.take i++[e]:=by rw[S2,he];rfl
   refine⟨_,rfl,p,dx,_,rfl,li.sa.hp,rfl,O,[],[none,none,some (.d (.list (es.map XJ))),none,none,some (.d (.int (i:Int)))],[],.d (XJ e),[],li.tr.hc,aM (aM (br li.lst2 (aM (aM (br (.int _) cy))))),by simp[FV],fun vb H5 s5 _ Iy=>?_⟩;have E3:Rep K O H5 vb (XJ e):=Iy;obtain⟨b5,_,rfl,_,_⟩:=(Vw.rep E3).tup;have li:=li.same s5
   have nme:XJ e∉(es.take i).map XJ:=fun z=>by
    have h:(es.take i++[e]).map XJ=(es.map XJ).take (i+1):=by rw[←GL,List.map_take]
    have hn:((es.take i++[e]).map XJ).Nodup:=by rw[h];exact hA.sublist (Vh _ _)
    rw[Rx,Qq] at hn;exact hn.2.2 _ z _ (by simp) rfl
   refine⟨O,p,dx,d1,d2,b5,es.take i,e,rfl,li.sa,li.tr,E3,te,fun y hy=>coh (hE y (Rh hy)) te,nme,by rw[QA];lia,fun H6 tr6 l6 fr6 sa6=>?_⟩;obtain⟨us,E5,HW⟩:=li.lf;obtain⟨Hf,k1,_⟩:=li.sa.h1;obtain⟨Em,k2,_⟩:=li.sa.h2
   have n1:ly≠d1:=fun z=>by rw[z,k1] at E5;cases E5
   have n2:ly≠d2:=fun z=>by rw[z,k2] at E5;cases E5
   have HA:=fr6 _ _ n1 n2 E5;have r26:Rep K O H6 (.ref a2) (.list (es.map XJ)):=Rep.monoP l6 li.lst2;refine⟨_,rfl,.inl ⟨rfl,us,Ye.of HA⟩,O,[],[none,none,some (.d (.list (es.map XJ))),none,none,some (.d (.int (i:Int)))],[],.d (XJ e),[],tr6.hc,aM (aM (br r26 (aM (aM (br (.int _) cy))))),by simp[FV],fun vc H7 s7 _ rvc=>?_⟩;have Gp:=s7 _ _ (by simp) HA
   have lus:us.length=(es.take i).length:=by rw[HW.length,OW]
   have lus':us.length<=es.length:=by rw[lus,QA];lia
   refine⟨ly,us,vc,rfl,rfl,Gp,by lia,?_⟩;have l8:Ym O H7 O (upd H7 ly (.lst (us++[vc]))):=.put (.inl Io);have BO:Ym O H6 O (upd H7 ly (.lst (us++[vc]))):=.trans (.same s7) l8;have BW:=l6.trans BO;refine hD _ ⟨fun c hc=>?_,?_,⟨us++[vc],bj,?_⟩,Rep.monoP BW li.r0,Rep.monoP BW li.r1,LstAt.monoP BW li.l2,Xs.monoP BW li.r2⟩
   .have z':c=ly:=hc
    rw[z',bj];exact .inl ⟨_,rfl⟩
   .rw[GL]
    refine sa6.mono (fun b o _ h2 h=>?_) BO;rw[aK (fun z=>by rw[z,HA] at h;cases h;exact h2 _ rfl)];exact s7 _ _ (by simp) h
   .rw[GL,Rx]
    exact Xs.append (Xs.monoP BW HW) (.cons (Rep.monoP l8 rvc) .nil)
  .rw[if_neg (by rw[decide_eq_false Yq];decide)]
   have hh:es.take (i+1)=es.take i:=by rw[OZ (by lia),OZ (by lia)]
   refine hD _ ⟨li.tr,?_,?_,li.r0,li.r1,li.l2,li.r2⟩
   .rw[hh];exact li.sa
   .rw[hh];exact li.lf
 obtain⟨tel,Bj,mel⟩:=GH;obtain⟨tpu,hpu,mpu⟩:=Gi
 refine⟨_,(cH (da (i:=1) S.nd rfl (Py rfl) (DE.pe (dE (zqz E) hr (ae 0) aj aj)))
    (cH (da (i:=2) S.nd rfl (Py rfl) (DE.pe (cK (zrh E) hr (ae 0) (ae 1))))
    (cH (da (i:=3) S.nd rfl (Py rfl) (zco A3 A1 (hr.mono (by lia)) rfl W.q A2 .nil iD))
    (cH (da (i:=4) S.nd rfl (Py rfl) (rV bY))
    (cH (lL Q9 rfl (qd rfl E.b.z (bH (DE.pe (aJ aX (bh bv rfl E.b.z O5 (ah (ae 2) ao)) aj)) bY)) (iw (i:=5) S.nd rfl (Py rfl)) (cH Bj
    hpu))
    (dO (jZ (qU (yF hr) (wd (pv 3) W.cl D3 D1 (hr.mono (by lia)) D2 .nil iD rfl) (pv 2) (lN _))))))))),?_⟩
 have big:(3000:Nat)<sizeLine:=by decide
 have t0:Tr (fun _=>False) H:=fun b z=>z.elim
 have ra:Rep K (fun _=>False) H (.ref as) (bX ns):=.lst (by
  rcases hS with h|h
  .exact .inl ⟨fun z=>z,h⟩
  .exact .inr (.inr h)) (uW ns)
 obtain⟨nm,en,hN,FC⟩:=zon (ns:=ns) (T:=[]);refine⟨fun _=>False,[],[some (.d (bX ns))],[],.d (.list (X4 nm)),[],t0.hc,br ra cy,by simp[en],fun v1 H1 s1 _ rv1=>?_⟩;have Jf:Rep K (fun _=>False) H1 v1 (.list (X4 nm)):=rv1;obtain⟨ds,ee,hA,h9⟩:=zob (C:=C) (ns:=ns) (T:=[]) hN;obtain⟨es,rfl,hE⟩:=zd hA.1;rw[OW] at h9;refine⟨fun _=>False,[],[some (.d (bX ns)),some (.d (.list (X4 nm)))],[],.d (.list (es.map XJ)),[],(t0.same s1).hc,br (Rep.monoP (.same s1) ra) (br Jf cy),by simp[ee],fun v2 H2 s2 _ rv2=>?_⟩;have Gg:Rep K (fun _=>False) H2 v2 (.list (es.map XJ)):=rv2
 cases Gg with
 |@lst a2 xs _ l2 r2=>
 refine fun p dx hp Cd n0=>⟨p,dx,rfl,bj,fun d1 d2 Ha Ec hd2 nd fr e1 e2 e3=>⟨rfl,Pm _,fun ly BI=>?_⟩⟩;have sa:Xx [] H2 Ha:=zrt (P:=P) (w:=w) hp Cd n0 Ec hd2 fr
 let O:Addr->Prop:=fun b=>b=ly
 have Io:O ly:=rfl;have Ft:H2 ly=none:=zru sa BI;have sb:Xx [] H2 (upd Ha ly (.lst [])):=sa.trans (.new BI _)
 have IB:Ym (fun _=>False) H2 O (upd Ha ly (.lst [])):=fun c o _ _ e=>⟨fun z=>(by
  have z':c=ly:=z;rw[z',Ft] at e
  cases e),sb c o (by simp) e⟩
 have li:LI K P w CS O ns nm es (.ref as) v1 a2 xs p dx d1 d2 ly (upd Ha ly (.lst [])) 0:=by
  refine⟨fun c hc=>?_,⟨?_,⟨[],?_,rfl,fun q hq=>(by cases hq)⟩,⟨[],?_,fun q hq=>(by cases hq),fun t q _=>.inr ⟨rfl,rfl⟩,Pm _⟩,nd⟩,⟨[],bj,.nil⟩,Rep.monoP IB (Rep.monoP (.same s2) (Rep.monoP (.same s1) ra)),Rep.monoP IB (Rep.monoP (.same s2) Jf),LstAt.monoP IB l2,Xs.monoP IB r2⟩
  .have z':c=ly:=hc
   rw[z',bj];exact .inl ⟨_,rfl⟩
  .rw[aK (bF e1 BI)];exact e1
  .rw[aK (bF e2 BI)];exact e2
  .rw[aK (bF e3 BI)];exact e3
 refine⟨O,[],[none,none,some (.d (.list (es.map XJ)))],[],.d (.int ((es.length:Int)+1)),[],li.tr.hc,aM (aM (br li.lst2 cy)),by simp,fun v H3 s3 _ rv=>?_⟩;cases (show Rep K O H3 v (.int ((es.length:Int)+1)) from rv);have li:=li.same s3;refine⟨_,rfl,by lia,by lia,vj (n:=((es.length:Int)+1).toNat) (fun i σ Hi=>∃o5 o6 o7 o8 o9 Yx Yw YB,σ=[some (.ref as),some v1,some (.ref a2),some (.ref p),some (.ref ly),o5,o6,o7,o8,o9,Yx,Yw,YB]/\LI K P w CS O ns nm es (.ref as) v1 a2 xs p dx d1 d2 ly Hi i) ⟨none,none,none,none,none,none,none,none,rfl,li⟩ ?_ ?_⟩
 .rintro i σ Hi hi ⟨o5,o6,o7,o8,o9,Yx,Yw,YB,rfl,li⟩
  have Zm:i<=es.length:=by lia
  rw[Xb];exact mel nm es v1 a2 xs p dx d1 d2 ly i _ _ _ _ _ _ _ Hi _ hN FC hE (by lia) li fun H' o6 o7 o8 o9 Yx Yw YB li=>mpu nm es v1 a2 xs p dx d1 d2 ly i o6 o7 o8 o9 Yx Yw YB H' _ hE hA.2 h9 Zm li fun H' li=>⟨_,_,_,_,_,_,_,_,rfl,li⟩
 .rintro σ Hi ⟨o5,o6,o7,o8,o9,Yx,Yw,YB,rfl,li⟩
  have lt:es.take ((es.length:Int)+1).toNat=es:=OZ (by lia);have sa:=li.sa;rw[lt] at sa;obtain⟨z1,z2⟩:=FX (Ir hE);refine⟨_,rfl,p,dx,_,rfl,sa.hp,rfl,O,p,dx,d1,d2,es,rfl,sa,fun a us ha ru=>⟨_,rfl,O,.list (es.map XJ),.list (es.map XJ),Vw.rep ?_,Vw.rep ?_,z1,z1,?_⟩⟩
  .exact .lst (.inl ⟨li.tr.fresh ha,.inl bj⟩) (Xs.monoP (.new ha _) ru)
  .exact Rep.monoP (.new ha _) li.lst2
  .rw[z2]
   exact q _
end
end TK
namespace G
open L2 D
theorem all_mk{l:Ud}{w:OO}{K:Frag}{h:Heap}{mg:Str->Option Oc}{fa:Addr}(X:K.In h)(G:h.Ns OT mg)(hfa:mg "law"=some (.ref fa))(d:Ga K top zS)(z:ZL K zZ)(i:IL K zI)(s:SL K zT){C:Addr}(qC:Ph K OT "Words"=some (some (.ref C)))(kC:pj K C=true)(gC:Im K C=true)(Bl:B5 K C "begun"=true)(BE:B5 K C "parted"=true)(EU:B5 K C "place"=true)(d_Words____init__:YX K C "__init__" "Words.__init__" (cE 48 0))(d_Words__ahead:YX K C "ahead" "Words.ahead" (cE 48 1))(d_Words__take:YX K C "take" "Words.take" (cE 48 2))(d_Words__begin:YX K C "begin" "Words.begin" (cE 48 3))(d_Words__finish:YX K C "finish" "Words.finish" (cE 48 4)){X3:Addr}{Yi:Obj}(YQ:Ph K OT "RECIPES_WITHIN"=some (some (.ref X3)))(YR:K.lookup X3=some Yi)(YO:oV X3 Yi [("say",0),("fail",0),("want",1),("peek",1),("when",2)]=true){Y5:Addr}{ZJ:Obj}(GD:Ph K OT "WITHIN"=some (some (.ref Y5)))(Fy:K.lookup Y5=some ZJ)(BM:oV Y5 ZJ [("many",1),("part",2),("sum",2),("join",2),("same",2),("less",2)]=true){Yo:Addr}{YU:Obj}(ZQ:Ph K OT "NOT_GIVEN"=some (some (.ref Yo)))(ZR:K.lookup Yo=some YU)(ZP:sD Yo YU [("want","wants"),("peek","peeks")]=true){ZO:Addr}{ZK:Obj}(BF:Ph K OT "FILLED"=some (some (.ref ZO)))(Fu:K.lookup ZO=some ZK)(Bx:sW ZK ["put","got","row"]=true){Zj:Addr}{Zi:Obj}(Js:Ph K OT "GETTING"=some (some (.ref Zj)))(Du:K.lookup Zj=some Zi)(Hq:sW Zi ["want","peek"]=true){CS:Addr}(qS:Ph K OT "Shelf"=some (some (.ref CS)))(kS:pj K CS=true)(mS:Im K CS=true)(n1:B5 K CS "shelved"=true)(n2:B5 K CS "answers"=true)
  (d0:YX K CS "__init__" "Shelf.__init__" (cE 80 0)) (d1:YX K CS "put" "Shelf.put" (cE 80 1)) (d2:YX K CS "found" "Shelf.found" (cE 80 2)) (d3:YX K CS "entries" "Shelf.entries" (cE 80 3)) :
  ∃fd:QD,(∀(s:Oi) (v:Oc),Vg s fd ⟨[v],[]⟩ [("_law_script",v)])/\∀base:Heap,K.In base->base.Ns OT mg->X5 l.prog w K mg base YT 90 fa fd ["_law_script"] (sF K):=by
 obtain⟨f0,oc,od,an,sl,kV,dc,pm,cd,ct,a,lk,c,kp⟩:=(d.at (x:="law") (i:=103) (rfl)).ex;cases hfa.symm.trans (P1 X G a);have W:TK.Wc K mg CS:=⟨P1 X G qS,x9 kS,lO n1,lO n2,mS,d0,d1,d2,d3⟩;exact⟨Pa "law" "law" (cZ (top 103)) (bV (top 103)) (aW (top 103)) .none kV dc pm an cd ct,fun s v=>.of_eq rfl,fun base _ _=>TK.Hy ⟨⟨_,X,G⟩,⟨zhy X G z i s,x9 kC,P1 X G qC,lO Bl,lO BE,lO EU,d_Words____init__,d_Words__ahead,d_Words__take,d_Words__begin,d_Words__finish,gC,⟨_,P1 X G YQ,uN YR YO⟩,⟨_,P1 X G GD,uN Fy BM⟩,⟨_,P1 X G ZQ,zgm ZR ZP⟩,⟨_,P1 X G BF,uM Fu Bx⟩,⟨_,P1 X G Js,uM Du Hq⟩⟩,d⟩ W (oj (st:=top 103) lk c kp)⟩
theorem walk{l:Ud}{XP:(Str->Option Oc)->Heap->Prop}{YP:OO->Heap->Prop}{d:DefRec}{K:W4->Frag}(hn:l.most=some 63)(G9:d.params.defaults=[])
  (hY:∀(w:OO) (h:Heap),YP w h->(K w.params).In h)
  (F:∀(w:OO) (mg:Str->Option Oc) (fa:Addr) (h:Heap),(K w.params).In h->h.Ns OT mg->mg d.name=some (.ref fa) ->
   ∃fd:QD,(∀(s:Oi) (u:Oc),Vg s fd ⟨[u],[]⟩ [("_law_script",u)])/\∀base:Heap,(K w.params).In base->base.Ns OT mg->X5 l.prog w (K w.params) mg base YT 90 fa fd ["_law_script"] (sF (K w.params))) :
  UY q loose XP YP l.row.toRowW d [] (fun f vs=>TX f vs):=L2.zeg      hn (by decide) G9 ⟨rfl,by decide,by decide,rfl⟩ hY F (fun _ _ a ns hl _ hS=>⟨a,ns,rfl,hS,hl,fun _=>rfl⟩) fun _ _ _ _ _ z=>z
open PySem PySem.Spec PySem.Calls PySem.W PyProof.Rows PySem.W.X PySem.W.ZRun
theorem walkZ{q:Oz}{loose:List Str}{XP:(Str->Option Oc)->Heap->Prop}{K:W4->Frag}{r:RowW}{d:DefRec}{Ba:List (Str×Expr)}
  {w:OO}{s₀ s₁:Oi}{mg mb:Str->Option Oc}{a:Addr}{o:Obj}{pm cd doc dV kV:Oc}{args:List WData}{vals:List Oc}{as:List Addr}
  (KX:(K w.params).In s₁.heap) (GR:Ground q loose r.records XP w s₀ mg mb s₁.heap) (ho:s₁.heap.get? a=some o)
  (hd:o.data=.func { docDef d.name d.params d.body d.scope pm cd doc with defaults:=dV,kwdefaults:=kV }) (hcd:s₁.heap.CodeRec cd d.name) (hD:Dflts mg s₁.heap d.params Ba dV kV) (hmg:mg d.name=some (.ref a)) (hg:s₁.gens = #[])
  (hpre:r.claim.pre args=true) (hlay:WData.layableAll args=true) (hrd:ReadsAllW r.records (classAt s₀.heap) s₁.heap vals args as) (hwl:WellAll w.params s₁.heap vals args) (hlo:∀a∈as,(a == Pu)=false)
  (W:UY q loose XP (fun w h=>(K w.params).In h) r d Ba fun f vs=>TX f vs) :
  OG (OJ r.prog w) TV (TX (.ref a) vals) (fun v s'=>GoodWG r.claim (classAt s₀.heap) (WT s₀.heap) args s₁ (.ok (.ret v)) s')
    (fun e s'=>GoodWG r.claim (classAt s₀.heap) (WT s₀.heap) args s₁ (.error e) s') s₁:=W w s₀ s₁ mg mb GR KX a o pm cd doc dV kV ho hd hcd hD hmg hg args vals as hpre hlay hrd hwl hlo
end G
end Internal
namespace PySem.W.Fast
def tw15027223466501539592:=Nat
def tw16349602206714699285:=Nat
def tw10057737603598446879:=Nat
def tw17004293416500963262:=Nat
def tw1449259943895147843:=Nat
def tw9087846701291116922:=Nat
def tw13860357249314497947:=Nat
def tw12476488122226377481:=Nat
def tw6797441039775340087:=Nat
def tw7477117283438945005:=Nat
def tw3460467452080938151:=Nat
def tw5982054039850655949:=Nat
def tw16812365325530237504:=Nat
def tw175742112498012732:=Nat
def tw6800151636233563194:=Nat
def tw8201406211181676055:=Nat
def tw1341021940981306047:=Nat
def tw10620565127074555716:=Nat
def tw13386167498358936128:=Nat
def tw1523135500039518322:=Nat
def tw16272900191480905629:=Nat
def tw1943475148084566486:=Nat
def tw478223830291641439:=Nat
def tw16382703084515446209:=Nat
def tw15345610007891661917:=Nat
def tw8353683019776199249:=Nat
def tw4204192583493617077:=Nat
def tw11573692070965574333:=Nat
def tw5390259472854821514:=Nat
def tw3163362483336309902:=Nat
def tw7119598040556729234:=Nat
def tw1171815781160114970:=Nat
def tw10422097505924153844:=Nat
def tw1303361753645230859:=Nat
def tw4276714241326116103:=Nat
def tw2059563687127239469:=Nat
def tw16293228955084952358:=Nat
def tw6387398060079045904:=Nat
def tw9554796911005811184:=Nat
def tw11260252573568603165:=Nat
def tw5910711809622050136:=Nat
def tw5746393851169191081:=Nat
def tw18146009870305561445:=Nat
def tw7768130388420415229:=Nat
def tw15307981738674755026:=Nat
def tw2997540441997488568:=Nat
def tw16669270012153730555:=Nat
def tw1514980349020376750:=Nat
def tw17501792091311158558:=Nat
def tw17750448276941634481:=Nat
def tw16239828896922378819:=Nat
def tw8442029691145566295:=Nat
def tw14960198854273974082:=Nat
def tw8056619241258201481:=Nat
def tw15109025521617897678:=Nat
def tw8809910046680605938:=Nat
def tw11322698352181418518:=Nat
def tw4795951160203291049:=Nat
def tw13352073720111553077:=Nat
def tw15279739286368594829:=Nat
def tw16817505494451911270:=Nat
def tw1145309522587506296:=Nat
def tw2798649601121719273:=Nat
def tw15936238225794918402:=Nat
def tw10286073049714453467:=Nat
def tw9623210418700054197:=Nat
def tw11953982628387742714:=Nat
def tw198039516507434989:=Nat
def tw8915266408964098250:=Nat
def tw12607383315304405348:=Nat
def tw13079796895911046617:=Nat
def tw7471458533127373249:=Nat
def tw17396750572862952643:=Nat
def tw5084401097385001338:=Nat
def tw10599817156429329440:=Nat
def tw10969836279884970342:=Nat
def tw12197832954234231049:=Nat
def tw3519751765571828971:=Nat
def tw11686844144695902936:=Nat
def tw9178209390525384377:=Nat
def tw8133327183884225489:=Nat
def tw3261774321214240300:=Nat
def tw5992825788700654188:=Nat
def tw18246699088674092739:=Nat
def tw16939503239117064534:=Nat
def tw10673030583264072389:=Nat
def tw15431256832737672798:=Nat
def tw4943727596180025235:=Nat
def tw5045349019674481066:=Nat
def tw10909884756444193140:=Nat
def tw13795264980101076553:=Nat
def tw4044084427487934185:=Nat
def tw6099171200192128085:=Nat
def tw2170876988408323710:=Nat
def tw2430718442398431768:=Nat
def tw8632954433602589325:=Nat
def tw11957817273000121405:=Nat
def tw7931555211652884377:=Nat
def tw9871363303886756188:=Nat
def tw389894274706734854:=Nat
def tw11611649404835214113:=Nat
def tw1704165061043054728:=Nat
def tw15936478613842776724:=Nat
def tw17551405232272491484:=Nat
def tw4692722328311771637:=Nat
def tw6295518494785124756:=Nat
def tw6361770196178967197:=Nat
def tw9205321802038719059:=Nat
def tw11925154471374984285:=Nat
def tw840488444339044600:=Nat
def tw3427494848825056494:=Nat
def tw233561934404580054:=Nat
def tw13323043828844407436:=Nat
def tw7644675521814859897:=Nat
def tw14729374738880750584:=Nat
def tw12508187626104138282:=Nat
def tw12546415233371502886:=Nat
def tw12938018981043931848:=Nat
def tw14255451384306935481:=Nat
def tw2984003995759121455:=Nat
def tw11455605290515045570:=Nat
def tw13291931525980951852:=Nat
def tw15361813521851402009:=Nat
def tw8124170984298394940:=Nat
def tw5809872157287989048:=Nat
def tw7695961869887032571:=Nat
def tw12876680510859639514:=Nat
def tw10041433133768736610:=Nat
def tw7093826971125041439:=Nat
def tw17997869383305103416:=Nat
def tw8924792516887780079:=Nat
def tw7242993504717690020:=Nat
def tw4476042358308156253:=Nat
def tw6852440061206356518:=Nat
def tw15156340703191290856:=Nat
def tw16381931623403782722:=Nat
def tw10719873310974963337:=Nat
def tw704253946468826251:=Nat
def tw1526877660857120866:=Nat
def tw10644055600950354185:=Nat
def tw12090082598758684368:=Nat
def tw13598409529234119805:=Nat
def tw15985715407309404356:=Nat
def tw13381553216105506220:=Nat
def tw4243446581758587458:=Nat
def tw13778579769161453966:=Nat
def tw9824516568642837352:=Nat
def tw11016034778317623386:=Nat
def tw13752276996591664384:=Nat
def tw14844528545937047491:=Nat
def tw4509158484440165419:=Nat
def tw12737876118567401316:=Nat
def tw14193392376503619915:=Nat
def tw2772452768989599591:=Nat
def tw17898454928861399084:=Nat
def tw11720757088847390988:=Nat
def tw9733227611792688626:=Nat
def tw17933586362380921514:=Nat
def tw4607076121471414866:=Nat
def tw3644326354009503265:=Nat
def tw11096003733715763578:=Nat
def tw12001069421754687588:=Nat
def tw13693468585612220510:=Nat
def tw17563222150468070209:=Nat
def tw13121649442380789881:=Nat
def tw8638299186960360680:=Nat
def tw924993302173015332:=Nat
def tw12549759012984025712:=Nat
def tw9557254961406757078:=Nat
def tw1743115213542727065:=Nat
def tw15020002371329883275:=Nat
def tw351324013025718331:=Nat
def tw14361467245390049680:=Nat
def tw2869126568235972856:=Nat
def tw6149586516092471727:=Nat
def tw8321182613854043351:=Nat
def tw492318201912149052:=Nat
def tw1157980452785975004:=Nat
def tw7796053323430249072:=Nat
def tw5101226421126953103:=Nat
def tw16976662541747787605:=Nat
def tw1487783146047803980:=Nat
def tw11686182374989265806:=Nat
def tw2353734877617948351:=Nat
def tw18382105073976034930:=Nat
def tw885224265193068455:=Nat
def tw5972733604397568842:=Nat
def tw3473905896017793076:=Nat
def tw5090572835088532732:=Nat
def tw2431130978459386218:=Nat
def tw6085475526285359921:=Nat
def tw18135549364451721325:=Nat
def tw5627878479689395854:=Nat
def tw11813987076374824454:=Nat
def tw14460212259960837402:=Nat
def tw4812930066456778210:=Nat
def tw10171341136508793394:=Nat
def tw17379174881079606902:=Nat
def tw8820888067418134998:=Nat
def tw10075396868128101293:=Nat
def tw6926108359896589409:=Nat
def tw18141045738695031561:=Nat
def tw15710404492759108950:=Nat
def tw5571826851813910821:=Nat
def tw1439480116266107569:=Nat
def tw4291375408835386380:=Nat
def tw7189160017346968529:=Nat
def tw2045047059635838236:=Nat
def tw16000731993082227658:=Nat
def tw6321905272756109625:=Nat
def tw5530444993926003:=Nat
def tw8998153292826924337:=Nat
def tw5172934804358695808:=Nat
def tw17207333842495996220:=Nat
def tw7885901813363054823:=Nat
def tw9868888326342134157:=Nat
def tw5815445683436071590:=Nat
def tw1484277979871398922:=Nat
def tw8665447946712283971:=Nat
def tw17172241025339047573:=Nat
def tw180424660588728679:=Nat
def tw1003260716958357458:=Nat
def tw4421937255189803579:=Nat
def tw16628790664285683592:=Nat
def tw1297604108227028759:=Nat
def tw2115232925628563187:=Nat
def tw1769246072994523274:=Nat
def tw2233753126647864629:=Nat
def tw15720019370133830036:=Nat
def tw17405002817119120600:=Nat
def tw15626082376995837551:=Nat
def tw9034210920179715004:=Nat
def tw2122817144509256116:=Nat
def tw1701060814108647004:=Nat
def tw5558449583450689957:=Nat
def tw7579725829538601050:=Nat
def tw15396603794805985698:=Nat
def tw15576969248662513818:=Nat
def tw12784457847718850509:=Nat
def tw1117531304161217236:=Nat
def tw7870874534545622238:=Nat
def tw13393336976237707486:=Nat
def tw14645414128079287464:=Nat
def tw8046428226471034574:=Nat
def tw15036478195667754923:=Nat
def tw15335262632756371720:=Nat
def tw16935254611241684663:=Nat
def tw8863846368142334318:=Nat
def tw14218235876584251835:=Nat
def tw12989702926444294993:=Nat
def tw15335403124239459179:=Nat
def tw8437638956299711786:=Nat
def tw11213583103095988673:=Nat
def tw17113125835279236158:=Nat
def tw15039152845493479936:=Nat
def tw1368028803737591884:=Nat
def tw13602270811150674330:=Nat
def tw14900465827158702044:=Nat
def tw15517913354797334000:=Nat
def tw10120578329159347149:=Nat
def tw2441296780247486618:=Nat
def tw6046414287680482371:=Nat
def tw6636999468581272616:=Nat
def tw89896851196340964:=Nat
def tw4937846153353665736:=Nat
def tw4279620739916201682:=Nat
def tw15422131872529964168:=Nat
def tw12860052043284010537:=Nat
def tw684871154828764227:=Nat
def tw17754088769120713494:=Nat
def tw15653313257833689782:=Nat
def tw18411430654195634890:=Nat
def tw8207355953322151474:=Nat
def tw7033937577925183819:=Nat
def tw7437931213480598617:=Nat
def tw8400750149812185631:=Nat
def tw15585631399306261390:=Nat
def tw14347879340099482772:=Nat
def tw2425746919687851342:=Nat
def tw11019547746007202380:=Nat
def tw5964510898579789769:=Nat
def tw9214838311461406385:=Nat
def tw14708509444164656893:=Nat
def tw9757835869578892584:=Nat
def tw17387172547945044132:=Nat
def tw8316887452271777376:=Nat
def tw18360523463306307645:=Nat
def tw16137307949428235651:=Nat
def tw15423305734949791294:=Nat
def tw8287747415523852569:=Nat
def tw12313401887140708338:=Nat
def tw16782948303683748157:=Nat
def tw1288102448145453112:=Nat
def tw9290344470344747140:=Nat
def tw3449000476214466785:=Nat
def tw12408920344799850693:=Nat
def tw6393085291749796852:=Nat
def tw18018936720083581365:=Nat
def tw12298350404542417966:=Nat
def tw1378220221524302125:=Nat
def tw13169714578391670185:=Nat
def tw10337572000990688428:=Nat
def tw9280319073667986935:=Nat
def tw3948252282719774753:=Nat
def tw16196494548528607060:=Nat
def tw1987487540232757343:=Nat
def tw9668158089096301439:=Nat
def tw6988612760837182324:=Nat
def tw4786942006917113052:=Nat
def tw9225907933519828519:=Nat
def tw7628509313183020132:=Nat
def tw11201932239340118305:=Nat
def tw12243802310071073046:=Nat
def tw13444128478994953475:=Nat
def tw6142802287944629379:=Nat
def tw16264725605905306103:=Nat
def tw12490016083316458898:=Nat
def tw12923907118193798566:=Nat
def tw11130820846294678147:=Nat
def tw9282313945695430978:=Nat
def tw9054480190259804238:=Nat
def tw10943335378536589214:=Nat
def tw6102994398789615424:=Nat
def tw12951817306907942483:=Nat
def tw15474840604056673415:=Nat
def tw12566357561462174520:=Nat
def tw7013492528141077035:=Nat
def tw12503165974079781180:=Nat
def tw17042413010391544560:=Nat
def tw17056599599378210097:=Nat
def tw8787214483014230722:=Nat
end PySem.W.Fast
noncomputable def PySem.W.Fast.tw7191722974778886347 : PySem.Program := PySem.Challenge.pw_redo_k60_found_on_a_shelf
theorem PySem.W.Fast.te7191722974778886347 : PySem.Challenge.pw_redo_k60_found_on_a_shelf = PySem.W.Fast.tw7191722974778886347 := rfl

open Internal
open PySem PySem.W PyProof.Rows PySem.W.X PySem.W.ZRun
set_option maxRecDepth 100000 in
set_option maxHeartbeats 0 in
theorem PySem.Challenge.cw_redo_k60_found_on_a_shelf_holds : PySem.Challenge.rw_redo_k60_found_on_a_shelf.Holds := by
 w_on; o_law; z_head; (case hw=>w_witness2)
 k_fill
 intro w s₀ s₁ mg mb GR y fa o pm cd doc dV kV ho hd hcd hD hmg hg args vals as L hpre hlay hrd hwl hlo
 z_open y L KX ZH ZN ZT
 clear ZH ZN ZT
 refine G.walkZ KX GR ho hd hcd hD hmg hg hpre hlay hrd hwl hlo ?W
 clear KX GR ho hd hcd hD hmg hg hpre hlay hrd hwl hlo L y
 refine G.walk (l:=PySem.Challenge.rw_redo_k60_found_on_a_shelf) rfl rfl (fun w h Y=>Y) ?F
 case F=>
  intro w mg fa h KX GG hmg
  refine' G.all_mk KX GG hmg ?_ ?_ ?_ ?_ ?_ ?_ ?_ ?_ ?_ ?_ ?_ ?_ ?_ ?_ ?_ ?_ ?_ ?_ ?_ ?_ ?_ ?_ ?_ ?_ ?_ ?_ ?_ ?_ ?_ ?_ ?_ ?_ ?_ ?_ ?_ ?_ ?_ ?_ ?_
  any_goals repeat' first | exact True.intro | refine' D.El ?_ ?_ | refine' D.EK ?_ ?_ | refine' D.F8 ?_ ?_ | refine' D.EY ?_ ?_
  any_goals first | (refine' D.JS ?a ?l ?c ?k; (case a=>k_is); (case l=>k_is); (case c=>k_is); (case k=>k_is)) | (refine' D.Ih ?a ?l ?c ?k ?n; (case a=>k_is); (case l=>k_is); (case c=>k_is); (case k=>k_is); (case n=>k_is)) | k_is
  all_goals first | rfl | decide +kernel
