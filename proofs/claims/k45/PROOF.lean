import PyProof.Rows.All
import Wide.All
import OpenK.AllK
import Wide.FinOn
import Lean
import PyProof.EqAt
import PyProof.EqKinds
import PyProof.TupleCall
import PySem.Challenge.RW_redo_k45_rows_of_causes
noncomputable section
open PySem.W (Frag)
set_option Elab.async false
set_option linter.all false
set_option maxRecDepth 100000
set_option compiler.extract_closed false
set_option bootstrap.genMatcherCode false
open PySem renaming PyData->Pa,Value->Pb,wpAny_bind->Pd,Shared->Pf,starEach->Pk,sizeLine->Pp,wpAny_pure->Pw,Program->Px,wpAny->PP,compareOp->PU,model->PX,World->PY,Around->PZ,mainGlobals->P3,backTo->Qg,foldedSetIterable->Qj,wpAny_newObj_type->Qn,wpAny_loadPart_at->Qp,wpAny_truthy_bool->Qy,boot_len->QA,sysModules->QF,keywordEach->QH,wpAny_holding->QJ,swapsWith->QL,FuncData->QQ,wpAny_mono->QT,binaryOp->QU,attributeBase->Q7,Keyword->Rb,Scope->Rj,bootBuiltins->Rk,wpAny_field->Rm,wpAny_Call_Name_kw->Rp,backToKw->Rq,wpAny_passesOwn->RB,mem_of_lookup->RM,NameKind->RN,wpAny_callSpecial?_slot->RP,tupleKind_room_in1->RW,wpAny_pyIter_list->R4,assignEach->R5,wpAny_tryCatch->R8,wpAny_call_entry->Sb,wpAny_isSubtype_exc->Se,behindInMarks->Sg,codeAny_builtin->Sn,sliceBounds->Sz,wpAny_seqItems->SK,Builtin->SN,wpAny_setField->SQ,wpAny_execs_cons->SW,codeAny_call_builtin->S7,unbindBehindTheSuite->S8,wpAny_execs_nil->Ta,letOwnedTupleGo->Tb,wpAny_updateSeq->Tf,codeAny->To,wpAny_typeOf->Tq,Paired->Tz,assign->TH,rawInt->TJ,cLine->TL,bindArgs->TN,call_meets->TX,wpAny_pyIter_tuple->TY,wpAny_assign_Name->Ud,holding->Ue,getItem->Uk,valueAt->Ul,wpAny_standAt->Uo,swapsWithSole->Up,swappedStores->Uq,wpAny_comprehension_free->Us,plainId_quiet->Ut,Builtin->Uv,tupleKind->Uy,GenState->Uz,PassesOwn->UA,noFill_tuple_add->UB,seqItems?->UJ,wpAny_pyNext_list_item->US,codeAny_mono->UT,concat_meets->UV,IsPart->UW,callerA->U0,call->U1,codeAny_compStart_list->U2,wpAny_rule->U3,wpAny_storeName_local->Vg,wpAny_pyNext_list_end->Vh,compEnvC->Vp,wpAny_newFunctionEnv->Vq,wpAny_letGo->Vr,intText?->Vt,BindsTo->VB,relabel->VC,seq_tuple_add->VM,wpAny_call->VU,typeLookup->VY,getattributeRaised->V0,wpAny_sequenceKey->V5,seqIndex_neg->V6,slot_list_getitem->V7,call_meetsIn->V9,ReadsAll->Wg,wpAny_pyIter_enum->Wk,wpAny_pyHash_int->Wo,wpAny_pyHash_str->Wp,wpAny_eqBool_int->Wq,wpAny_eqBool_str->Wr,lastMarks->Ws,seqSlot_of->Wy,reduceHash->WA,noteFrame->WB,CmpOp->WH,sizeLine_eq->WI,seqIndex_of->WK,subscripted->WL,atKey->WM,wpAny_of_eq->WN,slicePicked->WO,excClassObj->WQ,wpAny_loadPart'->WW,am_miss_of_fast->WX,wpAny_ite_split->W0,leaving->W1,OsState->W3,builtinsNs->W4,wpAny_Name->W5,Result->W7,bindL->W8,bindC->Xa,typeIs_str->Xb,typeIs_int->Xe,getAttr?->Xk,sliceRange->Xn,KeyKind->XC,Drawn->X5,Model->X6,cellsFrom->X9,DictEntry->Ya,Reads->Yb,setFlight->Yd,Within->Yf,isTrue->Yg,setItem->Yi,standAt->Yj,pyNext->Yk,merged->Ym,Params->Yn,notedBy->Yo
open PySem.Str renaming ofString->Pc,join->RR,cps_append->VA
open PySem.Heap renaming get?_push_of_some->Pe,lt_size->Pn,get?_push_size->PM,get?_update_other->PQ,get?_update_self->Qu,size_push->QY,SameBut->Sa,get?_none_of_le->S4,get?_push_ne->Wj,ExtBut->Yw
open List renaming mem_cons_of_mem->Pg,getElem?_eq_some_iff->Ph,mem_cons_self->Pi,getElem?_set_ne->Pj,mem_singleton->Pl,mem_map->Pq,size_toArray->Pr,mem_cons->Pt,getElem?_set_self->Pv,map_cons->Pz,all_eq_true->PB,replicate->PC,mem_append->PD,getElem?_append_left->PF,length_cons->PH,length_append->PN,mem_append_right->P5,mem_of_getElem?->P8,length_map->Qb,getElem?_map->Qd,flatten_cons->Qe,lookup_cons->Qi,drop_eq_getElem_cons->Ql,getElem?_eq_getElem->Qs,append_nil->Qv,nodup_append->Qz,all_cons->QD,mem_append_left->QG,drop_eq_nil_of_le->QN,map_congr_left->QO,find?_cons->QS,getElem?_append_right->QX,take_of_length_le->QZ,replicate_succ->Q2,nodup_cons->Q3,length_take->Q4,any_cons->Q6,range->Re,mem_filter->Rf,map_map->Rl,sum_cons->Rn,not_mem_nil->Ro,filterMap_cons->RL,length_drop->RO,nil_append->So,map_append->Sq,set_cons_succ->Sv,set_cons_zero->Sw,append_assoc->SH,getElem?_eq_none->SV,getElem_mem->SZ,countP_cons->S1,length_nil->Td,flatten_append->Tj,mem_range->TC,mem_filterMap->TK,foldl->TV,nodup_nil->T7,getElem?_take_of_lt->Ur,getD->UH,getElem?_set_self'->UK,mem_flatten->UP,map_nil->UY,drop_of_length_le->U6,all_nil->U7,of_mem_zip->Va,filterMap_map->VW,take_sublist->V4,take_add_one->Wc,ext_getElem?->We,all_map->Wh,any_eq_true->Wz,filter_cons->WE,length->WJ,length_set->WS,set_set->Yq
open Nat renaming le_refl->Pm,lt_of_lt_of_le->Py,ne_of_lt->PK,le_trans->PL,lt_irrefl->Qr,lt_of_le_of_lt->QC,zero_le->QE,lt_succ_of_lt->RE,ne_of_gt->RV,not_lt_zero->RX,pow_le_pow_right->R9,le_succ->S6,add_comm->Tr,lt_succ_self->UG,le_of_lt->UR,mul_le_mul->Vs,log2_lt->Vx,mul_le_mul_left->VL,lt_trans->V8,le_of_eq->Wa,le_of_succ_le->Wn,le_of_not_lt->Ww,succ_ne_self->Wx,succ_le_succ->WC,add_assoc->X3,lt_or_ge->Yp,zero_add->Yr
open Bool renaming and_eq_true->Po,false_ne_true->Pu,eq_iff_iff->Rh,false_eq_true->Rt,and_self->Ux,or_eq_true->Ve,or_false->VP,eq_false_iff->Wl,false_and->W6,true_and->X1
open PySem.Value renaming ref->PJ,none->Qq,int->Ra,type->Sr,str->Tv,bool->VS,isStrOf->XA,isInt->Yt,float->Yu
open PySem.SeqAt renaming shaped->PR,canLay_of_shaped->U5,eqv_refl->Vy,in_tupleAt->Wv,EqAt->Xc
open PySem.PyData renaming str->PV,eqv->Qc,canLayAll0->Rc,int->RH,weightAll->RT,canLay0->RU,depthAll->RY,eqvAll->RZ,list->Um,depth->U8,leavesShortAll->Vl,weight->VR,showableAll->V1,strOk->Wm,bool->WP,none->Yy
open PySem.W renaming findIn->P4,kitOne->P6,kia_one->Qk,keepIn->Qm,nsIn->Qo,fnOf->QB,mg_of->Q8,specialIn->RD,mroIn->RF,ownIn->RJ,codeIn->R7,clsIn->Sk,takesIn->Sl,InstAt->SD,kitAny->SO,subIn->S3,looks_findIn->S9,isClsIn->Th,isFn->Tn,callWith_K->TQ,methodObj->Uc,hasDictIn->Ug,kitx_list->Uh,kitx_dict->Ui,cellsFrom_some->UU,instObj->U9,OpenLaw->Vb,findObj->Vd,lookIn->Vn,nsOkIn->Vu,typeIn->Vv,WalkO->VQ,kitx_tuple->VT,plainGet->Wt,kitMeta->WV,KeqHits->WZ,kitCls->Xl,keq_at->Xm
open Option renaming map_eq_some_iff->P7,isSome_iff_exists->Qh,isSome_map->SJ,getD_none->UD,map_some->Vc,isSome_some->VZ,map->YA
open PySem.Builtin.Str renaming strSliceIndices->P9,occurrences->Sx,glued->Wf
open Option.some renaming inj->Qa
open Sum renaming inr->Qf,inl->UQ
open PyProof.Rows renaming slot_tuple_getitem->Qt,boot_tuple->QI,boot_isinstance->Ri,boot_str->Rw,envOfC->Rx,callWith_type1->R3,boot_int->SS,kindOf->SX,AllBare->S2,subscriptTail_builtinR->UX,IsTup->Vm,signs_ofString->Vz,entry_tuple_getitem->VD,tupleItemsOf_->VN,subscriptTail->VO,args_tuple_getitem->VX,callWith_builtin1->Wu,IntsAre->W2,boot_all->Xo,callWith_kw->XY,boot_dict->Yc,boot_list->Ye,kws_cons->Ys,kws_nil->Yx
open False renaming elim->Qw
open Or renaming inr->Qx,inl->QM
open PySem.NameKind renaming free->QK,cell->XX
open PySem.Txt renaming slice->QP,mul->Tt,startswith->Xi
open PySem.Builtin.Tuple renaming tupleExact->QR,tupleCompareSizes->RK,tupleItemsOf->TU,tupleTooMany->TZ,tupleIsExact->Xh
open Int renaming le_refl->QV,natCast_nonneg->T9,emod_lt_of_pos->Ua,toNat_natCast->Uj,emod_nonneg->Vf,le_trans->Wb,ediv_one->Yl
open Ne renaming symm->QW
open Array renaming length_toList->Q0,getElem?_eq_some_iff->Ru,all_toList->UO,size_append->Wi,toList->Yh
open PySem.Paired renaming length->Q5,snoc->Yv
open PySem.AutoSeq1 renaming wpAny_loadPart'->Q9,sub_tuple_tuple->Uu
open PySem.F renaming slot_tuple_iterator_next->Rv,slot_list_getattribute->RI,plain_max_loop->RQ,args_tuple_add_2->Si,slot_dict_itemiterator_iter->Sj,entry_tuple_add->Sy,plainAttrs_list->SA,slot_tuple_add->SF,slot_tuple_mul->SM,slot_dict_get->SU,args_tuple_iterator_next_1->Ti,entry_tuple_iterator_next->Tu,excAttr_ValueError->T8,args_dict_get_3->UE,plainAttrs_dict->UF,entry_max_loop->UI,slot_tuple_rmul->UL,slot_dict_items->UM,entry_dict_get->UZ,plainAttrs_str->U4,slot_str_join->Vj,type_str_join->Vk,slot_int_rmul->WU,slot_tuple_eq->WY
open PySem.Builtin.Slice renaming slicePlaces->Ry,sliceAdjust->Sd,sliceApplied->TR,slicePartIndex->WR,sliceFields->Xz
open PySem.Builtin.SmallTypes renaming nextOf->RA
open PySem.Builtin.List renaming listTooLong->RG,listFitsIndex->Xj
open PySem.Obj renaming isFreed_of_fields->R1,data_mapFields->Su,mapSeq->SY,mapFields->Uw
open True renaming intro->R6
open PySem.Code renaming quiet_builtin->Ss
open Classical renaming propDecidable->SC
open PySem.Calls renaming callWith_builtin->SG,Name_function_global->TF,spliced_cons->TM,evalArgs_plain->Vo,spliced_nil->V3
open PySem.Around renaming under_plainId->S5,in1->YB
open PySem.SeqAt.EqAt renaming same->Tc,int_str->Tw,str_int->Tx,none_int->VE,none_str->VF,int_none->VG,str_none->VH
open ForInStep renaming yield->Te
open PySem.PassesOwn renaming never->Tg
open PySem.Builtin.Builtins renaming bindParams->Ts
open PySem.Reads renaming unique->T6
open PySem.Builtin.ObjectAttr renaming bindTo->Ub
open PyProof.Rows.IsTup renaming new->UC
open PySem.Builtin.Dict renaming updateFrom->UN,addKeywords->XZ,selfAndRest->X0
open PySem.StrLaws renaming glued_eq_join->Vi
open PySem.Heap.SameBut renaming update->VI,refl->YE
open PySem.EntryCells renaming newEntry->VJ
open List.Nodup renaming sublist->V2
open Sum.inr renaming inj->WF
open PySem.Data renaming fields->WG,cell->X7
open PySem.Heap.DictOf renaming new->WT
open PySem.Walks renaming list->Xf,dictKeys->Xg
open PySem.EqNone renaming eq_none_none->Xp,eq_none_bool->Xq,eq_bool_none->Xr,ne_none_none->Xu,ne_none_bool->Xv,ne_bool_none->Xw,eq_none_int->XD,eq_none_str->XF,eq_int_none->XG,eq_str_none->XI,ne_none_int->XN,ne_none_str->XQ,ne_int_none->XS,ne_str_none->XU
open PySem.EqMixed renaming eq_bool_str->Xs,eq_str_bool->Xt,ne_bool_str->Xx,ne_str_bool->Xy,eq_int_str->XH,eq_str_int->XM,ne_int_str->XT,ne_str_int->XW
open Function renaming comp->X2
open PySem.ExcName renaming means->X4
open PySem.Builtin.Range renaming rangeSize->X8
open PySem.Heap.IsSliceOf renaming new->Yz
open Char renaming toNat->YC
open List.Pairwise renaming nil->YD,imp->YF,map->YG
open List.Sublist renaming map->YH
open PySem PySem.Spec PyProof.Rows
namespace Internal
namespace L2
abbrev Key:=Sum Int Str
def fB:Key->Pb->Bool
 |.inl k,v=>Yt k v
 |.inr x,v=>XA x v
def AW(w:PY):Key->Int
 |.inl k=>hashInt k
 |.inr x=>hashStr w x
theorem eB:∀{k:Key}{v:Pb},fB k v=true->(∃i t,k=UQ i/\v=Ra i t)\/(∃x t,k=Qf x/\v=Tv x t)
 |.inl i,v,h=>by
  obtain⟨t,e⟩:=Value.isInt_shape (k:=i) (v:=v) h;exact .inl ⟨i,t,rfl,e⟩
 |.inr x,v,h=>by
  obtain⟨t,e⟩:=Value.isStrOf_shape (x:=x) (v:=v) h;exact .inr ⟨x,t,rfl,e⟩
theorem Do(i:Int)(t:Tok):fB (.inl i) (.int i t)=true:=by simp[fB,Yt]
theorem Dm(x:Str)(t:Tok):fB (.inr x) (.str x t)=true:=by simp[fB,XA]
theorem zd(a b:Int):decide ((UQ a:Key)=UQ b)=(a == b):=by
 by_cases e:a=b
 .subst e;simp
 .have h:¬(UQ a:Key)=UQ b:=fun q=>e (Sum.inl.inj q)
  rw[decide_eq_false h];exact(beq_eq_false_iff_ne.mpr e).symm
theorem y8(a b:Str):decide ((Qf a:Key)=Qf b)=decide (a=b):=by
 by_cases e:a=b
 .subst e;simp
 .have h:¬(Qf a:Key)=Qf b:=fun q=>e (WF q)
  rw[decide_eq_false h,decide_eq_false e]
theorem zc(a:Int)(b:Str):decide ((UQ a:Key)=Qf b)=false:=decide_eq_false (fun q=>nomatch q)
theorem y9(a:Str)(b:Int):decide ((Qf a:Key)=UQ b)=false:=decide_eq_false (fun q=>nomatch q)
def bE(prog:Px)(w:PY):XC prog w Key where
 is:=fB
 hash:=AW w
 inj:=fun v a b ha hb=>by
  rcases eB ha with⟨i,t,rfl,rfl⟩|⟨x,t,rfl,rfl⟩
  .rcases eB hb with⟨j,u,rfl,e⟩|⟨y,u,rfl,e⟩
   .injection e with e1 _;rw[e1]
   .exact nomatch e
  .rcases eB hb with⟨j,u,rfl,e⟩|⟨y,u,rfl,e⟩
   .exact nomatch e
   .injection e with e1 _;rw[e1]
 byValue:=fun k v h=>by
  rcases eB h with⟨i,t,rfl,rfl⟩|⟨x,t,rfl,rfl⟩ <;> rfl
 pyHash:=fun hv h=>by
  rcases eB hv with⟨i,t,rfl,rfl⟩|⟨x,t,rfl,rfl⟩
  .exact Wo h
  .exact Wp h
 eqBool:=fun hu hv h=>by
  rcases eB hu with⟨i,t,rfl,rfl⟩|⟨x,t,rfl,rfl⟩
  .rcases eB hv with⟨j,u,rfl,rfl⟩|⟨y,u,rfl,rfl⟩
   .rw[zd] at h;exact Wq h
   .rw[zc] at h;exact Tw i t y u _ _ _ _ h
  .rcases eB hv with⟨j,u,rfl,rfl⟩|⟨y,u,rfl,rfl⟩
   .rw[y9] at h;exact Tx x t j u _ _ _ _ h
   .rw[y8] at h;exact Wr h
 «strs»:=fun k x t v h=>by
  rcases eB h with⟨i,u,rfl,e⟩|⟨y,u,rfl,e⟩
  .exact nomatch e
  .injection e with e1 _
   subst e1
   cases v <;> rfl
theorem B2(prog:Px)(w:PY)(i:Int)(t:Tok):(bE prog w).is (.inl i) (.int i t)=true:=Do i t
theorem B1(prog:Px)(w:PY)(x:Str)(t:Tok):(bE prog w).is (.inr x) (.str x t)=true:=Dm x t
inductive V where
 |non|bl (b:Bool)|int (i:Int)|str (x:Str)|byt (b:Array UInt8)|flt (b:UInt64)|ref (a:Addr)|ty (n:String)
 deriving DecidableEq
def RelV:V->Pb->Prop
 |.non,u=>u=Qq
 |.bl b,u=>u=VS b
 |.int i,u=>∃t,u=Ra i t
 |.str x,u=>∃t,u=Tv x t
 |.byt b,u=>∃t,u=Value.bytes b t
 |.flt b,u=>∃t,u=Yu b t
 |.ref a,u=>u=PJ a
 |.ty n,u=>u=Sr n
abbrev Vals:List V->List Pb->Prop:=Tz RelV
theorem Vals.length(r:Vals xs us):xs.length=us.length:=Q5 r
theorem Vals.get:∀{xs:List V}{us:List Pb}{i:Nat}{x:V},Vals xs us->xs[i]? = some x->∃u,us[i]? = some u/\RelV x u
 |_,_,_,_,.nil,e=>by simp at e
 |_,_,0,_,.cons r _,e=>by simp at e;subst e;exact⟨_,rfl,r⟩
 |_,_,i+1,x,.cons _ t,e=>by
  obtain⟨u,h1,h2⟩:=Vals.get (i:=i) (x:=x) t (by simpa using e);exact⟨u,by simpa using h1,h2⟩
theorem Vals.set(r:RelV x u):∀{xs:List V}{us:List Pb} (i:Nat),Vals xs us->Vals (xs.set i x) (us.set i u)
 |_,_,_,.nil=>.nil
 |_,_,0,.cons _ t=>.cons r t
 |_,_,i+1,.cons q t=>.cons q (Vals.set r i t)
theorem Vals.append:∀{xs ys:List V}{us ws:List Pb},Vals xs us->Vals ys ws->Vals (xs++ys) (us++ws)
 |_,_,_,_,.nil,s=>s
 |_,_,_,_,.cons r t,s=>.cons r (Vals.append t s)
theorem Vals.take:∀{xs:List V}{us:List Pb} (n:Nat),Vals xs us->Vals (xs.take n) (us.take n)
 |_,_,0,_=>.nil
 |_,_,_+1,.nil=>.nil
 |_,_,n+1,.cons r t=>.cons r (Vals.take n t)
theorem Vals.drop:∀{xs:List V}{us:List Pb} (n:Nat),Vals xs us->Vals (xs.drop n) (us.drop n)
 |_,_,0,r=>r
 |_,_,_+1,.nil=>.nil
 |_,_,n+1,.cons _ t=>Vals.drop n t
def RelO:Option V->Option Pb->Prop
 |some v,some u=>RelV v u
 |none,none=>True
 |_,_=>False
def KV{κ:Type}:List (κ×V)->List (κ×Pb)->Prop:=Tz fun(p:κ×V) (q:κ×Pb)=>p.1=q.1/\RelV p.2 q.2
def kV:Key->V
 |.inl i=>.int i
 |.inr x=>.str x
inductive HO where
  |lst (xs:List V)
  |tup (xs:List V)
  |dK (kvs:List (Key×V))|dT (kvs:List (List Key×V))
  |set (S:Int->Bool) (n:Nat)
  |ins (C dx:Addr) (fs:List (Str×V))
  |own (x:Addr)
  |xd (fs:List (Str×V))
  |met (f x:Addr)
  |rng (lo hi:Int)
  |frz (o:Obj) (u:HO)
  |tbl (ps:Array Pb)
  |ext (φ:Heap->Prop)
abbrev Hp:=Addr->Option HO
def upd(H:Hp)(a:Addr)(o:HO):Hp:=fun b=>if b=a then some o else H b
theorem bo:upd H a o a=some o:=by unfold upd;rw[if_pos rfl]
theorem aR(h:b≠a):upd H a o b=H b:=by unfold upd;rw[if_neg h]
theorem Fy:upd (upd H a o) a u=upd H a u:=by funext b;unfold upd;split <;> rfl
theorem Kf{H:Hp}{a b:Addr}{o u:HO}(h:H a=some o)(h':H b=some u)(d:o≠u):a≠b:=by intro e;subst e;rw[h] at h';exact d (Qa h')
theorem c6{H:Hp}{a b:Addr}{o:HO}(h:H a=some o)(h':H b=none):a≠b:=by intro e;subst e;rw[h] at h';cases h'
section
variable (P:Px)(w:PY)
def ObjOk(H:Hp)(h:Heap)(a:Addr):HO->Prop
 |.lst xs=>xs.length<=Pp/\∃(its:List Pb) (n:Nat),Vals xs its/\h.get? a=some { cls:=.type "list",data:=.seq its.toArray n }
 |.tup xs=>xs.length<=Pp/\∃its:List Pb,Vals xs its/\Vm h a its.toArray
 |.dK kvs=>kvs.length<=Pp/\(a == QF)=false/\∃vs,KV kvs vs/\h.DictOf (bE P w) a vs
 |.dT kvs=>kvs.length<=Pp/\(a == QF)=false/\∃xs:List (List Key×Addr×Pb),
   Tz (fun(p:List Key×V) (q:List Key×Addr×Pb)=>p.1=q.1/\H q.2.1=some (.tup (p.1.map kV))/\RelV p.2 q.2.2) kvs xs /\
   ∃o es ep,h.get? a=some o/\o.ExactDict/\o.data=.dict es ep/\es.toList=xs.map (entryOfKey (Uy (bE P w)))/\(xs.map (·.1)).Nodup
 |.set S n=>h.SetOf (intKind P w) a S n
 |.ins C dx fs=>H dx=some (.own a)/\fs.length<=1000/\dx≠a/\h.get? a=some (U9 C dx) /\
   ∃mA,h.Ns1 dx mA/\(∀f,RelO (fs.lookup f) (mA f))/\Yf mA (fs.map (·.1))
 |.own _=>∃o,h.get? a=some o
 |.xd fs=>∃mA,h.Ns1 a mA/\∀f,RelO (fs.lookup f) (mA f)
 |.rng lo hi=>∃t u v,h.get? a=some { cls:=.type "range",data:=.fields #[.int lo t,.int hi u,.int 1 v] }
 |.frz o u=>h.get? a=some o/\ObjOk H h a u
 |.tbl ps=>h.get? a=some { cls:=.none,data:=.fields ps }
 |.met f x=>h.get? a=some (Uc (.ref f) (.ref x))
 |.ext φ=>φ h/\(∃o,h.get? a=some o)/\∀h1 h2:Heap,φ h1->(∀o,h1.get? a=some o->h2.get? a=some o)->φ h2
def HOk(H:Hp)(h:Heap):Prop:=∀a o,H a=some o->ObjOk P w H h a o
end
section
variable {P:Px}{w:PY}{H H':Hp}{h h':Heap}{a:Addr}{o:HO}
theorem ObjOk.lt(x:ObjOk P w H h a o):a<h.objs.size:=by
 cases o with
 |lst xs=>obtain⟨_,_,_,_,e⟩:=x;exact Pn e
 |tup xs=>obtain⟨_,_,_,p⟩:=x;exact p.lt
 |dK kvs=>obtain⟨_,_,_,_,o,_,_,e,_⟩:=x;exact Pn e
 |dT kvs=>obtain⟨_,_,_,_,o,_,_,e,_⟩:=x;exact Pn e
 |set S n=>obtain⟨o,_,_,_,e,_⟩:=x;exact Pn e
 |ins C dx fs=>obtain⟨_,_,_,e,_⟩:=x;exact Pn e
 |own y=>obtain⟨_,e⟩:=x;exact Pn e
 |xd fs=>obtain⟨_,⟨_,_,_,e,_⟩,_⟩:=x;exact Pn e
 |rng lo hi=>obtain⟨_,_,_,e⟩:=x;exact Pn e
 |frz ob u=>obtain⟨e,_⟩:=x;exact Pn e
 |tbl ps=>exact Pn (show h.get? a=some _ from x)
 |met f y=>exact Pn (show h.get? a=some _ from x)
 |ext φ=>obtain⟨_,⟨_,e⟩,_⟩:=x;exact Pn e
theorem Paired.mapP{α β:Type}{F G:α->β->Prop}:∀{l₁:List α}{l₂:List β},Tz F l₁ l₂->(∀a b,F a b->G a b)->Tz G l₁ l₂
 |_,_,.nil,_=>.nil
 |_,_,.cons r t,f=>.cons (f _ _ r) (Paired.mapP t f)
theorem ObjOk.stay(x:ObjOk P w H h a o)(k:∀b u,(b=a\/H b=some (.own a))->h.get? b=some u->h'.get? b=some u)
  (ho:∀b,H b=some (.own a)->H' b=some (.own a)) (ht:∀b xs,H b=some (.tup xs)->H' b=some (.tup xs)):ObjOk P w H' h' a o:=by
 induction o with
 |lst xs=>obtain⟨z,its,n,r,e⟩:=x;exact⟨z,its,n,r,k _ _ (.inl rfl) e⟩
 |tup xs=>obtain⟨z,its,r,ob,e,c⟩:=x;exact⟨z,its,r,ob,k _ _ (.inl rfl) e,c⟩
 |dK kvs=>obtain⟨z,y,vs,r,ob,es,ep,e,c⟩:=x;exact⟨z,y,vs,r,ob,es,ep,k _ _ (.inl rfl) e,c⟩
 |dT kvs=>
  obtain⟨z,y,xs,r,ob,es,ep,e,c⟩:=x;exact⟨z,y,xs,Paired.mapP r fun p q z=>⟨z.1,ht _ _ z.2.1,z.2.2⟩,ob,es,ep,k _ _ (.inl rfl) e,c⟩
 |set S n=>obtain⟨ob,es,ep,t,e,c⟩:=x;exact⟨ob,es,ep,t,k _ _ (.inl rfl) e,c⟩
 |ins C dx fs=>
  obtain⟨d,z,ne,e,mA,⟨od,es,ep,e2,c⟩,r⟩:=x;exact⟨ho _ d,z,ne,k _ _ (.inl rfl) e,mA,⟨od,es,ep,k _ _ (.inr d) e2,c⟩,r⟩
 |own y=>obtain⟨ob,e⟩:=x;exact⟨ob,k _ _ (.inl rfl) e⟩
 |xd fs=>obtain⟨mA,⟨od,es,ep,e,c⟩,r⟩:=x;exact⟨mA,⟨od,es,ep,k _ _ (.inl rfl) e,c⟩,r⟩
 |rng lo hi=>obtain⟨t,u,v,e⟩:=x;exact⟨t,u,v,k _ _ (.inl rfl) e⟩
 |frz ob u ih=>obtain⟨e,q⟩:=x;exact⟨k _ _ (.inl rfl) e,ih q⟩
 |tbl ps=>
  have e:h.get? a=some { cls:=.none,data:=.fields ps }:=x;show h'.get? a=some { cls:=.none,data:=.fields ps };exact k a _ (.inl rfl) e
 |met f y=>
  have e:h.get? a=some (Uc (.ref f) (.ref y)):=x;show h'.get? a=some (Uc (.ref f) (.ref y));exact k a _ (.inl rfl) e
 |ext φ=>obtain⟨p,⟨o,e⟩,st⟩:=x;exact⟨st _ _ p fun o q=>k _ _ (.inl rfl) q,⟨o,k _ _ (.inl rfl) e⟩,st⟩
theorem HOk.lt(x:HOk P w H h)(e:H a=some o):a<h.objs.size:=(x a o e).lt
theorem HOk.fresh(x:HOk P w H h)(e:h.objs.size<=a):H a=none:=by
 cases q:H a with
 |none=>rfl
 |some u=>exact absurd (Py (x.lt q) e) (Qr _)
theorem HOk.kept(x:HOk P w H h)(k:∀b u,h.get? b=some u->h'.get? b=some u):HOk P w H h':=fun a o e=>
 (x a o e).stay (fun b u _ q=>k b u q) (fun _ q=>q) fun _ _ q=>q
theorem HOk.laid(x:HOk P w H h)(k:∀b u,h.get? b=some u->h'.get? b=some u)(hp:h.objs.size<=a)(new:ObjOk P w (upd H a o) h' a o):HOk P w (upd H a o) h':=fun b u e=>by
 have hn:=x.fresh hp
 by_cases hb:b=a
 .subst hb;rw[bo] at e;cases e;exact new
 .rw[aR hb] at e
  exact(x b u e).stay (fun c v _ q=>k c v q) (fun c q=>by rw[aR (c6 q hn)];exact q) fun c xs q=>by rw[aR (c6 q hn)];exact q
end
def Rd(H:Hp)(a:Addr)(u:HO):Prop:=H a=some u\/∃o,H a=some (.frz o u)
theorem Rd.ok(r:Rd H a u)(x:HOk P w H h):ObjOk P w H h a u:=by
 rcases r with r|⟨o,r⟩
 .exact x a u r
 .obtain⟨_,q⟩:=x a _ r
  exact q
def Mut:Option HO->Prop
 |some (.lst _)=>True
 |some (.dK _)=>True
 |some (.dT _)=>True
 |some (.set _ _)=>True
 |some (.ins _ _ _)=>True
 |some (.ext _)=>True
 |_=>False
section
variable {P:Px}{w:PY}{H:Hp}{h h':Heap}{x e:Addr}{o':HO}
theorem HOk.write(ok:HOk P w H h)(mu:Mut (H x))(he:e=x\/H e=some (.own x))(k:∀b u,b≠e->h.get? b=some u->h'.get? b=some u)(heo:∃u,h'.get? e=some u)
  (new:ObjOk P w (upd H x o') h' x o'):HOk P w (upd H x o') h':=fun b u q=>by
 have nown:∀c y,H c=some (.own y)->c≠x:=fun c y r z=>by subst z;rw[r] at mu;exact mu
 have ntup:∀c xs,H c=some (.tup xs)->c≠x:=fun c xs r z=>by subst z;rw[r] at mu;exact mu
 by_cases hb:b=x
 .subst hb;rw[bo] at q;cases q;exact new
 .rw[aR hb] at q
  by_cases hbe:b=e
  .have q':H b=some (.own x):=by
    rcases he with z|z
    .exact absurd (hbe.trans z) hb
    .rw[hbe];exact z
   rw[q] at q';cases q';obtain⟨v,hv⟩:=heo;exact⟨v,by rw[hbe];exact hv⟩
  .refine(ok b u q).stay (fun c v hc r=>k c v ?_ r) (fun c r=>by rw[aR (nown c b r)];exact r) fun c xs r=>by rw[aR (ntup c xs r)];exact r
   rcases hc with rfl|hc
   .exact hbe
   .rintro rfl
    rcases he with z|z
    .exact nown c b hc z
    .rw[hc] at z;cases z;exact hb rfl
end
structure Un(fs ex:List Addr)(H H':Hp)(h h':Heap):Prop where
 keep:∀b o,h.get? b=some o->H b=none->b∉fs->b∉ex->h'.get? b=some o
 slot:∀b o,h.get? b=some o->H b=none->b∈fs->b∉ex->∃sl,h'.get? b=some { o with slots:=sl }
 free:∀b o,h.get? b=some o->H b=none->b∉ex->H' b=none
 there:∀b o,h.get? b=some o->b∉ex->∃o',h'.get? b=some o'
 tups:∀b xs,H b=some (.tup xs)->H' b=some (.tup xs)
 frzs:∀b o u,H b=some (.frz o u)->H' b=some (.frz o u)
 tbls:∀b ps,H b=some (.tbl ps)->∃more,H' b=some (.tbl (ps++more))
section
variable {fs fs' ex ex':List Addr}{H H1 H2:Hp}{h h1 h2 h':Heap}{a x e:Addr}{o:HO}
theorem Un.any(u:Un fs ex H H1 h h1)(q:h.get? b=some ob)(n:H b=none)(hx:b∉ex):∃sl,h1.get? b=some { ob with slots:=sl }:=by
 by_cases hb:b∈fs
 .exact u.slot b ob q n hb hx
 .exact⟨ob.slots,u.keep b ob q n hb hx⟩
theorem Un.kept(k:∀b u,h.get? b=some u->h'.get? b=some u):Un fs ex H H h h':=⟨fun b ob q _ _ _=>k b ob q,fun b ob q _ _ _=>⟨ob.slots,k b ob q⟩,fun _ _ _ n _=>n,fun b ob q _=>⟨ob,k b ob q⟩,fun _ _ q=>q,fun _ _ _ q=>q,fun _ ps q=>⟨#[],by rw[q];simp⟩⟩
theorem Un.refl:Un fs ex H H h h:=Un.kept fun _ _ q=>q
theorem Un.laid(k:∀b u,h.get? b=some u->h'.get? b=some u)(hp:h.objs.size<=a)(hn:H a=none):Un fs ex H (upd H a o) h h' where
 keep:=fun b u q _ _ _=>k b u q
 slot:=fun b u q _ _ _=>⟨u.slots,k b u q⟩
 free:=fun b u q n _=>by rw[aR (PK (Py (Pn q) hp))];exact n
 there:=fun b u q _=>⟨u,k b u q⟩
 tups:=fun b xs q=>by rw[aR (c6 q hn)];exact q
 frzs:=fun b u xs q=>by rw[aR (c6 q hn)];exact q
 tbls:=fun b ps q=>⟨#[],by rw[aR (c6 q hn),q];simp⟩
theorem Un.write(mu:Mut (H x))(he:e=x\/H e=some (.own x))(k:∀b u,b≠e->h.get? b=some u->h'.get? b=some u)(heo:∃u,h'.get? e=some u):Un fs ex H (upd H x o) h h':=by
 have hx:∀b,H b=none->b≠x:=fun b n z=>by subst z;rw[n] at mu;exact mu
 have hb:∀b,H b=none->b≠e:=fun b n z=>by
  subst z
  rcases he with r|r
  .exact hx b n r
  .rw[n] at r;cases r
 have hm:∀b u,H b=some u->¬Mut (some u)->b≠x:=fun b u q nm z=>by subst z;rw[q] at mu;exact nm mu
 refine⟨fun b u q n _ _=>k b u (hb b n) q,fun b u q n _ _=>⟨u.slots,k b u (hb b n) q⟩,fun b u q n _=>by rw[aR (hx b n)];exact n,fun b u q _=>?_,
  fun b xs q=>by rw[aR (hm b _ q fun z=>z)];exact q,fun b u xs q=>by rw[aR (hm b _ q fun z=>z)];exact q,fun b ps q=>⟨#[],by rw[aR (hm b _ q fun z=>z),q];simp⟩⟩
 by_cases hbe:b=e
 .subst hbe;exact heo
 .exact⟨u,k b u hbe q⟩
end
def trk(h:Heap)(H:Hp):List Addr:=(Re h.objs.size).filter fun a=>(H a).isSome
def gM(h:Heap)(H:Hp):Heap:=PySem.W.hideAll h (trk h H)
theorem Dv(h:Heap)(H:Hp):(gM h H).objs.size=h.objs.size:=PySem.W.hideAll_size _ _
theorem EO(e:h.get? b=some o)(n:H b=none):(gM h H).get? b=some o:=
 PySem.W.hideAll_get _ e fun hm=>by
  have q:(H b).isSome=true:=(Rf.mp hm).2;rw[n] at q;simp at q
theorem Gf(e:(gM h H).get? b=some o):h.get? b=some o/\H b=none:=by
 have e':h.get? b=some o:=PySem.W.of_hideAll (trk h H) e;refine⟨e',?_⟩
 cases q:H b with
 |none=>rfl
 |some x=>
  have hm:b∈trk h H:=Rf.mpr ⟨TC.mpr (Pn e'),by simp[q]⟩;have z:(gM h H).get? b=none:=PySem.W.hideAll_none (trk h H) hm;rw[z] at e;cases e
noncomputable def Hg(g h:Heap)(L:Addr):List (Addr×Obj):=(Re h.objs.size).filterMap fun a=>if a=L\/(g.get? a).isSome=true then none else (h.get? a).map fun o=>(a,o)
def rest(g h:Heap)(L d:Addr):List (Addr×Obj):=(Hg g h L).filter fun p=>decide (p.1≠d)
structure Mod(K:Frag)(mg:Str->Option Pb)(base:Heap):Prop where
 kin:K.In base
 glob:base.Ns P3 mg
 blt:∃mb,base.Ns W4 mb/\∀x:Str,x≠"__name__"->mb x=Rk x
 nolimit:base.NoLimit
structure Cx where
 prog:Px
 w:PY
 K:Frag
 mg:Str->Option Pb
 base:Heap
 A:PZ
 N:List Str
 s₀:Pf
 H₀:Hp
 env:Env
 outer:List Env
 stack:List Env
 ex:List Addr
 fn:Str->Bool
 calm:Bool
 pn:List (Addr×Obj)
 xe:Pb->Pf->Prop
def frs(l:List Env):List Addr:=l.filterMap (·.frame)
abbrev Cx.fs(X:Cx):List Addr:=frs X.outer
def Vis(sc:Rj)(x:Str):Prop:=sc.names.lookup x=some .local\/sc.names.lookup x=some .cell\/sc.names.lookup x=some .free
def Loc(sc:Rj)(x:Str):Prop:=sc.names.lookup x=some .local\/sc.names.lookup x=some .cell
def Look(env:Env)(h:Heap)(m:Str->Option Pb)(x:Str)(u:Pb):Prop:=(env.kindOf x=some .local/\m x=some u)\/((env.kindOf x=some .cell\/env.kindOf x=some .free)/\∃c,env.cells.lookup x=some c/\h.IsCell c (some u))
structure Cx.Ok(X:Cx):Prop where
 mod:Mod X.K X.mg X.base
 kind:X.env.scope.kind=.function
 glob:X.env.globals=P3
 blt:X.env.builtins=W4
 above:X.s₀.heap.objs.size<=X.env.locals
 inj:∀x y c,X.env.cells.lookup x=some c->X.env.cells.lookup y=some c->x=y
 has:∀x,(X.env.kindOf x=some .cell\/X.env.kindOf x=some .free)->∃c,X.env.cells.lookup x=some c
 cab:∀x c,X.fn x=true->X.env.cells.lookup x=some c->X.s₀.heap.objs.size<=c
 hd:X.calm=true->X.A.handled=none
 frames:X.A.frames=some X.stack
 stk:X.stack=X.outer\/(X.stack=X.env::X.outer/\X.env.frame=some X.env.locals)
 exf:∀b∈X.ex,b≠X.env.locals/\∀x c,X.env.cells.lookup x=some c->c≠b
 bs:∀b o,X.base.get? b=some o->X.s₀.heap.get? b=some o/\X.H₀ b=none
 bsz:X.base.objs.size<=X.s₀.heap.objs.size
 noex:∀b o,X.base.get? b=some o->b∉X.ex
 exfs:∀b∈X.ex,b∉X.fs
 funs:X.s₀.heap.FunFrames X.base X.outer
 frf:∀b∈X.fs,X.H₀ b=none
structure Inv(X:Cx)(pins:List (Addr×Obj))(σ:List (Option V))(H:Hp)(s:Pf):Prop where
 ok:X.Ok
 os:s.os=X.s₀.os
 bare:S2 s.gens
 base:Un X.fs X.ex X.H₀ H X.s₀.heap s.heap
 loc:∃m,s.heap.Ns X.env.locals m/\∀(i:Nat) (x:Str) (v:V),X.N[i]? = some x->σ[i]? = some (some v)->Vis X.env.scope x->∃u,RelV v u/\Look X.env s.heap m x u
 cell:∀x c,X.env.cells.lookup x=some c->∃v,s.heap.IsCell c v
 free:H X.env.locals=none
 freeC:∀x c,X.env.cells.lookup x=some c->H c=none
 pin:∀p∈X.pn++pins,s.heap.get? p.1=some p.2/\H p.1=none/\p.1≠X.env.locals/\p.1∉X.fs/\∀v,p.2.data≠.cell v
 hok:HOk X.prog X.w H s.heap
 len:σ.length=X.N.length
section
variable {X:Cx}{pins:List (Addr×Obj)}{σ:List (Option V)}{H H':Hp}{s:Pf}{h':Heap}
theorem Cx.Ok.nofr(ok:X.Ok)(e:X.base.get? b=some o):b∉X.fs:=fun hb=>by
 have:=(ok.funs.mem hb).1;rw[e] at this;cases this
theorem Inv.bs(I:Inv X pins σ H s):∀b o,X.base.get? b=some o->s.heap.get? b=some o/\H b=none:=fun b o e=>
 ⟨I.base.keep b o (I.ok.bs b o e).1 (I.ok.bs b o e).2 (I.ok.nofr e) (I.ok.noex b o e),I.base.free b o (I.ok.bs b o e).1 (I.ok.bs b o e).2 (I.ok.noex b o e)⟩
theorem Inv.bk(I:Inv X pins σ H s):∀b o,X.base.get? b=some o->s.heap.get? b=some o:=fun b o e=>(I.bs b o e).1
theorem Inv.mod(I:Inv X pins σ H s):Mod X.K X.mg X.base:=I.ok.mod
theorem Inv.kIn(I:Inv X pins σ H s):X.K.In s.heap:=I.ok.mod.kin.keeps I.bk
theorem Inv.lt(I:Inv X pins σ H s):X.env.locals<s.heap.objs.size:=let ⟨_,hn,_⟩:=I.loc;hn.lt
theorem Inv.sz(I:Inv X pins σ H s):X.s₀.heap.objs.size<=s.heap.objs.size:=PL I.ok.above (UR I.lt)
theorem Inv.nofs(I:Inv X pins σ H s)(h:s.heap.objs.size<=a):a∉X.fs:=fun hb=>by
 obtain⟨_,o,ho,_⟩:=I.ok.funs.mem hb;exact absurd (Py (Pn ho) (PL I.sz h)) (Qr _)
theorem Inv.cne(I:Inv X pins σ H s):∀x c,X.env.cells.lookup x=some c->c≠X.env.locals:=fun x c e z=>by
 obtain⟨v,o,ho,hd⟩:=I.cell x c e;obtain⟨m,⟨o',es,ep,ho',hd',_⟩,_⟩:=I.loc;rw[z,ho'] at ho;cases ho;rw[hd'] at hd;cases hd
theorem Inv.funs(I:Inv X pins σ H s):s.heap.FunFrames X.base X.outer:=by
 have all:∀(l:List Env),(∀b∈frs l,b∈X.fs)->X.s₀.heap.FunFrames X.base l->s.heap.FunFrames X.base l:=by
  intro l
  induction l with
  |nil=>intro _ _;trivial
  |cons env r ih=>
   intro hs hl;obtain⟨hk,⟨L,o,hf,hn,ho,hd⟩,hr⟩:=hl;have hL:L∈X.fs:=hs L (by unfold frs;rw[RL,hf];exact Pi);obtain⟨sl,e⟩:=I.base.slot L o ho (I.ok.frf L hL) hL fun z=>I.ok.exfs L z hL;exact⟨hk,⟨L,_,hf,hn,e,hd⟩,ih (fun b hb=>hs b (by unfold frs;rw[RL,hf];exact Pg _ hb)) hr⟩
 exact all X.outer (fun _ hb=>hb) I.ok.funs
theorem Inv.stack(I:Inv X pins σ H s):s.heap.FunFrames X.base X.stack:=by
 rcases I.ok.stk with e|⟨e,hf⟩
 .rw[e];exact I.funs
 .rw[e]
  obtain⟨m,hn,_⟩:=I.loc;refine .cons (by rw[I.ok.kind];decide) hf hn ?_ I.funs;exact S4 (PL I.ok.bsz I.ok.above)
theorem Inv.stkSub(I:Inv X pins σ H s):∀b∈frs X.stack,b∈X.env.locals::X.fs:=fun b hb=>by
 rcases I.ok.stk with e|⟨e,hf⟩
 .rw[e] at hb;exact Pg _ hb
 .rw[e] at hb
  unfold frs at hb;rw[RL,hf] at hb;exact hb
theorem Inv.stkFree(I:Inv X pins σ H s):∀b∈frs X.stack,H b=none:=fun b hb=>by
 rcases Pt.mp (I.stkSub b hb) with e|hb
 .rw[e];exact I.free
 .obtain⟨_,o,ho,_⟩:=I.ok.funs.mem hb
  exact I.base.free b o ho (I.ok.frf b hb) fun z=>I.ok.exfs b z hb
theorem Inv.step{g':Array Uz}{t':Nat}{d':X5}{ch:List Addr}(I:Inv X pins σ H s)
  (hch:∀b∈ch,(b∈X.ex\/X.s₀.heap.objs.size<=b)/\b≠X.env.locals/\(∀x c,X.env.cells.lookup x=some c->c≠b)/\∀p∈X.pn++pins,p.1≠b)
  (keep:∀b o,b≠X.env.locals->b∉X.fs->b∉ch->s.heap.get? b=some o->H b=none->h'.get? b=some o)
  (slot:∀b o,b≠X.env.locals->b∈X.fs->b∉ch->s.heap.get? b=some o->H b=none->∃sl,h'.get? b=some { o with slots:=sl }) (free:∀b o,b∉ch->s.heap.get? b=some o->H b=none->H' b=none)
  (there:∀b o,b∉ch->s.heap.get? b=some o->∃o',h'.get? b=some o')
  (tups:∀b xs,H b=some (.tup xs)->H' b=some (.tup xs)) (frzs:∀b o u,H b=some (.frz o u)->H' b=some (.frz o u)) (tbls:∀b ps,H b=some (.tbl ps)->∃more,H' b=some (.tbl (ps++more)))
  (ns:∀m,s.heap.Ns X.env.locals m->h'.Ns X.env.locals m) (hok:HOk X.prog X.w H' h') (hg:S2 g') :
  Inv X pins σ H' { s with heap:=h',gens:=g',drawn:=d',toks:=t' }:=by
 have neL:∀b o,X.s₀.heap.get? b=some o->b≠X.env.locals:=fun b o e=>PK (Py (Pn e) I.ok.above)
 have neC:∀b o,X.s₀.heap.get? b=some o->b∉X.ex->b∉ch:=fun b o e hx hb=>by
  rcases(hch b hb).1 with z|z
  .exact hx z
  .exact absurd (Py (Pn e) z) (Qr _)
 have cellK:∀x c,X.env.cells.lookup x=some c->∀v,s.heap.IsCell c v->h'.IsCell c v:=fun x c e v ⟨o,ho,hd⟩=>by
  have nch:c∉ch:=fun z=>(hch c z).2.2.1 x c e rfl
  by_cases hc:c∈X.fs
  .obtain⟨sl,q⟩:=slot c o (I.cne x c e) hc nch ho (I.freeC x c e)
   exact⟨_,q,hd⟩
  .exact⟨o,keep c o (I.cne x c e) hc nch ho (I.freeC x c e),hd⟩
 refine⟨I.ok,I.os,hg,⟨fun b o e n hb hx=>?_,fun b o e n hb hx=>?_,fun b o e n hx=>?_,fun b o e hx=>?_,fun b xs e=>tups b xs (I.base.tups b xs e),fun b o xs e=>frzs b o xs (I.base.frzs b o xs e),fun b ps e=>?_⟩,?_,fun x c e=>?_,?_,fun x c e=>?_,fun p hp=>?_,hok,I.len⟩
 .exact keep b o (neL b o e) hb (neC b o e hx) (I.base.keep b o e n hb hx) (I.base.free b o e n hx)
 .obtain⟨sl,e1⟩:=I.base.slot b o e n hb hx
  obtain⟨sl',e2⟩:=slot b _ (neL b o e) hb (neC b o e hx) e1 (I.base.free b o e n hx);exact⟨sl',e2⟩
 .obtain⟨o',e1⟩:=I.base.there b o e hx
  exact free b o' (neC b o e hx) e1 (I.base.free b o e n hx)
 .obtain⟨o',e1⟩:=I.base.there b o e hx
  exact there b o' (neC b o e hx) e1
 .obtain⟨m1,e1⟩:=I.base.tbls b ps e
  obtain⟨m2,e2⟩:=tbls b _ e1;exact⟨m1++m2,by rw[e2,Array.append_assoc]⟩
 .obtain⟨m,hn,hl⟩:=I.loc
  refine⟨m,ns m hn,fun i x v e1 e2 e3=>?_⟩;obtain⟨u,r,l⟩:=hl i x v e1 e2 e3;refine⟨u,r,?_⟩
  rcases l with l|⟨k,c,e,z⟩
  .exact .inl l
  .exact .inr ⟨k,c,e,cellK x c e _ z⟩
 .obtain⟨v,z⟩:=I.cell x c e
  exact⟨v,cellK x c e v z⟩
 .obtain⟨m,⟨o,_,_,ho,_⟩,_⟩:=I.loc
  exact free _ o (fun z=>(hch _ z).2.1 rfl) ho I.free
 .obtain⟨v,o,ho,hd⟩:=I.cell x c e
  exact free c o (fun z=>(hch c z).2.2.1 x c e rfl) ho (I.freeC x c e)
 .obtain⟨e,n,ne,nf,d⟩:=I.pin p hp
  have nch:p.1∉ch:=fun z=>(hch p.1 z).2.2.2 p hp rfl;exact⟨keep p.1 p.2 ne nf nch e n,free p.1 p.2 nch e n,ne,nf,d⟩
theorem Inv.un(I:Inv X pins σ H s)(u:Un X.fs [] H H' s.heap h')(hok:HOk X.prog X.w H' h'):Inv X pins σ H' { s with heap:=h',toks:=t' }:=by
 obtain⟨m,⟨o,es,ep,ho,r⟩,_⟩:=id I.loc;obtain⟨sl,hL⟩:=u.any ho I.free (by simp)
 exact I.step (g':=s.gens) (d':=s.drawn) (ch:=[]) (fun _ z=>nomatch z) (fun b o _ hb _ e n=>u.keep b o e n hb (by simp)) (fun b o _ hb _ e n=>u.slot b o e n hb (by simp)) (fun b o _ e n=>u.free b o e n (by simp)) (fun b o _ e=>u.there b o e (by simp)) u.tups u.frzs u.tbls (fun m' hm=>by
  obtain⟨o',es',ep',ho',r'⟩:=hm;rw[ho] at ho';cases ho'
  exact⟨_,es',ep',hL,r'⟩) hok I.bare
theorem Inv.call(I:Inv X pins σ H s)(u:Un (frs X.stack) ch H H' s.heap h')(hok:HOk X.prog X.w H' h')(hg:S2 g')
  (hch:∀b∈ch,(b∈X.ex\/X.s₀.heap.objs.size<=b)/\b≠X.env.locals/\(∀x c,X.env.cells.lookup x=some c->c≠b)/\∀p∈X.pn++pins,p.1≠b) :
  Inv X pins σ H' { s with heap:=h',gens:=g',drawn:=d',toks:=t' }:=by
 obtain⟨m,⟨o,es,ep,ho,r⟩,_⟩:=id I.loc;obtain⟨sl,hL⟩:=u.any ho I.free fun z=>(hch _ z).2.1 rfl
 exact I.step (ch:=ch) hch (fun b o hL hb hc e n=>u.keep b o e n (fun z=>(Pt.mp (I.stkSub b z)).elim hL hb) hc) (fun b o _ _ hc e n=>u.any e n hc) (fun b o hc e n=>u.free b o e n hc) (fun b o hc e=>u.there b o e hc) u.tups u.frzs u.tbls (fun m' hm=>by
  obtain⟨o',es',ep',ho',r'⟩:=hm;rw[ho] at ho';cases ho'
  exact⟨_,es',ep',hL,r'⟩) hok hg
theorem Inv.turned(I:Inv X pins σ H s)(k:∀b o,b≠it->s.heap.get? b=some o->h'.get? b=some o)(hn:H it=none)(hL:it≠X.env.locals)
  (h1:it∈X.ex\/X.s₀.heap.objs.size<=it) (h2:∀x c,X.env.cells.lookup x=some c->c≠it) (h3:∀p∈X.pn++pins,p.1≠it):Inv X pins σ H { s with heap:=h',toks:=t' }:=by
 have nit:∀b u,H b=some u->b≠it:=fun b u e z=>by rw[z,hn] at e;cases e
 refine I.step (g':=s.gens) (d':=s.drawn) (ch:=[it]) (fun b hb=>?_) (fun b o _ _ hc e _=>k b o (fun z=>hc (by simp[z])) e) (fun b o _ _ hc e _=>⟨o.slots,k b o (fun z=>hc (by simp[z])) e⟩) (fun _ _ _ _ n=>n)
  (fun b o hc e=>⟨o,k b o (fun z=>hc (by simp[z])) e⟩) (fun _ _ e=>e) (fun _ _ _ e=>e) (fun b ps e=>⟨#[],by rw[e];simp⟩) (fun m hm=>?_) (fun b u e=>?_) I.bare
 .have e:b=it:=by simpa using hb
  subst e;exact⟨h1,hL,h2,h3⟩
 .obtain⟨o,es,ep,ho,r⟩:=hm
  exact⟨o,es,ep,k _ o (QW hL) ho,r⟩
 .refine(I.hok b u e).stay (fun c v hc q=>k c v ?_ q) (fun _ q=>q) fun _ _ q=>q
  rcases hc with z|z
  .rw[z];exact nit b u e
  .exact nit c _ z
theorem Inv.tok(I:Inv X pins σ H s)(t:Nat):Inv X pins σ H { s with toks:=t }:=I.un (h':=s.heap) (t':=t) Un.refl I.hok
theorem Inv.kept(I:Inv X pins σ H s)(k:∀b u,s.heap.get? b=some u->h'.get? b=some u):Inv X pins σ H { s with heap:=h',toks:=t' }:=I.un (Un.kept k) (I.hok.kept k)
theorem Inv.laid(I:Inv X pins σ H s)(k:∀b u,s.heap.get? b=some u->h'.get? b=some u)(hp:s.heap.objs.size<=a)(new:ObjOk X.prog X.w (upd H a o) h' a o) :
  Inv X pins σ (upd H a o) { s with heap:=h',toks:=t' }:=I.un (Un.laid k hp (I.hok.fresh hp)) (I.hok.laid k hp new)
theorem Inv.write(I:Inv X pins σ H s)(mu:Mut (H x))(he:e=x\/H e=some (.own x))(k:∀b u,b≠e->s.heap.get? b=some u->h'.get? b=some u)(heo:∃u,h'.get? e=some u)
  (new:ObjOk X.prog X.w (upd H x o) h' x o):Inv X pins σ (upd H x o) { s with heap:=h',toks:=t' }:=I.un (Un.write mu he k heo) (I.hok.write mu he k heo new)
theorem Inv.pins_of(I:Inv X pins σ H s)(h:∀p∈pins',s.heap.get? p.1=some p.2/\H p.1=none/\p.1≠X.env.locals/\p.1∉X.fs/\∀v,p.2.data≠.cell v):Inv X pins' σ H s:=⟨I.ok,I.os,I.bare,I.base,I.loc,I.cell,I.free,I.freeC,fun p hp=>(PD.mp hp).elim (fun z=>I.pin p (QG _ z)) (h p),I.hok,I.len⟩
theorem qU{N:List Str}(hN:N.Nodup){i j:Nat}{x:Str}(a:N[i]? = some x)(b:N[j]? = some x):i=j:=by
 obtain⟨h1,e1⟩:=Ph.mp a;obtain⟨h2,e2⟩:=Ph.mp b;exact(List.getElem_inj hN).mp (e1.trans e2.symm)
theorem uZ(I:Inv X pins σ H s)(hN:X.N.Nodup)(hi:X.N[i]? = some x)(hx:Loc X.env.scope x)(r:RelV v u)
  (h:∀s',Inv X pins (σ.set i (some v)) H s'->(∃a,Sa a s.heap s'.heap/\(a=X.env.locals\/X.env.cells.lookup x=some a))->Q () s') (hf:X.fn x=true\/X.env.scope.names.lookup x=some .local:=by first|exact .inl rfl|exact .inr rfl|assumption):PP M A (storeName X.env x u) Q E s:=by
 obtain⟨m,hn,hl⟩:=id I.loc
 have hcls:(X.env.scope.kind == .class||(X.env.scope.kind == .module&&X.env.locals != X.env.globals))=false:=by rw[I.ok.kind];rfl
 have hiσ:i<σ.length:=by rw[I.len];exact(Ph.mp hi).1
 have cne:=I.cne
 have tracked:∀{a:Addr}{h':Heap},(∃o,s.heap.get? a=some o/\H a=none)->Sa a s.heap h'->HOk X.prog X.w H h':=fun {a h'} ha hs b ob e=>by
  obtain⟨_,_,hfree⟩:=ha;refine(I.hok b ob e).stay (fun c w' hc q=>(hs.2 c ?_).trans q) (fun _ q=>q) fun _ _ q=>q;rintro rfl
  rcases hc with rfl|hc
  .rw[hfree] at e;cases e
  .rw[hfree] at hc;cases hc
 rcases hx with hk|hk
 .refine Vg hk hn (fun h' hn' hs=>?_) hcls
  obtain⟨oL,_,_,hoL,_⟩:=id hn;refine h _ ⟨I.ok,I.os,I.bare,⟨fun b o e n hb hx=>?_,fun b o e n hb hx=>?_,I.base.free,fun b o e hx=>?_,I.base.tups,I.base.frzs,I.base.tbls⟩,⟨_,hn',fun j y v' e1 e2 e3=>?_⟩,fun y c e=>?_,I.free,I.freeC,fun p hp=>?_,tracked ⟨oL,hoL,I.free⟩ hs,by simpa using I.len⟩ ⟨_,hs,.inl rfl⟩
  .exact(hs.2 b (PK (Py (Pn e) I.ok.above))).trans (I.base.keep b o e n hb hx)
  .obtain⟨sl,e1⟩:=I.base.slot b o e n hb hx
   exact⟨sl,(hs.2 b (PK (Py (Pn e) I.ok.above))).trans e1⟩
  .obtain⟨o',e1⟩:=I.base.there b o e hx
   exact⟨o',(hs.2 b (PK (Py (Pn e) I.ok.above))).trans e1⟩
  .by_cases hj:j=i
   .subst hj
    rw[hi] at e1;cases e1;rw[Pv hiσ] at e2;cases e2;exact⟨u,r,.inl ⟨hk,by simp⟩⟩
   .rw[Pj (QW hj)] at e2
    obtain⟨u',r',q⟩:=hl j y v' e1 e2 e3;refine⟨u',r',?_⟩
    rcases q with⟨k,e⟩|⟨k,c,e,z⟩
    .refine .inl ⟨k,?_⟩
     have:y≠x:=fun e=>hj (qU hN e1 (e ▸ hi));simp[this,e]
    .exact .inr ⟨k,c,e,z.sameBut hs (cne y c e)⟩
  .obtain⟨w',z⟩:=I.cell y c e
   exact⟨w',z.sameBut hs (cne y c e)⟩
  .obtain⟨e,n,ne,nf,d⟩:=I.pin p hp
   exact⟨(hs.2 p.1 ne).trans e,n,ne,nf,d⟩
 .have hfn:X.fn x=true:=by
   rcases hf with z|z
   .exact z
   .rw[z] at hk;cases hk
  obtain⟨c,hc⟩:=I.ok.has x (.inl hk);obtain⟨w',z⟩:=I.cell x c hc;refine wpAny_storeName_cell I.ok.kind hk hc z (fun h' hc' hs=>?_);obtain⟨oc,hoc,hocd⟩:=id z;refine h { s with heap:=h' } ⟨I.ok,I.os,I.bare,⟨fun b o e n hb hx=>?_,fun b o e n hb hx=>?_,I.base.free,fun b o e hx=>?_,I.base.tups,I.base.frzs,I.base.tbls⟩,⟨m,hn.sameBut hs (QW (cne x c hc)),fun j y v' e1 e2 e3=>?_⟩,fun y c' e=>?_,I.free,I.freeC,fun p hp=>?_,tracked ⟨oc,hoc,I.freeC x c hc⟩ hs,by simpa using I.len⟩ ⟨c,hs,.inr hc⟩
  .exact(hs.2 b (PK (Py (Pn e) (I.ok.cab x c hfn hc)))).trans (I.base.keep b o e n hb hx)
  .obtain⟨sl,e1⟩:=I.base.slot b o e n hb hx
   exact⟨sl,(hs.2 b (PK (Py (Pn e) (I.ok.cab x c hfn hc)))).trans e1⟩
  .obtain⟨o',e1⟩:=I.base.there b o e hx
   exact⟨o',(hs.2 b (PK (Py (Pn e) (I.ok.cab x c hfn hc)))).trans e1⟩
  .by_cases hj:j=i
   .subst hj
    rw[hi] at e1;cases e1;rw[Pv hiσ] at e2;cases e2;exact⟨u,r,.inr ⟨.inl hk,c,hc,hc'⟩⟩
   .rw[Pj (QW hj)] at e2
    obtain⟨u',r',q⟩:=hl j y v' e1 e2 e3;refine⟨u',r',?_⟩
    rcases q with q|⟨k,c',e,z'⟩
    .exact .inl q
    .refine .inr ⟨k,c',e,z'.sameBut hs ?_⟩
     rintro rfl;exact hj (qU hN e1 (I.ok.inj _ _ _ e hc ▸ hi))
  .by_cases hcc:c'=c
   .subst hcc;exact⟨_,hc'⟩
   .obtain⟨w2,z2⟩:=I.cell y c' e
    exact⟨w2,z2.sameBut hs hcc⟩
  .obtain⟨e,n,ne,nf,d⟩:=I.pin p hp
   refine⟨(hs.2 p.1 ?_).trans e,n,ne,nf,d⟩;intro q;rw[q,hoc] at e;have q':oc=p.2:=Qa e;exact d w' (by rw[←q'];exact hocd)
theorem nq(I:Inv X pins σ H s)(hN:X.N.Nodup)(hi:X.N[i]? = some x)(hx:Loc X.env.scope x)(r:RelV v u)
  (h:∀s',Inv X pins (σ.set i (some v)) H s'->Q () s') (hf:X.fn x=true\/X.env.scope.names.lookup x=some .local:=by first|exact .inl rfl|exact .inr rfl|assumption):PP M A (storeName X.env x u) Q E s:=uZ I hN hi hx r (fun s' I' _=>h s' I') hf
theorem Inv.call'(I:Inv X pins σ H s)(ho:s'.os=s.os)(u:Un (frs X.stack) ch H H' s.heap s'.heap)(hok:HOk X.prog X.w H' s'.heap)(hg:S2 s'.gens)
  (hch:∀b∈ch,(b∈X.ex\/X.s₀.heap.objs.size<=b)/\b≠X.env.locals/\(∀x c,X.env.cells.lookup x=some c->c≠b)/\∀p∈X.pn++pins,p.1≠b):Inv X pins σ H' s':=by
 obtain⟨h',g',d',t',o'⟩:=s';have e:o'=s.os:=ho;subst e;exact I.call (g':=g') (t':=t') (d':=d') u hok hg hch
end
abbrev XK:=Pb->Option Addr->Hp->Prop
abbrev St:=List (Option V)
abbrev VK:=V->Hp->Prop
abbrev TE:=St->Hp->VK->Prop
abbrev TT:=St->Hp->(Bool->Hp->Prop)->Prop
abbrev TA:=St->Hp->(List V->Hp->Prop)->Prop
structure Ends where
 nx:St->Hp->Prop
 rt:VK
 bk:St->Hp->Prop:=fun _ _=>False
 ct:St->Hp->Prop:=fun _ _=>False
abbrev TS:=Ends->St->Hp->Prop
def EP(X:Cx)(pins:List (Addr×Obj))(σ:St)(Q:VK)(u:Pb)(s':Pf):Prop:=∃v H',Inv X pins σ H' s'/\RelV v u/\Q v H'
def TP(X:Cx)(pins:List (Addr×Obj))(σ:St)(Q:Bool->Hp->Prop)(b:Bool)(s':Pf):Prop:=∃H',Inv X pins σ H' s'/\Q b H'
def AP(X:Cx)(pins:List (Addr×Obj))(σ:St)(Q:List V->Hp->Prop)(us:List Pb)(s':Pf):Prop:=∃vs H',Inv X pins σ H' s'/\Vals vs us/\Q vs H'
def SP(X:Cx)(pins:List (Addr×Obj))(D:Ends)(f:Flow)(s':Pf):Prop:=
 match f with
 |.next=>∃σ' H',Inv X pins σ' H' s'/\D.nx σ' H'
 |.brk=>∃σ' H',Inv X pins σ' H' s'/\D.bk σ' H'
 |.cont=>∃σ' H',Inv X pins σ' H' s'/\D.ct σ' H'
 |.ret u=>∃v σ' H',Inv X pins σ' H' s'/\RelV v u/\D.rt v H'
def PE(X:Cx)(e:Expr)(t:TE):Prop:=∀(pins:List (Addr×Obj)) (s:Pf) (σ:St) (H:Hp) (Q:VK),Inv X pins σ H s->t σ H Q->PP (PX X.prog X.w) X.A (eval e X.env) (EP X pins σ Q) X.xe s
def PT(X:Cx)(e:Expr)(t:TT):Prop:=∀(pins:List (Addr×Obj)) (s:Pf) (σ:St) (H:Hp) (Q:Bool->Hp->Prop),Inv X pins σ H s->t σ H Q->PP (PX X.prog X.w) X.A (Yg e X.env (eval e X.env)) (TP X pins σ Q) X.xe s
def PW(X:Cx)(e:Expr)(t:TT):Prop:=∀(whole:Sem Pb) (pins:List (Addr×Obj)) (s:Pf) (σ:St) (H:Hp) (Q:Bool->Hp->Prop),Inv X pins σ H s->t σ H Q->PP (PX X.prog X.w) X.A (Yg e X.env whole) (TP X pins σ Q) X.xe s
theorem PW.pt(h:PW X e t):PT X e t:=h _
def PA(X:Cx)(es:List Expr)(t:TA):Prop:=∀(pos:Pos) (pins:List (Addr×Obj)) (s:Pf) (σ:St) (H:Hp) (Q:List V->Hp->Prop),Inv X pins σ H s->t σ H Q->PP (PX X.prog X.w) X.A (spliced (Qg pos (Pk es X.env))) (AP X pins σ Q) X.xe s
def PS(X:Cx)(st:Stmt)(t:TS):Prop:=∀(pins:List (Addr×Obj)) (s:Pf) (σ:St) (H:Hp) (D:Ends),Inv X pins σ H s->t D σ H->PP (PX X.prog X.w) X.A (exec st X.env) (SP X pins D) X.xe s
def PSs(X:Cx)(st:List Stmt)(t:TS):Prop:=∀(pins:List (Addr×Obj)) (s:Pf) (σ:St) (H:Hp) (D:Ends),Inv X pins σ H s->t D σ H->PP (PX X.prog X.w) X.A (execs st X.env) (SP X pins D) X.xe s
theorem thn{α:Type}{t:Sem α}{Q Q':α->Pf->Prop}{M:X6}{A:PZ}{E:Pb->Pf->Prop}{s:Pf}(h:PP M A t Q E s)(hQ:∀a s,Q a s->Q' a s):PP M A t Q' E s:=QT h hQ fun _ _ x=>x
section
variable {X:Cx}
def je(i:Nat):TE:=fun σ H Q=>∃v,σ[i]? = some (some v)/\Q v H
def tC(v:V):TE:=fun _ H Q=>Q v H
theorem Ia(hN:X.N[i]? = some x)(hv:Vis X.env.scope x)(hd:(x == ("__debug__" : Str))=false:=by decide)(hcd:(x == ("__classdict__" : Str))=false:=by decide):PE X (.Name x pos) (je i):=by
 intro pins s σ H Q I h;obtain⟨v,e,h⟩:=h;obtain⟨m,hn,hl⟩:=I.loc;obtain⟨u,r,l⟩:=hl i x v hN e hv;have fin:EP X pins σ Q u s:=⟨v,H,I,r,h⟩
 rcases l with⟨hk,hm⟩|⟨hk,c,hc,hcell⟩
 .exact W5 (wpAny_loadName_local I.ok.kind hk hn hm fin) hd
 .rcases hk with hk|hk
  .exact W5 (wpAny_loadName_cell I.ok.kind hk hc hcell fin) hd
  .exact W5 (wpAny_loadName_free I.ok.kind hk hc hcell fin hcd) hd
theorem Ie{i j pos}:PE X (.Constant (.int i) j pos) (tC (.int i)):=fun _ _ _ H _ I h=>wpAny_Constant_int ⟨.int i,H,I.tok _,⟨_,rfl⟩,h⟩
theorem JZ{b j pos}:PE X (.Constant (.bool b) j pos) (tC (.bl b)):=fun _ _ _ H _ I h=>Constant_bool ⟨.bl b,H,I,rfl,h⟩
theorem Ib{j pos}:PE X (.Constant .none j pos) (tC .non):=fun _ _ _ H _ I h=>Constant_none ⟨.non,H,I,rfl,h⟩
theorem yQ{x j pos}:PE X (.Constant (.str x) j pos) (tC (.str x)):=fun _ _ _ H _ I h=>Calls.Constant_str ⟨.str x,H,I.tok _,⟨_,rfl⟩,h⟩
def Gl(X:Cx)(x:Str):Prop:=X.env.kindOf x=some .globalImplicit
theorem lD(I:Inv X pins σ H s)(hg:Gl X x)(hm:X.mg x=some u)(h:Q u s)
  (hd:(x == ("__debug__" : Str))=false:=by decide):PP (PX X.prog X.w) X.A (eval (.Name x pos) X.env) Q E s:=TF I.ok.kind hg (Calls.loadGlobal_global (by rw[I.ok.glob];exact I.mod.glob.keeps I.bk) hm h) hd
theorem jP(I:Inv X pins σ H s)(hg:Gl X x)(hm:X.mg x=none)(hv:Rk x=some u)(h:Q u s)
  (hn:x≠"__name__":=by decide) (hd:(x == ("__debug__" : Str))=false:=by decide):PP (PX X.prog X.w) X.A (eval (.Name x pos) X.env) Q E s:=by
 obtain⟨mb,h1,h2⟩:=I.mod.blt;exact TF I.ok.kind hg (Calls.loadGlobal_builtin (by rw[I.ok.glob];exact I.mod.glob.keeps I.bk) hm (by rw[I.ok.blt];exact h1.keeps I.bk) ((h2 x hn).trans hv) h) hd
theorem c4(hg:Gl X x)(hm:X.mg x=some u)(r:RelV v u)(hd:(x == ("__debug__" : Str))=false:=by decide):PE X (.Name x pos) (tC v):=fun _ _ _ H _ I h=>lD I hg hm ⟨v,H,I,r,h⟩ hd
theorem xt(hg:Gl X x)(hm:X.mg x=none)(hv:Rk x=some u)(r:RelV v u)(hn:x≠"__name__":=by decide)(hd:(x == ("__debug__" : Str))=false:=by decide):PE X (.Name x pos) (tC v):=fun _ _ _ H _ I h=>jP I hg hm hv ⟨v,H,I,r,h⟩ hn hd
variable {a b:Expr}{ta tb:TE}{pos:Pos}
variable {tA tB':TT}{rest:List Expr}
def K9(t u:TT):TT:=fun σ H Q=>t σ H fun c H1=>if c=true then u σ H1 Q else Q false H1
def tOr(t u:TT):TT:=fun σ H Q=>t σ H fun c H1=>if c=true then Q true H1 else u σ H1 Q
def K5(t:TT):TT:=fun σ H Q=>t σ H fun c H1=>Q (!c) H1
theorem FU(ha:PT X a tA):PW X (.BoolOp .And [a] pos) tA:=by
 intro wh pins s σ H Q I h;refine isTrue_and (thn (ha pins s σ H Q I h) fun c s1 e=>?_)
 cases c with
 |true=>exact isTrue_and_nil e
 |false=>exact e
theorem HV(ha:PT X a tA):PW X (.BoolOp .Or [a] pos) tA:=by
 intro wh pins s σ H Q I h;refine isTrue_or (thn (ha pins s σ H Q I h) fun c s1 e=>?_)
 cases c with
 |false=>exact isTrue_or_nil e
 |true=>exact e
theorem HW(ha:PT X a tA)(hb:PW X (.BoolOp .And (b::rest) pos) tB'):PW X (.BoolOp .And (a::b::rest) pos) (K9 tA tB'):=by
 intro wh pins s σ H Q I h;refine isTrue_and (thn (ha pins s σ H _ I h) fun c s1 ⟨H1,I1,q1⟩=>?_)
 cases c with
 |true=>exact hb wh pins s1 σ H1 Q I1 q1
 |false=>exact⟨H1,I1,q1⟩
theorem JT(ha:PT X a tA)(hb:PW X (.BoolOp .Or (b::rest) pos) tB'):PW X (.BoolOp .Or (a::b::rest) pos) (tOr tA tB'):=by
 intro wh pins s σ H Q I h;refine isTrue_or (thn (ha pins s σ H _ I h) fun c s1 ⟨H1,I1,q1⟩=>?_)
 cases c with
 |true=>exact⟨H1,I1,q1⟩
 |false=>exact hb wh pins s1 σ H1 Q I1 q1
theorem HX(ha:PT X a tA):PT X (.UnaryOp .Not a pos) (K5 tA):=by
 intro pins s σ H Q I h;exact isTrue_not (ha pins s σ H (fun c H1=>Q (!c) H1) I h)
def pJ(ta tb:TE):TE:=fun σ H Q=>ta σ H fun x H1=>∃c,x=.bl c/\if c=true then tb σ H1 Q else Q (.bl false) H1
def sV(ta:TE):TE:=fun σ H Q=>ta σ H fun x H1=>∃c,x=.bl c/\Q (.bl (!c)) H1
theorem oI{op}(h:PE X a t):PE X (.BoolOp op [a] pos) t:=fun pins s σ H Q I hw=>BoolOp_one (h pins s σ H Q I hw)
theorem oJ(ha:PE X a ta)(hb:PE X (.BoolOp .And (b::rest) pos) tb):PE X (.BoolOp .And (a::b::rest) pos) (pJ ta tb):=by
 intro pins s σ H Q I h;refine BoolOp_and (thn (ha pins s σ H _ I h) fun v s1 ⟨x,H1,I1,r1,q1⟩=>?_);obtain⟨c,rfl,q1⟩:=q1;cases r1;refine Qy ?_
 cases c with
 |true=>exact hb pins s1 σ H1 Q I1 q1
 |false=>exact⟨.bl false,H1,I1,rfl,q1⟩
theorem sE(ha:PE X a ta):PE X (.UnaryOp .Not a pos) (sV ta):=by
 intro pins s σ H Q I h;refine UnaryOp_ (thn (ha pins s σ H _ I h) fun v s1 ⟨x,H1,I1,r1,q1⟩=>?_);obtain⟨c,rfl,q1⟩:=q1;cases r1;exact not_of (Qy ⟨.bl (!c),H1,I1,rfl,q1⟩)
def tIf(t:TT)(ta tb:TE):TE:=fun σ H Q=>t σ H fun c H1=>if c=true then ta σ H1 Q else tb σ H1 Q
theorem Er(hc:PT X c tA)(ha:PE X a ta)(hb:PE X b tb):PE X (.IfExp c a b pos) (tIf tA ta tb):=by
 intro pins s σ H Q I h;refine wpAny_IfExp (thn (hc pins s σ H _ I h) fun d s1 ⟨H1,I1,q1⟩=>?_)
 cases d with
 |true=>exact ha pins s1 σ H1 Q I1 q1
 |false=>exact hb pins s1 σ H1 Q I1 q1
end
def SqL(K:Frag)(H:Hp)(a:Addr)(xs:List V):Prop:=
 Rd H a (.lst xs) \/
  ∃(o:Obj) (its:Array Pb) (n:Nat),K.lookup a=some o/\o.cls=.type "list"/\o.dict=none/\o.data=.seq its n/\its.size<=Pp/\Vals xs its.toList
def SqT(K:Frag)(H:Hp)(a:Addr)(xs:List V):Prop:=
 Rd H a (.tup xs) \/
  ∃(o:Obj) (its:Array Pb) (n:Nat),K.lookup a=some o/\o.cls=.type "tuple"/\o.data=.seq its n/\its.size<=Pp/\Vals xs its.toList
noncomputable def Lr:Pb->Option V
 |.none=>some .non
 |.bool b=>some (.bl b)
 |.int i _=>some (.int i)
 |.str x _=>some (.str x)
 |.bytes b _=>some (.byt b)
 |.float b _=>some (.flt b)
 |.ref a=>some (.ref a)
 |.type n=>some (.ty n)
 |_=>none
theorem RelV.abs(r:RelV x u):Lr u=some x:=by
 cases x with
 |non=>cases r;rfl
 |bl _=>cases r;rfl
 |int _=>obtain⟨t,rfl⟩:=r;rfl
 |str _=>obtain⟨t,rfl⟩:=r;rfl
 |byt _=>obtain⟨t,rfl⟩:=r;rfl
 |flt _=>obtain⟨t,rfl⟩:=r;rfl
 |ref _=>cases r;rfl
 |ty _=>cases r;rfl
theorem RelV.inj(r:RelV x u)(q:RelV y u):x=y:=Qa (r.abs.symm.trans q.abs)
theorem Vals.inj:∀{xs ys:List V}{us:List Pb},Vals xs us->Vals ys us->xs=ys
 |_,_,_,.nil,.nil=>rfl
 |_,_,_,.cons r t,.cons r' t'=>by rw[r.inj r',Vals.inj t t']
section
variable {X:Cx}{pins:List (Addr×Obj)}{σ:St}{H:Hp}{s:Pf}{a:Addr}{xs ys:List V}
theorem SqL.of{K:Frag}(h:H a=some (.lst xs)):SqL K H a xs:=.inl (.inl h)
theorem SqT.of{K:Frag}(h:H a=some (.tup xs)):SqT K H a xs:=.inl (.inl h)
theorem Inv.list(I:Inv X pins σ H s)(h:SqL X.K H a xs):∃its:List Pb,Vals xs its/\PlainL s.heap a its.toArray/\xs.length<=sizeLine:=by
 rcases h with h|⟨o,its,n,hk,hc,hd,hs,hz,r⟩
 .obtain⟨z,its,n,r,e⟩:=h.ok I.hok
  exact⟨its,r,⟨_,n,e,rfl,rfl,rfl⟩,z⟩
 .refine⟨its.toList,r,⟨o,n,I.kIn a o hk,hc,hd,by simpa using hs⟩,?_⟩
  have e:=r.length;simp only[Q0] at e;omega
theorem Inv.tuple(I:Inv X pins σ H s)(h:SqT X.K H a xs):∃its:List Pb,Vals xs its/\Vm s.heap a its.toArray/\xs.length<=sizeLine:=by
 rcases h with h|⟨o,its,n,hk,hc,hs,hz,r⟩
 .obtain⟨z,its,r,p⟩:=h.ok I.hok
  exact⟨its,r,p,z⟩
 .refine⟨its.toList,r,⟨o,I.kIn a o hk,hc,n,by simpa using hs⟩,?_⟩
  have e:=r.length;simp only[Q0] at e;omega
theorem Inv.list_inj(I:Inv X pins σ H s)(h:SqL X.K H a xs)(h':SqL X.K H a ys):xs=ys:=by
 obtain⟨its,r,⟨o,n,e,_,_,d⟩,_⟩:=I.list h;obtain⟨its',r',⟨o',n',e',_,_,d'⟩,_⟩:=I.list h';rw[e] at e';cases e';rw[d] at d'
 injection d' with d1 _
 have:its=its':=by simpa using congrArg Yh d1
 subst this;exact r.inj r'
theorem Inv.tuple_inj(I:Inv X pins σ H s)(h:SqT X.K H a xs)(h':SqT X.K H a ys):xs=ys:=by
 obtain⟨its,r,⟨o,e,_,n,d⟩,_⟩:=I.tuple h;obtain⟨its',r',⟨o',e',_,n',d'⟩,_⟩:=I.tuple h';rw[e] at e';cases e';rw[d] at d'
 injection d' with d1 _
 have:its=its':=by simpa using congrArg Yh d1
 subst this;exact r.inj r'
end
abbrev Cx.wish(X:Cx)(E:Pb->Pf->Prop):Cx:={ X with xe:=E }
abbrev Cx.nox(X:Cx):Cx:=X.wish fun _ _=>False
theorem Cx.Ok.wish{X:Cx}(ok:X.Ok)(E:Pb->Pf->Prop):(X.wish E).Ok:=⟨ok.mod,ok.kind,ok.glob,ok.blt,ok.above,ok.inj,ok.has,ok.cab,ok.hd,ok.frames,ok.stk,ok.exf,ok.bs,ok.bsz,ok.noex,ok.exfs,ok.funs,ok.frf⟩
theorem Cx.Ok.unwish{X:Cx}{E:Pb->Pf->Prop}(ok:(X.wish E).Ok):X.Ok:=⟨ok.mod,ok.kind,ok.glob,ok.blt,ok.above,ok.inj,ok.has,ok.cab,ok.hd,ok.frames,ok.stk,ok.exf,ok.bs,ok.bsz,ok.noex,ok.exfs,ok.funs,ok.frf⟩
section
variable {X:Cx}{pins:List (Addr×Obj)}{σ:St}{H:Hp}{s:Pf}{E:Pb->Pf->Prop}
theorem Inv.wish(I:Inv X pins σ H s)(E:Pb->Pf->Prop):Inv (X.wish E) pins σ H s:=⟨I.ok.wish E,I.os,I.bare,I.base,I.loc,I.cell,I.free,I.freeC,I.pin,I.hok,I.len⟩
theorem Inv.unwish(I:Inv (X.wish E) pins σ H s):Inv X pins σ H s:=⟨I.ok.unwish,I.os,I.bare,I.base,I.loc,I.cell,I.free,I.freeC,I.pin,I.hok,I.len⟩
theorem SP.unwish(h:SP (X.wish E) pins D f s'):SP X pins D f s':=by
 cases f with
 |next=>obtain⟨σ',H',I,q⟩:=h;exact⟨σ',H',I.unwish,q⟩
 |brk=>obtain⟨σ',H',I,q⟩:=h;exact⟨σ',H',I.unwish,q⟩
 |cont=>obtain⟨σ',H',I,q⟩:=h;exact⟨σ',H',I.unwish,q⟩
 |ret u=>obtain⟨v,σ',H',I,r,q⟩:=h;exact⟨v,σ',H',I.unwish,r,q⟩
theorem PSs.nox{st:List Stmt}{t:TS}(h:PSs X.nox st t):PSs X st t:=fun pins s σ H D I hw=>
 QT (h pins s σ H D (I.wish _) hw) (fun _ _ q=>q.unwish) fun _ _ z=>Qw z
end
section
variable {X:Cx}{st:Stmt}{rest:List Stmt}{t u:TS}{e:Expr}{te:TE}{pos:Pos}
def JJ:TS:=fun D σ H=>D.nx σ H
def tJ(t u:TS):TS:=fun D σ H=>t { D with nx:=u D } σ H
theorem xl:PSs X [] JJ:=fun _ _ σ H _ I h=>Ta ⟨σ,H,I,h⟩
theorem jy(h1:PS X st t)(h2:PSs X rest u):PSs X (st::rest) (tJ t u):=by
 intro pins s σ H D I h;refine SW (thn (h1 pins s σ H { D with nx:=u D } I h) fun f s1 q=>?_)
 cases f with
 |next=>
  obtain⟨σ',H',I',q⟩:=q;exact h2 pins s1 σ' H' D I' q
 |ret v=>exact q
 |brk=>exact q
 |cont=>exact q
theorem rK(h1:PS X st t):PSs X [st] t:=by
 intro pins s σ H D I h;refine SW (thn (h1 pins s σ H D I h) fun f s1 q=>?_)
 cases f with
 |next=>exact Ta q
 |ret v=>exact q
 |brk=>exact q
 |cont=>exact q
theorem Inv.quiet(I:Inv X pins σ H s):interactive X.env=false:=by simp[interactive,I.ok.kind]
def JL(te:TE):TS:=fun D σ H=>te σ H fun _ H1=>D.nx σ H1
theorem rL(he:PE X e te)(hs:QL e none pos.line X.env=pure false:=by rfl):PS X (.Expr e pos) (JL te):=by
 intro pins s σ H D I h;exact wpAny_Expr_any (thn (he pins s σ H _ I h) fun v s1 ⟨x,H1,I1,r1,q1⟩=>⟨σ,H1,I1,q1⟩) I.quiet hs
def K4(te:TE):TS:=fun D σ H=>te σ H D.rt
theorem sA(he:PE X e te):PS X (.Return (some e) pos) (K4 te):=by
 intro pins s σ H D I h;exact wpAny_Return_some (thn (he pins s σ H _ I h) fun v s1 ⟨x,H1,I1,r1,q1⟩=>⟨x,σ,H1,I1,r1,q1⟩)
def K7(c:TT)(t u:TS):TS:=fun D σ H=>c σ H fun b H1=>if b=true then t D σ H1 else u D σ H1
theorem zX(hc:PT X c tc)(ha:PSs X a t)(hb:PSs X b u):PS X (.If c a b pos) (K7 tc t u):=by
 intro pins s σ H D I h;refine wpAny_If (thn (hc pins s σ H _ I h) fun d s1 ⟨H1,I1,q1⟩=>?_)
 cases d with
 |true=>exact ha pins s1 σ H1 D I1 q1
 |false=>exact hb pins s1 σ H1 D I1 q1
end
abbrev TG:=V->St->Hp->(St->Hp->Prop)->Prop
abbrev TGs:=List V->St->Hp->(St->Hp->Prop)->Prop
def PG(X:Cx)(target:Expr)(t:TG):Prop:=
 ∀(pins:List (Addr×Obj)) (s:Pf) (σ:St) (H:Hp) (v:V) (u:Pb) (Q:St->Hp->Prop),Inv X pins σ H s->RelV v u->t v σ H Q ->
  PP (PX X.prog X.w) X.A (TH target X.env u) (fun _ s'=>∃σ' H',Inv X pins σ' H' s'/\Q σ' H') X.xe s
def PGs(X:Cx)(ts:List Expr)(t:TGs):Prop:=
 ∀(pins:List (Addr×Obj)) (s:Pf) (σ:St) (H:Hp) (vs:List V) (us:List Pb) (Q:St->Hp->Prop),Inv X pins σ H s->Vals vs us->t vs σ H Q ->
  PP (PX X.prog X.w) X.A (assignInOrder ((R5 ts X.env).map (·.2)) us) (fun _ s'=>∃σ' H',Inv X pins σ' H' s'/\Q σ' H') X.xe s
abbrev tS:=V->V->V->Hp->(Hp->Prop)->Prop
def Bh(X:Cx)(t:tS):Prop:=
 ∀(pins:List (Addr×Obj)) (s:Pf) (σ:St) (H:Hp) (o i v:V) (ov iv u:Pb) (Q:Hp->Prop),Inv X pins σ H s->RelV o ov->RelV i iv->RelV v u->t o i v H Q ->
  PP (PX X.prog X.w) X.A (Yi ov iv u) (fun _ s'=>∃H',Inv X pins σ H' s'/\Q H') X.xe s
section
variable {X:Cx}{pos:Pos}
def l7(i:Nat):TG:=fun v σ H Q=>Q (σ.set i (some v)) H
theorem fQ(hN:X.N.Nodup)(hi:X.N[i]? = some x)(hx:Loc X.env.scope x)(hf:X.fn x=true\/X.env.scope.names.lookup x=some .local:=by first|exact .inl rfl|exact .inr rfl|assumption):PG X (.Name x pos) (l7 i):=by
 intro pins s σ H v u Q I r h;exact Ud (nq I hN hi hx r (fun s' I'=>⟨_,H,I',h⟩) hf)
def Lk:TGs:=fun vs σ H Q=>vs=[]/\Q σ H
def KE(t:TG)(u:TGs):TGs:=fun vs σ H Q=>∃v r,vs=v::r/\t v σ H fun σ' H'=>u r σ' H' Q
theorem nJ:PGs X [] Lk:=by
 intro pins s σ H vs us Q I r h;obtain⟨e,h⟩:=h;subst e;cases r;exact assignInOrder_nil ⟨σ,H,I,h⟩
theorem gw(h1:PG X e t)(h2:PGs X es u)
  (hs:(R5 (e::es) X.env).map (·.2)=TH e X.env::(R5 es X.env).map (·.2):=by rfl):PGs X (e::es) (KE t u):=by
 intro pins s σ H vs us Q I r h;obtain⟨v,vr,e1,h⟩:=h;subst e1
 cases r with
 |cons r rr=>
  rw[hs];refine assignInOrder_cons (thn (h1 pins s σ H _ _ _ I r h) fun _ s1 ⟨σ1,H1,I1,q1⟩=>?_);exact h2 pins s1 σ1 H1 _ _ Q I1 rr q1
def Li(K:Frag)(n:Nat)(t:TGs):TG:=fun v σ H Q=>∃a xs,v=.ref a/\SqT K H a xs/\xs.length=n/\t xs σ H Q
theorem oH(hc:X.calm=true)(h:PGs X es t)
  (hn:(R5 es X.env).length=n:=by rfl) (hst:(R5 es X.env).findIdx? (·.1)=none:=by rfl):PG X (.Tuple es k pos) (Li X.K n t):=by
 intro pins s σ H v u Q I r hw;obtain⟨a,xs,e1,hq,hl,hw⟩:=hw;subst e1;cases r;obtain⟨its,rv,ht,hz⟩:=I.tuple hq;refine assign_Tuple_tuple (I.ok.hd hc) ht (by simp[hn,←hl,rv.length]) hst fun h' hx=>?_;have I1:Inv X pins σ H { s with heap:=h' }:=I.kept (t':=s.toks) fun b o e=>hx b o (PK (Pn e)) e;exact h pins _ σ H xs _ Q I1 (by simpa using rv) hw
def Lj(to ti:TE)(t:tS):TG:=fun v σ H Q=>to σ H fun o H1=>ti σ H1 fun i H2=>t o i v H2 fun H3=>Q σ H3
theorem H8(ho:PE X o to)(hi:PE X i ti)(hs:Bh X t)
  (ha:∀v,TH (.Subscript o i pos) X.env v=(do
   let ov ←Ue [v] (eval o X.env)
   let iv ←Ue [v,ov] (eval i X.env)
   Yj pos
   Ue [v,ov,iv] (Yi ov iv v)
   release [v,ov,iv] []):=by intro _;rfl):PG X (.Subscript o i pos) (Lj to ti t):=by
 intro pins s σ H v u Q I r h;rw[ha];refine Pd (QJ (thn (ho pins s σ H _ I h) fun ov s1 ⟨x,H1,I1,r1,q1⟩=>?_));refine Pd (QJ (thn (hi pins s1 σ H1 _ I1 q1) fun iv s2 ⟨y,H2,I2,r2,q2⟩=>?_));refine Pd (Uo (Pd (QJ (thn (hs pins s2 σ H2 x y v ov iv u _ I2 r1 r2 r q2) fun _ s3 ⟨H3,I3,q3⟩=>?_))));exact wpAny_release ⟨σ,H3,I3,q3⟩
def mr(te:TE)(g:TG):TS:=fun D σ H=>te σ H fun x H1=>g x σ H1 D.nx
theorem sD(he:PE X e te)(hg:PG X tg g)(hs:Up [tg] e pos.line X.env=pure false:=by rfl)(hw:Uq [tg] e X.env=pure none:=by rfl)
  (h1:(R5 [tg] X.env).map (·.2)=[TH tg X.env]:=by rfl):PS X (.Assign [tg] e pos) (mr te g):=by
 intro pins s σ H D I h;refine wpAny_Assign_stores (thn (he pins s σ H _ I h) fun v s1 ⟨x,H1,I1,r1,q1⟩=>?_) hs hw;rw[h1];exact thn (hg pins s1 σ H1 x v _ I1 r1 q1) fun _ s2 q=>q
theorem eL(hN:X.N.Nodup)(hi:X.N[i]? = some x)(hx:Loc X.env.scope x)(he:PE X e te)(hs:QL e (some (.Name x pos')) pos.line X.env=pure false:=by rfl)(hf:X.fn x=true\/X.env.scope.names.lookup x=some .local:=by first|exact .inl rfl|exact .inr rfl|assumption) :
  PS X (.Assign [.Name x pos'] e pos) (mr te (l7 i)):=by
 intro pins s σ H D I h;refine wpAny_Assign_Name (thn (he pins s σ H _ I h) fun v s1 ⟨y,H1,I1,r1,q1⟩=>?_) hs;exact nq I1 hN hi hx r1 (fun s2 I2=>⟨_,H1,I2,q1⟩) hf
def HI(c:TT)(tb:TS):TS:=fun D σ H=>∃W:Nat->St->Hp->Prop,(∃m,W m σ H)/\∀m σ H,W m σ H ->
 c σ H fun b H1=>if b=true then ∃N:St->Hp->Prop,(∀σ' H',N σ' H'->∃m',m' < m/\W m' σ' H')/\tb { D with nx:=N,ct:=N,bk:=D.nx } σ H1 else D.nx σ H1
theorem Ek(hp:UA (PX X.prog X.w) X.A X.env X.xe)(hc:PT X c tc)(hb:PSs X body tb):PS X (.While c body [] pos) (HI tc tb):=by
 intro pins s σ H D I h;obtain⟨W,⟨m0,w0⟩,turn⟩:=h;refine wpAny_While (codeAny_whileLoop (fun n s'=>∃σ' H',Inv X pins σ' H' s'/\W n σ' H') ?_ m0 ⟨σ,H,I,w0⟩);rintro n s1 ⟨σ1,H1,I1,w1⟩;refine RB hp (thn (hc pins s1 σ1 H1 _ I1 (turn n σ1 H1 w1)) fun b s2 ⟨H2,I2,q2⟩=>?_)
 cases b with
 |true=>
  obtain⟨N,hN,q2⟩:=q2;rw[if_pos rfl];refine RB hp (thn (hb pins s2 σ1 H2 _ I2 q2) fun f s3 q3=>?_)
  cases f with
  |next=>
   obtain⟨σ3,H3,I3,n3⟩:=q3;obtain⟨m',hm,w3⟩:=hN σ3 H3 n3;exact⟨m',hm,σ3,H3,I3,w3⟩
  |cont=>
   obtain⟨σ3,H3,I3,n3⟩:=q3;obtain⟨m',hm,w3⟩:=hN σ3 H3 n3;exact⟨m',hm,σ3,H3,I3,w3⟩
  |brk=>exact q3
  |ret v=>exact q3
 |false=>
  rw[if_neg Pu];exact Ta ⟨σ1,H2,I2,q2⟩
end
structure It where
 go:Nat->Hp->Prop
 yld:Nat->Hp->V->Hp->Prop
 stop:Nat->Hp->Prop
def dA(X:Cx)(pins:List (Addr×Obj))(H:Hp)(b:Addr):Prop:=H b=none/\b≠X.env.locals/\b∉X.fs/\(b∈X.ex\/X.s₀.heap.objs.size<=b)/\(∀x c,X.env.cells.lookup x=some c->c≠b)/\∀p∈X.pn++pins,p.1≠b
theorem Inv.fpOk(I:Inv X pins σ H s)(hb:s.heap.objs.size<=b)(hn:H' b=none):dA X pins H' b:=by
 refine⟨hn,RV (Py I.lt hb),I.nofs hb,.inr (PL I.sz hb),fun x c e z=>?_,fun p hp z=>?_⟩
 .obtain⟨v,q⟩:=I.cell x c e
  exact absurd (Py q.lt (by rw[z];exact hb)) (Qr _)
 .exact absurd (Py (Pn (I.pin p hp).1) (by rw[z];exact hb)) (Qr _)
structure Turn(P:Px)(w:PY)(K:Frag)(tg:Expr)(J:It)(fp:List Addr)(it:Addr)(tn:Nat->Heap->Prop):Prop where
 mem:it∈fp
 obj:∀i h,tn i h->∀b∈fp,∃o,h.get? b=some o/\∀v,o.data≠.cell v
 keep:∀i h h',tn i h->(∀b∈fp,∀o,h.get? b=some o->h'.get? b=some o)->tn i h'
 item:∀(X:Cx),X.prog=P->X.w=w->X.K=K->X.calm=true->∀(i:Nat) (pins:List (Addr×Obj)) (s:Pf) (σ:St) (H:Hp) (E:Pb->Pf->Prop),Inv X pins σ H s->(∀b∈fp,dA X pins H b)->tn i s.heap->J.go i H ->
  PP (PX P w) X.A (Yk (.ref it)) (fun r s1=>∃u,r=some u /\
   PP (PX P w) X.A (Tb tg (.ref it) u) (fun _ s2=>∃x H',Inv X pins σ H' s2/\RelV x u/\J.yld i H x H'/\tn (i+1) s2.heap/\∀b∈fp,H' b=none) E s1) E s
 done:∀(X:Cx),X.prog=P->X.w=w->X.K=K->X.calm=true->∀(i:Nat) (pins:List (Addr×Obj)) (s:Pf) (σ:St) (H:Hp) (E:Pb->Pf->Prop),Inv X pins σ H s->(∀b∈fp,dA X pins H b)->tn i s.heap->J.stop i H ->
  PP (PX P w) X.A (Yk (.ref it)) (fun r s1=>r=none/\Inv X pins σ H s1) E s
 self:∀(A:PZ) (i:Nat) (s:Pf) (Q:Pb->Pf->Prop) (E:Pb->Pf->Prop),tn i s.heap->Q (.ref it) s->PP (PX P w) A (pyIter (.ref it)) Q E s
abbrev TI:=St->Hp->(It->Hp->Prop)->Prop
def PIE(X:Cx)(pins:List (Addr×Obj))(σ:St)(tg:Expr)(R:It->Hp->Prop)(itv:Pb)(s2:Pf):Prop:=∃(it:Addr) (fp:List Addr) (tn:Nat->Heap->Prop) (J:It) (H':Hp),itv=.ref it/\Inv X pins σ H' s2/\Turn X.prog X.w X.K tg J fp it tn/\tn 0 s2.heap/\(∀b∈fp,dA X pins H' b)/\R J H'
def PI(X:Cx)(tg iter:Expr)(wi:TI):Prop:=
 ∀(pins:List (Addr×Obj)) (s:Pf) (σ:St) (H:Hp) (R:It->Hp->Prop),Inv X pins σ H s->wi σ H R ->
  PP (PX X.prog X.w) X.A (eval iter X.env) (fun v s1=>PP (PX X.prog X.w) X.A (pyIter v) (PIE X pins σ tg R) X.xe s1) X.xe s
theorem lZ(ho:s.heap.get? it=some o)(hc:o.cls=.type n)(hd:o.data=.fields vs)
  (hn:["enumerate","zip","dict_itemiterator","dict_reverseitemiterator","odict_iterator","itertools.zip_longest","itertools.pairwise"].contains n=false) (hQ:Q () s):PP M A (Tb tg (.ref it) u) Q E s:=by
 unfold Tb
 cases tg <;> first
  |exact Pw hQ
  | (cases u <;> first
    |exact Pw hQ
    | (refine Pd (wpAny_load ho ?_)
       rw[hc,hd];show PP M A (if (["enumerate","zip","dict_itemiterator","dict_reverseitemiterator","odict_iterator","itertools.zip_longest","itertools.pairwise"].contains n&&vs[0]? == some (TJ _))=true then _ else _) Q E s;rw[if_neg (by intro h;rw[hn,W6] at h;cases h)]
       exact Pw hQ))
def Itl(K:Frag)(a:Addr):It:=⟨fun i H=>∃xs x,SqL K H a xs/\xs[i]? = some x,fun i H x H'=>H'=H/\∀xs,SqL K H a xs->xs[i]? = some x,fun i H=>∃xs,SqL K H a xs/\xs.length<=i⟩
def Itt(K:Frag)(a:Addr):It:=⟨fun i H=>∃xs x,SqT K H a xs/\xs[i]? = some x,fun i H x H'=>H'=H/\∀xs,SqT K H a xs->xs[i]? = some x,fun i H=>∃xs,SqT K H a xs/\xs.length<=i⟩
def Itr(lo:Int)(n:Nat):It:=⟨fun i _=>i<n,fun i H x H'=>H'=H/\x=.int (lo+i),fun i _=>n<=i⟩
theorem CP{P:Px}{w:PY}{K:Frag}{tg:Expr}(a it:Addr):Turn P w K tg (Itl K a) [it] it (fun i h=>h.IsListIter it a i) where
 mem:=by simp
 obj:=fun i h st b hb=>by
  have e:b=it:=by simpa using hb
  subst e;obtain⟨o,e,c,d⟩:=st;exact⟨o,e,fun v z=>by rw[d] at z;cases z⟩
 keep:=fun i h h' st k=>st.at fun o e=>k it (by simp) o e
 item:=by
  intro X hP hw hK hc i pins s σ H E I hf st hg;subst hP hw hK;obtain⟨xs,x,hq,hx⟩:=hg;obtain⟨its,rv,p,hz⟩:=I.list hq;obtain⟨u,hu,ru⟩:=rv.get hx;obtain⟨f0,f1,f2,f3,f4,f5⟩:=hf it (by simp);refine US st p.isList (x:=u) (by simpa using hu) fun h' st' sb=>?_;have I1:Inv X pins σ H { s with heap:=h' }:=I.turned (t':=s.toks) (fun b o hb e=>(sb.2 b hb).trans e) f0 f1 f3 f4 f5;obtain⟨o,e,c,d⟩:=id st';exact⟨u,rfl,lZ (s:={ s with heap:=h' }) e c d (by decide) ⟨x,H,I1,ru,⟨rfl,fun ys hy=>by rw[I.list_inj hy hq];exact hx⟩,st',fun b hb=>(hf b hb).1⟩⟩
 done:=by
  intro X hP hw hK hc i pins s σ H E I hf st hg;subst hP hw hK;obtain⟨xs,hq,hx⟩:=hg;obtain⟨its,rv,p,hz⟩:=I.list hq;obtain⟨f0,f1,f2,f3,f4,f5⟩:=hf it (by simp);have hl:=rv.length;exact Vh (I.ok.hd hc) st p.isList (by simp;omega) fun h' eb=>⟨rfl,I.turned (t':=s.toks) (fun b o hb e=>eb b o hb e) f0 f1 f3 f4 f5⟩
 self:=fun _ _ _ _ _ st h=>wpAny_pyIter_listiter st h
theorem Ci{P:Px}{w:PY}{K:Frag}{tg:Expr}(a it:Addr):Turn P w K tg (Itt K a) [it] it (fun i h=>h.IsTupleIter it a i) where
 mem:=by simp
 obj:=fun i h st b hb=>by
  have e:b=it:=by simpa using hb
  subst e;obtain⟨o,e,c,d⟩:=st;exact⟨o,e,fun v z=>by rw[d] at z;cases z⟩
 keep:=fun i h h' st k=>st.at fun o e=>k it (by simp) o e
 item:=by
  intro X hP hw hK hc i pins s σ H E I hf st hg;subst hP hw hK;obtain⟨xs,x,hq,hx⟩:=hg;obtain⟨its,rv,p,hz⟩:=I.tuple hq;obtain⟨u,hu,ru⟩:=rv.get hx;obtain⟨f0,f1,f2,f3,f4,f5⟩:=hf it (by simp);refine wpAny_pyNext_tuple_item st (show s.heap.IsTuple a its.toArray from p) (x:=u) (by simpa using hu) fun h' st' sb=>?_;have I1:Inv X pins σ H { s with heap:=h' }:=I.turned (t':=s.toks) (fun b o hb e=>(sb.2 b hb).trans e) f0 f1 f3 f4 f5;obtain⟨o,e,c,d⟩:=id st';exact⟨u,rfl,lZ (s:={ s with heap:=h' }) e c d (by decide) ⟨x,H,I1,ru,⟨rfl,fun ys hy=>by rw[I.tuple_inj hy hq];exact hx⟩,st',fun b hb=>(hf b hb).1⟩⟩
 done:=by
  intro X hP hw hK hc i pins s σ H E I hf st hg;subst hP hw hK;obtain⟨xs,hq,hx⟩:=hg;obtain⟨its,rv,p,hz⟩:=I.tuple hq;obtain⟨f0,f1,f2,f3,f4,f5⟩:=hf it (by simp);have hl:=rv.length;exact wpAny_pyNext_tuple_end (I.ok.hd hc) st (show s.heap.IsTuple a its.toArray from p) (by simp;omega) fun h' eb=>⟨rfl,I.turned (t':=s.toks) (fun b o hb e=>eb b o hb e) f0 f1 f3 f4 f5⟩
 self:=fun _ _ _ _ _ st h=>wpAny_pyIter_tupleiter st h
theorem Cj{P:Px}{w:PY}{K:Frag}{tg:Expr}(it:Addr)(lo:Int)(n:Nat):Turn P w K tg (Itr lo n) [it] it (fun i h=>IsRangeIter h it (lo+(i:Nat)*1) ((n:Int)-(i:Nat)) 1) where
 mem:=by simp
 obj:=fun i h st b hb=>by
  have e:b=it:=by simpa using hb
  subst e
  exact⟨_,st,fun v z=>by
   have z':WG _=X7 v:=z
   cases z'⟩
 keep:=fun i h h' st k=>k it (by simp) _ st
 item:=by
  intro X hP hw hK hc i pins s σ H E I hf st hg;subst hP hw hK;obtain⟨f0,f1,f2,f3,f4,f5⟩:=hf it (by simp);have W:=Walks.range (prog:=X.prog) (w:=X.w) (I.ok.hd hc) it lo 1 n;refine W.item i s _ _ hg st fun v h' tk hv st' kk=>?_;obtain⟨t,rfl⟩:=hv;have I1:Inv X pins σ H { s with heap:=h',toks:=tk }:=I.turned (fun b o hb e=>kk b o (by simpa using hb) e) f0 f1 f3 f4 f5;refine⟨_,rfl,lZ (s:={ s with heap:=h',toks:=tk }) (n:="range_iterator") st' rfl rfl (by decide) ⟨.int (lo+i),H,I1,⟨t,?_⟩,⟨rfl,rfl⟩,st',fun b hb=>(hf b hb).1⟩⟩;rw[Int.mul_one]
 done:=by
  intro X hP hw hK hc i pins s σ H E I hf st hg;subst hP hw hK;obtain⟨f0,f1,f2,f3,f4,f5⟩:=hf it (by simp);exact wpAny_pyNext_range_end (I.ok.hd hc) st (by have:n<=i:=hg;omega) fun h' eb=>⟨rfl,I.turned (t':=s.toks) (fun b o hb e=>eb b o hb e) f0 f1 f3 f4 f5⟩
 self:=fun _ _ _ _ _ st h=>wpAny_pyIter_rangeiter st h
section
variable {X:Cx}{tg:Expr}
theorem Ee{pins:List (Addr×Obj)}{σ:St}{H:Hp}{s:Pf}{R:It->Hp->Prop}{E:Pb->Pf->Prop}{lo hi:Int}{t u v:Tok}{tk:Nat}(I:Inv X pins σ H s)(h1 : -(2^62)<=lo)(h2:lo<2^62)(h3 : -(2^62)<=hi)(h4:hi<2^62)
  (q:R (Itr lo (hi-lo).toNat) H):PP (PX X.prog X.w) X.A (pyIter (.ref s.heap.objs.size)) (PIE X pins σ tg R) E { s with heap:=s.heap.push { cls:=.type "range",data:=.fields #[.int lo t,.int hi u,.int 1 v] },toks:=tk }:=by
 refine wpAny_pyIter_range (IsRange.new ..) (small_one h1 h2 h3 h4) ?_;have I1:Inv X pins σ H { s with heap:=s.heap.push { cls:=.type "range",data:=.fields #[.int lo t,.int hi u,.int 1 v] },toks:=tk }:=I.kept fun b o e=>Pe _ e
 refine⟨(s.heap.push { cls:=.type "range",data:=.fields #[.int lo t,.int hi u,.int 1 v] }).objs.size,[(s.heap.push { cls:=.type "range",data:=.fields #[.int lo t,.int hi u,.int 1 v] }).objs.size],_,_,H,rfl,
  I1.kept (t':=tk) fun b o e=>Pe _ e,Cj _ lo (hi-lo).toNat,?_,fun b hb=>?_,q⟩
 .have e1:lo+((0:Nat):Int)*1=lo:=by simp
  have e2:(((hi-lo).toNat:Nat):Int)-((0:Nat):Int)=X8 lo hi 1:=by rw[rangeSize_one];split <;> omega
  show IsRangeIter _ _ (lo+((0:Nat):Int)*1) ((((hi-lo).toNat:Nat):Int)-((0:Nat):Int)) 1;rw[e1,e2];exact PM _ rfl
 .have e:b=(s.heap.push { cls:=.type "range",data:=.fields #[.int lo t,.int hi u,.int 1 v] }).objs.size:=by simpa using hb
  subst e;exact I1.fpOk (Pm _) (I1.hok.fresh (Pm _))
def Kx(ta:TA):TI:=fun σ H R=>ta σ H fun vs H1=>∃j:Int,vs=[.int j]/\-(2^62)<=j/\j<2^62/\R (Itr 0 j.toNat) H1
theorem CY(hg:Gl X "range")(hm:X.mg "range"=none)(ha:PA X [a] ta)(hs:Pk [a] X.env=[(false,eval a X.env)]:=by rfl):PI X tg (.Call (.Name "range" p) [a] [] pos) (Kx ta):=by
 intro pins s σ H R I h;refine Call_ (jP I hg hm boot_range (R3 (thn (ha pos pins s σ H _ I h) fun us s1 ⟨vs,H1,I1,r1,q1⟩=>?_) hs rfl));obtain⟨j,e,q1,q2,q⟩:=q1;subst e
 cases r1 with
 |cons r rr=>
  cases rr;obtain⟨t,rfl⟩:=r;exact call_range_1 (Ee I1 (by omega) (by omega) q1 q2 (by simpa using q))
def K8(wi:TI)(g:TG)(tb:TS):TS:=fun D σ H=>wi σ H fun J H1=>∃W:Nat->Nat->St->Hp->Prop,(∃m,W 0 m σ H1)/\∀i m σ H,W i m σ H ->
 (J.stop i H/\D.nx σ H)\/(J.go i H/\∃N:St->Hp->Prop,(∀σ' H',N σ' H'->∃m',m' < m/\W (i+1) m' σ' H')/\∀x H',J.yld i H x H'->g x σ H' fun σ2 H2=>tb { D with nx:=N,ct:=N,bk:=D.nx } σ2 H2)
def g9(fp:List Addr)(h:Heap):List (Addr×Obj):=fp.filterMap fun b=>(h.get? b).map fun o=>(b,o)
theorem mK(hb:b∈fp)(e:h.get? b=some o):(b,o)∈g9 fp h:=TK.mpr ⟨b,hb,by rw[e];rfl⟩
theorem C3(hp:p∈g9 fp h):p.1∈fp/\h.get? p.1=some p.2:=by
 obtain⟨b,hb,e⟩:=TK.mp hp
 cases q:h.get? b with
 |none=>rw[q] at e;cases e
 |some o=>
  rw[q] at e;have e':(b,o)=p:=Qa e;subst e';exact⟨hb,q⟩
theorem Inv.pinned(I:Inv X pins σ H s)(hf:∀b∈fp,dA X pins H b)(ho:∀b∈fp,∃o,s.heap.get? b=some o/\∀v,o.data≠.cell v):Inv X (pins++g9 fp s.heap) σ H s:=
 I.pins_of fun p hp=>(PD.mp hp).elim (fun z=>I.pin p (P5 _ z)) fun z=>by
  obtain⟨hb,e⟩:=C3 z;obtain⟨f0,f1,f2,_⟩:=hf p.1 hb;obtain⟨o,e',d⟩:=ho p.1 hb;rw[e] at e';cases e';exact⟨e,f0,f1,f2,d⟩
theorem Inv.unpinned(I:Inv X (pins++pl) σ H s):Inv X pins σ H s:=I.pins_of fun p hp=>I.pin p (P5 _ (QG _ hp))
theorem sC(hp:UA (PX X.prog X.w) X.A X.env X.xe)(hc:X.calm=true)(hi:PI X tg iter wi)(hg:PG X tg g)(hb:PSs X body tb)
  (hs:∀x,Qj iter X.env x=pure x:=by intro _;rfl):PS X (.For tg iter body [] pos) (K8 wi g tb):=by
 intro pins s σ H D I h;refine wpAny_For (thn (hi pins s σ H _ I h) fun v s1 h1=>thn h1 fun itv s2 h2=>?_) hs;obtain⟨it,fp,tn,J,H2,e,I2,T,st2,f2,W,⟨m0,w0⟩,turn⟩:=h2;subst e;have stat:∀{H':Hp},(∀b∈fp,H' b=none)->∀b∈fp,dA X pins H' b:=fun hn b hb=>⟨hn b hb,(f2 b hb).2⟩;refine codeAny_forLoop_any (fun n s'=>∃i σ' H',Inv X pins σ' H' s'/\tn i s'.heap/\(∀b∈fp,H' b=none)/\W i n σ' H') ?_ m0 ⟨0,σ,H2,I2,st2,fun b hb=>(f2 b hb).1,w0⟩;rintro n s3 ⟨i,σ3,H3,I3,st3,fr3,w3⟩
 rcases turn i n σ3 H3 w3 with⟨stop,qn⟩|⟨go,N,hN,step⟩
 .refine RB hp (thn (T.done X rfl rfl rfl hc i pins s3 σ3 H3 X.xe I3 (stat fr3) st3 stop) fun r s4 ⟨hr,I4⟩=>?_)
  subst hr;exact Ta ⟨σ3,H3,I4,qn⟩
 .refine RB hp (thn (T.item X rfl rfl rfl hc i pins s3 σ3 H3 X.xe I3 (stat fr3) st3 go) fun r s4 ⟨u,hr,h4⟩=>?_)
  subst hr;refine RB hp (thn h4 fun _ s5 ⟨x,H5,I5,r5,y5,st5,fr5⟩=>?_);have I5':=I5.pinned (stat fr5) (T.obj _ _ st5);refine RB hp (thn (hg _ s5 σ3 H5 x u _ I5' r5 (step x H5 y5)) fun _ s6 ⟨σ6,H6,I6,q6⟩=>?_);refine RB hp (thn (hb _ s6 σ6 H6 _ I6 q6) fun f s7 q7=>?_)
  have again:∀{σ7:St}{H7:Hp},Inv X (pins++g9 fp s5.heap) σ7 H7 s7->N σ7 H7->∃m,m<n/\∃i σ' H',Inv X pins σ' H' s7/\tn i s7.heap/\(∀b∈fp,H' b=none)/\W i m σ' H':=fun {σ7 H7} I7 n7=>by
   obtain⟨m',hm,w7⟩:=hN σ7 H7 n7;refine⟨m',hm,i+1,σ7,H7,I7.unpinned,T.keep _ _ _ st5 fun b hb o e=>(I7.pin (b,o) (P5 _ (P5 _ (mK hb e)))).1,fun b hb=>?_,w7⟩;obtain⟨o,e,d⟩:=T.obj _ _ st5 b hb;exact(I7.pin (b,o) (P5 _ (P5 _ (mK hb e)))).2.1
  cases f with
  |next=>obtain⟨σ7,H7,I7,n7⟩:=q7;exact again I7 n7
  |cont=>obtain⟨σ7,H7,I7,n7⟩:=q7;exact again I7 n7
  |brk=>obtain⟨σ7,H7,I7,q7⟩:=q7;exact⟨σ7,H7,I7.unpinned,q7⟩
  |ret v=>obtain⟨x7,σ7,H7,I7,r7,q7⟩:=q7;exact⟨x7,σ7,H7,I7.unpinned,r7,q7⟩
end
abbrev R2:=V->V->Hp->VK->Prop
def OpR(X:Cx)(f:Pb->Pb->Sem Pb)(r:R2):Prop:=
 ∀(pins:List (Addr×Obj)) (s:Pf) (σ:St) (H:Hp) (x y:V) (v u:Pb) (Q:VK),Inv X pins σ H s->RelV x v->RelV y u->r x y H Q ->
  PP (PX X.prog X.w) X.A (f v u) (EP X pins σ Q) X.xe s
def UnR(X:Cx)(f:Pb->Sem Pb)(r:V->Hp->VK->Prop):Prop:=
 ∀(pins:List (Addr×Obj)) (s:Pf) (σ:St) (H:Hp) (x:V) (v:Pb) (Q:VK),Inv X pins σ H s->RelV x v->r x H Q ->
  PP (PX X.prog X.w) X.A (f v) (EP X pins σ Q) X.xe s
def CallR(X:Cx)(f:Pb)(r:List V->Hp->VK->Prop):Prop:=
 ∀(pins:List (Addr×Obj)) (s:Pf) (σ:St) (H:Hp) (xs:List V) (us:List Pb) (Q:VK),Inv X pins σ H s->Vals xs us->r xs H Q ->
  PP (PX X.prog X.w) X.A (call f us) (EP X pins σ Q) X.xe s
def Ls(X:Cx)(r:V->Hp->(Bool->Hp->Prop)->Prop):Prop:=
 ∀(pins:List (Addr×Obj)) (s:Pf) (σ:St) (H:Hp) (x:V) (v:Pb) (Q:Bool->Hp->Prop),Inv X pins σ H s->RelV x v->r x H Q ->
  PP (PX X.prog X.w) X.A (truthy v) (TP X pins σ Q) X.xe s
def tOp(r:R2)(ta tb:TE):TE:=fun σ H Q=>ta σ H fun x H1=>tb σ H1 fun y H2=>r x y H2 Q
def tUn(r:V->Hp->VK->Prop)(ta:TE):TE:=fun σ H Q=>ta σ H fun x H1=>r x H1 Q
def rI(C:Int->Int->Prop)(g:Int->Int->V):R2:=fun x y H Q=>∃i j,x=.int i/\y=.int j/\C i j/\Q (g i j) H
def rI0(g:Int->Int->V):R2:=fun x y H Q=>∃i j,x=.int i/\y=.int j/\Q (g i j) H
def rU(g:Int->V):V->Hp->VK->Prop:=fun x H Q=>∃i,x=.int i/\Q (g i) H
section
variable {X:Cx}{a b c:Expr}{ta tb tc:TE}{pos:Pos}
theorem tP(ha:PE X a ta)(hb:PE X b tb){R:V->V->Hp->Prop}(I:Inv X pins σ H s)
  (h:ta σ H fun x H1=>tb σ H1 fun y H2=>R x y H2) {Q:Pb->Pf->Prop}{f:Pb->Pb->Sem Pb}
  (hf:∀v u s2 x y H2,Inv X pins σ H2 s2->RelV x v->RelV y u->R x y H2->PP (PX X.prog X.w) X.A (f v u) Q X.xe s2) :
  PP (PX X.prog X.w) X.A (eval a X.env) (fun v s₁=>PP (PX X.prog X.w) X.A (eval b X.env) (fun u s₂=>PP (PX X.prog X.w) X.A (f v u) Q X.xe s₂) X.xe s₁) X.xe s:=by
 refine thn (ha pins s σ H _ I h) fun v s1 ⟨x,H1,I1,r1,q1⟩=>?_;refine thn (hb pins s1 σ H1 _ I1 q1) fun u s2 ⟨y,H2,I2,r2,q2⟩=>?_;exact hf v u s2 x y H2 I2 r1 r2 q2
theorem zY(ho:OpR X (QU op) r)(ha:PE X a ta)(hb:PE X b tb):PE X (.BinOp a op b pos) (tOp r ta tb):=by
 intro pins s σ H Q I h;exact wpAny_BinOp (tP ha hb I h fun v u s2 x y H2 I2 rx ry q=>ho pins s2 σ H2 x y v u Q I2 rx ry q)
theorem JV(ho:UnR X (unaryOp op) r)(ha:PE X a ta):PE X (.UnaryOp op a pos) (tUn r ta):=by
 intro pins s σ H Q I h;exact UnaryOp_ (thn (ha pins s σ H _ I h) fun v s1 ⟨x,H1,I1,r1,q1⟩=>ho pins s1 σ H1 x v Q I1 r1 q1)
theorem opI{f:Pb->Pb->Sem Pb}{C:Int->Int->Prop}{g:Int->Int->Int}
  (rule:∀(i j:Int) (t u:Tok) (s:Pf) (Q:Pb->Pf->Prop) (E:Pb->Pf->Prop),C i j->Q (.int (g i j) s.toks) { s with toks:=s.toks+1 }->PP (PX X.prog X.w) X.A (f (.int i t) (.int j u)) Q E s) :
  OpR X f (rI C fun i j=>.int (g i j)):=by
 intro pins s σ H x y v u Q I rx ry h;obtain⟨i,j,rfl,rfl,hc,q⟩:=h;obtain⟨t,rfl⟩:=rx;obtain⟨t',rfl⟩:=ry;exact rule i j t t' s _ _ hc ⟨.int (g i j),H,I.tok _,⟨_,rfl⟩,q⟩
theorem AN{f:Pb->Pb->Sem Pb}{g:Int->Int->Int}
  (rule:∀(i j:Int) (t u:Tok) (s:Pf) (Q:Pb->Pf->Prop) (E:Pb->Pf->Prop),Q (.int (g i j) s.toks) { s with toks:=s.toks+1 }->PP (PX X.prog X.w) X.A (f (.int i t) (.int j u)) Q E s) :
  OpR X f (rI0 fun i j=>.int (g i j)):=by
 intro pins s σ H x y v u Q I rx ry h;obtain⟨i,j,rfl,rfl,q⟩:=h;obtain⟨t,rfl⟩:=rx;obtain⟨t',rfl⟩:=ry;exact rule i j t t' s _ _ ⟨.int (g i j),H,I.tok _,⟨_,rfl⟩,q⟩
theorem qe{f:Pb->Pb->Sem Pb}{g:Int->Int->Bool}
  (rule:∀(i j:Int) (t u:Tok) (s:Pf) (Q:Pb->Pf->Prop) (E:Pb->Pf->Prop),Q (.bool (g i j)) s->PP (PX X.prog X.w) X.A (f (.int i t) (.int j u)) Q E s) :
  OpR X f (rI0 fun i j=>.bl (g i j)):=by
 intro pins s σ H x y v u Q I rx ry h;obtain⟨i,j,rfl,rfl,q⟩:=h;obtain⟨t,rfl⟩:=rx;obtain⟨t',rfl⟩:=ry;exact rule i j t t' s _ _ ⟨.bl (g i j),H,I,rfl,q⟩
def Lv(i j:Int):Prop:=0<=j/\j<=1000000/\i.natAbs<2^64
def CMul(i j:Int):Prop:=(-(2^64)<i/\i<2^64)\/(-(2^64)<j/\j<2^64)
theorem CMul.ok(h:CMul i j):IntMulOk i j:=by
 rcases h with⟨h1,h2⟩|⟨h1,h2⟩
 .exact .of_left (intBits_le_64 h1 h2)
 .exact .of_right (intBits_le_64 h1 h2)
theorem op_add:OpR X (QU .Add) (rI0 fun i j=>.int (i+j)):=AN fun _ _ _ _ _ _ _ q=>add_int q
theorem Ig:OpR X (QU .Sub) (rI0 fun i j=>.int (i-j)):=AN fun _ _ _ _ _ _ _ q=>sub_int q
theorem op_mul:OpR X (QU .Mult) (rI CMul fun i j=>.int (i*j)):=opI fun _ _ _ _ _ _ _ hc q=>mul_int q hc.ok
theorem Ij:OpR X (QU .Mod) (rI (fun _ j=>0<j) fun i j=>.int (i % j)):=opI fun i j _ _ _ _ _ hc q=>by
 have h1:(0:Int)<j:=hc;exact mod_int' (by omega) (by rw[Int.fmod_eq_emod_of_nonneg i (by omega)];exact q)
theorem Ih:OpR X (QU .Pow) (rI Lv fun i j=>.int (i^j.toNat)):=opI fun _ _ _ _ _ _ _ hc q=>pow_int_small hc.1 hc.2.1 hc.2.2 q
theorem unI{f:Pb->Sem Pb}{g:Int->Int}
  (rule:∀(i:Int) (t:Tok) (s:Pf) (Q:Pb->Pf->Prop) (E:Pb->Pf->Prop),Q (.int (g i) s.toks) { s with toks:=s.toks+1 }->PP (PX X.prog X.w) X.A (f (.int i t)) Q E s) :
  UnR X f (rU fun i=>.int (g i)):=by
 intro pins s σ H x v Q I rx h;obtain⟨i,rfl,q⟩:=h;obtain⟨t,rfl⟩:=rx;exact rule i t s _ _ ⟨.int (g i),H,I.tok _,⟨_,rfl⟩,q⟩
theorem HA:UnR X (unaryOp .USub) (rU fun i=>.int (-i)):=unI fun _ _ _ _ _ q=>neg_int q
end
def tL:V->V->Bool
 |.non,.non=>true | .non,.int _=>true | .int _,.non=>true | .non,.bl _=>true | .bl _,.non=>true | .non,.str _=>true | .str _,.non=>true
 |.int _,.int _=>true | .bl _,.bl _=>true | .str _,.str _=>true | .byt _,.byt _=>true
 |.int _,.str _=>true | .str _,.int _=>true | .bl _,.str _=>true | .str _,.bl _=>true
 |_,_=>false
def rEq:R2:=fun x y H Q=>tL x y=true/\Q (.bl (decide (x=y))) H
def rNe:R2:=fun x y H Q=>tL x y=true/\Q (.bl (!decide (x=y))) H
theorem yl:decide (V.int i=V.int j)=(i == j):=by
 rw[Rh];simp
theorem zA:decide (V.bl i=V.bl j)=(i == j):=by
 rw[Rh];simp
theorem yk:decide (V.str i=V.str j)=(i == j):=by
 rw[Rh];simp
theorem ym:decide (V.byt i=V.byt j)=(i.toList == j.toList):=by
 rw[Rh];cases i;cases j;simp
section
variable {X:Cx}{a b c:Expr}{ta tb tc:TE}{pos:Pos}
theorem bB(I:Inv X pins σ H s)(q:Q (.bl k) H)(e:k=k'):EP X pins σ Q (.bool k') s:=by
 subst e;exact⟨.bl k,H,I,rfl,q⟩
theorem J9:OpR X (PU .Eq) rEq:=by
 intro pins s σ H x y v u Q I rx ry h;obtain⟨hs,q⟩:=h
 cases x with
 |non=>
  cases rx
  cases y with
  |non=>cases ry;exact Xp (bB I q (by simp))
  |bl j=>cases ry;exact Xq (bB I q (by simp))
  |int j=>obtain⟨t',rfl⟩:=ry;exact XD (bB I q (by simp))
  |str j=>obtain⟨t',rfl⟩:=ry;exact XF (bB I q (by simp))
  |_=>exact absurd (show false=true from hs) Pu
 |bl i=>
  cases rx
  cases y with
  |non=>cases ry;exact Xr (bB I q (by simp))
  |bl j=>cases ry;exact eq_bool (bB I q zA)
  |str j=>obtain⟨t',rfl⟩:=ry;exact Xs (bB I q (by simp))
  |_=>exact absurd (show false=true from hs) Pu
 |int i=>
  obtain⟨t,rfl⟩:=rx
  cases y with
  |non=>cases ry;exact XG (bB I q (by simp))
  |int j=>obtain⟨t',rfl⟩:=ry;exact eq_int (bB I q yl)
  |str j=>obtain⟨t',rfl⟩:=ry;exact XH (bB I q (by simp))
  |_=>exact absurd (show false=true from hs) Pu
 |str i=>
  obtain⟨t,rfl⟩:=rx
  cases y with
  |non=>cases ry;exact XI (bB I q (by simp))
  |bl j=>cases ry;exact Xt (bB I q (by simp))
  |int j=>obtain⟨t',rfl⟩:=ry;exact XM (bB I q (by simp))
  |str j=>obtain⟨t',rfl⟩:=ry;exact eq_str (bB I q yk)
  |_=>exact absurd (show false=true from hs) Pu
 |byt i=>
  obtain⟨t,rfl⟩:=rx
  cases y with
  |byt j=>obtain⟨t',rfl⟩:=ry;exact PySem.W.eq_bytes (bB I q ym)
  |_=>exact absurd (show false=true from hs) Pu
 |_=>cases y <;> exact absurd (show false=true from hs) Pu
theorem J2:OpR X (PU .NotEq) rNe:=by
 intro pins s σ H x y v u Q I rx ry h;obtain⟨hs,q⟩:=h
 cases x with
 |non=>
  cases rx
  cases y with
  |non=>cases ry;exact Xu (bB I q (by simp))
  |bl j=>cases ry;exact Xv (bB I q (by simp))
  |int j=>obtain⟨t',rfl⟩:=ry;exact XN (bB I q (by simp))
  |str j=>obtain⟨t',rfl⟩:=ry;exact XQ (bB I q (by simp))
  |_=>exact absurd (show false=true from hs) Pu
 |bl i=>
  cases rx
  cases y with
  |non=>cases ry;exact Xw (bB I q (by simp))
  |bl j=>cases ry;exact ne_bool (bB I q (congrArg not zA))
  |str j=>obtain⟨t',rfl⟩:=ry;exact Xx (bB I q (by simp))
  |_=>exact absurd (show false=true from hs) Pu
 |int i=>
  obtain⟨t,rfl⟩:=rx
  cases y with
  |non=>cases ry;exact XS (bB I q (by simp))
  |int j=>obtain⟨t',rfl⟩:=ry;exact ne_int (bB I q (congrArg not yl))
  |str j=>obtain⟨t',rfl⟩:=ry;exact XT (bB I q (by simp))
  |_=>exact absurd (show false=true from hs) Pu
 |str i=>
  obtain⟨t,rfl⟩:=rx
  cases y with
  |non=>cases ry;exact XU (bB I q (by simp))
  |bl j=>cases ry;exact Xy (bB I q (by simp))
  |int j=>obtain⟨t',rfl⟩:=ry;exact XW (bB I q (by simp))
  |str j=>obtain⟨t',rfl⟩:=ry;exact ne_str (bB I q (congrArg not yk))
  |_=>exact absurd (show false=true from hs) Pu
 |byt i=>
  obtain⟨t,rfl⟩:=rx
  cases y with
  |byt j=>obtain⟨t',rfl⟩:=ry;exact PySem.W.ne_bytes (bB I q (congrArg not ym))
  |_=>exact absurd (show false=true from hs) Pu
 |_=>cases y <;> exact absurd (show false=true from hs) Pu
theorem J3:OpR X (PU .Lt) (rI0 fun i j=>.bl (decide (i<j))):=qe fun _ _ _ _ _ _ _ q=>lt_int q
theorem J4:OpR X (PU .LtE) (rI0 fun i j=>.bl (decide (i<=j))):=qe fun _ _ _ _ _ _ _ q=>le_int q
theorem J7:OpR X (PU .Gt) (rI0 fun i j=>.bl (decide (j<i))):=qe fun _ _ _ _ _ _ _ q=>gt_int q
theorem J8:OpR X (PU .GtE) (rI0 fun i j=>.bl (decide (j<=i))):=qe fun _ _ _ _ _ _ _ q=>ge_int q
theorem op_in_str:OpR X (PU .In) (fun x y H Q=>∃i j,x=.str i/\y=.str j/\Q (.bl (!(Sx j i 0 j.length 1).isEmpty)) H):=by
 intro pins s σ H x y v u Q I rx ry h;obtain⟨i,j,rfl,rfl,q⟩:=h;obtain⟨t,rfl⟩:=rx;obtain⟨t',rfl⟩:=ry;exact in_str (bB I q rfl)
theorem Ik:OpR X (PU .Is) (fun x y H Q=>y=.non/\Q (.bl (decide (x=.non))) H):=by
 intro pins s σ H x y v u Q I rx ry h;obtain⟨rfl,q⟩:=h;cases ry;refine is_none_gen (bB I q ?_)
 cases x <;> first
  |(cases rx;rfl)
  |(obtain⟨t,rfl⟩:=rx;rfl)
theorem op_notN:OpR X (PU .IsNot) (fun x y H Q=>y=.non/\Q (.bl (!decide (x=.non))) H):=by
 intro pins s σ H x y v u Q I rx ry h;obtain⟨rfl,q⟩:=h;cases ry;refine isnot_none_gen (bB I q ?_)
 cases x <;> first
  |(cases rx;rfl)
  |(obtain⟨t,rfl⟩:=rx;rfl)
theorem op_notin_str:OpR X (PU .NotIn) (fun x y H Q=>∃i j,x=.str i/\y=.str j/\Q (.bl (!(!(Sx j i 0 j.length 1).isEmpty))) H):=by
 intro pins s σ H x y v u Q I rx ry h;obtain⟨i,j,rfl,rfl,q⟩:=h;obtain⟨t,rfl⟩:=rx;obtain⟨t',rfl⟩:=ry;exact notIn_str (bB I q rfl)
theorem OpR.or(h:OpR X f r)(h':OpR X f r'):OpR X f (fun x y H Q=>r x y H Q\/r' x y H Q):=by
 intro pins s σ H x y v u Q I rx ry q
 rcases q with q|q
 .exact h pins s σ H x y v u Q I rx ry q
 .exact h' pins s σ H x y v u Q I rx ry q
theorem yT(b:Expr)(h:op≠.In:=by decide)(h2:op≠.NotIn:=by decide):Sg op b=false:=by
 have e1:(op == CmpOp.In)=false:=by cases op <;> first|rfl|exact absurd rfl h
 have e2:(op == CmpOp.NotIn)=false:=by cases op <;> first|rfl|exact absurd rfl h2
 cases b <;> simp[Sg,e1,e2]
theorem Gb(ho:OpR X (PU op) r)(ha:PE X a ta)(hb:PE X b tb)(hm:Sg op b=false):PE X (.Compare a [op] [b] pos) (tOp r ta tb):=by
 intro pins s σ H Q I h;exact wpAny_Compare1 (tP ha hb I h fun v u s2 x y H2 I2 rx ry q=>ho pins s2 σ H2 x y v u Q I2 rx ry q) hm
def zP(t:TE):TT:=fun σ H Q=>t σ H fun x H'=>∃k,x=.bl k/\Q k H'
theorem F1(ho:OpR X (PU op) r)(ha:PE X a ta)(hb:PE X b tb)(hm:Sg op b=false):PT X (.Compare a [op] [b] pos) (zP (tOp r ta tb)):=by
 intro pins s σ H Q I h
 refine wpAny_isTrue_Compare1 (thn (ha pins s σ H _ I h) fun v s1 ⟨x,H1,I1,r1,q1⟩=>thn (hb pins s1 σ H1 _ I1 q1) fun u s2 ⟨y,H2,I2,r2,q2⟩=>
  thn (ho pins s2 σ H2 x y v u _ I2 r1 r2 q2) fun c s3 ⟨z,H3,I3,r3,k,e,q3⟩=>?_) hm
 subst e;cases r3;exact Qy ⟨H3,I3,q3⟩
def su(r r':R2)(ta tb tc:TE):TE:=fun σ H Q=>ta σ H fun x H1=>tb σ H1 fun y H2=>r x y H2 fun z H3=>∃k,z=.bl k /\
 (if k=true then tc σ H3 fun w' H4=>r' y w' H4 Q else Q (.bl false) H3)
theorem Ew(ho:OpR X (PU op) r)(ho':OpR X (PU op') r')(ha:PE X a ta)(hb:PE X b tb)(hc:PE X c tc)
  (hm:Ws [op,op'] [b,c]=false:=by with_unfolding_all rfl):PE X (.Compare a [op,op'] [b,c] pos) (su r r' ta tb tc):=by
 intro pins s σ H Q I h
 refine Compare_chain (thn (ha pins s σ H _ I h) fun v s1 ⟨x,H1,I1,r1,q1⟩=>chain_link (thn (hb pins s1 σ H1 _ I1 q1) fun u s2 ⟨y,H2,I2,r2,q2⟩=>
  thn (ho pins s2 σ H2 x y v u _ I2 r1 r2 q2) fun d s3 ⟨z,H3,I3,r3,k,e,q3⟩=>?_)) hm
 subst e;cases r3;refine Qy ?_
 cases k with
 |false=>exact ite_ff ⟨.bl false,H3,I3,rfl,q3⟩
 |true=>exact ite_tt (chain_last (thn (hc pins s3 σ H3 _ I3 q3) fun w' s4 ⟨z',H4,I4,r4,q4⟩=>ho' pins s4 σ H4 y z' u w' Q I4 r2 r4 q4))
theorem Ej(ho:OpR X (PU op) r)(ho':OpR X (PU op') r')(ha:PE X a ta)(hb:PE X b tb)(hc:PE X c tc)
  (hm:Ws [op,op'] [b,c]=false:=by with_unfolding_all rfl):PT X (.Compare a [op,op'] [b,c] pos) (zP (su r r' ta tb tc)):=by
 intro pins s σ H Q I h
 refine isTrue_chain (thn (ha pins s σ H _ I h) fun v s1 ⟨x,H1,I1,r1,q1⟩=>test_link (thn (hb pins s1 σ H1 _ I1 q1) fun u s2 ⟨y,H2,I2,r2,q2⟩=>
  thn (ho pins s2 σ H2 x y v u _ I2 r1 r2 q2) fun d s3 ⟨z,H3,I3,r3,k,e,q3⟩=>?_)) hm
 subst e;cases r3;refine Qy ?_
 cases k with
 |false=>
  obtain⟨k',e',q'⟩:=q3;cases e';exact ite_ff ⟨H3,I3,q'⟩
 |true=>
  refine ite_tt (test_last (thn (hc pins s3 σ H3 _ I3 q3) fun w' s4 ⟨z',H4,I4,r4,q4⟩=>thn (ho' pins s4 σ H4 y z' u w' _ I4 r2 r4 q4) fun d' s5 ⟨z2,H5,I5,r5,k2,e2,q5⟩=>?_));subst e2;cases r5;exact Qy ⟨H5,I5,q5⟩
def tR(K:Frag)(x:V)(H:Hp)(k:Bool):Prop:=
 match x with
 |.non=>k=false
 |.bl b=>k=b
 |.int i=>k=(i != 0)
 |.str y=>y.length<=Pp/\k=((y.length:Int) != 0)
 |.byt y=>y.size<=Pp/\k=((y.size:Int) != 0)
 |.ref p=>(∃xs,SqL K H p xs/\k = !xs.isEmpty)\/(∃xs,SqT K H p xs/\k = !xs.isEmpty)\/∃kvs,H p=some (.dK kvs)/\k = !kvs.isEmpty
 |_=>False
theorem Cz{κ:Type}{kvs:List (κ×V)}{vs:List (κ×Pb)}(r:KV kvs vs):(!vs.isEmpty) = !kvs.isEmpty:=by cases r <;> rfl
theorem uF(r:Vals xs its):(!its.toArray.isEmpty) = !xs.isEmpty:=by cases r <;> simp
theorem iR:(Pp:Nat)<2^63:=by rw[WI];decide
theorem HG:Ls X (fun x H Q=>∃k,tR X.K x H k/\Q k H):=by
 intro pins s σ H x v Q I rx h;obtain⟨k,e,q⟩:=h;have hl:=iR;have hs:Pp=16777216:=WI
 cases x with
 |non=>
  cases rx;have e':k=false:=e;subst e';exact truthy_none ⟨H,I,q⟩
 |bl b=>
  cases rx;have e':k=b:=e;subst e';exact Qy ⟨H,I,q⟩
 |int i=>
  obtain⟨t,rfl⟩:=rx;have e':k=(i != 0):=e;subst e';exact PySem.P.truthy_int ⟨H,I,q⟩
 |str y=>
  obtain⟨t,rfl⟩:=rx;obtain⟨hy,e'⟩:y.length<=Pp/\k=((y.length:Int) != 0):=e;subst e';exact PySem.P.truthy_str (by omega) ⟨H,I.tok _,q⟩
 |byt y=>
  obtain⟨t,rfl⟩:=rx;obtain⟨hy,e'⟩:y.size<=Pp/\k=((y.size:Int) != 0):=e;subst e';exact PySem.W.truthy_bytes (by omega) ⟨H,I.tok _,q⟩
 |ref p=>
  cases rx;have e':(∃xs,SqL X.K H p xs/\k = !xs.isEmpty)\/(∃xs,SqT X.K H p xs/\k = !xs.isEmpty)\/∃kvs,H p=some (.dK kvs)/\k = !kvs.isEmpty:=e
  rcases e' with⟨xs,hx,e'⟩|⟨xs,hx,e'⟩|⟨kvs,hx,e'⟩
  .subst e'
   obtain⟨its,r,pl,hz⟩:=I.list hx;have hlen:=r.length;exact wpAny_truthy_list pl.isList (by simp only[Pr];omega) ⟨H,I.tok _,by rw[uF r];exact q⟩
  .subst e'
   obtain⟨its,r,pl,hz⟩:=I.tuple hx;have hlen:=r.length;exact truthy_tuple pl (by simp only[Pr];omega) ⟨H,I.tok _,by rw[uF r];exact q⟩
  .subst e'
   obtain⟨hz,hS,vs,r,m⟩:kvs.length<=Pp/\(p == QF)=false/\∃vs,KV kvs vs/\s.heap.DictOf (bE X.prog X.w) p vs:=I.hok p _ hx;have hlen:kvs.length=vs.length:=Q5 r;exact wpAny_truthy_dict hS m (by omega) ⟨H,I.tok _,by rw[Cz r];exact q⟩
 |_=>exact(show False from e).elim
theorem Ei(ha:PE X a ta)(he:∀whole,Yg a X.env whole=(do let v ←whole;Yj a.pos;Ue [v] (truthy v))) :
  PT X a (fun σ H Q=>ta σ H fun x H'=>∃k,tR X.K x H' k/\Q k H'):=by
 intro pins s σ H Q I h;exact isTrue_plain (thn (ha pins s σ H _ I h) fun v s1 ⟨x,H1,I1,r1,q1⟩=>HG pins s1 σ H1 x v Q I1 r1 q1) (he _)
theorem op_add_str:OpR X (QU .Add) (fun x y H Q=>∃i j,x=.str i/\y=.str j/\i.length+j.length<=Pp/\Q (.str (i++j)) H):=by
 intro pins s σ H x y v u Q I rx ry h;obtain⟨i,j,rfl,rfl,hz,q⟩:=h;obtain⟨t,rfl⟩:=rx;obtain⟨t',rfl⟩:=ry;exact add_str (fun t' tk=>⟨.str (i++j),H,I.tok _,⟨_,rfl⟩,q⟩) hz
theorem vals1(r:Vals [x] us):∃u,us=[u]/\RelV x u:=by
 cases r with
 |cons r1 r2=>cases r2;exact⟨_,rfl,r1⟩
theorem vals2(r:Vals [x,y] us):∃u w',us=[u,w']/\RelV x u/\RelV y w':=by
 cases r with
 |cons r1 r2=>
  cases r2 with
  |cons r3 r4=>cases r4;exact⟨_,_,rfl,r1,r3⟩
theorem Fk:CallR X (.builtin "abs") (fun xs H Q=>∃i,xs=[.int i]/\Q (.int (if i<0 then -i else i)) H):=by
 intro pins s σ H xs us Q I r h;obtain⟨i,rfl,q⟩:=h;obtain⟨u,rfl,t,rfl⟩:=vals1 r;exact call_abs_int fun u tk=>⟨.int (if i<0 then -i else i),H,I.tok _,⟨_,rfl⟩,q⟩
theorem call_int1:CallR X (.type "int") (fun xs H Q=>(∃i,xs=[.int i]/\Q (.int i) H)\/∃k,xs=[.bl k]/\Q (.int (if k then 1 else 0)) H):=by
 intro pins s σ H xs us Q I r h
 rcases h with⟨i,rfl,q⟩|⟨k,rfl,q⟩
 .obtain⟨u,rfl,t,rfl⟩:=vals1 r
  exact call_int_int ⟨.int i,H,I,⟨_,rfl⟩,q⟩
 .obtain⟨u,rfl,r1⟩:=vals1 r
  cases r1;exact call_int_bool ⟨.int (if k then 1 else 0),H,I.tok _,⟨_,rfl⟩,q⟩
theorem BY:CallR X (.type "str") (fun xs H Q=>∃i,xs=[.int i]/\i.natAbs.log2<1920/\Q (.str (toString i)) H):=by
 intro pins s σ H xs us Q I r h;obtain⟨i,rfl,hz,q⟩:=h;obtain⟨u,rfl,t,rfl⟩:=vals1 r;exact PySem.P.str_of_int hz ⟨.str _,H,I.tok _,⟨_,rfl⟩,q⟩
end
structure ObjM(h:Heap)(x dx C:Addr)(mA:Str->Option Pb):Prop where
 obj:h.get? x=some (U9 C dx)
 ns:h.Ns1 dx mA
 ne:dx≠x
theorem C9{h:Heap}{mA:Str->Option Pb}(n:h.Ns1 dx mA):∃od,h.get? dx=some od/\∀name,Vn name od=some (mA name):=by
 obtain⟨o,es,ep,ho,hd,hk,_,hm⟩:=n;refine⟨o,ho,fun name=>?_⟩;have e:=hm name;unfold nsFind findBy at e;rw[←Array.find?_toList] at e;unfold Vn;rw[hd];dsimp only;split
 .rename_i y q
  rw[q] at e;exact congrArg some e
 .rename_i q
  rw[q] at e
  have a:es.toList.any (·.refKey)=false:=by
   rw[List.any_eq_false];intro y hy;obtain⟨z,t,hkey⟩:=hk y (Array.mem_toList_iff.mp hy);simp[DictEntry.refKey,hkey]
  have a':¬es.toList.any (·.refKey)=true:=by rw[a];exact Pu
  rw[if_neg a'];exact congrArg some e
theorem ObjM.look(I:ObjM h x dx C mA):∃od,SD h x (U9 C dx) C (some od)/\∀name,Vn name od=some (mA name):=
 let ⟨od,ho,hl⟩:=C9 I.ns
 ⟨od,⟨I.obj,rfl,rfl,ho⟩,hl⟩
section
variable {prog:Px}{w:PY}{A:PZ}{E:Pb->Pf->Prop}{s:Pf}{K:Frag}{x dx C f:Addr}{mA:Str->Option Pb}{name:Str}{v:Pb}
end
theorem RelO.some_of(r:RelO (some v) o):∃u,o=some u/\RelV v u:=by
 cases o with
 |none=>exact(show False from r).elim
 |some u=>exact⟨u,rfl,r⟩
theorem RelO.none_of(r:RelO none o):o=none:=by
 cases o with
 |none=>rfl
 |some u=>exact(show False from r).elim
section
variable {P:Px}{w:PY}{H H':Hp}{h h':Heap}{a C dx:Addr}{fs fs':List (Str×V)}
theorem GF(hok:HOk P w H h)(e:H a=some (.ins C dx fs)):∃mA,ObjM h a dx C mA/\(∀f,RelO (fs.lookup f) (mA f))/\Yf mA (fs.map (·.1))/\fs.length<=1000/\H dx=some (.own a):=by
 obtain⟨d,z,ne,ob,mA,n,r,q⟩:=(show ObjOk P w H h a (.ins C dx fs) from hok a _ e);exact⟨mA,⟨ob,n,ne⟩,r,q,z,d⟩
end
structure Cls(K:Frag)(C:Addr):Prop where
 pg:Wt K C Str.empty=true
 hd:Ug K C=true
 po:PySem.W.plainOver K C=true
 sa:P4 K (.ref C) "__setattr__"=some (some (.builtin "object.__setattr__"))
theorem Cls.get{K:Frag}{C:Addr}(c:Cls K C)(f:Str):Wt K C f=true:=c.pg
structure Con(K:Frag)(C:Addr)(f:Str)(v:V)(u:Pb):Prop where
 at_:P4 K (.ref C) f=some (some u)
 rel:RelV v u
 get:RD K u "__get__"=some none
 cp:PySem.W.copiedNames.contains f=false
structure Meth(K:Frag)(C:Addr)(m:Str)(f:Addr):Prop where
 at_:P4 K (.ref C) m=some (some (.ref f))
 fn:Tn K (.ref f)=true
 kp:Qm K (.ref f)=true
section
variable {X:Cx}{pins:List (Addr×Obj)}{σ:St}{H:Hp}{s:Pf}{a C dx:Addr}{fs:List (Str×V)}{f:Str}{v:V}{A:PZ}{E:Pb->Pf->Prop}
end
section
variable {X:Cx}{o e value:Expr}{f:Str}{pos pos' tpos:Pos}{ta tv:TE}
end
section
variable {X:Cx}{pins:List (Addr×Obj)}{σ:St}{H:Hp}{s:Pf}{A:PZ}{E:Pb->Pf->Prop}{Q:Pb->Pf->Prop}{c:Pb}{b:Bool}
inductive TyOf(K:Frag)(H:Hp):V->Pb->Prop where
 |non:TyOf K H .non (.type "NoneType")
 |bl (x:Bool):TyOf K H (.bl x) (.type "bool")
 |int (i:Int):TyOf K H (.int i) (.type "int")
 |str (x:Str):TyOf K H (.str x) (.type "str")
 |flt (x:UInt64):TyOf K H (.flt x) (.type "float")
 |lst {a:Addr}{xs:List V} (e:H a=some (.lst xs)):TyOf K H (.ref a) (.type "list")
 |frz {a:Addr}{o:Obj}{xs:List V} (e:H a=some (.frz o (.lst xs))):TyOf K H (.ref a) (.type "list")
 |tup {a:Addr}{xs:List V} (e:H a=some (.tup xs)):TyOf K H (.ref a) (.type "tuple")
 |dK {a:Addr}{kvs:List (Key×V)} (e:H a=some (.dK kvs)):TyOf K H (.ref a) (.type "dict")
 |dT {a:Addr}{kvs:List (List Key×V)} (e:H a=some (.dT kvs)):TyOf K H (.ref a) (.type "dict")
 |ins {a C dx:Addr}{fs:List (Str×V)} (e:H a=some (.ins C dx fs)) (cl:Cls K C) (ha:P4 K (.ref C) "__class__"=some (some (.builtin "object.__class__")))
   (hn:RD K (.builtin "object.__class__") "__get__"=some (some (.builtin "getset_descriptor.__get__"))) (htk:Sl K (.builtin "object.__class__")=some true)
   (hm:RF K C (.type "object")=some true):TyOf K H (.ref a) (.ref C)
theorem mV(I:Inv X pins σ H s)(rx:RelV x u)(ty:TyOf X.K H x t)(e:P6 X.K t c=some b)(h:∀tk,Q (.bool b) { s with toks:=tk }) :
  PP (PX X.prog X.w) A (call (.builtin "isinstance") [u,c]) Q E s:=by
 cases ty with
 |non=>cases (show u=Qq from rx);exact Qk PySem.W.kitx_none I.kIn R6 e (fun z=>nomatch z) h
 |bl y=>cases (show u=VS y from rx);exact Qk PySem.W.kitx_bool I.kIn R6 e (fun z=>nomatch z) h
 |int i=>obtain⟨t,q⟩:=(show ∃t,u=Ra i t from rx);cases q;exact Qk PySem.W.kitx_int I.kIn R6 e (fun z=>nomatch z) h
 |str y=>obtain⟨t,q⟩:=(show ∃t,u=Tv y t from rx);cases q;exact Qk PySem.W.kitx_str I.kIn R6 e (fun z=>nomatch z) h
 |flt y=>obtain⟨t,q⟩:=(show ∃t,u=Yu y t from rx);cases q;exact Qk PySem.W.kitx_float I.kIn R6 e (fun z=>nomatch z) h
 |@lst a xs ea=>
  cases (show u=PJ a from rx);obtain⟨_,_,n,_,h1⟩:=(show ObjOk X.prog X.w H s.heap a (.lst xs) from I.hok a _ ea);exact Qk Uh I.kIn ⟨_,h1,rfl⟩ e (fun z=>nomatch z) h
 |@frz a ob xs ea=>
  cases (show u=PJ a from rx);obtain⟨_,_,_,n,_,h1⟩:=(show ObjOk X.prog X.w H s.heap a (.frz ob (.lst xs)) from I.hok a _ ea);exact Qk Uh I.kIn ⟨_,h1,rfl⟩ e (fun z=>nomatch z) h
 |@tup a xs ea=>
  cases (show u=PJ a from rx);obtain⟨_,_,_,p⟩:=(show ObjOk X.prog X.w H s.heap a (.tup xs) from I.hok a _ ea);obtain⟨o,h1,h2,_⟩:=p;exact Qk VT I.kIn ⟨o,h1,h2⟩ e (fun z=>nomatch z) h
 |@dK a kvs ea=>
  cases (show u=PJ a from rx);obtain⟨_,_,vs,_,p⟩:=(show ObjOk X.prog X.w H s.heap a (.dK kvs) from I.hok a _ ea);obtain⟨o,es,ep,h1,h2,_⟩:=p;exact Qk Ui I.kIn ⟨o,h1,h2.1⟩ e (fun z=>nomatch z) h
 |@dT a kvs ea=>
  cases (show u=PJ a from rx);obtain⟨_,_,xs,_,o,es,ep,h1,h2,_⟩:=(show ObjOk X.prog X.w H s.heap a (.dT kvs) from I.hok a _ ea);exact Qk Ui I.kIn ⟨o,h1,h2.1⟩ e (fun z=>nomatch z) h
 |@ins a C dx fs ea cl ha hn htk hm=>
  cases (show u=PJ a from rx);obtain⟨mA,O,_⟩:=GF I.hok ea;obtain⟨od,J,_⟩:=O.look;exact Qk (PySem.W.kitx_own (cl.get _) cl.hd ha hn htk hm) I.kIn J e (fun z=>nomatch z) h
end
structure Room(k:Nat)(A:PZ):Prop where
 hd:A.handled=none
 dp:A.depth+3*k+5<recursionLimit
 un:A.units+16*k+200<TL
 gd:A.guards=some []
theorem Room.mono(r:Room k A)(h:j<=k):Room j A:=⟨r.hd,by have:=r.dp;omega,by have:=r.un;omega,r.gd⟩
theorem Room.deeper(r:Room (k+1) A)(env:Env):Room k (A.deeper env):=⟨r.hd,by have:=r.dp;show A.depth+1+3*k+5<_;omega,by have:=r.un;show A.units+3+16*k+200<_;omega,r.gd⟩
theorem Room.depth(r:Room k A):A.depth<recursionLimit:=by have:=r.dp;omega
def qc:TA:=fun _ H Q=>Q [] H
def pH(ta:TE)(tr:TA):TA:=fun σ H Q=>ta σ H fun x H1=>tr σ H1 fun xs H2=>Q (x::xs) H2
section
variable {X:Cx}{e:Expr}{es:List Expr}{te:TE}{t:TA}{pos:Pos}
theorem cG:PA X [] qc:=fun _ _ _ _ H Q I h=>V3 ⟨[],H,I,.nil,h⟩
theorem bw(ha:PE X e te)(hr:PA X es t)(hs:Pk (e::es) X.env=(false,eval e X.env)::Pk es X.env:=by rfl):PA X (e::es) (pH te t):=by
 intro pos pins s σ H Q I h;rw[hs];show PP _ _ (spliced ((false,eval e X.env)::Qg pos (Pk es X.env))) _ _ s;refine TM (thn (ha pins s σ H _ I h) fun u s1 ⟨x,H1,I1,r1,q1⟩=>?_);exact thn (hr pos pins s1 σ H1 _ I1 q1) fun us s2 ⟨xs,H2,I2,r2,q2⟩=>⟨x::xs,H2,I2,.cons r1 r2,q2⟩
def K3(t:TA):TE:=fun σ H Q=>t σ H fun xs H1=>xs.length<=Pp/\∀p,H1 p=none->Q (.ref p) (upd H1 p (.tup xs))
def K6(t:TA):TE:=fun σ H Q=>t σ H fun xs H1=>xs.length<=Pp/\∀p,H1 p=none->Q (.ref p) (upd H1 p (.lst xs))
theorem yP{x1}(h:PA X es t):PE X (.Tuple es x1 pos) (K3 t):=by
 intro pins s σ H Q I hq;refine wpAny_Tuple_spliced (thn (h pos pins s σ H _ I hq) fun us s1 ⟨xs,H1,I1,r,z,q⟩=>⟨by rw[←r.length];exact z,?_⟩);have hf:H1 s1.heap.objs.size=none:=I1.hok.fresh (Pm _);refine⟨.ref s1.heap.objs.size,upd H1 s1.heap.objs.size (.tup xs),I1.laid (t':=s1.toks) (fun b u e=>Pe _ e) (Pm _) ?_,rfl,q _ hf⟩;exact⟨z,us,r,⟨_,PM _ rfl,rfl,_,rfl⟩⟩
theorem sF(h:PA X es t):PE X (.List es pos) (K6 t):=by
 intro pins s σ H Q I hq;refine wpAny_List_spliced (thn (h pos pins s σ H _ I hq) fun us s1 ⟨xs,H1,I1,r,z,q⟩=>⟨by rw[←r.length];exact z,?_⟩);have hf:H1 s1.heap.objs.size=none:=I1.hok.fresh (Pm _);refine⟨.ref s1.heap.objs.size,upd H1 s1.heap.objs.size (.lst xs),I1.laid (t':=s1.toks) (fun b u e=>Pe _ e) (Pm _) ?_,rfl,q _ hf⟩;exact⟨z,us,0,r,PM _ rfl⟩
end
abbrev Sp:=List V->Hp->VK->XK->Prop
abbrev CXT:=List Env->Hp->Pf->XK->Pb->Pf->Prop
structure Env0(P:Px)(w:PY)(K:Frag)(mg:Str->Option Pb)(base:Heap)(A:PZ)(outer:List Env)(s:Pf)(H:Hp):Prop where
 frames:A.frames=some outer
 mod:Mod K mg base
 bs:∀b o,base.get? b=some o->s.heap.get? b=some o/\H b=none
 bsz:base.objs.size<=s.heap.objs.size
 funs:s.heap.FunFrames base outer
 frf:∀b∈frs outer,H b=none
 hok:HOk P w H s.heap
 bare:S2 s.gens
def CE(outer:List Env)(P:Px)(w:PY)(H:Hp)(s:Pf)(Q:VK)(u:Pb)(s':Pf):Prop:=∃v H',s'.os=s.os/\S2 s'.gens/\Un (frs outer) [] H H' s.heap s'.heap/\HOk P w H' s'.heap/\RelV v u/\Q v H'
def CR(CX:CXT)(outer:List Env)(P:Px)(w:PY)(H:Hp)(s:Pf)(Q:VK)(E:XK)(r:W7)(s':Pf):Prop:=
 match r with
 |.ok (.ret u)=>CE outer P w H s Q u s'
 |.ok _=>False
 |.error e=>CX outer H s E e s'
structure FnOk(P:Px)(w:PY)(K:Frag)(mg:Str->Option Pb)(base:Heap)(CX:CXT)(k:Nat)(f:Addr)(fd:QQ)(ps:List Str)(sp:Sp):Prop where
 len:∀vs H Q E,sp vs H Q E->vs.length=ps.length
 run:∀(A:PZ) (outer:List Env) (s:Pf) (H:Hp) (args:Args) (us:List Pb) (vs:List V) (Q:VK) (E:XK),Room k A->Env0 P w K mg base A outer s H->VB s fd args (ps.zip us)->Vals vs us->sp vs H Q E ->
  To (PX P w) A (.call (.ref f) args) (CR CX outer P w H s Q E) s
section
variable {X:Cx}{pins:List (Addr×Obj)}{σ:St}{H:Hp}{s s':Pf}
theorem Inv.env0(I:Inv X pins σ H s):Env0 X.prog X.w X.K X.mg X.base X.A X.stack s H:=⟨I.ok.frames,I.ok.mod,I.bs,PL I.ok.bsz I.sz,I.stack,I.stkFree,I.hok,I.bare⟩
theorem Inv.after(I:Inv X pins σ H s)(h:CE X.stack X.prog X.w H s Q u s'):EP X pins σ Q u s':=by
 obtain⟨v,H',os,bare,un,hok,r,q⟩:=h;obtain⟨hh,g,d,t,os'⟩:=s';obtain rfl:os'=s.os:=os;exact⟨v,H',I.call (h':=hh) (g':=g) (d':=d) (t':=t) (ch:=[]) un hok bare (fun b z=>absurd z (by simp)),r,q⟩
end
def pI(sp:Sp)(dvs:List V)(E:XK)(t:TA):TE:=fun σ H Q=>t σ H fun vs H1=>sp (vs++dvs) H1 Q E
def Binds(K:Frag)(fd:QQ)(ps:List Str)(ds:List Pb):Prop:=∀(s:Pf) (us:List Pb),K.In s.heap->(us++ds).length=ps.length->VB s fd ⟨us,[]⟩ (ps.zip (us++ds))
theorem Binds.all{K:Frag}{fd:QQ}{ps:List Str}(h:∀us:List Pb,us.length=ps.length->TN fd ⟨us,[]⟩=pure (ps.zip us)):Binds K fd ps []:=fun s us _ hl=>by
 rw[Qv] at hl ⊢;exact .of_eq (h us hl)
def lN(CX:CXT)(X:Cx)(E:XK):Prop:=∀(pins:List (Addr×Obj)) (σ:St) (H:Hp) (s:Pf) (e:Pb) (s':Pf),Inv X pins σ H s->CX X.stack H s E e s'->X.xe e s'
section
variable {X:Cx}{CX:CXT}{k:Nat}{f C:Addr}{fd:QQ}{ps:List Str}{sp:Sp}{dvs:List V}{ds:List Pb}{E:XK}{x m:Str}{p pos apos:Pos}{e o:Expr}{es:List Expr}{ta:TE}{t:TA}
theorem HU(F:FnOk X.prog X.w X.K X.mg X.base CX k f fd ps sp)(hr:Room k X.A)(hb:Binds X.K fd ps ds)(hd:Vals dvs ds)(hx:lN CX X E)
  (I:Inv X pins σ H s) (r:Vals vs us) (h:sp (vs++dvs) H Q E):PP (PX X.prog X.w) X.A (call (.ref f) us) (EP X pins σ Q) X.xe s:=by
 have r2:Vals (vs++dvs) (us++ds):=r.append hd
 have hl:(us++ds).length=ps.length:=by rw[←r2.length];exact F.len _ _ _ _ h
 refine VU (UT (F.run X.A X.stack s H ⟨us,[]⟩ (us++ds) (vs++dvs) Q E hr I.env0 (hb s us I.kIn hl) r2 h) fun r s' hq=>?_)
 cases r with
 |error e=>exact hx pins σ H s e s' I hq
 |ok fl=>
  cases fl with
  |ret u=>exact I.after hq
  |next=>exact Qw hq
  |brk=>exact Qw hq
  |cont=>exact Qw hq
theorem xq(F:FnOk X.prog X.w X.K X.mg X.base CX k f fd ps sp)(hr:Room k X.A)(hg:Gl X x)(hm:X.mg x=some (.ref f))(hk:Qm X.K (.ref f)=true)(hb:Binds X.K fd ps ds)(hd:Vals dvs ds)(hx:lN CX X E)
  (ha:PA X (e::es) t) (hdb:(x == ("__debug__" : Str))=false:=by decide) (he:Pk (e::es) X.env=(false,eval e X.env)::Pk es X.env:=by rfl) (hpl:(Qg pos (Pk es X.env)).any (·.1)=false:=by rfl) :
  PE X (.Call (.Name x p) (e::es) [] pos) (pI sp dvs E t):=by
 intro pins s σ H Q I h;refine Rp (lD I hg hm ?_ hdb);refine TQ (h₀:=X.base) I.ok.mod.kin hk (thn (ha pos pins s σ H _ I h) fun us s1 ⟨vs,H1,I1,r,q⟩=>⟨I1.kIn,?_⟩) he hpl;exact HU F hr hb hd hx I1 r q
structure Mk(K:Frag)(C f:Addr):Prop where
 makes:PySem.W.makesIn K C=true
 init:P4 K (.ref C) "__init__"=some (some (.ref f))
 fn:Tn K (.ref f)=true
 kp:Qm K (.ref C)=true
end
section
variable {X:Cx}{CX:CXT}{k:Nat}{f C:Addr}{fd:QQ}{ps ks:List Str}{sp:Sp}{E:XK}{x m:Str}{p pos apos kpos:Pos}{e o:Expr}{es:List Expr}{kws:List Rb}{te ta:TE}{t tk:TA}{nm:Option Str}
structure KBinds(K:Frag)(fd:QQ)(ps ks:List Str)(g:List Pb->List Pb->List Pb)(gV:List V->List V->List V):Prop where
 to:∀(s:Pf) (us ws:List Pb),K.In s.heap->(g us ws).length=ps.length->VB s fd ⟨us,ks.zip ws⟩ (ps.zip (g us ws))
 rel:∀{vs:List V}{us:List Pb}{zs:List V}{ws:List Pb},Vals vs us->Vals zs ws->Vals (gV vs zs) (g us ws)
variable {g:List Pb->List Pb->List Pb}{gV:List V->List V->List V}
end
structure FnScope(N P:List Str)(sc:Rj):Prop where
 kind:sc.kind=.function
 co:sc.isCoroutine=false
 gen:sc.isGenerator=false
 nd:N.Nodup
 pre:N.take P.length=P
 par:∀x∈P,sc.names.lookup x=some .local\/sc.names.lookup x=some .cell
 nofree:∀y∈sc.names,y.2≠.free
theorem vF{SX:Str->Option RN}:∀{binds:List (Str×Pb)}{m:Str->Option Pb},(∀v,(x,v)∉binds)->W8 SX binds m x=m x
 |[],_,_=>rfl
 |(n,v)::r,m,h=>by
  unfold W8;rw[vF fun w hw=>h w (Pg _ hw)];split
  .have:x≠n:=by rintro rfl;exact h v Pi
   simp[this]
  .rfl
theorem vH{SX:Str->Option RN}:∀{binds:List (Str×Pb)}{m:Str->Option Pb},(∀v,(x,v)∉binds)->Xa SX binds m x=m x
 |[],_,_=>rfl
 |(n,v)::r,m,h=>by
  unfold Xa;rw[vH fun w hw=>h w (Pg _ hw)];split
  .rfl
  .have:x≠n:=by rintro rfl;exact h v Pi
   simp[this]
theorem vG{SX:Str->Option RN}:∀{P:List Str}{vs:List Pb}{i:Nat}{m:Str->Option Pb},P.Nodup->P[i]? = some x->vs[i]? = some v->SX x=some .local ->
  W8 SX (P.zip vs) m x=some v
 |[],_,_,_,_,h,_,_=>by simp at h
 |_::_,[],_,_,_,_,h,_=>by simp at h
 |p::P,w::vs,0,m,nd,h1,h2,hk=>by
  simp at h1 h2;subst h1;subst h2;show W8 SX ((p,w)::P.zip vs) m p=_;unfold W8;rw[vF fun v hv=>(Q3.mp nd).1 (Va hv).1,if_pos hk];simp
 |p::P,w::vs,i+1,m,nd,h1,h2,hk=>by
  show W8 SX ((p,w)::P.zip vs) m x=_;unfold W8;exact vG (i:=i) (Q3.mp nd).2 (by simpa using h1) (by simpa using h2) hk
theorem vI{SX:Str->Option RN}:∀{P:List Str}{vs:List Pb}{i:Nat}{m:Str->Option Pb},P.Nodup->P[i]? = some x->vs[i]? = some v->SX x≠some .local ->
  Xa SX (P.zip vs) m x=some v
 |[],_,_,_,_,h,_,_=>by simp at h
 |_::_,[],_,_,_,_,h,_=>by simp at h
 |p::P,w::vs,0,m,nd,h1,h2,hk=>by
  simp at h1 h2;subst h1;subst h2;show Xa SX ((p,w)::P.zip vs) m p=_;unfold Xa;rw[vH fun v hv=>(Q3.mp nd).1 (Va hv).1,if_neg hk];simp
 |p::P,w::vs,i+1,m,nd,h1,h2,hk=>by
  show Xa SX ((p,w)::P.zip vs) m x=_;unfold Xa;exact vI (i:=i) (Q3.mp nd).2 (by simpa using h1) (by simpa using h2) hk
def start(N:List Str)(vs:List V):St:=vs.map some++PC (N.length-vs.length) none
def cw(CX:CXT)(P:Px)(w:PY)(K:Frag)(mg:Str->Option Pb)(base:Heap)(N:List Str)(qual:Str)(scope:Rj)(f:Addr)(cd:Pb)(A:PZ)(outer:List Env)(s:Pf)(H:Hp)(E:XK):Cx where
 prog:=P
 w:=w
 K:=K
 mg:=mg
 base:=base
 A:=A.deeper (Rx qual scope s.heap.objs.size f cd)
 N:=N
 s₀:=s
 H₀:=H
 env:=Rx qual scope s.heap.objs.size f cd
 outer:=outer
 stack:=Rx qual scope s.heap.objs.size f cd::outer
 ex:=[]
 calm:=true
 fn:=fun _=>true
 pn:=[]
 xe:=fun e s'=>PP (PX P w) (A.deeper (Rx qual scope s.heap.objs.size f cd)) (W1 (Rx qual scope s.heap.objs.size f cd) e) (fun _ s''=>CX outer H s E e s'') (fun e' s''=>CX outer H s E e' s'') s'
theorem wK{sc:Rj}(h:sc.names.lookup x=some .cell):∃c,(X9 n sc.names []).lookup x=some c:=by
 have q:=UU sc.names n [] (.inl h);exact Qh.mp q
theorem Dt{CX:CXT}{P:Px}{w:PY}{K:Frag}{mg:Str->Option Pb}{base:Heap}{N ps:List Str}{qual:Str}{scope:Rj}{f:Addr}{cd:Pb}{A:PZ}{outer:List Env}{s s1:Pf}{H:Hp}{E:XK}{us:List Pb}{vs:List V}
  (S:FnScope N ps scope) (hd:A.handled=none) (e0:Env0 P w K mg base A outer s H) (hl:vs.length=ps.length) (r:Vals vs us)
  (x:InCallC s s.heap.objs.size (W8 (Rx qual scope s.heap.objs.size f cd).kindOf (ps.zip us) fun _=>none) (X9 (s.heap.objs.size+1) scope.names []) (Xa (Rx qual scope s.heap.objs.size f cd).kindOf (ps.zip us) fun _=>none) s1) :
  Inv (cw CX P w K mg base N qual scope f cd A outer s H E) [] (start N vs) H s1:=by
 have hpl:ps.length<=N.length:=by have:=congrArg WJ S.pre;rw[Q4] at this;omega
 obtain⟨h1,tk,rfl,hk⟩:=x.done;have noA:∀b:Addr,b∉(cw CX P w K mg base N qual scope f cd A outer s H E).ex:=fun b z=>absurd (show b∈([]:List Addr) from z) (by simp)
 refine⟨⟨e0.mod,S.kind,rfl,rfl,Pm _,fun y z c h1 h2=>?_,fun y hy=>?_,fun y c _ h=>?_,fun _=>hd,Around.frames_deeper e0.frames,.inr ⟨rfl,rfl⟩,fun b z=>absurd z (noA b),e0.bs,e0.bsz,fun b _ _=>noA b,fun b z=>absurd z (noA b),e0.funs,e0.frf⟩,
  rfl,e0.bare,Un.kept hk,⟨_,x.toInCall.ns,fun i y v h1 h2 h3=>?_⟩,fun y c h=>⟨_,x.cell y c h⟩,e0.hok.fresh (Pm _),fun y c h=>?_,fun p hp=>absurd (show p∈([]:List (Addr×Obj)) from hp) (by simp),e0.hok.kept hk,?_⟩
 .exact name_of_addr x.apart (RM h1) (RM h2)
 .have hy:scope.names.lookup y=some .cell\/scope.names.lookup y=some .free:=hy
  rcases hy with hy|hy
  .exact wK hy
  .exact absurd rfl (S.nofree _ (RM hy))
 .exact UR (x.above y c (RM h))
 .have hi:i<vs.length:=by
   unfold start at h2
   by_cases hi:i<vs.length
   .exact hi
   .rw[QX (by simpa using hi)] at h2
    rw[List.getElem?_replicate] at h2
    split at h2 <;> cases h2
  have ha:vs[i]? = some v:=by
   unfold start at h2;rw[PF (by simpa using hi),Qd] at h2
   cases e:vs[i]? with
   |none=>rw[e] at h2;cases h2
   |some a=>rw[e] at h2;cases h2;rfl
  obtain⟨u,hu,rv⟩:=r.get ha
  have hp:ps[i]? = some y:=by
   rw[←S.pre,Ur (by omega)];exact h1
  have ndP:ps.Nodup:=by rw[←S.pre];exact S.nd.sublist (V4 _ _)
  refine⟨u,rv,?_⟩
  rcases S.par y (P8 hp) with k|k
  .exact .inl ⟨k,vG ndP hp hu k⟩
  .obtain⟨c,e⟩:=wK (n:=s.heap.objs.size+1) k
   refine .inr ⟨.inl k,c,e,?_⟩;have q:=x.cell y c e;rw[vI ndP hp hu (by show scope.names.lookup y≠_;rw[k];decide)] at q;exact q
 .exact e0.hok.fresh (UR (x.above y c (RM h)))
 .unfold start
  show _=N.length;rw[PN,Qb,List.length_replicate];omega
theorem Ah{CX:CXT}{P:Px}{w:PY}{K:Frag}{mg:Str->Option Pb}{base:Heap}{k:Nat}{f:Addr}{name qual:Str}{params:Arguments}{body:List Stmt}{scope:Rj}{dV kV doc pm cdv ct oc:Pb}{an od:Option Addr}
  {osl:Array (Option Pb)}{N ps:List Str}{sp:Sp} (lk:K.lookup f=some ⟨oc,od,.func (QB name qual params body scope dV kV doc pm an cdv ct),osl⟩) (hcd:R7 K cdv qual=true) (S:FnScope N ps scope)
  (len:∀vs H Q E,sp vs H Q E->vs.length=ps.length)
  (hbody:∀(A:PZ) (outer:List Env) (s:Pf) (H:Hp) (vs:List V) (Q:VK) (E:XK),Room k (A.deeper (Rx qual scope s.heap.objs.size f cdv))->sp vs H Q E ->
   ∃t,PSs (cw CX P w K mg base N qual scope f cdv A outer s H E) body t/\t { nx:=fun _ H'=>Q .non H',rt:=Q } (start N vs) H) :
  FnOk P w K mg base CX (k+1) f (QB name qual params body scope dV kV doc pm an cdv ct) ps sp:=by
 refine⟨len,fun A outer s H args us vs Q E hr e0 hb r hsp=>?_⟩;have hl:=len _ _ _ _ hsp;have KX:K.In s.heap:=e0.mod.kin.keeps fun b o e=>(e0.bs b o e).1;have lim:s.heap.NoLimit:=e0.mod.nolimit.keeps fun b o e=>(e0.bs b o e).1
 have hkind:∀y∈ps.zip us,scope.names.lookup y.1=some .local\/(scope.names.lookup y.1=some .cell/\((X9 (s.heap.objs.size+1) scope.names []).lookup y.1).isSome=true):=fun⟨n,v⟩ hy=>by
  rcases S.par n (Va hy).1 with q|q
  .exact .inl q
  .exact .inr ⟨q,UU _ _ _ (.inl q)⟩
 refine codeAny_call_function hr.depth (KX _ _ lk) rfl S.co S.gen rfl (PySem.W.codeRec_of KX hcd) (hb _ _ _ _ ?_);refine wpAny_newFunctionEnv_cells S.kind hkind fun env he s1 x=>?_;subst he;refine⟨lim.keeps x.toInCall.keep,codeAny_func ?_⟩;obtain⟨t,ht,hq⟩:=hbody A outer s H vs Q E (hr.deeper _) hsp;have I:Inv (cw CX P w K mg base N qual scope f cdv A outer s H E) [] (start N vs) H s1:=Dt S hr.hd e0 hl r x;refine QT (ht [] s1 (start N vs) H _ I hq) (fun fl s' hs=>?_) fun e s' hs=>hs
 have fin:∀{σ':St}{H':Hp}{v:V}{u:Pb},Inv (cw CX P w K mg base N qual scope f cdv A outer s H E) [] σ' H' s'->RelV v u->Q v H'->CE outer P w H s Q u s':=
  fun {σ' H' v u} J rv q=>⟨v,H',J.os,J.bare,J.base,J.hok,rv,q⟩
 cases fl with
 |ret u=>
  obtain⟨v,σ',H',J,rv,q⟩:=hs;exact fin J rv q
 |next=>
  obtain⟨σ',H',J,q⟩:=hs;exact fin (v:=V.non) (u:=Qq) J rfl q
 |brk=>
  obtain⟨_,_,_,q⟩:=hs;exact Qw q
 |cont=>
  obtain⟨_,_,_,q⟩:=hs;exact Qw q
section
variable {X:Cx}{x:Str}{p pos:Pos}{e:Expr}{es:List Expr}{t:TA}{id T:String}{r:List V->Hp->VK->Prop}
def tCB(r:List V->Hp->VK->Prop)(t:TA):TE:=fun σ H Q=>t σ H fun vs H1=>r vs H1 Q
theorem kW(hc:CallR X (.builtin id) r)(hg:Gl X x)(hm:X.mg x=none)(hv:Rk x=some (.builtin id))(ha:PA X (e::es) t)(hn:x≠"__name__":=by decide)(hdb:(x == ("__debug__" : Str))=false:=by decide)
  (he:Pk (e::es) X.env=(false,eval e X.env)::Pk es X.env:=by rfl) (hpl:(Qg pos (Pk es X.env)).any (·.1)=false:=by rfl):PE X (.Call (.Name x p) (e::es) [] pos) (tCB r t):=by
 intro pins s σ H Q I h;refine Rp (jP I hg hm hv ?_ hn hdb);exact Wu (thn (ha pos pins s σ H _ I h) fun us s1 ⟨vs,H1,I1,r1,q1⟩=>hc pins s1 σ H1 vs us Q I1 r1 q1) he hpl
theorem mU(hc:CallR X (.type T) r)(hg:Gl X x)(hm:X.mg x=none)(hv:Rk x=some (.type T))(ha:PA X (e::es) t)(hn:x≠"__name__":=by decide)(hdb:(x == ("__debug__" : Str))=false:=by decide)
  (he:Pk (e::es) X.env=(false,eval e X.env)::Pk es X.env:=by rfl) (hpl:(Qg pos (Pk es X.env)).any (·.1)=false:=by rfl):PE X (.Call (.Name x p) (e::es) [] pos) (tCB r t):=by
 intro pins s σ H Q I h;refine Rp (jP I hg hm hv ?_ hn hdb);exact R3 (thn (ha pos pins s σ H _ I h) fun us s1 ⟨vs,H1,I1,r1,q1⟩=>hc pins s1 σ H1 vs us Q I1 r1 q1) he hpl
end
end L2
namespace HT
open PySem PyProof.Rows
section
open PySem.SeqAt
open PySem.AutoSeq1 (wpAny_loadPart')
open PySem.MeetsSeq PySem.MeetsSeq2 PySem.MeetsSeq3
end
section
variable {prog:Px}{w:PY}{A:PZ}{E:Pb->Pf->Prop}{s:Pf}
theorem Hb(ht:Vm s.heap t vs.toArray)(hb:Vm s.heap b ws.toArray)(hv:vs≠[])
  (h1:ws=[]->Q (.ref t) s) (h2:ws≠[]->Q (.ref s.heap.objs.size) { s with heap:=s.heap.push { cls:=.type "tuple",data:=.seq (vs++ws).toArray } })
  (hsz:vs.length+ws.length<=Pp):PP (PX prog w) A (QU .Add (.ref t) (.ref b)) Q E s:=by
 obtain⟨⟨cls,dd,data,sl⟩,ho,hc,n,hd⟩:=id ht;obtain⟨⟨cls2,dd2,data2,sl2⟩,ho2,hc2,n2,hd2⟩:=id hb;simp only at hc hd hc2 hd2;subst hc hd hc2 hd2
 have e:vs.toArray++ws.toArray=(vs++ws).toArray:=by simp
 by_cases hw:ws=[]
 .exact UV ⟨_,ho,rfl⟩ ⟨_,ho2,rfl⟩ UB VM SF Sy (Si _ _)
   (tuple_addW1 t b vs.toArray ws.toArray n n2 dd dd2 sl sl2 (by simpa using hv) (by simp[hw])) ⟨ho,ho2,h1 hw⟩
 .refine UV ⟨_,ho,rfl⟩ ⟨_,ho2,rfl⟩ UB VM SF Sy (Si _ _)
   (tuple_addW2 t b vs.toArray ws.toArray n n2 dd dd2 sl sl2 (by simpa using hv) (by simpa using hw) (by rw[Pr,Pr];exact hsz)) ⟨ho,ho2,?_⟩
  rw[e];exact h2 hw
def sIx(n d:Nat):Option Int->Nat
 |none=>d
 |some v=>if v<0 then (v+(n:Int)).toNat else min v.toNat n
theorem w6(n d k:Nat):sIx n d (some (k:Int))=min k n:=by
 show (if (k:Int)<0 then ((k:Int)+(n:Int)).toNat else min (k:Int).toNat n)=min k n;rw[if_neg (by omega),Uj]
theorem HS(n d:Nat)(hd:d<=n)(o:Option Int):sIx n d o<=n:=by
 cases o with
 |none=>exact hd
 |some v=>
  show (if v<0 then (v+(n:Int)).toNat else min v.toNat n)<=n
  by_cases hv:v<0
  .rw[if_pos hv];omega
  .rw[if_neg hv];exact Nat.min_le_right _ _
theorem yv(v:Int)(n d:Nat):(if v<0 then max (v+(n:Int)) 0 else min v (n:Int))=((sIx n d (some v):Nat):Int):=by
 show (if v<0 then max (v+(n:Int)) 0 else min v (n:Int))=(((if v<0 then (v+(n:Int)).toNat else min v.toNat n):Nat):Int)
 by_cases hv:v<0
 .simp only[if_pos hv];omega
 .simp only[if_neg hv];omega
theorem CM(lo hi:Option Int)(n:Nat):Sd lo hi 1 (n:Int)=(((sIx n 0 lo:Nat):Int),((sIx n n hi:Nat):Int)):=by
 have h1:¬((1:Int)<0):=by omega
 unfold Sd;simp only[h1,if_false];refine Prod.ext ?_ ?_
 .cases lo with
  |none=>rfl
  |some v=>exact yv v n 0
 .cases hi with
  |none=>rfl
  |some v=>exact yv v n n
theorem Cp(i j:Nat):Ry (i:Int) (j:Int) 1=j-i:=by
 unfold Ry
 have h1:(1:Int)>0:=by omega
 simp only[h1,if_true,Yl]
 split <;> omega
theorem uu(p:UW v o)(h:Q o s):PP (PX prog w) A (WR v) Q E s:=by
 cases p with
 |none=>exact slicePart_none h
 |int i t=>exact slicePart_int h
theorem tZ{sl:Addr}{vl vu:Pb}{lo hi:Option Int}{n:Nat}{Q:Int×Int×Nat->Pf->Prop}(hs:s.heap.IsSliceOf sl vl vu .none)(pl:UW vl lo)(pu:UW vu hi)
  (h:Q (((sIx n 0 lo:Nat):Int),1,sIx n n hi-sIx n 0 lo) s):PP (PX prog w) A (TR (.ref sl) (pure (n:Int))) Q E s:=by
 obtain⟨os,hos,hcs,hds⟩:=id hs;unfold TR Xz;refine Pd (Pd (Rm hos hds (x:=vl) rfl (Pd (Rm hos hds (x:=vu) rfl (Pd (Rm hos hds (x:=.none) rfl (Pw ?_)))))));refine Pd (slicePart_none ?_);show PP _ _ (if ((1:Int) == 0)=true then _ else _) _ _ s;rw[if_neg (by decide)];refine Pd (uu pl (Pd (uu pu (Pd (Pw ?_)))));show PP _ _ (match Sd lo hi 1 (n:Int) with|(lo,hi)=>pure (lo,(1:Int),Ry lo hi 1)) _ _ s;rw[CM lo hi n];show PP _ _ (pure (((sIx n 0 lo:Nat):Int),(1:Int),Ry ((sIx n 0 lo:Nat):Int) ((sIx n n hi:Nat):Int) 1)) _ _ s;rw[Cp];exact Pw h
theorem Em(xs:Array Pb)(i k:Nat):((Re k).filterMap fun(m:Nat)=>xs[((i:Int)+(m:Int)*1).toNat]?).toArray=((xs.toList.drop i).take k).toArray:=by
 have e:(fun(m:Nat)=>xs[((i:Int)+(m:Int)*1).toNat]?)=fun m=>xs[i+m]?:=by
  funext m
  have:((i:Int)+(m:Int)*1).toNat=i+m:=by omega
  rw[this]
 rw[e];have:=pick_run xs i k;rw[VW] at this;have e2:((fun x=>xs[x]?) ∘ fun x=>i+x)=fun m=>xs[i+m]?:=rfl;rw[e2] at this;rw[this]
theorem Bo{t sl:Addr}{items:Array Pb}{vl vu:Pb}{lo hi:Option Int}{Q:Pb->Pf->Prop}(ht:Vm s.heap t items)(hs:s.heap.IsSliceOf sl vl vu .none)(pl:UW vl lo)(pu:UW vu hi)
  (hw:¬(sIx items.size 0 lo=0/\sIx items.size items.size hi=items.size))
  (h:Q (.ref s.heap.objs.size) { s with heap:=s.heap.push { cls:=.type "tuple",data:=.seq ((items.toList.drop (sIx items.size 0 lo)).take (sIx items.size items.size hi-sIx items.size 0 lo)).toArray } })
  (hsz:items.size<=Pp):PP (PX prog w) A (Uk (.ref t) (.ref sl)) Q E s:=by
 have htake:sizeOk (.seq ((items.toList.drop (sIx items.size 0 lo)).take (sIx items.size items.size hi-sIx items.size 0 lo)).toArray):=by
  show ((items.toList.drop (sIx items.size 0 lo)).take (sIx items.size items.size hi-sIx items.size 0 lo)).toArray.size<=Pp;rw[Pr,Q4,RO,Q0];omega
 have hj:sIx items.size items.size hi<=items.size:=HS _ _ (Pm _) hi;obtain⟨os,hos,hcs,hds⟩:=id hs;have hTs:s.TypeIs (.ref sl) "slice":=⟨os,hos,hcs⟩;unfold Uk
 try with_reducible refine QJ ?_
 first|refine Pd (Pw ?_)|skip
 refine Pd (V5 ht.typeIs (by decide) ?_)
 refine Pd (RP (name:=Pc "__getitem__") ht.typeIs Qt
  (Sb Qt ht.typeIs VD ?_ (VX _ _)))
 show PP _ _ (TU (.ref t) >>= _) _ _ s;refine Pd (VN ht ?_);refine Pd (Tq hTs ?_);rw[if_pos (by decide)];refine Pd (tZ hs pl pu ?_)
 have hno:¬((((sIx items.size 0 lo:Nat):Int) == 0&&(1:Int) == 1&&(sIx items.size items.size hi-sIx items.size 0 lo) == items.size)=true):=by
  intro q;rw[Po,Po] at q;have q1:((sIx items.size 0 lo:Nat):Int)=0:=eq_of_beq q.1.1;have q2:sIx items.size items.size hi-sIx items.size 0 lo=items.size:=eq_of_beq q.2;exact hw ⟨by omega,by omega⟩
 show PP _ _ (if (((sIx items.size 0 lo:Nat):Int) == 0&&(1:Int) == 1&&(sIx items.size items.size hi-sIx items.size 0 lo) == items.size)=true then _ else _) _ _ s;rw[if_neg hno,Em]
 first
  |exact Pd (m:=QR _) (Qn (Pw ⟨_,rfl,Pw h⟩) htake)
  |exact Pd (m:=QR _) (Qn (Pd (Pw (Pw ⟨_,rfl,Pw h⟩))) htake)
  |exact Pd (Pd (m:=QR _) (Qn (Pw (Pw ⟨_,rfl,Pw h⟩)) htake))
  |exact Pd (Pd (m:=QR _) (Qn (Pw ⟨_,rfl,Pw h⟩) htake))
end
end HT
namespace L2
abbrev TO:=St->Hp->(Option Int->Hp->Prop)->Prop
def PO(X:Cx)(e:Option Expr)(t:TO):Prop:=
 ∀(pins:List (Addr×Obj)) (s:Pf) (σ:St) (H:Hp) (Q:Option Int->Hp->Prop),Inv X pins σ H s->t σ H Q ->
  PP (PX X.prog X.w) X.A (evalPart e X.env) (fun u s'=>∃o H',Inv X pins σ H' s'/\UW u o/\Q o H') X.xe s
def FF:TO:=fun _ H Q=>Q none H
def JI(t:TE):TO:=fun σ H Q=>t σ H fun x H1=>∃i,x=.int i/\Q (some i) H1
section
variable {X:Cx}{e:Expr}{te:TE}{lo hi:Option Expr}{tl th:TO}{pos p2:Pos}
theorem F6:PO X none FF:=by
 intro pins s σ H Q I h;rw[evalPart_none];exact Pw ⟨none,H,I,.none,h⟩
theorem F5(h:PE X e te):PO X (some e) (JI te):=by
 intro pins s σ H Q I hw;rw[evalPart_some];refine thn (h pins s σ H _ I hw) fun u s1 ⟨x,H1,I1,r1,q1⟩=>?_;obtain⟨i,rfl,q⟩:=q1;obtain⟨t,rfl⟩:=r1;exact⟨some i,H1,I1,.int i t,q⟩
def SlR(X:Cx)(r:V->Option Int->Option Int->Hp->VK->Prop):Prop:=
 ∀(pins:List (Addr×Obj)) (s:Pf) (σ:St) (H:Hp) (x:V) (v vl vu:Pb) (lo hi:Option Int) (sl:Addr) (Q:VK),Inv X pins σ H s->RelV x v->s.heap.IsSliceOf sl vl vu .none->UW vl lo->UW vu hi->r x lo hi H Q ->
  ∃T id,VY (.type T) "__getitem__"=pure (some (.builtin id))/\s.TypeIs v T/\PP (PX X.prog X.w) X.A (Uk v (.ref sl)) (EP X pins σ Q) X.xe s
theorem SlR.or(h:SlR X r)(h':SlR X r'):SlR X (fun x lo hi H Q=>r x lo hi H Q\/r' x lo hi H Q):=by
 intro pins s σ H x v vl vu lo hi sl Q I rx hs pl pu q
 rcases q with q|q
 .exact h pins s σ H x v vl vu lo hi sl Q I rx hs pl pu q
 .exact h' pins s σ H x v vl vu lo hi sl Q I rx hs pl pu q
def tSl(r:V->Option Int->Option Int->Hp->VK->Prop)(te:TE)(tl th:TO):TE:=fun σ H Q=>te σ H fun x H1=>tl σ H1 fun l H2=>th σ H2 fun u H3=>r x l u H3 Q
theorem Ep(hr:SlR X r)(he:PE X e te)(hl:PO X lo tl)(hu:PO X hi th):PE X (.Subscript e (.Slice lo hi none p2) pos) (tSl r te tl th):=by
 intro pins s σ H Q I h;refine Subscript_ (thn (he pins s σ H _ I h) fun v s1 ⟨x,H1,I1,r1,q1⟩=>?_);refine wpAny_Slice (thn (hl pins s1 σ H1 _ I1 q1) fun vl s2 ⟨l,H2,I2,pl,q2⟩=>thn (hu pins s2 σ H2 _ I2 q2) fun vu s3 ⟨u,H3,I3,pu,q3⟩=>?_);rw[evalPart_none];refine Pw ?_;have I4:Inv X pins σ H3 { s3 with heap:=s3.heap.push { cls:=.type "slice",data:=.fields #[vl,vu,.none] } }:=I3.kept (t':=s3.toks) fun b ob q=>Pe _ q;obtain⟨T,id,hT,ht,hg⟩:=hr pins { s3 with heap:=s3.heap.push { cls:=.type "slice",data:=.fields #[vl,vu,.none] } } σ H3 x v vl vu l u s3.heap.objs.size Q I4 r1 (Yz ..) pl pu q3;show PP (PX X.prog X.w) X.A (VO e (.Slice lo hi none p2) v (.ref s3.heap.objs.size)) (EP X pins σ Q) X.xe { s3 with heap:=s3.heap.push { cls:=.type "slice",data:=.fields #[vl,vu,.none] } };exact tail_any (ops:=[.ref s3.heap.objs.size,v]) ht hT hg (by with_unfolding_all rfl)
def gN(xs:List V)(lo hi:Option Int):List V:=(xs.drop (HT.sIx xs.length 0 lo)).take (HT.sIx xs.length xs.length hi-HT.sIx xs.length 0 lo)
theorem uo(xs:List V)(lo hi:Option Int):(gN xs lo hi).length<=xs.length:=by
 unfold gN;rw[Q4,RO];omega
def Lb(K:Frag):V->Option Int->Option Int->Hp->VK->Prop:=fun x lo hi H Q=>∃a xs,x=.ref a/\SqT K H a xs /\
 ¬(HT.sIx xs.length 0 lo=0/\HT.sIx xs.length xs.length hi=xs.length)/\∀p,H p=none->Q (.ref p) (upd H p (.tup (gN xs lo hi)))
theorem HP:SlR X (Lb X.K):=by
 intro pins s σ H x v vl vu lo hi sl Q I rx hs pl pu h;obtain⟨a,xs,rfl,hx,hw,q⟩:=h;cases rx;obtain⟨its,r,ht,hz⟩:=I.tuple hx
 have hlen:its.toArray.size=xs.length:=by rw[Pr];exact r.length.symm
 refine⟨"tuple",_,Qt.lookup,ht.typeIs,?_⟩;refine HT.Bo ht hs pl pu (by rw[hlen];exact hw) ?_ (by rw[hlen];exact hz);rw[hlen];refine⟨.ref s.heap.objs.size,_,I.laid (t':=s.toks) (o:=.tup (gN xs lo hi)) (fun b ob q=>Pe _ q) (Pm _) ?_,rfl,q _ (I.hok.fresh (Pm _))⟩;exact⟨PL (uo xs lo hi) hz,_,(r.drop (HT.sIx xs.length 0 lo)).take (HT.sIx xs.length xs.length hi-HT.sIx xs.length 0 lo),UC _ _⟩
def JR(K:Frag):R2:=fun x y H Q=>∃a b xs ys,x=.ref a/\y=.ref b/\SqT K H a xs/\SqT K H b ys/\xs≠[]/\xs.length+ys.length<=Pp /\
 (ys=[]->Q (.ref a) H)/\(ys≠[]->∀p,H p=none->Q (.ref p) (upd H p (.tup (xs++ys))))
theorem Vals.nil_iff(r:Vals xs us):us=[]↔xs=[]:=by
 cases r with
 |nil=>simp
 |cons _ _=>simp
theorem Ge:OpR X (QU .Add) (JR X.K):=by
 intro pins s σ H x y v u Q I rx ry h;obtain⟨a,b,xs,ys,rfl,rfl,ha,hb,hx,hz,q1,q2⟩:=h;cases rx;cases ry;obtain⟨its,r1,p1,_⟩:=I.tuple ha;obtain⟨its2,r2,p2,_⟩:=I.tuple hb;refine HT.Hb p1 p2 (fun z=>hx (r1.nil_iff.mp z)) (fun z=>⟨.ref a,H,I,rfl,q1 (r2.nil_iff.mp z)⟩) (fun z=>?_) (by rw[←r1.length,←r2.length];exact hz);refine⟨.ref s.heap.objs.size,_,I.laid (t':=s.toks) (o:=.tup (xs++ys)) (fun b ob q=>Pe _ q) (Pm _) ?_,rfl,q2 (fun w=>z (r2.nil_iff.mpr w)) _ (I.hok.fresh (Pm _))⟩;exact⟨by rw[PN];exact hz,_,r1.append r2,UC _ _⟩
end
def ixN(n:Nat)(i:Int):Option Nat:=if 0<=i then (if i<n then some i.toNat else none) else if -(n:Int)<=i then some (i+n).toNat else none
def atI{α:Type}(xs:List α)(i:Int):Option α:=(ixN xs.length i).bind fun j=>xs[j]?
theorem xS(h:ixN n i=some j):seqIndex? i n=some j/\j<n/\-(n:Int)<=i/\i<n:=by
 unfold ixN at h
 by_cases h0:0<=i
 .rw[if_pos h0] at h
  by_cases h1:i<n
  .rw[if_pos h1] at h
   have e:i.toNat=j:=Qa h;exact⟨by rw[WK h0 h1,e],by omega,by omega,h1⟩
  .rw[if_neg h1] at h;cases h
 .rw[if_neg h0] at h
  by_cases h1 : -(n:Int)<=i
  .rw[if_pos h1] at h
   have e:(i+n).toNat=j:=Qa h;exact⟨by rw[V6 (by omega) h1,e],by omega,h1,by omega⟩
  .rw[if_neg h1] at h;cases h
theorem se{α:Type}{xs:List α}{i:Int}{v:α}(h:atI xs i=some v):∃j,seqIndex? i xs.length=some j/\xs[j]? = some v/\j<xs.length/\-(xs.length:Int)<=i/\i<xs.length:=by
 unfold atI at h
 cases e:ixN xs.length i with
 |none=>rw[e] at h;cases h
 |some j=>
  rw[e] at h;obtain⟨h1,h2,h3,h4⟩:=xS e;exact⟨j,h1,h,h2,h3,h4⟩
theorem Hf{α:Type}{xs:List α}{j:Nat}{v:α}(h:xs[j]? = some v):atI xs (j:Int)=some v:=by
 have hj:j<xs.length:=(Ph.mp h).1
 have e:ixN xs.length (j:Int)=some j:=by
  unfold ixN;rw[if_pos (by omega),if_pos (by omega)];simp
 unfold atI;rw[e];exact h
def yz(b:Expr):Prop:=∀o i,WL b false o i=operate [o,i] (Uk o i)
def IxR(X:Cx)(r:R2):Prop:=
 ∀(value slice:Expr) (pins:List (Addr×Obj)) (s:Pf) (σ:St) (H:Hp) (x y:V) (v u:Pb) (Q:VK),Inv X pins σ H s->RelV x v->RelV y u->r x y H Q ->
  WL slice false v u=operate [v,u] (Uk v u)->PP (PX X.prog X.w) X.A (VO value slice v u) (EP X pins σ Q) X.xe s
def MtR(X:Cx)(id:String)(r:V->List V->Hp->VK->Prop):Prop:=
 ∀(pins:List (Addr×Obj)) (s:Pf) (σ:St) (H:Hp) (x:V) (xs:List V) (v:Pb) (us:List Pb) (Q:VK),Inv X pins σ H s->RelV x v->Vals xs us->r x xs H Q ->
  PP (PX X.prog X.w) X.A (call (.builtin id) (v::us)) (EP X pins σ Q) X.xe s
section
variable {X:Cx}{a b:Expr}{ta tb:TE}{pos:Pos}
theorem IxR.or(h:IxR X r)(h':IxR X r'):IxR X (fun x y H Q=>r x y H Q\/r' x y H Q):=by
 intro value slice pins s σ H x y v u Q I rx ry q hs
 rcases q with q|q
 .exact h value slice pins s σ H x y v u Q I rx ry q hs
 .exact h' value slice pins s σ H x y v u Q I rx ry q hs
theorem MtR.or{id:String}{r r':V->List V->Hp->VK->Prop}(h:MtR X id r)(h':MtR X id r'):MtR X id (fun x xs H Q=>r x xs H Q\/r' x xs H Q):=by
 intro pins s σ H x xs v us Q I rx rs q
 rcases q with q|q
 .exact h pins s σ H x xs v us Q I rx rs q
 .exact h' pins s σ H x xs v us Q I rx rs q
theorem JX(hr:IxR X r)(ha:PE X a ta)(hb:PE X b tb)(hs:yz b):PE X (.Subscript a b pos) (tOp r ta tb):=by
 intro pins s σ H Q I h;exact Subscript_ (tP ha hb I h fun v u s2 x y H2 I2 rx ry q=>hr a b pins s2 σ H2 x y v u Q I2 rx ry q (hs _ _))
def AK(K:Frag):R2:=fun x y H Q=>∃p xs i v,x=.ref p/\y=.int i/\SqL K H p xs/\atI xs i=some v/\Q v H
def AI(K:Frag):R2:=fun x y H Q=>∃p xs i v,x=.ref p/\y=.int i/\SqT K H p xs/\atI xs i=some v/\Q v H
def AJ:R2:=fun x y H Q=>∃z i c,x=.str z/\y=.int i/\z.length<=Pp/\atI z.cps.toList i=some c/\Q (.str ⟨#[c]⟩) H
theorem ix_list:IxR X (AK X.K):=by
 intro value slice pins s σ H x y v u Q I rx ry h hs;obtain⟨p,xs,i,z,rfl,rfl,hq,he,q⟩:=h;cases rx;obtain⟨t,rfl⟩:=ry;obtain⟨its,r,pl,hz⟩:=I.list hq;obtain⟨j,h1,h2,h3,h4,h5⟩:=se he;obtain⟨w,ew,rw'⟩:=r.get h2;have hl:=r.length;have hn:=iR;have fin:EP X pins σ Q w s:=⟨z,H,I,rw',q⟩
 by_cases h0:0<=i
 .have hj:i.toNat=j:=by
   rw[WK h0 h5] at h1;exact Qa h1
  exact item_listR pl.isList h0 (by omega) (by rw[hj];simpa using ew) fin hs
 .have hj:(i+(its.toArray.size:Int)).toNat=j:=by
   rw[V6 (by omega) h4] at h1;rw[Pr,←hl];exact Qa h1
  exact UX (x:=w) pl.isList.typeIs V7.lookup
   (wpAny_getItem_list_neg (Q:=fun r s'=>r=w/\EP X pins σ Q r s') pl.isList (by omega) (by rw[Pr] <;> omega) (by omega) (by rw[hj];simpa using ew) ⟨rfl,fin⟩) hs
theorem ix_tup:IxR X (AI X.K):=by
 intro value slice pins s σ H x y v u Q I rx ry h hs;obtain⟨p,xs,i,z,rfl,rfl,hq,he,q⟩:=h;cases rx;obtain⟨t,rfl⟩:=ry;obtain⟨its,r,pl,hz⟩:=I.tuple hq;obtain⟨j,h1,h2,h3,h4,h5⟩:=se he;obtain⟨w,ew,rw'⟩:=r.get h2;have hl:=r.length;have hn:=iR;have fin:EP X pins σ Q w s:=⟨z,H,I,rw',q⟩
 exact UX (x:=w) pl.typeIs slot_tuple_getitem.lookup
  (getItem_tuple (j:=j) (Q:=fun r s'=>r=w/\EP X pins σ Q r s') pl (by omega) (by omega) (by rw[Pr,←hl];exact h1) (by simpa using ew) ⟨rfl,fin⟩) hs
theorem II:IxR X AJ:=by
 intro value slice pins s σ H x y v u Q I rx ry h hs;obtain⟨z,i,c,rfl,rfl,hz,he,q⟩:=h;obtain⟨t,rfl⟩:=rx;obtain⟨t',rfl⟩:=ry;obtain⟨j,h1,h2,h3,h4,h5⟩:=se he
 have hl:z.cps.toList.length=z.length:=by simp[Str.length]
 rw[hl] at h1 h4 h5;have hn:=iR
 exact tail_any (Xb s z t) slot_str_getitem.lookup (getItem_str (c:=c) (by
  have e1:decide (i < -(2^63:Int))=false:=decide_eq_false (by omega);have e2:decide (i>=2^63)=false:=decide_eq_false (by omega)
  rw[e1,e2,VP]) (by rw[h1];simpa using h2) ⟨.str ⟨#[c]⟩,H,I.tok _,⟨_,rfl⟩,q⟩) hs
def rIx(K:Frag):R2:=fun x y H Q=>AK K x y H Q\/AI K x y H Q\/AJ x y H Q
theorem IJ:IxR X (rIx X.K):=ix_list.or (ix_tup.or II)
theorem Cv(its:List Pb)(n j:Nat)(u:Pb):SY (·.setIfInBounds j u) { cls:=.type "list",data:=.seq its.toArray n } = { cls:=.type "list",data:=.seq (its.set j u).toArray n }:=by simp[SY]
theorem Inv.lst(I:Inv X pins σ H s)(h:H p=some (.lst xs)) :
  ∃(its:List Pb) (n:Nat),Vals xs its/\s.heap.get? p=some { cls:=.type "list",data:=.seq its.toArray n }/\xs.length<=sizeLine:=by
 obtain⟨z,its,n,r,e⟩:=I.hok p _ h;exact⟨its,n,r,e,z⟩
theorem Inv.lstUpd{s:Pf}{xs ys:List V}{its its':List Pb}{f:Obj->Obj}(I:Inv X pins σ H s)(h:H p=some (.lst xs))
  (ho:s.heap.get? p=some { cls:=.type "list",data:=.seq its.toArray n }) (hf:f { cls:=.type "list",data:=.seq its.toArray n } = { cls:=.type "list",data:=.seq its'.toArray n' }) (r:Vals ys its') (hz:ys.length<=Pp) (t:Nat) :
  Inv X pins σ (upd H p (.lst ys)) { s with heap:=s.heap.update p f,toks:=t }:=by
 have e:(s.heap.update p f).get? p=some { cls:=.type "list",data:=.seq its'.toArray n' }:=by
  rw[Qu f ho (by rw[hf] <;> rfl),hf]
 refine I.write (x:=p) (e:=p) (by rw[h];trivial) (.inl rfl) (fun b u hb q=>(PQ _ _ (QW hb)).trans q) ⟨_,e⟩ ?_;exact⟨hz,its',n',r,e⟩
def JQ:V->V->V->Hp->(Hp->Prop)->Prop:=fun o i v H Q=>∃p xs k j,o=.ref p/\i=.int k/\H p=some (.lst xs)/\ixN xs.length k=some j/\Q (upd H p (.lst (xs.set j v)))
theorem set_list:Bh X JQ:=by
 intro pins s σ H o i v ov iv u Q I ro ri rv h;obtain⟨p,xs,k,j,rfl,rfl,hp,hj,q⟩:=h;cases ro;obtain⟨t,rfl⟩:=ri;obtain⟨its,n,r,ho,hz⟩:=I.lst hp;obtain⟨h1,h2,h3,h4⟩:=xS hj;have hl:=r.length;have hn:=iR
 have I':Inv X pins σ (upd H p (.lst (xs.set j v))) { s with heap:=s.heap.update p (SY (·.setIfInBounds j u)) }:=
  I.lstUpd hp ho (Cv its n j u) (r.set rv j) (by rw[WS];exact hz) s.toks
 by_cases h0:0<=k
 .have hk:k.toNat=j:=by
   rw[WK h0 h4] at h1;exact Qa h1
  exact PySem.W.ki_setAt ho h0 (by omega) (by rw[Pr,←hl];exact h4) (by rw[hk];exact⟨_,I',q⟩)
 .have hk:(k+(its.toArray.size:Int)).toNat=j:=by
   rw[V6 (by omega) h3] at h1;rw[Pr,←hl];exact Qa h1
  exact PySem.W.ki_setBack ho (by omega) (by rw[Pr,←hl];exact h3) (by omega) (by rw[hk];exact⟨_,I',q⟩)
theorem BO(lo hi:Option Int)(n:Nat):(Sz lo hi none n).1=((HT.sIx n 0 lo:Nat):Int)/\(Sz lo hi none n).2.1=((HT.sIx n n hi:Nat):Int)/\(Sz lo hi none n).2.2=1:=by
 refine⟨?_,?_,rfl⟩
 .cases lo with
  |none=>simp[Sz,HT.sIx]
  |some i=>
   simp only[Sz,HT.sIx,UD,show (1:Int)>0 by decide,if_true]
   by_cases h:i<0
   .simp only[h,if_true] <;> omega
   .simp only[h,if_false] <;> omega
 .cases hi with
  |none=>simp[Sz,HT.sIx]
  |some i=>
   simp only[Sz,HT.sIx,UD,show (1:Int)>0 by decide,if_true]
   by_cases h:i<0
   .simp only[h,if_true] <;> omega
   .simp only[h,if_false] <;> omega
theorem BC(its:List Pb)(lo hi:Option Int):slicePick its.toArray lo hi none=((its.drop (HT.sIx its.length 0 lo)).take (HT.sIx its.length its.length hi-HT.sIx its.length 0 lo)).toArray:=by
 obtain⟨h1,h2,h3⟩:=BO lo hi its.toArray.size;unfold slicePick;rw[h1,h2,h3]
 simp only[sliceRange_one,pick_run,Pr] <;> rfl
def Lc(K:Frag):V->Option Int->Option Int->Hp->VK->Prop:=fun x lo hi H Q=>∃a xs,x=.ref a/\SqL K H a xs/\∀p,H p=none->Q (.ref p) (upd H p (.lst (gN xs lo hi)))
theorem sl_list:SlR X (Lc X.K):=by
 intro pins s σ H x v vl vu lo hi sl Q I rx hs pl pu h;obtain⟨a,xs,rfl,hx,q⟩:=h;cases rx;obtain⟨its,r,ht,hz⟩:=I.list hx;have hlen:=r.length;refine⟨"list",_,V7.lookup,ht.isList.typeIs,?_⟩;refine wpAny_getItem_list_slice ht.isList hs pl pu .none (by simp) ?_ (by rw[Pr] <;> omega);rw[BC,←hlen];refine⟨.ref s.heap.objs.size,_,I.laid (t':=s.toks) (o:=.lst (gN xs lo hi)) (fun b ob q=>Pe _ q) (Pm _) ?_,rfl,q _ (I.hok.fresh (Pm _))⟩;exact⟨PL (uo xs lo hi) hz,_,0,(r.drop (HT.sIx xs.length 0 lo)).take (HT.sIx xs.length xs.length hi-HT.sIx xs.length 0 lo),PM _ rfl⟩
def fZ:V->Bool
 |.non=>true
 |.bl _=>true
 |.int _=>true
 |.str _=>true
 |_=>false
noncomputable def eqV:V->V->Bool
 |.non,.non=>true
 |.bl a,.bl b=>a == b
 |.bl a,.int b=>(if a then 1 else 0) == b
 |.int a,.bl b=>a == (if b then 1 else 0)
 |.int a,.int b=>a == b
 |.str a,.str b=>a == b
 |_,_=>false
theorem Jj(ry:RelV y u)(rx:RelV x v)(fy:fZ y=true)(fx:fZ x=true):Xc A s u v (eqV y x):=by
 cases y with
 |non=>
  cases ry
  cases x with
  |non=>cases rx;exact Tc _
  |bl b=>cases rx;exact SeqAt.EqAt.none_bool b
  |int b=>obtain⟨t,rfl⟩:=rx;exact VE b t
  |str b=>obtain⟨t,rfl⟩:=rx;exact VF b t
  |_=>exact absurd (show false=true from fx) Pu
 |bl a=>
  cases ry
  cases x with
  |non=>cases rx;exact SeqAt.EqAt.bool_none a
  |bl b=>cases rx;exact SeqAt.EqAt.bool_bool a b
  |int b=>obtain⟨t,rfl⟩:=rx;exact SeqAt.EqAt.bool_int a b t
  |str b=>obtain⟨t,rfl⟩:=rx;exact SeqAt.EqAt.bool_str a b t
  |_=>exact absurd (show false=true from fx) Pu
 |int a=>
  obtain⟨t',rfl⟩:=ry
  cases x with
  |non=>cases rx;exact VG a t'
  |bl b=>cases rx;exact SeqAt.EqAt.int_bool a t' b
  |int b=>obtain⟨t,rfl⟩:=rx;exact SeqAt.EqAt.int_int a t' b t
  |str b=>obtain⟨t,rfl⟩:=rx;exact Tw a t' b t
  |_=>exact absurd (show false=true from fx) Pu
 |str a=>
  obtain⟨t',rfl⟩:=ry
  cases x with
  |non=>cases rx;exact VH a t'
  |bl b=>cases rx;exact SeqAt.EqAt.str_bool a t' b
  |int b=>obtain⟨t,rfl⟩:=rx;exact Tx a t' b t
  |str b=>obtain⟨t,rfl⟩:=rx;exact SeqAt.EqAt.str_str a t' b t
  |_=>exact absurd (show false=true from fx) Pu
 |_=>exact absurd (show false=true from fy) Pu
def eqU(x:V)(u:Pb):Bool:=match u with
 |.none=>eqV .non x
 |.bool b=>eqV (.bl b) x
 |.int i _=>eqV (.int i) x
 |.str z _=>eqV (.str z) x
 |_=>false
theorem zr(r:RelV y u)(f:fZ y=true):eqU x u=eqV y x:=by
 cases y with
 |non=>cases r;rfl
 |bl b=>cases r;rfl
 |int i=>obtain⟨t,rfl⟩:=r;rfl
 |str z=>obtain⟨t,rfl⟩:=r;rfl
 |_=>exact absurd (show false=true from f) Pu
theorem lG:∀{xs:List V}{us:List Pb},Vals xs us->xs.all fZ=true->us.any (eqU x)=xs.any fun y=>eqV y x
 |_,_,.nil,_=>rfl
 |y::xs,u::us,.cons r t,f=>by
  rw[QD,Po] at f;rw[Q6,Q6,zr r f.1,lG t f.2]
theorem kZ(rx:RelV x v)(fx:fZ x=true):∀{xs:List V}{us:List Pb},Vals xs us->xs.all fZ=true->∀u∈us,Xc A s u v (eqU x u)
 |_,_,.nil,_=>fun u hu=>by cases hu
 |y::xs,u::us,.cons r t,f=>fun u' hu=>by
  rw[QD,Po] at f
  rcases Pt.mp hu with rfl|hu
  .rw[zr r f.1];exact Jj r rx f.1 fx
  .exact kZ rx fx t f.2 u' hu
def inV(x:V)(xs:List V):Bool:=xs.any fun y=>eqV y x
def rIn(K:Frag)(neg:Bool):R2:=fun x y H Q=>∃p xs,y=.ref p/\(SqL K H p xs\/SqT K H p xs)/\fZ x=true/\xs.all fZ=true/\Q (.bl (if neg then !inV x xs else inV x xs)) H
theorem vg:OpR X (PU .In) (rIn X.K false):=by
 intro pins s σ H x y v u Q I rx ry h;obtain⟨p,xs,rfl,hq,fx,fs,q⟩:=h;cases ry
 rcases hq with hq|hq
 .obtain⟨its,r,pl,hz⟩:=I.list hq
  refine SeqAt.in_listAt (eqU x) pl.isList (fun w hw=>kZ rx fx r fs w (by simpa using hw)) ⟨.bl _,H,I,rfl,?_⟩;rw[show its.toArray.any (eqU x)=its.any (eqU x) by simp,lG r fs];exact q
 .obtain⟨its,r,pl,hz⟩:=I.tuple hq
  refine Wv (eqU x) pl (fun w hw=>kZ rx fx r fs w (by simpa using hw)) ⟨.bl _,H,I,rfl,?_⟩;rw[show its.toArray.any (eqU x)=its.any (eqU x) by simp,lG r fs];exact q
theorem uf:OpR X (PU .NotIn) (rIn X.K true):=by
 intro pins s σ H x y v u Q I rx ry h;obtain⟨p,xs,rfl,hq,fx,fs,q⟩:=h;cases ry
 rcases hq with hq|hq
 .obtain⟨its,r,pl,hz⟩:=I.list hq
  refine SeqAt.notIn_listAt (eqU x) pl.isList (fun w hw=>kZ rx fx r fs w (by simpa using hw)) ⟨.bl _,H,I,rfl,?_⟩;rw[show its.toArray.any (eqU x)=its.any (eqU x) by simp,lG r fs];exact q
 .obtain⟨its,r,pl,hz⟩:=I.tuple hq
  refine SeqAt.notIn_tupleAt (eqU x) pl (fun w hw=>kZ rx fx r fs w (by simpa using hw)) ⟨.bl _,H,I,rfl,?_⟩;rw[show its.toArray.any (eqU x)=its.any (eqU x) by simp,lG r fs];exact q
theorem call_len_seq:CallR X (.builtin "len") (fun xs H Q=>∃p ys,xs=[.ref p]/\(SqL X.K H p ys\/SqT X.K H p ys)/\Q (.int ys.length) H):=by
 intro pins s σ H xs us Q I r h;obtain⟨p,ys,rfl,hq,q⟩:=h;obtain⟨u,rfl,rx⟩:=vals1 r;cases rx;have hn:=iR
 rcases hq with hq|hq
 .obtain⟨its,r',pl,hz⟩:=I.list hq
  have hlen:=r'.length;exact Calls.call_len_list pl.isList (by simp only[Pr] <;> omega) ⟨.int ys.length,H,I.tok _,⟨s.toks+1,by rw[Pr,hlen]⟩,q⟩
 .obtain⟨its,r',pl,hz⟩:=I.tuple hq
  have hlen:=r'.length;exact len_tuple pl (by simp only[Pr] <;> omega) ⟨.int ys.length,H,I.tok _,⟨s.toks+1,by rw[Pr,hlen]⟩,q⟩
theorem call_len_str:CallR X (.builtin "len") (fun xs H Q=>∃z,xs=[.str z]/\z.length<=Pp/\Q (.int z.length) H):=by
 intro pins s σ H xs us Q I r h;obtain⟨z,rfl,hz,q⟩:=h;obtain⟨u,rfl,t,rfl⟩:=vals1 r;have hn:=iR;exact len_str (by omega) ⟨.int z.length,H,I.tok _,⟨_,rfl⟩,q⟩
theorem CallR.or(h:CallR X f r)(h':CallR X f r'):CallR X f (fun xs H Q=>r xs H Q\/r' xs H Q):=by
 intro pins s σ H xs us Q I rs q
 rcases q with q|q
 .exact h pins s σ H xs us Q I rs q
 .exact h' pins s σ H xs us Q I rs q
theorem BZ:CallR X (.type "list") (fun xs H Q=>∃p ys,xs=[.ref p]/\(SqL X.K H p ys\/SqT X.K H p ys)/\∀l,H l=none->Q (.ref l) (upd H l (.lst ys))):=by
 intro pins s σ H xs us Q I r h;obtain⟨p,ys,rfl,hq,q⟩:=h;obtain⟨u,rfl,rx⟩:=vals1 r;cases rx
 have fin:∀(its:List Pb),Vals ys its->ys.length<=Pp->∀(h':Heap) (c':Nat),(∀b o',s.heap.get? b=some o'->h'.get? b=some o') ->
   h'.get? s.heap.objs.size=some { cls:=.type "list",dict:=none,data:=.seq its.toArray c',slots:=#[] }->EP X pins σ Q (.ref s.heap.objs.size) { s with heap:=h' }:=fun its r' hz h' c' kp e=>
  ⟨.ref s.heap.objs.size,_,I.laid (t':=s.toks) kp (Pm _) (show ObjOk X.prog X.w _ h' _ (.lst ys) from⟨hz,its,c',r',e⟩),rfl,q _ (I.hok.fresh (Pm _))⟩
 rcases hq with hq|hq
 .obtain⟨its,r',pl,hz⟩:=I.list hq
  have hlen:=r'.length;obtain⟨o,ho,hc,n,hd⟩:=pl.isList;exact call_list_seq p (.inl rfl) ho hc hd (fun h' c' kp e=>fin its r' hz h' c' kp e) (by simp only[Pr] <;> omega)
 .obtain⟨its,r',pl,hz⟩:=I.tuple hq
  have hlen:=r'.length;obtain⟨o,ho,hc,n,hd⟩:=pl;exact call_list_seq p (.inr rfl) ho hc hd (fun h' c' kp e=>fin its r' hz h' c' kp e) (by simp only[Pr] <;> omega)
theorem BM:CallR X (.type "tuple") (fun xs H Q=>∃p ys,xs=[.ref p]/\((SqL X.K H p ys/\∀l,H l=none->Q (.ref l) (upd H l (.tup ys)))\/(SqT X.K H p ys/\Q (.ref p) H))):=by
 intro pins s σ H xs us Q I r h;obtain⟨p,ys,rfl,h⟩:=h;obtain⟨u,rfl,rx⟩:=vals1 r;cases rx
 rcases h with⟨hq,q⟩|⟨hq,q⟩
 .obtain⟨its,r',pl,hz⟩:=I.list hq
  have hlen:=r'.length;refine call_tuple_list pl.isList (fun h' kp=>?_) (by simp only[Pr] <;> omega);have I1:Inv X pins σ H { s with heap:=h' }:=I.kept (t':=s.toks) kp
  have I2:Inv X pins σ (upd H h'.objs.size (.tup ys)) { s with heap:=h'.push { cls:=.type "tuple",data:=.seq its.toArray } }:=
   I1.laid (t':=s.toks) (fun b o e=>Pe _ e) (Pm _) (show ObjOk X.prog X.w _ _ _ (.tup ys) from⟨hz,its,r',UC _ _⟩)
  exact⟨.ref h'.objs.size,_,I2,rfl,q _ (I1.hok.fresh (Pm _))⟩
 .obtain⟨its,r',pl,hz⟩:=I.tuple hq
  exact call_tuple_same pl ⟨.ref p,H,I,rfl,q⟩
def tyV(K:Frag)(T:String)(x:V)(H:Hp):Prop:=match x with
 |.str _=>T="str"
 |.int _=>T="int"
 |.ref p=>(T="list"/\∃xs,SqL K H p xs)\/(T="tuple"/\∃o,K.lookup p=some o/\o.cls=.type "tuple"/\o.dict=none) \/
   (T="dict"/\((∃kvs,H p=some (.dK kvs))\/∃kvs,H p=some (.dT kvs)))\/(T="set"/\∃S n,H p=some (.set S n))
 |_=>False
theorem HB(I:Inv X pins σ H s)(r:RelV x v)(ty:tyV X.K T x H) :
  s.TypeIs v T/\∀a,v=.ref a->∃ob,s.heap.get? a=some ob/\ob.dict=none:=by
 cases x with
 |str z=>
  obtain⟨t,rfl⟩:=r;cases (show T="str" from ty);exact⟨Xb s z t,fun _ e=>nomatch e⟩
 |int i=>
  obtain⟨t,rfl⟩:=r;cases (show T="int" from ty);exact⟨Xe s i t,fun _ e=>nomatch e⟩
 |ref p=>
  cases r
  rcases ty with⟨rfl,xs,hq⟩|⟨rfl,o,hk,hc,hd⟩|⟨rfl,hk⟩|⟨rfl,S,n,hk⟩
  .obtain⟨its,_,pl,_⟩:=I.list hq
   refine⟨pl.isList.typeIs,fun a e=>?_⟩;cases e;obtain⟨o,n,e,c,hd,_⟩:=pl;exact⟨o,e,hd⟩
  .refine⟨⟨o,I.kIn p o hk,hc⟩,fun a e=>?_⟩
   cases e;exact⟨o,I.kIn _ o hk,hd⟩
  .have z:∃o,s.heap.get? p=some o/\o.ExactDict:=by
    rcases hk with⟨kvs,hk⟩|⟨kvs,hk⟩
    .obtain⟨_,_,_,_,o,_,_,e,ex,_⟩:=I.hok p _ hk
     exact⟨o,e,ex⟩
    .obtain⟨_,_,_,_,o,_,_,e,ex,_⟩:=I.hok p _ hk
     exact⟨o,e,ex⟩
   obtain⟨o,e,ex⟩:=z;refine⟨⟨o,e,ex.1⟩,fun a e2=>?_⟩;cases e2;exact⟨o,e,ex.2.1⟩
  .obtain⟨o,_,_,_,e,ex,_⟩:=I.hok p _ hk
   refine⟨⟨o,e,ex.1⟩,fun a e2=>?_⟩;cases e2;exact⟨o,e,ex.2.1⟩
 |_=>exact Qw ty
def tBM(K:Frag)(T:String)(r:V->List V->Hp->VK->Prop)(to:TE)(t:TA):TE:=fun σ H Q=>to σ H fun x H1=>tyV K T x H1/\t σ H1 fun xs H2=>r x xs H2 Q
variable {o e:Expr}{es:List Expr}{to:TE}{t:TA}{name:Str}{apos cpos:Pos}{T id:String}{r:V->List V->Hp->VK->Prop}
theorem lP(pa:PlainAttrs T)(slot:Slot T name id)(hty:typeOf (.builtin id)=pure (.type "method_descriptor"))(hm:MtR X id r)(ho:PE X o to)(ha:PA X (e::es) t)
  (hbase:Q7 o name X.env (eval o X.env)=eval o X.env:=by rfl)
  (hfew:((Qg cpos (Pk (e::es) X.env)).all (fun x=>!x.1)&&(Rq cpos (QH [] X.env)).all (fun x=>x.1.isSome)
   && decide ((e::es).length+([]:List Rb).length+(if ([]:List Rb).isEmpty then 0 else 1)<30))=true:=by rfl)
  (hline:(apos.endLine == cpos.line)=true:=by rfl) (hs:Pk (e::es) X.env=(false,eval e X.env)::Pk es X.env:=by rfl) (hplain:(Qg cpos (Pk es X.env)).any (·.1)=false:=by rfl) :
  PE X (.Call (.Attribute o name apos) (e::es) [] cpos) (tBM X.K T r to t):=by
 intro pins s σ H Q I h;refine wpAny_Call_method_late hbase hfew hline rfl (thn (ho pins s σ H _ I h) fun v s1 ⟨x,H1,I1,r1,ty,q1⟩=>?_);obtain⟨h1,h2⟩:=HB I1 r1 ty;refine⟨T,id,pa,slot,hty,h1,h2,?_⟩;have hA:=ha cpos pins s1 σ H1 _ I1 q1;rw[hs] at hA ⊢;refine SG (by show (false||(Qg cpos (Pk es X.env)).any (·.1))=false;rw[hplain] <;> rfl) (Vo ?_);exact thn hA fun us s2 ⟨vs,H2,I2,r2,q2⟩=>hm pins s2 σ H2 x vs v us Q I2 r1 r2 q2
end
def MtM(X:Cx)(id:String)(r:V->List V->Hp->VK->Prop):Prop:=
 ∀(pins:List (Addr×Obj)) (s:Pf) (σ:St) (H:Hp) (x:V) (xs:List V) (v:Pb) (us:List Pb) (Q:VK),Inv X pins σ H s->RelV x v->Vals xs us->r x xs H Q ->
  PP (PX X.prog X.w) X.A (call (.builtin id) (v::us)) (EP X pins σ Q) X.xe s
theorem Vals.one:∀{x:V}{us:List Pb},Vals [x] us->∃u,us=[u]/\RelV x u
 |_,_,.cons r .nil=>⟨_,rfl,r⟩
theorem Vals.rep(h:Vals xs us):∀k:Nat,Vals (PC k xs).flatten (PC k us).flatten
 |0=>.nil
 |k+1=>by
  rw[Q2,Q2,Qe,Qe];exact Vals.append h (Vals.rep h k)
theorem foldl_rep(its:List Pb):∀(k:Nat) (acc:List Pb),
  TV (fun x1 x2=>x1++x2) acc.toArray (PC k its.toArray)=(acc++(PC k its).flatten).toArray
 |0,acc=>by simp
 |k+1,acc=>by
  have e:acc.toArray++its.toArray=(acc++its).toArray:=by simp
  have e2:(acc++its)++(PC k its).flatten=acc++(PC (k+1) its).flatten:=by
   rw[Q2,Qe,SH]
  rw[←e2,←foldl_rep its k (acc++its),←e,Q2,List.foldl_cons]
section
variable {X:Cx}{pins:List (Addr×Obj)}{σ:St}{H:Hp}{s:Pf}{l b:Addr}{xs ys zs:List V}
theorem Inv.lset{its its':List Pb}{f:Array Pb->Array Pb}(I:Inv X pins σ H s)(hH:H l=some (.lst xs))
  (e:s.heap.get? l=some { cls:=.type "list",data:=.seq its.toArray n }) (hf:f its.toArray=its'.toArray) (hv:Vals ys its') (hz:ys.length<=Pp) :
  Inv X pins σ (upd H l (.lst ys)) { s with heap:=s.heap.update l (SY f),toks:=t' }:=by
 have q:=PySem.IsL.update e f;rw[hf] at q;refine I.write (x:=l) (e:=l) (by rw[hH];exact trivial) (.inl rfl) (fun b' u hb hu=>(PQ s.heap (SY f) (QW hb)).trans hu) ⟨_,q⟩ ?_;exact⟨hz,its',_,hv,q⟩
theorem Inv.lnew(I:Inv X pins σ H s)(hv:Vals ys its)(hz:ys.length<=Pp) :
  Inv X pins σ (upd H s.heap.objs.size (.lst ys)) { s with heap:=s.heap.push { cls:=.type "list",data:=.seq its.toArray },toks:=t' }:=I.laid (fun _ _ q=>Pe _ q) (Pm _) ⟨hz,its,0,hv,PM _ rfl⟩
theorem Inv.fresh(I:Inv X pins σ H s):H s.heap.objs.size=none:=I.hok.fresh (Pm _)
theorem Inv.lstM(I:Inv X pins σ H s)(hH:H l=some (.lst xs)):xs.length<=Pp/\∃(its:List Pb) (n:Nat),Vals xs its/\xs.length=its.length/\s.heap.get? l=some { cls:=.type "list",data:=.seq its.toArray n }:=by
 obtain⟨z,its,n,r,e⟩:=I.hok l _ hH;exact⟨z,its,n,r,r.length,e⟩
theorem EC(h:n<=Pp):RG n=false:=by
 unfold RG;exact decide_eq_false (by omega)
end
section
variable {X:Cx}
def FR:V->List V->Hp->VK->Prop:=fun x vs H Q=>∃l xs y,x=.ref l/\vs=[y]/\H l=some (.lst xs)/\xs.length<Pp/\Q .non (upd H l (.lst (xs++[y])))
theorem C6:MtM X "list.append" FR:=by
 intro pins s σ H x vs v us Q I rx rv h;obtain⟨l,xs,y,rfl,rfl,hH,hz,q⟩:=h;cases rx;obtain⟨u,rfl,ru⟩:=rv.one;obtain⟨z,its,n,r,hl,e⟩:=I.lstM hH;refine TX F.slot_list_append ⟨_,e,rfl⟩ F.entry_list_append (F.args_list_append_2 _ _) (PySem.list_append l its.toArray n u (by rw[Pr];omega)) ⟨e,?_⟩;refine⟨.non,_,I.lset (its':=its++[u]) hH e (by simp) (r.append (.cons ru .nil)) ?_,rfl,q⟩;rw[PN,List.length_singleton];omega
theorem len_rep{α:Type}(xs:List α)(k:Nat):(PC k xs).flatten.length=k*xs.length:=by
 induction k with
 |zero=>simp
 |succ k ih=>rw[Q2,Qe,PN,ih,Nat.succ_mul,Tr]
end
section
variable {prog:Px}{w:PY}{A:PZ}{E:Pb->Pf->Prop}{s:Pf}
end
section
variable {X:Cx}
end
section
variable {κ:Type}[DecidableEq κ]
def bM(kvs:List (κ×V))(k:κ):Option V:=(kvs.find? fun kv=>decide (kv.1=k)).map (·.2)
def putK(kvs:List (κ×V))(k:κ)(v:V):List (κ×V):=if (kvs.any fun kv=>decide (kv.1=k))=true then kvs.map (fun kv=>if kv.1=k then (kv.1,v) else kv) else kvs++[(k,v)]
theorem qN{p:κ×V}(e:p.1=k):bM (p::r) k=some p.2:=by simp[bM,QS,e]
theorem qO{p:κ×V}(e:¬p.1=k):bM (p::r) k=bM r k:=by simp[bM,QS,e]
theorem qP(k:κ):∀kvs:List (κ×V),(kvs.any fun kv=>decide (kv.1=k))=(bM kvs k).isSome
 |[]=>rfl
 |p::r=>by
  rw[Q6]
  by_cases e:p.1=k
  .simp only[qN e,decide_eq_true e,Bool.true_or,VZ]
  .rw[qO e,decide_eq_false e,Bool.false_or];exact qP k r
theorem qt(kvs:List (κ×V))(k:κ)(v:V):(putK kvs k v).length<=kvs.length+1:=by
 unfold putK;split
 .rw[Qb];omega
 .rw[PN,PH,Td];omega
theorem Eg{kvs:List (κ×V)}{k:κ}(v:V)(h:bM kvs k=none):putK kvs k v=kvs++[(k,v)]:=by
 unfold putK;rw[qP,h];exact if_neg (by decide)
theorem RelO.isSome_eq(r:RelO o u):o.isSome=u.isSome:=by
 cases o with
 |none=>cases u with
  |none=>rfl
  |some _=>exact(show False from r).elim
 |some _=>cases u with
  |none=>exact(show False from r).elim
  |some _=>rfl
theorem RelO.getD(r:RelO o u)(rd:RelV d d'):RelV (o.getD d) (u.getD d'):=by
 cases o with
 |none=>cases u with
  |none=>exact rd
  |some _=>exact(show False from r).elim
 |some _=>cases u with
  |none=>exact(show False from r).elim
  |some _=>exact r
theorem KV.val(r:KV kvs vs)(k:κ):RelO (bM kvs k) (Ul vs k):=by
 unfold KV at r
 induction r with
 |nil=>exact R6
 |@cons p q ps qs h t ih=>
  obtain⟨h1,h2⟩:=h
  by_cases e:p.1=k
  .have e':q.1=k:=h1.symm.trans e
   have b:Ul (q::qs) k=some q.2:=by simp[Ul,QS,e']
   rw[qN e,b];exact h2
  .have e':¬q.1=k:=fun z=>e (h1.trans z)
   have b:Ul (q::qs) k=Ul qs k:=by simp[Ul,QS,e']
   rw[qO e,b];exact ih
theorem KV.any(r:KV kvs vs)(k:κ):(kvs.any fun kv=>decide (kv.1=k))=vs.any fun kv=>decide (kv.1=k):=by
 unfold KV at r
 induction r with
 |nil=>rfl
 |cons h t ih=>rw[Q6,Q6,ih,h.1]
theorem KV.repl(r:KV kvs vs)(k:κ)(ry:RelV y u) :
  KV (kvs.map fun kv=>if kv.1=k then (kv.1,y) else kv) (vs.map fun kv=>if kv.1=k then (kv.1,u) else kv):=by
 unfold KV at r ⊢
 induction r with
 |nil=>exact .nil
 |@cons p q ps qs h t ih=>
  rw[Pz,Pz];refine .cons ?_ ih;obtain⟨h1,h2⟩:=h
  by_cases e:p.1=k
  .rw[if_pos e,if_pos (h1.symm.trans e)];exact⟨h1,ry⟩
  .rw[if_neg e,if_neg (fun z=>e (h1.trans z))];exact⟨h1,h2⟩
theorem KV.put(r:KV kvs vs)(k:κ)(ry:RelV y u):KV (putK kvs k y) (stored vs k u):=by
 unfold putK stored;rw[r.any k]
 by_cases e:(vs.any fun kv=>decide (kv.1=k))=true
 .rw[if_pos e,if_pos e];exact r.repl k ry
 .rw[if_neg e,if_neg e];exact Yv r ⟨rfl,ry⟩
theorem KV.keys{kvs:List (κ×V)}{vs:List (κ×Pb)}(r:KV kvs vs):kvs.map (·.1)=vs.map (·.1):=by
 unfold KV at r
 induction r with
 |nil=>rfl
 |cons h t ih=>rw[Pz,Pz,ih,h.1]
theorem KV.length(r:KV kvs vs):kvs.length=vs.length:=Q5 r
end
theorem jb(r:RelV (kV k) u):(bE P w).is k u=true:=by
 cases k with
 |inl i=>obtain⟨t,e⟩:=(show ∃t,u=Ra i t from r);subst e;exact B2 P w i t
 |inr x=>obtain⟨t,e⟩:=(show ∃t,u=Tv x t from r);subst e;exact B1 P w x t
theorem vi:∀{ks:List Key}{us:List Pb},Vals (ks.map kV) us->ItemsAre (bE P w) ks us
 |[],_,r=>by rw[UY] at r;cases r;exact .nil
 |k::ks,_,r=>by
  rw[Pz] at r
  cases r with
  |cons h t=>exact .cons (jb h) (vi t)
abbrev KT(H:Hp):List (List Key×V)->List (List Key×Addr×Pb)->Prop:=Tz fun p q=>p.1=q.1/\H q.2.1=some (.tup (p.1.map kV))/\RelV p.2 q.2.2
theorem KT.val(r:KT H kvs xs)(k:List Key):RelO (bM kvs k) ((WM xs k).map (·.2)):=by
 induction r with
 |nil=>exact R6
 |@cons p q ps qs h t ih=>
  obtain⟨h1,_,h2⟩:=h
  by_cases e:p.1=k
  .have e':q.1=k:=h1.symm.trans e
   have b:WM (q::qs) k=some q.2:=by simp[WM,QS,e']
   rw[qN e,b];exact h2
  .have e':¬q.1=k:=fun z=>e (h1.trans z)
   have b:WM (q::qs) k=WM qs k:=by simp[WM,QS,e']
   rw[qO e,b];exact ih
theorem KT.repl(r:KT H kvs xs)(k:List Key)(ry:RelV y u) :
  KT H (kvs.map fun kv=>if kv.1=k then (kv.1,y) else kv) (xs.map (putAt k u)):=by
 induction r with
 |nil=>exact .nil
 |@cons p q ps qs h t ih=>
  rw[Pz,Pz];refine .cons ?_ ih;obtain⟨h1,h2,h3⟩:=h;unfold putAt
  by_cases e:p.1=k
  .rw[if_pos e,if_pos (h1.symm.trans e)];exact⟨h1,h2,ry⟩
  .rw[if_neg e,if_neg (fun z=>e (h1.trans z))];exact⟨h1,h2,h3⟩
theorem KT.put(r:KT H kvs xs)(k:List Key)(hb:H b=some (.tup (k.map kV)))(ry:RelV y u) :
  KT H (putK kvs k y) (storedH xs k b u):=by
 have e:(kvs.any fun kv=>decide (kv.1=k))=(WM xs k).isSome:=by
  rw[qP,(r.val k).isSome_eq,SJ]
 unfold putK storedH;rw[e]
 by_cases q:(WM xs k).isSome=true
 .rw[if_pos q,if_pos q];exact r.repl k ry
 .rw[if_neg q,if_neg q];exact Yv r ⟨rfl,hb,ry⟩
theorem KT.keeps(r:KT H kvs xs)(ht:∀b ys,H b=some (.tup ys)->H' b=some (.tup ys)):KT H' kvs xs:=Paired.mapP r fun _ _ z=>⟨z.1,ht _ _ z.2.1,z.2.2⟩
section
variable {P:Px}{w:PY}{H:Hp}{h:Heap}{a:Addr}
theorem zW(ok:HOk P w H h)(e:Rd H a u):ObjOk P w H h a u:=e.ok ok
theorem dI(ok:HOk P w H h)(e:Rd H a (.dK kvs)):kvs.length<=Pp/\(a == QF)=false/\∃vs,KV kvs vs/\h.DictOf (bE P w) a vs:=show ObjOk P w H h a (.dK kvs) from zW ok e
theorem KI(ok:HOk P w H h)(e:H a=some (.dK kvs)):kvs.length<=Pp/\(a == QF)=false/\∃vs,KV kvs vs/\h.DictOf (bE P w) a vs:=dI ok (.inl e)
theorem jQ(ok:HOk P w H h)(e:H a=some (.tup (ks.map kV))):(Uy (bE P w)).is h ks a:=by
 obtain⟨_,its,r,o,h1,h2,n,h3⟩:=(show ObjOk P w H h a (.tup (ks.map kV)) from ok a _ e);exact⟨o,its.toArray,n,h1,h2,h3,by simpa using vi r⟩
theorem jc(ok:HOk P w H h)(e:Rd H a (.dT kvs)):kvs.length<=Pp/\(a == QF)=false /\
  ∃xs,KT H kvs xs/\h.DictOfH (Uy (bE P w)) a xs:=by
 obtain⟨z,y,xs,r,o,es,ep,h1,h2,h3,h4,h5⟩:=(show ObjOk P w H h a (.dT kvs) from zW ok e);refine⟨z,y,xs,r,o,es,ep,h1,h2,h3,h4,fun x hx=>?_,h5⟩
 have all:∀{l:List (List Key×V)}{m:List (List Key×Addr×Pb)},KT H l m->∀x∈m,(Uy (bE P w)).is h x.1 x.2.1:=by
  intro l m q
  induction q with
  |nil=>intro x hx;exact nomatch hx
  |@cons p q ps qs hq t ih=>
   intro x hx
   rcases Pt.mp hx with e|hx
   .subst e
    exact jQ ok (by rw[←hq.1];exact hq.2.1)
   .exact ih x hx
 exact all r x hx
theorem KH(ok:HOk P w H h)(e:H a=some (.dT kvs)):kvs.length<=Pp/\(a == QF)=false /\
  ∃xs,KT H kvs xs/\h.DictOfH (Uy (bE P w)) a xs:=jc ok (.inl e)
end
def DGet(H:Hp)(a:Addr)(y:V)(r:Option V):Prop:=(∃kvs k,Rd H a (.dK kvs)/\y=kV k/\r=bM kvs k)\/∃kvs k b,Rd H a (.dT kvs)/\y=.ref b/\H b=some (.tup (k.map kV))/\r=bM kvs k
def DPut(H:Hp)(a:Addr)(y v:V)(H':Hp):Prop:=
 (∃kvs k,H a=some (.dK kvs)/\y=kV k/\kvs.length<Pp/\H'=upd H a (.dK (putK kvs k v))) \/
 ∃kvs k b,H a=some (.dT kvs)/\y=.ref b/\H b=some (.tup (k.map kV))/\kvs.length<Pp/\H'=upd H a (.dT (putK kvs k v))
theorem DPut.k{H:Hp}{a:Addr}{kvs:List (Key×V)}{k:Key}{v:V}(e:H a=some (.dK kvs))(hl:kvs.length<Pp):DPut H a (kV k) v (upd H a (.dK (putK kvs k v))):=.inl ⟨kvs,k,e,rfl,hl,rfl⟩
section
variable {X:Cx}{pins:List (Addr×Obj)}{σ:St}{H:Hp}{s:Pf}{a:Addr}{y v:V}{u r:Pb}{o:Option V}{A:PZ}{E:Pb->Pf->Prop}
theorem Inv.big(I:Inv X pins σ H s):QF<s.heap.objs.size:=by
 have h:P3<s.heap.objs.size:=(I.mod.glob.keeps I.bk).lt;exact V8 (by decide) h
theorem DN(hu:A.units+1<TL)(I:Inv X pins σ H s)(g:DGet H a y (some v))(ry:RelV y u)(h:∀w' s',Inv X pins σ H s'->RelV v w'->Q w' s') :
  PP (PX X.prog X.w) A (Uk (.ref a) u) Q E s:=by
 rcases g with⟨kvs,k,e,ey,l⟩|⟨kvs,k,b,e,ey,eb,l⟩
 .subst ey
  obtain⟨z,hd,vs,rel,dd⟩:=dI I.hok e;obtain⟨w',hw,rw'⟩:=RelO.some_of (v:=v) (o:=Ul vs k) (by rw[l];exact rel.val k);exact wpAny_getItem_of (jb ry) dd.mapOf hw (h w' _ (I.tok _) rw')
 .subst ey
  cases (show u=PJ b from ry);obtain⟨z,hd,xs,rel,dd⟩:=jc I.hok e;obtain⟨w',hw,rw'⟩:=RelO.some_of (v:=v) (o:=(WM xs k).map (·.2)) (by rw[l];exact rel.val k);obtain⟨p,hp,hp2⟩:=P7.mp hw;refine wpAny_getItem_heap (RW hu) (jQ I.hok eb) dd hp ?_;rw[hp2];exact h w' _ (I.tok _) rw'
theorem Lp(hu:A.units+1<TL)(I:Inv X pins σ H s)(g:DGet H a y o)(ry:RelV y u)(h:∀s',Inv X pins σ H s'->Q (.bool o.isSome) s') :
  PP (PX X.prog X.w) A (PU .In u (.ref a)) Q E s:=by
 rcases g with⟨kvs,k,e,ey,l⟩|⟨kvs,k,b,e,ey,eb,l⟩
 .subst ey
  obtain⟨z,hd,vs,rel,dd⟩:=dI I.hok e;refine wpAny_in_of (jb ry) hd dd.mapOf ?_;rw[←(rel.val k).isSome_eq,←l];exact h _ (I.tok _)
 .subst ey
  cases (show u=PJ b from ry);obtain⟨z,hd,xs,rel,dd⟩:=jc I.hok e;refine wpAny_in_heap (RW hu) (jQ I.hok eb) hd dd ?_;have q:=(rel.val k).isSome_eq;rw[SJ] at q;rw[←q,←l];exact h _ (I.tok _)
theorem G8(hu:A.units+1<TL)(I:Inv X pins σ H s)(g:DGet H a y o)(ry:RelV y u)(h:∀s',Inv X pins σ H s'->Q (.bool (!o.isSome)) s') :
  PP (PX X.prog X.w) A (PU .NotIn u (.ref a)) Q E s:=by
 rcases g with⟨kvs,k,e,ey,l⟩|⟨kvs,k,b,e,ey,eb,l⟩
 .subst ey
  obtain⟨z,hd,vs,rel,dd⟩:=dI I.hok e;refine wpAny_notIn_of (jb ry) hd dd.mapOf ?_;rw[←(rel.val k).isSome_eq,←l];exact h _ (I.tok _)
 .subst ey
  cases (show u=PJ b from ry);obtain⟨z,hd,xs,rel,dd⟩:=jc I.hok e;refine wpAny_notIn_heap (RW hu) (jQ I.hok eb) hd dd ?_;have q:=(rel.val k).isSome_eq;rw[SJ] at q;rw[←q,←l];exact h _ (I.tok _)
theorem yr(I:Inv X pins σ H s)(mu:Mut (H a))(hs:Sa a s.heap h')(he:∃q,h'.get? a=some q)(new:ObjOk X.prog X.w (upd H a ob) h' a ob) :
  Inv X pins σ (upd H a ob) { s with heap:=h',toks:=t' }:=I.write (x:=a) (e:=a) mu (.inl rfl) (fun b q hb z=>(hs.2 b hb).trans z) he new
theorem sP(z:kvs.length<=Pp)(hd:(a == QF)=false)(rel:KV kvs vs)(dd:h'.DictOf (bE P w) a vs) :
  ObjOk P w H' h' a (.dK kvs):=⟨z,hd,vs,rel,dd⟩
theorem DM(hu:A.units+1<TL)(I:Inv X pins σ H s)(g:DPut H a y v H')(ry:RelV y u)(rv:RelV v r)(h:∀s',Inv X pins σ H' s'->Q () s') :
  PP (PX X.prog X.w) A (Yi (.ref a) u r) Q E s:=by
 rcases g with⟨kvs,k,e,ey,l,eH⟩|⟨kvs,k,b,e,ey,eb,l,eH⟩
 .subst ey eH
  obtain⟨z,hd,vs,rel,dd⟩:=KI I.hok e
  have hz:vs.length<=sizeLine:=by rw[←rel.length];exact z
  have hl:(putK kvs k v).length<=sizeLine:=by have:=qt kvs k v;omega
  refine wpAny_setItem_pairs (hsz:=hz) (jb ry) dd fun h' dd' hs=>h _ ?_
  have he:∃q,h'.get? a=some q:=let ⟨q,_,_,hq,_⟩:=dd';⟨q,hq⟩
  exact yr I (by rw[e];exact R6) hs he (sP hl hd (rel.put k rv) dd')
 .subst ey eH
  cases (show u=PJ b from ry);obtain⟨z,hd,xs,rel,dd⟩:=KH I.hok e
  have hz:xs.length<=sizeLine:=by rw[←Q5 rel];exact z
  have hl:(putK kvs k v).length<=sizeLine:=by have:=qt kvs k v;omega
  refine wpAny_setItem_heap (hsz:=hz) (RW hu) (jQ I.hok eb) dd fun h' dd' hs=>h _ ?_;obtain⟨q,es,ep,hq,h2,h3,h4,_,h5⟩:=dd';refine yr I (by rw[e];exact R6) hs ⟨q,hq⟩ ⟨hl,hd,_,(rel.put k eb rv).keeps fun c ys ec=>?_,q,es,ep,hq,h2,h3,h4,h5⟩;rw[aR (Kf ec e (fun z=>nomatch z))];exact ec
end
section
variable {X:Cx}{pins:List (Addr×Obj)}{σ:St}{H:Hp}{s:Pf}{a:Addr}{kvs:List (Key×V)}{k:Key}{u:Pb}{A:PZ}{E:Pb->Pf->Prop}
theorem KQ(I:Inv X pins σ H s)(e:Rd H a (.dK kvs))(h:∀t s',Inv X pins σ H s'->Q (.int kvs.length t) s'):PP (PX X.prog X.w) A (call (.builtin "len") [.ref a]) Q E s:=by
 obtain⟨z,hd,vs,rel,dd⟩:=dI I.hok e;refine call_len_dict hd dd (by rw[←rel.length];rw[WI] at z;omega) ?_;rw[←rel.length];exact h _ _ (I.tok _)
end
theorem um(I:Inv X pins σ H s)(g:DGet H a y o):s.TypeIs (.ref a) "dict":=by
 rcases g with⟨kvs,k,e,_,_⟩|⟨kvs,k,b,e,_,_,_⟩
 .obtain⟨_,_,vs,_,dd⟩:=dI I.hok e
  exact dd.typeIs
 .obtain⟨_,_,xs,_,dd⟩:=jc I.hok e
  exact dd.typeIs
def JO(td ty tv:TE):TS:=fun D σ H=>tv σ H fun v H1=>td σ H1 fun x H2=>ty σ H2 fun y H3=>∃a H4,x=.ref a/\DPut H3 a y v H4/\D.nx σ H4
section
variable {X:Cx}{o i e value:Expr}{pos pos' tpos:Pos}{td ty tv:TE}
theorem F4(hu:X.A.units+1<TL)(ho:PE X o td)(hi:PE X i ty)(hv:PE X value tv)(hs:QL value (some (.Subscript o i pos')) pos.line X.env=pure false) :
  PS X (.Assign [.Subscript o i pos'] value pos) (JO td ty tv):=by
 intro pins s σ H D I h;refine wpAny_Assign_Subscript (thn (hv pins s σ H _ I h) fun r s1 ⟨v,H1,I1,rv,q1⟩=>thn (ho pins s1 σ H1 _ I1 q1) fun u s2 ⟨x,H2,I2,rx,q2⟩=>thn (hi pins s2 σ H2 _ I2 q2) fun iv s3 ⟨y,H3,I3,ry,a,H4,ex,g,q3⟩=>?_) hs;subst ex;obtain rfl:u=PJ a:=rx;exact DM hu I3 g ry rv fun s4 I4=>⟨σ,H4,I4,q3⟩
end
theorem E7(h:Heap)(hb:QF<h.objs.size):ObjOk P w H (h.push { cls:=.type "dict",data:=.dict #[] }) h.objs.size (.dK []):=⟨QE _,beq_eq_false_iff_ne.mpr (QW (PK hb)),[],.nil,WT h⟩
def HJ:TE:=fun _ H Q=>∀p,H p=none->Q (.ref p) (upd H p (.dK []))
section
variable {X:Cx}{pos:Pos}
theorem Es:PE X (.Dict [] [] pos) HJ:=fun pins s σ H Q I h=>
 wpAny_Dict_empty ⟨.ref s.heap.objs.size,_,I.laid (a:=s.heap.objs.size) (o:=.dK []) (t':=s.toks) (fun _ _ q=>Pe _ q) (Pm _) (E7 s.heap I.big),rfl,h _ (I.hok.fresh (Pm _))⟩
end
def sr:List (TE×TE)->St->Hp->(List (V×V)->Hp->Prop)->Prop
 |[],_,H,Q=>Q [] H
 |(tk,tv)::r,σ,H,Q=>tk σ H fun x H1=>tv σ H1 fun y H2=>sr r σ H2 fun ps H3=>Q ((x,y)::ps) H3
abbrev VV:List (V×V)->List (Pb×Pb)->Prop:=Tz fun p q=>RelV p.1 q.1/\RelV p.2 q.2
def PPs(X:Cx)(pos:Pos)(keys:List (Option Expr))(values:List Expr)(trs:List (TE×TE)):Prop:=
 ∀(pins:List (Addr×Obj)) (s:Pf) (σ:St) (H:Hp) (Q:List (V×V)->Hp->Prop),Inv X pins σ H s->sr trs σ H Q ->
  PP (PX X.prog X.w) X.A (evalPairs (pairTrees keys values X.env pos)) (fun vs s'=>∃ps H',Inv X pins σ H' s'/\VV ps vs/\Q ps H') X.xe s
noncomputable def fU(kvs more:List (Key×V)):List (Key×V):=more.foldl (fun acc kv=>putK acc kv.1 kv.2) kvs
theorem KV.merge:∀{more:List (Key×V)}{rs:List (Key×Pb)}{kvs:List (Key×V)}{vs:List (Key×Pb)},KV more rs->KV kvs vs->KV (fU kvs more) (Ym vs rs):=by
 intro more rs kvs vs r;unfold KV at r
 induction r generalizing kvs vs with
 |nil=>intro q;exact q
 |@cons p q ps qs h t ih=>
  intro r0
  have e:KV (putK kvs p.1 p.2) (stored vs q.1 q.2):=by
   have:=r0.put p.1 h.2;rw[←h.1];exact this
  exact ih e
theorem ud:∀(more kvs:List (Key×V)),(fU kvs more).length<=kvs.length+more.length
 |[],kvs=>by show kvs.length<=kvs.length+0;omega
 |p::r,kvs=>by
  have h1:=ud r (putK kvs p.1 p.2);have h2:=qt kvs p.1 p.2;show (fU (putK kvs p.1 p.2) r).length<=_;rw[PH];omega
structure M1(X:Cx)(o:Expr)(m:Str)(apos:Pos)(e:Expr)(cpos:Pos):Prop where
 base:Q7 o m X.env (eval o X.env)=eval o X.env
 few:((Qg cpos (Pk [e] X.env)).all (fun x=>!x.1)&&(Rq cpos (QH [] X.env)).all (fun x=>x.1.isSome)
  && decide (([e]:List Expr).length+([]:List Rb).length+(if ([]:List Rb).isEmpty then 0 else 1)<30))=true
 line:(apos.endLine == cpos.line)=true
 trees:Qg cpos (Pk [e] X.env)=[(false,eval e X.env)]
structure M2(X:Cx)(o:Expr)(m:Str)(apos:Pos)(e f:Expr)(cpos:Pos):Prop where
 base:Q7 o m X.env (eval o X.env)=eval o X.env
 few:((Qg cpos (Pk [e,f] X.env)).all (fun x=>!x.1)&&(Rq cpos (QH [] X.env)).all (fun x=>x.1.isSome)
  && decide (([e,f]:List Expr).length+([]:List Rb).length+(if ([]:List Rb).isEmpty then 0 else 1)<30))=true
 line:(apos.endLine == cpos.line)=true
 trees:Qg cpos (Pk [e,f] X.env)=[(false,eval e X.env),(false,eval f X.env)]
def IsD(H:Hp)(a:Addr):Prop:=(∃kvs,Rd H a (.dK kvs))\/∃kvs,Rd H a (.dT kvs)
theorem IR(I:Inv X pins σ H s)(d:IsD H a) :
  s.TypeIs (.ref a) "dict"/\(∀b,PJ a=.ref b->∃ob,s.heap.get? b=some ob/\ob.dict=none)/\(a == QF)=false:=by
 rcases d with⟨kvs,e⟩|⟨kvs,e⟩
 .obtain⟨_,hd,vs,_,dd⟩:=dI I.hok e
  refine⟨dd.typeIs,fun b q=>?_,hd⟩;cases q;obtain⟨ob,_,_,h1,h2,_⟩:=dd;exact⟨ob,h1,h2.2.1⟩
 .obtain⟨_,hd,xs,_,dd⟩:=jc I.hok e
  refine⟨dd.typeIs,fun b q=>?_,hd⟩;cases q;obtain⟨ob,_,_,h1,h2,_⟩:=dd;exact⟨ob,h1,h2.2.1⟩
section
variable {X:Cx}{pins:List (Addr×Obj)}{σ:St}{H:Hp}{s:Pf}{a:Addr}{y d:V}{u r:Pb}{o:Option V}{A:PZ}{E:Pb->Pf->Prop}
theorem Jo(hu:A.units+1<TL)(I:Inv X pins σ H s)(g:DGet H a y o)(ry:RelV y u)(rd:RelV d r)(h:∀w' s',Inv X pins σ H s'->RelV (o.getD d) w'->Q w' s') :
  PP (PX X.prog X.w) A (call (.builtin "dict.get") [.ref a,u,r]) Q E s:=by
 rcases g with⟨kvs,k,e,ey,l⟩|⟨kvs,k,b,e,ey,eb,l⟩
 .subst ey
  obtain⟨z,hd,vs,rel,dd⟩:=dI I.hok e;refine V9 SU dd.typeIs UZ (UE _ _ _) (meets_dict_get_default (bE X.prog X.w) a (jb ry) hd r) ⟨_,dd.mapOf,h _ _ (I.tok _) ?_⟩;rw[l];exact(rel.val k).getD rd
 .subst ey
  cases (show u=PJ b from ry);obtain⟨z,hd,xs,rel,dd⟩:=jc I.hok e;refine V9 SU dd.typeIs UZ (UE _ _ _) (meetsH_dict_get_default (Uy (bE X.prog X.w)) a b hd r) ⟨RW hu,k,xs,jQ I.hok eb,dd,h _ _ (I.tok _) ?_⟩;rw[l];exact(rel.val k).getD rd
end
def HK(td ty tx:TE):TE:=fun σ H Q=>td σ H fun x H1=>∃a,x=.ref a/\IsD H1 a/\ty σ H1 fun y H2=>tx σ H2 fun z H3=>∃o,DGet H3 a y o/\Q (o.getD z) H3
section
variable {X:Cx}{o e f:Expr}{apos cpos:Pos}{td ty tx:TE}
theorem Et(hu:X.A.units+1<TL)(ho:PE X o td)(he:PE X e ty)(hf:PE X f tx)(m:M2 X o "get" apos e f cpos):PE X (.Call (.Attribute o "get" apos) [e,f] [] cpos) (HK td ty tx):=by
 intro pins s σ H Q I h;refine wpAny_Call_method m.base m.few m.line UF SU PySem.F.type_dict_get (thn (ho pins s σ H _ I h) fun u s1 ⟨x,H1,I1,rx,a,ex,d,q1⟩=>?_);subst ex;obtain rfl:u=PJ a:=rx;obtain⟨t1,t2,_⟩:=IR I1 d;refine⟨t1,t2,?_⟩;rw[m.trees]
 refine SG rfl (Vo (TM (thn (he pins s1 σ H1 _ I1 q1) fun iv s2 ⟨y,H2,I2,ry,q2⟩=>
  TM (thn (hf pins s2 σ H2 _ I2 q2) fun fv s3 ⟨z,H3,I3,rz,ov,g,q3⟩=>V3 ?_))))
 exact Jo hu I3 g ry rz fun w' s4 I4 rw'=>⟨_,H3,I4,rw',q3⟩
end
section
variable {X:Cx}{pins:List (Addr×Obj)}{σ:St}{H:Hp}{s:Pf}{a:Addr}{kvs:List (Key×V)}{A:PZ}{E:Pb->Pf->Prop}
theorem Fc(I:Inv X pins σ H s)(e:Rd H a (.dK kvs))(h:∀p s',H p=none->Inv X pins σ (upd H p (.dK kvs)) s'->Q (.ref p) s'):PP (PX X.prog X.w) A (call (.type "dict") [.ref a]) Q E s:=by
 obtain⟨z,hd,vs,rel,dd⟩:=dI I.hok e;refine kt_call_dict hd dd (by rw[←rel.length];exact z) fun h' dd' hs=>?_;refine h _ _ (I.hok.fresh (Pm _)) (I.laid (a:=s.heap.objs.size) (o:=.dK kvs) (t':=s.toks) (fun b q hq=>?_) (Pm _) (sP z (beq_eq_false_iff_ne.mpr (QW (PK I.big))) rel dd'));exact(hs.2 b (PK (Pn hq))).trans (Pe _ hq)
end
section
variable {X:Cx}{pins:List (Addr×Obj)}{σ:St}{H:Hp}{s:Pf}{a:Addr}{y:V}{u:Pb}{A:PZ}{E:Pb->Pf->Prop}
end
end L2
namespace Att
open PySem PySem.W PySem.Calls PyProof.Rows
theorem Bt:∀(ns:List Int) (vs:List Pb),WellAll P h vs (ns.map WData.int)->W2 vs ns:=by
 intro ns
 induction ns with
 |nil=>
  intro vs w;rw[UY] at w;cases w;exact .nil
 |cons n ns ih=>
  intro vs w;rw[Pz] at w
  cases w with
  |cons a b=>
   cases a;exact .cons _ _ (ih _ b)
theorem CU{l:OpenLaw}(hn:l.most=some n){h:Heap}
  (hpre:l.row.toRowW.claim.pre args=true) (hwl:WellAll P h vals args) :
  ∃a vs ns,vals=[PJ a]/\args=[WData.list (ns.map WData.int)]/\h.get? a=some { cls:=.type "list",data:=.seq vs.toArray }/\W2 vs ns/\ns.length<=n:=by
 have hsh:WShape.hasAll [] args [.list .int]=true:=(pre_splitW hpre).1;have hc:l.pre.holds [] { args:=args } = true:=(pre_splitW hpre).2;obtain⟨d,r,rfl,h1,h2⟩:=hasAllW_cons hsh;obtain rfl:=hasAllW_nil h2;obtain⟨xs,rfl,h3⟩:=hasW_list h1;obtain⟨ns,rfl⟩:=items_int h3
 have hlen:ns.length<=n:=by
  unfold OpenLaw.pre at hc
  have h4:(WTm.not (.lt (.lit (.int (n:Int))) (.len (.arg 0)))).holds [] { args:=[.list (ns.map .int)] } = true:=by
   have h4:=(holds_andW hc).1;rw[hn] at h4;exact h4
  have h5:=condW_of h4 (w_not (w_lt w_lit (w_len_list (w_arg rfl))));rw[Qb] at h5;refine Ww fun q=>?_
  have q':(n:Int)<((ns.length:Nat):Int):=by omega
  first
   |(rw[decide_eq_true q'] at h5;exact absurd h5 (by decide))
   |(simp at h5;omega)
 cases hwl with
 |cons w1 w2=>
  cases w2
  cases w1 with
  |list ho hall=>exact⟨_,_,ns,rfl,rfl,ho,Bt ns _ hall,hlen⟩
theorem CW(l:OpenLaw)(args:List WData):l.row.toRowW.claim.post args (.bool true) args=true:=
 postW_of (r:=l.row.toRowW) (X:=(true == true))
  (show WShape.has [] (.bool true) .bool=true by first|rfl|decide|simp[WShape.has,WShape.arms,WShape.armsAll])
  (show (WTm.eq .res (.lit (.bool true))).value [] { args:=args,res:=some (.bool true),after:=args } = some (.bool (true == true)) from w_eq_bool (w_res rfl) w_lit) rfl
theorem Cg{l:OpenLaw}{XP:(Str->Option Pb)->Heap->Prop}{YP:PY->Heap->Prop}{d:DefRec}
  (hn:l.most=some n) (hdf:d.params.defaults=[])
  (call:∀(w:PY) (s₀ s₁:Pf) (mg mb:Str->Option Pb) (fa:Addr) (o:Obj) (pm cd doc:Pb) (a:Addr) (vs:List Pb) (ns:List Int),
   Ground q loose [] XP w s₀ mg mb s₁.heap->YP w s₁.heap ->
   s₁.heap.get? fa=some o->o.data=.func (docDef d.name d.params d.body d.scope pm cd doc)->s₁.heap.CodeRec cd d.name->mg d.name=some (.ref fa) ->
   s₁.heap.get? a=some { cls:=.type "list",data:=.seq vs.toArray }->W2 vs ns->ns.length<=n->s₁.gens = #[] ->
   To (PX l.prog w) U0 (.call (.ref fa) ⟨[.ref a],[]⟩) (fun r s'=>r=.ok (.ret (.bool true))/\OldK s₁.heap s'.heap/\s'.os=s₁.os/\S2 s'.gens) s₁) :
  WalkO q loose XP YP l.row.toRowW d [] (fun f vs=>U1 f vs):=by
 intro w s₀ s₁ mg mb G Y fa o pm cd doc dV kV ho hd hcd hD hmg hg args vals as hpre hlay hrd hwl hlo;obtain rfl:dV=.none:=Dflts.none hD hdf;obtain rfl:kV=.none:=Dflts.noKw hD;obtain⟨a,vs,ns,rfl,rfl,hobj,hints,hlen⟩:=CU hn hpre hwl;refine enter_call (UT (call w s₀ s₁ mg mb fa o pm cd doc a vs ns G Y ho (fd_plain hd) hcd hmg hobj hints hlen hg) fun r s' hq=>?_);obtain⟨rfl,h2,h3,h4⟩:=hq;exact⟨.inl ⟨.bool true,.bool true,[],rfl,fun _=>rfl,.bool true,CW l _,fun _=>⟨YD,fun _ hm=>(nomatch hm)⟩⟩,h2,h3,h4⟩
section
variable {prog:Px}{w:PY}{A:PZ}{E:Pb->Pf->Prop}{s:Pf}{K:Frag}
end
end Att
namespace L2
theorem uT:∀{vs:List Pb}{ns:List Int},W2 vs ns->Vals (ns.map V.int) vs
 |_,_,.nil=>.nil
 |_,_,.cons n t h=>.cons ⟨t,rfl⟩ (uT h)
def tV(H:Hp):Prop:=∀b,H b=none\/∃o xs,H b=some (.frz o (.lst xs))
theorem EJ{K:Frag}{mg mb:Str->Option Pb}{s₁:Pf}{vs:List Pb}{ns:List Int}
  (KX:K.In s₁.heap) (hns:s₁.heap.Ns P3 mg) (hb:s₁.heap.Ns W4 mb) (hbb:∀x:Str,x≠"__name__"->mb x=Rk x) (hlim:s₁.heap.NoLimit) (hg:s₁.gens = #[])
  (ha:s₁.heap.get? a=some { cls:=.type "list",data:=.seq vs.toArray }) (hi:W2 vs ns) (hl:ns.length<=Pp) (hr:Room k U0)
  (F:∀base:Heap,K.In base->base.Ns P3 mg->FnOk P w K mg base CX k fa fd [x] sp) (hbind:∀(s:Pf) (u:Pb),VB s fd ⟨[u],[]⟩ [(x,u)])
  (hsp:∀H:Hp,tV H->SqL K H a (ns.map V.int)->sp [.ref a] H (fun v _=>v=.bl true) fun _ _ _=>False)
  (hCX:∀H e s',CX [] H s₁ (fun _ _ _=>False) e s'->False) :
  To (PX P w) U0 (.call (.ref fa) ⟨[.ref a],[]⟩) (fun r s'=>r=.ok (.ret (.bool true))/\OldK s₁.heap s'.heap/\s'.os=s₁.os/\S2 s'.gens) s₁:=by
 have rv:=uT hi;have lenV:=hi.length
 have core:∀H:Hp,tV H->SqL K H a (ns.map V.int)->HOk P w H s₁.heap->(∀b,H b≠none->b=a)->(H a≠none->K.lookup a=none) ->
   To (PX P w) U0 (.call (.ref fa) ⟨[.ref a],[]⟩) (fun r s'=>r=.ok (.ret (.bool true))/\OldK s₁.heap s'.heap/\s'.os=s₁.os/\S2 s'.gens) s₁:=by
  intro H hO hS hok hA hK;have base_of:∀{b:Addr}{o:Obj},s₁.heap.get? b=some o->H b=none->(gM s₁.heap H).get? b=some o:=fun e n=>EO e n
  have noA:∀{b:Addr}{o:Obj}{es:Array Ya}{ep:Nat},s₁.heap.get? b=some o->o.data=.dict es ep->H b=none:=fun {b o es ep} e d=>by
   cases q:H b with
   |none=>rfl
   |some u=>
    have e':b=a:=hA b (by rw[q];simp);subst e';rw[ha] at e;cases e;have d':Data.seq vs.toArray _=Data.dict es ep:=d;cases d'
  have nsK:∀{b:Addr}{m:Str->Option Pb},s₁.heap.Ns b m->(gM s₁.heap H).Ns b m:=fun {b m} ⟨o,es,ep,e,d,r⟩=>⟨o,es,ep,base_of e (noA e d),d,r⟩
  have hKb:K.In (gM s₁.heap H):=fun b o e=>base_of (KX b o e) (by
   cases q:H b with
   |none=>rfl
   |some u=>
    have e':b=a:=hA b (by rw[q];simp);subst e'
    rw[hK (by rw[q];simp)] at e;cases e)
  have hM:Mod K mg (gM s₁.heap H):=⟨hKb,nsK hns,⟨mb,nsK hb,hbb⟩,let ⟨mc,h1,h2⟩:=hlim;⟨mc,nsK h1,h2⟩⟩;have e0:Env0 P w K mg (gM s₁.heap H) U0 [] s₁ H:=⟨rfl,hM,fun b o e=>Gf e,Wa (Dv _ _),trivial,fun b hb=>absurd (show b∈([]:List Addr) from hb) (by simp),hok,.of_eq hg⟩;refine UT ((F _ hKb (nsK hns)).run U0 [] s₁ H ⟨[.ref a],[]⟩ [.ref a] [.ref a] _ _ hr e0 (hbind s₁ (.ref a)) (.cons rfl .nil) (hsp H hO hS)) fun r s' h=>?_
  cases r with
  |error e=>exact(hCX H e s' h).elim
  |ok fl=>
   cases fl with
   |next=>exact Qw h
   |brk=>exact Qw h
   |cont=>exact Qw h
   |ret u=>
    obtain⟨v,H',os,bare,un,hok',r',q⟩:=h;have q':v=.bl true:=q;subst q';obtain rfl:u=VS true:=r';refine⟨rfl,OldK.of_keep fun b o e=>?_,os,bare⟩
    cases q:H b with
    |none=>exact un.keep b o e q (by intro z;exact absurd (show b∈([]:List Addr) from z) (by simp)) (by simp)
    |some u=>
     rcases hO b with z|⟨ob,xs,z⟩
     .rw[q] at z;cases z
     .have z2:=un.frzs b ob _ z
      obtain⟨e1,_⟩:=hok b _ z;obtain⟨e2,_⟩:=hok' b _ z2;rw[e] at e1;cases e1;exact e2
 cases hk:K.lookup a with
 |some o=>
  have e:=KX a o hk;rw[ha] at e;cases e;refine core (fun _=>none) (fun _=>.inl rfl) (.inr ⟨_,vs.toArray,_,hk,rfl,rfl,rfl,by rw[Pr,lenV];exact hl,by simpa using rv⟩) (fun b u z=>by have z':(none:Option HO)=some u:=z;cases z') (fun b z=>absurd rfl z) fun z=>absurd rfl z
 |none=>
  refine core (fun b=>if b=a then some (.frz { cls:=.type "list",data:=.seq vs.toArray } (.lst (ns.map V.int))) else none) (fun b=>?_) (.inl (.inr ⟨{ cls:=.type "list",data:=.seq vs.toArray },if_pos rfl⟩)) (fun b u z=>?_) (fun b z=>?_) fun _=>hk
  .by_cases hb:b=a
   .exact .inr ⟨_,_,if_pos hb⟩
   .exact .inl (if_neg hb)
  .by_cases hb:b=a
   .have z':=(if_pos hb).symm.trans z
    cases z';subst hb;exact⟨ha,by rw[Qb];exact hl,vs,_,rv,ha⟩
   .have z':=(if_neg hb).symm.trans z
    cases z'
  .by_cases hb:b=a
   .exact hb
   .exact absurd (if_neg hb) z
theorem Fx{l:Vb}{XP:(Str->Option Pb)->Heap->Prop}{YP:PY->Heap->Prop}{d:DefRec}{K:Yn->Frag}{CX:PY->CXT}{sp:PY->Sp}
  (hn:l.most=some n) (hn2:n<=Pp) (hdf:d.params.defaults=[]) (hr:Room k U0)
  (hY:∀(w:PY) (h:Heap),YP w h->(K w.params).In h)
  (F:∀(w:PY) (mg:Str->Option Pb) (fa:Addr) (h:Heap),(K w.params).In h->h.Ns P3 mg->mg d.name=some (.ref fa) ->
   ∃fd:QQ,(∀(s:Pf) (u:Pb),VB s fd ⟨[u],[]⟩ [(x,u)]) /\
    ∀base:Heap,(K w.params).In base->base.Ns P3 mg->FnOk l.prog w (K w.params) mg base (CX w) k fa fd [x] (sp w))
  (hsp:∀(w:PY) (H:Hp) (a:Addr) (ns:List Int),ns.length<=n->tV H->SqL (K w.params) H a (ns.map V.int)->sp w [.ref a] H (fun v _=>v=.bl true) fun _ _ _=>False)
  (hCX:∀(w:PY) (H:Hp) (s:Pf) (e:Pb) (s':Pf),CX w [] H s (fun _ _ _=>False) e s'->False) :
  VQ q loose XP YP l.row.toRowW d [] (fun f vs=>U1 f vs):=by
 refine Att.Cg hn hdf fun w s₀ s₁ mg mb fa o pm cd doc a vs ns G Y ho hd hcd hmg hobj hints hlen hg=>?_;have KX:=hY w _ Y;obtain⟨fd,hb,hF⟩:=F w mg fa _ KX G.T.g hmg;exact EJ KX G.T.g G.T.b G.T.builtins G.T.nolimit hg hobj hints (PL hlen hn2) hr hF hb (fun H hO hS=>hsp w H a ns hlen hO hS) fun H e s'=>hCX w H s₁ e s'
def dG(s:Stmt):Arguments:=match s with
 |.FunctionDef _ a _ _ _ _ _ _ _ _=>a
 |_=>{ posonlyargs:=[],args:=[],vararg:=none,kwonlyargs:=[],kw_defaults:=[],kwarg:=none,defaults:=[] }
def cj(s:Stmt):List Stmt:=match s with
 |.FunctionDef _ _ b _ _ _ _ _ _ _=>b
 |_=>[]
def bh(s:Stmt):Scope:=match s with
 |.FunctionDef _ _ _ _ _ _ sc _ _ _=>sc
 |_=>{ kind:=.function,names:=[],isGenerator:=false,isCoroutine:=false }
abbrev CX0:CXT:=fun _ _ _ _ _ _=>False
abbrev E0:XK:=fun _ _ _=>False
theorem J0:lN CX0 X E0:=fun _ _ _ _ _ _ _ h=>h.elim
structure Fun(K:Frag)(x qual:Str)(st:Stmt)(f:Addr)(fd:QQ):Prop where
 ex:∃(oc:Pb) (od:Option Addr) (kV doc pm:Pb) (an:Option Addr) (cdv ct:Pb) (osl:Array (Option Pb)),
  fd=QB x qual (dG st) (cj st) (bh st) .none kV doc pm an cdv ct/\K.lookup f=some ⟨oc,od,.func fd,osl⟩/\R7 K cdv qual=true
 kp:Qm K (.ref f)=true
section
variable {P:Px}{w:PY}{K:Frag}{mg:Str->Option Pb}{base:Heap}
theorem Fun.ok{x qual:Str}{st:Stmt}{f:Addr}{fd:QQ}{N ps:List Str}{k:Nat}{sp:Sp}(F:Fun K x qual st f fd)(S:FnScope N ps (bh st))(len:∀vs H Q E,sp vs H Q E->vs.length=ps.length)
  (hbody:∀(cdv:Pb) (A:PZ) (outer:List Env) (s:Pf) (H:Hp) (vs:List V) (Q:VK) (E:XK),Room k (A.deeper (Rx qual (bh st) s.heap.objs.size f cdv))->sp vs H Q E ->
   ∃t,PSs (cw CX0 P w K mg base N qual (bh st) f cdv A outer s H E).nox (cj st) t/\t { nx:=fun _ H'=>Q .non H',rt:=Q } (start N vs) H):FnOk P w K mg base CX0 (k+1) f fd ps sp:=by
 obtain⟨oc,od,kV,doc,pm,an,cdv,ct,osl,rfl,lk,hcd⟩:=F.ex;refine Ah lk hcd S len fun A outer s H vs Q E hr hsp=>?_;obtain⟨t,h,q⟩:=hbody cdv A outer s H vs Q E hr hsp;exact⟨t,h.nox,q⟩
theorem Fun.binds{x qual:Str}{st:Stmt}{f:Addr}{fd:QQ}{ps:List Str}(F:Fun K x qual st f fd)
  (h:∀(kV doc pm:Pb) (an:Option Addr) (cdv ct:Pb) (us:List Pb),us.length=ps.length->TN (QB x qual (dG st) (cj st) (bh st) .none kV doc pm an cdv ct) ⟨us,[]⟩=pure (ps.zip us)):Binds K fd ps []:=by
 obtain⟨oc,od,kV,doc,pm,an,cdv,ct,osl,rfl,lk,hcd⟩:=F.ex;exact .all (h kV doc pm an cdv ct)
theorem sM{x qual:Str}{st:Stmt}{f:Addr}{oc:Pb}{od an:Option Addr}{osl:Array (Option Pb)}{kV doc pm cdv ct:Pb}(l:K.lookup f=some ⟨oc,od,.func (QB x qual (dG st) (cj st) (bh st) .none kV doc pm an cdv ct),osl⟩)
  (c:R7 K cdv qual=true) (k:Qm K (.ref f)=true):Fun K x qual st f (QB x qual (dG st) (cj st) (bh st) .none kV doc pm an cdv ct):=⟨⟨oc,od,kV,doc,pm,an,cdv,ct,osl,rfl,l,c⟩,k⟩
end
section
variable {X:Cx}
theorem pv(i:Nat)(hN:X.N[i]? = some x:=by rfl)(hv:Vis X.env.scope x:=by first|exact QM rfl|exact Qx (QM rfl)|exact Qx (Qx rfl))(hd:(x == ("__debug__" : Str))=false:=by decide)
  (hcd:(x == ("__classdict__" : Str))=false:=by decide):PE X (.Name x pos) (je i):=Ia hN hv hd hcd
end
theorem ir{A B:Prop}(h:B):if false=true then A else B:=by
 rw[if_neg Pu];exact h
theorem eW{A B:Prop}(h:A):if true=true then A else B:=by
 rw[if_pos rfl];exact h
end L2
set_option maxHeartbeats 4000000
namespace K1
open PySem
def has(signs x:Str):Bool:=x.cps.toList.all fun c=>decide (c∈signs.cps.toList)
def LET:Str:="abcdefghijklmnopqrstuvwxyz"
def TXT:Str:="abcdefghijklmnopqrstuvwxyz0123456789-"
def single:Pa->Bool
 |.int i=>decide ((if i<0 then -i else i)<=10^18)
 |.str x=>decide (x.length<=20)&&has TXT x
 |_=>false
def aO:Nat->Pa->Bool
 |0,.tuple _=>false
 |n+1,.tuple ds=>decide (ds.length<=8)&&ds.all (aO n)
 |_,d=>single d
def aM:Nat->Pa->Int
 |n+1,.tuple ds=>1+(ds.map (aM n)).sum
 |_,_=>1
noncomputable def lsz:Nat->Pa->Int
 |n+1,.tuple ds=>if ds.length>8 then 100 else 1+(ds.map (lsz n)).sum
 |_,d=>if single d=true then 1 else 100
def isName:Pa->Bool
 |.str x=>decide (1<=x.length)&&decide (x.length<=8)&&has LET x
 |_=>false
def aH(d:Pa):Bool:=aO 4 d&&decide (aM 4 d<=40)
theorem yH{α:Type}(f:α->Int)(h:∀a,1<=f a):∀l:List α,(l.length:Int)<=(l.map f).sum
 |[]=>by simp
 |a::r=>by
  have:=yH f h r;have:=h a;simp only[Pz,Rn,PH];omega
def tdp:Nat->Pa->Bool
 |0,.tuple _=>false
 |n+1,.tuple ds=>ds.all (tdp n)
 |_,_=>true
theorem vD:∀(n:Nat) (d:Pa),aO n d=true->tdp n d=true
 |0,d,h=>by cases d <;> first|rfl|cases h
 |n+1,d,h=>by
  cases d with
  |tuple ds=>
   have e:aO (n+1) (.tuple ds)=(decide (ds.length<=8)&&ds.all (aO n)):=rfl;rw[e,Po] at h;show ds.all (tdp n)=true;exact PB.mpr fun x hx=>vD n x (PB.mp h.2 x hx)
  |_=>rfl
def dF(best:Int):List Int->Int
 |[]=>best
 |n::r=>dF (if n>best then n else best) r
def cK(d:Int):List Int->Int
 |[]=>d
 |n::r=>dF n r
def aY:Nat->Pa->Int
 |n+1,.tuple ds=>1+cK 0 (ds.map (aY n))
 |_,_=>0
def Ac(acc:Int):List Int->Int
 |[]=>acc
 |n::r=>Ac (if 1+n>acc then 1+n else acc) r
def ldp:Nat->Pa->Int
 |n+1,.tuple ds=>Ac 1 (ds.map (ldp n))
 |_,_=>0
theorem uC:∀(l:List Int) (b:Int),b<=dF b l
 |[],b=>QV b
 |n::r,b=>by
  show b<=dF (if n>b then n else b) r;have:=uC r (if n>b then n else b)
  split at this <;> (rename_i h;simp only[h,if_true,if_false] <;> omega)
theorem xI(l:List Int)(h:∀n∈l,0<=n):0<=cK 0 l:=by
 cases l with
 |nil=>exact QV 0
 |cons n r=>exact Wb (h n Pi) (uC r n)
theorem wD:∀(n:Nat) (d:Pa),0<=aY n d
 |0,d=>by cases d <;> exact QV 0
 |n+1,d=>by
  cases d with
  |tuple ds=>
   show 0<=1+cK 0 (ds.map (aY n))
   have:=xI (ds.map (aY n)) fun x hx=>by
    obtain⟨y,_,rfl⟩:=Pq.mp hx;exact wD n y
   omega
  |_=>exact QV 0
end K1
namespace L2
open PySem
noncomputable def cB(env:Env):List (Str×RN)->List (Str×Addr)->List (Str×Addr)
 |[],acc=>acc
 |(n,k)::r,acc=>cB env r (if (k == .free)=true then (n,(env.cells.lookup n).getD 0)::acc else acc)
theorem qI:∀(l:List (Str×RN)) (acc:List (Str×Addr)),(∀x∈l,x.2=.free->∃c,env.cells.lookup x.1=some c) ->
  (forIn l acc (fun x r=>match x with
   | (name,kind)=>if (kind == QK)=true then (do
     let c ←cellOf env name
     pure (Te ((name,c)::r))) else pure (Te r)):Sem (List (Str×Addr)))=pure (cB env l acc)
 |[],acc,_=>rfl
 |(n,k)::r,acc,h=>by
  rw[List.forIn_cons];have hr:∀x∈r,x.2=.free->∃c,env.cells.lookup x.1=some c:=fun x hx=>h x (Pg _ hx)
  cases hk:(k == QK) with
  |false=>
   have ih:=qI r acc hr
   have e:cB env ((n,k)::r) acc=cB env r acc:=by simp[cB,hk]
   rw[e];dsimp only;rw[if_neg (by rw[hk];exact Pu)];exact ih
  |true=>
   obtain⟨c,hc⟩:=h (n,k) Pi (by simpa using hk);have ih:=qI r ((n,c)::acc) hr;have hc':env.cells.lookup n=some c:=hc
   have e:cB env ((n,k)::r) acc=cB env r ((n,c)::acc):=by simp[cB,hk,hc']
   have e2:cellOf env n=pure c:=by unfold cellOf;rw[hc']
   rw[e];dsimp only;rw[if_pos hk,e2];exact ih
theorem uM(h:∀x∈scope.names,x.2=.free->∃c,env.cells.lookup x.1=some c):closureFor scope env=pure (cB env scope.names []):=by
 have q:=qI (env:=env) scope.names [] h;unfold closureFor;exact congrArg (fun t=>t >>= fun z=>pure z) q
theorem uq:∀(l:List (Str×RN)) (acc:List (Str×Addr)) (x:Str) (c:Addr),(∀y d,acc.lookup y=some d->env.cells.lookup y=some d) ->
  (∀y∈l,y.2=.free->∃c,env.cells.lookup y.1=some c)->(cB env l acc).lookup x=some c->env.cells.lookup x=some c
 |[],acc,x,c,ha,_,e=>ha x c e
 |(n,k)::r,acc,x,c,ha,h,e=>by
  have hr:∀x∈r,x.2=.free->∃c,env.cells.lookup x.1=some c:=fun x hx=>h x (Pg _ hx);refine uq r _ x c ?_ hr e;intro y d q
  cases hk:(k == QK) with
  |false=>rw[hk,if_neg Pu] at q;exact ha y d q
  |true=>
   rw[hk,if_pos rfl] at q;obtain⟨c',hc⟩:=h (n,k) Pi (by simpa using hk);have hc':env.cells.lookup n=some c':=hc;rw[Qi] at q
   by_cases z:y=n
   .subst z
    simp[hc'] at q;rw[hc',q]
   .have z':(y == n)=false:=beq_eq_false_iff_ne.mpr z
    rw[z'] at q;exact ha y d q
theorem uO:∀(l:List (Str×RN)) (acc:List (Str×Addr)) (x:Str),(acc.lookup x).isSome=true->((cB env l acc).lookup x).isSome=true
 |[],_,_,h=>h
 |(n,k)::r,acc,x,h=>by
  refine uO r _ x ?_
  cases hk:(k == QK) with
  |false=>rw[if_neg Pu];exact h
  |true=>
   rw[if_pos rfl,Qi]
   cases z:(x == n) with
   |true=>rfl
   |false=>exact h
theorem uN:∀(l:List (Str×RN)) (acc:List (Str×Addr)) (x:Str),(x,QK)∈l->((cB env l acc).lookup x).isSome=true
 |[],_,_,h=>absurd h (by simp)
 |(n,k)::r,acc,x,h=>by
  rcases Pt.mp h with e|e
  .cases e
   refine uO r _ _ ?_;rw[if_pos (by decide),Qi];simp
  .exact uN r _ x e
structure CS(osc:Rj)(N:List Str)(x:Str)(scope:Rj)(N':List Str):Prop where
 kind:scope.kind=.function
 nocell:∀y∈scope.names,y.2≠.cell
 names:∀y∈scope.names,y.2=.local->scope.names.lookup y.1=some .local
 hx:scope.names.lookup x=some .local
 only:∀y∈scope.names,y.2=.local->y.1=x\/y.1=".0"
 free:∀y∈scope.names,y.2=.free->osc.names.lookup y.1=some .cell\/osc.names.lookup y.1=some .free
 nd:(x::N').Nodup
 n0:(".0" : Str)∉N'
 len:N'.length=N.length
 rel:∀p∈N'.zip N,p.1=p.2\/∀q∈scope.names,q.1≠p.1
theorem CS.at{osc:Rj}{N N':List Str}{x:Str}{scope:Rj}(S:CS osc N x scope N'){j:Nat}{y:Str}(h:N'[j]? = some y):N[j]? = some y\/∀q∈scope.names,q.1≠y:=by
 have hl:j<N'.length:=(Ph.mp h).1
 have hl2:j<N.length:=by rw[←S.len];exact hl
 have m:(N'.zip N)[j]? = some (y,N[j]):=by
  rw[List.getElem?_zip_eq_some];exact⟨h,Qs hl2⟩
 rcases S.rel _ (P8 m) with z|z
 .left
  rw[Qs hl2];exact congrArg some z.symm
 .exact .inr z
theorem v6{c:Str×RN->Bool}:∀{names:List (Str×RN)}{y:Str}{k':RN},
  (names.map fun p=>if (p.2 == QK&&c p)=true then (p.1,XX) else (p.1,p.2)).lookup y=some k'->∃k,(y,k)∈names/\(k'=k\/(k=.free/\k'=.cell))
 |[],_,_,h=>by simp at h
 |(n,k)::r,y,k',h=>by
  rw[Pz] at h
  by_cases hy:y=n
  .subst hy
   cases hc:(k == QK&&c (y,k)) with
   |false=>
    simp only[hc,Rt,if_false,Qi,beq_self_eq_true] at h;cases h;exact⟨k,Pi,.inl rfl⟩
   |true=>
    simp only[hc,if_true,Qi,beq_self_eq_true] at h;cases h
    have e:k=.free:=by
     have:=(Po _ _).mp hc;simpa using this.1
    exact⟨k,Pi,.inr ⟨e,rfl⟩⟩
  .have hb:(y == n)=false:=beq_eq_false_iff_ne.mpr hy
   have h':(r.map fun p=>if (p.2 == QK&&c p)=true then (p.1,XX) else (p.1,p.2)).lookup y=some k':=by
    cases hc:(k == QK&&c (n,k)) with
    |false=>simp only[hc,Rt,if_false,Qi,hb] at h;exact h
    |true=>simp only[hc,if_true,Qi,hb] at h;exact h
   obtain⟨k2,m,e⟩:=v6 h';exact⟨k2,Pg _ m,e⟩
theorem qp(h:(VC scope env).names.lookup y=some k'):∃k,(y,k)∈scope.names/\(k'=k\/(k=.free/\k'=.cell)):=by
 refine v6 (c:=fun p=>env.scope.kind == .function&&env.kindOf p.1 == some .cell) ?_;rw[←h];unfold VC
 congr 1
 refine QO fun p _=>?_;obtain⟨n,k⟩:=p;simp only[Bool.and_assoc]
abbrev bV(X:Cx)(x:Str)(scope:Rj)(C:Addr)(s0:Pf)(H0:Hp)(ex:List Addr)(N':List Str):Cx where
 prog:=X.prog
 w:=X.w
 K:=X.K
 mg:=X.mg
 base:=X.base
 A:=X.A
 N:=x::N'
 s₀:=s0
 H₀:=H0
 env:=Vp scope (cB X.env scope.names []) C X.env
 outer:=X.stack
 stack:=X.stack
 ex:=ex
 fn:=fun _=>false
 calm:=X.calm
 pn:=[]
 xe:=fun _ _=>False
section
variable {X:Cx}{pins:List (Addr×Obj)}{σ:St}{H:Hp}{s:Pf}{x:Str}{scope:Rj}{N':List Str}
theorem rh(I:Inv X pins σ H s)(S:CS X.env.scope X.N x scope N'):∀y∈scope.names,y.2=.free->∃c,X.env.cells.lookup y.1=some c:=fun y hy e=>
 I.ok.has y.1 (S.free y hy e)
theorem vB(I:Inv X pins σ H s)(S:CS X.env.scope X.N x scope N')(e:(cB X.env scope.names []).lookup y=some c):X.env.cells.lookup y=some c:=uq scope.names [] y c (fun _ _ z=>by simp at z) (rh I S) e
theorem wJ(I:Inv X pins σ H s)(S:CS X.env.scope X.N x scope N')(e:(y,QK)∈scope.names):∃c,(cB X.env scope.names []).lookup y=some c/\X.env.cells.lookup y=some c:=by
 obtain⟨c,hc⟩:=Qh.mp (uN (env:=X.env) scope.names [] y e);exact⟨c,hc,vB I S hc⟩
theorem uL(I:Inv X pins σ H s)(S:CS X.env.scope X.N x scope N')(hf:∀b∈fp,dA X pins H b)(ho:∀b∈fp,∃o,s.heap.get? b=some o)
  (hns:h'.Ns (s.heap.push oD).objs.size m) (hsb:Sa (s.heap.push oD).objs.size ((s.heap.push oD).push oC) h') :
  Inv (bV X x scope (s.heap.push oD).objs.size { s with heap:=s.heap.push oD } H (s.heap.objs.size::fp) N') [] (none::σ) H { s with heap:=h',toks:=tk }:=by
 have I3:Inv X pins σ H { s with heap:=s.heap.push oD,toks:=s.toks }:=I.kept fun b o e=>Pe _ e;have hC:(s.heap.push oD).objs.size=s.heap.objs.size+1:=QY ..
 have up3:∀b o,(s.heap.push oD).get? b=some o->h'.get? b=some o:=fun b o e=>
  (hsb.2 b (PK (Pn e))).trans (Pe _ e)
 have up:∀b o,s.heap.get? b=some o->h'.get? b=some o:=fun b o e=>up3 b o (Pe _ e);have cl:=fun {y c} e=>vB (y:=y) (c:=c) I S e
 have clt:∀y c,X.env.cells.lookup y=some c->c<s.heap.objs.size:=fun y c e=>let ⟨v,q⟩:=I.cell y c e;q.lt
 have inner:∀{y:Str}{k':RN},(VC scope X.env).names.lookup y=some k'->(k'=.cell\/k'=.free)->(y,QK)∈scope.names:=fun {y k'} e hk=>by
  obtain⟨k,mem,r⟩:=qp e
  rcases r with r|⟨r,_⟩
  .rcases hk with z|z
   .exact absurd (r.symm.trans z) (S.nocell _ mem)
   .rw[←r.symm.trans z];exact mem
  .rw[←r];exact mem
 have ok:(bV X x scope (s.heap.push oD).objs.size { s with heap:=s.heap.push oD } H (s.heap.objs.size::fp) N').Ok:=by
  refine⟨I.ok.mod,S.kind,I.ok.glob,I.ok.blt,Pm _,fun y z c e1 e2=>I.ok.inj y z c (cl e1) (cl e2),fun y hk=>?_,fun y c e=>(nomatch e),I.ok.hd,I.ok.frames,.inl rfl,fun b hb=>?_,fun b o e=>?_,
   PL (PL I.ok.bsz I.sz) (by show s.heap.objs.size<=(s.heap.push oD).objs.size;omega),fun b o e hb=>?_,fun b hb z=>?_,I3.stack,I.stkFree⟩
  .have mem:(y,QK)∈scope.names:=by
    rcases hk with z|z
    .exact inner z (.inl rfl)
    .exact inner z (.inr rfl)
   obtain⟨c,hc,_⟩:=wJ I S mem;exact⟨c,hc⟩
  .rcases Pt.mp hb with e|e
   .subst e
    exact⟨by show s.heap.objs.size≠(s.heap.push oD).objs.size;omega,fun y c e=>PK (clt y c (cl e))⟩
   .obtain⟨o,q⟩:=ho b e
    have q2:=Pn q;exact⟨by show b≠(s.heap.push oD).objs.size;rw[hC];exact PK (RE q2),fun y c e'=>(hf b e).2.2.2.2.1 y c (cl e')⟩
  .exact⟨Pe _ (I.bs b o e).1,(I.bs b o e).2⟩
  .rcases Pt.mp hb with z|z
   .have q2:=Pn (I.bs b o e).1
    rw[z] at q2;exact Qr _ q2
   .rcases(hf b z).2.2.2.1 with q|q
    .exact I.ok.noex b o e q
    .have q2:=Pn (I.ok.bs b o e).1
     exact Qr _ (Py q2 q)
  .have z':=I.stkSub b z
   rcases Pt.mp hb with e|e
   .subst e
    rcases Pt.mp z' with q|q
    .have q2:=I.lt
     rw[←q] at q2;exact Qr _ q2
    .exact I.nofs (Pm _) q
   .rcases Pt.mp z' with q|q
    .exact(hf b e).2.1 q
    .exact(hf b e).2.2.1 q
 obtain⟨mo,hno,hlo⟩:=I.loc;refine⟨ok,rfl,I.bare,Un.kept up3,⟨m,hns,fun i y v e1 e2 e3=>?_⟩,fun y c e=>?_,I.hok.fresh (by show s.heap.objs.size<=(s.heap.push oD).objs.size;omega),fun y c e=>I.freeC y c (cl e),fun p hp=>absurd hp (by simp),I.hok.kept up,?_⟩
 .cases i with
  |zero=>simp at e2
  |succ j=>
   have e1n:N'[j]? = some y:=by simpa using e1
   have vis:∃k,(y,k)∈scope.names:=by
    rcases(show Vis (VC scope X.env) y from e3) with z|z|z <;> exact let ⟨k,mem,_⟩:=qp z;⟨k,mem⟩
   have e1':X.N[j]? = some y:=by
    rcases S.at e1n with z|z
    .exact z
    .obtain⟨k,mem⟩:=vis
     exact absurd rfl (z _ mem)
   have e2':σ[j]? = some (some v):=by simpa using e2
   have yx:y≠x:=fun z=>by
    have nd:=S.nd;rw[Q3] at nd;refine nd.1 ?_;rw[←z];exact P8 e1n
   have kin:((VC scope X.env).names.lookup y=some .cell\/(VC scope X.env).names.lookup y=some .free):=by
    rcases(show Vis (VC scope X.env) y from e3) with z|z|z
    .obtain⟨k,mem,r⟩:=qp z
     rcases r with r|⟨_,r⟩
     .rcases S.only _ mem r.symm with z2|z2
      .exact absurd z2 yx
      .exact absurd (P8 e1n) (by rw[show y=(".0" : Str) from z2];exact S.n0)
     .cases r
    .exact .inl z
    .exact .inr z
   have mem:(y,QK)∈scope.names:=by
    rcases kin with z|z
    .exact inner z (.inl rfl)
    .exact inner z (.inr rfl)
   have vo:Vis X.env.scope y:=by
    rcases S.free _ mem rfl with z|z
    .exact .inr (.inl z)
    .exact .inr (.inr z)
   obtain⟨u,ru,lk⟩:=hlo j y v e1' e2' vo;refine⟨u,ru,.inr ⟨kin,?_⟩⟩;obtain⟨c,hc,hc'⟩:=wJ I S mem;refine⟨c,hc,?_⟩
   rcases lk with⟨z,_⟩|⟨_,c2,z2,q⟩
   .exfalso
    have z':X.env.scope.names.lookup y=some .local:=z
    rcases S.free _ mem rfl with r|r <;> (rw[z'] at r;cases r)
   .rw[hc'] at z2
    cases z2;obtain⟨o,q1,q2⟩:=q;exact⟨o,up _ _ q1,q2⟩
 .obtain⟨v,o,q1,q2⟩:=I.cell y c (cl e)
  exact⟨v,o,up _ _ q1,q2⟩
 .have:=I.len
  simp[this,S.len]
theorem uK(I:Inv X pins σ H s)(hf:∀b∈fp,dA X pins H b)
  (hCd:C=(s.heap.push oD).objs.size) (J:Inv (bV X x scope C { s with heap:=s.heap.push oD } H (s.heap.objs.size::fp) N') pins' σ' H1 s1) (hsb:Sa C s1.heap h') (hD0:H1 s.heap.objs.size=none)
  (new:∃its n,Vals ys its/\s1.heap.get? s.heap.objs.size=some { cls:=.type "list",data:=.seq its.toArray n }) (hz:ys.length<=Pp) :
  Inv X pins σ (upd H1 s.heap.objs.size (.lst ys)) { s1 with heap:=h' }:=by
 have hC:C=s.heap.objs.size+1:=by rw[hCd];exact QY ..
 have nD:∀b o,s.heap.get? b=some o->b≠s.heap.objs.size:=fun b o e=>PK (Pn e)
 have nC:∀b o,s.heap.get? b=some o->b≠C:=fun b o e=>by rw[hC];exact PK (RE (Pn e))
 have up:∀b o,s.heap.get? b=some o->(s.heap.push oD).get? b=some o:=fun b o e=>Pe _ e;have nx:∀b,b∉fp->b≠s.heap.objs.size->b∉s.heap.objs.size::fp:=fun b h1 h2 z=>(Pt.mp z).elim h2 h1
 have hDC:s.heap.objs.size≠C:=by rw[hC];exact PK (UG _)
 have tr:∀b u,H1 b=some u->b≠s.heap.objs.size:=fun b u e z=>by rw[z,hD0] at e;cases e
 have trC:∀b u,H1 b=some u->b≠C:=fun b u e z=>by
  have:=J.free;rw[z] at e;have q:H1 C=none:=J.free;rw[q] at e;cases e
 obtain⟨its,n,rv,eD⟩:=new;have B:Un (frs X.stack) (s.heap.objs.size::fp) H H1 (s.heap.push oD) s1.heap:=J.base;refine I.call' (s':={ s1 with heap:=h' }) (ch:=fp) J.os ⟨fun b o e q h1 h2=>?_,fun b o e q h1 h2=>?_,fun b o e q h2=>?_,fun b o e h2=>?_,fun b xs e=>?_,fun b o u e=>?_,fun b ps e=>?_⟩ (fun b u e=>?_) J.bare fun b hb=>?_
 .exact(hsb.2 b (nC b o e)).trans (B.keep b o (up b o e) q h1 (nx b h2 (nD b o e)))
 .obtain⟨sl,z⟩:=B.slot b o (up b o e) q h1 (nx b h2 (nD b o e))
  exact⟨sl,(hsb.2 b (nC b o e)).trans z⟩
 .rw[aR (nD b o e)]
  exact B.free b o (up b o e) q (nx b h2 (nD b o e))
 .obtain⟨o',z⟩:=B.there b o (up b o e) (nx b h2 (nD b o e))
  exact⟨o',(hsb.2 b (nC b o e)).trans z⟩
 .have z:=B.tups b xs e
  rw[aR (tr b _ z)];exact z
 .have z:=B.frzs b o u e
  rw[aR (tr b _ z)];exact z
 .obtain⟨more,z⟩:=B.tbls b ps e
  exact⟨more,by rw[aR (tr b _ z)];exact z⟩
 .by_cases hb:b=s.heap.objs.size
  .subst hb
   rw[bo] at e;cases e;exact⟨hz,its,n,rv,(hsb.2 _ hDC).trans eD⟩
  .rw[aR hb] at e
   refine(J.hok b u e).stay (fun c v hc q=>(hsb.2 c ?_).trans q) (fun c q=>by rw[aR (tr c _ q)];exact q) fun c xs q=>by rw[aR (tr c _ q)];exact q
   rcases hc with z|z
   .rw[z];exact trC b u e
   .exact trC c _ z
 .obtain⟨_,f1,_,f3,f4,f5⟩:=hf b hb
  exact⟨f3,f1,f4,f5⟩
end
def PTs(X:Cx)(ifs:List Expr)(t:TT):Prop:=
 ∀(pins:List (Addr×Obj)) (s:Pf) (σ:St) (H:Hp) (Q:Bool->Hp->Prop) (E:Pb->Pf->Prop),Inv X pins σ H s->t σ H Q ->
  PP (PX X.prog X.w) X.A (forIn ifs true fun c r=>if r=true then do
   let ok ←Yg c X.env (eval c X.env)
   pure (Te ok) else pure (Te r)) (TP X pins σ Q) E s
theorem F0:PTs X [] (fun _ H Q=>Q true H):=fun _ _ _ H _ _ I h=>wpAny_tests_nil ⟨H,I,h⟩
theorem FZ(hx:X.xe=fun _ _=>False)(h:PT X c t):PTs X [c] t:=fun pins s σ H Q _ I q=>
 wpAny_tests_one (QT (h pins s σ H Q I q) (fun _ _ z=>z) fun e s' z=>by rw[hx] at z;exact z.elim)
def pX(σ:St)(J:It)(tt:TT)(te:TE)(W:Nat->Nat->List V->Hp->Prop)(D:List V->Hp->Prop):Prop:=∀i m ys H,W i m ys H ->
 (J.stop i H/\ys.length<=Pp/\D ys H)\/(J.go i H/\ys.length<Pp/\∃N:List V->Hp->Prop,(∀ys' H',N ys' H'->∃m',m' < m/\W (i+1) m' ys' H')/\∀v H',J.yld i H v H'->tt (some v::σ) H' fun b H2=>
  if b=true then te (some v::σ) H2 fun y H3=>N (ys++[y]) H3 else N ys H2)
section
variable {X:Cx}{pins:List (Addr×Obj)}{σ:St}{H:Hp}{s:Pf}{x:Str}{scope:Rj}{N':List Str}
theorem vA{fp:List Addr}{it C:Addr}{tn:Nat->Heap->Prop}{J:It}{oD:Obj}{elt iter:Expr}{ifs:List Expr}{px pos:Pos}{te:TE}{tt:TT}{W:Nat->Nat->List V->Hp->Prop}{Dn:List V->Hp->Prop}
  {R:W7->Pf->Prop}{σ':St}{s4:Pf}{m0:Nat} (hcalm:X.calm=true) (S:CS X.env.scope X.N x scope N') (hf:∀b∈fp,dA X pins H b) (ho:∀b∈fp,∃o,s.heap.get? b=some o) (hCd:C=(s.heap.push oD).objs.size)
  (T:Turn X.prog X.w X.K (.Name x px) J fp it tn) (I4:Inv (bV X x scope C { s with heap:=s.heap.push oD } H (s.heap.objs.size::fp) N') [] (none::σ) H s4) (st4:tn 0 s4.heap) (hD4:s4.heap.get? s.heap.objs.size=some { cls:=.type "list",data:=.seq #[] 0 })
  (hDn:H s.heap.objs.size=none) (hte:PE (bV X x scope C { s with heap:=s.heap.push oD } H (s.heap.objs.size::fp) N') elt te) (htt:PTs (bV X x scope C { s with heap:=s.heap.push oD } H (s.heap.objs.size::fp) N') ifs tt)
  (w0:W 0 m0 [] H) (turn:pX σ J tt te W Dn)
  (hR:∀s1 H1 σ1 ys its n,Inv (bV X x scope C { s with heap:=s.heap.push oD } H (s.heap.objs.size::fp) N') [] σ1 H1 s1->H1 s.heap.objs.size=none->Vals ys its->s1.heap.get? s.heap.objs.size=some { cls:=.type "list",data:=.seq its.toArray n }->ys.length<=Pp->Dn ys H1->R (.ok .next) s1) :
  To (PX X.prog X.w) X.A (.compLoop (.ListComp elt [⟨.Name x px,iter,ifs,0⟩] scope pos) 0 (.ref it) (.ref s.heap.objs.size) (Vp scope (cB X.env scope.names []) C X.env)) R s4:=by
 have hC:C=s.heap.objs.size+1:=by rw[hCd];exact QY ..
 generalize hX:bV X x scope C { s with heap:=s.heap.push oD } H (s.heap.objs.size::fp) N'=X' at *
 have xP:X'.prog=X.prog:=by rw[←hX]
 have xW:X'.w=X.w:=by rw[←hX]
 have xK:X'.K=X.K:=by rw[←hX]
 have xA:X'.A=X.A:=by rw[←hX]
 have xE:X'.env=Vp scope (cB X.env scope.names []) C X.env:=by rw[←hX]
 have xC:X'.calm=true:=by rw[←hX];exact hcalm
 have xex:X'.ex=s.heap.objs.size::fp:=by rw[←hX]
 have xpn:X'.pn=[]:=by rw[←hX]
 have xxe:X'.xe=fun _ _=>False:=by rw[←hX]
 have xN:X'.N=x::N':=by rw[←hX]
 have xL:X'.env.locals=C:=by rw[xE];rfl
 have xloc:X'.env.scope.names.lookup x=some .local:=by rw[xE];exact lookup_relabel_local S.hx
 have lt:∀b∈fp,b<s.heap.objs.size:=fun b hb=>let ⟨_,e⟩:=ho b hb;Pn e
 have fpk:∀{pl:List (Addr×Obj)}{H':Hp},(∀p∈pl,p.1=s.heap.objs.size)->(∀b∈fp,H' b=none)->∀b∈fp,dA X' pl H' b:=fun {pl H'} hp hn b hb=>by
  have okk:=I4.ok
  have hm:b∈X'.ex:=by rw[xex];exact Pg _ hb
  refine⟨hn b hb,(okk.exf b hm).1,okk.exfs b hm,.inl hm,(okk.exf b hm).2,fun p hpl z=>?_⟩;rw[xpn] at hpl;have q1:=hp p (by simpa using hpl);have q2:=lt b hb;rw[←z,q1] at q2;exact Qr _ q2
 have dok:∀{pl:List (Addr×Obj)}{H':Hp},(∀p∈pl,p.1∈fp)->H' s.heap.objs.size=none->dA X' pl H' s.heap.objs.size:=fun {pl H'} hp hn=>by
  have okk:=I4.ok
  have hm:s.heap.objs.size∈X'.ex:=by rw[xex];exact Pi
  refine⟨hn,(okk.exf _ hm).1,okk.exfs _ hm,.inl hm,(okk.exf _ hm).2,fun p hpl z=>?_⟩;rw[xpn] at hpl;have q2:=lt p.1 (hp p (by simpa using hpl));rw[z] at q2;exact Qr _ q2
 refine codeAny_compLoop_tests (I:=fun m s'=>∃i σx H' ys its n,Inv X' [] (σx::σ) H' s'/\tn i s'.heap/\(∀b∈fp,H' b=none)/\H' s.heap.objs.size=none/\Vals ys its/\s'.heap.get? s.heap.objs.size=some { cls:=.type "list",data:=.seq its.toArray n }/\W i m ys H') ?_ m0
  ⟨0,none,H,[],[],0,I4,st4,fun b hb=>(hf b hb).1,hDn,.nil,hD4,w0⟩
 rintro m s5 ⟨i,σx,H5,ys,its,n,I5,st5,fr5,d5,rv,e5,w5⟩
 have I5d:Inv X' ([]++g9 [s.heap.objs.size] s5.heap) (σx::σ) H5 s5:=I5.pinned (fun b hb=>by
   have e:b=s.heap.objs.size:=by simpa using hb
   rw[e];exact dok (fun p hp=>absurd hp (by simp)) d5) fun b hb=>by
   have e:b=s.heap.objs.size:=by simpa using hb
   rw[e];exact⟨_,e5,fun v z=>by cases z⟩
 have pD:([]++g9 [s.heap.objs.size] s5.heap:List (Addr×Obj))=[(s.heap.objs.size,{ cls:=.type "list",data:=.seq its.toArray n })]:=by
  simp[g9,e5]
 rw[pD] at I5d
 have p1:∀p∈[(s.heap.objs.size,({ cls:=.type "list",data:=.seq its.toArray n }:Obj))],p.1=s.heap.objs.size:=fun p hp=>by
  have e:p=(s.heap.objs.size,{ cls:=.type "list",data:=.seq its.toArray n }):=by simpa using hp
  rw[e]
 have hsz:its.length=ys.length:=rv.length.symm
 rcases turn i m ys H5 w5 with⟨stop,hz,dn⟩|⟨go,hz,N,hN,step⟩
 .have q:=T.done X' xP xW xK xC i _ s5 (σx::σ) H5 (Yo (PX X.prog X.w) X.A (Vp scope (cB X.env scope.names []) C X.env) fun e s'=>R (.error e) s') I5d (fpk p1 fr5) st5 stop
  rw[xA] at q;refine QT q (fun r s6 z=>?_) fun _ _ z=>z;obtain⟨rfl,I6⟩:=z;refine hR s6 H5 (σx::σ) ys its n ?_ d5 rv (I6.pin _ (P5 _ (Pl.mpr rfl))).1 hz dn;exact I6.pins_of fun p hp=>absurd hp (by simp)
 .have q:=T.item X' xP xW xK xC i _ s5 (σx::σ) H5 (Yo (PX X.prog X.w) X.A (Vp scope (cB X.env scope.names []) C X.env) fun e s'=>R (.error e) s') I5d (fpk p1 fr5) st5 go
  rw[xA] at q;refine QT q (fun r s6 z=>?_) fun _ _ z=>z;obtain⟨u,rfl,z⟩:=z;dsimp only;have z':PP (PX X.prog X.w) X.A (pure ()) _ _ s6:=z;refine Pd (m:=pure ()) (f:=fun _=>TH (.Name x px) (Vp scope (cB X.env scope.names []) C X.env) u) (QT z' (fun _ s7 z=>?_) fun _ _ z=>z);obtain⟨v,H7,I7,rv7,y7,st7,fr7⟩:=z;have I7p:=I7.pinned (fpk p1 fr7) (T.obj _ _ st7);rw[←xE]
  have nd:X'.N.Nodup:=by rw[xN];exact S.nd
  have hi0:X'.N[0]? = some x:=by rw[xN];rfl
  refine Ud (nq (E:=Yo (PX X.prog X.w) X.A X'.env fun e s'=>R (.error e) s') (i:=0) I7p nd hi0 (.inl xloc) rv7 (fun s8 I8=>?_) (.inr xloc));have I8':Inv X' _ (some v::σ) H7 s8:=I8;have t8:=htt _ s8 (some v::σ) H7 _ (Yo (PX X.prog X.w) X.A X'.env fun e s'=>R (.error e) s') I8' (step v H7 y7);rw[xP,xW,xA] at t8;refine QT t8 (fun ok s9 z=>?_) fun _ _ z=>z;obtain⟨H9,I9,q9⟩:=z
  have back:∀{s':Pf}{H':Hp}{σ2:St},Inv X' ([(s.heap.objs.size,({ cls:=.type "list",data:=.seq its.toArray n }:Obj))]++g9 fp s7.heap) σ2 H' s' ->
    tn (i+1) s'.heap/\(∀b∈fp,H' b=none)/\H' s.heap.objs.size=none/\s'.heap.get? s.heap.objs.size=some { cls:=.type "list",data:=.seq its.toArray n }/\Inv X' [] σ2 H' s':=fun {s' H' σ2} I'=>by
   refine⟨T.keep _ _ _ st7 fun b hb o e=>(I'.pin (b,o) (P5 _ (P5 _ (mK hb e)))).1,fun b hb=>?_,?_,?_,I'.pins_of fun p hp=>absurd hp (by simp)⟩
   .obtain⟨o,e,_⟩:=T.obj _ _ st7 b hb
    exact(I'.pin (b,o) (P5 _ (P5 _ (mK hb e)))).2.1
   .exact(I'.pin (s.heap.objs.size,_) (P5 _ (QG _ (Pl.mpr rfl)))).2.1
   .exact(I'.pin (s.heap.objs.size,_) (P5 _ (QG _ (Pl.mpr rfl)))).1
  cases ok with
  |false=>
   simp only[Rt,if_false] at q9 ⊢;obtain⟨m',hm,w9⟩:=hN _ _ q9;obtain⟨a1,a2,a3,a4,a5⟩:=back I9;exact⟨m',hm,i+1,some v,H9,ys,its,n,a5,a1,a2,a3,rv,a4,w9⟩
  |true=>
   simp only[if_true] at q9 ⊢;have t9:=hte _ s9 (some v::σ) H9 _ I9 q9;rw[xP,xW,xA,xxe] at t9;refine QT t9 (fun u2 s10 z=>?_) fun _ _ z=>z.elim;obtain⟨y,H10,I10,r10,q10⟩:=z;obtain⟨m',hm,w10⟩:=hN _ _ q10;obtain⟨a1,a2,a3,a4,a5⟩:=back I10;refine wpAny_list_append_plain ⟨n,a4⟩ (fun h' pl sb=>?_) (by rw[Pr];omega);obtain⟨n',e'⟩:=pl;have D0:=dok (pl:=[]) (fun p hp=>absurd hp (by simp)) a3;refine⟨m',hm,i+1,some v,H10,ys++[y],its++[u2],n',a5.turned (t':=s10.toks) (fun b o hb e=>(sb.2 b hb).trans e) D0.1 D0.2.1 D0.2.2.2.1 D0.2.2.2.2.1 D0.2.2.2.2.2,?_,a2,a3,rv.append (.cons r10 .nil),by simpa using e',w10⟩;exact T.keep _ _ _ a1 fun b hb o e=>(sb.2 b (PK (lt b hb))).trans e
end
section
variable {X:Cx}{x:Str}{scope:Rj}{N':List Str}{elt iter:Expr}{ifs:List Expr}{px pos:Pos}{wi:TI}{te:TE}{tt:TT}
def zQ(wi:TI)(tt:TT)(te:TE):TE:=fun σ H Q=>wi σ H fun J H1=>∃W:Nat->Nat->List V->Hp->Prop,(∃m,W 0 m [] H1)/\pX σ J tt te W fun ys H=>∀p,H p=none->Q (.ref p) (upd H p (.lst ys))
theorem Ga(hc:X.calm=true)(S:CS X.env.scope X.N x scope N')(hi:PI X (.Name x px) iter wi)(he:∀C s0 H0 ex,PE (bV X x scope C s0 H0 ex N') elt te)
  (ht:∀C s0 H0 ex,PTs (bV X x scope C s0 H0 ex N') ifs tt) (hs:∀v,Qj iter X.env v=pure v:=by intro _;rfl):PE X (.ListComp elt [⟨.Name x px,iter,ifs,0⟩] scope pos) (zQ wi tt te):=by
 intro pins s σ H Q I h;rw[eval_ListComp];refine Us (use:=none) rfl hs (uM (rh I S)) S.kind S.names (thn (hi pins s σ H _ I h) fun v s1 h1=>thn h1 fun itv s2 h2=>?_);obtain⟨it,fp,tn,J,H2,rfl,I2,T,st2,f2,W,⟨m0,w0⟩,turn⟩:=h2
 have ho:∀b∈fp,∃o,s2.heap.get? b=some o:=fun b hb=>let ⟨o,e,_⟩:=T.obj _ _ st2 b hb;⟨o,e⟩
 refine Qn (Vq S.nocell (by intro y hy;simp at hy) (fun h' hns hsb=>?_) S.kind);have I4:=uL (x:=x) (scope:=scope) (tk:=s2.toks+([]:List (Str×Pb)).length) I2 S f2 ho hns hsb
 have up3:∀b o,(s2.heap.push { cls:=.type "list",dict:=none,data:=.seq ([]:List Pb).toArray }).get? b=some o->h'.get? b=some o:=fun b o e=>
  (hsb.2 b (PK (Pn e))).trans (Pe _ e)
 have st4:tn 0 h':=T.keep _ _ _ st2 fun b _ o e=>up3 b o (Pe _ e)
 have loop:=vA (elt:=elt) (iter:=iter) (ifs:=ifs) (pos:=pos) (R:=compPost (PX X.prog X.w) X.A X.xe none (EP X pins σ Q) (.ref s2.heap.objs.size) (s2.heap.push { cls:=.type "list",dict:=none,data:=.seq ([]:List Pb).toArray }).objs.size) (σ':=σ)
  hc S f2 ho rfl T I4 st4 (up3 _ _ (PM _ rfl)) (I2.hok.fresh (Pm _)) (he _ _ _ _) (ht _ _ _ _) w0 turn fun s5 H5 σ5 ys its n J5 d5 rv e5 hz dn=>by
   obtain⟨m,hn,_⟩:=J5.loc;exact⟨m,hn,fun h'' sb=>⟨.ref s2.heap.objs.size,_,uK I2 f2 rfl J5 sb d5 ⟨its,n,rv,e5⟩ hz,rfl,dn _ d5⟩⟩
 exact U2 loop (T.self X.A 0 _ _ _ st4 loop)
def JP(i:Nat)(wi:TI)(tt:TT)(te:TE):TS:=fun D σ H=>wi σ H fun J H1=>∃W:Nat->Nat->List V->Hp->Prop,(∃m,W 0 m [] H1)/\pX σ J tt te W fun ys H=>∀p,H p=none->D.nx (σ.set i (some (.ref p))) (upd H p (.lst ys))
theorem F3(hc:X.calm=true)(S:CS X.env.scope X.N x scope N')(hN:X.N.Nodup)(hi':X.N[i]? = some y)(hy:Loc X.env.scope y)(hf':X.fn y=true\/X.env.scope.names.lookup y=some .local)
  (hi:PI X (.Name x px) iter wi) (he:∀C s0 H0 ex,PE (bV X x scope C s0 H0 ex N') elt te)
  (ht:∀C s0 H0 ex,PTs (bV X x scope C s0 H0 ex N') ifs tt) (hsw:QL (.ListComp elt [⟨.Name x px,iter,ifs,0⟩] scope pos) (some (.Name y py)) spos.line X.env=pure true) (hs:∀v,Qj iter X.env v=pure v:=by intro _;rfl) :
  PS X (.Assign [.Name y py] (.ListComp elt [⟨.Name x px,iter,ifs,0⟩] scope pos) spos) (JP i wi tt te):=by
 intro pins s σ H D I h;rw[exec_Assign_Name_used _ _ _ _ hsw];refine Pd (Uo (Pd ?_));show PP _ _ (do let _ ←comprehension (.ListComp elt [⟨.Name x px,iter,ifs,0⟩] scope pos) scope X.env _ (newList []) false (eval iter X.env) (some (TH (.Name y py) X.env))) _ _ s;refine Pd (QT (Us (use:=some (TH (.Name y py) X.env)) (Q:=fun _ s'=>SP X pins D .next s') rfl hs (uM (rh I S)) S.kind S.names (thn (hi pins s σ H _ I h) fun v s1 h1=>thn h1 fun itv s2 h2=>?_)) (fun _ _ q=>Pw (Pw q)) fun _ _ q=>q);obtain⟨it,fp,tn,J,H2,rfl,I2,T,st2,f2,W,⟨m0,w0⟩,turn⟩:=h2
 have ho:∀b∈fp,∃o,s2.heap.get? b=some o:=fun b hb=>let ⟨o,e,_⟩:=T.obj _ _ st2 b hb;⟨o,e⟩
 refine Qn (Vq S.nocell (by intro y hy;simp at hy) (fun h' hns hsb=>?_) S.kind);have I4:=uL (x:=x) (scope:=scope) (tk:=s2.toks+([]:List (Str×Pb)).length) I2 S f2 ho hns hsb
 have up3:∀b o,(s2.heap.push { cls:=.type "list",dict:=none,data:=.seq ([]:List Pb).toArray }).get? b=some o->h'.get? b=some o:=fun b o e=>
  (hsb.2 b (PK (Pn e))).trans (Pe _ e)
 have st4:tn 0 h':=T.keep _ _ _ st2 fun b _ o e=>up3 b o (Pe _ e)
 have hCs:s2.heap.objs.size<=(s2.heap.push { cls:=.type "list",dict:=none,data:=.seq ([]:List Pb).toArray }).objs.size:=by rw[QY];omega
 have hDC:(s2.heap.push { cls:=.type "list",dict:=none,data:=.seq ([]:List Pb).toArray }).objs.size≠s2.heap.objs.size:=by rw[QY];omega
 have loop:=vA (elt:=elt) (iter:=iter) (ifs:=ifs) (pos:=pos) (R:=compPost (PX X.prog X.w) X.A X.xe (some (TH (.Name y py) X.env)) (fun _ s'=>SP X pins D .next s') (.ref s2.heap.objs.size) (s2.heap.push { cls:=.type "list",dict:=none,data:=.seq ([]:List Pb).toArray }).objs.size) (σ':=σ)
  hc S f2 ho rfl T I4 st4 (up3 _ _ (PM _ rfl)) (I2.hok.fresh (Pm _)) (he _ _ _ _) (ht _ _ _ _) w0 turn fun s5 H5 σ5 ys its n J5 d5 rv e5 hz dn=>by
   have J6:=uK I2 f2 rfl J5 (YE _ _) d5 ⟨its,n,rv,e5⟩ hz;obtain⟨m,hn,_⟩:=J5.loc;refine Ud (uZ (u:=.ref s2.heap.objs.size) J6 hN hi' hy (show RelV (.ref s2.heap.objs.size) _ from rfl) (fun s7 I7 ⟨a,sb,ha⟩=>?_) hf')
   have hCa:(s2.heap.push { cls:=.type "list",dict:=none,data:=.seq ([]:List Pb).toArray }).objs.size≠a:=by
    rcases ha with z|z
    .rw[z]
     exact RV (Py I2.lt hCs)
    .obtain⟨v,q⟩:=I2.cell _ _ z
     exact RV (Py q.lt hCs)
   have hn5:H5 (s2.heap.push { cls:=.type "list",dict:=none,data:=.seq ([]:List Pb).toArray }).objs.size=none:=J5.free;have fk:=I2.fpOk (b:=(s2.heap.push { cls:=.type "list",dict:=none,data:=.seq ([]:List Pb).toArray }).objs.size) (H':=upd H5 s2.heap.objs.size (.lst ys)) hCs (by rw[aR hDC];exact hn5);refine⟨m,hn.sameBut sb hCa,fun h'' sb2=>⟨_,_,I7.turned (t':=s7.toks) (fun b o hb e=>(sb2.2 b hb).trans e) fk.1 fk.2.1 fk.2.2.2.1 fk.2.2.2.2.1 fk.2.2.2.2.2,dn _ d5⟩⟩
 exact U2 loop (T.self X.A 0 _ _ _ st4 loop)
end
section
variable {σ:St}{tt:TT}{te:TE}
end
def Its(z:Str):It:=⟨fun i _=>i<z.cps.size,fun i H v H'=>H'=H/\∃c,z.cps[i]? = some c/\v=.str ⟨#[c]⟩,fun i _=>z.cps.size<=i⟩
theorem vL{P:Px}{w:PY}{K:Frag}{tg:Expr}(z:Str)(t:Tok)(ty:String)(it:Addr)(hty:ty="str_ascii_iterator"\/ty="str_iterator") :
  Turn P w K tg (Its z) [it] it (fun i h=>h.IsStrIter it ty z t i) where
 mem:=by simp
 obj:=fun i h st b hb=>by
  have e:b=it:=by simpa using hb
  subst e;obtain⟨o,e,c,d⟩:=st;exact⟨o,e,fun v q=>by rw[d] at q;cases q⟩
 keep:=fun i h h' st k=>let ⟨o,e,r⟩:=st;⟨o,k it (by simp) o e,r⟩
 item:=by
  intro X hP hw hK hc i pins s σ H E I hf st hg;subst hP hw hK;have hi:i<z.cps.size:=hg;obtain⟨f0,f1,f2,f3,f4,f5⟩:=hf it (by simp)
  have fin:∀h',h'.IsStrIter it ty z t (i+1)->Sa it s.heap h'->∃u,(some (Tv ⟨#[z.cps[i]]⟩ s.toks):Option Pb)=some u /\
    PP (PX X.prog X.w) X.A (Tb tg (.ref it) u) (fun _ s2=>∃x H',Inv X pins σ H' s2/\RelV x u/\(Its z).yld i H x H'/\s2.heap.IsStrIter it ty z t (i+1)/\∀b∈[it],H' b=none) E { s with heap:=h',toks:=s.toks+1 }:=fun h' st' sb=>by
   have I1:Inv X pins σ H { s with heap:=h',toks:=s.toks+1 }:=I.turned (fun b o hb e=>(sb.2 b hb).trans e) f0 f1 f3 f4 f5;obtain⟨o,e,c,d⟩:=id st';refine⟨_,rfl,lZ (s:={ s with heap:=h',toks:=s.toks+1 }) (n:=ty) e c d ?_ ⟨.str ⟨#[z.cps[i]]⟩,H,I1,⟨_,rfl⟩,⟨rfl,z.cps[i],by simp[hi],rfl⟩,st',fun b hb=>(hf b hb).1⟩⟩
   rcases hty with e|e <;> (rw[e];decide)
  rcases hty with e|e
  .subst e
   exact wpAny_pyNext_ascii_item st (c:=z.cps[i]) (by simp[hi]) fin
  .subst e
   exact wpAny_pyNext_wide_item st (c:=z.cps[i]) (by simp[hi]) fin
 done:=by
  intro X hP hw hK hc i pins s σ H E I hf st hg;subst hP hw hK;have hi:z.cps.size<=i:=hg;obtain⟨f0,f1,f2,f3,f4,f5⟩:=hf it (by simp);have fin:∀h',Yw it s.heap h'->(none:Option Pb)=none/\Inv X pins σ H { s with heap:=h' }:=fun h' eb=>⟨rfl,I.turned (t':=s.toks) (fun b o hb e=>eb b o hb e) f0 f1 f3 f4 f5⟩
  rcases hty with e|e
  .subst e
   exact wpAny_pyNext_ascii_end (I.ok.hd hc) st (by simp;omega) fin
  .subst e
   exact wpAny_pyNext_wide_end (I.ok.hd hc) st (by simp;omega) fin
 self:=fun _ _ _ _ _ st h=>by
  rcases hty with e|e
  .subst e
   exact wpAny_pyIter_striter_ascii st h
  .subst e
   exact wpAny_pyIter_striter_wide st h
section
variable {X:Cx}{tg:Expr}
end
theorem all_range(bs:List Bool)(n:Nat)(hn:n=bs.length):(Re n).all (fun i=>bs.getD i false)=bs.all id:=by
 subst hn;rw[Rh,PB,PB];constructor
 .intro h b hb
  obtain⟨i,hi,rfl⟩:=List.getElem_of_mem hb;have:=h i (TC.mpr hi);simpa[UH,hi] using this
 .intro h i hi
  have hi':=TC.mp hi;have:=h bs[i] (SZ hi');simpa[UH,hi'] using this
theorem uz:∀(ns:List Int) (k:Nat),k<=ns.length->preSum (fun i=>ns.getD i 0) k=(ns.take k).sum
 |ns,0,_=>by simp[preSum]
 |ns,k+1,h=>by
  have hk:k<ns.length:=h;have ih:=uz ns k (UR hk)
  have e:(ns.take (k+1)).sum=(ns.take k).sum+ns.getD k 0:=by
   rw[Wc,List.sum_append];simp[UH,hk]
  rw[e,←ih];rfl
section
variable {X:Cx}
theorem Fj(hc:X.calm=true):CallR X (.builtin "all") (fun xs H Q=>∃(p:Addr) (bs:List Bool),xs=[.ref p]/\SqL X.K H p (bs.map V.bl)/\Q (.bl (bs.all id)) H):=by
 intro pins s σ H xs us Q I r h;obtain⟨p,bs,rfl,hq,q⟩:=h;obtain⟨u,rfl,ru⟩:=vals1 r;cases ru;obtain⟨its,rv,pl,hz⟩:=I.list hq
 have hlen:its.length=bs.length:=by have:=rv.length;simpa using this.symm
 have hlt:p<s.heap.objs.size:=by
  obtain⟨o,n,e,_⟩:=pl;exact Pn e
 refine call_all_walk (R4 pl.isList ?_);refine⟨s.heap.objs.size,_,_,_,_,_,fun i=>bs.getD i false,rfl,Xf (A:=X.A.in1) (I.ok.hd hc) _ p (PK hlt) its.toArray,⟨⟨_,PM _ rfl,rfl,rfl⟩,?_⟩,fun i v s' Q' E' hv hQ'=>?_,fun h' tk hk=>?_⟩
 .obtain⟨o,n,e,r⟩:=pl.isList
  exact⟨o,Pe _ n,e,r⟩
 .have hi:i<its.length:=by
   have:=(Ru.mp hv).1;simpa using this
  have hi2:i<bs.length:=by omega
  obtain⟨u,hu,ru⟩:=rv.get (i:=i) (x:=.bl bs[i]) (by simp[hi2])
  have e:v=u:=by
   have hv':its[i]? = some v:=by simpa using hv
   rw[hu] at hv';exact(Qa hv').symm
  subst e;cases (show v=VS bs[i] from ru);refine Qy ?_
  have e:bs[i]=bs.getD i false:=by simp[UH,hi2]
  rw[e];exact hQ'
 .have e:(Re its.toArray.size).all (fun i=>bs.getD i false)=bs.all id:=all_range bs _ (by simpa using hlen)
  rw[e];exact⟨.bl _,H,I.kept (t':=tk) fun b o q=>hk b o (by simp;exact PK (Pn q)) (Pe _ q),rfl,q⟩
theorem xV{ns:List Int}{its:List Pb}(rv:Vals (ns.map V.int) its){i:Nat}{v:Pb}(hv:its.toArray[i]? = some v):∃t,v=.int (ns.getD i 0) t:=by
 have hlen:its.length=ns.length:=by have:=rv.length;simpa using this.symm
 have hi:i<its.length:=by
  have:=(Ru.mp hv).1;simpa using this
 have hi2:i<ns.length:=by omega
 obtain⟨u,hu,ru⟩:=rv.get (i:=i) (x:=.int ns[i]) (by simp[hi2])
 have e:v=u:=by
  have hv':its[i]? = some v:=by simpa using hv
  rw[hu] at hv';exact(Qa hv').symm
 subst e;obtain⟨t,e⟩:=(show ∃t,v=Ra ns[i] t from ru);refine⟨t,?_⟩;rw[e];simp[UH,hi2]
theorem Fg(hc:X.calm=true):CallR X (.builtin "sum") (fun xs H Q=>∃(p:Addr) (ns:List Int),xs=[.ref p]/\SqL X.K H p (ns.map V.int)/\Q (.int ns.sum) H):=by
 intro pins s σ H xs us Q I r h;obtain⟨p,ns,rfl,hq,q⟩:=h;obtain⟨u,rfl,ru⟩:=vals1 r;cases ru;obtain⟨its,rv,pl,hz⟩:=I.list hq
 have hlen:its.length=ns.length:=by have:=rv.length;simpa using this.symm
 have hlt:p<s.heap.objs.size:=by
  obtain⟨o,n,e,_⟩:=pl;exact Pn e
 refine call_sum_walkG (R4 pl.isList ?_);refine⟨s.heap.objs.size,_,_,_,_,_,fun i=>ns.getD i 0,rfl,Xf (A:=X.A.in1) (I.ok.hd hc) _ p (PK hlt) its.toArray,⟨⟨_,PM _ rfl,rfl,rfl⟩,?_⟩,fun b hb=>?_,fun i v hv=>xV rv hv,fun h' tk t' hk=>?_⟩
 .obtain⟨o,n,e,r⟩:=pl.isList
  exact⟨o,Pe _ n,e,r⟩
 .rw[QY]
  rcases(by simpa using hb:b=s.heap.objs.size\/b=p) with e|e
  .rw[e];exact UG _
  .rw[e];exact RE hlt
 .have e:preSum (fun i=>ns.getD i 0) its.toArray.size=ns.sum:=by
   rw[uz ns _ (by simp;omega)];rw[QZ (by simp;omega)]
  rw[e];exact⟨.int _,H,I.kept (t':=tk) fun b o q=>hk b o (by simp;exact PK (Pn q)) (Pe _ q),⟨t',rfl⟩,q⟩
end
open K1 (dF cK)
theorem Gr(h:Q (.bool (decide (a>b))) s):PP (PX prog w) A (richCompare .Gt (.int a t) (.int b u)) Q E s:=
 CmpOf.ints_gt (P:=fun i v=>v=if i=0 then Ra a t else Ra b u) (fun i=>if i=0 then a else b) (fun i v hv=>by
  by_cases hi:i=0
  .exact⟨t,by rw[hv,if_pos hi,if_pos hi]⟩
  .exact⟨u,by rw[hv,if_neg hi,if_neg hi]⟩) 0 1 _ _ s Q E rfl rfl h
section
variable {prog:Px}{w:PY}{A:PZ}{R:W7->Pf->Prop}{it S:Addr}{fp wr:List Addr}{P:Nat->Pb->Prop}{St:Nat->Heap->Prop}{ns:List Int}{kw:List (Str×Pb)}
theorem C7(W:Walks prog w A.in1 it fp wr ns.length P St)(hval:∀i v,P i v->∃t,v=.int (ns.getD i 0) t)(hSf:S∉fp) :
  ∀(k j:Nat) (s:Pf) (best:Int) (tb:Tok) (c:Nat),ns.length-j=k->j<=ns.length->St j s.heap ->
   s.heap.get? S=some { cls:=.type "list",dict:=none,data:=.seq #[.int best tb,.int best tb] c,slots:=#[] } ->
   (∀h' tk t',(∀b o,b∉wr->b≠S->s.heap.get? b=some o->h'.get? b=some o)->R (.ok (.ret (.int (dF best (ns.drop j)) t'))) { s with heap:=h',toks:=tk }) ->
   To (PX prog w) A (.builtin "max.loop" ⟨[.ref it,.none,.ref S],kw⟩) R s:=by
 have sw:S∉wr:=fun h=>hSf (W.sub _ h)
 have nm:(toString "max"++toString ".loop" : String)="max.loop":=by decide
 intro k
 induction k with
 |zero=>
  intro j s best tb c hk hj st hS hR
  have ej:j=ns.length:=by omega
  refine Sn UI ?_;rw[S5 RQ _];show PP (PX prog w) A.in1 (UJ (.ref S) >>= _) _ _ s;refine Pd (SK hS rfl ?_);show PP (PX prog w) A.in1 (tryCatch (Yk (.ref it)) _ >>= _) _ _ s;refine Pd (R8 (W.done s _ _ (ej ▸ st) fun h' tk kk=>?_));have hS2:=kk S _ sw hS;show PP (PX prog w) A.in1 (updateSeq S (fun _=>#[]) >>= _) _ _ _;refine Pd ?_;refine Tf hS2 rfl (Pd (Vr (Pw ?_)));have q:=hR (h'.update S (SY fun _=>#[])) tk tb fun b o h1 h2 e=>(PQ _ _ (QW h2)).trans (kk b o h1 e);rw[QN (Wa ej.symm)] at q;exact q
 |succ k ih=>
  intro j s best tb c hk hj st hS hR
  have hlt:j<ns.length:=by omega
  have ed:ns.drop j=ns.getD j 0::ns.drop (j+1):=by
   rw[Ql hlt];simp[UH,hlt]
  refine Sn UI ?_;rw[S5 RQ _];show PP (PX prog w) A.in1 (UJ (.ref S) >>= _) _ _ s;refine Pd (SK hS rfl ?_);show PP (PX prog w) A.in1 (tryCatch (Yk (.ref it)) _ >>= _) _ _ s;refine Pd (R8 (W.item j s _ _ hlt st fun v h' tk hP st2 kk=>?_));obtain⟨t,rfl⟩:=hval j v hP;have hS2:=kk S _ sw hS;show PP (PX prog w) A.in1 (tryCatch (Ue [Ra (ns.getD j 0) t,Ra (ns.getD j 0) t] (richCompare .Gt (Ra (ns.getD j 0) t) (Ra best tb) >>= _)) _ >>= _) _ _ _;refine Pd (R8 (QJ (Pd (Gr ?_))));refine Pd (QJ (Qy ?_));refine Pd (Vr (Pw ?_))
  by_cases hb:ns.getD j 0>best
  .rw[decide_eq_true hb]
   simp only[if_true];refine Pd ?_;refine Tf hS2 rfl (Pd (Vr ?_));rw[nm];refine Pw ⟨Ut RQ _,ih (j+1) _ (ns.getD j 0) t _ (by omega) hlt (W.frame _ _ _ st2 fun b hbf o e=>?_) (Qu _ hS2 rfl) fun h2 tk2 t2 k2=>?_⟩
   .exact(PQ _ _ (fun z:S=b=>hSf (by rw[z];exact hbf))).trans e
   .have q:=hR h2 tk2 t2 fun b o h1 h3 e=>k2 b o h1 h3 ((PQ _ _ (QW h3)).trans (kk b o h1 e))
    rw[ed,dF,if_pos hb] at q;exact q
  .rw[decide_eq_false hb]
   simp only[Rt,if_false];refine Pd (Vr ?_);rw[nm];refine Pw ⟨Ut RQ _,ih (j+1) _ best tb c (by omega) hlt st2 hS2 fun h2 tk2 t2 k2=>?_⟩;have q:=hR h2 tk2 t2 fun b o h1 h3 e=>k2 b o h1 h3 (kk b o h1 e);rw[ed,dF,if_neg hb] at q;exact q
theorem Cu(W:Walks prog w A.in1 it fp wr ns.length P St)(hval:∀i v,P i v->∃t,v=.int (ns.getD i 0) t)(hSf:S∉fp)(st:St 0 s.heap)
  (hS:s.heap.get? S=some { cls:=.type "list",dict:=none,data:=.seq #[] c,slots:=#[] })
  (hR:∀h' tk t',(∀b o,b∉wr->b≠S->s.heap.get? b=some o->h'.get? b=some o)->R (.ok (.ret (.int (cK d ns) t'))) { s with heap:=h',toks:=tk }) :
  To (PX prog w) A (.builtin "max.loop" ⟨[.ref it,.none,.ref S],[(Pc "default",.int d td)]⟩) R s:=by
 have sw:S∉wr:=fun h=>hSf (W.sub _ h)
 have nm:(toString "max"++toString ".loop" : String)="max.loop":=by decide
 refine Sn UI ?_;rw[S5 RQ _];show PP (PX prog w) A.in1 (UJ (.ref S) >>= _) _ _ s;refine Pd (SK hS rfl ?_);show PP (PX prog w) A.in1 (tryCatch (Yk (.ref it)) _ >>= _) _ _ s
 cases hn:ns with
 |nil=>
  have e0:ns.length=0:=by rw[hn];rfl
  refine Pd (R8 (W.done s _ _ (by rw[e0];exact st) fun h' tk kk=>?_));refine Pd (U3 (Pw ?_));have q:=hR h' tk td fun b o h1 _ e=>kk b o h1 e;rw[hn] at q;exact q
 |cons n0 r0=>
  have e0:0<ns.length:=by rw[hn];exact Nat.succ_pos _
  refine Pd (R8 (W.item 0 s _ _ e0 st fun v h' tk hP st2 kk=>?_));obtain⟨t,rfl⟩:=hval 0 v hP;have hS2:=kk S _ sw hS;show PP (PX prog w) A.in1 (updateSeq S (fun _=>#[Ra (ns.getD 0 0) t,Ra (ns.getD 0 0) t]) >>= _) _ _ _;refine Pd ?_;refine Tf hS2 rfl ?_;rw[nm];refine Pw ⟨Ut RQ _,C7 W hval hSf _ 1 _ (ns.getD 0 0) t _ rfl e0 (W.frame _ _ _ st2 fun b hbf o e=>?_) (Qu _ hS2 rfl) fun h2 tk2 t2 k2=>?_⟩
  .exact(PQ _ _ (fun z:S=b=>hSf (by rw[z];exact hbf))).trans e
  .have q:=hR h2 tk2 t2 fun b o h1 h3 e=>k2 b o h1 h3 ((PQ _ _ (QW h3)).trans (kk b o h1 e))
   rw[hn] at q ⊢;exact q
end
theorem BN(a v:Pb):argsOk "max" ⟨[a],[(Pc "default",v)]⟩:=by unfold argsOk;kernel_rfl
section
variable {X:Cx}
theorem Ec(hc:X.calm=true)(I:Inv X pins σ H s)(hq:SqL X.K H p (ns.map V.int))(q:Q (.int (cK d ns)) H) :
  PP (PX X.prog X.w) X.A (call (.builtin "max") [.ref p] [(Pc "default",.int d td)]) (EP X pins σ Q) X.xe s:=by
 obtain⟨its,rv,pl,hz⟩:=I.list hq
 have hlen:its.length=ns.length:=by have:=rv.length;simpa using this.symm
 have hlt:p<s.heap.objs.size:=by
  obtain⟨o,n,e,_⟩:=pl;exact Pn e
 have nm:(toString "max"++toString ".loop" : String)="max.loop":=by decide
 refine kmk_tree PySem.F.kind_max PySem.F.plain_max PySem.F.entry_max (BN _ _) ?_;show PP (PX X.prog X.w) X.A.in1 (Ts "max" ["key","default"] 0 ⟨[],[(Pc "default",Ra d td)]⟩ >>= _) _ _ s;refine Pd (WN (show Ts "max" ["key","default"] 0 ⟨[],[(Pc "default",Ra d td)]⟩=pure [none,some (.int d td)] from rfl) ?_);refine Pd (Pw ?_);refine Pd (R4 pl.isList ?_);refine Pd (Qn ?_);rw[nm];have W:=Xf (prog:=X.prog) (w:=X.w) (A:=X.A.in1) (I.ok.hd hc) s.heap.objs.size p (PK hlt) its.toArray
 have en:its.toArray.size=ns.length:=by simpa using hlen
 rw[en] at W;have hS:(s.heap.push { cls:=.type "list_iterator",data:=.fields #[.ref p,.int 0 0] }).objs.size=s.heap.objs.size+1:=QY ..
 have nS:(s.heap.push { cls:=.type "list_iterator",data:=.fields #[.ref p,.int 0 0] }).objs.size∉[s.heap.objs.size,p]:=fun hm=>by
  rw[hS] at hm
  rcases Pt.mp hm with e|e
  .exact Wx _ e
  .rw[←Pl.mp e] at hlt
   exact absurd hlt (Nat.not_lt_of_le (S6 _))
 refine Pw ⟨Ut PySem.F.plain_max_loop _,Cu W (fun i v hv=>xV rv hv) nS ⟨⟨_,Pe _ (PM _ rfl),rfl,rfl⟩,?_⟩ (PM _ rfl) fun h' tk t' hk=>?_⟩
 .obtain⟨o,n,e,r⟩:=pl.isList
  exact⟨o,Pe _ (Pe _ n),e,r⟩
 .exact⟨.int _,H,I.kept (t':=tk) fun b o z=>hk b o (by simp;exact PK (Pn z)) (by rw[hS];exact PK (RE (Pn z))) (Pe _ (Pe _ z)),⟨t',rfl⟩,q⟩
def JK(K:Frag)(te td:TE):TE:=fun σ H Q=>te σ H fun x H1=>∃x',[x]=[x']/\td σ H1 fun y H2=>∃p ns d,x'=.ref p/\y=.int d/\SqL K H2 p (ns.map V.int)/\Q (.int (cK d ns)) H2
end
section
variable {X:Cx}{e ed:Expr}{te td:TE}{p pos kpos:Pos}
theorem F8(hc:X.calm=true)(hg:Gl X "max")(hm:X.mg "max"=none)(ha:PE X e te)(hd:PE X ed td)(hs:Pk [e] X.env=(false,eval e X.env)::Pk [] X.env:=by rfl)
  (h1:Qg pos (Pk [e] X.env)=(false,eval e X.env)::Qg pos (Pk [] X.env):=by rfl)
  (h2:(Qg pos (Pk [e] X.env)).any (·.1)=false:=by rfl) (h3:(Rq pos (QH [⟨some "default",ed,kpos⟩] X.env)).all (·.1.isSome)=true:=by rfl)
  (h4:(Rq pos (QH [⟨some "default",ed,kpos⟩] X.env)).any (·.1.isNone)=false:=by rfl) (h5:(Rq pos (QH [⟨some "default",ed,kpos⟩] X.env)).filterMap (·.1)=[Pc "default"]:=by rfl) :
  PE X (.Call (.Name "max" p) [e] [⟨some "default",ed,kpos⟩] pos) (JK X.K te td):=by
 intro pins s σ H Q I h;refine Rp (jP I hg hm boot_max ?_ (by decide) (by decide));refine XY (thn ((bw ha cG hs) pos pins s σ H (fun vs H1=>∃x,vs=[x]/\td σ H1 fun y H2=>∃p ns d,x=.ref p/\y=.int d/\SqL X.K H2 p (ns.map V.int)/\Q (.int (cK d ns)) H2) I ?_) fun us s1 ⟨vs,H1,I1,r,x,ex,q⟩=>?_) h1 h2 h3 h4
 .exact h
 .subst ex
  obtain⟨u,rfl,ru⟩:=vals1 r;refine Ys (thn (hd pins s1 σ H1 _ I1 q) fun v s2 ⟨y,H2,I2,r2,q2⟩=>Yx ?_);obtain⟨p,ns,d,rfl,rfl,hq,q⟩:=q2;cases ru;obtain⟨t,rfl⟩:=r2;rw[h5];exact Ec hc I2 hq q
end
section
variable {X:Cx}
theorem C1:OpR X (PU .IsNot) (fun x y H Q=>∃b c,x=.bl b/\y=.bl c/\Q (.bl (b != c)) H):=by
 intro pins s σ H x y v u Q I rx ry h;obtain⟨b,c,rfl,rfl,q⟩:=h;cases rx;cases ry;exact isnot_bool ⟨.bl (b != c),H,I,rfl,q⟩
theorem op_catG:OpR X (QU .Add) (fun x y H Q=>∃a b xs ys,x=.ref a/\y=.ref b/\SqT X.K H a xs/\SqT X.K H b ys/\xs.length+ys.length<=Pp /\
  (xs=[]->Q (.ref b) H)/\(xs≠[]->ys=[]->Q (.ref a) H)/\(xs≠[]->ys≠[]->∀p,H p=none->Q (.ref p) (upd H p (.tup (xs++ys))))):=by
 intro pins s σ H x y v u Q I rx ry h;obtain⟨a,b,xs,ys,rfl,rfl,ha,hb,hz,q0,q1,q2⟩:=h
 by_cases hx:xs=[]
 .cases rx
  cases ry;obtain⟨its,r1,p1,_⟩:=I.tuple ha;obtain⟨its2,r2,p2,_⟩:=I.tuple hb;have hv:its=[]:=r1.nil_iff.mpr hx;obtain⟨⟨cls,dd,data,sl⟩,ho,hc,n,hd⟩:=id p1;obtain⟨⟨cls2,dd2,data2,sl2⟩,ho2,hc2,n2,hd2⟩:=id p2;simp only at hc hd hc2 hd2;subst hc hd hc2 hd2
  exact UV ⟨_,ho,rfl⟩ ⟨_,ho2,rfl⟩ UB VM SF Sy (Si _ _)
   (tuple_addW0 a b its.toArray its2.toArray n n2 dd dd2 sl sl2 (by simp[hv])) ⟨ho,ho2,⟨.ref b,H,I,rfl,q0 hx⟩⟩
 .exact Ge pins s σ H _ _ v u Q I rx ry ⟨a,b,xs,ys,rfl,rfl,ha,hb,hx,hz,q1 hx,q2 hx⟩
theorem HQ:SlR X (fun x lo hi H Q=>∃z:Str,x=.str z/\z.length<=Pp/\Q (.str (QP z lo hi)) H):=by
 intro pins s σ H x v vl vu lo hi sl Q I rx hs pl pu h;obtain⟨z,rfl,hz,q⟩:=h;obtain⟨t,rfl⟩:=rx
 have fin:∀l u:Option (Int×Tok),l.map (·.1)=lo->u.map (·.1)=hi->s.heap.IsSlice sl l u none->PP (PX X.prog X.w) X.A (Uk (.str z t) (.ref sl)) (EP X pins σ Q) X.xe s:=fun l u el eu h=>by
  refine wpAny_getItem_str_slice h rfl ?_;refine post_val_or_made (fun _=>?_) fun t' k=>?_
  .have:=sliceIndices_le (l.map (·.1)) (u.map (·.1)) z.length
   have e:=List.length_filterMap_le (fun i=>z.cps[i]?) (WO z l u none);show ((WO z l u none).filterMap (z.cps[·]?)).toArray.size<=Pp;rw[Pr];unfold WO at e ⊢;simp only[Option.map_none,UD] at e ⊢;omega
  .refine⟨.str (QP z lo hi),H,I.tok _,⟨t',?_⟩,q⟩
   rw[←el,←eu];rfl
 refine⟨"str",_,PySem.F.slot_str_getitem.lookup,Xb s z t,?_⟩
 cases pl with
 |none=>
  cases pu with
  |none=>exact fin none none rfl rfl hs
  |int j u=>exact fin none (some (j,u)) rfl rfl hs
 |int i u=>
  cases pu with
  |none=>exact fin (some (i,u)) none rfl rfl hs
  |int j u'=>exact fin (some (i,u)) (some (j,u')) rfl rfl hs
theorem CT{z:Str}{lo hi:Option Int}{c:Nat}(h:c∈(QP z lo hi).cps.toList):c∈z.cps.toList:=by
 unfold QP at h;split at h
 .exact h
 .obtain⟨i,_,hi⟩:=TK.mp (by simpa using h)
  have:=Array.mem_of_getElem? hi;simpa using this
theorem op_mulS:OpR X (QU .Mult) (fun x y H Q=>∃z k,x=.str z/\y=.int k/\0<=k/\k<=2000/\z.length<=1000/\Q (.str (Tt z k)) H):=by
 intro pins s σ H x y v u Q I rx ry h;obtain⟨z,k,rfl,rfl,h1,h2,h3,q⟩:=h;obtain⟨t,rfl⟩:=rx;obtain⟨t',rfl⟩:=ry;have hm:z.length*k.toNat<=1000*2000:=Vs h3 (by omega);refine SB.mul ⟨?_,fun g1 g2=>?_,fun g1 g2=>?_⟩ fun t' k'=>⟨.str _,H,I.tok _,⟨t',rfl⟩,q⟩
 .simp;omega
 .have hk:1<=k:=by simp at g1;omega
  have e1:(1000:Int)<=(2^63-1) / k:=by
   rw[Int.le_ediv_iff_mul_le (by omega)];omega
  omega
 .unfold Builtin.Str.tooLong
  simp[Pp];omega
end
theorem ut:∀{us:List Pb},Vals (ys.map V.str) us->StrsAre us ys:=by
 induction ys with
 |nil=>intro us r;rw[UY] at r;cases r;exact .nil
 |cons y ys ih=>
  intro us r;rw[Pz] at r
  cases r with
  |cons r1 r2=>
   obtain⟨t,e⟩:=r1;subst e;exact .cons y t (ih r2)
section
variable {X:Cx}
end
structure Fn(P:Px)(w:PY)(K:Frag)(mg:Str->Option Pb)(base:Heap)(name:Str)(ps:List Str)(k:Nat)(sp:Sp):Prop where
 ex:∃f fd,FnOk P w K mg base CX0 k f fd ps sp/\Binds K fd ps []/\Qm K (.ref f)=true/\mg name=some (.ref f)
section
variable {X:Cx}{name:Str}{ps:List Str}{k:Nat}{sp:Sp}{e:Expr}{es:List Expr}{t:TA}{p pos:Pos}
theorem i7(F:Fn X.prog X.w X.K X.mg X.base name ps k sp)(hr:Room k X.A)(hg:Gl X name)(ha:PA X (e::es) t)(hdb:(name == ("__debug__" : Str))=false:=by decide)
  (he:Pk (e::es) X.env=(false,eval e X.env)::Pk es X.env:=by rfl) (hpl:(Qg pos (Pk es X.env)).any (·.1)=false:=by rfl):PE X (.Call (.Name name p) (e::es) [] pos) (pI sp [] E0 t):=by
 obtain⟨f,fd,h1,h2,h3,h4⟩:=F.ex;exact xq h1 hr hg h4 h3 h2 .nil J0 ha hdb he hpl
end
theorem Eu(S:CS osc N x scope N')(hi:PI X (.Name x px) iter wi)
  (he:∀C s0 H0 ex,PE (bV X x scope C s0 H0 ex N') elt te) (ht:∀C s0 H0 ex,PTs (bV X x scope C s0 H0 ex N') ifs tt) (hc:X.calm=true:=by rfl) (hs:X.env.scope=osc:=by rfl) (hN:X.N=N:=by rfl)
  (hf:∀v,Qj iter X.env v=pure v:=by intro _;rfl):PE X (.ListComp elt [⟨.Name x px,iter,ifs,0⟩] scope pos) (zQ wi tt te):=by
 subst hs hN;exact Ga hc S hi he ht hf
end L2
namespace D
open L2
inductive Gh(P:Hp->Prop):Hp->Prop where
 |done {H:Hp}:P H->Gh P H
 |frz {H:Hp}{a:Addr}{kvs:List (Key×V)}:H a=some (.dK kvs)->(∀o,Gh P (upd H a (.frz o (.dK kvs))))->Gh P H
theorem Gh.imp(g:Gh P H)(i:∀H,P H->P' H):Gh P' H:=by
 induction g with
 |done h=>exact .done (i _ h)
 |frz e _ ih=>exact .frz e ih
section
variable {X:Cx}{pins:List (Addr×Obj)}{σ:L2.St}{H:Hp}{s:Pf}
theorem xU(I:Inv X pins σ H s)(e:H a=some (.dK kvs)):∃o,Inv X pins σ (upd H a (.frz o (.dK kvs))) s:=by
 obtain⟨z,y,vs,kv,o,es,ep,eo,r⟩:=I.hok a _ e
 have U:∀{b:Addr}{u:HO},H b=some u->(∀ks,u≠.dK ks)->upd H a (.frz o (.dK kvs)) b=some u:=fun {b u} q n=>by
  rw[aR (fun z=>by subst z;rw[e] at q;cases q;exact n _ rfl)];exact q
 have hok:HOk X.prog X.w (upd H a (.frz o (.dK kvs))) s.heap:=fun b u q=>by
  by_cases hb:b=a
  .subst hb
   rw[bo] at q;cases q;exact⟨eo,(I.hok b _ e).stay (fun _ _ _ q=>q) (fun c q=>U q (fun _ z=>nomatch z)) fun c xs q=>U q (fun _ z=>nomatch z)⟩
  .rw[aR hb] at q
   exact(I.hok b u q).stay (fun _ _ _ q=>q) (fun c q=>U q (fun _ z=>nomatch z)) fun c xs q=>U q (fun _ z=>nomatch z)
 exact⟨o,I.un (h':=s.heap) (t':=s.toks) ⟨fun b ob q n _ _=>q,fun b ob q n _ _=>⟨_,q⟩,fun b ob q n _=>by rw[aR (fun z=>by subst z;rw[e] at n;cases n)];exact n,fun b ob q _=>⟨_,q⟩,fun b xs q=>U q (fun _ z=>nomatch z),
  fun b ob u q=>U q (fun _ z=>nomatch z),fun b ps q=>⟨#[],by rw[U q (fun _ z=>nomatch z)];simp⟩⟩ hok⟩
theorem Gh.ok(g:Gh P H)(I:Inv X pins σ H s):∃H',Inv X pins σ H' s/\P H':=by
 induction g with
 |done h=>exact⟨_,I,h⟩
 |frz e _ ih=>
  obtain⟨o,I'⟩:=xU I e;exact ih o I'
end
section
variable {X:Cx}
theorem JU{st:Stmt}{t:TS}(h:PS X st t):PS X st (fun D σ H=>Gh (t D σ) H):=fun pins s σ H D I q=>by
 obtain⟨H',I',q'⟩:=q.ok I;exact h pins s σ H' D I' q'
theorem HY{st:List Stmt}{t:TS}(h:PSs X st t):PSs X st (fun D σ H=>Gh (t D σ) H):=fun pins s σ H D I q=>by
 obtain⟨H',I',q'⟩:=q.ok I;exact h pins s σ H' D I' q'
theorem JY(h:PE X e t):PE X e (fun σ H Q=>t σ H fun v H1=>Gh (Q v) H1):=fun pins s σ H Q I q=>
 thn (h pins s σ H _ I q) fun u s' ⟨v,H',I',r,q'⟩=>by
  obtain⟨H2,I2,q2⟩:=q'.ok I';exact⟨v,H2,I2,r,q2⟩
end
def iz(o:Obj):Nat:=match o.data with
 |.dict _ ep=>ep
 |_=>0
def Itd(a:Addr)(o:Obj)(kvs:List (Key×V)):It:=⟨fun i H=>H a=some (.frz o (.dK kvs))/\i<kvs.length,fun i H x H'=>H'=H/\∃k v,kvs[i]? = some (k,v)/\x=kV k,fun i H=>H a=some (.frz o (.dK kvs))/\i=kvs.length⟩
theorem iK(ok:HOk P w H h)(e:H a=some (.frz o (.dK kvs))):kvs.length<=Pp/\(a == QF)=false/\∃vs,KV kvs vs/\h.DictAt (bE P w) a vs (iz o):=by
 obtain⟨e1,z,y,vs,kv,o',es,ep,e2,ed,dd,r⟩:=ok a _ e;rw[e1] at e2;cases e2;refine⟨z,y,vs,kv,o,es,e1,ed,?_,r⟩;unfold iz;rw[dd]
theorem keyV(e:(bE P w).is k v=true):RelV (kV k) v:=by
 rcases eB (show fB k v=true from e) with⟨i,t,rfl,rfl⟩|⟨x,t,rfl,rfl⟩
 .exact⟨t,rfl⟩
 .exact⟨t,rfl⟩
theorem Kt{kvs:List (Key×V)}{vs:List (Key×Pb)}(r:KV kvs vs){i:Nat}{k:Key}{x:Pb}(e:vs[i]? = some (k,x)):∃v,kvs[i]? = some (k,v):=by
 have h:=r.keys
 have h1:(vs.map (·.1))[i]? = some k:=by rw[Qd,e];rfl
 rw[←h,Qd] at h1
 cases q:kvs[i]? with
 |none=>rw[q] at h1;cases h1
 |some p=>
  rw[q] at h1;cases h1;exact⟨p.2,rfl⟩
theorem CQ{P:Px}{w:PY}{K:Frag}{tg:Expr}(a it:Addr)(o:Obj)(kvs:List (Key×V)):Turn P w K tg (Itd a o kvs) [it] it (fun i h=>h.IsKeyIter it a i kvs.length (iz o)) where
 mem:=by simp
 obj:=fun i h st b hb=>by
  have e:b=it:=by simpa using hb
  subst e;obtain⟨o,e,c,d⟩:=st;exact⟨o,e,fun v z=>by rw[d] at z;cases z⟩
 keep:=fun i h h' st k=>st.at fun o e=>k it (by simp) o e
 item:=by
  intro X hP hw hK hc i pins s σ H E I hf st hg;subst hP hw hK;obtain⟨hg1,hg2⟩:=hg;obtain⟨z,y,vs,kv,dd⟩:=iK I.hok hg1;obtain⟨f0,f1,f2,f3,f4,f5⟩:=hf it (by simp);have hl:=kv.length
  have ne:a≠it:=fun q=>by rw[q,f0] at hg1;cases hg1
  have W:=Xg (prog:=X.prog) (w:=X.w) (knd:=bE X.prog X.w) (I.ok.hd hc) it a ne vs (iz o);refine W.item i s _ _ (by omega) ⟨by rw[←hl];exact st,dd⟩ fun v h' tk hv st' kk=>?_;obtain⟨k,x,h1,h2⟩:=hv;have I1:Inv X pins σ H { s with heap:=h',toks:=tk }:=I.turned (fun b o hb e=>kk b o (by simpa using hb) e) f0 f1 f3 f4 f5
  have st1:h'.IsKeyIter it a (i+1) kvs.length (iz o):=by rw[hl];exact st'.1
  obtain⟨o1,e1,c1,d1⟩:=id st1;obtain⟨v0,h3⟩:=Kt kv h1;exact⟨v,rfl,lZ (s:={ s with heap:=h',toks:=tk }) e1 c1 d1 (by decide) ⟨kV k,H,I1,keyV h2,⟨rfl,k,v0,h3,rfl⟩,st1,fun b hb=>(hf b hb).1⟩⟩
 done:=by
  intro X hP hw hK hc i pins s σ H E I hf st hg;subst hP hw hK;obtain⟨hg1,hg2⟩:=hg;obtain⟨z,y,vs,kv,dd⟩:=iK I.hok hg1;obtain⟨f0,f1,f2,f3,f4,f5⟩:=hf it (by simp);have hl:=kv.length
  have ne:a≠it:=fun q=>by rw[q,f0] at hg1;cases hg1
  have W:=Xg (prog:=X.prog) (w:=X.w) (knd:=bE X.prog X.w) (I.ok.hd hc) it a ne vs (iz o);refine W.done s _ _ ⟨by rw[←hl,←hg2];rw[←hg2] at st;exact st,dd⟩ fun h' tk kk=>⟨rfl,I.turned (fun b o hb e=>kk b o (by simpa using hb) e) f0 f1 f3 f4 f5⟩
 self:=fun _ _ _ _ _ st h=>wpAny_pyIter_keyiter st h
inductive W where
 |d (x:Pa)|tp (i:Nat)|loc (x:Pa)
abbrev Tp:=List (List Pa)
abbrev Rho:=List (Option W)
noncomputable def bnd{α β:Type}(o:Option (α×Tp))(k:α->Tp->Option β):Option β:=match o with
 |some (a,T)=>k a T
 |none=>none
theorem aN{α β:Type}{o:Option (α×Tp)}{k:α->Tp->Option β}{b:β}(h:bnd o k=some b):∃a T,o=some (a,T)/\k a T=some b:=by
 cases o with
 |none=>cases h
 |some p=>exact⟨p.1,p.2,rfl,h⟩
theorem Jq{α β:Type}{a:α}{T:Tp}{k:α->Tp->Option β}:bnd (some (a,T)) k=k a T:=rfl
def gK:Key->Pa
 |.inl i=>.int i
 |.inr x=>.str x
def TupAt(K:Frag)(O:Addr->Prop)(H:Hp)(a:Addr)(vs:List V):Prop:=(¬O a/\Rd H a (.tup vs))\/SqT K (fun _=>none) a vs
def LstAt(K:Frag)(O:Addr->Prop)(H:Hp)(a:Addr)(vs:List V):Prop:=(¬O a/\Rd H a (.lst vs))\/SqL K (fun _=>none) a vs
theorem HL{K:Frag}{H:Hp}{a:Addr}{vs:List V}(h:SqT K (fun _=>none) a vs):SqT K H a vs:=by
 rcases h with(h|⟨o,h⟩)|h
 .cases h
 .cases h
 .exact .inr h
theorem HM{K:Frag}{H:Hp}{a:Addr}{vs:List V}(h:SqL K (fun _=>none) a vs):SqL K H a vs:=by
 rcases h with(h|⟨o,h⟩)|h
 .cases h
 .cases h
 .exact .inr h
theorem TupAt.sq{K:Frag}{O:Addr->Prop}{H:Hp}{a:Addr}{vs:List V}(h:TupAt K O H a vs):SqT K H a vs:=by
 rcases h with h|h
 .exact .inl h.2
 .exact HL h
theorem LstAt.sq{K:Frag}{O:Addr->Prop}{H:Hp}{a:Addr}{vs:List V}(h:LstAt K O H a vs):SqL K H a vs:=by
 rcases h with h|h
 .exact .inl h.2
 .exact HM h
mutual
inductive Rep(K:Frag)(O:Addr->Prop)(H:Hp):V->Pa->Prop where
 |non:Rep K O H .non .none
 |bl (b:Bool):Rep K O H (.bl b) (.bool b)
 |int (i:Int):Rep K O H (.int i) (.int i)
 |str (x:Str):Rep K O H (.str x) (.str x)
 |tup {a:Addr}{vs:List V}{ds:List Pa}:TupAt K O H a vs->Reps K O H vs ds->Rep K O H (.ref a) (.tuple ds)
 |lst {a:Addr}{vs:List V}{ds:List Pa}:LstAt K O H a vs->Reps K O H vs ds->Rep K O H (.ref a) (.list ds)
 |dct {a:Addr}{o:Obj}{kvs:List (Key×V)}{ds:List (Pa×Pa)}:¬O a->H a=some (.frz o (.dK kvs))->RepK K O H kvs ds->Rep K O H (.ref a) (.dict ds)
inductive Reps(K:Frag)(O:Addr->Prop)(H:Hp):List V->List Pa->Prop where
 |nil:Reps K O H [] []
 |cons {v:V}{d:Pa}{vs:List V}{ds:List Pa}:Rep K O H v d->Reps K O H vs ds->Reps K O H (v::vs) (d::ds)
inductive RepK(K:Frag)(O:Addr->Prop)(H:Hp):List (Key×V)->List (Pa×Pa)->Prop where
 |nil:RepK K O H [] []
 |cons {k:Key}{v:V}{d:Pa}{kvs:List (Key×V)}{ds:List (Pa×Pa)}:Rep K O H v d->RepK K O H kvs ds->RepK K O H ((k,v)::kvs) ((gK k,d)::ds)
end
def Le(O:Addr->Prop)(H:Hp)(O':Addr->Prop)(H':Hp):Prop:=∀a o,¬O a->H a=some o->¬O' a/\H' a=some o
theorem Le.trans(h:Le O H O1 H1)(g:Le O1 H1 O2 H2):Le O H O2 H2:=fun a o n e=>let ⟨n1,e1⟩:=h a o n e;g a o n1 e1
theorem TupAt.mono{K:Frag}{O O':Addr->Prop}{H H':Hp}(h:Le O H O' H'){a:Addr}{vs:List V}(t:TupAt K O H a vs):TupAt K O' H' a vs:=by
 rcases t with⟨n,t|⟨o,t⟩⟩|t
 .exact .inl ⟨(h _ _ n t).1,.inl (h _ _ n t).2⟩
 .exact .inl ⟨(h _ _ n t).1,.inr ⟨o,(h _ _ n t).2⟩⟩
 .exact .inr t
theorem LstAt.mono{K:Frag}{O O':Addr->Prop}{H H':Hp}(h:Le O H O' H'){a:Addr}{vs:List V}(t:LstAt K O H a vs):LstAt K O' H' a vs:=by
 rcases t with⟨n,t|⟨o,t⟩⟩|t
 .exact .inl ⟨(h _ _ n t).1,.inl (h _ _ n t).2⟩
 .exact .inl ⟨(h _ _ n t).1,.inr ⟨o,(h _ _ n t).2⟩⟩
 .exact .inr t
mutual
theorem Rep.mono{K:Frag}{O O':Addr->Prop}{H H':Hp}(e:Le O H O' H'):∀{v:V}{d:Pa},Rep K O H v d->Rep K O' H' v d
 |_,_,.non=>.non
 |_,_,.bl b=>.bl b
 |_,_,.int i=>.int i
 |_,_,.str x=>.str x
 |_,_,.tup t r=>.tup (t.mono e) (Reps.mono e r)
 |_,_,.lst t r=>.lst (t.mono e) (Reps.mono e r)
 |_,_,.dct n h r=>.dct (e _ _ n h).1 (e _ _ n h).2 (RepK.mono e r)
theorem Reps.mono{K:Frag}{O O':Addr->Prop}{H H':Hp}(e:Le O H O' H'):∀{vs:List V}{ds:List Pa},Reps K O H vs ds->Reps K O' H' vs ds
 |_,_,.nil=>.nil
 |_,_,.cons r t=>.cons (Rep.mono e r) (Reps.mono e t)
theorem RepK.mono{K:Frag}{O O':Addr->Prop}{H H':Hp}(e:Le O H O' H'):∀{vs:List (Key×V)}{ds:List (Pa×Pa)},RepK K O H vs ds->RepK K O' H' vs ds
 |_,_,.nil=>.nil
 |_,_,.cons r t=>.cons (Rep.mono e r) (RepK.mono e t)
end
section
variable {K:Frag}{O:Addr->Prop}{H:Hp}
theorem Reps.length:∀{vs:List V}{ds:List Pa},Reps K O H vs ds->vs.length=ds.length
 |_,_,.nil=>rfl
 |_,_,.cons _ t=>congrArg (· + 1) (Reps.length t)
theorem Reps.get:∀{vs:List V}{ds:List Pa}{i:Nat}{v:V},Reps K O H vs ds->vs[i]? = some v->∃d,ds[i]? = some d/\Rep K O H v d
 |_,_,_,_,.nil,e=>by simp at e
 |_,_,0,_,.cons r _,e=>by simp at e;subst e;exact⟨_,rfl,r⟩
 |_,_,i+1,v,.cons _ t,e=>by
  obtain⟨d,h1,h2⟩:=Reps.get (i:=i) (v:=v) t (by simpa using e);exact⟨d,by simpa using h1,h2⟩
theorem Reps.getD:∀{vs:List V}{ds:List Pa}{i:Nat}{d:Pa},Reps K O H vs ds->ds[i]? = some d->∃v,vs[i]? = some v/\Rep K O H v d
 |_,_,_,_,.nil,e=>by simp at e
 |_,_,0,_,.cons r _,e=>by simp at e;subst e;exact⟨_,rfl,r⟩
 |_,_,i+1,v,.cons _ t,e=>by
  obtain⟨d,h1,h2⟩:=Reps.getD (i:=i) (d:=v) t (by simpa using e);exact⟨d,by simpa using h1,h2⟩
theorem Reps.set(r:Rep K O H v d):∀{vs:List V}{ds:List Pa} (i:Nat),Reps K O H vs ds->Reps K O H (vs.set i v) (ds.set i d)
 |_,_,_,.nil=>.nil
 |_,_,0,.cons _ t=>.cons r t
 |_,_,i+1,.cons q t=>.cons q (Reps.set r i t)
theorem Reps.append:∀{vs:List V}{ds:List Pa},Reps K O H vs ds->Reps K O H ws es->Reps K O H (vs++ws) (ds++es)
 |_,_,.nil,r=>r
 |_,_,.cons q t,r=>.cons q (Reps.append t r)
theorem Reps.take:∀{vs:List V}{ds:List Pa} (n:Nat),Reps K O H vs ds->Reps K O H (vs.take n) (ds.take n)
 |_,_,0,_=>.nil
 |_,_,_+1,.nil=>.nil
 |_,_,n+1,.cons r t=>.cons r (Reps.take n t)
theorem Reps.drop:∀{vs:List V}{ds:List Pa} (n:Nat),Reps K O H vs ds->Reps K O H (vs.drop n) (ds.drop n)
 |_,_,0,r=>r
 |_,_,_+1,.nil=>.nil
 |_,_,n+1,.cons _ t=>Reps.drop n t
theorem Reps.rep(r:Reps K O H vs ds):∀n:Nat,Reps K O H (PC n vs).flatten (PC n ds).flatten
 |0=>.nil
 |n+1=>by
  rw[Q2,Q2,Qe,Qe];exact r.append (r.rep n)
end
def SameX(ts:List Addr)(H H':Hp):Prop:=∀b o,b∉ts->H b=some o->H' b=some o
theorem SameX.refl(ts:List Addr)(H:Hp):SameX ts H H:=fun _ _ _ h=>h
theorem SameX.trans(a:SameX ts H H1)(b:SameX ts H1 H2):SameX ts H H2:=fun c o n h=>b c o n (a c o n h)
theorem SameX.new(h:H p=none)(o:HO):SameX ts H (upd H p o):=fun b u _ q=>by rw[aR (c6 q h)];exact q
def Mut(o:Option HO):Prop:=(∃vs,o=some (.lst vs))\/(∃kvs,o=some (.dK kvs))\/∃C dx fs,o=some (.ins C dx fs)
theorem Mut.ex(h:Mut o):∃u,o=some u:=by rcases h with⟨vs,e⟩|⟨vs,e⟩|⟨C,dx,fs,e⟩ <;> exact⟨_,e⟩
theorem Mut.to(h:Mut o)(k:∀u,o=some u->o'=some u):Mut o':=by
 rcases h with⟨vs,e⟩|⟨vs,e⟩|⟨C,dx,fs,e⟩
 .exact .inl ⟨vs,k _ e⟩
 .exact .inr (.inl ⟨vs,k _ e⟩)
 .exact .inr (.inr ⟨C,dx,fs,k _ e⟩)
def K2(C:Addr):PyData:=.dict [(.none,.int (C:Int))]
def isO:List Pa->Bool
 |.dict [(.none,_)]::_=>true
 |_=>false
def pairF(p:Str×Pa):PyData:=.tuple [.str p.1,p.2]
inductive RepF(K:Frag)(O:Addr->Prop)(H:Hp):List (Str×V)->List (Str×Pa)->Prop where
 |nil:RepF K O H [] []
 |cons {n:Str}{v:V}{d:Pa}{vs:List (Str×V)}{ds:List (Str×Pa)}:Rep K O H v d->RepF K O H vs ds->RepF K O H ((n,v)::vs) ((n,d)::ds)
theorem RepF.mono{K:Frag}{O O':Addr->Prop}{H H':Hp}(e:Le O H O' H'){vs:List (Str×V)}{ds:List (Str×Pa)}(r:RepF K O H vs ds):RepF K O' H' vs ds:=by
 induction r with
 |nil=>exact .nil
 |cons r _ ih=>exact .cons (Rep.mono e r) ih
def RowAt(K:Frag)(O:Addr->Prop)(H:Hp)(a:Addr)(xs:List Pa):Prop:=(isO xs=false/\∃vs,H a=some (.lst vs)/\Reps K O H vs xs)\/∃C dx fs fd,H a=some (.ins C dx fs)/\xs=K2 C::fd.map pairF/\RepF K O H fs fd
theorem RowAt.mono{K:Frag}{O O':Addr->Prop}{H H':Hp}{a:Addr}{xs:List Pa}(h:RowAt K O H a xs)(k:∀o,H a=some o->H' a=some o)(l:Le O H O' H'):RowAt K O' H' a xs:=by
 rcases h with⟨n,vs,h1,h2⟩|⟨C,dx,fs,fd,h1,h2,h3⟩
 .exact .inl ⟨n,vs,k _ h1,h2.mono l⟩
 .exact .inr ⟨C,dx,fs,fd,k _ h1,h2,h3.mono l⟩
theorem RowAt.lst{K:Frag}{O:Addr->Prop}{H:Hp}{a:Addr}{xs:List Pa}(h:RowAt K O H a xs)(n:isO xs=false):∃vs,H a=some (.lst vs)/\Reps K O H vs xs:=by
 rcases h with⟨_,h⟩|⟨C,dx,fs,fd,h1,h2,h3⟩
 .exact h
 .rw[h2] at n
  cases n
theorem FQ{K:Frag}{O:Addr->Prop}{H:Hp}{v:V}{y:Pa}(h:Rep K O H v (.dict [(.none,y)])):False:=by
 cases h with
 |dct _ _ r=>
  generalize hl:[(Yy,y)]=l at r
  cases r with
  |nil=>cases hl
  |@cons k _ _ _ _ _ _=>
   injection hl with h1 _
   injection h1 with h1 _
   rcases k with i|x
   .cases h1
   .cases h1
theorem Reps.notO{K:Frag}{O:Addr->Prop}{H:Hp}{vs:List V}{xs:List Pa}(r:Reps K O H vs xs):isO xs=false:=by
 cases r with
 |nil=>rfl
 |cons h _=>
  rename_i d _ _ _;unfold isO;split
  .rename_i e
   cases e;exact(FQ h).elim
  .rfl
structure HC(K:Frag)(O:Addr->Prop)(ts:List Addr)(H:Hp)(T:Tp):Prop where
 own:∀b∈ts,O b
 trk:∀b,O b->Mut (H b)
 nd:ts.Nodup
 len:ts.length=T.length
 tape:∀(i:Nat) (a:Addr) (xs:List Pa),ts[i]? = some a->T[i]? = some xs->RowAt K O H a xs
section
variable {K:Frag}{O:Addr->Prop}{ts:List Addr}{H H':Hp}{T:Tp}
theorem HC.le(c:HC K O ts H T)(s:SameX ts H H'):Le O H O H':=fun a o n e=>⟨n,s a o (fun z=>n (c.own a z)) e⟩
theorem HC.step(c:HC K O ts H T)(s:SameX ts H H')(t:∀b∈ts,H' b=H b):HC K O ts H' T where
 own:=c.own
 trk:=fun b hb=>by
  by_cases z:b∈ts
  .rw[t b z];exact c.trk b hb
  .exact(c.trk b hb).to fun u e=>s b _ z e
 nd:=c.nd
 len:=c.len
 tape:=fun i a xs e1 e2=>by
  exact(c.tape i a xs e1 e2).mono (fun o h1=>by rw[t a (P8 e1)];exact h1) (c.le s)
theorem HC.fresh(c:HC K O ts H T)(h:H p=none):¬O p:=fun z=>by
 obtain⟨u,e⟩:=(c.trk p z).ex;rw[h] at e;cases e
theorem HC.new(c:HC K O ts H T)(h:H p=none)(o:HO):HC K O ts (upd H p o) T:=c.step (.new h o) fun b hb=>aR fun z=>c.fresh h (z ▸ c.own b hb)
theorem HC.leNew(c:HC K O ts H T)(h:H p=none)(o:HO):Le O H O (upd H p o):=c.le (.new h o)
theorem HC.newT(c:HC K O ts H T)(h:H p=none)(r:Reps K O H vs ds):Rep K O (upd H p (.tup vs)) (.ref p) (.tuple ds):=.tup (.inl ⟨c.fresh h,.inl bo⟩) (r.mono (c.leNew h _))
theorem HC.newL(c:HC K O ts H T)(h:H p=none)(r:Reps K O H vs ds):Rep K O (upd H p (.lst vs)) (.ref p) (.list ds):=.lst (.inl ⟨c.fresh h,.inl bo⟩) (r.mono (c.leNew h _))
end
inductive Vw(K:Frag)(O:Addr->Prop)(H:Hp):V->Pa->Prop where
 |rep {v:V}{x:Pa}:Rep K O H v x->Vw K O H v x
 |raw {a:Addr}{vs:List V}{xs:List Pa}:H a=some (.lst vs)->Reps K O H vs xs->Vw K O H (.ref a) (.list xs)
 |rawD {a:Addr}{kvs:List (Key×V)}{ds:List (Pa×Pa)}:H a=some (.dK kvs)->RepK K O H kvs ds->Vw K O H (.ref a) (.dict ds)
section
variable {K:Frag}{O:Addr->Prop}{H:Hp}{v:V}
theorem Vw.int(h:Vw K O H v (.int i)):v=.int i:=by cases h with|rep h=>cases h;rfl
theorem Vw.str(h:Vw K O H v (.str x)):v=.str x:=by cases h with|rep h=>cases h;rfl
theorem Vw.bl(h:Vw K O H v (.bool b)):v=.bl b:=by cases h with|rep h=>cases h;rfl
theorem Vw.non(h:Vw K O H v .none):v=.non:=by cases h with|rep h=>cases h;rfl
theorem Vw.tup(h:Vw K O H v (.tuple ds)):∃a vs,v=.ref a/\TupAt K O H a vs/\Reps K O H vs ds:=by cases h with|rep h=>cases h with|tup t r=>exact⟨_,_,rfl,t,r⟩
theorem Vw.tupR(h:Vw K O H v (.tuple ds)):Rep K O H v (.tuple ds):=by cases h with|rep h=>exact h
theorem Vw.lst(h:Vw K O H v (.list ds)):∃a vs,v=.ref a/\SqL K H a vs/\Reps K O H vs ds:=by
 cases h with
 |rep h=>cases h with|lst t r=>exact⟨_,_,rfl,t.sq,r⟩
 |raw h r=>exact⟨_,_,rfl,SqL.of h,r⟩
theorem Vw.dct(h:Vw K O H v (.dict ds)):∃a kvs,v=.ref a/\Rd H a (.dK kvs)/\RepK K O H kvs ds:=by
 cases h with
 |rep h=>cases h with|dct n t r=>exact⟨_,_,rfl,.inr ⟨_,t⟩,r⟩
 |rawD t r=>exact⟨_,_,rfl,.inl t,r⟩
end
def OwnAt(K:Frag)(O:Addr->Prop)(H:Hp)(a:Addr):Pa->Prop
 |.list xs=>∃vs,H a=some (.lst vs)/\Reps K O H vs xs
 |.dict ds=>∃kvs,H a=some (.dK kvs)/\RepK K O H kvs ds
 |_=>False
theorem OwnAt.mono{K:Frag}{O O':Addr->Prop}{H H':Hp}{a:Addr}{x:Pa}(h:OwnAt K O H a x)(k:∀o,H a=some o->H' a=some o)(l:Le O H O' H'):OwnAt K O' H' a x:=by
 cases x with
 |list xs=>obtain⟨vs,h1,h2⟩:=h;exact⟨vs,k _ h1,h2.mono l⟩
 |dict ds=>obtain⟨vs,h1,h2⟩:=h;exact⟨vs,k _ h1,h2.mono l⟩
 |_=>cases h
theorem OwnAt.some{K:Frag}{O:Addr->Prop}{H:Hp}{a:Addr}{x:Pa}(h:OwnAt K O H a x):∃o,H a=some o:=by
 cases x with
 |list xs=>obtain⟨vs,h1,h2⟩:=h;exact⟨_,h1⟩
 |dict ds=>obtain⟨vs,h1,h2⟩:=h;exact⟨_,h1⟩
 |_=>cases h
def RepW(K:Frag)(O:Addr->Prop)(ts:List Addr)(H:Hp)(v:V):W->Prop
 |.d x=>Rep K O H v x
 |.tp i=>∃a,ts[i]? = some a/\v=.ref a
 |.loc x=>∃a,v=.ref a/\O a/\a∉ts/\OwnAt K O H a x
def kl(xs:List Pa):Option PyData:=if isO xs=true then none else some (.list xs)
noncomputable def view(T:Tp):W->Option Pa
 |.d x=>some x
 |.tp i=>(T[i]?).bind kl
 |.loc (.list xs)=>some (.list xs)
 |.loc (.dict ds)=>some (.dict ds)
 |.loc _=>none
noncomputable def views(T:Tp):List W->Option (List Pa)
 |[]=>some []
 |w::r=>match view T w with
  | some x=>(match views T r with
   |some xs=>some (x::xs)
   | none=>none)
  |none=>none
def fF(K:Frag)(O:Addr->Prop)(ts:List Addr)(H:Hp):List V->List W->Prop:=Tz fun v w=>RepW K O ts H v w
def Vws(K:Frag)(O:Addr->Prop)(H:Hp):List V->List Pa->Prop:=Tz fun v x=>Vw K O H v x
def RelE(K:Frag)(O:Addr->Prop)(ts:List Addr)(H:Hp)(σ:L2.St)(ρ:Rho):Prop:=∀(i:Nat) (w:W),ρ[i]? = some (some w)->∃v,σ[i]? = some (some v)/\RepW K O ts H v w
section
variable {K:Frag}{O:Addr->Prop}{ts:List Addr}{H H':Hp}{T:Tp}{v:V}{w:W}
theorem RepW.mono(r:RepW K O ts H v w)(c:HC K O ts H T)(s:SameX ts H H'):RepW K O ts H' v w:=by
 cases w with
 |d x=>exact Rep.mono (c.le s) r
 |tp i=>exact r
 |loc xs=>
  obtain⟨a,e,h1,h2,h3⟩:=r;exact⟨a,e,h1,h2,h3.mono (fun o q=>s _ _ h2 q) (c.le s)⟩
theorem RelE.mono(r:RelE K O ts H σ ρ)(c:HC K O ts H T)(s:SameX ts H H'):RelE K O ts H' σ ρ:=fun i w e=>
 let ⟨v,h1,h2⟩:=r i w e;⟨v,h1,h2.mono c s⟩
theorem HC.view(c:HC K O ts H T)(r:RepW K O ts H v w)(e:view T w=some x):Vw K O H v x:=by
 cases w with
 |d y=>cases e;exact .rep r
 |tp i=>
  obtain⟨a,h1,rfl⟩:=r;have e':(T[i]?).bind kl=some x:=e
  cases ht:T[i]? with
  |none=>rw[ht] at e';cases e'
  |some xs=>
   rw[ht] at e';have e2:(if isO xs=true then none else some (Um xs))=some x:=e';split at e2
   .cases e2
   .rename_i hn
    cases e2;obtain⟨vs,h2,h3⟩:=(c.tape i a xs h1 ht).lst (by simpa using hn);exact .raw h2 h3
 |loc xs=>
  obtain⟨a,rfl,_,_,h3⟩:=r
  cases xs with
  |list xs=>cases e;obtain⟨vs,h1,h2⟩:=h3;exact .raw h1 h2
  |dict ds=>cases e;obtain⟨vs,h1,h2⟩:=h3;exact .rawD h1 h2
  |_=>cases h3
theorem HC.views(c:HC K O ts H T):∀{vs:List V}{ws:List W}{xs:List Pa},fF K O ts H vs ws->views T ws=some xs->Vws K O H vs xs
 |_,[],xs,.nil,e=>by cases e;exact .nil
 |_,w::r,xs,.cons h t,e=>by
  unfold D.views at e;split at e
  .rename_i x h1
   split at e
   .rename_i ys h2
    cases e;exact .cons (c.view h h1) (HC.views c t h2)
   .cases e
  .cases e
end
def noStar:Expr->Bool
 |.Starred _ _=>false
 |_=>true
theorem bc(h:noStar e=true):Pk (e::es) env=(false,eval e env)::Pk es env:=by cases e <;> first|rfl|cases h
theorem nr(h:noStar e=true):Pk [e] env=[(false,eval e env)]:=bc h
theorem bN:∀{es:List Expr},es.all noStar=true->(Qg pos (Pk es env)).any (·.1)=false
 |[],_=>rfl
 |e::r,h=>by
  rw[QD,Po] at h;rw[bc h.1];show (false||(Qg pos (Pk r env)).any (·.1))=false;rw[bN h.2];rfl
theorem u5(h:noStar e=true):Qg pos (Pk (e::es) env)=(false,eval e env)::Qg pos (Pk es env):=by
 rw[bc h];rfl
theorem qg(h:noStar e=true):((Qg cpos (Pk [e] env)).all (fun x=>!x.1)&&(Rq cpos (QH [] env)).all (fun x=>x.1.isSome)
   && decide (([e]:List Expr).length+([]:List Rb).length+(if ([]:List Rb).isEmpty then 0 else 1)<30))=true:=by
 rw[nr h];rfl
abbrev FE:=Rho->Tp->Option (W×Tp)
abbrev FT:=Rho->Tp->Option (Bool×Tp)
abbrev FA:=Rho->Tp->Option (List W×Tp)
inductive LiftP(K:Frag)(f:FE)(σ:L2.St)(H:Hp)(Q:VK):Prop where
 |mk (O:Addr->Prop) (ts:List Addr) (ρ:Rho) (T:Tp) (w:W) (T':Tp) (hc:HC K O ts H T) (re:RelE K O ts H σ ρ) (e:f ρ T=some (w,T')) (q:∀v H',SameX ts H H'->HC K O ts H' T'->RepW K O ts H' v w->Q v H'):LiftP K f σ H Q
def lift(K:Frag)(f:FE):TE:=fun σ H Q=>LiftP K f σ H Q
inductive LiftTP(K:Frag)(f:FT)(σ:L2.St)(H:Hp)(Q:Bool->Hp->Prop):Prop where
 |mk (O:Addr->Prop) (ts:List Addr) (ρ:Rho) (T:Tp) (b:Bool) (T':Tp) (hc:HC K O ts H T) (re:RelE K O ts H σ ρ) (e:f ρ T=some (b,T')) (q:∀H',SameX ts H H'->HC K O ts H' T'->Q b H'):LiftTP K f σ H Q
def liftT(K:Frag)(f:FT):TT:=fun σ H Q=>LiftTP K f σ H Q
inductive LiftAP(K:Frag)(f:FA)(σ:L2.St)(H:Hp)(Q:List V->Hp->Prop):Prop where
 |mk (O:Addr->Prop) (ts:List Addr) (ρ:Rho) (T:Tp) (ws:List W) (T':Tp) (hc:HC K O ts H T) (re:RelE K O ts H σ ρ) (e:f ρ T=some (ws,T')) (q:∀vs H',SameX ts H H'->HC K O ts H' T'->fF K O ts H' vs ws->Q vs H'):LiftAP K f σ H Q
def pR(K:Frag)(f:FA):TA:=fun σ H Q=>LiftAP K f σ H Q
structure DE(X:Cx)(e:Expr)(f:FE):Prop where
 pe:PE X e (lift X.K f)
structure DT(X:Cx)(e:Expr)(f:FT):Prop where
 pe:PT X e (liftT X.K f)
structure DW(X:Cx)(e:Expr)(f:FT):Prop where
 pe:PW X e (liftT X.K f)
structure DA(X:Cx)(es:List Expr)(f:FA):Prop where
 pe:PA X es (pR X.K f)
theorem pe_imp(h:PE X e t)(i:∀σ H Q,t' σ H Q->t σ H Q):PE X e t':=fun pins s σ H Q I q=>h pins s σ H Q I (i σ H Q q)
theorem lJ(h:PT X e t)(i:∀σ H Q,t' σ H Q->t σ H Q):PT X e t':=fun pins s σ H Q I q=>h pins s σ H Q I (i σ H Q q)
theorem yM(h:PW X e t)(i:∀σ H Q,t' σ H Q->t σ H Q):PW X e t':=fun wh pins s σ H Q I q=>h wh pins s σ H Q I (i σ H Q q)
theorem yR(h:PA X e t)(i:∀σ H Q,t' σ H Q->t σ H Q):PA X e t':=fun po pins s σ H Q I q=>h po pins s σ H Q I (i σ H Q q)
def aa(i:Nat):FE:=fun ρ T=>match ρ[i]? with
 |some (some w)=>some (w,T)
 |_=>none
noncomputable def fC(x:Pa):FE:=fun _ T=>some (.d x,T)
section
variable {X:Cx}{pos:Pos}
theorem ag(i:Nat)(hN:X.N[i]? = some x:=by rfl)(hv:Vis X.env.scope x:=by first|exact QM rfl|exact Qx (QM rfl)|exact Qx (Qx rfl))(hd:(x == ("__debug__" : Str))=false:=by decide)
  (hcd:(x == ("__classdict__" : Str))=false:=by decide):DE X (.Name x pos) (aa i):=by
 refine⟨?_⟩;refine pe_imp (pv i hN hv hd hcd) fun σ H Q=>?_;rintro⟨O,ts,ρ,T,w,T',hc,re,e,q⟩;unfold aa at e;split at e
 .rename_i w' he
  cases e;obtain⟨v,h1,h2⟩:=re i _ he;exact⟨v,h1,q v H (.refl _ _) hc h2⟩
 .cases e
theorem iS(h:∀O H,Rep X.K O H v x):∀σ H Q,lift X.K (fC x) σ H Q->tC v σ H Q:=by
 rintro σ H Q ⟨O,ts,ρ,T,w,T',hc,re,e,q⟩;cases e;exact q v H (.refl _ _) hc (h O H)
theorem aj{i j}:DE X (.Constant (.int i) j pos) (fC (.int i)):=⟨pe_imp Ie (iS fun _ _=>.int i)⟩
theorem eQ{i j}:DE X (.Constant (.bool i) j pos) (fC (.bool i)):=⟨pe_imp JZ (iS fun _ _=>.bl i)⟩
theorem aC{i j}:DE X (.Constant (.str i) j pos) (fC (.str i)):=⟨pe_imp yQ (iS fun _ _=>.str i)⟩
theorem ia{j}:DE X (.Constant .none j pos) (fC .none):=⟨pe_imp Ib (iS fun _ _=>.non)⟩
theorem lm(hg:Gl X x)(hm:∃t,X.mg x=some (.int i t))(hd:(x == ("__debug__" : Str))=false:=by decide):DE X (.Name x pos) (fC (.int i)):=by
 refine⟨?_⟩;obtain⟨t,hm⟩:=hm;exact pe_imp (c4 (v:=.int i) hg hm ⟨t,rfl⟩ hd) (iS fun _ _=>.int i)
theorem wG(hg:Gl X x)(hm:∃t,X.mg x=some (.str i t))(hd:(x == ("__debug__" : Str))=false:=by decide):DE X (.Name x pos) (fC (.str i)):=by
 refine⟨?_⟩;obtain⟨t,hm⟩:=hm;exact pe_imp (c4 (v:=.str i) hg hm ⟨t,rfl⟩ hd) (iS fun _ _=>.str i)
end
def op1(g:Pa->Option Pa)(T:Tp)(w:W):Option (W×Tp):=match view T w with
 |some x=>match g x with
  |some d=>some (.d d,T)
  |none=>none
 |none=>none
def op2(g:Pa->Pa->Option Pa)(T:Tp)(w1 w2:W):Option (W×Tp):=match view T w1,view T w2 with
 |some x,some y=>match g x y with
  |some d=>some (.d d,T)
  |none=>none
 |_,_=>none
theorem sG(e:op1 g T w1=some (w,T')):∃x d,view T w1=some x/\g x=some d/\w=.d d/\T'=T:=by
 unfold op1 at e;split at e
 .rename_i x h1
  split at e
  .rename_i d h3
   cases e;exact⟨x,d,h1,h3,rfl,rfl⟩
  .cases e
 .cases e
theorem jN(e:op2 g T w1 w2=some (w,T')):∃x y d,view T w1=some x/\view T w2=some y/\g x y=some d/\w=.d d/\T'=T:=by
 unfold op2 at e;split at e
 .rename_i x y h1 h2
  split at e
  .rename_i d h3
   cases e;exact⟨x,y,d,h1,h2,h3,rfl,rfl⟩
  .cases e
 .cases e
def af(g:Pa->Pa->Option Pa)(fa fb:FE):FE:=fun ρ T=>bnd (fa ρ T) fun w1 T1=>bnd (fb ρ T1) fun w2 T2=>op2 g T2 w1 w2
def fUn(g:Pa->Option Pa)(fa:FE):FE:=fun ρ T=>bnd (fa ρ T) fun w1 T1=>op1 g T1 w1
def iB(K:Frag)(r:R2)(g:Pa->Pa->Option Pa):Prop:=∀(O:Addr->Prop) (ts:List Addr) (H:Hp) (T:Tp) (v1 v2:V) (x y d:Pa) (Q:VK),HC K O ts H T->Vw K O H v1 x->Vw K O H v2 y->g x y=some d ->
 (∀v H',SameX ts H H'->HC K O ts H' T->Rep K O H' v d->Q v H')->r v1 v2 H Q
def Lu(K:Frag)(r:V->Hp->VK->Prop)(g:Pa->Option Pa):Prop:=∀(O:Addr->Prop) (ts:List Addr) (H:Hp) (T:Tp) (v1:V) (x d:Pa) (Q:VK),HC K O ts H T->Vw K O H v1 x->g x=some d ->
 (∀v H',SameX ts H H'->HC K O ts H' T->Rep K O H' v d->Q v H')->r v1 H Q
def OpD(X:Cx)(f:Pb->Pb->Sem Pb)(g:Pa->Pa->Option Pa):Prop:=∃r,OpR X f r/\iB X.K r g
def IxD(X:Cx)(g:Pa->Pa->Option Pa):Prop:=∃r,IxR X r/\iB X.K r g
theorem ot{K:Frag}{r:R2}{g:Pa->Pa->Option Pa}{fa fb:FE}(snd:iB K r g){σ:L2.St}{H:Hp}{Q:VK}(h:lift K (af g fa fb) σ H Q):tOp r (lift K fa) (lift K fb) σ H Q:=by
 obtain⟨O,ts,ρ,T,w,T',hc,re,e,q⟩:=h;obtain⟨w1,T1,e1,e⟩:=aN e;obtain⟨w2,T2,e2,e⟩:=aN e;obtain⟨x,y,d,h1,h2,h3,rfl,rfl⟩:=jN e;refine⟨O,ts,ρ,T,w1,T1,hc,re,e1,fun v1 H1 s1 hc1 r1=>?_⟩;refine⟨O,ts,ρ,T1,w2,T',hc1,re.mono hc s1,e2,fun v2 H2 s2 hc2 r2=>?_⟩;exact snd O ts H2 T' v1 v2 x y d Q hc2 (hc2.view (r1.mono hc1 s2) h1) (hc2.view r2 h2) h3 fun v H' s3 hc3 r3=>q v H' (s1.trans (s2.trans s3)) hc3 r3
noncomputable def asB:W->Option Bool
 |.d (.bool b)=>some b
 |_=>none
theorem pB(h:asB w=some b):w=.d (.bool b):=by
 unfold asB at h;split at h
 .cases h;rfl
 .cases h
def av(f:FE):FT:=fun ρ T=>bnd (f ρ T) fun w T1=>match asB w with
 |some b=>some (b,T1)
 |none=>none
theorem wW{K:Frag}{f:FE}{σ:L2.St}{H:Hp}{Q:Bool->Hp->Prop}(h:liftT K (av f) σ H Q):lift K f σ H fun x H'=>∃k,x=.bl k/\Q k H':=by
 obtain⟨O,ts,ρ,T,w,T',hc,re,e,q⟩:=h;obtain⟨w1,T1,e1,e⟩:=aN e;refine⟨O,ts,ρ,T,w1,T1,hc,re,e1,fun v1 H1 s1 hc1 r1=>?_⟩;split at e
 .rename_i b hb
  cases e;have hw:=pB hb;subst hw;cases (show Rep K O H1 v1 _ from r1);exact⟨_,rfl,q H1 s1 hc1⟩
 .cases e
section
variable {X:Cx}{pos:Pos}{a b c:Expr}{fa fb fc:FE}{g g':Pa->Pa->Option Pa}
theorem aU(ho:OpD X (QU op) g)(ha:DE X a fa)(hb:DE X b fb):DE X (.BinOp a op b pos) (af g fa fb):=by
 refine⟨?_⟩;obtain⟨r,hr,snd⟩:=ho;exact pe_imp (zY hr ha.pe hb.pe) fun σ H Q=>ot snd
theorem fu(ho:OpD X (PU op) g)(ha:DE X a fa)(hb:DE X b fb)(hm:Sg op b=false:=by first|exact yT _|with_unfolding_all rfl):DE X (.Compare a [op] [b] pos) (af g fa fb):=by
 refine⟨?_⟩;obtain⟨r,hr,snd⟩:=ho;exact pe_imp (Gb hr ha.pe hb.pe hm) fun σ H Q=>ot snd
theorem aG(ho:OpD X (PU op) g)(ha:DE X a fa)(hb:DE X b fb)(hm:Sg op b=false:=by first|exact yT _|with_unfolding_all rfl):DT X (.Compare a [op] [b] pos) (av (af g fa fb)):=by
 refine⟨?_⟩;obtain⟨r,hr,snd⟩:=ho;exact lJ (F1 hr ha.pe hb.pe hm) fun σ H Q h=>ot snd (wW h)
theorem ao(ho:IxD X g)(ha:DE X a fa)(hb:DE X b fb)(hs:yz b:=by exact fun _ _=>rfl):DE X (.Subscript a b pos) (af g fa fb):=by
 refine⟨?_⟩;obtain⟨r,hr,snd⟩:=ho;exact pe_imp (JX hr ha.pe hb.pe hs) fun σ H Q=>ot snd
def hU(g g':Pa->Pa->Option Pa)(fa fb fc:FE):FE:=fun ρ T=>bnd (fa ρ T) fun w1 T1=>bnd (fb ρ T1) fun w2 T2=>bnd (op2 g T2 w1 w2) fun w T3=>match asB w with
 |some b=>if b=true then bnd (fc ρ T3) fun w3 T4=>op2 g' T4 w2 w3 else some (.d (.bool false),T3)
 |none=>none
theorem vC{K:Frag}{r r':R2}(snd:iB K r g)(snd':iB K r' g'){σ:L2.St}{H:Hp}{Q:VK}(h:lift K (hU g g' fa fb fc) σ H Q):su r r' (lift K fa) (lift K fb) (lift K fc) σ H Q:=by
 obtain⟨O,ts,ρ,T,w,T',hc,re,e,q⟩:=h;obtain⟨w1,T1,e1,e⟩:=aN e;obtain⟨w2,T2,e2,e⟩:=aN e;obtain⟨wz,T3,e3,ez⟩:=aN e;obtain⟨x,y,d,h1,h2,h3,rfl,rfl⟩:=jN e3;clear e;refine⟨O,ts,ρ,T,w1,T1,hc,re,e1,fun v1 H1 s1 hc1 r1=>?_⟩;refine⟨O,ts,ρ,T1,w2,T3,hc1,re.mono hc s1,e2,fun v2 H2 s2 hc2 r2=>?_⟩;refine snd O ts H2 T3 v1 v2 x y d _ hc2 (hc2.view (r1.mono hc1 s2) h1) (hc2.view r2 h2) h3 fun v H3 s3 hc3 r3=>?_;split at ez
 .rename_i b hb
  have hd:=pB hb
  injection hd with hd
  subst hd;cases r3
  cases b with
  |true=>
   rw[if_pos rfl] at ez;refine⟨true,rfl,eW ?_⟩;obtain⟨w3,T4,e4,e5⟩:=aN ez;obtain⟨x',y',d',h1',h2',h3',rfl,rfl⟩:=jN e5;refine⟨O,ts,ρ,T3,w3,T',hc3,(re.mono hc (s1.trans (s2.trans s3))),e4,fun v3 H4 s4 hc4 r4=>?_⟩;exact snd' O ts H4 T' v2 v3 x' y' d' Q hc4 (hc4.view (r2.mono hc2 (s3.trans s4)) h1') (hc4.view r4 h2') h3' fun v H' s5 hc5 r5=>q v H' (s1.trans (s2.trans (s3.trans (s4.trans s5)))) hc5 r5
  |false=>
   rw[if_neg Pu] at ez;cases ez;exact⟨false,rfl,ir (q _ H3 (s1.trans (s2.trans s3)) hc3 (.bl false))⟩
 .cases ez
theorem Fb(ho:OpD X (PU op) g)(ho':OpD X (PU op') g')(ha:DE X a fa)(hb:DE X b fb)(hc:DE X c fc)
  (hm:Ws [op,op'] [b,c]=false:=by with_unfolding_all rfl):DE X (.Compare a [op,op'] [b,c] pos) (hU g g' fa fb fc):=by
 refine⟨?_⟩;obtain⟨r,hr,snd⟩:=ho;obtain⟨r',hr',snd'⟩:=ho';exact pe_imp (Ew hr hr' ha.pe hb.pe hc.pe hm) fun σ H Q=>vC snd snd'
theorem rp(ho:OpD X (PU op) g)(ho':OpD X (PU op') g')(ha:DE X a fa)(hb:DE X b fb)(hc:DE X c fc)
  (hm:Ws [op,op'] [b,c]=false:=by with_unfolding_all rfl):DT X (.Compare a [op,op'] [b,c] pos) (av (hU g g' fa fb fc)):=by
 refine⟨?_⟩;obtain⟨r,hr,snd⟩:=ho;obtain⟨r',hr',snd'⟩:=ho';exact lJ (Ej hr hr' ha.pe hb.pe hc.pe hm) fun σ H Q h=>vC snd snd' (wW h)
noncomputable def qa:Pa->Option Bool
 |.none=>some false
 |.bool b=>some b
 |.int i=>some (i != 0)
 |.str y=>if y.length<=Pp then some ((y.length:Int) != 0) else none
 |.list xs=>some (!xs.isEmpty)
 |.tuple xs=>some (!xs.isEmpty)
 |.dict _=>none
def qb(T:Tp)(w:W):Option (Bool×Tp):=match view T w with
 |some x=>match qa x with
  |some b=>some (b,T)
  |none=>none
 |none=>none
def bg(f:FE):FT:=fun ρ T=>bnd (f ρ T) fun w T1=>qb T1 w
theorem ux{K:Frag}{O:Addr->Prop}{H:Hp}{vs:List V}{ds:List Pa}(r:Reps K O H vs ds):vs.isEmpty=ds.isEmpty:=by cases r <;> rfl
theorem HH{K:Frag}{O:Addr->Prop}{H:Hp}{v:V}{x:Pa}{b:Bool}(h:Vw K O H v x)(e:qa x=some b):tR K v H b:=by
 cases x with
 |none=>cases h.non;cases e;rfl
 |bool c=>cases h.bl;cases e;rfl
 |int i=>cases h.int;cases e;rfl
 |str y=>
  cases h.str;have e':(if y.length<=Pp then some ((y.length:Int) != 0) else none)=some b:=e;split at e'
  .rename_i hl
   cases e';exact⟨hl,rfl⟩
  .cases e'
 |list xs=>
  obtain⟨a,vs,rfl,h1,h2⟩:=h.lst;cases e;exact .inl ⟨vs,h1,by rw[ux h2]⟩
 |tuple xs=>
  obtain⟨a,vs,rfl,h1,h2⟩:=h.tup;cases e;exact .inr (.inl ⟨vs,h1.sq,by rw[ux h2]⟩)
 |dict kvs=>
  cases e
theorem bz(ha:DE X a fa)(he:∀whole,Yg a X.env whole=(do let v ←whole;Yj a.pos;Ue [v] (truthy v)):=by intro _;rfl):DT X a (bg fa):=by
 refine⟨?_⟩;refine lJ (Ei ha.pe he) fun σ H Q=>?_;rintro⟨O,ts,ρ,T,b,T',hc,re,e,q⟩;obtain⟨w1,T1,e1,e⟩:=aN e;refine⟨O,ts,ρ,T,w1,T1,hc,re,e1,fun v1 H1 s1 hc1 r1=>?_⟩;unfold qb at e;split at e
 .rename_i x h1
  split at e
  .rename_i k h2
   cases e;exact⟨b,HH (hc1.view r1 h1) h2,q H1 s1 hc1⟩
  .cases e
 .cases e
def b9(f g:FT):FT:=fun ρ T=>bnd (f ρ T) fun b T1=>if b=true then g ρ T1 else some (false,T1)
def cF(f g:FT):FT:=fun ρ T=>bnd (f ρ T) fun b T1=>if b=true then some (true,T1) else g ρ T1
def bL(f:FT):FT:=fun ρ T=>bnd (f ρ T) fun b T1=>some (!b,T1)
variable {ta tb:FT}{rest:List Expr}
theorem bW(h:DW X a f):DT X a f:=⟨PW.pt h.pe⟩
theorem eK(ha:DT X a ta):DW X (.BoolOp .And [a] pos) ta:=⟨FU ha.pe⟩
theorem dW(ha:DT X a ta):DW X (.BoolOp .Or [a] pos) ta:=⟨HV ha.pe⟩
theorem dX(ha:DT X a ta)(hb:DW X (.BoolOp .And (b::rest) pos) tb):DW X (.BoolOp .And (a::b::rest) pos) (b9 ta tb):=by
 refine⟨?_⟩;refine yM (HW ha.pe hb.pe) fun σ H Q=>?_;rintro⟨O,ts,ρ,T,b,T',hc,re,e,q⟩;obtain⟨b1,T1,e1,e⟩:=aN e;refine⟨O,ts,ρ,T,b1,T1,hc,re,e1,fun H1 s1 hc1=>?_⟩
 cases b1 with
 |true=>exact eW ⟨O,ts,ρ,T1,b,T',hc1,re.mono hc s1,by simpa using e,fun H2 s2 hc2=>q H2 (s1.trans s2) hc2⟩
 |false=>
  have e':some (false,T1)=some (b,T'):=by simpa using e
  cases e';exact ir (q H1 s1 hc1)
theorem dH(ha:DT X a ta)(hb:DW X (.BoolOp .Or (b::rest) pos) tb):DW X (.BoolOp .Or (a::b::rest) pos) (cF ta tb):=by
 refine⟨?_⟩;refine yM (JT ha.pe hb.pe) fun σ H Q=>?_;rintro⟨O,ts,ρ,T,b,T',hc,re,e,q⟩;obtain⟨b1,T1,e1,e⟩:=aN e;refine⟨O,ts,ρ,T,b1,T1,hc,re,e1,fun H1 s1 hc1=>?_⟩
 cases b1 with
 |false=>exact ir ⟨O,ts,ρ,T1,b,T',hc1,re.mono hc s1,by simpa using e,fun H2 s2 hc2=>q H2 (s1.trans s2) hc2⟩
 |true=>
  have e':some (true,T1)=some (b,T'):=by simpa using e
  cases e';exact eW (q H1 s1 hc1)
theorem cH(ha:DT X a ta):DT X (.UnaryOp .Not a pos) (bL ta):=by
 refine⟨?_⟩;refine lJ (HX ha.pe) fun σ H Q=>?_;rintro⟨O,ts,ρ,T,b,T',hc,re,e,q⟩;obtain⟨b1,T1,e1,e⟩:=aN e;cases e;exact⟨O,ts,ρ,T,b1,T',hc,re,e1,fun H1 s1 hc1=>q H1 s1 hc1⟩
def ik(f g:FE):FE:=fun ρ T=>bnd (f ρ T) fun w T1=>match asB w with
 |some b=>if b=true then g ρ T1 else some (.d (.bool false),T1)
 |none=>none
def Lm(f g:FE):FE:=fun ρ T=>bnd (f ρ T) fun w T1=>match asB w with
 |some b=>if b=true then some (.d (.bool true),T1) else g ρ T1
 |none=>none
def tE(f:FE):FE:=fun ρ T=>bnd (f ρ T) fun w T1=>match asB w with
 |some b=>some (.d (.bool (!b)),T1)
 |none=>none
theorem ph{op}(h:DE X a fa):DE X (.BoolOp op [a] pos) fa:=⟨oI h.pe⟩
theorem jW(ha:DE X a fa)(hb:DE X (.BoolOp .And (b::rest) pos) fb):DE X (.BoolOp .And (a::b::rest) pos) (ik fa fb):=by
 refine⟨?_⟩;refine pe_imp (oJ ha.pe hb.pe) fun σ H Q=>?_;rintro⟨O,ts,ρ,T,w,T',hc,re,e,q⟩;obtain⟨w1,T1,e1,e⟩:=aN e;refine⟨O,ts,ρ,T,w1,T1,hc,re,e1,fun v1 H1 s1 hc1 r1=>?_⟩;split at e
 .rename_i b hb
  have hw:=pB hb;subst hw;cases (show Rep X.K O H1 v1 _ from r1)
  cases b with
  |true=>exact⟨_,rfl,eW ⟨O,ts,ρ,T1,w,T',hc1,re.mono hc s1,by simpa using e,fun v H2 s2 hc2 r2=>q v H2 (s1.trans s2) hc2 r2⟩⟩
  |false=>
   rw[if_neg Pu] at e;cases e;exact⟨_,rfl,ir (q _ H1 s1 hc1 (.bl false))⟩
 .cases e
theorem Jn(ha:DE X a fa):DE X (.UnaryOp .Not a pos) (tE fa):=by
 refine⟨?_⟩;refine pe_imp (sE ha.pe) fun σ H Q=>?_;rintro⟨O,ts,ρ,T,w,T',hc,re,e,q⟩;obtain⟨w1,T1,e1,e⟩:=aN e;refine⟨O,ts,ρ,T,w1,T1,hc,re,e1,fun v1 H1 s1 hc1 r1=>?_⟩;split at e
 .rename_i b hb
  have hw:=pB hb;subst hw;cases (show Rep X.K O H1 v1 _ from r1);cases e;exact⟨_,rfl,q _ H1 s1 hc1 (.bl _)⟩
 .cases e
def bZ(c:FT)(f g:FE):FE:=fun ρ T=>bnd (c ρ T) fun b T1=>if b=true then f ρ T1 else g ρ T1
theorem cR(hc:DT X c ta)(ha:DE X a fa)(hb:DE X b fb):DE X (.IfExp c a b pos) (bZ ta fa fb):=by
 refine⟨?_⟩;refine pe_imp (Er hc.pe ha.pe hb.pe) fun σ H Q=>?_;rintro⟨O,ts,ρ,T,w,T',hc,re,e,q⟩;obtain⟨b1,T1,e1,e⟩:=aN e;refine⟨O,ts,ρ,T,b1,T1,hc,re,e1,fun H1 s1 hc1=>?_⟩
 cases b1 with
 |true=>exact eW ⟨O,ts,ρ,T1,w,T',hc1,re.mono hc s1,by simpa using e,fun v H2 s2 hc2 r2=>q v H2 (s1.trans s2) hc2 r2⟩
 |false=>exact ir ⟨O,ts,ρ,T1,w,T',hc1,re.mono hc s1,by simpa using e,fun v H2 s2 hc2 r2=>q v H2 (s1.trans s2) hc2 r2⟩
theorem KM(hr:UnR X (unaryOp op) r)(snd:Lu X.K r g1)(ha:DE X a fa):DE X (.UnaryOp op a pos) (fUn g1 fa):=by
 refine⟨?_⟩;refine pe_imp (JV hr ha.pe) fun σ H Q=>?_;rintro⟨O,ts,ρ,T,w,T',hc,re,e,q⟩;obtain⟨w1,T1,e1,e⟩:=aN e;obtain⟨x,d,h1,h3,rfl,rfl⟩:=sG e;refine⟨O,ts,ρ,T,w1,T',hc,re,e1,fun v1 H1 s1 hc1 r1=>?_⟩;exact snd O ts H1 T' v1 x d Q hc1 (hc1.view r1 h1) h3 fun v H' s3 hc3 r3=>q v H' (s1.trans s3) hc3 r3
end
def ah:FA:=fun _ T=>some ([],T)
def ae(f:FE)(g:FA):FA:=fun ρ T=>bnd (f ρ T) fun w T1=>bnd (g ρ T1) fun ws T2=>some (w::ws,T2)
def d3:List W->Option (List Pa)
 |[]=>some []
 |.d x::r=>match d3 r with
  |some xs=>some (x::xs)
  |none=>none
 |_::_=>none
theorem lu{K:Frag}{O:Addr->Prop}{ts:List Addr}{H:Hp}:∀{vs:List V}{ws:List W}{xs:List Pa},fF K O ts H vs ws->d3 ws=some xs->Reps K O H vs xs
 |_,[],_,.nil,e=>by cases e;exact .nil
 |_,.d x::r,xs,.cons h t,e=>by
  unfold d3 at e;split at e
  .rename_i ys h2
   cases e;exact .cons h (lu t h2)
  .cases e
 |_,.tp _::_,_,.cons _ _,e=>by cases e
 |_,.loc _::_,_,.cons _ _,e=>by cases e
def aA(mk:List Pa->Pa)(f:FA):FE:=fun ρ T=>bnd (f ρ T) fun ws T1=>match d3 ws with
 |some xs=>if xs.length<=1000 then some (.d (mk xs),T1) else none
 |none=>none
theorem nM(h:n<=1000):n<=sizeLine:=PL h (by decide)
def gb(X:Cx)(f:Pb)(g:List Pa->Option Pa):Prop:=∃r,CallR X f r/\∀(O:Addr->Prop) (ts:List Addr) (H:Hp) (T:Tp) (vs:List V) (xs:List Pa) (d:Pa) (Q:VK),HC X.K O ts H T->Vws X.K O H vs xs->g xs=some d ->
 (∀v H',SameX ts H H'->HC X.K O ts H' T->Rep X.K O H' v d->Q v H')->r vs H Q
def fCB(g:List Pa->Option Pa)(f:FA):FE:=fun ρ T=>bnd (f ρ T) fun ws T1=>match views T1 ws with
 |some xs=>match g xs with
  |some d=>some (.d d,T1)
  |none=>none
 |none=>none
section
variable {X:Cx}{pos p:Pos}{e:Expr}{es:List Expr}{f:FE}{g:FA}
theorem aq:DA X [] ah:=by
 refine⟨?_⟩;refine yR cG fun σ H Q=>?_;rintro⟨O,ts,ρ,T,w,T',hc,re,e,q⟩;cases e;exact q [] H (.refl _ _) hc .nil
theorem ai(ha:DE X e f)(hr:DA X es g)(hs:Pk (e::es) X.env=(false,eval e X.env)::Pk es X.env:=by exact bc rfl):DA X (e::es) (ae f g):=by
 refine⟨?_⟩;refine yR (bw ha.pe hr.pe hs) fun σ H Q=>?_;rintro⟨O,ts,ρ,T,w,T',hc,re,e,q⟩;obtain⟨w1,T1,e1,e⟩:=aN e;obtain⟨ws,T2,e2,e⟩:=aN e;cases e;refine⟨O,ts,ρ,T,w1,T1,hc,re,e1,fun v1 H1 s1 hc1 r1=>?_⟩;exact⟨O,ts,ρ,T1,ws,_,hc1,re.mono hc s1,e2,fun vs H2 s2 hc2 r2=>q _ H2 (s1.trans s2) hc2 (.cons (r1.mono hc1 s2) r2)⟩
theorem wY(e:aA mk g ρ T=some (w,T')):∃ws xs,g ρ T=some (ws,T')/\d3 ws=some xs/\xs.length<=1000/\w=.d (mk xs):=by
 obtain⟨ws,T1,e1,e⟩:=aN e;split at e
 .rename_i xs h1
  split at e
  .rename_i h2
   cases e;exact⟨ws,xs,e1,h1,h2,rfl⟩
  .cases e
 .cases e
theorem aJ{x1}(h:DA X es g):DE X (.Tuple es x1 pos) (aA .tuple g):=by
 refine⟨?_⟩;refine pe_imp (yP h.pe) fun σ H Q=>?_;rintro⟨O,ts,ρ,T,w,T',hc,re,e,q⟩;obtain⟨ws,xs,e1,h1,h2,rfl⟩:=wY e;refine⟨O,ts,ρ,T,ws,T',hc,re,e1,fun vs H1 s1 hc1 r1=>?_⟩;have rs:=lu r1 h1;refine⟨nM (by rw[rs.length];exact h2),fun p hp=>?_⟩;exact q _ _ (s1.trans (.new hp _)) (hc1.new hp _) (hc1.newT hp rs)
theorem cz(h:DA X es g):DE X (.List es pos) (aA .list g):=by
 refine⟨?_⟩;refine pe_imp (sF h.pe) fun σ H Q=>?_;rintro⟨O,ts,ρ,T,w,T',hc,re,e,q⟩;obtain⟨ws,xs,e1,h1,h2,rfl⟩:=wY e;refine⟨O,ts,ρ,T,ws,T',hc,re,e1,fun vs H1 s1 hc1 r1=>?_⟩;have rs:=lu r1 h1;refine⟨nM (by rw[rs.length];exact h2),fun p hp=>?_⟩;exact q _ _ (s1.trans (.new hp _)) (hc1.new hp _) (hc1.newL hp rs)
theorem zC{K:Frag}{r:List V->Hp->VK->Prop}{gg:List Pa->Option Pa}(snd:∀(O:Addr->Prop) (ts:List Addr) (H:Hp) (T:Tp) (vs:List V) (xs:List Pa) (d:Pa) (Q:VK),HC K O ts H T->Vws K O H vs xs->gg xs=some d ->
  (∀v H',SameX ts H H'->HC K O ts H' T->Rep K O H' v d->Q v H')->r vs H Q) {σ:L2.St}{H:Hp}{Q:VK} (h:lift K (fCB gg g) σ H Q):tCB r (pR K g) σ H Q:=by
 obtain⟨O,ts,ρ,T,w,T',hc,re,e,q⟩:=h;obtain⟨ws,T1,e1,e⟩:=aN e;refine⟨O,ts,ρ,T,ws,T1,hc,re,e1,fun vs H1 s1 hc1 r1=>?_⟩;split at e
 .rename_i xs h1
  split at e
  .rename_i d h2
   cases e;exact snd O ts H1 T' vs xs d Q hc1 (hc1.views r1 h1) h2 fun v H' s3 hc3 r3=>q v H' (s1.trans s3) hc3 r3
  .cases e
 .cases e
theorem bx{x:Str}{id:String}{gg:List Pa->Option Pa}(hc:gb X (.builtin id) gg)(hg:Gl X x)(hm:X.mg x=none)(hv:Rk x=some (.builtin id))(ha:DA X (e::es) g)(hn:x≠"__name__":=by decide)(hdb:(x == ("__debug__" : Str))=false:=by decide)
  (he:Pk (e::es) X.env=(false,eval e X.env)::Pk es X.env:=by exact bc rfl) (hpl:(Qg pos (Pk es X.env)).any (·.1)=false:=by exact bN rfl):DE X (.Call (.Name x p) (e::es) [] pos) (fCB gg g):=by
 refine⟨?_⟩;obtain⟨r,hr,snd⟩:=hc;exact pe_imp (kW hr hg hm hv ha.pe hn hdb he hpl) fun σ H Q h=>zC snd h
theorem cx{x:Str}{id:String}{gg:List Pa->Option Pa}(hc:gb X (.type id) gg)(hg:Gl X x)(hm:X.mg x=none)(hv:Rk x=some (.type id))(ha:DA X (e::es) g)(hn:x≠"__name__":=by decide)(hdb:(x == ("__debug__" : Str))=false:=by decide)
  (he:Pk (e::es) X.env=(false,eval e X.env)::Pk es X.env:=by exact bc rfl) (hpl:(Qg pos (Pk es X.env)).any (·.1)=false:=by exact bN rfl):DE X (.Call (.Name x p) (e::es) [] pos) (fCB gg g):=by
 refine⟨?_⟩;obtain⟨r,hr,snd⟩:=hc;exact pe_imp (mU hr hg hm hv ha.pe hn hdb he hpl) fun σ H Q h=>zC snd h
end
abbrev FI:=Rho->Tp->Option (List Pa×Tp)
def Lh(K:Frag)(tl:TE):TI:=fun σ H R=>tl σ H fun x H1=>(∃a xs,x=.ref a/\SqL K H1 a xs/\(xs.length<=Pp->R (Itl K a) H1))\/(∃a xs,x=.ref a/\SqT K H1 a xs/\(xs.length<=Pp->R (Itt K a) H1))\/(∃z,x=.str z/\R (Its z) H1)\/∃a o kvs,x=.ref a/\H1 a=some (.frz o (.dK kvs))/\(kvs.length<=Pp->R (Itd a o kvs) H1)
theorem HZ(hl:PE X l tl):PI X tg l (Lh X.K tl):=by
 intro pins s σ H R I h;refine thn (hl pins s σ H _ I h) fun v s1 ⟨x,H1,I1,r1,q1⟩=>?_
 have fk:∀b∈[s1.heap.objs.size],dA X pins H1 b:=fun b hb=>by
  have e:b=s1.heap.objs.size:=by simpa using hb
  subst e;exact I1.fpOk (Pm _) (I1.hok.fresh (Pm _))
 rcases q1 with⟨a,xs,e,hq,q⟩|⟨a,xs,e,hq,q⟩|⟨z,e,q⟩|⟨a,o,kvs,e,hq,q⟩
 .subst e
  cases r1;obtain⟨its,rv,p,hz⟩:=I1.list hq;refine R4 p.isList ?_;exact⟨s1.heap.objs.size,[s1.heap.objs.size],_,_,H1,rfl,I1.kept (t':=s1.toks) fun b o e=>Pe _ e,CP a _,⟨_,PM _ rfl,rfl,rfl⟩,fk,q hz⟩
 .subst e
  cases r1;obtain⟨its,rv,p,hz⟩:=I1.tuple hq;refine TY (show s1.heap.IsTuple a its.toArray from p) ?_;exact⟨s1.heap.objs.size,[s1.heap.objs.size],_,_,H1,rfl,I1.kept (t':=s1.toks) fun b o e=>Pe _ e,Ci a _,⟨_,PM _ rfl,rfl,rfl⟩,fk,q hz⟩
 .subst e
  obtain⟨t,rfl⟩:=r1
  cases ha:z.cps.all (· < 128) with
  |false=>
   refine wpAny_pyIter_wide ha ?_;exact⟨s1.heap.objs.size,[s1.heap.objs.size],_,_,H1,rfl,I1.kept (t':=s1.toks) fun b o e=>Pe _ e,vL z t "str_iterator" _ (.inr rfl),⟨_,PM _ rfl,rfl,rfl⟩,fk,q⟩
  |true=>
   refine wpAny_pyIter_ascii ha ?_;exact⟨s1.heap.objs.size,[s1.heap.objs.size],_,_,H1,rfl,I1.kept (t':=s1.toks) fun b o e=>Pe _ e,vL z t "str_ascii_iterator" _ (.inl rfl),⟨_,PM _ rfl,rfl,rfl⟩,fk,q⟩
 .subst e
  cases r1;obtain⟨z,y,vs,kv,dd⟩:=iK I1.hok hq;refine wpAny_pyIter_dict y dd ?_;exact⟨s1.heap.objs.size,[s1.heap.objs.size],_,_,H1,rfl,I1.kept (t':=s1.toks) fun b o e=>Pe _ e,CQ a _ o kvs,⟨_,PM _ rfl,rfl,by rw[kv.length];rfl⟩,fk,q z⟩
def ItOk(K:Frag)(O:Addr->Prop)(H1:Hp)(J:It)(ds:List Pa):Prop:=∀O' H',Le O H1 O' H'->(∀i,i<ds.length->J.go i H')/\J.stop ds.length H'/\∀i v H'',J.yld i H' v H''->i<ds.length->H''=H'/\∃d,ds[i]? = some d/\Rep K O' H' v d
inductive LiftIP(K:Frag)(f:FI)(σ:L2.St)(H:Hp)(R:It->Hp->Prop):Prop where
 |mk (O:Addr->Prop) (ts:List Addr) (ρ:Rho) (T:Tp) (ds:List Pa) (T':Tp) (hc:HC K O ts H T) (re:RelE K O ts H σ ρ) (e:f ρ T=some (ds,T')) (q:∀J H1,SameX ts H H1->HC K O ts H1 T'->ItOk K O H1 J ds->ds.length<=Pp->R J H1):LiftIP K f σ H R
def tq(K:Frag)(f:FI):TI:=fun σ H R=>LiftIP K f σ H R
structure DI(X:Cx)(tg e:Expr)(f:FI):Prop where
 pe:PI X tg e (tq X.K f)
theorem yO(h:PI X tg e t)(i:∀σ H Q,t' σ H Q->t σ H Q):PI X tg e t':=fun pins s σ H Q I q=>h pins s σ H Q I (i σ H Q q)
def signs(z:Str):List PyData:=z.cps.toList.map fun c=>.str ⟨#[c]⟩
noncomputable def iU:Pa->Option (List Pa)
 |.list xs=>some xs
 |.tuple xs=>some xs
 |.str z=>if z.length<=Pp then some (signs z) else none
 |.dict ds=>some (ds.map (·.1))
 |_=>none
def bf(f:FE):FI:=fun ρ T=>bnd (f ρ T) fun w T1=>match w with
 |.d x=>match iU x with
  |some xs=>some (xs,T1)
  |none=>none
 |_=>none
theorem ItOk.lst{K:Frag}{O:Addr->Prop}{H1:Hp}{a:Addr}{vs:List V}{ds:List Pa}(h:LstAt K O H1 a vs)(r:Reps K O H1 vs ds):ItOk K O H1 (Itl K a) ds:=fun O' H' le=>by
 have sq:=(h.mono le).sq;have hl:=r.length;refine⟨fun i hi=>⟨vs,vs[i]'(by omega),sq,by simp⟩,⟨vs,sq,by omega⟩,fun i v H'' y hi=>?_⟩;obtain⟨e,y⟩:=y;obtain⟨d,h1,h2⟩:=r.get (y vs sq);exact⟨e,d,h1,h2.mono le⟩
theorem ItOk.tup{K:Frag}{O:Addr->Prop}{H1:Hp}{a:Addr}{vs:List V}{ds:List Pa}(h:TupAt K O H1 a vs)(r:Reps K O H1 vs ds):ItOk K O H1 (Itt K a) ds:=fun O' H' le=>by
 have sq:=(h.mono le).sq;have hl:=r.length;refine⟨fun i hi=>⟨vs,vs[i]'(by omega),sq,by simp⟩,⟨vs,sq,by omega⟩,fun i v H'' y hi=>?_⟩;obtain⟨e,y⟩:=y;obtain⟨d,h1,h2⟩:=r.get (y vs sq);exact⟨e,d,h1,h2.mono le⟩
theorem ItOk.str{K:Frag}{O:Addr->Prop}{H1:Hp}{z:Str}:ItOk K O H1 (Its z) (signs z):=fun O' H' le=>by
 have hl:(signs z).length=z.cps.size:=by simp[signs]
 refine⟨fun i hi=>by rw[hl] at hi;exact hi,by rw[hl];exact Pm _,fun i v H'' y hi=>?_⟩;obtain⟨e,c,hc,y⟩:=y;subst y;refine⟨e,.str ⟨#[c]⟩,?_,.str _⟩;unfold signs;rw[Qd]
 have:z.cps.toList[i]? = some c:=by simpa using hc
 rw[this];rfl
theorem mT{K:Frag}{O:Addr->Prop}{H:Hp}:∀{kvs:List (Key×V)}{ds:List (Pa×Pa)},RepK K O H kvs ds->kvs.length=ds.length
 |_,_,.nil=>rfl
 |_,_,.cons _ t=>congrArg (· + 1) (mT t)
theorem vV{K:Frag}{O:Addr->Prop}{H:Hp}:∀{kvs:List (Key×V)}{ds:List (Pa×Pa)}{i:Nat}{k:Key}{v:V},RepK K O H kvs ds->kvs[i]? = some (k,v)->(ds.map (·.1))[i]? = some (gK k)
 |_,_,_,_,_,.nil,e=>by simp at e
 |_,_,0,_,_,.cons r _,e=>by simp at e;obtain⟨rfl,rfl⟩:=e;rfl
 |_,_,i+1,k,v,.cons _ t,e=>by
  have:=vV (i:=i) t (by simpa using e);simpa using this
theorem xf{K:Frag}{O:Addr->Prop}{H:Hp}(k:Key):Rep K O H (kV k) (gK k):=by
 cases k with
 |inl i=>exact .int i
 |inr x=>exact .str x
theorem ItOk.dct{K:Frag}{O:Addr->Prop}{H1:Hp}{a:Addr}{o:Obj}{kvs:List (Key×V)}{ds:List (Pa×Pa)}(n:¬O a)(h:H1 a=some (.frz o (.dK kvs)))(r:RepK K O H1 kvs ds):ItOk K O H1 (Itd a o kvs) (ds.map (·.1)):=fun O' H' le=>by
 have h':=(le a _ n h).2;have hl:=mT r;refine⟨fun i hi=>⟨h',by simp at hi;omega⟩,⟨h',by simp[hl]⟩,fun i v H'' y hi=>?_⟩;obtain⟨e,k,v0,y1,y2⟩:=y;subst y2;exact⟨e,_,vV r y1,xf k⟩
theorem bO(h:DE X e f):DI X tg e (bf f):=by
 refine⟨?_⟩;refine yO (HZ h.pe) fun σ H R=>?_;rintro⟨O,ts,ρ,T,ds,T',hc,re,e,q⟩;obtain⟨w1,T1,e1,e⟩:=aN e;refine⟨O,ts,ρ,T,w1,T1,hc,re,e1,fun v1 H1 s1 hc1 r1=>?_⟩;split at e
 .rename_i x
  split at e
  .rename_i xs h1
   cases e;have rr:Rep X.K O H1 v1 x:=r1
   cases x with
   |list ys=>
    cases h1
    cases rr with
    |lst t r=>exact .inl ⟨_,_,rfl,t.sq,fun hz=>q _ H1 s1 hc1 (.lst t r) (by rw[←r.length];exact hz)⟩
   |tuple ys=>
    cases h1
    cases rr with
    |tup t r=>exact .inr (.inl ⟨_,_,rfl,t.sq,fun hz=>q _ H1 s1 hc1 (.tup t r) (by rw[←r.length];exact hz)⟩)
   |str z=>
    have h1':(if z.length<=Pp then some (signs z) else none)=some _:=h1;split at h1'
    .rename_i hz
     cases h1';cases rr;exact .inr (.inr (.inl ⟨z,rfl,q _ H1 s1 hc1 .str (by rw[show (signs z).length=z.cps.size by simp[signs]];exact hz)⟩))
    .cases h1'
   |dict ys=>
    cases h1
    cases rr with
    |dct n t r=>exact .inr (.inr (.inr ⟨_,_,_,rfl,t,fun hz=>q _ H1 s1 hc1 (.dct n t r) (by rw[Qb,←mT r];exact hz)⟩))
   |_=>cases h1
  .cases e
 .cases e
noncomputable def cP(lo:Int)(n:Nat):List PyData:=(Re n).map fun(i:Nat)=>.int (lo+(i:Int))
theorem ItOk.rng{K:Frag}{O:Addr->Prop}{H1:Hp}{lo:Int}{n:Nat}:ItOk K O H1 (Itr lo n) (cP lo n):=fun O' H' le=>by
 have hl:(cP lo n).length=n:=by simp[cP]
 refine⟨fun i hi=>by rw[hl] at hi;exact hi,by rw[hl];exact Pm _,fun i v H'' y hi=>?_⟩;obtain⟨e,y⟩:=y;subst y;rw[hl] at hi;exact⟨e,.int (lo+i),by simp[cP,hi],.int _⟩
def fX(j:Int):Bool:=decide (-1000000<=j/\j<=16777216)
theorem rng_ok(h:fX j=true) : -(2^62)<=j/\j<2^62/\j.toNat<=sizeLine:=by
 have h':=of_decide_eq_true h
 have e:Pp=16777216:=by decide
 omega
def eP(f:FE):FI:=fun ρ T=>bnd (f ρ T) fun w T1=>match w with
 |.d (.int j)=>if fX j=true then some (cP 0 j.toNat,T1) else none
 |_=>none
theorem oh(hg:Gl X "range")(hm:X.mg "range"=none)(ha:DE X a f)(hs:Pk [a] X.env=[(false,eval a X.env)]:=by exact nr rfl):DI X tg (.Call (.Name "range" p) [a] [] pos) (eP f):=by
 refine⟨?_⟩;refine yO (CY (ta:=pH (lift X.K f) qc) hg hm (bw ha.pe cG (by rw[hs];rfl)) hs) fun σ H R=>?_;rintro⟨O,ts,ρ,T,ds,T',hc,re,e,q⟩;obtain⟨w1,T1,e1,e⟩:=aN e;refine⟨O,ts,ρ,T,w1,T1,hc,re,e1,fun v1 H1 s1 hc1 r1=>?_⟩;split at e
 .rename_i j
  split at e
  .rename_i h1
   cases e;cases (show Rep X.K O H1 v1 _ from r1);obtain⟨b1,b2,b3⟩:=rng_ok h1;exact⟨j,rfl,b1,b2,q _ H1 s1 hc1 .rng (by simpa[cP] using b3)⟩
  .cases e
 .cases e
def bD(c:FT)(e:FE)(ρ:Rho):List Pa->Tp->Option (List Pa×Tp)
 |[],T=>some ([],T)
 |d::r,T=>bnd (c (some (.d d)::ρ) T) fun b T1=>if b=true then bnd (e (some (.d d)::ρ) T1) fun w T2=>match w with
   |.d y=>bnd (bD c e ρ r T2) fun ys T3=>some (y::ys,T3)
   |_=>none
  else bD c e ρ r T1
def bC(it:FI)(c:FT)(e:FE):FE:=fun ρ T=>bnd (it ρ T) fun ds T1=>bnd (bD c e ρ ds T1) fun ys T2=>some (.d (.list ys),T2)
def bu:FT:=fun _ T=>some (true,T)
theorem RelE.cons{K:Frag}{O:Addr->Prop}{ts:List Addr}{H:Hp}{σ:L2.St}{ρ:Rho}{v:V}{d:Pa}(re:RelE K O ts H σ ρ)(r:Rep K O H v d):RelE K O ts H (some v::σ) (some (.d d)::ρ):=fun i w e=>by
 cases i with
 |zero=>cases e;exact⟨v,rfl,r⟩
 |succ i=>
  obtain⟨u,h1,h2⟩:=re i w (by simpa using e);exact⟨u,by simpa using h1,h2⟩
theorem yu{K:Frag}{O:Addr->Prop}{ts:List Addr}{H1:Hp}{σ:L2.St}{ρ:Rho}{J:It}{c:FT}{e:FE}{ds ys:List Pa}{T1 T2:Tp}{Dn:List V->Hp->Prop}(hc:HC K O ts H1 T1)(re:RelE K O ts H1 σ ρ)(ok:ItOk K O H1 J ds)(hz:ds.length<=Pp)
  (ee:bD c e ρ ds T1=some (ys,T2)) (q:∀vs H',SameX ts H1 H'->HC K O ts H' T2->Reps K O H' vs ys->Dn vs H') :
  ∃W:Nat->Nat->List V->Hp->Prop,(∃m,W 0 m [] H1)/\pX σ J (liftT K c) (lift K e) W Dn:=by
 refine⟨fun i m vs H'=>m=ds.length-i/\i<=ds.length/\vs.length<=i/\∃T dn rs,SameX ts H1 H'/\HC K O ts H' T/\Reps K O H' vs dn/\bD c e ρ (ds.drop i) T=some (rs,T2)/\ys=dn++rs,⟨_,rfl,QE _,Pm _,T1,[],ys,.refl _ _,hc,.nil,ee,rfl⟩,?_⟩;rintro i m vs H' ⟨rfl,hi,hv,T,dn,rs,s1,hc1,rv,ec,ey⟩;obtain⟨k1,k2,k3⟩:=ok O H' (hc.le s1)
 by_cases hlt:i<ds.length
 .refine .inr ⟨k1 i hlt,by omega,fun vs' H2=>i+1<=ds.length/\vs'.length<=i+1/\∃T dn rs,SameX ts H1 H2/\HC K O ts H2 T/\Reps K O H2 vs' dn/\bD c e ρ (ds.drop (i+1)) T=some (rs,T2)/\ys=dn++rs,fun vs' H2 n=>⟨ds.length-(i+1),by omega,rfl,n⟩,fun v H2 y=>?_⟩
  obtain⟨e2,d,hd,rd⟩:=k3 i v H2 y hlt;subst e2
  have hdr:ds.drop i=d::ds.drop (i+1):=by
   rw[Ql hlt];have:=(Ph.mp hd).2;rw[this]
  rw[hdr] at ec;obtain⟨b,T3,e3,ec⟩:=aN ec;refine⟨O,ts,some (.d d)::ρ,T,b,T3,hc1,(re.mono hc s1).cons rd,e3,fun H3 s3 hc3=>?_⟩
  cases b with
  |false=>
   rw[if_neg Pu] at ec;exact ir ⟨hlt,by omega,T3,dn,rs,s1.trans s3,hc3,rv.mono (hc1.le s3),ec,ey⟩
  |true=>
   rw[if_pos rfl] at ec;obtain⟨w,T4,e4,ec⟩:=aN ec;refine eW ⟨O,ts,some (.d d)::ρ,T3,w,T4,hc3,((re.mono hc s1).cons rd).mono hc1 s3,e4,fun u H4 s4 hc4 r4=>?_⟩;split at ec
   .rename_i y
    obtain⟨zs,T5,e5,ec⟩:=aN ec;cases ec;refine⟨hlt,by simp;omega,T4,dn++[y],zs,s1.trans (s3.trans s4),hc4,(rv.mono (hc1.le (s3.trans s4))).append (.cons r4 .nil),e5,by rw[ey];simp⟩
   .cases ec
 .have e:i=ds.length:=by omega
  subst e;rw[QN (Pm _)] at ec;cases ec;rw[Qv] at ey;subst ey;exact .inl ⟨k2,by omega,q vs H' s1 hc1 rv⟩
structure DTs(X:Cx)(es:List Expr)(f:FT):Prop where
 pe:PTs X es (liftT X.K f)
theorem yh:DTs X [] bu:=⟨fun pins s σ H Q E I h=>by
 refine F0 pins s σ H Q E I ?_;obtain⟨O,ts,ρ,T,w,T',hc,re,e,q⟩:=h;cases e
 exact q H (.refl _ _) hc⟩
theorem GX(hx:X.xe=fun _ _=>False)(h:DT X c f):DTs X [c] f:=⟨FZ hx h.pe⟩
theorem G7(S:CS osc N x scope N')(hi:DI X (.Name x px) iter it)
  (he:∀C s0 H0 ex,DE (bV X x scope C s0 H0 ex N') elt f) (ht:∀C s0 H0 ex,DTs (bV X x scope C s0 H0 ex N') ifs c) (hc:X.calm=true:=by rfl) (hs:X.env.scope=osc:=by rfl) (hN:X.N=N:=by rfl)
  (hf:∀v,Qj iter X.env v=pure v:=by intro _;rfl):DE X (.ListComp elt [⟨.Name x px,iter,ifs,0⟩] scope pos) (bC it c f):=by
 refine⟨?_⟩;refine pe_imp (Eu (wi:=tq X.K it) (tt:=liftT X.K c) (te:=lift X.K f) S hi.pe (fun C s0 H0 ex=>(he C s0 H0 ex).pe) (fun C s0 H0 ex=>(ht C s0 H0 ex).pe) hc hs hN hf) fun σ H Q=>?_;rintro⟨O,ts,ρ,T,w,T',hc,re,e,q⟩;obtain⟨ds,T1,e1,e⟩:=aN e;obtain⟨ys,T2,e2,e⟩:=aN e;cases e;refine⟨O,ts,ρ,T,ds,T1,hc,re,e1,fun J H1 s1 hc1 ok hz=>?_⟩;exact yu hc1 (re.mono hc s1) ok hz e2 fun vs H' s2 hc2 r2 p hp=>q _ _ (s1.trans (s2.trans (.new hp _))) (hc2.new hp _) (hc2.newL hp r2)
inductive Fl where
 |nx|rt (x:Pa)|ro (x:Pa)|bk|ct
abbrev FS:=Rho->Tp->Option ((Fl×Rho)×Tp)
structure RS(K:Frag)(O₀:Addr->Prop)(H₀:Hp)(F:List ((Addr->Prop)×Hp))(ts:List Addr)(O:Addr->Prop)(H:Hp)(σ:L2.St)(ρ:Rho)(T:Tp):Prop where
 hc:HC K O ts H T
 re:RelE K O ts H σ ρ
 sub:∀b,O₀ b->O b
 ots:∀b∈ts,O₀ b
 same:SameX ts H₀ H
 fresh:∀(i:Nat) (xs:Pa) (a:Addr),ρ[i]? = some (some (.loc xs))->σ[i]? = some (some (.ref a))->H₀ a=none/\¬O₀ a
 dist:∀(i j:Nat) (xs ys:Pa) (v:V),ρ[i]? = some (some (.loc xs))->ρ[j]? = some (some (.loc ys))->σ[i]? = some (some v)->σ[j]? = some (some v)->i=j
 frs:∀f∈F,Le f.1 f.2 O H
 len:σ.length=ρ.length
def OwnV(K:Frag)(O A:Addr->Prop)(H:Hp)(v:V):Pa->Prop
 |.tuple [x,y]=>∃p a b,v=.ref p/\a≠b/\(∀c,A c↔c=a\/c=b)/\¬O p/\H p=some (.tup [.ref a,.ref b])/\OwnAt K O H a x/\OwnAt K O H b y
 |.none=>v=.non/\∀c,¬A c
 |x=>∃a,v=.ref a/\(∀c,A c↔c=a)/\OwnAt K O H a x
theorem OwnV.mono{K:Frag}{O O' A:Addr->Prop}{H:Hp}{v:V}{x:Pa}(le:Le O H O' H)(h:OwnV K O A H v x):OwnV K O' A H v x:=by
 unfold OwnV at h ⊢;split at h
 .obtain⟨p,a,b,e1,e2,e3,np,hp,oa,ob⟩:=h
  exact⟨p,a,b,e1,e2,e3,(le p _ np hp).1,hp,oa.mono (fun _ h=>h) le,ob.mono (fun _ h=>h) le⟩
 .exact h
 .obtain⟨a,e,hA,oa⟩:=h
  exact⟨a,e,hA,oa.mono (fun _ h=>h) le⟩
def Ay(K:Frag)(O₀:Addr->Prop)(H₀:Hp)(F:List ((Addr->Prop)×Hp))(ts:List Addr)(D:Ends)(ρ':Rho)(T':Tp):Fl->Prop
 |.nx=>∀O' σ' H',RS K O₀ H₀ F ts O' H' σ' ρ' T'->D.nx σ' H'
 |.bk=>∀O' σ' H',RS K O₀ H₀ F ts O' H' σ' ρ' T'->D.bk σ' H'
 |.ct=>∀O' σ' H',RS K O₀ H₀ F ts O' H' σ' ρ' T'->D.ct σ' H'
 |.rt x=>∀v H',SameX ts H₀ H'->HC K O₀ ts H' T'->Rep K O₀ H' v x->D.rt v H'
 |.ro x=>∀(A:Addr->Prop) v H',SameX ts H₀ H'->(∀b,A b->H₀ b=none/\¬O₀ b)->HC K (fun b=>O₀ b\/A b) ts H' T'->OwnV K (fun b=>O₀ b\/A b) A H' v x->D.rt v H'
inductive LiftSP(K:Frag)(f:FS)(D:Ends)(σ:L2.St)(H:Hp):Prop where
 |mk (O₀:Addr->Prop) (H₀:Hp) (F:List ((Addr->Prop)×Hp)) (ts:List Addr) (O:Addr->Prop) (ρ:Rho) (T:Tp) (fl:Fl) (ρ':Rho) (T':Tp) (rs:RS K O₀ H₀ F ts O H σ ρ T) (e:f ρ T=some ((fl,ρ'),T')) (q:Ay K O₀ H₀ F ts D ρ' T' fl):LiftSP K f D σ H
def tm(K:Frag)(f:FS):TS:=fun D σ H=>LiftSP K f D σ H
structure DS(X:Cx)(s:Stmt)(f:FS):Prop where
 pe:PS X s (tm X.K f)
structure DSs(X:Cx)(s:List Stmt)(f:FS):Prop where
 pe:PSs X s (tm X.K f)
theorem bY(h:PS X e t)(i:∀D σ H,t' D σ H->t D σ H):PS X e t':=fun pins s σ H D I q=>h pins s σ H D I (i D σ H q)
theorem jE(h:PSs X e t)(i:∀D σ H,t' D σ H->t D σ H):PSs X e t':=fun pins s σ H D I q=>h pins s σ H D I (i D σ H q)
section
variable {K:Frag}{O₀:Addr->Prop}{H₀:Hp}{F:List ((Addr->Prop)×Hp)}{ts:List Addr}{O:Addr->Prop}{H H1:Hp}{σ:L2.St}{ρ:Rho}{T T1:Tp}
theorem RS.step(r:RS K O₀ H₀ F ts O H σ ρ T)(s:SameX ts H H1)(c:HC K O ts H1 T1):RS K O₀ H₀ F ts O H1 σ ρ T1 where
 hc:=c
 re:=r.re.mono r.hc s
 sub:=r.sub
 ots:=r.ots
 same:=r.same.trans s
 fresh:=r.fresh
 dist:=r.dist
 frs:=fun f hf=>(r.frs f hf).trans (r.hc.le s)
 len:=r.len
theorem eI(hw:∀ys,w≠.loc ys)(e:(ρ.set i (some w))[j]? = some (some (.loc xs))):j≠i/\ρ[j]? = some (some (.loc xs)):=by
 by_cases z:i=j
 .subst z
  rw[UK] at e
  cases h:ρ[i]? with
  |none=>rw[h] at e;cases e
  |some u=>
   rw[h] at e;have e':some (some w)=some (some (W.loc xs)):=e;cases e';exact absurd rfl (hw xs)
 .rw[Pj z] at e
  exact⟨fun q=>z q.symm,e⟩
theorem RS.set{i:Nat}{v:V}{w:W}(r:RS K O₀ H₀ F ts O H σ ρ T)(rw':RepW K O ts H v w)(hw:∀ys,w≠.loc ys):RS K O₀ H₀ F ts O H (σ.set i (some v)) (ρ.set i (some w)) T where
 hc:=r.hc
 re:=fun j u e=>by
  by_cases z:i=j
  .subst z
   have hl:i<ρ.length:=by
    have:=(Ph.mp e).1;simpa using this
   rw[Pv hl] at e;cases e;exact⟨v,by rw[Pv (by rw[r.len];exact hl)],rw'⟩
  .rw[Pj z] at e
   obtain⟨x,h1,h2⟩:=r.re j u e;exact⟨x,by rw[Pj z];exact h1,h2⟩
 sub:=r.sub
 ots:=r.ots
 same:=r.same
 fresh:=fun j xs a e1 e2=>by
  obtain⟨n,e⟩:=eI hw e1;rw[Pj (QW n)] at e2;exact r.fresh j xs a e e2
 dist:=fun j k xs ys u e1 e2 e3 e4=>by
  obtain⟨n1,e1⟩:=eI hw e1;obtain⟨n2,e2⟩:=eI hw e2;rw[Pj (QW n1)] at e3;rw[Pj (QW n2)] at e4;exact r.dist j k xs ys u e1 e2 e3 e4
 frs:=r.frs
 len:=by simp[r.len]
theorem RS.ownO(r:RS K O₀ H₀ F ts O H σ ρ T)(hp:H p=none)(hm:Mut (some o))(rv:Le O H (fun b=>O b\/b=p) (upd H p o)->OwnAt K (fun b=>O b\/b=p) (upd H p o) p xs):RS K O₀ H₀ F ts (fun b=>O b\/b=p) (upd H p o) (σ.set i (some (.ref p))) (ρ.set i (some (.loc xs))) T:=by
 have le:Le O H (fun b=>O b\/b=p) (upd H p o):=fun a o n e=>by
  have z:a≠p:=c6 e hp;exact⟨fun q=>q.elim n z,by rw[aR z];exact e⟩
 have h0:∀{G:Hp},SameX ts G H->p∉ts->G p=none:=fun {G} s nt=>by
  cases e:G p with
  |none=>rfl
  |some o=>rw[s p o nt e] at hp;cases hp
 have nO:=r.hc.fresh hp;have nt:p∉ts:=fun z=>nO (r.hc.own p z)
 have old:∀{j:Nat}{v:V}{w:W},σ[j]? = some (some v)->RepW K O ts H v w->RepW K (fun b=>O b\/b=p) ts (upd H p o) v w:=fun {j v w} e q=>by
  cases w with
  |d x=>exact Rep.mono le q
  |tp k=>exact q
  |loc ys=>
   obtain⟨a,e1,h1,h2,h3⟩:=q;exact⟨a,e1,.inl h1,h2,h3.mono (fun o' q=>by rw[aR (c6 q hp)];exact q) le⟩
 have notp:∀{j:Nat}{ys:Pa},ρ[j]? = some (some (.loc ys))->σ[j]? = some (some (.ref p))->False:=fun {j ys} e1 e2=>by
  obtain⟨v,h1,a,ea,h2,h3,h4⟩:=r.re j _ e1;rw[e2] at h1;cases h1;cases ea;obtain⟨o',h5⟩:=h4.some;rw[hp] at h5;cases h5
 refine⟨⟨fun b hb=>.inl (r.hc.own b hb),fun b hb=>?_,r.hc.nd,r.hc.len,fun j a ys e1 e2=>?_⟩,fun j w e=>?_,fun b hb=>.inl (r.sub b hb),r.ots,r.same.trans (.new hp _),fun j ys a e1 e2=>?_,fun j k ys zs v e1 e2 e3 e4=>?_,fun f hf=>(r.frs f hf).trans le,by simp[r.len]⟩
 .by_cases z:b=p
  .subst z;rw[bo];exact hm
  .rw[aR z]
   exact r.hc.trk b (hb.resolve_right z)
 .exact(r.hc.tape j a ys e1 e2).mono (fun o' h1=>by rw[aR (c6 h1 hp)];exact h1) le
 .by_cases z:i=j
  .subst z
   have hl:i<ρ.length:=by
    have:=(Ph.mp e).1;simpa using this
   rw[Pv hl] at e;cases e;exact⟨.ref p,by rw[Pv (by rw[r.len];exact hl)],p,rfl,.inr rfl,nt,rv le⟩
  .rw[Pj z] at e
   obtain⟨x,h1,h2⟩:=r.re j w e;exact⟨x,by rw[Pj z];exact h1,old h1 h2⟩
 .by_cases z:i=j
  .subst z
   have hl:i<ρ.length:=by
    have:=(Ph.mp e1).1;simpa using this
   rw[Pv (by rw[r.len];exact hl)] at e2;cases e2;exact⟨h0 r.same nt,fun q=>nO (r.sub _ q)⟩
  .rw[Pj z] at e1 e2
   exact r.fresh j ys a e1 e2
 .by_cases z:i=j
  .by_cases z':i=k
   .rw[←z,←z']
   .exfalso
    subst z
    have hl:i<ρ.length:=by
     have:=(Ph.mp e1).1;simpa using this
    rw[Pv (by rw[r.len];exact hl)] at e3;cases e3;rw[Pj z'] at e2 e4;exact notp e2 e4
  .by_cases z':i=k
   .exfalso
    subst z'
    have hl:i<ρ.length:=by
     have:=(Ph.mp e2).1;simpa using this
    rw[Pv (by rw[r.len];exact hl)] at e4;cases e4;rw[Pj z] at e1 e3;exact notp e1 e3
   .rw[Pj z] at e1 e3
    rw[Pj z'] at e2 e4;exact r.dist j k ys zs v e1 e2 e3 e4
theorem RS.own(r:RS K O₀ H₀ F ts O H σ ρ T)(hp:H p=none)(rv:Reps K O H vs xs):RS K O₀ H₀ F ts (fun b=>O b\/b=p) (upd H p (.lst vs)) (σ.set i (some (.ref p))) (ρ.set i (some (.loc (.list xs)))) T:=r.ownO hp (.inl ⟨_,rfl⟩) fun le=>⟨vs,bo,rv.mono le⟩
theorem RS.putO(r:RS K O₀ H₀ F ts O H σ ρ T)(e1:ρ[i]? = some (some (.loc xs)))(e2:σ[i]? = some (some (.ref a)))(hm:Mut (some o))(rv:Le O H O (upd H a o)->OwnAt K O (upd H a o) a ys):RS K O₀ H₀ F ts O (upd H a o) σ (ρ.set i (some (.loc ys))) T:=by
 obtain⟨v,z1,a',ea,oa,nt,ha⟩:=r.re i _ e1;rw[e2] at z1;cases z1;cases ea;have hl:i<ρ.length:=(Ph.mp e1).1;obtain⟨f1,f2⟩:=r.fresh i xs a e1 e2;have le:Le O H O (upd H a o):=fun b o n e=>⟨n,by rw[aR (show b≠a from fun z=>n (by rw[z];exact oa))];exact e⟩
 have back:∀{j:Nat}{zs:Pa},(ρ.set i (some (W.loc ys)))[j]? = some (some (.loc zs))->∃ws,ρ[j]? = some (some (.loc ws)):=fun {j zs} e=>by
  by_cases z:i=j
  .subst z;exact⟨xs,e1⟩
  .rw[Pj z] at e;exact⟨zs,e⟩
 refine⟨⟨r.hc.own,fun b hb=>?_,r.hc.nd,r.hc.len,fun j b zs q1 q2=>?_⟩,fun j w e=>?_,r.sub,r.ots,fun b o n e=>?_,fun j zs b q1 q2=>?_,fun j k zs zs' v q1 q2 q3 q4=>?_,fun f hf=>(r.frs f hf).trans le,by simp[r.len]⟩
 .by_cases z:b=a
  .subst z;rw[bo];exact hm
  .rw[aR z];exact r.hc.trk b hb
 .exact(r.hc.tape j b zs q1 q2).mono (fun o' h1=>by rw[aR (show b≠a from fun z=>nt (by rw[←z];exact P8 q1))];exact h1) le
 .by_cases z:i=j
  .subst z
   rw[Pv hl] at e;cases e;exact⟨.ref a,e2,a,rfl,oa,nt,rv le⟩
  .rw[Pj z] at e
   obtain⟨x,h1,h2⟩:=r.re j w e;refine⟨x,h1,?_⟩
   cases w with
   |d x=>exact Rep.mono le h2
   |tp k=>exact h2
   |loc zs=>
    obtain⟨b,eb,k1,k2,k3⟩:=h2;have n:b≠a:=fun q=>z (r.dist i j xs zs (.ref a) e1 e e2 (by rw[h1,eb,q]));exact⟨b,eb,k1,k2,k3.mono (fun o' q=>by rw[aR n];exact q) le⟩
 .have:=r.same b o n e
  rw[aR (show b≠a from fun z=>by rw[z,f1] at e;cases e)];exact this
 .obtain⟨ws,q⟩:=back q1
  exact r.fresh j ws b q q2
 .obtain⟨ws,q⟩:=back q1
  obtain⟨ws',q'⟩:=back q2;exact r.dist j k ws ws' v q q' q3 q4
theorem RS.put{i:Nat}{a:Addr}{vs us:List V}{xs ys:List Pa}(r:RS K O₀ H₀ F ts O H σ ρ T)(e1:ρ[i]? = some (some (.loc (.list xs))))(e2:σ[i]? = some (some (.ref a)))(rv:Reps K O H vs ys):RS K O₀ H₀ F ts O (upd H a (.lst vs)) σ (ρ.set i (some (.loc (.list ys)))) T:=r.putO e1 e2 (.inl ⟨_,rfl⟩) fun le=>⟨vs,bo,rv.mono le⟩
theorem RS.tapeO(r:RS K O₀ H₀ F ts O H σ ρ T)(e:ts[n]? = some a)(hm:Mut (some o))(rv:Le O H O (upd H a o)->RowAt K O (upd H a o) a ys):RS K O₀ H₀ F ts O (upd H a o) σ ρ (T.set n ys):=by
 have am:a∈ts:=P8 e;have le:Le O H O (upd H a o):=fun b o' k q=>⟨k,by rw[aR (show b≠a from fun z=>k (by rw[z];exact r.hc.own a am))];exact q⟩
 have sx:SameX ts H (upd H a o):=fun b o' k q=>by rw[aR (show b≠a from fun z=>k (by rw[z];exact am))];exact q
 refine⟨⟨r.hc.own,fun b hb=>?_,r.hc.nd,by simp[r.hc.len],fun j b zs q1 q2=>?_⟩,r.re.mono r.hc sx,r.sub,r.ots,r.same.trans sx,r.fresh,r.dist,fun f hf=>(r.frs f hf).trans le,r.len⟩
 .by_cases z:b=a
  .subst z;rw[bo];exact hm
  .rw[aR z];exact r.hc.trk b hb
 .by_cases z:n=j
  .subst z
   rw[e] at q1;cases q1
   have hl:n<T.length:=by
    have:=(Ph.mp e).1;rw[←r.hc.len];exact this
   rw[Pv hl] at q2;cases q2;exact rv le
  .rw[Pj z] at q2
   refine(r.hc.tape j b zs q1 q2).mono (fun o' h1=>?_) le
   have nb:b≠a:=fun q=>by
    rw[q] at q1;exact z ((List.getElem?_inj (Ph.mp e).1 r.hc.nd).mp (e.trans q1.symm))
   rw[aR nb];exact h1
theorem RS.tape(r:RS K O₀ H₀ F ts O H σ ρ T)(e:ts[n]? = some a)(rv:Reps K O H vs ys):RS K O₀ H₀ F ts O (upd H a (.lst vs)) σ ρ (T.set n ys):=r.tapeO e (.inl ⟨_,rfl⟩) fun le=>.inl ⟨rv.notO,vs,bo,rv.mono le⟩
def kr:W->W
 |.loc x=>.d x
 |w=>w
def bX(ρ:Rho):Rho:=ρ.map (YA kr)
theorem RS.frzH(r:RS K O₀ H₀ F ts O H σ ρ T):HC K O₀ ts H T:=by
 have le:Le O H O₀ H:=fun a o n e=>⟨fun z=>n (r.sub a z),e⟩;exact⟨r.ots,fun b hb=>r.hc.trk b (r.sub b hb),r.hc.nd,r.hc.len,fun i a xs e1 e2=>(r.hc.tape i a xs e1 e2).mono (fun _ h=>h) le⟩
def Bj(ρ:Rho):Prop:=∀(i:Nat) (ds:List (Pa×Pa)),ρ[i]?≠some (some (.loc (.dict ds)))
theorem RS.frz(r:RS K O₀ H₀ F ts O H σ ρ T)(nd:Bj ρ):HC K O₀ ts H T/\RelE K O₀ ts H σ (bX ρ):=by
 have le:Le O H O₀ H:=fun a o n e=>⟨fun z=>n (r.sub a z),e⟩;refine⟨r.frzH,fun i w e=>?_⟩;unfold bX at e;rw[Qd] at e
 cases hu:ρ[i]? with
 |none=>rw[hu] at e;cases e
 |some u=>
  cases u with
  |none=>rw[hu] at e;cases e
  |some u=>
   rw[hu] at e;cases e;obtain⟨v,h1,h2⟩:=r.re i u hu;refine⟨v,h1,?_⟩
   cases u with
   |d x=>exact Rep.mono le h2
   |tp k=>exact h2
   |loc xs=>
    obtain⟨a,rfl,k1,k2,k3⟩:=h2
    cases xs with
    |list xs=>obtain⟨vs,k3,k4⟩:=k3;exact .lst (.inl ⟨(r.fresh i _ a hu h1).2,.inl k3⟩) (k4.mono le)
    |dict xs=>exact absurd hu (nd i xs)
    |_=>cases k3
theorem RS.frzD(r:RS K O₀ H₀ F ts O H σ ρ T)(h1:ρ[i]? = some (some (.loc (.dict ds)))):∃a kvs,H a=some (.dK kvs)/\∀o,RS K O₀ H₀ F ts (fun b=>O b/\b≠a) (upd H a (.frz o (.dK kvs))) σ (ρ.set i (some (.d (.dict ds)))) T:=by
 obtain⟨v,k1,a,rfl,k2,k3,kvs,k4,k5⟩:=r.re i _ h1;refine⟨a,kvs,k4,fun o=>?_⟩;have hl:i<ρ.length:=(Ph.mp h1).1;have U:∀{b:Addr},b≠a->upd H a (.frz o (.dK kvs)) b=H b:=fun n=>aR n;have le:Le O H (fun b=>O b/\b≠a) (upd H a (.frz o (.dK kvs))):=fun b u n e=>⟨fun z=>n z.1,by rw[U (show b≠a from fun z=>n (by rw[z];exact k2))];exact e⟩;have fr:=r.fresh i _ a h1 k1
 have hw:∀ys,W.d (.dict ds)≠.loc ys:=fun _ z=>nomatch z
 refine⟨⟨fun b hb=>⟨r.hc.own b hb,fun z=>k3 (z ▸ hb)⟩,fun b hb=>by rw[U hb.2];exact r.hc.trk b hb.1,r.hc.nd,r.hc.len,fun j b ys e1 e2=>?_⟩,fun j w e=>?_,fun b hb=>⟨r.sub b hb,fun z=>fr.2 (z ▸ hb)⟩,r.ots,fun b u n e=>?_,fun j ys b e1 e2=>?_,fun j k ys zs v e1 e2 e3 e4=>?_,fun f hf=>(r.frs f hf).trans le,by simp[r.len]⟩
 .exact(r.hc.tape j b ys e1 e2).mono (fun _ h=>by rw[U (show b≠a from fun z=>k3 (by rw[←z];exact P8 e1))];exact h) le
 .by_cases z:i=j
  .subst z
   rw[Pv hl] at e;cases e;exact⟨.ref a,k1,.dct (fun z=>z.2 rfl) bo (k5.mono le)⟩
  .rw[Pj z] at e
   obtain⟨x,q1,q2⟩:=r.re j w e;refine⟨x,q1,?_⟩
   cases w with
   |d y=>exact Rep.mono le q2
   |tp k=>exact q2
   |loc ys=>
    obtain⟨b,eb,m1,m2,m3⟩:=q2;have nb:b≠a:=fun q=>z (r.dist i j _ ys (.ref a) h1 e k1 (by rw[q1,eb,q]));exact⟨b,eb,⟨m1,nb⟩,m2,m3.mono (fun _ q=>by rw[U nb];exact q) le⟩
 .rw[U (show b≠a from fun z=>by rw[z,fr.1] at e;cases e)]
  exact r.same b u n e
 .obtain⟨n,e⟩:=eI hw e1
  exact r.fresh j ys b e e2
 .obtain⟨n1,e1⟩:=eI hw e1
  obtain⟨n2,e2⟩:=eI hw e2;exact r.dist j k ys zs v e1 e2 e3 e4
theorem EU(h:ρ[i]? = some (some (.loc x))):bX (ρ.set i (some (.d x)))=bX ρ:=by
 apply We;intro j;unfold bX;rw[Qd,Qd]
 by_cases z:i=j
 .subst z
  rw[Pv (Ph.mp h).1,h];rfl
 .rw[Pj z]
theorem RS.frzN(R:Rho):∀(k:Nat) {O:Addr->Prop}{H:Hp}{ρ:Rho},RS K O₀ H₀ F ts O H σ ρ T->(∀j ds,k<=j->ρ[j]?≠some (some (.loc (.dict ds))))->bX ρ=R ->
  Gh (fun H'=>∃O' ρ',RS K O₀ H₀ F ts O' H' σ ρ' T/\Bj ρ'/\bX ρ'=R) H
 |0,O,H,ρ,r,n,e=>.done ⟨O,ρ,r,fun j ds=>n j ds (QE _),e⟩
 |k+1,O,H,ρ,r,n,e=>by
  by_cases h:∃ds,ρ[k]? = some (some (.loc (.dict ds)))
  .obtain⟨ds,h⟩:=h
   obtain⟨a,kvs,e1,f⟩:=r.frzD h;refine .frz e1 fun o=>RS.frzN R k (f o) (fun j es hj=>?_) (by rw[EU h];exact e)
   by_cases z:k=j
   .subst z
    rw[Pv (Ph.mp h).1];intro q;cases q
   .rw[Pj z]
    exact n j es (by omega)
  .refine RS.frzN R k r (fun j ds hj=>?_) e
   by_cases z:k=j
   .subst z
    exact fun q=>h ⟨ds,q⟩
   .exact n j ds (by omega)
theorem RS.frzG(r:RS K O₀ H₀ F ts O H σ ρ T):Gh (fun H'=>SameX ts H₀ H'/\HC K O₀ ts H' T/\RelE K O₀ ts H' σ (bX ρ)) H:=(RS.frzN (bX ρ) ρ.length r (fun j ds hj=>by rw[SV hj];exact fun z=>nomatch z) rfl).imp fun H' ⟨O',ρ',r',n,e⟩=>⟨r'.same,by rw[←e];exact r'.frz n⟩
end
def aD:FS:=fun ρ T=>some ((.nx,ρ),T)
def ak(f g:FS):FS:=fun ρ T=>bnd (f ρ T) fun p T1=>match p with
 |(.nx,ρ1)=>g ρ1 T1
 |(fl,ρ1)=>some ((fl,ρ1),T1)
def aF(i:Nat)(f:FE):FS:=fun ρ T=>bnd (f ρ T) fun w T1=>match w with
 |.d x=>some ((.nx,ρ.set i (some (.d x))),T1)
 |.tp k=>some ((.nx,ρ.set i (some (.tp k))),T1)
 |.loc _=>none
def cI(i:Nat)(g:FA):FS:=fun ρ T=>bnd (g ρ T) fun ws T1=>match d3 ws with
 |some xs=>if xs.length<=1000 then some ((.nx,ρ.set i (some (.loc (.list xs)))),T1) else none
 |none=>none
def b6(i:Nat)(f:FE):FS:=fun ρ T=>bnd (f ρ T) fun w T1=>match w with
 | .d x=>(match ρ[i]? with
  |some (some (.loc (.list xs)))=>if xs.length<Pp then some ((.nx,ρ.set i (some (.loc (.list (xs++[x]))))),T1) else none
  | _=>none)
 |_=>none
def mz(fo fk fe:FE):FS:=fun ρ T=>bnd (fe ρ T) fun w T1=>bnd (fo ρ T1) fun o T2=>bnd (fk ρ T2) fun k T3=>match w,o,k with
 |.d x,.tp n,.d (.int i)=>match T3[n]? with
  |some xs=>if isO xs=true then none else match ixN xs.length i with
   |some j=>some ((.nx,ρ),T3.set n (xs.set j x))
   |none=>none
  |none=>none
 |_,_,_=>none
def fIf(c:FT)(f g:FS):FS:=fun ρ T=>bnd (c ρ T) fun b T1=>if b=true then f ρ T1 else g ρ T1
def aB(f:FE):FS:=fun ρ T=>bnd (f (bX ρ) T) fun w T1=>match w with
 |.d x=>some ((.rt x,ρ),T1)
 |_=>none
def forL(i:Nat)(body:FS):List Pa->FS
 |[]=>aD
 |d::r=>fun ρ T=>bnd (body (ρ.set i (some (.d d))) T) fun p T1=>match p with
  |(.nx,ρ1)=>forL i body r ρ1 T1
  |(.ct,ρ1)=>forL i body r ρ1 T1
  |(.bk,ρ1)=>some ((.nx,ρ1),T1)
  |(.rt x,ρ1)=>some ((.rt x,ρ1),T1)
  |(.ro x,ρ1)=>some ((.ro x,ρ1),T1)
def bH(i:Nat)(it:FI)(body:FS):FS:=fun ρ T=>bnd (it ρ T) fun ds T1=>forL i body ds ρ T1
def bi(c:FT)(body:FS):Nat->FS
 |0=>fun _ _=>none
 |n+1=>fun ρ T=>bnd (c ρ T) fun b T1=>if b=true then bnd (body ρ T1) fun p T2=>match p with
   |(.nx,ρ1)=>bi c body n ρ1 T2
   |(.ct,ρ1)=>bi c body n ρ1 T2
   |(.bk,ρ1)=>some ((.nx,ρ1),T2)
   |(.rt x,ρ1)=>some ((.rt x,ρ1),T2)
   |(.ro x,ρ1)=>some ((.ro x,ρ1),T2)
  else some ((.nx,ρ),T1)
section
variable {X:Cx}{pos:Pos}{st:Stmt}{rest:List Stmt}{f g:FS}{e:Expr}{fe:FE}{c:FT}
theorem aL:DSs X [] aD:=by
 refine⟨?_⟩;refine jE xl fun D σ H=>?_;rintro⟨O₀,H₀,F,ts,O,ρ,T,fl,ρ',T',rs,e,q⟩;cases e;exact q O σ H rs
theorem ax(h1:DS X st f)(h2:DSs X rest g):DSs X (st::rest) (ak f g):=by
 refine⟨?_⟩;refine jE (jy h1.pe h2.pe) fun D σ H=>?_;rintro⟨O₀,H₀,F,ts,O,ρ,T,fl,ρ',T',rs,e,q⟩;obtain⟨⟨fl1,ρ1⟩,T1,e1,e⟩:=aN e;refine⟨O₀,H₀,F,ts,O,ρ,T,fl1,ρ1,T1,rs,e1,?_⟩
 cases fl1 with
 |nx=>exact fun O' σ' H' rs'=>⟨O₀,H₀,F,ts,O',ρ1,T1,fl,ρ',T',rs',e,q⟩
 |rt x=>cases e;exact q
 |ro x=>cases e;exact q
 |bk=>cases e;exact q
 |ct=>cases e;exact q
theorem az(h1:DS X st f):DSs X [st] f:=⟨rK h1.pe⟩
theorem aQ(hN:X.N.Nodup)(he:DE X e fe)(hi:X.N[i]? = some x:=by rfl)(hx:Loc X.env.scope x:=by first|exact QM rfl|exact Qx rfl)(hs:QL e (some (.Name x pos')) pos.line X.env=pure false:=by rfl)
  (hf:X.fn x=true\/X.env.scope.names.lookup x=some .local:=by first|exact .inl rfl|exact .inr rfl|assumption):DS X (.Assign [.Name x pos'] e pos) (aF i fe):=by
 refine⟨?_⟩;refine bY (eL hN hi hx he.pe hs hf) fun D σ H=>?_;rintro⟨O₀,H₀,F,ts,O,ρ,T,fl,ρ',T',rs,e,q⟩;obtain⟨w,T1,e1,e⟩:=aN e;refine⟨O,ts,ρ,T,w,T1,rs.hc,rs.re,e1,fun v H1 s1 hc1 r1=>?_⟩
 cases w with
 |d x=>cases e;exact q O _ _ ((rs.step s1 hc1).set r1 fun _ z=>nomatch z)
 |tp k=>cases e;exact q O _ _ ((rs.step s1 hc1).set r1 fun _ z=>nomatch z)
 |loc xs=>cases e
theorem G4{i:Nat}{x y:Str}{scope osc:Rj}{N N':List Str}{elt iter:Expr}{ifs:List Expr}{px py spos:Pos}{it:FI}{c:FT}{f:FE}(S:CS osc N x scope N')(hN:X.N.Nodup)(hi:DI X (.Name x px) iter it)
  (he:∀C s0 H0 ex,DE (bV X x scope C s0 H0 ex N') elt f) (ht:∀C s0 H0 ex,DTs (bV X x scope C s0 H0 ex N') ifs c) (hi':X.N[i]? = some y:=by rfl) (hy:Loc X.env.scope y:=by first|exact QM rfl|exact Qx rfl)
  (hf':X.fn y=true\/X.env.scope.names.lookup y=some .local:=by first|exact .inl rfl|exact .inr rfl|assumption) (hc:X.calm=true:=by rfl) (hs:X.env.scope=osc:=by rfl) (hN':X.N=N:=by rfl)
  (hsw:QL (.ListComp elt [⟨.Name x px,iter,ifs,0⟩] scope pos) (some (.Name y py)) spos.line X.env=pure true:=by rfl) (hf:∀v,Qj iter X.env v=pure v:=by intro _;rfl) :
  DS X (.Assign [.Name y py] (.ListComp elt [⟨.Name x px,iter,ifs,0⟩] scope pos) spos) (aF i (bC it c f)):=by
 refine⟨?_⟩;subst hs hN';refine bY (F3 (wi:=tq X.K it) (tt:=liftT X.K c) (te:=lift X.K f) hc S hN hi' hy hf' hi.pe (fun C s0 H0 ex=>(he C s0 H0 ex).pe) (fun C s0 H0 ex=>(ht C s0 H0 ex).pe) hsw hf) fun D σ H=>?_;rintro⟨O₀,H₀,F,ts,O,ρ,T,fl,ρ',T',rs,e,q⟩;obtain⟨w,T1,e1,e⟩:=aN e;obtain⟨ds,T2,e2,e1⟩:=aN e1;obtain⟨ys,T3,e3,e1⟩:=aN e1;cases e1;cases e;refine⟨O,ts,ρ,T,ds,T2,rs.hc,rs.re,e2,fun J H1 s1 hc1 ok hz=>?_⟩;exact yu hc1 (rs.re.mono rs.hc s1) ok hz e3 fun vs H' s2 hc2 r2 p hp=>q O _ _ ((rs.step (s1.trans (s2.trans (.new hp _))) (hc2.new hp _)).set (hc2.newL hp r2) fun _ z=>nomatch z)
theorem gz{i:Nat}{x:Str}{pos':Pos}{es:List Expr}{lpos:Pos}{g:FA}(hN:X.N.Nodup)(he:DA X es g)(hi:X.N[i]? = some x:=by rfl)(hx:Loc X.env.scope x:=by first|exact QM rfl|exact Qx rfl)
  (hs:QL (.List es lpos) (some (.Name x pos')) pos.line X.env=pure false:=by rfl) (hf:X.fn x=true\/X.env.scope.names.lookup x=some .local:=by first|exact .inl rfl|exact .inr rfl|assumption):DS X (.Assign [.Name x pos'] (.List es lpos) pos) (cI i g):=by
 refine⟨?_⟩;refine bY (eL hN hi hx (sF he.pe) hs hf) fun D σ H=>?_;rintro⟨O₀,H₀,F,ts,O,ρ,T,fl,ρ',T',rs,e,q⟩;obtain⟨ws,T1,e1,e⟩:=aN e;refine⟨O,ts,ρ,T,ws,T1,rs.hc,rs.re,e1,fun vs H1 s1 hc1 r1=>?_⟩;split at e
 .rename_i xs h1
  split at e
  .rename_i h2
   cases e;have rv:=lu r1 h1;exact⟨nM (by rw[rv.length];exact h2),fun p hp=>q _ _ _ ((rs.step s1 hc1).own hp rv)⟩
  .cases e
 .cases e
theorem aK(hc:DT X ce c)(ha:DSs X a f)(hb:DSs X b g):DS X (.If ce a b pos) (fIf c f g):=by
 refine⟨?_⟩;refine bY (zX hc.pe ha.pe hb.pe) fun D σ H=>?_;rintro⟨O₀,H₀,F,ts,O,ρ,T,fl,ρ',T',rs,e,q⟩;obtain⟨b1,T1,e1,e⟩:=aN e;refine⟨O,ts,ρ,T,b1,T1,rs.hc,rs.re,e1,fun H1 s1 hc1=>?_⟩
 cases b1 with
 |true=>exact eW ⟨O₀,H₀,F,ts,O,ρ,T1,fl,ρ',T',rs.step s1 hc1,by simpa using e,q⟩
 |false=>exact ir ⟨O₀,H₀,F,ts,O,ρ,T1,fl,ρ',T',rs.step s1 hc1,by simpa using e,q⟩
theorem aE(he:DE X e fe):DS X (.Return (some e) pos) (aB fe):=by
 refine⟨?_⟩;refine bY (JU (sA he.pe)) fun D σ H=>?_;rintro⟨O₀,H₀,F,ts,O,ρ,T,fl,ρ',T',rs,e,q⟩;obtain⟨w,T1,e1,e⟩:=aN e;refine rs.frzG.imp fun H0 ⟨same,c0,re0⟩=>?_;refine⟨O₀,ts,bX ρ,T,w,T1,c0,re0,e1,fun v H1 s1 hc1 r1=>?_⟩
 cases w with
 |d x=>cases e;exact q v H1 (same.trans s1) hc1 r1
 |tp k=>cases e
 |loc xs=>cases e
theorem gC(he:DE X e fe)(hN:X.N[i]? = some x:=by rfl)(hv:Vis X.env.scope x:=by first|exact QM rfl|exact Qx (QM rfl)|exact Qx (Qx rfl))(hd:(x == ("__debug__" : Str))=false:=by decide)
  (hcd:(x == ("__classdict__" : Str))=false:=by decide) 
  (hbase:Q7 (.Name x p) "append" X.env (eval (.Name x p) X.env)=eval (.Name x p) X.env:=by rfl)
  (hfew:((Qg cpos (Pk [e] X.env)).all (fun x=>!x.1)&&(Rq cpos (QH [] X.env)).all (fun x=>x.1.isSome)
   && decide (([e]:List Expr).length+([]:List Rb).length+(if ([]:List Rb).isEmpty then 0 else 1)<30))=true:=by exact qg rfl)
  (hline:(apos.endLine == cpos.line)=true:=by rfl) (hse:Pk [e] X.env=(false,eval e X.env)::Pk [] X.env:=by exact bc rfl) (hplain:(Qg cpos (Pk [] X.env)).any (·.1)=false:=by exact bN rfl)
  (hs:QL (.Call (.Attribute (.Name x p) "append" apos) [e] [] cpos) none pos.line X.env=pure false:=by rfl) :
  DS X (.Expr (.Call (.Attribute (.Name x p) "append" apos) [e] [] cpos) pos) (b6 i fe):=by
 refine⟨?_⟩;refine bY (rL (lP SA PySem.F.slot_list_append PySem.F.type_list_append C6 (pv i hN hv hd hcd) (bw he.pe cG hse) hbase hfew hline hse hplain) hs) fun D σ H=>?_;rintro⟨O₀,H₀,F,ts,O,ρ,T,fl,ρ',T',rs,e,q⟩;obtain⟨w,T1,e1,e⟩:=aN e;split at e
 .rename_i x0
  split at e
  .rename_i xs h1
   split at e
   .rename_i h2
    cases e;obtain⟨v,k1,a,rfl,k2,k3,vs,k4,k5⟩:=rs.re i _ h1;refine⟨_,k1,.inl ⟨rfl,vs,SqL.of k4⟩,O,ts,ρ,T,_,_,rs.hc,rs.re,e1,fun u H1 s1 hc1 r1=>?_⟩;have rs1:=rs.step s1 hc1;exact⟨a,vs,u,rfl,rfl,s1 _ _ k3 k4,by rw[k5.length];exact h2,q O _ _ (rs1.put (us:=[]) h1 k1 ((k5.mono (rs.hc.le s1)).append (.cons r1 .nil)))⟩
   .cases e
  .cases e
 .cases e
theorem zv(ho:DE X o fo)(hk:DE X k fk)(he:DE X e fe)(ha:∀v,TH (.Subscript o k tpos) X.env v=(do
   let ov ←Ue [v] (eval o X.env)
   let iv ←Ue [v,ov] (eval k X.env)
   Yj tpos
   Ue [v,ov,iv] (Yi ov iv v)
   release [v,ov,iv] []):=by intro _;rfl)
  (hs:Up [.Subscript o k tpos] e pos.line X.env=pure false:=by rfl) (hw:Uq [.Subscript o k tpos] e X.env=pure none:=by rfl)
  (h1:(R5 [.Subscript o k tpos] X.env).map (·.2)=[TH (.Subscript o k tpos) X.env]:=by rfl):DS X (.Assign [.Subscript o k tpos] e pos) (mz fo fk fe):=by
 refine⟨?_⟩;refine bY (sD he.pe (H8 ho.pe hk.pe set_list ha) hs hw h1) fun D σ H=>?_;rintro⟨O₀,H₀,F,ts,O,ρ,T,fl,ρ',T',rs,e,q⟩;obtain⟨w,T1,e1,e⟩:=aN e;obtain⟨wo,T2,e2,e⟩:=aN e;obtain⟨wk,T3,e3,e⟩:=aN e;refine⟨O,ts,ρ,T,w,T1,rs.hc,rs.re,e1,fun v H1 s1 hc1 r1=>?_⟩;have rs1:=rs.step s1 hc1;refine⟨O,ts,ρ,T1,wo,T2,hc1,rs1.re,e2,fun vo H2 s2 hc2 r2=>?_⟩;have rs2:=rs1.step s2 hc2;refine⟨O,ts,ρ,T2,wk,T3,hc2,rs2.re,e3,fun vk H3 s3 hc3 r3=>?_⟩;have rs3:=rs2.step s3 hc3;split at e
 .split at e
  .rename_i xs h1
   split at e
   .cases e
   .rename_i hn
    split at e
    .rename_i j h2
     cases e;obtain⟨a,k1,rfl⟩:=r2;cases (show Rep X.K O H3 vk (.int _) from r3);obtain⟨vs,k2,k3⟩:=(hc3.tape _ a xs k1 h1).lst (by simpa using hn);refine⟨a,vs,_,j,rfl,rfl,k2,by rw[k3.length];exact h2,q O _ _ (rs3.tape k1 (Reps.set ?_ j k3))⟩;exact Rep.mono ((hc1.le s2).trans (hc2.le s3)) r1
    .cases e
  .cases e
 .cases e
end
section
variable {K:Frag}{O₀:Addr->Prop}{H₀:Hp}{F:List ((Addr->Prop)×Hp)}{ts:List Addr}{O:Addr->Prop}{H H1:Hp}{σ:L2.St}{ρ:Rho}{T T1:Tp}
theorem RS.less(r:RS K O₀ H₀ (f::F) ts O H σ ρ T):RS K O₀ H₀ F ts O H σ ρ T:=⟨r.hc,r.re,r.sub,r.ots,r.same,r.fresh,r.dist,fun f hf=>r.frs f (Pg _ hf),r.len⟩
theorem RS.more(r:RS K O₀ H₀ F ts O H σ ρ T):RS K O₀ H₀ ((O,H)::F) ts O H σ ρ T:=⟨r.hc,r.re,r.sub,r.ots,r.same,r.fresh,r.dist,fun f hf=>by
 rcases Pt.mp hf with z|z
 .subst z;exact fun a o n e=>⟨n,e⟩
 .exact r.frs f z,r.len⟩
noncomputable def frzAt(i:Nat)(ρ:Rho):Rho:=match ρ[i]? with
 |some (some (.loc x))=>ρ.set i (some (.d x))
 |_=>ρ
theorem RS.frzAt(i:Nat)(r:RS K O₀ H₀ F ts O H σ ρ T):Gh (fun H'=>∃O',RS K O₀ H₀ F ts O' H' σ (frzAt i ρ) T) H:=by
 unfold D.frzAt;split
 .rename_i xs h1
  by_cases hd:∃ds,xs=.dict ds
  .obtain⟨ds,rfl⟩:=hd
   obtain⟨a,kvs,e1,f⟩:=r.frzD h1;exact .frz e1 fun o=>.done ⟨_,f o⟩
  refine .done ?_;obtain⟨v,k1,a,rfl,k2,k3,k4⟩:=r.re i _ h1;have hl:i<ρ.length:=(Ph.mp h1).1;have le:Le O H (fun b=>O b/\b≠a) H:=fun b o n e=>⟨fun z=>n z.1,e⟩;have fr:=r.fresh i xs a h1 k1
  have hw:∀ys,W.d xs≠.loc ys:=fun _ z=>nomatch z
  refine⟨fun b=>O b/\b≠a,⟨fun b hb=>⟨r.hc.own b hb,fun z=>k3 (z ▸ hb)⟩,fun b hb=>r.hc.trk b hb.1,r.hc.nd,r.hc.len,fun j b ys e1 e2=>?_⟩,fun j w e=>?_,fun b hb=>⟨r.sub b hb,fun z=>fr.2 (z ▸ hb)⟩,r.ots,r.same,fun j ys b e1 e2=>?_,fun j k ys zs v e1 e2 e3 e4=>?_,fun f hf=>(r.frs f hf).trans le,by simp[r.len]⟩
  .exact(r.hc.tape j b ys e1 e2).mono (fun _ h=>h) le
  .by_cases z:i=j
   .subst z
    rw[Pv hl] at e;cases e;refine⟨.ref a,k1,?_⟩
    cases xs with
    |list xs=>obtain⟨vs,k4,k5⟩:=k4;exact .lst (.inl ⟨fun z=>z.2 rfl,.inl k4⟩) (k5.mono le)
    |dict xs=>exact absurd ⟨xs,rfl⟩ hd
    |_=>cases k4
   .rw[Pj z] at e
    obtain⟨x,q1,q2⟩:=r.re j w e;refine⟨x,q1,?_⟩
    cases w with
    |d y=>exact Rep.mono le q2
    |tp k=>exact q2
    |loc ys=>
     obtain⟨b,eb,m1,m2,m3⟩:=q2;refine⟨b,eb,⟨m1,fun q=>z (r.dist i j xs ys (.ref a) h1 e k1 (by rw[q1,eb,q]))⟩,m2,m3.mono (fun _ q=>q) le⟩
  .obtain⟨n,e⟩:=eI hw e1
   exact r.fresh j ys b e e2
  .obtain⟨n1,e1⟩:=eI hw e1
   obtain⟨n2,e2⟩:=eI hw e2;exact r.dist j k ys zs v e1 e2 e3 e4
 .exact .done ⟨O,r⟩
end
def qh(i:Nat)(f:FS):FS:=fun ρ T=>f (frzAt i ρ) T
section
variable {X:Cx}{pos:Pos}{st:Stmt}{rest:List Stmt}{f g:FS}{e:Expr}{fe:FE}{c:FT}
theorem GZ(i:Nat)(h:DSs X rest f):DSs X rest (qh i f):=by
 refine⟨?_⟩;refine jE (HY h.pe) fun D σ H=>?_;rintro⟨O₀,H₀,F,ts,O,ρ,T,fl,ρ',T',rs,e,q⟩;exact(rs.frzAt i).imp fun H' ⟨O',rs'⟩=>⟨O₀,H₀,F,ts,O',_,T,fl,ρ',T',rs',e,q⟩
theorem dY(hN:X.N.Nodup)(hi:DI X (.Name x tpos) iter it)(hb:DSs X body f)(hix:X.N[i]? = some x:=by rfl)(hx:Loc X.env.scope x:=by first|exact QM rfl|exact Qx rfl)
  (hf:X.fn x=true\/X.env.scope.names.lookup x=some .local:=by first|exact .inl rfl|exact .inr rfl|assumption) (hp:UA (PX X.prog X.w) X.A X.env X.xe:=by exact Tg) (hc:X.calm=true:=by rfl)
  (hs:∀x,Qj iter X.env x=pure x:=by intro _;rfl):DS X (.For (.Name x tpos) iter body [] pos) (bH i it f):=by
 refine⟨?_⟩;refine bY (sC hp hc hi.pe (fQ hN hix hx hf) hb.pe hs) fun D σ H=>?_;rintro⟨O₀,H₀,F,ts,O,ρ,T,fl,ρ',T',rs,e,q⟩;obtain⟨ds,T1,e1,e⟩:=aN e;refine⟨O,ts,ρ,T,ds,T1,rs.hc,rs.re,e1,fun J H1 s1 hc1 ok hz=>?_⟩;refine⟨fun k m σ H=>m=ds.length-k/\k<=ds.length/\∃O' ρk Tk,RS X.K O₀ H₀ ((O,H1)::F) ts O' H σ ρk Tk/\forL i f (ds.drop k) ρk Tk=some ((fl,ρ'),T'),⟨_,rfl,QE _,O,ρ,T1,(rs.step s1 hc1).more,e⟩,?_⟩;rintro k m σ2 H2 ⟨rfl,hk,O',ρk,Tk,rs2,ek⟩;obtain⟨k1,k2,k3⟩:=ok O' H2 (rs2.frs _ Pi)
 by_cases hlt:k<ds.length
 .refine .inr ⟨k1 k hlt,fun σ3 H3=>∃O' ρk Tk,RS X.K O₀ H₀ ((O,H1)::F) ts O' H3 σ3 ρk Tk/\forL i f (ds.drop (k+1)) ρk Tk=some ((fl,ρ'),T'),fun σ3 H3 n=>⟨ds.length-(k+1),by omega,rfl,hlt,n⟩,fun v H3 y=>?_⟩
  obtain⟨e2,d,hd,rd⟩:=k3 k v H3 y hlt;subst e2
  have hdr:ds.drop k=d::ds.drop (k+1):=by
   rw[Ql hlt];have:=(Ph.mp hd).2;rw[this]
  rw[hdr] at ek;obtain⟨⟨fl1,ρ1⟩,T3,e3,ek⟩:=aN ek;refine⟨O₀,H₀,(O,H1)::F,ts,O',_,Tk,fl1,ρ1,T3,rs2.set (i:=i) (w:=.d d) rd (fun _ z=>nomatch z),e3,?_⟩
  cases fl1 with
  |nx=>exact fun O3 σ3 H3 rs3=>⟨O3,ρ1,T3,rs3,ek⟩
  |ct=>exact fun O3 σ3 H3 rs3=>⟨O3,ρ1,T3,rs3,ek⟩
  |bk=>
   cases ek;exact fun O3 σ3 H3 rs3=>q O3 σ3 H3 rs3.less
  |rt x=>
   cases ek;exact q
  |ro x=>
   cases ek;exact q
 .have e:k=ds.length:=by omega
  subst e;rw[QN (Pm _)] at ek;cases ek;exact .inl ⟨k2,q O' σ2 H2 rs2.less⟩
theorem jA(n:Nat)(hc:DT X ce c)(hb:DSs X body f)(hp:UA (PX X.prog X.w) X.A X.env X.xe:=by exact Tg):DS X (.While ce body [] pos) (bi c f n):=by
 refine⟨?_⟩;refine bY (Ek hp hc.pe hb.pe) fun D σ H=>?_;rintro⟨O₀,H₀,F,ts,O,ρ,T,fl,ρ',T',rs,e,q⟩;refine⟨fun m σ H=>∃O' ρm Tm,RS X.K O₀ H₀ F ts O' H σ ρm Tm/\bi c f m ρm Tm=some ((fl,ρ'),T'),⟨n,O,ρ,T,rs,e⟩,?_⟩;rintro m σ2 H2 ⟨O',ρm,Tm,rs2,em⟩
 cases m with
 |zero=>cases em
 |succ m=>
  obtain⟨b,T3,e3,em⟩:=aN em;refine⟨O',ts,ρm,Tm,b,T3,rs2.hc,rs2.re,e3,fun H3 s3 hc3=>?_⟩;have rs3:=rs2.step s3 hc3
  cases b with
  |false=>
   rw[if_neg Pu] at em;cases em;exact ir (q O' σ2 H3 rs3)
  |true=>
   rw[if_pos rfl] at em;obtain⟨⟨fl1,ρ1⟩,T4,e4,em⟩:=aN em;refine eW ⟨fun σ3 H3=>∃O' ρm Tm,RS X.K O₀ H₀ F ts O' H3 σ3 ρm Tm/\bi c f m ρm Tm=some ((fl,ρ'),T'),fun σ3 H3 n=>⟨m,UG m,n⟩,O₀,H₀,F,ts,O',ρm,T3,fl1,ρ1,T4,rs3,e4,?_⟩
   cases fl1 with
   |nx=>exact fun O3 σ3 H3 rs3=>⟨O3,ρ1,T4,rs3,em⟩
   |ct=>exact fun O3 σ3 H3 rs3=>⟨O3,ρ1,T4,rs3,em⟩
   |bk=>
    cases em;exact fun O3 σ3 H3 rs3=>q O3 σ3 H3 rs3
   |rt x=>
    cases em;exact q
   |ro x=>
    cases em;exact q
end
abbrev FnM:=List W->Tp->Option (Pa×Tp)
def cC:List W->Bool
 |[]=>true
 |.loc _::_=>false
 |_::r=>cC r
def df(o:Option ((Fl×Rho)×Tp)):Option (Pa×Tp):=bnd o fun p T=>match p with
 |(.rt x,_)=>some (x,T)
 |(.nx,_)=>some (.none,T)
 |_=>none
def aP(N:Nat)(f:FS):FnM:=fun ws T=>if cC ws=true then df (f (ws.map some++PC (N-ws.length) none) T) else none
inductive SpMP(K:Frag)(n:Nat)(m:FnM)(vs:List V)(H:Hp)(Q:VK):Prop where
 |mk (O:Addr->Prop) (ts:List Addr) (T:Tp) (ws:List W) (x:Pa) (T':Tp) (hc:HC K O ts H T) (r:fF K O ts H vs ws) (hl:ws.length=n) (e:m ws T=some (x,T')) (q:∀v H',SameX ts H H'->HC K O ts H' T'->Rep K O H' v x->Q v H'):SpMP K n m vs H Q
def spM(K:Frag)(n:Nat)(m:FnM):Sp:=fun vs H Q _=>SpMP K n m vs H Q
theorem mS{K:Frag}{O:Addr->Prop}{ts:List Addr}{H:Hp}:∀{vs:List V}{ws:List W}{i:Nat}{w:W},fF K O ts H vs ws->ws[i]? = some w->∃v,vs[i]? = some v/\RepW K O ts H v w
 |_,_,_,_,.nil,e=>by simp at e
 |_,_,0,_,.cons r _,e=>by simp at e;subst e;exact⟨_,rfl,r⟩
 |_,_,i+1,w,.cons _ t,e=>by
  obtain⟨d,h1,h2⟩:=mS (i:=i) (w:=w) t (by simpa using e);exact⟨d,by simpa using h1,h2⟩
theorem kN:∀{ws:List W}{xs:Pa},cC ws=true->W.loc xs∉ws
 |[],_,_,h=>by cases h
 |.loc _::_,_,e,_=>by cases e
 |.d _::r,_,e,h=>by
  rcases Pt.mp h with z|z
  .cases z
  .exact kN (ws:=r) e z
 |.tp _::r,_,e,h=>by
  rcases Pt.mp h with z|z
  .cases z
  .exact kN (ws:=r) e z
theorem ju{ws:List W}{n i:Nat}{w:W}(e:(ws.map some++PC n none)[i]? = some (some w)):ws[i]? = some w:=by
 by_cases h:i<ws.length
 .rw[PF (by simpa using h),Qd] at e
  cases q:ws[i]? with
  |none=>rw[q] at e;cases e
  |some u=>rw[q] at e;cases e;rfl
 .rw[QX (by simpa using h)] at e
  have:=P8 e;rw[List.mem_replicate] at this;cases this.2
theorem dfn{P:Px}{w:PY}{K:Frag}{mg:Str->Option Pb}{base:Heap}{x qual:Str}{st:Stmt}{f:Addr}{fd:QQ}{N ps:List Str}{k:Nat}{m:FS}(F:Fun K x qual st f fd)(S:FnScope N ps (bh st))
  (hbody:∀(cdv:Pb) (A:PZ) (outer:List Env) (s:Pf) (H:Hp) (E:XK),Room k (A.deeper (Rx qual (bh st) s.heap.objs.size f cdv))->DSs (cw CX0 P w K mg base N qual (bh st) f cdv A outer s H E).nox (cj st) m) :
  FnOk P w K mg base CX0 (k+1) f fd ps (spM K ps.length (aP N.length m)):=by
 refine F.ok S (fun vs H Q E h=>?_) (fun cdv A outer s H vs Q E hr h=>⟨_,(hbody cdv A outer s H E hr).pe,?_⟩)
 .obtain⟨O,ts,T,ws,x,T',hc,rw',hl,_⟩:=h
  rw[←hl];exact Q5 rw'
 obtain⟨O,ts,T,ws,x,T',hc,rw',hl,e,q⟩:=h;unfold aP at e;split at e
 .rename_i hn
  obtain⟨⟨fl,ρ'⟩,T1,e1,e⟩:=aN e;have hlen:vs.length=ws.length:=Q5 rw';have noL:∀{i:Nat}{xs:Pa},(ws.map some++PC (N.length-ws.length) none)[i]? = some (some (W.loc xs))->False:=fun {i xs} e=>kN hn (P8 (ju e));refine⟨O,H,[],ts,O,_,T,fl,ρ',T1,⟨hc,fun i u e=>?_,fun _ h=>h,hc.own,.refl _ _,fun i xs a e1 _=>(noL e1).elim,fun i j xs ys v e1 _ _ _=>(noL e1).elim,fun f hf=>absurd hf (by simp),by simp[L2.start,hlen]⟩,e1,?_⟩
  .obtain⟨v,h1,h2⟩:=mS rw' (ju e)
   refine⟨v,?_,h2⟩;unfold L2.start;have hi:i<vs.length:=(Ph.mp h1).1;rw[PF (by simpa using hi),Qd,h1];rfl
  .cases fl with
   |rt y=>cases e;exact fun v H' s1 c1 r1=>q v H' s1 c1 r1
   |nx=>
    cases e;exact fun O' σ' H' rs=>q _ _ rs.same rs.frzH .non
   |bk=>cases e
   |ct=>cases e
   |ro y=>cases e
 .cases e
def au(m:FnM)(g:FA):FE:=fun ρ T=>bnd (g ρ T) fun ws T1=>bnd (m ws T1) fun x T2=>some (.d x,T2)
def dQ(g:FA)(n:Nat):Prop:=∀ρ T ws T',g ρ T=some (ws,T')->ws.length=n
theorem bU:dQ ah 0:=fun ρ T ws T' e=>by cases e;rfl
theorem aW(h:dQ g n):dQ (ae f g) (n+1):=fun ρ T ws T' e=>by
 obtain⟨w1,T1,e1,e⟩:=aN e;obtain⟨ws,T2,e2,e⟩:=aN e;cases e;rw[PH,h _ _ _ _ e2]
theorem lF(F:Fn X.prog X.w X.K X.mg X.base name ps k (spM X.K ps.length m))(hr:Room k X.A)(hg:Gl X name)(ha:DA X (e::es) g)(hl:dQ g ps.length)(hdb:(name == ("__debug__" : Str))=false:=by decide)
  (he:Pk (e::es) X.env=(false,eval e X.env)::Pk es X.env:=by exact bc rfl) (hpl:(Qg pos (Pk es X.env)).any (·.1)=false:=by exact bN rfl):DE X (.Call (.Name name p) (e::es) [] pos) (au m g):=by
 refine⟨?_⟩;refine pe_imp (i7 F hr hg ha.pe hdb he hpl) fun σ H Q=>?_;rintro⟨O,ts,ρ,T,w,T',hc,re,e,q⟩;obtain⟨ws,T1,e1,e⟩:=aN e;obtain⟨x,T2,e2,e⟩:=aN e;cases e;refine⟨O,ts,ρ,T,ws,T1,hc,re,e1,fun vs H1 s1 hc1 r1=>?_⟩;refine⟨O,ts,T1,ws,x,_,hc1,by rw[Qv];exact r1,hl _ _ _ _ e1,e2,fun v H2 s2 hc2 r2=>q v H2 (s1.trans s2) hc2 r2⟩
noncomputable def iop(g:Int->Int->Option Pa):Pa->Pa->Option Pa
 |.int i,.int j=>g i j
 |_,_=>none
def fG:Pa->Pa->Option PyData:=iop fun i j=>some (.int (i-j))
def gJ:Pa->Pa->Option PyData:=iop fun i j=>if 0<j then some (.int (i % j)) else none
def KF:Pa->Pa->Option PyData:=iop fun i j=>if 0<j/\j<1073741824 then some (.int (i / j)) else none
def fH:Pa->Pa->Option PyData:=iop fun i j=>if 0<=j/\j<=1000000/\i.natAbs<2^64 then some (.int (i^j.toNat)) else none
def ltD:Pa->Pa->Option PyData:=iop fun i j=>some (.bool (decide (i<j)))
def leD:Pa->Pa->Option PyData:=iop fun i j=>some (.bool (decide (i<=j)))
def gtD:Pa->Pa->Option PyData:=iop fun i j=>some (.bool (decide (j<i)))
def geD:Pa->Pa->Option PyData:=iop fun i j=>some (.bool (decide (j<=i)))
theorem zg(e:iop g x y=some d):∃i j,x=.int i/\y=.int j/\g i j=some d:=by
 unfold iop at e;split at e
 .exact⟨_,_,rfl,rfl,e⟩
 .cases e
theorem sv{K:Frag}{C:Int->Int->Prop}{g:Int->Int->V}{gd:Int->Int->Option Pa}(h:∀i j d,gd i j=some d->C i j/\∀O H,Rep K O H (g i j) d):iB K (rI C g) (iop gd):=fun O ts H T v1 v2 x y d Q hc h1 h2 e q=>by
 obtain⟨i,j,rfl,rfl,e⟩:=zg e;obtain⟨c,r⟩:=h i j d e;exact⟨i,j,h1.int,h2.int,c,q _ H (.refl _ _) hc (r O H)⟩
theorem lz{K:Frag}{g:Int->Int->V}{gd:Int->Int->Option Pa}(h:∀i j d,gd i j=some d->∀O H,Rep K O H (g i j) d):iB K (rI0 g) (iop gd):=fun O ts H T v1 v2 x y d Q hc h1 h2 e q=>by
 obtain⟨i,j,rfl,rfl,e⟩:=zg e;exact⟨i,j,h1.int,h2.int,q _ H (.refl _ _) hc (h i j d e O H)⟩
section
variable {X:Cx}
theorem i8:OpD X (QU .Sub) fG:=⟨_,Ig,lz fun i j d e O H=>by cases e;exact .int _⟩
theorem i9:OpD X (QU .Mod) gJ:=⟨_,Ij,sv fun i j d e=>by
 split at e
 .rename_i h;cases e;exact⟨h,fun _ _=>.int _⟩
 .cases e⟩
theorem j4:OpD X (QU .Pow) fH:=⟨_,Ih,sv fun i j d e=>by
 split at e
 .rename_i h;cases e;exact⟨h,fun _ _=>.int _⟩
 .cases e⟩
theorem dM:OpD X (PU .Lt) ltD:=⟨_,J3,lz fun i j d e O H=>by cases e;exact .bl _⟩
theorem d8:OpD X (PU .LtE) leD:=⟨_,J4,lz fun i j d e O H=>by cases e;exact .bl _⟩
theorem iq:OpD X (PU .Gt) gtD:=⟨_,J7,lz fun i j d e O H=>by cases e;exact .bl _⟩
theorem Lf:OpD X (PU .GtE) geD:=⟨_,J8,lz fun i j d e O H=>by cases e;exact .bl _⟩
noncomputable def aV:Pa->Pa->Option Pa
 |.int i,.int j=>some (.int (i+j))
 |.str x,.str y=>if x.length+y.length<=Pp then some (.str (x++y)) else none
 |.tuple xs,.tuple ys=>if xs.length+ys.length<=Pp then some (.tuple (xs++ys)) else none
 |.list xs,.list ys=>if xs.length+ys.length<=Pp then some (.list (xs++ys)) else none
 |_,_=>none
def JS(K:Frag):R2:=fun x y H Q=>∃l b xs zs,x=.ref l/\y=.ref b/\SqL K H l xs/\SqL K H b zs/\xs.length+zs.length<=Pp/\∀p,H p=none->Q (.ref p) (upd H p (.lst (xs++zs)))
theorem xw:OpR X (QU .Add) (JS X.K):=by
 intro pins s σ H x y v u Q I rx ry h;obtain⟨l,b,xs,zs,rfl,rfl,hH,hB,hz,q⟩:=h;cases rx;cases ry;obtain⟨its,r,p1,_⟩:=I.list hH;obtain⟨its2,r2,p2,_⟩:=I.list hB;have hl:=r.length;have hl2:=r2.length;obtain⟨⟨cls,dd,data,sl⟩,ho,hc,n,hd⟩:=id p1.isList;obtain⟨⟨cls2,dd2,data2,sl2⟩,ho2,hc2,n2,hd2⟩:=id p2.isList;simp only at hc hd hc2 hd2;subst hc hd hc2 hd2
 have ea:its.toArray++its2.toArray=(its++its2).toArray:=by simp
 refine UV ⟨_,ho,rfl⟩ ⟨_,ho2,rfl⟩ noFill_list_add seq_list_add PySem.F.slot_list_add PySem.F.entry_list_add (PySem.F.args_list_add_2 _ _) (list_addW l b its.toArray its2.toArray n n2 dd dd2 sl sl2 (by rw[Pr,Pr];omega)) ⟨ho,ho2,?_⟩;rw[ea];exact⟨.ref _,_,I.lnew (t':=s.toks) (r.append r2) (by rw[PN];omega),rfl,q _ I.fresh⟩
theorem bt:OpD X (QU .Add) aV:=by
 refine⟨_,op_add.or (op_add_str.or (op_catG.or xw)),fun O ts H T v1 v2 x y d Q hc h1 h2 e q=>?_⟩;unfold aV at e;split at e
 .cases e
  exact .inl ⟨_,_,h1.int,h2.int,q _ H (.refl _ _) hc (.int _)⟩
 .split at e
  .rename_i hz
   cases e;exact .inr (.inl ⟨_,_,h1.str,h2.str,hz,q _ H (.refl _ _) hc (.str _)⟩)
  .cases e
 .split at e
  .rename_i xs ys hz
   cases e;obtain⟨a,vs,rfl,t1,r1⟩:=h1.tup;obtain⟨b,us,rfl,t2,r2⟩:=h2.tup;refine .inr (.inr (.inl ⟨a,b,vs,us,rfl,rfl,t1.sq,t2.sq,by rw[r1.length,r2.length];exact hz,fun z=>?_,fun _ z=>?_,fun _ _ p hp=>?_⟩))
   .subst z
    cases r1;exact q _ H (.refl _ _) hc (.tup t2 r2)
   .subst z
    cases r2;rw[Qv] at q;exact q _ H (.refl _ _) hc (.tup t1 r1)
   .exact q _ _ (.new hp _) (hc.new hp _) (hc.newT hp (r1.append r2))
  .cases e
 .split at e
  .rename_i xs ys hz
   cases e;obtain⟨a,vs,rfl,t1,r1⟩:=h1.lst;obtain⟨b,us,rfl,t2,r2⟩:=h2.lst;exact .inr (.inr (.inr ⟨a,b,vs,us,rfl,rfl,t1,t2,by rw[r1.length,r2.length];exact hz,fun p hp=>q _ _ (.new hp _) (hc.new hp _) (hc.newL hp (r1.append r2))⟩))
  .cases e
 .cases e
theorem Bp:fillsNumberSlot (.type "tuple") "mul"=pure false:=PySem.fillsNumberSlot_seq (id:="tuple.__mul__") (r:=some (.builtin "tuple.__rmul__")) SM.lookup (by decide +kernel) UL.lookup (by decide +kernel)
theorem BP:seqRepeat? (.type "tuple")=pure (some (.builtin "tuple.__mul__")):=by
 unfold seqRepeat?;rw[Wy (T:="tuple") (name:="__mul__") (id:="tuple.__mul__") SM.lookup (by decide +kernel),Wy (T:="tuple") (name:="__rmul__") (id:="tuple.__rmul__") UL.lookup (by decide +kernel)];rfl
theorem Bx(a:Int)(t:Tok)(l:Addr)(items:Array Pb)(n:Nat)(dd:Option Addr)(sl:Array (Option Pb)) :
  Meets (SN.«int.__rmul__» ⟨[.int a t,.ref l],[]⟩) (fun _ R s=>s.heap.get? l=some { cls:=.type "tuple",dict:=dd,data:=.seq items n,slots:=sl }/\R (.ok (.ret Value.notImplemented)) s):=.of_wp fun prog w A R s h=>by obtain⟨hp,g,d,tk,os⟩:=s;obtain⟨hl,h⟩:=h;wp_walk;exact⟨_,rfl,h⟩
theorem Cn(l:Addr)(items:Array Pb)(n:Nat)(dd:Option Addr)(sl:Array (Option Pb))(k:Int)(t:Tok)(h1:2<=k)(h2:k<=1000)(h3:items.isEmpty=false)(h4:items.size<=1000) :
  Meets (SN.«tuple.__mul__» ⟨[.ref l,.int k t],[]⟩) (fun _ R s=>s.heap.get? l=some { cls:=.type "tuple",dict:=dd,data:=.seq items n,slots:=sl }/\R (.ok (.ret (PJ s.heap.objs.size))) { s with heap:=s.heap.push { cls:=Sr "tuple",data:=Data.seq (TV (fun x1 x2=>x1++x2) #[] (PC k.toNat items)) },toks:=s.toks }):=
 .of_wp fun prog w A R s h=>by
  obtain⟨hp,g,d,tk,os⟩:=s;obtain⟨hl,h⟩:=h
  have hc0:¬(decide (k < -(2^63))||decide (k>=2^63))=true:=by simp;omega
  have hc1:¬(items.isEmpty||k == 1)=true:=by rw[h3];simp;omega
  have hc2:¬(decide (k<=0)||items.isEmpty)=true:=by rw[h3];simp;omega
  have hm:items.size*k.toNat<=1000*1000:=Vs h4 (by omega)
  have hm':(items.size:Int)*k<=1000000:=by
   have e:((items.size*k.toNat:Nat):Int)=(items.size:Int)*k:=by rw[Int.natCast_mul,Int.toNat_of_nonneg (by omega)]
   omega
  have hc3:¬(items.size:Int)*k>(2^63-1) / 8:=by
   have:(1000000:Int)<=(2^63-1) / 8:=by decide
   omega
  have hc4:¬TZ ((items.size:Int)*k)=true:=by
   unfold TZ
   have:Pp=16777216:=by decide
   simp;omega
  have ht:Vm hp l items:=⟨_,hl,rfl,n,rfl⟩;wp_walk;rw[if_neg hc0];dsimp only;refine Pd (VN ht ?_);rw[if_neg hc1,if_neg hc2,if_neg hc3,if_neg hc4]
  have fit:sizeOk (.seq (TV (fun x1 x2=>x1++x2) #[] (PC k.toNat items))):=by
   show (TV (fun x1 x2=>x1++x2) #[] (PC k.toNat items)).size<=Pp;have q:=foldl_rep items.toList k.toNat [];rw[So] at q
   have q':TV (fun x1 x2=>x1++x2) #[] (PC k.toNat items)=(PC k.toNat items.toList).flatten.toArray:=by simpa using q
   rw[q',Pr,len_rep]
   have:Pp=16777216:=by decide
   rw[Q0,Nat.mul_comm];omega
  first
  |exact Pd (m:=QR _) (Qn (Pw ⟨_,rfl,h⟩) fit)
  |exact Pd (m:=QR _) (Qn (Pd (Pw (Pw ⟨_,rfl,h⟩))) fit)
theorem Gd:OpR X (QU .Mult) (fun x y H Q=>∃a k xs,x=.ref a/\y=.int k/\SqT X.K H a xs/\2<=k/\k<=1000/\xs≠[]/\xs.length<=1000/\∀p,H p=none->Q (.ref p) (upd H p (.tup (PC k.toNat xs).flatten))):=by
 intro pins s σ H x y v u Q I rx ry h;obtain⟨a,k,xs,rfl,rfl,hq,h1,h2,h3,h4,q⟩:=h;cases rx;obtain⟨t,rfl⟩:=ry;obtain⟨its,r,p1,_⟩:=I.tuple hq;have hl:=r.length;have hv:its≠[]:=fun z=>h3 (r.nil_iff.mp z);obtain⟨⟨cls,dd,data,sl⟩,ho,hc,n,hd⟩:=id p1;simp only at hc hd;subst hc hd
 have hnew:TV (fun x1 x2=>x1++x2) #[] (PC k.toNat its.toArray)=(PC k.toNat its).flatten.toArray:=by
  have q:=foldl_rep its k.toNat [];rw[So] at q;exact q
 have he:its.toArray.isEmpty=false:=by
  cases its with
  |nil=>exact absurd rfl hv
  |cons _ _=>simp
 refine wpAny_binaryOp_repeat_ref (T:="tuple") (U:="int") (by decide) ⟨_,ho,rfl⟩ (fun s'=>Xe s' k t) Bp F.fills_int_mul WU BP F.slot_int_index.lookup
  (TX WU (Xe s k t) F.entry_int_rmul (F.args_int_rmul_2 _ _) (Bx k t a its.toArray n dd sl)
   ⟨ho,rfl,⟨_,ho,rfl⟩,TX SM ⟨_,ho,rfl⟩ PySem.F.entry_tuple_mul (PySem.F.args_tuple_mul_2 _ _) (Cn a its.toArray n dd sl k t h1 h2 he (by rw[Pr];omega)) ⟨ho,?_⟩⟩)
 rw[hnew];refine⟨.ref s.heap.objs.size,_,I.laid (t':=s.toks) (o:=.tup (PC k.toNat xs).flatten) (fun b ob q=>Pe _ q) (Pm _) ?_,rfl,q _ (I.hok.fresh (Pm _))⟩;refine⟨?_,_,r.rep k.toNat,UC _ _⟩;rw[len_rep];have:k.toNat*xs.length<=1000*1000:=Vs (by omega) h4
 have:Pp=16777216:=by decide
 omega
noncomputable def eU:Pa->Pa->Option Pa
 |.int i,.int j=>if (-(2^64)<i/\i<2^64)\/(-(2^64)<j/\j<2^64) then some (.int (i*j)) else none
 |.str z,.int k=>if 0<=k/\k<=2000/\z.length<=1000 then some (.str (Tt z k)) else none
 |.tuple xs,.int k=>if 2<=k/\k<=1000/\xs.isEmpty=false/\xs.length<=1000 then some (.tuple (PC k.toNat xs).flatten) else none
 |_,_=>none
theorem j6:OpD X (QU .Mult) eU:=by
 refine⟨_,op_mul.or (op_mulS.or Gd),fun O ts H T v1 v2 x y d Q hc h1 h2 e q=>?_⟩;unfold eU at e;split at e
 .split at e
  .rename_i hz
   cases e;exact .inl ⟨_,_,h1.int,h2.int,hz,q _ H (.refl _ _) hc (.int _)⟩
  .cases e
 .split at e
  .rename_i hz
   cases e;exact .inr (.inl ⟨_,_,h1.str,h2.int,hz.1,hz.2.1,hz.2.2,q _ H (.refl _ _) hc (.str _)⟩)
  .cases e
 .split at e
  .rename_i xs k hz
   cases e;obtain⟨a,vs,rfl,t1,r1⟩:=h1.tup;exact .inr (.inr ⟨a,_,vs,rfl,h2.int,t1.sq,hz.1,hz.2.1,fun z=>by subst z;cases r1;exact absurd hz.2.2.1 (by simp),by rw[r1.length];exact hz.2.2.2,fun p hp=>q _ _ (.new hp _) (hc.new hp _) (hc.newT hp (r1.rep _))⟩)
  .cases e
 .cases e
noncomputable def eqS:Pa->Pa->Option Bool
 |.int i,.int j=>some (decide (i=j))
 |.str x,.str y=>some (decide (x=y))
 |.bool a,.bool b=>some (decide (a=b))
 |.none,.none=>some true
 |.none,.int _=>some false | .int _,.none=>some false | .none,.bool _=>some false | .bool _,.none=>some false | .none,.str _=>some false | .str _,.none=>some false
 |.int _,.str _=>some false | .str _,.int _=>some false | .bool _,.str _=>some false | .str _,.bool _=>some false
 |_,_=>none
theorem zt{K:Frag}{O:Addr->Prop}{H:Hp}{v1 v2:V}{x y:Pa}{b:Bool}(h1:Vw K O H v1 x)(h2:Vw K O H v2 y)(e:eqS x y=some b):tL v1 v2=true/\decide (v1=v2)=b:=by
 unfold eqS at e;split at e
 all_goals first|(cases e;done)|skip
 .cases h1.int;cases h2.int;cases e;exact⟨rfl,by simp⟩
 .cases h1.str;cases h2.str;cases e;exact⟨rfl,by simp⟩
 .cases h1.bl;cases h2.bl;cases e;exact⟨rfl,by simp⟩
 .cases h1.non;cases h2.non;cases e;exact⟨rfl,by simp⟩
 .cases h1.non;cases h2.int;cases e;exact⟨rfl,by simp⟩
 .cases h1.int;cases h2.non;cases e;exact⟨rfl,by simp⟩
 .cases h1.non;cases h2.bl;cases e;exact⟨rfl,by simp⟩
 .cases h1.bl;cases h2.non;cases e;exact⟨rfl,by simp⟩
 .cases h1.non;cases h2.str;cases e;exact⟨rfl,by simp⟩
 .cases h1.str;cases h2.non;cases e;exact⟨rfl,by simp⟩
 .cases h1.int;cases h2.str;cases e;exact⟨rfl,by simp⟩
 .cases h1.str;cases h2.int;cases e;exact⟨rfl,by simp⟩
 .cases h1.bl;cases h2.str;cases e;exact⟨rfl,by simp⟩
 .cases h1.str;cases h2.bl;cases e;exact⟨rfl,by simp⟩
def eqD(x y:Pa):Option PyData:=(eqS x y).map .bool
def neD(x y:Pa):Option PyData:=(eqS x y).map fun b=>.bool (!b)
theorem aT:OpD X (PU .Eq) eqD:=⟨_,J9,fun O ts H T v1 v2 x y d Q hc h1 h2 e q=>by
 unfold eqD at e;obtain⟨b,e1,rfl⟩:=P7.mp e;obtain⟨k1,k2⟩:=zt h1 h2 e1
 exact⟨k1,by rw[k2];exact q _ H (.refl _ _) hc (.bl _)⟩⟩
theorem km:OpD X (PU .NotEq) neD:=⟨_,J2,fun O ts H T v1 v2 x y d Q hc h1 h2 e q=>by
 unfold neD at e;obtain⟨b,e1,rfl⟩:=P7.mp e;obtain⟨k1,k2⟩:=zt h1 h2 e1
 exact⟨k1,by rw[k2];exact q _ H (.refl _ _) hc (.bl _)⟩⟩
def isNone:Pa->Bool
 |.none=>true
 |_=>false
theorem vj{K:Frag}{O:Addr->Prop}{H:Hp}{v:V}{x:Pa}(h:Vw K O H v x):decide (v=.non)=isNone x:=by
 cases h with
 |rep h=>cases h <;> rfl
 |raw _ _=>rfl
 |rawD _ _=>rfl
def isD:Pa->Pa->Option Pa
 |x,.none=>some (.bool (isNone x))
 |_,_=>none
theorem AR:OpD X (PU .Is) isD:=⟨_,Ik,fun O ts H T v1 v2 x y d Q hc h1 h2 e q=>by
 unfold isD at e;split at e
 .cases e
  exact⟨h2.non,by rw[vj h1];exact q _ H (.refl _ _) hc (.bl _)⟩
 .cases e⟩
def iV:Pa->Pa->Option Pa
 |x,.none=>some (.bool (!isNone x))
 |.bool a,.bool b=>some (.bool (a != b))
 |_,_=>none
theorem Gg:OpD X (PU .IsNot) iV:=⟨_,op_notN.or C1,fun O ts H T v1 v2 x y d Q hc h1 h2 e q=>by
 unfold iV at e;split at e
 .cases e
  exact .inl ⟨h2.non,by rw[vj h1];exact q _ H (.refl _ _) hc (.bl _)⟩
 .cases e
  exact .inr ⟨_,_,h1.bl,h2.bl,q _ H (.refl _ _) hc (.bl _)⟩
 .cases e⟩
def cE:Pa->Bool
 |.none=>true | .bool _=>true | .int _=>true | .str _=>true
 |_=>false
noncomputable def eqF:Pa->Pa->Bool
 |.none,.none=>true
 |.bool a,.bool b=>a == b
 |.bool a,.int b=>(if a then 1 else 0) == b
 |.int a,.bool b=>a == (if b then 1 else 0)
 |.int a,.int b=>a == b
 |.str a,.str b=>a == b
 |_,_=>false
def kq(y x:Str):Bool:=!(Sx y x 0 y.length 1).isEmpty
noncomputable def inS:Pa->Pa->Option Bool
 |.str x,.str y=>some (kq y x)
 |x,.list ys=>if cE x&&ys.all cE then some (ys.any fun y=>eqF y x) else none
 |x,.tuple ys=>if cE x&&ys.all cE then some (ys.any fun y=>eqF y x) else none
 |_,_=>none
theorem rS{K:Frag}{O:Addr->Prop}{H:Hp}{v:V}{x:Pa}(h:Rep K O H v x)(e:cE x=true):fZ v=true:=by cases h <;> first|rfl|cases e
theorem Ji{K:Frag}{O:Addr->Prop}{H:Hp}{v u:V}{x y:Pa}(h:Rep K O H v x)(g:Rep K O H u y)(ex:cE x=true)(ey:cE y=true):eqV v u=eqF x y:=by cases h <;> cases g <;> first|rfl|cases ex|cases ey
theorem rj{K:Frag}{O:Addr->Prop}{H:Hp}:∀{vs:List V}{xs:List Pa},Reps K O H vs xs->xs.all cE=true->vs.all fZ=true
 |_,_,.nil,_=>rfl
 |_,_,.cons r t,e=>by
  rw[QD,Po] at e;rw[QD,rS r e.1,rj t e.2];rfl
theorem sf{K:Frag}{O:Addr->Prop}{H:Hp}{v:V}{x:Pa}(h:Rep K O H v x)(ex:cE x=true):∀{vs:List V}{xs:List Pa},Reps K O H vs xs->xs.all cE=true->(vs.any fun y=>eqV y v)=xs.any fun y=>eqF y x
 |_,_,.nil,_=>rfl
 |_,_,.cons r t,e=>by
  rw[QD,Po] at e;rw[Q6,Q6,Ji r h e.1 ex,sf h ex t e.2]
theorem Vw.flat{K:Frag}{O:Addr->Prop}{H:Hp}{v:V}{x:Pa}(h:Vw K O H v x)(e:cE x=true):Rep K O H v x:=by
 cases h with
 |rep h=>exact h
 |raw _ _=>cases e
 |rawD _ _=>cases e
def inD(x y:Pa):Option PyData:=(inS x y).map .bool
def du(x y:Pa):Option PyData:=(inS x y).map fun b=>.bool (!b)
theorem oA{K:Frag}(neg:Bool):iB K (fun x y H Q=>(∃i j,x=.str i/\y=.str j/\Q (.bl (if neg then !(kq j i) else kq j i)) H)\/rIn K neg x y H Q) (fun x y=>(inS x y).map fun b=>.bool (if neg then !b else b)):=fun O ts H T v1 v2 x y d Q hc h1 h2 e q=>by
 obtain⟨b,e1,rfl⟩:=P7.mp e;unfold inS at e1;split at e1
 .cases e1
  exact .inl ⟨_,_,h1.str,h2.str,q _ H (.refl _ _) hc (.bl _)⟩
 .split at e1
  .rename_i hf
   cases e1;rw[Po] at hf;obtain⟨a,vs,rfl,t,r⟩:=h2.lst;have r1:=h1.flat hf.1;refine .inr ⟨a,vs,rfl,.inl t,rS r1 hf.1,rj r hf.2,?_⟩;have z:inV v1 vs=_:=sf r1 hf.1 r hf.2;rw[z];exact q _ H (.refl _ _) hc (.bl _)
  .cases e1
 .split at e1
  .rename_i hf
   cases e1;rw[Po] at hf;obtain⟨a,vs,rfl,t,r⟩:=h2.tup;have r1:=h1.flat hf.1;refine .inr ⟨a,vs,rfl,.inr t.sq,rS r1 hf.1,rj r hf.2,?_⟩;have z:inV v1 vs=_:=sf r1 hf.1 r hf.2;rw[z];exact q _ H (.refl _ _) hc (.bl _)
  .cases e1
 .cases e1
theorem ji:OpD X (PU .In) inD:=⟨_,op_in_str.or vg,oA false⟩
theorem xx:OpD X (PU .NotIn) du:=⟨_,op_notin_str.or uf,oA true⟩
def gf:Pa->Option Pa
 |.int i=>some (.int (-i))
 |_=>none
theorem sR(ha:DE X a fa):DE X (.UnaryOp .USub a pos) (fUn gf fa):=KM HA (fun O ts H T v x d Q hc h e q=>by
 unfold gf at e;split at e
 .cases e
  exact⟨_,h.int,q _ H (.refl _ _) hc (.int _)⟩
 .cases e) ha
noncomputable def ixD:Pa->Pa->Option Pa
 |.list xs,.int i=>atI xs i
 |.tuple xs,.int i=>atI xs i
 |.str z,.int i=>if z.length<=Pp then (atI z.cps.toList i).map fun c=>.str ⟨#[c]⟩ else none
 |_,_=>none
theorem xb{K:Frag}{O:Addr->Prop}{H:Hp}{vs:List V}{xs:List Pa}{i:Int}{d:Pa}(r:Reps K O H vs xs)(e:atI xs i=some d):∃v,atI vs i=some v/\Rep K O H v d:=by
 unfold atI at e ⊢;rw[r.length]
 cases h:ixN xs.length i with
 |none=>rw[h] at e;cases e
 |some j=>
  rw[h] at e;exact r.getD e
theorem ar:IxD X ixD:=⟨_,IJ,fun O ts H T v1 v2 x y d Q hc h1 h2 e q=>by
 unfold ixD at e;split at e
 .obtain⟨a,vs,rfl,t,r⟩:=h1.lst
  obtain⟨v,k1,k2⟩:=xb r e;exact .inl ⟨a,vs,_,v,rfl,h2.int,t,k1,q _ H (.refl _ _) hc k2⟩
 .obtain⟨a,vs,rfl,t,r⟩:=h1.tup
  obtain⟨v,k1,k2⟩:=xb r e;exact .inr (.inl ⟨a,vs,_,v,rfl,h2.int,t.sq,k1,q _ H (.refl _ _) hc k2⟩)
 .split at e
  .rename_i hz
   obtain⟨c,k1,rfl⟩:=P7.mp e;exact .inr (.inr ⟨_,_,c,h1.str,h2.int,hz,k1,q _ H (.refl _ _) hc (.str _)⟩)
  .cases e
 .cases e⟩
end
theorem Bm{prog:Px}{w:PY}{A:PZ}{E:Pb->Pf->Prop}{s:Pf}{t sl:Addr}{items:Array Pb}{vl vu:Pb}{lo hi:Option Int}{Q:Pb->Pf->Prop}(ht:Vm s.heap t items)(hs:s.heap.IsSliceOf sl vl vu .none)(pl:UW vl lo)(pu:UW vu hi)
  (hw:HT.sIx items.size 0 lo=0/\HT.sIx items.size items.size hi=items.size) (h:Q (.ref t) s):PP (PX prog w) A (Uk (.ref t) (.ref sl)) Q E s:=by
 obtain⟨os,hos,hcs,hds⟩:=id hs;have hTs:s.TypeIs (.ref sl) "slice":=⟨os,hos,hcs⟩;unfold Uk
 try with_reducible refine QJ ?_
 first|refine Pd (Pw ?_)|skip
 refine Pd (V5 ht.typeIs (by decide) ?_)
 refine Pd (RP (name:=Pc "__getitem__") ht.typeIs Qt
  (Sb Qt ht.typeIs VD ?_ (VX _ _)))
 show PP _ _ (TU (.ref t) >>= _) _ _ s;refine Pd (VN ht ?_);refine Pd (Tq hTs ?_);rw[if_pos (by decide)];refine Pd (HT.tZ hs pl pu ?_)
 have hyes:((((HT.sIx items.size 0 lo:Nat):Int) == 0&&(1:Int) == 1&&(HT.sIx items.size items.size hi-HT.sIx items.size 0 lo) == items.size)=true):=by
  rw[hw.1,hw.2];simp
 show PP _ _ (if (((HT.sIx items.size 0 lo:Nat):Int) == 0&&(1:Int) == 1&&(HT.sIx items.size items.size hi-HT.sIx items.size 0 lo) == items.size)=true then _ else _) _ _ s;rw[if_pos hyes];refine Pd (m:=Xh (.ref t)) (Pd (Tq ht.typeIs (Pw ?_)))
 first
 |exact Pd (U3 (Pd (Pw ⟨_,rfl,Pw h⟩)))
 |(simp only[beq_self_eq_true,if_true];exact Pd (U3 (Pw ⟨_,rfl,Pw h⟩)))
def cL{α:Type}(xs:List α)(lo hi:Option Int):List α:=(xs.drop (HT.sIx xs.length 0 lo)).take (HT.sIx xs.length xs.length hi-HT.sIx xs.length 0 lo)
theorem Reps.cut{K:Frag}{O:Addr->Prop}{H:Hp}{vs:List V}{ds:List Pa}(r:Reps K O H vs ds)(lo hi:Option Int):Reps K O H (gN vs lo hi) (cL ds lo hi):=by
 unfold gN cL;rw[r.length];exact(r.drop _).take _
theorem DQ{α:Type}{xs:List α}{lo hi:Option Int}(h:HT.sIx xs.length 0 lo=0/\HT.sIx xs.length xs.length hi=xs.length):cL xs lo hi=xs:=by
 unfold cL;rw[h.1,h.2];simp
section
variable {X:Cx}
theorem sl_tupA:SlR X (fun x lo hi H Q=>∃a xs,x=.ref a/\SqT X.K H a xs/\((HT.sIx xs.length 0 lo=0/\HT.sIx xs.length xs.length hi=xs.length)->Q (.ref a) H) /\
  (¬(HT.sIx xs.length 0 lo=0/\HT.sIx xs.length xs.length hi=xs.length)->∀p,H p=none->Q (.ref p) (upd H p (.tup (gN xs lo hi))))):=by
 intro pins s σ H x v vl vu lo hi sl Q I rx hs pl pu h;obtain⟨a,xs,rfl,hx,q1,q2⟩:=h
 by_cases hw:HT.sIx xs.length 0 lo=0/\HT.sIx xs.length xs.length hi=xs.length
 .cases rx
  obtain⟨its,r,ht,hz⟩:=I.tuple hx
  have hlen:its.toArray.size=xs.length:=by rw[Pr];exact r.length.symm
  refine⟨"tuple",_,Qt.lookup,ht.typeIs,?_⟩;exact Bm ht hs pl pu (by rw[hlen];exact hw) ⟨.ref a,H,I,rfl,q1 hw⟩
 .exact HP pins s σ H _ v vl vu lo hi sl Q I rx hs pl pu ⟨a,xs,rfl,hx,hw,q2 hw⟩
noncomputable def jK(x:Pa)(lo hi:Option Int):Option PyData:=match x with
 |.list xs=>some (.list (cL xs lo hi))
 |.tuple xs=>some (.tuple (cL xs lo hi))
 |.str z=>if z.length<=Pp then some (.str (QP z lo hi)) else none
 |_=>none
abbrev FO:=Rho->Tp->Option (Option Int×Tp)
def cV:FO:=fun _ T=>some (none,T)
def fP(f:FE):FO:=fun ρ T=>bnd (f ρ T) fun w T1=>match w with
 |.d (.int i)=>some (some i,T1)
 |_=>none
inductive LiftOP(K:Frag)(f:FO)(σ:L2.St)(H:Hp)(Q:Option Int->Hp->Prop):Prop where
 |mk (O:Addr->Prop) (ts:List Addr) (ρ:Rho) (T:Tp) (o:Option Int) (T':Tp) (hc:HC K O ts H T) (re:RelE K O ts H σ ρ) (e:f ρ T=some (o,T')) (q:∀H',SameX ts H H'->HC K O ts H' T'->Q o H'):LiftOP K f σ H Q
def Kr(K:Frag)(f:FO):TO:=fun σ H Q=>LiftOP K f σ H Q
structure DO(X:Cx)(e:Option Expr)(f:FO):Prop where
 pe:PO X e (Kr X.K f)
theorem yN(h:PO X e t)(i:∀σ H Q,t' σ H Q->t σ H Q):PO X e t':=fun pins s σ H Q I q=>h pins s σ H Q I (i σ H Q q)
theorem fS:DO X none cV:=by
 refine⟨?_⟩;refine yN F6 fun σ H Q=>?_;rintro⟨O,ts,ρ,T,o,T',hc,re,e,q⟩;cases e;exact q H (.refl _ _) hc
theorem fR(h:DE X e f):DO X (some e) (fP f):=by
 refine⟨?_⟩;refine yN (F5 h.pe) fun σ H Q=>?_;rintro⟨O,ts,ρ,T,o,T',hc,re,e,q⟩;obtain⟨w1,T1,e1,e⟩:=aN e;refine⟨O,ts,ρ,T,w1,T1,hc,re,e1,fun v1 H1 s1 hc1 r1=>?_⟩;split at e
 .cases e
  cases (show Rep X.K O H1 v1 _ from r1);exact⟨_,rfl,q H1 s1 hc1⟩
 .cases e
def fSl(f:FE)(l u:FO):FE:=fun ρ T=>bnd (f ρ T) fun w T1=>bnd (l ρ T1) fun lo T2=>bnd (u ρ T2) fun hi T3=>op1 (fun x=>jK x lo hi) T3 w
theorem f6{e:Expr}{lo hi:Option Expr}{f:FE}{l u:FO}{pos p2:Pos}(he:DE X e f)(hl:DO X lo l)(hu:DO X hi u):DE X (.Subscript e (.Slice lo hi none p2) pos) (fSl f l u):=by
 refine⟨?_⟩;refine pe_imp (Ep (sl_list.or (sl_tupA.or HQ)) he.pe hl.pe hu.pe) fun σ H Q=>?_;rintro⟨O,ts,ρ,T,w,T',hc,re,e,q⟩;obtain⟨w1,T1,e1,e⟩:=aN e;obtain⟨o1,T2,e2,e⟩:=aN e;obtain⟨o2,T3,e3,e⟩:=aN e;obtain⟨x,d,h1,h3,rfl,rfl⟩:=sG e;refine⟨O,ts,ρ,T,w1,T1,hc,re,e1,fun v1 H1 s1 hc1 r1=>?_⟩;refine⟨O,ts,ρ,T1,o1,T2,hc1,re.mono hc s1,e2,fun H2 s2 hc2=>?_⟩;refine⟨O,ts,ρ,T2,o2,T',hc2,re.mono hc (s1.trans s2),e3,fun H3 s3 hc3=>?_⟩;have vw:=hc3.view (r1.mono hc1 (s2.trans s3)) h1;have q':∀v H',SameX ts H3 H'->HC X.K O ts H' T'->Rep X.K O H' v d->Q v H':=fun v H' s c r=>q v H' (s1.trans (s2.trans (s3.trans s))) c r;clear q
 cases x with
 |list xs=>
  cases h3;obtain⟨a,vs,rfl,t,r⟩:=vw.lst;exact .inl ⟨a,vs,rfl,t,fun p hp=>q' _ _ (.new hp _) (hc3.new hp _) (hc3.newL hp (r.cut _ _))⟩
 |tuple xs=>
  cases h3;obtain⟨a,vs,rfl,t,r⟩:=vw.tup;refine .inr (.inl ⟨a,vs,rfl,t.sq,fun hw=>?_,fun hw p hp=>?_⟩)
  .rw[r.length] at hw
   rw[DQ hw] at q';exact q' _ H3 (.refl _ _) hc3 vw.tupR
  .exact q' _ _ (.new hp _) (hc3.new hp _) (hc3.newT hp (r.cut _ _))
 |str z=>
  have h3':(if z.length<=Pp then some (PV (QP z o1 o2)) else none)=some d:=h3;split at h3'
  .rename_i hz
   cases h3';exact .inr (.inr ⟨z,vw.str,hz,q' _ H3 (.refl _ _) hc3 (.str _)⟩)
  .cases h3'
 |_=>cases h3
end
inductive Kd where
 |non|bl|int|str|tup|lst|dct
 deriving DecidableEq
def Kd.name:Kd->String
 |.non=>"NoneType" | .bl=>"bool" | .int=>"int" | .str=>"str" | .tup=>"tuple" | .lst=>"list" | .dct=>"dict"
def kd:Pa->Kd
 |.none=>.non | .bool _=>.bl | .int _=>.int | .str _=>.str | .list _=>.lst | .tuple _=>.tup | .dict _=>.dct
def cu(a b:Kd):Bool:=decide (a=b)||(decide (a=.bl)&&decide (b=.int))
def Lg(t c:String):Option Bool:=if (Sr t == Sr c)=true then some true else if WV c=true then (fastBuiltinMro t).map (·.contains (.type c)) else none
theorem iO(a b:Kd):b≠.non->Lg a.name b.name=some (cu a b):=by cases a <;> cases b <;> first|(intro h;exact absurd rfl h)|(intro _;decide +kernel)
section
variable {X:Cx}
theorem Fi:CallR X (.builtin "isinstance") (fun xs H Q=>∃(x:V) (c:Kd) (O:Addr->Prop) (d:Pa),xs=[x,.ty c.name]/\Vw X.K O H x d/\c≠.non/\Q (.bl (cu (kd d) c)) H):=by
 intro pins s σ H xs us Q I r h;obtain⟨x,c,O,d,rfl,vw,hc,q⟩:=h;obtain⟨u,w',rfl,ru,rw'⟩:=vals2 r;cases (show w'=Sr c.name from rw');have fin:∀tk,EP X pins σ Q (.bool (cu (kd d) c)) { s with toks:=tk }:=fun tk=>⟨.bl _,H,I.tok _,rfl,q⟩
 cases d with
 |none=>cases vw.non;exact mV I ru .non (show P6 X.K (.type (Kd.name .non)) (.type c.name)=some _ from iO .non c hc) fin
 |bool b=>cases vw.bl;exact mV I ru (.bl b) (show P6 X.K (.type (Kd.name .bl)) (.type c.name)=some _ from iO .bl c hc) fin
 |int i=>cases vw.int;exact mV I ru (.int i) (show P6 X.K (.type (Kd.name .int)) (.type c.name)=some _ from iO .int c hc) fin
 |str z=>cases vw.str;exact mV I ru (.str z) (show P6 X.K (.type (Kd.name .str)) (.type c.name)=some _ from iO .str c hc) fin
 |list ds=>
  obtain⟨a,vs,rfl,t,r⟩:=vw.lst;cases (show u=PJ a from ru);obtain⟨its,_,pl,_⟩:=I.list t;obtain⟨o,n,e,c1,_⟩:=pl;exact Qk Uh I.kIn ⟨o,e,c1⟩ (show P6 X.K (.type (Kd.name .lst)) (.type c.name)=some _ from iO .lst c hc) (fun z=>nomatch z) fin
 |tuple ds=>
  obtain⟨a,vs,rfl,t,r⟩:=vw.tup;cases (show u=PJ a from ru);obtain⟨its,_,pl,_⟩:=I.tuple t.sq;obtain⟨o,e,c1,_⟩:=pl;exact Qk VT I.kIn ⟨o,e,c1⟩ (show P6 X.K (.type (Kd.name .tup)) (.type c.name)=some _ from iO .tup c hc) (fun z=>nomatch z) fin
 |dict ds=>
  obtain⟨a,vs,rfl,t,r⟩:=vw.dct;cases (show u=PJ a from ru);obtain⟨_,_,_,_,o,_,_,e,c1,_⟩:=dI I.hok t;exact Qk Ui I.kIn ⟨o,e,c1.1⟩ (show P6 X.K (.type (Kd.name .dct)) (.type c.name)=some _ from iO .dct c hc) (fun z=>nomatch z) fin
def bv(c:Kd)(x:Pa):Option PyData:=some (.bool (cu (kd x) c))
theorem bK(c:Kd)(hi:X.mg "isinstance"=none)(he:DE X e f)(hm:X.mg T=none)(hb:Rk T=some (.type c.name))(hcn:c≠.non:=by decide)(hg:Gl X "isinstance":=by rfl)(hT:Gl X T:=by rfl)(hn:T≠"__name__":=by decide)(hdb:(T == ("__debug__" : Str))=false:=by decide)
  (hs:Pk [e,.Name T p] X.env=(false,eval e X.env)::Pk [.Name T p] X.env:=by exact bc rfl) (hs2:Pk [.Name T p] X.env=(false,eval (.Name T p) X.env)::Pk [] X.env:=by exact bc rfl)
  (hpl:(Qg pos (Pk [.Name T p] X.env)).any (·.1)=false:=by exact bN rfl):DE X (.Call (.Name "isinstance" p') [e,.Name T p] [] pos) (fUn (bv c) f):=by
 refine⟨?_⟩;refine pe_imp (kW Fi hg hi Ri (bw he.pe (bw (xt (v:=.ty c.name) hT hm hb rfl hn hdb) cG hs2) hs) (by decide) (by decide) hs hpl) fun σ H Q=>?_;rintro⟨O,ts,ρ,T,w,T',hc,re,e,q⟩;obtain⟨w1,T1,e1,e⟩:=aN e;obtain⟨x,d,h1,h3,rfl,rfl⟩:=sG e;cases h3;refine⟨O,ts,ρ,T,w1,T',hc,re,e1,fun v1 H1 s1 hc1 r1=>?_⟩;exact⟨v1,c,O,x,rfl,hc1.view r1 h1,hcn,q _ H1 s1 hc1 (.bl _)⟩
noncomputable def bb:List Pa->Option Pa
 |[.list xs]=>some (.int xs.length)
 |[.tuple xs]=>some (.int xs.length)
 |[.str z]=>if z.length<=Pp then some (.int z.length) else none
 |[.dict kvs]=>some (.int kvs.length)
 |_=>none
theorem dz{K:Frag}{O:Addr->Prop}{H:Hp}{vs:List V}{x:Pa}(h:Vws K O H vs [x]):∃v,vs=[v]/\Vw K O H v x:=by cases h with|cons h t=>cases t;exact⟨_,rfl,h⟩
theorem vU{K:Frag}{O:Addr->Prop}{H:Hp}:∀{kvs:List (Key×V)}{ds:List (Pa×Pa)},RepK K O H kvs ds->kvs.length=ds.length
 |_,_,.nil=>rfl
 |_,_,.cons _ t=>congrArg (· + 1) (vU t)
theorem DV:CallR X (.builtin "len") (fun xs H Q=>∃a kvs,xs=[V.ref a]/\Rd H a (.dK kvs)/\Q (.int kvs.length) H):=by
 intro pins s σ H xs us Q I r h;obtain⟨a,kvs,rfl,ha,q⟩:=h;obtain⟨u,rfl,ru⟩:=vals1 r;cases ru;exact KQ I ha fun t s' I'=>⟨.int kvs.length,H,I',⟨t,rfl⟩,q⟩
theorem bQ:gb X (.builtin "len") bb:=⟨_,call_len_seq.or (call_len_str.or DV),fun O ts H T vs xs d Q hc h e q=>by
 unfold bb at e;split at e
 .cases e
  obtain⟨v,rfl,g⟩:=dz h;obtain⟨a,vs,rfl,t,r⟩:=g.lst;exact .inl ⟨a,vs,rfl,.inl t,by rw[r.length];exact q _ H (.refl _ _) hc (.int _)⟩
 .cases e
  obtain⟨v,rfl,g⟩:=dz h;obtain⟨a,vs,rfl,t,r⟩:=g.tup;exact .inl ⟨a,vs,rfl,.inr t.sq,by rw[r.length];exact q _ H (.refl _ _) hc (.int _)⟩
 .split at e
  .rename_i hz
   cases e;obtain⟨v,rfl,g⟩:=dz h;cases g.str;exact .inr (.inl ⟨_,rfl,hz,q _ H (.refl _ _) hc (.int _)⟩)
  .cases e
 .cases e
  obtain⟨v,rfl,g⟩:=dz h;obtain⟨a,kvs,rfl,t,r⟩:=g.dct;exact .inr (.inr ⟨a,kvs,rfl,t,by rw[vU r];exact q _ H (.refl _ _) hc (.int _)⟩)
 .cases e⟩
def mF:List Pa->Option Pa
 |[.int i]=>some (.int (if i<0 then -i else i))
 |_=>none
theorem Aq:gb X (.builtin "abs") mF:=⟨_,Fk,fun O ts H T vs xs d Q hc h e q=>by
 unfold mF at e;split at e
 .cases e
  obtain⟨v,rfl,g⟩:=dz h;cases g.int;exact⟨_,rfl,q _ H (.refl _ _) hc (.int _)⟩
 .cases e⟩
def Km:List Pa->Option Pa
 |[.int i,.int j]=>some (.int (if j>i then j else i))
 |_=>none
def Kl:List Pa->Option Pa
 |[.int i,.int j]=>some (.int (if j<i then j else i))
 |_=>none
noncomputable def i4:List Pa->Option (List Bool)
 |[]=>some []
 |.bool b::r=>(i4 r).map (b::·)
 |_=>none
noncomputable def gG:List Pa->Option (List Int)
 |[]=>some []
 |.int b::r=>(gG r).map (b::·)
 |_=>none
noncomputable def eM:List Pa->Option (List Str)
 |[]=>some []
 |.str b::r=>(eM r).map (b::·)
 |_=>none
theorem wM{K:Frag}{O:Addr->Prop}{H:Hp}:∀{vs:List V}{xs:List Pa}{bs:List Bool},Reps K O H vs xs->i4 xs=some bs->vs=bs.map V.bl
 |_,_,_,.nil,e=>by cases e;rfl
 |_,x::r,bs,.cons h t,e=>by
  cases x with
  |bool b=>
   obtain⟨cs,e1,rfl⟩:=P7.mp (show (i4 r).map (b::·)=some bs from e);cases h;rw[wM t e1];rfl
  |_=>cases e
theorem q8{K:Frag}{O:Addr->Prop}{H:Hp}:∀{vs:List V}{xs:List Pa}{bs:List Int},Reps K O H vs xs->gG xs=some bs->vs=bs.map V.int
 |_,_,_,.nil,e=>by cases e;rfl
 |_,x::r,bs,.cons h t,e=>by
  cases x with
  |int b=>
   obtain⟨cs,e1,rfl⟩:=P7.mp (show (gG r).map (b::·)=some bs from e);cases h;rw[q8 t e1];rfl
  |_=>cases e
theorem nG{K:Frag}{O:Addr->Prop}{H:Hp}:∀{vs:List V}{xs:List Pa}{bs:List Str},Reps K O H vs xs->eM xs=some bs->vs=bs.map V.str
 |_,_,_,.nil,e=>by cases e;rfl
 |_,x::r,bs,.cons h t,e=>by
  cases x with
  |str b=>
   obtain⟨cs,e1,rfl⟩:=P7.mp (show (eM r).map (b::·)=some bs from e);cases h;rw[nG t e1];rfl
  |_=>cases e
def gi:List Pa->Option Pa
 |[.list xs]=>(i4 xs).map fun bs=>.bool (bs.all id)
 |_=>none
theorem pW(hc:X.calm=true:=by rfl):gb X (.builtin "all") gi:=⟨_,Fj hc,fun O ts H T vs xs d Q hc h e q=>by
 unfold gi at e;split at e
 .obtain⟨bs,e1,rfl⟩:=P7.mp e
  obtain⟨v,rfl,g⟩:=dz h;obtain⟨a,vs,rfl,t,r⟩:=g.lst;rw[wM r e1] at t;exact⟨a,bs,rfl,t,q _ H (.refl _ _) hc (.bl _)⟩
 .cases e⟩
noncomputable def kj:List Pa->Option Pa
 |[.list xs]=>(gG xs).map fun bs=>.int bs.sum
 |_=>none
theorem Ap(hc:X.calm=true:=by rfl):gb X (.builtin "sum") kj:=⟨_,Fg hc,fun O ts H T vs xs d Q hc h e q=>by
 unfold kj at e;split at e
 .obtain⟨bs,e1,rfl⟩:=P7.mp e
  obtain⟨v,rfl,g⟩:=dz h;obtain⟨a,vs,rfl,t,r⟩:=g.lst;rw[q8 r e1] at t;exact⟨a,bs,rfl,t,q _ H (.refl _ _) hc (.int _)⟩
 .cases e⟩
def lU:Pa->Pa->Option Pa
 |.list xs,.int d=>(gG xs).map fun bs=>.int (K1.cK d bs)
 |_,_=>none
theorem G6(hm:X.mg "max"=none)(ha:DE X e f)(hd:DE X ed fd)(hc:X.calm=true:=by rfl)(hg:Gl X "max":=by rfl)(hs:Pk [e] X.env=(false,eval e X.env)::Pk [] X.env:=by exact bc rfl)
  (h1:Qg pos (Pk [e] X.env)=(false,eval e X.env)::Qg pos (Pk [] X.env):=by exact u5 rfl)
  (h2:(Qg pos (Pk [e] X.env)).any (·.1)=false:=by exact bN rfl) (h3:(Rq pos (QH [⟨some "default",ed,kpos⟩] X.env)).all (·.1.isSome)=true:=by rfl)
  (h4:(Rq pos (QH [⟨some "default",ed,kpos⟩] X.env)).any (·.1.isNone)=false:=by rfl) (h5:(Rq pos (QH [⟨some "default",ed,kpos⟩] X.env)).filterMap (·.1)=[Pc "default"]:=by rfl) :
  DE X (.Call (.Name "max" p) [e] [⟨some "default",ed,kpos⟩] pos) (af lU f fd):=by
 refine⟨?_⟩;refine pe_imp (F8 hc hg hm ha.pe hd.pe hs h1 h2 h3 h4 h5) fun σ H Q=>?_;rintro⟨O,ts,ρ,T,w,T',hc,re,e,q⟩;obtain⟨w1,T1,e1,e⟩:=aN e;obtain⟨w2,T2,e2,e⟩:=aN e;obtain⟨x,y,d,h1,h2,h3,rfl,rfl⟩:=jN e;refine⟨O,ts,ρ,T,w1,T1,hc,re,e1,fun v1 H1 s1 hc1 r1=>⟨v1,rfl,?_⟩⟩;refine⟨O,ts,ρ,T1,w2,T',hc1,re.mono hc s1,e2,fun v2 H2 s2 hc2 r2=>?_⟩;have k1:=hc2.view (r1.mono hc1 s2) h1;have k2:=hc2.view r2 h2;unfold lU at h3;split at h3
 .obtain⟨bs,e4,rfl⟩:=P7.mp h3
  obtain⟨a,vs,rfl,t,r⟩:=k1.lst;rw[q8 r e4] at t;exact⟨a,bs,_,rfl,k2.int,t,q _ H2 (s1.trans s2) hc2 (.int _)⟩
 .cases h3
def gc:List Pa->Option Pa
 |[.int i]=>if i.natAbs.log2<1920 then some (.str (toString i)) else none
 |_=>none
theorem ki:gb X (.type "str") gc:=⟨_,BY,fun O ts H T vs xs d Q hc h e q=>by
 unfold gc at e;split at e
 .split at e
  .rename_i hz
   cases e;obtain⟨v,rfl,g⟩:=dz h;cases g.int;exact⟨_,rfl,hz,q _ H (.refl _ _) hc (.str _)⟩
  .cases e
 .cases e⟩
def bJ:List Pa->Option Pa
 |[.list xs]=>some (.tuple xs)
 |[.tuple xs]=>some (.tuple xs)
 |_=>none
theorem gA:gb X (.type "tuple") bJ:=⟨_,BM,fun O ts H T vs xs d Q hc h e q=>by
 unfold bJ at e;split at e
 .cases e
  obtain⟨v,rfl,g⟩:=dz h;obtain⟨a,vs,rfl,t,r⟩:=g.lst;exact⟨a,vs,rfl,.inl ⟨t,fun p hp=>q _ _ (.new hp _) (hc.new hp _) (hc.newT hp r)⟩⟩
 .cases e
  obtain⟨v,rfl,g⟩:=dz h;obtain⟨a,vs,e1,t,r⟩:=g.tup;subst e1;exact⟨a,vs,rfl,.inr ⟨t.sq,q _ H (.refl _ _) hc (.tup t r)⟩⟩
 .cases e⟩
def gF:List Pa->Option Pa
 |[.list xs]=>some (.list xs)
 |[.tuple xs]=>some (.list xs)
 |_=>none
theorem zD:gb X (.type "list") gF:=⟨_,BZ,fun O ts H T vs xs d Q hc h e q=>by
 unfold gF at e;split at e
 .cases e
  obtain⟨v,rfl,g⟩:=dz h;obtain⟨a,vs,rfl,t,r⟩:=g.lst;exact⟨a,vs,rfl,.inl t,fun p hp=>q _ _ (.new hp _) (hc.new hp _) (hc.newL hp r)⟩
 .cases e
  obtain⟨v,rfl,g⟩:=dz h;obtain⟨a,vs,rfl,t,r⟩:=g.tup;exact⟨a,vs,rfl,.inr t.sq,fun p hp=>q _ _ (.new hp _) (hc.new hp _) (hc.newL hp r)⟩
 .cases e⟩
theorem mt_joinG:MtR X "str.join" (fun x vs H Q=>∃(z:Str) (l:Addr) (ys:List Str),x=.str z/\vs=[.ref l]/\SqL X.K H l (ys.map V.str)/\(ys.map (·.length)).sum+ys.length*z.length<=16777216/\Q (.str (RR z ys)) H):=by
 intro pins s σ H x vs v us Q I rx rv h;obtain⟨z,l,ys,rfl,rfl,hq,hz,q⟩:=h;obtain⟨t,rfl⟩:=rx;obtain⟨u,rfl,ru⟩:=vals1 rv;cases ru;obtain⟨its,rw',pl,_⟩:=I.list hq;refine join_list (ys:=ys) pl.isList (by simpa using ut rw') hz fun t' k=>⟨.str _,H,I.tok _,⟨t',?_⟩,q⟩;show Tv (Wf z ys) t'=_;rw[Vi]
noncomputable def lW:Pa->Pa->Option Pa
 |.str z,.list xs=>match eM xs with
  |some ys=>if (ys.map (·.length)).sum+ys.length*z.length<=16777216 then some (.str (RR z ys)) else none
  |none=>none
 |_,_=>none
theorem yn(ho:DE X o fo)(he:DE X e fe)
  (hbase:Q7 o "join" X.env (eval o X.env)=eval o X.env:=by rfl)
  (hfew:((Qg cpos (Pk [e] X.env)).all (fun x=>!x.1)&&(Rq cpos (QH [] X.env)).all (fun x=>x.1.isSome)
   && decide (([e]:List Expr).length+([]:List Rb).length+(if ([]:List Rb).isEmpty then 0 else 1)<30))=true:=by exact qg rfl)
  (hline:(apos.endLine == cpos.line)=true:=by rfl) (hse:Pk [e] X.env=(false,eval e X.env)::Pk [] X.env:=by exact bc rfl) (hplain:(Qg cpos (Pk [] X.env)).any (·.1)=false:=by exact bN rfl) :
  DE X (.Call (.Attribute o "join" apos) [e] [] cpos) (af lW fo fe):=by
 refine⟨?_⟩;refine pe_imp (lP U4 Vj Vk mt_joinG ho.pe (bw he.pe cG hse) hbase hfew hline hse hplain) fun σ H Q=>?_;rintro⟨O,ts,ρ,T,w,T',hc,re,e,q⟩;obtain⟨w1,T1,e1,e⟩:=aN e;obtain⟨w2,T2,e2,e⟩:=aN e;obtain⟨x,y,d,h1,h2,h3,rfl,rfl⟩:=jN e;unfold lW at h3;split at h3
 .rename_i z xs
  split at h3
  .rename_i ys hy
   split at h3
   .rename_i hz
    cases h3;refine⟨O,ts,ρ,T,w1,T1,hc,re,e1,fun v1 H1 s1 hc1 r1=>?_⟩
    have ev:v1=.str z:=by
     cases w1 with
     |d x=>cases h1;cases (show Rep X.K O H1 v1 _ from r1);rfl
     | tp k=>exact(by
       have h1':(T'[k]?).bind kl=some (PV z):=h1
       cases hk:T'[k]? with
       |none=>rw[hk] at h1';cases h1'
       |some xs=>
        rw[hk] at h1';have e2:(if isO xs=true then none else some (Um xs))=some (PV z):=h1'
        split at e2 <;> cases e2)
     |loc zs=>cases zs <;> cases h1
    subst ev;refine⟨rfl,O,ts,ρ,T1,w2,T',hc1,re.mono hc s1,e2,fun v2 H2 s2 hc2 r2=>?_⟩;obtain⟨a,vs,rfl,t,r⟩:=(hc2.view r2 h2).lst;rw[nG r hy] at t;exact⟨z,a,ys,rfl,rfl,t,hz,q _ H2 (s1.trans s2) hc2 (.str _)⟩
   .cases h3
  .cases h3
 .cases h3
end
mutual
def j7:Pa->Bool
 |.list _=>false
 |.tuple ds=>oM ds
 |.dict kvs=>oO kvs
 |.none | .bool _ | .int _ | .str _=>true
def oM:List Pa->Bool
 |[]=>true
 |d::r=>j7 d&&oM r
def oO:List (Pa×Pa)->Bool
 |[]=>true
 |(_,v)::r=>j7 v&&oO r
end
section
variable {X:Cx}{pins:List (Addr×Obj)}{σ:L2.St}{H:Hp}{s:Pf}{O:Addr->Prop}
theorem Dk(e:fB k v=true):Yb h v (gK k) []:=by
 rcases eB e with⟨i,t,rfl,rfl⟩|⟨x,t,rfl,rfl⟩
 .exact .int i t
 .exact .str x t
mutual
theorem Rep.reads(I:Inv X pins σ H s):∀{v:V}{d:Pa}{u:Pb},Rep X.K O H v d->RelV v u->∃as,Yb s.heap u d as/\(j7 d=true->QF∉as)
 |_,_,_,.non,r=>by cases r;exact⟨_,.none,fun _=>by simp⟩
 |_,_,_,.bl b,r=>by cases r;exact⟨_,.bool b,fun _=>by simp⟩
 |_,_,_,.int i,r=>by obtain⟨t,rfl⟩:=r;exact⟨_,.int i t,fun _=>by simp⟩
 |_,_,_,.str x,r=>by obtain⟨t,rfl⟩:=r;exact⟨_,.str x t,fun _=>by simp⟩
 |_,_,_,.tup (a:=a) (vs:=vs) h rs,r=>by
  cases r;obtain⟨its,rv,⟨o,e,c,n,dd⟩,_⟩:=I.tuple h.sq;obtain⟨as,q,f⟩:=Reps.reads I rs rv;exact⟨as,.tuple e c dd (by simpa using q),f⟩
 |_,_,_,.lst (a:=a) (vs:=vs) h rs,r=>by
  cases r;obtain⟨its,rv,pl,_⟩:=I.list h.sq;obtain⟨o,n,e,c,_,dd⟩:=pl;obtain⟨as,q,f⟩:=Reps.reads I rs rv;exact⟨_,.list e c dd (by simpa using q),fun z=>by cases z⟩
 |_,_,_,.dct (a:=a) (kvs:=kvs) (ds:=ds) _ h rk,r=>by
  cases r;obtain⟨z,y,vs,kv,o,es,ep,e,ed,dd,_,ek,_⟩:=(show ObjOk X.prog X.w H s.heap a (.dK kvs) from(I.hok a _ h).2);obtain⟨bs,q1,q2,f⟩:=RepK.reads I rk kv ek;refine⟨_,.dict (kvs:=ds) (as:=[]) (bs:=bs) e ed.1 dd q1 q2,fun zz hm=>?_⟩
  rcases Pt.mp (by simpa using hm:QF∈a::bs) with q|q
  .rw[q] at y
   simp at y
  .exact f zz q
theorem Reps.reads(I:Inv X pins σ H s):∀{vs:List V}{ds:List Pa}{us:List Pb},Reps X.K O H vs ds->Vals vs us->∃as,Wg s.heap us ds as/\(oM ds=true->QF∉as)
 |_,_,_,.nil,r=>by cases r;exact⟨_,.nil,fun _=>by simp⟩
 |_,_,_,.cons (d:=d) (ds:=ds) q t,r=>by
  cases r with
  |cons r1 r2=>
   obtain⟨as,h1,f1⟩:=Rep.reads I q r1;obtain⟨bs,h2,f2⟩:=Reps.reads I t r2;refine⟨as++bs,.cons h1 h2,fun z=>?_⟩;have z':(j7 d&&oM ds)=true:=z;rw[Po] at z';intro hm
   rcases PD.mp hm with hm|hm
   .exact f1 z'.1 hm
   .exact f2 z'.2 hm
theorem RepK.reads(I:Inv X pins σ H s):∀{kvs:List (Key×V)}{ds:List (Pa×Pa)}{vs:List (Key×Pb)}{es:List Ya},RepK X.K O H kvs ds->KV kvs vs->Pairs (bE X.prog X.w) es vs ->
  ∃bs,Wg s.heap (es.map (·.key)) (ds.map (·.1)) []/\Wg s.heap (es.map (·.val)) (ds.map (·.2)) bs/\(oO ds=true->QF∉bs)
 |_,_,_,_,.nil,r,ek=>by
  cases r;cases ek;exact⟨[],.nil,.nil,fun _=>by simp⟩
 |_,_,_,_,.cons (k:=k) (d:=d) (ds:=ds) q t,r,ek=>by
  cases r with
  |cons r1 r2=>
   cases ek with
   |cons e1 e1' e2=>
    obtain⟨as,h1,f1⟩:=Rep.reads I q r1.2;obtain⟨bs,h2,h3,f2⟩:=RepK.reads I t r2 e2;rw[←e1'] at h1;have k1:=Dk (h:=s.heap) (show fB _ _=true from e1);rw[←r1.1] at k1;refine⟨as++bs,.cons (as:=[]) (bs:=[]) k1 h2,.cons h1 h3,fun z=>?_⟩;have z':(j7 d&&oO ds)=true:=z;rw[Po] at z';intro hm
    rcases PD.mp hm with hm|hm
    .exact f1 z'.1 hm
    .exact f2 z'.2 hm
end
end
def Ky(d:Pa):Bool:=d.showable&&d.leavesShort 200&&decide (d.depth<=60)&&decide (d.weight<=60000)&&(!d.hasDict||j7 d)
section
variable {X:Cx}
def zV(T:Tp)(w:W):Option (W×Tp):=match w with
 |.d x=>if Ky x=true then some (.d (.str x.shown),T) else none
 |_=>none
def KG(f:FE):FE:=fun ρ T=>bnd (f ρ T) fun w T1=>zV T1 w
end
structure Df(K:Frag)(name:Str)(st:Stmt):Prop where
 ex:∃(f:Addr) (oc:Pb) (od an:Option Addr) (sl:Array (Option Pb)) (kV dc pm cd ct:Pb),Qo K P3 name=some (some (.ref f)) /\
  K.lookup f=some ⟨oc,od,.func (QB name name (dG st) (cj st) (bh st) .none kV dc pm an cd ct),sl⟩/\R7 K cd name=true/\Qm K (.ref f)=true
theorem KJ{K:Frag}{name:Str}{st:Stmt}{f:Addr}{oc:Pb}{od an:Option Addr}{sl:Array (Option Pb)}{kV dc pm cd ct:Pb}(a:Qo K P3 name=some (some (.ref f)))
  (l:K.lookup f=some ⟨oc,od,.func (QB name name (dG st) (cj st) (bh st) .none kV dc pm an cd ct),sl⟩) (c:R7 K cd name=true) (k:Qm K (.ref f)=true):Df K name st:=⟨f,oc,od,an,sl,kV,dc,pm,cd,ct,a,l,c,k⟩
theorem Df.fn{P:Px}{w:PY}{K:Frag}{mg:Str->Option Pb}{base h:Heap}{name:Str}{st:Stmt}{ps:List Str}{k:Nat}{sp:Sp}(d:Df K name st)(X:K.In h)(G:h.Ns P3 mg)
  (hb:∀(kV doc pm:Pb) (an:Option Addr) (cdv ct:Pb) (us:List Pb),us.length=ps.length->TN (QB name name (dG st) (cj st) (bh st) .none kV doc pm an cdv ct) ⟨us,[]⟩=pure (ps.zip us))
  (ok:∀f fd,Fun K name name st f fd->FnOk P w K mg base CX0 k f fd ps sp):Fn P w K mg base name ps k sp:=by
 obtain⟨f,oc,od,an,sl,kV,dc,pm,cd,ct,a,l,c,kp⟩:=d.ex;have F:=sM (st:=st) l c kp;exact⟨f,_,ok f _ F,F.binds hb,kp,Q8 X G a⟩
theorem GO{P:Px}{w:PY}{K:Frag}{mg:Str->Option Pb}{base:Heap}{k n:Nat}{f:Addr}{fd:QQ}{ps:List Str}:FnOk P w K mg base CX0 k f fd ps (spM K n fun _ _=>none):=by
 have no:∀vs H Q E,¬spM K n (fun _ _=>none) vs H Q E:=fun vs H Q E h=>by
  obtain⟨O,ts,T,ws,x,T',_,_,_,e,_⟩:=h;cases e
 exact⟨fun vs H Q E h=>absurd h (no vs H Q E),fun A outer s H args us vs Q E _ _ _ _ h=>absurd h (no vs H Q E)⟩
def pL(K:Frag):Sp:=fun vs H Q _=>∃(a:Addr) (ns:List Int),vs=[.ref a]/\SqL K H a (ns.map V.int)/\ns.length<=63/\∀H',Q (.bl true) H'
def jL(ns:List Int):PyData:=.list (ns.map .int)
theorem vd{K:Frag}{O:Addr->Prop}{H:Hp}:∀ns:List Int,Reps K O H (ns.map V.int) (ns.map RH)
 |[]=>.nil
 |_::r=>.cons (.int _) (vd r)
section
variable {α β:Type}{ρ:Rho}{T:Tp}{f g:FE}{c c':FT}{s s':FS}{a:FA}{w w':W}{x y:Pa}
@[simp] theorem fV:bnd (some (b,T)) k=k b T:=rfl
@[simp] theorem Nu:bnd none k=none:=rfl
@[simp] theorem Nv[Decidable p]:bnd (if p then u else v) k=if p then bnd u k else bnd v k:=by split <;> rfl
@[simp] theorem mi:aP N s ws T=if cC ws=true then df (s (ws.map some++PC (N-ws.length) none) T) else none:=rfl
@[simp] theorem kR:cC []=true:=rfl
@[simp] theorem kQ:cC (.d x::r)=cC r:=rfl
@[simp] theorem vp:cC (.tp i::r)=cC r:=rfl
@[simp] theorem Nk:df (some ((.rt x,r),T))=some (x,T):=rfl
@[simp] theorem Nm:df (some ((.nx,r),T))=some (.none,T):=rfl
@[simp] theorem Np[Decidable p]:df (if p then u else v)=if p then df u else df v:=by split <;> rfl
def jf(s':FS)(p:Fl×Rho)(T:Tp):Option ((Fl×Rho)×Tp):=match p with
 |(.nx,ρ1)=>s' ρ1 T
 |(fl,ρ1)=>some ((fl,ρ1),T)
@[simp] theorem Ja:ak s s' ρ T=bnd (s ρ T) (jf s'):=rfl
@[simp] theorem MD:jf s' (.nx,ρ1) T=s' ρ1 T:=rfl
@[simp] theorem MC:jf s' (.rt x,ρ1) T=some ((.rt x,ρ1),T):=rfl
@[simp] theorem MG:jf s' (.bk,ρ1) T=some ((.bk,ρ1),T):=rfl
@[simp] theorem MF:jf s' (.ct,ρ1) T=some ((.ct,ρ1),T):=rfl
@[simp] theorem MT:aD ρ T=some ((.nx,ρ),T):=rfl
def ifK(s s':FS)(ρ:Rho)(b:Bool)(T1:Tp):Option ((Fl×Rho)×Tp):=if b=true then s ρ T1 else s' ρ T1
@[simp] theorem Aj:fIf c s s' ρ T=bnd (c ρ T) (ifK s s' ρ):=rfl
@[simp] theorem Jc:ifK s s' ρ b T=if b=true then s ρ T else s' ρ T:=rfl
def AH(ρ:Rho):W->Tp->Option ((Fl×Rho)×Tp):=fun w T1=>match w with
 |.d x=>some ((.rt x,ρ),T1)
 |_=>none
@[simp] theorem NT:aB f ρ T=bnd (f (bX ρ) T) (AH ρ):=rfl
@[simp] theorem MK:AH ρ (.d x) T=some ((.rt x,ρ),T):=rfl
@[simp] theorem Ni:bX []=[]:=rfl
@[simp] theorem Nf:bX (none::r)=none::bX r:=rfl
@[simp] theorem Nh:bX (some (.d x)::r)=some (.d x)::bX r:=rfl
@[simp] theorem Nd:bX (some (.tp i)::r)=some (.tp i)::bX r:=rfl
@[simp] theorem Ng:bX (some (.loc x)::r)=some (.d x)::bX r:=rfl
def tK(i:Nat)(ρ:Rho):W->Tp->Option ((Fl×Rho)×Tp):=fun w T1=>match w with
 |.d x=>some ((.nx,ρ.set i (some (.d x))),T1)
 |.tp k=>some ((.nx,ρ.set i (some (.tp k))),T1)
 |.loc _=>none
@[simp] theorem oY:aF i f ρ T=bnd (f ρ T) (tK i ρ):=rfl
@[simp] theorem x9:tK i ρ (.d x) T=some ((.nx,ρ.set i (some (.d x))),T):=rfl
@[simp] theorem Mz:tK i ρ (.tp k) T=some ((.nx,ρ.set i (some (.tp k))),T):=rfl
def zU(i:Nat)(ρ:Rho)(T:Tp):Option (List Pa)->Option ((Fl×Rho)×Tp)
 |some xs=>if xs.length<=1000 then some ((.nx,ρ.set i (some (.loc (.list xs)))),T) else none
 |none=>none
@[simp] theorem MA:cI i a ρ T=bnd (a ρ T) fun ws T1=>zU i ρ T1 (d3 ws):=rfl
@[simp] theorem L3:zU i ρ T (some xs)=if xs.length<=1000 then some ((.nx,ρ.set i (some (.loc (.list xs)))),T) else none:=rfl
noncomputable def Bf(i:Nat)(ρ:Rho)(x:Pa)(T:Tp)(o:Option (Option W)):Option ((Fl×Rho)×Tp):=match o with
 |some (some (.loc (.list xs)))=>if xs.length<Pp then some ((.nx,ρ.set i (some (.loc (.list (xs++[x]))))),T) else none
 |_=>none
noncomputable def Be(i:Nat)(ρ:Rho):W->Tp->Option ((Fl×Rho)×Tp):=fun w T1=>match w with
 | .d x=>(match ρ[i]? with
  |some (some (.loc (.list xs)))=>if xs.length<Pp then some ((.nx,ρ.set i (some (.loc (.list (xs++[x]))))),T1) else none
  | _=>none)
 |_=>none
@[simp] theorem Oy:b6 i f ρ T=bnd (f ρ T) (Be i ρ):=rfl
@[simp] theorem Nw:Be i ρ (.d x) T=Bf i ρ x T ρ[i]?:=rfl
@[simp] theorem Ny:Bf i ρ x T (some (some (.loc (.list xs))))=if xs.length<Pp then some ((.nx,ρ.set i (some (.loc (.list (xs++[x]))))),T) else none:=rfl
@[simp] theorem OD:fSl f l u ρ T=bnd (f ρ T) fun w T1=>bnd (l ρ T1) fun lo T2=>bnd (u ρ T2) fun hi T3=>op1 (fun x=>jK x lo hi) T3 w:=rfl
@[simp] theorem NZ:cV ρ T=some (none,T):=rfl
def pK:W->Tp->Option (Option Int×Tp):=fun w T1=>match w with
 |.d (.int i)=>some (some i,T1)
 |_=>none
@[simp] theorem OY:fP f ρ T=bnd (f ρ T) pK:=rfl
@[simp] theorem OE:pK (.d (.int i)) T=some (some i,T):=rfl
@[simp] theorem NR{z:Str}{lo hi:Option Int}:jK (.str z) lo hi=if z.length<=Pp then some (.str (QP z lo hi)) else none:=rfl
@[simp] theorem NQ{xs:List Pa}{lo hi:Option Int}:jK (.tuple xs) lo hi=some (.tuple (cL xs lo hi)):=rfl
@[simp] theorem NS{xs:List Pa}{lo hi:Option Int}:jK (.list xs) lo hi=some (.list (cL xs lo hi)):=rfl
@[simp] theorem nX:aa 0 (some o::r) T=some (o,T):=rfl
@[simp] theorem eJ:aa (i+1) (o::r) T=aa i r T:=rfl
@[simp] theorem nW:aa 1 (o::r) T=aa 0 r T:=eJ
@[simp] theorem nV:aa 2 (o::r) T=aa 1 r T:=eJ
@[simp] theorem nU:aa 3 (o::r) T=aa 2 r T:=eJ
@[simp] theorem rX:aa 4 (o::r) T=aa 3 r T:=eJ
@[simp] theorem rW:aa 5 (o::r) T=aa 4 r T:=eJ
@[simp] theorem rV:aa 6 (o::r) T=aa 5 r T:=eJ
@[simp] theorem GP:aa 7 (o::r) T=aa 6 r T:=eJ
@[simp] theorem Mu:aa 8 (o::r) T=aa 7 r T:=eJ
@[simp] theorem Mt:aa 9 (o::r) T=aa 8 r T:=eJ
@[simp] theorem AZ:fC x ρ T=some (.d x,T):=rfl
@[simp] theorem Ms:view T (.d x)=some x:=rfl
@[simp] theorem LU:view T (.tp i)=(T[i]?).bind kl:=rfl
@[simp] theorem MH:kl xs=if isO xs=true then none else some (.list xs):=rfl
@[simp] theorem Mr:isO (.list xs::r)=false:=rfl
@[simp] theorem LV:view T (.loc (.list xs))=some (.list xs):=rfl
@[simp] theorem ev_viewLD:view T (.loc (.dict xs))=some (.dict xs):=rfl
noncomputable def mkD(T:Tp)(o:Option Pa):Option (W×Tp):=match o with
 |some d=>some (.d d,T)
 |none=>none
@[simp] theorem pd:mkD T (some x)=some (.d x,T):=rfl
@[simp] theorem MV:mkD T none=none:=rfl
@[simp] theorem MW[Decidable p]:mkD T (if p then u else v)=if p then mkD T u else mkD T v:=by split <;> rfl
def Bc(o:Pa->Pa->Option Pa)(g:FE)(ρ:Rho)(w1:W)(T1:Tp):Option (W×Tp):=bnd (g ρ T1) fun w2 T2=>op2 o T2 w1 w2
@[simp] theorem pf:af o f g ρ T=bnd (f ρ T) (Bc o g ρ):=rfl
@[simp] theorem nZ:Bc o g ρ w T=bnd (g ρ T) fun w2 T2=>op2 o T2 w w2:=rfl
@[simp] theorem oZ:op2 o T (.d x) (.d y)=mkD T (o x y):=rfl
@[simp] theorem MP:op2 o ((.list zs::xs)::r) (.tp 0) (.d y)=mkD ((.list zs::xs)::r) (o (.list (.list zs::xs)) y):=rfl
@[simp] theorem OC:fUn o f ρ T=bnd (f ρ T) fun w1 T1=>op1 o T1 w1:=rfl
@[simp] theorem NY:op1 o T (.d x)=mkD T (o x):=rfl
@[simp] theorem Ox:asB (.d (.bool b))=some b:=rfl
def AD:W->Tp->Option (Bool×Tp):=fun w T1=>match asB w with
 |some b=>some (b,T1)
 |none=>none
@[simp] theorem I0:av f ρ T=bnd (f ρ T) AD:=rfl
@[simp] theorem GQ:AD (.d (.bool b)) T=some (b,T):=rfl
@[simp] theorem NK:bg f ρ T=bnd (f ρ T) fun w T1=>qb T1 w:=rfl
def AE(T:Tp)(o:Option Bool):Option (Bool×Tp):=match o with
 |some b=>some (b,T)
 |none=>none
@[simp] theorem Mx:qb T (.d x)=AE T (qa x):=rfl
@[simp] theorem Mv:AE T (some b)=some (b,T):=rfl
@[simp] theorem Mw:qa (.bool b)=some b:=rfl
def Av(c':FT)(ρ:Rho)(b:Bool)(T1:Tp):Option (Bool×Tp):=if b=true then c' ρ T1 else some (false,T1)
@[simp] theorem NA:b9 c c' ρ T=bnd (c ρ T) (Av c' ρ):=rfl
@[simp] theorem Mo:Av c' ρ b T=if b=true then c' ρ T else some (false,T):=rfl
def AM(c':FT)(ρ:Rho)(b:Bool)(T1:Tp):Option (Bool×Tp):=if b=true then some (true,T1) else c' ρ T1
@[simp] theorem NW:cF c c' ρ T=bnd (c ρ T) (AM c' ρ):=rfl
@[simp] theorem MO:AM c' ρ b T=if b=true then some (true,T) else c' ρ T:=rfl
@[simp] theorem MR:bL c ρ T=bnd (c ρ T) fun b T1=>some (!b,T1):=rfl
@[simp] theorem LZ:bu ρ T=some (true,T):=rfl
def Bg(g:FE)(ρ:Rho)(w:W)(T:Tp):Option (W×Tp):=match asB w with
 |some b=>if b=true then g ρ T else some (.d (.bool false),T)
 |none=>none
@[simp] theorem Nz:ik f g ρ T=bnd (f ρ T) (Bg g ρ):=rfl
@[simp] theorem NB:Bg g ρ (.d (.bool b)) T=if b=true then g ρ T else some (.d (.bool false),T):=rfl
def orK(g:FE)(ρ:Rho)(w:W)(T:Tp):Option (W×Tp):=match asB w with
 |some b=>if b=true then some (.d (.bool true),T) else g ρ T
 |none=>none
@[simp] theorem NV:Lm f g ρ T=bnd (f ρ T) (orK g ρ):=rfl
@[simp] theorem NX:orK g ρ (.d (.bool b)) T=if b=true then some (.d (.bool true),T) else g ρ T:=rfl
def AS(w:W)(T:Tp):Option (W×Tp):=match asB w with
 |some b=>some (.d (.bool (!b)),T)
 |none=>none
@[simp] theorem MQ:tE f ρ T=bnd (f ρ T) AS:=rfl
@[simp] theorem MS:AS (.d (.bool b)) T=some (.d (.bool (!b)),T):=rfl
def AX(f g:FE)(ρ:Rho)(b:Bool)(T1:Tp):Option (W×Tp):=if b=true then f ρ T1 else g ρ T1
@[simp] theorem Om:bZ c f g ρ T=bnd (c ρ T) (AX f g ρ):=rfl
@[simp] theorem Nb:AX f g ρ b T=if b=true then f ρ T else g ρ T:=rfl
def chK(o':Pa->Pa->Option Pa)(h:FE)(ρ:Rho)(w2 w:W)(T:Tp):Option (W×Tp):=match asB w with
 |some b=>if b=true then bnd (h ρ T) fun w3 T4=>op2 o' T4 w2 w3 else some (.d (.bool false),T)
 |none=>none
@[simp] theorem Mm:hU o o' f g h ρ T=bnd (f ρ T) fun w1 T1=>bnd (g ρ T1) fun w2 T2=>bnd (op2 o T2 w1 w2) (chK o' h ρ w2):=rfl
@[simp] theorem Ov:chK o' h ρ w (.d (.bool b)) T=if b=true then bnd (h ρ T) fun w3 T4=>op2 o' T4 w w3 else some (.d (.bool false),T):=rfl
@[simp] theorem pb:ah ρ T=some ([],T):=rfl
def Ao(a:FA)(ρ:Rho)(w:W)(T1:Tp):Option (List W×Tp):=bnd (a ρ T1) fun ws T2=>some (w::ws,T2)
@[simp] theorem nY:ae f a ρ T=bnd (f ρ T) (Ao a ρ):=rfl
@[simp] theorem nA:Ao a ρ w T=bnd (a ρ T) fun ws T2=>some (w::ws,T2):=rfl
@[simp] theorem Lz:views T []=some []:=rfl
def mj(x:Pa)(o:Option (List Pa)):Option (List Pa):=match o with
 |some xs=>some (x::xs)
 |none=>none
@[simp] theorem Ml:mj x (some xs)=some (x::xs):=rfl
@[simp] theorem LS:views T (.d x::r)=mj x (views T r):=rfl
@[simp] theorem Ly:views T (.loc (.list xs)::r)=mj (.list xs) (views T r):=rfl
@[simp] theorem LR:d3 []=some []:=rfl
@[simp] theorem Mj:d3 (.d x::r)=mj x (d3 r):=rfl
def sqK(mk:List Pa->Pa)(T:Tp):Option (List Pa)->Option (W×Tp)
 |some xs=>if xs.length<=1000 then some (.d (mk xs),T) else none
 |none=>none
@[simp] theorem ME:aA mk a ρ T=bnd (a ρ T) fun ws T1=>sqK mk T1 (d3 ws):=rfl
@[simp] theorem NP:sqK mk T (some xs)=if xs.length<=1000 then some (.d (mk xs),T) else none:=rfl
def cbK(o:List Pa->Option Pa)(T:Tp)(v:Option (List Pa)):Option (W×Tp):=match v with
 | some xs=>(match o xs with
  |some d=>some (.d d,T)
  | none=>none)
 |none=>none
@[simp] theorem OK:fCB o a ρ T=bnd (a ρ T) fun ws T1=>cbK o T1 (views T1 ws):=rfl
@[simp] theorem Ow:cbK o T (some xs)=mkD T (o xs):=rfl
@[simp] theorem ya:au m a ρ T=bnd (a ρ T) fun ws T1=>bnd (m ws T1) fun x T2=>some (.d x,T2):=rfl
@[simp] theorem Nt:bC it c f ρ T=bnd (it ρ T) fun ds T1=>bnd (bD c f ρ ds T1) fun ys T2=>some (.d (.list ys),T2):=rfl
def itK(T:Tp)(o:Option (List Pa)):Option (List Pa×Tp):=match o with
 |some xs=>some (xs,T)
 |none=>none
def itW:W->Tp->Option (List Pa×Tp):=fun w T1=>match w with
 | .d x=>(match iU x with
  |some xs=>some (xs,T1)
  | none=>none)
 |_=>none
@[simp] theorem M6:bf f ρ T=bnd (f ρ T) itW:=rfl
@[simp] theorem Oh:itW (.d x) T=itK T (iU x):=rfl
@[simp] theorem Oi:itK T (some xs)=some (xs,T):=rfl
@[simp] theorem LP:iU (.list xs)=some xs:=rfl
@[simp] theorem LQ:iU (.dict ds)=some (ds.map (·.1)):=rfl
@[simp] theorem LN:iU (.tuple xs)=some xs:=rfl
@[simp] theorem LO:iU (.str z)=if z.length<=Pp then some (signs z) else none:=rfl
def AG:W->Tp->Option (List Pa×Tp):=fun w T1=>match w with
 |.d (.int j)=>if fX j=true then some (cP 0 j.toNat,T1) else none
 |_=>none
@[simp] theorem MJ:eP f ρ T=bnd (f ρ T) AG:=rfl
@[simp] theorem MI:AG (.d (.int j)) T=if fX j=true then some (cP 0 j.toNat,T) else none:=rfl
@[simp] theorem zq:bH i it s ρ T=bnd (it ρ T) fun ds T1=>forL i s ds ρ T1:=rfl
@[simp] theorem NO:fG (.int i) (.int j)=some (.int (i-j)):=rfl
@[simp] theorem N4:gJ (.int i) (.int j)=if 0<j then some (.int (i % j)) else none:=rfl
@[simp] theorem Nj:KF (.int i) (.int j)=if 0<j/\j<1073741824 then some (.int (i / j)) else none:=rfl
@[simp] theorem NU:fH (.int i) (.int j)=if 0<=j/\j<=1000000/\i.natAbs<2^64 then some (.int (i^j.toNat)) else none:=rfl
@[simp] theorem OF:ltD (.int i) (.int j)=some (.bool (decide (i<j))):=rfl
@[simp] theorem OG:leD (.int i) (.int j)=some (.bool (decide (i<=j))):=rfl
@[simp] theorem OI:gtD (.int i) (.int j)=some (.bool (decide (j<i))):=rfl
@[simp] theorem OJ:geD (.int i) (.int j)=some (.bool (decide (j<=i))):=rfl
@[simp] theorem yb:aV (.int i) (.int j)=some (.int (i+j)):=rfl
@[simp] theorem GT:aV (.str u) (.str v)=if u.length+v.length<=Pp then some (.str (u++v)) else none:=rfl
@[simp] theorem NC:aV (.tuple u) (.tuple v)=if u.length+v.length<=Pp then some (.tuple (u++v)) else none:=rfl
@[simp] theorem ND:aV (.list u) (.list v)=if u.length+v.length<=Pp then some (.list (u++v)) else none:=rfl
@[simp] theorem MU:eU (.int i) (.int j)=if (-(2^64)<i/\i<2^64)\/(-(2^64)<j/\j<2^64) then some (.int (i*j)) else none:=rfl
@[simp] theorem GS:eU (.str z) (.int k)=if 0<=k/\k<=2000/\z.length<=1000 then some (.str (Tt z k)) else none:=rfl
@[simp] theorem Je:eqD (.int i) (.int j)=some (.bool (decide (i=j))):=rfl
@[simp] theorem Ot:eqD (.str i) (.str j)=some (.bool (decide (i=j))):=rfl
@[simp] theorem Ou:eqD (.bool i) (.bool j)=some (.bool (decide (i=j))):=rfl
@[simp] theorem N2:neD (.int i) (.int j)=some (.bool (!decide (i=j))):=rfl
@[simp] theorem N1:neD (.str i) (.str j)=some (.bool (!decide (i=j))):=rfl
@[simp] theorem N3:neD (.bool i) (.bool j)=some (.bool (!decide (i=j))):=rfl
@[simp] theorem OH:isD x .none=some (.bool (isNone x)):=by cases x <;> rfl
@[simp] theorem Mg:iV (.bool i) (.bool j)=some (.bool (i != j)):=rfl
@[simp] theorem N0:gf (.int i)=some (.int (-i)):=rfl
@[simp] theorem Oj:bv k x=some (.bool (cu (kd x) k)):=rfl
@[simp] theorem Og:ixD (.list xs) (.int i)=atI xs i:=rfl
@[simp] theorem Of:ixD (.tuple xs) (.int i)=atI xs i:=rfl
@[simp] theorem Jb:ixD (.str z) (.int i)=if z.length<=Pp then (atI z.cps.toList i).map (fun c=>.str ⟨#[c]⟩) else none:=rfl
@[simp] theorem M4:bb [.list xs]=some (.int xs.length):=rfl
@[simp] theorem M0:bb [.tuple xs]=some (.int xs.length):=rfl
@[simp] theorem M3:bb [.str z]=if z.length<=Pp then some (.int z.length) else none:=rfl
@[simp] theorem Oz:mF [.int i]=some (.int (if i<0 then -i else i)):=rfl
@[simp] theorem N7:Km [.int i,.int j]=some (.int (if j>i then j else i)):=rfl
@[simp] theorem N6:Kl [.int i,.int j]=some (.int (if j<i then j else i)):=rfl
@[simp] theorem LB:bJ [.list xs]=some (.tuple xs):=rfl
@[simp] theorem LA:bJ [.tuple xs]=some (.tuple xs):=rfl
@[simp] theorem Md:gF [.list xs]=some (.list xs):=rfl
@[simp] theorem Mc:gF [.tuple xs]=some (.list xs):=rfl
@[simp] theorem Oc:kd (.int i)=.int:=rfl
@[simp] theorem Oe:kd (.bool i)=.bl:=rfl
@[simp] theorem N9:kd (.str i)=.str:=rfl
@[simp] theorem N8:kd (.tuple i)=.tup:=rfl
@[simp] theorem Ob:kd (.list i)=.lst:=rfl
@[simp] theorem Od:kd (.dict i)=.dct:=rfl
@[simp] theorem Oa:kd .none=.non:=rfl
end
theorem at0{α:Type}{a b c:α}:atI [a,b,c] 0=some a:=rfl
theorem at1{α:Type}{a b c:α}:atI [a,b,c] 1=some b:=rfl
theorem at2{α:Type}{a b c:α}:atI [a,b,c] 2=some c:=rfl
theorem ix1:ixN 3 1=some 1:=rfl
theorem ix2:ixN 3 2=some 2:=rfl
theorem eE:∀{ds:List Pa},(∀d∈ds,e (some (.d d)::ρ) T=some (.d (g d),T))->bD bu e ρ ds T=some (ds.map g,T)
 |[],_=>rfl
 |d::r,h=>by
  have ih:=eE (ds:=r) fun x hx=>h x (Pg _ hx);have h0:=h d Pi;unfold bD;simp[h0,ih]
theorem ui:∀{ds:List Pa},(∀d∈ds,c (some (.d d)::ρ) T=some (p d,T))->bD c (aa 0) ρ ds T=some (ds.filter p,T)
 |[],_=>rfl
 |d::r,h=>by
  have ih:=ui (ds:=r) fun x hx=>h x (Pg _ hx);have h0:=h d Pi;unfold bD
  cases hp:p d with
  |false=>simp[h0,hp,ih]
  |true=>simp[h0,hp,ih]
theorem uR{α:Type}(p:α->Bool):∀l:List α,i4 (l.map fun d=>.bool (p d))=some (l.map p)
 |[]=>rfl
 |d::r=>by
  show (i4 (r.map fun d=>.bool (p d))).map (p d::·)=_;rw[uR p r];rfl
theorem qG{α:Type}(p:α->Int):∀l:List α,gG (l.map fun d=>.int (p d))=some (l.map p)
 |[]=>rfl
 |d::r=>by
  show (gG (r.map fun d=>.int (p d))).map (p d::·)=_;rw[qG p r];rfl
theorem mQ{α:Type}(p:α->Str):∀l:List α,eM (l.map fun d=>.str (p d))=some (l.map p)
 |[]=>rfl
 |d::r=>by
  show (eM (r.map fun d=>.str (p d))).map (p d::·)=_;rw[mQ p r];rfl
@[simp] theorem Jg{α:Type}(p:α->Bool)(l:List α):gi [.list (l.map fun d=>.bool (p d))]=some (.bool (l.all p)):=by
 show (i4 _).map (fun bs=>WP (bs.all id))=_;rw[uR,Vc,Wh];rfl
@[simp] theorem NN{α:Type}(p:α->Int)(l:List α):kj [.list (l.map fun d=>.int (p d))]=some (.int (l.map p).sum):=by
 show (gG _).map (fun bs=>RH bs.sum)=_;rw[qG,Vc]
@[simp] theorem MX{α:Type}(p:α->Int)(l:List α)(k:Int):lU (.list (l.map fun d=>.int (p d))) (.int k)=some (.int (K1.cK k (l.map p))):=by
 show (gG _).map (fun bs=>RH (K1.cK k bs))=_;rw[qG,Vc]
def lH(y:Str):Pa->Bool
 |.str z=>kq y z
 |_=>false
theorem EQ(y:Str)(c:Nat):kq y ⟨#[c]⟩=decide (c∈y.cps.toList):=StrLaws.found_one ..
@[simp] theorem Ol:inD (.str x) (.str y)=some (.bool (kq y x)):=rfl
theorem u7(h:d∈D.signs x):∃c,c∈x.cps.toList/\d=.str ⟨#[c]⟩:=by
 obtain⟨c,hc,rfl⟩:=Pq.mp h;exact⟨c,hc,rfl⟩
section
variable {X:Cx}
def FH:Pa->Pa->Option Pa
 |.str z,.str y=>some (.bool (Xi z y))
 |_,_=>none
theorem DY:CallR X (.type "int") (fun xs H Q=>∃x n,xs=[.str x]/\Vt x=some n/\x.length<=640/\Q (.int n) H):=by
 intro pins s σ H xs us Q I r h;obtain⟨x,n,rfl,hn,hl,q⟩:=h;obtain⟨u,rfl,ru⟩:=vals1 r;obtain⟨t,rfl⟩:=ru;exact PySem.W.KIN.call_text hn hl ⟨.int n,H,I.tok _,⟨_,rfl⟩,q⟩
noncomputable def intD:List Pa->Option Pa
 |[.int i]=>some (.int i)
 |[.bool b]=>some (.int (if b then 1 else 0))
 |[.str x]=>if x.length<=640 then (Vt x).map .int else none
 |_=>none
theorem tH:gb X (.type "int") intD:=⟨_,call_int1.or DY,fun O ts H T vs xs d Q hc h e q=>by
 unfold intD at e;split at e
 .cases e
  obtain⟨v,rfl,g⟩:=dz h;cases g.int;exact .inl (.inl ⟨_,rfl,q _ H (.refl _ _) hc (.int _)⟩)
 .cases e
  obtain⟨v,rfl,g⟩:=dz h;cases g.bl;exact .inl (.inr ⟨_,rfl,q _ H (.refl _ _) hc (.int _)⟩)
 .split at e
  .rename_i hz
   obtain⟨n,e1,rfl⟩:=P7.mp e;obtain⟨v,rfl,g⟩:=dz h;cases g.str;exact .inr ⟨_,n,rfl,e1,hz,q _ H (.refl _ _) hc (.int _)⟩
  .cases e
 .cases e⟩
end
@[simp] theorem LC:FH (.str z) (.str y)=some (.bool (Xi z y)):=rfl
@[simp] theorem M7:intD [.str x]=if x.length<=640 then (Vt x).map .int else none:=rfl
@[simp] theorem M8:intD [.int i]=some (.int i):=rfl
@[simp] theorem M9:intD [.bool b]=some (.int (if b then 1 else 0)):=rfl
def eqG(x y:Pa):Option PyData:=if PR x=true/\PR y=true then some (.bool (Qc x y)) else none
def neG(x y:Pa):Option PyData:=if PR x=true/\PR y=true then some (.bool (!PyData.eqv x y)) else none
section
variable {X:Cx}
theorem Vw.reads(I:Inv X pins σ H s)(h:Vw X.K O H v d)(r:RelV v u):∃as,Yb s.heap u d as:=by
 cases h with
 |rep h=>obtain⟨as,rd,_⟩:=h.reads I r;exact⟨as,rd⟩
 |raw h hs=>
  cases r;obtain⟨its,rv,pl,_⟩:=I.list (SqL.of h);obtain⟨o,n,e,c,_,dd⟩:=pl;obtain⟨as,rd,_⟩:=hs.reads I rv;exact⟨_,.list e c dd (by simpa using rd)⟩
 |rawD h rk=>
  cases r;obtain⟨z,y,vs,kv,o,es,ep,e,ed,dd,_,ek,_⟩:=(show ObjOk X.prog X.w H s.heap _ (.dK _) from I.hok _ _ h);obtain⟨bs,q1,q2,f⟩:=RepK.reads I rk kv ek;exact⟨_,.dict (as:=[]) (bs:=bs) e ed.1 dd q1 q2⟩
theorem Io(hr:Room k X.A):OpR X (PU .Eq) (fun x y H Q=>∃O d1 d2,Vw X.K O H x d1/\Vw X.K O H y d2/\PR d1=true/\PR d2=true/\Q (.bl (Qc d1 d2)) H):=by
 intro pins s σ H x y v u Q I rx ry h;obtain⟨O,d1,d2,h1,h2,s1,s2,q⟩:=h;obtain⟨as,r1⟩:=h1.reads I rx;obtain⟨bs,r2⟩:=h2.reads I ry;exact SeqAt.compareEq_shaped r1 r2 s1 s2 (by have:=hr.un;omega) ⟨.bl _,H,I,rfl,q⟩
theorem Ii(hr:Room k X.A):OpR X (PU .NotEq) (fun x y H Q=>∃O d1 d2,Vw X.K O H x d1/\Vw X.K O H y d2/\PR d1=true/\PR d2=true/\Q (.bl (!PyData.eqv d1 d2)) H):=by
 intro pins s σ H x y v u Q I rx ry h;obtain⟨O,d1,d2,h1,h2,s1,s2,q⟩:=h;obtain⟨as,r1⟩:=h1.reads I rx;obtain⟨bs,r2⟩:=h2.reads I ry;exact SeqAt.compareNe_shaped r1 r2 s1 s2 (by have:=hr.un;omega) ⟨.bl _,H,I,rfl,q⟩
theorem z6(hr:Room k X.A):OpD X (PU .Eq) eqG:=⟨_,Io hr,fun O ts H T v1 v2 x y d Q hc h1 h2 e q=>by
 unfold eqG at e;split at e
 .rename_i h
  cases e;exact⟨O,x,y,h1,h2,h.1,h.2,q _ H (.refl _ _) hc (.bl _)⟩
 .cases e⟩
theorem lQ(hr:Room k X.A):OpD X (PU .NotEq) neG:=⟨_,Ii hr,fun O ts H T v1 v2 x y d Q hc h1 h2 e q=>by
 unfold neG at e;split at e
 .rename_i h
  cases e;exact⟨O,x,y,h1,h2,h.1,h.2,q _ H (.refl _ _) hc (.bl _)⟩
 .cases e⟩
open Classical in
def mE(h:Heap)(x:Pa)(v:Pb):Bool:=if e:∃p:Pa×List Addr,Yb h v p.1 p.2 then Qc e.choose.1 x else false
theorem yf(r:Yb h v d as):mE h x v=Qc d x:=by
 have e:∃p:Pa×List Addr,Yb h v p.1 p.2:=⟨(d,as),r⟩;unfold mE;rw[dif_pos e];have:=(T6 e.choose_spec d as r).1;rw[this]
theorem wu:∀{vs:List Pb}{ds:List Pa}{as:List Addr},Wg h vs ds as->vs.any (mE h x)=ds.any fun d=>Qc d x
 |_,_,_,.nil=>rfl
 |_,_,_,.cons r rs=>by rw[Q6,Q6,yf r,wu rs]
theorem readsAll_mem:∀{vs:List Pb}{ds:List Pa}{as:List Addr}{v:Pb},Wg h vs ds as->v∈vs->∃d bs,d∈ds/\Yb h v d bs
 |_,_,_,_,.cons r rs,hm=>by
  rcases Pt.mp hm with z|z
  .subst z;exact⟨_,_,Pi,r⟩
  .obtain⟨d,bs,h1,h2⟩:=readsAll_mem rs z
   exact⟨d,bs,Pg _ h1,h2⟩
noncomputable def inG:Pa->Pa->Option Pa
 |x,.tuple ys=>if PR x=true/\ys.all PR=true then some (.bool (ys.any fun y=>Qc y x)) else none
 |_,_=>none
theorem Il(hr:Room k X.A):OpR X (PU .In) (fun x y H Q=>∃O d1 a vs ds,Vw X.K O H x d1/\y=.ref a/\SqT X.K H a vs/\Reps X.K O H vs ds/\PR d1=true/\ds.all PR=true/\Q (.bl (ds.any fun y=>Qc y d1)) H):=by
 intro pins s σ H x y v u Q I rx ry h;obtain⟨O,d1,a,vs,ds,h1,rfl,h2,h3,s1,s2,q⟩:=h;cases ry;obtain⟨as,r1⟩:=h1.reads I rx;obtain⟨its,rv,p1,_⟩:=I.tuple h2;obtain⟨bs,r2,_⟩:=h3.reads I rv;refine Wv (mE s.heap d1) p1 (fun y hy=>?_) ?_
 .obtain⟨d,cs,hd,rd⟩:=readsAll_mem r2 (by simpa using hy)
  rw[yf rd];have sd:=PB.mp s2 d hd;refine SeqAt.eqAt_reads d d1 _ s y v _ _ rd r1 (U5 sd) (U5 s1) (SeqAt.room_of_shaped sd ?_);have:=hr.un;show X.A.in1.units+64<TL
  have e:X.A.in1.units<=X.A.units+1:=by simp[YB]
  omega
 .have e:its.toArray.any (mE s.heap d1)=ds.any fun y=>Qc y d1:=by
   rw[←wu r2];simp
  rw[e];exact⟨.bl _,H,I,rfl,q⟩
theorem z5(hr:Room k X.A):OpD X (PU .In) inG:=⟨_,Il hr,fun O ts H T v1 v2 x y d Q hc h1 h2 e q=>by
 unfold inG at e;split at e
 .split at e
  .rename_i h
   cases e;obtain⟨a,vs,rfl,t,r⟩:=h2.tup;exact⟨O,x,a,vs,_,h1,rfl,t.sq,r,h.1,h.2,q _ H (.refl _ _) hc (.bl _)⟩
  .cases e
 .cases e⟩
end
theorem Dd(l:Addr)(items:Array Pb)(n:Nat)(b:Addr)(items2:Array Pb)(n2:Nat)(dd:Option Addr)(sl:Array (Option Pb))(hc0:¬(!items.isEmpty&&RG (items.size+items2.size))=true)(hc1:items.size<=Pp)(hs2:items.size+items2.size<=Pp+1) :
  Meets (SN.«list.extend» ⟨[.ref l,.ref b],[]⟩) (fun _ R s=>s.heap.get? l=some { cls:=.type "list",dict:=none,data:=.seq items n,slots:=#[] }/\s.heap.get? b=some { cls:=.type "list",dict:=dd,data:=.seq items2 n2,slots:=sl }/\R (.ok (.ret Qq)) { s with heap:=s.heap.update l (SY fun x=>x++items2),toks:=s.toks }):=
 .of_wp fun prog w A R s h=>by
  obtain⟨hp,g,d,tk,os⟩:=s;obtain⟨hl,hb,h⟩:=h;have f1:=AutoSeq1.idx_int;have f2:=Uu;have f3:=AutoSeq1.sub_list_list;have f4:=AutoSeq1.sub_tuple_list;have f5:=AutoSeq1.sub_list_tuple
  have hz':(items++items2).size<=Pp+1:=by rw[Wi];exact hs2
  wp_walk using(Tf hl rfl (hz:=hc1) (_hz':=hz')),WW hl,WW hb;exact⟨_,rfl,h⟩
section
variable {X:Cx}
theorem Iz:MtM X "list.extend" (fun x vs H Q=>∃l b xs zs,x=.ref l/\vs=[.ref b]/\H l=some (.lst xs)/\SqL X.K H b zs/\xs.length+zs.length<=Pp/\Q .non (upd H l (.lst (xs++zs)))):=by
 intro pins s σ H x vs v us Q I rx rv h;obtain⟨l,b,xs,zs,rfl,rfl,hH,hB,hz,q⟩:=h;cases rx;obtain⟨u,rfl,ru⟩:=rv.one;cases ru;obtain⟨z,its,n,r,hl,e⟩:=I.lstM hH;obtain⟨its2,r2,pl,_⟩:=I.list hB;obtain⟨⟨cls2,dd2,data2,sl2⟩,n2,e2,c2,_,d2⟩:=pl;simp only at c2 d2;subst c2 d2;have hl2:=r2.length
 have hsz:its.toArray.size+its2.toArray.size<=sizeLine:=by rw[Pr,Pr];omega
 have hlong:¬(!its.toArray.isEmpty&&RG (its.toArray.size+its2.toArray.size))=true:=by
  rw[EC hsz,Bool.and_false];exact Pu
 refine TX F.slot_list_extend ⟨_,e,rfl⟩ F.entry_list_extend (F.args_list_extend_2 _ _)
  (Dd l its.toArray n b its2.toArray n2 dd2 sl2 hlong (by rw[Pr];omega) (by omega)) ⟨e,e2,?_⟩
 refine⟨.non,_,I.lset (its':=its++its2) hH e (by simp) (r.append r2) ?_,rfl,q⟩;rw[PN];omega
variable {pos:Pos}{e:Expr}{fe:FE}
def iu(i:Nat)(f:FE):FS:=fun ρ T=>bnd (f ρ T) fun w T1=>match w,ρ[i]? with
 |.d (.list ys),some (some (.loc (.list xs)))=>if xs.length+ys.length<=Pp then some ((.nx,ρ.set i (some (.loc (.list (xs++ys))))),T1) else none
 |_,_=>none
theorem zw(he:DE X e fe)(hN:X.N[i]? = some x:=by rfl)(hv:Vis X.env.scope x:=by first|exact QM rfl|exact Qx (QM rfl)|exact Qx (Qx rfl))(hd:(x == ("__debug__" : Str))=false:=by decide)
  (hcd:(x == ("__classdict__" : Str))=false:=by decide) 
  (hbase:Q7 (.Name x p) "extend" X.env (eval (.Name x p) X.env)=eval (.Name x p) X.env:=by rfl)
  (hfew:((Qg cpos (Pk [e] X.env)).all (fun x=>!x.1)&&(Rq cpos (QH [] X.env)).all (fun x=>x.1.isSome)
   && decide (([e]:List Expr).length+([]:List Rb).length+(if ([]:List Rb).isEmpty then 0 else 1)<30))=true:=by exact qg rfl)
  (hline:(apos.endLine == cpos.line)=true:=by rfl) (hse:Pk [e] X.env=(false,eval e X.env)::Pk [] X.env:=by exact bc rfl) (hplain:(Qg cpos (Pk [] X.env)).any (·.1)=false:=by exact bN rfl)
  (hs:QL (.Call (.Attribute (.Name x p) "extend" apos) [e] [] cpos) none pos.line X.env=pure false:=by rfl) :
  DS X (.Expr (.Call (.Attribute (.Name x p) "extend" apos) [e] [] cpos) pos) (iu i fe):=by
 refine⟨?_⟩;refine bY (rL (lP SA PySem.F.slot_list_extend PySem.F.type_list_extend Iz (pv i hN hv hd hcd) (bw he.pe cG hse) hbase hfew hline hse hplain) hs) fun D σ H=>?_;rintro⟨O₀,H₀,F,ts,O,ρ,T,fl,ρ',T',rs,e,q⟩;obtain⟨w,T1,e1,e⟩:=aN e;split at e
 .rename_i ys xs h1
  split at e
  .rename_i h2
   cases e;obtain⟨v,k1,a,rfl,k2,k3,vs,k4,k5⟩:=rs.re i _ h1;refine⟨_,k1,.inl ⟨rfl,vs,SqL.of k4⟩,O,ts,ρ,T,_,_,rs.hc,rs.re,e1,fun u H1 s1 hc1 r1=>?_⟩;have rs1:=rs.step s1 hc1;have r1':Rep X.K O H1 u (.list ys):=r1
   cases r1' with
   |lst t r=>
    rename_i b us;exact⟨a,b,vs,us,rfl,rfl,s1 _ _ k3 k4,t.sq,by rw[k5.length,r.length];exact h2,q O _ _ (rs1.put (us:=[]) h1 k1 ((k5.mono (rs.hc.le s1)).append r))⟩
  .cases e
 .cases e
end
section
variable {X:Cx}{pos:Pos}{e:Expr}{f:FE}{x:Str}{p:Pos}{B:List (Str×Int)}
end
end D
namespace L2
open K1 (dF cK)
section
variable {prog:Px}{w:PY}{A:PZ}{R:W7->Pf->Prop}{it S:Addr}{fp wr:List Addr}{P:Nat->Pb->Prop}{St:Nat->Heap->Prop}{ns:List Int}{kw:List (Str×Pb)}
end
section
variable {X:Cx}
end
end L2
namespace D
open L2
section
variable {X:Cx}{pos:Pos}{e:Expr}{f:FE}{x:Str}{p:Pos}
variable {B:List (Str×Int)}
def nH:List Pb->List Str->Bool
 |[],[]=>true
 |.str x _::r,y::s=>decide (x=y)&&nH r s
 |_,_=>false
def jD(look:Addr->Option Obj)(a:Addr)(ss:List Str):Bool:=match look a with
 |some ⟨.type n,_,.seq its _,_⟩=>decide (n="tuple")&&nH its.toList ss
 |_=>false
def tQ(K:Frag)(mg:Str->Option Pb)(x:Str)(ss:List Str):Prop:=∃a,mg x=some (.ref a)/\jD (fun b=>K.lookup b) a ss=true
theorem uY:∀{vs:List Pb}{ss:List Str},nH vs ss=true->Vals (ss.map V.str) vs
 |[],[],_=>.nil
 |.str x t::r,y::s,h=>by
  have h':(decide (x=y)&&nH r s)=true:=h;rw[Po] at h';exact .cons ⟨t,by rw[of_decide_eq_true h'.1]⟩ (uY h'.2)
theorem vc{K:Frag}{O:Addr->Prop}{H:Hp}:∀ss:List Str,Reps K O H (ss.map V.str) (ss.map PV)
 |[]=>.nil
 |x::r=>.cons (.str x) (vc r)
theorem rA(hg:Gl X x)(ht:tQ X.K X.mg x ss)(hz:ss.length<=sizeLine:=by decide)(hd:(x == ("__debug__" : Str))=false:=by decide):DE X (.Name x p) (fC (.tuple (ss.map PV))):=by
 obtain⟨a,hx,hl⟩:=ht;refine⟨?_⟩;refine pe_imp (c4 (v:=.ref a) hg hx rfl hd) (iS fun O H=>?_);unfold jD at hl;split at hl
 .rename_i n dd its c sl hk
  rw[Po] at hl;have rv:=uY hl.2;have hn:=of_decide_eq_true hl.1;subst hn;refine .tup (vs:=ss.map V.str) (.inr (.inr ⟨_,its,c,hk,rfl,rfl,?_,rv⟩)) (vc ss);have:=rv.length;rw[Qb] at this;have e2:its.toList.length=its.size:=Q0;omega
 .cases hl
def p7(o:Obj)(ss:List Str):Bool:=jD (fun _=>some o) 0 ss
theorem uV{K:Frag}(h:K.lookup a=some o)(g:p7 o ss=true):jD (fun b=>K.lookup b) a ss=true:=by
 unfold p7 jD at g;unfold jD;dsimp only;rw[h];exact g
end
mutual
def a7:Pa->Bool
 |.tuple ds=>br ds
 |.list _=>false
 |.dict _=>false
 |_=>true
def br:List Pa->Bool
 |[]=>true
 |d::r=>a7 d&&br r
end
section
variable {K:Frag}{O:Addr->Prop}{H:Hp}
theorem TupAt.own(hm:∀b,O b->Mut (H b))(t:TupAt K (fun _=>False) H a vs):TupAt K O H a vs:=by
 rcases t with⟨_,t⟩|t
 .refine .inl ⟨fun z=>?_,t⟩
  rcases hm a z with⟨us,e⟩|⟨us,e⟩|⟨C,dx,us,e⟩ <;> rcases t with t|⟨o,t⟩ <;> (rw[e] at t;cases t)
 .exact .inr t
mutual
theorem Rep.own(hm:∀b,O b->Mut (H b)):∀{v:V}{d:Pa},Rep K (fun _=>False) H v d->a7 d=true->Rep K O H v d
 |_,_,.non,_=>.non
 |_,_,.bl b,_=>.bl b
 |_,_,.int i,_=>.int i
 |_,_,.str x,_=>.str x
 |_,_,.tup t r,h=>.tup (t.own hm) (Reps.own hm r (by simpa[a7] using h))
 |_,_,.lst t r,h=>by simp[a7] at h
 |_,_,.dct n t r,h=>by simp[a7] at h
theorem Reps.own(hm:∀b,O b->Mut (H b)):∀{vs:List V}{ds:List Pa},Reps K (fun _=>False) H vs ds->br ds=true->Reps K O H vs ds
 |_,_,.nil,_=>.nil
 |_,_,.cons (d:=d) (ds:=ds) r t,h=>by
  have h':(a7 d&&br ds)=true:=by simpa[br] using h
  rw[Po] at h';exact .cons (Rep.own hm r h'.1) (Reps.own hm t h'.2)
end
end
def ms:List W->Bool
 |[]=>true
 |.tp _::_=>false
 |.loc (.dict _)::_=>false
 |_::r=>ms r
theorem tN{K:Frag}{O:Addr->Prop}{ts:List Addr}{H:Hp}:∀{vs:List V}{ws:List W},fF K O ts H vs ws->ms ws=true->fF K (fun _=>False) [] H vs (ws.map kr)
 |_,[],.nil,_=>.nil
 |_,.d x::r,.cons h t,e=>.cons (show Rep K (fun _=>False) H _ x from Rep.mono (fun a o n e=>⟨fun z=>z,e⟩) h) (tN t e)
 |_,.tp _::_,.cons _ _,e=>by cases e
 |_,.loc x::r,.cons h t,e=>by
  have le:Le O H (fun _=>False) H:=fun a o n e=>⟨fun z=>z,e⟩;obtain⟨a,rfl,_,_,h3⟩:=h
  cases x with
  |list xs=>obtain⟨vs,h1,h2⟩:=h3;exact .cons (.lst (.inl ⟨fun z=>z,.inl h1⟩) (h2.mono le)) (tN t e)
  |dict xs=>cases e
  |_=>cases h3
def hW(m:FnM)(g:FA):FE:=fun ρ T=>bnd (g ρ T) fun ws T1=>if ms ws=true then (match m (ws.map kr) [] with
 |some (x,_)=>if a7 x=true then some (.d x,T1) else none
 | none=>none) else none
theorem rB(F:Fn X.prog X.w X.K X.mg X.base name ps k (spM X.K ps.length m))(hr:Room k X.A)(hg:Gl X name)(ha:DA X (e::es) g)(hl:dQ g ps.length)(hdb:(name == ("__debug__" : Str))=false:=by decide)
  (he:Pk (e::es) X.env=(false,eval e X.env)::Pk es X.env:=by exact bc rfl) (hpl:(Qg pos (Pk es X.env)).any (·.1)=false:=by exact bN rfl):DE X (.Call (.Name name p) (e::es) [] pos) (hW m g):=by
 refine⟨?_⟩;refine pe_imp (i7 F hr hg ha.pe hdb he hpl) fun σ H Q=>?_;rintro⟨O,ts,ρ,T,w,T',hc,re,e,q⟩;obtain⟨ws,T1,e1,e⟩:=aN e;split at e
 .rename_i hn
  split at e
  .rename_i x T2 e2
   split at e
   .rename_i hx
    cases e;refine⟨O,ts,ρ,T,ws,_,hc,re,e1,fun vs H1 s1 hc1 r1=>?_⟩;refine⟨fun _=>False,[],[],ws.map kr,x,T2,⟨fun b hb=>(by cases hb),fun b hb=>hb.elim,T7,rfl,fun i a xs e1 _=>by simp at e1⟩,by rw[Qv];exact tN r1 hn,by rw[Qb];exact hl _ _ _ _ e1,e2,fun v H2 s2 hc2 r2=>?_⟩;have s2':SameX ts H1 H2:=fun b o _ q=>s2 b o (by simp) q
    have hm:∀b,O b->Mut (H2 b):=fun b hb=>by
     exact(hc1.trk b hb).to fun u z=>s2 b _ (by simp) z
    have hc2':=hc1.step s2' fun b hb=>by
     obtain⟨u,z⟩:=(hc1.trk b (hc1.own b hb)).ex;rw[z];exact s2 b _ (by simp) z
    exact q v H2 (s1.trans s2') hc2' (Rep.own hm r2 hx)
   .cases e
  .cases e
 .cases e
def ay(ds:List (Pa×Pa))(s:Str):Option PyData:=match ds with
 |[]=>none
 |(.str k,d)::r=>if k=s then some d else ay r s
 |_::r=>ay r s
theorem gX{K:Frag}{O:Addr->Prop}{H:Hp}{s:Str}:∀{kvs:List (Key×V)}{ds:List (Pa×Pa)},RepK K O H kvs ds->(ay ds s=none/\bM kvs (Qf s:Key)=none)\/∃v d,ay ds s=some d/\bM kvs (Qf s:Key)=some v/\Rep K O H v d
 |_,_,.nil=>.inl ⟨rfl,rfl⟩
 |_,_,.cons (k:=.inl i) (v:=v) (d:=d) (kvs:=kvs) (ds:=ds) r t=>by
  have e:bM (((UQ i:Key),v)::kvs) (Qf s:Key)=bM kvs (Qf s:Key):=by simp[bM,QS]
  rw[e];show (ay ds s=none/\_)\/∃v d,ay ds s=some d/\_;exact gX (s:=s) t
 |_,_,.cons (k:=.inr k) (v:=v) (d:=d) (kvs:=kvs) (ds:=ds) r t=>by
  by_cases hk:k=s
  .subst hk
   exact .inr ⟨v,d,by show (if k=k then some d else ay ds k)=some d;rw[if_pos rfl],by simp[bM,QS],r⟩
  .have e:bM (((Qf k:Key),v)::kvs) (Qf s:Key)=bM kvs (Qf s:Key):=by simp[bM,QS,hk]
   have e2:ay ((gK (Qf k:Key),d)::ds) s=ay ds s:=by show (if k=s then some d else ay ds s)=_;rw[if_neg hk]
   rw[e,e2];exact gX (s:=s) t
theorem DGet.rd(e:Rd H a (.dK kvs)):DGet H a (kV k) (bM kvs k):=.inl ⟨kvs,k,e,rfl,rfl⟩
section
variable {X:Cx}{pos:Pos}{k:Nat}
theorem lX(hr:Room k A):A.units+1<cLine:=by have:=hr.un;omega
end
section
variable {K:Frag}{O₀:Addr->Prop}{H₀:Hp}{F:List ((Addr->Prop)×Hp)}{ts:List Addr}{O:Addr->Prop}{H H1:Hp}{σ:L2.St}{ρ:Rho}{T T1:Tp}
end
section
variable {X:Cx}{pos:Pos}
noncomputable def bT(ds:List (Pa×Pa))(s:Str)(x:Pa):List (Pa×Pa):=match ds with
 |[]=>[]
 |(.str k,d)::r=>if k=s then (.str k,x)::bT r s x else (.str k,d)::bT r s x
 |p::r=>p::bT r s x
theorem qD{K:Frag}{O:Addr->Prop}{H:Hp}{s:Str}{v:V}{x:Pa}(rx:Rep K O H v x):∀{kvs:List (Key×V)}{ds:List (Pa×Pa)},RepK K O H kvs ds->RepK K O H (kvs.map fun kv=>if kv.1=(Qf s:Key) then (kv.1,v) else kv) (bT ds s x)
 |_,_,.nil=>.nil
 |_,_,.cons (k:=.inl i) r t=>by
  rw[Pz];rw[if_neg (by intro z;cases z)];exact .cons (k:=.inl i) r (qD rx t)
 |_,_,.cons (k:=.inr k) (v:=u) (d:=d) (kvs:=kvs) (ds:=ds) r t=>by
  rw[Pz];have ih:=qD (s:=s) rx t;show RepK K O H _ (if k=s then (.str k,x)::bT ds s x else (.str k,d)::bT ds s x)
  by_cases hk:k=s
  .rw[if_pos hk,if_pos (by rw[hk])]
   exact .cons (k:=.inr k) rx ih
  .rw[if_neg hk,if_neg (fun z=>hk (WF z))]
   exact .cons (k:=.inr k) r ih
theorem nu{K:Frag}{O:Addr->Prop}{H:Hp}:∀{kvs:List (Key×V)}{ds:List (Pa×Pa)},RepK K O H kvs ds->kvs.length=ds.length
 |_,_,.nil=>rfl
 |_,_,.cons _ t=>congrArg (· + 1) (nu t)
theorem CL{kvs:List (Key×V)}(h:(bM kvs k).isSome=true):(kvs.any fun kv=>decide (kv.1=k))=true:=by
 unfold bM at h;rw[SJ] at h;rw[Wz];obtain⟨p,hp⟩:=Qh.mp h;exact⟨p,List.mem_of_find?_eq_some hp,by have:=List.find?_some hp;simpa using this⟩
end
section
variable {X:Cx}{pos:Pos}{e:Expr}{f:FE}{x:Str}{p:Pos}{B:List (Str×Str)}
def dj(i j:Nat)(f:FE):FS:=fun ρ T=>bnd (f ρ T) fun w T1=>match w with
 |.d (.tuple [x,y])=>some ((.nx,(ρ.set i (some (.d x))).set j (some (.d y))),T1)
 |_=>none
theorem zu(hN:X.N.Nodup)(he:DE X e f)(hi:X.N[i]? = some x:=by rfl)(hj:X.N[j]? = some y:=by rfl)(hx:Loc X.env.scope x:=by first|exact QM rfl|exact Qx rfl)(hy:Loc X.env.scope y:=by first|exact QM rfl|exact Qx rfl)
  (hf:X.fn x=true\/X.env.scope.names.lookup x=some .local:=by first|exact .inl rfl|exact .inr rfl|assumption) (hf':X.fn y=true\/X.env.scope.names.lookup y=some .local:=by first|exact .inl rfl|exact .inr rfl|assumption) (hc:X.calm=true:=by rfl)
  (hs:Up [.Tuple [.Name x px,.Name y py] k tp] e pos.line X.env=pure false:=by rfl) (hw:Uq [.Tuple [.Name x px,.Name y py] k tp] e X.env=pure none:=by rfl)
  (h1:(R5 [.Tuple [.Name x px,.Name y py] k tp] X.env).map (·.2)=[TH (.Tuple [.Name x px,.Name y py] k tp) X.env]:=by rfl):DS X (.Assign [.Tuple [.Name x px,.Name y py] k tp] e pos) (dj i j f):=by
 refine⟨?_⟩;refine bY (sD he.pe (oH hc (gw (fQ hN hi hx hf) (gw (fQ hN hj hy hf') nJ))) hs hw h1) fun D σ H=>?_;rintro⟨O₀,H₀,F,ts,O,ρ,T,fl,ρ',T',rs,e,q⟩;obtain⟨w,T1,e1,e⟩:=aN e;refine⟨O,ts,ρ,T,w,T1,rs.hc,rs.re,e1,fun v H1 s1 hc1 r1=>?_⟩;split at e
 .rename_i a b
  cases e;have rs1:=rs.step s1 hc1;have r1':Rep X.K O H1 v (.tuple [a,b]):=r1
  cases r1' with
  |tup t r=>
   cases r with
   |cons ra r=>
    cases r with
    |cons rb r=>
     cases r;exact⟨_,_,rfl,t.sq,rfl,_,_,rfl,_,_,rfl,rfl,q O _ _ ((rs1.set (w:=.d a) ra fun _ z=>nomatch z).set (w:=.d b) rb fun _ z=>nomatch z)⟩
 .cases e
end
section
variable {K:Frag}{O:Addr->Prop}{ts:List Addr}{H H':Hp}{T:Tp}{n:Nat}{a C:Addr}{ps:List Pa}
end
section
variable {X:Cx}{C:Addr}{o e:Expr}{f m:Str}{pos pos' apos:Pos}{fo fe:FE}
structure Mth(P:Px)(w:PY)(K:Frag)(mg:Str->Option Pb)(base:Heap)(C:Addr)(m:Str)(ps:List Str)(k:Nat)(sp:Sp):Prop where
 ex:∃f fd,FnOk P w K mg base CX0 k f fd ps sp/\Binds K fd ps []/\Meth K C m f
variable {ps:List Str}{k:Nat}{mm:FnM}{g:FA}{es:List Expr}{pl:Sem Bool}
def Ai:FS:=fun _ _=>none
theorem G5{st:Stmt}:DS X st Ai:=⟨fun _ _ _ _ _ _ h=>by
 obtain⟨O₀,H₀,F,ts,O,ρ,T,fl,ρ',T',rs,e,q⟩:=h
 cases e⟩
end
def tw(T:Tp):Option (Tp×List Pa):=match T.getLast? with
 |some xs=>some (T.dropLast,xs)
 |none=>none
theorem EK(h:tw T=some (T1,ys)):T=T1++[ys]:=by
 unfold tw at h;split at h
 .rename_i xs e
  cases h;obtain⟨zs,hl⟩:=List.getLast?_eq_some_iff.mp e;rw[hl];simp
 .cases h
section
variable {X:Cx}{C f:Addr}{e:Expr}{fe:FE}{fr:FS}{rest:List Stmt}{cn x:Str}{p pos pos' cpos:Pos}{ps:List Str}{k i:Nat}{m:FnM}{fd:QQ}
end
end D
namespace L2
section
variable {X:Cx}
end
end L2
namespace D
open L2
section
variable {X:Cx}{pos:Pos}
noncomputable def jZ(i:Nat)(ρ:Rho)(x y:Option Pa)(T:Tp):Option ((Fl×Rho)×Tp):=match x,y with
 |some (.list xs),some (.list ys)=>if xs.length+ys.length<=Pp then some ((.nx,ρ.set i (some (.loc (.list (xs++ys))))),T) else none
 |_,_=>none
def gH(i:Nat)(fa fb:FE):FS:=fun ρ T=>bnd (fa ρ T) fun w1 T1=>bnd (fb ρ T1) fun w2 T2=>jZ i ρ (view T2 w1) (view T2 w2) T2
theorem yi(hN:X.N.Nodup)(ha:DE X a fa)(hb:DE X b fb)(hi:X.N[i]? = some x:=by rfl)(hx:Loc X.env.scope x:=by first|exact QM rfl|exact Qx rfl)(hs:QL (.BinOp a .Add b bpos) (some (.Name x pos')) pos.line X.env=pure false:=by rfl)
  (hf:X.fn x=true\/X.env.scope.names.lookup x=some .local:=by first|exact .inl rfl|exact .inr rfl|assumption):DS X (.Assign [.Name x pos'] (.BinOp a .Add b bpos) pos) (gH i fa fb):=by
 refine⟨?_⟩;refine bY (eL hN hi hx (zY xw ha.pe hb.pe) hs hf) fun D σ H=>?_;rintro⟨O₀,H₀,F,ts,O,ρ,T,fl,ρ',T',rs,e,q⟩;obtain⟨w1,T1,e1,e⟩:=aN e;obtain⟨w2,T2,e2,e⟩:=aN e;refine⟨O,ts,ρ,T,w1,T1,rs.hc,rs.re,e1,fun v1 H1 s1 hc1 r1=>?_⟩;have rs1:=rs.step s1 hc1;refine⟨O,ts,ρ,T1,w2,T2,hc1,rs1.re,e2,fun v2 H2 s2 hc2 r2=>?_⟩;have rs2:=rs1.step s2 hc2;unfold jZ at e;split at e
 .rename_i xs ys h1 h2
  split at e
  .rename_i hz
   cases e;obtain⟨a1,vs,rfl,t1,q1⟩:=(hc2.view (r1.mono hc1 s2) h1).lst;obtain⟨b1,us,rfl,t2,q2⟩:=(hc2.view r2 h2).lst;exact⟨a1,b1,vs,us,rfl,rfl,t1,t2,by rw[q1.length,q2.length];exact hz,fun p hp=>q _ _ _ (rs2.own hp (q1.append q2))⟩
  .cases e
 .cases e
structure Ini(P:Px)(w:PY)(K:Frag)(mg:Str->Option Pb)(base:Heap)(C:Addr)(ps:List Str)(k:Nat)(sp:Sp):Prop where
 ex:∃f fd,FnOk P w K mg base CX0 k f fd ps sp/\L2.Binds K fd ps []/\Mk K C f
structure DfM(K:Frag)(C:Addr)(name qual:Str)(st:Stmt):Prop where
 ex:∃(f:Addr) (oc:Pb) (od an:Option Addr) (sl:Array (Option Pb)) (kV dc pm cd ct:Pb),P4 K (.ref C) name=some (some (.ref f)) /\
  K.lookup f=some ⟨oc,od,.func (QB name qual (dG st) (cj st) (bh st) .none kV dc pm an cd ct),sl⟩/\R7 K cd qual=true/\Qm K (.ref f)=true/\Tn K (.ref f)=true
def Ad(ds:List (Pa×Pa)):List PyData:=ds.map (·.1)
noncomputable def Ko:List Pa->Option Pa
 |[.list xs]=>some (.list xs)
 |[.tuple xs]=>some (.list xs)
 |[.dict ds]=>some (.list (Ad ds))
 |_=>none
theorem IQ(r:Rd H a (.dK kvs)):IsD H a:=.inl ⟨kvs,r⟩
end
theorem Dw(h:Q (WA 4238894112) { s with toks:=s.toks+1 }):PP (PX prog w) A (pyHash .none) Q E s:=by
 show PP (PX prog w) A (pyHashByItsType .none) Q E s;refine PySem.W.pyHash_slot (T:="NoneType") (by first|rfl|trivial|exact⟨_,rfl⟩|simp[Shared.TypeIs]) PySem.F.slot_NoneType_hash PySem.F.entry_NoneType_hash (PySem.F.args_NoneType_hash_1 _) rfl (.inl rfl) ?_;unfold Uv.«NoneType.__hash__»;refine Pd ?_;unfold slotArgs;simp only[];rw[if_neg (by decide),if_neg (by decide)];refine Pw ?_;unfold retInt;refine Pd ?_
 first
  |exact wpAny_mkInt (Pw ⟨_,_,rfl,h⟩)
  |exact wpAny_mkInt (wpAny_ret ⟨_,_,rfl,h⟩)
def AQ:Option Key->Pb->Bool
 |none,.none=>true
 |none,_=>false
 |some k,v=>fB k v
def okH(w:PY):Option Key->Int
 |none=>WA 4238894112
 |some k=>AW w k
theorem fj(h:AQ k v=true):(k=none/\v=.none)\/(∃i t,k=some (.inl i)/\v=.int i t)\/∃x t,k=some (.inr x)/\v=.str x t:=by
 cases k with
 |none=>cases v <;> first|exact .inl ⟨rfl,rfl⟩|cases h
 |some k=>
  rcases eB (show fB k v=true from h) with⟨i,t,rfl,rfl⟩|⟨x,t,rfl,rfl⟩
  .exact .inr (.inl ⟨i,t,rfl,rfl⟩)
  .exact .inr (.inr ⟨x,t,rfl,rfl⟩)
theorem wF(k:Key):decide ((none:Option Key)=some k)=false:=decide_eq_false (fun q=>nomatch q)
theorem vy(k:Key):decide (some k=(none:Option Key))=false:=decide_eq_false (fun q=>nomatch q)
theorem nB(a b:Key):decide (some a=some b)=decide (a=b):=by
 by_cases h:a=b
 .subst h;simp
 .rw[decide_eq_false h,decide_eq_false (fun q=>h (Qa q))]
def nK(prog:Px)(w:PY):XC prog w (Option Key) where
 is:=AQ
 hash:=okH w
 inj:=fun v a b ha hb=>by
  rcases fj ha with⟨rfl,rfl⟩|⟨i,t,rfl,rfl⟩|⟨x,t,rfl,rfl⟩
  .rcases fj hb with⟨rfl,_⟩|⟨j,u,rfl,e⟩|⟨y,u,rfl,e⟩
   .rfl
   .exact nomatch e
   .exact nomatch e
  .rcases fj hb with⟨rfl,e⟩|⟨j,u,rfl,e⟩|⟨y,u,rfl,e⟩
   .exact nomatch e
   .injection e with e1 _;rw[e1]
   .exact nomatch e
  .rcases fj hb with⟨rfl,e⟩|⟨j,u,rfl,e⟩|⟨y,u,rfl,e⟩
   .exact nomatch e
   .exact nomatch e
   .injection e with e1 _;rw[e1]
 byValue:=fun k v h=>by
  rcases fj h with⟨rfl,rfl⟩|⟨i,t,rfl,rfl⟩|⟨x,t,rfl,rfl⟩ <;> rfl
 pyHash:=fun hv h=>by
  rcases fj hv with⟨rfl,rfl⟩|⟨i,t,rfl,rfl⟩|⟨x,t,rfl,rfl⟩
  .exact Dw h
  .exact Wo h
  .exact Wp h
 eqBool:=fun hu hv h=>by
  rcases fj hu with⟨rfl,rfl⟩|⟨i,t,rfl,rfl⟩|⟨x,t,rfl,rfl⟩
  .rcases fj hv with⟨rfl,rfl⟩|⟨j,u,rfl,rfl⟩|⟨y,u,rfl,rfl⟩
   .rw[show decide ((none:Option Key)=none)=true by simp] at h;exact Tc .none _ _ _ _ h
   .rw[wF] at h;exact VE j u _ _ _ _ h
   .rw[wF] at h;exact VF y u _ _ _ _ h
  .rcases fj hv with⟨rfl,rfl⟩|⟨j,u,rfl,rfl⟩|⟨y,u,rfl,rfl⟩
   .rw[vy] at h;exact VG i t _ _ _ _ h
   .rw[nB,zd] at h;exact Wq h
   .rw[nB,zc] at h;exact Tw i t y u _ _ _ _ h
  .rcases fj hv with⟨rfl,rfl⟩|⟨j,u,rfl,rfl⟩|⟨y,u,rfl,rfl⟩
   .rw[vy] at h;exact VH x t _ _ _ _ h
   .rw[nB,y9] at h;exact Tx x t j u _ _ _ _ h
   .rw[nB,y8] at h;exact Wr h
 «strs»:=fun k x t v h=>by
  rcases fj h with⟨rfl,e⟩|⟨i,u,rfl,e⟩|⟨y,u,rfl,e⟩
  .exact nomatch e
  .exact nomatch e
  .injection e with e1 _
   subst e1
   cases v <;> rfl
theorem vf:∀{es:List Ya}{vs:List (Key×Pb)},Pairs (bE P w) es vs->Pairs (nK P w) es (vs.map fun p=>(some p.1,p.2))
 |_,_,.nil=>.nil
 |_,_,.cons h1 h2 t=>.cons h1 h2 (vf t)
theorem wC{h:Heap}{vs:List (Key×Pb)}(d:h.DictOf (bE P w) a vs):h.DictOf (nK P w) a (vs.map fun p=>(some p.1,p.2)):=by
 obtain⟨o,es,ep,e1,e2,e3,e4,e5,e6⟩:=d;refine⟨o,es,ep,e1,e2,e3,fun e he=>?_,vf e5,?_⟩
 .obtain⟨k,k1,k2⟩:=e4 e he
  exact⟨some k,k1,k2⟩
 .rw[Rl]
  show (vs.map fun p=>some p.1).Nodup
  have:(vs.map fun p=>some p.1)=(vs.map (·.1)).map some:=by rw[Rl];rfl
  rw[this];exact List.pairwise_map.mpr (YF (fun h q=>h (Qa q)) e6)
theorem qM:∀(vs:List (Key×Pb)),Ul (vs.map fun p=>((some p.1:Option Key),p.2)) none=none
 |[]=>rfl
 |p::r=>by
  have:=qM r;unfold Ul at this ⊢;rw[Pz,QS];simpa using this
section
variable {X:Cx}
theorem Cq:OpR X (PU .In) (fun x y H Q=>∃a kvs,x=.non/\y=.ref a/\Rd H a (.dK kvs)/\Q (.bl false) H):=by
 intro pins s σ H x y v u Q I rx ry h;obtain⟨a,kvs,rfl,rfl,e,q⟩:=h;cases (show v=Qq from rx);cases (show u=PJ a from ry);obtain⟨z,hd,vs,rel,dd⟩:=dI I.hok e;refine wpAny_in_of (knd:=nK X.prog X.w) (k:=none) rfl hd (wC dd).mapOf ?_;rw[qM];exact⟨.bl false,H,I.tok _,rfl,q⟩
theorem Ip(hr:Room k X.A):OpR X (PU .In) (fun x y H Q=>∃a kvs s,x=.str s/\y=.ref a/\Rd H a (.dK kvs)/\Q (.bl (bM kvs (Qf s:Key)).isSome) H):=by
 intro pins s σ H x y v u Q I rx ry h;obtain⟨a,kvs,z,rfl,rfl,e,q⟩:=h;cases (show u=PJ a from ry);exact Lp (lX hr) I (DGet.rd (k:=Qf z) e) (show RelV (kV (Qf z)) v from rx) fun s' I'=>⟨.bl _,H,I',rfl,q⟩
theorem C2(hr:Room k X.A):OpR X (PU .NotIn) (fun x y H Q=>∃a kvs s,x=.str s/\y=.ref a/\Rd H a (.dK kvs)/\Q (.bl (!(bM kvs (Qf s:Key)).isSome)) H):=by
 intro pins s σ H x y v u Q I rx ry h;obtain⟨a,kvs,z,rfl,rfl,e,q⟩:=h;cases (show u=PJ a from ry);exact G8 (lX hr) I (DGet.rd (k:=Qf z) e) (show RelV (kV (Qf z)) v from rx) fun s' I'=>⟨.bl _,H,I',rfl,q⟩
theorem IK(hr:Room k X.A):IxR X (fun x y H Q=>∃a kvs s v,x=.ref a/\y=.str s/\Rd H a (.dK kvs)/\bM kvs (Qf s:Key)=some v/\Q v H):=by
 intro value slice pins s σ H x y v u Q I rx ry h hs;obtain⟨a,kvs,z,v0,rfl,rfl,e,l,q⟩:=h;cases (show v=PJ a from rx)
 have g:DGet H a (kV (Qf z)) (some v0):=by rw[←l];exact DGet.rd e
 unfold VO;refine Pd ?_;rw[getitemInPython_of_ne (um I g).not_modules];refine Pd (wpAny_specialOf (um I g) PySem.F.slot_dict_getitem.lookup ?_)
 have fin:PP (PX X.prog X.w) X.A (WL slice false (PJ a) u) (fun r s₃=>PP (PX X.prog X.w) X.A (letTemporaryGo value (PJ a) r >>= fun _=>pure r) (EP X pins σ Q) X.xe s₃) X.xe s:=by
  rw[hs];exact wpAny_operating (DN (lX hr) I g (show RelV (kV (Qf z)) u from ry) fun w' s' I' rw'=>Pd (wpAny_letTemporaryGo (Pw ⟨v0,H,I',rw',q⟩)))
 first
  |exact Pw (Pd fin)
  |exact Pd (Pw (Pd fin))
  |exact Pd fin
def inK(s:Pa)(ds:List (Pa×Pa)):Option Bool:=match s with
 |.str s=>some (ay ds s).isSome
 |.none=>some false
 |_=>none
def inB(x y:Pa):Option Bool:=match y with
 |.dict ds=>inK x ds
 |y=>inS x y
def inA(x y:Pa):Option PyData:=(inB x y).map .bool
noncomputable def c8(x y:Pa):Option PyData:=match x,y with
 |.str s,.dict ds=>some (.bool (!(ay ds s).isSome))
 |_,.dict _=>none
 |x,y=>(inS x y).map fun b=>.bool (!b)
theorem lS(hr:Room k X.A):OpD X (PU .In) inA:=⟨_,(op_in_str.or vg).or ((Ip hr).or Cq),fun O ts H T v1 v2 x y d Q hc h1 h2 e q=>by
 unfold inA at e
 by_cases hd:∃ds,y=.dict ds
 .obtain⟨ds,rfl⟩:=hd
  obtain⟨a,kvs,rfl,t,r⟩:=h2.dct;obtain⟨b,hb,rfl⟩:=P7.mp e;have hb':inK x ds=some b:=hb;unfold inK at hb';split at hb'
  .rename_i s
   cases hb';cases h1.str;refine .inr (.inl ⟨a,kvs,s,rfl,rfl,t,?_⟩)
   have e:(bM kvs (Qf s:Key)).isSome=(ay ds s).isSome:=by
    rcases gX (s:=s) r with⟨z1,z2⟩|⟨v,d,z1,z2,_⟩ <;> rw[z1,z2] <;> rfl
   rw[e];exact q _ H (.refl _ _) hc (.bl _)
  .cases hb'
   cases h1.non;exact .inr (.inr ⟨a,kvs,rfl,rfl,t,q _ H (.refl _ _) hc (.bl _)⟩)
  .cases hb'
 .have e':(inS x y).map .bool=some d:=by
   cases y with
   |dict ds=>exact absurd ⟨ds,rfl⟩ hd
   |_=>exact e
  exact .inl (oA false O ts H T v1 v2 x y d Q hc h1 h2 e' q)⟩
theorem iM(hr:Room k X.A):OpD X (PU .NotIn) c8:=⟨_,(op_notin_str.or uf).or (C2 hr),fun O ts H T v1 v2 x y d Q hc h1 h2 e q=>by
 by_cases hd:∃ds,y=.dict ds
 .obtain⟨ds,rfl⟩:=hd
  obtain⟨a,kvs,rfl,t,r⟩:=h2.dct
  cases x with
  |str s=>
   cases e;cases h1.str;refine .inr ⟨a,kvs,s,rfl,rfl,t,?_⟩
   have e:(bM kvs (Qf s:Key)).isSome=(ay ds s).isSome:=by
    rcases gX (s:=s) r with⟨z1,z2⟩|⟨v,d,z1,z2,_⟩ <;> rw[z1,z2] <;> rfl
   rw[e];exact q _ H (.refl _ _) hc (.bl _)
  |_=>cases e
 .have e':((inS x y).map fun b=>.bool (!b))=some d:=by
   cases y with
   |dict ds=>exact absurd ⟨ds,rfl⟩ hd
   |_=>cases x <;> exact e
  exact .inl (oA true O ts H T v1 v2 x y d Q hc h1 h2 e' q)⟩
def ixA(x y:Pa):Option PyData:=match x,y with
 |.dict ds,.str s=>ay ds s
 |.dict _,_=>none
 |x,y=>ixD x y
theorem dy(hr:Room k X.A):IxD X ixA:=by
 obtain⟨r0,h0,s0⟩:=ar (X:=X);refine⟨_,h0.or (IK hr),fun O ts H T v1 v2 x y d Q hc h1 h2 e q=>?_⟩
 by_cases hd:∃ds,x=.dict ds
 .obtain⟨ds,rfl⟩:=hd
  obtain⟨a,kvs,rfl,t,r⟩:=h1.dct
  cases y with
  |str s=>
   have e':ay ds s=some d:=e;cases h2.str
   rcases gX (s:=s) r with⟨z1,z2⟩|⟨v,d',z1,z2,rv⟩
   .rw[z1] at e';cases e'
   .rw[z1] at e'
    cases e';exact .inr ⟨a,kvs,s,v,rfl,rfl,t,z2,q _ H (.refl _ _) hc rv⟩
  |_=>cases e
 .refine .inl (s0 O ts H T v1 v2 x y d Q hc h1 h2 ?_ q)
  cases x with
  |dict ds=>exact absurd ⟨ds,rfl⟩ hd
  |_=>exact e
end
section
variable {X:Cx}{pins:List (Addr×Obj)}{σ:L2.St}{H H2:Hp}{s s2:Pf}
theorem EN(I:Inv X pins σ H s)(e:H a=some (.dK kvs))(I2:Inv X pins σ H2 s2)(e2:H2 a=some (.frz o (.dK kvs))):Inv X pins σ (upd H2 a (.dK kvs)) s2:=by
 have U:∀{b:Addr}{u:HO},H2 b=some u->(∀o ks,u≠.frz o ks)->upd H2 a (.dK kvs) b=some u:=fun {b u} q n=>by
  rw[aR (fun z=>by subst z;rw[e2] at q;cases q;exact n _ _ rfl)];exact q
 have N:∀{b:Addr},H2 b=none->upd H2 a (.dK kvs) b=none:=fun {b} q=>by
  rw[aR (fun z=>by subst z;rw[e2] at q;cases q)];exact q
 have hok:HOk X.prog X.w (upd H2 a (.dK kvs)) s2.heap:=fun b u q=>by
  by_cases hb:b=a
  .subst hb
   rw[bo] at q;cases q;exact ObjOk.stay (I2.hok b _ e2).2 (fun _ _ _ q=>q) (fun c q=>U q (fun _ _ z=>nomatch z)) fun c xs q=>U q (fun _ _ z=>nomatch z)
  .rw[aR hb] at q
   exact(I2.hok b u q).stay (fun _ _ _ q=>q) (fun c q=>U q (fun _ _ z=>nomatch z)) fun c xs q=>U q (fun _ _ z=>nomatch z)
 refine⟨I2.ok,I2.os,I2.bare,⟨I2.base.keep,I2.base.slot,fun b ob q n hx=>N (I2.base.free b ob q n hx),I2.base.there,fun b xs q=>U (I2.base.tups b xs q) (fun _ _ z=>nomatch z),fun b ob u q=>?_,fun b ps q=>?_⟩,I2.loc,I2.cell,N I2.free,fun x c q=>N (I2.freeC x c q),fun p hp=>?_,hok,I2.len⟩
 .have h1:=I.base.frzs b ob u q
  rw[aR (fun z=>by subst z;rw[e] at h1;cases h1)];exact I2.base.frzs b ob u q
 .obtain⟨more,h1⟩:=I2.base.tbls b ps q
  exact⟨more,U h1 (fun _ _ z=>nomatch z)⟩
 .obtain⟨k1,k2,k3⟩:=I2.pin p hp
  exact⟨k1,N k2,k3⟩
end
inductive Ln(P:Hp->VK->Prop):Hp->VK->Prop where
 |done {H:Hp}{Q:VK}:P H Q->Ln P H Q
 |frz {H:Hp}{Q:VK}{a:Addr}{kvs:List (Key×V)}:H a=some (.dK kvs)->(∀o,Ln P (upd H a (.frz o (.dK kvs))) (fun v H2=>H2 a=some (.frz o (.dK kvs))/\Q v (upd H2 a (.dK kvs))))->Ln P H Q
theorem JW(h:PE X e t):PE X e (fun σ H Q=>Ln (t σ) H Q):=fun pins s σ H Q I q=>by
 have key:∀{H:Hp}{Q:VK},Ln (t σ) H Q->Inv X pins σ H s->PP (PX X.prog X.w) X.A (eval e X.env) (EP X pins σ Q) X.xe s:=by
  intro H Q q
  induction q with
  |done q=>exact fun I=>h pins s σ _ _ I q
  |frz ea _ ih=>
   intro I;obtain⟨o,I'⟩:=xU I ea;refine thn (ih o I') fun u s' ⟨v,H2,I2,r,e2,q2⟩=>?_;exact⟨v,_,EN I ea I2 e2,r,q2⟩
 exact key q I
section
variable {K:Frag}
theorem TupAt.keep(h:∀b o,H b=some o->(∀ks,o≠.dK ks)->(∀ob ks,o≠.frz ob (.dK ks))->H' b=some o)(t:TupAt K (fun _=>False) H a vs):TupAt K (fun _=>False) H' a vs:=by
 rcases t with⟨n,t|⟨o,t⟩⟩|t
 .exact .inl ⟨n,.inl (h _ _ t (fun _ z=>nomatch z) (fun _ _ z=>nomatch z))⟩
 .exact .inl ⟨n,.inr ⟨o,h _ _ t (fun _ z=>nomatch z) (fun _ _ z=>nomatch z)⟩⟩
 .exact .inr t
mutual
theorem Rep.keep{H H':Hp}(h:∀b o,H b=some o->(∀ks,o≠.dK ks)->(∀ob ks,o≠.frz ob (.dK ks))->H' b=some o):∀{v:V}{d:Pa},Rep K (fun _=>False) H v d->a7 d=true->Rep K (fun _=>False) H' v d
 |_,_,.non,_=>.non
 |_,_,.bl b,_=>.bl b
 |_,_,.int i,_=>.int i
 |_,_,.str x,_=>.str x
 |_,_,.tup t r,e=>.tup (t.keep h) (Reps.keep h r (by simpa[a7] using e))
 |_,_,.lst t r,e=>by simp[a7] at e
 |_,_,.dct n t r,e=>by simp[a7] at e
theorem Reps.keep{H H':Hp}(h:∀b o,H b=some o->(∀ks,o≠.dK ks)->(∀ob ks,o≠.frz ob (.dK ks))->H' b=some o):∀{vs:List V}{ds:List Pa},Reps K (fun _=>False) H vs ds->br ds=true->Reps K (fun _=>False) H' vs ds
 |_,_,.nil,_=>.nil
 |_,_,.cons (d:=d) (ds:=ds) r t,e=>by
  have e':(a7 d&&br ds)=true:=by simpa[br] using e
  rw[Po] at e';exact .cons (Rep.keep h r e'.1) (Reps.keep h t e'.2)
end
end
def j8:W->Option W
 |.d x=>some (.d x)
 |.loc x=>some (.d x)
 |.tp _=>none
def cD(ρ:Rho):Rho:=ρ.map fun o=>o.bind j8
def Fz(O:Addr->Prop)(H0 H:Hp):Prop:=∀b,H b=H0 b\/∃kvs o,O b/\H0 b=some (.dK kvs)/\H b=some (.frz o (.dK kvs))
section
variable {K:Frag}{O:Addr->Prop}{ts:List Addr}{H0 H:Hp}{T:Tp}{σ:L2.St}{ρ:Rho}
theorem v8(re:RelE K O ts H0 σ ρ)(fz:Fz O H0 H)(all:∀(j:Nat) (a:Addr) (ds:List (Pa×Pa)),ρ[j]? = some (some (.loc (.dict ds)))->σ[j]? = some (some (.ref a))->∃o kvs,H a=some (.frz o (.dK kvs))):RelE K (fun _=>False) [] H σ (cD ρ):=by
 have le:Le O H0 (fun _=>False) H:=fun b o n e=>⟨fun z=>z,by
  rcases fz b with q|⟨_,_,q,_,_⟩
  .rw[q];exact e
  .exact absurd q n⟩
 intro i w e;unfold cD at e;rw[Qd] at e
 cases hu:ρ[i]? with
 |none=>rw[hu] at e;cases e
 |some u=>
  cases u with
  |none=>rw[hu] at e;cases e
  |some u=>
   rw[hu] at e;have e':j8 u=some w:=Qa e;obtain⟨v,h1,h2⟩:=re i u hu
   cases u with
   |d x=>cases e';exact⟨v,h1,Rep.mono le h2⟩
   |tp k=>cases e'
   |loc x=>
    cases e';obtain⟨a,rfl,k1,k2,k3⟩:=h2;refine⟨_,h1,?_⟩
    cases x with
    |list xs=>
     obtain⟨vs,k3,k4⟩:=k3;refine .lst (.inl ⟨fun z=>z,.inl ?_⟩) (k4.mono le)
     rcases fz a with q|⟨_,_,_,q,_⟩
     .rw[q];exact k3
     .rw[k3] at q;cases q
    |dict ds=>
     obtain⟨kvs,k3,k4⟩:=k3;obtain⟨o,kvs',h3⟩:=all i a ds hu h1
     rcases fz a with q|⟨kvs2,o2,_,q,q2⟩
     .rw[q,k3] at h3;cases h3
     .rw[k3] at q
      cases q;exact .dct (fun z=>z) q2 (k4.mono le)
    |_=>cases k3
theorem nL(hx:a7 x=true)(re:RelE K O ts H0 σ ρ)(fin:∀H Q,RelE K (fun _=>False) [] H σ (cD ρ)->(∀v H2,SameX [] H H2->Rep K (fun _=>False) H2 v x->Q v H2)->P H Q):∀(k:Nat) {H:Hp}{Q:VK},Fz O H0 H ->
  (∀(j:Nat) (a:Addr) (ds:List (Pa×Pa)),k<=j->ρ[j]? = some (some (.loc (.dict ds)))->σ[j]? = some (some (.ref a))->∃o kvs,H a=some (.frz o (.dK kvs)))->(∀v H2,SameX [] H H2->Rep K (fun _=>False) H2 v x->Q v H2)->Ln P H Q
 |0,H,Q,fz,all,q=>.done (fin H Q (v8 re fz fun j a ds=>all j a ds (QE _)) q)
 |k+1,H,Q,fz,all,q=>by
  by_cases h:∃ds,ρ[k]? = some (some (.loc (.dict ds)))
  .obtain⟨ds,h⟩:=h
   obtain⟨v,h1,a,rfl,k1,k2,kvs,k3,k4⟩:=re k _ h
   rcases fz a with z|⟨kvs2,o2,_,z,z2⟩
   .rw[k3] at z
    refine .frz z fun o=>nL hx re fin k (fun b=>?_) (fun j b es hj e1 e2=>?_) (fun v H2 s2 r=>?_)
    .by_cases hb:b=a
     .subst hb;exact .inr ⟨kvs,o,k1,k3,bo⟩
     .rw[aR hb];exact fz b
    .by_cases hb:b=a
     .subst hb;exact⟨o,kvs,bo⟩
     .rw[aR hb]
      by_cases hk:k=j
      .subst hk;rw[h1] at e2;cases e2;exact absurd rfl hb
      .exact all j b es (by omega) e1 e2
    .have ha:H2 a=some (.frz o (.dK kvs)):=s2 a _ (by simp) bo
     refine⟨ha,q v _ (fun b ob _ e=>?_) (Rep.keep (fun b ob e n1 n2=>?_) r hx)⟩
     .by_cases hb:b=a
      .subst hb;rw[z] at e;cases e;exact bo
      .rw[aR hb]
       exact s2 b ob (by simp) (by rw[aR hb];exact e)
     .have hb:b≠a:=fun z=>by subst z;rw[ha] at e;cases e;exact n2 _ _ rfl
      rw[aR hb];exact e
   .refine nL hx re fin k fz (fun j b es hj e1 e2=>?_) q
    by_cases hk:k=j
    .subst hk;rw[h1] at e2;cases e2;exact⟨o2,kvs2,z2⟩
    .exact all j b es (by omega) e1 e2
  .refine nL hx re fin k fz (fun j b es hj e1 e2=>?_) q
   by_cases hk:k=j
   .subst hk;exact absurd ⟨es,e1⟩ h
   .exact all j b es (by omega) e1 e2
end
def j9(T:Tp)(o:Option (W×Tp)):Option (W×Tp):=match o with
 |some (.d x,_)=>if a7 x=true then some (.d x,T) else none
 |_=>none
def dZ(f:FE):FE:=fun ρ T=>j9 T (f (cD ρ) [])
theorem oi(he:DE X e f):DE X e (dZ f):=by
 refine⟨pe_imp (JW he.pe) fun σ H Q=>?_⟩;rintro⟨O,ts,ρ,T,w,T',hc,re,e,q⟩;unfold dZ j9 at e;split at e
 .rename_i x T1 h1
  split at e
  .rename_i hx
   cases e;refine nL hx re (fun H1 Q1 re1 q1=>⟨fun _=>False,[],cD ρ,[],.d x,T1,⟨fun b hb=>(by cases hb),fun b hb=>hb.elim,T7,rfl,fun i a xs e1 _=>by simp at e1⟩,re1,h1,fun v H2 s2 _ r2=>q1 v H2 s2 r2⟩) ρ.length (fun b=>.inl rfl) (fun j a ds hj e1 _=>?_) (fun v H2 s2 r2=>?_)
   .rw[SV hj] at e1;cases e1
   .have s2':SameX ts H H2:=fun b o _ q=>s2 b o (by simp) q
    have hm:∀b,O b->Mut (H2 b):=fun b hb=>(hc.trk b hb).to fun u z=>s2 b _ (by simp) z
    have hc2:=hc.step s2' fun b hb=>by
     obtain⟨u,z⟩:=(hc.trk b (hc.own b hb)).ex;rw[z];exact s2 b _ (by simp) z
    exact q v H2 s2' hc2 (Rep.own hm r2 hx)
  .cases e
 .cases e
section
variable {X:Cx}{pos:Pos}{e:Expr}{fe:FE}
def dh(i:Nat):FS:=fun ρ T=>some ((.nx,ρ.set i (some (.loc (.dict [])))),T)
theorem iP(hN:X.N.Nodup)(hi:X.N[i]? = some x:=by rfl)(hx:Loc X.env.scope x:=by first|exact QM rfl|exact Qx rfl)
  (hs:QL (.Dict [] [] dpos) (some (.Name x pos')) pos.line X.env=pure false:=by rfl) (hf:X.fn x=true\/X.env.scope.names.lookup x=some .local:=by first|exact .inl rfl|exact .inr rfl|assumption):DS X (.Assign [.Name x pos'] (.Dict [] [] dpos) pos) (dh i):=by
 refine⟨?_⟩;refine bY (eL hN hi hx Es hs hf) fun D σ H=>?_;rintro⟨O₀,H₀,F,ts,O,ρ,T,fl,ρ',T',rs,e,q⟩;cases e;intro p hp;exact q _ _ _ (rs.ownO hp (.inr (.inl ⟨_,rfl⟩)) fun le=>⟨[],bo,.nil⟩)
theorem uQ:CallR X (.type "dict") (fun xs H Q=>∃a kvs,xs=[V.ref a]/\Rd H a (.dK kvs)/\∀p,H p=none->Q (.ref p) (upd H p (.dK kvs))):=by
 intro pins s σ H xs us Q I r h;obtain⟨a,kvs,rfl,ha,q⟩:=h;obtain⟨u,rfl,ru⟩:=vals1 r;cases ru;exact Fc I ha fun p s' hp I'=>⟨.ref p,_,I',rfl,q p hp⟩
def jk(o:Option Pa):Option (List (Pa×Pa)):=match o with
 |some (.dict ds)=>some ds
 |_=>none
def oE(i:Nat)(ρ:Rho)(o:Option (List (Pa×Pa)))(T:Tp):Option ((Fl×Rho)×Tp):=match o with
 |some ds=>some ((.nx,ρ.set i (some (.loc (.dict ds)))),T)
 |none=>none
def jT(i:Nat)(f:FE):FS:=fun ρ T=>bnd (f ρ T) fun w T1=>oE i ρ (jk (view T1 w)) T1
theorem yq(h:jk o=some ds):o=some (.dict ds):=by
 unfold jk at h;split at h
 .cases h;rfl
 .cases h
theorem wy(hm:X.mg "dict"=none)(hN:X.N.Nodup)(he:DE X e fe)(hi:X.N[i]? = some x:=by rfl)(hx:Loc X.env.scope x:=by first|exact QM rfl|exact Qx rfl)(hg:Gl X "dict":=by rfl)
  (hse:Pk [e] X.env=(false,eval e X.env)::Pk [] X.env:=by exact bc rfl) (hpl:(Qg cpos (Pk [] X.env)).any (·.1)=false:=by exact bN rfl)
  (hs:QL (.Call (.Name "dict" p) [e] [] cpos) (some (.Name x pos')) pos.line X.env=pure false:=by rfl) (hf:X.fn x=true\/X.env.scope.names.lookup x=some .local:=by first|exact .inl rfl|exact .inr rfl|assumption) :
  DS X (.Assign [.Name x pos'] (.Call (.Name "dict" p) [e] [] cpos) pos) (jT i fe):=by
 refine⟨?_⟩;refine bY (eL hN hi hx (mU uQ hg hm Yc (bw he.pe cG hse) (by decide) (by decide) hse hpl) hs hf) fun D σ H=>?_;rintro⟨O₀,H₀,F,ts,O,ρ,T,fl,ρ',T',rs,e,q⟩;obtain⟨w,T1,e1,e⟩:=aN e;unfold oE at e;split at e
 .rename_i ds hd
  cases e;have hv:=yq hd;refine⟨O,ts,ρ,T,w,_,rs.hc,rs.re,e1,fun v H1 s1 hc1 r1=>?_⟩;obtain⟨a,kvs,rfl,t,r⟩:=(hc1.view r1 hv).dct;exact⟨a,kvs,rfl,t,fun p hp=>q _ _ _ ((rs.step s1 hc1).ownO (xs:=.dict ds) hp (.inr (.inl ⟨_,rfl⟩)) fun le=>⟨kvs,bo,r.mono le⟩)⟩
 .cases e
def pV(o:Option (List (Pa×Pa)))(T:Tp):Option (W×Tp):=match o with
 |some ds=>some (.d (.dict ds),T)
 |none=>none
def ij(f:FE):FE:=fun ρ T=>bnd (f ρ T) fun w T1=>pV (jk (view T1 w)) T1
theorem r6(hm:X.mg "dict"=none)(he:DE X e fe)(hg:Gl X "dict":=by rfl)
  (hse:Pk [e] X.env=(false,eval e X.env)::Pk [] X.env:=by exact bc rfl) (hpl:(Qg cpos (Pk [] X.env)).any (·.1)=false:=by exact bN rfl):DE X (.Call (.Name "dict" p) [e] [] cpos) (ij fe):=by
 refine⟨?_⟩;refine pe_imp (JY (mU uQ hg hm Yc (bw he.pe cG hse) (by decide) (by decide) hse hpl)) fun σ H Q=>?_;rintro⟨O,ts,ρ,T,w,T',hc,re,e,q⟩;obtain⟨w1,T1,e1,e⟩:=aN e;unfold pV at e;split at e
 .rename_i ds hd
  cases e;have hv:=yq hd;refine⟨O,ts,ρ,T,w1,T',hc,re,e1,fun v H1 s1 hc1 r1=>?_⟩;obtain⟨a,kvs,rfl,t,r⟩:=(hc1.view r1 hv).dct;refine⟨a,kvs,rfl,t,fun p hp=>.frz bo fun o=>.done ?_⟩;rw[Fy];exact q _ _ (s1.trans (.new hp _)) (hc1.new hp _) (.dct (hc1.fresh hp) bo (r.mono (hc1.leNew hp _)))
 .cases e
def putN(ds:List (Pa×Pa))(s:Str)(x:Pa):List (Pa×Pa):=if (ay ds s).isSome=true then bT ds s x else ds++[(.str s,x)]
theorem RepK.app{K:Frag}{O:Addr->Prop}{H:Hp}{s:Str}{v:V}{x:Pa}(rx:Rep K O H v x):∀{kvs:List (Key×V)}{ds:List (Pa×Pa)},RepK K O H kvs ds->RepK K O H (kvs++[(Qf s,v)]) (ds++[(.str s,x)])
 |_,_,.nil=>.cons (k:=Qf s) rx .nil
 |_,_,.cons r t=>.cons r (RepK.app rx t)
theorem FV{K:Frag}{O:Addr->Prop}{H:Hp}{s:Str}{v:V}{x:Pa}(rx:Rep K O H v x){kvs:List (Key×V)}{ds:List (Pa×Pa)}(r:RepK K O H kvs ds):RepK K O H (putK kvs (Qf s) v) (putN ds s x):=by
 unfold putN
 rcases gX (s:=s) r with⟨z1,z2⟩|⟨v',d',z1,z2,_⟩
 .rw[z1,if_neg (by simp),Eg v z2]
  exact r.app rx
 .rw[z1,if_pos (show (some d').isSome=true by rfl)]
  have hany:(kvs.any fun kv=>decide (kv.1=(Qf s:Key)))=true:=CL (by rw[z2];rfl);unfold putK;rw[if_pos hany];exact qD rx r
noncomputable def pN(i:Nat)(ρ:Rho)(ds:List (Pa×Pa))(w k:W)(T:Tp):Option ((Fl×Rho)×Tp):=match w,k with
 |.d x,.d (.str s)=>if ds.length<=1000 then some ((.nx,ρ.set i (some (.loc (.dict (putN ds s x))))),T) else none
 |_,_=>none
def pM(i:Nat)(fk:FE)(ρ:Rho)(w:W)(T:Tp)(o:Option (Option W)):Option ((Fl×Rho)×Tp):=match o with
 |some (some (.loc (.dict ds)))=>bnd (fk ρ T) (pN i ρ ds w)
 |_=>none
def bP(i:Nat)(fk fv:FE):FS:=fun ρ T=>bnd (fv ρ T) fun w T1=>pM i fk ρ w T1 ρ[i]?
theorem dS(hr:Room k X.A)(hk:DE X kx fk)(he:DE X e fv)(hN:X.N[i]? = some x:=by rfl)(hv:Vis X.env.scope x:=by first|exact QM rfl|exact Qx (QM rfl)|exact Qx (Qx rfl))(hd:(x == ("__debug__" : Str))=false:=by decide)
  (hcd:(x == ("__classdict__" : Str))=false:=by decide) (hs:QL e (some (.Subscript (.Name x p) kx pos')) pos.line X.env=pure false:=by rfl):DS X (.Assign [.Subscript (.Name x p) kx pos'] e pos) (bP i fk fv):=by
 refine⟨?_⟩;refine bY (F4 (lX hr) (pv i hN hv hd hcd) hk.pe he.pe hs) fun D σ H=>?_;rintro⟨O₀,H₀,F,ts,O,ρ,T,fl,ρ',T',rs,e,q⟩;obtain⟨w,T1,e1,e⟩:=aN e;refine⟨O,ts,ρ,T,w,T1,rs.hc,rs.re,e1,fun v H1 s1 hc1 r1=>?_⟩;have rs1:=rs.step s1 hc1;unfold pM at e;split at e
 .rename_i ds c3
  obtain⟨wk,T3,e3,e⟩:=aN e;unfold pN at e;split at e
  .rename_i xv s _
   split at e
   .rename_i c2
    cases e;obtain⟨u,k1,a,rfl,k2,k3,kvs,k4,k5⟩:=rs1.re i _ c3;refine⟨_,k1,O,ts,ρ,T1,_,_,rs1.hc,rs1.re,e3,fun y H3 s3 hc3 r3=>?_⟩;have rs3:=rs1.step s3 hc3;cases (show Rep X.K O H3 y (.str s) from r3);have k4':H3 a=some (.dK kvs):=s3 _ _ k3 k4;have k5':RepK X.K O H3 kvs ds:=k5.mono (hc1.le s3)
    have hlen:kvs.length<sizeLine:=by
     rw[nu k5'];exact QC c2 (by decide)
    have rx:Rep X.K O H3 v xv:=RepW.mono (w:=.d xv) r1 hc1 s3;refine⟨a,_,rfl,DPut.k (k:=(Qf s:Key)) k4' hlen,?_⟩;exact q O σ _ (rs3.putO c3 k1 (.inr (.inl ⟨_,rfl⟩)) fun le=>⟨_,bo,FV (Rep.mono le rx) (k5'.mono le)⟩)
   .cases e
  .cases e
 .cases e
end
def ke(n:Nat):W->Option W
 |.tp k=>if k<n then some (.tp k) else none
 |w=>some w
def kg(n:Nat)(ρ:Rho):Rho:=ρ.map fun o=>o.bind (ke n)
noncomputable def lA(n:Nat)(o:Option ((Fl×Rho)×Tp)):Option ((Fl×Rho)×Tp):=match o with
 | some ((fl,ρ'),T3)=>(match tw T3 with
  |some (T4,_)=>if T4.length=n then some ((fl,kg n ρ'),T4) else none
  | none=>none)
 |none=>none
section
variable {K:Frag}{O₀:Addr->Prop}{H₀:Hp}{F:List ((Addr->Prop)×Hp)}{ts:List Addr}{O:Addr->Prop}{H:Hp}{σ:L2.St}{ρ:Rho}{T:Tp}
theorem RS.openR(r:RS K O₀ H₀ F ts O H σ ρ T)(hp:H p=none)(rv:Reps K O H vs xs) :
  RS K (fun b=>O₀ b\/b=p) H₀ F (ts++[p]) (fun b=>O b\/b=p) (upd H p (.lst vs)) (σ.set i (some (.ref p))) (ρ.set i (some (.tp T.length))) (T++[xs]):=by
 have nO:=r.hc.fresh hp;have nt:p∉ts:=fun z=>nO (r.hc.own _ z)
 have le:Le O H (fun b=>O b\/b=p) (upd H p (.lst vs)):=fun a o n e=>by
  have z1:a≠p:=c6 e hp;exact⟨fun q=>q.elim n z1,by rw[aR z1];exact e⟩
 have hw:∀ys,W.tp T.length≠.loc ys:=fun _ z=>nomatch z
 refine⟨⟨fun b hb=>?_,fun b hb=>?_,?_,by simp[r.hc.len],fun j b zs q1 q2=>?_⟩,fun j w e=>?_,fun b hb=>hb.elim (fun z=>.inl (r.sub b z)) .inr,fun b hb=>?_,fun b o n e=>?_,fun j xs a e1 e2=>?_,fun j k xs ys v e1 e2 e3 e4=>?_,fun f hf=>(r.frs f hf).trans le,by simp[r.len]⟩
 .rcases PD.mp hb with z|z
  .exact .inl (r.hc.own b z)
  .exact .inr (Pl.mp z)
 .by_cases z:b=p
  .rw[z,bo];exact .inl ⟨_,rfl⟩
  .rw[aR z];exact r.hc.trk b (hb.resolve_right z)
 .rw[Qz]
  exact⟨r.hc.nd,by simp,fun b hb c hc z=>nt (by rw[←Pl.mp hc,←z];exact hb)⟩
 .by_cases hj:j<ts.length
  .rw[PF hj] at q1
   rw[PF (by rw[←r.hc.len];exact hj)] at q2;exact(r.hc.tape j b zs q1 q2).mono (fun o h1=>by rw[aR (c6 h1 hp)];exact h1) le
  .have hj2:j=ts.length:=by
    have:=(Ph.mp q1).1;simp at this;omega
   subst hj2
   have e1:b=p:=by simpa using q1.symm
   have e2:zs=xs:=by rw[r.hc.len] at q2;simpa using q2.symm
   subst e1 e2;exact .inl ⟨rv.notO,vs,bo,rv.mono le⟩
 .by_cases z:i=j
  .subst z
   have hl:i<ρ.length:=by
    have:=(Ph.mp e).1;simpa using this
   rw[Pv hl] at e;cases e;exact⟨.ref p,by rw[Pv (by rw[r.len];exact hl)],p,by rw[←r.hc.len];simp,rfl⟩
  .rw[Pj z] at e
   obtain⟨x,h1,h2⟩:=r.re j w e;refine⟨x,by rw[Pj z];exact h1,?_⟩
   cases w with
   |d y=>exact Rep.mono le h2
   |tp k=>
    obtain⟨a,k1,k2⟩:=h2;exact⟨a,by rw[PF (Ph.mp k1).1];exact k1,k2⟩
   |loc ys=>
    obtain⟨a,e1,m1,m2,m3⟩:=h2;have na:a≠p:=fun z=>nO (z ▸ m1);refine⟨a,e1,.inl m1,fun z=>?_,m3.mono (fun o' q=>by rw[aR na];exact q) le⟩
    rcases PD.mp z with z|z
    .exact m2 z
    .exact na (Pl.mp z)
 .rcases PD.mp hb with z|z
  .exact .inl (r.ots b z)
  .exact .inr (Pl.mp z)
 .have nb:b∉ts:=fun z=>n (QG _ z)
  have e1:=r.same b o nb e;rw[aR (c6 e1 hp)];exact e1
 .obtain⟨n,e⟩:=eI hw e1
  rw[Pj (QW n)] at e2;obtain⟨f1,f2⟩:=r.fresh j xs a e e2;refine⟨f1,fun z=>z.elim f2 fun z=>?_⟩;obtain⟨v,h1,a',ea,m1,_⟩:=r.re j _ e;rw[e2] at h1;cases h1;cases ea;exact nO (z ▸ m1)
 .obtain⟨n1,e1⟩:=eI hw e1
  obtain⟨n2,e2⟩:=eI hw e2;rw[Pj (QW n1)] at e3;rw[Pj (QW n2)] at e4;exact r.dist j k xs ys v e1 e2 e3 e4
theorem RS.closeR(ots:∀b∈ts,O₀ b)(nt:p∉ts)(h0:H₀ p=none)(n0:¬O₀ p)(r:RS K (fun b=>O₀ b\/b=p) H₀ F (ts++[p]) O H σ ρ (T++[row])):RS K O₀ H₀ F ts O H σ (kg T.length ρ) T:=by
 have lenT:ts.length=T.length:=by have:=r.hc.len;simp at this;exact this
 have at_:∀{j:Nat}{w:W},(kg T.length ρ)[j]? = some (some w)->ρ[j]? = some (some w)/\∀k,w=.tp k->k<T.length:=fun {j w} e=>by
  unfold kg at e;rw[Qd] at e
  cases hu:ρ[j]? with
  |none=>rw[hu] at e;cases e
  |some u=>
   cases u with
   |none=>rw[hu] at e;cases e
   |some u=>
    rw[hu] at e;have e':ke T.length u=some w:=Qa e
    cases u with
    |d x=>cases e';exact⟨rfl,fun k z=>nomatch z⟩
    |loc x=>cases e';exact⟨rfl,fun k z=>nomatch z⟩
    |tp k=>
     have e2:(if k<T.length then some (W.tp k) else none)=some w:=e';split at e2
     .rename_i hk
      cases e2;exact⟨rfl,fun k' z=>by cases z;exact hk⟩
     .cases e2
 refine⟨⟨fun b hb=>r.hc.own b (QG _ hb),r.hc.trk,(Qz.mp r.hc.nd).1,lenT,fun j b zs q1 q2=>?_⟩,fun j w e=>?_,fun b hb=>r.sub b (.inl hb),ots,fun b o n e=>?_,fun j xs a e1 e2=>?_,fun j k xs ys v e1 e2 e3 e4=>?_,r.frs,by simp[kg,r.len]⟩
 .have hj:j<ts.length:=(Ph.mp q1).1
  exact r.hc.tape j b zs (by rw[PF hj];exact q1) (by rw[PF (by rw[←lenT];exact hj)];exact q2)
 .obtain⟨e1,hk⟩:=at_ e
  obtain⟨v,h1,h2⟩:=r.re j w e1;refine⟨v,h1,?_⟩
  cases w with
  |d x=>exact h2
  |tp k=>
   obtain⟨a,k1,k2⟩:=h2;have:=hk k rfl;exact⟨a,by rw[PF (by rw[lenT];exact this)] at k1;exact k1,k2⟩
  |loc x=>
   obtain⟨a,k1,k2,k3,k4⟩:=h2;exact⟨a,k1,k2,fun z=>k3 (QG _ z),k4⟩
 .refine r.same b o (fun z=>?_) e
  rcases PD.mp z with z|z
  .exact n z
  .rw[Pl.mp z,h0] at e;cases e
 .obtain⟨f1,f2⟩:=r.fresh j xs a (at_ e1).1 e2
  exact⟨f1,fun z=>f2 (.inl z)⟩
 .exact r.dist j k xs ys v (at_ e1).1 (at_ e2).1 e3 e4
end
section
variable {X:Cx}{pos:Pos}{rest:List Stmt}{fr:FS}
theorem Gc
  (rs:RS X.K O₀ H₀ F ts O H σ ρ T) (hp:H p=none) (rv:Reps X.K O H vs xs) (e:lA T.length (fr (ρ.set i (some (.tp T.length))) (T++[xs]))=some ((fl,ρ'),T')) (q:Ay X.K O₀ H₀ F ts D ρ' T' fl):tm X.K fr D (σ.set i (some (.ref p))) (upd H p (.lst vs)):=by
 have nO:=rs.hc.fresh hp;have nt:p∉ts:=fun z=>nO (rs.hc.own _ z)
 have h0:H₀ p=none:=by
  cases e:H₀ p with
  |none=>rfl
  |some o=>rw[rs.same p o nt e] at hp;cases hp
 have n0:¬O₀ p:=fun z=>nO (rs.sub p z);have rs1:=rs.openR (i:=i) hp rv;generalize hE:fr (ρ.set i (some (.tp T.length))) (T++[xs])=E at e;unfold lA at e;split at e
 .rename_i fl1 ρ1 T3
  split at e
  .rename_i T4 row hT
   split at e
   .rename_i hlen
    have eT:=EK hT;subst eT;cases e;have lb:∀{G:Hp},Le (fun b=>O₀ b\/b=p) G O₀ G:=fun a o n e=>⟨fun z=>n (.inl z),e⟩
    have lenB:∀{G:Hp}{B:Addr->Prop},HC X.K B (ts++[p]) G (T'++[row])->ts.length=T'.length:=fun h=>by have:=h.len;simp at this;exact this
    have sameB:∀{G:Hp},SameX (ts++[p]) H₀ G->SameX ts H₀ G:=fun s b o n e=>s b o (fun z=>by
     rcases PD.mp z with z|z
     .exact n z
     .rw[Pl.mp z,h0] at e;cases e) e
    refine⟨_,H₀,F,ts++[p],_,_,_,fl,ρ1,T'++[row],rs1,hE,?_⟩;have lenE:T.length=T'.length:=hlen.symm
    cases fl with
    |nx=>exact fun O' σ' H' r=>q O' σ' H' (by rw[lenE];exact RS.closeR rs.ots nt h0 n0 r)
    |bk=>exact fun O' σ' H' r=>q O' σ' H' (by rw[lenE];exact RS.closeR rs.ots nt h0 n0 r)
    |ct=>exact fun O' σ' H' r=>q O' σ' H' (by rw[lenE];exact RS.closeR rs.ots nt h0 n0 r)
    |rt y=>
     intro v H' s1 c1 r1;refine q v H' (sameB s1) ⟨rs.ots,fun b hb=>c1.trk b (.inl hb),rs.hc.nd,lenB c1,fun j b zs q1 q2=>?_⟩ (Rep.mono lb r1);have hj:j<ts.length:=(Ph.mp q1).1;exact(c1.tape j b zs (by rw[PF hj];exact q1) (by rw[PF (by rw[←lenB c1];exact hj)];exact q2)).mono (fun _ h=>h) lb
    |ro y=>
     intro A v H' s1 hA c1 o1;have lb2:Le (fun b=>(O₀ b\/b=p)\/A b) H' (fun b=>O₀ b\/A b) H':=fun b o n e=>⟨fun z=>n (z.elim (fun z=>.inl (.inl z)) .inr),e⟩;refine q A v H' (sameB s1) (fun b hb=>⟨(hA b hb).1,fun z=>(hA b hb).2 (.inl z)⟩) ⟨fun b hb=>.inl (rs.ots b hb),fun b hb=>c1.trk b (hb.elim (fun z=>.inl (.inl z)) .inr),rs.hc.nd,lenB c1,fun j b zs q1 q2=>?_⟩ (OwnV.mono lb2 o1);have hj:j<ts.length:=(Ph.mp q1).1;exact(c1.tape j b zs (by rw[PF hj];exact q1) (by rw[PF (by rw[←lenB c1];exact hj)];exact q2)).mono (fun _ h=>h) lb2
   .cases e
  .cases e
 .cases e
end
theorem DK:entryFor table "dict_itemiterator.__iter__"=some Uv.«dict_keyiterator.__iter__»:=by kernel_rfl
theorem Ct(v:Pb):Meets (Uv.«dict_keyiterator.__iter__» { pos:=[v] }) (fun _ R s=>R (.ok (.ret v)) s):=by
 intro prog w A R s h;unfold Uv.«dict_keyiterator.__iter__»;refine Pd ?_;unfold slotArgs;simp only[];rw[if_neg (by simp),if_neg (by simp)];exact Pw (Pw h)
def Iti(a:Addr)(o:Obj)(kvs:List (Key×V)):It:=⟨fun i H=>H a=some (.frz o (.dK kvs))/\i<kvs.length,fun i H x H'=>∃p k v,H p=none/\kvs[i]? = some (k,v)/\x=.ref p/\H'=upd H p (.tup [kV k,v]),fun i H=>H a=some (.frz o (.dK kvs))/\i=kvs.length⟩
theorem ID:∀{i:Nat},KV kvs vs->i<kvs.length->∃k v u,kvs[i]? = some (k,v)/\vs[i]? = some (k,u)/\RelV v u:=by
 intro i r h
 induction r generalizing i with
 |nil=>simp at h
 |cons r1 r2 ih=>
  cases i with
  |zero=>
   rename_i p q _ _;refine⟨p.1,p.2,q.2,rfl,?_,r1.2⟩;rw[r1.1];rfl
  |succ i=>
   obtain⟨k,v,u,h1,h2,h3⟩:=ih (i:=i) (by simpa using h);exact⟨k,v,u,by simpa using h1,by simpa using h2,h3⟩
theorem Ck{P:Px}{w:PY}{K:Frag}{elts:List Expr}{x1:Nat}{tpos:Pos}(a it:Addr)(o:Obj)(kvs:List (Key×V)) :
  Turn P w K (.Tuple elts x1 tpos) (Iti a o kvs) [it] it (fun i h=>∃ok ov,IsItemIter h it a i kvs.length (iz o) ok ov) where
 mem:=by simp
 obj:=fun i h st b hb=>by
  have e:b=it:=by simpa using hb
  subst e;obtain⟨ok,ov,st⟩:=st
  exact⟨_,st,fun v z=>by
   have z':WG _=X7 v:=z
   cases z'⟩
 keep:=fun i h h' ⟨ok,ov,st⟩ k=>⟨ok,ov,k it (by simp) _ st⟩
 item:=by
  intro X hP hw hK hc i pins s σ H E I hf st hg;subst hP hw hK;obtain⟨ok,ov,st⟩:=st;obtain⟨hg1,hg2⟩:=hg;obtain⟨z,y,vs,kv,dd⟩:=iK I.hok hg1;obtain⟨f0,f1,f2,f3,f4,f5⟩:=hf it (by simp);have hl:=kv.length;obtain⟨k,v0,u0,q1,q2,q3⟩:=ID kv hg2;rw[hl] at st;refine wpAny_pyNext_items_item (knd:=bE X.prog X.w) st dd q2 fun key h' hk st' hT hsz hkeep=>?_;refine⟨.ref s.heap.objs.size,rfl,wpAny_letOwnedTupleGo_items st' fun h'' st'' hsb=>?_⟩;have hit:it<s.heap.objs.size:=Pn st;have hne:s.heap.objs.size≠it:=RV hit;have hn:H s.heap.objs.size=none:=I.hok.fresh (Pm _);have T1:Vm (s.heap.push { cls:=.type "tuple",data:=.seq #[key,u0] }) s.heap.objs.size #[key,u0]:=UC ..
  have I1:Inv X pins σ (upd H s.heap.objs.size (.tup [kV k,v0])) { s with heap:=s.heap.push { cls:=.type "tuple",data:=.seq #[key,u0] } }:=
   I.laid (t':=s.toks) (o:=.tup [kV k,v0]) (fun b ob e=>Pe _ e) (Pm _) ⟨by show 2<=Pp;decide,[key,u0],.cons (keyV hk) (.cons q3 .nil),T1⟩
  have K:∀b ob,b≠it->(s.heap.push { cls:=.type "tuple",data:=.seq #[key,u0] }).get? b=some ob->h''.get? b=some ob:=fun b ob hb e=>by
   by_cases hbs:b=s.heap.objs.size
   .subst hbs
    rw[PM _ (by rfl)] at e;cases e;exact(hsb.2 _ hb).trans hT
   .have e0:s.heap.get? b=some ob:=by
     rw[←Wj _ _ _ hbs];exact e
    exact(hsb.2 b hb).trans (hkeep b ob hb e0)
  have I2:Inv X pins σ (upd H s.heap.objs.size (.tup [kV k,v0])) { s with heap:=h'' }:=Inv.turned (s:={ s with heap:=s.heap.push { cls:=.type "tuple",data:=.seq #[key,u0] } }) (t':=s.toks) (h':=h'') (it:=it) I1 K (by rw[aR (QW hne)];exact f0) f1 f3 f4 f5;refine⟨.ref s.heap.objs.size,_,I2,rfl,⟨s.heap.objs.size,k,v0,hn,q1,rfl,rfl⟩,⟨_,_,by rw[hl];exact st''⟩,fun b hb=>?_⟩
  have e:b=it:=by simpa using hb
  subst e;rw[aR (QW hne)];exact f0
 done:=by
  intro X hP hw hK hc i pins s σ H E I hf st hg;subst hP hw hK;obtain⟨ok,ov,st⟩:=st;obtain⟨hg1,hg2⟩:=hg;obtain⟨z,y,vs,kv,dd⟩:=iK I.hok hg1;obtain⟨f0,f1,f2,f3,f4,f5⟩:=hf it (by simp);have hl:=kv.length;rw[hl] at st;exact wpAny_pyNext_items_end (knd:=bE X.prog X.w) (I.ok.hd hc) st dd (by rw[List.getElem?_eq_none_iff];omega) fun h' eb=>⟨rfl,I.turned (t':=s.toks) (fun b ob hb e=>eb b ob hb e) f0 f1 f3 f4 f5⟩
 self:=fun A i s Q E ⟨ok,ov,st⟩ h=>by
  have ty:s.TypeIs (.ref it) "dict_itemiterator":=⟨_,st,rfl⟩;refine wpAny_pyIter_slot ty Sj ?_;exact TX Sj ty DK (PySem.F.args_dict_itemiterator_iter_1 _) (Ct _) ⟨"dict_itemiterator",_,ty,PySem.F.slot_dict_itemiterator_next.lookup,h⟩
section
variable {X:Cx}{pos:Pos}
def IS(tl:TE):TI:=fun σ H R=>tl σ H fun x H1=>∃a o kvs,x=.ref a/\H1 a=some (.frz o (.dK kvs))/\(kvs.length<=Pp->R (Iti a o kvs) H1)
theorem En(ho:PE X ob tl)(hbase:Q7 ob "items" X.env (eval ob X.env)=eval ob X.env:=by rfl)(hline:(apos.endLine == cpos.line)=true:=by rfl) :
  PI X (.Tuple elts x1 tpos) (.Call (.Attribute ob "items" apos) [] [] cpos) (IS tl):=by
 intro pins s σ H R I h;refine wpAny_Call_method0_late hbase hline (thn (ho pins s σ H _ I h) fun v s1 ⟨x,H1,I1,r1,a,o,kvs,ex,ha,q⟩=>?_);subst ex;cases (show v=PJ a from r1);obtain⟨z,y,vs,kv,dd⟩:=iK I1.hok ha;have dOf:=dd.dictOf;obtain⟨od,_,_,eo,ex,_⟩:=id dOf;refine⟨"dict","dict.items",UF,UM,PySem.F.type_dict_items,⟨od,eo,ex.1⟩,fun b e2=>by cases e2;exact⟨od,eo,ex.2.1⟩,SG rfl (PySem.evalArgs_none ?_)⟩;refine V9 UM ⟨od,eo,ex.1⟩ PySem.F.entry_dict_items (PySem.F.args_dict_items_1 _) (meets_dict_items (bE X.prog X.w) a y) ⟨⟨vs,dOf⟩,?_⟩;have I2:Inv X pins σ H1 { s1 with heap:=s1.heap.push { cls:=.type "dict_items",data:=.fields #[.ref a] } }:=I1.kept (t':=s1.toks) fun b ob e=>Pe _ e;obtain⟨z2,y2,vs2,kv2,dd2⟩:=iK I2.hok ha;refine wpAny_pyIter_items (knd:=bE X.prog X.w) (kvs:=vs2) (ep:=iz o) ⟨_,PM _ (by rfl),rfl,rfl⟩ dd2 ?_
 have fk:∀b∈[(s1.heap.push { cls:=.type "dict_items",data:=.fields #[.ref a] }).objs.size],dA X pins H1 b:=fun b hb=>by
  have e:b=(s1.heap.push { cls:=.type "dict_items",data:=.fields #[.ref a] }).objs.size:=Pl.mp hb;subst e;exact I2.fpOk (Pm _) (I2.hok.fresh (Pm _))
 exact⟨_,[_],_,_,H1,rfl,I2.kept (t':=s1.toks) fun b ob e=>Pe _ e,Ck a _ o kvs,⟨.none,.none,by rw[kv2.length];exact PM _ (by rfl)⟩,fk,q z⟩
def fK(i j:Nat)(body:FS):List (Pa×Pa)->FS
 |[]=>aD
 |d::r=>fun ρ T=>bnd (body ((ρ.set i (some (.d d.1))).set j (some (.d d.2))) T) fun p T1=>match p with
  |(.nx,ρ1)=>fK i j body r ρ1 T1
  |(.ct,ρ1)=>fK i j body r ρ1 T1
  |(.bk,ρ1)=>some ((.nx,ρ1),T1)
  |(.rt x,ρ1)=>some ((.rt x,ρ1),T1)
  |(.ro x,ρ1)=>some ((.ro x,ρ1),T1)
def l8(i j:Nat)(body:FS)(ρ:Rho)(w:W)(T:Tp):Option ((Fl×Rho)×Tp):=match w with
 |.d (.dict ds)=>fK i j body ds ρ T
 |_=>none
def gI(i j:Nat)(f:FE)(body:FS):FS:=fun ρ T=>bnd (f ρ T) (l8 i j body ρ)
theorem xc{K:Frag}{O:Addr->Prop}{H:Hp}:∀{kvs:List (Key×V)}{ds:List (Pa×Pa)}{i:Nat}{k:Key}{v:V},RepK K O H kvs ds->kvs[i]? = some (k,v)->∃d,ds[i]? = some (gK k,d)/\Rep K O H v d
 |_,_,_,_,_,.nil,e=>by simp at e
 |_,_,0,_,_,.cons r _,e=>by simp at e;obtain⟨rfl,rfl⟩:=e;exact⟨_,rfl,r⟩
 |_,_,i+1,k,v,.cons _ t,e=>by
  obtain⟨d,h1,h2⟩:=xc (i:=i) t (by simpa using e);exact⟨d,by simpa using h1,h2⟩
theorem rZ(hN:X.N.Nodup)(ho:DE X ob f)(hb:DSs X body g)(hi:X.N[i]? = some x:=by rfl)(hj:X.N[j]? = some y:=by rfl)(hx:Loc X.env.scope x:=by first|exact QM rfl|exact Qx rfl)(hy:Loc X.env.scope y:=by first|exact QM rfl|exact Qx rfl)
  (hf:X.fn x=true\/X.env.scope.names.lookup x=some .local:=by first|exact .inl rfl|exact .inr rfl|assumption) (hf':X.fn y=true\/X.env.scope.names.lookup y=some .local:=by first|exact .inl rfl|exact .inr rfl|assumption) (hp:UA (PX X.prog X.w) X.A X.env X.xe:=by exact Tg) (hc:X.calm=true:=by rfl)
  (hbase:Q7 ob "items" X.env (eval ob X.env)=eval ob X.env:=by rfl) (hline:(apos.endLine == cpos.line)=true:=by rfl) (hs:∀v,Qj (.Call (.Attribute ob "items" apos) [] [] cpos) X.env v=pure v:=by intro _;rfl) :
  DS X (.For (.Tuple [.Name x px,.Name y py] k tpos) (.Call (.Attribute ob "items" apos) [] [] cpos) body [] pos) (gI i j f g):=by
 refine⟨?_⟩;refine bY (sC hp hc (En ho.pe hbase hline) (oH hc (gw (fQ hN hi hx hf) (gw (fQ hN hj hy hf') nJ))) hb.pe hs) fun D σ H=>?_;rintro⟨O₀,H₀,F,ts,O,ρ,T,fl,ρ',T',rs,e,q⟩;obtain⟨w,T1,e1,e⟩:=aN e;unfold l8 at e;split at e
 .rename_i ds
  refine⟨O,ts,ρ,T,_,T1,rs.hc,rs.re,e1,fun v H1 s1 hc1 r1=>?_⟩;have r1':Rep X.K O H1 v (.dict ds):=r1
  cases r1' with
  |@dct a o kvs _ nO ha rk=>
   refine⟨a,o,kvs,rfl,ha,fun hz=>?_⟩;have hlen:=mT rk;refine⟨fun n m σ H=>m=ds.length-n/\n<=ds.length/\∃O' ρk Tk,RS X.K O₀ H₀ ((O,H1)::F) ts O' H σ ρk Tk/\fK i j g (ds.drop n) ρk Tk=some ((fl,ρ'),T'),⟨_,rfl,QE _,O,ρ,T1,(rs.step s1 hc1).more,e⟩,?_⟩;rintro n m σ2 H2 ⟨rfl,hk,O',ρk,Tk,rs2,ek⟩;have le:=rs2.frs _ Pi;have ha2:=le a _ nO ha
   by_cases hlt:n<ds.length
   .refine .inr ⟨⟨ha2.2,by omega⟩,fun σ3 H3=>∃O' ρk Tk,RS X.K O₀ H₀ ((O,H1)::F) ts O' H3 σ3 ρk Tk/\fK i j g (ds.drop (n+1)) ρk Tk=some ((fl,ρ'),T'),fun σ3 H3 nn=>⟨ds.length-(n+1),by omega,rfl,hlt,nn⟩,fun v H3 yy=>?_⟩
    obtain⟨p,k',v',hpn,hkv,rfl,rfl⟩:=yy;obtain⟨d,hd,rd⟩:=xc rk hkv
    have hdr:ds.drop n=(gK k',d)::ds.drop (n+1):=by
     rw[Ql hlt];have:=(Ph.mp hd).2;rw[this]
    rw[hdr] at ek;obtain⟨⟨fl1,ρ1⟩,T3,e3,ek⟩:=aN ek;have rs3:=rs2.step (.new hpn (.tup [kV k',v'])) (rs2.hc.new hpn _);have rd3:Rep X.K O' (upd H2 p (.tup [kV k',v'])) v' d:=Rep.mono (le.trans (rs2.hc.leNew hpn _)) rd;refine⟨p,_,rfl,SqT.of bo,rfl,_,_,rfl,_,_,rfl,rfl,O₀,H₀,(O,H1)::F,ts,O',_,Tk,fl1,ρ1,T3,(rs3.set (i:=i) (w:=.d (gK k')) (xf k') (fun _ z=>nomatch z)).set (i:=j) (w:=.d d) rd3 (fun _ z=>nomatch z),e3,?_⟩
    cases fl1 with
    |nx=>exact fun O3 σ3 H3 rs3=>⟨O3,ρ1,T3,rs3,ek⟩
    |ct=>exact fun O3 σ3 H3 rs3=>⟨O3,ρ1,T3,rs3,ek⟩
    |bk=>
     cases ek;exact fun O3 σ3 H3 rs3=>q O3 σ3 H3 rs3.less
    |rt x=>
     cases ek;exact q
    |ro x=>
     cases ek;exact q
   .have e:n=ds.length:=by omega
    subst e;rw[QN (Pm _)] at ek;cases ek;exact .inl ⟨⟨ha2.2,hlen.symm⟩,q O' σ2 H2 rs2.less⟩
 .cases e
end
section
variable {X:Cx}
end
theorem EX{P:Px}{w:PY}{K:Frag}{mg:Str->Option Pb}{base:Heap}{CX:CXT}{k:Nat}{f:Addr}{fd:QQ}{ps:List Str}{sp sp':Sp}(F:FnOk P w K mg base CX k f fd ps sp)(i:∀vs H Q E,sp' vs H Q E->sp vs H Q E):FnOk P w K mg base CX k f fd ps sp':=⟨fun vs H Q E h=>F.1 vs H Q E (i _ _ _ _ h),fun A outer s H args us vs Q E a b c d h=>F.2 A outer s H args us vs Q E a b c d (i _ _ _ _ h)⟩
theorem De{K:Frag}{m:FnM}(hm:∀ns:List Int,ns.length<=63->∃T',m [.d (jL ns)] []=some (.bool true,T')):∀vs H Q E,pL K vs H Q E->spM K 1 m vs H Q E:=by
 intro vs H Q E h;obtain⟨a,ns,rfl,hS,hl,q⟩:=h;obtain⟨T',e⟩:=hm ns hl
 have ra:LstAt K (fun _=>False) H a (ns.map V.int):=by
  rcases hS with h|h
  .exact .inl ⟨fun z=>z,h⟩
  .exact .inr (.inr h)
 refine⟨fun _=>False,[],[],[.d (jL ns)],.bool true,T',⟨fun b hb=>(by cases hb),fun b hb=>hb.elim,T7,rfl,fun i a xs e1 _=>by simp at e1⟩,.cons (show Rep K (fun _=>False) H (.ref a) (jL ns) from .lst ra (vd ns)) .nil,rfl,e,fun v H' _ _ r=>?_⟩;cases r;exact q H'
def La:Pa->Pa->Option PyData:=iop fun i j=>if 0<=j then some (.int (i / 2^j.toNat)) else none
@[simp] theorem My:La (.int i) (.int j)=if 0<=j then some (.int (i / 2^j.toNat)) else none:=rfl
section
variable {X:Cx}
theorem EE:MtR X "str.join" (fun x vs H Q=>∃(z:Str) (l:Addr) (ys:List Str),x=.str z/\vs=[.ref l]/\SqT X.K H l (ys.map V.str)/\(ys.map (·.length)).sum+ys.length*z.length<=16777216/\Q (.str (RR z ys)) H):=by
 intro pins s σ H x vs v us Q I rx rv h;obtain⟨z,l,ys,rfl,rfl,hq,hz,q⟩:=h;obtain⟨t,rfl⟩:=rx;obtain⟨u,rfl,ru⟩:=vals1 rv;cases ru;obtain⟨its,rw',pl,_⟩:=I.tuple hq;refine join_tuple (ys:=ys) pl (by simpa using ut rw') hz fun t' k=>⟨.str _,H,I.tok _,⟨t',?_⟩,q⟩;show Tv (Wf z ys) t'=_;rw[Vi]
theorem AB{K:Frag}{O:Addr->Prop}{ts:List Addr}{H:Hp}{T:Tp}{v:V}{w:W}{z:Str}(r:RepW K O ts H v w)(h:view T w=some (.str z)):v=.str z:=by
 cases w with
 |d x=>cases h;cases (show Rep K O H v _ from r);rfl
 |tp k=>
  have h1':(T[k]?).bind kl=some (PV z):=h
  cases hk:T[k]? with
  |none=>rw[hk] at h1';cases h1'
  |some xs=>
   rw[hk] at h1';have e2:(if isO xs=true then none else some (Um xs))=some (PV z):=h1'
   split at e2 <;> cases e2
 |loc zs=>cases zs <;> cases h
noncomputable def fD:Pa->Pa->Option Pa
 |.str z,.list xs=>match eM xs with
  |some ys=>if (ys.map (·.length)).sum+ys.length*z.length<=16777216 then some (.str (RR z ys)) else none
  |none=>none
 |.str z,.tuple xs=>match eM xs with
  |some ys=>if (ys.map (·.length)).sum+ys.length*z.length<=16777216 then some (.str (RR z ys)) else none
  |none=>none
 |_,_=>none
theorem rq(ho:DE X o fo)(he:DE X e fe)
  (hbase:Q7 o "join" X.env (eval o X.env)=eval o X.env:=by rfl)
  (hfew:((Qg cpos (Pk [e] X.env)).all (fun x=>!x.1)&&(Rq cpos (QH [] X.env)).all (fun x=>x.1.isSome)
   && decide (([e]:List Expr).length+([]:List Rb).length+(if ([]:List Rb).isEmpty then 0 else 1)<30))=true:=by exact qg rfl)
  (hline:(apos.endLine == cpos.line)=true:=by rfl) (hse:Pk [e] X.env=(false,eval e X.env)::Pk [] X.env:=by exact bc rfl) (hplain:(Qg cpos (Pk [] X.env)).any (·.1)=false:=by exact bN rfl) :
  DE X (.Call (.Attribute o "join" apos) [e] [] cpos) (af fD fo fe):=by
 refine⟨?_⟩;refine pe_imp (lP U4 Vj Vk (mt_joinG.or EE) ho.pe (bw he.pe cG hse) hbase hfew hline hse hplain) fun σ H Q=>?_;rintro⟨O,ts,ρ,T,w,T',hc,re,e,q⟩;obtain⟨w1,T1,e1,e⟩:=aN e;obtain⟨w2,T2,e2,e⟩:=aN e;obtain⟨x,y,d,h1,h2,h3,rfl,rfl⟩:=jN e;unfold fD at h3;refine⟨O,ts,ρ,T,w1,T1,hc,re,e1,fun v1 H1 s1 hc1 r1=>?_⟩;split at h3
 .rename_i z xs
  split at h3
  .rename_i ys hy
   split at h3
   .rename_i hz
    cases h3;have ev:=AB r1 h1;subst ev;refine⟨rfl,O,ts,ρ,T1,w2,T',hc1,re.mono hc s1,e2,fun v2 H2 s2 hc2 r2=>?_⟩;obtain⟨a,vs,rfl,t,r⟩:=(hc2.view r2 h2).lst;rw[nG r hy] at t;exact .inl ⟨z,a,ys,rfl,rfl,t,hz,q _ H2 (s1.trans s2) hc2 (.str _)⟩
   .cases h3
  .cases h3
 .rename_i z xs
  split at h3
  .rename_i ys hy
   split at h3
   .rename_i hz
    cases h3;have ev:=AB r1 h1;subst ev;refine⟨rfl,O,ts,ρ,T1,w2,T',hc1,re.mono hc s1,e2,fun v2 H2 s2 hc2 r2=>?_⟩;obtain⟨a,vs,rfl,t,r⟩:=(hc2.view r2 h2).tup;have t:=t.sq;rw[nG r hy] at t;exact .inr ⟨z,a,ys,rfl,rfl,t,hz,q _ H2 (s1.trans s2) hc2 (.str _)⟩
   .cases h3
  .cases h3
 .cases h3
end
end D
namespace L2
structure CSn(osc:Rj)(N:List Str)(xs:List Str)(scope:Rj)(N':List Str):Prop where
 kind:scope.kind=.function
 nocell:∀y∈scope.names,y.2≠.cell
 names:∀y∈scope.names,y.2=.local->scope.names.lookup y.1=some .local
 hx:∀x∈xs,scope.names.lookup x=some .local
 only:∀y∈scope.names,y.2=.local->y.1∈xs\/y.1=".0"
 free:∀y∈scope.names,y.2=.free->osc.names.lookup y.1=some .cell\/osc.names.lookup y.1=some .free
 nd:(xs++N').Nodup
 n0:(".0" : Str)∉N'
 len:N'.length=N.length
 rel:∀p∈N'.zip N,p.1=p.2\/∀q∈scope.names,q.1≠p.1
section
variable {X:Cx}{pins:List (Addr×Obj)}{σ:St}{H:Hp}{s:Pf}{xs:List Str}{scope:Rj}{N':List Str}
end
section
variable {X:Cx}{xs:List Str}{scope:Rj}{N':List Str}{tg elt iter:Expr}{ifs:List Expr}{pos:Pos}{wi:TI}{g:TG}{te:TE}{tt:TT}
end
end L2
namespace D
open L2
theorem wV{X:Cx}{pins:List (Addr×Obj)}{σ:L2.St}{H:Hp}{s:Pf}{h':Heap}{t':Nat}{fp:List Addr}(I:Inv X pins σ H s)(k:∀b o,b∉fp->s.heap.get? b=some o->h'.get? b=some o)(hf:∀b∈fp,dA X pins H b):Inv X pins σ H { s with heap:=h',toks:=t' }:=by
 have nit:∀b u,H b=some u->b∉fp:=fun b u e z=>by rw[(hf b z).1] at e;cases e
 have hL:X.env.locals∉fp:=fun z=>(hf _ z).2.1 rfl
 refine I.step (g':=s.gens) (d':=s.drawn) (ch:=fp) (fun b hb=>?_) (fun b o _ _ hc e _=>k b o hc e) (fun b o _ _ hc e _=>⟨o.slots,k b o hc e⟩) (fun _ _ _ _ n=>n)
  (fun b o hc e=>⟨o,k b o hc e⟩) (fun _ _ e=>e) (fun _ _ _ e=>e) (fun b ps e=>⟨#[],by rw[e];simp⟩) (fun m hm=>?_) (fun b u e=>?_) I.bare
 .obtain⟨_,f1,_,f3,f4,f5⟩:=hf b hb
  exact⟨f3,f1,f4,f5⟩
 .obtain⟨o,es,ep,ho,r⟩:=hm
  exact⟨o,es,ep,k _ o hL ho,r⟩
 .refine(I.hok b u e).stay (fun c v hc q=>k c v ?_ q) (fun _ q=>q) fun _ _ q=>q
  rcases hc with z|z
  .rw[z];exact nit b u e
  .exact nit c _ z
section
variable {X:Cx}{pos:Pos}
noncomputable def zM(i j k:Nat)(ρ:Rho)(w:W)(T:Tp):Option ((Fl×Rho)×Tp):=match w with
 |.d (.tuple [x,y,z])=>some ((.nx,((ρ.set i (some (.d x))).set j (some (.d y))).set k (some (.d z))),T)
 |_=>none
def pU(i j k:Nat)(f:FE):FS:=fun ρ T=>bnd (f ρ T) (zM i j k ρ)
theorem G0(hN:X.N.Nodup)(he:DE X e f)(hi:X.N[i]? = some x:=by rfl)(hj:X.N[j]? = some y:=by rfl)(hk:X.N[k]? = some z:=by rfl)(hx:Loc X.env.scope x:=by first|exact QM rfl|exact Qx rfl)(hy:Loc X.env.scope y:=by first|exact QM rfl|exact Qx rfl)(hz:Loc X.env.scope z:=by first|exact QM rfl|exact Qx rfl)
  (hf:X.fn x=true\/X.env.scope.names.lookup x=some .local:=by first|exact .inl rfl|exact .inr rfl|assumption) (hf':X.fn y=true\/X.env.scope.names.lookup y=some .local:=by first|exact .inl rfl|exact .inr rfl|assumption) (hf2:X.fn z=true\/X.env.scope.names.lookup z=some .local:=by first|exact .inl rfl|exact .inr rfl|assumption) (hc:X.calm=true:=by rfl)
  (hs:Up [.Tuple [.Name x px,.Name y py,.Name z pz] n tp] e pos.line X.env=pure false:=by rfl) (hw:Uq [.Tuple [.Name x px,.Name y py,.Name z pz] n tp] e X.env=pure none:=by rfl)
  (h1:(R5 [.Tuple [.Name x px,.Name y py,.Name z pz] n tp] X.env).map (·.2)=[TH (.Tuple [.Name x px,.Name y py,.Name z pz] n tp) X.env]:=by rfl):DS X (.Assign [.Tuple [.Name x px,.Name y py,.Name z pz] n tp] e pos) (pU i j k f):=by
 refine⟨?_⟩;refine bY (sD he.pe (oH hc (gw (fQ hN hi hx hf) (gw (fQ hN hj hy hf') (gw (fQ hN hk hz hf2) nJ)))) hs hw h1) fun D σ H=>?_;rintro⟨O₀,H₀,F,ts,O,ρ,T,fl,ρ',T',rs,e,q⟩;obtain⟨w,T1,e1,e⟩:=aN e;refine⟨O,ts,ρ,T,w,T1,rs.hc,rs.re,e1,fun v H1 s1 hc1 r1=>?_⟩;unfold zM at e;split at e
 .rename_i a b c
  cases e;have rs1:=rs.step s1 hc1;have r1':Rep X.K O H1 v (.tuple [a,b,c]):=r1
  cases r1' with
  |tup t r=>
   cases r with
   |cons ra r=>
    cases r with
    |cons rb r=>
     cases r with
     |cons rc r=>
      cases r;exact⟨_,_,rfl,t.sq,rfl,_,_,rfl,_,_,rfl,_,_,rfl,rfl,q O _ _ (((rs1.set (w:=.d a) ra fun _ z=>nomatch z).set (w:=.d b) rb fun _ z=>nomatch z).set (w:=.d c) rc fun _ z=>nomatch z)⟩
 .cases e
end
section
variable {X:Cx}
theorem C5:MtM X "list.insert" (fun x vs H Q=>∃(l:Addr) (xs:List V) (i:Int) (k:Nat) (y:V),x=.ref l/\vs=[.int i,y]/\H l=some (.lst xs)/\i.toNat=k/\0<=i/\k<=xs.length/\xs.length<=1000/\Q .non (upd H l (.lst (xs.take k++y::xs.drop k)))):=by
 intro pins s σ H x vs v us Q I rx rv h;obtain⟨l,xs,i,k,y,rfl,rfl,hH,hki,hi0,hk,hz,q⟩:=h;cases rx;obtain⟨u,w,rfl,ru,rw'⟩:=vals2 rv;obtain⟨t,rfl⟩:=ru;obtain⟨z,its,n,r,hl,e⟩:=I.lstM hH
 have hsl:(1001:Nat)<=sizeLine:=by decide
 have hfit:Xj i=true:=fitsIndex_both (by omega) (by omega)
 have hfit':¬(!Builtin.List.listFitsIndex i)=true:=by rw[hfit];exact Pu
 have hsz:its.toArray.size<=sizeLine:=by
  rw[Pr];exact PL (by omega) hsl
 clear hfit;refine TX F.slot_list_insert ⟨_,e,rfl⟩ F.entry_list_insert (F.args_list_insert_3 _ _ _) (AutoSeq1.list_insert_list_int_val_1 l its.toArray n i t w hfit' hsz) ⟨e,?_⟩;refine⟨.non,_,I.lset (its':=its.take k++w::its.drop k) hH e ?_ ((r.take k).append (.cons rw' (r.drop k))) ?_,rfl,q⟩
 .have hk':min k its.length=k:=by omega
  have h0:¬(i<0):=by omega
  simp only[h0,if_false,hki,Pr,hk'];apply Array.ext';simp;exact QZ (by simp)
 .refine PL ?_ hsl
  simp only[PN,Q4,PH,RO];omega
variable {pos:Pos}{e e':Expr}{fe fk:FE}
noncomputable def mw(i:Nat)(ρ:Rho)(w1 w2:W)(T:Tp)(o:Option (Option W)):Option ((Fl×Rho)×Tp):=match w1,w2,o with
 |.d (.int k),.d x,some (some (.loc (.list xs)))=>if 0<=k/\k<=xs.length/\xs.length<=1000 then some ((.nx,ρ.set i (some (.loc (.list (xs.take k.toNat++x::xs.drop k.toNat))))),T) else none
 |_,_,_=>none
theorem GH(h:mw i ρ w1 w2 T o=some ((fl,ρ'),T')):∃k x xs,w1=.d (.int k)/\w2=.d x/\o=some (some (.loc (.list xs)))/\(0<=k/\k<=xs.length/\xs.length<=1000)/\((fl,ρ'),T')=((Fl.nx,ρ.set i (some (W.loc (.list (xs.take k.toNat++x::xs.drop k.toNat))))),T):=by
 unfold mw at h;split at h
 .split at h
  .rename_i h2
   exact⟨_,_,_,rfl,rfl,rfl,h2,(Qa h).symm⟩
  .cases h
 .cases h
def mB(i:Nat)(f g:FE):FS:=fun ρ T=>bnd (f ρ T) fun w1 T1=>bnd (g ρ T1) fun w2 T2=>mw i ρ w1 w2 T2 ρ[i]?
theorem AY(h:noStar e=true)(h2:noStar f=true):((Qg cpos (Pk [e,f] env)).all (fun x=>!x.1)&&(Rq cpos (QH [] env)).all (fun x=>x.1.isSome)
   && decide (([e,f]:List Expr).length+([]:List Rb).length+(if ([]:List Rb).isEmpty then 0 else 1)<30))=true:=by
 rw[u5 h,nr h2];rfl
theorem Jm(hk:DE X e fk)(he:DE X e' fe)(hN:X.N[i]? = some x:=by rfl)(hv:Vis X.env.scope x:=by first|exact QM rfl|exact Qx (QM rfl)|exact Qx (Qx rfl))(hd:(x == ("__debug__" : Str))=false:=by decide)
  (hcd:(x == ("__classdict__" : Str))=false:=by decide) 
  (hbase:Q7 (.Name x p) "insert" X.env (eval (.Name x p) X.env)=eval (.Name x p) X.env:=by rfl)
  (hfew:((Qg cpos (Pk [e,e'] X.env)).all (fun x=>!x.1)&&(Rq cpos (QH [] X.env)).all (fun x=>x.1.isSome)
   && decide (([e,e']:List Expr).length+([]:List Rb).length+(if ([]:List Rb).isEmpty then 0 else 1)<30))=true:=by exact AY rfl rfl)
  (hline:(apos.endLine == cpos.line)=true:=by rfl) (hse:Pk [e,e'] X.env=(false,eval e X.env)::Pk [e'] X.env:=by exact bc rfl) (hse2:Pk [e'] X.env=(false,eval e' X.env)::Pk [] X.env:=by exact bc rfl) (hplain:(Qg cpos (Pk [e'] X.env)).any (·.1)=false:=by exact bN rfl)
  (hs:QL (.Call (.Attribute (.Name x p) "insert" apos) [e,e'] [] cpos) none pos.line X.env=pure false:=by rfl) :
  DS X (.Expr (.Call (.Attribute (.Name x p) "insert" apos) [e,e'] [] cpos) pos) (mB i fk fe):=by
 refine⟨?_⟩;refine bY (rL (lP SA PySem.F.slot_list_insert PySem.F.type_list_insert C5 (pv i hN hv hd hcd) (bw hk.pe (bw he.pe cG hse2) hse) hbase hfew hline hse hplain) hs) fun D σ H=>?_;rintro⟨O₀,H₀,F,ts,O,ρ,T,fl,ρ',T',rs,e,q⟩;obtain⟨w1,T1,e1,e⟩:=aN e;obtain⟨w2,T2,e2,e⟩:=aN e;obtain⟨k,x0,xs,rfl,rfl,h1,h2,e3⟩:=GH e;cases e3;obtain⟨v,k1,a,rfl,k2,k3,vs,k4,k5⟩:=rs.re i _ h1;refine⟨_,k1,.inl ⟨rfl,vs,SqL.of k4⟩,O,ts,ρ,T,_,_,rs.hc,rs.re,e1,fun u H1 s1 hc1 r1=>?_⟩;have rs1:=rs.step s1 hc1;refine⟨O,ts,ρ,T1,_,_,hc1,rs1.re,e2,fun u2 H2 s2 hc2 r2=>?_⟩;have rs2:=rs1.step s2 hc2;cases (show Rep X.K O H1 u (.int k) from r1);have l5:=k5.length;have k5':Reps X.K O H2 vs xs:=(k5.mono (rs.hc.le s1)).mono (hc1.le s2);exact⟨a,vs,k,k.toNat,u2,rfl,rfl,s2 _ _ k3 (s1 _ _ k3 k4),rfl,h2.1,by omega,by omega,q O _ _ (rs2.put (us:=[]) h1 k1 ((k5'.take _).append (.cons r2 (k5'.drop _))))⟩
end
section
variable {K:Frag}{O₀:Addr->Prop}{H₀:Hp}{F:List ((Addr->Prop)×Hp)}{ts:List Addr}{O A:Addr->Prop}{H H1:Hp}{σ:L2.St}{ρ:Rho}{T T1:Tp}
theorem RS.widen(r:RS K O₀ H₀ F ts O H σ ρ T)(s:SameX ts H H1)(hA:∀b,A b->H b=none/\¬O b)(c:HC K (fun b=>O b\/A b) ts H1 T1):RS K O₀ H₀ F ts (fun b=>O b\/A b) H1 σ ρ T1:=by
 have le:Le O H (fun b=>O b\/A b) H1:=fun a o n e=>⟨fun z=>z.elim n fun z=>(by rw[(hA a z).1] at e;cases e),s a o (fun z=>n (r.hc.own a z)) e⟩;refine⟨c,fun i w e=>?_,fun b hb=>.inl (r.sub b hb),r.ots,r.same.trans s,r.fresh,r.dist,fun f hf=>(r.frs f hf).trans le,r.len⟩;obtain⟨v,h1,h2⟩:=r.re i w e;refine⟨v,h1,?_⟩
 cases w with
 |d x=>exact Rep.mono le h2
 |tp k=>exact h2
 |loc ys=>
  obtain⟨a,ea,m1,m2,m3⟩:=h2;exact⟨a,ea,.inl m1,m2,m3.mono (fun o q=>s _ _ m2 q) le⟩
theorem RS.hold(r:RS K O₀ H₀ F ts O H σ ρ T)(ha:O a)(nt:a∉ts)(hf:H₀ a=none/\¬O₀ a)(nh:∀(j:Nat) (ys:Pa),ρ[j]? = some (some (W.loc ys))->σ[j]? = some (some (V.ref a))->False)(rv:OwnAt K O H a xs) :
  RS K O₀ H₀ F ts O H (σ.set i (some (.ref a))) (ρ.set i (some (.loc xs))) T:=by
 refine⟨r.hc,fun j w e=>?_,r.sub,r.ots,r.same,fun j ys b e1 e2=>?_,fun j k ys zs v e1 e2 e3 e4=>?_,r.frs,by simp[r.len]⟩
 .by_cases z:i=j
  .subst z
   have hl:i<ρ.length:=by
    have:=(Ph.mp e).1;simpa using this
   rw[Pv hl] at e;cases e;exact⟨.ref a,by rw[Pv (by rw[r.len];exact hl)],a,rfl,ha,nt,rv⟩
  .rw[Pj z] at e
   obtain⟨x,h1,h2⟩:=r.re j w e;exact⟨x,by rw[Pj z];exact h1,h2⟩
 .by_cases z:i=j
  .subst z
   have hl:i<ρ.length:=by
    have:=(Ph.mp e1).1;simpa using this
   rw[Pv (by rw[r.len];exact hl)] at e2;cases e2;exact hf
  .rw[Pj z] at e1 e2
   exact r.fresh j ys b e1 e2
 .by_cases z:i=j
  .by_cases z':i=k
   .rw[←z,←z']
   .exfalso
    subst z
    have hl:i<ρ.length:=by
     have:=(Ph.mp e1).1;simpa using this
    rw[Pv (by rw[r.len];exact hl)] at e3;cases e3;rw[Pj z'] at e2 e4;exact nh k zs e2 e4
  .by_cases z':i=k
   .exfalso
    subst z'
    have hl:i<ρ.length:=by
     have:=(Ph.mp e2).1;simpa using this
    rw[Pv (by rw[r.len];exact hl)] at e4;cases e4;rw[Pj z] at e1 e3;exact nh j ys e1 e3
   .rw[Pj z] at e1 e3
    rw[Pj z'] at e2 e4;exact r.dist j k ys zs v e1 e2 e3 e4
theorem RS.keep(r:RS K O₀ H₀ F ts O H σ ρ T)(hA:∀b,A b->O b):HC K (fun b=>O₀ b\/A b) ts H T/\Le O H (fun b=>O₀ b\/A b) H:=by
 have le:Le O H (fun b=>O₀ b\/A b) H:=fun a o n e=>⟨fun z=>n (z.elim (r.sub a) (hA a)),e⟩;exact⟨⟨fun b hb=>.inl (r.ots b hb),fun b hb=>r.hc.trk b (hb.elim (r.sub b) (hA b)),r.hc.nd,r.hc.len,fun i a xs e1 e2=>(r.hc.tape i a xs e1 e2).mono (fun _ h=>h) le⟩,le⟩
end
section
variable {X:Cx}{pos:Pos}
end
def jS(o:Option ((Fl×Rho)×Tp)):Option (Pa×Tp):=bnd o fun p T=>match p with
 |(.ro x,_)=>some (x,T)
 |_=>none
def ja(N:Nat)(f:FS):FnM:=fun ws T=>if cC ws=true then jS (f (ws.map some++PC (N-ws.length) none) T) else none
inductive SpOP(K:Frag)(n:Nat)(m:FnM)(vs:List V)(H:Hp)(Q:VK):Prop where
 |mk (O:Addr->Prop) (ts:List Addr) (T:Tp) (ws:List W) (x:Pa) (T':Tp) (hc:HC K O ts H T) (r:fF K O ts H vs ws) (hl:ws.length=n) (e:m ws T=some (x,T'))
  (q:∀(A:Addr->Prop) v H',SameX ts H H'->(∀b,A b->H b=none/\¬O b)->HC K (fun b=>O b\/A b) ts H' T'->OwnV K (fun b=>O b\/A b) A H' v x->Q v H'):SpOP K n m vs H Q
def spO(K:Frag)(n:Nat)(m:FnM):Sp:=fun vs H Q _=>SpOP K n m vs H Q
theorem Lo{P:Px}{w:PY}{K:Frag}{mg:Str->Option Pb}{base:Heap}{x qual:Str}{st:Stmt}{f:Addr}{fd:QQ}{N ps:List Str}{k:Nat}{m:FS}(F:Fun K x qual st f fd)(S:FnScope N ps (bh st))
  (hbody:∀(cdv:Pb) (A:PZ) (outer:List Env) (s:Pf) (H:Hp) (E:XK),Room k (A.deeper (Rx qual (bh st) s.heap.objs.size f cdv))->DSs (cw CX0 P w K mg base N qual (bh st) f cdv A outer s H E).nox (cj st) m) :
  FnOk P w K mg base CX0 (k+1) f fd ps (spO K ps.length (ja N.length m)):=by
 refine F.ok S (fun vs H Q E h=>?_) (fun cdv A outer s H vs Q E hr h=>⟨_,(hbody cdv A outer s H E hr).pe,?_⟩)
 .obtain⟨O,ts,T,ws,x,T',hc,rw',hl,_⟩:=h
  rw[←hl];exact Q5 rw'
 obtain⟨O,ts,T,ws,x,T',hc,rw',hl,e,q⟩:=h;unfold ja at e;split at e
 .rename_i hn
  obtain⟨⟨fl,ρ'⟩,T1,e1,e⟩:=aN e;have hlen:vs.length=ws.length:=Q5 rw';have noL:∀{i:Nat}{xs:Pa},(ws.map some++PC (N.length-ws.length) none)[i]? = some (some (W.loc xs))->False:=fun {i xs} e=>kN hn (P8 (ju e));refine⟨O,H,[],ts,O,_,T,fl,ρ',T1,⟨hc,fun i u e=>?_,fun _ h=>h,hc.own,.refl _ _,fun i xs a e1 _=>(noL e1).elim,fun i j xs ys v e1 _ _ _=>(noL e1).elim,fun f hf=>absurd hf (by simp),by simp[L2.start,hlen]⟩,e1,?_⟩
  .obtain⟨v,h1,h2⟩:=mS rw' (ju e)
   refine⟨v,?_,h2⟩;unfold L2.start;have hi:i<vs.length:=(Ph.mp h1).1;rw[PF (by simpa using hi),Qd,h1];rfl
  .cases fl with
   |ro y=>cases e;exact q
   |_=>cases e
 .cases e
section
variable {X:Cx}{pos:Pos}
end
section
variable {X:Cx}
abbrev FP:=Rho->Tp->Option (List (Str×Pa)×Tp)
def aI(l:List (Str×Pa)):List (Pa×Pa):=l.map fun p=>(.str p.1,p.2)
def cU(p:Str×V):Key×V:=(Qf p.1,p.2)
structure DP(X:Cx)(pos:Pos)(keys:List (Option Expr))(values:List Expr)(g:FP):Prop where
 ex:∃trs,PPs X pos keys values trs/\∀(σ:L2.St) (H:Hp) (Q:List (V×V)->Hp->Prop) (O:Addr->Prop) (ts:List Addr) (ρ:Rho) (T:Tp) (l:List (Str×Pa)) (T':Tp),HC X.K O ts H T->RelE X.K O ts H σ ρ->g ρ T=some (l,T') ->
  (∀(kvs:List (Str×V)) (H':Hp),SameX ts H H'->HC X.K O ts H' T'->kvs.map (·.1)=l.map (·.1)->RepK X.K O H' (kvs.map cU) (aI l)->Q (kvs.map fun p=>(V.str p.1,p.2)) H')->sr trs σ H Q
theorem vh:∀(l acc:List (Str×V)),(acc.map (·.1)++l.map (·.1)).Nodup->fU (acc.map cU) (l.map cU)=(acc++l).map cU
 |[],acc,_=>by simp[fU]
 |p::l,acc,h=>by
  have h1:putK (acc.map cU) (Qf p.1:Key) p.2=(acc++[p]).map cU:=by
   unfold putK;rw[if_neg]
   .rw[Sq]
    rfl
   .intro hc
    obtain⟨kv,m,e⟩:=Wz.mp hc;obtain⟨q,m2,rfl⟩:=Pq.mp m;have e':q.1=p.1:=WF (of_decide_eq_true e);have:=(Qz.mp h).2.2 q.1 (Pq.mpr ⟨q,m2,rfl⟩) p.1 (by simp);exact this e'
  have:=vh l (acc++[p]) (by simpa using h);have e:fU (acc.map cU) ((p::l).map cU)=fU (putK (acc.map cU) (Qf p.1:Key) p.2) (l.map cU):=rfl;rw[e,h1,this];simp
def KC(ds:List (Pa×Pa))(z:Pa):Pa->Option Pa
 |.str s=>some ((ay ds s).getD z)
 |_=>none
def Ag(T:Tp)(o:Option Pa):Option (W×Tp):=match o with
 |some x=>some (.d x,T)
 |none=>none
def l6(w1 w2 w3:W)(T:Tp):Option (W×Tp):=match w1,w2,w3 with
 |.d (.dict ds),.d y,.d z=>Ag T (KC ds z y)
 |_,_,_=>none
def kc(f g h:FE):FE:=fun ρ T=>bnd (f ρ T) fun w1 T1=>bnd (g ρ T1) fun w2 T2=>bnd (h ρ T2) (l6 w1 w2)
theorem ES(h:l6 w1 w2 w3 T=some (w,T')):∃ds s z,w1=.d (.dict ds)/\w2=.d (.str s)/\w3=.d z/\w=.d ((ay ds s).getD z)/\T'=T:=by
 unfold l6 at h;split at h
 .rename_i ds y z
  unfold Ag at h;split at h
  .rename_i x hx
   cases h
   cases y with
   |str s=>cases hx;exact⟨ds,s,z,rfl,rfl,rfl,rfl,rfl⟩
   |_=>cases hx
  .cases h
 .cases h
theorem yo(hr:Room k X.A)(ho:DE X o f)(he:DE X e g)(he':DE X e' h)
  (m:M2 X o "get" apos e e' cpos:=by exact⟨rfl,AY rfl rfl,rfl,by rfl⟩):DE X (.Call (.Attribute o "get" apos) [e,e'] [] cpos) (kc f g h):=by
 refine⟨?_⟩;refine pe_imp (Et (lX hr) ho.pe he.pe he'.pe m) fun σ H Q=>?_;rintro⟨O,ts,ρ,T,w,T',hc,re,e,q⟩;obtain⟨w1,T1,e1,e⟩:=aN e;obtain⟨w2,T2,e2,e⟩:=aN e;obtain⟨w3,T3,e3,e⟩:=aN e;obtain⟨ds,s,z,rfl,rfl,rfl,rfl,rfl⟩:=ES e;refine⟨O,ts,ρ,T,_,T1,hc,re,e1,fun v1 H1 s1 hc1 r1=>?_⟩
 cases (show Rep X.K O H1 v1 (.dict ds) from r1) with
 |@dct a ob kvs _ n t r=>
  refine⟨a,rfl,IQ (.inr ⟨_,t⟩),O,ts,ρ,T1,_,T2,hc1,re.mono hc s1,e2,fun v2 H2 s2 hc2 r2=>?_⟩;refine⟨O,ts,ρ,T2,_,T',hc2,(re.mono hc s1).mono hc1 s2,e3,fun v3 H3 s3 hc3 r3=>?_⟩;cases (show Rep X.K O H2 v2 (.str s) from r2);have le:=hc1.le (s2.trans s3);have t3:=(le _ _ n t).2;have r':=r.mono le;refine⟨_,DGet.rd (k:=Qf s) (.inr ⟨_,t3⟩),?_⟩
  rcases gX (s:=s) r' with⟨z1,z2⟩|⟨v,d',z1,z2,rv⟩
  .rw[z2]
   exact q _ H3 ((s1.trans s2).trans s3) hc3 (by rw[z1];exact r3)
  .rw[z2]
   exact q _ H3 ((s1.trans s2).trans s3) hc3 (by rw[z1];exact rv)
end
section
variable {X:Cx}{pos:Pos}
end
def oK(i:Nat)(fr:FS)(ρ:Rho)(x:Pa)(T:Tp):Option ((Fl×Rho)×Tp):=match x with
 |.list xs=>lA T.length (fr (ρ.set i (some (.tp T.length))) (T++[xs]))
 |_=>none
def jU(i:Nat)(m:FnM)(g:FA)(fr:FS):FS:=fun ρ T=>bnd (g ρ T) fun ws T1=>bnd (m ws T1) (oK i fr ρ)
theorem CZ(h:oK i fr ρ x T=some r):∃xs,x=.list xs/\lA T.length (fr (ρ.set i (some (.tp T.length))) (T++[xs]))=some r:=by
 cases x with
 |list xs=>exact⟨xs,rfl,h⟩
 |_=>cases h
section
variable {X:Cx}{pos:Pos}{rest:List Stmt}{fr:FS}
theorem vv(F:Fn X.prog X.w X.K X.mg X.base name ps kk (spO X.K ps.length m))(hr:Room kk X.A)(hg:Gl X name)(hN:X.N.Nodup)(ha:DA X (e::es) g)(hl:dQ g ps.length)(hrest:DSs X rest fr)(hdb:(name == ("__debug__" : Str))=false:=by decide)
  (he:Pk (e::es) X.env=(false,eval e X.env)::Pk es X.env:=by exact bc rfl) (hpl:(Qg cpos (Pk es X.env)).any (·.1)=false:=by exact bN rfl) (hi:X.N[i]? = some x:=by rfl) (hx:Loc X.env.scope x:=by first|exact QM rfl|exact Qx rfl)
  (hs:QL (.Call (.Name name p) (e::es) [] cpos) (some (.Name x pos')) pos.line X.env=pure false:=by rfl) (hf:X.fn x=true\/X.env.scope.names.lookup x=some .local:=by first|exact .inl rfl|exact .inr rfl|assumption) :
  DSs X (.Assign [.Name x pos'] (.Call (.Name name p) (e::es) [] cpos) pos::rest) (jU i m g fr):=by
 refine⟨?_⟩;refine jE (jy (eL hN hi hx (i7 F hr hg ha.pe hdb he hpl) hs hf) hrest.pe) fun D σ H=>?_;rintro⟨O₀,H₀,F,ts,O,ρ,T,fl,ρ',T',rs,e,q⟩;obtain⟨ws,T1,e1,e⟩:=aN e;obtain⟨x0,T2,e2,e⟩:=aN e;obtain⟨xs,rfl,e⟩:=CZ e;refine⟨O,ts,ρ,T,ws,T1,rs.hc,rs.re,e1,fun vs H1 s1 hc1 r1=>?_⟩;have rs1:=rs.step s1 hc1;refine⟨O,ts,T1,ws,_,_,hc1,by rw[Qv];exact r1,hl _ _ _ _ e1,e2,fun A v H2 s2 hA hc2 ov=>?_⟩;obtain⟨a,rfl,hAA,us,k1,k2⟩:=ov;have hAa:=hA a ((hAA a).mpr rfl);have nta:a∉ts:=fun z=>hAa.2 (hc1.own a z)
 let H3:Hp:=fun b=>if b=a then none else H2 b
 have h3:∀{b:Addr},b≠a->H3 b=H2 b:=fun n=>if_neg n;have ha3:H3 a=none:=if_pos rfl
 have eH:upd H3 a (.lst us)=H2:=funext fun b=>by
  by_cases z:b=a
  .subst z;rw[bo];exact k1.symm
  .rw[aR z];exact h3 z
 have le:Le (fun b=>O b\/A b) H2 O H3:=fun b o n z=>⟨fun y=>n (.inl y),by rw[h3 (show b≠a from fun y=>n (.inr ((hAA b).mpr y)))];exact z⟩
 have s3:SameX ts H1 H3:=fun b o n z=>by
  have nb:b≠a:=fun y=>by rw[y,hAa.1] at z;cases z
  rw[h3 nb];exact s2 b o n z
 have c3:HC X.K O ts H3 T2:=⟨hc1.own,fun b hb=>by
   have nb:b≠a:=fun y=>hAa.2 (y ▸ hb);rw[h3 nb]
   exact hc2.trk b (.inl hb),hc2.nd,hc2.len,fun j b ys q1 q2=>(hc2.tape j b ys q1 q2).mono (fun o h=>by rw[h3 (show b≠a from fun y=>nta (by rw[←y];exact P8 q1))];exact h) le⟩
 have:=Gc (X:=X) (rs1.step s3 c3) ha3 (k2.mono le) e q;rw[eH] at this;exact this
end
def oF(ρ:Rho)(o:Option (List Pa))(T:Tp):Option ((Fl×Rho)×Tp):=match o with
 |some xs=>if xs.length<=1000 then some ((.ro (.list xs),ρ),T) else none
 |none=>none
def oX(g:FA):FS:=fun ρ T=>bnd (g ρ T) fun ws T1=>oF ρ (d3 ws) T1
section
variable {X:Cx}{pos:Pos}
theorem wA(ha:DA X es g):DS X (.Return (some (.List es lpos)) pos) (oX g):=by
 refine⟨?_⟩;refine bY (sA (sF ha.pe)) fun D σ H=>?_;rintro⟨O₀,H₀,F,ts,O,ρ,T,fl,ρ',T',rs,e,q⟩;obtain⟨ws,T1,e1,e⟩:=aN e;refine⟨O,ts,ρ,T,ws,T1,rs.hc,rs.re,e1,fun vs H1 s1 hc1 r1=>?_⟩;have rs1:=rs.step s1 hc1;unfold oF at e;split at e
 .rename_i xs h1
  split at e
  .rename_i h2
   cases e;have rv:=lu r1 h1;refine⟨nM (by rw[rv.length];exact h2),fun p hp=>?_⟩;have nO:=rs1.hc.fresh hp;have nt:p∉ts:=fun z=>nO (rs1.hc.own p z)
   have h0:H₀ p=none:=by
    cases z:H₀ p with
    |none=>rfl
    |some o=>rw[rs1.same p o nt z] at hp;cases hp
   have le:Le O H1 (fun b=>O₀ b\/b=p) (upd H1 p (.lst vs)):=fun b o n z=>by
    have nb:b≠p:=c6 z hp;exact⟨fun y=>y.elim (fun y=>n (rs1.sub b y)) nb,by rw[aR nb];exact z⟩
   refine q (fun b=>b=p) (.ref p) _ (rs1.same.trans (.new hp _)) (fun b hb=>by rw[hb];exact⟨h0,fun z=>nO (rs1.sub p z)⟩) ⟨fun b hb=>.inl (rs1.ots b hb),fun b hb=>?_,rs1.hc.nd,rs1.hc.len,fun j b ys q1 q2=>?_⟩ ⟨p,rfl,fun c=>Iff.rfl,vs,bo,rv.mono le⟩
   .by_cases z:b=p
    .subst z;rw[bo];exact .inl ⟨_,rfl⟩
    .rw[aR z];exact rs1.hc.trk b (rs1.sub b (hb.resolve_right z))
   .exact(rs1.hc.tape j b ys q1 q2).mono (fun o h=>by rw[aR (c6 h hp)];exact h) le
  .cases e
 .cases e
end
theorem BR:VY (.type "list") "keys"=pure none:=WX (by decide +kernel)
theorem Bs:VY (.type "list") "__getattr__"=pure none:=WX (by decide +kernel)
theorem BS(ho:s.heap.get? a=some { cls:=.type "list",dict:=none,data:=.seq its n,slots:=sl })(hh:A.handled=none)
  (h:∀h' tk e,Heap.NewAttrErr s.heap h' e (.ref a) "keys"->E (.ref e) { s with heap:=h',toks:=tk }) :
  PP (PX prog w) A (SN.«object.__getattribute__» ⟨[.ref a,.str "keys" u],[]⟩) Q E s:=by
 obtain⟨hp,g,d,tk,os⟩:=s;have hT:(⟨hp,g,d,tk,os⟩:Pf).TypeIs (.ref a) "list":=⟨_,ho,rfl⟩;have f4:=BR;unfold SN.«object.__getattribute__»
 repeat (any_goals (first|assumption|wp_step))
 exact wpAny_raiseAttrError hh h (attrMsg_fits (by decide +kernel) (by decide +kernel))
theorem BB(ho:s.heap.get? a=some { cls:=.type "list",dict:=none,data:=.seq its n,slots:=sl })(hh:A.handled=none)
  (h:∀h' tk,(∀b o,s.heap.get? b=some o->h'.get? b=some o)->Q none { s with heap:=h',toks:=tk }) :
  PP (PX prog w) A (Xk (.ref a) "keys") Q E s:=by
 obtain⟨hp,g,d,tk,os⟩:=s;have hT:(⟨hp,g,d,tk,os⟩:Pf).TypeIs (.ref a) "list":=⟨_,ho,rfl⟩;have f1:=sub_AttributeError;have f3:=RI.lookup;have f4:=RI.bind (.ref a);have f5:=Bs;unfold Xk getAttrBy?
 repeat (any_goals (first|assumption|wp_step))
 refine S7 RI.plain F.entry_list_ga (RI.check _ _ _ _ _ _ _ _ (show (⟨hp,g,d,tk+1,os⟩:Pf).TypeIs (.ref a) "list" from⟨_,ho,rfl⟩) (F.args_list_getattribute_2 _ _) (BS (s:=⟨hp,g,d,tk+1,os⟩) ho hh fun h' tk' e hx=>?_));obtain⟨t',u',he⟩:=hx.there;show PP _ _ (V0 _ _ _ _ _ _ _) _ _ _;unfold V0
 repeat (any_goals (first|assumption|wp_step))
 exact h _ _ hx.keeps
theorem t7:entryFor table "dict.update.loop"=some SN.«dict.update.loop»:=entryFor_of_tree (by kernel_rfl)
section
variable {prog:Px}{w:PY}{K:Type}[DecidableEq K]{knd:KeyKind prog w K}{A:PZ}{E:Pb->Pf->Prop}{s:Pf}
theorem vK{its:Array Pb}{R:W7->Pf->Prop}(hh:A.handled=none)(kvs:List (K×Pb))(hd:d≠it)(hz:kvs.length<=Pp){h0:Heap}
  (hlen:its.size=kvs.length) (hls:∀h',(∀b o,b≠d->b≠it->h0.get? b=some o->h'.get? b=some o)->h'.IsList l its/\∀(i:Nat) (kv:K×Pb),kvs[i]? = some kv->∃T key,(its[i]?:Option Pb)=some (PJ T)/\Vm h' T #[key,kv.2]/\knd.is kv.1 key=true)
  (hR:∀h' tk,h'.DictOf knd d (Ym [] kvs)->(∀b o,b≠d->b≠it->h0.get? b=some o->h'.get? b=some o)->R (.ok (.ret .none)) { s with heap:=h',toks:=tk }) :
  ∀(n i:Nat) (j:Int) (tok:Tok) (h':Heap) (tk:Nat),i+n=kvs.length->(∀b o,b≠d->b≠it->h0.get? b=some o->h'.get? b=some o)->h'.IsListIter it l i->h'.DictOf knd d (Ym [] (kvs.take i)) ->
   To (PX prog w) A (.builtin "dict.update.loop" ⟨[.ref d,.ref it,.int j tok,.none],[]⟩) R { s with heap:=h',toks:=tk }
 |0,i,j,tok,h',tk,hi,hk,hit,hdd=>by
  refine Sn t7 ?_;obtain⟨hl,hT⟩:=hls h' hk;unfold SN.«dict.update.loop»;dsimp only;refine Pd (Vh (s:={ s with heap:=h',toks:=tk }) hh hit hl (by rw[Array.getElem?_eq_none];omega) fun h'' eb=>?_);dsimp only;refine Pd ?_;unfold XZ;refine Pw (Pw ?_);have e:kvs.take i=kvs:=QZ (by omega);rw[e] at hdd;obtain⟨o,es,ep,ho,r⟩:=hdd;exact hR h'' tk ⟨o,es,ep,eb _ _ hd ho,r⟩ fun b ob b1 b2 q=>eb b ob b2 (hk b ob b1 b2 q)
 |n+1,i,j,tok,h',tk,hi,hk,hit,hdd=>by
  refine Sn t7 ?_;obtain⟨hl,hT⟩:=hls h' hk
  have hlt:i<kvs.length:=by omega
  obtain⟨T,key,e1,_,e3⟩:=hT i kvs[i] (Qs hlt);unfold SN.«dict.update.loop»;dsimp only;refine Pd (US (s:={ s with heap:=h',toks:=tk }) hit hl e1 fun h2 hit2 sb=>?_);have hk2:∀b o,b≠d->b≠it->h0.get? b=some o->h2.get? b=some o:=fun b ob b1 b2 q=>(sb.2 b b2).trans (hk b ob b1 b2 q);obtain⟨hl2,hT2⟩:=hls h2 hk2;obtain⟨T',key',e1',e2,e3⟩:=hT2 i kvs[i] (Qs hlt);rw[e1] at e1';cases e1';dsimp only;refine Pd (QJ ?_);refine Pd (R8 (Pd (Tq e2.typeIs ?_)));rw[if_pos (by decide)];obtain⟨oT,hoT,cT,nT,dT⟩:=id e2;refine Pd (m:=UJ (.ref T)) (Pd (wpAny_load (s:={ s with heap:=h2,toks:=tk }) hoT ?_));rw[dT];refine Pw (Pw ?_);dsimp only[Option.getD]
  have hmz:(Ym [] (kvs.take i)).length<=sizeLine:=by
   have:=merged_length_le ([]:List (K×Pb)) (kvs.take i);simp at this;omega
  refine QJ (wpAny_dictSet_pairs (s:={ s with heap:=h2,toks:=tk }) e3 (hdd.sameBut sb hd) (fun h3 hd3 sb3=>?_) hmz);refine Pw ⟨Ss _ (by decide +kernel),?_⟩;rw[←merged_take_succ [] kvs i kvs[i] (Qs hlt)] at hd3;exact vK hh kvs hd hz hlen hls hR n (i+1) _ _ h3 _ (by omega) (fun b ob b1 b2 q=>(sb3.2 b b1).trans (hk2 b ob b1 b2 q)) (hit2.extBut sb3.extBut (QW hd)) hd3
theorem Bw(hh:A.handled=none)(kvs:List (K×Pb))(hz:kvs.length<=Pp)(hlen:its.size=kvs.length)
  (ho:s.heap.get? l=some { cls:=.type "list",dict:=none,data:=.seq its n,slots:=sl }) (hT:∀(i:Nat) (kv:K×Pb),kvs[i]? = some kv->∃T key,(its[i]?:Option Pb)=some (PJ T)/\Vm s.heap T #[key,kv.2]/\knd.is kv.1 key=true)
  (h:∀h' tk,h'.DictOf knd s.heap.objs.size (Ym [] kvs)->(∀b o,s.heap.get? b=some o->h'.get? b=some o)->Q (.ref s.heap.objs.size) { s with heap:=h',toks:=tk }) :
  PP (PX prog w) A (call (.type "dict") [.ref l]) Q E s:=by
 refine callType_codes (Q₁:=fun obj s₁=>obj=.ref s.heap.objs.size/\s₁ = { s with heap:=s.heap.push { cls:=.type "dict",data:=.dict #[] } }) F.kt_called_dict (F.kt_typeCall_dict_1 _) F.entry_dict_init (kt_code_dict_new _ ⟨rfl,rfl⟩) ?_;rintro obj s₁ ⟨rfl,rfl⟩;have hnew:(s.heap.push { cls:=.type "dict",data:=.dict #[] }).DictOf knd s.heap.objs.size []:=WT s.heap;have up:∀b o,s.heap.get? b=some o->(s.heap.push { cls:=.type "dict",data:=.dict #[] }).get? b=some o:=fun b o e=>Pe _ e;refine⟨hnew.typeIs,F.args_dict_init_2 _ _,?_⟩;unfold SN.«dict.__init__»;refine Pd ?_;unfold X0;refine Pd (wpAny_notOrdered_dict hnew.typeIs ?_);show PP _ _ (pure (s.heap.objs.size,[PJ l])) _ _ _;refine Pw ?_;show PP _ _ (UN "dict.__init__" s.heap.objs.size (.ref l) [] .none) _ _ _;unfold UN;refine Pd (Tq (T:="list") ⟨_,up _ _ ho,rfl⟩ ?_);rw[if_pos (by decide)];refine Pd (BB (up _ _ ho) hh fun h1 tk1 k1=>?_);simp only[Option.isNone_none,if_true];refine Pd (U3 ?_);have ho1:h1.get? l=some _:=k1 _ _ (up _ _ ho);refine Pd (R4 (s:={ s with heap:=h1,toks:=tk1 }) (items:=its) ⟨_,ho1,rfl,n,rfl⟩ ?_);refine Pw ⟨Ss _ (by decide +kernel),?_⟩
 have hne:s.heap.objs.size≠h1.objs.size:=by
  obtain⟨o,es,ep,q,_⟩:=hnew;exact PK (Pn (k1 _ _ q))
 refine vK (s:=s) (h0:=h1) (l:=l) (its:=its) (by simpa[YB] using hh) kvs hne hz hlen (fun h' hk'=>⟨⟨_,hk' l _ ?_ ?_ ho1,rfl,n,rfl⟩,fun i kv e=>?_⟩) (fun h' tk hd hk'=>⟨rfl,h h' tk hd fun b o e=>hk' b o (PK (Pn e)) (PK (Pn (k1 _ _ (up _ _ e)))) (k1 b o (up b o e))⟩) kvs.length 0 _ _ _ _ (by omega) (fun b o _ _ e=>Pe _ e) ?_ ?_
 .exact PK (Pn ho)
 .exact PK (Pn ho1)
 .obtain⟨T,key,e1,⟨oT,e2,r⟩,e3⟩:=hT i kv e
  exact⟨T,key,e1,⟨oT,hk' T _ (PK (Pn e2)) (PK (Pn (k1 _ _ (up _ _ e2)))) (k1 _ _ (up _ _ e2)),r⟩,e3⟩
 .exact⟨_,PM _ rfl,rfl,rfl⟩
 .obtain⟨o,es,ep,q,r⟩:=hnew
  exact⟨o,es,ep,Pe _ (k1 _ _ q),r⟩
end
def tU(K:Frag)(H:Hp)(v:V)(p:Str×V):Prop:=∃t,v=.ref t/\SqT K H t [.str p.1,p.2]
section
variable {X:Cx}
theorem uA(I:Inv X pins σ H s):∀{vs:List V}{kvs:List (Str×V)}{its:List Pb},Tz (tU X.K H) vs kvs->Vals vs its ->
  ∃rs:List (Key×Pb),KV (kvs.map cU) rs/\rs.length=its.length/\∀(i:Nat) (kv:Key×Pb),rs[i]? = some kv->∃T key,its[i]? = some (PJ T)/\Vm s.heap T #[key,kv.2]/\(bE X.prog X.w).is kv.1 key=true
 |_,_,_,.nil,.nil=>⟨[],.nil,rfl,fun i kv e=>by simp at e⟩
 |_,p::_,u::_,.cons h t,.cons r q=>by
  obtain⟨rs,k1,k2,k3⟩:=uA I t q;obtain⟨a,rfl,hs⟩:=h;obtain⟨its,rv,tp,_⟩:=I.tuple hs;obtain⟨u1,u2,rfl,r1,r2⟩:=vals2 rv;cases (show u=PJ a from r);refine⟨(Qf p.1,u2)::rs,.cons ⟨rfl,r2⟩ k1,by simp[k2],fun i kv e=>?_⟩
  cases i with
  |zero=>
   simp at e;subst e;exact⟨a,u1,rfl,tp,jb (k:=Qf p.1) r1⟩
  |succ i=>
   simp at e;obtain⟨T,key,e1,e2,e3⟩:=k3 i kv e;exact⟨T,key,by simpa using e1,e2,e3⟩
theorem CK(hcm:X.calm=true):CallR X (.type "dict") (fun xs H Q=>∃(a:Addr) (vs:List V) (kvs:List (Str×V)),xs=[V.ref a]/\SqL X.K H a vs/\Tz (tU X.K H) vs kvs/\kvs.length<=Pp/\∀p,H p=none->Q (.ref p) (upd H p (.dK (fU [] (kvs.map cU))))):=by
 intro pins s σ H xs us Q I r h;obtain⟨a,vs,kvs,rfl,hs,hp,hz,q⟩:=h;obtain⟨u,rfl,ru⟩:=vals1 r;cases ru;obtain⟨its,rv,pl,_⟩:=I.list hs;obtain⟨⟨cls,dd,data,sl⟩,n,e,c,d1,d2⟩:=pl;simp only at c d1 d2;subst c d1 d2;obtain⟨rs,k1,k2,k3⟩:=uA I hp rv;have hl:(kvs.map cU).length=rs.length:=k1.length;rw[Qb] at hl
 refine Bw (knd:=bE X.prog X.w) (I.ok.hd hcm) rs (by omega) (by simp[k2]) e (fun i kv ei=>by
  obtain⟨T,key,e1,e2,e3⟩:=k3 i kv ei
  exact⟨T,key,by simpa using e1,e2,e3⟩) fun h' tk dd' keep=>?_
 have hn:H s.heap.objs.size=none:=I.hok.fresh (Pm _);have h1:=ud (kvs.map cU) [];rw[Td,Qb] at h1;refine⟨.ref s.heap.objs.size,_,I.laid (t':=tk) (o:=.dK (fU [] (kvs.map cU))) keep (Pm _) (sP (by omega) (beq_eq_false_iff_ne.mpr (QW (PK I.big))) (k1.merge .nil) dd'),rfl,q _ hn⟩
noncomputable def pairD:Pa->Option (Str×Pa)
 |.tuple [.str k,x]=>some (k,x)
 |_=>none
def iQ:List Pa->Option (List (Str×Pa))
 |[]=>some []
 |d::r=>match pairD d with
  | some p=>(match iQ r with
   |some ps=>some (p::ps)
   | none=>none)
  |none=>none
theorem Ey(h:pairD d=some p):d=.tuple [.str p.1,p.2]:=by
 unfold pairD at h;split at h
 .cases h;rfl
 .cases h
theorem vY{K:Frag}{O:Addr->Prop}{H:Hp}:∀{vs:List V}{ds:List Pa}{ps:List (Str×Pa)},Reps K O H vs ds->iQ ds=some ps->∃kvs:List (Str×V),Tz (tU K H) vs kvs/\kvs.map (·.1)=ps.map (·.1)/\RepK K O H (kvs.map cU) (aI ps)
 |_,_,_,.nil,e=>by cases e;exact⟨[],.nil,rfl,.nil⟩
 |_,_,ps,.cons (d:=d) r t,e=>by
  unfold iQ at e;split at e
  .rename_i p hp
   split at e
   .rename_i q hq
    cases e;obtain⟨kvs,h1,h2,h3⟩:=vY t hq;rw[Ey hp] at r
    cases r with
    |@tup a _ _ tt rr=>
     cases rr with
     |cons ra rr=>
      cases rr with
      |@cons v _ _ _ rb rr=>
       cases rr;cases ra;exact⟨(p.1,v)::kvs,.cons ⟨a,rfl,tt.sq⟩ h1,by simp[h2],.cons (k:=Qf p.1) rb h3⟩
   .cases e
  .cases e
def tM(l:List (Str×Pa)):Bool:=decide ((l.map (·.1)).Nodup)&&decide (l.length<=1000)
end
section
variable {prog:Px}{w:PY}{A:PZ}{E:Pb->Pf->Prop}{s:Pf}
end
section
variable {X:Cx}
end
section
variable {X:Cx}
end
section
variable {X:Cx}
end
end D
namespace XE
open L2
abbrev vE:List Value:=[.type "ValueError",.type "Exception",.type "BaseException",.type "object"]
def XCl(K:Frag)(C:Addr)(tl:List Pb):Prop:=∃nm q N bs sn sub ab col dd k0 k1 k2 k3 k5,K.lookup C=some (WQ nm q C N bs tl true sn sub ab col dd k0 k1 k2 k3 k5 "ValueError.__new__")/\Vu K N=true
theorem FD{K:Frag}(X:K.In h)(r:XCl K R vE)(ri:RJ K "__init__" (.ref R)=some none):OwnTail h vE (.ref R::vE):=by
 obtain⟨nm,q,N,bs,sn,sub,ab,col,dd,k0,k1,k2,k3,k5,l,n⟩:=r;refine .own (X _ _ l) (.of_isNs (PySem.W.isNs_of_in X n)) (PySem.W.nsMap_none_of_in X n ?_) .base;simp only[RJ] at ri;rw[l] at ri;exact ri
section
variable {prog:Px}{w:PY}{A:PZ}{E:Pb->Pf->Prop}{h:Heap}{g:Array Uz}{d:X5}{t:Nat}{os:W3}{K:Frag}{C R fI:Addr}
end
end XE
namespace XE
open L2
def XAt(e C:Addr)(od:Option Addr):Heap->Prop:=fun h=>∃t,h.get? e=some { cls:=.ref C,dict:=od,data:=.fields #[.ref t,.none,.none,.none,.bool false,.none] }
theorem XAt.stay(x:XAt e C od h1)(k:∀o,h1.get? e=some o->h2.get? e=some o):XAt e C od h2:=let ⟨t,y⟩:=x;⟨t,k _ y⟩
theorem XAt.ok(x:XAt e C od h):ObjOk P w H h e (.ext (XAt e C od)):=⟨x,let ⟨_,y⟩:=x;⟨_,y⟩,fun _ _ a k=>a.stay k⟩
theorem XAt.of(ok:HOk P w H h)(x:H e=some (.ext (XAt e C od))):XAt e C od h:=(ok _ _ x).1
section
variable {X:Cx}{C R:Addr}
end
section
open Builtin Builtin.ObjectAttr
variable {prog:Px}{w:PY}{A:PZ}{E:Pb->Pf->Prop}{h:Heap}{g:Array Uz}{d:X5}{t:Nat}{os:W3}{K:Frag}{C R e:Addr}{name:Str}{v:Pb}{vs:Array Pb}
end
end XE
namespace XE
open L2
section
variable {X:Cx}{C R:Addr}
end
end XE
namespace XE
open L2
def spI(C:Addr)(f:Str):Sp:=fun vs H Q _=>∃a x,vs=[.ref a,.str x]/\H a=some (.ext (XAt a C none))/\(reprText x).length+1000<=Pp /\
 ∀dx,H dx=none->dx≠a->Q .non (upd (upd H dx (.xd [(f,.str x)])) a (.ext (XAt a C (some dx))))
structure XIni(P:Px)(w:PY)(K:Frag)(mg:Str->Option Pb)(base:Heap)(C R:Addr)(f:Str)(k:Nat):Prop where
 ex:∃fI fd ps,FnOk P w K mg base CX0 k fI fd ps (spI C f)/\Binds K fd ps []/\P4 K (.ref C) "__init__"=some (some (.ref fI))/\Tn K (.ref fI)=true
 c:XCl K C (.ref R::vE)
 r:XCl K R vE
 ri:RJ K "__init__" (.ref R)=some none
 kp:Qm K (.ref C)=true
section
variable {X:Cx}{C R:Addr}{f:Str}{k:Nat}
end
end XE
namespace XE
open L2
structure Kp(xs fs:List Addr)(h h':Heap):Prop where
 keep:∀b o,h.get? b=some o->b∉xs->b∉fs->h'.get? b=some o
 slot:∀b o,h.get? b=some o->b∉xs->b∈fs->∃sl,h'.get? b=some { o with slots:=sl }
 there:∀b o,h.get? b=some o->∃o',h'.get? b=some o'
theorem Kp.trans{xs fs:List Addr}{h h1 h2:Heap}(a:Kp xs fs h h1)(b:Kp xs fs h1 h2):Kp xs fs h h2 where
 keep:=fun c o q n m=>b.keep c o (a.keep c o q n m) n m
 slot:=fun c o q n m=>let ⟨_,e⟩:=a.slot c o q n m;let ⟨sl,e2⟩:=b.slot c _ e n m;⟨sl,e2⟩
 there:=fun c o q=>let ⟨_,e⟩:=a.there c o q;b.there c _ e
theorem Kp.more(a:Kp xs fs h h')(k:∀x∈xs,x∈ys):Kp ys fs h h':=⟨fun b o q n m=>a.keep b o q (fun z=>n (k b z)) m,fun b o q n m=>a.slot b o q (fun z=>n (k b z)) m,a.there⟩
theorem Kp.fun_(a:Kp xs fs h h')(n:∀x∈xs,∃o vs,h.get? x=some o/\o.data=.fields vs)(f:h.FunFrames base l):h'.FunFrames base l:=by
 refine f.of_keeps fun b o q nf=>?_
 have hx:b∉xs:=fun z=>by
  obtain⟨o',vs,e1,e2⟩:=n b z;rw[q] at e1;cases e1;exact nf vs e2
 by_cases hb:b∈fs
 .obtain⟨sl,e⟩:=a.slot b o q hx hb
  exact⟨_,e,rfl⟩
 .exact⟨o,a.keep b o q hx hb,rfl⟩
def XR(e C dx:Addr)(tb:Pb)(h:Heap):Prop:=∃t,h.get? e=some { cls:=.ref C,dict:=some dx,data:=.fields #[.ref t,tb,.none,.none,.bool false,.none] }
def TB(T:Addr)(fl:Pb)(h:Heap):Prop:=∃oT ts,h.get? T=some oT/\oT.data=.fields ts/\ts[3]? = some fl
section
variable {M:X6}{A:PZ}{E:Pb->Pf->Prop}{s:Pf}{base:Heap}{env:Env}{outer:List Env}{L e C dx T:Addr}
end
end XE
namespace XE
open L2
def forget(a:Addr)(H:Hp):Hp:=fun b=>if b=a then none else H b
theorem dE(h:b≠a):forget a H b=H b:=by unfold forget;rw[if_neg h]
theorem gq:forget a H a=none:=by unfold forget;rw[if_pos rfl]
theorem jt(h:H a=none):forget a (upd H a o)=H:=by
 funext b;unfold forget upd
 by_cases e:b=a
 .rw[if_pos e,e,h]
 .rw[if_neg e,if_neg e]
section
variable {P:Px}{w:PY}{K:Frag}{mg:Str->Option Pb}{base:Heap}{N:List Str}{qual:Str}{scope:Rj}{f C R:Addr}{cdv:Pb}{A:PZ}{outer:List Env}{s0:Pf}{H0:Hp}{E:XK}
def sRaise(n0:Nat)(C:Addr)(E:XK)(te:TE):TS:=fun _ σ H=>te σ H fun v H2=>∃a dx,v=.ref a/\n0<=a/\H2 a=some (.ext (XAt a C (some dx)))/\E (.ref C) (some dx) (forget a H2)
end
end XE
namespace XE
open L2
section
variable {X:Cx}{pins:List (Addr×Obj)}{σ:L2.St}{H:Hp}{s:Pf}
theorem name_goes(I:L2.Inv X pins σ H s)(hN:X.N.Nodup)(hi:X.N[i]? = some n)(hl:X.env.scope.names.lookup n=some .local)
  (k:∀s',L2.Inv X pins (σ.set i none) H s'->Q () s'):PP (PX X.prog X.w) A (do bindName X.env n .none;S8 X.env n pos) Q E s:=by
 obtain⟨m,hn,hm⟩:=id I.loc
 have hp:(X.env.scope.kind == .class||(X.env.scope.kind == .module&&X.env.locals != X.env.globals))=false:=by rw[I.ok.kind];rfl
 have hk:X.env.kindOf n=some .local:=hl;refine Pd (wpAny_bindName (Vg hk hn (fun h1 hn1 hs1=>?_) hp));unfold S8;refine wpAny_onRaise ?_;unfold unbindName;refine Pd (wpAny_point (Pd ?_));unfold deleteName;simp only[hk,hp];rw[if_neg (by decide)];refine Pd (wpAny_nsDel_keeps hn1 fun h2 v hn2 hs2=>?_);simp only[if_true,VZ,Bool.not_true,Rt,if_false];refine Pw (wpAny_point (k _ ?_));have hs:=hs1.trans hs2;have cne:=I.cne;obtain⟨oL,_,_,hoL,_⟩:=id hn
 have hiσ:i<σ.length:=by rw[I.len];exact(Ph.mp hi).1
 refine⟨I.ok,I.os,I.bare,⟨fun b o e n hb hx=>?_,fun b o e n hb hx=>?_,I.base.free,fun b o e hx=>?_,I.base.tups,I.base.frzs,I.base.tbls⟩,⟨_,hn2,fun j y v' e1 e2 e3=>?_⟩,fun y c e=>?_,I.free,I.freeC,fun p hp=>?_,fun b ob e=>?_,by simpa using I.len⟩
 .exact(hs.2 b (PK (Py (Pn e) I.ok.above))).trans (I.base.keep b o e n hb hx)
 .obtain⟨sl,e1⟩:=I.base.slot b o e n hb hx
  exact⟨sl,(hs.2 b (PK (Py (Pn e) I.ok.above))).trans e1⟩
 .obtain⟨o',e1⟩:=I.base.there b o e hx
  exact⟨o',(hs.2 b (PK (Py (Pn e) I.ok.above))).trans e1⟩
 .by_cases hj:j=i
  .subst hj
   rw[Pv hiσ] at e2;cases e2
  .rw[Pj (QW hj)] at e2
   obtain⟨u',r',q⟩:=hm j y v' e1 e2 e3;refine⟨u',r',?_⟩
   rcases q with⟨k,e⟩|⟨k,c,e,z⟩
   .refine .inl ⟨k,?_⟩
    have:y≠n:=fun e=>hj (qU hN e1 (e ▸ hi));simp[this,e]
   .exact .inr ⟨k,c,e,z.sameBut hs (cne y c e)⟩
 .obtain⟨w',z⟩:=I.cell y c e
  exact⟨w',z.sameBut hs (cne y c e)⟩
 .obtain⟨e,n,ne,nf,d⟩:=I.pin p hp
  exact⟨(hs.2 p.1 ne).trans e,n,ne,nf,d⟩
 .refine(I.hok b ob e).stay (fun c w' hc q=>(hs.2 c ?_).trans q) (fun _ q=>q) fun _ _ q=>q
  rintro rfl
  rcases hc with rfl|hc
  .rw[I.free] at e;cases e
  .rw[I.free] at hc;cases hc
theorem ul{A:PZ}:(A.mark v).frames=A.frames:=rfl
theorem C8{E:Pb->Pf->Prop}{K:Frag}{oe:Obj}{Q:Bool->Pf->Prop}(x:K.In s.heap)(c:XCl K C (.ref R::vE))(r:XCl K R vE)(he:s.heap.get? e=some oe)(hc:oe.cls=.ref C)(q:Q true s) :
  PP M A (excMatches (.ref e) (.ref R)) Q E s:=by
 obtain⟨nm,qn,N,bs,sn,sub,ab,col,dd,k0,k1,k2,k3,k5,l,_⟩:=c;obtain⟨nm',qn',N',bs',sn',sub',ab',col',dd',k0',k1',k2',k3',k5',l',_⟩:=r;have hC:=x _ _ l;have hR:=x _ _ l'
 have c1:(PJ R::vE).contains (.type "BaseException")=true:=by simp
 have c2:(PJ C::PJ R::vE).contains (.ref R)=true:=by simp
 have f:=tc_notTuple;obtain⟨hp,g,d,tk,os⟩:=s;unfold excMatches
 repeat (first|(with_reducible refine Qp he ?_;rw[hc])|with_reducible refine Qp hR ?_|wp_step)
 refine Se hR ?_;rw[c1]
 repeat (first|(with_reducible refine Qp he ?_;rw[hc])|with_reducible refine Qp hR ?_|wp_step)
 refine Se hC ?_;rw[c2]
 repeat wp_step
 exact q
end
end XE
namespace XE
open L2
section
variable {X:Cx}{C R fa:Addr}{k:Nat}{fd:QQ}{ps:List Str}{sp:Sp}
end
end XE
namespace XE
open L2
section
variable {prog:Px}{w:PY}{A:PZ}{E:Pb->Pf->Prop}{h:Heap}{g:Array Uz}{d:X5}{t:Nat}{os:W3}{K:Frag}{C R x:Addr}{ox:Obj}{od:Option Obj}{name:Str}
theorem GC:builtinKind "BaseException.__getattribute__"=some .slot:=by decide +kernel
theorem D6:splitId "BaseException.__getattribute__"=some ("BaseException","__getattribute__"):=by decide +kernel
theorem D3(hbm:RF K C (.type "BaseException")=some true)(X:K.In h)(I:SD h x ox C od)
  (k:PP (PX prog w) A.in1 (SN.«object.__getattribute__» ⟨[.ref x,.str name tk],[]⟩) (fun fin s'=>match fin with | .done f=>Rr (.ok f) s' | .again c'=>c'.quiet=true/\To (PX prog w) A c' Rr s') (fun e s'=>Rr (.error e) s') ⟨h,g,d,t,os⟩) :
  To (PX prog w) A (.call (.builtin "BaseException.__getattribute__") ⟨[.ref x,.str name tk],[]⟩) Rr ⟨h,g,d,t,os⟩:=by
 have sub:PySem.W.Looks (PX prog w) h (isInstance (.ref x) (.type "BaseException")) true:=I.type.andThen (PySem.W.looks_mroIn X hbm);have ha:=F.args_bexc_ga (.ref x) (.str name tk);exact S7 T8.ga.plain F.entry_bexc_ga (@PySem.W.check_slot (PX prog w) _ _ ⟨h,g,d,t,os⟩ "BaseException.__getattribute__" "BaseException" "__getattribute__" (.ref x) [.str name tk] [] _ GC D6 sub ha k)
structure XIs(K:Frag)(C:Addr):Prop where
 bm:RF K C (.type "BaseException")=some true
 gt:P4 K (.ref C) "__getattr__"=some none
 ga:P4 K (.ref C) "__getattribute__"=some (some (.builtin "BaseException.__getattribute__"))
 hc:(Sk K C).isSome=true
 ca:P4 K (.ref C) "__class__"=some (some (.builtin "object.__class__"))
 hn:RD K (.builtin "object.__class__") "__get__"=some (some (.builtin "getset_descriptor.__get__"))
 tk:Sl K (.builtin "object.__class__")=some true
 hm:RF K C (.type "object")=some true
end
end XE
namespace XE
open L2
theorem uS:∀{Ds:List Addr}{us:List Pb},Vals (Ds.map V.ref) us->us=Ds.map PJ
 |[],_,.nil=>rfl
 |a::r,_,.cons h1 h2=>by rw[Pz,←uS h2];cases (show _=PJ a from h1);rfl
section
variable {X:Cx}{C e dx:Addr}{oe:Obj}
structure Cau(X:Cx)(C e dx:Addr)(oe:Obj):Prop where
 pin:(e,oe)∈X.pn
 cls:oe.cls=.ref C
 dict:oe.dict=some dx
 data:∃vs,oe.data=.fields vs
 is:XIs X.K C
 hd:Ug X.K C=true
end
end XE
namespace XE
open L2 D
theorem Ed{K:Frag}{O:Addr->Prop}{ts:List Addr}{H:Hp}{T:Tp}{vs:List V}{ws:List W}{N:List Str}(hc:HC K O ts H T)(rw':fF K O ts H vs ws)(hn:cC ws=true) :
  RS K O H [] ts O H (start N vs) (ws.map some++PC (N.length-ws.length) none) T:=by
 have hlen:vs.length=ws.length:=Q5 rw';have noL:∀{i:Nat}{xs:Pa},(ws.map some++PC (N.length-ws.length) none)[i]? = some (some (W.loc xs))->False:=fun {i xs} e=>kN hn (P8 (ju e));refine⟨hc,fun i u e=>?_,fun _ h=>h,hc.own,.refl _ _,fun i xs a e1 _=>(noL e1).elim,fun i j xs ys v e1 _ _ _=>(noL e1).elim,fun f hf=>absurd hf (by simp),by simp[L2.start,hlen]⟩;obtain⟨v,h1,h2⟩:=mS rw' (ju e);refine⟨v,?_,h2⟩;unfold L2.start;have hi:i<vs.length:=(Ph.mp h1).1;rw[PF (by simpa using hi),Qd,h1];rfl
structure XB(K:Frag)(C R:Addr)(f:Str)(Ds:List Addr):Prop where
 c:XCl K C (.ref R::vE)
 r:XCl K R vE
 ri:RJ K "__init__" (.ref R)=some none
 kp:Qm K (.ref C)=true
 is:XIs K C
 hd:Ug K C=true
 nn:P4 K (.ref C) f=some none
 sa:P4 K (.ref C) "__setattr__"=some (some (.builtin "object.__setattr__"))
 rd:PySem.W.readsIn K R (.type "type")=true
 fc:PySem.W.findCls K (.ref R) (.type "type") "__init__"=some (.val (.builtin "ValueError.__init__"))
 kC:P6 K (.ref C) (.ref C)=some true
 kV:P6 K (.ref C) (.type "ValueError")=some true
 kD:SO K (.ref C) (Ds.map PJ)=some false
def lT:Obj->Bool
 |⟨_,_,.dict es _,_⟩=>es.toList.all fun e=>match e.key with
  |.str _ _=>true
  |_=>false
 |_=>false
theorem IF{K:Frag}{C A:Addr}(h1:Th K A=true)(h2:Vv K (.ref A)=some (.type "type"))(h3:S3 K (.ref C) (.ref A)=some false)(h4:(PJ C == PJ A)=false):P6 K (.ref C) (.ref A)=some false:=by
 unfold P6 Xl;unfold Th at h1;rw[h4,if_neg Pu];simp only[h1,h2,h3,beq_self_eq_true,Bool.and_true,if_true]
theorem IE{K:Frag}{C:Addr}(h3:S3 K (.ref C) (.type "ValueError")=some true):P6 K (.ref C) (.type "ValueError")=some true:=by
 have h4:(PJ C == Sr "ValueError")=false:=by simp
 have h5:WV "ValueError"=true:=by decide +kernel
 unfold P6 Xl;rw[h4,if_neg Pu];simp only[h5,h3,if_true]
end XE
namespace XE
open L2
section
variable {X:Cx}{C R:Addr}
end
end XE
namespace XE
open L2 D
def spG(P:V->Prop)(C:Addr)(f:Str):Sp:=fun vs H Q _=>∃a v,vs=[.ref a,v]/\H a=some (.ext (XAt a C none))/\P v /\
 ∀dx,H dx=none->dx≠a->Q .non (upd (upd H dx (.xd [(f,v)])) a (.ext (XAt a C (some dx))))
structure XIniG(A:V->Prop)(P:Px)(w:PY)(K:Frag)(mg:Str->Option Pb)(base:Heap)(C R:Addr)(f:Str)(k:Nat):Prop where
 ex:∃fI fd ps,FnOk P w K mg base CX0 k fI fd ps (spG A C f)/\Binds K fd ps []/\P4 K (.ref C) "__init__"=some (some (.ref fI))/\Tn K (.ref fI)=true
 c:XCl K C (.ref R::vE)
 r:XCl K R vE
 ri:RJ K "__init__" (.ref R)=some none
 kp:Qm K (.ref C)=true
section
variable {X:Cx}{C R:Addr}{f:Str}{k:Nat}
end
end XE
namespace XE
open L2 D
end XE
namespace D
open L2
noncomputable def sS(n:Nat)(o:Option (Pa×Tp)):Option (W×Tp):=match o with
 |some (y,T)=>if T.length=n+1 then some (.d y,T.take n) else none
 |none=>none
def lK(mf:FnM)(xs:List Pa)(ws:List W)(T:Tp):Option (W×Tp):=if cC ws=true then sS T.length (mf (.tp T.length::ws) (T++[xs])) else none
def yS(mf:FnM)(g:FA)(ρ:Rho)(x:Pa)(T:Tp):Option (W×Tp):=match x with
 |.list xs=>bnd (g ρ T) (lK mf xs)
 |_=>none
def cq(mf mh:FnM)(g1 g2:FA):FE:=fun ρ T=>bnd (g1 ρ T) fun ws T1=>bnd (mh ws T1) (yS mf g2 ρ)
theorem C0(h:yS mf g ρ x T=some (w,T')):∃xs ws T3 y T5,x=.list xs/\g ρ T=some (ws,T3)/\cC ws=true/\mf (.tp T3.length::ws) (T3++[xs])=some (y,T5)/\T5.length=T3.length+1/\w=.d y/\T'=T5.take T3.length:=by
 cases x with
 |list xs=>
  obtain⟨ws,T3,e1,e⟩:=aN (show bnd (g ρ T) (lK mf xs)=_ from h);unfold lK at e;split at e
  .rename_i hn
   unfold sS at e;split at e
   .rename_i y T5 e2
    split at e
    .rename_i hl
     cases e;exact⟨xs,ws,T3,y,T5,rfl,e1,hn,e2,hl,rfl,rfl⟩
    .cases e
   .cases e
  .cases e
 |_=>cases h
section
variable {X:Cx}
theorem lh(Ff:Fn X.prog X.w X.K X.mg X.base fname ps kf (spM X.K ps.length mf))(Fh:Fn X.prog X.w X.K X.mg X.base hname qs kh (spO X.K qs.length mh))(hrf:Room kf X.A)(hrh:Room kh X.A)(hgf:Gl X fname)(hgh:Gl X hname)
  (ha:DA X (a::as) g1) (hl1:dQ g1 qs.length) (he:DA X es g2) (hl2:dQ (ae (fC .none) g2) ps.length) (hdf:(fname == ("__debug__" : Str))=false:=by decide) (hdh:(hname == ("__debug__" : Str))=false:=by decide)
  (hsh:Pk (a::as) X.env=(false,eval a X.env)::Pk as X.env:=by exact bc rfl) (hplh:(Qg c2 (Pk as X.env)).any (·.1)=false:=by exact bN rfl)
  (hsf:Pk (.Call (.Name hname p2) (a::as) [] c2::es) X.env=(false,eval (.Call (.Name hname p2) (a::as) [] c2) X.env)::Pk es X.env:=by exact bc rfl) (hplf:(Qg cpos (Pk es X.env)).any (·.1)=false:=by exact bN rfl) :
  DE X (.Call (.Name fname p) (.Call (.Name hname p2) (a::as) [] c2::es) [] cpos) (cq mf mh g1 g2):=by
 refine⟨?_⟩;refine pe_imp (i7 Ff hrf hgf (bw (i7 Fh hrh hgh ha.pe hdh hsh hplh) he.pe hsf) hdf hsf hplf) fun σ H Q=>?_;rintro⟨O,ts,ρ,T,w,T',hc,re,e,q⟩;obtain⟨ws,T1,e1,e⟩:=aN e;obtain⟨x,T2,e2,e⟩:=aN e;obtain⟨xs,ws2,T3,y,T5,rfl,e3,hno,e4,hlen,rfl,rfl⟩:=C0 e;refine⟨O,ts,ρ,T,ws,T1,hc,re,e1,fun vs H1 s1 hc1 r1=>?_⟩;refine⟨O,ts,T1,ws,_,_,hc1,by rw[Qv];exact r1,hl1 _ _ _ _ e1,e2,fun A v H2 s2 hA hc2 ov=>?_⟩;obtain⟨b,rfl,hAA,us,k1,k2⟩:=ov;have hAb:=hA b ((hAA b).mpr rfl);have ntb:b∉ts:=fun z=>hAb.2 (hc1.own b z);have le2:Le O H1 (fun c=>O c\/A c) H2:=fun c o n z=>⟨fun y=>y.elim n fun y=>(by rw[(hA c y).1] at z;cases z),s2 c o (fun y=>n (hc1.own c y)) z⟩
 have re2:RelE X.K (fun c=>O c\/A c) ts H2 σ ρ:=fun i w e=>by
  obtain⟨v,h1,h2⟩:=(re.mono hc s1) i w e;refine⟨v,h1,?_⟩
  cases w with
  |d x=>exact Rep.mono le2 h2
  |tp k=>exact h2
  |loc ys=>
   obtain⟨a',ea,m1,m2,m3⟩:=h2;exact⟨a',ea,.inl m1,m2,m3.mono (fun o q=>s2 _ _ m2 q) le2⟩
 refine⟨_,ts,ρ,T2,ws2,T3,hc2,re2,e3,fun vs2 H3 s3 hc3 r3=>?_⟩;have kb3:H3 b=some (.lst us):=s3 b _ ntb k1;have ru3:=k2.mono (hc2.le s3);have lt3:ts.length=T3.length:=hc3.len
 have hc4:HC X.K (fun c=>O c\/A c) (ts++[b]) H3 (T3++[xs]):=by
  refine⟨fun c hc'=>?_,hc3.trk,?_,by simp[lt3],fun i c ys q1 q2=>?_⟩
  .rcases PD.mp hc' with z|z
   .exact hc3.own c z
   .rw[Pl.mp z];exact .inr ((hAA b).mpr rfl)
  .exact Qz.mpr ⟨hc3.nd,by simp,fun c hc' d hd z=>ntb (by rw[←Pl.mp hd,←z];exact hc')⟩
  .by_cases hi:i<ts.length
   .rw[PF hi] at q1
    rw[PF (by omega)] at q2;exact hc3.tape i c ys q1 q2
   .have hi':i=ts.length:=by
     have:=(Ph.mp q1).1;simp at this;omega
    subst hi';rw[QX (Pm _)] at q1;rw[QX (by omega)] at q2;simp[lt3] at q1 q2;subst q1 q2;exact .inl ⟨ru3.notO,us,kb3,ru3⟩
 have rw4:fF X.K (fun c=>O c\/A c) (ts++[b]) H3 (.ref b::vs2) (.tp T3.length::ws2):=by
  refine .cons ⟨b,by rw[QX (by omega)];simp[lt3],rfl⟩ ?_;clear e4 hlen q e3
  induction r3 with
  |nil=>exact .nil
  |@cons v w vs ws h t ih=>
   cases w with
   |d x=>exact .cons h (ih hno)
   |tp i=>
    obtain⟨c,h1,h2⟩:=h;exact .cons ⟨c,by rw[PF (Ph.mp h1).1];exact h1,h2⟩ (ih hno)
   |loc _=>cases hno
 have hlw:(W.tp T3.length::ws2).length=ps.length:=by
  have:=hl2 ρ T2 (.d .none::ws2) T3 (by show bnd (some (W.d .none,T2)) _=_;rw[Jq,e3];rfl);simpa using this
 refine⟨_,ts++[b],T3++[xs],.tp T3.length::ws2,y,T5,hc4,by rw[Qv];exact rw4,hlw,e4,fun v H4 s4 hc5 r5=>?_⟩;have le5:Le (fun c=>O c\/A c) H4 O H4:=fun c o n z=>⟨fun y=>n (.inl y),z⟩;refine q v H4 (fun c o n z=>?_) ⟨hc.own,fun c hc'=>hc5.trk c (.inl hc'),hc.nd,?_,fun i c ys q1 q2=>?_⟩ (Rep.mono le5 r5)
 .have h1:=s1 c o n z
  have nb:c≠b:=fun y=>by rw[y,hAb.1] at h1;cases h1
  refine s4 c o (fun y=>?_) (s3 c o n (s2 c o n h1))
  rcases PD.mp y with z|z
  .exact n z
  .exact nb (Pl.mp z)
 .rw[Q4,hlen,lt3]
  omega
 .have hi:i<ts.length:=(Ph.mp q1).1
  rw[Ur (by omega)] at q2;exact(hc5.tape i c ys (by rw[PF hi];exact q1) q2).mono (fun _ h=>h) le5
end
section
variable {X:Cx}
variable {pos:Pos}{e:Expr}{fe:FE}
end
section
variable {prog:Px}{w:PY}{A:PZ}{E:Pb->Pf->Prop}
end
section
variable {X:Cx}{pos:Pos}
end
section
variable {X:Cx}{pos:Pos}{e:Expr}{fe:FE}
end
section
variable {X:Cx}
end
section
variable {X:Cx}{pos:Pos}{e:Expr}{fe:FE}
end
section
variable {X:Cx}{pos:Pos}
noncomputable def jM(ρ:Rho)(T:Tp)(o:Option (Option W)):Option ((Fl×Rho)×Tp):=match o with
 |some (some (.loc (.list xs)))=>some ((.ro (.list xs),ρ),T)
 |_=>none
def gB(i:Nat):FS:=fun ρ T=>jM ρ T ρ[i]?
theorem wB(hN:X.N[i]? = some x:=by rfl)(hv:Vis X.env.scope x:=by first|exact QM rfl|exact Qx (QM rfl)|exact Qx (Qx rfl))(hd:(x == ("__debug__" : Str))=false:=by decide)(hcd:(x == ("__classdict__" : Str))=false:=by decide) :
  DS X (.Return (some (.Name x p)) pos) (gB i):=by
 refine⟨?_⟩;refine bY (sA (pv i hN hv hd hcd)) fun D σ H=>?_;rintro⟨O₀,H₀,F,ts,O,ρ,T,fl,ρ',T',rs,e,q⟩;unfold gB jM at e;split at e
 .rename_i xs h1
  cases e;obtain⟨v,k1,a,rfl,k2,k3,vs,k4,k5⟩:=rs.re i _ h1
  obtain⟨c,le⟩:=rs.keep (A:=fun c=>c=a) fun c hc=>by rw[hc];exact k2
  exact⟨_,k1,q (fun c=>c=a) (.ref a) H rs.same (fun c hc=>by rw[hc];exact rs.fresh i _ a h1 k1) c ⟨a,rfl,fun _=>Iff.rfl,vs,k4,k5.mono le⟩⟩
 .cases e
def yI(i:Nat)(ρ:Rho)(x:Pa)(T:Tp):Option ((Fl×Rho)×Tp):=match x with
 |.list xs=>some ((.nx,ρ.set i (some (.loc (.list xs)))),T)
 |.none=>some ((.nx,ρ.set i (some (.d .none))),T)
 |_=>none
def lL(i:Nat)(m:FnM)(g:FA):FS:=fun ρ T=>bnd (g ρ T) fun ws T1=>bnd (m ws T1) (yI i ρ)
theorem E5(F:Fn X.prog X.w X.K X.mg X.base name ps kk (spO X.K ps.length m))(hr:Room kk X.A)(hg:Gl X name)(hN:X.N.Nodup)(ha:DA X (e::es) g)(hl:dQ g ps.length)(hdb:(name == ("__debug__" : Str))=false:=by decide)
  (he:Pk (e::es) X.env=(false,eval e X.env)::Pk es X.env:=by exact bc rfl) (hpl:(Qg cpos (Pk es X.env)).any (·.1)=false:=by exact bN rfl) (hi:X.N[i]? = some x:=by rfl) (hx:Loc X.env.scope x:=by first|exact QM rfl|exact Qx rfl)
  (hs:QL (.Call (.Name name p) (e::es) [] cpos) (some (.Name x pos')) pos.line X.env=pure false:=by rfl) (hf:X.fn x=true\/X.env.scope.names.lookup x=some .local:=by first|exact .inl rfl|exact .inr rfl|assumption) :
  DS X (.Assign [.Name x pos'] (.Call (.Name name p) (e::es) [] cpos) pos) (lL i m g):=by
 refine⟨?_⟩;refine bY (eL hN hi hx (i7 F hr hg ha.pe hdb he hpl) hs hf) fun D σ H=>?_;rintro⟨O₀,H₀,F,ts,O,ρ,T,fl,ρ',T',rs,e,q⟩;obtain⟨ws,T1,e1,e⟩:=aN e;obtain⟨x0,T2,e2,e⟩:=aN e;refine⟨O,ts,ρ,T,ws,T1,rs.hc,rs.re,e1,fun vs H1 s1 hc1 r1=>?_⟩;have rs1:=rs.step s1 hc1;refine⟨O,ts,T1,ws,_,_,hc1,by rw[Qv];exact r1,hl _ _ _ _ e1,e2,fun A v H2 s2 hA hc2 ov=>?_⟩;have rs2:=rs1.widen s2 hA hc2
 cases x0 with
 |list xs=>
  cases e;obtain⟨a,rfl,hAA,oa⟩:=ov;have hAa:=hA a ((hAA a).mpr rfl);have nta:a∉ts:=fun z=>hAa.2 (hc1.own a z)
  have h0:H₀ a=none:=by
   cases z:H₀ a with
   |none=>rfl
   |some o=>have:=rs1.same a o nta z;rw[hAa.1] at this;cases this
  exact q _ _ _ (rs2.hold (i:=i) (.inr ((hAA a).mpr rfl)) nta ⟨h0,fun z=>hAa.2 (rs1.sub a z)⟩ (fun j ys q1 q2=>by
   obtain⟨v,h1,b,ea,h2,h3,h4⟩:=rs1.re j _ q1;rw[q2] at h1;cases h1;cases ea;obtain⟨o',h5⟩:=h4.some;rw[hAa.1] at h5
   cases h5) oa)
 |none=>
  cases e;obtain⟨rfl,hno⟩:=ov;exact q _ _ _ (rs2.set (i:=i) (v:=.non) (w:=.d .none) .non fun _ z=>nomatch z)
 |_=>cases e
def yw(x:Pa)(T:Tp):Option (W×Tp):=match x with
 |.list xs=>some (.d (.list xs),T)
 |.none=>some (.d .none,T)
 |_=>none
def nQ(m:FnM)(g:FA):FE:=fun ρ T=>bnd (g ρ T) fun ws T1=>bnd (m ws T1) yw
theorem DL(F:Fn X.prog X.w X.K X.mg X.base name ps k (spO X.K ps.length m))(hr:Room k X.A)(hg:Gl X name)(ha:DA X (e::es) g)(hl:dQ g ps.length)(hdb:(name == ("__debug__" : Str))=false:=by decide)
  (he:Pk (e::es) X.env=(false,eval e X.env)::Pk es X.env:=by exact bc rfl) (hpl:(Qg cpos (Pk es X.env)).any (·.1)=false:=by exact bN rfl):DE X (.Call (.Name name p) (e::es) [] cpos) (nQ m g):=by
 refine⟨?_⟩;refine pe_imp (i7 F hr hg ha.pe hdb he hpl) fun σ H Q=>?_;rintro⟨O,ts,ρ,T,w,T',hc,re,e,q⟩;obtain⟨ws,T1,e1,e⟩:=aN e;obtain⟨x,T2,e2,e⟩:=aN e;refine⟨O,ts,ρ,T,ws,T1,hc,re,e1,fun vs H1 s1 hc1 r1=>?_⟩;refine⟨O,ts,T1,ws,_,_,hc1,by rw[Qv];exact r1,hl _ _ _ _ e1,e2,fun A v H2 s2 hA hc2 ov=>?_⟩;have le:Le (fun b=>O b\/A b) H2 O H2:=fun b u n z=>⟨fun y=>n (.inl y),z⟩;have c2:HC X.K O ts H2 T2:=⟨hc1.own,fun b hb=>hc2.trk b (.inl hb),hc2.nd,hc2.len,fun j b ys q1 q2=>(hc2.tape j b ys q1 q2).mono (fun _ h=>h) le⟩
 cases x with
 |list xs=>
  cases e;obtain⟨a,rfl,hAA,us,k1,k2⟩:=ov;exact q _ _ (s1.trans s2) c2 (.lst (.inl ⟨(hA a ((hAA a).mpr rfl)).2,.inl k1⟩) (k2.mono le))
 |none=>
  cases e;obtain⟨rfl,hno⟩:=ov;exact q _ _ (s1.trans s2) c2 .non
 |_=>cases e
def oB(i:Nat)(ρ:Rho)(T:Tp)(o:Option (List (Str×Pa))):Option ((Fl×Rho)×Tp):=match o with
 |some l=>if tM l=true then some ((.nx,ρ.set i (some (.loc (.dict (aI l))))),T) else none
 |none=>none
def AL(o:Option Pa):Option (List (Str×Pa)):=match o with
 |some (.list ds)=>iQ ds
 |_=>none
def lM(i:Nat)(f:FE):FS:=fun ρ T=>bnd (f ρ T) fun w T1=>oB i ρ T1 (AL (view T1 w))
theorem wx(hm:X.mg "dict"=none)(hN:X.N.Nodup)(he:DE X e fe)(hcm:X.calm=true:=by rfl)(hg:Gl X "dict":=by rfl)
  (hse:Pk [e] X.env=(false,eval e X.env)::Pk [] X.env:=by exact bc rfl) (hpl:(Qg cpos (Pk [] X.env)).any (·.1)=false:=by exact bN rfl) (hi:X.N[i]? = some x:=by rfl) (hx:Loc X.env.scope x:=by first|exact QM rfl|exact Qx rfl)
  (hs:QL (.Call (.Name "dict" p) [e] [] cpos) (some (.Name x pos')) pos.line X.env=pure false:=by rfl) (hf:X.fn x=true\/X.env.scope.names.lookup x=some .local:=by first|exact .inl rfl|exact .inr rfl|assumption) :
  DS X (.Assign [.Name x pos'] (.Call (.Name "dict" p) [e] [] cpos) pos) (lM i fe):=by
 refine⟨?_⟩;refine bY (eL hN hi hx (mU (CK hcm) hg hm Yc (bw he.pe cG hse) (by decide) (by decide) hse hpl) hs hf) fun D σ H=>?_;rintro⟨O₀,H₀,F,ts,O,ρ,T,fl,ρ',T',rs,e,q⟩;obtain⟨w,T1,e1,e⟩:=aN e;refine⟨O,ts,ρ,T,w,T1,rs.hc,rs.re,e1,fun v H1 s1 hc1 r1=>?_⟩;have rs1:=rs.step s1 hc1;unfold oB at e;split at e
 .rename_i l hl
  split at e
  .rename_i ho
   cases e;have nd:=of_decide_eq_true ((Po _ _ ▸ ho).1);have hz:=of_decide_eq_true ((Po _ _ ▸ ho).2);unfold AL at hl;split at hl
   .rename_i ds hv
    obtain⟨a,vs,rfl,t,r⟩:=(hc1.view r1 hv).lst;obtain⟨kvs,h1,h2,h3⟩:=vY r hl
    have hlen:kvs.length=l.length:=by have:=congrArg WJ h2;simpa using this
    refine⟨a,vs,kvs,rfl,t,h1,by rw[hlen];exact PL hz (by decide),fun p hp=>?_⟩
    have hm:fU [] (kvs.map cU)=kvs.map cU:=by
     have:=vh kvs [] (by rw[UY,So,h2];exact nd);simpa using this
    rw[hm];exact q _ _ _ (rs1.ownO hp (.inr (.inl ⟨_,rfl⟩)) fun le=>⟨_,bo,h3.mono le⟩)
   .cases hl
  .cases e
 .cases e
end
def KZ(_ j:Int):Prop:=0<j/\j<18446744073709551616
def tD:Pa->Pa->Option PyData:=iop fun i j=>if 0<j/\j<18446744073709551616 then some (.int (i / j)) else none
theorem Ke(h:y.natAbs<18446744073709551616):Builtin.divisionGoesByPylong x y=false:=by
 refine PyProof.noPylong_of_log2 ?_
 by_cases h0:y.natAbs=0
 .rw[h0];decide +kernel
 .have h30:y.natAbs.log2<64:=(Vx h0).mpr h
  omega
section
variable {X:Cx}
theorem EA:OpR X (QU .FloorDiv) (rI KZ fun i j=>.int (i / j)):=opI fun i j _ _ _ _ _ hc q=>by
 have h1:(0:Int)<j:=hc.1;have h2:j<18446744073709551616:=hc.2;exact floordiv_int (by omega) (by rw[Int.fdiv_eq_ediv_of_nonneg i (by omega)];exact q) (.inl (Ke (by omega)))
theorem Gi:OpD X (QU .FloorDiv) tD:=⟨_,EA,sv fun i j d e=>by
 split at e
 .rename_i h;cases e;exact⟨h,fun _ _=>.int _⟩
 .cases e⟩
end
end D
namespace L2
section
variable {prog:Px}{w:PY}{A:PZ}{E:Pb->Pf->Prop}{s:Pf}
end
section
variable {X:Cx}{e:Expr}{te:TE}{x y:Str}{p p' pos pos':Pos}
end
end L2
namespace D
open L2
def Kn:Pa->Option Pa
 |.list xs=>some (.list xs.reverse)
 |_=>none
@[simp] theorem MY:Kn (.list xs)=some (.list xs.reverse):=rfl
section
variable {X:Cx}{pos pos' p p':Pos}{e:Expr}{f:FE}
end
section
variable {X:Cx}{pos:Pos}
end
def dd:List Str->List Str
 |[]=>[]
 |a::r=>if a∈r then dd r else a::dd r
section
variable {X:Cx}{pos:Pos}
end
end D
namespace L2
section
variable {P:Px}{w:PY}{A:PZ}{E:Pb->Pf->Prop}{s:Pf}
end
def keyV:Pb->Str
 |.str k _=>k
 |_=>""
section
variable {P:Px}{w:PY}{A:PZ}{s:Pf}
end
section
variable {P:Px}{w:PY}{A:PZ}{E:Pb->Pf->Prop}{s:Pf}
end
section
set_option maxHeartbeats 3200000
variable {P:Px}{w:PY}{A:PZ}{E:Pb->Pf->Prop}{s:Pf}
end
section
set_option maxHeartbeats 3200000
variable {P:Px}{w:PY}{A:PZ}{E:Pb->Pf->Prop}{s:Pf}
end
section
variable {P:Px}{w:PY}{A:PZ}{E:Pb->Pf->Prop}{s:Pf}
end
section
variable {P:Px}{w:PY}{A:PZ}{E:Pb->Pf->Prop}{s:Pf}
def TupAt(h:Heap)(q:Addr)(pl:Array Pb):Prop:=∃o n,h.get? q=some o/\o.data=.seq pl n
end
section
variable {P:Px}{w:PY}{A:PZ}{E:Pb->Pf->Prop}{s:Pf}
end
section
variable {P:Px}{w:PY}{A:PZ}{E:Pb->Pf->Prop}{s:Pf}
end
end L2
namespace D
open L2
section
variable {X:Cx}
end
def EqW(P:Px)(w:PY)(A:PZ)(s:Pf)(y x:Pb)(b:Bool):Prop:=∀(E:Pb->Pf->Prop) (Q:Bool->Pf->Prop),Q b s->PP (PX P w) A (eqBool y x) Q E s
noncomputable def gL(e:List (Pa×Pa)):List (Pa×Pa)->Option Bool
 |[]=>some true
 |(.str k,v)::r=>match ay e k with
  |none=>some false
  |some u=>if PR v=true/\PR u=true then (gL e r).map fun b=>Qc v u&&b else none
 |_=>none
def ku(d e:List (Pa×Pa)):Option Bool:=if gL d d=some true then (if d.length=e.length then gL e d else some false) else none
def iy:Pa->Pa->Option Bool
 |.dict d,.dict e=>ku d e
 |x,y=>if PR x=true/\PR y=true then some (Qc x y) else none
noncomputable def gh:List Pa->List Pa->Option (List Bool)
 |[],[]=>some []
 |x::r,y::t=>match iy x y,gh r t with
  |some a,some b=>some (a::b)
  |_,_=>none
 |_,_=>none
section
variable {P:Px}{w:PY}{A:PZ}{E:Pb->Pf->Prop}{s:Pf}
open PySem.SeqAt in
theorem yK(hl:s.heap.IsTuple l items)(hb:s.heap.IsTuple b items2)(hu:A.units<TL)(hz:items.size=items2.size)
  (he:∀j (h1:j<items.size) (h2:j<items2.size),EqW P w A.in1 s items[j] items2[j] (e j)) (h:Q (.bool ((Re items.size).all e)) s):PP (PX P w) A (PU .Eq (.ref l) (.ref b)) Q E s:=by
 obtain⟨⟨cls,dd,data,sl⟩,ho,hc,n,hd⟩:=id hl;obtain⟨⟨cls2,dd2,data2,sl2⟩,ho2,hc2,n2,hd2⟩:=id hb;simp only at hc hd hc2 hd2;subst hc hd hc2 hd2;have t1:s.TypeIs (.ref l) "tuple":=⟨_,ho,rfl⟩;have t2:s.TypeIs (.ref b) "tuple":=⟨_,ho2,rfl⟩;refine wpAny_richCompare_same_room (op:=.Eq) t1 t2 WY (Sb WY t1 F.entry_tuple_eq ?_ (F.args_tuple_eq_2 _ _)) hu;obtain⟨hp,g,d,tk,os⟩:=s;have f2:=Uu
 have hZ:(items.toList.zip items2.toList).length=items.size:=by simp[hz]
 wp_walk using Q9 ho,Q9 ho2,wpAny_forIn_list _ (fun rest b s'=>b.1=none/\s'=⟨hp,g,d,tk,os⟩/\∃i,rest=(items.toList.zip items2.toList).drop i/\Q (.bool (((Re items.size).drop i).all e)) ⟨hp,g,d,tk,os⟩) _
 case turn=>
  rintro⟨y,x⟩ rest b s' ⟨hb',rfl,i,hz',hR⟩
  have hlt:i<(items.toList.zip items2.toList).length:=(Yp i _).elim id fun h'=>by rw[U6 h'] at hz';cases hz'
  have h1:i<items.size:=hZ ▸ hlt;have h2:i<items2.size:=hz ▸ h1;rw[Ql hlt] at hz'
  injection hz' with hyx hrest
  obtain⟨hy,hx⟩:y=items[i]/\x=items2[i]:=by simpa using hyx
  subst hy hx
  have hd:(Re items.size).drop i=i::(Re items.size).drop (i+1):=by simp[Ql,h1]
  rw[hd,QD] at hR;refine Pd (he i h1 h2 _ _ ?_)
  cases hy:e i <;> rw[hy] at hR <;> wp_walk
  .first|exact⟨_,rfl,(fun x=>nomatch x),by simpa using hR⟩|exact⟨(fun x=>nomatch x),by simpa using hR⟩|exact⟨_,rfl,by simpa using hR⟩
  .exact⟨rfl,rfl,i+1,hrest,by simpa using hR⟩
 case fin=>
  rintro⟨b1,b2⟩ s' ⟨hb',rfl,i,hz',hR⟩;simp only at hb';subst hb';have hge:items.size<=i:=(Yp i (items.toList.zip items2.toList).length).elim (fun h'=>by rw[Ql h'] at hz';cases hz') fun h'=>hZ ▸ h';rw[U6 (by simpa using hge)] at hR;wp_walk
  first|exact⟨_,rfl,(fun x=>by cases x),by simpa[RK,hz] using hR⟩|exact⟨_,rfl,by simp[RK],by simpa[RK,hz] using hR⟩
 case h=>
  exact⟨rfl,rfl,0,rfl,by simpa using h⟩
open PySem.SeqAt in
theorem sO(h:Xc A s y x b):EqW P w A s y x b:=fun E Q q=>h P w E Q q
theorem wm(hne:a≠b)(ha:(a == QF)=false)(hb:(b == QF)=false)(da:s.heap.DictOf (bE P w) a ka)(db:s.heap.DictOf (bE P w) b kb)(hu:A.units<TL)
  (hits:ka.length=kb.length->WZ A.in1 s kb ka r):EqW P w A s (.ref a) (.ref b) (ka.length == kb.length&&r):=fun E Q hq=>by
 unfold eqBool;refine QJ ?_;refine W0 (fun hab=>absurd (by have:=eq_of_beq hab;injection this) hne) (fun _=>?_);exact Pd (PySem.W.keq_eq ha hb da db hu hits (Qy hq))
end
section
variable {X:Cx}{pins:List (Addr×Obj)}{σ:L2.St}{H:Hp}{s:Pf}{O:Addr->Prop}{A:PZ}
theorem xY(I:Inv X pins σ H s)(hu:A.in1.units+64<TL)(re:RepK X.K O H kb e)(vb:KV kb ub):∀{ka:List (Key×V)}{d:List (Pa×Pa)}{ua:List (Key×Pb)}{b:Bool},RepK X.K O H ka d->KV ka ua->gL e d=some b->WZ A.in1 s ub ua b
 |_,_,_,_,.nil,.nil,h=>by cases h;exact .nil
 |_,_,_,b,.cons (k:=k) (v:=v) (d:=x) (ds:=ds) q t,.cons hkv vt,h=>by
  obtain⟨e1,e2⟩:=hkv;rename_i p _;obtain⟨k',u⟩:=p;simp only at e1 e2;subst e1
  cases k with
  |inl i=>cases h
  |inr y=>
   simp only[gK,gL] at h;have hv:=vb.val (Qf y:Key)
   rcases gX (s:=y) re with⟨h1,h2⟩|⟨v',d',h1,h2,h3⟩
   .rw[h1] at h
    cases h;rw[h2] at hv;exact .miss (RelO.none_of hv)
   .rw[h1] at h
    dsimp only at h;rw[h2] at hv;obtain⟨u',g1,g2⟩:=RelO.some_of hv;split at h
    .rename_i hs
     cases hr:gL e ds with
     |none=>rw[hr] at h;cases h
     |some b'=>
      rw[hr] at h;cases h;obtain⟨as,r1,_⟩:=Rep.reads I q e2;obtain⟨bs,r2,_⟩:=Rep.reads I h3 g2;exact .hit g1 (Xm r1 r2 hs.1 hs.2 hu) (xY I hu re vb t vt hr)
    .cases h
theorem yd{B:PZ}(hun:B.units+90<TL)(I:Inv X pins σ H s)(h1:Rep X.K O H v x)(r1:RelV v u)(h2:Rep X.K O H v' y)(r2:RelV v' u')(h:iy x y=some b):EqW X.prog X.w B.in1 s u u' b:=by
 obtain⟨as,q1,_⟩:=Rep.reads I h1 r1;obtain⟨bs,q2,_⟩:=Rep.reads I h2 r2
 have flat:PR x=true/\PR y=true->b=Qc x y->EqW X.prog X.w B.in1 s u u' b:=fun hs e=>by
  subst e;exact sO (Xm (A:=B) q1 q2 hs.1 hs.2 (by simp;omega))
 by_cases hd:∃d e,x=.dict d/\y=.dict e
 .obtain⟨d,e,rfl,rfl⟩:=hd
  have h':ku d e=some b:=h;unfold ku at h';split at h'
  .rename_i hself
   cases h1 with
   |@dct a oa ka _ n1 t1 k1=>
    cases h2 with
    |@dct b' ob kb _ n2 t2 k2=>
     cases r1;cases r2;obtain⟨za,la,ua,va,da⟩:=dI I.hok (.inr ⟨_,t1⟩);obtain⟨zb,lb,ub,vb,db⟩:=dI I.hok (.inr ⟨_,t2⟩)
     by_cases hab:a=b'
     .subst hab
      have e0:d=e:=by
       have:=(T6 q1 _ _ q2).1;injection this
      subst e0;rw[if_pos rfl,hself] at h';cases h';exact sO (Tc _)
     .have ela:ua.length=d.length:=by rw[←va.length];exact nu k1
      have elb:ub.length=e.length:=by rw[←vb.length];exact nu k2
      by_cases hl:d.length=e.length
      .rw[if_pos hl] at h'
       have:=wm (r:=b) (A:=B.in1) hab la lb da db (by simp;omega) (fun _=>xY (A:=B.in1) I (by simp;omega) k2 vb k1 va h');rw[ela,elb,hl,beq_self_eq_true,X1] at this;exact this
      .rw[if_neg hl] at h'
       cases h';have:=wm (r:=true) (A:=B.in1) hab la lb da db (by simp;omega) (fun q=>absurd (by rw[←ela,←elb];exact q) hl);rw[ela,elb,beq_eq_false_iff_ne.mpr hl,W6] at this;exact this
  .cases h'
 .have h':(if PR x=true/\PR y=true then some (Qc x y) else none)=some b:=by
   unfold iy at h;split at h
   .exact absurd ⟨_,_,rfl,rfl⟩ hd
   .exact h
  split at h'
  .rename_i hs
   cases h';exact flat hs rfl
  .cases h'
theorem ye{B:PZ}(hun:B.units+90<TL)(I:Inv X pins σ H s):∀{vs vs':List V}{xs ys:List Pa}{us us':List Pb}{bs:List Bool},Reps X.K O H vs xs->Vals vs us->Reps X.K O H vs' ys->Vals vs' us'->gh xs ys=some bs ->
  us.length=us'.length/\bs.length=us.length/\∀(j:Nat) (h1:j<us.length) (h2:j<us'.length),EqW X.prog X.w B.in1 s us[j] us'[j] (bs.getD j false)
 |_,_,_,_,_,_,_,.nil,.nil,.nil,.nil,e=>by cases e;exact⟨rfl,rfl,fun j h1 _=>absurd h1 (RX _)⟩
 |_,_,_,_,_,_,_,.nil,.nil,.cons _ _,_,e=>by cases e
 |_,_,_,_,_,_,_,.cons _ _,_,.nil,.nil,e=>by cases e
 |_,_,_,_,_,_,_,.cons r t,.cons rv tv,.cons r' t',.cons rv' tv',e=>by
  unfold gh at e;split at e
  .rename_i a b ha hb
   cases e;obtain⟨l1,l2,f⟩:=ye hun I t tv t' tv' hb;refine⟨by simp[l1],by simp[l2],fun j h1 h2=>?_⟩
   cases j with
   |zero=>exact yd hun I r rv r' rv' ha
   |succ j=>exact f j (by simpa using h1) (by simpa using h2)
  .cases e
theorem all_range{bs:List Bool}:(Re bs.length).all (fun j=>bs.getD j false)=bs.all id:=by
 induction bs with
 |nil=>rfl
 |cons b r ih=>
  rw[PH,List.range_succ_eq_map,QD,Wh,QD];have:(fun j=>(b::r).getD j false) ∘ Nat.succ=fun j=>r.getD j false:=rfl;rw[this,ih];rfl
def mD(x y:Pa):Option Bool:=match x,y with
 |.tuple xs,.tuple ys=>(gh xs ys).map fun bs=>bs.all id
 |x,y=>iy x y
noncomputable def iw:List Pa->List Pa->Option (List Bool)
 |[],[]=>some []
 |x::r,y::t=>match mD x y,iw r t with
  |some a,some b=>some (a::b)
  |_,_=>none
 |_,_=>none
def eqQ(x y:Pa):Option PyData:=match x,y with
 |.tuple xs,.tuple ys=>(iw xs ys).map fun bs=>.bool (bs.all id)
 |_,_=>none
theorem DJ(h:iy x x=some b):b=true:=by
 have flat:(if PR x=true/\PR x=true then some (Qc x x) else none)=some b->b=true:=fun h=>by
  split at h
  .rename_i hs
   cases h;have:=hs.1;unfold PR at this;rw[Po] at this;exact Vy x this.1
  .cases h
 unfold iy at h;split at h
 .unfold ku at h
  split at h
  .rename_i hs
   rw[if_pos rfl,hs] at h;cases h;rfl
  .cases h
 .exact flat h
theorem vq:∀{xs:List Pa}{bs:List Bool},gh xs xs=some bs->bs.all id=true
 |[],_,h=>by cases h;rfl
 |x::r,bs,h=>by
  unfold gh at h;split at h
  .rename_i a b ha hb
   cases h;rw[QD,vq hb,DJ ha];rfl
  .cases h
theorem E3{B:PZ}(hun:B.units+120<TL)(I:Inv X pins σ H s)(h1:Rep X.K O H v x)(r1:RelV v u)(h2:Rep X.K O H v' y)(r2:RelV v' u')(h:mD x y=some b):EqW X.prog X.w B.in1 s u u' b:=by
 by_cases hd:∃xs ys,x=.tuple xs/\y=.tuple ys
 .obtain⟨xs,ys,rfl,rfl⟩:=hd
  have h':(gh xs ys).map (fun bs=>bs.all id)=some b:=h;obtain⟨as,q1,_⟩:=Rep.reads I h1 r1;obtain⟨bs',q2,_⟩:=Rep.reads I h2 r2;obtain⟨a,vs,rfl,t1,p1⟩:=(Vw.rep h1).tup;obtain⟨c,vs',rfl,t2,p2⟩:=(Vw.rep h2).tup;cases r1;cases r2
  cases e:gh xs ys with
  |none=>rw[e] at h';cases h'
  |some bs=>
   rw[e] at h';cases h'
   by_cases hac:a=c
   .subst hac
    have e0:xs=ys:=by
     have:=(T6 q1 _ _ q2).1;injection this
    subst e0;show EqW _ _ _ _ _ _ (bs.all id);rw[vq e];exact sO (Tc _)
   .obtain⟨us,v1,i1,_⟩:=I.tuple t1.sq
    obtain⟨us',v2,i2,_⟩:=I.tuple t2.sq;obtain⟨l1,l2,f⟩:=ye (B:=B.in1) (by simp;omega) I p1 v1 p2 v2 e;intro E Q hq;unfold eqBool;refine QJ ?_;refine W0 (fun hab=>absurd (by have:=eq_of_beq hab;injection this) hac) (fun _=>?_);refine Pd (yK (e:=fun j=>bs.getD j false) i1 i2 (by simp;omega) (by simpa using l1) (fun j h1 h2=>by simpa using f j (by simpa using h1) (by simpa using h2)) ?_);rw[Pr,←l2,all_range];exact Qy hq
 .refine yd (by omega) I h1 r1 h2 r2 ?_
  unfold mD at h;split at h
  .exact absurd ⟨_,_,rfl,rfl⟩ hd
  .exact h
theorem wq{B:PZ}(hun:B.units+120<TL)(I:Inv X pins σ H s):∀{vs vs':List V}{xs ys:List Pa}{us us':List Pb}{bs:List Bool},Reps X.K O H vs xs->Vals vs us->Reps X.K O H vs' ys->Vals vs' us'->iw xs ys=some bs ->
  us.length=us'.length/\bs.length=us.length/\∀(j:Nat) (h1:j<us.length) (h2:j<us'.length),EqW X.prog X.w B.in1 s us[j] us'[j] (bs.getD j false)
 |_,_,_,_,_,_,_,.nil,.nil,.nil,.nil,e=>by cases e;exact⟨rfl,rfl,fun j h1 _=>absurd h1 (RX _)⟩
 |_,_,_,_,_,_,_,.nil,.nil,.cons _ _,_,e=>by cases e
 |_,_,_,_,_,_,_,.cons _ _,_,.nil,.nil,e=>by cases e
 |_,_,_,_,_,_,_,.cons r t,.cons rv tv,.cons r' t',.cons rv' tv',e=>by
  unfold iw at e;split at e
  .rename_i a b ha hb
   cases e;obtain⟨l1,l2,f⟩:=wq hun I t tv t' tv' hb;refine⟨by simp[l1],by simp[l2],fun j h1 h2=>?_⟩
   cases j with
   |zero=>exact E3 hun I r rv r' rv' ha
   |succ j=>exact f j (by simpa using h1) (by simpa using h2)
  .cases e
theorem Im(hr:Room k X.A):OpR X (PU .Eq) (fun x y H Q=>∃O xs ys bs,Vw X.K O H x (.tuple xs)/\Vw X.K O H y (.tuple ys)/\iw xs ys=some bs/\Q (.bl (bs.all id)) H):=by
 intro pins s σ H x y v u Q I rx ry h;obtain⟨O,xs,ys,bs,h1,h2,e,q⟩:=h;obtain⟨a,vs,rfl,t1,p1⟩:=h1.tup;obtain⟨b,vs',rfl,t2,p2⟩:=h2.tup;cases rx;cases ry;obtain⟨us,v1,i1,_⟩:=I.tuple t1.sq;obtain⟨us',v2,i2,_⟩:=I.tuple t2.sq;have hu:=hr.un;obtain⟨l1,l2,f⟩:=wq (B:=X.A) (by omega) I p1 v1 p2 v2 e;refine yK (e:=fun j=>bs.getD j false) i1 i2 (by omega) (by simpa using l1) (fun j h1 h2=>by simpa using f j (by simpa using h1) (by simpa using h2)) ?_;rw[Pr,←l2,all_range];exact⟨.bl _,H,I,rfl,q⟩
theorem Kc(hr:Room k X.A):OpD X (PU .Eq) eqQ:=⟨_,Im hr,fun O ts H T v1 v2 x y d Q hc h1 h2 e q=>by
 unfold eqQ at e;split at e
 .rename_i xs ys
  cases e':iw xs ys with
  |none=>rw[e'] at e;cases e
  |some bs=>rw[e'] at e;cases e;exact⟨O,xs,ys,bs,h1,h2,e',q _ H (.refl _ _) hc (.bl _)⟩
 .cases e⟩
end
theorem DZ:Rk "enumerate"=some (.type "enumerate"):=by decide +kernel
section
variable {P:Px}{w:PY}{A:PZ}{E:Pb->Pf->Prop}{s:Pf}
theorem Cs(hit:s.heap.IsTupleIter it t i)(ht:s.heap.IsTuple t items)(hx:items[i]? = some x)(hQ:∀h',h'.IsTupleIter it t (i+1)->Sa it s.heap h'->Q x { s with heap:=h' }) :
  PP (PX P w) A (RA (.ref it)) Q E s:=by
 obtain⟨o,ho,hc,hd⟩:=id hit;obtain⟨ol,hol,_,nl,hdl⟩:=ht;unfold RA;refine Pd (RP (name:=Pc "__next__") hit.typeIs Rv (Sb Rv hit.typeIs Tu ?_ (Ti _)));show PP _ _ (field (.ref it) 0 >>= _) _ _ s;refine Pd (Rm ho hd (x:=.ref t) rfl ?_);show PP _ _ (if (PJ t == Qq)=true then _ else _) _ _ s;rw[if_neg (show ¬((PJ t == Qq)=true) from Pu)];show PP _ _ (field (.ref it) 1 >>= _) _ _ s;refine Pd (Rm ho hd (x:=.int i 0) rfl ?_);show PP _ _ (UJ (.ref t) >>= _) _ _ s;refine Pd (SK hol hdl ?_);simp only[Uj,hx];refine Pd (SQ ho hd (by simp) (Pw ⟨x,rfl,Pw (hQ _ ⟨_,Qu _ ho (R1 (Su hd _)),(Obj.cls_mapFields ..).trans hc,by rw[Su hd];simp[TJ]⟩ (VI ..))⟩))
theorem C4(hh:A.handled=none)(hit:s.heap.IsTupleIter it t i)(ht:s.heap.IsTuple t items)(hx:items[i]? = none)
  (hE:∀h' e,Yw it s.heap h'->(∃o,h'.get? e=some o/\o.cls=.type "StopIteration")->E (.ref e) { s with heap:=h' }):PP (PX P w) A (RA (.ref it)) Q E s:=by
 obtain⟨o,ho,hc,hd⟩:=id hit;obtain⟨ol,hol,_,nl,hdl⟩:=ht;unfold RA;refine Pd (RP (name:=Pc "__next__") hit.typeIs Rv (Sb Rv hit.typeIs Tu ?_ (Ti _)));show PP _ _ (field (.ref it) 0 >>= _) _ _ s;refine Pd (Rm ho hd (x:=.ref t) rfl ?_);show PP _ _ (if (PJ t == Qq)=true then _ else _) _ _ s;rw[if_neg (show ¬((PJ t == Qq)=true) from Pu)];show PP _ _ (field (.ref it) 1 >>= _) _ _ s;refine Pd (Rm ho hd (x:=.int i 0) rfl ?_);show PP _ _ (UJ (.ref t) >>= _) _ _ s;refine Pd (SK hol hdl ?_);simp only[Uj,hx];refine Pd (U3 (Pd (SQ ho hd (by simp) ?_)));show PP _ _ (newExc (.type "StopIteration") [] >>= _) _ _ _;refine Pd ?_;simp only[newExc,newTuple];refine Pd (Qn ?_ (by size_fits));refine Pd (m:=firstArgMember _ _) (WN (a:=Qq) (by first|rfl|(simp only[firstArgMember];rfl)) ?_);refine Qn ?_ (by size_fits);simp only[raiseNew];refine Pd (wpAny_handled ?_)
 first|rw[show A.in1.handled=none from hh]|rw[hh]
 refine Pd (Pw (wpAny_throw ?_));exact hE _ _ (((VI ..).extBut.push _).push _) ⟨_,PM _ rfl,rfl⟩
theorem zK(hh:A.handled=none)(it t:Addr)(hne:t≠it)(items:Array Pb):Draws P w A it [it,t] items.size (fun i v=>items[i]? = some v) (fun i h=>h.IsTupleIter it t i/\h.IsTuple t items) where
 live:=fun _ _ st=>let ⟨o,ho,_⟩:=st.1;⟨o,ho⟩
 frame:=fun _ _ _ st hk=>⟨let ⟨o,ho,r⟩:=st.1;⟨o,hk it (by simp) o ho,r⟩,let ⟨o,ho,r⟩:=st.2;⟨o,hk t (by simp) o ho,r⟩⟩
 item:=fun i s Q E hi st hQ=>Cs st.1 st.2 (x:=items[i]) (by simp[hi]) fun h' hit' hs'=>hQ _ h' s.toks (by simp[hi]) ⟨hit',st.2.extBut hs'.extBut hne⟩ hs'
 done:=fun s Q E st hE=>C4 hh st.1 st.2 (by simp) hE
theorem B3(t:Addr)(items:Array Pb)(n:Nat)(dct:Option Addr)(sl:Array (Option Pb)) :
  Meets (SN.«enumerate.__new__» ⟨[.type "enumerate",.ref t],[]⟩) (fun _ R s=>s.heap.get? t=some { cls:=.type "tuple",dict:=dct,data:=.seq items n,slots:=sl }/\R (.ok (.ret (.ref (s.heap.push { cls:=.type "tuple_iterator",data:=.fields #[.ref t,.int 0 0] }).objs.size)))
    { s with heap:=(s.heap.push { cls:=.type "tuple_iterator",data:=.fields #[.ref t,.int 0 0] }).push { cls:=.type "enumerate",data:=.fields #[.none,.bool false,.ref s.heap.objs.size,TJ 0,.none,.none] } }):=
 .of_wp fun prog w A R s h=>by
  obtain⟨hp,g,d,tk,os⟩:=s;obtain⟨hl,h⟩:=h;have hsub:=sub_enumerate;have hT:Heap.IsTuple (Shared.heap ⟨hp,g,d,tk,os⟩) t items:=⟨_,hl,rfl,n,rfl⟩;wp_walk using Q9 hl;refine wpAny_stack_any fun st=>Pw ?_;split
  .rename_i c _ _ _ _ _
   cases (c == Sr "enumerate") <;> wp_walk using Q9 hl,TY hT <;> exact⟨_,rfl,h⟩
  .wp_walk using Q9 hl,TY hT
   exact⟨_,rfl,h⟩
theorem CJ(hT:s.heap.IsTuple t items)
  (h:∀h',IsEnum h' (s.heap.objs.size+1) s.heap.objs.size 0 .none->h'.IsTupleIter s.heap.objs.size t 0->h'.objs.size=s.heap.objs.size+2->(∀b o,s.heap.get? b=some o->h'.get? b=some o)->Q (.ref (s.heap.objs.size+1)) { s with heap:=h' }) :
  PP (PX P w) A (call (.type "enumerate") [.ref t]) Q E s:=by
 obtain⟨⟨c,dct,dt,sl⟩,hl,hc,n,hd⟩:=hT;obtain rfl:c=.type "tuple":=hc;obtain rfl:dt=.seq items n:=hd;refine callType_new F.called_enumerate (by decide) (F.typeCall_enumerate_1 _) (F.newCall_enumerate_1 _) (fun obj=>F.args_object_init_2 obj _) F.entry_enumerate_new (B3 t items n dct sl) ⟨hl,?_⟩;have hz:(s.heap.push { cls:=.type "tuple_iterator",data:=.fields #[.ref t,.int 0 0] }).objs.size=s.heap.objs.size+1:=QY ..;show _/\_;rw[hz]
 have he:IsEnum ((s.heap.push { cls:=.type "tuple_iterator",data:=.fields #[.ref t,.int 0 0] }).push { cls:=.type "enumerate",data:=.fields #[.none,.bool false,.ref s.heap.objs.size,TJ 0,.none,.none] }) (s.heap.objs.size+1) s.heap.objs.size 0 .none:=by
  rw[←hz];exact PM _ rfl
 exact⟨⟨_,he,rfl⟩,h _ he ⟨_,Pe _ (PM _ rfl),rfl,rfl⟩ (by rw[QY,hz]) fun b o x=>Pe _ (Pe _ x)⟩
end
def Bl(K:Frag)(a:Addr):It:=⟨fun i H=>∃xs,SqT K H a xs/\i<xs.length,fun i H x H'=>∃p v,H p=none/\(∀xs,SqT K H a xs->xs[i]? = some v)/\x=.ref p/\H'=upd H p (.tup [.int (i:Int),v]),fun i H=>∃xs,SqT K H a xs/\i=xs.length⟩
theorem Cm{P:Px}{w:PY}{K:Frag}{elts:List Expr}{x1:Nat}{tpos:Pos}{l e it:Addr}(hei:e≠it)(hle:l≠e)(hli:l≠it):Turn P w K (.Tuple elts x1 tpos) (Bl K l) [e,it] e (fun i h=>(∃old,IsEnum h e it i old)/\h.IsTupleIter it l i) where
 mem:=by simp
 obj:=fun i h st b hb=>by
  obtain⟨⟨old,a1⟩,⟨o4,a4,_,d4⟩⟩:=st;simp only[Pt,Ro,or_false] at hb
  rcases hb with e|e <;> subst e
  .exact⟨_,a1,fun v z=>nomatch (show WG _=X7 v from z)⟩
  .exact⟨_,a4,fun v z=>by rw[d4] at z;cases z⟩
 keep:=fun i h h' st k=>by
  obtain⟨⟨old,a1⟩,⟨o4,a4,r⟩⟩:=st;exact⟨⟨old,k e (by simp) _ a1⟩,o4,k it (by simp) _ a4,r⟩
 item:=by
  intro X hP hw hK hc i pins s σ H E I hf st hg;subst hP hw hK;obtain⟨xs,hx,k1⟩:=hg;obtain⟨⟨old,a1⟩,a4⟩:=st;obtain⟨its,rx,px,_⟩:=I.tuple hx;obtain⟨u,hu,ru⟩:=rx.get (Qs k1);have hlen:=rx.length;have hIT:s.heap.IsTuple l its.toArray:=px;refine wpAny_pyNext_enum_itemD (zK (A:=X.A.in1) (by simp[I.ok.hd hc]) it l hli its.toArray) a1 ⟨a4,hIT⟩ (by simp;omega) hei (by simp only[Pt,Ro,or_false,not_or];exact⟨hei,QW hle⟩) fun x h' tk hx' b1 b2 b3 b4 b5=>?_
  have ex:x=u:=by
   have h2:its.toArray[i]? = some u:=by simpa using hu
   rw[h2] at hx';exact(Qa hx').symm
  subst ex;refine⟨.ref s.heap.objs.size,rfl,wpAny_letOwnedTupleGo_enum b1 fun h'' c1 c2=>?_⟩;have hn:H s.heap.objs.size=none:=I.hok.fresh (Pm _);have le:e<s.heap.objs.size:=Pn a1
  have l1:it<s.heap.objs.size:=by obtain⟨_,e,_⟩:=a4;exact Pn e
  have T1:Vm (s.heap.push { cls:=.type "tuple",data:=.seq #[.int i tk,x] }) s.heap.objs.size #[.int i tk,x]:=UC ..
  have I1:Inv X pins σ (upd H s.heap.objs.size (.tup [.int (i:Int),xs[i]])) { s with heap:=s.heap.push { cls:=.type "tuple",data:=.seq #[.int i tk,x] } }:=
   I.laid (t':=s.toks) (o:=.tup [.int (i:Int),xs[i]]) (fun b ob e=>Pe _ e) (Pm _) ⟨by show 2<=Pp;decide,[.int i tk,x],.cons ⟨tk,rfl⟩ (.cons ru .nil),T1⟩
  have nn:∀b∈[e,it],b≠s.heap.objs.size:=fun b hb q=>by
   simp only[Pt,Ro,or_false] at hb
   rcases hb with z|z <;> rw[q] at z
   .exact RV le z
   .exact RV l1 z
  have f':∀b∈[e,it],dA X pins (upd H s.heap.objs.size (.tup [.int (i:Int),xs[i]])) b:=fun b hb=>by
   obtain⟨f0,fr⟩:=hf b hb;exact⟨by rw[aR (nn b hb)];exact f0,fr⟩
  have I2:Inv X pins σ (upd H s.heap.objs.size (.tup [.int (i:Int),xs[i]])) { s with heap:=h'',toks:=tk+1 }:=wV (s:={ s with heap:=s.heap.push { cls:=.type "tuple",data:=.seq #[.int i tk,x] } }) (t':=tk+1) (h':=h'') (fp:=[e,it]) I1 (fun b ob hb q=>by
   simp only[Pt,Ro,or_false,not_or] at hb
   by_cases z:b=s.heap.objs.size
   .subst z
    have q':some _=some ob:=(PM _ rfl).symm.trans q;cases q';exact(c2.2 _ hb.1).trans b3
   .rw[Wj _ _ _ z] at q
    exact(c2.2 b hb.1).trans (b5 b ob hb.1 hb.2 q)) f'
  refine⟨.ref s.heap.objs.size,_,I2,rfl,⟨s.heap.objs.size,xs[i],hn,fun xs' h=>by rw[I.tuple_inj h hx];exact Qs k1,rfl,rfl⟩,?_,fun b hb=>(f' b hb).1⟩;obtain⟨o,eo,ro⟩:=b2.1;exact⟨⟨_,c1⟩,o,(c2.2 it (QW hei)).trans eo,ro⟩
 done:=by
  intro X hP hw hK hc i pins s σ H E I hf st hg;subst hP hw hK;obtain⟨xs,hx,k⟩:=hg;obtain⟨⟨old,a1⟩,a4⟩:=st;obtain⟨its,rx,px,_⟩:=I.tuple hx;have h1:=rx.length;have hIT:s.heap.IsTuple l its.toArray:=px
  have hs:its.toArray.size=i:=by simp;omega
  refine wpAny_pyNext_enum_endD (zK (A:=X.A.in1) (by simp[I.ok.hd hc]) it l hli its.toArray) a1 ⟨by rw[hs];exact a4,hIT⟩ fun h' b7=>⟨rfl,wV (t':=s.toks) (fp:=[e,it]) I (fun b ob hb q=>?_) hf⟩;simp only[Pt,Ro,or_false,not_or] at hb;exact b7 b ob hb.2 q
 self:=fun _ _ _ _ _ st h=>let ⟨old,he⟩:=st.1;Wk he h
section
variable {X:Cx}{pos:Pos}
def IT(K:Frag)(ta:TA):TI:=fun σ H R=>ta σ H fun vs H1=>∃a xs,vs=[.ref a]/\SqT K H1 a xs/\(xs.length<=Pp->R (Bl K a) H1)
theorem Eo(hg:Gl X "enumerate")(hm:X.mg "enumerate"=none)(ha:PA X [a] ta)(hs:Pk [a] X.env=[(false,eval a X.env)]) :
  PI X (.Tuple elts x1 tpos) (.Call (.Name "enumerate" p) [a] [] pos) (IT X.K ta):=by
 intro pins s σ H R I h;refine Call_ (jP I hg hm DZ (R3 (thn (ha pos pins s σ H _ I h) fun us s1 ⟨vs,H1,I1,r1,q1⟩=>?_) hs rfl));obtain⟨l,xs,e,hx,q⟩:=q1;subst e
 cases r1 with
 |cons r rr=>
  cases rr;cases r;obtain⟨its,rx,px,zx⟩:=I1.tuple hx;have hIT:s1.heap.IsTuple l its.toArray:=px
  have L1:l<s1.heap.objs.size:=by obtain⟨_,e,_⟩:=hIT;exact Pn e
  refine CJ hIT fun h' c1 c2 c3 c7=>?_;have I2:Inv X pins σ H1 { s1 with heap:=h' }:=I1.kept (t':=s1.toks) c7;refine Wk c1 ⟨s1.heap.objs.size+1,[s1.heap.objs.size+1,s1.heap.objs.size],_,_,H1,rfl,I2,Cm (Wx _) (PK (RE L1)) (PK L1),⟨⟨_,c1⟩,c2⟩,fun b hb=>?_,q zx⟩
  have hb':s1.heap.objs.size<=b:=by
   simp only[Pt,Ro,or_false] at hb
   rcases hb with q|q <;> rw[q] <;> first|exact Nat.le_add_right _ _|exact Pm _
  exact I1.fpOk hb' (I1.hok.fresh hb')
end
def fE(i j:Nat)(body:FS):Nat->List Pa->FS
 |n,x::xs=>fun ρ T=>bnd (body ((ρ.set i (some (.d (.int (n:Int))))).set j (some (.d x))) T) fun p T1=>match p with
  |(.nx,ρ1)=>fE i j body (n+1) xs ρ1 T1
  |(.ct,ρ1)=>fE i j body (n+1) xs ρ1 T1
  |(.bk,ρ1)=>some ((.nx,ρ1),T1)
  |(.rt x,ρ1)=>some ((.rt x,ρ1),T1)
  |(.ro x,ρ1)=>some ((.ro x,ρ1),T1)
 |_,[]=>aD
def jR(i j:Nat)(body:FS)(ρ:Rho)(w:W)(T:Tp):Option ((Fl×Rho)×Tp):=match w with
 |.d (.tuple xs)=>fE i j body 0 xs ρ T
 |_=>none
def iY(i j:Nat)(f:FE)(body:FS):FS:=fun ρ T=>bnd (f ρ T) fun w T1=>jR i j body ρ w T1
theorem E6(hm:X.mg "enumerate"=none)(hN:X.N.Nodup)(ha:DE X a f)(hb:DSs X body g)(hg:Gl X "enumerate":=by rfl)(hi:X.N[i]? = some x:=by rfl)(hj:X.N[j]? = some y:=by rfl)(hx:Loc X.env.scope x:=by first|exact QM rfl|exact Qx rfl)(hy:Loc X.env.scope y:=by first|exact QM rfl|exact Qx rfl)
  (hf:X.fn x=true\/X.env.scope.names.lookup x=some .local:=by first|exact .inl rfl|exact .inr rfl|assumption) (hf':X.fn y=true\/X.env.scope.names.lookup y=some .local:=by first|exact .inl rfl|exact .inr rfl|assumption) (hp:UA (PX X.prog X.w) X.A X.env X.xe:=by exact Tg) (hc:X.calm=true:=by rfl)
  (hs1:Pk [a] X.env=[(false,eval a X.env)]:=by exact nr rfl) (hs2:Pk [] X.env=[]:=by rfl) (hs:∀v,Qj (.Call (.Name "enumerate" zp) [a] [] cpos) X.env v=pure v:=by intro _;rfl) :
  DS X (.For (.Tuple [.Name x px,.Name y py] k tpos) (.Call (.Name "enumerate" zp) [a] [] cpos) body [] pos) (iY i j f g):=by
 refine⟨?_⟩;refine bY (sC hp hc (Eo (ta:=pH (lift X.K f) qc) hg hm (bw ha.pe cG (by rw[hs1,hs2])) hs1) (oH hc (gw (fQ hN hi hx hf) (gw (fQ hN hj hy hf') nJ))) hb.pe hs) fun D σ H=>?_;rintro⟨O₀,H₀,F,ts,O,ρ,T,fl,ρ',T',rs,e,q⟩;obtain⟨w1,T1,e1,e⟩:=aN e;refine⟨O,ts,ρ,T,w1,T1,rs.hc,rs.re,e1,fun v1 H1 s1 hc1 r1=>?_⟩;have rs1:=rs.step s1 hc1
 have hw:∃dx,w1=.d (.tuple dx):=by
  unfold jR at e;split at e
  .exact⟨_,rfl⟩
  .cases e
 obtain⟨dx,rfl⟩:=hw;have r1':Rep X.K O H1 v1 (.tuple dx):=r1
 cases r1' with
 |@tup la vx _ tx rx=>
 refine⟨la,vx,rfl,tx.sq,fun zx=>?_⟩;have lx:=rx.length;refine⟨fun n m σ H=>m=dx.length-n/\n<=dx.length/\∃O' ρk Tk,RS X.K O₀ H₀ ((O,H1)::F) ts O' H σ ρk Tk/\fE i j g n (dx.drop n) ρk Tk=some ((fl,ρ'),T'),⟨_,rfl,QE _,O,ρ,T1,rs1.more,e⟩,?_⟩;rintro n m σ3 H3 ⟨rfl,hk,O',ρk,Tk,rs3,ek⟩;have le:=rs3.frs _ Pi;have tx3:=(tx.mono le).sq
 by_cases hlt:n<dx.length
 .refine .inr ⟨⟨vx,tx3,by omega⟩,fun σ3 H3=>∃O' ρk Tk,RS X.K O₀ H₀ ((O,H1)::F) ts O' H3 σ3 ρk Tk/\fE i j g (n+1) (dx.drop (n+1)) ρk Tk=some ((fl,ρ'),T'),fun σ3 H3 nn=>⟨dx.length-(n+1),by omega,rfl,hlt,nn⟩,fun v H4 yy=>?_⟩
  obtain⟨p,v',hpn,kx,rfl,rfl⟩:=yy;obtain⟨d1,hd1,rd1⟩:=rx.get (kx vx tx3)
  have hdx:dx.drop n=d1::dx.drop (n+1):=by rw[Ql hlt,(Ph.mp hd1).2]
  rw[hdx] at ek;obtain⟨⟨fl1,ρ1⟩,T3,e3,ek⟩:=aN ek;have rs4:=rs3.step (.new hpn (.tup [.int (n:Int),v'])) (rs3.hc.new hpn _);have le2:=le.trans (rs3.hc.leNew hpn (.tup [.int (n:Int),v']));refine⟨p,_,rfl,SqT.of bo,rfl,_,_,rfl,_,_,rfl,rfl,O₀,H₀,(O,H1)::F,ts,O',_,Tk,fl1,ρ1,T3,(rs4.set (i:=i) (w:=.d (.int (n:Int))) (Rep.int _) (fun _ z=>nomatch z)).set (i:=j) (w:=.d d1) (Rep.mono le2 rd1) (fun _ z=>nomatch z),e3,?_⟩
  cases fl1 with
  |nx=>exact fun O3 σ3 H3 rs3=>⟨O3,ρ1,T3,rs3,ek⟩
  |ct=>exact fun O3 σ3 H3 rs3=>⟨O3,ρ1,T3,rs3,ek⟩
  |bk=>
   cases ek;exact fun O3 σ3 H3 rs3=>q O3 σ3 H3 rs3.less
  |rt x=>
   cases ek;exact q
  |ro x=>
   cases ek;exact q
 .rw[QN (show dx.length<=n by omega)] at ek
  cases ek;exact .inl ⟨⟨vx,tx3,by omega⟩,q O' σ3 H3 rs3.less⟩
section
variable {X:Cx}{pos:Pos}
end
section
variable {X:Cx}{pos:Pos}{e:Expr}{fe:FE}
end
section
variable {K:Frag}{O₀:Addr->Prop}{H₀:Hp}{F:List ((Addr->Prop)×Hp)}{ts:List Addr}{O:Addr->Prop}{H H1:Hp}{σ:L2.St}{ρ:Rho}{T T1:Tp}
theorem ni(e:(ρ.set i none)[j]? = some (some w)):i≠j/\ρ[j]? = some (some w):=by
 by_cases z:i=j
 .subst z
  rw[UK] at e
  cases h:ρ[i]? with
  |none=>rw[h] at e;cases e
  |some u=>rw[h] at e;cases e
 .rw[Pj z] at e
  exact⟨z,e⟩
theorem RS.unset{i:Nat}{v:V}(r:RS K O₀ H₀ F ts O H σ ρ T):RS K O₀ H₀ F ts O H (σ.set i (some v)) (ρ.set i none) T where
 hc:=r.hc
 re:=fun j u e=>by
  obtain⟨z,e⟩:=ni e;obtain⟨x,h1,h2⟩:=r.re j u e;exact⟨x,by rw[Pj z];exact h1,h2⟩
 sub:=r.sub
 ots:=r.ots
 same:=r.same
 fresh:=fun j xs a e1 e2=>by
  obtain⟨z,e⟩:=ni e1;rw[Pj z] at e2;exact r.fresh j xs a e e2
 dist:=fun j k xs ys u e1 e2 e3 e4=>by
  obtain⟨z1,e1⟩:=ni e1;obtain⟨z2,e2⟩:=ni e2;rw[Pj z1] at e3;rw[Pj z2] at e4;exact r.dist j k xs ys u e1 e2 e3 e4
 frs:=r.frs
 len:=by simp[r.len]
end
section
variable {X:Cx}{pos:Pos}
end
section
variable {X:Cx}{pos pos2 pos3:Pos}
end
inductive LnT(P:Hp->(Bool->Hp->Prop)->Prop):Hp->(Bool->Hp->Prop)->Prop where
 |done {H:Hp}{Q:Bool->Hp->Prop}:P H Q->LnT P H Q
 |frz {H:Hp}{Q:Bool->Hp->Prop}{a:Addr}{kvs:List (Key×V)}:H a=some (.dK kvs)->(∀o,LnT P (upd H a (.frz o (.dK kvs))) (fun b H2=>H2 a=some (.frz o (.dK kvs))/\Q b (upd H2 a (.dK kvs))))->LnT P H Q
section
variable {X:Cx}{pos pos2 pos3 pos4:Pos}
end
section
variable {X:Cx}{pos:Pos}
end
end D
namespace XO
open L2
open XE (Kp forget dE gq jt XCl vE XAt)
def XR(e C:Addr)(dx:Option Addr)(tb:Pb)(h:Heap):Prop:=∃t,h.get? e=some { cls:=.ref C,dict:=dx,data:=.fields #[.ref t,tb,.none,.none,.bool false,.none] }
def TB(T:Addr)(fl:Pb)(h:Heap):Prop:=∃oT ts,h.get? T=some oT/\oT.data=.fields ts/\ts[3]? = some fl
section
variable {M:X6}{A:PZ}{E:Pb->Pf->Prop}{s:Pf}{base:Heap}{env:Env}{outer:List Env}{L e C T:Addr}{dx:Option Addr}
theorem yg(hfr:A.frames=some (env::outer))(hl:s.heap.FunFrames base (env::outer))(hf:env.frame=some L)(hx:XR e C dx tb s.heap)
  (k:∀h' T,s.heap.objs.size<=T->XR e C dx (.ref T) h'->TB T (TJ L) h'->T≠e->Kp [e] (frs (env::outer)) s.heap h'->Q () { s with heap:=h' }) :
  PP M A (do let a ←frameOf env;let pl ←entryPlaceOf L hn;let b ←VJ head a .none (TJ L) .none pl;setField (.ref e) 1 b) Q E s:=by
 obtain⟨t,he⟩:=hx
 have hen:e∉(env::outer).filterMap (·.frame):=fun hm=>by
  obtain⟨_,o,ho,hnf⟩:=hl.mem hm;rw[he] at ho;cases ho;exact hnf _ rfl
 refine Pd (wpAny_frameOf_fun hfr hl hf fun h1 hs=>?_);refine Pd (wpAny_entryPlaceOf fun pl hpl=>?_);unfold VJ newFields;refine Pd (Qn ?_ (hpl.sizeOk5 _ _ _ _ _));have he1:=(hs.2.1 e hen).trans he;generalize eo:(Obj.mk (.type "traceback") none (.fields ([head,.ref L,.none,TJ L,.none]++(if pl.isEmpty then PC 6 Qq else pl)).toArray) #[])=oT
 have eT:oT.data=.fields ([head,.ref L,.none,TJ L,.none]++(if pl.isEmpty then PC 6 Qq else pl)).toArray:=by rw[←eo]
 have he2:=Pe (h:=h1) oT he1;refine SQ he2 rfl (by simp) ?_;have ne:h1.objs.size≠e:=RV (Pn he1);have sz:h1.objs.size=s.heap.objs.size:=hs.1;refine k _ h1.objs.size (by rw[sz];exact Pm _) ⟨t,?_⟩ ⟨oT,_,?_,eT,by simp⟩ ne ⟨fun b o q n m=>?_,fun b o q n m=>?_,fun b o q=>?_⟩
 .rw[Qu _ he2 rfl]
  rfl
 .rw[PQ _ _ ne.symm]
  exact Heap.get?_push_at rfl (R1 eT)
 .rw[PQ _ _ (fun z=>n (by simp[z]))]
  exact Pe _ ((hs.2.1 b m).trans q)
 .obtain⟨sl,q'⟩:=hs.2.2 b o q
  refine⟨sl,?_⟩;rw[PQ _ _ (fun z=>n (by simp[z]))];exact Pe _ q'
 .by_cases hb:b=e
  .subst hb
   exact⟨_,Qu _ he2 rfl⟩
  .obtain⟨sl,q'⟩:=hs.2.2 b o q
   exact⟨_,(PQ _ _ (QW hb)).trans (Pe _ q')⟩
theorem Cr(hfr:A.frames=some (env::outer))(hl:s.heap.FunFrames base (env::outer))(hf:env.frame=some L)(hx:XR e C dx .none s.heap)
  (k:∀h' T,s.heap.objs.size<=T->XR e C dx (.ref T) h'->TB T (TJ L) h'->T≠e->Kp [e] (frs (env::outer)) s.heap h'->Q () { s with heap:=h' }):PP M A (WB (.ref e) env) Q E s:=by
 obtain⟨t,he⟩:=id hx;unfold WB;simp only[hf];refine Pd (Rm he rfl (x:=.none) rfl ?_);rw[if_neg (by decide)];exact yg hfr hl hf hx k
theorem sJ(hx:XR e C dx (.ref T) s.heap)(ht:TB T fl s.heap)(ne:T≠e)(k:∀h',XR e C dx (.ref T) h'->TB T .none h'->Kp [T] [] s.heap h'->Q () { s with heap:=h' }) :
  PP M A (Yd (.ref e) none) Q E s:=by
 obtain⟨t,he⟩:=hx;obtain⟨oT,ts,hT,hd,h3⟩:=ht;have sz:=(Ru.mp h3).1;unfold Yd;refine Pd (Rm he rfl (x:=.ref T) rfl ?_);rw[if_pos (show (PJ T != Qq)=true from by simp)];have dt:=Su hd (·.setIfInBounds 3 Qq);have self:=Qu (Uw (·.setIfInBounds 3 Qq)) hT (R1 dt);refine SQ hT hd sz (k _ ⟨t,?_⟩ ⟨_,_,self,dt,by simp[sz]⟩ ⟨fun b o q n _=>?_,fun b o q n m=>absurd m (by simp),fun b o q=>?_⟩)
 .rw[PQ _ _ ne]
  exact he
 .rw[PQ _ _ (fun z=>n (by simp[z]))]
  exact q
 .by_cases hb:T=b
  .subst hb;exact⟨_,self⟩
  .exact⟨o,by rw[PQ _ _ hb];exact q⟩
theorem xy(hfr:A.frames=some (env::outer))(hl:s.heap.FunFrames base (env::outer))(hf:env.frame=some L)(hx:XR e C dx (.ref T) s.heap)(ht:TB T .none s.heap)(ne:T≠e)
  (k:∀h' T',s.heap.objs.size<=T'->XR e C dx (.ref T') h'->TB T' (TJ L) h'->T'≠e->Kp [e,T] (frs (env::outer)) s.heap h'->Q () { s with heap:=h' }):PP M A (WB (.ref e) env) Q E s:=by
 obtain⟨t,he⟩:=id hx;obtain⟨oT,ts,hT,hd,h3⟩:=id ht;have sz:=(Ru.mp h3).1;unfold WB;simp only[hf];refine Pd (Rm he rfl (x:=.ref T) rfl ?_);rw[if_pos (show (PJ T != Qq)=true from by simp)];refine Pd (Rm hT hd h3 ?_);rw[if_neg (show ¬((Qq == TJ L)=true) from by simp[TJ])];have dt:=Su hd (·.setIfInBounds 3 Qq);have self:=Qu (Uw (·.setIfInBounds 3 Qq)) hT (R1 dt)
 have kp:Kp [e,T] (frs (env::outer)) s.heap (s.heap.update T (Uw (·.setIfInBounds 3 Qq))):=by
  refine⟨fun b o q n _=>?_,fun b o q n m=>⟨o.slots,?_⟩,fun b o q=>?_⟩
  .rw[PQ _ _ (fun z=>n (by simp[z]))]
   exact q
  .rw[PQ _ _ (fun z=>n (by simp[z]))]
   exact q
  .by_cases hb:T=b
   .subst hb;exact⟨_,self⟩
   .exact⟨o,by rw[PQ _ _ hb];exact q⟩
 have fn:=kp.fun_ (fun x hx=>by
  rcases Pt.mp hx with z|z
  .exact⟨_,_,z ▸ he,rfl⟩
  .exact⟨_,_,(Pl.mp z) ▸ hT,hd⟩) hl
 refine Pd (SQ hT hd sz ?_);refine yg (base:=base) hfr fn hf ⟨t,by rw[PQ _ _ ne];exact he⟩ fun h' T' g1 g2 g3 g4 g5=>?_;refine k h' T' ?_ g2 g3 g4 (kp.trans (g5.more fun x hx=>by simp at hx;simp[hx]))
 have:(s.heap.update T (Uw (·.setIfInBounds 3 Qq))).objs.size=s.heap.objs.size:=by first|exact Heap.size_update _ _ _|simp
 rw[←this];exact g1
end
theorem JH(u:Un fs [] H0 H2 h0 h2)(k:Kp xs fs' h2 h3)(nx:∀x∈xs,h0.objs.size<=x)(nf:∀x∈fs',x∈fs\/h0.objs.size<=x)(ha:∀o,H2 a=some o->∃φ,o=.ext φ) :
  Un fs [] H0 (forget a H2) h0 h3:=by
 have lt:∀{b:Addr}{o:Obj},h0.get? b=some o->b<h0.objs.size:=fun e=>Pn e;have nx':∀{b:Addr}{o:Obj},h0.get? b=some o->b∉xs:=fun e z=>Qr _ (Py (lt e) (nx _ z));refine⟨fun b o q n m x=>?_,fun b o q n m x=>?_,fun b o q n x=>?_,fun b o q x=>?_,fun b xs e=>?_,fun b o u' e=>?_,fun b ps e=>?_⟩
 .refine k.keep b o (u.keep b o q n m x) (nx' q) fun z=>?_
  rcases nf b z with z|z
  .exact m z
  .exact Qr _ (Py (lt q) z)
 .obtain⟨sl,e⟩:=u.slot b o q n m x
  by_cases z:b∈fs'
  .obtain⟨sl',e'⟩:=k.slot b _ e (nx' q) z
   exact⟨sl',e'⟩
  .exact⟨sl,k.keep b _ e (nx' q) z⟩
 .have e:=u.free b o q n x
  by_cases z:b=a
  .rw[z];exact gq
  .rw[dE z];exact e
 .obtain⟨o',e⟩:=u.there b o q x
  exact k.there b o' e
 .have e':=u.tups b xs e
  rw[dE (fun z=>by rw[z] at e';obtain⟨_,w⟩:=ha _ e';cases w)];exact e'
 .have e':=u.frzs b o u' e
  rw[dE (fun z=>by rw[z] at e';obtain⟨_,w⟩:=ha _ e';cases w)];exact e'
 .obtain⟨more,e'⟩:=u.tbls b ps e
  refine⟨more,?_⟩;rw[dE (fun z=>by rw[z] at e';obtain⟨_,w⟩:=ha _ e';cases w)];exact e'
theorem IU(x:HOk P w H h)(k:Kp xs fs h h')(nx:∀y∈xs,y=a\/H y=none)(nf:∀y∈fs,H y=none)(ha:∀o,H a=some o->∃φ,o=.ext φ):HOk P w (forget a H) h':=by
 intro b o e
 have nb:b≠a:=fun z=>by rw[z,gq] at e;cases e
 rw[dE nb] at e;refine(x b o e).stay (fun c u hc q=>?_) (fun c q=>?_) fun c ys q=>?_
 .have tr:∃v,H c=some v/\c≠a:=by
   rcases hc with rfl|hc
   .exact⟨_,e,nb⟩
   .exact⟨_,hc,fun z=>by rw[z] at hc;obtain⟨_,w⟩:=ha _ hc;cases w⟩
  obtain⟨v,t1,t2⟩:=tr;refine k.keep c u q (fun z=>?_) fun z=>?_
  .rcases nx c z with z|z
   .exact t2 z
   .rw[t1] at z;cases z
  .have:=nf c z
   rw[t1] at this;cases this
 .rw[dE (fun z=>by rw[z] at q;obtain⟨_,w⟩:=ha _ q;cases w)];exact q
 .rw[dE (fun z=>by rw[z] at q;obtain⟨_,w⟩:=ha _ q;cases w)];exact q
def CXo(P:Px)(w:PY):CXT:=fun outer H s E v s'=>∃e C dx T H',v=.ref e/\s'.os=s.os/\S2 s'.gens/\Un (frs outer) [] H H' s.heap s'.heap/\HOk P w H' s'.heap/\s.heap.objs.size<=e/\s.heap.objs.size<=T/\T≠e /\
 XR e C dx (.ref T) s'.heap/\TB T .none s'.heap/\H' e=none/\H' T=none/\E (.ref C) dx H'
section
variable {P:Px}{w:PY}{K:Frag}{mg:Str->Option Pb}{base:Heap}{N:List Str}{qual:Str}{scope:Rj}{f C R:Addr}{cdv:Pb}{A:PZ}{outer:List Env}{s0:Pf}{H0:Hp}{E:XK}
theorem gone(I2:L2.Inv (cw (CXo P w) P w K mg base N qual scope f cdv A outer s0 H0 E) pins σ H2 s2)(ha:∀o,H2 a=some o->∃φ,o=.ext φ)(ge:s0.heap.objs.size<=a)
  (g1:s0.heap.objs.size<=T) (hT:H2 T=none) (g2:XR a C dx (.ref T) h3) (g3:TB T fl h3) (g4:T≠a) (g5:Kp (a::xs) (frs (Rx qual scope s0.heap.objs.size f cdv::outer)) s2.heap h3) (nx:∀y∈xs,s0.heap.objs.size<=y/\H2 y=none) (q:E (.ref C) dx (forget a H2)) :
  PP (PX P w) A' (Yd (.ref a) none) (fun _ s''=>CXo P w outer H0 s0 E (.ref a) s'') X' { s2 with heap:=h3 }:=by
 have st:=I2.env0;have un:Un (frs outer) [] H0 H2 s0.heap s2.heap:=I2.base;have osq:s2.os=s0.os:=I2.os;have hok:HOk P w H2 s2.heap:=I2.hok;refine sJ g2 g3 g4 fun h4 j1 j2 j3=>?_
 have kp:Kp (a::T::xs) (frs (Rx qual scope s0.heap.objs.size f cdv::outer)) s2.heap h4:=by
  refine(g5.more fun x hx=>by simp at hx;rcases hx with z|z <;> simp[z]).trans ?_;refine⟨fun b o q n _=>j3.keep b o q (fun z=>n (by simp at z;simp[z])) (by simp),fun b o q n m=>⟨o.slots,?_⟩,j3.there⟩;exact j3.keep b o q (fun z=>n (by simp at z;simp[z])) (by simp)
 refine⟨a,C,dx,T,forget a H2,rfl,osq,I2.bare,JH un kp (fun x hx=>?_) (fun x hx=>?_) ha,IU hok kp (fun y hy=>?_) st.frf ha,ge,g1,g4,j1,j2,gq,?_,q⟩
 .simp at hx
  rcases hx with rfl|rfl|z
  .exact ge
  .exact g1
  .exact(nx x z).1
 .have hx':x∈frs (Rx qual scope s0.heap.objs.size f cdv::outer):=hx
  unfold frs at hx';rw[RL] at hx';have hfr:(Rx qual scope s0.heap.objs.size f cdv).frame=some s0.heap.objs.size:=rfl;rw[hfr] at hx'
  rcases Pt.mp hx' with z|z
  .exact .inr (Wa z.symm)
  .exact .inl z
 .simp at hy
  rcases hy with rfl|rfl|z
  .exact .inl rfl
  .exact .inr hT
  .exact .inr (nx y z).2
 .rw[dE g4];exact hT
theorem Cf(h:H a=none):forget a H=H:=by
 funext b
 by_cases e:b=a
 .rw[e,gq,h]
 .exact dE e
theorem passes:lN (CXo P w) (cw (CXo P w) P w K mg base N qual scope f cdv A outer s0 H0 E) E:=by
 intro pins σ H1 s1 v s2 I1 hq;obtain⟨a,C,dx,T,H2,rfl,os2,bare2,un2,hok2,ge,geT,neT,xr,tb,fe,fT,q⟩:=hq;have I2:L2.Inv (cw (CXo P w) P w K mg base N qual scope f cdv A outer s0 H0 E) pins σ H2 s2:=I1.call' (ch:=[]) os2 un2 hok2 bare2 (fun b z=>absurd z (by simp));have st:=I2.env0;have sz1:s0.heap.objs.size<=s1.heap.objs.size:=I1.sz;have sz:s0.heap.objs.size<=s2.heap.objs.size:=I2.sz;show PP (PX P w) (A.deeper (Rx qual scope s0.heap.objs.size f cdv)) (W1 (Rx qual scope s0.heap.objs.size f cdv) (.ref a)) (fun _ s''=>CXo P w outer H0 s0 E (.ref a) s'') (fun e' s''=>CXo P w outer H0 s0 E e' s'') s2;unfold W1;refine Pd (xy (base:=base) (outer:=outer) (C:=C) (dx:=dx) (T:=T) st.frames st.funs rfl xr tb neT fun h3 T3 g1 g2 g3 g4 g5=>gone (xs:=[T]) I2 (fun o ho=>by rw[fe] at ho;cases ho) (PL sz1 ge) (PL sz g1) (hok2.fresh g1) g2 g3 g4 g5 (fun y hy=>?_) (by rw[Cf fe];exact q));rw[Pl.mp hy];exact⟨PL sz1 geT,fT⟩
def sRaise(n0:Nat)(C:Addr)(E:XK)(te:TE):TS:=fun _ σ H=>te σ H fun v H2=>∃a dx,v=.ref a/\n0<=a/\H2 a=some (.ext (XAt a C dx))/\E (.ref C) dx (forget a H2)
theorem El(c:XCl K C (.ref R::vE))(he:PE (cw (CXo P w) P w K mg base N qual scope f cdv A outer s0 H0 E) e te) :
  PS (cw (CXo P w) P w K mg base N qual scope f cdv A outer s0 H0 E) (.Raise (some e) none pos) (sRaise s0.heap.objs.size C E te):=by
 intro pins s σ H D I h;rw[arm_exec_Raise];refine Pd (Uo ?_);simp only[evalOpt,YA];unfold raiseStmt;refine Pd (Pd (thn (he pins s σ H _ I h) fun v s2 ⟨x,H2,I2,r2,a,dx,ex,ge,ha,q⟩=>Pd (Uo (Pw ?_))));subst ex;obtain rfl:v=.ref a:=r2;obtain⟨t,hat⟩:=XAt.of I2.hok ha;obtain⟨nm,qn,Nn,bs,sn,sub,ab,col,dd,k0,k1,k2,k3,k5,l,_⟩:=c;have hC:=I2.kIn _ _ l
 have hcB:(PJ C::PJ R::vE).contains (.type "BaseException")=true:=by simp
 have hh:=I2.ok.hd rfl;have st:=I2.env0;have sz:s0.heap.objs.size<=s2.heap.objs.size:=I2.sz;have hok:HOk P w H2 s2.heap:=I2.hok
 have fin:(cw (CXo P w) P w K mg base N qual scope f cdv A outer s0 H0 E).xe (.ref a) s2:=by
  show PP (PX P w) (A.deeper (Rx qual scope s0.heap.objs.size f cdv)) (W1 (Rx qual scope s0.heap.objs.size f cdv) (.ref a)) (fun _ s''=>CXo P w outer H0 s0 E (.ref a) s'') (fun e' s''=>CXo P w outer H0 s0 E e' s'') s2;unfold W1;exact Pd (Cr (base:=base) (outer:=outer) (C:=C) (dx:=dx) st.frames st.funs rfl ⟨t,hat⟩ fun h3 T g1 g2 g3 g4 g5=>gone (xs:=[]) I2 (fun o ho=>by rw[ha] at ho;cases ho;exact⟨_,rfl⟩) ge (PL sz g1) (hok.fresh g1) g2 g3 g4 g5 (fun _ z=>nomatch z) q)
 obtain⟨hp,g,d,tk,os⟩:=s2
 repeat (first|with_reducible refine Qp hat ?_|with_reducible refine Qp hC ?_|wp_step)
 refine Se hC ?_;rw[hcB]
 repeat (first|with_reducible refine Qp hat ?_|with_reducible refine Qp hC ?_|wp_step)
 exact wpAny_raiseNew_none hh fin
end
end XO
namespace XO
open L2 D
open XE (Kp forget dE gq jt XCl vE XAt)
structure XB0(K:Frag)(C R:Addr):Prop where
 c:XCl K C (.ref R::vE)
 r:XCl K R vE
 ci:P4 K (.ref C) "__init__"=some (some (.builtin "ValueError.__init__"))
 ri:RJ K "__init__" (.ref R)=some none
 kp:Qm K (.ref C)=true
section
variable {prog:Px}{w:PY}{A:PZ}{E:Pb->Pf->Prop}{h:Heap}{g:Array Uz}{d:X5}{t:Nat}{os:W3}{K:Frag}{C R:Addr}
theorem Hu(X:K.In h)(c:XCl K C (.ref R::vE))(r:XCl K R vE)(ri:RJ K "__init__" (.ref R)=some none)
  (hi:P4 K (.ref C) "__init__"=some (some (.builtin "ValueError.__init__"))) (hz:us.length<=Pp)
  (k:∀h',(∀b o,h.get? b=some o->h'.get? b=some o)->XAt (h.objs.size+1) C none h'->Q (.ref (h.objs.size+1)) ⟨h',g,d,t,os⟩) :
  PP (PX prog w) A (call (.ref C) us) Q E ⟨h,g,d,t,os⟩:=by
 have T:=XE.FD X r ri;obtain⟨nm,q,N,bs,sn,sub,ab,col,dd,k0,k1,k2,k3,k5,l,_⟩:=c;have hC:=X _ _ l;have FB:=PySem.F.excBase_ValueError;have f1:=tc_lookup;have f2:=tc_bind (.ref C);have hT:(⟨h,g,d,t,os⟩:Pf).TypeIs (.ref C) "type":=⟨_,hC,rfl⟩;refine VU (codeAny_of_tree ?_);show PP _ _ (callAny (.ref C) _) _ _ _
 repeat (any_goals (first|assumption|with_reducible refine Qp hC ?_|wp_step))
 refine⟨rfl,codeAny_call_builtin_at (Ss _ (by decide +kernel)) entry_typeCall (wpAny_check_type_call_sub hC ?_)⟩
 repeat (first|with_reducible refine Qp hC ?_|with_reducible refine wpAny_madeBy_exc hC ?_|wp_step)
 refine codeAny_call_builtin_code (Ss _ FB.quiet) (wpAny_check_new_subU FB (by decide +kernel) T hC (codeAny_exc_new_subU FB (by decide +kernel) FB T hC ?_ hz));show PP _ _ _ _ _ _
 have up:∀b o,h.get? b=some o->((h.push { cls:=.type "tuple",data:=.seq us.toArray }).push { cls:=.ref C,data:=.fields #[.ref h.objs.size,.none,.none,.none,.bool false,.none] }).get? b=some o:=
  fun b o e=>Pe _ (Pe _ e)
 have at1:((h.push { cls:=.type "tuple",data:=.seq us.toArray }).push { cls:=.ref C,data:=.fields #[.ref h.objs.size,.none,.none,.none,.bool false,.none] }).get? (h.objs.size+1)
   = some { cls:=.ref C,data:=.fields #[.ref h.objs.size,.none,.none,.none,.bool false,.none] }:=by heap_get
 have hC1:=up _ _ hC
 have cc:(PJ C::PJ R::vE).contains (.ref C)=true:=by simp
 unfold isInstance
 repeat (first|with_reducible refine Qp at1 ?_|wp_step)
 refine Se hC1 ?_;rw[cc]
 repeat (first|with_reducible refine Qp at1 ?_|wp_step)
 show PP _ _ (VY (.ref C) _) _ _ _;refine S9 (X.keeps up) hi _ _ _ _ (fun _ _ e=>e) ?_;refine QJ (Pd (WN (FB.init.bind _) ?_));refine Pd (VU (S7 FB.init.plain FB.initEntry (wpAny_check_init_subU FB (T.keeps up) hC1 at1 rfl ?_)));wp_walk;have ne:∀{b:Addr}{o:Obj},h.get? b=some o->h.objs.size+1≠b:=fun e=>RV (RE (Pn e));refine k _ (fun b o e=>?_) ⟨h.objs.size+2,?_⟩
 .exact(PQ _ _ (ne e)).trans (Pe _ (up b o e))
 .refine(Qu _ (Pe _ at1) rfl).trans ?_
  simp only[QY];rfl
end
def tX0(n0:Nat)(C:Addr)(te:TE):TE:=fun σ H Q=>te σ H fun _ H1=>∀a,n0<=a->H1 a=none->Q (.ref a) (upd H1 a (.ext (XAt a C none)))
theorem F7(G:XB0 X.K C R)(hg:Gl X cn)(hm:X.mg cn=some (.ref C))(he:PE X e te)(hdb:(cn == ("__debug__" : Str))=false:=by decide)(hs:Pk [e] X.env=[(false,eval e X.env)]:=by rfl) :
  PE X (.Call (.Name cn p) [e] [] pos) (tX0 X.s₀.heap.objs.size C te):=by
 intro pins s σ H Q I h;refine Rp (lD I hg hm ?_ hdb);have pa:PA X [e] (pH te qc):=bw he cG (by rw[hs];rfl)
 have hA:=pa pos pins s σ H (fun vs H1=>match vs with
  |[_]=>∀a,X.s₀.heap.objs.size<=a->H1 a=none->Q (.ref a) (upd H1 a (.ext (XAt a C none)))
  | _=>False) I h
 refine TQ (h₀:=X.base) I.ok.mod.kin G.kp (thn hA fun us s1 ⟨vs,H1,I1,r1,q⟩=>⟨I1.kIn,?_⟩) (by rw[hs];rfl) rfl;dsimp only at q;split at q
 .have hl:us.length=1:=by rw[←r1.length];rfl
  have I1':=I1;obtain⟨hp,g,d,tk,os⟩:=s1;refine Hu I1.kIn G.c G.r G.ri G.ci (by simp[hl];decide) fun h' kp at1=>?_;have I2:=I1'.laid (h':=h') (a:=hp.objs.size+1) (o:=.ext (XAt (hp.objs.size+1) C none)) (t':=tk) kp (S6 _) at1.ok;exact⟨.ref (hp.objs.size+1),_,I2,rfl,q _ (PL I1.sz (S6 _)) (I1.hok.fresh (S6 _))⟩
 .exact Qw q
end XO
namespace XO
open L2 D
open XE (Kp forget dE gq jt XCl vE XAt)
abbrev FX:=Rho->Tp->Option (Nat×Tp)
inductive LiftXP(K:Frag)(cs:Nat->Addr)(E:XK)(f:FX)(σ:L2.St)(H:Hp):Prop where
 |mk (O₀:Addr->Prop) (H₀:Hp) (F:List ((Addr->Prop)×Hp)) (ts:List Addr) (O:Addr->Prop) (ρ:Rho) (T:Tp) (c:Nat) (T':Tp) (rs:RS K O₀ H₀ F ts O H σ ρ T) (e:f ρ T=some (c,T')) (q:∀H',SameX ts H₀ H'->HC K O₀ ts H' T'->E (.ref (cs c)) none H'):LiftXP K cs E f σ H
def Kq(K:Frag)(cs:Nat->Addr)(E:XK)(f:FX):TS:=fun _ σ H=>LiftXP K cs E f σ H
structure DX(X:Cx)(cs:Nat->Addr)(E:XK)(s:List Stmt)(f:FX):Prop where
 pe:PSs X s (Kq X.K cs E f)
theorem vX:PSs X s (fun _ _ _=>False):=fun _ _ _ _ _ _ h=>h.elim
def mC(f:FT)(c:Nat):FX:=fun ρ T=>bnd (f ρ T) fun b T1=>if b=true then some (c,T1) else none
def fq(m:List W->Tp->Option (Nat×Tp))(g:FA):FX:=fun ρ T=>bnd (g ρ T) fun ws T1=>if cC ws=true then m ws T1 else none
def spF(K:Frag)(n:Nat)(cs:Nat->Addr)(m:List W->Tp->Option (Nat×Tp)):Sp:=fun vs H _ E=>∃(O:Addr->Prop) (ts:List Addr) (T:Tp) (ws:List W) (c:Nat) (T':Tp),HC K O ts H T/\fF K O ts H vs ws/\ws.length=n/\cC ws=true/\m ws T=some (c,T') /\
 ∀H',SameX ts H H'->HC K O ts H' T'->E (.ref (cs c)) none H'
structure FnX(P:Px)(w:PY)(K:Frag)(mg:Str->Option Pb)(base:Heap)(name:Str)(ps:List Str)(k:Nat)(sp:Sp):Prop where
 ex:∃f fd,FnOk P w K mg base (CXo P w) k f fd ps sp/\Binds K fd ps []/\Qm K (.ref f)=true/\mg name=some (.ref f)
section
variable {X:Cx}{cs:Nat->Addr}{E:XK}{pos:Pos}
theorem fails(hl:dQ g n)(h:LiftXP X.K cs E (fq m g) σ H):pI (spF X.K n cs m) [] E (pR X.K g) σ H Q:=by
 obtain⟨O₀,H₀,F,ts,O,ρ,T,c,T',rs,e,q⟩:=h;unfold fq at e;obtain⟨ws,T1,e1,e⟩:=aN e;split at e
 .rename_i hn
  refine⟨O,ts,ρ,T,ws,T1,rs.hc,rs.re,e1,fun vs H1 s1 hc1 r1=>?_⟩;show spF X.K n cs m (vs++[]) H1 Q E;rw[Qv];refine⟨O,ts,T1,ws,c,T',hc1,r1,hl _ _ _ _ e1,hn,e,fun H' s2 hc2=>q H' ((rs.same.trans s1).trans s2) ?_⟩;exact((rs.step s1 hc1).step s2 hc2).frzH
 .cases e
section
variable {name:Str}{ps:List Str}{k:Nat}{m:List W->Tp->Option (Nat×Tp)}{e:Expr}{es:List Expr}{g:FA}{p cpos:Pos}{sts:List Stmt}
theorem Jl{i:Nat}{x:Str}{pos':Pos}(G:FnX X.prog X.w X.K X.mg X.base name ps k (spF X.K ps.length cs m))(hr:Room k X.A)(hg:Gl X name)(hp:lN (CXo X.prog X.w) X E)(hN:X.N.Nodup)(ha:DA X (e::es) g)(hl:dQ g ps.length)(hdb:(name == ("__debug__" : Str))=false:=by decide)
  (he:Pk (e::es) X.env=(false,eval e X.env)::Pk es X.env:=by exact bc rfl) (hpl:(Qg cpos (Pk es X.env)).any (·.1)=false:=by exact bN rfl) (hi:X.N[i]? = some x:=by rfl) (hx:Loc X.env.scope x:=by first|exact QM rfl|exact Qx rfl)
  (hs:QL (.Call (.Name name p) (e::es) [] cpos) (some (.Name x pos')) pos.line X.env=pure false:=by rfl) (hf:X.fn x=true\/X.env.scope.names.lookup x=some .local:=by first|exact .inl rfl|exact .inr rfl|assumption) :
  DX X cs E (.Assign [.Name x pos'] (.Call (.Name name p) (e::es) [] cpos) pos::sts) (fq m g):=by
 obtain⟨f,fd,F,hb,hk,hm⟩:=G.ex;exact⟨jE (jy (eL hN hi hx (xq F hr hg hm hk hb .nil hp ha.pe hdb he hpl) hs hf) vX) fun D σ H h=>fails hl h⟩
end
end
section
variable {P:Px}{w:PY}{K:Frag}{mg:Str->Option Pb}{base:Heap}{N:List Str}{qual:Str}{scope:Rj}{f:Addr}{cdv:Pb}{A:PZ}{outer:List Env}{s0:Pf}{H0:Hp}{E:XK}{cs:Nat->Addr}
theorem E4(G:XB0 K (cs c) R)(hm:mg cn=some (.ref (cs c)))(ht:DT (cw (CXo P w) P w K mg base N qual scope f cdv A outer s0 H0 E) e ft)
  (hg:Gl (cw (CXo P w) P w K mg base N qual scope f cdv A outer s0 H0 E) cn:=by rfl) (hdb:(cn == ("__debug__" : Str))=false:=by decide) :
  DX (cw (CXo P w) P w K mg base N qual scope f cdv A outer s0 H0 E) cs E (.If e [.Raise (some (.Call (.Name cn p) [.Constant (.str x) j p1] [] cpos)) none rpos] [] pos::sts) (mC ft c):=by
 refine⟨jE (jy (zX ht.pe (rK (El G.c (F7 G hg hm yQ hdb))) xl) vX) fun D σ H h=>?_⟩;obtain⟨O₀,H₀,F,ts,O,ρ,T,c',T',rs,e,q⟩:=h;unfold mC at e;obtain⟨b,T1,e1,e⟩:=aN e
 cases b with
 |false=>cases e
 |true=>
  cases e;refine⟨O,ts,ρ,T,true,_,rs.hc,rs.re,e1,fun H2 s2 hc2=>eW ?_⟩;refine fun a ge ha=>⟨a,none,rfl,ge,bo,?_⟩;rw[jt ha];exact q _ (rs.same.trans s2) (rs.step s2 hc2).frzH
end
def mkX(N:Nat)(m:FX):List W->Tp->Option (Nat×Tp):=fun ws T=>if cC ws=true then m (ws.map some++PC (N-ws.length) none) T else none
theorem Ba{P:Px}{w:PY}{K:Frag}{mg:Str->Option Pb}{base:Heap}{x qual:Str}{st:Stmt}{f:Addr}{fd:QQ}{N ps:List Str}{k:Nat}{m:FX}{cs:Nat->Addr}(F:Fun K x qual st f fd)(S:FnScope N ps (bh st))
  (hbody:∀(cdv:Pb) (A:PZ) (outer:List Env) (s:Pf) (H:Hp) (E:XK),Room k (A.deeper (Rx qual (bh st) s.heap.objs.size f cdv))->DX (cw (CXo P w) P w K mg base N qual (bh st) f cdv A outer s H E) cs E (cj st) m) :
  FnOk P w K mg base (CXo P w) (k+1) f fd ps (spF K ps.length cs (mkX N.length m)):=by
 obtain⟨oc,od,kV,doc,pm,an,cdv,ct,osl,rfl,lk,hcd⟩:=F.ex;refine Ah lk hcd S (fun vs H Q E h=>?_) fun A outer s H vs Q E hr h=>⟨_,(hbody cdv A outer s H E hr).pe,?_⟩
 .obtain⟨O,ts,T,ws,c,T',hc,rw',hl,_⟩:=h
  exact(Q5 rw').trans hl
 .obtain⟨O,ts,T,ws,c,T',hc,rw',hl,hn,e,q⟩:=h
  unfold mkX at e;rw[if_pos hn] at e;exact⟨O,H,[],ts,O,_,T,c,T',XE.Ed hc rw' hn,e,q⟩
end XO
namespace XO
open L2 D
open XE (Kp forget dE gq jt XCl vE XAt name_goes ul)
def XL(e C:Addr):Heap->Prop:=fun h=>∃vs,h.get? e=some { cls:=.ref C,dict:=none,data:=.fields vs }
theorem XL.ok(x:XL e C h):ObjOk P w H h e (.ext (XL e C)):=⟨x,let ⟨_,y⟩:=x;⟨_,y⟩,fun _ _ ⟨vs,y⟩ k=>⟨vs,k _ y⟩⟩
theorem XL.of(ok:HOk P w H h)(x:H e=some (.ext (XL e C))):XL e C h:=(ok _ _ x).1
inductive LiftYP(K:Frag)(cs:Nat->Addr)(E:XK)(f:FX)(σ:L2.St)(H:Hp):Prop where
 |mk (O₀:Addr->Prop) (H₀:Hp) (F:List ((Addr->Prop)×Hp)) (ts:List Addr) (O:Addr->Prop) (ρ:Rho) (T:Tp) (c:Nat) (T':Tp) (rs:RS K O₀ H₀ F ts O H σ ρ T) (e:f ρ T=some (c,T')) (q:∀H',RS K O₀ H₀ F ts O H' σ ρ T'->E (.ref (cs c)) none H'):LiftYP K cs E f σ H
theorem IZ{X:Cx}{cs:Nat->Addr}{m:List W->Tp->Option (Nat×Tp)}(hl:dQ g n)(h:LiftYP X.K cs E (fq m g) σ H):pI (spF X.K n cs m) [] E (pR X.K g) σ H Q:=by
 obtain⟨O₀,H₀,F,ts,O,ρ,T,c,T',rs,e,q⟩:=h;unfold fq at e;obtain⟨ws,T1,e1,e⟩:=aN e;split at e
 .rename_i hn
  refine⟨O,ts,ρ,T,ws,T1,rs.hc,rs.re,e1,fun vs H1 s1 hc1 r1=>?_⟩;show spF X.K n cs m (vs++[]) H1 Q E;rw[Qv];exact⟨O,ts,T1,ws,c,T',hc1,r1,hl _ _ _ _ e1,hn,e,fun H' s2 hc2=>q H' ((rs.step s1 hc1).step s2 hc2)⟩
 .cases e
structure DF(X:Cx)(cs:Nat->Addr)(body:List Stmt)(f:FX):Prop where
 pe:∀(pins:List (Addr×Obj)) (s:Pf) (σ:L2.St) (H:Hp) (Eh:XK),L2.Inv X pins σ H s->LiftYP X.K cs Eh f σ H->PP (PX X.prog X.w) X.A (execs body X.env) (fun _ _=>False) (fun v s'=>∃H1 s1,L2.Inv X pins σ H1 s1/\CXo X.prog X.w X.stack H1 s1 Eh v s') s
def me(f:FT)(a b:FX):FX:=fun ρ T=>bnd (f ρ T) fun c T1=>if c=true then a ρ T1 else b ρ T1
section
variable {X:Cx}{cs:Nat->Addr}
theorem KL(ht:DT X.nox e ft)(ha:DF X cs a fa)(hb:DF X cs b fb):DF X cs [.If e a b pos] (me ft fa fb):=by
 refine⟨fun pins s σ H Eh I h=>?_⟩;obtain⟨O₀,H₀,F,ts,O,ρ,T,c,T',rs,e,q⟩:=h;unfold me at e;obtain⟨d,T1,e1,e⟩:=aN e;refine SW (wpAny_If (QT (ht.pe pins s σ H (fun d' H1=>d'=d/\RS X.K O₀ H₀ F ts O H1 σ ρ T1) (I.wish _) ⟨O,ts,ρ,T,d,T1,rs.hc,rs.re,e1,fun H1 s1 hc1=>⟨rfl,rs.step s1 hc1⟩⟩) (fun d' s1 ⟨H1,I1,e2,rs1⟩=>?_) fun _ _ z=>Qw z));subst e2
 cases d' with
 |true=>exact QT (ha.pe pins s1 σ H1 Eh I1.unwish ⟨O₀,H₀,F,ts,O,ρ,T1,c,T',rs1,by simpa using e,q⟩) (fun _ _ z=>Qw z) fun _ _ z=>z
 |false=>exact QT (hb.pe pins s1 σ H1 Eh I1.unwish ⟨O₀,H₀,F,ts,O,ρ,T1,c,T',rs1,by simpa using e,q⟩) (fun _ _ z=>Qw z) fun _ _ z=>z
def hnd(X:Cx)(e:Addr):Cx:={ X with A:=X.A.mark (some (.ref e)),calm:=false,xe:=fun _ _=>False }
theorem IV(ok:X.Ok):(hnd X e).Ok:=⟨ok.mod,ok.kind,ok.glob,ok.blt,ok.above,ok.inj,ok.has,ok.cab,fun z=>(nomatch z),ok.frames,ok.stk,ok.exf,ok.bs,ok.bsz,ok.noex,ok.exfs,ok.funs,ok.frf⟩
theorem xX(I:L2.Inv X pins σ H s):L2.Inv (hnd X e) pins σ H s:=⟨IV I.ok,I.os,I.bare,I.base,I.loc,I.cell,I.free,I.freeC,I.pin,I.hok,I.len⟩
theorem nz(ok:X.Ok)(I:L2.Inv (hnd X e) pins σ H s):L2.Inv X pins σ H s:=⟨ok,I.os,I.bare,I.base,I.loc,I.cell,I.free,I.freeC,I.pin,I.hok,I.len⟩
theorem known(I1:L2.Inv X pins σ H1 s1)(ho:s6.os=s1.os)(bare:S2 s6.gens)(un:Un (frs X.stack) [] H1 H2 s1.heap s6.heap)(hok:HOk X.prog X.w H2 s6.heap)(ge:s1.heap.objs.size<=a)(fa:H2 a=none)(x:XL a C s6.heap) :
  L2.Inv X pins σ (upd H2 a (.ext (XL a C))) s6:=by
 have up:∀{c:Addr}{u:HO},H2 c=some u->upd H2 a (.ext (XL a C)) c=some u:=fun {c u} e=>(aR (fun z=>by rw[z,fa] at e;cases e)).trans e;refine I1.call' (ch:=[]) ho ⟨un.keep,un.slot,fun b o q n m=>?_,un.there,fun b xs e=>up (un.tups b xs e),fun b o u e=>up (un.frzs b o u e),fun b ps e=>?_⟩ (fun b o e=>?_) bare (fun b z=>absurd z (by simp))
 .exact(aR (PK (Py (Pn q) ge))).trans (un.free b o q n m)
 .obtain⟨more,z⟩:=un.tbls b ps e
  exact⟨more,up z⟩
 .by_cases hb:b=a
  .subst hb
   rw[bo] at e;cases e;exact x.ok
  .rw[aR hb] at e
   exact(hok b o e).stay (fun _ _ _ q=>q) (fun _ q=>up q) fun _ _ q=>up q
def JN(K:Frag)(cs:Nat->Addr)(n i:Nat)(f:FX)(ts:Addr->TS):TS:=fun D σ H=>LiftYP K cs (fun cv od H2=>∃c,c<n/\cv=.ref (cs c)/\od=none /\
 ∀e,H2 e=none->ts e { nx:=fun σ'=>D.nx (σ'.set i none),rt:=D.rt,bk:=fun σ'=>D.bk (σ'.set i none),ct:=fun σ'=>D.ct (σ'.set i none) } (σ.set i (some (.ref e))) (upd H2 e (.ext (XL e (cs c))))) f σ H
theorem F2{ts:Addr->TS}(hB:DF X cs body f)(c:∀j,j<k->XCl X.K (cs j) (.ref R::vE))(r:XCl X.K R vE)(hgR:Gl X rn)(hmR:X.mg rn=some (.ref R))(hN:X.N.Nodup)(hs:∀e,PSs (hnd X e) (b0::suite) (ts e))
  (hi:X.N[i]? = some n:=by rfl) (hl:X.env.scope.names.lookup n=some .local:=by rfl) (hfr:X.env.frame=some X.env.locals:=by rfl) (hst:X.stack=X.env::X.outer:=by rfl) (hdR:(rn == ("__debug__" : Str))=false:=by decide) :
  PS X (.Try body [.ExceptHandler (some (.Name rn p2)) (some n) (b0::suite) hpos] [] [] pos) (JN X.K cs k i f ts):=by
 intro pins s σ H D I h;refine wpAny_Try_except (QT (hB.pe pins s σ H _ I h) (fun _ _ z=>Qw z) fun x s2 hx=>?_);obtain⟨H1,s1,I1,hq⟩:=hx;obtain⟨a,C',dx,T,H2,rfl,os2,bare2,un2,hok2,ge,geT,neT,xr,tb,fe,fT,cc,ck,ec,ed,qx⟩:=hq;cases ec;cases ed;have I2:L2.Inv X pins σ H2 s2:=I1.call' (ch:=[]) os2 un2 hok2 bare2 (fun b z=>absurd z (by simp));have st:=I2.env0;have neL:∀y,s1.heap.objs.size<=y->y≠X.env.locals:=fun y hy z=>Qr _ (Py (z ▸ I1.lt) hy)
 have nef:∀y,s1.heap.objs.size<=y->y∉frs X.stack:=fun y hy z=>by
  obtain⟨_,o,ho,_⟩:=I1.stack.mem z;exact Qr _ (Py (Pn ho) hy)
 have goU:∀(xs:List Addr) (h':Heap),(∀y∈xs,s1.heap.get? y=none/\H2 y=none)->Kp xs (frs X.stack) s2.heap h'->Un (frs X.stack) [] H1 H2 s1.heap h'/\HOk X.prog X.w H2 h':=fun xs h' nx kp=>by
  have lt:∀{b:Addr}{o:Obj},s1.heap.get? b=some o->b∉xs:=fun q z=>by rw[(nx _ z).1] at q;cases q
  refine⟨⟨fun b o q n m _=>?_,fun b o q n m _=>?_,un2.free,fun b o q _=>?_,un2.tups,un2.frzs,un2.tbls⟩,fun b o e=>?_⟩
  .exact kp.keep b o (un2.keep b o q n m (by simp)) (lt q) m
  .obtain⟨sl,e1⟩:=un2.slot b o q n m (by simp)
   obtain⟨sl',e2⟩:=kp.slot b _ e1 (lt q) m;exact⟨sl',e2⟩
  .obtain⟨o',e1⟩:=un2.there b o q (by simp)
   exact kp.there b o' e1
  .refine(hok2 b o e).stay (fun c' u hc q=>?_) (fun _ q=>q) fun _ _ q=>q
   have tr:∃v,H2 c'=some v:=by
    rcases hc with rfl|hc
    .exact⟨_,e⟩
    .exact⟨_,hc⟩
   obtain⟨v,tr⟩:=tr;refine kp.keep c' u q (fun z=>?_) fun z=>?_
   .rw[(nx c' z).2] at tr;cases tr
   .rw[I2.stkFree c' z] at tr;cases tr
 have go:∀(xs:List Addr) (h':Heap),(∀y∈xs,s1.heap.get? y=none/\H2 y=none)->Kp xs (frs X.stack) s2.heap h'->L2.Inv X pins σ H2 { s2 with heap:=h' }:=fun xs h' nx kp=>I1.call' (ch:=[]) (s':={ s2 with heap:=h' }) os2 (goU xs h' nx kp).1 (goU xs h' nx kp).2 bare2 (fun b z=>absurd z (by simp))
 have frs':X.A.frames=some (X.env::X.outer):=by rw[←hst];exact st.frames
 have funs':s2.heap.FunFrames X.base (X.env::X.outer):=by rw[←hst];exact st.funs
 refine xy (base:=X.base) (outer:=X.outer) (L:=X.env.locals) frs' funs' hfr xr tb neT fun h3 T3 g1 g2 g3 g4 g5=>?_;rw[←hst] at g5;have fT3:H2 T3=none:=hok2.fresh g1;refine sJ g2 g3 g4 fun h4 j1 j2 j3=>?_;have wid:∀{x:Addr}{u v:Heap},Kp [x] [] u v->Kp [x] (frs X.stack) u v:=fun k=>⟨fun b o q n _=>k.keep b o q n (by simp),fun b o q n _=>⟨o.slots,k.keep b o q n (by simp)⟩,k.there⟩;have kp4:Kp [a,T,T3] (frs X.stack) s2.heap h4:=(g5.more fun x hx=>by simp at hx;rcases hx with z|z <;> simp[z]).trans ((wid j3).more fun x hx=>by simp at hx;simp[hx])
 have nx:∀y∈[a,T,T3],s1.heap.get? y=none/\H2 y=none:=fun y hy=>by
  simp at hy
  rcases hy with rfl|rfl|rfl
  .exact⟨S4 ge,fe⟩
  .exact⟨S4 geT,fT⟩
  .refine⟨?_,fT3⟩
   cases z:s1.heap.get? y with
   |none=>rfl
   |some o=>
    obtain⟨o',e1⟩:=un2.there y o z (by simp);exact absurd (Pn e1) (Nat.not_lt.mpr g1)
 have I4:=go _ h4 nx kp4;obtain⟨t4,he4⟩:=id j1;have I5:L2.Inv (hnd X a) pins σ H2 { s2 with heap:=h4 }:=xX I4;refine wpAny_handleBy_cons (codeAny_handlers_test ?_) (by intro z;cases z);refine lD (X:=hnd X a) I5 hgR hmR ?_ hdR;refine XE.C8 I5.kIn (c cc ck) r he4 rfl ?_;refine codeAny_handlers_suite_as ?_;refine sJ j1 j2 g4 fun h6 l1 l2 l3=>?_;have u6:=goU _ h6 nx (kp4.trans ((wid l3).more fun x hx=>by simp at hx;simp[hx]));have he6:XL a (cs cc) h6:=⟨_,l3.keep a _ he4 (by simp;exact g4.symm) (by simp)⟩;have I7:L2.Inv (hnd X a) pins σ (upd H2 a (.ext (XL a (cs cc)))) { s2 with heap:=h6 }:=xX (known (s6:={ s2 with heap:=h6 }) I1 os2 bare2 u6.1 u6.2 ge fe he6);refine nq (X:=hnd X a) (i:=i) (v:=.ref a) I7 hN hi (.inl hl) rfl (fun s8 I8=>?_) (.inr hl);refine QT (hs a pins s8 _ _ _ I8 (qx a fe)) (fun f s9 sp9=>?_) fun _ _ z=>Qw z;show PP _ _ (do bindName X.env n .none;S8 X.env n hpos) _ _ _
 cases f with
 |next=>
  obtain⟨σ9,H9,I9,q9⟩:=sp9;exact name_goes (nz I.ok I9) hN hi hl fun s' I'=>⟨_,_,I',q9⟩
 |brk=>
  obtain⟨σ9,H9,I9,q9⟩:=sp9;exact name_goes (nz I.ok I9) hN hi hl fun s' I'=>⟨_,_,I',q9⟩
 |cont=>
  obtain⟨σ9,H9,I9,q9⟩:=sp9;exact name_goes (nz I.ok I9) hN hi hl fun s' I'=>⟨_,_,I',q9⟩
 |ret u=>
  obtain⟨v9,σ9,H9,I9,r9,q9⟩:=sp9;exact name_goes (nz I.ok I9) hN hi hl fun s' I'=>⟨_,_,_,I',r9,q9⟩
end
end XO
namespace D
open L2
end D
namespace XO
open L2 D
open XE (Kp forget dE gq jt XCl vE XAt name_goes ul)
section
variable {X:Cx}{cs:Nat->Addr}
end
end XO
namespace XO
open L2 D
open XE (XCl vE lT)
theorem fnX{P:Px}{w:PY}{K:Frag}{mg:Str->Option Pb}{base h:Heap}{name:Str}{st:Stmt}{ps:List Str}{k:Nat}{sp:Sp}(d:Df K name st)(X:K.In h)(G:h.Ns P3 mg)
  (hb:∀(kV doc pm:Pb) (an:Option Addr) (cdv ct:Pb) (us:List Pb),us.length=ps.length->TN (QB name name (dG st) (cj st) (bh st) .none kV doc pm an cdv ct) ⟨us,[]⟩=pure (ps.zip us))
  (ok:∀f fd,Fun K name name st f fd->FnOk P w K mg base (CXo P w) k f fd ps sp):FnX P w K mg base name ps k sp:=by
 obtain⟨f,oc,od,an,sl,kV,dc,pm,cd,ct,a,l,c,kp⟩:=d.ex;have F:=sM (st:=st) l c kp;exact⟨f,_,ok f _ F,F.binds hb,kp,Q8 X G a⟩
end XO
namespace XO
open L2
open XE (XIs)
section
variable {prog:Px}{w:PY}{A:PZ}{E:Pb->Pf->Prop}{h:Heap}{g:Array Uz}{d:X5}{t:Nat}{os:W3}{K:Frag}{C R x:Addr}{ox:Obj}{od:Option Obj}{name:Str}
theorem EY{a g:Pb}(hc:(Sk K C).isSome=true)(ha:P4 K (.ref C) name=some (some a))(hg:RD K a "__get__"=some (some g))(ht:Sl K a=some true):Vd K C none name=some (.bind g a):=by
 obtain⟨cd,e⟩:=Qh.mp hc;simp[Vd,e,ha,hg,ht]
theorem JG(hbm:RF K C (.type "BaseException")=some true)(hgt:P4 K (.ref C) "__getattr__"=some none)(hga:P4 K (.ref C) "__getattribute__"=some (some (.builtin "BaseException.__getattribute__")))
  (hc:(Sk K C).isSome=true) (ha:P4 K (.ref C) "__class__"=some (some (.builtin "object.__class__"))) (hn:RD K (.builtin "object.__class__") "__get__"=some (some (.builtin "getset_descriptor.__get__")))
  (htk:Sl K (.builtin "object.__class__")=some true) (hm:RF K C (.type "object")=some true) (X:K.In h) (I:SD h x ox C none) (k:Q (some (.ref C)) ⟨h,g,d,t+1,os⟩) :
  PP (PX prog w) A (Xk (.ref x) "__class__") Q E ⟨h,g,d,t,os⟩:=by
 have hf:Vd K C none "__class__"=some (.bind (.builtin "getset_descriptor.__get__") (.builtin "object.__class__")):=EY hc ha hn htk;have L0:=I.type (M:=PX prog w);have L1:=S9 (M:=PX prog w) X hga;have L2:=PySem.W.looks_find (M:=PX prog w) X I hf;have f3:=T8.ga.bind (.ref x);unfold Xk getAttrBy? getAttrBy;refine Pd (wpAny_mkText (Pd (wpAny_attempt (QJ (Pd (L0.at (Pd (L1.at ?_))))))))
 repeat (any_goals (first|assumption|wp_step))
 refine S9 X hgt _ _ _ _ (fun _ _ e=>e) ?_
 repeat (any_goals (first|assumption|wp_step))
 refine XE.D3 hbm X I ?_;unfold SN.«object.__getattribute__»;refine Pd (Pw (Pd (Pw (Pd (L0.here (Pd (L2.here ?_)))))));show PP _ _ (Ub _ _ _ _) _ _ _;unfold Ub
 repeat wp_step
 refine PySem.W.class_get X I hm ?_;refine Pw ?_;show PP _ _ (handedOut (.ref C)) _ _ _;rw[PySem.W.handedOut_of (v:=.ref C) rfl];exact Pw (Pw k)
theorem AV(q:XIs K C):PySem.W.KitX K (.ref x) (.ref C) (fun h=>SD h x ox C none) where
 ty:=fun _ _ _ I=>I.type
 it:=fun _ _ X _=>by
  obtain⟨cd,hcd⟩:=Qh.mp q.hc;unfold Sk at hcd;split at hcd
  .rename_i c' d' cd' sl' ho
   intro A' Q' E' s' k q;unfold isType loadHead;exact Pd (wpAny_loadPart (k _ _ (X _ _ ho)) (Pw q))
  .cases hcd
 ne:=fun h tp dd its n sl X htp=>by
  obtain⟨cd,hcd⟩:=Qh.mp q.hc;refine Wl.mpr fun z=>?_;have e:C=tp:=Value.ref.inj (beq_iff_eq.mp z);subst e;unfold Sk at hcd;split at hcd
  .rename_i c' d' cd' sl' ho
   cases (X _ _ ho).symm.trans htp
  .cases hcd
 ca:=fun {_ _ _ _ _ s} X I k=>by
  obtain⟨h,g,d,t,os⟩:=s;exact JG q.bm q.gt q.ga q.hc q.ca q.hn q.tk q.hm X I k
end
section
variable {X:Cx}{C e:Addr}
theorem Kw(I:L2.Inv X pins σ H s)(h:H e=some (.ext (XL e C))):∃oe,SD s.heap e oe C none:=by
 obtain⟨vs,y⟩:=XL.of I.hok h;exact⟨_,y,rfl,rfl,trivial⟩
theorem rC(is:XIs X.K C):CallR X (.builtin "isinstance") fun xs H Q=>∃v b,xs=[.ref e,v]/\H e=some (.ext (XL e C))/\((∀u,RelV v u->P6 X.K (.ref C) u=some b)\/∃tp ws,v=.ref tp/\H tp=some (.tup ws)/\∀us,Vals ws us->SO X.K (.ref C) us=some b)/\Q (.bl b) H:=by
 intro pins s σ H xs us Q I r h;obtain⟨v,b,rfl,hx,hk,q⟩:=h;obtain⟨u,w',rfl,ru,rw'⟩:=vals2 r;cases (show u=PJ e from ru);obtain⟨oe,inst⟩:=Kw I hx;have fin:∀tk,EP X pins σ Q (.bool b) { s with toks:=tk }:=fun tk=>⟨.bl _,H,I.tok _,rfl,q⟩
 rcases hk with hk|⟨tp,ws,rfl,ht,hk⟩
 .exact Qk (AV is) I.kIn inst (hk _ rw') (fun z=>nomatch z) fin
 .cases (show w'=PJ tp from rw')
  obtain⟨_,its,rv,⟨dd,c',n,sl⟩,e0,e1,m,e2⟩:=(show ObjOk X.prog X.w H s.heap tp (.tup ws) from I.hok tp _ ht);dsimp only at e1 e2;subst e1 e2;exact PySem.W.kia_tup (AV is) I.kIn inst e0 (hk _ rv) (fun z=>nomatch z) fin
end
end XO
namespace XO
open L2 D
open XE (XCl vE XIs lT)
def KN(K:Frag)(C A:Addr):Prop:=P6 K (.ref C) (.ref A)=some false
theorem Ku{K:Frag}{C A:Addr}(h1:Th K A=true)(h2:Vv K (.ref A)=some (.type "type"))(h3:S3 K (.ref C) (.ref A)=some false)(h4:(PJ C == PJ A)=false):KN K C A:=XE.IF h1 h2 h3 h4
theorem EM{K:Frag}{C:Addr}:P6 K (.ref C) (.ref C)=some true:=by
 unfold P6;rw[if_pos (by simp)]
theorem qY{K:Frag}{C:Addr}:∀{As:List Addr},(∀a∈As,KN K C a)->SO K (.ref C) (As.map PJ)=some false
 |[],_=>rfl
 |a::r,h=>by
  have h1:P6 K (.ref C) (.ref a)=some false:=h a Pi;simp only[List.map,SO,h1];exact qY fun x hx=>h x (Pg _ hx)
structure XJ(K:Frag)(C R:Addr):Prop where
 b:XB0 K C R
 is:XIs K C
 kv:P6 K (.ref C) (.type "ValueError")=some true
theorem JF{K:Frag}{C R:Addr}{nm q nm' q':Str}{N N':Addr}{bs bs' sub sub':List Pb}{sn sn':List Str}{ab ab':Bool}{col col':Option Bool}{dd dd':Option Addr}{k0 k1 k2 k3 k5 j0 j1 j2 j3 j5:Option Pb}{oN oN':Obj}
  (lC:K.lookup C=some (WQ nm q C N bs (.ref R::vE) true sn sub ab col dd k0 k1 k2 k3 k5 "ValueError.__new__")) (nC:K.lookup N=some oN)
  (lR:K.lookup R=some (WQ nm' q' R N' bs' vE true sn' sub' ab' col' dd' j0 j1 j2 j3 j5 "ValueError.__new__")) (nR:K.lookup N'=some oN') (ri:Qo K N' "__init__"=some none) (ci:P4 K (.ref C) "__init__"=some (some (.builtin "ValueError.__init__"))) (kp:Qm K (.ref C)=true)
  (bm:RF K C (.type "BaseException")=some true) (gt:P4 K (.ref C) "__getattr__"=some none) (ga:P4 K (.ref C) "__getattribute__"=some (some (.builtin "BaseException.__getattribute__")))
  (ca:P4 K (.ref C) "__class__"=some (some (.builtin "object.__class__"))) (hn:RD K (.builtin "object.__class__") "__get__"=some (some (.builtin "getset_descriptor.__get__")))
  (tk:Sl K (.builtin "object.__class__")=some true) (hm:RF K C (.type "object")=some true) (kV:S3 K (.ref C) (.type "ValueError")=some true) (oC:lT oN=true) (oR:lT oN'=true):XJ K C R:=by
 have no:∀{N:Addr}{o:Obj},K.lookup N=some o->lT o=true->Vu K N=true:=fun {N o} h1 h2=>by
  obtain⟨oc,od,dt,sl⟩:=o;unfold Vu;rw[h1]
  cases dt with
  |dict es ep=>
   have h3:(es.toList.all fun e=>match e.key with
    |.str _ _=>true
    | _=>false)=true:=h2
   rw[UO] at h3;exact h3
  |_=>cases h2
 refine⟨⟨⟨_,_,_,_,_,_,_,_,_,_,_,_,_,_,lC,no nC oC⟩,⟨_,_,_,_,_,_,_,_,_,_,_,_,_,_,lR,no nR oR⟩,ci,?_,kp⟩,⟨bm,gt,ga,?_,ca,hn,tk,hm⟩,XE.IE kV⟩
 .simp only[RJ]
  rw[lR];exact ri
 .unfold Sk
  rw[lC];rfl
section
variable {X:Cx}{C e:Addr}
def qd(i:Nat)(e C:Addr)(v:V):TE:=fun σ H Q=>σ[i]? = some (some (.ref e))/\H e=some (.ext (XL e C))/\Q v H
theorem Ic(is:XIs X.K C)(hv:PE X (.Name n p1) (je i))(hg:Gl X "isinstance")(hi:X.mg "isinstance"=none)(hgD:Gl X cn)(hm:X.mg cn=some (.ref D))(hk:P6 X.K (.ref C) (.ref D)=some b)
  (hd:(cn == ("__debug__" : Str))=false:=by decide) (hs:Pk [.Name n p1,.Name cn p2] X.env=[(false,eval (.Name n p1) X.env),(false,eval (.Name cn p2) X.env)]:=by rfl) (hs2:Pk [.Name cn p2] X.env=[(false,eval (.Name cn p2) X.env)]:=by rfl) :
  PE X (.Call (.Name "isinstance" p) [.Name n p1,.Name cn p2] [] pos) (qd i e C (.bl b)):=by
 refine Internal.D.pe_imp (kW (rC (e:=e) is) hg hi Ri (bw hv (bw (c4 (v:=.ref D) hgD hm rfl hd) cG (by rw[hs2];rfl)) (by rw[hs,hs2])) (by decide) (by decide) (by rw[hs,hs2]) (by rw[hs2];rfl)) fun σ H Q ⟨h0,hx,q⟩=>?_;exact⟨_,h0,.ref D,b,rfl,hx,.inl fun u hu=>by cases (show u=PJ D from hu);exact hk,q⟩
theorem F9(is:XIs X.K C)(hv:PE X (.Name n p1) (je i))(hg:Gl X "isinstance")(hi:X.mg "isinstance"=none)(hgT:Gl X "ValueError")(hm:X.mg "ValueError"=none)(hk:P6 X.K (.ref C) (.type "ValueError")=some b)
  (hs:Pk [.Name n p1,.Name "ValueError" p2] X.env=[(false,eval (.Name n p1) X.env),(false,eval (.Name "ValueError" p2) X.env)]:=by rfl) (hs2:Pk [.Name "ValueError" p2] X.env=[(false,eval (.Name "ValueError" p2) X.env)]:=by rfl) :
  PE X (.Call (.Name "isinstance" p) [.Name n p1,.Name "ValueError" p2] [] pos) (qd i e C (.bl b)):=by
 refine Internal.D.pe_imp (kW (rC (e:=e) is) hg hi Ri (bw hv (bw (xt (v:=.ty "ValueError") hgT hm (by first|rfl|decide +kernel) rfl) cG (by rw[hs2];rfl)) (by rw[hs,hs2])) (by decide) (by decide) (by rw[hs,hs2]) (by rw[hs2];rfl)) fun σ H Q ⟨h0,hx,q⟩=>?_;exact⟨_,h0,.ty "ValueError",b,rfl,hx,.inl fun u hu=>by cases (show u=Sr "ValueError" from hu);exact hk,q⟩
def sW(i:Nat)(e C:Addr)(v:V)(ws:List V):TE:=fun σ H Q=>σ[i]? = some (some (.ref e))/\H e=some (.ext (XL e C))/\∀p,H p=none->Q v (upd H p (.tup ws))
theorem xp{Ds:List Addr}(is:XIs X.K C)(hv:PE X (.Name n p1) (je i))(hg:Gl X "isinstance")(hi:X.mg "isinstance"=none)(ht:PA X es ta)(hta:∀σ H Q,Q (Ds.map V.ref) H->ta σ H Q)
  (hz:Ds.length<=100) (hk:SO X.K (.ref C) (Ds.map PJ)=some b) (hs:Pk [.Name n p1,.Tuple es k tpos] X.env=[(false,eval (.Name n p1) X.env),(false,eval (.Tuple es k tpos) X.env)]:=by rfl) (hs2:Pk [.Tuple es k tpos] X.env=[(false,eval (.Tuple es k tpos) X.env)]:=by rfl) :
  PE X (.Call (.Name "isinstance" p) [.Name n p1,.Tuple es k tpos] [] pos) (sW i e C (.bl b) (Ds.map V.ref)):=by
 refine Internal.D.pe_imp (kW (rC (e:=e) is) hg hi Ri (bw hv (bw (yP ht) cG (by rw[hs2];rfl)) (by rw[hs,hs2])) (by decide) (by decide) (by rw[hs,hs2]) (by rw[hs2];rfl)) fun σ H Q ⟨h0,hx,q⟩=>?_;refine⟨_,h0,hta σ H _ ⟨by rw[Qb];exact PL hz (by decide),fun tp htp=>?_⟩⟩;refine⟨.ref tp,b,rfl,by rw[aR (c6 hx htp)];exact hx,.inr ⟨tp,_,rfl,bo,fun us hu=>?_⟩,q tp htp⟩;rw[XE.uS hu];exact hk
end
end XO
namespace XO
open L2 D
open XE (XCl vE)
theorem FN{K:Frag}{O₀ O:Addr->Prop}{H₀ H:Hp}{F:List ((Addr->Prop)×Hp)}{ts:List Addr}{σ:L2.St}{ρ:Rho}{T:Tp}{i:Nat}(r:RS K O₀ H₀ F ts O H σ ρ T)(h:ρ[i]? = some none):RS K O₀ H₀ F ts O H (σ.set i none) ρ T:=by
 have ne:∀{j:Nat}{w:W},ρ[j]? = some (some w)->i≠j:=fun {j w} e z=>by rw[←z,h] at e;cases e
 refine⟨r.hc,fun j w e=>?_,r.sub,r.ots,r.same,fun j xs a e1 e2=>?_,fun j k xs ys v e1 e2 e3 e4=>?_,r.frs,by rw[WS];exact r.len⟩
 .rw[Pj (ne e)]
  exact r.re j w e
 .rw[Pj (ne e1)] at e2
  exact r.fresh j xs a e1 e2
 .rw[Pj (ne e1)] at e3
  rw[Pj (ne e2)] at e4;exact r.dist j k xs ys v e1 e2 e3 e4
section
variable {X:Cx}{cs:Nat->Addr}
theorem yj(G:FnX X.prog X.w X.K X.mg X.base name ps k (spF X.K ps.length cs m))(hr:Room k X.A)(hg:Gl X name)(ha:DA X.nox (e::es) g)(hl:dQ g ps.length)(hdb:(name == ("__debug__" : Str))=false:=by decide)
  (he:Pk (e::es) X.env=(false,eval e X.env)::Pk es X.env:=by exact bc rfl) (hpl:(Qg cpos (Pk es X.env)).any (·.1)=false:=by exact bN rfl)
  (hs:QL (.Call (.Name name p) (e::es) [] cpos) none pos.line X.env=pure false:=by rfl) :
  DF X cs [.Expr (.Call (.Name name p) (e::es) [] cpos) pos] (fq m g):=by
 refine⟨fun pins s σ H Eh I h=>?_⟩;obtain⟨f,fd,F,hb,hk,hm⟩:=G.ex;have h2:=IZ (X:=X) (Q:=fun _ _=>False) hl h;refine SW (wpAny_Expr_any ?_ I.quiet hs);refine Rp (lD I hg hm ?_ hdb);refine TQ (h₀:=X.base) I.ok.mod.kin hk ?_ he hpl;refine QT (ha.pe cpos pins s σ H _ (I.wish _) h2) (fun us s1 ⟨vs,H1,I1',rv,q⟩=>?_) fun _ _ z=>Qw z;have I1:L2.Inv X pins σ H1 s1:=I1'.unwish;refine⟨I1.kIn,?_⟩;have q:spF X.K ps.length cs m (vs++[]) H1 (fun _ _=>False) Eh:=q;rw[Qv] at q
 have hlen:us.length=ps.length:=by rw[←rv.length];exact F.len _ _ _ _ q
 refine VU (UT (F.run X.A X.stack s1 H1 ⟨us,[]⟩ us vs _ _ hr I1.env0 (by simpa using hb s1 us I1.kIn (by simpa using hlen)) rv q) fun res s2 hq=>?_)
 cases res with
 |ok fl=>
  cases fl with
  |ret u=>
   obtain⟨v,H2,I2,r2,q2⟩:=I1.after hq;exact Qw q2
  |next=>exact Qw hq
  |brk=>exact Qw hq
  |cont=>exact Qw hq
 |error x=>exact⟨H1,s1,I1,hq⟩
def ma(i j:Nat)(x:FX):FS:=fun ρ T=>bnd (x ρ T) fun c T1=>match ρ[j]? with
 |some none=>if c=0/\i<ρ.length then some ((.nx,ρ.set i (some (.d (.bool true)))),T1) else none
 |_=>none
def tsE(i j:Nat)(e C:Addr)(D1 D2:List Addr):TS:=tJ (mr (pJ (qd j e C (.bl true)) (qd j e C (.bl true))) (l7 i)) (tJ (mr (pJ (je i) (sV (sW j e C (.bl false) (D1.map V.ref)))) (l7 i)) (mr (pJ (je i) (sV (sW j e C (.bl false) (D2.map V.ref)))) (l7 i)))
theorem G3(hij:i≠j)(hB:DF X cs body x)(c:XCl X.K (cs 0) (.ref R::vE))(r:XCl X.K R vE)(hmR:X.mg rn=some (.ref R))(hN:X.N.Nodup)(hs:∀e,PSs (hnd X e) (b0::suite) (tsE i j e (cs 0) D1 D2))
  (hgR:Gl X rn:=by rfl) (hi:X.N[j]? = some n:=by rfl) (hl:X.env.scope.names.lookup n=some .local:=by rfl) (hfr:X.env.frame=some X.env.locals:=by rfl) (hst:X.stack=X.env::X.outer:=by rfl) (hdR:(rn == ("__debug__" : Str))=false:=by decide) :
  DS X (.Try body [.ExceptHandler (some (.Name rn p2)) (some n) (b0::suite) hpos] [] [] pos) (ma i j x):=by
 refine⟨fun pins s σ H D I q=>?_⟩;obtain⟨O₀,H₀,F,ts,O,ρ,T,fl,ρ',T',rs,e,q⟩:=q;unfold ma at e;obtain⟨c1,T1,e1,e⟩:=aN e;split at e
 .rename_i hj
  split at e
  rotate_left
  .cases e
  rename_i hz;obtain⟨hz0,hil⟩:=hz;subst hz0;cases e;refine F2 (k:=1) (i:=j) hB (fun k hk=>by cases (Nat.lt_one_iff.mp hk);exact c) r hgR hmR hN hs hi hl hfr hst hdR pins s σ H D I ⟨O₀,H₀,F,ts,O,ρ,T,0,_,rs,e1,fun H3 rs3=>⟨0,by decide,rfl,rfl,fun a ha=>?_⟩⟩;have lj:j<ρ.length:=(Ph.mp hj).1;have sl:σ.length=ρ.length:=rs.len;have g1:(σ.set j (some (V.ref a)))[j]? = some (some (.ref a)):=Pv (by omega);have g2:∀v w:Option V,((σ.set j v).set i w)[j]? = (σ.set j v)[j]?:=fun v w=>Pj hij;have g3:∀(τ:L2.St) (w:Option V),τ.length=σ.length->(τ.set i w)[i]? = some w:=fun τ w h=>Pv (by omega);refine⟨g1,bo,true,rfl,eW ⟨g1,bo,?_⟩⟩;refine⟨.bl true,g3 _ _ (by simp),true,rfl,eW ⟨(g2 _ _).trans g1,bo,fun p hp=>⟨false,rfl,?_⟩⟩⟩;refine⟨.bl true,g3 _ _ (by simp),true,rfl,eW ⟨?_,(aR (c6 bo hp)).trans bo,fun p2 hp2=>⟨false,rfl,?_⟩⟩⟩
  .rw[Pj hij]
   exact(g2 _ _).trans g1
  .have r1:=((rs3.step ((SameX.new ha (.ext (XL a (cs 0)))).trans ((SameX.new hp (.tup (D1.map V.ref))).trans (SameX.new hp2 (.tup (D2.map V.ref))))) (((rs3.hc.new ha (.ext (XL a (cs 0)))).new hp (.tup (D1.map V.ref))).new hp2 (.tup (D2.map V.ref)))).unset (i:=j) (v:=.ref a))
   have r2:=r1.set (i:=i) (v:=.bl true) (w:=.d (.bool true)) (.bl _) (fun _ z=>nomatch z);have r3:=r2.set (i:=i) (v:=.bl true) (w:=.d (.bool true)) (.bl _) (fun _ z=>nomatch z);have r4:=r3.set (i:=i) (v:=.bl true) (w:=.d (.bool true)) (.bl _) (fun _ z=>nomatch z)
   have ej:ρ.set j none=ρ:=We fun k=>by
    by_cases hk:j=k
    .subst hk
     rw[Pv lj,hj]
    .rw[Pj hk]
   have er:∀b:Option W,(((ρ.set j none).set i b).set i b).set i b=ρ.set i b:=fun b=>by rw[ej,Yq,Yq]
   rw[er] at r4;have r5:=FN (i:=j) r4 (by rw[Pj hij];exact hj);exact q _ _ _ r5
 .cases e
end
theorem AU{K:Frag}{C:Addr}:∀a∈([]:List Addr),KN K C a:=fun _ h=>nomatch h
theorem d9{K:Frag}{C x:Addr}{l:List Addr}(h:KN K C x)(r:∀a∈l,KN K C a):∀a∈x::l,KN K C a:=fun a ha=>by
 rcases Pt.mp ha with rfl|z
 .exact h
 .exact r a z
def NL(K:Frag)(C:Addr):List Str->Prop
 |[]=>True
 |x::r=>(∃A,Qo K P3 x=some (some (.ref A))/\KN K C A)/\NL K C r
theorem Gm{K:Frag}{C A:Addr}{x:Str}{r:List Str}(q:Qo K P3 x=some (some (.ref A)))(h1:Th K A=true)(h2:Vv K (.ref A)=some (.type "type"))(h3:S3 K (.ref C) (.ref A)=some false)(h4:(PJ C == PJ A)=false)(l:NL K C r):NL K C (x::r):=⟨⟨A,q,Ku h1 h2 h3 h4⟩,l⟩
def NM(K:Frag)(mg:Str->Option Pb)(C:Addr):List Str->Prop
 |[]=>True
 |x::r=>(∃A,mg x=some (.ref A)/\KN K C A)/\NM K mg C r
theorem z8{K:Frag}{h:Heap}{mg:Str->Option Pb}(X:K.In h)(G:h.Ns P3 mg):∀{l:List Str},NL K C l->NM K mg C l
 |[],_=>trivial
 |_::_,⟨⟨A,q,k⟩,r⟩=>⟨⟨A,Q8 X G q,k⟩,z8 X G r⟩
end XO
namespace D
open L2
theorem BE:OpR X (PU .NotIn) (fun x y H Q=>∃a kvs,x=.non/\y=.ref a/\Rd H a (.dK kvs)/\Q (.bl true) H):=by
 intro pins s σ H x y v u Q I rx ry h;obtain⟨a,kvs,rfl,rfl,e,q⟩:=h;cases (show v=Qq from rx);cases (show u=PJ a from ry);obtain⟨z,hd,vs,rel,dd⟩:=dI I.hok e;refine wpAny_notIn_of (knd:=nK X.prog X.w) (k:=none) rfl hd (wC dd).mapOf ?_;rw[qM];exact⟨.bl true,H,I.tok _,rfl,q⟩
def hJ(x y:Pa):Option PyData:=match x,y with
 |.none,.dict _=>some (.bool true)
 |x,y=>c8 x y
theorem EB(hr:Room k X.A):OpD X (PU .NotIn) hJ:=by
 obtain⟨r0,h0,s0⟩:=iM (X:=X) hr;refine⟨_,h0.or BE,fun O ts H T v1 v2 x y d Q hc h1 h2 e q=>?_⟩;unfold hJ at e;split at e
 .cases e
  obtain⟨a,kvs,rfl,t,r⟩:=h2.dct;cases h1.non;exact .inr ⟨a,kvs,rfl,rfl,t,q _ H (.refl _ _) hc (.bl _)⟩
 .exact .inl (s0 O ts H T v1 v2 _ _ d Q hc h1 h2 e q)
def z7(ρ:Rho):Bool:=ρ.all fun o=>match o with
 |some (.loc (.dict _))=>false
 |_=>true
def tu(T:Tp):Option (Bool×Tp)->Option (Bool×Tp)
 |some (b,_)=>some (b,T)
 |none=>none
def jV(f:FT):FT:=fun ρ T=>if z7 ρ=true then tu T (f (cD ρ) []) else none
theorem GY(he:DT X e f):DT X e (jV f):=by
 refine⟨lJ he.pe fun σ H Q=>?_⟩;rintro⟨O,ts,ρ,T,b,T',hc,re,e,q⟩;unfold jV at e;split at e
 .rename_i hn
  cases h1:f (cD ρ) [] with
  |none=>rw[h1] at e;cases e
  |some p=>
   obtain⟨b1,T1⟩:=p;rw[h1] at e;cases e;refine⟨fun _=>False,[],cD ρ,[],b,T1,⟨fun b hb=>(by cases hb),fun b hb=>hb.elim,T7,rfl,fun i a xs e1 _=>by simp at e1⟩,v8 re (fun b=>.inl rfl) (fun j a ds e1 _=>?_),h1,fun H2 s2 _=>?_⟩
   .have:=PB.mp hn _ (P8 e1)
    cases this
   .have s2':SameX ts H H2:=fun b o _ q=>s2 b o (by simp) q
    exact q H2 s2' (hc.step s2' fun b hb=>by
     obtain⟨u,z⟩:=(hc.trk b (hc.own b hb)).ex
     rw[z];exact s2 b _ (by simp) z)
 .cases e
def DfL(K:Frag)(tp:Nat->Stmt):List (Str×Nat)->Prop
 |[]=>True
 |(x,i)::r=>Df K x (tp i)/\DfL K tp r
theorem E8{K:Frag}{tp:Nat->Stmt}{x:Str}{i:Nat}{L:List (Str×Nat)}(a:Df K x (tp i))(r:DfL K tp L):DfL K tp ((x,i)::L):=⟨a,r⟩
theorem DfL.at{K:Frag}{tp:Nat->Stmt}{x:Str}{i:Nat}:∀{L:List (Str×Nat)},DfL K tp L->L.lookup x=some i->Df K x (tp i)
 |[],_,e=>nomatch e
 |(y,j)::r,h,e=>by
  rw[Qi] at e;split at e
  .rename_i hx
   cases e;rw[eq_of_beq hx];exact h.1
  .exact h.2.at e
def ZL(K:Frag):List Str->Prop
 |[]=>True
 |x::r=>Qo K P3 x=some none/\ZL K r
theorem Fw{K:Frag}{x:Str}{L:List Str}(a:Qo K P3 x=some none)(r:ZL K L):ZL K (x::L):=⟨a,r⟩
theorem ZL.at{K:Frag}{x:Str}:∀{L:List Str},ZL K L->L.contains x=true->Qo K P3 x=some none
 |[],_,e=>nomatch e
 |y::r,h,e=>by
  rw[List.contains_cons,Ve] at e
  rcases e with e|e
  .rw[eq_of_beq e];exact h.1
  .exact h.2.at e
def IL(K:Frag):List (Str×Int)->Prop
 |[]=>True
 |(x,i)::r=>(∃t,Qo K P3 x=some (some (.int i t)))/\IL K r
theorem GJ{K:Frag}{x:Str}{i:Int}{t:Tok}{L:List (Str×Int)}(a:Qo K P3 x=some (some (.int i t)))(r:IL K L):IL K ((x,i)::L):=⟨⟨t,a⟩,r⟩
theorem IL.at{K:Frag}{x:Str}{i:Int}:∀{L:List (Str×Int)},IL K L->L.lookup x=some i->∃t,Qo K P3 x=some (some (.int i t))
 |[],_,e=>nomatch e
 |(y,j)::r,h,e=>by
  rw[Qi] at e;split at e
  .rename_i hx
   cases e;rw[eq_of_beq hx];exact h.1
  .exact h.2.at e
def SL(K:Frag):List (Str×Str)->Prop
 |[]=>True
 |(x,i)::r=>(∃t,Qo K P3 x=some (some (.str i t)))/\SL K r
theorem FJ{K:Frag}{x i:Str}{t:Tok}{L:List (Str×Str)}(a:Qo K P3 x=some (some (.str i t)))(r:SL K L):SL K ((x,i)::L):=⟨⟨t,a⟩,r⟩
theorem SL.at{K:Frag}{x i:Str}:∀{L:List (Str×Str)},SL K L->L.lookup x=some i->∃t,Qo K P3 x=some (some (.str i t))
 |[],_,e=>nomatch e
 |(y,j)::r,h,e=>by
  rw[Qi] at e;split at e
  .rename_i hx
   cases e;rw[eq_of_beq hx];exact h.1
  .exact h.2.at e
structure Bz(K:Frag)(mg:Str->Option Pb)(z:List Str)(i:List (Str×Int))(s:List (Str×Str)):Prop where
 z:∀{x:Str} (_:z.contains x=true:=by decide +kernel),mg x=none
 i:∀{x:Str}{j:Int} (_:i.lookup x=some j:=by decide +kernel),∃t,mg x=some (.int j t)
 s:∀{x y:Str} (_:s.lookup x=some y:=by decide +kernel),∃t,mg x=some (.str y t)
theorem KR{K:Frag}{h:Heap}{mg:Str->Option Pb}(X:K.In h)(G:h.Ns P3 mg)(a:ZL K z)(b:IL K i)(c:SL K s):Bz K mg z i s:=⟨fun e=>PySem.W.mg_none_of X G (a.at e),fun e=>let ⟨t,q⟩:=b.at e;⟨t,Q8 X G q⟩,fun e=>let ⟨t,q⟩:=c.at e;⟨t,Q8 X G q⟩⟩
structure Ev(P:Px)(w:PY)(K:Frag)(mg:Str->Option Pb)(base:Heap)(B:Prop)(tp:Nat->Stmt)(L:List (Str×Nat)):Prop where
 x:∃h:Heap,K.In h/\h.Ns P3 mg
 b:B
 d:DfL K tp L
noncomputable def scB(N P:List Str)(sc:Rj):Bool:=decide (sc.kind=.function)&&!sc.isCoroutine&&!sc.isGenerator&&decide N.Nodup&&decide (N.take P.length=P)&&P.all (fun x=>decide (sc.names.lookup x=some .local)||decide (sc.names.lookup x=some .cell))&&sc.names.all fun y=>decide (y.2≠.free)
theorem ie(h:scB N P sc=true):FnScope N P sc:=by
 simp only[scB,Po,decide_eq_true_eq,Bool.not_eq_true',PB,Ve] at h;exact⟨h.1.1.1.1.1.1,h.1.1.1.1.1.2,h.1.1.1.1.2,h.1.1.1.2,h.1.1.2,h.1.2,h.2⟩
theorem bl1{α:Type}{p:List α->Prop}(h:∀a,p [a]):∀us,us.length=1->p us
 |[a],_=>h a
theorem bl2{α:Type}{p:List α->Prop}(h:∀a b,p [a,b]):∀us,us.length=2->p us
 |[a,b],_=>h a b
theorem bl3{α:Type}{p:List α->Prop}(h:∀a b c,p [a,b,c]):∀us,us.length=3->p us
 |[a,b,c],_=>h a b c
theorem bl4{α:Type}{p:List α->Prop}(h:∀a b c d,p [a,b,c,d]):∀us,us.length=4->p us
 |[a,b,c,d],_=>h a b c d
theorem bl6{α:Type}{p:List α->Prop}(h:∀a b c d e f,p [a,b,c,d,e,f]):∀us,us.length=6->p us
 |[a,b,c,d,e,f],_=>h a b c d e f
section
variable {P:Px}{w:PY}{K:Frag}{mg:Str->Option Pb}{base:Heap}{B:Prop}{tp:Nat->Stmt}{L:List (Str×Nat)}{x:Str}{ps:List Str}{k:Nat}{m:FS}
theorem tF(E:Ev P w K mg base B tp L)(i:Nat)(ok:∀f fd,Fun K x x (tp i) f fd->FnOk P w K mg base CX0 k f fd ps sp)(e:L.lookup x=some i:=by decide +kernel)
  (hb:∀(kV doc pm:Pb) (an:Option Addr) (cdv ct:Pb) (us:List Pb),us.length=ps.length->TN (QB x x (dG (tp i)) (cj (tp i)) (bh (tp i)) .none kV doc pm an cdv ct) ⟨us,[]⟩=pure (ps.zip us):=by
   intro _ _ _ _ _ _;first|(show ∀us:List Pb,us.length=0->_;exact D.bl0 rfl)|(show ∀us:List Pb,us.length=1->_;exact D.bl1 fun _=>rfl)|(show ∀us:List Pb,us.length=2->_;exact D.bl2 fun _ _=>rfl)|(show ∀us:List Pb,us.length=3->_;exact D.bl3 fun _ _ _=>rfl)|(show ∀us:List Pb,us.length=4->_;exact D.bl4 fun _ _ _ _=>rfl)|(show ∀us:List Pb,us.length=5->_;exact D.bl5 fun _ _ _ _ _=>rfl)|(show ∀us:List Pb,us.length=6->_;exact D.bl6 fun _ _ _ _ _ _=>rfl)):Fn P w K mg base x ps k sp:=
 let ⟨_,X,G⟩:=E.x
 (E.d.at e).fn X G hb ok
theorem aX(E:Ev P w K mg base B tp L)(i:Nat)(N:List Str)(hbody:∀{f:Addr}{cdv:Pb}{A:PZ}{outer:List Env}{s:Pf}{H:Hp}{E:XK},B->FnScope N ps (bh (tp i))->Room k (A.deeper (Rx x (bh (tp i)) s.heap.objs.size f cdv))->DSs (cw CX0 P w K mg base N x (bh (tp i)) f cdv A outer s H E).nox (cj (tp i)) m)
  (S:scB N ps (bh (tp i))=true:=by decide +kernel) (e:L.lookup x=some i:=by decide +kernel)
  (hb:∀(kV doc pm:Pb) (an:Option Addr) (cdv ct:Pb) (us:List Pb),us.length=ps.length->TN (QB x x (dG (tp i)) (cj (tp i)) (bh (tp i)) .none kV doc pm an cdv ct) ⟨us,[]⟩=pure (ps.zip us):=by
   intro _ _ _ _ _ _;first|(show ∀us:List Pb,us.length=0->_;exact D.bl0 rfl)|(show ∀us:List Pb,us.length=1->_;exact D.bl1 fun _=>rfl)|(show ∀us:List Pb,us.length=2->_;exact D.bl2 fun _ _=>rfl)|(show ∀us:List Pb,us.length=3->_;exact D.bl3 fun _ _ _=>rfl)|(show ∀us:List Pb,us.length=4->_;exact D.bl4 fun _ _ _ _=>rfl)|(show ∀us:List Pb,us.length=5->_;exact D.bl5 fun _ _ _ _ _=>rfl)|(show ∀us:List Pb,us.length=6->_;exact D.bl6 fun _ _ _ _ _ _=>rfl)):Fn P w K mg base x ps (k+1) (spM K ps.length (aP N.length m)):=tF E i (fun _ _ F=>dfn F (ie S) fun _ _ _ _ _ _ hr=>hbody E.b (ie S) hr) e hb
theorem Al(E:Ev P w K mg base B tp L)(i:Nat)(N:List Str)(hbody:∀{f:Addr}{cdv:Pb}{A:PZ}{outer:List Env}{s:Pf}{H:Hp}{E:XK},B->FnScope N ps (bh (tp i))->Room k (A.deeper (Rx x (bh (tp i)) s.heap.objs.size f cdv))->DSs (cw CX0 P w K mg base N x (bh (tp i)) f cdv A outer s H E).nox (cj (tp i)) m)
  (S:scB N ps (bh (tp i))=true:=by decide +kernel) (e:L.lookup x=some i:=by decide +kernel)
  (hb:∀(kV doc pm:Pb) (an:Option Addr) (cdv ct:Pb) (us:List Pb),us.length=ps.length->TN (QB x x (dG (tp i)) (cj (tp i)) (bh (tp i)) .none kV doc pm an cdv ct) ⟨us,[]⟩=pure (ps.zip us):=by
   intro _ _ _ _ _ _;first|(show ∀us:List Pb,us.length=0->_;exact D.bl0 rfl)|(show ∀us:List Pb,us.length=1->_;exact D.bl1 fun _=>rfl)|(show ∀us:List Pb,us.length=2->_;exact D.bl2 fun _ _=>rfl)|(show ∀us:List Pb,us.length=3->_;exact D.bl3 fun _ _ _=>rfl)|(show ∀us:List Pb,us.length=4->_;exact D.bl4 fun _ _ _ _=>rfl)|(show ∀us:List Pb,us.length=5->_;exact D.bl5 fun _ _ _ _ _=>rfl)|(show ∀us:List Pb,us.length=6->_;exact D.bl6 fun _ _ _ _ _ _=>rfl)):Fn P w K mg base x ps (k+1) (spO K ps.length (ja N.length m)):=tF E i (fun _ _ F=>Lo F (ie S) fun _ _ _ _ _ _ hr=>hbody E.b (ie S) hr) e hb
theorem dJ(E:Ev P w K mg base B tp L)(i:Nat)(e:L.lookup x=some i:=by decide +kernel)
  (hb:∀(kV doc pm:Pb) (an:Option Addr) (cdv ct:Pb) (us:List Pb),us.length=ps.length->TN (QB x x (dG (tp i)) (cj (tp i)) (bh (tp i)) .none kV doc pm an cdv ct) ⟨us,[]⟩=pure (ps.zip us):=by
   intro _ _ _ _ _ _;first|(show ∀us:List Pb,us.length=0->_;exact D.bl0 rfl)|(show ∀us:List Pb,us.length=1->_;exact D.bl1 fun _=>rfl)|(show ∀us:List Pb,us.length=2->_;exact D.bl2 fun _ _=>rfl)|(show ∀us:List Pb,us.length=3->_;exact D.bl3 fun _ _ _=>rfl)|(show ∀us:List Pb,us.length=4->_;exact D.bl4 fun _ _ _ _=>rfl)|(show ∀us:List Pb,us.length=5->_;exact D.bl5 fun _ _ _ _ _=>rfl)|(show ∀us:List Pb,us.length=6->_;exact D.bl6 fun _ _ _ _ _ _=>rfl)):Fn P w K mg base x ps k (spM K n fun _ _=>none):=tF E i (fun _ _ _=>GO) e hb
theorem KP(E:Ev P w K mg base B tp L)(N:List Str)(F:Fun K x x (tp i) f fd)(hbody:∀{cdv:Pb}{A:PZ}{outer:List Env}{s:Pf}{H:Hp}{E:XK},B->FnScope N ps (bh (tp i))->Room k (A.deeper (Rx x (bh (tp i)) s.heap.objs.size f cdv))->DSs (cw CX0 P w K mg base N x (bh (tp i)) f cdv A outer s H E).nox (cj (tp i)) m)
  (S:scB N ps (bh (tp i))=true:=by decide +kernel):FnOk P w K mg base CX0 (k+1) f fd ps (spM K ps.length (aP N.length m)):=dfn F (ie S) fun _ _ _ _ _ _ hr=>hbody E.b (ie S) hr
theorem dw{p:Nat->Prop}(z:p 0)(s:∀n,p n->p (n+1)):∀n,p n
 |0=>z
 |n+1=>s n (dw z s n)
end
section
variable {X:Cx}{name p1 p2 p3 p4 p5 p6:Str}{k k':Nat}{m:FnM}{e1 e2 e3 e4 e5 e6:Expr}{g1 g2 g3 g4 g5 g6:FE}{p pos:Pos}
theorem aZ(F:Fn X.prog X.w X.K X.mg X.base name [p1] k (spM X.K 1 m))(hr:Room k' X.A)(a1:DE X e1 g1)(h:k<=k':=by omega)(hg:Gl X name:=by exact rfl)(hdb:(name == ("__debug__" : Str))=false:=by decide)(n1:noStar e1=true:=by exact rfl):DE X (.Call (.Name name p) [e1] [] pos) (au m (ae g1 ah)):=lF F (hr.mono h) hg (ai a1 aq (bc n1)) (aW bU) hdb (bc n1) (bN rfl)
theorem a8(F:Fn X.prog X.w X.K X.mg X.base name [p1,p2] k (spM X.K 2 m))(hr:Room k' X.A)(a1:DE X e1 g1)(a2:DE X e2 g2)(h:k<=k':=by omega)(hg:Gl X name:=by exact rfl)(hdb:(name == ("__debug__" : Str))=false:=by decide)(n1:noStar e1=true:=by exact rfl)(n2:noStar e2=true:=by exact rfl):DE X (.Call (.Name name p) [e1,e2] [] pos) (au m (ae g1 (ae g2 ah))):=lF F (hr.mono h) hg (ai a1 (ai a2 aq (bc n2)) (bc n1)) (aW (aW bU)) hdb (bc n1) (bN (by simp only[QD,U7,n2,Ux]))
theorem iA(F:Fn X.prog X.w X.K X.mg X.base name [p1,p2,p3] k (spM X.K 3 m))(hr:Room k' X.A)(a1:DE X e1 g1)(a2:DE X e2 g2)(a3:DE X e3 g3)(h:k<=k':=by omega)(hg:Gl X name:=by exact rfl)(hdb:(name == ("__debug__" : Str))=false:=by decide)(n1:noStar e1=true:=by exact rfl)(n2:noStar e2=true:=by exact rfl)(n3:noStar e3=true:=by exact rfl):DE X (.Call (.Name name p) [e1,e2,e3] [] pos) (au m (ae g1 (ae g2 (ae g3 ah)))):=lF F (hr.mono h) hg (ai a1 (ai a2 (ai a3 aq (bc n3)) (bc n2)) (bc n1)) (aW (aW (aW bU))) hdb (bc n1) (bN (by simp only[QD,U7,n2,n3,Ux]))
theorem fL(F:Fn X.prog X.w X.K X.mg X.base name [p1,p2,p3,p4] k (spM X.K 4 m))(hr:Room k' X.A)(a1:DE X e1 g1)(a2:DE X e2 g2)(a3:DE X e3 g3)(a4:DE X e4 g4)(h:k<=k':=by omega)(hg:Gl X name:=by exact rfl)(hdb:(name == ("__debug__" : Str))=false:=by decide)(n1:noStar e1=true:=by exact rfl)(n2:noStar e2=true:=by exact rfl)(n3:noStar e3=true:=by exact rfl)(n4:noStar e4=true:=by exact rfl):DE X (.Call (.Name name p) [e1,e2,e3,e4] [] pos) (au m (ae g1 (ae g2 (ae g3 (ae g4 ah))))):=lF F (hr.mono h) hg (ai a1 (ai a2 (ai a3 (ai a4 aq (bc n4)) (bc n3)) (bc n2)) (bc n1)) (aW (aW (aW (aW bU)))) hdb (bc n1) (bN (by simp only[QD,U7,n2,n3,n4,Ux]))
theorem qi(F:Fn X.prog X.w X.K X.mg X.base name [p1,p2,p3,p4,p5,p6] k (spM X.K 6 m))(hr:Room k' X.A)(a1:DE X e1 g1)(a2:DE X e2 g2)(a3:DE X e3 g3)(a4:DE X e4 g4)(a5:DE X e5 g5)(a6:DE X e6 g6)(h:k<=k':=by omega)(hg:Gl X name:=by exact rfl)(hdb:(name == ("__debug__" : Str))=false:=by decide)(n1:noStar e1=true:=by exact rfl)(n2:noStar e2=true:=by exact rfl)(n3:noStar e3=true:=by exact rfl)(n4:noStar e4=true:=by exact rfl)(n5:noStar e5=true:=by exact rfl)(n6:noStar e6=true:=by exact rfl):DE X (.Call (.Name name p) [e1,e2,e3,e4,e5,e6] [] pos) (au m (ae g1 (ae g2 (ae g3 (ae g4 (ae g5 (ae g6 ah))))))):=lF F (hr.mono h) hg (ai a1 (ai a2 (ai a3 (ai a4 (ai a5 (ai a6 aq (bc n6)) (bc n5)) (bc n4)) (bc n3)) (bc n2)) (bc n1)) (aW (aW (aW (aW (aW (aW bU)))))) hdb (bc n1) (bN (by simp only[QD,U7,n2,n3,n4,n5,n6,Ux]))
end
noncomputable def csB(osc:Rj)(N:List Str)(x:Str)(sc:Rj)(N':List Str):Bool:=decide (sc.kind=.function)&&(sc.names.all fun y=>decide (y.2≠.cell))&&(sc.names.all fun y=>decide (y.2=.local->sc.names.lookup y.1=some .local))&&decide (sc.names.lookup x=some .local)&&(sc.names.all fun y=>decide (y.2=.local->y.1=x\/y.1=".0"))
 && (sc.names.all fun y=>decide (y.2=.free->osc.names.lookup y.1=some .cell\/osc.names.lookup y.1=some .free))&&decide (x::N').Nodup&&decide ((".0" : Str)∉N')&&decide (N'.length=N.length)&&(N'.zip N).all fun p=>decide (p.1=p.2)||sc.names.all fun q=>decide (q.1≠p.1)
theorem An(h:csB osc N x sc N'=true):CS osc N x sc N':=by
 simp only[csB,Po,decide_eq_true_eq,PB,Ve] at h;exact⟨h.1.1.1.1.1.1.1.1.1,h.1.1.1.1.1.1.1.1.2,h.1.1.1.1.1.1.1.2,h.1.1.1.1.1.1.2,h.1.1.1.1.1.2,h.1.1.1.1.2,h.1.1.1.2,h.1.1.2,h.1.2,h.2⟩
section
variable {X:Cx}{x:Str}{scope:Rj}{elt iter:Expr}{ifs:List Expr}{px pos:Pos}{it:FI}{c:FT}{f:FE}
theorem Am(st:Stmt)(N N':List Str)(hi:DI X (.Name x px) iter it)(he:∀{C s0 H0 ex},DE (bV X x scope C s0 H0 ex N') elt f)(ht:∀{C s0 H0 ex},DTs (bV X x scope C s0 H0 ex N') ifs c)
  (S:csB (bh st) N x scope N'=true:=by decide +kernel) (hc:X.calm=true:=by rfl) (hs:X.env.scope=bh st:=by rfl) (hN:X.N=N:=by rfl) (hf:∀v,Qj iter X.env v=pure v:=by intro _;rfl):DE X (.ListComp elt [⟨.Name x px,iter,ifs,0⟩] scope pos) (bC it c f):=G7 (An S) hi (fun _ _ _ _=>he) (fun _ _ _ _=>ht) hc hs hN hf
theorem dP(st:Stmt)(N:List Str)(hi:DI X (.Name x px) iter it)(he:∀{C s0 H0 ex},DE (bV X x scope C s0 H0 ex N) elt f)
  (S:csB (bh st) N x scope N=true:=by decide +kernel) (hc:X.calm=true:=by rfl) (hs:X.env.scope=bh st:=by rfl) (hN:X.N=N:=by rfl) (hf:∀v,Qj iter X.env v=pure v:=by intro _;rfl):DE X (.ListComp elt [⟨.Name x px,iter,[],0⟩] scope pos) (bC it bu f):=Am st N N hi he yh S hc hs hN hf
theorem tG(st:Stmt)(N:List Str)(hi:DI X (.Name x px) iter it)(he:∀{C s0 H0 ex},DE (bV X x scope C s0 H0 ex N) elt f)(ht:∀{C s0 H0 ex},DT (bV X x scope C s0 H0 ex N) t c)
  (S:csB (bh st) N x scope N=true:=by decide +kernel) (hc:X.calm=true:=by rfl) (hs:X.env.scope=bh st:=by rfl) (hN:X.N=N:=by rfl) (hf:∀v,Qj iter X.env v=pure v:=by intro _;rfl):DE X (.ListComp elt [⟨.Name x px,iter,[t],0⟩] scope pos) (bC it c f):=Am st N N hi he (GX rfl ht) S hc hs hN hf
theorem KO(st:Stmt)(N N':List Str)(nd:X.N.Nodup)(hi:DI X (.Name x px) iter it)(he:∀{C s0 H0 ex},DE (bV X x scope C s0 H0 ex N') elt f)(ht:∀{C s0 H0 ex},DTs (bV X x scope C s0 H0 ex N') ifs c)
  (S:csB (bh st) N x scope N'=true:=by decide +kernel) (hi':X.N[i]? = some y:=by rfl) (hy:Loc X.env.scope y:=by first|exact QM rfl|exact Qx rfl)
  (hf':X.fn y=true\/X.env.scope.names.lookup y=some .local:=by first|exact .inl rfl|exact .inr rfl|assumption) (hc:X.calm=true:=by rfl) (hs:X.env.scope=bh st:=by rfl) (hN:X.N=N:=by rfl)
  (hsw:QL (.ListComp elt [⟨.Name x px,iter,ifs,0⟩] scope pos) (some (.Name y py)) spos.line X.env=pure true:=by rfl) (hf:∀v,Qj iter X.env v=pure v:=by intro _;rfl) :
  DS X (.Assign [.Name y py] (.ListComp elt [⟨.Name x px,iter,ifs,0⟩] scope pos) spos) (aF i (bC it c f)):=G4 (An S) nd hi (fun _ _ _ _=>he) (fun _ _ _ _=>ht) hi' hy hf' hc hs hN hsw hf
end
end D
namespace G
open L2 D

theorem bj(k:Nat)(h:0<k):∃j,k=j+1:=⟨k-1,by omega⟩
abbrev ac:FE:=fC (.int 1)
abbrev ad:FE:=fC (.int 0)
abbrev be:FE:=aa 0
abbrev bn:FE:=aa 2
abbrev cr:FE:=aa 1
abbrev dl:FE:=fC (.int 2)
abbrev dL:FE:=fC (.str "fails")
abbrev f8:FE:=aa 3
abbrev ii:FE:=aa 4
abbrev im:FE:=fC (.str "made")
abbrev io:FE:=fC (.str "value")
abbrev kt:FE:=fC (.bool false)
abbrev ld:FE:=aa 5
abbrev mt:FE:=fC (.int 4)
abbrev pc:FE:=fC (.str "put")
abbrev pi:FE:=fC (.int 3)
abbrev pp:FE:=fC (.str "abcdefghijklmnopqrstuvwxyz")
abbrev sB:FE:=fC (.str "kind")
abbrev sK:FE:=fC (.int 8)
abbrev tz:FE:=aa 6
abbrev u8:FE:=aa 7
abbrev wf:FE:=fC (.str "got")
abbrev wn:FE:=fC (.str "want")
abbrev wp:FE:=fC (.int 5)
abbrev wv:FE:=fC (.int 10)
abbrev ww:FE:=fC (.str "row")
abbrev wE:FE:=fC (.str "fail")
abbrev wP:FE:=fC .none
abbrev wS:FE:=fC (.int 18)
abbrev wT:FE:=fC (.str "part")
abbrev xz:FE:=fC (.str "when")
abbrev zn:FE:=fC (.int 7)
abbrev At:FE:=fC (.str "")
abbrev AT:FE:=fC (.str "wanted")
abbrev BT:FE:=fC (.str "wants")
abbrev Ch:FE:=fC (.str "join")
abbrev Cl:FE:=fC (.str "read")
abbrev Db:FE:=fC (.str "say")
abbrev Fa:FE:=fC (.str "lacks")
abbrev Id:FE:=fC (.str "great")
abbrev Ix:FE:=fC (.str "told")
abbrev IN:FE:=fC (.str "many")
abbrev IO:FE:=fC (.str "same")
abbrev KK:FE:=fC (.str "name")
abbrev LE:FE:=fC (.int 26)
abbrev No:FE:=aa 8
abbrev O0:FE:=fC (.str "sum")
abbrev O4:FE:=fC (.bool true)
abbrev O5(f:FE):FA:=ae f ah
abbrev O6:FE->FE->FE:=af ixD
abbrev O7:FA->FE:=aA .tuple
abbrev O8:FE->FE->FE:=af eqD
abbrev O9:FE->FE->FE:=af aV
abbrev Op:FA->FE:=fCB bb
abbrev OZ:FA->FE:=aA .list
abbrev P0:FE->FE->FE:=af ixA
abbrev P1:FE->FE->FE:=af ltD
abbrev P2:FA->FE:=fCB bJ
def fm:FnM:=aP 1 (aB (ik (fUn (bv .int) be) (tE (fUn (bv .bl) be))))
def iH:FnM:=aP 2 (aB (fCB gi (O5 (bC (bf be) bu (af inD be bn)))))
def jv:FnM:=aP 1 (aB (ik (fUn (bv .str) be) (ik (hU leD leD ac (Op (O5 be)) sK) (au iH (ae be (O5 pp))))))
def kF:FnM:=aP 1 (ak (fIf (bg (au fm (O5 be))) (aB (af leD (fCB mF (O5 be)) (af fH wv wS))) aD) (aB (ik (fUn (bv .str) be) (ik (af leD (Op (O5 be)) (fC (.int 20))) (au iH (ae be (O5 (fC (.str "abcdefghijklmnopqrstuvwxyz0123456789-")))))))))
def fO:Nat->FnM
 |0=>fun _ _=>none
 |n+1=>aP 2 (ak (fIf (bL (bg (fUn (bv .tup) be))) (aB (au kF (O5 be))) aD) (ak (fIf (cF (av (O8 cr ad)) (av (af gtD (Op (O5 be)) sK))) (aB kt) aD) (aB (fCB gi (O5 (bC (bf be) bu (au (fO n) (ae be (O5 (af fG bn ac))))))))))
def iJ:Nat->FnM
 |0=>fun _ _=>none
 |n+1=>aP 1 (ak (fIf (bL (bg (fUn (bv .tup) be))) (aB ac) aD) (aB (O9 ac (fCB kj (O5 (bC (bf be) bu (au (iJ n) (O5 be))))))))
def kL:FnM:=aP 1 (aB (ik (au (fO 25) (ae be (O5 mt))) (af leD (au (iJ 25) (O5 be)) (fC (.int 40)))))
def cW:FnM:=aP 1 (ak (fIf (cF (av (O8 (O6 be ad) pc)) (av (O8 (O6 be ad) wf))) (aB (OZ ah)) aD) (ak (fIf (av (O8 (O6 be ad) ww)) (aB (fCB gF (O5 (O6 be ac)))) aD) (aB (fCB gF (O5 (fSl be (fP ac) cV))))))
def gU:FnM:=aP 2 (ak (fIf (av (af inA cr (O6 be ad))) (aB Ix) aD) (ak (fIf (av (af inA cr (O6 be ac))) (aB im) aD) (aB Fa)))
def dr:Nat->FnM
 |0=>fun _ _=>none
 |n+1=>aP 1 (ak (fIf (bg (au fm (O5 be))) (aB (fCB gc (O5 be))) aD) (ak (fIf (bg (fUn (bv .str) be)) (aB (O9 (fC (.str "'")) be)) aD) (aB (O9 (O9 (fC (.str "(")) (af lW (fC (.str ",")) (bC (bf be) bu (au (dr n) (O5 be))))) (fC (.str ")"))))))
def gO:FnM:=aP 1 (ak (fIf (av (O8 (O6 be ad) pc)) (aB (OZ (O5 (au (dr 25) (O5 (O6 be ac)))))) aD) (ak (fIf (av (O8 (O6 be ad) wf)) (aB (OZ (O5 (fCB gc (O5 (O6 be ac)))))) aD) (ak (fIf (av (O8 (O6 be ad) ww)) (aB (OZ (O5 (fCB gc (O5 (Op (O5 (O6 be ac)))))))) aD) (aB (OZ ah)))))
def ff:Nat->FnM
 |0=>fun _ _=>none
 |n+1=>aP 3 (ak (gH 1 (OZ (O5 (O6 be ad))) (au gO (O5 be))) (ak (bH 2 (bf (au cW (O5 be))) (iu 1 (au (ff n) (O5 bn)))) (aB cr)))
def gj:Nat->FnM
 |0=>fun _ _=>none
 |n+1=>aP 3 (ak (fIf (av (O8 (O6 be ad) wE)) (aB (OZ (ae (O6 be ad) (O5 (O6 be ac))))) aD) (ak (gH 1 (OZ (O5 (O6 be ad))) (au (ff 25) (O5 (O6 be ac)))) (ak (bH 2 (bf (fSl be (fP dl) cV)) (iu 1 (au (gj n) (O5 bn)))) (aB cr))))
def jn:FnM:=aP 1 (aB (af fD (fC (.str " ")) (au (gj 25) (O5 be))))
def gQ:FnM:=aP 2 (ak (fIf (cF (bL (bg (au fm (O5 be)))) (bL (bg (au fm (O5 cr))))) (aB (O7 (ae dL (O5 sB)))) aD) (aB (O7 (ae io (O5 (bZ (av (P1 be cr)) ac ad))))))
def gW:FnM:=aP 1 (aB (bZ (bg (au kL (O5 be))) (O7 (ae io (O5 be))) (O7 (ae dL (O5 Id)))))
def kB:FnM:=aP 1 (ak (fIf (bg (au fm (O5 be))) (aB (O7 (ae dL (O5 sB)))) aD) (aB (O7 (ae io (O5 (Op (O5 be)))))))
def gm:FnM:=aP 2 (ak (fIf (cF (bL (bg (fUn (bv .tup) be))) (bL (bg (au fm (O5 cr))))) (aB (O7 (ae dL (O5 sB)))) aD) (ak (fIf (bL (av (hU leD ltD ad cr (Op (O5 be))))) (aB (O7 (ae dL (O5 wT)))) aD) (aB (O7 (ae io (O5 (O6 be cr)))))))
def iG:FnM:=aP 2 (ak (fIf (cF (bL (bg (au fm (O5 be)))) (bL (bg (au fm (O5 cr))))) (aB (O7 (ae dL (O5 sB)))) aD) (aB (au gW (O5 (O9 be cr)))))
def gp:FnM:=aP 2 (ak (fIf (b9 (bg (fUn (bv .str) be)) (bg (fUn (bv .str) cr))) (aB (au gW (O5 (O9 be cr)))) aD) (ak (fIf (b9 (bg (fUn (bv .tup) be)) (bg (fUn (bv .tup) cr))) (aB (au gW (O5 (O9 be cr)))) aD) (aB (O7 (ae dL (O5 sB))))))
def bq:FnM:=aP 2 (ak (fIf (av (O8 be ww)) (aB (au gW (O5 (P2 (O5 cr))))) aD) (ak (fIf (av (O8 be IN)) (aB (au kB (O5 (O6 cr ad)))) aD) (ak (fIf (av (O8 be wT)) (aB (au gm (ae (O6 cr ad) (O5 (O6 cr ac))))) aD) (ak (fIf (av (O8 be O0)) (aB (au iG (ae (O6 cr ad) (O5 (O6 cr ac))))) aD) (ak (fIf (av (O8 be Ch)) (aB (au gp (ae (O6 cr ad) (O5 (O6 cr ac))))) aD) (ak (fIf (av (O8 be IO)) (aB (O7 (ae io (O5 (bZ (av (af eqG (O6 cr ad) (O6 cr ac))) ac ad))))) aD) (aB (au gQ (ae (O6 cr ad) (O5 (O6 cr ac)))))))))))
def dD:Nat->FnM
 |0=>fun _ _=>none
 |n+1=>aP 5 (ak (fIf (av (O8 (O6 be ad) pc)) (aB (O7 (ae io (O5 (O6 be ac))))) aD) (ak (fIf (av (O8 (O6 be ad) wf)) (aB (O7 (ae io (O5 (O6 cr (O6 be ac)))))) aD) (ak (cI 2 ah) (ak (bH 3 (bf (au cW (O5 be))) (ak (aF 4 (au (dD n) (ae f8 (O5 cr)))) (ak (fIf (av (O8 (O6 ii ad) dL)) (aB ii) aD) (b6 2 (O6 ii ac))))) (aB (hW bq (ae (O6 be ad) (O5 bn))))))))
def cZ:Nat->FnM
 |0=>fun _ _=>none
 |n+1=>aP 3 (ak (fIf (av (O8 (O6 be ad) wE)) (aB (O7 (ae dL (O5 (O6 be ac))))) aD) (ak (aF 2 (au (dD 25) (ae (O6 be ac) (O5 cr)))) (ak (fIf (av (O8 (O6 bn ad) dL)) (aB bn) aD) (ak (fIf (av (O8 (O6 be ad) xz)) (aB (au (cZ n) (ae (bZ (av (af inG (O6 bn ac) (O7 (ae ad (ae At (O5 (O7 ah))))))) (O6 be pi) (O6 be dl)) (O5 cr)))) aD) (ak (fIf (av (O8 (O6 be ad) Db)) (aB (O7 (ae im (O5 (O6 bn ac))))) aD) (ak (fIf (bL (bg (au jv (O5 (O6 bn ac))))) (aB (O7 (ae dL (O5 KK)))) aD) (aB (O7 (ae (O6 be ad) (ae (O6 bn ac) (O5 (O6 be dl))))))))))))
def jz:FnM:=aP 1 (ak (fIf (av (O8 (O6 be ad) im)) (aB (O7 (ae im (O5 (au (dr 25) (O5 (O6 be ac))))))) aD) (ak (fIf (av (O8 (O6 be ad) dL)) (aB be) aD) (aB (O7 (ae BT (O5 (O6 be ac)))))))
def kE:FnM:=aP 3 (ak (aF 2 (P2 (O5 (bC (bf (O6 cr ac)) bu (O7 (ae (O6 be ad) (O5 (au (dr 25) (O5 (O6 be ac)))))))))) (aB (O7 (ae be (ae bn (O5 (au jz (O5 (O6 cr dl)))))))))
def mI:FnM:=aP 3 (ak (dh 1) (ak (bH 2 (bf be) (bP 1 bn (au kE (ae bn (O5 (P0 be bn)))))) (aB cr)))
def kJ:FnM:=aP 1 (aB (O7 (ae (O7 ah) (ae (O7 ah) (O5 (au (cZ 25) (ae be (O5 (O7 ah)))))))))
def eA:FnM:=aP 1 (aB (bZ (av (af inD (O6 (O6 be dl) ad) (fC (.tuple [.str "want",.str "peek"])))) (O6 (O6 be dl) ac) wP))
def jF:FnM:=aP 5 (ak (aF 2 (O6 be dl)) (ak (aF 3 (O9 (O6 be ad) (O7 (O5 cr)))) (ak (aF 4 (bZ (av (O8 (O6 bn ad) wn)) (O9 (O6 be ac) (O7 (O5 (O7 (ae (O6 bn ac) (O5 cr)))))) (O6 be ac))) (aB (O7 (ae f8 (ae ii (O5 (au (cZ 25) (ae (O6 bn dl) (O5 f8)))))))))))
def kO:FnM:=aP 2 (ak (bi (av (af inA (au eA (O5 be)) cr)) (aF 0 (au jF (ae be (O5 (P0 cr (au eA (O5 be))))))) 100000) (aB be))
def mH:FnM:=aP 7 (ak (jT 1 (O6 be ad)) (ak (dh 2) (ak (gI 3 4 (O6 be ac) (bP 2 f8 (au kJ (O5 ii)))) (ak (aF 5 O4) (ak (bi (bg ld) (ak (aF 6 (Op (O5 cr))) (ak (bH 3 (bf (O6 be ac)) (ak (bP 2 f8 (dZ (au kO (ae (P0 bn f8) (O5 cr))))) (fIf (av (O8 (O6 (O6 (P0 bn f8) dl) ad) im)) (bP 1 f8 (O6 (O6 (P0 bn f8) dl) ac)) aD))) (aF 5 (af gtD (Op (O5 cr)) tz)))) 100000) (aB (O7 (ae cr (O5 bn)))))))))
def kK:FnM:=aP 1 (aB (au mI (O5 (O6 (au mH (O5 be)) ac))))
def gS:FnM:=aP 5 (ak (dh 1) (ak (gI 2 3 (O6 be ad) (bP 1 bn (O7 (ae im (O5 (au (dr 25) (O5 f8))))))) (ak (gI 2 4 (au kK (O5 be)) (bP 1 bn (O6 ii dl))) (aB cr))))
def js:FnM:=aP 3 (ak (fIf (cF (av (af c8 bn cr)) (cF (av (af c8 bn be)) (av (af neD (O6 (P0 cr bn) ad) (au jn (O5 (P0 be bn))))))) (aB wP) aD) (aB (O6 (P0 cr bn) ac)))
def mG:FnM:=aP 5 (ak (iY 2 3 (O6 cr ac) (ak (aF 4 (kc be (O6 f8 ad) (fC (.tuple [.str "lacks"])))) (fIf (av (af neG ii (O7 (ae im (O5 (O6 f8 ac)))))) (aB (O7 (ae Cl (ae bn (ae (O6 f8 ad) (ae (O6 f8 ac) (O5 ii))))))) aD))) (ak (fIf (b9 (av (O8 (O6 (O6 cr dl) ad) BT)) (av (O8 (O6 (kc be (O6 (O6 cr dl) ac) (fC (.tuple [.str "lacks"]))) ad) im))) (aB (O7 (ae AT (ae (O6 (O6 cr dl) ac) (O5 (O6 (P0 be (O6 (O6 cr dl) ac)) ac)))))) aD) (aB wP)))
def dq:FnM:=aP 5 (ak (fIf (av (af c8 f8 bn)) (aB (O7 (O5 (fC (.str "none"))))) aD) (ak (aF 4 (au js (ae cr (ae bn (O5 f8))))) (aB (bZ (av (af isD ii wP)) (O7 (O5 (fC (.str "recipe")))) (au mG (ae be (O5 ii)))))))
def eg:FnM:=aP 3 (ak (fIf (av (af neD (au gU (ae be (O5 bn))) im)) Ai aD) (aB (au dq (ae (au gS (O5 be)) (ae (O6 be ac) (ae cr (O5 bn)))))))
def kz:List W->Tp->Option (Nat×Tp):=XO.mkX 3 (XO.mC (av (af neD (au gU (ae be (O5 bn))) im)) 0)
def gu:FnM:=aP 1 (ak (fIf (av (O8 (O6 be ad) Cl)) (aB (O6 be dl)) aD) (aB (bZ (av (O8 (O6 be ad) AT)) (O6 be ac) wP)))
def gx:FnM:=ja 6 (ak (aF 3 (au eg (ae be (ae cr (O5 bn))))) (ak (aF 4 (au gS (O5 be))) (ak (cI 5 ah) (ak (bi (av (af iV f8 wP)) (ak (b6 5 (O7 (ae bn (O5 f8)))) (ak (aF 2 (au gu (O5 f8))) (ak (fIf (cF (av (af hJ bn (O6 be ac))) (jV (av (af inD bn (bC (bf ld) bu (O6 be ad)))))) (gB 5) aD) (aF 3 (au dq (ae ii (ae (O6 be ac) (ae cr (O5 bn))))))))) 100000) (gB 5)))))
def qL:List W->Tp->Option (Nat×Tp):=XO.mkX 6 (XO.fq kz (ae be (ae cr (O5 bn))))
def bS:FnM:=ja 2 (ak (fIf (av (O8 (Op (O5 be)) ad)) (oX (ae ad (ae ad (O5 cr)))) aD) (oX (ae (O6 be (af gJ cr (Op (O5 be)))) (ae ad (O5 cr)))))
def aS:FnM:=aP 4 (ak (mz be ac (O9 (O6 be ac) ac)) (ak (fIf (av (af geD (O6 be ad) (af fH wv wS))) (ak (aF 2 (af gJ (O6 be ad) cr)) (ak (mz be ad (af tD (O6 be ad) cr)) (aB bn))) aD) (ak (aF 3 (O9 (O9 (af gJ (O6 be ad) (fC (.int 2147483647))) (af eU (fC (.int 40692)) (O6 be ac))) (af eU (fC (.int 7919)) (O6 be dl)))) (ak (aF 3 (af gJ (af eU (O9 f8 (fC (.int 12345))) (fC (.int 48271))) (fC (.int 2147483647)))) (aB (af gJ (af gJ (af eU (af gJ (O9 (af eU f8 (fC (.int 69621))) (O6 be ac)) (fC (.int 2147483399))) (fC (.int 16807))) (fC (.int 2147483563))) cr))))))
def jq:FnM:=aP 8 (ak (aF 2 (OZ (ae im (ae Ix (ae Db (ae wn (ae dL (ae wf (ae pc (O5 Fa)))))))))) (ak (aF 3 pp) (ak (cI 4 ah) (ak (bH 5 (eP cr) (ak (aF 6 (au aS (ae be (O5 wp)))) (ak (aF 7 (O6 f8 (au aS (ae be (O5 LE))))) (ak (fIf (av (O8 tz ad)) (aF 7 (O6 bn (au aS (ae be (O5 sK))))) aD) (ak (fIf (b9 (av (O8 tz ac)) (av (af gtD (Op (O5 ii)) ad))) (aF 7 (fSl (O9 (O6 ii (fUn gf ac)) u8) cV (fP sK))) aD) (ak (fIf (av (O8 tz dl)) (aF 7 (af eU (O9 u8 (O6 f8 (au aS (ae be (O5 LE))))) mt)) aD) (ak (fIf (av (af inD u8 ii)) (aF 7 (O6 (bC (bf f8) (av (af du be ld)) be) ad)) aD) (mB 4 (au aS (ae be (O5 (O9 (Op (O5 ii)) ac)))) u8)))))))) (aB ii)))))
def gk:FnM:=aP 4 (ak (aF 2 (OZ (ae ad (ae ac (ae At (ae (O7 ah) (ae dl (ae (fC (.str "a")) (ae (O7 (O5 ad)) (ae (O7 (ae ac (O5 At))) (ae (fUn gf zn) (ae (af fH wv wS) (ae (fC (.str "x-0")) (ae (O7 (ae (O7 ah) (O5 (O7 (ae (fC (.str "b")) (O5 pi)))))) (ae (O7 (ae ad (ae ac (O5 dl)))) (O5 (af fG ac (af fH wv wS)))))))))))))))))) (ak (aF 3 (au aS (ae be (O5 wS)))) (ak (fIf (av (P1 f8 (fC (.int 14)))) (aB (O6 bn f8)) aD) (ak (fIf (av (O8 f8 (fC (.int 14)))) (aB (au aS (ae be (O5 (af fH wv wS))))) aD) (aB (O6 cr (au aS (ae be (O5 (Op (O5 cr)))))))))))
def eZ:Nat->FnM
 |0=>fun _ _=>none
 |n+1=>aP 3 (ak (aF 1 (bZ (bg (fUn (bv .tup) be)) (bC (bf be) bu (au (eZ n) (O5 be))) (OZ ah))) (ak (aF 2 (O9 (fCB intD (O5 (fUn (bv .tup) be))) (af lU (bC (bf cr) bu (O6 be ad)) ad))) (aB (O7 (ae bn (O5 (O9 ac (fCB kj (O5 (bC (bf cr) bu (O6 be ac)))))))))))
def dC:FnM:=aP 4 (ak (dj 1 2 (au (eZ 25) (O5 be))) (ak (fIf (bg (fUn (bv .int) be)) (aB (bZ (av (af leD (fCB mF (O5 be)) (af fH wv wS))) (O7 (ae io (O5 be))) (O7 (ae dL (O5 Id))))) aD) (ak (aF 3 (af leD (Op (O5 be)) (bZ (bg (fUn (bv .str) be)) (fC (.int 20)) sK))) (aB (bZ (b9 (bg f8) (b9 (av (af leD cr mt)) (av (af leD bn (fC (.int 40)))))) (O7 (ae io (O5 be))) (O7 (ae dL (O5 Id))))))))
def dB:Nat->FnM
 |0=>fun _ _=>none
 |n+1=>aP 1 (ak (fIf (bg (fUn (bv .int) be)) (aB (fCB gc (O5 be))) aD) (ak (fIf (bg (fUn (bv .str) be)) (aB (O9 (fC (.str "'")) be)) aD) (aB (O9 (O9 (fC (.str "(")) (af lW (fC (.str ",")) (bC (bf be) bu (au (dB n) (O5 be))))) (fC (.str ")"))))))
def bI:FnM:=aP 4 (ak (fIf (av (O8 be IO)) (aB (O7 (ae io (O5 (fCB intD (O5 (af eqG cr bn))))))) aD) (ak (fIf (av (O8 be wT)) (ak (fIf (cF (bL (bg (fUn (bv .tup) cr))) (bL (bg (fUn (bv .int) bn)))) (aB (O7 (ae dL (O5 sB)))) aD) (aB (bZ (av (hU leD ltD ad bn (Op (O5 cr)))) (O7 (ae io (O5 (O6 cr bn)))) (O7 (ae dL (O5 wT)))))) aD) (ak (aF 3 (OZ (ae (fUn (bv .int) cr) (ae (fUn (bv .int) bn) (ae (fUn (bv .str) cr) (O5 (fUn (bv .str) bn))))))) (ak (fIf (av (O8 be Ch)) (ak (fIf (cF (av (af neG (fSl f8 cV (fP dl)) (OZ (ae kt (O5 kt))))) (av (af neD (O6 f8 dl) (O6 f8 pi)))) (aB (O7 (ae dL (O5 sB)))) aD) (aB (au dC (O5 (O9 cr bn))))) aD) (ak (fIf (av (af neG (fSl f8 cV (fP dl)) (OZ (ae O4 (O5 O4))))) (aB (O7 (ae dL (O5 sB)))) aD) (aB (bZ (av (O8 be O0)) (au dC (O5 (O9 cr bn))) (O7 (ae io (O5 (fCB intD (O5 (P1 cr bn)))))))))))))
def cM:Nat->FnM
 |0=>fun _ _=>none
 |n+1=>aP 5 (ak (fIf (av (O8 (O6 be ad) pc)) (aB (O7 (ae io (O5 (O6 be ac))))) aD) (ak (fIf (av (O8 (O6 be ad) wf)) (aB (O7 (ae io (O5 (O6 cr (O6 be ac)))))) aD) (ak (cI 2 ah) (ak (bH 3 (bf (bZ (av (O8 (O6 be ad) ww)) (O6 be ac) (fSl be (fP ac) cV))) (ak (aF 4 (au (cM n) (ae f8 (O5 cr)))) (ak (fIf (av (O8 (O6 ii ad) dL)) (aB ii) aD) (b6 2 (O6 ii ac))))) (ak (fIf (av (O8 (O6 be ad) ww)) (aB (au dC (O5 (P2 (O5 bn))))) aD) (ak (fIf (av (O8 (O6 be ad) IN)) (aB (bZ (bg (fUn (bv .int) (O6 bn ad))) (O7 (ae dL (O5 sB))) (O7 (ae io (O5 (Op (O5 (O6 bn ad)))))))) aD) (aB (au bI (ae (O6 be ad) (ae (O6 bn ad) (O5 (O6 bn ac))))))))))))
def iC:FnM:=aP 1 (ak (fIf (cF (bL (bg (fUn (bv .str) be))) (bL (av (hU leD leD ac (Op (O5 be)) sK)))) (aB kt) aD) (aB (fCB gi (O5 (bC (bf be) bu (af inD be pp))))))
def gP:FnM:=aP 5 (ak (cI 2 ah) (ak (cI 3 ah) (ak (bi (av (af inD (O6 be ad) (O7 (ae wn (ae (fC (.str "peek")) (O5 xz)))))) (ak (aF 4 (hW (cM 25) (ae (O6 be ac) (O5 bn)))) (ak (fIf (av (O8 (O6 ii ad) dL)) (aB (O7 (ae (P2 (O5 f8)) (O5 ii)))) aD) (fIf (av (O8 (O6 be ad) xz)) (aF 0 (bZ (av (af inG (O6 ii ac) (O7 (ae ad (ae At (O5 (O7 ah))))))) (O6 be pi) (O6 be dl))) (fIf (bL (bg (au iC (O5 (O6 ii ac))))) (aB (O7 (ae (P2 (O5 f8)) (O5 (O7 (ae dL (O5 KK))))))) (fIf (av (af c8 (O6 ii ac) cr)) (aB (O7 (ae (P2 (O5 f8)) (O5 (O7 (ae BT (O5 (O6 ii ac)))))))) (ak (b6 2 (P0 cr (O6 ii ac))) (ak (fIf (av (O8 (O6 be ad) wn)) (b6 3 (O7 (ae (O6 ii ac) (O5 (au (dB 25) (O5 (P0 cr (O6 ii ac)))))))) aD) (aF 0 (O6 be dl))))))))) 100000) (ak (fIf (av (O8 (O6 be ad) wE)) (aB (O7 (ae (P2 (O5 f8)) (O5 (O7 (ae dL (O5 (O6 be ac)))))))) aD) (ak (aF 4 (hW (cM 25) (ae (O6 be ac) (O5 bn)))) (ak (fIf (av (O8 (O6 ii ad) dL)) (aB (O7 (ae (P2 (O5 f8)) (O5 ii)))) aD) (aB (O7 (ae (P2 (O5 f8)) (ae (O7 (ae im (O5 (au (dB 25) (O5 (O6 ii ac)))))) (O5 (O6 ii ac))))))))))))
def iD:FnM:=aP 5 (ak (jT 1 (O6 be ad)) (ak (aF 2 (fUn gf ac)) (ak (bi (av (P1 bn (Op (O5 cr)))) (ak (aF 2 (Op (O5 cr))) (bH 3 (bf (O6 be ac)) (fIf (av (af c8 f8 cr)) (ak (aF 4 (dZ (au gP (ae (P0 (O6 be ac) f8) (O5 cr))))) (fIf (av (O8 (O6 (O6 ii ac) ad) im)) (bP 1 f8 (O6 ii dl)) aD)) aD))) 100000) (aB cr))))
def eY:Nat->FnM
 |0=>fun _ _=>none
 |n+1=>aP 3 (ak (fIf (av (O8 (O6 be ad) pc)) (aB (O9 (fC (.str "put ")) (au (dB 25) (O5 (O6 be ac))))) aD) (ak (fIf (av (O8 (O6 be ad) wf)) (aB (O9 (fC (.str "got ")) (fCB gc (O5 (O6 be ac))))) aD) (ak (cI 1 (O5 (O6 be ad))) (ak (aF 2 (fSl be (fP ac) cV)) (ak (fIf (av (O8 (O6 be ad) ww)) (ak (b6 1 (fCB gc (O5 (Op (O5 (O6 be ac)))))) (aF 2 (O6 be ac))) aD) (aB (af fD (fC (.str " ")) (O9 cr (bC (bf bn) bu (au (eY n) (O5 be)))))))))))
def fg:Nat->FnM
 |0=>fun _ _=>none
 |n+1=>aP 2 (ak (fIf (av (O8 (O6 be ad) wE)) (aB (O9 (fC (.str "fail ")) (O6 be ac))) aD) (ak (aF 1 (OZ (ae (O6 be ad) (O5 (au (eY 25) (O5 (O6 be ac))))))) (aB (af fD (fC (.str " ")) (O9 cr (bC (bf (fSl be (fP dl) cV)) bu (au (fg n) (O5 be))))))))
def c5:Nat->FnM
 |0=>fun _ _=>none
 |n+1=>aP 7 (ak (aF 4 (au aS (ae be (O5 (fC (.int 12)))))) (ak (fIf (b9 (av (P1 ii mt)) (av (af gtD cr ad))) (aB (O7 (ae wf (O5 (au aS (ae be (O5 cr))))))) aD) (ak (fIf (cF (av (O8 f8 ad)) (av (P1 ii zn))) (aB (O7 (ae pc (O5 (au gk (ae be (O5 bn))))))) aD) (ak (aF 5 (au (c5 n) (ae be (ae cr (ae bn (O5 (af fG f8 ac))))))) (ak (fIf (av (O8 ii zn)) (aB (O7 (ae IN (O5 ld)))) aD) (ak (aF 6 (au (c5 n) (ae be (ae cr (ae bn (O5 (af fG f8 ac))))))) (ak (fIf (av (O8 ii sK)) (aB (O7 (ae ww (O5 (fSl (O7 (ae ld (O5 tz))) cV (fP (au aS (ae be (O5 pi))))))))) aD) (aB (O7 (ae (O6 (OZ (ae wT (ae O0 (ae Ch (ae IO (O5 (fC (.str "less")))))))) (au aS (ae be (O5 wp)))) (ae ld (O5 tz))))))))))))
def jo:FnM:=aP 4 (ak (aF 3 (au aS (ae be (O5 wv)))) (ak (fIf (av (P1 f8 zn)) (aB (O7 (ae pc (O5 (O6 bn (au aS (ae be (O5 (Op (O5 bn)))))))))) aD) (ak (fIf (av (O8 f8 zn)) (aB (O7 (ae Ch (ae (O7 (ae pc (O5 (O6 bn (au aS (ae be (O5 (Op (O5 bn))))))))) (O5 (O7 (ae pc (O5 At)))))))) aD) (aB (au (c5 25) (ae be (ae cr (ae bn (O5 ac)))))))))
def dm:Nat->FnM
 |0=>fun _ _=>none
 |n+1=>aP 10 (ak (aF 6 (au aS (ae be (O5 sK)))) (ak (fIf (b9 (av (P1 tz mt)) (av (af gtD f8 ad))) (ak (aF 7 (bZ (b9 (bg ld) (av (O8 (au aS (ae be (O5 pi))) ad))) (fC (.str "peek")) wn)) (ak (aF 8 (au jo (ae be (ae cr (O5 bn))))) (aB (O7 (ae u8 (ae No (O5 (au (dm n) (ae be (ae (O9 cr ac) (ae bn (ae (af fG f8 ac) (ae ii (O5 ld)))))))))))))) aD) (ak (fIf (b9 (av (af inD tz (O7 (ae mt (O5 wp))))) (av (af gtD ii ad))) (ak (aF 8 (au (c5 25) (ae be (ae cr (ae bn (O5 ac)))))) (ak (aF 9 (au (dm n) (ae be (ae cr (ae bn (ae f8 (ae (af fG ii ac) (O5 ld)))))))) (aB (O7 (ae xz (ae No (ae (aa 9) (O5 (au (dm n) (ae be (ae cr (ae bn (ae f8 (ae (af fG ii ac) (O5 ld))))))))))))))) aD) (ak (fIf (b9 (av (O8 tz (fC (.int 6)))) (av (O8 (au aS (ae be (O5 dl))) ad))) (aB (O7 (ae wE (O5 (O6 bn (au aS (ae be (O5 (Op (O5 bn)))))))))) aD) (aB (O7 (ae Db (O5 (au (c5 25) (ae be (ae cr (ae bn (O5 ac)))))))))))))
def fN:FnM:=aP 5 (ak (dj 3 4 (O6 (OZ (ae (O7 (ae mt (O5 ac))) (ae (O7 (ae dl (O5 dl))) (ae (O7 (ae ac (O5 ac))) (ae (O7 (ae pi (O5 ac))) (O5 (O7 (ae ad (O5 ac))))))))) (au aS (ae be (O5 wp))))) (aB (au (dm 25) (ae be (ae ad (ae cr (ae f8 (ae ii (O5 bn)))))))))
def kH:FnM:=aP 9 (ak (dh 4) (ak (dh 5) (ak (bH 6 (eP (Op (O5 bn))) (jU 7 bS (ae be (O5 (O9 cr tz))) (ak (aF 8 (au aS (ae u8 (O5 sK)))) (fIf (av (P1 No dl)) (bP 4 (O6 bn tz) (au gk (ae u8 (O5 bn)))) (fIf (av (P1 No zn)) (bP 5 (O6 bn tz) (au fN (ae u8 (ae bn (O5 f8))))) aD))))) (aB (O7 (ae ii (O5 ld)))))))
def jp:FnM:=aP 8 (ak (aF 4 (O6 bn (au aS (ae be (O5 (Op (O5 bn))))))) (ak (lM 5 (bC (bf (O6 cr ad)) (av (af neD be ld)) (O7 (ae be (O5 (P0 (O6 bn ad) be)))))) (ak (lM 6 (bC (bf (O6 cr ac)) (av (af neD be ld)) (O7 (ae be (O5 (P0 (O6 bn ac) be)))))) (ak (aF 7 (au aS (ae be (O5 wp)))) (ak (fIf (av (P1 u8 dl)) (bP 5 ii (au gk (ae be (O5 bn)))) (fIf (av (P1 u8 mt)) (bP 6 ii (au fN (ae be (ae bn (O5 f8))))) aD)) (aB (O7 (ae ld (O5 tz)))))))))
def kG:FnM:=aP 12 (ak (dh 4) (ak (aF 5 (bC (bf bn) bu (au iD (O5 be)))) (ak (bH 6 (eP (Op (O5 f8))) (jU 7 bS (ae be (O5 (O9 cr tz))) (ak (aF 8 (au aS (ae u8 (O5 (Op (O5 bn)))))) (ak (aF 9 (O6 ld No)) (ak (fIf (av (O8 (au aS (ae u8 (O5 mt))) ad)) (ak (dh 9) (bH 10 (bf f8) (fIf (av (af gtD (au aS (ae u8 (O5 mt))) ad)) (bP 9 (aa 10) (au gk (ae u8 (O5 f8)))) aD))) aD) (fIf (b9 (av (af inA (O6 f8 tz) (O6 (O6 bn No) ac))) (av (af gtD (au aS (ae u8 (O5 wp))) ad))) (ak (aF 11 (P0 (O6 (O6 bn No) ac) (O6 f8 tz))) (bP 4 (O6 f8 tz) (dZ (O7 (ae (au (fg 25) (O5 (aa 11))) (O5 (O9 (O7 (O5 (O6 f8 tz))) (fSl (au gP (ae (aa 11) (O5 (aa 9)))) cV (fP dl))))))))) aD)))))) (aB ii))))
def kA:FnM:=aP 6 (ak (aF 2 (cq jq bS (ae be (O5 ad)) (O5 (O9 pi (cq aS bS (ae be (O5 ac)) (O5 wp)))))) (ak (aF 3 (au kH (ae be (ae pi (ae bn (O5 cr)))))) (ak (aF 4 (OZ (O5 f8))) (ak (bH 5 (eP (O9 ac (cq aS bS (ae be (O5 wv)) (O5 mt)))) (aF 3 (cq jp bS (ae be (O5 (O9 (fC (.int 11)) ld))) (ae f8 (ae bn (O5 cr)))))) (aB (O7 (ae bn (ae f8 (O5 (au kG (ae be (ae (fC (.int 16)) (ae (O9 ii (OZ (O5 f8))) (O5 bn))))))))))))))
def iI:FnM:=aP 6 (ak (cI 3 ah) (ak (cI 4 ah) (ak (bi (b9 (av (af inA bn (O6 be ac))) (av (af du bn ii))) (ak (aF 5 (au eg (ae be (ae cr (O5 bn))))) (ak (fIf (av (af isD ld wP)) (aB f8) aD) (ak (b6 3 (O7 (ae bn (O5 ld)))) (ak (b6 4 bn) (fIf (av (O8 (O6 ld ad) Cl)) (aF 2 (O6 ld dl)) (fIf (av (O8 (O6 ld ad) AT)) (aF 2 (O6 ld ac)) aD)))))) 100000) (aB f8))))
def fM:FnM:=aP 6 (ak (aF 4 kt) (ak (XO.ma 4 5 (XO.me (av (O8 be ad)) (XO.fq qL (ae cr (ae bn (O5 f8)))) (XO.fq kz (ae cr (ae bn (O5 f8)))))) (aB ii)))
def pP:FnM:=aP 8 (ak (pU 1 2 3 (au kA (ae be (O5 (O8 (cq aS bS (ae be (O5 dl)) (O5 pi)) ad))))) (ak (aF 4 (O7 (ae (O7 (ae (ij (O6 bn ad)) (O5 (ij (O6 bn ac))))) (O5 (ij f8))))) (ak (bH 5 (bf (O9 cr (OZ (O5 (fC (.str "zzzz")))))) (fIf (av (af c8 ld (O6 bn ac))) (fIf (cF (bL (bg (au fM (ae ad (ae bn (ae f8 (O5 ld))))))) (bL (bg (au fM (ae ac (ae bn (ae f8 (O5 ld)))))))) (aB kt) aD) (ak (aF 6 (au iI (ae bn (ae f8 (O5 ld))))) (ak (lL 7 gx (ae (O6 ii ad) (ae (O6 ii ac) (O5 ld)))) (ak (fIf (cF (bL (bg (fUn (bv .lst) u8))) (av (af neG u8 tz))) (aB kt) aD) (ak (fIf (bL (bg (dZ (fCB gi (O5 (bC (bf u8) bu (fUn (bv .tup) be))))))) (aB kt) aD) (ak (b6 7 wP) (qh 7 (fIf (av (af neG (nQ gx (ae (O6 ii ad) (ae (O6 ii ac) (O5 ld)))) tz)) (aB kt) aD))))))))) (aB (af eqQ ii (O7 (ae bn (O5 f8))))))))
def t5(n:Nat):FS:=(iu 1 (au (ff n) (O5 bn)))
theorem Br(n:Nat):ff (n+1)=aP 3 (ak (gH 1 (OZ (O5 (O6 be ad))) (au gO (O5 be))) (ak (bH 2 (bf (au cW (O5 be))) (t5 n)) (aB cr))):=rfl
def tY(n:Nat):FS:=(iu 1 (au (gj n) (O5 bn)))
theorem Bn(n:Nat):gj (n+1)=aP 3 (ak (fIf (av (O8 (O6 be ad) wE)) (aB (OZ (ae (O6 be ad) (O5 (O6 be ac))))) aD) (ak (gH 1 (OZ (O5 (O6 be ad))) (au (ff 25) (O5 (O6 be ac)))) (ak (bH 2 (bf (fSl be (fP dl) cV)) (tY n)) (aB cr)))):=rfl
def qo:FS:=(bP 1 bn (O7 (ae im (O5 (au (dr 25) (O5 f8))))))
def qm:FS:=(bP 1 bn (O6 ii dl))
theorem BD:gS=aP 5 (ak (dh 1) (ak (gI 2 3 (O6 be ad) qo) (ak (gI 2 4 (au kK (O5 be)) qm) (aB cr)))):=rfl
def gr:FS:=(ak (b6 5 (O7 (ae bn (O5 f8)))) (ak (aF 2 (au gu (O5 f8))) (ak (fIf (cF (av (af hJ bn (O6 be ac))) (jV (av (af inD bn (bC (bf ld) bu (O6 be ad)))))) (gB 5) aD) (aF 3 (au dq (ae ii (ae (O6 be ac) (ae cr (O5 bn)))))))))
theorem B0:gx=ja 6 (ak (aF 3 (au eg (ae be (ae cr (O5 bn))))) (ak (aF 4 (au gS (O5 be))) (ak (cI 5 ah) (ak (bi (av (af iV f8 wP)) gr 100000) (gB 5))))):=rfl
def qA:FS:=(ak (aF 6 (au aS (ae be (O5 wp)))) (ak (aF 7 (O6 f8 (au aS (ae be (O5 LE))))) (ak (fIf (av (O8 tz ad)) (aF 7 (O6 bn (au aS (ae be (O5 sK))))) aD) (ak (fIf (b9 (av (O8 tz ac)) (av (af gtD (Op (O5 ii)) ad))) (aF 7 (fSl (O9 (O6 ii (fUn gf ac)) u8) cV (fP sK))) aD) (ak (fIf (av (O8 tz dl)) (aF 7 (af eU (O9 u8 (O6 f8 (au aS (ae be (O5 LE))))) mt)) aD) (ak (fIf (av (af inD u8 ii)) (aF 7 (O6 (bC (bf f8) (av (af du be ld)) be) ad)) aD) (mB 4 (au aS (ae be (O5 (O9 (Op (O5 ii)) ac)))) u8)))))))
theorem Cy:jq=aP 8 (ak (aF 2 (OZ (ae im (ae Ix (ae Db (ae wn (ae dL (ae wf (ae pc (O5 Fa)))))))))) (ak (aF 3 pp) (ak (cI 4 ah) (ak (bH 5 (eP cr) qA) (aB ii))))):=rfl
def gR:FS:=(ak (aF 4 (hW (cM 25) (ae (O6 be ac) (O5 bn)))) (ak (fIf (av (O8 (O6 ii ad) dL)) (aB (O7 (ae (P2 (O5 f8)) (O5 ii)))) aD) (fIf (av (O8 (O6 be ad) xz)) (aF 0 (bZ (av (af inG (O6 ii ac) (O7 (ae ad (ae At (O5 (O7 ah))))))) (O6 be pi) (O6 be dl))) (fIf (bL (bg (au iC (O5 (O6 ii ac))))) (aB (O7 (ae (P2 (O5 f8)) (O5 (O7 (ae dL (O5 KK))))))) (fIf (av (af c8 (O6 ii ac) cr)) (aB (O7 (ae (P2 (O5 f8)) (O5 (O7 (ae BT (O5 (O6 ii ac)))))))) (ak (b6 2 (P0 cr (O6 ii ac))) (ak (fIf (av (O8 (O6 be ad) wn)) (b6 3 (O7 (ae (O6 ii ac) (O5 (au (dB 25) (O5 (P0 cr (O6 ii ac)))))))) aD) (aF 0 (O6 be dl)))))))))
def eG:FS:=(fIf (av (af c8 f8 cr)) (ak (aF 4 (dZ (au gP (ae (P0 (O6 be ac) f8) (O5 cr))))) (fIf (av (O8 (O6 (O6 ii ac) ad) im)) (bP 1 f8 (O6 ii dl)) aD)) aD)
def mZ:FS:=(ak (aF 2 (Op (O5 cr))) (bH 3 (bf (O6 be ac)) eG))
theorem Di:iD=aP 5 (ak (jT 1 (O6 be ad)) (ak (aF 2 (fUn gf ac)) (ak (bi (av (P1 bn (Op (O5 cr)))) mZ 100000) (aB cr)))):=rfl
def jx:FS:=(ak (aF 8 (au aS (ae u8 (O5 sK)))) (fIf (av (P1 No dl)) (bP 4 (O6 bn tz) (au gk (ae u8 (O5 bn)))) (fIf (av (P1 No zn)) (bP 5 (O6 bn tz) (au fN (ae u8 (ae bn (O5 f8))))) aD)))
def qK:FS:=(jU 7 bS (ae be (O5 (O9 cr tz))) jx)
theorem Dj:kH=aP 9 (ak (dh 4) (ak (dh 5) (ak (bH 6 (eP (Op (O5 bn))) qK) (aB (O7 (ae ii (O5 ld))))))):=rfl
def kT:FS:=(fIf (av (af gtD (au aS (ae u8 (O5 mt))) ad)) (bP 9 (aa 10) (au gk (ae u8 (O5 f8)))) aD)
def kS:FS:=(ak (aF 8 (au aS (ae u8 (O5 (Op (O5 bn)))))) (ak (aF 9 (O6 ld No)) (ak (fIf (av (O8 (au aS (ae u8 (O5 mt))) ad)) (ak (dh 9) (bH 10 (bf f8) kT)) aD) (fIf (b9 (av (af inA (O6 f8 tz) (O6 (O6 bn No) ac))) (av (af gtD (au aS (ae u8 (O5 wp))) ad))) (ak (aF 11 (P0 (O6 (O6 bn No) ac) (O6 f8 tz))) (bP 4 (O6 f8 tz) (dZ (O7 (ae (au (fg 25) (O5 (aa 11))) (O5 (O9 (O7 (O5 (O6 f8 tz))) (fSl (au gP (ae (aa 11) (O5 (aa 9)))) cV (fP dl))))))))) aD))))
def qJ:FS:=(jU 7 bS (ae be (O5 (O9 cr tz))) kS)
theorem Dh:kG=aP 12 (ak (dh 4) (ak (aF 5 (bC (bf bn) bu (au iD (O5 be)))) (ak (bH 6 (eP (Op (O5 f8))) qJ) (aB ii)))):=rfl
def mO:FS:=(aF 3 (cq jp bS (ae be (O5 (O9 (fC (.int 11)) ld))) (ae f8 (ae bn (O5 cr)))))
theorem Cw:kA=aP 6 (ak (aF 2 (cq jq bS (ae be (O5 ad)) (O5 (O9 pi (cq aS bS (ae be (O5 ac)) (O5 wp)))))) (ak (aF 3 (au kH (ae be (ae pi (ae bn (O5 cr)))))) (ak (aF 4 (OZ (O5 f8))) (ak (bH 5 (eP (O9 ac (cq aS bS (ae be (O5 wv)) (O5 mt)))) mO) (aB (O7 (ae bn (ae f8 (O5 (au kG (ae be (ae (fC (.int 16)) (ae (O9 ii (OZ (O5 f8))) (O5 bn)))))))))))))):=rfl
def gY:FS:=(ak (aF 5 (au eg (ae be (ae cr (O5 bn))))) (ak (fIf (av (af isD ld wP)) (aB f8) aD) (ak (b6 3 (O7 (ae bn (O5 ld)))) (ak (b6 4 bn) (fIf (av (O8 (O6 ld ad) Cl)) (aF 2 (O6 ld dl)) (fIf (av (O8 (O6 ld ad) AT)) (aF 2 (O6 ld ac)) aD))))))
theorem EL:iI=aP 6 (ak (cI 3 ah) (ak (cI 4 ah) (ak (bi (b9 (av (af inA bn (O6 be ac))) (av (af du bn ii))) gY 100000) (aB f8)))):=rfl
def ly:FS:=(fIf (av (af c8 ld (O6 bn ac))) (fIf (cF (bL (bg (au fM (ae ad (ae bn (ae f8 (O5 ld))))))) (bL (bg (au fM (ae ac (ae bn (ae f8 (O5 ld)))))))) (aB kt) aD) (ak (aF 6 (au iI (ae bn (ae f8 (O5 ld))))) (ak (lL 7 gx (ae (O6 ii ad) (ae (O6 ii ac) (O5 ld)))) (ak (fIf (cF (bL (bg (fUn (bv .lst) u8))) (av (af neG u8 tz))) (aB kt) aD) (ak (fIf (bL (bg (dZ (fCB gi (O5 (bC (bf u8) bu (fUn (bv .tup) be))))))) (aB kt) aD) (ak (b6 7 wP) (qh 7 (fIf (av (af neG (nQ gx (ae (O6 ii ad) (ae (O6 ii ac) (O5 ld)))) tz)) (aB kt) aD))))))))
theorem Ez:pP=aP 8 (ak (pU 1 2 3 (au kA (ae be (O5 (O8 (cq aS bS (ae be (O5 dl)) (O5 pi)) ad))))) (ak (aF 4 (O7 (ae (O7 (ae (ij (O6 bn ad)) (O5 (ij (O6 bn ac))))) (O5 (ij f8))))) (ak (bH 5 (bf (O9 cr (OZ (O5 (fC (.str "zzzz")))))) ly) (aB (af eqQ ii (O7 (ae bn (O5 f8)))))))):=rfl
end G
namespace K1
open PySem
structure Sh(d:Pa)(k n:Nat):Prop where
 sh:d.showable=true
 lv:d.leavesShort 200=true
 dp:d.depth<=k
 wt:d.weight<=n
theorem Sh.mono(h:Sh d k n)(hk:k<=k')(hn:n<=n'):Sh d k' n':=⟨h.sh,h.lv,PL h.dp hk,PL h.wt hn⟩
theorem Sh.int(h:i.natAbs<10^40):Sh (.int i) 0 200:=by
 have l:i.natAbs.log2<150:=by
  by_cases h0:i.natAbs=0
  .rw[h0];decide
  .exact(Vx h0).mpr (V8 h (by decide))
 refine⟨?_,?_,Pm _,?_⟩
 .show decide (i.natAbs.log2<1920)=true
  exact decide_eq_true (by omega)
 .show decide ((PyData.shown (.int i)).length<=200)=true
  refine decide_eq_true ?_;have e:=int_text_length_le10 (k:=40) (by decide) h;show (Pc (toString i)).length<=200;rw[PySem.ofString_length];omega
 .show (if i == 0 then 0 else i.natAbs.log2+1)<=200
  split <;> omega
theorem Sh.str(h:∀c∈x.cps.toList,c<128)(hn:x.length<=n):Sh (.str x) 0 n:=by
 refine⟨rfl,?_,Pm _,hn⟩;show (x.cps.toList.all fun c=>decide (c<16^8))=true;exact PB.mpr fun c hc=>decide_eq_true (V8 (h c hc) (by decide))
structure Shs(ds:List Pa)(k n:Nat):Prop where
 sh:V1 ds=true
 lv:Vl 200 ds=true
 dp:RY ds<=k
 wt:RT ds<=n
theorem Shs.nil(k n:Nat):Shs [] k n:=⟨rfl,rfl,QE _,QE _⟩
theorem Shs.cons(h:Sh d k n)(t:Shs ds k m):Shs (d::ds) k (n+1+m):=by
 refine⟨?_,?_,?_,?_⟩
 .show (d.showable&&V1 ds)=true
  rw[h.sh,t.sh];rfl
 .show (d.leavesShort 200&&Vl 200 ds)=true
  rw[h.lv,t.lv];rfl
 .show max d.depth (RY ds)<=k
  exact Nat.max_le.mpr ⟨h.dp,t.dp⟩
 .show d.weight+1+RT ds<=n+1+m
  have:=h.wt;have:=t.wt;omega
theorem Shs.of:∀{ds:List Pa}{k:Nat}{f:Pa->Nat},(∀d∈ds,Sh d k (f d))->Shs ds k ((ds.map fun d=>f d+1).sum)
 |[],k,f,_=>Shs.nil _ _
 |d::r,k,f,h=>by
  have q:=Shs.of (ds:=r) (f:=f) fun x hx=>h x (Pg _ hx);have z:=Shs.cons (h d Pi) q;simpa using z
theorem Sh.tuple(h:Shs ds k n):Sh (.tuple ds) (k+1) n:=⟨h.sh,h.lv,WC h.dp,h.wt⟩
theorem iW(hs:∀c∈s.cps.toList,c<128)(h:has s x=true):∀c∈x.cps.toList,c<128:=fun c hc=>
 hs c (of_decide_eq_true (PB.mp h c hc))
theorem jX:∀c∈TXT.cps.toList,c<128:=by decide +kernel
theorem JE:∀c∈LET.cps.toList,c<128:=by decide +kernel
theorem sy:∀(n:Nat) (d:Pa),aO n d=true->Sh d n (201*(aM n d).toNat)/\1<=aM n d
 |0,d,h=>by
  cases d with
  |int i=>
   have h':=of_decide_eq_true (p:=(if i<0 then -i else i)<=10^18) h;refine⟨(Sh.int ?_).mono (Pm _) (by show 200<=201*(1:Int).toNat;decide),QV 1⟩
   have:i.natAbs<=10^18:=by split at h' <;> omega
   exact QC this (by decide)
  |str x=>
   have h':(decide (x.length<=20)&&has TXT x)=true:=h;rw[Po] at h';have:=of_decide_eq_true h'.1;exact⟨(Sh.str (n:=20) (iW jX h'.2) this).mono (Pm _) (by show 20<=201*(1:Int).toNat;decide),QV 1⟩
  |_=>cases h
 |n+1,d,h=>by
  cases d with
  |int i=>
   have h':=of_decide_eq_true (p:=(if i<0 then -i else i)<=10^18) h;refine⟨(Sh.int ?_).mono (QE _) (by show 200<=201*(1:Int).toNat;decide),QV 1⟩
   have:i.natAbs<=10^18:=by split at h' <;> omega
   exact QC this (by decide)
  |str x=>
   have h':(decide (x.length<=20)&&has TXT x)=true:=h;rw[Po] at h';have:=of_decide_eq_true h'.1;exact⟨(Sh.str (n:=20) (iW jX h'.2) this).mono (QE _) (by show 20<=201*(1:Int).toNat;decide),QV 1⟩
  |tuple ds=>
   have h':(decide (ds.length<=8)&&ds.all (aO n))=true:=h;rw[Po] at h';have ha:=PB.mp h'.2;have q:=Shs.of (ds:=ds) (k:=n) (f:=fun x=>201*(aM n x).toNat) fun x hx=>(sy n x (ha x hx)).1
   have key:∀l:List Pa,(∀x∈l,1<=aM n x)->0<=(l.map (aM n)).sum/\(l.map fun x=>201*(aM n x).toNat+1).sum<=201*((l.map (aM n)).sum).toNat+l.length:=by
    intro l
    induction l with
    |nil=>intro _;exact⟨by simp,by simp⟩
    |cons x r ih=>
     intro hx;have h1:=hx x Pi;have h2:=ih fun y hy=>hx y (Pg _ hy);simp only[Pz,Rn,PH];omega
   have kk:=key ds fun x hx=>(sy n x (ha x hx)).2;have hl:=of_decide_eq_true h'.1;have e:aM (n+1) (.tuple ds)=1+(ds.map (aM n)).sum:=rfl;refine⟨(Sh.tuple q).mono (Pm _) ?_,?_⟩
   .rw[e];omega
   .rw[e];omega
  |_=>cases h
end K1
namespace K1
open PySem
def Good(d:Pa):Prop:=Sh d 60 60000
end K1
namespace G
open L2 D
open K1 (has LET TXT single aO aM lsz isName aH tdp aY ldp)
mutual
def smB:Pa->Bool
 |.str x=>decide (x.length<=60000)&&x.cps.toList.all fun c=>decide (c<128)
 |.tuple ds=>il ds
 |_=>true
def il:List Pa->Bool
 |[]=>true
 |d::r=>smB d&&il r
end
def Sm(d:Pa):Prop:=smB d=true
theorem Sm.both(h:Sm (.str x)):x.length<=60000/\∀c∈x.cps.toList,c<128:=by
 have h':(decide (x.length<=60000)&&x.cps.toList.all fun c=>decide (c<128))=true:=by
  have:smB (.str x)=true:=h;rw[smB] at this;exact this
 rw[Po,PB] at h';exact⟨of_decide_eq_true h'.1,fun c hc=>of_decide_eq_true (h'.2 c hc)⟩
theorem Sm.str(h:Sm (.str x)):x.cps.size<=60000:=h.both.1
theorem Sm.mkS(h:x.length<=60000)(h2:∀c∈x.cps.toList,c<128):Sm (.str x):=by
 show smB (.str x)=true;rw[smB,Po,PB];exact⟨decide_eq_true h,fun c hc=>decide_eq_true (h2 c hc)⟩
theorem vO:∀{ds:List Pa}{d:Pa},il ds=true->d∈ds->smB d=true
 |e::r,d,h,hd=>by
  have h':(smB e&&il r)=true:=by simpa[il] using h
  rw[Po] at h'
  rcases Pt.mp hd with z|z
  .rw[z];exact h'.1
  .exact vO h'.2 z
theorem Sm.part(h:Sm (.tuple ds))(hd:d∈ds):Sm d:=vO (by simpa[Sm,smB] using h) hd
theorem wX:∀{ds:List Pa},(∀d∈ds,Sm d)->il ds=true
 |[],_=>by simp[il]
 |d::r,h=>by
  have h1:smB d=true:=h d Pi;simp[il,h1,wX (ds:=r) fun x hx=>h x (Pg _ hx)]
theorem Sm.tup(h:∀d∈ds,Sm d):Sm (.tuple ds):=by simp[Sm,smB,wX h]
def whole:Pa->Bool
 |.int _=>true
 |_=>false
theorem jH(x:Pa)(T:Tp):fm [.d x] T=some (.bool (whole x),T):=by cases x <;> rfl
theorem u9(y x:Str):(D.signs x).all (lH y)=has y x:=by
 unfold D.signs has;rw[Wh]
 congr 1
 funext c;exact EQ y c
theorem Aw(T:Tp)(h:x.length<=Pp):iH [.d (.str x),.d (.str y)] T=some (.bool (has y x),T):=by
 have hc:bD bu (af inD (aa 0) (aa 2)) [some (.d (.str x)),some (.d (.str y))] (D.signs x) T=some ((D.signs x).map fun d=>.bool (lH y d),T):=eE fun d hd=>by
  obtain⟨c,_,rfl⟩:=u7 hd;rfl
 simp[iH,h,hc,u9]
theorem Fq(T:Tp)(h:Sm d):kF [.d d] T=some (.bool (single d),T):=by
 cases d with
 |str x=>
  have hz:x.length<=sizeLine:=PL h.str (by decide);have hh:∀T,iH [.d (.str x),.d (.str "abcdefghijklmnopqrstuvwxyz0123456789-")] T=some (.bool (has TXT x),T):=fun T=>Aw T hz;have e:single (.str x)=(decide (x.length<=20)&&has TXT x):=rfl;have hi:cu .str .str=true:=rfl
  by_cases hk:x.length<=20
  .have hk':(x.length:Int)<=20:=by omega
   simp[kF,jH,whole,hh,hz,hi,e,hk,hk']
  .have hk':¬(x.length:Int)<=20:=by omega
   simp[kF,jH,whole,hh,hz,hi,e,hk,hk']
 |_=>rfl
theorem oQ(h:kd d=.tup):∃ds,d=.tuple ds:=by cases d <;> first|exact⟨_,rfl⟩|cases h
theorem xB(h:kd d≠.tup):cu (kd d) .tup=false:=by
 revert h
 cases kd d <;> simp[cu]
theorem ur(h:kd d≠.tup):aO n d=single d:=by cases d <;> first|(cases n <;> rfl)|exact absurd rfl h
theorem uD(h:kd d≠.tup):aM n d=1:=by cases d <;> first|(cases n <;> rfl)|exact absurd rfl h
theorem K0(h:tdp 0 d=true):kd d≠.tup:=by
 intro z
 cases d <;> first|cases h;done|cases z
theorem oS:cu .tup .tup=true:=rfl
theorem yD:∀(n k:Nat) (d:Pa) (T:Tp),Sm d->n<k->fO k [.d d,.d (.int n)] T=some (.bool (aO n d),T)
 |n,0,d,T,_,hk=>absurd hk (RX _)
 |n,k+1,d,T,hg,hk=>by
  by_cases ht:kd d=.tup
  .obtain⟨ds,rfl⟩:=oQ ht
   cases n with
   |zero=>simp[fO,oS,aO]
   |succ n=>
    have e:aO (n+1) (.tuple ds)=(decide (ds.length<=8)&&ds.all (aO n)):=rfl
    have h0:¬((n+1:Nat):Int)=0:=by omega
    have h0':¬(n:Int)+1=0:=by omega
    by_cases h8:ds.length<=8
    .have h8':¬(8:Int)<(ds.length:Int):=by omega
     have hs:((n+1:Nat):Int)-1=(n:Int):=by omega
     have hc:bD bu (au (fO k) (ae (aa 0) (ae (af fG (aa 2) (fC (.int 1))) ah))) [some (.d (.tuple ds)),some (.d (.int ((n+1:Nat):Int)))] ds T=some (ds.map fun x=>.bool (aO n x),T):=eE fun x hx=>by
      have:=yD n k x T (hg.part hx) (by omega);simp[hs,this]
     simp[fO,oS,e,h0,h0',h8,h8'] at hc ⊢;simp[hc]
    .have h8':(8:Int)<(ds.length:Int):=by omega
     simp[fO,oS,e,h0,h0',h8,h8']
  .simp[fO,xB ht,ur ht,Fq T hg]
theorem zH:∀(n k:Nat) (d:Pa) (T:Tp),tdp n d=true->n<k->iJ k [.d d] T=some (.int (aM n d),T)
 |n,0,d,T,_,hk=>absurd hk (RX _)
 |n,k+1,d,T,hg,hk=>by
  by_cases ht:kd d=.tup
  .cases n with
   |zero=>exact absurd ht (K0 hg)
   |succ n=>
    obtain⟨ds,rfl⟩:=oQ ht;have hg':ds.all (tdp n)=true:=hg;have e:aM (n+1) (.tuple ds)=1+(ds.map (aM n)).sum:=rfl
    have hc:bD bu (au (iJ k) (ae (aa 0) ah)) [some (.d (.tuple ds))] ds T=some (ds.map fun x=>.int (aM n x),T):=eE fun x hx=>by
     have:=zH n k x T (PB.mp hg' x hx) (by omega);simp[this]
    simp[iJ,oS,e,hc]
  .simp[iJ,xB ht,uD ht]
theorem Hh(T:Tp)(h:Sm d):kL [.d d] T=some (.bool (aH d),T):=by
 have h1:=yD 4 25 d T h (by decide);have h1':fO 25 [.d d,.d (.int 4)] T=some (.bool (aO 4 d),T):=h1;have e:aH d=(aO 4 d&&decide (aM 4 d<=40)):=rfl
 cases hb:aO 4 d with
 |false=>simp[kL,h1',e,hb]
 |true=>
  have h2:=zH 4 25 d T (K1.vD 4 d hb) (by decide);simp[kL,h1',h2,e,hb]
end G
namespace D
open L2
def cd(x:Str):List Nat:=x.cps.toList
theorem ic(h:cd x=cd y):x=y:=by
 obtain⟨x⟩:=x;obtain⟨y⟩:=y;have h':x.toList=y.toList:=h;exact congrArg Str.mk (Array.toList_inj.mp h')
theorem fW(x:Str):(cd x).length=x.length:=Q0
theorem iZ(x y:Str):cd (x++y)=cd x++cd y:=cps_toList_append x y
theorem ve{α:Type}(xs:List α)(a:Nat):∀k:Nat,(Re k).filterMap (fun m=>xs[a+m]?)=(xs.drop a).take k
 |0=>by simp
 |k+1=>by
  rw[List.range_succ,List.filterMap_append,ve xs a k,Wc]
  congr 1
  simp only[RL,List.filterMap_nil,List.getElem?_drop]
  cases xs[a+k]? <;> rfl
theorem vP(h0:0<=i)(h1:0<=j):cd (QP x (some i) (some j))=((cd x).drop i.toNat).take (j.toNat-i.toNat):=by
 obtain⟨a,rfl⟩:=Int.eq_ofNat_of_zero_le h0
 obtain⟨b,rfl⟩:=Int.eq_ofNat_of_zero_le h1
 rw[Uj,Uj]
 have hl:x.cps.toList.length=x.length:=Q0
 obtain⟨p,hp⟩:∃p,min a x.length=p:=⟨_,rfl⟩
 obtain⟨q,hq⟩:∃q,min b x.length=q:=⟨_,rfl⟩
 have e:P9 (some (a:Int)) (some (b:Int)) 1 x.length=(Re (q-p)).map fun k=>p+k:=by
  have m:∀c:Nat,max 0 (min (c:Int) x.length)=((min c x.length:Nat):Int):=fun c=>by
   rcases Nat.le_total c x.length with h|h
   .rw[Nat.min_eq_left h,Int.min_eq_left (Int.ofNat_le.mpr h),Int.max_eq_right (T9 c)]
   .rw[Nat.min_eq_right h,Int.min_eq_right (Int.ofNat_le.mpr h),Int.max_eq_right (T9 _)]
  unfold P9 Xn
  simp only[show (1:Int)>0 by decide,if_true,Int.not_lt.mpr (T9 a),Int.not_lt.mpr (T9 b),if_false]
  rw[m,m,hp,hq]
  have ec:(if (p:Int)<q then ((q:Int)-p+1-1) / 1 else 0).toNat=q-p:=by
   split
   .rw[Yl,Int.add_sub_cancel];exact Int.toNat_sub q p
   .rename_i z;exact(Nat.sub_eq_zero_of_le (Int.ofNat_le.mp (Int.not_lt.mp z))).symm
  rw[ec];refine QO fun k _=>?_
  rw[Int.one_mul];rfl
 have fin:(x.cps.toList.drop p).take (q-p)=((cd x).drop a).take (b-a):=by
  unfold cd
  rcases Nat.le_total a x.length with hi|hi
  .rw[Nat.min_eq_left hi] at hp
   subst hp
   rcases Nat.le_total b x.length with hj|hj
   .rw[←hq,Nat.min_eq_left hj]
   .rw[←hq,Nat.min_eq_right hj,QZ (by rw[RO,hl];exact Pm _),QZ (by rw[RO,hl];exact Nat.sub_le_sub_right hj _)]
  .rw[←hp,Nat.min_eq_right hi,QN (Nat.le_of_eq hl),QN (hl ▸ hi)]
   rw[List.take_nil,List.take_nil]
 unfold QP;split
 .rename_i h
  have h':(P9 (some (a:Int)) (some (b:Int)) 1 x.length).length=x.length:=by simpa using h
  rw[e,Qb,List.length_range] at h';rw[←fin];show x.cps.toList=_
  rw[h',QZ (by rw[RO,hl];exact Nat.sub_le _ _)]
  have q1:q<=x.length:=hq ▸ Nat.min_le_right _ _
  by_cases hz:x.length=0
  .rw[List.length_eq_zero_iff.mp (hl.trans hz),List.drop_nil]
  .rw[show p=0 by omega];rfl
 .rw[←fin,←ve]
  show List.filterMap _ (P9 _ _ 1 x.length)=_
  rw[e,VW]
  congr 1
  funext m;simp
def bA(c:List Nat):List (List Nat)->List Nat
 |[]=>[]
 |[x]=>x
 |x::y::r=>x++c++bA c (y::r)
theorem rP(z:Str):∀ys:List Str,cd (RR z ys)=bA (cd z) (ys.map cd)
 |[]=>rfl
 |[x]=>by
  show cd (RR z [x])=cd x;simp[RR]
 |x::y::r=>by
  have ih:=rP z (y::r);show cd ((x++z)++RR z (y::r))=_;rw[iZ,iZ,ih];rfl
theorem kI(c x:List Nat)(r:List (List Nat)):bA c (x::r)=x++(r.map (c++·)).flatten:=by
 induction r generalizing x with
 |nil=>simp[bA]
 |cons y r ih=>
  show x++c++bA c (y::r)=_;rw[ih y];simp
end D
namespace G
open L2 D
open K1 (has LET TXT single aO aM lsz isName aH tdp aY ldp)
def mk(l:List Nat):Str:=⟨l.toArray⟩
theorem d6(l:List Nat):cd (mk l)=l:=by simp[cd,mk]
theorem Aa(x:Str):mk (cd x)=x:=ic (d6 _)
theorem dv(l:List Nat):(mk l).length=l.length:=by simp[mk,Str.length]
def dg(m:Nat):List Nat:=(Nat.toDigits 10 m).map YC
theorem Ak(m:Nat):NumText.AllDigits (dg m):=fun c hc=>by
 obtain⟨ch,hch,e⟩:=Pq.mp hc;rw[←e];exact digit_range (Nat.isDigit_of_mem_toDigits (by decide) (by decide) hch)
theorem zy(h:m<=10^18):(dg m).length<=19:=by
 unfold dg;rw[Qb];exact toDigits_len_pow (by decide) (by decide) (QC h (by decide))
def nc:Int->List Nat
 |.ofNat m=>dg m
 |.negSucc m=>45::dg (m+1)
theorem Kg(i:Int):cd (Pc (toString i))=nc i:=by
 cases i with
 |ofNat m=>exact W.KIN.signs_num m
 |negSucc m=>
  have e:toString (Int.negSucc m)="-"++toString (m+1):=rfl;unfold cd;rw[e,Vz];show ("-"++Nat.repr (m+1)).toList.map YC=_;rw[String.toList_append,Sq,Nat.toList_repr];rfl
theorem xD(i:Int):∀c∈nc i,c=45\/(48<=c/\c<=57):=by
 cases i with
 |ofNat m=>exact fun c hc=>.inr (Ak m c hc)
 |negSucc m=>
  intro c hc
  rcases Pt.mp hc with h|h
  .exact .inl h
  .exact .inr (Ak _ c h)
theorem qy(h:single (.int i)=true):i.natAbs<=10^18:=by
 have h':(if i<0 then -i else i)<=10^18:=of_decide_eq_true h
 have e:((10:Int)^18)=1000000000000000000:=by decide
 have e2:((10:Nat)^18)=1000000000000000000:=by decide
 rw[e] at h';rw[e2]
 split at h' <;> omega
theorem yV(h:single (.int i)=true):(nc i).length<=20:=by
 have h:=qy h
 cases i with
 |ofNat m=>
  have:=zy (m:=m) h;show (dg m).length<=20;omega
 |negSucc m=>
  have:=zy (m:=m+1) h;show (dg (m+1)).length+1<=20;omega
theorem cX(h:single d=true):(∃i,d=.int i)\/∃x,d=.str x:=by cases d <;> first|exact .inl ⟨_,rfl⟩|exact .inr ⟨_,rfl⟩|cases h
theorem cY(h:aO n d=true):single d=true\/∃m ds,n=m+1/\d=.tuple ds/\ds.length<=8/\∀x∈ds,aO m x=true:=by
 by_cases k:kd d=.tup
 .obtain⟨ds,rfl⟩:=oQ k
  cases n with
  |zero=>cases h
  |succ m=>
   right;have h':(decide (ds.length<=8)&&ds.all (aO m))=true:=h;rw[Po] at h';exact⟨m,ds,rfl,rfl,of_decide_eq_true h'.1,PB.mp h'.2⟩
 .left
  rw[ur k] at h;exact h
def tl(f:Pa->List Nat)(ds:List Pa)(r:List Nat):List Nat:=(ds.map fun d=>44::32::f d).flatten++41::r
theorem uv(h:single (.str x)=true):has TXT x=true:=by
 have h':(decide (x.length<=20)&&has TXT x)=true:=h;rw[Po] at h';exact h'.2
open K1 (has LET TXT single aO aM lsz isName aH tdp aY ldp Sh Shs)
theorem zf:cu .str .str=true:=rfl
theorem ze:cu .tup .str=false:=rfl
def sam(a b:Pa):Bool:=@decide (a=b) (SC _)
theorem FL:sam a b=true↔a=b:=by
 unfold sam;exact @decide_eq_true_iff _ (SC _)
def gt(ds:List Pa)(i:Int):PyData:=(ds[i.toNat]?).getD .none
def both(ds es:List Pa):Pa->Bool
 |.int i=>sam (gt ds i) (gt es i)
 |_=>true
theorem wL:∀(n:Nat) (v:Pa),aO n v=true->Sm v
 |n,v,h=>by
  rcases cY h with h1|⟨m,ds,rfl,rfl,_,hd⟩
  .rcases cX h1 with⟨i,rfl⟩|⟨x,rfl⟩
   .show smB (.int i)=true
    rw[smB];intro _ z;cases z;intro _ z;cases z
   .have h2:(decide (x.length<=20)&&has TXT x)=true:=h1
    rw[Po] at h2;exact Sm.mkS (PL (of_decide_eq_true h2.1) (by decide)) (K1.iW K1.jX h2.2)
  .exact Sm.tup fun d hx=>wL m d (hd d hx)
termination_by n=>n
theorem oy(h:aH v=true):Sm v:=by
 have h':(aO 4 v&&decide (aM 4 v<=40))=true:=h;rw[Po] at h';exact wL 4 v h'.1
theorem cN(h:aH v=true):aO 4 v=true/\aM 4 v<=40:=by
 have h':(aO 4 v&&decide (aM 4 v<=40))=true:=h;rw[Po] at h';exact⟨h'.1,of_decide_eq_true h'.2⟩
theorem qV(n:Nat):∀d,1<=aM n d:=by
 induction n with
 |zero=>intro d;cases d <;> exact QV _
 |succ n ih=>
  intro d
  by_cases k:kd d=.tup
  .obtain⟨ds,rfl⟩:=oQ k
   have:=K1.yH (aM n) ih ds;show 1<=1+(ds.map (aM n)).sum;omega
  .rw[uD k]
   exact QV _
theorem vN{f:Pa->Int}(h:∀d,0<=f d):∀{ds:List Pa}{d:Pa},d∈ds->f d<=(ds.map f).sum
 |e::r,d,hd=>by
  have nn:∀l:List Pa,0<=(l.map f).sum:=fun l=>by
   induction l with
   |nil=>exact QV _
   |cons a l ih=>rw[Pz,Rn];have:=h a;omega
  rw[Pz,Rn]
  rcases Pt.mp hd with z|z
  .subst z
   have:=nn r;omega
  .have:=vN h (ds:=r) z
   have:=h e;omega
theorem qE(h:d∈ds):aM n d<=aM (n+1) (.tuple ds):=by
 have:=vN (f:=aM n) (fun d=>by have:=qV n d;omega) h;show aM n d<=1+(ds.map (aM n)).sum;omega
theorem cy(h:n<=2000):n<=sizeLine:=PL h (by decide)
theorem uI{P:Pa->Prop}(h:∀a b,P a->P b->(Qc a b=true↔a=b)):∀(ds es:List Pa),(∀d∈ds,P d)->(∀d∈es,P d)->(RZ ds es=true↔ds=es)
 |[],[],_,_=>by simp[RZ]
 |[],e::es,_,_=>by simp[RZ]
 |d::ds,[],_,_=>by simp[RZ]
 |d::ds,e::es,hd,he=>by
  have ih:=uI h ds es (fun x hx=>hd x (Pg _ hx)) (fun x hx=>he x (Pg _ hx));have i0:=h d e (hd d Pi) (he e Pi);simp only[RZ];rw[Po,i0,ih];simp
theorem yc:∀(n:Nat) (a b:Pa),aO n a=true->aO n b=true->(Qc a b=true↔a=b)
 |n,a,b,ha,hb=>by
  rcases cY ha with h1|⟨m,ds,rfl,rfl,h8,hd⟩
  .rcases cX h1 with⟨i,rfl⟩|⟨x,rfl⟩
   .rcases cY hb with h2|⟨m,es,rfl,rfl,g8,he⟩
    .rcases cX h2 with⟨j,rfl⟩|⟨y,rfl⟩
     .simp[Qc]
     .simp[Qc]
    .simp[Qc]
   .rcases cY hb with h2|⟨m,es,rfl,rfl,g8,he⟩
    .rcases cX h2 with⟨j,rfl⟩|⟨y,rfl⟩
     .simp[Qc]
     .simp[Qc]
    .simp[Qc]
  .rcases cY hb with h2|⟨m',es,e,rfl,g8,he⟩
   .rcases cX h2 with⟨j,rfl⟩|⟨y,rfl⟩
    .simp[Qc]
    .simp[Qc]
   .cases e
    have:=uI (P:=fun d=>aO m d=true) (yc m) ds es hd he;simp only[Qc];rw[this];simp
termination_by n=>n
theorem GU(ha:aH a=true)(hb:aH b=true):Qc a b=sam a b:=by rw[Rh,yc 4 a b (cN ha).1 (cN hb).1,FL]
theorem Hc(h:∀d∈ds,d.canLay0=true):Rc ds=true:=by
 induction ds with
 |nil=>simp[Rc]
 |cons d r ih=>
  simp only[Rc];rw[h d Pi,ih fun x hx=>h x (Pg _ hx)];rfl
theorem uP:∀(n:Nat) (d:Pa),aO n d=true->d.canLay0=true
 |n,d,h=>by
  rcases cY h with h1|⟨m,ds,rfl,rfl,h8,hd⟩
  .rcases cX h1 with⟨i,rfl⟩|⟨x,rfl⟩
   .simp[RU]
   .have hx:=uv h1
    simp only[RU];unfold Wm;rw[←UO,PB];intro c hc;have:=K1.iW K1.jX hx c hc;exact decide_eq_true (by omega)
  .simp only[RU]
   exact Hc fun d hd'=>uP m d (hd d hd')
termination_by n=>n
theorem yF:∀{ds:List Pa},(∀d∈ds,(d.weight:Int)+1<=61*f d)->(RT ds:Int)<=61*(ds.map f).sum
 |[],_=>by simp[RT]
 |d::r,h=>by
  have h1:=h d Pi;have h2:=yF (ds:=r) fun x hx=>h x (Pg _ hx);simp only[RT,Pz,Rn];omega
theorem yE:∀(n:Nat) (d:Pa),aO n d=true->(d.weight:Int)+1<=61*aM n d
 |n,d,h=>by
  have hp:=qV n d
  rcases cY h with h1|⟨m,ds,rfl,rfl,h8,hd⟩
  .rcases cX h1 with⟨i,rfl⟩|⟨x,rfl⟩
   .have ha:=qy h1
    have:(RH i).weight<=60:=by
     simp only[VR];split
     .omega
     .rename_i hz
      have z:i.natAbs≠0:=by simp at hz;omega
      have:=(Vx (k:=60) z).mpr (QC ha (by decide));omega
    omega
   .have h':(decide (x.length<=20)&&has TXT x)=true:=h1
    rw[Po] at h';have hx:x.cps.size<=20:=of_decide_eq_true h'.1
    have:(PV x).weight=x.cps.size:=by simp only[VR]
    omega
  .have:=yF (f:=aM m) (ds:=ds) fun d hd'=>yE m d (hd d hd')
   have e:(PyData.tuple ds).weight=RT ds:=by simp only[VR]
   rw[e];show _<=61*(1+(ds.map (aM m)).sum);omega
termination_by n=>n
theorem Eb(h:aO n d=true):Sh d n (61*aM n d).toNat:=by
 obtain⟨s,_⟩:=K1.sy n d h;have:=yE n d h;exact⟨s.sh,s.lv,s.dp,by omega⟩
theorem vQ(h:aH v=true):Sh v 4 2440:=by
 obtain⟨hb,hm⟩:=cN h;exact(Eb hb).mono (Pm _) (by omega)
theorem iF(h:aH v=true):PR v=true:=by
 have:=(vQ h).dp;unfold PR;rw[uP 4 v (cN h).1,decide_eq_true (by omega)];rfl
theorem zE{α:Type}{xs:List α}{i:Int}(h0:0<=i)(h1:i<(xs.length:Int)):∃a,atI xs i=some a/\a∈xs:=by
 have h:i.toNat<xs.length:=by omega
 refine⟨xs[i.toNat],?_,SZ h⟩;unfold atI ixN;rw[if_pos h0,if_pos h1];show xs[i.toNat]? = _;rw[Qs h]
theorem wj(h:eM xs=some ys):lW (.str z) (.list xs)=if (ys.map (·.length)).sum+ys.length*z.length<=16777216 then some (.str (RR z ys)) else none:=by
 show (match eM xs with|some (ys:List Str)=>if (ys.map fun x:Str=>x.length).sum+ys.length*z.length<=16777216 then some (PV (RR z ys)) else none|none=>none)=_;rw[h]
theorem kY(n:Nat):(cP 0 n).length=n:=by simp[cP]
theorem CV(h0:0<=j)(h1:j<=1000):fX j=true:=decide_eq_true (by omega)
theorem uw(h : -1000000000000000000<=i)(h':i<=1000000000000000000):single (.int i)=true:=by
 show decide ((if i<0 then -i else i)<=10^18)=true;refine decide_eq_true ?_
 split <;> omega
theorem jr(h:single d=true):aO n d=true/\aM n d=1:=by
 cases d with
 |int i=>exact⟨by cases n <;> exact h,by cases n <;> rfl⟩
 |str x=>exact⟨by cases n <;> exact h,by cases n <;> rfl⟩
 |_=>cases h
open K1 (has LET TXT single aO aM lsz isName aH tdp aY ldp Good Sh Shs)
@[simp] theorem Mq:Pc a=Pc b↔a=b:=by
 constructor
 .intro h
  have h2:(Pc a).cps.toList=(Pc b).cps.toList:=by rw[h]
  rw[Vz,Vz] at h2;have inj:Function.Injective Char.toNat:=fun x y e=>Char.ext (UInt32.toNat_inj.mp e);exact String.toList_inj.mp ((List.map_inj_right (fun x y e=>inj e)).mp h2)
 .rintro rfl;rfl
theorem rD:∀(n:Nat) (d:Pa),aO n d=true->aO (n+1) d=true/\aM (n+1) d=aM n d
 |n,d,h=>by
  rcases cY h with h1|⟨m,ds,rfl,rfl,h8,hd⟩
  .exact⟨(jr h1).1,by rw[(jr (n:=n+1) h1).2,(jr (n:=n) h1).2]⟩
  .have ih:=fun d hd'=>rD m d (hd d hd')
   refine⟨?_,?_⟩
   .show (decide (ds.length<=8)&&ds.all (aO (m+1)))=true
    rw[decide_eq_true h8,PB.mpr fun d hd'=>(ih d hd').1];rfl
   .show 1+(ds.map (aM (m+1))).sum=1+(ds.map (aM m)).sum
    rw[QO fun d hd'=>(ih d hd').2]
termination_by n=>n
@[simp] theorem ML:KG f ρ T=bnd (f ρ T) fun w T1=>zV T1 w:=rfl
def vl(v:Pa):PyData:=.tuple [.str "value",v]
def fl(w:String):PyData:=.tuple [.str "fails",.str (Pc w)]
def FW:List String:=["kind","part","great"]
def c9(R:Pa):Prop:=(∃v,R=vl v/\aH v=true)\/∃w∈FW,R=fl w
theorem cO:c9 (fl "kind"):=.inr ⟨_,by simp[FW],rfl⟩
theorem FC:c9 (fl "part"):=.inr ⟨_,by simp[FW],rfl⟩
theorem Co:c9 (fl "great"):=.inr ⟨_,by simp[FW],rfl⟩
def bd(d:Pa):PyData:=if aH d=true then vl d else fl "great"
theorem nF(d:Pa):c9 (bd d):=by
 unfold bd;split
 .rename_i h;exact .inl ⟨d,rfl,h⟩
 .exact Co
theorem mY(T:Tp)(h:Sm d):gW [.d d] T=some (bd d,T):=by
 have:=Hh T h;unfold bd
 cases hv:aH d with
 |true=>rw[hv] at this;simp[gW,this,vl]
 |false=>rw[hv] at this;simp[gW,this,fl]
theorem kU(h:aH (.tuple ds)=true)(hd:d∈ds):aH d=true:=by
 obtain⟨hb,hm⟩:=cN h
 rcases cY hb with h1|⟨m,ds',e,e',h8,hb'⟩
 .rcases cX h1 with⟨i,z⟩|⟨x,z⟩ <;> cases z
 .cases e;cases e'
  obtain⟨u1,u2⟩:=rD 3 d (hb' d hd);have:aM 3 d<=aM 4 (.tuple ds):=qE (n:=3) hd;show (aO 4 d&&decide (aM 4 d<=40))=true;rw[u1,u2,decide_eq_true (by omega)];rfl
theorem eC(h:aH v=true):(∃i,v=.int i/\single (.int i)=true)\/(∃x,v=.str x/\x.length<=20/\∀c∈x.cps.toList,c<128)\/∃ds,v=.tuple ds/\ds.length<=8:=by
 rcases cY (cN h).1 with h1|⟨m,ds,e,rfl,h8,hd⟩
 .rcases cX h1 with⟨i,rfl⟩|⟨x,rfl⟩
  .exact .inl ⟨i,rfl,h1⟩
  .have h':(decide (x.length<=20)&&has TXT x)=true:=h1
   rw[Po] at h';exact .inr (.inl ⟨x,rfl,of_decide_eq_true h'.1,K1.iW K1.jX h'.2⟩)
 .exact .inr (.inr ⟨ds,rfl,h8⟩)
theorem nE(h : -1000000000000000000<=i)(h':i<=1000000000000000000):aH (.int i)=true:=by
 show (single (.int i)&&decide ((1:Int)<=40))=true;rw[uw h h'];rfl
theorem HN(i:Int):Sm (.int i):=by simp[Sm,smB]
theorem Jf(h1:aH x=true)(h2:aH y=true):eqG x y=some (.bool (sam x y)):=by
 unfold eqG;rw[if_pos ⟨iF h1,iF h2⟩,GU h1 h2]
@[simp] theorem NI{α:Type}{a b:α}:atI [a,b] 0=some a:=rfl
@[simp] theorem NH{α:Type}{a b:α}:atI [a,b] 1=some b:=rfl
@[simp] theorem NJ{α:Type}{a:α}:atI [a] 0=some a:=rfl
@[simp] theorem NG{α:Type}{a b c:α}:atI [a,b,c] 0=some a:=rfl
@[simp] theorem NF{α:Type}{a b c:α}:atI [a,b,c] 1=some b:=rfl
@[simp] theorem NE{α:Type}{a b c:α}:atI [a,b,c] 2=some c:=rfl
@[simp] theorem OW:cu .int .int=true:=rfl
@[simp] theorem OV:cu .int .str=false:=rfl
@[simp] theorem OU:cu .int .tup=false:=rfl
@[simp] theorem OX:cu .int .bl=false:=rfl
@[simp] theorem OS:cu .str .str=true:=rfl
@[simp] theorem OR:cu .str .tup=false:=rfl
@[simp] theorem OT:cu .str .int=false:=rfl
@[simp] theorem OO:cu .tup .tup=true:=rfl
@[simp] theorem OQ:cu .tup .int=false:=rfl
@[simp] theorem OP:cu .tup .str=false:=rfl
@[simp] theorem Mp(x:Pa)(T:Tp):fm [.d x] T=some (.bool (whole x),T):=jH x T
@[simp] theorem ON(i:Int):whole (.int i)=true:=rfl
@[simp] theorem OM(x:Str):whole (.str x)=false:=rfl
@[simp] theorem OL(x:List Pa):whole (.tuple x)=false:=rfl
def Pairs(w:String)(a b:Pa):Prop:=∃R,c9 R/\∀T,bq [.d (.str (Pc w)),.d (.list [a,b])] T=some (R,T)
theorem Jr(h:aH (.tuple ds)=true)(h0:0<=i)(h1:i<(ds.length:Int)):∃d,atI ds i=some d/\aH d=true:=by
 obtain⟨d,e,hd⟩:=zE h0 h1;exact⟨d,e,kU h hd⟩
def PW:List String:=["part","sum","join","same","less"]
inductive Ex(m:Int):Nat->Pa->Prop where
 |put {n:Nat}{v:Pa}:aH v=true->Ex m n (.tuple [.str "put",v])
 |got {n:Nat}{i:Int}:0<=i->i<m->Ex m n (.tuple [.str "got",.int i])
 |row {n:Nat}{es:List Pa}:es.length<=8->(∀e∈es,Ex m n e)->Ex m (n+1) (.tuple [.str "row",.tuple es])
 |many {n:Nat}{e:Pa}:Ex m n e->Ex m (n+1) (.tuple [.str "many",e])
 |pair {n:Nat}{w:String}{a b:Pa}:w∈PW->Ex m n a->Ex m n b->Ex m (n+1) (.tuple [.str (Pc w),a,b])
def isF:Pa->Bool
 |.tuple (.str x::_)=>decide (x=Pc "fails")
 |_=>false
def vOf:Pa->Pa
 |.tuple [_,v]=>v
 |_=>.none
theorem IM(v:Pa):isF (vl v)=false:=by
 show decide (Pc "value"=Pc "fails")=false
 decide +kernel
theorem IP(w:String):isF (fl w)=true:=by
 show decide (Pc "fails"=Pc "fails")=true;exact decide_eq_true rfl
theorem uW(h:c9 R):(isF R=true/\∃w∈FW,R=fl w)\/(isF R=false/\R=vl (vOf R)/\aH (vOf R)=true):=by
 rcases h with⟨v,rfl,hv⟩|⟨w,hw,rfl⟩
 .exact .inr ⟨IM v,rfl,hv⟩
 .exact .inl ⟨IP w,w,hw,rfl⟩
noncomputable def i3(m:FnM)(ws:List D.W)(T1:Tp):Option (D.W×Tp):=if ms ws=true then (match m (ws.map kr) [] with
 |some (x,_)=>if a7 x=true then some (.d x,T1) else none
 | none=>none) else none
@[simp] theorem Mn:hW m a ρ T=bnd (a ρ T) (i3 m):=rfl
theorem mX(h1:ms ws=true)(h2:m (ws.map kr) []=some (x,T'))(h3:a7 x=true):i3 m ws T=some (.d x,T):=by
 unfold i3;rw[if_pos h1,h2];exact if_pos h3
theorem iL:∀{ds:List Pa},(∀d∈ds,a7 d=true)->br ds=true
 |[],_=>by simp[br]
 |d::r,h=>by simp[br,h d Pi,iL (ds:=r) fun x hx=>h x (Pg _ hx)]
theorem uU:∀(n:Nat) (d:Pa),aO n d=true->a7 d=true
 |n,d,h=>by
  rcases cY h with h1|⟨m,ds,rfl,rfl,_,hd⟩
  .rcases cX h1 with⟨i,rfl⟩|⟨x,rfl⟩ <;> simp[a7]
  .simp[a7,iL fun x hx=>uU m x (hd x hx)]
termination_by n=>n
theorem jC(h:aH v=true):a7 v=true:=uU 4 v (cN h).1
theorem nj(h:c9 R):a7 R=true:=by
 rcases h with⟨v,rfl,hv⟩|⟨w,_,rfl⟩
 .simp[vl,a7,br,jC hv]
 .simp[fl,a7,br]
def zO(k:Nat):FS:=(ak (aF 4 (au (dD k) (ae (aa 3) (ae (aa 1) ah)))) (ak (fIf (av (af eqD (af ixD (aa 4) (fC (.int 0))) (fC (.str "fails")))) (aB (aa 4)) aD) (b6 2 (af ixD (aa 4) (fC (.int 1))))))
noncomputable def tO(k:FS)(p:Fl×Rho)(T:Tp):Option ((Fl×Rho)×Tp):=match p with
 |(.nx,ρ1)=>k ρ1 T
 |(.ct,ρ1)=>k ρ1 T
 |(.bk,ρ1)=>some ((.nx,ρ1),T)
 |(.rt x,ρ1)=>some ((.rt x,ρ1),T)
 |(.ro x,ρ1)=>some ((.ro x,ρ1),T)
theorem GN:tO k (.nx,ρ) T=k ρ T:=rfl
theorem DH:forL i b (d::r) ρ T=bnd (b (ρ.set i (some (.d d))) T) (tO (forL i b r)):=rfl
structure Node(e0:Pa)(w0:Str)(es:List Pa):Prop where
 w1:∀T,cW [.d e0] T=some (.list es,T)
 ix:ixD e0 (.int 0)=some (.str w0)
 np:(w0=Pc "put")=False
 ng:(w0=Pc "got")=False
 ln:es.length<=8
def TB(G:Pa)(n:Nat)(e:Pa):Prop:=∃R,c9 R/\∀k T,n<k->dD k [.d e,.d G] T=some (R,T)
def Ax(G:Pa)(gs:List Pa):Prop:=∀i:Int,ixD G (.int i)=atI gs i
theorem qH(gs:List Pa):Ax (.tuple gs) gs:=fun _=>rfl
theorem uX(n:Nat):dD (n+1)=aP 5 (ak (fIf (av (af eqD (af ixD (aa 0) (fC (.int 0))) (fC (.str "put")))) (aB (aA .tuple (ae (fC (.str "value")) (ae (af ixD (aa 0) (fC (.int 1))) ah)))) aD) (ak (fIf (av (af eqD (af ixD (aa 0) (fC (.int 0))) (fC (.str "got")))) (aB (aA .tuple (ae (fC (.str "value")) (ae (af ixD (aa 1) (af ixD (aa 0) (fC (.int 1)))) ah)))) aD) (ak (cI 2 ah) (ak (bH 3 (bf (au cW (ae (aa 0) ah))) (zO n)) (aB (hW bq (ae (af ixD (aa 0) (fC (.int 0))) (ae (aa 2) ah)))))))):=by rw[dD];rfl
theorem jl:cL (a::r) (some 1) none=r:=by
 have e:HT.sIx (a::r).length 0 (some 1)=1:=by
  have:=HT.w6 (a::r).length 0 1;rw[show ((1:Nat):Int)=1 from rfl] at this;rw[this];simp
 have e2:HT.sIx (a::r).length (a::r).length none=(a::r).length:=rfl;unfold cL;rw[e,e2];simp
theorem xH:∀(l:List Int) (b n:Int),K1.dF b l<=n↔b<=n/\∀x∈l,x<=n
 |[],b,n=>by simp[K1.dF]
 |a::r,b,n=>by
  show K1.dF (if a>b then a else b) r<=n↔_;rw[xH r];simp only[Pt,forall_eq_or_imp]
  split <;> constructor <;> (rintro⟨h1,h2⟩;constructor <;> first|omega|exact h2|exact h2.2|exact⟨by omega,h2⟩)
theorem xJ(h:0<=n):K1.cK 0 l<=n↔∀x∈l,x<=n:=by
 cases l with
 |nil=>simp[K1.cK,h]
 |cons a r=>
  show K1.dF a r<=n↔_;rw[xH];simp
theorem mM:∀(n:Nat) (d:Pa),aO (n+1) d=true->(aY (n+1) d<=n↔aO n d=true)
 |n,d,h=>by
  rcases cY h with h1|⟨m,ds,e,rfl,h8,hd⟩
  .rcases cX h1 with⟨i,rfl⟩|⟨x,rfl⟩
   .exact⟨fun _=>(jr h1).1,fun _=>T9 n⟩
   .exact⟨fun _=>(jr h1).1,fun _=>T9 n⟩
  .cases e
   have q:aY (n+1) (.tuple ds)=1+K1.cK 0 (ds.map (aY n)):=rfl
   have nn:=K1.xI (ds.map (aY n)) fun x hx=>by
    obtain⟨y,_,rfl⟩:=Pq.mp hx;exact K1.wD n y
   rw[q]
   cases n with
   |zero=>exact⟨fun z=>absurd z (by omega),fun z=>nomatch z⟩
   |succ n=>
    have ml:=xJ (l:=ds.map (aY (n+1))) (n:=n) (T9 n);have eb:aO (n+1) (.tuple ds)=(decide (ds.length<=8)&&ds.all (aO n)):=rfl;rw[eb,decide_eq_true h8,X1,PB];constructor
    .intro z d hd'
     exact(mM n d (hd d hd')).mp (ml.mp (by omega) _ (Pq.mpr ⟨d,hd',rfl⟩))
    .intro z
     have:=ml.mpr fun x hx=>by
      obtain⟨d,hd',rfl⟩:=Pq.mp hx;exact(mM n d (hd d hd')).mpr (z d hd')
     omega
termination_by n=>n
theorem mN{α:Type}{e:FE}{ρ:Rho}{T:Tp}{q:α->Pa}{g:α->Pa}:∀{ds:List α},(∀d∈ds,e (some (.d (q d))::ρ) T=some (.d (g d),T))->bD bu e ρ (ds.map q) T=some (ds.map g,T)
 |[],_=>rfl
 |d::r,h=>by
  have ih:=mN (ds:=r) fun x hx=>h x (Pg _ hx);have h0:=h d Pi;simp[bD,h0,ih]
theorem mx0:lU (.list []) (.int 0)=some (.int 0):=rfl
theorem sm0:kj [.list []]=some (.int 0):=rfl
theorem oU(b:Bool):intD [.bool b]=some (.int (if b then 1 else 0)):=rfl
theorem zL(h:∀d∈ds,∀T,eZ k [.d d] T=some (.tuple [.int (aY n d),.int (aM n d)],T))(T:Tp):eZ (k+1) [.d (.tuple ds)] T=some (.tuple [.int (1+K1.cK 0 (ds.map (aY n))),.int (1+(ds.map (aM n)).sum)],T):=by
 have c:∀T,bD bu (au (eZ k) (ae (aa 0) ah)) [some (.d (.tuple ds)),none,none] ds T=some (ds.map fun d=>.tuple [.int (aY n d),.int (aM n d)],T):=fun T=>eE (g:=fun d=>.tuple [.int (aY n d),.int (aM n d)]) fun d hd=>by simp[h d hd T]
 have cs:∀(ρ:Rho) (T:Tp),bD bu (af ixD (aa 0) (fC (.int 0))) ρ (ds.map fun d=>.tuple [.int (aY n d),.int (aM n d)]) T=some (ds.map fun d=>.int (aY n d),T):=fun ρ T=>mN (q:=fun d=>.tuple [.int (aY n d),.int (aM n d)]) (g:=fun d=>.int (aY n d)) fun d hd=>by simp
 have ct:∀(ρ:Rho) (T:Tp),bD bu (af ixD (aa 0) (fC (.int 1))) ρ (ds.map fun d=>.tuple [.int (aY n d),.int (aM n d)]) T=some (ds.map fun d=>.int (aM n d),T):=fun ρ T=>mN (q:=fun d=>.tuple [.int (aY n d),.int (aM n d)]) (g:=fun d=>.int (aM n d)) fun d hd=>by simp
 unfold eZ;simp[c,cs,ct,oU]
theorem sT(h:(∃i,d=.int i)\/∃x,d=.str x)(k:Nat)(T:Tp):eZ (k+1) [.d d] T=some (.tuple [.int 0,.int 1],T):=by rcases h with⟨i,rfl⟩|⟨x,rfl⟩ <;> simp[eZ,bD,mx0,sm0,oU]
theorem wN:∀(n k:Nat) (d:Pa) (T:Tp),aO n d=true->n<k->eZ k [.d d] T=some (.tuple [.int (aY n d),.int (aM n d)],T)
 |n,k,d,T,h,hk=>by
  obtain⟨k,rfl⟩:=bj k (by omega)
  rcases cY h with h1|⟨m,ds,rfl,rfl,h8,hd⟩
  .rw[sT (cX h1),(jr h1).2]
   rcases cX h1 with⟨i,rfl⟩|⟨x,rfl⟩ <;> cases n <;> rfl
  .exact zL (fun d hd' T=>wN m k d T (hd d hd') (by omega)) T
termination_by n=>n
def BQ(d:Pa):Prop:=(∃i,d=.int i)\/(∃x,d=.str x/\x.length<=60000/\has TXT x=true)\/∃ds,d=.tuple ds/\∀x∈ds,aO 4 x=true
theorem pF(T:Tp)(h:BQ d):dC [.d d] T=some (bd d,T):=by
 rcases h with⟨i,rfl⟩|⟨x,rfl,hl,hx⟩|⟨ds,rfl,hd⟩
 .have e:aH (.int i)=decide ((if i<0 then -i else i)<=1000000000000000000):=by
   show (decide ((if i<0 then -i else i)<=10^18)&&decide ((1:Int)<=40))=_;rw[Bool.and_comm];rfl
  have w:=sT (d:=.int i) (.inl ⟨i,rfl⟩) 24
  by_cases c:(if i<0 then -i else i)<=1000000000000000000
  .simp[dC,dj,w,bd,e,c,vl]
  .simp[dC,dj,w,bd,e,c,fl]
 .have e:aH (.str x)=decide (x.length<=20):=by
   show (decide (x.length<=20)&&has TXT x&&decide ((1:Int)<=40))=_;rw[hx];simp
  have w:=sT (d:=.str x) (.inr ⟨x,rfl⟩) 24;have hz:x.length<=sizeLine:=PL hl (by decide)
  by_cases c:x.length<=20
  .have c':(x.length:Int)<=20:=by omega
   simp[dC,dj,w,bd,e,c,c',vl,hz]
  .have c':¬(x.length:Int)<=20:=by omega
   simp[dC,dj,w,bd,e,c,c',fl,hz]
 .have w:∀T,eZ 25 [.d (.tuple ds)] T=_:=zL (n:=4) fun d hd' T=>wN 4 24 d T (hd d hd') (by decide)
  have ml:=xJ (l:=ds.map (aY 4)) (n:=3) (by decide);have e:aH (.tuple ds)=(decide (ds.length<=8)&&ds.all (aO 3)&&decide (1+(ds.map (aM 3)).sum<=40)):=rfl
  have e3:ds.all (aO 3)=decide (1+K1.cK 0 (ds.map (aY 4))<=4):=by
   rw[Rh,PB,decide_eq_true_iff];constructor
   .intro z
    have:=ml.mpr fun x hx=>by
     obtain⟨d,hd',rfl⟩:=Pq.mp hx;exact(mM 3 d (hd d hd')).mpr (z d hd')
    omega
   .intro z d hd'
    exact(mM 3 d (hd d hd')).mp (ml.mp (by omega) _ (Pq.mpr ⟨d,hd',rfl⟩))
  by_cases h8:ds.length<=8
  .have h8':(ds.length:Int)<=8:=by omega
   by_cases h4:1+K1.cK 0 (ds.map (aY 4))<=4
   .have b3:∀d∈ds,aO 3 d=true:=PB.mp (e3.trans (decide_eq_true h4))
    have em:ds.map (aM 4)=ds.map (aM 3):=QO fun d hd'=>(rD 3 d (b3 d hd')).2;rw[em] at w
    by_cases h40:1+(ds.map (aM 3)).sum<=40
    .simp[dC,dj,w,bd,e,e3,h8,h8',h4,h40,vl]
    .simp[dC,dj,w,bd,e,e3,h8,h8',h4,h40,fl]
   .simp[dC,dj,w,bd,e,e3,h8,h8',h4,fl]
  .have h8':¬(ds.length:Int)<=8:=by omega
   simp[dC,dj,w,bd,e,h8,h8',fl]
theorem ct2{α:Type}{a b c d:α}:cL [a,b,c,d] none (some 2)=[a,b]:=rfl
theorem qk{α:Type}{a b c d:α}:atI [a,b,c,d] 2=some c:=rfl
theorem qj{α:Type}{a b c d:α}:atI [a,b,c,d] 3=some d:=rfl
theorem ktt:neG (.list [.bool a,.bool b]) (.list [.bool true,.bool true])=some (.bool (!(a&&b))):=by cases a <;> cases b <;> rfl
theorem kff:neG (.list [.bool a,.bool b]) (.list [.bool false,.bool false])=some (.bool (a||b)):=by cases a <;> cases b <;> rfl
theorem wU(h:aH (.str x)=true):has TXT x=true:=by
 have:=(cN h).1;have h':(decide (x.length<=20)&&has TXT x)=true:=this;rw[Po] at h';exact h'.2
def jY(w:String)(a b:Pa):Prop:=∃R,c9 R/\(∀T,bq [.d (.str (Pc w)),.d (.list [a,b])] T=some (R,T))/\∀T,bI [.d (.str (Pc w)),.d a,.d b] T=some (R,T)
theorem Js(ha:aH a=true)(hb:aH b=true):jY "same" a b:=by
 have e1:=Jf ha hb;refine⟨vl (.int (if sam a b=true then 1 else 0)),.inl ⟨_,rfl,by split <;> exact nE (by decide) (by decide)⟩,fun T=>?_,fun T=>?_⟩
 .cases hs:sam a b with
  |true=>rw[hs] at e1;simp[bq,e1,vl]
  |false=>rw[hs] at e1;simp[bq,e1,vl]
 .simp[bI,e1,vl,oU]
theorem Jt(ha:aH a=true)(hb:aH b=true):jY "part" a b:=by
 rcases eC ha with⟨i,rfl,hi⟩|⟨x,rfl,hx,hx2⟩|⟨ds,rfl,hd⟩
 .refine⟨_,cO,fun T=>?_,fun T=>?_⟩ <;> simp[bq,gm,bI,fl]
 .refine⟨_,cO,fun T=>?_,fun T=>?_⟩ <;> simp[bq,gm,bI,fl]
 .rcases eC hb with⟨j,rfl,hj⟩|⟨y,rfl,hy,hy2⟩|⟨es,rfl,he⟩
  .by_cases c:0<=j/\j<(ds.length:Int)
   .obtain⟨d,e,hv⟩:=Jr ha c.1 c.2
    refine⟨vl d,.inl ⟨d,rfl,hv⟩,fun T=>?_,fun T=>?_⟩ <;> simp[bq,gm,bI,vl,c.1,c.2,e]
   .refine⟨_,FC,fun T=>?_,fun T=>?_⟩
    .by_cases c0:0<=j
     .have c1:¬j<(ds.length:Int):=fun z=>c ⟨c0,z⟩
      simp[bq,gm,fl,c0,c1]
     .simp[bq,gm,fl,c0]
    .by_cases c0:0<=j
     .have c1:¬j<(ds.length:Int):=fun z=>c ⟨c0,z⟩
      simp[bI,fl,c0,c1]
     .simp[bI,fl,c0]
  .refine⟨_,cO,fun T=>?_,fun T=>?_⟩ <;> simp[bq,gm,bI,fl]
  .refine⟨_,cO,fun T=>?_,fun T=>?_⟩ <;> simp[bq,gm,bI,fl]
theorem KS(ha:aH a=true)(hb:aH b=true):jY "sum" a b:=by
 rcases eC ha with⟨i,rfl,hi⟩|⟨x,rfl,hx,hx2⟩|⟨ds,rfl,hd⟩
 .rcases eC hb with⟨j,rfl,hj⟩|⟨y,rfl,hy,hy2⟩|⟨es,rfl,he⟩
  .have b1:=fun T=>mY T (HN (i+j))
   have b2:=fun T=>pF T (.inl ⟨i+j,rfl⟩);refine⟨_,nF (.int (i+j)),fun T=>?_,fun T=>?_⟩
   .simp[bq,iG,b1]
   .simp[bI,ct2,ktt,b2]
  .refine⟨_,cO,fun T=>?_,fun T=>?_⟩ <;> simp[bq,iG,bI,ct2,ktt,fl]
  .refine⟨_,cO,fun T=>?_,fun T=>?_⟩ <;> simp[bq,iG,bI,ct2,ktt,fl]
 .refine⟨_,cO,fun T=>?_,fun T=>?_⟩ <;> simp[bq,iG,bI,ct2,ktt,fl]
 .refine⟨_,cO,fun T=>?_,fun T=>?_⟩ <;> simp[bq,iG,bI,ct2,ktt,fl]
theorem Ju(ha:aH a=true)(hb:aH b=true):jY "less" a b:=by
 rcases eC ha with⟨i,rfl,hi⟩|⟨x,rfl,hx,hx2⟩|⟨ds,rfl,hd⟩
 .rcases eC hb with⟨j,rfl,hj⟩|⟨y,rfl,hy,hy2⟩|⟨es,rfl,he⟩
  .refine⟨vl (.int (if i<j then 1 else 0)),.inl ⟨_,rfl,by split <;> exact nE (by decide) (by decide)⟩,fun T=>?_,fun T=>?_⟩
   .by_cases c:i<j
    .simp[bq,gQ,c,vl]
    .simp[bq,gQ,c,vl]
   .simp[bI,ct2,ktt,vl,oU]
  .refine⟨_,cO,fun T=>?_,fun T=>?_⟩ <;> simp[bq,gQ,bI,ct2,ktt,fl]
  .refine⟨_,cO,fun T=>?_,fun T=>?_⟩ <;> simp[bq,gQ,bI,ct2,ktt,fl]
 .refine⟨_,cO,fun T=>?_,fun T=>?_⟩ <;> simp[bq,gQ,bI,ct2,ktt,fl]
 .refine⟨_,cO,fun T=>?_,fun T=>?_⟩ <;> simp[bq,gQ,bI,ct2,ktt,fl]
theorem Jv(ha:aH a=true)(hb:aH b=true):jY "join" a b:=by
 rcases eC ha with⟨i,rfl,hi⟩|⟨x,rfl,hx,hx2⟩|⟨ds,rfl,hd⟩
 .refine⟨_,cO,fun T=>?_,fun T=>?_⟩
  .simp[bq,gp,fl]
  .rcases eC hb with⟨j,rfl,hj⟩|⟨y,rfl,hy,hy2⟩|⟨es,rfl,he⟩ <;> simp[bI,ct2,kff,fl]
 .rcases eC hb with⟨j,rfl,hj⟩|⟨y,rfl,hy,hy2⟩|⟨es,rfl,he⟩
  .refine⟨_,cO,fun T=>?_,fun T=>?_⟩ <;> simp[bq,gp,bI,ct2,kff,fl]
  .have l:x.length+y.length<=sizeLine:=cy (by omega)
   have ll:(x++y).length<=60000:=by rw[←fW,iZ,PN,fW,fW];omega
   have sx:Sm (.str (x++y)):=Sm.mkS ll fun c hc=>by
    have hc':c∈cd (x++y):=hc;rw[iZ] at hc';exact(PD.mp hc').elim (hx2 c) (hy2 c)
   have hh:has TXT (x++y)=true:=by
    refine PB.mpr fun c hc=>?_;have hc':c∈cd (x++y):=hc;rw[iZ] at hc';exact(PD.mp hc').elim (PB.mp (wU ha) c) (PB.mp (wU hb) c)
   have b1:=fun T=>mY T sx;have b2:=fun T=>pF (d:=.str (x++y)) T (.inr (.inl ⟨_,rfl,ll,hh⟩));refine⟨_,nF (.str (x++y)),fun T=>?_,fun T=>?_⟩
   .simp[bq,gp,b1,l]
   .simp[bI,ct2,kff,qk,qj,b2,l]
  .refine⟨_,cO,fun T=>?_,fun T=>?_⟩ <;> simp[bq,gp,bI,ct2,kff,qk,qj,fl]
 .rcases eC hb with⟨j,rfl,hj⟩|⟨y,rfl,hy,hy2⟩|⟨es,rfl,he⟩
  .refine⟨_,cO,fun T=>?_,fun T=>?_⟩ <;> simp[bq,gp,bI,ct2,kff,fl]
  .refine⟨_,cO,fun T=>?_,fun T=>?_⟩ <;> simp[bq,gp,bI,ct2,kff,qk,qj,fl]
  .have l:ds.length+es.length<=sizeLine:=cy (by omega)
   have sx:Sm (.tuple (ds++es)):=Sm.tup fun d hd=>by
    rcases PD.mp hd with z|z
    .exact oy (kU ha z)
    .exact oy (kU hb z)
   have b1:=fun T=>mY T sx;have b2:=fun T=>pF (d:=.tuple (ds++es)) T (.inr (.inr ⟨_,rfl,fun z hz=>(PD.mp hz).elim (fun q=>(cN (kU ha q)).1) fun q=>(cN (kU hb q)).1⟩));refine⟨_,nF (.tuple (ds++es)),fun T=>?_,fun T=>?_⟩
   .simp[bq,gp,b1,l]
   .simp[bI,ct2,kff,qk,qj,b2,l]
theorem KU(hw:w∈PW)(ha:aH a=true)(hb:aH b=true):jY w a b:=by
 simp[PW] at hw
 rcases hw with rfl|rfl|rfl|rfl|rfl
 .exact Jt ha hb
 .exact KS ha hb
 .exact Jv ha hb
 .exact Js ha hb
 .exact Ju ha hb
def fA(M:FnM):FS:=(ak (aF 4 (au M (ae (aa 3) (ae (aa 1) ah)))) (ak (fIf (av (af eqD (af ixD (aa 4) (fC (.int 0))) (fC (.str "fails")))) (aB (aa 4)) aD) (b6 2 (af ixD (aa 4) (fC (.int 1))))))
def ig:FI:=(bf (bZ (av (af eqD (af ixD (aa 0) (fC (.int 0))) (fC (.str "row")))) (af ixD (aa 0) (fC (.int 1))) (fSl (aa 0) (fP (fC (.int 1))) cV)))
def iT:FS:=(ak (fIf (av (af eqD (af ixD (aa 0) (fC (.int 0))) (fC (.str "row")))) (aB (au dC (ae (fCB bJ (ae (aa 2) ah)) ah))) aD) (ak (fIf (av (af eqD (af ixD (aa 0) (fC (.int 0))) (fC (.str "many")))) (aB (bZ (bg (fUn (bv .int) (af ixD (aa 2) (fC (.int 0))))) (aA .tuple (ae (fC (.str "fails")) (ae (fC (.str "kind")) ah))) (aA .tuple (ae (fC (.str "value")) (ae (fCB bb (ae (af ixD (aa 2) (fC (.int 0))) ah)) ah))))) aD) (aB (au bI (ae (af ixD (aa 0) (fC (.int 0))) (ae (af ixD (aa 2) (fC (.int 0))) (ae (af ixD (aa 2) (fC (.int 1))) ah)))))))
theorem uE(n:Nat):cM (n+1)=aP 5 (ak (fIf (av (af eqD (af ixD (aa 0) (fC (.int 0))) (fC (.str "put")))) (aB (aA .tuple (ae (fC (.str "value")) (ae (af ixD (aa 0) (fC (.int 1))) ah)))) aD) (ak (fIf (av (af eqD (af ixD (aa 0) (fC (.int 0))) (fC (.str "got")))) (aB (aA .tuple (ae (fC (.str "value")) (ae (af ixD (aa 1) (af ixD (aa 0) (fC (.int 1)))) ah)))) aD) (ak (cI 2 ah) (ak (bH 3 ig (fA (cM n))) iT)))):=by rw[cM];rfl
theorem vM(k:Nat):zO k=fA (dD k):=rfl
theorem lV{M:FnM}{T:Tp}{e0 G:Pa}{f:Pa->Pa}:∀(es:List Pa) (acc:List Pa) (o3 o4:Option D.W),(∀e∈es,c9 (f e)/\M [.d e,.d G] T=some (f e,T))->acc.length+es.length<=1000 ->
  match (es.map f).filter isF with
  |R::_=>∃ρ',forL 3 (fA M) es [some (.d e0),some (.d G),some (.loc (.list acc)),o3,o4] T=some ((.rt R,ρ'),T)
  |[]=>∃o3' o4',forL 3 (fA M) es [some (.d e0),some (.d G),some (.loc (.list acc)),o3,o4] T=some ((.nx,[some (.d e0),some (.d G),some (.loc (.list (acc++es.map fun e=>vOf (f e)))),(o3':Option D.W),o4']),T)
 |[],acc,o3,o4,_,_=>⟨o3,o4,by simp[forL]⟩
 |e::es,acc,o3,o4,h,hl=>by
  obtain⟨t,ht⟩:=h e Pi;have hl':acc.length<sizeLine:=Py (by simp at hl;omega:acc.length<1000) (by decide);have go:forL 3 (fA M) (e::es) [some (.d e0),some (.d G),some (.loc (.list acc)),o3,o4] T=bnd (fA M [some (.d e0),some (.d G),some (.loc (.list acc)),some (.d e),o4] T) (tO (forL 3 (fA M) es)):=rfl;rw[go]
  rcases uW t with⟨hf,w,_,hw⟩|⟨hf,hv,_⟩
  .rw[Pz,WE,if_pos hf]
   rw[hw] at ht
   have hb:fA M [some (.d e0),some (.d G),some (.loc (.list acc)),some (.d e),o4] T=some ((.rt (fl w),[some (.d e0),some (.d G),some (.loc (.list acc)),some (.d e),some (.d (fl w))]),T):=by
    simp[fA,ht,fl]
   rw[hb,hw];exact⟨_,rfl⟩
  .rw[Pz,WE,hf]
   have ih:=lV (e0:=e0) es (acc++[vOf (f e)]) (some (.d e)) (some (.d (f e))) (fun x hx=>h x (Pg _ hx)) (by simp at hl ⊢;omega)
   have hb:fA M [some (.d e0),some (.d G),some (.loc (.list acc)),some (.d e),o4] T=some ((.nx,[some (.d e0),some (.d G),some (.loc (.list (acc++[vOf (f e)]))),some (.d e),some (.d (f e))]),T):=by
    generalize hV:vOf (f e)=v at hv;rw[hv] at ht ⊢;simp[fA,ht,vl,hl']
   rw[hb,fV,GN];simp only[Rt,if_false]
   cases hF:(es.map f).filter isF with
   |nil=>
    rw[hF] at ih;obtain⟨o3',o4',hi⟩:=ih;exact⟨o3',o4',by rw[hi];simp⟩
   |cons R r=>
    rw[hF] at ih;exact ih
def TBB(G:Pa)(gs:List Pa)(n:Nat)(e:Pa):Prop:=∃R,c9 R/\(∀k T,n<k->cM k [.d e,.d (.list gs)] T=some (R,T))/\∀k T,n<k->dD k [.d e,.d G] T=some (R,T)
structure NodeB(e0:Pa)(w0:Str)(es:List Pa):Prop where
 nd:Node e0 w0 es
 w2:∀G T,ig [some (.d e0),some (.d G),some (.loc (.list [])),none,none] T=some (es,T)
theorem qw{es:List Pa}{f:Pa->Pa}(N:NodeB e0 w0 es)
  (hf:∀e∈es,c9 (f e)/\(∀k T,n<k->cM k [.d e,.d (.list gs)] T=some (f e,T))/\∀k T,n<k->dD k [.d e,.d G] T=some (f e,T))
  (fin:(∀e∈es,f e=vl (vOf (f e))/\aH (vOf (f e))=true)->∃R,c9 R/\(∀T,bq [.d (.str w0),.d (.list (es.map fun e=>vOf (f e)))] T=some (R,T))/\∀o3 o4 T,df (iT [some (.d e0),some (.d (.list gs)),some (.loc (.list (es.map fun e=>vOf (f e)))),o3,o4] T)=some (R,T)):TBB G gs (n+1) e0:=by
 have ix:=N.nd.ix;have np:=N.nd.np;have ng:=N.nd.ng;have byP:∀k T,n<k->(∀e∈es,c9 (f e)/\dD k [.d e,.d G] T=some (f e,T)):=fun k T hk e he=>⟨(hf e he).1,(hf e he).2.2 k T hk⟩;have byL:∀k T,n<k->(∀e∈es,c9 (f e)/\cM k [.d e,.d (.list gs)] T=some (f e,T)):=fun k T hk e he=>⟨(hf e he).1,(hf e he).2.1 k T hk⟩
 cases hF:(es.map f).filter isF with
 |cons R r=>
  have hR:R∈(es.map f).filter isF:=by rw[hF];exact Pi
  obtain⟨e,he,eR⟩:=Pq.mp (Rf.mp hR).1;refine⟨R,by rw[←eR];exact(hf e he).1,fun k T hk=>?_,fun k T hk=>?_⟩
  .obtain⟨k,rfl⟩:=bj k (by omega)
   have lp:=lV (e0:=e0) es [] none none (byL k T (by omega)) (by have:=N.nd.ln;simp;omega);rw[hF] at lp;obtain⟨ρ',lp⟩:=lp;rw[uE];simp[ix,np,ng,N.w2,lp]
  .obtain⟨k,rfl⟩:=bj k (by omega)
   have lp:=lV (e0:=e0) es [] none none (byP k T (by omega)) (by have:=N.nd.ln;simp;omega);rw[hF] at lp;obtain⟨ρ',lp⟩:=lp;rw[uX];simp[ix,np,ng,N.nd.w1,vM,lp]
 |nil=>
  have all:∀e∈es,f e=vl (vOf (f e))/\aH (vOf (f e))=true:=fun e he=>by
   rcases uW (hf e he).1 with⟨h1,_⟩|⟨_,h2⟩
   .have:f e∈(es.map f).filter isF:=Rf.mpr ⟨Pq.mpr ⟨e,he,rfl⟩,h1⟩
    rw[hF] at this;cases this
   .exact h2
  obtain⟨R,t,q1,q2⟩:=fin all;refine⟨R,t,fun k T hk=>?_,fun k T hk=>?_⟩
  .obtain⟨k,rfl⟩:=bj k (by omega)
   have lp:=lV (e0:=e0) es [] none none (byL k T (by omega)) (by have:=N.nd.ln;simp;omega);rw[hF] at lp;obtain⟨o3',o4',lp⟩:=lp;rw[uE];have q:=q2 o3' o4' T;simp[ix,np,ng,N.w2,lp,q]
  .obtain⟨k,rfl⟩:=bj k (by omega)
   have lp:=lV (e0:=e0) es [] none none (byP k T (by omega)) (by have:=N.nd.ln;simp;omega);rw[hF] at lp;obtain⟨o3',o4',lp⟩:=lp;have cf:∀T,i3 bq [.d (.str w0),.d (.list (es.map fun e=>vOf (f e)))] T=some (.d R,T):=fun T=>mX rfl (q1 []) (nj t);rw[uX];simp[ix,np,ng,N.nd.w1,vM,lp,cf]
theorem qr{G:Pa}{gs:List Pa}{n:Nat}{es:List Pa}(h:∀e∈es,TBB G gs n e):∃f:Pa->Pa,∀e∈es,c9 (f e)/\(∀k T,n<k->cM k [.d e,.d (.list gs)] T=some (f e,T))/\∀k T,n<k->dD k [.d e,.d G] T=some (f e,T):=by
 classical
 refine⟨fun e=>if h':e∈es then (h e h').choose else .none,fun e he=>?_⟩;simp only[dif_pos he];exact(h e he).choose_spec
theorem Ex.tup(h:Ex m n e):∃xs,e=.tuple xs:=by cases h <;> exact⟨_,rfl⟩
theorem qB(hG:Ax G gs)(hg:∀g∈gs,aH g=true)(hm:m<=(gs.length:Int)):∀(n:Nat) (e:Pa),Ex m n e->TBB G gs n e:=by
 intro n e h
 induction h with
 |put hv=>
  rename_i n v;refine⟨vl v,.inl ⟨v,rfl,hv⟩,fun k T hk=>?_,fun k T hk=>?_⟩
  .obtain⟨k,rfl⟩:=bj k (by omega)
   simp[cM,vl]
  .obtain⟨k,rfl⟩:=bj k (by omega)
   simp[dD,vl]
 |got h0 h1=>
  rename_i n i;obtain⟨g,e,hgm⟩:=zE (xs:=gs) h0 (by omega);refine⟨vl g,.inl ⟨g,rfl,hg g hgm⟩,fun k T hk=>?_,fun k T hk=>?_⟩
  .obtain⟨k,rfl⟩:=bj k (by omega)
   simp[cM,vl,e]
  .obtain⟨k,rfl⟩:=bj k (by omega)
   simp[dD,vl,hG i,e]
 |row hl _ ih=>
  rename_i n es _;obtain⟨f,hf⟩:=qr ih
  have e1:∀T,cW [.d (.tuple [.str "row",.tuple es])] T=some (.list es,T):=fun T=>by simp[cW]
  have e2:∀G T,ig [some (.d (.tuple [.str "row",.tuple es])),some (.d G),some (.loc (.list [])),none,none] T=some (es,T):=fun G T=>by simp[ig,jl,D.intD,D.gF]
  refine qw (w0:=Pc "row") (es:=es) (f:=f) ⟨⟨e1,rfl,by simp,by simp,hl⟩,e2⟩ hf fun all=>?_
  have sx:Sm (.tuple (es.map fun e=>vOf (f e))):=Sm.tup fun d hd=>by
   obtain⟨e,he,rfl⟩:=Pq.mp hd;exact oy (all e he).2
  have bp:BQ (.tuple (es.map fun e=>vOf (f e))):=.inr (.inr ⟨_,rfl,fun d hd=>by
   obtain⟨e,he,rfl⟩:=Pq.mp hd
   exact(cN (all e he).2).1⟩)
  refine⟨bd (.tuple (es.map fun e=>vOf (f e))),nF _,fun T=>?_,fun o3 o4 T=>?_⟩
  .simp[bq,mY T sx]
  .have lv:=pF T bp
   generalize es.map (fun e=>vOf (f e))=ps at lv ⊢;simp[iT,lv,D.bJ]
 |many _ ih=>
  rename_i n e he;obtain⟨xs,hxs⟩:=Ex.tup he;obtain⟨f,hf⟩:=qr (es:=[e]) (fun x hx=>by rw[Pl.mp hx];exact ih)
  have e1:∀T,cW [.d (.tuple [.str "many",e])] T=some (.list [e],T):=fun T=>by simp[cW,jl]
  have e2:∀G T,ig [some (.d (.tuple [.str "many",e])),some (.d G),some (.loc (.list [])),none,none] T=some ([e],T):=fun G T=>by subst hxs;simp[ig,jl,D.intD,D.gF]
  refine qw (w0:=Pc "many") (es:=[e]) (f:=f) ⟨⟨e1,rfl,by simp,by simp,by simp⟩,e2⟩ hf fun all=>?_;obtain⟨a1,a2⟩:=all e (by simp);generalize hV:vOf (f e)=v at a1 a2
  rcases eC a2 with⟨i,rfl,hi⟩|⟨x,rfl,hx,_⟩|⟨ds,rfl,hd⟩
  .refine⟨fl "kind",cO,fun T=>?_,fun o3 o4 T=>?_⟩
   .simp[bq,kB,hV,fl]
   .simp[iT,hV,fl]
  .have hx':x.length<=sizeLine:=cy (by omega)
   refine⟨vl (.int x.length),.inl ⟨_,rfl,nE (by omega) (by omega)⟩,fun T=>?_,fun o3 o4 T=>?_⟩
   .simp[bq,kB,hV,vl,hx']
   .simp[iT,hV,vl,hx']
  .refine⟨vl (.int ds.length),.inl ⟨_,rfl,nE (by omega) (by omega)⟩,fun T=>?_,fun o3 o4 T=>?_⟩
   .simp[bq,kB,hV,vl]
   .simp[iT,hV,vl]
 |pair hw ha hb iha ihb=>
  rename_i n w a b;obtain⟨xs,hxs⟩:=Ex.tup ha
  obtain⟨f,hf⟩:=qr (es:=[a,b]) (fun x hx=>by
   simp at hx
   rcases hx with rfl|rfl
   .exact iha
   .exact ihb)
  have ne:¬w="put"/\¬w="got"/\¬w="row"/\¬w="many":=by
   simp[PW] at hw
   rcases hw with rfl|rfl|rfl|rfl|rfl <;> simp
  obtain⟨n1,n2,n4,n5⟩:=ne
  have e1:∀T,cW [.d (.tuple [.str (Pc w),a,b])] T=some (.list [a,b],T):=fun T=>by simp[cW,jl,n1,n2,n4]
  have e2:∀G T,ig [some (.d (.tuple [.str (Pc w),a,b])),some (.d G),some (.loc (.list [])),none,none] T=some ([a,b],T):=fun G T=>by subst hxs;simp[ig,jl,D.intD,D.gF,n4]
  refine qw (w0:=Pc w) (es:=[a,b]) (f:=f) ⟨⟨e1,rfl,by simp[n1],by simp[n2],by simp⟩,e2⟩ hf fun all=>?_;obtain⟨a1,a2⟩:=all a (by simp);obtain⟨b1,b2⟩:=all b (by simp);obtain⟨R,t,q1,q2⟩:=KU hw a2 b2;refine⟨R,t,fun T=>q1 T,fun o3 o4 T=>?_⟩;simp[iT,n4,n5,q2]
inductive Rg(p:Bool):Nat->Nat->Pa->Prop where
 |fail {g n:Nat}{x:Str}:isName (.str x)=true->Rg p g n (.tuple [.str "fail",.str x])
 |say {g n:Nat}{e:Pa}:Ex (g:Int) n e->Rg p g (n+1) (.tuple [.str "say",e])
 |ask {g n:Nat}{w:String}{e r:Pa}:(w="want"\/(w="peek"/\p=true))->g<12->Ex (g:Int) n e->Rg p (g+1) n r->Rg p g (n+1) (.tuple [.str (Pc w),e,r])
 |whn {g n:Nat}{e r s:Pa}:Ex (g:Int) n e->Rg p g n r->Rg p g n s->Rg p g (n+1) (.tuple [.str "when",e,r,s])
def mdT(v:Pa):PyData:=.tuple [.str "made",v]
def flT(x:Str):PyData:=.tuple [.str "fails",.str x]
def asT(b:Bool)(x:Str)(r:Pa):PyData:=.tuple [.str (Pc (if b then "peek" else "want")),.str x,r]
inductive StepOk(p:Bool)(g n:Nat):Pa->Prop where
 |md {v:Pa}:aH v=true->StepOk p g n (mdT v)
 |fl {x:Str}:isName (.str x)=true->StepOk p g n (flT x)
 |ask {b:Bool}{x:Str}{r:Pa}{n':Nat}:(b=true->p=true)->isName (.str x)=true->g<12->n'<=n->Rg p (g+1) n' r->StepOk p g n (asT b x r)
theorem StepOk.up(h:StepOk p g n S)(l:n<=m):StepOk p g m S:=by
 cases h with
 |md a=>exact .md a
 |fl a=>exact .fl a
 |ask a b c d e=>exact .ask a b c (PL d l) e
theorem rR:∀w∈FW,isName (.str (Pc w))=true:=by decide +kernel
theorem Gk:isName (.str "name")=true:=by decide +kernel
theorem Du(h:aH v=true):∃b,inG v (.tuple [.int 0,.str "",.tuple []])=some (.bool b):=by
 have h2:([RH 0,.str "",.tuple []]).all PR=true:=by
  have a:PR (.int 0)=true:=iF (by decide +kernel);have b:PR (.str "")=true:=iF (by decide +kernel);have c:PR (.tuple [])=true:=iF (by decide +kernel);simp[a,b,c]
 exact⟨_,if_pos ⟨iF h,h2⟩⟩
theorem Fu(T:Tp)(h:Sm d):jv [.d d] T=some (.bool (isName d),T):=by
 cases d with
 |str x=>
  have hz:x.length<=sizeLine:=PL h.str (by decide);have hh:∀T,iH [.d (.str x),.d (.str "abcdefghijklmnopqrstuvwxyz")] T=some (.bool (has LET x),T):=fun T=>Aw T hz;have e:isName (.str x)=(decide (1<=x.length)&&decide (x.length<=8)&&has LET x):=rfl
  by_cases h1:1<=x.length
  .have h1':(1:Int)<=(x.length:Int):=by omega
   by_cases h8:x.length<=8
   .have h8':(x.length:Int)<=8:=by omega
    simp[jv,hz,hh,e,h1,h1',h8,h8']
   .have h8':¬(x.length:Int)<=8:=by omega
    simp[jv,hz,hh,e,h1,h1',h8,h8']
  .have h1':¬(1:Int)<=(x.length:Int):=by omega
   simp[jv,hz,hh,e,h1,h1']
 |_=>rfl
theorem p0{α:Type}{a b c d:α}:atI [a,b,c,d] 0=some a:=rfl
theorem pZ{α:Type}{a b c d:α}:atI [a,b,c,d] 1=some b:=rfl
theorem AA{α:Type}{a b c d:α}:atI [a,b,c,d] 2=some c:=rfl
theorem Az{α:Type}{a b c d:α}:atI [a,b,c,d] 3=some d:=rfl
noncomputable def cst:Nat->Pa->List Nat
 |n+1,.tuple ds=>40::(bA [44] (ds.map (cst n))++[41])
 |0,.tuple _=>[]
 |_,.int i=>nc i
 |_,.str x=>39::cd x
 |_,_=>[]
theorem oq(n:Nat)(i:Int):cst n (.int i)=nc i:=by cases n <;> rfl
theorem om(n:Nat)(x:Str):cst n (.str x)=39::cd x:=by cases n <;> rfl
theorem Ea(h:single d=true):(cst n d).length<=21:=by
 rcases cX h with⟨i,rfl⟩|⟨x,rfl⟩
 .rw[oq]
  have:=yV h;omega
 .rw[om]
  have h':(decide (x.length<=20)&&has TXT x)=true:=h;rw[Po] at h';have:=of_decide_eq_true h'.1;rw[PH,fW];omega
theorem qz(f:Pa->List Nat):∀ds:List Pa,(ds.map fun d=>(f d).length).sum+ds.length<=(bA [44] (ds.map f)).length+1/\(bA [44] (ds.map f)).length<=(ds.map fun d=>(f d).length).sum+ds.length
 |[]=>by simp[bA]
 |[d]=>by simp[bA]
 |d::e::r=>by
  have ih:=qz f (e::r);have e1:bA [44] ((d::e::r).map f)=f d++[44]++bA [44] ((e::r).map f):=rfl;rw[e1];simp only[Pz,Rn,PH,PN,Td] at ih ⊢;omega
theorem rO:∀{ds:List Pa},(∀d∈ds,((cst n d).length:Int)+1<=25*aM n d)->(((ds.map fun d=>(cst n d).length).sum+ds.length:Nat):Int)<=25*(ds.map (aM n)).sum
 |[],_=>by simp
 |d::r,h=>by
  have h1:=h d Pi;have h2:=rO (ds:=r) fun x hx=>h x (Pg _ hx);simp only[Pz,Rn,PH];omega
theorem r8:∀(n:Nat) (d:Pa),aO n d=true->((cst n d).length:Int)+1<=25*aM n d
 |n,d,h=>by
  rcases cY h with h1|⟨m,ds,rfl,rfl,h8,hb⟩
  .have:=Ea (n:=n) h1
   have:=qV n d;omega
  .have ih:=r8 m
   have h1:=rO (ds:=ds) fun d hd=>ih d (hb d hd);have h2:=(qz (cst m) ds).2;show (((40::(bA [44] (ds.map (cst m))++[41])).length:Nat):Int)+1<=25*(1+(ds.map (aM m)).sum);simp only[PH,PN,Td];omega
termination_by n=>n
theorem rY(h:single (.int i)=true):gc [.int i]=some (.str (mk (nc i))):=by
 have h1:=qy h
 have h2:i.natAbs.log2<1920:=by
  by_cases z:i.natAbs=0
  .rw[z];decide
  .exact Py ((Vx (k:=64) z).mpr (QC h1 (by decide))) (by decide)
 have e:Pc (toString i)=mk (nc i):=ic (by rw[Kg,d6]);show (if i.natAbs.log2<1920 then some (PV (Pc (toString i))) else none)=_;rw[if_pos h2,e]
theorem jO(a b:List Nat):mk a++mk b=mk (a++b):=ic (by rw[iZ,d6,d6,d6])
theorem lit(h:cd (Pc s)=l):Pc s=mk l:=ic (by rw[h,d6])
theorem xF(f:Pa->List Nat)(ds:List Pa):((ds.map fun d=>mk (f d)).map (·.length)).sum=(ds.map fun d=>(f d).length).sum:=by
 rw[Rl];exact congrArg List.sum (QO fun d _=>dv _)
theorem xR(f:Pa->List Nat)(ds:List Pa):RR (mk [44]) (ds.map fun d=>mk (f d))=mk (bA [44] (ds.map f)):=ic (by
 rw[rP,d6,d6,Rl]
 exact congrArg (bA [44]) (QO fun d _=>d6 _))
theorem wH(hm:aM (m+1) (.tuple ds)<=40)(hb:∀x∈ds,aO m x=true):(bA [44] (ds.map (cst m))).length<=1000/\(ds.map fun d=>(cst m d).length).sum+ds.length<=1000:=by
 have h1:=rO (ds:=ds) fun d hd=>r8 m d (hb d hd);have h2:=(qz (cst m) ds).2;have h3:1+(ds.map (aM m)).sum<=40:=hm;omega
theorem str_len{n:Nat}{x:Str}(h:single (.str x)=true):x.length<=20:=by
 have h':(decide (x.length<=20)&&has TXT x)=true:=h;rw[Po] at h';exact of_decide_eq_true h'.1
theorem yA:∀(n k:Nat) (d:Pa) (T:Tp),aO n d=true->aM n d<=40->n<k->dr k [.d d] T=some (.str (mk (cst n d)),T)
 |n,0,d,T,h,hm,hk=>absurd hk (RX _)
 |n,k+1,d,T,h,hm,hk=>by
  have q1:=lit (s:="'") (l:=[39]) (by decide +kernel);have q2:=lit (s:="(") (l:=[40]) (by decide +kernel);have q3:=lit (s:=")") (l:=[41]) (by decide +kernel);have q4:=lit (s:=",") (l:=[44]) (by decide +kernel)
  rcases cY h with h1|⟨m,ds,rfl,rfl,h8,hb⟩
  .rcases cX h1 with⟨i,rfl⟩|⟨x,rfl⟩
   .simp[dr,jH,whole,rY h1,oq]
   .have e:mk [39]++x=mk (39::cd x):=by rw[←Aa x,jO,d6];rfl
    have l:(mk [39]).length+x.length<=sizeLine:=cy (by rw[dv];have:=str_len (n:=0) h1;simp;omega);simp[dr,jH,whole,om,zf,q1,l,e]
  .obtain⟨l1,l2⟩:=wH hm hb
   have c:=eE (e:=au (dr k) (ae (aa 0) ah)) (ρ:=[some (.d (.tuple ds))]) (T:=T) (g:=fun d=>.str (mk (cst m d))) (ds:=ds) fun d hd=>by
    have:=yA m k d T (hb d hd) (Wb (qE hd) hm) (by omega);simp[this]
   have j:=wj (z:=mk [44]) (mQ (fun d=>mk (cst m d)) ds);rw[xF,xR,Qb,dv] at j;rw[if_pos (by simp;omega)] at j;have a1:(mk [40]).length+(mk (bA [44] (ds.map (cst m)))).length<=sizeLine:=cy (by rw[dv,dv];simp;omega);have a2:(mk (40::bA [44] (ds.map (cst m)))).length+(mk [41]).length<=sizeLine:=cy (by rw[dv,dv];simp;omega)
   have e1:mk [40]++mk (bA [44] (ds.map (cst m)))=mk (40::bA [44] (ds.map (cst m))):=by rw[jO];rfl
   have e2:mk (40::bA [44] (ds.map (cst m)))++mk [41]=mk (cst (m+1) (.tuple ds)):=by rw[jO];rfl
   simp[dr,jH,whole,ze,q2,q3,q4,c,j,a1,a2,e1,e2]
def dN(w:String)(x:Pa):PyData:=.tuple [.str (Pc w),x]
def cS(b:Bool)(x:Str)(v:Pa):List PyData:=if b then [] else [.tuple [.str x,v]]
def stS(v:Pa):PyData:=.str (mk (cst 4 v))
noncomputable def rdS:Pa->Pa
 |.tuple [.str x,v]=>.tuple [.str x,stS v]
 |d=>d
theorem oz(T:Tp)(h:aH v=true):dr 25 [.d v] T=some (stS v,T):=yA 4 25 v T (cN h).1 (cN h).2 (by decide)
theorem wQ:∀(n k:Nat) (d:Pa) (T:Tp),aO n d=true->aM n d<=40->n<k->dB k [.d d] T=some (.str (mk (cst n d)),T)
 |n,0,d,T,h,hm,hk=>absurd hk (RX _)
 |n,k+1,d,T,h,hm,hk=>by
  have q1:=lit (s:="'") (l:=[39]) (by decide +kernel);have q2:=lit (s:="(") (l:=[40]) (by decide +kernel);have q3:=lit (s:=")") (l:=[41]) (by decide +kernel);have q4:=lit (s:=",") (l:=[44]) (by decide +kernel)
  rcases cY h with h1|⟨m,ds,rfl,rfl,h8,hb⟩
  .rcases cX h1 with⟨i,rfl⟩|⟨x,rfl⟩
   .simp[dB,rY h1,oq]
   .have e:mk [39]++x=mk (39::cd x):=by rw[←Aa x,jO,d6];rfl
    have l:(mk [39]).length+x.length<=sizeLine:=cy (by rw[dv];have:=str_len (n:=0) h1;simp;omega);simp[dB,om,zf,q1,l,e]
  .obtain⟨l1,l2⟩:=wH hm hb
   have c:=eE (e:=au (dB k) (ae (aa 0) ah)) (ρ:=[some (.d (.tuple ds))]) (T:=T) (g:=fun d=>.str (mk (cst m d))) (ds:=ds) fun d hd=>by
    have:=wQ m k d T (hb d hd) (Wb (qE hd) hm) (by omega);simp[this]
   have j:=wj (z:=mk [44]) (mQ (fun d=>mk (cst m d)) ds);rw[xF,xR,Qb,dv] at j;rw[if_pos (by simp;omega)] at j;have a1:(mk [40]).length+(mk (bA [44] (ds.map (cst m)))).length<=sizeLine:=cy (by rw[dv,dv];simp;omega);have a2:(mk (40::bA [44] (ds.map (cst m)))).length+(mk [41]).length<=sizeLine:=cy (by rw[dv,dv];simp;omega)
   have e1:mk [40]++mk (bA [44] (ds.map (cst m)))=mk (40::bA [44] (ds.map (cst m))):=by rw[jO];rfl
   have e2:mk (40::bA [44] (ds.map (cst m)))++mk [41]=mk (cst (m+1) (.tuple ds)):=by rw[jO];rfl
   simp[dB,ze,q2,q3,q4,c,j,a1,a2,e1,e2]
theorem rN(T:Tp)(h:aH v=true):dB 25 [.d v] T=some (stS v,T):=wQ 4 25 v T (cN h).1 (cN h).2 (by decide)
theorem Hn(T:Tp)(h:aH v=true):iC [.d v] T=some (.bool (isName v),T):=by
 rcases eC h with⟨i,rfl,_⟩|⟨x,rfl,hx,hx2⟩|⟨ds,rfl,_⟩
 .rfl
 .have z:x.length<=sizeLine:=PL hx (by decide)
  have e:isName (.str x)=(decide (1<=x.length)&&decide (x.length<=8)&&has LET x):=rfl
  have c:∀(ρ:Rho) (T:Tp),bD bu (af inD (aa 0) (fC (.str "abcdefghijklmnopqrstuvwxyz"))) ρ (D.signs x) T=some ((D.signs x).map fun d=>.bool (lH LET d),T):=fun ρ T=>eE (g:=fun d=>.bool (lH LET d)) fun d hd=>by
   obtain⟨c,_,rfl⟩:=u7 hd;simp[lH];rfl
  by_cases h1:1<=x.length
  .have h1':(1:Int)<=x.length:=by omega
   by_cases h8:x.length<=8
   .have h8':(x.length:Int)<=8:=by omega
    have sa:=u9 LET x;simp[iC,z,h1,h1',h8,h8',c,e,sa]
   .have h8':¬(x.length:Int)<=8:=by omega
    simp[iC,z,h1,h1',h8,h8',e]
  .have h1':¬(1:Int)<=x.length:=by omega
   have h0:x.length=0:=by omega
   simp[iC,z,h0,e]
 .rfl
theorem mx(x a b c:Str):inD (.str x) (.tuple [.str a,.str b,.str c])=some (.bool (decide (x=a)||decide (x=b)||decide (x=c))):=by
 have e:inD (.str x) (.tuple [.str a,.str b,.str c])=some (.bool (decide (a=x)||(decide (b=x)||(decide (c=x)||false)))):=rfl;rw[e,VP,Bool.or_assoc]
 congr 2
 rw[decide_eq_decide.mpr (show a=x↔x=a from⟨fun z=>z.symm,fun z=>z.symm⟩),decide_eq_decide.mpr (show b=x↔x=b from⟨fun z=>z.symm,fun z=>z.symm⟩),decide_eq_decide.mpr (show c=x↔x=c from⟨fun z=>z.symm,fun z=>z.symm⟩)]
def eV:FT:=(av (af inD (af ixD (aa 0) (fC (.int 0))) (aA .tuple (ae (fC (.str "want")) (ae (fC (.str "peek")) (ae (fC (.str "when")) ah))))))
abbrev qf:FS:=gR
def ko:FS:=(ak (fIf (av (af eqD (af ixD (aa 0) (fC (.int 0))) (fC (.str "fail")))) (aB (aA .tuple (ae (fCB bJ (ae (aa 3) ah)) (ae (aA .tuple (ae (fC (.str "fails")) (ae (af ixD (aa 0) (fC (.int 1))) ah))) ah)))) aD) (ak (aF 4 (hW (cM 25) (ae (af ixD (aa 0) (fC (.int 1))) (ae (aa 2) ah)))) (ak (fIf (av (af eqD (af ixD (aa 4) (fC (.int 0))) (fC (.str "fails")))) (aB (aA .tuple (ae (fCB bJ (ae (aa 3) ah)) (ae (aa 4) ah)))) aD) (aB (aA .tuple (ae (fCB bJ (ae (aa 3) ah)) (ae (aA .tuple (ae (fC (.str "made")) (ae (au (dB 25) (ae (af ixD (aa 4) (fC (.int 1))) ah)) ah))) (ae (af ixD (aa 4) (fC (.int 1))) ah))))))))
theorem Dg:gP=aP 5 (ak (cI 2 ah) (ak (cI 3 ah) (ak (bi eV qf 100000) ko))):=rfl
def ρL(r:Pa)(G:List (Pa×Pa))(gs rd:List Pa)(o:Option D.W):Rho:=[some (.d r),some (.d (.dict G)),some (.loc (.list gs)),some (.loc (.list (rd.map rdS))),o]
def goL(m:Nat)(r:Pa)(G:List (Pa×Pa))(gs rd:List Pa)(o:Option D.W)(T:Tp):Option (Pa×Tp):=df (bnd (bi eV qf m (ρL r G gs rd o) T) (jf ko))
def ql(n:Nat)(r:Pa)(gs:List Pa)(S:Pa):Prop:=∀(G:List (Pa×Pa)) (m:Nat) (rd:List Pa) (o:Option D.W) (T:Tp),n<m->rd.length<1000->(∀x v,ay G x=some v->aH v=true) ->
 (∀v,S=mdT v->goL m r G gs rd o T=some (.tuple [.tuple (rd.map rdS),.tuple [.str "made",stS v],v],T)) /\
 (∀x,S=flT x->goL m r G gs rd o T=some (.tuple [.tuple (rd.map rdS),dN "fails" (.str x)],T)) /\
 (∀b x r',S=asT b x r'->(ay G x=none->goL m r G gs rd o T=some (.tuple [.tuple (rd.map rdS),dN "wants" (.str x)],T)) /\
  ∀v,ay G x=some v->∃m' o',m<=m' + n/\goL m r G gs rd o T=goL m' r' G (gs++[v]) (rd++cS b x v) o' T)
theorem gD:mdT v≠flT x:=by simp[mdT,flT]
theorem whl{c:FT}{b:FS}{m:Nat}{ρ:Rho}{T:Tp}(h:c ρ T=some (true,T)):bi c b (m+1) ρ T=bnd (b ρ T) fun p T2=>match p with
   |(.nx,ρ1)=>bi c b m ρ1 T2
   |(.ct,ρ1)=>bi c b m ρ1 T2
   |(.bk,ρ1)=>some ((.nx,ρ1),T2)
   |(.rt x,ρ1)=>some ((.rt x,ρ1),T2)
   |(.ro x,ρ1)=>some ((.ro x,ρ1),T2):=by
 show bnd (c ρ T) _=_;rw[h];rfl
theorem yG(h:c ρ T=some (true,T))(hb:b ρ T=some ((.rt x,ρ'),T)):bi c b (m+1) ρ T=some ((.rt x,ρ'),T):=by rw[whl h,hb];rfl
theorem jI(h:c ρ T=some (true,T))(hb:b ρ T=some ((.nx,ρ'),T)):bi c b (m+1) ρ T=bi c b m ρ' T:=by rw[whl h,hb];rfl
theorem jB(h:c ρ T=some (false,T)):bi c b (m+1) ρ T=some ((.nx,ρ),T):=by
 show bnd (c ρ T) _=_;rw[h];rfl
theorem oV(h:eV (ρL r G gs rd o) T=some (true,T))(hb:qf (ρL r G gs rd o) T=some ((.rt x,ρ'),T)):goL (m+1) r G gs rd o T=some (x,T):=by
 unfold goL;rw[yG h hb];rfl
theorem zm(h:eV (ρL r G gs rd o) T=some (true,T))(hb:qf (ρL r G gs rd o) T=some ((.nx,ρL r' G gs' rd' o'),T)):goL (m+1) r G gs rd o T=goL m r' G gs' rd' o' T:=by
 unfold goL;rw[jI h hb]
theorem rQ(h:eV (ρL r G gs rd o) T=some (false,T)):goL (m+1) r G gs rd o T=df (ko (ρL r G gs rd o) T):=by
 unfold goL;rw[jB h];rfl
theorem ER:goL (m+1) (.tuple [.str "fail",.str x]) G gs rd o T=some (.tuple [.tuple (rd.map rdS),dN "fails" (.str x)],T):=by
 rw[rQ (by simp[eV,ρL,mx])];simp[ρL,ko,dN,D.bJ]
theorem EG:∀(n g:Nat) (r:Pa),Rg p g n r->∀gs:List Pa,gs.length=g->(∀v∈gs,aH v=true)->n<=20->∃S,StepOk p g n S/\(∀k T,n<k->cZ k [.d r,.d (.tuple gs)] T=some (S,T))/\ql n r gs S:=by
 intro n g r h
 induction h with
 |fail hx=>
  rename_i g n x;intro gs hl hv hn;refine⟨flT x,.fl hx,fun k T hk=>?_,fun G m rd o T hm hr hG=>⟨fun v e=>absurd e.symm gD,fun y e=>?_,fun b y r' e=>?_⟩⟩
  .obtain⟨k,rfl⟩:=bj k (by omega)
   simp[cZ,flT]
  .obtain⟨m,rfl⟩:=bj m (by omega)
   have:x=y:=by simpa[flT] using e
   subst this;exact ER
  .cases b <;> simp[flT,asT] at e
 |say he=>
  rename_i g n e;intro gs hl hv hn;have hls:gs.length<=12\/True:=.inr trivial;obtain⟨R,t,hL,hP⟩:=qB (qH gs) hv (by rw[hl];exact QV _) n e he;have tb:=fun T=>hP 25 T (by omega);have tl:∀T,i3 (cM 25) [.d e,.loc (.list gs)] T=some (.d R,T):=fun T=>mX rfl (hL 25 [] (by omega)) (nj t)
  rcases t with⟨v,rfl,hv'⟩|⟨w,hw,rfl⟩
  .refine⟨mdT v,.md hv',fun k T hk=>?_,fun G m rd o T hm hr hG=>⟨fun u e'=>?_,fun y e'=>absurd e' gD,fun b y r' e'=>?_⟩⟩
   .obtain⟨k,rfl⟩:=bj k (by omega)
    simp[cZ,mdT,tb,vl]
   .obtain⟨m,rfl⟩:=bj m (by omega)
    have:v=u:=by simpa[mdT] using e'
    subst this;rw[rQ (by simp[eV,ρL,mx])];simp[ρL,ko,tl,vl,rN _ hv',D.bJ]
   .cases b <;> simp[mdT,asT] at e'
  .refine⟨flT (Pc w),.fl (rR w hw),fun k T hk=>?_,fun G m rd o T hm hr hG=>⟨fun u e'=>absurd e'.symm gD,fun y e'=>?_,fun b y r' e'=>?_⟩⟩
   .obtain⟨k,rfl⟩:=bj k (by omega)
    simp[cZ,flT,tb,fl]
   .obtain⟨m,rfl⟩:=bj m (by omega)
    have:Pc w=y:=by simpa[flT] using e'
    subst this;rw[rQ (by simp[eV,ρL,mx])];simp[ρL,ko,tl,fl,dN,D.bJ]
   .cases b <;> simp[flT,asT] at e'
 |ask hw hg he hr ih=>
  rename_i g n w e r;intro gs hl hv hn;obtain⟨R,t,hL,hP⟩:=qB (qH gs) hv (by rw[hl];exact QV _) n e he;have tb:=fun T=>hP 25 T (by omega);have tl:∀T,i3 (cM 25) [.d e,.loc (.list gs)] T=some (.d R,T):=fun T=>mX rfl (hL 25 [] (by omega)) (nj t)
  have nw:¬w="fail"/\¬w="when"/\¬w="say":=by rcases hw with rfl|⟨rfl,_⟩ <;> simp
  obtain⟨n1,n2,n3⟩:=nw
  have hcA:∀G rd o T,eV (ρL (.tuple [.str (Pc w),e,r]) G gs rd o) T=some (true,T):=fun G rd o T=>by rcases hw with rfl|⟨rfl,_⟩ <;> simp[eV,ρL,mx]
  have hgl:gs.length<sizeLine:=Py (by omega:gs.length<1000) (by decide)
  rcases t with⟨v,rfl,hv'⟩|⟨u,hu,rfl⟩
  .have ln:=fun T=>Fu (d:=v) T (oy hv')
   have ll:=fun T=>Hn (v:=v) T hv'
   cases hi:isName v with
   |false=>
    refine⟨flT "name",.fl Gk,fun k T hk=>?_,fun G m rd o T hm hr hG=>⟨fun u e'=>absurd e'.symm gD,fun y e'=>?_,fun b y r' e'=>?_⟩⟩
    .obtain⟨k,rfl⟩:=bj k (by omega)
     simp[cZ,flT,tb,vl,n1,n2,n3,ln,hi]
    .obtain⟨m,rfl⟩:=bj m (by omega)
     have:Pc "name"=y:=by simpa[flT] using e'
     subst this;exact oV (hcA G rd o T) (by simp[gR,ρL,tl,vl,dN,n2,n3,ll,hi,D.bJ];rfl)
    .cases b <;> simp[flT,asT] at e'
   |true=>
    obtain⟨x,rfl⟩:∃x,v=.str x:=by cases v <;> first|exact⟨_,rfl⟩|cases hi
    obtain⟨b,hb,hbp⟩:∃b:Bool,w=(if b then "peek" else "want")/\(b=true->p=true):=by
     rcases hw with rfl|⟨rfl,hp⟩
     .exact⟨false,rfl,fun z=>by cases z⟩
     .exact⟨true,rfl,fun _=>hp⟩
    refine⟨asT b x r,.ask hbp hi hg (S6 n) hr,fun k T hk=>?_,fun G m rd o T hm hrd hG=>⟨fun u e'=>?_,fun y e'=>?_,fun b' y r' e'=>?_⟩⟩
    .obtain⟨k,rfl⟩:=bj k (by omega)
     simp[cZ,asT,tb,vl,n1,n2,n3,ln,hi,hb]
     cases b <;> simp
    .cases b <;> simp[mdT,asT] at e'
    .cases b <;> simp[flT,asT] at e'
    .obtain⟨m,rfl⟩:=bj m (by omega)
     have hc:=hcA G rd o T
     obtain⟨rfl,rfl,rfl⟩:b=b'/\x=y/\r=r':=by
      cases b <;> cases b' <;> simp[asT] at e' <;> simp[e']
     have hrl:rd.length<sizeLine:=Py hrd (by decide);refine⟨fun hk=>oV hc (by simp[gR,ρL,tl,vl,dN,n2,n3,ll,hi,c8,hk,D.bJ];rfl),fun v hk=>⟨m,some (.d (vl (.str x))),by omega,?_⟩⟩;refine zm hc ?_
     cases b with
     |true=>
      subst hb;simp[gR,ρL,tl,vl,n2,n3,ll,hi,c8,ixA,hk,hgl,cS]
     |false=>
      subst hb;simp[gR,ρL,tl,vl,n2,n3,ll,hi,c8,ixA,hk,hgl,hrl,cS,rdS,rN T (hG x v hk)]
  .refine⟨flT (Pc u),.fl (rR u hu),fun k T hk=>?_,fun G m rd o T hm hr hG=>⟨fun u e'=>absurd e'.symm gD,fun y e'=>?_,fun b y r' e'=>?_⟩⟩
   .obtain⟨k,rfl⟩:=bj k (by omega)
    simp[cZ,flT,tb,fl,n1]
   .obtain⟨m,rfl⟩:=bj m (by omega)
    have:Pc u=y:=by simpa[flT] using e'
    subst this;exact oV (hcA G rd o T) (by simp[gR,ρL,tl,fl,dN,D.bJ];rfl)
   .cases b <;> simp[flT,asT] at e'
 |whn he hr hs ihr ihs=>
  rename_i g n e r s;intro gs hl hv hn;obtain⟨R,t,hL,hP⟩:=qB (qH gs) hv (by rw[hl];exact QV _) n e he;have tb:=fun T=>hP 25 T (by omega);have tl:∀T,i3 (cM 25) [.d e,.loc (.list gs)] T=some (.d R,T):=fun T=>mX rfl (hL 25 [] (by omega)) (nj t)
  have hc:∀G rd o T,eV (ρL (.tuple [.str "when",e,r,s]) G gs rd o) T=some (true,T):=fun G rd o T=>by simp[eV,ρL,p0,mx]
  rcases t with⟨v,rfl,hv'⟩|⟨u,hu,rfl⟩
  .obtain⟨b,hb⟩:=Du hv'
   have key:∀q,q=(if b=true then s else r)->∀S,StepOk p g n S->(∀k T,n<k->cZ k [.d q,.d (.tuple gs)] T=some (S,T))->ql n q gs S->∃S,StepOk p g (n+1) S/\(∀k T,n+1<k->cZ k [.d (.tuple [.str "when",e,r,s]),.d (.tuple gs)] T=some (S,T))/\ql (n+1) (.tuple [.str "when",e,r,s]) gs S:=by
    intro q hq S hS hq2 hq3;refine⟨S,hS.up (S6 n),fun k T hk=>?_,fun G m rd o T hm hrd hG=>?_⟩
    .obtain⟨k,rfl⟩:=bj k (by omega)
     have:=hq2 k T (by omega)
     cases b <;> (simp at hq;subst hq;simp[cZ,tb,vl,hb,p0,pZ,AA,Az,this])
    .obtain⟨m,rfl⟩:=bj m (by omega)
     have st:goL (m+1) (.tuple [.str "when",e,r,s]) G gs rd o T=goL m q G gs rd (some (.d (vl v))) T:=by
      refine zm (hc G rd o T) ?_
      cases b <;> (simp at hq;subst hq;simp[gR,ρL,tl,vl,hb,p0,pZ,AA,Az])
     obtain⟨a1,a2,a3⟩:=hq3 G m rd (some (.d (vl v))) T (by omega) hrd hG;refine⟨fun u e'=>by rw[st];exact a1 u e',fun y e'=>by rw[st];exact a2 y e',fun b' y r' e'=>?_⟩;obtain⟨c1,c2⟩:=a3 b' y r' e';refine⟨fun hk=>by rw[st];exact c1 hk,fun w hk=>?_⟩;obtain⟨m',o',l,q'⟩:=c2 w hk;exact⟨m',o',by omega,by rw[st];exact q'⟩
   cases b with
   |true=>
    obtain⟨S,h1,h2,h3⟩:=ihs gs hl hv (by omega);exact key s rfl S h1 h2 h3
   |false=>
    obtain⟨S,h1,h2,h3⟩:=ihr gs hl hv (by omega);exact key r rfl S h1 h2 h3
  .refine⟨flT (Pc u),.fl (rR u hu),fun k T hk=>?_,fun G m rd o T hm hr hG=>⟨fun u e'=>absurd e'.symm gD,fun y e'=>?_,fun b y r' e'=>?_⟩⟩
   .obtain⟨k,rfl⟩:=bj k (by omega)
    simp[cZ,flT,tb,fl,p0,pZ]
   .obtain⟨m,rfl⟩:=bj m (by omega)
    have:Pc u=y:=by simpa[flT] using e'
    subst this;exact oV (hc G rd o T) (by simp[gR,ρL,tl,fl,dN,pZ,D.bJ];rfl)
   .cases b <;> simp[flT,asT] at e'
@[simp] theorem MZ:dZ f ρ T=j9 T (f (cD ρ) []):=rfl
@[simp] theorem LM:cD []=[]:=rfl
@[simp] theorem LI:cD (none::r)=none::cD r:=rfl
@[simp] theorem LL:cD (some (.d x)::r)=some (.d x)::cD r:=rfl
@[simp] theorem LJ:cD (some (.loc x)::r)=some (.d x)::cD r:=rfl
@[simp] theorem LH:cD (some (.tp i)::r)=none::cD r:=rfl
theorem qX(h:a7 x=true):j9 T (some (.d x,T'))=some (.d x,T):=if_pos h
theorem sm(h:Ex m n e):a7 e=true:=by
 induction h with
 |put hv=>simp[a7,br,jC hv]
 |got _ _=>simp[a7,br]
 |row _ _ ih=>simp[a7,br,iL ih]
 |many _ ih=>simp[a7,br,ih]
 |pair _ _ _ iha ihb=>simp[a7,br,iha,ihb]
theorem HE(h:Rg p g n r):a7 r=true:=by
 induction h with
 |fail _=>simp[a7,br]
 |say he=>simp[a7,br,sm he]
 |ask _ _ he _ ih=>simp[a7,br,sm he,ih]
 |whn he _ _ ih1 ih2=>simp[a7,br,sm he,ih1,ih2]
theorem D4(h:StepOk p g n S):a7 S=true:=by
 cases h with
 |md hv=>simp[mdT,a7,br,jC hv]
 |fl _=>simp[flT,a7,br]
 |ask _ _ _ _ hr=>simp[asT,a7,br,HE hr]
def stp(r:Pa)(gs:List Pa):PyData:=match cZ 25 [.d r,.d (.tuple gs)] [] with
 |some (S,_)=>S
 |none=>.none
theorem jJ(h:Rg p g n r)(hl:gs.length=g)(hv:∀v∈gs,aH v=true)(hn:n<=20) :
  StepOk p g n (stp r gs)/\(∀k T,n<k->cZ k [.d r,.d (.tuple gs)] T=some (stp r gs,T))/\ql n r gs (stp r gs):=by
 obtain⟨S,h1,h2,h3⟩:=EG n g r h gs hl hv hn
 have e:stp r gs=S:=by
  unfold stp;rw[h2 25 [] (by omega)]
 rw[e];exact⟨h1,h2,h3⟩
noncomputable def f9:Pa->Option (Bool×Str×Pa)
 |.tuple [.str w,.str x,r]=>if w=Pc "want" then some (false,x,r) else if w=Pc "peek" then some (true,x,r) else none
 |_=>none
@[simp] theorem zF:f9 (asT b x r)=some (b,x,r):=by cases b <;> simp[asT,f9]
@[simp] theorem OA:f9 (mdT v)=none:=by simp[mdT,f9]
@[simp] theorem OB:f9 (flT x)=none:=by simp[flT,f9]
structure St3 where
 gs:List Pa
 rd:List Pa
 S:Pa
abbrev Dc:=List (Pa×Pa)
def jh:Nat->Dc->St3->St3
 |0,_,s=>s
 |f+1,G,s=>match f9 s.S with
  |none=>s
  |some (b,x,r)=>match ay G x with
   |none=>s
   |some v=>jh f G ⟨s.gs++[v],s.rd++cS b x v,stp r (s.gs++[v])⟩
def run(G:Dc)(s:St3):St3:=jh (12-s.gs.length) G s
structure OkS(p:Bool)(n:Nat)(s:St3):Prop where
 v:∀v∈s.gs,aH v=true
 st:StepOk p s.gs.length n s.S
 rd:s.rd.length<=s.gs.length
 rv:∀d∈s.rd,∃x v,d=.tuple [.str x,v]/\aH v=true
 le:s.gs.length<=12
 rn:∀d∈s.rd,∃x v,d=.tuple [.str x,v]/\isName (.str x)=true
def GV(G:Dc):Prop:=∀x v,ay G x=some v->aH v=true
theorem nI(h:f9 s.S=none):run G s=s:=by
 unfold run
 cases 12-s.gs.length with
 |zero=>rfl
 |succ f=>rw[jh,h]
theorem qS(h:s.S=asT b x r)(hk:ay G x=none):run G s=s:=by
 unfold run
 cases 12-s.gs.length with
 |zero=>rfl
 |succ f=>rw[jh,h,zF];simp only[hk]
theorem gy(h:s.S=asT b x r)(hl:s.gs.length<12)(hk:ay G x=some v):run G s=run G ⟨s.gs++[v],s.rd++cS b x v,stp r (s.gs++[v])⟩:=by
 have e:12-s.gs.length=(12-(s.gs++[v]).length)+1:=by simp;omega
 show jh (12-s.gs.length) G s=_;rw[e,jh,h,zF];simp only[hk];rfl
theorem OkS.next{p:Bool}{n:Nat}{s:St3}{b:Bool}{x:Str}{r v:Pa}(h:OkS p n s)(e:s.S=asT b x r)(hn:n<=20)(hv:aH v=true):s.gs.length<12/\OkS p n ⟨s.gs++[v],s.rd++cS b x v,stp r (s.gs++[v])⟩:=by
 have st:=h.st;rw[e] at st;generalize hS:asT b x r=S at st
 cases st with
 |md _=>cases b <;> simp[asT,mdT] at hS
 |fl _=>cases b <;> simp[asT,flT] at hS
 |@ask b' x' r' n' hp hx hg hn' hr=>
  obtain⟨rfl,rfl,rfl⟩:b=b'/\x=x'/\r=r':=by
   cases b <;> cases b' <;> simp[asT] at hS <;> simp[hS]
  have hv':∀u∈s.gs++[v],aH u=true:=fun u hu=>(PD.mp hu).elim (h.v u) fun z=>by rw[Pl.mp z];exact hv
  obtain⟨a1,_,_⟩:=jJ hr (by simp) hv' (by omega:n'<=20);refine⟨hg,hv',by have:=a1.up hn';simpa using this,?_,fun d hd=>?_,by simp;omega,fun d hd=>?_⟩
  .have:=h.rd
   cases b <;> simp[cS] <;> omega
  .rcases PD.mp hd with z|z
   .exact h.rv d z
   .cases b with
    |true=>simp[cS] at z
    |false=>simp[cS] at z;exact⟨x,v,z,hv⟩
  .rcases PD.mp hd with z|z
   .exact h.rn d z
   .cases b with
    |true=>simp[cS] at z
    |false=>simp[cS] at z;exact⟨x,v,z,hx⟩
def tI(G:Dc)(S:Pa):Prop:=f9 S=none\/∃b x r,S=asT b x r/\ay G x=none
theorem fh(h:StepOk p g n S):(∃v,S=mdT v/\aH v=true)\/(∃x,S=flT x/\isName (.str x)=true)\/∃b x r,S=asT b x r/\isName (.str x)=true:=by
 cases h with
 |md hv=>exact .inl ⟨_,rfl,hv⟩
 |fl hx=>exact .inr (.inl ⟨_,rfl,hx⟩)
 |ask _ hx _ _ _=>exact .inr (.inr ⟨_,_,_,rfl,hx⟩)
theorem iN(hG:GV G)(hn:n<=20)(Q:St3->St3->Prop)(h0:∀s,OkS p n s->tI G s.S->Q s s)(h1:∀s b x r v,OkS p n s->s.S=asT b x r->ay G x=some v->s.gs.length<12->OkS p n ⟨s.gs++[v],s.rd++cS b x v,stp r (s.gs++[v])⟩ ->
  Q ⟨s.gs++[v],s.rd++cS b x v,stp r (s.gs++[v])⟩ (run G ⟨s.gs++[v],s.rd++cS b x v,stp r (s.gs++[v])⟩)->Q s (run G s)):∀(f:Nat) (s:St3),OkS p n s->12-s.gs.length=f->Q s (run G s)
 |f,s,h,hf=>by
  rcases fh h.st with⟨v,e,_⟩|⟨x,e,_⟩|⟨b,x,r,e,_⟩
  .rw[nI (by rw[e];simp)]
   exact h0 s h (.inl (by rw[e];simp))
  .rw[nI (by rw[e];simp)]
   exact h0 s h (.inl (by rw[e];simp))
  .cases hk:ay G x with
   |none=>
    rw[qS e hk];exact h0 s h (.inr ⟨b,x,r,e,hk⟩)
   |some v=>
    obtain⟨hl,h'⟩:=h.next e hn (hG x v hk);exact h1 s b x r v h e hk hl h' (iN hG hn Q h0 h1 (f-1) _ h' (by simp;omega))
termination_by f=>f
decreasing_by omega
theorem g7(hG:GV G)(hn:n<=20)(h:OkS p n s):OkS p n (run G s)/\tI G (run G s).S:=iN hG hn (fun _ s'=>OkS p n s'/\tI G s'.S) (fun s h e=>⟨h,e⟩) (fun s b x r v _ e hk hl _ q=>by rw[gy e hl hk];exact q) _ s h rfl
def cm(s:St3):PyData:=.tuple [.tuple s.gs,.tuple s.rd,s.S]
theorem HF(h:OkS p n s):a7 (cm s)=true:=by
 have h1:br s.gs=true:=iL fun d hd=>jC (h.v d hd)
 have h2:br s.rd=true:=iL fun d hd=>by
  obtain⟨x,v,rfl,hv⟩:=h.rv d hd;simp[a7,br,jC hv]
 simp[cm,a7,br,h1,h2,D4 h.st]
theorem rE(T:Tp):eA [.d (cm ⟨gs,rd,asT b x r⟩)] T=some (.str x,T):=by cases b <;> simp[eA,cm,asT,inD,inS,cE,eqF]
theorem Fm(T:Tp):eA [.d (cm ⟨gs,rd,mdT v⟩)] T=some (.none,T):=by simp[eA,cm,mdT,inD,inS,cE,eqF]
theorem Fo(T:Tp):eA [.d (cm ⟨gs,rd,flT x⟩)] T=some (.none,T):=by simp[eA,cm,flT,inD,inS,cE,eqF]
theorem Hr(T:Tp)(h:OkS p n s)(e:s.S=asT b x r)(hn:n<=20)(hv:aH v=true) :
  jF [.d (cm s),.d v] T=some (cm ⟨s.gs++[v],s.rd++cS b x v,stp r (s.gs++[v])⟩,T):=by
 have st:=h.st;rw[e] at st;generalize hS:asT b x r=S at st
 cases st with
 |md _=>cases b <;> simp[asT,mdT] at hS
 |fl _=>cases b <;> simp[asT,flT] at hS
 |@ask b' x' r' n' hp hx hg hn' hr=>
  obtain⟨rfl,rfl,rfl⟩:b=b'/\x=x'/\r=r':=by
   cases b <;> cases b' <;> simp[asT] at hS <;> simp[hS]
  have hv':∀u∈s.gs++[v],aH u=true:=fun u hu=>(PD.mp hu).elim (h.v u) fun z=>by rw[Pl.mp z];exact hv
  obtain⟨_,a2,_⟩:=jJ hr (by simp) hv' (by omega:n'<=20);have st:=a2 25 T (by omega);have l1:s.gs.length+1<=sizeLine:=cy (by omega);have l2:s.rd.length+1<=sizeLine:=cy (by have:=h.rd;omega);obtain⟨gs,rd,S0⟩:=s;subst e
  cases b with
  |true=>simp[jF,cm,asT,l1,st,cS]
  |false=>simp[jF,cm,asT,l1,l2,st,cS]
def goC:FT:=(av (af inA (au eA (ae (aa 0) ah)) (aa 1)))
def goB:FS:=(aF 0 (au jF (ae (aa 0) (ae (af ixA (aa 1) (au eA (ae (aa 0) ah))) ah))))
theorem GL:kO=aP 2 (ak (bi goC goB 100000) (aB (aa 0))):=rfl
theorem Dy(hG:GV G)(hn:n<=20)(T:Tp)(s:St3)(h:OkS p n s):∀m,12-s.gs.length<m->bi goC goB m [some (.d (cm s)),some (.d (.dict G))] T=some ((.nx,[some (.d (cm (run G s))),some (.d (.dict G))]),T):=by
 refine iN hG hn (fun s s'=>∀m,12-s.gs.length<m->bi goC goB m [some (.d (cm s)),some (.d (.dict G))] T=some ((.nx,[some (.d (cm s')),some (.d (.dict G))]),T)) (fun s h e m hm=>?_) (fun s b x r v h e hk hl h' q m hm=>?_) _ s h rfl
 .obtain⟨m,rfl⟩:=bj m (by omega)
  refine jB ?_;obtain⟨gs,rd,S⟩:=s
  rcases fh h.st with⟨v,e1,_⟩|⟨x,e1,_⟩|⟨b,x,r,e1,_⟩
  .have e1:S=mdT v:=e1
   subst e1;simp[goC,Fm,inA,inB,inK]
  .have e1:S=flT x:=e1
   subst e1;simp[goC,Fo,inA,inB,inK]
  .have e1:S=asT b x r:=e1
   subst e1
   rcases e with e|⟨b',x',r',e2,hk⟩
   .simp at e
   .have:x=x':=by
     have e2:asT b x r=asT b' x' r':=e2
     cases b <;> cases b' <;> simp[asT] at e2 <;> simp[e2]
    subst this;simp[goC,rE,inA,inB,inK,hk]
 .obtain⟨m,rfl⟩:=bj m (by omega)
  have gv:=Hr T h e hn (hG x v hk);rw[gy e hl hk]
  have hc:goC [some (.d (cm s)),some (.d (.dict G))] T=some (true,T):=by
   obtain⟨gs,rd,S⟩:=s;have e1:S=asT b x r:=e;subst e1;simp[goC,rE,inA,inB,inK,hk]
  have hb:goB [some (.d (cm s)),some (.d (.dict G))] T=some ((.nx,[some (.d (cm ⟨s.gs++[v],s.rd++cS b x v,stp r (s.gs++[v])⟩)),some (.d (.dict G))]),T):=by
   have aw:eA [.d (cm s)] T=some (.str x,T):=by
    obtain⟨gs,rd,S⟩:=s;have e1:S=asT b x r:=e;subst e1;exact rE T
   simp[goB,aw,ixA,hk,gv]
  rw[jI hc hb];exact q m (by simp;omega)
theorem Jz(T:Tp)(hG:GV G)(hn:n<=20)(h:OkS p n s):kO [.d (cm s),.d (.dict G)] T=some (cm (run G s),T):=by
 rw[GL];have:=Dy hG hn T s h 100000 (by omega);simp[this]
def s0(r:Pa):St3:=⟨[],[],stp r []⟩
theorem de(h:Rg p 0 n r)(hn:n<=20):OkS p n (s0 r):=by
 obtain⟨a1,_,_⟩:=jJ (gs:=[]) h rfl (by simp) hn;exact⟨by simp[s0],a1,by simp[s0],by simp[s0],by simp[s0],by simp[s0]⟩
theorem Hi(T:Tp)(h:Rg p 0 n r)(hn:n<=20):kJ [.d r] T=some (cm (s0 r),T):=by
 obtain⟨_,a2,_⟩:=jJ (gs:=[]) h rfl (by simp) hn;simp[kJ,a2 25 T (by omega),cm,s0]
noncomputable def dO:Pa->Pa
 |.tuple [.str w,v]=>if w=Pc "made" then .tuple [.str w,stS v] else .tuple [.str w,v]
 |.tuple [_,.str x,_]=>dN "wants" (.str x)
 |_=>.none
@[simp] theorem n8:dO (mdT v)=.tuple [.str "made",stS v]:=by simp[mdT,dO]
@[simp] theorem n9:dO (flT x)=flT x:=by simp[flT,dO]
@[simp] theorem og:dO (asT b x r)=dN "wants" (.str x):=rfl
def vMd:Pa->List Pa
 |.tuple [.str w,v]=>if w=Pc "made" then [v] else []
 |_=>[]
@[simp] theorem Hw:vMd (mdT v)=[v]:=by simp[mdT,vMd]
@[simp] theorem Hy:vMd (flT x)=[]:=by simp[flT,vMd]
@[simp] theorem Hz:vMd (asT b x r)=[]:=rfl
def di(s:St3):PyData:=.tuple (.tuple (s.rd.map rdS)::dO s.S::vMd s.S)
def AtL(p:Bool)(n:Nat)(s:St3)(r:Pa):Prop:=∃n',n'<=n/\Rg p s.gs.length n' r/\s.S=stp r s.gs
theorem EI(hG:GV G)(hn:n<=20)(T:Tp)(s:St3)(h:OkS p n s):∀r m o,AtL p n s r->(13-s.gs.length)*21<m->goL m r G s.gs s.rd o T=some (di (run G s),T):=by
 refine iN hG hn (fun s s'=>∀r m o,AtL p n s r->(13-s.gs.length)*21<m->goL m r G s.gs s.rd o T=some (di s',T)) (fun s h e r m o a hm=>?_) (fun s b x r0 v h e hk hl h' q r m o a hm=>?_) _ s h rfl
 .obtain⟨n',hn',hr,hs⟩:=a
  obtain⟨_,_,a3⟩:=jJ hr rfl h.v (by omega);obtain⟨c1,c2,c3⟩:=a3 G m s.rd o T (by have:=h.le;omega) (by have:=h.rd;have:=h.le;omega) hG;rw[←hs] at c1 c2 c3
  rcases fh h.st with⟨v,e1,_⟩|⟨x,e1,_⟩|⟨b,x,r,e1,_⟩
  .rw[c1 v e1,di,e1];simp
  .rw[c2 x e1,di,e1];simp;rfl
  .rcases e with e|⟨b',x',r',e2,hk⟩
   .rw[e1] at e;simp at e
   .rw[(c3 b' x' r' e2).1 hk,di,e2];simp
 .obtain⟨n',hn',hr,hs⟩:=a
  obtain⟨a1,_,a3⟩:=jJ hr rfl h.v (by omega);obtain⟨_,_,c3⟩:=a3 G m s.rd o T (by omega) (by have:=h.rd;omega) hG;rw[←hs] at c3 a1;obtain⟨m',o',l,go⟩:=(c3 b x r0 e).2 v hk;rw[go,gy e hl hk];rw[e] at a1;generalize hS:asT b x r0=S at a1
  cases a1 with
  |md _=>cases b <;> simp[asT,mdT] at hS
  |fl _=>cases b <;> simp[asT,flT] at hS
  |@ask b' x' r' n2 hp hx hg hn2 hr2=>
   obtain⟨rfl,rfl,rfl⟩:b=b'/\x=x'/\r0=r':=by
    cases b <;> cases b' <;> simp[asT] at hS <;> simp[hS]
   refine q r0 m' o' ⟨n2,by omega,by simpa using hr2,rfl⟩ ?_;simp;omega
theorem wR(T:Tp)(hG:GV G)(hn:n<=20)(h:Rg p 0 n r):gP [.d r,.d (.dict G)] T=some (di (run G (s0 r)),T):=by
 have:=EI hG hn T (s0 r) (de h hn) r 100000 none ⟨n,Pm _,h,rfl⟩ (by simp[s0]);rw[←this,Dg];simp[goL,ρL,s0]
theorem rF:a7 (stS v)=true:=by simp[stS,a7]
theorem D5(h:OkS p n s):a7 (di s)=true:=by
 have h2:br (s.rd.map rdS)=true:=iL fun d hd=>by
  obtain⟨e,he,rfl⟩:=Pq.mp hd;obtain⟨x,v,rfl,hv⟩:=h.rv e he;simp[rdS,a7,br,rF]
 rcases fh h.st with⟨v,e,hv⟩|⟨y,e,_⟩|⟨b',y,r',e,_⟩
 .simp[di,e,a7,br,h2,rF,jC hv]
 .simp[di,e,a7,br,h2]
  simp[flT,a7,br]
 .simp[di,e,a7,br,h2,dN]
theorem Dr{ds:Dc}{x y:Str}{v:Pa}:ay (ds++[(.str x,v)]) y=match ay ds y with
  |some u=>some u
  |none=>if x=y then some v else none:=by
 induction ds with
 |nil=>rfl
 |cons q r ih=>
  obtain⟨k,d⟩:=q
  cases k with
  |str k=>
   show (if k=y then some d else ay (r++[(.str x,v)]) y)=_
   by_cases h:k=y
   .rw[if_pos h]
    have:ay ((PV k,d)::r) y=some d:=if_pos h;rw[this]
   .rw[if_neg h,ih]
    have:ay ((PV k,d)::r) y=ay r y:=if_neg h;rw[this]
  |_=>exact ih
theorem Dp:ay (bT ds x v) y=if x=y then (ay ds x).map (fun _=>v) else ay ds y:=by
 induction ds with
 |nil=>by_cases h:x=y <;> simp[bT,ay,h]
 |cons q r ih=>
  obtain⟨k,d⟩:=q
  cases k with
  |str k=>
   by_cases hk:k=x
   .subst hk
    have e1:bT ((PV k,d)::r) k v=(.str k,v)::bT r k v:=if_pos rfl;rw[e1]
    by_cases h:k=y
    .subst h
     simp[ay]
    .simp[ay,h,ih]
   .have e1:bT ((PV k,d)::r) x v=(.str k,d)::bT r x v:=if_neg hk
    rw[e1]
    by_cases h:x=y
    .subst h
     simp[ay,hk,ih]
    .simp[ay,h] at ih ⊢
     rw[ih]
  |_=>exact ih
theorem uy:(bT ds x v).length=ds.length:=by
 induction ds with
 |nil=>rfl
 |cons q r ih=>
  obtain⟨k,d⟩:=q
  cases k with
  |str k=>
   by_cases hk:k=x
   .have e1:bT ((PV k,d)::r) x v=(.str k,v)::bT r x v:=if_pos hk
    rw[e1,PH,PH,ih]
   .have e1:bT ((PV k,d)::r) x v=(.str k,d)::bT r x v:=if_neg hk
    rw[e1,PH,PH,ih]
  |_=>exact congrArg (· + 1) ih
theorem kM:ay (putN ds x v) y=if x=y then some v else ay ds y:=by
 unfold putN
 cases h:ay ds x with
 |some u=>
  rw[if_pos (by rfl),Dp,h];rfl
 |none=>
  rw[if_neg (by simp),Dr]
  by_cases hx:x=y
  .subst hx;rw[h,if_pos rfl]
  .rw[if_neg hx,if_neg hx]
   cases ay ds y <;> rfl
def Sub(G G':Dc):Prop:=∀x v,ay G x=some v->ay G' x=some v
theorem Sub.refl(G:Dc):Sub G G:=fun _ _ h=>h
theorem Sub.trans(h:Sub A B)(g:Sub B C):Sub A C:=fun x v q=>g x v (h x v q)
theorem Sub.new(h:ay G x=none):Sub G (putN G x v):=fun y u q=>by
 rw[kM]
 by_cases e:x=y
 .subst e;rw[h] at q;cases q
 .rw[if_neg e];exact q
theorem qQ(hs:Sub G G')(hG:GV G)(hn:n<=20)(h:OkS p n s):run G' (run G s)=run G' s:=
 iN hG hn (fun s s'=>run G' s'=run G' s) (fun _ _ _=>rfl) (fun s b x r v _ e hk hl _ q=>by
  rw[gy e hl hk,q,gy e hl (hs x v hk)]) _ s h rfl
theorem qT(h:s.S=mdT v):run G' s=s:=nI (by rw[h];simp)
theorem mR(hs:∀x,ay G x=ay G' x)(hG:GV G)(hn:n<=20)(h:OkS p n s):run G s=run G' s:=
 iN hG hn (fun s s'=>s'=run G' s) (fun s h e=>by
  rcases e with e|⟨b,x,r,e,hk⟩
  .exact(nI e).symm
  .rw[hs] at hk;exact(qS e hk).symm) (fun s b x r v _ e hk hl _ q=>by
  rw[gy e hl hk,q,←gy e hl (by rw[←hs];exact hk)]) _ s h rfl
structure Bk(p:Bool)(n:Nat)(D0 R0:Dc):Prop where
 dk:∀q∈D0,∃x v,q=(.str x,v)/\aH v=true
 rk:∀q∈R0,∃x r,q=(.str x,r)/\Rg p 0 n r/\ay R0 x=some r/\ay D0 x=none
 rnd:(R0.map (·.1)).Nodup
 len:D0.length+R0.length<=900
 n20:n<=20
inductive Der(D0 R0:Dc):Str->Pa->Prop where
 |told {x:Str}{v:Pa}:ay D0 x=some v->Der D0 R0 x v
 |made {x:Str}{v r:Pa}{G:Dc}:ay R0 x=some r->GV G->(∀y u,ay G y=some u->Der D0 R0 y u)->(run G (s0 r)).S=mdT v->Der D0 R0 x v
theorem kP(h:ay ds x=some v):(.str x,v)∈ds:=by
 induction ds with
 |nil=>cases h
 |cons q r ih=>
  obtain⟨k,d⟩:=q
  cases k with
  |str k=>
   by_cases hk:k=x
   .have e:ay ((PV k,d)::r) x=some d:=if_pos hk
    rw[e] at h;cases h;rw[hk];exact Pi
   .have e:ay ((PV k,d)::r) x=ay r x:=if_neg hk
    rw[e] at h;exact Pg _ (ih h)
  |_=>exact Pg _ (ih h)
section
variable {p:Bool}{n:Nat}{D0 R0:Dc}
theorem Bk.rg(b:Bk p n D0 R0)(h:ay R0 x=some r):Rg p 0 n r/\ay D0 x=none:=by
 obtain⟨x',r',e,h1,h2,h3⟩:=b.rk _ (kP h);cases e;exact⟨h1,h3⟩
theorem Bk.gv(b:Bk p n D0 R0):GV D0:=fun x v h=>by
 obtain⟨x',v',e,h1⟩:=b.dk _ (kP h);cases e;exact h1
theorem Der.val(b:Bk p n D0 R0)(h:Der D0 R0 x v):aH v=true:=by
 cases h with
 |told h=>exact b.gv _ _ h
 |made hr hG _ e=>
  obtain⟨h1,_⟩:=g7 hG b.n20 (de (b.rg hr).1 b.n20)
  rcases fh h1.st with⟨v',e1,hv⟩|⟨x,e1,_⟩|⟨b,x,r,e1,_⟩
  .rw[e1] at e
   have:v'=v:=by simpa[mdT] using e
   rw[←this];exact hv
  .rw[e1] at e;exact absurd e.symm gD
  .rw[e1] at e;cases b <;> simp[asT,mdT] at e
def Snd(D0 R0 G:Dc):Prop:=∀x v,ay G x=some v->Der D0 R0 x v
def ClsAt(R0 G:Dc)(x:Str):Prop:=∀r v,ay R0 x=some r->(run G (s0 r)).S=mdT v->ay G x=some v
theorem Snd.gv(b:Bk p n D0 R0)(h:Snd D0 R0 G):GV G:=fun x v q=>(h x v q).val b
theorem sQ(b:Bk p n D0 R0)(hd:Sub D0 G)(hs:Snd D0 R0 G)(hc:∀x,ClsAt R0 G x)(h:Der D0 R0 x v):ay G x=some v:=by
 induction h with
 |told h=>exact hd _ _ h
 |made hr hG hall e ih=>
  rename_i x v r G1;refine hc x r v hr ?_;have hsub:Sub G1 G:=fun y u q=>ih y u q;have h1:=qQ hsub hG b.n20 (de (b.rg hr).1 b.n20);rw[qT e] at h1;rw[←h1];exact e
theorem Dx(b:Bk p n D0 R0)(hd:Sub D0 G)(hs:Snd D0 R0 G)(hc:∀x,ClsAt R0 G x)(hd':Sub D0 G')(hs':Snd D0 R0 G')(hc':∀x,ClsAt R0 G' x)(x:Str):ay G x=ay G' x:=by
 cases h:ay G x with
 |some v=>exact(sQ b hd' hs' hc' (hs x v h)).symm
 |none=>
  cases h':ay G' x with
  |none=>rfl
  |some v=>rw[sQ b hd hs hc (hs' x v h')] at h;cases h
def mu(R0 G:Dc):Nat:=R0.countP fun q=>match q.1 with
 |.str x=>(ay G x).isNone
 |_=>false
theorem countP_le{α:Type}{f g:α->Bool}:∀{l:List α},(∀a∈l,g a=true->f a=true)->l.countP g<=l.countP f
 |[],_=>Pm _
 |a::r,h=>by
  have ih:=countP_le (l:=r) fun x hx=>h x (Pg _ hx);rw[S1,S1];have h1:=h a Pi
  cases hg:g a with
  |true=>rw[h1 hg];simp;exact ih
  |false=>simp;omega
theorem vz{α:Type}{f g:α->Bool}{a:α}:∀{l:List α},(∀a∈l,g a=true->f a=true)->a∈l->f a=true->g a=false->l.countP g<l.countP f
 |[],_,h,_,_=>by cases h
 |b::r,h,hm,hf,hg=>by
  have hr:∀x∈r,g x=true->f x=true:=fun x hx=>h x (Pg _ hx);rw[S1,S1]
  rcases Pt.mp hm with e|e
  .subst e
   have:=countP_le hr;rw[hf,hg];simp;omega
  .have ih:=vz hr e hf hg
   have h1:=h b Pi
   cases hb:g b with
   |true=>rw[h1 hb];simp;exact ih
   |false=>simp;omega
theorem tf(h:Sub G G'):mu R0 G'<=mu R0 G:=countP_le fun q _ hq=>by
 split at hq
 .rename_i x e
  cases hk:ay G x with
  |none=>rfl
  |some v=>rw[h x v hk] at hq;cases hq
 .cases hq
theorem z9(hr:ay R0 x=some r)(h:ay G x=none):mu R0 (putN G x v)+1<=mu R0 G:=by
 have hs:=Sub.new (v:=v) h;refine vz (a:=(.str x,r)) (fun q _ hq=>?_) (kP hr) (by simp[h]) (by simp[kM]);split at hq
 .rename_i x e
  cases hk:ay G x with
  |none=>rfl
  |some v=>rw[hs x v hk] at hq;cases hq
 .cases hq
theorem vW(h:ay G x=none):(putN G x v).length=G.length+1:=by
 unfold putN;rw[h,if_neg (by simp)];simp
end
theorem nN(h:b (ρ.set i (some (.d d))) T=some ((.nx,ρ'),T)):forL i b (d::r) ρ T=forL i b r ρ' T:=by
 rw[DH,h];rfl
@[simp] theorem MM:bP i fk fv ρ T=bnd (fv ρ T) fun w T1=>pM i fk ρ w T1 ρ[i]?:=rfl
@[simp] theorem L7:pM i fk ρ w T (some (some (.loc (.dict ds))))=bnd (fk ρ T) (pN i ρ ds w):=rfl
@[simp] theorem L8:pN i ρ ds (.d x) (.d (.str s)) T=if ds.length<=1000 then some ((.nx,ρ.set i (some (.loc (.dict (putN ds s x))))),T) else none:=rfl
@[simp] theorem L4:jT i f ρ T=bnd (f ρ T) fun w T1=>oE i ρ (jk (view T1 w)) T1:=rfl
@[simp] theorem Nq:jk (some (.dict ds))=some ds:=rfl
@[simp] theorem LD:oE i ρ (some ds) T=some ((.nx,ρ.set i (some (.loc (.dict ds)))),T):=rfl
@[simp] theorem MB:dh i ρ T=some ((.nx,ρ.set i (some (.loc (.dict [])))),T):=rfl
@[simp] theorem LG:c8 (.str s) (.dict ds)=some (.bool (!(ay ds s).isSome)):=rfl
@[simp] theorem Na:inA (.str s) (.dict ds)=some (.bool (ay ds s).isSome):=rfl
@[simp] theorem M5:ixA (.dict ds) (.str s)=ay ds s:=rfl
@[simp] theorem Ma:op2 o T (.d x) (.loc (.dict ds))=mkD T (o x (.dict ds)):=rfl
@[simp] theorem L9:op2 o T (.loc (.dict ds)) (.d y)=mkD T (o (.dict ds) y):=rfl
@[simp] theorem Mb:op1 o T (.loc (.dict ds))=mkD T (o (.dict ds)):=rfl
@[simp] theorem ev_viewLD:view T (.loc (.dict ds))=some (.dict ds):=rfl
@[simp] theorem Lx:views T (.loc (.dict ds)::r)=mj (.dict ds) (views T r):=rfl
def bkD(D0 R0:Dc):PyData:=.tuple [.dict D0,.dict R0]
def ρG(D0 R0 G:Dc)(m:Int)(on o4:Option D.W):Rho:=[some (.d (bkD D0 R0)),some (.loc (.dict G)),some (.d (.int m)),on,o4]
section
variable {p:Bool}{n:Nat}{D0 R0:Dc}
def mq(R0:Dc)(k:Pa):Prop:=∃x r,k=.str x/\ay R0 x=some r
theorem Snd.put(B:Bk p n D0 R0)(hs:Snd D0 R0 G)(hr:ay R0 x=some r)(e:(run G (s0 r)).S=mdT v):Snd D0 R0 (putN G x v):=fun y u q=>by
 rw[kM] at q
 by_cases h:x=y
 .subst h
  rw[if_pos rfl] at q;cases q;exact .made hr (hs.gv B) hs e
 .rw[if_neg h] at q
  exact hs y u q
theorem E9(B:Bk p n D0 R0)(h:Der D0 R0 x v):∀u,Der D0 R0 x u->v=u:=by
 induction h with
 |told h=>
  intro u hu
  cases hu with
  |told h'=>rw[h] at h';cases h';rfl
  |made hr _ _ _=>rw[(B.rg hr).2] at h;cases h
 |made hr hG hall e ih=>
  rename_i x v r G1;intro u hu
  cases hu with
  |told h'=>rw[(B.rg hr).2] at h';cases h'
  |made hr' hG' hall' e'=>
   rename_i r' G2;rw[hr] at hr';cases hr'
   have key:∀(s:St3),OkS p n s->∀v u,(run G1 s).S=mdT v->(run G2 s).S=mdT u->v=u:=fun s hs=>by
    refine iN hG B.n20 (fun s s'=>∀v u,s'.S=mdT v->(run G2 s).S=mdT u->v=u) (fun s h st v u e1 e2=>?_) (fun s b x r w h e hk hl h' q v u e1 e2=>?_) _ s hs rfl
    .rw[qT e1,e1] at e2
     simpa[mdT] using e2
    .rw[gy e hl hk] at e1
     cases hk2:ay G2 x with
     |none=>rw[qS e hk2,e] at e2;cases b <;> simp[asT,mdT] at e2
     |some w'=>
      have:w=w':=ih x w hk w' (hall' x w' hk2);subst this;rw[gy e hl hk2] at e2;exact q v u e1 e2
   exact key _ (de (B.rg hr).1 B.n20) v u e e'
theorem uJ(B:Bk p n D0 R0)(hs:Snd D0 R0 G)(hr:ay R0 x=some r)(h:ay G x=some v)(e:(run G (s0 r)).S=mdT u):v=u:=E9 B (hs x v h) u (.made hr (hs.gv B) hs e)
theorem KD(h:ay G x=some v):eG (ρG D0 R0 G m (some (.d (.str x))) o4) T=some ((.nx,ρG D0 R0 G m (some (.d (.str x))) o4),T):=by simp[eG,ρG,h]
theorem IY(B:Bk p n D0 R0)(hs:Snd D0 R0 G)(hr:ay R0 x=some r)(h:ay G x=none)(hl:G.length<=1000) :
  ∃o,(∃v,(run G (s0 r)).S=mdT v/\eG (ρG D0 R0 G m (some (.d (.str x))) o4) T=some ((.nx,ρG D0 R0 (putN G x v) m (some (.d (.str x))) o),T)) \/
  ((∀v,(run G (s0 r)).S≠mdT v)/\eG (ρG D0 R0 G m (some (.d (.str x))) o4) T=some ((.nx,ρG D0 R0 G m (some (.d (.str x))) o),T)):=by
 have hG:=hs.gv B;have lr:=wR [] hG B.n20 (B.rg hr).1;obtain⟨ok,_⟩:=g7 hG B.n20 (de (B.rg hr).1 B.n20);have lk:=qX (T:=T) (T':=[]) (D5 ok);refine⟨some (.d (di (run G (s0 r)))),?_⟩
 rcases fh ok.st with⟨v,e,hv⟩|⟨y,e,_⟩|⟨b',y,r',e,_⟩
 .refine .inl ⟨v,e,?_⟩
  simp[eG,ρG,h,bkD,hr,lr,lk];simp[di,e,hl]
 .refine .inr ⟨fun v q=>gD (q.symm.trans e),?_⟩
  simp[eG,ρG,h,bkD,hr,lr,lk];simp[di,e];simp[flT]
 .refine .inr ⟨fun v q=>by rw[e] at q;cases b' <;> simp[asT,mdT] at q,?_⟩
  simp[eG,ρG,h,bkD,hr,lr,lk];simp[di,e,dN]
theorem oW(B:Bk p n D0 R0):∀(ks:List Pa) (G:Dc) (on o4:Option D.W),(∀k∈ks,mq R0 k)->Snd D0 R0 G->G.length+mu R0 G<=900 ->
  ∃G' on' o4',forL 3 eG ks (ρG D0 R0 G m on o4) T=some ((.nx,ρG D0 R0 G' m on' o4'),T)/\Snd D0 R0 G'/\Sub G G'/\G'.length+mu R0 G'<=900/\((G'=G/\∀x,.str x∈ks->ClsAt R0 G x)\/(G.length<G'.length/\mu R0 G' < mu R0 G))
 |[],G,on,o4,_,hs,hl=>⟨G,on,o4,by simp[forL],hs,.refl G,hl,.inl ⟨rfl,fun x h=>by cases h⟩⟩
 |k::ks,G,on,o4,hk,hs,hl=>by
  obtain⟨x,r,rfl,hr⟩:=hk _ Pi;have hk':∀k∈ks,mq R0 k:=fun k h=>hk k (Pg _ h);have st:∀{ρ':Rho},eG (ρG D0 R0 G m (some (.d (.str x))) o4) T=some ((.nx,ρ'),T)->forL 3 eG (.str x::ks) (ρG D0 R0 G m on o4) T=forL 3 eG ks ρ' T:=fun h=>nN h
  cases h:ay G x with
  |some v=>
   rw[st (KD h)];obtain⟨G',on',o4',e1,e2,e3,e4,e5⟩:=oW B ks G (some (.d (.str x))) o4 hk' hs hl;refine⟨G',on',o4',e1,e2,e3,e4,e5.imp (fun⟨q2,q3⟩=>⟨q2,fun y hy=>?_⟩) id⟩
   rcases Pt.mp hy with z|z
   .cases z
    intro r' v' hr' e;have:=uJ B hs hr' h e;rw[h,this]
   .exact q3 y z
  |none=>
   obtain⟨o,⟨v,e,go⟩|⟨ne,go⟩⟩:=IY B (m:=m) (o4:=o4) (T:=T) hs hr h (by omega)
   .rw[st go]
    have m1:=z9 (v:=v) hr h;have l1:=vW (v:=v) h;obtain⟨G',on',o4',e1,e2,e3,e4,e5⟩:=oW B ks (putN G x v) (some (.d (.str x))) o hk' (hs.put B hr e) (by omega);refine⟨G',on',o4',e1,e2,(Sub.new h).trans e3,e4,.inr ?_⟩
    rcases e5 with⟨rfl,_⟩|⟨q1,q2⟩
    .exact⟨by omega,by omega⟩
    .exact⟨by omega,by omega⟩
   .rw[st go]
    obtain⟨G',on',o4',e1,e2,e3,e4,e5⟩:=oW B ks G (some (.d (.str x))) o hk' hs hl;refine⟨G',on',o4',e1,e2,e3,e4,e5.imp (fun⟨q2,q3⟩=>⟨q2,fun y hy=>?_⟩) id⟩
    rcases Pt.mp hy with z|z
    .cases z
     intro r' v' hr' e;rw[hr] at hr';cases hr';exact absurd e (ne v')
    .exact q3 y z
theorem xO(B:Bk p n D0 R0):∀k∈R0.map (·.1),mq R0 k:=fun k hk=>by
 obtain⟨q,hq,rfl⟩:=Pq.mp hk;obtain⟨x,r,rfl,_,h,_⟩:=B.rk q hq;exact⟨x,r,rfl,h⟩
theorem oP(h:ay R0 x=some r):PV x∈R0.map (·.1):=Pq.mpr ⟨_,kP h,rfl⟩
theorem yW(G:Dc):mu R0 G<=R0.length:=List.countP_le_length
def gdC:FT:=(av (af ltD (aa 2) (fCB bb (ae (aa 1) ah))))
@[simp] theorem Mf:bb [.dict ds]=some (.int ds.length):=rfl
theorem wb(B:Bk p n D0 R0):∀(f:Nat) (G:Dc) (m:Int) (on o4:Option D.W),m<G.length->mu R0 G+1<f->Snd D0 R0 G->G.length+mu R0 G<=900 ->
  ∃G' m' on' o4',bi gdC mZ f (ρG D0 R0 G m on o4) T=some ((.nx,ρG D0 R0 G' m' on' o4'),T)/\Snd D0 R0 G'/\Sub G G'/\∀x,ClsAt R0 G' x
 |0,G,m,on,o4,_,h,_,_=>by omega
 |f+1,G,m,on,o4,hm,h,hs,hl=>by
  obtain⟨G',on',o4',e1,e2,e3,e4,e5⟩:=oW B (T:=T) (m:=G.length) (R0.map (·.1)) G on o4 (xO B) hs hl
  have hc:∀(G:Dc) (m:Int) on o4,gdC (ρG D0 R0 G m on o4) T=some (decide (m<G.length),T):=fun G m on o4=>by simp[gdC,ρG]
  have hb:mZ (ρG D0 R0 G m on o4) T=some ((.nx,ρG D0 R0 G' G.length on' o4'),T):=by
   simp[ρG] at e1;simp[mZ,ρG,bkD] at e1 ⊢;exact e1
  rw[jI ((hc _ _ _ _).trans (by rw[decide_eq_true hm])) hb]
  rcases e5 with⟨rfl,q3⟩|⟨q1,q2⟩
  .obtain⟨f,rfl⟩:=bj f (by omega)
   rw[jB ((hc _ _ _ _).trans (by rw[decide_eq_false (by omega)]))];exact⟨G',_,on',o4',rfl,e2,e3,fun x r v hr e=>q3 x (oP hr) r v hr e⟩
  .obtain⟨G2,m2,on2,o42,f1,f2,f3,f4⟩:=wb B f G' G.length on' o4' (by omega) (by omega) e2 e4
   exact⟨G2,m2,on2,o42,f1,f2,e3.trans f3,f4⟩
theorem AF(B:Bk p n D0 R0):Snd D0 R0 D0:=fun _ _ h=>.told h
theorem sj(B:Bk p n D0 R0)(T:Tp):∃G,iD [.d (bkD D0 R0)] T=some (.dict G,T)/\Snd D0 R0 G/\Sub D0 G/\∀x,ClsAt R0 G x:=by
 have hl:=B.len;have hm:=yW (R0:=R0) D0;obtain⟨G,m,on,o4,e1,e2,e3,e4⟩:=wb B (T:=T) 100000 D0 (-1) none none (by omega) (by omega) (AF B) (by omega);refine⟨G,?_,e2,e3,e4⟩;rw[Di];simp[ρG,gdC] at e1;simp[bkD] at e1 ⊢;rw[e1];simp
end
def mdS:FS:=(bP 2 (aa 3) (au kJ (ae (aa 4) ah)))
def mdI:FS:=(ak (bP 2 (aa 3) (dZ (au kO (ae (af ixA (aa 2) (aa 3)) (ae (aa 1) ah))))) (fIf (av (af eqD (af ixD (af ixD (af ixA (aa 2) (aa 3)) (fC (.int 2))) (fC (.int 0))) (fC (.str "made")))) (bP 1 (aa 3) (af ixD (af ixD (af ixA (aa 2) (aa 3)) (fC (.int 2))) (fC (.int 1)))) aD))
def mdB:FS:=(ak (aF 6 (fCB bb (ae (aa 1) ah))) (ak (bH 3 (bf (af ixD (aa 0) (fC (.int 1)))) mdI) (aF 5 (af gtD (fCB bb (ae (aa 1) ah)) (aa 6)))))
theorem Gs:mH=aP 7 (ak (jT 1 (af ixD (aa 0) (fC (.int 0)))) (ak (dh 2) (ak (gI 3 4 (af ixD (aa 0) (fC (.int 1))) mdS) (ak (aF 5 (fC (.bool true))) (ak (bi (bg (aa 5)) mdB 100000) (aB (aA .tuple (ae (aa 1) (ae (aa 2) ah))))))))):=rfl
def nm:Pa->Str
 |.str x=>x
 |_=>Pc ""
def cmL(R0:Dc)(st:Str->St3):Dc:=R0.map fun q=>(q.1,cm (st (nm q.1)))
def cJ(st:Str->St3)(x:Str)(s:St3):Str->St3:=fun y=>if y=x then s else st y
section
variable {p:Bool}{n:Nat}{D0 R0:Dc}
theorem pq{st:Str->St3}:ay (cmL R0 st) x=(ay R0 x).map fun _=>cm (st x):=by
 induction R0 with
 |nil=>rfl
 |cons q r ih=>
  obtain⟨k,d⟩:=q
  cases k with
  |str k=>
   by_cases hk:k=x
   .subst hk
    simp[cmL,ay,nm]
   .have:=ih
    simp[cmL] at this;simp[cmL,ay,hk,this]
  |_=>exact ih
theorem Ha{st:Str->St3}:(cmL R0 st).length=R0.length:=by simp[cmL]
theorem G9{st:Str->St3}(hk:∀q∈R0,∃y r,q=(PV y,r)):bT (cmL R0 st) x (cm s)=cmL R0 (cJ st x s):=by
 induction R0 with
 |nil=>rfl
 |cons q r ih=>
  obtain⟨y,d,rfl⟩:=hk q Pi;have ih':=ih fun q hq=>hk q (Pg _ hq);have e:cmL ((PV y,d)::r) st=(.str y,cm (st y))::cmL r st:=rfl;have e2:cmL ((PV y,d)::r) (cJ st x s)=(.str y,cm (cJ st x s y))::cmL r (cJ st x s):=rfl;rw[e,e2,←ih']
  by_cases h:y=x
  .have e3:bT ((PV y,cm (st y))::cmL r st) x (cm s)=(.str y,cm s)::bT (cmL r st) x (cm s):=if_pos h
   rw[e3];simp[cJ,h]
  .have e3:bT ((PV y,cm (st y))::cmL r st) x (cm s)=(.str y,cm (st y))::bT (cmL r st) x (cm s):=if_neg h
   rw[e3];simp[cJ,h]
theorem Fe(B:Bk p n D0 R0){st:Str->St3}(h:ay R0 x=some r):putN (cmL R0 st) x (cm s)=cmL R0 (cJ st x s):=by
 unfold putN;rw[pq,h,if_pos (by rfl)]
 exact G9 fun q hq=>by
  obtain⟨y,r,e,_⟩:=B.rk q hq;exact⟨y,r,e⟩
def ρM(D0 R0 G:Dc)(st:Str->St3)(on o4 o5 o6:Option D.W):Rho:=[some (.d (bkD D0 R0)),some (.loc (.dict G)),some (.loc (.dict (cmL R0 st))),on,o4,o5,o6]
def SI(R0 G:Dc)(st:Str->St3):Prop:=∀x r,ay R0 x=some r->∃G1,Sub G1 G/\GV G1/\st x=run G1 (s0 r)
theorem SI.sub{st:Str->St3}(h:SI R0 G st)(hs:Sub G G'):SI R0 G' st:=fun x r hr=>by
 obtain⟨G1,h1,h2,h3⟩:=h x r hr;exact⟨G1,h1.trans hs,h2,h3⟩
theorem SI.go(B:Bk p n D0 R0){st:Str->St3}(h:SI R0 G st)(hr:ay R0 x=some r):OkS p n (st x)/\run G (st x)=run G (s0 r):=by
 obtain⟨G1,h1,h2,h3⟩:=h x r hr;have ok:=de (B.rg hr).1 B.n20;rw[h3];exact⟨(g7 h2 B.n20 ok).1,qQ h1 h2 B.n20 ok⟩
theorem SI.upd(B:Bk p n D0 R0){st:Str->St3}(h:SI R0 G st)(hG:GV G)(hr:ay R0 x=some r):SI R0 G (cJ st x (run G (s0 r))):=fun y r' hr'=>by
 by_cases e:y=x
 .subst e
  rw[hr] at hr';cases hr';exact⟨G,.refl G,hG,by simp[cJ]⟩
 .obtain⟨G1,h1,h2,h3⟩:=h y r' hr'
  exact⟨G1,h1,h2,by simp[cJ,e];exact h3⟩
theorem IA(B:Bk p n D0 R0){G:Dc}{st:Str->St3}(hs:Snd D0 R0 G)(hi:SI R0 G st)(hr:ay R0 x=some r)(hl:G.length<=1000) :
  (∃v,(run G (s0 r)).S=mdT v/\mdI (ρM D0 R0 G st (some (.d (.str x))) o4 o5 o6) T=some ((.nx,ρM D0 R0 (putN G x v) (cJ st x (run G (s0 r))) (some (.d (.str x))) o4 o5 o6),T)) \/
  ((∀v,(run G (s0 r)).S≠mdT v)/\mdI (ρM D0 R0 G st (some (.d (.str x))) o4 o5 o6) T=some ((.nx,ρM D0 R0 G (cJ st x (run G (s0 r))) (some (.d (.str x))) o4 o5 o6),T)):=by
 have hG:=hs.gv B;obtain⟨ok,er⟩:=hi.go B hr;obtain⟨ok2,_⟩:=g7 hG B.n20 (de (B.rg hr).1 B.n20);have lg:=Jz [] hG B.n20 ok;rw[er] at lg;have lk:=qX (T:=T) (T':=[]) (HF ok2)
 have c1:ay (cmL R0 st) x=some (cm (st x)):=by rw[pq,hr];rfl
 have c2:=Fe B (st:=st) (s:=run G (s0 r)) hr
 have c3:ay (cmL R0 (cJ st x (run G (s0 r)))) x=some (cm (run G (s0 r))):=by rw[pq,hr];simp[cJ]
 have l2:(cmL R0 st).length<=1000:=by rw[Ha];have:=B.len;omega
 have e2:∀s:St3,ixD (cm s) (.int 2)=some s.S:=fun s=>rfl;generalize hs':run G (s0 r)=s' at *
 rcases fh ok2.st with⟨v,e,hv⟩|⟨y,e,_⟩|⟨b',y,r',e,_⟩
 .refine .inl ⟨v,e,?_⟩
  simp[mdI,ρM,c1,lg,lk,c2,l2,c3,e2,e,mdT,hl]
 .refine .inr ⟨fun v q=>gD (q.symm.trans e),?_⟩
  simp[mdI,ρM,c1,lg,lk,c2,l2,c3,e2,e,flT]
 .refine .inr ⟨fun v q=>by rw[e] at q;cases b' <;> simp[asT,mdT] at q,?_⟩
  cases b' <;> simp[mdI,ρM,c1,lg,lk,c2,l2,c3,e2,e,asT]
theorem Ef(h:ay G x=some v):(∀y,ay (putN G x v) y=ay G y)/\(putN G x v).length=G.length:=by
 refine⟨fun y=>?_,?_⟩
 .rw[kM]
  by_cases e:x=y
  .subst e;rw[if_pos rfl,h]
  .rw[if_neg e]
 .unfold putN
  rw[h,if_pos (by rfl),uy]
theorem Sub.of(h:∀y,ay G' y=ay G y):Sub G G':=fun x v q=>by rw[h];exact q
structure Rnd(D0 R0:Dc)(ks:List Pa)(G:Dc)(st:Str->St3)(G':Dc)(st':Str->St3):Prop where
 snd:Snd D0 R0 G'
 sub:Sub G G'
 si:SI R0 G' st'
 bd:G'.length+mu R0 G'<=900
 le:G.length<=G'.length
 lt:G.length<G'.length->mu R0 G' < mu R0 G
 same:G'.length=G.length->(∀y,ay G' y=ay G y)/\(∀x r,.str x∈ks->ay R0 x=some r->st' x=run G (s0 r)/\ClsAt R0 G x)/\∀x,.str x∉ks->st' x=st x
theorem yX(B:Bk p n D0 R0):∀(ks:List Pa) (G:Dc) (st:Str->St3) (on:Option D.W),(∀k∈ks,mq R0 k)->Snd D0 R0 G->SI R0 G st->G.length+mu R0 G<=900 ->
  ∃G' st' on',forL 3 mdI ks (ρM D0 R0 G st on o4 o5 o6) T=some ((.nx,ρM D0 R0 G' st' on' o4 o5 o6),T)/\Rnd D0 R0 ks G st G' st'
 |[],G,st,on,_,hs,hi,hl=>⟨G,st,on,by simp[forL],hs,.refl G,hi,hl,Pm _,fun h=>absurd h (Qr _),fun _=>⟨fun _=>rfl,fun x r h=>(by cases h),fun _ _=>rfl⟩⟩
 |k::ks,G,st,on,hk,hs,hi,hl=>by
  obtain⟨x,r,rfl,hr⟩:=hk _ Pi;have hk':∀k∈ks,mq R0 k:=fun k h=>hk k (Pg _ h);have hG:=hs.gv B;have st0:∀{ρ':Rho},mdI (ρM D0 R0 G st (some (.d (.str x))) o4 o5 o6) T=some ((.nx,ρ'),T)->forL 3 mdI (.str x::ks) (ρM D0 R0 G st on o4 o5 o6) T=forL 3 mdI ks ρ' T:=fun h=>nN h
  have fin:∀(G1:Dc),Snd D0 R0 G1->Sub G G1->G1.length+mu R0 G1<=900->G.length<=G1.length->(G.length<G1.length->mu R0 G1<mu R0 G)->(G1.length=G.length->(∀y,ay G1 y=ay G y)/\ClsAt R0 G x)->SI R0 G1 (cJ st x (run G (s0 r))) ->
    ∃G' st' on',forL 3 mdI ks (ρM D0 R0 G1 (cJ st x (run G (s0 r))) (some (.d (.str x))) o4 o5 o6) T=some ((.nx,ρM D0 R0 G' st' on' o4 o5 o6),T)/\Rnd D0 R0 (.str x::ks) G st G' st':=by
   intro G1 h1 h2 h3 h4 h5 h6 h7;obtain⟨G',st',on',e1,R⟩:=yX B (T:=T) (o4:=o4) (o5:=o5) (o6:=o6) ks G1 (cJ st x (run G (s0 r))) (some (.d (.str x))) hk' h1 h7 h3;refine⟨G',st',on',e1,R.snd,h2.trans R.sub,R.si,R.bd,PL h4 R.le,fun h=>?_,fun h=>?_⟩
   .have m1:=tf (R0:=R0) R.sub
    have m2:=tf (R0:=R0) h2
    by_cases c:G.length<G1.length
    .have:=h5 c;omega
    .have:=R.lt (by omega);omega
   .have c1:G1.length=G.length:=by have:=R.le;omega
    obtain⟨q1,q2⟩:=h6 c1;obtain⟨r1,r2,r3⟩:=R.same (by omega);have same:∀r',ay R0 x=some r'\/True->True:=fun _ _=>trivial;refine⟨fun y=>(r1 y).trans (q1 y),fun y r' hy hr'=>?_,fun y hy=>?_⟩
    .by_cases hy2:PV y∈ks
     .obtain⟨a1,a2⟩:=r2 y r' hy2 hr'
      have cg:=mR q1 (h1.gv B) B.n20 (de (B.rg hr').1 B.n20);refine⟨by rw[a1,cg],fun r2' v hr2 e=>?_⟩;rw[hr'] at hr2;cases hr2;rw[←q1];exact a2 r' v hr' (by rw[cg];exact e)
     .have hxy:y=x:=by
       rcases Pt.mp hy with z|z
       .cases z;rfl
       .exact absurd z hy2
      subst hxy;rw[hr] at hr';cases hr';exact⟨by rw[r3 y hy2];simp[cJ],q2⟩
    .have n1:PV y∉ks:=fun z=>hy (Pg _ z)
     have n2:¬y=x:=fun z=>hy (by rw[z];exact Pi);rw[r3 y n1];simp[cJ,n2]
  rcases IA B (T:=T) (o4:=o4) (o5:=o5) (o6:=o6) hs hi hr (by omega) with⟨v,e,go⟩|⟨ne,go⟩
  .rw[st0 go]
   have sp:=hs.put B hr e
   cases h:ay G x with
   |none=>
    have m1:=z9 (v:=v) hr h;have l1:=vW (v:=v) h;have sb:=Sub.new (v:=v) h;exact fin (putN G x v) sp sb (by omega) (by omega) (fun _=>by omega) (fun c=>by omega) ((hi.upd B hG hr).sub sb)
   |some u=>
    have:=uJ B hs hr h e;subst this;obtain⟨o1,o2⟩:=Ef h;have sb:=Sub.of o1;have m1:=tf (R0:=R0) sb;refine fin (putN G x u) sp sb (by omega) (by omega) (fun c=>by omega) (fun _=>⟨o1,fun r' v' hr' e'=>?_⟩) ((hi.upd B hG hr).sub sb);rw[hr] at hr';cases hr';rw[e] at e'
    have:u=v':=by simpa[mdT] using e'
    rw[←this];exact h
  .rw[st0 go]
   exact fin G hs (.refl G) hl (Pm _) (fun c=>absurd c (Qr _)) (fun _=>⟨fun _=>rfl,fun r' v' hr' e'=>by
    rw[hr] at hr';cases hr'
    exact absurd e' (ne v')⟩) (hi.upd B hG hr)
theorem v5(B:Bk p n D0 R0):∀(m:Nat) (G:Dc) (st:Str->St3) (on o4 o6:Option D.W),mu R0 G+1<m->Snd D0 R0 G->SI R0 G st->G.length+mu R0 G<=900 ->
  ∃G' st' on' o5' o6',bi (bg (aa 5)) mdB m (ρM D0 R0 G st on o4 (some (.d (.bool true))) o6) T=some ((.nx,ρM D0 R0 G' st' on' o4 o5' o6'),T)/\Snd D0 R0 G'/\Sub G G'/\(∀x,ClsAt R0 G' x)/\∀x r,ay R0 x=some r->st' x=run G' (s0 r)
 |0,G,st,on,o4,o6,h,_,_,_=>by omega
 |m+1,G,st,on,o4,o6,h,hs,hi,hl=>by
  obtain⟨G',st',on',e1,R⟩:=yX B (T:=T) (o4:=o4) (o5:=some (.d (.bool true))) (o6:=some (.d (.int G.length))) (R0.map (·.1)) G st on (xO B) hs hi hl
  have hc:∀b G st on o4 o6,bg (aa 5) (ρM D0 R0 G st on o4 (some (.d (.bool b))) o6) T=some (b,T):=fun b G st on o4 o6=>by simp[ρM]
  have hb:mdB (ρM D0 R0 G st on o4 (some (.d (.bool true))) o6) T=some ((.nx,ρM D0 R0 G' st' on' o4 (some (.d (.bool (decide (G.length<G'.length))))) (some (.d (.int G.length)))),T):=by
   simp only[ρM,bkD] at e1;simp[mdB,ρM,bkD,e1]
  rw[jI (hc _ _ _ _ _ _) hb]
  by_cases c:G.length<G'.length
  .rw[decide_eq_true c]
   have:=R.lt c;obtain⟨G2,st2,on2,o52,o62,f1,f2,f3,f4,f5⟩:=v5 B (T:=T) m G' st' on' o4 (some (.d (.int G.length))) (by omega) R.snd R.si R.bd;exact⟨G2,st2,on2,o52,o62,f1,f2,R.sub.trans f3,f4,f5⟩
  .rw[decide_eq_false c]
   obtain⟨m,rfl⟩:=bj m (by omega);rw[jB (hc _ _ _ _ _ _)];obtain⟨q1,q2,_⟩:=R.same (by have:=R.le;omega);refine⟨G',st',on',_,_,rfl,R.snd,R.sub,fun x r v hr e=>?_,fun x r hr=>?_⟩
   .have cg:=mR q1 (R.snd.gv B) B.n20 (de (B.rg hr).1 B.n20)
    rw[q1];exact(q2 x r (oP hr) hr).2 r v hr (by rw[←cg];exact e)
   .have cg:=mR q1 (R.snd.gv B) B.n20 (de (B.rg hr).1 B.n20)
    rw[(q2 x r (oP hr) hr).1,cg]
theorem qZ(h:PV x∉ds.map (·.1)):ay ds x=none:=by
 cases e:ay ds x with
 |none=>rfl
 |some v=>exact absurd (Pq.mpr ⟨_,kP e,rfl⟩) h
def fJ(q:Pa×Pa):Pa×PyData:=(q.1,cm (s0 q.2))
def ρ0(D0 R0:Dc)(c:Dc)(on o4:Option D.W):Rho:=[some (.d (bkD D0 R0)),some (.loc (.dict D0)),some (.loc (.dict c)),on,o4,none,none]
theorem xZ(h:b ((ρ.set i (some (.d d.1))).set j (some (.d d.2))) T=some ((.nx,ρ'),T)):fK i j b (d::r) ρ T=fK i j b r ρ' T:=by
 show bnd (b ((ρ.set i (some (.d d.1))).set j (some (.d d.2))) T) _=_;rw[h];rfl
theorem xG(B:Bk p n D0 R0):∀(rest P:Dc) (on o4:Option D.W),R0=P++rest->∃on' o4',fK 3 4 mdS rest (ρ0 D0 R0 (P.map fJ) on o4) T=some ((.nx,ρ0 D0 R0 (R0.map fJ) on' o4'),T)
 |[],P,on,o4,e=>⟨on,o4,by rw[e];simp[fK]⟩
 |q::rest,P,on,o4,e=>by
  have hq:q∈R0:=by rw[e];simp
  obtain⟨x,r,rfl,hr,hk,_⟩:=B.rk q hq;have ls:=Hi T hr B.n20
  have nk:ay (P.map fJ) x=none:=qZ fun z=>by
   have nd:=B.rnd;rw[e,Sq,Qz] at nd;obtain⟨q,hq1,hq2⟩:=Pq.mp z;obtain⟨q',hq3,rfl⟩:=Pq.mp hq1;exact nd.2.2 q'.1 (Pq.mpr ⟨q',hq3,rfl⟩) (.str x) (by simp) hq2
  have pn:putN (P.map fJ) x (cm (s0 r))=(P++[(PV x,r)]).map fJ:=by
   unfold putN;rw[nk,if_neg (by simp)];simp[fJ]
  have pl:(P.map fJ).length<=1000:=by
   have:=B.len
   have e2:R0.length=P.length+(rest.length+1):=by rw[e];simp
   simp;omega
  have st:mdS (((ρ0 D0 R0 (P.map fJ) on o4).set 3 (some (.d (.str x)))).set 4 (some (.d r))) T=some ((.nx,ρ0 D0 R0 ((P++[(PV x,r)]).map fJ) (some (.d (.str x))) (some (.d r))),T):=by
   rw[←pn];simp at pl;simp[mdS,ρ0,ls,pl]
  rw[xZ st];exact xG B rest (P++[(.str x,r)]) _ _ (by rw[e];simp)
def stI(R0:Dc)(x:Str):St3:=match ay R0 x with
 |some r=>s0 r
 |none=>⟨[],[],.none⟩
theorem GI(B:Bk p n D0 R0):R0.map fJ=cmL R0 (stI R0):=by
 unfold cmL;refine QO fun q hq=>?_;obtain⟨x,r,rfl,_,hk,_⟩:=B.rk q hq;simp[fJ,nm,stI,hk]
theorem FM(s:St3):run [] s=s:=by
 unfold run
 cases 12-s.gs.length with
 |zero=>rfl
 |succ f=>
  rw[jh]
  cases f9 s.S with
  |none=>rfl
  |some q=>rfl
theorem FK:SI R0 D0 (stI R0):=fun x r hr=>⟨[],fun y v h=>(by cases h),fun y v h=>(by cases h),by simp[stI,hr,FM]⟩
theorem Jw(B:Bk p n D0 R0)(T:Tp):∃G st,mH [.d (bkD D0 R0)] T=some (.tuple [.dict G,.dict (cmL R0 st)],T)/\Snd D0 R0 G/\Sub D0 G/\(∀x,ClsAt R0 G x)/\∀x r,ay R0 x=some r->st x=run G (s0 r):=by
 have hl:=B.len;have hm:=yW (R0:=R0) D0;obtain⟨on,o4,i1⟩:=xG B (T:=T) R0 [] none none rfl;obtain⟨G,st,on',o5,o6,e1,e2,e3,e4,e5⟩:=v5 B (T:=T) 100000 D0 (stI R0) on o4 none (by omega) (AF B) FK (by omega);refine⟨G,st,?_,e2,e3,e4,e5⟩;rw[GI B] at i1;rw[Gs];simp only[ρ0,bkD] at i1;simp only[ρM,bkD] at e1;have fi:∀ρ T,gI 3 4 (af ixD (aa 0) (fC (.int 1))) mdS ρ T=bnd (af ixD (aa 0) (fC (.int 1)) ρ T) (l8 3 4 mdS ρ):=fun _ _=>rfl;have fk:∀ρ T,l8 3 4 mdS ρ (.d (.dict R0)) T=fK 3 4 mdS R0 ρ T:=fun _ _=>rfl;simp[bkD,fi,fk];simp at i1;simp[i1,e1]
end
def lfI:FS:=(bP 1 (aa 2) (au kE (ae (aa 2) (ae (af ixA (aa 0) (aa 2)) ah))))
theorem Ks:mI=aP 3 (ak (dh 1) (ak (bH 2 (bf (aa 0)) lfI) (aB (aa 1)))):=rfl
def ln(x:Str)(s:St3):PyData:=.tuple [.str x,.tuple (s.rd.map rdS),dO s.S]
theorem Hs(T:Tp)(h:StepOk p g n S):jz [.d S] T=some (dO S,T):=by
 rcases fh h with⟨v,rfl,hv⟩|⟨x,rfl,_⟩|⟨b,x,r,rfl,_⟩
 .rw[n8]
  simp[jz,mdT,oz T hv]
 .rw[n9]
  simp[jz,flT]
 .rw[og]
  cases b <;> simp[jz,asT,dN]
theorem Jx(T:Tp)(h:OkS p n s):kE [.d (.str x),.d (cm s)] T=some (ln x s,T):=by
 have c:bD bu (aA .tuple (ae (af ixD (aa 0) (fC (.int 0))) (ae (au (dr 25) (ae (af ixD (aa 0) (fC (.int 1))) ah)) ah))) [some (.d (.str x)),some (.d (cm s)),none] s.rd T=some (s.rd.map rdS,T):=eE fun d hd=>by
  obtain⟨y,v,rfl,hv⟩:=h.rv d hd;simp[oz T hv,rdS]
 have e:=Hs T h.st;have e1:ixD (cm s) (.int 1)=some (.tuple s.rd):=rfl;have e2:ixD (cm s) (.int 2)=some s.S:=rfl;simp[kE,e1,e2,c,e,ln,D.bJ]
def lnL(R0:Dc)(st:Str->St3):Dc:=R0.map fun q=>(q.1,ln (nm q.1) (st (nm q.1)))
theorem IC{st:Str->St3}:ay (lnL R0 st) x=(ay R0 x).map fun _=>ln x (st x):=by
 induction R0 with
 |nil=>rfl
 |cons q r ih=>
  obtain⟨k,d⟩:=q
  cases k with
  |str k=>
   by_cases hk:k=x
   .subst hk
    simp[lnL,ay,nm]
   .have:=ih
    simp[lnL] at this;simp[lnL,ay,hk,this]
  |_=>exact ih
section
variable {p:Bool}{n:Nat}{D0 R0:Dc}
theorem yZ(B:Bk p n D0 R0){st:Str->St3}(ok:∀x r,ay R0 x=some r->OkS p n (st x)):∀(rest P:Dc) (on:Option D.W),R0=P++rest->∃on',forL 2 lfI (rest.map (·.1)) [some (.d (.dict (cmL R0 st))),some (.loc (.dict (lnL P st))),on] T=some ((.nx,[some (.d (.dict (cmL R0 st))),some (.loc (.dict (lnL R0 st))),on']),T)
 |[],P,on,e=>⟨on,by rw[e];simp[forL]⟩
 |q::rest,P,on,e=>by
  have hq:q∈R0:=by rw[e];simp
  obtain⟨x,r,rfl,hr,hk,_⟩:=B.rk q hq
  have nk:ay (lnL P st) x=none:=qZ fun z=>by
   have nd:=B.rnd;rw[e,Sq,Qz] at nd;obtain⟨q,hq1,hq2⟩:=Pq.mp z;obtain⟨q',hq3,rfl⟩:=Pq.mp hq1;exact nd.2.2 q'.1 (Pq.mpr ⟨q',hq3,rfl⟩) (.str x) (by simp) hq2
  have pn:putN (lnL P st) x (ln x (st x))=lnL (P++[(PV x,r)]) st:=by
   unfold putN;rw[nk,if_neg (by simp)];simp[lnL,nm]
  have pl:(lnL P st).length<=1000:=by
   have:=B.len
   have e2:R0.length=P.length+(rest.length+1):=by rw[e];simp
   simp[lnL];omega
  have c1:ay (cmL R0 st) x=some (cm (st x)):=by rw[pq,hk];rfl
  have ll:=Jx (x:=x) T (ok x r hk)
  have st1:lfI (List.set [some (.d (.dict (cmL R0 st))),some (.loc (.dict (lnL P st))),on] 2 (some (.d (.str x)))) T=some ((.nx,[some (.d (.dict (cmL R0 st))),some (.loc (.dict (lnL (P++[(PV x,r)]) st))),some (.d (.str x))]),T):=by
   rw[←pn];simp[lfI,c1,ll,pl]
  rw[Pz,nN st1];exact yZ B ok rest (P++[(.str x,r)]) _ (by rw[e];simp)
theorem Ho(B:Bk p n D0 R0){st:Str->St3}(ok:∀x r,ay R0 x=some r->OkS p n (st x))(T:Tp):mI [.d (.dict (cmL R0 st))] T=some (.dict (lnL R0 st),T):=by
 obtain⟨on,e⟩:=yZ B ok (T:=T) R0 [] none rfl
 have ek:(cmL R0 st).map (·.1)=R0.map (·.1):=by simp[cmL]
 rw[Ks];have e0:lnL ([]:Dc) st=[]:=rfl;rw[e0] at e;simp[ek,e]
end
theorem uB:∀{l:List (List Nat)},c∈bA s l->c∈s\/∃x∈l,c∈x
 |[],h=>by simp[bA] at h
 |x::r,h=>by
  rw[kI] at h
  rcases PD.mp h with z|z
  .exact .inr ⟨x,Pi,z⟩
  .obtain⟨y,hy,hc⟩:=UP.mp z
   obtain⟨q,hq,rfl⟩:=Pq.mp hy
   rcases PD.mp hc with w|w
   .exact .inl w
   .exact .inr ⟨q,Pg _ hq,w⟩
theorem zB:∀(n:Nat) (d:Pa),aO n d=true->∀c∈cst n d,c<128
 |n,d,h,c,hc=>by
  rcases cY h with h1|⟨m,ds,rfl,rfl,_,hd⟩
  .rcases cX h1 with⟨i,rfl⟩|⟨x,rfl⟩
   .rw[oq] at hc
    rcases xD i c hc with z|z <;> omega
   .rw[om] at hc
    rcases Pt.mp hc with z|z
    .omega
    .exact K1.iW K1.jX (uv h1) c z
  .have e:cst (m+1) (.tuple ds)=40::bA [44] (ds.map (cst m))++[41]:=rfl
   rw[e] at hc
   rcases PD.mp hc with z|z
   .rcases Pt.mp z with z|z
    .omega
    .rcases uB z with w|⟨x,hx,hcx⟩
     .have:=Pl.mp w;omega
     .obtain⟨d',hd',rfl⟩:=Pq.mp hx
      exact zB m d' (hd d' hd') c hcx
   .have:=Pl.mp z;omega
termination_by n=>n
def Lw(x:Str):Prop:=∀c∈cd x,c<128
theorem gE(h:aH v=true):Lw (mk (cst 4 v)):=fun c hc=>zB 4 v (cN h).1 c (by rw[d6] at hc;exact hc)
theorem eO(h:isName (.str x)=true):Lw x:=by
 have h':(decide (1<=x.length)&&decide (x.length<=8)&&has LET x)=true:=h;rw[Po] at h';exact fun c hc=>K1.iW K1.JE h'.2 c hc
theorem cQ(h:((cd (Pc s)).all fun c=>decide (c<128))=true):Lw (Pc s):=fun c hc=>of_decide_eq_true (PB.mp h c hc)
theorem tj(h:Lw x):Wm x=true:=by
 unfold Wm;rw[←UO,PB];exact fun c hc=>decide_eq_true (by have:=h c hc;omega)
theorem szL:Pp=16777216:=by decide
theorem len_app(a b:Str):(a++b).length=a.length+b.length:=by
 show (a++b).cps.size=_;rw[VA,Wi];rfl
theorem rng_ok(h0:0<=j)(h1:j<=1000):fX j=true:=CV h0 h1
theorem pA{α:Type}{xs:List α}{i:Int}(h0:0<=i)(h1:i<xs.length):∃x,atI xs i=some x/\x∈xs:=by
 unfold atI ixN;rw[if_pos h0,if_pos h1]
 have hl:i.toNat<xs.length:=by omega
 exact⟨xs[i.toNat],by simp[hl],SZ hl⟩
theorem jG{I:Nat->Rho->Tp->Prop}:∀(ds:List Pa) (k:Nat) (ρ:Rho) (T:Tp),k+ds.length<=N->I k ρ T ->
  (∀k d ρ T,d∈ds->k<N->I k ρ T->∃ρ' T',body (ρ.set i (some (.d d))) T=some ((.nx,ρ'),T')/\I (k+1) ρ' T')->∃ρ' T',forL i body ds ρ T=some ((.nx,ρ'),T')/\I (k+ds.length) ρ' T'
 |[],k,ρ,T,_,h,_=>⟨ρ,T,rfl,h⟩
 |d::r,k,ρ,T,hN,h,hs=>by
  rw[PH] at hN;obtain⟨ρ1,T1,e1,h1⟩:=hs k d ρ T Pi (by omega) h;obtain⟨ρ2,T2,e2,h2⟩:=jG (body:=body) (I:=I) r (k+1) ρ1 T1 (by omega) h1 fun k d ρ T hd=>hs k d ρ T (Pg _ hd);refine⟨ρ2,T2,?_,by rw[PH,show k+(r.length+1)=k+1+r.length by omega];exact h2⟩;unfold forL;rw[e1];exact e2
theorem v4(h:d∈cP 0 n):∃j:Int,d=.int j/\0<=j/\j<n:=by
 obtain⟨k,hk,rfl⟩:=Pq.mp h;have:=TC.mp hk;exact⟨0+(k:Int),rfl,by omega,by omega⟩
def Fr(xs:List Pa):Prop:=∃c n k:Int,xs=[.int c,.int n,.int k]
theorem AO:op2 o ((.int c::xs)::r) (.tp 0) (.d y)=mkD ((.int c::xs)::r) (o (.list (.int c::xs)) y):=rfl
theorem xT:isO (.int c::r)=false:=rfl
theorem EZ:tD (.int i) (.int j)=if 0<j/\j<18446744073709551616 then some (.int (i / j)) else none:=rfl
theorem ix0:ixN 3 0=some 0:=rfl
theorem sX:fH (.int 10) (.int 18)=some (.int 1000000000000000000):=rfl
theorem bG(h:Fr xs)(h1:0<m)(h2:m<=1000000000000000000):∃r xs',aS [.tp 0,.d (.int m)] [xs]=some (.int r,[xs'])/\Fr xs'/\0<=r/\r<m:=by
 obtain⟨c,n,k,rfl⟩:=h
 by_cases hc:1000000000000000000<=c
 .refine⟨c % m,[.int (c / m),.int (n+1),.int k],?_,⟨_,_,_,rfl⟩,Vf _ (by omega),Ua _ h1⟩
  have h3:m<18446744073709551616:=by omega
  simp[aS,mz,AO,xT,at0,at1,at2,ix0,ix1,ix2,sX,hc,h1,h3,EZ]
 .have e:∃z:Int,aS [.tp 0,.d (.int m)] [[.int c,.int n,.int k]]=some (.int (z % m),[[.int c,.int (n+1),.int k]]):=by
   refine⟨?_,?_⟩
   rotate_left
   .simp[aS,mz,AO,xT,at0,at1,at2,ix0,ix1,ix2,sX,hc,h1]
    rfl
  obtain⟨z,e⟩:=e;exact⟨z % m,_,e,⟨_,_,_,rfl⟩,Vf _ (by omega),Ua _ h1⟩
@[simp] theorem N5:ja N s ws T=if cC ws=true then jS (s (ws.map some++PC (N-ws.length) none) T) else none:=rfl
@[simp] theorem Nl:jS (some ((.ro x,r),T))=some (x,T):=rfl
@[simp] theorem L6:oX a ρ T=bnd (a ρ T) fun ws T1=>oF ρ (d3 ws) T1:=rfl
@[simp] theorem LF:oF ρ (some xs) T=if xs.length<=1000 then some ((.ro (.list xs),ρ),T) else none:=rfl
@[simp] theorem L5:jf s (.ro x,ρ) T=some ((.ro x,ρ),T):=rfl
theorem i5(ns:List Int)(k:Int)(hk:0<=k):∃xs,Fr xs/\∀T,bS [.d (.list (ns.map RH)),.d (.int k)] T=some (.list xs,T):=by
 cases ns with
 |nil=>exact⟨_,⟨0,0,k,rfl⟩,fun T=>by simp[bS]⟩
 |cons a r=>
  have hp:(0:Int)<(((a::r).map RH).length:Int):=by simp
  obtain⟨d,e1,hm⟩:=pA (xs:=(a::r).map RH) (i:=k % (((a::r).map RH).length:Int)) (Vf _ (by omega)) (Ua _ hp);obtain⟨c,_,rfl⟩:=Pq.mp hm;refine⟨_,⟨c,0,k,rfl⟩,fun T=>?_⟩;generalize (a::r).map RH=l at hp e1
  have h0:¬(l.length:Int)=0:=by omega
  have h3:0<l.length:=by omega
  have h0':l≠[]:=fun z=>by rw[z] at hp;simp at hp
  simp[bS,hp,e1,h0,h0',h3]
def nl(l:List Str):List PyData:=l.map PV
theorem b8(l:List Str):(nl l).length=l.length:=by simp[nl]
theorem pS(w:Str)(xs:List Str):inD (.str w) (.list (nl xs))=some (.bool (decide (w∈xs))):=by
 have h:(xs.map PV).all cE=true:=by simp[cE]
 show (if cE (.str w)&&(xs.map PV).all cE then some ((xs.map PV).any fun y=>eqF y (.str w)) else none).map WP=_;rw[h];simp[cE,eqF,List.any_map]
 induction xs with
 |nil=>simp
 |cons a r ih=>
  have ih':=ih (by simp[cE]);simp only[Q6,ih',Pt,X2,eqF]
  by_cases e:w=a
  .subst e;simp
  .have e':¬a=w:=fun z=>e z.symm
   simp[e,e']
theorem yU(w:Str)(xs:List Str):du (.str w) (.list (nl xs))=some (.bool (!decide (w∈xs))):=by
 have h:=pS w xs;unfold inD at h;unfold du
 cases hb:inS (.str w) (.list (nl xs)) with
 |none=>rw[hb] at h;cases h
 |some b=>
  rw[hb] at h;simp at h;simp[h]
theorem pY(h0:0<=i)(h1:i<(l.length:Int)):∃x,atI (nl l) i=some (.str x)/\x∈l:=by
 obtain⟨d,e,hm⟩:=pA (xs:=nl l) h0 (by rw[b8];exact h1);obtain⟨x,hx,rfl⟩:=Pq.mp hm;exact⟨x,e,hx⟩
def sfC(c:Nat):Bool:=decide (c∈K1.LET.cps.toList)
def Sf(x:Str):Prop:=∀c∈x.cps.toList,sfC c=true
theorem zR(h:(x.cps.toList.all sfC)=true):Sf x:=fun c hc=>PB.mp h c hc
theorem Sf.app(h:Sf x)(g:Sf y):Sf (x++y):=fun c hc=>by
 rw[VA,Array.toList_append] at hc
 rcases PD.mp hc with z|z
 .exact h c z
 .exact g c z
def Nx(n:Nat)(x:Str):Prop:=x.length<=n/\Sf x/\1<=x.length
theorem Nx.mono(h:Nx n x)(l:n<=m):Nx m x:=⟨PL h.1 l,h.2⟩
def Ns(l:List Str):Prop:=∀x∈l,Nx 8 x
def LT:Str:=Pc "abcdefghijklmnopqrstuvwxyz"
def LTs:List Str:=LT.cps.toList.map fun c=>(⟨#[c]⟩:Str)
theorem IB:LTs.Nodup:=by decide +kernel
theorem Gv:LTs.length=26:=by decide +kernel
theorem xM(h:x∈LTs):x.length=1:=by
 obtain⟨c,_,rfl⟩:=Pq.mp h;rfl
theorem sI(h:x∈LTs):Nx 1 x:=by
 have:(LTs.all fun x=>x.cps.toList.all sfC)=true:=by decide +kernel
 exact⟨by rw[xM h];exact Pm 1,zR (PB.mp this x h),by rw[xM h];exact Pm 1⟩
theorem qW:D.signs LT=nl LTs:=by
 unfold D.signs nl LTs;rw[Rl];rfl
theorem yY:LT.length=26:=by decide +kernel
theorem Ab(h0:0<=i)(h1:i<26):∃x∈LTs,ixD (.str LT) (.int i)=some (.str x):=by
 have hl:LT.cps.toList.length=26:=by decide +kernel
 obtain⟨c,e,hm⟩:=pA (xs:=LT.cps.toList) h0 (by rw[hl];exact h1);refine⟨⟨#[c]⟩,Pq.mpr ⟨c,hm,rfl⟩,?_⟩;rw[Jb,if_pos (by rw[yY,szL];decide),e];rfl
theorem sH{α:Type}[DecidableEq α]:∀{L N:List α},L.Nodup->N.length<L.length->∃x∈L,x∉N
 |[],N,_,h=>absurd h (by simp)
 |a::L,N,nd,h=>by
  rw[Q3] at nd
  by_cases ha:a∈N
  .have hp:(N.erase a).length<L.length:=by
    have h1:=List.length_erase_of_mem ha;have h2:0<N.length:=List.length_pos_of_mem ha;rw[PH] at h;omega
   obtain⟨x,hx,nx⟩:=sH nd.2 hp;refine⟨x,Pg _ hx,fun z=>nx ?_⟩;exact(List.mem_erase_of_ne (fun(q:x=a)=>nd.1 (q ▸ hx))).mpr z
  .exact⟨a,Pi,ha⟩
theorem Ce(h:l.length<26)(ρ:Rho)(T:Tp)(hv:∀d,aa 5 (some (.d d)::ρ) T=some (.loc (.list (nl l)),T)) :
  ∃x ys,(x∈LTs/\x∉l)/\bD (av (af du (aa 0) (aa 5))) (aa 0) ρ (D.signs LT) T=some (.str x::ys,T):=by
 have c:bD (av (af du (aa 0) (aa 5))) (aa 0) ρ (D.signs LT) T=some ((D.signs LT).filter (fun d=>match d with | .str x=>!decide (x∈l)|_=>false),T):=ui fun d hd=>by
  rw[qW] at hd;obtain⟨x,hx,rfl⟩:=Pq.mp hd;have:op2 du T (.d (.str x)) (.loc (.list (nl l)))=mkD T (du (.str x) (.list (nl l))):=rfl;simp[hv,this,yU]
 rw[c];obtain⟨x,hx,nx⟩:=sH (N:=l) IB (by rw[Gv];exact h)
 have hm:PV x∈(D.signs LT).filter (fun d=>match d with | .str x=>!decide (x∈l)|_=>false):=by
  rw[Rf,qW];exact⟨Pq.mpr ⟨x,hx,rfl⟩,by simp[nx]⟩
 cases hf:(D.signs LT).filter (fun d=>match d with | .str x=>!decide (x∈l)|_=>false) with
 |nil=>rw[hf] at hm;cases hm
 |cons d r=>
  have hd:d∈(D.signs LT).filter (fun d=>match d with | .str x=>!decide (x∈l)|_=>false):=by rw[hf];exact Pi
  rw[Rf,qW] at hd;obtain⟨y,hy,rfl⟩:=Pq.mp hd.1;exact⟨y,r,⟨hy,by simpa using hd.2⟩,rfl⟩
theorem D7(z:Str)(n:Nat):(QP z none (some (n:Int))).length<=n:=by
 have e:P9 none (some (n:Int)) 1 z.length=P9 (some 0) (some (n:Int)) 1 z.length:=by
  have hm:max 0 (min (0:Int) (z.length:Int))=0:=by omega
  unfold P9 Xn;simp[hm]
 have e2:QP z none (some (n:Int))=QP z (some 0) (some (n:Int)):=by
  unfold QP;rw[e]
 rw[e2,←fW,vP (by omega) (by omega),Q4];omega
theorem D9(h:1<=z.length):1<=(QP z none (some (8:Int))).length:=by
 have e:P9 none (some (8:Int)) 1 z.length=P9 (some 0) (some (8:Int)) 1 z.length:=by
  have hm:max 0 (min (0:Int) (z.length:Int))=0:=by omega
  unfold P9 Xn;simp[hm]
 have e2:QP z none (some (8:Int))=QP z (some 0) (some (8:Int)):=by
  unfold QP;rw[e]
 rw[e2,←fW,vP (by omega) (by omega),Q4,RO,fW];show 1<=min ((8:Int).toNat-(0:Int).toNat) _;simp;omega
theorem Gq(x:Str):x.length<=(Tt x 4).length:=by
 unfold Tt
 by_cases h:x.length=0
 .simp[h]
 .have h2:¬((4:Int) == 1||x.length == 0)=true:=by simp[h]
  rw[if_neg (by decide),if_neg h2];show _<=((PC 4 x.cps).foldl (·++·) #[]).size;have e:x.length=x.cps.size:=rfl;rw[e];simp[PC]
theorem ED(x:Str):(Tt x 4).length<=4*x.length:=by
 unfold Tt
 by_cases h:x.length=0
 .simp[h]
 .have h2:¬((4:Int) == 1||x.length == 0)=true:=by simp[h]
  rw[if_neg (by decide),if_neg h2];show ((PC 4 x.cps).foldl (·++·) #[]).size<=_;have e:x.length=x.cps.size:=rfl;rw[e];simp[PC];omega
theorem Gp(h:Sf x):Sf (Tt x 4):=by
 unfold Tt
 by_cases h0:x.length=0
 .simp[h0];exact h
 .have h2:¬((4:Int) == 1||x.length == 0)=true:=by simp[h0]
  rw[if_neg (by decide),if_neg h2];intro c hc;have hc':c∈((PC 4 x.cps).foldl (·++·) #[]).toList:=hc;simp[PC] at hc';exact h c (by simpa using hc')
theorem D8(h:Sf x):Sf (QP x l u):=fun c hc=>h c (CT hc)
def WD:List Str:=["made","told","say","want","fails","got","put","lacks"]
theorem Hv(h:x∈WD):Nx 8 x:=by
 have h1:(WD.all fun x=>decide (x.length<=8))=true:=by decide +kernel
 have h2:(WD.all fun x=>x.cps.toList.all sfC)=true:=by decide +kernel
 have h3:(WD.all fun x=>decide (1<=x.length))=true:=by decide +kernel
 exact⟨of_decide_eq_true (PB.mp h1 x h),zR (PB.mp h2 x h),of_decide_eq_true (PB.mp h3 x h)⟩
theorem a9(h:a ρ T=some ((.nx,ρ1),T1)):ak a b ρ T=b ρ1 T1:=by
 rw[Ja,h];rfl
def ρN(m:Pa)(l:List Str)(o5:Option W)(w:Int)(x:Str):Rho:=[some (.tp 0),some (.d m),some (.d (.list (nl WD))),some (.d (.str LT)),some (.loc (.list (nl l))),o5,some (.d (.int w)),some (.d (.str x))]
section
variable {m:Pa}{l:List Str}{o5:Option W}{w:Int}{x:Str}{xs:List Pa}
theorem Iw(hf:Fr xs)(hx:Nx 1 x):∃x' xs',fIf (av (af eqD (aa 6) (fC (.int 0)))) (aF 7 (af ixD (aa 2) (au aS (ae (aa 0) (ae (fC (.int 8)) ah))))) aD (ρN m l o5 w x) [xs]=some ((.nx,ρN m l o5 w x'),[xs'])/\Nx 8 x'/\(w≠0->x'=x)/\Fr xs':=by
 by_cases hw:w=0
 .obtain⟨r,xs',e,h',r0,r1⟩:=bG hf (m:=8) (by decide) (by decide)
  obtain⟨y,ey,my⟩:=pY (l:=WD) r0 (by simpa[WD] using r1);refine⟨y,xs',?_,Hv my,fun z=>absurd hw z,h'⟩;simp[ρN,hw,e,ey]
 .exact⟨x,xs,by simp[ρN,hw],hx.mono (by decide),fun _=>rfl,hf⟩
theorem He(h:0<l.length):∃y∈l,atI (nl l) (-1)=some (.str y):=by
 unfold atI ixN;rw[b8,if_neg (by omega),if_pos (by omega)]
 have hl:(-1+(l.length:Int)).toNat<l.length:=by omega
 exact⟨l[(-1+(l.length:Int)).toNat],SZ hl,by simp[nl,hl]⟩
theorem Ka:op2 o T (.loc (.list ys)) (.d y)=mkD T (o (.list ys) y):=rfl
theorem z0:op2 o T (.d y) (.loc (.list ys))=mkD T (o y (.list ys)):=rfl
theorem Iy(hl:Ns l)(hx:Nx 8 x):∃x',fIf (b9 (av (af eqD (aa 6) (fC (.int 1)))) (av (af gtD (fCB bb (ae (aa 4) ah)) (fC (.int 0))))) (aF 7 (fSl (af aV (af ixD (aa 4) (fUn gf (fC (.int 1)))) (aa 7)) cV (fP (fC (.int 8))))) aD (ρN m l o5 w x) [xs]=some ((.nx,ρN m l o5 w x'),[xs])/\Nx 8 x'/\(w≠1->x'=x):=by
 by_cases hw:w=1
 .by_cases h0:0<l.length
  .obtain⟨y,my,ey⟩:=He h0
   have hy:=hl y my
   have z:y.length+x.length<=sizeLine:=by have:=hy.1;have:=hx.1;rw[szL];omega
   have z2:(y++x).length<=sizeLine:=by rw[len_app];exact z
   refine⟨QP (y++x) none (some 8),?_,⟨D7 (y++x) 8,D8 (hy.2.1.app hx.2.1),D9 (by rw[len_app];have:=hx.2.2;omega)⟩,fun z=>absurd hw z⟩;simp[ρN,hw,b8,h0,Ka,ey,z,z2]
  .have h1:l=[]:=List.eq_nil_of_length_eq_zero (by omega)
   exact⟨x,by simp[ρN,hw,h1,nl],hx,fun z=>absurd hw z⟩
 .exact⟨x,by simp[ρN,hw],hx,fun _=>rfl⟩
theorem Kh(hf:Fr xs)(hx:Nx 8 x)(h2:w=2->x.length<=1):∃x' xs',fIf (av (af eqD (aa 6) (fC (.int 2)))) (aF 7 (af eU (af aV (aa 7) (af ixD (aa 3) (au aS (ae (aa 0) (ae (fC (.int 26)) ah))))) (fC (.int 4)))) aD (ρN m l o5 w x) [xs]=some ((.nx,ρN m l o5 w x'),[xs'])/\Nx 8 x'/\Fr xs':=by
 by_cases hw:w=2
 .obtain⟨r,xs',e,h',r0,r1⟩:=bG hf (m:=26) (by decide) (by decide)
  obtain⟨y,my,ey⟩:=Ab r0 r1;have hy:=sI my;have hy1:=hy.1;have hx1:=hx.1
  have z:x.length+y.length<=sizeLine:=by rw[szL];omega
  have z2:(x++y).length<=1000:=by rw[len_app];omega
  have z3:=ED (x++y);rw[len_app] at z3;have h2':=h2 hw;have z4:=Gq (x++y);rw[len_app] at z4;have hx3:=hx.2.2;refine⟨Tt (x++y) 4,xs',?_,⟨by omega,Gp (hx.2.1.app hy.2.1),by omega⟩,h'⟩;simp only[ρN,hw,Aj,I0,pf,nX,nW,nV,nU,rX,rW,rV,GP,fV,nZ,AZ,oZ,Je,pd,GQ,Jc,decide_true,if_true,oY,ya,nY,nA,pb,e,ey,GT,z,GS,z2,x9];rfl
 .exact⟨x,xs,by simp[ρN,hw],hx.mono (by decide),hf⟩
theorem Kj(h26:l.length<26)(hx:Nx 8 x):∃x',fIf (av (af inD (aa 7) (aa 4))) (aF 7 (af ixD (bC (bf (aa 3)) (av (af du (aa 0) (aa 5))) (aa 0)) (fC (.int 0)))) aD (ρN m l o5 w x) [xs]=some ((.nx,ρN m l o5 w x'),[xs])/\Nx 8 x'/\x'∉l:=by
 by_cases hi:x∈l
 .obtain⟨y,ys,⟨my,ny⟩,c⟩:=Ce h26 (ρN m l o5 w x) [xs] (fun d=>rfl)
  have hy:=sI my;refine⟨y,?_,hy.mono (by decide),ny⟩
  have z:LT.length<=sizeLine:=by rw[yY,szL];decide
  have a0:atI (PV y::ys) 0=some (.str y):=by simp[atI,ixN]
  unfold ρN at c;simp[ρN,z0,pS,hi,z,c,a0]
 .exact⟨x,by simp[ρN,z0,pS,hi],hx,hi⟩
theorem Ki(hf:Fr xs)(h6:l.length<=20)(nd:l.Nodup)(nx:x∉l):∃l' xs',mB 4 (au aS (ae (aa 0) (ae (af aV (fCB bb (ae (aa 4) ah)) (fC (.int 1))) ah))) (aa 7) (ρN m l o5 w x) [xs]=some ((.nx,ρN m l' o5 w x),[xs'])/\Fr xs'/\l'.length=l.length+1/\l'.Nodup/\∀y∈l',y=x\/y∈l:=by
 obtain⟨r,xs',e,h',r0,r1⟩:=bG hf (m:=(l.length:Int)+1) (by omega) (by omega);refine⟨l.take r.toNat++x::l.drop r.toNat,xs',?_,h',by simp;omega,?_,fun y hy=>?_⟩
 .have h3:0<=r/\r<=((nl l).length:Int)/\(nl l).length<=1000:=⟨r0,by rw[b8];omega,by rw[b8];omega⟩
  have k:mw 4 (ρN m l o5 w x) (.d (.int r)) (.d (.str x)) [xs'] (some (some (.loc (.list (nl l)))))=some ((.nx,(ρN m l o5 w x).set 4 (some (.loc (.list ((nl l).take r.toNat++.str x::(nl l).drop r.toNat))))),[xs']):=by
   unfold mw;dsimp only;rw[if_pos h3]
  unfold mB
  have e1:au aS (ae (aa 0) (ae (af aV (fCB bb (ae (aa 4) ah)) (fC (.int 1))) ah)) (ρN m l o5 w x) [xs]=some (.d (.int r),[xs']):=by
   simp[ρN,b8,e]
  have e2:aa 7 (ρN m l o5 w x) [xs']=some (.d (.str x),[xs']):=rfl;rw[e1];dsimp only[fV];rw[e2];refine Eq.trans k ?_;simp[ρN,nl]
 .have e:(x::(l.take r.toNat++l.drop r.toNat)).Nodup:=by
   rw[List.take_append_drop];exact Q3.mpr ⟨nx,nd⟩
  exact List.perm_middle.symm.nodup e
 .rcases PD.mp hy with q|q
  .exact .inr (List.mem_of_mem_take q)
  .rcases Pt.mp q with q|q
   .exact .inl q
   .exact .inr (List.mem_of_mem_drop q)
end
theorem Hl(hf:Fr xs)(h0:0<=m)(h1:m<=20):∃l xs',jq [.tp 0,.d (.int m)] [xs]=some (.list (nl l),[xs'])/\Ns l/\l.Nodup/\(l.length:Int)=m:=by
 have lp:=jG (i:=5) (body:=qA) (N:=20) (I:=fun k ρ T=>∃l xs o5 o6 o7,ρ=[some (.tp 0),some (.d (.int m)),some (.d (.list (nl WD))),some (.d (.str LT)),some (.loc (.list (nl l))),o5,o6,o7]/\T=[xs]/\Fr xs/\Ns l/\l.length=k/\l.Nodup)
  (cP 0 m.toNat) 0 [some (.tp 0),some (.d (.int m)),some (.d (.list (nl WD))),some (.d (.str LT)),some (.loc (.list (nl []))),none,none,none] [xs] (by rw[kY];omega) ⟨[],xs,none,none,none,rfl,rfl,hf,(fun _ z=>nomatch z),rfl,by simp⟩ (fun k d ρ T hd hk hI=>by
   obtain⟨l,xs,o5,o6,o7,rfl,rfl,hf,hn,hl,hnd⟩:=hI;obtain⟨w,x1,e1,f1,_,_⟩:=bG hf (m:=5) (by decide) (by decide);obtain⟨r,x2,e2,f2,r0,r1⟩:=bG f1 (m:=26) (by decide) (by decide);obtain⟨y,my,ey⟩:=Ab r0 r1;have hy:=sI my;obtain⟨y3,x3,e3,h3,u3,f3⟩:=Iw (m:=.int m) (l:=l) (o5:=some (.d d)) (w:=w) f2 hy;obtain⟨y4,e4,h4,u4⟩:=Iy (m:=.int m) (o5:=some (.d d)) (w:=w) (xs:=x3) hn h3;obtain⟨y5,x5,e5,h5,f5⟩:=Kh (m:=.int m) (l:=l) (o5:=some (.d d)) (w:=w) f3 h4 (fun z=>by rw[u4 (by omega),u3 (by omega)];exact hy.1);obtain⟨y6,e6,h6,n6⟩:=Kj (m:=.int m) (o5:=some (.d d)) (w:=w) (xs:=x5) (show l.length<26 by omega) h5;obtain⟨l',x7,e7,f7,h7,d7,m7⟩:=Ki (m:=.int m) (l:=l) (o5:=some (.d d)) (w:=w) (x:=y6) f5 (by omega) hnd n6;refine⟨ρN (.int m) l' (some (.d d)) w y6,[x7],?_,⟨l',x7,_,_,_,rfl,rfl,f7,fun y hy=>?_,by omega,d7⟩⟩
   .unfold qA
    have s1:aF 6 (au aS (ae (aa 0) (ae (fC (.int 5)) ah))) (List.set [some (.tp 0),some (.d (.int m)),some (.d (.list (nl WD))),some (.d (.str LT)),some (.loc (.list (nl l))),o5,o6,o7] 5 (some (.d d))) [xs]=some ((.nx,[some (.tp 0),some (.d (.int m)),some (.d (.list (nl WD))),some (.d (.str LT)),some (.loc (.list (nl l))),some (.d d),some (.d (.int w)),o7]),[x1]):=by
     simp[e1]
    have s2:aF 7 (af ixD (aa 3) (au aS (ae (aa 0) (ae (fC (.int 26)) ah)))) [some (.tp 0),some (.d (.int m)),some (.d (.list (nl WD))),some (.d (.str LT)),some (.loc (.list (nl l))),some (.d d),some (.d (.int w)),o7] [x1]=some ((.nx,ρN (.int m) l (some (.d d)) w y),[x2]):=by
     simp only[oY,pf,nX,nW,nV,nU,fV,nZ,ya,nY,nA,pb,AZ,e2,oZ,ey,pd,x9];rfl
    rw[a9 s1,a9 s2,a9 e3,a9 e4,a9 e5,a9 e6,e7]
   .rcases m7 y hy with rfl|q
    .exact h6
    .exact hn y q)
 obtain⟨ρ',T',e,l,xs',o5,o6,o7,rfl,rfl,_,hn,hl,hnd⟩:=lp;rw[kY] at hl;refine⟨l,xs',?_,hn,hnd,by omega⟩;have ro:fX m=true:=rng_ok h0 (by omega);have wd:(Um [.str "made",.str "told",.str "say",.str "want",.str "fails",.str "got",.str "put",.str "lacks"])=.list (nl WD):=rfl;have lt:Pc "abcdefghijklmnopqrstuvwxyz"=LT:=rfl;have n0:([]:List Pa)=nl []:=rfl;rw[Cy];simp[wd,lt,ro];rw[n0,e];simp
open K1 (isName aH single aO aM)
def MN:List PyData:=[.int 0,.int 1,.str "",.tuple [],.int 2,.str "a",.tuple [.int 0],.tuple [.int 1,.str ""],.int (-7),.int 1000000000000000000,.str "x-0",.tuple [.tuple [],.tuple [.str "b",.int 3]],.tuple [.int 0,.int 1,.int 2],.int (1-1000000000000000000)]
theorem Kk(h:v∈MN):aH v=true:=by
 have:(MN.all aH)=true:=by decide +kernel
 exact PB.mp this v h
theorem GE(h0:0<=i)(h1:i<=1000000000000000000):aH (.int i)=true:=by
 show (single (.int i)&&decide ((1:Int)<=40))=true;have:single (.int i)=true:=decide_eq_true (by rw[if_neg (by omega)];exact h1);rw[this];rfl
theorem Nx.val(h:Nx 8 x):aH (.str x)=true:=by
 have sub:∀c∈K1.LET.cps.toList,c∈K1.TXT.cps.toList:=by decide +kernel
 have h3:K1.has K1.TXT x=true:=PB.mpr fun c hc=>decide_eq_true (sub c (of_decide_eq_true (h.2.1 c hc)));show ((decide (x.length<=20)&&K1.has K1.TXT x)&&decide ((1:Int)<=40))=true;rw[h3,decide_eq_true (by have:=h.1;omega)];rfl
theorem lO(hf:Fr xs)(hn:Ns l)(h0:0<l.length)(h1:l.length<=20):∃v xs',gk [.tp 0,.d (.list (nl l))] [xs]=some (v,[xs'])/\aH v=true/\Fr xs':=by
 have mn:(Um [.int 0,.int 1,.str "",.tuple [],.int 2,.str "a",.tuple [.int 0],.tuple [.int 1,.str ""],.int (-7),.int 1000000000000000000,.str "x-0",.tuple [.tuple [],.tuple [.str "b",.int 3]],.tuple [.int 0,.int 1,.int 2],.int (1-1000000000000000000)])=.list MN:=rfl;obtain⟨k,x1,e1,f1,k0,k1⟩:=bG hf (m:=18) (by decide) (by decide);have s1:aF 2 (aA .list (ae (fC (.int 0)) (ae (fC (.int 1)) (ae (fC (.str "")) (ae (aA .tuple ah) (ae (fC (.int 2)) (ae (fC (.str "a")) (ae (aA .tuple (ae (fC (.int 0)) ah)) (ae (aA .tuple (ae (fC (.int 1)) (ae (fC (.str "")) ah))) (ae (fUn gf (fC (.int 7))) (ae (af fH (fC (.int 10)) (fC (.int 18))) (ae (fC (.str "x-0")) (ae (aA .tuple (ae (aA .tuple ah) (ae (aA .tuple (ae (fC (.str "b")) (ae (fC (.int 3)) ah))) ah))) (ae (aA .tuple (ae (fC (.int 0)) (ae (fC (.int 1)) (ae (fC (.int 2)) ah)))) (ae (af fG (fC (.int 1)) (af fH (fC (.int 10)) (fC (.int 18)))) ah))))))))))))))) [some (.tp 0),some (.d (.list (nl l))),none,none] [xs]=some ((.nx,[some (.tp 0),some (.d (.list (nl l))),some (.d (.list MN)),none]),[xs]):=rfl
 have s2:aF 3 (au aS (ae (aa 0) (ae (fC (.int 18)) ah))) [some (.tp 0),some (.d (.list (nl l))),some (.d (.list MN)),none] [xs]=some ((.nx,[some (.tp 0),some (.d (.list (nl l))),some (.d (.list MN)),some (.d (.int k))]),[x1]):=by simp[e1]
 unfold gk;rw[mi];simp only[vp,kQ,kR,if_true];show ∃v xs',df (ak _ _ [some (.tp 0),some (.d (.list (nl l))),none,none] [xs])=_/\_;rw[a9 s1,a9 s2]
 by_cases h14:k<14
 .obtain⟨v,ev,mv⟩:=pA (xs:=MN) k0 (by simpa[MN] using h14)
  exact⟨v,x1,by simp[h14,ev],Kk mv,f1⟩
 .by_cases he:k=14
  .obtain⟨r,x2,e2,f2,r0,r1⟩:=bG f1 (m:=1000000000000000000) (by decide) (by decide)
   exact⟨.int r,x2,by simp[h14,he,sX,e2],GE r0 (by omega),f2⟩
  .obtain⟨r,x2,e2,f2,r0,r1⟩:=bG f1 (m:=(l.length:Int)) (by omega) (by omega)
   obtain⟨y,ey,my⟩:=pY r0 r1;exact⟨.str y,x2,by simp[h14,he,b8,e2,ey],(hn y my).val,f2⟩
def twoW(w:String):Prop:=w="sum"\/w="join"\/w="same"\/w="part"\/w="less"
def exP(v:Pa):PyData:=.tuple [.str "put",v]
def exG(k:Int):PyData:=.tuple [.str "got",.int k]
def exM(a:Pa):PyData:=.tuple [.str "many",a]
def exR(es:List Pa):PyData:=.tuple [.str "row",.tuple es]
def ex2(w:String)(a b:Pa):PyData:=.tuple [.str (Pc w),a,b]
inductive Ld(k:Nat):Pa->Prop where
 |put {v:Pa}:aH v=true->Ld k (exP v)
 |got {i:Int}:0<=i->i<k->Ld k (exG i)
inductive Xd(k:Nat):Pa->Prop where
 |lf {e:Pa}:Ld k e->Xd k e
 |two {w:String}{a b:Pa}:twoW w->Ld k a->Ld k b->Xd k (ex2 w a b)
 |row {es:List Pa}:es.length<=2->(∀e∈es,Ld k e)->Xd k (exR es)
 |many {a:Pa}:Ld k a->Xd k (exM a)
section
variable {l:List Str}(hn:Ns l)(h0:0<l.length)(h1:l.length<=20)
include hn h0 h1 in
theorem pE(hf:Fr xs):∃y xs' r,aS [.tp 0,.d (.int (l.length:Int))] [xs]=some (.int r,[xs'])/\atI (nl l) r=some (.str y)/\y∈l/\Fr xs':=by
 obtain⟨r,x2,e2,f2,r0,r1⟩:=bG hf (m:=(l.length:Int)) (by omega) (by omega);obtain⟨y,ey,my⟩:=pY r0 r1;exact⟨y,x2,r,e2,ey,my,f2⟩
include hn h0 h1 in
theorem yC(hf:Fr xs)(k:Nat)(hk:k<=1000)(n:Nat):∃e xs',c5 (n+1) [.tp 0,.d (.int k),.d (.list (nl l)),.d (.int 0)] [xs]=some (e,[xs'])/\Ld k e/\Fr xs':=by
 obtain⟨w,x1,e1,f1,w0,w1⟩:=bG hf (m:=12) (by decide) (by decide)
 by_cases hg:w<4/\0<k
 .obtain⟨r,x2,e2,f2,r0,r1⟩:=bG f1 (m:=(k:Int)) (by omega) (by omega)
  exact⟨exG r,x2,by simp[c5,e1,hg.1,hg.2,e2,exG],.got r0 r1,f2⟩
 .obtain⟨v,x2,e2,hv,f2⟩:=lO f1 hn h0 h1
  refine⟨exP v,x2,?_,.put hv,f2⟩
  by_cases h4:w<4
  .have hk0:¬0<k:=fun z=>hg ⟨h4,z⟩
   simp[c5,e1,h4,hk0,e2,exP]
  .simp[c5,e1,h4,e2,exP]
theorem Ll(h0:0<=r)(h1:r<5):∃w,twoW w/\atI [PV "part",.str "sum",.str "join",.str "same",.str "less"] r=some (.str (Pc w)):=by
 have:r=0\/r=1\/r=2\/r=3\/r=4:=by omega
 rcases this with rfl|rfl|rfl|rfl|rfl
 .exact⟨"part",.inr (.inr (.inr (.inl rfl))),rfl⟩
 .exact⟨"sum",.inl rfl,rfl⟩
 .exact⟨"join",.inr (.inl rfl),rfl⟩
 .exact⟨"same",.inr (.inr (.inl rfl)),rfl⟩
 .exact⟨"less",.inr (.inr (.inr (.inr rfl))),rfl⟩
theorem Lq(h0:0<=r)(h1:r<3)(a b:Pa):(cL [a,b] none (some r)).length<=2/\∀e∈cL [a,b] none (some r),e=a\/e=b:=by
 have:r=0\/r=1\/r=2:=by omega
 rcases this with rfl|rfl|rfl
 .have e:cL [a,b] none (some 0)=[]:=rfl
  rw[e];exact⟨by simp,fun _ h=>nomatch h⟩
 .have e:cL [a,b] none (some 1)=[a]:=rfl
  rw[e];exact⟨by simp,fun e h=>by simp at h;exact .inl h⟩
 .have e:cL [a,b] none (some 2)=[a,b]:=rfl
  rw[e];exact⟨by simp,fun e h=>by simpa using h⟩
include hn h0 h1 in
theorem ou(hf:Fr xs)(k:Nat)(hk:k<=1000)(n:Nat):∃e xs',c5 (n+2) [.tp 0,.d (.int k),.d (.list (nl l)),.d (.int 1)] [xs]=some (e,[xs'])/\Xd k e/\Fr xs':=by
 obtain⟨w,x1,e1,f1,w0,w1⟩:=bG hf (m:=12) (by decide) (by decide)
 by_cases hg:w<4/\0<k
 .obtain⟨r,x2,e2,f2,r0,r1⟩:=bG f1 (m:=(k:Int)) (by omega) (by omega)
  refine⟨exG r,x2,?_,.lf (.got r0 r1),f2⟩;unfold c5;simp[e1,hg.1,hg.2,e2,exG]
 .by_cases h7:w<7
  .obtain⟨v,x2,e2,hv,f2⟩:=lO f1 hn h0 h1
   refine⟨exP v,x2,?_,.lf (.put hv),f2⟩;unfold c5
   by_cases h4:w<4
   .have hk0:¬0<k:=fun z=>hg ⟨h4,z⟩
    simp[e1,h4,h7,hk0,e2,exP]
   .simp[e1,h4,h7,e2,exP]
  .have h4:¬w<4:=by omega
   obtain⟨a,x2,e2,ha,f2⟩:=yC hn h0 h1 f1 k hk n
   by_cases h8:w=7
   .refine⟨exM a,x2,?_,.many ha,f2⟩
    unfold c5;simp[e1,h4,h7,e2,h8,exM]
   .obtain⟨b,x3,e3,hb,f3⟩:=yC hn h0 h1 f2 k hk n
    by_cases h9:w=8
    .obtain⟨r,x4,e4,f4,r0,r1⟩:=bG f3 (m:=3) (by decide) (by decide)
     obtain⟨c1,c2⟩:=Lq r0 r1 a b;refine⟨exR (cL [a,b] none (some r)),x4,?_,.row c1 fun e he=>?_,f4⟩
     .unfold c5
      simp[e1,h4,h7,e2,h8,e3,h9,e4,exR]
     .rcases c2 e he with rfl|rfl
      .exact ha
      .exact hb
    .obtain⟨r,x4,e4,f4,r0,r1⟩:=bG f3 (m:=5) (by decide) (by decide)
     obtain⟨v,hv,ev⟩:=Ll r0 r1;refine⟨ex2 v a b,x4,?_,.two hv ha hb,f4⟩;unfold c5;simp[e1,h4,h7,e2,h8,e3,h9,e4,ev,ex2]
include hn h0 h1 in
theorem wO(hf:Fr xs)(k:Nat)(hk:k<=1000):∃e xs',jo [.tp 0,.d (.int k),.d (.list (nl l))] [xs]=some (e,[xs'])/\Xd k e/\Fr xs':=by
 obtain⟨w,x1,e1,f1,w0,w1⟩:=bG hf (m:=10) (by decide) (by decide)
 by_cases h7:w<7
 .obtain⟨y,x2,r,e2,ey,my,f2⟩:=pE hn h0 h1 f1
  exact⟨exP (.str y),x2,by simp[jo,e1,h7,b8,e2,ey,exP],.lf (.put (hn y my).val),f2⟩
 .by_cases h8:w=7
  .obtain⟨y,x2,r,e2,ey,my,f2⟩:=pE hn h0 h1 f1
   exact⟨ex2 "join" (exP (.str y)) (exP (.str "")),x2,by simp[jo,e1,h7,h8,b8,e2,ey,exP,ex2],.two (.inr (.inl rfl)) (.put (hn y my).val) (.put (by decide +kernel)),f2⟩
  .obtain⟨e,x2,e2,he,f2⟩:=ou hn h0 h1 f1 k hk 23
   exact⟨e,x2,by simp[jo,e1,h7,h8,e2],he,f2⟩
def jg(e:Pa):PyData:=.tuple [.str "say",e]
def l9(w:Str):PyData:=.tuple [.str "fail",.str w]
def i6(b:Bool)(e r:Pa):PyData:=.tuple [.str (Pc (if b then "peek" else "want")),e,r]
def pG(e p q:Pa):PyData:=.tuple [.str "when",e,p,q]
def R:Nat->Nat->Nat
 |a,0=>4*a+4
 |a,b+1=>2*R a b+4
theorem tT:∀a b,4<=R a b
 |a,0=>by simp[R]
 |a,b+1=>by simp[R]
theorem pC(a:Nat):∀b,R a b+4<=R (a+1) b
 |0=>by simp[R];omega
 |b+1=>by have:=pC a b;simp only[R];omega
inductive RC:Nat->Nat->Nat->Pa->Prop where
 |say {h k c:Nat}{e:Pa}:4<=c->Xd k e->RC h k c (jg e)
 |fail {h k c:Nat}{w:Str}:4<=c->Nx 8 w->RC h k c (l9 w)
 |want {h k c c':Nat}{b:Bool}{e r:Pa}:c' + 4<=c->Xd k e->RC h (k+1) c' r->RC (h+1) k c (i6 b e r)
 |when {h k c c1 c2:Nat}{e p q:Pa}:c1+c2+4<=c->Xd k e->RC h k c1 p->RC h k c2 q->RC (h+1) k c (pG e p q)
theorem RC.up(x:RC h k c r)(l:h<=m)(l2:c<=d):RC m k d r:=by
 induction x generalizing m d with
 |say z h=>exact .say (by omega) h
 |fail z h=>exact .fail (by omega) h
 |want z h _ ih=>
  obtain⟨j,rfl⟩:∃j,m=j+1:=⟨m-1,by omega⟩;exact .want (PL z l2) h (ih (by omega) (Pm _))
 |when z h _ _ i1 i2=>
  obtain⟨j,rfl⟩:∃j,m=j+1:=⟨m-1,by omega⟩;exact .when (PL z l2) h (i1 (by omega) (Pm _)) (i2 (by omega) (Pm _))
theorem jj(w:Int):inD (.int w) (.tuple [.int 4,.int 5])=some (.bool (decide (w=4)||decide (w=5))):=by
 have e:inD (.int w) (.tuple [.int 4,.int 5])=some (.bool (decide ((4:Int)=w)||(decide ((5:Int)=w)||false))):=rfl;rw[e,VP]
 congr 2
 rw[decide_eq_decide.mpr (show (4:Int)=w↔w=4 from⟨fun z=>z.symm,fun z=>z.symm⟩),decide_eq_decide.mpr (show (5:Int)=w↔w=5 from⟨fun z=>z.symm,fun z=>z.symm⟩)]
include hn h0 h1 in
theorem yL{xs:List Pa}{pk:Bool}{h k a b n:Nat}{w:Int}{x1:List Pa}(hk:k<=1000)(e1:aS [.tp 0,.d (.int 8)] [xs]=some (.int w,[x1]))(f1:Fr x1)(hA:¬(w<4/\0<a))(hB:¬((w=4\/w=5)/\0<b)):∃r xs',dm (n+1) [.tp 0,.d (.int k),.d (.list (nl l)),.d (.int a),.d (.int b),.d (.bool pk)] [xs]=some (r,[xs'])/\RC h k (R a b) r/\Fr xs':=by
 have cA:∀{α:Type} (p q:α),(if w<4 then (if 0<a then p else q) else q)=q:=fun p q=>by
  by_cases z:w<4
  .rw[if_pos z,if_neg fun y=>hA ⟨z,y⟩]
  .rw[if_neg z]
 by_cases h6:w=6
 .obtain⟨r,x2,e2,f2,r0,r1⟩:=bG f1 (m:=2) (by decide) (by decide)
  by_cases hr:r=0
  .obtain⟨y,x3,r3,e3,ey,my,f3⟩:=pE hn h0 h1 f2
   refine⟨l9 y,x3,?_,.fail (tT a b) (hn y my),f3⟩;unfold dm;simp[e1,h6,jj,e2,hr,b8,e3,ey,l9]
  .obtain⟨e,x3,e3,he,f3⟩:=ou hn h0 h1 f2 k (by omega) 23
   refine⟨jg e,x3,?_,.say (tT a b) he,f3⟩;unfold dm;simp[e1,h6,jj,e2,hr,e3,jg]
 .obtain⟨e,x3,e3,he,f3⟩:=ou hn h0 h1 f1 k (by omega) 23
  refine⟨jg e,x3,?_,.say (tT a b) he,f3⟩;unfold dm
  by_cases h45:w=4\/w=5
  .have hb:¬0<b:=fun z=>hB ⟨h45,z⟩
   rcases h45 with rfl|rfl <;> simp[e1,jj,e3,jg,hb]
  .have h4:¬w=4:=fun z=>h45 (.inl z)
   have h5:¬w=5:=fun z=>h45 (.inr z)
   by_cases hw:w<4
   .have ha:¬0<a:=fun z=>hA ⟨hw,z⟩
    simp[e1,hw,ha,h4,h5,h6,jj,e3,jg]
   .simp[e1,hw,h4,h5,h6,jj,e3,jg]
include hn h0 h1 in
theorem Fs(pk:Bool):∀(h:Nat) {xs:List Pa} (_:Fr xs) (k a b n:Nat),a+b=h->k+h<=100->h<=n->∃r xs',dm (n+1) [.tp 0,.d (.int k),.d (.list (nl l)),.d (.int a),.d (.int b),.d (.bool pk)] [xs]=some (r,[xs'])/\RC h k (R a b) r/\Fr xs':=by
 intro h
 induction h with
 |zero=>
  intro xs hf k a b n hab hk hn';obtain⟨w,x1,e1,f1,w0,w1⟩:=bG hf (m:=8) (by decide) (by decide);exact yL hn h0 h1 (by omega) e1 f1 (by omega) (by omega)
 |succ h ih=>
  intro xs hf k a b n hab hk hn';obtain⟨j,rfl⟩:∃j,n=j+1:=⟨n-1,by omega⟩;obtain⟨w,x1,e1,f1,w0,w1⟩:=bG hf (m:=8) (by decide) (by decide)
  by_cases hA:w<4/\0<a
  .obtain⟨a',rfl⟩:∃a',a=a' + 1:=⟨a-1,by omega⟩
   have hpi:(0:Int)<(a':Int)+1:=by omega
   have ca:(a':Int)+1-1=a':=by omega
   have ck:((k+1:Nat):Int)=(k:Int)+1:=by omega
   cases pk with
   |false=>
    obtain⟨e,x3,e3,he,f3⟩:=wO hn h0 h1 f1 k (by omega);obtain⟨r,x4,e4,hr,f4⟩:=ih f3 (k+1) a' b j (by omega) (by omega) (by omega);rw[ck] at e4;refine⟨i6 false e r,x4,?_,.want (pC a' b) he hr,f4⟩;unfold dm;simp[e1,hA.1,hpi,e3,e4,ca,i6]
   |true=>
    obtain⟨r2,x2,e2,f2,r0,r1⟩:=bG f1 (m:=3) (by decide) (by decide);obtain⟨e,x3,e3,he,f3⟩:=wO hn h0 h1 f2 k (by omega);obtain⟨r,x4,e4,hr,f4⟩:=ih f3 (k+1) a' b j (by omega) (by omega) (by omega);rw[ck] at e4
    by_cases hr0:r2=0
    .refine⟨i6 true e r,x4,?_,.want (pC a' b) he hr,f4⟩
     unfold dm;simp[e1,hA.1,hpi,e2,hr0,e3,e4,ca,i6]
    .refine⟨i6 false e r,x4,?_,.want (pC a' b) he hr,f4⟩
     unfold dm;simp[e1,hA.1,hpi,e2,hr0,e3,e4,ca,i6]
  .by_cases hB:(w=4\/w=5)/\0<b
   .obtain⟨b',rfl⟩:∃b',b=b' + 1:=⟨b-1,by omega⟩
    have hpi:(0:Int)<(b':Int)+1:=by omega
    have cb:(b':Int)+1-1=b':=by omega
    obtain⟨e,x2,e2,he,f2⟩:=ou hn h0 h1 f1 k (by omega) 23;obtain⟨p,x3,e3,hp,f3⟩:=ih f2 k a b' j (by omega) (by omega) (by omega);obtain⟨q,x4,e4,hq,f4⟩:=ih f3 k a b' j (by omega) (by omega) (by omega);refine⟨pG e p q,x4,?_,.when (by simp only[R];omega) he hp hq,f4⟩;unfold dm
    rcases hB.1 with rfl|rfl
    .simp[e1,jj,hpi,e2,cb,e3,e4,pG]
    .simp[e1,jj,hpi,e2,cb,e3,e4,pG]
   .exact yL hn h0 h1 (by omega) e1 f1 hA hB
include hn h0 h1 in
theorem zJ(hf:Fr xs)(pk:Bool):∃r xs',fN [.tp 0,.d (.list (nl l)),.d (.bool pk)] [xs]=some (r,[xs'])/\RC 5 0 60 r/\Fr xs':=by
 obtain⟨w,x1,e1,f1,w0,w1⟩:=bG hf (m:=5) (by decide) (by decide)
 have hw:w=0\/w=1\/w=2\/w=3\/w=4:=by omega
 have run:∀a b:Nat,a+b<=5->R a b<=60->∃r xs',dm 25 [.tp 0,.d (.int 0),.d (.list (nl l)),.d (.int a),.d (.int b),.d (.bool pk)] [x1]=some (r,[xs'])/\RC 5 0 60 r/\Fr xs':=fun a b hab hR=>by
  obtain⟨r,x2,e2,hr,f2⟩:=Fs hn h0 h1 pk (a+b) f1 0 a b 24 rfl (by omega) (by omega);exact⟨r,x2,e2,hr.up hab hR,f2⟩
 have a5:∀(a b c d e:Pa),atI [a,b,c,d,e] 0=some a/\atI [a,b,c,d,e] 1=some b/\atI [a,b,c,d,e] 2=some c/\atI [a,b,c,d,e] 3=some d/\atI [a,b,c,d,e] 4=some e:=fun _ _ _ _ _=>⟨rfl,rfl,rfl,rfl,rfl⟩
 rcases hw with rfl|rfl|rfl|rfl|rfl
 .obtain⟨r,x2,e2,h2⟩:=run 4 1 (by decide) (by decide)
  exact⟨r,x2,by simp at e2;simp[fN,dj,e1,a5,e2],h2⟩
 .obtain⟨r,x2,e2,h2⟩:=run 2 2 (by decide) (by decide)
  exact⟨r,x2,by simp at e2;simp[fN,dj,e1,a5,e2],h2⟩
 .obtain⟨r,x2,e2,h2⟩:=run 1 1 (by decide) (by decide)
  exact⟨r,x2,by simp at e2;simp[fN,dj,e1,a5,e2],h2⟩
 .obtain⟨r,x2,e2,h2⟩:=run 3 1 (by decide) (by decide)
  exact⟨r,x2,by simp at e2;simp[fN,dj,e1,a5,e2],h2⟩
 .obtain⟨r,x2,e2,h2⟩:=run 0 1 (by decide) (by decide)
  exact⟨r,x2,by simp at e2;simp[fN,dj,e1,a5,e2],h2⟩
end
theorem Ld.ex(h:Ld k e):Ex (k:Int) n e:=by
 cases h with
 |put h=>exact .put h
 |got h0 h1=>exact .got h0 h1
theorem twoW.pw(h:twoW w):w∈PW:=by rcases h with rfl|rfl|rfl|rfl|rfl <;> simp[PW]
theorem Xd.ex(h:Xd k e):Ex (k:Int) (n+1) e:=by
 cases h with
 |lf h=>exact h.ex
 |two hw ha hb=>exact .pair hw.pw ha.ex hb.ex
 |row hl h=>exact .row (by omega) fun e he=>(h e he).ex
 |many h=>exact .many h.ex
theorem Nx.isNm(h:Nx 8 x):isName (.str x)=true:=by
 have h3:has LET x=true:=PB.mpr fun c hc=>h.2.1 c hc;show (decide (1<=x.length)&&decide (x.length<=8)&&has LET x)=true;rw[decide_eq_true h.1,decide_eq_true h.2.2,h3];rfl
theorem RC.rg(x:RC h k c r):k+h<=12->Rg true k (h+2) r:=by
 induction x with
 |say _ he=>exact fun _=>.say he.ex
 |fail _ hw=>exact fun _=>.fail hw.isNm
 |@want h k c c' b e r _ he _ ih=>
  intro l
  cases b with
  |true=>exact .ask (.inr ⟨rfl,rfl⟩) (by omega) he.ex (ih (by omega))
  |false=>exact .ask (.inl rfl) (by omega) he.ex (ih (by omega))
 |when _ he _ _ ih1 ih2=>exact fun l=>.whn he.ex (ih1 (by omega)) (ih2 (by omega))
def SP:Str:=Pc " "
def jw(ws:List Str):Str:=RR SP ws
theorem jd(ws:List Str):cd (jw ws)=bA [32] (ws.map cd):=by
 have e:cd SP=[32]:=by decide +kernel
 unfold jw;rw[rP,e]
theorem Fd(ws:List (List Nat))(h:ws≠[]):32::bA [32] ws=(ws.map (32::·)).flatten:=by
 cases ws with
 |nil=>exact absurd rfl h
 |cons w r=>rw[kI];rfl
theorem GD(x:Str)(wss:List (List Str))(h:∀ws∈wss,ws≠[]):jw (x::wss.map jw)=jw (x::wss.flatten):=by
 refine ic ?_;rw[jd,jd,Pz,Pz,kI,kI,Rl]
 congr 1
 induction wss with
 |nil=>rfl
 |cons ws r ih=>
  have i2:=ih fun q hq=>h q (Pg _ hq);have c:=Fd (ws.map cd) (by simpa using h ws Pi);simp only[Pz,Qe,Sq,Tj,Function.comp_apply];rw[←i2,jd];show (32::bA [32] (ws.map cd))++_=_;rw[c];rfl
theorem sU(h:cd p=cd w++[32]):p++x=jw [w,x]:=ic (by rw[iZ,jd,h];simp[bA])
structure Wd(ws:List Str)(m:Nat):Prop where
 ne:ws≠[]
 ln:ws.length<=m
 sz:∀w∈ws,w.length<=1100
 lw:∀w∈ws,Lw w
theorem IH(h:∀w∈ws,w.length<=1100):(jw ws).length<=1101*ws.length:=by
 rw[←fW,jd]
 cases ws with
 |nil=>simp[bA]
 |cons w r=>
  rw[Pz,kI,PN,fW];have h1:=h w Pi
  have h2:∀r:List Str,(∀w∈r,w.length<=1100)->((r.map cd).map ([32]++·)).flatten.length<=1101*r.length:=fun r=>by
   induction r with
   |nil=>intro _;simp
   |cons a r ih=>
    intro h;have:=ih fun x hx=>h x (Pg _ hx);have h1:=h a Pi;rw[Pz,Pz,Qe,PN,PN,fW,PH];simp;simp at this;omega
  have h3:=h2 r fun x hx=>h x (Pg _ hx);rw[PH];omega
theorem FG(xs:List Str):eM (nl xs)=some xs:=by have:=mQ (fun x:Str=>x) xs;simpa[nl] using this
theorem JA{x:Str}{wss:List (List Str)}(hx:x.length<=1100)(hw:∀ws∈wss,ws≠[]/\∀w∈ws,w.length<=1100)(hN:wss.flatten.length<=10000):fD (.str " ") (.list (.str x::wss.map fun ws=>.str (jw ws)))=some (.str (jw (x::wss.flatten))):=by
 have s:∀wss:List (List Str),(∀ws∈wss,ws≠[]/\∀w∈ws,w.length<=1100)->((wss.map jw).map fun y:Str=>y.length).sum<=1101*wss.flatten.length/\wss.length<=wss.flatten.length:=fun wss=>by
  induction wss with
  |nil=>intro _;simp
  |cons a r ih=>
   intro h;obtain⟨i1,i2⟩:=ih fun q hq=>h q (Pg _ hq);have l:=IH (h a Pi).2;have n:0<a.length:=List.length_pos_iff.mpr (h a Pi).1;simp only[Pz,Rn,Qe,PN,PH];omega
 obtain⟨s1,s2⟩:=s wss hw
 have e:(PV x::wss.map fun ws=>PV (jw ws))=nl (x::wss.map jw):=by simp[nl]
 have c1:(Pc " ").length=1:=by decide
 rw[e];show (match eM (nl (x::wss.map jw)) with|some ys=>if (ys.map fun y:Str=>y.length).sum+ys.length*(Pc " ").length<=16777216 then some (PV (RR " " ys)) else none|none=>none)=_;rw[FG];dsimp only;rw[c1,Pz,Rn,PH,Qb,if_pos (by omega)];exact congrArg (fun z=>some (PV z)) (GD x wss fun q hq=>(hw q hq).1)
theorem Jd(h:f ρ T=some (.d (.list ys),T1))(h2:ρ[i]? = some (some (.loc (.list xs))))(h3:xs.length+ys.length<=Pp):iu i f ρ T=some ((.nx,ρ.set i (some (.loc (.list (xs++ys))))),T1):=by
 unfold iu;rw[h,fV];simp only[h2];rw[if_pos h3]
theorem Iu(a b:List Str):nl a++nl b=nl (a++b):=by simp[nl]
theorem rT:∀(es:List Pa) (acc:List Str) (o:Option D.W),(∀e∈es,M [.d e] T=some (.list (nl (f e)),T))->acc.length+(es.map f).flatten.length<=10000 ->
  ∃o',forL 2 (iu 1 (au M (ae (aa 2) ah))) es [o0,some (.loc (.list (nl acc))),o] T=some ((.nx,[o0,some (.loc (.list (nl (acc++(es.map f).flatten)))),o']),T)
 |[],acc,o,_,_=>⟨o,by simp[forL]⟩
 |e::es,acc,o,h,hl=>by
  have h1:=h e Pi;rw[Pz,Qe,PN] at hl;obtain⟨o',ih⟩:=rT (f:=f) es (acc++f e) (some (.d e)) (fun x hx=>h x (Pg _ hx)) (by rw[PN];omega);refine⟨o',?_⟩;rw[nN (ρ':=[o0,some (.loc (.list (nl (acc++f e)))),some (.d e)]),ih]
  .rw[Pz,Qe,SH]
  .rw[←Iu]
   exact Jd (xs:=nl acc) (ys:=nl (f e)) (by simp[h1]) rfl (by rw[b8,b8];exact PL (show _<=10000 by omega) (by decide))
def SE(k:Nat)(m:Nat)(e:Pa):Prop:=∃ws,Wd ws m/\(∀n T,k<=n->ff n [.d e] T=some (.list (nl ws),T))/\∀n T,k<=n->eY n [.d e] T=some (.str (jw ws),T)
theorem Jp(h:aH v=true):(mk (cst 4 v)).length<=1000:=by
 have:=r8 4 v (cN h).1;have:=(cN h).2;rw[dv];omega
theorem zh(h0:0<=i)(h1:i<=1000):∃t:Str,t.length<=1000/\gc [.int i]=some (.str t)/\Lw t:=by
 have s:single (.int i)=true:=uw (by omega) (by omega);refine⟨mk (nc i),?_,rY s,fun c hc=>by rw[d6] at hc;rcases xD i c hc with z|z <;> omega⟩;rw[dv];have:=yV s;omega
theorem l4(s:String)(h:(Pc s).length=4):(Pc s).length=4:=h
theorem s2:2<=sizeLine:=by decide
theorem rH(h:Ld k e)(hk:k<=1000):SE 1 2 e:=by
 cases h with
 |@put v hv=>
  have z:=Jp hv;refine⟨[Pc "put",mk (cst 4 v)],⟨by simp,by simp,fun w hw=>?_,fun w hw=>?_⟩,fun n T hn=>?_,fun n T hn=>?_⟩
  .simp at hw
   rcases hw with rfl|rfl
   .decide +kernel
   .omega
  .simp at hw
   rcases hw with rfl|rfl
   .exact cQ (by decide +kernel)
   .exact gE hv
  .obtain⟨n,rfl⟩:=bj n (by omega)
   have s:∀T,dr 25 [.d v] T=some (.str (mk (cst 4 v)),T):=fun T=>oz T hv;simp[ff,gO,cW,exP,s,gH,jZ,nl,forL,s2]
  .obtain⟨n,rfl⟩:=bj n (by omega)
   have s:∀T,dB 25 [.d v] T=some (.str (mk (cst 4 v)),T):=fun T=>rN T hv;have l:(Pc "put ").length+(mk (cst 4 v)).length<=sizeLine:=cy (by rw[l4 "put " (by decide +kernel)];omega);simp[eY,exP,s,l,sU (w:=Pc "put") (p:=Pc "put ") (by decide +kernel)]
 |@got i h0 h1=>
  obtain⟨t,z,st,zl⟩:=zh (i:=i) h0 (by omega);refine⟨[Pc "got",t],⟨by simp,by simp,fun w hw=>?_,fun w hw=>?_⟩,fun n T hn=>?_,fun n T hn=>?_⟩
  .simp at hw
   rcases hw with rfl|rfl
   .decide +kernel
   .omega
  .simp at hw
   rcases hw with rfl|rfl
   .exact cQ (by decide +kernel)
   .exact zl
  .obtain⟨n,rfl⟩:=bj n (by omega)
   simp[ff,gO,cW,exG,st,gH,jZ,nl,forL,s2]
  .obtain⟨n,rfl⟩:=bj n (by omega)
   have l:(Pc "got ").length+t.length<=sizeLine:=cy (by rw[l4 "got " (by decide +kernel)];omega);simp[eY,exG,st,l,sU (w:=Pc "got") (p:=Pc "got ") (by decide +kernel)]
theorem IG(x:Str):jw [x]=x:=ic (by rw[jd];simp[bA])
theorem nP{α:Type}{f:α->List Str}{m:Nat}:∀{es:List α},(∀e∈es,(f e).length<=m)->(es.map f).flatten.length<=m*es.length
 |[],_=>by simp
 |a::r,h=>by
  have h1:=h a Pi;have h2:=nP (f:=f) (es:=r) fun x hx=>h x (Pg _ hx);rw[Pz,Qe,PN,PH,Nat.mul_add];omega
theorem x6{α:Type}{f:α->List Str}{es:List α}(h:∀e∈es,∀w∈f e,w.length<=1100):∀w∈(es.map f).flatten,w.length<=1100:=fun w hw=>by
 obtain⟨l,hl,hw'⟩:=UP.mp hw;obtain⟨e,he,rfl⟩:=Pq.mp hl;exact h e he w hw'
theorem x8{α:Type}{f:α->List Str}{es:List α}(h:∀e∈es,∀w∈f e,Lw w):∀w∈(es.map f).flatten,Lw w:=fun w hw=>by
 obtain⟨l,hl,hw'⟩:=UP.mp hw;obtain⟨e,he,rfl⟩:=Pq.mp hl;exact h e he w hw'
theorem rl:∀fw:List Str,(fw.map fun x=>[x]).flatten=fw
 |[]=>rfl
 |a::r=>by rw[Pz,Qe,rl r];rfl
theorem JB{α:Type}{f:α->List Str}{w:Str}{fw:List Str}{es:List α}{m:Nat}(hw:w.length<=1100)(hf:∀x∈fw,x.length<=1100)(h:∀e∈es,Wd (f e) m)(hN:fw.length+m*es.length<=10000) :
  fD (.str " ") (.list (nl (w::fw)++es.map fun e=>.str (jw (f e))))=some (.str (jw (w::(fw++(es.map f).flatten)))):=by
 have j:=JA (x:=w) (wss:=(fw.map fun x=>[x])++es.map f) hw (fun ws hws=>by
  rcases PD.mp hws with z|z
  .obtain⟨x,hx,rfl⟩:=Pq.mp z
   exact⟨by simp,fun y hy=>by rw[Pl.mp hy];exact hf x hx⟩
  .obtain⟨e,he,rfl⟩:=Pq.mp z
   exact⟨(h e he).ne,(h e he).sz⟩) (by
  rw[Tj,PN];have:=nP (f:=f) fun e he=>(h e he).ln;rw[rl]
  omega)
 rw[Tj,rl] at j;rw[←j];simp[nl,IG,Function.comp_def]
theorem DU{k m:Nat}{es:List Pa}(h:∀e∈es,SE k m e):∃f:Pa->List Str,∀e∈es,Wd (f e) m/\(∀n T,k<=n->ff n [.d e] T=some (.list (nl (f e)),T))/\∀n T,k<=n->eY n [.d e] T=some (.str (jw (f e)),T):=by
 classical
 refine⟨fun e=>if h':e∈es then (h e h').choose else [],fun e he=>?_⟩;simp only[dif_pos he];exact(h e he).choose_spec
theorem wZ(hs:∀e∈es,SE 1 2 e)(l2:es.length<=2)(hw:w.length<=1100)(hfl:fw.length<=1)(hf:∀x∈fw,x.length<=1100)(hwl:Lw w)(hfl2:∀x∈fw,Lw x)(ix:ixD e0 (.int 0)=some (.str w))
  (h1:∀T,gO [.d e0] T=some (.list (nl fw),T)) (h2:∀T,cW [.d e0] T=some (.list es,T))
  (h3:∀n T ys t,ys.length=es.length->(∀ρ,bD bu (au (eY n) (ae (aa 0) ah)) ρ es T=some (ys,T))->fD (.str " ") (.list (nl (w::fw)++ys))=some (.str t)->eY (n+1) [.d e0] T=some (.str t,T)):SE 2 7 e0:=by
 obtain⟨f,hf'⟩:=DU hs;have fl:=nP (f:=f) (m:=2) fun e he=>(hf' e he).1.ln;refine⟨w::(fw++(es.map f).flatten),⟨by simp,?_,fun x hx=>?_,fun x hx=>?_⟩,fun n T hn=>?_,fun n T hn=>?_⟩
 .rw[PH,PN];omega
 .rcases Pt.mp hx with rfl|hx
  .exact hw
  .exact(PD.mp hx).elim (hf x) (x6 (fun e he=>(hf' e he).1.sz) x)
 .rcases Pt.mp hx with rfl|hx
  .exact hwl
  .exact(PD.mp hx).elim (hfl2 x) (x8 (fun e he=>(hf' e he).1.lw) x)
 .obtain⟨n,rfl⟩:=bj n (by omega)
  obtain⟨o',lp⟩:=rT (M:=ff n) (f:=f) (T:=T) (o0:=some (.d e0)) es (w::fw) none (fun e he=>(hf' e he).2.1 n T (by omega)) (by rw[PH];omega);have s3:fw.length+1<=sizeLine:=cy (by omega);have e1:PV w::nl fw=nl (w::fw):=rfl;rw[Br];simp[ix,h1,h2,gH,jZ,b8,Tr,s3,e1,t5,lp]
 .obtain⟨n,rfl⟩:=bj n (by omega)
  exact h3 n T _ _ (by simp) (fun ρ=>eE (g:=fun e=>.str (jw (f e))) fun e he=>by simp[(hf' e he).2.2 n T (by omega)]) (JB hw hf (fun e he=>(hf' e he).1) (by omega))
theorem SE.up(h:SE k m e)(a:k<=k')(b:m<=m'):SE k' m' e:=by
 obtain⟨ws,w,h1,h2⟩:=h;exact⟨ws,⟨w.ne,PL w.ln b,w.sz,w.lw⟩,fun n T hn=>h1 n T (PL a hn),fun n T hn=>h2 n T (PL a hn)⟩
theorem HD(h:twoW w):¬w="put"/\¬w="got"/\¬w="row"/\(Pc w).length<=1100/\Lw (Pc w):=by rcases h with rfl|rfl|rfl|rfl|rfl <;> exact⟨by decide,by decide,by decide,by decide +kernel,cQ (by decide +kernel)⟩
theorem w4(hw:¬w="put"/\¬w="got"/\¬w="row"/\(Pc w).length<=1100/\Lw (Pc w))(hk:k<=1000)(h:∀e∈es,Ld k e)(l2:es.length<=2):SE 2 7 (.tuple (.str (Pc w)::es)):=by
 obtain⟨n1,n2,n3,n4,n5⟩:=hw
 have ix:∀(a:Pa) (r:List Pa),atI (a::r) 0=some a:=fun a r=>by simp[atI,ixN]
 refine wZ (w:=Pc w) (fw:=[]) (es:=es) (fun e he=>rH (h e he) hk) l2 n4 (by simp) (fun _ z=>nomatch z) n5 (fun _ z=>nomatch z) (ix _ _) (fun T=>?_) (fun T=>?_) (fun n T ys t q hc hj=>?_)
 .simp[gO,ix,n1,n2,n3,nl]
 .simp[cW,ix,n1,n2,n3,jl]
 .have hj':fD (.str " ") (.list (.str (Pc w)::ys))=some (.str t):=hj
  have l:1+ys.length<=sizeLine:=by
   rw[q];exact cy (by omega)
  simp[eY,ix,n1,n2,n3,jl,hc,l,hj']
theorem HR(hk:k<=1000)(h:∀e∈es,Ld k e)(l2:es.length<=2):SE 2 7 (exR es):=by
 obtain⟨t0,z,st,zl⟩:=zh (i:=es.length) (by omega) (by omega);refine wZ (w:=Pc "row") (fw:=[t0]) (es:=es) (fun e he=>rH (h e he) hk) l2 (by decide +kernel) (by simp) (fun x hx=>by rw[Pl.mp hx];omega) (cQ (by decide +kernel)) (fun x hx=>by rw[Pl.mp hx];exact zl) rfl (fun T=>?_) (fun T=>?_) (fun n T ys t q hc hj=>?_)
 .simp[gO,exR,st,nl]
 .simp[cW,exR]
 .have hj':fD (.str " ") (.list (.str "row"::.str t0::ys))=some (.str t):=hj
  have l:ys.length+1+1<=sizeLine:=by
   rw[q];exact cy (by omega)
  have l1:1<sizeLine:=by decide
  simp[eY,exR,st,hc,l1,hj',Tr,X3];simp[Tr,X3] at l;exact fun z=>absurd l (by omega)
theorem rJ(h:Xd k e)(hk:k<=1000):SE 2 7 e:=by
 cases h with
 |lf h=>exact(rH h hk).up (by omega) (by omega)
 |two hw ha hb=>
  refine w4 (HD hw) hk (fun e he=>?_) (by simp)
  rcases Pt.mp he with rfl|he
  .exact ha
  .rw[Pl.mp he];exact hb
 |row l h=>exact HR hk h l
 |many h=>exact w4 (w:="many") ⟨by decide,by decide,by decide,by decide +kernel,cQ (by decide +kernel)⟩ hk (fun e he=>by rw[Pl.mp he];exact h) (by simp)
theorem Bb:cL (a::b::r) (some 2) none=r:=by
 have e:HT.sIx (a::b::r).length 0 (some 2)=2:=by
  have:=HT.w6 (a::b::r).length 0 2;rw[show ((2:Nat):Int)=2 from rfl] at this;rw[this];simp
 have e2:HT.sIx (a::b::r).length (a::b::r).length none=(a::b::r).length:=rfl;unfold cL;rw[e,e2];simp
def SR(h:Nat)(r:Pa):Prop:=∃ws,Wd ws (8*2^(h+1)-8)/\(∀n T,h<n->gj n [.d r] T=some (.list (nl ws),T))/\∀n T,h<n->fg n [.d r] T=some (.str (jw ws),T)
theorem DR{h:Nat}{es:List Pa}(hs:∀e∈es,SR h e):∃f:Pa->List Str,∀e∈es,Wd (f e) (8*2^(h+1)-8)/\(∀n T,h<n->gj n [.d e] T=some (.list (nl (f e)),T))/\∀n T,h<n->fg n [.d e] T=some (.str (jw (f e)),T):=by
 classical
 refine⟨fun e=>if h':e∈es then (hs e h').choose else [],fun e he=>?_⟩;simp only[dif_pos he];exact(hs e he).choose_spec
theorem Au{α:Type}{a:α}{r:List α}:atI (a::r) 0=some a:=by simp[atI,ixN]
theorem Ar{α:Type}{a b:α}{r:List α}:atI (a::b::r) 1=some b:=by
 unfold atI ixN;rw[if_pos (by decide),if_pos (by simp;omega)];rfl
theorem rG(hw:¬w="fail")(hl:(Pc w).length<=1100)(hlw:Lw (Pc w))(he:SE 2 7 e)(hp:∀p∈ps,SR h p)(l2:ps.length<=2)(h6:h<=6)(hj:ps=[]\/h+1<=j):SR j (.tuple (.str (Pc w)::e::ps)):=by
 obtain⟨f,hf⟩:=DR hp;obtain⟨we,wd,e1,e2⟩:=he;have fl:=nP (f:=f) fun e he=>(hf e he).1.ln;have pw:2^(h+1)<=128:=PL (R9 (by decide) (by omega:h+1<=7)) (by decide)
 have pj:(ps.map f).flatten.length+8<=8*2^(j+1)-8:=by
  rcases hj with rfl|hj
  .have:2^1<=2^(j+1):=R9 (by decide) (by omega)
   simp;omega
  .have p1:2^(h+1+1)<=2^(j+1):=R9 (by decide) (by omega)
   rw[Nat.pow_succ] at p1;have p2:(8*2^(h+1)-8)*ps.length<=(8*2^(h+1)-8)*2:=VL _ l2;have p3:1<=2^(h+1):=Nat.one_le_two_pow;omega
 have big:(8*2^(h+1)-8)*ps.length<=2100:=PL (VL _ l2) (by omega);have wl:=wd.ln;refine⟨Pc w::(we++(ps.map f).flatten),⟨by simp,?_,fun x hx=>?_,fun x hx=>?_⟩,fun n T hn=>?_,fun n T hn=>?_⟩
 .rw[PH,PN];omega
 .rcases Pt.mp hx with rfl|hx
  .exact hl
  .exact(PD.mp hx).elim (wd.sz x) (x6 (fun e he=>(hf e he).1.sz) x)
 .rcases Pt.mp hx with rfl|hx
  .exact hlw
  .exact(PD.mp hx).elim (wd.lw x) (x8 (fun e he=>(hf e he).1.lw) x)
 .obtain⟨n,rfl⟩:=bj n (by omega)
  obtain⟨o',lp⟩:=rT (M:=gj n) (f:=f) (T:=T) (o0:=some (.d (.tuple (.str (Pc w)::e::ps)))) ps (Pc w::we) none (fun p hp'=>(hf p hp').2.1 n T (by
   rcases hj with rfl|hj
   .cases hp'
   .omega)) (by rw[PH];omega)
  have s3:we.length+1<=sizeLine:=cy (by omega);have q:PV (Pc w)::nl we=nl (Pc w::we):=rfl;have ew:=fun T=>e1 25 T (by decide);rw[Bn];simp[Au,Ar,hw,ew,Bb,gH,jZ,b8,Tr,s3,q,tY,lp]
 .obtain⟨n,rfl⟩:=bj n (by omega)
  have ew:=fun T=>e2 25 T (by decide)
  have hc:∀ρ,bD bu (au (fg n) (ae (aa 0) ah)) ρ ps T=some (ps.map fun p=>.str (jw (f p)),T):=fun ρ=>eE (g:=fun p=>.str (jw (f p))) fun p hp'=>by
   have:=(hf p hp').2.2 n T (by
    rcases hj with rfl|hj
    .cases hp'
    .omega)
   simp[this]
  have J:=JA (x:=Pc w) (wss:=we::ps.map f) hl (fun ws hws=>by
   rcases Pt.mp hws with rfl|z
   .exact⟨wd.ne,wd.sz⟩
   .obtain⟨p,hp',rfl⟩:=Pq.mp z
    exact⟨(hf p hp').1.ne,(hf p hp').1.sz⟩) (by rw[Qe,PN];omega)
  rw[Pz,Rl] at J;have J':fD (.str " ") (.list (.str (Pc w)::.str (jw we)::ps.map fun p=>.str (jw (f p))))=some (.str (jw (Pc w::(we++(ps.map f).flatten)))):=J;have l:ps.length+2<=sizeLine:=cy (by omega)
  have l':2+ps.length<=sizeLine:=by omega
  simp[fg,Au,Ar,hw,ew,Bb,hc,l',J']
theorem JM(x:RC h k c r):h<=6->k+h<=1000->SR h r:=by
 induction x with
 |say _ he=>exact fun a b=>rG (w:="say") (h:=0) (ps:=[]) (by decide) (by decide +kernel) (cQ (by decide +kernel)) (rJ he (by omega)) (fun _ z=>nomatch z) (by simp) (by omega) (.inl rfl)
 |@fail h k c w _ hw=>
  intro a b;have z:w.length<=8:=hw.1;have p:2^1<=2^(h+1):=R9 (by decide) (by omega);refine⟨[Pc "fail",w],⟨by simp,by simp;omega,fun x hx=>?_,fun x hx=>?_⟩,fun n T hn=>?_,fun n T hn=>?_⟩
  .simp at hx
   rcases hx with rfl|rfl
   .decide +kernel
   .omega
  .simp at hx
   rcases hx with rfl|rfl
   .exact cQ (by decide +kernel)
   .exact eO hw.isNm
  .obtain⟨n,rfl⟩:=bj n (by omega)
   simp[gj,l9,nl]
  .obtain⟨n,rfl⟩:=bj n (by omega)
   have l5:(Pc "fail ").length=5:=by decide +kernel
   have l:(Pc "fail ").length+w.length<=sizeLine:=cy (by omega);simp[fg,l9,l,sU (w:=Pc "fail") (p:=Pc "fail ") (by decide +kernel)]
 |@want h k c c' b e r _ he _ ih=>
  intro a b';refine rG (h:=h) (ps:=[r]) ?_ ?_ ?_ (rJ he (by omega)) (fun p hp=>by rw[Pl.mp hp];exact ih (by omega) (by omega)) (by simp) (by omega) (.inr (Pm _))
  .cases b <;> decide
  .cases b <;> decide +kernel
  .cases b <;> exact cQ (by decide +kernel)
 |@when h k c c1 c2 e p q _ he _ _ ih1 ih2=>
  intro a b;refine rG (w:="when") (h:=h) (ps:=[p,q]) (by decide) (by decide +kernel) (cQ (by decide +kernel)) (rJ he (by omega)) (fun x hx=>?_) (by simp) (by omega) (.inr (Pm _))
  rcases Pt.mp hx with rfl|hx
  .exact ih1 (by omega) (by omega)
  .rw[Pl.mp hx];exact ih2 (by omega) (by omega)
theorem Kv(h:∀w∈ws,Lw w):Lw (jw ws):=fun c hc=>by
 rw[jd] at hc
 rcases uB hc with z|⟨x,hx,z⟩
 .have:=Pl.mp z;omega
 .obtain⟨w,hw,rfl⟩:=Pq.mp hx
  exact h w hw c z
theorem yB(x:RC 5 k c r)(hk:k<=900):∃t,Lw t/\(∀T,jn [.d r] T=some (.str t,T))/\∀T,fg 25 [.d r] T=some (.str t,T):=by
 obtain⟨ws,wd,h1,h2⟩:=JM x (by decide) (by omega);refine⟨jw ws,Kv wd.lw,fun T=>?_,fun T=>h2 25 T (by decide)⟩;have hl:=wd.ln
 obtain⟨w,fw,rfl⟩:∃w fw,ws=w::fw:=by
  cases ws with
  |nil=>exact absurd rfl wd.ne
  |cons a r=>exact⟨a,r,rfl⟩
 have J:=JB (α:=Pa) (f:=fun _=>[]) (es:=[]) (m:=0) (wd.sz w Pi) (fun y hy=>wd.sz y (Pg _ hy)) (fun _ z=>nomatch z) (by simp at hl;simp;omega);simp at J;simp[jn,h1 25 T (by decide),J]
open K1 (isName aH)
abbrev Dl:=List (Str×Pa)
def ky(l:Dl):List Str:=l.map (·.1)
theorem dR(s:Str):∀l:Dl,ay (aI l) s=l.lookup s
 |[]=>rfl
 |(k,d)::r=>by
  have ih:=dR s r;show (if k=s then some d else ay (aI r) s)=_;rw[Qi,ih]
  by_cases h:k=s
  .subst h;simp
  .have h':(s == k)=false:=beq_eq_false_iff_ne.mpr fun z=>h z.symm
   rw[if_neg h,h']
theorem lc:∀{l:Dl},l.lookup s=some d->(s,d)∈l
 |[],h=>nomatch h
 |(k,e)::r,h=>by
  rw[Qi] at h
  by_cases hk:s=k
  .subst hk
   simp at h;subst h;exact Pi
  .have h':(s == k)=false:=beq_eq_false_iff_ne.mpr hk
   rw[h'] at h;exact Pg _ (lc h)
theorem qF:∀{l:Dl},s∈ky l->∃d,l.lookup s=some d
 |[],h=>nomatch h
 |(k,e)::r,h=>by
  rw[Qi]
  by_cases hk:s=k
  .subst hk;exact⟨e,by simp⟩
  .have h':(s == k)=false:=beq_eq_false_iff_ne.mpr hk
   rw[h']
   exact qF (by
    rcases Pt.mp h with z|z
    .exact absurd z hk
    .exact z)
theorem xQ(h:l.lookup s=some d):s∈ky l:=Pq.mpr ⟨_,lc h,rfl⟩
theorem v7:(l.lookup s).isSome=decide (s∈ky l):=by
 by_cases h:s∈ky l
 .obtain⟨d,e⟩:=qF h
  rw[e,decide_eq_true h];rfl
 .rw[decide_eq_false h]
  cases e:l.lookup s with
  |none=>rfl
  |some d=>exact absurd (xQ e) h
theorem lB:∀{l:Dl},(ky l).Nodup->(s,d)∈l->l.lookup s=some d
 |[],_,h=>nomatch h
 |(k,e)::r,nd,h=>by
  have nd':k∉ky r/\(ky r).Nodup:=Q3.mp nd;rw[Qi]
  rcases Pt.mp h with z|z
  .cases z;simp
  .have hk:s∈ky r:=Pq.mpr ⟨_,z,rfl⟩
   have h':(s == k)=false:=beq_eq_false_iff_ne.mpr fun q=>nd'.1 (q ▸ hk);rw[h'];exact lB nd'.2 z
theorem xg(s:Str)(x:Pa):∀l:Dl,bT (aI l) s x=aI (l.map fun p=>if p.1=s then (p.1,x) else p)
 |[]=>rfl
 |(k,d)::r=>by
  have ih:=xg s x r;show (if k=s then (PV k,x)::bT (aI r) s x else (PV k,d)::bT (aI r) s x)=_;rw[ih,Pz]
  by_cases h:k=s
  .simp[h,aI]
  .simp[h,aI]
noncomputable def putL(l:Dl)(s:Str)(x:Pa):Dl:=if s∈ky l then l.map fun p=>if p.1=s then (p.1,x) else p else l++[(s,x)]
theorem lI(l:Dl)(s:Str)(x:Pa):putN (aI l) s x=aI (putL l s x):=by
 unfold putN putL;rw[dR,v7]
 by_cases h:s∈ky l
 .rw[decide_eq_true h,if_pos rfl,if_pos h,xg]
 .rw[decide_eq_false h,if_neg (by decide),if_neg h]
  simp[aI]
theorem oG(l:Dl)(s:Str)(x:Pa):ky (putL l s x)=if s∈ky l then ky l else ky l++[s]:=by
 unfold putL
 by_cases h:s∈ky l
 .rw[if_pos h,if_pos h]
  unfold ky;rw[Rl];refine QO fun p _=>?_;simp only[X2]
  split <;> rfl
 .rw[if_neg h,if_neg h]
  simp[ky]
theorem xh(h:p∈putL l s x):p∈l\/p=(s,x):=by
 unfold putL at h;split at h
 .obtain⟨q,hq,e⟩:=Pq.mp h
  split at e
  .rename_i z
   exact .inr (by rw[←e,z])
  .exact .inl (e ▸ hq)
 .rcases PD.mp h with z|z
  .exact .inl z
  .exact .inr (by simpa using z)
structure Dq(P:Pa->Prop)(K:List Str)(l:Dl):Prop where
 nd:(ky l).Nodup
 ok:∀p∈l,P p.2/\p.1∈K
theorem Dq.nil{P:Pa->Prop}{K:List Str}:Dq P K []:=⟨by simp[ky],fun _ h=>nomatch h⟩
theorem Dq.put{P:Pa->Prop}{K:List Str}{l:Dl}(h:Dq P K l){s:Str}{x:Pa}(hx:P x)(hs:s∈K):Dq P K (putL l s x):=by
 refine⟨?_,fun p hp=>?_⟩
 .rw[oG]
  split
  .exact h.nd
  .rename_i z
   rw[Qz];exact⟨h.nd,by simp,fun a ha b hb=>by simp at hb;subst hb;exact fun q=>z (q ▸ ha)⟩
 .rcases xh hp with z|rfl
  .exact h.ok p z
  .exact⟨hx,hs⟩
theorem Dq.look{P:Pa->Prop}{K:List Str}{l:Dl}(h:Dq P K l){s:Str}{x:Pa}(e:l.lookup s=some x):P x:=(h.ok _ (lc e)).1
theorem sZ{α:Type}[DecidableEq α]{L N:List α}(nd:L.Nodup)(h:∀x∈L,x∈N):L.length<=N.length:=by
 apply Ww;intro z;obtain⟨x,hx,nx⟩:=sH nd z;exact nx (h x hx)
theorem Dq.len{P:Pa->Prop}{K:List Str}{l:Dl}(h:Dq P K l):l.length<=K.length:=by
 have:=sZ h.nd (N:=K) fun x hx=>by
  obtain⟨p,hp,rfl⟩:=Pq.mp hx;exact(h.ok p hp).2
 simpa[ky] using this
theorem gZ(l:Dl):(aI l).length=l.length:=by simp[aI]
@[simp] theorem wg:jU i m g fr ρ T=bnd (g ρ T) fun ws T1=>bnd (m ws T1) (oK i fr ρ):=rfl
theorem vZ{i:Nat}{fr:FS}{ρ ρ':Rho}{xs xs':List Pa}{fl:Fl}(h:fr (ρ.set i (some (.tp 0))) [xs]=some ((fl,ρ'),[xs'])):oK i fr ρ (.list xs) []=some ((fl,kg 0 ρ'),[]):=by
 show lA 0 (fr (ρ.set i (some (.tp 0))) [xs])=_;rw[h];rfl
def pr(p:Str×Pa):PyData:=.tuple [.str p.1,p.2]
theorem xn:∀l:Dl,iQ (l.map pr)=some l
 |[]=>rfl
 |(s,d)::r=>by
  have ih:=xn r;show (match pairD (pr (s,d)) with|some p=>(match iQ (r.map pr) with|some ps=>some (p::ps)|none=>none)|none=>none)=_;rw[ih];rfl
theorem nv(l:Dl):(aI l).map (·.1)=nl (ky l):=by
 unfold aI nl ky;rw[Rl,Rl];rfl
theorem wI(hc:∀s,c (some (.d (.str s))::ρ) T=some (!decide (s=y),T))(he:∀s d,(s,d)∈l->e (some (.d (.str s))::ρ) T=some (.d (.tuple [.str s,d]),T)):bD c e ρ (nl (ky l)) T=some ((l.filter fun p=>!decide (p.1=y)).map pr,T):=by
 induction l with
 |nil=>rfl
 |cons p r ih=>
  obtain⟨s,d⟩:=p;have ih':=ih fun s d h=>he s d (Pg _ h);have h1:=hc s;have h2:=he s d Pi;show bD c e ρ (.str s::nl (ky r)) T=_;unfold bD;rw[h1]
  by_cases hs:s=y
  .simp[hs,ih']
  .simp[hs,h2,ih',pr]
theorem Dq.drop{P:Pa->Prop}{K:List Str}{l:Dl}(h:Dq P K l)(f:Str×Pa->Bool):Dq P K (l.filter f):=by
 refine⟨?_,fun p hp=>h.ok p (Rf.mp hp).1⟩;exact V2 (YH _ List.filter_sublist) h.nd
theorem kX(h1:g1 ρ []=some (ws,[]))(h2:mh ws []=some (.list xs,[]))(h3:g2 ρ []=some (ws2,[]))(h4:cC ws2=true)(h5:mf (.tp 0::ws2) [xs]=some (y,[xs'])):cq mf mh g1 g2 ρ []=some (.d y,[]):=by
 unfold cq;rw[h1,fV,h2,fV];show bnd (g2 ρ []) (lK mf xs)=_;rw[h3,fV];unfold lK;rw[if_pos h4];show sS 0 (mf (.tp 0::ws2) [xs])=_;rw[h5];rfl
theorem jm{α:Type}{a b:α}:atI [a,b] 0=some a/\atI [a,b] 1=some b:=⟨rfl,rfl⟩
def fzO(o:Option W):Option W:=(bX [o]).headD none
theorem lE:bX (o::r)=fzO o::bX r:=rfl
@[simp] theorem Oo:fzO none=none:=rfl
@[simp] theorem Os:fzO (some (.d x))=some (.d x):=rfl
@[simp] theorem On:fzO (some (.tp i))=some (.tp i):=rfl
@[simp] theorem Oq:fzO (some (.loc x))=some (.d x):=rfl
@[simp] theorem Nr:ij f ρ T=bnd (f ρ T) fun w T1=>pV (jk (view T1 w)) T1:=rfl
@[simp] theorem Mi:pV (some ds) T=some (.d (.dict ds),T):=rfl
@[simp] theorem Me:Ko [.dict ds]=some (.list (Ad ds)):=rfl
theorem zo{I:Nat->Rho->Tp->Prop}:∀(ds:List Pa) (k:Nat) (ρ:Rho) (T:Tp),I k ρ T ->
  (∀j d ρ T,ds[j]? = some d->I (k+j) ρ T->∃ρ' T',body (ρ.set i (some (.d d))) T=some ((.nx,ρ'),T')/\I (k+j+1) ρ' T')->∃ρ' T',forL i body ds ρ T=some ((.nx,ρ'),T')/\I (k+ds.length) ρ' T'
 |[],k,ρ,T,h,_=>⟨ρ,T,rfl,h⟩
 |d::r,k,ρ,T,h,hs=>by
  obtain⟨ρ1,T1,e1,h1⟩:=hs 0 d ρ T rfl h
  obtain⟨ρ2,T2,e2,h2⟩:=zo (body:=body) (I:=I) r (k+1) ρ1 T1 h1 fun j d ρ T hd hI=>by
   rw[show k+1+j=k+(j+1) by omega] at hI ⊢;exact hs (j+1) d ρ T (by simpa using hd) hI
  refine⟨ρ2,T2,?_,by rw[PH,show k+(r.length+1)=k+1+r.length by omega];exact h2⟩;unfold forL;rw[e1];exact e2
theorem Gj(h:(cP 0 n)[j]? = some d):d=.int (j:Int)/\j<n:=by
 unfold cP at h;rw[Qd] at h
 by_cases hj:j<n
 .rw[List.getElem?_range hj] at h
  simp at h;exact⟨h.symm,hj⟩
 .rw[SV (by simp;omega)] at h
  cases h
structure Bd(l:List Str)(d0 r0:Dl):Prop where
 t:Dq (fun v=>aH v=true) l d0
 m:Dq (RC 5 0 60) l r0
 no:∀s∈ky d0,s∉ky r0
def bkL(d0 r0:Dl):PyData:=.tuple [.dict (aI d0),.dict (aI r0)]
def scr(ns:List Int):PyData:=.list (ns.map RH)
theorem Dq.up{P:Pa->Prop}{K L:List Str}{l:Dl}(h:Dq P K l)(s:∀x∈K,x∈L):Dq P L l:=⟨h.nd,fun p hp=>⟨(h.ok p hp).1,s _ (h.ok p hp).2⟩⟩
theorem Bd.up{K L:List Str}{d0 r0:Dl}(h:Bd K d0 r0)(s:∀x∈K,x∈L):Bd L d0 r0:=⟨h.t.up s,h.m.up s,h.no⟩
theorem Dq.out{P:Pa->Prop}{K:List Str}{l:Dl}(h:Dq P K l){y:Str}(hy:y∉K):y∉ky l:=fun z=>by
 obtain⟨p,hp,rfl⟩:=Pq.mp z;exact hy (h.ok p hp).2
theorem y0:ky (l++[(s,x)])=ky l++[s]:=by simp[ky]
theorem Dq.add{P:Pa->Prop}{K:List Str}{l:Dl}(h:Dq P K l){s:Str}{x:Pa}(hx:P x)(hs:s∈K)(ho:s∉ky l):Dq P K (l++[(s,x)]):=by
 have:=h.put hx hs;unfold putL at this
 rwa [if_neg ho] at this
theorem xi(ho:s∉ky l):putN (aI l) s x=aI (l++[(s,x)]):=by
 rw[lI];unfold putL;rw[if_neg ho]
theorem Bd.addT{K:List Str}{d0 r0:Dl}(h:Bd K d0 r0){y:Str}{v:Pa}(hv:aH v=true)(hy:y∈K)(o1:y∉ky d0)(o2:y∉ky r0):Bd K (d0++[(y,v)]) r0:=⟨h.t.add hv hy o1,h.m,fun s hs=>by
 rw[y0] at hs
 rcases PD.mp hs with z|z
 .exact h.no s z
 .rw[Pl.mp z];exact o2⟩
theorem Bd.addM{K:List Str}{d0 r0:Dl}(h:Bd K d0 r0){y:Str}{v:Pa}(hv:RC 5 0 60 v)(hy:y∈K)(o1:y∉ky d0)(o2:y∉ky r0):Bd K d0 (r0++[(y,v)]):=⟨h.t,h.m.add hv hy o2,fun s hs z=>by
 rw[y0] at z
 rcases PD.mp z with z|z
 .exact h.no s hs z
 .rw[Pl.mp z] at hs;exact o1 hs⟩
section
variable {l:List Str}(hn:Ns l)(h0:0<l.length)(h1:l.length<=20)
include hn h0 h1 in
theorem Hd{K:List Str}(hKl:K.length<=20)(hb:Bd K d0 r0)(hy:y∈K)(o1:y∉ky d0)(o2:y∉ky r0)(hf:Fr xs)(ey:atI (nl l) j=some (.str y)) :
  ∃d1 r1 w xs',jx [some (.d sc),some (.d ba),some (.d (.list (nl l))),some (.d (.bool pk)),some (.loc (.dict (aI d0))),some (.loc (.dict (aI r0))),some (.d (.int j)),some (.tp 0),o8] [xs]=some ((.nx,[some (.d sc),some (.d ba),some (.d (.list (nl l))),some (.d (.bool pk)),some (.loc (.dict (aI d1))),some (.loc (.dict (aI r1))),some (.d (.int j)),some (.tp 0),some (.d (.int w))]),[xs'])/\Bd K d1 r1:=by
 obtain⟨w,x1,e1,f1,w0,w1⟩:=bG hf (m:=8) (by decide) (by decide)
 have z1:(aI d0).length<=1000:=by rw[gZ];have:=hb.1.len;omega
 have z2:(aI r0).length<=1000:=by rw[gZ];have:=hb.2.len;omega
 by_cases h2:w<2
 .obtain⟨v,x2,e2,hv,f2⟩:=lO f1 hn h0 h1
  exact⟨d0++[(y,v)],r0,w,x2,by simp[jx,e1,h2,e2,ey,z1,xi o1],hb.addT hv hy o1 o2⟩
 .by_cases h7:w<7
  .obtain⟨r,x2,e2,hr,f2⟩:=zJ hn h0 h1 f1 pk
   exact⟨d0,r0++[(y,r)],w,x2,by simp[jx,e1,h2,h7,e2,ey,z2,xi o2],hb.addM hr hy o1 o2⟩
  .exact⟨d0,r0,w,x1,by simp[jx,e1,h2,h7],hb⟩
include hn h0 h1 in
theorem JD(nd:l.Nodup)(ns:List Int)(hba:0<=ba)(pk:Bool):∃d0 r0,kH [.d (scr ns),.d (.int ba),.d (.list (nl l)),.d (.bool pk)] []=some (bkL d0 r0,[])/\Bd l d0 r0:=by
 have lp:=zo (i:=6) (body:=qK) (I:=fun k ρ T=>∃d0 r0 o6 w8,ρ=[some (.d (scr ns)),some (.d (.int ba)),some (.d (.list (nl l))),some (.d (.bool pk)),some (.loc (.dict (aI d0))),some (.loc (.dict (aI r0))),o6,none,w8]/\T=[]/\Bd (l.take k) d0 r0)
  (cP 0 l.length) 0 [some (.d (scr ns)),some (.d (.int ba)),some (.d (.list (nl l))),some (.d (.bool pk)),some (.loc (.dict [])),some (.loc (.dict [])),none,none,none] [] ⟨[],[],none,none,rfl,rfl,.nil,.nil,fun _ h=>nomatch h⟩ (fun j d ρ T hd hI=>by
   obtain⟨d0,r0,o6,w8,rfl,rfl,hb⟩:=hI;obtain⟨rfl,hj⟩:=Gj hd;rw[Yr] at hb ⊢;obtain⟨xs,hf,ef⟩:=i5 ns (ba+j) (by omega);have tk:l.take (j+1)=l.take j++[l[j]]:=List.take_succ_eq_append_getElem hj
   have ny:l[j]∉l.take j:=by
    have nd2:(l.take (j+1)).Nodup:=V2 (V4 _ _) nd;rw[tk,Qz] at nd2;exact fun z=>nd2.2.2 _ z _ (Pl.mpr rfl) rfl
   have ey:atI (nl l) (j:Int)=some (.str l[j]):=by
    have:(nl l)[j]? = some (.str l[j]):=by simp[nl,hj]
    exact Hf this
   have hb':Bd (l.take (j+1)) d0 r0:=hb.up fun x hx=>by rw[tk];exact QG _ hx
   obtain⟨d1,r1,w,xs',e,hb2⟩:=Hd hn h0 h1 (by rw[Q4];omega) hb' (by rw[tk];exact P5 _ (Pl.mpr rfl)) (hb.t.out ny) (hb.m.out ny) hf (sc:=scr ns) (ba:=.int ba) (pk:=pk) ey (o8:=w8);refine⟨[some (.d (scr ns)),some (.d (.int ba)),some (.d (.list (nl l))),some (.d (.bool pk)),some (.loc (.dict (aI d1))),some (.loc (.dict (aI r1))),some (.d (.int j)),none,some (.d (.int w))],[],?_,d1,r1,_,_,rfl,rfl,hb2⟩;have oo:=vZ (i:=7) (fr:=jx) (ρ:=[some (.d (scr ns)),some (.d (.int ba)),some (.d (.list (nl l))),some (.d (.bool pk)),some (.loc (.dict (aI d0))),some (.loc (.dict (aI r0))),some (.d (.int j)),none,w8]) e;have ef':=ef [];unfold qK;unfold scr at ef' oo ⊢;simp only[wg,Sv,Sw,nY,nX,nW,nV,nU,rX,rW,rV,fV,nA,pf,nZ,oZ,yb,pd,pb,ef',oo]
   rfl)
 obtain⟨ρ',T',e,d0,r0,o6,w8,rfl,rfl,hb⟩:=lp;rw[kY,Yr,List.take_length] at hb;refine⟨d0,r0,?_,hb⟩;have ro:fX (l.length:Int)=true:=rng_ok (by omega) (by omega)
 have tn:((l.length:Int)).toNat=l.length:=by omega
 rw[Dj];simp[b8,ro,tn];rw[e];simp[bkL,lE]
end
theorem vR(h:fe ρ T=some (.d (.list (l.map pr)),T))(nd:(ky l).Nodup)(hl:l.length<=1000):lM i fe ρ T=some ((.nx,ρ.set i (some (.loc (.dict (aI l))))),T):=by
 unfold lM;rw[h];show oB i ρ T (iQ (l.map pr))=_;rw[xn]
 have:tM l=true:=by
  unfold tM;have nd':(l.map fun x=>x.1).Nodup:=nd;rw[decide_eq_true nd',decide_eq_true hl];rfl
 unfold oB;dsimp only;rw[if_pos this]
section
variable {l:List Str}(hn:Ns l)(h0:0<l.length)(h1:l.length<=20)
include hn h0 h1 in
theorem Fp(hb:Bd l d0 r0)(hf:Fr xs)(pk:Bool):∃d1 r1 xs',jp [.tp 0,.d (bkL d0 r0),.d (.list (nl l)),.d (.bool pk)] [xs]=some (bkL d1 r1,[xs'])/\Bd l d1 r1:=by
 obtain⟨y,x1,r,e1,ey,my,f1⟩:=pE hn h0 h1 hf;obtain⟨w,x2,e2,f2,w0,w1⟩:=bG f1 (m:=5) (by decide) (by decide)
 let d1:=d0.filter fun p=>!decide (p.1=y)
 let r1:=r0.filter fun p=>!decide (p.1=y)
 have hd1:Dq (fun v=>aH v=true) l d1:=hb.t.drop _;have hr1:Dq (RC 5 0 60) l r1:=hb.m.drop _
 have mem1:∀{m:Dl}{s:Str},s∈ky (m.filter fun p=>!decide (p.1=y))->s∈ky m/\s≠y:=fun hs=>by
  obtain⟨q,hq,rfl⟩:=Pq.mp hs;obtain⟨q1,q2⟩:=Rf.mp hq;exact⟨Pq.mpr ⟨q,q1,rfl⟩,by simpa using q2⟩
 have hn1:∀s∈ky d1,s∉ky r1:=fun s hs z=>hb.no s (mem1 hs).1 (mem1 z).1
 have z1:d1.length<=1000:=by have:=hd1.len;omega
 have z2:r1.length<=1000:=by have:=hr1.len;omega
 have s1:aF 4 (af ixD (aa 2) (au aS (ae (aa 0) (ae (fCB bb (ae (aa 2) ah)) ah)))) [some (.tp 0),some (.d (bkL d0 r0)),some (.d (.list (nl l))),some (.d (.bool pk)),none,none,none,none] [xs]=some ((.nx,[some (.tp 0),some (.d (bkL d0 r0)),some (.d (.list (nl l))),some (.d (.bool pk)),some (.d (.str y)),none,none,none]),[x1]):=by
  simp[b8,e1,ey]
 have s2:=vR (i:=5) (fe:=bC (bf (af ixD (aa 1) (fC (.int 0)))) (av (af neD (aa 0) (aa 5))) (aA .tuple (ae (aa 0) (ae (af ixA (af ixD (aa 2) (fC (.int 0))) (aa 0)) ah)))) (ρ:=[some (.tp 0),some (.d (bkL d0 r0)),some (.d (.list (nl l))),some (.d (.bool pk)),some (.d (.str y)),none,none,none]) (T:=[x1]) (l:=d1) (by
  have c:=wI (c:=av (af neD (aa 0) (aa 5))) (e:=aA .tuple (ae (aa 0) (ae (af ixA (af ixD (aa 2) (fC (.int 0))) (aa 0)) ah))) (ρ:=[some (.tp 0),some (.d (bkL d0 r0)),some (.d (.list (nl l))),some (.d (.bool pk)),some (.d (.str y)),none,none,none]) (T:=[x1]) (y:=y) (l:=d0) (fun s=>by simp) (fun s d hm=>by
   have k:=lB hb.t.nd hm
   simp[bkL,jm,dR,k])
  unfold bkL at c ⊢;simp[jm,nv,c]
  rfl) hd1.nd z1
 have s3:=vR (i:=6) (fe:=bC (bf (af ixD (aa 1) (fC (.int 1)))) (av (af neD (aa 0) (aa 5))) (aA .tuple (ae (aa 0) (ae (af ixA (af ixD (aa 2) (fC (.int 1))) (aa 0)) ah)))) (ρ:=[some (.tp 0),some (.d (bkL d0 r0)),some (.d (.list (nl l))),some (.d (.bool pk)),some (.d (.str y)),some (.loc (.dict (aI d1))),none,none]) (T:=[x1]) (l:=r1) (by
  have c:=wI (c:=av (af neD (aa 0) (aa 5))) (e:=aA .tuple (ae (aa 0) (ae (af ixA (af ixD (aa 2) (fC (.int 1))) (aa 0)) ah))) (ρ:=[some (.tp 0),some (.d (bkL d0 r0)),some (.d (.list (nl l))),some (.d (.bool pk)),some (.d (.str y)),some (.loc (.dict (aI d1))),none,none]) (T:=[x1]) (y:=y) (l:=r0) (fun s=>by simp) (fun s d hm=>by
   have k:=lB hb.m.nd hm
   simp[bkL,jm,dR,k])
  unfold bkL at c ⊢;simp[jm,nv,c]
  rfl) hr1.nd z2
 have s4:aF 7 (au aS (ae (aa 0) (ae (fC (.int 5)) ah))) [some (.tp 0),some (.d (bkL d0 r0)),some (.d (.list (nl l))),some (.d (.bool pk)),some (.d (.str y)),some (.loc (.dict (aI d1))),some (.loc (.dict (aI r1))),none] [x1]=some ((.nx,[some (.tp 0),some (.d (bkL d0 r0)),some (.d (.list (nl l))),some (.d (.bool pk)),some (.d (.str y)),some (.loc (.dict (aI d1))),some (.loc (.dict (aI r1))),some (.d (.int w))]),[x2]):=by simp[e2]
 have y1:(aI d1).length<=1000:=by rw[gZ];exact z1
 have y2:(aI r1).length<=1000:=by rw[gZ];exact z2
 unfold jp;rw[mi];simp only[vp,kQ,kR,if_true];show ∃d1 r1 xs',df (ak _ _ [some (.tp 0),some (.d (bkL d0 r0)),some (.d (.list (nl l))),some (.d (.bool pk)),none,none,none,none] [xs])=_/\_;rw[a9 s1,a9 s2];simp only[Sv,Sw];rw[a9 s3];simp only[Sv,Sw];rw[a9 s4]
 by_cases h2:w<2
 .obtain⟨v,x3,e3,hv,f3⟩:=lO f2 hn h0 h1
  refine⟨putL d1 y v,r1,x3,by simp[h2,e3,y1,lI,bkL,lE],hd1.put hv my,hr1,fun s hs z=>?_⟩;rw[oG] at hs;split at hs
  .exact hn1 s hs z
  .rcases PD.mp hs with q|q
   .exact hn1 s q z
   .exact(mem1 z).2 (Pl.mp q)
 .by_cases h4:w<4
  .obtain⟨r,x3,e3,hr,f3⟩:=zJ hn h0 h1 f2 pk
   refine⟨d1,putL r1 y r,x3,by simp[h2,h4,e3,y2,lI,bkL,lE],hd1,hr1.put hr my,fun s hs z=>?_⟩;rw[oG] at z;split at z
   .exact hn1 s hs z
   .rcases PD.mp z with q|q
    .exact hn1 s hs q
    .exact(mem1 hs).2 (Pl.mp q)
  .exact⟨d1,r1,x2,by simp[h2,h4,bkL,lE],hd1,hr1,fun s hs z=>hn1 s hs z⟩
end
theorem yp(h:q∈aI l):∃s v,q=(.str s,v)/\(s,v)∈l:=by
 obtain⟨p,hp,rfl⟩:=Pq.mp h;exact⟨p.1,p.2,rfl,hp⟩
theorem sY(h:l.Nodup):(nl l).Nodup:=YG _ (fun a b n e=>n (by cases e;rfl)) h
theorem Bd.bk(h1:l.length<=20)(h:Bd l d0 r0):Bk true 7 (aI d0) (aI r0):=by
 refine⟨fun q hq=>?_,fun q hq=>?_,?_,?_,by decide⟩
 .obtain⟨s,v,rfl,m⟩:=yp hq
  exact⟨s,v,rfl,(h.t.ok _ m).1⟩
 .obtain⟨s,v,rfl,m⟩:=yp hq
  refine⟨s,v,rfl,(h.m.ok _ m).1.rg (by decide),by rw[dR];exact lB h.m.nd m,?_⟩;rw[dR]
  cases e:d0.lookup s with
  |none=>rfl
  |some u=>exact absurd (Pq.mpr ⟨_,m,rfl⟩) (h.no s (xQ e))
 .have:=nv r0
  rw[this];exact sY h.m.nd
 .rw[gZ,gZ]
  have:=h.t.len;have:=h.m.len;omega
@[simp] theorem LY:aa 10 (o::r) T=aa 9 r T:=eJ
@[simp] theorem LX:aa 11 (o::r) T=aa 10 r T:=eJ
@[simp] theorem LW:aa 12 (o::r) T=aa 11 r T:=eJ
def rdP(p:Str×Pa):PyData:=.tuple [.str p.1,stS p.2]
def tlD(a b:Str):PyData:=.tuple [.str a,.str b]
def lnD(n:Str)(rs:List (Str×Pa))(a b:Str):PyData:=.tuple [.str n,.tuple (rs.map rdP),tlD a b]
def Hx(x:Pa):Prop:=∃t n rs a b,x=.tuple [.str t,lnD n rs a b]/\(∀p∈rs,aH p.2=true/\isName (.str p.1)=true)/\Lw b/\rs.length<=12/\Lw t/\Lw n/\Lw a
theorem Kb(h:OkS p n s):∃rs:List (Str×Pa),s.rd.map rdS=rs.map rdP/\∀p∈rs,aH p.2=true/\isName (.str p.1)=true:=by
 have:∀l:List Pa,(∀d∈l,∃x v,d=.tuple [.str x,v]/\aH v=true/\isName (.str x)=true)->∃rs:List (Str×Pa),l.map rdS=rs.map rdP/\∀p∈rs,aH p.2=true/\isName (.str p.1)=true:=fun l=>by
  induction l with
  |nil=>exact fun _=>⟨[],rfl,fun _ z=>nomatch z⟩
  |cons d r ih=>
   intro h;obtain⟨x,v,rfl,hv⟩:=h d Pi;obtain⟨rs,e,q⟩:=ih fun d hd=>h d (Pg _ hd);refine⟨(x,v)::rs,by rw[Pz,Pz,e];rfl,fun p hp=>?_⟩
   rcases Pt.mp hp with rfl|hp
   .exact hv
   .exact q p hp
 refine this s.rd fun d hd=>?_;obtain⟨x,v,rfl,hv⟩:=h.rv d hd;obtain⟨x',v',e,hx⟩:=h.rn _ hd;cases e;exact⟨x,v,rfl,hv,hx⟩
theorem Ir(h:StepOk p g n S):∃a b,dO S=tlD a b/\(vMd S=[]\/∃v,vMd S=[v])/\Lw b/\Lw a:=by
 rcases fh h with⟨v,rfl,hv⟩|⟨y,rfl,hy⟩|⟨b',y,r',rfl,hy⟩
 .exact⟨_,mk (cst 4 v),n8,.inr ⟨v,Hw⟩,gE hv,cQ (by decide +kernel)⟩
 .exact⟨_,y,n9,.inl Hy,eO hy,cQ (by decide +kernel)⟩
 .exact⟨_,y,og,.inl Hz,eO hy,cQ (by decide +kernel)⟩
theorem EF(h:OkS p n s):∃(rs:List (Str×Pa)) (a b:Str),((∀p∈rs,aH p.2=true/\isName (.str p.1)=true)/\Lw b/\rs.length<=12/\Lw a)/\jK (di s) none (some 2)=some (.tuple [.tuple (rs.map rdP),tlD a b]):=by
 obtain⟨rs,e,q⟩:=Kb h;obtain⟨a,b,e2,e3,lb,la⟩:=Ir h.st
 have el:rs.length=s.rd.length:=by have:=congrArg WJ e;simpa using this.symm
 refine⟨rs,a,b,⟨q,lb,by have:=h.rd;have:=h.le;omega,la⟩,?_⟩;unfold di;rw[e,e2]
 rcases e3 with z|⟨v,z⟩
 .rw[z];rfl
 .rw[z];rfl
theorem Gw:a7 (.tuple [.str t,lnD n rs a b])=true:=by
 have:br (rs.map rdP)=true:=iL fun d hd=>by
  obtain⟨p,_,rfl⟩:=Pq.mp hd;simp[rdP,a7,br,rF]
 simp[lnD,tlD,a7,br,this]
structure Hq(l:List Str)(h:Dl):Prop where
 nd:(ky h).Nodup
 ok:∀p∈h,p.1∈l/\Hx p.2
theorem Hq.nil:Hq l []:=⟨by simp[ky],fun _ h=>nomatch h⟩
theorem Hq.put(q:Hq l h)(hs:s∈l)(hx:Hx x):Hq l (putL h s x):=by
 refine⟨?_,fun p hp=>?_⟩
 .rw[oG]
  split
  .exact q.nd
  .rename_i z
   rw[Qz];exact⟨q.nd,by simp,fun a ha b hb=>by simp at hb;subst hb;exact fun w=>z (w ▸ ha)⟩
 .rcases xh hp with z|rfl
  .exact q.ok p z
  .exact⟨hs,hx⟩
theorem Hq.len(q:Hq l h):h.length<=l.length:=by
 have:=sZ q.nd (N:=l) fun x hx=>by
  obtain⟨p,hp,rfl⟩:=Pq.mp hx;exact(q.ok p hp).1
 simpa[ky] using this
def ρH(sc ba bs:Pa)(l:List Str)(h:Dl)(gs:Pa)(k:Int)(o8 o9 o10 o11:Option W):Rho:=[some (.d sc),some (.d ba),some (.d bs),some (.d (.list (nl l))),some (.loc (.dict (aI h))),some (.d gs),some (.d (.int k)),some (.tp 0),o8,o9,o10,o11]
theorem Dq.gv{K:List Str}{g:Dl}(h:Dq (fun v=>aH v=true) K g):GV (aI g):=fun s v e=>by
 rw[dR] at e;exact h.look e
section
variable {l:List Str}(hn:Ns l)(h0:0<l.length)(h1:l.length<=20)
variable {sc ba bs gs:Pa}{h:Dl}{k:Int}{o8 o11:Option W}
include hn h0 h1 in
theorem GB(hf:Fr xs):∃g xs' p10,forL 10 kT (nl l) (ρH sc ba bs l h gs k o8 (some (.loc (.dict []))) o10 o11) [xs]=some ((.nx,ρH sc ba bs l h gs k o8 (some (.loc (.dict (aI g)))) p10 o11),[xs'])/\Dq (fun v=>aH v=true) l g/\Fr xs':=by
 have lp:=jG (i:=10) (body:=kT) (N:=20) (I:=fun _ ρ T=>∃g xs p10,ρ=ρH sc ba bs l h gs k o8 (some (.loc (.dict (aI g)))) p10 o11/\T=[xs]/\Fr xs/\Dq (fun v=>aH v=true) l g) (nl l) 0 (ρH sc ba bs l h gs k o8 (some (.loc (.dict []))) o10 o11) [xs] (by rw[b8];omega) ⟨[],xs,o10,rfl,rfl,hf,.nil⟩ (fun _ d ρ T hd _ hI=>by
  obtain⟨g,xs,p10,rfl,rfl,hf,hg⟩:=hI;obtain⟨s,hs,rfl⟩:=Pq.mp hd;obtain⟨w,x1,e1,f1,w0,w1⟩:=bG hf (m:=4) (by decide) (by decide)
  have z:(aI g).length<=1000:=by rw[gZ];have:=hg.len;omega
  by_cases hw:0<w
  .obtain⟨v,x2,e2,hv,f2⟩:=lO f1 hn h0 h1
   exact⟨ρH sc ba bs l h gs k o8 (some (.loc (.dict (aI (putL g s v))))) (some (.d (.str s))) o11,[x2],by simp[kT,ρH,e1,hw,e2,z,lI],_,_,_,rfl,rfl,f2,hg.put hv hs⟩
  .exact⟨ρH sc ba bs l h gs k o8 (some (.loc (.dict (aI g)))) (some (.d (.str s))) o11,[x1],by simp[kT,ρH,e1,hw],_,_,_,rfl,rfl,f1,hg⟩)
 obtain⟨ρ',T',e,g,xs',p10,rfl,rfl,f,hg⟩:=lp;exact⟨g,xs',p10,e,hg,f⟩
theorem Gz:j8 (.d x)=some (.d x):=rfl
theorem Gy:j8 (.loc x)=some (.d x):=rfl
theorem GA:cD (o::r)=o.bind j8::cD r:=rfl
theorem zj(hn:Ns l)(h1:l.length<=20)(hh:Hq l h)(hb:Bd l d0 r0)(hbs:atI [b0,b1] i=some (bkL d0 r0))(hkn:GV kn)(h9:j8 W9=some (.d (.dict kn)))(k0:0<=k)(k1:k<l.length)(hf:Fr xs) :
  ∃h' xs' p11,fIf (b9 (av (af inA (af ixD (aa 3) (aa 6)) (af ixD (af ixD (aa 2) (aa 8)) (fC (.int 1))))) (av (af gtD (au aS (ae (aa 7) (ae (fC (.int 5)) ah))) (fC (.int 0))))) (ak (aF 11 (af ixA (af ixD (af ixD (aa 2) (aa 8)) (fC (.int 1))) (af ixD (aa 3) (aa 6)))) (bP 4 (af ixD (aa 3) (aa 6)) (dZ (aA .tuple (ae (au (fg 25) (ae (aa 11) ah)) (ae (af aV (aA .tuple (ae (af ixD (aa 3) (aa 6)) ah)) (fSl (au gP (ae (aa 11) (ae (aa 9) ah))) cV (fP (fC (.int 2))))) ah)))))) aD (ρH sc ba (.list [b0,b1]) l h gs k (some (.d (.int i))) (some W9) o10 o11) [xs]=some ((.nx,ρH sc ba (.list [b0,b1]) l h' gs k (some (.d (.int i))) (some W9) o10 p11),[xs'])/\Hq l h':=by
 obtain⟨y,ey,my⟩:=pY k0 k1
 have z:(aI h).length<=1000:=by rw[gZ];have:=hh.len;omega
 have ib:∀s,inA (.str s) (.dict (aI r0))=some (.bool (decide (s∈ky r0))):=fun s=>by
  show (some (ay (aI r0) s).isSome).map WP=_;rw[dR,v7];rfl
 by_cases hi:y∈ky r0
 .obtain⟨r,er⟩:=qF hi
  obtain⟨w,x1,e1,f1,w0,w1⟩:=bG hf (m:=5) (by decide) (by decide)
  by_cases hw:0<w
  .have rc:=hb.m.look er
   obtain⟨t,tl,_,et⟩:=yB rc (by decide);have rg:=rc.rg (by decide);have ex:=wR [] hkn (by decide) rg;obtain⟨rs,a,b,fk,sl⟩:=EF (g7 hkn (by decide) (de rg (by decide))).1;have et':=et [];have lk:j9 [x1] (some (.d (.tuple [.str t,lnD y rs a b]),[]))=some (.d (.tuple [.str t,lnD y rs a b]),[x1]):=qX Gw
   have z4:1+2<=sizeLine:=by rw[szL];decide
   refine⟨putL h y (.tuple [.str t,lnD y rs a b]),x1,some (.d r),?_,hh.put my ⟨t,y,rs,a,b,rfl,fk.1,fk.2.1,fk.2.2.1,tl,eO (hn y my).isNm,fk.2.2.2⟩⟩;unfold lnD at lk ⊢;simp[ρH,ey,hbs,bkL,jm,ib,hi,e1,hw,dR,er,GA,Gz,Gy,h9,et',ex,sl,z4,lk,z,lI]
  .exact⟨h,x1,o11,by simp[ρH,ey,hbs,bkL,jm,ib,hi,e1,hw],hh⟩
 .exact⟨h,xs,o11,by simp[ρH,ey,hbs,bkL,jm,ib,hi],hh⟩
include hn h0 h1 in
theorem GK(hh:Hq l h)(b0:Bd l d0 r0)(b1:Bd l d1 r1)(hg0:GV g0)(hg1:GV g1)(k0:0<=k)(k1:k<l.length)(hf:Fr xs) :
  ∃h' xs' p8 p9 p10 p11,kS (ρH sc ba (.list [bkL d0 r0,bkL d1 r1]) l h (.list [.dict g0,.dict g1]) k o8 o9 o10 o11) [xs]=some ((.nx,ρH sc ba (.list [bkL d0 r0,bkL d1 r1]) l h' (.list [.dict g0,.dict g1]) k p8 p9 p10 p11),[xs'])/\Hq l h':=by
 obtain⟨i,x1,e1,f1,i0,i1⟩:=bG hf (m:=2) (by decide) (by decide)
 obtain⟨dd,rr,gg,hb,hbb,hg,hgg⟩:∃dd rr gg,atI [bkL d0 r0,bkL d1 r1] i=some (bkL dd rr)/\Bd l dd rr/\atI [PyData.dict g0,.dict g1] i=some (.dict gg)/\GV gg:=by
  have:i=0\/i=1:=by omega
  rcases this with rfl|rfl
  .exact⟨d0,r0,g0,rfl,b0,rfl,hg0⟩
  .exact⟨d1,r1,g1,rfl,b1,rfl,hg1⟩
 have s1:aF 8 (au aS (ae (aa 7) (ae (fCB bb (ae (aa 2) ah)) ah))) (ρH sc ba (.list [bkL d0 r0,bkL d1 r1]) l h (.list [.dict g0,.dict g1]) k o8 o9 o10 o11) [xs]=some ((.nx,ρH sc ba (.list [bkL d0 r0,bkL d1 r1]) l h (.list [.dict g0,.dict g1]) k (some (.d (.int i))) o9 o10 o11),[x1]):=by
  simp[ρH,e1]
 have s2:aF 9 (af ixD (aa 5) (aa 8)) (ρH sc ba (.list [bkL d0 r0,bkL d1 r1]) l h (.list [.dict g0,.dict g1]) k (some (.d (.int i))) o9 o10 o11) [x1]=some ((.nx,ρH sc ba (.list [bkL d0 r0,bkL d1 r1]) l h (.list [.dict g0,.dict g1]) k (some (.d (.int i))) (some (.d (.dict gg))) o10 o11),[x1]):=by
  simp[ρH,hg]
 obtain⟨w,x2,e2,f2,w0,w1⟩:=bG f1 (m:=4) (by decide) (by decide)
 by_cases hw:w=0
 .obtain⟨g,x3,p10,e3,hg3,f3⟩:=GB hn h0 h1 (sc:=sc) (ba:=ba) (bs:=.list [bkL d0 r0,bkL d1 r1]) (gs:=.list [.dict g0,.dict g1]) (h:=h) (k:=k) (o8:=some (.d (.int i))) (o11:=o11) f2 (o10:=o10)
  obtain⟨h',x4,p11,e4,hh'⟩:=zj (sc:=sc) (ba:=ba) (gs:=.list [.dict g0,.dict g1]) (o11:=o11) hn h1 hh hbb hb hg3.gv (W9:=.loc (.dict (aI g))) rfl k0 k1 f3 (o10:=p10);refine⟨h',x4,some (.d (.int i)),some (.loc (.dict (aI g))),p10,p11,?_,hh'⟩;unfold kS
  rw[a9 s1,a9 s2,a9 (a:=fIf _ _ _) (ρ1:=ρH sc ba (.list [bkL d0 r0,bkL d1 r1]) l h (.list [.dict g0,.dict g1]) k (some (.d (.int i))) (some (.loc (.dict (aI g)))) p10 o11) (T1:=[x3]) (by
   unfold ρH at e3 ⊢
   simp[e2,hw,e3])]
  exact e4
 .obtain⟨h',x4,p11,e4,hh'⟩:=zj (sc:=sc) (ba:=ba) (gs:=.list [.dict g0,.dict g1]) (o11:=o11) hn h1 hh hbb hb hgg (W9:=.d (.dict gg)) rfl k0 k1 f2 (o10:=o10)
  refine⟨h',x4,some (.d (.int i)),some (.d (.dict gg)),o10,p11,?_,hh'⟩;unfold kS
  rw[a9 s1,a9 s2,a9 (a:=fIf _ _ _) (ρ1:=ρH sc ba (.list [bkL d0 r0,bkL d1 r1]) l h (.list [.dict g0,.dict g1]) k (some (.d (.int i))) (some (.d (.dict gg))) o10 o11) (T1:=[x2]) (by
   unfold ρH
   simp[e2,hw])]
  exact e4
def ρI(sc ba bs:Pa)(l:List Str)(h:Dl)(gs:Pa)(o6 o8 o9 o10 o11:Option W):Rho:=[some (.d sc),some (.d ba),some (.d bs),some (.d (.list (nl l))),some (.loc (.dict (aI h))),some (.d gs),o6,none,o8,o9,o10,o11]
include hn h0 h1 in
theorem Jy(ns:List Int)(hb:0<=b)(b0:Bd l d0 r0)(b1:Bd l d1 r1):∃h,kG [.d (scr ns),.d (.int b),.d (.list [bkL d0 r0,bkL d1 r1]),.d (.list (nl l))] []=some (.dict (aI h),[])/\Hq l h:=by
 obtain⟨g0,eg0,sg0,_,_⟩:=sj (b0.bk h1) [];have hg0:=sg0.gv (b0.bk h1);obtain⟨g1,eg1,sg1,_,_⟩:=sj (b1.bk h1) [];have hg1:=sg1.gv (b1.bk h1)
 have lp:=jG (i:=6) (body:=qJ) (N:=20) (I:=fun _ ρ T=>∃h o6 o8 o9 o10 o11,ρ=ρI (scr ns) (.int b) (.list [bkL d0 r0,bkL d1 r1]) l h (.list [.dict g0,.dict g1]) o6 o8 o9 o10 o11/\T=[]/\Hq l h)
  (cP 0 l.length) 0 (ρI (scr ns) (.int b) (.list [bkL d0 r0,bkL d1 r1]) l [] (.list [.dict g0,.dict g1]) none none none none none) [] (by rw[kY];omega) ⟨[],none,none,none,none,none,rfl,rfl,.nil⟩ (fun _ d ρ T hd _ hI=>by
   obtain⟨h,o6,o8,o9,o10,o11,rfl,rfl,hh⟩:=hI;obtain⟨j,rfl,j0,j1⟩:=v4 hd;obtain⟨xs,hf,ef⟩:=i5 ns (b+j) (by omega);obtain⟨h',xs',p8,p9,p10,p11,e,hh'⟩:=GK hn h0 h1 hh b0 b1 hg0 hg1 j0 j1 hf (sc:=scr ns) (ba:=.int b) (o8:=o8) (o9:=o9) (o10:=o10) (o11:=o11);refine⟨ρI (scr ns) (.int b) (.list [bkL d0 r0,bkL d1 r1]) l h' (.list [.dict g0,.dict g1]) (some (.d (.int j))) (p8.bind (ke 0)) (p9.bind (ke 0)) (p10.bind (ke 0)) (p11.bind (ke 0)),[],?_,h',_,_,_,_,_,rfl,rfl,hh'⟩;have oo:=vZ (i:=7) (fr:=kS) (ρ:=(ρI (scr ns) (.int b) (.list [bkL d0 r0,bkL d1 r1]) l h (.list [.dict g0,.dict g1]) (some (.d (.int j))) o8 o9 o10 o11)) e;have ef':=ef [];unfold qJ;unfold scr ρI at oo ⊢;simp only[wg,Sv,Sw,nY,nX,nW,nV,nU,rX,rW,rV,fV,nA,pf,nZ,oZ,yb,pd,pb,ef',oo]
   rfl)
 obtain⟨ρ',T',e,h,o6,o8,o9,o10,o11,rfl,rfl,hh⟩:=lp;refine⟨h,?_,hh⟩;have ro:fX (l.length:Int)=true:=rng_ok (by omega) (by omega)
 have tn:((l.length:Int)).toNat=l.length:=by omega
 have d0':aI ([]:Dl)=[]:=rfl;rw[Dh];unfold ρI at e;rw[d0'] at e;have q0:iD [.d (bkL d0 r0)] []=some (.dict g0,[]):=eg0;have q1:iD [.d (bkL d1 r1)] []=some (.dict g1,[]):=eg1;simp[bD,q0,q1,b8,ro,tn];rw[e];simp[lE]
end
theorem mP(ha:Lw a)(hb:Lw b):PR (tlD a b)=true:=by simp[PR,tlD,RU,Rc,tj ha,tj hb,U8,RY]
def LK:PyData:=.tuple [.str "lacks"]
theorem Da:PR LK=true:=by decide +kernel
def MDE:Str:=Pc "made"
def pO(v:Pa):PyData:=tlD MDE (mk (cst 4 v))
theorem pQ:Lw MDE:=cQ (by decide +kernel)
theorem FY:(putN E x v).length<=E.length+1:=by
 unfold putN;split
 .rw[uy];omega
 .simp
theorem rm{b:FS}{i j:Nat}{R:Dc->Option D.W->Option D.W->Rho}{g:Pa->Pa}{T:Tp}:∀(rest E:Dc) (on oj:Option D.W),(rest.map (·.1)).Nodup ->
  (∀q∈rest,∃x d,q=(.str x,d)/\∀E on oj,E.length<=1000->b (((R E on oj).set i (some (.d (.str x)))).set j (some (.d d))) T=some ((.nx,R (putN E x (g d)) (some (.d (.str x))) (some (.d d))),T))->E.length+rest.length<=1000 ->
  ∃E' on' oj',fK i j b rest (R E on oj) T=some ((.nx,R E' on' oj'),T)/\E'.length<=E.length+rest.length/\∀y,ay E' y=match ay rest y with
   |some d=>some (g d)
   |none=>ay E y
 |[],E,on,oj,_,_,_=>⟨E,on,oj,rfl,Pm _,fun _=>rfl⟩
 |q::rest,E,on,oj,nd,h,hl=>by
  obtain⟨x,d,rfl,hb⟩:=h q Pi;rw[Pz,Q3] at nd;rw[PH] at hl;have pl:=FY (E:=E) (x:=x) (v:=g d);obtain⟨E',on',oj',e1,e2,e3⟩:=rm (b:=b) (R:=R) (g:=g) rest (putN E x (g d)) (some (.d (.str x))) (some (.d d)) nd.2 (fun q hq=>h q (Pg _ hq)) (by omega);refine⟨E',on',oj',?_,by rw[PH];omega,fun y=>?_⟩
  .rw[xZ (hb E on oj (by omega))]
   exact e1
  .rw[e3,kM]
   show _=match (if x=y then some d else ay rest y) with|some d=>some (g d)|none=>ay E y
   by_cases hxy:x=y
   .subst hxy
    rw[if_pos rfl,if_pos rfl,qZ nd.1]
   .rw[if_neg hxy,if_neg hxy]
def eF(D0 R0 G:Dc)(x:Str):Option PyData:=match ay R0 x with
 |some r=>some (dO (run G (s0 r)).S)
 |none=>(ay D0 x).map pO
section
variable {p:Bool}{n:Nat}{D0 R0:Dc}
theorem CN(B:Bk p n D0 R0):∃G st,kK [.d (bkD D0 R0)] []=some (.dict (lnL R0 st),[])/\Snd D0 R0 G/\Sub D0 G/\(∀x,ClsAt R0 G x)/\∀x r,ay R0 x=some r->st x=run G (s0 r):=by
 obtain⟨G,st,e1,e2,e3,e4,e5⟩:=Jw B [];refine⟨G,st,?_,e2,e3,e4,e5⟩;have ll:=Ho B (st:=st) (fun x r hr=>by rw[e5 x r hr];exact(g7 (e2.gv B) B.n20 (de (B.rg hr).1 B.n20)).1) [];simp[kK,e1,ll]
def ρE(bk:Pa)(o4:Option D.W)(E:Dc)(on oj:Option D.W):Rho:=[some (.d bk),some (.loc (.dict E)),on,oj,o4]
def ρE2(bk:Pa)(o3:Option D.W)(E:Dc)(on oj:Option D.W):Rho:=[some (.d bk),some (.loc (.dict E)),on,o3,oj]
theorem JC(B:Bk p n D0 R0)(nd:(D0.map (·.1)).Nodup):∃G E,gS [.d (bkD D0 R0)] []=some (.dict E,[])/\Snd D0 R0 G/\Sub D0 G/\(∀x,ClsAt R0 G x)/\∀x,ay E x=eF D0 R0 G x:=by
 obtain⟨G,st,e1,e2,e3,e4,e5⟩:=CN B;have hl:=B.len
 obtain⟨E1,on1,oj1,f1,f2,f3⟩:=rm (b:=qo) (i:=2) (j:=3) (R:=ρE (bkD D0 R0) none) (g:=pO) (T:=[]) D0 [] none none nd (fun q hq=>by
  obtain⟨x,v,rfl,hv⟩:=B.dk q hq;refine⟨x,v,rfl,fun E on oj hE=>?_⟩;simp[qo,ρE,oz _ hv,hE]
  rfl) (by simp;omega)
 have ek:(lnL R0 st).map (·.1)=R0.map (·.1):=by simp[lnL]
 have el:(lnL R0 st).length=R0.length:=by simp[lnL]
 obtain⟨E2,on2,oj2,g1,g2,g3⟩:=rm (b:=qm) (i:=2) (j:=4) (R:=ρE2 (bkD D0 R0) oj1) (g:=fun d=>match ixD d (.int 2) with|some x=>x|none=>.none) (T:=[]) (lnL R0 st) E1 on1 none (by rw[ek];exact B.rnd) (fun q hq=>by
  obtain⟨q0,hq0,rfl⟩:=Pq.mp hq;obtain⟨x,r,rfl,_,hk,_⟩:=B.rk q0 hq0;refine⟨x,ln x (st x),rfl,fun E on oj hE=>?_⟩
  simp[qm,ρE2,ln,hE]) (by rw[el];simp at f2;omega)
 refine⟨G,E2,?_,e2,e3,e4,fun x=>?_⟩
 .rw[BD]
  simp[ρE] at f1;simp[ρE2] at g1;have q1:ixD (bkD D0 R0) (.int 0)=some (.dict D0):=rfl;simp[gI,l8,q1,f1,e1,g1]
 .rw[g3,IC]
  unfold eF
  cases hr:ay R0 x with
  |some r=>
   show some _=some _;rw[e5 x r hr];rfl
  |none=>
   show ay E1 x=_;rw[f3]
   cases ay D0 x <;> rfl
theorem wa(B:Bk p n D0 R0){G:Dc}(hs:Snd D0 R0 G)(hd:Sub D0 G)(hc:∀x,ClsAt R0 G x)(x:Str):match ay G x with
  |some v=>eF D0 R0 G x=some (pO v)/\aH v=true
  |none=>∃d w,(eF D0 R0 G x).getD LK=d/\PR d=true/\ixD d (.int 0)=some (.str w)/\w≠MDE/\∃l,d=.tuple (.str w::l):=by
 cases hg:ay G x with
 |some v=>
  refine⟨?_,hs.gv B x v hg⟩;have hv:=hs x v hg
  cases hv with
  |told h=>
   unfold eF
   cases hr:ay R0 x with
   |some r=>rw[(B.rg hr).2] at h;cases h
   |none=>rw[h];rfl
  |@made _ _ r G1 hr hG1 hall e=>
   have sub:Sub G1 G:=fun y u hy=>sQ B hd hs hc (hall y u hy);have r1:=qQ sub hG1 B.n20 (de (B.rg hr).1 B.n20);rw[qT e] at r1;unfold eF;rw[hr];show some (dO (run G (s0 r)).S)=_;rw[←r1,e,n8];rfl
 |none=>
  unfold eF
  cases hr:ay R0 x with
  |some r=>
   obtain⟨ok,_⟩:=g7 (hs.gv B) B.n20 (de (B.rg hr).1 B.n20);show ∃d w,dO (run G (s0 r)).S=d/\_
   rcases fh ok.st with⟨v,e,hv⟩|⟨y,e,hy⟩|⟨b',y,r',e,hy⟩
   .have:=hc x r v hr e
    rw[hg] at this;cases this
   .rw[e,n9]
    exact⟨_,Pc "fails",rfl,mP (cQ (by decide +kernel)) (eO hy),rfl,by decide,_,rfl⟩
   .rw[e,og]
    exact⟨_,Pc "wants",rfl,mP (cQ (by decide +kernel)) (eO hy),rfl,by decide,_,rfl⟩
  |none=>
   cases h0:ay D0 x with
   |some v=>rw[hd x v h0] at hg;cases hg
   |none=>exact⟨LK,Pc "lacks",rfl,Da,rfl,by decide,_,rfl⟩
end
structure Go(n:Nat)(d:Pa):Prop where
 cl:d.canLay0=true
 dp:d.depth<=n
theorem Go.up(h:Go n d)(l:n<=m):Go m d:=⟨h.1,PL h.2 l⟩
theorem Go.shp(h:Go 64 d):PR d=true:=by
 unfold PR;rw[h.1,decide_eq_true h.2];rfl
theorem dU(h:Lw x):Go n (.str x):=⟨by simp[RU,tj h],by simp[U8]⟩
theorem sL:∀{ds:List Pa},(∀d∈ds,Go n d)->Rc ds=true/\RY ds<=n
 |[],_=>⟨by simp[Rc],by simp[RY]⟩
 |d::r,h=>by
  have ih:=sL (ds:=r) fun x hx=>h x (Pg _ hx);have i0:=h d Pi;exact⟨by simp[Rc,i0.1,ih.1],by have:=i0.2;have:=ih.2;simp only[RY];omega⟩
theorem iX(h:∀d∈ds,Go n d):Go (n+1) (.tuple ds):=by
 have a:=sL h;exact⟨by simp[RU,a.1],by have:=a.2;simp only[U8];omega⟩
theorem fY(h:Go n a)(g:Go n b):Go (n+1) (.tuple [a,b]):=iX fun d hd=>by
 simp at hd
 rcases hd with rfl|rfl
 .exact h
 .exact g
theorem eX(w:String)(h:((cd (Pc w)).all fun c=>decide (c<128))=true):Go n (.str (Pc w)):=dU (cQ h)
theorem zk(h:aH v=true):Go 4 v:=by
 have s:=iF h;have d:=(vQ h).dp;unfold PR at s;rw[Po] at s;exact⟨s.1,d⟩
theorem l0(h:Ld k e):Go 5 e:=by
 cases h with
 |put h=>exact fY (eX "put" (by decide +kernel)) (zk h)
 |got=>exact fY (eX "got" (by decide +kernel)) ⟨rfl,QE _⟩
theorem pT(h:Go n a)(g:Go n b)(k:Go n c):Go (n+1) (.tuple [a,b,c]):=iX fun d hd=>by
 simp at hd
 rcases hd with rfl|rfl|rfl
 .exact h
 .exact g
 .exact k
theorem tB(h:Xd k e):Go 7 e:=by
 cases h with
 |lf h=>exact(l0 h).up (by decide)
 |two w a b=>exact pT (by rcases w with rfl|rfl|rfl|rfl|rfl <;> exact eX _ (by decide +kernel)) ((l0 a).up (by decide)) ((l0 b).up (by decide))
 |row _ h=>exact fY (eX "row" (by decide +kernel)) (iX fun d hd=>l0 (h d hd))
 |many h=>exact fY (eX "many" (by decide +kernel)) ((l0 h).up (by decide))
theorem Kz(x:RC h k c r):Go (h+8) r:=by
 induction x with
 |say _ h=>exact fY (n:=_+7) (eX "say" (by decide +kernel)) ((tB h).up (by omega))
 |fail _ h=>exact fY (n:=_+7) (eX "fail" (by decide +kernel)) (dU (eO h.isNm))
 |@want h k c c' b e r _ he _ ih=>exact(pT (n:=h+8) (by cases b <;> exact eX _ (by decide +kernel)) ((tB he).up (by omega)) ih).up (by omega)
 |@when h k c c1 c2 e p q _ he _ _ i1 i2=>
   refine(iX (n:=h+8) fun d hd=>?_).up (by omega);simp at hd
   rcases hd with rfl|rfl|rfl|rfl
   .exact eX "when" (by decide +kernel)
   .exact(tB he).up (by omega)
   .exact i1
   .exact i2
theorem zi:∀{d:Dl},(∀p∈d,e.lookup p.1=some p.2/\Go 64 p.2)->gL (aI e) (aI d)=some true
 |[],_=>rfl
 |(k,v)::r,h=>by
  have ih:=zi (e:=e) (d:=r) fun p hp=>h p (Pg _ hp);obtain⟨h1,h2⟩:=h (k,v) Pi;show gL (aI e) ((.str k,v)::aI r)=_;unfold gL;rw[dR,h1];dsimp only;rw[if_pos ⟨h2.shp,h2.shp⟩,ih];simp[Vy v h2.cl]
theorem sN(nd:(ky d).Nodup)(g:∀p∈d,Go 64 p.2):ku (aI d) (aI d)=some true:=by
 have h:=zi (e:=d) (d:=d) fun p hp=>⟨lB nd hp,g p hp⟩;unfold ku;rw[if_pos h,if_pos rfl,h]
theorem Jh(h:Bd l d r):mD (bkL d r) (bkL d r)=some true:=by
 have h1:iy (.dict (aI d)) (.dict (aI d))=some true:=sN h.t.nd fun p hp=>(zk (h.t.ok p hp).1).up (by decide);have h2:iy (.dict (aI r)) (.dict (aI r))=some true:=sN h.m.nd fun p hp=>(Kz (h.m.ok p hp).1).up (by decide);show (gh [.dict (aI d),.dict (aI r)] [.dict (aI d),.dict (aI r)]).map _=_;simp only[gh,h1,h2];rfl
theorem ne_self(h:PR d=true):neG d d=some (.bool false):=by
 unfold neG;rw[if_pos ⟨h,h⟩];unfold PR at h;rw[Po] at h;rw[Vy d h.1];rfl
@[simp] theorem Nc:kc f g h ρ T=bnd (f ρ T) fun w1 T1=>bnd (g ρ T1) fun w2 T2=>bnd (h ρ T2) (l6 w1 w2):=rfl
@[simp] theorem Mh:l6 (.d (.dict ds)) (.d (.str s)) (.d z) T=some (.d ((ay ds s).getD z),T):=rfl
section
variable {p:Bool}{n:Nat}{D0 R0:Dc}
theorem GW(B:Bk p n D0 R0)(hs:∀x,ay G x=ay G' x)(hG:GV G)(x:Str):eF D0 R0 G x=eF D0 R0 G' x:=by
 unfold eF
 cases hr:ay R0 x with
 |none=>rfl
 |some r=>
  show some (dO (run G (s0 r)).S)=_;rw[mR hs hG B.n20 (de (B.rg hr).1 B.n20)]
def bR(G:Dc)(q:Str×Pa):Bool:=match ay G q.1 with
 |some v=>decide (mk (cst 4 v)=mk (cst 4 q.2))
 |none=>false
theorem Gn(B:Bk p n D0 R0)(hs:Snd D0 R0 G)(hd:Sub D0 G)(hc:∀x,ClsAt R0 G x)(hq:aH q.2=true):neG ((eF D0 R0 G q.1).getD LK) (tlD MDE (mk (cst 4 q.2)))=some (.bool (!bR G q)):=by
 have g:=wa B hs hd hc q.1;have s2:=mP pQ (gE hq);unfold bR
 cases hg:ay G q.1 with
 |some v=>
  rw[hg] at g;obtain⟨g1,g2⟩:=g;rw[g1];show neG (tlD MDE (mk (cst 4 v))) (tlD MDE (mk (cst 4 q.2)))=_;unfold neG;rw[if_pos ⟨mP pQ (gE g2),s2⟩];simp[tlD,Qc,RZ];rw[Rh];simp
 |none=>
  rw[hg] at g;obtain⟨d,w,g1,g2,_,g4,l,rfl⟩:=g;rw[g1];unfold neG;rw[if_pos ⟨g2,s2⟩];simp[tlD,Qc,RZ,g4]
def otB:FS:=(ak (aF 4 (kc (aa 0) (af ixD (aa 3) (fC (.int 0))) (fC (.tuple [.str "lacks"])))) (fIf (av (af neG (aa 4) (aA .tuple (ae (fC (.str "made")) (ae (af ixD (aa 3) (fC (.int 1))) ah))))) (aB (aA .tuple (ae (fC (.str "read")) (ae (aa 2) (ae (af ixD (aa 3) (fC (.int 0))) (ae (af ixD (aa 3) (fC (.int 1))) (ae (aa 4) ah))))))) aD))
def otE:FS:=(ak (fIf (b9 (av (af eqD (af ixD (af ixD (aa 1) (fC (.int 2))) (fC (.int 0))) (fC (.str "wants")))) (av (af eqD (af ixD (kc (aa 0) (af ixD (af ixD (aa 1) (fC (.int 2))) (fC (.int 1))) (fC (.tuple [.str "lacks"]))) (fC (.int 0))) (fC (.str "made"))))) (aB (aA .tuple (ae (fC (.str "wanted")) (ae (af ixD (af ixD (aa 1) (fC (.int 2))) (fC (.int 1))) (ae (af ixD (af ixA (aa 0) (af ixD (af ixD (aa 1) (fC (.int 2))) (fC (.int 1)))) (fC (.int 1))) ah))))) aD) (aB (fC .none)))
theorem J1:mG=aP 5 (ak (iY 2 3 (af ixD (aa 1) (fC (.int 1))) otB) otE):=rfl
theorem EW(h:b ((ρ.set i (some (.d (.int (k:Int))))).set j (some (.d d))) T=some ((.nx,ρ'),T)):fE i j b k (d::r) ρ T=fE i j b (k+1) r ρ' T:=by
 show bnd (b _ T) _=_;rw[h];rfl
theorem EV(h:b ((ρ.set i (some (.d (.int (k:Int))))).set j (some (.d d))) T=some ((.rt x,ρ'),T)):fE i j b k (d::r) ρ T=some ((.rt x,ρ'),T):=by
 show bnd (b _ T) _=_;rw[h];rfl
noncomputable def otR(e:Str->Pa)(G:Dc):Nat->List (Str×Pa)->Option Pa
 |_,[]=>none
 |k,q::r=>if bR G q=true then otR e G (k+1) r else some (.tuple [.str "read",.int (k:Int),.str q.1,stS q.2,e q.1])
def otW(G:Dc)(a b:Str):PyData:=if a=Pc "wants" then (match ay G b with
 |some v=>.tuple [.str "wanted",.str b,stS v]
 | none=>.none) else .none
def otX(e:Str->Pa)(G:Dc)(rs:List (Str×Pa))(a b:Str):PyData:=(otR e G 0 rs).getD (otW G a b)
abbrev eN(D0 R0 G:Dc)(x:Str):PyData:=(eF D0 R0 G x).getD LK
theorem xu(B:Bk p n D0 R0){G E:Dc}(hs:Snd D0 R0 G)(hd:Sub D0 G)(hc:∀x,ClsAt R0 G x)(he:∀x,ay E x=eF D0 R0 G x){li:Pa}:∀(rs:List (Str×Pa)) (k:Nat) (o2 o3 o4:Option D.W),(∀q∈rs,aH q.2=true/\isName (.str q.1)=true) ->
  match otR (eN D0 R0 G) G k rs with
  |none=>∃o2' o3' o4',fE 2 3 otB k (rs.map rdP) [some (.d (.dict E)),some (.d li),o2,o3,o4] []=some ((.nx,[some (.d (.dict E)),some (.d li),o2',o3',o4']),[])
  |some d=>∃ρ',fE 2 3 otB k (rs.map rdP) [some (.d (.dict E)),some (.d li),o2,o3,o4] []=some ((.rt d,ρ'),[])
 |[],k,o2,o3,o4,_=>⟨o2,o3,o4,by simp[fE]⟩
 |q::rs,k,o2,o3,o4,h=>by
  have hq:=(h q Pi).1;have nm:=Gn B hs hd hc hq;unfold tlD MDE at nm;rw[Pz];unfold otR
  cases hb:bR G q with
  |true=>
   rw[hb] at nm
   have st:otB (((([some (.d (.dict E)),some (.d li),o2,o3,o4]:Rho).set 2 (some (.d (.int (k:Int))))).set 3 (some (.d (rdP q))))) []=some ((.nx,[some (.d (.dict E)),some (.d li),some (.d (.int (k:Int))),some (.d (rdP q)),some (.d ((eF D0 R0 G q.1).getD LK))]),[]):=by
    unfold LK at nm ⊢;simp[otB,rdP,stS,he,nm]
   rw[EW st,if_pos rfl];exact xu B hs hd hc he rs (k+1) _ _ _ fun x hx=>h x (Pg _ hx)
  |false=>
   rw[hb] at nm;rw[if_neg (by simp)];refine⟨_,EV (ρ':=[some (.d (.dict E)),some (.d li),some (.d (.int (k:Int))),some (.d (rdP q)),some (.d ((eF D0 R0 G q.1).getD LK))]) ?_⟩;unfold eN LK at *;simp[otB,rdP,stS,he,nm]
theorem Hk(B:Bk p n D0 R0)(hs:Snd D0 R0 G)(hd:Sub D0 G)(hc:∀x,ClsAt R0 G x)(he:∀x,ay E x=eF D0 R0 G x)(h:∀q∈rs,aH q.2=true/\isName (.str q.1)=true):mG [.d (.dict E),.d (lnD y rs a b)] []=some (otX (eN D0 R0 G) G rs a b,[]):=by
 have i1:ixD (lnD y rs a b) (.int 1)=some (.tuple (rs.map rdP)):=rfl;have i2:ixD (lnD y rs a b) (.int 2)=some (.tuple [.str a,.str b]):=rfl;have lp:=xu B hs hd hc he (li:=lnD y rs a b) rs 0 none none none h;rw[J1];unfold otX otW
 cases ho:otR (eN D0 R0 G) G 0 rs with
 |some d=>
  rw[ho] at lp;obtain⟨ρ',e⟩:=lp;simp[iY,jR,i1,e]
 |none=>
  rw[ho] at lp;obtain⟨o2,o3,o4,e⟩:=lp;have ge:=wa B hs hd hc b
  by_cases ha:a=Pc "wants"
  .subst ha
   cases hk:ay G b with
   |some v=>
    rw[hk] at ge;simp[iY,jR,i1,e,otE,i2,he,ge.1,pO,tlD,MDE,stS,hk]
   |none=>
    rw[hk] at ge;obtain⟨d,w,g1,_,g3,g4,_⟩:=ge;unfold LK at g1;unfold MDE at g4;simp[iY,jR,i1,e,otE,i2,he,g1,g3,g4]
  .simp[iY,jR,i1,e,otE,i2,ha]
theorem lY(ha:Lw a)(hb:Lw b):Go 1 (tlD a b):=fY (dU ha) (dU hb)
theorem KA:Go 1 LK:=⟨by decide +kernel,by decide +kernel⟩
theorem Jk(B:Bk p n D0 R0)(hG:GV G)(x:Str):Go 1 (eN D0 R0 G x):=by
 unfold eN eF
 cases hr:ay R0 x with
 |some r=>
  obtain⟨ok,_⟩:=g7 hG B.n20 (de (B.rg hr).1 B.n20);show Go 1 (dO (run G (s0 r)).S)
  rcases fh ok.st with⟨v,e,hv⟩|⟨y,e,hy⟩|⟨b',y,r',e,hy⟩
  .rw[e,n8];exact lY pQ (gE hv)
  .rw[e,n9];exact lY (cQ (by decide +kernel)) (eO hy)
  .rw[e,og];exact lY (cQ (by decide +kernel)) (eO hy)
 |none=>
  cases h0:ay D0 x with
  |some v=>exact lY pQ (gE (B.gv x v h0))
  |none=>exact KA
def t1(s:String):PyData:=.tuple [.str (Pc s)]
theorem Ae(s:String)(h:((cd (Pc s)).all fun c=>decide (c<128))=true):Go 2 (t1 s):=iX fun d hd=>by rw[Pl.mp hd];exact eX s h
inductive Rz:Pa->Prop
 |non:Rz .none
 |rd (k:Int) (x:Str) (u w:Pa):Rz (.tuple [.str "read",.int k,.str x,u,w])
 |wt (b:Str) (u:Pa):Rz (.tuple [.str "wanted",.str b,u])
 |no:Rz (t1 "none")
 |rc:Rz (t1 "recipe")
theorem Af(B:Bk p n D0 R0)(hG:GV G):∀(rs:List (Str×Pa)) (k:Nat),(∀q∈rs,aH q.2=true/\isName (.str q.1)=true)->∀d,otR (eN D0 R0 G) G k rs=some d->Go 2 d/\Rz d
 |[],k,_,d,e=>nomatch e
 |q::rs,k,h,d,e=>by
  unfold otR at e;split at e
  .exact Af B hG rs (k+1) (fun z hz=>h z (Pg _ hz)) d e
  .cases e
   obtain⟨hv,hx⟩:=h q Pi;refine⟨iX fun d hd=>?_,.rd _ _ _ _⟩;simp only[Pt,Ro,or_false] at hd
   rcases hd with rfl|rfl|rfl|rfl|rfl
   .exact eX "read" (by decide +kernel)
   .exact⟨rfl,QE _⟩
   .exact dU (eO hx)
   .exact dU (gE hv)
   .exact Jk B hG q.1
theorem IW(B:Bk p n D0 R0)(hG:GV G)(h:∀q∈rs,aH q.2=true/\isName (.str q.1)=true)(hb:Lw b):Go 2 (otX (eN D0 R0 G) G rs a b)/\Rz (otX (eN D0 R0 G) G rs a b):=by
 have gn:Go 2 PyData.none:=⟨rfl,QE _⟩;unfold otX
 cases e:otR (eN D0 R0 G) G 0 rs with
 |some d=>exact Af B hG rs 0 h d e
 |none=>
  show Go 2 (otW G a b)/\Rz (otW G a b);unfold otW;split
  .cases hk:ay G b with
   |none=>exact⟨gn,.non⟩
   |some v=>exact⟨(pT (n:=1) (eX "wanted" (by decide +kernel)) (dU hb) (dU (gE (hG b v hk)))),.wt _ _⟩
  .exact⟨gn,.non⟩
theorem Ft(B:Bk p n D0 R0)(hs:Snd D0 R0 G)(hd:Sub D0 G)(hc:∀x,ClsAt R0 G x)(he:∀x,ay E x=eF D0 R0 G x)(hH:∀x y,ay H x=some y->Hx y)
  (sh:∀x r,ay R0 x=some r->∃t,∀T,jn [.d r] T=some (.str t,T)) (hr:ay R0 x=some r) :
  ∃d,dq [.d (.dict E),.d (.dict R0),.d (.dict H),.d (.str x)] []=some (d,[])/\Go 2 d/\Rz d:=by
 have n0:isNone Yy=true:=rfl;obtain⟨t',s1⟩:=sh x r hr
 cases hh:ay H x with
 |none=>exact⟨t1 "none",by simp[dq,hh,t1],Ae "none" (by decide +kernel),.no⟩
 |some y=>
  obtain⟨t,nn,rs,a,b,rfl,hv,hb,h12,_⟩:=hH x y hh
  by_cases ht:t=t'
  .subst ht
   have ow:js [.d (.dict R0),.d (.dict H),.d (.str x)] []=some (lnD nn rs a b,[]):=by simp[js,hh,hr,s1]
   have nl':isNone (lnD nn rs a b)=false:=rfl;have lo:=Hk B hs hd hc he (y:=nn) (a:=a) (b:=b) hv;exact⟨otX (eN D0 R0 G) G rs a b,by simp[dq,hh,ow,isD,nl',lo],IW B (hs.gv B) (a:=a) hv hb⟩
  .have ow:js [.d (.dict R0),.d (.dict H),.d (.str x)] []=some (.none,[]):=by simp[js,hh,hr,s1,ht]
   exact⟨t1 "recipe",by simp[dq,hh,ow,isD,n0,t1],Ae "recipe" (by decide +kernel),.rc⟩
end
noncomputable def nxt:Pa->Option Str
 |.tuple [_,.int _,.str x,_,_]=>some x
 |.tuple [_,.str b,_]=>some b
 |_=>none
def nmD:Option Str->Pa
 |some x=>.str x
 |none=>.none
theorem a50:atI [a,b,c,d,e] 0=some a:=rfl
theorem a52:atI [a,b,c,d,e] 2=some c:=rfl
theorem Hm(h:Rz d)(n:isNone d=false)(T:Tp):gu [.d d] T=some (nmD (nxt d),T):=by
 cases h with
 |non=>cases n
 |rd k x u w=>simp[gu,nxt,nmD,a50,a52]
 |wt b u=>simp[gu,nxt,nmD]
 |no=>simp[gu,nxt,nmD,t1]
 |rc=>simp[gu,nxt,nmD,t1]
theorem sk(h:c ρ T=some (true,T))(hb:b ρ T=some ((.ro x,ρ'),T)):bi c b (m+1) ρ T=some ((.ro x,ρ'),T):=by simp[bi,h,hb]
section
variable {R0:Dc}{rf:Str->Pa}
def prs(rf:Str->Pa)(l:List Str):List PyData:=l.map fun y=>.tuple [.str y,rf y]
noncomputable def eS(R0:Dc)(rf:Str->Pa):Nat->Str->List Str->List Str
 |0,_,_=>[]
 | f+1,x,seen=>if isNone (rf x)=true then [] else x::(match nxt (rf x) with
  |some y=>if (ay R0 y).isSome=true/\y∉seen++[x] then eS R0 rf f y (seen++[x]) else []
  | none=>[])
structure Un1(R0:Dc)(x:Str)(seen:List Str)(f:Nat):Prop where
 nd:(seen++[x]).Nodup
 ks:∀y∈seen++[x],(ay R0 y).isSome=true
 hf:R0.length<f+seen.length
theorem Un1.len{seen:List Str}(h:Un1 R0 x seen f):seen.length+1<=R0.length:=by
 letI:DecidableEq PyData:=fun a b=>SC _
 have:=sZ (L:=nl (seen++[x])) (N:=R0.map (·.1)) (sY h.nd) (fun k hk=>by
  obtain⟨y,hy,rfl⟩:=Pq.mp hk;obtain⟨r,e⟩:=Qh.mp (h.ks y hy)
  exact oP e)
 rw[b8,PN,Qb] at this;exact this
theorem Un1.next{x y:Str}{seen:List Str}{f:Nat}(h:Un1 R0 x seen (f+1))(k:(ay R0 y).isSome=true)(n:y∉seen++[x]):Un1 R0 y (seen++[x]) f:=by
 refine⟨?_,fun z hz=>?_,by have:=h.hf;rw[PN];simp;omega⟩
 .rw[Qz]
  exact⟨h.nd,by simp,fun a ha b hb e=>n (by rw[←Pl.mp hb,←e];exact ha)⟩
 .rcases PD.mp hz with z1|z1
  .exact h.ks z z1
  .rw[Pl.mp z1];exact k
theorem xo{x:Str}{seen:List Str}:prs rf seen++[.tuple [.str x,rf x]]=prs rf (seen++[x]):=by simp[prs]
theorem rM:(prs rf l).length=l.length:=Qb _
theorem Gx(y:Str)(l:List Str):jV (av (af inD (aa 2) (bC (bf (aa 5)) bu (af ixD (aa 0) (fC (.int 0)))))) [some (.d bk),some (.d H),some (.d (.str y)),some (.d d),some (.d E),some (.loc (.list (prs rf l)))] []=some (decide (y∈l),[]):=by
 have c:∀ρ:Rho,bD bu (af ixD (aa 0) (fC (.int 0))) ρ (prs rf l) []=some (nl l,[]):=fun ρ=>mN fun y _=>by simp
 have i:=pS y l;unfold jV;rw[if_pos (show z7 _=true from rfl)];show tu [] (av _ [some (.d bk),some (.d H),some (.d (.str y)),some (.d d),some (.d E),some (.d (.list (prs rf l)))] [])=_;simp[c,i,tu]
def ρC(bk H n d E:Pa)(acc:List Pa):Rho:=[some (.d bk),some (.d H),some (.d n),some (.d d),some (.d E),some (.loc (.list acc))]
def csC:FT:=av (af iV (aa 3) (fC .none))
theorem yt(b1:ixD bk (.int 1)=some (.dict R0))(hl:R0.length<=900)(hE:∀x,(ay R0 x).isSome=true->dq [.d E,.d (.dict R0),.d H,.d (.str x)] []=some (rf x,[])/\Rz (rf x)):∀(f F:Nat) (x:Str) (seen:List Str),Un1 R0 x seen f->f<F ->
  ∃ρ',bi csC gr F (ρC bk H (.str x) (rf x) E (prs rf seen)) []=some ((.ro (.list (prs rf (seen++eS R0 rf f x seen))),ρ'),[])\/(bi csC gr F (ρC bk H (.str x) (rf x) E (prs rf seen)) []=some ((.nx,ρ'),[])/\ρ'[5]? = some (some (.loc (.list (prs rf (seen++eS R0 rf f x seen))))))
 |0,F,x,seen,h,_=>by have:=h.len;have:=h.hf;omega
 |f+1,0,_,_,_,hF=>by omega
 |f+1,F+1,x,seen,h,hF=>by
  obtain⟨e1,z⟩:=hE x (h.ks x (by simp))
  have hc:csC (ρC bk H (.str x) (rf x) E (prs rf seen)) []=some (!isNone (rf x),[]):=by simp[csC,ρC,iV]
  unfold eS
  cases hn:isNone (rf x) with
  |true=>
   rw[hn] at hc;exact⟨_,.inr ⟨jB hc,by simp[ρC]⟩⟩
  |false=>
   rw[hn] at hc;have nb:=Hm z hn [];have ln:=h.len
   have hz:(prs rf seen).length<sizeLine:=by rw[rM];exact QC (PL (Wn ln) hl) (by decide)
   have s1:seen++[x]=seen++x::[]:=rfl
   have ap:b6 5 (aA .tuple (ae (aa 2) (ae (aa 3) ah))) (ρC bk H (.str x) (rf x) E (prs rf seen)) []=some ((.nx,ρC bk H (.str x) (rf x) E (prs rf (seen++[x]))),[]):=by
    rw[←xo];simp[ρC,hz]
   have nm:∀acc,aF 2 (au gu (ae (aa 3) ah)) (ρC bk H (.str x) (rf x) E acc) []=some ((.nx,ρC bk H (nmD (nxt (rf x))) (rf x) E acc),[]):=fun acc=>by simp[ρC,nb]
   have li:=fun y=>Gx (rf:=rf) (bk:=bk) (H:=H) (d:=rf x) (E:=E) y (seen++[x])
   cases hx:nxt (rf x) with
   |none=>
    refine⟨ρC bk H .none (rf x) E (prs rf (seen++[x])),.inl (sk hc ?_)⟩;unfold gr;rw[a9 ap,a9 (nm _),hx];simp[ρC,nmD,b1,hJ,gB,jM]
   |some y=>
    by_cases hk:(ay R0 y).isSome=true
    .by_cases hm:y∈seen++[x]
     .simp only[hk,hm,not_true_eq_false,and_false,if_false]
      refine⟨ρC bk H (.str y) (rf x) E (prs rf (seen++[x])),.inl (sk hc ?_)⟩;unfold gr;rw[a9 ap,a9 (nm _),hx];have l1:=li y;rw[decide_eq_true hm] at l1;simp[ρC,nmD,b1,hJ,hk,l1,gB,jM]
     .simp only[hk,hm,not_false_eq_true,and_self,if_true]
      obtain⟨e2,_⟩:=hE y hk
      have hb:gr (ρC bk H (.str x) (rf x) E (prs rf seen)) []=some ((.nx,ρC bk H (.str y) (rf y) E (prs rf (seen++[x]))),[]):=by
       unfold gr;rw[a9 ap,a9 (nm _),hx];have l1:=li y;rw[decide_eq_false hm] at l1;simp[ρC,nmD,b1,hJ,hk,l1,e2]
      rw[jI hc hb];obtain⟨ρ',q⟩:=yt b1 hl hE f F y (seen++[x]) (h.next hk hm) (by omega);rw[SH] at q;exact⟨ρ',q⟩
    .simp only[hk,false_and,if_false]
     refine⟨ρC bk H (.str y) (rf x) E (prs rf (seen++[x])),.inl (sk hc ?_)⟩;unfold gr;rw[a9 ap,a9 (nm _),hx];simp[ρC,nmD,b1,hJ,hk,gB,jM]
def ρV(bk H n:Pa)(acc sn:List Pa)(o:Option D.W):Rho:=[some (.d bk),some (.d H),some (.d n),some (.loc (.list acc)),some (.loc (.list sn)),o]
def rwC:FT:=(b9 (av (af inA (aa 2) (af ixD (aa 0) (fC (.int 1))))) (av (af du (aa 2) (aa 4))))
theorem yJ(b1:ixD bk (.int 1)=some (.dict R0))(x:Str)(acc:List Pa)(seen:List Str)(o:Option D.W):rwC (ρV bk H (.str x) acc (nl seen) o) []=some ((ay R0 x).isSome&&!decide (x∈seen),[]):=by
 have i:=yU x seen;have o2:op2 du [] (.d (.str x)) (.loc (.list (nl seen)))=mkD [] (du (.str x) (.list (nl seen))):=rfl
 cases hk:(ay R0 x).isSome <;> simp[rwC,ρV,b1,hk,o2,i]
theorem Iv:nl l++[.str x]=nl (l++[x]):=by simp[nl]
theorem Hj(h:Rz d)(n:isNone d=false):(fIf (av (af eqD (af ixD (aa 5) (fC (.int 0))) (fC (.str "read")))) (aF 2 (af ixD (aa 5) (fC (.int 2)))) (fIf (av (af eqD (af ixD (aa 5) (fC (.int 0))) (fC (.str "wanted")))) (aF 2 (af ixD (aa 5) (fC (.int 1)))) aD)) (ρV bk H (.str x) acc sn (some (.d d))) []=some ((.nx,ρV bk H (.str ((nxt d).getD x)) acc sn (some (.d d))),[]):=by
 cases h with
 |non=>cases n
 |rd k x u w=>simp[ρV,nxt,a50,a52]
 |wt b u=>simp[ρV,nxt]
 |no=>simp[ρV,nxt,t1]
 |rc=>simp[ρV,nxt,t1]
theorem xa(b1:ixD bk (.int 1)=some (.dict R0))(hl:R0.length<=900)(hE:∀x,(ay R0 x).isSome=true->eg [.d bk,.d H,.d (.str x)] []=some (rf x,[])/\Rz (rf x)):∀(f F:Nat) (x:Str) (seen:List Str) (o:Option D.W),Un1 R0 x seen f->f<F ->
  ∃ρ',bi rwC gY F (ρV bk H (.str x) (prs rf seen) (nl seen) o) []=some ((.rt (.list (prs rf (seen++eS R0 rf f x seen))),ρ'),[])\/(bi rwC gY F (ρV bk H (.str x) (prs rf seen) (nl seen) o) []=some ((.nx,ρ'),[])/\∃n sn o',ρ'=ρV bk H n (prs rf (seen++eS R0 rf f x seen)) sn o')
 |0,F,x,seen,o,h,_=>by have:=h.len;have:=h.hf;omega
 |f+1,0,_,_,_,_,hF=>by omega
 |f+1,F+1,x,seen,o,h,hF=>by
  obtain⟨e1,z⟩:=hE x (h.ks x (by simp))
  have nx:x∉seen:=fun q=>by
   have:=h.nd;rw[Qz] at this;exact this.2.2 x q x (by simp) rfl
  have hc:=yJ b1 x (prs rf seen) seen o (H:=H);rw[h.ks x (by simp),decide_eq_false nx] at hc;have ln:=h.len;have hz:seen.length<sizeLine:=QC (PL (Wn ln) hl) (by decide)
  have h1:aF 5 (au eg (ae (aa 0) (ae (aa 1) (ae (aa 2) ah)))) (ρV bk H (.str x) (prs rf seen) (nl seen) o) []=some ((.nx,ρV bk H (.str x) (prs rf seen) (nl seen) (some (.d (rf x)))),[]):=by simp[ρV,e1]
  unfold eS
  cases hn:isNone (rf x) with
  |true=>
   refine⟨ρV bk H (.str x) (prs rf seen) (nl seen) (some (.d (rf x))),.inl (yG hc ?_)⟩;unfold gY;rw[a9 h1];simp[ρV,isD,hn]
  |false=>
   have h2:fIf (av (af isD (aa 5) (fC .none))) (aB (aa 3)) aD (ρV bk H (.str x) (prs rf seen) (nl seen) (some (.d (rf x)))) []=some ((.nx,ρV bk H (.str x) (prs rf seen) (nl seen) (some (.d (rf x)))),[]):=by simp[ρV,isD,hn]
   have h3:b6 3 (aA .tuple (ae (aa 2) (ae (aa 5) ah))) (ρV bk H (.str x) (prs rf seen) (nl seen) (some (.d (rf x)))) []=some ((.nx,ρV bk H (.str x) (prs rf (seen++[x])) (nl seen) (some (.d (rf x)))),[]):=by
    rw[←xo];simp[ρV,rM,hz]
   have h4:b6 4 (aa 2) (ρV bk H (.str x) (prs rf (seen++[x])) (nl seen) (some (.d (rf x)))) []=some ((.nx,ρV bk H (.str x) (prs rf (seen++[x])) (nl (seen++[x])) (some (.d (rf x)))),[]):=by
    rw[←Iv];simp[ρV,b8,hz]
   have hb:gY (ρV bk H (.str x) (prs rf seen) (nl seen) o) []=some ((.nx,ρV bk H (.str ((nxt (rf x)).getD x)) (prs rf (seen++[x])) (nl (seen++[x])) (some (.d (rf x)))),[]):=by
    unfold gY;rw[a9 h1,a9 h2,a9 h3,a9 h4];exact Hj z hn
   rw[jI hc hb];obtain⟨F,rfl⟩:=bj F (by omega);have fin:∀y,((ay R0 y).isSome&&!decide (y∈seen++[x]))=false->bi rwC gY (F+1) (ρV bk H (.str y) (prs rf (seen++[x])) (nl (seen++[x])) (some (.d (rf x)))) []=some ((.nx,ρV bk H (.str y) (prs rf (seen++[x])) (nl (seen++[x])) (some (.d (rf x)))),[]):=fun y q=>jB (by rw[yJ b1 y,q])
   cases hx:nxt (rf x) with
   |none=>exact⟨_,.inr ⟨fin x (by simp),_,_,_,rfl⟩⟩
   |some y=>
    by_cases hk:(ay R0 y).isSome=true/\y∉seen++[x]
    .simp only[hk,not_false_eq_true,and_self,if_true]
     obtain⟨ρ',q⟩:=xa b1 hl hE f (F+1) y (seen++[x]) (some (.d (rf x))) (h.next hk.1 hk.2) (by omega);rw[SH] at q;exact⟨ρ',q⟩
    .simp only[hk,if_false]
     refine⟨_,.inr ⟨fin y ?_,_,_,_,rfl⟩⟩;rw[Wl];intro q;rw[Po] at q;exact hk ⟨q.1,by simpa using q.2⟩
theorem AC(h:(ay R0 x).isSome=true):Un1 R0 x [] (R0.length+1):=⟨by simp,fun y hy=>by rw[Pl.mp hy];exact h,by simp⟩
def ip(R0:Dc)(rf:Str->Pa)(x:Str):List Str:=eS R0 rf (R0.length+1) x []
theorem KW(b1:ixD bk (.int 1)=some (.dict R0))(hl:R0.length<=900)(hE:∀x,(ay R0 x).isSome=true->eg [.d bk,.d H,.d (.str x)] []=some (rf x,[])/\Rz (rf x))(h:(ay R0 x).isSome=true):iI [.d bk,.d H,.d (.str x)] []=some (.list (prs rf (ip R0 rf x)),[]):=by
 obtain⟨ρ',q⟩:=xa b1 hl hE (R0.length+1) 100000 x [] none (AC h) (by omega);rw[So] at q;rw[EL,mi];simp only[kQ,kR,if_true];show df (ak _ _ [some (.d bk),some (.d H),some (.d (.str x)),none,none,none] [])=_;rw[a9 (ρ1:=[some (.d bk),some (.d H),some (.d (.str x)),some (.loc (.list [])),none,none]) (T1:=[]) (by simp)];rw[a9 (ρ1:=ρV bk H (.str x) (prs rf []) (nl []) none) (T1:=[]) (by unfold ρV;simp[prs,nl])]
 rcases q with q|⟨q,n,sn,o',rfl⟩
 .show df (bnd (bi rwC gY 100000 _ []) _)=_
  rw[q];rfl
 .unfold rwC at q
  rw[a9 (a:=bi _ _ _) q];simp[ρV];rfl
theorem Fv(b1:ixD bk (.int 1)=some (.dict R0))(hl:R0.length<=900)(ee:gS [.d bk] []=some (E,[]))(hR:∀x,(ay R0 x).isSome=true->eg [.d bk,.d H,.d (.str x)] []=some (rf x,[]))(hE:∀x,(ay R0 x).isSome=true->dq [.d E,.d (.dict R0),.d H,.d (.str x)] []=some (rf x,[])/\Rz (rf x))(h:(ay R0 x).isSome=true):gx [.d bk,.d H,.d (.str x)] []=some (.list (prs rf (ip R0 rf x)),[]):=by
 obtain⟨ρ',q⟩:=yt b1 hl hE (R0.length+1) 100000 x [] (AC h) (by omega);rw[So] at q;rw[B0];show (if cC _=true then jS (ak _ _ [some (.d bk),some (.d H),some (.d (.str x)),none,none,none] []) else none)=_;rw[if_pos (show cC _=true from rfl)];rw[a9 (ρ1:=[some (.d bk),some (.d H),some (.d (.str x)),some (.d (rf x)),none,none]) (T1:=[]) (by simp[hR x h])];rw[a9 (ρ1:=[some (.d bk),some (.d H),some (.d (.str x)),some (.d (rf x)),some (.d E),none]) (T1:=[]) (by simp[ee])];rw[a9 (ρ1:=ρC bk H (.str x) (rf x) E (prs rf [])) (T1:=[]) (by unfold ρC;simp[prs])]
 rcases q with q|⟨q,q5⟩
 .show jS (bnd (bi csC gr 100000 _ []) _)=_
  rw[q];rfl
 .unfold csC at q
  rw[a9 (a:=bi _ _ _) q];show jS (jM ρ' [] ρ'[5]?)=_;rw[q5];rfl
end
section
variable {p:Bool}{n:Nat}{D0 R0:Dc}
theorem zG(B:Bk p n D0 R0)(x:Str)(T:Tp):(∃r,ay R0 x=some r/\gU [.d (bkD D0 R0),.d (.str x)] T=some (.str "made",T))\/(ay R0 x=none/\∃w,w≠"made"/\gU [.d (bkD D0 R0),.d (.str x)] T=some (.str (Pc w),T)):=by
 cases hr:ay R0 x with
 |some r=>exact .inl ⟨r,rfl,by simp[gU,bkD,(B.rg hr).2,hr]⟩
 |none=>
  cases hd:ay D0 x with
  |some v=>exact .inr ⟨rfl,"told",by decide,by simp[gU,bkD,hd]⟩
  |none=>exact .inr ⟨rfl,"lacks",by decide,by simp[gU,bkD,hd,hr]⟩
theorem vJ(B:Bk p n D0 R0)(hr:ay R0 x=none)(w:Int)(hw:w=0\/w=1):fM [.d (.int w),.d (bkD D0 R0),.d H,.d (.str x)] []=some (.bool true,[]):=by
 rcases zG B x [] with⟨r,hr',_⟩|⟨_,s,hs,so⟩
 .rw[hr] at hr';cases hr'
 .rcases hw with rfl|rfl
  .simp[fM,XO.ma,XO.me,XO.fq,qL,kz,XO.mkX,XO.mC,so,hs]
  .simp[fM,XO.ma,XO.me,XO.fq,kz,XO.mkX,XO.mC,so,hs]
theorem KY(B:Bk p n D0 R0)(ee:gS [.d (bkD D0 R0)] []=some (.dict E,[]))(hk:(ay R0 x).isSome=true)(hd:dq [.d (.dict E),.d (.dict R0),.d (.dict H),.d (.str x)] []=some (d,[])):eg [.d (bkD D0 R0),.d (.dict H),.d (.str x)] []=some (d,[]):=by
 have b1:ixD (bkD D0 R0) (.int 1)=some (.dict R0):=rfl
 rcases zG B x [] with⟨r,hr,so⟩|⟨hr,_⟩
 .simp[eg,so,ee,b1,hd]
 .rw[hr] at hk;cases hk
end
theorem KB(h:Hx y):Go 64 y:=by
 obtain⟨t,nn,rs,a,b,rfl,hv,hb,_,ht,hn,ha⟩:=h;refine(fY (n:=3) (dU ht) ?_).up (by decide);refine pT (n:=2) (dU hn) (iX fun d hd=>?_) ((lY ha hb).up (by decide));obtain⟨q,hq,rfl⟩:=Pq.mp hd;exact fY (n:=0) (dU (eO (hv q hq).2)) (dU (gE (hv q hq).1))
theorem IX(h:∀d∈ds,Go n d):Go (n+1) (.list ds):=by
 have a:=sL h;exact⟨by simp[RU,a.1],by have:=a.2;simp only[U8];omega⟩
theorem vT:∀(f:Nat) (x:Str) (seen:List Str),(ay R0 x).isSome=true->∀y∈eS R0 rf f x seen,(ay R0 y).isSome=true
 |0,x,seen,_,y,hy=>by cases hy
 |f+1,x,seen,h,y,hy=>by
  unfold eS at hy;split at hy
  .cases hy
  .rcases Pt.mp hy with z|z
   .rw[z];exact h
   .cases hx:nxt (rf x) with
    |none=>rw[hx] at z;cases z
    |some w=>
     rw[hx] at z;dsimp only at z;split at z
     .rename_i hw
      exact vT f w _ hw.1 y z
     .cases z
theorem vS:∀(f:Nat) (x:Str) (seen:List Str),(eS R0 rf f x seen).length<=f
 |0,x,seen=>Pm _
 |f+1,x,seen=>by
  unfold eS;split
  .exact QE _
  .rw[PH]
   refine WC ?_;split
   .split
    .exact vS f _ _
    .exact QE _
   .exact QE _
def ρW(sc:Pa)(l:List Str)(d r:Dl)(H:Dc)(o5 o6 o7:Option D.W):Rho:=[some (.d sc),some (.d (.list (nl l))),some (.d (bkL d r)),some (.d (.dict H)),some (.d (.tuple [bkL d r,.dict H])),o5,o6,o7]
theorem Gu(h1:l.length<=20)(hln:∀s∈l,isName (.str s)=true)(hb:Bd l d r)(hs:Snd (aI d) (aI r) G)(hd:Sub (aI d) G)(hc:∀x,ClsAt (aI r) G x)(hH:∀x y,ay H x=some y->Hx y)(x:Str) :
  ∃o6' o7',ly (ρW sc l d r H (some (.d (.str x))) o6 o7) []=some ((.nx,ρW sc l d r H (some (.d (.str x))) o6' o7'),[]):=by
 have B:=hb.bk h1;obtain⟨G1,E,ee,s1,d1,c1,he1⟩:=JC B (by rw[nv];exact sY hb.t.nd);have he:∀x,ay E x=eF (aI d) (aI r) G x:=fun x=>(he1 x).trans (GW B (Dx B d1 s1 c1 hd hs hc) (s1.gv B) x)
 have sh:∀x r0,ay (aI r) x=some r0->∃t,∀T,jn [.d r0] T=some (.str t,T):=fun x r0 hr=>by
  rw[dR] at hr;obtain⟨t,_,q,_⟩:=yB (hb.m.look hr) (by decide);exact⟨t,q⟩
 have b1:ixD (bkL d r) (.int 1)=some (.dict (aI r)):=rfl
 cases hr:ay (aI r) x with
 |none=>
  have f0:fM [.d (.int 0),.d (bkL d r),.d (.dict H),.d (.str x)] []=some (.bool true,[]):=vJ B hr 0 (.inl rfl);have f1:fM [.d (.int 1),.d (bkL d r),.d (.dict H),.d (.str x)] []=some (.bool true,[]):=vJ B hr 1 (.inr rfl);exact⟨o6,o7,by simp[ly,ρW,b1,hr,f0,f1]⟩
 |some r0=>
  have hk:(ay (aI r) x).isSome=true:=by rw[hr];rfl
  obtain⟨rf,hrf⟩:∃rf:Str->Pa,∀x,(ay (aI r) x).isSome=true->dq [.d (.dict E),.d (.dict (aI r)),.d (.dict H),.d (.str x)] []=some (rf x,[])/\Go 2 (rf x)/\Rz (rf x):=by
   refine⟨fun x=>((dq [.d (.dict E),.d (.dict (aI r)),.d (.dict H),.d (.str x)] []).map (·.1)).getD .none,fun x hx=>?_⟩;obtain⟨r1,hr1⟩:=Qh.mp hx;obtain⟨w,q1,q2⟩:=Ft B hs hd hc he hH sh hr1
   have er:((dq [.d (.dict E),.d (.dict (aI r)),.d (.dict H),.d (.str x)] []).map (·.1)).getD .none=w:=by rw[q1];rfl
   dsimp only;rw[er];exact⟨q1,q2⟩
  have hl:(aI r).length<=900:=by have:=B.len;omega
  have hE:∀x,(ay (aI r) x).isSome=true->dq [.d (.dict E),.d (.dict (aI r)),.d (.dict H),.d (.str x)] []=some (rf x,[])/\Rz (rf x):=fun x hx=>⟨(hrf x hx).1,(hrf x hx).2.2⟩;have hF:∀x,(ay (aI r) x).isSome=true->eg [.d (bkL d r),.d (.dict H),.d (.str x)] []=some (rf x,[]):=fun x hx=>KY B ee hx (hrf x hx).1;have e1:iI [.d (bkL d r),.d (.dict H),.d (.str x)] []=some (.list (prs rf (ip (aI r) rf x)),[]):=KW b1 hl (fun x hx=>⟨hF x hx,(hrf x hx).2.2⟩) hk;have e2:gx [.d (bkL d r),.d (.dict H),.d (.str x)] []=some (.list (prs rf (ip (aI r) rf x)),[]):=Fv b1 hl ee hF hE hk;have kn:∀y∈ip (aI r) rf x,(ay (aI r) y).isSome=true:=vT _ _ _ hk
  have gl:Go 4 (.list (prs rf (ip (aI r) rf x))):=IX fun z hz=>by
   obtain⟨y,hy,rfl⟩:=Pq.mp hz;obtain⟨r1,hr1⟩:=Qh.mp (kn y hy);refine fY (dU (eO ?_)) (hrf y (kn y hy)).2.1;rw[dR] at hr1;exact hln _ (hb.m.ok _ (lc hr1)).2
  have n1:=ne_self (gl.up (by decide:4<=64)).shp
  have ln:(prs rf (ip (aI r) rf x)).length<sizeLine:=by rw[rM];exact QC (vS _ _ _) (by have:=B.len;exact QC (by omega:(aI r).length+1<=901) (by decide))
  generalize hD:prs rf (ip (aI r) rf x)=D at e1 e2 gl n1 ln
  have al:∀z∈D,∃ds,z=.tuple ds:=fun z hz=>by
   rw[←hD] at hz;obtain⟨y,_,rfl⟩:=Pq.mp hz;exact⟨_,rfl⟩
  have s1:aF 6 (au iI (ae (aa 2) (ae (aa 3) (ae (aa 5) ah)))) (ρW sc l d r H (some (.d (.str x))) o6 o7) []=some ((.nx,ρW sc l d r H (some (.d (.str x))) (some (.d (.list D))) o7),[]):=by simp[ρW,e1]
  have s2:lL 7 gx (ae (af ixD (aa 4) (fC (.int 0))) (ae (af ixD (aa 4) (fC (.int 1))) (ae (aa 5) ah))) (ρW sc l d r H (some (.d (.str x))) (some (.d (.list D))) o7) []=some ((.nx,ρW sc l d r H (some (.d (.str x))) (some (.d (.list D))) (some (.loc (.list D)))),[]):=by simp[ρW,lL,e2,yI]
  have cm:∀ρ:Rho,bD bu (fUn (bv .tup) (aa 0)) ρ D []=some (D.map fun _=>.bool true,[]):=fun ρ=>eE fun z hz=>by
   obtain⟨ds,rfl⟩:=al z hz;simp
  have at':gi [.list (D.map fun _=>.bool true)]=some (.bool true):=by
   rw[Jg (fun _=>true)];simp
  have s3:fIf (cF (bL (bg (fUn (bv .lst) (aa 7)))) (av (af neG (aa 7) (aa 6)))) (aB (fC (.bool false))) aD (ρW sc l d r H (some (.d (.str x))) (some (.d (.list D))) (some (.loc (.list D)))) []=some ((.nx,ρW sc l d r H (some (.d (.str x))) (some (.d (.list D))) (some (.loc (.list D)))),[]):=by
   have o2:op2 neG [] (.loc (.list D)) (.d (.list D))=mkD [] (neG (.list D) (.list D)):=rfl;have o1:op1 (bv .lst) [] (.loc (.list D))=mkD [] (some (.bool true)):=rfl;simp[ρW,n1,o1,o2]
  have s4':fIf (bL (bg (dZ (fCB gi (ae (bC (bf (aa 7)) bu (fUn (bv .tup) (aa 0))) ah))))) (aB (fC (.bool false))) aD (ρW sc l d r H (some (.d (.str x))) (some (.d (.list D))) (some (.loc (.list D)))) []=some ((.nx,ρW sc l d r H (some (.d (.str x))) (some (.d (.list D))) (some (.loc (.list D)))),[]):=by
   simp[ρW,cm,at',j9,show a7 (.bool true)=true from rfl]
  have s5:b6 7 (fC .none) (ρW sc l d r H (some (.d (.str x))) (some (.d (.list D))) (some (.loc (.list D)))) []=some ((.nx,ρW sc l d r H (some (.d (.str x))) (some (.d (.list D))) (some (.loc (.list (D++[.none]))))),[]):=by simp[ρW,ln]
  refine⟨some (.d (.list D)),some (.d (.list (D++[.none]))),?_⟩;unfold ly;rw[Aj,show av (af c8 (aa 5) (af ixD (aa 2) (fC (.int 1)))) (ρW sc l d r H (some (.d (.str x))) o6 o7) []=some (false,[]) by simp[ρW,b1,hr]];show ak _ _ _ []=_;rw[a9 s1,a9 s2,a9 s3,a9 s4',a9 s5];have fz:frzAt 7 (ρW sc l d r H (some (.d (.str x))) (some (.d (.list D))) (some (.loc (.list (D++[.none])))))=ρW sc l d r H (some (.d (.str x))) (some (.d (.list D))) (some (.d (.list (D++[.none])))):=rfl;unfold qh;rw[fz];simp[ρW,nQ,e2,yw,n1]
def ρU(sc pk b3:Pa)(l:List Str)(b4:Pa)(o5:Option D.W):Rho:=[some (.d sc),some (.d pk),some (.d (.list (nl l))),some (.d b3),some (.d (.list [b4])),o5]
theorem Ht(ns:List Int)(pk:Bool):∃l d q h,kA [.d (scr ns),.d (.bool pk)] []=some (.tuple [.list (nl l),bkL d q,.dict (aI h)],[])/\l.length<=20/\Bd l d q/\Hq l h/\Ns l:=by
 obtain⟨f1,hf1,ef1⟩:=i5 ns 1 (by decide);obtain⟨r1,f1',e1,_,r10,r11⟩:=bG hf1 (m:=5) (by decide) (by decide);obtain⟨f0,hf0,ef0⟩:=i5 ns 0 (by decide);obtain⟨l,f0',e0,hn,nd,hlen⟩:=Hl hf0 (m:=3+r1) (by omega) (by omega)
 have h0:0<l.length:=by omega
 have h20:l.length<=20:=by omega
 obtain⟨d0,q0,eb,hb⟩:=JD hn h0 h20 nd ns (ba:=3) (by decide) pk;obtain⟨f3,hf3,ef3⟩:=i5 ns 10 (by decide);obtain⟨r3,f3',e3,_,r30,r31⟩:=bG hf3 (m:=4) (by decide) (by decide);have o1:∀ρ:Rho,cq aS bS (ae (aa 0) (ae (fC (.int 1)) ah)) (ae (fC (.int 5)) ah) (some (.d (scr ns))::ρ) []=some (.d (.int r1),[]):=fun ρ=>kX (ws:=[.d (scr ns),.d (.int 1)]) (ws2:=[.d (.int 5)]) (by simp) (ef1 []) (by simp) rfl e1;have o0:∀ρ:Rho,cq jq bS (ae (aa 0) (ae (fC (.int 0)) ah)) (ae (af aV (fC (.int 3)) (cq aS bS (ae (aa 0) (ae (fC (.int 1)) ah)) (ae (fC (.int 5)) ah))) ah) (some (.d (scr ns))::ρ) []=some (.d (.list (nl l)),[]):=fun ρ=>kX (ws:=[.d (scr ns),.d (.int 0)]) (ws2:=[.d (.int (3+r1))]) (by simp) (ef0 []) (by simp[o1]) rfl e0;have o3:∀ρ:Rho,cq aS bS (ae (aa 0) (ae (fC (.int 10)) ah)) (ae (fC (.int 4)) ah) (some (.d (scr ns))::ρ) []=some (.d (.int r3),[]):=fun ρ=>kX (ws:=[.d (scr ns),.d (.int 10)]) (ws2:=[.d (.int 4)]) (by simp) (ef3 []) (by simp) rfl e3
 have lp:=jG (i:=5) (body:=mO) (N:=10) (I:=fun _ ρ T=>∃d r o5,ρ=ρU (scr ns) (.bool pk) (bkL d r) l (bkL d0 q0) o5/\T=[]/\Bd l d r) (cP 0 (1+r3).toNat) 0 (ρU (scr ns) (.bool pk) (bkL d0 q0) l (bkL d0 q0) none) [] (by rw[kY];omega) ⟨d0,q0,none,rfl,rfl,hb⟩ (fun k d ρ T hd _ hI=>by
  obtain⟨dd,rr,o5,rfl,rfl,hb'⟩:=hI;obtain⟨j,rfl,j0,j1⟩:=v4 hd;obtain⟨xs,hf,ef⟩:=i5 ns (11+j) (by omega);obtain⟨d2,r2',xs',e,hb2⟩:=Fp hn h0 h20 hb' hf pk;have oc:cq jp bS (ae (aa 0) (ae (af aV (fC (.int 11)) (aa 5)) ah)) (ae (aa 3) (ae (aa 2) (ae (aa 1) ah))) (ρU (scr ns) (.bool pk) (bkL dd rr) l (bkL d0 q0) (some (.d (.int j)))) []=some (.d (bkL d2 r2'),[]):=kX (ws:=[.d (scr ns),.d (.int (11+j))]) (ws2:=[.d (bkL dd rr),.d (.list (nl l)),.d (.bool pk)]) (by simp[ρU]) (ef []) (by simp[ρU]) rfl e;refine⟨ρU (scr ns) (.bool pk) (bkL d2 r2') l (bkL d0 q0) (some (.d (.int j))),[],?_,d2,r2',_,rfl,rfl,hb2⟩;unfold mO;have st:(ρU (scr ns) (.bool pk) (bkL dd rr) l (bkL d0 q0) o5).set 5 (some (.d (.int j)))=ρU (scr ns) (.bool pk) (bkL dd rr) l (bkL d0 q0) (some (.d (.int j))):=rfl;rw[st,oY,oc]
  rfl)
 obtain⟨ρ',T',elp,d1,q1,o5,rfl,rfl,hb1⟩:=lp;obtain⟨h,eh,hq⟩:=Jy hn h0 h20 ns (b:=16) (by decide) hb hb1;refine⟨l,d1,q1,h,?_,h20,hb1,hq,hn⟩;have ro:fX (1+r3)=true:=rng_ok (by omega) (by omega)
 have z2:1+1<=sizeLine:=by decide
 rw[Cw,mi];simp only[kQ,kR,if_true];show df (ak _ _ [some (.d (scr ns)),some (.d (.bool pk)),none,none,none,none] [])=_;rw[a9 (ρ1:=[some (.d (scr ns)),some (.d (.bool pk)),some (.d (.list (nl l))),none,none,none]) (T1:=[]) (by rw[oY,o0];rfl)];rw[a9 (ρ1:=[some (.d (scr ns)),some (.d (.bool pk)),some (.d (.list (nl l))),some (.d (bkL d0 q0)),none,none]) (T1:=[]) (by simp[eb])];rw[a9 (ρ1:=ρU (scr ns) (.bool pk) (bkL d0 q0) l (bkL d0 q0) none) (T1:=[]) (by unfold ρU;simp)]
 have fl:bH 5 (eP (af aV (fC (.int 1)) (cq aS bS (ae (aa 0) (ae (fC (.int 10)) ah)) (ae (fC (.int 4)) ah)))) mO (ρU (scr ns) (.bool pk) (bkL d0 q0) l (bkL d0 q0) none) []=some ((.nx,ρU (scr ns) (.bool pk) (bkL d1 q1) l (bkL d0 q0) o5),[]):=by
  simp only[zq];rw[show eP (af aV (fC (.int 1)) (cq aS bS (ae (aa 0) (ae (fC (.int 10)) ah)) (ae (fC (.int 4)) ah))) (ρU (scr ns) (.bool pk) (bkL d0 q0) l (bkL d0 q0) none) []=some (cP 0 (1+r3).toNat,[]) by unfold ρU;simp[o3,ro]];exact elp
 rw[a9 fl];unfold ρU;simp[z2,eh]
theorem EH:∀ns:List Int,ns.length<=63->∃T',pP [.d (jL ns)] []=some (.bool true,T'):=by
 intro ns _;have scE:jL ns=scr ns:=rfl;obtain⟨f2,hf2,ef2⟩:=i5 ns 2 (by decide);obtain⟨r2,f2',e2,_,r20,r21⟩:=bG hf2 (m:=3) (by decide) (by decide);have o2:∀ρ:Rho,cq aS bS (ae (aa 0) (ae (fC (.int 2)) ah)) (ae (fC (.int 3)) ah) (some (.d (scr ns))::ρ) []=some (.d (.int r2),[]):=fun ρ=>kX (ws:=[.d (scr ns),.d (.int 2)]) (ws2:=[.d (.int 3)]) (by simp) (ef2 []) (by simp) rfl e2;obtain⟨l,d1,q1,h,es,h20,hb1,hq,hn⟩:=Ht ns (decide (r2=0));have B:=hb1.bk h20;obtain⟨G,_,sg,dg,cg⟩:=sj B []
 have hH:∀x y,ay (aI h) x=some y->Hx y:=fun x y e=>by
  rw[dR] at e;exact(hq.ok _ (lc e)).2
 have lq:=jG (i:=5) (body:=ly) (N:=30) (I:=fun _ ρ T=>∃o5 o6 o7,ρ=ρW (scr ns) l d1 q1 (aI h) o5 o6 o7/\T=[]) (nl (l++[Pc "zzzz"])) 0 (ρW (scr ns) l d1 q1 (aI h) none none none) [] (by rw[b8,PN];simp;omega) ⟨_,_,_,rfl,rfl⟩ (fun k d ρ T hd _ hI=>by
  obtain⟨o5,o6,o7,rfl,rfl⟩:=hI;obtain⟨x,_,rfl⟩:=Pq.mp hd;obtain⟨o6',o7',e⟩:=Gu h20 (fun s hs=>(hn s hs).isNm) hb1 sg dg cg hH (sc:=scr ns) (o6:=o6) (o7:=o7) x
  exact⟨_,[],e,_,_,_,rfl,rfl⟩)
 obtain⟨ρ2,T2,elq,o5,o6,o7,rfl,rfl⟩:=lq;refine⟨[],?_⟩
 have za:(nl l).length+1<=sizeLine:=by rw[b8];exact cy (by omega)
 have na:nl l++[.str "zzzz"]=nl (l++[Pc "zzzz"]):=by simp[nl]
 have x0:ixD (bkL d1 q1) (.int 0)=some (.dict (aI d1)):=rfl;have x1:ixD (bkL d1 q1) (.int 1)=some (.dict (aI q1)):=rfl;have eqb:=Jh hb1;have eqh:mD (.dict (aI h)) (.dict (aI h))=some true:=sN hq.nd fun q hq'=>KB (hq.ok q hq').2
 have eqq:eqQ (.tuple [bkL d1 q1,.dict (aI h)]) (.tuple [bkL d1 q1,.dict (aI h)])=some (.bool true):=by
  show (iw [bkL d1 q1,.dict (aI h)] [bkL d1 q1,.dict (aI h)]).map _=_;simp only[iw,eqb,eqh];rfl
 rw[scE,Ez,mi];simp only[kQ,kR,if_true];show df (ak _ _ [some (.d (scr ns)),none,none,none,none,none,none,none] [])=_;rw[a9 (ρ1:=[some (.d (scr ns)),some (.d (.list (nl l))),some (.d (bkL d1 q1)),some (.d (.dict (aI h))),none,none,none,none]) (T1:=[]) (by simp[pU,o2,es];rfl)];rw[a9 (ρ1:=ρW (scr ns) l d1 q1 (aI h) none none none) (T1:=[]) (by unfold ρW;simp[x0,x1];rfl)]
 have it:bf (af aV (aa 1) (aA .list (ae (fC (.str "zzzz")) ah))) (ρW (scr ns) l d1 q1 (aI h) none none none) []=some (nl (l++[Pc "zzzz"]),[]):=by
  unfold ρW;rw[←na];simp[za]
 rw[a9 (a:=bH 5 _ _) (by rw[zq,it];exact elq)];unfold ρW;simp[eqq]
def top(i:Nat):Stmt:=PySem.Challenge.pw_redo_k45_rows_of_causes.main.body.getD i (.Pass ⟨0,0,0,0⟩)
abbrev zS:List (Str×Nat):=("is_whole",8)::("has_only",9)::("is_name",10)::("is_single",11)::("is_built",12)::("many_of",14)::("is_value",13)::("exprs_within",16)::("sort_at",19)::("stamp_of",37)::("filling_words",42)::("expr_words",41)::("recipe_words",40)::("show_recipe",39)::("told_less",51)::("bounded",46)::("told_many",47)::("told_part",48)::("told_sum",49)::("told_join",50)::("told_of",45)::("told_by",44)::("step_of",53)::("end_by",63)::("line_from",62)::("lines_from",61)::("start_of",57)::("awaited_at",59)::("given",60)::("gone_on",58)::("made_afresh",56)::("lines_of",55)::("ends_now",66)::("own_line",67)::("otherwise_now",68)::("reason_by",71)::("reason_for",70)::("named_by",73)::("causes",72)::("_law_feed",75)::("_law_next",76)::("_law_names",77)::("_law_value",78)::("_law_weight",79)::("_law_kept",80)::("_law_stamp",81)::("_law_of_two",82)::("_law_told",83)::("_law_is_name",84)::("_law_follow",85)::("_law_good",86)::("_law_show_expr",87)::("_law_show",88)::("_law_expr",89)::("_law_wanted",90)::("_law_recipe",91)::("_law_any_recipe",92)::("_law_book",93)::("_law_turned",94)::("_law_held",95)::("_law_start",96)::("_law_row",97)::("_law_is_refused",98)::("law",99)::[]
abbrev zZ:List Str:=["ValueError","abs","all","bool","dict","enumerate","int","isinstance","len","list","max","range","str","sum","tuple"]
abbrev zI:List (Str×Int):=[("MOST_LETTERS",8),("MOST_PARTS",8),("MOST_ROWS",4),("MOST_SIGNS",20),("MOST_VALUES",40)]
abbrev zT:List (Str×Str):=[("LETTERS","abcdefghijklmnopqrstuvwxyz"),("TEXT_SIGNS","abcdefghijklmnopqrstuvwxyz0123456789-")]
abbrev zN:List Str:="BadLine"::"BadPaper"::"BadWord"::"Dishonest"::"NoLine"::"NoName"::"NoPaper"::"NoRecipe"::"NoRow"::"NotMade"::"NotReady"::"NoValue"::"TooMany"::[]
structure Bi(K:Frag)(mg:Str->Option Pb)(C R:Addr):Prop extends Bz K mg zZ zI zT where
 xj:XO.XJ K C R
 xm:mg "NoThing"=some (.ref C)
 xr:mg "RedoError"=some (.ref R)
 xk:XO.NM K mg C zN
 g_GETTING:tQ K mg "GETTING" ["want","peek"]
 g_LACKS:tQ K mg "LACKS" ["lacks"]
section
variable {P:Px}{w:PY}{K:Frag}{mg:Str->Option Pb}{base:Heap}{C R:Addr}(E:Ev P w K mg base (Bi K mg C R) top zS)
include E
theorem gT:Fn P w K mg base "is_whole" ["thing"] 1 (spM K 1 fm):=aX E 8 ["thing"] fun B S hr=>(az (aE (jW (bK .int B.z (ag 0) B.z SS) (ph (Jn (bK .bl B.z (ag 0) B.z boot_bool))))))
theorem uG:Fn P w K mg base "has_only" ["text","signs"] 1 (spM K 2 iH):=aX E 9 ["text","signs"] fun B S hr=>(az (aE (bx pW rfl B.z Xo (ai (dP (top 9) ["text","signs"] (bO (ag 0)) (fu ji (ag 0) (ag 2))) aq))))
theorem DD:Fn P w K mg base "is_name" ["thing"] 2 (spM K 1 jv):=aX E 10 ["thing"] fun B S hr=>(az (aE (jW (bK .str B.z (ag 0) B.z Rw) (jW (Fb d8 d8 aj (bx bQ rfl B.z QA (ai (ag 0) aq)) (lm rfl B.i)) (ph (a8 (uG E) hr (ag 0) (wG rfl B.s)))))))
theorem B9:Fn P w K mg base "is_single" ["thing"] 2 (spM K 1 kF):=aX E 11 ["thing"] fun B S hr=>(ax (aK (bz (aZ (gT E) hr (ag 0))) (az (aE (fu d8 (bx Aq rfl B.z boot_abs (ai (ag 0) aq)) (aU j4 aj aj)))) aL) (az (aE (jW (bK .str B.z (ag 0) B.z Rw) (jW (fu d8 (bx bQ rfl B.z QA (ai (ag 0) aq)) (lm rfl B.i)) (ph (a8 (uG E) hr (ag 0) (wG rfl B.s))))))))
theorem CH:∀n,Fn P w K mg base "is_built" ["thing","rows_left"] (2+n) (spM K 2 (fO n)):=dw (dJ E 12) fun n ih=>aX (k:=2+n) E 12 ["thing","rows_left"] fun B S hr=>(ax (aK (cH (bz (bK .tup B.z (ag 0) B.z QI))) (az (aE (aZ (B9 E) hr (ag 0)))) aL) (ax (aK (bW (dH (aG aT (ag 1) aj) (dW (aG iq (bx bQ rfl B.z QA (ai (ag 0) aq)) (lm rfl B.i))))) (az (aE eQ)) aL) (az (aE (bx pW rfl B.z Xo (ai (dP (top 12) ["thing","rows_left"] (bO (ag 0)) (a8 ih hr (ag 0) (aU i8 (ag 2) aj))) aq))))))
theorem DC:∀n,Fn P w K mg base "many_of" ["value"] (0+n) (spM K 1 (iJ n)):=dw (dJ E 14) fun n ih=>aX (k:=0+n) E 14 ["value"] fun B S hr=>(ax (aK (cH (bz (bK .tup B.z (ag 0) B.z QI))) (az (aE aj)) aL) (az (aE (aU bt aj (bx Ap rfl B.z boot_sum (ai (dP (top 14) ["value"] (bO (ag 0)) (aZ ih hr (ag 0))) aq))))))
theorem CG:Fn P w K mg base "is_value" ["thing"] 28 (spM K 1 kL):=aX E 13 ["thing"] fun B S hr=>(az (aE (jW (a8 (CH E 25) hr (ag 0) (lm rfl B.i)) (ph (fu d8 (aZ (DC E 25) hr (ag 0)) (lm rfl B.i))))))
theorem t6:Fn P w K mg base "exprs_within" ["expr"] 1 (spM K 1 cW):=aX E 16 ["expr"] fun B S hr=>(ax (aK (bW (dH (aG aT (ao ar (ag 0) aj) aC) (dW (aG aT (ao ar (ag 0) aj) aC)))) (az (aE (cz aq))) aL) (ax (aK (aG aT (ao ar (ag 0) aj) aC) (az (aE (cx zD rfl B.z Ye (ai (ao ar (ag 0) aj) aq)))) aL) (az (aE (cx zD rfl B.z Ye (ai (f6 (ag 0) (fR aj) fS) aq))))))
theorem vn:Fn P w K mg base "sort_at" ["book","name"] 1 (spM K 2 gU):=aX E 19 ["book","name"] fun B S hr=>(ax (aK (aG (lS hr) (ag 1) (ao ar (ag 0) aj)) (az (aE aC)) aL) (ax (aK (aG (lS hr) (ag 1) (ao ar (ag 0) aj)) (az (aE aC)) aL) (az (aE aC))))
theorem mL:∀n,Fn P w K mg base "stamp_of" ["value"] (1+n) (spM K 1 (dr n)):=dw (dJ E 37) fun n ih=>aX (k:=1+n) E 37 ["value"] fun B S hr=>(ax (aK (bz (aZ (gT E) hr (ag 0))) (az (aE (cx ki rfl B.z Rw (ai (ag 0) aq)))) aL) (ax (aK (bz (bK .str B.z (ag 0) B.z Rw)) (az (aE (aU bt aC (ag 0)))) aL) (az (aE (aU bt (aU bt aC (yn aC (dP (top 37) ["value"] (bO (ag 0)) (aZ ih hr (ag 0))))) aC)))))
theorem Bv:Fn P w K mg base "filling_words" ["expr"] 27 (spM K 1 gO):=aX E 42 ["expr"] fun B S hr=>(ax (aK (aG aT (ao ar (ag 0) aj) aC) (az (aE (cz (ai (aZ (mL E 25) hr (ao ar (ag 0) aj)) aq)))) aL) (ax (aK (aG aT (ao ar (ag 0) aj) aC) (az (aE (cz (ai (cx ki rfl B.z Rw (ai (ao ar (ag 0) aj) aq)) aq)))) aL) (ax (aK (aG aT (ao ar (ag 0) aj) aC) (az (aE (cz (ai (cx ki rfl B.z Rw (ai (bx bQ rfl B.z QA (ai (ao ar (ag 0) aj) aq)) aq)) aq)))) aL) (az (aE (cz aq))))))
theorem BV:∀n,Fn P w K mg base "expr_words" ["expr"] (27+n) (spM K 1 (ff n)):=dw (dJ E 41) fun n ih=>aX (k:=27+n) E 41 ["expr","words","part"] fun B S hr=>(ax (yi (i:=1) S.nd (cz (ai (ao ar (ag 0) aj) aq)) (aZ (Bv E) hr (ag 0))) (ax (dY (i:=2) S.nd (bO (aZ (t6 E) hr (ag 0))) (az (zw (i:=1) (by exact(aZ ih hr (ag 2)))))) (az (aE (ag 1)))))
theorem By:∀n,Fn P w K mg base "recipe_words" ["recipe"] (52+n) (spM K 1 (gj n)):=dw (dJ E 40) fun n ih=>aX (k:=52+n) E 40 ["recipe","words","part"] fun B S hr=>(ax (aK (aG aT (ao ar (ag 0) aj) aC) (az (aE (cz (ai (ao ar (ag 0) aj) (ai (ao ar (ag 0) aj) aq))))) aL) (ax (yi (i:=1) S.nd (cz (ai (ao ar (ag 0) aj) aq)) (aZ (BV E 25) hr (ao ar (ag 0) aj))) (ax (dY (i:=2) S.nd (bO (f6 (ag 0) (fR aj) fS)) (az (zw (i:=1) (by exact(aZ ih hr (ag 2)))))) (az (aE (ag 1))))))
theorem BF:Fn P w K mg base "show_recipe" ["recipe"] 78 (spM K 1 jn):=aX E 39 ["recipe"] fun B S hr=>(az (aE (rq aC (aZ (By E 25) hr (ag 0)))))
theorem B6:Fn P w K mg base "told_less" ["one","other"] 2 (spM K 2 gQ):=aX E 51 ["one","other"] fun B S hr=>(ax (aK (bW (dH (cH (bz (aZ (gT E) hr (ag 0)))) (dW (cH (bz (aZ (gT E) hr (ag 1))))))) (az (aE (aJ (ai aC (ai aC aq))))) aL) (az (aE (aJ (ai aC (ai (cR (aG dM (ag 0) (ag 1)) aj aj) aq))))))
theorem mW:Fn P w K mg base "bounded" ["thing"] 29 (spM K 1 gW):=aX E 46 ["thing"] fun B S hr=>(az (aE (cR (bz (aZ (CG E) hr (ag 0))) (aJ (ai aC (ai (ag 0) aq))) (aJ (ai aC (ai aC aq))))))
theorem B5:Fn P w K mg base "told_many" ["value"] 2 (spM K 1 kB):=aX E 47 ["value"] fun B S hr=>(ax (aK (bz (aZ (gT E) hr (ag 0))) (az (aE (aJ (ai aC (ai aC aq))))) aL) (az (aE (aJ (ai aC (ai (bx bQ rfl B.z QA (ai (ag 0) aq)) aq))))))
theorem B4:Fn P w K mg base "told_part" ["row","number"] 2 (spM K 2 gm):=aX E 48 ["row","number"] fun B S hr=>(ax (aK (bW (dH (cH (bz (bK .tup B.z (ag 0) B.z QI))) (dW (cH (bz (aZ (gT E) hr (ag 1))))))) (az (aE (aJ (ai aC (ai aC aq))))) aL) (ax (aK (cH (rp d8 dM aj (ag 1) (bx bQ rfl B.z QA (ai (ag 0) aq)))) (az (aE (aJ (ai aC (ai aC aq))))) aL) (az (aE (aJ (ai aC (ai (ao ar (ag 0) (ag 1)) aq)))))))
theorem CA:Fn P w K mg base "told_sum" ["one","other"] 30 (spM K 2 iG):=aX E 49 ["one","other"] fun B S hr=>(ax (aK (bW (dH (cH (bz (aZ (gT E) hr (ag 0)))) (dW (cH (bz (aZ (gT E) hr (ag 1))))))) (az (aE (aJ (ai aC (ai aC aq))))) aL) (az (aE (aZ (mW E) hr (aU bt (ag 0) (ag 1))))))
theorem B7:Fn P w K mg base "told_join" ["one","other"] 30 (spM K 2 gp):=aX E 50 ["one","other"] fun B S hr=>(ax (aK (bW (dX (bz (bK .str B.z (ag 0) B.z Rw)) (eK (bz (bK .str B.z (ag 1) B.z Rw))))) (az (aE (aZ (mW E) hr (aU bt (ag 0) (ag 1))))) aL) (ax (aK (bW (dX (bz (bK .tup B.z (ag 0) B.z QI)) (eK (bz (bK .tup B.z (ag 1) B.z QI))))) (az (aE (aZ (mW E) hr (aU bt (ag 0) (ag 1))))) aL) (az (aE (aJ (ai aC (ai aC aq)))))))
theorem Dz:Fn P w K mg base "told_of" ["word","parts"] 31 (spM K 2 bq):=aX E 45 ["word","parts"] fun B S hr=>(ax (aK (aG aT (ag 0) aC) (az (aE (aZ (mW E) hr (cx gA rfl B.z QI (ai (ag 1) aq))))) aL) (ax (aK (aG aT (ag 0) aC) (az (aE (aZ (B5 E) hr (ao ar (ag 1) aj)))) aL) (ax (aK (aG aT (ag 0) aC) (az (aE (a8 (B4 E) hr (ao ar (ag 1) aj) (ao ar (ag 1) aj)))) aL) (ax (aK (aG aT (ag 0) aC) (az (aE (a8 (CA E) hr (ao ar (ag 1) aj) (ao ar (ag 1) aj)))) aL) (ax (aK (aG aT (ag 0) aC) (az (aE (a8 (B7 E) hr (ao ar (ag 1) aj) (ao ar (ag 1) aj)))) aL) (ax (aK (aG aT (ag 0) aC) (az (aE (aJ (ai aC (ai (cR (aG (z6 hr) (ao ar (ag 1) aj) (ao ar (ag 1) aj)) aj aj) aq))))) aL) (az (aE (a8 (B6 E) hr (ao ar (ag 1) aj) (ao ar (ag 1) aj))))))))))
theorem DB:∀n,Fn P w K mg base "told_by" ["expr","got"] (31+n) (spM K 2 (dD n)):=dw (dJ E 44) fun n ih=>aX (k:=31+n) E 44 ["expr","got","parts","inner","told"] fun B S hr=>(ax (aK (aG aT (ao ar (ag 0) aj) aC) (az (aE (aJ (ai aC (ai (ao ar (ag 0) aj) aq))))) aL) (ax (aK (aG aT (ao ar (ag 0) aj) aC) (az (aE (aJ (ai aC (ai (ao ar (ag 1) (ao ar (ag 0) aj)) aq))))) aL) (ax (gz (i:=2) S.nd aq) (ax (dY (i:=3) S.nd (bO (aZ (t6 E) hr (ag 0))) (ax (aQ (i:=4) S.nd (a8 ih hr (ag 3) (ag 1))) (ax (aK (aG aT (ao ar (ag 4) aj) aC) (az (aE (ag 4))) aL) (az (gC (i:=2) (by exact(ao ar (ag 4) aj))))))) (az (aE (rB (Dz E) (hr.mono (by omega)) rfl (ai (ao ar (ag 0) aj) (ai (ag 2) aq)) (aW (aW bU)))))))))
theorem vm:∀n,Fn P w K mg base "step_of" ["recipe","got"] (56+n) (spM K 2 (cZ n)):=dw (dJ E 53) fun n ih=>aX (k:=56+n) E 53 ["recipe","got","told"] fun B S hr=>(ax (aK (aG aT (ao ar (ag 0) aj) aC) (az (aE (aJ (ai aC (ai (ao ar (ag 0) aj) aq))))) aL) (ax (aQ (i:=2) S.nd (a8 (DB E 25) hr (ao ar (ag 0) aj) (ag 1))) (ax (aK (aG aT (ao ar (ag 2) aj) aC) (az (aE (ag 2))) aL) (ax (aK (aG aT (ao ar (ag 0) aj) aC) (az (aE (a8 ih hr (cR (aG (z5 hr) (ao ar (ag 2) aj) (aJ (ai aj (ai aC (ai (aJ aq) aq))))) (ao ar (ag 0) aj) (ao ar (ag 0) aj)) (ag 1)))) aL) (ax (aK (aG aT (ao ar (ag 0) aj) aC) (az (aE (aJ (ai aC (ai (ao ar (ag 2) aj) aq))))) aL) (ax (aK (cH (bz (aZ (DD E) hr (ao ar (ag 2) aj)))) (az (aE (aJ (ai aC (ai aC aq))))) aL) (az (aE (aJ (ai (ao ar (ag 0) aj) (ai (ao ar (ag 2) aj) (ai (ao ar (ag 0) aj) aq))))))))))))
theorem ET:Fn P w K mg base "end_by" ["step"] 27 (spM K 1 jz):=aX E 63 ["step"] fun B S hr=>(ax (aK (aG aT (ao ar (ag 0) aj) aC) (az (aE (aJ (ai aC (ai (aZ (mL E 25) hr (ao ar (ag 0) aj)) aq))))) aL) (ax (aK (aG aT (ao ar (ag 0) aj) aC) (az (aE (ag 0))) aL) (az (aE (aJ (ai aC (ai (ao ar (ag 0) aj) aq)))))))
theorem B8:Fn P w K mg base "line_from" ["name","come"] 28 (spM K 2 kE):=aX E 62 ["name","come","reads"] fun B S hr=>(ax (aQ (i:=2) S.nd (cx gA rfl B.z QI (ai (dP (top 62) ["name","come","reads"] (bO (ao ar (ag 1) aj)) (aJ (ai (ao ar (ag 0) aj) (ai (aZ (mL E 25) hr (ao ar (ag 0) aj)) aq)))) aq))) (az (aE (aJ (ai (ag 0) (ai (ag 2) (ai (aZ (ET E) hr (ao ar (ag 1) aj)) aq)))))))
theorem BU:Fn P w K mg base "lines_from" ["come"] 29 (spM K 1 mI):=aX E 61 ["come","lines","name"] fun B S hr=>(ax (iP (i:=1) S.nd) (ax (dY (i:=2) S.nd (bO (ag 0)) (az (dS (i:=1) hr (ag 2) (a8 (B8 E) hr (ag 2) (ao (dy hr) (ag 0) (ag 2)))))) (az (aE (ag 1)))))
theorem CB:Fn P w K mg base "start_of" ["recipe"] 82 (spM K 1 kJ):=aX E 57 ["recipe"] fun B S hr=>(az (aE (aJ (ai (aJ aq) (ai (aJ aq) (ai (a8 (vm E 25) hr (ag 0) (aJ aq)) aq))))))
theorem uh:Fn P w K mg base "awaited_at" ["come"] 1 (spM K 1 eA):=aX E 59 ["come"] fun B S hr=>(az (aE (cR (aG ji (ao ar (ao ar (ag 0) aj) aj) (rA (ss:=["want","peek"]) rfl B.g_GETTING)) (ao ar (ao ar (ag 0) aj) aj) ia)))
theorem GM:Fn P w K mg base "given" ["come","value"] 82 (spM K 2 jF):=aX E 60 ["come","value","step","got","reads"] fun B S hr=>(ax (aQ (i:=2) S.nd (ao ar (ag 0) aj)) (ax (aQ (i:=3) S.nd (aU bt (ao ar (ag 0) aj) (aJ (ai (ag 1) aq)))) (ax (aQ (i:=4) S.nd (cR (aG aT (ao ar (ag 2) aj) aC) (aU bt (ao ar (ag 0) aj) (aJ (ai (aJ (ai (ao ar (ag 2) aj) (ai (ag 1) aq))) aq))) (ao ar (ag 0) aj))) (az (aE (aJ (ai (ag 3) (ai (ag 4) (ai (a8 (vm E 25) hr (ao ar (ag 2) aj) (ag 3)) aq)))))))))
theorem DG:Fn P w K mg base "gone_on" ["come","good"] 83 (spM K 2 kO):=aX E 58 ["come","good"] fun B S hr=>(ax (jA 100000 (aG (lS hr) (aZ (uh E) hr (ag 0)) (ag 1)) (az (aQ (i:=0) S.nd (a8 (GM E) hr (ag 0) (ao (dy hr) (ag 1) (aZ (uh E) hr (ag 0))))))) (az (aE (ag 0))))
theorem BG:Fn P w K mg base "made_afresh" ["book"] 84 (spM K 1 mH):=aX E 56 ["book","good","come","name","recipe","grown","many"] fun B S hr=>(ax (wy (i:=1) B.z S.nd (ao ar (ag 0) aj)) (ax (iP (i:=2) S.nd) (ax (rZ (i:=3) (j:=4) S.nd (ao ar (ag 0) aj) (az (dS (i:=2) hr (ag 3) (aZ (CB E) hr (ag 4))))) (ax (aQ (i:=5) S.nd eQ) (ax (jA 100000 (bz (ag 5)) (ax (aQ (i:=6) S.nd (bx bQ rfl B.z QA (ai (ag 1) aq))) (ax (dY (i:=3) S.nd (bO (ao ar (ag 0) aj)) (ax (dS (i:=2) hr (ag 3) (oi (a8 (DG E) hr (ao (dy hr) (ag 2) (ag 3)) (ag 1)))) (az (aK (aG aT (ao ar (ao ar (ao (dy hr) (ag 2) (ag 3)) aj) aj) aC) (az (dS (i:=1) hr (ag 3) (ao ar (ao ar (ao (dy hr) (ag 2) (ag 3)) aj) aj))) aL)))) (az (aQ (i:=5) S.nd (fu iq (bx bQ rfl B.z QA (ai (ag 1) aq)) (ag 6))))))) (az (aE (aJ (ai (ag 1) (ai (ag 2) aq))))))))))
theorem CF:Fn P w K mg base "lines_of" ["book"] 85 (spM K 1 kK):=aX E 55 ["book"] fun B S hr=>(az (aE (aZ (BU E) hr (ao ar (aZ (BG E) hr (ag 0)) aj))))
theorem uH:Fn P w K mg base "ends_now" ["book"] 86 (spM K 1 gS):=aX E 66 ["book","ends","name","value","line"] fun B S hr=>(ax (iP (i:=1) S.nd) (ax (rZ (i:=2) (j:=3) S.nd (ao ar (ag 0) aj) (az (dS (i:=1) hr (ag 2) (aJ (ai aC (ai (aZ (mL E 25) hr (ag 3)) aq)))))) (ax (rZ (i:=2) (j:=4) S.nd (aZ (CF E) hr (ag 0)) (az (dS (i:=1) hr (ag 2) (ao ar (ag 4) aj)))) (az (aE (ag 1))))))
theorem CC:Fn P w K mg base "own_line" ["recipes","held","name"] 79 (spM K 3 js):=aX E 67 ["recipes","held","name"] fun B S hr=>(ax (aK (bW (dH (aG (iM hr) (ag 2) (ag 1)) (dH (aG (iM hr) (ag 2) (ag 0)) (dW (aG km (ao ar (ao (dy hr) (ag 1) (ag 2)) aj) (aZ (BF E) hr (ao (dy hr) (ag 0) (ag 2)))))))) (az (aE ia)) aL) (az (aE (ao ar (ao (dy hr) (ag 1) (ag 2)) aj))))
theorem Bu:Fn P w K mg base "otherwise_now" ["ends","line"] 1 (spM K 2 mG):=aX E 68 ["ends","line","k","read","end"] fun B S hr=>(ax (E6 (i:=2) (j:=3) B.z S.nd (ao ar (ag 1) aj) (ax (aQ (i:=4) S.nd (yo hr (ag 0) (ao ar (ag 3) aj) (rA (ss:=["lacks"]) rfl B.g_LACKS))) (az (aK (aG (lQ hr) (ag 4) (aJ (ai aC (ai (ao ar (ag 3) aj) aq)))) (az (aE (aJ (ai aC (ai (ag 2) (ai (ao ar (ag 3) aj) (ai (ao ar (ag 3) aj) (ai (ag 4) aq)))))))) aL)))) (ax (aK (bW (dX (aG aT (ao ar (ao ar (ag 1) aj) aj) aC) (eK (aG aT (ao ar (yo hr (ag 0) (ao ar (ao ar (ag 1) aj) aj) (rA (ss:=["lacks"]) rfl B.g_LACKS)) aj) aC)))) (az (aE (aJ (ai aC (ai (ao ar (ao ar (ag 1) aj) aj) (ai (ao ar (ao (dy hr) (ag 0) (ao ar (ao ar (ag 1) aj) aj)) aj) aq)))))) aL) (az (aE ia))))
theorem uj:Fn P w K mg base "reason_by" ["ends","recipes","held","name"] 80 (spM K 4 dq):=aX E 71 ["ends","recipes","held","name","line"] fun B S hr=>(ax (aK (aG (iM hr) (ag 3) (ag 2)) (az (aE (aJ (ai aC aq)))) aL) (ax (aQ (i:=4) S.nd (iA (CC E) hr (ag 1) (ag 2) (ag 3))) (az (aE (cR (aG AR (ag 4) ia) (aJ (ai aC aq)) (a8 (Bu E) hr (ag 0) (ag 4)))))))
theorem ug:Fn P w K mg base "reason_for" ["book","held","name"] 87 (spM K 3 eg):=aX E 70 ["book","held","name"] fun B S hr=>(ax (aK (aG km (a8 (vn E) hr (ag 0) (ag 2)) aC) (az G5) aL) (az (aE (fL (uj E) hr (aZ (uH E) hr (ag 0)) (ao ar (ag 0) aj) (ag 1) (ag 2)))))
theorem uc:XO.FnX P w K mg base "reason_for" ["book","held","name"] 87 (XO.spF K 3 (fun _=>C) kz):=let ⟨_,X,G⟩:=E.x;XO.fnX (E.d.at (i:=70) (by decide +kernel)) X G (fun _ _ _ _ _ _=>bl3 fun _ _ _=>rfl) fun f fd F=>XO.Ba F (ie (N:=["book","held","name"]) (by decide +kernel)) fun _ _ _ _ _ _ hr=>XO.E4 (cs:=fun _=>C) (c:=0) E.b.xj.b E.b.xm (aG km (a8 (vn E) hr (ag 0) (ag 2)) aC)
theorem CO:XO.FnX P w K mg base "causes" ["book","held","name"] 88 (XO.spF K 3 (fun _=>C) qL):=let ⟨_,X,G⟩:=E.x;XO.fnX (E.d.at (i:=72) (by decide +kernel)) X G (fun _ _ _ _ _ _=>bl3 fun _ _ _=>rfl) fun f fd F=>XO.Ba F (ie (N:=["book","held","name","reason","ends","row"]) (by decide +kernel)) fun _ _ _ _ _ _ hr=>XO.Jl (i:=3) (cs:=fun _=>C) (uc E) (hr.mono (by omega)) rfl XO.passes (show List.Nodup (["book","held","name","reason","ends","row"]:List Str) by decide +kernel) (ai (ag 0) (ai (ag 1) (ai (ag 2) aq))) (aW (aW (aW bU)))
theorem CD:Fn P w K mg base "named_by" ["reason"] 1 (spM K 1 gu):=aX E 73 ["reason"] fun B S hr=>(ax (aK (aG aT (ao ar (ag 0) aj) aC) (az (aE (ao ar (ag 0) aj))) aL) (az (aE (cR (aG aT (ao ar (ag 0) aj) aC) (ao ar (ag 0) aj) ia))))
theorem wc:Fn P w K mg base "causes" ["book","held","name"] 88 (spO K 3 gx):=Al E 72 ["book","held","name","reason","ends","row"] fun B S hr=>(ax (aQ (i:=3) S.nd (iA (ug E) hr (ag 0) (ag 1) (ag 2))) (ax (aQ (i:=4) S.nd (aZ (uH E) hr (ag 0))) (ax (gz (i:=5) S.nd aq) (ax (jA 100000 (aG Gg (ag 3) ia) (ax (gC (i:=5) (by exact(aJ (ai (ag 2) (ai (ag 3) aq))))) (ax (aQ (i:=2) S.nd (aZ (CD E) hr (ag 3))) (ax (aK (bW (dH (aG (EB hr) (ag 2) (ao ar (ag 0) aj)) (dW (GY (aG ji (ag 2) (dP (top 72) ["book","held","name","reason","ends","row"] (bO (ag 5)) (ao ar (ag 0) aj))))))) (az (wB (i:=5))) aL) (az (aQ (i:=3) S.nd (fL (uj E) hr (ag 4) (ao ar (ag 0) aj) (ag 1) (ag 2)))))))) (az (wB (i:=5)))))))
theorem iE:Fn P w K mg base "_law_feed" ["_law_script","_law_k"] 1 (spO K 2 bS):=Al E 75 ["_law_script","_law_k"] fun B S hr=>(ax (aK (aG aT (bx bQ rfl B.z QA (ai (ag 0) aq)) aj) (az (wA (ai aj (ai aj (ai (ag 1) aq))))) aL) (az (wA (ai (ao ar (ag 0) (aU i9 (ag 1) (bx bQ rfl B.z QA (ai (ag 0) aq)))) (ai aj (ai (ag 1) aq))))))
theorem bF:Fn P w K mg base "_law_next" ["_law_feed_here","_law_many"] 1 (spM K 2 aS):=aX E 76 ["_law_feed_here","_law_many","_law_digit","_law_seed"] fun B S hr=>(ax (zv (ag 0) aj (aU bt (ao ar (ag 0) aj) aj)) (ax (aK (aG Lf (ao ar (ag 0) aj) (aU j4 aj aj)) (ax (aQ (i:=2) S.nd (aU i9 (ao ar (ag 0) aj) (ag 1))) (ax (zv (ag 0) aj (aU Gi (ao ar (ag 0) aj) (ag 1))) (az (aE (ag 2))))) aL) (ax (aQ (i:=3) S.nd (aU bt (aU bt (aU i9 (ao ar (ag 0) aj) aj) (aU j6 aj (ao ar (ag 0) aj))) (aU j6 aj (ao ar (ag 0) aj)))) (ax (aQ (i:=3) S.nd (aU i9 (aU j6 (aU bt (ag 3) aj) aj) aj)) (az (aE (aU i9 (aU i9 (aU j6 (aU i9 (aU bt (aU j6 (ag 3) aj) (ao ar (ag 0) aj)) aj) aj) aj) (ag 1))))))))
theorem BX:Fn P w K mg base "_law_names" ["_law_feed_here","_law_many"] 2 (spM K 2 jq):=aX E 77 ["_law_feed_here","_law_many","_law_words","_law_letters","_law_names_here","_law_k","_law_way","_law_name"] fun B S hr=>(ax (aQ (i:=2) S.nd (cz (ai aC (ai aC (ai aC (ai aC (ai aC (ai aC (ai aC (ai aC aq)))))))))) (ax (aQ (i:=3) S.nd aC) (ax (gz (i:=4) S.nd aq) (ax (dY (i:=5) S.nd (oh rfl B.z (ag 1)) (ax (aQ (i:=6) S.nd (a8 (bF E) hr (ag 0) aj)) (ax (aQ (i:=7) S.nd (ao ar (ag 3) (a8 (bF E) hr (ag 0) aj))) (ax (aK (aG aT (ag 6) aj) (az (aQ (i:=7) S.nd (ao ar (ag 2) (a8 (bF E) hr (ag 0) aj)))) aL) (ax (aK (bW (dX (aG aT (ag 6) aj) (eK (aG iq (bx bQ rfl B.z QA (ai (ag 4) aq)) aj)))) (az (aQ (i:=7) S.nd (f6 (aU bt (ao ar (ag 4) (sR aj)) (ag 7)) fS (fR aj)))) aL) (ax (aK (aG aT (ag 6) aj) (az (aQ (i:=7) S.nd (aU j6 (aU bt (ag 7) (ao ar (ag 3) (a8 (bF E) hr (ag 0) aj))) aj))) aL) (ax (aK (aG ji (ag 7) (ag 4)) (az (aQ (i:=7) S.nd (ao ar (tG (top 77) ["_law_feed_here","_law_many","_law_words","_law_letters","_law_names_here","_law_k","_law_way","_law_name"] (bO (ag 3)) (ag 0) (aG xx (ag 0) (ag 5))) aj))) aL) (az (Jm (i:=4) (by exact(a8 (bF E) hr (ag 0) (aU bt (bx bQ rfl B.z QA (ai (ag 4) aq)) aj))) (by exact(ag 7))))))))))) (az (aE (ag 4)))))))
theorem mJ:Fn P w K mg base "_law_value" ["_law_feed_here","_law_names_here"] 2 (spM K 2 gk):=aX E 78 ["_law_feed_here","_law_names_here","_law_some","_law_k"] fun B S hr=>(ax (aQ (i:=2) S.nd (cz (ai aj (ai aj (ai aC (ai (aJ aq) (ai aj (ai aC (ai (aJ (ai aj aq)) (ai (aJ (ai aj (ai aC aq))) (ai (sR aj) (ai (aU j4 aj aj) (ai aC (ai (aJ (ai (aJ aq) (ai (aJ (ai aC (ai aj aq))) aq))) (ai (aJ (ai aj (ai aj (ai aj aq)))) (ai (aU i8 aj (aU j4 aj aj)) aq)))))))))))))))) (ax (aQ (i:=3) S.nd (a8 (bF E) hr (ag 0) aj)) (ax (aK (aG dM (ag 3) aj) (az (aE (ao ar (ag 2) (ag 3)))) aL) (ax (aK (aG aT (ag 3) aj) (az (aE (a8 (bF E) hr (ag 0) (aU j4 aj aj)))) aL) (az (aE (ao ar (ag 1) (a8 (bF E) hr (ag 0) (bx bQ rfl B.z QA (ai (ag 1) aq))))))))))
theorem BH:∀n,Fn P w K mg base "_law_weight" ["_law_value_here"] (0+n) (spM K 1 (eZ n)):=dw (dJ E 79) fun n ih=>aX (k:=0+n) E 79 ["_law_value_here","_law_some","_law_deep"] fun B S hr=>(ax (aQ (i:=1) S.nd (cR (bz (bK .tup B.z (ag 0) B.z QI)) (dP (top 79) ["_law_value_here","_law_some","_law_deep"] (bO (ag 0)) (aZ ih hr (ag 0))) (cz aq))) (ax (aQ (i:=2) S.nd (aU bt (cx tH rfl B.z SS (ai (bK .tup B.z (ag 0) B.z QI) aq)) (G6 B.z (dP (top 79) ["_law_value_here","_law_some","_law_deep"] (bO (ag 1)) (ao ar (ag 0) aj)) aj))) (az (aE (aJ (ai (ag 2) (ai (aU bt aj (bx Ap rfl B.z boot_sum (ai (dP (top 79) ["_law_value_here","_law_some","_law_deep"] (bO (ag 1)) (ao ar (ag 0) aj)) aq))) aq)))))))
theorem qu:Fn P w K mg base "_law_kept" ["_law_value_here"] 26 (spM K 1 dC):=aX E 80 ["_law_value_here","_law_deep","_law_many","_law_good_here"] fun B S hr=>(ax (zu (i:=1) (j:=2) S.nd (aZ (BH E 25) hr (ag 0))) (ax (aK (bz (bK .int B.z (ag 0) B.z SS)) (az (aE (cR (aG d8 (bx Aq rfl B.z boot_abs (ai (ag 0) aq)) (aU j4 aj aj)) (aJ (ai aC (ai (ag 0) aq))) (aJ (ai aC (ai aC aq)))))) aL) (ax (aQ (i:=3) S.nd (fu d8 (bx bQ rfl B.z QA (ai (ag 0) aq)) (cR (bz (bK .str B.z (ag 0) B.z Rw)) aj aj))) (az (aE (cR (bW (dX (bz (ag 3)) (dX (aG d8 (ag 1) aj) (eK (aG d8 (ag 2) aj))))) (aJ (ai aC (ai (ag 0) aq))) (aJ (ai aC (ai aC aq)))))))))
theorem qq:∀n,Fn P w K mg base "_law_stamp" ["_law_value_here"] (0+n) (spM K 1 (dB n)):=dw (dJ E 81) fun n ih=>aX (k:=0+n) E 81 ["_law_value_here"] fun B S hr=>(ax (aK (bz (bK .int B.z (ag 0) B.z SS)) (az (aE (cx ki rfl B.z Rw (ai (ag 0) aq)))) aL) (ax (aK (bz (bK .str B.z (ag 0) B.z Rw)) (az (aE (aU bt aC (ag 0)))) aL) (az (aE (aU bt (aU bt aC (yn aC (dP (top 81) ["_law_value_here"] (bO (ag 0)) (aZ ih hr (ag 0))))) aC)))))
theorem BL:Fn P w K mg base "_law_of_two" ["_law_word","_law_one","_law_other"] 27 (spM K 3 bI):=aX E 82 ["_law_word","_law_one","_law_other","_law_kinds"] fun B S hr=>(ax (aK (aG aT (ag 0) aC) (az (aE (aJ (ai aC (ai (cx tH rfl B.z SS (ai (fu (z6 hr) (ag 1) (ag 2)) aq)) aq))))) aL) (ax (aK (aG aT (ag 0) aC) (ax (aK (bW (dH (cH (bz (bK .tup B.z (ag 1) B.z QI))) (dW (cH (bz (bK .int B.z (ag 2) B.z SS)))))) (az (aE (aJ (ai aC (ai aC aq))))) aL) (az (aE (cR (rp d8 dM aj (ag 2) (bx bQ rfl B.z QA (ai (ag 1) aq))) (aJ (ai aC (ai (ao ar (ag 1) (ag 2)) aq))) (aJ (ai aC (ai aC aq))))))) aL) (ax (aQ (i:=3) S.nd (cz (ai (bK .int B.z (ag 1) B.z SS) (ai (bK .int B.z (ag 2) B.z SS) (ai (bK .str B.z (ag 1) B.z Rw) (ai (bK .str B.z (ag 2) B.z Rw) aq)))))) (ax (aK (aG aT (ag 0) aC) (ax (aK (bW (dH (aG (lQ hr) (f6 (ag 3) fS (fR aj)) (cz (ai eQ (ai eQ aq)))) (dW (aG km (ao ar (ag 3) aj) (ao ar (ag 3) aj))))) (az (aE (aJ (ai aC (ai aC aq))))) aL) (az (aE (aZ (qu E) hr (aU bt (ag 1) (ag 2)))))) aL) (ax (aK (aG (lQ hr) (f6 (ag 3) fS (fR aj)) (cz (ai eQ (ai eQ aq)))) (az (aE (aJ (ai aC (ai aC aq))))) aL) (az (aE (cR (aG aT (ag 0) aC) (aZ (qu E) hr (aU bt (ag 1) (ag 2))) (aJ (ai aC (ai (cx tH rfl B.z SS (ai (fu dM (ag 1) (ag 2)) aq)) aq)))))))))))
theorem uk:∀n,Fn P w K mg base "_law_told" ["_law_expr_here","_law_got"] (27+n) (spM K 2 (cM n)):=dw (dJ E 83) fun n ih=>aX (k:=27+n) E 83 ["_law_expr_here","_law_got","_law_some","_law_one","_law_told_here"] fun B S hr=>(ax (aK (aG aT (ao ar (ag 0) aj) aC) (az (aE (aJ (ai aC (ai (ao ar (ag 0) aj) aq))))) aL) (ax (aK (aG aT (ao ar (ag 0) aj) aC) (az (aE (aJ (ai aC (ai (ao ar (ag 1) (ao ar (ag 0) aj)) aq))))) aL) (ax (gz (i:=2) S.nd aq) (ax (dY (i:=3) S.nd (bO (cR (aG aT (ao ar (ag 0) aj) aC) (ao ar (ag 0) aj) (f6 (ag 0) (fR aj) fS))) (ax (aQ (i:=4) S.nd (a8 ih hr (ag 3) (ag 1))) (ax (aK (aG aT (ao ar (ag 4) aj) aC) (az (aE (ag 4))) aL) (az (gC (i:=2) (by exact(ao ar (ag 4) aj))))))) (ax (aK (aG aT (ao ar (ag 0) aj) aC) (az (aE (aZ (qu E) hr (cx gA rfl B.z QI (ai (ag 2) aq))))) aL) (ax (aK (aG aT (ao ar (ag 0) aj) aC) (az (aE (cR (bz (bK .int B.z (ao ar (ag 2) aj) B.z SS)) (aJ (ai aC (ai aC aq))) (aJ (ai aC (ai (bx bQ rfl B.z QA (ai (ao ar (ag 2) aj) aq)) aq)))))) aL) (az (aE (iA (BL E) hr (ao ar (ag 0) aj) (ao ar (ag 2) aj) (ao ar (ag 2) aj))))))))))
theorem BA:Fn P w K mg base "_law_is_name" ["_law_thing"] 1 (spM K 1 iC):=aX E 84 ["_law_thing"] fun B S hr=>(ax (aK (bW (dH (cH (bz (bK .str B.z (ag 0) B.z Rw))) (dW (cH (rp d8 d8 aj (bx bQ rfl B.z QA (ai (ag 0) aq)) aj))))) (az (aE eQ)) aL) (az (aE (bx pW rfl B.z Xo (ai (dP (top 84) ["_law_thing"] (bO (ag 0)) (fu ji (ag 0) aC)) aq)))))
theorem ue:Fn P w K mg base "_law_follow" ["_law_recipe_here","_law_known"] 53 (spM K 2 gP):=aX E 85 ["_law_recipe_here","_law_known","_law_got","_law_reads","_law_told_here"] fun B S hr=>(ax (gz (i:=2) S.nd aq) (ax (gz (i:=3) S.nd aq) (ax (jA 100000 (aG ji (ao ar (ag 0) aj) (aJ (ai aC (ai aC (ai aC aq))))) (ax (aQ (i:=4) S.nd (rB (uk E 25) (hr.mono (by omega)) rfl (ai (ao ar (ag 0) aj) (ai (ag 2) aq)) (aW (aW bU)))) (ax (aK (aG aT (ao ar (ag 4) aj) aC) (az (aE (aJ (ai (cx gA rfl B.z QI (ai (ag 3) aq)) (ai (ag 4) aq))))) aL) (az (aK (aG aT (ao ar (ag 0) aj) aC) (az (aQ (i:=0) S.nd (cR (aG (z5 hr) (ao ar (ag 4) aj) (aJ (ai aj (ai aC (ai (aJ aq) aq))))) (ao ar (ag 0) aj) (ao ar (ag 0) aj)))) (az (aK (cH (bz (aZ (BA E) hr (ao ar (ag 4) aj)))) (az (aE (aJ (ai (cx gA rfl B.z QI (ai (ag 3) aq)) (ai (aJ (ai aC (ai aC aq))) aq))))) (az (aK (aG (iM hr) (ao ar (ag 4) aj) (ag 1)) (az (aE (aJ (ai (cx gA rfl B.z QI (ai (ag 3) aq)) (ai (aJ (ai aC (ai (ao ar (ag 4) aj) aq))) aq))))) (ax (gC (i:=2) (by exact(ao (dy hr) (ag 1) (ao ar (ag 4) aj)))) (ax (aK (aG aT (ao ar (ag 0) aj) aC) (az (gC (i:=3) (by exact(aJ (ai (ao ar (ag 4) aj) (ai (aZ (qq E 25) hr (ao (dy hr) (ag 1) (ao ar (ag 4) aj))) aq)))))) aL) (az (aQ (i:=0) S.nd (ao ar (ag 0) aj)))))))))))))) (ax (aK (aG aT (ao ar (ag 0) aj) aC) (az (aE (aJ (ai (cx gA rfl B.z QI (ai (ag 3) aq)) (ai (aJ (ai aC (ai (ao ar (ag 0) aj) aq))) aq))))) aL) (ax (aQ (i:=4) S.nd (rB (uk E 25) (hr.mono (by omega)) rfl (ai (ao ar (ag 0) aj) (ai (ag 2) aq)) (aW (aW bU)))) (ax (aK (aG aT (ao ar (ag 4) aj) aC) (az (aE (aJ (ai (cx gA rfl B.z QI (ai (ag 3) aq)) (ai (ag 4) aq))))) aL) (az (aE (aJ (ai (cx gA rfl B.z QI (ai (ag 3) aq)) (ai (aJ (ai aC (ai (aZ (qq E 25) hr (ao ar (ag 4) aj)) aq))) (ai (ao ar (ag 4) aj) aq))))))))))))
theorem Cc:Fn P w K mg base "_law_good" ["_law_book_here"] 54 (spM K 1 iD):=aX E 86 ["_law_book_here","_law_good_here","_law_many","_law_name","_law_found"] fun B S hr=>(ax (wy (i:=1) B.z S.nd (ao ar (ag 0) aj)) (ax (aQ (i:=2) S.nd (sR aj)) (ax (jA 100000 (aG dM (ag 2) (bx bQ rfl B.z QA (ai (ag 1) aq))) (ax (aQ (i:=2) S.nd (bx bQ rfl B.z QA (ai (ag 1) aq))) (az (dY (i:=3) S.nd (bO (ao ar (ag 0) aj)) (az (aK (aG (iM hr) (ag 3) (ag 1)) (ax (aQ (i:=4) S.nd (oi (a8 (ue E) hr (ao (dy hr) (ao ar (ag 0) aj) (ag 3)) (ag 1)))) (az (aK (aG aT (ao ar (ao ar (ag 4) aj) aj) aC) (az (dS (i:=1) hr (ag 3) (ao ar (ag 4) aj))) aL))) aL)))))) (az (aE (ag 1))))))
theorem Bq:∀n,Fn P w K mg base "_law_show_expr" ["_law_expr_here"] (25+n) (spM K 1 (eY n)):=dw (dJ E 87) fun n ih=>aX (k:=25+n) E 87 ["_law_expr_here","_law_words","_law_inner"] fun B S hr=>(ax (aK (aG aT (ao ar (ag 0) aj) aC) (az (aE (aU bt aC (aZ (qq E 25) hr (ao ar (ag 0) aj))))) aL) (ax (aK (aG aT (ao ar (ag 0) aj) aC) (az (aE (aU bt aC (cx ki rfl B.z Rw (ai (ao ar (ag 0) aj) aq))))) aL) (ax (gz (i:=1) S.nd (ai (ao ar (ag 0) aj) aq)) (ax (aQ (i:=2) S.nd (f6 (ag 0) (fR aj) fS)) (ax (aK (aG aT (ao ar (ag 0) aj) aC) (ax (gC (i:=1) (by exact(cx ki rfl B.z Rw (ai (bx bQ rfl B.z QA (ai (ao ar (ag 0) aj) aq)) aq)))) (az (aQ (i:=2) S.nd (ao ar (ag 0) aj)))) aL) (az (aE (rq aC (aU bt (ag 1) (dP (top 87) ["_law_expr_here","_law_words","_law_inner"] (bO (ag 2)) (aZ ih hr (ag 0))))))))))))
theorem Ca:∀n,Fn P w K mg base "_law_show" ["_law_recipe_here"] (50+n) (spM K 1 (fg n)):=dw (dJ E 88) fun n ih=>aX (k:=50+n) E 88 ["_law_recipe_here","_law_words"] fun B S hr=>(ax (aK (aG aT (ao ar (ag 0) aj) aC) (az (aE (aU bt aC (ao ar (ag 0) aj)))) aL) (ax (aQ (i:=1) S.nd (cz (ai (ao ar (ag 0) aj) (ai (aZ (Bq E 25) hr (ao ar (ag 0) aj)) aq)))) (az (aE (rq aC (aU bt (ag 1) (dP (top 88) ["_law_recipe_here","_law_words"] (bO (f6 (ag 0) (fR aj) fS)) (aZ ih hr (ag 0)))))))))
theorem qv:∀n,Fn P w K mg base "_law_expr" ["_law_feed_here","_law_got","_law_names_here","_law_deep"] (2+n) (spM K 4 (c5 n)):=dw (dJ E 89) fun n ih=>aX (k:=2+n) E 89 ["_law_feed_here","_law_got","_law_names_here","_law_deep","_law_way","_law_one","_law_other"] fun B S hr=>(ax (aQ (i:=4) S.nd (a8 (bF E) hr (ag 0) aj)) (ax (aK (bW (dX (aG dM (ag 4) aj) (eK (aG iq (ag 1) aj)))) (az (aE (aJ (ai aC (ai (a8 (bF E) hr (ag 0) (ag 1)) aq))))) aL) (ax (aK (bW (dH (aG aT (ag 3) aj) (dW (aG dM (ag 4) aj)))) (az (aE (aJ (ai aC (ai (a8 (mJ E) hr (ag 0) (ag 2)) aq))))) aL) (ax (aQ (i:=5) S.nd (fL ih hr (ag 0) (ag 1) (ag 2) (aU i8 (ag 3) aj))) (ax (aK (aG aT (ag 4) aj) (az (aE (aJ (ai aC (ai (ag 5) aq))))) aL) (ax (aQ (i:=6) S.nd (fL ih hr (ag 0) (ag 1) (ag 2) (aU i8 (ag 3) aj))) (ax (aK (aG aT (ag 4) aj) (az (aE (aJ (ai aC (ai (f6 (aJ (ai (ag 5) (ai (ag 6) aq))) fS (fR (a8 (bF E) hr (ag 0) aj))) aq))))) aL) (az (aE (aJ (ai (ao ar (cz (ai aC (ai aC (ai aC (ai aC (ai aC aq)))))) (a8 (bF E) hr (ag 0) aj)) (ai (ag 5) (ai (ag 6) aq)))))))))))))
theorem BI:Fn P w K mg base "_law_wanted" ["_law_feed_here","_law_got","_law_names_here"] 28 (spM K 3 jo):=aX E 90 ["_law_feed_here","_law_got","_law_names_here","_law_way"] fun B S hr=>(ax (aQ (i:=3) S.nd (a8 (bF E) hr (ag 0) aj)) (ax (aK (aG dM (ag 3) aj) (az (aE (aJ (ai aC (ai (ao ar (ag 2) (a8 (bF E) hr (ag 0) (bx bQ rfl B.z QA (ai (ag 2) aq)))) aq))))) aL) (ax (aK (aG aT (ag 3) aj) (az (aE (aJ (ai aC (ai (aJ (ai aC (ai (ao ar (ag 2) (a8 (bF E) hr (ag 0) (bx bQ rfl B.z QA (ai (ag 2) aq)))) aq))) (ai (aJ (ai aC (ai aC aq))) aq)))))) aL) (az (aE (fL (qv E 25) hr (ag 0) (ag 1) (ag 2) aj))))))
theorem BK:∀n,Fn P w K mg base "_law_recipe" ["_law_feed_here","_law_got","_law_names_here","_law_wants","_law_whens","_law_peeks"] (28+n) (spM K 6 (dm n)):=dw (dJ E 91) fun n ih=>aX (k:=28+n) E 91 ["_law_feed_here","_law_got","_law_names_here","_law_wants","_law_whens","_law_peeks","_law_way","_law_word","_law_one","_law_first"] fun B S hr=>(ax (aQ (i:=6) S.nd (a8 (bF E) hr (ag 0) aj)) (ax (aK (bW (dX (aG dM (ag 6) aj) (eK (aG iq (ag 3) aj)))) (ax (aQ (i:=7) S.nd (cR (bW (dX (bz (ag 5)) (eK (aG aT (a8 (bF E) hr (ag 0) aj) aj)))) aC aC)) (ax (aQ (i:=8) S.nd (iA (BI E) hr (ag 0) (ag 1) (ag 2))) (az (aE (aJ (ai (ag 7) (ai (ag 8) (ai (qi ih hr (ag 0) (aU bt (ag 1) aj) (ag 2) (aU i8 (ag 3) aj) (ag 4) (ag 5)) aq)))))))) aL) (ax (aK (bW (dX (aG ji (ag 6) (aJ (ai aj (ai aj aq)))) (eK (aG iq (ag 4) aj)))) (ax (aQ (i:=8) S.nd (fL (qv E 25) hr (ag 0) (ag 1) (ag 2) aj)) (ax (aQ (i:=9) S.nd (qi ih hr (ag 0) (ag 1) (ag 2) (ag 3) (aU i8 (ag 4) aj) (ag 5))) (az (aE (aJ (ai aC (ai (ag 8) (ai (ag 9) (ai (qi ih hr (ag 0) (ag 1) (ag 2) (ag 3) (aU i8 (ag 4) aj) (ag 5)) aq))))))))) aL) (ax (aK (bW (dX (aG aT (ag 6) aj) (eK (aG aT (a8 (bF E) hr (ag 0) aj) aj)))) (az (aE (aJ (ai aC (ai (ao ar (ag 2) (a8 (bF E) hr (ag 0) (bx bQ rfl B.z QA (ai (ag 2) aq)))) aq))))) aL) (az (aE (aJ (ai aC (ai (fL (qv E 25) hr (ag 0) (ag 1) (ag 2) aj) aq)))))))))
theorem tX:Fn P w K mg base "_law_any_recipe" ["_law_feed_here","_law_names_here","_law_peeks"] 54 (spM K 3 fN):=aX E 92 ["_law_feed_here","_law_names_here","_law_peeks","_law_wants","_law_whens"] fun B S hr=>(ax (zu (i:=3) (j:=4) S.nd (ao ar (cz (ai (aJ (ai aj (ai aj aq))) (ai (aJ (ai aj (ai aj aq))) (ai (aJ (ai aj (ai aj aq))) (ai (aJ (ai aj (ai aj aq))) (ai (aJ (ai aj (ai aj aq))) aq)))))) (a8 (bF E) hr (ag 0) aj))) (az (aE (qi (BK E 25) hr (ag 0) aj (ag 1) (ag 3) (ag 4) (ag 2)))))
theorem Cd:Fn P w K mg base "_law_book" ["_law_script","_law_base","_law_names_here","_law_peeks"] 55 (spM K 4 kH):=aX E 93 ["_law_script","_law_base","_law_names_here","_law_peeks","_law_told_here","_law_recipes","_law_k","_law_feed_here","_law_way"] fun B S hr=>(ax (iP (i:=4) S.nd) (ax (iP (i:=5) S.nd) (ax (dY (i:=6) S.nd (oh rfl B.z (bx bQ rfl B.z QA (ai (ag 2) aq))) (vv (i:=7) (iE E) (hr.mono (by omega)) rfl S.nd (ai (ag 0) (ai (aU bt (ag 1) (ag 6)) aq)) (aW (aW bU)) (ax (aQ (i:=8) S.nd (a8 (bF E) hr (ag 7) aj)) (az (aK (aG dM (ag 8) aj) (az (dS (i:=4) hr (ao ar (ag 2) (ag 6)) (a8 (mJ E) hr (ag 7) (ag 2)))) (az (aK (aG dM (ag 8) aj) (az (dS (i:=5) hr (ao ar (ag 2) (ag 6)) (iA (tX E) hr (ag 7) (ag 2) (ag 3)))) aL))))))) (az (aE (aJ (ai (ag 4) (ai (ag 5) aq))))))))
theorem BJ:Fn P w K mg base "_law_turned" ["_law_feed_here","_law_book_here","_law_names_here","_law_peeks"] 55 (spM K 4 jp):=aX E 94 ["_law_feed_here","_law_book_here","_law_names_here","_law_peeks","_law_name","_law_told_here","_law_recipes","_law_way"] fun B S hr=>(ax (aQ (i:=4) S.nd (ao ar (ag 2) (a8 (bF E) hr (ag 0) (bx bQ rfl B.z QA (ai (ag 2) aq))))) (ax (wx (i:=5) B.z S.nd (tG (top 94) ["_law_feed_here","_law_book_here","_law_names_here","_law_peeks","_law_name","_law_told_here","_law_recipes","_law_way"] (bO (ao ar (ag 1) aj)) (aJ (ai (ag 0) (ai (ao (dy hr) (ao ar (ag 2) aj) (ag 0)) aq))) (aG km (ag 0) (ag 5)))) (ax (wx (i:=6) B.z S.nd (tG (top 94) ["_law_feed_here","_law_book_here","_law_names_here","_law_peeks","_law_name","_law_told_here","_law_recipes","_law_way"] (bO (ao ar (ag 1) aj)) (aJ (ai (ag 0) (ai (ao (dy hr) (ao ar (ag 2) aj) (ag 0)) aq))) (aG km (ag 0) (ag 5)))) (ax (aQ (i:=7) S.nd (a8 (bF E) hr (ag 0) aj)) (ax (aK (aG dM (ag 7) aj) (az (dS (i:=5) hr (ag 4) (a8 (mJ E) hr (ag 0) (ag 2)))) (az (aK (aG dM (ag 7) aj) (az (dS (i:=6) hr (ag 4) (iA (tX E) hr (ag 0) (ag 2) (ag 3)))) aL))) (az (aE (aJ (ai (ag 5) (ai (ag 6) aq))))))))))
theorem Cb:Fn P w K mg base "_law_held" ["_law_script","_law_base","_law_books","_law_names_here"] 76 (spM K 4 kG):=aX E 95 ["_law_script","_law_base","_law_books","_law_names_here","_law_held_here","_law_goods","_law_k","_law_feed_here","_law_which","_law_known","_law_name","_law_recipe_here"] fun B S hr=>(ax (iP (i:=4) S.nd) (ax (KO (i:=5) (top 95) ["_law_script","_law_base","_law_books","_law_names_here","_law_held_here","_law_goods","_law_k","_law_feed_here","_law_which","_law_known","_law_name","_law_recipe_here"] ["_law_script","_law_base","_law_books","_law_names_here","_law_held_here","_law_goods","_law_k","_law_feed_here","_law_which","_law_known","_law_name","_law_recipe_here"] S.nd (bO (ag 2)) (aZ (Cc E) hr (ag 0)) yh) (ax (dY (i:=6) S.nd (oh rfl B.z (bx bQ rfl B.z QA (ai (ag 3) aq))) (vv (i:=7) (iE E) (hr.mono (by omega)) rfl S.nd (ai (ag 0) (ai (aU bt (ag 1) (ag 6)) aq)) (aW (aW bU)) (ax (aQ (i:=8) S.nd (a8 (bF E) hr (ag 7) (bx bQ rfl B.z QA (ai (ag 2) aq)))) (ax (aQ (i:=9) S.nd (ao ar (ag 5) (ag 8))) (ax (aK (aG aT (a8 (bF E) hr (ag 7) aj) aj) (ax (iP (i:=9) S.nd) (az (dY (i:=10) S.nd (bO (ag 3)) (az (aK (aG iq (a8 (bF E) hr (ag 7) aj) aj) (az (dS (i:=9) hr (ag 10) (a8 (mJ E) hr (ag 7) (ag 3)))) aL))))) aL) (az (aK (bW (dX (aG (lS hr) (ao ar (ag 3) (ag 6)) (ao ar (ao ar (ag 2) (ag 8)) aj)) (eK (aG iq (a8 (bF E) hr (ag 7) aj) aj)))) (ax (aQ (i:=11) S.nd (ao (dy hr) (ao ar (ao ar (ag 2) (ag 8)) aj) (ao ar (ag 3) (ag 6)))) (az (dS (i:=4) hr (ao ar (ag 3) (ag 6)) (oi (aJ (ai (aZ (Ca E 25) hr (ag 11)) (ai (aU bt (aJ (ai (ao ar (ag 3) (ag 6)) aq)) (f6 (a8 (ue E) hr (ag 11) (ag 9)) fS (fR aj))) aq))))))) aL))))))) (az (aE (ag 4))))))
theorem BW:Fn P w K mg base "_law_start" ["_law_script","_law_peeks"] 77 (spM K 2 kA):=aX E 96 ["_law_script","_law_peeks","_law_names_here","_law_tome","_law_books","_law_k"] fun B S hr=>(ax (aQ (i:=2) S.nd (lh (BX E) (iE E) (hr.mono (by omega)) (hr.mono (by omega)) rfl rfl (ai (ag 0) (ai aj aq)) (aW (aW bU)) (ai (aU bt aj (lh (bF E) (iE E) (hr.mono (by omega)) (hr.mono (by omega)) rfl rfl (ai (ag 0) (ai aj aq)) (aW (aW bU)) (ai aj aq) (aW (aW bU)))) aq) (aW (aW bU)))) (ax (aQ (i:=3) S.nd (fL (Cd E) hr (ag 0) aj (ag 2) (ag 1))) (ax (aQ (i:=4) S.nd (cz (ai (ag 3) aq))) (ax (dY (i:=5) S.nd (oh rfl B.z (aU bt aj (lh (bF E) (iE E) (hr.mono (by omega)) (hr.mono (by omega)) rfl rfl (ai (ag 0) (ai aj aq)) (aW (aW bU)) (ai aj aq) (aW (aW bU))))) (az (aQ (i:=3) S.nd (lh (BJ E) (iE E) (hr.mono (by omega)) (hr.mono (by omega)) rfl rfl (ai (ag 0) (ai (aU bt aj (ag 5)) aq)) (aW (aW bU)) (ai (ag 3) (ai (ag 2) (ai (ag 1) aq))) (aW (aW (aW (aW bU)))))))) (az (aE (aJ (ai (ag 2) (ai (ag 3) (ai (fL (Cb E) hr (ag 0) aj (aU bt (ag 4) (cz (ai (ag 3) aq))) (ag 2)) aq))))))))))
theorem CI:Fn P w K mg base "_law_row" ["_law_tome","_law_kept_here","_law_name"] 88 (spM K 3 iI):=aX E 97 ["_law_tome","_law_kept_here","_law_name","_law_row_here","_law_seen","_law_reason"] fun B S hr=>(ax (gz (i:=3) S.nd aq) (ax (gz (i:=4) S.nd aq) (ax (jA 100000 (bW (dX (aG (lS hr) (ag 2) (ao ar (ag 0) aj)) (eK (aG xx (ag 2) (ag 4))))) (ax (aQ (i:=5) S.nd (iA (ug E) hr (ag 0) (ag 1) (ag 2))) (ax (aK (aG AR (ag 5) ia) (az (aE (ag 3))) aL) (ax (gC (i:=3) (by exact(aJ (ai (ag 2) (ai (ag 5) aq))))) (ax (gC (i:=4) (by exact(ag 2))) (az (aK (aG aT (ao ar (ag 5) aj) aC) (az (aQ (i:=2) S.nd (ao ar (ag 5) aj))) (az (aK (aG aT (ao ar (ag 5) aj) aC) (az (aQ (i:=2) S.nd (ao ar (ag 5) aj))) aL))))))))) (az (aE (ag 3))))))
theorem tW:Fn P w K mg base "_law_is_refused" ["_law_way","_law_tome","_law_kept_here","_law_name"] 89 (spM K 4 fM):=aX E 98 ["_law_way","_law_tome","_law_kept_here","_law_name","_law_told_here","e"] fun B S hr=>(ax (aQ (i:=4) S.nd eQ) (ax (let ⟨⟨A0,m0,k0⟩,⟨A1,m1,k1⟩,⟨A2,m2,k2⟩,⟨A3,m3,k3⟩,⟨A4,m4,k4⟩,⟨A5,m5,k5⟩,⟨A6,m6,k6⟩,⟨A7,m7,k7⟩,⟨A8,m8,k8⟩,⟨A9,m9,k9⟩,⟨A10,m10,k10⟩,⟨A11,m11,k11⟩,⟨A12,m12,k12⟩,_⟩:=B.xk;XO.G3 (cs:=fun _=>C) (i:=4) (j:=5) (D1:=[A0,A1,A2,A3,A4,A5,A6]) (D2:=[A7,A8,A9,A10,A11,A12]) (by decide) (XO.KL (aG aT (ag 0) aj) (XO.yj (CO E) (hr.mono (by omega)) rfl (ai (ag 1) (ai (ag 2) (ai (ag 3) aq))) (aW (aW (aW bU)))) (XO.yj (uc E) (hr.mono (by omega)) rfl (ai (ag 1) (ai (ag 2) (ai (ag 3) aq))) (aW (aW (aW bU))))) B.xj.b.c B.xj.b.r B.xr S.nd fun e=>jy (eL (i:=4) S.nd rfl (.inl rfl) (oJ (XO.Ic B.xj.is (pv 5) rfl B.z rfl B.xm XO.EM) (oI (XO.F9 B.xj.is (pv 5) rfl B.z rfl B.z B.xj.kv)))) (jy (eL (i:=4) S.nd rfl (.inl rfl) (oJ (pv 4) (oI (sE (XO.xp (Ds:=[A0,A1,A2,A3,A4,A5,A6]) B.xj.is (pv 5) rfl B.z (bw (c4 (v:=.ref A0) rfl m0 rfl) (bw (c4 (v:=.ref A1) rfl m1 rfl) (bw (c4 (v:=.ref A2) rfl m2 rfl) (bw (c4 (v:=.ref A3) rfl m3 rfl) (bw (c4 (v:=.ref A4) rfl m4 rfl) (bw (c4 (v:=.ref A5) rfl m5 rfl) (bw (c4 (v:=.ref A6) rfl m6 rfl) cG))))))) (fun _ _ _ z=>z) (show 7<=100 by decide) (XO.qY (XO.d9 k0 (XO.d9 k1 (XO.d9 k2 (XO.d9 k3 (XO.d9 k4 (XO.d9 k5 (XO.d9 k6 XO.AU))))))))))))) (rK (eL (i:=4) S.nd rfl (.inl rfl) (oJ (pv 4) (oI (sE (XO.xp (Ds:=[A7,A8,A9,A10,A11,A12]) B.xj.is (pv 5) rfl B.z (bw (c4 (v:=.ref A7) rfl m7 rfl) (bw (c4 (v:=.ref A8) rfl m8 rfl) (bw (c4 (v:=.ref A9) rfl m9 rfl) (bw (c4 (v:=.ref A10) rfl m10 rfl) (bw (c4 (v:=.ref A11) rfl m11 rfl) (bw (c4 (v:=.ref A12) rfl m12 rfl) cG)))))) (fun _ _ _ z=>z) (show 6<=100 by decide) (XO.qY (XO.d9 k7 (XO.d9 k8 (XO.d9 k9 (XO.d9 k10 (XO.d9 k11 (XO.d9 k12 XO.AU))))))))))))))) (az (aE (ag 4)))))
theorem Iq(F:Fun K "law" "law" (top 99) f fd):FnOk P w K mg base CX0 90 f fd ["_law_script"] (spM K 1 pP):=KP E ["_law_script","_law_names_here","_law_tome","_law_kept_here","_law_handed","_law_name","_law_due","_law_told_here"] F fun B S hr=>(ax (G0 (i:=1) (j:=2) (k:=3) S.nd (a8 (BW E) hr (ag 0) (fu aT (lh (bF E) (iE E) (hr.mono (by omega)) (hr.mono (by omega)) rfl rfl (ai (ag 0) (ai aj aq)) (aW (aW bU)) (ai aj aq) (aW (aW bU))) aj))) (ax (aQ (i:=4) S.nd (aJ (ai (aJ (ai (r6 B.z (ao ar (ag 2) aj)) (ai (r6 B.z (ao ar (ag 2) aj)) aq))) (ai (r6 B.z (ag 3)) aq)))) (ax (dY (i:=5) S.nd (bO (aU bt (ag 1) (cz (ai aC aq)))) (az (aK (aG (iM hr) (ag 5) (ao ar (ag 2) aj)) (az (aK (bW (dH (cH (bz (fL (tW E) hr aj (ag 2) (ag 3) (ag 5)))) (dW (cH (bz (fL (tW E) hr aj (ag 2) (ag 3) (ag 5))))))) (az (aE eQ)) aL)) (ax (aQ (i:=6) S.nd (iA (CI E) hr (ag 2) (ag 3) (ag 5))) (ax (E5 (i:=7) (wc E) (hr.mono (by omega)) rfl S.nd (ai (ao ar (ag 4) aj) (ai (ao ar (ag 4) aj) (ai (ag 5) aq))) (aW (aW (aW bU)))) (ax (aK (bW (dH (cH (bz (bK .lst B.z (ag 7) B.z Ye))) (dW (aG (lQ hr) (ag 7) (ag 6))))) (az (aE eQ)) aL) (ax (aK (cH (bz (oi (bx pW rfl B.z Xo (ai (dP (top 99) ["_law_script","_law_names_here","_law_tome","_law_kept_here","_law_handed","_law_name","_law_due","_law_told_here"] (bO (ag 7)) (bK .tup B.z (ag 0) B.z QI)) aq))))) (az (aE eQ)) aL) (ax (gC (i:=7) (by exact ia)) (GZ 7 (az (aK (aG (lQ hr) (DL (wc E) (hr.mono (by omega)) rfl (ai (ao ar (ag 4) aj) (ai (ao ar (ag 4) aj) (ai (ag 5) aq))) (aW (aW (aW bU)))) (ag 6)) (az (aE eQ)) aL))))))))))) (az (aE (fu (Kc hr) (ag 4) (aJ (ai (ag 2) (ai (ag 3) aq)))))))))
end
theorem all_mk{l:Vb}{w:PY}{K:Frag}{h:Heap}{mg:Str->Option Pb}{fa:Addr}(X:K.In h)(G:h.Ns P3 mg)(hfa:mg "law"=some (.ref fa))(d:DfL K top zS)(z:ZL K zZ)(i:IL K zI)(s:SL K zT){C R:Addr}(qC:Qo K P3 "NoThing"=some (some (.ref C)))(qR:Qo K P3 "RedoError"=some (some (.ref R)))(xj:XO.XJ K C R)(nl:XO.NL K C zN){a_GETTING:Addr}{o_GETTING:Obj}(u_GETTING:Qo K P3 "GETTING"=some (some (.ref a_GETTING)))(l_GETTING:K.lookup a_GETTING=some o_GETTING)(v_GETTING:p7 o_GETTING ["want","peek"]=true){a_LACKS:Addr}{o_LACKS:Obj}(u_LACKS:Qo K P3 "LACKS"=some (some (.ref a_LACKS)))(l_LACKS:K.lookup a_LACKS=some o_LACKS)(v_LACKS:p7 o_LACKS ["lacks"]=true)
  (hm:∀ns:List Int,ns.length<=63->∃T',pP [.d (jL ns)] []=some (.bool true,T')) :
  ∃fd:QQ,(∀(s:Pf) (v:Pb),VB s fd ⟨[v],[]⟩ [("_law_script",v)])/\∀base:Heap,K.In base->base.Ns P3 mg->FnOk l.prog w K mg base CX0 90 fa fd ["_law_script"] (pL K):=by
 obtain⟨f0,oc,od,an,sl,kV,dc,pm,cd,ct,a,lk,c,kp⟩:=(d.at (x:="law") (i:=99) (by decide +kernel)).ex;cases hfa.symm.trans (Q8 X G a);exact⟨QB "law" "law" (dG (top 99)) (cj (top 99)) (bh (top 99)) .none kV dc pm an cd ct,fun s v=>.of_eq rfl,fun base _ _=>EX (Iq ⟨⟨_,X,G⟩,⟨KR X G z i s,xj,Q8 X G qC,Q8 X G qR,XO.z8 X G nl,⟨_,Q8 X G u_GETTING,uV l_GETTING v_GETTING⟩,⟨_,Q8 X G u_LACKS,uV l_LACKS v_LACKS⟩⟩,d⟩ (sM (st:=top 99) lk c kp)) (De hm)⟩
theorem walk{l:Vb}{XP:(Str->Option Pb)->Heap->Prop}{YP:PY->Heap->Prop}{d:DefRec}{K:Yn->Frag}(hn:l.most=some 63)(hdf:d.params.defaults=[])
  (hY:∀(w:PY) (h:Heap),YP w h->(K w.params).In h)
  (F:∀(w:PY) (mg:Str->Option Pb) (fa:Addr) (h:Heap),(K w.params).In h->h.Ns P3 mg->mg d.name=some (.ref fa) ->
   ∃fd:QQ,(∀(s:Pf) (u:Pb),VB s fd ⟨[u],[]⟩ [("_law_script",u)])/\∀base:Heap,(K w.params).In base->base.Ns P3 mg->FnOk l.prog w (K w.params) mg base CX0 90 fa fd ["_law_script"] (pL (K w.params))) :
  VQ q loose XP YP l.row.toRowW d [] (fun f vs=>U1 f vs):=L2.Fx (n:=63) (k:=90) (x:="_law_script") (CX:=fun _=>CX0) (sp:=fun w=>pL (K w.params)) hn (by decide) hdf ⟨rfl,by decide,by decide,rfl⟩ hY F (fun _ _ a ns hl _ hS=>⟨a,ns,rfl,hS,hl,fun _=>rfl⟩) fun _ _ _ _ _ z=>z
open PySem PySem.Spec PySem.Calls PySem.W PyProof.Rows PySem.W.X PySem.W.ZRun
theorem walkZ{q:Px}{loose:List Str}{XP:(Str->Option Pb)->Heap->Prop}{K:Yn->Frag}{r:RowW}{d:DefRec}{kwd:List (Str×Expr)}
  {w:PY}{s₀ s₁:Pf}{mg mb:Str->Option Pb}{a:Addr}{o:Obj}{pm cd doc dV kV:Pb}{args:List WData}{vals:List Pb}{as:List Addr}
  (KX:(K w.params).In s₁.heap) (GR:Ground q loose r.records XP w s₀ mg mb s₁.heap) (ho:s₁.heap.get? a=some o)
  (hd:o.data=.func { docDef d.name d.params d.body d.scope pm cd doc with defaults:=dV,kwdefaults:=kV }) (hcd:s₁.heap.CodeRec cd d.name) (hD:Dflts mg s₁.heap d.params kwd dV kV) (hmg:mg d.name=some (.ref a)) (hg:s₁.gens = #[])
  (hpre:r.claim.pre args=true) (hlay:WData.layableAll args=true) (hrd:ReadsAllW r.records (classAt s₀.heap) s₁.heap vals args as) (hwl:WellAll w.params s₁.heap vals args) (hlo:∀a∈as,(a == QF)=false)
  (W:VQ q loose XP (fun w h=>(K w.params).In h) r d kwd fun f vs=>U1 f vs) :
  PP (PX r.prog w) U0 (U1 (.ref a) vals) (fun v s'=>GoodWG r.claim (classAt s₀.heap) (X4 s₀.heap) args s₁ (.ok (.ret v)) s')
    (fun e s'=>GoodWG r.claim (classAt s₀.heap) (X4 s₀.heap) args s₁ (.error e) s') s₁:=W w s₀ s₁ mg mb GR KX a o pm cd doc dV kV ho hd hcd hD hmg hg args vals as hpre hlay hrd hwl hlo
end G
end Internal
namespace PySem.W.Fast
def tw8671856614097731022:=Pa
def tw4012816699920305990:=Pa
def tw2622902419582659430:=Pa
def tw15889615944980563628:=Pa
def tw17001122808899189095:=Pa
def tw14450349798920401265:=Pa
def tw2006842987002946968:=Pa
def tw597060963539644716:=Pa
def tw5851084961855822057:=Pa
def tw12929849859520195077:=Pa
def tw18202857870127200241:=Pa
def tw16409437799488257031:=Pa
def tw1674314040141789321:=Pa
def tw7296412245233527047:=Pa
def tw548375387392121055:=Pa
def tw7940379380129971022:=Pa
def tw14165526453043143696:=Pa
def tw16716937667564795545:=Pa
def tw3216517949040596520:=Pa
def tw5688567411615407806:=Pa
def tw9571072489285442771:=Pa
def tw1820371993103224681:=Pa
def tw7419015234329534742:=Pa
def tw5675850997546183209:=Pa
def tw12256607413008008412:=Pa
def tw8500812451117534249:=Pa
def tw8615139238116050940:=Pa
def tw15646170451275809005:=Pa
def tw15488045204220771606:=Pa
def tw8386413441730026981:=Pa
def tw10234901825929712522:=Pa
def tw11869166147737144627:=Pa
def tw18012999950948267893:=Pa
def tw13168121336120298637:=Pa
def tw1235127377576746390:=Pa
def tw13452488042085042519:=Pa
def tw17363254702159816210:=Pa
def tw15439505748008954417:=Pa
def tw7607746284097659372:=Pa
def tw15688315995281384044:=Pa
def tw2319660178148830232:=Pa
def tw13500318420078550787:=Pa
def tw14433238451081129881:=Pa
def tw13744291586737151563:=Pa
def tw11313516319154092870:=Pa
def tw1446421657565572335:=Pa
def tw14596912153480803003:=Pa
def tw15341990930560936399:=Pa
def tw13354345402072686026:=Pa
def tw8006409536316502069:=Pa
def tw5893415834080031656:=Pa
def tw8290528464975091332:=Pa
def tw15405086640059336883:=Pa
def tw1341904615232462689:=Pa
def tw412877710729983573:=Pa
def tw18176116168424306637:=Pa
def tw14694388986296505736:=Pa
def tw10706652570669428991:=Pa
def tw1379699052414764641:=Pa
def tw12951304965569191826:=Pa
def tw10616854016064722458:=Pa
def tw18114094960228809760:=Pa
def tw3755385753108244624:=Pa
def tw8392599064455839981:=Pa
def tw6816861941714670469:=Pa
def tw9342045565673451134:=Pa
def tw17850753026672041653:=Pa
def tw16653827723568778853:=Pa
def tw9765060214472650621:=Pa
def tw2864175907600066242:=Pa
def tw12836026238740300163:=Pa
def tw17543443162331843879:=Pa
def tw14049995097709598871:=Pa
def tw7336671625418964079:=Pa
def tw279396202441504213:=Pa
def tw14277202888816289489:=Pa
def tw2307207892734979677:=Pa
def tw7757279450422146675:=Pa
def tw7519981872907064313:=Pa
def tw12912161861683683761:=Pa
def tw11611685190543922550:=Pa
def tw18245617943608613807:=Pa
def tw10731850706236596689:=Pa
def tw12489687724703721033:=Pa
def tw7051226634374713036:=Pa
def tw1678096517886769110:=Pa
def tw6161794259771317059:=Pa
def tw129952900657180554:=Pa
def tw8139820999704163727:=Pa
def tw8296426889778162203:=Pa
def tw5546050897963157070:=Pa
def tw4818910087461486720:=Pa
def tw4058836939410381612:=Pa
def tw16093121237854346920:=Pa
def tw1749016912966822568:=Pa
def tw13334186574405398185:=Pa
def tw10718132294278030268:=Pa
def tw10160021928137828127:=Pa
def tw12209849661889593151:=Pa
def tw13422940155128181146:=Pa
def tw14792225874395471687:=Pa
def tw5274476718355759201:=Pa
def tw6306005623826600287:=Pa
def tw7111936707340693009:=Pa
def tw11056909973627379929:=Pa
def tw15110430302774027075:=Pa
def tw13806240570331112003:=Pa
def tw8533017432434714993:=Pa
def tw10696974669880199521:=Pa
def tw9088737133761031614:=Pa
def tw2155880228204992179:=Pa
def tw7591548402934090585:=Pa
def tw7976465599974514479:=Pa
def tw12382474523213659984:=Pa
def tw9493387678775315767:=Pa
def tw12741097123053837747:=Pa
def tw6067627155014746946:=Pa
def tw5814609820116104351:=Pa
def tw15478781933847808992:=Pa
def tw11625507232284880157:=Pa
def tw12070496189607091001:=Pa
def tw3985242035594315515:=Pa
def tw5605696320290985402:=Pa
def tw15501247021156005691:=Pa
def tw3029971503748091384:=Pa
def tw7342123726969397448:=Pa
def tw8740844595812722709:=Pa
def tw13462926774182937861:=Pa
def tw5173577211539468548:=Pa
def tw16853401546573148102:=Pa
def tw1416546380692749604:=Pa
def tw14893193194262018563:=Pa
def tw3157712400136172642:=Pa
def tw8744552547444037683:=Pa
def tw10872709614532894808:=Pa
def tw13010067264311068173:=Pa
def tw12839407486683267766:=Pa
def tw7741250836309315485:=Pa
def tw5107192765221296618:=Pa
def tw17730584228810517496:=Pa
def tw7498437861784728404:=Pa
def tw13377044205955745756:=Pa
def tw5035305463312658261:=Pa
def tw2870864262894154824:=Pa
def tw3182985047846045784:=Pa
def tw11726534628369361878:=Pa
def tw5801803272874837328:=Pa
def tw4708168034819880170:=Pa
def tw14781313808392544308:=Pa
def tw4229966553723899421:=Pa
def tw11900300802532948310:=Pa
def tw12943509837867122230:=Pa
def tw1772272317550448015:=Pa
def tw15994780518020883087:=Pa
def tw5466476787535348380:=Pa
def tw6778435971969589316:=Pa
def tw10966751996759964919:=Pa
def tw11221008123050125752:=Pa
def tw17880400108428758395:=Pa
def tw7800808159334458239:=Pa
def tw16503778395780470849:=Pa
def tw4268402596966285241:=Pa
def tw13143062855809652789:=Pa
def tw18228554153110873012:=Pa
def tw7669638426963263269:=Pa
def tw17080209781169343107:=Pa
def tw12261987140888320088:=Pa
def tw15530371530222069776:=Pa
def tw18363383716879557927:=Pa
def tw14841491429956244661:=Pa
def tw17813231900866828734:=Pa
def tw2427629136601082197:=Pa
def tw11769262635933215934:=Pa
def tw2271896835979537921:=Pa
def tw6860409749946585404:=Pa
def tw3420957083212043651:=Pa
def tw13427876227178752174:=Pa
def tw1250998519435697151:=Pa
def tw2382133775053974322:=Pa
def tw1282446787681909838:=Pa
def tw14742132181139613934:=Pa
def tw10583380646674214023:=Pa
def tw12150059163490632240:=Pa
def tw1433452727830256529:=Pa
def tw9195723847237211287:=Pa
def tw11915096511153416378:=Pa
def tw6784728594779156628:=Pa
def tw5521737519803871941:=Pa
def tw17987211007723122916:=Pa
def tw4739532412055242727:=Pa
def tw11786395511087334319:=Pa
def tw10296615199526263842:=Pa
def tw13545225363545639041:=Pa
def tw14695638004109302941:=Pa
def tw1288527657193636230:=Pa
def tw1069246885204468781:=Pa
def tw1461495097073139523:=Pa
def tw15523643892447622789:=Pa
def tw8311839364278067074:=Pa
def tw438258239958867997:=Pa
def tw4528986865540831502:=Pa
def tw14586833349710816993:=Pa
def tw15320670146044329495:=Pa
def tw11516946509277294284:=Pa
def tw1497841032330173235:=Pa
def tw14879092157916927609:=Pa
def tw18399074342524222325:=Pa
def tw10639120477135368424:=Pa
def tw214925521419100174:=Pa
def tw13002875215509416780:=Pa
def tw12467392282864787103:=Pa
def tw13539956474498452672:=Pa
def tw5268590997924766839:=Pa
def tw9423800188339663403:=Pa
def tw15600891310438761357:=Pa
def tw2201769891002205555:=Pa
def tw1912111823898706166:=Pa
def tw13167625749467713418:=Pa
def tw14241384376355360184:=Pa
def tw17106880129252489825:=Pa
def tw8627658464405083771:=Pa
def tw14152502049250474100:=Pa
def tw13505317365360821382:=Pa
def tw13987546844400480467:=Pa
def tw17171432784582487407:=Pa
def tw7731173736329456455:=Pa
def tw9150792978013644696:=Pa
def tw2016549815847236509:=Pa
def tw3623418556664588257:=Pa
def tw5158215649241167358:=Pa
def tw512932439457274840:=Pa
def tw16203427933383274488:=Pa
def tw3359295511418382837:=Pa
def tw2257801950770697907:=Pa
def tw5069190113834592383:=Pa
def tw3783620237190530954:=Pa
def tw11356840642342409946:=Pa
def tw4620194814024440951:=Pa
def tw14430012180936236301:=Pa
def tw1578431492158375736:=Pa
def tw6074854512410825699:=Pa
def tw9670506142806028266:=Pa
def tw12835611000181239076:=Pa
def tw5491946571786131732:=Pa
def tw5011724973878851161:=Pa
def tw13557321023438613538:=Pa
def tw15203757184731192865:=Pa
def tw16147040394965618863:=Pa
def tw17250417588869110493:=Pa
def tw12177607982307429632:=Pa
def tw15942778931694503926:=Pa
def tw14655143031138066860:=Pa
def tw13048958464684958407:=Pa
def tw18126779944183361320:=Pa
def tw17363122188887560327:=Pa
def tw15760557325341668235:=Pa
def tw15849347374005174993:=Pa
def tw2241629305475626693:=Pa
def tw4274410904883484461:=Pa
def tw8540411173973448226:=Pa
def tw14895658723640333712:=Pa
def tw12580941905005644492:=Pa
def tw6803170537482577041:=Pa
def tw5275872356029651822:=Pa
def tw3825546137920329151:=Pa
def tw5522470316924263258:=Pa
def tw5686516650699044079:=Pa
def tw6115997724766794625:=Pa
def tw5894059902046586833:=Pa
def tw8737285848763629322:=Pa
def tw14576966160582440548:=Pa
def tw15705242203900930773:=Pa
def tw8938048520524041749:=Pa
def tw2689680942296646348:=Pa
def tw13460340091537751234:=Pa
def tw17547616109717573723:=Pa
def tw11961313457103283599:=Pa
def tw6094143599298235127:=Pa
def tw1181771768984816009:=Pa
def tw5785940464563671345:=Pa
def tw5997373472759162564:=Pa
def tw1197632619936072755:=Pa
def tw2989277927119501612:=Pa
def tw16195241690700163852:=Pa
def tw5930282662440952595:=Pa
def tw12783989478862794177:=Pa
def tw14945333635931975342:=Pa
def tw9116089654870519475:=Pa
def tw14374625753594002133:=Pa
def tw5479008147350112547:=Pa
def tw10423043188793941760:=Pa
def tw17757041534304504636:=Pa
def tw17139181108733828112:=Pa
def tw10361976206377426318:=Pa
def tw12532507758668637135:=Pa
def tw15034455257178009282:=Pa
def tw8813158043798158157:=Pa
def tw1852935367296604587:=Pa
def tw6811358293265519843:=Pa
def tw8135107168551820612:=Pa
def tw3437863804352577574:=Pa
def tw17603235050438755261:=Pa
def tw491574983897859483:=Pa
def tw1893916969869584655:=Pa
def tw2646895817584897889:=Pa
def tw10198107388759380663:=Pa
def tw16453753962240338967:=Pa
def tw4282814993791051919:=Pa
def tw10461629112104588076:=Pa
def tw5196297561164239556:=Pa
def tw15661457426897136309:=Pa
def tw11585137252881191978:=Pa
def tw8663374754710569813:=Pa
def tw7406794030379760555:=Pa
def tw17108545080566795097:=Pa
def tw12607415872199265866:=Pa
def tw5594070831899824220:=Pa
def tw16645723335467761932:=Pa
def tw15607054621182035361:=Pa
def tw3482013355355156976:=Pa
def tw14093569718279026644:=Pa
def tw11361953204632488121:=Pa
def tw13688718947676435139:=Pa
def tw1386268693472718745:=Pa
def tw131181681114567967:=Pa
def tw8630117399234334642:=Pa
def tw11372345699765943069:=Pa
def tw9957822921953918737:=Pa
def tw2907408818540637752:=Pa
def tw13186101575356599159:=Pa
def tw13156712601678601584:=Pa
def tw3764339395677049124:=Pa
def tw4697179371879397571:=Pa
def tw14125887184495570212:=Pa
def tw4290282555871297300:=Pa
def tw8339824652230496773:=Pa
def tw10227642791925171905:=Pa
def tw2628187645259201926:=Pa
def tw1813615368775187417:=Pa
def tw11644733918518378071:=Pa
def tw14802960424150898773:=Pa
def tw11965910209697573747:=Pa
def tw2905448051643523970:=Pa
def tw16368502459927477773:=Pa
def tw17389645407728693765:=Pa
def tw9537673229498573485:=Pa
def tw12361525589451840038:=Pa
def tw14538033570712993187:=Pa
def tw10472960224839428669:=Pa
def tw12590439814944598857:=Pa
def tw3961323384176668635:=Pa
def tw7883678195880092304:=Pa
def tw4829551039140784088:=Pa
def tw10653949557253944666:=Pa
def tw13985206414290748091:=Pa
def tw12117000984372159908:=Pa
def tw10634544313839082669:=Pa
def tw9326037275000229738:=Pa
def tw14477117439478433546:=Pa
end PySem.W.Fast
noncomputable def PySem.W.Fast.tw10604314938280616550 : PySem.Program := PySem.Challenge.pw_redo_k45_rows_of_causes
theorem PySem.W.Fast.te10604314938280616550 : PySem.Challenge.pw_redo_k45_rows_of_causes = PySem.W.Fast.tw10604314938280616550 := rfl

open Internal
open PySem PySem.W PyProof.Rows PySem.W.X PySem.W.ZRun
set_option maxRecDepth 100000 in
set_option maxHeartbeats 0 in
theorem PySem.Challenge.cw_redo_k45_rows_of_causes_holds : PySem.Challenge.rw_redo_k45_rows_of_causes.Holds := by
 w_on; o_law; z_head; (case hw=>w_witness2)
 k_fill
 intro w s₀ s₁ mg mb GR y fa o pm cd doc dV kV ho hd hcd hD hmg hg args vals as L hpre hlay hrd hwl hlo
 z_open y L KX ZH ZN ZT
 clear ZH ZN ZT
 refine G.walkZ KX GR ho hd hcd hD hmg hg hpre hlay hrd hwl hlo ?W
 clear KX GR ho hd hcd hD hmg hg hpre hlay hrd hwl hlo L y
 refine G.walk (l:=PySem.Challenge.rw_redo_k45_rows_of_causes) rfl rfl (fun w h Y=>Y) ?F
 case F=>
  intro w mg fa h KX GG hmg
  refine' G.all_mk KX GG hmg ?_ ?_ ?_ ?_ ?_ ?_ ?_ ?_ ?_ ?_ ?_ ?_ ?_ ?_ G.EH
  any_goals repeat' first | exact True.intro | refine' XO.Gm ?_ ?_ ?_ ?_ ?_ ?_ | refine' D.E8 ?_ ?_ | refine' D.Fw ?_ ?_ | refine' D.GJ ?_ ?_ | refine' D.FJ ?_ ?_
  any_goals first | (refine' XO.JF ?e1 ?e2 ?e3 ?e4 ?e5 ?e6 ?e7 ?e8 ?e9 ?e10 ?e11 ?e12 ?e13 ?e14 ?e15 ?e16 ?e17; (case e1=>k_is); (case e2=>k_is); (case e3=>k_is); (case e4=>k_is); (case e5=>k_is); (case e6=>k_is); (case e7=>k_is); (case e8=>k_is); (case e9=>k_is); (case e10=>k_is); (case e11=>k_is); (case e12=>k_is); (case e13=>k_is); (case e14=>k_is); (case e15=>k_is); (case e16=>rfl); (case e17=>rfl)) | (refine' D.KJ ?a ?l ?c ?k; (case a=>k_is); (case l=>k_is); (case c=>k_is); (case k=>k_is)) | k_is
  all_goals first | rfl | decide +kernel
