import PyProof.Rows.All
import Wide.All
import OpenK.AllK
import Wide.FinOn
import Lean
import PyProof.EqAt
import PyProof.EqKinds
import PyProof.TupleCall
import PySem.Challenge.RW_redo_k21_lines_that_write_no_book
noncomputable section
open PySem.W (Frag)
set_option Elab.async false
set_option linter.all false
set_option maxRecDepth 100000
set_option compiler.extract_closed false
set_option bootstrap.genMatcherCode false
open PySem.Str renaming ofString->NM,join->Ob,length_append->OH,length->US,empty->WR
open PySem renaming PyData->NN,Value->NO,Shared->NP,starEach->NR,wpAny_bind->NT,Program->NU,sizeLine->NX,World->N8,mainGlobals->N9,FuncData->Oe,model->Os,wpAny_pure->Ou,wpAny->Oy,Around->OF,wpAny_loadPart_at->OG,compareOp->OL,backTo->OO,wpAny_mono->O5,boot_len->O7,keywordEach->O8,foldedSetIterable->Pe,swapsWith->Pi,attributeBase->Pj,wpAny_newObj_type->Pu,binaryOp->Pw,Keyword->PD,wpAny_truthy_bool->PJ,wpAny_isSubtype_exc->PP,backToKw->PX,wpAny_Call_Name_kw->PY,bootBuiltins->P0,Scope->P4,compEnvC->P5,wpAny_field->Qj,strLen_append->Ql,sysModules->Qn,wpAny_passesOwn->Qu,wpAny_holding->QC,mem_of_lookup->QE,NameKind->QH,holding->QL,typeIs_str->QM,call_meets->QN,behindInMarks->QT,getMethod->QU,limitOf->QV,notedBy->Q0,codeAny_mono->Q8,wpAny_comprehension_free->Re,wpAny_execs_nil->Rj,sliceBounds->Rp,standAt->Ru,wpAny_assign_Name->Rv,codeAny_compStart_list->RC,wpAny_setField->RE,plainObj_wpAny_Assign_Attribute->RI,wpAny_execs_cons->RL,assignEach->RM,wpAny_call->RO,wpAny_newFunctionEnv->RU,codeAny_call_builtin->RV,unbindBehindTheSuite->RY,codeAny->Sd,noteFrame->Si,bindArgs->Sq,tupleKind_room_in1->Ss,wpAny_Return_some->SC,getItem->SG,wpAny_pyIter_list->SH,wpAny_standAt->SJ,rawInt->SN,PassesOwn->SR,callWith->SU,noFill_tuple_add->SW,wpAny_callSpecial?_slot->SX,wpAny_list_append_plain->SZ,wpAny_Try_except->S6,assign->Ta,concat_meets->Te,IsPart->Tf,valueAt->Tj,callerA->To,call->Tq,codeAny_compLoop_tests->Tr,letOwnedTupleGo->Tu,wpAny_storeName_local->TL,codeAny_handlers_test->TR,Paired->TZ,GenState->T7,sizeLine_eq->Ua,wpAny_loadPart->Ub,lookup_relabel_local->Ue,intText?->Ui,numbered_texts->Uj,tupleKind->Uq,BindsTo->Ur,Builtin->Ut,strValues->Uu,length_partsBetween->UE,wpAny_handleBy_cons->UH,seq_tuple_add->UK,wpAny_List_spliced->UQ,excMatches->UW,Within->U0,Model->U1,wpAny_sequenceKey->U7,wpAny_typeOf->U8,seqIndex_neg->U9,slot_list_getitem->Va,relabel->Vc,wpAny_pyIter_enum->Vg,wpAny_pyHash_int->Vo,wpAny_pyHash_str->Vp,wpAny_eqBool_int->Vq,wpAny_eqBool_str->Vr,pastItsLine_dict->Vs,Result->Vt,wpAny_call_entry->Vy,seqSlot_of->Vz,reduceHash->VA,checkBuiltinCall->VB,setFlight->VC,seqIndex_of->VH,subscripted->VI,slicePicked->VJ,excClassObj->VL,getAttr->VZ,leaving->V0,builtinsNs->V6,isTrue->V7,wpAny_Name->V8,typeIs_int->Wb,atKey->Wc,compPost->Wd,isInstance->Wh,KeyKind->Wz,CmpOp->WQ,bindL->WS,bindC->WT,cellsFrom->WU,DictEntry->WV,setItem->WY,setAttr->WZ,Params->W2,OsState->W6,Drawn->Xd
open PySem.Heap renaming get?_push_of_some->NQ,lt_size->N5,get?_update_other->Om,get?_push_size->Ox,get?_update_self->O9,get?_none_of_le->PB,size_push->PM,SameBut->Qy,get?_push_at->Q1,get?_some_iff->Sw,get?_update_ne->UF
open List renaming getElem?_eq_some_iff->NS,mem_cons_of_mem->NV,mem_cons_self->NZ,mem_cons->N4,getElem?_append_left->N7,getElem?_set_ne->Oa,mem_singleton->Od,getElem?_set_self->Oh,mem_map->Oj,mem_append_right->On,length_cons->Oo,all_eq_true->Oq,mem_append->Oz,replicate->OA,mem_of_getElem?->OC,map_cons->OJ,range->OQ,mem_append_left->OR,length_append->OS,drop_eq_nil_of_le->OU,length_drop->OV,map_congr_left->OX,length_map->OY,length_take->OZ,size_toArray->O0,range'->O4,append_nil->Pb,not_mem_nil->Pd,map_map->Pm,getElem?_append_right->Po,take_of_length_le->Pq,drop_eq_getElem_cons->Pr,getElem?_map->Pt,nodup_append->Pv,filterMap_cons->PN,getElem?_eq_getElem->P2,flatten_cons->P8,lookup->Qh,tail_suffix->Qm,countP_append->Qs,mem_of_mem_take->QA,range'_succ->QJ,nodup_cons->QQ,map_append->QS,append_assoc->QY,drop_drop->Q4,exists_cons_of_ne_nil->Q5,all_cons->Rc,map_take->Ri,getElem?_cons_succ->Rq,mem_range->Rt,take_sublist->RA,drop_left->RF,mem_range'_1->RH,lookup_cons->RP,getElem_mem->RQ,any_cons->RR,sum_cons->RT,range'_append_1->R3,forIn_cons->R6,length_nil->R8,mem_take_iff_getElem->SA,length->SE,getElem?_take_of_lt->SK,map_drop->SQ,suffix_iff_eq_drop->S7,foldl->Ti,of_mem_zip->Tx,takeWhile_prefix->TU,countP_le_length->TV,countP_eq_length->TX,take_append_drop->TY,range_eq_range'->Up,replicate_succ->UC,getElem_of_mem->UD,map_eq_nil_iff->UI,countP_eq_zero->UJ,mem_filterMap->UO,any_eq_false->U2,take_add_one->Vd,pairwise_map->Vf,mem_of_head?->Vj,mem_flatten->VD,cons_append->VE,mem_filter->VN,nil_append->VT,find?_cons->VX,nodup_nil->Wg,drop_zero->Wj,take_left->Wl,all_map->W3,map_id->Xi
open Bool renaming and_eq_true->NY,false_ne_true->Ov,eq_iff_iff->PQ,false_eq_true->Rl,or_false->UN,not_eq_true'->Vh
open Nat renaming lt_of_lt_of_le->N6,le_trans->Oc,le_refl->Of,ne_of_lt->Ot,lt_irrefl->OK,not_lt_zero->PR,ne_of_gt->Qe,zero_le->QK,lt_succ_of_lt->QZ,le_of_lt->Q6,lt_of_le_of_lt->Rm,zero_add->RG,lt_succ_self->RN,toDigits->Sf,lt_trans->Tn,mul_le_mul->Ug,log2_lt->Um,le_succ->VG,min_eq_left->VY,le_of_eq->W0,sub_zero->W7,sub_self->W9,mul_one->Xj
open PySem.W renaming findIn->Og,nsIn->Oi,mg_of->Ow,mg_none_of->OP,keepIn->OT,kia_one->OW,fnOf->Pa,kitOne->Pc,looks_findIn->Pf,emptyDict->PK,hasDictIn->P7,instObj->Qb,kia_tup->Qd,mroIn->Qi,ownIn->Qk,callWith_K->Qo,OpenLaw->Qv,isFn->Qz,InstAt->QG,codeIn->QI,specialIn->QX,kitAny->Q2,plainGet->Q7,clsIn->Rg,readsIn->Rk,lookIn->Rw,kitx_list->Rx,kitx_dict->Ry,methodCall_KW->RJ,takesIn->R5,findCls->R7,plainGet_of->Sa,kitx_tuple->So,plainOver->SD,subIn->SM,handedIn->SS,cellsFrom_some->Td,takerIn->Tv,makesIn->Tw,findObj->TH,isClsIn->TJ,typeIn->Uc,nsOkIn->Uk,handedOut_of->Ul,findObj_own->Uw,WalkO->UM,kt_text_in->UU,looks_find->UX,kitx_none->U4,kitx_bool->U5,kitx_int->Vu,kitx_str->Vv,bind_fn->VO,kitMeta->VW,kitCls->Wi
open PySem.Value renaming ref->Ol,none->PH,type->RK,str->Sg,bool->S9,int->Vn,float->VF,isStrOf->Wy,isInt->Xb,bytes->Xc
open Option renaming map_eq_some_iff->OD,isSome_iff_exists->QD,getD_none->SY,map_some->TF,isSome_some->UT,isSome_map->Vb,map_none->VR,map->Xo
open PySem.PyData renaming str->OE,int->Qq,tuple->Tt,list->Uh,none->VM
open PySem.Builtin.Str renaming occurrences->OM,strKind->Pl,partsBetween->P3,strSliceIndices->Qg,strSub->QP,glued->Ve,subAt->Vi
open False renaming elim->ON
open PyProof.Rows renaming slot_tuple_getitem->O6,boot_isinstance->Px,envOfC->Pz,boot_tuple->Qr,callWith_type1->QW,boot_str->R4,AllBare->Sb,kindOf->Tc,subscriptTail_builtinR->Tg,signs_ofString->Uo,boot_bool->Uv,entry_tuple_getitem->Ux,tupleItemsOf_->UL,args_tuple_getitem->UR,boot_int->Vl,callWith_builtin1->Vx,IntsAre->V1,IsTup->V5,boot_all->Wm,boot_dict->WW,boot_list->WX
open PyProof.Rows.KTD renaming datLooks->Pg,tabLook->Pk,rowsLook->Q9,datumAt->SL,inKeys->S4,isSome_datumAt->Vm,opened_int->V2,eachL_miss->V3,item_textA->V4,eachL_hit->Wf,in_text->WM,EachL->W4,plain->W5,Dat->Xg
open PySem.F renaming slot_str_split->Ph,entry_str_split->PC,plainAttrs_str->Qf,excAttr_ValueError->Q3,args_tuple_add_2->Rb,args_str_split_2->Rf,args_str_split_3->Rh,entry_tuple_add->Ro,slot_tuple_add->RB,slot_tuple_mul->RD,slot_str_startswith->Se,excBase_ValueError->Sv,plainAttrs_list->S0,slot_tuple_rmul->S3,slot_list_index->S5,type_str_split->Ts,slot_str_join->TN,type_str_join->TQ,slot_int_rmul->VU
open Array renaming getElem?_eq_some_iff->Pp,length_toList->Ra
open PySem.Txt renaming splitMax->Py,startswith->P6,slice->P9,split->Qx,mul->QF,slice_le->W8
open PySem.NameKind renaming free->PF
open True renaming intro->PL
open Sum renaming inr->PU,inl->UZ
open Ne renaming symm->PV
open Or renaming inr->PZ,inl->Qp
open PySem.Builtin.Tuple renaming tupleExact->P1,tupleItemsOf->Sr,tupleTooMany->Su
open PySem.NumText renaming digitsVal->Qa,AllDigits->SI
open Option.some renaming inj->Qc
open PySem.Obj renaming isFreed_of_fields->Qt,data_mapFields->Rn,mapFields->SO,mapSeq->Wa
open ForInStep renaming yield->Qw
open PySem.Paired renaming length->QB,snoc->Xf
open Int renaming cast_ofNat_Int->QO,natCast_add->QR,le_refl->RZ,emod_lt_of_pos->Sx,eq_ofNat_of_zero_le->S8,emod_nonneg->TK,natAbs_natCast->UY,zero_add->Xa
open PySem.StrLaws renaming occBody->R9,glued_eq_join->TM,subAt_one->Vk,occ_eq->Wk
open PySem.SeqAt.EqAt renaming int_str->Sj,str_int->Sk,none_int->Uy,none_str->Uz,int_none->UA,str_none->UB,same->VQ,str_str->WN
open PySem.Calls renaming Constant_str->Sl,Name_function_global->Sn,callWith_builtin->Th,evalArgs_plain->Ud,spliced_cons->UP
open PySem.Builtin.Slice renaming slicePlaces->Sy,slicePartIndex->VP,sliceApplied->V9,sliceAdjust->Wx
open PySem.Builtin.ObjectAttr renaming bindTo->Sz
open PySem.Around renaming under->Tb
open PySem.PassesOwn renaming never->Tz
open PyProof.Rows.IsTup renaming new->Us
open PySem.EntryCells renaming newEntry->UG
open PySem.Code renaming quiet_builtin->UV,isFrame->U6,isGuard->W1,frames->Xe
open PySem.Heap.Ns1 renaming of_empty->U3
open PySem.Walks renaming dictKeys->We,list->Xn
open PySem.EqNone renaming eq_none_none->Wn,eq_none_bool->Wo,eq_bool_none->Wp,ne_none_none->Ws,ne_none_bool->Wt,ne_bool_none->Wu,eq_none_int->WA,eq_none_str->WB,eq_int_none->WC,eq_str_none->WE,ne_none_int->WG,ne_none_str->WH,ne_int_none->WI,ne_str_none->WK
open PySem.EqMixed renaming eq_bool_str->Wq,eq_str_bool->Wr,ne_bool_str->Wv,ne_str_bool->Ww,eq_int_str->WD,eq_str_int->WF,ne_int_str->WJ,ne_str_int->WL
open PySem.ExcName renaming means->WO
open PySem.Builtin.Range renaming rangeSize->WP
open PySem.Data renaming fields->Xh
open PySem.W.Looks renaming here->Xk
open PySem.Heap.IsSliceOf renaming new->Xl
open PySem.SeqAt renaming EqAt->Xm
open PySem.Draws renaming list->Xp
open Char renaming toNat->Xq
open PySem.Within renaming cons->Xr
open List.Pairwise renaming nil->Xs,imp->Xu
open PySem.Heap.SameBut renaming refl->Xt
open PySem PySem.Spec PyProof.Rows
namespace Internal
namespace L2
abbrev Key:=Sum Int Str
def ja:Key->NO->Bool
 |.inl k,v=>Xb k v
 |.inr x,v=>Wy x v
def zC(w:N8):Key->Int
 |.inl k=>hashInt k
 |.inr x=>hashStr w x
theorem fB:∀{k:Key}{v:NO},ja k v=true->(∃i t,k=UZ i/\v=Vn i t)\/(∃x t,k=PU x/\v=Sg x t)
 |.inl i,v,h=>by
  obtain⟨t,e⟩:=Value.isInt_shape   h;exact .inl ⟨i,t,rfl,e⟩
 |.inr x,v,h=>by
  obtain⟨t,e⟩:=Value.isStrOf_shape   h;exact .inr ⟨x,t,rfl,e⟩
theorem zaa(i:Int)(t:Tok):ja (.inl i) (.int i t)=true:=by simp[ja,Xb]
theorem zab(x:Str)(t:Tok):ja (.inr x) (.str x t)=true:=by simp[ja,Wy]
theorem zsj(a b:Int):decide ((UZ a:Key)=UZ b)=(a == b) :=by grind
theorem zsk(a b:Str):decide ((PU a:Key)=PU b)=decide (a=b) :=by simp
theorem zsl(a:Int)(b:Str):decide ((UZ a:Key)=PU b)=false :=rfl
theorem zsm(a:Str)(b:Int):decide ((PU a:Key)=UZ b)=false :=rfl
def cK(prog:NU)(w:N8):Wz prog w Key where
 is:=ja
 hash:=zC w
 inj:=fun v a b ha hb=>by
  rcases fB ha with⟨i,t,rfl,rfl⟩|⟨x,t,rfl,rfl⟩
  .rcases fB hb with⟨j,u,rfl,e⟩|⟨y,u,rfl,e⟩
   .injection e with e1 _;rw[e1]
   .exact nomatch e
  .rcases fB hb with⟨j,u,rfl,e⟩|⟨y,u,rfl,e⟩
   .exact nomatch e
   .injection e with e1 _;rw[e1]
 byValue:=fun k v h=>by
  rcases fB h with⟨i,t,rfl,rfl⟩|⟨x,t,rfl,rfl⟩ <;> rfl
 pyHash:=fun hv h=>by
  rcases fB hv with⟨i,t,rfl,rfl⟩|⟨x,t,rfl,rfl⟩
  .exact Vo h
  .exact Vp h
 eqBool:=fun hu hv h=>by
  rcases fB hu with⟨i,t,rfl,rfl⟩|⟨x,t,rfl,rfl⟩
  .rcases fB hv with⟨j,u,rfl,rfl⟩|⟨y,u,rfl,rfl⟩
   .rw[zsj] at h;exact Vq h
   .rw[zsl] at h;exact Sj i t y u _ _ _ _ h
  .rcases fB hv with⟨j,u,rfl,rfl⟩|⟨y,u,rfl,rfl⟩
   .rw[zsm] at h;exact Sk x t j u _ _ _ _ h
   .rw[zsk] at h;exact Vr h
 «strs»:=fun k x t v h=>by
  rcases fB h with⟨i,u,rfl,e⟩|⟨y,u,rfl,e⟩
  .exact nomatch e
  .injection e with e1 _
   subst e1
   cases v <;> rfl
theorem zac(prog:NU)(w:N8)(i:Int)(t:Tok):(cK prog w).is (.inl i) (.int i t)=true:=zaa i t
theorem zad(prog:NU)(w:N8)(x:Str)(t:Tok):(cK prog w).is (.inr x) (.str x t)=true:=zab x t
inductive V where
 |non|bl (b:Bool)|int (i:Int)|str (x:Str)|byt (b:Array UInt8)|flt (b:UInt64)|ref (a:Addr)|ty (n:String)
 deriving DecidableEq
def RelV:V->NO->Prop
 |.non,u=>u=PH
 |.bl b,u=>u=S9 b
 |.int i,u=>∃t,u=Vn i t
 |.str x,u=>∃t,u=Sg x t
 |.byt b,u=>∃t,u=Xc b t
 |.flt b,u=>∃t,u=VF b t
 |.ref a,u=>u=Ol a
 |.ty n,u=>u=RK n
abbrev XC:List V->List NO->Prop:=TZ RelV
theorem XC.length(r:XC xs us):xs.length=us.length:=QB r
theorem XC.get:∀{xs:List V}{us:List NO}{i:Nat}{x:V},XC xs us->xs[i]? = some x->∃u,us[i]? = some u/\RelV x u
 |_,_,_,_,.nil,e=>by simp at e
 |_,_,0,_,.cons r _,e=>by simp at e;subst e;exact⟨_,rfl,r⟩
 |_,_,i+1,x,.cons _ t,e=>by
  obtain⟨u,h1,h2⟩:=XC.get   t (by simpa using e);exact⟨u,by simpa using h1,h2⟩
theorem XC.set(r:RelV x u):∀{xs:List V}{us:List NO} (i:Nat),XC xs us->XC (xs.set i x) (us.set i u)
 |_,_,_,.nil=>.nil
 |_,_,0,.cons _ t=>.cons r t
 |_,_,i+1,.cons q t=>.cons q (XC.set r i t)
theorem XC.append:∀{xs ys:List V}{us ws:List NO},XC xs us->XC ys ws->XC (xs++ys) (us++ws)
 |_,_,_,_,.nil,s=>s
 |_,_,_,_,.cons r t,s=>.cons r (XC.append t s)
theorem XC.take:∀{xs:List V}{us:List NO} (n:Nat),XC xs us->XC (xs.take n) (us.take n)
 |_,_,0,_=>.nil
 |_,_,_+1,.nil=>.nil
 |_,_,n+1,.cons r t=>.cons r (XC.take n t)
theorem XC.drop:∀{xs:List V}{us:List NO} (n:Nat),XC xs us->XC (xs.drop n) (us.drop n)
 |_,_,0,r=>r
 |_,_,_+1,.nil=>.nil
 |_,_,n+1,.cons _ t=>XC.drop n t
def YY:Option V->Option NO->Prop
 |some v,some u=>RelV v u
 |none,none=>True
 |_,_=>False
def KV{κ:Type}:List (κ×V)->List (κ×NO)->Prop:=TZ fun(p:κ×V) (q:κ×NO)=>p.1=q.1/\RelV p.2 q.2
def kV:Key->V
 |.inl i=>.int i
 |.inr x=>.str x
inductive HO where
  |lst (xs:List V)
  |tup (xs:List V)
  |dK (kvs:List (Key×V))|dT (kvs:List (List Key×V))
  |set (S:Int->Bool) (n:Nat)
  |ins (C dx:Addr) (fs:List (Str×V))
  |own (x:Addr)
  |xd (fs:List (Str×V))
  |met (f x:Addr)
  |rng (lo hi:Int)
  |frz (o:Obj) (u:HO)
  |tbl (ps:Array NO)
  |ext (φ:Heap->Prop)
abbrev Hp:=Addr->Option HO
def upd(H:Hp)(a:Addr)(o:HO):Hp:=fun b=>if b=a then some o else H b
theorem bu:upd H a o a=some o:=by unfold upd<;>simp_all
theorem aX(h:b≠a):upd H a o b=H b:=by unfold upd;rw[if_neg h]
theorem zae:upd (upd H a o) a u=upd H a u:=by funext b;unfold upd;split <;> rfl
theorem zaf{H:Hp}{a b:Addr}{o u:HO}(h:H a=some o)(h':H b=some u)(d:o≠u):a≠b:=by intro e<;>simp_all
theorem bM{H:Hp}{a b:Addr}{o:HO}(h:H a=some o)(h':H b=none):a≠b :=by grind
section
variable (P:NU)(w:N8)
def X7(H:Hp)(h:Heap)(a:Addr):HO->Prop
 |.lst xs=>xs.length<=NX/\∃(Xx:List NO) (n:Nat),XC xs Xx/\h.get? a=some { cls:=.type "list",data:=.seq Xx.toArray n }
 |.tup xs=>xs.length<=NX/\∃Xx:List NO,XC xs Xx/\V5 h a Xx.toArray
 |.dK kvs=>kvs.length<=NX/\(a == Qn)=false/\∃vs,KV kvs vs/\h.DictOf (cK P w) a vs
 |.dT kvs=>kvs.length<=NX/\(a == Qn)=false/\∃xs:List (List Key×Addr×NO),
   TZ (fun(p:List Key×V) (q:List Key×Addr×NO)=>p.1=q.1/\H q.2.1=some (.tup (p.1.map kV))/\RelV p.2 q.2.2) kvs xs /\
   ∃o es ep,h.get? a=some o/\o.ExactDict/\o.data=.dict es ep/\es.toList=xs.map (entryOfKey (Uq (cK P w)))/\(xs.map (·.1)).Nodup
 |.set S n=>h.SetOf (intKind P w) a S n
 |.ins C dx fs=>H dx=some (.own a)/\fs.length<=1000/\dx≠a/\h.get? a=some (Qb C dx) /\
   ∃mA,h.Ns1 dx mA/\(∀f,YY (fs.lookup f) (mA f))/\U0 mA (fs.map (·.1))
 |.own _=>∃o,h.get? a=some o
 |.xd fs=>∃mA,h.Ns1 a mA/\∀f,YY (fs.lookup f) (mA f)
 |.rng lo hi=>∃t u v,h.get? a=some { cls:=.type "range",data:=.fields #[.int lo t,.int hi u,.int 1 v] }
 |.frz o u=>h.get? a=some o/\X7 H h a u
 |.tbl ps=>h.get? a=some { cls:=.none,data:=.fields ps }
 |.met f x=>h.get? a=some (PySem.W.methodObj (.ref f) (.ref x))
 |.ext φ=>φ h/\(∃o,h.get? a=some o)/\∀h1 h2:Heap,φ h1->(∀o,h1.get? a=some o->h2.get? a=some o)->φ h2
def YR(H:Hp)(h:Heap):Prop:=∀a o,H a=some o->X7 P w H h a o
end
section
variable {P:NU}{w:N8}{H H':Hp}{h h':Heap}{a:Addr}{o:HO}
theorem X7.lt(x:X7 P w H h a o):a<h.objs.size:=by
 cases o with
 |lst xs=>obtain⟨_,_,_,_,e⟩:=x;exact N5 e
 |tup xs=>obtain⟨_,_,_,p⟩:=x;exact p.lt
 |dK kvs=>obtain⟨_,_,_,_,o,_,_,e,_⟩:=x;exact N5 e
 |dT kvs=>obtain⟨_,_,_,_,o,_,_,e,_⟩:=x;exact N5 e
 |set S n=>obtain⟨o,_,_,_,e,_⟩:=x;exact N5 e
 |ins C dx fs=>obtain⟨_,_,_,e,_⟩:=x;exact N5 e
 |own y=>obtain⟨_,e⟩:=x;exact N5 e
 |xd fs=>obtain⟨_,⟨_,_,_,e,_⟩,_⟩:=x;exact N5 e
 |rng lo hi=>obtain⟨_,_,_,e⟩:=x;exact N5 e
 |frz ob u=>obtain⟨e,_⟩:=x;exact N5 e
 |tbl ps=>exact N5 (x)
 |met f y=>exact N5 (x)
 |ext φ=>obtain⟨_,⟨_,e⟩,_⟩:=x;exact N5 e
theorem Paired.mapP{α β:Type}{F G:α->β->Prop}:∀{HS:List α}{HU:List β},TZ F HS HU->(∀a b,F a b->G a b)->TZ G HS HU
 |_,_,.nil,_=>.nil
 |_,_,.cons r t,f=>.cons (f _ _ r) (Paired.mapP t f)
theorem X7.stay(x:X7 P w H h a o)(k:∀b u,(b=a\/H b=some (.own a))->h.get? b=some u->h'.get? b=some u)
  (ho:∀b,H b=some (.own a)->H' b=some (.own a)) (ht:∀b xs,H b=some (.tup xs)->H' b=some (.tup xs)):X7 P w H' h' a o:=by
 induction o with
 |lst xs=>obtain⟨z,Xx,n,r,e⟩:=x;exact⟨z,Xx,n,r,k _ _ (.inl rfl) e⟩
 |tup xs=>obtain⟨z,Xx,r,ob,e,c⟩:=x;exact⟨z,Xx,r,ob,k _ _ (.inl rfl) e,c⟩
 |dK kvs=>obtain⟨z,y,vs,r,ob,es,ep,e,c⟩:=x;exact⟨z,y,vs,r,ob,es,ep,k _ _ (.inl rfl) e,c⟩
 |dT kvs=>
  obtain⟨z,y,xs,r,ob,es,ep,e,c⟩:=x;exact⟨z,y,xs,Paired.mapP r fun p q z=>⟨z.1,ht _ _ z.2.1,z.2.2⟩,ob,es,ep,k _ _ (.inl rfl) e,c⟩
 |set S n=>obtain⟨ob,es,ep,t,e,c⟩:=x;exact⟨ob,es,ep,t,k _ _ (.inl rfl) e,c⟩
 |ins C dx fs=>
  obtain⟨d,z,ne,e,mA,⟨od,es,ep,e2,c⟩,r⟩:=x;exact⟨ho _ d,z,ne,k _ _ (.inl rfl) e,mA,⟨od,es,ep,k _ _ (.inr d) e2,c⟩,r⟩
 |own y=>obtain⟨ob,e⟩:=x;exact⟨ob,k _ _ (.inl rfl) e⟩
 |xd fs=>obtain⟨mA,⟨od,es,ep,e,c⟩,r⟩:=x;exact⟨mA,⟨od,es,ep,k _ _ (.inl rfl) e,c⟩,r⟩
 |rng lo hi=>obtain⟨t,u,v,e⟩:=x;exact⟨t,u,v,k _ _ (.inl rfl) e⟩
 |frz ob u ih=>obtain⟨e,q⟩:=x;exact⟨k _ _ (.inl rfl) e,ih q⟩
 |tbl ps=>
  have e:=x;exact k a _ (.inl rfl) e
 |met f y=>
  have e:=x;exact k a _ (.inl rfl) e
 |ext φ=>obtain⟨p,⟨o,e⟩,st⟩:=x;exact⟨st _ _ p fun o q=>k _ _ (.inl rfl) q,⟨o,k _ _ (.inl rfl) e⟩,st⟩
theorem YR.lt(x:YR P w H h)(e:H a=some o):a<h.objs.size:=(x a o e).lt
theorem YR.fresh(x:YR P w H h)(e:h.objs.size<=a):H a=none:=by
 cases q:H a with
 |none=>rfl
 |some u=>exact absurd (N6 (x.lt q) e) (OK _)
theorem YR.kept(x:YR P w H h)(k:∀b u,h.get? b=some u->h'.get? b=some u):YR P w H h':=fun a o e=>
 (x a o e).stay (fun b u _ q=>k b u q) (fun _ q=>q) fun _ _ q=>q
theorem YR.laid(x:YR P w H h)(k:∀b u,h.get? b=some u->h'.get? b=some u)(hp:h.objs.size<=a)(new:X7 P w (upd H a o) h' a o):YR P w (upd H a o) h':=fun b u e=>by
 have hn:=x.fresh hp
 by_cases hb:b=a
 .subst hb;rw[bu] at e<;>simp_all
 .rw[aX hb] at e
  exact(x b u e).stay (fun c v _ q=>k c v q) (fun c q=>by rw[aX (bM q hn)];exact q) fun c xs q=>by rw[aX (bM q hn)];exact q
end
def Rd(H:Hp)(a:Addr)(u:HO):Prop:=H a=some u\/∃o,H a=some (.frz o u)
theorem Rd.ok(r:Rd H a u)(x:YR P w H h):X7 P w H h a u:=by
 rcases r with r|⟨o,r⟩
 .exact x a u r
 .obtain⟨_,q⟩:=x a _ r
  exact q
def Da:Option HO->Prop
 |some (.lst _)=>True
 |some (.dK _)=>True
 |some (.dT _)=>True
 |some (.set _ _)=>True
 |some (.ins _ _ _)=>True
 |some (.ext _)=>True
 |_=>False
section
variable {P:NU}{w:N8}{H:Hp}{h h':Heap}{x e:Addr}{o':HO}
theorem YR.write(ok:YR P w H h)(mu:Da (H x))(he:e=x\/H e=some (.own x))(k:∀b u,b≠e->h.get? b=some u->h'.get? b=some u)(CJ:∃u,h'.get? e=some u)
  (new:X7 P w (upd H x o') h' x o'):YR P w (upd H x o') h':=fun b u q=>by
 have yo:∀c y,H c=some (.own y)->c≠x:=fun c y r z=>by subst z;rw[r] at mu;exact mu
 have uc:∀c xs,H c=some (.tup xs)->c≠x:=fun c xs r z=>by subst z;rw[r] at mu;exact mu
 by_cases hb:b=x
 .subst hb;rw[bu] at q;cases q;exact new
 .rw[aX hb] at q
  by_cases hbe:b=e
  .have q':H b=some (.own x):=by simp_all
   rw[q] at q';cases q';obtain⟨v,hv⟩:=CJ;exact⟨v,by simp_all⟩
  .refine(ok b u q).stay (fun c v hc r=>k c v ?_ r) (fun c r=>by rw[aX (yo c b r)];exact r) fun c xs r=>by rw[aX (uc c xs r)];exact r
   rcases hc with rfl|hc<;>grind
end
structure Un(fs ex:List Addr)(H H':Hp)(h h':Heap):Prop where
 keep:∀b o,h.get? b=some o->H b=none->b∉fs->b∉ex->h'.get? b=some o
 slot:∀b o,h.get? b=some o->H b=none->b∈fs->b∉ex->∃sl,h'.get? b=some { o with slots:=sl }
 free:∀b o,h.get? b=some o->H b=none->b∉ex->H' b=none
 there:∀b o,h.get? b=some o->b∉ex->∃o',h'.get? b=some o'
 tups:∀b xs,H b=some (.tup xs)->H' b=some (.tup xs)
 frzs:∀b o u,H b=some (.frz o u)->H' b=some (.frz o u)
 tbls:∀b ps,H b=some (.tbl ps)->∃more,H' b=some (.tbl (ps++more))
section
variable {fs B0 ex J9:List Addr}{H H1 H2:Hp}{h h1 h2 h':Heap}{a x e:Addr}{o:HO}
theorem Un.any(u:Un fs ex H H1 h h1)(q:h.get? b=some ob)(n:H b=none)(hx:b∉ex):∃sl,h1.get? b=some { ob with slots:=sl }:=by
 by_cases hb:b∈fs
 .exact u.slot b ob q n hb hx
 .exact⟨ob.slots,u.keep b ob q n hb hx⟩
theorem Un.kept(k:∀b u,h.get? b=some u->h'.get? b=some u):Un fs ex H H h h':=⟨fun b ob q _ _ _=>k b ob q,fun b ob q _ _ _=>⟨ob.slots,k b ob q⟩,fun _ _ _ n _=>n,fun b ob q _=>⟨ob,k b ob q⟩,fun _ _ q=>q,fun _ _ _ q=>q,fun _ ps q=>⟨#[],by simp_all⟩⟩
theorem Un.refl:Un fs ex H H h h:=Un.kept fun _ _ q=>q
theorem Un.laid(k:∀b u,h.get? b=some u->h'.get? b=some u)(hp:h.objs.size<=a)(hn:H a=none):Un fs ex H (upd H a o) h h' where
 keep:=fun b u q _ _ _=>k b u q
 slot:=fun b u q _ _ _=>⟨u.slots,k b u q⟩
 free:=fun b u q n _=>by rw[aX (Ot (N6 (N5 q) hp))];exact n
 there:=fun b u q _=>⟨u,k b u q⟩
 tups:=fun b xs q=>by rw[aX (bM q hn)];exact q
 frzs:=fun b u xs q=>by rw[aX (bM q hn)];exact q
 tbls:=fun b ps q=>⟨#[],by rw[aX (bM q hn),q];simp⟩
theorem Un.write(mu:Da (H x))(he:e=x\/H e=some (.own x))(k:∀b u,b≠e->h.get? b=some u->h'.get? b=some u)(CJ:∃u,h'.get? e=some u):Un fs ex H (upd H x o) h h':=by
 have hx:∀b,H b=none->b≠x:=fun b n z=>by subst z;rw[n] at mu;exact mu
 have hb:∀b,H b=none->b≠e:=fun b n z=>by simp_all
 have hm:∀b u,H b=some u->¬Da (some u)->b≠x:=fun b u q nm z=>by simp_all
 refine⟨fun b u q n _ _=>k b u (hb b n) q,fun b u q n _ _=>⟨u.slots,k b u (hb b n) q⟩,fun b u q n _=>by rw[aX (hx b n)];exact n,fun b u q _=>?_,
  fun b xs q=>by rw[aX (hm b _ q fun z=>z)];exact q,fun b u xs q=>by rw[aX (hm b _ q fun z=>z)];exact q,fun b ps q=>⟨#[],by rw[aX (hm b _ q fun z=>z),q];simp⟩⟩
 by_cases hbe:b=e<;>simp_all
end
def trk(h:Heap)(H:Hp):List Addr:=(OQ h.objs.size).filter fun a=>(H a).isSome
def hU(h:Heap)(H:Hp):Heap:=PySem.W.hideAll h (trk h H)
theorem zag(h:Heap)(H:Hp):(hU h H).objs.size=h.objs.size:=PySem.W.hideAll_size _ _
theorem zah(e:h.get? b=some o)(n:H b=none):(hU h H).get? b=some o:=
 PySem.W.hideAll_get _ e fun hm=>by
  have q:=(VN.mp hm).2<;>simp_all
theorem zai(e:(hU h H).get? b=some o):h.get? b=some o/\H b=none:=by
 have e':=PySem.W.of_hideAll _ e;refine⟨e',?_⟩
 cases q:H b with
 |none=>rfl
 |some x=>
  have hm:b∈trk h H:=VN.mpr ⟨Rt.mpr (N5 e'),by simp[q]⟩
  have z:(hU h H).get? b=none:=PySem.W.hideAll_none _ hm<;>simp_all
def FF(g h:Heap)(L:Addr):List (Addr×Obj):=(OQ h.objs.size).filterMap fun a=>if a=L\/(g.get? a).isSome=true then none else (h.get? a).map fun o=>(a,o)
def rest(g h:Heap)(L d:Addr):List (Addr×Obj):=(FF g h L).filter fun p=>decide (p.1≠d)
structure Mod(K:Frag)(mg:Str->Option NO)(base:Heap):Prop where
 kin:K.In base
 glob:base.Ns N9 mg
 blt:∃mb,base.Ns V6 mb/\∀x:Str,x≠"__name__"->mb x=P0 x
 nolimit:base.NoLimit
structure Cx where
 prog:NU
 w:N8
 K:Frag
 mg:Str->Option NO
 base:Heap
 A:OF
 N:List Str
 s₀:NP
 H₀:Hp
 env:Env
 outer:List Env
 stack:List Env
 ex:List Addr
 fn:Str->Bool
 calm:Bool
 pn:List (Addr×Obj)
 xe:NO->NP->Prop
def frs(l:List Env):List Addr:=l.filterMap (·.frame)
abbrev Cx.fs(X:Cx):List Addr:=frs X.outer
def Dt(sc:P4)(x:Str):Prop:=sc.names.lookup x=some .local\/sc.names.lookup x=some .cell\/sc.names.lookup x=some .free
def Loc(sc:P4)(x:Str):Prop:=sc.names.lookup x=some .local\/sc.names.lookup x=some .cell
def Look(env:Env)(h:Heap)(m:Str->Option NO)(x:Str)(u:NO):Prop:=(env.kindOf x=some .local/\m x=some u)\/((env.kindOf x=some .cell\/env.kindOf x=some .free)/\∃c,env.cells.lookup x=some c/\h.IsCell c (some u))
structure Cx.Ok(X:Cx):Prop where
 mod:Mod X.K X.mg X.base
 kind:X.env.scope.kind=.function
 glob:X.env.globals=N9
 blt:X.env.builtins=V6
 above:X.s₀.heap.objs.size<=X.env.locals
 inj:∀x y c,X.env.cells.lookup x=some c->X.env.cells.lookup y=some c->x=y
 has:∀x,(X.env.kindOf x=some .cell\/X.env.kindOf x=some .free)->∃c,X.env.cells.lookup x=some c
 cab:∀x c,X.fn x=true->X.env.cells.lookup x=some c->X.s₀.heap.objs.size<=c
 hd:X.calm=true->X.A.handled=none
 frames:X.A.frames=some X.stack
 stk:X.stack=X.outer\/(X.stack=X.env::X.outer/\X.env.frame=some X.env.locals)
 exf:∀b∈X.ex,b≠X.env.locals/\∀x c,X.env.cells.lookup x=some c->c≠b
 bs:∀b o,X.base.get? b=some o->X.s₀.heap.get? b=some o/\X.H₀ b=none
 bsz:X.base.objs.size<=X.s₀.heap.objs.size
 noex:∀b o,X.base.get? b=some o->b∉X.ex
 exfs:∀b∈X.ex,b∉X.fs
 funs:X.s₀.heap.FunFrames X.base X.outer
 frf:∀b∈X.fs,X.H₀ b=none
structure Inv(X:Cx)(pins:List (Addr×Obj))(σ:List (Option V))(H:Hp)(s:NP):Prop where
 ok:X.Ok
 os:s.os=X.s₀.os
 bare:Sb s.gens
 base:Un X.fs X.ex X.H₀ H X.s₀.heap s.heap
 loc:∃m,s.heap.Ns X.env.locals m/\∀(i:Nat) (x:Str) (v:V),X.N[i]? = some x->σ[i]? = some (some v)->Dt X.env.scope x->∃u,RelV v u/\Look X.env s.heap m x u
 cell:∀x c,X.env.cells.lookup x=some c->∃v,s.heap.IsCell c v
 free:H X.env.locals=none
 freeC:∀x c,X.env.cells.lookup x=some c->H c=none
 pin:∀p∈X.pn++pins,s.heap.get? p.1=some p.2/\H p.1=none/\p.1≠X.env.locals/\p.1∉X.fs/\∀v,p.2.data≠.cell v
 hok:YR X.prog X.w H s.heap
 len:σ.length=X.N.length
section
variable {X:Cx}{pins:List (Addr×Obj)}{σ:List (Option V)}{H H':Hp}{s:NP}{h':Heap}
theorem Cx.Ok.nofr(ok:X.Ok)(e:X.base.get? b=some o):b∉X.fs:=fun hb=>by
 have:=(ok.funs.mem hb).1<;>grind
theorem Inv.bs(I:Inv X pins σ H s):∀b o,X.base.get? b=some o->s.heap.get? b=some o/\H b=none:=fun b o e=>
 ⟨I.base.keep b o (I.ok.bs b o e).1 (I.ok.bs b o e).2 (I.ok.nofr e) (I.ok.noex b o e),I.base.free b o (I.ok.bs b o e).1 (I.ok.bs b o e).2 (I.ok.noex b o e)⟩
theorem Inv.bk(I:Inv X pins σ H s):∀b o,X.base.get? b=some o->s.heap.get? b=some o:=fun b o e=>(I.bs b o e).1
theorem Inv.mod(I:Inv X pins σ H s):Mod X.K X.mg X.base:=I.ok.mod
theorem Inv.kIn(I:Inv X pins σ H s):X.K.In s.heap:=I.ok.mod.kin.keeps I.bk
theorem Inv.lt(I:Inv X pins σ H s):X.env.locals<s.heap.objs.size:=let ⟨_,hn,_⟩:=I.loc;hn.lt
theorem Inv.sz(I:Inv X pins σ H s):X.s₀.heap.objs.size<=s.heap.objs.size:=Oc I.ok.above (Q6 I.lt)
theorem Inv.nofs(I:Inv X pins σ H s)(h:s.heap.objs.size<=a):a∉X.fs:=fun hb=>by
 obtain⟨_,o,ho,_⟩:=I.ok.funs.mem hb;exact absurd (N6 (N5 ho) (Oc I.sz h)) (OK _)
theorem Inv.cne(I:Inv X pins σ H s):∀x c,X.env.cells.lookup x=some c->c≠X.env.locals:=fun x c e z=>by
 obtain⟨v,o,ho,hd⟩:=I.cell x c e
 obtain⟨m,⟨o',es,ep,Jr,EZ,_⟩,_⟩:=I.loc<;>grind
theorem Inv.funs(I:Inv X pins σ H s):s.heap.FunFrames X.base X.outer:=by
 have all:∀(l:List Env),(∀b∈frs l,b∈X.fs)->X.s₀.heap.FunFrames X.base l->s.heap.FunFrames X.base l:=by
  intro l
  induction l with
  |nil=>intro _ _;trivial
  |cons env r ih=>
   intro hs hl;obtain⟨hk,⟨L,o,hf,hn,ho,hd⟩,hr⟩:=hl;have hL:=hs L (by unfold frs<;>simp_all);obtain⟨sl,e⟩:=I.base.slot L o ho (I.ok.frf L hL) hL fun z=>I.ok.exfs L z hL;exact⟨hk,⟨L,_,hf,hn,e,hd⟩,ih (fun b hb=>hs b (by unfold frs;rw[PN,hf];exact NV _ hb)) hr⟩
 exact all _ (fun _ hb=>hb) I.ok.funs
theorem Inv.stack(I:Inv X pins σ H s):s.heap.FunFrames X.base X.stack:=by
 rcases I.ok.stk with e|⟨e,hf⟩
 .rw[e];exact I.funs
 .rw[e]
  obtain⟨m,hn,_⟩:=I.loc;refine .cons (by rw[I.ok.kind];decide) hf hn ?_ I.funs;exact PB (Oc I.ok.bsz I.ok.above)
theorem Inv.stkSub(I:Inv X pins σ H s):∀b∈frs X.stack,b∈X.env.locals::X.fs:=fun b hb=>by
 rcases I.ok.stk with e|⟨e,hf⟩
 simp_all
 .rw[e] at hb
  unfold frs at hb;rw[PN,hf] at hb;exact hb
theorem Inv.stkFree(I:Inv X pins σ H s):∀b∈frs X.stack,H b=none:=fun b hb=>by
 rcases N4.mp (I.stkSub b hb) with e|hb
 .rw[e];exact I.free
 .obtain⟨_,o,ho,_⟩:=I.ok.funs.mem hb
  exact I.base.free b o ho (I.ok.frf b hb) fun z=>I.ok.exfs b z hb
theorem Inv.step{g':Array T7}{t':Nat}{d':Xd}{ch:List Addr}(I:Inv X pins σ H s)
  (zN:∀b∈ch,(b∈X.ex\/X.s₀.heap.objs.size<=b)/\b≠X.env.locals/\(∀x c,X.env.cells.lookup x=some c->c≠b)/\∀p∈X.pn++pins,p.1≠b)
  (keep:∀b o,b≠X.env.locals->b∉X.fs->b∉ch->s.heap.get? b=some o->H b=none->h'.get? b=some o)
  (slot:∀b o,b≠X.env.locals->b∈X.fs->b∉ch->s.heap.get? b=some o->H b=none->∃sl,h'.get? b=some { o with slots:=sl }) (free:∀b o,b∉ch->s.heap.get? b=some o->H b=none->H' b=none)
  (there:∀b o,b∉ch->s.heap.get? b=some o->∃o',h'.get? b=some o')
  (tups:∀b xs,H b=some (.tup xs)->H' b=some (.tup xs)) (frzs:∀b o u,H b=some (.frz o u)->H' b=some (.frz o u)) (tbls:∀b ps,H b=some (.tbl ps)->∃more,H' b=some (.tbl (ps++more)))
  (ns:∀m,s.heap.Ns X.env.locals m->h'.Ns X.env.locals m) (hok:YR X.prog X.w H' h') (hg:Sb g') :
  Inv X pins σ H' { s with heap:=h',gens:=g',drawn:=d',toks:=t' }:=by
 have Bg:∀b o,X.s₀.heap.get? b=some o->b≠X.env.locals:=fun b o e=>Ot (N6 (N5 e) I.ok.above)
 have Bw:∀b o,X.s₀.heap.get? b=some o->b∉X.ex->b∉ch:=fun b o e hx hb=>by
  rcases(zN b hb).1 with z|z
  .exact hx z
  .exact absurd (N6 (N5 e) z) (OK _)
 have cellK:∀x c,X.env.cells.lookup x=some c->∀v,s.heap.IsCell c v->h'.IsCell c v:=fun x c e v ⟨o,ho,hd⟩=>by
  have Fh:c∉ch:=fun z=>(zN c z).2.2.1 x c e rfl
  by_cases hc:c∈X.fs
  .obtain⟨sl,q⟩:=slot c o (I.cne x c e) hc Fh ho (I.freeC x c e)
   exact⟨_,q,hd⟩
  .exact⟨o,keep c o (I.cne x c e) hc Fh ho (I.freeC x c e),hd⟩
 refine⟨I.ok,I.os,hg,⟨fun b o e n hb hx=>?_,fun b o e n hb hx=>?_,fun b o e n hx=>?_,fun b o e hx=>?_,fun b xs e=>tups b xs (I.base.tups b xs e),fun b o xs e=>frzs b o xs (I.base.frzs b o xs e),fun b ps e=>?_⟩,?_,fun x c e=>?_,?_,fun x c e=>?_,fun p hp=>?_,hok,I.len⟩
 .exact keep b o (Bg b o e) hb (Bw b o e hx) (I.base.keep b o e n hb hx) (I.base.free b o e n hx)
 .obtain⟨sl,e1⟩:=I.base.slot b o e n hb hx
  obtain⟨Fv,e2⟩:=slot b _ (Bg b o e) hb (Bw b o e hx) e1 (I.base.free b o e n hx);exact⟨Fv,e2⟩
 .obtain⟨o',e1⟩:=I.base.there b o e hx
  exact free b o' (Bw b o e hx) e1 (I.base.free b o e n hx)
 .obtain⟨o',e1⟩:=I.base.there b o e hx
  exact there b o' (Bw b o e hx) e1
 .obtain⟨m1,e1⟩:=I.base.tbls b ps e
  obtain⟨m2,e2⟩:=tbls b _ e1;exact⟨m1++m2,by rw[e2,Array.append_assoc]⟩
 .obtain⟨m,hn,hl⟩:=I.loc
  refine⟨m,ns m hn,fun i x v e1 e2 e3=>?_⟩;obtain⟨u,r,l⟩:=hl i x v e1 e2 e3;refine⟨u,r,?_⟩
  rcases l with l|⟨k,c,e,z⟩
  .exact .inl l
  .exact .inr ⟨k,c,e,cellK x c e _ z⟩
 .obtain⟨v,z⟩:=I.cell x c e
  exact⟨v,cellK x c e v z⟩
 .obtain⟨m,⟨o,_,_,ho,_⟩,_⟩:=I.loc
  exact free _ o (fun z=>(zN _ z).2.1 rfl) ho I.free
 .obtain⟨v,o,ho,hd⟩:=I.cell x c e
  exact free c o (fun z=>(zN c z).2.2.1 x c e rfl) ho (I.freeC x c e)
 .obtain⟨e,n,ne,nf,d⟩:=I.pin p hp
  have Fh:p.1∉ch:=fun z=>(zN p.1 z).2.2.2 p hp rfl;exact⟨keep p.1 p.2 ne nf Fh e n,free p.1 p.2 Fh e n,ne,nf,d⟩
theorem Inv.un(I:Inv X pins σ H s)(u:Un X.fs [] H H' s.heap h')(hok:YR X.prog X.w H' h'):Inv X pins σ H' { s with heap:=h',toks:=t' }:=by
 obtain⟨m,⟨o,es,ep,ho,r⟩,_⟩:=id I.loc;obtain⟨sl,hL⟩:=u.any ho I.free (by simp)
 exact I.step   (ch:=[]) (fun _ z=>nomatch z) (fun b o _ hb _ e n=>u.keep b o e n hb (by simp)) (fun b o _ hb _ e n=>u.slot b o e n hb (by simp)) (fun b o _ e n=>u.free b o e n (by simp)) (fun b o _ e=>u.there b o e (by simp)) u.tups u.frzs u.tbls (fun m' hm=>by
  obtain⟨o',tS,xo,Jr,r'⟩:=hm;rw[ho] at Jr;cases Jr
  exact⟨_,tS,xo,hL,r'⟩) hok I.bare
theorem Inv.call(I:Inv X pins σ H s)(u:Un (frs X.stack) ch H H' s.heap h')(hok:YR X.prog X.w H' h')(hg:Sb g')
  (zN:∀b∈ch,(b∈X.ex\/X.s₀.heap.objs.size<=b)/\b≠X.env.locals/\(∀x c,X.env.cells.lookup x=some c->c≠b)/\∀p∈X.pn++pins,p.1≠b) :
  Inv X pins σ H' { s with heap:=h',gens:=g',drawn:=d',toks:=t' }:=by
 obtain⟨m,⟨o,es,ep,ho,r⟩,_⟩:=id I.loc;obtain⟨sl,hL⟩:=u.any ho I.free fun z=>(zN _ z).2.1 rfl
 exact I.step  zN (fun b o hL hb hc e n=>u.keep b o e n (fun z=>(N4.mp (I.stkSub b z)).elim hL hb) hc) (fun b o _ _ hc e n=>u.any e n hc) (fun b o hc e n=>u.free b o e n hc) (fun b o hc e=>u.there b o e hc) u.tups u.frzs u.tbls (fun m' hm=>by
  obtain⟨o',tS,xo,Jr,r'⟩:=hm;rw[ho] at Jr;cases Jr
  exact⟨_,tS,xo,hL,r'⟩) hok hg
theorem Inv.turned(I:Inv X pins σ H s)(k:∀b o,b≠it->s.heap.get? b=some o->h'.get? b=some o)(hn:H it=none)(hL:it≠X.env.locals)
  (h1:it∈X.ex\/X.s₀.heap.objs.size<=it) (h2:∀x c,X.env.cells.lookup x=some c->c≠it) (h3:∀p∈X.pn++pins,p.1≠it):Inv X pins σ H { s with heap:=h',toks:=t' }:=by
 have Ii:∀b u,H b=some u->b≠it:=fun b u e z=>by grind
 refine I.step   (ch:=[it]) (fun b hb=>?_) (fun b o _ _ hc e _=>k b o (fun z=>hc (by simp[z])) e) (fun b o _ _ hc e _=>⟨o.slots,k b o (fun z=>hc (by simp[z])) e⟩) (fun _ _ _ _ n=>n)
  (fun b o hc e=>⟨o,k b o (fun z=>hc (by simp[z])) e⟩) (fun _ _ e=>e) (fun _ _ _ e=>e) (fun b ps e=>⟨#[],by simp_all⟩) (fun m hm=>?_) (fun b u e=>?_) I.bare
 .have e:=by simpa using hb
  subst e;exact⟨h1,hL,h2,h3⟩
 .obtain⟨o,es,ep,ho,r⟩:=hm
  exact⟨o,es,ep,k _ o (PV hL) ho,r⟩
 .refine(I.hok b u e).stay (fun c v hc q=>k c v ?_ q) (fun _ q=>q) fun _ _ q=>q
  rcases hc with z|z
  .rw[z];exact Ii b u e
  .exact Ii c _ z
theorem Inv.tok(I:Inv X pins σ H s)(t:Nat):Inv X pins σ H { s with toks:=t }:=I.un   Un.refl I.hok
theorem Inv.kept(I:Inv X pins σ H s)(k:∀b u,s.heap.get? b=some u->h'.get? b=some u):Inv X pins σ H { s with heap:=h',toks:=t' }:=I.un (Un.kept k) (I.hok.kept k)
theorem Inv.laid(I:Inv X pins σ H s)(k:∀b u,s.heap.get? b=some u->h'.get? b=some u)(hp:s.heap.objs.size<=a)(new:X7 X.prog X.w (upd H a o) h' a o) :
  Inv X pins σ (upd H a o) { s with heap:=h',toks:=t' }:=I.un (Un.laid k hp (I.hok.fresh hp)) (I.hok.laid k hp new)
theorem Inv.write(I:Inv X pins σ H s)(mu:Da (H x))(he:e=x\/H e=some (.own x))(k:∀b u,b≠e->s.heap.get? b=some u->h'.get? b=some u)(CJ:∃u,h'.get? e=some u)
  (new:X7 X.prog X.w (upd H x o) h' x o):Inv X pins σ (upd H x o) { s with heap:=h',toks:=t' }:=I.un (Un.write mu he k CJ) (I.hok.write mu he k CJ new)
theorem Inv.pins_of(I:Inv X pins σ H s)(h:∀p∈Zr,s.heap.get? p.1=some p.2/\H p.1=none/\p.1≠X.env.locals/\p.1∉X.fs/\∀v,p.2.data≠.cell v):Inv X Zr σ H s:=⟨I.ok,I.os,I.bare,I.base,I.loc,I.cell,I.free,I.freeC,fun p hp=>(Oz.mp hp).elim (fun z=>I.pin p (OR _ z)) (h p),I.hok,I.len⟩
theorem qb{N:List Str}(hN:N.Nodup){i j:Nat}{x:Str}(a:N[i]? = some x)(b:N[j]? = some x):i=j:=by
 obtain⟨h1,e1⟩:=NS.mp a;obtain⟨h2,e2⟩:=NS.mp b;exact(List.getElem_inj hN).mp (e1.trans e2.symm)
theorem zsn(I:Inv X pins σ H s)(hN:X.N.Nodup)(hi:X.N[i]? = some x)(hx:Loc X.env.scope x)(r:RelV v u)
  (h:∀s',Inv X pins (σ.set i (some v)) H s'->(∃a,Qy a s.heap s'.heap/\(a=X.env.locals\/X.env.cells.lookup x=some a))->Q () s') (hf:X.fn x=true\/X.env.scope.names.lookup x=some .local:=by first|exact .inl rfl|exact .inr rfl|assumption):Oy M A (storeName X.env x u) Q E s:=by
 obtain⟨m,hn,hl⟩:=id I.loc
 have ur:(X.env.scope.kind == .class||(X.env.scope.kind == .module&&X.env.locals != X.env.globals))=false:=by rw[I.ok.kind];rfl
 have Hn:i<σ.length:=by rw[I.len];exact(NS.mp hi).1
 have cne:=I.cne
 have tracked:∀{a:Addr}{h':Heap},(∃o,s.heap.get? a=some o/\H a=none)->Qy a s.heap h'->YR X.prog X.w H h':=fun {a h'} ha hs b ob e=>by
  obtain⟨_,_,IH⟩:=ha;refine(I.hok b ob e).stay (fun c w' hc q=>(hs.2 c ?_).trans q) (fun _ q=>q) fun _ _ q=>q;rintro rfl
  rcases hc with rfl|hc
  .rw[IH] at e;cases e
  .rw[IH] at hc;cases hc
 rcases hx with hk|hk
 .refine TL hk hn (fun h' GN hs=>?_) ur
  obtain⟨oL,_,_,hoL,_⟩:=id hn;refine h _ ⟨I.ok,I.os,I.bare,⟨fun b o e n hb hx=>?_,fun b o e n hb hx=>?_,I.base.free,fun b o e hx=>?_,I.base.tups,I.base.frzs,I.base.tbls⟩,⟨_,GN,fun j y v' e1 e2 e3=>?_⟩,fun y c e=>?_,I.free,I.freeC,fun p hp=>?_,tracked ⟨oL,hoL,I.free⟩ hs,by simpa using I.len⟩ ⟨_,hs,.inl rfl⟩
  .exact(hs.2 b (Ot (N6 (N5 e) I.ok.above))).trans (I.base.keep b o e n hb hx)
  .obtain⟨sl,e1⟩:=I.base.slot b o e n hb hx
   exact⟨sl,(hs.2 b (Ot (N6 (N5 e) I.ok.above))).trans e1⟩
  .obtain⟨o',e1⟩:=I.base.there b o e hx
   exact⟨o',(hs.2 b (Ot (N6 (N5 e) I.ok.above))).trans e1⟩
  .by_cases hj:j=i
   .subst hj
    rw[hi] at e1;cases e1;rw[Oh Hn] at e2;cases e2;exact⟨u,r,.inl ⟨hk,by simp⟩⟩
   .rw[Oa (PV hj)] at e2
    obtain⟨u',r',q⟩:=hl j y v' e1 e2 e3;refine⟨u',r',?_⟩
    rcases q with⟨k,e⟩|⟨k,c,e,z⟩
    .refine .inl ⟨k,?_⟩
     have:y≠x:=fun e=>hj (qb hN e1 (e ▸ hi));simp[this,e]
    .exact .inr ⟨k,c,e,z.sameBut hs (cne y c e)⟩
  .obtain⟨w',z⟩:=I.cell y c e
   exact⟨w',z.sameBut hs (cne y c e)⟩
  .obtain⟨e,n,ne,nf,d⟩:=I.pin p hp
   exact⟨(hs.2 p.1 ne).trans e,n,ne,nf,d⟩
 .have E4:X.fn x=true:=by
   rcases hf with z|z
   .exact z
   .rw[z] at hk;cases hk
  obtain⟨c,hc⟩:=I.ok.has x (.inl hk);obtain⟨w',z⟩:=I.cell x c hc;refine wpAny_storeName_cell I.ok.kind hk hc z (fun h' GZ hs=>?_);obtain⟨oc,hoc,sP⟩:=id z;refine h { s with heap:=h' } ⟨I.ok,I.os,I.bare,⟨fun b o e n hb hx=>?_,fun b o e n hb hx=>?_,I.base.free,fun b o e hx=>?_,I.base.tups,I.base.frzs,I.base.tbls⟩,⟨m,hn.sameBut hs (PV (cne x c hc)),fun j y v' e1 e2 e3=>?_⟩,fun y c' e=>?_,I.free,I.freeC,fun p hp=>?_,tracked ⟨oc,hoc,I.freeC x c hc⟩ hs,by simpa using I.len⟩ ⟨c,hs,.inr hc⟩
  .exact(hs.2 b (Ot (N6 (N5 e) (I.ok.cab x c E4 hc)))).trans (I.base.keep b o e n hb hx)
  .obtain⟨sl,e1⟩:=I.base.slot b o e n hb hx
   exact⟨sl,(hs.2 b (Ot (N6 (N5 e) (I.ok.cab x c E4 hc)))).trans e1⟩
  .obtain⟨o',e1⟩:=I.base.there b o e hx
   exact⟨o',(hs.2 b (Ot (N6 (N5 e) (I.ok.cab x c E4 hc)))).trans e1⟩
  .by_cases hj:j=i
   .subst hj
    rw[hi] at e1;cases e1;rw[Oh Hn] at e2;cases e2;exact⟨u,r,.inr ⟨.inl hk,c,hc,GZ⟩⟩
   .rw[Oa (PV hj)] at e2
    obtain⟨u',r',q⟩:=hl j y v' e1 e2 e3;refine⟨u',r',?_⟩
    rcases q with q|⟨k,c',e,z'⟩
    .exact .inl q
    .refine .inr ⟨k,c',e,z'.sameBut hs ?_⟩
     rintro rfl;exact hj (qb hN e1 (I.ok.inj _ _ _ e hc ▸ hi))
  .by_cases hcc:c'=c
   .subst hcc;exact⟨_,GZ⟩
   .obtain⟨w2,z2⟩:=I.cell y c' e
    exact⟨w2,z2.sameBut hs hcc⟩
  .obtain⟨e,n,ne,nf,d⟩:=I.pin p hp
   refine⟨(hs.2 p.1 ?_).trans e,n,ne,nf,d⟩;intro q;rw[q,hoc] at e;have q':oc=p.2:=Qc e;exact d w' (by rw[←q'];exact sP)
theorem kz(I:Inv X pins σ H s)(hN:X.N.Nodup)(hi:X.N[i]? = some x)(hx:Loc X.env.scope x)(r:RelV v u)
  (h:∀s',Inv X pins (σ.set i (some v)) H s'->Q () s') (hf:X.fn x=true\/X.env.scope.names.lookup x=some .local:=by first|exact .inl rfl|exact .inr rfl|assumption):Oy M A (storeName X.env x u) Q E s:=zsn I hN hi hx r (fun s' I' _=>h s' I') hf
theorem Inv.call'(I:Inv X pins σ H s)(ho:s'.os=s.os)(u:Un (frs X.stack) ch H H' s.heap s'.heap)(hok:YR X.prog X.w H' s'.heap)(hg:Sb s'.gens)
  (zN:∀b∈ch,(b∈X.ex\/X.s₀.heap.objs.size<=b)/\b≠X.env.locals/\(∀x c,X.env.cells.lookup x=some c->c≠b)/\∀p∈X.pn++pins,p.1≠b):Inv X pins σ H' s':=by
 obtain⟨h',g',d',t',o'⟩:=s';have e:=ho;subst e;exact I.call    u hok hg zN
end
abbrev XK:=NO->Option Addr->Hp->Prop
abbrev St:=List (Option V)
abbrev VK:=V->Hp->Prop
abbrev TE:=St->Hp->VK->Prop
abbrev TT:=St->Hp->(Bool->Hp->Prop)->Prop
abbrev TA:=St->Hp->(List V->Hp->Prop)->Prop
structure Ends where
 nx:St->Hp->Prop
 rt:VK
 bk:St->Hp->Prop:=fun _ _=>False
 ct:St->Hp->Prop:=fun _ _=>False
abbrev TS:=Ends->St->Hp->Prop
def EP(X:Cx)(pins:List (Addr×Obj))(σ:St)(Q:VK)(u:NO)(s':NP):Prop:=∃v H',Inv X pins σ H' s'/\RelV v u/\Q v H'
def TP(X:Cx)(pins:List (Addr×Obj))(σ:St)(Q:Bool->Hp->Prop)(b:Bool)(s':NP):Prop:=∃H',Inv X pins σ H' s'/\Q b H'
def AP(X:Cx)(pins:List (Addr×Obj))(σ:St)(Q:List V->Hp->Prop)(us:List NO)(s':NP):Prop:=∃vs H',Inv X pins σ H' s'/\XC vs us/\Q vs H'
def SP(X:Cx)(pins:List (Addr×Obj))(D:Ends)(f:Flow)(s':NP):Prop:=
 match f with
 |.next=>∃σ' H',Inv X pins σ' H' s'/\D.nx σ' H'
 |.brk=>∃σ' H',Inv X pins σ' H' s'/\D.bk σ' H'
 |.cont=>∃σ' H',Inv X pins σ' H' s'/\D.ct σ' H'
 |.ret u=>∃v σ' H',Inv X pins σ' H' s'/\RelV v u/\D.rt v H'
def PE(X:Cx)(e:Expr)(t:TE):Prop:=∀(pins:List (Addr×Obj)) (s:NP) (σ:St) (H:Hp) (Q:VK),Inv X pins σ H s->t σ H Q->Oy (Os X.prog X.w) X.A (eval e X.env) (EP X pins σ Q) X.xe s
def PT(X:Cx)(e:Expr)(t:TT):Prop:=∀(pins:List (Addr×Obj)) (s:NP) (σ:St) (H:Hp) (Q:Bool->Hp->Prop),Inv X pins σ H s->t σ H Q->Oy (Os X.prog X.w) X.A (V7 e X.env (eval e X.env)) (TP X pins σ Q) X.xe s
def PW(X:Cx)(e:Expr)(t:TT):Prop:=∀(whole:Sem NO) (pins:List (Addr×Obj)) (s:NP) (σ:St) (H:Hp) (Q:Bool->Hp->Prop),Inv X pins σ H s->t σ H Q->Oy (Os X.prog X.w) X.A (V7 e X.env whole) (TP X pins σ Q) X.xe s
theorem PW.pt(h:PW X e t):PT X e t:=h _
def PA(X:Cx)(es:List Expr)(t:TA):Prop:=∀(pos:Pos) (pins:List (Addr×Obj)) (s:NP) (σ:St) (H:Hp) (Q:List V->Hp->Prop),Inv X pins σ H s->t σ H Q->Oy (Os X.prog X.w) X.A (spliced (OO pos (NR es X.env))) (AP X pins σ Q) X.xe s
def PS(X:Cx)(st:Stmt)(t:TS):Prop:=∀(pins:List (Addr×Obj)) (s:NP) (σ:St) (H:Hp) (D:Ends),Inv X pins σ H s->t D σ H->Oy (Os X.prog X.w) X.A (exec st X.env) (SP X pins D) X.xe s
def ZZ(X:Cx)(st:List Stmt)(t:TS):Prop:=∀(pins:List (Addr×Obj)) (s:NP) (σ:St) (H:Hp) (D:Ends),Inv X pins σ H s->t D σ H->Oy (Os X.prog X.w) X.A (execs st X.env) (SP X pins D) X.xe s
theorem Ya{α:Type}{t:Sem α}{Q Q':α->NP->Prop}{M:U1}{A:OF}{E:NO->NP->Prop}{s:NP}(h:Oy M A t Q E s)(hQ:∀a s,Q a s->Q' a s):Oy M A t Q' E s:=O5 h hQ fun _ _ x=>x
section
variable {X:Cx}
def fV(i:Nat):TE:=fun σ H Q=>∃v,σ[i]? = some (some v)/\Q v H
def tC(v:V):TE:=fun _ H Q=>Q v H
theorem zaj(hN:X.N[i]? = some x)(hv:Dt X.env.scope x)(hd:(x == ("__debug__" : Str))=false:=by decide)(hcd:(x == ("__classdict__" : Str))=false:=by decide):PE X (.Name x pos) (fV i):=by
 intro pins s σ H Q I h;obtain⟨v,e,h⟩:=h;obtain⟨m,hn,hl⟩:=I.loc;obtain⟨u,r,l⟩:=hl i x v hN e hv;have fin:EP X pins σ Q u s:=⟨v,H,I,r,h⟩
 rcases l with⟨hk,hm⟩|⟨hk,c,hc,Ce⟩
 .exact V8 (wpAny_loadName_local I.ok.kind hk hn hm fin) hd
 .rcases hk with hk|hk
  .exact V8 (wpAny_loadName_cell I.ok.kind hk hc Ce fin) hd
  .exact V8 (wpAny_loadName_free I.ok.kind hk hc Ce fin hcd) hd
theorem zso{i j pos}:PE X (.Constant (.int i) j pos) (tC (.int i)):=fun _ _ _ H _ I h=>wpAny_Constant_int ⟨.int i,H,I.tok _,⟨_,rfl⟩,h⟩
theorem zak{b j pos}:PE X (.Constant (.bool b) j pos) (tC (.bl b)):=fun _ _ _ H _ I h=>Constant_bool ⟨.bl b,H,I,rfl,h⟩
theorem zal{j pos}:PE X (.Constant .none j pos) (tC .non):=fun _ _ _ H _ I h=>Constant_none ⟨.non,H,I,rfl,h⟩
theorem rb{x j pos}:PE X (.Constant (.str x) j pos) (tC (.str x)):=fun _ _ _ H _ I h=>Sl ⟨.str x,H,I.tok _,⟨_,rfl⟩,h⟩
def Gl(X:Cx)(x:Str):Prop:=X.env.kindOf x=some .globalImplicit
theorem gM(I:Inv X pins σ H s)(hg:Gl X x)(hm:X.mg x=some u)(h:Q u s)
  (hd:(x == ("__debug__" : Str))=false:=by decide):Oy (Os X.prog X.w) X.A (eval (.Name x pos) X.env) Q E s:=Sn I.ok.kind hg (Calls.loadGlobal_global (by rw[I.ok.glob];exact I.mod.glob.keeps I.bk) hm h) hd
theorem li(I:Inv X pins σ H s)(hg:Gl X x)(hm:X.mg x=none)(hv:P0 x=some u)(h:Q u s)
  (hn:x≠"__name__":=by decide) (hd:(x == ("__debug__" : Str))=false:=by decide):Oy (Os X.prog X.w) X.A (eval (.Name x pos) X.env) Q E s:=by
 obtain⟨mb,h1,h2⟩:=I.mod.blt;exact Sn I.ok.kind hg (Calls.loadGlobal_builtin (by rw[I.ok.glob];exact I.mod.glob.keeps I.bk) hm (by rw[I.ok.blt];exact h1.keeps I.bk) ((h2 x hn).trans hv) h) hd
theorem eE(hg:Gl X x)(hm:X.mg x=some u)(r:RelV v u)(hd:(x == ("__debug__" : Str))=false:=by decide):PE X (.Name x pos) (tC v):=fun _ _ _ H _ I h=>gM I hg hm ⟨v,H,I,r,h⟩ hd
theorem mP(hg:Gl X x)(hm:X.mg x=none)(hv:P0 x=some u)(r:RelV v u)(hn:x≠"__name__":=by decide)(hd:(x == ("__debug__" : Str))=false:=by decide):PE X (.Name x pos) (tC v):=fun _ _ _ H _ I h=>li I hg hm hv ⟨v,H,I,r,h⟩ hn hd
variable {a b:Expr}{ta tb:TE}{pos:Pos}
def tB(t:TE):TT:=fun σ H Q=>t σ H fun x H1=>∃c,x=.bl c/\Q c H1
theorem qX(h:PE X e t)(he:∀whole,V7 e X.env whole=(do let v ←whole;Ru e.pos;QL [v] (truthy v)):=by intro _;rfl):PT X e (tB t):=by
 intro pins s σ H Q I hw;refine isTrue_plain (Ya (h pins s σ H _ I hw) fun v s1 ⟨x,H1,I1,r1,q1⟩=>?_) (he _);obtain⟨d,rfl,q⟩:=q1;cases r1;exact PJ ⟨H1,I1,q⟩
variable {tA z8:TT}{rest:List Expr}
def JH(t u:TT):TT:=fun σ H Q=>t σ H fun c H1=>if c=true then u σ H1 Q else Q false H1
def tOr(t u:TT):TT:=fun σ H Q=>t σ H fun c H1=>if c=true then Q true H1 else u σ H1 Q
def JC(t:TT):TT:=fun σ H Q=>t σ H fun c H1=>Q (!c) H1
theorem zam(ha:PT X a tA):PW X (.BoolOp .And [a] pos) tA:=by
 intro wh pins s σ H Q I h;refine isTrue_and (Ya (ha pins s σ H Q I h) fun c s1 e=>?_)
 cases c with
 |true=>exact isTrue_and_nil e
 |false=>exact e
theorem zsp(ha:PT X a tA):PW X (.BoolOp .Or [a] pos) tA:=by
 intro wh pins s σ H Q I h;refine isTrue_or (Ya (ha pins s σ H Q I h) fun c s1 e=>?_)
 cases c with
 |false=>exact isTrue_or_nil e
 |true=>exact e
theorem zan(ha:PT X a tA)(hb:PW X (.BoolOp .And (b::rest) pos) z8):PW X (.BoolOp .And (a::b::rest) pos) (JH tA z8):=by
 intro wh pins s σ H Q I h;refine isTrue_and (Ya (ha pins s σ H _ I h) fun c s1 ⟨H1,I1,q1⟩=>?_)
 cases c with
 |true=>exact hb wh pins s1 σ H1 Q I1 q1
 |false=>exact⟨H1,I1,q1⟩
theorem rH(ha:PT X a tA)(hb:PW X (.BoolOp .Or (b::rest) pos) z8):PW X (.BoolOp .Or (a::b::rest) pos) (tOr tA z8):=by
 intro wh pins s σ H Q I h;refine isTrue_or (Ya (ha pins s σ H _ I h) fun c s1 ⟨H1,I1,q1⟩=>?_)
 cases c with
 |true=>exact⟨H1,I1,q1⟩
 |false=>exact hb wh pins s1 σ H1 Q I1 q1
theorem qY(ha:PT X a tA):PT X (.UnaryOp .Not a pos) (JC tA):=by
 intro pins s σ H Q I h;exact isTrue_not (ha pins s σ H _ I h)
def Ia(ta tb:TE):TE:=fun σ H Q=>ta σ H fun x H1=>∃c,x=.bl c/\if c=true then tb σ H1 Q else Q (.bl false) H1
def JB(ta tb:TE):TE:=fun σ H Q=>ta σ H fun x H1=>∃c,x=.bl c/\if c=true then Q (.bl true) H1 else tb σ H1 Q
def HX(ta:TE):TE:=fun σ H Q=>ta σ H fun x H1=>∃c,x=.bl c/\Q (.bl (!c)) H1
theorem zao{op}(h:PE X a t):PE X (.BoolOp op [a] pos) t:=fun pins s σ H Q I hw=>BoolOp_one (h pins s σ H Q I hw)
theorem zap(ha:PE X a ta)(hb:PE X (.BoolOp .And (b::rest) pos) tb):PE X (.BoolOp .And (a::b::rest) pos) (Ia ta tb):=by
 intro pins s σ H Q I h;refine BoolOp_and (Ya (ha pins s σ H _ I h) fun v s1 ⟨x,H1,I1,r1,q1⟩=>?_);obtain⟨c,rfl,q1⟩:=q1;cases r1;refine PJ ?_
 cases c with
 |true=>exact hb pins s1 σ H1 Q I1 q1
 |false=>exact⟨.bl _,H1,I1,rfl,q1⟩
theorem Hg(ha:PE X a ta)(hb:PE X (.BoolOp .Or (b::rest) pos) tb):PE X (.BoolOp .Or (a::b::rest) pos) (JB ta tb):=by
 intro pins s σ H Q I h;refine BoolOp_or (Ya (ha pins s σ H _ I h) fun v s1 ⟨x,H1,I1,r1,q1⟩=>?_);obtain⟨c,rfl,q1⟩:=q1;cases r1;refine PJ ?_
 cases c with
 |false=>exact hb pins s1 σ H1 Q I1 q1
 |true=>exact⟨.bl true,H1,I1,rfl,q1⟩
theorem zaq(ha:PE X a ta):PE X (.UnaryOp .Not a pos) (HX ta):=by
 intro pins s σ H Q I h;refine UnaryOp_ (Ya (ha pins s σ H _ I h) fun v s1 ⟨x,H1,I1,r1,q1⟩=>?_);obtain⟨c,rfl,q1⟩:=q1;cases r1;exact not_of (PJ ⟨.bl (!c),H1,I1,rfl,q1⟩)
def tIf(t:TT)(ta tb:TE):TE:=fun σ H Q=>t σ H fun c H1=>if c=true then ta σ H1 Q else tb σ H1 Q
theorem zar(hc:PT X c tA)(ha:PE X a ta)(hb:PE X b tb):PE X (.IfExp c a b pos) (tIf tA ta tb):=by
 intro pins s σ H Q I h;refine wpAny_IfExp (Ya (hc pins s σ H _ I h) fun d s1 ⟨H1,I1,q1⟩=>?_)
 cases d with
 |true=>exact ha pins s1 σ H1 Q I1 q1
 |false=>exact hb pins s1 σ H1 Q I1 q1
end
def Y8(K:Frag)(H:Hp)(a:Addr)(xs:List V):Prop:=
 Rd H a (.lst xs) \/
  ∃(o:Obj) (Xx:Array NO) (n:Nat),K.lookup a=some o/\o.cls=.type "list"/\o.dict=none/\o.data=.seq Xx n/\Xx.size<=NX/\XC xs Xx.toList
def Zz(K:Frag)(H:Hp)(a:Addr)(xs:List V):Prop:=
 Rd H a (.tup xs) \/
  ∃(o:Obj) (Xx:Array NO) (n:Nat),K.lookup a=some o/\o.cls=.type "tuple"/\o.data=.seq Xx n/\Xx.size<=NX/\XC xs Xx.toList
def Kn:NO->Option V
 |.none=>some .non
 |.bool b=>some (.bl b)
 |.int i _=>some (.int i)
 |.str x _=>some (.str x)
 |.bytes b _=>some (.byt b)
 |.float b _=>some (.flt b)
 |.ref a=>some (.ref a)
 |.type n=>some (.ty n)
 |_=>none
theorem RelV.abs(r:RelV x u):Kn u=some x:=by
 cases x with
 |non=>cases r;rfl
 |bl _=>cases r;rfl
 |int _=>obtain⟨t,rfl⟩:=r;rfl
 |str _=>obtain⟨t,rfl⟩:=r;rfl
 |byt _=>obtain⟨t,rfl⟩:=r;rfl
 |flt _=>obtain⟨t,rfl⟩:=r;rfl
 |ref _=>cases r;rfl
 |ty _=>cases r;rfl
theorem RelV.inj(r:RelV x u)(q:RelV y u):x=y:=Qc (r.abs.symm.trans q.abs)
theorem XC.inj:∀{xs ys:List V}{us:List NO},XC xs us->XC ys us->xs=ys
 |_,_,_,.nil,.nil=>rfl
 |_,_,_,.cons r t,.cons r' t'=>by rw[r.inj r',XC.inj t t']
section
variable {X:Cx}{pins:List (Addr×Obj)}{σ:St}{H:Hp}{s:NP}{a:Addr}{xs ys:List V}
theorem Y8.of{K:Frag}(h:H a=some (.lst xs)):Y8 K H a xs:=.inl (.inl h)
theorem Zz.of{K:Frag}(h:H a=some (.tup xs)):Zz K H a xs:=.inl (.inl h)
theorem Inv.list(I:Inv X pins σ H s)(h:Y8 X.K H a xs):∃Xx:List NO,XC xs Xx/\PlainL s.heap a Xx.toArray/\xs.length<=sizeLine:=by
 rcases h with h|⟨o,Xx,n,hk,hc,hd,hs,hz,r⟩
 .obtain⟨z,Xx,n,r,e⟩:=h.ok I.hok
  exact⟨Xx,r,⟨_,n,e,rfl,rfl,rfl⟩,z⟩
 .refine⟨Xx.toList,r,⟨o,n,I.kIn a o hk,hc,hd,by omega⟩,?_⟩
  have e:=r.length<;>grind
theorem Inv.tuple(I:Inv X pins σ H s)(h:Zz X.K H a xs):∃Xx:List NO,XC xs Xx/\V5 s.heap a Xx.toArray/\xs.length<=sizeLine:=by
 rcases h with h|⟨o,Xx,n,hk,hc,hs,hz,r⟩
 .obtain⟨z,Xx,r,p⟩:=h.ok I.hok
  exact⟨Xx,r,p,z⟩
 .refine⟨Xx.toList,r,⟨o,I.kIn a o hk,hc,n,by omega⟩,?_⟩
  have e:=r.length<;>simp_all
theorem Inv.list_inj(I:Inv X pins σ H s)(h:Y8 X.K H a xs)(h':Y8 X.K H a ys):xs=ys:=by
 obtain⟨Xx,r,⟨o,n,e,_,_,d⟩,_⟩:=I.list h;obtain⟨Z1,r',⟨o',n',e',_,_,d'⟩,_⟩:=I.list h'
 rw[e] at e';have:Xx=Z1:=by simp_all
 subst this;exact r.inj r'
theorem Inv.tuple_inj(I:Inv X pins σ H s)(h:Zz X.K H a xs)(h':Zz X.K H a ys):xs=ys:=by
 obtain⟨Xx,r,⟨o,e,_,n,d⟩,_⟩:=I.tuple h;obtain⟨Z1,r',⟨o',e',_,n',d'⟩,_⟩:=I.tuple h'
 rw[e] at e';have:Xx=Z1:=by simp_all
 subst this;exact r.inj r'
end
abbrev Cx.wish(X:Cx)(E:NO->NP->Prop):Cx:={ X with xe:=E }
abbrev Cx.nox(X:Cx):Cx:=X.wish fun _ _=>False
theorem Cx.Ok.wish{X:Cx}(ok:X.Ok)(E:NO->NP->Prop):(X.wish E).Ok:=⟨ok.mod,ok.kind,ok.glob,ok.blt,ok.above,ok.inj,ok.has,ok.cab,ok.hd,ok.frames,ok.stk,ok.exf,ok.bs,ok.bsz,ok.noex,ok.exfs,ok.funs,ok.frf⟩
theorem Cx.Ok.unwish{X:Cx}{E:NO->NP->Prop}(ok:(X.wish E).Ok):X.Ok:=⟨ok.mod,ok.kind,ok.glob,ok.blt,ok.above,ok.inj,ok.has,ok.cab,ok.hd,ok.frames,ok.stk,ok.exf,ok.bs,ok.bsz,ok.noex,ok.exfs,ok.funs,ok.frf⟩
section
variable {X:Cx}{pins:List (Addr×Obj)}{σ:St}{H:Hp}{s:NP}{E:NO->NP->Prop}{st:Stmt}{rest:List Stmt}{t u:TS}{e:Expr}{te:TE}{pos:Pos}
theorem Inv.wish(I:Inv X pins σ H s)(E:NO->NP->Prop):Inv (X.wish E) pins σ H s:=⟨I.ok.wish E,I.os,I.bare,I.base,I.loc,I.cell,I.free,I.freeC,I.pin,I.hok,I.len⟩
theorem Inv.unwish(I:Inv (X.wish E) pins σ H s):Inv X pins σ H s:=⟨I.ok.unwish,I.os,I.bare,I.base,I.loc,I.cell,I.free,I.freeC,I.pin,I.hok,I.len⟩
theorem SP.unwish(h:SP (X.wish E) pins D f s'):SP X pins D f s':=by
 cases f with
 |next=>obtain⟨σ',H',I,q⟩:=h;exact⟨σ',H',I.unwish,q⟩
 |brk=>obtain⟨σ',H',I,q⟩:=h;exact⟨σ',H',I.unwish,q⟩
 |cont=>obtain⟨σ',H',I,q⟩:=h;exact⟨σ',H',I.unwish,q⟩
 |ret u=>obtain⟨v,σ',H',I,r,q⟩:=h;exact⟨v,σ',H',I.unwish,r,q⟩
theorem ZZ.nox{st:List Stmt}{t:TS}(h:ZZ X.nox st t):ZZ X st t:=fun pins s σ H D I hw=>
 O5 (h pins s σ H D (I.wish _) hw) (fun _ _ q=>q.unwish) fun _ _ z=>ON z
def HY:TS:=fun D σ H=>D.nx σ H
def zd(t u:TS):TS:=fun D σ H=>t { D with nx:=u D } σ H
theorem qu:ZZ X [] HY:=fun _ _ σ H _ I h=>Rj ⟨σ,H,I,h⟩
theorem dF(h1:PS X st t)(h2:ZZ X rest u):ZZ X (st::rest) (zd t u):=by
 intro pins s σ H D I h;refine RL (Ya (h1 pins s σ H { D with nx:=u D } I h) fun f s1 q=>?_)
 cases f with
 |next=>
  obtain⟨σ',H',I',q⟩:=q;exact h2 pins s1 σ' H' D I' q
 |ret v=>exact q
 |brk=>exact q
 |cont=>exact q
theorem kO(h1:PS X st t):ZZ X [st] t:=by
 intro pins s σ H D I h;refine RL (Ya (h1 pins s σ H D I h) fun f s1 q=>?_)
 cases f with
 |next=>exact Rj q
 |ret v=>exact q
 |brk=>exact q
 |cont=>exact q
theorem Inv.quiet(I:Inv X pins σ H s):interactive X.env=false:=by simp[interactive,I.ok.kind]
def yk(te:TE):TS:=fun D σ H=>te σ H fun _ H1=>D.nx σ H1
theorem kP(he:PE X e te)(hs:Pi e none pos.line X.env=pure false:=by rfl):PS X (.Expr e pos) (yk te):=by
 intro pins s σ H D I h;exact wpAny_Expr_any (Ya (he pins s σ H _ I h) fun v s1 ⟨x,H1,I1,r1,q1⟩=>⟨σ,H1,I1,q1⟩) I.quiet hs
def JA(te:TE):TS:=fun D σ H=>te σ H D.rt
theorem nF(he:PE X e te):PS X (.Return (some e) pos) (JA te):=by
 intro pins s σ H D I h;exact SC (Ya (he pins s σ H _ I h) fun v s1 ⟨x,H1,I1,r1,q1⟩=>⟨x,σ,H1,I1,r1,q1⟩)
def JE(c:TT)(t u:TS):TS:=fun D σ H=>c σ H fun b H1=>if b=true then t D σ H1 else u D σ H1
theorem rJ(hc:PT X c tc)(ha:ZZ X a t)(hb:ZZ X b u):PS X (.If c a b pos) (JE tc t u):=by
 intro pins s σ H D I h;refine wpAny_If (Ya (hc pins s σ H _ I h) fun d s1 ⟨H1,I1,q1⟩=>?_)
 cases d with
 |true=>exact ha pins s1 σ H1 D I1 q1
 |false=>exact hb pins s1 σ H1 D I1 q1
end
abbrev TG:=V->St->Hp->(St->Hp->Prop)->Prop
abbrev CN:=List V->St->Hp->(St->Hp->Prop)->Prop
def PG(X:Cx)(target:Expr)(t:TG):Prop:=
 ∀(pins:List (Addr×Obj)) (s:NP) (σ:St) (H:Hp) (v:V) (u:NO) (Q:St->Hp->Prop),Inv X pins σ H s->RelV v u->t v σ H Q ->
  Oy (Os X.prog X.w) X.A (Ta target X.env u) (fun _ s'=>∃σ' H',Inv X pins σ' H' s'/\Q σ' H') X.xe s
def Ba(X:Cx)(ts:List Expr)(t:CN):Prop:=
 ∀(pins:List (Addr×Obj)) (s:NP) (σ:St) (H:Hp) (vs:List V) (us:List NO) (Q:St->Hp->Prop),Inv X pins σ H s->XC vs us->t vs σ H Q ->
  Oy (Os X.prog X.w) X.A (assignInOrder ((RM ts X.env).map (·.2)) us) (fun _ s'=>∃σ' H',Inv X pins σ' H' s'/\Q σ' H') X.xe s
abbrev sA:=V->V->V->Hp->(Hp->Prop)->Prop
def zK(X:Cx)(t:sA):Prop:=
 ∀(pins:List (Addr×Obj)) (s:NP) (σ:St) (H:Hp) (o i v:V) (ov iv u:NO) (Q:Hp->Prop),Inv X pins σ H s->RelV o ov->RelV i iv->RelV v u->t o i v H Q ->
  Oy (Os X.prog X.w) X.A (WY ov iv u) (fun _ s'=>∃H',Inv X pins σ H' s'/\Q H') X.xe s
section
variable {X:Cx}{pos:Pos}
def yN(i:Nat):TG:=fun v σ H Q=>Q (σ.set i (some v)) H
theorem kQ(hN:X.N.Nodup)(hi:X.N[i]? = some x)(hx:Loc X.env.scope x)(hf:X.fn x=true\/X.env.scope.names.lookup x=some .local:=by first|exact .inl rfl|exact .inr rfl|assumption):PG X (.Name x pos) (yN i):=by
 intro pins s σ H v u Q I r h;exact Rv (kz I hN hi hx r (fun s' I'=>⟨_,H,I',h⟩) hf)
def J1:CN:=fun vs σ H Q=>vs=[]/\Q σ H
def IW(t:TG)(u:CN):CN:=fun vs σ H Q=>∃v r,vs=v::r/\t v σ H fun σ' H'=>u r σ' H' Q
theorem zsq:Ba X [] J1:=by
 intro pins s σ H vs us Q I r h;obtain⟨e,h⟩:=h;exact assignInOrder_nil ⟨σ,H,I,h⟩
theorem mv(h1:PG X e t)(h2:Ba X es u)
  (hs:(RM (e::es) X.env).map (·.2)=Ta e X.env::(RM es X.env).map (·.2):=by rfl):Ba X (e::es) (IW t u):=by
 intro pins s σ H vs us Q I r h;obtain⟨v,vr,e1,h⟩:=h;subst e1
 cases r with
 |cons r rr=>
  rw[hs];refine assignInOrder_cons (Ya (h1 pins s σ H _ _ _ I r h) fun _ s1 ⟨E8,H1,I1,q1⟩=>?_);exact h2 pins s1 E8 H1 _ _ Q I1 rr q1
def JZ(K:Frag)(n:Nat)(t:CN):TG:=fun v σ H Q=>∃a xs,v=.ref a/\Zz K H a xs/\xs.length=n/\t xs σ H Q
theorem zsr(hc:X.calm=true)(h:Ba X es t)
  (hn:(RM es X.env).length=n:=by rfl) (GD:(RM es X.env).findIdx? (·.1)=none:=by rfl):PG X (.Tuple es k pos) (JZ X.K n t):=by
 intro pins s σ H v u Q I r hw;obtain⟨a,xs,e1,hq,hl,hw⟩:=hw;subst e1;cases r;obtain⟨Xx,rv,ht,hz⟩:=I.tuple hq;refine assign_Tuple_tuple (I.ok.hd hc) ht (by simp[hn,←hl,rv.length]) GD fun h' hx=>?_;have I1:=I.kept (t':=s.toks) fun b o e=>hx b o (Ot (N5 e)) e;exact h pins _ σ H xs _ Q I1 (by omega) hw
def J0(to ti:TE)(t:sA):TG:=fun v σ H Q=>to σ H fun o H1=>ti σ H1 fun i H2=>t o i v H2 fun H3=>Q σ H3
theorem zas(ho:PE X o to)(hi:PE X i ti)(hs:zK X t)
  (ha:∀v,Ta (.Subscript o i pos) X.env v=(do
   let ov ←QL [v] (eval o X.env)
   let iv ←QL [v,ov] (eval i X.env)
   Ru pos
   QL [v,ov,iv] (WY ov iv v)
   release [v,ov,iv] []):=by intro _;rfl):PG X (.Subscript o i pos) (J0 to ti t):=by
 intro pins s σ H v u Q I r h;rw[ha];refine NT (QC (Ya (ho pins s σ H _ I h) fun ov s1 ⟨x,H1,I1,r1,q1⟩=>?_));refine NT (QC (Ya (hi pins s1 σ H1 _ I1 q1) fun iv s2 ⟨y,H2,I2,r2,q2⟩=>?_));refine NT (SJ (NT (QC (Ya (hs pins s2 σ H2 x y v ov iv u _ I2 r1 r2 r q2) fun _ s3 ⟨H3,I3,q3⟩=>?_))));exact wpAny_release ⟨σ,H3,I3,q3⟩
def zh(te:TE)(g:TG):TS:=fun D σ H=>te σ H fun x H1=>g x σ H1 D.nx
theorem zat(he:PE X e te)(hg:PG X tg g)(hs:swapsWithSole [tg] e pos.line X.env=pure false:=by rfl)(hw:swappedStores [tg] e X.env=pure none:=by rfl)
  (h1:(RM [tg] X.env).map (·.2)=[Ta tg X.env]:=by rfl):PS X (.Assign [tg] e pos) (zh te g):=by
 intro pins s σ H D I h;refine wpAny_Assign_stores (Ya (he pins s σ H _ I h) fun v s1 ⟨x,H1,I1,r1,q1⟩=>?_) hs hw;rw[h1];exact Ya (hg pins s1 σ H1 x v _ I1 r1 q1) fun _ s2 q=>q
theorem gR(hN:X.N.Nodup)(hi:X.N[i]? = some x)(hx:Loc X.env.scope x)(he:PE X e te)(hs:Pi e (some (.Name x pos')) pos.line X.env=pure false:=by rfl)(hf:X.fn x=true\/X.env.scope.names.lookup x=some .local:=by first|exact .inl rfl|exact .inr rfl|assumption) :
  PS X (.Assign [.Name x pos'] e pos) (zh te (yN i)):=by
 intro pins s σ H D I h;refine wpAny_Assign_Name (Ya (he pins s σ H _ I h) fun v s1 ⟨y,H1,I1,r1,q1⟩=>?_) hs;exact kz I1 hN hi hx r1 (fun s2 I2=>⟨_,H1,I2,q1⟩) hf
def Gb(c:TT)(tb:TS):TS:=fun D σ H=>∃W:Nat->St->Hp->Prop,(∃m,W m σ H)/\∀m σ H,W m σ H ->
 c σ H fun b H1=>if b=true then ∃N:St->Hp->Prop,(∀σ' H',N σ' H'->∃m',m' < m/\W m' σ' H')/\tb { D with nx:=N,ct:=N,bk:=D.nx } σ H1 else D.nx σ H1
theorem zau(hp:SR (Os X.prog X.w) X.A X.env X.xe)(hc:PT X c tc)(hb:ZZ X body tb):PS X (.While c body [] pos) (Gb tc tb):=by
 intro pins s σ H D I h;obtain⟨W,⟨m0,w0⟩,turn⟩:=h;refine wpAny_While (codeAny_whileLoop (fun n s'=>∃σ' H',Inv X pins σ' H' s'/\W n σ' H') ?_ m0 ⟨σ,H,I,w0⟩);rintro n s1 ⟨E8,H1,I1,w1⟩;refine Qu hp (Ya (hc pins s1 E8 H1 _ I1 (turn n E8 H1 w1)) fun b s2 ⟨H2,I2,q2⟩=>?_)
 cases b with
 |true=>
  obtain⟨N,hN,q2⟩:=q2;refine Qu hp (Ya (hb pins s2 E8 H2 _ I2 q2) fun f s3 q3=>?_)
  cases f with
  |next=>
   obtain⟨YW,H3,I3,n3⟩:=q3;obtain⟨m',hm,w3⟩:=hN YW H3 n3;exact⟨m',hm,YW,H3,I3,w3⟩
  |cont=>
   obtain⟨YW,H3,I3,n3⟩:=q3;obtain⟨m',hm,w3⟩:=hN YW H3 n3;exact⟨m',hm,YW,H3,I3,w3⟩
  |brk=>exact q3
  |ret v=>exact q3
 |false=>
  exact Rj ⟨E8,H2,I2,q2⟩
end
structure It where
 go:Nat->Hp->Prop
 yld:Nat->Hp->V->Hp->Prop
 stop:Nat->Hp->Prop
def cV(X:Cx)(pins:List (Addr×Obj))(H:Hp)(b:Addr):Prop:=H b=none/\b≠X.env.locals/\b∉X.fs/\(b∈X.ex\/X.s₀.heap.objs.size<=b)/\(∀x c,X.env.cells.lookup x=some c->c≠b)/\∀p∈X.pn++pins,p.1≠b
theorem Inv.fpOk(I:Inv X pins σ H s)(hb:s.heap.objs.size<=b)(hn:H' b=none):cV X pins H' b:=by
 refine⟨hn,Qe (N6 I.lt hb),I.nofs hb,.inr (Oc I.sz hb),fun x c e z=>?_,fun p hp z=>?_⟩
 .obtain⟨v,q⟩:=I.cell x c e
  exact absurd (N6 q.lt (by simp_all)) (OK _)
 .exact absurd (N6 (N5 (I.pin p hp).1) (by simp_all)) (OK _)
structure Turn(P:NU)(w:N8)(K:Frag)(tg:Expr)(J:It)(fp:List Addr)(it:Addr)(tn:Nat->Heap->Prop):Prop where
 mem:it∈fp
 obj:∀i h,tn i h->∀b∈fp,∃o,h.get? b=some o/\∀v,o.data≠.cell v
 keep:∀i h h',tn i h->(∀b∈fp,∀o,h.get? b=some o->h'.get? b=some o)->tn i h'
 item:∀(X:Cx),X.prog=P->X.w=w->X.K=K->X.calm=true->∀(i:Nat) (pins:List (Addr×Obj)) (s:NP) (σ:St) (H:Hp) (E:NO->NP->Prop),Inv X pins σ H s->(∀b∈fp,cV X pins H b)->tn i s.heap->J.go i H ->
  Oy (Os P w) X.A (pyNext (.ref it)) (fun r s1=>∃u,r=some u /\
   Oy (Os P w) X.A (Tu tg (.ref it) u) (fun _ s2=>∃x H',Inv X pins σ H' s2/\RelV x u/\J.yld i H x H'/\tn (i+1) s2.heap/\∀b∈fp,H' b=none) E s1) E s
 done:∀(X:Cx),X.prog=P->X.w=w->X.K=K->X.calm=true->∀(i:Nat) (pins:List (Addr×Obj)) (s:NP) (σ:St) (H:Hp) (E:NO->NP->Prop),Inv X pins σ H s->(∀b∈fp,cV X pins H b)->tn i s.heap->J.stop i H ->
  Oy (Os P w) X.A (pyNext (.ref it)) (fun r s1=>r=none/\Inv X pins σ H s1) E s
 self:∀(A:OF) (i:Nat) (s:NP) (Q:NO->NP->Prop) (E:NO->NP->Prop),tn i s.heap->Q (.ref it) s->Oy (Os P w) A (pyIter (.ref it)) Q E s
abbrev TI:=St->Hp->(It->Hp->Prop)->Prop
def PIE(X:Cx)(pins:List (Addr×Obj))(σ:St)(tg:Expr)(R:It->Hp->Prop)(Gu:NO)(s2:NP):Prop:=∃(it:Addr) (fp:List Addr) (tn:Nat->Heap->Prop) (J:It) (H':Hp),Gu=.ref it/\Inv X pins σ H' s2/\Turn X.prog X.w X.K tg J fp it tn/\tn 0 s2.heap/\(∀b∈fp,cV X pins H' b)/\R J H'
def PI(X:Cx)(tg iter:Expr)(wi:TI):Prop:=
 ∀(pins:List (Addr×Obj)) (s:NP) (σ:St) (H:Hp) (R:It->Hp->Prop),Inv X pins σ H s->wi σ H R ->
  Oy (Os X.prog X.w) X.A (eval iter X.env) (fun v s1=>Oy (Os X.prog X.w) X.A (pyIter v) (PIE X pins σ tg R) X.xe s1) X.xe s
theorem lO{M:U1}{A:OF}{E:NO->NP->Prop}{s:NP}{tg:Expr}{it:Addr}{u:NO}{o:Obj}{n:String}{vs:Array NO}{Q:Unit->NP->Prop}(ho:s.heap.get? it=some o)(hc:o.cls=.type n)(hd:o.data=.fields vs)
  (hn:["enumerate","zip","dict_itemiterator","dict_reverseitemiterator","odict_iterator","itertools.zip_longest","itertools.pairwise"].contains n=false) (hQ:Q () s):Oy M A (Tu tg (.ref it) u) Q E s:=by
 cases tg <;> first
  |exact Ou hQ
  | (cases u <;> first
    |exact Ou hQ
    | (refine NT (wpAny_load ho ?_)
       rw[hc,hd];show Oy M A (if _=true then _ else _) Q E s;rw[if_neg (by intro h;rw[hn] at h;cases h)]
       exact Ou hQ))
def ve(K:Frag)(a:Addr):It:=⟨fun i H=>∃xs x,Y8 K H a xs/\xs[i]? = some x,fun i H x H'=>H'=H/\∀xs,Y8 K H a xs->xs[i]? = some x,fun i H=>∃xs,Y8 K H a xs/\xs.length<=i⟩
def ux(K:Frag)(a:Addr):It:=⟨fun i H=>∃xs x,Zz K H a xs/\xs[i]? = some x,fun i H x H'=>H'=H/\∀xs,Zz K H a xs->xs[i]? = some x,fun i H=>∃xs,Zz K H a xs/\xs.length<=i⟩
def z4(lo:Int)(n:Nat):It:=⟨fun i _=>i<n,fun i H x H'=>H'=H/\x=.int (lo+i),fun i _=>n<=i⟩
theorem zav{P:NU}{w:N8}{K:Frag}{tg:Expr}(a it:Addr):Turn P w K tg (ve K a) [it] it (fun i h=>h.IsListIter it a i) where
 mem:=by simp
 obj:=fun i h st b hb=>by
  have e:b=it:=by simpa using hb
  subst e
  obtain⟨o,e,c,d⟩:=st<;>simp_all
 keep:=fun i h h' st k=>st.at fun o e=>k it (by simp) o e
 item:=by
  intro X hP hw hK hc i pins s σ H E I hf st hg;subst hP hw hK;obtain⟨xs,x,hq,hx⟩:=hg;obtain⟨Xx,rv,p,hz⟩:=I.list hq;obtain⟨u,hu,ru⟩:=rv.get hx;obtain⟨f0,f1,f2,f3,f4,f5⟩:=hf it (by simp);refine wpAny_pyNext_list_item st p.isList (x:=u) (by simpa using hu) fun h' De sb=>?_;have I1:Inv X pins σ H { s with heap:=h' }:=I.turned (t':=s.toks) (fun b o hb e=>(sb.2 b hb).trans e) f0 f1 f3 f4 f5;obtain⟨o,e,c,d⟩:=id De;exact⟨u,rfl,lO (s:={ s with heap:=h' }) e c d (by decide) ⟨x,H,I1,ru,⟨rfl,fun ys hy=>by rw[I.list_inj hy hq];exact hx⟩,De,fun b hb=>(hf b hb).1⟩⟩
 done:=by
  intro X hP hw hK hc i pins s σ H E I hf st hg;subst hP hw hK;obtain⟨xs,hq,hx⟩:=hg;obtain⟨Xx,rv,p,hz⟩:=I.list hq;obtain⟨f0,f1,f2,f3,f4,f5⟩:=hf it (by simp);have hl:=rv.length;exact wpAny_pyNext_list_end (I.ok.hd hc) st p.isList (by simp;omega) fun h' eb=>⟨rfl,I.turned (t':=s.toks) (fun b o hb e=>eb b o hb e) f0 f1 f3 f4 f5⟩
 self:=fun _ _ _ _ _ st h=>wpAny_pyIter_listiter st h
theorem zaw{P:NU}{w:N8}{K:Frag}{tg:Expr}(a it:Addr):Turn P w K tg (ux K a) [it] it (fun i h=>h.IsTupleIter it a i) where
 mem:=by simp
 obj:=fun i h st b hb=>by
  have e:b=it:=by simpa using hb
  subst e;obtain⟨o,e,c,d⟩:=st;exact⟨o,e,fun v z=>by rw[d] at z;cases z⟩
 keep:=fun i h h' st k=>st.at fun o e=>k it (by simp) o e
 item:=by
  intro X hP hw hK hc i pins s σ H E I hf st hg;subst hP hw hK;obtain⟨xs,x,hq,hx⟩:=hg;obtain⟨Xx,rv,p,hz⟩:=I.tuple hq;obtain⟨u,hu,ru⟩:=rv.get hx;obtain⟨f0,f1,f2,f3,f4,f5⟩:=hf it (by simp);refine wpAny_pyNext_tuple_item st (show s.heap.IsTuple a Xx.toArray from p) (x:=u) (by simpa using hu) fun h' De sb=>?_;have I1:Inv X pins σ H { s with heap:=h' }:=I.turned (t':=s.toks) (fun b o hb e=>(sb.2 b hb).trans e) f0 f1 f3 f4 f5;obtain⟨o,e,c,d⟩:=id De;exact⟨u,rfl,lO (s:={ s with heap:=h' }) e c d (by decide) ⟨x,H,I1,ru,⟨rfl,fun ys hy=>by rw[I.tuple_inj hy hq];exact hx⟩,De,fun b hb=>(hf b hb).1⟩⟩
 done:=by
  intro X hP hw hK hc i pins s σ H E I hf st hg;subst hP hw hK;obtain⟨xs,hq,hx⟩:=hg;obtain⟨Xx,rv,p,hz⟩:=I.tuple hq;obtain⟨f0,f1,f2,f3,f4,f5⟩:=hf it (by simp);have hl:=rv.length;exact wpAny_pyNext_tuple_end (I.ok.hd hc) st (show s.heap.IsTuple a Xx.toArray from p) (by simp;omega) fun h' eb=>⟨rfl,I.turned (t':=s.toks) (fun b o hb e=>eb b o hb e) f0 f1 f3 f4 f5⟩
 self:=fun _ _ _ _ _ st h=>wpAny_pyIter_tupleiter st h
theorem zax{P:NU}{w:N8}{K:Frag}{tg:Expr}(it:Addr)(lo:Int)(n:Nat):Turn P w K tg (z4 lo n) [it] it (fun i h=>IsRangeIter h it (lo+(i:Nat)*1) ((n:Int)-(i:Nat)) 1) where
 mem:=by simp
 obj:=fun i h st b hb=>by simp_all
 keep:=fun i h h' st k=>k it (by simp) _ st
 item:=by
  intro X hP hw hK hc i pins s σ H E I hf st hg;subst hP hw hK;obtain⟨f0,f1,f2,f3,f4,f5⟩:=hf it (by simp);have W:=Walks.range (prog:=X.prog) (w:=X.w) (I.ok.hd hc) it lo 1 n;refine W.item i s _ _ hg st fun v h' tk hv De kk=>?_;obtain⟨t,rfl⟩:=hv;have I1:Inv X pins σ H { s with heap:=h',toks:=tk }:=I.turned (fun b o hb e=>kk b o (by simpa using hb) e) f0 f1 f3 f4 f5;refine⟨_,rfl,lO   De rfl rfl (by decide) ⟨.int (lo+i),H,I1,⟨t,?_⟩,⟨rfl,rfl⟩,De,fun b hb=>(hf b hb).1⟩⟩;rw[Int.mul_one]
 done:=by
  intro X hP hw hK hc i pins s σ H E I hf st hg;obtain⟨f0,f1,f2,f3,f4,f5⟩:=hf it (by simp);exact wpAny_pyNext_range_end (I.ok.hd hc) st (by have:n<=i:=hg;omega) fun h' eb=>⟨rfl,I.turned  (fun b o hb e=>eb b o hb e) f0 f1 f3 f4 f5⟩
 self:=fun _ _ _ _ _ st h=>wpAny_pyIter_rangeiter st h
section
variable {X:Cx}{tg:Expr}
theorem zay{pins:List (Addr×Obj)}{σ:St}{H:Hp}{s:NP}{R:It->Hp->Prop}{E:NO->NP->Prop}{lo hi:Int}{t u v:Tok}{tk:Nat}(I:Inv X pins σ H s)(h1 : -(2^62)<=lo)(h2:lo<2^62)(h3 : -(2^62)<=hi)(h4:hi<2^62)
  (q:R (z4 lo (hi-lo).toNat) H):Oy (Os X.prog X.w) X.A (pyIter (.ref s.heap.objs.size)) (PIE X pins σ tg R) E { s with heap:=s.heap.push { cls:=.type "range",data:=.fields #[.int lo t,.int hi u,.int 1 v] },toks:=tk }:=by
 refine wpAny_pyIter_range (IsRange.new ..) (small_one h1 h2 h3 h4) ?_;have I1:Inv X pins σ H { s with heap:=s.heap.push { cls:=.type "range",data:=.fields #[.int lo t,.int hi u,.int 1 v] },toks:=tk }:=I.kept fun b o e=>NQ _ e
 refine⟨(s.heap.push { cls:=.type "range",data:=.fields #[.int lo t,.int hi u,.int 1 v] }).objs.size,[(s.heap.push { cls:=.type "range",data:=.fields #[.int lo t,.int hi u,.int 1 v] }).objs.size],_,_,H,rfl,
  I1.kept  fun b o e=>NQ _ e,zax _ lo _,?_,fun b hb=>?_,q⟩
 .have e1:lo+((0:Nat))*1=lo:=by simp
  have e2:(((hi-lo).toNat))-((0:Nat))=WP lo hi 1:=by rw[rangeSize_one]<;>grind
  rw[e1,e2];exact Ox _ rfl
 .have e:b=(s.heap.push { cls:=.type "range",data:=.fields #[.int lo t,.int hi u,.int 1 v] }).objs.size:=by simpa using hb
  subst e;exact I1.fpOk (Of _) (I1.hok.fresh (Of _))
def IU(ta:TA):TI:=fun σ H R=>ta σ H fun vs H1=>∃j:Int,vs=[.int j]/\-(2^62)<=j/\j<2^62/\R (z4 0 j.toNat) H1
theorem zaz(hg:Gl X "range")(hm:X.mg "range"=none)(ha:PA X [a] ta)(hs:NR [a] X.env=[(false,eval a X.env)]:=by rfl):PI X tg (.Call (.Name "range" p) [a] [] pos) (IU ta):=by
 intro pins s σ H R I h;refine Call_ (li I hg hm boot_range (QW (Ya (ha pos pins s σ H _ I h) fun us s1 ⟨vs,H1,I1,r1,q1⟩=>?_) hs rfl));obtain⟨j,e,q1,q2,q⟩:=q1;subst e
 cases r1 with
 |cons r rr=>
  cases rr;obtain⟨t,rfl⟩:=r;exact call_range_1 (zay I1 (by omega) (by omega) q1 q2 (by simp_all))
def JF(wi:TI)(g:TG)(tb:TS):TS:=fun D σ H=>wi σ H fun J H1=>∃W:Nat->Nat->St->Hp->Prop,(∃m,W 0 m σ H1)/\∀i m σ H,W i m σ H ->
 (J.stop i H/\D.nx σ H)\/(J.go i H/\∃N:St->Hp->Prop,(∀σ' H',N σ' H'->∃m',m' < m/\W (i+1) m' σ' H')/\∀x H',J.yld i H x H'->g x σ H' fun Gj H2=>tb { D with nx:=N,ct:=N,bk:=D.nx } Gj H2)
def fj(fp:List Addr)(h:Heap):List (Addr×Obj):=fp.filterMap fun b=>(h.get? b).map fun o=>(b,o)
theorem jC(hb:b∈fp)(e:h.get? b=some o):(b,o)∈fj fp h:=UO.mpr ⟨b,hb,by rw[e];rfl⟩
theorem zba(hp:p∈fj fp h):p.1∈fp/\h.get? p.1=some p.2:=by
 obtain⟨b,hb,e⟩:=UO.mp hp
 cases q:h.get? b with
 |none=>simp_all
 |some o=>
  rw[q] at e;have e':=Qc e;subst e';exact⟨hb,q⟩
theorem Inv.pinned(I:Inv X pins σ H s)(hf:∀b∈fp,cV X pins H b)(ho:∀b∈fp,∃o,s.heap.get? b=some o/\∀v,o.data≠.cell v):Inv X (pins++fj fp s.heap) σ H s:=
 I.pins_of fun p hp=>(Oz.mp hp).elim (fun z=>I.pin p (On _ z)) fun z=>by
  obtain⟨hb,e⟩:=zba z;obtain⟨f0,f1,f2,_⟩:=hf p.1 hb
  obtain⟨o,e',d⟩:=ho p.1 hb<;>simp_all
theorem Inv.unpinned(I:Inv X (pins++pl) σ H s):Inv X pins σ H s:=I.pins_of fun p hp=>I.pin p (On _ (OR _ hp))
theorem q5(hp:SR (Os X.prog X.w) X.A X.env X.xe)(hc:X.calm=true)(hi:PI X tg iter wi)(hg:PG X tg g)(hb:ZZ X body tb)
  (hs:∀x,Pe iter X.env x=pure x:=by intro _;rfl):PS X (.For tg iter body [] pos) (JF wi g tb):=by
 intro pins s σ H D I h;refine wpAny_For (Ya (hi pins s σ H _ I h) fun v s1 h1=>Ya h1 fun Gu s2 h2=>?_) hs;obtain⟨it,fp,tn,J,H2,e,I2,T,CM,f2,W,⟨m0,w0⟩,turn⟩:=h2;subst e;have FM:∀{H':Hp},(∀b∈fp,H' b=none)->∀b∈fp,cV X pins H' b:=fun hn b hb=>⟨hn b hb,(f2 b hb).2⟩;refine codeAny_forLoop_any (fun n s'=>∃i σ' H',Inv X pins σ' H' s'/\tn i s'.heap/\(∀b∈fp,H' b=none)/\W i n σ' H') ?_ m0 ⟨0,σ,H2,I2,CM,fun b hb=>(f2 b hb).1,w0⟩;rintro n s3 ⟨i,YW,H3,I3,st3,fr3,w3⟩
 rcases turn i n YW H3 w3 with⟨stop,qn⟩|⟨go,N,hN,step⟩
 .refine Qu hp (Ya (T.done X rfl rfl rfl hc i pins s3 YW H3 X.xe I3 (FM fr3) st3 stop) fun r s4 ⟨hr,I4⟩=>?_)
  subst hr;exact Rj ⟨YW,H3,I4,qn⟩
 .refine Qu hp (Ya (T.item X rfl rfl rfl hc i pins s3 YW H3 X.xe I3 (FM fr3) st3 go) fun r s4 ⟨u,hr,h4⟩=>?_)
  subst hr;refine Qu hp (Ya h4 fun _ s5 ⟨x,H5,I5,r5,y5,IE,Ho⟩=>?_);have I5':=I5.pinned (FM Ho) (T.obj _ _ IE);refine Qu hp (Ya (hg _ s5 YW H5 x u _ I5' r5 (step x H5 y5)) fun _ s6 ⟨σ6,H6,I6,q6⟩=>?_);refine Qu hp (Ya (hb _ s6 σ6 H6 _ I6 q6) fun f s7 q7=>?_)
  have again:∀{Ji:St}{H7:Hp},Inv X (pins++fj fp s5.heap) Ji H7 s7->N Ji H7->∃m,m<n/\∃i σ' H',Inv X pins σ' H' s7/\tn i s7.heap/\(∀b∈fp,H' b=none)/\W i m σ' H':=fun {Ji H7} I7 n7=>by
   obtain⟨m',hm,w7⟩:=hN Ji H7 n7;refine⟨m',hm,i+1,Ji,H7,I7.unpinned,T.keep _ _ _ IE fun b hb o e=>(I7.pin (b,o) (On _ (On _ (jC hb e)))).1,fun b hb=>?_,w7⟩;obtain⟨o,e,d⟩:=T.obj _ _ IE b hb;exact(I7.pin (b,o) (On _ (On _ (jC hb e)))).2.1
  cases f with
  |next=>obtain⟨Ji,H7,I7,n7⟩:=q7;exact again I7 n7
  |cont=>obtain⟨Ji,H7,I7,n7⟩:=q7;exact again I7 n7
  |brk=>obtain⟨Ji,H7,I7,q7⟩:=q7;exact⟨Ji,H7,I7.unpinned,q7⟩
  |ret v=>obtain⟨x7,Ji,H7,I7,r7,q7⟩:=q7;exact⟨x7,Ji,H7,I7.unpinned,r7,q7⟩
end
abbrev R2:=V->V->Hp->VK->Prop
def YQ(X:Cx)(f:NO->NO->Sem NO)(r:R2):Prop:=
 ∀(pins:List (Addr×Obj)) (s:NP) (σ:St) (H:Hp) (x y:V) (v u:NO) (Q:VK),Inv X pins σ H s->RelV x v->RelV y u->r x y H Q ->
  Oy (Os X.prog X.w) X.A (f v u) (EP X pins σ Q) X.xe s
def AJ(X:Cx)(f:NO->Sem NO)(r:V->Hp->VK->Prop):Prop:=
 ∀(pins:List (Addr×Obj)) (s:NP) (σ:St) (H:Hp) (x:V) (v:NO) (Q:VK),Inv X pins σ H s->RelV x v->r x H Q ->
  Oy (Os X.prog X.w) X.A (f v) (EP X pins σ Q) X.xe s
def Yk(X:Cx)(f:NO)(r:List V->Hp->VK->Prop):Prop:=
 ∀(pins:List (Addr×Obj)) (s:NP) (σ:St) (H:Hp) (xs:List V) (us:List NO) (Q:VK),Inv X pins σ H s->XC xs us->r xs H Q ->
  Oy (Os X.prog X.w) X.A (call f us) (EP X pins σ Q) X.xe s
def Ko(X:Cx)(r:V->Hp->(Bool->Hp->Prop)->Prop):Prop:=
 ∀(pins:List (Addr×Obj)) (s:NP) (σ:St) (H:Hp) (x:V) (v:NO) (Q:Bool->Hp->Prop),Inv X pins σ H s->RelV x v->r x H Q ->
  Oy (Os X.prog X.w) X.A (truthy v) (TP X pins σ Q) X.xe s
def Ht(r:R2)(ta tb:TE):TE:=fun σ H Q=>ta σ H fun x H1=>tb σ H1 fun y H2=>r x y H2 Q
def tUn(r:V->Hp->VK->Prop)(ta:TE):TE:=fun σ H Q=>ta σ H fun x H1=>r x H1 Q
def rI(C:Int->Int->Prop)(g:Int->Int->V):R2:=fun x y H Q=>∃i j,x=.int i/\y=.int j/\C i j/\Q (g i j) H
def Bs(g:Int->Int->V):R2:=fun x y H Q=>∃i j,x=.int i/\y=.int j/\Q (g i j) H
def rU(g:Int->V):V->Hp->VK->Prop:=fun x H Q=>∃i,x=.int i/\Q (g i) H
section
variable {X:Cx}{a b c:Expr}{ta tb tc:TE}{pos:Pos}
theorem sr(ha:PE X a ta)(hb:PE X b tb){R:V->V->Hp->Prop}(I:Inv X pins σ H s)
  (h:ta σ H fun x H1=>tb σ H1 fun y H2=>R x y H2) {Q:NO->NP->Prop}{f:NO->NO->Sem NO}
  (hf:∀v u s2 x y H2,Inv X pins σ H2 s2->RelV x v->RelV y u->R x y H2->Oy (Os X.prog X.w) X.A (f v u) Q X.xe s2) :
  Oy (Os X.prog X.w) X.A (eval a X.env) (fun v s₁=>Oy (Os X.prog X.w) X.A (eval b X.env) (fun u sM=>Oy (Os X.prog X.w) X.A (f v u) Q X.xe sM) X.xe s₁) X.xe s:=by
 refine Ya (ha pins s σ H _ I h) fun v s1 ⟨x,H1,I1,r1,q1⟩=>?_;refine Ya (hb pins s1 σ H1 _ I1 q1) fun u s2 ⟨y,H2,I2,r2,q2⟩=>?_;exact hf v u s2 x y H2 I2 r1 r2 q2
theorem rK(ho:YQ X (Pw op) r)(ha:PE X a ta)(hb:PE X b tb):PE X (.BinOp a op b pos) (Ht r ta tb):=by
 intro pins s σ H Q I h;exact wpAny_BinOp (sr ha hb I h fun v u s2 x y H2 I2 rx ry q=>ho pins s2 σ H2 x y v u Q I2 rx ry q)
theorem zbb(ho:AJ X (unaryOp op) r)(ha:PE X a ta):PE X (.UnaryOp op a pos) (tUn r ta):=by
 intro pins s σ H Q I h;exact UnaryOp_ (Ya (ha pins s σ H _ I h) fun v s1 ⟨x,H1,I1,r1,q1⟩=>ho pins s1 σ H1 x v Q I1 r1 q1)
theorem Bd{f:NO->NO->Sem NO}{C:Int->Int->Prop}{g:Int->Int->Int}
  (rule:∀(i j:Int) (t u:Tok) (s:NP) (Q:NO->NP->Prop) (E:NO->NP->Prop),C i j->Q (.int (g i j) s.toks) { s with toks:=s.toks+1 }->Oy (Os X.prog X.w) X.A (f (.int i t) (.int j u)) Q E s) :
  YQ X f (rI C fun i j=>.int (g i j)):=by
 intro pins s σ H x y v u Q I rx ry h;obtain⟨i,j,rfl,rfl,hc,q⟩:=h;obtain⟨t,rfl⟩:=rx;obtain⟨t',rfl⟩:=ry;exact rule i j t t' s _ _ hc ⟨.int _,H,I.tok _,⟨_,rfl⟩,q⟩
theorem zss{f:NO->NO->Sem NO}{g:Int->Int->Int}
  (rule:∀(i j:Int) (t u:Tok) (s:NP) (Q:NO->NP->Prop) (E:NO->NP->Prop),Q (.int (g i j) s.toks) { s with toks:=s.toks+1 }->Oy (Os X.prog X.w) X.A (f (.int i t) (.int j u)) Q E s) :
  YQ X f (Bs fun i j=>.int (g i j)):=by
 intro pins s σ H x y v u Q I rx ry h;obtain⟨i,j,rfl,rfl,q⟩:=h;obtain⟨t,rfl⟩:=rx;obtain⟨t',rfl⟩:=ry;exact rule i j t t' s _ _ ⟨.int _,H,I.tok _,⟨_,rfl⟩,q⟩
theorem oQ{f:NO->NO->Sem NO}{g:Int->Int->Bool}
  (rule:∀(i j:Int) (t u:Tok) (s:NP) (Q:NO->NP->Prop) (E:NO->NP->Prop),Q (.bool (g i j)) s->Oy (Os X.prog X.w) X.A (f (.int i t) (.int j u)) Q E s) :
  YQ X f (Bs fun i j=>.bl (g i j)):=by
 intro pins s σ H x y v u Q I rx ry h;obtain⟨i,j,rfl,rfl,q⟩:=h;obtain⟨t,rfl⟩:=rx;obtain⟨t',rfl⟩:=ry;exact rule i j t t' s _ _ ⟨.bl _,H,I,rfl,q⟩
def Ks(i j:Int):Prop:=0<=j/\j<=1000000/\i.natAbs<2^64
def Fj(i j:Int):Prop:=(-(2^64)<i/\i<2^64)\/(-(2^64)<j/\j<2^64)
theorem Fj.ok(h:Fj i j):IntMulOk i j:=by
 rcases h with⟨h1,h2⟩|⟨h1,h2⟩
 .exact .of_left (intBits_le_64 h1 h2)
 .exact .of_right (intBits_le_64 h1 h2)
theorem B7:YQ X (Pw .Add) (Bs fun i j=>.int (i+j)):=zss fun _ _ _ _ _ _ _ q=>add_int q
theorem zbc:YQ X (Pw .Sub) (Bs fun i j=>.int (i-j)):=zss fun _ _ _ _ _ _ _ q=>sub_int q
theorem IT:YQ X (Pw .Mult) (rI Fj fun i j=>.int (i*j)):=Bd fun _ _ _ _ _ _ _ hc q=>mul_int q hc.ok
theorem zbd:YQ X (Pw .Mod) (rI (fun _ j=>0<j) fun i j=>.int (i % j)):=Bd fun i j _ _ _ _ _ hc q=>by
 exact mod_int' (by omega) (by rw[Int.fmod_eq_emod_of_nonneg i (by omega)];exact q)
theorem zbe:YQ X (Pw .Pow) (rI Ks fun i j=>.int (i^j.toNat)):=Bd fun _ _ _ _ _ _ _ hc q=>pow_int_small hc.1 hc.2.1 hc.2.2 q
theorem unI{f:NO->Sem NO}{g:Int->Int}
  (rule:∀(i:Int) (t:Tok) (s:NP) (Q:NO->NP->Prop) (E:NO->NP->Prop),Q (.int (g i) s.toks) { s with toks:=s.toks+1 }->Oy (Os X.prog X.w) X.A (f (.int i t)) Q E s) :
  AJ X f (rU fun i=>.int (g i)):=by
 intro pins s σ H x v Q I rx h;obtain⟨i,rfl,q⟩:=h;obtain⟨t,rfl⟩:=rx;exact rule i t s _ _ ⟨.int _,H,I.tok _,⟨_,rfl⟩,q⟩
theorem zbf:AJ X (unaryOp .USub) (rU fun i=>.int (-i)):=unI fun _ _ _ _ _ q=>neg_int q
end
def se:V->V->Bool
 |.non,.non=>true | .non,.int _=>true | .int _,.non=>true | .non,.bl _=>true | .bl _,.non=>true | .non,.str _=>true | .str _,.non=>true
 |.int _,.int _=>true | .bl _,.bl _=>true | .str _,.str _=>true | .byt _,.byt _=>true
 |.int _,.str _=>true | .str _,.int _=>true | .bl _,.str _=>true | .str _,.bl _=>true
 |_,_=>false
def rEq:R2:=fun x y H Q=>se x y=true/\Q (.bl (decide (x=y))) H
def rNe:R2:=fun x y H Q=>se x y=true/\Q (.bl (!decide (x=y))) H
theorem zst:decide (V.int i=V.int j)=(i == j):=by
 rw[PQ];simp
theorem zsu:decide (V.bl i=V.bl j)=(i == j):=by
 rw[PQ];simp
theorem zsv:decide (V.str i=V.str j)=(i == j):=by
 rw[PQ];simp
theorem zsw:decide (V.byt i=V.byt j)=(i.toList == j.toList):=by rw[PQ]<;>simp_all
section
variable {X:Cx}{a b c:Expr}{ta tb tc:TE}{pos:Pos}
theorem bv(I:Inv X pins σ H s)(q:Q (.bl k) H)(e:k=k'):EP X pins σ Q (.bool k') s:=by
 subst e;exact⟨.bl k,H,I,rfl,q⟩
theorem zbg:YQ X (OL .Eq) rEq:=by
 intro pins s σ H x y v u Q I rx ry h;obtain⟨hs,q⟩:=h
 cases x with
 |non=>
  cases rx
  cases y with
  |non=>cases ry;exact Wn (bv I q (by simp))
  |bl j=>cases ry;exact Wo (bv I q (by simp))
  |int j=>obtain⟨t',rfl⟩:=ry;exact WA (bv I q (by simp))
  |str j=>obtain⟨t',rfl⟩:=ry;exact WB (bv I q (by simp))
  |_=>exact absurd (show false=true from hs) Ov
 |bl i=>
  cases rx
  cases y with
  |non=>cases ry;exact Wp (bv I q (by simp))
  |bl j=>cases ry;exact eq_bool (bv I q zsu)
  |str j=>obtain⟨t',rfl⟩:=ry;exact Wq (bv I q (by simp))
  |_=>exact absurd (show false=true from hs) Ov
 |int i=>
  obtain⟨t,rfl⟩:=rx
  cases y with
  |non=>cases ry;exact WC (bv I q (by simp))
  |int j=>obtain⟨t',rfl⟩:=ry;exact eq_int (bv I q zst)
  |str j=>obtain⟨t',rfl⟩:=ry;exact WD (bv I q (by simp))
  |_=>exact absurd (show false=true from hs) Ov
 |str i=>
  obtain⟨t,rfl⟩:=rx
  cases y with
  |non=>cases ry;exact WE (bv I q (by simp))
  |bl j=>cases ry;exact Wr (bv I q (by simp))
  |int j=>obtain⟨t',rfl⟩:=ry;exact WF (bv I q (by simp))
  |str j=>obtain⟨t',rfl⟩:=ry;exact eq_str (bv I q zsv)
  |_=>exact absurd (show false=true from hs) Ov
 |byt i=>
  obtain⟨t,rfl⟩:=rx
  cases y with
  |byt j=>obtain⟨t',rfl⟩:=ry;exact PySem.W.eq_bytes (bv I q zsw)
  |_=>exact absurd (show false=true from hs) Ov
 |_=>cases y <;> exact absurd (show false=true from hs) Ov
theorem zbh:YQ X (OL .NotEq) rNe:=by
 intro pins s σ H x y v u Q I rx ry h;obtain⟨hs,q⟩:=h
 cases x with
 |non=>
  cases rx
  cases y with
  |non=>cases ry;exact Ws (bv I q (by simp))
  |bl j=>cases ry;exact Wt (bv I q (by simp))
  |int j=>obtain⟨t',rfl⟩:=ry;exact WG (bv I q (by simp))
  |str j=>obtain⟨t',rfl⟩:=ry;exact WH (bv I q (by simp))
  |_=>exact absurd (show false=true from hs) Ov
 |bl i=>
  cases rx
  cases y with
  |non=>cases ry;exact Wu (bv I q (by simp))
  |bl j=>cases ry;exact ne_bool (bv I q (congrArg not zsu))
  |str j=>obtain⟨t',rfl⟩:=ry;exact Wv (bv I q (by simp))
  |_=>exact absurd (show false=true from hs) Ov
 |int i=>
  obtain⟨t,rfl⟩:=rx
  cases y with
  |non=>cases ry;exact WI (bv I q (by simp))
  |int j=>obtain⟨t',rfl⟩:=ry;exact ne_int (bv I q (congrArg not zst))
  |str j=>obtain⟨t',rfl⟩:=ry;exact WJ (bv I q (by simp))
  |_=>exact absurd (show false=true from hs) Ov
 |str i=>
  obtain⟨t,rfl⟩:=rx
  cases y with
  |non=>cases ry;exact WK (bv I q (by simp))
  |bl j=>cases ry;exact Ww (bv I q (by simp))
  |int j=>obtain⟨t',rfl⟩:=ry;exact WL (bv I q (by simp))
  |str j=>obtain⟨t',rfl⟩:=ry;exact ne_str (bv I q (congrArg not zsv))
  |_=>exact absurd (show false=true from hs) Ov
 |byt i=>
  obtain⟨t,rfl⟩:=rx
  cases y with
  |byt j=>obtain⟨t',rfl⟩:=ry;exact PySem.W.ne_bytes (bv I q (congrArg not zsw))
  |_=>exact absurd (show false=true from hs) Ov
 |_=>cases y <;> exact absurd (show false=true from hs) Ov
theorem zbi:YQ X (OL .Lt) (Bs fun i j=>.bl (decide (i<j))):=oQ fun _ _ _ _ _ _ _ q=>lt_int q
theorem zbj:YQ X (OL .LtE) (Bs fun i j=>.bl (decide (i<=j))):=oQ fun _ _ _ _ _ _ _ q=>le_int q
theorem zbk:YQ X (OL .Gt) (Bs fun i j=>.bl (decide (j<i))):=oQ fun _ _ _ _ _ _ _ q=>gt_int q
theorem zbl:YQ X (OL .GtE) (Bs fun i j=>.bl (decide (j<=i))):=oQ fun _ _ _ _ _ _ _ q=>ge_int q
theorem B6:YQ X (OL .In) (fun x y H Q=>∃i j,x=.str i/\y=.str j/\Q (.bl (!(OM j i 0 j.length 1).isEmpty)) H):=by
 intro pins s σ H x y v u Q I rx ry h;obtain⟨i,j,rfl,rfl,q⟩:=h;obtain⟨t,rfl⟩:=rx;obtain⟨t',rfl⟩:=ry;exact in_str (bv I q rfl)
theorem zbm:YQ X (OL .Is) (fun x y H Q=>y=.non/\Q (.bl (decide (x=.non))) H):=by
 intro pins s σ H x y v u Q I rx ry h;obtain⟨rfl,q⟩:=h;cases ry;refine is_none_gen (bv I q ?_)
 cases x <;> first
  |omega
  |(obtain⟨t,rfl⟩:=rx;rfl)
theorem DN:YQ X (OL .IsNot) (fun x y H Q=>y=.non/\Q (.bl (!decide (x=.non))) H):=by
 intro pins s σ H x y v u Q I rx ry h;obtain⟨rfl,q⟩:=h;cases ry;refine isnot_none_gen (bv I q ?_)
 cases x <;> first
  |(rfl)
  |(obtain⟨t,rfl⟩:=rx;rfl)
theorem Dx:YQ X (OL .NotIn) (fun x y H Q=>∃i j,x=.str i/\y=.str j/\Q (.bl (!(!(OM j i 0 j.length 1).isEmpty))) H):=by
 intro pins s σ H x y v u Q I rx ry h;obtain⟨i,j,rfl,rfl,q⟩:=h;obtain⟨t,rfl⟩:=rx;obtain⟨t',rfl⟩:=ry;exact notIn_str (bv I q rfl)
theorem YQ.or(h:YQ X f r)(h':YQ X f r'):YQ X f (fun x y H Q=>r x y H Q\/r' x y H Q):=by
 intro pins s σ H x y v u Q I rx ry q
 rcases q with q|q
 .exact h pins s σ H x y v u Q I rx ry q
 .exact h' pins s σ H x y v u Q I rx ry q
theorem rf(b:Expr)(h:op≠.In:=by decide)(h2:op≠.NotIn:=by decide):QT op b=false:=by
 have e1:(op == CmpOp.In)=false:=by grind
 have e2:(op == CmpOp.NotIn)=false:=by grind
 cases b <;> simp[QT,e1,e2]
theorem zsx(ho:YQ X (OL op) r)(ha:PE X a ta)(hb:PE X b tb)(hm:QT op b=false):PE X (.Compare a [op] [b] pos) (Ht r ta tb):=by
 intro pins s σ H Q I h;exact wpAny_Compare1 (sr ha hb I h fun v u s2 x y H2 I2 rx ry q=>ho pins s2 σ H2 x y v u Q I2 rx ry q) hm
def HV(t:TE):TT:=fun σ H Q=>t σ H fun x H'=>∃k,x=.bl k/\Q k H'
theorem zbn(ho:YQ X (OL op) r)(ha:PE X a ta)(hb:PE X b tb)(hm:QT op b=false):PT X (.Compare a [op] [b] pos) (HV (Ht r ta tb)):=by
 intro pins s σ H Q I h
 refine wpAny_isTrue_Compare1 (Ya (ha pins s σ H _ I h) fun v s1 ⟨x,H1,I1,r1,q1⟩=>Ya (hb pins s1 σ H1 _ I1 q1) fun u s2 ⟨y,H2,I2,r2,q2⟩=>
  Ya (ho pins s2 σ H2 x y v u _ I2 r1 r2 q2) fun c s3 ⟨z,H3,I3,r3,k,e,q3⟩=>?_) hm
 subst e;cases r3;exact PJ ⟨H3,I3,q3⟩
def wX(r r':R2)(ta tb tc:TE):TE:=fun σ H Q=>ta σ H fun x H1=>tb σ H1 fun y H2=>r x y H2 fun z H3=>∃k,z=.bl k /\
 (if k=true then tc σ H3 fun w' H4=>r' y w' H4 Q else Q (.bl false) H3)
theorem zbo(ho:YQ X (OL op) r)(Jr:YQ X (OL G5) r')(ha:PE X a ta)(hb:PE X b tb)(hc:PE X c tc)
  (hm:lastMarks [op,G5] [b,c]=false:=by with_unfolding_all rfl):PE X (.Compare a [op,G5] [b,c] pos) (wX r r' ta tb tc):=by
 intro pins s σ H Q I h
 refine Compare_chain (Ya (ha pins s σ H _ I h) fun v s1 ⟨x,H1,I1,r1,q1⟩=>chain_link (Ya (hb pins s1 σ H1 _ I1 q1) fun u s2 ⟨y,H2,I2,r2,q2⟩=>
  Ya (ho pins s2 σ H2 x y v u _ I2 r1 r2 q2) fun d s3 ⟨z,H3,I3,r3,k,e,q3⟩=>?_)) hm
 subst e;cases r3;refine PJ ?_
 cases k with
 |false=>exact ite_ff ⟨.bl _,H3,I3,rfl,q3⟩
 |true=>exact ite_tt (chain_last (Ya (hc pins s3 σ H3 _ I3 q3) fun w' s4 ⟨z',H4,I4,r4,q4⟩=>Jr pins s4 σ H4 y z' u w' Q I4 r2 r4 q4))
def sy(K:Frag)(x:V)(H:Hp)(k:Bool):Prop:=
 match x with
 |.non=>k=false
 |.bl b=>k=b
 |.int i=>k=(i != 0)
 |.str y=>y.length<=NX/\k=((y.length:Int) != 0)
 |.byt y=>y.size<=NX/\k=((y.size:Int) != 0)
 |.ref p=>(∃xs,Y8 K H p xs/\k = !xs.isEmpty)\/(∃xs,Zz K H p xs/\k = !xs.isEmpty)\/∃kvs,H p=some (.dK kvs)/\k = !kvs.isEmpty
 |_=>False
theorem zbp{κ:Type}{kvs:List (κ×V)}{vs:List (κ×NO)}(r:KV kvs vs):(!vs.isEmpty) = !kvs.isEmpty:=by cases r <;> rfl
theorem zsy(r:XC xs Xx):(!Xx.toArray.isEmpty) = !xs.isEmpty:=by cases r <;> simp
theorem iT:(NX:Nat)<2^63:=by decide
theorem zbq:Ko X (fun x H Q=>∃k,sy X.K x H k/\Q k H):=by
 intro pins s σ H x v Q I rx h;obtain⟨k,e,q⟩:=h;have hl:=iT;have hs:NX=16777216:=Ua
 cases x with
 |non=>
  cases rx;have e':k=false:=e;subst e';exact truthy_none ⟨H,I,q⟩
 |bl b=>
  cases rx;have e':k=b:=e;subst e';exact PJ ⟨H,I,q⟩
 |int i=>
  obtain⟨t,rfl⟩:=rx;have e':k=(i != 0):=e;subst e';exact PySem.P.truthy_int ⟨H,I,q⟩
 |str y=>
  obtain⟨t,rfl⟩:=rx;obtain⟨hy,e'⟩:y.length<=NX/\k=((y.length:Int) != 0):=e;subst e';exact PySem.P.truthy_str (by omega) ⟨H,I.tok _,q⟩
 |byt y=>
  obtain⟨t,rfl⟩:=rx;obtain⟨hy,e'⟩:y.size<=NX/\k=((y.size:Int) != 0):=e;subst e';exact PySem.W.truthy_bytes (by omega) ⟨H,I.tok _,q⟩
 |ref p=>
  cases rx;have e':(∃xs,Y8 X.K H p xs/\k = !xs.isEmpty)\/(∃xs,Zz X.K H p xs/\k = !xs.isEmpty)\/∃kvs,H p=some (.dK kvs)/\k = !kvs.isEmpty:=e
  rcases e' with⟨xs,hx,e'⟩|⟨xs,hx,e'⟩|⟨kvs,hx,e'⟩
  .subst e'
   obtain⟨Xx,r,pl,hz⟩:=I.list hx;have X4:=r.length;exact wpAny_truthy_list pl.isList (by simp only[O0];omega) ⟨H,I.tok _,by rw[zsy r];exact q⟩
  .subst e'
   obtain⟨Xx,r,pl,hz⟩:=I.tuple hx;have X4:=r.length;exact truthy_tuple pl (by simp only[O0];omega) ⟨H,I.tok _,by rw[zsy r];exact q⟩
  .subst e'
   obtain⟨hz,hS,vs,r,m⟩:kvs.length<=NX/\(p == Qn)=false/\∃vs,KV kvs vs/\s.heap.DictOf (cK X.prog X.w) p vs:=I.hok p _ hx;have X4:kvs.length=vs.length:=QB r;exact wpAny_truthy_dict hS m (by omega) ⟨H,I.tok _,by rw[zbp r];exact q⟩
 |_=>exact(show False from e).elim
theorem zbr(ha:PE X a ta)(he:∀whole,V7 a X.env whole=(do let v ←whole;Ru a.pos;QL [v] (truthy v))) :
  PT X a (fun σ H Q=>ta σ H fun x H'=>∃k,sy X.K x H' k/\Q k H'):=by
 intro pins s σ H Q I h;exact isTrue_plain (Ya (ha pins s σ H _ I h) fun v s1 ⟨x,H1,I1,r1,q1⟩=>zbq pins s1 σ H1 x v Q I1 r1 q1) (he _)
theorem Bn:YQ X (Pw .Add) (fun x y H Q=>∃i j,x=.str i/\y=.str j/\i.length+j.length<=NX/\Q (.str (i++j)) H):=by
 intro pins s σ H x y v u Q I rx ry h;obtain⟨i,j,rfl,rfl,hz,q⟩:=h;obtain⟨t,rfl⟩:=rx;obtain⟨t',rfl⟩:=ry;exact add_str (fun t' tk=>⟨.str _,H,I.tok _,⟨_,rfl⟩,q⟩) hz
theorem vals1(r:XC [x] us):∃u,us=[u]/\RelV x u:=by
 cases r with
 |cons r1 r2=>cases r2;exact⟨_,rfl,r1⟩
theorem vals2(r:XC [x,y] us):∃u w',us=[u,w']/\RelV x u/\RelV y w':=by
 cases r with
 |cons r1 r2=>
  cases r2 with
  |cons r3 r4=>cases r4;exact⟨_,_,rfl,r1,r3⟩
theorem zbs:Yk X (.builtin "abs") (fun xs H Q=>∃i,xs=[.int i]/\Q (.int (if i<0 then -i else i)) H):=by
 intro pins s σ H xs us Q I r h;obtain⟨i,rfl,q⟩:=h;obtain⟨u,rfl,t,rfl⟩:=vals1 r;exact call_abs_int fun u tk=>⟨.int _,H,I.tok _,⟨_,rfl⟩,q⟩
theorem Hh:Yk X (.type "int") (fun xs H Q=>(∃i,xs=[.int i]/\Q (.int i) H)\/∃k,xs=[.bl k]/\Q (.int (if k then 1 else 0)) H):=by
 intro pins s σ H xs us Q I r h
 rcases h with⟨i,rfl,q⟩|⟨k,rfl,q⟩
 .obtain⟨u,rfl,t,rfl⟩:=vals1 r
  exact call_int_int ⟨.int i,H,I,⟨_,rfl⟩,q⟩
 .obtain⟨u,rfl,r1⟩:=vals1 r
  cases r1;exact call_int_bool ⟨.int _,H,I.tok _,⟨_,rfl⟩,q⟩
theorem ZE:Yk X (.type "str") (fun xs H Q=>∃i,xs=[.int i]/\i.natAbs.log2<1920/\Q (.str (toString i)) H):=by
 intro pins s σ H xs us Q I r h;obtain⟨i,rfl,hz,q⟩:=h;obtain⟨u,rfl,t,rfl⟩:=vals1 r;exact PySem.P.str_of_int hz ⟨.str _,H,I.tok _,⟨_,rfl⟩,q⟩
end
structure z9(h:Heap)(x dx C:Addr)(mA:Str->Option NO):Prop where
 obj:h.get? x=some (Qb C dx)
 ns:h.Ns1 dx mA
 ne:dx≠x
theorem zsz{h:Heap}{mA:Str->Option NO}(n:h.Ns1 dx mA):∃od,h.get? dx=some od/\∀name,Rw name od=some (mA name):=by
 obtain⟨o,es,ep,ho,hd,hk,_,hm⟩:=n;refine⟨o,ho,fun name=>?_⟩;have e:=hm name;unfold nsFind findBy at e;rw[←Array.find?_toList] at e;unfold Rw;rw[hd];dsimp only;split
 simp_all
 .rename_i q
  rw[q] at e
  have a:es.toList.any (·.refKey)=false:=by
   rw[U2];intro y hy;obtain⟨z,t,uU⟩:=hk y (Array.mem_toList_iff.mp hy);simp[DictEntry.refKey,uU]
  have a':¬es.toList.any (·.refKey)=true:=by rw[a]<;>simp_all
  rw[if_neg a']<;>simp_all
theorem z9.look(I:z9 h x dx C mA):∃od,QG h x (Qb C dx) C (some od)/\∀name,Rw name od=some (mA name):=
 let ⟨od,ho,hl⟩:=zsz I.ns
 ⟨od,⟨I.obj,rfl,rfl,ho⟩,hl⟩
section
variable {prog:NU}{w:N8}{A:OF}{E:NO->NP->Prop}{s:NP}{K:Frag}{x dx C f:Addr}{mA:Str->Option NO}{name:Str}{v:NO}
theorem get_map(X:K.In s.heap)(I:z9 s.heap x dx C mA)(hg:Q7 K C name=true)(hh:P7 K C=true)
  (ha:Og K (.ref C) name=some none) (hv:mA name=some v) (Aw:SS v=true) (h:Q v { s with toks:=s.toks+1 }) :
  Oy (Os prog w) A (VZ (.ref x) name expr) Q E s:=by
 obtain⟨od,J,hl⟩:=I.look;exact PySem.W.get_value X J (Sa hg).1 (Uw hh ha rfl (by rw[hl,hv])) Aw h
theorem zbt(X:K.In s.heap)(I:z9 s.heap x dx C mA)(hg:Q7 K C name=true)
  (hf:Og K (.ref C) name=some (some (.ref f))) (ht:Qz K (.ref f)=true) (hv:mA name=none) (h:Q (.ref f,[.ref x]) s) :
  Oy (Os prog w) A (QU (.ref x) name pl) Q E s:=by
 obtain⟨od,J,hl⟩:=I.look;exact PySem.W.method_fn X J (Sa hg).1 (Sa hg).2 hf (beq_iff_eq.mp ht) (by show (Rw name od).map (·.isSome)=some false;rw[hl,hv];rfl) h
theorem zbu(X:K.In s.heap)(I:z9 s.heap x dx C mA)
  (hs:Og K (.ref C) "__setattr__"=some (some (.builtin "object.__setattr__"))) (hp:SD K C=true) (ht:Tv K C name=some none) (hh:P7 K C=true)
  (hw:U0 mA ns) (hsz:ns.length<=NX)
  (h:∀h',z9 h' x dx C (fun y=>if y=name then some v else mA y)->Qy dx s.heap h'->Q () { s with heap:=h',toks:=s.toks+2 }) :
  Oy (Os prog w) A (WZ (.ref x) name v) Q E s:=by
 obtain⟨od,J,hl⟩:=I.look;refine PySem.W.set_plain X J hs (PySem.W.osa_open (s:={ s with toks:=s.toks+1 }) (r:=none) X J hp ht fun b=>?_);obtain⟨cd,hc,EZ⟩:=PySem.W.any_some hh;have hx:s.heap.get? x=some ⟨.ref C,some dx,.plain,#[]⟩:=I.obj;refine NT (Ou (NT (NT (Ub hx (NT (Xk (s:={ s with toks:=s.toks+1 }) (PySem.W.looks_clsIn X hc) ?_))))));rw[EZ];refine Ou (a:=some dx) (NT (Ou (NT ?_)));refine wpAny_nsSet1 (s:={ s with toks:=s.toks+1 }) I.ns fun h' Cm Zy=>?_;obtain⟨oD,esD,epD,Dm,zX,AX⟩:=Cm.count (Xr name v hw);refine NT (wpAny_lookBehind Dm (by rw[zX];exact Vs (Oc AX (by rw[Oo];omega))) ?_);exact Ou (h _ ⟨(Zy.2 _ (PV I.ne)).trans I.obj,Cm,I.ne⟩ Zy)
theorem zbv(X:K.In s.heap)(hm:Tw K C=true)
  (hi:Og K (.ref C) "__init__"=some (some (.ref f))) (hf:Uc K (.ref f)=some (.type "function"))
  (h:Sd (Os prog w) (A.under (.builtin "type.__call__" ⟨.ref C::vs,kw⟩)) (.call (.ref f) ⟨.ref (s.heap.objs.size+1)::vs,kw⟩) (PySem.W.InitBack (s.heap.objs.size+1) R)
   { s with heap:=(s.heap.push PK).push (Qb C s.heap.objs.size) }) :
  Sd (Os prog w) A (.call (.ref C) ⟨vs,kw⟩) R s:=by
 obtain⟨hh,g,d,t,os⟩:=s;exact PySem.W.make_core (PySem.W.makes_of X hm) (Pf X hi) (fun self=>VO X self hf) (.inl rfl) h
end
def c9(f:Str)(v:V):List (Str×V)->List (Str×V)
 |[]=>[(f,v)]
 |(g,x)::r=>if g=f then (g,v)::r else (g,x)::c9 f v r
theorem zta(f g:Str)(v:V):∀fs:List (Str×V),(c9 f v fs).lookup g=if g=f then some v else fs.lookup g
 |[]=>by
  show Qh g [(f,v)]=_
  by_cases h:g=f
  .have hb:(g == f)=true:=beq_iff_eq.mpr h
   simp only[Qh,hb,if_pos h]
  .have hb:(g == f)=false:=beq_eq_false_iff_ne.mpr h
   simp only[Qh,hb,if_neg h]
 |(k,x)::r=>by
  have ih:=zta f g v r;rw[show c9 f v ((k,x)::r)=(if k=f then (k,v)::r else (k,x)::c9 f v r) from rfl]
  by_cases hk:k=f
  .rw[if_pos hk]
   by_cases h:g=k
   .have hb:(g == k)=true:=beq_iff_eq.mpr h
    simp only[Qh,hb,if_pos (h.trans hk)]
   .have hb:(g == k)=false:=beq_eq_false_iff_ne.mpr h
    simp only[Qh,hb,if_neg (fun e:g=f=>h (e.trans hk.symm))]
  .rw[if_neg hk]
   by_cases h:g=k
   .have hb:(g == k)=true:=beq_iff_eq.mpr h
    simp only[Qh,hb,if_neg (fun e:g=f=>hk (h.symm.trans e))]
   .have hb:(g == k)=false:=beq_eq_false_iff_ne.mpr h
    simp only[Qh,hb];exact ih
theorem pJ(f:Str)(v:V):∀fs:List (Str×V),f∈(c9 f v fs).map (·.1)/\∀g,g∈fs.map (·.1)->g∈(c9 f v fs).map (·.1)
 |[]=>⟨by simp[c9],fun g h=>by simp at h⟩
 |(k,x)::r=>by
  obtain⟨i1,i2⟩:=pJ f v r;rw[show c9 f v ((k,x)::r)=(if k=f then (k,v)::r else (k,x)::c9 f v r) from rfl]
  by_cases hk:k=f
  .rw[if_pos hk]
   subst hk;exact⟨by simp,fun g h=>by simpa using h⟩
  .rw[if_neg hk]
   refine⟨?_,fun g h=>?_⟩
   .rw[OJ]
    exact NV _ i1
   .rw[OJ] at h ⊢
    rcases N4.mp h with e|e
    .exact N4.mpr (.inl e)
    .exact NV _ (i2 g e)
theorem ztb(f:Str)(v:V):∀fs:List (Str×V),(c9 f v fs).length<=fs.length+1
 |[]=>by simp[c9]
 |(k,x)::r=>by
  have ih:=ztb f v r;rw[show c9 f v ((k,x)::r)=(if k=f then (k,v)::r else (k,x)::c9 f v r) from rfl]
  by_cases hk:k=f
  .rw[if_pos hk,Oo,Oo];omega
  .rw[if_neg hk,Oo,Oo];omega
theorem YY.some_of{v:V}{o:Option NO}(r:YY (some v) o):∃u,o=some u/\RelV v u:=by
 cases o with
 |none=>exact(r).elim
 |some u=>exact⟨u,rfl,r⟩
theorem YY.none_of(r:YY none o):o=none:=by
 cases o with
 |none=>rfl
 |some u=>exact(show False from r).elim
theorem ztc(r:RelV v u):SS u=true:=by
 cases v with
 |non=>cases (show u=PH from r);rfl
 |bl b=>cases (show u=S9 b from r);rfl
 |int i=>obtain⟨t,e⟩:=(show ∃t,u=Vn i t from r);cases e;rfl
 |str x=>obtain⟨t,e⟩:=(show ∃t,u=Sg x t from r);cases e;rfl
 |byt b=>obtain⟨t,e⟩:=(show ∃t,u=Xc b t from r);cases e;rfl
 |flt b=>obtain⟨t,e⟩:=(show ∃t,u=VF b t from r);cases e;rfl
 |ref a=>cases (show u=Ol a from r);rfl
 |ty n=>cases (show u=RK n from r);rfl
section
variable {P:NU}{w:N8}{H H':Hp}{h h':Heap}{a C dx:Addr}{fs B0:List (Str×V)}
theorem mW(hok:YR P w H h)(e:H a=some (.ins C dx fs)):∃mA,z9 h a dx C mA/\(∀f,YY (fs.lookup f) (mA f))/\U0 mA (fs.map (·.1))/\fs.length<=1000/\H dx=some (.own a):=by
 obtain⟨d,z,ne,ob,mA,n,r,q⟩:=(hok a _ e);exact⟨mA,⟨ob,n,ne⟩,r,q,z,d⟩
end
structure zS(K:Frag)(C:Addr):Prop where
 pg:Q7 K C WR=true
 hd:P7 K C=true
 po:SD K C=true
 sa:Og K (.ref C) "__setattr__"=some (some (.builtin "object.__setattr__"))
theorem zS.get{K:Frag}{C:Addr}(c:zS K C)(f:Str):Q7 K C f=true:=c.pg
def Yz(K:Frag)(C:Addr)(f:Str):Prop:=Og K (.ref C) f=some none
theorem Yz.taker{K:Frag}{C:Addr}{f:Str}(n:Yz K C f):Tv K C f=some none:=by
 unfold Tv;rw[show Og K (.ref C) f=some none from n];rfl
structure Con(K:Frag)(C:Addr)(f:Str)(v:V)(u:NO):Prop where
 at_:Og K (.ref C) f=some (some u)
 rel:RelV v u
 get:QX K u "__get__"=some none
 cp:PySem.W.copiedNames.contains f=false
structure AW(K:Frag)(C:Addr)(m:Str)(f:Addr):Prop where
 at_:Og K (.ref C) m=some (some (.ref f))
 fn:Qz K (.ref f)=true
 kp:OT K (.ref f)=true
section
variable {X:Cx}{pins:List (Addr×Obj)}{σ:St}{H:Hp}{s:NP}{a C dx:Addr}{fs:List (Str×V)}{f:Str}{v:V}{A:OF}{E:NO->NP->Prop}
theorem zbw(I:Inv X pins σ H s)(e:H a=some (.ins C dx fs))(c:zS X.K C)(n:Yz X.K C f)(l:fs.lookup f=some v)
  (h:∀u s',Inv X pins σ H s'->RelV v u->Q u s'):Oy (Os X.prog X.w) A (VZ (.ref a) f b) Q E s:=by
 obtain⟨mA,O,r,_,_,_⟩:=mW I.hok e;obtain⟨u,hu,ru⟩:=YY.some_of (v:=v) (o:=mA f) (by rw[←l];exact r f);exact get_map I.kIn O (c.get f) c.hd n hu (ztc ru) (h u _ (I.tok _) ru)
theorem ztd(I:Inv X pins σ H s)(e:H a=some (.ins C dx fs))(c:zS X.K C)(k:AW X.K C m g)(l:fs.lookup m=none)
  (h:Q (.ref g,[.ref a]) s):Oy (Os X.prog X.w) A (QU (.ref a) m pl) Q E s:=by
 obtain⟨mA,O,r,_,_,_⟩:=mW I.hok e;have hn:mA m=none:=YY.none_of (by rw[←l];exact r m);exact zbt I.kIn O (c.get m) k.at_ k.fn hn h
theorem zbx(I:Inv X pins σ H s)(e:H a=some (.ins C dx fs))(c:zS X.K C)(n:Yz X.K C f)(hl:fs.length<1000)(ry:RelV y u)
  (h:∀s',Inv X pins σ (upd H a (.ins C dx (c9 f y fs))) s'->Q () s'):Oy (Os X.prog X.w) A (WZ (.ref a) f u) Q E s:=by
 obtain⟨mA,O,r,wi,_,ho⟩:=mW I.hok e
 have hz:(fs.map (·.1)).length<=sizeLine:=by rw[OY,Ua];omega
 refine zbu I.kIn O c.sa c.po n.taker c.hd wi hz fun h' O' sb=>h _ ?_
 have hd:∃o,h'.get? dx=some o:=let ⟨o,_,_,e',_⟩:=O'.ns;⟨o,e'⟩
 refine I.write (x:=a) (e:=dx) (by rw[e];exact PL) (.inr ho) (fun b q hb z=>(sb.2 b hb).trans z) hd ?_;refine⟨by rw[aX O.ne];exact ho,?_,O.ne,O'.obj,_,O'.ns,fun g=>?_,fun g hg=>?_⟩
 .have:=ztb f y fs;omega
 .show YY ((c9 f y fs).lookup g) (if g=f then some u else mA g)
  rw[zta]
  by_cases q:g=f
  .rw[if_pos q,if_pos q];exact ry
  .rw[if_neg q,if_neg q];exact r g
 .by_cases q:g=f
  .rw[q];exact(pJ f y fs).1
  .refine(pJ f y fs).2 g (wi g fun z=>hg ?_)
   show (if g=f then some u else mA g)=none;rw[if_neg q];exact z
theorem Inv.made(I:Inv X pins σ H s):Inv X pins σ (upd (upd H s.heap.objs.size (.own (s.heap.objs.size+1))) (s.heap.objs.size+1) (.ins C s.heap.objs.size []))
  { s with heap:=(s.heap.push PK).push (Qb C s.heap.objs.size) }:=by
 have e1:(s.heap.push PK).get? s.heap.objs.size=some PySem.W.emptyDict:=Ox s.heap rfl
 have e2:((s.heap.push PK).push (Qb C s.heap.objs.size)).get? (s.heap.objs.size+1)=some (Qb C s.heap.objs.size):=by
  have:=Ox (s.heap.push PK) (o:=Qb C s.heap.objs.size) rfl
  rwa [PM] at this
 have e3:(s.heap.push PK).Ns s.heap.objs.size (fun _=>none):=⟨PK,#[],_,e1,rfl,(fun e he=>absurd he (by simp)),fun _=>rfl⟩;have I1:=I.laid (a:=s.heap.objs.size) (o:=.own (s.heap.objs.size+1)) (h':=s.heap.push PK) (t':=s.toks) (fun b u q=>NQ _ q) (Of _) ⟨_,e1⟩;refine I1.laid (a:=s.heap.objs.size+1) (o:=.ins C s.heap.objs.size []) (t':=s.toks) (fun b u q=>NQ _ q) (W0 (PM _ _)) ?_;have ne:s.heap.objs.size≠s.heap.objs.size+1:=Ot (RN _);refine⟨by rw[aX ne,bu],QK _,ne,e2,fun _=>none,(U3 e3).at fun o q=>NQ _ q,fun _=>PL,fun y hy=>absurd rfl hy⟩
theorem zte(hb:Pj e f env (eval e env)=eval e env)
  (h:Oy (Os prog w) A (eval e env) (fun o s₁=>Oy (Os prog w) A (VZ o f true) Q E s₁) E s):Oy (Os prog w) A (eval (.Attribute e f pos) env) Q E s:=Attribute_any_ h (by rw[arm_eval_Attribute,hb])
end
def JG(K:Frag)(ta:TE)(f:Str):TE:=fun σ H Q=>ta σ H fun x H1=>∃a C dx fs v,x=.ref a/\H1 a=some (.ins C dx fs)/\zS K C/\Yz K C f/\fs.lookup f=some v/\Q v H1
def JJ(K:Frag)(ta tv:TE)(f:Str):TS:=fun D σ H=>tv σ H fun y H1=>ta σ H1 fun x H2=>∃a C dx fs,x=.ref a/\H2 a=some (.ins C dx fs)/\zS K C/\Yz K C f/\fs.length<1000 /\
 D.nx σ (upd H2 a (.ins C dx (c9 f y fs)))
section
variable {X:Cx}{o e value:Expr}{f:Str}{pos pos' Yl:Pos}{ta tv:TE}{pins:List (Addr×Obj)}{σ:St}{H:Hp}{s:NP}{A:OF}{E Q:NO->NP->Prop}{c:NO}{b:Bool}
theorem zby(he:PE X e ta)(hb:Pj e f X.env (eval e X.env)=eval e X.env):PE X (.Attribute e f pos) (JG X.K ta f):=by
 intro pins s σ H Q I h;refine zte hb (Ya (he pins s σ H _ I h) fun u s1 ⟨x,H1,I1,rx,a,C,dx,fs,v,ex,ea,c,n,l,q⟩=>?_);subst ex;obtain rfl:u=Ol a:=rx;exact zbw I1 ea c n l fun u' s2 I2 ru=>⟨v,H1,I2,ru,q⟩
theorem zbz(ha:PE X o ta)(hv:PE X value tv)(hs:Pi value (some (.Attribute o f pos')) pos.line X.env=pure false):PS X (.Assign [.Attribute o f pos'] value pos) (JJ X.K ta tv f):=by
 intro pins s σ H D I h;refine RI (Ya (hv pins s σ H _ I h) fun u s1 ⟨y,H1,I1,ry,q⟩=>Ya (ha pins s1 σ H1 _ I1 q) fun ov s2 ⟨x,H2,I2,rx,a,C,dx,fs,ex,ea,c,n,l,q2⟩=>?_) hs;subst ex;obtain rfl:ov=Ol a:=rx;exact zbx I2 ea c n l ry fun s3 I3=>⟨σ,_,I3,q2⟩
inductive Z2(K:Frag)(H:Hp):V->NO->Prop where
 |non:Z2 K H .non (.type "NoneType")
 |bl (x:Bool):Z2 K H (.bl x) (.type "bool")
 |int (i:Int):Z2 K H (.int i) (.type "int")
 |str (x:Str):Z2 K H (.str x) (.type "str")
 |flt (x:UInt64):Z2 K H (.flt x) (.type "float")
 |lst {a:Addr}{xs:List V} (e:H a=some (.lst xs)):Z2 K H (.ref a) (.type "list")
 |frz {a:Addr}{o:Obj}{xs:List V} (e:H a=some (.frz o (.lst xs))):Z2 K H (.ref a) (.type "list")
 |tup {a:Addr}{xs:List V} (e:H a=some (.tup xs)):Z2 K H (.ref a) (.type "tuple")
 |dK {a:Addr}{kvs:List (Key×V)} (e:H a=some (.dK kvs)):Z2 K H (.ref a) (.type "dict")
 |dT {a:Addr}{kvs:List (List Key×V)} (e:H a=some (.dT kvs)):Z2 K H (.ref a) (.type "dict")
 |ins {a C dx:Addr}{fs:List (Str×V)} (e:H a=some (.ins C dx fs)) (cl:zS K C) (ha:Og K (.ref C) "__class__"=some (some (.builtin "object.__class__")))
   (hn:QX K (.builtin "object.__class__") "__get__"=some (some (.builtin "getset_descriptor.__get__"))) (htk:R5 K (.builtin "object.__class__")=some true)
   (hm:Qi K C (.type "object")=some true):Z2 K H (.ref a) (.ref C)
theorem me(I:Inv X pins σ H s)(rx:RelV x u)(ty:Z2 X.K H x t)(e:Pc X.K t c=some b)(h:∀tk,Q (.bool b) { s with toks:=tk }) :
  Oy (Os X.prog X.w) A (call (.builtin "isinstance") [u,c]) Q E s:=by
 cases ty with
 |non=>cases (show u=PH from rx);exact OW U4 I.kIn PL e (fun z=>nomatch z) h
 |bl y=>cases (show u=S9 y from rx);exact OW U5 I.kIn PL e (fun z=>nomatch z) h
 |int i=>obtain⟨t,q⟩:=(show ∃t,u=Vn i t from rx);cases q;exact OW Vu I.kIn PL e (fun z=>nomatch z) h
 |str y=>obtain⟨t,q⟩:=(show ∃t,u=Sg y t from rx);cases q;exact OW Vv I.kIn PL e (fun z=>nomatch z) h
 |flt y=>obtain⟨t,q⟩:=(show ∃t,u=VF y t from rx);cases q;exact OW PySem.W.kitx_float I.kIn PL e (fun z=>nomatch z) h
 |@lst a xs ea=>
  cases (show u=Ol a from rx);obtain⟨_,_,n,_,h1⟩:=(show X7 X.prog X.w H s.heap a (.lst xs) from I.hok a _ ea);exact OW Rx I.kIn ⟨_,h1,rfl⟩ e (fun z=>nomatch z) h
 |@frz a ob xs ea=>
  cases (show u=Ol a from rx);obtain⟨_,_,_,n,_,h1⟩:=(show X7 X.prog X.w H s.heap a (.frz ob (.lst xs)) from I.hok a _ ea);exact OW Rx I.kIn ⟨_,h1,rfl⟩ e (fun z=>nomatch z) h
 |@tup a xs ea=>
  cases (show u=Ol a from rx);obtain⟨_,_,_,p⟩:=(show X7 X.prog X.w H s.heap a (.tup xs) from I.hok a _ ea);obtain⟨o,h1,h2,_⟩:=p;exact OW So I.kIn ⟨o,h1,h2⟩ e (fun z=>nomatch z) h
 |@dK a kvs ea=>
  cases (show u=Ol a from rx);obtain⟨_,_,vs,_,p⟩:=(show X7 X.prog X.w H s.heap a (.dK kvs) from I.hok a _ ea);obtain⟨o,es,ep,h1,h2,_⟩:=p;exact OW Ry I.kIn ⟨o,h1,h2.1⟩ e (fun z=>nomatch z) h
 |@dT a kvs ea=>
  cases (show u=Ol a from rx);obtain⟨_,_,xs,_,o,es,ep,h1,h2,_⟩:=(show X7 X.prog X.w H s.heap a (.dT kvs) from I.hok a _ ea);exact OW Ry I.kIn ⟨o,h1,h2.1⟩ e (fun z=>nomatch z) h
 |@ins a C dx fs ea cl ha hn htk hm=>
  cases (show u=Ol a from rx);obtain⟨mA,O,_⟩:=mW I.hok ea;obtain⟨od,J,_⟩:=O.look;exact OW (PySem.W.kitx_own (cl.get _) cl.hd ha hn htk hm) I.kIn J e (fun z=>nomatch z) h
end
structure X0(k:Nat)(A:OF):Prop where
 hd:A.handled=none
 dp:A.depth+3*k+5<recursionLimit
 un:A.units+16*k+200<cLine
 gd:A.guards=some []
theorem X0.mono(r:X0 k A)(h:j<=k):X0 j A:=⟨r.hd,by have:=r.dp;omega,by have:=r.un;omega,r.gd⟩
theorem X0.deeper(r:X0 (k+1) A)(env:Env):X0 k (A.deeper env):=⟨r.hd,by have:=r.dp;show A.depth+1+3*k+5<_;omega,by have:=r.un;simp_all;omega,r.gd⟩
theorem zca{A:OF}:(A.under (.builtin "type.__call__" ⟨.ref C::us,kw⟩)).depth=A.depth+1:=by first|rfl|simp[Tb,Code.weight,Code.isCreation,W1,Code.isCaller,Xe,U6,guardIds]
theorem zcb{A:OF}:(A.under (.builtin "type.__call__" ⟨.ref C::us,kw⟩)).units=A.units+1:=by first|rfl|simp[Tb,Code.cUnits,Xe,U6]
theorem X0.make(r:X0 (k+1) A)(C:Addr)(us:List NO)(kw:List (Str×NO)):X0 k (A.under (.builtin "type.__call__" ⟨.ref C::us,kw⟩)):=⟨r.hd,by have:=r.dp;rw[zca];omega,by have:=r.un;rw[zcb];omega,by first|exact r.gd|(simpa[Tb,W1,guardIds] using r.gd)⟩
theorem X0.depth(r:X0 k A):A.depth<recursionLimit:=by have:=r.dp;omega
def kb:TA:=fun _ H Q=>Q [] H
def jY(ta:TE)(tr:TA):TA:=fun σ H Q=>ta σ H fun x H1=>tr σ H1 fun xs H2=>Q (x::xs) H2
section
variable {X:Cx}{e:Expr}{es:List Expr}{te:TE}{t:TA}{pos:Pos}
theorem bR:PA X [] kb:=fun _ _ _ _ H Q I h=>Calls.spliced_nil ⟨[],H,I,.nil,h⟩
theorem bf(ha:PE X e te)(hr:PA X es t)(hs:NR (e::es) X.env=(false,eval e X.env)::NR es X.env:=by rfl):PA X (e::es) (jY te t):=by
 intro pos pins s σ H Q I h;rw[hs];refine UP (Ya (ha pins s σ H _ I h) fun u s1 ⟨x,H1,I1,r1,q1⟩=>?_);exact Ya (hr pos pins s1 σ H1 _ I1 q1) fun us s2 ⟨xs,H2,I2,r2,q2⟩=>⟨x::xs,H2,I2,.cons r1 r2,q2⟩
def Jz(t:TA):TE:=fun σ H Q=>t σ H fun xs H1=>xs.length<=NX/\∀p,H1 p=none->Q (.ref p) (upd H1 p (.tup xs))
def JD(t:TA):TE:=fun σ H Q=>t σ H fun xs H1=>xs.length<=NX/\∀p,H1 p=none->Q (.ref p) (upd H1 p (.lst xs))
theorem nG{x1}(h:PA X es t):PE X (.Tuple es x1 pos) (Jz t):=by
 intro pins s σ H Q I hq;refine wpAny_Tuple_spliced (Ya (h pos pins s σ H _ I hq) fun us s1 ⟨xs,H1,I1,r,z,q⟩=>⟨by rw[←r.length];exact z,?_⟩);have hf:=I1.hok.fresh (Of _);refine⟨.ref _,upd H1 _ _,I1.laid  (fun b u e=>NQ _ e) (Of _) ?_,rfl,q _ hf⟩;exact⟨z,us,r,⟨_,Ox _ rfl,rfl,_,rfl⟩⟩
theorem lg(h:PA X es t):PE X (.List es pos) (JD t):=by
 intro pins s σ H Q I hq;refine UQ (Ya (h pos pins s σ H _ I hq) fun us s1 ⟨xs,H1,I1,r,z,q⟩=>⟨by rw[←r.length];exact z,?_⟩);have hf:=I1.hok.fresh (Of _);refine⟨.ref _,upd H1 _ _,I1.laid  (fun b u e=>NQ _ e) (Of _) ?_,rfl,q _ hf⟩;exact⟨z,us,0,r,Ox _ rfl⟩
end
abbrev Sp:=List V->Hp->VK->XK->Prop
abbrev CF:=List Env->Hp->NP->XK->NO->NP->Prop
structure BX(P:NU)(w:N8)(K:Frag)(mg:Str->Option NO)(base:Heap)(A:OF)(outer:List Env)(s:NP)(H:Hp):Prop where
 frames:A.frames=some outer
 mod:Mod K mg base
 bs:∀b o,base.get? b=some o->s.heap.get? b=some o/\H b=none
 bsz:base.objs.size<=s.heap.objs.size
 funs:s.heap.FunFrames base outer
 frf:∀b∈frs outer,H b=none
 hok:YR P w H s.heap
 bare:Sb s.gens
def CE(outer:List Env)(P:NU)(w:N8)(H:Hp)(s:NP)(Q:VK)(u:NO)(s':NP):Prop:=∃v H',s'.os=s.os/\Sb s'.gens/\Un (frs outer) [] H H' s.heap s'.heap/\YR P w H' s'.heap/\RelV v u/\Q v H'
def CR(CX:CF)(outer:List Env)(P:NU)(w:N8)(H:Hp)(s:NP)(Q:VK)(E:XK)(r:Vt)(s':NP):Prop:=
 match r with
 |.ok (.ret u)=>CE outer P w H s Q u s'
 |.ok _=>False
 |.error e=>CX outer H s E e s'
structure Xz(P:NU)(w:N8)(K:Frag)(mg:Str->Option NO)(base:Heap)(CX:CF)(k:Nat)(f:Addr)(fd:Oe)(ps:List Str)(sp:Sp):Prop where
 len:∀vs H Q E,sp vs H Q E->vs.length=ps.length
 run:∀(A:OF) (outer:List Env) (s:NP) (H:Hp) (args:Args) (us:List NO) (vs:List V) (Q:VK) (E:XK),X0 k A->BX P w K mg base A outer s H->Ur s fd args (ps.zip us)->XC vs us->sp vs H Q E ->
  Sd (Os P w) A (.call (.ref f) args) (CR CX outer P w H s Q E) s
theorem BX.make{P:NU}{w:N8}{K:Frag}{mg:Str->Option NO}{base:Heap}{A:OF}{outer:List Env}{s:NP}{H:Hp}(e:BX P w K mg base A outer s H)(C:Addr)(us:List NO)(kw:List (Str×NO)) :
  BX P w K mg base (A.under (.builtin "type.__call__" ⟨.ref C::us,kw⟩)) outer s H:=⟨by first|exact e.frames|(simpa[Tb,Code.envs,U6,pushEnvs] using e.frames),e.mod,e.bs,e.bsz,e.funs,e.frf,e.hok,e.bare⟩
section
variable {X:Cx}{pins:List (Addr×Obj)}{σ:St}{H:Hp}{s s':NP}
theorem Inv.env0(I:Inv X pins σ H s):BX X.prog X.w X.K X.mg X.base X.A X.stack s H:=⟨I.ok.frames,I.ok.mod,I.bs,Oc I.ok.bsz I.sz,I.stack,I.stkFree,I.hok,I.bare⟩
theorem Inv.after(I:Inv X pins σ H s)(h:CE X.stack X.prog X.w H s Q u s'):EP X pins σ Q u s':=by
 obtain⟨v,H',os,bare,un,hok,r,q⟩:=h;obtain⟨hh,g,d,t,os'⟩:=s';obtain rfl:os'=s.os:=os;exact⟨v,H',I.call      un hok bare (fun b z=>absurd z (by simp)),r,q⟩
end
def rF(sp:Sp)(Iy:List V)(E:XK)(t:TA):TE:=fun σ H Q=>t σ H fun vs H1=>sp (vs++Iy) H1 Q E
def n9(C:Addr)(m:Str)(sp:Sp)(Iy:List V)(E:XK)(ta:TE)(t:TA):TE:=fun σ H Q=>ta σ H fun x H1=>∃a dx fs,x=.ref a/\H1 a=some (.ins C dx fs)/\fs.lookup m=none /\
 t σ H1 fun vs H2=>sp (x::(vs++Iy)) H2 Q E
def HZ(C:Addr)(sp:Sp)(Iy:List V)(E:XK)(t:TA):TE:=fun σ H Q=>t σ H fun vs H1=>∀x dx,H1 x=none->H1 dx=none->dx≠x ->
 sp (.ref x::(vs++Iy)) (upd (upd H1 dx (.own x)) x (.ins C dx [])) (fun v H2=>v=.non/\Q (.ref x) H2) E
def Binds(K:Frag)(fd:Oe)(ps:List Str)(ds:List NO):Prop:=∀(s:NP) (us:List NO),K.In s.heap->(us++ds).length=ps.length->Ur s fd ⟨us,[]⟩ (ps.zip (us++ds))
theorem Binds.all{K:Frag}{fd:Oe}{ps:List Str}(h:∀us:List NO,us.length=ps.length->Sq fd ⟨us,[]⟩=pure (ps.zip us)):Binds K fd ps []:=fun s us _ hl=>by
 rw[Pb] at hl ⊢;exact .of_eq (h us hl)
def eK(CX:CF)(X:Cx)(E:XK):Prop:=∀(pins:List (Addr×Obj)) (σ:St) (H:Hp) (s:NP) (e:NO) (s':NP),Inv X pins σ H s->CX X.stack H s E e s'->X.xe e s'
section
variable {X:Cx}{CX:CF}{k:Nat}{f C:Addr}{fd:Oe}{ps:List Str}{sp:Sp}{Iy:List V}{ds:List NO}{E:XK}{x m:Str}{p pos apos:Pos}{e o:Expr}{es:List Expr}{ta:TE}{t:TA}{ks:List Str}{kpos:Pos}{kws:List PD}{te:TE}{tk:TA}{nm:Option Str}
theorem qV(F:Xz X.prog X.w X.K X.mg X.base CX k f fd ps sp)(hr:X0 k X.A)(hb:Binds X.K fd ps ds)(hd:XC Iy ds)(hx:eK CX X E)
  (I:Inv X pins σ H s) (r:XC vs us) (h:sp (vs++Iy) H Q E):Oy (Os X.prog X.w) X.A (call (.ref f) us) (EP X pins σ Q) X.xe s:=by
 have r2:=r.append hd
 have hl:(us++ds).length=ps.length:=by rw[←r2.length];exact F.len _ _ _ _ h
 refine RO (Q8 (F.run X.A _ s H _ _ _ Q E hr I.env0 (hb s us I.kIn hl) r2 h) fun r s' hq=>?_)
 cases r with
 |error e=>exact hx pins σ H s e s' I hq
 |ok fl=>
  cases fl with
  |ret u=>exact I.after hq
  |next=>exact ON hq
  |brk=>exact ON hq
  |cont=>exact ON hq
theorem ztf(F:Xz X.prog X.w X.K X.mg X.base CX k f fd ps sp)(hr:X0 k X.A)(hg:Gl X x)(hm:X.mg x=some (.ref f))(hk:OT X.K (.ref f)=true)(hb:Binds X.K fd ps ds)(hd:XC Iy ds)(hx:eK CX X E)
  (ha:PA X (e::es) t) (YN:(x == ("__debug__" : Str))=false:=by decide) (he:NR (e::es) X.env=(false,eval e X.env)::NR es X.env:=by rfl) (Yo:(OO pos (NR es X.env)).any (·.1)=false:=by rfl) :
  PE X (.Call (.Name x p) (e::es) [] pos) (rF sp Iy E t):=by
 intro pins s σ H Q I h;refine PY (gM I hg hm ?_ YN);refine Qo  I.ok.mod.kin hk (Ya (ha pos pins s σ H _ I h) fun us s1 ⟨vs,H1,I1,r,q⟩=>⟨I1.kIn,?_⟩) he Yo;exact qV F hr hb hd hx I1 r q
theorem ztg(he:PE X o ta)(c:zS X.K C)(hm:AW X.K C m f)(F:Xz X.prog X.w X.K X.mg X.base CX k f fd ps sp)(hr:X0 k X.A)(hb:Binds X.K fd ps ds)(hd:XC Iy ds)(hx:eK CX X E)(ha:PA X (e::es) t)
  (GD:NR (e::es) X.env=(false,eval e X.env)::NR es X.env:=by rfl) (Yo:(OO pos (NR es X.env)).any (·.1)=false:=by rfl)
  (ht:eval (.Call (.Attribute o m apos) (e::es) [] pos) X.env=(do
   let ov ←eval o X.env
   Ru apos.atName
   let (f,first) ←QL [ov] (QU ov m pl)
   SU pos f first (OO pos (NR (e::es) X.env)) (PX pos (O8 [] X.env))):=by rfl) :
  PE X (.Call (.Attribute o m apos) (e::es) [] pos) (n9 C m sp Iy E ta t):=by
 intro pins s σ H Q I h;refine RJ (pl:=pl) (Ya (he pins s σ H _ I h) fun u s1 ⟨x,H1,I1,rx,a,dx,fs,ex,ea,l,q⟩=>?_) ht;subst ex;obtain rfl:u=Ol a:=rx;refine ztd I1 ea c hm l ?_;refine Qo (first:=[.ref a]) (h₀:=X.base) I.ok.mod.kin hm.kp (Ya (ha pos pins s1 σ H1 _ I1 q) fun us s2 ⟨vs,H2,I2,r,q2⟩=>⟨I2.kIn,?_⟩) GD Yo;exact qV (us:=.ref a::us) (vs:=.ref a::vs) F hr hb hd hx I2 (.cons rfl r) q2
theorem zth(he:PE X o ta)(c:zS X.K C)(hm:AW X.K C m f)(F:Xz X.prog X.w X.K X.mg X.base CX k f fd ps sp)(hr:X0 k X.A)(hb:Binds X.K fd ps ds)(hd:XC Iy ds)(hx:eK CX X E)
  (ht:eval (.Call (.Attribute o m apos) [] [] pos) X.env=(do
   let ov ←eval o X.env
   Ru apos.atName
   let (f,first) ←QL [ov] (QU ov m pl)
   SU pos f first (OO pos (NR [] X.env)) (PX pos (O8 [] X.env))):=by rfl) :
  PE X (.Call (.Attribute o m apos) [] [] pos) (n9 C m sp Iy E ta kb):=by
 intro pins s σ H Q I h;refine RJ (pl:=pl) (Ya (he pins s σ H _ I h) fun u s1 ⟨x,H1,I1,rx,a,dx,fs,ex,ea,l,q⟩=>?_) ht;subst ex;obtain rfl:u=Ol a:=rx;refine ztd I1 ea c hm l ?_;exact PySem.W.callWith_K0 (first:=[.ref a]) I1.kIn hm.kp (qV (us:=[.ref a]) (vs:=[.ref a]) F hr hb hd hx I1 (.cons rfl .nil) q)
structure Mk(K:Frag)(C f:Addr):Prop where
 makes:Tw K C=true
 init:Og K (.ref C) "__init__"=some (some (.ref f))
 fn:Qz K (.ref f)=true
 kp:OT K (.ref C)=true
theorem zcc(M:Mk X.K C f)(F:Xz X.prog X.w X.K X.mg X.base CX k f fd ps sp)(hr:X0 (k+1) X.A)(hb:Binds X.K fd ps ds)(hd:XC Iy ds)
  (hx:eK CX X E) (I:Inv X pins σ H s) (r:XC vs us)
  (h:∀x dx,H x=none->H dx=none->dx≠x->sp (.ref x::(vs++Iy)) (upd (upd H dx (.own x)) x (.ins C dx [])) (fun v H2=>v=.non/\Q (.ref x) H2) E) :
  Oy (Os X.prog X.w) X.A (call (.ref C) us) (EP X pins σ Q) X.xe s:=by
 have hq:=h (s.heap.objs.size+1) s.heap.objs.size (I.hok.fresh (VG _)) (I.hok.fresh (Of _)) (Ot (RN _));have I2:=Inv.made (C:=C) I;have r2:XC (V.ref (s.heap.objs.size+1)::(vs++Iy)) (Ol (s.heap.objs.size+1)::(us++ds)):=.cons rfl (r.append hd)
 have hl:(Ol (s.heap.objs.size+1)::us++ds).length=ps.length:=by
  have e:=r2.length;rw[F.len _ _ _ _ hq] at e;exact e.symm
 refine RO (zbv (f:=f) I.kIn M.makes M.init (beq_iff_eq.mp M.fn) (Q8 (F.run _ X.stack _ _ ⟨Ol (s.heap.objs.size+1)::us,[]⟩ (Ol (s.heap.objs.size+1)::(us++ds)) _ _ E (hr.make C us [])
  (I2.env0.make C us []) (hb _ (Ol (s.heap.objs.size+1)::us) I2.kIn hl) r2 hq) fun r s' hq'=>?_))
 cases r with
 |error e=>exact hx pins σ _ _ e s' I2 hq'
 |ok fl=>
  cases fl with
  |ret u=>
   obtain⟨v,H',I3,rv,ev,q3⟩:=I2.after hq';subst ev;exact⟨rv,⟨V.ref (s.heap.objs.size+1),H',I3,rfl,q3⟩⟩
  |next=>exact ON hq'
  |brk=>exact ON hq'
  |cont=>exact ON hq'
theorem zti(M:Mk X.K C f)(F:Xz X.prog X.w X.K X.mg X.base CX k f fd ps sp)(hr:X0 (k+1) X.A)(hg:Gl X x)(hm:X.mg x=some (.ref C))(hb:Binds X.K fd ps ds)(hd:XC Iy ds)(hx:eK CX X E)
  (ha:PA X (e::es) t) (YN:(x == ("__debug__" : Str))=false:=by decide) (he:NR (e::es) X.env=(false,eval e X.env)::NR es X.env:=by rfl) (Yo:(OO pos (NR es X.env)).any (·.1)=false:=by rfl) :
  PE X (.Call (.Name x p) (e::es) [] pos) (HZ C sp Iy E t):=by
 intro pins s σ H Q I h;refine PY (gM I hg hm ?_ YN);refine Qo (h₀:=X.base) I.ok.mod.kin M.kp (Ya (ha pos pins s σ H _ I h) fun us s1 ⟨vs,H1,I1,r,q⟩=>⟨I1.kIn,?_⟩) he Yo;exact zcc M F hr hb hd hx I1 r q
structure uB(K:Frag)(fd:Oe)(ps ks:List Str)(g:List NO->List NO->List NO)(gV:List V->List V->List V):Prop where
 to:∀(s:NP) (us ws:List NO),K.In s.heap->(g us ws).length=ps.length->Ur s fd ⟨us,ks.zip ws⟩ (ps.zip (g us ws))
 rel:∀{vs:List V}{us:List NO}{zs:List V}{ws:List NO},XC vs us->XC zs ws->XC (gV vs zs) (g us ws)
variable {g:List NO->List NO->List NO}{gV:List V->List V->List V}
end
structure Xw(N P:List Str)(sc:P4):Prop where
 kind:sc.kind=.function
 co:sc.isCoroutine=false
 gen:sc.isGenerator=false
 nd:N.Nodup
 pre:N.take P.length=P
 par:∀x∈P,sc.names.lookup x=some .local\/sc.names.lookup x=some .cell
 nofree:∀y∈sc.names,y.2≠.free
theorem ztj{Tc:Str->Option QH}:∀{binds:List (Str×NO)}{m:Str->Option NO},(∀v,(x,v)∉binds)->WS Tc binds m x=m x
 |[],_,_=>rfl
 |(n,v)::r,m,h=>by
  unfold WS;rw[ztj fun w hw=>h w (NV _ hw)];split
  .have:x≠n:=by rintro rfl;exact h v NZ
   simp[this]
  .rfl
theorem ztk{Tc:Str->Option QH}:∀{binds:List (Str×NO)}{m:Str->Option NO},(∀v,(x,v)∉binds)->WT Tc binds m x=m x
 |[],_,_=>rfl
 |(n,v)::r,m,h=>by
  unfold WT;rw[ztk fun w hw=>h w (NV _ hw)];split
  .rfl
  .have:x≠n:=by rintro rfl;exact h v NZ
   simp[this]
theorem ztl{Tc:Str->Option QH}:∀{P:List Str}{vs:List NO}{i:Nat}{m:Str->Option NO},P.Nodup->P[i]? = some x->vs[i]? = some v->Tc x=some .local ->
  WS Tc (P.zip vs) m x=some v
 |[],_,_,_,_,h,_,_=>by simp at h
 |_::_,[],_,_,_,_,h,_=>by simp at h
 |p::P,w::vs,0,m,nd,h1,h2,hk=>by
  simp at h1 h2;subst h1;subst h2;show WS _ (_::P.zip vs) m p=_;unfold WS;rw[ztj fun v hv=>(QQ.mp nd).1 (Tx hv).1,if_pos hk];simp
 |p::P,w::vs,i+1,m,nd,h1,h2,hk=>by
  unfold WS;exact ztl  (QQ.mp nd).2 (by simpa using h1) (by simpa using h2) hk
theorem ztm{Tc:Str->Option QH}:∀{P:List Str}{vs:List NO}{i:Nat}{m:Str->Option NO},P.Nodup->P[i]? = some x->vs[i]? = some v->Tc x≠some .local ->
  WT Tc (P.zip vs) m x=some v
 |[],_,_,_,_,h,_,_=>by simp at h
 |_::_,[],_,_,_,_,h,_=>by simp at h
 |p::P,w::vs,0,m,nd,h1,h2,hk=>by
  simp at h1 h2;subst h1;subst h2;show WT _ (_::P.zip vs) m p=_;unfold WT;rw[ztk fun v hv=>(QQ.mp nd).1 (Tx hv).1,if_neg hk];simp
 |p::P,w::vs,i+1,m,nd,h1,h2,hk=>by
  unfold WT;exact ztm  (QQ.mp nd).2 (by simpa using h1) (by simpa using h2) hk
def start(N:List Str)(vs:List V):St:=vs.map some++OA (N.length-vs.length) none
def bg(CX:CF)(P:NU)(w:N8)(K:Frag)(mg:Str->Option NO)(base:Heap)(N:List Str)(qual:Str)(scope:P4)(f:Addr)(cd:NO)(A:OF)(outer:List Env)(s:NP)(H:Hp)(E:XK):Cx where
 prog:=P
 w:=w
 K:=K
 mg:=mg
 base:=base
 A:=A.deeper (Pz qual scope s.heap.objs.size f cd)
 N:=N
 s₀:=s
 H₀:=H
 env:=Pz qual scope s.heap.objs.size f cd
 outer:=outer
 stack:=Pz qual scope s.heap.objs.size f cd::outer
 ex:=[]
 calm:=true
 fn:=fun _=>true
 pn:=[]
 xe:=fun e s'=>Oy (Os P w) (A.deeper (Pz qual scope s.heap.objs.size f cd)) (V0 (Pz qual scope s.heap.objs.size f cd) e) (fun _ Ah=>CX outer H s E e Ah) (fun e' Ah=>CX outer H s E e' Ah) s'
theorem ztn{sc:P4}{n:Nat}{x:Str}(h:sc.names.lookup x=some .cell):∃c,(WU n sc.names []).lookup x=some c:=by
 have q:=Td _ n [] (.inl h);exact QD.mp q
theorem zcd{CX:CF}{P:NU}{w:N8}{K:Frag}{mg:Str->Option NO}{base:Heap}{N ps:List Str}{qual:Str}{scope:P4}{f:Addr}{cd:NO}{A:OF}{outer:List Env}{s s1:NP}{H:Hp}{E:XK}{us:List NO}{vs:List V}
  (S:Xw N ps scope) (hd:A.handled=none) (e0:BX P w K mg base A outer s H) (hl:vs.length=ps.length) (r:XC vs us)
  (x:InCallC s s.heap.objs.size (WS (Pz qual scope s.heap.objs.size f cd).kindOf (ps.zip us) fun _=>none) (WU (s.heap.objs.size+1) scope.names []) (WT (Pz qual scope s.heap.objs.size f cd).kindOf (ps.zip us) fun _=>none) s1) :
  Inv (bg CX P w K mg base N qual scope f cd A outer s H E) [] (start N vs) H s1:=by
 have Yo:ps.length<=N.length:=by have:=congrArg SE S.pre;rw[OZ] at this;omega
 obtain⟨h1,tk,rfl,hk⟩:=x.done;have Ig:∀b:Addr,b∉(bg CX P w K mg base N qual scope f cd A outer s H E).ex:=fun b z=>absurd (show b∈([]:List Addr) from z) (by simp)
 refine⟨⟨e0.mod,S.kind,rfl,rfl,Of _,fun y z c h1 h2=>?_,fun y hy=>?_,fun y c _ h=>?_,fun _=>hd,Around.frames_deeper e0.frames,.inr ⟨rfl,rfl⟩,fun b z=>absurd z (Ig b),e0.bs,e0.bsz,fun b _ _=>Ig b,fun b z=>absurd z (Ig b),e0.funs,e0.frf⟩,
  rfl,e0.bare,Un.kept hk,⟨_,x.toInCall.ns,fun i y v h1 h2 h3=>?_⟩,fun y c h=>⟨_,x.cell y c h⟩,e0.hok.fresh (Of _),fun y c h=>?_,fun p hp=>absurd (show p∈([]:List (Addr×Obj)) from hp) (by simp),e0.hok.kept hk,?_⟩
 .exact name_of_addr x.apart (QE h1) (QE h2)
 .rcases hy with hy|hy
  .exact ztn hy
  .exact absurd rfl (S.nofree _ (QE hy))
 .exact Q6 (x.above y c (QE h))
 .have hi:i<vs.length:=by
   unfold start at h2
   by_cases hi:i<vs.length
   .exact hi
   .rw[Po (by simpa using hi)] at h2
    rw[List.getElem?_replicate] at h2
    split at h2 <;> cases h2
  have ha:vs[i]? = some v:=by
   unfold start at h2
   rw[N7 (by simpa using hi),Pt] at h2<;>grind
  obtain⟨u,hu,rv⟩:=r.get ha
  have hp:ps[i]? = some y:=by
   rw[←S.pre,SK (by omega)];exact h1
  have ndP:ps.Nodup:=by rw[←S.pre];exact S.nd.sublist (RA _ _)
  refine⟨u,rv,?_⟩
  rcases S.par y (OC hp) with k|k
  .exact .inl ⟨k,ztl ndP hp hu k⟩
  .obtain⟨c,e⟩:=ztn (n:=s.heap.objs.size+1) k
   refine .inr ⟨.inl k,c,e,?_⟩;have q:=x.cell y c e;rw[ztm ndP hp hu (by show scope.names.lookup y≠_;rw[k];decide)] at q;exact q
 .exact e0.hok.fresh (Q6 (x.above y c (QE h)))
 .unfold start
  show _=N.length;rw[OS,OY,List.length_replicate];omega
theorem zto{CX:CF}{P:NU}{w:N8}{K:Frag}{mg:Str->Option NO}{base:Heap}{k:Nat}{f:Addr}{name qual:Str}{params:Arguments}{body:List Stmt}{scope:P4}{dV kV doc pm XF ct oc:NO}{an od:Option Addr}
  {osl:Array (Option NO)}{N ps:List Str}{sp:Sp} (lk:K.lookup f=some ⟨oc,od,.func (Pa name qual params body scope dV kV doc pm an XF ct),osl⟩) (hcd:QI K XF qual=true) (S:Xw N ps scope)
  (len:∀vs H Q E,sp vs H Q E->vs.length=ps.length)
  (Bk:∀(A:OF) (outer:List Env) (s:NP) (H:Hp) (vs:List V) (Q:VK) (E:XK),X0 k (A.deeper (Pz qual scope s.heap.objs.size f XF))->sp vs H Q E ->
   ∃t,ZZ (bg CX P w K mg base N qual scope f XF A outer s H E) body t/\t { nx:=fun _ H'=>Q .non H',rt:=Q } (start N vs) H) :
  Xz P w K mg base CX (k+1) f (Pa name qual params body scope dV kV doc pm an XF ct) ps sp:=by
 refine⟨len,fun A outer s H args us vs Q E hr e0 hb r Ha=>?_⟩;have hl:=len _ _ _ _ Ha;have KX:=e0.mod.kin.keeps fun b o e=>(e0.bs b o e).1;have lim:=e0.mod.nolimit.keeps fun b o e=>(e0.bs b o e).1
 have JY:∀y∈ps.zip us,scope.names.lookup y.1=some .local\/(scope.names.lookup y.1=some .cell/\((WU (s.heap.objs.size+1) _ []).lookup y.1).isSome=true):=fun⟨n,v⟩ hy=>by
  rcases S.par n (Tx hy).1 with q|q
  .exact .inl q
  .exact .inr ⟨q,Td _ _ _ (.inl q)⟩
 refine codeAny_call_function hr.depth (KX _ _ lk) rfl S.co S.gen rfl (PySem.W.codeRec_of KX hcd) (hb _ _ _ _ ?_);refine wpAny_newFunctionEnv_cells S.kind JY fun env he s1 x=>?_;subst he;refine⟨lim.keeps x.toInCall.keep,codeAny_func ?_⟩;obtain⟨t,ht,hq⟩:=Bk A _ s H vs Q E (hr.deeper _) Ha;have I:Inv (bg CX P w K mg base N qual _ f XF A _ s H E) [] _ H s1:=zcd S hr.hd e0 hl r x;refine O5 (ht [] s1 _ H _ I hq) (fun fl s' hs=>?_) fun e s' hs=>hs
 have fin:∀{σ':St}{H':Hp}{v:V}{u:NO},Inv (bg CX P w K mg base N qual scope f XF A outer s H E) [] σ' H' s'->RelV v u->Q v H'->CE _ P w H s Q u s':=
  fun {σ' H' v u} J rv q=>⟨v,H',J.os,J.bare,J.base,J.hok,rv,q⟩
 cases fl with
 |ret u=>
  obtain⟨v,σ',H',J,rv,q⟩:=hs;exact fin J rv q
 |next=>
  obtain⟨σ',H',J,q⟩:=hs;exact fin (v:=V.non)  J rfl q
 |brk=>
  obtain⟨_,_,_,q⟩:=hs<;>simp_all
 |cont=>
  obtain⟨_,_,_,q⟩:=hs<;>simp_all
section
variable {X:Cx}{x:Str}{p pos:Pos}{e:Expr}{es:List Expr}{t:TA}{id T:String}{r:List V->Hp->VK->Prop}
def Aq(r:List V->Hp->VK->Prop)(t:TA):TE:=fun σ H Q=>t σ H fun vs H1=>r vs H1 Q
theorem jF(hc:Yk X (.builtin id) r)(hg:Gl X x)(hm:X.mg x=none)(hv:P0 x=some (.builtin id))(ha:PA X (e::es) t)(hn:x≠"__name__":=by decide)(YN:(x == ("__debug__" : Str))=false:=by decide)
  (he:NR (e::es) X.env=(false,eval e X.env)::NR es X.env:=by rfl) (Yo:(OO pos (NR es X.env)).any (·.1)=false:=by rfl):PE X (.Call (.Name x p) (e::es) [] pos) (Aq r t):=by
 intro pins s σ H Q I h;refine PY (li I hg hm hv ?_ hn YN);exact Vx (Ya (ha pos pins s σ H _ I h) fun us s1 ⟨vs,H1,I1,r1,q1⟩=>hc pins s1 σ H1 vs us Q I1 r1 q1) he Yo
theorem pH(hc:Yk X (.type T) r)(hg:Gl X x)(hm:X.mg x=none)(hv:P0 x=some (.type T))(ha:PA X (e::es) t)(hn:x≠"__name__":=by decide)(YN:(x == ("__debug__" : Str))=false:=by decide)
  (he:NR (e::es) X.env=(false,eval e X.env)::NR es X.env:=by rfl) (Yo:(OO pos (NR es X.env)).any (·.1)=false:=by rfl):PE X (.Call (.Name x p) (e::es) [] pos) (Aq r t):=by
 intro pins s σ H Q I h;refine PY (li I hg hm hv ?_ hn YN);exact QW (Ya (ha pos pins s σ H _ I h) fun us s1 ⟨vs,H1,I1,r1,q1⟩=>hc pins s1 σ H1 vs us Q I1 r1 q1) he Yo
end
end L2
namespace HT
open PySem PyProof.Rows
section
variable {prog:NU}{w:N8}{A:OF}{E:NO->NP->Prop}{s:NP}
theorem zce(ht:V5 s.heap t vs.toArray)(hb:V5 s.heap b ws.toArray)(hv:vs≠[])
  (h1:ws=[]->Q (.ref t) s) (h2:ws≠[]->Q (.ref s.heap.objs.size) { s with heap:=s.heap.push { cls:=.type "tuple",data:=.seq (vs++ws).toArray } })
  (hsz:vs.length+ws.length<=NX):Oy (Os prog w) A (Pw .Add (.ref t) (.ref b)) Q E s:=by
 obtain⟨⟨cls,dd,data,sl⟩,ho,hc,n,hd⟩:=id ht;obtain⟨⟨Fe,Km,data2,JR⟩,Jq,XW,n2,hd2⟩:=id hb;subst hc hd XW hd2
 have e:vs.toArray++ws.toArray=(vs++ws).toArray:=by simp
 by_cases hw:ws=[]
 .exact Te ⟨_,ho,rfl⟩ ⟨_,Jq,rfl⟩ SW UK RB Ro (Rb _ _)
   (tuple_addW1 t b _ _ n n2 dd Km sl JR (by simpa using hv) (by simp[hw])) ⟨ho,Jq,h1 hw⟩
 .refine Te ⟨_,ho,rfl⟩ ⟨_,Jq,rfl⟩ SW UK RB Ro (Rb _ _)
   (tuple_addW2 t b _ _ n n2 dd Km sl JR (by simpa using hv) (by simp_all) (by omega)) ⟨ho,Jq,?_⟩
  rw[e];exact h2 hw
def Yq(n d:Nat):Option Int->Nat
 |none=>d
 |some v=>if v<0 then (v+(n:Int)).toNat else min v.toNat n
theorem ztp(n d:Nat):Yq n d none=d:=rfl
theorem ztq(n d k:Nat):Yq n d (some (k:Int))=min k n :=rfl
theorem zcf(n d:Nat)(hd:d<=n)(o:Option Int):Yq n d o<=n:=by
 cases o with
 |none=>exact hd
 |some v=>
  show (if v<0 then (v+_).toNat else min _ n)<=n<;>grind
theorem ztr(v:Int)(n d:Nat):(if v<0 then max (v+(n:Int)) 0 else min v (n:Int))=((Yq n d (some v):Nat):Int):=by show _=(((if v<0 then (v+_).toNat else min _ n):Nat):Int)<;>grind
theorem zcg(lo hi:Option Int)(n:Nat):Wx lo hi 1 (n:Int)=(((Yq n 0 lo:Nat):Int),((Yq n n hi:Nat):Int)):=by
 have h1:¬((1:Int)<0):=by omega
 refine Prod.ext ?_ ?_
 .cases lo with
  |none=>rfl
  |some v=>exact ztr v n 0
 .cases hi with
  |none=>rfl
  |some v=>exact ztr v n n
theorem zch(i j:Nat):Sy (i:Int) (j:Int) 1=j-i:=by unfold Sy<;>grind
theorem zts(p:Tf v o)(h:Q o s):Oy (Os prog w) A (VP v) Q E s:=by
 cases p with
 |none=>exact slicePart_none h
 |int i t=>exact slicePart_int h
theorem ztt{sl:Addr}{vl vu:NO}{lo hi:Option Int}{n:Nat}{Q:Int×Int×Nat->NP->Prop}(hs:s.heap.IsSliceOf sl vl vu .none)(pl:Tf vl lo)(pu:Tf vu hi)
  (h:Q (((Yq n 0 lo:Nat):Int),1,Yq n n hi-Yq n 0 lo) s):Oy (Os prog w) A (V9 (.ref sl) (pure (n:Int))) Q E s:=by
 obtain⟨os,Ex,Jy,CL⟩:=id hs;refine NT (NT (Qj Ex CL (x:=vl) rfl (NT (Qj Ex CL (x:=vu) rfl (NT (Qj Ex CL  rfl (Ou ?_)))))));refine NT (slicePart_none ?_);refine NT (zts pl (NT (zts pu (NT (Ou ?_)))))
 simp_all
 rw[zcg lo hi n];rw[zch];exact Ou h
theorem zci(xs:Array NO)(i k:Nat):((OQ k).filterMap fun(m:Nat)=>xs[((i:Int)+(m:Int)*1).toNat]?).toArray=((xs.toList.drop i).take k).toArray:=by
 have e:(fun(m:Nat)=>xs[((i:Int)+(m)*1).toNat]?)=fun m=>xs[i+m]?:=by
  grind
 rw[e];have:=pick_run xs i k
 have e2:(_ ∘ fun x=>i+x)=fun m=>xs[i+m]?:=rfl<;>simp_all
theorem zcj{t sl:Addr}{items:Array NO}{vl vu:NO}{lo hi:Option Int}{Q:NO->NP->Prop}(ht:V5 s.heap t items)(hs:s.heap.IsSliceOf sl vl vu .none)(pl:Tf vl lo)(pu:Tf vu hi)
  (hw:¬(Yq items.size 0 lo=0/\Yq items.size items.size hi=items.size))
  (h:Q (.ref s.heap.objs.size) { s with heap:=s.heap.push { cls:=.type "tuple",data:=.seq ((items.toList.drop (Yq items.size 0 lo)).take (Yq items.size items.size hi-Yq items.size 0 lo)).toArray } })
  (hsz:items.size<=NX):Oy (Os prog w) A (SG (.ref t) (.ref sl)) Q E s:=by
 have Cp:sizeOk (.seq ((items.toList.drop (Yq items.size 0 lo)).take (Yq items.size items.size hi-Yq items.size 0 lo)).toArray):=by
  show ((items.toList.drop (Yq items.size 0 lo)).take (Yq items.size items.size hi-Yq items.size 0 lo)).toArray.size<=NX;rw[O0,OZ,OV,Ra];omega
 have hj:Yq items.size items.size hi<=items.size:=zcf _ _ (Of _) hi;obtain⟨os,Ex,Jy,CL⟩:=id hs;have Bo:s.TypeIs (.ref sl) "slice":=⟨os,Ex,Jy⟩;unfold SG
 try with_reducible refine QC ?_
 first|refine NT (Ou ?_)|skip
 refine NT (U7 ht.typeIs (by decide) ?_)
 refine NT (SX (name:=NM "__getitem__") ht.typeIs O6
  (Vy O6 ht.typeIs Ux ?_ (UR _ _)))
 show Oy _ _ (Sr (.ref t) >>= _) _ _ s;refine NT (UL ht ?_);refine NT (U8 Bo ?_);rw[if_pos (by decide)];refine NT (ztt hs pl pu ?_)
 have Hv:¬((((Yq items.size 0 lo:Nat):Int) == 0&&(1:Int) == 1&&(Yq items.size items.size hi-Yq items.size 0 lo) == items.size)=true):=by simp_all
 show Oy _ _ (if (((Yq items.size 0 lo:Nat):Int) == 0&&(1:Int) == 1&&(Yq items.size items.size hi-Yq items.size 0 lo) == items.size)=true then _ else _) _ _ s;rw[if_neg Hv,zci]
 first
  |exact NT (m:=P1 _) (Pu (Ou ⟨_,rfl,Ou h⟩) Cp)
  |grind
  |exact NT (NT (m:=P1 _) (Pu (Ou (Ou ⟨_,rfl,Ou h⟩)) Cp))
  |exact NT (NT (m:=P1 _) (Pu (Ou ⟨_,rfl,Ou h⟩) Cp))
end
end HT
namespace L2
abbrev TO:=St->Hp->(Option Int->Hp->Prop)->Prop
def PO(X:Cx)(e:Option Expr)(t:TO):Prop:=
 ∀(pins:List (Addr×Obj)) (s:NP) (σ:St) (H:Hp) (Q:Option Int->Hp->Prop),Inv X pins σ H s->t σ H Q ->
  Oy (Os X.prog X.w) X.A (evalPart e X.env) (fun u s'=>∃o H',Inv X pins σ H' s'/\Tf u o/\Q o H') X.xe s
def Es:TO:=fun _ H Q=>Q none H
def HW(t:TE):TO:=fun σ H Q=>t σ H fun x H1=>∃i,x=.int i/\Q (some i) H1
section
variable {X:Cx}{e:Expr}{te:TE}{lo hi:Option Expr}{tl th:TO}{pos p2:Pos}
theorem zck:PO X none Es:=by
 intro pins s σ H Q I h;exact Ou ⟨none,H,I,.none,h⟩
theorem zcl(h:PE X e te):PO X (some e) (HW te):=by
 intro pins s σ H Q I hw;refine Ya (h pins s σ H _ I hw) fun u s1 ⟨x,H1,I1,r1,q1⟩=>?_;obtain⟨i,rfl,q⟩:=q1;obtain⟨t,rfl⟩:=r1;exact⟨some i,H1,I1,.int i t,q⟩
def IX(X:Cx)(r:V->Option Int->Option Int->Hp->VK->Prop):Prop:=
 ∀(pins:List (Addr×Obj)) (s:NP) (σ:St) (H:Hp) (x:V) (v vl vu:NO) (lo hi:Option Int) (sl:Addr) (Q:VK),Inv X pins σ H s->RelV x v->s.heap.IsSliceOf sl vl vu .none->Tf vl lo->Tf vu hi->r x lo hi H Q ->
  ∃T id,typeLookup (.type T) "__getitem__"=pure (some (.builtin id))/\s.TypeIs v T/\Oy (Os X.prog X.w) X.A (SG v (.ref sl)) (EP X pins σ Q) X.xe s
theorem IX.or(h:IX X r)(h':IX X r'):IX X (fun x lo hi H Q=>r x lo hi H Q\/r' x lo hi H Q):=by
 intro pins s σ H x v vl vu lo hi sl Q I rx hs pl pu q
 rcases q with q|q
 .exact h pins s σ H x v vl vu lo hi sl Q I rx hs pl pu q
 .exact h' pins s σ H x v vl vu lo hi sl Q I rx hs pl pu q
def tSl(r:V->Option Int->Option Int->Hp->VK->Prop)(te:TE)(tl th:TO):TE:=fun σ H Q=>te σ H fun x H1=>tl σ H1 fun l H2=>th σ H2 fun u H3=>r x l u H3 Q
theorem zcm(hr:IX X r)(he:PE X e te)(hl:PO X lo tl)(hu:PO X hi th):PE X (.Subscript e (.Slice lo hi none p2) pos) (tSl r te tl th):=by
 intro pins s σ H Q I h;refine Subscript_ (Ya (he pins s σ H _ I h) fun v s1 ⟨x,H1,I1,r1,q1⟩=>?_);refine wpAny_Slice (Ya (hl pins s1 σ H1 _ I1 q1) fun vl s2 ⟨l,H2,I2,pl,q2⟩=>Ya (hu pins s2 σ H2 _ I2 q2) fun vu s3 ⟨u,H3,I3,pu,q3⟩=>?_);refine Ou ?_;have I4:Inv X pins σ H3 { s3 with heap:=s3.heap.push { cls:=.type "slice",data:=.fields #[vl,vu,.none] } }:=I3.kept  fun b ob q=>NQ _ q;obtain⟨T,id,hT,ht,hg⟩:=hr pins { s3 with heap:=s3.heap.push { cls:=.type "slice",data:=.fields #[vl,vu,.none] } } σ H3 x v vl vu l u _ Q I4 r1 (Xl ..) pl pu q3;exact tail_any  ht hT hg (by with_unfolding_all rfl)
def jr(xs:List V)(lo hi:Option Int):List V:=(xs.drop (HT.Yq xs.length 0 lo)).take (HT.Yq xs.length xs.length hi-HT.Yq xs.length 0 lo)
theorem ztu(xs:List V)(lo hi:Option Int):(jr xs lo hi).length<=xs.length:=by
 unfold jr
 simp_all
 omega
def JK(K:Frag):V->Option Int->Option Int->Hp->VK->Prop:=fun x lo hi H Q=>∃a xs,x=.ref a/\Zz K H a xs /\
 ¬(HT.Yq xs.length 0 lo=0/\HT.Yq xs.length xs.length hi=xs.length)/\∀p,H p=none->Q (.ref p) (upd H p (.tup (jr xs lo hi)))
theorem zcn:IX X (JK X.K):=by
 intro pins s σ H x v vl vu lo hi sl Q I rx hs pl pu h;obtain⟨a,xs,rfl,hx,hw,q⟩:=h;cases rx;obtain⟨Xx,r,ht,hz⟩:=I.tuple hx
 have X4:Xx.toArray.size=xs.length:=by exact r.length.symm
 refine⟨"tuple",_,O6.lookup,ht.typeIs,?_⟩;refine HT.zcj ht hs pl pu (by rw[X4];exact hw) ?_ (by rw[X4];exact hz);rw[X4];refine⟨.ref _,_,I.laid   (fun b ob q=>NQ _ q) (Of _) ?_,rfl,q _ (I.hok.fresh (Of _))⟩;exact⟨Oc (ztu xs lo hi) hz,_,(r.drop _).take _,Us _ _⟩
def Im(K:Frag):R2:=fun x y H Q=>∃a b xs ys,x=.ref a/\y=.ref b/\Zz K H a xs/\Zz K H b ys/\xs≠[]/\xs.length+ys.length<=NX /\
 (ys=[]->Q (.ref a) H)/\(ys≠[]->∀p,H p=none->Q (.ref p) (upd H p (.tup (xs++ys))))
theorem XC.nil_iff(r:XC xs us):us=[]↔xs=[]:=by cases r <;>simp_all
theorem zco:YQ X (Pw .Add) (Im X.K):=by
 intro pins s σ H x y v u Q I rx ry h;obtain⟨a,b,xs,ys,rfl,rfl,ha,hb,hx,hz,q1,q2⟩:=h;cases rx;cases ry;obtain⟨Xx,r1,p1,_⟩:=I.tuple ha;obtain⟨JO,r2,p2,_⟩:=I.tuple hb;refine HT.zce p1 p2 (fun z=>hx (r1.nil_iff.mp z)) (fun z=>⟨.ref a,H,I,rfl,q1 (r2.nil_iff.mp z)⟩) (fun z=>?_) (by rw[←r1.length,←r2.length];exact hz);refine⟨.ref _,_,I.laid   (fun b ob q=>NQ _ q) (Of _) ?_,rfl,q2 (fun w=>z (r2.nil_iff.mpr w)) _ (I.hok.fresh (Of _))⟩;exact⟨by simp_all,_,r1.append r2,Us _ _⟩
end
def Jf(n:Nat)(i:Int):Option Nat:=if 0<=i then (if i<n then some i.toNat else none) else if -(n:Int)<=i then some (i+n).toNat else none
def Yr{α:Type}(xs:List α)(i:Int):Option α:=(Jf xs.length i).bind fun j=>xs[j]?
theorem ztv{n:Nat}{i:Int}{j:Nat}(h:Jf n i=some j):seqIndex? i n=some j/\j<n/\-(n:Int)<=i/\i<n:=by
 unfold Jf at h
 by_cases h0:0<=i
 .rw[if_pos h0] at h
  by_cases h1:i<n
  .rw[if_pos h1] at h
   have e:=Qc h;exact⟨by rw[VH h0 h1,e],by omega,by omega,h1⟩
  .simp_all
 .rw[if_neg h0] at h
  by_cases h1 : -(n)<=i
  .rw[if_pos h1] at h
   have e:=Qc h;exact⟨by rw[U9 (by omega) h1,e],by omega,h1,by omega⟩
  .simp_all
theorem qM{α:Type}{xs:List α}{i:Int}{v:α}(h:Yr xs i=some v):∃j,seqIndex? i xs.length=some j/\xs[j]? = some v/\j<xs.length/\-(xs.length:Int)<=i/\i<xs.length:=by
 unfold Yr at h
 cases e:Jf xs.length i with
 |none=>simp_all
 |some j=>
  rw[e] at h;obtain⟨h1,h2,h3,h4⟩:=ztv e;exact⟨j,h1,h,h2,h3,h4⟩
theorem nj{α:Type}{xs:List α}{j:Nat}{v:α}(h:xs[j]? = some v):Yr xs (j:Int)=some v:=by
 have hj:=(NS.mp h).1
 have e:Jf xs.length (j)=some j:=by
  unfold Jf<;>simp_all
 unfold Yr;rw[e];exact h
def qO(b:Expr):Prop:=∀o i,VI b false o i=operate [o,i] (SG o i)
def D8(X:Cx)(r:R2):Prop:=
 ∀(value slice:Expr) (pins:List (Addr×Obj)) (s:NP) (σ:St) (H:Hp) (x y:V) (v u:NO) (Q:VK),Inv X pins σ H s->RelV x v->RelV y u->r x y H Q ->
  VI slice false v u=operate [v,u] (SG v u)->Oy (Os X.prog X.w) X.A (subscriptTail value slice v u) (EP X pins σ Q) X.xe s
def Dl(X:Cx)(id:String)(r:V->List V->Hp->VK->Prop):Prop:=
 ∀(pins:List (Addr×Obj)) (s:NP) (σ:St) (H:Hp) (x:V) (xs:List V) (v:NO) (us:List NO) (Q:VK),Inv X pins σ H s->RelV x v->XC xs us->r x xs H Q ->
  Oy (Os X.prog X.w) X.A (call (.builtin id) (v::us)) (EP X pins σ Q) X.xe s
section
variable {X:Cx}{a b:Expr}{ta tb:TE}{pos:Pos}
theorem D8.or(h:D8 X r)(h':D8 X r'):D8 X (fun x y H Q=>r x y H Q\/r' x y H Q):=by
 intro value slice pins s σ H x y v u Q I rx ry q hs
 rcases q with q|q
 .exact h _ _ pins s σ H x y v u Q I rx ry q hs
 .exact h' _ _ pins s σ H x y v u Q I rx ry q hs
theorem Dl.or{id:String}{r r':V->List V->Hp->VK->Prop}(h:Dl X id r)(h':Dl X id r'):Dl X id (fun x xs H Q=>r x xs H Q\/r' x xs H Q):=by
 intro pins s σ H x xs v us Q I rx rs q
 rcases q with q|q
 .exact h pins s σ H x xs v us Q I rx rs q
 .exact h' pins s σ H x xs v us Q I rx rs q
theorem ztw(hr:D8 X r)(ha:PE X a ta)(hb:PE X b tb)(hs:qO b):PE X (.Subscript a b pos) (Ht r ta tb):=by
 intro pins s σ H Q I h;exact Subscript_ (sr ha hb I h fun v u s2 x y H2 I2 rx ry q=>hr a b pins s2 σ H2 x y v u Q I2 rx ry q (hs _ _))
def zr(K:Frag):R2:=fun x y H Q=>∃p xs i v,x=.ref p/\y=.int i/\Y8 K H p xs/\Yr xs i=some v/\Q v H
def zo(K:Frag):R2:=fun x y H Q=>∃p xs i v,x=.ref p/\y=.int i/\Zz K H p xs/\Yr xs i=some v/\Q v H
def zq:R2:=fun x y H Q=>∃z i c,x=.str z/\y=.int i/\z.length<=NX/\Yr z.cps.toList i=some c/\Q (.str ⟨#[c]⟩) H
theorem Gw:D8 X (zr X.K):=by
 intro value slice pins s σ H x y v u Q I rx ry h hs;obtain⟨p,xs,i,z,rfl,rfl,hq,he,q⟩:=h;cases rx;obtain⟨t,rfl⟩:=ry;obtain⟨Xx,r,pl,hz⟩:=I.list hq;obtain⟨j,h1,h2,h3,h4,h5⟩:=qM he;obtain⟨w,ew,Za⟩:=r.get h2;have hl:=r.length;have hn:=iT;have fin:EP X pins σ Q w s:=⟨z,H,I,Za,q⟩
 by_cases h0:0<=i
 .have hj:i.toNat=j:=by
   rw[VH h0 h5] at h1<;>simp_all
  exact item_listR pl.isList h0 (by omega) (by rw[hj];simpa using ew) fin hs
 .have hj:(i+(Xx.toArray.size)).toNat=j:=by
   rw[U9 (by omega) h4] at h1<;>simp_all
  exact Tg  pl.isList.typeIs Va.lookup
   (wpAny_getItem_list_neg  pl.isList (by omega) (by grind) (by omega) (by rw[hj];simpa using ew) ⟨rfl,fin⟩) hs
theorem HN:D8 X (zo X.K):=by
 intro value slice pins s σ H x y v u Q I rx ry h hs;obtain⟨p,xs,i,z,rfl,rfl,hq,he,q⟩:=h;cases rx;obtain⟨t,rfl⟩:=ry;obtain⟨Xx,r,pl,hz⟩:=I.tuple hq;obtain⟨j,h1,h2,h3,h4,h5⟩:=qM he;obtain⟨w,ew,Za⟩:=r.get h2;have hl:=r.length;have hn:=iT;have fin:EP X pins σ Q w s:=⟨z,H,I,Za,q⟩
 exact Tg  pl.typeIs slot_tuple_getitem.lookup
  (getItem_tuple (j:=j)  pl (by omega) (by omega) (by simp_all) (by simpa using ew) ⟨rfl,fin⟩) hs
theorem zcp:D8 X zq:=by
 intro value slice pins s σ H x y v u Q I rx ry h hs;obtain⟨z,i,c,rfl,rfl,hz,he,q⟩:=h;obtain⟨t,rfl⟩:=rx;obtain⟨t',rfl⟩:=ry;obtain⟨j,h1,h2,h3,h4,h5⟩:=qM he
 have hl:z.cps.toList.length=z.length:=by simp[US]
 rw[hl] at h1 h4 h5;have hn:=iT
 exact tail_any (QM s z t) slot_str_getitem.lookup (getItem_str (c:=c) (by
  grind) (by rw[h1];simpa using h2) ⟨.str ⟨#[c]⟩,H,I.tok _,⟨_,rfl⟩,q⟩) hs
def rIx(K:Frag):R2:=fun x y H Q=>zr K x y H Q\/zo K x y H Q\/zq x y H Q
theorem zcq:D8 X (rIx X.K):=Gw.or (HN.or zcp)
theorem zcr(Xx:List NO)(n j:Nat)(u:NO):Wa (·.setIfInBounds j u) { cls:=.type "list",data:=.seq Xx.toArray n } = { cls:=.type "list",data:=.seq (Xx.set j u).toArray n }:=by simp[Wa]
theorem Inv.lst(I:Inv X pins σ H s)(h:H p=some (.lst xs)) :
  ∃(Xx:List NO) (n:Nat),XC xs Xx/\s.heap.get? p=some { cls:=.type "list",data:=.seq Xx.toArray n }/\xs.length<=sizeLine:=by
 obtain⟨z,Xx,n,r,e⟩:=I.hok p _ h;exact⟨Xx,n,r,e,z⟩
theorem Inv.lstUpd{s:NP}{xs ys:List V}{Xx Z1:List NO}{f:Obj->Obj}(I:Inv X pins σ H s)(h:H p=some (.lst xs))
  (ho:s.heap.get? p=some { cls:=.type "list",data:=.seq Xx.toArray n }) (hf:f { cls:=.type "list",data:=.seq Xx.toArray n } = { cls:=.type "list",data:=.seq Z1.toArray n' }) (r:XC ys Z1) (hz:ys.length<=NX) (t:Nat) :
  Inv X pins σ (upd H p (.lst ys)) { s with heap:=s.heap.update p f,toks:=t }:=by
 have e:(s.heap.update p f).get? p=some { cls:=.type "list",data:=.seq Z1.toArray n' }:=by
  rw[O9 f ho (by rw[hf] <;> rfl),hf]
 refine I.write   (by rw[h];trivial) (.inl rfl) (fun b u hb q=>(Om _ _ (PV hb)).trans q) ⟨_,e⟩ ?_;exact⟨hz,Z1,n',r,e⟩
def Il:V->V->V->Hp->(Hp->Prop)->Prop:=fun o i v H Q=>∃p xs k j,o=.ref p/\i=.int k/\H p=some (.lst xs)/\Jf xs.length k=some j/\Q (upd H p (.lst (xs.set j v)))
theorem set_list:zK X Il:=by
 intro pins s σ H o i v ov iv u Q I ro ri rv h;obtain⟨p,xs,k,j,rfl,rfl,hp,hj,q⟩:=h;cases ro;obtain⟨t,rfl⟩:=ri;obtain⟨Xx,n,r,ho,hz⟩:=I.lst hp;obtain⟨h1,h2,h3,h4⟩:=ztv hj;have hl:=r.length;have hn:=iT
 have I'  :=
  I.lstUpd hp ho (zcr Xx n j u) (r.set rv j) (by simp_all) s.toks
 by_cases h0:0<=k
 .have hk:k.toNat=j:=by
   rw[VH h0 h4] at h1<;>simp_all
  exact PySem.W.ki_setAt ho h0 (by omega) (by simp_all) (by rw[hk];exact⟨_,I',q⟩)
 .have hk:(k+(Xx.toArray.size)).toNat=j:=by
   rw[U9 _ h3] at h1<;>simp_all
  exact PySem.W.ki_setBack ho (by omega) (by simp_all) (by omega) (by rw[hk];exact⟨_,I',q⟩)
theorem zcs(lo hi:Option Int)(n:Nat):(Rp lo hi none n).1=((HT.Yq n 0 lo:Nat):Int)/\(Rp lo hi none n).2.1=((HT.Yq n n hi:Nat):Int)/\(Rp lo hi none n).2.2=1:=by
 refine⟨?_,?_,rfl⟩
 .cases lo with
  |none=>simp[Rp,HT.Yq]
  |some i=>
   simp only[Rp,HT.Yq,SY,show (1:Int)>0 by decide,if_true]
   by_cases h:i<0
   .simp only[h,if_true] <;> omega
   .simp only[h,if_false] <;> omega
 .cases hi with
  |none=>simp[Rp,HT.Yq]
  |some i=>
   simp only[Rp,HT.Yq,SY,show (1:Int)>0 by decide,if_true]
   by_cases h:i<0
   .simp only[h,if_true] <;> omega
   .simp only[h,if_false] <;> omega
theorem zct(Xx:List NO)(lo hi:Option Int):slicePick Xx.toArray lo hi none=((Xx.drop (HT.Yq Xx.length 0 lo)).take (HT.Yq Xx.length Xx.length hi-HT.Yq Xx.length 0 lo)).toArray:=by
 obtain⟨h1,h2,h3⟩:=zcs lo hi _;unfold slicePick;rw[h1,h2,h3]
 simp only[sliceRange_one,pick_run] <;> rfl
def JL(K:Frag):V->Option Int->Option Int->Hp->VK->Prop:=fun x lo hi H Q=>∃a xs,x=.ref a/\Y8 K H a xs/\∀p,H p=none->Q (.ref p) (upd H p (.lst (jr xs lo hi)))
theorem JP:IX X (JL X.K):=by
 intro pins s σ H x v vl vu lo hi sl Q I rx hs pl pu h;obtain⟨a,xs,rfl,hx,q⟩:=h;cases rx;obtain⟨Xx,r,ht,hz⟩:=I.list hx;have X4:=r.length;refine⟨"list",_,Va.lookup,ht.isList.typeIs,?_⟩;refine wpAny_getItem_list_slice ht.isList hs pl pu .none (by simp) ?_ (by grind);rw[zct,←X4];refine⟨.ref _,_,I.laid   (fun b ob q=>NQ _ q) (Of _) ?_,rfl,q _ (I.hok.fresh (Of _))⟩;exact⟨Oc (ztu xs lo hi) hz,_,0,(r.drop _).take _,Ox _ rfl⟩
def gn:V->Bool
 |.non=>true
 |.bl _=>true
 |.int _=>true
 |.str _=>true
 |_=>false
def EK:V->V->Bool
 |.non,.non=>true
 |.bl a,.bl b=>a == b
 |.bl a,.int b=>(if a then 1 else 0) == b
 |.int a,.bl b=>a == (if b then 1 else 0)
 |.int a,.int b=>a == b
 |.str a,.str b=>a == b
 |_,_=>false
theorem zcu(ry:RelV y u)(rx:RelV x v)(fy:gn y=true)(fx:gn x=true):Xm A s u v (EK y x):=by
 cases y with
 |non=>
  cases ry
  cases x with
  |non=>cases rx;exact VQ _
  |bl b=>cases rx;exact SeqAt.EqAt.none_bool b
  |int b=>obtain⟨t,rfl⟩:=rx;exact Uy b t
  |str b=>obtain⟨t,rfl⟩:=rx;exact Uz b t
  |_=>exact absurd (show false=true from fx) Ov
 |bl a=>
  cases ry
  cases x with
  |non=>cases rx;exact SeqAt.EqAt.bool_none a
  |bl b=>cases rx;exact SeqAt.EqAt.bool_bool a b
  |int b=>obtain⟨t,rfl⟩:=rx;exact SeqAt.EqAt.bool_int a b t
  |str b=>obtain⟨t,rfl⟩:=rx;exact SeqAt.EqAt.bool_str a b t
  |_=>exact absurd (show false=true from fx) Ov
 |int a=>
  obtain⟨t',rfl⟩:=ry
  cases x with
  |non=>cases rx;exact UA a t'
  |bl b=>cases rx;exact SeqAt.EqAt.int_bool a t' b
  |int b=>obtain⟨t,rfl⟩:=rx;exact SeqAt.EqAt.int_int a t' b t
  |str b=>obtain⟨t,rfl⟩:=rx;exact Sj a t' b t
  |_=>exact absurd (show false=true from fx) Ov
 |str a=>
  obtain⟨t',rfl⟩:=ry
  cases x with
  |non=>cases rx;exact UB a t'
  |bl b=>cases rx;exact SeqAt.EqAt.str_bool a t' b
  |int b=>obtain⟨t,rfl⟩:=rx;exact Sk a t' b t
  |str b=>obtain⟨t,rfl⟩:=rx;exact SeqAt.EqAt.str_str a t' b t
  |_=>exact absurd (show false=true from fx) Ov
 |_=>exact absurd (show false=true from fy) Ov
def E6(x:V)(u:NO):Bool:=match u with
 |.none=>EK .non x
 |.bool b=>EK (.bl b) x
 |.int i _=>EK (.int i) x
 |.str z _=>EK (.str z) x
 |_=>false
theorem ztx(r:RelV y u)(f:gn y=true):E6 x u=EK y x:=by
 cases y with
 |non=>cases r;rfl
 |bl b=>cases r;rfl
 |int i=>obtain⟨t,rfl⟩:=r;rfl
 |str z=>obtain⟨t,rfl⟩:=r;rfl
 |_=>exact absurd (f) Ov
theorem kZ:∀{xs:List V}{us:List NO},XC xs us->xs.all gn=true->us.any (E6 x)=xs.any fun y=>EK y x
 |_,_,.nil,_=>rfl
 |y::xs,u::us,.cons r t,f=>by
  rw[Rc,NY] at f;rw[RR,RR,ztx r f.1,kZ t f.2]
theorem kF(rx:RelV x v)(fx:gn x=true):∀{xs:List V}{us:List NO},XC xs us->xs.all gn=true->∀u∈us,Xm A s u v (E6 x u)
 |_,_,.nil,_=>fun u hu=>by cases hu
 |y::xs,u::us,.cons r t,f=>fun u' hu=>by
  rw[Rc,NY] at f
  rcases N4.mp hu with rfl|hu
  .rw[ztx r f.1];exact zcu r rx f.1 fx
  .exact kF rx fx t f.2 u' hu
def A8(x:V)(xs:List V):Bool:=xs.any fun y=>EK y x
def An(K:Frag)(neg:Bool):R2:=fun x y H Q=>∃p xs,y=.ref p/\(Y8 K H p xs\/Zz K H p xs)/\gn x=true/\xs.all gn=true/\Q (.bl (if neg then !A8 x xs else A8 x xs)) H
theorem zty:YQ X (OL .In) (An X.K false):=by
 intro pins s σ H x y v u Q I rx ry h;obtain⟨p,xs,rfl,hq,fx,fs,q⟩:=h;cases ry
 rcases hq with hq|hq
 .obtain⟨Xx,r,pl,hz⟩:=I.list hq
  refine SeqAt.in_listAt _ pl.isList (fun w hw=>kF rx fx r fs w (by simp_all)) ⟨.bl _,H,I,rfl,?_⟩;rw[show Xx.toArray.any _=Xx.any (E6 x) by simp,kZ r fs];exact q
 .obtain⟨Xx,r,pl,hz⟩:=I.tuple hq
  refine SeqAt.in_tupleAt _ pl (fun w hw=>kF rx fx r fs w (by simp_all)) ⟨.bl _,H,I,rfl,?_⟩;rw[show Xx.toArray.any _=Xx.any (E6 x) by simp,kZ r fs];exact q
theorem zcv:YQ X (OL .NotIn) (An X.K true):=by
 intro pins s σ H x y v u Q I rx ry h;obtain⟨p,xs,rfl,hq,fx,fs,q⟩:=h;cases ry
 rcases hq with hq|hq
 .obtain⟨Xx,r,pl,hz⟩:=I.list hq
  refine SeqAt.notIn_listAt _ pl.isList (fun w hw=>kF rx fx r fs w (by simp_all)) ⟨.bl _,H,I,rfl,?_⟩;rw[show Xx.toArray.any _=Xx.any (E6 x) by simp,kZ r fs];exact q
 .obtain⟨Xx,r,pl,hz⟩:=I.tuple hq
  refine SeqAt.notIn_tupleAt _ pl (fun w hw=>kF rx fx r fs w (by simp_all)) ⟨.bl _,H,I,rfl,?_⟩;rw[show Xx.toArray.any _=Xx.any (E6 x) by simp,kZ r fs];exact q
theorem Bu:Yk X (.builtin "len") (fun xs H Q=>∃p ys,xs=[.ref p]/\(Y8 X.K H p ys\/Zz X.K H p ys)/\Q (.int ys.length) H):=by
 intro pins s σ H xs us Q I r h;obtain⟨p,ys,rfl,hq,q⟩:=h;obtain⟨u,rfl,rx⟩:=vals1 r;cases rx;have hn:=iT
 rcases hq with hq|hq
 .obtain⟨Xx,r',pl,hz⟩:=I.list hq
  have X4:=r'.length;exact Calls.call_len_list pl.isList (by simp only[O0] <;> omega) ⟨.int _,H,I.tok _,⟨s.toks+1,by rw[O0,X4]⟩,q⟩
 .obtain⟨Xx,r',pl,hz⟩:=I.tuple hq
  have X4:=r'.length;exact len_tuple pl (by simp only[O0] <;> omega) ⟨.int _,H,I.tok _,⟨s.toks+1,by rw[O0,X4]⟩,q⟩
theorem BI:Yk X (.builtin "len") (fun xs H Q=>∃z,xs=[.str z]/\z.length<=NX/\Q (.int z.length) H):=by
 intro pins s σ H xs us Q I r h;obtain⟨z,rfl,hz,q⟩:=h;obtain⟨u,rfl,t,rfl⟩:=vals1 r;have hn:=iT;exact len_str (by omega) ⟨.int _,H,I.tok _,⟨_,rfl⟩,q⟩
theorem Yk.or(h:Yk X f r)(h':Yk X f r'):Yk X f (fun xs H Q=>r xs H Q\/r' xs H Q):=by
 intro pins s σ H xs us Q I rs q
 rcases q with q|q
 .exact h pins s σ H xs us Q I rs q
 .exact h' pins s σ H xs us Q I rs q
theorem zcw:Yk X (.type "tuple") (fun xs H Q=>∃p ys,xs=[.ref p]/\((Y8 X.K H p ys/\∀l,H l=none->Q (.ref l) (upd H l (.tup ys)))\/(Zz X.K H p ys/\Q (.ref p) H))):=by
 intro pins s σ H xs us Q I r h;obtain⟨p,ys,rfl,h⟩:=h;obtain⟨u,rfl,rx⟩:=vals1 r;cases rx
 rcases h with⟨hq,q⟩|⟨hq,q⟩
 .obtain⟨Xx,r',pl,hz⟩:=I.list hq
  have X4:=r'.length;refine call_tuple_list pl.isList (fun h' kp=>?_) (by simp_all);have I1:=I.kept (t':=s.toks) kp
  have I2  :=
   I1.laid (t':=s.toks) (fun b o e=>NQ _ e) (Of _) (show X7 _ X.w _ _ _ (.tup ys) from⟨hz,Xx,r',Us _ _⟩)
  exact⟨.ref _,_,I2,rfl,q _ (I1.hok.fresh (Of _))⟩
 .obtain⟨Xx,r',pl,hz⟩:=I.tuple hq
  exact call_tuple_same pl ⟨.ref p,H,I,rfl,q⟩
def tyV(K:Frag)(T:String)(x:V)(H:Hp):Prop:=match x with
 |.str _=>T="str"
 |.int _=>T="int"
 |.ref p=>(T="list"/\∃xs,Y8 K H p xs)\/(T="tuple"/\∃o,K.lookup p=some o/\o.cls=.type "tuple"/\o.dict=none) \/
   (T="dict"/\((∃kvs,H p=some (.dK kvs))\/∃kvs,H p=some (.dT kvs)))\/(T="set"/\∃S n,H p=some (.set S n))
 |_=>False
theorem zcx(I:Inv X pins σ H s)(r:RelV x v)(ty:tyV X.K T x H) :
  s.TypeIs v T/\∀a,v=.ref a->∃ob,s.heap.get? a=some ob/\ob.dict=none:=by
 cases x with
 |str z=>
  obtain⟨t,rfl⟩:=r;cases (ty);exact⟨QM s z t,fun _ e=>nomatch e⟩
 |int i=>
  obtain⟨t,rfl⟩:=r;cases (ty);exact⟨Wb s i t,fun _ e=>nomatch e⟩
 |ref p=>
  cases r
  rcases ty with⟨rfl,xs,hq⟩|⟨rfl,o,hk,hc,hd⟩|⟨rfl,hk⟩|⟨rfl,S,n,hk⟩
  .obtain⟨Xx,_,pl,_⟩:=I.list hq
   refine⟨pl.isList.typeIs,fun a e=>?_⟩;cases e;obtain⟨o,n,e,c,hd,_⟩:=pl;exact⟨o,e,hd⟩
  .refine⟨⟨o,I.kIn p o hk,hc⟩,fun a e=>?_⟩
   cases e;exact⟨o,I.kIn _ o hk,hd⟩
  .have z:∃o,s.heap.get? p=some o/\o.ExactDict:=by
    rcases hk with⟨kvs,hk⟩|⟨kvs,hk⟩
    .obtain⟨_,_,_,_,o,_,_,e,ex,_⟩:=I.hok p _ hk
     exact⟨o,e,ex⟩
    .obtain⟨_,_,_,_,o,_,_,e,ex,_⟩:=I.hok p _ hk
     exact⟨o,e,ex⟩
   obtain⟨o,e,ex⟩:=z;refine⟨⟨o,e,ex.1⟩,fun a e2=>?_⟩;cases e2;exact⟨o,e,ex.2.1⟩
  .obtain⟨o,_,_,_,e,ex,_⟩:=I.hok p _ hk
   refine⟨⟨o,e,ex.1⟩,fun a e2=>?_⟩;cases e2;exact⟨o,e,ex.2.1⟩
 |_=>exact ON ty
def tBM(K:Frag)(T:String)(r:V->List V->Hp->VK->Prop)(to:TE)(t:TA):TE:=fun σ H Q=>to σ H fun x H1=>tyV K T x H1/\t σ H1 fun xs H2=>r x xs H2 Q
variable {o e:Expr}{es:List Expr}{to:TE}{t:TA}{name:Str}{apos cpos:Pos}{T id:String}{r:V->List V->Hp->VK->Prop}
theorem i5(pa:PlainAttrs T)(slot:Slot T name id)(Cg:typeOf (.builtin id)=pure (.type "method_descriptor"))(hm:Dl X id r)(ho:PE X o to)(ha:PA X (e::es) t)
  (YI:Pj o name X.env (eval o X.env)=eval o X.env:=by rfl)
  (Zv:((OO cpos (NR (e::es) X.env)).all (fun x=>!x.1)&&(PX cpos (O8 [] X.env)).all (fun x=>x.1.isSome)
   && decide ((e::es).length+([]:List PD).length+(if ([]:List PD).isEmpty then 0 else 1)<30))=true:=by rfl)
  (YH:(apos.endLine == cpos.line)=true:=by rfl) (hs:NR (e::es) X.env=(false,eval e X.env)::NR es X.env:=by rfl) (Yn:(OO cpos (NR es X.env)).any (·.1)=false:=by rfl) :
  PE X (.Call (.Attribute o name apos) (e::es) [] cpos) (tBM X.K T r to t):=by
 intro pins s σ H Q I h;refine wpAny_Call_method_late YI Zv YH rfl (Ya (ho pins s σ H _ I h) fun v s1 ⟨x,H1,I1,r1,ty,q1⟩=>?_);obtain⟨h1,h2⟩:=zcx I1 r1 ty;refine⟨T,id,pa,slot,Cg,h1,h2,?_⟩;have hA:=ha cpos pins s1 σ H1 _ I1 q1;rw[hs] at hA ⊢;refine Th (by show (false||(OO cpos _).any _)=false;rw[Yn] <;> rfl) (Ud ?_);exact Ya hA fun us s2 ⟨vs,H2,I2,r2,q2⟩=>hm pins s2 σ H2 x vs v us Q I2 r1 r2 q2
end
def MtM(X:Cx)(id:String)(r:V->List V->Hp->VK->Prop):Prop:=
 ∀(pins:List (Addr×Obj)) (s:NP) (σ:St) (H:Hp) (x:V) (xs:List V) (v:NO) (us:List NO) (Q:VK),Inv X pins σ H s->RelV x v->XC xs us->r x xs H Q ->
  Oy (Os X.prog X.w) X.A (call (.builtin id) (v::us)) (EP X pins σ Q) X.xe s
theorem XC.one:∀{x:V}{us:List NO},XC [x] us->∃u,us=[u]/\RelV x u
 |_,_,.cons r .nil=>⟨_,rfl,r⟩
theorem XC.rep(h:XC xs us):∀k:Nat,XC (OA k xs).flatten (OA k us).flatten
 |0=>.nil
 |k+1=>by
  exact XC.append h (XC.rep h k)
theorem foldl_rep(Xx:List NO):∀(k:Nat) (acc:List NO),
  Ti (fun x1 x2=>x1++x2) acc.toArray (OA k Xx.toArray)=(acc++(OA k Xx).flatten).toArray
 |0,acc=>by simp
 |k+1,acc=>by
  have e:acc.toArray++Xx.toArray=(acc++Xx).toArray:=by simp
  have e2:(acc++Xx)++(OA k Xx).flatten=acc++(OA (k+1) Xx).flatten:=by
   rw[UC,P8,QY]
  rw[←e2,←foldl_rep Xx k _,←e,UC,List.foldl_cons]
section
variable {X:Cx}{pins:List (Addr×Obj)}{σ:St}{H:Hp}{s:NP}{l b:Addr}{xs ys zs:List V}
theorem Inv.lset{Xx Z1:List NO}{f:Array NO->Array NO}(I:Inv X pins σ H s)(hH:H l=some (.lst xs))
  (e:s.heap.get? l=some { cls:=.type "list",data:=.seq Xx.toArray n }) (hf:f Xx.toArray=Z1.toArray) (hv:XC ys Z1) (hz:ys.length<=NX) :
  Inv X pins σ (upd H l (.lst ys)) { s with heap:=s.heap.update l (Wa f),toks:=t' }:=by
 have q:=PySem.IsL.update e f;rw[hf] at q;refine I.write   (by rw[hH];exact trivial) (.inl rfl) (fun b' u hb hu=>(Om _ _ (PV hb)).trans hu) ⟨_,q⟩ ?_;exact⟨hz,Z1,_,hv,q⟩
theorem Inv.lnew(I:Inv X pins σ H s)(hv:XC ys Xx)(hz:ys.length<=NX) :
  Inv X pins σ (upd H s.heap.objs.size (.lst ys)) { s with heap:=s.heap.push { cls:=.type "list",data:=.seq Xx.toArray },toks:=t' }:=I.laid (fun _ _ q=>NQ _ q) (Of _) ⟨hz,Xx,0,hv,Ox _ rfl⟩
theorem Inv.fresh(I:Inv X pins σ H s):H s.heap.objs.size=none:=I.hok.fresh (Of _)
theorem Inv.lstM(I:Inv X pins σ H s)(hH:H l=some (.lst xs)):xs.length<=NX/\∃(Xx:List NO) (n:Nat),XC xs Xx/\xs.length=Xx.length/\s.heap.get? l=some { cls:=.type "list",data:=.seq Xx.toArray n }:=by
 obtain⟨z,Xx,n,r,e⟩:=I.hok l _ hH;exact⟨z,Xx,n,r,r.length,e⟩
def EB:V->List V->Hp->VK->Prop:=fun x vs H Q=>∃l xs y,x=.ref l/\vs=[y]/\H l=some (.lst xs)/\xs.length<NX/\Q .non (upd H l (.lst (xs++[y])))
theorem zcy:MtM X "list.append" EB:=by
 intro pins s σ H x vs v us Q I rx rv h;obtain⟨l,xs,y,rfl,rfl,hH,hz,q⟩:=h;cases rx;obtain⟨u,rfl,ru⟩:=rv.one;obtain⟨z,Xx,n,r,hl,e⟩:=I.lstM hH;refine QN F.slot_list_append ⟨_,e,rfl⟩ F.entry_list_append (F.args_list_append_2 _ _) (PySem.list_append l _ n u (by grind)) ⟨e,?_⟩
 refine⟨.non,_,I.lset  hH e (by simp) (r.append (.cons ru .nil)) ?_,rfl,q⟩<;>grind
theorem len_rep{α:Type}(xs:List α)(k:Nat):(OA k xs).flatten.length=k*xs.length :=by simp
end
section
variable {κ:Type}[DecidableEq κ]
def bO(kvs:List (κ×V))(k:κ):Option V:=(kvs.find? fun kv=>decide (kv.1=k)).map (·.2)
def putK(kvs:List (κ×V))(k:κ)(v:V):List (κ×V):=if (kvs.any fun kv=>decide (kv.1=k))=true then kvs.map (fun kv=>if kv.1=k then (kv.1,v) else kv) else kvs++[(k,v)]
theorem pS{p:κ×V}(e:p.1=k):bO (p::r) k=some p.2:=by simp[bO,e]
theorem pT{p:κ×V}(e:¬p.1=k):bO (p::r) k=bO r k:=by simp[bO,e]
theorem pU(k:κ):∀kvs:List (κ×V),(kvs.any fun kv=>decide (kv.1=k))=(bO kvs k).isSome
 |[]=>rfl
 |p::r=>by
  rw[RR]
  by_cases e:p.1=k
  .simp only[pS e,decide_eq_true e,Bool.true_or,UT]
  .rw[pT e,decide_eq_false e];exact pU k r
theorem ztz(kvs:List (κ×V))(k:κ)(v:V):(putK kvs k v).length<=kvs.length+1:=by unfold putK<;>grind
theorem zcz{kvs:List (κ×V)}{k:κ}(v:V)(h:bO kvs k=none):putK kvs k v=kvs++[(k,v)]:=by
 unfold putK
 rw[pU]<;>simp_all
theorem YY.isSome_eq(r:YY o u):o.isSome=u.isSome:=by
 cases o with
 |none=>cases u with
  |none=>rfl
  |some _=>exact(r).elim
 |some _=>cases u with
  |none=>exact(r).elim
  |some _=>rfl
theorem KV.val(r:KV kvs vs)(k:κ):YY (bO kvs k) (Tj vs k):=by
 induction r with
 |nil=>exact PL
 |@cons p q ps qs h t ih=>
  obtain⟨h1,h2⟩:=h
  by_cases e:p.1=k
  .have e':=h1.symm.trans e
   have b:Tj (q::qs) k=some q.2:=by simp[Tj,e']
   rw[pS e,b];exact h2
  .have e':¬q.1=k:=fun z=>e (h1.trans z)
   have b:Tj (q::qs) k=Tj qs k:=by simp[Tj,e']
   rw[pT e,b];exact ih
theorem KV.any(r:KV kvs vs)(k:κ):(kvs.any fun kv=>decide (kv.1=k))=vs.any fun kv=>decide (kv.1=k):=by induction r <;>simp_all
theorem KV.repl(r:KV kvs vs)(k:κ)(ry:RelV y u) :
  KV (kvs.map fun kv=>if kv.1=k then (kv.1,y) else kv) (vs.map fun kv=>if kv.1=k then (kv.1,u) else kv):=by
 induction r with
 |nil=>exact .nil
 |@cons p q ps qs h t ih=>
  refine .cons ?_ ih
  by_cases e:p.1=k<;>simp_all
theorem KV.put(r:KV kvs vs)(k:κ)(ry:RelV y u):KV (putK kvs k y) (stored vs k u):=by
 unfold putK stored;rw[r.any k]
 by_cases e:(vs.any fun kv=>decide (kv.1=k))=true
 .rw[if_pos e,if_pos e];exact r.repl k ry
 .rw[if_neg e,if_neg e];exact Xf r ⟨rfl,ry⟩
theorem KV.keys{kvs:List (κ×V)}{vs:List (κ×NO)}(r:KV kvs vs):kvs.map (·.1)=vs.map (·.1):=by induction r <;>simp_all
theorem KV.length(r:KV kvs vs):kvs.length=vs.length:=QB r
end
theorem oq(r:RelV (kV k) u):(cK P w).is k u=true:=by
 cases k with
 |inl i=>obtain⟨t,e⟩:=(r);subst e;exact zac P w i t
 |inr x=>obtain⟨t,e⟩:=(r);subst e;exact zad P w x t
theorem zua:∀{ks:List Key}{us:List NO},XC (ks.map kV) us->ItemsAre (cK P w) ks us
 |[],_,r=>by cases r;exact .nil
 |k::ks,_,r=>by
  cases r with
  |cons h t=>exact .cons (oq h) (zua t)
abbrev KT(H:Hp):List (List Key×V)->List (List Key×Addr×NO)->Prop:=TZ fun p q=>p.1=q.1/\H q.2.1=some (.tup (p.1.map kV))/\RelV p.2 q.2.2
theorem KT.val(r:KT H kvs xs)(k:List Key):YY (bO kvs k) ((Wc xs k).map (·.2)):=by
 induction r with
 |nil=>exact PL
 |@cons p q ps qs h t ih=>
  obtain⟨h1,_,h2⟩:=h
  by_cases e:p.1=k
  .have e':=h1.symm.trans e
   have b:Wc (q::qs) k=some q.2:=by simp[Wc,e']
   rw[pS e,b];exact h2
  .have e':¬q.1=k:=fun z=>e (h1.trans z)
   have b:Wc (q::qs) k=Wc qs k:=by simp[Wc,e']
   rw[pT e,b];exact ih
theorem KT.repl(r:KT H kvs xs)(k:List Key)(ry:RelV y u) :
  KT H (kvs.map fun kv=>if kv.1=k then (kv.1,y) else kv) (xs.map (putAt k u)):=by
 induction r with
 |nil=>exact .nil
 |@cons p q ps qs h t ih=>
  refine .cons ?_ ih;unfold putAt
  by_cases e:p.1=k<;>simp_all
theorem KT.put(r:KT H kvs xs)(k:List Key)(hb:H b=some (.tup (k.map kV)))(ry:RelV y u) :
  KT H (putK kvs k y) (storedH xs k b u):=by
 have e:(kvs.any fun kv=>decide (kv.1=k))=(Wc xs k).isSome:=by
  rw[pU,(r.val k).isSome_eq,Vb]
 unfold putK storedH;rw[e]
 by_cases q:(Wc xs k).isSome=true
 .rw[if_pos q,if_pos q];exact r.repl k ry
 .rw[if_neg q,if_neg q];exact Xf r ⟨rfl,hb,ry⟩
theorem KT.keeps(r:KT H kvs xs)(ht:∀b ys,H b=some (.tup ys)->H' b=some (.tup ys)):KT H' kvs xs:=Paired.mapP r fun _ _ z=>⟨z.1,ht _ _ z.2.1,z.2.2⟩
section
variable {P:NU}{w:N8}{H:Hp}{h:Heap}{a:Addr}
theorem zub(ok:YR P w H h)(e:Rd H a u):X7 P w H h a u:=e.ok ok
theorem g6(ok:YR P w H h)(e:Rd H a (.dK kvs)):kvs.length<=NX/\(a == Qn)=false/\∃vs,KV kvs vs/\h.DictOf (cK P w) a vs:=zub ok e
theorem zda(ok:YR P w H h)(e:H a=some (.dK kvs)):kvs.length<=NX/\(a == Qn)=false/\∃vs,KV kvs vs/\h.DictOf (cK P w) a vs:=g6 ok (.inl e)
theorem nJ(ok:YR P w H h)(e:H a=some (.tup (ks.map kV))):(Uq (cK P w)).is h ks a:=by
 obtain⟨_,Xx,r,o,h1,h2,n,h3⟩:=(ok a _ e);exact⟨o,Xx.toArray,n,h1,h2,h3,by simpa using zua r⟩
theorem ot(ok:YR P w H h)(e:Rd H a (.dT kvs)):kvs.length<=NX/\(a == Qn)=false /\
  ∃xs,KT H kvs xs/\h.DictOfH (Uq (cK P w)) a xs:=by
 obtain⟨z,y,xs,r,o,es,ep,h1,h2,h3,h4,h5⟩:=(zub ok e);refine⟨z,y,xs,r,o,es,ep,h1,h2,h3,h4,fun x hx=>?_,h5⟩
 have all:∀{l:List _}{m:List _},KT H l m->∀x∈m,(Uq (cK P w)).is h x.1 x.2.1:=by
  intro l m q
  induction q with
  |nil=>simp_all
  |@cons p q ps qs hq t ih=>
   intro x hx
   rcases N4.mp hx with e|hx
   .exact nJ ok (by simp_all)
   .exact ih x hx
 exact all r x hx
theorem zdb(ok:YR P w H h)(e:H a=some (.dT kvs)):kvs.length<=NX/\(a == Qn)=false /\
  ∃xs,KT H kvs xs/\h.DictOfH (Uq (cK P w)) a xs:=ot ok (.inl e)
end
def G1(H:Hp)(a:Addr)(y:V)(r:Option V):Prop:=(∃kvs k,Rd H a (.dK kvs)/\y=kV k/\r=bO kvs k)\/∃kvs k b,Rd H a (.dT kvs)/\y=.ref b/\H b=some (.tup (k.map kV))/\r=bO kvs k
def Ft(H:Hp)(a:Addr)(y v:V)(H':Hp):Prop:=
 (∃kvs k,H a=some (.dK kvs)/\y=kV k/\kvs.length<NX/\H'=upd H a (.dK (putK kvs k v))) \/
 ∃kvs k b,H a=some (.dT kvs)/\y=.ref b/\H b=some (.tup (k.map kV))/\kvs.length<NX/\H'=upd H a (.dT (putK kvs k v))
theorem Ft.k{H:Hp}{a:Addr}{kvs:List (Key×V)}{k:Key}{v:V}(e:H a=some (.dK kvs))(hl:kvs.length<NX):Ft H a (kV k) v (upd H a (.dK (putK kvs k v))):=.inl ⟨kvs,k,e,rfl,hl,rfl⟩
section
variable {X:Cx}{pins:List (Addr×Obj)}{σ:St}{H:Hp}{s:NP}{a:Addr}{y v:V}{u r:NO}{o:Option V}{A:OF}{E:NO->NP->Prop}{kvs:List (Key×V)}{k:Key}
theorem Inv.big(I:Inv X pins σ H s):Qn<s.heap.objs.size:=by
 have h:=(I.mod.glob.keeps I.bk).lt;exact Tn (by decide) h
theorem zdc(hu:A.units+1<cLine)(I:Inv X pins σ H s)(g:G1 H a y (some v))(ry:RelV y u)(h:∀w' s',Inv X pins σ H s'->RelV v w'->Q w' s') :
  Oy (Os X.prog X.w) A (SG (.ref a) u) Q E s:=by
 rcases g with⟨kvs,k,e,ey,l⟩|⟨kvs,k,b,e,ey,eb,l⟩
 .subst ey
  obtain⟨z,hd,vs,rel,dd⟩:=g6 I.hok e;obtain⟨w',hw,Za⟩:=YY.some_of   (by rw[l];exact rel.val k);exact wpAny_getItem_of (oq ry) dd.mapOf hw (h w' _ (I.tok _) Za)
 .subst ey
  cases (ry);obtain⟨z,hd,xs,rel,dd⟩:=ot I.hok e;obtain⟨w',hw,Za⟩:=YY.some_of   (by rw[l];exact rel.val k);obtain⟨p,hp,hp2⟩:=OD.mp hw;refine wpAny_getItem_heap (Ss hu) (nJ I.hok eb) dd hp ?_;rw[hp2];exact h w' _ (I.tok _) Za
theorem zdd(hu:A.units+1<cLine)(I:Inv X pins σ H s)(g:G1 H a y o)(ry:RelV y u)(h:∀s',Inv X pins σ H s'->Q (.bool o.isSome) s') :
  Oy (Os X.prog X.w) A (OL .In u (.ref a)) Q E s:=by
 rcases g with⟨kvs,k,e,ey,l⟩|⟨kvs,k,b,e,ey,eb,l⟩
 .subst ey
  obtain⟨z,hd,vs,rel,dd⟩:=g6 I.hok e;refine wpAny_in_of (oq ry) hd dd.mapOf ?_;rw[←(rel.val k).isSome_eq,←l];exact h _ (I.tok _)
 .subst ey
  cases (ry);obtain⟨z,hd,xs,rel,dd⟩:=ot I.hok e;refine wpAny_in_heap (Ss hu) (nJ I.hok eb) hd dd ?_;have q:=(rel.val k).isSome_eq;rw[Vb] at q;rw[←q,←l];exact h _ (I.tok _)
theorem zuc(I:Inv X pins σ H s)(mu:Da (H a))(hs:Qy a s.heap h')(he:∃q,h'.get? a=some q)(new:X7 X.prog X.w (upd H a ob) h' a ob) :
  Inv X pins σ (upd H a ob) { s with heap:=h',toks:=t' }:=I.write   mu (.inl rfl) (fun b q hb z=>(hs.2 b hb).trans z) he new
theorem zud(z:kvs.length<=NX)(hd:(a == Qn)=false)(rel:KV kvs vs)(dd:h'.DictOf (cK P w) a vs) :
  X7 P w H' h' a (.dK kvs):=⟨z,hd,vs,rel,dd⟩
theorem zde(hu:A.units+1<cLine)(I:Inv X pins σ H s)(g:Ft H a y v H')(ry:RelV y u)(rv:RelV v r)(h:∀s',Inv X pins σ H' s'->Q () s') :
  Oy (Os X.prog X.w) A (WY (.ref a) u r) Q E s:=by
 rcases g with⟨kvs,k,e,ey,l,eH⟩|⟨kvs,k,b,e,ey,eb,l,eH⟩
 .subst ey eH
  obtain⟨z,hd,vs,rel,dd⟩:=zda I.hok e
  have hz:vs.length<=sizeLine:=by rw[←rel.length];exact z
  have hl:(putK kvs k v).length<=sizeLine:=by have:=ztz kvs k v;omega
  refine wpAny_setItem_pairs  (oq ry) dd fun h' HQ hs=>h _ ?_
  have he:∃q,h'.get? a=some q:=let ⟨q,_,_,hq,_⟩:=HQ;⟨q,hq⟩
  exact zuc I (by rw[e];exact PL) hs he (zud hl hd (rel.put k rv) HQ)
 .subst ey eH
  cases (ry);obtain⟨z,hd,xs,rel,dd⟩:=zdb I.hok e
  have hz:xs.length<=sizeLine:=by rw[←QB rel];exact z
  have hl:(putK kvs k v).length<=sizeLine:=by have:=ztz kvs k v;omega
  refine wpAny_setItem_heap (hsz:=hz) (Ss hu) (nJ I.hok eb) dd fun h' HQ hs=>h _ ?_;obtain⟨q,es,ep,hq,h2,h3,h4,_,h5⟩:=HQ;refine zuc I (by rw[e];exact PL) hs ⟨q,hq⟩ ⟨hl,hd,_,(rel.put k eb rv).keeps fun c ys ec=>?_,q,es,ep,hq,h2,h3,h4,h5⟩;rw[aX (zaf ec e (fun z=>nomatch z))];exact ec
theorem zdf(I:Inv X pins σ H s)(e:Rd H a (.dK kvs))(h:∀t s',Inv X pins σ H s'->Q (.int kvs.length t) s'):Oy (Os X.prog X.w) A (call (.builtin "len") [.ref a]) Q E s:=by
 obtain⟨z,hd,vs,rel,dd⟩:=g6 I.hok e;refine call_len_dict hd dd (by rw[←rel.length];rw[Ua] at z;omega) ?_;rw[←rel.length];exact h _ _ (I.tok _)
end
theorem zdg(I:Inv X pins σ H s)(g:G1 H a y o):s.TypeIs (.ref a) "dict":=by
 rcases g with⟨kvs,k,e,_,_⟩|⟨kvs,k,b,e,_,_,_⟩
 .obtain⟨_,_,vs,_,dd⟩:=g6 I.hok e
  exact dd.typeIs
 .obtain⟨_,_,xs,_,dd⟩:=ot I.hok e
  exact dd.typeIs
def Ic(td ty tv:TE):TS:=fun D σ H=>tv σ H fun v H1=>td σ H1 fun x H2=>ty σ H2 fun y H3=>∃a H4,x=.ref a/\Ft H3 a y v H4/\D.nx σ H4
section
variable {X:Cx}{o i e value:Expr}{pos pos' Yl:Pos}{td ty tv:TE}
theorem zdh(hu:X.A.units+1<cLine)(ho:PE X o td)(hi:PE X i ty)(hv:PE X value tv)(hs:Pi value (some (.Subscript o i pos')) pos.line X.env=pure false) :
  PS X (.Assign [.Subscript o i pos'] value pos) (Ic td ty tv):=by
 intro pins s σ H D I h;refine wpAny_Assign_Subscript (Ya (hv pins s σ H _ I h) fun r s1 ⟨v,H1,I1,rv,q1⟩=>Ya (ho pins s1 σ H1 _ I1 q1) fun u s2 ⟨x,H2,I2,rx,q2⟩=>Ya (hi pins s2 σ H2 _ I2 q2) fun iv s3 ⟨y,H3,I3,ry,a,H4,ex,g,q3⟩=>?_) hs;subst ex;obtain rfl:u=Ol a:=rx;exact zde hu I3 g ry rv fun s4 I4=>⟨σ,H4,I4,q3⟩
end
theorem zdi(h:Heap)(hb:Qn<h.objs.size):X7 P w H (h.push { cls:=.type "dict",data:=.dict #[] }) h.objs.size (.dK []):=⟨QK _,beq_eq_false_iff_ne.mpr (PV (Ot hb)),[],.nil,Heap.DictOf.new h⟩
def Gc:TE:=fun _ H Q=>∀p,H p=none->Q (.ref p) (upd H p (.dK []))
section
variable {X:Cx}{pos:Pos}
theorem zdj:PE X (.Dict [] [] pos) Gc:=fun pins s σ H Q I h=>
 wpAny_Dict_empty ⟨.ref _,_,I.laid    (fun _ _ q=>NQ _ q) (Of _) (zdi _ I.big),rfl,h _ (I.hok.fresh (Of _))⟩
end
def qQ:List (TE×TE)->St->Hp->(List (V×V)->Hp->Prop)->Prop
 |[],_,H,Q=>Q [] H
 |(tk,tv)::r,σ,H,Q=>tk σ H fun x H1=>tv σ H1 fun y H2=>qQ r σ H2 fun ps H3=>Q ((x,y)::ps) H3
abbrev VV:List (V×V)->List (NO×NO)->Prop:=TZ fun p q=>RelV p.1 q.1/\RelV p.2 q.2
def PPs(X:Cx)(pos:Pos)(keys:List (Option Expr))(values:List Expr)(z0:List (TE×TE)):Prop:=
 ∀(pins:List (Addr×Obj)) (s:NP) (σ:St) (H:Hp) (Q:List (V×V)->Hp->Prop),Inv X pins σ H s->qQ z0 σ H Q ->
  Oy (Os X.prog X.w) X.A (evalPairs (pairTrees keys values X.env pos)) (fun vs s'=>∃ps H',Inv X pins σ H' s'/\VV ps vs/\Q ps H') X.xe s
structure M1(X:Cx)(o:Expr)(m:Str)(apos:Pos)(e:Expr)(cpos:Pos):Prop where
 base:Pj o m X.env (eval o X.env)=eval o X.env
 few:((OO cpos (NR [e] X.env)).all (fun x=>!x.1)&&(PX cpos (O8 [] X.env)).all (fun x=>x.1.isSome)
  && decide (([e]:List Expr).length+([]:List PD).length+(if ([]:List PD).isEmpty then 0 else 1)<30))=true
 line:(apos.endLine == cpos.line)=true
 trees:OO cpos (NR [e] X.env)=[(false,eval e X.env)]
structure M2(X:Cx)(o:Expr)(m:Str)(apos:Pos)(e f:Expr)(cpos:Pos):Prop where
 base:Pj o m X.env (eval o X.env)=eval o X.env
 few:((OO cpos (NR [e,f] X.env)).all (fun x=>!x.1)&&(PX cpos (O8 [] X.env)).all (fun x=>x.1.isSome)
  && decide (([e,f]:List Expr).length+([]:List PD).length+(if ([]:List PD).isEmpty then 0 else 1)<30))=true
 line:(apos.endLine == cpos.line)=true
 trees:OO cpos (NR [e,f] X.env)=[(false,eval e X.env),(false,eval f X.env)]
section
variable {X:Cx}{pins:List (Addr×Obj)}{σ:St}{H:Hp}{s:NP}{a:Addr}{kvs:List (Key×V)}{A:OF}{E:NO->NP->Prop}
theorem zdk(I:Inv X pins σ H s)(e:Rd H a (.dK kvs))(h:∀p s',H p=none->Inv X pins σ (upd H p (.dK kvs)) s'->Q (.ref p) s'):Oy (Os X.prog X.w) A (call (.type "dict") [.ref a]) Q E s:=by
 obtain⟨z,hd,vs,rel,dd⟩:=g6 I.hok e;refine kt_call_dict hd dd (by rw[←rel.length];exact z) fun h' HQ hs=>?_;refine h _ _ (I.hok.fresh (Of _)) (I.laid    (fun b q hq=>?_) (Of _) (zud z (beq_eq_false_iff_ne.mpr (PV (Ot I.big))) rel HQ));exact(hs.2 b (Ot (N5 hq))).trans (NQ _ hq)
end
end L2
namespace Att
open PySem PySem.W PySem.Calls PyProof.Rows
theorem zdl:∀(ns:List Int) (vs:List NO),WellAll P h vs (ns.map WData.int)->V1 vs ns:=by
 intro ns
 induction ns with
 |nil=>
  intro vs w;cases w;exact .nil
 |cons n ns ih=>
  intro vs w
  cases w with
  |cons a b=>
   cases a;exact .cons _ _ (ih _ b)
theorem zdm{l:OpenLaw}(hn:l.most=some n){h:Heap}
  (hpre:l.row.toRowW.claim.pre args=true) (hwl:WellAll P h vals args) :
  ∃a vs ns,vals=[Ol a]/\args=[WData.list (ns.map WData.int)]/\h.get? a=some { cls:=.type "list",data:=.seq vs.toArray }/\V1 vs ns/\ns.length<=n:=by
 have hsh:WShape.hasAll [] args [.list .int]=true:=(pre_splitW hpre).1;have hc:l.pre.holds [] { args:=args } = true:=(pre_splitW hpre).2;obtain⟨d,r,rfl,h1,h2⟩:=hasAllW_cons hsh;obtain rfl:=hasAllW_nil h2;obtain⟨xs,rfl,h3⟩:=hasW_list h1;obtain⟨ns,rfl⟩:=items_int h3
 have X4:ns.length<=n:=by
  have h4:=by
   have h4:=(holds_andW hc).1
   rw[hn] at h4<;>omega
  have h5:=condW_of h4 (w_not (w_lt w_lit (w_len_list (w_arg rfl))))<;>grind
 cases hwl with
 |cons w1 w2=>
  cases w2
  cases w1 with
  |list ho vL=>exact⟨_,_,ns,rfl,rfl,ho,zdl ns _ vL,X4⟩
theorem zdn(l:OpenLaw)(args:List WData):l.row.toRowW.claim.post args (.bool true) args=true:=
 postW_of
  (by first|rfl|decide|omega)
  (w_eq_bool (w_res rfl) w_lit) rfl
theorem zdo{l:OpenLaw}{XP:(Str->Option NO)->Heap->Prop}{YP:N8->Heap->Prop}{d:DefRec}
  (hn:l.most=some n) (Eb:d.params.defaults=[])
  (call:∀(w:N8) (s₀ s₁:NP) (mg mb:Str->Option NO) (fa:Addr) (o:Obj) (pm cd doc:NO) (a:Addr) (vs:List NO) (ns:List Int),
   Ground q loose [] XP w s₀ mg mb s₁.heap->YP w s₁.heap ->
   s₁.heap.get? fa=some o->o.data=.func (docDef d.name d.params d.body d.scope pm cd doc)->s₁.heap.CodeRec cd d.name->mg d.name=some (.ref fa) ->
   s₁.heap.get? a=some { cls:=.type "list",data:=.seq vs.toArray }->V1 vs ns->ns.length<=n->s₁.gens = #[] ->
   Sd (Os l.prog w) To (.call (.ref fa) ⟨[.ref a],[]⟩) (fun r s'=>r=.ok (.ret (.bool true))/\OldK s₁.heap s'.heap/\s'.os=s₁.os/\Sb s'.gens) s₁) :
  WalkO q loose XP YP l.row.toRowW d [] (fun f vs=>Tq f vs):=by
 intro w s₀ s₁ mg mb G Y fa o pm cd doc dV kV ho hd hcd hD hmg hg args vals as hpre hlay hrd hwl hlo;obtain rfl:dV=.none:=Dflts.none hD Eb;obtain rfl:kV=.none:=Dflts.noKw hD;obtain⟨a,vs,ns,rfl,rfl,E9,DV,X4⟩:=zdm hn hpre hwl;refine enter_call (Q8 (call w s₀ s₁ mg mb fa o pm cd doc a vs ns G Y ho (fd_plain hd) hcd hmg E9 DV X4 hg) fun r s' hq=>?_);obtain⟨rfl,h2,h3,h4⟩:=hq;exact⟨.inl ⟨.bool true,.bool true,[],rfl,fun _=>rfl,.bool true,zdn l _,fun _=>⟨Xs,fun _ hm=>(nomatch hm)⟩⟩,h2,h3,h4⟩
end Att
namespace L2
theorem zue:∀{vs:List NO}{ns:List Int},V1 vs ns->XC (ns.map V.int) vs
 |_,_,.nil=>.nil
 |_,_,.cons n t h=>.cons ⟨t,rfl⟩ (zue h)
def sC(H:Hp):Prop:=∀b,H b=none\/∃o xs,H b=some (.frz o (.lst xs))
theorem zdp{K:Frag}{mg mb:Str->Option NO}{s₁:NP}{vs:List NO}{ns:List Int}
  (KX:K.In s₁.heap) (GF:s₁.heap.Ns N9 mg) (hb:s₁.heap.Ns V6 mb) (hbb:∀x:Str,x≠"__name__"->mb x=P0 x) (tG:s₁.heap.NoLimit) (hg:s₁.gens = #[])
  (ha:s₁.heap.get? a=some { cls:=.type "list",data:=.seq vs.toArray }) (hi:V1 vs ns) (hl:ns.length<=NX) (hr:X0 k To)
  (F:∀base:Heap,K.In base->base.Ns N9 mg->Xz P w K mg base CX k fa fd [x] sp) (Fo:∀(s:NP) (u:NO),Ur s fd ⟨[u],[]⟩ [(x,u)])
  (Ha:∀H:Hp,sC H->Y8 K H a (ns.map V.int)->sp [.ref a] H (fun v _=>v=.bl true) fun _ _ _=>False)
  (AQ:∀H e s',CX [] H s₁ (fun _ _ _=>False) e s'->False) :
  Sd (Os P w) To (.call (.ref fa) ⟨[.ref a],[]⟩) (fun r s'=>r=.ok (.ret (.bool true))/\OldK s₁.heap s'.heap/\s'.os=s₁.os/\Sb s'.gens) s₁:=by
 have rv:=zue hi;have wB:=hi.length
 have core:∀H:Hp,sC H->Y8 K H a (ns.map V.int)->YR P w H s₁.heap->(∀b,H b≠none->b=a)->(H a≠none->K.lookup a=none) ->
   Sd (Os P w) To (.call (.ref fa) ⟨[.ref a],[]⟩) (fun r s'=>r=.ok (.ret (.bool true))/\OldK s₁.heap s'.heap/\s'.os=s₁.os/\Sb s'.gens) s₁:=by
  intro H hO hS hok hA hK;have D7:∀{b:Addr}{o:Obj},s₁.heap.get? b=some o->H b=none->(hU s₁.heap H).get? b=some o:=fun e n=>zah e n
  have Ig:∀{b:Addr}{o:Obj}{es:Array WV}{ep:Nat},s₁.heap.get? b=some o->o.data=.dict es ep->H b=none:=fun {b o es ep} e d=>by
   cases q:H b with
   |none=>rfl
   |some u=>
    have e':b=a:=hA b (by rw[q];simp);subst e';rw[ha] at e;cases e;have d':Data.seq vs.toArray _=Data.dict es ep:=d;cases d'
  have A9:∀{b:Addr}{m:Str->Option NO},s₁.heap.Ns b m->(hU s₁.heap H).Ns b m:=fun {b m} ⟨o,es,ep,e,d,r⟩=>⟨o,es,ep,D7 e (Ig e d),d,r⟩
  have hKb:K.In (hU s₁.heap H):=fun b o e=>D7 (KX b o e) (by
   cases q:H b with
   |none=>rfl
   |some u=>
    have e':b=a:=hA b (by rw[q];simp);subst e'
    rw[hK (by rw[q];simp)] at e;cases e)
  have hM:Mod K mg (hU s₁.heap H):=⟨hKb,A9 GF,⟨mb,A9 hb,hbb⟩,let ⟨mc,h1,h2⟩:=tG;⟨mc,A9 h1,h2⟩⟩;have e0:BX P w K mg (hU s₁.heap H) To [] s₁ H:=⟨rfl,hM,fun b o e=>zai e,W0 (zag _ _),trivial,fun b hb=>absurd (show b∈([]:List Addr) from hb) (by simp),hok,.of_eq hg⟩;refine Q8 ((F _ hKb (A9 GF)).run To [] s₁ H ⟨[.ref a],[]⟩ [.ref a] [.ref a] _ _ hr e0 (Fo s₁ (.ref a)) (.cons rfl .nil) (Ha H hO hS)) fun r s' h=>?_
  cases r with
  |error e=>exact(AQ H e s' h).elim
  |ok fl=>
   cases fl with
   |next=>exact ON h
   |brk=>exact ON h
   |cont=>exact ON h
   |ret u=>
    obtain⟨v,H',os,bare,un,ut,r',q⟩:=h;have q':v=.bl true:=q;subst q';obtain rfl:u=S9 true:=r';refine⟨rfl,OldK.of_keep fun b o e=>?_,os,bare⟩
    cases q:H b with
    |none=>exact un.keep b o e q (by intro z;exact absurd (show b∈([]:List Addr) from z) (by simp)) (by simp)
    |some u=>
     rcases hO b with z|⟨ob,xs,z⟩
     .rw[q] at z;cases z
     .have z2:=un.frzs b ob _ z
      obtain⟨e1,_⟩:=hok b _ z;obtain⟨e2,_⟩:=ut b _ z2;rw[e] at e1;cases e1;exact e2
 cases hk:K.lookup a with
 |some o=>
  have e:=KX a o hk;rw[ha] at e;cases e;refine core (fun _=>none) (fun _=>.inl rfl) (.inr ⟨_,vs.toArray,_,hk,rfl,rfl,rfl,by rw[O0,wB];exact hl,by simpa using rv⟩) (fun b u z=>by have z':(none:Option HO)=some u:=z;cases z') (fun b z=>absurd rfl z) fun z=>absurd rfl z
 |none=>
  refine core (fun b=>if b=a then some (.frz { cls:=.type "list",data:=.seq vs.toArray } (.lst (ns.map V.int))) else none) (fun b=>?_) (.inl (.inr ⟨{ cls:=.type "list",data:=.seq vs.toArray },if_pos rfl⟩)) (fun b u z=>?_) (fun b z=>?_) fun _=>hk
  .by_cases hb:b=a
   .exact .inr ⟨_,_,if_pos hb⟩
   .exact .inl (if_neg hb)
  .by_cases hb:b=a
   .have z':=(if_pos hb).symm.trans z
    cases z';subst hb;exact⟨ha,by rw[OY];exact hl,vs,_,rv,ha⟩
   .have z':=(if_neg hb).symm.trans z
    cases z'
  .by_cases hb:b=a
   .exact hb
   .exact absurd (if_neg hb) z
theorem zdq{l:Qv}{XP:(Str->Option NO)->Heap->Prop}{YP:N8->Heap->Prop}{d:DefRec}{K:W2->Frag}{CX:N8->CF}{sp:N8->Sp}
  (hn:l.most=some n) (Cm:n<=NX) (Eb:d.params.defaults=[]) (hr:X0 k To)
  (hY:∀(w:N8) (h:Heap),YP w h->(K w.params).In h)
  (F:∀(w:N8) (mg:Str->Option NO) (fa:Addr) (h:Heap),(K w.params).In h->h.Ns N9 mg->mg d.name=some (.ref fa) ->
   ∃fd:Oe,(∀(s:NP) (u:NO),Ur s fd ⟨[u],[]⟩ [(x,u)]) /\
    ∀base:Heap,(K w.params).In base->base.Ns N9 mg->Xz l.prog w (K w.params) mg base (CX w) k fa fd [x] (sp w))
  (Ha:∀(w:N8) (H:Hp) (a:Addr) (ns:List Int),ns.length<=n->sC H->Y8 (K w.params) H a (ns.map V.int)->sp w [.ref a] H (fun v _=>v=.bl true) fun _ _ _=>False)
  (AQ:∀(w:N8) (H:Hp) (s:NP) (e:NO) (s':NP),CX w [] H s (fun _ _ _=>False) e s'->False) :
  UM q loose XP YP l.row.toRowW d [] (fun f vs=>Tq f vs):=by
 refine Att.zdo hn Eb fun w s₀ s₁ mg mb fa o pm cd doc a vs ns G Y ho hd hcd hmg E9 DV X4 hg=>?_;have KX:=hY w _ Y;obtain⟨fd,hb,hF⟩:=F w mg fa _ KX G.T.g hmg;exact zdp KX G.T.g G.T.b G.T.builtins G.T.nolimit hg E9 DV (Oc X4 Cm) hr hF hb (fun H hO hS=>Ha w H a ns X4 hO hS) fun H e s'=>AQ w H s₁ e s'
def dG(s:Stmt):Arguments:=match s with
 |.FunctionDef _ a _ _ _ _ _ _ _ _=>a
 |_=>{ posonlyargs:=[],args:=[],vararg:=none,kwonlyargs:=[],kw_defaults:=[],kwarg:=none,defaults:=[] }
def cX(s:Stmt):List Stmt:=match s with
 |.FunctionDef _ _ b _ _ _ _ _ _ _=>b
 |_=>[]
def aI(s:Stmt):Scope:=match s with
 |.FunctionDef _ _ _ _ _ _ sc _ _ _=>sc
 |_=>{ kind:=.function,names:=[],isGenerator:=false,isCoroutine:=false }
abbrev Yi:CF:=fun _ _ _ _ _ _=>False
abbrev E0:XK:=fun _ _ _=>False
theorem lH:eK Yi X E0:=fun _ _ _ _ _ _ _ h=>h.elim
structure Yd(K:Frag)(x qual:Str)(st:Stmt)(f:Addr)(fd:Oe):Prop where
 ex:∃(oc:NO) (od:Option Addr) (kV doc pm:NO) (an:Option Addr) (XF ct:NO) (osl:Array (Option NO)),
  fd=Pa x qual (dG st) (cX st) (aI st) .none kV doc pm an XF ct/\K.lookup f=some ⟨oc,od,.func fd,osl⟩/\QI K XF qual=true
 kp:OT K (.ref f)=true
section
variable {P:NU}{w:N8}{K:Frag}{mg:Str->Option NO}{base:Heap}{X:Cx}
theorem Yd.ok{x qual:Str}{st:Stmt}{f:Addr}{fd:Oe}{N ps:List Str}{k:Nat}{sp:Sp}(F:Yd K x qual st f fd)(S:Xw N ps (aI st))(len:∀vs H Q E,sp vs H Q E->vs.length=ps.length)
  (Bk:∀(XF:NO) (A:OF) (outer:List Env) (s:NP) (H:Hp) (vs:List V) (Q:VK) (E:XK),X0 k (A.deeper (Pz qual (aI st) s.heap.objs.size f XF))->sp vs H Q E ->
   ∃t,ZZ (bg Yi P w K mg base N qual (aI st) f XF A outer s H E).nox (cX st) t/\t { nx:=fun _ H'=>Q .non H',rt:=Q } (start N vs) H):Xz P w K mg base Yi (k+1) f fd ps sp:=by
 obtain⟨oc,od,kV,doc,pm,an,XF,ct,osl,rfl,lk,hcd⟩:=F.ex;refine zto lk hcd S len fun A outer s H vs Q E hr Ha=>?_;obtain⟨t,h,q⟩:=Bk XF A _ s H vs Q E hr Ha;exact⟨t,h.nox,q⟩
theorem Yd.binds{x qual:Str}{st:Stmt}{f:Addr}{fd:Oe}{ps:List Str}(F:Yd K x qual st f fd)
  (h:∀(kV doc pm:NO) (an:Option Addr) (XF ct:NO) (us:List NO),us.length=ps.length->Sq (Pa x qual (dG st) (cX st) (aI st) .none kV doc pm an XF ct) ⟨us,[]⟩=pure (ps.zip us)):Binds K fd ps []:=by
 obtain⟨oc,od,kV,doc,pm,an,XF,ct,osl,rfl,lk,hcd⟩:=F.ex;exact .all (h kV doc pm an XF ct)
theorem ir{x qual:Str}{st:Stmt}{f:Addr}{oc:NO}{od an:Option Addr}{osl:Array (Option NO)}{kV doc pm XF ct:NO}(l:K.lookup f=some ⟨oc,od,.func (Pa x qual (dG st) (cX st) (aI st) .none kV doc pm an XF ct),osl⟩)
  (c:QI K XF qual=true) (k:OT K (.ref f)=true):Yd K x qual st f (Pa x qual (dG st) (cX st) (aI st) .none kV doc pm an XF ct):=⟨⟨oc,od,kV,doc,pm,an,XF,ct,osl,rfl,l,c⟩,k⟩
theorem pv(i:Nat)(hN:X.N[i]? = some x:=by rfl)(hv:Dt X.env.scope x:=by first|exact Qp rfl|exact PZ (Qp rfl)|exact PZ (PZ rfl))(hd:(x == ("__debug__" : Str))=false:=by decide)
  (hcd:(x == ("__classdict__" : Str))=false:=by decide):PE X (.Name x pos) (fV i):=zaj hN hv hd hcd
end
theorem gw{A B:Prop}(h:B):if false=true then A else B :=by simp_all
theorem hJ{A B:Prop}(h:A):if true=true then A else B :=by simp_all
end L2
set_option maxHeartbeats 4000000
namespace K1
open PySem
def has(signs x:Str):Bool:=x.cps.toList.all fun c=>decide (c∈signs.cps.toList)
def ZV:Str:="abcdefghijklmnopqrstuvwxyz"
def Iz:Str:="abcdefghijklmnopqrstuvwxyz0123456789-"
def single:NN->Bool
 |.int i=>decide ((if i<0 then -i else i)<=10^18)
 |.str x=>decide (x.length<=20)&&has Iz x
 |_=>false
def aJ:Nat->NN->Bool
 |0,.tuple _=>false
 |n+1,.tuple ds=>decide (ds.length<=8)&&ds.all (aJ n)
 |_,d=>single d
def aP:Nat->NN->Int
 |n+1,.tuple ds=>1+(ds.map (aP n)).sum
 |_,_=>1
def E1:Nat->NN->Int
 |n+1,.tuple ds=>if ds.length>8 then 100 else 1+(ds.map (E1 n)).sum
 |_,d=>if single d=true then 1 else 100
def isName:NN->Bool
 |.str x=>decide (1<=x.length)&&decide (x.length<=8)&&has ZV x
 |_=>false
def aS(d:NN):Bool:=aJ 4 d&&decide (aP 4 d<=40)
theorem zuf{α:Type}(f:α->Int)(h:∀a,1<=f a):∀l:List α,(l.length:Int)<=(l.map f).sum
 |[]=>by simp
 |a::r=>by
  have:=zuf f h r;have:=h a;simp;omega
def Fq:Nat->NN->Bool
 |0,.tuple _=>false
 |n+1,.tuple ds=>ds.all (Fq n)
 |_,_=>true
theorem zug:∀(n:Nat) (d:NN),aJ n d=true->Fq n d=true
 |0,d,h=>by cases d <;> first|rfl|cases h
 |n+1,d,h=>by
  cases d with
  |tuple ds=>
   have e:aJ (n+1) (.tuple ds)=(decide _&&ds.all _):=rfl;rw[e,NY] at h;exact Oq.mpr fun x hx=>zug n x (Oq.mp h.2 x hx)
  |_=>rfl
def kW(best:Int):List Int->Int
 |[]=>best
 |n::r=>kW (if n>best then n else best) r
def kg(d:Int):List Int->Int
 |[]=>d
 |n::r=>kW n r
def bc:Nat->NN->Int
 |n+1,.tuple ds=>1+kg 0 (ds.map (bc n))
 |_,_=>0
def yz(acc:Int):List Int->Int
 |[]=>acc
 |n::r=>yz (if 1+n>acc then 1+n else acc) r
def Ik:Nat->NN->Int
 |n+1,.tuple ds=>yz 1 (ds.map (Ik n))
 |_,_=>0
end K1
namespace L2
open PySem
def bA(env:Env):List (Str×QH)->List (Str×Addr)->List (Str×Addr)
 |[],acc=>acc
 |(n,k)::r,acc=>bA env r (if (k == .free)=true then (n,(env.cells.lookup n).getD 0)::acc else acc)
theorem pP:∀(l:List (Str×QH)) (acc:List (Str×Addr)),(∀x∈l,x.2=.free->∃c,env.cells.lookup x.1=some c) ->
  (forIn l acc (fun x r=>match x with
   | (name,kind)=>if (kind == PF)=true then (do
     let c ←cellOf env name
     pure (Qw ((name,c)::r))) else pure (Qw r)):Sem (List (Str×Addr)))=pure (bA env l acc)
 |[],acc,_=>rfl
 |(n,k)::r,acc,h=>by
  rw[R6];have hr:=fun x hx=>h x (NV _ hx)
  cases hk:(k == PF) with
  |false=>
   have ih:=pP r acc hr
   have e:bA env ((n,k)::r) acc=bA env r acc:=by simp[bA,hk]
   rw[e];dsimp only;rw[if_neg (by simp_all)];exact ih
  |true=>
   obtain⟨c,hc⟩:=h _ NZ (by simpa using hk);have ih:=pP r ((n,c)::acc) hr;have GZ:=hc
   have e:bA env ((n,k)::r) acc=bA env r ((n,c)::acc):=by simp[bA,hk,GZ]
   have e2:cellOf env n=pure c:=by unfold cellOf;rw[GZ]
   rw[e];dsimp only;rw[if_pos hk,e2];exact ih
theorem pz(h:∀x∈scope.names,x.2=.free->∃c,env.cells.lookup x.1=some c):closureFor scope env=pure (bA env scope.names []):=by
 have q:=pP  _ [] h;exact congrArg (fun t=>t >>= fun z=>pure z) q
theorem zuh:∀(l:List (Str×QH)) (acc:List (Str×Addr)) (x:Str) (c:Addr),(∀y d,acc.lookup y=some d->env.cells.lookup y=some d) ->
  (∀y∈l,y.2=.free->∃c,env.cells.lookup y.1=some c)->(bA env l acc).lookup x=some c->env.cells.lookup x=some c
 |[],acc,x,c,ha,_,e=>ha x c e
 |(n,k)::r,acc,x,c,ha,h,e=>by
  have hr:=fun x hx=>h x (NV _ hx);refine zuh r _ x c ?_ hr e;intro y d q
  cases hk:(k == PF) with
  |false=>simp_all
  |true=>
   rw[hk,if_pos rfl] at q
   obtain⟨c',hc⟩:=h _ NZ (by simpa using hk)<;>grind
theorem zui:∀(l:List (Str×QH)) (acc:List (Str×Addr)) (x:Str),(acc.lookup x).isSome=true->((bA env l acc).lookup x).isSome=true
 |[],_,_,h=>h
 |(n,k)::r,acc,x,h=>by
  refine zui r _ x ?_
  cases hk:(k == PF) <;>simp_all
theorem zuj:∀(l:List (Str×QH)) (acc:List (Str×Addr)) (x:Str),(x,PF)∈l->((bA env l acc).lookup x).isSome=true
 |[],_,_,h=>absurd h (by simp)
 |(n,k)::r,acc,x,h=>by
  rcases N4.mp h with e|e
  .refine zui r _ _ ?_<;>simp_all
  .exact zuj r _ x e
structure CS(osc:P4)(N:List Str)(x:Str)(scope:P4)(N':List Str):Prop where
 kind:scope.kind=.function
 nocell:∀y∈scope.names,y.2≠.cell
 names:∀y∈scope.names,y.2=.local->scope.names.lookup y.1=some .local
 hx:scope.names.lookup x=some .local
 only:∀y∈scope.names,y.2=.local->y.1=x\/y.1=".0"
 free:∀y∈scope.names,y.2=.free->osc.names.lookup y.1=some .cell\/osc.names.lookup y.1=some .free
 nd:(x::N').Nodup
 n0:(".0" : Str)∉N'
 len:N'.length=N.length
 rel:∀p∈N'.zip N,p.1=p.2\/∀q∈scope.names,q.1≠p.1
theorem CS.at{osc:P4}{N N':List Str}{x:Str}{scope:P4}(S:CS osc N x scope N'){j:Nat}{y:Str}(h:N'[j]? = some y):N[j]? = some y\/∀q∈scope.names,q.1≠y:=by
 have hl:=(NS.mp h).1
 have Bv:j<N.length:=by rw[←S.len];exact hl
 have m:(N'.zip N)[j]? = some (y,N[j]):=by
  rw[List.getElem?_zip_eq_some];exact⟨h,P2 Bv⟩
 rcases S.rel _ (OC m) with z|z
 simp_all
 .exact .inr z
theorem zuk{c:Str×QH->Bool}:∀{names:List (Str×QH)}{y:Str}{k':QH},
  (names.map fun p=>if (p.2 == PF&&c p)=true then (p.1,NameKind.cell) else (p.1,p.2)).lookup y=some k'->∃k,(y,k)∈names/\(k'=k\/(k=.free/\k'=.cell))
 |[],_,_,h=>by simp at h
 |(n,k)::r,y,k',h=>by
  rw[OJ] at h
  by_cases hy:y=n
  .grind
  .have hb:=beq_eq_false_iff_ne.mpr hy
   have h':=by
    cases hc:(k == PF&&c (n,k)) with
    |false=>simp only[hc,Rl,if_false,RP,hb] at h;exact h
    |true=>simp only[hc,if_true,RP,hb] at h;exact h
   obtain⟨k2,m,e⟩:=zuk h';exact⟨k2,NV _ m,e⟩
theorem pd(h:(Vc scope env).names.lookup y=some k'):∃k,(y,k)∈scope.names/\(k'=k\/(k=.free/\k'=.cell)):=by
 refine zuk (c:=fun p=>env.scope.kind == .function&&env.kindOf p.1 == some .cell) ?_;rw[←h]
 congr 1
 refine OX fun p _=>?_;simp only[Bool.and_assoc]
abbrev cz(X:Cx)(x:Str)(scope:P4)(C:Addr)(s0:NP)(H0:Hp)(ex:List Addr)(N':List Str):Cx where
 prog:=X.prog
 w:=X.w
 K:=X.K
 mg:=X.mg
 base:=X.base
 A:=X.A
 N:=x::N'
 s₀:=s0
 H₀:=H0
 env:=P5 scope (bA X.env scope.names []) C X.env
 outer:=X.stack
 stack:=X.stack
 ex:=ex
 fn:=fun _=>false
 calm:=X.calm
 pn:=[]
 xe:=fun _ _=>False
section
variable {X:Cx}{pins:List (Addr×Obj)}{σ:St}{H:Hp}{s:NP}{x:Str}{scope:P4}{N':List Str}
theorem mB(I:Inv X pins σ H s)(S:CS X.env.scope X.N x scope N'):∀y∈scope.names,y.2=.free->∃c,X.env.cells.lookup y.1=some c:=fun y hy e=>
 I.ok.has y.1 (S.free y hy e)
theorem zul(I:Inv X pins σ H s)(S:CS X.env.scope X.N x scope N')(e:(bA X.env scope.names []).lookup y=some c):X.env.cells.lookup y=some c:=zuh _ [] y c (fun _ _ z=>by simp at z) (mB I S) e
theorem zum(I:Inv X pins σ H s)(S:CS X.env.scope X.N x scope N')(e:(y,PF)∈scope.names):∃c,(bA X.env scope.names []).lookup y=some c/\X.env.cells.lookup y=some c:=by
 obtain⟨c,hc⟩:=QD.mp (zuj  _ [] y e);exact⟨c,hc,zul I S hc⟩
theorem pq(I:Inv X pins σ H s)(S:CS X.env.scope X.N x scope N')(hf:∀b∈fp,cV X pins H b)(ho:∀b∈fp,∃o,s.heap.get? b=some o)
  (GF:h'.Ns (s.heap.push oD).objs.size m) (ZG:Qy (s.heap.push oD).objs.size ((s.heap.push oD).push oC) h') :
  Inv (cz X x scope (s.heap.push oD).objs.size { s with heap:=s.heap.push oD } H (s.heap.objs.size::fp) N') [] (none::σ) H { s with heap:=h',toks:=tk }:=by
 have I3:Inv X pins σ H { s with heap:=s.heap.push oD,toks:=s.toks }:=I.kept fun b o e=>NQ _ e;have hC:(s.heap.push oD).objs.size=s.heap.objs.size+1:=PM ..
 have Jh:∀b o,(s.heap.push oD).get? b=some o->h'.get? b=some o:=fun b o e=>
  (ZG.2 b (Ot (N5 e))).trans (NQ _ e)
 have up:∀b o,s.heap.get? b=some o->h'.get? b=some o:=fun b o e=>Jh b o (NQ _ e);have cl:=fun {y c} e=>zul (y:=y) (c:=c) I S e
 have clt:∀y c,X.env.cells.lookup y=some c->c<s.heap.objs.size:=fun y c e=>let ⟨v,q⟩:=I.cell y c e;q.lt
 have inner:∀{y:Str}{k':QH},(Vc scope X.env).names.lookup y=some k'->(k'=.cell\/k'=.free)->(y,PF)∈scope.names:=fun {y k'} e hk=>by
  obtain⟨k,mem,r⟩:=pd e
  rcases r with r|⟨r,_⟩
  .rcases hk with z|z
   .exact absurd (r.symm.trans z) (S.nocell _ mem)
   .rw[←r.symm.trans z];exact mem
  .rw[←r];exact mem
 have ok:(cz X x scope (s.heap.push oD).objs.size { s with heap:=s.heap.push oD } H (s.heap.objs.size::fp) N').Ok:=by
  refine⟨I.ok.mod,S.kind,I.ok.glob,I.ok.blt,Of _,fun y z c e1 e2=>I.ok.inj y z c (cl e1) (cl e2),fun y hk=>?_,fun y c e=>(nomatch e),I.ok.hd,I.ok.frames,.inl rfl,fun b hb=>?_,fun b o e=>?_,
   Oc (Oc I.ok.bsz I.sz) (by show s.heap.objs.size<=(s.heap.push oD).objs.size;omega),fun b o e hb=>?_,fun b hb z=>?_,I3.stack,I.stkFree⟩
  .have mem:(y,PF)∈scope.names:=by
    rcases hk with z|z
    .exact inner z (.inl rfl)
    .exact inner z (.inr rfl)
   obtain⟨c,hc,_⟩:=zum I S mem;exact⟨c,hc⟩
  .rcases N4.mp hb with e|e
   .subst e
    exact⟨by show s.heap.objs.size≠(s.heap.push oD).objs.size;omega,fun y c e=>Ot (clt y c (cl e))⟩
   .obtain⟨o,q⟩:=ho b e
    have q2:=N5 q;exact⟨by show b≠(s.heap.push oD).objs.size;rw[hC];exact Ot (QZ q2),fun y c e'=>(hf b e).2.2.2.2.1 y c (cl e')⟩
  .exact⟨NQ _ (I.bs b o e).1,(I.bs b o e).2⟩
  .rcases N4.mp hb with z|z
   .have q2:=N5 (I.bs b o e).1
    rw[z] at q2;exact OK _ q2
   .rcases(hf b z).2.2.2.1 with q|q
    .exact I.ok.noex b o e q
    .have q2:=N5 (I.ok.bs b o e).1
     exact OK _ (N6 q2 q)
  .have z':=I.stkSub b z
   rcases N4.mp hb with e|e
   .subst e
    rcases N4.mp z' with q|q
    .have q2:=I.lt
     rw[←q] at q2;exact OK _ q2
    .exact I.nofs (Of _) q
   .rcases N4.mp z' with q|q
    .exact(hf b e).2.1 q
    .exact(hf b e).2.2.1 q
 obtain⟨mo,Hv,hlo⟩:=I.loc;refine⟨ok,rfl,I.bare,Un.kept Jh,⟨m,GF,fun i y v e1 e2 e3=>?_⟩,fun y c e=>?_,I.hok.fresh (by show s.heap.objs.size<=(s.heap.push oD).objs.size;omega),fun y c e=>I.freeC y c (cl e),fun p hp=>absurd hp (by simp),I.hok.kept up,?_⟩
 .cases i with
  |zero=>simp at e2
  |succ j=>
   have vM:N'[j]? = some y:=by simpa using e1
   have vis:∃k,(y,k)∈scope.names:=by
    rcases(show Dt (Vc scope X.env) y from e3) with z|z|z <;> exact let ⟨k,mem,_⟩:=pd z;⟨k,mem⟩
   have GI:X.N[j]? = some y:=by
    rcases S.at vM with z|z
    .exact z
    .obtain⟨k,mem⟩:=vis
     exact absurd rfl (z _ mem)
   have D9:σ[j]? = some (some v):=by simpa using e2
   have yx:y≠x:=fun z=>by
    have nd:=S.nd;rw[QQ] at nd;refine nd.1 ?_;rw[←z];exact OC vM
   have kin:((Vc scope X.env).names.lookup y=some .cell\/(Vc scope X.env).names.lookup y=some .free):=by
    rcases(show Dt (Vc scope X.env) y from e3) with z|z|z
    .obtain⟨k,mem,r⟩:=pd z
     rcases r with r|⟨_,r⟩
     .rcases S.only _ mem r.symm with z2|z2
      .exact absurd z2 yx
      .exact absurd (OC vM) (by rw[show y=(".0" : Str) from z2];exact S.n0)
     .cases r
    .exact .inl z
    .exact .inr z
   have mem:(y,PF)∈scope.names:=by
    rcases kin with z|z
    .exact inner z (.inl rfl)
    .exact inner z (.inr rfl)
   have vo:Dt X.env.scope y:=by
    rcases S.free _ mem rfl with z|z
    .exact .inr (.inl z)
    .exact .inr (.inr z)
   obtain⟨u,ru,lk⟩:=hlo j y v GI D9 vo;refine⟨u,ru,.inr ⟨kin,?_⟩⟩;obtain⟨c,hc,GZ⟩:=zum I S mem;refine⟨c,hc,?_⟩
   rcases lk with⟨z,_⟩|⟨_,c2,z2,q⟩
   .exfalso
    have z':X.env.scope.names.lookup y=some .local:=z
    rcases S.free _ mem rfl with r|r <;> (rw[z'] at r;cases r)
   .rw[GZ] at z2
    cases z2;obtain⟨o,q1,q2⟩:=q;exact⟨o,up _ _ q1,q2⟩
 .obtain⟨v,o,q1,q2⟩:=I.cell y c (cl e)
  exact⟨v,o,up _ _ q1,q2⟩
 .have:=I.len
  simp[this,S.len]
theorem pj(I:Inv X pins σ H s)(hf:∀b∈fp,cV X pins H b)
  (EL:C=(s.heap.push oD).objs.size) (J:Inv (cz X x scope C { s with heap:=s.heap.push oD } H (s.heap.objs.size::fp) N') Zr σ' H1 s1) (ZG:Qy C s1.heap h') (hD0:H1 s.heap.objs.size=none)
  (new:∃Xx n,XC ys Xx/\s1.heap.get? s.heap.objs.size=some { cls:=.type "list",data:=.seq Xx.toArray n }) (hz:ys.length<=NX) :
  Inv X pins σ (upd H1 s.heap.objs.size (.lst ys)) { s1 with heap:=h' }:=by
 have hC:C=s.heap.objs.size+1:=by rw[EL];exact PM ..
 have nD:∀b o,s.heap.get? b=some o->b≠s.heap.objs.size:=fun b o e=>Ot (N5 e)
 have nC:∀b o,s.heap.get? b=some o->b≠C:=fun b o e=>by rw[hC];exact Ot (QZ (N5 e))
 have up:∀b o,s.heap.get? b=some o->(s.heap.push oD).get? b=some o:=fun b o e=>NQ _ e;have nx:∀b,b∉fp->b≠s.heap.objs.size->b∉s.heap.objs.size::fp:=fun b h1 h2 z=>(N4.mp z).elim h2 h1
 have Aa:s.heap.objs.size≠C:=by rw[hC];exact Ot (RN _)
 have tr:∀b u,H1 b=some u->b≠s.heap.objs.size:=fun b u e z=>by rw[z,hD0] at e;cases e
 have Hr:∀b u,H1 b=some u->b≠C:=fun b u e z=>by
  have:=J.free;rw[z] at e;have q:H1 C=none:=J.free;rw[q] at e;cases e
 obtain⟨Xx,n,rv,eD⟩:=new;have B:=J.base;refine I.call' (s':={ s1 with heap:=h' }) (ch:=fp) J.os ⟨fun b o e q h1 h2=>?_,fun b o e q h1 h2=>?_,fun b o e q h2=>?_,fun b o e h2=>?_,fun b xs e=>?_,fun b o u e=>?_,fun b ps e=>?_⟩ (fun b u e=>?_) J.bare fun b hb=>?_
 .exact(ZG.2 b (nC b o e)).trans (B.keep b o (up b o e) q h1 (nx b h2 (nD b o e)))
 .obtain⟨sl,z⟩:=B.slot b o (up b o e) q h1 (nx b h2 (nD b o e))
  exact⟨sl,(ZG.2 b (nC b o e)).trans z⟩
 .rw[aX (nD b o e)]
  exact B.free b o (up b o e) q (nx b h2 (nD b o e))
 .obtain⟨o',z⟩:=B.there b o (up b o e) (nx b h2 (nD b o e))
  exact⟨o',(ZG.2 b (nC b o e)).trans z⟩
 .have z:=B.tups b xs e
  rw[aX (tr b _ z)];exact z
 .have z:=B.frzs b o u e
  rw[aX (tr b _ z)];exact z
 .obtain⟨more,z⟩:=B.tbls b ps e
  exact⟨more,by rw[aX (tr b _ z)];exact z⟩
 .by_cases hb:b=s.heap.objs.size
  .subst hb
   rw[bu] at e;cases e;exact⟨hz,Xx,n,rv,(ZG.2 _ Aa).trans eD⟩
  .rw[aX hb] at e
   refine(J.hok b u e).stay (fun c v hc q=>(ZG.2 c ?_).trans q) (fun c q=>by rw[aX (tr c _ q)];exact q) fun c xs q=>by rw[aX (tr c _ q)];exact q
   rcases hc with z|z
   .rw[z];exact Hr b u e
   .exact Hr c _ z
 .obtain⟨_,f1,_,f3,f4,f5⟩:=hf b hb
  exact⟨f3,f1,f4,f5⟩
end
def Ei(X:Cx)(ifs:List Expr)(t:TT):Prop:=
 ∀(pins:List (Addr×Obj)) (s:NP) (σ:St) (H:Hp) (Q:Bool->Hp->Prop) (E:NO->NP->Prop),Inv X pins σ H s->t σ H Q ->
  Oy (Os X.prog X.w) X.A (forIn ifs true fun c r=>if r=true then do
   let ok ←V7 c X.env (eval c X.env)
   pure (Qw ok) else pure (Qw r)) (TP X pins σ Q) E s
theorem zun:Ei X [] (fun _ H Q=>Q true H):=fun _ _ _ H _ _ I h=>wpAny_tests_nil ⟨H,I,h⟩
def lU(σ:St)(J:It)(tt:TT)(te:TE)(W:Nat->Nat->List V->Hp->Prop)(D:List V->Hp->Prop):Prop:=∀i m ys H,W i m ys H ->
 (J.stop i H/\ys.length<=NX/\D ys H)\/(J.go i H/\ys.length<NX/\∃N:List V->Hp->Prop,(∀ys' H',N ys' H'->∃m',m' < m/\W (i+1) m' ys' H')/\∀v H',J.yld i H v H'->tt (some v::σ) H' fun b H2=>
  if b=true then te (some v::σ) H2 fun y H3=>N (ys++[y]) H3 else N ys H2)
section
variable {X:Cx}{pins:List (Addr×Obj)}{σ:St}{H:Hp}{s:NP}{x:Str}{scope:P4}{N':List Str}{elt iter:Expr}{ifs:List Expr}{px pos:Pos}{wi:TI}{te:TE}{tt:TT}
theorem zuo{fp:List Addr}{it C:Addr}{tn:Nat->Heap->Prop}{J:It}{oD:Obj}{elt iter:Expr}{ifs:List Expr}{px pos:Pos}{te:TE}{tt:TT}{W:Nat->Nat->List V->Hp->Prop}{Dn:List V->Hp->Prop}
  {R:Vt->NP->Prop}{σ':St}{s4:NP}{m0:Nat} (By:X.calm=true) (S:CS X.env.scope X.N x scope N') (hf:∀b∈fp,cV X pins H b) (ho:∀b∈fp,∃o,s.heap.get? b=some o) (EL:C=(s.heap.push oD).objs.size)
  (T:Turn X.prog X.w X.K (.Name x px) J fp it tn) (I4:Inv (cz X x scope C { s with heap:=s.heap.push oD } H (s.heap.objs.size::fp) N') [] (none::σ) H s4) (AH:tn 0 s4.heap) (AB:s4.heap.get? s.heap.objs.size=some { cls:=.type "list",data:=.seq #[] 0 })
  (AA:H s.heap.objs.size=none) (Ax:PE (cz X x scope C { s with heap:=s.heap.push oD } H (s.heap.objs.size::fp) N') elt te) (zU:Ei (cz X x scope C { s with heap:=s.heap.push oD } H (s.heap.objs.size::fp) N') ifs tt)
  (w0:W 0 m0 [] H) (turn:lU σ J tt te W Dn)
  (hR:∀s1 H1 E8 ys Xx n,Inv (cz X x scope C { s with heap:=s.heap.push oD } H (s.heap.objs.size::fp) N') [] E8 H1 s1->H1 s.heap.objs.size=none->XC ys Xx->s1.heap.get? s.heap.objs.size=some { cls:=.type "list",data:=.seq Xx.toArray n }->ys.length<=NX->Dn ys H1->R (.ok .next) s1) :
  Sd (Os X.prog X.w) X.A (.compLoop (.ListComp elt [⟨.Name x px,iter,ifs,0⟩] scope pos) 0 (.ref it) (.ref s.heap.objs.size) (P5 scope (bA X.env scope.names []) C X.env)) R s4:=by
 have hC:C=s.heap.objs.size+1:=by rw[EL];exact PM ..
 generalize hX:cz X x scope C { s with heap:=s.heap.push oD } H (s.heap.objs.size::fp) N'=X' at *
 have xP:X'.prog=X.prog:=by rw[←hX]
 have xW:X'.w=X.w:=by rw[←hX]
 have xK:X'.K=X.K:=by rw[←hX]
 have xA:X'.A=X.A:=by rw[←hX]
 have xE:X'.env=P5 scope (bA X.env scope.names []) C X.env:=by rw[←hX]
 have xC:X'.calm=true:=by rw[←hX];exact By
 have FK:X'.ex=s.heap.objs.size::fp:=by rw[←hX]
 have FJ:X'.pn=[]:=by rw[←hX]
 have BC:X'.xe=fun _ _=>False:=by rw[←hX]
 have xN:X'.N=x::N':=by rw[←hX]
 have xL:X'.env.locals=C:=by rw[xE];rfl
 have DQ:X'.env.scope.names.lookup x=some .local:=by rw[xE];exact Ue S.hx
 have lt:∀b∈fp,b<s.heap.objs.size:=fun b hb=>let ⟨_,e⟩:=ho b hb;N5 e
 have E7:∀{pl:List (Addr×Obj)}{H':Hp},(∀p∈pl,p.1=s.heap.objs.size)->(∀b∈fp,H' b=none)->∀b∈fp,cV X' pl H' b:=fun {pl H'} hp hn b hb=>by
  have EH:=I4.ok
  have hm:b∈X'.ex:=by rw[FK];exact NV _ hb
  refine⟨hn b hb,(EH.exf b hm).1,EH.exfs b hm,.inl hm,(EH.exf b hm).2,fun p Yo z=>?_⟩;rw[FJ] at Yo;have q1:=hp p (by simpa using Yo);have q2:=lt b hb;rw[←z,q1] at q2;exact OK _ q2
 have II:∀{pl:List (Addr×Obj)}{H':Hp},(∀p∈pl,p.1∈fp)->H' s.heap.objs.size=none->cV X' pl H' s.heap.objs.size:=fun {pl H'} hp hn=>by
  have EH:=I4.ok
  have hm:s.heap.objs.size∈X'.ex:=by rw[FK];exact NZ
  refine⟨hn,(EH.exf _ hm).1,EH.exfs _ hm,.inl hm,(EH.exf _ hm).2,fun p Yo z=>?_⟩;rw[FJ] at Yo;have q2:=lt p.1 (hp p (by simpa using Yo));rw[z] at q2;exact OK _ q2
 refine Tr (I:=fun m s'=>∃i B3 H' ys Xx n,Inv X' [] (B3::σ) H' s'/\tn i s'.heap/\(∀b∈fp,H' b=none)/\H' s.heap.objs.size=none/\XC ys Xx/\s'.heap.get? s.heap.objs.size=some { cls:=.type "list",data:=.seq Xx.toArray n }/\W i m ys H') ?_ m0
  ⟨0,none,H,[],[],0,I4,AH,fun b hb=>(hf b hb).1,AA,.nil,AB,w0⟩
 rintro m s5 ⟨i,B3,H5,ys,Xx,n,I5,IE,Ho,d5,rv,e5,w5⟩
 have HH:Inv X' ([]++fj [s.heap.objs.size] s5.heap) (B3::σ) H5 s5:=I5.pinned (fun b hb=>by
   have e:b=s.heap.objs.size:=by simpa using hb
   rw[e];exact II (fun p hp=>absurd hp (by simp)) d5) fun b hb=>by
   have e:b=s.heap.objs.size:=by simpa using hb
   rw[e];exact⟨_,e5,fun v z=>by cases z⟩
 have pD:([]++fj [s.heap.objs.size] s5.heap:List (Addr×Obj))=[(s.heap.objs.size,{ cls:=.type "list",data:=.seq Xx.toArray n })]:=by
  simp[fj,e5]
 rw[pD] at HH
 have p1:∀p∈[(s.heap.objs.size,({ cls:=.type "list",data:=.seq Xx.toArray n }:Obj))],p.1=s.heap.objs.size:=fun p hp=>by
  have e:p=(s.heap.objs.size,{ cls:=.type "list",data:=.seq Xx.toArray n }):=by simpa using hp
  rw[e]
 have hsz:Xx.length=ys.length:=rv.length.symm
 rcases turn i m ys H5 w5 with⟨stop,hz,dn⟩|⟨go,hz,N,hN,step⟩
 .have q:=T.done X' xP xW xK xC i _ s5 (B3::σ) H5 (Q0 (Os X.prog X.w) X.A (P5 scope (bA X.env scope.names []) C X.env) fun e s'=>R (.error e) s') HH (E7 p1 Ho) IE stop
  rw[xA] at q;refine O5 q (fun r s6 z=>?_) fun _ _ z=>z;obtain⟨rfl,I6⟩:=z;refine hR s6 H5 (B3::σ) ys Xx n ?_ d5 rv (I6.pin _ (On _ (Od.mpr rfl))).1 hz dn;exact I6.pins_of fun p hp=>absurd hp (by simp)
 .have q:=T.item X' xP xW xK xC i _ s5 (B3::σ) H5 (Q0 (Os X.prog X.w) X.A (P5 scope (bA X.env scope.names []) C X.env) fun e s'=>R (.error e) s') HH (E7 p1 Ho) IE go
  rw[xA] at q;refine O5 q (fun r s6 z=>?_) fun _ _ z=>z;obtain⟨u,rfl,z⟩:=z;dsimp only;have z':Oy (Os X.prog X.w) X.A (pure ()) _ _ s6:=z;refine NT (m:=pure ()) (f:=fun _=>Ta (.Name x px) (P5 scope (bA X.env scope.names []) C X.env) u) (O5 z' (fun _ s7 z=>?_) fun _ _ z=>z);obtain⟨v,H7,I7,zZ,y7,G3,xH⟩:=z;have vC:=I7.pinned (E7 p1 xH) (T.obj _ _ G3);rw[←xE]
  have nd:X'.N.Nodup:=by rw[xN];exact S.nd
  have Dq:X'.N[0]? = some x:=by rw[xN];rfl
  refine Rv (kz (E:=Q0 (Os X.prog X.w) X.A X'.env fun e s'=>R (.error e) s') (i:=0) vC nd Dq (.inl DQ) zZ (fun s8 I8=>?_) (.inr DQ));have uK:Inv X' _ (some v::σ) H7 s8:=I8;have t8:=zU _ s8 (some v::σ) H7 _ (Q0 (Os X.prog X.w) X.A X'.env fun e s'=>R (.error e) s') uK (step v H7 y7);rw[xP,xW,xA] at t8;refine O5 t8 (fun ok s9 z=>?_) fun _ _ z=>z;obtain⟨H9,I9,q9⟩:=z
  have back:∀{s':NP}{H':Hp}{Gj:St},Inv X' ([(s.heap.objs.size,({ cls:=.type "list",data:=.seq Xx.toArray n }:Obj))]++fj fp s7.heap) Gj H' s' ->
    tn (i+1) s'.heap/\(∀b∈fp,H' b=none)/\H' s.heap.objs.size=none/\s'.heap.get? s.heap.objs.size=some { cls:=.type "list",data:=.seq Xx.toArray n }/\Inv X' [] Gj H' s':=fun {s' H' Gj} I'=>by
   refine⟨T.keep _ _ _ G3 fun b hb o e=>(I'.pin (b,o) (On _ (On _ (jC hb e)))).1,fun b hb=>?_,?_,?_,I'.pins_of fun p hp=>absurd hp (by simp)⟩
   .obtain⟨o,e,_⟩:=T.obj _ _ G3 b hb
    exact(I'.pin (b,o) (On _ (On _ (jC hb e)))).2.1
   .exact(I'.pin (s.heap.objs.size,_) (On _ (OR _ (Od.mpr rfl)))).2.1
   .exact(I'.pin (s.heap.objs.size,_) (On _ (OR _ (Od.mpr rfl)))).1
  cases ok with
  |false=>
   simp only[Rl,if_false] at q9 ⊢;obtain⟨m',hm,w9⟩:=hN _ _ q9;obtain⟨a1,a2,a3,a4,a5⟩:=back I9;exact⟨m',hm,i+1,some v,H9,ys,Xx,n,a5,a1,a2,a3,rv,a4,w9⟩
  |true=>
   simp only[if_true] at q9 ⊢;have t9:=Ax _ s9 (some v::σ) H9 _ I9 q9;rw[xP,xW,xA,BC] at t9;refine O5 t9 (fun u2 AM z=>?_) fun _ _ z=>z.elim;obtain⟨y,sW,wG,r10,EJ⟩:=z;obtain⟨m',hm,Ad⟩:=hN _ _ EJ;obtain⟨a1,a2,a3,a4,a5⟩:=back wG;refine SZ ⟨n,a4⟩ (fun h' pl sb=>?_) (by rw[O0];omega);obtain⟨n',e'⟩:=pl;have D0:=II (pl:=[]) (fun p hp=>absurd hp (by simp)) a3;refine⟨m',hm,i+1,some v,sW,ys++[y],Xx++[u2],n',a5.turned (t':=AM.toks) (fun b o hb e=>(sb.2 b hb).trans e) D0.1 D0.2.1 D0.2.2.2.1 D0.2.2.2.2.1 D0.2.2.2.2.2,?_,a2,a3,rv.append (.cons r10 .nil),by simpa using e',Ad⟩;exact T.keep _ _ _ a1 fun b hb o e=>(sb.2 b (Ot (lt b hb))).trans e
def rE(wi:TI)(tt:TT)(te:TE):TE:=fun σ H Q=>wi σ H fun J H1=>∃W:Nat->Nat->List V->Hp->Prop,(∃m,W 0 m [] H1)/\lU σ J tt te W fun ys H=>∀p,H p=none->Q (.ref p) (upd H p (.lst ys))
theorem zdr(hc:X.calm=true)(S:CS X.env.scope X.N x scope N')(hi:PI X (.Name x px) iter wi)(he:∀C s0 H0 ex,PE (cz X x scope C s0 H0 ex N') elt te)
  (ht:∀C s0 H0 ex,Ei (cz X x scope C s0 H0 ex N') ifs tt) (hs:∀v,Pe iter X.env v=pure v:=by intro _;rfl):PE X (.ListComp elt [⟨.Name x px,iter,ifs,0⟩] scope pos) (rE wi tt te):=by
 intro pins s σ H Q I h;refine Re  rfl hs (pz (mB I S)) S.kind S.names (Ya (hi pins s σ H _ I h) fun v s1 h1=>Ya h1 fun Gu s2 h2=>?_);obtain⟨it,fp,tn,J,H2,rfl,I2,T,CM,f2,W,⟨m0,w0⟩,turn⟩:=h2
 have ho:∀b∈fp,∃o,s2.heap.get? b=some o:=fun b hb=>let ⟨o,e,_⟩:=T.obj _ _ CM b hb;⟨o,e⟩
 refine Pu (RU S.nocell (by intro y hy;simp at hy) (fun h' GF ZG=>?_) S.kind);have I4:=pq (x:=x)  (tk:=s2.toks+([]:List (Str×NO)).length) I2 S f2 ho GF ZG
 have Jh:∀b o,(s2.heap.push { cls:=.type "list",dict:=none,data:=.seq _ }).get? b=some o->h'.get? b=some o:=fun b o e=>
  (ZG.2 b (Ot (N5 e))).trans (NQ _ e)
 have AH:=T.keep _ _ _ CM fun b _ o e=>Jh b o (NQ _ e)
 have loop:=zuo  (iter:=iter)  (pos:=pos) (R:=Wd (Os X.prog X.w) X.A X.xe none (EP X pins σ Q) _ _) (σ':=σ)
  hc S f2 ho rfl T I4 AH (Jh _ _ (Ox _ rfl)) (I2.hok.fresh (Of _)) (he _ _ _ _) (ht _ _ _ _) w0 turn fun s5 H5 σ5 ys Xx n J5 d5 rv e5 hz dn=>by
   obtain⟨m,hn,_⟩:=J5.loc;exact⟨m,hn,fun Ka sb=>⟨.ref _,_,pj I2 f2 rfl J5 sb d5 ⟨Xx,n,rv,e5⟩ hz,rfl,dn _ d5⟩⟩
 exact RC loop (T.self X.A 0 _ _ _ AH loop)
def Ie(i:Nat)(wi:TI)(tt:TT)(te:TE):TS:=fun D σ H=>wi σ H fun J H1=>∃W:Nat->Nat->List V->Hp->Prop,(∃m,W 0 m [] H1)/\lU σ J tt te W fun ys H=>∀p,H p=none->D.nx (σ.set i (some (.ref p))) (upd H p (.lst ys))
theorem zds(hc:X.calm=true)(S:CS X.env.scope X.N x scope N')(hN:X.N.Nodup)(Hd:X.N[i]? = some y)(hy:Loc X.env.scope y)(Jm:X.fn y=true\/X.env.scope.names.lookup y=some .local)
  (hi:PI X (.Name x px) iter wi) (he:∀C s0 H0 ex,PE (cz X x scope C s0 H0 ex N') elt te)
  (ht:∀C s0 H0 ex,Ei (cz X x scope C s0 H0 ex N') ifs tt) (GP:Pi (.ListComp elt [⟨.Name x px,iter,ifs,0⟩] scope pos) (some (.Name y py)) Du.line X.env=pure true) (hs:∀v,Pe iter X.env v=pure v:=by intro _;rfl) :
  PS X (.Assign [.Name y py] (.ListComp elt [⟨.Name x px,iter,ifs,0⟩] scope pos) Du) (Ie i wi tt te):=by
 intro pins s σ H D I h;rw[exec_Assign_Name_used _ _ _ _ GP];refine NT (SJ (NT ?_));refine NT (O5 (Re (use:=some (Ta (.Name y py) X.env)) (Q:=fun _ s'=>SP X pins D .next s') rfl hs (pz (mB I S)) S.kind S.names (Ya (hi pins s σ H _ I h) fun v s1 h1=>Ya h1 fun Gu s2 h2=>?_)) (fun _ _ q=>Ou (Ou q)) fun _ _ q=>q);obtain⟨it,fp,tn,J,H2,rfl,I2,T,CM,f2,W,⟨m0,w0⟩,turn⟩:=h2
 have ho:∀b∈fp,∃o,s2.heap.get? b=some o:=fun b hb=>let ⟨o,e,_⟩:=T.obj _ _ CM b hb;⟨o,e⟩
 refine Pu (RU S.nocell (by intro y hy;simp at hy) (fun h' GF ZG=>?_) S.kind);have I4:=pq (x:=x) (scope:=scope) (tk:=s2.toks+([]:List (Str×NO)).length) I2 S f2 ho GF ZG
 have Jh:∀b o,(s2.heap.push { cls:=.type "list",dict:=none,data:=.seq ([]:List NO).toArray }).get? b=some o->h'.get? b=some o:=fun b o e=>
  (ZG.2 b (Ot (N5 e))).trans (NQ _ e)
 have AH:tn 0 h':=T.keep _ _ _ CM fun b _ o e=>Jh b o (NQ _ e)
 have zR:s2.heap.objs.size<=(s2.heap.push { cls:=.type "list",dict:=none,data:=.seq ([]:List NO).toArray }).objs.size:=by rw[PM];omega
 have Aa:(s2.heap.push { cls:=.type "list",dict:=none,data:=.seq ([]:List NO).toArray }).objs.size≠s2.heap.objs.size:=by rw[PM];omega
 have loop:=zuo (elt:=elt) (iter:=iter) (ifs:=ifs) (pos:=pos) (R:=Wd (Os X.prog X.w) X.A X.xe (some (Ta (.Name y py) X.env)) (fun _ s'=>SP X pins D .next s') (.ref s2.heap.objs.size) (s2.heap.push { cls:=.type "list",dict:=none,data:=.seq ([]:List NO).toArray }).objs.size) (σ':=σ)
  hc S f2 ho rfl T I4 AH (Jh _ _ (Ox _ rfl)) (I2.hok.fresh (Of _)) (he _ _ _ _) (ht _ _ _ _) w0 turn fun s5 H5 σ5 ys Xx n J5 d5 rv e5 hz dn=>by
   have J6:=pj I2 f2 rfl J5 (Xt _ _) d5 ⟨Xx,n,rv,e5⟩ hz;obtain⟨m,hn,_⟩:=J5.loc;refine Rv (zsn (u:=.ref s2.heap.objs.size) J6 hN Hd hy (show RelV (.ref s2.heap.objs.size) _ from rfl) (fun s7 I7 ⟨a,sb,ha⟩=>?_) Jm)
   have hCa:(s2.heap.push { cls:=.type "list",dict:=none,data:=.seq ([]:List NO).toArray }).objs.size≠a:=by
    rcases ha with z|z
    .rw[z]
     exact Qe (N6 I2.lt zR)
    .obtain⟨v,q⟩:=I2.cell _ _ z
     exact Qe (N6 q.lt zR)
   have hn5:H5 (s2.heap.push { cls:=.type "list",dict:=none,data:=.seq ([]:List NO).toArray }).objs.size=none:=J5.free;have fk:=I2.fpOk (b:=(s2.heap.push { cls:=.type "list",dict:=none,data:=.seq ([]:List NO).toArray }).objs.size) (H':=upd H5 s2.heap.objs.size (.lst ys)) zR (by rw[aX Aa];exact hn5);refine⟨m,hn.sameBut sb hCa,fun Ka sb2=>⟨_,_,I7.turned (t':=s7.toks) (fun b o hb e=>(sb2.2 b hb).trans e) fk.1 fk.2.1 fk.2.2.2.1 fk.2.2.2.2.1 fk.2.2.2.2.2,dn _ d5⟩⟩
 exact RC loop (T.self X.A 0 _ _ _ AH loop)
end
def B5(z:Str):It:=⟨fun i _=>i<z.cps.size,fun i H v H'=>H'=H/\∃c,z.cps[i]? = some c/\v=.str ⟨#[c]⟩,fun i _=>z.cps.size<=i⟩
theorem zup{P:NU}{w:N8}{K:Frag}{tg:Expr}(z:Str)(t:Tok)(ty:String)(it:Addr)(Cg:ty="str_ascii_iterator"\/ty="str_iterator") :
  Turn P w K tg (B5 z) [it] it (fun i h=>h.IsStrIter it ty z t i) where
 mem:=by simp
 obj:=fun i h st b hb=>by
  have e:b=it:=by simpa using hb
  subst e;obtain⟨o,e,c,d⟩:=st;exact⟨o,e,fun v q=>by rw[d] at q;cases q⟩
 keep:=fun i h h' st k=>let ⟨o,e,r⟩:=st;⟨o,k it (by simp) o e,r⟩
 item:=by
  intro X hP hw hK hc i pins s σ H E I hf st hg;subst hP hw hK;have hi:i<z.cps.size:=hg;obtain⟨f0,f1,f2,f3,f4,f5⟩:=hf it (by simp)
  have fin:∀h',h'.IsStrIter it ty z t (i+1)->Qy it s.heap h'->∃u,(some (Sg ⟨#[z.cps[i]]⟩ s.toks):Option NO)=some u /\
    Oy (Os X.prog X.w) X.A (Tu tg (.ref it) u) (fun _ s2=>∃x H',Inv X pins σ H' s2/\RelV x u/\(B5 z).yld i H x H'/\s2.heap.IsStrIter it ty z t (i+1)/\∀b∈[it],H' b=none) E { s with heap:=h',toks:=s.toks+1 }:=fun h' De sb=>by
   have I1:Inv X pins σ H { s with heap:=h',toks:=s.toks+1 }:=I.turned (fun b o hb e=>(sb.2 b hb).trans e) f0 f1 f3 f4 f5;obtain⟨o,e,c,d⟩:=id De;refine⟨_,rfl,lO (s:={ s with heap:=h',toks:=s.toks+1 }) (n:=ty) e c d ?_ ⟨.str ⟨#[z.cps[i]]⟩,H,I1,⟨_,rfl⟩,⟨rfl,z.cps[i],by simp[hi],rfl⟩,De,fun b hb=>(hf b hb).1⟩⟩
   rcases Cg with e|e <;> (rw[e];decide)
  rcases Cg with e|e
  .subst e
   exact wpAny_pyNext_ascii_item st (c:=z.cps[i]) (by simp[hi]) fin
  .subst e
   exact wpAny_pyNext_wide_item st (c:=z.cps[i]) (by simp[hi]) fin
 done:=by
  intro X hP hw hK hc i pins s σ H E I hf st hg;subst hP hw hK;have hi:z.cps.size<=i:=hg;obtain⟨f0,f1,f2,f3,f4,f5⟩:=hf it (by simp);have fin:∀h',Heap.ExtBut it s.heap h'->(none:Option NO)=none/\Inv X pins σ H { s with heap:=h' }:=fun h' eb=>⟨rfl,I.turned (t':=s.toks) (fun b o hb e=>eb b o hb e) f0 f1 f3 f4 f5⟩
  rcases Cg with e|e
  .subst e
   exact wpAny_pyNext_ascii_end (I.ok.hd hc) st (by simp;omega) fin
  .subst e
   exact wpAny_pyNext_wide_end (I.ok.hd hc) st (by simp;omega) fin
 self:=fun _ _ _ _ _ st h=>by
  rcases Cg with e|e
  .subst e
   exact wpAny_pyIter_striter_ascii st h
  .subst e
   exact wpAny_pyIter_striter_wide st h
theorem all_range(bs:List Bool)(n:Nat)(hn:n=bs.length):(OQ n).all (fun i=>bs.getD i false)=bs.all id:=by
 subst hn;rw[PQ,Oq,Oq];constructor
 .intro h b hb
  obtain⟨i,hi,rfl⟩:=UD hb<;>simp_all
 .intro h i hi
  have Hd:=Rt.mp hi
  have:=h bs[i] (RQ Hd)<;>simp_all
theorem sZ:∀(ns:List Int) (k:Nat),k<=ns.length->preSum (fun i=>ns.getD i 0) k=(ns.take k).sum
 |ns,0,_=>by simp[preSum]
 |ns,k+1,h=>by
  have hk:k<ns.length:=h;have ih:=sZ ns k (Q6 hk)
  have e:(ns.take (k+1)).sum=(ns.take k).sum+ns.getD k 0:=by
   rw[Vd,List.sum_append]<;>simp_all
  rw[e,←ih];rfl
section
variable {X:Cx}
theorem zdt(hc:X.calm=true):Yk X (.builtin "all") (fun xs H Q=>∃(p:Addr) (bs:List Bool),xs=[.ref p]/\Y8 X.K H p (bs.map V.bl)/\Q (.bl (bs.all id)) H):=by
 intro pins s σ H xs us Q I r h;obtain⟨p,bs,rfl,hq,q⟩:=h;obtain⟨u,rfl,ru⟩:=vals1 r;cases ru;obtain⟨Xx,rv,pl,hz⟩:=I.list hq
 have X4:=by have:=rv.length;simpa using this.symm
 have ZU:p<s.heap.objs.size:=by
  obtain⟨o,n,e,_⟩:=pl;exact N5 e
 refine call_all_walk (SH pl.isList ?_);refine⟨s.heap.objs.size,_,_,_,_,_,fun i=>bs.getD i false,rfl,Xn (A:=X.A.in1) (I.ok.hd hc) _ p (Ot ZU) Xx.toArray,⟨⟨_,Ox _ rfl,rfl,rfl⟩,?_⟩,fun i v s' Q' E' hv hQ'=>?_,fun h' tk hk=>?_⟩
 .obtain⟨o,n,e,r⟩:=pl.isList
  exact⟨o,NQ _ n,e,r⟩
 .have hi:=by
   have:=(Pp.mp hv).1;simpa using this
  have hi2:i<bs.length:=by omega
  obtain⟨u,hu,ru⟩:=rv.get (i:=i) (x:=.bl bs[i]) (by simp[hi2])
  have e:v=u:=by simp_all
  subst e;cases (ru)
  refine PJ ?_<;>simp_all
 .have e:(OQ Xx.toArray.size).all _=bs.all id:=all_range bs _ (by omega)
  rw[e];exact⟨.bl _,H,I.kept  fun b o q=>hk b o (by simp;exact Ot (N5 q)) (NQ _ q),rfl,q⟩
theorem zdu{ns:List Int}{Xx:List NO}(rv:XC (ns.map V.int) Xx){i:Nat}{v:NO}(hv:Xx.toArray[i]? = some v):∃t,v=.int (ns.getD i 0) t:=by
 have X4:=by have:=rv.length;simpa using this.symm
 have hi:=by
  have:=(Pp.mp hv).1<;>omega
 have hi2:=by omega
 obtain⟨u,hu,ru⟩:=rv.get (i:=i) (x:=.int ns[i]) (by simp )
 have e:v=u:=by simp_all
 obtain⟨t,e⟩:=(ru)<;>simp_all
theorem zdv(hc:X.calm=true):Yk X (.builtin "sum") (fun xs H Q=>∃(p:Addr) (ns:List Int),xs=[.ref p]/\Y8 X.K H p (ns.map V.int)/\Q (.int ns.sum) H):=by
 intro pins s σ H xs us Q I r h;obtain⟨p,ns,rfl,hq,q⟩:=h;obtain⟨u,rfl,ru⟩:=vals1 r;cases ru;obtain⟨Xx,rv,pl,hz⟩:=I.list hq
 have X4:=by have:=rv.length;simpa using this.symm
 have ZU:p<s.heap.objs.size:=by
  obtain⟨o,n,e,_⟩:=pl;exact N5 e
 refine call_sum_walkG (SH pl.isList ?_);refine⟨s.heap.objs.size,_,_,_,_,_,fun i=>ns.getD i 0,rfl,Xn (A:=X.A.in1) (I.ok.hd hc) _ p (Ot ZU) _,⟨⟨_,Ox _ rfl,rfl,rfl⟩,?_⟩,fun b hb=>?_,fun i v hv=>zdu rv hv,fun h' tk t' hk=>?_⟩
 .obtain⟨o,n,e,r⟩:=pl.isList
  exact⟨o,NQ _ n,e,r⟩
 .rw[PM]
  rcases(by simpa using hb) with e|e
  simp_all
  .rw[e];exact QZ ZU
 .have e:preSum (fun i=>ns.getD i 0) Xx.toArray.size=ns.sum:=by
   rw[sZ ns _ _]<;>grind
  rw[e];exact⟨.int _,H,I.kept  fun b o q=>hk b o (by simp;exact Ot (N5 q)) (NQ _ q),⟨t',rfl⟩,q⟩
end
open K1 (kW kg)
section
variable {X:Cx}
theorem zdw:YQ X (OL .IsNot) (fun x y H Q=>∃b c,x=.bl b/\y=.bl c/\Q (.bl (b != c)) H):=by
 intro pins s σ H x y v u Q I rx ry h;obtain⟨b,c,rfl,rfl,q⟩:=h;cases rx;cases ry;exact isnot_bool ⟨.bl _,H,I,rfl,q⟩
theorem EF:YQ X (Pw .Add) (fun x y H Q=>∃a b xs ys,x=.ref a/\y=.ref b/\Zz X.K H a xs/\Zz X.K H b ys/\xs.length+ys.length<=NX /\
  (xs=[]->Q (.ref b) H)/\(xs≠[]->ys=[]->Q (.ref a) H)/\(xs≠[]->ys≠[]->∀p,H p=none->Q (.ref p) (upd H p (.tup (xs++ys))))):=by
 intro pins s σ H x y v u Q I rx ry h;obtain⟨a,b,xs,ys,rfl,rfl,ha,hb,hz,q0,q1,q2⟩:=h
 by_cases hx:xs=[]
 .cases rx
  cases ry;obtain⟨Xx,r1,p1,_⟩:=I.tuple ha;obtain⟨JO,r2,p2,_⟩:=I.tuple hb;have hv:=r1.nil_iff.mpr hx;obtain⟨⟨cls,dd,data,sl⟩,ho,hc,n,hd⟩:=id p1;obtain⟨⟨Fe,Km,data2,JR⟩,Jq,XW,n2,hd2⟩:=id p2;subst hc hd XW hd2
  exact Te ⟨_,ho,rfl⟩ ⟨_,Jq,rfl⟩ SW UK RB Ro (Rb _ _)
   (tuple_addW0 a b _ _ n n2 dd Km sl JR (by simp[hv])) ⟨ho,Jq,⟨.ref b,H,I,rfl,q0 hx⟩⟩
 .exact zco pins s σ H _ _ v u Q I rx ry ⟨a,b,xs,ys,rfl,rfl,ha,hb,hx,hz,q1 hx,q2 hx⟩
theorem zdx:IX X (fun x lo hi H Q=>∃z:Str,x=.str z/\z.length<=NX/\Q (.str (P9 z lo hi)) H):=by
 intro pins s σ H x v vl vu lo hi sl Q I rx hs pl pu h;obtain⟨z,rfl,hz,q⟩:=h;obtain⟨t,rfl⟩:=rx
 have fin:∀l u:Option (Int×Tok),l.map (·.1)=lo->u.map (·.1)=hi->s.heap.IsSlice sl l u none->Oy (Os X.prog X.w) X.A (SG (.str z t) (.ref sl)) (EP X pins σ Q) X.xe s:=fun l u el eu h=>by
  refine wpAny_getItem_str_slice h rfl ?_;refine post_val_or_made (fun _=>?_) fun t' k=>?_
  .have:=sliceIndices_le (l.map (·.1)) (u.map (·.1)) z.length
   have e:=List.length_filterMap_le (fun i=>z.cps[i]?) (VJ z l u none);show ((VJ z l u none).filterMap (z.cps[·]?)).toArray.size<=NX;rw[O0];unfold VJ at e ⊢;simp only[VR,SY] at e ⊢;omega
  .refine⟨.str (P9 z lo hi),H,I.tok _,⟨t',?_⟩,q⟩
   rw[←el,←eu];rfl
 refine⟨"str",_,PySem.F.slot_str_getitem.lookup,QM s z t,?_⟩
 cases pl with
 |none=>
  cases pu with
  |none=>exact fin none none rfl rfl hs
  |int j u=>exact fin none (some (j,u)) rfl rfl hs
 |int i u=>
  cases pu with
  |none=>exact fin (some (i,u)) none rfl rfl hs
  |int j u'=>exact fin (some (i,u)) (some (j,u')) rfl rfl hs
theorem Hf:YQ X (Pw .Mult) (fun x y H Q=>∃z k,x=.str z/\y=.int k/\0<=k/\k<=2000/\z.length<=1000/\Q (.str (QF z k)) H):=by
 intro pins s σ H x y v u Q I rx ry h;obtain⟨z,k,rfl,rfl,h1,h2,h3,q⟩:=h;obtain⟨t,rfl⟩:=rx;obtain⟨t',rfl⟩:=ry;have hm:z.length*k.toNat<=1000*2000:=Ug h3 (by omega);refine SB.mul ⟨?_,fun g1 g2=>?_,fun g1 g2=>?_⟩ fun t' k'=>⟨.str _,H,I.tok _,⟨t',rfl⟩,q⟩
 .simp;omega
 .have hk:1<=k:=by simp at g1;omega
  have e1:(1000:Int)<=(2^63-1) / k:=by
   rw[Int.le_ediv_iff_mul_le (by omega)];omega
  omega
 .unfold Builtin.Str.tooLong
  simp[NX];omega
end
theorem sR:∀{us:List NO},XC (ys.map V.str) us->StrsAre us ys:=by
 induction ys with
 |nil=>intro us r;cases r;exact .nil
 |cons y ys ih=>
  intro us r
  cases r with
  |cons r1 r2=>
   obtain⟨t,e⟩:=r1;subst e;exact .cons y t (ih r2)
structure Fn(P:NU)(w:N8)(K:Frag)(mg:Str->Option NO)(base:Heap)(name:Str)(ps:List Str)(k:Nat)(sp:Sp):Prop where
 ex:∃f fd,Xz P w K mg base Yi k f fd ps sp/\Binds K fd ps []/\OT K (.ref f)=true/\mg name=some (.ref f)
section
variable {X:Cx}{name:Str}{ps:List Str}{k:Nat}{sp:Sp}{e:Expr}{es:List Expr}{t:TA}{p pos:Pos}
theorem rL(F:Fn X.prog X.w X.K X.mg X.base name ps k sp)(hr:X0 k X.A)(hg:Gl X name)(ha:PA X (e::es) t)(YN:(name == ("__debug__" : Str))=false:=by decide)
  (he:NR (e::es) X.env=(false,eval e X.env)::NR es X.env:=by rfl) (Yo:(OO pos (NR es X.env)).any (·.1)=false:=by rfl):PE X (.Call (.Name name p) (e::es) [] pos) (rF sp [] E0 t):=by
 obtain⟨f,fd,h1,h2,h3,h4⟩:=F.ex;exact ztf h1 hr hg h4 h3 h2 .nil lH ha YN he Yo
end
theorem zdy(S:CS osc N x scope N')(hi:PI X (.Name x px) iter wi)
  (he:∀C s0 H0 ex,PE (cz X x scope C s0 H0 ex N') elt te) (ht:∀C s0 H0 ex,Ei (cz X x scope C s0 H0 ex N') ifs tt) (hc:X.calm=true:=by rfl) (hs:X.env.scope=osc:=by rfl) (hN:X.N=N:=by rfl)
  (hf:∀v,Pe iter X.env v=pure v:=by intro _;rfl):PE X (.ListComp elt [⟨.Name x px,iter,ifs,0⟩] scope pos) (rE wi tt te):=by
 subst hs hN;exact zdr hc S hi he ht hf
end L2
namespace D
open L2
inductive Gh(P:Hp->Prop):Hp->Prop where
 |done {H:Hp}:P H->Gh P H
 |frz {H:Hp}{a:Addr}{kvs:List (Key×V)}:H a=some (.dK kvs)->(∀o,Gh P (upd H a (.frz o (.dK kvs))))->Gh P H
theorem Gh.imp(g:Gh P H)(i:∀H,P H->P' H):Gh P' H:=by
 induction g with
 |done h=>exact .done (i _ h)
 |frz e _ ih=>exact .frz e ih
section
variable {X:Cx}{pins:List (Addr×Obj)}{σ:L2.St}{H:Hp}{s:NP}
theorem zdz(I:Inv X pins σ H s)(e:H a=some (.dK kvs)):∃o,Inv X pins σ (upd H a (.frz o (.dK kvs))) s:=by
 obtain⟨z,y,vs,kv,o,es,ep,eo,r⟩:=I.hok a _ e
 have U:∀{b:Addr}{u:HO},H b=some u->(∀ks,u≠.dK ks)->upd H a (.frz o (.dK kvs)) b=some u:=fun {b u} q n=>by
  rw[aX (fun z=>by subst z<;>grind)];exact q
 have hok:YR _ X.w (upd H a (.frz o _)) _:=fun b u q=>by
  by_cases hb:b=a
  .subst hb
   rw[bu] at q;cases q;exact⟨eo,(I.hok b _ e).stay (fun _ _ _ q=>q) (fun c q=>U q (fun _ z=>nomatch z)) fun c xs q=>U q (fun _ z=>nomatch z)⟩
  .rw[aX hb] at q
   exact(I.hok b u q).stay (fun _ _ _ q=>q) (fun c q=>U q (fun _ z=>nomatch z)) fun c xs q=>U q (fun _ z=>nomatch z)
 exact⟨o,I.un   ⟨fun b ob q n _ _=>q,fun b ob q n _ _=>⟨_,q⟩,fun b ob q n _=>by rw[aX (fun z=>by grind)];exact n,fun b ob q _=>⟨_,q⟩,fun b xs q=>U q (fun _ z=>nomatch z),
  fun b ob u q=>U q (fun _ z=>nomatch z),fun b ps q=>⟨#[],by simp_all⟩⟩ hok⟩
theorem Gh.ok(g:Gh P H)(I:Inv X pins σ H s):∃H',Inv X pins σ H' s/\P H':=by
 induction g with
 |done h=>exact⟨_,I,h⟩
 |frz e _ ih=>
  obtain⟨o,I'⟩:=zdz I e;exact ih o I'
theorem zea{st:Stmt}{t:TS}(h:PS X st t):PS X st (fun D σ H=>Gh (t D σ) H):=fun pins s σ H D I q=>by
 obtain⟨H',I',q'⟩:=q.ok I;exact h pins s σ H' D I' q'
theorem zeb(h:PE X e t):PE X e (fun σ H Q=>t σ H fun v H1=>Gh (Q v) H1):=fun pins s σ H Q I q=>
 Ya (h pins s σ H _ I q) fun u s' ⟨v,H',I',r,q'⟩=>by
  obtain⟨H2,I2,q2⟩:=q'.ok I';exact⟨v,H2,I2,r,q2⟩
end
def kj(o:Obj):Nat:=match o.data with
 |.dict _ ep=>ep
 |_=>0
def yO(a:Addr)(o:Obj)(kvs:List (Key×V)):It:=⟨fun i H=>H a=some (.frz o (.dK kvs))/\i<kvs.length,fun i H x H'=>H'=H/\∃k v,kvs[i]? = some (k,v)/\x=kV k,fun i H=>H a=some (.frz o (.dK kvs))/\i=kvs.length⟩
theorem pN(ok:YR P w H h)(e:H a=some (.frz o (.dK kvs))):kvs.length<=NX/\(a == Qn)=false/\∃vs,KV kvs vs/\h.DictAt (cK P w) a vs (kj o):=by
 obtain⟨e1,z,y,vs,kv,o',es,ep,e2,ed,dd,r⟩:=ok a _ e;rw[e1] at e2;cases e2;refine⟨z,y,vs,kv,o,es,e1,ed,?_,r⟩;unfold kj;rw[dd]
theorem Jt(e:(cK P w).is k v=true):RelV (kV k) v:=by
 rcases fB (e) with⟨i,t,rfl,rfl⟩|⟨x,t,rfl,rfl⟩
 .exact⟨t,rfl⟩
 .exact⟨t,rfl⟩
theorem zec{kvs:List (Key×V)}{vs:List (Key×NO)}(r:KV kvs vs){i:Nat}{k:Key}{x:NO}(e:vs[i]? = some (k,x)):∃v,kvs[i]? = some (k,v):=by
 have h:=r.keys
 have h1:(vs.map (·.1))[i]? = some k:=by simp_all
 rw[←h,Pt] at h1<;>simp_all
theorem zed{P:NU}{w:N8}{K:Frag}{tg:Expr}(a it:Addr)(o:Obj)(kvs:List (Key×V)):Turn P w K tg (yO a o kvs) [it] it (fun i h=>h.IsKeyIter it a i kvs.length (kj o)) where
 mem:=by simp
 obj:=fun i h st b hb=>by
  have e:b=it:=by simpa using hb
  subst e;obtain⟨o,e,c,d⟩:=st;exact⟨o,e,fun v z=>by rw[d] at z;cases z⟩
 keep:=fun i h h' st k=>st.at fun o e=>k it (by simp) o e
 item:=by
  intro X hP hw hK hc i pins s σ H E I hf st hg;subst hP hw hK;obtain⟨Hx,Dr⟩:=hg;obtain⟨z,y,vs,kv,dd⟩:=pN I.hok Hx;obtain⟨f0,f1,f2,f3,f4,f5⟩:=hf it (by simp);have hl:=kv.length
  have ne:a≠it:=fun q=>by rw[q,f0] at Hx;cases Hx
  have W:=We (prog:=X.prog) (w:=X.w) (knd:=cK X.prog X.w) (I.ok.hd hc) it a ne vs (kj o);refine W.item i s _ _ (by omega) ⟨by rw[←hl];exact st,dd⟩ fun v h' tk hv De kk=>?_;obtain⟨k,x,h1,h2⟩:=hv;have I1:Inv X pins σ H { s with heap:=h',toks:=tk }:=I.turned (fun b o hb e=>kk b o (by simpa using hb) e) f0 f1 f3 f4 f5
  have st1:h'.IsKeyIter it a (i+1) kvs.length (kj o):=by rw[hl];exact De.1
  obtain⟨o1,e1,c1,d1⟩:=id st1;obtain⟨v0,h3⟩:=zec kv h1;exact⟨v,rfl,lO (s:={ s with heap:=h',toks:=tk }) e1 c1 d1 (by decide) ⟨kV k,H,I1,Jt h2,⟨rfl,k,v0,h3,rfl⟩,st1,fun b hb=>(hf b hb).1⟩⟩
 done:=by
  intro X hP hw hK hc i pins s σ H E I hf st hg;subst hP hw hK;obtain⟨Hx,Dr⟩:=hg;obtain⟨z,y,vs,kv,dd⟩:=pN I.hok Hx;obtain⟨f0,f1,f2,f3,f4,f5⟩:=hf it (by simp);have hl:=kv.length
  have ne:a≠it:=fun q=>by rw[q,f0] at Hx;cases Hx
  have W:=We (prog:=X.prog) (w:=X.w) (knd:=cK X.prog X.w) (I.ok.hd hc) it a ne vs (kj o);refine W.done s _ _ ⟨by rw[←hl,←Dr];rw[←Dr] at st;exact st,dd⟩ fun h' tk kk=>⟨rfl,I.turned (fun b o hb e=>kk b o (by simpa using hb) e) f0 f1 f3 f4 f5⟩
 self:=fun _ _ _ _ _ st h=>wpAny_pyIter_keyiter st h
inductive W where
 |d (x:NN)|tp (i:Nat)|loc (x:NN)
abbrev Tp:=List (List NN)
abbrev XD:=List (Option W)
noncomputable def XI{α β:Type}(o:Option (α×Tp))(k:α->Tp->Option β):Option β:=match o with
 |some (a,T)=>k a T
 |none=>none
theorem aF{α β:Type}{o:Option (α×Tp)}{k:α->Tp->Option β}{b:β}(h:XI o k=some b):∃a T,o=some (a,T)/\k a T=some b:=by
 cases o with
 |none=>cases h
 |some p=>exact⟨p.1,p.2,rfl,h⟩
def oV:Key->NN
 |.inl i=>.int i
 |.inr x=>.str x
def TupAt(K:Frag)(O:Addr->Prop)(H:Hp)(a:Addr)(vs:List V):Prop:=(¬O a/\Rd H a (.tup vs))\/Zz K (fun _=>none) a vs
def LstAt(K:Frag)(O:Addr->Prop)(H:Hp)(a:Addr)(vs:List V):Prop:=(¬O a/\Rd H a (.lst vs))\/Y8 K (fun _=>none) a vs
theorem zee{K:Frag}{H:Hp}{a:Addr}{vs:List V}(h:Zz K (fun _=>none) a vs):Zz K H a vs:=by
 rcases h with(h|⟨o,h⟩)|h
 .cases h
 .cases h
 .exact .inr h
theorem zef{K:Frag}{H:Hp}{a:Addr}{vs:List V}(h:Y8 K (fun _=>none) a vs):Y8 K H a vs:=by
 rcases h with(h|⟨o,h⟩)|h
 .cases h
 .cases h
 .exact .inr h
theorem TupAt.sq{K:Frag}{O:Addr->Prop}{H:Hp}{a:Addr}{vs:List V}(h:TupAt K O H a vs):Zz K H a vs:=by
 rcases h with h|h
 .exact .inl h.2
 .exact zee h
theorem LstAt.sq{K:Frag}{O:Addr->Prop}{H:Hp}{a:Addr}{vs:List V}(h:LstAt K O H a vs):Y8 K H a vs:=by
 rcases h with h|h
 .exact .inl h.2
 .exact zef h
mutual
inductive Rep(K:Frag)(O:Addr->Prop)(H:Hp):V->NN->Prop where
 |non:Rep K O H .non .none
 |bl (b:Bool):Rep K O H (.bl b) (.bool b)
 |int (i:Int):Rep K O H (.int i) (.int i)
 |str (x:Str):Rep K O H (.str x) (.str x)
 |tup {a:Addr}{vs:List V}{ds:List NN}:TupAt K O H a vs->XH K O H vs ds->Rep K O H (.ref a) (.tuple ds)
 |lst {a:Addr}{vs:List V}{ds:List NN}:LstAt K O H a vs->XH K O H vs ds->Rep K O H (.ref a) (.list ds)
 |dct {a:Addr}{o:Obj}{kvs:List (Key×V)}{ds:List (NN×NN)}:¬O a->H a=some (.frz o (.dK kvs))->Yt K O H kvs ds->Rep K O H (.ref a) (.dict ds)
inductive XH(K:Frag)(O:Addr->Prop)(H:Hp):List V->List NN->Prop where
 |nil:XH K O H [] []
 |cons {v:V}{d:NN}{vs:List V}{ds:List NN}:Rep K O H v d->XH K O H vs ds->XH K O H (v::vs) (d::ds)
inductive Yt(K:Frag)(O:Addr->Prop)(H:Hp):List (Key×V)->List (NN×NN)->Prop where
 |nil:Yt K O H [] []
 |cons {k:Key}{v:V}{d:NN}{kvs:List (Key×V)}{ds:List (NN×NN)}:Rep K O H v d->Yt K O H kvs ds->Yt K O H ((k,v)::kvs) ((oV k,d)::ds)
end
def Le(O:Addr->Prop)(H:Hp)(O':Addr->Prop)(H':Hp):Prop:=∀a o,¬O a->H a=some o->¬O' a/\H' a=some o
theorem Le.trans(h:Le O H O1 H1)(g:Le O1 H1 O2 H2):Le O H O2 H2:=fun a o n e=>let ⟨n1,e1⟩:=h a o n e;g a o n1 e1
theorem TupAt.mono{K:Frag}{O O':Addr->Prop}{H H':Hp}(h:Le O H O' H'){a:Addr}{vs:List V}(t:TupAt K O H a vs):TupAt K O' H' a vs:=by
 rcases t with⟨n,t|⟨o,t⟩⟩|t
 .exact .inl ⟨(h _ _ n t).1,.inl (h _ _ n t).2⟩
 .exact .inl ⟨(h _ _ n t).1,.inr ⟨o,(h _ _ n t).2⟩⟩
 .exact .inr t
theorem LstAt.mono{K:Frag}{O O':Addr->Prop}{H H':Hp}(h:Le O H O' H'){a:Addr}{vs:List V}(t:LstAt K O H a vs):LstAt K O' H' a vs:=by
 rcases t with⟨n,t|⟨o,t⟩⟩|t
 .exact .inl ⟨(h _ _ n t).1,.inl (h _ _ n t).2⟩
 .exact .inl ⟨(h _ _ n t).1,.inr ⟨o,(h _ _ n t).2⟩⟩
 .exact .inr t
mutual
theorem Rep.mono{K:Frag}{O O':Addr->Prop}{H H':Hp}(e:Le O H O' H'):∀{v:V}{d:NN},Rep K O H v d->Rep K O' H' v d
 |_,_,.non=>.non
 |_,_,.bl b=>.bl b
 |_,_,.int i=>.int i
 |_,_,.str x=>.str x
 |_,_,.tup t r=>.tup (t.mono e) (XH.mono e r)
 |_,_,.lst t r=>.lst (t.mono e) (XH.mono e r)
 |_,_,.dct n h r=>.dct (e _ _ n h).1 (e _ _ n h).2 (Yt.mono e r)
theorem XH.mono{K:Frag}{O O':Addr->Prop}{H H':Hp}(e:Le O H O' H'):∀{vs:List V}{ds:List NN},XH K O H vs ds->XH K O' H' vs ds
 |_,_,.nil=>.nil
 |_,_,.cons r t=>.cons (Rep.mono e r) (XH.mono e t)
theorem Yt.mono{K:Frag}{O O':Addr->Prop}{H H':Hp}(e:Le O H O' H'):∀{vs:List (Key×V)}{ds:List (NN×NN)},Yt K O H vs ds->Yt K O' H' vs ds
 |_,_,.nil=>.nil
 |_,_,.cons r t=>.cons (Rep.mono e r) (Yt.mono e t)
end
section
variable {K:Frag}{O:Addr->Prop}{H:Hp}
theorem XH.length:∀{vs:List V}{ds:List NN},XH K O H vs ds->vs.length=ds.length
 |_,_,.nil=>rfl
 |_,_,.cons _ t=>congrArg _ (XH.length t)
theorem XH.get:∀{vs:List V}{ds:List NN}{i:Nat}{v:V},XH K O H vs ds->vs[i]? = some v->∃d,ds[i]? = some d/\Rep K O H v d
 |_,_,_,_,.nil,e=>by simp at e
 |_,_,0,_,.cons r _,e=>by simp at e;subst e;exact⟨_,rfl,r⟩
 |_,_,i+1,v,.cons _ t,e=>by
  obtain⟨d,h1,h2⟩:=XH.get   t (by simpa using e);exact⟨d,by simpa using h1,h2⟩
theorem XH.getD:∀{vs:List V}{ds:List NN}{i:Nat}{d:NN},XH K O H vs ds->ds[i]? = some d->∃v,vs[i]? = some v/\Rep K O H v d
 |_,_,_,_,.nil,e=>by simp at e
 |_,_,0,_,.cons r _,e=>by simp at e;subst e;exact⟨_,rfl,r⟩
 |_,_,i+1,v,.cons _ t,e=>by
  obtain⟨d,h1,h2⟩:=XH.getD   t (by simpa using e);exact⟨d,by simpa using h1,h2⟩
theorem XH.set(r:Rep K O H v d):∀{vs:List V}{ds:List NN} (i:Nat),XH K O H vs ds->XH K O H (vs.set i v) (ds.set i d)
 |_,_,_,.nil=>.nil
 |_,_,0,.cons _ t=>.cons r t
 |_,_,i+1,.cons q t=>.cons q (XH.set r i t)
theorem XH.append:∀{vs:List V}{ds:List NN},XH K O H vs ds->XH K O H ws es->XH K O H (vs++ws) (ds++es)
 |_,_,.nil,r=>r
 |_,_,.cons q t,r=>.cons q (XH.append t r)
theorem XH.take:∀{vs:List V}{ds:List NN} (n:Nat),XH K O H vs ds->XH K O H (vs.take n) (ds.take n)
 |_,_,0,_=>.nil
 |_,_,_+1,.nil=>.nil
 |_,_,n+1,.cons r t=>.cons r (XH.take n t)
theorem XH.drop:∀{vs:List V}{ds:List NN} (n:Nat),XH K O H vs ds->XH K O H (vs.drop n) (ds.drop n)
 |_,_,0,r=>r
 |_,_,_+1,.nil=>.nil
 |_,_,n+1,.cons _ t=>XH.drop n t
theorem XH.rep(r:XH K O H vs ds):∀n:Nat,XH K O H (OA n vs).flatten (OA n ds).flatten
 |0=>.nil
 |n+1=>by
  exact r.append (r.rep n)
end
def XQ(ts:List Addr)(H H':Hp):Prop:=∀b o,b∉ts->H b=some o->H' b=some o
theorem XQ.refl(ts:List Addr)(H:Hp):XQ ts H H:=fun _ _ _ h=>h
theorem XQ.trans(a:XQ ts H H1)(b:XQ ts H1 H2):XQ ts H H2:=fun c o n h=>b c o n (a c o n h)
theorem XQ.new(h:H p=none)(o:HO):XQ ts H (upd H p o):=fun b u _ q=>by rw[aX (bM q h)];exact q
def Da(o:Option HO):Prop:=(∃vs,o=some (.lst vs))\/(∃kvs,o=some (.dK kvs))\/∃C dx fs,o=some (.ins C dx fs)
theorem Da.ex(h:Da o):∃u,o=some u:=by rcases h with⟨vs,e⟩|⟨vs,e⟩|⟨C,dx,fs,e⟩ <;> exact⟨_,e⟩
theorem Da.to(h:Da o)(k:∀u,o=some u->o'=some u):Da o':=by
 rcases h with⟨vs,e⟩|⟨vs,e⟩|⟨C,dx,fs,e⟩
 .exact .inl ⟨vs,k _ e⟩
 .exact .inr (.inl ⟨vs,k _ e⟩)
 .exact .inr (.inr ⟨C,dx,fs,k _ e⟩)
def bK(C:Addr):PyData:=.dict [(.none,.int (C:Int))]
def B8:List NN->Bool
 |.dict [(.none,_)]::_=>true
 |_=>false
def pairF(p:Str×NN):PyData:=.tuple [.str p.1,p.2]
inductive ZL(K:Frag)(O:Addr->Prop)(H:Hp):List (Str×V)->List (Str×NN)->Prop where
 |nil:ZL K O H [] []
 |cons {n:Str}{v:V}{d:NN}{vs:List (Str×V)}{ds:List (Str×NN)}:Rep K O H v d->ZL K O H vs ds->ZL K O H ((n,v)::vs) ((n,d)::ds)
theorem ZL.mono{K:Frag}{O O':Addr->Prop}{H H':Hp}(e:Le O H O' H'){vs:List (Str×V)}{ds:List (Str×NN)}(r:ZL K O H vs ds):ZL K O' H' vs ds:=by
 induction r with
 |nil=>exact .nil
 |cons r _ ih=>exact .cons (Rep.mono e r) ih
def Bj(K:Frag)(O:Addr->Prop)(H:Hp)(a:Addr)(xs:List NN):Prop:=(B8 xs=false/\∃vs,H a=some (.lst vs)/\XH K O H vs xs)\/∃C dx fs fd,H a=some (.ins C dx fs)/\xs=bK C::fd.map pairF/\ZL K O H fs fd
theorem Bj.mono{K:Frag}{O O':Addr->Prop}{H H':Hp}{a:Addr}{xs:List NN}(h:Bj K O H a xs)(k:∀o,H a=some o->H' a=some o)(l:Le O H O' H'):Bj K O' H' a xs:=by
 rcases h with⟨n,vs,h1,h2⟩|⟨C,dx,fs,fd,h1,h2,h3⟩
 .exact .inl ⟨n,vs,k _ h1,h2.mono l⟩
 .exact .inr ⟨C,dx,fs,fd,k _ h1,h2,h3.mono l⟩
theorem Bj.lst{K:Frag}{O:Addr->Prop}{H:Hp}{a:Addr}{xs:List NN}(h:Bj K O H a xs)(n:B8 xs=false):∃vs,H a=some (.lst vs)/\XH K O H vs xs:=by
 rcases h with⟨_,h⟩|⟨C,dx,fs,fd,h1,h2,h3⟩
 .exact h
 .rw[h2] at n
  cases n
theorem zeg{K:Frag}{O:Addr->Prop}{H:Hp}{v:V}{y:NN}(h:Rep K O H v (.dict [(.none,y)])):False:=by
 cases h with
 |dct _ _ r=>
  generalize hl:[_]=l at r
  cases r with
  |nil=>cases hl
  |@cons k _ _ _ _ _ _=>
   injection hl with h1 _
   rcases k with i|x
   .cases h1
   .cases h1
theorem XH.notO{K:Frag}{O:Addr->Prop}{H:Hp}{vs:List V}{xs:List NN}(r:XH K O H vs xs):B8 xs=false:=by
 cases r with
 |nil=>rfl
 |cons h _=>
  unfold B8;split
  .rename_i e
   cases e;exact(zeg h).elim
  .rfl
structure HC(K:Frag)(O:Addr->Prop)(ts:List Addr)(H:Hp)(T:Tp):Prop where
 own:∀b∈ts,O b
 trk:∀b,O b->Da (H b)
 nd:ts.Nodup
 len:ts.length=T.length
 tape:∀(i:Nat) (a:Addr) (xs:List NN),ts[i]? = some a->T[i]? = some xs->Bj K O H a xs
section
variable {K:Frag}{O:Addr->Prop}{ts:List Addr}{H H':Hp}{T:Tp}
theorem HC.le(c:HC K O ts H T)(s:XQ ts H H'):Le O H O H':=fun a o n e=>⟨n,s a o (fun z=>n (c.own a z)) e⟩
theorem HC.step(c:HC K O ts H T)(s:XQ ts H H')(t:∀b∈ts,H' b=H b):HC K O ts H' T where
 own:=c.own
 trk:=fun b hb=>by
  by_cases z:b∈ts
  .rw[t b z];exact c.trk b hb
  .exact(c.trk b hb).to fun u e=>s b _ z e
 nd:=c.nd
 len:=c.len
 tape:=fun i a xs e1 e2=>by
  exact(c.tape i a xs e1 e2).mono (fun o h1=>by rw[t a (OC e1)];exact h1) (c.le s)
theorem HC.fresh(c:HC K O ts H T)(h:H p=none):¬O p:=fun z=>by
 obtain⟨u,e⟩:=(c.trk p z).ex<;>grind
theorem HC.new(c:HC K O ts H T)(h:H p=none)(o:HO):HC K O ts (upd H p o) T:=c.step (.new h o) fun b hb=>aX fun z=>c.fresh h (z ▸ c.own b hb)
theorem HC.leNew(c:HC K O ts H T)(h:H p=none)(o:HO):Le O H O (upd H p o):=c.le (.new h o)
theorem HC.newT(c:HC K O ts H T)(h:H p=none)(r:XH K O H vs ds):Rep K O (upd H p (.tup vs)) (.ref p) (.tuple ds):=.tup (.inl ⟨c.fresh h,.inl bu⟩) (r.mono (c.leNew h _))
theorem HC.newL(c:HC K O ts H T)(h:H p=none)(r:XH K O H vs ds):Rep K O (upd H p (.lst vs)) (.ref p) (.list ds):=.lst (.inl ⟨c.fresh h,.inl bu⟩) (r.mono (c.leNew h _))
end
inductive Vw(K:Frag)(O:Addr->Prop)(H:Hp):V->NN->Prop where
 |rep {v:V}{x:NN}:Rep K O H v x->Vw K O H v x
 |raw {a:Addr}{vs:List V}{xs:List NN}:H a=some (.lst vs)->XH K O H vs xs->Vw K O H (.ref a) (.list xs)
 |rawD {a:Addr}{kvs:List (Key×V)}{ds:List (NN×NN)}:H a=some (.dK kvs)->Yt K O H kvs ds->Vw K O H (.ref a) (.dict ds)
section
variable {K:Frag}{O:Addr->Prop}{H:Hp}{v:V}
theorem Vw.int(h:Vw K O H v (.int i)):v=.int i:=by cases h with|rep h=>cases h;rfl
theorem Vw.str(h:Vw K O H v (.str x)):v=.str x:=by cases h with|rep h=>cases h;rfl
theorem Vw.bl(h:Vw K O H v (.bool b)):v=.bl b:=by cases h with|rep h=>cases h;rfl
theorem Vw.non(h:Vw K O H v .none):v=.non:=by cases h with|rep h=>cases h;rfl
theorem Vw.tup(h:Vw K O H v (.tuple ds)):∃a vs,v=.ref a/\TupAt K O H a vs/\XH K O H vs ds:=by cases h with|rep h=>cases h with|tup t r=>exact⟨_,_,rfl,t,r⟩
theorem Vw.tupR(h:Vw K O H v (.tuple ds)):Rep K O H v (.tuple ds):=by cases h <;>simp_all
theorem Vw.lst(h:Vw K O H v (.list ds)):∃a vs,v=.ref a/\Y8 K H a vs/\XH K O H vs ds:=by
 cases h with
 |rep h=>cases h with|lst t r=>exact⟨_,_,rfl,t.sq,r⟩
 |raw h r=>exact⟨_,_,rfl,Y8.of h,r⟩
theorem Vw.dct(h:Vw K O H v (.dict ds)):∃a kvs,v=.ref a/\Rd H a (.dK kvs)/\Yt K O H kvs ds:=by
 cases h with
 |rep h=>cases h with|dct n t r=>exact⟨_,_,rfl,.inr ⟨_,t⟩,r⟩
 |rawD t r=>exact⟨_,_,rfl,.inl t,r⟩
end
def Zf(K:Frag)(O:Addr->Prop)(H:Hp)(a:Addr):NN->Prop
 |.list xs=>∃vs,H a=some (.lst vs)/\XH K O H vs xs
 |.dict ds=>∃kvs,H a=some (.dK kvs)/\Yt K O H kvs ds
 |_=>False
theorem Zf.mono{K:Frag}{O O':Addr->Prop}{H H':Hp}{a:Addr}{x:NN}(h:Zf K O H a x)(k:∀o,H a=some o->H' a=some o)(l:Le O H O' H'):Zf K O' H' a x:=by
 cases x with
 |list xs=>obtain⟨vs,h1,h2⟩:=h;exact⟨vs,k _ h1,h2.mono l⟩
 |dict ds=>obtain⟨vs,h1,h2⟩:=h;exact⟨vs,k _ h1,h2.mono l⟩
 |_=>cases h
theorem Zf.some{K:Frag}{O:Addr->Prop}{H:Hp}{a:Addr}{x:NN}(h:Zf K O H a x):∃o,H a=some o:=by
 cases x with
 |list xs=>obtain⟨vs,h1,h2⟩:=h;exact⟨_,h1⟩
 |dict ds=>obtain⟨vs,h1,h2⟩:=h;exact⟨_,h1⟩
 |_=>cases h
def ZK(K:Frag)(O:Addr->Prop)(ts:List Addr)(H:Hp)(v:V):W->Prop
 |.d x=>Rep K O H v x
 |.tp i=>∃a,ts[i]? = some a/\v=.ref a
 |.loc x=>∃a,v=.ref a/\O a/\a∉ts/\Zf K O H a x
def ke(xs:List NN):Option PyData:=if B8 xs=true then none else some (.list xs)
noncomputable def view(T:Tp):W->Option NN
 |.d x=>some x
 |.tp i=>(T[i]?).bind ke
 |.loc (.list xs)=>some (.list xs)
 |.loc (.dict ds)=>some (.dict ds)
 |.loc _=>none
noncomputable def views(T:Tp):List W->Option (List NN)
 |[]=>some []
 |w::r=>match view T w with
  | some x=>(match views T r with
   |some xs=>some (x::xs)
   | none=>none)
  |none=>none
def gr(K:Frag)(O:Addr->Prop)(ts:List Addr)(H:Hp):List V->List W->Prop:=TZ fun v w=>ZK K O ts H v w
def AD(K:Frag)(O:Addr->Prop)(H:Hp):List V->List NN->Prop:=TZ fun v x=>Vw K O H v x
def Zd(K:Frag)(O:Addr->Prop)(ts:List Addr)(H:Hp)(σ:L2.St)(ρ:XD):Prop:=∀(i:Nat) (w:W),ρ[i]? = some (some w)->∃v,σ[i]? = some (some v)/\ZK K O ts H v w
section
variable {K:Frag}{O:Addr->Prop}{ts:List Addr}{H H':Hp}{T:Tp}{v:V}{w:W}
theorem ZK.mono(r:ZK K O ts H v w)(c:HC K O ts H T)(s:XQ ts H H'):ZK K O ts H' v w:=by
 cases w with
 |d x=>exact Rep.mono (c.le s) r
 |tp i=>exact r
 |loc xs=>
  obtain⟨a,e,h1,h2,h3⟩:=r;exact⟨a,e,h1,h2,h3.mono (fun o q=>s _ _ h2 q) (c.le s)⟩
theorem Zd.mono(r:Zd K O ts H σ ρ)(c:HC K O ts H T)(s:XQ ts H H'):Zd K O ts H' σ ρ:=fun i w e=>
 let ⟨v,h1,h2⟩:=r i w e;⟨v,h1,h2.mono c s⟩
theorem HC.view(c:HC K O ts H T)(r:ZK K O ts H v w)(e:view T w=some x):Vw K O H v x:=by
 cases w with
 |d y=>cases e;exact .rep r
 |tp i=>
  obtain⟨a,h1,rfl⟩:=r;have e':(T[i]?).bind ke=some x:=e
  cases ht:T[i]? with
  |none=>simp_all
  |some xs=>
   rw[ht] at e';have e2:(if B8 xs=true then none else some _)=some x:=e';split at e2
   .cases e2
   .rename_i hn
    cases e2;obtain⟨vs,h2,h3⟩:=(c.tape i a xs h1 ht).lst (by simpa using hn);exact .raw h2 h3
 |loc xs=>
  obtain⟨a,rfl,_,_,h3⟩:=r
  cases xs with
  |list xs=>cases e;obtain⟨vs,h1,h2⟩:=h3;exact .raw h1 h2
  |dict ds=>cases e;obtain⟨vs,h1,h2⟩:=h3;exact .rawD h1 h2
  |_=>cases h3
theorem HC.views(c:HC K O ts H T):∀{vs:List V}{ws:List W}{xs:List NN},gr K O ts H vs ws->views T ws=some xs->AD K O H vs xs
 |_,[],xs,.nil,e=>by cases e;exact .nil
 |_,w::r,xs,.cons h t,e=>by
  unfold D.views at e;split at e
  .rename_i x h1
   split at e
   .rename_i ys h2
    cases e;exact .cons (c.view h h1) (HC.views c t h2)
   .cases e
  .cases e
end
def noStar:Expr->Bool
 |.Starred _ _=>false
 |_=>true
theorem bo(h:noStar e=true):NR (e::es) env=(false,eval e env)::NR es env:=by cases e <;> first|rfl|cases h
theorem kE(h:noStar e=true):NR [e] env=[(false,eval e env)]:=bo h
theorem bN:∀{es:List Expr},es.all noStar=true->(OO pos (NR es env)).any (·.1)=false
 |[],_=>rfl
 |e::r,h=>by
  rw[Rc,NY] at h;rw[bo h.1];show (false||(OO pos _).any _)=false;rw[bN h.2];rfl
theorem zeh(h:noStar e=true):OO pos (NR (e::es) env)=(false,eval e env)::OO pos (NR es env):=by
 rw[bo h];rfl
theorem kh(h:noStar e=true):((OO cpos (NR [e] env)).all (fun x=>!x.1)&&(PX cpos (O8 [] env)).all (fun x=>x.1.isSome)
   && decide (([e]:List Expr).length+([]:List PD).length+(if ([]:List PD).isEmpty then 0 else 1)<30))=true:=by
 rw[kE h];rfl
abbrev FE:=XD->Tp->Option (W×Tp)
abbrev FT:=XD->Tp->Option (Bool×Tp)
abbrev FA:=XD->Tp->Option (List W×Tp)
inductive E3(K:Frag)(f:FE)(σ:L2.St)(H:Hp)(Q:VK):Prop where
 |mk (O:Addr->Prop) (ts:List Addr) (ρ:XD) (T:Tp) (w:W) (T':Tp) (hc:HC K O ts H T) (re:Zd K O ts H σ ρ) (e:f ρ T=some (w,T')) (q:∀v H',XQ ts H H'->HC K O ts H' T'->ZK K O ts H' v w->Q v H'):E3 K f σ H Q
def lift(K:Frag)(f:FE):TE:=fun σ H Q=>E3 K f σ H Q
inductive ED(K:Frag)(f:FT)(σ:L2.St)(H:Hp)(Q:Bool->Hp->Prop):Prop where
 |mk (O:Addr->Prop) (ts:List Addr) (ρ:XD) (T:Tp) (b:Bool) (T':Tp) (hc:HC K O ts H T) (re:Zd K O ts H σ ρ) (e:f ρ T=some (b,T')) (q:∀H',XQ ts H H'->HC K O ts H' T'->Q b H'):ED K f σ H Q
def liftT(K:Frag)(f:FT):TT:=fun σ H Q=>ED K f σ H Q
inductive DK(K:Frag)(f:FA)(σ:L2.St)(H:Hp)(Q:List V->Hp->Prop):Prop where
 |mk (O:Addr->Prop) (ts:List Addr) (ρ:XD) (T:Tp) (ws:List W) (T':Tp) (hc:HC K O ts H T) (re:Zd K O ts H σ ρ) (e:f ρ T=some (ws,T')) (q:∀vs H',XQ ts H H'->HC K O ts H' T'->gr K O ts H' vs ws->Q vs H'):DK K f σ H Q
def lL(K:Frag)(f:FA):TA:=fun σ H Q=>DK K f σ H Q
structure DE(X:Cx)(e:Expr)(f:FE):Prop where
 pe:PE X e (lift X.K f)
structure DT(X:Cx)(e:Expr)(f:FT):Prop where
 pe:PT X e (liftT X.K f)
structure DW(X:Cx)(e:Expr)(f:FT):Prop where
 pe:PW X e (liftT X.K f)
structure DA(X:Cx)(es:List Expr)(f:FA):Prop where
 pe:PA X es (lL X.K f)
theorem pe_imp(h:PE X e t)(i:∀σ H Q,t' σ H Q->t σ H Q):PE X e t':=fun pins s σ H Q I q=>h pins s σ H Q I (i σ H Q q)
theorem qZ(h:PT X e t)(i:∀σ H Q,t' σ H Q->t σ H Q):PT X e t':=fun pins s σ H Q I q=>h pins s σ H Q I (i σ H Q q)
theorem xi(h:PW X e t)(i:∀σ H Q,t' σ H Q->t σ H Q):PW X e t':=fun wh pins s σ H Q I q=>h wh pins s σ H Q I (i σ H Q q)
theorem En(h:PA X e t)(i:∀σ H Q,t' σ H Q->t σ H Q):PA X e t':=fun po pins s σ H Q I q=>h po pins s σ H Q I (i σ H Q q)
def aa(i:Nat):FE:=fun ρ T=>match ρ[i]? with
 |some (some w)=>some (w,T)
 |_=>none
noncomputable def fC(x:NN):FE:=fun _ T=>some (.d x,T)
section
variable {X:Cx}{pos:Pos}
theorem ae(i:Nat)(hN:X.N[i]? = some x:=by rfl)(hv:Dt X.env.scope x:=by first|exact Qp rfl|exact PZ (Qp rfl)|exact PZ (PZ rfl))(hd:(x == ("__debug__" : Str))=false:=by decide)
  (hcd:(x == ("__classdict__" : Str))=false:=by decide):DE X (.Name x pos) (aa i):=by
 refine⟨?_⟩;refine pe_imp (pv i hN hv hd hcd) fun σ H Q=>?_;rintro⟨O,ts,ρ,T,w,T',hc,re,e,q⟩;unfold aa at e;split at e
 .rename_i w' he
  cases e;obtain⟨v,h1,h2⟩:=re i _ he;exact⟨v,h1,q v H (.refl _ _) hc h2⟩
 .cases e
theorem iU(h:∀O H,Rep X.K O H v x):∀σ H Q,lift X.K (fC x) σ H Q->tC v σ H Q:=by
 rintro σ H Q ⟨O,ts,ρ,T,w,T',hc,re,e,q⟩;cases e;exact q v H (.refl _ _) hc (h O H)
theorem ao{i j}:DE X (.Constant (.int i) j pos) (fC (.int i)):=⟨pe_imp zso (iU fun _ _=>.int i)⟩
theorem iA{i j}:DE X (.Constant (.bool i) j pos) (fC (.bool i)):=⟨pe_imp zak (iU fun _ _=>.bl i)⟩
theorem ar{i j}:DE X (.Constant (.str i) j pos) (fC (.str i)):=⟨pe_imp rb (iU fun _ _=>.str i)⟩
theorem cF{j}:DE X (.Constant .none j pos) (fC .none):=⟨pe_imp zal (iU fun _ _=>.non)⟩
theorem cD(hg:Gl X x)(hm:∃t,X.mg x=some (.int i t))(hd:(x == ("__debug__" : Str))=false:=by decide):DE X (.Name x pos) (fC (.int i)):=by
 refine⟨?_⟩;obtain⟨t,hm⟩:=hm;exact pe_imp (eE (v:=.int i) hg hm ⟨t,rfl⟩ hd) (iU fun _ _=>.int i)
theorem ql(hg:Gl X x)(hm:∃t,X.mg x=some (.str i t))(hd:(x == ("__debug__" : Str))=false:=by decide):DE X (.Name x pos) (fC (.str i)):=by
 refine⟨?_⟩;obtain⟨t,hm⟩:=hm;exact pe_imp (eE (v:=.str i) hg hm ⟨t,rfl⟩ hd) (iU fun _ _=>.str i)
end
def Cy(g:NN->Option NN)(T:Tp)(w:W):Option (W×Tp):=match view T w with
 |some x=>match g x with
  |some d=>some (.d d,T)
  |none=>none
 |none=>none
def Cz(g:NN->NN->Option NN)(T:Tp)(w1 w2:W):Option (W×Tp):=match view T w1,view T w2 with
 |some x,some y=>match g x y with
  |some d=>some (.d d,T)
  |none=>none
 |_,_=>none
theorem jP(e:Cy g T w1=some (w,T')):∃x d,view T w1=some x/\g x=some d/\w=.d d/\T'=T:=by
 unfold Cy at e;split at e
 .split at e<;>simp_all
 .cases e
theorem ip(e:Cz g T w1 w2=some (w,T')):∃x y d,view T w1=some x/\view T w2=some y/\g x y=some d/\w=.d d/\T'=T:=by
 unfold Cz at e;split at e
 .split at e<;>simp_all
 .cases e
def ah(g:NN->NN->Option NN)(fa fb:FE):FE:=fun ρ T=>XI (fa ρ T) fun w1 T1=>XI (fb ρ T1) fun w2 T2=>Cz g T2 w1 w2
def YO(g:NN->Option NN)(fa:FE):FE:=fun ρ T=>XI (fa ρ T) fun w1 T1=>Cy g T1 w1
def iG(K:Frag)(r:R2)(g:NN->NN->Option NN):Prop:=∀(O:Addr->Prop) (ts:List Addr) (H:Hp) (T:Tp) (v1 v2:V) (x y d:NN) (Q:VK),HC K O ts H T->Vw K O H v1 x->Vw K O H v2 y->g x y=some d ->
 (∀v H',XQ ts H H'->HC K O ts H' T->Rep K O H' v d->Q v H')->r v1 v2 H Q
def Kr(K:Frag)(r:V->Hp->VK->Prop)(g:NN->Option NN):Prop:=∀(O:Addr->Prop) (ts:List Addr) (H:Hp) (T:Tp) (v1:V) (x d:NN) (Q:VK),HC K O ts H T->Vw K O H v1 x->g x=some d ->
 (∀v H',XQ ts H H'->HC K O ts H' T->Rep K O H' v d->Q v H')->r v1 H Q
def Z9(X:Cx)(f:NO->NO->Sem NO)(g:NN->NN->Option NN):Prop:=∃r,YQ X f r/\iG X.K r g
def uv(X:Cx)(g:NN->NN->Option NN):Prop:=∃r,D8 X r/\iG X.K r g
theorem ni{K:Frag}{r:R2}{g:NN->NN->Option NN}{fa fb:FE}(snd:iG K r g){σ:L2.St}{H:Hp}{Q:VK}(h:lift K (ah g fa fb) σ H Q):Ht r (lift K fa) (lift K fb) σ H Q:=by
 obtain⟨O,ts,ρ,T,w,T',hc,re,e,q⟩:=h;obtain⟨w1,T1,e1,e⟩:=aF e;obtain⟨w2,T2,e2,e⟩:=aF e;obtain⟨x,y,d,h1,h2,h3,rfl,rfl⟩:=ip e;refine⟨O,ts,ρ,T,w1,T1,hc,re,e1,fun v1 H1 s1 Xy r1=>?_⟩;refine⟨O,ts,ρ,T1,w2,T',Xy,re.mono hc s1,e2,fun v2 H2 s2 XW r2=>?_⟩;exact snd O ts H2 T' v1 v2 x y d Q XW (XW.view (r1.mono Xy s2) h1) (XW.view r2 h2) h3 fun v H' s3 YK r3=>q v H' (s1.trans (s2.trans s3)) YK r3
noncomputable def IS:W->Option Bool
 |.d (.bool b)=>some b
 |_=>none
theorem lF(h:IS w=some b):w=.d (.bool b):=by
 unfold IS at h
 split at h<;>simp_all
def aH(f:FE):FT:=fun ρ T=>XI (f ρ T) fun w T1=>match IS w with
 |some b=>some (b,T1)
 |none=>none
theorem zei{K:Frag}{f:FE}{σ:L2.St}{H:Hp}{Q:Bool->Hp->Prop}(h:liftT K (aH f) σ H Q):lift K f σ H fun x H'=>∃k,x=.bl k/\Q k H':=by
 obtain⟨O,ts,ρ,T,w,T',hc,re,e,q⟩:=h;obtain⟨w1,T1,e1,e⟩:=aF e;refine⟨O,ts,ρ,T,w1,T1,hc,re,e1,fun v1 H1 s1 Xy r1=>?_⟩;split at e
 .rename_i b hb
  cases e;have hw:=lF hb;subst hw;cases (r1);exact⟨_,rfl,q H1 s1 Xy⟩
 .cases e
section
variable {X:Cx}{pos:Pos}{a b c:Expr}{fa fb fc:FE}{g g':NN->NN->Option NN}
theorem aw(ho:Z9 X (Pw op) g)(ha:DE X a fa)(hb:DE X b fb):DE X (.BinOp a op b pos) (ah g fa fb):=by
 refine⟨?_⟩;obtain⟨r,hr,snd⟩:=ho;exact pe_imp (rK hr ha.pe hb.pe) fun σ H Q=>ni snd
theorem bD(ho:Z9 X (OL op) g)(ha:DE X a fa)(hb:DE X b fb)(hm:QT op b=false:=by first|exact rf _|with_unfolding_all rfl):DE X (.Compare a [op] [b] pos) (ah g fa fb):=by
 refine⟨?_⟩;obtain⟨r,hr,snd⟩:=ho;exact pe_imp (zsx hr ha.pe hb.pe hm) fun σ H Q=>ni snd
theorem aL(ho:Z9 X (OL op) g)(ha:DE X a fa)(hb:DE X b fb)(hm:QT op b=false:=by first|exact rf _|with_unfolding_all rfl):DT X (.Compare a [op] [b] pos) (aH (ah g fa fb)):=by
 refine⟨?_⟩;obtain⟨r,hr,snd⟩:=ho;exact qZ (zbn hr ha.pe hb.pe hm) fun σ H Q h=>ni snd (zei h)
theorem aK(ho:uv X g)(ha:DE X a fa)(hb:DE X b fb)(hs:qO b:=by exact fun _ _=>rfl):DE X (.Subscript a b pos) (ah g fa fb):=by
 refine⟨?_⟩;obtain⟨r,hr,snd⟩:=ho;exact pe_imp (ztw hr ha.pe hb.pe hs) fun σ H Q=>ni snd
def nP(g g':NN->NN->Option NN)(fa fb fc:FE):FE:=fun ρ T=>XI (fa ρ T) fun w1 T1=>XI (fb ρ T1) fun w2 T2=>XI (Cz g T2 w1 w2) fun w T3=>match IS w with
 |some b=>if b=true then XI (fc ρ T3) fun w3 T4=>Cz g' T4 w2 w3 else some (.d (.bool false),T3)
 |none=>none
theorem zej{K:Frag}{r r':R2}(snd:iG K r g)(Hw:iG K r' g'){σ:L2.St}{H:Hp}{Q:VK}(h:lift K (nP g g' fa fb fc) σ H Q):wX r r' (lift K fa) (lift K fb) (lift K fc) σ H Q:=by
 obtain⟨O,ts,ρ,T,w,T',hc,re,e,q⟩:=h;obtain⟨w1,T1,e1,e⟩:=aF e;obtain⟨w2,T2,e2,e⟩:=aF e;obtain⟨wz,T3,e3,ez⟩:=aF e;obtain⟨x,y,d,h1,h2,h3,rfl,rfl⟩:=ip e3;clear e;refine⟨O,ts,ρ,T,w1,T1,hc,re,e1,fun v1 H1 s1 Xy r1=>?_⟩;refine⟨O,ts,ρ,T1,w2,T3,Xy,re.mono hc s1,e2,fun v2 H2 s2 XW r2=>?_⟩;refine snd O ts H2 T3 v1 v2 x y d _ XW (XW.view (r1.mono Xy s2) h1) (XW.view r2 h2) h3 fun v H3 s3 YK r3=>?_;split at ez
 .rename_i b hb
  have hd:=lF hb
  injection hd with hd
  subst hd;cases r3
  cases b with
  |true=>
   refine⟨true,rfl,hJ ?_⟩;obtain⟨w3,T4,e4,e5⟩:=aF ez;obtain⟨x',y',d',C0,h2',E5,rfl,rfl⟩:=ip e5;refine⟨O,ts,ρ,T3,w3,T',YK,(re.mono hc (s1.trans (s2.trans s3))),e4,fun v3 H4 s4 G6 r4=>?_⟩;exact Hw O ts H4 T' v2 v3 x' y' d' Q G6 (G6.view (r2.mono XW (s3.trans s4)) C0) (G6.view r4 h2') E5 fun v H' s5 hc5 r5=>q v H' (s1.trans (s2.trans (s3.trans (s4.trans s5)))) hc5 r5
  |false=>
   cases ez;exact⟨false,rfl,gw (q _ H3 (s1.trans (s2.trans s3)) YK (.bl _))⟩
 .cases ez
theorem zek(ho:Z9 X (OL op) g)(Jr:Z9 X (OL G5) g')(ha:DE X a fa)(hb:DE X b fb)(hc:DE X c fc)
  (hm:lastMarks [op,G5] [b,c]=false:=by with_unfolding_all rfl):DE X (.Compare a [op,G5] [b,c] pos) (nP g g' fa fb fc):=by
 refine⟨?_⟩;obtain⟨r,hr,snd⟩:=ho;obtain⟨r',Gq,Hw⟩:=Jr;exact pe_imp (zbo hr Gq ha.pe hb.pe hc.pe hm) fun σ H Q=>zej snd Hw
def oG:NN->Option Bool
 |.none=>some false
 |.bool b=>some b
 |.int i=>some (i != 0)
 |.str y=>if y.length<=NX then some ((y.length:Int) != 0) else none
 |.list xs=>some (!xs.isEmpty)
 |.tuple xs=>some (!xs.isEmpty)
 |.dict _=>none
def oH(T:Tp)(w:W):Option (Bool×Tp):=match view T w with
 |some x=>match oG x with
  |some b=>some (b,T)
  |none=>none
 |none=>none
def bI(f:FE):FT:=fun ρ T=>XI (f ρ T) fun w T1=>oH T1 w
theorem sX{K:Frag}{O:Addr->Prop}{H:Hp}{vs:List V}{ds:List NN}(r:XH K O H vs ds):vs.isEmpty=ds.isEmpty:=by cases r <;> rfl
theorem zel{K:Frag}{O:Addr->Prop}{H:Hp}{v:V}{x:NN}{b:Bool}(h:Vw K O H v x)(e:oG x=some b):sy K v H b:=by
 cases x with
 |none=>cases h.non;cases e;rfl
 |bool c=>cases h.bl;cases e;rfl
 |int i=>cases h.int;cases e;rfl
 |str y=>
  cases h.str;have e':(if y.length<=NX then some _ else none)=some b:=e;split at e'
  .rename_i hl
   cases e';exact⟨hl,rfl⟩
  .cases e'
 |list xs=>
  obtain⟨a,vs,rfl,h1,h2⟩:=h.lst;cases e;exact .inl ⟨vs,h1,by rw[sX h2]⟩
 |tuple xs=>
  obtain⟨a,vs,rfl,h1,h2⟩:=h.tup;cases e;exact .inr (.inl ⟨vs,h1.sq,by rw[sX h2]⟩)
 |dict kvs=>
  cases e
theorem cE(ha:DE X a fa)(he:∀whole,V7 a X.env whole=(do let v ←whole;Ru a.pos;QL [v] (truthy v)):=by intro _;rfl):DT X a (bI fa):=by
 refine⟨?_⟩;refine qZ (zbr ha.pe he) fun σ H Q=>?_;rintro⟨O,ts,ρ,T,b,T',hc,re,e,q⟩;obtain⟨w1,T1,e1,e⟩:=aF e;refine⟨O,ts,ρ,T,w1,T1,hc,re,e1,fun v1 H1 s1 Xy r1=>?_⟩;unfold oH at e;split at e
 .rename_i x h1
  split at e
  .rename_i k h2
   cases e;exact⟨b,zel (Xy.view r1 h1) h2,q H1 s1 Xy⟩
  .cases e
 .cases e
def gZ(f g:FT):FT:=fun ρ T=>XI (f ρ T) fun b T1=>if b=true then g ρ T1 else some (false,T1)
def cA(f g:FT):FT:=fun ρ T=>XI (f ρ T) fun b T1=>if b=true then some (true,T1) else g ρ T1
def eO(f:FT):FT:=fun ρ T=>XI (f ρ T) fun b T1=>some (!b,T1)
variable {ta tb:FT}{rest:List Expr}
theorem cN(h:DW X a f):DT X a f:=⟨PW.pt h.pe⟩
theorem jL(ha:DT X a ta):DW X (.BoolOp .And [a] pos) ta:=⟨zam ha.pe⟩
theorem dY(ha:DT X a ta):DW X (.BoolOp .Or [a] pos) ta:=⟨zsp ha.pe⟩
theorem jT(ha:DT X a ta)(hb:DW X (.BoolOp .And (b::rest) pos) tb):DW X (.BoolOp .And (a::b::rest) pos) (gZ ta tb):=by
 refine⟨?_⟩;refine xi (zan ha.pe hb.pe) fun σ H Q=>?_;rintro⟨O,ts,ρ,T,b,T',hc,re,e,q⟩;obtain⟨b1,T1,e1,e⟩:=aF e;refine⟨O,ts,ρ,T,b1,T1,hc,re,e1,fun H1 s1 Xy=>?_⟩
 cases b1 with
 |true=>exact hJ ⟨O,ts,ρ,T1,b,T',Xy,re.mono hc s1,by simpa using e,fun H2 s2 XW=>q H2 (s1.trans s2) XW⟩
 |false=>
  simp_all
theorem cH(ha:DT X a ta)(hb:DW X (.BoolOp .Or (b::rest) pos) tb):DW X (.BoolOp .Or (a::b::rest) pos) (cA ta tb):=by
 refine⟨?_⟩;refine xi (rH ha.pe hb.pe) fun σ H Q=>?_;rintro⟨O,ts,ρ,T,b,T',hc,re,e,q⟩;obtain⟨b1,T1,e1,e⟩:=aF e;refine⟨O,ts,ρ,T,b1,T1,hc,re,e1,fun H1 s1 Xy=>?_⟩
 cases b1 with
 |false=>exact gw ⟨O,ts,ρ,T1,b,T',Xy,re.mono hc s1,by simpa using e,fun H2 s2 XW=>q H2 (s1.trans s2) XW⟩
 |true=>
  simp_all
theorem gi(ha:DT X a ta):DT X (.UnaryOp .Not a pos) (eO ta):=by
 refine⟨?_⟩;refine qZ (qY ha.pe) fun σ H Q=>?_;rintro⟨O,ts,ρ,T,b,T',hc,re,e,q⟩;obtain⟨b1,T1,e1,e⟩:=aF e;cases e;exact⟨O,ts,ρ,T,b1,T',hc,re,e1,fun H1 s1 Xy=>q H1 s1 Xy⟩
def bJ(f g:FE):FE:=fun ρ T=>XI (f ρ T) fun w T1=>match IS w with
 |some b=>if b=true then g ρ T1 else some (.d (.bool false),T1)
 |none=>none
def ki(f g:FE):FE:=fun ρ T=>XI (f ρ T) fun w T1=>match IS w with
 |some b=>if b=true then some (.d (.bool true),T1) else g ρ T1
 |none=>none
def iz(f:FE):FE:=fun ρ T=>XI (f ρ T) fun w T1=>match IS w with
 |some b=>some (.d (.bool (!b)),T1)
 |none=>none
theorem cy{op}(h:DE X a fa):DE X (.BoolOp op [a] pos) fa:=⟨zao h.pe⟩
theorem bZ(ha:DE X a fa)(hb:DE X (.BoolOp .And (b::rest) pos) fb):DE X (.BoolOp .And (a::b::rest) pos) (bJ fa fb):=by
 refine⟨?_⟩;refine pe_imp (zap ha.pe hb.pe) fun σ H Q=>?_;rintro⟨O,ts,ρ,T,w,T',hc,re,e,q⟩;obtain⟨w1,T1,e1,e⟩:=aF e;refine⟨O,ts,ρ,T,w1,T1,hc,re,e1,fun v1 H1 s1 Xy r1=>?_⟩;split at e
 .rename_i b hb
  have hw:=lF hb;subst hw;cases (show Rep X.K O H1 v1 _ from r1)
  cases b with
  |true=>exact⟨_,rfl,hJ ⟨O,ts,ρ,T1,w,T',Xy,re.mono hc s1,by simpa using e,fun v H2 s2 XW r2=>q v H2 (s1.trans s2) XW r2⟩⟩
  |false=>
   simp_all
 .cases e
theorem ow(ha:DE X a fa)(hb:DE X (.BoolOp .Or (b::rest) pos) fb):DE X (.BoolOp .Or (a::b::rest) pos) (ki fa fb):=by
 refine⟨?_⟩;refine pe_imp (Hg ha.pe hb.pe) fun σ H Q=>?_;rintro⟨O,ts,ρ,T,w,T',hc,re,e,q⟩;obtain⟨w1,T1,e1,e⟩:=aF e;refine⟨O,ts,ρ,T,w1,T1,hc,re,e1,fun v1 H1 s1 Xy r1=>?_⟩;split at e
 .rename_i b hb
  have hw:=lF hb;subst hw;cases (show Rep X.K O H1 v1 _ from r1)
  cases b with
  |false=>exact⟨_,rfl,gw ⟨O,ts,ρ,T1,w,T',Xy,re.mono hc s1,by simpa using e,fun v H2 s2 XW r2=>q v H2 (s1.trans s2) XW r2⟩⟩
  |true=>
   simp_all
 .cases e
theorem jU(ha:DE X a fa):DE X (.UnaryOp .Not a pos) (iz fa):=by
 refine⟨?_⟩;refine pe_imp (zaq ha.pe) fun σ H Q=>?_;rintro⟨O,ts,ρ,T,w,T',hc,re,e,q⟩;obtain⟨w1,T1,e1,e⟩:=aF e;refine⟨O,ts,ρ,T,w1,T1,hc,re,e1,fun v1 H1 s1 Xy r1=>?_⟩;split at e
 .rename_i b hb
  have hw:=lF hb;subst hw;cases (r1);cases e;exact⟨_,rfl,q _ H1 s1 Xy (.bl _)⟩
 .cases e
def gz(c:FT)(f g:FE):FE:=fun ρ T=>XI (c ρ T) fun b T1=>if b=true then f ρ T1 else g ρ T1
theorem j8(hc:DT X c ta)(ha:DE X a fa)(hb:DE X b fb):DE X (.IfExp c a b pos) (gz ta fa fb):=by
 refine⟨?_⟩;refine pe_imp (zar hc.pe ha.pe hb.pe) fun σ H Q=>?_;rintro⟨O,ts,ρ,T,w,T',hc,re,e,q⟩;obtain⟨b1,T1,e1,e⟩:=aF e;refine⟨O,ts,ρ,T,b1,T1,hc,re,e1,fun H1 s1 Xy=>?_⟩
 cases b1 with
 |true=>exact hJ ⟨O,ts,ρ,T1,w,T',Xy,re.mono hc s1,by simpa using e,fun v H2 s2 XW r2=>q v H2 (s1.trans s2) XW r2⟩
 |false=>exact gw ⟨O,ts,ρ,T1,w,T',Xy,re.mono hc s1,by simpa using e,fun v H2 s2 XW r2=>q v H2 (s1.trans s2) XW r2⟩
theorem zem(hr:AJ X (unaryOp op) r)(snd:Kr X.K r g1)(ha:DE X a fa):DE X (.UnaryOp op a pos) (YO g1 fa):=by
 refine⟨?_⟩;refine pe_imp (zbb hr ha.pe) fun σ H Q=>?_;rintro⟨O,ts,ρ,T,w,T',hc,re,e,q⟩;obtain⟨w1,T1,e1,e⟩:=aF e;obtain⟨x,d,h1,h3,rfl,rfl⟩:=jP e;refine⟨O,ts,ρ,T,w1,T',hc,re,e1,fun v1 H1 s1 Xy r1=>?_⟩;exact snd O ts H1 T' v1 x d Q Xy (Xy.view r1 h1) h3 fun v H' s3 YK r3=>q v H' (s1.trans s3) YK r3
end
def ai:FA:=fun _ T=>some ([],T)
def af(f:FE)(g:FA):FA:=fun ρ T=>XI (f ρ T) fun w T1=>XI (g ρ T1) fun ws T2=>some (w::ws,T2)
def eP:List W->Option (List NN)
 |[]=>some []
 |.d x::r=>match eP r with
  |some xs=>some (x::xs)
  |none=>none
 |_::_=>none
theorem kI{K:Frag}{O:Addr->Prop}{ts:List Addr}{H:Hp}:∀{vs:List V}{ws:List W}{xs:List NN},gr K O ts H vs ws->eP ws=some xs->XH K O H vs xs
 |_,[],_,.nil,e=>by cases e;exact .nil
 |_,.d x::r,xs,.cons h t,e=>by
  unfold eP at e;split at e
  .rename_i ys h2
   cases e;exact .cons h (kI t h2)
  .cases e
 |_,.tp _::_,_,.cons _ _,e=>by cases e
 |_,.loc _::_,_,.cons _ _,e=>by cases e
def aT(mk:List NN->NN)(f:FA):FE:=fun ρ T=>XI (f ρ T) fun ws T1=>match eP ws with
 |some xs=>if xs.length<=1000 then some (.d (mk xs),T1) else none
 |none=>none
theorem mU(h:n<=1000):n<=sizeLine:=Oc h (by decide)
def fU(X:Cx)(f:NO)(g:List NN->Option NN):Prop:=∃r,Yk X f r/\∀(O:Addr->Prop) (ts:List Addr) (H:Hp) (T:Tp) (vs:List V) (xs:List NN) (d:NN) (Q:VK),HC X.K O ts H T->AD X.K O H vs xs->g xs=some d ->
 (∀v H',XQ ts H H'->HC X.K O ts H' T->Rep X.K O H' v d->Q v H')->r vs H Q
def Zu(g:List NN->Option NN)(f:FA):FE:=fun ρ T=>XI (f ρ T) fun ws T1=>match views T1 ws with
 |some xs=>match g xs with
  |some d=>some (.d d,T1)
  |none=>none
 |none=>none
section
variable {X:Cx}{pos p:Pos}{e:Expr}{es:List Expr}{f:FE}{g:FA}
theorem ak:DA X [] ai:=by
 refine⟨?_⟩;refine En bR fun σ H Q=>?_;rintro⟨O,ts,ρ,T,w,T',hc,re,e,q⟩;cases e;exact q [] H (.refl _ _) hc .nil
theorem ag(ha:DE X e f)(hr:DA X es g)(hs:NR (e::es) X.env=(false,eval e X.env)::NR es X.env:=by exact bo rfl):DA X (e::es) (af f g):=by
 refine⟨?_⟩;refine En (bf ha.pe hr.pe hs) fun σ H Q=>?_;rintro⟨O,ts,ρ,T,w,T',hc,re,e,q⟩;obtain⟨w1,T1,e1,e⟩:=aF e;obtain⟨ws,T2,e2,e⟩:=aF e;cases e;refine⟨O,ts,ρ,T,w1,T1,hc,re,e1,fun v1 H1 s1 Xy r1=>?_⟩;exact⟨O,ts,ρ,T1,ws,_,Xy,re.mono hc s1,e2,fun vs H2 s2 XW r2=>q _ H2 (s1.trans s2) XW (.cons (r1.mono Xy s2) r2)⟩
theorem vz(e:aT mk g ρ T=some (w,T')):∃ws xs,g ρ T=some (ws,T')/\eP ws=some xs/\xs.length<=1000/\w=.d (mk xs):=by
 obtain⟨ws,T1,e1,e⟩:=aF e
 split at e<;>simp_all
theorem bw{x1}(h:DA X es g):DE X (.Tuple es x1 pos) (aT .tuple g):=by
 refine⟨?_⟩;refine pe_imp (nG h.pe) fun σ H Q=>?_;rintro⟨O,ts,ρ,T,w,T',hc,re,e,q⟩;obtain⟨ws,xs,e1,h1,h2,rfl⟩:=vz e;refine⟨O,ts,ρ,T,ws,T',hc,re,e1,fun vs H1 s1 Xy r1=>?_⟩;have rs:=kI r1 h1;refine⟨mU (by rw[rs.length];exact h2),fun p hp=>?_⟩;exact q _ _ (s1.trans (.new hp _)) (Xy.new hp _) (Xy.newT hp rs)
theorem bC(h:DA X es g):DE X (.List es pos) (aT .list g):=by
 refine⟨?_⟩;refine pe_imp (lg h.pe) fun σ H Q=>?_;rintro⟨O,ts,ρ,T,w,T',hc,re,e,q⟩;obtain⟨ws,xs,e1,h1,h2,rfl⟩:=vz e;refine⟨O,ts,ρ,T,ws,T',hc,re,e1,fun vs H1 s1 Xy r1=>?_⟩;have rs:=kI r1 h1;refine⟨mU (by rw[rs.length];exact h2),fun p hp=>?_⟩;exact q _ _ (s1.trans (.new hp _)) (Xy.new hp _) (Xy.newL hp rs)
theorem yc{K:Frag}{r:List V->Hp->VK->Prop}{gg:List NN->Option NN}(snd:∀(O:Addr->Prop) (ts:List Addr) (H:Hp) (T:Tp) (vs:List V) (xs:List NN) (d:NN) (Q:VK),HC K O ts H T->AD K O H vs xs->gg xs=some d ->
  (∀v H',XQ ts H H'->HC K O ts H' T->Rep K O H' v d->Q v H')->r vs H Q) {σ:L2.St}{H:Hp}{Q:VK} (h:lift K (Zu gg g) σ H Q):Aq r (lL K g) σ H Q:=by
 obtain⟨O,ts,ρ,T,w,T',hc,re,e,q⟩:=h;obtain⟨ws,T1,e1,e⟩:=aF e;refine⟨O,ts,ρ,T,ws,T1,hc,re,e1,fun vs H1 s1 Xy r1=>?_⟩;split at e
 .rename_i xs h1
  split at e
  .rename_i d h2
   cases e;exact snd O ts H1 T' vs xs d Q Xy (Xy.views r1 h1) h2 fun v H' s3 YK r3=>q v H' (s1.trans s3) YK r3
  .cases e
 .cases e
theorem bq{x:Str}{id:String}{gg:List NN->Option NN}(hc:fU X (.builtin id) gg)(hg:Gl X x)(hm:X.mg x=none)(hv:P0 x=some (.builtin id))(ha:DA X (e::es) g)(hn:x≠"__name__":=by decide)(YN:(x == ("__debug__" : Str))=false:=by decide)
  (he:NR (e::es) X.env=(false,eval e X.env)::NR es X.env:=by exact bo rfl) (Yo:(OO pos (NR es X.env)).any (·.1)=false:=by exact bN rfl):DE X (.Call (.Name x p) (e::es) [] pos) (Zu gg g):=by
 refine⟨?_⟩;obtain⟨r,hr,snd⟩:=hc;exact pe_imp (jF hr hg hm hv ha.pe hn YN he Yo) fun σ H Q h=>yc snd h
theorem fE{x:Str}{id:String}{gg:List NN->Option NN}(hc:fU X (.type id) gg)(hg:Gl X x)(hm:X.mg x=none)(hv:P0 x=some (.type id))(ha:DA X (e::es) g)(hn:x≠"__name__":=by decide)(YN:(x == ("__debug__" : Str))=false:=by decide)
  (he:NR (e::es) X.env=(false,eval e X.env)::NR es X.env:=by exact bo rfl) (Yo:(OO pos (NR es X.env)).any (·.1)=false:=by exact bN rfl):DE X (.Call (.Name x p) (e::es) [] pos) (Zu gg g):=by
 refine⟨?_⟩;obtain⟨r,hr,snd⟩:=hc;exact pe_imp (pH hr hg hm hv ha.pe hn YN he Yo) fun σ H Q h=>yc snd h
end
abbrev FI:=XD->Tp->Option (List NN×Tp)
def JX(K:Frag)(tl:TE):TI:=fun σ H R=>tl σ H fun x H1=>(∃a xs,x=.ref a/\Y8 K H1 a xs/\(xs.length<=NX->R (ve K a) H1))\/(∃a xs,x=.ref a/\Zz K H1 a xs/\(xs.length<=NX->R (ux K a) H1))\/(∃z,x=.str z/\R (B5 z) H1)\/∃a o kvs,x=.ref a/\H1 a=some (.frz o (.dK kvs))/\(kvs.length<=NX->R (yO a o kvs) H1)
theorem zen(hl:PE X l tl):PI X tg l (JX X.K tl):=by
 intro pins s σ H R I h;refine Ya (hl pins s σ H _ I h) fun v s1 ⟨x,H1,I1,r1,q1⟩=>?_
 have fk:∀b∈[s1.heap.objs.size],cV X pins H1 b:=fun b hb=>by
  have e:b=s1.heap.objs.size:=by simpa using hb
  subst e;exact I1.fpOk (Of _) (I1.hok.fresh (Of _))
 rcases q1 with⟨a,xs,e,hq,q⟩|⟨a,xs,e,hq,q⟩|⟨z,e,q⟩|⟨a,o,kvs,e,hq,q⟩
 .subst e
  cases r1;obtain⟨Xx,rv,p,hz⟩:=I1.list hq;refine SH p.isList ?_;exact⟨s1.heap.objs.size,[s1.heap.objs.size],_,_,H1,rfl,I1.kept (t':=s1.toks) fun b o e=>NQ _ e,zav a _,⟨_,Ox _ rfl,rfl,rfl⟩,fk,q hz⟩
 .subst e
  cases r1;obtain⟨Xx,rv,p,hz⟩:=I1.tuple hq;refine wpAny_pyIter_tuple (show s1.heap.IsTuple a Xx.toArray from p) ?_;exact⟨s1.heap.objs.size,[s1.heap.objs.size],_,_,H1,rfl,I1.kept (t':=s1.toks) fun b o e=>NQ _ e,zaw a _,⟨_,Ox _ rfl,rfl,rfl⟩,fk,q hz⟩
 .subst e
  obtain⟨t,rfl⟩:=r1
  cases ha:z.cps.all (· < 128) with
  |false=>
   refine wpAny_pyIter_wide ha ?_;exact⟨s1.heap.objs.size,[s1.heap.objs.size],_,_,H1,rfl,I1.kept (t':=s1.toks) fun b o e=>NQ _ e,zup z t "str_iterator" _ (.inr rfl),⟨_,Ox _ rfl,rfl,rfl⟩,fk,q⟩
  |true=>
   refine wpAny_pyIter_ascii ha ?_;exact⟨s1.heap.objs.size,[s1.heap.objs.size],_,_,H1,rfl,I1.kept (t':=s1.toks) fun b o e=>NQ _ e,zup z t "str_ascii_iterator" _ (.inl rfl),⟨_,Ox _ rfl,rfl,rfl⟩,fk,q⟩
 .subst e
  cases r1;obtain⟨z,y,vs,kv,dd⟩:=pN I1.hok hq;refine wpAny_pyIter_dict y dd ?_;exact⟨s1.heap.objs.size,[s1.heap.objs.size],_,_,H1,rfl,I1.kept (t':=s1.toks) fun b o e=>NQ _ e,zed a _ o kvs,⟨_,Ox _ rfl,rfl,by rw[kv.length];rfl⟩,fk,q z⟩
def Z3(K:Frag)(O:Addr->Prop)(H1:Hp)(J:It)(ds:List NN):Prop:=∀O' H',Le O H1 O' H'->(∀i,i<ds.length->J.go i H')/\J.stop ds.length H'/\∀i v F0,J.yld i H' v F0->i<ds.length->F0=H'/\∃d,ds[i]? = some d/\Rep K O' H' v d
inductive DZ(K:Frag)(f:FI)(σ:L2.St)(H:Hp)(R:It->Hp->Prop):Prop where
 |mk (O:Addr->Prop) (ts:List Addr) (ρ:XD) (T:Tp) (ds:List NN) (T':Tp) (hc:HC K O ts H T) (re:Zd K O ts H σ ρ) (e:f ρ T=some (ds,T')) (q:∀J H1,XQ ts H H1->HC K O ts H1 T'->Z3 K O H1 J ds->ds.length<=NX->R J H1):DZ K f σ H R
def yB(K:Frag)(f:FI):TI:=fun σ H R=>DZ K f σ H R
structure DI(X:Cx)(tg e:Expr)(f:FI):Prop where
 pe:PI X tg e (yB X.K f)
theorem xm(h:PI X tg e t)(i:∀σ H Q,t' σ H Q->t σ H Q):PI X tg e t':=fun pins s σ H Q I q=>h pins s σ H Q I (i σ H Q q)
def signs(z:Str):List PyData:=z.cps.toList.map fun c=>.str ⟨#[c]⟩
def iV:NN->Option (List NN)
 |.list xs=>some xs
 |.tuple xs=>some xs
 |.str z=>if z.length<=NX then some (signs z) else none
 |.dict ds=>some (ds.map (·.1))
 |_=>none
def dj(f:FE):FI:=fun ρ T=>XI (f ρ T) fun w T1=>match w with
 |.d x=>match iV x with
  |some xs=>some (xs,T1)
  |none=>none
 |_=>none
theorem Z3.lst{K:Frag}{O:Addr->Prop}{H1:Hp}{a:Addr}{vs:List V}{ds:List NN}(h:LstAt K O H1 a vs)(r:XH K O H1 vs ds):Z3 K O H1 (ve K a) ds:=fun O' H' le=>by
 have sq:=(h.mono le).sq;have hl:=r.length;refine⟨fun i hi=>⟨vs,vs[i]'(by omega),sq,by simp⟩,⟨vs,sq,by omega⟩,fun i v F0 y hi=>?_⟩;obtain⟨e,y⟩:=y;obtain⟨d,h1,h2⟩:=r.get (y vs sq);exact⟨e,d,h1,h2.mono le⟩
theorem Z3.tup{K:Frag}{O:Addr->Prop}{H1:Hp}{a:Addr}{vs:List V}{ds:List NN}(h:TupAt K O H1 a vs)(r:XH K O H1 vs ds):Z3 K O H1 (ux K a) ds:=fun O' H' le=>by
 have sq:=(h.mono le).sq;have hl:=r.length;refine⟨fun i hi=>⟨vs,vs[i]'(by omega),sq,by simp⟩,⟨vs,sq,by omega⟩,fun i v F0 y hi=>?_⟩;obtain⟨e,y⟩:=y;obtain⟨d,h1,h2⟩:=r.get (y vs sq);exact⟨e,d,h1,h2.mono le⟩
theorem Z3.str{K:Frag}{O:Addr->Prop}{H1:Hp}{z:Str}:Z3 K O H1 (B5 z) (signs z):=fun O' H' le=>by
 have hl:(signs z).length=z.cps.size:=by simp[signs]
 refine⟨fun i hi=>by rw[hl] at hi;exact hi,by rw[hl];exact Of _,fun i v F0 y hi=>?_⟩;obtain⟨e,c,hc,y⟩:=y;subst y;refine⟨e,.str _,?_,.str _⟩
 unfold signs<;>simp_all
theorem pF{K:Frag}{O:Addr->Prop}{H:Hp}:∀{kvs:List (Key×V)}{ds:List (NN×NN)},Yt K O H kvs ds->kvs.length=ds.length
 |_,_,.nil=>rfl
 |_,_,.cons _ t=>congrArg _ (pF t)
theorem uM{K:Frag}{O:Addr->Prop}{H:Hp}:∀{kvs:List (Key×V)}{ds:List (NN×NN)}{i:Nat}{k:Key}{v:V},Yt K O H kvs ds->kvs[i]? = some (k,v)->(ds.map (·.1))[i]? = some (oV k)
 |_,_,_,_,_,.nil,e=>by simp at e
 |_,_,0,_,_,.cons r _,e=>by simp at e;obtain⟨rfl,rfl⟩:=e;rfl
 |_,_,i+1,k,v,.cons _ t,e=>by
  have:=uM  t (by simpa using e)<;>simp_all
theorem zeo{K:Frag}{O:Addr->Prop}{H:Hp}(k:Key):Rep K O H (kV k) (oV k):=by
 cases k with
 |inl i=>exact .int i
 |inr x=>exact .str x
theorem Z3.dct{K:Frag}{O:Addr->Prop}{H1:Hp}{a:Addr}{o:Obj}{kvs:List (Key×V)}{ds:List (NN×NN)}(n:¬O a)(h:H1 a=some (.frz o (.dK kvs)))(r:Yt K O H1 kvs ds):Z3 K O H1 (yO a o kvs) (ds.map (·.1)):=fun O' H' le=>by
 have h':=(le a _ n h).2;have hl:=pF r;refine⟨fun i hi=>⟨h',by grind⟩,⟨h',by simp[hl]⟩,fun i v F0 y hi=>?_⟩;obtain⟨e,k,v0,y1,y2⟩:=y;subst y2;exact⟨e,_,uM r y1,zeo k⟩
theorem gh(h:DE X e f):DI X tg e (dj f):=by
 refine⟨?_⟩;refine xm (zen h.pe) fun σ H R=>?_;rintro⟨O,ts,ρ,T,ds,T',hc,re,e,q⟩;obtain⟨w1,T1,e1,e⟩:=aF e;refine⟨O,ts,ρ,T,w1,T1,hc,re,e1,fun v1 H1 s1 Xy r1=>?_⟩;split at e
 .rename_i x
  split at e
  .rename_i xs h1
   cases e;have rr:Rep X.K O H1 v1 x:=r1
   cases x with
   |list ys=>
    cases h1
    cases rr with
    |lst t r=>exact .inl ⟨_,_,rfl,t.sq,fun hz=>q _ H1 s1 Xy (.lst t r) (by rw[←r.length];exact hz)⟩
   |tuple ys=>
    cases h1
    cases rr with
    |tup t r=>exact .inr (.inl ⟨_,_,rfl,t.sq,fun hz=>q _ H1 s1 Xy (.tup t r) (by rw[←r.length];exact hz)⟩)
   |str z=>
    have C0:(if z.length<=NX then some (signs z) else none)=some _:=h1;split at C0
    .rename_i hz
     cases C0;cases rr;exact .inr (.inr (.inl ⟨z,rfl,q _ H1 s1 Xy .str (by rw[show (signs z).length=z.cps.size by simp[signs]];exact hz)⟩))
    .cases C0
   |dict ys=>
    cases h1
    cases rr with
    |dct n t r=>exact .inr (.inr (.inr ⟨_,_,_,rfl,t,fun hz=>q _ H1 s1 Xy (.dct n t r) (by rw[OY,←pF r];exact hz)⟩))
   |_=>cases h1
  .cases e
 .cases e
def bh(lo:Int)(n:Nat):List PyData:=(OQ n).map fun(i:Nat)=>.int (lo+(i:Int))
theorem Z3.rng{K:Frag}{O:Addr->Prop}{H1:Hp}{lo:Int}{n:Nat}:Z3 K O H1 (z4 lo n) (bh lo n):=fun O' H' le=>by
 have hl:(bh lo n).length=n:=by simp[bh]
 refine⟨fun i hi=>by rw[hl] at hi;exact hi,by rw[hl];exact Of _,fun i v F0 y hi=>?_⟩;obtain⟨e,y⟩:=y;subst y;rw[hl] at hi;exact⟨e,.int _,by simp[bh,hi],.int _⟩
def iZ(j:Int):Bool:=decide (-1000000<=j/\j<=16777216)
theorem zep(h:iZ j=true) : -(2^62)<=j/\j<2^62/\j.toNat<=sizeLine:=by
 have h':=of_decide_eq_true h
 have e:NX=16777216:=by decide
 omega
def cT(f:FE):FI:=fun ρ T=>XI (f ρ T) fun w T1=>match w with
 |.d (.int j)=>if iZ j=true then some (bh 0 j.toNat,T1) else none
 |_=>none
theorem dU(hg:Gl X "range")(hm:X.mg "range"=none)(ha:DE X a f)(hs:NR [a] X.env=[(false,eval a X.env)]:=by exact kE rfl):DI X tg (.Call (.Name "range" p) [a] [] pos) (cT f):=by
 refine⟨?_⟩;refine xm (zaz  hg hm (bf ha.pe bR (by rw[hs];rfl)) hs) fun σ H R=>?_;rintro⟨O,ts,ρ,T,ds,T',hc,re,e,q⟩;obtain⟨w1,T1,e1,e⟩:=aF e;refine⟨O,ts,ρ,T,w1,T1,hc,re,e1,fun v1 H1 s1 Xy r1=>?_⟩;split at e
 .rename_i j
  split at e
  .rename_i h1
   cases e;cases (r1);obtain⟨b1,b2,b3⟩:=zep h1;exact⟨j,rfl,b1,b2,q _ H1 s1 Xy .rng (by simpa[bh] using b3)⟩
  .cases e
 .cases e
def bE(c:FT)(e:FE)(ρ:XD):List NN->Tp->Option (List NN×Tp)
 |[],T=>some ([],T)
 |d::r,T=>XI (c (some (.d d)::ρ) T) fun b T1=>if b=true then XI (e (some (.d d)::ρ) T1) fun w T2=>match w with
   |.d y=>XI (bE c e ρ r T2) fun ys T3=>some (y::ys,T3)
   |_=>none
  else bE c e ρ r T1
def cg(it:FI)(c:FT)(e:FE):FE:=fun ρ T=>XI (it ρ T) fun ds T1=>XI (bE c e ρ ds T1) fun ys T2=>some (.d (.list ys),T2)
def bx:FT:=fun _ T=>some (true,T)
theorem Zd.cons{K:Frag}{O:Addr->Prop}{ts:List Addr}{H:Hp}{σ:L2.St}{ρ:XD}{v:V}{d:NN}(re:Zd K O ts H σ ρ)(r:Rep K O H v d):Zd K O ts H (some v::σ) (some (.d d)::ρ):=fun i w e=>by
 cases i with
 |zero=>cases e;exact⟨v,rfl,r⟩
 |succ i=>
  obtain⟨u,h1,h2⟩:=re i w (by simpa using e);exact⟨u,by simpa using h1,h2⟩
theorem wC{K:Frag}{O:Addr->Prop}{ts:List Addr}{H1:Hp}{σ:L2.St}{ρ:XD}{J:It}{c:FT}{e:FE}{ds ys:List NN}{T1 T2:Tp}{Dn:List V->Hp->Prop}(hc:HC K O ts H1 T1)(re:Zd K O ts H1 σ ρ)(ok:Z3 K O H1 J ds)(hz:ds.length<=NX)
  (ee:bE c e ρ ds T1=some (ys,T2)) (q:∀vs H',XQ ts H1 H'->HC K O ts H' T2->XH K O H' vs ys->Dn vs H') :
  ∃W:Nat->Nat->List V->Hp->Prop,(∃m,W 0 m [] H1)/\lU σ J (liftT K c) (lift K e) W Dn:=by
 refine⟨fun i m vs H'=>m=ds.length-i/\i<=ds.length/\vs.length<=i/\∃T dn rs,XQ ts H1 H'/\HC K O ts H' T/\XH K O H' vs dn/\bE c e ρ (ds.drop i) T=some (rs,T2)/\ys=dn++rs,⟨_,rfl,QK _,Of _,T1,[],ys,.refl _ _,hc,.nil,ee,rfl⟩,?_⟩;rintro i m vs H' ⟨rfl,hi,hv,T,dn,rs,s1,Xy,rv,ec,ey⟩;obtain⟨k1,k2,k3⟩:=ok O H' (hc.le s1)
 by_cases ZU:i<ds.length
 .refine .inr ⟨k1 i ZU,by omega,fun HM H2=>i+1<=ds.length/\HM.length<=i+1/\∃T dn rs,XQ ts H1 H2/\HC K O ts H2 T/\XH K O H2 HM dn/\bE c e ρ (ds.drop (i+1)) T=some (rs,T2)/\ys=dn++rs,fun HM H2 n=>⟨ds.length-(i+1),by omega,rfl,n⟩,fun v H2 y=>?_⟩
  obtain⟨e2,d,hd,rd⟩:=k3 i v H2 y ZU;subst e2
  have BP:ds.drop i=d::ds.drop (i+1):=by
   rw[Pr ZU];have:=(NS.mp hd).2;rw[this]
  rw[BP] at ec;obtain⟨b,T3,e3,ec⟩:=aF ec;refine⟨O,ts,some (.d d)::ρ,T,b,T3,Xy,(re.mono hc s1).cons rd,e3,fun H3 s3 YK=>?_⟩
  cases b with
  |false=>
   rw[if_neg Ov] at ec;exact gw ⟨ZU,by omega,T3,dn,rs,s1.trans s3,YK,rv.mono (Xy.le s3),ec,ey⟩
  |true=>
   rw[if_pos rfl] at ec;obtain⟨w,T4,e4,ec⟩:=aF ec;refine hJ ⟨O,ts,some (.d d)::ρ,T3,w,T4,YK,((re.mono hc s1).cons rd).mono Xy s3,e4,fun u H4 s4 G6 r4=>?_⟩;split at ec
   .rename_i y
    obtain⟨zs,T5,e5,ec⟩:=aF ec;cases ec;refine⟨ZU,by simp;omega,T4,dn++[y],zs,s1.trans (s3.trans s4),G6,(rv.mono (Xy.le (s3.trans s4))).append (.cons r4 .nil),e5,by rw[ey];simp⟩
   .cases ec
 .have e:i=ds.length:=by omega
  subst e;rw[OU (Of _)] at ec;cases ec;rw[Pb] at ey;subst ey;exact .inl ⟨k2,by omega,q vs H' s1 Xy rv⟩
structure sE(X:Cx)(es:List Expr)(f:FT):Prop where
 pe:Ei X es (liftT X.K f)
theorem cW:sE X [] bx:=⟨fun pins s σ H Q E I h=>by
 refine zun pins s σ H Q E I ?_;obtain⟨O,ts,ρ,T,w,T',hc,re,e,q⟩:=h;cases e
 exact q H (.refl _ _) hc⟩
theorem dW(S:CS osc N x scope N')(hi:DI X (.Name x px) iter it)
  (he:∀C s0 H0 ex,DE (cz X x scope C s0 H0 ex N') elt f) (ht:∀C s0 H0 ex,sE (cz X x scope C s0 H0 ex N') ifs c) (hc:X.calm=true:=by rfl) (hs:X.env.scope=osc:=by rfl) (hN:X.N=N:=by rfl)
  (hf:∀v,Pe iter X.env v=pure v:=by intro _;rfl):DE X (.ListComp elt [⟨.Name x px,iter,ifs,0⟩] scope pos) (cg it c f):=by
 refine⟨?_⟩;refine pe_imp (zdy  (tt:=liftT X.K c) (te:=lift X.K f) S hi.pe (fun C s0 H0 ex=>(he C s0 H0 ex).pe) (fun C s0 H0 ex=>(ht C s0 H0 ex).pe) hc hs hN hf) fun σ H Q=>?_;rintro⟨O,ts,ρ,T,w,T',hc,re,e,q⟩;obtain⟨ds,T1,e1,e⟩:=aF e;obtain⟨ys,T2,e2,e⟩:=aF e;cases e;refine⟨O,ts,ρ,T,ds,T1,hc,re,e1,fun J H1 s1 Xy ok hz=>?_⟩;exact wC Xy (re.mono hc s1) ok hz e2 fun vs H' s2 XW r2 p hp=>q _ _ (s1.trans (s2.trans (.new hp _))) (XW.new hp _) (XW.newL hp r2)
inductive Fl where
 |nx|rt (x:NN)|ro (x:NN)|bk|ct
abbrev FS:=XD->Tp->Option ((Fl×XD)×Tp)
structure RS(K:Frag)(O₀:Addr->Prop)(H₀:Hp)(F:List ((Addr->Prop)×Hp))(ts:List Addr)(O:Addr->Prop)(H:Hp)(σ:L2.St)(ρ:XD)(T:Tp):Prop where
 hc:HC K O ts H T
 re:Zd K O ts H σ ρ
 sub:∀b,O₀ b->O b
 ots:∀b∈ts,O₀ b
 same:XQ ts H₀ H
 fresh:∀(i:Nat) (xs:NN) (a:Addr),ρ[i]? = some (some (.loc xs))->σ[i]? = some (some (.ref a))->H₀ a=none/\¬O₀ a
 dist:∀(i j:Nat) (xs ys:NN) (v:V),ρ[i]? = some (some (.loc xs))->ρ[j]? = some (some (.loc ys))->σ[i]? = some (some v)->σ[j]? = some (some v)->i=j
 frs:∀f∈F,Le f.1 f.2 O H
 len:σ.length=ρ.length
def D4(K:Frag)(O A:Addr->Prop)(H:Hp)(v:V):NN->Prop
 |.tuple [x,y]=>∃p a b,v=.ref p/\a≠b/\(∀c,A c↔c=a\/c=b)/\¬O p/\H p=some (.tup [.ref a,.ref b])/\Zf K O H a x/\Zf K O H b y
 |.none=>v=.non/\∀c,¬A c
 |x=>∃a,v=.ref a/\(∀c,A c↔c=a)/\Zf K O H a x
theorem D4.mono{K:Frag}{O O' A:Addr->Prop}{H:Hp}{v:V}{x:NN}(le:Le O H O' H)(h:D4 K O A H v x):D4 K O' A H v x:=by
 unfold D4 at h ⊢;split at h
 .obtain⟨p,a,b,e1,e2,e3,np,hp,oa,ob⟩:=h
  exact⟨p,a,b,e1,e2,e3,(le p _ np hp).1,hp,oa.mono (fun _ h=>h) le,ob.mono (fun _ h=>h) le⟩
 .exact h
 .obtain⟨a,e,hA,oa⟩:=h
  exact⟨a,e,hA,oa.mono (fun _ h=>h) le⟩
def y8(K:Frag)(O₀:Addr->Prop)(H₀:Hp)(F:List ((Addr->Prop)×Hp))(ts:List Addr)(D:Ends)(ρ':XD)(T':Tp):Fl->Prop
 |.nx=>∀O' σ' H',RS K O₀ H₀ F ts O' H' σ' ρ' T'->D.nx σ' H'
 |.bk=>∀O' σ' H',RS K O₀ H₀ F ts O' H' σ' ρ' T'->D.bk σ' H'
 |.ct=>∀O' σ' H',RS K O₀ H₀ F ts O' H' σ' ρ' T'->D.ct σ' H'
 |.rt x=>∀v H',XQ ts H₀ H'->HC K O₀ ts H' T'->Rep K O₀ H' v x->D.rt v H'
 |.ro x=>∀(A:Addr->Prop) v H',XQ ts H₀ H'->(∀b,A b->H₀ b=none/\¬O₀ b)->HC K (fun b=>O₀ b\/A b) ts H' T'->D4 K (fun b=>O₀ b\/A b) A H' v x->D.rt v H'
inductive EO(K:Frag)(f:FS)(D:Ends)(σ:L2.St)(H:Hp):Prop where
 |mk (O₀:Addr->Prop) (H₀:Hp) (F:List ((Addr->Prop)×Hp)) (ts:List Addr) (O:Addr->Prop) (ρ:XD) (T:Tp) (fl:Fl) (ρ':XD) (T':Tp) (rs:RS K O₀ H₀ F ts O H σ ρ T) (e:f ρ T=some ((fl,ρ'),T')) (q:y8 K O₀ H₀ F ts D ρ' T' fl):EO K f D σ H
def oo(K:Frag)(f:FS):TS:=fun D σ H=>EO K f D σ H
structure DS(X:Cx)(s:Stmt)(f:FS):Prop where
 pe:PS X s (oo X.K f)
structure C9(X:Cx)(s:List Stmt)(f:FS):Prop where
 pe:ZZ X s (oo X.K f)
theorem dH(h:PS X e t)(i:∀D σ H,t' D σ H->t D σ H):PS X e t':=fun pins s σ H D I q=>h pins s σ H D I (i D σ H q)
theorem eW(h:ZZ X e t)(i:∀D σ H,t' D σ H->t D σ H):ZZ X e t':=fun pins s σ H D I q=>h pins s σ H D I (i D σ H q)
section
variable {K:Frag}{O₀:Addr->Prop}{H₀:Hp}{F:List ((Addr->Prop)×Hp)}{ts:List Addr}{O:Addr->Prop}{H H1:Hp}{σ:L2.St}{ρ:XD}{T T1:Tp}
theorem RS.step(r:RS K O₀ H₀ F ts O H σ ρ T)(s:XQ ts H H1)(c:HC K O ts H1 T1):RS K O₀ H₀ F ts O H1 σ ρ T1 where
 hc:=c
 re:=r.re.mono r.hc s
 sub:=r.sub
 ots:=r.ots
 same:=r.same.trans s
 fresh:=r.fresh
 dist:=r.dist
 frs:=fun f hf=>(r.frs f hf).trans (r.hc.le s)
 len:=r.len
theorem eC{i j:Nat}{w:W}{xs:NN}(hw:∀ys,w≠.loc ys)(e:(ρ.set i (some w))[j]? = some (some (.loc xs))):j≠i/\ρ[j]? = some (some (.loc xs)):=by
 by_cases z:i=j
 .subst z
  rw[List.getElem?_set_self'] at e<;>simp_all
 .rw[Oa z] at e
  exact⟨fun q=>z q.symm,e⟩
theorem RS.set{i:Nat}{v:V}{w:W}(r:RS K O₀ H₀ F ts O H σ ρ T)(Za:ZK K O ts H v w)(hw:∀ys,w≠.loc ys):RS K O₀ H₀ F ts O H (σ.set i (some v)) (ρ.set i (some w)) T where
 hc:=r.hc
 re:=fun j u e=>by
  by_cases z:i=j
  .subst z
   have hl:=by
    have:=(NS.mp e).1;simpa using this
   rw[Oh hl] at e;cases e;exact⟨v,by rw[Oh (by rw[r.len];exact hl)],Za⟩
  .rw[Oa z] at e
   obtain⟨x,h1,h2⟩:=r.re j u e<;>simp_all
 sub:=r.sub
 ots:=r.ots
 same:=r.same
 fresh:=fun j xs a e1 e2=>by
  obtain⟨n,e⟩:=eC hw e1;rw[Oa (PV n)] at e2;exact r.fresh j xs a e e2
 dist:=fun j k xs ys u e1 e2 e3 e4=>by
  obtain⟨n1,e1⟩:=eC hw e1;obtain⟨n2,e2⟩:=eC hw e2;rw[Oa (PV n1)] at e3;rw[Oa (PV n2)] at e4;exact r.dist j k xs ys u e1 e2 e3 e4
 frs:=r.frs
 len:=by simp[r.len]
theorem RS.ownO(r:RS K O₀ H₀ F ts O H σ ρ T)(hp:H p=none)(hm:Da (some o))(rv:Le O H (fun b=>O b\/b=p) (upd H p o)->Zf K (fun b=>O b\/b=p) (upd H p o) p xs):RS K O₀ H₀ F ts (fun b=>O b\/b=p) (upd H p o) (σ.set i (some (.ref p))) (ρ.set i (some (.loc xs))) T:=by
 have le:Le O H (fun b=>O b\/b=p) (upd H p o):=fun a o n e=>by
  have z:a≠p:=bM e hp;exact⟨fun q=>q.elim n z,by rw[aX z];exact e⟩
 have h0:∀{G:Hp},XQ ts G H->p∉ts->G p=none:=fun {G} s nt=>by
  cases e:G p with
  |none=>rfl
  |some o=>rw[s p o nt e] at hp;cases hp
 have nO:=r.hc.fresh hp;have nt:p∉ts:=fun z=>nO (r.hc.own p z)
 have old:∀{j:Nat}{v:V}{w:W},σ[j]? = some (some v)->ZK K O ts H v w->ZK K (fun b=>O b\/b=p) ts (upd H p o) v w:=fun {j v w} e q=>by
  cases w with
  |d x=>exact Rep.mono le q
  |tp k=>exact q
  |loc ys=>
   obtain⟨a,e1,h1,h2,h3⟩:=q;exact⟨a,e1,.inl h1,h2,h3.mono (fun o' q=>by rw[aX (bM q hp)];exact q) le⟩
 have CK:∀{j:Nat}{ys:NN},ρ[j]? = some (some (.loc ys))->σ[j]? = some (some (.ref p))->False:=fun {j ys} e1 e2=>by
  obtain⟨v,h1,a,ea,h2,h3,h4⟩:=r.re j _ e1;rw[e2] at h1;cases h1;cases ea;obtain⟨o',h5⟩:=h4.some;rw[hp] at h5;cases h5
 refine⟨⟨fun b hb=>.inl (r.hc.own b hb),fun b hb=>?_,r.hc.nd,r.hc.len,fun j a ys e1 e2=>?_⟩,fun j w e=>?_,fun b hb=>.inl (r.sub b hb),r.ots,r.same.trans (.new hp _),fun j ys a e1 e2=>?_,fun j k ys zs v e1 e2 e3 e4=>?_,fun f hf=>(r.frs f hf).trans le,by simp[r.len]⟩
 .by_cases z:b=p
  .subst z;rw[bu];exact hm
  .rw[aX z]
   exact r.hc.trk b (hb.resolve_right z)
 .exact(r.hc.tape j a ys e1 e2).mono (fun o' h1=>by rw[aX (bM h1 hp)];exact h1) le
 .by_cases z:i=j
  .subst z
   have hl:i<ρ.length:=by
    have:=(NS.mp e).1;simpa using this
   rw[Oh hl] at e;cases e;exact⟨.ref p,by rw[Oh (by rw[r.len];exact hl)],p,rfl,.inr rfl,nt,rv le⟩
  .rw[Oa z] at e
   obtain⟨x,h1,h2⟩:=r.re j w e;exact⟨x,by rw[Oa z];exact h1,old h1 h2⟩
 .by_cases z:i=j
  .subst z
   have hl:i<ρ.length:=by
    have:=(NS.mp e1).1;simpa using this
   rw[Oh (by rw[r.len];exact hl)] at e2;cases e2;exact⟨h0 r.same nt,fun q=>nO (r.sub _ q)⟩
  .rw[Oa z] at e1 e2
   exact r.fresh j ys a e1 e2
 .by_cases z:i=j
  .by_cases z':i=k
   .rw[←z,←z']
   .exfalso
    subst z
    have hl:i<ρ.length:=by
     have:=(NS.mp e1).1;simpa using this
    rw[Oh (by rw[r.len];exact hl)] at e3;cases e3;rw[Oa z'] at e2 e4;exact CK e2 e4
  .by_cases z':i=k
   .exfalso
    subst z'
    have hl:i<ρ.length:=by
     have:=(NS.mp e2).1;simpa using this
    rw[Oh (by rw[r.len];exact hl)] at e4;cases e4;rw[Oa z] at e1 e3;exact CK e1 e3
   .rw[Oa z] at e1 e3
    rw[Oa z'] at e2 e4;exact r.dist j k ys zs v e1 e2 e3 e4
theorem RS.own(r:RS K O₀ H₀ F ts O H σ ρ T)(hp:H p=none)(rv:XH K O H vs xs):RS K O₀ H₀ F ts (fun b=>O b\/b=p) (upd H p (.lst vs)) (σ.set i (some (.ref p))) (ρ.set i (some (.loc (.list xs)))) T:=r.ownO hp (.inl ⟨_,rfl⟩) fun le=>⟨vs,bu,rv.mono le⟩
theorem RS.putO(r:RS K O₀ H₀ F ts O H σ ρ T)(e1:ρ[i]? = some (some (.loc xs)))(e2:σ[i]? = some (some (.ref a)))(hm:Da (some o))(rv:Le O H O (upd H a o)->Zf K O (upd H a o) a ys):RS K O₀ H₀ F ts O (upd H a o) σ (ρ.set i (some (.loc ys))) T:=by
 obtain⟨v,z1,a',ea,oa,nt,ha⟩:=r.re i _ e1;rw[e2] at z1;cases z1;cases ea;have hl:i<ρ.length:=(NS.mp e1).1;obtain⟨f1,f2⟩:=r.fresh i xs a e1 e2;have le:Le O H O (upd H a o):=fun b o n e=>⟨n,by rw[aX (show b≠a from fun z=>n (by rw[z];exact oa))];exact e⟩
 have back:∀{j:Nat}{zs:NN},(ρ.set i (some (W.loc ys)))[j]? = some (some (.loc zs))->∃ws,ρ[j]? = some (some (.loc ws)):=fun {j zs} e=>by
  by_cases z:i=j
  .subst z;exact⟨xs,e1⟩
  .rw[Oa z] at e;exact⟨zs,e⟩
 refine⟨⟨r.hc.own,fun b hb=>?_,r.hc.nd,r.hc.len,fun j b zs q1 q2=>?_⟩,fun j w e=>?_,r.sub,r.ots,fun b o n e=>?_,fun j zs b q1 q2=>?_,fun j k zs zs' v q1 q2 q3 q4=>?_,fun f hf=>(r.frs f hf).trans le,by simp[r.len]⟩
 .by_cases z:b=a
  .subst z;rw[bu];exact hm
  .rw[aX z];exact r.hc.trk b hb
 .exact(r.hc.tape j b zs q1 q2).mono (fun o' h1=>by rw[aX (show b≠a from fun z=>nt (by rw[←z];exact OC q1))];exact h1) le
 .by_cases z:i=j
  .subst z
   rw[Oh hl] at e;cases e;exact⟨.ref a,e2,a,rfl,oa,nt,rv le⟩
  .rw[Oa z] at e
   obtain⟨x,h1,h2⟩:=r.re j w e;refine⟨x,h1,?_⟩
   cases w with
   |d x=>exact Rep.mono le h2
   |tp k=>exact h2
   |loc zs=>
    obtain⟨b,eb,k1,k2,k3⟩:=h2;have n:b≠a:=fun q=>z (r.dist i j xs zs (.ref a) e1 e e2 (by rw[h1,eb,q]));exact⟨b,eb,k1,k2,k3.mono (fun o' q=>by rw[aX n];exact q) le⟩
 .have:=r.same b o n e
  rw[aX (show b≠a from fun z=>by rw[z,f1] at e;cases e)];exact this
 .obtain⟨ws,q⟩:=back q1
  exact r.fresh j ws b q q2
 .obtain⟨ws,q⟩:=back q1
  obtain⟨ws',q'⟩:=back q2;exact r.dist j k ws ws' v q q' q3 q4
theorem RS.put{i:Nat}{a:Addr}{vs us:List V}{xs ys:List NN}(r:RS K O₀ H₀ F ts O H σ ρ T)(e1:ρ[i]? = some (some (.loc (.list xs))))(e2:σ[i]? = some (some (.ref a)))(rv:XH K O H vs ys):RS K O₀ H₀ F ts O (upd H a (.lst vs)) σ (ρ.set i (some (.loc (.list ys)))) T:=r.putO e1 e2 (.inl ⟨_,rfl⟩) fun le=>⟨vs,bu,rv.mono le⟩
theorem RS.tapeO(r:RS K O₀ H₀ F ts O H σ ρ T)(e:ts[n]? = some a)(hm:Da (some o))(rv:Le O H O (upd H a o)->Bj K O (upd H a o) a ys):RS K O₀ H₀ F ts O (upd H a o) σ ρ (T.set n ys):=by
 have am:=OC e;have le:Le O H O (upd H a o):=fun b o' k q=>⟨k,by rw[aX (fun z=>k (by rw[z];exact r.hc.own a am))];exact q⟩
 have sx:XQ ts H (upd H a o):=fun b o' k q=>by rw[aX (fun z=>k (by simp_all))];exact q
 refine⟨⟨r.hc.own,fun b hb=>?_,r.hc.nd,by simp[r.hc.len],fun j b zs q1 q2=>?_⟩,r.re.mono r.hc sx,r.sub,r.ots,r.same.trans sx,r.fresh,r.dist,fun f hf=>(r.frs f hf).trans le,r.len⟩
 .by_cases z:b=a
  .subst z;rw[bu];exact hm
  .rw[aX z];exact r.hc.trk b hb
 .by_cases z:n=j
  .subst z
   rw[e] at q1
   have hl:n<T.length:=by
    have:=(NS.mp e).1;rw[←r.hc.len];exact this
   rw[Oh hl] at q2<;>simp_all
  .simp_all
   refine(r.hc.tape j b zs q1 q2).mono (fun o' h1=>?_) le
   have nb:b≠a:=fun q=>by
    rw[q] at q1;exact z ((List.getElem?_inj (NS.mp e).1 r.hc.nd).mp (e.trans q1.symm))
   rw[aX nb]<;>omega
theorem RS.tape(r:RS K O₀ H₀ F ts O H σ ρ T)(e:ts[n]? = some a)(rv:XH K O H vs ys):RS K O₀ H₀ F ts O (upd H a (.lst vs)) σ ρ (T.set n ys):=r.tapeO e (.inl ⟨_,rfl⟩) fun le=>.inl ⟨rv.notO,vs,bu,rv.mono le⟩
def J3:W->W
 |.loc x=>.d x
 |w=>w
def bS(ρ:XD):XD:=ρ.map (Xo J3)
theorem RS.frzH(r:RS K O₀ H₀ F ts O H σ ρ T):HC K O₀ ts H T:=by
 have le:Le O H O₀ H:=fun a o n e=>⟨fun z=>n (r.sub a z),e⟩;exact⟨r.ots,fun b hb=>r.hc.trk b (r.sub b hb),r.hc.nd,r.hc.len,fun i a xs e1 e2=>(r.hc.tape i a xs e1 e2).mono (fun _ h=>h) le⟩
def sD(ρ:XD):Prop:=∀(i:Nat) (ds:List (NN×NN)),ρ[i]?≠some (some (.loc (.dict ds)))
theorem RS.frz(r:RS K O₀ H₀ F ts O H σ ρ T)(nd:sD ρ):HC K O₀ ts H T/\Zd K O₀ ts H σ (bS ρ):=by
 have le:Le O H O₀ H:=fun a o n e=>⟨fun z=>n (r.sub a z),e⟩;refine⟨r.frzH,fun i w e=>?_⟩;unfold bS at e;rw[Pt] at e
 cases hu:ρ[i]? with
 |none=>simp_all
 |some u=>
  cases u with
  |none=>simp_all
  |some u=>
   rw[hu] at e;cases e;obtain⟨v,h1,h2⟩:=r.re i u hu;refine⟨v,h1,?_⟩
   cases u with
   |d x=>exact Rep.mono le h2
   |tp k=>exact h2
   |loc xs=>
    obtain⟨a,rfl,k1,k2,k3⟩:=h2
    cases xs with
    |list xs=>obtain⟨vs,k3,k4⟩:=k3;exact .lst (.inl ⟨(r.fresh i _ a hu h1).2,.inl k3⟩) (k4.mono le)
    |dict xs=>exact absurd hu (nd i xs)
    |_=>cases k3
theorem RS.frzD(r:RS K O₀ H₀ F ts O H σ ρ T)(h1:ρ[i]? = some (some (.loc (.dict ds)))):∃a kvs,H a=some (.dK kvs)/\∀o,RS K O₀ H₀ F ts (fun b=>O b/\b≠a) (upd H a (.frz o (.dK kvs))) σ (ρ.set i (some (.d (.dict ds)))) T:=by
 obtain⟨v,k1,a,rfl,k2,k3,kvs,k4,k5⟩:=r.re i _ h1;refine⟨a,kvs,k4,fun o=>?_⟩;have hl:i<ρ.length:=(NS.mp h1).1;have U:∀{b:Addr},b≠a->upd H a (.frz o (.dK kvs)) b=H b:=fun n=>aX n;have le:Le O H (fun b=>O b/\b≠a) (upd H a (.frz o (.dK kvs))):=fun b u n e=>⟨fun z=>n z.1,by rw[U (fun z=>n (by rw[z];exact k2))];exact e⟩;have fr:=r.fresh i _ a h1 k1
 have hw:∀ys,W.d (.dict ds)≠.loc ys:=fun _ z=>nomatch z
 refine⟨⟨fun b hb=>⟨r.hc.own b hb,fun z=>k3 (z ▸ hb)⟩,fun b hb=>by rw[U hb.2];exact r.hc.trk b hb.1,r.hc.nd,r.hc.len,fun j b ys e1 e2=>?_⟩,fun j w e=>?_,fun b hb=>⟨r.sub b hb,fun z=>fr.2 (z ▸ hb)⟩,r.ots,fun b u n e=>?_,fun j ys b e1 e2=>?_,fun j k ys zs v e1 e2 e3 e4=>?_,fun f hf=>(r.frs f hf).trans le,by simp[r.len]⟩
 .exact(r.hc.tape j b ys e1 e2).mono (fun _ h=>by rw[U (fun z=>k3 (by rw[←z];exact OC e1))];exact h) le
 .by_cases z:i=j
  .subst z
   rw[Oh hl] at e;cases e;exact⟨.ref a,k1,.dct (fun z=>z.2 rfl) bu (k5.mono le)⟩
  .rw[Oa z] at e
   obtain⟨x,q1,q2⟩:=r.re j w e;refine⟨x,q1,?_⟩
   cases w with
   |d y=>exact Rep.mono le q2
   |tp k=>exact q2
   |loc ys=>
    obtain⟨b,eb,m1,m2,m3⟩:=q2;have nb:b≠a:=fun q=>z (r.dist i j _ ys (.ref a) h1 e k1 (by rw[q1,eb,q]));exact⟨b,eb,⟨m1,nb⟩,m2,m3.mono (fun _ q=>by rw[U nb];exact q) le⟩
 .rw[U (fun z=>by simp_all)]
  exact r.same b u n e
 .obtain⟨n,e⟩:=eC hw e1
  exact r.fresh j ys b e e2
 .obtain⟨n1,e1⟩:=eC hw e1
  obtain⟨n2,e2⟩:=eC hw e2;exact r.dist j k ys zs v e1 e2 e3 e4
theorem zeq(h:ρ[i]? = some (some (.loc x))):bS (ρ.set i (some (.d x)))=bS ρ:=by
 apply List.ext_getElem?;intro j;unfold bS;rw[Pt,Pt]
 by_cases z:i=j
 .subst z
  rw[Oh (NS.mp h).1,h];rfl
 .simp_all
theorem RS.frzN(R:XD):∀(k:Nat) {O:Addr->Prop}{H:Hp}{ρ:XD},RS K O₀ H₀ F ts O H σ ρ T->(∀j ds,k<=j->ρ[j]?≠some (some (.loc (.dict ds))))->bS ρ=R ->
  Gh (fun H'=>∃O' ρ',RS K O₀ H₀ F ts O' H' σ ρ' T/\sD ρ'/\bS ρ'=R) H
 |0,O,H,ρ,r,n,e=>.done ⟨O,ρ,r,fun j ds=>n j ds (QK _),e⟩
 |k+1,O,H,ρ,r,n,e=>by
  by_cases h:∃ds,ρ[k]? = some (some (.loc (.dict ds)))
  .obtain⟨ds,h⟩:=h
   obtain⟨a,kvs,e1,f⟩:=r.frzD h;refine .frz e1 fun o=>RS.frzN R k (f o) (fun j es hj=>?_) (by rw[zeq h];exact e)
   by_cases z:k=j
   .subst z
    rw[Oh (NS.mp h).1]<;>grind
   .rw[Oa z]
    exact n j es (by omega)
  .refine RS.frzN R k r (fun j ds hj=>?_) e
   by_cases z:k=j
   .subst z<;>simp_all
   .exact n j ds (by omega)
theorem RS.frzG(r:RS K O₀ H₀ F ts O H σ ρ T):Gh (fun H'=>XQ ts H₀ H'/\HC K O₀ ts H' T/\Zd K O₀ ts H' σ (bS ρ)) H:=(RS.frzN _ ρ.length r (fun j ds hj=>by simp_all) rfl).imp fun H' ⟨O',ρ',r',n,e⟩=>⟨r'.same,by rw[←e];exact r'.frz n⟩
end
def aR:FS:=fun ρ T=>some ((.nx,ρ),T)
def aq(f g:FS):FS:=fun ρ T=>XI (f ρ T) fun p T1=>match p with
 |(.nx,Yc)=>g Yc T1
 |(fl,Yc)=>some ((fl,Yc),T1)
def aG(i:Nat)(f:FE):FS:=fun ρ T=>XI (f ρ T) fun w T1=>match w with
 |.d x=>some ((.nx,ρ.set i (some (.d x))),T1)
 |.tp k=>some ((.nx,ρ.set i (some (.tp k))),T1)
 |.loc _=>none
def je(i:Nat)(g:FA):FS:=fun ρ T=>XI (g ρ T) fun ws T1=>match eP ws with
 |some xs=>if xs.length<=1000 then some ((.nx,ρ.set i (some (.loc (.list xs)))),T1) else none
 |none=>none
def jp(i:Nat)(f:FE):FS:=fun ρ T=>XI (f ρ T) fun w T1=>match w with
 | .d x=>(match ρ[i]? with
  |some (some (.loc (.list xs)))=>if xs.length<NX then some ((.nx,ρ.set i (some (.loc (.list (xs++[x]))))),T1) else none
  | _=>none)
 |_=>none
def sj(fo fk fe:FE):FS:=fun ρ T=>XI (fe ρ T) fun w T1=>XI (fo ρ T1) fun o T2=>XI (fk ρ T2) fun k T3=>match w,o,k with
 |.d x,.tp n,.d (.int i)=>match T3[n]? with
  |some xs=>if B8 xs=true then none else match Jf xs.length i with
   |some j=>some ((.nx,ρ),T3.set n (xs.set j x))
   |none=>none
  |none=>none
 |_,_,_=>none
def Ye(c:FT)(f g:FS):FS:=fun ρ T=>XI (c ρ T) fun b T1=>if b=true then f ρ T1 else g ρ T1
def aB(f:FE):FS:=fun ρ T=>XI (f (bS ρ) T) fun w T1=>match w with
 |.d x=>some ((.rt x,ρ),T1)
 |_=>none
def fR(f:FE):FS:=fun ρ T=>XI (f ρ T) fun _ T1=>some ((.nx,ρ),T1)
def forL(i:Nat)(body:FS):List NN->FS
 |[]=>aR
 |d::r=>fun ρ T=>XI (body (ρ.set i (some (.d d))) T) fun p T1=>match p with
  |(.nx,Yc)=>forL i body r Yc T1
  |(.ct,Yc)=>forL i body r Yc T1
  |(.bk,Yc)=>some ((.nx,Yc),T1)
  |(.rt x,Yc)=>some ((.rt x,Yc),T1)
  |(.ro x,Yc)=>some ((.ro x,Yc),T1)
def iE(i:Nat)(it:FI)(body:FS):FS:=fun ρ T=>XI (it ρ T) fun ds T1=>forL i body ds ρ T1
def fi(c:FT)(body:FS):Nat->FS
 |0=>fun _ _=>none
 |n+1=>fun ρ T=>XI (c ρ T) fun b T1=>if b=true then XI (body ρ T1) fun p T2=>match p with
   |(.nx,Yc)=>fi c body n Yc T2
   |(.ct,Yc)=>fi c body n Yc T2
   |(.bk,Yc)=>some ((.nx,Yc),T2)
   |(.rt x,Yc)=>some ((.rt x,Yc),T2)
   |(.ro x,Yc)=>some ((.ro x,Yc),T2)
  else some ((.nx,ρ),T1)
section
variable {X:Cx}{pos:Pos}{st:Stmt}{rest:List Stmt}{f g:FS}{e:Expr}{fe:FE}{c:FT}{K:Frag}{O₀:Addr->Prop}{H₀:Hp}{F:List ((Addr->Prop)×Hp)}{ts:List Addr}{O:Addr->Prop}{H H1:Hp}{σ:L2.St}{ρ:XD}{T T1:Tp}
theorem aV:C9 X [] aR:=by
 refine⟨?_⟩;refine eW qu fun D σ H=>?_;rintro⟨O₀,H₀,F,ts,O,ρ,T,fl,ρ',T',rs,e,q⟩;cases e;exact q O σ H rs
theorem ax(h1:DS X st f)(h2:C9 X rest g):C9 X (st::rest) (aq f g):=by
 refine⟨?_⟩;refine eW (dF h1.pe h2.pe) fun D σ H=>?_;rintro⟨O₀,H₀,F,ts,O,ρ,T,fl,ρ',T',rs,e,q⟩;obtain⟨⟨EG,Yc⟩,T1,e1,e⟩:=aF e;refine⟨O₀,H₀,F,ts,O,ρ,T,EG,Yc,T1,rs,e1,?_⟩
 cases EG with
 |nx=>exact fun O' σ' H' B9=>⟨O₀,H₀,F,ts,O',Yc,T1,fl,ρ',T',B9,e,q⟩
 |rt x=>cases e;exact q
 |ro x=>cases e;exact q
 |bk=>cases e;exact q
 |ct=>cases e;exact q
theorem ay(h1:DS X st f):C9 X [st] f:=⟨kO h1.pe⟩
theorem aO(hN:X.N.Nodup)(he:DE X e fe)(hi:X.N[i]? = some x:=by rfl)(hx:Loc X.env.scope x:=by first|exact Qp rfl|exact PZ rfl)(hs:Pi e (some (.Name x pos')) pos.line X.env=pure false:=by rfl)
  (hf:X.fn x=true\/X.env.scope.names.lookup x=some .local:=by first|exact .inl rfl|exact .inr rfl|assumption):DS X (.Assign [.Name x pos'] e pos) (aG i fe):=by
 refine⟨?_⟩;refine dH (gR hN hi hx he.pe hs hf) fun D σ H=>?_;rintro⟨O₀,H₀,F,ts,O,ρ,T,fl,ρ',T',rs,e,q⟩;obtain⟨w,T1,e1,e⟩:=aF e;refine⟨O,ts,ρ,T,w,T1,rs.hc,rs.re,e1,fun v H1 s1 Xy r1=>?_⟩
 cases w with
 |d x=>cases e;exact q O _ _ ((rs.step s1 Xy).set r1 fun _ z=>nomatch z)
 |tp k=>cases e;exact q O _ _ ((rs.step s1 Xy).set r1 fun _ z=>nomatch z)
 |loc xs=>cases e
theorem mY{i:Nat}{x y:Str}{scope osc:P4}{N N':List Str}{elt iter:Expr}{ifs:List Expr}{px py Du:Pos}{it:FI}{c:FT}{f:FE}(S:CS osc N x scope N')(hN:X.N.Nodup)(hi:DI X (.Name x px) iter it)
  (he:∀C s0 H0 ex,DE (cz X x scope C s0 H0 ex N') elt f) (ht:∀C s0 H0 ex,sE (cz X x scope C s0 H0 ex N') ifs c) (Hd:X.N[i]? = some y:=by rfl) (hy:Loc X.env.scope y:=by first|exact Qp rfl|exact PZ rfl)
  (Jm:X.fn y=true\/X.env.scope.names.lookup y=some .local:=by first|exact .inl rfl|exact .inr rfl|assumption) (hc:X.calm=true:=by rfl) (hs:X.env.scope=osc:=by rfl) (hN':X.N=N:=by rfl)
  (GP:Pi (.ListComp elt [⟨.Name x px,iter,ifs,0⟩] scope pos) (some (.Name y py)) Du.line X.env=pure true:=by rfl) (hf:∀v,Pe iter X.env v=pure v:=by intro _;rfl) :
  DS X (.Assign [.Name y py] (.ListComp elt [⟨.Name x px,iter,ifs,0⟩] scope pos) Du) (aG i (cg it c f)):=by
 refine⟨?_⟩;subst hs hN';refine dH (zds  (tt:=liftT X.K c) (te:=lift X.K f) hc S hN Hd hy Jm hi.pe (fun C s0 H0 ex=>(he C s0 H0 ex).pe) (fun C s0 H0 ex=>(ht C s0 H0 ex).pe) GP hf) fun D σ H=>?_;rintro⟨O₀,H₀,F,ts,O,ρ,T,fl,ρ',T',rs,e,q⟩;obtain⟨w,T1,e1,e⟩:=aF e;obtain⟨ds,T2,e2,e1⟩:=aF e1;obtain⟨ys,T3,e3,e1⟩:=aF e1;cases e1;cases e;refine⟨O,ts,ρ,T,ds,T2,rs.hc,rs.re,e2,fun J H1 s1 Xy ok hz=>?_⟩;exact wC Xy (rs.re.mono rs.hc s1) ok hz e3 fun vs H' s2 XW r2 p hp=>q O _ _ ((rs.step (s1.trans (s2.trans (.new hp _))) (XW.new hp _)).set (XW.newL hp r2) fun _ z=>nomatch z)
theorem qK{i:Nat}{x:Str}{pos':Pos}{es:List Expr}{Dw:Pos}{g:FA}(hN:X.N.Nodup)(he:DA X es g)(hi:X.N[i]? = some x:=by rfl)(hx:Loc X.env.scope x:=by first|exact Qp rfl|exact PZ rfl)
  (hs:Pi (.List es Dw) (some (.Name x pos')) pos.line X.env=pure false:=by rfl) (hf:X.fn x=true\/X.env.scope.names.lookup x=some .local:=by first|exact .inl rfl|exact .inr rfl|assumption):DS X (.Assign [.Name x pos'] (.List es Dw) pos) (je i g):=by
 refine⟨?_⟩;refine dH (gR hN hi hx (lg he.pe) hs hf) fun D σ H=>?_;rintro⟨O₀,H₀,F,ts,O,ρ,T,fl,ρ',T',rs,e,q⟩;obtain⟨ws,T1,e1,e⟩:=aF e;refine⟨O,ts,ρ,T,ws,T1,rs.hc,rs.re,e1,fun vs H1 s1 Xy r1=>?_⟩;split at e
 .rename_i xs h1
  split at e
  .rename_i h2
   cases e;have rv:=kI r1 h1;exact⟨mU (by rw[rv.length];exact h2),fun p hp=>q _ _ _ ((rs.step s1 Xy).own hp rv)⟩
  .cases e
 .cases e
theorem aU(hc:DT X ce c)(ha:C9 X a f)(hb:C9 X b g):DS X (.If ce a b pos) (Ye c f g):=by
 refine⟨?_⟩;refine dH (rJ hc.pe ha.pe hb.pe) fun D σ H=>?_;rintro⟨O₀,H₀,F,ts,O,ρ,T,fl,ρ',T',rs,e,q⟩;obtain⟨b1,T1,e1,e⟩:=aF e;refine⟨O,ts,ρ,T,b1,T1,rs.hc,rs.re,e1,fun H1 s1 Xy=>?_⟩
 cases b1 with
 |true=>exact hJ ⟨O₀,H₀,F,ts,O,ρ,T1,fl,ρ',T',rs.step s1 Xy,by simpa using e,q⟩
 |false=>exact gw ⟨O₀,H₀,F,ts,O,ρ,T1,fl,ρ',T',rs.step s1 Xy,by simpa using e,q⟩
theorem aE(he:DE X e fe):DS X (.Return (some e) pos) (aB fe):=by
 refine⟨?_⟩;refine dH (zea (nF he.pe)) fun D σ H=>?_;rintro⟨O₀,H₀,F,ts,O,ρ,T,fl,ρ',T',rs,e,q⟩;obtain⟨w,T1,e1,e⟩:=aF e;refine rs.frzG.imp fun H0 ⟨same,c0,CH⟩=>?_;refine⟨O₀,ts,bS ρ,T,w,T1,c0,CH,e1,fun v H1 s1 Xy r1=>?_⟩
 cases w with
 |d x=>cases e;exact q v H1 (same.trans s1) Xy r1
 |tp k=>cases e
 |loc xs=>cases e
theorem gO(he:DE X e fe)(hs:Pi e none pos.line X.env=pure false:=by rfl):DS X (.Expr e pos) (fR fe):=by
 refine⟨?_⟩;refine dH (kP he.pe hs) fun D σ H=>?_;rintro⟨O₀,H₀,F,ts,O,ρ,T,fl,ρ',T',rs,e,q⟩;obtain⟨w,T1,e1,e⟩:=aF e;cases e;exact⟨O,ts,ρ,T,w,_,rs.hc,rs.re,e1,fun v H1 s1 Xy r1=>q O _ _ (rs.step s1 Xy)⟩
theorem nU(he:DE X e fe)(hN:X.N[i]? = some x:=by rfl)(hv:Dt X.env.scope x:=by first|exact Qp rfl|exact PZ (Qp rfl)|exact PZ (PZ rfl))(hd:(x == ("__debug__" : Str))=false:=by decide)
  (hcd:(x == ("__classdict__" : Str))=false:=by decide) 
  (YI:Pj (.Name x p) "append" X.env (eval (.Name x p) X.env)=eval (.Name x p) X.env:=by rfl)
  (Zv:((OO cpos (NR [e] X.env)).all (fun x=>!x.1)&&(PX cpos (O8 [] X.env)).all (fun x=>x.1.isSome)
   && decide (([e]:List Expr).length+([]:List PD).length+(if ([]:List PD).isEmpty then 0 else 1)<30))=true:=by exact kh rfl)
  (YH:(apos.endLine == cpos.line)=true:=by rfl) (Zk:NR [e] X.env=(false,eval e X.env)::NR [] X.env:=by exact bo rfl) (Yn:(OO cpos (NR [] X.env)).any (·.1)=false:=by exact bN rfl)
  (hs:Pi (.Call (.Attribute (.Name x p) "append" apos) [e] [] cpos) none pos.line X.env=pure false:=by rfl) :
  DS X (.Expr (.Call (.Attribute (.Name x p) "append" apos) [e] [] cpos) pos) (jp i fe):=by
 refine⟨?_⟩;refine dH (kP (i5 S0 PySem.F.slot_list_append PySem.F.type_list_append zcy (pv i hN hv hd hcd) (bf he.pe bR Zk) YI Zv YH Zk Yn) hs) fun D σ H=>?_;rintro⟨O₀,H₀,F,ts,O,ρ,T,fl,ρ',T',rs,e,q⟩;obtain⟨w,T1,e1,e⟩:=aF e;split at e
 .split at e
  .rename_i xs h1
   split at e
   .rename_i h2
    cases e;obtain⟨v,k1,a,rfl,k2,k3,vs,k4,k5⟩:=rs.re i _ h1;refine⟨_,k1,.inl ⟨rfl,vs,Y8.of k4⟩,O,ts,ρ,T,_,_,rs.hc,rs.re,e1,fun u H1 s1 Xy r1=>?_⟩;have Z4:=rs.step s1 Xy;exact⟨a,vs,u,rfl,rfl,s1 _ _ k3 k4,by rw[k5.length];exact h2,q O _ _ (Z4.put (us:=[]) h1 k1 ((k5.mono (rs.hc.le s1)).append (.cons r1 .nil)))⟩
   .cases e
  .cases e
 .cases e
theorem zer(ho:DE X o fo)(hk:DE X k fk)(he:DE X e fe)(ha:∀v,Ta (.Subscript o k Yl) X.env v=(do
   let ov ←QL [v] (eval o X.env)
   let iv ←QL [v,ov] (eval k X.env)
   Ru Yl
   QL [v,ov,iv] (WY ov iv v)
   release [v,ov,iv] []):=by intro _;rfl)
  (hs:swapsWithSole [.Subscript o k Yl] e pos.line X.env=pure false:=by rfl) (hw:swappedStores [.Subscript o k Yl] e X.env=pure none:=by rfl)
  (h1:(RM [.Subscript o k Yl] X.env).map (·.2)=[Ta (.Subscript o k Yl) X.env]:=by rfl):DS X (.Assign [.Subscript o k Yl] e pos) (sj fo fk fe):=by
 refine⟨?_⟩;refine dH (zat he.pe (zas ho.pe hk.pe set_list ha) hs hw h1) fun D σ H=>?_;rintro⟨O₀,H₀,F,ts,O,ρ,T,fl,ρ',T',rs,e,q⟩;obtain⟨w,T1,e1,e⟩:=aF e;obtain⟨wo,T2,e2,e⟩:=aF e;obtain⟨wk,T3,e3,e⟩:=aF e;refine⟨O,ts,ρ,T,w,T1,rs.hc,rs.re,e1,fun v H1 s1 Xy r1=>?_⟩;have Z4:=rs.step s1 Xy;refine⟨O,ts,ρ,T1,wo,T2,Xy,Z4.re,e2,fun vo H2 s2 XW r2=>?_⟩;have El:=Z4.step s2 XW;refine⟨O,ts,ρ,T2,wk,T3,XW,El.re,e3,fun vk H3 s3 YK r3=>?_⟩;have Zb:=El.step s3 YK;split at e
 .split at e
  .rename_i xs h1
   split at e
   .cases e
   .rename_i hn
    split at e
    .rename_i j h2
     cases e;obtain⟨a,k1,rfl⟩:=r2;cases (show Rep X.K O H3 vk (.int _) from r3);obtain⟨vs,k2,k3⟩:=(YK.tape _ a xs k1 h1).lst (by simpa using hn);refine⟨a,vs,_,j,rfl,rfl,k2,by rw[k3.length];exact h2,q O _ _ (Zb.tape k1 (XH.set ?_ j k3))⟩;exact Rep.mono ((Xy.le s2).trans (XW.le s3)) r1
    .cases e
  .cases e
 .cases e
theorem RS.less{f:(Addr->Prop)×Hp}(r:RS K O₀ H₀ (f::F) ts O H σ ρ T):RS K O₀ H₀ F ts O H σ ρ T:=⟨r.hc,r.re,r.sub,r.ots,r.same,r.fresh,r.dist,fun f hf=>r.frs f (NV _ hf),r.len⟩
theorem RS.more(r:RS K O₀ H₀ F ts O H σ ρ T):RS K O₀ H₀ ((O,H)::F) ts O H σ ρ T:=⟨r.hc,r.re,r.sub,r.ots,r.same,r.fresh,r.dist,fun f hf=>by
 rcases N4.mp hf with z|z
 .subst z;exact fun a o n e=>⟨n,e⟩
 .exact r.frs f z,r.len⟩
theorem nT(hN:X.N.Nodup)(hi:DI X (.Name x Yl) iter it)(hb:C9 X body f)(hix:X.N[i]? = some x:=by rfl)(hx:Loc X.env.scope x:=by first|exact Qp rfl|exact PZ rfl)
  (hf:X.fn x=true\/X.env.scope.names.lookup x=some .local:=by first|exact .inl rfl|exact .inr rfl|assumption) (hp:SR (Os X.prog X.w) X.A X.env X.xe:=by exact Tz) (hc:X.calm=true:=by rfl)
  (hs:∀x,Pe iter X.env x=pure x:=by intro _;rfl):DS X (.For (.Name x Yl) iter body [] pos) (iE i it f):=by
 refine⟨?_⟩;refine dH (q5 hp hc hi.pe (kQ hN hix hx hf) hb.pe hs) fun D σ H=>?_;rintro⟨O₀,H₀,F,ts,O,ρ,T,fl,ρ',T',rs,e,q⟩;obtain⟨ds,T1,e1,e⟩:=aF e;refine⟨O,ts,ρ,T,ds,T1,rs.hc,rs.re,e1,fun J H1 s1 Xy ok hz=>?_⟩;refine⟨fun k m σ H=>m=ds.length-k/\k<=ds.length/\∃O' Br Tk,RS X.K O₀ H₀ ((O,H1)::F) ts O' H σ Br Tk/\forL i f (ds.drop k) Br Tk=some ((fl,ρ'),T'),⟨_,rfl,QK _,O,ρ,T1,(rs.step s1 Xy).more,e⟩,?_⟩;rintro k m Gj H2 ⟨rfl,hk,O',Br,Tk,El,ek⟩;obtain⟨k1,k2,k3⟩:=ok O' H2 (El.frs _ NZ)
 by_cases ZU:k<ds.length
 .refine .inr ⟨k1 k ZU,fun YW H3=>∃O' Br Tk,RS X.K O₀ H₀ ((O,H1)::F) ts O' H3 YW Br Tk/\forL i f (ds.drop (k+1)) Br Tk=some ((fl,ρ'),T'),fun YW H3 n=>⟨ds.length-(k+1),by omega,rfl,ZU,n⟩,fun v H3 y=>?_⟩
  obtain⟨e2,d,hd,rd⟩:=k3 k v H3 y ZU;subst e2
  have BP:ds.drop k=d::ds.drop (k+1):=by
   rw[Pr ZU];have:=(NS.mp hd).2;rw[this]
  rw[BP] at ek;obtain⟨⟨EG,Yc⟩,T3,e3,ek⟩:=aF ek;refine⟨O₀,H₀,(O,H1)::F,ts,O',_,Tk,EG,Yc,T3,El.set (i:=i) (w:=.d d) rd (fun _ z=>nomatch z),e3,?_⟩
  cases EG with
  |nx=>exact fun O3 YW H3 Zb=>⟨O3,Yc,T3,Zb,ek⟩
  |ct=>exact fun O3 YW H3 Zb=>⟨O3,Yc,T3,Zb,ek⟩
  |bk=>
   cases ek;exact fun O3 YW H3 Zb=>q O3 YW H3 Zb.less
  |rt x=>
   cases ek;exact q
  |ro x=>
   cases ek;exact q
 .have e:k=ds.length:=by omega
  subst e;rw[OU (Of _)] at ek;cases ek;exact .inl ⟨k2,q O' Gj H2 El.less⟩
theorem u4(n:Nat)(hc:DT X ce c)(hb:C9 X body f)(hp:SR (Os X.prog X.w) X.A X.env X.xe:=by exact Tz):DS X (.While ce body [] pos) (fi c f n):=by
 refine⟨?_⟩;refine dH (zau hp hc.pe hb.pe) fun D σ H=>?_;rintro⟨O₀,H₀,F,ts,O,ρ,T,fl,ρ',T',rs,e,q⟩;refine⟨fun m σ H=>∃O' Ct Tm,RS X.K O₀ H₀ F ts O' H σ Ct Tm/\fi c f m Ct Tm=some _,⟨n,O,ρ,T,rs,e⟩,?_⟩;rintro m Gj H2 ⟨O',Ct,Tm,El,em⟩
 cases m with
 |zero=>cases em
 |succ m=>
  obtain⟨b,T3,e3,em⟩:=aF em;refine⟨O',ts,Ct,Tm,b,T3,El.hc,El.re,e3,fun H3 s3 YK=>?_⟩;have Zb:=El.step s3 YK
  cases b with
  |false=>
   cases em;exact gw (q O' Gj H3 Zb)
  |true=>
   obtain⟨⟨EG,Yc⟩,T4,e4,em⟩:=aF em;refine hJ ⟨fun YW H3=>∃O' Ct Tm,RS X.K O₀ H₀ F ts O' H3 YW Ct Tm/\fi c f m Ct Tm=some _,fun YW H3 n=>⟨m,RN m,n⟩,O₀,H₀,F,ts,O',Ct,T3,EG,Yc,T4,Zb,e4,?_⟩
   cases EG with
   |nx=>exact fun O3 YW H3 Zb=>⟨O3,Yc,T4,Zb,em⟩
   |ct=>exact fun O3 YW H3 Zb=>⟨O3,Yc,T4,Zb,em⟩
   |bk=>
    cases em;exact fun O3 YW H3 Zb=>q O3 YW H3 Zb
   |rt x=>
    cases em;exact q
   |ro x=>
    cases em;exact q
end
abbrev Yh:=List W->Tp->Option (NN×Tp)
def dJ:List W->Bool
 |[]=>true
 |.loc _::_=>false
 |_::r=>dJ r
def dM(o:Option ((Fl×XD)×Tp)):Option (NN×Tp):=XI o fun p T=>match p with
 |(.rt x,_)=>some (x,T)
 |(.nx,_)=>some (.none,T)
 |_=>none
def aW(N:Nat)(f:FS):Yh:=fun ws T=>if dJ ws=true then dM (f (ws.map some++OA (N-ws.length) none) T) else none
inductive Ju(K:Frag)(n:Nat)(m:Yh)(vs:List V)(H:Hp)(Q:VK):Prop where
 |mk (O:Addr->Prop) (ts:List Addr) (T:Tp) (ws:List W) (x:NN) (T':Tp) (hc:HC K O ts H T) (r:gr K O ts H vs ws) (hl:ws.length=n) (e:m ws T=some (x,T')) (q:∀v H',XQ ts H H'->HC K O ts H' T'->Rep K O H' v x->Q v H'):Ju K n m vs H Q
def XA(K:Frag)(n:Nat)(m:Yh):Sp:=fun vs H Q _=>Ju K n m vs H Q
theorem pE{K:Frag}{O:Addr->Prop}{ts:List Addr}{H:Hp}:∀{vs:List V}{ws:List W}{i:Nat}{w:W},gr K O ts H vs ws->ws[i]? = some w->∃v,vs[i]? = some v/\ZK K O ts H v w
 |_,_,_,_,.nil,e=>by simp at e
 |_,_,0,_,.cons r _,e=>by simp at e;subst e;exact⟨_,rfl,r⟩
 |_,_,i+1,w,.cons _ t,e=>by
  obtain⟨d,h1,h2⟩:=pE   t (by simpa using e);exact⟨d,by simpa using h1,h2⟩
theorem md:∀{ws:List W}{xs:NN},dJ ws=true->W.loc xs∉ws
 |[],_,_,h=>by cases h
 |.loc _::_,_,e,_=>by cases e
 |.d _::r,_,e,h=>by
  rcases N4.mp h with z|z
  .cases z
  .exact md (ws:=r) e z
 |.tp _::r,_,e,h=>by
  rcases N4.mp h with z|z
  .cases z
  .exact md (ws:=r) e z
theorem l9{ws:List W}{n i:Nat}{w:W}(e:(ws.map some++OA n none)[i]? = some (some w)):ws[i]? = some w:=by
 by_cases h:i<ws.length
 .rw[N7 (by simp_all),Pt] at e<;>grind
 .rw[Po (by simp_all)] at e
  have:=OC e<;>simp_all
theorem YE{P:NU}{w:N8}{K:Frag}{mg:Str->Option NO}{base:Heap}{x qual:Str}{st:Stmt}{f:Addr}{fd:Oe}{N ps:List Str}{k:Nat}{m:FS}(F:Yd K x qual st f fd)(S:Xw N ps (aI st))
  (Bk:∀(XF:NO) (A:OF) (outer:List Env) (s:NP) (H:Hp) (E:XK),X0 k (A.deeper (Pz qual (aI st) s.heap.objs.size f XF))->C9 (bg Yi P w K mg base N qual (aI st) f XF A outer s H E).nox (cX st) m) :
  Xz P w K mg base Yi (k+1) f fd ps (XA K ps.length (aW N.length m)):=by
 refine F.ok S (fun vs H Q E h=>?_) (fun XF A outer s H vs Q E hr h=>⟨_,(Bk XF A _ s H E hr).pe,?_⟩)
 .obtain⟨O,ts,T,ws,x,T',hc,Za,hl,_⟩:=h
  rw[←hl];exact QB Za
 obtain⟨O,ts,T,ws,x,T',hc,Za,hl,e,q⟩:=h;unfold aW at e;split at e
 .rename_i hn
  obtain⟨⟨fl,ρ'⟩,T1,e1,e⟩:=aF e;have X4:=QB Za;have Ec:∀{i:Nat}{xs:NN},(ws.map some++OA (N.length-ws.length) none)[i]? = some (some (W.loc xs))->False:=fun {i xs} e=>md hn (OC (l9 e));refine⟨O,H,[],ts,O,_,T,fl,ρ',T1,⟨hc,fun i u e=>?_,fun _ h=>h,hc.own,.refl _ _,fun i xs a e1 _=>(Ec e1).elim,fun i j xs ys v e1 _ _ _=>(Ec e1).elim,fun f hf=>absurd hf (by simp),by simp[L2.start,X4]⟩,e1,?_⟩
  .obtain⟨v,h1,h2⟩:=pE Za (l9 e)
   refine⟨v,?_,h2⟩;unfold L2.start;have hi:=(NS.mp h1).1;rw[N7 (by simpa using hi),Pt,h1];rfl
  .cases fl with
   |rt y=>cases e;exact fun v H' s1 c1 r1=>q v H' s1 c1 r1
   |nx=>
    cases e;exact fun O' σ' H' rs=>q _ _ rs.same rs.frzH .non
   |bk=>cases e
   |ct=>cases e
   |ro y=>cases e
 .cases e
def av(m:Yh)(g:FA):FE:=fun ρ T=>XI (g ρ T) fun ws T1=>XI (m ws T1) fun x T2=>some (.d x,T2)
def eQ(g:FA)(n:Nat):Prop:=∀ρ T ws T',g ρ T=some (ws,T')->ws.length=n
theorem au:eQ ai 0:=fun ρ T ws T' e=>by cases e;rfl
theorem aj(h:eQ g n):eQ (af f g) (n+1):=fun ρ T ws T' e=>by
 obtain⟨w1,T1,e1,e⟩:=aF e;obtain⟨ws,T2,e2,e⟩:=aF e;cases e;rw[Oo,h _ _ _ _ e2]
theorem aA(F:Fn X.prog X.w X.K X.mg X.base name ps k (XA X.K ps.length m))(hr:X0 k X.A)(hg:Gl X name)(ha:DA X (e::es) g)(hl:eQ g ps.length)(YN:(name == ("__debug__" : Str))=false:=by decide)
  (he:NR (e::es) X.env=(false,eval e X.env)::NR es X.env:=by exact bo rfl) (Yo:(OO pos (NR es X.env)).any (·.1)=false:=by exact bN rfl):DE X (.Call (.Name name p) (e::es) [] pos) (av m g):=by
 refine⟨?_⟩;refine pe_imp (rL F hr hg ha.pe YN he Yo) fun σ H Q=>?_;rintro⟨O,ts,ρ,T,w,T',hc,re,e,q⟩;obtain⟨ws,T1,e1,e⟩:=aF e;obtain⟨x,T2,e2,e⟩:=aF e;cases e;refine⟨O,ts,ρ,T,ws,T1,hc,re,e1,fun vs H1 s1 Xy r1=>?_⟩;refine⟨O,ts,T1,ws,x,_,Xy,by simp_all,hl _ _ _ _ e1,e2,fun v H2 s2 XW r2=>q v H2 (s1.trans s2) XW r2⟩
noncomputable def EM(g:Int->Int->Option NN):NN->NN->Option NN
 |.int i,.int j=>g i j
 |_,_=>none
def d6:NN->NN->Option PyData:=EM fun i j=>some (.int (i-j))
def cU:NN->NN->Option PyData:=EM fun i j=>if 0<j then some (.int (i % j)) else none
def IY:NN->NN->Option PyData:=EM fun i j=>if 0<j/\j<1073741824 then some (.int (i / j)) else none
def ji:NN->NN->Option PyData:=EM fun i j=>if 0<=j/\j<=1000000/\i.natAbs<2^64 then some (.int (i^j.toNat)) else none
def BB:NN->NN->Option PyData:=EM fun i j=>some (.bool (decide (i<j)))
def D5:NN->NN->Option PyData:=EM fun i j=>some (.bool (decide (i<=j)))
def CB:NN->NN->Option PyData:=EM fun i j=>some (.bool (decide (j<i)))
def Hk:NN->NN->Option PyData:=EM fun i j=>some (.bool (decide (j<=i)))
theorem xJ(e:EM g x y=some d):∃i j,x=.int i/\y=.int j/\g i j=some d:=by
 unfold EM at e
 split at e<;>simp_all
theorem qS{K:Frag}{C:Int->Int->Prop}{g:Int->Int->V}{gd:Int->Int->Option NN}(h:∀i j d,gd i j=some d->C i j/\∀O H,Rep K O H (g i j) d):iG K (rI C g) (EM gd):=fun O ts H T v1 v2 x y d Q hc h1 h2 e q=>by
 obtain⟨i,j,rfl,rfl,e⟩:=xJ e;obtain⟨c,r⟩:=h i j d e;exact⟨i,j,h1.int,h2.int,c,q _ H (.refl _ _) hc (r O H)⟩
theorem kN{K:Frag}{g:Int->Int->V}{gd:Int->Int->Option NN}(h:∀i j d,gd i j=some d->∀O H,Rep K O H (g i j) d):iG K (Bs g) (EM gd):=fun O ts H T v1 v2 x y d Q hc h1 h2 e q=>by
 obtain⟨i,j,rfl,rfl,e⟩:=xJ e;exact⟨i,j,h1.int,h2.int,q _ H (.refl _ _) hc (h i j d e O H)⟩
section
variable {X:Cx}
theorem gk:Z9 X (Pw .Sub) d6:=⟨_,zbc,kN fun i j d e O H=>by cases e;exact .int _⟩
theorem fQ:Z9 X (Pw .Mod) cU:=⟨_,zbd,qS fun i j d e=>by
 split at e
 .rename_i h;cases e;exact⟨h,fun _ _=>.int _⟩
 .cases e⟩
theorem ol:Z9 X (Pw .Pow) ji:=⟨_,zbe,qS fun i j d e=>by
 split at e
 .rename_i h;cases e;exact⟨h,fun _ _=>.int _⟩
 .cases e⟩
theorem dA:Z9 X (OL .Lt) BB:=⟨_,zbi,kN fun i j d e O H=>by cases e;exact .bl _⟩
theorem lW:Z9 X (OL .LtE) D5:=⟨_,zbj,kN fun i j d e O H=>by cases e;exact .bl _⟩
theorem hG:Z9 X (OL .Gt) CB:=⟨_,zbk,kN fun i j d e O H=>by cases e;exact .bl _⟩
theorem oS:Z9 X (OL .GtE) Hk:=⟨_,zbl,kN fun i j d e O H=>by cases e;exact .bl _⟩
def az:NN->NN->Option NN
 |.int i,.int j=>some (.int (i+j))
 |.str x,.str y=>if x.length+y.length<=NX then some (.str (x++y)) else none
 |.tuple xs,.tuple ys=>if xs.length+ys.length<=NX then some (.tuple (xs++ys)) else none
 |.list xs,.list ys=>if xs.length+ys.length<=NX then some (.list (xs++ys)) else none
 |_,_=>none
def Io(K:Frag):R2:=fun x y H Q=>∃l b xs zs,x=.ref l/\y=.ref b/\Y8 K H l xs/\Y8 K H b zs/\xs.length+zs.length<=NX/\∀p,H p=none->Q (.ref p) (upd H p (.lst (xs++zs)))
theorem vS:YQ X (Pw .Add) (Io X.K):=by
 intro pins s σ H x y v u Q I rx ry h;obtain⟨l,b,xs,zs,rfl,rfl,hH,hB,hz,q⟩:=h;cases rx;cases ry;obtain⟨Xx,r,p1,_⟩:=I.list hH;obtain⟨JO,r2,p2,_⟩:=I.list hB;have hl:=r.length;have Bv:=r2.length;obtain⟨⟨cls,dd,data,sl⟩,ho,hc,n,hd⟩:=id p1.isList;obtain⟨⟨Fe,Km,data2,JR⟩,Jq,XW,n2,hd2⟩:=id p2.isList;subst hc hd XW hd2
 have ea:Xx.toArray++JO.toArray=(Xx++JO).toArray:=by simp
 refine Te ⟨_,ho,rfl⟩ ⟨_,Jq,rfl⟩ noFill_list_add seq_list_add PySem.F.slot_list_add PySem.F.entry_list_add (PySem.F.args_list_add_2 _ _) (list_addW l b _ _ n n2 dd Km sl JR (by grind)) ⟨ho,Jq,?_⟩;rw[ea];exact⟨.ref _,_,I.lnew  (r.append r2) (by rw[OS];omega),rfl,q _ I.fresh⟩
theorem aD:Z9 X (Pw .Add) az:=by
 refine⟨_,B7.or (Bn.or (EF.or vS)),fun O ts H T v1 v2 x y d Q hc h1 h2 e q=>?_⟩;unfold az at e;split at e
 .cases e
  exact .inl ⟨_,_,h1.int,h2.int,q _ H (.refl _ _) hc (.int _)⟩
 .split at e
  .rename_i hz
   cases e;exact .inr (.inl ⟨_,_,h1.str,h2.str,hz,q _ H (.refl _ _) hc (.str _)⟩)
  .cases e
 .split at e
  .rename_i xs ys hz
   cases e;obtain⟨a,vs,rfl,t1,r1⟩:=h1.tup;obtain⟨b,us,rfl,t2,r2⟩:=h2.tup;refine .inr (.inr (.inl ⟨a,b,vs,us,rfl,rfl,t1.sq,t2.sq,by rw[r1.length,r2.length];exact hz,fun z=>?_,fun _ z=>?_,fun _ _ p hp=>?_⟩))
   .subst z
    cases r1;exact q _ H (.refl _ _) hc (.tup t2 r2)
   .subst z
    cases r2;rw[Pb] at q;exact q _ H (.refl _ _) hc (.tup t1 r1)
   .exact q _ _ (.new hp _) (hc.new hp _) (hc.newT hp (r1.append r2))
  .cases e
 .split at e
  .rename_i xs ys hz
   cases e;obtain⟨a,vs,rfl,t1,r1⟩:=h1.lst;obtain⟨b,us,rfl,t2,r2⟩:=h2.lst;exact .inr (.inr (.inr ⟨a,b,vs,us,rfl,rfl,t1,t2,by rw[r1.length,r2.length];exact hz,fun p hp=>q _ _ (.new hp _) (hc.new hp _) (hc.newL hp (r1.append r2))⟩))
  .cases e
 .cases e
theorem zes:fillsNumberSlot (.type "tuple") "mul"=pure false:=PySem.fillsNumberSlot_seq   RD.lookup (by decide +kernel) S3.lookup (by decide +kernel)
theorem zet:seqRepeat? (.type "tuple")=pure (some (.builtin "tuple.__mul__")):=by
 unfold seqRepeat?;rw[Vz  (name:="__mul__")  RD.lookup (by decide +kernel),Vz  (name:="__rmul__")  S3.lookup (by decide +kernel)];rfl
theorem zeu(a:Int)(t:Tok)(l:Addr)(items:Array NO)(n:Nat)(dd:Option Addr)(sl:Array (Option NO)) :
  Meets (Ut.«int.__rmul__» ⟨[.int a t,.ref l],[]⟩) (fun _ R s=>s.heap.get? l=some { cls:=.type "tuple",dict:=dd,data:=.seq items n,slots:=sl }/\R (.ok (.ret Value.notImplemented)) s):=.of_wp fun prog w A R s h=>by obtain⟨hl,h⟩:=h;wp_walk;exact⟨_,rfl,h⟩
theorem zew(l:Addr)(items:Array NO)(n:Nat)(dd:Option Addr)(sl:Array (Option NO))(k:Int)(t:Tok)(h1:2<=k)(h2:k<=1000)(h3:items.isEmpty=false)(h4:items.size<=1000) :
  Meets (Ut.«tuple.__mul__» ⟨[.ref l,.int k t],[]⟩) (fun _ R s=>s.heap.get? l=some { cls:=.type "tuple",dict:=dd,data:=.seq items n,slots:=sl }/\R (.ok (.ret (Ol s.heap.objs.size))) { s with heap:=s.heap.push { cls:=RK "tuple",data:=Data.seq (Ti (fun x1 x2=>x1++x2) #[] (OA k.toNat items)) },toks:=s.toks }):=
 .of_wp fun prog w A R s h=>by
  obtain⟨hp,g,d,tk,os⟩:=s;obtain⟨hl,h⟩:=h
  have hc0:¬(decide (k < -(2^63))||decide (k>=2^63))=true:=by simp;omega
  have Xy:¬(items.isEmpty||k == 1)=true:=by rw[h3];simp;omega
  have XW:¬(decide (k<=0)||items.isEmpty)=true:=by rw[h3];simp;omega
  have hm:items.size*k.toNat<=1000*1000:=Ug h4 (by omega)
  have Ef:(items.size:Int)*k<=1000000:=by
   have e:((items.size*k.toNat:Nat):Int)=(items.size:Int)*k:=by rw[Int.natCast_mul,Int.toNat_of_nonneg (by omega)]
   omega
  have YK:¬(items.size:Int)*k>(2^63-1) / 8:=by
   have:(1000000:Int)<=(2^63-1) / 8:=by decide
   omega
  have G6:¬Su ((items.size:Int)*k)=true:=by
   unfold Su
   have:NX=16777216:=by decide
   simp;omega
  have ht:V5 hp l items:=⟨_,hl,rfl,n,rfl⟩;wp_walk;rw[if_neg hc0];dsimp only;refine NT (UL ht ?_);rw[if_neg Xy,if_neg XW,if_neg YK,if_neg G6]
  have fit:sizeOk (.seq (Ti (fun x1 x2=>x1++x2) #[] (OA k.toNat items))):=by
   show (Ti (fun x1 x2=>x1++x2) #[] (OA k.toNat items)).size<=NX;have q:=foldl_rep items.toList k.toNat [];rw[VT] at q
   have q':Ti (fun x1 x2=>x1++x2) #[] (OA k.toNat items)=(OA k.toNat items.toList).flatten.toArray:=by simpa using q
   rw[q',O0,len_rep]
   have:NX=16777216:=by decide
   rw[Ra,Nat.mul_comm];omega
  first
  |exact NT (m:=P1 _) (Pu (Ou ⟨_,rfl,h⟩) fit)
  |exact NT (m:=P1 _) (Pu (NT (Ou (Ou ⟨_,rfl,h⟩))) fit)
theorem zex:YQ X (Pw .Mult) (fun x y H Q=>∃a k xs,x=.ref a/\y=.int k/\Zz X.K H a xs/\2<=k/\k<=1000/\xs≠[]/\xs.length<=1000/\∀p,H p=none->Q (.ref p) (upd H p (.tup (OA k.toNat xs).flatten))):=by
 intro pins s σ H x y v u Q I rx ry h;obtain⟨a,k,xs,rfl,rfl,hq,h1,h2,h3,h4,q⟩:=h;cases rx;obtain⟨t,rfl⟩:=ry;obtain⟨Xx,r,p1,_⟩:=I.tuple hq;have hl:=r.length;have hv:=fun z=>h3 (r.nil_iff.mp z);obtain⟨⟨cls,dd,data,sl⟩,ho,hc,n,hd⟩:=id p1;subst hc hd
 have tH:=by
  have q:=foldl_rep Xx k.toNat []<;>omega
 have he:Xx.toArray.isEmpty=false:=by simp_all
 refine wpAny_binaryOp_repeat_ref   (by decide) ⟨_,ho,rfl⟩ (fun s'=>Wb s' k t) zes F.fills_int_mul VU zet F.slot_int_index.lookup
  (QN VU (Wb s k t) F.entry_int_rmul (F.args_int_rmul_2 _ _) (zeu k t a _ n dd sl)
   ⟨ho,rfl,⟨_,ho,rfl⟩,QN RD ⟨_,ho,rfl⟩ PySem.F.entry_tuple_mul (PySem.F.args_tuple_mul_2 _ _) (zew a _ n dd sl k t h1 h2 he (by grind)) ⟨ho,?_⟩⟩)
 rw[tH];refine⟨.ref _,_,I.laid   (fun b ob q=>NQ _ q) (Of _) ?_,rfl,q _ (I.hok.fresh (Of _))⟩;refine⟨?_,_,r.rep _,Us _ _⟩;rw[len_rep];have:k.toNat*xs.length<=1000*1000:=Ug (by omega) h4
 have:NX=16777216:=by decide
 omega
def bW:NN->NN->Option NN
 |.int i,.int j=>if (-(2^64)<i/\i<2^64)\/(-(2^64)<j/\j<2^64) then some (.int (i*j)) else none
 |.str z,.int k=>if 0<=k/\k<=2000/\z.length<=1000 then some (.str (QF z k)) else none
 |.tuple xs,.int k=>if 2<=k/\k<=1000/\xs.isEmpty=false/\xs.length<=1000 then some (.tuple (OA k.toNat xs).flatten) else none
 |_,_=>none
theorem d3:Z9 X (Pw .Mult) bW:=by
 refine⟨_,IT.or (Hf.or zex),fun O ts H T v1 v2 x y d Q hc h1 h2 e q=>?_⟩;unfold bW at e;split at e
 .split at e
  .rename_i hz
   cases e;exact .inl ⟨_,_,h1.int,h2.int,hz,q _ H (.refl _ _) hc (.int _)⟩
  .cases e
 .split at e
  .rename_i hz
   cases e;exact .inr (.inl ⟨_,_,h1.str,h2.int,hz.1,hz.2.1,hz.2.2,q _ H (.refl _ _) hc (.str _)⟩)
  .cases e
 .split at e
  .rename_i xs k hz
   cases e;obtain⟨a,vs,rfl,t1,r1⟩:=h1.tup;exact .inr (.inr ⟨a,_,vs,rfl,h2.int,t1.sq,hz.1,hz.2.1,fun z=>by subst z;cases r1<;>simp_all,by rw[r1.length];exact hz.2.2.2,fun p hp=>q _ _ (.new hp _) (hc.new hp _) (hc.newT hp (r1.rep _))⟩)
  .cases e
 .cases e
def Be:NN->NN->Option Bool
 |.int i,.int j=>some (decide (i=j))
 |.str x,.str y=>some (decide (x=y))
 |.bool a,.bool b=>some (decide (a=b))
 |.none,.none=>some true
 |.none,.int _=>some false | .int _,.none=>some false | .none,.bool _=>some false | .bool _,.none=>some false | .none,.str _=>some false | .str _,.none=>some false
 |.int _,.str _=>some false | .str _,.int _=>some false | .bool _,.str _=>some false | .str _,.bool _=>some false
 |_,_=>none
theorem xY{K:Frag}{O:Addr->Prop}{H:Hp}{v1 v2:V}{x y:NN}{b:Bool}(h1:Vw K O H v1 x)(h2:Vw K O H v2 y)(e:Be x y=some b):se v1 v2=true/\decide (v1=v2)=b:=by
 unfold Be at e;split at e
 all_goals first|(cases e;done)|skip
 .cases h1.int;cases h2.int;cases e;exact⟨rfl,by simp⟩
 .cases h1.str;cases h2.str;cases e;exact⟨rfl,by simp⟩
 .cases h1.bl;cases h2.bl;cases e;exact⟨rfl,by simp⟩
 .cases h1.non;cases h2.non;cases e;exact⟨rfl,by simp⟩
 .cases h1.non;cases h2.int;cases e;exact⟨rfl,by simp⟩
 .cases h1.int;cases h2.non;cases e;exact⟨rfl,by simp⟩
 .cases h1.non;cases h2.bl;cases e;exact⟨rfl,by simp⟩
 .cases h1.bl;cases h2.non;cases e;exact⟨rfl,by simp⟩
 .cases h1.non;cases h2.str;cases e;exact⟨rfl,by simp⟩
 .cases h1.str;cases h2.non;cases e;exact⟨rfl,by simp⟩
 .cases h1.int;cases h2.str;cases e;exact⟨rfl,by simp⟩
 .cases h1.str;cases h2.int;cases e;exact⟨rfl,by simp⟩
 .cases h1.bl;cases h2.str;cases e;exact⟨rfl,by simp⟩
 .cases h1.str;cases h2.bl;cases e;exact⟨rfl,by simp⟩
def D6(x y:NN):Option PyData:=(Be x y).map .bool
def Bt(x y:NN):Option PyData:=(Be x y).map fun b=>.bool (!b)
theorem aZ:Z9 X (OL .Eq) D6:=⟨_,zbg,fun O ts H T v1 v2 x y d Q hc h1 h2 e q=>by
 obtain⟨b,e1,rfl⟩:=OD.mp e;obtain⟨k1,k2⟩:=xY h1 h2 e1
 exact⟨k1,by rw[k2];exact q _ H (.refl _ _) hc (.bl _)⟩⟩
theorem jk:Z9 X (OL .NotEq) Bt:=⟨_,zbh,fun O ts H T v1 v2 x y d Q hc h1 h2 e q=>by
 obtain⟨b,e1,rfl⟩:=OD.mp e;obtain⟨k1,k2⟩:=xY h1 h2 e1
 exact⟨k1,by rw[k2];exact q _ H (.refl _ _) hc (.bl _)⟩⟩
def isNone:NN->Bool
 |.none=>true
 |_=>false
theorem ud{K:Frag}{O:Addr->Prop}{H:Hp}{v:V}{x:NN}(h:Vw K O H v x):decide (v=.non)=isNone x:=by
 cases h with
 |rep h=>cases h <;> rfl
 |raw _ _=>rfl
 |rawD _ _=>rfl
def CG:NN->NN->Option NN
 |x,.none=>some (.bool (isNone x))
 |_,_=>none
theorem iD:Z9 X (OL .Is) CG:=⟨_,zbm,fun O ts H T v1 v2 x y d Q hc h1 h2 e q=>by
 unfold CG at e;split at e
 .cases e
  exact⟨h2.non,by rw[ud h1];exact q _ H (.refl _ _) hc (.bl _)⟩
 .cases e⟩
def iq:NN->NN->Option NN
 |x,.none=>some (.bool (!isNone x))
 |.bool a,.bool b=>some (.bool (a != b))
 |_,_=>none
theorem vU:Z9 X (OL .IsNot) iq:=⟨_,DN.or zdw,fun O ts H T v1 v2 x y d Q hc h1 h2 e q=>by
 unfold iq at e;split at e
 .cases e
  exact .inl ⟨h2.non,by rw[ud h1];exact q _ H (.refl _ _) hc (.bl _)⟩
 .cases e
  exact .inr ⟨_,_,h1.bl,h2.bl,q _ H (.refl _ _) hc (.bl _)⟩
 .cases e⟩
def eN:NN->Bool
 |.none=>true | .bool _=>true | .int _=>true | .str _=>true
 |_=>false
def ID:NN->NN->Bool
 |.none,.none=>true
 |.bool a,.bool b=>a == b
 |.bool a,.int b=>(if a then 1 else 0) == b
 |.int a,.bool b=>a == (if b then 1 else 0)
 |.int a,.int b=>a == b
 |.str a,.str b=>a == b
 |_,_=>false
def jo(y x:Str):Bool:=!(OM y x 0 y.length 1).isEmpty
def HR:NN->NN->Option Bool
 |.str x,.str y=>some (jo y x)
 |x,.list ys=>if eN x&&ys.all eN then some (ys.any fun y=>ID y x) else none
 |x,.tuple ys=>if eN x&&ys.all eN then some (ys.any fun y=>ID y x) else none
 |_,_=>none
theorem qH{K:Frag}{O:Addr->Prop}{H:Hp}{v:V}{x:NN}(h:Rep K O H v x)(e:eN x=true):gn v=true:=by cases h <;> first|rfl|cases e
theorem zey{K:Frag}{O:Addr->Prop}{H:Hp}{v u:V}{x y:NN}(h:Rep K O H v x)(g:Rep K O H u y)(ex:eN x=true)(ey:eN y=true):EK v u=ID x y:=by cases h <;> cases g <;> first|rfl|cases ex|cases ey
theorem qi{K:Frag}{O:Addr->Prop}{H:Hp}:∀{vs:List V}{xs:List NN},XH K O H vs xs->xs.all eN=true->vs.all gn=true
 |_,_,.nil,_=>rfl
 |_,_,.cons r t,e=>by
  rw[Rc,NY] at e;rw[Rc,qH r e.1,qi t e.2];rfl
theorem qN{K:Frag}{O:Addr->Prop}{H:Hp}{v:V}{x:NN}(h:Rep K O H v x)(ex:eN x=true):∀{vs:List V}{xs:List NN},XH K O H vs xs->xs.all eN=true->(vs.any fun y=>EK y v)=xs.any fun y=>ID y x
 |_,_,.nil,_=>rfl
 |_,_,.cons r t,e=>by
  rw[Rc,NY] at e;rw[RR,RR,zey r h e.1 ex,qN h ex t e.2]
theorem Vw.flat{K:Frag}{O:Addr->Prop}{H:Hp}{v:V}{x:NN}(h:Vw K O H v x)(e:eN x=true):Rep K O H v x:=by
 cases h with
 |rep h=>exact h
 |raw _ _=>cases e
 |rawD _ _=>cases e
def inD(x y:NN):Option PyData:=(HR x y).map .bool
def nH(x y:NN):Option PyData:=(HR x y).map fun b=>.bool (!b)
theorem qT{K:Frag}(neg:Bool):iG K (fun x y H Q=>(∃i j,x=.str i/\y=.str j/\Q (.bl (if neg then !(jo j i) else jo j i)) H)\/An K neg x y H Q) (fun x y=>(HR x y).map fun b=>.bool (if neg then !b else b)):=fun O ts H T v1 v2 x y d Q hc h1 h2 e q=>by
 obtain⟨b,e1,rfl⟩:=OD.mp e;unfold HR at e1;split at e1
 .cases e1
  exact .inl ⟨_,_,h1.str,h2.str,q _ H (.refl _ _) hc (.bl _)⟩
 .split at e1
  .rename_i hf
   cases e1;rw[NY] at hf;obtain⟨a,vs,rfl,t,r⟩:=h2.lst;have r1:=h1.flat hf.1;refine .inr ⟨a,vs,rfl,.inl t,qH r1 hf.1,qi r hf.2,?_⟩;have z:A8 v1 vs=_:=qN r1 hf.1 r hf.2;rw[z];exact q _ H (.refl _ _) hc (.bl _)
  .cases e1
 .split at e1
  .rename_i hf
   cases e1;rw[NY] at hf;obtain⟨a,vs,rfl,t,r⟩:=h2.tup;have r1:=h1.flat hf.1;refine .inr ⟨a,vs,rfl,.inr t.sq,qH r1 hf.1,qi r hf.2,?_⟩;have z:A8 v1 vs=_:=qN r1 hf.1 r hf.2;rw[z];exact q _ H (.refl _ _) hc (.bl _)
  .cases e1
 .cases e1
theorem fW:Z9 X (OL .In) inD:=⟨_,B6.or zty,qT false⟩
theorem zez:Z9 X (OL .NotIn) nH:=⟨_,Dx.or zcv,qT true⟩
def lY:NN->Option NN
 |.int i=>some (.int (-i))
 |_=>none
theorem yb(ha:DE X a fa):DE X (.UnaryOp .USub a pos) (YO lY fa):=zem zbf (fun O ts H T v x d Q hc h e q=>by
 unfold lY at e;split at e
 .cases e
  exact⟨_,h.int,q _ H (.refl _ _) hc (.int _)⟩
 .cases e) ha
def Zx:NN->NN->Option NN
 |.list xs,.int i=>Yr xs i
 |.tuple xs,.int i=>Yr xs i
 |.str z,.int i=>if z.length<=NX then (Yr z.cps.toList i).map fun c=>.str ⟨#[c]⟩ else none
 |_,_=>none
theorem vF{K:Frag}{O:Addr->Prop}{H:Hp}{vs:List V}{xs:List NN}{i:Int}{d:NN}(r:XH K O H vs xs)(e:Yr xs i=some d):∃v,Yr vs i=some v/\Rep K O H v d:=by
 unfold Yr at e ⊢;rw[r.length]
 cases h:Jf _ i with
 |none=>simp_all
 |some j=>
  rw[h] at e;exact r.getD e
theorem aM:uv X Zx:=⟨_,zcq,fun O ts H T v1 v2 x y d Q hc h1 h2 e q=>by
 unfold Zx at e;split at e
 .obtain⟨a,vs,rfl,t,r⟩:=h1.lst
  obtain⟨v,k1,k2⟩:=vF r e;exact .inl ⟨a,vs,_,v,rfl,h2.int,t,k1,q _ H (.refl _ _) hc k2⟩
 .obtain⟨a,vs,rfl,t,r⟩:=h1.tup
  obtain⟨v,k1,k2⟩:=vF r e;exact .inr (.inl ⟨a,vs,_,v,rfl,h2.int,t.sq,k1,q _ H (.refl _ _) hc k2⟩)
 .split at e
  .rename_i hz
   obtain⟨c,k1,rfl⟩:=OD.mp e;exact .inr (.inr ⟨_,_,c,h1.str,h2.int,hz,k1,q _ H (.refl _ _) hc (.str _)⟩)
  .cases e
 .cases e⟩
end
theorem zfa{prog:NU}{w:N8}{A:OF}{E:NO->NP->Prop}{s:NP}{t sl:Addr}{items:Array NO}{vl vu:NO}{lo hi:Option Int}{Q:NO->NP->Prop}(ht:V5 s.heap t items)(hs:s.heap.IsSliceOf sl vl vu .none)(pl:Tf vl lo)(pu:Tf vu hi)
  (hw:HT.Yq items.size 0 lo=0/\HT.Yq items.size items.size hi=items.size) (h:Q (.ref t) s):Oy (Os prog w) A (SG (.ref t) (.ref sl)) Q E s:=by
 obtain⟨os,Ex,Jy,CL⟩:=id hs;have Bo:s.TypeIs (.ref sl) "slice":=⟨os,Ex,Jy⟩;unfold SG
 try with_reducible refine QC ?_
 refine NT (U7 ht.typeIs (by decide) ?_)
 refine NT (SX  ht.typeIs O6
  (Vy O6 ht.typeIs Ux ?_ (UR _ _)))
 show Oy _ _ (Sr (.ref t) >>= _) _ _ s;refine NT (UL ht ?_);refine NT (U8 Bo ?_);rw[if_pos (by decide)];refine NT (HT.ztt hs pl pu ?_)
 have tM:((((HT.Yq items.size 0 lo:Nat):Int) == 0&&(1:Int) == 1&&(HT.Yq items.size items.size hi-HT.Yq items.size 0 lo) == items.size)=true):=by
  rw[hw.1,hw.2];simp
 show Oy _ _ (if _=true then _ else _) _ _ s;rw[if_pos tM];refine NT  (NT (U8 ht.typeIs (Ou ?_)))
 first
 |omega
 |(exact NT (wpAny_rule (Ou ⟨_,rfl,Ou h⟩)))
def cu{α:Type}(xs:List α)(lo hi:Option Int):List α:=(xs.drop (HT.Yq xs.length 0 lo)).take (HT.Yq xs.length xs.length hi-HT.Yq xs.length 0 lo)
theorem XH.cut{K:Frag}{O:Addr->Prop}{H:Hp}{vs:List V}{ds:List NN}(r:XH K O H vs ds)(lo hi:Option Int):XH K O H (jr vs lo hi) (cu ds lo hi):=by
 unfold jr cu;rw[r.length];exact(r.drop _).take _
theorem zfb{α:Type}{xs:List α}{lo hi:Option Int}(h:HT.Yq xs.length 0 lo=0/\HT.Yq xs.length xs.length hi=xs.length):cu xs lo hi=xs:=by unfold cu<;>simp_all
section
variable {X:Cx}
theorem JW:IX X (fun x lo hi H Q=>∃a xs,x=.ref a/\Zz X.K H a xs/\((HT.Yq xs.length 0 lo=0/\HT.Yq xs.length xs.length hi=xs.length)->Q (.ref a) H) /\
  (¬(HT.Yq xs.length 0 lo=0/\HT.Yq xs.length xs.length hi=xs.length)->∀p,H p=none->Q (.ref p) (upd H p (.tup (jr xs lo hi))))):=by
 intro pins s σ H x v vl vu lo hi sl Q I rx hs pl pu h;obtain⟨a,xs,rfl,hx,q1,q2⟩:=h
 by_cases hw:HT.Yq xs.length 0 lo=0/\HT.Yq xs.length xs.length hi=xs.length
 .cases rx
  obtain⟨Xx,r,ht,hz⟩:=I.tuple hx
  have X4:Xx.toArray.size=xs.length:=by exact r.length.symm
  refine⟨"tuple",_,O6.lookup,ht.typeIs,?_⟩;exact zfa ht hs pl pu (by rw[X4];exact hw) ⟨.ref a,H,I,rfl,q1 hw⟩
 .exact zcn pins s σ H _ v vl vu lo hi sl Q I rx hs pl pu ⟨a,xs,rfl,hx,hw,q2 hw⟩
def k7(x:NN)(lo hi:Option Int):Option PyData:=match x with
 |.list xs=>some (.list (cu xs lo hi))
 |.tuple xs=>some (.tuple (cu xs lo hi))
 |.str z=>if z.length<=NX then some (.str (P9 z lo hi)) else none
 |_=>none
abbrev FO:=XD->Tp->Option (Option Int×Tp)
def bP:FO:=fun _ T=>some (none,T)
def fP(f:FE):FO:=fun ρ T=>XI (f ρ T) fun w T1=>match w with
 |.d (.int i)=>some (some i,T1)
 |_=>none
inductive BK(K:Frag)(f:FO)(σ:L2.St)(H:Hp)(Q:Option Int->Hp->Prop):Prop where
 |mk (O:Addr->Prop) (ts:List Addr) (ρ:XD) (T:Tp) (o:Option Int) (T':Tp) (hc:HC K O ts H T) (re:Zd K O ts H σ ρ) (e:f ρ T=some (o,T')) (q:∀H',XQ ts H H'->HC K O ts H' T'->Q o H'):BK K f σ H Q
def IR(K:Frag)(f:FO):TO:=fun σ H Q=>BK K f σ H Q
structure DO(X:Cx)(e:Option Expr)(f:FO):Prop where
 pe:PO X e (IR X.K f)
theorem xj(h:PO X e t)(i:∀σ H Q,t' σ H Q->t σ H Q):PO X e t':=fun pins s σ H Q I q=>h pins s σ H Q I (i σ H Q q)
theorem cL:DO X none bP:=by
 refine⟨?_⟩;refine xj zck fun σ H Q=>?_;rintro⟨O,ts,ρ,T,o,T',hc,re,e,q⟩;cases e;exact q H (.refl _ _) hc
theorem bG(h:DE X e f):DO X (some e) (fP f):=by
 refine⟨?_⟩;refine xj (zcl h.pe) fun σ H Q=>?_;rintro⟨O,ts,ρ,T,o,T',hc,re,e,q⟩;obtain⟨w1,T1,e1,e⟩:=aF e;refine⟨O,ts,ρ,T,w1,T1,hc,re,e1,fun v1 H1 s1 Xy r1=>?_⟩;split at e
 .cases e
  cases (r1);exact⟨_,rfl,q H1 s1 Xy⟩
 .cases e
def Zq(f:FE)(l u:FO):FE:=fun ρ T=>XI (f ρ T) fun w T1=>XI (l ρ T1) fun lo T2=>XI (u ρ T2) fun hi T3=>Cy (fun x=>k7 x lo hi) T3 w
theorem bU{e:Expr}{lo hi:Option Expr}{f:FE}{l u:FO}{pos p2:Pos}(he:DE X e f)(hl:DO X lo l)(hu:DO X hi u):DE X (.Subscript e (.Slice lo hi none p2) pos) (Zq f l u):=by
 refine⟨?_⟩;refine pe_imp (zcm (JP.or (JW.or zdx)) he.pe hl.pe hu.pe) fun σ H Q=>?_;rintro⟨O,ts,ρ,T,w,T',hc,re,e,q⟩;obtain⟨w1,T1,e1,e⟩:=aF e;obtain⟨o1,T2,e2,e⟩:=aF e;obtain⟨o2,T3,e3,e⟩:=aF e;obtain⟨x,d,h1,h3,rfl,rfl⟩:=jP e;refine⟨O,ts,ρ,T,w1,T1,hc,re,e1,fun v1 H1 s1 Xy r1=>?_⟩;refine⟨O,ts,ρ,T1,o1,T2,Xy,re.mono hc s1,e2,fun H2 s2 XW=>?_⟩;refine⟨O,ts,ρ,T2,o2,T',XW,re.mono hc (s1.trans s2),e3,fun H3 s3 YK=>?_⟩;have vw:=YK.view (r1.mono Xy (s2.trans s3)) h1;have q':=fun v H' s c r=>q v H' (s1.trans (s2.trans (s3.trans s))) c r;clear q
 cases x with
 |list xs=>
  cases h3;obtain⟨a,vs,rfl,t,r⟩:=vw.lst;exact .inl ⟨a,vs,rfl,t,fun p hp=>q' _ _ (.new hp _) (YK.new hp _) (YK.newL hp (r.cut _ _))⟩
 |tuple xs=>
  cases h3;obtain⟨a,vs,rfl,t,r⟩:=vw.tup;refine .inr (.inl ⟨a,vs,rfl,t.sq,fun hw=>?_,fun hw p hp=>?_⟩)
  .rw[r.length] at hw
   rw[zfb hw] at q';exact q' _ H3 (.refl _ _) YK vw.tupR
  .exact q' _ _ (.new hp _) (YK.new hp _) (YK.newT hp (r.cut _ _))
 |str z=>
  have E5:(if z.length<=NX then some _ else none)=some d:=h3;split at E5
  .rename_i hz
   cases E5;exact .inr (.inr ⟨z,vw.str,hz,q' _ H3 (.refl _ _) YK (.str _)⟩)
  .cases E5
 |_=>cases h3
end
inductive Kd where
 |non|bl|int|str|tup|lst|dct
 deriving DecidableEq
def Kd.name:Kd->String
 |.non=>"NoneType" | .bl=>"bool" | .int=>"int" | .str=>"str" | .tup=>"tuple" | .lst=>"list" | .dct=>"dict"
def kd:NN->Kd
 |.none=>.non | .bool _=>.bl | .int _=>.int | .str _=>.str | .list _=>.lst | .tuple _=>.tup | .dict _=>.dct
def cP(a b:Kd):Bool:=decide (a=b)||(decide (a=.bl)&&decide (b=.int))
def JV(t c:String):Option Bool:=if (RK t == RK c)=true then some true else if VW c=true then (fastBuiltinMro t).map (·.contains (.type c)) else none
theorem gN(a b:Kd):b≠.non->JV a.name b.name=some (cP a b):=by cases a <;> cases b <;> first|(intro h;exact absurd rfl h)|(intro _;decide +kernel)
section
variable {X:Cx}
theorem zfc:Yk X (.builtin "isinstance") (fun xs H Q=>∃(x:V) (c:Kd) (O:Addr->Prop) (d:NN),xs=[x,.ty c.name]/\Vw X.K O H x d/\c≠.non/\Q (.bl (cP (kd d) c)) H):=by
 intro pins s σ H xs us Q I r h;obtain⟨x,c,O,d,rfl,vw,hc,q⟩:=h;obtain⟨u,w',rfl,ru,Za⟩:=vals2 r;cases (Za);have fin:∀tk,EP X pins σ Q _ { s with toks:=tk }:=fun tk=>⟨.bl _,H,I.tok _,rfl,q⟩
 cases d with
 |none=>cases vw.non;exact me I ru .non (gN .non c hc) fin
 |bool b=>cases vw.bl;exact me I ru (.bl b) (gN .bl c hc) fin
 |int i=>cases vw.int;exact me I ru (.int i) (gN .int c hc) fin
 |str z=>cases vw.str;exact me I ru (.str z) (gN .str c hc) fin
 |list ds=>
  obtain⟨a,vs,rfl,t,r⟩:=vw.lst;cases (show u=Ol a from ru);obtain⟨Xx,_,pl,_⟩:=I.list t;obtain⟨o,n,e,c1,_⟩:=pl;exact OW Rx I.kIn ⟨o,e,c1⟩ (gN .lst c hc) (fun z=>nomatch z) fin
 |tuple ds=>
  obtain⟨a,vs,rfl,t,r⟩:=vw.tup;cases (show u=Ol a from ru);obtain⟨Xx,_,pl,_⟩:=I.tuple t.sq;obtain⟨o,e,c1,_⟩:=pl;exact OW So I.kIn ⟨o,e,c1⟩ (gN .tup c hc) (fun z=>nomatch z) fin
 |dict ds=>
  obtain⟨a,vs,rfl,t,r⟩:=vw.dct;cases (show u=Ol a from ru);obtain⟨_,_,_,_,o,_,_,e,c1,_⟩:=g6 I.hok t;exact OW Ry I.kIn ⟨o,e,c1.1⟩ (gN .dct c hc) (fun z=>nomatch z) fin
def ck(c:Kd)(x:NN):Option PyData:=some (.bool (cP (kd x) c))
theorem cG(c:Kd)(hi:X.mg "isinstance"=none)(he:DE X e f)(hm:X.mg T=none)(hb:P0 T=some (.type c.name))(hcn:c≠.non:=by decide)(hg:Gl X "isinstance":=by rfl)(hT:Gl X T:=by rfl)(hn:T≠"__name__":=by decide)(YN:(T == ("__debug__" : Str))=false:=by decide)
  (hs:NR [e,.Name T p] X.env=(false,eval e X.env)::NR [.Name T p] X.env:=by exact bo rfl) (Zy:NR [.Name T p] X.env=(false,eval (.Name T p) X.env)::NR [] X.env:=by exact bo rfl)
  (Yo:(OO pos (NR [.Name T p] X.env)).any (·.1)=false:=by exact bN rfl):DE X (.Call (.Name "isinstance" p') [e,.Name T p] [] pos) (YO (ck c) f):=by
 refine⟨?_⟩;refine pe_imp (jF zfc hg hi Px (bf he.pe (bf (mP (v:=.ty _) hT hm hb rfl hn YN) bR Zy) hs) (by decide) (by decide) hs Yo) fun σ H Q=>?_;rintro⟨O,ts,ρ,T,w,T',hc,re,e,q⟩;obtain⟨w1,T1,e1,e⟩:=aF e;obtain⟨x,d,h1,h3,rfl,rfl⟩:=jP e;cases h3;refine⟨O,ts,ρ,T,w1,T',hc,re,e1,fun v1 H1 s1 Xy r1=>?_⟩;exact⟨v1,c,O,x,rfl,Xy.view r1 h1,hcn,q _ H1 s1 Xy (.bl _)⟩
def bi:List NN->Option NN
 |[.list xs]=>some (.int xs.length)
 |[.tuple xs]=>some (.int xs.length)
 |[.str z]=>if z.length<=NX then some (.int z.length) else none
 |[.dict kvs]=>some (.int kvs.length)
 |_=>none
theorem dN{K:Frag}{O:Addr->Prop}{H:Hp}{vs:List V}{x:NN}(h:AD K O H vs [x]):∃v,vs=[v]/\Vw K O H v x:=by cases h with|cons h t=>cases t;exact⟨_,rfl,h⟩
theorem uL{K:Frag}{O:Addr->Prop}{H:Hp}:∀{kvs:List (Key×V)}{ds:List (NN×NN)},Yt K O H kvs ds->kvs.length=ds.length
 |_,_,.nil=>rfl
 |_,_,.cons _ t=>congrArg _ (uL t)
theorem zfd:Yk X (.builtin "len") (fun xs H Q=>∃a kvs,xs=[V.ref a]/\Rd H a (.dK kvs)/\Q (.int kvs.length) H):=by
 intro pins s σ H xs us Q I r h;obtain⟨a,kvs,rfl,ha,q⟩:=h;obtain⟨u,rfl,ru⟩:=vals1 r;cases ru;exact zdf I ha fun t s' I'=>⟨.int _,H,I',⟨t,rfl⟩,q⟩
theorem bF:fU X (.builtin "len") bi:=⟨_,Bu.or (BI.or zfd),fun O ts H T vs xs d Q hc h e q=>by
 unfold bi at e;split at e
 .cases e
  obtain⟨v,rfl,g⟩:=dN h;obtain⟨a,vs,rfl,t,r⟩:=g.lst;exact .inl ⟨a,vs,rfl,.inl t,by rw[r.length];exact q _ H (.refl _ _) hc (.int _)⟩
 .cases e
  obtain⟨v,rfl,g⟩:=dN h;obtain⟨a,vs,rfl,t,r⟩:=g.tup;exact .inl ⟨a,vs,rfl,.inr t.sq,by rw[r.length];exact q _ H (.refl _ _) hc (.int _)⟩
 .split at e
  .rename_i hz
   cases e;obtain⟨v,rfl,g⟩:=dN h;cases g.str;exact .inr (.inl ⟨_,rfl,hz,q _ H (.refl _ _) hc (.int _)⟩)
  .cases e
 .cases e
  obtain⟨v,rfl,g⟩:=dN h;obtain⟨a,kvs,rfl,t,r⟩:=g.dct;exact .inr (.inr ⟨a,kvs,rfl,t,by rw[uL r];exact q _ H (.refl _ _) hc (.int _)⟩)
 .cases e⟩
def oY:List NN->Option NN
 |[.int i]=>some (.int (if i<0 then -i else i))
 |_=>none
theorem zfe:fU X (.builtin "abs") oY:=⟨_,zbs,fun O ts H T vs xs d Q hc h e q=>by
 unfold oY at e;split at e
 .cases e
  obtain⟨v,rfl,g⟩:=dN h;cases g.int;exact⟨_,rfl,q _ H (.refl _ _) hc (.int _)⟩
 .cases e⟩
def IM:List NN->Option NN
 |[.int i,.int j]=>some (.int (if j>i then j else i))
 |_=>none
def IK:List NN->Option NN
 |[.int i,.int j]=>some (.int (if j<i then j else i))
 |_=>none
def jW:List NN->Option (List Bool)
 |[]=>some []
 |.bool b::r=>(jW r).map (b::·)
 |_=>none
def iy:List NN->Option (List Int)
 |[]=>some []
 |.int b::r=>(iy r).map (b::·)
 |_=>none
def dI:List NN->Option (List Str)
 |[]=>some []
 |.str b::r=>(dI r).map (b::·)
 |_=>none
theorem vg{K:Frag}{O:Addr->Prop}{H:Hp}:∀{vs:List V}{xs:List NN}{bs:List Bool},XH K O H vs xs->jW xs=some bs->vs=bs.map V.bl
 |_,_,_,.nil,e=>by cases e;rfl
 |_,x::r,bs,.cons h t,e=>by
  cases x with
  |bool b=>
   obtain⟨cs,e1,rfl⟩:=OD.mp (e);cases h;rw[vg t e1];rfl
  |_=>cases e
theorem uV{K:Frag}{O:Addr->Prop}{H:Hp}:∀{vs:List V}{xs:List NN}{bs:List Int},XH K O H vs xs->iy xs=some bs->vs=bs.map V.int
 |_,_,_,.nil,e=>by cases e;rfl
 |_,x::r,bs,.cons h t,e=>by
  cases x with
  |int b=>
   obtain⟨cs,e1,rfl⟩:=OD.mp (e);cases h;rw[uV t e1];rfl
  |_=>cases e
theorem kM{K:Frag}{O:Addr->Prop}{H:Hp}:∀{vs:List V}{xs:List NN}{bs:List Str},XH K O H vs xs->dI xs=some bs->vs=bs.map V.str
 |_,_,_,.nil,e=>by cases e;rfl
 |_,x::r,bs,.cons h t,e=>by
  cases x with
  |str b=>
   obtain⟨cs,e1,rfl⟩:=OD.mp (e);cases h;rw[kM t e1];rfl
  |_=>cases e
def iF:List NN->Option NN
 |[.list xs]=>(jW xs).map fun bs=>.bool (bs.all id)
 |_=>none
theorem oA(hc:X.calm=true:=by rfl):fU X (.builtin "all") iF:=⟨_,zdt hc,fun O ts H T vs xs d Q hc h e q=>by
 unfold iF at e;split at e
 .obtain⟨bs,e1,rfl⟩:=OD.mp e
  obtain⟨v,rfl,g⟩:=dN h;obtain⟨a,vs,rfl,t,r⟩:=g.lst;rw[vg r e1] at t;exact⟨a,bs,rfl,t,q _ H (.refl _ _) hc (.bl _)⟩
 .cases e⟩
def oK:List NN->Option NN
 |[.list xs]=>(iy xs).map fun bs=>.int bs.sum
 |_=>none
theorem zff(hc:X.calm=true:=by rfl):fU X (.builtin "sum") oK:=⟨_,zdv hc,fun O ts H T vs xs d Q hc h e q=>by
 unfold oK at e;split at e
 .obtain⟨bs,e1,rfl⟩:=OD.mp e
  obtain⟨v,rfl,g⟩:=dN h;obtain⟨a,vs,rfl,t,r⟩:=g.lst;rw[uV r e1] at t;exact⟨a,bs,rfl,t,q _ H (.refl _ _) hc (.int _)⟩
 .cases e⟩
def IL:NN->NN->Option NN
 |.list xs,.int d=>(iy xs).map fun bs=>.int (K1.kg d bs)
 |_,_=>none
def gu:List NN->Option NN
 |[.int i]=>if i.natAbs.log2<1920 then some (.str (toString i)) else none
 |_=>none
theorem rV:fU X (.type "str") gu:=⟨_,ZE,fun O ts H T vs xs d Q hc h e q=>by
 unfold gu at e;split at e
 .split at e
  .rename_i hz
   cases e;obtain⟨v,rfl,g⟩:=dN h;cases g.int;exact⟨_,rfl,hz,q _ H (.refl _ _) hc (.str _)⟩
  .cases e
 .cases e⟩
def gP:List NN->Option NN
 |[.list xs]=>some (.tuple xs)
 |[.tuple xs]=>some (.tuple xs)
 |_=>none
theorem jO:fU X (.type "tuple") gP:=⟨_,zcw,fun O ts H T vs xs d Q hc h e q=>by
 unfold gP at e;split at e
 .cases e
  obtain⟨v,rfl,g⟩:=dN h;obtain⟨a,vs,rfl,t,r⟩:=g.lst;exact⟨a,vs,rfl,.inl ⟨t,fun p hp=>q _ _ (.new hp _) (hc.new hp _) (hc.newT hp r)⟩⟩
 .cases e
  obtain⟨v,rfl,g⟩:=dN h;obtain⟨a,vs,e1,t,r⟩:=g.tup;subst e1;exact⟨a,vs,rfl,.inr ⟨t.sq,q _ H (.refl _ _) hc (.tup t r)⟩⟩
 .cases e⟩
def yA:List NN->Option NN
 |[.list xs]=>some (.list xs)
 |[.tuple xs]=>some (.list xs)
 |_=>none
theorem Aj:Dl X "str.join" (fun x vs H Q=>∃(z:Str) (l:Addr) (ys:List Str),x=.str z/\vs=[.ref l]/\Y8 X.K H l (ys.map V.str)/\(ys.map (·.length)).sum+ys.length*z.length<=16777216/\Q (.str (Ob z ys)) H):=by
 intro pins s σ H x vs v us Q I rx rv h;obtain⟨z,l,ys,rfl,rfl,hq,hz,q⟩:=h;obtain⟨t,rfl⟩:=rx;obtain⟨u,rfl,ru⟩:=vals1 rv;cases ru;obtain⟨Xx,Za,pl,_⟩:=I.list hq;refine join_list  pl.isList (by simpa using sR Za) hz fun t' k=>⟨.str _,H,I.tok _,⟨t',?_⟩,q⟩;show Sg (Ve z ys) t'=_;rw[TM]
def jb:NN->NN->Option NN
 |.str z,.list xs=>match dI xs with
  |some ys=>if (ys.map (·.length)).sum+ys.length*z.length<=16777216 then some (.str (Ob z ys)) else none
  |none=>none
 |_,_=>none
theorem zfg(ho:DE X o fo)(he:DE X e fe)
  (YI:Pj o "join" X.env (eval o X.env)=eval o X.env:=by rfl)
  (Zv:((OO cpos (NR [e] X.env)).all (fun x=>!x.1)&&(PX cpos (O8 [] X.env)).all (fun x=>x.1.isSome)
   && decide (([e]:List Expr).length+([]:List PD).length+(if ([]:List PD).isEmpty then 0 else 1)<30))=true:=by exact kh rfl)
  (YH:(apos.endLine == cpos.line)=true:=by rfl) (Zk:NR [e] X.env=(false,eval e X.env)::NR [] X.env:=by exact bo rfl) (Yn:(OO cpos (NR [] X.env)).any (·.1)=false:=by exact bN rfl) :
  DE X (.Call (.Attribute o "join" apos) [e] [] cpos) (ah jb fo fe):=by
 refine⟨?_⟩;refine pe_imp (i5 Qf TN TQ Aj ho.pe (bf he.pe bR Zk) YI Zv YH Zk Yn) fun σ H Q=>?_;rintro⟨O,ts,ρ,T,w,T',hc,re,e,q⟩;obtain⟨w1,T1,e1,e⟩:=aF e;obtain⟨w2,T2,e2,e⟩:=aF e;obtain⟨x,y,d,h1,h2,h3,rfl,rfl⟩:=ip e;unfold jb at h3;split at h3
 .rename_i z xs
  split at h3
  .rename_i ys hy
   split at h3
   .rename_i hz
    cases h3;refine⟨O,ts,ρ,T,w1,T1,hc,re,e1,fun v1 H1 s1 Xy r1=>?_⟩
    have ev:v1=.str z:=by
     cases w1 with
     |d x=>cases h1;cases (show Rep X.K O H1 v1 _ from r1);rfl
     | tp k=>exact(by
       have C0:(T'[k]?).bind ke=some (OE z):=h1
       cases hk:T'[k]? with
       |none=>rw[hk] at C0;cases C0
       |some xs=>
        rw[hk] at C0;have e2:(if B8 xs=true then none else some (Uh xs))=some (OE z):=C0
        split at e2 <;> cases e2)
     |loc zs=>cases zs <;> cases h1
    subst ev;refine⟨rfl,O,ts,ρ,T1,w2,T',Xy,re.mono hc s1,e2,fun v2 H2 s2 XW r2=>?_⟩;obtain⟨a,vs,rfl,t,r⟩:=(XW.view r2 h2).lst;rw[kM r hy] at t;exact⟨z,a,ys,rfl,rfl,t,hz,q _ H2 (s1.trans s2) XW (.str _)⟩
   .cases h3
  .cases h3
 .cases h3
end
mutual
def rM:NN->Bool
 |.list _=>false
 |.tuple ds=>xt ds
 |.dict kvs=>xu kvs
 |.none | .bool _ | .int _ | .str _=>true
def xt:List NN->Bool
 |[]=>true
 |d::r=>rM d&&xt r
def xu:List (NN×NN)->Bool
 |[]=>true
 |(_,v)::r=>rM v&&xu r
end
def IV(d:NN):Bool:=d.showable&&d.leavesShort 200&&decide (d.depth<=60)&&decide (d.weight<=60000)&&(!d.hasDict||rM d)
section
variable {X:Cx}
def yn(T:Tp)(w:W):Option (W×Tp):=match w with
 |.d x=>if IV x=true then some (.d (.str x.shown),T) else none
 |_=>none
def IZ(f:FE):FE:=fun ρ T=>XI (f ρ T) fun w T1=>yn T1 w
end
structure Df(K:Frag)(name:Str)(st:Stmt):Prop where
 ex:∃(f:Addr) (oc:NO) (od an:Option Addr) (sl:Array (Option NO)) (kV dc pm cd ct:NO),Oi K N9 name=some (some (.ref f)) /\
  K.lookup f=some ⟨oc,od,.func (Pa name name (dG st) (cX st) (aI st) .none kV dc pm an cd ct),sl⟩/\QI K cd name=true/\OT K (.ref f)=true
theorem Jc{K:Frag}{name:Str}{st:Stmt}{f:Addr}{oc:NO}{od an:Option Addr}{sl:Array (Option NO)}{kV dc pm cd ct:NO}(a:Oi K N9 name=some (some (.ref f)))
  (l:K.lookup f=some ⟨oc,od,.func (Pa name name (dG st) (cX st) (aI st) .none kV dc pm an cd ct),sl⟩) (c:QI K cd name=true) (k:OT K (.ref f)=true):Df K name st:=⟨f,oc,od,an,sl,kV,dc,pm,cd,ct,a,l,c,k⟩
theorem Df.fn{P:NU}{w:N8}{K:Frag}{mg:Str->Option NO}{base h:Heap}{name:Str}{st:Stmt}{ps:List Str}{k:Nat}{sp:Sp}(d:Df K name st)(X:K.In h)(G:h.Ns N9 mg)
  (hb:∀(kV doc pm:NO) (an:Option Addr) (XF ct:NO) (us:List NO),us.length=ps.length->Sq (Pa name name (dG st) (cX st) (aI st) .none kV doc pm an XF ct) ⟨us,[]⟩=pure (ps.zip us))
  (ok:∀f fd,Yd K name name st f fd->Xz P w K mg base Yi k f fd ps sp):Fn P w K mg base name ps k sp:=by
 obtain⟨f,oc,od,an,sl,kV,dc,pm,cd,ct,a,l,c,kp⟩:=d.ex;have F:=ir  l c kp;exact⟨f,_,ok f _ F,F.binds hb,kp,Ow X G a⟩
theorem eY{P:NU}{w:N8}{K:Frag}{mg:Str->Option NO}{base:Heap}{k n:Nat}{f:Addr}{fd:Oe}{ps:List Str}:Xz P w K mg base Yi k f fd ps (XA K n fun _ _=>none):=by
 have no:∀vs H Q E,¬XA K n (fun _ _=>none) vs H Q E:=fun vs H Q E h=>by
  obtain⟨O,ts,T,ws,x,T',_,_,_,e,_⟩:=h;cases e
 exact⟨fun vs H Q E h=>absurd h (no vs H Q E),fun A outer s H args us vs Q E _ _ _ _ h=>absurd h (no vs H Q E)⟩
def oh(K:Frag):Sp:=fun vs H Q _=>∃(a:Addr) (ns:List Int),vs=[.ref a]/\Y8 K H a (ns.map V.int)/\ns.length<=63/\∀H',Q (.bl true) H'
def dh(ns:List Int):PyData:=.list (ns.map .int)
theorem tV{K:Frag}{O:Addr->Prop}{H:Hp}:∀ns:List Int,XH K O H (ns.map V.int) (ns.map Qq)
 |[]=>.nil
 |_::r=>.cons (.int _) (tV r)
section
variable {α β:Type}{ρ:XD}{T:Tp}{f g:FE}{c c':FT}{s s':FS}{a:FA}{w w':W}{x y:NN}
@[simp] theorem nS:XI (some (b,T)) k=k b T:=rfl
@[simp] theorem Mr:XI none k=none:=rfl
@[simp] theorem Ms[Decidable p]:XI (if p then u else v) k=if p then XI u k else XI v k:=by split <;> rfl
@[simp] theorem lT:aW N s ws T=if dJ ws=true then dM (s (ws.map some++OA (N-ws.length) none) T) else none:=rfl
@[simp] theorem ml:dJ []=true:=rfl
@[simp] theorem mj:dJ (.d x::r)=dJ r:=rfl
@[simp] theorem Cs:dJ (.tp i::r)=dJ r:=rfl
@[simp] theorem Mm:dM (some ((.rt x,r),T))=some (x,T):=rfl
@[simp] theorem Mn:dM (some ((.nx,r),T))=some (.none,T):=rfl
@[simp] theorem Mo[Decidable p]:dM (if p then u else v)=if p then dM u else dM v:=by split <;> rfl
def kc(s':FS)(p:Fl×XD)(T:Tp):Option ((Fl×XD)×Tp):=match p with
 |(.nx,Yc)=>s' Yc T
 |(fl,Yc)=>some ((fl,Yc),T)
@[simp] theorem nQ:aq s s' ρ T=XI (s ρ T) (kc s'):=rfl
@[simp] theorem wa:kc s' (.nx,Yc) T=s' Yc T:=rfl
@[simp] theorem Lx:kc s' (.rt x,Yc) T=some ((.rt x,Yc),T):=rfl
@[simp] theorem LA:kc s' (.bk,Yc) T=some ((.bk,Yc),T):=rfl
@[simp] theorem Lz:kc s' (.ct,Yc) T=some ((.ct,Yc),T):=rfl
@[simp] theorem LQ:aR ρ T=some ((.nx,ρ),T):=rfl
def ifK(s s':FS)(ρ:XD)(b:Bool)(T1:Tp):Option ((Fl×XD)×Tp):=if b=true then s ρ T1 else s' ρ T1
@[simp] theorem yQ:Ye c s s' ρ T=XI (c ρ T) (ifK s s' ρ):=rfl
@[simp] theorem Ni:ifK s s' ρ b T=if b=true then s ρ T else s' ρ T:=rfl
def zm(ρ:XD):W->Tp->Option ((Fl×XD)×Tp):=fun w T1=>match w with
 |.d x=>some ((.rt x,ρ),T1)
 |_=>none
@[simp] theorem MJ:aB f ρ T=XI (f (bS ρ) T) (zm ρ):=rfl
@[simp] theorem LF:zm ρ (.d x) T=some ((.rt x,ρ),T):=rfl
@[simp] theorem Mj:bS []=[]:=rfl
@[simp] theorem Mg:bS (none::r)=none::bS r:=rfl
@[simp] theorem Mi:bS (some (.d x)::r)=some (.d x)::bS r:=rfl
@[simp] theorem Mf:bS (some (.tp i)::r)=some (.tp i)::bS r:=rfl
@[simp] theorem Mh:bS (some (.loc x)::r)=some (.d x)::bS r:=rfl
def oM(i:Nat)(ρ:XD):W->Tp->Option ((Fl×XD)×Tp):=fun w T1=>match w with
 |.d x=>some ((.nx,ρ.set i (some (.d x))),T1)
 |.tp k=>some ((.nx,ρ.set i (some (.tp k))),T1)
 |.loc _=>none
@[simp] theorem xT:aG i f ρ T=XI (f ρ T) (oM i ρ):=rfl
@[simp] theorem Lw:oM i ρ (.d x) T=some ((.nx,ρ.set i (some (.d x))),T):=rfl
@[simp] theorem Ls:oM i ρ (.tp k) T=some ((.nx,ρ.set i (some (.tp k))),T):=rfl
def yl(i:Nat)(ρ:XD)(T:Tp):Option (List NN)->Option ((Fl×XD)×Tp)
 |some xs=>if xs.length<=1000 then some ((.nx,ρ.set i (some (.loc (.list xs)))),T) else none
 |none=>none
@[simp] theorem Lu:je i a ρ T=XI (a ρ T) fun ws T1=>yl i ρ T1 (eP ws):=rfl
@[simp] theorem KJ:yl i ρ T (some xs)=if xs.length<=1000 then some ((.nx,ρ.set i (some (.loc (.list xs)))),T) else none:=rfl
def zI(i:Nat)(ρ:XD)(x:NN)(T:Tp)(o:Option (Option W)):Option ((Fl×XD)×Tp):=match o with
 |some (some (.loc (.list xs)))=>if xs.length<NX then some ((.nx,ρ.set i (some (.loc (.list (xs++[x]))))),T) else none
 |_=>none
def zH(i:Nat)(ρ:XD):W->Tp->Option ((Fl×XD)×Tp):=fun w T1=>match w with
 | .d x=>(match ρ[i]? with
  |some (some (.loc (.list xs)))=>if xs.length<NX then some ((.nx,ρ.set i (some (.loc (.list (xs++[x]))))),T1) else none
  | _=>none)
 |_=>none
@[simp] theorem Nx:jp i f ρ T=XI (f ρ T) (zH i ρ):=rfl
@[simp] theorem Mt:zH i ρ (.d x) T=zI i ρ x T ρ[i]?:=rfl
@[simp] theorem Mu:zI i ρ x T (some (some (.loc (.list xs))))=if xs.length<NX then some ((.nx,ρ.set i (some (.loc (.list (xs++[x]))))),T) else none:=rfl
@[simp] theorem NB:Zq f l u ρ T=XI (f ρ T) fun w T1=>XI (l ρ T1) fun lo T2=>XI (u ρ T2) fun hi T3=>Cy (fun x=>k7 x lo hi) T3 w:=rfl
@[simp] theorem MR:bP ρ T=some (none,T):=rfl
def pK:W->Tp->Option (Option Int×Tp):=fun w T1=>match w with
 |.d (.int i)=>some (some i,T1)
 |_=>none
@[simp] theorem NL:fP f ρ T=XI (f ρ T) pK:=rfl
@[simp] theorem NC:pK (.d (.int i)) T=some (some i,T):=rfl
@[simp] theorem MH{z:Str}{lo hi:Option Int}:k7 (.str z) lo hi=if z.length<=NX then some (.str (P9 z lo hi)) else none:=rfl
@[simp] theorem MG{xs:List NN}{lo hi:Option Int}:k7 (.tuple xs) lo hi=some (.tuple (cu xs lo hi)):=rfl
@[simp] theorem MI{xs:List NN}{lo hi:Option Int}:k7 (.list xs) lo hi=some (.list (cu xs lo hi)):=rfl
@[simp] theorem Mp:fR f ρ T=XI (f ρ T) fun _ T1=>some ((.nx,ρ),T1):=rfl
@[simp] theorem Ll:aa 0 (some o::r) T=some (o,T):=rfl
@[simp] theorem La:aa (i+1) (o::r) T=aa i r T:=rfl
@[simp] theorem Lk:aa 1 (o::r) T=aa 0 r T :=rfl
@[simp] theorem Lj:aa 2 (o::r) T=aa 1 r T :=rfl
@[simp] theorem Li:aa 3 (o::r) T=aa 2 r T :=rfl
@[simp] theorem Lh:aa 4 (o::r) T=aa 3 r T :=rfl
@[simp] theorem Lg:aa 5 (o::r) T=aa 4 r T :=rfl
@[simp] theorem Lf:aa 6 (o::r) T=aa 5 r T :=rfl
@[simp] theorem Ld:aa 7 (o::r) T=aa 6 r T :=rfl
@[simp] theorem Lc:aa 8 (o::r) T=aa 7 r T :=rfl
@[simp] theorem Lb:aa 9 (o::r) T=aa 8 r T :=rfl
@[simp] theorem zF:fC x ρ T=some (.d x,T):=rfl
@[simp] theorem K9:view T (.d x)=some x:=rfl
@[simp] theorem KG:view T (.tp i)=(T[i]?).bind ke:=rfl
@[simp] theorem LB:ke xs=if B8 xs=true then none else some (.list xs):=rfl
@[simp] theorem K8:B8 (.list xs::r)=false:=rfl
@[simp] theorem KH:view T (.loc (.list xs))=some (.list xs):=rfl
@[simp] theorem DJ:view T (.loc (.dict xs))=some (.dict xs):=rfl
noncomputable def Fc(T:Tp)(o:Option NN):Option (W×Tp):=match o with
 |some d=>some (.d d,T)
 |none=>none
@[simp] theorem MY:Fc T (some x)=some (.d x,T):=rfl
@[simp] theorem LU:Fc T none=none:=rfl
@[simp] theorem LV[Decidable p]:Fc T (if p then u else v)=if p then Fc T u else Fc T v:=by split <;> rfl
def zG(o:NN->NN->Option NN)(g:FE)(ρ:XD)(w1:W)(T1:Tp):Option (W×Tp):=XI (g ρ T1) fun w2 T2=>Cz o T2 w1 w2
@[simp] theorem xV:ah o f g ρ T=XI (f ρ T) (zG o g ρ):=rfl
@[simp] theorem wg:zG o g ρ w T=XI (g ρ T) fun w2 T2=>Cz o T2 w w2:=rfl
@[simp] theorem MP:Cz o T (.d x) (.d y)=Fc T (o x y):=rfl
@[simp] theorem LL:Cz o ((.list zs::xs)::r) (.tp 0) (.d y)=Fc ((.list zs::xs)::r) (o (.list (.list zs::xs)) y):=rfl
@[simp] theorem NA:YO o f ρ T=XI (f ρ T) fun w1 T1=>Cy o T1 w1:=rfl
@[simp] theorem MQ:Cy o T (.d x)=Fc T (o x):=rfl
@[simp] theorem Nw:IS (.d (.bool b))=some b:=rfl
def zb:W->Tp->Option (Bool×Tp):=fun w T1=>match IS w with
 |some b=>some (b,T1)
 |none=>none
@[simp] theorem xS:aH f ρ T=XI (f ρ T) zb:=rfl
@[simp] theorem Lm:zb (.d (.bool b)) T=some (b,T):=rfl
@[simp] theorem MC:bI f ρ T=XI (f ρ T) fun w T1=>oH T1 w:=rfl
def zc(T:Tp)(o:Option Bool):Option (Bool×Tp):=match o with
 |some b=>some (b,T)
 |none=>none
@[simp] theorem Lq:oH T (.d x)=zc T (oG x):=rfl
@[simp] theorem Lo:zc T (some b)=some (b,T):=rfl
@[simp] theorem Lp:oG (.bool b)=some b:=rfl
def yZ(c':FT)(ρ:XD)(b:Bool)(T1:Tp):Option (Bool×Tp):=if b=true then c' ρ T1 else some (false,T1)
@[simp] theorem Mw:gZ c c' ρ T=XI (c ρ T) (yZ c' ρ):=rfl
@[simp] theorem K7:yZ c' ρ b T=if b=true then c' ρ T else some (false,T):=rfl
def zv(c':FT)(ρ:XD)(b:Bool)(T1:Tp):Option (Bool×Tp):=if b=true then some (true,T1) else c' ρ T1
@[simp] theorem MN:cA c c' ρ T=XI (c ρ T) (zv c' ρ):=rfl
@[simp] theorem LI:zv c' ρ b T=if b=true then some (true,T) else c' ρ T:=rfl
@[simp] theorem LO:eO c ρ T=XI (c ρ T) fun b T1=>some (!b,T1):=rfl
@[simp] theorem KI:bx ρ T=some (true,T):=rfl
def zJ(g:FE)(ρ:XD)(w:W)(T:Tp):Option (W×Tp):=match IS w with
 |some b=>if b=true then g ρ T else some (.d (.bool false),T)
 |none=>none
@[simp] theorem Mv:bJ f g ρ T=XI (f ρ T) (zJ g ρ):=rfl
@[simp] theorem Mx:zJ g ρ (.d (.bool b)) T=if b=true then g ρ T else some (.d (.bool false),T):=rfl
def orK(g:FE)(ρ:XD)(w:W)(T:Tp):Option (W×Tp):=match IS w with
 |some b=>if b=true then some (.d (.bool true),T) else g ρ T
 |none=>none
@[simp] theorem ML:ki f g ρ T=XI (f ρ T) (orK g ρ):=rfl
@[simp] theorem MO:orK g ρ (.d (.bool b)) T=if b=true then some (.d (.bool true),T) else g ρ T:=rfl
def zB(w:W)(T:Tp):Option (W×Tp):=match IS w with
 |some b=>some (.d (.bool (!b)),T)
 |none=>none
@[simp] theorem LN:iz f ρ T=XI (f ρ T) zB:=rfl
@[simp] theorem LP:zB (.d (.bool b)) T=some (.d (.bool (!b)),T):=rfl
def zD(f g:FE)(ρ:XD)(b:Bool)(T1:Tp):Option (W×Tp):=if b=true then f ρ T1 else g ρ T1
@[simp] theorem Nk:gz c f g ρ T=XI (c ρ T) (zD f g ρ):=rfl
@[simp] theorem Mc:zD f g ρ b T=if b=true then f ρ T else g ρ T:=rfl
def chK(o':NN->NN->Option NN)(h:FE)(ρ:XD)(w2 w:W)(T:Tp):Option (W×Tp):=match IS w with
 |some b=>if b=true then XI (h ρ T) fun w3 T4=>Cz o' T4 w2 w3 else some (.d (.bool false),T)
 |none=>none
@[simp] theorem K5:nP o o' f g h ρ T=XI (f ρ T) fun w1 T1=>XI (g ρ T1) fun w2 T2=>XI (Cz o T2 w1 w2) (chK o' h ρ w2):=rfl
@[simp] theorem Nu:chK o' h ρ w (.d (.bool b)) T=if b=true then XI (h ρ T) fun w3 T4=>Cz o' T4 w w3 else some (.d (.bool false),T):=rfl
@[simp] theorem xU:ai ρ T=some ([],T):=rfl
def yV(a:FA)(ρ:XD)(w:W)(T1:Tp):Option (List W×Tp):=XI (a ρ T1) fun ws T2=>some (w::ws,T2)
@[simp] theorem wb:af f a ρ T=XI (f ρ T) (yV a ρ):=rfl
@[simp] theorem K4:yV a ρ w T=XI (a ρ T) fun ws T2=>some (w::ws,T2):=rfl
@[simp] theorem Ku:views T []=some []:=rfl
def oz(x:NN)(o:Option (List NN)):Option (List NN):=match o with
 |some xs=>some (x::xs)
 |none=>none
@[simp] theorem K3:oz x (some xs)=some (x::xs):=rfl
@[simp] theorem KF:views T (.d x::r)=oz x (views T r):=rfl
@[simp] theorem Kt:views T (.loc (.list xs)::r)=oz (.list xs) (views T r):=rfl
@[simp] theorem KE:eP []=some []:=rfl
@[simp] theorem K2:eP (.d x::r)=oz x (eP r):=rfl
def sqK(mk:List NN->NN)(T:Tp):Option (List NN)->Option (W×Tp)
 |some xs=>if xs.length<=1000 then some (.d (mk xs),T) else none
 |none=>none
@[simp] theorem Ly:aT mk a ρ T=XI (a ρ T) fun ws T1=>sqK mk T1 (eP ws):=rfl
@[simp] theorem MF:sqK mk T (some xs)=if xs.length<=1000 then some (.d (mk xs),T) else none:=rfl
def cbK(o:List NN->Option NN)(T:Tp)(v:Option (List NN)):Option (W×Tp):=match v with
 | some xs=>(match o xs with
  |some d=>some (.d d,T)
  | none=>none)
 |none=>none
@[simp] theorem NJ:Zu o a ρ T=XI (a ρ T) fun ws T1=>cbK o T1 (views T1 ws):=rfl
@[simp] theorem Nv:cbK o T (some xs)=Fc T (o xs):=rfl
@[simp] theorem wc:av m a ρ T=XI (a ρ T) fun ws T1=>XI (m ws T1) fun x T2=>some (.d x,T2):=rfl
@[simp] theorem Fp:cg it c f ρ T=XI (it ρ T) fun ds T1=>XI (bE c f ρ ds T1) fun ys T2=>some (.d (.list ys),T2):=rfl
def itK(T:Tp)(o:Option (List NN)):Option (List NN×Tp):=match o with
 |some xs=>some (xs,T)
 |none=>none
def itW:W->Tp->Option (List NN×Tp):=fun w T1=>match w with
 | .d x=>(match iV x with
  |some xs=>some (xs,T1)
  | none=>none)
 |_=>none
@[simp] theorem Fm:dj f ρ T=XI (f ρ T) itW:=rfl
@[simp] theorem Nd:itW (.d x) T=itK T (iV x):=rfl
@[simp] theorem Nf:itK T (some xs)=some (xs,T):=rfl
@[simp] theorem KC:iV (.list xs)=some xs:=rfl
@[simp] theorem KD:iV (.dict ds)=some (ds.map (·.1)):=rfl
@[simp] theorem KA:iV (.tuple xs)=some xs:=rfl
@[simp] theorem KB:iV (.str z)=if z.length<=NX then some (signs z) else none:=rfl
def zj:W->Tp->Option (List NN×Tp):=fun w T1=>match w with
 |.d (.int j)=>if iZ j=true then some (bh 0 j.toNat,T1) else none
 |_=>none
@[simp] theorem LD:cT f ρ T=XI (f ρ T) zj:=rfl
@[simp] theorem LC:zj (.d (.int j)) T=if iZ j=true then some (bh 0 j.toNat,T) else none:=rfl
@[simp] theorem Np:iE i it s ρ T=XI (it ρ T) fun ds T1=>forL i s ds ρ T1:=rfl
@[simp] theorem ME:d6 (.int i) (.int j)=some (.int (i-j)):=rfl
@[simp] theorem MW:cU (.int i) (.int j)=if 0<j then some (.int (i % j)) else none:=rfl
@[simp] theorem Ml:IY (.int i) (.int j)=if 0<j/\j<1073741824 then some (.int (i / j)) else none:=rfl
@[simp] theorem MK:ji (.int i) (.int j)=if 0<=j/\j<=1000000/\i.natAbs<2^64 then some (.int (i^j.toNat)) else none:=rfl
@[simp] theorem ND:BB (.int i) (.int j)=some (.bool (decide (i<j))):=rfl
@[simp] theorem NE:D5 (.int i) (.int j)=some (.bool (decide (i<=j))):=rfl
@[simp] theorem NH:CB (.int i) (.int j)=some (.bool (decide (j<i))):=rfl
@[simp] theorem NI:Hk (.int i) (.int j)=some (.bool (decide (j<=i))):=rfl
@[simp] theorem MB:az (.int i) (.int j)=some (.int (i+j)):=rfl
@[simp] theorem Mz:az (.str u) (.str v)=if u.length+v.length<=NX then some (.str (u++v)) else none:=rfl
@[simp] theorem My:az (.tuple u) (.tuple v)=if u.length+v.length<=NX then some (.tuple (u++v)) else none:=rfl
@[simp] theorem MA:az (.list u) (.list v)=if u.length+v.length<=NX then some (.list (u++v)) else none:=rfl
@[simp] theorem LR:bW (.int i) (.int j)=if (-(2^64)<i/\i<2^64)\/(-(2^64)<j/\j<2^64) then some (.int (i*j)) else none:=rfl
@[simp] theorem qI:bW (.str z) (.int k)=if 0<=k/\k<=2000/\z.length<=1000 then some (.str (QF z k)) else none:=rfl
@[simp] theorem Nr:D6 (.int i) (.int j)=some (.bool (decide (i=j))):=rfl
@[simp] theorem Nq:D6 (.str i) (.str j)=some (.bool (decide (i=j))):=rfl
@[simp] theorem Nt:D6 (.bool i) (.bool j)=some (.bool (decide (i=j))):=rfl
@[simp] theorem MU:Bt (.int i) (.int j)=some (.bool (!decide (i=j))):=rfl
@[simp] theorem MT:Bt (.str i) (.str j)=some (.bool (!decide (i=j))):=rfl
@[simp] theorem MV:Bt (.bool i) (.bool j)=some (.bool (!decide (i=j))):=rfl
@[simp] theorem NF:CG x .none=some (.bool (isNone x)) :=rfl
@[simp] theorem KZ:iq (.bool i) (.bool j)=some (.bool (i != j)):=rfl
@[simp] theorem MS:lY (.int i)=some (.int (-i)):=rfl
@[simp] theorem Ng:ck k x=some (.bool (cP (kd x) k)):=rfl
@[simp] theorem Nc:Zx (.list xs) (.int i)=Yr xs i:=rfl
@[simp] theorem Na:Zx (.tuple xs) (.int i)=Yr xs i:=rfl
@[simp] theorem Nb:Zx (.str z) (.int i)=if z.length<=NX then (Yr z.cps.toList i).map (fun c=>.str ⟨#[c]⟩) else none:=rfl
@[simp] theorem L5:bi [.list xs]=some (.int xs.length):=rfl
@[simp] theorem LZ:bi [.tuple xs]=some (.int xs.length):=rfl
@[simp] theorem L4:bi [.str z]=if z.length<=NX then some (.int z.length) else none:=rfl
@[simp] theorem Nz:oY [.int i]=some (.int (if i<0 then -i else i)):=rfl
@[simp] theorem M0:IM [.int i,.int j]=some (.int (if j>i then j else i)):=rfl
@[simp] theorem MZ:IK [.int i,.int j]=some (.int (if j<i then j else i)):=rfl
@[simp] theorem Kw:gP [.list xs]=some (.tuple xs):=rfl
@[simp] theorem Kv:gP [.tuple xs]=some (.tuple xs):=rfl
@[simp] theorem KW:yA [.list xs]=some (.list xs):=rfl
@[simp] theorem KU:yA [.tuple xs]=some (.list xs):=rfl
@[simp] theorem M7:kd (.int i)=.int:=rfl
@[simp] theorem M9:kd (.bool i)=.bl:=rfl
@[simp] theorem M4:kd (.str i)=.str:=rfl
@[simp] theorem M3:kd (.tuple i)=.tup:=rfl
@[simp] theorem M6:kd (.list i)=.lst:=rfl
@[simp] theorem M8:kd (.dict i)=.dct:=rfl
@[simp] theorem M5:kd .none=.non:=rfl
end
theorem Ao{α:Type}{a b c:α}:Yr [a,b,c] 1=some b:=rfl
theorem AO:Jf 3 1=some 1:=rfl
theorem dv:∀{ds:List NN},(∀d∈ds,e (some (.d d)::ρ) T=some (.d (g d),T))->bE bx e ρ ds T=some (ds.map g,T)
 |[],_=>rfl
 |d::r,h=>by
  have ih:=dv  fun x hx=>h x (NV _ hx);have h0:=h d NZ
  unfold bE<;>simp_all
theorem uq{e:FE}{ρ:XD}{P:Tp->Prop}{Q:NN->Prop}:∀{ds:List NN}{T:Tp},P T->(∀d∈ds,∀T,P T->∃y T',e (some (.d d)::ρ) T=some (.d y,T')/\P T'/\Q y)->∃ys T',bE bx e ρ ds T=some (ys,T')/\P T'/\ys.length=ds.length/\∀y∈ys,Q y
 |[],T,p,_=>⟨[],T,rfl,p,rfl,fun y hy=>by cases hy⟩
 |d::r,T,p,h=>by
  obtain⟨y,T1,e1,p1,q1⟩:=h d NZ T p;obtain⟨ys,T2,e2,p2,l2,q2⟩:=uq  p1 fun x hx=>h x (NV _ hx);refine⟨y::ys,T2,?_,p2,by simp[l2],fun z hz=>?_⟩
  .unfold bE<;>simp_all
  .grind
theorem tJ{α:Type}(p:α->Bool):∀l:List α,jW (l.map fun d=>.bool (p d))=some (l.map p)
 |[]=>rfl
 |d::r=>by
  show (jW _).map _=_;rw[tJ p r];rfl
theorem pL{α:Type}(p:α->Int):∀l:List α,iy (l.map fun d=>.int (p d))=some (l.map p)
 |[]=>rfl
 |d::r=>by
  show (iy _).map _=_;rw[pL p r];rfl
theorem tR{α:Type}(p:α->Str):∀l:List α,dI (l.map fun d=>.str (p d))=some (l.map p)
 |[]=>rfl
 |d::r=>by
  show (dI _).map _=_;rw[tR p r];rfl
@[simp] theorem Ny{α:Type}(p:α->Bool)(l:List α):iF [.list (l.map fun d=>.bool (p d))]=some (.bool (l.all p)):=by
 show (jW _).map _=_;rw[tJ,TF,W3];rfl
@[simp] theorem MD{α:Type}(p:α->Int)(l:List α):oK [.list (l.map fun d=>.int (p d))]=some (.int (l.map p).sum):=by
 show (iy _).map _=_;rw[pL,TF]
@[simp] theorem LX{α:Type}(p:α->Int)(l:List α)(k:Int):IL (.list (l.map fun d=>.int (p d))) (.int k)=some (.int (K1.kg k (l.map p))):=by
 show (iy _).map _=_;rw[pL,TF]
def w6(y:Str):NN->Bool
 |.str z=>jo y z
 |_=>false
theorem uW(y:Str)(c:Nat):jo y ⟨#[c]⟩=decide (c∈y.cps.toList):=StrLaws.found_one ..
@[simp] theorem Nh:inD (.str x) (.str y)=some (.bool (jo y x)):=rfl
theorem zfh(h:d∈D.signs x):∃c,c∈x.cps.toList/\d=.str ⟨#[c]⟩:=by
 obtain⟨c,hc,rfl⟩:=Oj.mp h;exact⟨c,hc,rfl⟩
section
variable {X:Cx}
theorem zfi:Dl X "str.startswith" (fun x vs H Q=>∃z y:Str,x=.str z/\vs=[.str y]/\Q (.bl (P6 z y)) H):=by
 intro pins s σ H x vs v us Q I rx rv h;obtain⟨z,y,rfl,rfl,q⟩:=h;obtain⟨t,rfl⟩:=rx;obtain⟨u,rfl,ru⟩:=vals1 rv;obtain⟨t',rfl⟩:=ru;exact call_gives Se (QM _ _ _) PySem.F.entry_str_startswith (PySem.F.args_str_startswith_2 _ _) (gives_str_startswith z y t t') ⟨.bl _,H,I,rfl,q⟩
def ig:NN->NN->Option NN
 |.str z,.str y=>some (.bool (P6 z y))
 |_,_=>none
theorem pQ(h:view T w=some (.str z)):w=.d (.str z):=by
 cases w with
 |d x=>cases h;rfl
 |tp k=>
  cases hk:T[k]? <;>simp_all
 |loc zs=>cases zs <;> cases h
theorem pO(ho:DE X o fo)(he:DE X e fe)
  (YI:Pj o "startswith" X.env (eval o X.env)=eval o X.env:=by rfl)
  (Zv:((OO cpos (NR [e] X.env)).all (fun x=>!x.1)&&(PX cpos (O8 [] X.env)).all (fun x=>x.1.isSome)
   && decide (([e]:List Expr).length+([]:List PD).length+(if ([]:List PD).isEmpty then 0 else 1)<30))=true:=by exact kh rfl)
  (YH:(apos.endLine == cpos.line)=true:=by rfl) (Zk:NR [e] X.env=(false,eval e X.env)::NR [] X.env:=by exact bo rfl) (Yn:(OO cpos (NR [] X.env)).any (·.1)=false:=by exact bN rfl) :
  DE X (.Call (.Attribute o "startswith" apos) [e] [] cpos) (ah ig fo fe):=by
 refine⟨?_⟩;refine pe_imp (i5 Qf Se PySem.F.type_str_startswith zfi ho.pe (bf he.pe bR Zk) YI Zv YH Zk Yn) fun σ H Q=>?_;rintro⟨O,ts,ρ,T,w,T',hc,re,e,q⟩;obtain⟨w1,T1,e1,e⟩:=aF e;obtain⟨w2,T2,e2,e⟩:=aF e;obtain⟨x,y,d,h1,h2,h3,rfl,rfl⟩:=ip e;unfold ig at h3;split at h3
 .rename_i z y
  cases h3;have ew:=pQ h1;subst ew;refine⟨O,ts,ρ,T,_,T1,hc,re,e1,fun v1 H1 s1 Xy r1=>?_⟩;cases (r1);refine⟨rfl,O,ts,ρ,T1,w2,T',Xy,re.mono hc s1,e2,fun v2 H2 s2 XW r2=>?_⟩;cases (XW.view r2 h2).str;exact⟨z,_,rfl,rfl,q _ H2 (s1.trans s2) XW (.bl _)⟩
 .cases h3
theorem zfj:Yk X (.type "int") (fun xs H Q=>∃x n,xs=[.str x]/\Ui x=some n/\x.length<=640/\Q (.int n) H):=by
 intro pins s σ H xs us Q I r h;obtain⟨x,n,rfl,hn,hl,q⟩:=h;obtain⟨u,rfl,ru⟩:=vals1 r;obtain⟨t,rfl⟩:=ru;exact PySem.W.KIN.call_text hn hl ⟨.int n,H,I.tok _,⟨_,rfl⟩,q⟩
def intD:List NN->Option NN
 |[.int i]=>some (.int i)
 |[.bool b]=>some (.int (if b then 1 else 0))
 |[.str x]=>if x.length<=640 then (Ui x).map .int else none
 |_=>none
theorem yW:fU X (.type "int") intD:=⟨_,Hh.or zfj,fun O ts H T vs xs d Q hc h e q=>by
 unfold intD at e;split at e
 .cases e
  obtain⟨v,rfl,g⟩:=dN h;cases g.int;exact .inl (.inl ⟨_,rfl,q _ H (.refl _ _) hc (.int _)⟩)
 .cases e
  obtain⟨v,rfl,g⟩:=dN h;cases g.bl;exact .inl (.inr ⟨_,rfl,q _ H (.refl _ _) hc (.int _)⟩)
 .split at e
  .rename_i hz
   obtain⟨n,e1,rfl⟩:=OD.mp e;obtain⟨v,rfl,g⟩:=dN h;cases g.str;exact .inr ⟨_,n,rfl,e1,hz,q _ H (.refl _ _) hc (.int _)⟩
  .cases e
 .cases e⟩
end
@[simp] theorem Kx:ig (.str z) (.str y)=some (.bool (P6 z y)):=rfl
@[simp] theorem L8:intD [.str x]=if x.length<=640 then (Ui x).map .int else none:=rfl
@[simp] theorem L9:intD [.int i]=some (.int i):=rfl
@[simp] theorem Ma:intD [.bool b]=some (.int (if b then 1 else 0)):=rfl
def dO(B:List (Str×Int)):List (Str×Xg):=B.map fun p=>(p.1,.flat (.int p.2))
def oZ(K:Frag)(mg:Str->Option NO)(x:Str)(B:List (Str×Int)):Prop:=∃a,mg x=some (.ref a)/\Pk (Pg fun b=>K.lookup b) (fun b=>K.lookup b) a (dO B)=true
def Zc(B:List (Str×Int)):NN->Option NN
 |.str s=>some (.bool (B.any fun p=>decide (s=p.1)))
 |_=>none
def atT(B:List (Str×Int)):NN->Option NN
 |.str s=>(B.find? fun p=>decide (s=p.1)).map fun p=>.int p.2
 |_=>none
theorem tq(s:Str):∀B:List (Str×Int),S4 s (dO B)=B.any fun p=>decide (s=p.1)
 |[]=>rfl
 |(x,d)::B=>by
  show (decide (s=x)||PyProof.Rows.KTD.inKeys s (dO B))=_;rw[tq s B];rfl
theorem ul(s:Str):∀B:List (Str×Int),SL s (dO B)=(B.find? fun p=>decide (s=p.1)).map fun p=>.flat (.int p.2)
 |[]=>rfl
 |(x,d)::B=>by
  show (if decide (s=x)=true then some _ else SL s (dO B))=_;rw[ul s B,VX]
  cases decide (s=x) <;> rfl
section
variable {X:Cx}{pos:Pos}{e:Expr}{f:FE}{x:Str}{p:Pos}{B:List (Str×Int)}
theorem uj:∀{B:List (Str×Int)}{d:Str×Int},(B.find? fun p=>decide (s=p.1))=some d->(∀t,P (.int d.2 t))->W4 h s P (dO B)
 |[],d,e,_=>by cases e
 |(x,i)::B,d,e,hp=>by
  rw[VX] at e
  by_cases hx:s=x
  .have:decide (s=x)=true:=decide_eq_true hx
   simp only[this] at e;cases e;exact Wf hx (V2 hp)
  .have:decide (s=x)=false:=decide_eq_false hx
   simp only[this] at e;exact V3 hx (uj e hp)
theorem zfk(hl:Pk (Pg fun b=>X.K.lookup b) (fun b=>X.K.lookup b) a (dO B)=true):YQ X (OL .In) (fun x y H Q=>∃s,x=.str s/\y=.ref a/\Q (.bl (B.any fun p=>decide (s=p.1))) H):=by
 intro pins s σ H x y v u Q I rx ry h;obtain⟨z,rfl,rfl,q⟩:=h;obtain⟨t,rfl⟩:=rx;cases ry;refine WM (h₀:=s.heap) ⟨UU I.kIn hl,fun _ _ e=>e⟩ ?_;rw[tq];exact⟨.bl _,H,I.tok _,rfl,q⟩
theorem jV(ht:oZ X.K X.mg x B)(hg:Gl X x)(he:DE X e f)(hd:(x == ("__debug__" : Str))=false:=by decide)(hm:QT .In (.Name x p)=false:=by first|exact rf _|with_unfolding_all rfl):DE X (.Compare e [.In] [.Name x p] pos) (YO (Zc B) f):=by
 obtain⟨a,hx,hl⟩:=ht;refine⟨?_⟩;refine pe_imp (zsx (zfk hl) he.pe (eE (v:=.ref a) hg hx rfl hd) hm) fun σ H Q=>?_;rintro⟨O,ts,ρ,T,w,T',hc,re,e,q⟩;obtain⟨w1,T1,e1,e⟩:=aF e;obtain⟨x,d,h1,h3,rfl,rfl⟩:=jP e;refine⟨O,ts,ρ,T,w1,T',hc,re,e1,fun v1 H1 s1 Xy r1=>?_⟩;have vw:=Xy.view r1 h1;unfold Zc at h3;split at h3
 .cases h3
  cases vw.str;exact⟨_,rfl,rfl,q _ H1 s1 Xy (.bl _)⟩
 .cases h3
theorem zfl(hl:Pk (Pg fun b=>X.K.lookup b) (fun b=>X.K.lookup b) a (dO B)=true):D8 X (fun x y H Q=>∃s p,x=.ref a/\y=.str s/\(B.find? fun p=>decide (s=p.1))=some p/\Q (.int p.2) H):=by
 intro value slice pins s σ H x y v u Q I rx ry h hs;obtain⟨z,d,rfl,rfl,hf,q⟩:=h;obtain⟨t,rfl⟩:=ry;cases rx
 have hk:S4 z (dO B)=true:=by
  rw[←Vm,ul,hf];rfl
 have hp:((dO B).all fun p=>W5 p.2)=true:=by
  rw[Oq];intro p hp;obtain⟨q,_,rfl⟩:=Oj.mp hp;rfl
 exact V4 (h₀:=s.heap) ⟨UU I.kIn hl,fun _ _ e=>e⟩ hp hk (uj hf fun t=>⟨.int d.2,H,I.tok _,⟨t,rfl⟩,q⟩) hs
theorem nW(ht:oZ X.K X.mg x B)(hg:Gl X x)(he:DE X e f)(hd:(x == ("__debug__" : Str))=false:=by decide)(hs:qO e:=by exact fun _ _=>rfl):DE X (.Subscript (.Name x p) e pos) (YO (atT B) f):=by
 obtain⟨a,hx,hl⟩:=ht;refine⟨?_⟩;refine pe_imp (ztw (zfl hl) (eE (v:=.ref a) hg hx rfl hd) he.pe hs) fun σ H Q=>?_;rintro⟨O,ts,ρ,T,w,T',hc,re,e,q⟩;obtain⟨w1,T1,e1,e⟩:=aF e;obtain⟨x,d,h1,h3,rfl,rfl⟩:=jP e;refine⟨O,ts,ρ,T,w1,T',hc,re,e1,fun v1 H1 s1 Xy r1=>?_⟩;have vw:=Xy.view r1 h1;unfold atT at h3;split at h3
 .obtain⟨p,hp,rfl⟩:=OD.mp h3
  cases vw.str;exact⟨_,p,rfl,rfl,hp,q _ H1 s1 Xy (.int _)⟩
 .cases h3
end
end D
namespace D
open L2
section
variable {X:Cx}{pos:Pos}{e:Expr}{f:FE}{x:Str}{p:Pos}
variable {B:List (Str×Int)}
def mM:List NO->List Str->Bool
 |[],[]=>true
 |.str x _::r,y::s=>decide (x=y)&&mM r s
 |_,_=>false
def kK(look:Addr->Option Obj)(a:Addr)(ss:List Str):Bool:=match look a with
 |some ⟨.type n,_,.seq Xx _,_⟩=>decide (n="tuple")&&mM Xx.toList ss
 |_=>false
def sv(K:Frag)(mg:Str->Option NO)(x:Str)(ss:List Str):Prop:=∃a,mg x=some (.ref a)/\kK (fun b=>K.lookup b) a ss=true
theorem tQ:∀{vs:List NO}{ss:List Str},mM vs ss=true->XC (ss.map V.str) vs
 |[],[],_=>.nil
 |.str x t::r,y::s,h=>by
  have h':(decide _&&mM r s)=true:=h;rw[NY] at h';exact .cons ⟨t,by rw[of_decide_eq_true h'.1]⟩ (tQ h'.2)
theorem ma{K:Frag}{O:Addr->Prop}{H:Hp}:∀ss:List Str,XH K O H (ss.map V.str) (ss.map OE)
 |[]=>.nil
 |x::r=>.cons (.str x) (ma r)
theorem iP(hg:Gl X x)(ht:sv X.K X.mg x ss)(hz:ss.length<=sizeLine:=by decide)(hd:(x == ("__debug__" : Str))=false:=by decide):DE X (.Name x p) (fC (.tuple (ss.map OE))):=by
 obtain⟨a,hx,hl⟩:=ht;refine⟨?_⟩;refine pe_imp (eE (v:=.ref a) hg hx rfl hd) (iU fun O H=>?_);unfold kK at hl;split at hl
 .rename_i n dd Xx c sl hk
  rw[NY] at hl;have rv:=tQ hl.2;have hn:=of_decide_eq_true hl.1;subst hn;refine .tup  (.inr (.inr ⟨_,Xx,c,hk,rfl,rfl,?_,rv⟩)) (ma ss)
  have:=rv.length<;>grind
 .cases hl
def oI(a:Addr)(o:Obj)(B:List (Str×Int)):Bool:=Pk (Pg fun _=>none) (fun _=>some o) a (dO B)
theorem tU{g g':Addr->Option Obj}:∀(es:List WV) (B:List (Str×Int)),Q9 (Pg g) es (dO B)=Q9 (Pg g') es (dO B)
 |[],[]=>rfl
 |[],(_,_)::_=>rfl
 |_::_,[]=>rfl
 |e::es,(x,i)::B=>by
  have ih:=tU (g:=g) (g':=g') es B;unfold dO at ih ⊢;rw[OJ];unfold Q9;rw[ih];rfl
theorem tP{K:Frag}(h:K.lookup a=some o)(g:oI a o B=true):Pk (Pg fun b=>K.lookup b) (fun b=>K.lookup b) a (dO B)=true:=by
 unfold oI Pk at g;unfold Pk;dsimp only at g ⊢;rw[h];rw[←g];dsimp only
 cases o.data <;> first|rfl|(dsimp only;rw[tU (g':=fun _=>none)])
def rZ(o:Obj)(ss:List Str):Bool:=kK (fun _=>some o) 0 ss
theorem tN{K:Frag}(h:K.lookup a=some o)(g:rZ o ss=true):kK (fun b=>K.lookup b) a ss=true:=by
 unfold kK;dsimp only;rw[h];exact g
end
mutual
def ka:NN->Bool
 |.tuple ds=>lG ds
 |.list _=>false
 |.dict _=>false
 |_=>true
def lG:List NN->Bool
 |[]=>true
 |d::r=>ka d&&lG r
end
def aN(ds:List (NN×NN))(s:Str):Option PyData:=match ds with
 |[]=>none
 |(.str k,d)::r=>if k=s then some d else aN r s
 |_::r=>aN r s
theorem kG{K:Frag}{O:Addr->Prop}{H:Hp}{s:Str}:∀{kvs:List (Key×V)}{ds:List (NN×NN)},Yt K O H kvs ds->(aN ds s=none/\bO kvs (PU s:Key)=none)\/∃v d,aN ds s=some d/\bO kvs (PU s:Key)=some v/\Rep K O H v d
 |_,_,.nil=>.inl ⟨rfl,rfl⟩
 |_,_,.cons (k:=.inl i) (v:=v)  (kvs:=kvs) (ds:=ds) r t=>by
  have e:bO (((UZ i),v)::kvs) (PU s)=bO kvs (PU s):=by simp[bO]
  rw[e];show (aN ds s=none/\_)\/∃v d,aN ds s=some d/\_;exact kG  t
 |_,_,.cons (k:=.inr k) (v:=v) (d:=d) (kvs:=kvs) (ds:=ds) r t=>by
  by_cases hk:k=s
  .subst hk
   exact .inr ⟨v,d,by show (if k=k then some d else aN ds k)=some d<;>simp_all,by simp[bO],r⟩
  .have e:bO (((PU k),v)::kvs) (PU s)=bO kvs (PU s):=by simp[bO,hk]
   have e2:aN ((oV (PU k),d)::ds) s=aN ds s:=by show (if k=s then some d else aN ds s)=_<;>simp_all
   rw[e,e2];exact kG  t
theorem G1.rd(e:Rd H a (.dK kvs)):G1 H a (kV k) (bO kvs k):=.inl ⟨kvs,k,e,rfl,rfl⟩
section
variable {X:Cx}{pos:Pos}{k:Nat}
theorem rP(hr:X0 k A):A.units+1<cLine:=by have:=hr.un;omega
def eI(ds:List (NN×NN))(s:Str)(x:NN):List (NN×NN):=match ds with
 |[]=>[]
 |(.str k,d)::r=>if k=s then (.str k,x)::eI r s x else (.str k,d)::eI r s x
 |p::r=>p::eI r s x
theorem pG{K:Frag}{O:Addr->Prop}{H:Hp}{s:Str}{v:V}{x:NN}(rx:Rep K O H v x):∀{kvs:List (Key×V)}{ds:List (NN×NN)},Yt K O H kvs ds->Yt K O H (kvs.map fun kv=>if kv.1=(PU s:Key) then (kv.1,v) else kv) (eI ds s x)
 |_,_,.nil=>.nil
 |_,_,.cons (k:=.inl i) r t=>by
  exact .cons  r (pG rx t)
 |_,_,.cons (k:=.inr k)    (ds:=ds) r t=>by
  rw[OJ];have ih:=pG (s:=s) rx t;show Yt K O H _ (if k=s then _::eI ds s x else _::eI ds s x)
  by_cases hk:k=s
  .rw[if_pos hk,if_pos (by rw[hk])]
   exact .cons  rx ih
  .rw[if_neg hk,if_neg (fun z=>hk (Sum.inr.inj z))]
   exact .cons  r ih
theorem uN{K:Frag}{O:Addr->Prop}{H:Hp}:∀{kvs:List (Key×V)}{ds:List (NN×NN)},Yt K O H kvs ds->kvs.length=ds.length
 |_,_,.nil=>rfl
 |_,_,.cons _ t=>congrArg _ (uN t)
theorem zfm{kvs:List (Key×V)}{k:Key}(h:(bO kvs k).isSome=true):(kvs.any fun kv=>decide (kv.1=k))=true:=by unfold bO at h<;>grind
end
def eM(f:Str):List NN->Option NN
 |.tuple [.str g,y]::r=>if g=f then some y else eM f r
 |_=>none
def gv(f:Str)(y:NN):List NN->List NN
 |.tuple [.str g,z]::r=>if g=f then .tuple [.str g,y]::r else .tuple [.str g,z]::gv f y r
 |_=>[.tuple [.str f,y]]
def iC(C:Addr):List NN->Option (List NN)
 |.dict [(.none,.int c)]::ps=>if c=(C:Int) then some ps else none
 |_=>none
def fm(C:Addr)(T:Tp)(n:Nat):Option (List NN):=(T[n]?).bind (iC C)
section
variable {K:Frag}{O:Addr->Prop}{ts:List Addr}{H H':Hp}{T:Tp}{n:Nat}{a C:Addr}{ps:List NN}{X:Cx}{o e:Expr}{f m:Str}{pos pos' apos:Pos}{fo fe:FE}
theorem zfn(h:iC C xs=some ps):xs=bK C::ps:=by
 unfold iC at h;split at h
 .split at h
  .rename_i hc
   cases h;rw[hc];rfl
  .cases h
 .cases h
theorem zfo(h:fm C T n=some ps):T[n]? = some (bK C::ps):=by
 unfold fm at h
 cases hT:T[n]? with
 |none=>rw[hT] at h;cases h
 |some xs=>
  rw[hT] at h;have h':iC C xs=some ps:=h;rw[zfn h']
theorem HC.obj(c:HC K O ts H T)(e:ts[n]? = some a)(h:fm C T n=some ps):∃dx fs fd,H a=some (.ins C dx fs)/\ps=fd.map pairF/\ZL K O H fs fd:=by
 rcases c.tape n a _ e (zfo h) with⟨no,_⟩|⟨C',dx,fs,fd,h1,h2,h3⟩
 .cases no
 .injection h2 with e1 e2
  have e3:(C:Int)=(C':Int):=by
   have z:PyData.dict [(.none,.int (C:Int))]=.dict [(.none,.int (C':Int))]:=e1
   injection z with z
   injection z with z _
   injection z with _ z
   injection z
  have e4:C=C':=by exact Int.ofNat.inj e3
  subst e4;exact⟨dx,fs,fd,h1,e2,h3⟩
theorem ZL.look(r:ZL K O H fs fd):(eM f (fd.map pairF)=none/\fs.lookup f=none)\/∃v y,eM f (fd.map pairF)=some y/\fs.lookup f=some v/\Rep K O H v y:=by
 induction r with
 |nil=>exact .inl ⟨rfl,rfl⟩
 |cons r _ ih=>
  rename_i g v d vs ds _
  by_cases hg:g=f
  .subst hg
   refine .inr ⟨v,d,?_,?_,r⟩
   .show (if g=g then some d else _)=_
    rw[if_pos rfl]
   .rw[RP,beq_self_eq_true]
  .have e1:eM f (((g,d)::ds).map pairF)=eM f (ds.map pairF):=if_neg hg
   have e2:Qh f ((g,v)::vs)=Qh f vs:=by
    rw[RP,show (f == g)=false from beq_false_of_ne (PV hg)]
   rw[e1,e2];exact ih
def i4(f:Str)(y:NN):List (Str×NN)->List (Str×NN)
 |[]=>[(f,y)]
 |(g,x)::r=>if g=f then (g,y)::r else (g,x)::i4 f y r
theorem ZL.put(ry:Rep K O H v y)(r:ZL K O H fs fd):ZL K O H (c9 f v fs) (i4 f y fd):=by
 induction r with
 |nil=>exact .cons ry .nil
 |cons r t ih=>
  rename_i g v' d vs ds;unfold c9 i4
  by_cases hg:g=f
  .rw[if_pos hg,if_pos hg]
   exact .cons ry t
  .rw[if_neg hg,if_neg hg]
   exact .cons r ih
theorem uO:∀fd:List (Str×NN),gv f y (fd.map pairF)=(i4 f y fd).map pairF
 |[]=>rfl
 |(g,x)::r=>by
  have e:gv f y (((g,x)::r).map pairF)=if g=f then .tuple [.str g,y]::r.map pairF else .tuple [.str g,x]::gv f y (r.map pairF):=rfl
  have e':i4 f y ((g,x)::r)=if g=f then (g,y)::r else (g,x)::i4 f y r:=rfl
  rw[e,e',uO r]
  by_cases hg:g=f
  .rw[if_pos hg,if_pos hg];rfl
  .rw[if_neg hg,if_neg hg];rfl
def hV(C:Addr)(f:Str)(w:W)(T:Tp):Option (W×Tp):=match w with
 | .tp n=>(match fm C T n with
  | some ps=>(match eM f ps with
   |some y=>some (.d y,T)
   | none=>none)
  | none=>none)
 |_=>none
def dC(C:Addr)(f:Str)(fo:FE):FE:=fun ρ T=>XI (fo ρ T) (hV C f)
theorem dZ(c:zS X.K C)(n:Yz X.K C f)(ho:DE X o fo)(hb:Pj o f X.env (eval o X.env)=eval o X.env:=by rfl):DE X (.Attribute o f pos) (dC C f fo):=by
 refine⟨?_⟩;refine pe_imp (zby ho.pe hb) fun σ H Q=>?_;rintro⟨O,ts,ρ,T,w,T',hc,re,e,q⟩;obtain⟨w1,T1,e1,e⟩:=aF e;refine⟨O,ts,ρ,T,w1,T1,hc,re,e1,fun v1 H1 s1 Xy r1=>?_⟩
 cases w1 with
 |tp k=>
  unfold hV at e;dsimp only at e;split at e
  .rename_i ps h1
   split at e
   .rename_i y h2
    cases e;obtain⟨a,k1,rfl⟩:=r1;obtain⟨dx,fs,fd,g1,g2,g3⟩:=Xy.obj k1 h1;subst g2
    rcases g3.look (f:=f) with⟨z,_⟩|⟨v,y',z1,z2,z3⟩
    .rw[z] at h2;cases h2
    .rw[z1] at h2
     cases h2;exact⟨a,C,dx,fs,v,rfl,g1,c,n,z2,q v H1 s1 Xy z3⟩
   .cases e
  .cases e
 |d x=>cases e
 |loc x=>cases e
def eL(C:Addr)(f:Str)(ρ:XD)(w o:W)(T:Tp):Option ((Fl×XD)×Tp):=match w,o with
 | .d y,.tp n=>(match fm C T n with
  |some ps=>if ps.length<1000 then some ((.nx,ρ),T.set n (bK C::gv f y ps)) else none
  | none=>none)
 |_,_=>none
def jf(C:Addr)(f:Str)(fo fe:FE):FS:=fun ρ T=>XI (fe ρ T) fun w T1=>XI (fo ρ T1) (eL C f ρ w)
theorem lu(c:zS X.K C)(n:Yz X.K C f)(ho:DE X o fo)(he:DE X e fe)(hs:Pi e (some (.Attribute o f pos')) pos.line X.env=pure false:=by rfl):DS X (.Assign [.Attribute o f pos'] e pos) (jf C f fo fe):=by
 refine⟨?_⟩;refine dH (zbz ho.pe he.pe hs) fun D σ H=>?_;rintro⟨O₀,H₀,F,ts,O,ρ,T,fl,ρ',T',rs,e,q⟩;obtain⟨w,T1,e1,e⟩:=aF e;obtain⟨wo,T2,e2,e⟩:=aF e;refine⟨O,ts,ρ,T,w,T1,rs.hc,rs.re,e1,fun v H1 s1 Xy r1=>?_⟩;have Z4:=rs.step s1 Xy;refine⟨O,ts,ρ,T1,wo,T2,Xy,Z4.re,e2,fun vo H2 s2 XW r2=>?_⟩;have El:=Z4.step s2 XW
 cases w with
 |tp j=>cases e
 |loc j=>cases e
 |d y=>
 cases wo with
 |d j=>cases e
 |loc j=>cases e
 |tp k=>
  unfold eL at e;dsimp only at e;split at e
  .rename_i ps h1
   split at e
   .rename_i hl
    cases e;obtain⟨a,k1,rfl⟩:=r2;obtain⟨dx,fs,fd,g1,g2,g3⟩:=XW.obj k1 h1
    have X4:fs.length=fd.length:=by
     clear g1 g2
     induction g3 with
     |nil=>rfl
     |cons _ _ ih=>simp[ih]
    refine⟨a,C,dx,fs,rfl,g1,c,n,by rw[X4];rw[g2] at hl;simpa using hl,?_⟩;have ry:Rep X.K O H2 v y:=Rep.mono (Xy.le s2) r1;refine q O _ _ (El.tapeO k1 (.inr (.inr ⟨_,_,_,rfl⟩)) fun le=>.inr ⟨C,dx,_,i4 f y fd,bu,?_,(g3.mono le).put (Rep.mono le ry)⟩);rw[g2,uO]
   .cases e
  .cases e
structure Cj(P:NU)(w:N8)(K:Frag)(mg:Str->Option NO)(base:Heap)(C:Addr)(m:Str)(ps:List Str)(k:Nat)(sp:Sp):Prop where
 ex:∃f fd,Xz P w K mg base Yi k f fd ps sp/\Binds K fd ps []/\AW K C m f
def lI(C:Addr)(m:Str)(mm:Yh)(g:FA)(ρ:XD)(w:W)(T:Tp):Option (W×Tp):=match w with
 | .tp n=>(match fm C T n with
  |some ps=>if (eM m ps).isNone=true then XI (g ρ T) fun ws T2=>XI (mm (.tp n::ws) T2) fun x T3=>some (.d x,T3) else none
  | none=>none)
 |_=>none
def cb(C:Addr)(m:Str)(mm:Yh)(fo:FE)(g:FA):FE:=fun ρ T=>XI (fo ρ T) (lI C m mm g ρ)
variable {ps:List Str}{k:Nat}{mm:Yh}{g:FA}{es:List Expr}{pl:Sem Bool}
theorem uS(hl:eQ g lv)(h1:ps.length=lv+1)(h:lift X.K (cb C m mm fo g) σ H Q):n9 C m (XA X.K ps.length mm) [] E0 (lift X.K fo) (lL X.K g) σ H Q:=by
 obtain⟨O,ts,ρ,T,w,T',hc,re,e,q⟩:=h;obtain⟨w1,T1,e1,e⟩:=aF e;refine⟨O,ts,ρ,T,w1,T1,hc,re,e1,fun v1 H1 s1 Xy r1=>?_⟩
 cases w1 with
 |tp n=>
  unfold lI at e;dsimp only at e;split at e
  .rename_i qs o1
   split at e
   .rename_i hn
    obtain⟨ws,T2,e2,e⟩:=aF e;obtain⟨x,T3,e3,e⟩:=aF e;cases e;obtain⟨a,k1,rfl⟩:=r1;obtain⟨dx,fs,fd,g1,g2,g3⟩:=Xy.obj k1 o1;subst g2
    have l0:fs.lookup m=none:=by
     rcases g3.look (f:=m) with⟨_,z⟩|⟨v,y',z1,z2,z3⟩
     .exact z
     .rw[z1] at hn;cases hn
    refine⟨a,dx,fs,rfl,g1,l0,O,ts,ρ,T1,ws,T2,Xy,re.mono hc s1,e2,fun vs H2 s2 XW r2=>?_⟩;refine⟨O,ts,T2,.tp n::ws,x,_,XW,?_,by rw[h1,Oo,hl _ _ _ _ e2],e3,fun v H3 s3 YK r3=>q v H3 (s1.trans (s2.trans s3)) YK r3⟩;rw[Pb];exact .cons ⟨a,k1,rfl⟩ r2
   .cases e
  .cases e
 |d x=>cases e
 |loc x=>cases e
theorem il(F:Cj X.prog X.w X.K X.mg X.base C m ps k (XA X.K ps.length mm))(c:zS X.K C)(hr:X0 k X.A)(ho:DE X o fo)(ha:DA X (e::es) g)(hl:eQ g lv)(h1:ps.length=lv+1:=by rfl)
  (he:NR (e::es) X.env=(false,eval e X.env)::NR es X.env:=by exact bo rfl) (Yo:(OO pos (NR es X.env)).any (·.1)=false:=by exact bN rfl)
  (ht:eval (.Call (.Attribute o m apos) (e::es) [] pos) X.env=(do
   let ov ←eval o X.env
   Ru apos.atName
   let (f,first) ←QL [ov] (QU ov m pl)
   SU pos f first (OO pos (NR (e::es) X.env)) (PX pos (O8 [] X.env))):=by rfl):DE X (.Call (.Attribute o m apos) (e::es) [] pos) (cb C m mm fo g):=by
 obtain⟨f,fd,F1,F2,F3⟩:=F.ex;refine⟨?_⟩;exact pe_imp (ztg ho.pe c F3 F1 hr F2 .nil lH ha.pe he Yo ht) fun σ H Q h=>uS hl h1 h
theorem fF(F:Cj X.prog X.w X.K X.mg X.base C m ps k (XA X.K ps.length mm))(c:zS X.K C)(hr:X0 k X.A)(ho:DE X o fo)(h1:ps.length=1:=by rfl)
  (ht:eval (.Call (.Attribute o m apos) [] [] pos) X.env=(do
   let ov ←eval o X.env
   Ru apos.atName
   let (f,first) ←QL [ov] (QU ov m pl)
   SU pos f first (OO pos (NR [] X.env)) (PX pos (O8 [] X.env))):=by rfl):DE X (.Call (.Attribute o m apos) [] [] pos) (cb C m mm fo ai):=by
 obtain⟨f,fd,F1,F2,F3⟩:=F.ex;refine⟨?_⟩
 exact pe_imp (zth ho.pe c F3 F1 hr F2 .nil lH ht) fun σ H Q h=>by
  have:=uS (X:=X) (ps:=ps) au h1 h;obtain⟨O,ts,ρ,T,w,T',hc,re,e,q⟩:=this;refine⟨O,ts,ρ,T,w,T',hc,re,e,fun v H1 s1 Xy r1=>?_⟩;obtain⟨a,dx,fs,ea,e1,e2,O2,ts2,ρ2,T2,ws,T3,XW,z6,e3,q2⟩:=q v H1 s1 Xy r1;cases e3;exact⟨a,dx,fs,ea,e1,e2,q2 [] H1 (.refl _ _) XW .nil⟩
def lS:FS:=fun _ _=>none
theorem mZ{st:Stmt}:DS X st lS:=⟨fun _ _ _ _ _ _ h=>by
 obtain⟨O₀,H₀,F,ts,O,ρ,T,fl,ρ',T',rs,e,q⟩:=h
 cases e⟩
end
def gW(T:Tp):Option (Tp×List NN):=match T.getLast? with
 |some xs=>some (T.dropLast,xs)
 |none=>none
theorem qf(h:gW T=some (T1,ys)):T=T1++[ys]:=by
 unfold gW at h;split at h
 .rename_i xs e
  cases h
  obtain⟨zs,hl⟩:=List.getLast?_eq_some_iff.mp e<;>simp_all
 .cases h
def gS:XD->Bool
 |[]=>true
 |none::r=>gS r
 |some (.d _)::r=>gS r
 |_::_=>false
theorem gH:∀{ρ:XD}{j:Nat}{w:W},gS ρ=true->ρ[j]? = some (some w)->∃x,w=.d x
 |[],_,_,_,e=>by simp at e
 |none::r,0,_,h,e=>by simp at e
 |some (.d x)::r,0,_,h,e=>by simp at e;exact⟨x,e.symm⟩
 |some (.tp _)::_,_,_,h,_=>by cases h
 |some (.loc _)::_,_,_,h,_=>by cases h
 |none::r,j+1,w,h,e=>gH (ρ:=r) (j:=j) h (by simpa using e)
 |some (.d x)::r,j+1,w,h,e=>gH (ρ:=r) (j:=j) h (by simpa using e)
theorem tf(h:gS ρ=true):sD ρ:=fun i ds e=>by
 obtain⟨x,z⟩:=gH h e;cases z
theorem mf:∀{ρ:XD},gS ρ=true->bS ρ=ρ
 |[],_=>rfl
 |none::r,h=>by
  show none::bS r=none::r;rw[mf (ρ:=r) h]
 |some (.d x)::r,h=>by
  show some (W.d x)::bS r=some (W.d x)::r;rw[mf (ρ:=r) h]
 |some (.tp _)::_,h=>by cases h
 |some (.loc _)::_,h=>by cases h
def i8(o:Option ((Fl×XD)×Tp)):Option ((Fl×XD)×Tp):=match o with
 | some ((.rt y,ρ'),T3)=>(match gW T3 with
  |some (T4,_)=>some ((.rt y,ρ'),T4)
  | none=>none)
 |_=>none
def FU(i:Nat)(C:Addr)(m:Yh)(fr:FS)(ρ:XD)(w:W)(T1:Tp):Option ((Fl×XD)×Tp):=match w with
 | .d x0=>(match m [.tp T1.length,.d x0] (T1++[[bK C]]) with
  |some (.none,T2)=>i8 (fr (ρ.set i (some (.tp T1.length))) T2)
  | _=>none)
 |_=>none
def gY(i:Nat)(C:Addr)(m:Yh)(fe:FE)(fr:FS):FS:=fun ρ T=>if gS ρ=true then XI (fe ρ T) (FU i C m fr ρ) else none
section
variable {X:Cx}{C f:Addr}{e:Expr}{fe:FE}{fr:FS}{rest:List Stmt}{cn x:Str}{p pos pos' cpos:Pos}{ps:List Str}{k i:Nat}{m:Yh}{fd:Oe}
theorem zfp(M:Mk X.K C f)(Fi:Xz X.prog X.w X.K X.mg X.base Yi k f fd ps (XA X.K ps.length m))(hb:Binds X.K fd ps [])(hr:X0 (k+1) X.A)(hg:Gl X cn)(hm:X.mg cn=some (.ref C))(hN:X.N.Nodup)(he:DE X e fe)(ZA:C9 X rest fr)
  (h2:ps.length=2:=by rfl) (hi:X.N[i]? = some x:=by rfl) (hx:Loc X.env.scope x:=by first|exact Qp rfl|exact PZ rfl) (YN:(cn == ("__debug__" : Str))=false:=by decide)
  (Zk:NR [e] X.env=(false,eval e X.env)::NR [] X.env:=by exact bo rfl) (Yo:(OO cpos (NR [] X.env)).any (·.1)=false:=by exact bN rfl)
  (hs:Pi (.Call (.Name cn p) [e] [] cpos) (some (.Name x pos')) pos.line X.env=pure false:=by rfl) (hf:X.fn x=true\/X.env.scope.names.lookup x=some .local:=by first|exact .inl rfl|exact .inr rfl|assumption) :
  C9 X (.Assign [.Name x pos'] (.Call (.Name cn p) [e] [] cpos) pos::rest) (gY i C m fe fr):=by
 refine⟨?_⟩;refine eW (dF (gR hN hi hx (zti M Fi hr hg hm hb .nil lH (bf he.pe bR Zk) YN Zk Yo) hs hf) ZA.pe) fun D σ H=>?_;rintro⟨O₀,H₀,F,ts,O,ρ,T,fl,ρ',T',rs,e,q⟩;unfold gY at e;split at e
 .rename_i hp
  obtain⟨w,T1,e1,e⟩:=aF e;obtain⟨c0,CH⟩:=rs.frz (tf hp);rw[mf hp] at CH;refine⟨O₀,ts,ρ,T,w,T1,c0,CH,e1,fun v1 H1 s1 Xy r1=>?_⟩
  cases w with
  |tp j=>cases e
  |loc y=>cases e
  |d x0=>
   unfold FU at e;dsimp only at e;split at e
   .rename_i T2 em
    intro px dx Bl Iu F7;have Ay:=CH.mono c0 s1;have nO:=Xy.fresh Bl;have Gr:=Xy.fresh Iu;have nt:px∉ts:=fun z=>nO (Xy.own _ z)
    have U:∀b,b≠px->b≠dx->upd (upd H1 dx (.own px)) px (.ins C dx []) b=H1 b:=fun b n1 n2=>by rw[aX n1,aX n2]
    have le:Le O₀ H1 (fun b=>O₀ b\/b=px) (upd (upd H1 dx (.own px)) px (.ins C dx [])):=fun a o n e=>by
     have z1:a≠px:=bM e Bl;have z2:a≠dx:=bM e Iu;exact⟨fun q=>q.elim n z1,by rw[U a z1 z2];exact e⟩
    have FV:HC X.K (fun b=>O₀ b\/b=px) (ts++[px]) (upd (upd H1 dx (.own px)) px (.ins C dx [])) (T1++[[bK C]]):=by
     refine⟨fun b hb=>?_,fun b hb=>?_,?_,by simp[Xy.len],fun j b zs q1 q2=>?_⟩
     .rcases Oz.mp hb with z|z
      .exact .inl (Xy.own b z)
      .exact .inr (Od.mp z)
     .by_cases z:b=px
      .rw[z,bu];exact .inr (.inr ⟨_,_,_,rfl⟩)
      .have C8:=hb.resolve_right z
       have z2:b≠dx:=fun z2=>Gr (z2 ▸ C8);rw[U b z z2];exact Xy.trk b C8
     .rw[Pv]
      exact⟨Xy.nd,by simp,fun b hb c hc z=>nt (by rw[←Od.mp hc,←z];exact hb)⟩
     .by_cases hj:j<ts.length
      .rw[N7 hj] at q1
       rw[N7 (by rw[←Xy.len];exact hj)] at q2;exact(Xy.tape j b zs q1 q2).mono (fun o h1=>by rw[U b (bM h1 Bl) (bM h1 Iu)];exact h1) le
      .have EQ:j=ts.length:=by
        have:=(NS.mp q1).1;simp at this;omega
       subst EQ
       have e1:b=px:=by simpa using q1.symm
       have e2:zs=[bK C]:=by rw[Xy.len] at q2;simpa using q2.symm
       subst e1 e2;exact .inr ⟨C,dx,[],[],bu,rfl,.nil⟩
    refine⟨fun b=>O₀ b\/b=px,ts++[px],T1++[[bK C]],[.tp T1.length,.d x0],.none,T2,FV,.cons ⟨px,by rw[←Xy.len];simp,rfl⟩ (.cons (Rep.mono le r1) .nil),by rw[h2];rfl,em,fun v H2 s2 XW r2=>?_⟩;cases r2;refine⟨rfl,?_⟩
    have dxn:dx∉ts++[px]:=fun z=>by
     rcases Oz.mp z with z|z
     .exact Gr (Xy.own _ z)
     .exact F7 (Od.mp z)
    have F5:Le O₀ H1 (fun b=>O₀ b\/b=px) H2:=le.trans (FV.le s2);generalize hE:fr (ρ.set i (some (.tp T1.length))) T2=E at e;unfold i8 at e;split at e
    .rename_i y ρ3 T3
     split at e
     .rename_i T4 row hT
      have eT:=qf hT;subst eT;cases e;refine⟨fun b=>O₀ b\/b=px,H2,[],ts++[px],fun b=>O₀ b\/b=px,_,T2,_,_,_,⟨XW,fun j u ej=>?_,fun _ h=>h,XW.own,.refl _ _,fun j xs a ej _=>?_,fun j l xs ys v' ej _ _ _=>?_,fun f hf=>absurd hf (by simp),by simp[rs.len]⟩,hE,?_⟩
      .by_cases z:i=j
       .subst z
        have hl:i<ρ.length:=by
         have:=(NS.mp ej).1;simpa using this
        rw[Oh hl] at ej;cases ej;exact⟨.ref px,by rw[Oh (by rw[rs.len];exact hl)],px,by rw[←Xy.len];simp,rfl⟩
       .rw[Oa z] at ej
        obtain⟨y',rfl⟩:=gH hp ej;obtain⟨x',k1,k2⟩:=Ay j _ ej;exact⟨x',by rw[Oa z];exact k1,Rep.mono F5 k2⟩
      .exfalso
       obtain⟨_,ej⟩:=eC (w:=.tp T1.length) (fun _ z=>by cases z) ej;obtain⟨_,z⟩:=gH hp ej;cases z
      .exfalso
       obtain⟨_,ej⟩:=eC (w:=.tp T1.length) (fun _ z=>by cases z) ej;obtain⟨_,z⟩:=gH hp ej;cases z
      .intro v' H3 s3 YK r3
       have lb:Le (fun b=>O₀ b\/b=px) H3 O₀ H3:=fun a o n e=>⟨fun z=>n (.inl z),e⟩
       have IA:ts.length=T'.length:=by have:=YK.len;simp at this;exact this
       refine q v' H3 (fun b o n eb=>?_) ⟨rs.ots,fun b hb=>YK.trk b (.inl hb),rs.hc.nd,IA,fun j b zs q1 q2=>?_⟩ (Rep.mono lb r3)
       .have Fx:=s1 b o n (rs.same b o n eb)
        have z1:b≠px:=bM Fx Bl;have z2:b≠dx:=bM Fx Iu
        have nb:b∉ts++[px]:=fun z=>by
         rcases Oz.mp z with z|z
         .exact n z
         .exact z1 (Od.mp z)
        exact s3 b o nb (s2 b o nb (by rw[U b z1 z2];exact Fx))
       .have hj:j<ts.length:=(NS.mp q1).1
        exact(YK.tape j b zs (by rw[N7 hj];exact q1) (by rw[N7 (by rw[←IA];exact hj)];exact q2)).mono (fun _ h=>h) lb
     .cases e
    .cases e
   .cases e
 .cases e
end
end D
namespace L2
section
variable {X:Cx}
theorem pB:∀(l:List (Str×Tok)),XC ((l.map (·.1)).map V.str) (Uu l)
 |[]=>.nil
 |p::r=>.cons ⟨p.2,rfl⟩ (pB r)
theorem zfq:Dl X "str.split" (fun x vs H Q=>∃z y:Str,x=.str z/\vs=[.str y]/\(y.length == 0)=false/\z.length+2<=NX/\∀l,H l=none->Q (.ref l) (upd H l (.lst ((Qx z y).map V.str)))):=by
 intro pins s σ H x vs v us Q I rx rv h;obtain⟨z,y,rfl,rfl,hy,hz,q⟩:=h;obtain⟨t,rfl⟩:=rx;obtain⟨u,rfl,ru⟩:=vals1 rv;obtain⟨t',rfl⟩:=ru
 have np:(P3 z (OM z y 0 z.length (z.length+1)) y.length).length<=sizeLine:=by
  have o1:=StrLaws.occ_length_le z y 0 z.length (z.length+1);rw[UE];omega
 have fin:∀(l:List (Str×Tok)) (k:Nat),l.map (·.1)=Qx z y->l.length<=NX->EP X pins σ Q (.ref s.heap.objs.size) { s with toks:=k,heap:=s.heap.push { cls:=.type "list",data:=.seq (Uu l).toArray } }:=fun l k e hl=>by
  have hn:((Qx z y).map V.str).length<=sizeLine:=by rw[←e];simpa using hl
  refine⟨.ref s.heap.objs.size,_,I.laid (t':=k) (fun b o w=>NQ _ w) (Of _) (show X7 X.prog X.w _ _ _ (.lst ((Qx z y).map V.str)) from⟨hn,Uu l,0,?_,Ox _ rfl⟩),rfl,q _ (I.hok.fresh (Of _))⟩;rw[←e];exact pB l
 cases c1:(decide (z.length<y.length)||decide (Pl z<Pl y))
 .cases c2:(OM z y 0 z.length (z.length+1)).isEmpty
  .refine QN Ph (QM _ _ _) PC (Rf _ _) (meets_str_split_sep z y t t' c1 hy c2 (by omega) np) ?_
   rw[strsFrom_eq];have e:(numbered s.toks _).map (·.1)=Qx z y:=(Uj s.toks _).trans ((if_neg (ne_true_of_eq_false c1)).trans (if_neg (ne_true_of_eq_false c2))).symm;refine fin (numbered s.toks _) _ e ?_;have e2:=congrArg SE (Uj s.toks (P3 z (OM z y 0 z.length (z.length+1)) y.length));rw[OY] at e2;rw[e2];exact np
  .exact QN Ph (QM _ _ _) PC (Rf _ _) (meets_str_split_not_found z y t t' c1 hy c2) (fin [(z,t)] s.toks ((if_neg (ne_true_of_eq_false c1)).trans (if_pos c2)).symm (by show 1<=NX;decide))
 .exact QN Ph (QM _ _ _) PC (Rf _ _) (meets_str_split_cannot_occur z y t t' c1) (fin [(z,t)] s.toks (if_pos c1).symm (by show 1<=NX;decide))
def eqT(y:Str):NO->Bool
 |.str a _=>a == y
 |_=>false
theorem vm:∀{xs:List V}{us:List NO}{i:Nat}{x:V},XC xs us->xs[i]? = some x->∃u,us[i]? = some u/\RelV x u
 |_,_,_,_,.nil,e=>by simp at e
 |_,_,0,_,.cons r _,e=>by simp at e;subst e;exact⟨_,rfl,r⟩
 |_,_,i+1,x,.cons _ t,e=>by
  obtain⟨u,h1,h2⟩:=vm (i:=i) (x:=x) t (by simpa using e);exact⟨u,by simpa using h1,h2⟩
theorem zfr:Dl X "list.index" (fun x vs H Q=>∃(a:Addr) (ys:List Str) (y:Str) (j:Nat),x=.ref a/\vs=[.str y]/\Y8 X.K H a (ys.map V.str)/\ys[j]? = some y/\(∀m,m<j->ys[m]?≠some y)/\Q (.int j) H):=by
 intro pins s σ H x vs v us Q I rx rv h;obtain⟨a,ys,y,j,rfl,rfl,hq,hj,Hv,q⟩:=h;cases rx;obtain⟨u,rfl,ru⟩:=vals1 rv;obtain⟨t',rfl⟩:=ru;obtain⟨Xx,Za,pl,hz⟩:=I.list hq
 have X4:ys.length=Xx.length:=by have:=Za.length;simpa using this
 have at_:∀m (h:m<Xx.length),∃t,Xx[m]=.str (ys[m]'(by omega)) t:=fun m h=>by
  obtain⟨u,k1,k2⟩:=vm Za (i:=m) (x:=.str (ys[m]'(by omega))) (by simp);rw[P2 h] at k1;cases k1;exact k2
 have ht:=pl.isList.typeIs;obtain⟨⟨c,d,dt,sl⟩,n,eo,hc,hd,hs⟩:=pl;dsimp only at hc hd hs;subst hc hd hs;have hjl:j<ys.length:=(NS.mp hj).1;have hjy:ys[j]=y:=(NS.mp hj).2
 have AU:(j:Int)<2^63-1:=by
  have h1:j<sizeLine:=N6 hjl (by simpa using hz)
  have h2:(NX:Int)<=2^63-1:=by decide
  omega
 refine QN S5 ht PySem.F.entry_list_index (PySem.F.args_list_index_2 _ _) (PySem.SeqAt.list_indexAt a Xx.toArray n none sl (.str y t') (eqT y) j (by simpa[←X4] using hjl) AU ?_ fun m hm hmj=>?_) ⟨eo,fun v hv=>?_,⟨.int j,H,I.tok _,⟨_,rfl⟩,q⟩⟩
 .obtain⟨t,k⟩:=at_ j (by omega)
  show eqT y Xx[j]=true;rw[k,hjy];exact beq_self_eq_true y
 .have Ef:m<Xx.length:=by simpa using hm
  obtain⟨t,k⟩:=at_ m Ef;show eqT y Xx[m]=false;rw[k];exact beq_false_of_ne fun z=>Hv m hmj (by rw[P2 (by omega),z])
 .obtain⟨m,hm,Aw⟩:=UD (show v∈Xx by simpa using hv)
  obtain⟨t,k⟩:=at_ m hm;rw[←Aw,k];exact WN _ t y t'
theorem zfs:Yk X (.type "str") (fun xs H Q=>∃x,xs=[.str x]/\Q (.str x) H):=by
 intro pins s σ H xs us Q I r h;obtain⟨x,rfl,q⟩:=h;obtain⟨u,rfl,t,rfl⟩:=vals1 r;exact PySem.P.str_of_str ⟨.str x,H,I,⟨t,rfl⟩,q⟩
end
end L2
namespace D
open L2
section
variable {X:Cx}{pos:Pos}
def dX:NN->NN->Option NN
 |.str z,.str y=>if (y.length == 0)=false/\z.length+2<=NX then some (.list ((Qx z y).map .str)) else none
 |_,_=>none
theorem mF(ho:DE X o fo)(he:DE X e fe)
  (YI:Pj o "split" X.env (eval o X.env)=eval o X.env:=by rfl)
  (Zv:((OO cpos (NR [e] X.env)).all (fun x=>!x.1)&&(PX cpos (O8 [] X.env)).all (fun x=>x.1.isSome)
   && decide (([e]:List Expr).length+([]:List PD).length+(if ([]:List PD).isEmpty then 0 else 1)<30))=true:=by exact kh rfl)
  (YH:(apos.endLine == cpos.line)=true:=by rfl) (Zk:NR [e] X.env=(false,eval e X.env)::NR [] X.env:=by exact bo rfl) (Yn:(OO cpos (NR [] X.env)).any (·.1)=false:=by exact bN rfl) :
  DE X (.Call (.Attribute o "split" apos) [e] [] cpos) (ah dX fo fe):=by
 refine⟨?_⟩;refine pe_imp (i5 Qf Ph Ts zfq ho.pe (bf he.pe bR Zk) YI Zv YH Zk Yn) fun σ H Q=>?_;rintro⟨O,ts,ρ,T,w,T',hc,re,e,q⟩;obtain⟨w1,T1,e1,e⟩:=aF e;obtain⟨w2,T2,e2,e⟩:=aF e;obtain⟨x,y,d,h1,h2,h3,rfl,rfl⟩:=ip e;unfold dX at h3;split at h3
 .rename_i z y
  split at h3
  .rename_i hz
   cases h3;cases pQ h1;refine⟨O,ts,ρ,T,_,T1,hc,re,e1,fun v1 H1 s1 Xy r1=>?_⟩;cases (show Rep X.K O H1 v1 _ from r1);refine⟨rfl,O,ts,ρ,T1,w2,T',Xy,re.mono hc s1,e2,fun v2 H2 s2 XW r2=>?_⟩;cases (XW.view r2 h2).str;exact⟨z,y,rfl,rfl,hz.1,hz.2,fun l hl=>q _ _ (s1.trans (s2.trans (.new hl _))) (XW.new hl _) (XW.newL hl (ma _))⟩
  .cases h3
 .cases h3
def fu(y:Str):List Str->Option Nat
 |[]=>none
 |x::r=>if x=y then some 0 else (fu y r).map (· + 1)
theorem v4:∀{ys:List Str}{j:Nat},fu y ys=some j->ys[j]? = some y/\∀m,m<j->ys[m]?≠some y
 |[],_,h=>by cases h
 |x::r,j,h=>by
  unfold fu at h;split at h
  .rename_i hx
   cases h;exact⟨by simp[hx],fun m hm=>absurd hm (PR _)⟩
  .rename_i hx
   obtain⟨i,h1,rfl⟩:=OD.mp h;obtain⟨k1,k2⟩:=v4 h1;refine⟨by simpa using k1,fun m hm=>?_⟩
   cases m with
   |zero=>simpa using hx
   |succ m=>simpa using k2 m (by omega)
def oW(xs:List NN)(w:W)(T:Tp):Option (W×Tp):=match w with
 | .d (.str y)=>(match dI xs with
  | some ys=>(match fu y ys with
   |some j=>some (.d (.int (j:Int)),T)
   | none=>none)
  | none=>none)
 |_=>none
def lZ(fo fe:FE):FE:=fun ρ T=>XI (fo ρ T) fun w T1=>match w with
 |.d (.list xs)=>XI (fe ρ T1) (oW xs)
 |_=>none
theorem va(ho:DE X o fo)(he:DE X e fe)
  (YI:Pj o "index" X.env (eval o X.env)=eval o X.env:=by rfl)
  (Zv:((OO cpos (NR [e] X.env)).all (fun x=>!x.1)&&(PX cpos (O8 [] X.env)).all (fun x=>x.1.isSome)
   && decide (([e]:List Expr).length+([]:List PD).length+(if ([]:List PD).isEmpty then 0 else 1)<30))=true:=by exact kh rfl)
  (YH:(apos.endLine == cpos.line)=true:=by rfl) (Zk:NR [e] X.env=(false,eval e X.env)::NR [] X.env:=by exact bo rfl) (Yn:(OO cpos (NR [] X.env)).any (·.1)=false:=by exact bN rfl) :
  DE X (.Call (.Attribute o "index" apos) [e] [] cpos) (lZ fo fe):=by
 refine⟨?_⟩;refine pe_imp (i5 S0 S5 PySem.F.type_list_index zfr ho.pe (bf he.pe bR Zk) YI Zv YH Zk Yn) fun σ H Q=>?_;rintro⟨O,ts,ρ,T,w,T',hc,re,e,q⟩;obtain⟨w1,T1,e1,e⟩:=aF e;split at e
 .rename_i xs
  obtain⟨w2,T2,e2,e⟩:=aF e;refine⟨O,ts,ρ,T,_,T1,hc,re,e1,fun v1 H1 s1 Xy r1=>?_⟩;obtain⟨a1,vs1,rfl,t1,q1⟩:=(Vw.rep (show Rep X.K O H1 v1 (.list xs) from r1)).lst;refine⟨.inl ⟨rfl,vs1,t1⟩,O,ts,ρ,T1,w2,T2,Xy,re.mono hc s1,e2,fun v2 H2 s2 XW r2=>?_⟩;have Hs:=Rep.mono (Xy.le s2) r1;obtain⟨a2,vs2,ea,t2,q2⟩:=(Vw.rep (show Rep X.K O H2 (.ref a1) (.list xs) from Hs)).lst;cases ea;unfold oW at e;split at e
  .rename_i y
   split at e
   .rename_i ss hs
    split at e
    .rename_i j h1
     cases e;obtain⟨k1,k2⟩:=v4 h1;rw[kM q2 hs] at t2;cases (show Rep X.K O H2 v2 _ from r2);exact⟨a1,ss,_,j,rfl,rfl,t2,k1,k2,q _ H2 (s1.trans s2) XW (.int _)⟩
    .cases e
   .cases e
  .cases e
 .cases e
def jg:List NN->Option NN
 |[.int i]=>if i.natAbs.log2<1920 then some (.str (toString i)) else none
 |[.str x]=>some (.str x)
 |_=>none
theorem yd:fU X (.type "str") jg:=⟨_,ZE.or zfs,fun O ts H T vs xs d Q hc h e q=>by
 unfold jg at e;split at e
 .split at e
  .rename_i hz
   cases e;obtain⟨v,rfl,g⟩:=dN h;cases g.int;exact .inl ⟨_,rfl,hz,q _ H (.refl _ _) hc (.str _)⟩
  .cases e
 .cases e
  obtain⟨v,rfl,g⟩:=dN h;cases g.str;exact .inr ⟨_,rfl,q _ H (.refl _ _) hc (.str _)⟩
 .cases e⟩
def rG(i:Nat)(ρ:XD)(x y:Option NN)(T:Tp):Option ((Fl×XD)×Tp):=match x,y with
 |some (.list xs),some (.list ys)=>if xs.length+ys.length<=NX then some ((.nx,ρ.set i (some (.loc (.list (xs++ys))))),T) else none
 |_,_=>none
def lP(i:Nat)(fa fb:FE):FS:=fun ρ T=>XI (fa ρ T) fun w1 T1=>XI (fb ρ T1) fun w2 T2=>rG i ρ (view T2 w1) (view T2 w2) T2
theorem zft(hN:X.N.Nodup)(ha:DE X a fa)(hb:DE X b fb)(hi:X.N[i]? = some x:=by rfl)(hx:Loc X.env.scope x:=by first|exact Qp rfl|exact PZ rfl)(hs:Pi (.BinOp a .Add b Hj) (some (.Name x pos')) pos.line X.env=pure false:=by rfl)
  (hf:X.fn x=true\/X.env.scope.names.lookup x=some .local:=by first|exact .inl rfl|exact .inr rfl|assumption):DS X (.Assign [.Name x pos'] (.BinOp a .Add b Hj) pos) (lP i fa fb):=by
 refine⟨?_⟩;refine dH (gR hN hi hx (rK vS ha.pe hb.pe) hs hf) fun D σ H=>?_;rintro⟨O₀,H₀,F,ts,O,ρ,T,fl,ρ',T',rs,e,q⟩;obtain⟨w1,T1,e1,e⟩:=aF e;obtain⟨w2,T2,e2,e⟩:=aF e;refine⟨O,ts,ρ,T,w1,T1,rs.hc,rs.re,e1,fun v1 H1 s1 Xy r1=>?_⟩;have Z4:=rs.step s1 Xy;refine⟨O,ts,ρ,T1,w2,T2,Xy,Z4.re,e2,fun v2 H2 s2 XW r2=>?_⟩;have El:=Z4.step s2 XW;unfold rG at e;split at e
 .rename_i xs ys h1 h2
  split at e
  .rename_i hz
   cases e;obtain⟨a1,vs,rfl,t1,q1⟩:=(XW.view (r1.mono Xy s2) h1).lst;obtain⟨b1,us,rfl,t2,q2⟩:=(XW.view r2 h2).lst;exact⟨a1,b1,vs,us,rfl,rfl,t1,t2,by rw[q1.length,q2.length];exact hz,fun p hp=>q _ _ _ (El.own hp (q1.append q2))⟩
  .cases e
 .cases e
structure Hu(P:NU)(w:N8)(K:Frag)(mg:Str->Option NO)(base:Heap)(C:Addr)(ps:List Str)(k:Nat)(sp:Sp):Prop where
 ex:∃f fd,Xz P w K mg base Yi k f fd ps sp/\L2.Binds K fd ps []/\Mk K C f
def sk(K:Frag)(C:Addr):Bool:=Q7 K C WR&&P7 K C&&SD K C&&(match Og K (.ref C) "__setattr__" with
 |some (some (.builtin s))=>s == "object.__setattr__"
 | _=>false)
theorem zfu{K:Frag}{C:Addr}(h:sk K C=true):zS K C:=by
 unfold sk at h;rw[NY,NY,NY] at h;obtain⟨⟨⟨h1,h2⟩,h3⟩,h4⟩:=h;refine⟨h1,h2,h3,?_⟩;split at h4
 .rename_i s e
  rw[e,beq_iff_eq.mp h4]
 .cases h4
def Ih(K:Frag)(C:Addr)(f:Str):Bool:=match Og K (.ref C) f with
 |some none=>true
 |_=>false
theorem rg{K:Frag}{C:Addr}{f:Str}(h:Ih K C f=true):Yz K C f:=by
 unfold Ih at h;split at h
 .rename_i e
  exact e
 .cases h
def AG(K:Frag)(C:Addr):Bool:=Tw K C&&OT K (.ref C)
structure Gi(K:Frag)(C:Addr)(name qual:Str)(st:Stmt):Prop where
 ex:∃(f:Addr) (oc:NO) (od an:Option Addr) (sl:Array (Option NO)) (kV dc pm cd ct:NO),Og K (.ref C) name=some (some (.ref f)) /\
  K.lookup f=some ⟨oc,od,.func (Pa name qual (dG st) (cX st) (aI st) .none kV dc pm an cd ct),sl⟩/\QI K cd qual=true/\OT K (.ref f)=true/\Qz K (.ref f)=true
theorem Hm{K:Frag}{C:Addr}{name qual:Str}{st:Stmt}{f:Addr}{oc:NO}{od an:Option Addr}{sl:Array (Option NO)}{kV dc pm cd ct:NO}(a:Og K (.ref C) name=some (some (.ref f)))
  (l:K.lookup f=some ⟨oc,od,.func (Pa name qual (dG st) (cX st) (aI st) .none kV dc pm an cd ct),sl⟩) (c:QI K cd qual=true) (k:OT K (.ref f)=true) (n:Qz K (.ref f)=true):Gi K C name qual st:=⟨f,oc,od,an,sl,kV,dc,pm,cd,ct,a,l,c,k,n⟩
theorem Gi.mth{P:NU}{w:N8}{K:Frag}{mg:Str->Option NO}{base:Heap}{C:Addr}{name qual:Str}{st:Stmt}{ps:List Str}{k:Nat}{sp:Sp}(d:Gi K C name qual st)
  (hb:∀(kV doc pm:NO) (an:Option Addr) (XF ct:NO) (us:List NO),us.length=ps.length->Sq (Pa name qual (dG st) (cX st) (aI st) .none kV doc pm an XF ct) ⟨us,[]⟩=pure (ps.zip us))
  (ok:∀f fd,Yd K name qual st f fd->Xz P w K mg base Yi k f fd ps sp):Cj P w K mg base C name ps k sp:=by
 obtain⟨f,oc,od,an,sl,kV,dc,pm,cd,ct,a,l,c,kp,fn⟩:=d.ex;have F:=ir (st:=st) l c kp;exact⟨f,_,ok f _ F,F.binds hb,⟨a,fn,kp⟩⟩
theorem Gi.ini{P:NU}{w:N8}{K:Frag}{mg:Str->Option NO}{base:Heap}{C:Addr}{qual:Str}{st:Stmt}{ps:List Str}{k:Nat}{sp:Sp}(d:Gi K C "__init__" qual st)(m:AG K C=true)
  (hb:∀(kV doc pm:NO) (an:Option Addr) (XF ct:NO) (us:List NO),us.length=ps.length->Sq (Pa "__init__" qual (dG st) (cX st) (aI st) .none kV doc pm an XF ct) ⟨us,[]⟩=pure (ps.zip us))
  (ok:∀f fd,Yd K "__init__" qual st f fd->Xz P w K mg base Yi k f fd ps sp):Hu P w K mg base C ps k sp:=by
 obtain⟨f,oc,od,an,sl,kV,dc,pm,cd,ct,a,l,c,kp,fn⟩:=d.ex;have F:=ir (st:=st) l c kp;unfold AG at m;rw[NY] at m;exact⟨f,_,ok f _ F,F.binds hb,⟨m.1,a,fn,m.2⟩⟩
theorem zfv{C:Addr}{e:Expr}{fe:FE}{fr:FS}{rest:List Stmt}{cn x:Str}{p pos' cpos:Pos}{ps:List Str}{k i:Nat}{m:Yh}(G:Hu X.prog X.w X.K X.mg X.base C ps k (XA X.K ps.length m))(hr:X0 (k+1) X.A)(hg:Gl X cn)(hm:X.mg cn=some (.ref C))(hN:X.N.Nodup)(he:DE X e fe)(ZA:C9 X rest fr)
  (h2:ps.length=2:=by rfl) (hi:X.N[i]? = some x:=by rfl) (hx:Loc X.env.scope x:=by first|exact Qp rfl|exact PZ rfl) (YN:(cn == ("__debug__" : Str))=false:=by decide)
  (Zk:NR [e] X.env=(false,eval e X.env)::NR [] X.env:=by exact bo rfl) (Yo:(OO cpos (NR [] X.env)).any (·.1)=false:=by exact bN rfl)
  (hs:Pi (.Call (.Name cn p) [e] [] cpos) (some (.Name x pos')) pos.line X.env=pure false:=by rfl) (hf:X.fn x=true\/X.env.scope.names.lookup x=some .local:=by first|exact .inl rfl|exact .inr rfl|assumption) :
  C9 X (.Assign [.Name x pos'] (.Call (.Name cn p) [e] [] cpos) pos::rest) (gY i C m fe fr):=by
 obtain⟨f,fd,F1,F2,M⟩:=G.ex;exact zfp M F1 F2 hr hg hm hN he ZA h2 hi hx YN Zk Yo hs hf
def lN(ds:List (NN×NN)):List PyData:=ds.map (·.1)
end
theorem zfw(h:Q (VA 4238894112) { s with toks:=s.toks+1 }):Oy (Os prog w) A (pyHash .none) Q E s:=by
 refine PySem.W.pyHash_slot  (by first|rfl|trivial|omega|omega) PySem.F.slot_NoneType_hash PySem.F.entry_NoneType_hash (PySem.F.args_NoneType_hash_1 _) rfl (.inl rfl) ?_;refine NT ?_;unfold slotArgs;refine Ou ?_;refine NT ?_
 first
  |exact wpAny_mkInt (Ou ⟨_,_,rfl,h⟩)
  |omega
def zy:Option Key->NO->Bool
 |none,.none=>true
 |none,_=>false
 |some k,v=>ja k v
def okH(w:N8):Option Key->Int
 |none=>VA 4238894112
 |some k=>zC w k
theorem fD(h:zy k v=true):(k=none/\v=.none)\/(∃i t,k=some (.inl i)/\v=.int i t)\/∃x t,k=some (.inr x)/\v=.str x t:=by
 cases k with
 |none=>cases v <;> first|exact .inl ⟨rfl,rfl⟩|cases h
 |some k=>
  rcases fB (h) with⟨i,t,rfl,rfl⟩|⟨x,t,rfl,rfl⟩
  .exact .inr (.inl ⟨i,t,rfl,rfl⟩)
  .exact .inr (.inr ⟨x,t,rfl,rfl⟩)
theorem u9(k:Key):decide ((none:Option Key)=some k)=false :=rfl
theorem uk(k:Key):decide (some k=(none:Option Key))=false :=rfl
theorem mE(a b:Key):decide (some a=some b)=decide (a=b) :=by simp
def vR(prog:NU)(w:N8):Wz prog w (Option Key) where
 is:=zy
 hash:=okH w
 inj:=fun v a b ha hb=>by
  rcases fD ha with⟨rfl,rfl⟩|⟨i,t,rfl,rfl⟩|⟨x,t,rfl,rfl⟩
  .rcases fD hb with⟨rfl,_⟩|⟨j,u,rfl,e⟩|⟨y,u,rfl,e⟩
   .rfl
   .exact nomatch e
   .exact nomatch e
  .rcases fD hb with⟨rfl,e⟩|⟨j,u,rfl,e⟩|⟨y,u,rfl,e⟩
   .exact nomatch e
   .injection e with e1 _;rw[e1]
   .exact nomatch e
  .rcases fD hb with⟨rfl,e⟩|⟨j,u,rfl,e⟩|⟨y,u,rfl,e⟩
   .exact nomatch e
   .exact nomatch e
   .injection e with e1 _;rw[e1]
 byValue:=fun k v h=>by
  rcases fD h with⟨rfl,rfl⟩|⟨i,t,rfl,rfl⟩|⟨x,t,rfl,rfl⟩ <;> rfl
 pyHash:=fun hv h=>by
  rcases fD hv with⟨rfl,rfl⟩|⟨i,t,rfl,rfl⟩|⟨x,t,rfl,rfl⟩
  .exact zfw h
  .exact Vo h
  .exact Vp h
 eqBool:=fun hu hv h=>by
  rcases fD hu with⟨rfl,rfl⟩|⟨i,t,rfl,rfl⟩|⟨x,t,rfl,rfl⟩
  .rcases fD hv with⟨rfl,rfl⟩|⟨j,u,rfl,rfl⟩|⟨y,u,rfl,rfl⟩
   .rw[show decide ((none:Option Key)=none)=true by simp] at h;exact VQ .none _ _ _ _ h
   .rw[u9] at h;exact Uy j u _ _ _ _ h
   .rw[u9] at h;exact Uz y u _ _ _ _ h
  .rcases fD hv with⟨rfl,rfl⟩|⟨j,u,rfl,rfl⟩|⟨y,u,rfl,rfl⟩
   .rw[uk] at h;exact UA i t _ _ _ _ h
   .rw[mE,zsj] at h;exact Vq h
   .rw[mE,zsl] at h;exact Sj i t y u _ _ _ _ h
  .rcases fD hv with⟨rfl,rfl⟩|⟨j,u,rfl,rfl⟩|⟨y,u,rfl,rfl⟩
   .rw[uk] at h;exact UB x t _ _ _ _ h
   .rw[mE,zsm] at h;exact Sk x t j u _ _ _ _ h
   .rw[mE,zsk] at h;exact Vr h
 «strs»:=fun k x t v h=>by
  rcases fD h with⟨rfl,e⟩|⟨i,u,rfl,e⟩|⟨y,u,rfl,e⟩
  .exact nomatch e
  .exact nomatch e
  .injection e with e1 _
   subst e1
   cases v <;> rfl
theorem tX:∀{es:List WV}{vs:List (Key×NO)},Pairs (cK P w) es vs->Pairs (vR P w) es (vs.map fun p=>(some p.1,p.2))
 |_,_,.nil=>.nil
 |_,_,.cons h1 h2 t=>.cons h1 h2 (tX t)
theorem zfx{h:Heap}{vs:List (Key×NO)}(d:h.DictOf (cK P w) a vs):h.DictOf (vR P w) a (vs.map fun p=>(some p.1,p.2)):=by
 obtain⟨o,es,ep,e1,e2,e3,e4,e5,e6⟩:=d;refine⟨o,es,ep,e1,e2,e3,fun e he=>?_,tX e5,?_⟩
 .obtain⟨k,k1,k2⟩:=e4 e he
  exact⟨some k,k1,k2⟩
 .rw[Pm]
  show (vs.map fun p=>some p.1).Nodup
  have:(vs.map fun p=>some p.1)=(vs.map (·.1)).map some:=by rw[Pm];rfl
  rw[this];exact Vf.mpr (Xu (fun h q=>h (Qc q)) e6)
theorem uA:∀(vs:List (Key×NO)),Tj (vs.map fun p=>((some p.1:Option Key),p.2)) none=none
 |[]=>rfl
 |p::r=>by
  have:=uA r
  unfold Tj at this ⊢<;>simp_all
section
variable {X:Cx}
theorem zfy:YQ X (OL .In) (fun x y H Q=>∃a kvs,x=.non/\y=.ref a/\Rd H a (.dK kvs)/\Q (.bl false) H):=by
 intro pins s σ H x y v u Q I rx ry h;obtain⟨a,kvs,rfl,rfl,e,q⟩:=h;cases (rx);cases (ry);obtain⟨z,hd,vs,rel,dd⟩:=g6 I.hok e;refine wpAny_in_of  (k:=none) rfl hd (zfx dd).mapOf ?_;rw[uA];exact⟨.bl _,H,I.tok _,rfl,q⟩
theorem zfz(hr:X0 k X.A):YQ X (OL .In) (fun x y H Q=>∃a kvs s,x=.str s/\y=.ref a/\Rd H a (.dK kvs)/\Q (.bl (bO kvs (PU s:Key)).isSome) H):=by
 intro pins s σ H x y v u Q I rx ry h;obtain⟨a,kvs,z,rfl,rfl,e,q⟩:=h;cases (ry);exact zdd (rP hr) I (G1.rd (k:=PU z) e) (rx) fun s' I'=>⟨.bl _,H,I',rfl,q⟩
theorem zga(hr:X0 k X.A):D8 X (fun x y H Q=>∃a kvs s v,x=.ref a/\y=.str s/\Rd H a (.dK kvs)/\bO kvs (PU s:Key)=some v/\Q v H):=by
 intro value slice pins s σ H x y v u Q I rx ry h hs;obtain⟨a,kvs,z,v0,rfl,rfl,e,l,q⟩:=h;cases (rx)
 have g:G1 H a (kV (PU z)) (some v0):=by rw[←l];exact G1.rd e
 refine NT ?_;refine NT (wpAny_specialOf (zdg I g) PySem.F.slot_dict_getitem.lookup ?_)
 have fin:Oy (Os X.prog X.w) X.A (VI slice false (Ol a) u) (fun r tY=>Oy (Os X.prog X.w) X.A (letTemporaryGo value (Ol a) r >>= fun _=>pure r) (EP X pins σ Q) X.xe tY) X.xe s:=by
  rw[hs];exact wpAny_operating (zdc (rP hr) I g (ry) fun w' s' I' Za=>NT (wpAny_letTemporaryGo (Ou ⟨v0,H,I',Za,q⟩)))
 first
  |exact Ou (NT fin)
  |omega
  |grind
def Ae(s:NN)(ds:List (NN×NN)):Option Bool:=match s with
 |.str s=>some (aN ds s).isSome
 |.none=>some false
 |_=>none
def inB(x y:NN):Option Bool:=match y with
 |.dict ds=>Ae x ds
 |y=>HR x y
def G8(x y:NN):Option PyData:=(inB x y).map .bool
def GS(x y:NN):Option PyData:=match x,y with
 |.str s,.dict ds=>some (.bool (!(aN ds s).isSome))
 |_,.dict _=>none
 |x,y=>(HR x y).map fun b=>.bool (!b)
theorem i7(hr:X0 k X.A):Z9 X (OL .In) G8:=⟨_,(B6.or zty).or ((zfz hr).or zfy),fun O ts H T v1 v2 x y d Q hc h1 h2 e q=>by
 by_cases hd:∃ds,y=.dict ds
 .obtain⟨ds,rfl⟩:=hd
  obtain⟨a,kvs,rfl,t,r⟩:=h2.dct;obtain⟨b,hb,rfl⟩:=OD.mp e;have C8:Ae x ds=some b:=hb;unfold Ae at C8;split at C8
  .rename_i s
   cases C8;cases h1.str;refine .inr (.inl ⟨a,kvs,s,rfl,rfl,t,?_⟩)
   have e:(bO kvs (PU s)).isSome=(aN ds s).isSome:=by
    rcases kG  r with⟨z1,z2⟩|⟨v,d,z1,z2,_⟩ <;> rw[z1,z2] <;> rfl
   rw[e];exact q _ H (.refl _ _) hc (.bl _)
  .cases C8
   cases h1.non;exact .inr (.inr ⟨a,kvs,rfl,rfl,t,q _ H (.refl _ _) hc (.bl _)⟩)
  .cases C8
 .have e':(HR x y).map .bool=some d:=by
   cases y with
   |dict ds=>exact absurd ⟨ds,rfl⟩ hd
   |_=>exact e
  exact .inl (qT false O ts H T v1 v2 x y d Q hc h1 h2 e' q)⟩
def GC(x y:NN):Option PyData:=match x,y with
 |.dict ds,.str s=>aN ds s
 |.dict _,_=>none
 |x,y=>Zx x y
theorem jX(hr:X0 k X.A):uv X GC:=by
 obtain⟨r0,h0,s0⟩:=aM;refine⟨_,h0.or (zga hr),fun O ts H T v1 v2 x y d Q hc h1 h2 e q=>?_⟩
 by_cases hd:∃ds,x=.dict ds
 .obtain⟨ds,rfl⟩:=hd
  obtain⟨a,kvs,rfl,t,r⟩:=h1.dct
  cases y with
  |str s=>
   have e':aN ds s=some d:=e;cases h2.str
   rcases kG (s:=s) r with⟨z1,z2⟩|⟨v,d',z1,z2,rv⟩
   .simp_all
   .rw[z1] at e'
    cases e';exact .inr ⟨a,kvs,s,v,rfl,rfl,t,z2,q _ H (.refl _ _) hc rv⟩
  |_=>cases e
 .refine .inl (s0 O ts H T v1 v2 x y d Q hc h1 h2 ?_ q)
  cases x with
  |dict ds=>exact absurd ⟨ds,rfl⟩ hd
  |_=>exact e
end
inductive Ln(P:Hp->VK->Prop):Hp->VK->Prop where
 |done {H:Hp}{Q:VK}:P H Q->Ln P H Q
 |frz {H:Hp}{Q:VK}{a:Addr}{kvs:List (Key×V)}:H a=some (.dK kvs)->(∀o,Ln P (upd H a (.frz o (.dK kvs))) (fun v H2=>H2 a=some (.frz o (.dK kvs))/\Q v (upd H2 a (.dK kvs))))->Ln P H Q
section
variable {K:Frag}
theorem TupAt.keep(h:∀b o,H b=some o->(∀ks,o≠.dK ks)->(∀ob ks,o≠.frz ob (.dK ks))->H' b=some o)(t:TupAt K (fun _=>False) H a vs):TupAt K (fun _=>False) H' a vs:=by
 rcases t with⟨n,t|⟨o,t⟩⟩|t
 .exact .inl ⟨n,.inl (h _ _ t (fun _ z=>nomatch z) (fun _ _ z=>nomatch z))⟩
 .exact .inl ⟨n,.inr ⟨o,h _ _ t (fun _ z=>nomatch z) (fun _ _ z=>nomatch z)⟩⟩
 .exact .inr t
mutual
theorem Rep.keep{H H':Hp}(h:∀b o,H b=some o->(∀ks,o≠.dK ks)->(∀ob ks,o≠.frz ob (.dK ks))->H' b=some o):∀{v:V}{d:NN},Rep K (fun _=>False) H v d->ka d=true->Rep K (fun _=>False) H' v d
 |_,_,.non,_=>.non
 |_,_,.bl b,_=>.bl b
 |_,_,.int i,_=>.int i
 |_,_,.str x,_=>.str x
 |_,_,.tup t r,e=>.tup (t.keep h) (XH.keep h r (by simpa[ka] using e))
 |_,_,.lst t r,e=>by simp[ka] at e
 |_,_,.dct n t r,e=>by simp[ka] at e
theorem XH.keep{H H':Hp}(h:∀b o,H b=some o->(∀ks,o≠.dK ks)->(∀ob ks,o≠.frz ob (.dK ks))->H' b=some o):∀{vs:List V}{ds:List NN},XH K (fun _=>False) H vs ds->lG ds=true->XH K (fun _=>False) H' vs ds
 |_,_,.nil,_=>.nil
 |_,_,.cons (d:=d) (ds:=ds) r t,e=>by
  have e':(ka d&&lG ds)=true:=by simpa[lG] using e
  rw[NY] at e';exact .cons (Rep.keep h r e'.1) (XH.keep h t e'.2)
end
end
section
variable {X:Cx}{pos:Pos}{e:Expr}{fe:FE}
def fq(i:Nat):FS:=fun ρ T=>some ((.nx,ρ.set i (some (.loc (.dict [])))),T)
theorem jM(hN:X.N.Nodup)(hi:X.N[i]? = some x:=by rfl)(hx:Loc X.env.scope x:=by first|exact Qp rfl|exact PZ rfl)
  (hs:Pi (.Dict [] [] Hb) (some (.Name x pos')) pos.line X.env=pure false:=by rfl) (hf:X.fn x=true\/X.env.scope.names.lookup x=some .local:=by first|exact .inl rfl|exact .inr rfl|assumption):DS X (.Assign [.Name x pos'] (.Dict [] [] Hb) pos) (fq i):=by
 refine⟨?_⟩;refine dH (gR hN hi hx zdj hs hf) fun D σ H=>?_;rintro⟨O₀,H₀,F,ts,O,ρ,T,fl,ρ',T',rs,e,q⟩;cases e;intro p hp;exact q _ _ _ (rs.ownO hp (.inr (.inl ⟨_,rfl⟩)) fun le=>⟨[],bu,.nil⟩)
theorem zgb:Yk X (.type "dict") (fun xs H Q=>∃a kvs,xs=[V.ref a]/\Rd H a (.dK kvs)/\∀p,H p=none->Q (.ref p) (upd H p (.dK kvs))):=by
 intro pins s σ H xs us Q I r h;obtain⟨a,kvs,rfl,ha,q⟩:=h;obtain⟨u,rfl,ru⟩:=vals1 r;cases ru;exact zdk I ha fun p s' hp I'=>⟨.ref p,_,I',rfl,q p hp⟩
def jq(o:Option NN):Option (List (NN×NN)):=match o with
 |some (.dict ds)=>some ds
 |_=>none
def qU(i:Nat)(ρ:XD)(o:Option (List (NN×NN)))(T:Tp):Option ((Fl×XD)×Tp):=match o with
 |some ds=>some ((.nx,ρ.set i (some (.loc (.dict ds)))),T)
 |none=>none
def Hc(i:Nat)(f:FE):FS:=fun ρ T=>XI (f ρ T) fun w T1=>qU i ρ (jq (view T1 w)) T1
theorem zgc(h:jq o=some ds):o=some (.dict ds):=by
 unfold jq at h
 split at h<;>simp_all
def oy(o:Option (List (NN×NN)))(T:Tp):Option (W×Tp):=match o with
 |some ds=>some (.d (.dict ds),T)
 |none=>none
def j7(f:FE):FE:=fun ρ T=>XI (f ρ T) fun w T1=>oy (jq (view T1 w)) T1
theorem wA(hm:X.mg "dict"=none)(he:DE X e fe)(hg:Gl X "dict":=by rfl)
  (Zk:NR [e] X.env=(false,eval e X.env)::NR [] X.env:=by exact bo rfl) (Yo:(OO cpos (NR [] X.env)).any (·.1)=false:=by exact bN rfl):DE X (.Call (.Name "dict" p) [e] [] cpos) (j7 fe):=by
 refine⟨?_⟩;refine pe_imp (zeb (pH zgb hg hm WW (bf he.pe bR Zk) (by decide) (by decide) Zk Yo)) fun σ H Q=>?_;rintro⟨O,ts,ρ,T,w,T',hc,re,e,q⟩;obtain⟨w1,T1,e1,e⟩:=aF e;unfold oy at e;split at e
 .rename_i ds hd
  cases e;have hv:=zgc hd;refine⟨O,ts,ρ,T,w1,T',hc,re,e1,fun v H1 s1 Xy r1=>?_⟩;obtain⟨a,kvs,rfl,t,r⟩:=(Xy.view r1 hv).dct;refine⟨a,kvs,rfl,t,fun p hp=>.frz bu fun o=>.done ?_⟩;rw[zae];exact q _ _ (s1.trans (.new hp _)) (Xy.new hp _) (.dct (Xy.fresh hp) bu (r.mono (Xy.leNew hp _)))
 .cases e
def putN(ds:List (NN×NN))(s:Str)(x:NN):List (NN×NN):=if (aN ds s).isSome=true then eI ds s x else ds++[(.str s,x)]
theorem Yt.app{K:Frag}{O:Addr->Prop}{H:Hp}{s:Str}{v:V}{x:NN}(rx:Rep K O H v x):∀{kvs:List (Key×V)}{ds:List (NN×NN)},Yt K O H kvs ds->Yt K O H (kvs++[(PU s,v)]) (ds++[(.str s,x)])
 |_,_,.nil=>.cons  rx .nil
 |_,_,.cons r t=>.cons r (Yt.app rx t)
theorem zgd{K:Frag}{O:Addr->Prop}{H:Hp}{s:Str}{v:V}{x:NN}(rx:Rep K O H v x){kvs:List (Key×V)}{ds:List (NN×NN)}(r:Yt K O H kvs ds):Yt K O H (putK kvs (PU s) v) (putN ds s x):=by
 unfold putN
 rcases kG  r with⟨z1,z2⟩|⟨v',d',z1,z2,_⟩
 .rw[z1,zcz v z2]
  exact r.app rx
 .rw[z1]
  have vd:=zfm (by rw[z2];rfl);unfold putK;rw[if_pos vd];exact pG rx r
def oj(i:Nat)(ρ:XD)(ds:List (NN×NN))(w k:W)(T:Tp):Option ((Fl×XD)×Tp):=match w,k with
 |.d x,.d (.str s)=>if ds.length<=1000 then some ((.nx,ρ.set i (some (.loc (.dict (putN ds s x))))),T) else none
 |_,_=>none
def oi(i:Nat)(fk:FE)(ρ:XD)(w:W)(T:Tp)(o:Option (Option W)):Option ((Fl×XD)×Tp):=match o with
 |some (some (.loc (.dict ds)))=>XI (fk ρ T) (oj i ρ ds w)
 |_=>none
def j6(i:Nat)(fk fv:FE):FS:=fun ρ T=>XI (fv ρ T) fun w T1=>oi i fk ρ w T1 ρ[i]?
theorem jN(hr:X0 k X.A)(hk:DE X kx fk)(he:DE X e fv)(hN:X.N[i]? = some x:=by rfl)(hv:Dt X.env.scope x:=by first|exact Qp rfl|exact PZ (Qp rfl)|exact PZ (PZ rfl))(hd:(x == ("__debug__" : Str))=false:=by decide)
  (hcd:(x == ("__classdict__" : Str))=false:=by decide) (hs:Pi e (some (.Subscript (.Name x p) kx pos')) pos.line X.env=pure false:=by rfl):DS X (.Assign [.Subscript (.Name x p) kx pos'] e pos) (j6 i fk fv):=by
 refine⟨?_⟩;refine dH (zdh (rP hr) (pv i hN hv hd hcd) hk.pe he.pe hs) fun D σ H=>?_;rintro⟨O₀,H₀,F,ts,O,ρ,T,fl,ρ',T',rs,e,q⟩;obtain⟨w,T1,e1,e⟩:=aF e;refine⟨O,ts,ρ,T,w,T1,rs.hc,rs.re,e1,fun v H1 s1 Xy r1=>?_⟩;have Z4:=rs.step s1 Xy;unfold oi at e;split at e
 .rename_i ds c3
  obtain⟨wk,T3,e3,e⟩:=aF e;unfold oj at e;split at e
  .rename_i xv s _
   split at e
   .rename_i c2
    cases e;obtain⟨u,k1,a,rfl,k2,k3,kvs,k4,k5⟩:=Z4.re i _ c3;refine⟨_,k1,O,ts,ρ,T1,_,_,Z4.hc,Z4.re,e3,fun y H3 s3 YK r3=>?_⟩;have Zb:=Z4.step s3 YK;cases (show Rep X.K O H3 y (.str s) from r3);have k4':H3 a=some (.dK kvs):=s3 _ _ k3 k4;have Av:Yt X.K O H3 kvs ds:=k5.mono (Xy.le s3)
    have X4:kvs.length<sizeLine:=by
     rw[uN Av];exact Rm c2 (by decide)
    have rx:Rep X.K O H3 v xv:=ZK.mono (w:=.d xv) r1 Xy s3;refine⟨a,_,rfl,Ft.k (k:=(PU s:Key)) k4' X4,?_⟩;exact q O σ _ (Zb.putO c3 k1 (.inr (.inl ⟨_,rfl⟩)) fun le=>⟨_,bu,zgd (Rep.mono le rx) (Av.mono le)⟩)
   .cases e
  .cases e
 .cases e
end
def rQ(n:Nat):W->Option W
 |.tp k=>if k<n then some (.tp k) else none
 |w=>some w
def g0(n:Nat)(ρ:XD):XD:=ρ.map fun o=>o.bind (rQ n)
def jK(n:Nat)(o:Option ((Fl×XD)×Tp)):Option ((Fl×XD)×Tp):=match o with
 | some ((fl,ρ'),T3)=>(match gW T3 with
  |some (T4,_)=>if T4.length=n then some ((fl,g0 n ρ'),T4) else none
  | none=>none)
 |none=>none
def openK(i:Nat)(fr:FS)(ρ:XD)(o:Option (List NN))(T1:Tp):Option ((Fl×XD)×Tp):=match o with
 |some xs=>if xs.length<=1000 then jK T1.length (fr (ρ.set i (some (.tp T1.length))) (T1++[xs])) else none
 |none=>none
def iu(i:Nat)(g:FA)(fr:FS):FS:=fun ρ T=>XI (g ρ T) fun ws T1=>openK i fr ρ (eP ws) T1
section
variable {K:Frag}{O₀:Addr->Prop}{H₀:Hp}{F:List ((Addr->Prop)×Hp)}{ts:List Addr}{O:Addr->Prop}{H:Hp}{σ:L2.St}{ρ:XD}{T:Tp}{X:Cx}{pos:Pos}{rest:List Stmt}{fr:FS}
theorem RS.openR(r:RS K O₀ H₀ F ts O H σ ρ T)(hp:H p=none)(rv:XH K O H vs xs) :
  RS K (fun b=>O₀ b\/b=p) H₀ F (ts++[p]) (fun b=>O b\/b=p) (upd H p (.lst vs)) (σ.set i (some (.ref p))) (ρ.set i (some (.tp T.length))) (T++[xs]):=by
 have nO:=r.hc.fresh hp;have nt:p∉ts:=fun z=>nO (r.hc.own _ z)
 have le:Le O H (fun b=>O b\/b=p) (upd H p (.lst vs)):=fun a o n e=>by
  have z1:a≠p:=bM e hp;exact⟨fun q=>q.elim n z1,by rw[aX z1];exact e⟩
 have hw:∀ys,W.tp T.length≠.loc ys:=fun _ z=>nomatch z
 refine⟨⟨fun b hb=>?_,fun b hb=>?_,?_,by simp[r.hc.len],fun j b zs q1 q2=>?_⟩,fun j w e=>?_,fun b hb=>hb.elim (fun z=>.inl (r.sub b z)) .inr,fun b hb=>?_,fun b o n e=>?_,fun j xs a e1 e2=>?_,fun j k xs ys v e1 e2 e3 e4=>?_,fun f hf=>(r.frs f hf).trans le,by simp[r.len]⟩
 .rcases Oz.mp hb with z|z
  .exact .inl (r.hc.own b z)
  .exact .inr (Od.mp z)
 .by_cases z:b=p
  .rw[z,bu];exact .inl ⟨_,rfl⟩
  .rw[aX z];exact r.hc.trk b (hb.resolve_right z)
 .rw[Pv]
  exact⟨r.hc.nd,by simp,fun b hb c hc z=>nt (by rw[←Od.mp hc,←z];exact hb)⟩
 .by_cases hj:j<ts.length
  .rw[N7 hj] at q1
   rw[N7 (by rw[←r.hc.len];exact hj)] at q2;exact(r.hc.tape j b zs q1 q2).mono (fun o h1=>by rw[aX (bM h1 hp)];exact h1) le
  .have EQ:j=ts.length:=by
    have:=(NS.mp q1).1;simp at this;omega
   subst EQ
   have e1:b=p:=by simpa using q1.symm
   have e2:zs=xs:=by rw[r.hc.len] at q2;simpa using q2.symm
   subst e1 e2;exact .inl ⟨rv.notO,vs,bu,rv.mono le⟩
 .by_cases z:i=j
  .subst z
   have hl:i<ρ.length:=by
    have:=(NS.mp e).1;simpa using this
   rw[Oh hl] at e;cases e;exact⟨.ref p,by rw[Oh (by rw[r.len];exact hl)],p,by rw[←r.hc.len];simp,rfl⟩
  .rw[Oa z] at e
   obtain⟨x,h1,h2⟩:=r.re j w e;refine⟨x,by rw[Oa z];exact h1,?_⟩
   cases w with
   |d y=>exact Rep.mono le h2
   |tp k=>
    obtain⟨a,k1,k2⟩:=h2;exact⟨a,by rw[N7 (NS.mp k1).1];exact k1,k2⟩
   |loc ys=>
    obtain⟨a,e1,m1,m2,m3⟩:=h2;have na:a≠p:=fun z=>nO (z ▸ m1);refine⟨a,e1,.inl m1,fun z=>?_,m3.mono (fun o' q=>by rw[aX na];exact q) le⟩
    rcases Oz.mp z with z|z
    .exact m2 z
    .exact na (Od.mp z)
 .rcases Oz.mp hb with z|z
  .exact .inl (r.ots b z)
  .exact .inr (Od.mp z)
 .have nb:b∉ts:=fun z=>n (OR _ z)
  have e1:=r.same b o nb e;rw[aX (bM e1 hp)];exact e1
 .obtain⟨n,e⟩:=eC hw e1
  rw[Oa (PV n)] at e2;obtain⟨f1,f2⟩:=r.fresh j xs a e e2;refine⟨f1,fun z=>z.elim f2 fun z=>?_⟩;obtain⟨v,h1,a',ea,m1,_⟩:=r.re j _ e;rw[e2] at h1;cases h1;cases ea;exact nO (z ▸ m1)
 .obtain⟨n1,e1⟩:=eC hw e1
  obtain⟨n2,e2⟩:=eC hw e2;rw[Oa (PV n1)] at e3;rw[Oa (PV n2)] at e4;exact r.dist j k xs ys v e1 e2 e3 e4
theorem RS.closeR(ots:∀b∈ts,O₀ b)(nt:p∉ts)(h0:H₀ p=none)(n0:¬O₀ p)(r:RS K (fun b=>O₀ b\/b=p) H₀ F (ts++[p]) O H σ ρ (T++[row])):RS K O₀ H₀ F ts O H σ (g0 T.length ρ) T:=by
 have IA:ts.length=T.length:=by have:=r.hc.len;simp at this;exact this
 have at_:∀{j:Nat}{w:W},(g0 T.length ρ)[j]? = some (some w)->ρ[j]? = some (some w)/\∀k,w=.tp k->k<T.length:=fun {j w} e=>by
  unfold g0 at e;rw[Pt] at e
  cases hu:ρ[j]? with
  |none=>rw[hu] at e;cases e
  |some u=>
   cases u with
   |none=>rw[hu] at e;cases e
   |some u=>
    rw[hu] at e;have e':rQ T.length u=some w:=Qc e
    cases u with
    |d x=>cases e';exact⟨rfl,fun k z=>nomatch z⟩
    |loc x=>cases e';exact⟨rfl,fun k z=>nomatch z⟩
    |tp k=>
     have e2:(if k<T.length then some (W.tp k) else none)=some w:=e';split at e2
     .rename_i hk
      cases e2;exact⟨rfl,fun k' z=>by cases z;exact hk⟩
     .cases e2
 refine⟨⟨fun b hb=>r.hc.own b (OR _ hb),r.hc.trk,(Pv.mp r.hc.nd).1,IA,fun j b zs q1 q2=>?_⟩,fun j w e=>?_,fun b hb=>r.sub b (.inl hb),ots,fun b o n e=>?_,fun j xs a e1 e2=>?_,fun j k xs ys v e1 e2 e3 e4=>?_,r.frs,by simp[g0,r.len]⟩
 .have hj:j<ts.length:=(NS.mp q1).1
  exact r.hc.tape j b zs (by rw[N7 hj];exact q1) (by rw[N7 (by rw[←IA];exact hj)];exact q2)
 .obtain⟨e1,hk⟩:=at_ e
  obtain⟨v,h1,h2⟩:=r.re j w e1;refine⟨v,h1,?_⟩
  cases w with
  |d x=>exact h2
  |tp k=>
   obtain⟨a,k1,k2⟩:=h2;have:=hk k rfl;exact⟨a,by rw[N7 (by rw[IA];exact this)] at k1;exact k1,k2⟩
  |loc x=>
   obtain⟨a,k1,k2,k3,k4⟩:=h2;exact⟨a,k1,k2,fun z=>k3 (OR _ z),k4⟩
 .refine r.same b o (fun z=>?_) e<;>simp_all
 .obtain⟨f1,f2⟩:=r.fresh j xs a (at_ e1).1 e2
  exact⟨f1,fun z=>f2 (.inl z)⟩
 .exact r.dist j k xs ys v (at_ e1).1 (at_ e2).1 e3 e4
theorem zge
  (rs:RS X.K O₀ H₀ F ts O H σ ρ T) (hp:H p=none) (rv:XH X.K O H vs xs) (e:jK T.length (fr (ρ.set i (some (.tp T.length))) (T++[xs]))=some ((fl,ρ'),T')) (q:y8 X.K O₀ H₀ F ts D ρ' T' fl):oo X.K fr D (σ.set i (some (.ref p))) (upd H p (.lst vs)):=by
 have nO:=rs.hc.fresh hp;have nt:p∉ts:=fun z=>nO (rs.hc.own _ z)
 have h0:H₀ p=none:=by
  cases e:H₀ p with
  |none=>rfl
  |some o=>rw[rs.same p o nt e] at hp;cases hp
 have n0:¬O₀ p:=fun z=>nO (rs.sub p z);have Z4:=rs.openR (i:=i) hp rv;generalize hE:fr (ρ.set i (some (.tp T.length))) (T++[xs])=E at e;unfold jK at e;split at e
 .rename_i EG Yc T3
  split at e
  .rename_i T4 row hT
   split at e
   .rename_i X4
    have eT:=qf hT;subst eT;cases e;have lb:∀{G:Hp},Le (fun b=>O₀ b\/b=p) G O₀ G:=fun a o n e=>⟨fun z=>n (.inl z),e⟩
    have EN:∀{G:Hp}{B:Addr->Prop},HC X.K B (ts++[p]) G (T'++[row])->ts.length=T'.length:=fun h=>by have:=h.len;simp at this;exact this
    have FR:∀{G:Hp},XQ (ts++[p]) H₀ G->XQ ts H₀ G:=fun s b o n e=>s b o (fun z=>by simp_all) e;refine⟨_,H₀,F,ts++[p],_,_,_,fl,Yc,T'++[row],Z4,hE,?_⟩;have FN:T.length=T'.length:=X4.symm
    cases fl with
    |nx=>exact fun O' σ' H' r=>q O' σ' H' (by rw[FN];exact RS.closeR rs.ots nt h0 n0 r)
    |bk=>exact fun O' σ' H' r=>q O' σ' H' (by rw[FN];exact RS.closeR rs.ots nt h0 n0 r)
    |ct=>exact fun O' σ' H' r=>q O' σ' H' (by rw[FN];exact RS.closeR rs.ots nt h0 n0 r)
    |rt y=>
     intro v H' s1 c1 r1;refine q v H' (FR s1) ⟨rs.ots,fun b hb=>c1.trk b (.inl hb),rs.hc.nd,EN c1,fun j b zs q1 q2=>?_⟩ (Rep.mono lb r1);have hj:j<ts.length:=(NS.mp q1).1;exact(c1.tape j b zs (by rw[N7 hj];exact q1) (by rw[N7 (by rw[←EN c1];exact hj)];exact q2)).mono (fun _ h=>h) lb
    |ro y=>
     intro A v H' s1 hA c1 o1;have lb2:Le (fun b=>(O₀ b\/b=p)\/A b) H' (fun b=>O₀ b\/A b) H':=fun b o n e=>⟨fun z=>n (z.elim (fun z=>.inl (.inl z)) .inr),e⟩;refine q A v H' (FR s1) (fun b hb=>⟨(hA b hb).1,fun z=>(hA b hb).2 (.inl z)⟩) ⟨fun b hb=>.inl (rs.ots b hb),fun b hb=>c1.trk b (hb.elim (fun z=>.inl (.inl z)) .inr),rs.hc.nd,EN c1,fun j b zs q1 q2=>?_⟩ (D4.mono lb2 o1);have hj:j<ts.length:=(NS.mp q1).1;exact(c1.tape j b zs (by rw[N7 hj];exact q1) (by rw[N7 (by rw[←EN c1];exact hj)];exact q2)).mono (fun _ h=>h) lb2
   .cases e
  .cases e
 .cases e
theorem mn(hN:X.N.Nodup)(he:DA X es g)(ZA:C9 X rest fr)(hi:X.N[i]? = some x:=by rfl)(hx:Loc X.env.scope x:=by first|exact Qp rfl|exact PZ rfl)
  (hs:Pi (.List es Dw) (some (.Name x pos')) pos.line X.env=pure false:=by rfl) (hf:X.fn x=true\/X.env.scope.names.lookup x=some .local:=by first|exact .inl rfl|exact .inr rfl|assumption):C9 X (.Assign [.Name x pos'] (.List es Dw) pos::rest) (iu i g fr):=by
 refine⟨?_⟩;refine eW (dF (gR hN hi hx (lg he.pe) hs hf) ZA.pe) fun D σ H=>?_;rintro⟨O₀,H₀,F,ts,O,ρ,T,fl,ρ',T',rs,e,q⟩;obtain⟨ws,T1,e1,e⟩:=aF e;refine⟨O,ts,ρ,T,ws,T1,rs.hc,rs.re,e1,fun vs H1 s1 Xy r1=>?_⟩;unfold openK at e;split at e
 .rename_i xs h1
  split at e
  .rename_i h2
   have rv:=kI r1 h1;exact⟨mU (by rw[rv.length];exact h2),fun p hp=>zge (rs.step s1 Xy) hp rv e q⟩
  .cases e
 .cases e
def fX(k:Kd):Bool:=decide (k=.tup)||decide (k=.lst)
theorem i9(K:Frag)(a:Kd):Q2 K (.type a.name) [.type "tuple",.type "list"]=some (fX a):=by
 have h1:=gN a .tup (by decide);have h2:=gN a .lst (by decide);have e1:Pc K _ (.type "tuple")=some _:=h1;have e2:Pc K _ (.type "list")=some _:=h2
 cases a <;> (simp only[Q2,e1,e2];rfl)
theorem zgf:Yk X (.builtin "isinstance") (fun xs H Q=>∃(x:V) (tp:Addr) (O:Addr->Prop) (d:NN),xs=[x,.ref tp]/\Vw X.K O H x d/\H tp=some (.tup [.ty "tuple",.ty "list"])/\Q (.bl (fX (kd d))) H):=by
 intro pins s σ H xs us Q I r h;obtain⟨x,tp,O,d,rfl,vw,ht,q⟩:=h;obtain⟨u,w',rfl,ru,Za⟩:=vals2 r;cases (show w'=Ol tp from Za);have fin:∀tk,EP X pins σ Q (.bool (fX (kd d))) { s with toks:=tk }:=fun tk=>⟨.bl _,H,I.tok _,rfl,q⟩;obtain⟨_,Xx,rv,⟨dd,c,n,sl⟩,e0,e1,m,e2⟩:=(I.hok tp _ ht);obtain⟨u1,u2,rfl,r1,r2⟩:=vals2 rv;cases (r1);cases (r2);dsimp only at e1 e2;subst e1 e2
 cases d with
 |none=>cases vw.non;cases (show u=PH from ru);exact Qd U4 I.kIn PL e0 (i9 X.K .non) (fun z=>nomatch z) fin
 |bool b=>cases vw.bl;cases (show u=S9 b from ru);exact Qd U5 I.kIn PL e0 (i9 X.K .bl) (fun z=>nomatch z) fin
 |int i=>cases vw.int;obtain⟨t,e⟩:=(ru);cases e;exact Qd Vu I.kIn PL e0 (i9 X.K .int) (fun z=>nomatch z) fin
 |str z=>cases vw.str;obtain⟨t,e⟩:=(ru);cases e;exact Qd Vv I.kIn PL e0 (i9 X.K .str) (fun z=>nomatch z) fin
 |list ds=>
  obtain⟨a,vs,rfl,t,r⟩:=vw.lst;cases (show u=Ol a from ru);obtain⟨Xx,_,pl,_⟩:=I.list t;obtain⟨o,n,e,c1,_⟩:=pl;exact Qd Rx I.kIn ⟨o,e,c1⟩ e0 (i9 X.K .lst) (fun z=>nomatch z) fin
 |tuple ds=>
  obtain⟨a,vs,rfl,t,r⟩:=vw.tup;cases (show u=Ol a from ru);obtain⟨Xx,_,pl,_⟩:=I.tuple t.sq;obtain⟨o,e,c1,_⟩:=pl;exact Qd So I.kIn ⟨o,e,c1⟩ e0 (i9 X.K .tup) (fun z=>nomatch z) fin
 |dict ds=>
  obtain⟨a,vs,rfl,t,r⟩:=vw.dct;cases (show u=Ol a from ru);obtain⟨_,_,_,_,o,_,_,e,c1,_⟩:=g6 I.hok t;exact Qd Ry I.kIn ⟨o,e,c1.1⟩ e0 (i9 X.K .dct) (fun z=>nomatch z) fin
def gX(x:NN):Option PyData:=some (.bool (fX (kd x)))
theorem zgg(hi:X.mg "isinstance"=none)(he:DE X e f)(hm1:X.mg "tuple"=none)(Ey:X.mg "list"=none)(hg:Gl X "isinstance":=by rfl)(hT1:Gl X "tuple":=by rfl)(hT2:Gl X "list":=by rfl)
  (hs:NR [e,.Tuple [.Name "tuple" p1,.Name "list" p2] k Yl] X.env=(false,eval e X.env)::NR [.Tuple [.Name "tuple" p1,.Name "list" p2] k Yl] X.env:=by exact bo rfl)
  (Zy:NR [.Tuple [.Name "tuple" p1,.Name "list" p2] k Yl] X.env=(false,eval (.Tuple [.Name "tuple" p1,.Name "list" p2] k Yl) X.env)::NR [] X.env:=by exact bo rfl)
  (hs3:NR [.Name "tuple" p1,.Name "list" p2] X.env=(false,eval (.Name "tuple" p1) X.env)::NR [.Name "list" p2] X.env:=by exact bo rfl) (hs4:NR [.Name "list" p2] X.env=(false,eval (.Name "list" p2) X.env)::NR [] X.env:=by exact bo rfl)
  (Yo:(OO pos (NR [.Tuple [.Name "tuple" p1,.Name "list" p2] k Yl] X.env)).any (·.1)=false:=by exact bN rfl) :
  DE X (.Call (.Name "isinstance" p') [e,.Tuple [.Name "tuple" p1,.Name "list" p2] k Yl] [] pos) (YO gX f):=by
 refine⟨?_⟩;refine pe_imp (jF zgf hg hi Px (bf he.pe (bf (nG (bf (mP (v:=.ty "tuple") hT1 hm1 Qr rfl) (bf (mP (v:=.ty "list") hT2 Ey WX rfl) bR hs4) hs3)) bR Zy) hs) (by decide) (by decide) hs Yo) fun σ H Q=>?_;rintro⟨O,ts,ρ,T,w,T',hc,re,e,q⟩;obtain⟨w1,T1,e1,e⟩:=aF e;obtain⟨x,d,h1,h3,rfl,rfl⟩:=jP e;cases h3;refine⟨O,ts,ρ,T,w1,T',hc,re,e1,fun v1 H1 s1 Xy r1=>?_⟩;refine⟨by decide,fun tp CP=>?_⟩;have XW:=Xy.new CP (.tup [.ty "tuple",.ty "list"]);have s2:XQ ts H1 (upd H1 tp (.tup [.ty "tuple",.ty "list"])):=.new CP _;exact⟨v1,tp,O,x,rfl,XW.view (r1.mono Xy s2) h1,bu,q _ _ (s1.trans s2) XW (.bl _)⟩
end
theorem zgh{P:NU}{w:N8}{K:Frag}{mg:Str->Option NO}{base:Heap}{CX:CF}{k:Nat}{f:Addr}{fd:Oe}{ps:List Str}{sp sp':Sp}(F:Xz P w K mg base CX k f fd ps sp)(i:∀vs H Q E,sp' vs H Q E->sp vs H Q E):Xz P w K mg base CX k f fd ps sp':=⟨fun vs H Q E h=>F.1 vs H Q E (i _ _ _ _ h),fun A outer s H args us vs Q E a b c d h=>F.2 A _ s H args us vs Q E a b c d (i _ _ _ _ h)⟩
theorem zgi{K:Frag}{m:Yh}(hm:∀ns:List Int,ns.length<=63->∃T',m [.d (dh ns)] []=some (.bool true,T')):∀vs H Q E,oh K vs H Q E->XA K 1 m vs H Q E:=by
 intro vs H Q E h;obtain⟨a,ns,rfl,hS,hl,q⟩:=h;obtain⟨T',e⟩:=hm ns hl
 have ra:LstAt K (fun _=>False) H a (ns.map V.int):=by
  rcases hS with h|h
  .exact .inl ⟨fun z=>z,h⟩
  .exact .inr (.inr h)
 refine⟨fun _=>False,[],[],[.d _],.bool true,T',⟨fun b hb=>(by cases hb),fun b hb=>hb.elim,Wg,rfl,fun i a xs e1 _=>by simp at e1⟩,.cons (.lst ra (tV ns)) .nil,rfl,e,fun v H' _ _ r=>?_⟩;cases r;exact q H'
def JI:NN->NN->Option PyData:=EM fun i j=>if 0<=j then some (.int (i / 2^j.toNat)) else none
@[simp] theorem Lr:JI (.int i) (.int j)=if 0<=j then some (.int (i / 2^j.toNat)) else none:=rfl
section
variable {X:Cx}
theorem zgj:Dl X "str.join" (fun x vs H Q=>∃(z:Str) (l:Addr) (ys:List Str),x=.str z/\vs=[.ref l]/\Zz X.K H l (ys.map V.str)/\(ys.map (·.length)).sum+ys.length*z.length<=16777216/\Q (.str (Ob z ys)) H):=by
 intro pins s σ H x vs v us Q I rx rv h;obtain⟨z,l,ys,rfl,rfl,hq,hz,q⟩:=h;obtain⟨t,rfl⟩:=rx;obtain⟨u,rfl,ru⟩:=vals1 rv;cases ru;obtain⟨Xx,Za,pl,_⟩:=I.tuple hq;refine join_tuple (ys:=ys) pl (by simpa using sR Za) hz fun t' k=>⟨.str _,H,I.tok _,⟨t',?_⟩,q⟩;show Sg (Ve z ys) t'=_;rw[TM]
theorem za{K:Frag}{O:Addr->Prop}{ts:List Addr}{H:Hp}{T:Tp}{v:V}{w:W}{z:Str}(r:ZK K O ts H v w)(h:view T w=some (.str z)):v=.str z:=by
 cases w with
 |d x=>cases h;cases (show Rep K O H v _ from r);rfl
 |tp k=>
  have C0:(T[k]?).bind ke=some (OE z):=h
  cases hk:T[k]? with
  |none=>rw[hk] at C0;cases C0
  |some xs=>
   rw[hk] at C0;have e2:(if B8 xs=true then none else some (Uh xs))=some (OE z):=C0
   split at e2 <;> cases e2
 |loc zs=>cases zs <;> cases h
def dy:NN->NN->Option NN
 |.str z,.list xs=>match dI xs with
  |some ys=>if (ys.map (·.length)).sum+ys.length*z.length<=16777216 then some (.str (Ob z ys)) else none
  |none=>none
 |.str z,.tuple xs=>match dI xs with
  |some ys=>if (ys.map (·.length)).sum+ys.length*z.length<=16777216 then some (.str (Ob z ys)) else none
  |none=>none
 |_,_=>none
theorem jI(ho:DE X o fo)(he:DE X e fe)
  (YI:Pj o "join" X.env (eval o X.env)=eval o X.env:=by rfl)
  (Zv:((OO cpos (NR [e] X.env)).all (fun x=>!x.1)&&(PX cpos (O8 [] X.env)).all (fun x=>x.1.isSome)
   && decide (([e]:List Expr).length+([]:List PD).length+(if ([]:List PD).isEmpty then 0 else 1)<30))=true:=by exact kh rfl)
  (YH:(apos.endLine == cpos.line)=true:=by rfl) (Zk:NR [e] X.env=(false,eval e X.env)::NR [] X.env:=by exact bo rfl) (Yn:(OO cpos (NR [] X.env)).any (·.1)=false:=by exact bN rfl) :
  DE X (.Call (.Attribute o "join" apos) [e] [] cpos) (ah dy fo fe):=by
 refine⟨?_⟩;refine pe_imp (i5 Qf TN TQ (Aj.or zgj) ho.pe (bf he.pe bR Zk) YI Zv YH Zk Yn) fun σ H Q=>?_;rintro⟨O,ts,ρ,T,w,T',hc,re,e,q⟩;obtain⟨w1,T1,e1,e⟩:=aF e;obtain⟨w2,T2,e2,e⟩:=aF e;obtain⟨x,y,d,h1,h2,h3,rfl,rfl⟩:=ip e;unfold dy at h3;refine⟨O,ts,ρ,T,w1,T1,hc,re,e1,fun v1 H1 s1 Xy r1=>?_⟩;split at h3
 .rename_i z xs
  split at h3
  .rename_i ys hy
   split at h3
   .rename_i hz
    cases h3;have ev:=za r1 h1;subst ev;refine⟨rfl,O,ts,ρ,T1,w2,T',Xy,re.mono hc s1,e2,fun v2 H2 s2 XW r2=>?_⟩;obtain⟨a,vs,rfl,t,r⟩:=(XW.view r2 h2).lst;rw[kM r hy] at t;exact .inl ⟨z,a,ys,rfl,rfl,t,hz,q _ H2 (s1.trans s2) XW (.str _)⟩
   .cases h3
  .cases h3
 .rename_i z xs
  split at h3
  .rename_i ys hy
   split at h3
   .rename_i hz
    cases h3;have ev:=za r1 h1;subst ev;refine⟨rfl,O,ts,ρ,T1,w2,T',Xy,re.mono hc s1,e2,fun v2 H2 s2 XW r2=>?_⟩;obtain⟨a,vs,rfl,t,r⟩:=(XW.view r2 h2).tup;have t:=t.sq;rw[kM r hy] at t;exact .inr ⟨z,a,ys,rfl,rfl,t,hz,q _ H2 (s1.trans s2) XW (.str _)⟩
   .cases h3
  .cases h3
 .cases h3
end
end D
namespace L2
structure CSn(osc:P4)(N:List Str)(xs:List Str)(scope:P4)(N':List Str):Prop where
 kind:scope.kind=.function
 nocell:∀y∈scope.names,y.2≠.cell
 names:∀y∈scope.names,y.2=.local->scope.names.lookup y.1=some .local
 hx:∀x∈xs,scope.names.lookup x=some .local
 only:∀y∈scope.names,y.2=.local->y.1∈xs\/y.1=".0"
 free:∀y∈scope.names,y.2=.free->osc.names.lookup y.1=some .cell\/osc.names.lookup y.1=some .free
 nd:(xs++N').Nodup
 n0:(".0" : Str)∉N'
 len:N'.length=N.length
 rel:∀p∈N'.zip N,p.1=p.2\/∀q∈scope.names,q.1≠p.1
end L2
namespace D
open L2
theorem vp{X:Cx}{pins:List (Addr×Obj)}{σ:L2.St}{H:Hp}{s:NP}{h':Heap}{t':Nat}{fp:List Addr}(I:Inv X pins σ H s)(k:∀b o,b∉fp->s.heap.get? b=some o->h'.get? b=some o)(hf:∀b∈fp,cV X pins H b):Inv X pins σ H { s with heap:=h',toks:=t' }:=by
 have Ii:∀b u,H b=some u->b∉fp:=fun b u e z=>by rw[(hf b z).1] at e;cases e
 have hL:X.env.locals∉fp:=fun z=>(hf _ z).2.1 rfl
 refine I.step (g':=s.gens) (d':=s.drawn) (ch:=fp) (fun b hb=>?_) (fun b o _ _ hc e _=>k b o hc e) (fun b o _ _ hc e _=>⟨o.slots,k b o hc e⟩) (fun _ _ _ _ n=>n)
  (fun b o hc e=>⟨o,k b o hc e⟩) (fun _ _ e=>e) (fun _ _ _ e=>e) (fun b ps e=>⟨#[],by rw[e];simp⟩) (fun m hm=>?_) (fun b u e=>?_) I.bare
 .obtain⟨_,f1,_,f3,f4,f5⟩:=hf b hb
  exact⟨f3,f1,f4,f5⟩
 .obtain⟨o,es,ep,ho,r⟩:=hm
  exact⟨o,es,ep,k _ o hL ho,r⟩
 .refine(I.hok b u e).stay (fun c v hc q=>k c v ?_ q) (fun _ q=>q) fun _ _ q=>q
  rcases hc with z|z
  .rw[z];exact Ii b u e
  .exact Ii c _ z
section
variable {X:Cx}{pos:Pos}{e e':Expr}{fe fk:FE}{K:Frag}{O₀:Addr->Prop}{H₀:Hp}{F:List ((Addr->Prop)×Hp)}{ts:List Addr}{O A:Addr->Prop}{H H1:Hp}{σ:L2.St}{ρ:XD}{T T1:Tp}
theorem zgk(h:noStar e=true)(h2:noStar f=true):((OO cpos (NR [e,f] env)).all (fun x=>!x.1)&&(PX cpos (O8 [] env)).all (fun x=>x.1.isSome)
   && decide (([e,f]:List Expr).length+([]:List PD).length+(if ([]:List PD).isEmpty then 0 else 1)<30))=true:=by
 rw[zeh h,kE h2];rfl
theorem RS.keep(r:RS K O₀ H₀ F ts O H σ ρ T)(hA:∀b,A b->O b):HC K (fun b=>O₀ b\/A b) ts H T/\Le O H (fun b=>O₀ b\/A b) H:=by
 have le:Le O H (fun b=>O₀ b\/A b) H:=fun a o n e=>⟨fun z=>n (z.elim (r.sub a) (hA a)),e⟩;exact⟨⟨fun b hb=>.inl (r.ots b hb),fun b hb=>r.hc.trk b (hb.elim (r.sub b) (hA b)),r.hc.nd,r.hc.len,fun i a xs e1 e2=>(r.hc.tape i a xs e1 e2).mono (fun _ h=>h) le⟩,le⟩
end
inductive uo(K:Frag)(n:Nat)(m:Yh)(vs:List V)(H:Hp)(Q:VK):Prop where
 |mk (O:Addr->Prop) (ts:List Addr) (T:Tp) (ws:List W) (x:NN) (T':Tp) (hc:HC K O ts H T) (r:gr K O ts H vs ws) (hl:ws.length=n) (e:m ws T=some (x,T'))
  (q:∀(A:Addr->Prop) v H',XQ ts H H'->(∀b,A b->H b=none/\¬O b)->HC K (fun b=>O b\/A b) ts H' T'->D4 K (fun b=>O b\/A b) A H' v x->Q v H'):uo K n m vs H Q
section
variable {X:Cx}
abbrev FP:=XD->Tp->Option (List (Str×NN)×Tp)
def Je(l:List (Str×NN)):List (NN×NN):=l.map fun p=>(.str p.1,p.2)
def JU(p:Str×V):Key×V:=(PU p.1,p.2)
structure DP(X:Cx)(pos:Pos)(keys:List (Option Expr))(values:List Expr)(g:FP):Prop where
 ex:∃z0,PPs X pos keys values z0/\∀(σ:L2.St) (H:Hp) (Q:List (V×V)->Hp->Prop) (O:Addr->Prop) (ts:List Addr) (ρ:XD) (T:Tp) (l:List (Str×NN)) (T':Tp),HC X.K O ts H T->Zd X.K O ts H σ ρ->g ρ T=some (l,T') ->
  (∀(kvs:List (Str×V)) (H':Hp),XQ ts H H'->HC X.K O ts H' T'->kvs.map (·.1)=l.map (·.1)->Yt X.K O H' (kvs.map JU) (Je l)->Q (kvs.map fun p=>(V.str p.1,p.2)) H')->qQ z0 σ H Q
end
end D
namespace XE
open L2
abbrev vE:List Value:=[.type "ValueError",.type "Exception",.type "BaseException",.type "object"]
def YX(K:Frag)(C:Addr)(tl:List NO):Prop:=∃nm q N bs sn sub ab col dd k0 k1 k2 k3 k5,K.lookup C=some (VL nm q C N bs tl true sn sub ab col dd k0 k1 k2 k3 k5 "ValueError.__new__")/\Uk K N=true
theorem vq{K:Frag}(X:K.In h)(r:YX K R vE)(ri:Qk K "__init__" (.ref R)=some none):OwnTail h vE (.ref R::vE):=by
 obtain⟨nm,q,N,bs,sn,sub,ab,col,dd,k0,k1,k2,k3,k5,l,n⟩:=r;refine .own (X _ _ l) (.of_isNs (PySem.W.isNs_of_in X n)) (PySem.W.nsMap_none_of_in X n ?_) .base;simp only[Qk] at ri;rw[l] at ri;exact ri
section
variable {prog:NU}{w:N8}{A:OF}{E:NO->NP->Prop}{h:Heap}{g:Array T7}{d:Xd}{t:Nat}{os:W6}{K:Frag}{C R fI:Addr}
theorem zgl(X:K.In h)(c:YX K C (.ref R::vE))(r:YX K R vE)(ri:Qk K "__init__" (.ref R)=some none)
  (hi:Og K (.ref C) "__init__"=some (some (.ref fI))) (hf:Qz K (.ref fI)=true) (hz:us.length<=NX)
  (k:∀h' e,Heap.MadeExcOf h h' e (.ref C) us->h.objs.size<=e->Oy (Os prog w) (A.under (.builtin "type.__call__" ⟨.ref C::us,[]⟩)) (call (.ref fI) (.ref e::us)) (fun v s'=>v=.none/\Q (.ref e) s') E ⟨h',g,d,t,os⟩) :
  Oy (Os prog w) A (call (.ref C) us) Q E ⟨h,g,d,t,os⟩:=by
 have T:=vq X r ri;obtain⟨nm,q,N,bs,sn,sub,ab,col,dd,k0,k1,k2,k3,k5,l,_⟩:=c;have hC:=X _ _ l;have FB:=Sv;have f1:=tc_lookup;have f2:=tc_bind (.ref C);have hT:(⟨h,g,d,t,os⟩:NP).TypeIs (.ref C) "type":=⟨_,hC,rfl⟩;refine RO (codeAny_of_tree ?_);show Oy _ _ (callAny (.ref C) _) _ _ _
 repeat (any_goals (first|assumption|with_reducible refine OG hC ?_|wp_step))
 refine⟨rfl,codeAny_call_builtin_at (UV _ (by decide +kernel)) entry_typeCall (wpAny_check_type_call_sub hC ?_)⟩
 repeat (first|with_reducible refine OG hC ?_|with_reducible refine wpAny_madeBy_exc hC ?_|wp_step)
 refine codeAny_call_builtin_code (UV _ FB.quiet) (wpAny_check_new_subU FB (by decide +kernel) T hC (codeAny_exc_new_subU FB (by decide +kernel) FB T hC ?_ hz));show Oy _ _ _ _ _ _
 have up:∀b o,h.get? b=some o->((h.push { cls:=.type "tuple",data:=.seq us.toArray }).push { cls:=.ref C,data:=.fields #[.ref h.objs.size,.none,.none,.none,.bool false,.none] }).get? b=some o:=
  fun b o e=>NQ _ (NQ _ e)
 have Ao:((h.push { cls:=.type "tuple",data:=.seq us.toArray }).push { cls:=.ref C,data:=.fields #[.ref h.objs.size,.none,.none,.none,.bool false,.none] }).get? (h.objs.size+1)
   = some { cls:=.ref C,data:=.fields #[.ref h.objs.size,.none,.none,.none,.bool false,.none] }:=by heap_get
 have hC1:=up _ _ hC
 have cc:(Ol C::Ol R::vE).contains (.ref C)=true:=by simp
 have mk:=k _ (h.objs.size+1) ⟨up,PB (VG _),h.objs.size,Ao,PB (Of _),NQ _ (Q1 rfl rfl)⟩ (VG _);unfold Wh
 repeat (first|with_reducible refine OG Ao ?_|wp_step)
 refine PP hC1 ?_;rw[cc]
 repeat (first|with_reducible refine OG Ao ?_|wp_step)
 show Oy _ _ (typeLookup (.ref C) _) _ _ _;refine Pf (X.keeps up) hi _ _ _ _ (fun _ _ e=>e) ?_;refine QC (NT ?_);refine VO (X.keeps up) _ (by simpa[Qz] using hf) _ _ _ _ (fun _ _ e=>e) ?_;refine NT (O5 mk (fun v s' hv=>?_) fun _ _ z=>z);obtain⟨rfl,q'⟩:=hv;wp_walk;exact q'
end
end XE
namespace XE
open L2
def YG(e C:Addr)(od:Option Addr):Heap->Prop:=fun h=>∃t,h.get? e=some { cls:=.ref C,dict:=od,data:=.fields #[.ref t,.none,.none,.none,.bool false,.none] }
theorem YG.stay(x:YG e C od h1)(k:∀o,h1.get? e=some o->h2.get? e=some o):YG e C od h2:=let ⟨t,y⟩:=x;⟨t,k _ y⟩
theorem YG.ok(x:YG e C od h):X7 P w H h e (.ext (YG e C od)):=⟨x,let ⟨_,y⟩:=x;⟨_,y⟩,fun _ _ a k=>a.stay k⟩
theorem YG.of(ok:YR P w H h)(x:H e=some (.ext (YG e C od))):YG e C od h:=(ok _ _ x).1
section
variable {X:Cx}{C R:Addr}
theorem zgm{K:Frag}{E:NO->NP->Prop}{s:NP}{Q:NO×List NO->NP->Prop}(x:K.In s.heap)(hr:Rk K R (.type "type")=true)
  (hf:R7 K (.ref R) (.type "type") "__init__"=some (.val (.builtin "ValueError.__init__"))) (q:Q (.builtin "ValueError.__init__",[]) { s with toks:=s.toks+1 }) :
  Oy (Os prog w) A (QU (.ref R) "__init__" pl) Q E s:=by
 have Gq:=hr;simp only[Rk,NY,beq_iff_eq] at Gq;obtain⟨⟨⟨⟨_,b⟩,c⟩,_⟩,_⟩:=Gq
 have hc:(Manifest.canonical "type.__getattribute__" != "object.__getattribute__")=true:=by decide +kernel
 unfold QU specialOf;refine NT (NT (PySem.W.looks_typeIn x b _ _ _ _ (fun _ _ e=>e) (Pf x c _ _ _ _ (fun _ _ e=>e) ?_)));simp only[hc,if_true];exact NT (PySem.W.cls_value x hr hf rfl (Ou q))
def ze(C:Addr)(tt:TE):TE:=fun σ H Q=>∃e,σ[0]? = some (some (.ref e))/\tt σ H fun _ H1=>H1 e=some (.ext (YG e C none))/\Q .non H1
theorem xp(c:YX X.K C (.ref R::vE))(r:YX X.K R vE)(ri:Qk X.K "__init__" (.ref R)=some none)(hg:Gl X rn)(hm:X.mg rn=some (.ref R))
  (hr:Rk X.K R (.type "type")=true) (hf:R7 X.K (.ref R) (.type "type") "__init__"=some (.val (.builtin "ValueError.__init__"))) (hs:PE X (.Name sn p2) (fV 0)) (ht:PE X tx tt)
  (hd:(rn == ("__debug__" : Str))=false:=by decide) (GD:NR [.Name sn p2,tx] X.env=[(false,eval (.Name sn p2) X.env),(false,eval tx X.env)]:=by rfl) (Zy:NR [tx] X.env=[(false,eval tx X.env)]:=by rfl)
  (he:eval (.Call (.Attribute (.Name rn p) "__init__" ap) [.Name sn p2,tx] [] pos) X.env=(do
   let ov ←eval (.Name rn p) X.env
   Ru ap.atName
   let (f,first) ←QL [ov] (QU ov "__init__" pl)
   SU pos f first (OO pos (NR [.Name sn p2,tx] X.env)) (PX pos (O8 [] X.env))):=by rfl) :
  PE X (.Call (.Attribute (.Name rn p) "__init__" ap) [.Name sn p2,tx] [] pos) (ze C tt):=by
 intro pins s σ H Q I h;obtain⟨e,h0,h⟩:=h;refine RJ (pl:=pl) (gM I hg hm ?_ hd) he;refine zgm I.kIn hr hf ?_;have I0:=I.tok (s.toks+1);have pa:PA X [.Name sn p2,tx] (jY (fV 0) (jY tt kb)):=bf hs (bf ht bR (by rw[Zy];rfl)) (by rw[GD,Zy])
 have hA:=pa pos pins _ σ H (fun vs H1=>match vs with
  |[.ref a,_]=>H1 a=some (.ext (YG a C none))/\Q .non H1
  | _=>False) I0 ⟨_,h0,h⟩
 rw[GD] at hA ⊢;refine Th rfl (Ud (Ya hA fun us s2 ⟨vs,H2,I2,r2,q2⟩=>?_));dsimp only at q2;split at q2
 .rename_i a v
  obtain⟨hx,q⟩:=q2
  obtain⟨u0,us1,rfl,r0,r3⟩:∃x b,us=x::b/\RelV (.ref a) x/\XC [v] b:=by cases r2 with|cons a b=>exact⟨_,_,rfl,a,b⟩
  obtain⟨u1,us2,rfl,r1,r4⟩:∃a b,us1=a::b/\RelV v a/\XC [] b:=by cases r3 with|cons a b=>exact⟨_,_,rfl,a,b⟩
  cases r4;obtain rfl:u0=Ol a:=r0;obtain⟨t,BN⟩:=YG.of I2.hok hx;have T:=vq I2.kIn r ri;obtain⟨nm,qn,N,bs,sn,sub,ab,col,dd,k0,k1,k2,k3,k5,l,_⟩:=c;have hC:=I2.kIn _ _ l;have FB:=Sv;have up:∀b o,s2.heap.get? b=some o->(s2.heap.push { cls:=.type "tuple",data:=.seq [u1].toArray }).get? b=some o:=fun b o e=>NQ _ e
  have fin:∀(h':Heap) (tk:Nat),(∀b o,b≠a->s2.heap.get? b=some o->h'.get? b=some o)->YG a C none h'->EP X pins σ Q .none { s2 with heap:=h',toks:=tk }:=fun h' tk k1 k2=>by
   have e1:upd H2 a (.ext (YG a C none))=H2:=by
    funext b
    by_cases e:b=a
    .rw[e,bu,hx]
    .rw[aX e]
   have I3:=I2.write (x:=a) (e:=a) (o:=.ext (YG a C none)) (h':=h') (t':=tk) (by rw[hx];trivial) (.inl rfl) k1 (let ⟨_,y⟩:=k2;⟨_,y⟩) (YG.ok k2);rw[e1] at I3;exact⟨.non,H2,I3,rfl,q⟩
  obtain⟨hp,g,d,tk,os⟩:=s2;show Oy _ _ (call (.builtin "ValueError.__init__") [.ref a,u1]) _ _ _;refine RO (RV FB.init.plain FB.initEntry (wpAny_check_init_subU FB T hC BN rfl ?_));wp_walk;refine fin _ _ (fun b o hb e=>?_) ⟨hp.objs.size,?_⟩
  .rw[Om _ _ (PV hb)]
   exact up b o e
  .rw[O9 _ (up _ _ BN) rfl]
   rfl
 .exact ON q2
end
section
open Builtin Builtin.ObjectAttr
variable {prog:NU}{w:N8}{A:OF}{E:NO->NP->Prop}{h:Heap}{g:Array T7}{d:Xd}{t:Nat}{os:W6}{K:Frag}{C R e:Addr}{name:Str}{v:NO}{vs:Array NO}
theorem zgn(X:K.In h)(c:YX K C (.ref R::vE))(hs:Og K (.ref C) "__setattr__"=some (some (.builtin "object.__setattr__")))(hn:Og K (.ref C) name=some none)
  (he:h.get? e=some { cls:=.ref C,data:=.fields vs })
  (k:∀h' tk,h'.get? e=some { cls:=.ref C,dict:=some h.objs.size,data:=.fields vs }->h'.Ns1 h.objs.size (fun y=>if y=name then some v else none)->(∀b o,b≠e->h.get? b=some o->h'.get? b=some o)->Q () ⟨h',g,d,tk,os⟩) :
  Oy (Os prog w) A (WZ (.ref e) name v) Q E ⟨h,g,d,t,os⟩:=by
 obtain⟨nm,q,N,bs,sn,sub,ab,col,dd,k0,k1,k2,k3,k5,l,_⟩:=c;have hC:=X _ _ l;have SF:=PySem.F.store_ValueError;have Jv:=SF.passes (.ref e);have f3:=SF.slot.bind (.ref e)
 have hO:(Ol C::Ol R::vE).contains (.type "object")=true:=by simp
 unfold WZ callSpecial? specialOf
 repeat (any_goals (first|assumption|with_reducible refine OG he ?_|wp_step))
 refine Pf X hs _ _ _ _ (fun _ _ e=>e) ?_
 repeat (any_goals (first|assumption|wp_step))
 refine RV SF.slot.plain SF.entry ?_
 have chk:∀{M:U1}{A:OF}{Q:Unit->NP->Prop}{E:NO->NP->Prop}{tk t:Nat},Q () ⟨h,g,d,t,os⟩->Oy M A (VB "object.__setattr__" ⟨[.ref e,.str name tk,v],[]⟩) Q E ⟨h,g,d,t,os⟩:=by
  intro M A Q E tk t hq;have ha:=SF.args (.ref e) (.str name tk) v;simp only[VB,SF.kind,SF.split];refine NT ?_;unfold Wh
  repeat (first|with_reducible refine OG he ?_|wp_step)
  refine PP hC ?_;rw[hO]
  repeat wp_step
  exact hq
 refine chk ?_;unfold Ut.«object.__setattr__»
 repeat (first|rw[refuse_eq]|(rw[refuseLoop_ref,refuseLoop_ref,Jv])|with_reducible refine OG he ?_|refine wpAny_mroOf_exc hC ?_|wp_step)
 refine Pf X hn _ _ _ _ (fun _ _ e=>e) ?_;have up:(h.push { cls:=.type "dict",data:=.dict #[] }).get? e=some { cls:=.ref C,data:=.fields vs }:=NQ _ he;have ne:e≠h.objs.size:=Ot (N5 he)
 have gd:((h.push { cls:=.type "dict",data:=.dict #[] }).update e fun o=>{ cls:=o.cls,dict:=some h.objs.size,data:=o.data,slots:=o.slots }).get? h.objs.size=some { cls:=.type "dict",data:=.dict #[] }:=
  (UF _ _ _ _ ne.symm).trans (Q1 rfl rfl)
 have nd:((h.push { cls:=.type "dict",data:=.dict #[] }).update e fun o=>{ cls:=o.cls,dict:=some h.objs.size,data:=o.data,slots:=o.slots }).Ns h.objs.size (fun _=>none):=
  ⟨_,#[],_,gd,rfl,fun _ z=>absurd z (by simp),fun _=>rfl⟩
 repeat (first|with_reducible refine OG he ?_|with_reducible refine wpAny_nsSet1 (U3 nd) fun h' GN hs'=>?_|wp_step)
 obtain⟨oD,es,ep,Dm,zX,AX⟩:=GN.count (Within.cons name v Within.nil);refine Ub Dm ?_;rw[zX,Vs (Oc AX (by rw[Oo,R8,Ua];omega))]
 repeat wp_step
 refine k h' _ ((hs'.2 e ne).trans (O9 _ up rfl)) GN fun b o hb z=>?_;exact(hs'.2 b (Ot (N5 z))).trans ((UF _ _ _ _ hb).trans (NQ _ z))
end
end XE
namespace XE
open L2
theorem zgo{h:Heap}(ne:b≠h.objs.size)(z:(h.push o).get? b=some u):h.get? b=some u:=by
 obtain⟨z1,z2⟩:=Sw.mp z;refine Sw.mpr ⟨?_,z2⟩;have z3:(h.objs.push o)[b]? = some u:=z1;rw[Array.getElem?_push,if_neg ne] at z3;exact z3
section
variable {X:Cx}{C R:Addr}
def sXf(C:Addr)(i:Nat)(tv:TE)(f:Str):TS:=fun D σ H=>tv σ H fun y H1=>∃a,σ[i]? = some (some (.ref a))/\H1 a=some (.ext (YG a C none)) /\
 ∀dx,H1 dx=none->dx≠a->D.nx σ (upd (upd H1 dx (.xd [(f,y)])) a (.ext (YG a C (some dx))))
theorem yp(c:YX X.K C (.ref R::vE))(hs:Og X.K (.ref C) "__setattr__"=some (some (.builtin "object.__setattr__")))(hn:Og X.K (.ref C) f=some none)
  (ho:PE X o (fV i)) (hv:PE X value tv) (hw:Pi value (some (.Attribute o f pos')) pos.line X.env=pure false:=by rfl):PS X (.Assign [.Attribute o f pos'] value pos) (sXf C i tv f):=by
 intro pins s σ H D I h;refine RI (Ya (hv pins s σ H _ I h) fun u s1 ⟨y,H1,I1,ry,a,h0,ha,q⟩=>Ya (ho pins s1 σ H1 (fun v H'=>v=.ref a/\H'=H1) I1 ⟨_,h0,rfl,rfl⟩) fun ov s2 ⟨x,H2,I2,rx,ex,eh⟩=>?_) hw;subst ex eh;obtain rfl:ov=Ol a:=rx;obtain⟨t,BN⟩:=YG.of I2.hok ha;obtain⟨hp,g,d,tk,os⟩:=s2;refine zgn (v:=u) I2.kIn c hs hn BN fun h' tk' k1 k2 k3=>?_;have fr:H2 hp.objs.size=none:=I2.hok.fresh (Of _);have ne:hp.objs.size≠a:=Qe (N5 BN);obtain⟨od,es,ep,e1,e2⟩:=k2;have nf:=(Sw.mp e1).2;have up:∀b o,hp.get? b=some o->(hp.push od).get? b=some o:=fun b o z=>NQ _ z
 have I3:=I2.laid (h':=hp.push od) (a:=hp.objs.size) (o:=.xd [(f,y)]) (t':=tk') up (Of _) ⟨_,⟨od,es,ep,Q1 rfl nf,e2⟩,fun z=>by
  show YY (Qh z [(f,y)]) (if z=f then some u else none);simp only[Qh]
  by_cases q:z=f
  .subst q;simp;exact ry
  .rw[if_neg q]
   have:(z == f)=false:=by simpa using q
   rw[this]
   trivial⟩
 have I4:=I3.write (x:=a) (e:=a) (o:=.ext (YG a C (some hp.objs.size))) (h':=h') (t':=tk') (by rw[aX ne.symm,ha];trivial) (.inl rfl) (fun b u hb z=>?_) ⟨_,k1⟩ (YG.ok ⟨t,k1⟩)
 .exact⟨σ,_,I4,q _ fr ne⟩
 .by_cases e:b=hp.objs.size
  .subst e
   have z':(hp.push od).get? hp.objs.size=some u:=z;rw[Q1 rfl nf] at z';cases z';exact e1
  .refine k3 b u hb ?_
   exact zgo e z
end
end XE
namespace XE
open L2
def spI(C:Addr)(f:Str):Sp:=fun vs H Q _=>∃a x,vs=[.ref a,.str x]/\H a=some (.ext (YG a C none))/\(reprText x).length+1000<=NX /\
 ∀dx,H dx=none->dx≠a->Q .non (upd (upd H dx (.xd [(f,.str x)])) a (.ext (YG a C (some dx))))
structure XIni(P:NU)(w:N8)(K:Frag)(mg:Str->Option NO)(base:Heap)(C R:Addr)(f:Str)(k:Nat):Prop where
 ex:∃fI fd ps,Xz P w K mg base Yi k fI fd ps (spI C f)/\Binds K fd ps []/\Og K (.ref C) "__init__"=some (some (.ref fI))/\Qz K (.ref fI)=true
 c:YX K C (.ref R::vE)
 r:YX K R vE
 ri:Qk K "__init__" (.ref R)=some none
 kp:OT K (.ref C)=true
section
variable {X:Cx}{C R:Addr}{f:Str}{k:Nat}
theorem zgp(h:dx≠a):upd (upd (upd H a o) dx u) a v=upd (upd H dx u) a v:=by
 funext b;unfold upd
 by_cases e:b=a
 .rw[if_pos e,if_pos e]
 .rw[if_neg e,if_neg e,if_neg e]
end
end XE
namespace XE
open L2
structure Kp(xs fs:List Addr)(h h':Heap):Prop where
 keep:∀b o,h.get? b=some o->b∉xs->b∉fs->h'.get? b=some o
 slot:∀b o,h.get? b=some o->b∉xs->b∈fs->∃sl,h'.get? b=some { o with slots:=sl }
 there:∀b o,h.get? b=some o->∃o',h'.get? b=some o'
theorem Kp.trans{xs fs:List Addr}{h h1 h2:Heap}(a:Kp xs fs h h1)(b:Kp xs fs h1 h2):Kp xs fs h h2 where
 keep:=fun c o q n m=>b.keep c o (a.keep c o q n m) n m
 slot:=fun c o q n m=>let ⟨_,e⟩:=a.slot c o q n m;let ⟨sl,e2⟩:=b.slot c _ e n m;⟨sl,e2⟩
 there:=fun c o q=>let ⟨_,e⟩:=a.there c o q;b.there c _ e
theorem Kp.more(a:Kp xs fs h h')(k:∀x∈xs,x∈ys):Kp ys fs h h':=⟨fun b o q n m=>a.keep b o q (fun z=>n (k b z)) m,fun b o q n m=>a.slot b o q (fun z=>n (k b z)) m,a.there⟩
theorem Kp.fun_(a:Kp xs fs h h')(n:∀x∈xs,∃o vs,h.get? x=some o/\o.data=.fields vs)(f:h.FunFrames base l):h'.FunFrames base l:=by
 refine f.of_keeps fun b o q nf=>?_
 have hx:b∉xs:=fun z=>by
  obtain⟨o',vs,e1,e2⟩:=n b z;rw[q] at e1;cases e1;exact nf vs e2
 by_cases hb:b∈fs
 .obtain⟨sl,e⟩:=a.slot b o q hx hb
  exact⟨_,e,rfl⟩
 .exact⟨o,a.keep b o q hx hb,rfl⟩
def XR(e C dx:Addr)(tb:NO)(h:Heap):Prop:=∃t,h.get? e=some { cls:=.ref C,dict:=some dx,data:=.fields #[.ref t,tb,.none,.none,.bool false,.none] }
def TB(T:Addr)(fl:NO)(h:Heap):Prop:=∃oT ts,h.get? T=some oT/\oT.data=.fields ts/\ts[3]? = some fl
end XE
namespace XE
open L2
def forget(a:Addr)(H:Hp):Hp:=fun b=>if b=a then none else H b
theorem cx(h:b≠a):forget a H b=H b:=by unfold forget;rw[if_neg h]
theorem da:forget a H a=none:=by unfold forget;rw[if_pos rfl]
theorem dS(h:H a=none):forget a (upd H a o)=H:=by
 funext b;unfold forget upd
 by_cases e:b=a
 .rw[if_pos e,e,h]
 .rw[if_neg e,if_neg e]
section
variable {P:NU}{w:N8}{K:Frag}{mg:Str->Option NO}{base:Heap}{N:List Str}{qual:Str}{scope:P4}{f C R:Addr}{XF:NO}{A:OF}{outer:List Env}{s0:NP}{H0:Hp}{E:XK}
def G2(n0:Nat)(C:Addr)(E:XK)(te:TE):TS:=fun _ σ H=>te σ H fun v H2=>∃a dx,v=.ref a/\n0<=a/\H2 a=some (.ext (YG a C (some dx)))/\E (.ref C) (some dx) (forget a H2)
end
end XE
namespace XE
open L2
section
variable {X:Cx}{pins:List (Addr×Obj)}{σ:L2.St}{H:Hp}{s:NP}
theorem name_goes(I:L2.Inv X pins σ H s)(hN:X.N.Nodup)(hi:X.N[i]? = some n)(hl:X.env.scope.names.lookup n=some .local)
  (k:∀s',L2.Inv X pins (σ.set i none) H s'->Q () s'):Oy (Os X.prog X.w) A (do bindName X.env n .none;RY X.env n pos) Q E s:=by
 obtain⟨m,hn,hm⟩:=id I.loc
 have hp:(X.env.scope.kind == .class||(X.env.scope.kind == .module&&X.env.locals != X.env.globals))=false:=by rw[I.ok.kind];rfl
 have hk:X.env.kindOf n=some .local:=hl;refine NT (wpAny_bindName (TL hk hn (fun h1 hn1 Ff=>?_) hp));unfold RY;refine wpAny_onRaise ?_;unfold unbindName;refine NT (wpAny_point (NT ?_));unfold deleteName;simp only[hk,hp];rw[if_neg (by decide)];refine NT (wpAny_nsDel_keeps hn1 fun h2 v Cm Zy=>?_);simp only[if_true,UT,Bool.not_true,Rl,if_false];refine Ou (wpAny_point (k _ ?_));have hs:=Ff.trans Zy;have cne:=I.cne;obtain⟨oL,_,_,hoL,_⟩:=id hn
 have Hn:i<σ.length:=by rw[I.len];exact(NS.mp hi).1
 refine⟨I.ok,I.os,I.bare,⟨fun b o e n hb hx=>?_,fun b o e n hb hx=>?_,I.base.free,fun b o e hx=>?_,I.base.tups,I.base.frzs,I.base.tbls⟩,⟨_,Cm,fun j y v' e1 e2 e3=>?_⟩,fun y c e=>?_,I.free,I.freeC,fun p hp=>?_,fun b ob e=>?_,by simpa using I.len⟩
 .exact(hs.2 b (Ot (N6 (N5 e) I.ok.above))).trans (I.base.keep b o e n hb hx)
 .obtain⟨sl,e1⟩:=I.base.slot b o e n hb hx
  exact⟨sl,(hs.2 b (Ot (N6 (N5 e) I.ok.above))).trans e1⟩
 .obtain⟨o',e1⟩:=I.base.there b o e hx
  exact⟨o',(hs.2 b (Ot (N6 (N5 e) I.ok.above))).trans e1⟩
 .by_cases hj:j=i
  .subst hj
   rw[Oh Hn] at e2;cases e2
  .rw[Oa (PV hj)] at e2
   obtain⟨u',r',q⟩:=hm j y v' e1 e2 e3;refine⟨u',r',?_⟩
   rcases q with⟨k,e⟩|⟨k,c,e,z⟩
   .refine .inl ⟨k,?_⟩
    have:y≠n:=fun e=>hj (qb hN e1 (e ▸ hi));simp[this,e]
   .exact .inr ⟨k,c,e,z.sameBut hs (cne y c e)⟩
 .obtain⟨w',z⟩:=I.cell y c e
  exact⟨w',z.sameBut hs (cne y c e)⟩
 .obtain⟨e,n,ne,nf,d⟩:=I.pin p hp
  exact⟨(hs.2 p.1 ne).trans e,n,ne,nf,d⟩
 .refine(I.hok b ob e).stay (fun c w' hc q=>(hs.2 c ?_).trans q) (fun _ q=>q) fun _ _ q=>q
  rintro rfl
  rcases hc with rfl|hc
  .rw[I.free] at e;cases e
  .rw[I.free] at hc;cases hc
def fN(X:Cx)(e:Addr)(oe:Obj):Cx:={ X with A:=X.A.mark (some (.ref e)),calm:=false,pn:=(e,oe)::X.pn,xe:=fun _ _=>False }
theorem l5{A:OF}:(A.mark v).frames=A.frames:=rfl
theorem zgq(ok:X.Ok):(fN X e oe).Ok:=⟨ok.mod,ok.kind,ok.glob,ok.blt,ok.above,ok.inj,ok.has,ok.cab,fun z=>(nomatch z),ok.frames,ok.stk,ok.exf,ok.bs,ok.bsz,ok.noex,ok.exfs,ok.funs,ok.frf⟩
theorem pA(I:L2.Inv X pins σ H s)(h:s.heap.get? e=some oe/\H e=none/\e≠X.env.locals/\e∉X.fs/\∀v,oe.data≠.cell v):L2.Inv (fN X e oe) pins σ H s:=
 ⟨zgq I.ok,I.os,I.bare,I.base,I.loc,I.cell,I.free,I.freeC,fun p hp=>by
  have hp:p∈(e,oe)::(X.pn++pins):=hp
  rcases N4.mp hp with z|z
  .rw[z];exact h
  .exact I.pin p z,I.hok,I.len⟩
theorem ko(ok:X.Ok)(I:L2.Inv (fN X e oe) pins σ H s):L2.Inv X pins σ H s:=⟨ok,I.os,I.bare,I.base,I.loc,I.cell,I.free,I.freeC,fun p hp=>I.pin p (NV _ hp),I.hok,I.len⟩
theorem t7{E:NO->NP->Prop}{K:Frag}{oe:Obj}{Q:Bool->NP->Prop}(x:K.In s.heap)(c:YX K C (.ref R::vE))(r:YX K R vE)(he:s.heap.get? e=some oe)(hc:oe.cls=.ref C)(q:Q true s) :
  Oy M A (UW (.ref e) (.ref R)) Q E s:=by
 obtain⟨nm,qn,N,bs,sn,sub,ab,col,dd,k0,k1,k2,k3,k5,l,_⟩:=c;obtain⟨nm',qn',N',bs',sn',Kb,ab',DG,HQ,k0',k1',k2',k3',Av,l',_⟩:=r;have hC:=x _ _ l;have hR:=x _ _ l'
 have c1:(Ol R::vE).contains (.type "BaseException")=true:=by simp
 have c2:(Ol C::Ol R::vE).contains (.ref R)=true:=by simp
 have f:=tc_notTuple;obtain⟨hp,g,d,tk,os⟩:=s;unfold UW
 repeat (first|(with_reducible refine OG he ?_;rw[hc])|with_reducible refine OG hR ?_|wp_step)
 refine PP hR ?_;rw[c1]
 repeat (first|(with_reducible refine OG he ?_;rw[hc])|with_reducible refine OG hR ?_|wp_step)
 refine PP hC ?_;rw[c2]
 repeat wp_step
 exact q
end
end XE
namespace XE
open L2
section
variable {prog:NU}{w:N8}{A:OF}{E:NO->NP->Prop}{h:Heap}{g:Array T7}{d:Xd}{t:Nat}{os:W6}{K:Frag}{C R x:Addr}{ox:Obj}{od:Option Obj}{name:Str}
theorem zgr:builtinKind "BaseException.__getattribute__"=some .slot:=by decide +kernel
theorem zgs:splitId "BaseException.__getattribute__"=some ("BaseException","__getattribute__"):=by decide +kernel
theorem uz(CW:Qi K C (.type "BaseException")=some true)(X:K.In h)(I:QG h x ox C od)
  (k:Oy (Os prog w) A.in1 (Ut.«object.__getattribute__» ⟨[.ref x,.str name tk],[]⟩) (fun fin s'=>match fin with | .done f=>Rr (.ok f) s' | .again c'=>c'.quiet=true/\Sd (Os prog w) A c' Rr s') (fun e s'=>Rr (.error e) s') ⟨h,g,d,t,os⟩) :
  Sd (Os prog w) A (.call (.builtin "BaseException.__getattribute__") ⟨[.ref x,.str name tk],[]⟩) Rr ⟨h,g,d,t,os⟩:=by
 have sub:PySem.W.Looks (Os prog w) h (Wh (.ref x) (.type "BaseException")) true:=I.type.andThen (PySem.W.looks_mroIn X CW);have ha:=F.args_bexc_ga (.ref x) (.str name tk);exact RV Q3.ga.plain F.entry_bexc_ga (@PySem.W.check_slot (Os prog w) _ _ ⟨h,g,d,t,os⟩ "BaseException.__getattribute__" "BaseException" "__getattribute__" (.ref x) [.str name tk] [] _ zgr zgs sub ha k)
theorem zgt(X:K.In s.heap)(I:QG s.heap x ox C od)(hf:TH K C od name=some (.value v))(k:Q (.done (.ret v)) s) :
  Oy (Os prog w) A (Ut.«object.__getattribute__» ⟨[.ref x,.str name tk],[]⟩) Q E s:=by
 have L0:=I.type (M:=Os prog w);have L1:=UX (M:=Os prog w) X I hf;unfold Ut.«object.__getattribute__»;refine NT (Ou (NT (Ou (NT (L0.here (NT (L1.here ?_)))))));exact Ou k
theorem zgu(CW:Qi K C (.type "BaseException")=some true)(Dk:Og K (.ref C) "__getattr__"=some none)(Do:Og K (.ref C) "__getattribute__"=some (some (.builtin "BaseException.__getattribute__")))(X:K.In h)(I:QG h x ox C od)
  (hf:TH K C od name=some (.value v)) (hv:SS v=true) (k:Q v ⟨h,g,d,t+1,os⟩):Oy (Os prog w) A (VZ (.ref x) name ex) Q E ⟨h,g,d,t,os⟩:=by
 have L0:=I.type (M:=Os prog w);have L1:=Pf (M:=Os prog w) X Do;have f3:=Q3.ga.bind (.ref x)
 have hx0:(ex&&onTheHeap (Value.builtin "BaseException.__getattribute__"))=false:=by cases ex <;> rfl
 unfold VZ getAttrBy;refine NT (wpAny_mkText (QC (NT (L0.at (NT (L1.at ?_))))))
 repeat (any_goals (first|assumption|wp_step))
 refine Pf X Dk _ _ _ _ (fun _ _ e=>e) ?_
 repeat (any_goals (first|assumption|wp_step))
 refine uz CW X I (zgt (s:=⟨h,g,d,t+1,os⟩) X I hf ?_);show Oy _ _ (handedOut v) _ _ _;rw[Ul hv];exact Ou k
theorem zgv{od:Obj}{Q:Option NO->NP->Prop}(CW:Qi K C (.type "BaseException")=some true)(Dk:Og K (.ref C) "__getattr__"=some none)(Do:Og K (.ref C) "__getattribute__"=some (some (.builtin "BaseException.__getattribute__")))
  (hc:(Rg K C).isSome=true) (ha:Og K (.ref C) "__class__"=some (some (.builtin "object.__class__"))) (hn:QX K (.builtin "object.__class__") "__get__"=some (some (.builtin "getset_descriptor.__get__")))
  (htk:R5 K (.builtin "object.__class__")=some true) (hm:Qi K C (.type "object")=some true) (X:K.In h) (I:QG h x ox C (some od)) (k:Q (some (.ref C)) ⟨h,g,d,t+1,os⟩) :
  Oy (Os prog w) A (getAttr? (.ref x) "__class__") Q E ⟨h,g,d,t,os⟩:=by
 have hf:TH K C (some od) "__class__"=some (.bind (.builtin "getset_descriptor.__get__") (.builtin "object.__class__")):=PySem.W.findObj_data hc ha hn htk;have L0:=I.type (M:=Os prog w);have L1:=Pf (M:=Os prog w) X Do;have L2:=UX (M:=Os prog w) X I hf;have f3:=Q3.ga.bind (.ref x);unfold getAttr? getAttrBy? getAttrBy;refine NT (wpAny_mkText (NT (wpAny_attempt (QC (NT (L0.at (NT (L1.at ?_))))))))
 repeat (any_goals (first|assumption|wp_step))
 refine Pf X Dk _ _ _ _ (fun _ _ e=>e) ?_
 repeat (any_goals (first|assumption|wp_step))
 refine uz CW X I ?_;unfold Ut.«object.__getattribute__»;refine NT (Ou (NT (Ou (NT (L0.here (NT (L2.here ?_)))))));show Oy _ _ (Sz _ _ _ _) _ _ _;unfold Sz
 repeat wp_step
 refine PySem.W.class_get X I hm ?_;refine Ou ?_;show Oy _ _ (handedOut (.ref C)) _ _ _;rw[Ul (v:=.ref C) rfl];exact Ou (Ou k)
structure AN(K:Frag)(C:Addr):Prop where
 bm:Qi K C (.type "BaseException")=some true
 gt:Og K (.ref C) "__getattr__"=some none
 ga:Og K (.ref C) "__getattribute__"=some (some (.builtin "BaseException.__getattribute__"))
 hc:(Rg K C).isSome=true
 ca:Og K (.ref C) "__class__"=some (some (.builtin "object.__class__"))
 hn:QX K (.builtin "object.__class__") "__get__"=some (some (.builtin "getset_descriptor.__get__"))
 tk:R5 K (.builtin "object.__class__")=some true
 hm:Qi K C (.type "object")=some true
theorem AN.kit{od:Obj}(q:AN K C):PySem.W.KitX K (.ref x) (.ref C) (fun h=>QG h x ox C (some od)) where
 ty:=fun _ _ _ I=>I.type
 it:=fun _ _ X _=>by
  obtain⟨cd,hcd⟩:=QD.mp q.hc;unfold Rg at hcd;split at hcd
  .rename_i c' d' cd' Fv ho
   intro A' Q' E' s' k q;unfold isType loadHead;exact NT (Ub (k _ _ (X _ _ ho)) (Ou q))
  .cases hcd
 ne:=fun h tp dd Xx n sl X CP=>by
  obtain⟨cd,hcd⟩:=QD.mp q.hc;refine Bool.eq_false_iff.mpr fun z=>?_;have e:C=tp:=Value.ref.inj (beq_iff_eq.mp z);subst e;unfold Rg at hcd;split at hcd
  .rename_i c' d' cd' Fv ho
   cases (X _ _ ho).symm.trans CP
  .cases hcd
 ca:=fun {_ _ _ _ _ s} X I k=>by
  obtain⟨h,g,d,t,os⟩:=s;exact zgv q.bm q.gt q.ga q.hc q.ca q.hn q.tk q.hm X I k
end
end XE
namespace XE
open L2
theorem tK:∀{Ds:List Addr}{us:List NO},XC (Ds.map V.ref) us->us=Ds.map Ol
 |[],_,.nil=>rfl
 |a::r,_,.cons h1 h2=>by rw[OJ,←tK h2];cases (show _=Ol a from h1);rfl
section
variable {X:Cx}{C e dx:Addr}{oe:Obj}
structure Jg(X:Cx)(C e dx:Addr)(oe:Obj):Prop where
 pin:(e,oe)∈X.pn
 cls:oe.cls=.ref C
 dict:oe.dict=some dx
 data:∃vs,oe.data=.fields vs
 is:AN X.K C
 hd:P7 X.K C=true
theorem Jg.inst(c:Jg X C e dx oe)(I:L2.Inv X pins σ H s)(h:H dx=some (.xd fs)) :
  ∃(od:Obj) (mA:Str->Option NO),QG s.heap e oe C (some od)/\(∀f,YY (fs.lookup f) (mA f))/\∀name,Rw name od=some (mA name):=by
 obtain⟨mA,ns,r⟩:=(show X7 X.prog X.w H s.heap dx (.xd fs) from I.hok dx _ h);obtain⟨od,ho,hl⟩:=zsz ns;obtain⟨e1,_⟩:=I.pin (e,oe) (OR _ c.pin);obtain⟨vs,hd⟩:=c.data;refine⟨od,mA,⟨e1,c.cls,?_,?_⟩,r,hl⟩
 .unfold PySem.W.notCls
  rw[hd]
 .rw[c.dict]
  exact ho
def zf(i:Nat)(e dx:Addr)(v:V):TE:=fun σ H Q=>σ[i]? = some (some (.ref e))/\(∃fs,H dx=some (.xd fs))/\Q v H
theorem qo(c:Jg X C e dx oe):Yk X (.builtin "isinstance") fun xs H Q=>∃v b,xs=[.ref e,v]/\(∃fs,H dx=some (.xd fs))/\((∀u,RelV v u->Pc X.K (.ref C) u=some b)\/∃tp ws,v=.ref tp/\H tp=some (.tup ws)/\∀us,XC ws us->Q2 X.K (.ref C) us=some b)/\Q (.bl b) H:=by
 intro pins s σ H xs us Q I r h;obtain⟨v,b,rfl,⟨fs,hx⟩,hk,q⟩:=h;obtain⟨u,w',rfl,ru,Za⟩:=vals2 r;cases (show u=Ol e from ru);obtain⟨od,mA,inst,_,_⟩:=c.inst I hx;have fin:∀tk,EP X pins σ Q (.bool b) { s with toks:=tk }:=fun tk=>⟨.bl _,H,I.tok _,rfl,q⟩
 rcases hk with hk|⟨tp,ws,rfl,ht,hk⟩
 .exact OW c.is.kit I.kIn inst (hk _ Za) (fun z=>nomatch z) fin
 .cases (show w'=Ol tp from Za)
  obtain⟨_,Xx,rv,⟨dd,c',n,sl⟩,e0,e1,m,e2⟩:=(show X7 X.prog X.w H s.heap tp (.tup ws) from I.hok tp _ ht);dsimp only at e1 e2;subst e1 e2;exact Qd c.is.kit I.kIn inst e0 (hk _ rv) (fun z=>nomatch z) fin
theorem zgw(c:Jg X C e dx oe)(hv:PE X (.Name n p1) (fV i))(hg:Gl X "isinstance")(hi:X.mg "isinstance"=none)(hgD:Gl X cn)(hm:X.mg cn=some (.ref D))(hk:Pc X.K (.ref C) (.ref D)=some b)
  (hd:(cn == ("__debug__" : Str))=false:=by decide) (hs:NR [.Name n p1,.Name cn p2] X.env=[(false,eval (.Name n p1) X.env),(false,eval (.Name cn p2) X.env)]:=by rfl) (Zy:NR [.Name cn p2] X.env=[(false,eval (.Name cn p2) X.env)]:=by rfl) :
  PE X (.Call (.Name "isinstance" p) [.Name n p1,.Name cn p2] [] pos) (zf i e dx (.bl b)):=by
 refine Internal.D.pe_imp (jF (qo c) hg hi Px (bf hv (bf (eE (v:=.ref D) hgD hm rfl hd) bR (by rw[Zy];rfl)) (by rw[hs,Zy])) (by decide) (by decide) (by rw[hs,Zy]) (by rw[Zy];rfl)) fun σ H Q ⟨h0,hx,q⟩=>?_;exact⟨_,h0,.ref D,b,rfl,hx,.inl fun u hu=>by cases (show u=Ol D from hu);exact hk,q⟩
theorem zgx{i:Nat}{n:Str}{T:String}{b:Bool}{p p1 p2 pos:Pos}(c:Jg X C e dx oe)(hv:PE X (.Name n p1) (fV i))(hg:Gl X "isinstance")(hi:X.mg "isinstance"=none)(hgT:Gl X "ValueError")(hm:X.mg "ValueError"=none)(hk:Pc X.K (.ref C) (.type "ValueError")=some b)
  (hs:NR [.Name n p1,.Name "ValueError" p2] X.env=[(false,eval (.Name n p1) X.env),(false,eval (.Name "ValueError" p2) X.env)]:=by rfl) (Zy:NR [.Name "ValueError" p2] X.env=[(false,eval (.Name "ValueError" p2) X.env)]:=by rfl) :
  PE X (.Call (.Name "isinstance" p) [.Name n p1,.Name "ValueError" p2] [] pos) (zf i e dx (.bl b)):=by
 refine Internal.D.pe_imp (jF (qo c) hg hi Px (bf hv (bf (mP (v:=.ty "ValueError") hgT hm (by first|rfl|decide +kernel) rfl) bR (by rw[Zy];rfl)) (by rw[hs,Zy])) (by decide) (by decide) (by rw[hs,Zy]) (by rw[Zy];rfl)) fun σ H Q ⟨h0,hx,q⟩=>?_;exact⟨_,h0,.ty "ValueError",b,rfl,hx,.inl fun u hu=>by cases (show u=RK "ValueError" from hu);exact hk,q⟩
def H8(i:Nat)(e dx:Addr)(v:V)(ws:List V):TE:=fun σ H Q=>σ[i]? = some (some (.ref e))/\(∃fs,H dx=some (.xd fs))/\∀p,H p=none->Q v (upd H p (.tup ws))
theorem zgy{Ds:List Addr}(c:Jg X C e dx oe)(hv:PE X (.Name n p1) (fV i))(hg:Gl X "isinstance")(hi:X.mg "isinstance"=none)(ht:PA X es ta)(hta:∀σ H Q,Q (Ds.map V.ref) H->ta σ H Q)
  (hz:Ds.length<=100) (hk:Q2 X.K (.ref C) (Ds.map Ol)=some b) (hs:NR [.Name n p1,.Tuple es k Yl] X.env=[(false,eval (.Name n p1) X.env),(false,eval (.Tuple es k Yl) X.env)]:=by rfl) (Zy:NR [.Tuple es k Yl] X.env=[(false,eval (.Tuple es k Yl) X.env)]:=by rfl) :
  PE X (.Call (.Name "isinstance" p) [.Name n p1,.Tuple es k Yl] [] pos) (H8 i e dx (.bl b) (Ds.map V.ref)):=by
 refine Internal.D.pe_imp (jF (qo c) hg hi Px (bf hv (bf (nG ht) bR (by rw[Zy];rfl)) (by rw[hs,Zy])) (by decide) (by decide) (by rw[hs,Zy]) (by rw[Zy];rfl)) fun σ H Q ⟨h0,⟨fs,hx⟩,q⟩=>?_;refine⟨_,h0,hta σ H _ ⟨by rw[OY];exact Oc hz (by decide),fun tp CP=>?_⟩⟩;refine⟨.ref tp,b,rfl,⟨fs,by rw[aX (bM hx CP)];exact hx⟩,.inr ⟨tp,_,rfl,bu,fun us hu=>?_⟩,q tp CP⟩;rw[tK hu];exact hk
def tXn(i:Nat)(e dx:Addr)(f:Str):TE:=fun σ H Q=>σ[i]? = some (some (.ref e))/\∃fs v,H dx=some (.xd fs)/\fs.lookup f=some v/\Q v H
theorem zgz(c:Jg X C e dx oe)(hv:PE X (.Name n p1) (fV i))(ha:Og X.K (.ref C) f=some none)(hb:Pj (.Name n p1) f X.env (eval (.Name n p1) X.env)=eval (.Name n p1) X.env:=by rfl) :
  PE X (.Attribute (.Name n p1) f pos) (tXn i e dx f):=by
 intro pins s σ H Q I h;obtain⟨h0,fs,v,hx,hf,q⟩:=h;refine zte hb (Ya (hv pins s σ H (fun w H'=>w=.ref e/\H'=H) I ⟨_,h0,rfl,rfl⟩) fun u s1 ⟨x,H1,I1,rx,ex,eh⟩=>?_);subst ex eh;cases (show u=Ol e from rx);obtain⟨od,mA,inst,r,hl⟩:=c.inst I1 hx;obtain⟨u,hu,ru⟩:=YY.some_of (v:=v) (o:=mA f) (by rw[←hf];exact r f);obtain⟨hp,g,d,tk,os⟩:=s1;exact zgu c.is.bm c.is.gt c.is.ga I1.kIn inst (Uw c.hd ha rfl (by rw[hl,hu])) (ztc ru) ⟨v,H1,I1.tok _,ru,q⟩
end
end XE
namespace XE
open L2 D
theorem zha{K:Frag}{O:Addr->Prop}{ts:List Addr}{H:Hp}{T:Tp}{vs:List V}{ws:List W}{N:List Str}(hc:HC K O ts H T)(Za:gr K O ts H vs ws)(hn:dJ ws=true) :
  RS K O H [] ts O H (start N vs) (ws.map some++OA (N.length-ws.length) none) T:=by
 have X4:vs.length=ws.length:=QB Za;have Ec:∀{i:Nat}{xs:NN},(ws.map some++OA (N.length-ws.length) none)[i]? = some (some (W.loc xs))->False:=fun {i xs} e=>md hn (OC (l9 e));refine⟨hc,fun i u e=>?_,fun _ h=>h,hc.own,.refl _ _,fun i xs a e1 _=>(Ec e1).elim,fun i j xs ys v e1 _ _ _=>(Ec e1).elim,fun f hf=>absurd hf (by simp),by simp[L2.start,X4]⟩;obtain⟨v,h1,h2⟩:=pE Za (l9 e);refine⟨v,?_,h2⟩;unfold L2.start;have hi:i<vs.length:=(NS.mp h1).1;rw[N7 (by simpa using hi),Pt,h1];rfl
structure XB(K:Frag)(C R:Addr)(f:Str)(Ds:List Addr):Prop where
 c:YX K C (.ref R::vE)
 r:YX K R vE
 ri:Qk K "__init__" (.ref R)=some none
 kp:OT K (.ref C)=true
 is:AN K C
 hd:P7 K C=true
 nn:Og K (.ref C) f=some none
 sa:Og K (.ref C) "__setattr__"=some (some (.builtin "object.__setattr__"))
 rd:Rk K R (.type "type")=true
 fc:R7 K (.ref R) (.type "type") "__init__"=some (.val (.builtin "ValueError.__init__"))
 kC:Pc K (.ref C) (.ref C)=some true
 kV:Pc K (.ref C) (.type "ValueError")=some true
 kD:Q2 K (.ref C) (Ds.map Ol)=some false
def om:Obj->Bool
 |⟨_,_,.dict es _,_⟩=>es.toList.all fun e=>match e.key with
  |.str _ _=>true
  |_=>false
 |_=>false
theorem zhb{K:Frag}{C A:Addr}(h1:TJ K A=true)(h2:Uc K (.ref A)=some (.type "type"))(h3:SM K (.ref C) (.ref A)=some false)(h4:(Ol C == Ol A)=false):Pc K (.ref C) (.ref A)=some false:=by
 unfold Pc Wi;unfold TJ at h1;rw[h4,if_neg Ov];simp only[h1,h2,h3,beq_self_eq_true,Bool.and_true,if_true]
theorem zhc{K:Frag}{C:Addr}(h3:SM K (.ref C) (.type "ValueError")=some true):Pc K (.ref C) (.type "ValueError")=some true:=by
 have h4:(Ol C == RK "ValueError")=false:=by simp
 have h5:VW "ValueError"=true:=by decide +kernel
 unfold Pc Wi;rw[h4,if_neg Ov];simp only[h5,h3,if_true]
end XE
namespace XE
open L2
section
variable {X:Cx}{C R:Addr}
def zg(i:Nat)(z1 z2:Str):TE:=fun σ H Q=>∃n:Int,σ[i]? = some (some (.int n))/\n.natAbs.log2<1920/\z1.length+(NM (toString n)).length+z2.length<=NX/\∀y,Q (.str y) H
theorem xq(hn:PE X (.Name n p) (fV i)):PE X (.JoinedStr [.Constant (.str z1) 0 p1,.FormattedValue (.Name n p) (-1) none p2,.Constant (.str z2) 0 p3] pos) (zg i z1 z2):=by
 intro pins s σ H Q I h;obtain⟨m,h0,hd,hs,q⟩:=h;have e0:WR.length=0:=rfl;refine wpAny_JoinedStr ?_;refine Sl ⟨z1,_,rfl,by rw[Ql,e0];omega,?_⟩;have I0:=I.tok (s.toks+1);refine wpAny_FormattedValue_plain (Ya (hn pins _ σ H (fun v H'=>v=.int m/\H'=H) I0 ⟨_,h0,rfl,rfl⟩) fun u s1 ⟨v,H1,I1,r1,e1,e2⟩=>?_);subst e1 e2;obtain⟨t,rfl⟩:=r1;refine wpAny_formatField_int hd ⟨NM (toString m),_,rfl,by rw[Ql,Ql,e0];omega,?_⟩;refine Sl ⟨z2,_,rfl,by rw[Ql,Ql,Ql,e0];omega,?_⟩;exact⟨by rw[Ql,Ql,Ql,e0];omega,.str _,H1,((I1.tok _).tok _).tok _,⟨_,rfl⟩,q _⟩
end
end XE
namespace XE
open L2 D
def Ag(P:V->Prop)(C:Addr)(f:Str):Sp:=fun vs H Q _=>∃a v,vs=[.ref a,v]/\H a=some (.ext (YG a C none))/\P v /\
 ∀dx,H dx=none->dx≠a->Q .non (upd (upd H dx (.xd [(f,v)])) a (.ext (YG a C (some dx))))
def cj(z1 z2:Str):V->Prop:=fun v=>∃n:Int,v=.int n/\n.natAbs.log2<1920/\z1.length+(NM (toString n)).length+z2.length<=NX
theorem ue(h:Ag (cj z1 z2) C f vs H Q E) :
  zd (yk (ze C (zg 1 z1 z2))) (sXf C 0 (fV 1) f) { nx:=fun _ H'=>Q .non H',rt:=Q } (start N vs) H:=by
 obtain⟨a,v,rfl,ha,⟨n,rfl,h1,h2⟩,q⟩:=h;refine⟨a,rfl,n,rfl,h1,h2,fun y=>⟨ha,?_⟩⟩;exact⟨.int n,rfl,a,rfl,ha,fun dx h1 h2=>q dx h1 h2⟩
structure Yp(A:V->Prop)(P:NU)(w:N8)(K:Frag)(mg:Str->Option NO)(base:Heap)(C R:Addr)(f:Str)(k:Nat):Prop where
 ex:∃fI fd ps,Xz P w K mg base Yi k fI fd ps (Ag A C f)/\Binds K fd ps []/\Og K (.ref C) "__init__"=some (some (.ref fI))/\Qz K (.ref fI)=true
 c:YX K C (.ref R::vE)
 r:YX K R vE
 ri:Qk K "__init__" (.ref R)=some none
 kp:OT K (.ref C)=true
def sd(P:V->Prop)(n0:Nat)(C:Addr)(f:Str)(te:TE):TE:=fun σ H Q=>te σ H fun v H1=>P v /\
 ∀a dx,n0<=a->H1 a=none->H1 dx=none->dx≠a->Q (.ref a) (upd (upd H1 dx (.xd [(f,v)])) a (.ext (YG a C (some dx))))
section
variable {X:Cx}{C R:Addr}{f:Str}{k:Nat}
theorem qv(G:Yp P X.prog X.w X.K X.mg X.base C R f k)(hr:X0 (k+1) X.A)(hg:Gl X cn)(hm:X.mg cn=some (.ref C))(he:PE X e te)
  (YN:(cn == ("__debug__" : Str))=false:=by decide) (hs:NR [e] X.env=[(false,eval e X.env)]:=by rfl) :
  PE X (.Call (.Name cn p) [e] [] pos) (sd P X.s₀.heap.objs.size C f te):=by
 intro pins s σ H Q I h;obtain⟨fI,fd,ps,F,hb,hi,hf⟩:=G.ex;refine PY (gM I hg hm ?_ YN);have pa:PA X [e] (jY te kb):=bf he bR (by rw[hs];rfl)
 have hA:=pa pos pins s σ H (fun vs H1=>match vs with
  |[v]=>P v/\∀a dx,X.s₀.heap.objs.size<=a->H1 a=none->H1 dx=none->dx≠a->Q (.ref a) (upd (upd H1 dx (.xd [(f,v)])) a (.ext (YG a C (some dx))))
  | _=>False) I h
 refine Qo (h₀:=X.base) I.ok.mod.kin G.kp (Ya hA fun us s1 ⟨vs,H1,I1,r1,q⟩=>⟨I1.kIn,?_⟩) (by rw[hs];rfl) rfl;dsimp only at q;split at q
 .rename_i v
  obtain⟨hx,q⟩:=q
  obtain⟨u,us1,rfl,r2,r3⟩:∃a b,us=a::b/\RelV v a/\XC [] b:=by cases r1 with|cons a b=>exact⟨_,_,rfl,a,b⟩
  cases r3;have Kg:=I1;obtain⟨hp,g,d,tk,os⟩:=s1;refine zgl I1.kIn G.c G.r G.ri hi hf (show 1<=NX by decide) fun h' a Ef HJ=>?_;obtain⟨t,m1,m2,m3⟩:=Ef.there;have fr:H1 a=none:=I1.hok.fresh HJ;have I2:=Kg.laid (h':=h') (a:=a) (o:=.ext (YG a C none)) (t':=tk) Ef.keeps HJ (YG.ok ⟨t,m1⟩)
  have hl:(Ol a::[u]).length=ps.length:=by
   have:=F.len [.ref a,v] (upd H1 a (.ext (YG a C none))) (fun _ H2=>True) E0 ⟨a,v,rfl,bu,hx,fun _ _ _=>trivial⟩;simpa using this
  have C8:=hb ⟨h',g,d,tk,os⟩ [.ref a,u] I2.kIn (by simpa using hl);refine RO (Q8 (F.run _ X.stack ⟨h',g,d,tk,os⟩ (upd H1 a (.ext (YG a C none))) ⟨[.ref a,u],[]⟩ [.ref a,u] [.ref a,v] (fun w H2=>w=.non/\Q (.ref a) H2) E0 ?_ (I2.env0.make C [u] []) (by simpa using C8) (.cons rfl (.cons r2 .nil)) ⟨a,v,rfl,bu,hx,fun dx h1 h2=>⟨rfl,?_⟩⟩) fun r s' hq=>?_)
  .exact hr.make C [u] []
  .rw[zgp h2]
   have C0:H1 dx=none:=by rw[aX h2] at h1;exact h1
   exact q a dx (Oc I1.sz HJ) fr C0 h2
  .cases r with
   |error e=>exact ON hq
   |ok fl=>
    cases fl with
    |ret u'=>
     obtain⟨v,H3,I3,rv,ev,q'⟩:=I2.after hq;subst ev;exact⟨rv,.ref a,H3,I3,rfl,q'⟩
    |next=>exact ON hq
    |brk=>exact ON hq
    |cont=>exact ON hq
 .exact ON q
end
end XE
namespace XE
open L2 D
def ba(K:Frag)(n:Nat)(C:Addr)(f:Str)(m:List W->Tp->Option (Int×Tp)):Sp:=fun vs H _ E=>∃(O:Addr->Prop) (ts:List Addr) (T:Tp) (ws:List W) (x:Int) (T':Tp),HC K O ts H T/\gr K O ts H vs ws/\ws.length=n/\dJ ws=true/\m ws T=some (x,T') /\
 ∀dx H',XQ ts H H'->HC K O ts H' T'->H' dx=some (.xd [(f,.int x)])->E (.ref C) (some dx) H'
end XE
namespace D
open L2
def Jo(_ j:Int):Prop:=0<j/\j<18446744073709551616
def gp:NN->NN->Option PyData:=EM fun i j=>if 0<j/\j<18446744073709551616 then some (.int (i / j)) else none
theorem zhd(h:y.natAbs<18446744073709551616):Builtin.divisionGoesByPylong x y=false:=by
 refine PyProof.noPylong_of_log2 ?_
 by_cases h0:y.natAbs=0
 .simp_all
 .have h30:y.natAbs.log2<64:=(Um h0).mpr h
  omega
section
variable {X:Cx}
theorem zhe:YQ X (Pw .FloorDiv) (rI Jo fun i j=>.int (i / j)):=Bd fun i j _ _ _ _ _ hc q=>by
 have h1:=hc.1;have h2:=hc.2;exact floordiv_int (by omega) (by rw[Int.fdiv_eq_ediv_of_nonneg i (by omega)];exact q) (.inl (zhd (by omega)))
theorem kS:Z9 X (Pw .FloorDiv) gp:=⟨_,zhe,qS fun i j d e=>by
 split at e
 .rename_i h;cases e;exact⟨h,fun _ _=>.int _⟩
 .cases e⟩
end
end D
namespace D
open L2
def IP:NN->Option NN
 |.list xs=>some (.list xs.reverse)
 |_=>none
@[simp] theorem LY:IP (.list xs)=some (.list xs.reverse):=rfl
def dd:List Str->List Str
 |[]=>[]
 |a::r=>if a∈r then dd r else a::dd r
end D
namespace L2
def Jt:NO->Str
 |.str k _=>k
 |_=>""
section
variable {P:NU}{w:N8}{A:OF}{E:NO->NP->Prop}{s:NP}
def TupAt(h:Heap)(q:Addr)(pl:Array NO):Prop:=∃o n,h.get? q=some o/\o.data=.seq pl n
end
end L2
namespace D
open L2
theorem zhf:P0 "enumerate"=some (.type "enumerate"):=by decide +kernel
def zM(K:Frag)(a:Addr):It:=⟨fun i H=>∃xs,Y8 K H a xs/\i<xs.length,fun i H x H'=>∃p v,H p=none/\(∀xs,Y8 K H a xs->xs[i]? = some v)/\x=.ref p/\H'=upd H p (.tup [.int (i:Int),v]),fun i H=>∃xs,Y8 K H a xs/\i=xs.length⟩
theorem zhg{P:NU}{w:N8}{K:Frag}{E2:List Expr}{x1:Nat}{Yl:Pos}{l e it:Addr}(zY:e≠it)(hle:l≠e)(hli:l≠it):Turn P w K (.Tuple E2 x1 Yl) (zM K l) [e,it] e (fun i h=>(∃old,IsEnum h e it i old)/\h.IsListIter it l i) where
 mem:=by simp
 obj:=fun i h st b hb=>by
  obtain⟨⟨old,a1⟩,⟨o4,a4,_,d4⟩⟩:=st;simp only[N4,Pd,or_false] at hb
  rcases hb with e|e <;> subst e
  .exact⟨_,a1,fun v z=>nomatch (show Xh _=Data.cell v from z)⟩
  .exact⟨_,a4,fun v z=>by rw[d4] at z;cases z⟩
 keep:=fun i h h' st k=>by
  obtain⟨⟨old,a1⟩,⟨o4,a4,r⟩⟩:=st;exact⟨⟨old,k e (by simp) _ a1⟩,o4,k it (by simp) _ a4,r⟩
 item:=by
  intro X hP hw hK hc i pins s σ H E I hf st hg;subst hP hw hK;obtain⟨xs,hx,k1⟩:=hg;obtain⟨⟨old,a1⟩,a4⟩:=st;obtain⟨Xx,rx,px,_⟩:=I.list hx;obtain⟨u,hu,ru⟩:=rx.get (P2 k1);have X4:=rx.length;have Ck:s.heap.IsList l Xx.toArray:=px.isList;refine wpAny_pyNext_enum_itemD (Xp (A:=X.A.in1) (by simp[I.ok.hd hc]) it l hli Xx.toArray) a1 ⟨a4,Ck⟩ (by simp;omega) zY (by simp only[N4,Pd,or_false,not_or];exact⟨zY,PV hle⟩) fun x h' tk Ip b1 b2 b3 b4 b5=>?_
  have ex:x=u:=by
   have h2:Xx.toArray[i]? = some u:=by simpa using hu
   rw[h2] at Ip;exact(Qc Ip).symm
  subst ex;refine⟨.ref s.heap.objs.size,rfl,wpAny_letOwnedTupleGo_enum b1 fun Ka c1 c2=>?_⟩;have hn:H s.heap.objs.size=none:=I.hok.fresh (Of _);have le:e<s.heap.objs.size:=N5 a1
  have l1:it<s.heap.objs.size:=by obtain⟨_,e,_⟩:=a4;exact N5 e
  have T1:V5 (s.heap.push { cls:=.type "tuple",data:=.seq #[.int i tk,x] }) s.heap.objs.size #[.int i tk,x]:=Us ..
  have I1:Inv X pins σ (upd H s.heap.objs.size (.tup [.int (i:Int),xs[i]])) { s with heap:=s.heap.push { cls:=.type "tuple",data:=.seq #[.int i tk,x] } }:=
   I.laid (t':=s.toks) (o:=.tup [.int (i:Int),xs[i]]) (fun b ob e=>NQ _ e) (Of _) ⟨by show 2<=NX;decide,[.int i tk,x],.cons ⟨tk,rfl⟩ (.cons ru .nil),T1⟩
  have nn:∀b∈[e,it],b≠s.heap.objs.size:=fun b hb q=>by
   simp only[N4,Pd,or_false] at hb
   rcases hb with z|z <;> rw[q] at z
   .exact Qe le z
   .exact Qe l1 z
  have f':∀b∈[e,it],cV X pins (upd H s.heap.objs.size (.tup [.int (i:Int),xs[i]])) b:=fun b hb=>by
   obtain⟨f0,fr⟩:=hf b hb;exact⟨by rw[aX (nn b hb)];exact f0,fr⟩
  have I2:Inv X pins σ (upd H s.heap.objs.size (.tup [.int (i:Int),xs[i]])) { s with heap:=Ka,toks:=tk+1 }:=vp (s:={ s with heap:=s.heap.push { cls:=.type "tuple",data:=.seq #[.int i tk,x] } }) (t':=tk+1) (h':=Ka) (fp:=[e,it]) I1 (fun b ob hb q=>by
   simp only[N4,Pd,or_false,not_or] at hb
   by_cases z:b=s.heap.objs.size
   .subst z
    have q':some _=some ob:=(Ox _ rfl).symm.trans q;cases q';exact(c2.2 _ hb.1).trans b3
   .rw[Heap.get?_push_ne _ _ _ z] at q
    exact(c2.2 b hb.1).trans (b5 b ob hb.1 hb.2 q)) f'
  refine⟨.ref s.heap.objs.size,_,I2,rfl,⟨s.heap.objs.size,xs[i],hn,fun xs' h=>by rw[I.list_inj h hx];exact P2 k1,rfl,rfl⟩,?_,fun b hb=>(f' b hb).1⟩;obtain⟨o,eo,ro⟩:=b2.1;exact⟨⟨_,c1⟩,o,(c2.2 it (PV zY)).trans eo,ro⟩
 done:=by
  intro X hP hw hK hc i pins s σ H E I hf st hg;subst hP hw hK;obtain⟨xs,hx,k⟩:=hg;obtain⟨⟨old,a1⟩,a4⟩:=st;obtain⟨Xx,rx,px,_⟩:=I.list hx;have h1:=rx.length;have Ck:s.heap.IsList l Xx.toArray:=px.isList
  have hs:Xx.toArray.size=i:=by simp;omega
  refine wpAny_pyNext_enum_endD (Xp (A:=X.A.in1) (by simp[I.ok.hd hc]) it l hli Xx.toArray) a1 ⟨by rw[hs];exact a4,Ck⟩ fun h' b7=>⟨rfl,vp (t':=s.toks) (fp:=[e,it]) I (fun b ob hb q=>?_) hf⟩;simp only[N4,Pd,or_false,not_or] at hb;exact b7 b ob hb.2 q
 self:=fun _ _ _ _ _ st h=>let ⟨old,he⟩:=st.1;Vg he h
section
variable {X:Cx}{pos:Pos}
def G7(K:Frag)(ta:TA):TI:=fun σ H R=>ta σ H fun vs H1=>∃a xs,vs=[.ref a]/\Y8 K H1 a xs/\(xs.length<=NX->R (zM K a) H1)
theorem uP(hg:Gl X "enumerate")(hm:X.mg "enumerate"=none)(ha:PA X [a] ta)(hs:NR [a] X.env=[(false,eval a X.env)]) :
  PI X (.Tuple E2 x1 Yl) (.Call (.Name "enumerate" p) [a] [] pos) (G7 X.K ta):=by
 intro pins s σ H R I h;refine Call_ (li I hg hm zhf (QW (Ya (ha pos pins s σ H _ I h) fun us s1 ⟨vs,H1,I1,r1,q1⟩=>?_) hs rfl));obtain⟨l,xs,e,hx,q⟩:=q1;subst e
 cases r1 with
 |cons r rr=>
  cases rr;cases r;obtain⟨Xx,rx,px,zx⟩:=I1.list hx;have Ck:s1.heap.IsList l Xx.toArray:=px.isList
  have L1:l<s1.heap.objs.size:=by obtain⟨_,e,_⟩:=Ck;exact N5 e
  refine call_enumerate_list Ck fun h' c1 c2 c3 c7=>?_;have I2:Inv X pins σ H1 { s1 with heap:=h' }:=I1.kept (t':=s1.toks) c7;refine Vg c1 ⟨s1.heap.objs.size+1,[s1.heap.objs.size+1,s1.heap.objs.size],_,_,H1,rfl,I2,zhg (Nat.succ_ne_self _) (Ot (QZ L1)) (Ot L1),⟨⟨_,c1⟩,c2⟩,fun b hb=>?_,q zx⟩
  have C8:s1.heap.objs.size<=b:=by
   simp only[N4,Pd,or_false] at hb
   rcases hb with q|q <;> rw[q] <;> first|exact Nat.le_add_right _ _|exact Of _
  exact I1.fpOk C8 (I1.hok.fresh C8)
end
def jc(i j:Nat)(body:FS):Nat->List NN->FS
 |n,x::xs=>fun ρ T=>XI (body ((ρ.set i (some (.d (.int (n:Int))))).set j (some (.d x))) T) fun p T1=>match p with
  |(.nx,Yc)=>jc i j body (n+1) xs Yc T1
  |(.ct,Yc)=>jc i j body (n+1) xs Yc T1
  |(.bk,Yc)=>some ((.nx,Yc),T1)
  |(.rt x,Yc)=>some ((.rt x,Yc),T1)
  |(.ro x,Yc)=>some ((.ro x,Yc),T1)
 |_,[]=>aR
def xQ(i j:Nat)(body:FS)(ρ:XD)(w:W)(T:Tp):Option ((Fl×XD)×Tp):=match w with
 |.d (.list xs)=>jc i j body 0 xs ρ T
 |_=>none
def lr(i j:Nat)(f:FE)(body:FS):FS:=fun ρ T=>XI (f ρ T) fun w T1=>xQ i j body ρ w T1
theorem zhh(hm:X.mg "enumerate"=none)(hN:X.N.Nodup)(ha:DE X a f)(hb:C9 X body g)(hg:Gl X "enumerate":=by rfl)(hi:X.N[i]? = some x:=by rfl)(hj:X.N[j]? = some y:=by rfl)(hx:Loc X.env.scope x:=by first|exact Qp rfl|exact PZ rfl)(hy:Loc X.env.scope y:=by first|exact Qp rfl|exact PZ rfl)
  (hf:X.fn x=true\/X.env.scope.names.lookup x=some .local:=by first|exact .inl rfl|exact .inr rfl|assumption) (Jm:X.fn y=true\/X.env.scope.names.lookup y=some .local:=by first|exact .inl rfl|exact .inr rfl|assumption) (hp:SR (Os X.prog X.w) X.A X.env X.xe:=by exact Tz) (hc:X.calm=true:=by rfl)
  (Ff:NR [a] X.env=[(false,eval a X.env)]:=by exact kE rfl) (Zy:NR [] X.env=[]:=by rfl) (hs:∀v,Pe (.Call (.Name "enumerate" zp) [a] [] cpos) X.env v=pure v:=by intro _;rfl) :
  DS X (.For (.Tuple [.Name x px,.Name y py] k Yl) (.Call (.Name "enumerate" zp) [a] [] cpos) body [] pos) (lr i j f g):=by
 refine⟨?_⟩;refine dH (q5 hp hc (uP (ta:=jY (lift X.K f) kb) hg hm (bf ha.pe bR (by rw[Ff,Zy])) Ff) (zsr hc (mv (kQ hN hi hx hf) (mv (kQ hN hj hy Jm) zsq))) hb.pe hs) fun D σ H=>?_;rintro⟨O₀,H₀,F,ts,O,ρ,T,fl,ρ',T',rs,e,q⟩;obtain⟨w1,T1,e1,e⟩:=aF e;refine⟨O,ts,ρ,T,w1,T1,rs.hc,rs.re,e1,fun v1 H1 s1 Xy r1=>?_⟩;have Z4:=rs.step s1 Xy
 have hw:∃dx,w1=.d (.list dx):=by
  unfold xQ at e;split at e
  .exact⟨_,rfl⟩
  .cases e
 obtain⟨dx,rfl⟩:=hw;have Hs:Rep X.K O H1 v1 (.list dx):=r1
 cases Hs with
 |@lst la vx _ tx rx=>
 refine⟨la,vx,rfl,tx.sq,fun zx=>?_⟩;have lx:=rx.length;refine⟨fun n m σ H=>m=dx.length-n/\n<=dx.length/\∃O' Br Tk,RS X.K O₀ H₀ ((O,H1)::F) ts O' H σ Br Tk/\jc i j g n (dx.drop n) Br Tk=some ((fl,ρ'),T'),⟨_,rfl,QK _,O,ρ,T1,Z4.more,e⟩,?_⟩;rintro n m YW H3 ⟨rfl,hk,O',Br,Tk,Zb,ek⟩;have le:=Zb.frs _ NZ;have HL:=(tx.mono le).sq
 by_cases ZU:n<dx.length
 .refine .inr ⟨⟨vx,HL,by omega⟩,fun YW H3=>∃O' Br Tk,RS X.K O₀ H₀ ((O,H1)::F) ts O' H3 YW Br Tk/\jc i j g (n+1) (dx.drop (n+1)) Br Tk=some ((fl,ρ'),T'),fun YW H3 nn=>⟨dx.length-(n+1),by omega,rfl,ZU,nn⟩,fun v H4 yy=>?_⟩
  obtain⟨p,v',Ew,kx,rfl,rfl⟩:=yy;obtain⟨d1,Ep,AF⟩:=rx.get (kx vx HL)
  have Iu:dx.drop n=d1::dx.drop (n+1):=by rw[Pr ZU,(NS.mp Ep).2]
  rw[Iu] at ek;obtain⟨⟨EG,Yc⟩,T3,e3,ek⟩:=aF ek;have z5:=Zb.step (.new Ew (.tup [.int (n:Int),v'])) (Zb.hc.new Ew _);have F5:=le.trans (Zb.hc.leNew Ew (.tup [.int (n:Int),v']));refine⟨p,_,rfl,Zz.of bu,rfl,_,_,rfl,_,_,rfl,rfl,O₀,H₀,(O,H1)::F,ts,O',_,Tk,EG,Yc,T3,(z5.set (i:=i) (w:=.d (.int (n:Int))) (Rep.int _) (fun _ z=>nomatch z)).set (i:=j) (w:=.d d1) (Rep.mono F5 AF) (fun _ z=>nomatch z),e3,?_⟩
  cases EG with
  |nx=>exact fun O3 YW H3 Zb=>⟨O3,Yc,T3,Zb,ek⟩
  |ct=>exact fun O3 YW H3 Zb=>⟨O3,Yc,T3,Zb,ek⟩
  |bk=>
   cases ek;exact fun O3 YW H3 Zb=>q O3 YW H3 Zb.less
  |rt x=>
   cases ek;exact q
  |ro x=>
   cases ek;exact q
 .rw[OU (show dx.length<=n by omega)] at ek
  cases ek;exact .inl ⟨⟨vx,HL,by omega⟩,q O' YW H3 Zb.less⟩
inductive uw(P:Hp->(Bool->Hp->Prop)->Prop):Hp->(Bool->Hp->Prop)->Prop where
 |done {H:Hp}{Q:Bool->Hp->Prop}:P H Q->uw P H Q
 |frz {H:Hp}{Q:Bool->Hp->Prop}{a:Addr}{kvs:List (Key×V)}:H a=some (.dK kvs)->(∀o,uw P (upd H a (.frz o (.dK kvs))) (fun b H2=>H2 a=some (.frz o (.dK kvs))/\Q b (upd H2 a (.dK kvs))))->uw P H Q
end D
namespace XO
open L2
open XE (Kp forget cx da dS YX vE YG)
def XR(e C:Addr)(dx:Option Addr)(tb:NO)(h:Heap):Prop:=∃t,h.get? e=some { cls:=.ref C,dict:=dx,data:=.fields #[.ref t,tb,.none,.none,.bool false,.none] }
def TB(T:Addr)(fl:NO)(h:Heap):Prop:=∃oT ts,h.get? T=some oT/\oT.data=.fields ts/\ts[3]? = some fl
section
variable {M:U1}{A:OF}{E:NO->NP->Prop}{s:NP}{base:Heap}{env:Env}{outer:List Env}{L e C T:Addr}{dx:Option Addr}
theorem qJ(BO:A.frames=some (env::outer))(hl:s.heap.FunFrames base (env::outer))(hf:env.frame=some L)(hx:XR e C dx tb s.heap)
  (k:∀h' T,s.heap.objs.size<=T->XR e C dx (.ref T) h'->TB T (SN L) h'->T≠e->Kp [e] (frs (env::outer)) s.heap h'->Q () { s with heap:=h' }) :
  Oy M A (do let a ←frameOf env;let pl ←entryPlaceOf L hn;let b ←UG head a .none (SN L) .none pl;setField (.ref e) 1 b) Q E s:=by
 obtain⟨t,he⟩:=hx
 have hen:e∉(env::outer).filterMap (·.frame):=fun hm=>by
  obtain⟨_,o,ho,hnf⟩:=hl.mem hm;rw[he] at ho;cases ho;exact hnf _ rfl
 refine NT (wpAny_frameOf_fun BO hl hf fun h1 hs=>?_);refine NT (wpAny_entryPlaceOf fun pl Yo=>?_);unfold UG newFields;refine NT (Pu ?_ (Yo.sizeOk5 _ _ _ _ _));have he1:=(hs.2.1 e hen).trans he;generalize eo:(Obj.mk (.type "traceback") none (.fields ([head,.ref L,.none,SN L,.none]++(if pl.isEmpty then OA 6 PH else pl)).toArray) #[])=oT
 have eT:oT.data=.fields ([head,.ref L,.none,SN L,.none]++(if pl.isEmpty then OA 6 PH else pl)).toArray:=by rw[←eo]
 have zT:=NQ (h:=h1) oT he1;refine RE zT rfl (by simp) ?_;have ne:h1.objs.size≠e:=Qe (N5 he1);have sz:h1.objs.size=s.heap.objs.size:=hs.1;refine k _ h1.objs.size (by rw[sz];exact Of _) ⟨t,?_⟩ ⟨oT,_,?_,eT,by simp⟩ ne ⟨fun b o q n m=>?_,fun b o q n m=>?_,fun b o q=>?_⟩
 .rw[O9 _ zT rfl]
  rfl
 .rw[Om _ _ ne.symm]
  exact Q1 rfl (Qt eT)
 .rw[Om _ _ (fun z=>n (by simp[z]))]
  exact NQ _ ((hs.2.1 b m).trans q)
 .obtain⟨sl,q'⟩:=hs.2.2 b o q
  refine⟨sl,?_⟩;rw[Om _ _ (fun z=>n (by simp[z]))];exact NQ _ q'
 .by_cases hb:b=e
  .subst hb
   exact⟨_,O9 _ zT rfl⟩
  .obtain⟨sl,q'⟩:=hs.2.2 b o q
   exact⟨_,(Om _ _ (PV hb)).trans (NQ _ q')⟩
theorem zhi(BO:A.frames=some (env::outer))(hl:s.heap.FunFrames base (env::outer))(hf:env.frame=some L)(hx:XR e C dx .none s.heap)
  (k:∀h' T,s.heap.objs.size<=T->XR e C dx (.ref T) h'->TB T (SN L) h'->T≠e->Kp [e] (frs (env::outer)) s.heap h'->Q () { s with heap:=h' }):Oy M A (Si (.ref e) env) Q E s:=by
 obtain⟨t,he⟩:=id hx;unfold Si;simp only[hf];refine NT (Qj he rfl  rfl ?_);exact qJ BO hl hf hx k
theorem jR(hx:XR e C dx (.ref T) s.heap)(ht:TB T fl s.heap)(ne:T≠e)(k:∀h',XR e C dx (.ref T) h'->TB T .none h'->Kp [T] [] s.heap h'->Q () { s with heap:=h' }) :
  Oy M A (VC (.ref e) none) Q E s:=by
 obtain⟨t,he⟩:=hx;obtain⟨oT,ts,hT,hd,h3⟩:=ht;have sz:=(Pp.mp h3).1;refine NT (Qj he rfl  rfl ?_);have dt:=Rn hd (·.setIfInBounds 3 PH);have self:=O9 _ hT (Qt dt);refine RE hT hd sz (k _ ⟨t,?_⟩ ⟨_,_,self,dt,by simp[sz]⟩ ⟨fun b o q n _=>?_,fun b o q n m=>absurd m (by simp),fun b o q=>?_⟩)
 .rw[Om _ _ ne]<;>omega
 .rw[Om _ _ (fun z=>n (by simp[z]))]
  exact q
 .by_cases hb:T=b
  .subst hb;exact⟨_,self⟩
  .exact⟨o,by rw[Om _ _ hb];exact q⟩
theorem mS(BO:A.frames=some (env::outer))(hl:s.heap.FunFrames base (env::outer))(hf:env.frame=some L)(hx:XR e C dx (.ref T) s.heap)(ht:TB T .none s.heap)(ne:T≠e)
  (k:∀h' T',s.heap.objs.size<=T'->XR e C dx (.ref T') h'->TB T' (SN L) h'->T'≠e->Kp [e,T] (frs (env::outer)) s.heap h'->Q () { s with heap:=h' }):Oy M A (Si (.ref e) env) Q E s:=by
 obtain⟨t,he⟩:=id hx;obtain⟨oT,ts,hT,hd,h3⟩:=id ht;have sz:=(Pp.mp h3).1;unfold Si;simp only[hf];refine NT (Qj he rfl (x:=.ref T) rfl ?_);refine NT (Qj hT hd h3 ?_);have dt:=Rn hd (·.setIfInBounds 3 PH);have self:=O9 (SO (·.setIfInBounds 3 PH)) hT (Qt dt)
 have kp:Kp [e,T] (frs (env::outer)) s.heap (s.heap.update T (SO (·.setIfInBounds 3 PH))):=by
  refine⟨fun b o q n _=>?_,fun b o q n m=>⟨o.slots,?_⟩,fun b o q=>?_⟩
  .rw[Om _ _ (fun z=>n (by simp[z]))]
   exact q
  .rw[Om _ _ (fun z=>n (by simp[z]))]
   exact q
  .by_cases hb:T=b
   .subst hb;exact⟨_,self⟩
   .exact⟨o,by rw[Om _ _ hb];exact q⟩
 have fn:=kp.fun_ (fun x hx=>by
  rcases N4.mp hx with z|z
  .exact⟨_,_,z ▸ he,rfl⟩
  .exact⟨_,_,(Od.mp z) ▸ hT,hd⟩) hl
 refine NT (RE hT hd sz ?_);refine qJ (base:=base) BO fn hf ⟨t,by rw[Om _ _ ne];exact he⟩ fun h' T' g1 g2 g3 g4 g5=>?_
 refine k h' T' ?_ g2 g3 g4 (kp.trans (g5.more fun x hx=>by simp at hx;simp[hx]))<;>simp_all
end
theorem zhj(u:Un fs [] H0 H2 h0 h2)(k:Kp xs B0 h2 h3)(nx:∀x∈xs,h0.objs.size<=x)(nf:∀x∈B0,x∈fs\/h0.objs.size<=x)(ha:∀o,H2 a=some o->∃φ,o=.ext φ) :
  Un fs [] H0 (forget a H2) h0 h3:=by
 have lt:∀{b:Addr}{o:Obj},h0.get? b=some o->b<h0.objs.size:=fun e=>N5 e;have BD:∀{b:Addr}{o:Obj},h0.get? b=some o->b∉xs:=fun e z=>OK _ (N6 (lt e) (nx _ z));refine⟨fun b o q n m x=>?_,fun b o q n m x=>?_,fun b o q n x=>?_,fun b o q x=>?_,fun b xs e=>?_,fun b o u' e=>?_,fun b ps e=>?_⟩
 .refine k.keep b o (u.keep b o q n m x) (BD q) fun z=>?_
  rcases nf b z with z|z
  .exact m z
  .exact OK _ (N6 (lt q) z)
 .obtain⟨sl,e⟩:=u.slot b o q n m x
  by_cases z:b∈B0
  .obtain⟨Fv,e'⟩:=k.slot b _ e (BD q) z
   exact⟨Fv,e'⟩
  .exact⟨sl,k.keep b _ e (BD q) z⟩
 .have e:=u.free b o q n x
  by_cases z:b=a
  .rw[z];exact da
  .rw[cx z];exact e
 .obtain⟨o',e⟩:=u.there b o q x
  exact k.there b o' e
 .have e':=u.tups b xs e
  rw[cx (fun z=>by simp_all)];exact e'
 .have e':=u.frzs b o u' e
  rw[cx (fun z=>by simp_all)];exact e'
 .obtain⟨more,e'⟩:=u.tbls b ps e
  refine⟨more,?_⟩;rw[cx (fun z=>by simp_all)];exact e'
theorem zhk(x:YR P w H h)(k:Kp xs fs h h')(nx:∀y∈xs,y=a\/H y=none)(nf:∀y∈fs,H y=none)(ha:∀o,H a=some o->∃φ,o=.ext φ):YR P w (forget a H) h':=by
 intro b o e
 have nb:b≠a:=fun z=>by rw[z,da] at e;cases e
 rw[cx nb] at e;refine(x b o e).stay (fun c u hc q=>?_) (fun c q=>?_) fun c ys q=>?_
 .have tr:∃v,H c=some v/\c≠a:=by
   rcases hc with rfl|hc
   .exact⟨_,e,nb⟩
   .exact⟨_,hc,fun z=>by simp_all⟩
  obtain⟨v,t1,t2⟩:=tr;refine k.keep c u q (fun z=>?_) fun z=>?_
  .rcases nx c z with z|z<;>simp_all
  .have:=nf c z<;>grind
 .rw[cx (fun z=>by simp_all)];exact q
 .rw[cx (fun z=>by simp_all)];exact q
def Ym(P:NU)(w:N8):CF:=fun outer H s E v s'=>∃e C dx T H',v=.ref e/\s'.os=s.os/\Sb s'.gens/\Un (frs outer) [] H H' s.heap s'.heap/\YR P w H' s'.heap/\s.heap.objs.size<=e/\s.heap.objs.size<=T/\T≠e /\
 XR e C dx (.ref T) s'.heap/\TB T .none s'.heap/\H' e=none/\H' T=none/\E (.ref C) dx H'
section
variable {P:NU}{w:N8}{K:Frag}{mg:Str->Option NO}{base:Heap}{N:List Str}{qual:Str}{scope:P4}{f C R:Addr}{XF:NO}{A:OF}{outer:List Env}{s0:NP}{H0:Hp}{E:XK}
theorem gone(I2:L2.Inv (bg (Ym P w) P w K mg base N qual scope f XF A outer s0 H0 E) pins σ H2 s2)(ha:∀o,H2 a=some o->∃φ,o=.ext φ)(ge:s0.heap.objs.size<=a)
  (g1:s0.heap.objs.size<=T) (hT:H2 T=none) (g2:XR a C dx (.ref T) h3) (g3:TB T fl h3) (g4:T≠a) (g5:Kp (a::xs) (frs (Pz qual scope s0.heap.objs.size f XF::outer)) s2.heap h3) (nx:∀y∈xs,s0.heap.objs.size<=y/\H2 y=none) (q:E (.ref C) dx (forget a H2)) :
  Oy (Os P w) A' (VC (.ref a) none) (fun _ Ah=>Ym P w outer H0 s0 E (.ref a) Ah) X' { s2 with heap:=h3 }:=by
 have st:=I2.env0;have un:=I2.base;have osq:s2.os=s0.os:=I2.os;have hok:YR P w H2 s2.heap:=I2.hok;refine jR g2 g3 g4 fun h4 j1 j2 j3=>?_
 have kp:Kp (a::T::xs) (frs (Pz qual scope s0.heap.objs.size f XF::outer)) s2.heap h4:=by
  refine(g5.more fun x hx=>by simp at hx;rcases hx with z|z <;> simp[z]).trans ?_;refine⟨fun b o q n _=>j3.keep b o q (fun z=>n (by simp at z;simp[z])) (by simp),fun b o q n m=>⟨o.slots,?_⟩,j3.there⟩;exact j3.keep b o q (fun z=>n (by simp at z;simp[z])) (by simp)
 refine⟨a,C,dx,T,forget a H2,rfl,osq,I2.bare,zhj un kp (fun x hx=>?_) (fun x hx=>?_) ha,zhk hok kp (fun y hy=>?_) st.frf ha,ge,g1,g4,j1,j2,da,?_,q⟩
 .simp at hx
  rcases hx with rfl|rfl|z<;>simp_all
 .have Ip:=hx
  unfold frs at Ip;rw[PN] at Ip;have BO:(Pz qual scope s0.heap.objs.size f XF).frame=some s0.heap.objs.size:=rfl;rw[BO] at Ip
  rcases N4.mp Ip with z|z
  simp_all
  .exact .inl z
 .simp at hy
  rcases hy with rfl|rfl|z<;>simp_all
 .rw[cx g4];exact hT
theorem zhl(h:H a=none):forget a H=H:=by
 funext b
 by_cases e:b=a
 .rw[e,da,h]
 .exact cx e
theorem passes:eK (Ym P w) (bg (Ym P w) P w K mg base N qual scope f XF A outer s0 H0 E) E:=by
 intro pins σ H1 s1 v s2 I1 hq;obtain⟨a,C,dx,T,H2,rfl,DR,ZC,Z6,ZJ,ge,C6,neT,xr,tb,fe,fT,q⟩:=hq;have I2:=I1.call'  DR Z6 ZJ ZC (fun b z=>absurd z (by simp));have st:=I2.env0;have JS:=I1.sz;have sz:=I2.sz;refine NT (mS      st.frames st.funs rfl xr tb neT fun h3 T3 g1 g2 g3 g4 g5=>gone  I2 (fun o ho=>by grind) (Oc JS ge) (Oc sz g1) (ZJ.fresh g1) g2 g3 g4 g5 (fun y hy=>?_) (by rw[zhl fe];exact q));rw[Od.mp hy];exact⟨Oc JS C6,fT⟩
def G2(n0:Nat)(C:Addr)(E:XK)(te:TE):TS:=fun _ σ H=>te σ H fun v H2=>∃a dx,v=.ref a/\n0<=a/\H2 a=some (.ext (YG a C dx))/\E (.ref C) dx (forget a H2)
theorem zhm(c:YX K C (.ref R::vE))(he:PE (bg (Ym P w) P w K mg base N qual scope f XF A outer s0 H0 E) e te) :
  PS (bg (Ym P w) P w K mg base N qual scope f XF A outer s0 H0 E) (.Raise (some e) none pos) (G2 s0.heap.objs.size C E te):=by
 intro pins s σ H D I h;rw[arm_exec_Raise];refine NT (SJ ?_);simp only[evalOpt,Xo];unfold raiseStmt;refine NT (NT (Ya (he pins s σ H _ I h) fun v s2 ⟨x,H2,I2,r2,a,dx,ex,ge,ha,q⟩=>NT (SJ (Ou ?_))));subst ex;obtain rfl:v=.ref a:=r2;obtain⟨t,BN⟩:=YG.of I2.hok ha;obtain⟨nm,qn,Nn,bs,sn,sub,ab,col,dd,k0,k1,k2,k3,k5,l,_⟩:=c;have hC:=I2.kIn _ _ l
 have hcB:(Ol C::Ol R::vE).contains (.type "BaseException")=true:=by simp
 have hh:=I2.ok.hd rfl;have st:=I2.env0;have sz:s0.heap.objs.size<=s2.heap.objs.size:=I2.sz;have hok:YR P w H2 s2.heap:=I2.hok
 have fin:(bg (Ym P w) P w K mg base N qual scope f XF A outer s0 H0 E).xe (.ref a) s2:=by
  show Oy (Os P w) (A.deeper (Pz qual scope s0.heap.objs.size f XF)) (V0 (Pz qual scope s0.heap.objs.size f XF) (.ref a)) (fun _ Ah=>Ym P w outer H0 s0 E (.ref a) Ah) (fun e' Ah=>Ym P w outer H0 s0 E e' Ah) s2;unfold V0;exact NT (zhi (base:=base) (outer:=outer) (C:=C) (dx:=dx) st.frames st.funs rfl ⟨t,BN⟩ fun h3 T g1 g2 g3 g4 g5=>gone (xs:=[]) I2 (fun o ho=>by rw[ha] at ho;cases ho;exact⟨_,rfl⟩) ge (Oc sz g1) (hok.fresh g1) g2 g3 g4 g5 (fun _ z=>nomatch z) q)
 obtain⟨hp,g,d,tk,os⟩:=s2
 repeat (first|with_reducible refine OG BN ?_|with_reducible refine OG hC ?_|wp_step)
 refine PP hC ?_;rw[hcB]
 repeat (first|with_reducible refine OG BN ?_|with_reducible refine OG hC ?_|wp_step)
 exact wpAny_raiseNew_none hh fin
end
end XO
namespace L2
section
variable {X:Cx}{pins:List (Addr×Obj)}{σ:St}{H:Hp}{s:NP}{x:Str}{scope:P4}{N':List Str}
theorem zhn(I:Inv X pins σ H s)(hf:∀b∈fp,cV X pins H b)
  (EL:C=(s.heap.push oD).objs.size) (J:Inv (cz X x scope C { s with heap:=s.heap.push oD } H (s.heap.objs.size::fp) N') Zr σ' H1 s1) (ZG:Qy C s1.heap h') :
  Inv X pins σ H1 { s1 with heap:=h' }:=by
 have hC:C=s.heap.objs.size+1:=by simp_all
 have nD:∀b o,s.heap.get? b=some o->b≠s.heap.objs.size:=fun b o e=>Ot (N5 e)
 have nC:∀b o,s.heap.get? b=some o->b≠C:=fun b o e=>by rw[hC];exact Ot (QZ (N5 e))
 have up:∀b o,s.heap.get? b=some o->(s.heap.push oD).get? b=some o:=fun b o e=>NQ _ e;have nx:∀b,b∉fp->b≠s.heap.objs.size->b∉s.heap.objs.size::fp:=fun b h1 h2 z=>(N4.mp z).elim h2 h1
 have Hr:∀b u,H1 b=some u->b≠C:=fun b u e z=>by
  rw[z] at e
  have q:H1 C=none:=J.free<;>grind
 have B:=J.base;refine I.call'  (ch:=fp) J.os ⟨fun b o e q h1 h2=>?_,fun b o e q h1 h2=>?_,fun b o e q h2=>?_,fun b o e h2=>?_,fun b xs e=>B.tups b xs e,fun b o u e=>B.frzs b o u e,fun b ps e=>B.tbls b ps e⟩ (fun b u e=>?_) J.bare fun b hb=>?_
 .exact(ZG.2 b (nC b o e)).trans (B.keep b o (up b o e) q h1 (nx b h2 (nD b o e)))
 .obtain⟨sl,z⟩:=B.slot b o (up b o e) q h1 (nx b h2 (nD b o e))
  exact⟨sl,(ZG.2 b (nC b o e)).trans z⟩
 .exact B.free b o (up b o e) q (nx b h2 (nD b o e))
 .obtain⟨o',z⟩:=B.there b o (up b o e) (nx b h2 (nD b o e))
  exact⟨o',(ZG.2 b (nC b o e)).trans z⟩
 .refine(J.hok b u e).stay (fun c v hc q=>(ZG.2 c ?_).trans q) (fun c q=>q) fun c xs q=>q
  rcases hc with z|z
  .rw[z];exact Hr b u e
  .exact Hr c _ z
 .obtain⟨_,f1,_,f3,f4,f5⟩:=hf b hb
  exact⟨f3,f1,f4,f5⟩
end
end L2
namespace XO
open L2
open XE (Kp forget cx da dS YX vE YG)
structure Kq(xs fs:List Addr)(h h':Heap):Prop where
 keep:∀b o,h.get? b=some o->b∉xs->b∉fs->h'.get? b=some o
 slot:∀b o,h.get? b=some o->b∉xs->b∈fs->∃sl,h'.get? b=some { o with slots:=sl }
theorem Kq.of(k:Kp xs fs h h')(m:∀x∈xs,x∈ys):Kq ys fs h h':=⟨fun b o q n=>k.keep b o q fun z=>n (m b z),fun b o q n=>k.slot b o q fun z=>n (m b z)⟩
theorem Kq.trans(a:Kq xs fs h h1)(b:Kq xs fs h1 h2):Kq xs fs h h2:=⟨fun c o q n m=>b.keep c o (a.keep c o q n m) n m,fun c o q n m=>let ⟨_,e⟩:=a.slot c o q n m;let ⟨sl,e2⟩:=b.slot c _ e n m;⟨sl,e2⟩⟩
theorem Kq.same{xs fs:List Addr}{h h':Heap}{C:Addr}(s:Qy C h h')(m:C∈xs):Kq xs fs h h':=⟨fun b o q n _=>(s.2 b fun z=>n (z ▸ m)).trans q,fun b o q n _=>⟨o.slots,(s.2 b fun z=>n (z ▸ m)).trans q⟩⟩
theorem zho(u:Un fs [] H0 H2 h0 h2)(k:Kq xs B0 h2 h3)(nx:∀x∈xs,h0.objs.size<=x)(nf:∀x∈B0,x∈fs\/h0.objs.size<=x):Un fs [] H0 H2 h0 h3:=by
 have lt:∀{b:Addr}{o:Obj},h0.get? b=some o->b<h0.objs.size:=fun e=>N5 e;have BD:∀{b:Addr}{o:Obj},h0.get? b=some o->b∉xs:=fun e z=>OK _ (N6 (lt e) (nx _ z));refine⟨fun b o q n m x=>?_,fun b o q n m x=>?_,u.free,fun b o q x=>?_,u.tups,u.frzs,u.tbls⟩
 .refine k.keep b o (u.keep b o q n m x) (BD q) fun z=>?_
  rcases nf b z with z|z
  .exact m z
  .exact OK _ (N6 (lt q) z)
 .obtain⟨sl,e⟩:=u.slot b o q n m x
  by_cases z:b∈B0
  .obtain⟨Fv,e'⟩:=k.slot b _ e (BD q) z
   exact⟨Fv,e'⟩
  .exact⟨sl,k.keep b _ e (BD q) z⟩
 .obtain⟨o',e⟩:=u.there b o q x
  by_cases z:b∈B0
  .obtain⟨sl,e'⟩:=k.slot b _ e (BD q) z
   exact⟨_,e'⟩
  .exact⟨_,k.keep b _ e (BD q) z⟩
theorem xO(x:YR P w H h)(k:Kq xs fs h h')(nx:∀y∈xs,H y=none)(nf:∀y∈fs,H y=none):YR P w H h':=by
 intro b o e;refine(x b o e).stay (fun c u hc q=>?_) (fun c q=>q) fun c ys q=>q
 have tr:∃v,H c=some v:=by
  rcases hc with rfl|hc
  .exact⟨_,e⟩
  .exact⟨_,hc⟩
 obtain⟨v,t1⟩:=tr
 refine k.keep c u q (fun z=>?_) fun z=>?_<;>grind
section
variable {M:U1}{A:OF}{E:NO->NP->Prop}{s:NP}{base:Heap}{env:Env}{outer:List Env}{L e C T:Addr}{dx:Option Addr}
theorem zhp(BO:A.frames=some (env::outer))(hl:s.heap.FunFrames base (env::outer))(hf:env.frame=some L)(hx:XR e C dx (.ref T) s.heap)(ht:TB T fl s.heap)(ne:T≠e)(k0:Q () s)
  (k:∀h' T',s.heap.objs.size<=T'->XR e C dx (.ref T') h'->TB T' (SN L) h'->T'≠e->Kp [e,T] (frs (env::outer)) s.heap h'->Q () { s with heap:=h' }):Oy M A (Si (.ref e) env) Q E s:=by
 obtain⟨t,he⟩:=id hx;obtain⟨oT,ts,hT,hd,h3⟩:=id ht;have sz:=(Pp.mp h3).1;unfold Si;simp only[hf];refine NT (Qj he rfl (x:=.ref T) rfl ?_);rw[if_pos (show (Ol T != PH)=true from by simp)];refine NT (Qj hT hd h3 ?_)
 by_cases hq:(fl == SN L)=true
 .rw[if_pos hq]
  exact Ou k0
 rw[if_neg hq];have dt:=Rn hd (·.setIfInBounds 3 PH);have self:=O9 (SO (·.setIfInBounds 3 PH)) hT (Qt dt)
 have kp:Kp [e,T] (frs (env::outer)) s.heap (s.heap.update T (SO (·.setIfInBounds 3 PH))):=by
  refine⟨fun b o q n _=>?_,fun b o q n m=>⟨o.slots,?_⟩,fun b o q=>?_⟩
  .rw[Om _ _ (fun z=>n (by simp[z]))]
   exact q
  .rw[Om _ _ (fun z=>n (by simp[z]))]
   exact q
  .by_cases hb:T=b
   .subst hb;exact⟨_,self⟩
   .exact⟨o,by rw[Om _ _ hb];exact q⟩
 have fn:=kp.fun_ (fun x hx=>by
  rcases N4.mp hx with z|z
  .exact⟨_,_,z ▸ he,rfl⟩
  .exact⟨_,_,(Od.mp z) ▸ hT,hd⟩) hl
 refine NT (RE hT hd sz ?_);refine qJ (base:=base) BO fn hf ⟨t,by rw[Om _ _ ne];exact he⟩ fun h' T' g1 g2 g3 g4 g5=>?_
 refine k h' T' ?_ g2 g3 g4 (kp.trans (g5.more fun x hx=>by simp at hx;simp[hx]))<;>simp_all
theorem zhq(hx:XR e C dx (.ref T) s.heap)(ht:TB T fl s.heap)(ne:T≠e)(k:∀h' GV,XR e C dx (.ref T) h'->TB T GV h'->Kp [T] [] s.heap h'->Q () { s with heap:=h' }) :
  Oy M A (VC (.ref e) fo) Q E s:=by
 obtain⟨t,he⟩:=hx;obtain⟨oT,ts,hT,hd,h3⟩:=ht;have sz:=(Pp.mp h3).1;refine NT (Qj he rfl  rfl ?_);have dt:=Rn hd (·.setIfInBounds 3 (fo.elim .none fun f=>SN f));have self:=O9 _ hT (Qt dt);refine RE hT hd sz (k _ (fo.elim .none fun f=>SN f) ⟨t,?_⟩ ⟨_,_,self,dt,by simp[sz]⟩ ⟨fun b o q n _=>?_,fun b o q n m=>absurd m (by simp),fun b o q=>?_⟩)
 .rw[Om _ _ ne]<;>omega
 .rw[Om _ _ (fun z=>n (by simp[z]))]
  exact q
 .by_cases hb:T=b
  .subst hb;exact⟨_,self⟩
  .exact⟨o,by rw[Om _ _ hb];exact q⟩
end
end XO
namespace XO
open L2
open XE (Kp forget cx da dS YX vE YG)
theorem Kq.more(k:Kq xs fs h h')(m:∀x∈xs,x∈ys):Kq ys fs h h':=⟨fun b o q n=>k.keep b o q fun z=>n (m b z),fun b o q n=>k.slot b o q fun z=>n (m b z)⟩
theorem Kq.any{xs fs B0:List Addr}{h h':Heap}(k:Kq xs [] h h'):Kq xs B0 h h':=⟨fun b o q n _=>k.keep b o q n (by simp),fun b o q n _=>⟨o.slots,k.keep b o q n (by simp)⟩⟩
theorem Kq.fun_(k:Kq xs fs h h'):∀{l:List Env},(∀b∈frs l,b∉xs)->h.FunFrames base l->h'.FunFrames base l
 |[],_,_=>trivial
 |env::l,nx,hl=>by
  obtain⟨h1,⟨L,o,e1,e2,e3,e4⟩,h3⟩:=hl
  have hm:L∈frs (env::l):=by
   unfold frs<;>simp_all
  have rest:∀b∈frs l,b∉xs:=fun b hb=>nx b (by
   unfold frs at hb ⊢<;>simp_all)
  refine⟨h1,⟨L,?_⟩,k.fun_ rest h3⟩
  by_cases z:L∈fs
  .obtain⟨sl,e⟩:=k.slot L o e3 (nx L hm) z
   exact⟨_,e1,e2,e,e4⟩
  .exact⟨o,e1,e2,k.keep L o e3 (nx L hm) z,e4⟩
section
variable {P:NU}{w:N8}{K:Frag}{mg:Str->Option NO}{base:Heap}{N:List Str}{qual:Str}{sc:P4}{f Cc:Addr}{XF:NO}{A:OF}{outer:List Env}{s0:NP}{H0:Hp}{E:XK}
theorem yM(I2:L2.Inv (bg (Ym P w) P w K mg base N qual sc f XF A outer s0 H0 E) pins σ H2 s2)
  (g2:XR a Cc dx (.ref T) h3) (g3:TB T fl h3) (g4:T≠a) (g5:Kq (a::T::xs) (frs (Pz qual sc s0.heap.objs.size f XF::outer)) s2.heap h3) (nx:∀y∈a::T::xs,s0.heap.objs.size<=y/\H2 y=none) (q:E (.ref Cc) dx H2) :
  Oy (Os P w) A' (VC (.ref a) none) (fun _ Ah=>Ym P w outer H0 s0 E (.ref a) Ah) X' { s2 with heap:=h3 }:=by
 have st:=I2.env0;refine jR g2 g3 g4 fun h4 j1 j2 j3=>?_;have kq:=g5.trans (Kq.any (fs:=[]) (Kq.of j3 fun x hx=>by simp_all));refine⟨a,Cc,dx,T,H2,rfl,I2.os,I2.bare,zho I2.base kq (fun x hx=>(nx x hx).1) (fun x hx=>?_),xO I2.hok kq (fun y hy=>(nx y hy).2) st.frf,(nx a NZ).1,(nx T (NV _ NZ)).1,g4,j1,j2,(nx a NZ).2,(nx T (NV _ NZ)).2,q⟩;have Ip:=hx;unfold frs at Ip;rw[PN] at Ip
 rcases N4.mp Ip with z|z
 simp_all
 .exact .inl z
theorem zhr(I:L2.Inv (bg (Ym P w) P w K mg base N qual sc f XF A outer s0 H0 E) pins σ H s)
  (hf:∀b∈fp,cV (bg (Ym P w) P w K mg base N qual sc f XF A outer s0 H0 E) pins H b) (EL:C=(s.heap.push oD).objs.size)
  (J:L2.Inv (cz (bg (Ym P w) P w K mg base N qual sc f XF A outer s0 H0 E) x scope C { s with heap:=s.heap.push oD } H (s.heap.objs.size::fp) N') Zr σ' H1 s1) (hq:Ym P w (Pz qual sc s0.heap.objs.size f XF::outer) H1 s1 E v s2) :
  Q0 (Os P w) (A.deeper (Pz qual sc s0.heap.objs.size f XF)) (P5 scope (bA (Pz qual sc s0.heap.objs.size f XF) scope.names []) C (Pz qual sc s0.heap.objs.size f XF))
   (fun e s'=>Wd (Os P w) (A.deeper (Pz qual sc s0.heap.objs.size f XF)) (bg (Ym P w) P w K mg base N qual sc f XF A outer s0 H0 E).xe use Q acc C (.error e) s') v s2:=by
 obtain⟨a,Cc,dx,T,H2,rfl,DR,ZC,Z6,ZJ,ge,C6,neT,xr,tb,fe,fT,q⟩:=hq;have J2:L2.Inv (cz (bg (Ym P w) P w K mg base N qual sc f XF A outer s0 H0 E) x scope C { s with heap:=s.heap.push oD } H (s.heap.objs.size::fp) N') Zr σ' H2 s2:=J.call' (ch:=[]) DR Z6 ZJ ZC (fun b z=>absurd z (by simp));have I2:L2.Inv (bg (Ym P w) P w K mg base N qual sc f XF A outer s0 H0 E) pins σ H2 s2:=zhn I hf EL J2 (h':=s2.heap) ⟨rfl,fun _ _=>rfl⟩;have st:=I2.env0;have Bc:s0.heap.objs.size<=s.heap.objs.size:=I.sz
 have JS:s.heap.objs.size<=C:=by rw[EL,PM];omega
 have F6:C<s1.heap.objs.size:=J.lt;have szs:s0.heap.objs.size<=s2.heap.objs.size:=I2.sz;have Jx:C<s2.heap.objs.size:=J2.lt;have hC2:H2 C=none:=J2.free;have aC:a≠C:=Qe (N6 F6 ge);have TC:T≠C:=Qe (N6 F6 C6)
 have fr2:∀b∈frs (Pz qual sc s0.heap.objs.size f XF::outer),H2 b=none/\b<C:=fun b hb=>by
  refine⟨st.frf b hb,?_⟩
  have h1:∃o,({ s with heap:=s.heap.push oD }:NP).heap.get? b=some o:=let ⟨_,o,h,_⟩:=J2.ok.funs.mem hb;⟨o,h⟩
  obtain⟨o,h1⟩:=h1;rw[EL];exact N5 h1
 show Oy (Os P w) _ (Si (.ref a) (Pz qual sc s0.heap.objs.size f XF)) _ _ s2;refine mS (base:=base) (outer:=outer) (C:=Cc) (dx:=dx) (T:=T) st.frames st.funs rfl xr tb neT fun h3 T3 g1 g2 g3 g4 g5=>?_;obtain⟨m,hn,_⟩:=J2.loc;have GN:s2.heap.Ns C m:=hn;refine⟨m,GN.at fun o e=>g5.keep C o e (by simp[PV aC,PV TC]) fun z=>OK _ (fr2 C z).2,fun h' sb cenv hcl=>?_⟩;have T3C:T3≠C:=Qe (N6 Jx g1)
 have xr':XR a Cc dx (.ref T3) h':=let ⟨t,e⟩:=g2;⟨t,(sb.2 a aC).trans e⟩
 have tb':TB T3 (SN s0.heap.objs.size) h':=let ⟨oT,ts,e1,e2,e3⟩:=g3;⟨oT,ts,(sb.2 T3 T3C).trans e1,e2,e3⟩
 unfold PySem.passOn;obtain⟨t,he⟩:=id xr';refine NT (Qj he rfl (x:=.ref T3) rfl ?_);rw[if_neg (show ¬((Ol T3 == PH)=true) from Ov)];refine NT (zhq xr' tb' g4 fun h4 GV j1 j2 j3=>wpAny_throw ?_);have AE:Kq [a,T3,T,C] (frs (Pz qual sc s0.heap.objs.size f XF::outer)) s2.heap h4:=(Kq.of g5 (ys:=[a,T3,T,C]) fun x hx=>by simp at hx ⊢;rcases hx with z|z <;> simp[z]).trans ((Kq.same sb (by simp)).trans (Kq.any (fs:=[]) (Kq.of j3 fun x hx=>by simp at hx;simp[hx])))
 have JQ:∀y∈[a,T3,T,C],s0.heap.objs.size<=y/\H2 y=none:=fun y hy=>by
  simp only[N4,Pd,or_false] at hy
  rcases hy with rfl|rfl|rfl|rfl
  .exact⟨Oc Bc (Oc JS (Oc (Q6 F6) ge)),fe⟩
  .exact⟨Oc szs g1,ZJ.fresh g1⟩
  .exact⟨Oc Bc (Oc JS (Oc (Q6 F6) C6)),fT⟩
  .exact⟨Oc Bc JS,hC2⟩
 have FY:=AE.fun_ (base:=base) (l:=Pz qual sc s0.heap.objs.size f XF::outer) (fun b hb z=>by
  have l:=(fr2 b hb).2;simp only[N4,Pd,or_false] at z
  rcases z with z|z|z|z
  .exact OK _ (Tn l (z ▸ N6 F6 ge))
  .exact OK _ (Tn l (z ▸ N6 Jx g1))
  .exact OK _ (Tn l (z ▸ N6 F6 C6))
  .exact OK _ (z ▸ l)) st.funs
 show Oy (Os P w) (A.deeper (Pz qual sc s0.heap.objs.size f XF)) (V0 (Pz qual sc s0.heap.objs.size f XF) (.ref a)) _ _ _;unfold V0;refine NT (zhp (base:=base) (outer:=outer) (L:=s0.heap.objs.size) st.frames FY rfl j1 j2 g4 (yM (s2:=s2) I2 j1 j2 g4 AE JQ q) fun h5 T5 r1 r2 r3 r4 r5=>?_)
 exact(yM (s2:=s2) (xs:=[T3,T,C]) I2 r2 r3 r4 ((AE.more fun x hx=>by simp at hx ⊢;rcases hx with z|z|z|z <;> simp[z]).trans (Kq.of r5 fun x hx=>by simp at hx ⊢;rcases hx with z|z <;> simp[z])) (fun y hy=>by
  simp only[N4,Pd,or_false] at hy
  rcases hy with z|z|z|z|z
  .exact JQ y (by simp[z])
  .exact⟨Oc (Q6 (N5 (FY.mem (b:=s0.heap.objs.size) (by rw[PN];exact NZ)).2.choose_spec.1)) (z ▸ r1),z ▸ (xO I2.hok AE (fun y hy=>(JQ y hy).2) st.frf).fresh r1⟩
  .exact JQ y (by simp[z])
  .exact JQ y (by simp[z])
  .exact JQ y (by simp[z])) q)
end
end XO
namespace L2
abbrev fL(X:Cx)(x:Str)(scope:P4)(C:Addr)(s0:NP)(H0:Hp)(ex:List Addr)(N':List Str)(E':NO->NP->Prop):Cx:={ cz X x scope C s0 H0 ex N' with xe:=E' }
section
variable {X:Cx}{pins:List (Addr×Obj)}{σ:St}{H:Hp}{s:NP}{x:Str}{scope:P4}{N':List Str}{P:NU}{w:N8}{K:Frag}{mg:Str->Option NO}{base:Heap}{N:List Str}{qual:Str}{sc:P4}{f:Addr}{XF:NO}{A:OF}{outer:List Env}{sq:NP}{Hq:Hp}{E:XK}{elt iter:Expr}{ifs:List Expr}{px pos:Pos}{wi:TI}{te:TE}{tt:TT}
theorem Inv.xe(I:Inv X pins σ H s):Inv { X with xe:=E' } pins σ H s:=by
 obtain⟨ok,a1,a2,a3,a4,a5,a6,a7,a8,a9,a10⟩:=I;obtain⟨b1,b2,b3,b4,b5,b6,b7,b8,b9,b10,b11,b12,b13,b14,b15,b16,b17,b18⟩:=ok;exact⟨⟨b1,b2,b3,b4,b5,b6,b7,b8,b9,b10,b11,b12,b13,b14,b15,b16,b17,b18⟩,a1,a2,a3,a4,a5,a6,a7,a8,a9,a10⟩
theorem zhs{fp:List Addr}{it C:Addr}{tn:Nat->Heap->Prop}{J:It}{oD:Obj}{elt iter:Expr}{ifs:List Expr}{px pos:Pos}{te:TE}{tt:TT}{W:Nat->Nat->List V->Hp->Prop}{Dn:List V->Hp->Prop}
  {R:Vt->NP->Prop}{σ':St}{s4:NP}{m0:Nat} (By:X.calm=true) (S:CS X.env.scope X.N x scope N') (hf:∀b∈fp,cV X pins H b) (ho:∀b∈fp,∃o,s.heap.get? b=some o) (EL:C=(s.heap.push oD).objs.size)
  (T:Turn X.prog X.w X.K (.Name x px) J fp it tn) (I4:Inv (fL X x scope C { s with heap:=s.heap.push oD } H (s.heap.objs.size::fp) N' (Q0 (Os X.prog X.w) X.A (P5 scope (bA X.env scope.names []) C X.env) fun e s'=>R (.error e) s')) [] (none::σ) H s4) (AH:tn 0 s4.heap) (AB:s4.heap.get? s.heap.objs.size=some { cls:=.type "list",data:=.seq #[] 0 })
  (AA:H s.heap.objs.size=none) (Ax:PE (fL X x scope C { s with heap:=s.heap.push oD } H (s.heap.objs.size::fp) N' (Q0 (Os X.prog X.w) X.A (P5 scope (bA X.env scope.names []) C X.env) fun e s'=>R (.error e) s')) elt te) (zU:Ei (fL X x scope C { s with heap:=s.heap.push oD } H (s.heap.objs.size::fp) N' (Q0 (Os X.prog X.w) X.A (P5 scope (bA X.env scope.names []) C X.env) fun e s'=>R (.error e) s')) ifs tt)
  (w0:W 0 m0 [] H) (turn:lU σ J tt te W Dn)
  (hR:∀s1 H1 E8 ys Xx n,Inv (fL X x scope C { s with heap:=s.heap.push oD } H (s.heap.objs.size::fp) N' (Q0 (Os X.prog X.w) X.A (P5 scope (bA X.env scope.names []) C X.env) fun e s'=>R (.error e) s')) [] E8 H1 s1->H1 s.heap.objs.size=none->XC ys Xx->s1.heap.get? s.heap.objs.size=some { cls:=.type "list",data:=.seq Xx.toArray n }->ys.length<=NX->Dn ys H1->R (.ok .next) s1) :
  Sd (Os X.prog X.w) X.A (.compLoop (.ListComp elt [⟨.Name x px,iter,ifs,0⟩] scope pos) 0 (.ref it) (.ref s.heap.objs.size) (P5 scope (bA X.env scope.names []) C X.env)) R s4:=by
 have hC:C=s.heap.objs.size+1:=by rw[EL];exact PM ..
 generalize hX:fL X x scope C { s with heap:=s.heap.push oD } H (s.heap.objs.size::fp) N' (Q0 (Os X.prog X.w) X.A (P5 scope (bA X.env scope.names []) C X.env) fun e s'=>R (.error e) s')=X' at *
 have xP:X'.prog=X.prog:=by rw[←hX]
 have xW:X'.w=X.w:=by rw[←hX]
 have xK:X'.K=X.K:=by rw[←hX]
 have xA:X'.A=X.A:=by rw[←hX]
 have xE:X'.env=P5 scope (bA X.env scope.names []) C X.env:=by rw[←hX]
 have xC:X'.calm=true:=by rw[←hX];exact By
 have FK:X'.ex=s.heap.objs.size::fp:=by rw[←hX]
 have FJ:X'.pn=[]:=by rw[←hX]
 have BC:X'.xe=Q0 (Os X.prog X.w) X.A (P5 scope (bA X.env scope.names []) C X.env) fun e s'=>R (.error e) s':=by rw[←hX]
 have xN:X'.N=x::N':=by rw[←hX]
 have xL:X'.env.locals=C:=by rw[xE];rfl
 have DQ:X'.env.scope.names.lookup x=some .local:=by rw[xE];exact Ue S.hx
 have lt:∀b∈fp,b<s.heap.objs.size:=fun b hb=>let ⟨_,e⟩:=ho b hb;N5 e
 have E7:∀{pl:List (Addr×Obj)}{H':Hp},(∀p∈pl,p.1=s.heap.objs.size)->(∀b∈fp,H' b=none)->∀b∈fp,cV X' pl H' b:=fun {pl H'} hp hn b hb=>by
  have EH:=I4.ok
  have hm:b∈X'.ex:=by rw[FK];exact NV _ hb
  refine⟨hn b hb,(EH.exf b hm).1,EH.exfs b hm,.inl hm,(EH.exf b hm).2,fun p Yo z=>?_⟩;rw[FJ] at Yo;have q1:=hp p (by simpa using Yo);have q2:=lt b hb;rw[←z,q1] at q2;exact OK _ q2
 have II:∀{pl:List (Addr×Obj)}{H':Hp},(∀p∈pl,p.1∈fp)->H' s.heap.objs.size=none->cV X' pl H' s.heap.objs.size:=fun {pl H'} hp hn=>by
  have EH:=I4.ok
  have hm:s.heap.objs.size∈X'.ex:=by rw[FK];exact NZ
  refine⟨hn,(EH.exf _ hm).1,EH.exfs _ hm,.inl hm,(EH.exf _ hm).2,fun p Yo z=>?_⟩;rw[FJ] at Yo;have q2:=lt p.1 (hp p (by simpa using Yo));rw[z] at q2;exact OK _ q2
 refine Tr (I:=fun m s'=>∃i B3 H' ys Xx n,Inv X' [] (B3::σ) H' s'/\tn i s'.heap/\(∀b∈fp,H' b=none)/\H' s.heap.objs.size=none/\XC ys Xx/\s'.heap.get? s.heap.objs.size=some { cls:=.type "list",data:=.seq Xx.toArray n }/\W i m ys H') ?_ m0
  ⟨0,none,H,[],[],0,I4,AH,fun b hb=>(hf b hb).1,AA,.nil,AB,w0⟩
 rintro m s5 ⟨i,B3,H5,ys,Xx,n,I5,IE,Ho,d5,rv,e5,w5⟩
 have HH:Inv X' ([]++fj [s.heap.objs.size] s5.heap) (B3::σ) H5 s5:=I5.pinned (fun b hb=>by
   have e:b=s.heap.objs.size:=by simpa using hb
   rw[e];exact II (fun p hp=>absurd hp (by simp)) d5) fun b hb=>by
   have e:b=s.heap.objs.size:=by simpa using hb
   rw[e];exact⟨_,e5,fun v z=>by cases z⟩
 have pD:([]++fj [s.heap.objs.size] s5.heap:List (Addr×Obj))=[(s.heap.objs.size,{ cls:=.type "list",data:=.seq Xx.toArray n })]:=by
  simp[fj,e5]
 rw[pD] at HH
 have p1:∀p∈[(s.heap.objs.size,({ cls:=.type "list",data:=.seq Xx.toArray n }:Obj))],p.1=s.heap.objs.size:=fun p hp=>by
  have e:p=(s.heap.objs.size,{ cls:=.type "list",data:=.seq Xx.toArray n }):=by simpa using hp
  rw[e]
 have hsz:Xx.length=ys.length:=rv.length.symm
 rcases turn i m ys H5 w5 with⟨stop,hz,dn⟩|⟨go,hz,N,hN,step⟩
 .have q:=T.done X' xP xW xK xC i _ s5 (B3::σ) H5 (Q0 (Os X.prog X.w) X.A (P5 scope (bA X.env scope.names []) C X.env) fun e s'=>R (.error e) s') HH (E7 p1 Ho) IE stop
  rw[xA] at q;refine O5 q (fun r s6 z=>?_) fun _ _ z=>z;obtain⟨rfl,I6⟩:=z;refine hR s6 H5 (B3::σ) ys Xx n ?_ d5 rv (I6.pin _ (On _ (Od.mpr rfl))).1 hz dn;exact I6.pins_of fun p hp=>absurd hp (by simp)
 .have q:=T.item X' xP xW xK xC i _ s5 (B3::σ) H5 (Q0 (Os X.prog X.w) X.A (P5 scope (bA X.env scope.names []) C X.env) fun e s'=>R (.error e) s') HH (E7 p1 Ho) IE go
  rw[xA] at q;refine O5 q (fun r s6 z=>?_) fun _ _ z=>z;obtain⟨u,rfl,z⟩:=z;dsimp only;have z':Oy (Os X.prog X.w) X.A (pure ()) _ _ s6:=z;refine NT (m:=pure ()) (f:=fun _=>Ta (.Name x px) (P5 scope (bA X.env scope.names []) C X.env) u) (O5 z' (fun _ s7 z=>?_) fun _ _ z=>z);obtain⟨v,H7,I7,zZ,y7,G3,xH⟩:=z;have vC:=I7.pinned (E7 p1 xH) (T.obj _ _ G3);rw[←xE]
  have nd:X'.N.Nodup:=by rw[xN];exact S.nd
  have Dq:X'.N[0]? = some x:=by rw[xN];rfl
  refine Rv (kz (E:=Q0 (Os X.prog X.w) X.A X'.env fun e s'=>R (.error e) s') (i:=0) vC nd Dq (.inl DQ) zZ (fun s8 I8=>?_) (.inr DQ));have uK:Inv X' _ (some v::σ) H7 s8:=I8;have t8:=zU _ s8 (some v::σ) H7 _ (Q0 (Os X.prog X.w) X.A X'.env fun e s'=>R (.error e) s') uK (step v H7 y7);rw[xP,xW,xA] at t8;refine O5 t8 (fun ok s9 z=>?_) fun _ _ z=>z;obtain⟨H9,I9,q9⟩:=z
  have back:∀{s':NP}{H':Hp}{Gj:St},Inv X' ([(s.heap.objs.size,({ cls:=.type "list",data:=.seq Xx.toArray n }:Obj))]++fj fp s7.heap) Gj H' s' ->
    tn (i+1) s'.heap/\(∀b∈fp,H' b=none)/\H' s.heap.objs.size=none/\s'.heap.get? s.heap.objs.size=some { cls:=.type "list",data:=.seq Xx.toArray n }/\Inv X' [] Gj H' s':=fun {s' H' Gj} I'=>by
   refine⟨T.keep _ _ _ G3 fun b hb o e=>(I'.pin (b,o) (On _ (On _ (jC hb e)))).1,fun b hb=>?_,?_,?_,I'.pins_of fun p hp=>absurd hp (by simp)⟩
   .obtain⟨o,e,_⟩:=T.obj _ _ G3 b hb
    exact(I'.pin (b,o) (On _ (On _ (jC hb e)))).2.1
   .exact(I'.pin (s.heap.objs.size,_) (On _ (OR _ (Od.mpr rfl)))).2.1
   .exact(I'.pin (s.heap.objs.size,_) (On _ (OR _ (Od.mpr rfl)))).1
  cases ok with
  |false=>
   simp only[Rl,if_false] at q9 ⊢;obtain⟨m',hm,w9⟩:=hN _ _ q9;obtain⟨a1,a2,a3,a4,a5⟩:=back I9;exact⟨m',hm,i+1,some v,H9,ys,Xx,n,a5,a1,a2,a3,rv,a4,w9⟩
  |true=>
   simp only[if_true] at q9 ⊢;have t9:=Ax _ s9 (some v::σ) H9 _ I9 q9;rw[xP,xW,xA,BC] at t9
   refine O5 t9 (fun u2 AM z=>?_) fun _ _ z=>by rw[xE];exact z
   obtain⟨y,sW,wG,r10,EJ⟩:=z;obtain⟨m',hm,Ad⟩:=hN _ _ EJ;obtain⟨a1,a2,a3,a4,a5⟩:=back wG;refine SZ ⟨n,a4⟩ (fun h' pl sb=>?_) (by rw[O0];omega);obtain⟨n',e'⟩:=pl;have D0:=II (pl:=[]) (fun p hp=>absurd hp (by simp)) a3;refine⟨m',hm,i+1,some v,sW,ys++[y],Xx++[u2],n',a5.turned (t':=AM.toks) (fun b o hb e=>(sb.2 b hb).trans e) D0.1 D0.2.1 D0.2.2.2.1 D0.2.2.2.2.1 D0.2.2.2.2.2,?_,a2,a3,rv.append (.cons r10 .nil),by simpa using e',Ad⟩;exact T.keep _ _ _ a1 fun b hb o e=>(sb.2 b (Ot (lt b hb))).trans e
theorem zht(hc:(bg (XO.Ym P w) P w K mg base N qual sc f XF A outer sq Hq E).calm=true)(S:CS (bg (XO.Ym P w) P w K mg base N qual sc f XF A outer sq Hq E).env.scope (bg (XO.Ym P w) P w K mg base N qual sc f XF A outer sq Hq E).N x scope N')(hi:PI (bg (XO.Ym P w) P w K mg base N qual sc f XF A outer sq Hq E) (.Name x px) iter wi)(he:∀C s0 H0 ex E',eK (XO.Ym P w) (fL (bg (XO.Ym P w) P w K mg base N qual sc f XF A outer sq Hq E) x scope C s0 H0 ex N' E') E->PE (fL (bg (XO.Ym P w) P w K mg base N qual sc f XF A outer sq Hq E) x scope C s0 H0 ex N' E') elt te)
  (ht:∀C s0 H0 ex E',Ei (fL (bg (XO.Ym P w) P w K mg base N qual sc f XF A outer sq Hq E) x scope C s0 H0 ex N' E') ifs tt) (hs:∀v,Pe iter (bg (XO.Ym P w) P w K mg base N qual sc f XF A outer sq Hq E).env v=pure v:=by intro _;rfl):PE (bg (XO.Ym P w) P w K mg base N qual sc f XF A outer sq Hq E) (.ListComp elt [⟨.Name x px,iter,ifs,0⟩] scope pos) (rE wi tt te):=by
 intro pins s σ H Q I h;rw[eval_ListComp];refine Re (use:=none) rfl hs (pz (mB I S)) S.kind S.names (Ya (hi pins s σ H _ I h) fun v s1 h1=>Ya h1 fun Gu s2 h2=>?_);obtain⟨it,fp,tn,J,H2,rfl,I2,T,CM,f2,W,⟨m0,w0⟩,turn⟩:=h2
 have ho:∀b∈fp,∃o,s2.heap.get? b=some o:=fun b hb=>let ⟨o,e,_⟩:=T.obj _ _ CM b hb;⟨o,e⟩
 refine Pu (RU S.nocell (by intro y hy;simp at hy) (fun h' GF ZG=>?_) S.kind);have I4:=pq (x:=x) (scope:=scope) (tk:=s2.toks+([]:List (Str×NO)).length) I2 S f2 ho GF ZG
 have Jh:∀b o,(s2.heap.push { cls:=.type "list",dict:=none,data:=.seq ([]:List NO).toArray }).get? b=some o->h'.get? b=some o:=fun b o e=>
  (ZG.2 b (Ot (N5 e))).trans (NQ _ e)
 have AH:tn 0 h':=T.keep _ _ _ CM fun b _ o e=>Jh b o (NQ _ e)
 have loop:=zhs (elt:=elt) (iter:=iter) (ifs:=ifs) (pos:=pos) (R:=Wd _ (bg (XO.Ym P w) P w K mg base N qual sc f XF A outer sq Hq E).A (bg (XO.Ym P w) P w K mg base N qual sc f XF A outer sq Hq E).xe none (EP (bg (XO.Ym P w) P w K mg base N qual sc f XF A outer sq Hq E) pins σ Q) (.ref s2.heap.objs.size) _) (σ':=σ)
  hc S f2 ho rfl T I4.xe AH (Jh _ _ (Ox _ rfl)) (I2.hok.fresh (Of _)) (he _ _ _ _ _ fun Zr σ' H' s' v Ah J' hq=>XO.zhr (use:=none) I2 f2 rfl J'.xe hq) (ht _ _ _ _ _) w0 turn fun s5 H5 σ5 ys Xx n J5 d5 rv e5 hz dn=>by
   obtain⟨m,hn,_⟩:=J5.loc;exact⟨m,hn,fun Ka sb=>⟨.ref s2.heap.objs.size,_,pj I2 f2 rfl J5.xe sb d5 ⟨Xx,n,rv,e5⟩ hz,rfl,dn _ d5⟩⟩
 exact RC loop (T.self (bg (XO.Ym P w) P w K mg base N qual sc f XF A outer sq Hq E).A 0 _ _ _ AH loop)
end
end L2
namespace XO
open L2 D
open XE (Kp forget cx da dS YX vE YG)
structure XB0(K:Frag)(C R:Addr):Prop where
 c:YX K C (.ref R::vE)
 r:YX K R vE
 ci:Og K (.ref C) "__init__"=some (some (.builtin "ValueError.__init__"))
 ri:Qk K "__init__" (.ref R)=some none
 kp:OT K (.ref C)=true
end XO
namespace XO
open L2 D
open XE (Kp forget cx da dS YX vE YG)
abbrev FX:=XD->Tp->Option (Nat×Tp)
inductive Fw(K:Frag)(cs:Nat->Addr)(E:XK)(f:FX)(σ:L2.St)(H:Hp):Prop where
 |mk (O₀:Addr->Prop) (H₀:Hp) (F:List ((Addr->Prop)×Hp)) (ts:List Addr) (O:Addr->Prop) (ρ:XD) (T:Tp) (c:Nat) (T':Tp) (rs:RS K O₀ H₀ F ts O H σ ρ T) (e:f ρ T=some (c,T')) (q:∀H',XQ ts H₀ H'->HC K O₀ ts H' T'->E (.ref (cs c)) none H'):Fw K cs E f σ H
def IQ(K:Frag)(cs:Nat->Addr)(E:XK)(f:FX):TS:=fun _ σ H=>Fw K cs E f σ H
structure DX(X:Cx)(cs:Nat->Addr)(E:XK)(s:List Stmt)(f:FX):Prop where
 pe:ZZ X s (IQ X.K cs E f)
theorem jE:ZZ X s (fun _ _ _=>False):=fun _ _ _ _ _ _ h=>h.elim
structure Bx(P:NU)(w:N8)(K:Frag)(mg:Str->Option NO)(base:Heap)(name:Str)(ps:List Str)(k:Nat)(sp:Sp):Prop where
 ex:∃f fd,Xz P w K mg base (Ym P w) k f fd ps sp/\Binds K fd ps []/\OT K (.ref f)=true/\mg name=some (.ref f)
end XO
namespace XO
open L2 D
open XE (Kp forget cx da dS YX vE YG name_goes l5)
inductive BM(K:Frag)(cs:Nat->Addr)(E:XK)(f:FX)(σ:L2.St)(H:Hp):Prop where
 |mk (O₀:Addr->Prop) (H₀:Hp) (F:List ((Addr->Prop)×Hp)) (ts:List Addr) (O:Addr->Prop) (ρ:XD) (T:Tp) (c:Nat) (T':Tp) (rs:RS K O₀ H₀ F ts O H σ ρ T) (e:f ρ T=some (c,T')) (q:∀H',RS K O₀ H₀ F ts O H' σ ρ T'->E (.ref (cs c)) none H'):BM K cs E f σ H
structure DF(X:Cx)(cs:Nat->Addr)(body:List Stmt)(f:FX):Prop where
 pe:∀(pins:List (Addr×Obj)) (s:NP) (σ:L2.St) (H:Hp) (Eh:XK),L2.Inv X pins σ H s->BM X.K cs Eh f σ H->Oy (Os X.prog X.w) X.A (execs body X.env) (fun _ _=>False) (fun v s'=>∃H1 s1,L2.Inv X pins σ H1 s1/\Ym X.prog X.w X.stack H1 s1 Eh v s') s
section
variable {X:Cx}{cs:Nat->Addr}
def BW(X:Cx)(e:Addr):Cx:={ X with A:=X.A.mark (some (.ref e)),calm:=false,xe:=fun _ _=>False }
theorem zhu(ok:X.Ok):(BW X e).Ok:=⟨ok.mod,ok.kind,ok.glob,ok.blt,ok.above,ok.inj,ok.has,ok.cab,fun z=>(nomatch z),ok.frames,ok.stk,ok.exf,ok.bs,ok.bsz,ok.noex,ok.exfs,ok.funs,ok.frf⟩
theorem v6(I:L2.Inv X pins σ H s):L2.Inv (BW X e) pins σ H s:=⟨zhu I.ok,I.os,I.bare,I.base,I.loc,I.cell,I.free,I.freeC,I.pin,I.hok,I.len⟩
theorem my(ok:X.Ok)(I:L2.Inv (BW X e) pins σ H s):L2.Inv X pins σ H s:=⟨ok,I.os,I.bare,I.base,I.loc,I.cell,I.free,I.freeC,I.pin,I.hok,I.len⟩
end
end XO
namespace D
open L2
theorem u5(h:C9 X body fb)(hx:∀v s,¬X.xe v s):DS X (.Try body (h0::hs) [] [] pos) fb:=
 ⟨fun pins s σ H D I q=>S6 (O5 (h.pe pins s σ H D I q) (fun fl s1 z=>match fl,z with
  |.next,z=>Rj z
  |.brk,z=>z
  |.cont,z=>z
  | .ret _,z=>z) fun _ _ z=>(hx _ _ z).elim)⟩
end D
namespace XO
open L2 D
open XE (Kp forget cx da dS YX vE YG name_goes l5)
theorem zhv{E:NO->NP->Prop}{K:Frag}{oe:Obj}{Q:Bool->NP->Prop}{s:NP}(x:K.In s.heap)(c:YX K C (.ref R::vE))(he:s.heap.get? e=some oe)(hc:oe.cls=.ref C)(q:Q true s) :
  Oy M A (UW (.ref e) (.ref C)) Q E s:=by
 obtain⟨nm,qn,N,bs,sn,sub,ab,col,dd,k0,k1,k2,k3,k5,l,_⟩:=c;have hC:=x _ _ l
 have c1:(Ol C::Ol R::vE).contains (.type "BaseException")=true:=by simp[vE]
 have c2:(Ol C::Ol R::vE).contains (.ref C)=true:=by simp
 have f:=tc_notTuple;obtain⟨hp,g,d,tk,os⟩:=s;unfold UW
 repeat (first|(with_reducible refine OG he ?_;rw[hc])|with_reducible refine OG hC ?_|wp_step)
 refine PP hC ?_;rw[c1]
 repeat (first|(with_reducible refine OG he ?_;rw[hc])|with_reducible refine OG hC ?_|wp_step)
 refine PP hC ?_;rw[c2]
 repeat wp_step
 exact q
end XO
namespace XO
open L2 D
open XE (YX vE om)
theorem fnX{P:NU}{w:N8}{K:Frag}{mg:Str->Option NO}{base h:Heap}{name:Str}{st:Stmt}{ps:List Str}{k:Nat}{sp:Sp}(d:Df K name st)(X:K.In h)(G:h.Ns N9 mg)
  (hb:∀(kV doc pm:NO) (an:Option Addr) (XF ct:NO) (us:List NO),us.length=ps.length->Sq (Pa name name (dG st) (cX st) (aI st) .none kV doc pm an XF ct) ⟨us,[]⟩=pure (ps.zip us))
  (ok:∀f fd,Yd K name name st f fd->Xz P w K mg base (Ym P w) k f fd ps sp):Bx P w K mg base name ps k sp:=by
 obtain⟨f,oc,od,an,sl,kV,dc,pm,cd,ct,a,l,c,kp⟩:=d.ex;have F:=ir  l c kp;exact⟨f,_,ok f _ F,F.binds hb,kp,Ow X G a⟩
end XO
namespace XO
open L2 D
open XE (forget cx da dS YX vE YG Yp sd qv ba)
abbrev Ys:=XD->Tp->Option (Int×Tp)
inductive YJ(K:Frag)(C:Addr)(fl:Str)(E:XK)(g:Ys)(σ:L2.St)(H:Hp):Prop where
 |mk (O:Addr->Prop) (ts:List Addr) (ρ:XD) (T:Tp) (n:Int) (T':Tp) (hc:HC K O ts H T) (re:Zd K O ts H σ ρ) (e:g ρ T=some (n,T')) (q:∀dx H',XQ ts H H'->HC K O ts H' T'->H' dx=some (.xd [(fl,.int n)])->E (.ref C) (some dx) H'):YJ K C fl E g σ H
inductive YZ(K:Frag)(C:Addr)(fl:Str)(E:XK)(g:Ys)(σ:L2.St)(H:Hp):Prop where
 |mk (O₀:Addr->Prop) (H₀:Hp) (F:List ((Addr->Prop)×Hp)) (ts:List Addr) (O:Addr->Prop) (ρ:XD) (T:Tp) (n:Int) (T':Tp) (rs:RS K O₀ H₀ F ts O H σ ρ T) (e:g ρ T=some (n,T')) (q:∀dx H',XQ ts H₀ H'->HC K O₀ ts H' T'->H' dx=some (.xd [(fl,.int n)])->E (.ref C) (some dx) H'):YZ K C fl E g σ H
theorem YZ.e{K:Frag}{C:Addr}{fl:Str}{E:XK}{g:Ys}{σ:L2.St}{H:Hp}:YZ K C fl E g σ H->YJ K C fl E g σ H
 |⟨O₀,H₀,F,ts,O,ρ,T,n,T',rs,e,q⟩=>⟨O,ts,ρ,T,n,T',rs.hc,rs.re,e,fun dx H' s hc hx=>q dx H' (rs.same.trans s) (rs.step s hc).frzH hx⟩
structure ER(X:Cx)(C:Addr)(fl:Str)(E:XK)(e:Expr)(g:Ys):Prop where
 pe:PE X e (fun σ H _=>YJ X.K C fl E g σ H)
structure FG(X:Cx)(C:Addr)(fl:Str)(E:XK)(es:List Expr)(g:Ys):Prop where
 pe:PA X es (fun σ H _=>YJ X.K C fl E g σ H)
structure C7(X:Cx)(C:Addr)(fl:Str)(E:XK)(s:List Stmt)(g:Ys):Prop where
 pe:ZZ X s (fun _ σ H=>YZ X.K C fl E g σ H)
structure Ci(P:NU)(w:N8)(K:Frag)(mg:Str->Option NO)(base:Heap)(C:Addr)(m:Str)(ps:List Str)(k:Nat)(sp:Sp):Prop where
 ex:∃f fd,Xz P w K mg base (Ym P w) k f fd ps sp/\Binds K fd ps []/\AW K C m f
def dB(f g:Ys):Ys:=fun ρ T=>match g ρ T with
 |some r=>some r
 |none=>f ρ T
def fZ(f:FE)(g:Ys):Ys:=fun ρ T=>XI (f ρ T) fun _ T1=>g ρ T1
def cB(f:FS)(g:Ys):Ys:=fun ρ T=>XI (f ρ T) fun p T1=>match (p:Fl×XD) with
 |(.nx,Yc)=>g Yc T1
 |_=>none
def gy(f:FT)(g:Ys):Ys:=fun ρ T=>XI (f ρ T) fun b T1=>if b=true then g ρ T1 else none
def lQ(l:Int->Bool)(f:FE):Ys:=fun ρ T=>XI (f ρ T) fun w T1=>match w with
 |.d (.int n)=>if l n=true then some (n,T1) else none
 |_=>none
def cS(m:List W->Tp->Option (Int×Tp))(g:FA):Ys:=fun ρ T=>XI (g ρ T) fun ws T1=>if dJ ws=true then m ws T1 else none
def lJ(C:Addr)(m:Str)(mm:List W->Tp->Option (Int×Tp))(g:FA)(ρ:XD)(w:W)(T:Tp):Option (Int×Tp):=match w with
 | .tp n=>(match fm C T n with
  |some ps=>if (eM m ps).isNone=true then XI (g ρ T) fun ws T2=>if dJ ws=true then mm (.tp n::ws) T2 else none else none
  | none=>none)
 |_=>none
def fJ(C:Addr)(m:Str)(mm:List W->Tp->Option (Int×Tp))(fo:FE)(g:FA):Ys:=fun ρ T=>XI (fo ρ T) (lJ C m mm g ρ)
def gT(f:FE)(g:Ys)(ρ:XD):List NN->Tp->Option (Int×Tp)
 |[],_=>none
 |d::r,T=>match XI (f (some (.d d)::ρ) T) fun _ T1=>gT f g ρ r T1 with
  |some z=>some z
  |none=>g (some (.d d)::ρ) T
def nN(it:FI)(f:FE)(g:Ys):Ys:=fun ρ T=>XI (it ρ T) fun ds T1=>gT f g ρ ds T1
theorem zhw:PA X es (fun _ _ _=>False):=fun _ _ _ _ _ _ _ h=>h.elim
theorem En(h:PA X es t)(i:∀σ H Q,t' σ H Q->t σ H Q):PA X es t':=fun pos pins s σ H Q I q=>h pos pins s σ H Q I (i σ H Q q)
theorem Hg(h1:PE X e t)(h2:PE X e u):PE X e (fun σ H Q=>t σ H Q\/u σ H Q):=fun pins s σ H Q I q=>q.elim (h1 pins s σ H Q I) (h2 pins s σ H Q I)
theorem zhx{K:Frag}{C:Addr}{fl:Str}{E:XK}{f g:Ys}{σ:L2.St}{H:Hp}(h:YJ K C fl E (dB f g) σ H):YJ K C fl E f σ H\/YJ K C fl E g σ H:=by
 obtain⟨O,ts,ρ,T,n,T',hc,re,e,q⟩:=h;unfold dB at e;split at e
 .rename_i r e1
  cases e;exact .inr ⟨O,ts,ρ,T,n,T',hc,re,e1,q⟩
 .exact .inl ⟨O,ts,ρ,T,n,T',hc,re,e,q⟩
theorem zhy{K:Frag}{C:Addr}{fl:Str}{E:XK}{f g:Ys}{σ:L2.St}{H:Hp}(h:YZ K C fl E (dB f g) σ H):YZ K C fl E f σ H\/YZ K C fl E g σ H:=by
 obtain⟨O₀,H₀,F,ts,O,ρ,T,n,T',rs,e,q⟩:=h;unfold dB at e;split at e
 .rename_i r e1
  cases e;exact .inr ⟨O₀,H₀,F,ts,O,ρ,T,n,T',rs,e1,q⟩
 .exact .inl ⟨O₀,H₀,F,ts,O,ρ,T,n,T',rs,e,q⟩
section
variable {X:Cx}{C:Addr}{fl:Str}{E:XK}{e a b:Expr}{es:List Expr}{f:FE}{g g':Ys}{pos p:Pos}
theorem zhz(h1:ER X C fl E e g)(h2:ER X C fl E e g'):ER X C fl E e (dB g g'):=⟨fun pins s σ H Q I h=>(zhx h).elim (h1.pe pins s σ H Q I) (h2.pe pins s σ H Q I)⟩
theorem zE{K:Frag}{σ:L2.St}{H:Hp}(h:YJ K C fl E (fZ f g) σ H){Q:VK}(k:∀v H1,YJ K C fl E g σ H1->Q v H1):lift K f σ H Q:=by
 obtain⟨O,ts,ρ,T,n,T',hc,re,e,q⟩:=h;obtain⟨w,T1,e1,e⟩:=aF e;exact⟨O,ts,ρ,T,w,T1,hc,re,e1,fun v H1 s1 Xy r1=>k v H1 ⟨O,ts,ρ,T1,n,T',Xy,re.mono hc s1,e,fun dx H' s' GZ hx=>q dx H' (s1.trans s') GZ hx⟩⟩
theorem iY(h:ER X C fl E e g)(hs:NR (e::es) X.env=(false,eval e X.env)::NR es X.env:=by exact bo rfl):FG X C fl E (e::es) g:=⟨En (bf h.pe zhw hs) fun _ _ _ z=>z⟩
theorem lD(h:DE X e f)(h2:FG X C fl E es g)(hs:NR (e::es) X.env=(false,eval e X.env)::NR es X.env:=by exact bo rfl):FG X C fl E (e::es) (fZ f g):=⟨En (bf h.pe h2.pe hs) fun σ H Q z=>zE z fun _ _ y=>y⟩
theorem m8{x1}(h:FG X C fl E es g):ER X C fl E (.Tuple es x1 pos) g:=⟨pe_imp (nG h.pe) fun _ _ _ z=>z⟩
theorem u7(ho:Z9 X (Pw op) o)(ha:DE X a f)(hb:ER X C fl E b g):ER X C fl E (.BinOp a op b pos) (fZ f g):=by
 obtain⟨r,hr,_⟩:=ho;exact⟨pe_imp (rK hr ha.pe hb.pe) fun σ H Q z=>zE z fun _ _ y=>y⟩
theorem tD{x:Str}{id:String}{gg:List NN->Option NN}(hc:fU X (.type id) gg)(hg:Gl X x)(hm:X.mg x=none)(hv:P0 x=some (.type id))(ha:FG X C fl E (e::es) g)(hn:x≠"__name__":=by decide)(YN:(x == ("__debug__" : Str))=false:=by decide)
  (he:NR (e::es) X.env=(false,eval e X.env)::NR es X.env:=by exact bo rfl) (Yo:(OO pos (NR es X.env)).any (·.1)=false:=by exact bN rfl):ER X C fl E (.Call (.Name x p) (e::es) [] pos) g:=by
 obtain⟨r,hr,_⟩:=hc;exact⟨pe_imp (pH hr hg hm hv ha.pe hn YN he Yo) fun _ _ _ z=>z⟩
theorem zia(F:Fn X.prog X.w X.K X.mg X.base name ps k sp)(hr:X0 k X.A)(hg:Gl X name)(ha:FG X C fl E (e::es) g)(YN:(name == ("__debug__" : Str))=false:=by decide)
  (he:NR (e::es) X.env=(false,eval e X.env)::NR es X.env:=by exact bo rfl) (Yo:(OO pos (NR es X.env)).any (·.1)=false:=by exact bN rfl):ER X C fl E (.Call (.Name name p) (e::es) [] pos) g:=⟨pe_imp (rL F hr hg ha.pe YN he Yo) fun _ _ _ z=>z⟩
theorem gc{name:Str}{ps:List Str}{k:Nat}{m:List W->Tp->Option (Int×Tp)}{g:FA}(G:Bx X.prog X.w X.K X.mg X.base name ps k (ba X.K ps.length C fl m))(hr:X0 k X.A)(hg:Gl X name)(hp:eK (Ym X.prog X.w) X E)(ha:DA X (e::es) g)(hl:eQ g ps.length)(YN:(name == ("__debug__" : Str))=false:=by decide)
  (he:NR (e::es) X.env=(false,eval e X.env)::NR es X.env:=by exact bo rfl) (Yo:(OO pos (NR es X.env)).any (·.1)=false:=by exact bN rfl):ER X C fl E (.Call (.Name name p) (e::es) [] pos) (cS m g):=by
 obtain⟨f,fd,F,hb,hk,hm⟩:=G.ex;refine⟨pe_imp (ztf F hr hg hm hk hb .nil hp ha.pe YN he Yo) fun σ H Q h=>?_⟩;obtain⟨O,ts,ρ,T,n,T',hc,re,e,q⟩:=h;obtain⟨ws,T1,e1,e⟩:=aF e;split at e
 .rename_i hn
  refine⟨O,ts,ρ,T,ws,T1,hc,re,e1,fun vs H1 s1 Xy r1=>?_⟩;rw[Pb];exact⟨O,ts,T1,ws,n,T',Xy,r1,hl _ _ _ _ e1,hn,e,fun dx H' s2 XW hx=>q dx H' (s1.trans s2) XW hx⟩
 .cases e
theorem tZ{Cw:Addr}{m:Str}{ps:List Str}{lv:Nat}{mm:List W->Tp->Option (Int×Tp)}{fo:FE}{g:FA}(hl:eQ g lv)(h1:ps.length=lv+1){σ:L2.St}{H:Hp}{Q:VK}(h:YJ X.K C fl E (fJ Cw m mm fo g) σ H):n9 Cw m (ba X.K ps.length C fl mm) [] E (lift X.K fo) (lL X.K g) σ H Q:=by
 obtain⟨O,ts,ρ,T,x,T',hc,re,e,q⟩:=h;obtain⟨w1,T1,e1,e⟩:=aF e;refine⟨O,ts,ρ,T,w1,T1,hc,re,e1,fun v1 H1 s1 Xy r1=>?_⟩
 cases w1 with
 |tp n=>
  unfold lJ at e;dsimp only at e;split at e
  .rename_i qs o1
   split at e
   .rename_i hn
    obtain⟨ws,T2,e2,e⟩:=aF e;split at e
    .rename_i hnl
     obtain⟨a,k1,rfl⟩:=r1;obtain⟨dx,fs,fd,g1,g2,g3⟩:=Xy.obj k1 o1;subst g2
     have l0:fs.lookup m=none:=by
      rcases g3.look  with⟨_,z⟩|⟨v,y',z1,z2,z3⟩
      .exact z
      .simp_all
     refine⟨a,dx,fs,rfl,g1,l0,O,ts,ρ,T1,ws,T2,Xy,re.mono hc s1,e2,fun vs H2 s2 XW r2=>?_⟩;refine⟨O,ts,T2,.tp n::ws,x,_,XW,?_,by rw[h1,Oo,hl _ _ _ _ e2],hnl,e,fun dx H3 s3 YK r3=>q dx H3 (s1.trans (s2.trans s3)) YK r3⟩;rw[Pb];exact .cons ⟨a,k1,rfl⟩ r2
    .cases e
   .cases e
  .cases e
 |d x=>cases e
 |loc x=>cases e
theorem jH{Cw:Addr}{o:Expr}{m:Str}{ps:List Str}{k lv:Nat}{mm:List W->Tp->Option (Int×Tp)}{fo:FE}{g:FA}{apos:Pos}{pl:Sem Bool}(F:Ci X.prog X.w X.K X.mg X.base Cw m ps k (ba X.K ps.length C fl mm))(c:zS X.K Cw)(hr:X0 k X.A)(hp:eK (Ym X.prog X.w) X E)(ho:DE X o fo)(ha:DA X (e::es) g)(hl:eQ g lv)(h1:ps.length=lv+1:=by rfl)
  (he:NR (e::es) X.env=(false,eval e X.env)::NR es X.env:=by exact bo rfl) (Yo:(OO pos (NR es X.env)).any (·.1)=false:=by exact bN rfl)
  (ht:eval (.Call (.Attribute o m apos) (e::es) [] pos) X.env=(do
   let ov ←eval o X.env
   Ru apos.atName
   let (f,first) ←QL [ov] (QU ov m pl)
   SU pos f first (OO pos (NR (e::es) X.env)) (PX pos (O8 [] X.env))):=by rfl):ER X C fl E (.Call (.Attribute o m apos) (e::es) [] pos) (fJ Cw m mm fo g):=by
 obtain⟨f,fd,F1,F2,F3⟩:=F.ex;exact⟨pe_imp (ztg ho.pe c F3 F1 hr F2 .nil hp ha.pe he Yo ht) fun σ H Q h=>tZ hl h1 h⟩
theorem zib(F:Ci X.prog X.w X.K X.mg X.base Cw m ps k (ba X.K ps.length C fl mm))(c:zS X.K Cw)(hr:X0 k X.A)(hp:eK (Ym X.prog X.w) X E)(ho:DE X o fo)(h1:ps.length=1:=by rfl)
  (ht:eval (.Call (.Attribute o m apos) [] [] pos) X.env=(do
   let ov ←eval o X.env
   Ru apos.atName
   let (f,first) ←QL [ov] (QU ov m pl)
   SU pos f first (OO pos (NR [] X.env)) (PX pos (O8 [] X.env))):=by rfl):ER X C fl E (.Call (.Attribute o m apos) [] [] pos) (fJ Cw m mm fo ai):=by
 obtain⟨f,fd,F1,F2,F3⟩:=F.ex;refine⟨pe_imp (zth ho.pe c F3 F1 hr F2 .nil hp ht) fun σ H Q h=>?_⟩;obtain⟨O,ts,ρ,T,w,T',hc,re,e,q⟩:=tZ   (Q:=Q) au h1 h;refine⟨O,ts,ρ,T,w,T',hc,re,e,fun v H1 s1 Xy r1=>?_⟩;obtain⟨a,dx,fs,ea,e1,e2,O2,ts2,ρ2,T2,ws,T3,XW,z6,e3,q2⟩:=q v H1 s1 Xy r1;cases e3;exact⟨a,dx,fs,ea,e1,e2,q2 [] H1 (.refl _ _) XW .nil⟩
theorem iw(h1:C7 X C fl E Fz g)(h2:C7 X C fl E Fz g'):C7 X C fl E Fz (dB g g'):=⟨fun pins s σ H D I h=>(zhy h).elim (h1.pe pins s σ H D I) (h2.pe pins s σ H D I)⟩
theorem cY{st:Stmt}{Fz:List Stmt}{f:FS}(h1:DS X st f)(h2:C7 X C fl E Fz g):C7 X C fl E (st::Fz) (cB f g):=by
 refine⟨eW (dF h1.pe h2.pe) fun D σ H h=>?_⟩;obtain⟨O₀,H₀,F,ts,O,ρ,T,c,T',rs,e,q⟩:=h;obtain⟨⟨fl,Yc⟩,T1,e1,e⟩:=aF e
 cases fl with
 |nx=>exact⟨O₀,H₀,F,ts,O,ρ,T,.nx,Yc,T1,rs,e1,fun O' σ' H' B9=>⟨O₀,H₀,F,ts,O',Yc,T1,c,T',B9,e,q⟩⟩
 |_=>cases e
theorem iS(h:ER X C fl E e g):C7 X C fl E (.Return (some e) pos::Fz) g:=⟨eW (dF (nF h.pe) jE) fun _ _ _ z=>z.e⟩
theorem iO(h:ER X C fl E e g)(hs:Pi e none pos.line X.env=pure false:=by rfl):C7 X C fl E (.Expr e pos::Fz) g:=⟨eW (dF (kP h.pe hs) jE) fun _ _ _ z=>z.e⟩
theorem wj{i:Nat}{x:Str}{pos':Pos}{Fz:List Stmt}(hN:X.N.Nodup)(h:ER X C fl E e g)(hi:X.N[i]? = some x:=by rfl)(hx:Loc X.env.scope x:=by first|exact Qp rfl|exact PZ rfl)
  (hs:Pi e (some (.Name x pos')) pos.line X.env=pure false:=by rfl) (hf:X.fn x=true\/X.env.scope.names.lookup x=some .local:=by first|exact .inl rfl|exact .inr rfl|assumption):C7 X C fl E (.Assign [.Name x pos'] e pos::Fz) g:=⟨eW (dF (gR hN hi hx h.pe hs hf) jE) fun _ _ _ z=>z.e⟩
theorem zic{K:Frag}{ft:FT}{σ:L2.St}{H:Hp}(h:YZ K C fl E (gy ft g) σ H){Q:Bool->Hp->Prop}(k:∀H1,YZ K C fl E g σ H1->Q true H1):liftT K ft σ H Q:=by
 obtain⟨O₀,H₀,F,ts,O,ρ,T,n,T',rs,e,q⟩:=h;obtain⟨b,T1,e1,e⟩:=aF e
 cases b with
 |false=>cases e
 |true=>exact⟨O,ts,ρ,T,true,T1,rs.hc,rs.re,e1,fun H1 s1 Xy=>k H1 ⟨O₀,H₀,F,ts,O,ρ,T1,n,T',rs.step s1 Xy,e,q⟩⟩
theorem iX{ft:FT}{st Fz:List Stmt}(ht:DT X e ft)(h:C7 X C fl E st g):C7 X C fl E (.If e st [] pos::Fz) (gy ft g):=⟨eW (dF (rJ ht.pe h.pe qu) jE) fun _ _ _ z=>zic z fun _ y=>hJ y⟩
end
end XO
namespace XO
open L2 D
open XE (forget cx da dS YX vE YG Yp sd qv ba)
section
variable {P:NU}{w:N8}{K:Frag}{mg:Str->Option NO}{base:Heap}{N:List Str}{qual:Str}{sc:P4}{f:Addr}{XF:NO}{A:OF}{outer:List Env}{s0:NP}{H0:Hp}{E:XK}{C R:Addr}{fl:Str}
theorem pM(G:Yp Pn P w K mg base C R fl k)(hP:∀n,l n=true->Pn (.int n))(hr:X0 (k+1) (A.deeper (Pz qual sc s0.heap.objs.size f XF)))(hm:mg cn=some (.ref C))
  (he:DE (bg (Ym P w) P w K mg base N qual sc f XF A outer s0 H0 E) e fe) (hg:Gl (bg (Ym P w) P w K mg base N qual sc f XF A outer s0 H0 E) cn:=by rfl) (YN:(cn == ("__debug__" : Str))=false:=by decide)
  (hs:NR [e] (Pz qual sc s0.heap.objs.size f XF)=[(false,eval e (Pz qual sc s0.heap.objs.size f XF))]:=by rfl) :
  C7 (bg (Ym P w) P w K mg base N qual sc f XF A outer s0 H0 E) C fl E (.Raise (some (.Call (.Name cn p) [e] [] cpos)) none pos::Fz) (lQ l fe):=by
 refine⟨eW (dF (zhm G.c (qv G hr hg hm he.pe YN hs)) jE) fun D σ H h=>?_⟩;obtain⟨O₀,H₀,F,ts,O,ρ,T,n,T',rs,e,q⟩:=h;obtain⟨w1,T1,e1,e⟩:=aF e;split at e
 .rename_i n'
  split at e
  .rename_i hl
   cases e;refine⟨O,ts,ρ,T,_,_,rs.hc,rs.re,e1,fun v H1 s1 Xy r1=>?_⟩;cases (show Rep K O H1 v (.int n) from r1);have Z4:=rs.step s1 Xy;refine⟨hP n hl,fun a dx ge ha hd ne=>⟨a,some dx,rfl,ge,bu,?_⟩⟩;rw[dS (by rw[aX ne.symm];exact ha)];exact q dx _ (Z4.same.trans (.new hd _)) (Z4.frzH.new hd _) bu
  .cases e
 .cases e
theorem u6(S:CS sc N x scope N')(hi:DI (bg (Ym P w) P w K mg base N qual sc f XF A outer s0 H0 E) (.Name x px) iter it)
  (he:∀Cq sq Hq ex E',DE (fL (bg (Ym P w) P w K mg base N qual sc f XF A outer s0 H0 E) x scope Cq sq Hq ex N' E') elt ff)
  (hx:∀Cq sq Hq ex E',eK (Ym P w) (fL (bg (Ym P w) P w K mg base N qual sc f XF A outer s0 H0 E) x scope Cq sq Hq ex N' E') E->ER (fL (bg (Ym P w) P w K mg base N qual sc f XF A outer s0 H0 E) x scope Cq sq Hq ex N' E') C fl E elt g)
  (hf:∀v,Pe iter (Pz qual sc s0.heap.objs.size f XF) v=pure v:=by intro _;rfl):ER (bg (Ym P w) P w K mg base N qual sc f XF A outer s0 H0 E) C fl E (.ListComp elt [⟨.Name x px,iter,[],0⟩] scope pos) (nN it ff g):=by
 refine⟨pe_imp (zht (wi:=yB K it) (tt:=fun _ H Q=>Q true H) (te:=fun σ H Q=>lift K ff σ H Q\/YJ K C fl E g σ H) rfl S hi.pe (fun Cq sq Hq ex E' hp=>Hg (he Cq sq Hq ex E').pe (hx Cq sq Hq ex E' hp).pe) (fun Cq sq Hq ex E'=>zun) hf) fun σ H Q h=>?_⟩;obtain⟨O,ts,ρ,T,n,T',hc,re,e,q⟩:=h;obtain⟨ds,T1,e1,e⟩:=aF e;refine⟨O,ts,ρ,T,ds,T1,hc,re,e1,fun J H1 s1 Xy ok hz=>?_⟩;refine⟨fun i m vs H'=>m=ds.length-i/\i<=ds.length/\vs.length<=i/\∃T,XQ ts H1 H'/\HC K O ts H' T/\gT ff g ρ (ds.drop i) T=some (n,T'),⟨_,rfl,QK _,Of _,T1,.refl _ _,Xy,e⟩,?_⟩;rintro i m vs H' ⟨rfl,Hd,hv,T2,s2,XW,ec⟩;obtain⟨k1,k2,k3⟩:=ok O H' (Xy.le s2)
 by_cases ZU:i<ds.length
 .refine .inr ⟨k1 i ZU,by omega,fun HM H2=>i+1<=ds.length/\HM.length<=i+1/\∃T,XQ ts H1 H2/\HC K O ts H2 T/\gT ff g ρ (ds.drop (i+1)) T=some (n,T'),fun HM H2 nn=>⟨ds.length-(i+1),by omega,rfl,nn⟩,fun v H2 y=>?_⟩
  obtain⟨e2,d,hd,rd⟩:=k3 i v H2 y ZU;subst e2
  have BP:ds.drop i=d::ds.drop (i+1):=by
   rw[Pr ZU];have:=(NS.mp hd).2;rw[this]
  rw[BP] at ec;have z6:=((re.mono hc s1).mono Xy s2).cons rd;refine hJ ?_;unfold gT at ec;split at ec
  .rename_i z ez
   cases ec;obtain⟨w1,T3,e3,ec⟩:=aF ez;exact .inl ⟨O,ts,_,T2,w1,T3,XW,z6,e3,fun u H3 s3 YK r3=>⟨ZU,by simp;omega,T3,s2.trans s3,YK,ec⟩⟩
  .exact .inr ⟨O,ts,_,T2,n,T',XW,z6,ec,fun dx H3 s3 YK hx3=>q dx H3 (s1.trans (s2.trans s3)) YK hx3⟩
 .have en:i=ds.length:=by omega
  rw[en,OU (Of _)] at ec;cases ec
end
def dP(N:Nat)(m:Ys):List W->Tp->Option (Int×Tp):=fun ws T=>m (ws.map some++OA (N-ws.length) none) T
theorem f6{P:NU}{w:N8}{K:Frag}{mg:Str->Option NO}{base:Heap}{x qual:Str}{st:Stmt}{f:Addr}{fd:Oe}{N ps:List Str}{k:Nat}{m:Ys}{C:Addr}{fl:Str}(F:Yd K x qual st f fd)(S:Xw N ps (aI st))
  (Bk:∀(XF:NO) (A:OF) (outer:List Env) (s:NP) (H:Hp) (E:XK),X0 k (A.deeper (Pz qual (aI st) s.heap.objs.size f XF))->C7 (bg (Ym P w) P w K mg base N qual (aI st) f XF A outer s H E) C fl E (cX st) m) :
  Xz P w K mg base (Ym P w) (k+1) f fd ps (ba K ps.length C fl (dP N.length m)):=by
 obtain⟨oc,od,kV,doc,pm,an,XF,ct,osl,rfl,lk,hcd⟩:=F.ex;refine zto lk hcd S (fun vs H Q E h=>?_) fun A outer s H vs Q E hr h=>⟨_,(Bk XF A _ s H E hr).pe,?_⟩
 .obtain⟨O,ts,T,ws,c,T',hc,Za,hl,_⟩:=h
  exact(QB Za).trans hl
 .obtain⟨O,ts,T,ws,c,T',hc,Za,hl,hn,e,q⟩:=h
  exact⟨O,H,[],ts,O,_,T,c,T',XE.zha hc Za hn,e,q⟩
theorem zid{P:NU}{w:N8}{K:Frag}{mg:Str->Option NO}{base:Heap}{C:Addr}{name qual:Str}{st:Stmt}{ps:List Str}{k:Nat}{sp:Sp}(d:Gi K C name qual st)
  (hb:∀(kV doc pm:NO) (an:Option Addr) (XF ct:NO) (us:List NO),us.length=ps.length->Sq (Pa name qual (dG st) (cX st) (aI st) .none kV doc pm an XF ct) ⟨us,[]⟩=pure (ps.zip us))
  (ok:∀f fd,Yd K name qual st f fd->Xz P w K mg base (Ym P w) k f fd ps sp):Ci P w K mg base C name ps k sp:=by
 obtain⟨f,oc,od,an,sl,kV,dc,pm,cd,ct,a,l,c,kp,fn⟩:=d.ex;have F:=ir  l c kp;exact⟨f,_,ok f _ F,F.binds hb,⟨a,fn,kp⟩⟩
end XO
namespace XO
open L2 D
open XE (Kp forget cx da dS YX vE YG ba name_goes l5)
def nI(o:Option (Int×Tp)):Option (Int×Tp):=match o with
 | some (n,T3)=>(match gW T3 with
  |some (T4,_)=>some (n,T4)
  | none=>none)
 |none=>none
def oU(i:Nat)(C:Addr)(m:Yh)(fr:Ys)(ρ:XD)(w:W)(T1:Tp):Option (Int×Tp):=match w with
 | .d x0=>(match m [.tp T1.length,.d x0] (T1++[[bK C]]) with
  |some (.none,T2)=>nI (fr (ρ.set i (some (.tp T1.length))) T2)
  | _=>none)
 |_=>none
def iW(i:Nat)(C:Addr)(m:Yh)(fe:FE)(fr:Ys):Ys:=fun ρ T=>if gS ρ=true then XI (fe ρ T) (oU i C m fr ρ) else none
section
variable {X:L2.Cx}{Cx:Addr}{fl:Str}{E:XK}{C f:Addr}{e:Expr}{fe:FE}{fr:Ys}{rest:List Stmt}{cn x:Str}{p pos pos' cpos:Pos}{ps:List Str}{k i:Nat}{m:Yh}{fd:Oe}
theorem zie(M:Mk X.K C f)(Fi:Xz X.prog X.w X.K X.mg X.base Yi k f fd ps (XA X.K ps.length m))(hb:Binds X.K fd ps [])(hr:X0 (k+1) X.A)(hg:Gl X cn)(hm:X.mg cn=some (.ref C))(hN:X.N.Nodup)(he:DE X e fe)(ZA:C7 X Cx fl E rest fr)
  (h2:ps.length=2:=by rfl) (hi:X.N[i]? = some x:=by rfl) (hx:Loc X.env.scope x:=by first|exact Qp rfl|exact PZ rfl) (YN:(cn == ("__debug__" : Str))=false:=by decide)
  (Zk:NR [e] X.env=(false,eval e X.env)::NR [] X.env:=by exact bo rfl) (Yo:(OO cpos (NR [] X.env)).any (·.1)=false:=by exact bN rfl)
  (hs:Pi (.Call (.Name cn p) [e] [] cpos) (some (.Name x pos')) pos.line X.env=pure false:=by rfl) (hf:X.fn x=true\/X.env.scope.names.lookup x=some .local:=by first|exact .inl rfl|exact .inr rfl|assumption) :
  C7 X Cx fl E (.Assign [.Name x pos'] (.Call (.Name cn p) [e] [] cpos) pos::rest) (iW i C m fe fr):=by
 refine⟨?_⟩;refine eW (dF (gR hN hi hx (zti M Fi hr hg hm hb .nil lH (bf he.pe bR Zk) YN Zk Yo) hs hf) ZA.pe) fun D σ H=>?_;rintro⟨O₀,H₀,F,ts,O,ρ,T,n0,T',rs,e,q⟩;unfold iW at e;split at e
 .rename_i hp
  obtain⟨w,T1,e1,e⟩:=aF e;obtain⟨c0,CH⟩:=rs.frz (tf hp);rw[mf hp] at CH;refine⟨O₀,ts,ρ,T,w,T1,c0,CH,e1,fun v1 H1 s1 Xy r1=>?_⟩
  cases w with
  |tp j=>cases e
  |loc y=>cases e
  |d x0=>
   unfold oU at e;dsimp only at e;split at e
   .rename_i T2 em
    intro px dx Bl Iu F7;have Ay:=CH.mono c0 s1;have nO:=Xy.fresh Bl;have Gr:=Xy.fresh Iu;have nt:px∉ts:=fun z=>nO (Xy.own _ z)
    have U:∀b,b≠px->b≠dx->upd (upd H1 dx (.own px)) px (.ins C dx []) b=H1 b:=fun b n1 n2=>by rw[aX n1,aX n2]
    have le:Le O₀ H1 (fun b=>O₀ b\/b=px) (upd (upd H1 dx (.own px)) px (.ins C dx [])):=fun a o n e=>by
     have z1:a≠px:=bM e Bl;have z2:a≠dx:=bM e Iu;exact⟨fun q=>q.elim n z1,by rw[U a z1 z2];exact e⟩
    have FV:HC X.K (fun b=>O₀ b\/b=px) (ts++[px]) (upd (upd H1 dx (.own px)) px (.ins C dx [])) (T1++[[bK C]]):=by
     refine⟨fun b hb=>?_,fun b hb=>?_,?_,by simp[Xy.len],fun j b zs q1 q2=>?_⟩
     .rcases Oz.mp hb with z|z
      .exact .inl (Xy.own b z)
      .exact .inr (Od.mp z)
     .by_cases z:b=px
      .rw[z,bu];exact .inr (.inr ⟨_,_,_,rfl⟩)
      .have C8:=hb.resolve_right z
       have z2:b≠dx:=fun z2=>Gr (z2 ▸ C8);rw[U b z z2];exact Xy.trk b C8
     .rw[Pv]
      exact⟨Xy.nd,by simp,fun b hb c hc z=>nt (by rw[←Od.mp hc,←z];exact hb)⟩
     .by_cases hj:j<ts.length
      .rw[N7 hj] at q1
       rw[N7 (by rw[←Xy.len];exact hj)] at q2;exact(Xy.tape j b zs q1 q2).mono (fun o h1=>by rw[U b (bM h1 Bl) (bM h1 Iu)];exact h1) le
      .have EQ:j=ts.length:=by
        have:=(NS.mp q1).1;simp at this;omega
       subst EQ
       have e1:b=px:=by simpa using q1.symm
       have e2:zs=[bK C]:=by rw[Xy.len] at q2;simpa using q2.symm
       subst e1 e2;exact .inr ⟨C,dx,[],[],bu,rfl,.nil⟩
    refine⟨fun b=>O₀ b\/b=px,ts++[px],T1++[[bK C]],[.tp T1.length,.d x0],.none,T2,FV,.cons ⟨px,by rw[←Xy.len];simp,rfl⟩ (.cons (Rep.mono le r1) .nil),by rw[h2];rfl,em,fun v H2 s2 XW r2=>?_⟩;cases r2;refine⟨rfl,?_⟩
    have dxn:dx∉ts++[px]:=fun z=>by
     rcases Oz.mp z with z|z
     .exact Gr (Xy.own _ z)
     .exact F7 (Od.mp z)
    have F5:Le O₀ H1 (fun b=>O₀ b\/b=px) H2:=le.trans (FV.le s2);generalize hE:fr (ρ.set i (some (.tp T1.length))) T2=Er at e;unfold nI at e;split at e
    .rename_i n1 T3
     split at e
     .rename_i T4 row hT
      have eT:=qf hT;subst eT;cases e;refine⟨fun b=>O₀ b\/b=px,H2,[],ts++[px],fun b=>O₀ b\/b=px,_,T2,_,_,⟨XW,fun j u ej=>?_,fun _ h=>h,XW.own,.refl _ _,fun j xs a ej _=>?_,fun j l xs ys v' ej _ _ _=>?_,fun f hf=>absurd hf (by simp),by simp[rs.len]⟩,hE,?_⟩
      .by_cases z:i=j
       .subst z
        have hl:i<ρ.length:=by
         have:=(NS.mp ej).1;simpa using this
        rw[Oh hl] at ej;cases ej;exact⟨.ref px,by rw[Oh (by rw[rs.len];exact hl)],px,by rw[←Xy.len];simp,rfl⟩
       .rw[Oa z] at ej
        obtain⟨y',rfl⟩:=gH hp ej;obtain⟨x',k1,k2⟩:=Ay j _ ej;exact⟨x',by rw[Oa z];exact k1,Rep.mono F5 k2⟩
      .exfalso
       obtain⟨_,ej⟩:=eC (w:=.tp T1.length) (fun _ z=>by cases z) ej;obtain⟨_,z⟩:=gH hp ej;cases z
      .exfalso
       obtain⟨_,ej⟩:=eC (w:=.tp T1.length) (fun _ z=>by cases z) ej;obtain⟨_,z⟩:=gH hp ej;cases z
      .intro dx' H3 s3 YK r3
       have lb:Le (fun b=>O₀ b\/b=px) H3 O₀ H3:=fun a o n e=>⟨fun z=>n (.inl z),e⟩
       have IA:ts.length=T'.length:=by have:=YK.len;simp at this;exact this
       refine q dx' H3 (fun b o n eb=>?_) ⟨rs.ots,fun b hb=>YK.trk b (.inl hb),rs.hc.nd,IA,fun j b zs q1 q2=>?_⟩ r3
       .have Fx:=s1 b o n (rs.same b o n eb)
        have z1:b≠px:=bM Fx Bl;have z2:b≠dx:=bM Fx Iu
        have nb:b∉ts++[px]:=fun z=>by
         rcases Oz.mp z with z|z
         .exact n z
         .exact z1 (Od.mp z)
        exact s3 b o nb (s2 b o nb (by rw[U b z1 z2];exact Fx))
       .have hj:j<ts.length:=(NS.mp q1).1
        exact(YK.tape j b zs (by rw[N7 hj];exact q1) (by rw[N7 (by rw[←IA];exact hj)];exact q2)).mono (fun _ h=>h) lb
     .cases e
    .cases e
   .cases e
 .cases e
theorem zif(G:Hu X.prog X.w X.K X.mg X.base C ps k (XA X.K ps.length m))(hr:X0 (k+1) X.A)(hg:Gl X cn)(hm:X.mg cn=some (.ref C))(hN:X.N.Nodup)(he:DE X e fe)(ZA:C7 X Cx fl E rest fr)
  (h2:ps.length=2:=by rfl) (hi:X.N[i]? = some x:=by rfl) (hx:Loc X.env.scope x:=by first|exact Qp rfl|exact PZ rfl) (YN:(cn == ("__debug__" : Str))=false:=by decide)
  (Zk:NR [e] X.env=(false,eval e X.env)::NR [] X.env:=by exact bo rfl) (Yo:(OO cpos (NR [] X.env)).any (·.1)=false:=by exact bN rfl)
  (hs:Pi (.Call (.Name cn p) [e] [] cpos) (some (.Name x pos')) pos.line X.env=pure false:=by rfl) (hf:X.fn x=true\/X.env.scope.names.lookup x=some .local:=by first|exact .inl rfl|exact .inr rfl|assumption) :
  C7 X Cx fl E (.Assign [.Name x pos'] (.Call (.Name cn p) [e] [] cpos) pos::rest) (iW i C m fe fr):=by
 obtain⟨f,fd,F1,F2,M⟩:=G.ex;exact zie M F1 F2 hr hg hm hN he ZA h2 hi hx YN Zk Yo hs hf
inductive IG(K:Frag)(C:Addr)(fl:Str)(E:XK)(f:Ys)(σ:L2.St)(H:Hp):Prop where
 |mk (O₀:Addr->Prop) (H₀:Hp) (F:List ((Addr->Prop)×Hp)) (ts:List Addr) (O:Addr->Prop) (ρ:XD) (T:Tp) (c:Int) (T':Tp) (rs:RS K O₀ H₀ F ts O H σ ρ T) (e:f ρ T=some (c,T')) (q:∀dx H',RS K O₀ H₀ F ts O H' σ ρ T'->H' dx=some (.xd [(fl,.int c)])->E (.ref C) (some dx) H'):IG K C fl E f σ H
structure Dp(X:L2.Cx)(C:Addr)(fl:Str)(body:List Stmt)(f:Ys):Prop where
 pe:∀(pins:List (Addr×Obj)) (s:NP) (σ:L2.St) (H:Hp) (Eh:XK),L2.Inv X pins σ H s->IG X.K C fl Eh f σ H->Oy (Os X.prog X.w) X.A (execs body X.env) (fun _ _=>False) (fun v s'=>∃H1 s1,L2.Inv X pins σ H1 s1/\Ym X.prog X.w X.stack H1 s1 Eh v s') s
theorem zig{R:Addr}{rn:Str}{f:Ys}{body:List Stmt}{b0:Stmt}{Ze:List Stmt}{ts:TS}{p2 G0 pos:Pos}(hB:Dp X Cx fl body f)(c:YX X.K Cx (.ref R::vE))(CI:Gl X rn)(Ib:X.mg rn=some (.ref Cx))(hs:∀e,ZZ (BW X e) (b0::Ze) ts)
  (BO:X.env.frame=some X.env.locals:=by rfl) (GD:X.stack=X.env::X.outer:=by rfl) (GQ:(rn == ("__debug__" : Str))=false:=by decide) :
  PS X (.Try body [.ExceptHandler (some (.Name rn p2)) none (b0::Ze) G0] [] [] pos) (fun D σ H=>IG X.K Cx fl (fun cv _ H2=>cv=.ref Cx/\ts D σ H2) f σ H):=by
 intro pins s σ H D I h;refine S6 (O5 (hB.pe pins s σ H _ I h) (fun _ _ z=>ON z) fun x s2 hx=>?_);obtain⟨H1,s1,I1,hq⟩:=hx;obtain⟨a,C',dx,T,H2,rfl,DR,ZC,Z6,ZJ,ge,C6,neT,xr,tb,fe,fT,ec,qx⟩:=hq;cases ec;have I2:L2.Inv X pins σ H2 s2:=I1.call' (ch:=[]) DR Z6 ZJ ZC (fun b z=>absurd z (by simp));have st:=I2.env0
 have goU:∀(xs:List Addr) (h':Heap),(∀y∈xs,s1.heap.get? y=none/\H2 y=none)->Kp xs (frs X.stack) s2.heap h'->Un (frs X.stack) [] H1 H2 s1.heap h'/\YR X.prog X.w H2 h':=fun xs h' nx kp=>by
  have lt:∀{b:Addr}{o:Obj},s1.heap.get? b=some o->b∉xs:=fun q z=>by rw[(nx _ z).1] at q;cases q
  refine⟨⟨fun b o q n m _=>?_,fun b o q n m _=>?_,Z6.free,fun b o q _=>?_,Z6.tups,Z6.frzs,Z6.tbls⟩,fun b o e=>?_⟩
  .exact kp.keep b o (Z6.keep b o q n m (by simp)) (lt q) m
  .obtain⟨sl,e1⟩:=Z6.slot b o q n m (by simp)
   obtain⟨Fv,e2⟩:=kp.slot b _ e1 (lt q) m;exact⟨Fv,e2⟩
  .obtain⟨o',e1⟩:=Z6.there b o q (by simp)
   exact kp.there b o' e1
  .refine(ZJ b o e).stay (fun c' u hc q=>?_) (fun _ q=>q) fun _ _ q=>q
   have tr:∃v,H2 c'=some v:=by
    rcases hc with rfl|hc
    .exact⟨_,e⟩
    .exact⟨_,hc⟩
   obtain⟨v,tr⟩:=tr;refine kp.keep c' u q (fun z=>?_) fun z=>?_
   .rw[(nx c' z).2] at tr;cases tr
   .rw[I2.stkFree c' z] at tr;cases tr
 have go:∀(xs:List Addr) (h':Heap),(∀y∈xs,s1.heap.get? y=none/\H2 y=none)->Kp xs (frs X.stack) s2.heap h'->L2.Inv X pins σ H2 { s2 with heap:=h' }:=fun xs h' nx kp=>I1.call' (ch:=[]) (s':={ s2 with heap:=h' }) DR (goU xs h' nx kp).1 (goU xs h' nx kp).2 ZC (fun b z=>absurd z (by simp))
 have Hz:X.A.frames=some (X.env::X.outer):=by rw[←GD];exact st.frames
 have GO:s2.heap.FunFrames X.base (X.env::X.outer):=by rw[←GD];exact st.funs
 refine mS (base:=X.base) (outer:=X.outer) (L:=X.env.locals) Hz GO BO xr tb neT fun h3 T3 g1 g2 g3 g4 g5=>?_;rw[←GD] at g5;have xG:H2 T3=none:=ZJ.fresh g1;refine jR g2 g3 g4 fun h4 j1 j2 j3=>?_;have FH:∀{x:Addr}{u v:Heap},Kp [x] [] u v->Kp [x] (frs X.stack) u v:=fun k=>⟨fun b o q n _=>k.keep b o q n (by simp),fun b o q n _=>⟨o.slots,k.keep b o q n (by simp)⟩,k.there⟩;have JM:Kp [a,T,T3] (frs X.stack) s2.heap h4:=(g5.more fun x hx=>by simp at hx;rcases hx with z|z <;> simp[z]).trans ((FH j3).more fun x hx=>by simp at hx;simp[hx])
 have nx:∀y∈[a,T,T3],s1.heap.get? y=none/\H2 y=none:=fun y hy=>by
  simp at hy
  rcases hy with rfl|rfl|rfl
  .exact⟨PB ge,fe⟩
  .exact⟨PB C6,fT⟩
  .refine⟨?_,xG⟩
   cases z:s1.heap.get? y with
   |none=>rfl
   |some o=>
    obtain⟨o',e1⟩:=Z6.there y o z (by simp);exact absurd (N5 e1) (Nat.not_lt.mpr g1)
 have I4:=go _ h4 nx JM;obtain⟨t4,FQ⟩:=id j1;have I5:L2.Inv (BW X a) pins σ H2 { s2 with heap:=h4 }:=v6 I4;refine UH (TR ?_) (by intro z;cases z);refine gM (X:=BW X a) I5 CI Ib ?_ GQ;refine zhv I5.kIn c FQ rfl ?_;refine codeAny_handlers_suite ?_;refine jR j1 j2 g4 fun h6 l1 l2 l3=>?_;have I7:L2.Inv (BW X a) pins σ H2 { s2 with heap:=h6 }:=v6 (go _ h6 nx (JM.trans ((FH l3).more fun x hx=>by simp at hx;simp[hx])));refine O5 (hs a pins _ _ _ _ I7 qx) (fun f s9 Di=>?_) fun _ _ z=>ON z
 cases f with
 |next=>
  obtain⟨Fb,H9,I9,q9⟩:=Di;exact⟨_,_,my I.ok I9,q9⟩
 |brk=>
  obtain⟨Fb,H9,I9,q9⟩:=Di;exact⟨_,_,my I.ok I9,q9⟩
 |cont=>
  obtain⟨Fb,H9,I9,q9⟩:=Di;exact⟨_,_,my I.ok I9,q9⟩
 |ret u=>
  obtain⟨v9,Fb,H9,I9,r9,q9⟩:=Di;exact⟨_,_,_,my I.ok I9,r9,q9⟩
end
end XO
namespace XO
open L2 D
open XE (Kp forget cx da dS YX vE YG ba)
section
variable {X:L2.Cx}{C:Addr}{fl:Str}
theorem xR(hl:eQ g n)(h:IG X.K C fl E (cS m g) σ H):rF (ba X.K n C fl m) [] E (lL X.K g) σ H Q:=by
 obtain⟨O₀,H₀,F,ts,O,ρ,T,c,T',rs,e,q⟩:=h;obtain⟨ws,T1,e1,e⟩:=aF e;split at e
 .rename_i hn
  refine⟨O,ts,ρ,T,ws,T1,rs.hc,rs.re,e1,fun vs H1 s1 Xy r1=>?_⟩;rw[Pb];exact⟨O,ts,T1,ws,c,T',Xy,r1,hl _ _ _ _ e1,hn,e,fun dx H' s2 XW hx=>q dx H' ((rs.step s1 Xy).step s2 XW) hx⟩
 .cases e
theorem zih(G:Bx X.prog X.w X.K X.mg X.base name ps k (ba X.K ps.length C fl m))(hr:X0 k X.A)(hg:Gl X name)(ha:DA X.nox (e::es) g)(hl:eQ g ps.length)(YN:(name == ("__debug__" : Str))=false:=by decide)
  (he:NR (e::es) X.env=(false,eval e X.env)::NR es X.env:=by exact bo rfl) (Yo:(OO cpos (NR es X.env)).any (·.1)=false:=by exact bN rfl) :
  Dp X C fl [.Return (some (.Call (.Name name p) (e::es) [] cpos)) pos] (cS m g):=by
 refine⟨fun pins s σ H Eh I h=>?_⟩;obtain⟨f,fd,F,hb,hk,hm⟩:=G.ex;have h2:=xR (X:=X) (Q:=fun _ _=>False) hl h;refine RL (SC ?_);refine PY (gM I hg hm ?_ YN);refine Qo (h₀:=X.base) I.ok.mod.kin hk ?_ he Yo;refine O5 (ha.pe cpos pins s σ H _ (I.wish _) h2) (fun us s1 ⟨vs,H1,Kg,rv,q⟩=>?_) fun _ _ z=>ON z;have I1:L2.Inv X pins σ H1 s1:=Kg.unwish;refine⟨I1.kIn,?_⟩;have q:ba X.K ps.length C fl m (vs++[]) H1 (fun _ _=>False) Eh:=q;rw[Pb] at q
 have X4:us.length=ps.length:=by rw[←rv.length];exact F.len _ _ _ _ q
 refine RO (Q8 (F.run X.A X.stack s1 H1 ⟨us,[]⟩ us vs _ _ hr I1.env0 (by simpa using hb s1 us I1.kIn (by simpa using X4)) rv q) fun res s2 hq=>?_)
 cases res with
 |ok fl=>
  cases fl with
  |ret u=>
   obtain⟨v,H2,I2,r2,q2⟩:=I1.after hq;exact ON q2
  |next=>exact ON hq
  |brk=>exact ON hq
  |cont=>exact ON hq
 |error x=>exact⟨H1,s1,I1,hq⟩
def gq(f:FS)(x:Ys)(h:FS):FS:=fun ρ T=>match f ρ T with
 |some r=>some r
 |none=>XI (x ρ T) fun _ T1=>h ρ T1
theorem zii(hO:C9 X body f)(hB:Dp X C fl body x)(c:YX X.K C (.ref R::vE))(Ib:X.mg rn=some (.ref C))(hs:∀e,C9 (BW X e) (b0::Ze) h)
  (CI:Gl X rn:=by rfl) (hx:∀v s,¬X.xe v s:=by exact fun _ _ z=>z) (BO:X.env.frame=some X.env.locals:=by rfl) (GD:X.stack=X.env::X.outer:=by rfl) (GQ:(rn == ("__debug__" : Str))=false:=by decide) :
  DS X (.Try body [.ExceptHandler (some (.Name rn p2)) none (b0::Ze) G0] [] [] pos) (gq f x h):=by
 refine⟨fun pins s σ H D I q=>?_⟩;obtain⟨O₀,H₀,F,ts,O,ρ,T,GV,ρ',T',rs,e,q⟩:=q;unfold gq at e;split at e
 .rename_i r e1
  cases e;exact(u5 hO hx).pe pins s σ H D I ⟨O₀,H₀,F,ts,O,ρ,T,GV,ρ',T',rs,e1,q⟩
 .obtain⟨_,T1,e1,e⟩:=aF e
  exact zig (ts:=oo X.K h) hB c CI Ib (fun e=>(hs e).pe) BO GD GQ pins s σ H D I ⟨O₀,H₀,F,ts,O,ρ,T,_,T1,rs,e1,fun dx H' B9 _=>⟨rfl,O₀,H₀,F,ts,O,ρ,T1,GV,ρ',T',B9,e,q⟩⟩
end
end XO
namespace XO
open L2 D
def gm(i j:Nat)(g:FS)(gx:Ys):Nat->List NN->Ys
 |n,x::xs=>fun ρ T=>match gx ((ρ.set i (some (.d (.int (n:Int))))).set j (some (.d x))) T with
  |some z=>some z
  |none=>XI (g ((ρ.set i (some (.d (.int (n:Int))))).set j (some (.d x))) T) fun p T1=>match (p:Fl×XD) with
   |(.nx,Yc)=>gm i j g gx (n+1) xs Yc T1
   |_=>none
 |_,[]=>fun _ _=>none
def nM(i j:Nat)(f:FE)(g:FS)(gx:Ys):Ys:=fun ρ T=>XI (f ρ T) fun w T1=>match w with
 |.d (.list xs)=>gm i j g gx 0 xs ρ T1
 |_=>none
theorem zij(h1:ZZ X e t)(h2:ZZ X e u):ZZ X e (fun D σ H=>t D σ H\/u D σ H):=fun pins s σ H D I q=>q.elim (h1 pins s σ H D I) (h2 pins s σ H D I)
theorem zik(hm:X.mg "enumerate"=none)(hN:X.N.Nodup)(ha:DE X a f)(hb:C9 X body g)(Ip:C7 X C fl E body gx)(hp:SR (Os X.prog X.w) X.A X.env X.xe)(hg:Gl X "enumerate":=by rfl)(hi:X.N[i]? = some x:=by rfl)(hj:X.N[j]? = some y:=by rfl)(hx:Loc X.env.scope x:=by first|exact Qp rfl|exact PZ rfl)(hy:Loc X.env.scope y:=by first|exact Qp rfl|exact PZ rfl)
  (hf:X.fn x=true\/X.env.scope.names.lookup x=some .local:=by first|exact .inl rfl|exact .inr rfl|assumption) (Jm:X.fn y=true\/X.env.scope.names.lookup y=some .local:=by first|exact .inl rfl|exact .inr rfl|assumption) (hc:X.calm=true:=by rfl)
  (Ff:NR [a] X.env=[(false,eval a X.env)]:=by exact kE rfl) (Zy:NR [] X.env=[]:=by rfl) (hs:∀v,Pe (.Call (.Name "enumerate" zp) [a] [] cpos) X.env v=pure v:=by intro _;rfl) :
  C7 X C fl E (.For (.Tuple [.Name x px,.Name y py] k Yl) (.Call (.Name "enumerate" zp) [a] [] cpos) body [] pos::Fz) (nM i j f g gx):=by
 refine⟨eW (dF (q5 hp hc (uP (ta:=jY (lift X.K f) kb) hg hm (bf ha.pe bR (by rw[Ff,Zy])) Ff) (zsr hc (mv (kQ hN hi hx hf) (mv (kQ hN hj hy Jm) zsq))) (zij hb.pe Ip.pe) hs) jE) fun D σ H=>?_⟩;rintro⟨O₀,H₀,F,ts,O,ρ,T,n0,T',rs,e,q⟩;obtain⟨w1,T1,e1,e⟩:=aF e;refine⟨O,ts,ρ,T,w1,T1,rs.hc,rs.re,e1,fun v1 H1 s1 Xy r1=>?_⟩;have Z4:=rs.step s1 Xy;split at e
 .rename_i dx
  have Hs:Rep X.K O H1 v1 (.list dx):=r1
  cases Hs with
  |@lst la vx _ tx rx=>
  refine⟨la,vx,rfl,tx.sq,fun zx=>?_⟩;have lx:=rx.length;refine⟨fun n m σ H=>m=dx.length-n/\n<=dx.length/\∃O' Br Tk,RS X.K O₀ H₀ ((O,H1)::F) ts O' H σ Br Tk/\gm i j g gx n (dx.drop n) Br Tk=some (n0,T'),⟨_,rfl,QK _,O,ρ,T1,Z4.more,e⟩,?_⟩;rintro n m YW H3 ⟨rfl,hk,O',Br,Tk,Zb,ek⟩;have le:=Zb.frs _ NZ;have HL:=(tx.mono le).sq
  by_cases ZU:n<dx.length
  .refine .inr ⟨⟨vx,HL,by omega⟩,fun YW H3=>∃O' Br Tk,RS X.K O₀ H₀ ((O,H1)::F) ts O' H3 YW Br Tk/\gm i j g gx (n+1) (dx.drop (n+1)) Br Tk=some (n0,T'),fun YW H3 nn=>⟨dx.length-(n+1),by omega,rfl,ZU,nn⟩,fun v H4 yy=>?_⟩
   obtain⟨p,v',Ew,kx,rfl,rfl⟩:=yy;obtain⟨d1,Ep,AF⟩:=rx.get (kx vx HL)
   have Iu:dx.drop n=d1::dx.drop (n+1):=by rw[Pr ZU,(NS.mp Ep).2]
   rw[Iu] at ek;have z5:=Zb.step (.new Ew (.tup [.int (n:Int),v'])) (Zb.hc.new Ew _);have F5:=le.trans (Zb.hc.leNew Ew (.tup [.int (n:Int),v']));have rs5:=(z5.set (i:=i) (w:=.d (.int (n:Int))) (Rep.int _) (fun _ z=>nomatch z)).set (i:=j) (w:=.d d1) (Rep.mono F5 AF) (fun _ z=>nomatch z);refine⟨p,_,rfl,Zz.of bu,rfl,_,_,rfl,_,_,rfl,rfl,?_⟩;unfold gm at ek;split at ek
   .rename_i z e3
    cases ek;exact .inr ⟨O₀,H₀,(O,H1)::F,ts,O',_,Tk,n0,T',rs5,e3,q⟩
   .obtain⟨⟨EG,Yc⟩,T3,e3,ek⟩:=aF ek
    cases EG with
    |nx=>exact .inl ⟨O₀,H₀,(O,H1)::F,ts,O',_,Tk,.nx,Yc,T3,rs5,e3,fun O3 YW H3 Zb=>⟨O3,Yc,T3,Zb,ek⟩⟩
    |_=>cases ek
  .rw[OU (show dx.length<=n by omega)] at ek
   cases ek
 .cases e
end XO
namespace XO
open L2 D
open XE (Kp forget cx da dS YX vE YG ba name_goes l5 fN pA ko t7)
section
variable {X:L2.Cx}{C:Addr}{fl:Str}
def Gm(K:Frag)(C:Addr)(fl:Str)(i:Nat)(f:Ys)(ts:Addr->Addr->TS):TS:=fun D σ H=>IG K C fl (fun cv od H2=>cv=.ref C/\∃dx,od=some dx /\
 ∀e,ts e dx { nx:=fun σ'=>D.nx (σ'.set i none),rt:=D.rt,bk:=fun σ'=>D.bk (σ'.set i none),ct:=fun σ'=>D.ct (σ'.set i none) } (σ.set i (some (.ref e))) H2) f σ H
theorem zil{ts:Addr->Addr->TS}(hB:Dp X C fl body f)(c:YX X.K C (.ref R::vE))(r:YX X.K R vE)(CI:Gl X rn)(Ib:X.mg rn=some (.ref R))(hN:X.N.Nodup)(hs:∀e oe dx,oe.cls=.ref C->oe.dict=some dx->(∃vs,oe.data=.fields vs)->ZZ (fN X e oe) (b0::Ze) (ts e dx))
  (hi:X.N[i]? = some n:=by rfl) (hl:X.env.scope.names.lookup n=some .local:=by rfl) (BO:X.env.frame=some X.env.locals:=by rfl) (GD:X.stack=X.env::X.outer:=by rfl) (GQ:(rn == ("__debug__" : Str))=false:=by decide) :
  PS X (.Try body [.ExceptHandler (some (.Name rn p2)) (some n) (b0::Ze) G0] [] [] pos) (Gm X.K C fl i f ts):=by
 intro pins s σ H D I h;refine S6 (O5 (hB.pe pins s σ H _ I h) (fun _ _ z=>ON z) fun x s2 hx=>?_);obtain⟨H1,s1,I1,hq⟩:=hx;obtain⟨a,C',dx0,T,H2,rfl,DR,ZC,Z6,ZJ,ge,C6,neT,xr,tb,fe,fT,ec,dx,ed,qx⟩:=hq;cases ec;cases ed;have I2:L2.Inv X pins σ H2 s2:=I1.call' (ch:=[]) DR Z6 ZJ ZC (fun b z=>absurd z (by simp));have st:=I2.env0;have Bg:∀y,s1.heap.objs.size<=y->y≠X.env.locals:=fun y hy z=>OK _ (N6 (z ▸ I1.lt) hy)
 have nef:∀y,s1.heap.objs.size<=y->y∉frs X.stack:=fun y hy z=>by
  obtain⟨_,o,ho,_⟩:=I1.stack.mem z;exact OK _ (N6 (N5 ho) hy)
 have go:∀(xs:List Addr) (h':Heap),(∀y∈xs,s1.heap.get? y=none/\H2 y=none)->Kp xs (frs X.stack) s2.heap h'->L2.Inv X pins σ H2 { s2 with heap:=h' }:=fun xs h' nx kp=>by
  have lt:∀{b:Addr}{o:Obj},s1.heap.get? b=some o->b∉xs:=fun q z=>by rw[(nx _ z).1] at q;cases q
  refine I1.call' (ch:=[]) (s':={ s2 with heap:=h' }) DR ⟨fun b o q n m _=>?_,fun b o q n m _=>?_,Z6.free,fun b o q _=>?_,Z6.tups,Z6.frzs,Z6.tbls⟩ (fun b o e=>?_) ZC (fun b z=>absurd z (by simp))
  .exact kp.keep b o (Z6.keep b o q n m (by simp)) (lt q) m
  .obtain⟨sl,e1⟩:=Z6.slot b o q n m (by simp)
   obtain⟨Fv,e2⟩:=kp.slot b _ e1 (lt q) m;exact⟨Fv,e2⟩
  .obtain⟨o',e1⟩:=Z6.there b o q (by simp)
   exact kp.there b o' e1
  .refine(ZJ b o e).stay (fun c' u hc q=>?_) (fun _ q=>q) fun _ _ q=>q
   have tr:∃v,H2 c'=some v:=by
    rcases hc with rfl|hc
    .exact⟨_,e⟩
    .exact⟨_,hc⟩
   obtain⟨v,tr⟩:=tr;refine kp.keep c' u q (fun z=>?_) fun z=>?_
   .rw[(nx c' z).2] at tr;cases tr
   .rw[I2.stkFree c' z] at tr;cases tr
 have Hz:X.A.frames=some (X.env::X.outer):=by rw[←GD];exact st.frames
 have GO:s2.heap.FunFrames X.base (X.env::X.outer):=by rw[←GD];exact st.funs
 refine mS (base:=X.base) (outer:=X.outer) (L:=X.env.locals) Hz GO BO xr tb neT fun h3 T3 g1 g2 g3 g4 g5=>?_;rw[←GD] at g5;have xG:H2 T3=none:=ZJ.fresh g1;refine jR g2 g3 g4 fun h4 j1 j2 j3=>?_;have FH:∀{x:Addr}{u v:Heap},Kp [x] [] u v->Kp [x] (frs X.stack) u v:=fun k=>⟨fun b o q n _=>k.keep b o q n (by simp),fun b o q n _=>⟨o.slots,k.keep b o q n (by simp)⟩,k.there⟩;have JM:Kp [a,T,T3] (frs X.stack) s2.heap h4:=(g5.more fun x hx=>by simp at hx;rcases hx with z|z <;> simp[z]).trans ((FH j3).more fun x hx=>by simp at hx;simp[hx])
 have nx:∀y∈[a,T,T3],s1.heap.get? y=none/\H2 y=none:=fun y hy=>by
  simp at hy
  rcases hy with rfl|rfl|rfl
  .exact⟨PB ge,fe⟩
  .exact⟨PB C6,fT⟩
  .refine⟨?_,xG⟩
   cases z:s1.heap.get? y with
   |none=>rfl
   |some o=>
    obtain⟨o',e1⟩:=Z6.there y o z (by simp);exact absurd (N5 e1) (Nat.not_lt.mpr g1)
 have I4:=go _ h4 nx JM;obtain⟨t4,FQ⟩:=id j1
 have pin:∀{h':Heap},h'.get? a=some { cls:=.ref C,dict:=some dx,data:=.fields #[.ref t4,.ref T3,.none,.none,.bool false,.none] }->h'.get? a=some { cls:=.ref C,dict:=some dx,data:=.fields #[.ref t4,.ref T3,.none,.none,.bool false,.none] }/\H2 a=none/\a≠X.env.locals/\a∉X.fs/\∀v,(Xh #[.ref t4,.ref T3,.none,.none,.bool false,.none])≠.cell v:=fun e=>
  ⟨e,fe,Bg a ge,fun z=>nef a ge (by rw[GD];unfold frs;rw[PN,BO];exact NV _ z),fun _ z=>nomatch z⟩
 let oe:Obj:={ cls:=.ref C,dict:=some dx,data:=.fields #[.ref t4,.ref T3,.none,.none,.bool false,.none] }
 have I5:L2.Inv (fN X a oe) pins σ H2 { s2 with heap:=h4 }:=pA I4 (pin FQ);refine UH (TR ?_) (by intro z;cases z);refine gM (X:=fN X a oe) I5 CI Ib ?_ GQ;refine t7 I5.kIn c r FQ rfl ?_;refine codeAny_handlers_suite_as ?_;refine jR j1 j2 g4 fun h6 l1 l2 l3=>?_;have I6:=go _ h6 nx (JM.trans ((FH l3).more fun x hx=>by simp at hx;simp[hx]));have he6:h6.get? a=some oe:=l3.keep a _ FQ (by simp;exact g4.symm) (by simp);have I7:L2.Inv (fN X a oe) pins σ H2 { s2 with heap:=h6 }:=pA I6 (pin he6);refine kz (X:=fN X a oe) (i:=i) (v:=.ref a) I7 hN hi (.inl hl) rfl (fun s8 I8=>?_) (.inr hl);refine O5 (hs a oe dx rfl rfl ⟨_,rfl⟩ pins s8 _ H2 _ I8 (qx a)) (fun f s9 Di=>?_) fun _ _ z=>ON z;show Oy _ _ (do bindName X.env n .none;RY X.env n G0) _ _ _
 cases f with
 |next=>
  obtain⟨Fb,H9,I9,q9⟩:=Di;exact name_goes (ko I.ok I9) hN hi hl fun s' I'=>⟨_,_,I',q9⟩
 |brk=>
  obtain⟨Fb,H9,I9,q9⟩:=Di;exact name_goes (ko I.ok I9) hN hi hl fun s' I'=>⟨_,_,I',q9⟩
 |cont=>
  obtain⟨Fb,H9,I9,q9⟩:=Di;exact name_goes (ko I.ok I9) hN hi hl fun s' I'=>⟨_,_,I',q9⟩
 |ret u=>
  obtain⟨v9,Fb,H9,I9,r9,q9⟩:=Di;exact name_goes (ko I.ok I9) hN hi hl fun s' I'=>⟨_,_,_,I',r9,q9⟩
theorem zim{ps:List Str}{m:List W->Tp->Option (Int×Tp)}(G:Bx X.prog X.w X.K X.mg X.base name ps k (ba X.K ps.length C fl m))(hr:X0 k X.A)(hg:Gl X name)(ha:DA X.nox (e::es) g)(hl:eQ g ps.length)(YN:(name == ("__debug__" : Str))=false:=by decide)
  (he:NR (e::es) X.env=(false,eval e X.env)::NR es X.env:=by exact bo rfl) (Yo:(OO cpos (NR es X.env)).any (·.1)=false:=by exact bN rfl)
  (hsT:NR [.Call (.Name name p) (e::es) [] cpos] X.env=(false,eval (.Call (.Name name p) (e::es) [] cpos) X.env)::NR [] X.env:=by exact bo rfl) :
  Dp X C fl [.Return (some (.List [.Call (.Name name p) (e::es) [] cpos] lp)) pos] (cS m g):=by
 refine⟨fun pins s σ H Eh I h=>?_⟩;obtain⟨f,fd,F,hb,hk,hm⟩:=G.ex;have h2:=xR (X:=X) (Q:=fun _ _=>False) hl h;refine RL (SC (UQ ?_));rw[hsT];show Oy _ _ (spliced ((false,eval (.Call (.Name name p) (e::es) [] cpos) X.env)::OO lp (NR [] X.env))) _ _ s;refine UP ?_;refine PY (gM I hg hm ?_ YN);refine Qo (h₀:=X.base) I.ok.mod.kin hk ?_ he Yo;refine O5 (ha.pe cpos pins s σ H _ (I.wish _) h2) (fun us s1 ⟨vs,H1,Kg,rv,q⟩=>?_) fun _ _ z=>ON z;have I1:L2.Inv X pins σ H1 s1:=Kg.unwish;refine⟨I1.kIn,?_⟩;have q:ba X.K ps.length C fl m (vs++[]) H1 (fun _ _=>False) Eh:=q;rw[Pb] at q
 have X4:us.length=ps.length:=by rw[←rv.length];exact F.len _ _ _ _ q
 refine RO (Q8 (F.run X.A X.stack s1 H1 ⟨us,[]⟩ us vs _ _ hr I1.env0 (by simpa using hb s1 us I1.kIn (by simpa using X4)) rv q) fun res s2 hq=>?_)
 cases res with
 |ok fl=>
  cases fl with
  |ret u=>
   obtain⟨v,H2,I2,r2,q2⟩:=I1.after hq;exact ON q2
  |next=>exact ON hq
  |brk=>exact ON hq
  |cont=>exact ON hq
 |error x=>exact⟨H1,s1,I1,hq⟩
end
end XO
namespace XO
open L2 D
open XE (Kp forget cx da dS YX vE YG ba fN)
section
variable {X:L2.Cx}{C:Addr}{fl:Str}
def jd(f:FS)(x:Ys)(h:Int->NN):FS:=fun ρ T=>match f ρ T with
 |some r=>some r
 |none=>XI (x ρ T) fun n T1=>some ((.rt (h n),ρ),T1)
theorem zin{R:Addr}{rn n:Str}{i:Nat}{f:FS}{x:Ys}{h:Int->NN}{body:List Stmt}{b0:Stmt}{Ze:List Stmt}{ts:Addr->Addr->TS}{p2 G0 pos:Pos}(hO:C9 X body f)(hB:Dp X C fl body x)(c:YX X.K C (.ref R::vE))(r:YX X.K R vE)(Ib:X.mg rn=some (.ref R))(hN:X.N.Nodup)
  (hs:∀e oe dx,oe.cls=.ref C->oe.dict=some dx->(∃vs,oe.data=.fields vs)->ZZ (fN X e oe) (b0::Ze) (ts e dx))
  (hh:∀(O:Addr->Prop) (tp:List Addr) (T:Tp) (e dx:Addr) (m:Int) (H:Hp) (D:Ends) (σ:L2.St),HC X.K O tp H T->H dx=some (.xd [(fl,.int m)])->σ[i]? = some (some (.ref e))->σ.length=X.N.length->(∀v H',XQ tp H H'->HC X.K O tp H' T->Rep X.K O H' v (h m)->D.rt v H')->ts e dx D σ H)
  (CI:Gl X rn:=by rfl) (hi:X.N[i]? = some n:=by rfl) (hl:X.env.scope.names.lookup n=some .local:=by rfl) (hx:∀v s,¬X.xe v s:=by exact fun _ _ z=>z) (BO:X.env.frame=some X.env.locals:=by rfl) (GD:X.stack=X.env::X.outer:=by rfl) (GQ:(rn == ("__debug__" : Str))=false:=by decide) :
  DS X (.Try body [.ExceptHandler (some (.Name rn p2)) (some n) (b0::Ze) G0] [] [] pos) (jd f x h):=by
 refine⟨fun pins s σ H D I q=>?_⟩;obtain⟨O₀,H₀,F,tp,O,ρ,T,GV,ρ',T',rs,e,q⟩:=q;have lσ:σ.length=X.N.length:=I.len;unfold jd at e;split at e
 .rename_i r e1
  cases e;exact(u5 hO hx).pe pins s σ H D I ⟨O₀,H₀,F,tp,O,ρ,T,GV,ρ',T',rs,e1,q⟩
 .obtain⟨m,T1,e1,e⟩:=aF e
  cases e;refine zil (i:=i) hB c r CI Ib hN hs hi hl BO GD GQ pins s σ H D I ⟨O₀,H₀,F,tp,O,ρ,T,m,T',rs,e1,fun dx H' B9 hd=>⟨rfl,dx,rfl,fun e=>?_⟩⟩;have GZ:=B9.frzH;refine hh O₀ tp T' e dx m H' _ _ GZ hd ?_ ?_ fun v H2 s2 XW r2=>q v H2 (B9.same.trans s2) XW r2
  .rw[Oh]
   rw[lσ];exact(NS.mp hi).1
  .rw[List.length_set];exact lσ
end
end XO
namespace D
open L2
section
variable {X:Cx}{pos:Pos}
def jZ(z y:Str)(k:Int):Bool:=!(decide (k < -(2^63:Int))||decide (k>=2^63))&&!(y.length == 0)&&decide (z.length+2<=NX)
theorem zio:Dl X "str.split" (fun x vs H Q=>∃(z y:Str) (k:Int),x=.str z/\vs=[.str y,.int k]/\jZ z y k=true/\∀l,H l=none->Q (.ref l) (upd H l (.lst ((Py z y k).map V.str)))):=by
 intro pins s σ H x vs v us Q I rx rv h;obtain⟨z,y,k,rfl,rfl,hk,q⟩:=h;obtain⟨t,rfl⟩:=rx;obtain⟨u1,u2,rfl,r1,r2⟩:=vals2 rv;obtain⟨t1,rfl⟩:=r1;obtain⟨t2,rfl⟩:=r2;unfold jZ at hk;simp only[NY,Vh,decide_eq_true_eq] at hk;obtain⟨⟨h1,hy⟩,hz⟩:=hk
 have np:(P3 z (OM z y 0 z.length (QV z k)) y.length).length<=sizeLine:=by
  have o1:=StrLaws.occ_length_le_len z y 0 z.length (QV z k);rw[UE];omega
 have fin:∀(l:List (Str×Tok)) (n:Nat),l.map (·.1)=Py z y k->l.length<=NX->EP X pins σ Q (.ref s.heap.objs.size) { s with toks:=n,heap:=s.heap.push { cls:=.type "list",data:=.seq (Uu l).toArray } }:=fun l n e hl=>by
  have hn:((Py z y k).map V.str).length<=sizeLine:=by rw[←e];simpa using hl
  refine⟨.ref s.heap.objs.size,_,I.laid (t':=n) (fun b o w=>NQ _ w) (Of _) (show X7 X.prog X.w _ _ _ (.lst ((Py z y k).map V.str)) from⟨hn,Uu l,0,?_,Ox _ rfl⟩),rfl,q _ (I.hok.fresh (Of _))⟩;rw[←e];exact pB l
 cases c1:(decide (z.length<y.length)||decide (Pl z<Pl y))
 .cases c2:(OM z y 0 z.length (QV z k)).isEmpty
  .refine QN Ph (QM _ _ _) PC (Rh _ _ _) (meets_str_split_sep_max z y k t t1 t2 h1 c1 hy c2 (by omega) np) ?_
   show wants _ _ _ { s with toks:=_,heap:=s.heap.push { cls:=.type "list",data:=.seq (strsFrom s.toks (P3 z (OM z y 0 z.length (QV z k)) y.length)).toArray } };rw[strsFrom_eq];have e0:=Uj s.toks (P3 z (OM z y 0 z.length (QV z k)) y.length);refine fin (numbered s.toks _) _ (e0.trans ((if_neg (ne_true_of_eq_false c1)).trans (if_neg (ne_true_of_eq_false c2))).symm) ?_;have e2:=congrArg SE e0;rw[OY] at e2;rw[e2];exact np
  .exact QN Ph (QM _ _ _) PC (Rh _ _ _) (meets_str_split_max_not_found z y k t t1 t2 h1 c1 hy c2) (fin [(z,t)] s.toks ((if_neg (ne_true_of_eq_false c1)).trans (if_pos c2)).symm (by show 1<=NX;decide))
 .exact QN Ph (QM _ _ _) PC (Rh _ _ _) (meets_str_split_max_cannot_occur z y k t t1 t2 h1 c1) (fin [(z,t)] s.toks (if_pos c1).symm (by show 1<=NX;decide))
def mN(k:Int):NN->NN->Option NN
 |.str z,.str y=>if jZ z y k=true then some (.list ((Py z y k).map .str)) else none
 |_,_=>none
theorem ziq(ho:DE X o fo)(he:DE X e fe)
  (YI:Pj o "split" X.env (eval o X.env)=eval o X.env:=by rfl)
  (Zv:((OO cpos (NR [e,.Constant (.int k) j kp] X.env)).all (fun x=>!x.1)&&(PX cpos (O8 [] X.env)).all (fun x=>x.1.isSome)
   && decide (([e,.Constant (.int k) j kp]:List Expr).length+([]:List PD).length+(if ([]:List PD).isEmpty then 0 else 1)<30))=true:=by exact zgk rfl rfl)
  (YH:(apos.endLine == cpos.line)=true:=by rfl) (Zk:NR [e,.Constant (.int k) j kp] X.env=(false,eval e X.env)::NR [.Constant (.int k) j kp] X.env:=by exact bo rfl) (wZ:NR [.Constant (.int k) j kp] X.env=(false,eval (.Constant (.int k) j kp) X.env)::NR [] X.env:=by exact bo rfl) (Yn:(OO cpos (NR [.Constant (.int k) j kp] X.env)).any (·.1)=false:=by exact bN rfl) :
  DE X (.Call (.Attribute o "split" apos) [e,.Constant (.int k) j kp] [] cpos) (ah (mN k) fo fe):=by
 refine⟨?_⟩;refine pe_imp (i5 Qf Ph Ts zio ho.pe (bf he.pe (bf zso bR wZ) Zk) YI Zv YH Zk Yn) fun σ H Q=>?_;rintro⟨O,ts,ρ,T,w,T',hc,re,e,q⟩;obtain⟨w1,T1,e1,e⟩:=aF e;obtain⟨w2,T2,e2,e⟩:=aF e;obtain⟨x,y,d,h1,h2,h3,rfl,rfl⟩:=ip e;unfold mN at h3;split at h3
 .rename_i z y
  split at h3
  .rename_i hz
   cases h3;cases pQ h1;refine⟨O,ts,ρ,T,_,T1,hc,re,e1,fun v1 H1 s1 Xy r1=>?_⟩;cases (show Rep X.K O H1 v1 _ from r1);refine⟨rfl,O,ts,ρ,T1,w2,T',Xy,re.mono hc s1,e2,fun v2 H2 s2 XW r2=>?_⟩;cases (XW.view r2 h2).str;exact⟨z,y,k,rfl,rfl,hz,fun l hl=>q _ _ (s1.trans (s2.trans (.new hl _))) (XW.new hl _) (XW.newL hl (ma _))⟩
  .cases h3
 .cases h3
end
end D
namespace XE
open L2 D
structure DU(K:Frag)(C A:Addr):Prop where
 no:Pc K (.ref C) (.ref A)=some false
theorem GT{K:Frag}{C A:Addr}(h1:TJ K A=true)(h2:Uc K (.ref A)=some (.type "type"))(h3:SM K (.ref C) (.ref A)=some false)(h4:(Ol C == Ol A)=false):DU K C A:=⟨zhb h1 h2 h3 h4⟩
theorem F4{K:Frag}{C R:Addr}{f:Str}{nm q nm' q':Str}{N N':Addr}{bs bs' sub Kb:List NO}{sn sn':List Str}{ab ab':Bool}{col DG:Option Bool}{dd HQ:Option Addr}{k0 k1 k2 k3 k5 j0 j1 j2 j3 j5:Option NO}{oN oN':Obj}
  (lC:K.lookup C=some (VL nm q C N bs (.ref R::vE) true sn sub ab col dd k0 k1 k2 k3 k5 "ValueError.__new__")) (nC:K.lookup N=some oN)
  (lR:K.lookup R=some (VL nm' q' R N' bs' vE true sn' Kb ab' DG HQ j0 j1 j2 j3 j5 "ValueError.__new__")) (nR:K.lookup N'=some oN') (ri:Oi K N' "__init__"=some none) (kp:OT K (.ref C)=true)
  (bm:Qi K C (.type "BaseException")=some true) (gt:Og K (.ref C) "__getattr__"=some none) (ga:Og K (.ref C) "__getattribute__"=some (some (.builtin "BaseException.__getattribute__")))
  (ca:Og K (.ref C) "__class__"=some (some (.builtin "object.__class__"))) (hn:QX K (.builtin "object.__class__") "__get__"=some (some (.builtin "getset_descriptor.__get__")))
  (tk:R5 K (.builtin "object.__class__")=some true) (hm:Qi K C (.type "object")=some true) (nn:Og K (.ref C) f=some none) (sa:Og K (.ref C) "__setattr__"=some (some (.builtin "object.__setattr__")))
  (rd:Rk K R (.type "type")=true) (fc:R7 K (.ref R) (.type "type") "__init__"=some (.val (.builtin "ValueError.__init__"))) (kV:SM K (.ref C) (.type "ValueError")=some true)
  (oC:om oN=true) (oR:om oN'=true):XB K C R f []:=by
 have cl:Rg K C=some { name:=nm,bases:=bs,mro:=.ref C::.ref R::vE,ns:=N,qualname:=q,hasDict:=true,slotNames:=sn,subclasses:=sub,abstract:=ab,collection:=col,hasDel:=false }:=by
  unfold Rg;rw[lC]
 have no:∀{N:Addr}{o:Obj},K.lookup N=some o->om o=true->Uk K N=true:=fun {N o} h1 h2=>by
  obtain⟨oc,od,dt,sl⟩:=o;unfold Uk;rw[h1]
  cases dt with
  |dict es ep=>
   have h3:(es.toList.all fun e=>match e.key with
    |.str _ _=>true
    | _=>false)=true:=h2
   rw[Array.all_toList] at h3<;>omega
  |_=>cases h2
 refine⟨⟨_,_,_,_,_,_,_,_,_,_,_,_,_,_,lC,no nC oC⟩,⟨_,_,_,_,_,_,_,_,_,_,_,_,_,_,lR,no nR oR⟩,?_,kp,⟨bm,gt,ga,by simp_all,ca,hn,tk,hm⟩,?_,nn,sa,rd,fc,?_,zhc kV,rfl⟩
 .simp only[Qk]<;>simp_all
 .unfold P7<;>simp_all
 .unfold Pc<;>simp_all
theorem zir{K:Frag}{C R A1 A2 A3 A4 A5 A6 A7:Addr}{f:Str}(x:XB K C R f [])(h1:DU K C A1)(h2:DU K C A2)(h3:DU K C A3)(h4:DU K C A4)(h5:DU K C A5)(h6:DU K C A6)(h7:DU K C A7):XB K C R f [A1,A2,A3,A4,A5,A6,A7]:={ x with kD:=by simp only[List.map,Q2,h1.no,h2.no,h3.no,h4.no,h5.no,h6.no,h7.no] }
end XE
namespace XO
open L2 D
theorem qh{P:NU}{w:N8}{K:Frag}{mg:Str->Option NO}{base:Heap}{k n:Nat}{f:Addr}{fd:Oe}{ps:List Str}{c:Addr}{fl:Str}:Xz P w K mg base (Ym P w) k f fd ps (XE.ba K n c fl fun _ _=>none):=by
 have no:∀vs H Q E,¬XE.ba K n c fl (fun _ _=>none) vs H Q E:=fun vs H Q E h=>by
  obtain⟨O,ts,T,ws,x,T',_,_,_,_,e,_⟩:=h;cases e
 exact⟨fun vs H Q E h=>absurd h (no vs H Q E),fun A outer s H args us vs Q E _ _ _ _ h=>absurd h (no vs H Q E)⟩
end XO
namespace D
open L2
def oX:List W->Bool
 |[]=>true
 |.d _::r=>oX r
 |_=>false
theorem xk{K:Frag}{O:Addr->Prop}{ts:List Addr}{H:Hp}:∀{vs:List V}{ws:List W},gr K O ts H vs ws->oX ws=true->gr K O [] H vs ws
 |_,[],.nil,_=>.nil
 |_,.d x::r,.cons h t,e=>.cons (show Rep K O H _ x from h) (xk t e)
 |_,.tp _::_,.cons _ _,e=>by cases e
 |_,.loc x::r,.cons _ _,e=>by cases e
def lE(m:Yh)(ws:List W)(T1:Tp):Option (W×Tp):=if oX ws=true then (match m ws [] with
 |some (x,_)=>some (.d x,T1)
 | none=>none) else none
def jS(m:Yh)(g:FA):FE:=fun ρ T=>XI (g ρ T) (lE m)
theorem mG(F:Fn X.prog X.w X.K X.mg X.base name ps k (XA X.K ps.length m))(hr:X0 k X.A)(hg:Gl X name)(ha:DA X (e::es) g)(hl:eQ g ps.length)(YN:(name == ("__debug__" : Str))=false:=by decide)
  (he:NR (e::es) X.env=(false,eval e X.env)::NR es X.env:=by exact bo rfl) (Yo:(OO pos (NR es X.env)).any (·.1)=false:=by exact bN rfl):DE X (.Call (.Name name p) (e::es) [] pos) (jS m g):=by
 refine⟨?_⟩;refine pe_imp (rL F hr hg ha.pe YN he Yo) fun σ H Q=>?_;rintro⟨O,ts,ρ,T,w,T',hc,re,e,q⟩;obtain⟨ws,T1,e1,e⟩:=aF e;unfold lE at e;split at e
 .rename_i hn
  split at e
  .rename_i x T2 e2
   cases e;refine⟨O,ts,ρ,T,ws,_,hc,re,e1,fun vs H1 s1 Xy r1=>?_⟩;refine⟨O,[],[],ws,x,T2,⟨fun b hb=>(by cases hb),Xy.trk,Wg,rfl,fun i a xs e1 _=>by simp at e1⟩,by rw[Pb];exact xk r1 hn,hl _ _ _ _ e1,e2,fun v H2 s2 XW r2=>?_⟩;have s2':XQ ts H1 H2:=fun b o _ q=>s2 b o (by simp) q
   exact q v H2 (s1.trans s2') (Xy.step s2' fun b hb=>by
    obtain⟨u,z⟩:=(Xy.trk b (Xy.own b hb)).ex
    rw[z];exact s2 b _ (by simp) z) r2
  .cases e
 .cases e
end D
namespace G
open L2 D

theorem cO(k:Nat)(h:0<k):∃j,k=j+1:=⟨k-1,by omega⟩
abbrev Fd:=List D.W->Tp->Option (Int×Tp)
abbrev ac:FE:=fC (.int 1)
abbrev bd:FE:=aa 0
abbrev be:FE:=fC (.int 0)
abbrev bn:FE:=aa 1
abbrev db:FE:=aa 3
abbrev dL:FE:=aa 2
abbrev f8:FE:=fC (.str " ")
abbrev gl:FE:=fC .none
abbrev ii:FE:=aa 5
abbrev im:FE:=aa 4
abbrev io:FE:=fC (.int 2)
abbrev kt:FE:=fC (.str "put")
abbrev lf:FE:=fC (.int 8)
abbrev mt:FE:=fC (.int 4)
abbrev o0:FE:=fC (.str "abcdefghijklmnopqrstuvwxyz")
abbrev on:FE:=fC (.bool false)
abbrev pc:FE:=fC (.str "")
abbrev pi:FE:=fC (.str "fail")
abbrev pp:FE:=fC (.str "got")
abbrev pr:FE:=fC (.str "row")
abbrev sB:FE:=fC (.str "told ")
abbrev sK:FE:=fC (.str "made ")
abbrev tz:FE:=fC (.str "told")
abbrev u8:FE:=fC (.int 3)
abbrev wf:FE:=fC (.int 6)
abbrev wl:FE:=fC (.int 10)
abbrev wn:FE:=fC (.int 40)
abbrev wp:FE:=fC (.int 12)
abbrev wv:FE:=fC (.str " say put 1")
abbrev ww:FE:=fC (.str "made")
abbrev wE:FE:=fC (.int 18)
abbrev wP:FE:=fC (.str "say")
abbrev wS:FE:=aa 8
abbrev wT:FE:=aa 7
abbrev xz:FE:=fC (.int 7)
abbrev zn:FE:=fC (.int 5)
abbrev At:FE:=fC (.str "0")
abbrev AT:FE:=fC (.str "a")
abbrev BT:FE:=fC (.str "1")
abbrev Ch:FE:=fC (.int 20)
abbrev Cl:FE:=fC (.int 26)
abbrev Db:FE:=aa 6
abbrev Ev(f:FE):FA:=af f ai
abbrev Fa:FE->FE->FE:=ah az
abbrev Fr:FE->FE->FE:=ah Zx
abbrev Go:FE->FE->FE:=ah D6
abbrev Ix:FA->FE:=aT .tuple
abbrev IN:FA->FE:=Zu bi
abbrev IO:FA->FE:=aT .list
abbrev KK:FE->FE->FE:=ah BB
def lim(n:Int):Bool:=decide (0<=n)&&decide (n<1001)
def cI(C:Addr):Yh:=aW 2 (aq (jf C "parted" bd (ah dX bn f8)) (aq (jf C "place" bd be) (jf C "begun" bd be)))
def bL(C:Addr):Yh:=aW 1 (aB (gz (aH (KK (dC C "place" bd) (IN (Ev (dC C "parted" bd))))) (Fr (dC C "parted" bd) (dC C "place" bd)) pc))
def eU(C:Addr):Yh:=aW 2 (aq (Ye (eO (bI bn)) lS aR) (jf C "place" bd (Fa (dC C "place" bd) ac)))
def fz(C:Addr):Fd:=XO.dP 2 (XO.gy (eO (bI bn)) (XO.lQ lim (dC C "place" bd)))
def d8(C:Addr):Yh:=aW 3 (aq (fR (cb C "take" (eU C) bd (Ev (bJ bn (bJ (KK dL Ch) (KK (dC C "begun" bd) (fC (.int 60)))))))) (jf C "begun" bd (Fa (dC C "begun" bd) ac)))
def iI(C:Addr):Fd:=XO.dP 3 (XO.fJ C "take" (fz C) bd (Ev (bJ bn (bJ (KK dL Ch) (KK (dC C "begun" bd) (fC (.int 60)))))))
def iH(C:Addr):Yh:=aW 1 (Ye (aH (KK (dC C "place" bd) (IN (Ev (dC C "parted" bd))))) lS aR)
def kl(C:Addr):Fd:=XO.dP 1 (XO.gy (aH (KK (dC C "place" bd) (IN (Ev (dC C "parted" bd))))) (XO.lQ lim (dC C "place" bd)))
def l6:Yh:=aW 1 (aB (bJ (YO (ck .int) bd) (iz (YO (ck .bl) bd))))
def eB:Yh:=aW 2 (aB (Zu iF (Ev (cg (dj bd) bx (ah inD bd dL)))))
def du:Yh:=aW 1 (aB (bJ (YO (ck .str) bd) (bJ (nP D5 D5 ac (IN (Ev bd)) lf) (av eB (af bd (Ev o0))))))
def jz:Yh:=aW 1 (aq (Ye (bI (av l6 (Ev bd))) (aB (ah D5 (Zu oY (Ev bd)) (ah ji wl wE))) aR) (aB (bJ (YO (ck .str) bd) (bJ (ah D5 (IN (Ev bd)) Ch) (av eB (af bd (Ev (fC (.str "abcdefghijklmnopqrstuvwxyz0123456789-")))))))))
def eA:Nat->Yh
 |0=>fun _ _=>none
 |n+1=>aW 2 (aq (Ye (eO (bI (YO (ck .tup) bd))) (aB (av jz (Ev bd))) aR) (aq (Ye (cA (aH (Go bn be)) (aH (ah CB (IN (Ev bd)) lf))) (aB on) aR) (aB (Zu iF (Ev (cg (dj bd) bx (av (eA n) (af bd (Ev (ah d6 dL ac))))))))))
def f9:Nat->Yh
 |0=>fun _ _=>none
 |n+1=>aW 1 (aq (Ye (eO (bI (YO (ck .tup) bd))) (aB ac) aR) (aB (Fa ac (Zu oK (Ev (cg (dj bd) bx (av (f9 n) (Ev bd))))))))
def jD:Yh:=aW 1 (aB (bJ (av (eA 25) (af bd (Ev mt))) (ah D5 (av (f9 25) (Ev bd)) wn)))
def eV:Yh:=aW 2 (aB (gz (aH (ah inD bd (fC (.tuple [.str "want",.str "peek"])))) (Fa bn ac) bn))
def gF:Yh:=aW 1 (aq (Ye (cA (aH (Go bd pc)) (eO (bI (av eB (af bd (Ev (fC (.str "0123456789")))))))) (aB on) aR) (aB (ki (Go bd At) (iz (ah ig bd At)))))
def jy:Yh:=aW 2 (aq (aG 1 (gz (bI (ah ig bd (fC (.str "-")))) (Zq bd (fP ac) bP) bd)) (aq (Ye (cA (aH (Go bd (fC (.str "-0")))) (cA (aH (ah CB (IN (Ev bn)) (fC (.int 19)))) (eO (bI (av gF (Ev bn)))))) (aB gl) aR) (aB (Zu intD (Ev bd)))))
def jx:Yh:=aW 1 (aq (Ye (bI (ah ig bd (fC (.str "'")))) (aB (Zq bd (fP ac) bP)) aR) (aB (av jy (Ev bd))))
def iJ:Yh:=aW 4 (aq (aG 2 bn) (aq (fi (gZ (aH (KK dL (IN (Ev bd)))) (aH (ah nH (Fr bd dL) (fC (.str "(),"))))) (aG 2 (Fa dL ac)) 100000) (aq (aG 3 (av jx (Ev (Zq bd (fP bn) (fP dL))))) (aB (gz (aH (ah CG db gl)) gl (Ix (af db (Ev dL))))))))
mutual
def ic:Nat->Yh
 |0=>fun _ _=>none
 |n+1=>aW 6 (aq (Ye (aH (Go (Zq bd (fP bn) (fP (Fa bn ac))) (fC (.str ")")))) (aB (Ix (af (Ix ai) (Ev (Fa bn ac))))) aR) (aq (je 3 ai) (fi (bI (fC (.bool true))) (aq (aG 4 (av (df n) (af bd (af bn (Ev dL))))) (aq (Ye (aH (ah CG im gl)) (aB gl) aR) (aq (jp 3 (Fr im be)) (aq (aG 1 (Fa (Fr im ac) ac)) (aq (aG 5 (Zq bd (fP (Fr im ac)) (fP bn))) (aq (Ye (aH (Go ii (fC (.str ")")))) (aB (Ix (af (Zu gP (Ev db)) (Ev bn)))) aR) (Ye (aH (ah Bt ii (fC (.str ",")))) (aB gl) aR))))))) 100000)))
def df:Nat->Yh
 |0=>fun _ _=>none
 |n+1=>aW 3 (aq (Ye (aH (ah Bt (Zq bd (fP bn) (fP (Fa bn ac))) (fC (.str "(")))) (aB (av iJ (af bd (Ev bn)))) aR) (aq (Ye (aH (Go dL be)) (aB gl) aR) (aB (av (ic n) (af bd (af (Fa bn ac) (Ev (ah d6 dL ac))))))))
end
def de:Yh:=aW 2 (aq (aG 1 (av (df 25) (af bd (af be (Ev mt))))) (aq (Ye (cA (aH (ah CG bn gl)) (aH (KK (Fr bn ac) (IN (Ev bd))))) (aB gl) aR) (aB (gz (bI (av jD (Ev (Fr bn be)))) (Fr bn be) gl))))
def gJ(C:Addr):Yh:=aW 2 (aq (aG 1 (av de (Ev (cb C "ahead" (bL C) bd ai)))) (aq (fR (cb C "take" (eU C) bd (Ev (ah iq bn gl)))) (aB bn)))
def ky(C:Addr):Fd:=XO.dP 2 (XO.cB (aG 1 (av de (Ev (cb C "ahead" (bL C) bd ai)))) (XO.fJ C "take" (fz C) bd (Ev (ah iq bn gl))))
def eR(C:Addr):Yh:=aW 4 (aq (aG 2 (cg (cT bn) bx (Zu gu (Ev bd)))) (aq (aG 3 (cb C "ahead" (bL C) bd ai)) (aq (fR (cb C "take" (eU C) bd (Ev (ah inD db dL)))) (aB (lZ dL db)))))
def js(C:Addr):Fd:=XO.dP 4 (XO.cB (aG 2 (cg (cT bn) bx (Zu gu (Ev bd)))) (XO.cB (aG 3 (cb C "ahead" (bL C) bd ai)) (XO.fJ C "take" (fz C) bd (Ev (ah inD db dL)))))
mutual
def gG(C:Addr):Nat->Yh
 |0=>fun _ _=>none
 |n+1=>aW 4 (aB (Zu gP (Ev (cg (cT bn) bx (av (bQ C n) (af bn (af db (Ev im))))))))
def bQ(C:Addr):Nat->Yh
 |0=>fun _ _=>none
 |n+1=>aW 4 (aq (aG 3 (cb C "ahead" (bL C) bd ai)) (aq (fR (cb C "begin" (d8 C) bd (af (ki (ah inD db (fC (.tuple [.str "put",.str "got",.str "row"]))) (YO (Zc [("many",1),("part",2),("sum",2),("join",2),("same",2),("less",2)]) db)) (Ev bn)))) (aq (Ye (aH (Go db kt)) (aB (Ix (af db (Ev (av (gJ C) (Ev bd)))))) aR) (aq (Ye (aH (Go db pp)) (aB (Ix (af db (Ev (av (eR C) (af bd (Ev dL))))))) aR) (aq (Ye (aH (Go db pr)) (aB (Ix (af db (Ev (av (gG C n) (af bd (af (av (eR C) (af bd (Ev (Fa lf ac)))) (af (Fa bn ac) (Ev dL))))))))) aR) (aB (Fa (Ix (Ev db)) (av (gG C n) (af bd (af (YO (atT [("many",1),("part",2),("sum",2),("join",2),("same",2),("less",2)]) db) (af (Fa bn ac) (Ev dL))))))))))))
end
mutual
def kr(C:Addr):Nat->Fd
 |0=>fun _ _=>none
 |n+1=>XO.dP 4 (XO.nN (cT bn) (av (bQ C n) (af bn (af db (Ev im)))) (XO.cS (dD C n) (af bn (af db (Ev im)))))
def dD(C:Addr):Nat->Fd
 |0=>fun _ _=>none
 |n+1=>XO.dP 4 (XO.cB (aG 3 (cb C "ahead" (bL C) bd ai)) (XO.dB (XO.fJ C "begin" (iI C) bd (af (ki (ah inD db (fC (.tuple [.str "put",.str "got",.str "row"]))) (YO (Zc [("many",1),("part",2),("sum",2),("join",2),("same",2),("less",2)]) db)) (Ev bn))) (XO.cB (fR (cb C "begin" (d8 C) bd (af (ki (ah inD db (fC (.tuple [.str "put",.str "got",.str "row"]))) (YO (Zc [("many",1),("part",2),("sum",2),("join",2),("same",2),("less",2)]) db)) (Ev bn)))) (XO.dB (XO.gy (aH (Go db kt)) (XO.fZ db (XO.cS (ky C) (Ev bd)))) (XO.cB (Ye (aH (Go db kt)) (aB (Ix (af db (Ev (av (gJ C) (Ev bd)))))) aR) (XO.dB (XO.gy (aH (Go db pp)) (XO.fZ db (XO.cS (js C) (af bd (Ev dL))))) (XO.cB (Ye (aH (Go db pp)) (aB (Ix (af db (Ev (av (eR C) (af bd (Ev dL))))))) aR) (XO.dB (XO.gy (aH (Go db pr)) (XO.fZ db (XO.dB (XO.fZ bd (XO.cS (js C) (af bd (Ev (Fa lf ac))))) (XO.cS (kr C n) (af bd (af (av (eR C) (af bd (Ev (Fa lf ac)))) (af (Fa bn ac) (Ev dL)))))))) (XO.cB (Ye (aH (Go db pr)) (aB (Ix (af db (Ev (av (gG C n) (af bd (af (av (eR C) (af bd (Ev (Fa lf ac)))) (af (Fa bn ac) (Ev dL))))))))) aR) (XO.fZ (Ix (Ev db)) (XO.cS (kr C n) (af bd (af (YO (atT [("many",1),("part",2),("sum",2),("join",2),("same",2),("less",2)]) db) (af (Fa bn ac) (Ev dL)))))))))))))))
end
def gI(C:Addr):Yh:=aW 2 (aq (aG 1 (cb C "ahead" (bL C) bd ai)) (aq (fR (cb C "take" (eU C) bd (Ev (av du (Ev bn))))) (aB bn)))
def ku(C:Addr):Fd:=XO.dP 2 (XO.cB (aG 1 (cb C "ahead" (bL C) bd ai)) (XO.fJ C "take" (fz C) bd (Ev (av du (Ev bn)))))
def bB(C:Addr):Nat->Yh
 |0=>fun _ _=>none
 |n+1=>aW 6 (aq (aG 3 (cb C "ahead" (bL C) bd ai)) (aq (fR (cb C "begin" (d8 C) bd (af (bJ (YO (Zc [("say",0),("fail",0),("want",1),("peek",1),("when",2)]) db) (iz (bJ (ah inD db (fC (.tuple [.str "want",.str "peek"]))) (Go dL wp)))) (Ev bn)))) (aq (Ye (aH (Go db pi)) (aB (Ix (af db (Ev (av (gI C) (Ev bd)))))) aR) (aq (aG 4 (av (bQ C 25) (af bd (af (Fa bn ac) (Ev dL))))) (aq (aG 5 (av eV (af db (Ev dL)))) (aB (Fa (Ix (af db (Ev im))) (Zu gP (Ev (cg (cT (YO (atT [("say",0),("fail",0),("want",1),("peek",1),("when",2)]) db)) bx (av (bB C n) (af bn (af (Fa dL ac) (Ev Db))))))))))))))
def cJ(C:Addr):Nat->Fd
 |0=>fun _ _=>none
 |n+1=>XO.dP 6 (XO.cB (aG 3 (cb C "ahead" (bL C) bd ai)) (XO.dB (XO.fJ C "begin" (iI C) bd (af (bJ (YO (Zc [("say",0),("fail",0),("want",1),("peek",1),("when",2)]) db) (iz (bJ (ah inD db (fC (.tuple [.str "want",.str "peek"]))) (Go dL wp)))) (Ev bn))) (XO.cB (fR (cb C "begin" (d8 C) bd (af (bJ (YO (Zc [("say",0),("fail",0),("want",1),("peek",1),("when",2)]) db) (iz (bJ (ah inD db (fC (.tuple [.str "want",.str "peek"]))) (Go dL wp)))) (Ev bn)))) (XO.dB (XO.gy (aH (Go db pi)) (XO.fZ db (XO.cS (ku C) (Ev bd)))) (XO.cB (Ye (aH (Go db pi)) (aB (Ix (af db (Ev (av (gI C) (Ev bd)))))) aR) (XO.dB (XO.cS (dD C 25) (af bd (af (Fa bn ac) (Ev dL)))) (XO.cB (aG 4 (av (bQ C 25) (af bd (af (Fa bn ac) (Ev dL))))) (XO.cB (aG 5 (av eV (af db (Ev dL)))) (XO.fZ (Ix (af db (Ev im))) (XO.nN (cT (YO (atT [("say",0),("fail",0),("want",1),("peek",1),("when",2)]) db)) (av (bB C n) (af bn (af (Fa dL ac) (Ev Db)))) (XO.cS (cJ C n) (af bn (af (Fa dL ac) (Ev Db))))))))))))))
def BV(C:Addr):FS:=(aq (aG 2 (av (bB C 25) (af bn (af be (Ev be))))) (aq (fR (cb C "finish" (iH C) bn ai)) (aB dL)))
def hW(C:Addr):Yh:=aW 3 (gY 1 C (cI C) bd (BV C))
def G4(C:Addr):XO.Ys:=(XO.dB (XO.cS (cJ C 25) (af bn (af be (Ev be)))) (XO.cB (aG 2 (av (bB C 25) (af bn (af be (Ev be))))) (XO.fJ C "finish" (kl C) bn ai)))
def jt(C:Addr):Fd:=XO.dP 3 (XO.iW 1 C (cI C) bd (G4 C))
def dR(C:Addr):Yh:=aW 1 (XO.gq (aB (av (hW C) (Ev bd))) (XO.cS (jt C) (Ev bd)) (aB gl))
def d9(C:Addr):Yh:=aW 2 (aq (Ye (aH (Go bd tz)) (aB (av de (Ev bn))) aR) (aq (Ye (aH (Go bd ww)) (aB (av (dR C) (Ev bn))) aR) (aB gl)))
def bT(C:Addr):Yh:=aW 3 (aq (aG 1 (ah (mN 2) bd f8)) (aq (Ye (cA (aH (KK (IN (Ev bn)) u8)) (eO (bI (av du (Ev (Fr bn ac)))))) (aB gl) aR) (aq (aG 2 (av (d9 C) (af (Fr bn be) (Ev (Fr bn io))))) (aB (gz (aH (ah CG dL gl)) gl (Ix (af (Fr bn be) (af (Fr bn ac) (Ev dL)))))))))
def Z7(C:Addr):FS:=(aq (aG 5 (av (bT C) (Ev im))) (aq (Ye (cA (aH (ah CG ii gl)) (cA (aH (ah Hk db wn)) (cA (aH (ah G8 (Fr ii ac) bn)) (aH (ah G8 (Fr ii ac) dL))))) lS aR) (Ye (aH (Go (Fr ii be) tz)) (j6 1 (Fr ii ac) (Fr ii io)) (j6 2 (Fr ii ac) (Fr ii io)))))
def iK(C:Addr):Yh:=aW 6 (aq (fq 1) (aq (fq 2) (aq (lr 3 4 bd (Z7 C)) (aB (Ix (af bn (Ev dL)))))))
def J8(C:Addr):XO.Ys:=(XO.cB (aG 5 (av (bT C) (Ev im))) (XO.gy (cA (aH (ah CG ii gl)) (cA (aH (ah Hk db wn)) (cA (aH (ah G8 (Fr ii ac) bn)) (aH (ah G8 (Fr ii ac) dL))))) (XO.lQ lim db)))
def jw(C:Addr):Fd:=XO.dP 6 (XO.cB (fq 1) (XO.cB (fq 2) (XO.nM 3 4 bd (Z7 C) (J8 C))))
def eS:Yh:=aW 2 (aq (Ye (aH (KK bn (IN (Ev bd)))) (aB (Fr bd bn)) aR) (aB be))
def HG:FS:=(aq (aG 4 (ah cU (Fa (Fa (ah bW im im) (ah bW (fC (.int 48271)) im)) (ah bW xz ii)) (fC (.int 2147483647)))) (Ye (aH (ah CB db be)) (aq (jp 2 (ah cU db (fC (.int 720720)))) (aG 3 (ah gp db (fC (.int 720720))))) (jp 2 (ah gp (ah cU (Fa (ah bW im (fC (.int 69621))) (ah bW (fC (.int 13)) ii)) (fC (.int 2147483629))) u8))))
def fA:Yh:=aW 6 (aq (je 2 ai) (aq (aG 3 be) (aq (Ye (aH (ah Hk bd (ah ji wl wE))) (aG 3 bd) aR) (aq (aG 4 (Fa (ah cU bd (fC (.int 2147483629))) (fC (.int 48271)))) (aq (iE 5 (cT bn) HG) (aB dL))))))
def aQ:Yh:=aW 2 (aq (sj bd ac (Fa (Fr bd ac) ac)) (aB (ah cU (Fr (Fr bd be) (ah cU (ah d6 (Fr bd ac) ac) (IN (Ev (Fr bd be))))) bn)))
def dq:Nat->Yh
 |0=>fun _ _=>none
 |n+1=>aW 1 (aq (Ye (bI (YO (ck .tup) bd)) (aB (Fa (Fa (fC (.str "(")) (ah jb (fC (.str ",")) (cg (dj bd) bx (av (dq n) (Ev bd))))) (fC (.str ")")))) aR) (aq (Ye (bI (YO (ck .str) bd)) (aB (Fa (fC (.str "'")) bd)) aR) (aB (Zu gu (Ev bd)))))
def br:Nat->Yh
 |0=>fun _ _=>none
 |n+1=>aW 2 (aq (Ye (bI (YO gX bn)) (aq (Ye (cA (aH (ah Bt (YO (ck .tup) bd) (YO (ck .tup) bn))) (aH (ah Bt (YO (ck .lst) bd) (YO (ck .lst) bn)))) (aB on) aR) (aB (bJ (Go (IN (Ev bd)) (IN (Ev bn))) (Zu iF (Ev (cg (cT (IN (Ev bn))) bx (av (br n) (af (ah GC bn bd) (Ev (ah GC dL bd)))))))))) aR) (aq (Ye (bI (YO (ck .dct) bn)) (aq (Ye (cA (eO (bI (YO (ck .dct) bd))) (aH (ah Bt (IN (Ev bd)) (IN (Ev bn))))) (aB on) aR) (aB (Zu iF (Ev (cg (dj bn) bx (bJ (ah G8 bd bn) (av (br n) (af (ah GC bn bd) (Ev (ah GC dL bd)))))))))) aR) (aq (Ye (cA (bI (YO (ck .bl) bn)) (aH (ah CG bn gl))) (aB (bJ (Go (YO (ck .bl) bd) (YO (ck .bl) bn)) (Go bd bn))) aR) (aq (Ye (bI (YO (ck .int) bn)) (aB (bJ (YO (ck .int) bd) (bJ (iz (YO (ck .bl) bd)) (Go bd bn)))) aR) (aB (bJ (YO (ck .str) bd) (Go bd bn)))))))
def h9:Yh:=aW 7 (aq (aG 2 o0) (aq (aG 3 (av aQ (af bd (Ev mt)))) (aq (aG 4 (av aQ (af bd (Ev wp)))) (aq (Ye (aH (Go db be)) (aq (aG 5 (IO (af tz (af ww (af wP (af (fC (.str "want")) (af (fC (.str "wants")) (af (fC (.str "fails")) (af kt (af pp (af pr (af (fC (.str "peek")) (af (fC (.str "when")) (Ev (fC (.str "kind")))))))))))))))) (aB (Zq (Fa (Zq ii (fP im) bP) (Zq ii bP (fP im))) bP (fP bn)))) aR) (aq (Ye (aH (Go db ac)) (aB (cg (cT bn) bx (ah bW (Fr db (Fa ii (ah gp bd lf))) (Fa ac (ah cU bd lf))))) aR) (aq (aG 6 (ah bW (Fr dL im) (av aQ (af bd (Ev (ah d6 lf (ah cU im xz))))))) (aB (cg (cT bn) bx (Fa (Fa (ah bW (Fr db ii) (ah cU ii xz)) (Fr db (ah cU (Fa ii bd) Cl))) wT)))))))))
def cQ:Nat->Yh
 |0=>fun _ _=>none
 |n+1=>aW 5 (aq (aG 3 (av aQ (af bd (Ev wl)))) (aq (aG 4 (IO (af be (af ac (af (YO lY ac) (af io (af (ah ji wl wE) (af (YO lY (ah ji wl wE)) (af pc (af AT (af At (af (fC (.str "-")) (af (ah bW AT Ch) (Ev (Ix ai))))))))))))))) (aq (Ye (cA (aH (KK db wf)) (gZ (aH (Go dL be)) (aH (ah CB db xz)))) (aB (Fr im (av aQ (af bd (Ev wp))))) aR) (aq (Ye (aH (KK db lf)) (aB (Fr bn (av aQ (af bd (Ev (IN (Ev bn))))))) aR) (aB (Zu gP (Ev (cg (cT (av aQ (af bd (Ev mt)))) bx (av (cQ n) (af bn (af dL (Ev (ah d6 db ac)))))))))))))
def hZ:Yh:=aW 3 (aq (Ye (gZ (aH (ah CB dL be)) (aH (ah CB (av aQ (af bd (Ev u8))) be))) (aB (Ix (af pp (Ev (av aQ (af bd (Ev dL))))))) aR) (aB (Ix (af kt (Ev (av (cQ 25) (af bd (af bn (Ev ac)))))))))
def ia:Yh:=aW 6 (aq (aG 3 (av aQ (af bd (Ev wl)))) (aq (aG 4 (av hZ (af bd (af bn (Ev dL))))) (aq (Ye (aH (KK db zn)) (aB (Fr (IO (af im (Ev (Ix (af (fC (.str "many")) (Ev im)))))) (ah gp db mt))) aR) (aq (aG 5 (av hZ (af bd (af bn (Ev dL))))) (aq (Ye (aH (Go db zn)) (aB (Ix (af pr (Ev (Zq (Ix (af im (Ev ii))) bP (fP (av aQ (af bd (Ev u8))))))))) aR) (aB (Ix (af (Fr (IO (af (fC (.str "sum")) (af (fC (.str "join")) (af (fC (.str "same")) (af (fC (.str "less")) (Ev (fC (.str "part")))))))) (av aQ (af bd (Ev zn)))) (af im (Ev ii))))))))))
def bY:Nat->Yh
 |0=>fun _ _=>none
 |n+1=>aW 9 (aq (aG 5 (av aQ (af bd (Ev lf)))) (aq (aG 6 (av ia (af bd (af bn (Ev db))))) (aq (Ye (gZ (aH (ah CB dL be)) (aH (KK ii mt))) (aq (aG 7 (Fr (IO (af (fC (.str "want")) (Ev (fC (.str "peek"))))) (Zu intD (Ev (bJ im (Go (av aQ (af bd (Ev mt))) be)))))) (aq (Ye (aH (ah CB (av aQ (af bd (Ev zn))) be)) (aG 6 (Ix (af kt (Ev (Fr bn (av aQ (af bd (Ev (IN (Ev bn)))))))))) aR) (aB (Ix (af wT (af Db (Ev (av (bY n) (af bd (af bn (af (ah d6 dL ac) (af (Fa db ac) (Ev im))))))))))))) aR) (aq (Ye (gZ (aH (ah CB dL ac)) (aH (KK ii wf))) (aq (aG 8 (av (bY n) (af bd (af bn (af (ah d6 dL io) (af db (Ev im))))))) (aB (Ix (af (fC (.str "when")) (af Db (af wS (Ev (av (bY n) (af bd (af bn (af (ah d6 dL io) (af db (Ev im))))))))))))) aR) (aq (Ye (gZ (aH (Go ii wf)) (aH (Go (av aQ (af bd (Ev io))) be))) (aB (Ix (af pi (Ev (Fr (Fa bn (IO (af (fC (.str "kind")) (Ev (fC (.str "name")))))) (av aQ (af bd (Ev (Fa (IN (Ev bn)) io))))))))) aR) (aB (Ix (af wP (Ev Db)))))))))
def Ak:FS:=(Ye (aH (Go (av aQ (af (aa 9) (Ev mt))) be)) (j6 6 (Fr ii wS) (av (cQ 25) (af (aa 9) (af ii (Ev io))))) (j6 7 (Fr ii wS) (av (bY 25) (af (aa 9) (af ii (af (Fa ac (av aQ (af (aa 9) (Ev mt)))) (af be (Ev dL))))))))
def Kk:FS:=(iu 9 (af (av fA (af (Fa (av eS (af bd (Ev (Fa (Fa bn ac) wS)))) (ah bW (fC (.int 977)) wS)) (Ev (fC (.int 60))))) (Ev be)) Ak)
def Ap:FS:=(aq (aG 4 (Fa u8 (av aQ (af db (Ev lf))))) (aq (aG 5 (av h9 (af db (Ev (Fa im io))))) (aq (fq 6) (aq (fq 7) (aq (iE 8 (cT im) Kk) (aB (Ix (af Db (Ev wT)))))))))
def jA:Yh:=aW 10 (iu 3 (af (av fA (af (av eS (af bd (Ev bn))) (Ev (fC (.int 24))))) (Ev be)) Ap)
def cw:Nat->Yh
 |0=>fun _ _=>none
 |n+1=>aW 4 (aq (Ye (aH (Go (Fr bd be) kt)) (aB (IO (af kt (Ev (av (dq 25) (Ev (Fr bd ac))))))) aR) (aq (Ye (aH (ah inD (Fr bd be) (Ix (af pp (Ev pi))))) (aB (IO (af (Fr bd be) (Ev (Zu jg (Ev (Fr bd ac))))))) aR) (aq (je 1 (Ev (Fr bd be))) (aq (aG 2 (Zq bd (fP ac) bP)) (aq (Ye (aH (Go (Fr bd be) pr)) (aq (aG 2 (Fr bd ac)) (jp 1 (Zu jg (Ev (IN (Ev dL)))))) aR) (aq (iE 3 (dj dL) (lP 1 bn (av (cw n) (Ev db)))) (aB bn)))))))
def jv:Yh:=aW 2 (aq (aG 1 (cg (dj (Fr bd be)) bx (Fa (Fa (Fa sB bd) f8) (av (dq 25) (Ev (ah GC (Fr bn be) bd)))))) (aB (Fa bn (cg (dj (Fr bd ac)) bx (Fa (Fa (Fa sK bd) f8) (ah dy f8 (av (cw 25) (Ev (ah GC (Fr bn ac) bd)))))))))
def bX:Yh:=aW 5 (aq (aG 2 (ah dX bn f8)) (aq (aG 3 (av aQ (af bd (Ev (fC (.int 9)))))) (aq (Ye (aH (Go db be)) (aB (ah dy f8 (Fa (IO (Ev (Fr (IO (af pc (af (fC (.str "Told")) (af (fC (.str "make")) (af (fC (.str "tells")) (af (fC (.str "MADE")) (Ev kt))))))) (av aQ (af bd (Ev wf)))))) (Zq dL (fP ac) bP)))) aR) (aq (Ye (aH (Go db ac)) (aB (ah dy f8 (Fa (Fa (Zq dL bP (fP ac)) (IO (Ev (Fr (IO (af pc (af (fC (.str "A")) (af (fC (.str "abcdefghi")) (af (fC (.str "a1")) (af (fC (.str "a-")) (Ev (fC (.str "told1"))))))))) (av aQ (af bd (Ev wf))))))) (Zq dL (fP io) bP)))) aR) (aq (Ye (aH (Go db io)) (aq (aG 4 (IO (af pc (af (fC (.str "01")) (af (fC (.str "-0")) (af (fC (.str "+1")) (af (fC (.str "'A")) (af (fC (.str "(1")) (af (fC (.str "1)")) (af (fC (.str "(,)")) (af (fC (.str "(1,)")) (af AT (af (fC (.str "1 1")) (Ev (Fa (fC (.str "'")) (ah bW AT (fC (.int 21)))))))))))))))))) (aq (aG 4 (Fa im (IO (af (Fa (Fa BT (ah bW At wE)) BT) (Ev (fC (.str "((((()))))"))))))) (aB (Fa (Fa (Fa sB (Fr dL ac)) f8) (Fr im (av aQ (af bd (Ev (fC (.int 14)))))))))) aR) (aq (Ye (aH (Go db u8)) (aq (aG 4 (IO (af pc (af wP (af (fC (.str "say put")) (af (fC (.str "say put 01")) (af pi (af (fC (.str "fail 1")) (af (fC (.str "fail A")) (af (fC (.str "want put 'a")) (Ev (fC (.str "say got 0"))))))))))))) (aq (aG 4 (Fa im (IO (af (fC (.str "say put 0 0")) (af (fC (.str "when put 0 say put 1")) (af (fC (.str "tell put 1")) (af (fC (.str "say  put 1")) (Ev wv)))))))) (aq (aG 4 (Fa im (IO (af (fC (.str "say put 1 ")) (af (fC (.str "say row 9")) (Ev (fC (.str "put 1")))))))) (aB (Fa (Fa (Fa sK (Fr dL ac)) f8) (Fr im (av aQ (af bd (Ev (fC (.int 17))))))))))) aR) (aq (Ye (aH (Go db mt)) (aB (Fr (IO (af pc (af tz (af ww (af (Fa sB (Fr dL ac)) (af (Fa sK (Fr dL ac)) (Ev (Fa f8 bn)))))))) (av aQ (af bd (Ev wf))))) aR) (aq (Ye (aH (Go db zn)) (aB (Fa (Fa (Fr dL be) (fC (.str "  "))) (ah dy f8 (Zq dL (fP ac) bP)))) aR) (aq (Ye (aH (Go db wf)) (aB (ah dy f8 (IO (af tz (af (Fr dL ac) (af wP (af kt (Ev BT)))))))) aR) (aq (Ye (aH (Go db xz)) (aB (ah dy f8 (IO (af ww (af (Fr dL ac) (Ev BT)))))) aR) (aB (Fa bn (fC (.str " x y"))))))))))))))
def Kl(n:Int):PyData:=.list [.str "at",.int n]
def ei(C:Addr):Yh:=aW 3 (XO.jd (aB (IO (Ev (av (iK C) (Ev bd))))) (XO.cS (jw C) (Ev bd)) Kl)
def DL:FE:=ah Zx (IO (af (Fa (Fa sB bd) (fC (.str " 0"))) (Ev (Fa (Fa sK bd) wv)))) (av aQ (af bn (Ev io)))
def km:Yh:=aW 5 (aq (aG 2 o0) (aq (aG 3 (av aQ (af bd (Ev Cl)))) (aq (aG 4 (cg (cT bn) bx (ah bW (Fr db (ah cU (Fa im bd) Cl)) (Fa ac (ah gp bd Cl))))) (aB (cg (dj im) bx DL)))))
def oF:FS:=(aG 9 (Fr (ah dX (Fr wT (av aQ (af ii (Ev (IN (Ev wT)))))) f8) ac))
def oE:FS:=(aq (aG 8 (Fa ac (lZ (cg (dj wT) bx (Fr (ah dX bd f8) ac)) (aa 9)))) (aq (aG 8 (Fa wS (av aQ (af ii (Ev (ah d6 (Fa (IN (Ev wT)) ac) wS)))))) (aG 10 (Fa (Fa (Zq wT bP (fP wS)) (IO (Ev (Fr (IO (af (Fa (Fa sB (aa 9)) (fC (.str " 0"))) (Ev (Fa (Fa sK (aa 9)) wv)))) (av aQ (af ii (Ev io))))))) (Zq wT (fP wS) bP)))))
def zP:FS:=(aG 10 (Fa (Fa (Zq wT bP (fP wS)) (IO (Ev (av bX (af ii (Ev (Fr wT wS))))))) (Zq wT (fP (Fa wS ac)) bP)))
def zO:FS:=(Ye (aH (Go (av aQ (af ii (Ev u8))) be)) (aq (aG 11 (Fa (Fa wS ac) (av aQ (af ii (Ev (ah d6 (IN (Ev (aa 10))) wS)))))) (aG 10 (Fa (Fa (Zq (aa 10) bP (fP (aa 11))) (IO (Ev (fC (.str "x"))))) (Zq (aa 10) (fP (aa 11)) bP)))) aR)
def Am(C:Addr):FS:=(Ye (cA (eO (bI (av (br 25) (af (jS (ei C) (Ev (aa 10))) (Ev (IO (af (fC (.str "at")) (Ev wS)))))))) (eO (bI (av (br 25) (af (jS (ei C) (Ev wT)) (Ev (IO (Ev dL)))))))) (aB on) aR)
def zQ(C:Addr):FS:=(aq (aG 6 (av aQ (af ii (Ev (IN (Ev db)))))) (aq (aG 7 (Fa (Zq db (fP Db) bP) (Zq db bP (fP Db)))) (aq (aG 8 (av aQ (af ii (Ev (IN (Ev wT)))))) (aq (Ye (aH (Go (av aQ (af ii (Ev mt))) be)) (aq oF oE) zP) (aq zO (Am C))))))
def GU(C:Addr):FS:=iu 5 (af (av fA (af (Fa (av eS (af bd (Ev (Fa wp im)))) (ah bW (fC (.int 41)) im)) (Ev (fC (.int 30))))) (Ev be)) (zQ C)
def A0(C:Addr):FS:=(aq (aG 12 (av km (af ii (Ev (fC (.int 41)))))) (aq (aG 13 (jS (ei C) (Ev (Zq (aa 12) bP (fP wn))))) (aq (Ye (cA (aH (ah Bt (IN (Ev (aa 13))) ac)) (aH (ah Bt (Fa (IN (Ev (Fr (Fr (aa 13) be) be))) (IN (Ev (Fr (Fr (aa 13) be) ac)))) wn))) (aB on) aR) (aB (av (br 25) (af (jS (ei C) (Ev (aa 12))) (Ev (IO (af (fC (.str "at")) (Ev wn))))))))))
def lK(C:Addr):Yh:=aW 14 (aq (aG 1 (av jA (af bd (af ac (Ev on))))) (aq (aG 2 (Ix (af (j7 (Fr bn be)) (Ev (j7 (Fr bn ac)))))) (aq (aG 3 (av jv (Ev bn))) (aq (iE 4 (cT lf) (GU C)) (iu 5 (af (av fA (af (av eS (af bd (Ev be))) (Ev (fC (.int 50))))) (Ev be)) (A0 C))))))
end G
namespace K1
open PySem
structure Sh(d:NN)(k n:Nat):Prop where
 sh:d.showable=true
 lv:d.leavesShort 200=true
 dp:d.depth<=k
 wt:d.weight<=n
structure Shs(ds:List NN)(k n:Nat):Prop where
 sh:PyData.showableAll ds=true
 lv:PyData.leavesShortAll 200 ds=true
 dp:PyData.depthAll ds<=k
 wt:PyData.weightAll ds<=n
theorem zis(hs:∀c∈s.cps.toList,c<128)(h:has s x=true):∀c∈x.cps.toList,c<128:=fun c hc=>
 hs c (of_decide_eq_true (Oq.mp h c hc))
theorem zit:∀c∈Iz.cps.toList,c<128:=by decide +kernel
end K1
namespace K1
open PySem
def Good(d:NN):Prop:=Sh d 60 60000
end K1
namespace G
open L2 D
open K1 (has ZV Iz single aJ aP E1 isName aS Fq bc Ik)
mutual
def Bm:NN->Bool
 |.str x=>decide (x.length<=60000)&&x.cps.toList.all fun c=>decide (c<128)
 |.tuple ds=>iB ds
 |_=>true
def iB:List NN->Bool
 |[]=>true
 |d::r=>Bm d&&iB r
end
def Sm(d:NN):Prop:=Bm d=true
theorem Sm.both(h:Sm (.str x)):x.length<=60000/\∀c∈x.cps.toList,c<128:=by
 have h':=by
  have:Bm _=true:=h
  rw[Bm] at this<;>omega
 rw[NY,Oq] at h';exact⟨of_decide_eq_true h'.1,fun c hc=>of_decide_eq_true (h'.2 c hc)⟩
theorem Sm.str(h:Sm (.str x)):x.cps.size<=60000:=h.both.1
theorem Sm.mkS(h:x.length<=60000)(h2:∀c∈x.cps.toList,c<128):Sm (.str x):=by
 show Bm _=true;rw[Bm,NY,Oq];exact⟨decide_eq_true h,fun c hc=>decide_eq_true (h2 c hc)⟩
theorem uH:∀{ds:List NN}{d:NN},iB ds=true->d∈ds->Bm d=true
 |e::r,d,h,hd=>by
  have h':(Bm e&&iB r)=true:=by simpa[iB] using h
  rw[NY] at h'
  rcases N4.mp hd with z|z
  .rw[z];exact h'.1
  .exact uH h'.2 z
theorem Sm.part(h:Sm (.tuple ds))(hd:d∈ds):Sm d:=uH (by simpa[Sm,Bm] using h) hd
theorem vy:∀{ds:List NN},(∀d∈ds,Sm d)->iB ds=true
 |[],_=>by simp[iB]
 |d::r,h=>by
  have h1:Bm d=true:=h d NZ;simp[iB,h1,vy  fun x hx=>h x (NV _ hx)]
theorem Sm.tup(h:∀d∈ds,Sm d):Sm (.tuple ds):=by simp[Sm,Bm,vy h]
def whole:NN->Bool
 |.int _=>true
 |_=>false
theorem wL(x:NN)(T:Tp):l6 [.d x] T=some (.bool (whole x),T):=by cases x <;> rfl
theorem ziu(y x:Str):(D.signs x).all (w6 y)=has y x:=by
 unfold D.signs has;rw[W3]
 congr 1
 funext c;exact uW y c
theorem oB(T:Tp)(h:x.length<=NX):eB [.d (.str x),.d (.str y)] T=some (.bool (has y x),T):=by
 have hc:bE _ (ah inD (aa 0) (aa 2)) [some (.d (.str x)),some (.d (.str y))] _ T=some ((D.signs x).map fun d=>.bool (w6 y d),T):=dv fun d hd=>by
  obtain⟨c,_,rfl⟩:=zfh hd;rfl
 simp[eB,h,hc,ziu]
theorem ziv(T:Tp)(h:Sm d):jz [.d d] T=some (.bool (single d),T):=by
 cases d with
 |str x=>
  have hz:x.length<=sizeLine:=Oc h.str (by decide);have hh:∀T,eB [.d _,.d (.str "abcdefghijklmnopqrstuvwxyz0123456789-")] T=some (.bool (has Iz x),T):=fun T=>oB T hz;have e:single (.str x)=(decide _&&has Iz x):=rfl;have hi:cP .str .str=true:=rfl
  by_cases hk:x.length<=20
  .have Ee:(x.length:Int)<=20:=by omega
   simp[jz,wL,whole,hh,hz,hi,e,hk,Ee]
  .have Ee:¬(x.length:Int)<=20:=by omega
   simp[jz,wL,whole,hz,hi,e,hk,Ee]
 |_=>rfl
theorem nK(h:kd d=.tup):∃ds,d=.tuple ds:=by cases d <;> first|simp_all|cases h
theorem vV(h:kd d≠.tup):cP (kd d) .tup=false:=by
 revert h
 cases kd d <;> simp[cP]
theorem sQ(h:kd d≠.tup):aJ n d=single d:=by cases d <;> first|(cases n <;> rfl)|exact absurd rfl h
theorem tj(h:kd d≠.tup):aP n d=1:=by cases d <;> first|(cases n <;> rfl)|exact absurd rfl h
theorem ziw(h:Fq 0 d=true):kd d≠.tup:=by
 intro z
 cases d <;> first|cases h;done|cases z
theorem lj:cP .tup .tup=true:=rfl
theorem wO:∀(n k:Nat) (d:NN) (T:Tp),Sm d->n<k->eA k [.d d,.d (.int n)] T=some (.bool (aJ n d),T)
 |n,0,d,T,_,hk=>absurd hk (PR _)
 |n,k+1,d,T,hg,hk=>by
  by_cases ht:kd d=.tup
  .obtain⟨ds,rfl⟩:=nK ht
   cases n with
   |zero=>simp[eA,lj,aJ]
   |succ n=>
    have e:aJ (n+1) (.tuple ds)=(decide (ds.length<=8)&&ds.all (aJ n)):=rfl
    have h0:¬((n+1:Nat):Int)=0:=by omega
    have BA:¬(n:Int)+1=0:=by omega
    by_cases h8:ds.length<=8
    .have JT:¬(8:Int)<(ds.length:Int):=by omega
     have hs:((n+1:Nat):Int)-1=(n:Int):=by omega
     have hc:bE bx (av (eA k) (af (aa 0) (af (ah d6 (aa 2) (fC (.int 1))) ai))) [some (.d (.tuple ds)),some (.d (.int ((n+1:Nat):Int)))] ds T=some (ds.map fun x=>.bool (aJ n x),T):=dv fun x hx=>by
      have:=wO n k x T (hg.part hx) (by omega);simp[hs,this]
     simp[eA,lj,e,h0,BA,h8,JT] at hc ⊢;simp[hc]
    .have JT:(8:Int)<(ds.length:Int):=by omega
     simp[eA,lj,e,h0,BA,h8,JT]
  .simp[eA,vV ht,sQ ht,ziv T hg]
theorem yh:∀(n k:Nat) (d:NN) (T:Tp),Fq n d=true->n<k->f9 k [.d d] T=some (.int (aP n d),T)
 |n,0,d,T,_,hk=>absurd hk (PR _)
 |n,k+1,d,T,hg,hk=>by
  by_cases ht:kd d=.tup
  .cases n with
   |zero=>exact absurd ht (ziw hg)
   |succ n=>
    obtain⟨ds,rfl⟩:=nK ht;have EV:=hg;have e:aP (n+1) (.tuple ds)=1+(ds.map _).sum:=rfl
    have hc:bE _ (av (f9 k) (af (aa 0) ai)) [some (.d (.tuple ds))] ds T=some (ds.map fun x=>.int (aP n x),T):=dv fun x hx=>by
     have:=yh n k x T (Oq.mp EV x hx) (by omega)<;>simp_all
    simp[f9,lj,e,hc]
  .simp[f9,vV ht,tj ht]
theorem wM(T:Tp)(h:Sm d):jD [.d d] T=some (.bool (aS d),T):=by
 have h1:=wO 4 25 d T h (by decide);have C0:eA 25 [.d d,.d (.int 4)] T=some _:=h1;have e:aS d=(aJ 4 d&&decide _):=rfl
 cases hb:aJ 4 d with
 |false=>simp[jD,C0,e,hb]
 |true=>
  have h2:=yh 4 25 d T (K1.zug 4 d hb) (by decide);simp[jD,C0,h2,e,hb]
variable {R:Tp}
open K1 (has ZV Iz single aJ aP E1 isName aS Fq bc Ik Good Sh Shs)
variable {R:Tp}
theorem eJ{α:Type}{xs:List α}{i:Int}(h0:0<=i)(h1:i<(xs.length:Int)):∃a,Yr xs i=some a/\a∈xs:=by unfold Yr Jf<;>simp_all
theorem zix:(ZV.cps.toList.length:Int)=26 :=rfl
theorem ziy{z:Str}{xs:List NN}{ys:List Str}(h:dI xs=some ys):jb (.str z) (.list xs)=if (ys.map (·.length)).sum+ys.length*z.length<=16777216 then some (.str (Ob z ys)) else none:=by
 show (match dI xs with|some (ys)=>if (ys.map fun x:Str=>x.length).sum+ys.length*z.length<=16777216 then some _ else none|none=>none)=_;rw[h]
theorem qa(n:Nat):(bh 0 n).length=n:=by simp[bh]
theorem dE(h0:0<=j)(h1:j<=1000):iZ j=true:=decide_eq_true (by omega)
theorem mT:ZV.length<=sizeLine:=by decide +kernel
theorem pf(h:isName (.str x)=true):single (.str x)=true:=by
 have h':(decide _&&decide _&&has ZV x)=true:=h;rw[NY,NY] at h';have h8:=of_decide_eq_true h'.1.2;show (decide _&&has Iz x)=true;rw[decide_eq_true (by omega)]
 have sub:∀c∈ZV.cps.toList,c∈Iz.cps.toList:=by decide +kernel
 exact Oq.mpr fun c hc=>decide_eq_true (sub c (of_decide_eq_true (Oq.mp h'.2 c hc)))
theorem er(h : -1000000000000000000<=i)(h':i<=1000000000000000000):single (.int i)=true:=by refine decide_eq_true ?_<;>omega
theorem cR{n:Nat}{d:NN}(h:single d=true):aJ n d=true/\aP n d=1:=by
 cases d with
 |int i=>exact⟨by cases n <;> exact h,by cases n <;> rfl⟩
 |str x=>exact⟨by cases n <;> exact h,by cases n <;> rfl⟩
 |_=>cases h
theorem wY{f:NN->Int}{q:Int}:∀{l:List NN},(∀d∈l,f d<=q)->(l.map f).sum<=l.length*q
 |[],_=>by simp
 |a::r,h=>by
  have h1:=h a NZ;have h2:=wY  fun d hd=>h d (NV _ hd)
  simp_all<;>grind
end G
namespace D
open L2
def cd(x:Str):List Nat:=x.cps.toList
theorem dw(h:cd x=cd y):x=y:=by
 obtain⟨x⟩:=x;obtain⟨y⟩:=y
 have h':x.toList=y.toList:=h<;>simp_all
theorem cM(x:Str):(cd x).length=x.length :=rfl
theorem cZ(x y:Str):cd (x++y)=cd x++cd y:=cps_toList_append x y
theorem tW{α:Type}(xs:List α)(a:Nat):∀k:Nat,(OQ k).filterMap (fun m=>xs[a+m]?)=(xs.drop a).take k
 |0=>by simp
 |k+1=>by
  rw[List.range_succ,List.filterMap_append,tW xs a k,Vd];simp only[PN,List.filterMap_nil,List.getElem?_drop]
  cases xs[a+k]? <;> rfl
theorem uI(h0:0<=i)(h1:0<=j):cd (P9 x (some i) (some j))=((cd x).drop i.toNat).take (j.toNat-i.toNat):=by
 have hl:x.cps.toList.length=x.length:=Ra
 have e:Qg (some i) (some j) 1 x.length=(OQ ((min j.toNat x.length)-(min i.toNat x.length))).map fun k=>min i.toNat x.length+k:=by
  unfold Qg sliceRange;simp only[show (1:Int)>0 by decide,if_true,show ¬i<0 by omega,show ¬j<0 by omega,if_false]
  have ea:max 0 (min i (x.length:Int))=((min i.toNat x.length:Nat):Int):=by omega
  have eb:max 0 (min j (x.length:Int))=((min j.toNat x.length:Nat):Int):=by omega
  rw[ea,eb]
  have ec:(if ((min i.toNat x.length:Nat):Int)<((min j.toNat x.length:Nat):Int) then (((min j.toNat x.length:Nat):Int)-((min i.toNat x.length:Nat):Int)+1-1) / 1 else 0).toNat=(min j.toNat x.length)-(min i.toNat x.length):=by
   split
   .rw[Int.ediv_one];omega
   .omega
  rw[ec];refine OX fun k _=>?_;omega
 have pk:(Qg (some i) (some j) 1 x.length).filterMap (x.cps[·]?)=(x.cps.toList.drop (min i.toNat x.length)).take ((min j.toNat x.length)-(min i.toNat x.length)):=by
  rw[e,List.filterMap_map,←tW]
  congr 1
  funext m;simp
 have fin:(x.cps.toList.drop (min i.toNat x.length)).take ((min j.toNat x.length)-(min i.toNat x.length))=((cd x).drop i.toNat).take (j.toNat-i.toNat):=by
  unfold cd
  by_cases hi:i.toNat<=x.length
  .have e1:min i.toNat x.length=i.toNat:=by omega
   rw[e1]
   by_cases hj:j.toNat<=x.length
   .have e2:min j.toNat x.length=j.toNat:=by omega
    rw[e2]
   .have e2:min j.toNat x.length=x.length:=by omega
    rw[e2,Pq (by rw[OV,hl];omega),Pq (by rw[OV,hl];omega)]
  .have e1:min i.toNat x.length=x.length:=by omega
   rw[e1,OU (by omega),OU (by omega)];simp
 unfold P9;split
 .rename_i h
  have h':(Qg (some i) (some j) 1 x.length).length=x.length:=by simpa using h
  rw[e,OY,List.length_range] at h';rw[←fin];show x.cps.toList=_
  by_cases hz:x.length=0
  .have:x.cps.toList=[]:=List.length_eq_zero_iff.mp (by omega)
   rw[this];simp
  .have e1:min i.toNat x.length=0:=by omega
   have e2:min j.toNat x.length=x.length:=by omega
   rw[e1,e2,Wj,W7,Pq (by omega)]
 .rw[←fin,←pk]
  rfl
theorem sV(h0:0<=i)(h1:i<=(x.length:Int)):cd (P9 x (some i) none)=(cd x).drop i.toNat:=by
 rw[slice_from_eq h0 h1 rfl];refine Pq ?_;rw[OV];have:x.cps.toList.length=x.length:=Ra;omega
def bb(c:List Nat):List (List Nat)->List Nat
 |[]=>[]
 |[x]=>x
 |x::y::r=>x++c++bb c (y::r)
theorem fH(z:Str):∀ys:List Str,cd (Ob z ys)=bb (cd z) (ys.map cd)
 |[]=>rfl
 |[x]=>by
  show cd _=cd x;simp[Ob]
 |x::y::r=>by
  have ih:=fH z (y::r);show cd (_++Ob z _)=_;rw[cZ,cZ,ih];rfl
theorem jB(c x:List Nat)(r:List (List Nat)):bb c (x::r)=x++(r.map (c++·)).flatten:=by
 induction r generalizing x with
 |nil=>simp[bb]
 |cons y r ih=>
  show x++c++bb c _=_<;>simp_all
theorem sS:P6 x ⟨#[c]⟩=decide ((cd x).head? = some c):=by
 unfold P6
 have hl:(⟨#[c]⟩:Str).length=1:=rfl;obtain⟨⟨l⟩⟩:=x
 cases l with
 |nil=>rfl
 |cons a r=>
  have h1:(0+1<=(⟨⟨a::r⟩⟩:Str).length):=by show 0+1<=(a::r).length;simp
  show Vi _ _ 0=decide ((a::r).head? = some c)
  have e:(⟨⟨a::r⟩⟩:Str).cps.extract 0 (0+(⟨#[c]⟩:Str).length) = #[a]:=by simp_all
  unfold Vi;rw[e,PQ];simp
end D
namespace G
open L2 D
open K1 (has ZV Iz single aJ aP E1 isName aS Fq bc Ik)
def mk(l:List Nat):Str:=⟨l.toArray⟩
theorem dm(l:List Nat):cd (mk l)=l :=rfl
theorem yw(x:Str):mk (cd x)=x :=rfl
theorem di(l:List Nat):(mk l).length=l.length :=rfl
def FZ:Str:=NM "0123456789"
def dl(c:Nat):Bool:=decide (c∈cd "(),")
theorem rp(c:Nat):dl c=decide (c=40\/c=41\/c=44):=by
 have e:cd "(),"=[40,41,44]:=by decide +kernel
 unfold dl<;>simp_all
def W(l:List Nat):List Nat:=l.takeWhile fun c=>!dl c
def fw(w:List Nat):Bool:=!decide (w=[])&&w.all (fun c=>decide (c∈cd FZ))&&(decide (w=[48])||!decide (w.head? = some 48))
theorem yR(h:cd y=l):decide (x=y)=decide (cd x=l):=by refine decide_eq_decide.mpr ⟨fun e=>by rw[e,h],fun e=>dw (by rw[e,h])⟩
theorem ziz(T:Tp)(h:x.length<=NX):gF [.d (.str x)] T=some (.bool (fw (cd x)),T):=by
 have h1:∀T,eB [.d (.str x),.d (.str "0123456789")] T=some (.bool (has FZ x),T):=fun T=>oB T h;have e1:decide (x=NM "")=decide (cd x=[]):=yR (by decide +kernel);have e2:decide (x=NM "0")=decide (cd x=[48]):=yR (by decide +kernel)
 have e3:P6 x "0"=decide ((cd x).head? = some 48):=by
  have:NM "0"=⟨#[48]⟩:=dw (by decide +kernel);rw[this,sS]
 have e4:has FZ x=(cd x).all (fun c=>decide (c∈cd FZ)):=rfl;have p1:=propext (by simpa using e1);have p2:=propext (by simpa using e2);unfold fw;rw[←e4]
 by_cases hn:cd x=[]
 .simp[gF,h1,p1,p2,e3,hn]
 .cases hf:has FZ x with
  |false=>simp[gF,h1,p1,p2,e3,hn,hf]
  |true=>
   by_cases h0:cd x=[48]
   .simp[gF,h1,p1,p2,e3,hn,hf,h0]
   .simp[gF,h1,p1,p2,e3,hn,hf,h0]
def jj:Option Int->NN
 |some i=>.int i
 |none=>.none
def lV:Option NN->NN
 |some i=>i
 |none=>.none
def J7(w:List Nat):Bool:=w.all (fun c=>decide (c∈cd FZ))
theorem ug:cd FZ=[48,49,50,51,52,53,54,55,56,57] :=rfl
theorem zja(h:J7 w=true):SI w:=fun c hc=>by
 have:=of_decide_eq_true (Oq.mp h c hc);rw[ug] at this;simp at this;omega
theorem uX(h:fw w=true):SI w/\w≠[]:=by
 unfold fw at h;rw[NY,NY] at h;exact⟨zja h.1.2,by simpa using h.1.1⟩
def fg(w:List Nat):List Nat:=if w.head? = some 45 then w.tail else w
def lX(w:List Nat):Option Int:=if w=[45,48]\/19<(fg w).length\/fw (fg w)=false then none else some (if w.head? = some 45 then -((Qa w.tail:Nat):Int) else ((Qa w:Nat):Int))
theorem sT(h:cd y=[c]):P6 x y=decide ((cd x).head? = some c):=by
 have:y=⟨#[c]⟩:=dw (by rw[h];rfl);rw[this,sS]
theorem zjb(T:Tp)(h:x.length<=NX):jy [.d (.str x)] T=some (jj (lX (cd x)),T):=by
 have e1:P6 x "-"=decide ((cd x).head? = some 45):=sT (by decide +kernel);have p2:(x=NM "-0")=(cd x=[45,48]):=propext ⟨fun e=>by rw[e];decide +kernel,fun e=>dw (by rw[e];decide +kernel)⟩;have hl:=cM x
 obtain⟨f,hf,hfl,hfe⟩:∃f:Str,cd f=fg (cd x)/\f.length<=x.length/\∀T,gz (bI (ah ig (aa 0) (fC (.str "-")))) (Zq (aa 0) (fP (fC (.int 1))) bP) (aa 0) [some (.d (.str x)),none] T=some (.d (.str f),T):=by
  by_cases hm:(cd x).head? = some 45
  .have F7:1<=x.length:=by
    rw[←hl]
    cases hx:cd x with
    |nil=>rw[hx] at hm;cases hm
    |cons _ _=>simp
   refine⟨P9 x (some 1) none,?_,W8 _ _ _,fun T=>by simp[e1,hm,h]⟩;rw[sV (by decide) (by omega)];unfold fg;rw[if_pos hm];simp
  .refine⟨x,?_,Of _,fun T=>by simp[e1,hm]⟩
   unfold fg;rw[if_neg hm]
 have CT:f.length<=sizeLine:=Oc hfl h;have h1:=fun T=>ziz (x:=f) T CT
 have hfl':f.length=(fg (cd x)).length:=by rw[←hf,cM]
 unfold lX
 have start:jy [.d (.str x)] T=dM (XI (XI (gz (bI (ah ig (aa 0) (fC (.str "-")))) (Zq (aa 0) (fP (fC (.int 1))) bP) (aa 0) [some (.d (.str x)),none] T) (oM 1 [some (.d (.str x)),none])) (kc (aq (Ye (cA (aH (ah D6 (aa 0) (fC (.str "-0")))) (cA (aH (ah CB (Zu bi (af (aa 1) ai)) (fC (.int 19)))) (eO (bI (av gF (af (aa 1) ai)))))) (aB (fC .none)) aR) (aB (Zu intD (af (aa 0) ai)))))):=by
  simp only[jy,lT,mj,ml,if_true,nQ,xT];rfl
 rw[start,hfe]
 by_cases c1:cd x=[45,48]
 .rw[if_pos (.inl c1)]
  simp[p2,c1,jj]
 .by_cases c2:19<(fg (cd x)).length
  .rw[if_pos (.inr (.inl c2))]
   have IJ:(19:Int)<(f.length:Int):=by omega
   simp[p2,c1,CT,IJ,jj]
  .have IJ:¬(19:Int)<(f.length:Int):=by omega
   cases c3:fw (fg (cd x)) with
   |false=>
    rw[if_pos (.inr (.inr rfl))];simp[p2,c1,CT,IJ,h1,hf,c3,jj]
   |true=>
    rw[if_neg (by simp[c1,c2])];obtain⟨ad,ne⟩:=uX c3
    have xl:x.length<=640:=by
     rw[←hl]
     have:(cd x).length<=(fg (cd x)).length+1:=by
      unfold fg;split
      .rw[List.length_tail];omega
      .omega
     omega
    by_cases hm:(cd x).head? = some 45
    .have ht:∃cs,cd x=45::cs:=by
      cases hx:cd x with
      |nil=>rw[hx] at hm;cases hm
      |cons a r=>rw[hx] at hm;cases hm;exact⟨r,rfl⟩
     obtain⟨cs,Jy⟩:=ht
     have Ab:fg (cd x)=cs:=by unfold fg;rw[if_pos hm,Jy];rfl
     rw[Ab] at ad ne;have it:=intText_neg (x:=x) (cs:=cs) Jy ad ne (by omega)
     have Ac:intText? x=some (-((Qa (cd x).tail:Nat):Int)):=by rw[it,Jy];rfl
     simp[p2,c1,CT,IJ,h1,hf,c3,jj,xl,Ac,hm]
    .have Ab:fg (cd x)=cd x:=by unfold fg;rw[if_neg hm]
     rw[Ab] at ad ne;have it:=intText_digits (x:=x) ad ne (by omega);have Ac:intText? x=some ((Qa (cd x):Nat):Int):=it;simp[p2,c1,CT,IJ,h1,hf,c3,jj,xl,Ac,hm]
def gj(w:List Nat):Option PyData:=if w.head? = some 39 then some (.str (mk w.tail)) else (lX w).map .int
theorem zjc(o:Option Int):jj o=lV (o.map .int):=by cases o <;> rfl
theorem zjd(T:Tp)(h:x.length<=NX):jx [.d (.str x)] T=some (lV (gj (cd x)),T):=by
 have e1:P6 x "'"=decide ((cd x).head? = some 39):=sT (by decide +kernel);unfold gj
 by_cases hm:(cd x).head? = some 39
 .have F7:1<=x.length:=by
   rw[←cM]
   cases hx:cd x <;>simp_all
  have es:P9 x (some 1) none=mk (cd x).tail:=dw (by
   rw[sV (by decide) (by omega),dm]
   simp)
  simp[jx,e1,hm,h,es,lV]
 .rw[if_neg hm,←zjc]
  simp[jx,e1,hm,zjb T h]
theorem zje{x:Str}{b:Nat}{a:Nat}{r:List Nat}(h:(cd x).drop b=a::r):Yr x.cps.toList (b:Int)=some a/\b<x.length:=by
 have hb:b<(cd x).length:=by
  apply Decidable.byContradiction;intro z;rw[OU (by omega)] at h;cases h
 refine⟨nj ?_,by exact hb⟩
 have:(cd x)[b]? = ((cd x).drop b)[0]?:=by simp
 show (cd x)[b]? = some a;rw[this,h];rfl
theorem vA(ht:t.length<=NX):∀(n b:Nat),((cd t).drop b).length<n->b<=t.length ->
  fi (gZ (aH (ah BB (aa 2) (Zu bi (af (aa 0) ai)))) (aH (ah nH (ah Zx (aa 0) (aa 2)) (fC (.str "(),"))))) (aG 2 (ah az (aa 2) (fC (.int 1)))) n [some (.d (.str t)),some (.d at'),some (.d (.int b)),none] T
   = some ((.nx,[some (.d (.str t)),some (.d at'),some (.d (.int ((b+(W ((cd t).drop b)).length:Nat):Int))),none]),T)
 |0,b,h,_=>absurd h (PR _)
 |n+1,b,h,hb=>by
  unfold fi
  cases hd:(cd t).drop b with
  |nil=>
   have hl:t.length<=b:=by
    have:=congrArg SE hd;rw[OV,cM] at this;simp at this;omega
   have hn:¬(b:Int)<(t.length:Int):=by omega
   simp[ht,hn,W]
  |cons a r=>
   obtain⟨h1,h2⟩:=zje hd
   have hn:(b:Int)<(t.length:Int):=by omega
   have Ge:nH (.str ⟨#[a]⟩) (.str "(),")=some (.bool (!dl a)):=by
    show some (PyData.bool (!jo "()," ⟨#[a]⟩))=_;rw[uW];rfl
   cases BQ:dl a with
   |true=>simp[ht,hn,h1,Ge,BQ,W]
   |false=>
    have hr:(cd t).drop (b+1)=r:=by
     have:=congrArg List.tail hd;simpa using this
    have ih:=vA (at':=at') (T:=T) ht n (b+1) (by rw[hr];rw[hd] at h;simpa using h) (by omega);rw[hr] at ih
    have eb:((b+1:Nat):Int)=(b:Int)+1:=by omega
    rw[eb] at ih
    have ew:W (a::r)=a::W r:=by simp[W,BQ]
    have el:b+(a::W r).length=b+1+(W r).length:=by simp;omega
    rw[ew,el];simp[ht,hn,h1,Ge,BQ,ih]
theorem zjf{t:Str}(T:Tp)(ht:t.length<=60000)(hb:b<=t.length):iJ [.d (.str t),.d (.int b)] T=some ((match gj (W ((cd t).drop b)) with|none=>VM|some v=>.tuple [v,.int ((b+(W ((cd t).drop b)).length:Nat):Int)]),T):=by
 have Z8:t.length<=sizeLine:=Oc ht (by decide);have Dj:=vA (at':=.int b) (T:=T) Z8 100000 b (by rw[OV,cM];omega) hb
 have CU:cd (P9 t (some (b:Int)) (some ((b+(W ((cd t).drop b)).length:Nat):Int)))=W ((cd t).drop b):=by
  rw[uI (by omega) (by omega)]
  have e:((b+(W ((cd t).drop b)).length:Nat):Int).toNat-((b:Nat):Int).toNat=(W ((cd t).drop b)).length:=by omega
  rw[e]
  have e2:((b:Nat):Int).toNat=b:=by omega
  rw[e2];exact List.prefix_iff_eq_take.mp (TU _) |>.symm
 have X4:(P9 t (some (b:Int)) (some ((b+(W ((cd t).drop b)).length:Nat):Int))).length<=sizeLine:=Oc (W8 _ _ _) Z8;have ZG:=zjd (x:=P9 t (some (b:Int)) (some ((b+(W ((cd t).drop b)).length:Nat):Int))) T X4;rw[CU] at ZG;rw[QR] at ZG CU X4 Dj;rw[QR]
 cases hs:gj (W ((cd t).drop b)) with
 |none=>
  rw[hs] at ZG;simp only[iJ,lT,mj,ml,if_true];simp[Dj,Z8,ZG,lV,isNone]
 |some v=>
  have hv:isNone v=false:=by
   unfold gj at hs;split at hs
   .cases hs;rfl
   .obtain⟨i,_,rfl⟩:=OD.mp hs
    rfl
  rw[hs] at ZG;simp only[iJ,lT,mj,ml,if_true];simp[Dj,Z8,ZG,lV,hv]
def d7(n:Nat):Option (NN×List Nat)->NN
 |none=>.none
 |some (v,r)=>.tuple [v,.int ((n-r.length:Nat):Int)]
def gU(val:List Nat->Option (NN×List Nat)):Nat->List NN->List Nat->Option (NN×List Nat)
 |0,_,_=>none
 |n+1,acc,l=>match val l with
  |none=>none
  |some (v,r)=>if r.head? = some 41 then some (.tuple (acc++[v]),r.tail) else if r.head? = some 44 then gU val n (acc++[v]) r.tail else none
def fO(l:List Nat):Option (NN×List Nat):=(gj (W l)).map fun v=>(v,l.drop (W l).length)
def c8:Nat->List Nat->Option (NN×List Nat)
 |0,l=>if l.head? = some 40 then none else fO l
 |n+1,l=>if l.head? = some 40 then (if l.tail.head? = some 41 then some (.tuple [],l.tail.tail) else gU (c8 n) 100000 [] l.tail) else fO l
def Suf(val:List Nat->Option (NN×List Nat)):Prop:=∀l v r,val l=some (v,r)->r <:+ l
theorem uG(h:Suf val):∀n acc l v r,gU val n acc l=some (v,r)->r <:+ l
 |0,acc,l,v,r,e=>by cases e
 |n+1,acc,l,v,r,e=>by
  unfold gU at e
  cases hv:val l with
  |none=>simp_all
  |some p=>
   obtain⟨v1,r1⟩:=p;have s1:=h l v1 r1 hv;rw[hv] at e;dsimp only at e;split at e
   .cases e
    exact(Qm _).trans s1
   .split at e
    .exact((uG h n _ _ _ _ e).trans (Qm _)).trans s1
    .cases e
theorem uF:Suf fO:=fun l v r e=>by
 obtain⟨v',_,e'⟩:=OD.mp e;cases e';exact List.drop_suffix _ _
theorem qt:∀n,Suf (c8 n)
 |0=>fun l v r e=>by
  unfold c8 at e;split at e
  .cases e
  .exact uF _ _ _ e
 |n+1=>fun l v r e=>by
  unfold c8 at e;split at e
  .split at e
   .cases e
    exact(Qm _).trans (Qm _)
   .exact(uG (qt n) _ _ _ _ _ e).trans (Qm _)
  .exact uF _ _ _ e
theorem mr{l:List Nat}(h:l.head? = some c):l.length=l.tail.length+1:=by
 cases l with
 |nil=>cases h
 |cons=>simp
theorem lh(hl:l <:+ cd t)(hy:cd y=[c]):(P9 t (some ((t.length-l.length:Nat):Int)) (some (((t.length-l.length:Nat):Int)+1))=y)=(l.head? = some c):=by
 have hd:=by
  have:=S7.mp hl;rw[cM] at this;exact this.symm
 have e:cd (P9 t (some ((t.length-l.length:Nat))) (some (((t.length-l.length:Nat))+1)))=l.take 1:=by
  rw[uI _ _]<;>grind
 refine propext ⟨fun z=>?_,fun z=>dw ?_⟩
 .cases l <;>simp_all
 .rw[e]
  cases l <;>simp_all
theorem gB{α:Type}{a b:α}:Yr [a,b] 0=some a:=rfl
theorem gA{α:Type}{a b:α}:Yr [a,b] 1=some b:=rfl
theorem tT(hl:l <:+ cd t)(T:Tp)(ht:t.length<=60000):iJ [.d (.str t),.d (.int ((t.length-l.length:Nat):Int))] T=some (d7 t.length (fO l),T):=by
 have hd:=by
  have:=S7.mp hl;rw[cM] at this;exact this.symm
 have hn:=hl.length_le;rw[cM] at hn;have h:=zjf  (b:=t.length-l.length) T ht (by omega);rw[hd] at h;rw[h];unfold fO;have hw:(W l).length<=l.length:=(TU _).length_le
 cases gj _ with
 |none=>rfl
 |some v=>
  show some _=some (Tt [v,.int _],T)<;>grind
def kf(n:Nat):FS:=(aq (aG 4 (av (df n) (af (aa 0) (af (aa 1) (af (aa 2) ai))))) (aq (Ye (aH (ah CG (aa 4) (fC .none))) (aB (fC .none)) aR) (aq (jp 3 (ah Zx (aa 4) (fC (.int 0)))) (aq (aG 1 (ah az (ah Zx (aa 4) (fC (.int 1))) (fC (.int 1)))) (aq (aG 5 (Zq (aa 0) (fP (ah Zx (aa 4) (fC (.int 1)))) (fP (aa 1)))) (aq (Ye (aH (ah D6 (aa 5) (fC (.str ")")))) (aB (aT .tuple (af (Zu gP (af (aa 3) ai)) (af (aa 1) ai)))) aR) (Ye (aH (ah Bt (aa 5) (fC (.str ",")))) (aB (fC .none)) aR)))))))
theorem xc(ht:t.length<=60000)(hs:Suf val)(hv:∀l,l <:+ cd t->df n [.d (.str t),.d (.int ((t.length-l.length:Nat):Int)),.d (.int rows)] T=some (d7 t.length (val l),T)) :
  ∀(k:Nat) (l:List Nat) (acc:List NN) (o4 o5:Option D.W),l <:+ cd t->l.length<k->acc.length+l.length<=60000 ->
  dM (fi (bI (fC (.bool true))) (kf n) k [some (.d (.str t)),some (.d (.int ((t.length-l.length:Nat):Int))),some (.d (.int rows)),some (.loc (.list acc)),o4,o5] T)=some (d7 t.length (gU val k acc l),T)
 |0,l,acc,o4,o5,hl,hk,ha=>absurd hk (PR _)
 |k+1,l,acc,o4,o5,hl,hk,ha=>by
  have Z8:t.length<=sizeLine:=Oc ht (by decide);have Bp:acc.length<sizeLine:=Rm (by omega:acc.length<=60000) (by decide);have h1:=hv l hl;unfold fi gU
  cases Ar:val l with
  |none=>
   rw[Ar] at h1;simp[kf,h1,d7,isNone]
  |some p=>
   obtain⟨v,r⟩:=p;have hr:=(hs l v r Ar);have HI:=hr.trans hl;have hrl:=hr.length_le;have EU:=hl.length_le;rw[cM] at EU;have s1:=lh (c:=41) HI (y:=NM ")") (by decide +kernel);have s2:=lh (c:=44) HI (y:=NM ",") (by decide +kernel);rw[Ar] at h1
   have step:∀c,r.head? = some c->(((t.length-r.length:Nat):Int)+1)=((t.length-r.tail.length:Nat):Int):=fun c hc=>by
    have:=mr hc;omega
   dsimp only
   by_cases c1:r.head? = some 41
   .have e1:=step _ c1
    rw[if_pos c1]
    have goal:d7 t.length (some (Tt (acc++[v]),r.tail))=.tuple [.tuple (acc++[v]),.int (((t.length-r.length:Nat):Int)+1)]:=by
     rw[e1];rfl
    rw[goal];simp[kf,h1,d7,isNone,gB,gA,Bp,Z8,s1,c1]
   .rw[if_neg c1]
    by_cases c2:r.head? = some 44
    .have e1:=step _ c2
     have e2:=mr c2;have ih:=xc ht hs hv k r.tail (acc++[v]) (some (.d (.tuple [v,.int ((t.length-r.length:Nat):Int)]))) (some (.d (.str (P9 t (some ((t.length-r.length:Nat):Int)) (some (((t.length-r.length:Nat):Int)+1)))))) ((Qm _).trans HI) (by omega) (by simp;omega);rw[←e1] at ih;rw[if_pos c2,←ih];simp[kf,h1,d7,isNone,gB,gA,Bp,Z8,s1,s2,c1,c2]
    .rw[if_neg c2]
     simp[kf,h1,d7,isNone,gB,gA,Bp,Z8,s1,s2,c1,c2]
def sf(val:List Nat->Option (NN×List Nat))(l:List Nat):Option (NN×List Nat):=if l.head? = some 41 then some (.tuple [],l.tail) else gU val 100000 [] l
theorem zjg(ht:t.length<=60000)(hs:Suf val)(hv:∀l,l <:+ cd t->df n [.d (.str t),.d (.int ((t.length-l.length:Nat):Int)),.d (.int rows)] T=some (d7 t.length (val l),T))(hl:l <:+ cd t) :
  ic (n+1) [.d (.str t),.d (.int ((t.length-l.length:Nat):Int)),.d (.int rows)] T=some (d7 t.length (sf val l),T):=by
 have Z8:t.length<=sizeLine:=Oc ht (by decide);have EU:=hl.length_le;rw[cM] at EU;have s1:=lh (c:=41) hl (y:=NM ")") (by decide +kernel);have hr:=xc (T:=T) ht hs hv 100000 l [] none none hl (by omega) (by simp;omega);unfold sf
 by_cases c1:l.head? = some 41
 .rw[if_pos c1]
  have goal:d7 t.length (some (Tt [],l.tail))=.tuple [.tuple [],.int (((t.length-l.length:Nat):Int)+1)]:=by
   have:=mr c1
   have e:(((t.length-l.length:Nat):Int)+1)=((t.length-l.tail.length:Nat):Int):=by omega
   rw[e];rfl
  rw[goal];simp[ic,Z8,s1,c1]
 .rw[if_neg c1,←hr]
  have:ic (n+1)=aW 6 (aq (Ye (aH (ah D6 (Zq (aa 0) (fP (aa 1)) (fP (ah az (aa 1) (fC (.int 1))))) (fC (.str ")")))) (aB (aT .tuple (af (aT .tuple ai) (af (ah az (aa 1) (fC (.int 1))) ai)))) aR) (aq (je 3 ai) (fi (bI (fC (.bool true))) (kf n) 100000))):=by rw[ic];rfl
  rw[this];simp[Z8,s1,c1]
theorem qP(ht:t.length<=60000):∀(rows n:Nat),2*rows+1<=n->∀l,l <:+ cd t->df n [.d (.str t),.d (.int ((t.length-l.length:Nat):Int)),.d (.int rows)] T=some (d7 t.length (c8 rows l),T)
 |_,0,h,_,_=>absurd h (by omega)
 |0,n+1,h,l,hl=>by
  have Z8:t.length<=sizeLine:=Oc ht (by decide);have s1:=lh (c:=40) hl (y:=NM "(") (by decide +kernel);have sg:=tT hl T ht;unfold c8
  by_cases c1:l.head? = some 40
  .simp[df,Z8,s1,c1,d7]
  .simp[df,Z8,s1,c1,sg]
 |rows+1,n+1,h,l,hl=>by
  have Z8:t.length<=sizeLine:=Oc ht (by decide);have s1:=lh (c:=40) hl (y:=NM "(") (by decide +kernel);have sg:=tT hl T ht;have EU:=hl.length_le;rw[cM] at EU;unfold c8
  by_cases c1:l.head? = some 40
  .obtain⟨m,rfl⟩:∃m,n=m+1:=⟨n-1,by omega⟩
   have rr:=zjg ht (qt rows) (qP (T:=T) ht rows m (by omega)) ((Qm l).trans hl);have:=mr c1
   have e:(((t.length-l.length:Nat):Int)+1)=((t.length-l.tail.length:Nat):Int):=by omega
   rw[←e] at rr
   have e2:((rows+1:Nat):Int)-1=(rows:Int):=by omega
   have e3:¬((rows+1:Nat):Int)=0:=by omega
   rw[if_pos c1];show _=some (d7 t.length (sf (c8 rows) l.tail),T);rw[←e2] at rr;generalize ((rows+1:Nat):Int)=R at e3 rr;simp[df,Z8,s1,c1,e3,rr]
  .rw[if_neg c1]
   simp[df,Z8,s1,c1,sg]
def dg(m:Nat):List Nat:=(Sf 10 m).map Xq
theorem ou(m:Nat):SI (dg m):=fun c hc=>by
 obtain⟨ch,zN,e⟩:=Oj.mp hc;rw[←e];exact digit_range (Nat.isDigit_of_mem_toDigits (by decide) (by decide) zN)
theorem x9(m:Nat):Qa (dg m)=m:=W.KIN.val_back m
theorem rR(m:Nat):dg m≠[]:=fun e=>by
 have h:=toDigits_len_ge 10 m
 rw[UI.mp e] at h<;>simp_all
theorem nV{m:Nat}(h:m<=10^18):(dg m).length<=19:=by
 unfold dg;rw[OY];exact toDigits_len_pow (by decide) (by decide) (Rm h (by decide))
theorem wm(m:Nat):0<m->(dg m).head?≠some 48:=by
 induction m using Nat.strongRecOn with
 |_ m ih=>
  intro hm
  by_cases h:m<10
  .have:∀m ,m<10->0<m->((Sf 10 m).map Xq).head?≠some 48:=by decide
   exact this m h hm
  .have hm:m % 10<10:=Nat.mod_lt m (by decide)
   have t:Sf 10 (m / 10)++Sf 10 _=Sf 10 _:=Nat.toDigits_append_toDigits (by decide) (by omega) hm;rw[Nat.div_add_mod] at t
   have e:dg m=dg (m / 10)++dg (m % 10):=by
    unfold dg;rw[←t,QS]
   have i1:=ih (m / 10) (by omega) (by omega)
   have i2:=rR (m / 10)<;>simp_all
theorem wq(m:Nat):fw (dg m)=true:=by
 unfold fw;rw[NY,NY];refine⟨⟨by simpa using rR m,Oq.mpr fun c hc=>decide_eq_true ?_⟩,?_⟩
 .rw[ug]
  have:=ou m c hc;simp;omega
 .rcases Nat.eq_zero_or_pos m with h|h
  .subst h
   rfl
  .rw[Bool.or_eq_true]
   right;simpa using wm m h
def nc:Int->List Nat
 |.ofNat m=>dg m
 |.negSucc m=>45::dg (m+1)
theorem zjh(i:Int):cd (NM (toString i))=nc i:=by
 cases i with
 |ofNat m=>exact W.KIN.signs_num m
 |negSucc m=>
  have e:toString (Int.negSucc m)="-"++toString (m+1):=rfl;unfold cd;rw[Uo]
  simp_all
  rfl
theorem kT(i:Int):∀c∈nc i,c=45\/(48<=c/\c<=57):=by
 cases i with
 |ofNat m=>exact fun c hc=>.inr (ou m c hc)
 |negSucc m=>
  intro c hc
  rcases N4.mp hc with h|h
  .exact .inl h
  .exact .inr (ou _ c h)
theorem yv(i:Int):nc i≠[]:=by
 cases i with
 |ofNat m=>exact rR m
 |negSucc m=>exact fun h=>nomatch h
theorem ph(h:single (.int i)=true):i.natAbs<=10^18:=by have h':=of_decide_eq_true h<;>omega
theorem xw(h:single (.int i)=true):(nc i).length<=20:=by
 have h:=ph h
 cases i with
 |ofNat m=>
  have:=nV (m:=m) h;show (dg m).length<=20;omega
 |negSucc m=>
  have:=nV (m:=m+1) h;show (dg _).length+1<=20;omega
theorem qk(m:Nat):(dg m).head?≠some 45:=fun h=>by
 cases hd:dg m with
 |nil=>simp_all
 |cons a r=>
  rw[hd] at h;have:=ou m 45 (by simp_all);omega
theorem qw(h:single (.int i)=true):lX (nc i)=some i:=by
 have h:=ph h
 cases i with
 |ofNat m=>
  show (if dg m=[45,48]\/19<(fg (dg m)).length\/fw (fg (dg m))=false then none else some (if (dg m).head? = some 45 then -_ else ((Qa (dg m):Nat):Int)))=_
  have e:fg (dg m)=dg m:=by unfold fg;rw[if_neg (qk m)]
  have l:=nV (m:=m) h;rw[e,if_neg (qk m),x9,wq,if_neg]
  .rfl
  .rintro(z|z|z)
   .exact qk m (by rw[z];rfl)
   .omega
   .cases z
 |negSucc m=>
  show (if 45::dg (m+1)=[45,48]\/19<(fg (45::dg (m+1))).length\/fw (fg (45::dg (m+1)))=false then none else some (if (45::dg (m+1)).head? = some 45 then -((Qa (45::dg (m+1)).tail:Nat):Int) else _))=_;have e:fg (45::dg (m+1))=dg (m+1):=rfl;have l:=nV (m:=m+1) h;have e2:(45::dg (m+1)).tail=dg (m+1):=rfl;rw[e,e2,x9,wq,if_neg]
  .rfl
  .rintro(z|z|z)
   .have z':=(List.cons.inj z).2
    have:=wm (m+1) (by omega)<;>simp_all
   .omega
   .cases z
def cst:Nat->NN->List Nat
 |n+1,.tuple ds=>40::(bb [44] (ds.map (cst n))++[41])
 |0,.tuple _=>[]
 |_,.int i=>nc i
 |_,.str x=>39::cd x
 |_,_=>[]
theorem nh(n:Nat)(i:Int):cst n (.int i)=nc i:=by cases n <;> rfl
theorem m9(n:Nat)(x:Str):cst n (.str x)=39::cd x:=by cases n <;> rfl
theorem ju(h:single d=true):(∃i,d=.int i)\/∃x,d=.str x:=by cases d <;> first|exact .inl ⟨_,rfl⟩|exact .inr ⟨_,rfl⟩|cases h
theorem f7(h:aJ n d=true):single d=true\/∃m ds,n=m+1/\d=.tuple ds/\ds.length<=8/\∀x∈ds,aJ m x=true:=by
 by_cases k:kd d=.tup
 .obtain⟨ds,rfl⟩:=nK k
  cases n with
  |zero=>cases h
  |succ m=>
   right;have h':(decide _&&ds.all _)=true:=h;rw[NY] at h';exact⟨m,ds,rfl,rfl,of_decide_eq_true h'.1,Oq.mp h'.2⟩
 .left
  rw[sQ k] at h;exact h
theorem txt_codes(h:has Iz x=true):∀c∈cd x,dl c=false:=fun c hc=>by
 have h1:=of_decide_eq_true (Oq.mp h c hc)
 have h2:∀c∈Iz.cps.toList,dl c=false:=by decide +kernel
 exact h2 c h1
theorem uR(i:Int):∀c∈nc i,dl c=false:=fun c hc=>by
 rw[rp]
 have:=kT i c hc<;>grind
theorem mz(h:a≠[]):(a++b).head? = a.head?:=by cases a <;>simp_all
def pb(l:List Nat):Prop:=∀c,l.head? = some c->dl c=true
theorem rW(hw:∀c∈w,dl c=false)(hl:pb l):W (w++l)=w:=by
 unfold W
 simp_all
 cases l with
 |nil=>simp
 |cons a r=>
  have:=hl a rfl<;>simp_all
theorem pC{d:NN}{n:Nat}{l:List Nat}(h:single d=true)(hl:pb l):(cst n d++l).head?≠some 40/\(cst n d).head?≠some 41/\cst n d≠[]/\fO (cst n d++l)=some (d,l)/\(cst n d).length<=21:=by
 rcases ju h with⟨i,rfl⟩|⟨x,rfl⟩
 .rw[nh]
  have F7:=yv i;have hs:=kT i;have hh:=fun c hc=>hs c (Vj hc)
  have xI:(nc i).head?≠some 39:=fun z=>by have:=hh _ z;omega
  refine⟨?_,fun z=>by have:=hh _ z;omega,F7,?_,by have:=xw h;omega⟩
  .rw[mz F7]<;>grind
  .unfold fO
   rw[rW (uR i) hl];unfold gj;rw[if_neg xI,qw h];simp
 .rw[m9]
  have h':(decide (x.length<=20)&&has Iz x)=true:=h;rw[NY] at h';refine⟨by simp,by simp,by simp,?_,?_⟩
  .unfold fO
   rw[rW  (fun c hc=>by
    rcases N4.mp hc with z|z
    .subst z;rw[rp];rfl
    .exact txt_codes h'.2 c z) hl]
   show (some (OE (mk (cd x)))).map _=_;rw[yw];simp
  .have:=of_decide_eq_true h'.1
   rw[Oo,cM];omega
theorem pI{val:List Nat->Option (NN×List Nat)}{f:NN->List Nat}{post:List Nat}:∀(ds:List NN) (d:NN) (k:Nat) (acc:List NN),ds.length<k->(∀x∈d::ds,∀l,pb l->val (f x++l)=some (x,l)) ->
  gU val k acc (bb [44] ((d::ds).map f)++41::post)=some (.tuple (acc++d::ds),post)
 |ds,d,0,acc,h,_=>absurd h (PR _)
 |[],d,k+1,acc,h,hv=>by
  have:=hv d NZ (41::post) (fun c hc=>by cases hc;rfl);show (match val (f d++41::post) with|none=>none|some (v,r)=>_)=_;rw[this];rfl
 |e::ds,d,k+1,acc,h,hv=>by
  have h1:=hv d NZ (44::(bb [44] ((e::ds).map f)++41::post)) (fun c hc=>by cases hc;rfl);have ih:=pI (post:=post) ds e k (acc++[d]) (by simp_all) (fun x hx=>hv x (NV _ hx))
  have e1:bb [44] ((d::e::ds).map f)++41::post=f d++44::(bb [44] ((e::ds).map f)++41::post):=by
   show (f d++[44]++bb [44] _)++41::post=_;simp
  unfold gU<;>simp_all
theorem vc:∀(n:Nat) (d:NN),aJ n d=true->cst n d≠[]/\(cst n d).head?≠some 41:=fun n d h=>by
 rcases f7 h with h1|⟨m,ds,rfl,rfl,_,_⟩
 .have:=pC (n:=n) (l:=[]) h1 (fun c hc=>by cases hc)
  exact⟨this.2.2.1,this.2.1⟩
 .exact⟨by simp[cst],by simp[cst]⟩
theorem pR(h:l.head?≠some 40):c8 n l=fO l:=by
 cases n with
 |zero=>unfold c8;rw[if_neg h]
 |succ n=>unfold c8;rw[if_neg h]
theorem val_back:∀(n:Nat) (d:NN),aJ n d=true->∀l,pb l->c8 n (cst n d++l)=some (d,l)
 |n,d,h,l,hl=>by
  rcases f7 h with h1|⟨m,ds,rfl,rfl,h8,hb⟩
  .have:=pC (n:=n) h1 hl
   rw[pR this.1,this.2.2.2.1]
  .have ih:=val_back m
   have e:cst (m+1) (.tuple ds)++l=40::(bb [44] (ds.map (cst m))++41::l):=by
    show (40::(bb [44] (ds.map (cst m))++[41]))++l=_;simp
   rw[e];unfold c8
   cases ds with
   |nil=>rfl
   |cons d ds=>
    have hh:=vc m d (hb d NZ);have e2:(40::(bb [44] ((d::ds).map (cst m))++41::l)).tail=bb [44] ((d::ds).map (cst m))++41::l:=rfl
    have e3:(bb [44] ((d::ds).map (cst m))++41::l).head?≠some 41:=by
     rw[OJ,jB,QY,mz hh.1];exact hh.2
    rw[e2,if_neg e3];have:=pI (val:=c8 m) (f:=cst m) (post:=l) ds d 100000 [] (by simp at h8;omega) (fun x hx l hl=>ih x (hb x hx) l hl);rw[this];rfl
termination_by n=>n
theorem uT(n:Nat):∀d,1<=aP n d:=by
 induction n with
 |zero=>intro d;cases d <;> exact RZ _
 |succ n ih=>
  intro d
  by_cases k:kd d=.tup
  .obtain⟨ds,rfl⟩:=nK k
   have:=K1.zuf _ ih ds;show 1<=1+(ds.map _).sum;omega
  .rw[tj k]<;>simp_all
theorem uE{f:NN->Int}(h:∀d,0<=f d):∀{ds:List NN}{d:NN},d∈ds->f d<=(ds.map f).sum
 |e::r,d,hd=>by
  have nn:∀l:List _,0<=(l.map f).sum:=fun l=>by
   induction l with
   |nil=>exact RZ _
   |cons a l ih=>simp_all<;>grind
  rw[OJ,RT]
  rcases N4.mp hd with z|z
  .grind
  .have:=uE h  z<;>grind
theorem zji(h:d∈ds):aP n d<=aP (n+1) (.tuple ds):=by
 have:=uE (f:=aP n) (fun d=>by have:=uT n d;omega) h;show aP n d<=1+(ds.map _).sum;omega
theorem pw(f:NN->List Nat):∀ds:List NN,(ds.map fun d=>(f d).length).sum+ds.length<=(bb [44] (ds.map f)).length+1/\(bb [44] (ds.map f)).length<=(ds.map fun d=>(f d).length).sum+ds.length
 |[]=>by simp[bb]
 |[d]=>by simp[bb]
 |d::e::r=>by
  have ih:=pw f (e::r);have e1:bb [44] ((d::e::r).map f)=f d++[44]++bb [44] _:=rfl
  simp_all
  omega
theorem qD{n:Nat}:∀{ds:List NN},(∀d∈ds,((cst n d).length:Int)+1<=25*aP n d)->(((ds.map fun d=>(cst n d).length).sum+ds.length:Nat):Int)<=25*(ds.map (aP n)).sum
 |[],_=>by simp
 |d::r,h=>by
  have h2:=qD  fun x hx=>h x (NV _ hx)<;>grind
theorem ng:∀(n:Nat) (d:NN),aJ n d=true->((cst n d).length:Int)+1<=25*aP n d
 |n,d,h=>by
  rcases f7 h with h1|⟨m,ds,rfl,rfl,h8,hb⟩
  .have:=(pC (n:=n) (l:=[]) h1 (fun c hc=>by cases hc)).2.2.2.2
   have:=uT n d;omega
  .have ih:=ng m
   have h1:=qD  fun d hd=>ih d (hb d hd);have h2:=(pw (cst m) ds).2
   show (((40::_).length):Int)+1<=25*(1+(ds.map _).sum)<;>grind
termination_by n=>n
theorem mX(h:single (.int i)=true):gu [.int i]=some (.str (mk (nc i))):=by
 have h1:=ph h
 have h2:i.natAbs.log2<1920:=by
  by_cases z:i.natAbs=0
  .rw[z];decide
  .exact N6 ((Um (k:=64) z).mpr (Rm h1 (by decide))) (by decide)
 have e:NM _=mk (nc i):=dw (by rw[zjh,dm]);show (if i.natAbs.log2<1920 then some _ else none)=_;rw[if_pos h2,e]
theorem rh(a b:List Nat):mk a++mk b=mk (a++b):=dw (by rw[cZ,dm,dm,dm])
theorem lit(h:cd (NM s)=l):NM s=mk l:=dw (by rw[h,dm])
theorem qr(h:n<=2000):n<=sizeLine:=Oc h (by decide)
theorem zjj(f:NN->List Nat)(ds:List NN):((ds.map fun d=>mk (f d)).map (·.length)).sum=(ds.map fun d=>(f d).length).sum:=by
 rw[Pm];exact congrArg _ (OX fun d _=>di _)
theorem zjk(f:NN->List Nat)(ds:List NN):Ob (mk [44]) (ds.map fun d=>mk (f d))=mk (bb [44] (ds.map f)):=dw (by
 rw[fH,Pm]
 exact congrArg _ (OX fun d _=>dm _))
theorem lq:cP .str .str=true:=rfl
theorem zjl:cP .str .tup=false:=rfl
theorem zjm:cP .int .tup=false:=rfl
theorem zjn:cP .int .str=false:=rfl
theorem zjo{m:Nat}{ds:List NN}(hm:aP (m+1) (.tuple ds)<=40)(hb:∀x∈ds,aJ m x=true):(bb [44] (ds.map (cst m))).length<=1000/\(ds.map fun d=>(cst m d).length).sum+ds.length<=1000:=by
 have h1:=qD  fun d hd=>ng m d (hb d hd);have h2:=(pw (cst m) ds).2;have h3:1+(ds.map (aP m)).sum<=40:=hm;omega
theorem str_len{n:Nat}{x:Str}(h:single (.str x)=true):x.length<=20:=by have h':(decide _&&has Iz x)=true:=h<;>simp_all
theorem vf:∀(n:Nat) (v:NN),aJ n v=true->Sm v
 |n,v,h=>by
  rcases f7 h with h1|⟨m,ds,rfl,rfl,_,hd⟩
  .rcases ju h1 with⟨i,rfl⟩|⟨x,rfl⟩
   .show Bm _=true
    rw[Bm]<;>grind
   .have h2:(decide _&&has Iz x)=true:=h1
    rw[NY] at h2;exact Sm.mkS (Oc (of_decide_eq_true h2.1) (by decide)) (K1.zis K1.zit h2.2)
  .exact Sm.tup fun d hx=>vf m d (hd d hx)
termination_by n=>n
theorem zjp(h:aS v=true):Sm v:=by
 have h':(aJ 4 v&&decide _)=true:=h;rw[NY] at h';exact vf 4 v h'.1
theorem ib(h:aS v=true):aJ 4 v=true/\aP 4 v<=40:=by have h':(aJ 4 v&&decide _)=true:=h<;>simp_all
theorem rA(T:Tp)(h:aS v=true):de [.d (.str (mk (cst 4 v)))] T=some (v,T):=by
 obtain⟨hb,hm⟩:=ib h;have hl:=ng 4 v hb
 have ht:(mk (cst 4 v)).length<=60000:=by rw[di];omega
 have Z8:(mk _).length<=sizeLine:=Oc ht (by decide);have e:=qP (T:=T) ht 4 25 (by decide) (cst 4 v) (by rw[dm]<;>simp_all);have b:=val_back 4 v hb [] (fun c hc=>by cases hc);rw[Pb] at b;rw[b,di,W9] at e;have e':df 25 [.d _,.d (.int 0),.d (.int 4)] T=some (.tuple [v,.int _],T):=e;have iv:=wM T (zjp h);have hz:(mk _).length=(cst 4 v).length:=di _
 simp[de,e',isNone,gB,gA,iv,hz]<;>grind
def N3(l:List Nat):Prop:=∀c∈l,c<128/\c≠32
theorem N3.no(h:N3 l):32∉l:=fun z=>(h 32 z).2 rfl
theorem mH(x:List Nat)(r:List (List Nat)):bb [32] (x::r)=x++(r.map ([32]++·)).flatten:=jB [32] x r
theorem zjq(ha:32∉a)(hb:32∉b)(hu:u=[]\/u.head? = some 32)(hv:v=[]\/v.head? = some 32)(h:a++u=b++v):a=b/\u=v:=by
 induction a generalizing b with
 |nil=>
  cases b <;>simp_all
 |cons x a ih=>
  cases b with
  |nil=>
   exfalso
   rw[VT] at h<;>grind
  |cons c b=>
   injection h with h1 h2
   obtain⟨k1,k2⟩:=ih  (fun z=>ha (NV _ z)) (fun z=>hb (NV _ z)) h2<;>simp_all
theorem v8(r:List (List Nat)):(r.map ([32]++·)).flatten=[]\/((r.map ([32]++·)).flatten).head? = some 32:=by
 cases r with
 |nil=>exact .inl rfl
 |cons a r=>exact .inr rfl
theorem wF:∀(A B:List (List Nat)),A≠[]->B≠[]->(∀a∈A,32∉a)->(∀b∈B,32∉b)->bb [32] A=bb [32] B->A=B
 |[],_,h,_,_,_,_=>absurd rfl h
 |_::_,[],_,h,_,_,_=>absurd rfl h
 |a::A,b::B,_,_,hA,hB,h=>by
  rw[mH,mH] at h;obtain⟨h1,h2⟩:=zjq (hA a NZ) (hB b NZ) (v8 A) (v8 B) h
  congr 1
  cases A with
  |nil=>
   cases B <;>simp_all
  |cons a' A=>
   cases B with
   |nil=>cases h2
   |cons b' B=>
    have h3:a'++(A.map ([32]++·)).flatten=b'++(B.map ([32]++·)).flatten:=by simp_all
    refine wF _ _ (by simp) (by simp) (fun x hx=>hA x (NV _ hx)) (fun x hx=>hB x (NV _ hx)) ?_
    rw[mH,mH]<;>omega
theorem zjr(x y:Str):Qx x y≠[]:=by
 unfold Qx;split
 .simp
 .split
  .simp
  .rw[StrLaws.partsBetween_eq]
   obtain⟨p,r,e⟩:=StrLaws.partsFrom_ne x _ 0 _;rw[e];simp
def BL:Str:=NM " "
theorem y9:BL=⟨#[32]⟩ :=rfl
theorem xx{A B:List Str}(h:A.map cd=B.map cd):A=B:=by
 induction A generalizing B with
 |nil=>simp_all
 |cons a A ih=>cases B with
  |nil=>cases h
  |cons b B=>
   injection h with h1 h2
   rw[dw h1,ih h2]
theorem sU(F7:ws≠[])(h:∀w∈ws,32∉cd w):Qx (Ob BL ws) BL=ws:=by
 have j:=StrLaws.join_split (Ob BL ws) BL
 have f:∀p∈Qx (Ob BL ws) BL,32∉cd p:=by
  exact StrLaws.split_free _ 32
 generalize hA:Qx _ BL=A at j f
 have hA':A≠[]:=by rw[←hA];exact zjr _ _
 have c:cd (Ob BL A)=cd (Ob BL ws):=by rw[j]
 rw[fH,fH] at c;refine xx (wF _ _ (by simpa using hA') (by simpa using F7) (fun a ha=>?_) (fun a ha=>?_) c)
 .obtain⟨p,hp,rfl⟩:=Oj.mp ha
  exact f p hp
 .obtain⟨p,hp,rfl⟩:=Oj.mp ha
  exact h p hp
open K1 (has ZV Iz single aJ aP E1 isName aS Fq bc Ik Good Sh Shs)
@[simp] theorem ES:NM a=NM b↔a=b:=by
 constructor
 .intro h
  have h2:(NM a).cps.toList=(NM b).cps.toList:=by rw[h]
  rw[Uo,Uo] at h2;have inj:Function.Injective _:=fun x y e=>Char.ext (UInt32.toNat_inj.mp e);exact String.toList_inj.mp ((List.map_inj_right (fun x y e=>inj e)).mp h2)
 .rintro rfl;rfl
theorem jJ:∀(n:Nat) (d:NN),aJ n d=true->aJ (n+1) d=true/\aP (n+1) d=aP n d
 |n,d,h=>by
  rcases f7 h with h1|⟨m,ds,rfl,rfl,h8,hd⟩
  .exact⟨(cR h1).1,by rw[(cR  h1).2,(cR  h1).2]⟩
  .have ih:=fun d EZ=>jJ m d (hd d EZ)
   refine⟨?_,?_⟩
   .show (decide _&&ds.all _)=true<;>simp_all
   .show 1+(ds.map _).sum=1+(ds.map _).sum
    rw[OX fun d EZ=>(ih d EZ).2]
termination_by n=>n
@[simp] theorem LG:IZ f ρ T=XI (f ρ T) fun w T1=>yn T1 w:=rfl
def sl(L:List Str):List PyData:=L.map .str
def jh(C:Addr)(L:List Str)(p b:Int):List PyData:=[bK C,.tuple [.str "parted",.list (sl L)],.tuple [.str "place",.int p],.tuple [.str "begun",.int b]]
abbrev TW(C:Addr)(t0:List NN)(L:List Str)(p b:Int):Tp:=[jh C L p b]
section
variable {C:Addr}{t0:List NN}{L:List Str}{p b:Int}
theorem i6:fm C (TW C t0 L p b) 0=some [.tuple [.str "parted",.list (sl L)],.tuple [.str "place",.int p],.tuple [.str "begun",.int b]]:=by simp[fm,jh,iC,bK]
theorem kH:hV C "parted" (.tp 0) (TW C t0 L p b)=some (.d (.list (sl L)),TW C t0 L p b):=by
 unfold hV;dsimp only;rw[i6];simp[eM]
theorem iR:hV C "place" (.tp 0) (TW C t0 L p b)=some (.d (.int p),TW C t0 L p b):=by
 unfold hV;dsimp only;rw[i6];simp[eM]
theorem zjs:hV C "begun" (.tp 0) (TW C t0 L p b)=some (.d (.int b),TW C t0 L p b):=by
 unfold hV;dsimp only;rw[i6];simp[eM]
theorem zjt:eL C "place" ρ (.d (.int q)) (.tp 0) (TW C t0 L p b)=some ((.nx,ρ),TW C t0 L q b):=by
 unfold eL;dsimp only;rw[i6];simp[gv,jh]
theorem zju:eL C "begun" ρ (.d (.int q)) (.tp 0) (TW C t0 L p b)=some ((.nx,ρ),TW C t0 L p q):=by
 unfold eL;dsimp only;rw[i6];simp[gv,jh]
theorem ik:dC C f fo ρ T=XI (fo ρ T) (hV C f):=rfl
theorem qj:jf C f fo fe ρ T=XI (fe ρ T) fun w T1=>XI (fo ρ T1) (eL C f ρ w):=rfl
theorem bj:cb C m mm fo g ρ T=XI (fo ρ T) (lI C m mm g ρ):=rfl
theorem Y7(h:¬m="parted"/\¬m="place"/\¬m="begun"):lI C (NM m) mm g ρ (.tp 0) (TW C t0 L p b)=XI (g ρ (TW C t0 L p b)) fun ws T2=>XI (mm (.tp 0::ws) T2) fun x T3=>some (.d x,T3):=by
 unfold lI;dsimp only;rw[i6];have h1:¬ "parted"=m:=fun z=>h.1 z.symm;have h2:¬ "place"=m:=fun z=>h.2.1 z.symm;have h3:¬ "begun"=m:=fun z=>h.2.2 z.symm;simp[eM,h1,h2,h3]
theorem gQ:(sl L).length=L.length:=by simp[sl]
theorem zjv{k:Nat}{w:Str}(h:L[k]? = some w):Yr (sl L) (k:Int)=some (.str w):=by
 refine nj ?_
 unfold sl<;>simp_all
theorem fh{k:Nat}{w:Str}(h:L[k]? = some w):bL C [.tp 0] (TW C t0 L (k:Int) b)=some (.str w,TW C t0 L (k:Int) b):=by
 have hk:=(NS.mp h).1
 have Ee:=by omega
 have a:=zjv h;have ln:=gQ (L:=L);simp[bL,ik,kH,iR,ln,Ee,a]
theorem n6:eU C [.tp 0,.d (.bool true)] (TW C t0 L p b)=some (.none,TW C t0 L (p+1) b):=by simp[eU,ik,qj,iR,zjt]
theorem eG(ha:a<20)(hb:b<60):d8 C [.tp 0,.d (.bool true),.d (.int a)] (TW C t0 L p b)=some (.none,TW C t0 L (p+1) (b+1)):=by simp[d8,ik,qj,bj,zjs,Y7,ha,hb,n6,zju]
theorem zjw{k:Nat}(h:L.length<=k):iH C [.tp 0] (TW C t0 L (k:Int) b)=some (.none,TW C t0 L (k:Int) b):=by
 have Ee:¬(k)<(L.length):=by omega
 have ln:=gQ (L:=L);simp[iH,ik,kH,iR,ln,Ee]
theorem zjx(T:Tp)(h:isName (.str x)=true):du [.d (.str x)] T=some (.bool true,T):=by
 have h':(decide _&&decide _&&has ZV x)=true:=h;rw[NY,NY] at h';have l1:=of_decide_eq_true h'.1.1;have l8:=of_decide_eq_true h'.1.2
 have FW:(1:Int)<=(x.length):=by omega
 have Ij:(x.length:Int)<=8:=by omega
 have hz:x.length<=sizeLine:=Oc l8 (by decide);have hh:=oB (y:=ZV) T hz;rw[h'.2] at hh;have CV:eB [.d _,.d (.str "abcdefghijklmnopqrstuvwxyz")] T=some _:=hh;simp[du,lq,hz,FW,Ij,CV]
theorem zjy{k:Nat}{w:Str}(h:L[k]? = some w)(hn:isName (.str w)=true):gI C [.tp 0] (TW C t0 L (k:Int) b)=some (.str w,TW C t0 L ((k:Int)+1) b):=by
 have a:=fh (C:=C) (t0:=t0) (b:=b) h;have i:=zjx (TW C t0 L (k) b) hn;simp[gI,bj,Y7,a,i,n6]
theorem notnone(h:aS v=true):isNone v=false:=by
 cases v with
 |none=>cases h
 |_=>rfl
theorem zjz{k:Nat}{v:NN}(h:L[k]? = some (mk (cst 4 v)))(hv:aS v=true):gJ C [.tp 0] (TW C t0 L (k:Int) b)=some (v,TW C t0 L ((k:Int)+1) b):=by
 have a:=fh (C:=C) (t0:=t0) (b:=b) h;have i:=rA (TW C t0 L (k) b) hv
 have n:iq v .none=some (.bool true):=by
  have e:iq v .none=some (.bool (!isNone v)):=by cases v <;> rfl
  rw[e,notnone hv];rfl
 simp[gJ,bj,Y7,a,i,n6,n]
def ns(j:Nat):Str:=mk (nc (j:Int))
theorem zka(h1:i<=1000)(h2:j<=1000)(h:ns i=ns j):i=j:=by
 have e:cd (ns i)=cd (ns j):=by rw[h]
 unfold ns at e;rw[dm,dm] at e;have a:=qw (i:=(i)) (er (by omega) (by omega))
 have b:=qw (i:=(j)) (er (by omega) (by omega))<;>grind
theorem zkb(hn:n<=1000)(hj:j<n):fu (ns j) ((OQ n).map ns)=some j:=by
 have key:∀(l a:Nat),a+l<=1000->a<=j->j<a+l->fu (ns j) ((O4 a l).map ns)=some (j-a):=by
  intro l
  induction l with
  |zero=>grind
  |succ l ih=>
   intro a h0 h1 h2;rw[QJ,OJ];unfold fu
   by_cases z:a=j
   simp_all
   .rw[if_neg (fun e=>z (zka _ _ e))]<;>grind
 have:=key n 0 (by omega) (QK _) (by omega)
 rw[Up]<;>omega
theorem kL:∀l:List Str,dI (sl l)=some l
 |[]=>rfl
 |x::r=>by
  have ih:=kL r;unfold sl at ih ⊢;rw[OJ,dI,ih];rfl
theorem in_sl(h:w∈l):inD (.str w) (.list (sl l))=some (.bool true):=by
 have e1:(sl l).all eN=true:=Oq.mpr fun d hd=>by
  obtain⟨x,_,rfl⟩:=Oj.mp hd;rfl
 have e2:((sl l).any fun y=>ID y (.str w))=true:=List.any_eq_true.mpr ⟨.str w,Oj.mpr ⟨w,h,rfl⟩,beq_self_eq_true w⟩
 have e3:HR (.str w) (.list (sl l))=if _=true then some _ else none:=rfl
 unfold inD;rw[e3,e1,e2];rfl
theorem y4{k n j:Nat}(h:L[k]? = some (ns j))(hn:n<=100)(hj:j<n):eR C [.tp 0,.d (.int (n:Int))] (TW C t0 L (k:Int) b)=some (.int (j:Int),TW C t0 L ((k:Int)+1) b):=by
 have a:=fh (C:=C) (t0:=t0) (b:=b) h;have r:=dE (j:=(n:Int)) (by omega) (by omega)
 have c:=dv (e:=Zu gu (af (aa 0) ai)) (ρ:=[some (.tp 0),some (.d (.int (n:Int))),none,none]) (T:=TW C t0 L (k:Int) b) (g:=fun d=>match d with | .int i=>.str (mk (nc i))|_=>.none) (ds:=bh 0 n) fun d hd=>by
  obtain⟨i,hi,rfl⟩:=Oj.mp hd
  simp_all
  have z:=mX (i:=(0:Int)+(i:Int)) (er (by omega) (by omega))<;>simp_all
 have m:(bh 0 n).map (fun d=>match d with | .int i=>.str (mk (nc i))|_=>VM)=sl ((OQ n).map ns):=by
  unfold sl bh;simp[ns]
 rw[m] at c;have i1:=in_sl (w:=ns j)  (Oj.mpr ⟨j,Rt.mpr hj,rfl⟩);have i2:=zkb (n:=n) (j:=j) (by omega) hj;have i3:=kL ((OQ n).map ns);simp[eR,bj,Y7,r,c,a,i1,n6,lZ,oW,i3,i2]
theorem eZ{p:Nat}{w:Str}{r:List Str}(h:L.drop p=w::r):L[p]? = some w/\L.drop (p+1)=r:=by
 have h1:(L.drop p)[0]? = some w:=by rw[h];rfl
 have h2:(L.drop p).tail=r:=by rw[h];rfl
 exact⟨by simpa using h1,by rw[←h2,List.tail_drop]⟩
def zw(C:Addr)(k:Nat)(m a:Int)(c:Nat)(ws:List Str)(e:NN):Prop:=∀(t0:List NN) (L:List Str) (p b:Nat) (post:List Str),b+c<=60->L.drop p=ws++post->bQ C k [.tp 0,.d (.int a),.d (.int m)] (TW C t0 L (p:Int) (b:Int))=some (e,TW C t0 L ((p+ws.length:Nat):Int) ((b+c:Nat):Int))
theorem um{k:Nat}{m a:Int}{o1:Option D.W}{f:NN->Nat×List Str}{post:List Str}:∀(es ds:List NN) (p b:Nat),ds.length=es.length->(∀e∈es,zw C k m a (f e).1 (f e).2 e)->L.drop p=(es.map fun e=>(f e).2).flatten++post->b+(es.map fun e=>(f e).1).sum<=60 ->
  bE bx (av (bQ C k) (af (aa 1) (af (aa 3) (af (aa 4) ai)))) [some (.tp 0),o1,some (.d (.int a)),some (.d (.int m))] ds (TW C t0 L (p:Int) (b:Int))=some (es,TW C t0 L ((p+(es.map fun e=>(f e).2).flatten.length:Nat):Int) ((b+(es.map fun e=>(f e).1).sum:Nat):Int))
 |[],[],p,b,_,_,_,_=>by simp[bE]
 |[],_::_,_,_,h,_,_,_=>by cases h
 |_::_,[],_,_,h,_,_,_=>by cases h
 |e::es,d::ds,p,b,hl,hr,hd,hb=>by
  have h0:=hr e NZ;simp only[OJ,P8,RT,QY] at hd hb ⊢;have r0:=h0 t0 L p b _ (by omega) hd
  have EZ:L.drop (p+(f e).2.length)=(es.map fun e=>(f e).2).flatten++post:=by
   rw[←Q4,hd,RF]
  have ih:=um (k:=k) (m:=m) (a:=a) (o1:=o1) (f:=f) (post:=post) es ds _ (b+(f e).1) (by simpa using hl) (fun x hx=>hr x (NV _ hx)) EZ (by omega)
  have e1:p+((f e).2++(es.map fun e=>(f e).2).flatten).length=p+(f e).2.length+(es.map fun e=>(f e).2).flatten.length:=by grind
  have e2:b+((f e).1+(es.map fun e=>(f e).1).sum)=b+(f e).1+(es.map fun e=>(f e).1).sum:=by omega
  rw[e1,e2]
  simp_all
  simp[bE,r0,ih]
theorem wK{k:Nat}{m a:Int}{f:NN->Nat×List Str}{post:List Str}{es:List NN}{p b:Nat}(hl:es.length<=8)(hr:∀e∈es,zw C k m a (f e).1 (f e).2 e)(hd:L.drop p=(es.map fun e=>(f e).2).flatten++post)(hb:b+(es.map fun e=>(f e).1).sum<=60) :
  gG C (k+1) [.tp 0,.d (.int (es.length:Int)),.d (.int a),.d (.int m)] (TW C t0 L (p:Int) (b:Int))=some (.tuple es,TW C t0 L ((p+(es.map fun e=>(f e).2).flatten.length:Nat):Int) ((b+(es.map fun e=>(f e).1).sum:Nat):Int)):=by
 have c:=um  (t0:=t0) (o1:=some (.d (.int (es.length))))  es _ p b (qa _) hr hd hb;have r:=dE (j:=(es.length)) (by omega) (by omega);simp[gG,r,c]
end
theorem zkc(a b:List Str):sl a++sl b=sl (a++b):=by simp[sl]
theorem oJ(h:n<=100000):n<=sizeLine:=Oc h (by decide)
theorem zkd:Yr (a::r) 0=some a:=by simp[Yr,Jf]
theorem rS:cu (a::r) (some 1) none=r:=by
 have e:cu (a::r) (some ((1:Nat))) none=r:=by
  unfold cu;rw[HT.ztp,HT.ztq];simp
 exact e
theorem qp:∀(n k:Nat) (d:NN) (T:Tp),aJ n d=true->aP n d<=40->n<k->dq k [.d d] T=some (.str (mk (cst n d)),T)
 |n,0,d,T,h,hm,hk=>absurd hk (PR _)
 |n,k+1,d,T,h,hm,hk=>by
  have q1:=lit (s:="'") (l:=[39]) (by decide +kernel);have q2:=lit (s:="(") (l:=[40]) (by decide +kernel);have q3:=lit (s:=")") (l:=[41]) (by decide +kernel);have q4:=lit (s:=",") (l:=[44]) (by decide +kernel)
  rcases f7 h with h1|⟨m,ds,rfl,rfl,h8,hb⟩
  .rcases ju h1 with⟨i,rfl⟩|⟨x,rfl⟩
   .simp[dq,zjm,zjn,mX h1,nh]
   .have e:mk [39]++x=mk (39::cd x):=by rw[←yw x,rh,dm];rfl
    have l:(mk [39]).length+x.length<=sizeLine:=qr (by rw[di];have:=str_len (n:=0) h1;simp;omega);simp[dq,m9,zjl,lq,q1,l,e]
  .obtain⟨l1,l2⟩:=zjo hm hb
   have c:=dv (e:=av (dq k) (af (aa 0) ai)) (ρ:=[some (.d (.tuple ds))]) (T:=T) (g:=fun d=>.str (mk (cst m d))) (ds:=ds) fun d hd=>by
    have:=qp m k d T (hb d hd) (Int.le_trans (zji hd) hm) (by omega);simp[this]
   have j:=ziy (z:=mk [44]) (tR (fun d=>mk (cst m d)) ds);rw[zjj,zjk,OY,di] at j;rw[if_pos (by simp;omega)] at j;have a1:(mk [40]).length+(mk (bb [44] (ds.map (cst m)))).length<=sizeLine:=qr (by rw[di,di];simp;omega);have a2:(mk (40::bb [44] (ds.map (cst m)))).length+(mk [41]).length<=sizeLine:=qr (by rw[di,di];simp;omega)
   have e1:mk [40]++mk (bb [44] (ds.map (cst m)))=mk (40::bb [44] (ds.map (cst m))):=by rw[rh];rfl
   have e2:mk (40::bb [44] (ds.map (cst m)))++mk [41]=mk (cst (m+1) (.tuple ds)):=by rw[rh];rfl
   simp[dq,lj,q2,q3,q4,c,j,a1,a2,e1,e2]
theorem si:inD (.str (NM x)) (.tuple [.str "got",.str "fail"])=some (.bool (decide (x="got")||decide (x="fail"))):=by
 have e:inD (.str (NM x)) (.tuple [.str "got",.str "fail"])=some (.bool (ID _ _||(ID _ _||false))):=rfl
 have f:∀a b ,ID (.str (NM a)) (.str (NM b))=decide _:=fun a b=>by
  rw[PQ];simp[ID];exact⟨fun h=>h.symm,fun h=>h.symm⟩
 rw[e,f,f,UN]
theorem zke(h:dq 25 [.d v] T=some (.str x,T)):cw (k+1) [.d (.tuple [.str "put",v])] T=some (.list (sl [NM "put",x]),T):=by simp[cw,h,sl,gB,gA]
theorem vY(hw:w="got"\/w="fail")(h:jg [v]=some (.str x)):cw (k+1) [.d (.tuple [.str (NM w),v])] T=some (.list (sl [NM w,x]),T):=by rcases hw with rfl|rfl <;> simp[cw,h,sl,gB,gA,si]
theorem qe{mw:Yh}{e0:NN}{T:Tp}{o2:Option D.W}:∀(ps:List (NN×List Str)) (acc:List Str) (o3:Option D.W),(∀q∈ps,mw [.d q.1] T=some (.list (sl q.2),T))->acc.length+(ps.map (·.2)).flatten.length<=100000 ->
  ∃Au,forL 3 (lP 1 (aa 1) (av mw (af (aa 3) ai))) (ps.map (·.1)) [some (.d e0),some (.loc (.list (sl acc))),o2,o3] T=some ((.nx,[some (.d e0),some (.loc (.list (sl (acc++(ps.map (·.2)).flatten)))),o2,Au]),T)
 |[],acc,o3,_,_=>⟨o3,by simp[forL]⟩
 |q::ps,acc,o3,h,hl=>by
  simp only[OJ,P8,OS] at hl ⊢;have h0:=h q NZ;obtain⟨o',ih⟩:=qe (mw:=mw) (e0:=e0) (T:=T) (o2:=o2) ps (acc++q.2) (some (.d q.1)) (fun x hx=>h x (NV _ hx)) (by grind);refine⟨o',?_⟩
  have z:(sl acc).length+(sl q.2).length<=sizeLine:=by rw[gQ,gQ];exact oJ (by omega)
  have st:lP 1 (aa 1) (av mw (af (aa 3) ai)) [some (.d e0),some (.loc (.list (sl acc))),o2,some (.d q.1)] T=some ((.nx,[some (.d e0),some (.loc (.list (sl (acc++q.2)))),o2,some (.d q.1)]),T):=by
   unfold lP;simp[h0,rG,view,z,zkc]
  rw[forL]<;>simp_all
theorem vG{k:Nat}{T:Tp}{w:String}{ps:List (NN×List Str)}(hw:¬w="put"/\¬w="got"/\¬w="row"/\¬w="fail")(hr:∀q∈ps,cw k [.d q.1] T=some (.list (sl q.2),T))(hl:(ps.map (·.2)).flatten.length<=90000) :
  cw (k+1) [.d (.tuple (.str (NM w)::ps.map (·.1)))] T=some (.list (sl (NM w::(ps.map (·.2)).flatten)),T):=by
 obtain⟨n1,n2,n3,n4⟩:=hw;obtain⟨o3,lp⟩:=qe  (e0:=.tuple (.str (NM w)::ps.map (·.1))) (o2:=some (.d (.tuple (ps.map (·.1))))) ps [NM w] none hr (by grind);have e0:sl [NM w]=[.str _]:=rfl;rw[e0] at lp;unfold cw;simp[zkd,n1,n2,n3,n4,si,rS,lp]
theorem zkf(hw:¬w="put"/\¬w="got"/\¬w="row"/\¬w="fail")(hr:∀e∈es,cw k [.d e] T=some (.list (sl (f e)),T))(hl:(es.map f).flatten.length<=90000) :
  cw (k+1) [.d (.tuple (.str (NM w)::es))] T=some (.list (sl (NM w::(es.map f).flatten)),T):=by
 have e1:(es.map fun e=>(e,f e)).map (·.1)=es:=by rw[Pm];exact(OX fun _ _=>rfl).trans (Xi es)
 have e2:(es.map fun e=>(e,f e)).map (·.2)=es.map f:=by rw[Pm];rfl
 have:=vG    (ps:=es.map fun e=>(e,f e)) hw (fun q hq=>by obtain⟨e,he,rfl⟩:=Oj.mp hq;exact hr e he) (by rw[e2];exact hl)
 rw[e1,e2] at this<;>omega
theorem zkg(hx:jg [.int (es.length:Int)]=some (.str x))(hr:∀e∈es,cw k [.d e] T=some (.list (sl (f e)),T))(hl:(es.map f).flatten.length<=90000) :
  cw (k+1) [.d (.tuple [.str "row",.tuple es])] T=some (.list (sl (NM "row"::x::(es.map f).flatten)),T):=by
 have e1:(es.map fun e=>(e,f e)).map (·.1)=es:=by rw[Pm];exact(OX fun _ _=>rfl).trans (Xi es)
 have e2:(es.map fun e=>(e,f e)).map (·.2)=es.map f:=by rw[Pm];rfl
 obtain⟨o3,lp⟩:=qe  (T:=T) (e0:=.tuple [.str "row",.tuple es]) (o2:=some (.d (.tuple es))) (es.map fun e=>(e,f e)) [NM "row",x] none (fun q hq=>by obtain⟨e,he,rfl⟩:=Oj.mp hq;exact hr e he) (by rw[e2];simp only[Oo,R8];omega);rw[e1,e2] at lp;have e0:sl [NM "row",x]=[.str _,.str x]:=rfl;rw[e0] at lp
 have z:1<sizeLine:=by decide
 unfold cw;simp[gB,gA,si,hx,z,lp]
structure EX(C:Addr)(m:Int)(n c:Nat)(ws:List Str)(e:NN):Prop where
 n1:1<=n
 c1:1<=c
 c6:c<=60
 ln:ws.length<=2*c
 ne:ws≠[]
 ok:∀w∈ws,N3 (cd w)/\w.length<=1100
 lw:∀k T,n<k->cw k [.d e] T=some (.list (sl ws),T)
 rd:∀k a,2*n<=k->a+(n:Int)<=20->zw C k m a c ws e
 bt:aJ (2*n+5) e=true
def litOk(w:String):Bool:=(cd (NM w)).all (fun c=>decide (c<128/\c≠32))&&decide ((NM w).length<=1100)
theorem jQ(h:litOk w=true):N3 (cd (NM w))/\(NM w).length<=1100:=by
 unfold litOk at h;rw[NY] at h;exact⟨fun c hc=>of_decide_eq_true (Oq.mp h.1 c hc),of_decide_eq_true h.2⟩
theorem tI:∀(k n:Nat) (d:NN),aJ n d=true->aJ (n+k) d=true
 |0,_,_,h=>h
 |k+1,n,d,h=>by
  have:=(jJ _ d (tI k n d h)).1<;>omega
theorem gL{n m:Nat}{d:NN}(h:aJ n d=true)(l:n<=m):aJ m d=true:=by have:=tI (m-n) n d h<;>grind
theorem iM(hl:ds.length<=8)(h:∀d∈ds,aJ n d=true):aJ (n+1) (.tuple ds)=true:=by show (decide _&&ds.all _)=true<;>simp_all
theorem j4(h:single (.str (NM w))=true)(n:Nat):aJ n (.str (NM w))=true:=(cR h).1
theorem zkh:∀(ls:List (List Nat)),c∈bb [44] ls->c=44\/∃l∈ls,c∈l
 |[],h=>by cases h
 |x::r,h=>by
  rw[jB] at h
  rcases Oz.mp h with h|h
  .exact .inr ⟨x,NZ,h⟩
  .obtain⟨y,hy,hc⟩:=VD.mp h
   obtain⟨l,hl,rfl⟩:=Oj.mp hy
   rcases Oz.mp hc with z|z
   .exact .inl (Od.mp z)
   .exact .inr ⟨l,NV _ hl,z⟩
theorem pV:∀c∈cd Iz,c<128/\c≠32:=by decide +kernel
theorem vb:∀(n:Nat) (d:NN),aJ n d=true->N3 (cst n d)
 |n,d,h=>fun c z=>by
  rcases f7 h with h1|⟨m,ds,rfl,rfl,_,hd⟩
  .rcases ju h1 with⟨i,rfl⟩|⟨x,rfl⟩
   .rw[nh] at z
    have:=kT i c z;omega
   .rw[m9] at z
    have h2:(decide (x.length<=20)&&has Iz x)=true:=h1;rw[NY] at h2
    rcases N4.mp z with z|z
    .subst z;decide
    .exact pV c (of_decide_eq_true (Oq.mp h2.2 c z))
  .have e:cst (m+1) (.tuple ds)=40::(bb [44] (ds.map (cst m))++[41]):=rfl
   rw[e] at z
   rcases N4.mp z with z|z
   .subst z;decide
   .rcases Oz.mp z with z|z
    .rcases zkh _ z with z|⟨l,hl,hc⟩
     .subst z;decide
     .obtain⟨d,EZ,rfl⟩:=Oj.mp hl
      exact vb m d (hd d EZ) c hc
    .have:=Od.mp z
     subst this;decide
termination_by n=>n
theorem pY(h:aS v=true):N3 (cd (mk (cst 4 v)))/\(mk (cst 4 v)).length<=1100:=by
 obtain⟨hb,hm⟩:=ib h;have hl:=ng 4 v hb;refine⟨?_,by rw[di];omega⟩;exact vb 4 v hb
theorem yr(j:Nat)(h:j<=1000):N3 (cd (ns j))/\(ns j).length<=1100:=by
 have s:=kT (j);have l:=xw (i:=(j)) (er (by omega) (by omega));unfold ns;rw[dm,di];exact⟨fun c z=>by grind,by omega⟩
@[simp] theorem Jk{α:Type}{a:α}{r:List α}:Yr (a::r) 0=some a:=by simp[Yr,Jf]
@[simp] theorem yY{α:Type}{a b:α}{r:List α}:Yr (a::b::r) 1=some b:=nj (rfl)
@[simp] theorem NK{α:Type}{a b c:α}{r:List α}:Yr (a::b::c::r) 2=some c:=nj (rfl)
theorem fY:inD (.str (NM x)) (.tuple [.str "put",.str "got",.str "row"])=some (.bool (decide (x="put")||(decide (x="got")||decide (x="row")))):=by
 have e:inD (.str (NM x)) (.tuple [.str "put",.str "got",.str "row"])=some (.bool (ID _ _||(ID _ _||(ID _ _||false)))):=rfl
 have f:∀a b ,ID (.str (NM a)) (.str (NM b))=decide _:=fun a b=>by
  rw[PQ];simp[ID];exact⟨fun h=>h.symm,fun h=>h.symm⟩
 rw[e,f,f,f,UN]
section
variable {C:Addr}{m:Int}{n:Nat}
theorem fS(h1:p=p')(h2:b=b'):TW C t0 L p b=TW C t0 L p' b' :=by simp_all
theorem rB(hn:1<=n)(h:aS v=true):EX C m n 1 [NM "put",mk (cst 4 v)] (.tuple [.str "put",v]):=by
 obtain⟨hb,hm⟩:=ib h;have ls:∀T,dq 25 [.d v] T=some (.str (mk (cst 4 v)),T):=fun T=>qp 4 25 v T hb hm (by decide);refine⟨hn,by decide,by decide,by simp,by simp,fun w hw=>?_,fun k T hk=>?_,fun k a hk ha t0 L p b post hb hd=>?_,?_⟩
 .simp at hw
  rcases hw with rfl|rfl
  .exact jQ (by decide +kernel)
  .exact pY h
 .obtain⟨k,rfl⟩:=cO k (by omega)
  exact zke (ls T)
 .obtain⟨k,rfl⟩:=cO k (by omega)
  obtain⟨a0,d0⟩:=eZ (w:=NM "put") (r:=mk (cst 4 v)::post) hd;obtain⟨a1,_⟩:=eZ d0;have b1:=fh (C:=C) (t0:=t0) (b:=(b:Int)) a0;have b2:=eG (C:=C) (t0:=t0) (L:=L) (p:=(p:Int)) (b:=(b:Int)) (a:=a) (by omega) (by omega);have b3:=zjz (C:=C) (t0:=t0) (b:=(b:Int)+1) a1 h;simp only[QR,QO] at b3;have fin:TW C t0 L ((p + [NM "put",mk (cst 4 v)].length:Nat):Int) ((b+1:Nat):Int)=TW C t0 L ((p:Int)+1+1) ((b:Int)+1):=fS (by show ((p+2:Nat):Int)=_;omega) (by omega);rw[fin];simp[bQ,bj,Y7,b1,fY,b2,b3]
 .exact gL (iM (n:=4) (by simp) fun d hd=>by
   simp at hd
   rcases hd with rfl|rfl
   .exact j4 (by decide +kernel) 4
   .exact hb) (by omega)
theorem qR{j:Nat}(h:j<=1000):gu [.int (j:Int)]=some (.str (ns j)):=mX (er (by omega) (by omega))
theorem vt{j:Nat}(h:j<=1000):jg [.int (j:Int)]=some (.str (ns j)):=qR h
theorem zki{g j:Nat}(hn:1<=n)(hg:g<=12)(hj:j<g):EX C (g:Int) n 1 [NM "got",ns j] (.tuple [.str "got",.int (j:Int)]):=by
 have s1:=qR (j:=j) (by omega);have s2:=vt (j:=j) (by omega);refine⟨hn,by decide,by decide,by simp,by simp,fun w hw=>?_,fun k T hk=>?_,fun k a hk ha t0 L p b post hb hd=>?_,?_⟩
 .simp at hw
  rcases hw with rfl|rfl
  .exact jQ (by decide +kernel)
  .exact yr j (by omega)
 .obtain⟨k,rfl⟩:=cO k (by omega)
  exact vY (w:="got") (.inl rfl) s2
 .obtain⟨k,rfl⟩:=cO k (by omega)
  obtain⟨a0,d0⟩:=eZ (w:=NM "got") (r:=ns j::post) hd;obtain⟨a1,_⟩:=eZ d0;have b1:=fh (C:=C) (t0:=t0) (b:=(b:Int)) a0;have b2:=eG (C:=C) (t0:=t0) (L:=L) (p:=(p:Int)) (b:=(b:Int)) (a:=a) (by omega) (by omega);have b3:=y4 (C:=C) (t0:=t0) (b:=(b:Int)+1) (n:=g) a1 (by omega) hj;simp only[QR,QO] at b3;have fin:TW C t0 L ((p + [NM "got",ns j].length:Nat):Int) ((b+1:Nat):Int)=TW C t0 L ((p:Int)+1+1) ((b:Int)+1):=fS (by show ((p+2:Nat):Int)=_;omega) (by omega);rw[fin];simp[bQ,bj,Y7,b1,fY,b2,b3]
 .exact gL (iM (n:=0) (by simp) fun d hd=>by
   simp at hd
   rcases hd with rfl|rfl
   .exact j4 (by decide +kernel) 0
   .exact(cR (er (by omega) (by omega))).1) (by omega)
theorem rm{f:NN->Nat×List Str}:∀{es:List NN},(∀e∈es,(f e).2.length<=2*(f e).1)->(es.map fun e=>(f e).2).flatten.length<=2*(es.map fun e=>(f e).1).sum
 |[],_=>by simp
 |e::es,h=>by
  have:=rm  fun x hx=>h x (NV _ hx)<;>grind
theorem yP{f:NN->Nat×List Str}{P:Str->Prop}{es:List NN}(h:∀e∈es,∀w∈(f e).2,P w):∀w∈(es.map fun e=>(f e).2).flatten,P w :=by grind
theorem zkj{f:NN->Nat×List Str}{es:List NN}(hl:es.length<=8)(h:∀e∈es,EX C m n (f e).1 (f e).2 e)(hc:1+(es.map fun e=>(f e).1).sum<=60) :
  EX C m (n+1) (1+(es.map fun e=>(f e).1).sum) (NM "row"::ns es.length::(es.map fun e=>(f e).2).flatten) (.tuple [.str "row",.tuple es]):=by
 have fl:=rm (f:=f) (es:=es) fun e he=>(h e he).ln;have s1:=qR (j:=es.length) (by omega);have s2:=vt (j:=es.length) (by omega);refine⟨by omega,by omega,hc,by simp only[Oo];omega,by simp,fun w hw=>?_,fun k T hk=>?_,fun k a hk ha t0 L p b post hb hd=>?_,?_⟩
 .rcases N4.mp hw with rfl|hw
  .exact jQ (by decide +kernel)
  .rcases N4.mp hw with rfl|hw
   .exact yr _ (by omega)
   .exact yP (P:=fun w=>N3 (cd w)/\w.length<=1100) (fun e he=>(h e he).ok) w hw
 .obtain⟨k,rfl⟩:=cO k (by omega)
  exact zkg (f:=fun e=>(f e).2) s2 (fun e he=>(h e he).lw k T (by omega)) (by omega)
 .obtain⟨k,rfl⟩:∃j,k=j+2:=⟨k-2,by omega⟩
  obtain⟨a0,d0⟩:=eZ (w:=NM "row") (r:=ns es.length::((es.map fun e=>(f e).2).flatten++post)) hd;obtain⟨a1,d1⟩:=eZ d0;have b1:=fh (C:=C) (t0:=t0) (b:=(b:Int)) a0;have b2:=eG (C:=C) (t0:=t0) (L:=L) (p:=(p:Int)) (b:=(b:Int)) (a:=a) (by omega) (by omega);have b3:=y4 (C:=C) (t0:=t0) (b:=(b:Int)+1) (n:=9) a1 (by omega) (by omega);have b4:=wK (C:=C) (t0:=t0) (L:=L) (k:=k) (m:=m) (a:=a+1) (f:=f) (post:=post) (es:=es) (p:=p+2) (b:=b+1) hl (fun e he=>(h e he).rd k (a+1) (by omega) (by omega)) d1 (by omega);have e4:TW C t0 L ((p+2:Nat):Int) ((b+1:Nat):Int)=TW C t0 L ((p:Int)+1+1) ((b:Int)+1):=fS (by omega) (by omega);rw[e4] at b4;simp only[QR,QO] at b3;have fin:TW C t0 L ((p+(NM "row"::ns es.length::(es.map fun e=>(f e).2).flatten).length:Nat):Int) ((b+(1+(es.map fun e=>(f e).1).sum):Nat):Int)=TW C t0 L ((p+2+(es.map fun e=>(f e).2).flatten.length:Nat):Int) ((b+1+(es.map fun e=>(f e).1).sum:Nat):Int):=fS (by simp only[Oo];omega) (by omega);rw[fin];generalize TW C t0 L ((p+2+(es.map fun e=>(f e).2).flatten.length:Nat):Int) ((b+1+(es.map fun e=>(f e).1).sum:Nat):Int)=T9 at b4 ⊢;simp[bQ,bj,Y7,b1,fY,b2,b3,b4]
 .exact gL (iM (n:=2*n+6) (by simp) fun d hd=>by
   simp at hd
   rcases hd with rfl|rfl
   .exact j4 (by decide +kernel) _
   .exact iM hl fun e he=>(h e he).bt) (by omega)
end
def EY:List String:=["part","sum","join","same","less"]
def gD:List (Str×Int):=[("many",1),("part",2),("sum",2),("join",2),("same",2),("less",2)]
def Wide(w:String)(k:Nat):Prop:=(w="many"/\k=1)\/(w∈EY/\k=2)
theorem zkk{w:String}{k:Nat}(h:Wide w k):Zc gD (.str (NM w))=some (.bool true)/\D.atT gD (.str (NM w))=some (.int (k:Int)):=by
 rcases h with⟨rfl,rfl⟩|⟨hw,rfl⟩
 .simp[Zc,D.atT,gD]
 .simp[EY] at hw
  rcases hw with rfl|rfl|rfl|rfl|rfl <;> simp[Zc,D.atT,gD]
theorem zkl(h:Wide w k):¬w="put"/\¬w="got"/\¬w="row"/\¬w="fail":=by
 rcases h with⟨rfl,_⟩|⟨hw,_⟩
 .simp
 .simp[EY] at hw<;>grind
theorem zkm(h:Wide w k):litOk w=true/\single (.str (NM w))=true/\k<=2:=by
 have key:∀w∈"many"::EY,litOk w=true/\single (.str (NM w))=true:=by decide +kernel
 rcases h with⟨rfl,rfl⟩|⟨hw,rfl⟩<;>simp_all
section
variable {C:Addr}{m:Int}{n:Nat}
theorem wQ{w:String}{f:NN->Nat×List Str}{es:List NN}(hw:Wide w es.length)(h:∀e∈es,EX C m n (f e).1 (f e).2 e)(hc:1+(es.map fun e=>(f e).1).sum<=60) :
  EX C m (n+1) (1+(es.map fun e=>(f e).1).sum) (NM w::(es.map fun e=>(f e).2).flatten) (.tuple (.str (NM w)::es)):=by
 have fl:=rm (f:=f) (es:=es) fun e he=>(h e he).ln;obtain⟨n1,n2,n3,n4⟩:=zkl hw;obtain⟨t1,t2⟩:=zkk hw;obtain⟨l1,l2,l3⟩:=zkm hw;unfold gD at t1 t2;refine⟨by omega,by omega,hc,by simp only[Oo];omega,by simp,fun w hw=>?_,fun k T hk=>?_,fun k a hk ha t0 L p b post hb hd=>?_,?_⟩
 .rcases N4.mp hw with rfl|hw
  .exact jQ l1
  .exact yP (P:=fun w=>N3 (cd w)/\w.length<=1100) (fun e he=>(h e he).ok) w hw
 .obtain⟨k,rfl⟩:=cO k (by omega)
  exact zkf (f:=fun e=>(f e).2) ⟨n1,n2,n3,n4⟩ (fun e he=>(h e he).lw k T (by omega)) (by omega)
 .obtain⟨k,rfl⟩:∃j,k=j+2:=⟨k-2,by omega⟩
  obtain⟨a0,d0⟩:=eZ (w:=NM w) (r:=(es.map fun e=>(f e).2).flatten++post) hd;have b1:=fh (C:=C) (t0:=t0) (b:=(b:Int)) a0;have b2:=eG (C:=C) (t0:=t0) (L:=L) (p:=(p:Int)) (b:=(b:Int)) (a:=a) (by omega) (by omega);have b4:=wK (C:=C) (t0:=t0) (L:=L) (k:=k) (m:=m) (a:=a+1) (f:=f) (post:=post) (es:=es) (p:=p+1) (b:=b+1) (by omega) (fun e he=>(h e he).rd k (a+1) (by omega) (by omega)) d0 (by omega);have e4:TW C t0 L ((p+1:Nat):Int) ((b+1:Nat):Int)=TW C t0 L ((p:Int)+1) ((b:Int)+1):=fS (by omega) (by omega);rw[e4] at b4;have fin:TW C t0 L ((p+(NM w::(es.map fun e=>(f e).2).flatten).length:Nat):Int) ((b+(1+(es.map fun e=>(f e).1).sum):Nat):Int)=TW C t0 L ((p+1+(es.map fun e=>(f e).2).flatten.length:Nat):Int) ((b+1+(es.map fun e=>(f e).1).sum:Nat):Int):=fS (by simp only[Oo];omega) (by omega);rw[fin];have z:1+es.length<=sizeLine:=oJ (by omega);have z':es.length+1<=sizeLine:=oJ (by omega);generalize TW C t0 L ((p+1+(es.map fun e=>(f e).2).flatten.length:Nat):Int) ((b+1+(es.map fun e=>(f e).1).sum:Nat):Int)=T9 at b4 ⊢;simp[bQ,bj,Y7,b1,fY,n1,n2,n3,t1,t2,b2,b4,z,z']
 .exact gL (iM (n:=2*n+5) (by simp only[Oo];omega) fun d hd=>by
   rcases N4.mp hd with rfl|hd
   .exact j4 l2 _
   .exact(h d hd).bt) (by omega)
def EW(C:Addr)(m:Int)(n:Nat)(q:Int)(e:NN):Prop:=∃c ws,EX C m n c ws e/\(c:Int)<=q
theorem rY{q:Int}{es:List NN}(h:∀d∈es,EW C m n q d):∃f:NN->Nat×List Str,∀d∈es,EX C m n (f d).1 (f d).2 d/\((f d).1:Int)<=q:=by
 classical
 refine⟨fun d=>if h':d∈es then ((h d h').choose,(h d h').choose_spec.choose) else (0,[]),fun d hd=>?_⟩;simp only[dif_pos hd];exact(h d hd).choose_spec.choose_spec
theorem nE{f:NN->Nat×List Str}{q:Int}:∀{l:List NN},(∀d∈l,((f d).1:Int)<=q)->(((l.map fun d=>(f d).1).sum:Nat):Int)<=l.length*q
 |[],_=>by simp
 |d::l,h=>by
  have h2:=h d NZ;have i1:=nE  fun x hx=>h x (NV _ hx)
  simp <;>grind
theorem zkn{q Q:Int}{es:List NN}(hl:es.length<=8)(h:∀d∈es,EW C m n q d)(hQ:es.length*q+1<=Q)(Et:Q<=60):EW C m (n+1) Q (.tuple [.str "row",.tuple es]):=by
 obtain⟨f,hf⟩:=rY h;have s:=nE    fun d hd=>(hf d hd).2;exact⟨_,_,zkj hl (fun d hd=>(hf d hd).1) (by omega),by omega⟩
theorem zko(h:EW C m n q e)(hQ:q+1<=Q)(Et:Q<=60):EW C m (n+1) Q (.tuple [.str "many",e]):=by
 obtain⟨f,hf⟩:=rY  fun d hd=>by rw[Od.mp hd];exact h
 have s:=nE    fun d hd=>(hf d hd).2;simp only[Oo,R8] at s;exact⟨_,_,wQ   (.inl ⟨rfl,rfl⟩) (fun d hd=>(hf d hd).1) (by omega),by omega⟩
theorem zkp(hw:w∈EY)(ha:EW C m n q a)(hb:EW C m n q b)(hQ:q+q+1<=Q)(Et:Q<=60):EW C m (n+1) Q (.tuple [.str (NM w),a,b]):=by
 obtain⟨f,hf⟩:=rY (es:=[a,b]) fun d hd=>by
  simp at hd
  rcases hd with rfl|rfl
  .exact ha
  .exact hb
 have s:=nE    fun d hd=>(hf d hd).2;simp only[Oo,R8] at s;exact⟨_,_,wQ   (.inr ⟨hw,rfl⟩) (fun d hd=>(hf d hd).1) (by omega),by omega⟩
end
variable {R:Tp}{C:Addr}
theorem zkq:cu (a::b::r) (some 2) none=r:=by
 have e:cu (a::b::r) (some ((2:Nat))) none=r:=by
  unfold cu;rw[HT.ztp,HT.ztq];simp
 exact e
def RdR(C:Addr)(k:Nat)(g:Nat)(a:Int)(c:Nat)(ws:List Str)(r:NN):Prop:=∀(t0:List NN) (L:List Str) (p b:Nat) (post:List Str),b+c<=60->L.drop p=ws++post->bB C k [.tp 0,.d (.int a),.d (.int (g:Int))] (TW C t0 L (p:Int) (b:Int))=some (r,TW C t0 L ((p+ws.length:Nat):Int) ((b+c:Nat):Int))
section
variable {C:Addr}{t0:List NN}{L:List Str}
theorem tE{k g:Nat}{a:Int}{o3 o4 o5:Option D.W}{post:List Str}:∀(qs:List (NN×Nat×List Str)) (ds:List NN) (p b:Nat),ds.length=qs.length->(∀q∈qs,RdR C k g (a+1) q.2.1 q.2.2 q.1)->L.drop p=(qs.map (·.2.2)).flatten++post->b+(qs.map (·.2.1)).sum<=60 ->
  bE bx (av (bB C k) (af (aa 1) (af (ah az (aa 2) (fC (.int 1))) (af (aa 6) ai)))) [some (.tp 0),some (.d (.int a)),o3,o4,o5,some (.d (.int (g:Int)))] ds (TW C t0 L (p:Int) (b:Int))=some (qs.map (·.1),TW C t0 L ((p+(qs.map (·.2.2)).flatten.length:Nat):Int) ((b+(qs.map (·.2.1)).sum:Nat):Int))
 |[],[],p,b,_,_,_,_=>by simp[bE]
 |[],_::_,_,_,h,_,_,_=>by cases h
 |_::_,[],_,_,h,_,_,_=>by cases h
 |q::qs,d::ds,p,b,hl,hr,hd,hb=>by
  have h0:=hr q NZ;simp only[OJ,P8,RT,QY] at hd hb ⊢;have r0:=h0 t0 L p b _ (by omega) hd
  have EZ:L.drop (p+q.2.2.length)=(qs.map (·.2.2)).flatten++post:=by
   rw[←Q4,hd,RF]
  have ih:=tE (k:=k) (g:=g) (a:=a) (o3:=o3) (o4:=o4) (o5:=o5) (post:=post) qs ds _ (b+q.2.1) (by simpa using hl) (fun x hx=>hr x (NV _ hx)) EZ (by omega)
  have e1:p+(q.2.2++(qs.map (·.2.2)).flatten).length=p+q.2.2.length+(qs.map (·.2.2)).flatten.length:=by grind
  have e2:b+(q.2.1+(qs.map (·.2.1)).sum)=b+q.2.1+(qs.map (·.2.1)).sum:=by omega
  rw[e1,e2]
  simp_all
  simp[bE,r0,ih]
end
theorem dQ:inD (.str (NM x)) (.tuple [.str "want",.str "peek"])=some (.bool (decide (x="want")||decide (x="peek"))):=by
 have e:inD (.str (NM x)) (.tuple [.str "want",.str "peek"])=some (.bool (ID _ _||(ID _ _||false))):=rfl
 have f:∀a b ,ID (.str (NM a)) (.str (NM b))=decide _:=fun a b=>by
  rw[PQ];simp[ID];exact⟨fun h=>h.symm,fun h=>h.symm⟩
 rw[e,f,f,UN]
structure RX(C:Addr)(g n c:Nat)(ws:List Str)(r:NN):Prop where
 n1:1<=n
 c1:1<=c
 c6:c<=60
 ln:ws.length<=2*c
 ne:ws≠[]
 ok:∀w∈ws,N3 (cd w)/\w.length<=1100
 lw:∀k T,n<k->cw k [.d r] T=some (.list (sl ws),T)
 rd:∀k a,n<=k->a+(n:Int)<=20->RdR C k g a c ws r
 bt:aJ (2*n+6) r=true
section
variable {C:Addr}{g n:Nat}
theorem kU(h:isName (.str x)=true):N3 (cd x)/\x.length<=1100:=by
 have h':(decide _&&decide _&&has ZV x)=true:=h;rw[NY,NY] at h';have l8:=of_decide_eq_true h'.1.2
 have no:∀c∈cd ZV,c<128/\c≠32:=by decide +kernel
 exact⟨fun c z=>no c (of_decide_eq_true (Oq.mp h'.2 c z)),by omega⟩
def cC:List (Str×Int):=[("say",0),("fail",0),("want",1),("peek",1),("when",2)]
theorem zkr(hn:1<=n)(hg:g<=12)(h:isName (.str x)=true):RX C g n 1 [NM "fail",x] (.tuple [.str "fail",.str x]):=by
 refine⟨hn,by decide,by decide,by simp,by simp,fun w hw=>?_,fun k T hk=>?_,fun k a hk ha t0 L p b post hb hd=>?_,?_⟩
 .simp at hw
  rcases hw with rfl|rfl
  .exact jQ (by decide +kernel)
  .exact kU h
 .obtain⟨k,rfl⟩:=cO k (by omega)
  exact vY (w:="fail") (.inr rfl) rfl
 .obtain⟨k,rfl⟩:=cO k (by omega)
  obtain⟨a0,d0⟩:=eZ (w:=NM "fail") (r:=x::post) hd;obtain⟨a1,_⟩:=eZ d0;have b1:=fh (C:=C) (t0:=t0) (b:=(b:Int)) a0;have b2:=eG (C:=C) (t0:=t0) (L:=L) (p:=(p:Int)) (b:=(b:Int)) (a:=a) (by omega) (by omega);have b3:=zjy (C:=C) (t0:=t0) (b:=(b:Int)+1) a1 h;simp only[QR,QO] at b3;have fin:TW C t0 L ((p + [NM "fail",x].length:Nat):Int) ((b+1:Nat):Int)=TW C t0 L ((p:Int)+1+1) ((b:Int)+1):=fS (by show ((p+2:Nat):Int)=_;omega) (by omega);rw[fin];simp[bB,bj,Y7,b1,Zc,dQ,b2,b3]
 .exact gL (iM (n:=0) (by simp) fun d hd=>by
   simp at hd
   rcases hd with rfl|rfl
   .exact j4 (by decide +kernel) 0
   .exact(cR (pf h)).1) (by omega)
theorem nk{w:String}{e:NN}{ce:Nat}{we:List Str}{qs:List (NN×Nat×List Str)}{g':Nat}(hw:¬w="put"/\¬w="got"/\¬w="row"/\¬w="fail")(IF:litOk w=true/\single (.str (NM w))=true)(hq:qs.length<=2)
  (HA:Zc cC (.str (NM w))=some (.bool true)) (JN:D.atT cC (.str (NM w))=some (.int (qs.length:Int))) (DD:(w="want"\/w="peek")->g<12) (EV:g'=if w="want"\/w="peek" then g+1 else g) (hn20:n<=12)
  (he:EX C (g:Int) n ce we e) (hr:∀q∈qs,RX C g' n q.2.1 q.2.2 q.1) (hc:1+ce+(qs.map (·.2.1)).sum<=60) :
  RX C g (n+1) (1+ce+(qs.map (·.2.1)).sum) (NM w::(we++(qs.map (·.2.2)).flatten)) (.tuple (.str (NM w)::e::qs.map (·.1))):=by
 obtain⟨n1,n2,n3,n4⟩:=hw
 have fl:(qs.map (·.2.2)).flatten.length<=2*(qs.map (·.2.1)).sum:=by
  clear JN hq hc
  induction qs with
  |nil=>simp
  |cons q qs ih=>
   have h0:=(hr q NZ).ln;have:=ih fun x hx=>hr x (NV _ hx);simp only[OJ,P8,RT,OS];omega
 have hel:=he.ln;refine⟨by omega,by omega,hc,by simp only[Oo,OS];omega,by simp,fun u hu=>?_,fun k T hk=>?_,fun k a hk ha t0 L p b post hb hd=>?_,?_⟩
 .rcases N4.mp hu with rfl|hu
  .exact jQ IF.1
  .rcases Oz.mp hu with hu|hu
   .exact he.ok u hu
   .obtain⟨l,hl,hu'⟩:=VD.mp hu
    obtain⟨q,hq',rfl⟩:=Oj.mp hl;exact(hr q hq').ok u hu'
 .obtain⟨k,rfl⟩:=cO k (by omega)
  have:=vG (k:=k) (T:=T) (w:=w) (ps:=(e,we)::qs.map fun q=>(q.1,q.2.2)) ⟨n1,n2,n3,n4⟩ (fun q hq'=>by
   rcases N4.mp hq' with rfl|hq'
   .exact he.lw k T (by omega)
   .obtain⟨q',h1,rfl⟩:=Oj.mp hq'
    exact(hr q' h1).lw k T (by omega)) (by simp only[OJ,Pm,P8,OS];show we.length+(qs.map (·.2.2)).flatten.length<=90000;omega)
  simp only[OJ,Pm,P8] at this;exact this
 .obtain⟨k,rfl⟩:=cO k (by omega)
  have Ep:L.drop p=NM w::(we++((qs.map (·.2.2)).flatten++post)):=by rw[hd];simp
  obtain⟨a0,d0⟩:=eZ Ep;have b1:=fh (C:=C) (t0:=t0) (b:=(b:Int)) a0;have b2:=eG (C:=C) (t0:=t0) (L:=L) (p:=(p:Int)) (b:=(b:Int)) (a:=a) (by omega) (by omega);have b3:=he.rd 25 (a+1) (by omega) (by omega) t0 L (p+1) (b+1) _ (by omega) d0;have e3:TW C t0 L ((p+1:Nat):Int) ((b+1:Nat):Int)=TW C t0 L ((p:Int)+1) ((b:Int)+1):=fS (by omega) (by omega);rw[e3] at b3
  have d1:L.drop (p+1+we.length)=(qs.map (·.2.2)).flatten++post:=by rw[←Q4,d0,RF]
  have b4:=tE (C:=C) (t0:=t0) (L:=L) (k:=k) (g:=g') (a:=a) (o3:=some (.d (.int (g:Int)))) (o4:=some (.d (.str (NM w)))) (o5:=some (.d e)) (post:=post) qs (bh 0 qs.length) (p+1+we.length) (b+1+ce) (qa _) (fun q hq'=>(hr q hq').rd k (a+1) (by omega) (by omega)) d1 (by omega);have r:=dE (j:=(qs.length:Int)) (by omega) (by omega);have fin:TW C t0 L ((p+(NM w::(we++(qs.map (·.2.2)).flatten)).length:Nat):Int) ((b+(1+ce+(qs.map (·.2.1)).sum):Nat):Int)=TW C t0 L ((p+1+we.length+(qs.map (·.2.2)).flatten.length:Nat):Int) ((b+1+ce+(qs.map (·.2.1)).sum:Nat):Int):=fS (by simp only[Oo,OS];omega) (by omega);rw[fin];have z:2+(qs.map (·.1)).length<=sizeLine:=oJ (by rw[OY];omega);rw[OY] at z;unfold cC at HA JN
  have gb:∀T,eV [.d (.str (NM w)),.d (.int (g:Int))] T=some (.int (g':Int),T):=fun T=>by
   by_cases hq:w="want"\/w="peek"
   .rw[if_pos hq] at EV
    have e2:((g':Nat):Int)=(g:Int)+1:=by omega
    rw[e2]
    rcases hq with rfl|rfl <;> simp[eV,dQ]
   .rw[if_neg hq] at EV
    rw[EV];obtain⟨q1,q2⟩:=not_or.mp hq;simp[eV,dQ,q1,q2]
  have ft:∀T:Tp,(if (decide (w="want")||decide (w="peek"))=true then decide ((g:Int)=12) else false)=false:=fun _=>by
   split
   .rename_i hq
    have:w="want"\/w="peek":=by simpa using hq
    have:=DD this;exact decide_eq_false (by omega)
   .rfl
  generalize TW C t0 L ((p+1+we.length+(qs.map (·.2.2)).flatten.length:Nat):Int) ((b+1+ce+(qs.map (·.2.1)).sum:Nat):Int)=T9 at b4 ⊢;generalize TW C t0 L ((p+1+we.length:Nat):Int) ((b+1+ce:Nat):Int)=T8 at b3 b4
  by_cases hq:w="want"\/w="peek"
  .have g12:¬(g:Int)=12:=by have:=DD hq;omega
   generalize (g:Int)=G at *
   rcases hq with rfl|rfl <;> simp[bB,bj,Y7,b1,HA,dQ,g12,b2,b3,gb,JN,r,b4,z]
  .obtain⟨q1,q2⟩:=not_or.mp hq
   generalize (g:Int)=G at *;simp[bB,bj,Y7,b1,HA,dQ,q1,q2,n4,b2,b3,gb,JN,r,b4,z]
 .exact gL (iM (n:=2*n+6) (by simp only[Oo,OY];omega) fun d hd=>by
   rcases N4.mp hd with rfl|hd
   .exact j4 IF.2 _
   .rcases N4.mp hd with rfl|hd
    .exact gL he.bt (by omega)
    .obtain⟨q,hq',rfl⟩:=Oj.mp hd
     exact(hr q hq').bt) (by omega)
end
variable {R:Tp}{C:Addr}
def RW(C:Addr)(g n:Nat)(q:Int)(r:NN):Prop:=∃c ws,RX C g n c ws r/\(c:Int)<=q
theorem yf{g n:Nat}{q Q:Int}{e:NN}(hn:n<=12)(h:EW C (g:Int) n q e)(hQ:q+1<=Q)(Et:Q<=60):RW C g (n+1) Q (.tuple [.str "say",e]):=by
 obtain⟨c,ws,h1,h2⟩:=h;exact⟨_,_,nk  (qs:=[]) (g':=g) (by simp) (by decide +kernel) (by simp) (by simp[Zc,cC]) (by simp[D.atT,cC]) (by simp) (by simp) hn h1 (fun q hq=>by cases hq) (by grind),by simp;omega⟩
theorem zks{g n c:Nat}{ws:List Str}{q Q:Int}{w:String}{e r:NN}(hn:n<=12)(hw:w="want"\/w="peek")(hg:g<12)(h:EX C (g:Int) n c ws e)(hr:RW C (g+1) n q r)(hQ:1+(c:Int)+q<=Q)(Et:Q<=60):RW C g (n+1) Q (.tuple [.str (NM w),e,r]):=by
 obtain⟨d,us,h1,h2⟩:=hr
 have a1:¬w="put"/\¬w="got"/\¬w="row"/\¬w="fail":=by rcases hw with rfl|rfl <;> simp
 have a2:litOk w=true/\single (.str (NM w))=true:=by rcases hw with rfl|rfl <;> decide +kernel
 have a3:Zc cC (.str (NM w))=some (.bool true):=by rcases hw with rfl|rfl <;> simp[Zc,cC]
 have a4:D.atT cC (.str (NM w))=some (.int (([(r,d,us)]).length:Int)):=by rcases hw with rfl|rfl <;> simp[D.atT,cC]
 exact⟨_,_,nk (w:=w)   a1 a2 (by simp) a3 a4 (fun _=>hg) (by rw[if_pos hw]) hn h (fun q hq=>by simp_all) (by simp;omega),by simp;omega⟩
theorem zkt{g n c:Nat}{ws:List Str}{q Q:Int}{e r s:NN}(hn:n<=12)(h:EX C (g:Int) n c ws e)(hr:RW C g n q r)(hs:RW C g n q s)(hQ:1+(c:Int)+q+q<=Q)(Et:Q<=60):RW C g (n+1) Q (.tuple [.str "when",e,r,s]):=by
 obtain⟨d,us,h1,h2⟩:=hr;obtain⟨f,vs,h3,h4⟩:=hs
 exact⟨_,_,nk  (qs:=[(r,d,us),(s,f,vs)]) (g':=g) (by simp) (by decide +kernel) (by simp) (by simp[Zc,cC]) (by simp[D.atT,cC]) (by simp) (by simp) hn h (fun q hq=>by
  simp at hq
  rcases hq with rfl|rfl<;>omega) (by grind),by simp;omega⟩
theorem wD:∀ls:List (List Nat),(bb [32] ls).length<=(ls.map (·.length)).sum+ls.length
 |[]=>by simp[bb]
 |[x]=>by simp[bb]
 |x::y::r=>by
  have ih:=wD (y::r)
  have e:bb [32] (x::y::r)=x++[32]++bb [32] _:=rfl<;>grind
theorem xD{B:Nat}:∀{ws:List Str},(∀w∈ws,w.length<=B)->(ws.map (·.length)).sum<=B*ws.length
 |[],_=>by simp
 |w::ws,h=>by
  have:=xD  fun x hx=>h x (NV _ hx);have h0:=h w NZ;simp only[OJ,RT,Oo,Nat.mul_add];omega
theorem rT:cd BL=[32] :=rfl
theorem jG(ws:List Str):(Ob BL ws).length<=(ws.map (·.length)).sum+ws.length:=by
 have e:(Ob BL ws).length=(bb [32] (ws.map cd)).length:=by rw[←cM,fH,rT]
 have:=wD (ws.map cd);rw[e]
 have e2:((ws.map cd).map (·.length))=ws.map (·.length):=by
  rw[Pm];exact OX fun x _=>cM x
 rw[e2,OY] at this<;>omega
section
variable {C:Addr}{g n c:Nat}{ws:List Str}{r:NN}
theorem RX.len(h:RX C g n c ws r):(ws.map (·.length)).sum+ws.length<=200000:=by
 have a:=xD  fun w hw=>(h.ok w hw).2;have b:=h.ln
 have d:=h.c6<;>omega
theorem zku(hl:(ws.map (·.length)).sum+ws.length<=200000):jb (.str " ") (.list (sl ws))=some (.str (Ob BL ws)):=by
 have e:jb (.str _) (.list (sl ws))=(match dI _ with|some ys=>if (ys.map _).sum+ys.length*(NM " ").length<=16777216 then some _ else none|none=>none):=rfl
 have b:(NM " ").length=1:=by decide +kernel
 rw[e,kL,b];dsimp only;rw[Xj];exact if_pos (by omega)
theorem zkv(h:RX C g n c ws r)(hn:n<=20)(T:Tp):cw 25 [.d r] T=some (.list (sl ws),T)/\jb (.str " ") (.list (sl ws))=some (.str (Ob BL ws)):=⟨h.lw 25 T (by omega),zku h.len⟩
theorem wN{t0:List NN}(F7:ws≠[])(Hv:∀w∈ws,32∉cd w)(hl:(ws.map (·.length)).sum+ws.length<=250000):cI C [.tp 0,.d (.str (Ob BL ws))] [[bK C]]=some (.none,TW C t0 ws 0 0):=by
 have sp:dX (.str (Ob BL ws)) (.str " ")=some (.list (sl ws)):=by
  have jl:=jG ws;have z:(Ob BL ws).length+2<=sizeLine:=Oc (show _<=300000 by omega) (by decide)
  have b:((NM " ").length == 0)=false:=by decide +kernel
  have e:dX (.str (Ob BL ws)) (.str " ")=if _=false/\(Ob BL ws).length+2<=NX then some _ else none:=rfl
  rw[e,if_pos ⟨b,z⟩];have s:=sU F7 Hv;show some (Uh ((Qx (Ob BL ws) BL).map .str))=_;rw[s];rfl
 have s1:∀{ρ:XD},eL C "parted" ρ (.d (.list (sl ws))) (.tp 0) [[bK C]]=some ((.nx,ρ),[[bK C,.tuple [.str "parted",.list (sl ws)]]]):=by
  intro ρ;simp[eL,fm,iC,bK,gv]
 have s2:∀{ρ:XD},eL C "place" ρ (.d (.int 0)) (.tp 0) [[bK C,.tuple [.str "parted",.list (sl ws)]]]=some ((.nx,ρ),[[bK C,.tuple [.str "parted",.list (sl ws)],.tuple [.str "place",.int 0]]]):=by
  intro ρ;simp[eL,fm,iC,bK,gv]
 have s3:∀{ρ:XD},eL C "begun" ρ (.d (.int 0)) (.tp 0) [[bK C,.tuple [.str "parted",.list (sl ws)],.tuple [.str "place",.int 0]]]=some ((.nx,ρ),TW C t0 ws 0 0):=by
  intro ρ;simp[eL,fm,iC,bK,gv,jh]
 simp[cI,qj,sp,s1,s2,s3]
theorem zkw(h:RX C g n c ws r):cI C [.tp 0,.d (.str (Ob BL ws))] [[bK C]]=some (.none,TW C t0 ws 0 0):=wN h.ne (fun w hw=>(h.ok w hw).1.no) (Oc h.len (by decide))
theorem zkx{t0:List NN}(h:RX C 0 n c ws r)(hn:n<=20):hW C [.d (.str (Ob BL ws))] []=some (r,[]):=by
 have i:=zkw (t0:=t0) h;have rd:=h.rd 25 0 (by omega) (by omega) t0 ws 0 0 [] (by have:=h.c6;omega) (by simp);have e1:TW C t0 ws ((0:Nat):Int) ((0:Nat):Int)=TW C t0 ws 0 0:=rfl;rw[e1,RG,RG] at rd;have zV:bB C 25 [.tp 0,.d (.int 0),.d (.int 0)] (TW C t0 ws 0 0)=some (r,TW C t0 ws (ws.length:Int) (c:Int)):=rd;have f:=zjw (C:=C) (t0:=t0) (b:=(c:Int)) (L:=ws) (Of ws.length);have lt:gW (TW C t0 ws (ws.length:Int) (c:Int))=some ([],jh C ws (ws.length:Int) (c:Int)):=rfl
 have go:(BV C) [some (.d (.str (Ob BL ws))),some (.tp 0),none] (TW C t0 ws 0 0)=some ((.rt r,[some (.d (.str (Ob BL ws))),some (.tp 0),some (.d r)]),TW C t0 ws (ws.length:Int) (c:Int)):=by
  simp[BV,zV,bj,Y7,f]
 have mk1:gY 1 C (cI C) (aa 0) (BV C) [some (.d (.str (Ob BL ws))),none,none] []=some ((.rt r,[some (.d (.str (Ob BL ws))),some (.tp 0),some (.d r)]),[]):=by
  unfold gY;show FU 1 C (cI C) _ _ (.d (.str (Ob BL ws))) []=_;unfold FU;dsimp only;show (match cI C [.tp 0,.d (.str (Ob BL ws))] [[bK C]] with|some (.none,T2)=>i8 _|_=>none)=_;rw[i];show i8 (BV C [some (.d (.str (Ob BL ws))),some (.tp 0),none] (TW C t0 ws 0 0))=_;rw[go];unfold i8;dsimp only;rw[lt]
 have e0:hW C=aW 3 _:=rfl;rw[e0];simp[mk1]
end
theorem ie:gp (.int i) (.int j)=if 0<j/\j<18446744073709551616 then some (.int (i / j)) else none:=rfl
theorem qG(h:b (ρ.set i (some (.d d))) T=some ((.nx,ρ'),T)):forL i b (d::r) ρ T=forL i b r ρ' T:=by simp[forL,h]
def XG(ps:List Str):List PyData:=ps.map OE
theorem zky:isName (.str "name")=true :=rfl
def aY(A T:Tp):Prop:=∃(ds:List NN) (i:Int),T=A++[[.list ds,.int i]]/\0<=i/\0<ds.length/\ds.length<=1000/\∀d∈ds,∃c:Int,d=.int c
theorem zkz:Cz o (A++[.list zs::xs]) (.tp A.length) (.d y)=Fc (A++[.list zs::xs]) (o (.list (.list zs::xs)) y):=by
 have h:view (A++[.list zs::xs]) (.tp A.length)=some (.list (.list zs::xs)):=by simp
 unfold Cz;rw[h];rfl
theorem zla:Jf 2 1=some 1:=rfl
theorem g8{α:Type}{a b:α}:Yr [a,b] 0=some a:=rfl
theorem g7{α:Type}{a b:α}:Yr [a,b] 1=some b:=rfl
theorem bp{A T:Tp}{m:Int}(t:aY A T)(h1:0<m):∃r T',aQ [.tp A.length,.d (.int m)] T=some (.int r,T')/\aY A T'/\0<=r/\r<m:=by
 obtain⟨ds,i,rfl,hi,hl,Bv,hd⟩:=t
 have hp:(0:Int)<(ds.length:Int):=by omega
 obtain⟨d,e1,hm⟩:=eJ  (i:=i % _) (TK _ (by omega)) (Sx _ hp);obtain⟨c,rfl⟩:=hd d hm;refine⟨c % m,A++[[.list ds,.int (i+1)]],?_,⟨ds,i+1,rfl,by omega,hl,Bv,hd⟩,TK _ (by omega),Sx _ h1⟩
 have e2:=by omega
 simp[aQ,sj,zkz,g8,g7,zla,e2,hp,e1,h1,hl]
theorem yS:fA=aW 6 (aq (je 2 ai) (aq (aG 3 (fC (.int 0))) (aq (Ye (aH (ah Hk (aa 0) (ah ji (fC (.int 10)) (fC (.int 18))))) (aG 3 (aa 0)) aR) (aq (aG 4 (ah az (ah cU (aa 0) (fC (.int 2147483629))) (fC (.int 48271)))) (aq (iE 5 (cT (aa 1)) HG) (aB (aa 2))))))):=rfl
def GX(c N:Int)(fs:List NN)(nu mi:Int)(o:Option D.W):XD:=[some (.d (.int c)),some (.d (.int N)),some (.loc (.list fs)),some (.d (.int nu)),some (.d (.int mi)),o]
theorem mI:1000<sizeLine:=by decide
theorem xZ{c N:Int}{T:Tp}:∀(ks:List Int) (fs:List NN) (nu mi:Int) (o:Option D.W),-18446744073709551616<mi->mi<18446744073709551616->fs.length+ks.length<=1000->(∀d∈fs,∃c:Int,d=.int c) ->
  ∃B0 Ed Cb o',forL 5 HG (ks.map Qq) (GX c N fs nu mi o) T=some ((.nx,GX c N B0 Ed Cb o'),T)/\B0.length=fs.length+ks.length/\∀d∈B0,∃c:Int,d=.int c
 |[],fs,nu,mi,o,_,_,_,hf=>⟨fs,nu,mi,o,rfl,by simp,hf⟩
 |k::ks,fs,nu,mi,o,h1,h2,hl,hf=>by
  have hl':fs.length+(ks.length+1)<=1000:=hl;have bl:=mI
  have hl1:fs.length<sizeLine:=by omega
  have m2:0<=(mi*mi+48271*mi+7*k) % 2147483647/\(mi*mi+48271*mi+7*k) % 2147483647<2147483647:=⟨TK _ (by decide),Sx _ (by decide)⟩;generalize hmi:(mi*mi+48271*mi+7*k) % 2147483647=Cb at m2
  have ap:∀(x:Int),∀d∈fs++[Qq x],∃c:Int,d=.int c:=fun x d hd=>by
   rcases Oz.mp hd with z|z
   .exact hf d z
   .exact⟨x,Od.mp z⟩
  have GD:∃x Ed,HG (List.set (GX c N fs nu mi o) 5 (some (.d (.int k)))) T=some ((.nx,GX c N (fs++[.int x]) Ed Cb (some (.d (.int k)))),T):=by
   by_cases hn:0<nu
   .refine⟨nu % 720720,nu / 720720,?_⟩
    simp[HG,GX,ie,h1,h2,hn,hl1,hmi]
   .refine⟨(Cb * 69621+13*k) % 2147483629 / 3,nu,?_⟩
    simp[HG,GX,ie,h1,h2,hn,hl1,hmi]
  obtain⟨x,Ed,st⟩:=GD;obtain⟨B0,nu2,mi2,o2,e1,e2,e3⟩:=xZ (c:=c) (N:=N) (T:=T) ks (fs++[.int x]) Ed Cb (some (.d (.int k))) (by omega) (by omega) (by simp;omega) (ap x);refine⟨B0,nu2,mi2,o2,?_,by rw[e2];simp;omega,e3⟩;rw[OJ,qG st];exact e1
theorem zlb(n:Nat):bh 0 n=((OQ n).map fun(i:Nat)=>(i:Int)).map PyData.int:=by unfold bh<;>simp_all
theorem nr{c N:Int}{T:Tp}(h0:0<N)(h1:N<=1000):∃ds,fA [.d (.int c),.d (.int N)] T=some (.list ds,T)/\ds.length=N.toNat/\∀d∈ds,∃c:Int,d=.int c:=by
 have hr:=dE (j:=N) (by omega) h1
 have key:∀nu,∃ds o,forL 5 HG (bh 0 N.toNat) _ T=some ((.nx,o),T)/\(∃a b d e,o=GX c N ds a b d/\e=())/\ds.length=N.toNat/\∀d∈ds,∃c:Int,d=.int c:=fun nu=>by
  obtain⟨B0,nu2,mi2,o2,e1,e2,e3⟩:=xZ (c:=c) (N:=N) (T:=T) ((OQ N.toNat).map fun(i:Nat)=>(i:Int)) [] nu (c % 2147483629+48271) none (by omega) (by omega) (by simp;omega) (by simp);rw[←zlb] at e1;exact⟨B0,_,e1,⟨_,_,_,(),rfl,rfl⟩,by rw[e2];simp,e3⟩
 by_cases hc:1000000000000000000<=c
 .obtain⟨ds,o,e1,⟨a,b,d,e,rfl,_⟩,e3,e4⟩:=key c
  refine⟨ds,?_,e3,e4⟩;rw[yS];simp[GX] at e1;simp[hc,hr,e1]
 .obtain⟨ds,o,e1,⟨a,b,d,e,rfl,_⟩,e3,e4⟩:=key 0
  refine⟨ds,?_,e3,e4⟩;rw[yS];simp[GX] at e1;simp[hc,hr,e1]
theorem nz{A:Tp}{ds:List NN}(h0:0<ds.length)(h1:ds.length<=1000)(h:∀d∈ds,∃c:Int,d=.int c):aY A (A++[[.list ds,.int 0]]):=⟨ds,0,rfl,by decide,h0,h1,h⟩
theorem n8{ns:List Int}{k:Int}{T:Tp}(h:0<=k):∃c:Int,eS [.d (dh ns),.d (.int k)] T=some (.int c,T):=by
 by_cases hk:k<(ns.length)
 .obtain⟨d,e1,hm⟩:=eJ (xs:=ns.map Qq)  h (by simp_all)
  obtain⟨c,_,rfl⟩:=Oj.mp hm;exact⟨c,by simp[eS,dh,hk,e1]⟩
 .exact⟨0,by simp[eS,dh,hk]⟩
theorem kJ{α:Type}(xs:List α)(a:Nat):cu xs (some (a:Int)) none=xs.drop a:=by
 have e:HT.Yq xs.length 0 (some (a))=min a xs.length:=by
  show (if (a)<0 then ((a)+(xs.length:Int)).toNat else min _ _)=_;rw[if_neg (by omega)];simp
 have e2:HT.Yq xs.length _ none=xs.length:=rfl;unfold cu;rw[e,e2]
 by_cases h:a<=xs.length
 .rw[VY h]
  exact Pq (by simp)
 .rw[Nat.min_eq_right (by omega)]
  simp;omega
theorem ix{α:Type}(xs:List α)(a:Nat):cu xs none (some (a:Int))=xs.take a:=by
 have e:HT.Yq xs.length 0 none=0:=rfl
 have e2:HT.Yq xs.length xs.length (some (a))=min a xs.length:=by
  show (if (a)<0 then ((a)+(xs.length:Int)).toNat else min _ _)=_;rw[if_neg (by omega)];simp
 unfold cu<;>simp_all
def NW:List Str:=["told","made","say","want","wants","fails","put","got","row","peek","when","kind"].map NM
def jm(l:List Str):Bool:=decide l.Nodup&&l.all fun x=>isName (.str x)
def Fg(a:Nat):List Str:=NW.drop a++NW.take a
def lc(i:Nat):Str:=⟨#[97+i]⟩
def f1(a k:Nat):Str:=QF (lc (a+k / 8)) ((1+k % 8:Nat):Int)
def f2(a t k:Nat):Str:=QF (lc a) ((a % 7:Nat):Int)++lc ((a+k) % 26)++QF (lc a) (t:Int)
theorem zlc:∀a,a<12->jm (Fg a)=true/\(Fg a).length=12:=by decide +kernel
theorem zld:∀a,a<12->jm ((OQ 12).map (f1 a))=true:=by decide +kernel
theorem zle:∀a,a<12->∀t,t<8->t<8-a % 7->jm ((OQ 12).map (f2 a t))=true:=by decide +kernel
theorem zlf:∀i,i<26->ZV.cps.toList[i]? = some (97+i):=by decide +kernel
theorem nX(h0:0<=i)(h1:i<26):Yr ZV.cps.toList i=some (97+i.toNat):=by
 unfold Yr Jf;rw[zix,if_pos h0,if_pos h1];exact zlf _ (by omega)
theorem qA(m:Nat)(h:jm l=true):(l.take m).Nodup/\∀x∈l.take m,isName (.str x)=true:=by
 have h':=h;unfold jm at h';rw[NY] at h';exact⟨(of_decide_eq_true h'.1).sublist (RA ..),fun x hx=>Oq.mp h'.2 x (QA hx)⟩
theorem sY{β:Type}(f:Nat->β){m:Nat}(h:m<=12):(OQ m).map f=((OQ 12).map f).take m:=by rw[←Ri,List.take_range,VY h]
structure GY(l:List Str)(m:Nat):Prop where
 len:l.length=m
 nd:l.Nodup
 nm:∀x∈l,isName (.str x)=true
theorem qc(h:∀k:Nat,k<m->e (some (.d (.int (k:Int)))::ρ) T=some (.d (.str (f k)),T)):bE bx e ρ (bh 0 m) T=some (XG ((OQ m).map f),T):=by
 have c:=dv (e:=e) (ρ:=ρ) (T:=T) (g:=fun d=>match d with
  |.int k=>.str (f k.toNat)
  | d=>d) (ds:=bh 0 m) fun d hd=>by
   obtain⟨i,hi,rfl⟩:=Oj.mp hd<;>simp_all
 rw[c]
 unfold bh XG<;>simp_all
theorem zlg:∀a,a<12->(QF (lc a) ((a % 7:Nat):Int)).length<=100:=by decide +kernel
theorem zlh:∀a,a<12->∀k,k<12->(QF (lc a) ((a % 7:Nat):Int)++lc ((a+k) % 26)).length<=100:=by decide +kernel
theorem zli:∀a:Nat,a<12->∀s:Nat,s<8->(QF (lc a) (s:Int)).length<=100:=by decide +kernel
theorem lcl(i:Nat):(lc i).length=1:=rfl
theorem zlj{A T:Tp}{m:Nat}(t:aY A T)(h0:m<=12):∃l T',h9 [.tp A.length,.d (.int (m:Int))] T=some (.list (XG l),T')/\aY A T'/\GY l m:=by
 obtain⟨w,T1,e1,t1,w0,w1⟩:=bp (m:=4) t (by decide);obtain⟨a,T2,e2,t2,a0,a1⟩:=bp (m:=12) t1 (by decide);obtain⟨a,rfl⟩:∃j:Nat,a=(j:Int):=⟨a.toNat,by omega⟩
 have HE:a<12:=by omega
 have hr:=dE (j:=(m:Int)) (by omega) (by omega)
 by_cases c0:w=0
 .obtain⟨q1,q2⟩:=zlc a HE
  obtain⟨n1,n2⟩:=qA m q1;refine⟨(Fg a).take m,T2,?_,t2,⟨by rw[OZ,q2];omega,n1,n2⟩⟩
  have z:XG ((Fg a).take m)=((XG NW).drop a++(XG NW).take a).take m:=by
   simp[XG,Fg,Ri,SQ]
  have z2:(XG NW)=[.str "told",.str "made",.str "say",.str "want",.str "wants",.str "fails",.str "put",.str "got",.str "row",.str "peek",.str "when",.str "kind"]:=rfl;rw[z,z2]
  have lz:∀xs:List NN,xs.length=12->(xs.drop a).length+(xs.take a).length<=sizeLine:=fun xs h=>by
   have:=mI;simp[h];omega
  have lz':=lz [.str "told",.str "made",.str "say",.str "want",.str "wants",.str "fails",.str "put",.str "got",.str "row",.str "peek",.str "when",.str "kind"] rfl;simp only[h9,lT,Cs,mj,ml,if_true];simp[e1,e2,c0,kJ,ix,-OV,-OZ,lz']
 .by_cases c1:w=1
  .obtain⟨n1,n2⟩:=qA m (zld a HE)
   rw[←sY _ h0] at n1 n2;refine⟨(OQ m).map (f1 a),T2,?_,t2,⟨by simp,n1,n2⟩⟩
   have c:=qc (f:=f1 a) (e:=(ah bW (ah Zx (aa 3) (ah az (aa 5) (ah gp (aa 0) (fC (.int 8))))) (ah az (fC (.int 1)) (ah cU (aa 0) (fC (.int 8)))))) (ρ:=[some (.tp A.length),some (.d (.int (m:Int))),some (.d (.str ZV)),some (.d (.int w)),some (.d (.int (a:Int))),none,none]) (T:=T2) (m:=m) fun k hk=>by
    have x1:=nX (i:=(a:Int)+(k:Int) / 8) (by omega) (by omega)
    have x2:((a:Int)+(k:Int) / 8).toNat=a+k / 8:=by omega
    rw[x2] at x1
    have x3:(0:Int)<=1+(k:Int) % 8/\1+(k:Int) % 8<=2000:=by omega
    have x4:((1+k % 8:Nat):Int)=1+(k:Int) % 8:=by omega
    have x5:US (⟨#[97+(a+k / 8)]⟩:Str)<=1000:=by show 1<=1000;decide
    simp[x1,x3,mT,x5,f1,x4,lc,ie]
   have e0:NM "abcdefghijklmnopqrstuvwxyz"=ZV:=rfl;simp[h9,e0,e1,e2,c1,hr];rw[c1] at c;simp[c]
  .obtain⟨s,T3,e3,t3,s0,s1⟩:=bp (m:=8-(a:Int) % 7) t2 (by omega)
   obtain⟨s,rfl⟩:∃j:Nat,s=(j:Int):=⟨s.toNat,by omega⟩;obtain⟨n1,n2⟩:=qA m (zle a HE s (by omega) (by omega));rw[←sY _ h0] at n1 n2;refine⟨(OQ m).map (f2 a s),T3,?_,t3,⟨by simp,n1,n2⟩⟩;have bl:=mI;have la:=zlg a HE;have lb:=zli a HE s (by omega);have xa:=nX (i:=(a:Int)) (by omega) (by omega);rw[Int.toNat_natCast] at xa
   have z7:((a % 7:Nat):Int)=(a:Int) % 7:=by omega
   have xl:∀j,US (⟨#[97+j]⟩:Str)<=1000:=fun j=>by show 1<=1000;decide
   have c:=qc (f:=f2 a s) (e:=(ah az (ah az (ah bW (ah Zx (aa 3) (aa 5)) (ah cU (aa 5) (fC (.int 7)))) (ah Zx (aa 3) (ah cU (ah az (aa 5) (aa 0)) (fC (.int 26))))) (aa 7))) (ρ:=[some (.tp A.length),some (.d (.int (m:Int))),some (.d (.str ZV)),some (.d (.int w)),some (.d (.int (a:Int))),none,some (.d (.str (QF (lc a) (s:Int))))]) (T:=T3) (m:=m) fun k hk=>by
    have lk:=zlh a HE k (by omega);have x1:=nX (i:=((a:Int)+(k:Int)) % 26) (by omega) (by omega)
    have x2:(((a:Int)+(k:Int)) % 26).toNat=(a+k) % 26:=by omega
    rw[x2] at x1;rw[z7] at lk la
    have y1:(QF (lc a) ((a:Int) % 7)).length+(lc ((a+k) % 26)).length<=sizeLine:=by rw[lcl];omega
    have y2:(QF (lc a) ((a:Int) % 7)++lc ((a+k) % 26)).length+(QF (lc a) (s:Int)).length<=sizeLine:=by omega
    have x3:(0:Int)<=(a:Int) % 7/\(a:Int) % 7<=2000:=by omega
    simp only[lc] at y1 y2;simp only[f2,z7,lc];simp[xa,x1,x3,mT,xl,y1,y2]
   have e0:NM "abcdefghijklmnopqrstuvwxyz"=ZV:=rfl
   have x3:(0:Int)<=(s:Int)/\(s:Int)<=2000:=by omega
   simp only[lc] at c;simp[h9,e0,e1,e2,c0,c1,hr,e3,xa,mT,xl,x3];simp[c]
def mb:Nat->Int
 |0=>1
 |n+1=>1+3*mb n
theorem rj:∀n,1<=mb n
 |0=>by decide
 |n+1=>by
  have:=rj n;show 1<=1+3*mb n;omega
def VS:List PyData:=[.int 0,.int 1,.int (-1),.int 2,.int 1000000000000000000,.int (-1000000000000000000),.str "",.str "a",.str "0",.str "-",.str (QF "a" 20),.tuple []]
theorem zlk:∀d∈VS,∀n,aJ (n+1) d=true/\aP (n+1) d=1:=by
 intro d hd n;have tu:aJ (n+1) (.tuple [])=true/\aP (n+1) (.tuple [])=1:=⟨rfl,rfl⟩;simp[VS] at hd
 rcases hd with rfl|rfl|rfl|rfl|rfl|rfl|rfl|rfl|rfl|rfl|rfl|rfl
 .exact cR (er (by decide) (by decide))
 .exact cR (er (by decide) (by decide))
 .exact cR (er (by decide) (by decide))
 .exact cR (er (by decide) (by decide))
 .exact cR (er (by decide) (by decide))
 .exact cR (er (by decide) (by decide))
 .exact cR (by decide +kernel)
 .exact cR (by decide +kernel)
 .exact cR (by decide +kernel)
 .exact cR (by decide +kernel)
 .exact cR (by decide +kernel)
 .exact tu
theorem yt(h:GY l m)(h0:0<=i)(h1:i<(l.length:Int)):∃x,Yr (XG l) i=some (.str x)/\isName (.str x)=true:=by
 obtain⟨d,e,hm⟩:=eJ (xs:=XG l) h0 (by simpa[XG] using h1);obtain⟨x,hx,rfl⟩:=Oj.mp hm;exact⟨x,e,h.nm x hx⟩
theorem ij(l:List Str):(XG l).length=l.length:=by simp[XG]
theorem vi(hn:GY l m)(hm:0<m):∀(n k:Nat) (A T:Tp),aY A T->n<k->∃d T',cQ k [.tp A.length,.d (.list (XG l)),.d (.int (n:Int))] T=some (d,T')/\aY A T'/\aJ (n+1) d=true/\aP (n+1) d<=mb n
 |n,0,A,T,_,hk=>absurd hk (PR _)
 |n,k+1,A,T,t,hk=>by
  obtain⟨w,T1,e1,t1,w0,w1⟩:=bp (m:=10) t (by decide);have mp:=rj n
  have Fy:(w<6\/((n:Int)=0/\7<w))->∃d T',cQ (k+1) [.tp A.length,.d (.list (XG l)),.d (.int (n:Int))] T=some (d,T')/\aY A T'/\aJ (n+1) d=true/\aP (n+1) d<=mb n:=fun hc=>by
   obtain⟨i,T2,e2,t2,i0,i1⟩:=bp (m:=12) t1 (by decide);obtain⟨d,hd,Hy⟩:=eJ (xs:=VS) i0 (by show i<12;exact i1);obtain⟨b1,b2⟩:=zlk d Hy n;refine⟨d,T2,?_,t2,b1,by omega⟩;simp only[VS] at hd
   have l1:(NM "a").length<=1000:=by decide +kernel
   by_cases h6:w<6
   .simp[cQ,e1,h6,e2,hd,l1]
   .obtain⟨h7,h8⟩:=hc.resolve_left h6
    simp[cQ,e1,h6,h7,h8,e2,hd,l1]
  by_cases c1:w<6
  .exact Fy (.inl c1)
  by_cases c2:(n:Int)=0/\7<w
  .exact Fy (.inr c2)
  clear Fy
  have l1:(NM "a").length<=1000:=by decide +kernel
  by_cases c3:w<8
  .have c4:¬7<w:=by omega
   obtain⟨i,T2,e2,t2,i0,i1⟩:=bp (m:=(l.length:Int)) t1 (by rw[hn.len];omega);obtain⟨x,hx,Gs⟩:=yt hn i0 i1;obtain⟨b1,b2⟩:=cR (n:=n+1) (pf Gs);refine⟨.str x,T2,?_,t2,b1,by omega⟩
   by_cases h0:(n:Int)=0
   .simp[cQ,e1,c1,h0,c4,c3,ij,e2,hx,l1]
   .have BA:¬n=0:=by omega
    simp[cQ,e1,c1,h0,BA,c3,ij,e2,hx,l1]
  .have h0:¬(n:Int)=0:=fun z=>c2 ⟨z,by omega⟩
   obtain⟨n,rfl⟩:=cO n (by omega);obtain⟨j,T2,e2,t2,j0,j1⟩:=bp (m:=4) t1 (by decide);have hrj:=dE (j:=j) j0 (by omega)
   have hs:((n+1:Nat):Int)-1=(n:Int):=by omega
   obtain⟨ys,T3,e3,t3,l3,q3⟩:=uq (P:=aY A) (Q:=fun d=>aJ (n+1) d=true/\aP (n+1) d<=mb n) (ds:=bh 0 j.toNat)
    (e:=av (cQ k) (af (aa 1) (af (aa 2) (af (ah d6 (aa 3) (fC (.int 1))) ai)))) (ρ:=[some (.tp A.length),some (.d (.list (XG l))),some (.d (.int ((n+1:Nat):Int))),some (.d (.int w)),some (.d (.list VS))]) t2 fun d _ T t=>by
     obtain⟨d',T',e1,t1,b1,b2⟩:=vi hn hm n k A T t (by omega);refine⟨d',T',?_,t1,b1,b2⟩;rw[←hs] at e1;generalize ((n+1:Nat):Int)=N at e1 ⊢;simp[e1]
   have hl:(ys.length:Int)=j:=by rw[l3,qa];omega
   refine⟨.tuple ys,T3,?_,t3,?_,?_⟩
   .simp only[VS] at e3
    generalize ((n+1:Nat):Int)=N at e3 h0 ⊢;simp[cQ,e1,c1,h0,c3,e2,hrj,l1,e3]
   .show (decide (ys.length<=8)&&ys.all (aJ (n+1)))=true
    rw[decide_eq_true (by omega)];exact Oq.mpr fun d hd=>(q3 d hd).1
   .show 1+(ys.map (aP (n+1))).sum<=1+3*mb n
    have s1:=wY (f:=aP (n+1)) (q:=mb n) fun d hd=>(q3 d hd).2;have s2:(ys.length:Int)*mb n<=3*mb n:=Int.mul_le_mul_of_nonneg_right (by omega) (by have:=rj n;omega);omega
theorem zll(hn:n<=2)(hb:aJ (n+1) d=true)(hm:aP (n+1) d<=mb n):aS d=true:=by
 obtain⟨u1,u2⟩:=jJ _ d hb
 have fin:∀j,aJ j d=true->aP j d<=40->j=4->aS d=true:=fun j a b e=>by
  subst e
  show (aJ 4 d&&decide _)=true<;>simp_all
 match n,hn with
 |0,_=>
  obtain⟨v1,v2⟩:=jJ 2 d u1;obtain⟨x1,x2⟩:=jJ 3 d v1
  have Ef:aP 1 d<=1:=hm<;>grind
 |1,_=>
  obtain⟨v1,v2⟩:=jJ 3 d u1
  have Ef:aP 2 d<=4:=hm<;>grind
 |2,_=>
  have Ef:aP 3 d<=13:=hm<;>grind
theorem y6{l:List Str}{m:Nat}(hn:GY l m)(hm:0<m){n:Nat}(h2:n<=2){A T:Tp}(t:aY A T):∃d T',cQ 25 [.tp A.length,.d (.list (XG l)),.d (.int (n:Int))] T=some (d,T')/\aY A T'/\aS d=true:=by
 obtain⟨d,T',e,t',b1,b2⟩:=vi hn hm n 25 A T t (by omega);exact⟨d,T',e,t',zll h2 b1 b2⟩
section
variable {C:Addr}
theorem EX.up(h:EX C m n c ws e)(l:n<=k):EX C m k c ws e:=⟨by have:=h.n1;omega,h.c1,h.c6,h.ln,h.ne,h.ok,fun j T hj=>h.lw j T (by omega),fun j a hj ha=>h.rd j a (by omega) (by omega),gL h.bt (by omega)⟩
theorem RX.up(h:RX C g n c ws r)(l:n<=k):RX C g k c ws r:=⟨by have:=h.n1;omega,h.c1,h.c6,h.ln,h.ne,h.ok,fun j T hj=>h.lw j T (by omega),fun j a hj ha=>h.rd j a (by omega) (by omega),gL h.bt (by omega)⟩
theorem EW.up(h:EW C m n q e)(l:n<=k)(l':q<=q'):EW C m k q' e:=by
 obtain⟨c,ws,x,y⟩:=h;exact⟨c,ws,x.up l,by omega⟩
theorem RW.up(h:RW C g n q e)(l:n<=k)(l':q<=q'):RW C g k q' e:=by
 obtain⟨c,ws,x,y⟩:=h;exact⟨c,ws,x.up l,by omega⟩
theorem yi(h:aS v=true):EW C m 1 1 (.tuple [.str "put",v]):=⟨1,_,rB (by decide) h,by decide⟩
theorem vh{l:List Str}{m:Nat}(hn:GY l m)(hm:0<m){g:Nat}(Cv:g<=12){A T:Tp}(t:aY A T):∃e T',hZ [.tp A.length,.d (.list (XG l)),.d (.int (g:Int))] T=some (e,T')/\aY A T'/\EW C (g:Int) 1 1 e:=by
 have putL:∀T,aY A T->∃v T',cQ 25 [.tp A.length,.d (.list (XG l)),.d (.int 1)] T=some (v,T')/\aY A T'/\EW C (g:Int) 1 1 (.tuple [.str "put",v]):=fun T t=>by
  obtain⟨d,T',e,t',hv⟩:=y6 hn hm (n:=1) (by decide) t;exact⟨d,T',e,t',yi hv⟩
 by_cases hg:0<(g:Int)
 .obtain⟨r,T1,e1,t1,r0,r1⟩:=bp (m:=3) t (by decide)
  by_cases hr:0<r
  .obtain⟨i,T2,e2,t2,i0,i1⟩:=bp (m:=(g:Int)) t1 hg
   obtain⟨i,rfl⟩:∃j:Nat,i=(j:Int):=⟨i.toNat,by omega⟩;refine⟨_,T2,?_,t2,⟨1,_,zki (j:=i) (by decide) Cv (by omega),by decide⟩⟩;generalize (g:Int)=G at *;simp[hZ,hg,e1,hr,e2]
  .obtain⟨v,T2,e2,t2,x⟩:=putL T1 t1
   refine⟨_,T2,?_,t2,x⟩;generalize (g:Int)=G at *;simp[hZ,hg,e1,hr,e2]
 .obtain⟨v,T2,e2,t2,x⟩:=putL T t
  refine⟨_,T2,?_,t2,x⟩;generalize (g:Int)=G at *;simp[hZ,hg,e2]
theorem zlm{l:List Str}{m:Nat}(hn:GY l m)(hm:0<m){g:Nat}(Cv:g<=12){A T:Tp}(t:aY A T):∃e T',ia [.tp A.length,.d (.list (XG l)),.d (.int (g:Int))] T=some (e,T')/\aY A T'/\EW C (g:Int) 2 3 e:=by
 obtain⟨w,T1,e1,t1,w0,w1⟩:=bp (m:=10) t (by decide);obtain⟨a,T2,e2,t2,xa⟩:=vh (C:=C) hn hm Cv t1
 by_cases c1:w<5
 .by_cases c2:w=4
  .refine⟨.tuple [.str "many",a],T2,?_,t2,zko xa (by decide) (by decide)⟩
   subst c2;simp[ia,ie,e1,e2,g8,g7]
  .refine⟨a,T2,?_,t2,xa.up (by decide) (by decide)⟩
   have z:w / 4=0:=by omega
   simp[ia,ie,e1,e2,c1,z,g8,g7]
 .obtain⟨b,T3,e3,t3,xb⟩:=vh (C:=C) hn hm Cv t2
  by_cases c5:w=5
  .obtain⟨j,T4,e4,t4,j0,j1⟩:=bp (m:=3) t3 (by decide)
   obtain⟨j,rfl⟩:∃i:Nat,j=(i:Int):=⟨j.toNat,by omega⟩;refine⟨.tuple [.str "row",.tuple ([a,b].take j)],T4,?_,t4,zkn (q:=1) (by simp;omega) (fun e he=>?_) (by simp;omega) (by decide)⟩
   .subst c5
    simp[ia,ie,e1,e2,e3,e4,ix]
   .have:=QA he
    simp at this
    rcases this with rfl|rfl
    .exact xa
    .exact xb
  .obtain⟨i,T4,e4,t4,i0,i1⟩:=bp (m:=5) t3 (by decide)
   obtain⟨wd,AV,BN⟩:∃wd∈EY,Yr [OE "sum",.str "join",.str "same",.str "less",.str "part"] i=some (.str (NM wd)):=by
    obtain⟨d,h,hm⟩:=eJ (xs:=[OE "sum",.str "join",.str "same",.str "less",.str "part"]) i0 (by simpa using i1);simp at hm
    rcases hm with rfl|rfl|rfl|rfl|rfl
    .exact⟨"sum",by simp[EY],h⟩
    .exact⟨"join",by simp[EY],h⟩
    .exact⟨"same",by simp[EY],h⟩
    .exact⟨"less",by simp[EY],h⟩
    .exact⟨"part",by simp[EY],h⟩
   refine⟨.tuple [.str (NM wd),a,b],T4,?_,t4,zkp AV xa xb (by decide) (by decide)⟩;simp[ia,ie,e1,e2,e3,c1,c5,e4,BN]
end
theorem name_val(hx:isName (.str x)=true):aS (.str x)=true:=by
 obtain⟨u1,u2⟩:=cR  (pf hx);show (aJ 4 _&&decide _)=true;rw[u1];rfl
theorem zln:isName (.str "kind")=true :=rfl
def cq:Nat->Int
 |0=>4
 |1=>8
 |n+2=>4+2*cq n
theorem yU:∀n,n<=4->4<=cq n/\4+cq n<=cq (n+1)/\cq n<=60:=by decide
section
variable {C:Addr}
theorem mJ{l:List Str}{m:Nat}(hn:GY l m)(hm:0<m)(Ey:m<=12){p:Bool}:∀(n k g:Nat) (A T:Tp),aY A T->n<k->n<=4->n+g<=12->∃r T',bY k [.tp A.length,.d (.list (XG l)),.d (.int (n:Int)),.d (.int (g:Int)),.d (.bool p)] T=some (r,T')/\aY A T'/\RW C g (n+3) (cq n) r
 |n,0,g,A,T,_,hk,_,_=>absurd hk (PR _)
 |n,k+1,g,A,T,t,hk,h4,hg=>by
  obtain⟨q1,q2,q3⟩:=yU n h4;obtain⟨w,T1,e1,t1,w0,w1⟩:=bp (m:=8) t (by decide);obtain⟨ex,T2,e2,t2,xe⟩:=zlm (C:=C) hn hm (g:=g) (by omega) t1
  by_cases c1:0<n/\w<4
  .obtain⟨c1,c2⟩:=c1
   obtain⟨n,rfl⟩:=cO n (by omega)
   have HF:(0:Int)<((n+1:Nat):Int):=by omega
   have hs:((n+1:Nat):Int)-1=(n:Int):=by omega
   have hgs:((g+1:Nat):Int)=(g:Int)+1:=by omega
   obtain⟨wd,T3,t3,AV,e3⟩:∃wd T3,aY A T3/\(wd="want"\/(wd="peek"/\p=true))/\((p=false/\wd="want"/\T3=T2)\/(p=true/\∃j,aQ [.tp A.length,.d (.int 4)] T2=some (.int j,T3)/\((j=0/\wd="peek")\/(¬j=0/\wd="want")))):=by
    cases p with
    |false=>exact⟨"want",T2,t2,.inl rfl,.inl ⟨rfl,rfl,rfl⟩⟩
    |true=>
     obtain⟨j,T3,e3,t3,j0,j1⟩:=bp (m:=4) t2 (by decide)
     by_cases hj:j=0
     .exact⟨"peek",T3,t3,.inr ⟨rfl,rfl⟩,.inr ⟨rfl,j,e3,.inl ⟨hj,rfl⟩⟩⟩
     .exact⟨"want",T3,t3,.inl rfl,.inr ⟨rfl,j,e3,.inr ⟨hj,rfl⟩⟩⟩
   obtain⟨j,T4,e4,t4,j0,j1⟩:=bp (m:=5) t3 (by decide)
   obtain⟨J9,T5,x5,t5,e5⟩:∃J9 T5,EW C (g:Int) 2 3 J9/\aY A T5/\((0<j/\∃i x,aQ [.tp A.length,.d (.int (l.length:Int))] T4=some (.int i,T5)/\Yr (XG l) i=some (.str x)/\J9=.tuple [.str "put",.str x])\/(¬0<j/\J9=ex/\T5=T4)):=by
    by_cases hj:0<j
    .obtain⟨i,T5,e5,t5,i0,i1⟩:=bp (m:=(l.length:Int)) t4 (by rw[hn.len];omega)
     obtain⟨x,hx,Gs⟩:=yt hn i0 i1;exact⟨_,T5,(yi (name_val Gs)).up (by decide) (by decide),t5,.inl ⟨hj,i,x,e5,hx,rfl⟩⟩
    .exact⟨ex,T4,xe,t4,.inr ⟨hj,rfl,rfl⟩⟩
   obtain⟨r,T6,e6,t6,xr⟩:=mJ hn hm Ey (p:=p) n k (g+1) A T5 t5 (by omega) (by omega) (by omega);obtain⟨ce,we,Bz,ce3⟩:=x5;refine⟨.tuple [.str (NM wd),J9,r],T6,?_,t6,zks (by omega) (AV.imp id And.left) (by omega) (Bz.up (by omega)) xr (by have:=(yU n (by omega)).2.1;omega) q3⟩;rw[←hs,hgs] at e6;generalize ((n+1:Nat):Int)=N at e6 HF ⊢;generalize (g:Int)=G at *;have i0:intD [.bool false]=some (.int 0):=rfl;have i1:intD [.bool true]=some (.int 1):=rfl
   rcases e5 with⟨hj,i,x,y1,y2,rfl⟩|⟨hj,rfl,rfl⟩
   .rcases e3 with⟨rfl,rfl,rfl⟩|⟨rfl,q,e3,⟨hq,rfl⟩|⟨hq,rfl⟩⟩
    .simp[bY,e1,e2,HF,c2,i0,i1,g8,g7,e4,hj,ij,y1,y2,e6]
    .simp[bY,e1,e2,HF,c2,i0,i1,g8,g7,e3,hq,e4,hj,ij,y1,y2,e6]
    .simp[bY,e1,e2,HF,c2,i0,i1,g8,g7,e3,hq,e4,hj,ij,y1,y2,e6]
   .rcases e3 with⟨rfl,rfl,rfl⟩|⟨rfl,q,e3,⟨hq,rfl⟩|⟨hq,rfl⟩⟩
    .simp[bY,e1,e2,HF,c2,i0,i1,g8,g7,e4,hj,e6]
    .simp[bY,e1,e2,HF,c2,i0,i1,g8,g7,e3,hq,e4,hj,e6]
    .simp[bY,e1,e2,HF,c2,i0,i1,g8,g7,e3,hq,e4,hj,e6]
  .by_cases c3:1<n/\w<6
   .obtain⟨c3,c4⟩:=c3
    obtain⟨n,rfl⟩:∃j,n=j+2:=⟨n-2,by omega⟩;have c5:¬w<4:=fun z=>c1 ⟨by omega,z⟩
    have hs:((n+2:Nat):Int)-2=(n:Int):=by omega
    have c3':(1:Int)<((n+2:Nat):Int):=by omega
    have Hi:(0:Int)<((n+2:Nat):Int):=by omega
    obtain⟨r,T3,e3,t3,xr⟩:=mJ hn hm Ey (p:=p) n k g A T2 t2 (by omega) (by omega) (by omega);obtain⟨s,T4,e4,t4,xs⟩:=mJ hn hm Ey (p:=p) n k g A T3 t3 (by omega) (by omega) (by omega);obtain⟨ce,we,Bz,ce3⟩:=xe;have qq:cq (n+2)=4+2*cq n:=rfl;refine⟨.tuple [.str "when",ex,r,s],T4,?_,t4,zkt (n:=n+4) (by omega) (Bz.up (by omega)) (xr.up (by omega) (RZ _)) (xs.up (by omega) (RZ _)) (by omega) q3⟩;rw[←hs] at e3 e4;generalize ((n+2:Nat):Int)=N at e3 e4 c3' Hi ⊢;generalize (g:Int)=G at *;simp[bY,e1,e2,c3',Hi,c5,c4,e3,e4]
   .have z1:¬((0:Int)<(n:Int)/\w<4):=fun z=>c1 ⟨by omega,z.2⟩
    have z3:¬((1:Int)<(n:Int)/\w<6):=fun z=>c3 ⟨by omega,z.2⟩
    have say:∀T4,aY A T4->(¬w=6/\T4=T2\/w=6/\∃j,aQ [.tp A.length,.d (.int 2)] T2=some (.int j,T4)/\¬j=0)->bY (k+1) [.tp A.length,.d (.list (XG l)),.d (.int (n:Int)),.d (.int (g:Int)),.d (.bool p)] T=some (.tuple [.str "say",ex],T4):=fun T4 t4 h=>by
     generalize (n:Int)=N at z1 z3 ⊢;generalize (g:Int)=G at *
     rcases h with⟨h6,rfl⟩|⟨rfl,j,e3,hj⟩
     .by_cases a0:0<N
      .have b0:¬w<4:=fun z=>z1 ⟨a0,z⟩
       by_cases a1:1<N
       .have b1:¬w<6:=fun z=>z3 ⟨a1,z⟩
        simp[bY,e1,e2,a0,b0,a1,b1,h6]
       .simp[bY,e1,e2,a0,b0,a1,h6]
      .have a1:¬1<N:=by omega
       simp[bY,e1,e2,a0,a1,h6]
     .simp[bY,e1,e2,e3,hj]
    by_cases c6:w=6
    .obtain⟨j,T3,e3,t3,j0,j1⟩:=bp (m:=2) t2 (by decide)
     by_cases hj:j=0
     .obtain⟨i,T4,e4,t4,i0,i1⟩:=bp (m:=(l.length:Int)+2) t3 (by omega)
      obtain⟨x,hx,Gs⟩:∃x,Yr (XG l++[.str "kind",.str "name"]) i=some (.str x)/\isName (.str x)=true:=by
       obtain⟨d,h,Hy⟩:=eJ (xs:=XG l++[.str "kind",.str "name"]) i0 (by simp[ij];omega)
       rcases Oz.mp Hy with z|z
       .obtain⟨x,hx,rfl⟩:=Oj.mp z
        exact⟨x,h,hn.nm x hx⟩
       .simp at z
        rcases z with rfl|rfl
        .exact⟨_,h,zln⟩
        .exact⟨_,h,zky⟩
      refine⟨.tuple [.str "fail",.str x],T4,?_,t4,⟨1,_,zkr (by omega) (by omega) Gs,by omega⟩⟩
      have ll:l.length+2<=sizeLine:=by
       have:=mI;have:=hn.len;omega
      subst c6 hj;generalize (n:Int)=N at z1 z3 ⊢;generalize (g:Int)=G at *;simp[bY,e1,e2,e3,e4,ij,hx,ll]
     .exact⟨_,T3,say T3 t3 (.inr ⟨c6,j,e3,hj⟩),t3,yf (by omega) (xe.up (by omega) (RZ _)) (by omega) q3 ⟩
    .exact⟨_,T2,say T2 t2 (.inl ⟨c6,rfl⟩),t2,yf (by omega) (xe.up (by omega) (RZ _)) (by omega) q3⟩
end
abbrev Dc:=List (NN×NN)
theorem zlo{ds:Dc}{x y:Str}{v:NN}:aN (ds++[(.str x,v)]) y=match aN ds y with
  |some u=>some u
  |none=>if x=y then some v else none:=by
 induction ds with
 |nil=>rfl
 |cons q r ih=>
  obtain⟨k,d⟩:=q
  cases k with
  |str k=>
   show (if k=y then some d else aN (r++[(.str x,v)]) y)=_
   by_cases h:k=y
   .rw[if_pos h]
    have:aN ((OE k,d)::r) y=some d:=if_pos h;rw[this]
   .rw[if_neg h,ih]
    have:aN ((OE k,d)::r) y=aN r y:=if_neg h;rw[this]
  |_=>exact ih
theorem zlp:aN (eI ds x v) y=if x=y then (aN ds x).map (fun _=>v) else aN ds y:=by
 induction ds with
 |nil=>by_cases h:x=y <;> simp[eI,aN]
 |cons q r ih=>
  obtain⟨k,d⟩:=q
  cases k with
  |str k=>
   by_cases hk:k=x
   .subst hk
    have e1:eI ((OE k,d)::r) k v=_::eI r k v:=if_pos rfl;rw[e1]
    by_cases h:k=y
    .subst h
     simp[aN]
    .simp[aN,h,ih]
   .have e1:eI ((OE k,d)::r) x v=_::eI r x v:=if_neg hk
    rw[e1]
    by_cases h:x=y
    .subst h
     simp[aN,hk,ih]
    .simp[aN,h] at ih ⊢
     rw[ih]
  |_=>exact ih
theorem iL:aN (putN ds x v) y=if x=y then some v else aN ds y:=by
 unfold putN
 cases h:aN ds x with
 |some u=>
  rw[if_pos (by rfl),zlp,h];rfl
 |none=>
  rw[if_neg (by simp),zlo]
  by_cases hx:x=y
  simp_all
  .rw[if_neg hx,if_neg hx]
   cases aN ds y <;> rfl
theorem ub(h:aN ds x=some v):(.str x,v)∈ds:=by
 induction ds with
 |nil=>cases h
 |cons q r ih=>
  obtain⟨k,d⟩:=q
  cases k with
  |str k=>
   by_cases hk:k=x
   .have e:aN ((OE k,d)::r) x=some d:=if_pos hk<;>simp_all
   .have e:aN ((OE k,d)::r) x=aN r x:=if_neg hk<;>simp_all
  |_=>exact NV _ (ih h)
theorem ms(h:aN G x=none):(putN G x v).length=G.length+1:=by unfold putN<;>simp_all
@[simp] theorem LH:j6 i fk fv ρ T=XI (fv ρ T) fun w T1=>oi i fk ρ w T1 ρ[i]?:=rfl
@[simp] theorem KM:oi i fk ρ w T (some (some (.loc (.dict ds))))=XI (fk ρ T) (oj i ρ ds w):=rfl
@[simp] theorem KN:oj i ρ ds (.d x) (.d (.str s)) T=if ds.length<=1000 then some ((.nx,ρ.set i (some (.loc (.dict (putN ds s x))))),T) else none:=rfl
@[simp] theorem KL:Hc i f ρ T=XI (f ρ T) fun w T1=>qU i ρ (jq (view T1 w)) T1:=rfl
@[simp] theorem Mq:jq (some (.dict ds))=some ds:=rfl
@[simp] theorem Ky:qU i ρ (some ds) T=some ((.nx,ρ.set i (some (.loc (.dict ds)))),T):=rfl
@[simp] theorem Lv:fq i ρ T=some ((.nx,ρ.set i (some (.loc (.dict [])))),T):=rfl
@[simp] theorem Kz:GS (.str s) (.dict ds)=some (.bool (!(aN ds s).isSome)):=rfl
@[simp] theorem Mb:G8 (.str s) (.dict ds)=some (.bool (aN ds s).isSome):=rfl
@[simp] theorem L7:GC (.dict ds) (.str s)=aN ds s:=rfl
@[simp] theorem KP:Cz o T (.d x) (.loc (.dict ds))=Fc T (o x (.dict ds)):=rfl
@[simp] theorem KO:Cz o T (.loc (.dict ds)) (.d y)=Fc T (o (.dict ds) y):=rfl
@[simp] theorem KQ:Cy o T (.loc (.dict ds))=Fc T (o (.dict ds)):=rfl
@[simp] theorem DJ:view T (.loc (.dict ds))=some (.dict ds):=rfl
def YF(D0 R0:Dc):PyData:=.tuple [.dict D0,.dict R0]
structure YS(C:Addr)(S:List Str)(D0 R0:Dc):Prop where
 dk:∀q∈D0,∃x v,q=(.str x,v)/\aS v=true/\aN D0 x=some v/\x∈S
 rk:∀q∈R0,∃x r,q=(.str x,r)/\RW C 0 7 28 r/\aN R0 x=some r/\aN D0 x=none/\x∈S
 rnd:(R0.map (·.1)).Nodup
 dnd:(D0.map (·.1)).Nodup
 len:D0.length+R0.length=S.length
 nm:∀x∈S,isName (.str x)=true
theorem YS.nil:YS C [] [] []:=⟨by simp,by simp,by simp,by simp,rfl,by simp⟩
section
variable {C:Addr}{S:List Str}{D0 R0:Dc}
theorem YS.noD(b:YS C S D0 R0)(h:x∉S):aN D0 x=none:=by
 cases e:aN D0 x with
 |none=>rfl
 |some v=>
  obtain⟨y,_,e1,_,_,hy⟩:=b.dk _ (ub e)<;>grind
theorem YS.noR(b:YS C S D0 R0)(h:x∉S):aN R0 x=none:=by
 cases e:aN R0 x with
 |none=>rfl
 |some v=>
  obtain⟨y,_,e1,_,_,_,hy⟩:=b.rk _ (ub e)<;>grind
theorem mO(h:aN G x=none):putN G x v=G++[(.str x,v)]:=by unfold putN<;>simp_all
theorem YS.putD(b:YS C S D0 R0)(h:x∉S)(hx:isName (.str x)=true)(hv:aS v=true):YS C (x::S) (putN D0 x v) R0:=by
 have nd:=b.noD h;refine⟨fun q hq=>?_,fun q hq=>?_,b.rnd,?_,by rw[ms nd,Oo];have:=b.len;omega,fun y hy=>(N4.mp hy).elim (fun e=>e ▸ hx) (b.nm y)⟩
 .rw[mO nd] at hq
  rcases Oz.mp hq with z|z
  .obtain⟨y,u,rfl,h1,h2,h3⟩:=b.dk q z
   refine⟨y,u,rfl,h1,?_,NV _ h3⟩
   rw[iL,if_neg (fun e=>h (by rw[e];exact h3))]<;>omega
  .rw[Od.mp z]
   exact⟨x,v,rfl,hv,by rw[iL,if_pos rfl],NZ⟩
 .obtain⟨y,r,rfl,h1,h2,h3,h4⟩:=b.rk q hq
  refine⟨y,r,rfl,h1,h2,?_,NV _ h4⟩
  rw[iL,if_neg (fun e=>h (by rw[e];exact h4))]<;>omega
 .rw[mO nd,QS,Pv]
  refine⟨b.dnd,by simp,fun a ha c hc e=>?_⟩;obtain⟨q,hq,e⟩:=Oj.mp ha
  obtain⟨y,u,rfl,_,_,h4⟩:=b.dk q hq<;>simp_all
theorem YS.putR(b:YS C S D0 R0)(h:x∉S)(hx:isName (.str x)=true)(hr:RW C 0 7 28 r):YS C (x::S) D0 (putN R0 x r):=by
 have nd:=b.noR h;refine⟨fun q hq=>?_,fun q hq=>?_,?_,b.dnd,by rw[ms nd,Oo];have:=b.len;omega,fun y hy=>(N4.mp hy).elim (fun e=>e ▸ hx) (b.nm y)⟩
 .obtain⟨y,u,rfl,h1,h2,h3⟩:=b.dk q hq
  exact⟨y,u,rfl,h1,h2,NV _ h3⟩
 .rw[mO nd] at hq
  rcases Oz.mp hq with z|z
  .obtain⟨y,u,rfl,h1,h2,h3,h4⟩:=b.rk q z
   refine⟨y,u,rfl,h1,?_,h3,NV _ h4⟩
   rw[iL,if_neg (fun e=>h (by simp_all))]<;>omega
  .rw[Od.mp z]
   exact⟨x,r,rfl,hr,by rw[iL,if_pos rfl],b.noD h,NZ⟩
 .rw[mO nd,QS,Pv]
  refine⟨b.rnd,by simp,fun a ha c hc e=>?_⟩;simp at hc;obtain⟨q,hq,e⟩:=Oj.mp ha
  obtain⟨y,u,rfl,_,_,_,h4⟩:=b.rk q hq<;>simp_all
end
theorem zlq:jA=aW 10 (iu 3 (af (av fA (af (av eS (af (aa 0) (af (aa 1) ai))) (af (fC (.int 24)) ai))) (af (fC (.int 0)) ai)) Ap):=rfl
theorem mC:iu i g fr ρ T=XI (g ρ T) fun ws T1=>openK i fr ρ (eP ws) T1:=rfl
theorem mD:openK i fr ρ (some [a,b]) T=jK T.length (fr (ρ.set i (some (.tp T.length))) (T++[[a,b]])):=rfl
theorem l7(h:T.length=n):jK n (some ((fl,ρ),T++[row]))=some ((fl,g0 n ρ),T):=by
 have e:gW (T++[row])=some (T,row):=by
  unfold gW<;>simp_all
 simp[jK,e,h]
def BF(ns:List Int)(p:Bool)(m:Int)(l:List Str)(D0 R0:Dc)(o8 o9:Option D.W):XD:=[some (.d (dh ns)),some (.d (.int 1)),some (.d (.bool p)),some (.tp 0),some (.d (.int m)),some (.d (.list (XG l))),some (.loc (.dict D0)),some (.loc (.dict R0)),o8,o9]
theorem zlr{ns:List Int}{p:Bool}{m:Int}{l:List Str}{D0 R0:Dc}{k:Int}:g0 1 (BF ns p m l D0 R0 (some (.d (.int k))) (some (.tp 1)))=BF ns p m l D0 R0 (some (.d (.int k))) none:=rfl
theorem zls:∀i,i<4->cq (1+i)<=28:=by decide
theorem zlt{C:Addr}{ns:List Int}{p:Bool}{m:Int}{l:List Str}{j:Nat}{D0 R0:Dc}{k:Nat}{x:Str}{A T:Tp}(hA:A.length=1)(t:aY A T)(hn:GY l j)(hj:0<j)(EQ:j<=12)(hx:Yr (XG l) (k:Int)=some (.str x))(hD:D0.length<=1000)(hR:R0.length<=1000) :
  ∃D1 R1 T',Ak (BF ns p m l D0 R0 (some (.d (.int (k:Int)))) (some (.tp 1))) T=some ((.nx,BF ns p m l D1 R1 (some (.d (.int (k:Int)))) (some (.tp 1))),T')/\aY A T'/\((∃v,aS v=true/\D1=putN D0 x v/\R1=R0)\/(∃r,RW C 0 7 28 r/\D1=D0/\R1=putN R0 x r)):=by
 obtain⟨w,T1,e1,t1,w0,w1⟩:=bp (m:=4) t (by decide);rw[hA] at e1
 by_cases hw:w=0
 .obtain⟨v,T2,e2,t2,hv⟩:=y6 hn hj (n:=2) (by decide) t1
  rw[hA] at e2;refine⟨putN D0 x v,R0,T2,?_,t2,.inl ⟨v,hv,rfl,rfl⟩⟩;have D9:cQ 25 [.tp 1,.d (.list (XG l)),.d (.int 2)] T1=some (v,T2):=e2;simp[Ak,BF,e1,hw,D9,hx,hD]
 .obtain⟨i,T2,e2,t2,i0,i1⟩:=bp (m:=4) t1 (by decide)
  obtain⟨i,rfl⟩:∃q:Nat,i=(q:Int):=⟨i.toNat,by omega⟩;obtain⟨r,T3,e3,t3,hr⟩:=mJ (C:=C) hn hj EQ (p:=p) (1+i) 25 0 A T2 t2 (by omega) (by omega) (by omega);rw[hA] at e2 e3;refine⟨D0,putN R0 x r,T3,?_,t3,.inr ⟨r,hr.up (by omega) (zls i (by omega)),rfl,rfl⟩⟩
  have Al:bY 25 [.tp 1,.d (.list (XG l)),.d (.int (1+(i:Int))),.d (.int 0),.d (.bool p)] T2=some (r,T3):=by simp_all
  simp[Ak,BF,e1,hw,e2,Al,hx,hR]
theorem zlu{C:Addr}{ns:List Int}{p:Bool}{m:Int}{l:List Str}{j:Nat}{D0 R0:Dc}{k:Nat}{x:Str}{T:Tp}(hA:T.length=1)(hn:GY l j)(hj:0<j)(EQ:j<=12)(hx:Yr (XG l) (k:Int)=some (.str x))(hD:D0.length<=1000)(hR:R0.length<=1000) :
  ∃D1 R1,Kk (BF ns p m l D0 R0 (some (.d (.int (k:Int)))) none) T=some ((.nx,BF ns p m l D1 R1 (some (.d (.int (k:Int)))) none),T)/\((∃v,aS v=true/\D1=putN D0 x v/\R1=R0)\/(∃r,RW C 0 7 28 r/\D1=D0/\R1=putN R0 x r)):=by
 obtain⟨c,ec⟩:=n8 (ns:=ns) (k:=1+1+(k)) (T:=T) (by omega);obtain⟨ds,ed,ld,hd⟩:=nr (c:=c+977*(k)) (N:=60) (T:=T) (by decide) (by decide);have AS:ds.length=60:=ld;obtain⟨D1,R1,T',eF,tF,res⟩:=zlt     hA (nz   (by omega) (by omega) hd) hn hj EQ hx hD hR;obtain⟨HD,i',rfl,_⟩:=tF;refine⟨D1,R1,?_,res⟩;have oe:=l7 (fl:=.nx) (ρ:=BF ns p m l D1 R1 (some (.d (.int (k)))) (some (.tp 1)))  (row:=[.list HD,.int i']) hA;rw[←eF,zlr] at oe;rw[←oe];unfold Kk;rw[mC]
 have z:(1:Int)+1=2:=by decide
 rw[z] at ec;simp[BF,ec,ed,mD,hA]
theorem ye{C:Addr}{ns:List Int}{p:Bool}{m:Int}{l:List Str}{j:Nat}{T:Tp}(hA:T.length=1)(hn:GY l j)(hj:0<j)(EQ:j<=12):∀(c k:Nat) (S:List Str) (D0 R0:Dc) (o8:Option D.W),k+c<=j->YS C S D0 R0->S.length=k->(∀y∈S,y∈l.take k) ->
  ∃D1 R1 S1 o,forL 8 Kk ((O4 k c).map fun(i:Nat)=>Qq (i:Int)) (BF ns p m l D0 R0 o8 none) T=some ((.nx,BF ns p m l D1 R1 o none),T)/\YS C S1 D1 R1/\S1.length=k+c
 |0,k,S,D0,R0,o8,_,b,hS,_=>⟨D0,R0,S,o8,rfl,b,hS⟩
 |c+1,k,S,D0,R0,o8,hk,b,hS,Jw=>by
  have hkl:k<l.length:=by rw[hn.len];omega
  have hx:Yr (XG l) (k:Int)=some (.str l[k]):=by
   unfold Yr Jf;rw[ij,if_pos (by omega),if_pos (by omega)];simp[XG,hkl]
  have hnx:l[k]∉S:=fun z=>by
   have z2:=Jw _ z;obtain⟨i,hi,e⟩:=SA.mp z2;exact(List.pairwise_iff_getElem.mp hn.nd) i k (by omega) hkl (by omega) e
  have X4:=b.len;obtain⟨D1,R1,e1,res⟩:=zlu (C:=C) (ns:=ns) (p:=p) (m:=m) hA hn hj EQ hx (show D0.length<=1000 by omega) (show R0.length<=1000 by omega)
  have b1:YS C (l[k]::S) D1 R1:=by
   rcases res with⟨v,hv,rfl,rfl⟩|⟨r,hr,rfl,rfl⟩
   .exact b.putD hnx (hn.nm _ (RQ _)) hv
   .exact b.putR hnx (hn.nm _ (RQ _)) hr
  obtain⟨D2,R2,S2,o,e2,b2,h2⟩:=ye (C:=C) (ns:=ns) (p:=p) (m:=m) hA hn hj EQ c (k+1) (l[k]::S) D1 R1 (some (.d (.int (k:Int)))) (by omega) b1 (by simp;omega) fun y hy=>by
   rcases N4.mp hy with rfl|z
   .exact SA.mpr ⟨k,by omega,rfl⟩
   .exact List.take_subset_take_left l (by omega) (Jw y z)
  refine⟨D2,R2,S2,o,?_,b2,by omega⟩;have st:Kk (List.set (BF ns p m l D0 R0 o8 none) 8 (some (.d (.int (k:Int))))) T=some ((.nx,BF ns p m l D1 R1 (some (.d (.int (k:Int)))) none),T):=e1;rw[QJ,OJ,qG st];exact e2
theorem sJ(n:Nat):bh 0 n=(O4 0 n).map fun(i:Nat)=>Qq (i:Int):=by
 unfold bh
 rw[Up]<;>simp_all
theorem zlv(C:Addr)(ns:List Int)(p:Bool):∃D0 R0 S,jA [.d (dh ns),.d (.int 1),.d (.bool p)] []=some (YF D0 R0,[])/\YS C S D0 R0/\3<=S.length/\S.length<=10:=by
 obtain⟨c,ec⟩:=n8 (ns:=ns) (k:=1) (T:=[]) (by omega);obtain⟨ds,ed,ld,hd⟩:=nr (c:=c) (N:=24) (T:=[]) (by decide) (by decide);have AS:ds.length=24:=ld;obtain⟨w,T1,e1,t1,w0,w1⟩:=bp (m:=8) (nz (A:=[]) (ds:=ds) (by omega) (by omega) hd) (by decide);obtain⟨w,rfl⟩:∃q:Nat,w=(q:Int):=⟨w.toNat,by omega⟩;obtain⟨l,T2,e2,t2,hn⟩:=zlj (m:=3+w+2) t1 (by omega)
 have hA:T2.length=1:=by
  obtain⟨_,_,rfl,_⟩:=t2;rfl
 obtain⟨D1,R1,S1,o,e3,b,hS⟩:=ye (C:=C) (ns:=ns) (p:=p) (m:=3+(w:Int)) hA hn (by omega) (by omega) (3+w) 0 [] [] [] none (by omega) YS.nil rfl (by simp);refine⟨D1,R1,S1,?_,b,by omega,by omega⟩;rw[←sJ] at e3
 have zt:(3+(w:Int)).toNat=3+w:=by omega
 have hr:=dE (j:=3+(w:Int)) (by omega) (by omega)
 have z2:((3+w+2:Nat):Int)=3+(w:Int)+2:=by omega
 rw[z2] at e2;have GI:aQ [.tp 0,.d (.int 8)] [[.list ds,.int 0]]=some (.int (w:Int),T1):=e1;have D9:h9 [.tp 0,.d (.int (3+(w:Int)+2))] T1=some (.list (XG l),T2):=e2
 have es:Ap [some (.d (dh ns)),some (.d (.int 1)),some (.d (.bool p)),some (.tp 0),none,none,none,none,none,none] [[.list ds,.int 0]]=some ((.rt (YF D1 R1),BF ns p (3+(w:Int)) l D1 R1 o none),T2):=by
  simp[BF] at e3;simp[Ap,GI,D9,hr,zt,e3,BF,YF]
 obtain⟨HD,i',rfl,_⟩:=t2;have oe:=l7 (n:=0) (fl:=.rt (YF D1 R1)) (ρ:=BF ns p (3+(w:Int)) l D1 R1 o none) (T:=[]) (row:=[.list HD,.int i']) rfl;rw[←es] at oe;rw[zlq];simp[mC,ec,ed,mD];exact congrArg dM oe
inductive SV:Nat->NN->Prop where
 |int {n:Nat}{i:Int}:SV n (.int i)
 |str {n:Nat}{x:Str}:SV n (.str x)
 |tup {n:Nat}{xs:List NN}:xs.length<=1000->(∀d∈xs,SV n d)->SV (n+1) (.tuple xs)
 |dct {n:Nat}{ds:Dc}:(∀q∈ds,∃x,q.1=.str x/\aN ds x=some q.2)->(∀q∈ds,SV n q.2)->SV (n+1) (.dict ds)
theorem SV.up(h:SV n d)(l:n<=m):SV m d:=by
 induction h generalizing m with
 |int=>exact .int
 |str=>exact .str
 |tup hl _ ih=>
  obtain⟨m,rfl⟩:=cO m (by omega);exact .tup hl fun d hd=>ih d hd (by omega)
 |dct hq _ ih=>
  obtain⟨m,rfl⟩:=cO m (by omega);exact .dct hq fun q hq'=>ih q hq' (by omega)
@[simp] theorem L6:GC (.tuple xs) (.int i)=Yr xs i:=rfl
@[simp] theorem KY:bi [.dict ds]=some (.int ds.length):=rfl
theorem zlw:GC (.list xs) (.int i)=Yr xs i:=rfl
theorem yJ:cP .int .dct=false:=rfl
theorem yG:cP .str .dct=false:=rfl
theorem yL:cP .dct .dct=true:=rfl
theorem yH:cP .str .bl=false:=rfl
theorem yF:cP .str .int=false:=rfl
theorem yK:cP .int .bl=false:=rfl
theorem yI:cP .int .int=true:=rfl
theorem yE:cP .str .str=true:=rfl
theorem k6(l:List NN):iF [.list (l.map fun _=>.bool true)]=some (.bool true) :=by simp
theorem rz{n:Nat}{d:NN}(h:SV n d):∀k T,n<k->br k [.d d,.d d] T=some (.bool true,T):=by
 induction h with
 |int=>
  intro k T hk;obtain⟨k,rfl⟩:=cO k (by omega);simp[br,gX,fX,isNone,yJ,yG,yH,yF,yK,yI,yE]
 |str=>
  intro k T hk;obtain⟨k,rfl⟩:=cO k (by omega);simp[br,gX,fX,isNone,yJ,yG,yH,yF,yK,yI,yE]
 |tup hl hs ih=>
  rename_i n xs;intro k T hk;obtain⟨k,rfl⟩:=cO k (by omega);have hr:=dE (j:=(xs.length:Int)) (by omega) (by omega)
  have c:=dv (e:=av (br k) (af (ah GC (aa 1) (aa 0)) (af (ah GC (aa 2) (aa 0)) ai))) (ρ:=[some (.d (.tuple xs)),some (.d (.tuple xs))]) (T:=T) (g:=fun _=>.bool true) (ds:=bh 0 xs.length) fun d hd=>by
   obtain⟨i,hi,rfl⟩:=Oj.mp hd;have Hd:=Rt.mp hi;obtain⟨a,ha,hm⟩:=eJ (xs:=xs) (i:=0+(i:Int)) (by omega) (by omega);have:=ih a hm k T (by omega);rw[Xa] at ha;simp[ha,this]
  have al:=k6 (bh 0 xs.length);simp[br,gX,fX,hr,c,al]
 |dct hq hs ih=>
  rename_i n ds;intro k T hk;obtain⟨k,rfl⟩:=cO k (by omega)
  have c:=dv (e:=bJ (ah G8 (aa 0) (aa 1)) (av (br k) (af (ah GC (aa 1) (aa 0)) (af (ah GC (aa 2) (aa 0)) ai)))) (ρ:=[some (.d (.dict ds)),some (.d (.dict ds))]) (T:=T) (g:=fun _=>.bool true) (ds:=ds.map (·.1)) fun d hd=>by
   obtain⟨q,Bf,rfl⟩:=Oj.mp hd;obtain⟨x,e1,e2⟩:=hq q Bf;have:=ih q Bf k T (by omega);rw[e1];simp[e2,this]
  have al:=k6 (ds.map (·.1));simp only[Pm] at al;simp[br,gX,fX,c,yL,al]
theorem pX:∀(n:Nat) (d:NN),aJ n d=true->SV n d
 |n,.int i,_=>.int
 |n,.str x,_=>.str
 |n,.none,h=>by cases n <;> cases h
 |n,.bool _,h=>by cases n <;> cases h
 |n,.list _,h=>by cases n <;> cases h
 |n,.dict _,h=>by cases n <;> cases h
 |0,.tuple _,h=>by cases h
 |n+1,.tuple xs,h=>by
  have h':(decide _&&xs.all _)=true:=h;rw[NY] at h';have l:=of_decide_eq_true h'.1;exact .tup (by omega) fun d hd=>pX n d (Oq.mp h'.2 d hd)
theorem zlx(h:aS v=true):SV 4 v:=pX 4 v (ib h).1
theorem uJ{F K:Dc}(hl:F.length=K.length)(h:∀q∈K,∃x,q.1=.str x/\aN F x=some q.2/\aN K x=some q.2/\SV n q.2):∀k T,n+1<k->br k [.d (.dict F),.d (.dict K)] T=some (.bool true,T):=by
 intro k T hk;obtain⟨k,rfl⟩:=cO k (by omega)
 have c:=dv (e:=bJ (ah G8 (aa 0) (aa 1)) (av (br k) (af (ah GC (aa 1) (aa 0)) (af (ah GC (aa 2) (aa 0)) ai)))) (ρ:=[some (.d (.dict F)),some (.d (.dict K))]) (T:=T) (g:=fun _=>.bool true) (ds:=K.map (·.1)) fun d hd=>by
  obtain⟨q,Bf,rfl⟩:=Oj.mp hd;obtain⟨x,e1,e2,e3,e4⟩:=h q Bf
  have:=rz e4 k T (by omega)<;>simp_all
 have al:=k6 (K.map (·.1));simp  at al;simp[br,gX,fX,c,yL,al,hl]
theorem zly(h1:∀k,n<k->br k [.d a,.d c] T=some (.bool true,T))(h2:∀k,n<k->br k [.d b,.d d] T=some (.bool true,T)):∀k,n+1<k->br k [.d (.tuple [a,b]),.d (.tuple [c,d])] T=some (.bool true,T):=by
 intro k hk;obtain⟨k,rfl⟩:=cO k (by omega);have hr:=dE (j:=2) (by omega) (by omega)
 have c:=dv (e:=av (br k) (af (ah GC (aa 1) (aa 0)) (af (ah GC (aa 2) (aa 0)) ai))) (ρ:=[some (.d (.tuple [a,b])),some (.d (.tuple [c,d]))]) (T:=T) (g:=fun _=>.bool true) (ds:=bh 0 2) fun e he=>by
  have:=by simpa[bh,OQ,List.range.loop] using he
  rcases this with rfl|rfl<;>simp_all
 have al:=k6 (bh 0 2);simp[br,gX,fX,hr,c,al]
abbrev OI:=Option (Int×Tp)
def AZ(o:OI)(k:Unit->OI):OI:=match o with
 |some r=>some r
 |none=>k ()
theorem fK:XO.dB f g ρ T=AZ (g ρ T) fun _=>f ρ T :=rfl
@[simp] theorem LK:AZ none k=k ():=rfl
@[simp] theorem LJ:AZ (some r) k=some r:=rfl
def xF(g:XO.Ys)(p:Fl×XD)(T:Tp):OI:=match p with
 |(.nx,Yc)=>g Yc T
 |_=>none
@[simp] theorem Nl:XO.cB f g ρ T=XI (f ρ T) (xF g):=rfl
@[simp] theorem Me:xF g (.nx,ρ) T=g ρ T:=rfl
@[simp] theorem Md:xF g (.rt x,ρ) T=none:=rfl
@[simp] theorem Nm:XO.fZ f g ρ T=XI (f ρ T) fun _ T1=>g ρ T1:=rfl
@[simp] theorem Nj:XO.gy f g ρ T=XI (f ρ T) fun b T1=>if b=true then g ρ T1 else none:=rfl
def zA(l:Int->Bool)(w:D.W)(T:Tp):OI:=match w with
 |.d (.int n)=>if l n=true then some (n,T) else none
 |_=>none
@[simp] theorem LM:XO.lQ l f ρ T=XI (f ρ T) (zA l):=rfl
@[simp] theorem KR:zA l (.d (.int n)) T=if l n=true then some (n,T) else none:=rfl
@[simp] theorem K6:XO.cS m g ρ T=XI (g ρ T) fun ws T1=>if dJ ws=true then m ws T1 else none:=rfl
theorem gK:XO.fJ C m mm fo g ρ T=XI (fo ρ T) (XO.lJ C m mm g ρ):=rfl
@[simp] theorem MX:XO.dP N m ws T=m (ws.map some++OA (N-ws.length) none) T:=rfl
@[simp] theorem KS:lS ρ T=none:=rfl
@[simp] theorem K0:dM none=none:=rfl
theorem rl{n:Nat}(h:n<=1000):lim (n:Int)=true:=by
 unfold lim;simp;omega
section
variable {C:Addr}{t0:List NN}{L:List Str}{p b:Int}
theorem hI(h:¬m="parted"/\¬m="place"/\¬m="begun"):XO.lJ C (NM m) mm g ρ (.tp 0) (TW C t0 L p b)=XI (g ρ (TW C t0 L p b)) fun ws T2=>if dJ ws=true then mm (.tp 0::ws) T2 else none:=by
 obtain⟨h1,h2,h3⟩:=h;have o:=i6 (C:=C) (t0:=t0) (L:=L) (p:=p) (b:=b);unfold XO.lJ;dsimp only;rw[o];dsimp only;rw[if_pos];simp only[eM,ES];rw[if_neg fun z=>h1 z.symm,if_neg fun z=>h2 z.symm,if_neg fun z=>h3 z.symm];rfl
theorem zlz{k:Nat}(h:L.length<=k):bL C [.tp 0] (TW C t0 L (k:Int) b)=some (.str "",TW C t0 L (k:Int) b):=by
 have h':¬(k)<(L.length):=by omega
 simp[bL,ik,kH,iR,gQ,h']
def GL(L:List Str)(k:Nat):Str:=(L[k]?).getD ""
theorem gE{k:Nat}:bL C [.tp 0] (TW C t0 L (k:Int) b)=some (.str (GL L k),TW C t0 L (k:Int) b):=by
 unfold GL
 cases h:L[k]? with
 |some w=>exact fh h
 |none=>exact zlz (List.getElem?_eq_none_iff.mp h)
theorem n5:eU C [.tp 0,.d (.bool false)] (TW C t0 L p b)=none :=rfl
theorem nZ{k:Nat}(h:k<=1000):fz C [.tp 0,.d (.bool false)] (TW C t0 L (k:Int) b)=some ((k:Int),TW C t0 L (k:Int) b):=by simp[fz,ik,iR,rl h]
theorem nq:d8 C [.tp 0,.d (.bool false),.d (.int a)] (TW C t0 L p b)=none:=by simp[d8,bj,Y7,n5]
theorem wJ{k:Nat}{a:Int}(h:k<=1000):iI C [.tp 0,.d (.bool false),.d (.int a)] (TW C t0 L (k:Int) b)=some ((k:Int),TW C t0 L (k:Int) b):=by simp[iI,gK,hI,nZ h]
end
structure Rz(C:Addr)(t0:List NN)(L:List Str)(o:Option (NN×Tp))(x:OI):Prop where
 no:o=none
 ra:∃q p b,x=some (q,TW C t0 L p b)
section
variable {C:Addr}{t0:List NN}{L:List Str}{k:Nat}{p b:Nat}{a:Int}
theorem zma(hp:p<=1000)(hw:GL L p=w)(hv:∀T,de [.d (.str w)] T=some (.none,T)):Rz C t0 L (gJ C [.tp 0] (TW C t0 L (p:Int) (b:Int))) (ky C [.tp 0] (TW C t0 L (p:Int) (b:Int))):=by
 subst hw;have a1:=gE (C:=C) (t0:=t0) (L:=L) (k:=p) (b:=(b));have i:=hv (TW C t0 L (p) (b));have n:iq .none .none=some (.bool false):=rfl;refine⟨?_,(p),(p),(b),?_⟩
 .simp[gJ,bj,Y7,a1,i,n,n5]
 .simp[ky,bj,gK,Y7,hI,a1,i,n,nZ hp]
theorem zmb(hp:p<=1000)(hw:GL L p=w)(hv:∀T,du [.d (.str w)] T=some (.bool false,T)):Rz C t0 L (gI C [.tp 0] (TW C t0 L (p:Int) (b:Int))) (ku C [.tp 0] (TW C t0 L (p:Int) (b:Int))):=by
 subst hw;have a1:=gE (C:=C) (t0:=t0) (L:=L) (k:=p) (b:=(b));have i:=hv (TW C t0 L (p) (b));refine⟨?_,(p),(p),(b),?_⟩
 .simp[gI,bj,Y7,a1,i,n5]
 .simp[ku,bj,gK,Y7,hI,a1,i,nZ hp]
theorem zmc{n:Nat}{T:Tp}(hn:n<=100):bE bx (Zu gu (af (aa 0) ai)) [some (.tp 0),some (.d (.int (n:Int))),none,none] (bh 0 n) T=some (sl ((OQ n).map ns),T):=by
 have c:=dv (e:=Zu gu (af (aa 0) ai)) (ρ:=[some (.tp 0),some (.d (.int (n))),none,none]) (T:=T) (g:=fun d=>match d with | .int i=>.str (mk (nc i))|_=>.none) (ds:=bh 0 n) fun d hd=>by
  obtain⟨i,hi,rfl⟩:=Oj.mp hd
  simp_all
  have z:=mX (i:=(0)+(i)) (er (by omega) (by omega))<;>simp_all
 have m:(bh 0 n).map (fun d=>match d with | .int i=>.str (mk (nc i))|_=>VM)=sl ((OQ n).map ns):=by
  unfold sl bh;simp[ns]
 rw[m] at c;exact c
theorem y0{w:Str}{n:Nat}(hp:p<=1000)(hn:n<=100)(hw:GL L p=w)(hv:inD (.str w) (.list (sl ((OQ n).map ns)))=some (.bool false)):Rz C t0 L (eR C [.tp 0,.d (.int (n:Int))] (TW C t0 L (p:Int) (b:Int))) (js C [.tp 0,.d (.int (n:Int))] (TW C t0 L (p:Int) (b:Int))):=by
 subst hw;have a1:=gE (C:=C) (t0:=t0) (L:=L) (k:=p) (b:=(b));have r:=dE (j:=(n)) (by omega) (by omega);have c:=zmc  (T:=TW C t0 L (p) (b)) hn;refine⟨?_,(p),(p),(b),?_⟩
 .simp[eR,bj,Y7,r,c,a1,hv,n5]
 .simp[js,bj,gK,Y7,hI,r,c,a1,hv,nZ hp]
def Kf:PyData:=.tuple [.str "put",.str "got",.str "row"]
theorem zmd(hp:p<=1000)(hw:GL L p=w)(h1:inD (.str w) Kf=some (.bool false))(h2:Zc gD (.str w)=some (.bool false)):Rz C t0 L (bQ C (k+1) [.tp 0,.d (.int a),.d (.int g)] (TW C t0 L (p:Int) (b:Int))) (dD C (k+1) [.tp 0,.d (.int a),.d (.int g)] (TW C t0 L (p:Int) (b:Int))):=by
 subst hw;have a1:=gE (C:=C) (t0:=t0) (L:=L) (k:=p) (b:=(b));unfold Kf at h1;unfold gD at h2;refine⟨?_,(p),(p),(b),?_⟩
 .simp[bQ,bj,Y7,a1,h1,h2,nq]
 .simp[dD,fK,bj,gK,Y7,hI,a1,h1,h2,nq,wJ hp]
theorem zme(hp:p<=900)(ha:a<20)(hb:b<60)(hw:GL L p=NM "put")(FD:GL L (p+1)=w)(hv:∀T,de [.d (.str w)] T=some (.none,T)):Rz C t0 L (bQ C (k+1) [.tp 0,.d (.int a),.d (.int g)] (TW C t0 L (p:Int) (b:Int))) (dD C (k+1) [.tp 0,.d (.int a),.d (.int g)] (TW C t0 L (p:Int) (b:Int))):=by
 have a1:=gE (C:=C) (t0:=t0) (L:=L) (k:=p) (b:=(b));have b2:=eG (C:=C) (t0:=t0) (L:=L) (p:=(p)) (b:=(b))  ha (by omega);obtain⟨n,q,p',b',x⟩:=zma (C:=C) (t0:=t0) (b:=b+1) (by omega) FD hv
 simp_all
 refine⟨?_,q,p',b',?_⟩
 .simp[bQ,bj,Y7,a1,fY,b2,n]
 .simp[dD,fK,bj,Y7,a1,fY,b2,n,x]
theorem zmf{g:Nat}{w:Str}(hp:p<=900)(ha:a<20)(hb:b<60)(hg:g<=12)(hw:GL L p=NM "got")(FD:GL L (p+1)=w)(hv:inD (.str w) (.list (sl ((OQ g).map ns)))=some (.bool false)):Rz C t0 L (bQ C (k+1) [.tp 0,.d (.int a),.d (.int (g:Int))] (TW C t0 L (p:Int) (b:Int))) (dD C (k+1) [.tp 0,.d (.int a),.d (.int (g:Int))] (TW C t0 L (p:Int) (b:Int))):=by
 have a1:=gE (C:=C) (t0:=t0) (L:=L) (k:=p) (b:=(b));have b2:=eG (C:=C) (t0:=t0) (L:=L) (p:=(p)) (b:=(b))  ha (by omega);obtain⟨n,q,p',b',x⟩:=y0 (C:=C) (t0:=t0) (b:=b+1) (by omega) (by omega) FD hv
 simp_all
 refine⟨?_,q,p',b',?_⟩
 .simp[bQ,bj,Y7,a1,fY,b2,n]
 .simp[dD,fK,bj,Y7,a1,fY,b2,n,x]
theorem zmg(hp:p<=900)(ha:a<20)(hb:b<60)(hw:GL L p=NM "row")(FD:GL L (p+1)=w)(hv:inD (.str w) (.list (sl ((OQ 9).map ns)))=some (.bool false)):Rz C t0 L (bQ C (k+1) [.tp 0,.d (.int a),.d (.int g)] (TW C t0 L (p:Int) (b:Int))) (dD C (k+1) [.tp 0,.d (.int a),.d (.int g)] (TW C t0 L (p:Int) (b:Int))):=by
 have a1:=gE (C:=C) (t0:=t0) (L:=L) (k:=p) (b:=(b));have b2:=eG (C:=C) (t0:=t0) (L:=L) (p:=(p)) (b:=(b))  ha (by omega);obtain⟨n,q,p',b',x⟩:=y0 (C:=C) (t0:=t0) (b:=b+1)  (by omega) (by omega) FD hv
 simp_all
 refine⟨?_,q,p',b',?_⟩
 .simp[bQ,bj,Y7,a1,fY,b2,n]
 .simp[dD,fK,bj,Y7,a1,fY,b2,n,x]
theorem rq(hp:p<=1000)(hw:GL L p=w)(h2:Zc cC (.str w)=some (.bool false)):Rz C t0 L (bB C (k+1) [.tp 0,.d (.int a),.d (.int g)] (TW C t0 L (p:Int) (b:Int))) (cJ C (k+1) [.tp 0,.d (.int a),.d (.int g)] (TW C t0 L (p:Int) (b:Int))):=by
 subst hw;have a1:=gE (C:=C) (t0:=t0) (L:=L) (k:=p) (b:=(b));unfold cC at h2;refine⟨?_,(p),(p),(b),?_⟩
 .simp[bB,bj,Y7,a1,h2,nq]
 .simp[cJ,fK,bj,gK,Y7,hI,a1,h2,nq,wJ hp]
theorem zmh(hp:p<=900)(ha:a<20)(hb:b<60)(hw:GL L p=NM "fail")(FD:GL L (p+1)=w)(hv:∀T,du [.d (.str w)] T=some (.bool false,T)):Rz C t0 L (bB C (k+1) [.tp 0,.d (.int a),.d (.int g)] (TW C t0 L (p:Int) (b:Int))) (cJ C (k+1) [.tp 0,.d (.int a),.d (.int g)] (TW C t0 L (p:Int) (b:Int))):=by
 have a1:=gE (C:=C) (t0:=t0) (L:=L) (k:=p) (b:=(b));have b2:=eG (C:=C) (t0:=t0) (L:=L) (p:=(p)) (b:=(b))  ha (by omega);obtain⟨n,q,p',b',x⟩:=zmb (C:=C) (t0:=t0) (b:=b+1) (by omega) FD hv
 simp_all
 refine⟨?_,q,p',b',?_⟩
 .simp[bB,bj,Y7,a1,Zc,dQ,b2,n]
 .simp[cJ,fK,bj,Y7,a1,Zc,dQ,b2,n,x]
theorem nY(hp:p<=900)(ha:a<20)(hb:b<60)(hw:GL L p=NM w)(h2:Zc cC (.str (NM w))=some (.bool true))(h3:¬w="fail")(he:Rz C t0 L (bQ C 25 [.tp 0,.d (.int (a+1)),.d (.int 0)] (TW C t0 L ((p+1:Nat):Int) ((b+1:Nat):Int))) (dD C 25 [.tp 0,.d (.int (a+1)),.d (.int 0)] (TW C t0 L ((p+1:Nat):Int) ((b+1:Nat):Int)))) :
  Rz C t0 L (bB C (k+1) [.tp 0,.d (.int a),.d (.int 0)] (TW C t0 L (p:Int) (b:Int))) (cJ C (k+1) [.tp 0,.d (.int a),.d (.int 0)] (TW C t0 L (p:Int) (b:Int))):=by
 have a1:=gE (C:=C) (t0:=t0) (L:=L) (k:=p) (b:=(b));have b2:=eG (C:=C) (t0:=t0) (L:=L) (p:=(p)) (b:=(b))  ha (by omega);obtain⟨n,q,p',b',x⟩:=he
 simp_all
 unfold cC at h2;refine⟨?_,q,p',b',?_⟩
 .simp[bB,bj,Y7,a1,h2,h3,dQ,b2,n]
 .simp[cJ,fK,bj,Y7,a1,h2,h3,dQ,b2,n,x]
end
theorem uZ:XO.nN it f g ρ T=XI (it ρ T) fun ds T1=>XO.gT f g ρ ds T1:=rfl
theorem uh:XO.gT f g ρ [] T=none:=rfl
theorem ui:XO.gT f g ρ (d::r) T=AZ (XI (f (some (.d d)::ρ) T) fun _ T1=>XO.gT f g ρ r T1) fun _=>g (some (.d d)::ρ) T :=rfl
section
variable {C:Addr}{t0:List NN}{L:List Str}{k:Nat}{p b:Nat}{a:Int}
theorem zmi{n ce:Nat}{we post:List Str}{e:NN}(hn:n<=12)(ha:a+(n:Int)<20)(hb:b+1+ce<=60)(hd:L.drop p=NM "want"::(we++post))(he:EX C 0 n ce we e)
  (hs:Rz C t0 L (bB C k [.tp 0,.d (.int (a+1)),.d (.int 1)] (TW C t0 L ((p+1+we.length:Nat):Int) ((b+1+ce:Nat):Int))) (cJ C k [.tp 0,.d (.int (a+1)),.d (.int 1)] (TW C t0 L ((p+1+we.length:Nat):Int) ((b+1+ce:Nat):Int)))) :
  Rz C t0 L (bB C (k+1) [.tp 0,.d (.int a),.d (.int 0)] (TW C t0 L (p:Int) (b:Int))) (cJ C (k+1) [.tp 0,.d (.int a),.d (.int 0)] (TW C t0 L (p:Int) (b:Int))):=by
 obtain⟨a0,d0⟩:=eZ hd;have b1:=fh (C:=C) (t0:=t0) (b:=(b:Int)) a0;have b2:=eG (C:=C) (t0:=t0) (L:=L) (p:=(p:Int)) (b:=(b:Int)) (a:=a) (by omega) (by omega);have b3:=he.rd 25 (a+1) (by omega) (by omega) t0 L (p+1) (b+1) _ (by omega) d0;have e3:TW C t0 L ((p+1:Nat):Int) ((b+1:Nat):Int)=TW C t0 L ((p:Int)+1) ((b:Int)+1):=fS (by omega) (by omega);rw[e3] at b3;obtain⟨h1,q,p',b',h2⟩:=hs
 simp_all
 have gb:∀T,eV [.d (.str "want"),.d (.int 0)] T=some (.int 1,T):=fun T=>by simp[eV,dQ]
 have r1:iZ 1=true:=dE (by decide) (by decide);have n1:bh 0 (1:Int).toNat=[.int 0]:=rfl;have Em:bh 0 1=[.int 0]:=rfl;refine⟨?_,q,p',b',?_⟩
 .simp[bB,bj,Y7,b1,Zc,D.atT,dQ,b2,b3,gb,r1,n1,Em,bE,h1]
 .simp[cJ,fK,bj,gK,Y7,hI,b1,Zc,D.atT,dQ,b2,b3,gb,r1,n1,Em,uZ,ui,uh,h1,h2]
theorem zmj{n ce cr:Nat}{we wr post:List Str}{e r:NN}(hn:n<=12)(hk:n<=k)(ha:a+(n:Int)<20)(hb:b+1+ce+cr<=60)(hd:L.drop p=NM "when"::(we++(wr++post)))(he:EX C 0 n ce we e)(hr:RX C 0 n cr wr r)
  (hs:Rz C t0 L (bB C k [.tp 0,.d (.int (a+1)),.d (.int 0)] (TW C t0 L ((p+1+we.length+wr.length:Nat):Int) ((b+1+ce+cr:Nat):Int))) (cJ C k [.tp 0,.d (.int (a+1)),.d (.int 0)] (TW C t0 L ((p+1+we.length+wr.length:Nat):Int) ((b+1+ce+cr:Nat):Int)))) :
  Rz C t0 L (bB C (k+1) [.tp 0,.d (.int a),.d (.int 0)] (TW C t0 L (p:Int) (b:Int))) (cJ C (k+1) [.tp 0,.d (.int a),.d (.int 0)] (TW C t0 L (p:Int) (b:Int))):=by
 obtain⟨a0,d0⟩:=eZ hd;have b1:=fh (C:=C) (t0:=t0) (b:=(b:Int)) a0;have b2:=eG (C:=C) (t0:=t0) (L:=L) (p:=(p:Int)) (b:=(b:Int)) (a:=a) (by omega) (by omega);have b3:=he.rd 25 (a+1) (by omega) (by omega) t0 L (p+1) (b+1) _ (by omega) d0;have e3:TW C t0 L ((p+1:Nat):Int) ((b+1:Nat):Int)=TW C t0 L ((p:Int)+1) ((b:Int)+1):=fS (by omega) (by omega);rw[e3] at b3
 have d1:L.drop (p+1+we.length)=wr++post:=by rw[←Q4,d0,RF]
 have b4:=hr.rd k (a+1) hk (by omega) t0 L (p+1+we.length) (b+1+ce) _ (by omega) d1;simp only[QO] at b4;obtain⟨h1,q,p',b',h2⟩:=hs;generalize TW C t0 L ((p+1+we.length+wr.length:Nat):Int) ((b+1+ce+cr:Nat):Int)=T9 at b4 h1 h2;generalize TW C t0 L ((p+1+we.length:Nat):Int) ((b+1+ce:Nat):Int)=T8 at b3 b4
 have gb:∀T,eV [.d (.str "when"),.d (.int 0)] T=some (.int 0,T):=fun T=>by simp[eV,dQ]
 have r1:iZ 2=true:=dE (by decide) (by decide);have n1:bh 0 (2:Int).toNat=[.int 0,.int 1]:=rfl;have Em:bh 0 2=[.int 0,.int 1]:=rfl;refine⟨?_,q,p',b',?_⟩
 .simp[bB,bj,Y7,b1,Zc,D.atT,dQ,b2,b3,gb,r1,n1,Em,bE,b4,h1]
 .simp[cJ,fK,bj,gK,Y7,hI,b1,Zc,D.atT,dQ,b2,b3,gb,r1,n1,Em,uZ,ui,uh,b4,h1,h2]
end
theorem zmk{C:Addr}{t0:List NN}{L:List Str}{k:Nat}{b:Int}(h:k<L.length):iH C [.tp 0] (TW C t0 L (k:Int) b)=none:=by
 have h':=by omega
 simp[iH,ik,kH,iR,gQ,h']
theorem zml{C:Addr}{t0:List NN}{L:List Str}{k:Nat}{b:Int}(h:k<L.length)(hk:k<=1000):kl C [.tp 0] (TW C t0 L (k:Int) b)=some ((k:Int),TW C t0 L (k:Int) b):=by
 have h':(k)<(L.length):=by omega
 simp[kl,ik,kH,iR,gQ,h',rl hk]
theorem zmm(C:Addr):hW C=aW 3 (gY 1 C (cI C) (aa 0) (BV C)):=rfl
theorem zmn(C:Addr):jt C=XO.dP 3 (XO.iW 1 C (cI C) (aa 0) (G4 C)):=rfl
theorem zmo(C:Addr):dR C=aW 1 (XO.gq (aB (av (hW C) (af (aa 0) ai))) (XO.cS (jt C) (af (aa 0) ai)) (aB (fC .none))):=rfl
structure Cu(ws:List Str):Prop where
 ne:ws≠[]
 no:∀w∈ws,32∉cd w
 len:(ws.map (·.length)).sum+ws.length<=250000
section
variable {C:Addr}{t0:List NN}{ws:List Str}
theorem zmp{f:FS}{x:XO.Ys}{h:FS}{ρ:XD}{T T1:Tp}{n:Int}(h1:f ρ T=none)(h2:x ρ T=some (n,T1)):XO.gq f x h ρ T=h ρ T1:=by unfold XO.gq<;>simp_all
theorem zmq{f:FS}{x:XO.Ys}{h:FS}{ρ:XD}{T:Tp}{r:(Fl×XD)×Tp}(h1:f ρ T=some r):XO.gq f x h ρ T=some r:=by
 unfold XO.gq;rw[h1]
theorem xf(hw:Cu ws)(h1:BV C [some (.d (.str (Ob BL ws))),some (.tp 0),none] (TW C t0 ws 0 0)=none)(h2:G4 C [some (.d (.str (Ob BL ws))),some (.tp 0),none] (TW C t0 ws 0 0)=some (q,TW C t0 ws p b)):dR C [.d (.str (Ob BL ws))] []=some (.none,[]):=by
 have i:=wN (C:=C) (t0:=t0) hw.ne hw.no hw.len;have lt:gW (TW C t0 ws p b)=some ([],jh C ws p b):=rfl
 have m1:gY 1 C (cI C) (aa 0) (BV C) [some (.d (.str (Ob BL ws))),none,none] []=none:=by
  unfold gY;rw[if_pos (show gS [some (.d (.str (Ob BL ws))),none,none]=true from rfl)];show FU 1 C (cI C) _ _ (.d (.str (Ob BL ws))) []=_;unfold FU;dsimp only;show (match cI C [.tp 0,.d (.str (Ob BL ws))] [[bK C]] with|some (.none,T2)=>i8 _|_=>none)=_;rw[i];show i8 (BV C [some (.d (.str (Ob BL ws))),some (.tp 0),none] (TW C t0 ws 0 0))=_;rw[h1];rfl
 have m2:XO.iW 1 C (cI C) (aa 0) (G4 C) [some (.d (.str (Ob BL ws))),none,none] []=some (q,[]):=by
  unfold XO.iW;rw[if_pos (show gS [some (.d (.str (Ob BL ws))),none,none]=true from rfl)];show XO.oU 1 C (cI C) _ _ (.d (.str (Ob BL ws))) []=_;unfold XO.oU;dsimp only;show (match cI C [.tp 0,.d (.str (Ob BL ws))] [[bK C]] with|some (.none,T2)=>_|_=>none)=_;rw[i];show XO.nI (G4 C [some (.d (.str (Ob BL ws))),some (.tp 0),none] (TW C t0 ws 0 0))=_;rw[h2];unfold XO.nI;dsimp only;rw[lt]
 have r1:hW C [.d (.str (Ob BL ws))] []=none:=by
  rw[zmm];simp[m1]
 have r2:jt C [.d (.str (Ob BL ws))] []=some (q,[]):=by
  rw[zmn];simp[m2]
 rw[zmo];show dM (XO.gq _ _ _ [some (.d (.str (Ob BL ws)))] [])=_;rw[zmp (n:=q) (T1:=[]) (by simp[r1]) (by simp[r2])];rfl
theorem zmr(hw:Cu ws)(hz:∀t0,Rz C t0 ws (bB C 25 [.tp 0,.d (.int 0),.d (.int 0)] (TW C t0 ws ((0:Nat):Int) ((0:Nat):Int))) (cJ C 25 [.tp 0,.d (.int 0),.d (.int 0)] (TW C t0 ws ((0:Nat):Int) ((0:Nat):Int)))):dR C [.d (.str (Ob BL ws))] []=some (.none,[]):=by
 obtain⟨h1,q,p,b,h2⟩:=hz []
 simp_all
 exact xf (t0:=[]) hw (q:=q) (p:=p) (b:=b) (by simp[BV,h1]) (by simp[G4,fK,h1,h2])
theorem vD(h:RX C 0 n c ws r)(hn:n<=20)(hu:us≠[])(hw:Cu (ws++us)):dR C [.d (.str (Ob BL (ws++us)))] []=some (.none,[]):=by
 have rd:=h.rd 25 0 (by omega) (by omega) [] (ws++us) 0 0 us (by have:=h.c6;omega) (by simp);have zV:bB C 25 [.tp 0,.d _,.d (.int 0)] (TW C [] _ 0 0)=some _:=rd
 have hl:ws.length<(ws++us).length:=by
  simp_all<;>grind
 have f1:=zmk (C:=C) (t0:=[]) (b:=(c)) hl;have f2:=zml (C:=C) (t0:=[]) (b:=(c)) hl (by have:=h.ln;have:=h.c6;omega);refine xf (t0:=[]) hw (q:=(ws.length)) (p:=(ws.length)) (b:=(c)) ?_ ?_
 .simp[BV,zV,bj,Y7,f1]
 .simp[G4,fK,zV,gK,hI,f2]
theorem ym(h:RX C 0 n c ws r)(hn:n<=20):dR C [.d (.str (Ob BL ws))] []=some (r,[]):=by
 have e:=zkx (t0:=[]) h hn;show dM (XO.gq _ _ _ [some _] [])=_;rw[zmq (r:=((.rt r,[some (.d (.str (Ob BL ws)))]),[])) (by simp[e])];rfl
end
theorem mK(T:Tp)(hz:x.length<=NX):du [.d (.str x)] T=some (.bool (isName (.str x)),T):=by
 have hh:=oB (y:=ZV) T hz;have CV:eB [.d _,.d (.str "abcdefghijklmnopqrstuvwxyz")] T=some _:=hh;have e:isName (.str x)=(decide _&&decide _&&has ZV x):=rfl
 by_cases l1:1<=x.length
 .have FW:(1:Int)<=(x.length):=by omega
  by_cases l8:x.length<=8
  .have Ij:(x.length:Int)<=8:=by omega
   simp[du,lq,hz,FW,Ij,CV,e,l1,l8]
  .have Ij:¬(x.length:Int)<=8:=by omega
   simp[du,lq,hz,FW,Ij,e,l8]
 .have FW:¬(1)<=(x.length:Int):=by omega
  simp[du,lq,hz,FW,e,l1]
theorem yD(h:w∉l):inD (.str w) (.list (sl l))=some (.bool false):=by
 have e1:(sl l).all eN=true:=Oq.mpr fun d hd=>by
  obtain⟨x,_,rfl⟩:=Oj.mp hd;rfl
 have e2:((sl l).any fun y=>ID y (.str w))=false:=U2.mpr fun d hd z=>by
  obtain⟨x,hx,rfl⟩:=Oj.mp hd
  have:=eq_of_beq z<;>simp_all
 have e3:HR (.str w) (.list (sl l))=if _=true then some _ else none:=rfl
 unfold inD;rw[e3,e1,e2];rfl
def g9(l:List Nat):Bool:=match c8 4 l with
 |none=>true
 |some (v,r)=>!r.isEmpty||(Bm v&&!aS v)
theorem zL(T:Tp)(hl:l.length<=60000)(h:g9 l=true):de [.d (.str (mk l))] T=some (.none,T):=by
 have ht:(mk l).length<=60000:=by rw[di];exact hl
 have Z8:(mk l).length<=sizeLine:=Oc ht (by decide);have e:=qP (T:=T) ht 4 25 (by decide) l (by rw[dm];exact List.suffix_refl _);rw[di,W9] at e;have e':=e;have hz:(mk l).length=l.length:=di _;unfold g9 at h
 cases hv:c8 4 l with
 |none=>
  rw[hv] at e';have e2:df 25 [.d (.str (mk l)),.d (.int 0),.d (.int 4)] T=some (.none,T):=e';simp[de,e2,isNone]
 |some q=>
  obtain⟨v,r⟩:=q;rw[hv] at e' h;have e2:df 25 [.d (.str (mk l)),.d (.int 0),.d (.int 4)] T=some (.tuple [v,.int _],T):=e';have hs:=qt 4 l v r hv;have CU:=hs.length_le
  by_cases hr:r=[]
  .subst hr
   simp at h;have iv:=wM T (show Sm v from h.1);rw[h.2] at iv;rw[hz] at Z8;simp[de,e2,isNone,gB,gA,Z8,hz,iv]
  .have Gq:0<r.length:=List.length_pos_iff.mpr hr
   have hn:((l.length-r.length:Nat):Int)<(l.length:Int):=by omega
   rw[hz] at Z8;simp[de,e2,isNone,gB,gA,Z8,hz,hn]
theorem rX(T:Tp)(h:(decide ((cd (NM t)).length<=60000)&&g9 (cd (NM t)))=true):de [.d (.str (NM t))] T=some (.none,T):=by
 rw[NY] at h;have:=zL T (of_decide_eq_true h.1) h.2;exact this
theorem zms(h:aJ (m+1) (.tuple ds)=true)(l:List Nat):c8 (m+1) (cst (m+1) (.tuple ds)++l)=some (.tuple ds,l):=by
 rcases f7 h with h1|⟨m',HD,e1,e2,h8,hb⟩
 .rcases ju h1 with⟨_,z⟩|⟨_,z⟩ <;> cases z
 cases e1;cases e2
 have e:cst (m+1) (.tuple ds)++l=40::(bb [44] (ds.map (cst m))++41::l):=by
  show (40::_)++l=_;simp
 rw[e];unfold c8
 cases ds with
 |nil=>rfl
 |cons d ds=>
  have hh:=vc m d (hb d NZ);have e2:(40::_).tail=bb [44] ((d::ds).map (cst m))++41::l:=rfl
  have e3:(bb [44] ((d::ds).map (cst m))++41::l).head?≠some 41:=by
   rw[OJ,jB,QY,mz hh.1];exact hh.2
  rw[e2,if_neg e3];have:=pI   (post:=l) ds d 100000 [] (by simp at h8;omega) (fun x hx l hl=>val_back m x (hb x hx) l hl);rw[this];rfl
theorem y3(hw:∀c∈w,dl c=false):W w=w:=by have:=rW (l:=[]) hw (fun c hc=>by cases hc)<;>simp_all
def XY:List Nat:=[32,120,32,121]
theorem zmt(h:aS v=true):g9 (cst 4 v++XY)=true:=by
 obtain⟨hb,hm⟩:=ib h
 have xy:∀c∈XY,dl c=false:=by decide +kernel
 have xl:∀c∈XY,c<128:=by decide +kernel
 rcases f7 hb with h1|⟨m,ds,e1,rfl,h8,C8⟩
 .rcases ju h1 with⟨i,rfl⟩|⟨x,rfl⟩
  .have hd:∀c∈nc i++XY,dl c=false:=fun c hc=>(Oz.mp hc).elim (uR i c) (xy c)
   have hs:=kT i;have F7:=yv i
   have h0:∀c,(nc i++XY).head? = some c->c=45\/(48<=c/\c<=57):=fun c hc=>by
    rw[mz F7] at hc;exact hs c (Vj hc)
   have xI:(nc i++XY).head?≠some 39:=fun z=>by have:=h0 _ z;omega
   have FC:(nc i++XY).head?≠some 40:=fun z=>by have:=h0 _ z;omega
   have m32:32∈fg (nc i++XY):=by
    unfold fg;split
    .obtain⟨a,r,e⟩:=Q5 F7
     rw[e];simp[XY]
    .simp[XY]
   have nf:fw (fg (nc i++XY))=false:=by
    cases z:fw (fg (nc i++XY)) with
    |false=>rfl
    |true=>
     have:=(uX z).1 32 m32;omega
   unfold g9;rw[nh,pR FC];unfold fO;rw[y3 hd];unfold gj;rw[if_neg xI];unfold lX;rw[if_pos (.inr (.inr nf))];rfl
  .have h':(decide (x.length<=20)&&has Iz x)=true:=h1
   rw[NY] at h';have l20:=of_decide_eq_true h'.1
   have hd:∀c∈39::cd x++XY,dl c=false:=fun c hc=>by
    rcases Oz.mp hc with z|z
    .rcases N4.mp z with z|z
     .subst z;rw[rp];rfl
     .exact txt_codes h'.2 c z
    .exact xy c z
   have hc:∀c∈cd (mk (cd x++XY)),c<128:=fun c hc=>by
    rw[dm] at hc
    rcases Oz.mp hc with z|z
    .exact(pV c (of_decide_eq_true (Oq.mp h'.2 c z))).1
    .exact xl c z
   have sm:Bm (.str (mk (cd x++XY)))=true:=Sm.mkS (by rw[di,OS,cM];have:XY.length=4:=rfl;omega) hc
   have nv:aS (.str (mk (cd x++XY)))=false:=by
    cases z:aS (.str (mk (cd x++XY))) with
    |false=>rfl
    |true=>
     obtain⟨hb2,_⟩:=ib z
     rcases f7 hb2 with h3|⟨_,_,_,z3,_⟩
     .have E5:(decide ((mk (cd x++XY)).length<=20)&&has Iz (mk (cd x++XY)))=true:=h3
      rw[NY] at E5
      have:(32:Nat)∈cd (mk (cd x++XY)):=by rw[dm];simp[XY]
      exact absurd rfl (pV 32 (of_decide_eq_true (Oq.mp E5.2 32 this))).2
     .cases z3
   unfold g9
   have FC:(39::cd x++XY).head?≠some 40:=by simp
   rw[m9,pR FC];unfold fO;rw[y3 hd]
   unfold gj<;>simp_all
 .cases e1
  unfold g9;rw[zms hb XY];rfl
def AL(ws:List Str):Bool:=!ws.isEmpty&&ws.all (fun w=>(cd w).all fun c=>decide (c≠32))&&decide ((ws.map (·.length)).sum+ws.length<=250000)
theorem yj(h:AL ws=true):Cu ws:=by
 unfold AL at h;rw[NY,NY] at h;refine⟨fun z=>?_,fun w hw z=>?_,of_decide_eq_true h.2⟩
 .subst z
  exact Ov h.1.1
 .exact of_decide_eq_true (Oq.mp (Oq.mp h.1.2 w hw) 32 z) rfl
def sw(l:List String):List Str:=l.map NM
def oP(t:String)(l:List String):Bool:=decide (NM t=Ob BL (sw l))&&AL (sw l)
section
variable {C:Addr}
abbrev Iw(C:Addr)(ws:List Str):Prop:=∀t0,Rz C t0 ws (bB C 25 [.tp 0,.d (.int 0),.d (.int 0)] (TW C t0 ws ((0:Nat):Int) ((0:Nat):Int))) (cJ C 25 [.tp 0,.d (.int 0),.d (.int 0)] (TW C t0 ws ((0:Nat):Int) ((0:Nat):Int)))
theorem dz{t:String}{l:List String}(h:oP t l=true)(hz:Iw C (sw l)):dR C [.d (.str (NM t))] []=some (.none,[]):=by
 unfold oP at h;rw[NY] at h;rw[of_decide_eq_true h.1];exact zmr (yj h.2) hz
theorem zmu(h:(decide ((NM w).length<=100)&&!isName (.str (NM w)))=true)(T:Tp):du [.d (.str (NM w))] T=some (.bool false,T):=by
 rw[NY,Vh] at h;have:=mK T (Oc (of_decide_eq_true h.1) (by decide))
 rw[h.2] at this<;>omega
theorem k9(h:Zc cC (.str (NM w))=some (.bool false)):Iw C (sw (w::l)):=fun t0=>rq  (by decide) rfl h
theorem qW(hw:GL (sw ("fail"::l)) 1=NM w)(h:(decide ((NM w).length<=100)&&!isName (.str (NM w)))=true):Iw C (sw ("fail"::l)):=fun t0=>zmh  (by decide) (by decide) (by decide) rfl hw (zmu h)
theorem k8:Zc cC (.str "say")=some (.bool true) :=rfl
theorem vJ(hw:GL (sw ("say"::l)) 1=NM w)(h1:inD (.str (NM w)) Kf=some (.bool false))(h2:Zc gD (.str (NM w))=some (.bool false)):Iw C (sw ("say"::l)):=fun t0=>nY   (by decide) (by decide) (by decide) rfl k8 (by decide) (zmd  (by decide) hw h1 h2)
theorem vK(hw:GL (sw ("say"::"put"::l)) 2=NM w)(h:(decide ((cd (NM w)).length<=60000)&&g9 (cd (NM w)))=true):Iw C (sw ("say"::"put"::l)):=fun t0=>nY   (by decide) (by decide) (by decide) rfl k8 (by decide) (zme  (by decide) (by decide) (by decide) rfl hw fun T=>rX T h)
theorem zmv:Iw C (sw ["say","got","0"]):=fun t0=>nY   (by decide) (by decide) (by decide) rfl k8 (by decide) (zmf   (by decide) (by decide) (by decide) (by decide) rfl rfl (yD (by simp)))
theorem zmw:Iw C (sw ["say","row","9"]):=fun t0=>nY   (by decide) (by decide) (by decide) rfl k8 (by decide) (zmg  (by decide) (by decide) (by decide) rfl rfl (yD (by decide +kernel)))
theorem zmx:EX C 0 1 1 ["put","'a"] (.tuple [.str "put",.str "a"]):=by
 have:=rB (C:=C) (m:=0) (n:=1) (v:=.str "a") (by decide) (by decide +kernel)
 have e:mk (cst 4 (.str "a"))=NM "'a":=by decide +kernel
 rwa [e] at this
theorem zu(h:aS (.int i)=true)(e:mk (cst 4 (.int i))=NM w):EX C 0 1 1 [NM "put",NM w] (.tuple [.str "put",.int i]):=by have:=rB (C:=C) (m:=0) (n:=1)  (by decide) h<;>simp_all
theorem oO{i:Int}{w:String}(h:aS (.int i)=true)(e:mk (cst 4 (.int i))=NM w):RX C 0 2 2 [NM "say",NM "put",NM w] (.tuple [.str "say",.tuple [.str "put",.int i]]):=nk     (qs:=[]) (g':=0) (by decide) (by decide +kernel) (by decide) k8 (by simp[D.atT,cC]) (by decide) (by decide) (by decide) (zu h e) (by simp) (by decide)
theorem mQ:Zc cC (.str "")=some (.bool false) :=rfl
theorem zmy:Iw C (sw ["want","put","'a"]):=fun t0=>zmi     (by decide) (by decide) (by decide) rfl zmx (rq   (by decide) rfl mQ)
theorem zmz:Iw C (sw ["when","put","0","say","put","1"]):=fun t0=>zmj        (by decide) (by decide) (by decide) (by decide) rfl ((zu  (i:=0)  (by decide +kernel) (by decide +kernel)).up (by decide)) (oO (i:=1)  (by decide +kernel) (by decide +kernel)) (rq   (by decide) rfl mQ)
theorem zk{t:String}{i:Int}{w:String}{us:List String}(h:aS (.int i)=true)(e:mk (cst 4 (.int i))=NM w)(hu:us≠[])(ht:oP t ("say"::"put"::w::us)=true):dR C [.d (.str (NM t))] []=some (.none,[]):=by
 unfold oP at ht;rw[NY] at ht;rw[of_decide_eq_true ht.1];have e2:sw ("say"::"put"::w::us)=[NM "say",NM "put",NM w]++sw us:=rfl;have ok:=yj ht.2;rw[e2] at ok ⊢;exact vD (oO h e) (by decide) (fun z=>hu (UI.mp z)) ok
def Ke:List String:=["","say","say put","say put 01","fail","fail 1","fail A","want put 'a","say got 0","say put 0 0","when put 0 say put 1","tell put 1","say  put 1"," say put 1","say put 1 ","say row 9","put 1"]
theorem bt3(h:t∈Ke):dR C [.d (.str (NM t))] []=some (.none,[]):=by
 have nw:inD (.str "") Kf=some (.bool false):=by unfold Kf;rw[fY];rfl
 have nt:Zc gD (.str "")=some (.bool false):=by simp[Zc,gD]
 simp only[Ke,N4,Pd,or_false] at h
 rcases h with rfl|rfl|rfl|rfl|rfl|rfl|rfl|rfl|rfl|rfl|rfl|rfl|rfl|rfl|rfl|rfl|rfl
 .exact dz (l:=[""]) (by decide +kernel) (k9 mQ)
 .exact dz (l:=["say"]) (by decide +kernel) (vJ (w:="") rfl nw nt)
 .exact dz (l:=["say","put"]) (by decide +kernel) (vK (w:="") rfl (by decide +kernel))
 .exact dz (l:=["say","put","01"]) (by decide +kernel) (vK (w:="01") rfl (by decide +kernel))
 .exact dz (l:=["fail"]) (by decide +kernel) (qW (w:="") rfl (by decide +kernel))
 .exact dz (l:=["fail","1"]) (by decide +kernel) (qW (w:="1") rfl (by decide +kernel))
 .exact dz (l:=["fail","A"]) (by decide +kernel) (qW (w:="A") rfl (by decide +kernel))
 .exact dz (l:=["want","put","'a"]) (by decide +kernel) zmy
 .exact dz (l:=["say","got","0"]) (by decide +kernel) zmv
 .exact zk (i:=0) (w:="0") (us:=["0"]) (by decide +kernel) (by decide +kernel) (by decide) (by decide +kernel)
 .exact dz (l:=["when","put","0","say","put","1"]) (by decide +kernel) zmz
 .exact dz (l:=["tell","put","1"]) (by decide +kernel) (k9 (by simp[Zc,cC]))
 .exact dz (l:=["say","","put","1"]) (by decide +kernel) (vJ (w:="") rfl nw nt)
 .exact dz (l:=["","say","put","1"]) (by decide +kernel) (k9 mQ)
 .exact zk (i:=1) (w:="1") (us:=[""]) (by decide +kernel) (by decide +kernel) (by decide) (by decide +kernel)
 .exact dz (l:=["say","row","9"]) (by decide +kernel) zmw
 .exact dz (l:=["put","1"]) (by decide +kernel) (k9 (by simp[Zc,cC]))
theorem zna:dR C [.d (.str "1")] []=some (.none,[]):=dz (l:=["1"]) (by decide +kernel) (k9 (by simp[Zc,cC]))
theorem znb:dR C [.d (.str "say put 1")] []=some (.tuple [.str "say",.tuple [.str "put",.int 1]],[]):=by
 have:=ym (C:=C) (oO  (i:=1) (w:="1") (by decide +kernel) (by decide +kernel)) (by decide)
 have e:Ob BL ["say","put","1"]=NM "say put 1":=by decide +kernel
 rwa [e] at this
end
abbrev OB(x:Str):=R9 x ⟨#[32]⟩ x.length 2
theorem kR:∀(l:List Nat) (st:Array Nat×Nat),(∀i∈l,(cd x)[i]?≠some 32)->forIn (m:=Id) (l++r) st (OB x)=forIn (m:=Id) r st (OB x)
 |[],st,_=>rfl
 |i::l,st,h=>by
  rw[VE,R6]
  have e:OB x i st=pure (Qw st):=by
   unfold OB R9;rw[if_neg fun z=>h i NZ ((Vk x 32 i).mp ⟨z.1.2,z.2⟩)]
  rw[e];exact kR l st fun j hj=>h j (NV _ hj)
theorem vT:∀(l:List Nat) (st:Array Nat×Nat),2<=st.fst.size->forIn (m:=Id) l st (OB x)=st
 |[],st,_=>rfl
 |i::l,st,h=>by
  rw[R6]
  have e:OB x i st=pure (Qw st):=by
   unfold OB R9;rw[if_neg fun z=>by omega]
  rw[e];exact vT l st h
theorem rc{st:Array Nat×Nat}(h:(cd x)[i]? = some 32)(h1:st.fst.size<2)(h2:st.snd<=i):forIn (m:=Id) (i::l) st (OB x)=forIn (m:=Id) l (st.fst.push i,i+1) (OB x):=by
 rw[R6];obtain⟨a,b⟩:=(Vk x 32 i).mpr h
 have e:OB x i st=pure (Qw (st.fst.push i,i+1)):=by
  unfold OB R9;rw[if_pos ⟨⟨⟨h1,h2⟩,a⟩,b⟩];rfl
 rw[e];rfl
theorem znc(h:cd x=a++32::(b++32::c))(ha:32∉a)(hb:32∉b):OM x ⟨#[32]⟩ 0 x.length 2=[a.length,a.length+1+b.length]:=by
 rw[Wk]
 have hl:x.length=a.length+(b.length+c.length)+2:=by
  rw[←cM,h];simp;omega
 have e:O4 0 (x.length+1-0)=O4 0 a.length++a.length::(O4 (a.length+1) b.length++(a.length+1+b.length)::O4 (a.length+1+b.length+1) (c.length+1)):=by
  rw[←QJ,R3,←QJ];have:=R3 (s:=0) (m:=a.length) (n:=b.length+(c.length+1+1)+1);rw[RG] at this;rw[this]
  congr 1
  omega
 have g1:∀i∈O4 0 a.length,(cd x)[i]?≠some 32:=fun i hi z=>by
  have Hd:=(RH.mp hi).2;rw[h,N7 (by omega)] at z;exact ha (OC z)
 have g2:(cd x)[a.length]? = some 32:=by rw[h];simp
 have g3:∀i∈O4 (a.length+1) b.length,(cd x)[i]?≠some 32:=fun i hi z=>by
  have Hd:=RH.mp hi;obtain⟨j,rfl⟩:∃j,i=a.length+(j+1):=⟨i-a.length-1,by omega⟩;rw[h,Po (by omega)] at z
  have:a.length+(j+1)-a.length=j+1:=by omega
  rw[this,Rq,N7 (by omega)] at z;exact hb (OC z)
 have g4:(cd x)[a.length+1+b.length]? = some 32:=by
  rw[h,Po (by omega)]
  have:a.length+1+b.length-a.length=b.length+1:=by omega
  rw[this,Rq,Po (by omega)];simp
 have s3:forIn (m:=Id) (O4 0 a.length++a.length::(O4 (a.length+1) b.length++(a.length+1+b.length)::O4 (a.length+1+b.length+1) (c.length+1))) ((#[]:Array Nat),0) (OB x)=(#[a.length,a.length+1+b.length],a.length+1+b.length+1):=by
  rw[kR _ _ g1,rc g2 (by simp) (by simp),kR _ _ g3,rc g4 (by simp) (by simp),vT _ _ (by simp)];rfl
 rw[e];show (forIn (m:=Id) _ ((#[]:Array Nat),0) (OB x)).fst.toList=_;rw[s3]
theorem znd:cd (QP x i j)=((cd x).drop i).take (j-i):=by unfold QP cd<;>simp_all
theorem zne(h:cd x=a++32::b)(ha:32∉a)(hb:32∉b):OM x ⟨#[32]⟩ 0 x.length 2=[a.length]:=by
 rw[Wk]
 have hl:x.length=a.length+b.length+1:=by
  rw[←cM,h];simp;omega
 have e:O4 0 (x.length+1-0)=O4 0 a.length++a.length::(O4 (a.length+1) (b.length+1)++[]):=by
  rw[Pb,←QJ];have:=R3 (s:=0) (m:=a.length) (n:=b.length+1+1);rw[RG] at this;rw[this]
  congr 1
  omega
 have g1:∀i∈O4 0 a.length,(cd x)[i]?≠some 32:=fun i hi z=>by
  have Hd:=(RH.mp hi).2;rw[h,N7 (by omega)] at z;exact ha (OC z)
 have g2:(cd x)[a.length]? = some 32:=by rw[h];simp
 have g3:∀i∈O4 (a.length+1) (b.length+1),(cd x)[i]?≠some 32:=fun i hi z=>by
  have Hd:=RH.mp hi;obtain⟨j,rfl⟩:∃j,i=a.length+(j+1):=⟨i-a.length-1,by omega⟩;rw[h,Po (by omega)] at z
  have:a.length+(j+1)-a.length=j+1:=by omega
  rw[this,Rq] at z;exact hb (OC z)
 have s3:forIn (m:=Id) (O4 0 a.length++a.length::(O4 (a.length+1) (b.length+1)++[])) ((#[]:Array Nat),0) (OB x)=(#[a.length],a.length+1):=by
  rw[kR _ _ g1,rc g2 (by simp) (by simp),kR _ _ g3];rfl
 rw[e];show (forIn (m:=Id) _ ((#[]:Array Nat),0) (OB x)).fst.toList=_;rw[s3]
theorem vv(hx:0<x.length):¬(decide (x.length<(⟨#[32]⟩:Str).length)||decide (Pl x<Pl ⟨#[32]⟩))=true:=by
 have k1:Pl ⟨#[32]⟩=1:=by decide +kernel
 have k2:¬Pl x<1:=by
  unfold Pl;split
  .omega
  .split <;> omega
 have l1:(⟨#[32]⟩:Str).length=1:=rfl;rw[k1,l1];simp[k2];omega
theorem pZ(h:cd x=cd w++32::(cd y++32::cd t))(hw:32∉cd w)(hy:32∉cd y):Py x BL 2=[w,y,t]:=by
 have o:=znc h hw hy
 have hl:x.length=(cd w).length+((cd y).length+(cd t).length)+2:=by
  rw[←cM,h];simp;omega
 unfold Py;have e2:QV x 2=2:=rfl;rw[e2,y9,if_neg (vv (by omega)),o];have l1:(⟨#[32]⟩:Str).length=1:=rfl;rw[l1];show [QP x 0 _,QP x _ _,QP x _ _]=_;refine xx ?_;simp only[OJ,znd,h]
 have d1:(cd w++32::(cd y++32::cd t)).drop ((cd w).length+1)=cd y++32::cd t:=by simp_all
 have d2:(cd w++32::(cd y++32::cd t)).drop ((cd w).length+1+(cd y).length+1)=cd t:=by
  rw[Nat.add_assoc _,←Q4,d1,←Q4,RF];rfl
 rw[d1,d2,Wj,W7,Wl]
 have t1:(cd w).length+1+(cd y).length-((cd w).length+1)=(cd y).length:=by omega
 rw[t1,Wl,Pq (by omega)]
theorem znf(h:cd x=cd w++32::cd y)(hw:32∉cd w)(hy:32∉cd y):(Py x BL 2).length=2:=by
 have o:=zne h hw hy
 have hl:x.length=(cd w).length+(cd y).length+1:=by
  rw[←cM,h]<;>grind
 unfold Py;have e2:QV x 2=2:=rfl;rw[e2,y9,if_neg (vv (by omega)),o];rfl
theorem mh(hl:x.length<=300000):mN 2 (.str x) (.str " ")=some (.list (sl (Py x BL 2))):=by
 have hs:jZ x " " 2=true:=by
  have l1:(NM " ").length=1:=by decide +kernel
  have z:NX=16777216:=rfl
  unfold jZ<;>grind
 show (if jZ x _ 2=true then some _ else none)=_;rw[if_pos hs];rfl
section
variable {C:Addr}{x w y t:Str}{c:NN}
theorem su{α:Type}{a b d:α}:Yr [a,b,d] 0=some a/\Yr [a,b,d] 1=some b/\Yr [a,b,d] 2=some d:=⟨rfl,rfl,rfl⟩
structure L3(x w y t:Str):Prop where
 eq:cd x=cd w++32::(cd y++32::cd t)
 nw:32∉cd w
 ny:32∉cd y
 len:x.length<=300000
theorem L3.ly(h:L3 x w y t):y.length<=sizeLine:=by
 have a:=congrArg SE h.eq;have b:=h.len;have z:NX=16777216:=rfl;simp[cM] at a;omega
theorem tO(h:L3 x w y t)(hn:isName (.str y)=false):bT C [.d (.str x)] []=some (.none,[]):=by
 have s:=mh h.len;rw[pZ h.eq h.nw h.ny] at s;have e:=mK [] h.ly;rw[hn] at e;obtain⟨a0,a1,a2⟩:=su (a:=OE w) (b:=OE y) (d:=OE t);simp[bT,s,sl,e]
theorem iQ(h:L3 x w y t)(hn:isName (.str y)=true)(hc:d9 C [.d (.str w),.d (.str t)] []=some (.none,[])):bT C [.d (.str x)] []=some (.none,[]):=by
 have s:=mh h.len;rw[pZ h.eq h.nw h.ny] at s;have e:=mK [] h.ly;rw[hn] at e;obtain⟨a0,a1,a2⟩:=su (a:=OE w) (b:=OE y) (d:=OE t);simp[bT,s,sl,e,hc,isNone]
theorem rD(h:L3 x w y t)(hn:isName (.str y)=true)(hc:d9 C [.d (.str w),.d (.str t)] []=some (c,[]))(h0:isNone c=false):bT C [.d (.str x)] []=some (.tuple [.str w,.str y,c],[]):=by
 have s:=mh h.len;rw[pZ h.eq h.nw h.ny] at s;have e:=mK [] h.ly;rw[hn] at e;obtain⟨a0,a1,a2⟩:=su (a:=OE w) (b:=OE y) (d:=OE t);simp[bT,s,sl,e,hc,h0]
theorem wW(hl:x.length<=300000)(h:(Py x BL 2).length<3):bT C [.d (.str x)] []=some (.none,[]):=by
 have s:=mh hl
 have h':(((Py x BL 2).length):Int)<3:=by omega
 simp[bT,s,sl,h']
theorem yT(h1:w≠NM "told")(h2:w≠NM "made"):d9 C [.d (.str w),.d (.str t)] []=some (.none,[]):=by simp[d9,h1,h2]
theorem kX(h:de [.d (.str t)] []=some (c,[])):d9 C [.d (.str "told"),.d (.str t)] []=some (c,[]):=by simp[d9,h]
theorem kY(h:dR C [.d (.str t)] []=some (c,[])):d9 C [.d (.str "made"),.d (.str t)] []=some (c,[]):=by simp[d9,h]
end
def GK(p:String)(x t:Str):Str:=NM p++x++NM " "++t
theorem rO(h:cd (NM p)=cd (NM w)++[32]):cd (GK p x t)=cd (NM w)++32::(cd x++32::cd t):=by
 have b:cd " "=[32]:=by decide +kernel
 unfold GK;rw[cZ,cZ,cZ,b,h];simp
inductive Ent(C:Addr)(D0 R0:Dc)(x:Str):String->String->Str->NN->Prop where
 |told {v:NN}:aN D0 x=some v->aS v=true->Ent C D0 R0 x "told " "told" (mk (cst 4 v)) v
 |made {r:NN}{q:Nat}{ws:List Str}:aN D0 x=none->aN R0 x=some r->RX C 0 7 q ws r->Ent C D0 R0 x "made " "made" (Ob BL ws) r
section
variable {C:Addr}{D0 R0:Dc}{x t:Str}{p w:String}{c:NN}
theorem Ent.len(h:Ent C D0 R0 x p w t c):t.length<=200000:=by
 cases h with
 |told _ hv=>exact Oc (pY hv).2 (by decide)
 |made _ _ hr=>exact Oc (jG _) hr.len
theorem Ent.wd(h:Ent C D0 R0 x p w t c):cd (NM p)=cd (NM w)++[32]/\32∉cd (NM w)/\(NM p).length=5:=by
 cases h with
 |told _ _=>decide +kernel
 |made _ _ _=>decide +kernel
theorem iN(h:isName (.str x)=true):x.length<=8:=by have h':(decide _&&decide _&&has ZV x)=true:=h<;>simp_all
theorem Ent.ll(h:Ent C D0 R0 x p w t c)(hx:isName (.str x)=true):(GK p x t).length<=300000:=by
 have a:=h.len;have b:=h.wd.2.2;have d:=iN hx;unfold GK
 have e:(NM " ").length=1:=by decide +kernel
 rw[OH,OH,OH];omega
theorem Ent.notnone(h:Ent C D0 R0 x p w t c):isNone c=false:=by
 cases h with
 |told _ hv=>exact G.notnone hv
 |made _ _ hr=>
  have:=hr.bt
  cases c <;> first|rfl|cases this
theorem zng(h:Ent C D0 R0 x p w t c):d9 C [.d (.str (NM w)),.d (.str t)] []=some (c,[]):=by
 cases h with
 |told _ hv=>exact kX (rA [] hv)
 |made _ _ hr=>exact kY (ym hr (by decide))
theorem Ent.l3(h:Ent C D0 R0 x p w t c)(hx:isName (.str x)=true):L3 (GK p x t) (NM w) x t:=⟨rO h.wd.1,h.wd.2.1,(kU hx).1.no,h.ll hx⟩
theorem znh(h:Ent C D0 R0 x p w t c)(hx:isName (.str x)=true):bT C [.d (.str (GK p x t))] []=some (.tuple [.str (NM w),.str x,c],[]):=rD (h.l3 hx) hx (zng h) h.notnone
end
theorem vH(C:Addr):iK C=aW 6 (aq (fq 1) (aq (fq 2) (aq (lr 3 4 (aa 0) (Z7 C)) (aB (aT .tuple (af (aa 1) (af (aa 2) ai))))))):=rfl
theorem zni(C:Addr):jw C=XO.dP 6 (XO.cB (fq 1) (XO.cB (fq 2) (XO.nM 3 4 (aa 0) (Z7 C) (J8 C)))):=rfl
structure BS(D0 R0:Dc)(xs:List Str)(A B:Dc):Prop where
 a:∀x,aN A x=if x∈xs then aN D0 x else none
 b:∀x,aN B x=if x∈xs/\aN D0 x=none then aN R0 x else none
 la:A.length=xs.countP fun x=>(aN D0 x).isSome
 lb:B.length=xs.countP fun x=>(aN D0 x).isNone
theorem BS.nil:BS D0 R0 [] [] []:=⟨fun x=>by simp[aN],fun x=>by simp[aN],rfl,rfl⟩
def Zp(L:NN)(A B:Dc)(o3 o4 o5:Option D.W):XD:=[some (.d L),some (.loc (.dict A)),some (.loc (.dict B)),o3,o4,o5]
def Z0(C:Addr)(D0 R0:Dc)(f:Str->Str)(x:Str):Prop:=isName (.str x)=true/\∃p w t c,Ent C D0 R0 x p w t c/\f x=GK p x t
section
variable {C:Addr}{D0 R0:Dc}{f:Str->Str}
theorem vI{x:Str}{done:List Str}{A B:Dc}{L:NN}{n:Nat}{o5:Option D.W}(h:Z0 C D0 R0 f x)(hx:x∉done)(hn:n<40)(hd:done.length<=40)(r:BS D0 R0 done A B) :
  ∃A' B' o,Z7 C (Zp L A B (some (.d (.int (n:Int)))) (some (.d (.str (f x)))) o5) []=some ((.nx,Zp L A' B' (some (.d (.int (n:Int)))) (some (.d (.str (f x)))) o),[])/\BS D0 R0 (done++[x]) A' B'/\J8 C (Zp L A B (some (.d (.int (n:Int)))) (some (.d (.str (f x)))) o5) []=none:=by
 obtain⟨hnm,p,w,t,c,hE,hf⟩:=h;have e1:=znh hE hnm;rw[←hf] at e1
 have nA:aN A x=none:=by rw[r.a,if_neg hx]
 have nB:aN B x=none:=by rw[r.b,if_neg (fun z=>hx z.1)]
 have lA:A.length<=1000:=by
  have:=r.la;have:=TV (p:=fun x=>(aN D0 x).isSome) (l:=done);omega
 have lB:B.length<=1000:=by
  have:=r.lb;have:=TV (p:=fun x=>(aN D0 x).isNone) (l:=done);omega
 have GN:¬(40:Int)<=(n:Int):=by omega
 have a0:∀{a b d:NN},Yr [a,b,d] 0=some a:=rfl;have a1:∀{a b d:NN},Yr [a,b,d] 1=some b:=rfl;have a2:∀{a b d:NN},Yr [a,b,d] 2=some d:=rfl;have nn:∀l:List NN,isNone (.tuple l)=false:=fun _=>rfl
 cases hE with
 |told hk hv=>
  refine⟨putN A x c,B,some (.d (.tuple [.str "told",.str x,c])),?_,⟨fun y=>?_,fun y=>?_,?_,?_⟩,?_⟩
  .simp[Z7,Zp,e1,a0,a1,a2,nA,nB,lA,GN,nn]
  .rw[iL]
   by_cases hy:x=y
   .subst hy
    simp[hk]
   .rw[if_neg hy,r.a]
    have:y≠x:=fun z=>hy z.symm;simp[this]
  .rw[r.b]
   by_cases hy:y=x
   .subst hy
    simp[hk]
   .simp[hy]
  .rw[ms nA,r.la,Qs]
   simp[hk]
  .rw[r.lb,Qs]
   simp[hk]
  .simp[J8,Zp,e1,a0,a1,a2,nA,nB,GN,nn]
 |made h0 hk hr=>
  refine⟨A,putN B x c,some (.d (.tuple [.str "made",.str x,c])),?_,⟨fun y=>?_,fun y=>?_,?_,?_⟩,?_⟩
  .simp[Z7,Zp,e1,a0,a1,a2,nA,nB,lB,GN,nn]
  .rw[r.a]
   by_cases hy:y=x
   .subst hy
    simp[h0]
   .simp[hy]
  .rw[iL]
   by_cases hy:x=y
   .subst hy
    simp[hk,h0]
   .rw[if_neg hy,r.b]
    have:y≠x:=fun z=>hy z.symm;simp[this]
  .rw[r.la,Qs]
   simp[h0]
  .rw[ms nB,r.lb,Qs]
   simp[h0]
  .simp[J8,Zp,e1,a0,a1,a2,nA,nB,GN,nn]
theorem xg{L:NN}:∀(xs done:List Str) (n:Nat) (A B:Dc) (o3 o4 o5:Option D.W),(∀x∈xs,Z0 C D0 R0 f x)->(done++xs).Nodup->n+xs.length<=40->done.length=n->BS D0 R0 done A B ->
  ∃A' B' Au o4' o5',jc 3 4 (Z7 C) n (XG (xs.map f)) (Zp L A B o3 o4 o5) []=some ((.nx,Zp L A' B' Au o4' o5'),[])/\BS D0 R0 (done++xs) A' B'
 |[],done,n,A,B,o3,o4,o5,_,_,_,_,r=>⟨A,B,o3,o4,o5,rfl,by simp_all⟩
 |x::xs,done,n,A,B,o3,o4,o5,h,nd,hl,hd,r=>by
  have hl':n+(xs.length+1)<=40:=hl;have hx:x∉done:=fun z=>(Pv.mp nd).2.2 x z x NZ rfl;obtain⟨A1,B1,o,e1,r1,_⟩:=vI (L:=L) (n:=n) (o5:=o5) (h x NZ) hx (by omega) (by omega) r
  have ea:done++x::xs=done++[x]++xs:=by simp
  rw[ea] at nd ⊢;obtain⟨A2,B2,p3,p4,p5,e2,r2⟩:=xg (L:=L) xs (done++[x]) (n+1) A1 B1 _ _ o (fun y hy=>h y (NV _ hy)) nd (by omega) (by simp;omega) r1;refine⟨A2,B2,p3,p4,p5,?_,r2⟩;have st:Z7 C (((Zp L A B o3 o4 o5).set 3 _).set 4 _) []=_:=e1;show XI _ _=_;rw[st];exact e2
theorem znj(h:∀x∈xs,Z0 C D0 R0 f x)(nd:xs.Nodup)(hl:xs.length<=40):∃A B,iK C [.d (.list (XG (xs.map f)))] []=some (YF A B,[])/\BS D0 R0 xs A B:=by
 obtain⟨A,B,o3,o4,o5,e,r⟩:=xg  xs [] 0 [] [] none none none h (by simp_all) (by omega) rfl BS.nil;refine⟨A,B,?_,by simp_all⟩;rw[vH];have e':lr 3 4 (aa 0) _ (Zp (.list _) [] [] none none none) []=some _:=e;simp only[Zp] at e'
 cases o3 <;> cases o4 <;> cases o5 <;> simp[e',YF]
inductive ZM(C:Addr)(done:List Str)(n:Nat)(z:Str):Prop where
 |none:bT C [.d (.str z)] []=some (.none,[])->ZM C done n z
 |many {w x:Str}{c:NN}:bT C [.d (.str z)] []=some (.tuple [.str w,.str x,c],[])->40<=n->ZM C done n z
 |twin {w x:Str}{c:NN}:bT C [.d (.str z)] []=some (.tuple [.str w,.str x,c],[])->x∈done->ZM C done n z
theorem znk{z:Str}{done:List Str}{A B:Dc}{L:NN}{n:Nat}{o5:Option D.W}(hn:n<=1000)(hz:ZM C done n z)(hd:∀x∈done,Z0 C D0 R0 f x)(r:BS D0 R0 done A B) :
  Z7 C (Zp L A B (some (.d (.int (n:Int)))) (some (.d (.str z))) o5) []=none/\J8 C (Zp L A B (some (.d (.int (n:Int)))) (some (.d (.str z))) o5) []=some ((n:Int),[]):=by
 have a1:∀{a b d:NN},Yr [a,b,d] 1=some b:=rfl;have nn:∀l:List NN,isNone (.tuple l)=false:=fun _=>rfl;have n0:isNone .none=true:=rfl;have lm:=rl hn
 cases hz with
 |none e=>constructor <;> simp[Z7,J8,Zp,e,n0,lm]
 |many e h=>
  have h':(40:Int)<=(n:Int):=by omega
  constructor <;> simp[Z7,J8,Zp,e,nn,h',lm]
 |twin e h=>
  rename_i w x c;obtain⟨hnm,p,w',t,c',hE,hf⟩:=hd x h
  by_cases h':(40:Int)<=(n:Int)
  .constructor <;> simp[Z7,J8,Zp,e,nn,h',lm]
  cases hE with
  |told hk hv=>
   have kA:(aN A x).isSome=true:=by rw[r.a,if_pos h,hk];rfl
   constructor <;> simp[Z7,J8,Zp,e,nn,h',lm,a1,kA]
  |made h0 hk hr=>
   have kA:(aN A x).isSome=false:=by rw[r.a,if_pos h,h0];rfl
   have kB:(aN B x).isSome=true:=by rw[r.b,if_pos ⟨h,h0⟩,hk];rfl
   constructor <;> simp[Z7,J8,Zp,e,nn,h',lm,a1,kA,kB]
theorem wH{L:NN}{z:Str}{rest:List NN}:∀(xs done:List Str) (n:Nat) (A B:Dc) (o3 o4 o5:Option D.W),(∀x∈xs,Z0 C D0 R0 f x)->(∀x∈done,Z0 C D0 R0 f x)->(done++xs).Nodup->n+xs.length<=40->done.length=n->BS D0 R0 done A B->ZM C (done++xs) (n+xs.length) z ->
  jc 3 4 (Z7 C) n (XG (xs.map f)++.str z::rest) (Zp L A B o3 o4 o5) []=none/\XO.gm 3 4 (Z7 C) (J8 C) n (XG (xs.map f)++.str z::rest) (Zp L A B o3 o4 o5) []=some (((n+xs.length:Nat):Int),[])
 |[],done,n,A,B,o3,o4,o5,_,hd,_,hl,_,r,hz=>by
  rw[Pb] at hz;have hl:n<=40:=hl;obtain⟨e1,e2⟩:=znk (L:=L) (o5:=o5) (show n<=1000 by omega) hz hd r;have s1:Z7 C (((Zp L A B o3 o4 o5).set 3 (some (.d (.int (n:Int))))).set 4 (some (.d (.str z)))) []=_:=e1;have s2:J8 C (((Zp L A B o3 o4 o5).set 3 (some (.d (.int (n:Int))))).set 4 (some (.d (.str z)))) []=_:=e2;constructor
  .show XI (Z7 C (((Zp L A B o3 o4 o5).set 3 (some (.d (.int (n:Int))))).set 4 (some (.d (.str z)))) []) _=_
   rw[s1];rfl
  .show XO.gm 3 4 (Z7 C) (J8 C) n (.str z::rest) (Zp L A B o3 o4 o5) []=_
   unfold XO.gm;rw[s2];rfl
 |x::xs,done,n,A,B,o3,o4,o5,h,hdn,nd,hl,hd,r,hz=>by
  have hl':n+(xs.length+1)<=40:=hl;have hx:x∉done:=fun z=>(Pv.mp nd).2.2 x z x NZ rfl;obtain⟨A1,B1,o,e1,r1,e3⟩:=vI (L:=L) (n:=n) (o5:=o5) (h x NZ) hx (by omega) (by omega) r
  have ea:done++x::xs=done++[x]++xs:=by simp
  have en:n+(x::xs).length=n+1+xs.length:=by rw[Oo];omega
  rw[ea] at nd hz;rw[en] at hz ⊢;have ih:=wH (L:=L) (z:=z) (rest:=rest) xs (done++[x]) (n+1) A1 B1 (some (.d (.int (n:Int)))) (some (.d (.str (f x)))) o (fun y hy=>h y (NV _ hy)) (fun y hy=>(Oz.mp hy).elim (hdn y) fun z=>Od.mp z ▸ h x NZ) nd (by omega) (by simp;omega) r1 hz;have s1:Z7 C (((Zp L A B o3 o4 o5).set 3 (some (.d (.int (n:Int))))).set 4 (some (.d (.str (f x))))) []=_:=e1;have s2:J8 C (((Zp L A B o3 o4 o5).set 3 (some (.d (.int (n:Int))))).set 4 (some (.d (.str (f x))))) []=_:=e3;constructor
  .show XI (Z7 C (((Zp L A B o3 o4 o5).set 3 (some (.d (.int (n:Int))))).set 4 (some (.d (.str (f x))))) []) _=_
   rw[s1];exact ih.1
  .show XO.gm 3 4 (Z7 C) (J8 C) n (.str (f x)::(XG (xs.map f)++.str z::rest)) (Zp L A B o3 o4 o5) []=_
   unfold XO.gm;rw[s2,s1];exact ih.2
theorem znl(C:Addr):ei C=aW 3 (XO.jd (aB (aT .list (af (av (iK C) (af (aa 0) ai)) ai))) (XO.cS (jw C) (af (aa 0) ai)) Kl):=rfl
theorem yg(h:∀x∈xs,Z0 C D0 R0 f x)(nd:xs.Nodup)(hl:xs.length<=40):∃A B,ei C [.d (.list (XG (xs.map f)))] []=some (.list [YF A B],[])/\BS D0 R0 xs A B:=by
 obtain⟨A,B,e,r⟩:=znj h nd hl;refine⟨A,B,?_,r⟩;show dM (XO.jd _ _ _ [some _,none,none] [])=_
 unfold XO.jd<;>simp_all
theorem uy{xs:List Str}{z:Str}{rest:List NN}(h:∀x∈xs,Z0 C D0 R0 f x)(nd:xs.Nodup)(hl:xs.length<=40)(hz:ZM C xs xs.length z):ei C [.d (.list (XG (xs.map f)++.str z::rest))] []=some (Kl xs.length,[]):=by
 have AU:ZM C ([]++xs) (0+xs.length) z:=by simp_all
 obtain⟨e1,e2⟩:=wH (L:=.list (XG _++.str z::rest))  xs [] 0 [] [] none none none h (by simp) (by simp_all) (by omega) rfl BS.nil AU;rw[RG] at e2;generalize XG _++.str z::rest=ls at e1 e2 ⊢;have GI:lr 3 4 (aa 0) _ (Zp (.list ls) [] [] none none none) []=none:=e1;have D9:XO.nM 3 4 (aa 0) _ _ (Zp (.list ls) [] [] none none none) []=some _:=e2;simp only[Zp] at GI D9
 have r1:iK C [.d (.list ls)] []=none:=by
  rw[vH];simp[GI]
 have r2:jw C [.d (.list ls)] []=some ((xs.length:Int),[]):=by
  rw[zni];simp[D9]
 rw[znl]
 simp_all
 unfold XO.jd<;>simp_all
end
def Js:NN->Str
 |.str x=>x
 |_=>BL
def kn(ds:Dc):List Str:=ds.map fun q=>Js q.1
theorem qE(h:∀q∈ds,∃x,q.1=.str x):lN ds=XG (kn ds):=by
 unfold lN XG kn;rw[Pm]
 exact OX fun q hq=>by
  obtain⟨x,e⟩:=h q hq;show q.1=OE (Js q.1);rw[e];rfl
theorem qz(a b:List Str):XG a++XG b=XG (a++b):=by simp[XG]
section
variable {C:Addr}{S:List Str}{D0 R0:Dc}
theorem YS.dkn(b:YS C S D0 R0):lN D0=XG (kn D0):=qE fun q hq=>by
 obtain⟨x,v,rfl,_⟩:=b.dk q hq;exact⟨x,rfl⟩
theorem YS.rkn(b:YS C S D0 R0):lN R0=XG (kn R0):=qE fun q hq=>by
 obtain⟨x,v,rfl,_⟩:=b.rk q hq;exact⟨x,rfl⟩
theorem YS.ent(b:YS C S D0 R0)(h:x∈kn D0++kn R0):isName (.str x)=true/\∃p w t c,Ent C D0 R0 x p w t c:=by
 rcases Oz.mp h with z|z
 .obtain⟨q,hq,rfl⟩:=Oj.mp z
  obtain⟨y,v,rfl,hv,hk,hS⟩:=b.dk q hq;exact⟨b.nm y hS,_,_,_,_,.told hk hv⟩
 .obtain⟨q,hq,rfl⟩:=Oj.mp z
  obtain⟨y,v,rfl,⟨c,ws,hr,_⟩,hk,h0,hS⟩:=b.rk q hq;exact⟨b.nm y hS,_,_,_,_,.made h0 hk hr⟩
theorem YS.fn(b:YS C S D0 R0):∃f:Str->Str,∀x∈kn D0++kn R0,Z0 C D0 R0 f x:=by
 have h:∀x,∃y:Str,x∈kn D0++kn R0->∃p w t c,Ent C D0 R0 x p w t c/\y=GK p x t:=fun x=>by
  by_cases hx:x∈kn D0++kn R0
  .obtain⟨_,p,w,t,c,e⟩:=b.ent hx
   exact⟨GK p x t,fun _=>⟨p,w,t,c,e,rfl⟩⟩
  .exact⟨x,fun z=>absurd z hx⟩
 obtain⟨f,hf⟩:=Classical.axiomOfChoice h;exact⟨f,fun x hx=>⟨(b.ent hx).1,hf x hx⟩⟩
theorem yu(h:∀q∈ds,∃x,q.1=.str x)(nd:(ds.map (·.1)).Nodup):(kn ds).Nodup:=by
 have e:(ds.map _)=XG _:=qE h;rw[e] at nd;exact(Vf.mp nd).imp fun h e=>h (by rw[e])
theorem YS.nd(b:YS C S D0 R0):(kn D0++kn R0).Nodup:=by
 refine Pv.mpr ⟨yu (fun q hq=>?_) b.dnd,yu (fun q hq=>?_) b.rnd,fun x hx y hy e=>?_⟩
 .obtain⟨x,v,rfl,_⟩:=b.dk q hq
  exact⟨x,rfl⟩
 .obtain⟨x,v,rfl,_⟩:=b.rk q hq
  exact⟨x,rfl⟩
 .subst e
  obtain⟨q,hq,rfl⟩:=Oj.mp hx;obtain⟨y,v,rfl,_,hk,_⟩:=b.dk q hq;obtain⟨q2,hq2,e2⟩:=Oj.mp hy;obtain⟨y2,v2,rfl,_,_,h0,_⟩:=b.rk q2 hq2
  have:y2=y:=e2<;>grind
theorem YS.cnt0(b:YS C S D0 R0):∀x∈kn D0,(aN D0 x).isSome=true:=fun x hx=>by
 obtain⟨q,hq,rfl⟩:=Oj.mp hx;obtain⟨y,v,rfl,_,hk,_⟩:=b.dk q hq
 show (aN D0 y).isSome=true<;>simp_all
theorem YS.cnt1(b:YS C S D0 R0):∀x∈kn R0,(aN D0 x).isNone=true:=fun x hx=>by
 obtain⟨q,hq,rfl⟩:=Oj.mp hx;obtain⟨y,v,rfl,_,hk,h0,_⟩:=b.rk q hq
 show (aN D0 y).isNone=true<;>simp_all
theorem YS.cnt(b:YS C S D0 R0):(kn D0++kn R0).countP (fun x=>(aN D0 x).isSome)=D0.length/\(kn D0++kn R0).countP (fun x=>(aN D0 x).isNone)=R0.length:=by
 have a1:=b.cnt0;have a2:=b.cnt1
 have l1:(kn D0).length=D0.length:=by simp[kn]
 have l2:(kn R0).length=R0.length:=by simp[kn]
 constructor
 .rw[Qs,TX.mpr a1,UJ.mpr fun x hx=>by simp_all,l1]
  rfl
 .rw[Qs,UJ.mpr fun x hx=>by have:=a1 x hx;cases h:aN D0 x <;> simp_all,TX.mpr a2,l2,RG]
theorem YS.back(b:YS C S D0 R0)(hp:xs.Perm (kn D0++kn R0))(r:BS D0 R0 xs A B)(j:Nat)(hj:23<j):br j [.d (YF A B),.d (YF D0 R0)] T=some (.bool true,T):=by
 obtain⟨c1,c2⟩:=b.cnt;rw[←hp.countP_eq] at c1 c2;refine zly  (fun k hk=>uJ (n:=20) (by rw[r.la,c1]) (fun q hq=>?_) k T (by omega)) (fun k hk=>uJ  (by rw[r.lb,c2]) (fun q hq=>?_) k T (by omega)) j (by omega)
 .obtain⟨y,v,rfl,hv,hk,hS⟩:=b.dk q hq
  have hm:y∈xs:=hp.mem_iff.mpr (OR _ (Oj.mpr ⟨_,hq,rfl⟩));exact⟨y,rfl,by rw[r.a,if_pos hm];exact hk,hk,(zlx hv).up (by decide)⟩
 .obtain⟨y,v,rfl,⟨c,ws,hr,_⟩,hk,h0,hS⟩:=b.rk q hq
  have hm:=hp.mem_iff.mpr (On _ (Oj.mpr ⟨_,hq,rfl⟩));exact⟨y,rfl,by rw[r.b,if_pos ⟨hm,h0⟩];exact hk,hk,pX 20 v hr.bt⟩
theorem YS.nlen(b:YS C S D0 R0):(kn D0++kn R0).length=S.length:=by
 have:=b.len;simp[kn];omega
end
theorem qd(l:List Str)(a:Nat):(XG l).drop a=XG (l.drop a):=by simp[XG]
theorem mx(l:List Str)(a:Nat):(XG l).take a=XG (l.take a):=by simp[XG]
theorem vW(h:Ent C D0 R0 x p w t c)(hx:isName (.str x)=true):(NM p).length+x.length<=NX/\(NM p++x).length+(NM " ").length<=NX/\(NM p++x++NM " ").length+t.length<=sizeLine:=by
 have a:=h.len;have b:=h.wd.2.2;have d:=iN hx
 have e:(NM " ").length=1:=by decide +kernel
 have z:NX=16777216:=rfl;rw[OH (NM p++x),OH _];omega
section
variable {C:Addr}{S:List Str}{D0 R0:Dc}{f:Str->Str}
theorem uY(h:g ρ T=some (.d (.dict ds),T)):dj g ρ T=some (lN ds,T):=by
 unfold dj;rw[h];rfl
theorem znm(b:YS C S D0 R0)(hS:S.length<=10)(hf:∀x∈kn D0++kn R0,Z0 C D0 R0 f x)(T:Tp):jv [.d (YF D0 R0)] T=some (.list (XG ((kn D0++kn R0).map f)),T):=by
 have l:=b.nlen
 have c1:=dv (e:=ah az (ah az (ah az (fC (.str "told ")) (aa 0)) (fC (.str " "))) (av (dq 25) (af (ah GC (ah Zx (aa 1) (fC (.int 0))) (aa 0)) ai))) (ρ:=[some (.d (YF D0 R0)),none]) (T:=T) (g:=fun d=>.str (f (Js d))) (ds:=XG (kn D0)) fun d hd=>by
  obtain⟨x,hx,rfl⟩:=Oj.mp hd;obtain⟨hn,p,w,t,c,hE,e⟩:=hf x (OR _ hx);obtain⟨q1,q2,q4⟩:=vW hE hn;have hs:=(b.cnt0 x hx);show _=some (D.W.d (.str (f x)),T);rw[e]
  cases hE with
  |told hk hv=>
   have e1:=qp 4 25 c T (ib hv).1 (ib hv).2 (by decide);simp[YF,gB,hk,q1,q2,q4,e1,GK]
  |made h0 hk hr=>
   rw[h0] at hs;cases hs
 have c2:=dv (e:=ah az (ah az (ah az (fC (.str "made ")) (aa 0)) (fC (.str " "))) (ah dy (fC (.str " ")) (av (cw 25) (af (ah GC (ah Zx (aa 1) (fC (.int 1))) (aa 0)) ai)))) (ρ:=[some (.d (YF D0 R0)),some (.d (.list (XG ((kn D0).map f))))]) (T:=T) (g:=fun d=>.str (f (Js d))) (ds:=XG (kn R0)) fun d hd=>by
  obtain⟨x,hx,rfl⟩:=Oj.mp hd;obtain⟨hn,p,w,t,c,hE,e⟩:=hf x (On _ hx);obtain⟨q1,q2,q4⟩:=vW hE hn;have hs:=(b.cnt1 x hx);show _=some (D.W.d (.str (f x)),T);rw[e]
  cases hE with
  |told hk hv=>
   rw[hk] at hs;cases hs
  |made h0 hk hr=>
   obtain⟨e1,e2⟩:=zkv hr (by decide) T;have e3:dy (.str " ") (.list (sl _))=_:=e2;simp[YF,gA,hk,q1,q2,q4,e1,e3,GK]
 have m1:(XG (kn D0)).map (fun d=>OE (f (Js d)))=XG ((kn D0).map f):=by simp[XG,Js]
 have m2:(XG (kn R0)).map (fun d=>OE (f (Js d)))=XG ((kn R0).map f):=by simp[XG,Js]
 rw[m1] at c1;rw[m2] at c2;have As:Zx (YF D0 R0) (.int 0)=some (.dict D0):=rfl;have AO:Zx (YF D0 R0) (.int 1)=some (.dict R0):=rfl
 have i0:dj (ah Zx (aa 0) (fC (.int 0))) [some (.d (YF D0 R0)),none] T=some (XG (kn D0),T):=by rw[uY (ds:=D0) (by simp[As]),b.dkn]
 have i1:dj (ah Zx (aa 0) (fC (.int 1))) [some (.d (YF D0 R0)),some (.d (.list (XG ((kn D0).map f))))] T=some (XG (kn R0),T):=by rw[uY (ds:=R0) (by simp[AO]),b.rkn]
 have l':(XG ((kn D0).map f)).length+(XG ((kn R0).map f)).length<=sizeLine:=by
  have z:NX=16777216:=rfl;rw[OS] at l;simp[XG];omega
 unfold jv;simp only[lT,nQ,xT,Fp];simp[i0,c1,i1,c2,l',qz,-Fm]
end
theorem w8(hl:a.length=b.length)(h8:b.length<=1000)(h:∀(i:Int) (x y:NN),Yr a i=some x->Yr b i=some y->br k [.d x,.d y] T=some (.bool true,T)):br (k+1) [.d (.list a),.d (.list b)] T=some (.bool true,T):=by
 have hr:=dE (j:=(b.length)) (by omega) (by omega)
 have c:=dv (e:=av (br k) (af (ah GC (aa 1) (aa 0)) (af (ah GC (aa 2) (aa 0)) ai))) (ρ:=[some (.d (.list a)),some (.d (.list b))]) (T:=T) (g:=fun _=>.bool true) (ds:=bh 0 b.length) fun d hd=>by
  obtain⟨i,hi,rfl⟩:=Oj.mp hd;have Hd:=Rt.mp hi;obtain⟨x,hx,_⟩:=eJ (xs:=a) (i:=0+(i)) (by omega) (by omega);obtain⟨y,hy,_⟩:=eJ (xs:=b) (i:=0+(i)) (by omega) (by omega);have:=h _ x y hx hy;rw[Xa] at hx hy;simp[hx,hy,this,zlw]
 have al:=k6 (bh 0 b.length);simp[br,gX,fX,hl,hr,c,al]
theorem qL{α:Type}{xs:List α}{i:Int}{x:α}(h:Yr xs i=some x):x∈xs:=by
 obtain⟨j,_,h⟩:=Option.bind_eq_some_iff.mp h;exact OC h
theorem vB:br 25 [.d (Kl n),.d (.list [.str "at",.int n])] T=some (.bool true,T):=by
 refine w8  rfl (by simp) fun i x y hx hy=>?_;rw[hx] at hy;cases hy;have:=qL hx;simp at this
 rcases this with rfl|rfl
 .exact rz (n:=0) .str 24 T (by decide)
 .exact rz (n:=0) .int 24 T (by decide)
theorem znn(h:br 24 [.d a,.d b] T=some (.bool true,T)):br 25 [.d (.list [a]),.d (.list [b])] T=some (.bool true,T):=by
 refine w8  rfl (by simp) fun i x y hx hy=>?_;rw[Od.mp (qL hx),Od.mp (qL hy)];exact h
theorem Kc:(NM " ").length=1 :=rfl
theorem xX:cd " "=[32] :=rfl
theorem nL{us:List Str}(hl:(us.map (·.length)).sum+us.length<=290000):dy (.str " ") (.list (sl us))=some (.str (Ob BL us)):=by
 have e:dy (.str _) (.list (sl us))=(match dI _ with|some ys=>if (ys.map _).sum+ys.length*(NM " ").length<=16777216 then some _ else none|none=>none):=rfl;rw[e,kL,Kc];dsimp only;rw[Xj];exact if_pos (by omega)
theorem zno{us:List Str}(F7:us≠[])(Hv:∀w∈us,32∉cd w)(hl:(us.map (·.length)).sum+us.length<=290000):dX (.str (Ob BL us)) (.str " ")=some (.list (sl us)):=by
 have jl:=jG us;have z:(Ob BL us).length+2<=sizeLine:=Oc (show _<=300000 by omega) (by decide)
 have b:((NM " ").length == 0)=false:=by decide +kernel
 have e:dX (.str _) (.str " ")=if _=false/\(Ob BL us).length+2<=NX then some _ else none:=rfl
 rw[e,if_pos ⟨b,z⟩];have s:=sU F7 Hv;show some (Uh ((Qx _ BL).map .str))=_;rw[s];rfl
theorem qg(h:us≠[]):cd (Ob BL (a::y::us))=cd a++32::(cd y++32::cd (Ob BL us)):=by
 obtain⟨u,r,rfl⟩:=Q5 h;rw[fH,fH,rT];show cd a++[32]++(cd y++[32]++bb [32] _)=cd a++32::_;simp
theorem join_1:Ob BL [a]=a :=rfl
structure LW(C:Addr)(x w t:Str)(us:List Str):Prop where
 wd:w=NM "told"\/w=NM "made"
 nm:isName (.str x)=true
 ne:us≠[]
 te:t=Ob BL us
 no:∀u∈us,32∉cd u
 len:(us.map (·.length)).sum+us.length<=200000
 more:d9 C [.d (.str w),.d (.str (t++NM " x y"))] []=some (.none,[])
theorem Ent.lw(h:Ent C D0 R0 x p w t c)(hx:isName (.str x)=true):∃us,LW C x (NM w) t us:=by
 have xy:cd " x y"=XY:=by decide +kernel
 cases h with
 |told _ hv=>
  have so:=pY hv;refine⟨[mk (cst 4 c)],.inl rfl,hx,by simp,join_1.symm,fun u hu=>?_,?_,kX ?_⟩
  .rw[Od.mp hu]
   exact so.1.no
  .have:=so.2
   simp;omega
  .have e:mk (cst 4 c)++NM " x y"=mk (cst 4 c++XY):=dw (by rw[cZ,dm,dm,xy])
   rw[e];refine zL [] ?_ (zmt hv);have:=so.2;rw[di] at this;rw[OS];have:XY.length=4:=rfl;omega
 |made _ _ hr=>
  rename_i q ws _ _;refine⟨ws,.inr rfl,hx,hr.ne,rfl,fun u hu=>(hr.ok u hu).1.no,hr.len,kY ?_⟩
  have e:Ob BL ws++NM " x y"=Ob BL (ws++[NM "x",NM "y"]):=dw (by
   rw[cZ,fH,fH,xy,rT];obtain⟨u,r,rfl⟩:=Q5 hr.ne
   have ex:cd "x"=[120]:=by decide +kernel
   have ey:cd "y"=[121]:=by decide +kernel
   rw[QS,OJ,VE,jB,jB]
   simp[ex,ey,XY])
  rw[e];refine vD hr (by decide) (by simp) ⟨by simp,fun u hu=>?_,?_⟩
  .rcases Oz.mp hu with z|z
   .exact(hr.ok u z).1.no
   .have:∀s∈(["x","y"]:List Str),32∉cd s:=by decide +kernel
    exact this u z
  .have:=hr.len
   have lx:(NM "x").length=1:=by decide +kernel
   have ly:(NM "y").length=1:=by decide +kernel
   simp[lx,ly];omega
section
variable {C:Addr}{x w t:Str}{us:List Str}
theorem LW.w0(h:LW C x w t us):32∉cd w/\w.length=4/\isName (.str w)=true:=by rcases h.wd with z|z <;> rw[z] <;> decide +kernel
theorem LW.x0(h:LW C x w t us):32∉cd x/\x.length<=8:=⟨(kU h.nm).1.no,iN h.nm⟩
theorem LW.spl(h:LW C x w t us):dX (.str (Ob BL (w::x::us))) (.str " ")=some (.list (sl (w::x::us))):=by
 have a:=h.w0;have b:=h.x0;have c:=h.len;refine zno (by simp) (fun u hu=>?_) (by grind)
 rcases N4.mp hu with rfl|hu
 .exact a.1
 .rcases N4.mp hu with rfl|hu
  .exact b.1
  .exact h.no u hu
theorem mV{a y:Str}(ha:32∉cd a/\a.length<=100)(hy:32∉cd y/\y.length<=100)(F7:us≠[])(hl:(us.map (·.length)).sum+us.length<=200000):L3 (Ob BL (a::y::us)) a y (Ob BL us):=by
 refine⟨qg F7,ha.1,hy.1,?_⟩
 have:=jG (a::y::us)<;>grind
theorem yC{p w:String}{t:Str}(h:(decide (cd (NM p)=cd (NM w)++[32])&&decide (32∉cd (NM w))&&decide ((NM p).length=5))=true)(hx:32∉cd x/\x.length<=8)(ht:t.length<=1000):L3 (GK p x t) (NM w) x t:=by
 simp_all
 refine⟨rO h.1.1,h.1.2,hx.1,?_⟩;unfold GK;rw[OH,OH,OH,Kc];omega
end
def vZ:List String:=["","Told","make","tells","MADE","put"]
def sO:List String:=["","A","abcdefghi","a1","a-","told1"]
def yq:List String:=["","01","-0","+1","'A","(1","1)","(,)","(1,)","a","1 1","'aaaaaaaaaaaaaaaaaaaaa","10000000000000000001","((((()))))"]
def ss(l:List String):List PyData:=l.map fun s=>.str (NM s)
theorem bw0:∀s∈vZ,32∉cd (NM s)/\(NM s).length<=100/\NM s≠NM "told"/\NM s≠NM "made":=by decide +kernel
theorem bw1:∀s∈sO,32∉cd (NM s)/\(NM s).length<=100/\isName (.str (NM s))=false:=by decide +kernel
theorem bt2:∀s∈yq,(NM s).length<=1000/\(decide ((cd (NM s)).length<=60000)&&g9 (cd (NM s)))=true:=by decide +kernel
theorem znp:∀s∈Ke,(NM s).length<=1000:=by decide +kernel
theorem og{l:List String}{j:Int}(h0:0<=j)(h1:j<(l.length:Int)):∃s∈l,Yr (ss l) j=some (.str (NM s)):=by
 obtain⟨a,e,hm⟩:=eJ (xs:=ss l) h0 (by simpa[ss] using h1);obtain⟨s,hs,rfl⟩:=Oj.mp hm;exact⟨s,hs,e⟩
theorem znq:QF "a" 21=NM "aaaaaaaaaaaaaaaaaaaaa" :=rfl
theorem znr:QF "0" 18=NM "000000000000000000" :=rfl
theorem qB(h:decide (NM a++NM b=NM c)=true):NM a++NM b=NM c:=of_decide_eq_true h
theorem j9(h:LW C x w t us):Yr (sl (w::x::us)) 0=some (.str w)/\Yr (sl (w::x::us)) 1=some (.str x):=⟨Jk,yY⟩
section
variable {C:Addr}{x w t:Str}{us:List Str}{A T T1:Tp}
def gs(C:Addr)(A:Tp)(o:Option (NN×Tp)):Prop:=∃z T',o=some (.str z,T')/\aY A T'/\bT C [.d (.str z)] []=some (.none,[])
abbrev EI(w x:Str)(us:List Str):Str:=Ob BL (w::x::us)
theorem zi:OE a::sl l=sl (a::l):=rfl
theorem LW.j0(h:LW C x w t us)(ha:a.length<=100)(hy:y.length<=100):dy (.str " ") (.list (sl (a::y::us)))=some (.str (Ob BL (a::y::us))):=nL (by have:=h.len<;>grind)
theorem LW.zl(h:LW C x w t us):(sl us).length+3<=sizeLine:=by
 have:=h.len;have z:NX=16777216:=rfl;rw[gQ];omega
theorem zns(h:LW C x w t us)(t1:aY A T1)(e1:aQ [.tp A.length,.d (.int 9)] T=some (.int 0,T1)):gs C A (bX [.tp A.length,.d (.str (EI w x us))] T):=by
 obtain⟨j,T2,e2,t2,j0,j1⟩:=bp (m:=6) t1 (by decide);obtain⟨s,hs,ea⟩:=og (l:=vZ) j0 j1;obtain⟨p1,p2,p3,p4⟩:=bw0 s hs;have x0:=h.x0;refine⟨Ob BL (NM s::x::us),T2,?_,t2,iQ (mV ⟨p1,p2⟩ ⟨x0.1,by omega⟩ h.ne h.len) h.nm (yT p3 p4)⟩;have sp:=h.spl;have jn:=h.j0 (a:=NM s) (y:=x) p2 (by omega);have zl:=h.zl
 have Bh:1+(sl (x::us)).length<=sizeLine:=by rw[gQ] at zl ⊢;simp;omega
 have ct:cu (sl (w::x::us)) (some 1) none=sl (x::us):=rS;unfold ss vZ at ea;simp at ea;simp[bX,sp,e1,e2,ea,ct,Bh,zi,jn]
theorem znt(h:LW C x w t us)(t1:aY A T1)(e1:aQ [.tp A.length,.d (.int 9)] T=some (.int 1,T1)):gs C A (bX [.tp A.length,.d (.str (EI w x us))] T):=by
 obtain⟨j,T2,e2,t2,j0,j1⟩:=bp (m:=6) t1 (by decide);obtain⟨s,hs,ea⟩:=og (l:=sO) j0 j1;obtain⟨p1,p2,p3⟩:=bw1 s hs;have w0:=h.w0;refine⟨Ob BL (w::NM s::us),T2,?_,t2,tO (mV ⟨w0.1,by omega⟩ ⟨p1,p2⟩ h.ne h.len) p3⟩;have sp:=h.spl;have jn:=h.j0 (a:=w) (y:=NM s) (by omega) p2;have zl:=h.zl
 have Bh:1+1+(sl us).length<=sizeLine:=by omega
 have c1:cu (sl (w::x::us)) none (some 1)=[.str w]:=by
  have:=ix (sl (w::x::us)) 1;exact this
 have c2:cu (sl (w::x::us)) (some 2) none=sl us:=zkq
 have z2:(1:Nat)+1<=sizeLine:=by decide
 unfold ss sO at ea;simp at ea;simp[bX,sp,e1,e2,ea,c1,c2,z2,Bh,zi,jn]
theorem xB{p:String}{x t:Str}(hp:(NM p).length=5)(hx:x.length<=8)(ht:t.length<=1000):(NM p).length+x.length<=NX/\(NM p++x).length+(NM " ").length<=NX/\(NM p++x++NM " ").length+t.length<=sizeLine:=by
 have z:NX=16777216:=rfl;rw[OH (NM p++x),OH _,Kc];omega
theorem rC:(NM "told ").length=5 :=rfl
theorem rN:(NM "made ").length=5 :=rfl
theorem znu(h:LW C x w t us)(t1:aY A T1)(e1:aQ [.tp A.length,.d (.int 9)] T=some (.int 2,T1)):gs C A (bX [.tp A.length,.d (.str (EI w x us))] T):=by
 obtain⟨j,T2,e2,t2,j0,j1⟩:=bp (m:=14) t1 (by decide);obtain⟨s,hs,ea⟩:=og (l:=yq) j0 j1;obtain⟨p1,p2⟩:=bt2 s hs;have x0:=h.x0;refine⟨GK "told " x (NM s),T2,?_,t2,iQ (yC (w:="told") (by decide +kernel) x0 p1) h.nm (kX (rX [] p2))⟩;have sp:=h.spl;obtain⟨q1,q2,q3⟩:=xB (p:="told ") rC x0.2 p1;obtain⟨i0,i1⟩:=j9 h
 have a1:(NM "'").length+(NM "aaaaaaaaaaaaaaaaaaaaa").length<=sizeLine:=by decide +kernel
 have a2:NM "'"++NM "aaaaaaaaaaaaaaaaaaaaa"=NM "'aaaaaaaaaaaaaaaaaaaaa":=qB (by decide +kernel)
 have a3:(NM "1").length+(NM "000000000000000000").length<=sizeLine:=by decide +kernel
 have a4:NM "1"++NM "000000000000000000"=NM "1000000000000000000":=qB (by decide +kernel)
 have a5:(NM "1000000000000000000").length+(NM "1").length<=sizeLine:=by decide +kernel
 have a6:NM "1000000000000000000"++NM "1"=NM "10000000000000000001":=qB (by decide +kernel)
 have m1:bW (.str "a") (.int 21)=some (.str "aaaaaaaaaaaaaaaaaaaaa"):=by rw[qI,if_pos (by decide +kernel),znq]
 have m2:bW (.str "0") (.int 18)=some (.str "000000000000000000"):=by rw[qI,if_pos (by decide +kernel),znr]
 have z2:(12:Nat)+2<=sizeLine:=by decide
 unfold ss yq at ea;simp at ea;simp[bX,sp,e1,e2,ea,i1,m1,m2,a1,a2,a3,a4,a5,a6,z2,q1,q2,q3,GK,-qI]
theorem znv(h:LW C x w t us)(t1:aY A T1)(e1:aQ [.tp A.length,.d (.int 9)] T=some (.int 3,T1)):gs C A (bX [.tp A.length,.d (.str (EI w x us))] T):=by
 obtain⟨j,T2,e2,t2,j0,j1⟩:=bp (m:=17) t1 (by decide);obtain⟨s,hs,ea⟩:=og (l:=Ke) j0 j1;have p1:=znp s hs;have x0:=h.x0;refine⟨GK "made " x (NM s),T2,?_,t2,iQ (yC (w:="made") (by decide +kernel) x0 p1) h.nm (kY (bt3 hs))⟩;have sp:=h.spl;obtain⟨q1,q2,q3⟩:=xB (p:="made ") rN x0.2 p1;obtain⟨i0,i1⟩:=j9 h
 have z1:(9:Nat)+5<=sizeLine:=by decide
 have z2:(14:Nat)+3<=sizeLine:=by decide
 unfold ss Ke at ea;simp at ea;simp[bX,sp,e1,e2,ea,i1,z1,z2,q1,q2,q3,GK]
theorem pW(h:(decide ((NM z).length<=300000)&&decide ((Py (NM z) BL 2).length<3))=true):bT C [.d (.str (NM z))] []=some (.none,[]):=by
 rw[NY] at h;exact wW (of_decide_eq_true h.1) (of_decide_eq_true h.2)
theorem wV{p w:String}(h:(decide (cd (NM p)=cd (NM w)++[32])&&decide (32∉cd (NM w))&&decide ((NM p).length=5))=true)(hx:32∉cd x/\x.length<=8):bT C [.d (.str (NM p++x))] []=some (.none,[]):=by
 simp only[NY,decide_eq_true_eq] at h
 have e:cd (NM p++x)=cd (NM w)++32::cd x:=by rw[cZ,h.1.1];simp
 refine wW (by rw[OH];omega) ?_;rw[znf e h.1.2 hx.1]
 decide
end
theorem znw:cd (Ob BL (a::y::us))=cd a++32::cd (Ob BL (y::us)):=by
 rw[fH,fH];show cd a++[32]++bb [32] _=cd a++32::bb [32] _;simp
section
variable {C:Addr}{x w t:Str}{us:List Str}{A T T1:Tp}
theorem LW.ll(h:LW C x w t us):(EI w x us).length<=250000:=by
 have a:=h.w0;have b:=h.x0;have c:=h.len
 have:=jG (w::x::us)<;>grind
theorem znx(h:LW C x w t us)(t1:aY A T1)(e1:aQ [.tp A.length,.d (.int 9)] T=some (.int 4,T1)):gs C A (bX [.tp A.length,.d (.str (EI w x us))] T):=by
 obtain⟨j,T2,e2,t2,j0,j1⟩:=bp (m:=6) t1 (by decide);have x0:=h.x0;have w0:=h.w0;have ll:=h.ll;have z:NX=16777216:=rfl;obtain⟨a,ea,hm⟩:=eJ (xs:=[.str "",.str "told",.str "made",.str (NM "told "++x),.str (NM "made "++x),OE (NM " "++EI w x us)]) j0 j1
 have key:∃y,a=.str y/\bT C [.d (.str y)] []=some (.none,[]):=by
  simp only[N4,Pd,or_false] at hm
  rcases hm with rfl|rfl|rfl|rfl|rfl|rfl
  .exact⟨_,rfl,pW (by decide +kernel)⟩
  .exact⟨_,rfl,pW (by decide +kernel)⟩
  .exact⟨_,rfl,pW (by decide +kernel)⟩
  .exact⟨_,rfl,wV (w:="told") (by decide +kernel) x0⟩
  .exact⟨_,rfl,wV (w:="made") (by decide +kernel) x0⟩
  .have n0:cd ""=[]:=by decide +kernel
   refine⟨_,rfl,iQ (w:=NM "") (y:=w) (t:=Ob BL (x::us)) ⟨?_,by rw[n0];simp,w0.1,by rw[OH,Kc];omega⟩ w0.2.2 (yT (by decide +kernel) (by decide +kernel))⟩;rw[cZ,xX,n0,znw];rfl
 obtain⟨y,rfl,hy⟩:=key;refine⟨y,T2,?_,t2,hy⟩;have sp:=h.spl;obtain⟨i0,i1⟩:=j9 h
 have q1:(NM "told ").length+x.length<=sizeLine:=by rw[rC];omega
 have q2:(NM "made ").length+x.length<=sizeLine:=by rw[rN];omega
 have q3:(NM " ").length+(EI w x us).length<=sizeLine:=by rw[Kc];omega
 simp[bX,sp,e1,e2,i1,q1,q2,q3,ea]
theorem zny(h:LW C x w t us)(t1:aY A T1)(e1:aQ [.tp A.length,.d (.int 9)] T=some (.int 5,T1)):gs C A (bX [.tp A.length,.d (.str (EI w x us))] T):=by
 have x0:=h.x0;have w0:=h.w0;have hl:=h.len;have z:NX=16777216:=rfl
 have b2:(NM "  ").length=2:=by decide +kernel
 have c2:cd "  "=[32,32]:=by decide +kernel
 have n0:cd ""=[]:=by decide +kernel
 have jl:(Ob BL (x::us)).length<=210000:=by
  have:=jG (x::us);simp at this;omega
 refine⟨w++NM "  "++Ob BL (x::us),T1,?_,t1,tO (w:=w) (y:=NM "") (t:=Ob BL (x::us)) ⟨?_,w0.1,by rw[n0];simp,by rw[OH,OH,b2];omega⟩ (by decide +kernel)⟩
 .have sp:=h.spl
  obtain⟨i0,i1⟩:=j9 h;have jn:dy (.str " ") (.list (sl (x::us)))=some (.str (Ob BL (x::us))):=nL (by simp;omega);have ct:cu (sl (w::x::us)) (some 1) none=sl (x::us):=rS
  have q1:w.length+(NM "  ").length<=sizeLine:=by rw[b2];omega
  have q2:(w++NM "  ").length+(Ob BL (x::us)).length<=sizeLine:=by rw[OH,b2];omega
  simp[bX,sp,e1,i0,ct,jn,q1,q2]
 .rw[cZ,cZ,c2,n0]
  simp
theorem znz(h:LW C x w t us)(t1:aY A T1)(e1:aQ [.tp A.length,.d (.int 9)] T=some (.int 6,T1)):gs C A (bX [.tp A.length,.d (.str (EI w x us))] T):=by
 have x0:=h.x0;have l3:=mV (us:=["say","put","1"]) (a:=NM "told") (y:=x) (by decide +kernel) ⟨x0.1,by omega⟩ (by simp) (by decide +kernel)
 have e:Ob BL ["say","put","1"]=NM "say put 1":=by decide +kernel
 rw[e] at l3;refine⟨_,T1,?_,t1,iQ l3 h.nm (kX (rX [] (by decide +kernel)))⟩;have sp:=h.spl;obtain⟨i0,i1⟩:=j9 h
 have q:(NM "told").length+(x.length+((NM "say").length+((NM "put").length+(NM "1").length)))<=100:=by
  have:(NM "told").length+((NM "say").length+((NM "put").length+(NM "1").length))<=20:=by decide +kernel
  omega
 have jn:dy (.str " ") (.list [.str "told",.str x,.str "say",.str "put",.str "1"])=some (.str (Ob BL [NM "told",x,NM "say",NM "put",NM "1"])):=nL (us:=[NM "told",x,NM "say",NM "put",NM "1"]) (by simp;omega);simp[bX,sp,e1,i1,jn]
theorem zoa(h:LW C x w t us)(t1:aY A T1)(e1:aQ [.tp A.length,.d (.int 9)] T=some (.int 7,T1)):gs C A (bX [.tp A.length,.d (.str (EI w x us))] T):=by
 have x0:=h.x0;have l3:=mV (us:=["1"]) (a:=NM "made") (y:=x) (by decide +kernel) ⟨x0.1,by omega⟩ (by simp) (by decide +kernel);rw[join_1] at l3;refine⟨_,T1,?_,t1,iQ l3 h.nm (kY zna)⟩;have sp:=h.spl;obtain⟨i0,i1⟩:=j9 h
 have q:(NM "made").length+(x.length+(NM "1").length)<=100:=by
  have:(NM "made").length+(NM "1").length<=20:=by decide +kernel
  omega
 have jn:dy (.str " ") (.list [.str "made",.str x,.str "1"])=some (.str (Ob BL [NM "made",x,NM "1"])):=nL (us:=[NM "made",x,NM "1"]) (by simp;omega);simp[bX,sp,e1,i1,jn]
theorem zob(h:LW C x w t us)(t1:aY A T1)(e1:aQ [.tp A.length,.d (.int 9)] T=some (.int 8,T1)):gs C A (bX [.tp A.length,.d (.str (EI w x us))] T):=by
 have x0:=h.x0;have w0:=h.w0;have ll:=h.ll;have z:NX=16777216:=rfl
 have l4:(NM " x y").length=4:=by decide +kernel
 refine⟨EI w x us++NM " x y",T1,?_,t1,iQ (w:=w) (y:=x) (t:=t++NM " x y") ⟨?_,w0.1,x0.1,by rw[OH,l4];omega⟩ h.nm h.more⟩
 .have sp:=h.spl
  have q:(EI w x us).length+(NM " x y").length<=sizeLine:=by rw[l4];omega
  simp[bX,sp,e1,q]
 .rw[cZ,qg h.ne,cZ,h.te]
  simp
theorem zoc(h:LW C x w t us)(t0:aY A T):gs C A (bX [.tp A.length,.d (.str (EI w x us))] T):=by
 obtain⟨j,T1,e1,t1,j0,j1⟩:=bp (m:=9) t0 (by decide)
 have:j=0\/j=1\/j=2\/j=3\/j=4\/j=5\/j=6\/j=7\/j=8:=by omega
 rcases this with rfl|rfl|rfl|rfl|rfl|rfl|rfl|rfl|rfl
 .exact zns h t1 e1
 .exact znt h t1 e1
 .exact znu h t1 e1
 .exact znv h t1 e1
 .exact znx h t1 e1
 .exact zny h t1 e1
 .exact znz h t1 e1
 .exact zoa h t1 e1
 .exact zob h t1 e1
end
theorem zod(C:Addr):lK C=aW 14 (aq (aG 1 (av jA (af (aa 0) (af (fC (.int 1)) (af (fC (.bool false)) ai))))) (aq (aG 2 (aT .tuple (af (j7 (ah Zx (aa 1) (fC (.int 0)))) (af (j7 (ah Zx (aa 1) (fC (.int 1)))) ai)))) (aq (aG 3 (av jv (af (aa 1) ai))) (aq (iE 4 (cT (fC (.int 8))) (GU C)) (iu 5 (af (av fA (af (av eS (af (aa 0) (af (fC (.int 0)) ai))) (af (fC (.int 50)) ai))) (af (fC (.int 0)) ai)) (A0 C)))))):=rfl
theorem u3:jS m g ρ T=XI (g ρ T) (lE m):=rfl
theorem mq(h:m [.d x] []=some (y,T')):lE m [.d x] T=some (.d y,T):=by
 unfold lE;rw[if_pos (show oX [.d x]=true from rfl),h]
theorem xM:∀{M:List Str},y∈M->∃i,fu y M=some i/\i<M.length/\M[i]? = some y
 |[],h=>by cases h
 |x::M,h=>by
  by_cases e:x=y
  .exact⟨0,by simp[fu,e],by simp,by simp[e]⟩
  .obtain⟨i,h1,h2,h3⟩:=xM  ((N4.mp h).resolve_left fun z=>e z.symm)
   exact⟨i+1,by simp[fu,e,h1],by simp;omega,by simpa using h3⟩
def ZI(sc:NN)(D0 R0:Dc)(ls:List Str)(k a:Int)(M:List NN)(p:Int)(o9 o10 o11:Option D.W):XD:=[some (.d sc),some (.d (YF D0 R0)),some (.d (YF D0 R0)),some (.d (.list (XG ls))),some (.d (.int k)),some (.tp 0),some (.d (.int a)),some (.d (.list M)),some (.d (.int p)),o9,o10,o11,none,none]
section
variable {C:Addr}{D0 R0:Dc}{f:Str->Str}{sc:NN}{ls M:List Str}{k a:Int}{T:Tp}{o9 o10 o11:Option D.W}
theorem Z0.lw(h:Z0 C D0 R0 f x):∃w t us,LW C x w t us/\f x=EI w x us:=by
 obtain⟨hn,p,w,t,c,hE,e⟩:=h;obtain⟨us,l⟩:=hE.lw hn;refine⟨_,t,us,l,?_⟩;rw[e];exact dw (by rw[rO hE.wd.1,qg l.ne,←l.te])
theorem Z0.spl(h:Z0 C D0 R0 f x):∃a r,dX (.str (f x)) (.str " ")=some (.list (a::.str x::r)):=by
 obtain⟨w,t,us,l,e⟩:=h.lw;rw[e];exact⟨_,_,l.spl⟩
def nm1:NN->PyData:=fun d=>match dX d (.str " ") with
 |some (.list (_::n::_))=>n
 |_=>.none
theorem Z0.nm1(h:Z0 C D0 R0 f x):nm1 (.str (f x))=.str x:=by
 obtain⟨a,r,e⟩:=h.spl;unfold G.nm1;rw[e]
theorem yX{l:List Str}(h0:0<=q)(h1:q<(l.length:Int)):∃y∈l,Yr (XG (l.map f)) q=some (.str (f y)):=by
 obtain⟨d,e,hm⟩:=eJ (xs:=XG (l.map f)) h0 (by simpa[XG] using h1);obtain⟨z,hz,rfl⟩:=Oj.mp hm;obtain⟨y,hy,rfl⟩:=Oj.mp hz;exact⟨y,hy,e⟩
theorem eX(l:List Str):(XG (l.map f)).length=l.length:=by simp[XG]
theorem zoe(hM:∀x∈M,Z0 C D0 R0 f x)(h0:0<M.length)(hl:M.length<=10)(t:aY [] T) :
  ∃y i T',oF (ZI sc D0 R0 ls k a (XG (M.map f)) p o9 o10 o11) T=some ((.nx,ZI sc D0 R0 ls k a (XG (M.map f)) p (some (.d (.str y))) o10 o11),T')/\aY [] T'/\i<M.length/\M[i]? = some y/\fu y M=some i:=by
 obtain⟨q,T1,e1,t1,q0,q1⟩:=bp (m:=(M.length)) t (by omega);obtain⟨y,hy,ea⟩:=yX (f:=f) q0 q1;obtain⟨b,r,es⟩:=(hM y hy).spl;obtain⟨i,i1,i2,i3⟩:=xM hy;refine⟨y,i,T1,?_,t1,i2,i3,i1⟩;have GI:aQ [.tp 0,.d _] T=some _:=e1;have ln:=eX (f:=f) M;simp[oF,ZI,ln,GI,ea,es]
theorem vj:aS (.int 0)=true :=rfl
theorem wR(h:(decide (cd (NM p)=cd (NM w)++[32])&&decide (32∉cd (NM w))&&decide ((NM p).length=5)&&decide (cd (NM s)=32::cd t)&&decide ((NM s).length<=100))=true)(hy:32∉cd y/\y.length<=8):L3 (NM p++y++NM s) (NM w) y t:=by
 simp only[NY,decide_eq_true_eq] at h;refine⟨?_,h.1.1.1.2,hy.1,by rw[OH,OH];omega⟩;rw[cZ,cZ,h.1.1.1.1,h.1.2];simp
theorem uC(hy:isName (.str y)=true):bT C [.d (.str (NM "told "++y++NM " 0"))] []=some (.tuple [.str "told",.str y,.int 0],[]):=by
 have x0:32∉cd y/\y.length<=8:=⟨(kU hy).1.no,iN hy⟩;have b:=rA [] vj
 have e:mk (cst 4 (.int 0))=NM "0":=by decide +kernel
 exact rD (wR     (by decide +kernel) x0) hy (kX b) rfl
theorem uD(hy:isName (.str y)=true):bT C [.d (.str (NM "made "++y++NM " say put 1"))] []=some (.tuple [.str "made",.str y,.tuple [.str "say",.tuple [.str "put",.int 1]]],[]):=by
 have x0:32∉cd y/\y.length<=8:=⟨(kU hy).1.no,iN hy⟩;exact rD (wR     (by decide +kernel) x0) hy (kY znb) rfl
theorem vn(hy:y.length<=8):(NM "told ").length+y.length<=NX/\(NM "told "++y).length+(NM " 0").length<=NX/\(NM "made ").length+y.length<=NX/\(NM "made "++y).length+(NM " say put 1").length<=sizeLine:=by
 have z:NX=16777216:=rfl
 have l0:(NM " 0").length=2:=by decide +kernel
 have l1:(NM " say put 1").length=10:=by decide +kernel
 rw[OH,OH,rC,rN,l0,l1];omega
theorem zof(hM:∀x∈M,Z0 C D0 R0 f x)(hl:M.length<=10)(hi:i<M.length)(hy:M[i]? = some y)(hx:fu y M=some i)(t:aY [] T) :
  ∃(n:Nat) (z:Str) (T':Tp),oE (ZI sc D0 R0 ls k a (XG (M.map f)) p (some (.d (.str y))) o10 o11) T=some ((.nx,ZI sc D0 R0 ls k a (XG (M.map f)) (n:Int) (some (.d (.str y))) (some (.d (.list (XG ((M.take n).map f)++.str z::XG ((M.drop n).map f))))) o11),T')/\aY [] T'/\n<=M.length/\ZM C (M.take n) n z:=by
 have hym:y∈M:=OC hy;obtain⟨hn,_⟩:=hM y hym;have x8:=iN hn;obtain⟨q,T1,e1,t1,q0,q1⟩:=bp (m:=(M.length:Int)+1-(1+(i:Int))) t (by omega);obtain⟨j,T2,e2,t2,j0,j1⟩:=bp (m:=2) t1 (by decide);obtain⟨q,rfl⟩:∃n:Nat,q=(n:Int):=⟨q.toNat,by omega⟩;obtain⟨d,ed,hd⟩:=eJ (xs:=[OE (NM "told "++y++NM " 0"),.str (NM "made "++y++NM " say put 1")]) j0 j1;have Ge:y∈M.take (1+i+q):=OC (i:=i) (by rw[SK (by omega)];exact hy)
 have key:∃z,d=.str z/\ZM C (M.take (1+i+q)) (1+i+q) z:=by
  simp only[N4,Pd,or_false] at hd
  rcases hd with rfl|rfl
  .exact⟨_,rfl,.twin (uC hn) Ge⟩
  .exact⟨_,rfl,.twin (uD hn) Ge⟩
 obtain⟨z,rfl,hz⟩:=key;refine⟨1+i+q,z,T2,?_,t2,by omega,hz⟩;have GI:aQ [.tp 0,.d (.int ((M.length:Int)+1-(1+(i:Int))))] T=some (.int (q:Int),T1):=e1;have D9:aQ [.tp 0,.d (.int 2)] T1=some (.int j,T2):=e2;have ln:=eX (f:=f) M;obtain⟨w1,w2,w3,w4⟩:=vn x8
 have c:=dv (e:=ah Zx (ah dX (aa 0) (fC (.str " "))) (fC (.int 1))) (ρ:=ZI sc D0 R0 ls k a (XG (M.map f)) p (some (.d (.str y))) o10 o11) (T:=T) (g:=nm1) (ds:=XG (M.map f)) fun d hd=>by
  obtain⟨u,hu,rfl⟩:=Oj.mp hd;obtain⟨v,hv,rfl⟩:=Oj.mp hu;obtain⟨b,r,es⟩:=(hM v hv).spl;have a1:Yr (b::.str v::r) 1=some (.str v):=yY;rw[(hM v hv).nm1];simp[es,a1]
 have m1:(XG (M.map f)).map nm1=XG M:=by
  unfold XG;rw[Pm,Pm];exact OX fun x hx=>(hM x hx).nm1
 rw[m1] at c;have st:dI (XG M)=some M:=kL M
 have nn:(1:Int)+(i:Int)+(q:Int)=((1+i+q:Nat):Int):=by omega
 have ct:=ix (XG (M.map f)) (1+i+q);have cf:=kJ (XG (M.map f)) (1+i+q)
 have tk:(XG (M.map f)).take (1+i+q)=XG ((M.take (1+i+q)).map f):=by rw[mx,Ri]
 have dr:(XG (M.map f)).drop (1+i+q)=XG ((M.drop (1+i+q)).map f):=by rw[qd,SQ]
 rw[tk] at ct;rw[dr] at cf
 have z1:(XG ((M.take (1+i+q)).map f)).length+1<=sizeLine:=by
  have zz:NX=16777216:=rfl;rw[eX,OZ];omega
 have z2:(XG ((M.take (1+i+q)).map f)).length+1+(XG ((M.drop (1+i+q)).map f)).length<=sizeLine:=by
  have zz:NX=16777216:=rfl;rw[eX,eX,OZ,OV];omega
 generalize XG ((M.take (1+i+q)).map f)=X1 at *;generalize XG ((M.drop (1+i+q)).map f)=X2 at *;generalize ((1+i+q:Nat):Int)=N1 at *;unfold ZI at c ⊢;simp[oE,c,lZ,oW,st,hx,ln,GI,nn,ct,cf,w1,w2,w3,w4,D9,ed,z1,z2]
theorem zog{p:Nat}(hM:∀x∈M,Z0 C D0 R0 f x)(hl:M.length<=10)(hp:p<M.length)(t:aY [] T) :
  ∃(z:Str) (T':Tp),zP (ZI sc D0 R0 ls k a (XG (M.map f)) (p:Int) o9 o10 o11) T=some ((.nx,ZI sc D0 R0 ls k a (XG (M.map f)) (p:Int) o9 (some (.d (.list (XG ((M.take p).map f)++.str z::XG ((M.drop (p+1)).map f))))) o11),T')/\aY [] T'/\ZM C (M.take p) p z:=by
 obtain⟨x,hx,ea⟩:=yX (f:=f) (l:=M) (q:=(p:Int)) (by omega) (by omega);obtain⟨w,tt,us,lw,e⟩:=(hM x hx).lw;obtain⟨z,T1,e1,t1,hz⟩:=zoc lw t;rw[e] at ea;have GI:bX [.tp 0,.d (.str (EI w x us))] T=some (.str z,T1):=e1;refine⟨z,T1,?_,t1,.none hz⟩
 have nn:(p:Int)+1=((p+1:Nat):Int):=by omega
 have ct:=ix (XG (M.map f)) p;have cf:=kJ (XG (M.map f)) (p+1)
 have tk:(XG (M.map f)).take p=XG ((M.take p).map f):=by rw[mx,Ri]
 have dr:(XG (M.map f)).drop (p+1)=XG ((M.drop (p+1)).map f):=by rw[qd,SQ]
 rw[tk] at ct;rw[dr] at cf
 have z1:(XG ((M.take p).map f)).length+1<=sizeLine:=by
  have zz:NX=16777216:=rfl<;>grind
 have z2:(XG ((M.take p).map f)).length+1+(XG ((M.drop (p+1)).map f)).length<=sizeLine:=by
  have zz:NX=16777216:=rfl;rw[eX,eX,OZ,OV];omega
 generalize XG ((M.take p).map f)=X1 at *;generalize XG ((M.drop (p+1)).map f)=X2 at *;generalize ((p+1:Nat):Int)=N1 at *;generalize (p:Int)=N0 at *;unfold ZI;simp[zP,ea,GI,nn,ct,cf,z1,z2]
theorem zoh{n:Nat}{MM P R:List NN}{z:Str}(hP:P.length=n)(hn:n<=1000)(hR:R.length<=1000)(t:aY [] T) :
  ∃(R':List NN) (o:Option D.W) (T':Tp),zO (ZI sc D0 R0 ls k a MM (n:Int) o9 (some (.d (.list (P++.str z::R)))) o11) T=some ((.nx,ZI sc D0 R0 ls k a MM (n:Int) o9 (some (.d (.list (P++.str z::R')))) o),T')/\aY [] T'/\(o=o11\/∃d,o=some (.d d)):=by
 obtain⟨j,T1,e1,t1,j0,j1⟩:=bp (m:=3) t (by decide);have GI:aQ [.tp 0,.d (.int 3)] T=some (.int j,T1):=e1
 by_cases hj:j=0
 .obtain⟨q,T2,e2,t2,q0,q1⟩:=bp (m:=(R.length:Int)+1) t1 (by omega)
  obtain⟨q,rfl⟩:∃m:Nat,q=(m:Int):=⟨q.toNat,by omega⟩;have D9:aQ [.tp 0,.d (.int ((R.length:Int)+1))] T1=some (.int (q:Int),T2):=e2;refine⟨R.take q++.str "x"::R.drop q,some (.d (.int ((n+1+q:Nat):Int))),T2,?_,t2,.inr ⟨_,rfl⟩⟩
  have ll:(((P++.str z::R).length:Nat):Int)-(n:Int)=(R.length:Int)+1:=by
   rw[OS,Oo,hP];omega
  have nn:(n:Int)+1+(q:Int)=((n+1+q:Nat):Int):=by omega
  have ct:=ix (P++.str z::R) (n+1+q);have cf:=kJ (P++.str z::R) (n+1+q)
  have tk:(P++.str z::R).take (n+1+q)=P++.str z::R.take q:=by
   rw[List.take_append,hP,Pq (by omega)]
   have:n+1+q-n=q+1:=by omega
   rw[this];rfl
  have dr:(P++.str z::R).drop (n+1+q)=R.drop q:=by
   rw[List.drop_append,hP,OU (by omega)]
   have:n+1+q-n=q+1:=by omega
   rw[this];rfl
  rw[tk] at ct;rw[dr] at cf
  have z1:(P++.str z::R.take q).length+1<=sizeLine:=by
   have zz:NX=16777216:=rfl;rw[OS,Oo,OZ];omega
  have z2:(P++.str z::R.take q).length+1+(R.drop q).length<=sizeLine:=by
   have zz:NX=16777216:=rfl;rw[OS,Oo,OZ,OV];omega
  have fin:P++.str z::(R.take q++.str "x"::R.drop q)=P++.str z::R.take q++[.str "x"]++R.drop q:=by simp
  rw[fin];generalize P++.str z::R.take q=Y1 at *;generalize R.drop q=Y2 at *;generalize P++.str z::R=Y0 at *;generalize ((n+1+q:Nat):Int)=N1 at *;generalize (R.length:Int)+1=N2 at *;generalize (n:Int)=N0 at *;unfold ZI;simp[zO,GI,hj,ll,D9,nn,ct,cf,z1,z2]
 .refine⟨R,o11,T1,?_,t1,.inl rfl⟩
  unfold ZI;simp[zO,GI,hj]
theorem zoi{n p:Nat}{P R:List NN}{z:Str}{A B:Dc}(e1:ei C [.d (.list (P++.str z::R))] []=some (Kl n,[])){MM:List NN}(e2:ei C [.d (.list MM)] []=some (.list [YF A B],[]))(e3:br 24 [.d (YF A B),.d (YF D0 R0)] T=some (.bool true,T)) :
  Am C (ZI sc D0 R0 ls k a MM (n:Int) o9 (some (.d (.list (P++.str z::R)))) o11) T=some ((.nx,ZI sc D0 R0 ls k a MM (n:Int) o9 (some (.d (.list (P++.str z::R)))) o11),T):=by
 have c1:=mq (T:=T) e1;have c2:=mq (T:=T) e2;have s1:=vB (n:=(n)) (T:=T);have s2:=znn e3;unfold ZI;simp[Am,u3,c1,c2,s1,s2]
end
def fG(a k:Nat):Str:=QF (lc ((a+k) % 26)) ((1+k / 26:Nat):Int)
def NG(a:Nat):List Str:=(OQ 41).map (fG a)
theorem zoj:∀a,a<26->jm (NG a)=true:=by decide +kernel
def tL(x:Str):Str:=NM "told "++x++NM " 0"
def mL(x:Str):Str:=NM "made "++x++NM " say put 1"
def gf(tl:List Str)(x:Str):Str:=if x∈tl then tL x else mL x
theorem zok:km=aW 5 (aq (aG 2 (fC (.str ZV))) (aq (aG 3 (av aQ (af (aa 0) (af (fC (.int 26)) ai)))) (aq (aG 4 (cg (cT (aa 1)) bx (ah bW (ah Zx (aa 3) (ah cU (ah az (aa 4) (aa 0)) (fC (.int 26)))) (ah az (fC (.int 1)) (ah gp (aa 0) (fC (.int 26))))))) (aB (cg (dj (aa 4)) bx DL))))):=rfl
theorem v7{r:XD}:∀(xs:List Str) (T:Tp),xs.Nodup->(∀x∈xs,isName (.str x)=true)->aY [] T->∃tl T',(∀y∈tl,y∈xs)/\bE bx DL (some (.tp 0)::r) (XG xs) T=some (XG (xs.map (gf tl)),T')/\aY [] T'
 |[],T,_,_,t=>⟨[],T,by simp,rfl,t⟩
 |x::xs,T,nd,hn,t=>by
  obtain⟨j,T1,e1,t1,j0,j1⟩:=bp (m:=2) t (by decide);have GI:aQ [.tp 0,.d (.int 2)] T=some (.int j,T1):=e1;obtain⟨nx,nd'⟩:=QQ.mp nd;obtain⟨tl,T2,h1,h2,h3⟩:=v7 (r:=r) xs T1 nd' (fun y hy=>hn y (NV _ hy)) t1;have nt:x∉tl:=fun z=>nx (h1 x z);obtain⟨w1,w2,w3,w4⟩:=vn (iN (hn x NZ));have a0:∀{a b:NN},Yr [a,b] 0=some a:=rfl;have a1:∀{a b:NN},Yr [a,b] 1=some b:=rfl
  have e2:∀y:Str,DL (some (.d (.str x))::some (.tp 0)::r) T=some (.d (.str y),T1)->bE bx DL (some (.tp 0)::r) (XG (x::xs)) T=some (.str y::XG (xs.map (gf tl)),T2):=fun y hy=>by
   show bE bx DL (some (.tp 0)::r) (.str x::XG xs) T=_;unfold bE;simp[hy,h2]
  by_cases hj:j=0
  .refine⟨x::tl,T2,fun y hy=>(N4.mp hy).elim (fun e=>e ▸ NZ) fun z=>NV _ (h1 y z),?_,h3⟩
   rw[e2 (tL x) (by simp[DL,w1,w2,w3,w4,GI,hj,a0,tL])]
   have m:xs.map (gf (x::tl))=xs.map (gf tl):=OX fun y hy=>by
    have:y≠x:=fun e=>nx (e ▸ hy);simp[gf,this]
   rw[OJ,m];simp[gf,XG]
  .have hj1:j=1:=by omega
   refine⟨tl,T2,fun y hy=>NV _ (h1 y hy),?_,h3⟩;rw[e2 (mL x) (by simp[DL,w1,w2,w3,w4,GI,hj1,a1,mL])];rw[OJ];simp[gf,nt,XG]
theorem zol(t:aY [] T):∃(xs tl:List Str) (T':Tp),km [.tp 0,.d (.int 41)] T=some (.list (XG (xs.map (gf tl))),T')/\aY [] T'/\xs.length=41/\xs.Nodup/\∀x∈xs,isName (.str x)=true:=by
 obtain⟨a,T1,e1,t1,a0,a1⟩:=bp (m:=26) t (by decide);obtain⟨a,rfl⟩:∃j:Nat,a=(j:Int):=⟨a.toNat,by omega⟩;have GI:aQ [.tp 0,.d (.int 26)] T=some (.int (a:Int),T1):=e1;have ok:=zoj a (by omega);unfold jm at ok;rw[NY] at ok;have nd:=of_decide_eq_true ok.1;have hn:∀x∈NG a,isName (.str x)=true:=fun x hx=>Oq.mp ok.2 x hx;have hr:=dE (j:=41) (by decide) (by decide)
 have c:=qc (f:=fG a) (e:=(ah bW (ah Zx (aa 3) (ah cU (ah az (aa 4) (aa 0)) (fC (.int 26)))) (ah az (fC (.int 1)) (ah gp (aa 0) (fC (.int 26)))))) (ρ:=[some (.tp 0),some (.d (.int 41)),some (.d (.str ZV)),some (.d (.int (a:Int))),none]) (T:=T1) (m:=41) fun k hk=>by
  have x1:=nX (i:=((a:Int)+(k:Int)) % 26) (by omega) (by omega)
  have x2:(((a:Int)+(k:Int)) % 26).toNat=(a+k) % 26:=by omega
  rw[x2] at x1
  have x3:(0:Int)<=1+(k:Int) / 26/\1+(k:Int) / 26<=2000:=by omega
  have x4:((1+k / 26:Nat):Int)=1+(k:Int) / 26:=by omega
  have x5:US (⟨#[97+(a+k) % 26]⟩:Str)<=1000:=by show 1<=1000;decide
  simp only[fG,lc,x4];simp[x1,x3,mT,x5,ie]
 obtain⟨tl,T2,_,h2,h3⟩:=v7 (r:=[some (.d (.int 41)),some (.d (.str ZV)),some (.d (.int (a:Int))),some (.d (.list (XG (NG a))))]) (NG a) T1 nd hn t1;refine⟨NG a,tl,T2,?_,h3,by simp[NG],nd,hn⟩;have c':bE bx _ [some (.tp 0),some (.d (.int 41)),some (.d (.str ZV)),some (.d (.int (a:Int))),none] (bh 0 41) T1=some (XG (NG a),T1):=c;rw[zok];simp[GI,hr,c',h2]
theorem qF{l:List Str}:aN (l.map fun x=>(OE x,v)) y=if y∈l then some v else none:=by
 induction l with
 |nil=>rfl
 |cons x r ih=>
  show (if x=y then some v else aN _ y)=_
  by_cases h:x=y
  .simp_all
  .have h':¬y=x:=fun z=>h z.symm<;>simp_all
section
variable {C:Addr}
def AR:PyData:=.tuple [.str "say",.tuple [.str "put",.int 1]]
theorem zom{xs tl:List Str}(hx:x∈xs)(hn:isName (.str x)=true):Z0 C (tl.map fun x=>(OE x,.int 0)) (xs.map fun x=>(OE x,AR)) (gf tl) x:=by
 have e0:mk (cst 4 (.int 0))=NM "0":=by decide +kernel
 have b0:cd " 0"=32::cd "0":=by decide +kernel
 have e1:Ob BL ["say","put","1"]=NM "say put 1":=by decide +kernel
 have b1:cd " say put 1"=32::cd "say put 1":=by decide +kernel
 refine⟨hn,?_⟩
 by_cases h:x∈tl
 .refine⟨"told ","told",_,.int 0,.told (by rw[qF,if_pos h]) vj,?_⟩
  unfold gf GK tL;rw[if_pos h,e0];exact dw (by simp[cZ,b0,xX])
 .refine⟨"made ","made",_,AR,.made (by rw[qF,if_neg h]) (by rw[qF,if_pos hx]) ((oO   (w:="1") (by decide +kernel) (by decide +kernel)).up (by decide)),?_⟩
  unfold gf GK mL;rw[if_neg h,e1];exact dw (by simp[cZ,b1,xX])
theorem zon(hn:isName (.str x)=true):∃w c,bT C [.d (.str (gf tl x))] []=some (.tuple [.str w,.str x,c],[]):=by
 unfold gf;split
 .exact⟨_,_,uC hn⟩
 .exact⟨_,_,uD hn⟩
theorem zoo{xs tl:List Str}(hl:xs.length=41)(nd:xs.Nodup)(hn:∀x∈xs,isName (.str x)=true):(∃A B,ei C [.d (.list ((XG (xs.map (gf tl))).take 40))] []=some (.list [YF A B],[])/\A.length+B.length=40)/\ei C [.d (.list (XG (xs.map (gf tl))))] []=some (Kl 40,[]):=by
 have l40:(xs.take 40).length=40:=by rw[OZ];omega
 have GW:(xs.take 40).Nodup:=nd.sublist (RA ..);have ln:∀x∈xs.take 40,Z0 C (tl.map fun x=>(OE x,.int 0)) (xs.map fun x=>(OE x,AR)) (gf tl) x:=fun x hx=>zom (QA hx) (hn x (QA hx));constructor
 .obtain⟨A,B,e,r⟩:=yg ln GW (by omega)
  refine⟨A,B,?_,?_⟩
  .rw[mx,←Ri]
   exact e
  .have h:=List.length_eq_countP_add_countP (p:=fun x=>(aN (tl.map fun x=>(OE x,Qq 0)) x).isSome) (l:=xs.take 40)
   rw[r.la,r.lb];rw[l40] at h
   have q:(xs.take 40).countP (fun x=>(aN (tl.map fun x=>(OE x,Qq 0)) x).isNone)=(xs.take 40).countP (fun a=>decide ¬(aN (tl.map fun x=>(OE x,Qq 0)) a).isSome=true):=List.countP_congr fun x _=>by cases aN (tl.map fun x=>(OE x,Qq 0)) x <;> simp
   omega
 .have FC:40<xs.length:=by omega
  have ex:xs=xs.take 40++[xs[40]]:=by
   have h:=TY 40 xs
   have d:xs.drop 40=[xs[40]]:=by
    rw[Pr FC,OU (by omega)]
   rw[d] at h;exact h.symm
  obtain⟨w,c,et⟩:=zon (C:=C) (tl:=tl) (hn xs[40] (RQ FC));have bz:ZM C (xs.take 40) (xs.take 40).length (gf tl xs[40]):=.many et (by omega);have:=uy (rest:=[]) ln GW (by omega) bz;rw[l40] at this
  have e2:XG (xs.map (gf tl))=XG ((xs.take 40).map (gf tl))++[.str (gf tl xs[40])]:=by
   have h:XG (xs.map (gf tl))=XG ((xs.take 40++[xs[40]]).map (gf tl)):=congrArg (fun l=>XG (l.map (gf tl))) ex;rw[QS,←qz] at h;exact h
  rw[e2];exact this
end
def CQ(sc:NN)(D0 R0:Dc)(ls:List Str)(o4 o6 o7 o8 o9 o10 o11:Option NN):XD:=[some (.d sc),some (.d (YF D0 R0)),some (.d (YF D0 R0)),some (.d (.list (XG ls))),o4.map .d,none,o6.map .d,o7.map .d,o8.map .d,o9.map .d,o10.map .d,o11.map .d,none,none]
theorem zop(o:Option NN):(o.map D.W.d).bind (rQ 0)=o.map .d:=by cases o <;> rfl
theorem zoq:g0 0 (ZI sc D0 R0 ls k a M p (o9.map .d) (o10.map .d) (o11.map .d))=CQ sc D0 R0 ls (some (.int k)) (some (.int a)) (some (.list M)) (some (.int p)) o9 o10 o11:=by
 unfold ZI CQ g0;simp only[OJ,zop];rfl
section
variable {C:Addr}{S:List Str}{D0 R0:Dc}{f:Str->Str}{sc:NN}
theorem zor(b:YS C S D0 R0)(Gk:3<=S.length)(hS:S.length<=10)(hf:∀x∈kn D0++kn R0,Z0 C D0 R0 f x){T:Tp}{k:Int}{o6 o7 o8:Option D.W}{o9 o10 o11:Option NN}(t:aY [] T) :
  ∃(a p:Int) (M:List NN) (q9 EJ Gn:Option NN) (T':Tp),zQ C [some (.d sc),some (.d (YF D0 R0)),some (.d (YF D0 R0)),some (.d (.list (XG ((kn D0++kn R0).map f)))),some (.d (.int k)),some (.tp 0),o6,o7,o8,o9.map .d,o10.map .d,o11.map .d,none,none] T=some ((.nx,ZI sc D0 R0 ((kn D0++kn R0).map f) k a M p (q9.map .d) (EJ.map .d) (Gn.map .d)),T')/\aY [] T':=by
 have nl:=b.nlen;generalize hN:kn D0++kn R0=N at nl hf ⊢;have ln:=eX (f:=f) N;obtain⟨a,T1,e1,t1,a0,a1⟩:=bp (m:=(N.length:Int)) t (by omega);obtain⟨a,rfl⟩:∃j:Nat,a=(j:Int):=⟨a.toNat,by omega⟩;have GI:aQ [.tp 0,.d (.int (N.length:Int))] T=some (.int (a:Int),T1):=e1;have hp:(N.drop a++N.take a).Perm N:=List.perm_append_comm.trans (by rw[TY]);generalize hM:N.drop a++N.take a=M at hp;have lM:M.length=N.length:=hp.length_eq;have fM:∀x∈M,Z0 C D0 R0 f x:=fun x hx=>hf x (hp.mem_iff.mp hx);have nd:M.Nodup:=hp.nodup_iff.mpr (hN ▸ b.nd);have lnM:=eX (f:=f) M;obtain⟨p,T2,e2,t2,p0,p1⟩:=bp (m:=(M.length:Int)) t1 (by omega);obtain⟨p,rfl⟩:∃j:Nat,p=(j:Int):=⟨p.toNat,by omega⟩;have D9:aQ [.tp 0,.d (.int (M.length:Int))] T1=some (.int (p:Int),T2):=e2;obtain⟨w,T3,e3,t3,w0,w1⟩:=bp (m:=4) t2 (by decide);have Al:aQ [.tp 0,.d (.int 4)] T2=some (.int w,T3):=e3;obtain⟨A,B,r1,rs⟩:=yg fM nd (by omega);have sm:∀T:Tp,br 24 [.d (YF A B),.d (YF D0 R0)] T=some (.bool true,T):=fun T=>b.back (xs:=M) (hN ▸ hp) rs 24 (by decide)
 have cm:(XG (N.map f)).drop a++(XG (N.map f)).take a=XG (M.map f):=by rw[qd,mx,qz,←hM,QS,SQ,Ri]
 have lz:((XG (N.map f)).drop a).length+((XG (N.map f)).take a).length<=sizeLine:=by
  have z:NX=16777216:=rfl;rw[OV,OZ,ln];omega
 have key:∃(n:Nat) (z:Str) (R:List NN) (q9:Option NN) (T4:Tp),(Ye (aH (ah D6 (av aQ (af (aa 5) (af (fC (.int 4)) ai))) (fC (.int 0)))) (aq oF oE) zP) (ZI sc D0 R0 (N.map f) k (a:Int) (XG (M.map f)) (p:Int) (o9.map .d) (o10.map .d) (o11.map .d)) T2=some ((.nx,ZI sc D0 R0 (N.map f) k (a:Int) (XG (M.map f)) (n:Int) (q9.map .d) (some (.d (.list (XG ((M.take n).map f)++.str z::R)))) (o11.map .d)),T4)/\aY [] T4/\n<=M.length/\ZM C (M.take n) n z/\R.length<=1000:=by
  by_cases hw:w=0
  .obtain⟨y,i,T4,f1,t4,i1,i2,i3⟩:=zoe (sc:=sc) (ls:=N.map f) (k:=k) (a:=(a:Int)) (p:=(p:Int)) (o9:=o9.map .d) (o10:=o10.map .d) (o11:=o11.map .d) fM (by omega) (by omega) t3
   obtain⟨n,z,T5,f2,t5,n1,bz⟩:=zof (sc:=sc) (ls:=N.map f) (k:=k) (a:=(a:Int)) (p:=(p:Int)) (o10:=o10.map .d) (o11:=o11.map .d) fM (by omega) i1 i2 i3 t4;refine⟨n,z,XG ((M.drop n).map f),some (.str y),T5,?_,t5,n1,bz,by rw[eX,OV];omega⟩;have v5:aa 5 (ZI sc D0 R0 (N.map f) k (a:Int) (XG (M.map f)) (p:Int) (o9.map .d) (o10.map .d) (o11.map .d)) T2=some (.tp 0,T2):=rfl;simp only[yQ,xS,xV,wg,wc,wb,v5,nS,zF,xU];simp[Al,hw,f1,f2]
  .obtain⟨z,T4,f1,t4,bz⟩:=zog (sc:=sc) (ls:=N.map f) (k:=k) (a:=(a:Int)) (p:=p) (o9:=o9.map .d) (o10:=o10.map .d) (o11:=o11.map .d) fM (by omega) (by omega) t3
   refine⟨p,z,XG ((M.drop (p+1)).map f),o9,T4,?_,t4,by omega,bz,by rw[eX,OV];omega⟩;have v5:aa 5 (ZI sc D0 R0 (N.map f) k (a:Int) (XG (M.map f)) (p:Int) (o9.map .d) (o10.map .d) (o11.map .d)) T2=some (.tp 0,T2):=rfl;simp only[yQ,xS,xV,wg,wc,wb,v5,nS,zF,xU];simp[Al,hw,f1]
 obtain⟨n,z,R,q9,T4,g1,t4,n1,bz,hR⟩:=key
 have lt:(M.take n).length=n:=by rw[OZ];omega
 obtain⟨R',Gn,T5,g2,t5,hq⟩:=zoh (sc:=sc) (D0:=D0) (R0:=R0) (ls:=N.map f) (k:=k) (a:=(a:Int)) (n:=n) (MM:=XG (M.map f)) (P:=XG ((M.take n).map f)) (R:=R) (z:=z) (o9:=q9.map .d) (o11:=o11.map .d) (by rw[eX,lt]) (by omega) hR t4;have tb:=uy (z:=z) (rest:=R') (fun x hx=>fM x (QA hx)) (nd.sublist (RA ..)) (by omega) (show ZM C (M.take n) (M.take n).length z by rw[lt];exact bz);rw[lt] at tb;have g3:=zoi (sc:=sc) (D0:=D0) (R0:=R0) (ls:=N.map f) (k:=k) (a:=(a:Int)) (o9:=q9.map .d) (o11:=Gn) (T:=T5) (p:=p) tb r1 (sm T5);obtain⟨Gn,rfl⟩:∃q:Option NN,Gn=q.map .d:=hq.elim (fun e=>⟨o11,e⟩) fun⟨d,e⟩=>⟨some d,e⟩;refine⟨(a:Int),(n:Int),XG (M.map f),q9,some (.list (XG ((M.take n).map f)++.str z::R')),Gn,T5,?_,t5⟩;unfold zQ
 have s0:∀(s:FS),aq (aG 6 (av aQ (af (aa 5) (af (Zu bi (af (aa 3) ai)) ai)))) s [some (.d sc),some (.d (YF D0 R0)),some (.d (YF D0 R0)),some (.d (.list (XG (N.map f)))),some (.d (.int k)),some (.tp 0),o6,o7,o8,o9.map .d,o10.map .d,o11.map .d,none,none] T=s [some (.d sc),some (.d (YF D0 R0)),some (.d (YF D0 R0)),some (.d (.list (XG (N.map f)))),some (.d (.int k)),some (.tp 0),some (.d (.int (a:Int))),o7,o8,o9.map .d,o10.map .d,o11.map .d,none,none] T1:=fun s=>by simp[ln,GI]
 have s1:∀(s:FS),aq (aG 7 (ah az (Zq (aa 3) (fP (aa 6)) bP) (Zq (aa 3) bP (fP (aa 6))))) s [some (.d sc),some (.d (YF D0 R0)),some (.d (YF D0 R0)),some (.d (.list (XG (N.map f)))),some (.d (.int k)),some (.tp 0),some (.d (.int (a:Int))),o7,o8,o9.map .d,o10.map .d,o11.map .d,none,none] T1=s [some (.d sc),some (.d (YF D0 R0)),some (.d (YF D0 R0)),some (.d (.list (XG (N.map f)))),some (.d (.int k)),some (.tp 0),some (.d (.int (a:Int))),some (.d (.list (XG (M.map f)))),o8,o9.map .d,o10.map .d,o11.map .d,none,none] T1:=fun s=>by simp[kJ,ix,lz,cm,-OV,-OZ]
 have s2:∀(s:FS),aq (aG 8 (av aQ (af (aa 5) (af (Zu bi (af (aa 7) ai)) ai)))) s [some (.d sc),some (.d (YF D0 R0)),some (.d (YF D0 R0)),some (.d (.list (XG (N.map f)))),some (.d (.int k)),some (.tp 0),some (.d (.int (a:Int))),some (.d (.list (XG (M.map f)))),o8,o9.map .d,o10.map .d,o11.map .d,none,none] T1=s (ZI sc D0 R0 (N.map f) k (a:Int) (XG (M.map f)) (p:Int) (o9.map .d) (o10.map .d) (o11.map .d)) T2:=fun s=>by simp[lnM,D9,ZI]
 rw[s0,s1,s2];rw[nQ,g1,nS,wa,nQ,g2,nS,wa];exact g3
theorem zos(b:YS C S D0 R0)(Gk:3<=S.length)(hS:S.length<=10)(hf:∀x∈kn D0++kn R0,Z0 C D0 R0 f x){ns:List Int}{k:Nat}{o6 o7 o8 o9 o10 o11:Option NN} :
  ∃q6 q7 q8 q9 EJ Gn,GU C (CQ (dh ns) D0 R0 ((kn D0++kn R0).map f) (some (.int (k:Int))) o6 o7 o8 o9 o10 o11) []=some ((.nx,CQ (dh ns) D0 R0 ((kn D0++kn R0).map f) (some (.int (k:Int))) q6 q7 q8 q9 EJ Gn),[]):=by
 obtain⟨c,ec⟩:=n8 (ns:=ns) (k:=12+(k)) (T:=[]) (by omega);obtain⟨ds,ed,ld,hd⟩:=nr (c:=c+41*(k)) (N:=30) (T:=[]) (by decide) (by decide);have AS:ds.length=30:=ld;obtain⟨a,p,M,q9,EJ,Gn,T',e,t⟩:=zor b Gk hS hf   (o6:=o6.map .d) (o7:=o7.map .d) (o8:=o8.map .d) (o9:=o9) (o10:=o10) (o11:=o11) (nz   (by omega) (by omega) hd);obtain⟨HD,i',rfl,_⟩:=t;refine⟨some (.int a),some (.list M),some (.int p),q9,EJ,Gn,?_⟩;have oe:=l7 (n:=0) (fl:=.nx) (ρ:=ZI (dh ns) D0 R0 ((kn D0++kn R0).map f) (k) a M p (q9.map .d) (EJ.map .d) (Gn.map .d)) (T:=[]) (row:=[.list HD,.int i']) rfl;rw[←e,zoq] at oe;rw[←oe];unfold GU;rw[mC];simp[CQ,ec,ed,mD]
theorem wU(b:YS C S D0 R0)(Gk:3<=S.length)(hS:S.length<=10)(hf:∀x∈kn D0++kn R0,Z0 C D0 R0 f x){ns:List Int}:∀(m k:Nat) (o4 o6 o7 o8 o9 o10 o11:Option NN),
  ∃q4 q6 q7 q8 q9 EJ Gn,forL 4 (GU C) ((O4 k m).map fun(i:Nat)=>Qq (i:Int)) (CQ (dh ns) D0 R0 ((kn D0++kn R0).map f) o4 o6 o7 o8 o9 o10 o11) []=some ((.nx,CQ (dh ns) D0 R0 ((kn D0++kn R0).map f) q4 q6 q7 q8 q9 EJ Gn),[])
 |0,k,o4,o6,o7,o8,o9,o10,o11=>⟨o4,o6,o7,o8,o9,o10,o11,rfl⟩
 |m+1,k,o4,o6,o7,o8,o9,o10,o11=>by
  obtain⟨p6,p7,p8,p9,p10,p11,e1⟩:=zos b Gk hS hf;obtain⟨q4,q6,q7,q8,q9,EJ,Gn,e2⟩:=wU b Gk hS hf  m _ _ p6 p7 p8 p9 p10 p11;refine⟨q4,q6,q7,q8,q9,EJ,Gn,?_⟩;have st:=e1
  rw[QJ,OJ,qG st]<;>omega
theorem zot(t:aY [] T){r0 r1 r2 r3 r4 r6 r7 r8 r9 r10 r11:Option NN}:∃ρ' T',A0 C [r0.map .d,r1.map .d,r2.map .d,r3.map .d,r4.map .d,some (.tp 0),r6.map .d,r7.map .d,r8.map .d,r9.map .d,r10.map .d,r11.map .d,none,none] T=some ((.rt (.bool true),ρ'),T')/\aY [] T':=by
 obtain⟨xs,tl,T1,e1,t1,l1,nd,hn⟩:=zol t;obtain⟨⟨A,B,e2,lAB⟩,e3⟩:=zoo (C:=C)  l1 nd hn;have c2:=mq (T:=T1) e2;have c3:=mq (T:=T1) e3;have ct:=ix (XG (xs.map (gf tl))) 40;have ct':cu _ none (some 40)=(XG _).take 40:=ct;have s1:=vB (n:=40) (T:=T1);generalize XG _=Y at *;have b0:Zx (YF A B) (.int 0)=some _:=rfl;have b1:Zx (YF A B) (.int 1)=some _:=rfl
 have x6:(A.length)+(B.length:Int)=40:=by omega
 unfold A0
 have fr:∀o:Option _,∀r ,bS (o.map D.W.d::r)=o.map _::bS r:=fun o r=>by cases o <;> rfl
 refine⟨[r0.map .d,r1.map .d,r2.map .d,r3.map .d,r4.map .d,some (.tp 0),r6.map .d,r7.map .d,r8.map .d,r9.map .d,r10.map .d,r11.map .d,some (.d (.list Y)),some (.d (.list [YF A B]))],T1,?_,t1⟩;simp[e1,ct',u3,c2,c3,b0,b1,x6,s1,fr]
end
theorem zou:j7 f ρ T=XI (f ρ T) fun w T1=>oy (jq (view T1 w)) T1:=rfl
theorem zov:oy (some ds) T=some (.d (.dict ds),T):=rfl
theorem Dy(C:Addr)(ns:List Int)(_:ns.length<=63):∃T',lK C [.d (.list (ns.map Qq))] []=some (.bool true,T'):=by
 refine⟨[],?_⟩;obtain⟨D0,R0,S,eb,b,Gk,hS⟩:=zlv C ns false;obtain⟨f,hf⟩:=b.fn;have el:=znm b hS hf [];obtain⟨q4,q6,q7,q8,q9,EJ,Gn,ef⟩:=wU b Gk hS hf (ns:=ns) 8 0 none none none none none none none
 have xh:forL 4 (GU C) (bh 0 8) (CQ (dh ns) D0 R0 ((kn D0++kn R0).map f) none none none none none none none) []=some ((.nx,CQ (dh ns) D0 R0 ((kn D0++kn R0).map f) q4 q6 q7 q8 q9 EJ Gn),[]):=by
  rw[sJ];exact ef
 clear ef;generalize (kn D0++kn R0).map f=LS at el xh;have hr:=dE (j:=8) (by decide) (by decide);obtain⟨c,ec⟩:=n8 (ns:=ns) (k:=0) (T:=[]) (by omega);obtain⟨ds,ed,ld,hd⟩:=nr (c:=c) (N:=50) (T:=[]) (by decide) (by decide);have AS:ds.length=50:=ld;obtain⟨ρ',T',eg,tg⟩:=zot (C:=C) (nz (A:=[]) (ds:=ds) (by omega) (by omega) hd) (r0:=some (dh ns)) (r1:=some (YF D0 R0)) (r2:=some (YF D0 R0)) (r3:=some (.list (XG LS))) (r4:=q4) (r6:=q6) (r7:=q7) (r8:=q8) (r9:=q9) (r10:=EJ) (r11:=Gn);obtain⟨HD,i',rfl,_⟩:=tg;have oe:=l7 (n:=0) (fl:=.rt (.bool true)) (ρ:=ρ') (T:=[]) (row:=[.list HD,.int i']) rfl;rw[←eg] at oe;have As:Zx (YF D0 R0) (.int 0)=some (.dict D0):=rfl;have AO:Zx (YF D0 R0) (.int 1)=some (.dict R0):=rfl;have bk:Tt [.dict D0,.dict R0]=YF D0 R0:=rfl;simp only[CQ,VR] at xh;show lK C [.d (dh ns)] []=_;rw[zod];simp[eb,zou,zov,As,AO,bk,el,hr,xh];simp[mC,ec,ed,mD];exact congrArg dM oe
def top(i:Nat):Stmt:=PySem.Challenge.pw_redo_k21_lines_that_write_no_book.main.body.getD i (.Pass ⟨0,0,0,0⟩)
def bH(i j:Nat):Stmt:=match top i with
 |.ClassDef _ _ _ b _ _ _ _ _ _ _=>b.getD j (.Pass ⟨0,0,0,0⟩)
 |s=>s
structure Bi(K:Frag)(mg:Str->Option NO)(C:Addr):Prop where
 k_Words:zS K C
 m_Words:mg "Words"=some (.ref C)
 n_Words_begun:Yz K C "begun"
 n_Words_parted:Yz K C "parted"
 n_Words_place:Yz K C "place"
 b_abs:mg "abs"=none
 b_all:mg "all"=none
 b_bool:mg "bool"=none
 b_dict:mg "dict"=none
 b_enumerate:mg "enumerate"=none
 b_int:mg "int"=none
 b_isinstance:mg "isinstance"=none
 b_len:mg "len"=none
 b_list:mg "list"=none
 b_range:mg "range"=none
 b_str:mg "str"=none
 b_sum:mg "sum"=none
 b_tuple:mg "tuple"=none
 t_RECIPES_WITHIN:oZ K mg "RECIPES_WITHIN" [("say",0),("fail",0),("want",1),("peek",1),("when",2)]
 t_WITHIN:oZ K mg "WITHIN" [("many",1),("part",2),("sum",2),("join",2),("same",2),("less",2)]
 g_FILLED:sv K mg "FILLED" ["put","got","row"]
 g_GETTING:sv K mg "GETTING" ["want","peek"]
 c_FIGURES:∃t,mg "FIGURES"=some (.str "0123456789" t)
 c_LETTERS:∃t,mg "LETTERS"=some (.str "abcdefghijklmnopqrstuvwxyz" t)
 c_MOST_DEEP:∃t,mg "MOST_DEEP"=some (.int 20 t)
 c_MOST_FIGURES:∃t,mg "MOST_FIGURES"=some (.int 19 t)
 c_MOST_IN_ROW:∃t,mg "MOST_IN_ROW"=some (.int 8 t)
 c_MOST_LETTERS:∃t,mg "MOST_LETTERS"=some (.int 8 t)
 c_MOST_NAMES:∃t,mg "MOST_NAMES"=some (.int 40 t)
 c_MOST_PARTS:∃t,mg "MOST_PARTS"=some (.int 8 t)
 c_MOST_PARTS_IN_ALL:∃t,mg "MOST_PARTS_IN_ALL"=some (.int 60 t)
 c_MOST_ROWS:∃t,mg "MOST_ROWS"=some (.int 4 t)
 c_MOST_SIGNS:∃t,mg "MOST_SIGNS"=some (.int 20 t)
 c_MOST_VALUES:∃t,mg "MOST_VALUES"=some (.int 40 t)
 c_MOST_WANTS:∃t,mg "MOST_WANTS"=some (.int 12 t)
 c_TEXT_SIGNS:∃t,mg "TEXT_SIGNS"=some (.str "abcdefghijklmnopqrstuvwxyz0123456789-" t)
theorem zow:Xw ["self","text"] ["self","text"] (aI (bH 47 0)):=⟨rfl,rfl,rfl,by decide +kernel,rfl,by decide +kernel,by decide +kernel⟩
theorem zox{P:NU}{w:N8}{K:Frag}{mg:Str->Option NO}{base:Heap}{f:Addr}{fd:Oe}{C:Addr}(B:Bi K mg C)(F:Yd K "__init__" "Words.__init__" (bH 47 0) f fd)  : Xz P w K mg base Yi 1 f fd ["self","text"] (XA K 2 (cI C)):=YE F zow fun XF A outer s H E hr=>(ax (lu B.k_Words B.n_Words_parted (ae 0) (mF (ae 1) ar)) (ax (lu B.k_Words B.n_Words_place (ae 0) ao) (ay (lu B.k_Words B.n_Words_begun (ae 0) ao))))
theorem zoy:Xw ["self"] ["self"] (aI (bH 47 1)):=⟨rfl,rfl,rfl,by decide +kernel,rfl,by decide +kernel,by decide +kernel⟩
theorem zoz{P:NU}{w:N8}{K:Frag}{mg:Str->Option NO}{base:Heap}{f:Addr}{fd:Oe}{C:Addr}(B:Bi K mg C)(F:Yd K "ahead" "Words.ahead" (bH 47 1) f fd)  : Xz P w K mg base Yi 1 f fd ["self"] (XA K 1 (bL C)):=YE F zoy fun XF A outer s H E hr=>(ay (aE (j8 (aL dA (dZ B.k_Words B.n_Words_place (ae 0)) (bq bF rfl B.b_len O7 (ag (dZ B.k_Words B.n_Words_parted (ae 0)) ak))) (aK aM (dZ B.k_Words B.n_Words_parted (ae 0)) (dZ B.k_Words B.n_Words_place (ae 0))) ar)))
theorem sH:Xw ["self","fits"] ["self","fits"] (aI (bH 47 2)):=⟨rfl,rfl,rfl,by decide +kernel,rfl,by decide +kernel,by decide +kernel⟩
theorem zpa{P:NU}{w:N8}{K:Frag}{mg:Str->Option NO}{base:Heap}{f:Addr}{fd:Oe}{C:Addr}(B:Bi K mg C)(F:Yd K "take" "Words.take" (bH 47 2) f fd)  : Xz P w K mg base Yi 1 f fd ["self","fits"] (XA K 2 (eU C)):=YE F sH fun XF A outer s H E hr=>(ax (aU (gi (cE (ae 1))) (ay mZ) aV) (ay (lu B.k_Words B.n_Words_place (ae 0) (aw aD (dZ B.k_Words B.n_Words_place (ae 0)) ao))))
theorem sG:Xw ["self","fits","above"] ["self","fits","above"] (aI (bH 47 3)):=⟨rfl,rfl,rfl,by decide +kernel,rfl,by decide +kernel,by decide +kernel⟩
theorem zpb{P:NU}{w:N8}{K:Frag}{mg:Str->Option NO}{base:Heap}{f:Addr}{fd:Oe}{C:Addr}(B:Bi K mg C)(F:Yd K "begin" "Words.begin" (bH 47 3) f fd)(XN:Cj P w K mg base C "take" ["self","fits"] 1 (XA K 2 (eU C))):Xz P w K mg base Yi 2 f fd ["self","fits","above"] (XA K 3 (d8 C)):=YE F sG fun XF A outer s H E hr=>(ax (gO (il XN B.k_Words (hr.mono (by omega)) (ae 0) (ag (bZ (ae 1) (bZ (bD dA (ae 2) (cD rfl B.c_MOST_DEEP)) (cy (bD dA (dZ B.k_Words B.n_Words_begun (ae 0)) (cD rfl B.c_MOST_PARTS_IN_ALL))))) ak) (aj au))) (ay (lu B.k_Words B.n_Words_begun (ae 0) (aw aD (dZ B.k_Words B.n_Words_begun (ae 0)) ao))))
theorem sF:Xw ["self"] ["self"] (aI (bH 47 4)):=⟨rfl,rfl,rfl,by decide +kernel,rfl,by decide +kernel,by decide +kernel⟩
theorem zpc{P:NU}{w:N8}{K:Frag}{mg:Str->Option NO}{base:Heap}{f:Addr}{fd:Oe}{C:Addr}(B:Bi K mg C)(F:Yd K "finish" "Words.finish" (bH 47 4) f fd)  : Xz P w K mg base Yi 1 f fd ["self"] (XA K 1 (iH C)):=YE F sF fun XF A outer s H E hr=>(ay (aU (aL dA (dZ B.k_Words B.n_Words_place (ae 0)) (bq bF rfl B.b_len O7 (ag (dZ B.k_Words B.n_Words_parted (ae 0)) ak))) (ay mZ) aV))
theorem zpd:Xw ["thing"] ["thing"] (aI (top 8)):=⟨rfl,rfl,rfl,by decide +kernel,rfl,by decide +kernel,by decide +kernel⟩
theorem zpe{P:NU}{w:N8}{K:Frag}{mg:Str->Option NO}{base:Heap}{f:Addr}{fd:Oe}{C:Addr}(B:Bi K mg C)(F:Yd K "is_whole" "is_whole" (top 8) f fd)  : Xz P w K mg base Yi 1 f fd ["thing"] (XA K 1 (l6)):=YE F zpd fun XF A outer s H E hr=>(ay (aE (bZ (cG .int B.b_isinstance (ae 0) B.b_int Vl) (cy (jU (cG .bl B.b_isinstance (ae 0) B.b_bool Uv))))))
theorem zpf:Xw ["text","signs"] ["text","signs"] (aI (top 9)):=⟨rfl,rfl,rfl,by decide +kernel,rfl,by decide +kernel,by decide +kernel⟩
theorem zpg{P:NU}{w:N8}{K:Frag}{mg:Str->Option NO}{base:Heap}{f:Addr}{fd:Oe}{C:Addr}(B:Bi K mg C)(F:Yd K "has_only" "has_only" (top 9) f fd)  : Xz P w K mg base Yi 1 f fd ["text","signs"] (XA K 2 (eB)):=YE F zpf fun XF A outer s H E hr=>(ay (aE (bq oA rfl B.b_all Wm (ag (dW (osc:=aI (top 9)) (N:=["text","signs"]) (N':=["text","signs"]) (x:="sign") ⟨rfl,by decide +kernel,by decide +kernel,rfl,by decide +kernel,by decide +kernel,by decide +kernel,by decide +kernel,rfl,by decide +kernel⟩ (gh (ae 0)) (fun C s0 H0 ex=>(bD fW (ae 0) (ae 2))) (fun C s0 H0 ex=>cW)) ak))))
theorem zph:Xw ["thing"] ["thing"] (aI (top 10)):=⟨rfl,rfl,rfl,by decide +kernel,rfl,by decide +kernel,by decide +kernel⟩
theorem zpi{P:NU}{w:N8}{K:Frag}{mg:Str->Option NO}{base:Heap}{f:Addr}{fd:Oe}{C:Addr}(B:Bi K mg C)(F:Yd K "is_name" "is_name" (top 10) f fd)(G9:Fn P w K mg base "has_only" ["text","signs"] 1 (XA K 2 eB)):Xz P w K mg base Yi 2 f fd ["thing"] (XA K 1 (du)):=YE F zph fun XF A outer s H E hr=>(ay (aE (bZ (cG .str B.b_isinstance (ae 0) B.b_str R4) (bZ (zek lW lW ao (bq bF rfl B.b_len O7 (ag (ae 0) ak)) (cD rfl B.c_MOST_LETTERS)) (cy (aA G9 (hr.mono (by omega)) rfl (ag (ae 0) (ag (ql rfl B.c_LETTERS) ak)) (aj (aj au))))))))
theorem zpj:Xw ["thing"] ["thing"] (aI (top 11)):=⟨rfl,rfl,rfl,by decide +kernel,rfl,by decide +kernel,by decide +kernel⟩
theorem zpk{P:NU}{w:N8}{K:Frag}{mg:Str->Option NO}{base:Heap}{f:Addr}{fd:Oe}{C:Addr}(B:Bi K mg C)(F:Yd K "is_single" "is_single" (top 11) f fd)(ya:Fn P w K mg base "is_whole" ["thing"] 1 (XA K 1 l6))(G9:Fn P w K mg base "has_only" ["text","signs"] 1 (XA K 2 eB)):Xz P w K mg base Yi 2 f fd ["thing"] (XA K 1 (jz)):=YE F zpj fun XF A outer s H E hr=>(ax (aU (cE (aA ya (hr.mono (by omega)) rfl (ag (ae 0) ak) (aj au))) (ay (aE (bD lW (bq zfe rfl B.b_abs boot_abs (ag (ae 0) ak)) (aw ol ao ao)))) aV) (ay (aE (bZ (cG .str B.b_isinstance (ae 0) B.b_str R4) (bZ (bD lW (bq bF rfl B.b_len O7 (ag (ae 0) ak)) (cD rfl B.c_MOST_SIGNS)) (cy (aA G9 (hr.mono (by omega)) rfl (ag (ae 0) (ag (ql rfl B.c_TEXT_SIGNS) ak)) (aj (aj au)))))))))
theorem zpl:Xw ["thing","rows_left"] ["thing","rows_left"] (aI (top 12)):=⟨rfl,rfl,rfl,by decide +kernel,rfl,by decide +kernel,by decide +kernel⟩
theorem zpm{P:NU}{w:N8}{K:Frag}{mg:Str->Option NO}{base:Heap}{f:Addr}{fd:Oe}{C:Addr}(n:Nat)(B:Bi K mg C)(F:Yd K "is_built" "is_built" (top 12) f fd)(sN:Fn P w K mg base "is_single" ["thing"] 2 (XA K 1 jz))(Kh:Fn P w K mg base "is_built" ["thing","rows_left"] (2+n) (XA K 2 (eA n))):Xz P w K mg base Yi (2+n+1) f fd ["thing","rows_left"] (XA K 2 (eA (n+1))):=YE F zpl fun XF A outer s H E hr=>(ax (aU (gi (cE (cG .tup B.b_isinstance (ae 0) B.b_tuple Qr))) (ay (aE (aA sN (hr.mono (by omega)) rfl (ag (ae 0) ak) (aj au)))) aV) (ax (aU (cN (cH (aL aZ (ae 1) ao) (dY (aL hG (bq bF rfl B.b_len O7 (ag (ae 0) ak)) (cD rfl B.c_MOST_PARTS))))) (ay (aE iA)) aV) (ay (aE (bq oA rfl B.b_all Wm (ag (dW (osc:=aI (top 12)) (N:=["thing","rows_left"]) (N':=["thing","rows_left"]) (x:="part") ⟨rfl,by decide +kernel,by decide +kernel,rfl,by decide +kernel,by decide +kernel,by decide +kernel,by decide +kernel,rfl,by decide +kernel⟩ (gh (ae 0)) (fun C s0 H0 ex=>(aA Kh (hr.mono (by omega)) rfl (ag (ae 0) (ag (aw gk (ae 2) ao) ak)) (aj (aj au)))) (fun C s0 H0 ex=>cW)) ak))))))
theorem zpn:Xw ["value"] ["value"] (aI (top 14)):=⟨rfl,rfl,rfl,by decide +kernel,rfl,by decide +kernel,by decide +kernel⟩
theorem zpo{P:NU}{w:N8}{K:Frag}{mg:Str->Option NO}{base:Heap}{f:Addr}{fd:Oe}{C:Addr}(n:Nat)(B:Bi K mg C)(F:Yd K "many_of" "many_of" (top 14) f fd)(Kj:Fn P w K mg base "many_of" ["value"] (0+n) (XA K 1 (f9 n))):Xz P w K mg base Yi (0+n+1) f fd ["value"] (XA K 1 (f9 (n+1))):=YE F zpn fun XF A outer s H E hr=>(ax (aU (gi (cE (cG .tup B.b_isinstance (ae 0) B.b_tuple Qr))) (ay (aE ao)) aV) (ay (aE (aw aD ao (bq zff rfl B.b_sum boot_sum (ag (dW (osc:=aI (top 14)) (N:=["value"]) (N':=["value"]) (x:="part") ⟨rfl,by decide +kernel,by decide +kernel,rfl,by decide +kernel,by decide +kernel,by decide +kernel,by decide +kernel,rfl,by decide +kernel⟩ (gh (ae 0)) (fun C s0 H0 ex=>(aA Kj (hr.mono (by omega)) rfl (ag (ae 0) ak) (aj au))) (fun C s0 H0 ex=>cW)) ak))))))
theorem zpp:Xw ["thing"] ["thing"] (aI (top 13)):=⟨rfl,rfl,rfl,by decide +kernel,rfl,by decide +kernel,by decide +kernel⟩
theorem zpq{P:NU}{w:N8}{K:Frag}{mg:Str->Option NO}{base:Heap}{f:Addr}{fd:Oe}{C:Addr}(B:Bi K mg C)(F:Yd K "is_value" "is_value" (top 13) f fd)(Kh:Fn P w K mg base "is_built" ["thing","rows_left"] 27 (XA K 2 (eA 25)))(Kj:Fn P w K mg base "many_of" ["value"] 25 (XA K 1 (f9 25))):Xz P w K mg base Yi 28 f fd ["thing"] (XA K 1 (jD)):=YE F zpp fun XF A outer s H E hr=>(ay (aE (bZ (aA Kh (hr.mono (by omega)) rfl (ag (ae 0) (ag (cD rfl B.c_MOST_ROWS) ak)) (aj (aj au))) (cy (bD lW (aA Kj (hr.mono (by omega)) rfl (ag (ae 0) ak) (aj au)) (cD rfl B.c_MOST_VALUES))))))
theorem zpr:Xw ["word","got"] ["word","got"] (aI (top 23)):=⟨rfl,rfl,rfl,by decide +kernel,rfl,by decide +kernel,by decide +kernel⟩
theorem zps{P:NU}{w:N8}{K:Frag}{mg:Str->Option NO}{base:Heap}{f:Addr}{fd:Oe}{C:Addr}(B:Bi K mg C)(F:Yd K "got_behind" "got_behind" (top 23) f fd)  : Xz P w K mg base Yi 1 f fd ["word","got"] (XA K 2 (eV)):=YE F zpr fun XF A outer s H E hr=>(ay (aE (j8 (aL fW (ae 0) (iP (ss:=["want","peek"]) rfl B.g_GETTING)) (aw aD (ae 1) ao) (ae 1))))
theorem zpt:Xw ["text"] ["text"] (aI (top 44)):=⟨rfl,rfl,rfl,by decide +kernel,rfl,by decide +kernel,by decide +kernel⟩
theorem zpu{P:NU}{w:N8}{K:Frag}{mg:Str->Option NO}{base:Heap}{f:Addr}{fd:Oe}{C:Addr}(B:Bi K mg C)(F:Yd K "is_figures" "is_figures" (top 44) f fd)(G9:Fn P w K mg base "has_only" ["text","signs"] 1 (XA K 2 eB)):Xz P w K mg base Yi 2 f fd ["text"] (XA K 1 (gF)):=YE F zpt fun XF A outer s H E hr=>(ax (aU (cN (cH (aL aZ (ae 0) ar) (dY (gi (cE (aA G9 (hr.mono (by omega)) rfl (ag (ae 0) (ag (ql rfl B.c_FIGURES) ak)) (aj (aj au)))))))) (ay (aE iA)) aV) (ay (aE (ow (bD aZ (ae 0) ar) (cy (jU (pO (ae 0) ar)))))))
theorem ZD:Xw ["word","figures"] ["word"] (aI (top 43)):=⟨rfl,rfl,rfl,by decide +kernel,rfl,by decide +kernel,by decide +kernel⟩
theorem zpv{P:NU}{w:N8}{K:Frag}{mg:Str->Option NO}{base:Heap}{f:Addr}{fd:Oe}{C:Addr}(B:Bi K mg C)(F:Yd K "number_by" "number_by" (top 43) f fd)(vN:Fn P w K mg base "is_figures" ["text"] 2 (XA K 1 gF)):Xz P w K mg base Yi 3 f fd ["word"] (XA K 1 (jy)):=YE F ZD fun XF A outer s H E hr=>(ax (aO (i:=1) ZD.nd (j8 (cE (pO (ae 0) ar)) (bU (ae 0) (bG ao) cL) (ae 0))) (ax (aU (cN (cH (aL aZ (ae 0) ar) (cH (aL hG (bq bF rfl B.b_len O7 (ag (ae 1) ak)) (cD rfl B.c_MOST_FIGURES)) (dY (gi (cE (aA vN (hr.mono (by omega)) rfl (ag (ae 1) ak) (aj au)))))))) (ay (aE cF)) aV) (ay (aE (fE yW rfl B.b_int Vl (ag (ae 0) ak))))))
theorem zpw:Xw ["word"] ["word"] (aI (top 42)):=⟨rfl,rfl,rfl,by decide +kernel,rfl,by decide +kernel,by decide +kernel⟩
theorem zpx{P:NU}{w:N8}{K:Frag}{mg:Str->Option NO}{base:Heap}{f:Addr}{fd:Oe}{C:Addr}(B:Bi K mg C)(F:Yd K "single_by" "single_by" (top 42) f fd)(sL:Fn P w K mg base "number_by" ["word"] 3 (XA K 1 jy)):Xz P w K mg base Yi 4 f fd ["word"] (XA K 1 (jx)):=YE F zpw fun XF A outer s H E hr=>(ax (aU (cE (pO (ae 0) ar)) (ay (aE (bU (ae 0) (bG ao) cL))) aV) (ay (aE (aA sL (hr.mono (by omega)) rfl (ag (ae 0) ak) (aj au)))))
theorem YC:Xw ["text","at","behind","single"] ["text","at"] (aI (top 41)):=⟨rfl,rfl,rfl,by decide +kernel,rfl,by decide +kernel,by decide +kernel⟩
theorem zpy{P:NU}{w:N8}{K:Frag}{mg:Str->Option NO}{base:Heap}{f:Addr}{fd:Oe}{C:Addr}(B:Bi K mg C)(F:Yd K "single_at" "single_at" (top 41) f fd)(ua:Fn P w K mg base "single_by" ["word"] 4 (XA K 1 jx)):Xz P w K mg base Yi 5 f fd ["text","at"] (XA K 2 (iJ)):=YE F YC fun XF A outer s H E hr=>(ax (aO (i:=2) YC.nd (ae 1)) (ax (u4 100000 (cN (jT (aL dA (ae 2) (bq bF rfl B.b_len O7 (ag (ae 0) ak))) (jL (aL zez (aK aM (ae 0) (ae 2)) ar)))) (ay (aO (i:=2) YC.nd (aw aD (ae 2) ao)))) (ax (aO (i:=3) YC.nd (aA ua (hr.mono (by omega)) rfl (ag (bU (ae 0) (bG (ae 1)) (bG (ae 2))) ak) (aj au))) (ay (aE (j8 (aL iD (ae 3) cF) cF (bw (ag (ae 3) (ag (ae 2) ak)))))))))
theorem YT:Xw ["text","at","rows_left","parts","found","sign"] ["text","at","rows_left"] (aI (top 40)):=⟨rfl,rfl,rfl,by decide +kernel,rfl,by decide +kernel,by decide +kernel⟩
theorem zpz:Xw ["text","at","rows_left"] ["text","at","rows_left"] (aI (top 39)):=⟨rfl,rfl,rfl,by decide +kernel,rfl,by decide +kernel,by decide +kernel⟩
theorem zqa{P:NU}{w:N8}{K:Frag}{mg:Str->Option NO}{base:Heap}{f:Addr}{fd:Oe}{C:Addr}(n:Nat)(B:Bi K mg C)(F:Yd K "row_at" "row_at" (top 40) f fd)(Ki:Fn P w K mg base "value_at" ["text","at","rows_left"] (5+n) (XA K 3 (df n))):Xz P w K mg base Yi (5+n+1) f fd ["text","at","rows_left"] (XA K 3 (ic (n+1))):=YE F YT fun XF A outer s H E hr=>(ax (aU (aL aZ (bU (ae 0) (bG (ae 1)) (bG (aw aD (ae 1) ao))) ar) (ay (aE (bw (ag (bw ak) (ag (aw aD (ae 1) ao) ak))))) aV) (ax (qK (i:=3) YT.nd ak) (ay (u4 100000 (cE iA) (ax (aO (i:=4) YT.nd (aA Ki (hr.mono (by omega)) rfl (ag (ae 0) (ag (ae 1) (ag (ae 2) ak))) (aj (aj (aj au))))) (ax (aU (aL iD (ae 4) cF) (ay (aE cF)) aV) (ax (nU (i:=3) (by exact(aK aM (ae 4) ao))) (ax (aO (i:=1) YT.nd (aw aD (aK aM (ae 4) ao) ao)) (ax (aO (i:=5) YT.nd (bU (ae 0) (bG (aK aM (ae 4) ao)) (bG (ae 1)))) (ax (aU (aL aZ (ae 5) ar) (ay (aE (bw (ag (fE jO rfl B.b_tuple Qr (ag (ae 3) ak)) (ag (ae 1) ak))))) aV) (ay (aU (aL jk (ae 5) ar) (ay (aE cF)) aV))))))))))))
theorem zqb{P:NU}{w:N8}{K:Frag}{mg:Str->Option NO}{base:Heap}{f:Addr}{fd:Oe}{C:Addr}(n:Nat)(B:Bi K mg C)(F:Yd K "value_at" "value_at" (top 39) f fd)(tm:Fn P w K mg base "single_at" ["text","at"] 5 (XA K 2 iJ))(Qci:Fn P w K mg base "row_at" ["text","at","rows_left"] (5+n) (XA K 3 (ic n))):Xz P w K mg base Yi (5+n+1) f fd ["text","at","rows_left"] (XA K 3 (df (n+1))):=YE F zpz fun XF A outer s H E hr=>(ax (aU (aL jk (bU (ae 0) (bG (ae 1)) (bG (aw aD (ae 1) ao))) ar) (ay (aE (aA tm (hr.mono (by omega)) rfl (ag (ae 0) (ag (ae 1) ak)) (aj (aj au))))) aV) (ax (aU (aL aZ (ae 2) ao) (ay (aE cF)) aV) (ay (aE (aA Qci (hr.mono (by omega)) rfl (ag (ae 0) (ag (aw aD (ae 1) ao) (ag (aw gk (ae 2) ao) ak))) (aj (aj (aj au))))))))
theorem ZW:Xw ["text","found"] ["text"] (aI (top 38)):=⟨rfl,rfl,rfl,by decide +kernel,rfl,by decide +kernel,by decide +kernel⟩
theorem zqc{P:NU}{w:N8}{K:Frag}{mg:Str->Option NO}{base:Heap}{f:Addr}{fd:Oe}{C:Addr}(B:Bi K mg C)(F:Yd K "value_by" "value_by" (top 38) f fd)(Ki:Fn P w K mg base "value_at" ["text","at","rows_left"] 30 (XA K 3 (df 25)))(wx:Fn P w K mg base "is_value" ["thing"] 28 (XA K 1 jD)):Xz P w K mg base Yi 31 f fd ["text"] (XA K 1 (de)):=YE F ZW fun XF A outer s H E hr=>(ax (aO (i:=1) ZW.nd (aA Ki (hr.mono (by omega)) rfl (ag (ae 0) (ag ao (ag (cD rfl B.c_MOST_ROWS) ak))) (aj (aj (aj au))))) (ax (aU (cN (cH (aL iD (ae 1) cF) (dY (aL dA (aK aM (ae 1) ao) (bq bF rfl B.b_len O7 (ag (ae 0) ak)))))) (ay (aE cF)) aV) (ay (aE (j8 (cE (aA wx (hr.mono (by omega)) rfl (ag (aK aM (ae 1) ao) ak) (aj au))) (aK aM (ae 1) ao) cF)))))
theorem Zj:Xw ["words","value"] ["words"] (aI (top 53)):=⟨rfl,rfl,rfl,by decide +kernel,rfl,by decide +kernel,by decide +kernel⟩
theorem zqd{P:NU}{w:N8}{K:Frag}{mg:Str->Option NO}{base:Heap}{f:Addr}{fd:Oe}{C:Addr}(B:Bi K mg C)(F:Yd K "put_by" "put_by" (top 53) f fd)(Xv:Cj P w K mg base C "ahead" ["self"] 1 (XA K 1 (bL C)))(Dd:Fn P w K mg base "value_by" ["text"] 31 (XA K 1 de))(XN:Cj P w K mg base C "take" ["self","fits"] 1 (XA K 2 (eU C))):Xz P w K mg base Yi 32 f fd ["words"] (XA K 1 (gJ C)):=YE F Zj fun XF A outer s H E hr=>(ax (aO (i:=1) Zj.nd (aA Dd (hr.mono (by omega)) rfl (ag (fF Xv B.k_Words (hr.mono (by omega)) (ae 0)) ak) (aj au))) (ax (gO (il XN B.k_Words (hr.mono (by omega)) (ae 0) (ag (bD vU (ae 1) cF) ak) (aj au))) (ay (aE (ae 1)))))
theorem X5:Xw ["words","bound","figures","word"] ["words","bound"] (aI (top 54)):=⟨rfl,rfl,rfl,by decide +kernel,rfl,by decide +kernel,by decide +kernel⟩
theorem zqe{P:NU}{w:N8}{K:Frag}{mg:Str->Option NO}{base:Heap}{f:Addr}{fd:Oe}{C:Addr}(B:Bi K mg C)(F:Yd K "number_below" "number_below" (top 54) f fd)(Xv:Cj P w K mg base C "ahead" ["self"] 1 (XA K 1 (bL C)))(XN:Cj P w K mg base C "take" ["self","fits"] 1 (XA K 2 (eU C))):Xz P w K mg base Yi 2 f fd ["words","bound"] (XA K 2 (eR C)):=YE F X5 fun XF A outer s H E hr=>(ax (mY (i:=2) (osc:=aI (top 54)) (N:=["words","bound","figures","word"]) (N':=["words","bound","figures","word"]) (x:="k") ⟨rfl,by decide +kernel,by decide +kernel,rfl,by decide +kernel,by decide +kernel,by decide +kernel,by decide +kernel,rfl,by decide +kernel⟩ X5.nd (dU rfl B.b_range (ae 1)) (fun C s0 H0 ex=>(fE rV rfl B.b_str R4 (ag (ae 0) ak))) (fun C s0 H0 ex=>cW)) (ax (aO (i:=3) X5.nd (fF Xv B.k_Words (hr.mono (by omega)) (ae 0))) (ax (gO (il XN B.k_Words (hr.mono (by omega)) (ae 0) (ag (bD fW (ae 3) (ae 2)) ak) (aj au))) (ay (aE (va (ae 2) (ae 3)))))))
theorem sI:Xw ["words","many","above","got"] ["words","many","above","got"] (aI (top 51)):=⟨rfl,rfl,rfl,by decide +kernel,rfl,by decide +kernel,by decide +kernel⟩
theorem Y4:Xw ["words","above","got","word"] ["words","above","got"] (aI (top 50)):=⟨rfl,rfl,rfl,by decide +kernel,rfl,by decide +kernel,by decide +kernel⟩
theorem zqf{P:NU}{w:N8}{K:Frag}{mg:Str->Option NO}{base:Heap}{f:Addr}{fd:Oe}{C:Addr}(n:Nat)(B:Bi K mg C)(F:Yd K "exprs_by" "exprs_by" (top 51) f fd)(Iq:Fn P w K mg base "expr_by" ["words","above","got"] (32+n) (XA K 3 (bQ C n))):Xz P w K mg base Yi (32+n+1) f fd ["words","many","above","got"] (XA K 4 (gG C (n+1))):=YE F sI fun XF A outer s H E hr=>(ay (aE (fE jO rfl B.b_tuple Qr (ag (dW (osc:=aI (top 51)) (N:=["words","many","above","got"]) (N':=["words","many","above","got"]) (x:="k") ⟨rfl,by decide +kernel,by decide +kernel,rfl,by decide +kernel,by decide +kernel,by decide +kernel,by decide +kernel,rfl,by decide +kernel⟩ (dU rfl B.b_range (ae 1)) (fun C s0 H0 ex=>(aA Iq (hr.mono (by omega)) rfl (ag (ae 1) (ag (ae 3) (ag (ae 4) ak))) (aj (aj (aj au))))) (fun C s0 H0 ex=>cW)) ak))))
theorem zqg{P:NU}{w:N8}{K:Frag}{mg:Str->Option NO}{base:Heap}{f:Addr}{fd:Oe}{C:Addr}(n:Nat)(B:Bi K mg C)(F:Yd K "expr_by" "expr_by" (top 50) f fd)(Xv:Cj P w K mg base C "ahead" ["self"] 1 (XA K 1 (bL C)))(XJ:Cj P w K mg base C "begin" ["self","fits","above"] 2 (XA K 3 (d8 C)))(Fk:Fn P w K mg base "put_by" ["words"] 32 (XA K 1 (gJ C)))(Cd:Fn P w K mg base "number_below" ["words","bound"] 2 (XA K 2 (eR C)))(BY:Fn P w K mg base "exprs_by" ["words","many","above","got"] (32+n) (XA K 4 (gG C n))):Xz P w K mg base Yi (32+n+1) f fd ["words","above","got"] (XA K 3 (bQ C (n+1))):=YE F Y4 fun XF A outer s H E hr=>(ax (aO (i:=3) Y4.nd (fF Xv B.k_Words (hr.mono (by omega)) (ae 0))) (ax (gO (il XJ B.k_Words (hr.mono (by omega)) (ae 0) (ag (ow (bD fW (ae 3) (iP (ss:=["put","got","row"]) rfl B.g_FILLED)) (cy (jV B.t_WITHIN rfl (ae 3)))) (ag (ae 1) ak)) (aj (aj au)))) (ax (aU (aL aZ (ae 3) ar) (ay (aE (bw (ag (ae 3) (ag (aA Fk (hr.mono (by omega)) rfl (ag (ae 0) ak) (aj au)) ak))))) aV) (ax (aU (aL aZ (ae 3) ar) (ay (aE (bw (ag (ae 3) (ag (aA Cd (hr.mono (by omega)) rfl (ag (ae 0) (ag (ae 2) ak)) (aj (aj au))) ak))))) aV) (ax (aU (aL aZ (ae 3) ar) (ay (aE (bw (ag (ae 3) (ag (aA BY (hr.mono (by omega)) rfl (ag (ae 0) (ag (aA Cd (hr.mono (by omega)) rfl (ag (ae 0) (ag (aw aD (cD rfl B.c_MOST_IN_ROW) ao) ak)) (aj (aj au))) (ag (aw aD (ae 1) ao) (ag (ae 2) ak)))) (aj (aj (aj (aj au))))) ak))))) aV) (ay (aE (aw aD (bw (ag (ae 3) ak)) (aA BY (hr.mono (by omega)) rfl (ag (ae 0) (ag (nW B.t_WITHIN rfl (ae 3)) (ag (aw aD (ae 1) ao) (ag (ae 2) ak)))) (aj (aj (aj (aj au)))))))))))))
theorem Y3:Xw ["words","word"] ["words"] (aI (top 52)):=⟨rfl,rfl,rfl,by decide +kernel,rfl,by decide +kernel,by decide +kernel⟩
theorem zqh{P:NU}{w:N8}{K:Frag}{mg:Str->Option NO}{base:Heap}{f:Addr}{fd:Oe}{C:Addr}(B:Bi K mg C)(F:Yd K "name_by" "name_by" (top 52) f fd)(Xv:Cj P w K mg base C "ahead" ["self"] 1 (XA K 1 (bL C)))(BJ:Fn P w K mg base "is_name" ["thing"] 2 (XA K 1 du))(XN:Cj P w K mg base C "take" ["self","fits"] 1 (XA K 2 (eU C))):Xz P w K mg base Yi 3 f fd ["words"] (XA K 1 (gI C)):=YE F Y3 fun XF A outer s H E hr=>(ax (aO (i:=1) Y3.nd (fF Xv B.k_Words (hr.mono (by omega)) (ae 0))) (ax (gO (il XN B.k_Words (hr.mono (by omega)) (ae 0) (ag (aA BJ (hr.mono (by omega)) rfl (ag (ae 1) ak) (aj au)) ak) (aj au))) (ay (aE (ae 1)))))
theorem XX:Xw ["words","above","got","word","expr","behind"] ["words","above","got"] (aI (top 49)):=⟨rfl,rfl,rfl,by decide +kernel,rfl,by decide +kernel,by decide +kernel⟩
theorem zqi{P:NU}{w:N8}{K:Frag}{mg:Str->Option NO}{base:Heap}{f:Addr}{fd:Oe}{C:Addr}(n:Nat)(B:Bi K mg C)(F:Yd K "recipe_by" "recipe_by" (top 49) f fd)(Xv:Cj P w K mg base C "ahead" ["self"] 1 (XA K 1 (bL C)))(XJ:Cj P w K mg base C "begin" ["self","fits","above"] 2 (XA K 3 (d8 C)))(Gd:Fn P w K mg base "name_by" ["words"] 3 (XA K 1 (gI C)))(Iq:Fn P w K mg base "expr_by" ["words","above","got"] 57 (XA K 3 (bQ C 25)))(Jl:Fn P w K mg base "got_behind" ["word","got"] 1 (XA K 2 eV))(CZ:Fn P w K mg base "recipe_by" ["words","above","got"] (57+n) (XA K 3 (bB C n))):Xz P w K mg base Yi (57+n+1) f fd ["words","above","got"] (XA K 3 (bB C (n+1))):=YE F XX fun XF A outer s H E hr=>(ax (aO (i:=3) XX.nd (fF Xv B.k_Words (hr.mono (by omega)) (ae 0))) (ax (gO (il XJ B.k_Words (hr.mono (by omega)) (ae 0) (ag (bZ (jV B.t_RECIPES_WITHIN rfl (ae 3)) (cy (jU (bZ (bD fW (ae 3) (iP (ss:=["want","peek"]) rfl B.g_GETTING)) (cy (bD aZ (ae 2) (cD rfl B.c_MOST_WANTS))))))) (ag (ae 1) ak)) (aj (aj au)))) (ax (aU (aL aZ (ae 3) ar) (ay (aE (bw (ag (ae 3) (ag (aA Gd (hr.mono (by omega)) rfl (ag (ae 0) ak) (aj au)) ak))))) aV) (ax (aO (i:=4) XX.nd (aA Iq (hr.mono (by omega)) rfl (ag (ae 0) (ag (aw aD (ae 1) ao) (ag (ae 2) ak))) (aj (aj (aj au))))) (ax (aO (i:=5) XX.nd (aA Jl (hr.mono (by omega)) rfl (ag (ae 3) (ag (ae 2) ak)) (aj (aj au)))) (ay (aE (aw aD (bw (ag (ae 3) (ag (ae 4) ak))) (fE jO rfl B.b_tuple Qr (ag (dW (osc:=aI (top 49)) (N:=["words","above","got","word","expr","behind"]) (N':=["words","above","got","word","expr","behind"]) (x:="k") ⟨rfl,by decide +kernel,by decide +kernel,rfl,by decide +kernel,by decide +kernel,by decide +kernel,by decide +kernel,rfl,by decide +kernel⟩ (dU rfl B.b_range (nW B.t_RECIPES_WITHIN rfl (ae 3))) (fun C s0 H0 ex=>(aA CZ (hr.mono (by omega)) rfl (ag (ae 1) (ag (aw aD (ae 2) ao) (ag (ae 6) ak))) (aj (aj (aj au))))) (fun C s0 H0 ex=>cW)) ak))))))))))
theorem X3:Xw ["text","words","recipe"] ["text"] (aI (top 48)):=⟨rfl,rfl,rfl,by decide +kernel,rfl,by decide +kernel,by decide +kernel⟩
theorem zqj{P:NU}{w:N8}{K:Frag}{mg:Str->Option NO}{base:Heap}{f:Addr}{fd:Oe}{C:Addr}(B:Bi K mg C)(F:Yd K "read_recipe" "read_recipe" (top 48) f fd)(CZ:Fn P w K mg base "recipe_by" ["words","above","got"] 82 (XA K 3 (bB C 25)))(YB:Cj P w K mg base C "finish" ["self"] 1 (XA K 1 (iH C)))(XU:Hu P w K mg base C ["self","text"] 1 (XA K 2 (cI C))):Xz P w K mg base Yi 83 f fd ["text"] (XA K 1 (hW C)):=YE F X3 fun XF A outer s H E hr=>(zfv (i:=1) XU (hr.mono (by omega)) rfl B.m_Words X3.nd (ae 0) (ax (aO (i:=2) X3.nd (aA CZ (hr.mono (by omega)) rfl (ag (ae 1) (ag ao (ag ao ak))) (aj (aj (aj au))))) (ax (gO (fF YB B.k_Words (hr.mono (by omega)) (ae 1))) (ay (aE (ae 2))))))
theorem zqk:Xw ["text"] ["text"] (aI (top 59)):=⟨rfl,rfl,rfl,by decide +kernel,rfl,by decide +kernel,by decide +kernel⟩
theorem zql:Xw ["word","text"] ["word","text"] (aI (top 58)):=⟨rfl,rfl,rfl,by decide +kernel,rfl,by decide +kernel,by decide +kernel⟩
theorem zqm{P:NU}{w:N8}{K:Frag}{mg:Str->Option NO}{base:Heap}{f:Addr}{fd:Oe}{C:Addr}(B:Bi K mg C)(F:Yd K "content_by" "content_by" (top 58) f fd)(Dd:Fn P w K mg base "value_by" ["text"] 31 (XA K 1 de))(uu:Fn P w K mg base "recipe_or_none" ["text"] 87 (XA K 1 (dR C))):Xz P w K mg base Yi 88 f fd ["word","text"] (XA K 2 (d9 C)):=YE F zql fun XF A outer s H E hr=>(ax (aU (aL aZ (ae 0) ar) (ay (aE (aA Dd (hr.mono (by omega)) rfl (ag (ae 1) ak) (aj au)))) aV) (ax (aU (aL aZ (ae 0) ar) (ay (aE (aA uu (hr.mono (by omega)) rfl (ag (ae 1) ak) (aj au)))) aV) (ay (aE cF))))
theorem Zg:Xw ["line","words","content"] ["line"] (aI (top 57)):=⟨rfl,rfl,rfl,by decide +kernel,rfl,by decide +kernel,by decide +kernel⟩
theorem zqn{P:NU}{w:N8}{K:Frag}{mg:Str->Option NO}{base:Heap}{f:Addr}{fd:Oe}{C:Addr}(B:Bi K mg C)(F:Yd K "thing_by" "thing_by" (top 57) f fd)(BJ:Fn P w K mg base "is_name" ["thing"] 2 (XA K 1 du))(vQ:Fn P w K mg base "content_by" ["word","text"] 88 (XA K 2 (d9 C))):Xz P w K mg base Yi 89 f fd ["line"] (XA K 1 (bT C)):=YE F Zg fun XF A outer s H E hr=>(ax (aO (i:=1) Zg.nd (ziq (ae 0) ar)) (ax (aU (cN (cH (aL dA (bq bF rfl B.b_len O7 (ag (ae 1) ak)) ao) (dY (gi (cE (aA BJ (hr.mono (by omega)) rfl (ag (aK aM (ae 1) ao) ak) (aj au))))))) (ay (aE cF)) aV) (ax (aO (i:=2) Zg.nd (aA vQ (hr.mono (by omega)) rfl (ag (aK aM (ae 1) ao) (ag (aK aM (ae 1) ao) ak)) (aj (aj au)))) (ay (aE (j8 (aL iD (ae 2) cF) cF (bw (ag (aK aM (ae 1) ao) (ag (aK aM (ae 1) ao) (ag (ae 2) ak))))))))))
theorem XT:Xw ["lines","told","recipes","at","line","found"] ["lines"] (aI (top 56)):=⟨rfl,rfl,rfl,by decide +kernel,rfl,by decide +kernel,by decide +kernel⟩
theorem zqo{P:NU}{w:N8}{K:Frag}{mg:Str->Option NO}{base:Heap}{f:Addr}{fd:Oe}{C:Addr}(B:Bi K mg C)(F:Yd K "read_book" "read_book" (top 56) f fd)(Ek:Fn P w K mg base "thing_by" ["line"] 89 (XA K 1 (bT C))):Xz P w K mg base Yi 90 f fd ["lines"] (XA K 1 (iK C)):=YE F XT fun XF A outer s H E hr=>(ax (jM (i:=1) XT.nd) (ax (jM (i:=2) XT.nd) (ax (zhh (i:=3) (j:=4) B.b_enumerate XT.nd (ae 0) (ax (aO (i:=5) XT.nd (aA Ek (hr.mono (by omega)) rfl (ag (ae 4) ak) (aj au))) (ax (aU (cN (cH (aL iD (ae 5) cF) (cH (aL oS (ae 3) (cD rfl B.c_MOST_NAMES)) (cH (aL (i7 hr) (aK aM (ae 5) ao) (ae 1)) (dY (aL (i7 hr) (aK aM (ae 5) ao) (ae 2))))))) (ay mZ) aV) (ay (aU (aL aZ (aK aM (ae 5) ao) ar) (ay (jN (i:=1) hr (aK aM (ae 5) ao) (aK aM (ae 5) ao))) (ay (jN (i:=2) hr (aK aM (ae 5) ao) (aK aM (ae 5) ao)))))))) (ay (aE (bw (ag (ae 1) (ag (ae 2) ak))))))))
theorem zqp:Xw ["_law_script","_law_k"] ["_law_script","_law_k"] (aI (top 61)):=⟨rfl,rfl,rfl,by decide +kernel,rfl,by decide +kernel,by decide +kernel⟩
theorem zqq{P:NU}{w:N8}{K:Frag}{mg:Str->Option NO}{base:Heap}{f:Addr}{fd:Oe}{C:Addr}(B:Bi K mg C)(F:Yd K "_law_cell_at" "_law_cell_at" (top 61) f fd)  : Xz P w K mg base Yi 1 f fd ["_law_script","_law_k"] (XA K 2 (eS)):=YE F zqp fun XF A outer s H E hr=>(ax (aU (aL dA (ae 1) (bq bF rfl B.b_len O7 (ag (ae 0) ak))) (ay (aE (aK aM (ae 0) (ae 1)))) aV) (ay (aE ao)))
theorem XZ:Xw ["_law_cell","_law_many","_law_found","_law_number","_law_mixed","_law_k"] ["_law_cell","_law_many"] (aI (top 62)):=⟨rfl,rfl,rfl,by decide +kernel,rfl,by decide +kernel,by decide +kernel⟩
theorem zqr{P:NU}{w:N8}{K:Frag}{mg:Str->Option NO}{base:Heap}{f:Addr}{fd:Oe}{C:Addr}(B:Bi K mg C)(F:Yd K "_law_draws" "_law_draws" (top 62) f fd)  : Xz P w K mg base Yi 1 f fd ["_law_cell","_law_many"] (XA K 2 (fA)):=YE F XZ fun XF A outer s H E hr=>(ax (qK (i:=2) XZ.nd ak) (ax (aO (i:=3) XZ.nd ao) (ax (aU (aL oS (ae 0) (aw ol ao ao)) (ay (aO (i:=3) XZ.nd (ae 0))) aV) (ax (aO (i:=4) XZ.nd (aw aD (aw fQ (ae 0) ao) ao)) (ax (nT (i:=5) XZ.nd (dU rfl B.b_range (ae 1)) (ax (aO (i:=4) XZ.nd (aw fQ (aw aD (aw aD (aw d3 (ae 4) (ae 4)) (aw d3 ao (ae 4))) (aw d3 ao (ae 5))) ao)) (ay (aU (aL hG (ae 3) ao) (ax (nU (i:=2) (by exact(aw fQ (ae 3) ao))) (ay (aO (i:=3) XZ.nd (aw kS (ae 3) ao)))) (ay (nU (i:=2) (by exact(aw kS (aw fQ (aw aD (aw d3 (ae 4) ao) (aw d3 ao (ae 5))) ao) ao)))))))) (ay (aE (ae 2))))))))
theorem zqs:Xw ["_law_tape","_law_many"] ["_law_tape","_law_many"] (aI (top 63)):=⟨rfl,rfl,rfl,by decide +kernel,rfl,by decide +kernel,by decide +kernel⟩
theorem zqt{P:NU}{w:N8}{K:Frag}{mg:Str->Option NO}{base:Heap}{f:Addr}{fd:Oe}{C:Addr}(B:Bi K mg C)(F:Yd K "_law_take" "_law_take" (top 63) f fd)  : Xz P w K mg base Yi 1 f fd ["_law_tape","_law_many"] (XA K 2 (aQ)):=YE F zqs fun XF A outer s H E hr=>(ax (zer (ae 0) ao (aw aD (aK aM (ae 0) ao) ao)) (ay (aE (aw fQ (aK aM (aK aM (ae 0) ao) (aw fQ (aw gk (aK aM (ae 0) ao) ao) (bq bF rfl B.b_len O7 (ag (aK aM (ae 0) ao) ak)))) (ae 1)))))
theorem zqu:Xw ["_law_value_here"] ["_law_value_here"] (aI (top 64)):=⟨rfl,rfl,rfl,by decide +kernel,rfl,by decide +kernel,by decide +kernel⟩
theorem zqv{P:NU}{w:N8}{K:Frag}{mg:Str->Option NO}{base:Heap}{f:Addr}{fd:Oe}{C:Addr}(n:Nat)(B:Bi K mg C)(F:Yd K "_law_stamp" "_law_stamp" (top 64) f fd)(Eg:Fn P w K mg base "_law_stamp" ["_law_value_here"] (0+n) (XA K 1 (dq n))):Xz P w K mg base Yi (0+n+1) f fd ["_law_value_here"] (XA K 1 (dq (n+1))):=YE F zqu fun XF A outer s H E hr=>(ax (aU (cE (cG .tup B.b_isinstance (ae 0) B.b_tuple Qr)) (ay (aE (aw aD (aw aD ar (zfg ar (dW (osc:=aI (top 64)) (N:=["_law_value_here"]) (N':=["_law_value_here"]) (x:="_law_part") ⟨rfl,by decide +kernel,by decide +kernel,rfl,by decide +kernel,by decide +kernel,by decide +kernel,by decide +kernel,rfl,by decide +kernel⟩ (gh (ae 0)) (fun C s0 H0 ex=>(aA Eg (hr.mono (by omega)) rfl (ag (ae 0) ak) (aj au))) (fun C s0 H0 ex=>cW)))) ar))) aV) (ax (aU (cE (cG .str B.b_isinstance (ae 0) B.b_str R4)) (ay (aE (aw aD ar (ae 0)))) aV) (ay (aE (fE rV rfl B.b_str R4 (ag (ae 0) ak))))))
theorem zqw:Xw ["_law_found","_law_due"] ["_law_found","_law_due"] (aI (top 65)):=⟨rfl,rfl,rfl,by decide +kernel,rfl,by decide +kernel,by decide +kernel⟩
theorem zqx{P:NU}{w:N8}{K:Frag}{mg:Str->Option NO}{base:Heap}{f:Addr}{fd:Oe}{C:Addr}(n:Nat)(B:Bi K mg C)(F:Yd K "_law_same" "_law_same" (top 65) f fd)(Hl:Fn P w K mg base "_law_same" ["_law_found","_law_due"] (0+n) (XA K 2 (br n))):Xz P w K mg base Yi (0+n+1) f fd ["_law_found","_law_due"] (XA K 2 (br (n+1))):=YE F zqw fun XF A outer s H E hr=>(ax (aU (cE (zgg B.b_isinstance (ae 1) B.b_tuple B.b_list)) (ax (aU (cN (cH (aL jk (cG .tup B.b_isinstance (ae 0) B.b_tuple Qr) (cG .tup B.b_isinstance (ae 1) B.b_tuple Qr)) (dY (aL jk (cG .lst B.b_isinstance (ae 0) B.b_list WX) (cG .lst B.b_isinstance (ae 1) B.b_list WX))))) (ay (aE iA)) aV) (ay (aE (bZ (bD aZ (bq bF rfl B.b_len O7 (ag (ae 0) ak)) (bq bF rfl B.b_len O7 (ag (ae 1) ak))) (cy (bq oA rfl B.b_all Wm (ag (dW (osc:=aI (top 65)) (N:=["_law_found","_law_due"]) (N':=["_law_found","_law_due"]) (x:="_law_k") ⟨rfl,by decide +kernel,by decide +kernel,rfl,by decide +kernel,by decide +kernel,by decide +kernel,by decide +kernel,rfl,by decide +kernel⟩ (dU rfl B.b_range (bq bF rfl B.b_len O7 (ag (ae 1) ak))) (fun C s0 H0 ex=>(aA Hl (hr.mono (by omega)) rfl (ag (aK (jX hr) (ae 1) (ae 0)) (ag (aK (jX hr) (ae 2) (ae 0)) ak)) (aj (aj au)))) (fun C s0 H0 ex=>cW)) ak))))))) aV) (ax (aU (cE (cG .dct B.b_isinstance (ae 1) B.b_dict WW)) (ax (aU (cN (cH (gi (cE (cG .dct B.b_isinstance (ae 0) B.b_dict WW))) (dY (aL jk (bq bF rfl B.b_len O7 (ag (ae 0) ak)) (bq bF rfl B.b_len O7 (ag (ae 1) ak)))))) (ay (aE iA)) aV) (ay (aE (bq oA rfl B.b_all Wm (ag (dW (osc:=aI (top 65)) (N:=["_law_found","_law_due"]) (N':=["_law_found","_law_due"]) (x:="_law_key") ⟨rfl,by decide +kernel,by decide +kernel,rfl,by decide +kernel,by decide +kernel,by decide +kernel,by decide +kernel,rfl,by decide +kernel⟩ (gh (ae 1)) (fun C s0 H0 ex=>(bZ (bD (i7 hr) (ae 0) (ae 1)) (cy (aA Hl (hr.mono (by omega)) rfl (ag (aK (jX hr) (ae 1) (ae 0)) (ag (aK (jX hr) (ae 2) (ae 0)) ak)) (aj (aj au)))))) (fun C s0 H0 ex=>cW)) ak))))) aV) (ax (aU (cN (cH (cE (cG .bl B.b_isinstance (ae 1) B.b_bool Uv)) (dY (aL iD (ae 1) cF)))) (ay (aE (bZ (bD aZ (cG .bl B.b_isinstance (ae 0) B.b_bool Uv) (cG .bl B.b_isinstance (ae 1) B.b_bool Uv)) (cy (bD aZ (ae 0) (ae 1)))))) aV) (ax (aU (cE (cG .int B.b_isinstance (ae 1) B.b_int Vl)) (ay (aE (bZ (cG .int B.b_isinstance (ae 0) B.b_int Vl) (bZ (jU (cG .bl B.b_isinstance (ae 0) B.b_bool Uv)) (cy (bD aZ (ae 0) (ae 1))))))) aV) (ay (aE (bZ (cG .str B.b_isinstance (ae 0) B.b_str R4) (cy (bD aZ (ae 0) (ae 1))))))))))
theorem Yg:Xw ["_law_tape","_law_many","_law_letters","_law_way","_law_at","_law_words_here","_law_tail"] ["_law_tape","_law_many"] (aI (top 66)):=⟨rfl,rfl,rfl,by decide +kernel,rfl,by decide +kernel,by decide +kernel⟩
theorem zqy{P:NU}{w:N8}{K:Frag}{mg:Str->Option NO}{base:Heap}{f:Addr}{fd:Oe}{C:Addr}(B:Bi K mg C)(F:Yd K "_law_names" "_law_names" (top 66) f fd)(Yv:Fn P w K mg base "_law_take" ["_law_tape","_law_many"] 1 (XA K 2 aQ)):Xz P w K mg base Yi 2 f fd ["_law_tape","_law_many"] (XA K 2 (h9)):=YE F Yg fun XF A outer s H E hr=>(ax (aO (i:=2) Yg.nd ar) (ax (aO (i:=3) Yg.nd (aA Yv (hr.mono (by omega)) rfl (ag (ae 0) (ag ao ak)) (aj (aj au)))) (ax (aO (i:=4) Yg.nd (aA Yv (hr.mono (by omega)) rfl (ag (ae 0) (ag ao ak)) (aj (aj au)))) (ax (aU (aL aZ (ae 3) ao) (ax (aO (i:=5) Yg.nd (bC (ag ar (ag ar (ag ar (ag ar (ag ar (ag ar (ag ar (ag ar (ag ar (ag ar (ag ar (ag ar ak)))))))))))))) (ay (aE (bU (aw aD (bU (ae 5) (bG (ae 4)) cL) (bU (ae 5) cL (bG (ae 4)))) cL (bG (ae 1)))))) aV) (ax (aU (aL aZ (ae 3) ao) (ay (aE (dW (osc:=aI (top 66)) (N:=["_law_tape","_law_many","_law_letters","_law_way","_law_at","_law_words_here","_law_tail"]) (N':=["_law_tape","_law_many","_law_letters","_law_way","_law_at","_law_words_here","_law_tail"]) (x:="_law_k") ⟨rfl,by decide +kernel,by decide +kernel,rfl,by decide +kernel,by decide +kernel,by decide +kernel,by decide +kernel,rfl,by decide +kernel⟩ (dU rfl B.b_range (ae 1)) (fun C s0 H0 ex=>(aw d3 (aK aM (ae 3) (aw aD (ae 5) (aw kS (ae 0) ao))) (aw aD ao (aw fQ (ae 0) ao)))) (fun C s0 H0 ex=>cW)))) aV) (ax (aO (i:=6) Yg.nd (aw d3 (aK aM (ae 2) (ae 4)) (aA Yv (hr.mono (by omega)) rfl (ag (ae 0) (ag (aw gk ao (aw fQ (ae 4) ao)) ak)) (aj (aj au))))) (ay (aE (dW (osc:=aI (top 66)) (N:=["_law_tape","_law_many","_law_letters","_law_way","_law_at","_law_words_here","_law_tail"]) (N':=["_law_tape","_law_many","_law_letters","_law_way","_law_at","_law_words_here","_law_tail"]) (x:="_law_k") ⟨rfl,by decide +kernel,by decide +kernel,rfl,by decide +kernel,by decide +kernel,by decide +kernel,by decide +kernel,rfl,by decide +kernel⟩ (dU rfl B.b_range (ae 1)) (fun C s0 H0 ex=>(aw aD (aw aD (aw d3 (aK aM (ae 3) (ae 5)) (aw fQ (ae 5) ao)) (aK aM (ae 3) (aw fQ (aw aD (ae 5) (ae 0)) ao))) (ae 7))) (fun C s0 H0 ex=>cW))))))))))
theorem YL:Xw ["_law_tape","_law_names_here","_law_deep","_law_way","_law_some"] ["_law_tape","_law_names_here","_law_deep"] (aI (top 67)):=⟨rfl,rfl,rfl,by decide +kernel,rfl,by decide +kernel,by decide +kernel⟩
theorem zqz{P:NU}{w:N8}{K:Frag}{mg:Str->Option NO}{base:Heap}{f:Addr}{fd:Oe}{C:Addr}(n:Nat)(B:Bi K mg C)(F:Yd K "_law_value" "_law_value" (top 67) f fd)(Yv:Fn P w K mg base "_law_take" ["_law_tape","_law_many"] 1 (XA K 2 aQ))(Dh:Fn P w K mg base "_law_value" ["_law_tape","_law_names_here","_law_deep"] (1+n) (XA K 3 (cQ n))):Xz P w K mg base Yi (1+n+1) f fd ["_law_tape","_law_names_here","_law_deep"] (XA K 3 (cQ (n+1))):=YE F YL fun XF A outer s H E hr=>(ax (aO (i:=3) YL.nd (aA Yv (hr.mono (by omega)) rfl (ag (ae 0) (ag ao ak)) (aj (aj au)))) (ax (aO (i:=4) YL.nd (bC (ag ao (ag ao (ag (yb ao) (ag ao (ag (aw ol ao ao) (ag (yb (aw ol ao ao)) (ag ar (ag ar (ag ar (ag ar (ag (aw d3 ar ao) (ag (bw ak) ak)))))))))))))) (ax (aU (cN (cH (aL dA (ae 3) ao) (dY (cN (jT (aL aZ (ae 2) ao) (jL (aL hG (ae 3) ao))))))) (ay (aE (aK aM (ae 4) (aA Yv (hr.mono (by omega)) rfl (ag (ae 0) (ag ao ak)) (aj (aj au)))))) aV) (ax (aU (aL dA (ae 3) ao) (ay (aE (aK aM (ae 1) (aA Yv (hr.mono (by omega)) rfl (ag (ae 0) (ag (bq bF rfl B.b_len O7 (ag (ae 1) ak)) ak)) (aj (aj au)))))) aV) (ay (aE (fE jO rfl B.b_tuple Qr (ag (dW (osc:=aI (top 67)) (N:=["_law_tape","_law_names_here","_law_deep","_law_way","_law_some"]) (N':=["_law_tape","_law_names_here","_law_deep","_law_way","_law_some"]) (x:="_law_k") ⟨rfl,by decide +kernel,by decide +kernel,rfl,by decide +kernel,by decide +kernel,by decide +kernel,by decide +kernel,rfl,by decide +kernel⟩ (dU rfl B.b_range (aA Yv (hr.mono (by omega)) rfl (ag (ae 0) (ag ao ak)) (aj (aj au)))) (fun C s0 H0 ex=>(aA Dh (hr.mono (by omega)) rfl (ag (ae 1) (ag (ae 2) (ag (aw gk (ae 3) ao) ak))) (aj (aj (aj au))))) (fun C s0 H0 ex=>cW)) ak))))))))
theorem zra:Xw ["_law_tape","_law_names_here","_law_many"] ["_law_tape","_law_names_here","_law_many"] (aI (top 68)):=⟨rfl,rfl,rfl,by decide +kernel,rfl,by decide +kernel,by decide +kernel⟩
theorem zrb{P:NU}{w:N8}{K:Frag}{mg:Str->Option NO}{base:Heap}{f:Addr}{fd:Oe}{C:Addr}(B:Bi K mg C)(F:Yd K "_law_simple" "_law_simple" (top 68) f fd)(Yv:Fn P w K mg base "_law_take" ["_law_tape","_law_many"] 1 (XA K 2 aQ))(Dh:Fn P w K mg base "_law_value" ["_law_tape","_law_names_here","_law_deep"] 26 (XA K 3 (cQ 25))):Xz P w K mg base Yi 27 f fd ["_law_tape","_law_names_here","_law_many"] (XA K 3 (hZ)):=YE F zra fun XF A outer s H E hr=>(ax (aU (cN (jT (aL hG (ae 2) ao) (jL (aL hG (aA Yv (hr.mono (by omega)) rfl (ag (ae 0) (ag ao ak)) (aj (aj au))) ao)))) (ay (aE (bw (ag ar (ag (aA Yv (hr.mono (by omega)) rfl (ag (ae 0) (ag (ae 2) ak)) (aj (aj au))) ak))))) aV) (ay (aE (bw (ag ar (ag (aA Dh (hr.mono (by omega)) rfl (ag (ae 0) (ag (ae 1) (ag ao ak))) (aj (aj (aj au)))) ak))))))
theorem YD:Xw ["_law_tape","_law_names_here","_law_many","_law_way","_law_one","_law_other"] ["_law_tape","_law_names_here","_law_many"] (aI (top 69)):=⟨rfl,rfl,rfl,by decide +kernel,rfl,by decide +kernel,by decide +kernel⟩
theorem zrc{P:NU}{w:N8}{K:Frag}{mg:Str->Option NO}{base:Heap}{f:Addr}{fd:Oe}{C:Addr}(B:Bi K mg C)(F:Yd K "_law_expr" "_law_expr" (top 69) f fd)(Yv:Fn P w K mg base "_law_take" ["_law_tape","_law_many"] 1 (XA K 2 aQ))(Bb:Fn P w K mg base "_law_simple" ["_law_tape","_law_names_here","_law_many"] 27 (XA K 3 hZ)):Xz P w K mg base Yi 28 f fd ["_law_tape","_law_names_here","_law_many"] (XA K 3 (ia)):=YE F YD fun XF A outer s H E hr=>(ax (aO (i:=3) YD.nd (aA Yv (hr.mono (by omega)) rfl (ag (ae 0) (ag ao ak)) (aj (aj au)))) (ax (aO (i:=4) YD.nd (aA Bb (hr.mono (by omega)) rfl (ag (ae 0) (ag (ae 1) (ag (ae 2) ak))) (aj (aj (aj au))))) (ax (aU (aL dA (ae 3) ao) (ay (aE (aK aM (bC (ag (ae 4) (ag (bw (ag ar (ag (ae 4) ak))) ak))) (aw kS (ae 3) ao)))) aV) (ax (aO (i:=5) YD.nd (aA Bb (hr.mono (by omega)) rfl (ag (ae 0) (ag (ae 1) (ag (ae 2) ak))) (aj (aj (aj au))))) (ax (aU (aL aZ (ae 3) ao) (ay (aE (bw (ag ar (ag (bU (bw (ag (ae 4) (ag (ae 5) ak))) cL (bG (aA Yv (hr.mono (by omega)) rfl (ag (ae 0) (ag ao ak)) (aj (aj au))))) ak))))) aV) (ay (aE (bw (ag (aK aM (bC (ag ar (ag ar (ag ar (ag ar (ag ar ak)))))) (aA Yv (hr.mono (by omega)) rfl (ag (ae 0) (ag ao ak)) (aj (aj au)))) (ag (ae 4) (ag (ae 5) ak)))))))))))
theorem X8:Xw ["_law_tape","_law_names_here","_law_deep","_law_many","_law_peeks","_law_way","_law_expr_here","_law_word","_law_one"] ["_law_tape","_law_names_here","_law_deep","_law_many","_law_peeks"] (aI (top 70)):=⟨rfl,rfl,rfl,by decide +kernel,rfl,by decide +kernel,by decide +kernel⟩
theorem zrd{P:NU}{w:N8}{K:Frag}{mg:Str->Option NO}{base:Heap}{f:Addr}{fd:Oe}{C:Addr}(n:Nat)(B:Bi K mg C)(F:Yd K "_law_recipe" "_law_recipe" (top 70) f fd)(Yv:Fn P w K mg base "_law_take" ["_law_tape","_law_many"] 1 (XA K 2 aQ))(vP:Fn P w K mg base "_law_expr" ["_law_tape","_law_names_here","_law_many"] 28 (XA K 3 ia))(CO:Fn P w K mg base "_law_recipe" ["_law_tape","_law_names_here","_law_deep","_law_many","_law_peeks"] (28+n) (XA K 5 (bY n))):Xz P w K mg base Yi (28+n+1) f fd ["_law_tape","_law_names_here","_law_deep","_law_many","_law_peeks"] (XA K 5 (bY (n+1))):=YE F X8 fun XF A outer s H E hr=>(ax (aO (i:=5) X8.nd (aA Yv (hr.mono (by omega)) rfl (ag (ae 0) (ag ao ak)) (aj (aj au)))) (ax (aO (i:=6) X8.nd (aA vP (hr.mono (by omega)) rfl (ag (ae 0) (ag (ae 1) (ag (ae 3) ak))) (aj (aj (aj au))))) (ax (aU (cN (jT (aL hG (ae 2) ao) (jL (aL dA (ae 5) ao)))) (ax (aO (i:=7) X8.nd (aK aM (bC (ag ar (ag ar ak))) (fE yW rfl B.b_int Vl (ag (bZ (ae 4) (cy (bD aZ (aA Yv (hr.mono (by omega)) rfl (ag (ae 0) (ag ao ak)) (aj (aj au))) ao))) ak)))) (ax (aU (aL hG (aA Yv (hr.mono (by omega)) rfl (ag (ae 0) (ag ao ak)) (aj (aj au))) ao) (ay (aO (i:=6) X8.nd (bw (ag ar (ag (aK aM (ae 1) (aA Yv (hr.mono (by omega)) rfl (ag (ae 0) (ag (bq bF rfl B.b_len O7 (ag (ae 1) ak)) ak)) (aj (aj au)))) ak))))) aV) (ay (aE (bw (ag (ae 7) (ag (ae 6) (ag (aA CO (hr.mono (by omega)) rfl (ag (ae 0) (ag (ae 1) (ag (aw gk (ae 2) ao) (ag (aw aD (ae 3) ao) (ag (ae 4) ak))))) (aj (aj (aj (aj (aj au)))))) ak)))))))) aV) (ax (aU (cN (jT (aL hG (ae 2) ao) (jL (aL dA (ae 5) ao)))) (ax (aO (i:=8) X8.nd (aA CO (hr.mono (by omega)) rfl (ag (ae 0) (ag (ae 1) (ag (aw gk (ae 2) ao) (ag (ae 3) (ag (ae 4) ak))))) (aj (aj (aj (aj (aj au))))))) (ay (aE (bw (ag ar (ag (ae 6) (ag (ae 8) (ag (aA CO (hr.mono (by omega)) rfl (ag (ae 0) (ag (ae 1) (ag (aw gk (ae 2) ao) (ag (ae 3) (ag (ae 4) ak))))) (aj (aj (aj (aj (aj au)))))) ak)))))))) aV) (ax (aU (cN (jT (aL aZ (ae 5) ao) (jL (aL aZ (aA Yv (hr.mono (by omega)) rfl (ag (ae 0) (ag ao ak)) (aj (aj au))) ao)))) (ay (aE (bw (ag ar (ag (aK aM (aw aD (ae 1) (bC (ag ar (ag ar ak)))) (aA Yv (hr.mono (by omega)) rfl (ag (ae 0) (ag (aw aD (bq bF rfl B.b_len O7 (ag (ae 1) ak)) ao) ak)) (aj (aj au)))) ak))))) aV) (ay (aE (bw (ag ar (ag (ae 6) ak))))))))))
theorem X6:Xw ["_law_script","_law_at","_law_peeks","_law_head","_law_many","_law_names_here","_law_givens","_law_recipes","_law_k","_law_tape"] ["_law_script","_law_at","_law_peeks"] (aI (top 71)):=⟨rfl,rfl,rfl,by decide +kernel,rfl,by decide +kernel,by decide +kernel⟩
theorem zre{P:NU}{w:N8}{K:Frag}{mg:Str->Option NO}{base:Heap}{f:Addr}{fd:Oe}{C:Addr}(B:Bi K mg C)(F:Yd K "_law_book" "_law_book" (top 71) f fd)(Jj:Fn P w K mg base "_law_cell_at" ["_law_script","_law_k"] 1 (XA K 2 eS))(Ej:Fn P w K mg base "_law_draws" ["_law_cell","_law_many"] 1 (XA K 2 fA))(Yv:Fn P w K mg base "_law_take" ["_law_tape","_law_many"] 1 (XA K 2 aQ))(wI:Fn P w K mg base "_law_names" ["_law_tape","_law_many"] 2 (XA K 2 h9))(Dh:Fn P w K mg base "_law_value" ["_law_tape","_law_names_here","_law_deep"] 26 (XA K 3 (cQ 25)))(CO:Fn P w K mg base "_law_recipe" ["_law_tape","_law_names_here","_law_deep","_law_many","_law_peeks"] 53 (XA K 5 (bY 25))):Xz P w K mg base Yi 54 f fd ["_law_script","_law_at","_law_peeks"] (XA K 3 (jA)):=YE F X6 fun XF A outer s H E hr=>(mn (i:=3) X6.nd (ag (aA Ej (hr.mono (by omega)) rfl (ag (aA Jj (hr.mono (by omega)) rfl (ag (ae 0) (ag (ae 1) ak)) (aj (aj au))) (ag ao ak)) (aj (aj au))) (ag ao ak)) (ax (aO (i:=4) X6.nd (aw aD ao (aA Yv (hr.mono (by omega)) rfl (ag (ae 3) (ag ao ak)) (aj (aj au))))) (ax (aO (i:=5) X6.nd (aA wI (hr.mono (by omega)) rfl (ag (ae 3) (ag (aw aD (ae 4) ao) ak)) (aj (aj au)))) (ax (jM (i:=6) X6.nd) (ax (jM (i:=7) X6.nd) (ax (nT (i:=8) X6.nd (dU rfl B.b_range (ae 4)) (mn (i:=9) X6.nd (ag (aA Ej (hr.mono (by omega)) rfl (ag (aw aD (aA Jj (hr.mono (by omega)) rfl (ag (ae 0) (ag (aw aD (aw aD (ae 1) ao) (ae 8)) ak)) (aj (aj au))) (aw d3 ao (ae 8))) (ag ao ak)) (aj (aj au))) (ag ao ak)) (ay (aU (aL aZ (aA Yv (hr.mono (by omega)) rfl (ag (ae 9) (ag ao ak)) (aj (aj au))) ao) (ay (jN (i:=6) hr (aK aM (ae 5) (ae 8)) (aA Dh (hr.mono (by omega)) rfl (ag (ae 9) (ag (ae 5) (ag ao ak))) (aj (aj (aj au)))))) (ay (jN (i:=7) hr (aK aM (ae 5) (ae 8)) (aA CO (hr.mono (by omega)) rfl (ag (ae 9) (ag (ae 5) (ag (aw aD ao (aA Yv (hr.mono (by omega)) rfl (ag (ae 9) (ag ao ak)) (aj (aj au)))) (ag ao (ag (ae 2) ak))))) (aj (aj (aj (aj (aj au)))))))))))) (ay (aE (bw (ag (ae 6) (ag (ae 7) ak)))))))))))
theorem Yf:Xw ["_law_thing","_law_words_here","_law_parts","_law_part"] ["_law_thing"] (aI (top 72)):=⟨rfl,rfl,rfl,by decide +kernel,rfl,by decide +kernel,by decide +kernel⟩
theorem zrf{P:NU}{w:N8}{K:Frag}{mg:Str->Option NO}{base:Heap}{f:Addr}{fd:Oe}{C:Addr}(n:Nat)(B:Bi K mg C)(F:Yd K "_law_words" "_law_words" (top 72) f fd)(Eg:Fn P w K mg base "_law_stamp" ["_law_value_here"] 25 (XA K 1 (dq 25)))(DB:Fn P w K mg base "_law_words" ["_law_thing"] (25+n) (XA K 1 (cw n))):Xz P w K mg base Yi (25+n+1) f fd ["_law_thing"] (XA K 1 (cw (n+1))):=YE F Yf fun XF A outer s H E hr=>(ax (aU (aL aZ (aK aM (ae 0) ao) ar) (ay (aE (bC (ag ar (ag (aA Eg (hr.mono (by omega)) rfl (ag (aK aM (ae 0) ao) ak) (aj au)) ak))))) aV) (ax (aU (aL fW (aK aM (ae 0) ao) (bw (ag ar (ag ar ak)))) (ay (aE (bC (ag (aK aM (ae 0) ao) (ag (fE yd rfl B.b_str R4 (ag (aK aM (ae 0) ao) ak)) ak))))) aV) (ax (qK (i:=1) Yf.nd (ag (aK aM (ae 0) ao) ak)) (ax (aO (i:=2) Yf.nd (bU (ae 0) (bG ao) cL)) (ax (aU (aL aZ (aK aM (ae 0) ao) ar) (ax (aO (i:=2) Yf.nd (aK aM (ae 0) ao)) (ay (nU (i:=1) (by exact(fE yd rfl B.b_str R4 (ag (bq bF rfl B.b_len O7 (ag (ae 2) ak)) ak)))))) aV) (ax (nT (i:=3) Yf.nd (gh (ae 2)) (ay (zft (i:=1) Yf.nd (ae 1) (aA DB (hr.mono (by omega)) rfl (ag (ae 3) ak) (aj au))))) (ay (aE (ae 1)))))))))
theorem Zs:Xw ["_law_book_here","_law_lines_here"] ["_law_book_here"] (aI (top 73)):=⟨rfl,rfl,rfl,by decide +kernel,rfl,by decide +kernel,by decide +kernel⟩
theorem zrg{P:NU}{w:N8}{K:Frag}{mg:Str->Option NO}{base:Heap}{f:Addr}{fd:Oe}{C:Addr}(B:Bi K mg C)(F:Yd K "_law_lines" "_law_lines" (top 73) f fd)(Eg:Fn P w K mg base "_law_stamp" ["_law_value_here"] 25 (XA K 1 (dq 25)))(DB:Fn P w K mg base "_law_words" ["_law_thing"] 50 (XA K 1 (cw 25))):Xz P w K mg base Yi 51 f fd ["_law_book_here"] (XA K 1 (jv)):=YE F Zs fun XF A outer s H E hr=>(ax (mY (i:=1) (osc:=aI (top 73)) (N:=["_law_book_here","_law_lines_here"]) (N':=["_law_book_here","_law_lines_here"]) (x:="_law_name") ⟨rfl,by decide +kernel,by decide +kernel,rfl,by decide +kernel,by decide +kernel,by decide +kernel,by decide +kernel,rfl,by decide +kernel⟩ Zs.nd (gh (aK aM (ae 0) ao)) (fun C s0 H0 ex=>(aw aD (aw aD (aw aD ar (ae 0)) ar) (aA Eg (hr.mono (by omega)) rfl (ag (aK (jX hr) (aK aM (ae 1) ao) (ae 0)) ak) (aj au)))) (fun C s0 H0 ex=>cW)) (ay (aE (aw aD (ae 1) (dW (osc:=aI (top 73)) (N:=["_law_book_here","_law_lines_here"]) (N':=["_law_book_here","_law_lines_here"]) (x:="_law_name") ⟨rfl,by decide +kernel,by decide +kernel,rfl,by decide +kernel,by decide +kernel,by decide +kernel,by decide +kernel,rfl,by decide +kernel⟩ (gh (aK aM (ae 0) ao)) (fun C s0 H0 ex=>(aw aD (aw aD (aw aD ar (ae 0)) ar) (jI ar (aA DB (hr.mono (by omega)) rfl (ag (aK (jX hr) (aK aM (ae 1) ao) (ae 0)) ak) (aj au))))) (fun C s0 H0 ex=>cW))))))
theorem XS:Xw ["_law_tape","_law_line","_law_words_here","_law_way","_law_some"] ["_law_tape","_law_line"] (aI (top 74)):=⟨rfl,rfl,rfl,by decide +kernel,rfl,by decide +kernel,by decide +kernel⟩
theorem zrh{P:NU}{w:N8}{K:Frag}{mg:Str->Option NO}{base:Heap}{f:Addr}{fd:Oe}{C:Addr}(B:Bi K mg C)(F:Yd K "_law_bad_line" "_law_bad_line" (top 74) f fd)(Yv:Fn P w K mg base "_law_take" ["_law_tape","_law_many"] 1 (XA K 2 aQ)):Xz P w K mg base Yi 2 f fd ["_law_tape","_law_line"] (XA K 2 (bX)):=YE F XS fun XF A outer s H E hr=>(ax (aO (i:=2) XS.nd (mF (ae 1) ar)) (ax (aO (i:=3) XS.nd (aA Yv (hr.mono (by omega)) rfl (ag (ae 0) (ag ao ak)) (aj (aj au)))) (ax (aU (aL aZ (ae 3) ao) (ay (aE (jI ar (aw aD (bC (ag (aK aM (bC (ag ar (ag ar (ag ar (ag ar (ag ar (ag ar ak))))))) (aA Yv (hr.mono (by omega)) rfl (ag (ae 0) (ag ao ak)) (aj (aj au)))) ak)) (bU (ae 2) (bG ao) cL))))) aV) (ax (aU (aL aZ (ae 3) ao) (ay (aE (jI ar (aw aD (aw aD (bU (ae 2) cL (bG ao)) (bC (ag (aK aM (bC (ag ar (ag ar (ag ar (ag ar (ag ar (ag ar ak))))))) (aA Yv (hr.mono (by omega)) rfl (ag (ae 0) (ag ao ak)) (aj (aj au)))) ak))) (bU (ae 2) (bG ao) cL))))) aV) (ax (aU (aL aZ (ae 3) ao) (ax (aO (i:=4) XS.nd (bC (ag ar (ag ar (ag ar (ag ar (ag ar (ag ar (ag ar (ag ar (ag ar (ag ar (ag ar (ag (aw aD ar (aw d3 ar ao)) ak)))))))))))))) (ax (aO (i:=4) XS.nd (aw aD (ae 4) (bC (ag (aw aD (aw aD ar (aw d3 ar ao)) ar) (ag ar ak))))) (ay (aE (aw aD (aw aD (aw aD ar (aK aM (ae 2) ao)) ar) (aK aM (ae 4) (aA Yv (hr.mono (by omega)) rfl (ag (ae 0) (ag ao ak)) (aj (aj au))))))))) aV) (ax (aU (aL aZ (ae 3) ao) (ax (aO (i:=4) XS.nd (bC (ag ar (ag ar (ag ar (ag ar (ag ar (ag ar (ag ar (ag ar (ag ar ak))))))))))) (ax (aO (i:=4) XS.nd (aw aD (ae 4) (bC (ag ar (ag ar (ag ar (ag ar (ag ar ak)))))))) (ax (aO (i:=4) XS.nd (aw aD (ae 4) (bC (ag ar (ag ar (ag ar ak)))))) (ay (aE (aw aD (aw aD (aw aD ar (aK aM (ae 2) ao)) ar) (aK aM (ae 4) (aA Yv (hr.mono (by omega)) rfl (ag (ae 0) (ag ao ak)) (aj (aj au)))))))))) aV) (ax (aU (aL aZ (ae 3) ao) (ay (aE (aK aM (bC (ag ar (ag ar (ag ar (ag (aw aD ar (aK aM (ae 2) ao)) (ag (aw aD ar (aK aM (ae 2) ao)) (ag (aw aD ar (ae 1)) ak))))))) (aA Yv (hr.mono (by omega)) rfl (ag (ae 0) (ag ao ak)) (aj (aj au)))))) aV) (ax (aU (aL aZ (ae 3) ao) (ay (aE (aw aD (aw aD (aK aM (ae 2) ao) ar) (jI ar (bU (ae 2) (bG ao) cL))))) aV) (ax (aU (aL aZ (ae 3) ao) (ay (aE (jI ar (bC (ag ar (ag (aK aM (ae 2) ao) (ag ar (ag ar (ag ar ak))))))))) aV) (ax (aU (aL aZ (ae 3) ao) (ay (aE (jI ar (bC (ag ar (ag (aK aM (ae 2) ao) (ag ar ak))))))) aV) (ay (aE (aw aD (ae 1) ar)))))))))))))
theorem Y6:Xw ["_law_lines_here","e","_law_others"] ["_law_lines_here"] (aI (top 75)):=⟨rfl,rfl,rfl,by decide +kernel,rfl,by decide +kernel,by decide +kernel⟩
theorem Yx:Xw ["_law_tape","_law_many","_law_letters","_law_at","_law_names_here"] ["_law_tape","_law_many"] (aI (top 76)):=⟨rfl,rfl,rfl,by decide +kernel,rfl,by decide +kernel,by decide +kernel⟩
theorem zri{P:NU}{w:N8}{K:Frag}{mg:Str->Option NO}{base:Heap}{f:Addr}{fd:Oe}{C:Addr}(B:Bi K mg C)(F:Yd K "_law_great" "_law_great" (top 76) f fd)(Yv:Fn P w K mg base "_law_take" ["_law_tape","_law_many"] 1 (XA K 2 aQ)):Xz P w K mg base Yi 2 f fd ["_law_tape","_law_many"] (XA K 2 (km)):=YE F Yx fun XF A outer s H E hr=>(ax (aO (i:=2) Yx.nd ar) (ax (aO (i:=3) Yx.nd (aA Yv (hr.mono (by omega)) rfl (ag (ae 0) (ag ao ak)) (aj (aj au)))) (ax (mY (i:=4) (osc:=aI (top 76)) (N:=["_law_tape","_law_many","_law_letters","_law_at","_law_names_here"]) (N':=["_law_tape","_law_many","_law_letters","_law_at","_law_names_here"]) (x:="_law_k") ⟨rfl,by decide +kernel,by decide +kernel,rfl,by decide +kernel,by decide +kernel,by decide +kernel,by decide +kernel,rfl,by decide +kernel⟩ Yx.nd (dU rfl B.b_range (ae 1)) (fun C s0 H0 ex=>(aw d3 (aK aM (ae 3) (aw fQ (aw aD (ae 4) (ae 0)) ao)) (aw aD ao (aw kS (ae 0) ao)))) (fun C s0 H0 ex=>cW)) (ay (aE (dW (osc:=aI (top 76)) (N:=["_law_tape","_law_many","_law_letters","_law_at","_law_names_here"]) (N':=["_law_tape","_law_many","_law_letters","_law_at","_law_names_here"]) (x:="_law_name") ⟨rfl,by decide +kernel,by decide +kernel,rfl,by decide +kernel,by decide +kernel,by decide +kernel,by decide +kernel,rfl,by decide +kernel⟩ (gh (ae 4)) (fun C s0 H0 ex=>(aK aM (bC (ag (aw aD (aw aD ar (ae 0)) ar) (ag (aw aD (aw aD ar (ae 0)) ar) ak))) (aA Yv (hr.mono (by omega)) rfl (ag (ae 1) (ag ao ak)) (aj (aj au))))) (fun C s0 H0 ex=>cW)))))))
theorem Yb:Xw ["_law_script","_law_book_here","_law_kept","_law_lines_here","_law_k","_law_tape","_law_turn","_law_some","_law_at","_law_twin","_law_bad","_law_place","_law_great_here","_law_found"] ["_law_script"] (aI (top 77)):=⟨rfl,rfl,rfl,by decide +kernel,rfl,by decide +kernel,by decide +kernel⟩
theorem zrj{P:NU}{w:N8}{K:Frag}{mg:Str->Option NO}{base:Heap}{f:Addr}{fd:Oe}{C:Addr}(B:Bi K mg C)(F:Yd K "law" "law" (top 77) f fd)(wy:Fn P w K mg base "_law_book" ["_law_script","_law_at","_law_peeks"] 54 (XA K 3 jA))(tw:Fn P w K mg base "_law_lines" ["_law_book_here"] 51 (XA K 1 jv))(Jj:Fn P w K mg base "_law_cell_at" ["_law_script","_law_k"] 1 (XA K 2 eS))(Ej:Fn P w K mg base "_law_draws" ["_law_cell","_law_many"] 1 (XA K 2 fA))(Yv:Fn P w K mg base "_law_take" ["_law_tape","_law_many"] 1 (XA K 2 aQ))(vO:Fn P w K mg base "_law_bad_line" ["_law_tape","_law_line"] 2 (XA K 2 bX))(Jn:Fn P w K mg base "_law_told" ["_law_lines_here"] 94 (XA K 1 (ei C)))(Hl:Fn P w K mg base "_law_same" ["_law_found","_law_due"] 25 (XA K 2 (br 25)))(uf:Fn P w K mg base "_law_great" ["_law_tape","_law_many"] 2 (XA K 2 km)):Xz P w K mg base Yi 95 f fd ["_law_script"] (XA K 1 (lK C)):=YE F Yb fun XF A outer s H E hr=>(ax (aO (i:=1) Yb.nd (aA wy (hr.mono (by omega)) rfl (ag (ae 0) (ag ao (ag iA ak))) (aj (aj (aj au))))) (ax (aO (i:=2) Yb.nd (bw (ag (wA B.b_dict (aK aM (ae 1) ao)) (ag (wA B.b_dict (aK aM (ae 1) ao)) ak)))) (ax (aO (i:=3) Yb.nd (aA tw (hr.mono (by omega)) rfl (ag (ae 1) ak) (aj au))) (ax (nT (i:=4) Yb.nd (dU rfl B.b_range ao) (mn (i:=5) Yb.nd (ag (aA Ej (hr.mono (by omega)) rfl (ag (aw aD (aA Jj (hr.mono (by omega)) rfl (ag (ae 0) (ag (aw aD ao (ae 4)) ak)) (aj (aj au))) (aw d3 ao (ae 4))) (ag ao ak)) (aj (aj au))) (ag ao ak)) (ax (aO (i:=6) Yb.nd (aA Yv (hr.mono (by omega)) rfl (ag (ae 5) (ag (bq bF rfl B.b_len O7 (ag (ae 3) ak)) ak)) (aj (aj au)))) (ax (aO (i:=7) Yb.nd (aw aD (bU (ae 3) (bG (ae 6)) cL) (bU (ae 3) cL (bG (ae 6))))) (ax (aO (i:=8) Yb.nd (aA Yv (hr.mono (by omega)) rfl (ag (ae 5) (ag (bq bF rfl B.b_len O7 (ag (ae 7) ak)) ak)) (aj (aj au)))) (ax (aU (aL aZ (aA Yv (hr.mono (by omega)) rfl (ag (ae 5) (ag ao ak)) (aj (aj au))) ao) (ax (aO (i:=9) Yb.nd (aK aM (mF (aK aM (ae 7) (aA Yv (hr.mono (by omega)) rfl (ag (ae 5) (ag (bq bF rfl B.b_len O7 (ag (ae 7) ak)) ak)) (aj (aj au)))) ar) ao)) (ax (aO (i:=8) Yb.nd (aw aD ao (va (dW (osc:=aI (top 77)) (N:=["_law_script","_law_book_here","_law_kept","_law_lines_here","_law_k","_law_tape","_law_turn","_law_some","_law_at","_law_twin","_law_bad","_law_place","_law_great_here","_law_found"]) (N':=["_law_script","_law_book_here","_law_kept","_law_lines_here","_law_k","_law_tape","_law_turn","_law_some","_law_at","_law_twin","_law_bad","_law_place","_law_great_here","_law_found"]) (x:="_law_line") ⟨rfl,by decide +kernel,by decide +kernel,rfl,by decide +kernel,by decide +kernel,by decide +kernel,by decide +kernel,rfl,by decide +kernel⟩ (gh (ae 7)) (fun C s0 H0 ex=>(aK aM (mF (ae 0) ar) ao)) (fun C s0 H0 ex=>cW)) (ae 9)))) (ax (aO (i:=8) Yb.nd (aw aD (ae 8) (aA Yv (hr.mono (by omega)) rfl (ag (ae 5) (ag (aw gk (aw aD (bq bF rfl B.b_len O7 (ag (ae 7) ak)) ao) (ae 8)) ak)) (aj (aj au))))) (ay (aO (i:=10) Yb.nd (aw aD (aw aD (bU (ae 7) cL (bG (ae 8))) (bC (ag (aK aM (bC (ag (aw aD (aw aD ar (ae 9)) ar) (ag (aw aD (aw aD ar (ae 9)) ar) ak))) (aA Yv (hr.mono (by omega)) rfl (ag (ae 5) (ag ao ak)) (aj (aj au)))) ak))) (bU (ae 7) (bG (ae 8)) cL))))))) (ay (aO (i:=10) Yb.nd (aw aD (aw aD (bU (ae 7) cL (bG (ae 8))) (bC (ag (aA vO (hr.mono (by omega)) rfl (ag (ae 5) (ag (aK aM (ae 7) (ae 8)) ak)) (aj (aj au))) ak))) (bU (ae 7) (bG (aw aD (ae 8) ao)) cL))))) (ax (aU (aL aZ (aA Yv (hr.mono (by omega)) rfl (ag (ae 5) (ag ao ak)) (aj (aj au))) ao) (ax (aO (i:=11) Yb.nd (aw aD (aw aD (ae 8) ao) (aA Yv (hr.mono (by omega)) rfl (ag (ae 5) (ag (aw gk (bq bF rfl B.b_len O7 (ag (ae 10) ak)) (ae 8)) ak)) (aj (aj au))))) (ay (aO (i:=10) Yb.nd (aw aD (aw aD (bU (ae 10) cL (bG (ae 11))) (bC (ag ar ak))) (bU (ae 10) (bG (ae 11)) cL))))) aV) (ay (aU (cN (cH (gi (cE (aA Hl (hr.mono (by omega)) rfl (ag (mG Jn (hr.mono (by omega)) rfl (ag (ae 10) ak) (aj au)) (ag (bC (ag ar (ag (ae 8) ak))) ak)) (aj (aj au))))) (dY (gi (cE (aA Hl (hr.mono (by omega)) rfl (ag (mG Jn (hr.mono (by omega)) rfl (ag (ae 7) ak) (aj au)) (ag (bC (ag (ae 2) ak)) ak)) (aj (aj au)))))))) (ay (aE iA)) aV))))))))) (mn (i:=5) Yb.nd (ag (aA Ej (hr.mono (by omega)) rfl (ag (aA Jj (hr.mono (by omega)) rfl (ag (ae 0) (ag ao ak)) (aj (aj au))) (ag ao ak)) (aj (aj au))) (ag ao ak)) (ax (aO (i:=12) Yb.nd (aA uf (hr.mono (by omega)) rfl (ag (ae 5) (ag ao ak)) (aj (aj au)))) (ax (aO (i:=13) Yb.nd (mG Jn (hr.mono (by omega)) rfl (ag (bU (ae 12) cL (bG ao)) ak) (aj au))) (ax (aU (cN (cH (aL jk (bq bF rfl B.b_len O7 (ag (ae 13) ak)) ao) (dY (aL jk (aw aD (bq bF rfl B.b_len O7 (ag (aK aM (aK aM (ae 13) ao) ao) ak)) (bq bF rfl B.b_len O7 (ag (aK aM (aK aM (ae 13) ao) ao) ak))) ao)))) (ay (aE iA)) aV) (ay (aE (aA Hl (hr.mono (by omega)) rfl (ag (mG Jn (hr.mono (by omega)) rfl (ag (ae 12) ak) (aj au)) (ag (bC (ag ar (ag ao ak))) ak)) (aj (aj au)))))))))))))
theorem zrk:Xw ["self","at"] ["self","at"] (aI (bH 27 0)):=⟨rfl,rfl,rfl,by decide +kernel,rfl,by decide +kernel,by decide +kernel⟩
def Cn:Str:=NM "word "
def CY:Str:=NM " is not as told"
theorem zrl{P:NU}{w:N8}{K:Frag}{mg:Str->Option NO}{base:Heap}{f:Addr}{fd:Oe}{C R:Addr}{Ds:List Addr}(x:XE.XB K C R "at" Ds)(mR:mg "RedoError"=some (.ref R))(F:Yd K "__init__" "BadWord.__init__" (bH 27 0) f fd) :
  Xz P w K mg base Yi 1 f fd ["self","at"] (XE.Ag (XE.cj Cn CY) C "at"):=by
 refine F.ok zrk (fun vs H Q E h=>?_) (fun XF A outer s H vs Q E hr h=>?_)
 .obtain⟨a,y,rfl,_⟩:=h
  rfl
 .exact⟨_,dF (kP (XE.xp x.c x.r x.ri rfl mR x.rd x.fc (pv 0) (XE.xq (i:=1) (z1:=Cn) (z2:=CY) (pv 1)))) (kO (XE.yp x.c x.sa x.nn (pv 0) (pv 1))),XE.ue h⟩
theorem zrm{P:NU}{w:N8}{K:Frag}{mg:Str->Option NO}{base:Heap}{C R:Addr}{Ds:List Addr}(x:XE.XB K C R "at" Ds)(mR:mg "RedoError"=some (.ref R))(d:Gi K C "__init__" "BadWord.__init__" (bH 27 0)):XE.Yp (XE.cj Cn CY) P w K mg base C R "at" 1:=by
 obtain⟨f,oc,od,an,sl,kV,dc,pm,cd,ct,a,l,c,kp,fn⟩:=d.ex;have F:=ir (st:=bH 27 0) l c kp;exact⟨⟨f,_,_,zrl x mR F,F.binds (ps:=["self","at"]) (fun _ _ _ _ _ _ us hl=>match us,hl with | [_,_],_=>rfl),a,fn⟩,x.c,x.r,x.ri,x.kp⟩
theorem zrn:∀n:Nat,n<1001->Cn.length+(NM (toString (n:Int))).length+CY.length<=1000:=by decide +kernel
theorem zro{n:Nat}(h:n<1001):XE.cj Cn CY (.int (n:Int)):=⟨n,rfl,by
 rw[UY]
 by_cases z:n=0
 .subst z;decide
 .exact N6 ((Um (k:=10) z).mpr (by omega)) (by decide),Oc (zrn n h) (by decide)⟩
theorem vX(n:Int)(h:lim n=true):XE.cj Cn CY (.int n):=by
 unfold lim at h;simp only[NY,decide_eq_true_eq] at h;obtain⟨k,rfl⟩:=S8 h.1;exact zro (by omega)
theorem zrp:Xw ["self","at"] ["self","at"] (aI (bH 28 0)):=⟨rfl,rfl,rfl,by decide +kernel,rfl,by decide +kernel,by decide +kernel⟩
def DY:Str:=NM "line "
def C5:Str:=NM " can not stand where it does"
theorem zrq{P:NU}{w:N8}{K:Frag}{mg:Str->Option NO}{base:Heap}{f:Addr}{fd:Oe}{C R:Addr}{Ds:List Addr}(x:XE.XB K C R "at" Ds)(mR:mg "RedoError"=some (.ref R))(F:Yd K "__init__" "BadLine.__init__" (bH 28 0) f fd) :
  Xz P w K mg base Yi 1 f fd ["self","at"] (XE.Ag (XE.cj DY C5) C "at"):=by
 refine F.ok zrp (fun vs H Q E h=>?_) (fun XF A outer s H vs Q E hr h=>?_)
 .obtain⟨a,y,rfl,_⟩:=h
  rfl
 .exact⟨_,dF (kP (XE.xp x.c x.r x.ri rfl mR x.rd x.fc (pv 0) (XE.xq (i:=1) (z1:=DY) (z2:=C5) (pv 1)))) (kO (XE.yp x.c x.sa x.nn (pv 0) (pv 1))),XE.ue h⟩
theorem zrr{P:NU}{w:N8}{K:Frag}{mg:Str->Option NO}{base:Heap}{C R:Addr}{Ds:List Addr}(x:XE.XB K C R "at" Ds)(mR:mg "RedoError"=some (.ref R))(d:Gi K C "__init__" "BadLine.__init__" (bH 28 0)):XE.Yp (XE.cj DY C5) P w K mg base C R "at" 1:=by
 obtain⟨f,oc,od,an,sl,kV,dc,pm,cd,ct,a,l,c,kp,fn⟩:=d.ex;have F:=ir (st:=bH 28 0) l c kp;exact⟨⟨f,_,_,zrq x mR F,F.binds (ps:=["self","at"]) (fun _ _ _ _ _ _ us hl=>match us,hl with | [_,_],_=>rfl),a,fn⟩,x.c,x.r,x.ri,x.kp⟩
theorem zrs:∀n:Nat,n<1001->DY.length+(NM (toString (n:Int))).length+C5.length<=1000:=by decide +kernel
theorem zrt{n:Nat}(h:n<1001):XE.cj DY C5 (.int (n:Int)):=⟨n,rfl,by
 rw[UY]
 by_cases z:n=0
 .subst z;decide
 .exact N6 ((Um (k:=10) z).mpr (by omega)) (by decide),Oc (zrs n h) (by decide)⟩
theorem zru(n:Int)(h:lim n=true):XE.cj DY C5 (.int n):=by
 unfold lim at h;simp only[NY,decide_eq_true_eq] at h;obtain⟨k,rfl⟩:=S8 h.1;exact zrt (by omega)
theorem zrv{P:NU}{w:N8}{K:Frag}{mg:Str->Option NO}{base:Heap}{f:Addr}{fd:Oe}{C:Addr}{Yj XR:Addr}(B:Bi K mg C)(ZY:XE.Yp (XE.cj Cn CY) P w K mg base Yj XR "at" 1)(ZS:mg "BadWord"=some (.ref Yj))(F:Yd K "take" "Words.take" (bH 47 2) f fd)   : Xz P w K mg base (XO.Ym P w) (4) f fd ["self","fits"] (XE.ba K 2 Yj "at" (fz C)):=XO.f6 F sH fun XF A outer s H E hr=>(XO.iX (gi (cE (ae 1))) (XO.pM ZY vX (hr.mono (by omega)) ZS (dZ B.k_Words B.n_Words_place (ae 0))))
theorem zrw{P:NU}{w:N8}{K:Frag}{mg:Str->Option NO}{base:Heap}{f:Addr}{fd:Oe}{C:Addr}{Yj XR:Addr}(B:Bi K mg C)(ZY:XE.Yp (XE.cj Cn CY) P w K mg base Yj XR "at" 1)(ZS:mg "BadWord"=some (.ref Yj))(F:Yd K "begin" "Words.begin" (bH 47 3) f fd)  (XM:XO.Ci P w K mg base C "take" ["self","fits"] 4 (XE.ba K 2 Yj "at" (fz C))):Xz P w K mg base (XO.Ym P w) (5) f fd ["self","fits","above"] (XE.ba K 3 Yj "at" (iI C)):=XO.f6 F sG fun XF A outer s H E hr=>(XO.iO (XO.jH XM B.k_Words (hr.mono (by omega)) XO.passes (ae 0) (ag (bZ (ae 1) (bZ (bD dA (ae 2) (cD rfl B.c_MOST_DEEP)) (cy (bD dA (dZ B.k_Words B.n_Words_begun (ae 0)) (cD rfl B.c_MOST_PARTS_IN_ALL))))) ak) (aj au)))
theorem zrx{P:NU}{w:N8}{K:Frag}{mg:Str->Option NO}{base:Heap}{f:Addr}{fd:Oe}{C:Addr}{Yj XR:Addr}(B:Bi K mg C)(ZY:XE.Yp (XE.cj Cn CY) P w K mg base Yj XR "at" 1)(ZS:mg "BadWord"=some (.ref Yj))(F:Yd K "finish" "Words.finish" (bH 47 4) f fd)   : Xz P w K mg base (XO.Ym P w) (4) f fd ["self"] (XE.ba K 1 Yj "at" (kl C)):=XO.f6 F sF fun XF A outer s H E hr=>(XO.iX (aL dA (dZ B.k_Words B.n_Words_place (ae 0)) (bq bF rfl B.b_len O7 (ag (dZ B.k_Words B.n_Words_parted (ae 0)) ak))) (XO.pM ZY vX (hr.mono (by omega)) ZS (dZ B.k_Words B.n_Words_place (ae 0))))
theorem zry{P:NU}{w:N8}{K:Frag}{mg:Str->Option NO}{base:Heap}{f:Addr}{fd:Oe}{C:Addr}{Yj XR:Addr}(B:Bi K mg C)(ZY:XE.Yp (XE.cj Cn CY) P w K mg base Yj XR "at" 1)(ZS:mg "BadWord"=some (.ref Yj))(F:Yd K "put_by" "put_by" (top 53) f fd)(Xv:Cj P w K mg base C "ahead" ["self"] 1 (XA K 1 (bL C)))(Dd:Fn P w K mg base "value_by" ["text"] 31 (XA K 1 de))(XM:XO.Ci P w K mg base C "take" ["self","fits"] 4 (XE.ba K 2 Yj "at" (fz C))):Xz P w K mg base (XO.Ym P w) (35) f fd ["words"] (XE.ba K 1 Yj "at" (ky C)):=XO.f6 F Zj fun XF A outer s H E hr=>(XO.cY (aO (i:=1) Zj.nd (aA Dd (hr.mono (by omega)) rfl (ag (fF Xv B.k_Words (hr.mono (by omega)) (ae 0)) ak) (aj au))) (XO.iO (XO.jH XM B.k_Words (hr.mono (by omega)) XO.passes (ae 0) (ag (bD vU (ae 1) cF) ak) (aj au))))
theorem zrz{P:NU}{w:N8}{K:Frag}{mg:Str->Option NO}{base:Heap}{f:Addr}{fd:Oe}{C:Addr}{Yj XR:Addr}(B:Bi K mg C)(ZY:XE.Yp (XE.cj Cn CY) P w K mg base Yj XR "at" 1)(ZS:mg "BadWord"=some (.ref Yj))(F:Yd K "number_below" "number_below" (top 54) f fd)(Xv:Cj P w K mg base C "ahead" ["self"] 1 (XA K 1 (bL C)))(XM:XO.Ci P w K mg base C "take" ["self","fits"] 4 (XE.ba K 2 Yj "at" (fz C))):Xz P w K mg base (XO.Ym P w) (5) f fd ["words","bound"] (XE.ba K 2 Yj "at" (js C)):=XO.f6 F X5 fun XF A outer s H E hr=>(XO.cY (mY (i:=2) (osc:=aI (top 54)) (N:=["words","bound","figures","word"]) (N':=["words","bound","figures","word"]) (x:="k") ⟨rfl,by decide +kernel,by decide +kernel,rfl,by decide +kernel,by decide +kernel,by decide +kernel,by decide +kernel,rfl,by decide +kernel⟩ X5.nd (dU rfl B.b_range (ae 1)) (fun C s0 H0 ex=>(fE rV rfl B.b_str R4 (ag (ae 0) ak))) (fun C s0 H0 ex=>cW)) (XO.cY (aO (i:=3) X5.nd (fF Xv B.k_Words (hr.mono (by omega)) (ae 0))) (XO.iO (XO.jH XM B.k_Words (hr.mono (by omega)) XO.passes (ae 0) (ag (bD fW (ae 3) (ae 2)) ak) (aj au)))))
theorem zsa{P:NU}{w:N8}{K:Frag}{mg:Str->Option NO}{base:Heap}{f:Addr}{fd:Oe}{C:Addr}{Yj XR:Addr}(n:Nat)(B:Bi K mg C)(ZY:XE.Yp (XE.cj Cn CY) P w K mg base Yj XR "at" 1)(ZS:mg "BadWord"=some (.ref Yj))(F:Yd K "exprs_by" "exprs_by" (top 51) f fd)(Iq:Fn P w K mg base "expr_by" ["words","above","got"] (32+n) (XA K 3 (bQ C n)))(YU:XO.Bx P w K mg base "expr_by" ["words","above","got"] (35+n) (XE.ba K 3 Yj "at" (dD C n))):Xz P w K mg base (XO.Ym P w) (35+n+1) f fd ["words","many","above","got"] (XE.ba K 4 Yj "at" (kr C (n+1))):=XO.f6 F sI fun XF A outer s H E hr=>(XO.iS (XO.tD jO rfl B.b_tuple Qr (XO.iY (XO.u6 (sc:=aI (top 51)) (N:=["words","many","above","got"]) (N':=["words","many","above","got"]) (x:="k") ⟨rfl,by decide +kernel,by decide +kernel,rfl,by decide +kernel,by decide +kernel,by decide +kernel,by decide +kernel,rfl,by decide +kernel⟩ (dU rfl B.b_range (ae 1)) (fun Cq sq Hq ex E'=>(aA Iq (hr.mono (by omega)) rfl (ag (ae 1) (ag (ae 3) (ag (ae 4) ak))) (aj (aj (aj au))))) (fun Cq sq Hq ex E' hp=>(XO.gc YU (hr.mono (by omega)) rfl hp (ag (ae 1) (ag (ae 3) (ag (ae 4) ak))) (aj (aj (aj au)))))))))
theorem zsb{P:NU}{w:N8}{K:Frag}{mg:Str->Option NO}{base:Heap}{f:Addr}{fd:Oe}{C:Addr}{Yj XR:Addr}(n:Nat)(B:Bi K mg C)(ZY:XE.Yp (XE.cj Cn CY) P w K mg base Yj XR "at" 1)(ZS:mg "BadWord"=some (.ref Yj))(F:Yd K "expr_by" "expr_by" (top 50) f fd)(Xv:Cj P w K mg base C "ahead" ["self"] 1 (XA K 1 (bL C)))(XJ:Cj P w K mg base C "begin" ["self","fits","above"] 2 (XA K 3 (d8 C)))(Fk:Fn P w K mg base "put_by" ["words"] 32 (XA K 1 (gJ C)))(Cd:Fn P w K mg base "number_below" ["words","bound"] 2 (XA K 2 (eR C)))(BY:Fn P w K mg base "exprs_by" ["words","many","above","got"] (32+n) (XA K 4 (gG C n)))(X9:XO.Ci P w K mg base C "begin" ["self","fits","above"] 5 (XE.ba K 3 Yj "at" (iI C)))(DC:XO.Bx P w K mg base "put_by" ["words"] 35 (XE.ba K 1 Yj "at" (ky C)))(Yu:XO.Bx P w K mg base "number_below" ["words","bound"] 5 (XE.ba K 2 Yj "at" (js C)))(Zw:XO.Bx P w K mg base "exprs_by" ["words","many","above","got"] (35+n) (XE.ba K 4 Yj "at" (kr C n))):Xz P w K mg base (XO.Ym P w) (35+n+1) f fd ["words","above","got"] (XE.ba K 3 Yj "at" (dD C (n+1))):=XO.f6 F Y4 fun XF A outer s H E hr=>(XO.cY (aO (i:=3) Y4.nd (fF Xv B.k_Words (hr.mono (by omega)) (ae 0))) (XO.iw (XO.iO (XO.jH X9 B.k_Words (hr.mono (by omega)) XO.passes (ae 0) (ag (ow (bD fW (ae 3) (iP (ss:=["put","got","row"]) rfl B.g_FILLED)) (cy (jV B.t_WITHIN rfl (ae 3)))) (ag (ae 1) ak)) (aj (aj au)))) (XO.cY (gO (il XJ B.k_Words (hr.mono (by omega)) (ae 0) (ag (ow (bD fW (ae 3) (iP (ss:=["put","got","row"]) rfl B.g_FILLED)) (cy (jV B.t_WITHIN rfl (ae 3)))) (ag (ae 1) ak)) (aj (aj au)))) (XO.iw (XO.iX (aL aZ (ae 3) ar) (XO.iS (XO.m8 (XO.lD (ae 3) (XO.iY (XO.gc DC (hr.mono (by omega)) rfl XO.passes (ag (ae 0) ak) (aj au))))))) (XO.cY (aU (aL aZ (ae 3) ar) (ay (aE (bw (ag (ae 3) (ag (aA Fk (hr.mono (by omega)) rfl (ag (ae 0) ak) (aj au)) ak))))) aV) (XO.iw (XO.iX (aL aZ (ae 3) ar) (XO.iS (XO.m8 (XO.lD (ae 3) (XO.iY (XO.gc Yu (hr.mono (by omega)) rfl XO.passes (ag (ae 0) (ag (ae 2) ak)) (aj (aj au)))))))) (XO.cY (aU (aL aZ (ae 3) ar) (ay (aE (bw (ag (ae 3) (ag (aA Cd (hr.mono (by omega)) rfl (ag (ae 0) (ag (ae 2) ak)) (aj (aj au))) ak))))) aV) (XO.iw (XO.iX (aL aZ (ae 3) ar) (XO.iS (XO.m8 (XO.lD (ae 3) (XO.iY (XO.zhz (XO.zia BY (hr.mono (by omega)) rfl (XO.lD (ae 0) (XO.iY (XO.gc Yu (hr.mono (by omega)) rfl XO.passes (ag (ae 0) (ag (aw aD (cD rfl B.c_MOST_IN_ROW) ao) ak)) (aj (aj au)))))) (XO.gc Zw (hr.mono (by omega)) rfl XO.passes (ag (ae 0) (ag (aA Cd (hr.mono (by omega)) rfl (ag (ae 0) (ag (aw aD (cD rfl B.c_MOST_IN_ROW) ao) ak)) (aj (aj au))) (ag (aw aD (ae 1) ao) (ag (ae 2) ak)))) (aj (aj (aj (aj au))))))))))) (XO.cY (aU (aL aZ (ae 3) ar) (ay (aE (bw (ag (ae 3) (ag (aA BY (hr.mono (by omega)) rfl (ag (ae 0) (ag (aA Cd (hr.mono (by omega)) rfl (ag (ae 0) (ag (aw aD (cD rfl B.c_MOST_IN_ROW) ao) ak)) (aj (aj au))) (ag (aw aD (ae 1) ao) (ag (ae 2) ak)))) (aj (aj (aj (aj au))))) ak))))) aV) (XO.iS (XO.u7 aD (bw (ag (ae 3) ak)) (XO.gc Zw (hr.mono (by omega)) rfl XO.passes (ag (ae 0) (ag (nW B.t_WITHIN rfl (ae 3)) (ag (aw aD (ae 1) ao) (ag (ae 2) ak)))) (aj (aj (aj (aj au))))))))))))))))
theorem zsc{P:NU}{w:N8}{K:Frag}{mg:Str->Option NO}{base:Heap}{f:Addr}{fd:Oe}{C:Addr}{Yj XR:Addr}(B:Bi K mg C)(ZY:XE.Yp (XE.cj Cn CY) P w K mg base Yj XR "at" 1)(ZS:mg "BadWord"=some (.ref Yj))(F:Yd K "name_by" "name_by" (top 52) f fd)(Xv:Cj P w K mg base C "ahead" ["self"] 1 (XA K 1 (bL C)))(BJ:Fn P w K mg base "is_name" ["thing"] 2 (XA K 1 du))(XM:XO.Ci P w K mg base C "take" ["self","fits"] 4 (XE.ba K 2 Yj "at" (fz C))):Xz P w K mg base (XO.Ym P w) (6) f fd ["words"] (XE.ba K 1 Yj "at" (ku C)):=XO.f6 F Y3 fun XF A outer s H E hr=>(XO.cY (aO (i:=1) Y3.nd (fF Xv B.k_Words (hr.mono (by omega)) (ae 0))) (XO.iO (XO.jH XM B.k_Words (hr.mono (by omega)) XO.passes (ae 0) (ag (aA BJ (hr.mono (by omega)) rfl (ag (ae 1) ak) (aj au)) ak) (aj au))))
theorem zsd{P:NU}{w:N8}{K:Frag}{mg:Str->Option NO}{base:Heap}{f:Addr}{fd:Oe}{C:Addr}{Yj XR:Addr}(n:Nat)(B:Bi K mg C)(ZY:XE.Yp (XE.cj Cn CY) P w K mg base Yj XR "at" 1)(ZS:mg "BadWord"=some (.ref Yj))(F:Yd K "recipe_by" "recipe_by" (top 49) f fd)(Xv:Cj P w K mg base C "ahead" ["self"] 1 (XA K 1 (bL C)))(XJ:Cj P w K mg base C "begin" ["self","fits","above"] 2 (XA K 3 (d8 C)))(Gd:Fn P w K mg base "name_by" ["words"] 3 (XA K 1 (gI C)))(Iq:Fn P w K mg base "expr_by" ["words","above","got"] 57 (XA K 3 (bQ C 25)))(Jl:Fn P w K mg base "got_behind" ["word","got"] 1 (XA K 2 eV))(CZ:Fn P w K mg base "recipe_by" ["words","above","got"] (57+n) (XA K 3 (bB C n)))(X9:XO.Ci P w K mg base C "begin" ["self","fits","above"] 5 (XE.ba K 3 Yj "at" (iI C)))(ZO:XO.Bx P w K mg base "name_by" ["words"] 6 (XE.ba K 1 Yj "at" (ku C)))(YU:XO.Bx P w K mg base "expr_by" ["words","above","got"] 60 (XE.ba K 3 Yj "at" (dD C 25)))(Yy:XO.Bx P w K mg base "recipe_by" ["words","above","got"] (60+n) (XE.ba K 3 Yj "at" (cJ C n))):Xz P w K mg base (XO.Ym P w) (60+n+1) f fd ["words","above","got"] (XE.ba K 3 Yj "at" (cJ C (n+1))):=XO.f6 F XX fun XF A outer s H E hr=>(XO.cY (aO (i:=3) XX.nd (fF Xv B.k_Words (hr.mono (by omega)) (ae 0))) (XO.iw (XO.iO (XO.jH X9 B.k_Words (hr.mono (by omega)) XO.passes (ae 0) (ag (bZ (jV B.t_RECIPES_WITHIN rfl (ae 3)) (cy (jU (bZ (bD fW (ae 3) (iP (ss:=["want","peek"]) rfl B.g_GETTING)) (cy (bD aZ (ae 2) (cD rfl B.c_MOST_WANTS))))))) (ag (ae 1) ak)) (aj (aj au)))) (XO.cY (gO (il XJ B.k_Words (hr.mono (by omega)) (ae 0) (ag (bZ (jV B.t_RECIPES_WITHIN rfl (ae 3)) (cy (jU (bZ (bD fW (ae 3) (iP (ss:=["want","peek"]) rfl B.g_GETTING)) (cy (bD aZ (ae 2) (cD rfl B.c_MOST_WANTS))))))) (ag (ae 1) ak)) (aj (aj au)))) (XO.iw (XO.iX (aL aZ (ae 3) ar) (XO.iS (XO.m8 (XO.lD (ae 3) (XO.iY (XO.gc ZO (hr.mono (by omega)) rfl XO.passes (ag (ae 0) ak) (aj au))))))) (XO.cY (aU (aL aZ (ae 3) ar) (ay (aE (bw (ag (ae 3) (ag (aA Gd (hr.mono (by omega)) rfl (ag (ae 0) ak) (aj au)) ak))))) aV) (XO.iw (XO.wj (i:=4) XX.nd (XO.gc YU (hr.mono (by omega)) rfl XO.passes (ag (ae 0) (ag (aw aD (ae 1) ao) (ag (ae 2) ak))) (aj (aj (aj au))))) (XO.cY (aO (i:=4) XX.nd (aA Iq (hr.mono (by omega)) rfl (ag (ae 0) (ag (aw aD (ae 1) ao) (ag (ae 2) ak))) (aj (aj (aj au))))) (XO.cY (aO (i:=5) XX.nd (aA Jl (hr.mono (by omega)) rfl (ag (ae 3) (ag (ae 2) ak)) (aj (aj au)))) (XO.iS (XO.u7 aD (bw (ag (ae 3) (ag (ae 4) ak))) (XO.tD jO rfl B.b_tuple Qr (XO.iY (XO.u6 (sc:=aI (top 49)) (N:=["words","above","got","word","expr","behind"]) (N':=["words","above","got","word","expr","behind"]) (x:="k") ⟨rfl,by decide +kernel,by decide +kernel,rfl,by decide +kernel,by decide +kernel,by decide +kernel,by decide +kernel,rfl,by decide +kernel⟩ (dU rfl B.b_range (nW B.t_RECIPES_WITHIN rfl (ae 3))) (fun Cq sq Hq ex E'=>(aA CZ (hr.mono (by omega)) rfl (ag (ae 1) (ag (aw aD (ae 2) ao) (ag (ae 6) ak))) (aj (aj (aj au))))) (fun Cq sq Hq ex E' hp=>(XO.gc Yy (hr.mono (by omega)) rfl hp (ag (ae 1) (ag (aw aD (ae 2) ao) (ag (ae 6) ak))) (aj (aj (aj au))))))))))))))))))
theorem zse{P:NU}{w:N8}{K:Frag}{mg:Str->Option NO}{base:Heap}{f:Addr}{fd:Oe}{C:Addr}{Yj XR:Addr}(B:Bi K mg C)(ZY:XE.Yp (XE.cj Cn CY) P w K mg base Yj XR "at" 1)(ZS:mg "BadWord"=some (.ref Yj))(F:Yd K "read_recipe" "read_recipe" (top 48) f fd)(XU:Hu P w K mg base C ["self","text"] 1 (XA K 2 (cI C)))(CZ:Fn P w K mg base "recipe_by" ["words","above","got"] 82 (XA K 3 (bB C 25)))(Yy:XO.Bx P w K mg base "recipe_by" ["words","above","got"] 85 (XE.ba K 3 Yj "at" (cJ C 25)))(YA:XO.Ci P w K mg base C "finish" ["self"] 4 (XE.ba K 1 Yj "at" (kl C))):Xz P w K mg base (XO.Ym P w) (86) f fd ["text"] (XE.ba K 1 Yj "at" (jt C)):=XO.f6 F X3 fun XF A outer s H E hr=>(XO.zif (i:=1) XU (hr.mono (by omega)) rfl B.m_Words X3.nd (ae 0) (XO.iw (XO.wj (i:=2) X3.nd (XO.gc Yy (hr.mono (by omega)) rfl XO.passes (ag (ae 1) (ag ao (ag ao ak))) (aj (aj (aj au))))) (XO.cY (aO (i:=2) X3.nd (aA CZ (hr.mono (by omega)) rfl (ag (ae 1) (ag ao (ag ao ak))) (aj (aj (aj au))))) (XO.iO (XO.zib YA B.k_Words (hr.mono (by omega)) XO.passes (ae 1))))))
theorem zsf{P:NU}{w:N8}{K:Frag}{mg:Str->Option NO}{base:Heap}{f:Addr}{fd:Oe}{C:Addr}{Z5 XR:Addr}(B:Bi K mg C)(xn:XE.Yp (XE.cj DY C5) P w K mg base Z5 XR "at" 1)(HP:mg "BadLine"=some (.ref Z5))(F:Yd K "read_book" "read_book" (top 56) f fd)(Ek:Fn P w K mg base "thing_by" ["line"] 89 (XA K 1 (bT C)))  : Xz P w K mg base (XO.Ym P w) (93) f fd ["lines"] (XE.ba K 1 Z5 "at" (jw C)):=XO.f6 F XT fun XF A outer s H E hr=>(XO.cY (jM (i:=1) XT.nd) (XO.cY (jM (i:=2) XT.nd) (XO.zik (i:=3) (j:=4) B.b_enumerate XT.nd (ae 0) (ax (aO (i:=5) XT.nd (aA Ek (hr.mono (by omega)) rfl (ag (ae 4) ak) (aj au))) (ax (aU (cN (cH (aL iD (ae 5) cF) (cH (aL oS (ae 3) (cD rfl B.c_MOST_NAMES)) (cH (aL (i7 hr) (aK aM (ae 5) ao) (ae 1)) (dY (aL (i7 hr) (aK aM (ae 5) ao) (ae 2))))))) (ay mZ) aV) (ay (aU (aL aZ (aK aM (ae 5) ao) ar) (ay (jN (i:=1) hr (aK aM (ae 5) ao) (aK aM (ae 5) ao))) (ay (jN (i:=2) hr (aK aM (ae 5) ao) (aK aM (ae 5) ao))))))) (XO.cY (aO (i:=5) XT.nd (aA Ek (hr.mono (by omega)) rfl (ag (ae 4) ak) (aj au))) (XO.iX (cN (cH (aL iD (ae 5) cF) (cH (aL oS (ae 3) (cD rfl B.c_MOST_NAMES)) (cH (aL (i7 hr) (aK aM (ae 5) ao) (ae 1)) (dY (aL (i7 hr) (aK aM (ae 5) ao) (ae 2))))))) (XO.pM xn zru (hr.mono (by omega)) HP (ae 3)))) PassesOwn.leaving)))
theorem zsg{P:NU}{w:N8}{K:Frag}{mg:Str->Option NO}{base:Heap}{f:Addr}{fd:Oe}{C:Addr}{Yj XR:Addr}(B:Bi K mg C)(ZY:XE.Yp (XE.cj Cn CY) P w K mg base Yj XR "at" 1)(ZS:mg "BadWord"=some (.ref Yj))(F:Yd K "recipe_or_none" "recipe_or_none" (top 59) f fd)(uQ:Fn P w K mg base "read_recipe" ["text"] 83 (XA K 1 (hW C)))(YM:XO.Bx P w K mg base "read_recipe" ["text"] 86 (XE.ba K 1 Yj "at" (jt C))):Xz P w K mg base Yi 87 f fd ["text"] (XA K 1 (dR C)):=YE F zqk fun XF A outer s H E hr=>ay (XO.zii (R:=XR) (C:=Yj) (ay (aE (aA uQ (hr.mono (by omega)) rfl (ag (ae 0) ak) (aj au)))) (XO.zih YM (hr.mono (by omega)) rfl (ag (ae 0) ak) (aj au)) ZY.c ZS (fun e=>ay (aE cF)))
theorem zsh{P:NU}{w:N8}{K:Frag}{mg:Str->Option NO}{base:Heap}{f:Addr}{fd:Oe}{C Z5 XR A1 A2 A3 A4 A5 A6 A7:Addr}(B:Bi K mg C)(x:XE.XB K Z5 XR "at" [A1,A2,A3,A4,A5,A6,A7])(HP:mg "BadLine"=some (.ref Z5))(mR:mg "RedoError"=some (.ref XR))(bV:mg "ValueError"=none)
  (m1:mg "BadWord"=some (.ref A1)) (m2:mg "NoLine"=some (.ref A2)) (m3:mg "NoName"=some (.ref A3)) (m4:mg "NoRecipe"=some (.ref A4)) (m5:mg "NotMade"=some (.ref A5)) (m6:mg "NoValue"=some (.ref A6)) (m7:mg "TooMany"=some (.ref A7))
  (F:Yd K "_law_told" "_law_told" (top 75) f fd) (wu:Fn P w K mg base "read_book" ["lines"] 90 (XA K 1 (iK C))) (Zh:XO.Bx P w K mg base "read_book" ["lines"] 93 (XE.ba K 1 Z5 "at" (jw C))) :
  Xz P w K mg base Yi 94 f fd ["_law_lines_here"] (XA K 1 (ei C)):=
 YE F Y6 fun XF A outer s H E hr=>ay (XO.zin (i:=1) (R:=XR) (C:=Z5) (ay (aE (bC (ag (aA wu (hr.mono (by omega)) rfl (ag (ae 0) ak) (aj au)) ak))))
  (XO.zim Zh (hr.mono (by omega)) rfl (ag (ae 0) ak) (aj au)) x.c x.r mR Y6.nd
  (fun e oe dx h1 h2 h3=>dF (gR (i:=2) Y6.nd rfl (.inl rfl)
    (XE.zgy (Ds:=[A1,A2,A3,A4,A5,A6,A7]) (C:=Z5) ⟨NZ,h1,h2,h3,x.is,x.hd⟩ (pv 1) rfl B.b_isinstance (bf (eE (v:=.ref A1) rfl m1 rfl) (bf (eE (v:=.ref A2) rfl m2 rfl) (bf (eE (v:=.ref A3) rfl m3 rfl) (bf (eE (v:=.ref A4) rfl m4 rfl) (bf (eE (v:=.ref A5) rfl m5 rfl) (bf (eE (v:=.ref A6) rfl m6 rfl) (bf (eE (v:=.ref A7) rfl m7 rfl) bR))))))) (fun _ _ _ z=>z) (show 7<=100 by decide) x.kD))
   (dF (rJ (PW.pt (rH (qY (qX (XE.zgw (C:=Z5) ⟨NZ,h1,h2,h3,x.is,x.hd⟩ (pv 1) rfl B.b_isinstance rfl HP x.kC))) (rH (qX (pv 2)) (zsp (qY (qX (XE.zgx (T:="") (C:=Z5) ⟨NZ,h1,h2,h3,x.is,x.hd⟩ (pv 1) rfl B.b_isinstance rfl bV x.kV))))))) (kO (nF (lg (bf rb bR)))) qu)
    (kO (nF (lg (bf rb (bf (XE.zgz (C:=Z5) ⟨NZ,h1,h2,h3,x.is,x.hd⟩ (pv 1) x.nn) bR)))))))
  (fun O tp T e dx m H D σ hc hx hi hl q=>by
   have hl:σ.length=3:=hl
   have h2z:(2:Nat)<=sizeLine:=by decide
   refine⟨hi,⟨_,hx⟩,fun p hp=>?_⟩;have Af:upd H p (.tup ([A1,A2,A3,A4,A5,A6,A7].map V.ref)) dx=_:=(aX (bM hx hp)).trans hx
   have i1:(σ.set 2 (some (.bl false)))[1]? = some (some (.ref e)):=by rw[Oa (by decide)];exact hi
   have i2:(σ.set 2 (some (.bl false)))[2]? = some (some (.bl false)):=Oh (by rw[hl];decide);refine⟨i1,⟨_,Af⟩,true,rfl,gw ⟨_,i2,false,rfl,gw ⟨i1,⟨_,Af⟩,true,rfl,gw ?_⟩⟩⟩;have hp1:=hc.new hp (.tup ([A1,A2,A3,A4,A5,A6,A7].map V.ref));refine⟨i1,_,.int m,Af,rfl,h2z,fun l hl=>?_⟩
   exact q _ _ ((XQ.new hp _).trans (.new hl _)) (hp1.new hl _) (hp1.newL hl (.cons (.str _) (.cons (.int _) .nil)))))
theorem zsi{α:Type}:∀{us:List α},us.length=2->∃a b,us=[a,b]
 |[a,b],_=>⟨a,b,rfl⟩
end G
namespace D
open L2
abbrev HB(name qual:Str)(st:Stmt)(ps:List Str):Prop:=∀(kV doc pm:NO) (an:Option Addr) (XF ct:NO) (us:List NO),us.length=ps.length->Sq (Pa name qual (dG st) (cX st) (aI st) .none kV doc pm an XF ct) ⟨us,[]⟩=pure (ps.zip us)
theorem fnQ{l:Qv}{w:N8}{K:Frag}{h:Heap}{mg:Str->Option NO}{base:Heap}(X:K.In h)(Y:h.Ns N9 mg){name:Str}{st:Stmt}{ps:List Str}{k:Nat}{sp:Sp}(d:Df K name st)(ok:∀f fd,Yd K name name st f fd->Xz l.prog w K mg base Yi k f fd ps sp)(hb:HB name name st ps:=by intro _ _ _ _ _ _ us hl;rcases us with _|⟨_,_|⟨_,_|⟨_,_|⟨_,_|⟨_,_|⟨_,_⟩⟩⟩⟩⟩⟩ <;> first|rfl|cases hl):Fn l.prog w K mg base name ps k sp:=d.fn X Y hb ok
theorem mtQ{l:Qv}{w:N8}{K:Frag}{mg:Str->Option NO}{base:Heap}{C:Addr}{name qual:Str}{st:Stmt}{ps:List Str}{k:Nat}{sp:Sp}(d:Gi K C name qual st)(ok:∀f fd,Yd K name qual st f fd->Xz l.prog w K mg base Yi k f fd ps sp)(hb:HB name qual st ps:=by intro _ _ _ _ _ _ us hl;rcases us with _|⟨_,_|⟨_,_|⟨_,_|⟨_,_|⟨_,_|⟨_,_⟩⟩⟩⟩⟩⟩ <;> first|rfl|cases hl):Cj l.prog w K mg base C name ps k sp:=d.mth hb ok
theorem fxQ{l:Qv}{w:N8}{K:Frag}{h:Heap}{mg:Str->Option NO}{base:Heap}(X:K.In h)(Y:h.Ns N9 mg){name:Str}{st:Stmt}{ps:List Str}{k:Nat}{sp:Sp}(d:Df K name st)(ok:∀f fd,Yd K name name st f fd->Xz l.prog w K mg base (XO.Ym l.prog w) k f fd ps sp)(hb:HB name name st ps:=by intro _ _ _ _ _ _ us hl;rcases us with _|⟨_,_|⟨_,_|⟨_,_|⟨_,_|⟨_,_|⟨_,_⟩⟩⟩⟩⟩⟩ <;> first|rfl|cases hl):XO.Bx l.prog w K mg base name ps k sp:=XO.fnX d X Y hb ok
theorem mxQ{l:Qv}{w:N8}{K:Frag}{mg:Str->Option NO}{base:Heap}{C:Addr}{name qual:Str}{st:Stmt}{ps:List Str}{k:Nat}{sp:Sp}(d:Gi K C name qual st)(ok:∀f fd,Yd K name qual st f fd->Xz l.prog w K mg base (XO.Ym l.prog w) k f fd ps sp)(hb:HB name qual st ps:=by intro _ _ _ _ _ _ us hl;rcases us with _|⟨_,_|⟨_,_|⟨_,_|⟨_,_|⟨_,_|⟨_,_⟩⟩⟩⟩⟩⟩ <;> first|rfl|cases hl):XO.Ci l.prog w K mg base C name ps k sp:=XO.zid d hb ok
end D
namespace G
open L2 D
theorem all_mk{l:Qv}{K:Frag}{h:Heap}{mg:Str->Option NO}(X:K.In h)(G:h.Ns N9 mg)(hfa:mg "law"=some (.ref fa))(qC:Oi K N9 "Words"=some (some (.ref C)))(kC:sk K C=true)(gC:AG K C=true)(Fs:Ih K C "begun"=true)(C2:Ih K C "parted"=true)(Fu:Ih K C "place"=true)(Qdc:Df K "is_whole" (top 8))(Qdd:Df K "has_only" (top 9))(Qdh:Df K "is_name" (top 10))(Qct:Df K "is_single" (top 11))(Qcb:Df K "is_built" (top 12))(Qcf:Df K "many_of" (top 14))(Qde:Df K "is_value" (top 13))(Qcj:Df K "got_behind" (top 23))(Qck:Df K "is_figures" (top 44))(Qcu:Df K "number_by" (top 43))(Qcv:Df K "single_by" (top 42))(Qcw:Df K "single_at" (top 41))(Qcl:Df K "row_at" (top 40))(Qcc:Df K "value_at" (top 39))(Qdf:Df K "value_by" (top 38))(Qcm:Df K "put_by" (top 53))(Qbq:Df K "number_below" (top 54))(AY:Df K "exprs_by" (top 51))(AK:Df K "expr_by" (top 50))(Qcg:Df K "name_by" (top 52))(B4:Df K "recipe_by" (top 49))(Qbt:Df K "read_recipe" (top 48))(Qca:Df K "recipe_or_none" (top 59))(Qcn:Df K "content_by" (top 58))(Qdg:Df K "thing_by" (top 57))(Qby:Df K "read_book" (top 56))(Qce:Df K "_law_cell_at" (top 61))(Qco:Df K "_law_draws" (top 62))(Qcx:Df K "_law_take" (top 63))(Qbv:Df K "_law_stamp" (top 64))(Qbz:Df K "_law_same" (top 65))(Qcp:Df K "_law_names" (top 66))(Qbw:Df K "_law_value" (top 67))(Qch:Df K "_law_simple" (top 68))(Qcy:Df K "_law_expr" (top 69))(Qbu:Df K "_law_recipe" (top 70))(Qcz:Df K "_law_book" (top 71))(Qbx:Df K "_law_words" (top 72))(Qcq:Df K "_law_lines" (top 73))(Qcd:Df K "_law_bad_line" (top 74))(Qda:Df K "_law_told" (top 75))(Qcr:Df K "_law_great" (top 76))(DM:Df K "law" (top 77))(ZF:Gi K C "__init__" "Words.__init__" (bH 47 0))(Gv:Gi K C "ahead" "Words.ahead" (bH 47 1))(Zt:Gi K C "take" "Words.take" (bH 47 2))(Zi:Gi K C "begin" "Words.begin" (bH 47 3))(Y9:Gi K C "finish" "Words.finish" (bH 47 4))(Qdn:Oi K N9 "abs"=some none)(Qdo:Oi K N9 "all"=some none)(Qdk:Oi K N9 "bool"=some none)(Qdl:Oi K N9 "dict"=some none)(Qdb:Oi K N9 "enumerate"=some none)(Qdp:Oi K N9 "int"=some none)(Qcs:Oi K N9 "isinstance"=some none)(Qdq:Oi K N9 "len"=some none)(Qdm:Oi K N9 "list"=some none)(Qdi:Oi K N9 "range"=some none)(Qdr:Oi K N9 "str"=some none)(Qds:Oi K N9 "sum"=some none)(Qdj:Oi K N9 "tuple"=some none)(Gg:Oi K N9 "FIGURES"=some (some (.str "0123456789" CC)))(Gf:Oi K N9 "LETTERS"=some (some (.str "abcdefghijklmnopqrstuvwxyz" Eo)))(F8:Oi K N9 "MOST_DEEP"=some (some (.int 20 C1)))(Iv:Oi K N9 "MOST_FIGURES"=some (some (.int 19 EC)))(Gy:Oi K N9 "MOST_IN_ROW"=some (some (.int 8 BR)))(GB:Oi K N9 "MOST_LETTERS"=some (some (.int 8 GE)))(BH:Oi K N9 "MOST_NAMES"=some (some (.int 40 Eu)))(Dg:Oi K N9 "MOST_PARTS"=some (some (.int 8 DH)))(Zl:Oi K N9 "MOST_PARTS_IN_ALL"=some (some (.int 60 Zm)))(Az:Oi K N9 "MOST_ROWS"=some (some (.int 4 Ca)))(EE:Oi K N9 "MOST_SIGNS"=some (some (.int 20 Ea)))(GA:Oi K N9 "MOST_VALUES"=some (some (.int 40 C4)))(GM:Oi K N9 "MOST_WANTS"=some (some (.int 12 C3)))(IC:Oi K N9 "TEXT_SIGNS"=some (some (.str "abcdefghijklmnopqrstuvwxyz0123456789-" F9)))(ZQ:Oi K N9 "RECIPES_WITHIN"=some (some (.ref Yw)))(ZR:K.lookup Yw=some YV)(ZP:oI Yw YV [("say",0),("fail",0),("want",1),("peek",1),("when",2)]=true)(J4:Oi K N9 "WITHIN"=some (some (.ref Co)))(Ai:K.lookup Co=some BE)(Cf:oI Co BE [("many",1),("part",2),("sum",2),("join",2),("same",2),("less",2)]=true)(HK:Oi K N9 "FILLED"=some (some (.ref He)))(CD:K.lookup He=some AC)(Dv:rZ AC ["put","got","row"]=true)(BU:Oi K N9 "GETTING"=some (some (.ref GJ)))(Gp:K.lookup GJ=some Ir)(Ez:rZ Ir ["want","peek"]=true)(Gz:Oi K N9 "BadWord"=some (some (.ref Yj)))(EA:Oi K N9 "BadLine"=some (some (.ref Z5)))(Jb:Oi K N9 "RedoError"=some (some (.ref XR)))(Jp:Oi K N9 "NoLine"=some (some (.ref A2)))(Cr:Oi K N9 "NoName"=some (some (.ref A3)))(BZ:Oi K N9 "NoRecipe"=some (some (.ref A4)))(Ga:Oi K N9 "NotMade"=some (some (.ref A5)))(Jd:Oi K N9 "NoValue"=some (some (.ref A6)))(D3:Oi K N9 "TooMany"=some (some (.ref A7)))(IB:Oi K N9 "ValueError"=some none)(xW:XE.XB K Yj XR "at" [])(xL0:XE.XB K Z5 XR "at" [])(n_1:XE.DU K Z5 Yj)(n_2:XE.DU K Z5 A2)(n_3:XE.DU K Z5 A3)(n_4:XE.DU K Z5 A4)(n_5:XE.DU K Z5 A5)(n_6:XE.DU K Z5 A6)(n_7:XE.DU K Z5 A7)(Zn:Gi K Yj "__init__" "BadWord.__init__" (bH 27 0))(Zo:Gi K Z5 "__init__" "BadLine.__init__" (bH 28 0))
  (hm:∀ns:List Int,ns.length<=63->∃T',lK C [.d (dh ns)] []=some (.bool true,T')) :
  ∃fd:Oe,(∀(s:NP) (v:NO),Ur s fd ⟨[v],[]⟩ [("_law_script",v)])/\∀base:Heap,K.In base->base.Ns N9 mg->Xz l.prog w K mg base Yi 95 fa fd ["_law_script"] (oh K):=by
 have B:Bi K mg C:=⟨zfu kC,Ow X G qC,rg Fs,rg C2,rg Fu,OP X G Qdn,OP X G Qdo,OP X G Qdk,OP X G Qdl,OP X G Qdb,OP X G Qdp,OP X G Qcs,OP X G Qdq,OP X G Qdm,OP X G Qdi,OP X G Qdr,OP X G Qds,OP X G Qdj,⟨_,Ow X G ZQ,tP ZR ZP⟩,⟨_,Ow X G J4,tP Ai Cf⟩,⟨_,Ow X G HK,tN CD Dv⟩,⟨_,Ow X G BU,tN Gp Ez⟩,⟨_,Ow X G Gg⟩,⟨_,Ow X G Gf⟩,⟨_,Ow X G F8⟩,⟨_,Ow X G Iv⟩,⟨_,Ow X G Gy⟩,⟨_,Ow X G GB⟩,⟨_,Ow X G BH⟩,⟨_,Ow X G Dg⟩,⟨_,Ow X G Zl⟩,⟨_,Ow X G Az⟩,⟨_,Ow X G EE⟩,⟨_,Ow X G GA⟩,⟨_,Ow X G GM⟩,⟨_,Ow X G IC⟩⟩;obtain⟨f0,oc,od,an,sl,kV,dc,pm,cd,ct,a,lk,c,kp⟩:=DM.ex;have ZS:=Ow X G Gz;have HP:=Ow X G EA;have mR:=Ow X G Jb;have m2:=Ow X G Jp;have m3:=Ow X G Cr;have m4:=Ow X G BZ;have m5:=Ow X G Ga;have m6:=Ow X G Jd;have m7:=Ow X G D3;have bV:=OP X G IB;have xL:=XE.zir xL0 n_1 n_2 n_3 n_4 n_5 n_6 n_7;have e:=hfa.symm.trans (Ow X G a);cases e;have FL:=ir (st:=top 77) lk c kp;refine⟨Pa "law" "law" (dG (top 77)) (cX (top 77)) (aI (top 77)) .none kV dc pm an cd ct,fun s v=>.of_eq rfl,fun base _ _=>?_⟩;have ZY:XE.Yp (XE.cj Cn CY) l.prog w K mg base Yj XR "at" 1:=zrm xW mR Zn;have xn:XE.Yp (XE.cj DY C5) l.prog w K mg base Z5 XR "at" 1:=zrr xL0 mR Zo;have q:=@D.fnQ l w K h mg base X G;have qm:=@D.mtQ l w K mg base;have qx:=@D.fxQ l w K h mg base X G;have qy:=@D.mxQ l w K mg base;have XU:Hu l.prog w K mg base C ["self","text"] 1 (XA K 2 (cI C)):=ZF.ini gC (fun _ _ _ _ _ _ _ h=>by obtain⟨_,_,rfl⟩:=zsi h;rfl) fun f fd F=>zox B F;have Xv:=qm Gv fun f fd F=>zoz B F;have XN:=qm Zt fun f fd F=>zpa B F;have XM:=qy Zt fun f fd F=>zrv B ZY ZS F;have XJ:=qm Zi fun f fd F=>zpb B F XN;have X9:=qy Zi fun f fd F=>zrw B ZY ZS F XM;have YB:=qm Y9 fun f fd F=>zpc B F;have YA:=qy Y9 fun f fd F=>zrx B ZY ZS F;have ya:=q Qdc fun f fd F=>zpe B F;have G9:=q Qdd fun f fd F=>zpg B F;have BJ:=q Qdh fun f fd F=>zpi B F G9;have sN:=q Qct fun f fd F=>zpk B F ya G9
 have Dz:∀n:Nat,Fn l.prog w K mg base "is_built" ["thing","rows_left"] (2+n) (XA K 2 (eA n)):=by
  intro n
  induction n with
  |zero=>exact q Qcb fun _ _ _=>eY
  |succ n ih=>exact q Qcb fun f fd F=>zpm n B F sN ih
 have Kh:=Dz 25
 have zW:∀n:Nat,Fn l.prog w K mg base "many_of" ["value"] (0+n) (XA K 1 (f9 n)):=by
  intro n
  induction n with
  |zero=>exact q Qcf fun _ _ _=>eY
  |succ n ih=>exact q Qcf fun f fd F=>zpo n B F ih
 have Kj:=zW 25;have wx:=q Qde fun f fd F=>zpq B F Kh Kj;have Jl:=q Qcj fun f fd F=>zps B F;have vN:=q Qck fun f fd F=>zpu B F G9;have sL:=q Qcu fun f fd F=>zpv B F vN;have ua:=q Qcv fun f fd F=>zpx B F sL;have tm:=q Qcw fun f fd F=>zpy B F ua
 have AI:∀n:Nat,Fn l.prog w K mg base "row_at" ["text","at","rows_left"] (5+n) (XA K 3 (ic n))/\Fn l.prog w K mg base "value_at" ["text","at","rows_left"] (5+n) (XA K 3 (df n)):=by
  intro n
  induction n with
  |zero=>exact⟨q Qcl fun _ _ _=>eY,q Qcc fun _ _ _=>eY⟩
  |succ n ih=>exact⟨q Qcl fun f fd F=>zqa n B F ih.2,q Qcc fun f fd F=>zqb n B F tm ih.1⟩
 have Qci:=(AI 25).1;have Ki:=(AI 25).2;have Dd:=q Qdf fun f fd F=>zqc B F Ki wx;have Fk:=q Qcm fun f fd F=>zqd B F Xv Dd XN;have DC:=qx Qcm fun f fd F=>zry B ZY ZS F Xv Dd XM;have Cd:=q Qbq fun f fd F=>zqe B F Xv XN;have Yu:=qx Qbq fun f fd F=>zrz B ZY ZS F Xv XM
 have Y5:∀n:Nat,Fn l.prog w K mg base "exprs_by" ["words","many","above","got"] (32+n) (XA K 4 (gG C n))/\Fn l.prog w K mg base "expr_by" ["words","above","got"] (32+n) (XA K 3 (bQ C n)):=by
  intro n
  induction n with
  |zero=>exact⟨q AY fun _ _ _=>eY,q AK fun _ _ _=>eY⟩
  |succ n ih=>exact⟨q AY fun f fd F=>zqf n B F ih.2,q AK fun f fd F=>zqg n B F Xv XJ Fk Cd ih.1⟩
 have BY:=(Y5 25).1;have Iq:=(Y5 25).2
 have ET:∀n:Nat,XO.Bx l.prog w K mg base "exprs_by" ["words","many","above","got"] (35+n) (XE.ba K 4 Yj "at" (kr C n))/\XO.Bx l.prog w K mg base "expr_by" ["words","above","got"] (35+n) (XE.ba K 3 Yj "at" (dD C n)):=by
  intro n
  induction n with
  |zero=>exact⟨qx AY fun _ _ _=>XO.qh,qx AK fun _ _ _=>XO.qh⟩
  |succ n ih=>exact⟨qx AY fun f fd F=>zsa n B ZY ZS F (Y5 n).2 ih.2,qx AK fun f fd F=>zsb n B ZY ZS F Xv XJ Fk Cd (Y5 n).1 X9 DC Yu ih.1⟩
 have Zw:=(ET 25).1;have YU:=(ET 25).2;have Gd:=q Qcg fun f fd F=>zqh B F Xv BJ XN;have ZO:=qx Qcg fun f fd F=>zsc B ZY ZS F Xv BJ XM
 have ZX:∀n:Nat,Fn l.prog w K mg base "recipe_by" ["words","above","got"] (57+n) (XA K 3 (bB C n)):=by
  intro n
  induction n with
  |zero=>exact q B4 fun _ _ _=>eY
  |succ n ih=>exact q B4 fun f fd F=>zqi n B F Xv XJ Gd Iq Jl ih
 have CZ:=ZX 25
 have CA:∀n:Nat,XO.Bx l.prog w K mg base "recipe_by" ["words","above","got"] (60+n) (XE.ba K 3 Yj "at" (cJ C n)):=by
  intro n
  induction n with
  |zero=>exact qx B4 fun _ _ _=>XO.qh
  |succ n ih=>exact qx B4 fun f fd F=>zsd n B ZY ZS F Xv XJ Gd Iq Jl (ZX n) X9 ZO YU ih
 have Yy:=CA 25;have uQ:=q Qbt fun f fd F=>zqj B F CZ YB XU;have YM:=qx Qbt fun f fd F=>zse B ZY ZS F XU CZ Yy YA;have uu:=q Qca fun f fd F=>zsg B ZY ZS F uQ YM
 have vQ:=q Qcn fun f fd F=>zqm B F Dd uu
 have Ek:=q Qdg fun f fd F=>zqn B F BJ vQ;have wu:=q Qby fun f fd F=>zqo B F Ek;have Zh:=qx Qby fun f fd F=>zsf B xn HP F Ek;have Jj:=q Qce fun f fd F=>zqq B F;have Ej:=q Qco fun f fd F=>zqr B F;have Yv:=q Qcx fun f fd F=>zqt B F
 have BG:∀n:Nat,Fn l.prog w K mg base "_law_stamp" ["_law_value_here"] (0+n) (XA K 1 (dq n)):=by
  intro n
  induction n with
  |zero=>exact q Qbv fun _ _ _=>eY
  |succ n ih=>exact q Qbv fun f fd F=>zqv n B F ih
 have Eg:=BG 25
 have Ja:∀n:Nat,Fn l.prog w K mg base "_law_same" ["_law_found","_law_due"] (0+n) (XA K 2 (br n)):=by
  intro n
  induction n with
  |zero=>exact q Qbz fun _ _ _=>eY
  |succ n ih=>exact q Qbz fun f fd F=>zqx n B F ih
 have Hl:=Ja 25;have wI:=q Qcp fun f fd F=>zqy B F Yv
 have Gx:∀n:Nat,Fn l.prog w K mg base "_law_value" ["_law_tape","_law_names_here","_law_deep"] (1+n) (XA K 3 (cQ n)):=by
  intro n
  induction n with
  |zero=>exact q Qbw fun _ _ _=>eY
  |succ n ih=>exact q Qbw fun f fd F=>zqz n B F Yv ih
 have Dh:=Gx 25;have Bb:=q Qch fun f fd F=>zrb B F Yv Dh;have vP:=q Qcy fun f fd F=>zrc B F Yv Bb
 have Bq:∀n:Nat,Fn l.prog w K mg base "_law_recipe" ["_law_tape","_law_names_here","_law_deep","_law_many","_law_peeks"] (28+n) (XA K 5 (bY n)):=by
  intro n
  induction n with
  |zero=>exact q Qbu fun _ _ _=>eY
  |succ n ih=>exact q Qbu fun f fd F=>zrd n B F Yv vP ih
 have CO:=Bq 25;have wy:=q Qcz fun f fd F=>zre B F Jj Ej Yv wI Dh CO
 have GH:∀n:Nat,Fn l.prog w K mg base "_law_words" ["_law_thing"] (25+n) (XA K 1 (cw n)):=by
  intro n
  induction n with
  |zero=>exact q Qbx fun _ _ _=>eY
  |succ n ih=>exact q Qbx fun f fd F=>zrf n B F Eg ih
 have DB:=GH 25;have tw:=q Qcq fun f fd F=>zrg B F Eg DB;have vO:=q Qcd fun f fd F=>zrh B F Yv;have Jn:=q Qda fun f fd F=>zsh B xL HP mR bV ZS m2 m3 m4 m5 m6 m7 F wu Zh;have uf:=q Qcr fun f fd F=>zri B F Yv;exact zgh (zrj B FL wy tw Jj Ej Yv vO Jn Hl uf) (zgi hm)
theorem walk{l:Qv}{XP:(Str->Option NO)->Heap->Prop}{YP:N8->Heap->Prop}{d:DefRec}{K:W2->Frag}(hn:l.most=some 63)(Eb:d.params.defaults=[])
  (hY:∀(w:N8) (h:Heap),YP w h->(K w.params).In h)
  (F:∀(w:N8) (mg:Str->Option NO) (fa:Addr) (h:Heap),(K w.params).In h->h.Ns N9 mg->mg d.name=some (.ref fa) ->
   ∃fd:Oe,(∀(s:NP) (u:NO),Ur s fd ⟨[u],[]⟩ [("_law_script",u)])/\∀base:Heap,(K w.params).In base->base.Ns N9 mg->Xz l.prog w (K w.params) mg base Yi 95 fa fd ["_law_script"] (oh (K w.params))) :
  UM q loose XP YP l.row.toRowW d [] (fun f vs=>Tq f vs):=L2.zdq (n:=63) (k:=95) (x:="_law_script") (CX:=fun _=>Yi) (sp:=fun w=>oh (K w.params)) hn (by decide) Eb ⟨rfl,by decide,by decide,rfl⟩ hY F (fun _ _ a ns hl _ hS=>⟨a,ns,rfl,hS,hl,fun _=>rfl⟩) fun _ _ _ _ _ z=>z
open PySem PySem.Spec PySem.Calls PySem.W PyProof.Rows PySem.W.X PySem.W.ZRun
theorem walkZ{q:NU}{loose:List Str}{XP:(Str->Option NO)->Heap->Prop}{K:W2->Frag}{r:RowW}{d:DefRec}{kwd:List (Str×Expr)}
  {w:N8}{s₀ s₁:NP}{mg mb:Str->Option NO}{a:Addr}{o:Obj}{pm cd doc dV kV:NO}{args:List WData}{vals:List NO}{as:List Addr}
  (KX:(K w.params).In s₁.heap) (GR:Ground q loose r.records XP w s₀ mg mb s₁.heap) (ho:s₁.heap.get? a=some o)
  (hd:o.data=.func { docDef d.name d.params d.body d.scope pm cd doc with defaults:=dV,kwdefaults:=kV }) (hcd:s₁.heap.CodeRec cd d.name) (hD:Dflts mg s₁.heap d.params kwd dV kV) (hmg:mg d.name=some (.ref a)) (hg:s₁.gens = #[])
  (hpre:r.claim.pre args=true) (hlay:WData.layableAll args=true) (hrd:ReadsAllW r.records (classAt s₀.heap) s₁.heap vals args as) (hwl:WellAll w.params s₁.heap vals args) (hlo:∀a∈as,(a == Qn)=false)
  (W:UM q loose XP (fun w h=>(K w.params).In h) r d kwd fun f vs=>Tq f vs) :
  Oy (Os r.prog w) To (Tq (.ref a) vals) (fun v s'=>GoodWG r.claim (classAt s₀.heap) (WO s₀.heap) args s₁ (.ok (.ret v)) s')
    (fun e s'=>GoodWG r.claim (classAt s₀.heap) (WO s₀.heap) args s₁ (.error e) s') s₁:=W w s₀ s₁ mg mb GR KX a o pm cd doc dV kV ho hd hcd hD hmg hg args vals as hpre hlay hrd hwl hlo
end G
end Internal
namespace PySem.W.Fast
def tw13034481319070372405:=Nat
def tw4066799301797714282:=Nat
def tw4245691458997751143:=Nat
def tw15384999192273662455:=Nat
def tw14339305591852186236:=Nat
def tw5020475739779347093:=Nat
def tw15001671919243053365:=Nat
def tw8711773822698031034:=Nat
def tw12798711656721317936:=Nat
def tw13288777737836145951:=Nat
def tw7541503500482075305:=Nat
def tw4452682491168236480:=Nat
def tw4637126327341901153:=Nat
def tw3160058596233177449:=Nat
def tw2353795220816439372:=Nat
def tw1007371875423288969:=Nat
def tw5667955362589063856:=Nat
def tw5161018780984491073:=Nat
def tw13190528031670796033:=Nat
def tw8626821807623743603:=Nat
def tw8626528291382403496:=Nat
def tw3860026140720196902:=Nat
def tw12246010565902847290:=Nat
def tw4870700069384801886:=Nat
def tw9596177099314510072:=Nat
def tw16017676703756414097:=Nat
def tw16684692667733790690:=Nat
def tw8674190630133097086:=Nat
def tw10045205719399347318:=Nat
def tw11410804390181465614:=Nat
def tw13439903074369509847:=Nat
def tw8580029799932798497:=Nat
def tw14003471962069445191:=Nat
def tw15221868567889050128:=Nat
def tw11168941957537548228:=Nat
def tw6927079488693822849:=Nat
def tw16442952884101277046:=Nat
def tw835569649248938104:=Nat
def tw3040469534656287363:=Nat
def tw3145972931082414327:=Nat
def tw18175961758497169131:=Nat
def tw16338516552827903548:=Nat
def tw4643077677332423166:=Nat
def tw15711256654043637018:=Nat
def tw1499516758915319944:=Nat
def tw10248449329671686388:=Nat
def tw15900865455273860157:=Nat
def tw8069531579273336275:=Nat
def tw3253309138156333059:=Nat
def tw3661526981637513686:=Nat
def tw7814984480388612740:=Nat
def tw1541553144051200646:=Nat
def tw5387769331512465016:=Nat
def tw5215909682332304171:=Nat
def tw5580658638820012384:=Nat
def tw2173572622198267981:=Nat
def tw15224281878217015316:=Nat
def tw11543071673778137804:=Nat
def tw4856190977371251330:=Nat
def tw17835560115033162153:=Nat
def tw5500825649619101612:=Nat
def tw14854598363498987052:=Nat
def tw11273457968238136812:=Nat
def tw10573441084958812363:=Nat
def tw7101351794761069086:=Nat
def tw17005716872128539728:=Nat
def tw9012469988555771205:=Nat
def tw6696742948261405145:=Nat
def tw4910896802862547307:=Nat
def tw11548984776700840179:=Nat
def tw15113940397675436490:=Nat
def tw14469757013616495472:=Nat
def tw14371768399621546454:=Nat
def tw3309023860793421258:=Nat
def tw18315654432612419405:=Nat
def tw9335629764644744707:=Nat
def tw7171954696879442983:=Nat
def tw5097831078405812573:=Nat
def tw8230044552823128610:=Nat
def tw787567654085856811:=Nat
def tw6430350476895210192:=Nat
def tw8132690561281266410:=Nat
def tw11282287177362566843:=Nat
def tw9227032983678768449:=Nat
def tw6257859079187439989:=Nat
def tw5233397323817251367:=Nat
def tw6797465594207041758:=Nat
def tw6620488516030415561:=Nat
def tw12986769762372669272:=Nat
def tw17552452196594127979:=Nat
def tw6747570083297235604:=Nat
def tw5376738025864217346:=Nat
def tw10390481118035711409:=Nat
def tw839572564071858377:=Nat
def tw14770423336398879932:=Nat
def tw16710706542144649234:=Nat
def tw15823735704261299395:=Nat
def tw702469902925590911:=Nat
def tw1252097329475862369:=Nat
def tw17500932590508789522:=Nat
def tw301944030154833375:=Nat
def tw3357588383213060234:=Nat
def tw7853701833049767584:=Nat
def tw12918859769358189533:=Nat
def tw2167742369876937268:=Nat
def tw8190886885828576010:=Nat
def tw12355618868715027914:=Nat
def tw13030611709675815937:=Nat
def tw6013120767677708293:=Nat
def tw5344715919044268511:=Nat
def tw14877503888224701212:=Nat
def tw8115487552967831539:=Nat
def tw3542974750828844566:=Nat
def tw14119458544038301026:=Nat
def tw11522730727149888733:=Nat
def tw2334300044668540132:=Nat
def tw15884778022600964245:=Nat
def tw131552790681906355:=Nat
def tw3826183224128241510:=Nat
def tw17465899822735024411:=Nat
def tw11957147606033487399:=Nat
def tw15406432055384781064:=Nat
def tw3491466836004202189:=Nat
def tw2426428849899293061:=Nat
def tw8195307815512388907:=Nat
def tw11601991194708010482:=Nat
def tw15895660963751620213:=Nat
def tw3774416376010549257:=Nat
def tw6542304293899602503:=Nat
def tw12058057672148744066:=Nat
def tw4972098432839803288:=Nat
def tw3096996119314125001:=Nat
def tw16543187428385295293:=Nat
def tw17536297197835743436:=Nat
def tw13342750802030393915:=Nat
def tw13720169266836511875:=Nat
def tw18088386505901219317:=Nat
def tw14875340515667569363:=Nat
def tw15812602552686682548:=Nat
def tw16372865986580934366:=Nat
def tw8331530144455577712:=Nat
def tw10882747382274903186:=Nat
def tw12789194807565612484:=Nat
def tw5198377974364361227:=Nat
def tw7990459267429906222:=Nat
def tw14593084340359485675:=Nat
def tw1207720192263023691:=Nat
def tw1076503156913997044:=Nat
def tw5723487730643516543:=Nat
def tw5014350770497377996:=Nat
def tw9137178135743138768:=Nat
def tw11585394322978227362:=Nat
def tw9483849971185893865:=Nat
def tw9516157944326079592:=Nat
def tw14346330536175643982:=Nat
def tw100816684405559145:=Nat
def tw14669894953945307583:=Nat
def tw3652871070336056005:=Nat
def tw11508663435738479744:=Nat
def tw8881404599626413513:=Nat
def tw16145827523331471856:=Nat
def tw8530476830336417908:=Nat
def tw3774165452239381026:=Nat
def tw12959768145902555057:=Nat
def tw10733586241836735201:=Nat
def tw2747469563211860836:=Nat
def tw16054476619077089141:=Nat
def tw15102145293284041025:=Nat
def tw17468008743289355892:=Nat
def tw6835739396300693025:=Nat
def tw13848799956757316994:=Nat
def tw17530897590985343785:=Nat
def tw16005997799804342035:=Nat
def tw16224722180902682025:=Nat
def tw9964644728528809997:=Nat
def tw17820951073830706597:=Nat
def tw4380303382153510984:=Nat
def tw6125945627809455912:=Nat
def tw18294286509639930769:=Nat
def tw5705641944391746175:=Nat
def tw5537127457435113696:=Nat
def tw17718569539341623885:=Nat
def tw17796057997684060273:=Nat
def tw5437422088761426876:=Nat
def tw18139088095378648116:=Nat
def tw6657770927395409227:=Nat
def tw15706585207526091002:=Nat
def tw18208251852730991448:=Nat
def tw1753299197726852180:=Nat
def tw10353840115039268743:=Nat
def tw814117792966028278:=Nat
def tw7926509940760521808:=Nat
def tw3179527528617858760:=Nat
def tw1844597050762465213:=Nat
def tw13775888209566217488:=Nat
def tw4836979459162208987:=Nat
def tw9511006192409171521:=Nat
def tw15697523490479403999:=Nat
def tw4894451284576614668:=Nat
def tw16367186643755215548:=Nat
def tw12020563990704253619:=Nat
def tw17242324016832771757:=Nat
def tw12374198674458851898:=Nat
def tw12708106157803021054:=Nat
def tw13068008019929843648:=Nat
def tw4602382035358069948:=Nat
def tw4614332285894395533:=Nat
def tw16347533857895322335:=Nat
def tw14653900884049637063:=Nat
def tw17541377712743234533:=Nat
def tw11332448947640512331:=Nat
def tw15549007785521222458:=Nat
def tw4484563947481293411:=Nat
def tw8150592093161742830:=Nat
def tw11283859646086318213:=Nat
def tw12339952926689317348:=Nat
def tw9102117178708832539:=Nat
def tw1092436673554181843:=Nat
def tw6488048552054537830:=Nat
def tw15327363313199415670:=Nat
def tw1345122055265008158:=Nat
def tw2535957542260848237:=Nat
def tw16324592697775747940:=Nat
def tw3581742550654090170:=Nat
def tw9040701569942505033:=Nat
def tw4228804706507756196:=Nat
def tw6803774096676461760:=Nat
def tw7739465252730512342:=Nat
def tw10197534776879316571:=Nat
def tw11631667712328118292:=Nat
def tw14882662834422478894:=Nat
def tw7430360310282276671:=Nat
def tw16294664886302331476:=Nat
def tw323901156465496391:=Nat
def tw14959472246527385218:=Nat
def tw10568381708152327414:=Nat
def tw10301574597537950985:=Nat
def tw11798782251063027846:=Nat
def tw13285441276585942586:=Nat
def tw16277492965353781894:=Nat
def tw15995941065989816023:=Nat
def tw2822212178850601987:=Nat
def tw5700588219736888373:=Nat
def tw3139067841918776884:=Nat
def tw14833721221475059961:=Nat
def tw12572080183198238696:=Nat
def tw10258993526327319320:=Nat
def tw12539774853872615192:=Nat
def tw12989938677831451061:=Nat
def tw9580636351013458392:=Nat
def tw2708731776325735197:=Nat
def tw11453344707965152702:=Nat
def tw2960593963581016660:=Nat
def tw5627354739915724358:=Nat
def tw5772249152263994965:=Nat
def tw7498363432407324977:=Nat
def tw18137725501415209071:=Nat
def tw3789121819712450581:=Nat
def tw8826226562152326483:=Nat
def tw5877928087445504457:=Nat
def tw2523617488225917869:=Nat
def tw14380558823909413905:=Nat
def tw17023552580758018500:=Nat
def tw15057561537755705107:=Nat
def tw2221350993945480978:=Nat
def tw7019842764046241490:=Nat
def tw5956283941457111144:=Nat
def tw14573277237572546382:=Nat
def tw6696525883608902322:=Nat
def tw18265134265789016389:=Nat
def tw16503535432393102115:=Nat
def tw6627425434519621577:=Nat
def tw1683592530877060837:=Nat
end PySem.W.Fast
noncomputable def PySem.W.Fast.tw8079344699581740971 : PySem.Program := PySem.Challenge.pw_redo_k21_lines_that_write_no_book
theorem PySem.W.Fast.te8079344699581740971 : PySem.Challenge.pw_redo_k21_lines_that_write_no_book = PySem.W.Fast.tw8079344699581740971 := rfl

open Internal
open PySem PySem.W PyProof.Rows PySem.W.X PySem.W.ZRun
set_option maxRecDepth 100000 in
set_option maxHeartbeats 0 in
theorem PySem.Challenge.cw_redo_k21_lines_that_write_no_book_holds : PySem.Challenge.rw_redo_k21_lines_that_write_no_book.Holds := by
 w_on; o_law; z_head; (case hw=>w_witness2)
 k_fill
 intro w s₀ s₁ mg mb GR y fa o pm cd doc dV kV ho hd hcd hD hmg hg args vals as L hpre hlay hrd hwl hlo
 z_open y L KX ZH ZN ZT
 clear ZH ZN ZT
 refine G.walkZ KX GR ho hd hcd hD hmg hg hpre hlay hrd hwl hlo ?W
 clear KX GR ho hd hcd hD hmg hg hpre hlay hrd hwl hlo L y
 refine G.walk (l:=PySem.Challenge.rw_redo_k21_lines_that_write_no_book) rfl rfl (fun w h Y=>Y) ?F
 case F=>
  intro w mg fa h KX GG hmg
  refine' G.all_mk KX GG hmg ?_ ?_ ?_ ?_ ?_ ?_ ?_ ?_ ?_ ?_ ?_ ?_ ?_ ?_ ?_ ?_ ?_ ?_ ?_ ?_ ?_ ?_ ?_ ?_ ?_ ?_ ?_ ?_ ?_ ?_ ?_ ?_ ?_ ?_ ?_ ?_ ?_ ?_ ?_ ?_ ?_ ?_ ?_ ?_ ?_ ?_ ?_ ?_ ?_ ?_ ?_ ?_ ?_ ?_ ?_ ?_ ?_ ?_ ?_ ?_ ?_ ?_ ?_ ?_ ?_ ?_ ?_ ?_ ?_ ?_ ?_ ?_ ?_ ?_ ?_ ?_ ?_ ?_ ?_ ?_ ?_ ?_ ?_ ?_ ?_ ?_ ?_ ?_ ?_ ?_ ?_ ?_ ?_ ?_ ?_ ?_ ?_ ?_ ?_ ?_ ?_ ?_ ?_ ?_ ?_ ?_ ?_ ?_ ?_ ?_ ?_ ?_ ?_ ?_ (fun ns h=>G.Dy _ ns h)
  any_goals first | (refine' XE.F4 ?e1 ?e2 ?e3 ?e4 ?e5 ?e6 ?e7 ?e8 ?e9 ?e10 ?e11 ?e12 ?e13 ?e14 ?e15 ?e16 ?e17 ?e18 ?e19 ?e20; (case e1=>k_is); (case e2=>k_is); (case e3=>k_is); (case e4=>k_is); (case e5=>k_is); (case e6=>k_is); (case e7=>k_is); (case e8=>k_is); (case e9=>k_is); (case e10=>k_is); (case e11=>k_is); (case e12=>k_is); (case e13=>k_is); (case e14=>k_is); (case e15=>k_is); (case e16=>k_is); (case e17=>k_is); (case e18=>k_is); (case e19=>rfl); (case e20=>rfl)) | (refine' XE.GT ?e1 ?e2 ?e3 ?e4; (case e1=>k_is); (case e2=>k_is); (case e3=>k_is); (case e4=>rfl)) | (refine' D.Jc ?a ?l ?c ?k; (case a=>k_is); (case l=>k_is); (case c=>k_is); (case k=>k_is)) | (refine' D.Hm ?a ?l ?c ?k ?n; (case a=>k_is); (case l=>k_is); (case c=>k_is); (case k=>k_is); (case n=>k_is)) | k_is
  all_goals first | rfl | decide +kernel
