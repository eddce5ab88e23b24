import PyProof.Rows.All
import Wide.All
import OpenK.AllK
import Wide.FinOn
import Lean
import PyProof.EqAt
import PyProof.EqKinds
import PyProof.TupleCall
import PySem.Challenge.RW_redo_k29_what_a_paper_tells
noncomputable section
open PySem.W (Frag)
set_option Elab.async false
set_option linter.all false
set_option maxRecDepth 100000
set_option compiler.extract_closed false
set_option bootstrap.genMatcherCode false
open PySem renaming PyData->Mo,Value->Mp,Shared->Ms,wpAny_bind->Mu,starEach->Mw,sizeLine->Mz,Program->MA,wpAny_pure->MI,World->ML,FuncData->MS,mainGlobals->MT,wpAny->MU,model->MW,compareOp->M7,Around->Nb,wpAny_loadPart_at->Ng,boot_len->Nu,backTo->Nv,attributeBase->NA,foldedSetIterable->NI,wpAny_passesOwn->NL,wpAny_newObj_type->NR,swapsWith->NX,wpAny_truthy_bool->N0,Keyword->N1,sysModules->N8,binaryOp->N9,keywordEach->Oa,wpAny_holding->Ob,wpAny_mono->Oc,wpAny_execs_nil->Ov,bootBuiltins->OA,behindInMarks->OS,mem_of_lookup->OW,wpAny_isSubtype_exc->OX,NameKind->OZ,backToKw->O5,Scope->O9,wpAny_Call_Name_kw->Pe,wpAny_pyIter_list->Pq,codeAny_call_builtin->Px,wpAny_execs_cons->PB,Builtin->PF,assignEach->P0,tupleKind_room_in1->P2,wpAny_field->P7,sliceBounds->P8,wpAny_Call_method_late->Qi,typeIs_str->Qu,call_meets->Qv,strLen_append->Qz,reprText->QD,unbindBehindTheSuite->QE,letOwnedTupleGo->QG,codeAny_builtin->QJ,codeAny_mono->QO,wpAny_typeOf->QP,Paired->QX,wpAny_assign_Name->Rf,holding->Rh,getItem->Ri,valueAt->Rj,assign->Rm,wpAny_standAt->Rn,wpAny_comprehension_free->Ro,PassesOwn->Rq,noFill_tuple_add->Rt,wpAny_callSpecial?_slot->Ru,wpAny_call_entry->Rv,wpAny_pyNext_list_item->RG,codeAny->RI,wpAny_call->RJ,concat_meets->RM,IsPart->RN,callerA->RR,call->RT,codeAny_compStart_list->RU,wpAny_storeName_local->R6,wpAny_pyNext_list_end->R7,wpAny_isTrue_Compare1->R8,rawInt->Sd,sizeLine_eq->Se,compEnvC->Sf,wpAny_newFunctionEnv->Sg,intText?->Sl,wpAny_setField->Sq,tupleKind->Sx,BindsTo->Sy,relabel->Sz,codeAny_forLoop_any->SD,swapsWithSole->SN,swappedStores->SO,seq_tuple_add->SQ,wpAny_Constant_int->SX,typeLookup->S3,getattributeRaised->S7,GenState->Tc,wpAny_sequenceKey->Ti,seqIndex_neg->Tj,slot_list_getitem->Tn,ReadsAll->Tq,wpAny_pyHash_int->Tv,wpAny_pyHash_str->Tw,wpAny_eqBool_int->Tx,wpAny_eqBool_str->Tz,seqSlot_of->TU,reduceHash->TX,checkBuiltinCall->TZ,noteFrame->T7,CmpOp->Ue,seqIndex_of->Ug,subscripted->Uh,atKey->Ui,slicePicked->Uj,excClassObj->Uk,am_miss_of_fast->Ur,standAt->Us,builtinsNs->Uv,isTrue->Uw,wpAny_Name->Ux,wpAny_load->Uy,Result->Uz,bindL->UA,bindC->UB,typeIs_int->UC,PlainAttrs->UD,wpAny_rule->UG,getAttr?->UH,isInstance->UI,KeyKind->UZ,Model->Vi,again->Vk,cLine->Vl,cellsFrom->Vm,DictEntry->Vn,Reads->Vo,strValues->Vp,getMethod->Vq,Within->Vr,setItem->Vt,merged->Vx,Params->Vy,notedBy->Vz
open List renaming mem_cons_self->Mq,mem_cons_of_mem->Mr,getElem?_eq_some_iff->My,getElem?_set_ne->MD,mem_cons->MG,size_toArray->MH,mem_map->MJ,all_eq_true->MM,mem_append->MN,getElem?_set_self->MQ,mem_singleton->MR,replicate->MX,length_cons->MY,mem_append_right->M3,getElem?_append_left->M4,map_cons->M5,length_append->Na,nodup_cons->Nc,length_map->Nd,map_congr_left->Ni,mem_of_getElem?->Nj,getElem?_map->Nq,mem_filter->Nx,take_of_length_le->Nz,getElem?_eq_getElem->NB,length_drop->NG,map_map->NJ,mem_append_left->NS,map_append->NV,range->NZ,find?_cons->N5,drop_eq_nil_of_le->Of,reverse_cons->Og,replicate_succ->Oh,pairwise_cons->Ol,filterMap_cons->Oy,any_cons->OD,sum_cons->OE,lookup_cons->OF,tail_suffix->OG,length_filter_le->OI,append_nil->OL,length_nil->OM,flatten_cons->OO,append_assoc->OP,nodup_append->OQ,length_take->O0,nil_append->Pj,all_cons->Pn,mem_of_mem_take->Pz,drop_eq_getElem_cons->PM,mem_range->Qb,nodup_nil->Qn,countP_le_length->Qs,any_eq_true->Qw,cons_append->Qx,countP_cons->Qy,length->QA,filter_map->QL,getElem?_append_right->Q4,foldl->Q7,mem_take_iff_getElem->Rc,take_add_one->Rk,filter_cons->RC,suffix_iff_eq_drop->RD,map_nil->RQ,of_mem_zip->RX,getElem?_eq_none->R9,takeWhile_prefix->Sb,dropLast_concat->Su,set->Sw,getD->SA,mem_filterMap->SY,filterMap_map->SZ,take_sublist->Th,getElem_mem->TR,length_tail->Ub,take_nil->Vf,map_take->Vg,all_map->VA,lookup->VI,range'->VL
open PySem.Heap renaming get?_push_of_some->Mt,lt_size->MB,get?_push_size->MZ,get?_update_other->M8,get?_update_self->N3,get?_none_of_le->ON,get?_push_at->Pr,size_push->Pu,SameBut->Qc,get?_some_iff->Ra,get?_update_ne->SL
open PySem.Str renaming ofString->Mv,join->Qm,length->S4,empty->TJ
open Bool renaming and_eq_true->Mx,false_ne_true->MF,eq_iff_iff->Oi,false_eq_true->Pf
open Nat renaming le_refl->MC,lt_of_lt_of_le->ME,ne_of_lt->MO,le_trans->MP,lt_of_le_of_lt->NK,lt_irrefl->NM,not_lt_zero->N7,zero_le->Oj,le_of_lt->Pc,min_eq_left->Pm,ne_of_gt->PC,min_eq_right->PH,lt_succ_of_lt->Qk,le_succ->QC,lt_trans->QQ,toDigits->QS,lt_succ_self->Rx,mul_le_mul->Si,log2_lt->Ss,le_of_eq->To,zero_add->Tr,le_total->Ts,min_le_right->TN
open PySem.Value renaming ref->MK,none->NY,type->Pb,str->P5,int->QT,bool->QW,float->Ud,isStrOf->UY,isInt->VD,bytes->VE
open PySem.W renaming findIn->MV,nsIn->M6,kitOne->Nf,mg_none_of->Nh,kia_one->Np,keepIn->Ny,mg_of->NC,looks_findIn->NT,fnOf->Od,kia_tup->Ox,mroIn->OC,ownIn->OU,InstAt->OY,codeIn->O4,isFn->Pd,isClsIn->Pk,subIn->Po,specialIn->Pp,kitAny->Pw,clsIn->PU,readsIn->PV,hasDictIn->Qd,kitx_list->Qe,kitx_dict->Qf,typeIn->Qo,takesIn->QH,findCls->QK,lookIn->QZ,kitx_tuple->Q0,callWith_K->Q3,methodObj->Re,cellsFrom_some->RL,instObj->RW,OpenLaw->RY,findObj->R4,nsOkIn->So,handedOut_of->Sr,WalkO->SU,looks_find->S9,kitx_none->Td,kitx_bool->Te,handedIn->TF,plainGet->TH,kitx_int->TK,kitx_str->TL,kdl_dict->TV,kitMeta->Uq,kitCls->UJ
open Option renaming map_eq_some_iff->M9,isSome_iff_exists->On,isSome_map->Qj,getD_none->Rw,map_some->R3,isSome_some->S6,map->VP
open PySem.PyData renaming str->Nk,eqv->NQ,canLay0->Os,eqvAll->OV,weightAll->O8,list->Pa,int->Pv,strOk->PJ,tuple->PK,depthAll->PX,depth->Qq,canLayAll0->Rl,leavesShortAll->Sa,none->Sj,bool->Sk,weight->SW,showableAll->Ta
open PySem.Builtin.Str renaming occurrences->Nl,strSliceIndices->ND,partsBetween->Oo,strKind->SK,subAt->Tu
open Option.some renaming inj->Nm
open Sum renaming inr->Nr,inl->RF
open PySem.SeqAt renaming shaped->Nt,canLay_of_shaped->RV,notIn_listAt->S5,EqAt->VN
open PyProof.Rows renaming boot_tuple->Nw,slot_tuple_getitem->NE,boot_isinstance->N6,boot_int->Oz,envOfC->P1,boot_list->Qa,kindOf->Qt,boot_str->QF,AllBare->QM,callWith_type1->QN,boot_bool->RE,subscriptTail_builtinR->RO,signs_ofString->Sv,entry_tuple_getitem->SE,tupleItemsOf_->SR,subscriptTail->SS,args_tuple_getitem->S0,IsTup->Tb,isTrue_or->TC,callWith_builtin1->TM,boot_dict->TY,IntsAre->Ut,boot_all->UM,seqObj->VB
open False renaming elim->NF
open PySem.Txt renaming slice->NH,replace->NO,startswith->Oq,split->O7,mul->PD,slice_le->VC
open Array renaming length_toList->NN,getElem?_eq_some_iff->OH,all_toList->T8,toList_inj->T9,toList->Vs
open Or renaming inr->NP,inl->Oe
open PySem.NameKind renaming free->NU,cell->Vc
open PySem.NumText renaming digitsVal->N2,AllDigits->Qp
open PySem.Builtin.Tuple renaming tupleExact->N4,tupleItemsOf->Q6,tupleTooMany->Q8,tupleIsExact->UF
open PySem.Paired renaming length->Om,snoc->VH
open Ne renaming symm->Ot
open Classical renaming propDecidable->Ou
open True renaming intro->Ow
open PySem.Calls renaming callWith_builtin->OB,evalArgs_plain->Pt,Constant_str->PZ,Name_function_global->QY,spliced_cons->Q2,spliced_nil->Tg
open PySem.Builtin.Slice renaming slicePlaces->OJ,sliceAdjust->PL,sliceApplied->Q5,slicePartIndex->Ul,sliceFields->UX
open Int renaming le_refl->OR,emod_lt_of_pos->Pi,emod_nonneg->PY,natCast_nonneg->P4,toNat_natCast->Qh,eq_ofNat_of_zero_le->RB,natCast_add->R5,ofNat_le->Tt,max_eq_right->Ua,not_lt->UK,ediv_one->Vv
open PySem.F renaming slot_list_getattribute->OT,plainAttrs_list->O6,plainAttrs_str->Pg,slot_str_split->Ph,excAttr_ValueError->Py,args_tuple_add_2->PN,slot_list_append->PP,type_list_append->PQ,args_str_split_2->PR,entry_tuple_add->P6,entry_str_split->P9,slot_tuple_add->Qg,slot_tuple_mul->Ql,slot_str_startswith->QR,excBase_ValueError->Q9,slot_tuple_rmul->Ry,plain_list_iadd->RA,slot_int_rmul->Up
open PySem.Code renaming quiet_builtin->P3,isFrame->Tf,isGuard->Vu,frames->VG
open PySem.Obj renaming isFreed_of_fields->Qr,mapFields->Rp,mapSeq->RP,data_mapFields->S8
open PySem.Spec renaming ltCps->QB
open ForInStep renaming yield->QI
open PySem.SeqAt.EqAt renaming int_str->QU,str_int->QV,none_int->SG,none_str->SH,int_none->SI,str_none->SJ,same->Um
open PySem.Builtin.ObjectAttr renaming bindTo->Rb
open PySem.Builtin.Dict renaming updateFrom->Rz,addKeywords->Vd,selfAndRest->Ve
open PySem.Around renaming under->RH,under_plainId->Sn,in1->VQ
open PySem.PassesOwn renaming never->RZ
open PySem.EntryCells renaming newEntry->SM
open PyProof.Rows.IsTup renaming new->TQ
open Sum.inr renaming inj->Uc
open PySem.Heap.DictOf renaming new->Uo
open PySem.Builtin.List renaming listExtendWith->Uu
open PySem.Walks renaming dictKeys->UE,list->VO
open Char renaming toNat->UL
open PySem.EqNone renaming eq_none_none->UN,eq_none_bool->UO,eq_bool_none->UP,ne_none_none->US,ne_none_bool->UT,ne_bool_none->UU,eq_none_int->U0,eq_none_str->U1,eq_int_none->U2,eq_str_none->U4,ne_none_int->U6,ne_none_str->U7,ne_int_none->U8,ne_str_none->Va
open PySem.EqMixed renaming eq_bool_str->UQ,eq_str_bool->UR,ne_bool_str->UV,ne_str_bool->UW,eq_int_str->U3,eq_str_int->U5,ne_int_str->U9,ne_str_int->Vb
open PySem.ExcName renaming means->Vh
open PySem.Builtin.Range renaming rangeSize->Vj
open PySem.Data renaming fields->VF
open List.Pairwise renaming filter->VJ,nil->VR,imp->VU
open PySem.Heap.IsSliceOf renaming new->VM
open PySem.Heap.SameBut renaming refl->VT
open PySem PySem.Spec PyProof.Rows
namespace Internal
namespace L2
abbrev Key:=Sum Int Str
def eM:Key->Mp->Bool
 |.inl k,v=>VD k v
 |.inr x,v=>UY x v
def xI(w:ML):Key->Int
 |.inl k=>hashInt k
 |.inr x=>hashStr w x
theorem dZ:∀{k:Key}{v:Mp},eM k v=true->(∃i t,k=RF i/\v=QT i t)\/(∃x t,k=Nr x/\v=P5 x t)
 |.inl i,v,h=>by
  obtain⟨t,e⟩:=Value.isInt_shape (k:=i) (v:=v) h;exact .inl ⟨i,t,rfl,e⟩
 |.inr x,v,h=>by
  obtain⟨t,e⟩:=Value.isStrOf_shape (x:=x) (v:=v) h;exact .inr ⟨x,t,rfl,e⟩
theorem AC(i:Int)(t:Tok):eM (.inl i) (.int i t)=true:=by simp[eM,VD]
theorem AB(x:Str)(t:Tok):eM (.inr x) (.str x t)=true:=by simp[eM,UY]
theorem vP(a b:Int):decide ((RF a:Key)=RF b)=(a == b):=by
 by_cases e:a=b
 .subst e;simp
 .have h:¬(RF a:Key)=RF b:=fun q=>e (Sum.inl.inj q)
  rw[decide_eq_false h];exact(beq_eq_false_iff_ne.mpr e).symm
theorem vM(a b:Str):decide ((Nr a:Key)=Nr b)=decide (a=b):=by
 by_cases e:a=b
 .subst e;simp
 .have h:¬(Nr a:Key)=Nr b:=fun q=>e (Uc q)
  rw[decide_eq_false h,decide_eq_false e]
theorem vO(a:Int)(b:Str):decide ((RF a:Key)=Nr b)=false:=decide_eq_false (fun q=>nomatch q)
theorem vN(a:Str)(b:Int):decide ((Nr a:Key)=RF b)=false:=decide_eq_false (fun q=>nomatch q)
def bQ(prog:MA)(w:ML):UZ prog w Key where
 is:=eM
 hash:=xI w
 inj:=fun v a b ha hb=>by
  rcases dZ ha with⟨i,t,rfl,rfl⟩|⟨x,t,rfl,rfl⟩
  .rcases dZ hb with⟨j,u,rfl,e⟩|⟨y,u,rfl,e⟩
   .injection e with e1 _;rw[e1]
   .exact nomatch e
  .rcases dZ hb with⟨j,u,rfl,e⟩|⟨y,u,rfl,e⟩
   .exact nomatch e
   .injection e with e1 _;rw[e1]
 byValue:=fun k v h=>by
  rcases dZ h with⟨i,t,rfl,rfl⟩|⟨x,t,rfl,rfl⟩ <;> rfl
 pyHash:=fun hv h=>by
  rcases dZ hv with⟨i,t,rfl,rfl⟩|⟨x,t,rfl,rfl⟩
  .exact Tv h
  .exact Tw h
 eqBool:=fun hu hv h=>by
  rcases dZ hu with⟨i,t,rfl,rfl⟩|⟨x,t,rfl,rfl⟩
  .rcases dZ hv with⟨j,u,rfl,rfl⟩|⟨y,u,rfl,rfl⟩
   .rw[vP] at h;exact Tx h
   .rw[vO] at h;exact QU i t y u _ _ _ _ h
  .rcases dZ hv with⟨j,u,rfl,rfl⟩|⟨y,u,rfl,rfl⟩
   .rw[vN] at h;exact QV x t j u _ _ _ _ h
   .rw[vM] at h;exact Tz h
 «strs»:=fun k x t v h=>by
  rcases dZ h with⟨i,u,rfl,e⟩|⟨y,u,rfl,e⟩
  .exact nomatch e
  .injection e with e1 _
   subst e1
   cases v <;> rfl
theorem zx(prog:MA)(w:ML)(i:Int)(t:Tok):(bQ prog w).is (.inl i) (.int i t)=true:=AC i t
theorem zw(prog:MA)(w:ML)(x:Str)(t:Tok):(bQ prog w).is (.inr x) (.str x t)=true:=AB x t
inductive V where
 |non|bl (b:Bool)|int (i:Int)|str (x:Str)|byt (b:Array UInt8)|flt (b:UInt64)|ref (a:Addr)|ty (n:String)
 deriving DecidableEq
def RelV:V->Mp->Prop
 |.non,u=>u=NY
 |.bl b,u=>u=QW b
 |.int i,u=>∃t,u=QT i t
 |.str x,u=>∃t,u=P5 x t
 |.byt b,u=>∃t,u=VE b t
 |.flt b,u=>∃t,u=Ud b t
 |.ref a,u=>u=MK a
 |.ty n,u=>u=Pb n
abbrev Vals:List V->List Mp->Prop:=QX RelV
theorem Vals.length(r:Vals xs us):xs.length=us.length:=Om r
theorem Vals.get:∀{xs:List V}{us:List Mp}{i:Nat}{x:V},Vals xs us->xs[i]? = some x->∃u,us[i]? = some u/\RelV x u
 |_,_,_,_,.nil,e=>by simp at e
 |_,_,0,_,.cons r _,e=>by simp at e;subst e;exact⟨_,rfl,r⟩
 |_,_,i+1,x,.cons _ t,e=>by
  obtain⟨u,h1,h2⟩:=Vals.get (i:=i) (x:=x) t (by simpa using e);exact⟨u,by simpa using h1,h2⟩
theorem Vals.set(r:RelV x u):∀{xs:List V}{us:List Mp} (i:Nat),Vals xs us->Vals (xs.set i x) (us.set i u)
 |_,_,_,.nil=>.nil
 |_,_,0,.cons _ t=>.cons r t
 |_,_,i+1,.cons q t=>.cons q (Vals.set r i t)
theorem Vals.append:∀{xs ys:List V}{us ws:List Mp},Vals xs us->Vals ys ws->Vals (xs++ys) (us++ws)
 |_,_,_,_,.nil,s=>s
 |_,_,_,_,.cons r t,s=>.cons r (Vals.append t s)
theorem Vals.take:∀{xs:List V}{us:List Mp} (n:Nat),Vals xs us->Vals (xs.take n) (us.take n)
 |_,_,0,_=>.nil
 |_,_,_+1,.nil=>.nil
 |_,_,n+1,.cons r t=>.cons r (Vals.take n t)
theorem Vals.drop:∀{xs:List V}{us:List Mp} (n:Nat),Vals xs us->Vals (xs.drop n) (us.drop n)
 |_,_,0,r=>r
 |_,_,_+1,.nil=>.nil
 |_,_,n+1,.cons _ t=>Vals.drop n t
def RelO:Option V->Option Mp->Prop
 |some v,some u=>RelV v u
 |none,none=>True
 |_,_=>False
def KV{κ:Type}:List (κ×V)->List (κ×Mp)->Prop:=QX fun(p:κ×V) (q:κ×Mp)=>p.1=q.1/\RelV p.2 q.2
def kV:Key->V
 |.inl i=>.int i
 |.inr x=>.str x
inductive HO where
  |lst (xs:List V)
  |tup (xs:List V)
  |dK (kvs:List (Key×V))|dT (kvs:List (List Key×V))
  |set (S:Int->Bool) (n:Nat)
  |ins (C dx:Addr) (fs:List (Str×V))
  |own (x:Addr)
  |xd (fs:List (Str×V))
  |met (f x:Addr)
  |rng (lo hi:Int)
  |frz (o:Obj) (u:HO)
  |tbl (ps:Array Mp)
  |ext (φ:Heap->Prop)
abbrev Hp:=Addr->Option HO
def upd(H:Hp)(a:Addr)(o:HO):Hp:=fun b=>if b=a then some o else H b
theorem bg:upd H a o a=some o:=by unfold upd;rw[if_pos rfl]
theorem aP(h:b≠a):upd H a o b=H b:=by unfold upd;rw[if_neg h]
theorem CB:upd (upd H a o) a u=upd H a u:=by funext b;unfold upd;split <;> rfl
theorem GN{H:Hp}{a b:Addr}{o u:HO}(h:H a=some o)(h':H b=some u)(d:o≠u):a≠b:=by intro e;subst e;rw[h] at h';exact d (Nm h')
theorem cx{H:Hp}{a b:Addr}{o:HO}(h:H a=some o)(h':H b=none):a≠b:=by intro e;subst e;rw[h] at h';cases h'
section
variable (P:MA)(w:ML)
def ObjOk(H:Hp)(h:Heap)(a:Addr):HO->Prop
 |.lst xs=>xs.length<=Mz/\∃(its:List Mp) (n:Nat),Vals xs its/\h.get? a=some { cls:=.type "list",data:=.seq its.toArray n }
 |.tup xs=>xs.length<=Mz/\∃its:List Mp,Vals xs its/\Tb h a its.toArray
 |.dK kvs=>kvs.length<=Mz/\(a == N8)=false/\∃vs,KV kvs vs/\h.DictOf (bQ P w) a vs
 |.dT kvs=>kvs.length<=Mz/\(a == N8)=false/\∃xs:List (List Key×Addr×Mp),
   QX (fun(p:List Key×V) (q:List Key×Addr×Mp)=>p.1=q.1/\H q.2.1=some (.tup (p.1.map kV))/\RelV p.2 q.2.2) kvs xs /\
   ∃o es ep,h.get? a=some o/\o.ExactDict/\o.data=.dict es ep/\es.toList=xs.map (entryOfKey (Sx (bQ P w)))/\(xs.map (·.1)).Nodup
 |.set S n=>h.SetOf (intKind P w) a S n
 |.ins C dx fs=>H dx=some (.own a)/\fs.length<=1000/\dx≠a/\h.get? a=some (RW C dx) /\
   ∃mA,h.Ns1 dx mA/\(∀f,RelO (fs.lookup f) (mA f))/\Vr mA (fs.map (·.1))
 |.own _=>∃o,h.get? a=some o
 |.xd fs=>∃mA,h.Ns1 a mA/\∀f,RelO (fs.lookup f) (mA f)
 |.rng lo hi=>∃t u v,h.get? a=some { cls:=.type "range",data:=.fields #[.int lo t,.int hi u,.int 1 v] }
 |.frz o u=>h.get? a=some o/\ObjOk H h a u
 |.tbl ps=>h.get? a=some { cls:=.none,data:=.fields ps }
 |.met f x=>h.get? a=some (Re (.ref f) (.ref x))
 |.ext φ=>φ h/\(∃o,h.get? a=some o)/\∀h1 h2:Heap,φ h1->(∀o,h1.get? a=some o->h2.get? a=some o)->φ h2
def HOk(H:Hp)(h:Heap):Prop:=∀a o,H a=some o->ObjOk P w H h a o
end
section
variable {P:MA}{w:ML}{H H':Hp}{h h':Heap}{a:Addr}{o:HO}
theorem ObjOk.lt(x:ObjOk P w H h a o):a<h.objs.size:=by
 cases o with
 |lst xs=>obtain⟨_,_,_,_,e⟩:=x;exact MB e
 |tup xs=>obtain⟨_,_,_,p⟩:=x;exact p.lt
 |dK kvs=>obtain⟨_,_,_,_,o,_,_,e,_⟩:=x;exact MB e
 |dT kvs=>obtain⟨_,_,_,_,o,_,_,e,_⟩:=x;exact MB e
 |set S n=>obtain⟨o,_,_,_,e,_⟩:=x;exact MB e
 |ins C dx fs=>obtain⟨_,_,_,e,_⟩:=x;exact MB e
 |own y=>obtain⟨_,e⟩:=x;exact MB e
 |xd fs=>obtain⟨_,⟨_,_,_,e,_⟩,_⟩:=x;exact MB e
 |rng lo hi=>obtain⟨_,_,_,e⟩:=x;exact MB e
 |frz ob u=>obtain⟨e,_⟩:=x;exact MB e
 |tbl ps=>exact MB (show h.get? a=some _ from x)
 |met f y=>exact MB (show h.get? a=some _ from x)
 |ext φ=>obtain⟨_,⟨_,e⟩,_⟩:=x;exact MB e
theorem Paired.mapP{α β:Type}{F G:α->β->Prop}:∀{l₁:List α}{l₂:List β},QX F l₁ l₂->(∀a b,F a b->G a b)->QX G l₁ l₂
 |_,_,.nil,_=>.nil
 |_,_,.cons r t,f=>.cons (f _ _ r) (Paired.mapP t f)
theorem ObjOk.stay(x:ObjOk P w H h a o)(k:∀b u,(b=a\/H b=some (.own a))->h.get? b=some u->h'.get? b=some u)
  (ho:∀b,H b=some (.own a)->H' b=some (.own a)) (ht:∀b xs,H b=some (.tup xs)->H' b=some (.tup xs)):ObjOk P w H' h' a o:=by
 induction o with
 |lst xs=>obtain⟨z,its,n,r,e⟩:=x;exact⟨z,its,n,r,k _ _ (.inl rfl) e⟩
 |tup xs=>obtain⟨z,its,r,ob,e,c⟩:=x;exact⟨z,its,r,ob,k _ _ (.inl rfl) e,c⟩
 |dK kvs=>obtain⟨z,y,vs,r,ob,es,ep,e,c⟩:=x;exact⟨z,y,vs,r,ob,es,ep,k _ _ (.inl rfl) e,c⟩
 |dT kvs=>
  obtain⟨z,y,xs,r,ob,es,ep,e,c⟩:=x;exact⟨z,y,xs,Paired.mapP r fun p q z=>⟨z.1,ht _ _ z.2.1,z.2.2⟩,ob,es,ep,k _ _ (.inl rfl) e,c⟩
 |set S n=>obtain⟨ob,es,ep,t,e,c⟩:=x;exact⟨ob,es,ep,t,k _ _ (.inl rfl) e,c⟩
 |ins C dx fs=>
  obtain⟨d,z,ne,e,mA,⟨od,es,ep,e2,c⟩,r⟩:=x;exact⟨ho _ d,z,ne,k _ _ (.inl rfl) e,mA,⟨od,es,ep,k _ _ (.inr d) e2,c⟩,r⟩
 |own y=>obtain⟨ob,e⟩:=x;exact⟨ob,k _ _ (.inl rfl) e⟩
 |xd fs=>obtain⟨mA,⟨od,es,ep,e,c⟩,r⟩:=x;exact⟨mA,⟨od,es,ep,k _ _ (.inl rfl) e,c⟩,r⟩
 |rng lo hi=>obtain⟨t,u,v,e⟩:=x;exact⟨t,u,v,k _ _ (.inl rfl) e⟩
 |frz ob u ih=>obtain⟨e,q⟩:=x;exact⟨k _ _ (.inl rfl) e,ih q⟩
 |tbl ps=>
  have e:h.get? a=some { cls:=.none,data:=.fields ps }:=x;show h'.get? a=some { cls:=.none,data:=.fields ps };exact k a _ (.inl rfl) e
 |met f y=>
  have e:h.get? a=some (Re (.ref f) (.ref y)):=x;show h'.get? a=some (Re (.ref f) (.ref y));exact k a _ (.inl rfl) e
 |ext φ=>obtain⟨p,⟨o,e⟩,st⟩:=x;exact⟨st _ _ p fun o q=>k _ _ (.inl rfl) q,⟨o,k _ _ (.inl rfl) e⟩,st⟩
theorem HOk.lt(x:HOk P w H h)(e:H a=some o):a<h.objs.size:=(x a o e).lt
theorem HOk.fresh(x:HOk P w H h)(e:h.objs.size<=a):H a=none:=by
 cases q:H a with
 |none=>rfl
 |some u=>exact absurd (ME (x.lt q) e) (NM _)
theorem HOk.kept(x:HOk P w H h)(k:∀b u,h.get? b=some u->h'.get? b=some u):HOk P w H h':=fun a o e=>
 (x a o e).stay (fun b u _ q=>k b u q) (fun _ q=>q) fun _ _ q=>q
theorem HOk.laid(x:HOk P w H h)(k:∀b u,h.get? b=some u->h'.get? b=some u)(hp:h.objs.size<=a)(new:ObjOk P w (upd H a o) h' a o):HOk P w (upd H a o) h':=fun b u e=>by
 have hn:=x.fresh hp
 by_cases hb:b=a
 .subst hb;rw[bg] at e;cases e;exact new
 .rw[aP hb] at e
  exact(x b u e).stay (fun c v _ q=>k c v q) (fun c q=>by rw[aP (cx q hn)];exact q) fun c xs q=>by rw[aP (cx q hn)];exact q
end
def Rd(H:Hp)(a:Addr)(u:HO):Prop:=H a=some u\/∃o,H a=some (.frz o u)
theorem Rd.ok(r:Rd H a u)(x:HOk P w H h):ObjOk P w H h a u:=by
 rcases r with r|⟨o,r⟩
 .exact x a u r
 .obtain⟨_,q⟩:=x a _ r
  exact q
def Mut:Option HO->Prop
 |some (.lst _)=>True
 |some (.dK _)=>True
 |some (.dT _)=>True
 |some (.set _ _)=>True
 |some (.ins _ _ _)=>True
 |some (.ext _)=>True
 |_=>False
section
variable {P:MA}{w:ML}{H:Hp}{h h':Heap}{x e:Addr}{o':HO}
theorem HOk.write(ok:HOk P w H h)(mu:Mut (H x))(he:e=x\/H e=some (.own x))(k:∀b u,b≠e->h.get? b=some u->h'.get? b=some u)(heo:∃u,h'.get? e=some u)
  (new:ObjOk P w (upd H x o') h' x o'):HOk P w (upd H x o') h':=fun b u q=>by
 have nown:∀c y,H c=some (.own y)->c≠x:=fun c y r z=>by subst z;rw[r] at mu;exact mu
 have ntup:∀c xs,H c=some (.tup xs)->c≠x:=fun c xs r z=>by subst z;rw[r] at mu;exact mu
 by_cases hb:b=x
 .subst hb;rw[bg] at q;cases q;exact new
 .rw[aP hb] at q
  by_cases hbe:b=e
  .have q':H b=some (.own x):=by
    rcases he with z|z
    .exact absurd (hbe.trans z) hb
    .rw[hbe];exact z
   rw[q] at q';cases q';obtain⟨v,hv⟩:=heo;exact⟨v,by rw[hbe];exact hv⟩
  .refine(ok b u q).stay (fun c v hc r=>k c v ?_ r) (fun c r=>by rw[aP (nown c b r)];exact r) fun c xs r=>by rw[aP (ntup c xs r)];exact r
   rcases hc with rfl|hc
   .exact hbe
   .rintro rfl
    rcases he with z|z
    .exact nown c b hc z
    .rw[hc] at z;cases z;exact hb rfl
end
structure Un(fs ex:List Addr)(H H':Hp)(h h':Heap):Prop where
 keep:∀b o,h.get? b=some o->H b=none->b∉fs->b∉ex->h'.get? b=some o
 slot:∀b o,h.get? b=some o->H b=none->b∈fs->b∉ex->∃sl,h'.get? b=some { o with slots:=sl }
 free:∀b o,h.get? b=some o->H b=none->b∉ex->H' b=none
 there:∀b o,h.get? b=some o->b∉ex->∃o',h'.get? b=some o'
 tups:∀b xs,H b=some (.tup xs)->H' b=some (.tup xs)
 frzs:∀b o u,H b=some (.frz o u)->H' b=some (.frz o u)
 tbls:∀b ps,H b=some (.tbl ps)->∃more,H' b=some (.tbl (ps++more))
section
variable {fs fs' ex ex':List Addr}{H H1 H2:Hp}{h h1 h2 h':Heap}{a x e:Addr}{o:HO}
theorem Un.any(u:Un fs ex H H1 h h1)(q:h.get? b=some ob)(n:H b=none)(hx:b∉ex):∃sl,h1.get? b=some { ob with slots:=sl }:=by
 by_cases hb:b∈fs
 .exact u.slot b ob q n hb hx
 .exact⟨ob.slots,u.keep b ob q n hb hx⟩
theorem Un.kept(k:∀b u,h.get? b=some u->h'.get? b=some u):Un fs ex H H h h':=⟨fun b ob q _ _ _=>k b ob q,fun b ob q _ _ _=>⟨ob.slots,k b ob q⟩,fun _ _ _ n _=>n,fun b ob q _=>⟨ob,k b ob q⟩,fun _ _ q=>q,fun _ _ _ q=>q,fun _ ps q=>⟨#[],by rw[q];simp⟩⟩
theorem Un.refl:Un fs ex H H h h:=Un.kept fun _ _ q=>q
theorem Un.laid(k:∀b u,h.get? b=some u->h'.get? b=some u)(hp:h.objs.size<=a)(hn:H a=none):Un fs ex H (upd H a o) h h' where
 keep:=fun b u q _ _ _=>k b u q
 slot:=fun b u q _ _ _=>⟨u.slots,k b u q⟩
 free:=fun b u q n _=>by rw[aP (MO (ME (MB q) hp))];exact n
 there:=fun b u q _=>⟨u,k b u q⟩
 tups:=fun b xs q=>by rw[aP (cx q hn)];exact q
 frzs:=fun b u xs q=>by rw[aP (cx q hn)];exact q
 tbls:=fun b ps q=>⟨#[],by rw[aP (cx q hn),q];simp⟩
theorem Un.write(mu:Mut (H x))(he:e=x\/H e=some (.own x))(k:∀b u,b≠e->h.get? b=some u->h'.get? b=some u)(heo:∃u,h'.get? e=some u):Un fs ex H (upd H x o) h h':=by
 have hx:∀b,H b=none->b≠x:=fun b n z=>by subst z;rw[n] at mu;exact mu
 have hb:∀b,H b=none->b≠e:=fun b n z=>by
  subst z
  rcases he with r|r
  .exact hx b n r
  .rw[n] at r;cases r
 have hm:∀b u,H b=some u->¬Mut (some u)->b≠x:=fun b u q nm z=>by subst z;rw[q] at mu;exact nm mu
 refine⟨fun b u q n _ _=>k b u (hb b n) q,fun b u q n _ _=>⟨u.slots,k b u (hb b n) q⟩,fun b u q n _=>by rw[aP (hx b n)];exact n,fun b u q _=>?_,
  fun b xs q=>by rw[aP (hm b _ q fun z=>z)];exact q,fun b u xs q=>by rw[aP (hm b _ q fun z=>z)];exact q,fun b ps q=>⟨#[],by rw[aP (hm b _ q fun z=>z),q];simp⟩⟩
 by_cases hbe:b=e
 .subst hbe;exact heo
 .exact⟨u,k b u hbe q⟩
end
def trk(h:Heap)(H:Hp):List Addr:=(NZ h.objs.size).filter fun a=>(H a).isSome
def gB(h:Heap)(H:Hp):Heap:=PySem.W.hideAll h (trk h H)
theorem AH(h:Heap)(H:Hp):(gB h H).objs.size=h.objs.size:=PySem.W.hideAll_size _ _
theorem BV(e:h.get? b=some o)(n:H b=none):(gB h H).get? b=some o:=
 PySem.W.hideAll_get _ e fun hm=>by
  have q:(H b).isSome=true:=(Nx.mp hm).2;rw[n] at q;simp at q
theorem Dj(e:(gB h H).get? b=some o):h.get? b=some o/\H b=none:=by
 have e':h.get? b=some o:=PySem.W.of_hideAll (trk h H) e;refine⟨e',?_⟩
 cases q:H b with
 |none=>rfl
 |some x=>
  have hm:b∈trk h H:=Nx.mpr ⟨Qb.mpr (MB e'),by simp[q]⟩;have z:(gB h H).get? b=none:=PySem.W.hideAll_none (trk h H) hm;rw[z] at e;cases e
def D4(g h:Heap)(L:Addr):List (Addr×Obj):=(NZ h.objs.size).filterMap fun a=>if a=L\/(g.get? a).isSome=true then none else (h.get? a).map fun o=>(a,o)
def rest(g h:Heap)(L d:Addr):List (Addr×Obj):=(D4 g h L).filter fun p=>decide (p.1≠d)
structure Mod(K:Frag)(mg:Str->Option Mp)(base:Heap):Prop where
 kin:K.In base
 glob:base.Ns MT mg
 blt:∃mb,base.Ns Uv mb/\∀x:Str,x≠"__name__"->mb x=OA x
 nolimit:base.NoLimit
structure Cx where
 prog:MA
 w:ML
 K:Frag
 mg:Str->Option Mp
 base:Heap
 A:Nb
 N:List Str
 s₀:Ms
 H₀:Hp
 env:Env
 outer:List Env
 stack:List Env
 ex:List Addr
 fn:Str->Bool
 calm:Bool
 pn:List (Addr×Obj)
 xe:Mp->Ms->Prop
def frs(l:List Env):List Addr:=l.filterMap (·.frame)
abbrev Cx.fs(X:Cx):List Addr:=frs X.outer
def Vis(sc:O9)(x:Str):Prop:=sc.names.lookup x=some .local\/sc.names.lookup x=some .cell\/sc.names.lookup x=some .free
def Loc(sc:O9)(x:Str):Prop:=sc.names.lookup x=some .local\/sc.names.lookup x=some .cell
def Look(env:Env)(h:Heap)(m:Str->Option Mp)(x:Str)(u:Mp):Prop:=(env.kindOf x=some .local/\m x=some u)\/((env.kindOf x=some .cell\/env.kindOf x=some .free)/\∃c,env.cells.lookup x=some c/\h.IsCell c (some u))
structure Cx.Ok(X:Cx):Prop where
 mod:Mod X.K X.mg X.base
 kind:X.env.scope.kind=.function
 glob:X.env.globals=MT
 blt:X.env.builtins=Uv
 above:X.s₀.heap.objs.size<=X.env.locals
 inj:∀x y c,X.env.cells.lookup x=some c->X.env.cells.lookup y=some c->x=y
 has:∀x,(X.env.kindOf x=some .cell\/X.env.kindOf x=some .free)->∃c,X.env.cells.lookup x=some c
 cab:∀x c,X.fn x=true->X.env.cells.lookup x=some c->X.s₀.heap.objs.size<=c
 hd:X.calm=true->X.A.handled=none
 frames:X.A.frames=some X.stack
 stk:X.stack=X.outer\/(X.stack=X.env::X.outer/\X.env.frame=some X.env.locals)
 exf:∀b∈X.ex,b≠X.env.locals/\∀x c,X.env.cells.lookup x=some c->c≠b
 bs:∀b o,X.base.get? b=some o->X.s₀.heap.get? b=some o/\X.H₀ b=none
 bsz:X.base.objs.size<=X.s₀.heap.objs.size
 noex:∀b o,X.base.get? b=some o->b∉X.ex
 exfs:∀b∈X.ex,b∉X.fs
 funs:X.s₀.heap.FunFrames X.base X.outer
 frf:∀b∈X.fs,X.H₀ b=none
structure Inv(X:Cx)(pins:List (Addr×Obj))(σ:List (Option V))(H:Hp)(s:Ms):Prop where
 ok:X.Ok
 os:s.os=X.s₀.os
 bare:QM s.gens
 base:Un X.fs X.ex X.H₀ H X.s₀.heap s.heap
 loc:∃m,s.heap.Ns X.env.locals m/\∀(i:Nat) (x:Str) (v:V),X.N[i]? = some x->σ[i]? = some (some v)->Vis X.env.scope x->∃u,RelV v u/\Look X.env s.heap m x u
 cell:∀x c,X.env.cells.lookup x=some c->∃v,s.heap.IsCell c v
 free:H X.env.locals=none
 freeC:∀x c,X.env.cells.lookup x=some c->H c=none
 pin:∀p∈X.pn++pins,s.heap.get? p.1=some p.2/\H p.1=none/\p.1≠X.env.locals/\p.1∉X.fs/\∀v,p.2.data≠.cell v
 hok:HOk X.prog X.w H s.heap
 len:σ.length=X.N.length
section
variable {X:Cx}{pins:List (Addr×Obj)}{σ:List (Option V)}{H H':Hp}{s:Ms}{h':Heap}
theorem Cx.Ok.nofr(ok:X.Ok)(e:X.base.get? b=some o):b∉X.fs:=fun hb=>by
 have:=(ok.funs.mem hb).1;rw[e] at this;cases this
theorem Inv.bs(I:Inv X pins σ H s):∀b o,X.base.get? b=some o->s.heap.get? b=some o/\H b=none:=fun b o e=>
 ⟨I.base.keep b o (I.ok.bs b o e).1 (I.ok.bs b o e).2 (I.ok.nofr e) (I.ok.noex b o e),I.base.free b o (I.ok.bs b o e).1 (I.ok.bs b o e).2 (I.ok.noex b o e)⟩
theorem Inv.bk(I:Inv X pins σ H s):∀b o,X.base.get? b=some o->s.heap.get? b=some o:=fun b o e=>(I.bs b o e).1
theorem Inv.mod(I:Inv X pins σ H s):Mod X.K X.mg X.base:=I.ok.mod
theorem Inv.kIn(I:Inv X pins σ H s):X.K.In s.heap:=I.ok.mod.kin.keeps I.bk
theorem Inv.lt(I:Inv X pins σ H s):X.env.locals<s.heap.objs.size:=let ⟨_,hn,_⟩:=I.loc;hn.lt
theorem Inv.sz(I:Inv X pins σ H s):X.s₀.heap.objs.size<=s.heap.objs.size:=MP I.ok.above (Pc I.lt)
theorem Inv.nofs(I:Inv X pins σ H s)(h:s.heap.objs.size<=a):a∉X.fs:=fun hb=>by
 obtain⟨_,o,ho,_⟩:=I.ok.funs.mem hb;exact absurd (ME (MB ho) (MP I.sz h)) (NM _)
theorem Inv.cne(I:Inv X pins σ H s):∀x c,X.env.cells.lookup x=some c->c≠X.env.locals:=fun x c e z=>by
 obtain⟨v,o,ho,hd⟩:=I.cell x c e;obtain⟨m,⟨o',es,ep,ho',hd',_⟩,_⟩:=I.loc;rw[z,ho'] at ho;cases ho;rw[hd'] at hd;cases hd
theorem Inv.funs(I:Inv X pins σ H s):s.heap.FunFrames X.base X.outer:=by
 have all:∀(l:List Env),(∀b∈frs l,b∈X.fs)->X.s₀.heap.FunFrames X.base l->s.heap.FunFrames X.base l:=by
  intro l
  induction l with
  |nil=>intro _ _;trivial
  |cons env r ih=>
   intro hs hl;obtain⟨hk,⟨L,o,hf,hn,ho,hd⟩,hr⟩:=hl;have hL:L∈X.fs:=hs L (by unfold frs;rw[Oy,hf];exact Mq);obtain⟨sl,e⟩:=I.base.slot L o ho (I.ok.frf L hL) hL fun z=>I.ok.exfs L z hL;exact⟨hk,⟨L,_,hf,hn,e,hd⟩,ih (fun b hb=>hs b (by unfold frs;rw[Oy,hf];exact Mr _ hb)) hr⟩
 exact all X.outer (fun _ hb=>hb) I.ok.funs
theorem Inv.stack(I:Inv X pins σ H s):s.heap.FunFrames X.base X.stack:=by
 rcases I.ok.stk with e|⟨e,hf⟩
 .rw[e];exact I.funs
 .rw[e]
  obtain⟨m,hn,_⟩:=I.loc;refine .cons (by rw[I.ok.kind];decide) hf hn ?_ I.funs;exact ON (MP I.ok.bsz I.ok.above)
theorem Inv.stkSub(I:Inv X pins σ H s):∀b∈frs X.stack,b∈X.env.locals::X.fs:=fun b hb=>by
 rcases I.ok.stk with e|⟨e,hf⟩
 .rw[e] at hb;exact Mr _ hb
 .rw[e] at hb
  unfold frs at hb;rw[Oy,hf] at hb;exact hb
theorem Inv.stkFree(I:Inv X pins σ H s):∀b∈frs X.stack,H b=none:=fun b hb=>by
 rcases MG.mp (I.stkSub b hb) with e|hb
 .rw[e];exact I.free
 .obtain⟨_,o,ho,_⟩:=I.ok.funs.mem hb
  exact I.base.free b o ho (I.ok.frf b hb) fun z=>I.ok.exfs b z hb
theorem Inv.step{g':Array Tc}{t':Nat}{d':Drawn}{ch:List Addr}(I:Inv X pins σ H s)
  (hch:∀b∈ch,(b∈X.ex\/X.s₀.heap.objs.size<=b)/\b≠X.env.locals/\(∀x c,X.env.cells.lookup x=some c->c≠b)/\∀p∈X.pn++pins,p.1≠b)
  (keep:∀b o,b≠X.env.locals->b∉X.fs->b∉ch->s.heap.get? b=some o->H b=none->h'.get? b=some o)
  (slot:∀b o,b≠X.env.locals->b∈X.fs->b∉ch->s.heap.get? b=some o->H b=none->∃sl,h'.get? b=some { o with slots:=sl }) (free:∀b o,b∉ch->s.heap.get? b=some o->H b=none->H' b=none)
  (there:∀b o,b∉ch->s.heap.get? b=some o->∃o',h'.get? b=some o')
  (tups:∀b xs,H b=some (.tup xs)->H' b=some (.tup xs)) (frzs:∀b o u,H b=some (.frz o u)->H' b=some (.frz o u)) (tbls:∀b ps,H b=some (.tbl ps)->∃more,H' b=some (.tbl (ps++more)))
  (ns:∀m,s.heap.Ns X.env.locals m->h'.Ns X.env.locals m) (hok:HOk X.prog X.w H' h') (hg:QM g') :
  Inv X pins σ H' { s with heap:=h',gens:=g',drawn:=d',toks:=t' }:=by
 have neL:∀b o,X.s₀.heap.get? b=some o->b≠X.env.locals:=fun b o e=>MO (ME (MB e) I.ok.above)
 have neC:∀b o,X.s₀.heap.get? b=some o->b∉X.ex->b∉ch:=fun b o e hx hb=>by
  rcases(hch b hb).1 with z|z
  .exact hx z
  .exact absurd (ME (MB e) z) (NM _)
 have cellK:∀x c,X.env.cells.lookup x=some c->∀v,s.heap.IsCell c v->h'.IsCell c v:=fun x c e v ⟨o,ho,hd⟩=>by
  have nch:c∉ch:=fun z=>(hch c z).2.2.1 x c e rfl
  by_cases hc:c∈X.fs
  .obtain⟨sl,q⟩:=slot c o (I.cne x c e) hc nch ho (I.freeC x c e)
   exact⟨_,q,hd⟩
  .exact⟨o,keep c o (I.cne x c e) hc nch ho (I.freeC x c e),hd⟩
 refine⟨I.ok,I.os,hg,⟨fun b o e n hb hx=>?_,fun b o e n hb hx=>?_,fun b o e n hx=>?_,fun b o e hx=>?_,fun b xs e=>tups b xs (I.base.tups b xs e),fun b o xs e=>frzs b o xs (I.base.frzs b o xs e),fun b ps e=>?_⟩,?_,fun x c e=>?_,?_,fun x c e=>?_,fun p hp=>?_,hok,I.len⟩
 .exact keep b o (neL b o e) hb (neC b o e hx) (I.base.keep b o e n hb hx) (I.base.free b o e n hx)
 .obtain⟨sl,e1⟩:=I.base.slot b o e n hb hx
  obtain⟨sl',e2⟩:=slot b _ (neL b o e) hb (neC b o e hx) e1 (I.base.free b o e n hx);exact⟨sl',e2⟩
 .obtain⟨o',e1⟩:=I.base.there b o e hx
  exact free b o' (neC b o e hx) e1 (I.base.free b o e n hx)
 .obtain⟨o',e1⟩:=I.base.there b o e hx
  exact there b o' (neC b o e hx) e1
 .obtain⟨m1,e1⟩:=I.base.tbls b ps e
  obtain⟨m2,e2⟩:=tbls b _ e1;exact⟨m1++m2,by rw[e2,Array.append_assoc]⟩
 .obtain⟨m,hn,hl⟩:=I.loc
  refine⟨m,ns m hn,fun i x v e1 e2 e3=>?_⟩;obtain⟨u,r,l⟩:=hl i x v e1 e2 e3;refine⟨u,r,?_⟩
  rcases l with l|⟨k,c,e,z⟩
  .exact .inl l
  .exact .inr ⟨k,c,e,cellK x c e _ z⟩
 .obtain⟨v,z⟩:=I.cell x c e
  exact⟨v,cellK x c e v z⟩
 .obtain⟨m,⟨o,_,_,ho,_⟩,_⟩:=I.loc
  exact free _ o (fun z=>(hch _ z).2.1 rfl) ho I.free
 .obtain⟨v,o,ho,hd⟩:=I.cell x c e
  exact free c o (fun z=>(hch c z).2.2.1 x c e rfl) ho (I.freeC x c e)
 .obtain⟨e,n,ne,nf,d⟩:=I.pin p hp
  have nch:p.1∉ch:=fun z=>(hch p.1 z).2.2.2 p hp rfl;exact⟨keep p.1 p.2 ne nf nch e n,free p.1 p.2 nch e n,ne,nf,d⟩
theorem Inv.un(I:Inv X pins σ H s)(u:Un X.fs [] H H' s.heap h')(hok:HOk X.prog X.w H' h'):Inv X pins σ H' { s with heap:=h',toks:=t' }:=by
 obtain⟨m,⟨o,es,ep,ho,r⟩,_⟩:=id I.loc;obtain⟨sl,hL⟩:=u.any ho I.free (by simp)
 exact I.step (g':=s.gens) (d':=s.drawn) (ch:=[]) (fun _ z=>nomatch z) (fun b o _ hb _ e n=>u.keep b o e n hb (by simp)) (fun b o _ hb _ e n=>u.slot b o e n hb (by simp)) (fun b o _ e n=>u.free b o e n (by simp)) (fun b o _ e=>u.there b o e (by simp)) u.tups u.frzs u.tbls (fun m' hm=>by
  obtain⟨o',es',ep',ho',r'⟩:=hm;rw[ho] at ho';cases ho'
  exact⟨_,es',ep',hL,r'⟩) hok I.bare
theorem Inv.call(I:Inv X pins σ H s)(u:Un (frs X.stack) ch H H' s.heap h')(hok:HOk X.prog X.w H' h')(hg:QM g')
  (hch:∀b∈ch,(b∈X.ex\/X.s₀.heap.objs.size<=b)/\b≠X.env.locals/\(∀x c,X.env.cells.lookup x=some c->c≠b)/\∀p∈X.pn++pins,p.1≠b) :
  Inv X pins σ H' { s with heap:=h',gens:=g',drawn:=d',toks:=t' }:=by
 obtain⟨m,⟨o,es,ep,ho,r⟩,_⟩:=id I.loc;obtain⟨sl,hL⟩:=u.any ho I.free fun z=>(hch _ z).2.1 rfl
 exact I.step (ch:=ch) hch (fun b o hL hb hc e n=>u.keep b o e n (fun z=>(MG.mp (I.stkSub b z)).elim hL hb) hc) (fun b o _ _ hc e n=>u.any e n hc) (fun b o hc e n=>u.free b o e n hc) (fun b o hc e=>u.there b o e hc) u.tups u.frzs u.tbls (fun m' hm=>by
  obtain⟨o',es',ep',ho',r'⟩:=hm;rw[ho] at ho';cases ho'
  exact⟨_,es',ep',hL,r'⟩) hok hg
theorem Inv.turned(I:Inv X pins σ H s)(k:∀b o,b≠it->s.heap.get? b=some o->h'.get? b=some o)(hn:H it=none)(hL:it≠X.env.locals)
  (h1:it∈X.ex\/X.s₀.heap.objs.size<=it) (h2:∀x c,X.env.cells.lookup x=some c->c≠it) (h3:∀p∈X.pn++pins,p.1≠it):Inv X pins σ H { s with heap:=h',toks:=t' }:=by
 have nit:∀b u,H b=some u->b≠it:=fun b u e z=>by rw[z,hn] at e;cases e
 refine I.step (g':=s.gens) (d':=s.drawn) (ch:=[it]) (fun b hb=>?_) (fun b o _ _ hc e _=>k b o (fun z=>hc (by simp[z])) e) (fun b o _ _ hc e _=>⟨o.slots,k b o (fun z=>hc (by simp[z])) e⟩) (fun _ _ _ _ n=>n)
  (fun b o hc e=>⟨o,k b o (fun z=>hc (by simp[z])) e⟩) (fun _ _ e=>e) (fun _ _ _ e=>e) (fun b ps e=>⟨#[],by rw[e];simp⟩) (fun m hm=>?_) (fun b u e=>?_) I.bare
 .have e:b=it:=by simpa using hb
  subst e;exact⟨h1,hL,h2,h3⟩
 .obtain⟨o,es,ep,ho,r⟩:=hm
  exact⟨o,es,ep,k _ o (Ot hL) ho,r⟩
 .refine(I.hok b u e).stay (fun c v hc q=>k c v ?_ q) (fun _ q=>q) fun _ _ q=>q
  rcases hc with z|z
  .rw[z];exact nit b u e
  .exact nit c _ z
theorem Inv.tok(I:Inv X pins σ H s)(t:Nat):Inv X pins σ H { s with toks:=t }:=I.un (h':=s.heap) (t':=t) Un.refl I.hok
theorem Inv.kept(I:Inv X pins σ H s)(k:∀b u,s.heap.get? b=some u->h'.get? b=some u):Inv X pins σ H { s with heap:=h',toks:=t' }:=I.un (Un.kept k) (I.hok.kept k)
theorem Inv.laid(I:Inv X pins σ H s)(k:∀b u,s.heap.get? b=some u->h'.get? b=some u)(hp:s.heap.objs.size<=a)(new:ObjOk X.prog X.w (upd H a o) h' a o) :
  Inv X pins σ (upd H a o) { s with heap:=h',toks:=t' }:=I.un (Un.laid k hp (I.hok.fresh hp)) (I.hok.laid k hp new)
theorem Inv.write(I:Inv X pins σ H s)(mu:Mut (H x))(he:e=x\/H e=some (.own x))(k:∀b u,b≠e->s.heap.get? b=some u->h'.get? b=some u)(heo:∃u,h'.get? e=some u)
  (new:ObjOk X.prog X.w (upd H x o) h' x o):Inv X pins σ (upd H x o) { s with heap:=h',toks:=t' }:=I.un (Un.write mu he k heo) (I.hok.write mu he k heo new)
theorem Inv.pins_of(I:Inv X pins σ H s)(h:∀p∈pins',s.heap.get? p.1=some p.2/\H p.1=none/\p.1≠X.env.locals/\p.1∉X.fs/\∀v,p.2.data≠.cell v):Inv X pins' σ H s:=⟨I.ok,I.os,I.bare,I.base,I.loc,I.cell,I.free,I.freeC,fun p hp=>(MN.mp hp).elim (fun z=>I.pin p (NS _ z)) (h p),I.hok,I.len⟩
theorem oF{N:List Str}(hN:N.Nodup){i j:Nat}{x:Str}(a:N[i]? = some x)(b:N[j]? = some x):i=j:=by
 obtain⟨h1,e1⟩:=My.mp a;obtain⟨h2,e2⟩:=My.mp b;exact(List.getElem_inj hN).mp (e1.trans e2.symm)
theorem r6(I:Inv X pins σ H s)(hN:X.N.Nodup)(hi:X.N[i]? = some x)(hx:Loc X.env.scope x)(r:RelV v u)
  (h:∀s',Inv X pins (σ.set i (some v)) H s'->(∃a,Qc a s.heap s'.heap/\(a=X.env.locals\/X.env.cells.lookup x=some a))->Q () s') (hf:X.fn x=true\/X.env.scope.names.lookup x=some .local:=by first|exact .inl rfl|exact .inr rfl|assumption):MU M A (storeName X.env x u) Q E s:=by
 obtain⟨m,hn,hl⟩:=id I.loc
 have hcls:(X.env.scope.kind == .class||(X.env.scope.kind == .module&&X.env.locals != X.env.globals))=false:=by rw[I.ok.kind];rfl
 have hiσ:i<σ.length:=by rw[I.len];exact(My.mp hi).1
 have cne:=I.cne
 have tracked:∀{a:Addr}{h':Heap},(∃o,s.heap.get? a=some o/\H a=none)->Qc a s.heap h'->HOk X.prog X.w H h':=fun {a h'} ha hs b ob e=>by
  obtain⟨_,_,hfree⟩:=ha;refine(I.hok b ob e).stay (fun c w' hc q=>(hs.2 c ?_).trans q) (fun _ q=>q) fun _ _ q=>q;rintro rfl
  rcases hc with rfl|hc
  .rw[hfree] at e;cases e
  .rw[hfree] at hc;cases hc
 rcases hx with hk|hk
 .refine R6 hk hn (fun h' hn' hs=>?_) hcls
  obtain⟨oL,_,_,hoL,_⟩:=id hn;refine h _ ⟨I.ok,I.os,I.bare,⟨fun b o e n hb hx=>?_,fun b o e n hb hx=>?_,I.base.free,fun b o e hx=>?_,I.base.tups,I.base.frzs,I.base.tbls⟩,⟨_,hn',fun j y v' e1 e2 e3=>?_⟩,fun y c e=>?_,I.free,I.freeC,fun p hp=>?_,tracked ⟨oL,hoL,I.free⟩ hs,by simpa using I.len⟩ ⟨_,hs,.inl rfl⟩
  .exact(hs.2 b (MO (ME (MB e) I.ok.above))).trans (I.base.keep b o e n hb hx)
  .obtain⟨sl,e1⟩:=I.base.slot b o e n hb hx
   exact⟨sl,(hs.2 b (MO (ME (MB e) I.ok.above))).trans e1⟩
  .obtain⟨o',e1⟩:=I.base.there b o e hx
   exact⟨o',(hs.2 b (MO (ME (MB e) I.ok.above))).trans e1⟩
  .by_cases hj:j=i
   .subst hj
    rw[hi] at e1;cases e1;rw[MQ hiσ] at e2;cases e2;exact⟨u,r,.inl ⟨hk,by simp⟩⟩
   .rw[MD (Ot hj)] at e2
    obtain⟨u',r',q⟩:=hl j y v' e1 e2 e3;refine⟨u',r',?_⟩
    rcases q with⟨k,e⟩|⟨k,c,e,z⟩
    .refine .inl ⟨k,?_⟩
     have:y≠x:=fun e=>hj (oF hN e1 (e ▸ hi));simp[this,e]
    .exact .inr ⟨k,c,e,z.sameBut hs (cne y c e)⟩
  .obtain⟨w',z⟩:=I.cell y c e
   exact⟨w',z.sameBut hs (cne y c e)⟩
  .obtain⟨e,n,ne,nf,d⟩:=I.pin p hp
   exact⟨(hs.2 p.1 ne).trans e,n,ne,nf,d⟩
 .have hfn:X.fn x=true:=by
   rcases hf with z|z
   .exact z
   .rw[z] at hk;cases hk
  obtain⟨c,hc⟩:=I.ok.has x (.inl hk);obtain⟨w',z⟩:=I.cell x c hc;refine wpAny_storeName_cell I.ok.kind hk hc z (fun h' hc' hs=>?_);obtain⟨oc,hoc,hocd⟩:=id z;refine h { s with heap:=h' } ⟨I.ok,I.os,I.bare,⟨fun b o e n hb hx=>?_,fun b o e n hb hx=>?_,I.base.free,fun b o e hx=>?_,I.base.tups,I.base.frzs,I.base.tbls⟩,⟨m,hn.sameBut hs (Ot (cne x c hc)),fun j y v' e1 e2 e3=>?_⟩,fun y c' e=>?_,I.free,I.freeC,fun p hp=>?_,tracked ⟨oc,hoc,I.freeC x c hc⟩ hs,by simpa using I.len⟩ ⟨c,hs,.inr hc⟩
  .exact(hs.2 b (MO (ME (MB e) (I.ok.cab x c hfn hc)))).trans (I.base.keep b o e n hb hx)
  .obtain⟨sl,e1⟩:=I.base.slot b o e n hb hx
   exact⟨sl,(hs.2 b (MO (ME (MB e) (I.ok.cab x c hfn hc)))).trans e1⟩
  .obtain⟨o',e1⟩:=I.base.there b o e hx
   exact⟨o',(hs.2 b (MO (ME (MB e) (I.ok.cab x c hfn hc)))).trans e1⟩
  .by_cases hj:j=i
   .subst hj
    rw[hi] at e1;cases e1;rw[MQ hiσ] at e2;cases e2;exact⟨u,r,.inr ⟨.inl hk,c,hc,hc'⟩⟩
   .rw[MD (Ot hj)] at e2
    obtain⟨u',r',q⟩:=hl j y v' e1 e2 e3;refine⟨u',r',?_⟩
    rcases q with q|⟨k,c',e,z'⟩
    .exact .inl q
    .refine .inr ⟨k,c',e,z'.sameBut hs ?_⟩
     rintro rfl;exact hj (oF hN e1 (I.ok.inj _ _ _ e hc ▸ hi))
  .by_cases hcc:c'=c
   .subst hcc;exact⟨_,hc'⟩
   .obtain⟨w2,z2⟩:=I.cell y c' e
    exact⟨w2,z2.sameBut hs hcc⟩
  .obtain⟨e,n,ne,nf,d⟩:=I.pin p hp
   refine⟨(hs.2 p.1 ?_).trans e,n,ne,nf,d⟩;intro q;rw[q,hoc] at e;have q':oc=p.2:=Nm e;exact d w' (by rw[←q'];exact hocd)
theorem lF(I:Inv X pins σ H s)(hN:X.N.Nodup)(hi:X.N[i]? = some x)(hx:Loc X.env.scope x)(r:RelV v u)
  (h:∀s',Inv X pins (σ.set i (some v)) H s'->Q () s') (hf:X.fn x=true\/X.env.scope.names.lookup x=some .local:=by first|exact .inl rfl|exact .inr rfl|assumption):MU M A (storeName X.env x u) Q E s:=r6 I hN hi hx r (fun s' I' _=>h s' I') hf
theorem Inv.call'(I:Inv X pins σ H s)(ho:s'.os=s.os)(u:Un (frs X.stack) ch H H' s.heap s'.heap)(hok:HOk X.prog X.w H' s'.heap)(hg:QM s'.gens)
  (hch:∀b∈ch,(b∈X.ex\/X.s₀.heap.objs.size<=b)/\b≠X.env.locals/\(∀x c,X.env.cells.lookup x=some c->c≠b)/\∀p∈X.pn++pins,p.1≠b):Inv X pins σ H' s':=by
 obtain⟨h',g',d',t',o'⟩:=s';have e:o'=s.os:=ho;subst e;exact I.call (g':=g') (t':=t') (d':=d') u hok hg hch
end
abbrev XK:=Mp->Option Addr->Hp->Prop
abbrev St:=List (Option V)
abbrev VK:=V->Hp->Prop
abbrev TE:=St->Hp->VK->Prop
abbrev TT:=St->Hp->(Bool->Hp->Prop)->Prop
abbrev TA:=St->Hp->(List V->Hp->Prop)->Prop
structure Ends where
 nx:St->Hp->Prop
 rt:VK
 bk:St->Hp->Prop:=fun _ _=>False
 ct:St->Hp->Prop:=fun _ _=>False
abbrev TS:=Ends->St->Hp->Prop
def EP(X:Cx)(pins:List (Addr×Obj))(σ:St)(Q:VK)(u:Mp)(s':Ms):Prop:=∃v H',Inv X pins σ H' s'/\RelV v u/\Q v H'
def TP(X:Cx)(pins:List (Addr×Obj))(σ:St)(Q:Bool->Hp->Prop)(b:Bool)(s':Ms):Prop:=∃H',Inv X pins σ H' s'/\Q b H'
def AP(X:Cx)(pins:List (Addr×Obj))(σ:St)(Q:List V->Hp->Prop)(us:List Mp)(s':Ms):Prop:=∃vs H',Inv X pins σ H' s'/\Vals vs us/\Q vs H'
def SP(X:Cx)(pins:List (Addr×Obj))(D:Ends)(f:Flow)(s':Ms):Prop:=
 match f with
 |.next=>∃σ' H',Inv X pins σ' H' s'/\D.nx σ' H'
 |.brk=>∃σ' H',Inv X pins σ' H' s'/\D.bk σ' H'
 |.cont=>∃σ' H',Inv X pins σ' H' s'/\D.ct σ' H'
 |.ret u=>∃v σ' H',Inv X pins σ' H' s'/\RelV v u/\D.rt v H'
def PE(X:Cx)(e:Expr)(t:TE):Prop:=∀(pins:List (Addr×Obj)) (s:Ms) (σ:St) (H:Hp) (Q:VK),Inv X pins σ H s->t σ H Q->MU (MW X.prog X.w) X.A (eval e X.env) (EP X pins σ Q) X.xe s
def PT(X:Cx)(e:Expr)(t:TT):Prop:=∀(pins:List (Addr×Obj)) (s:Ms) (σ:St) (H:Hp) (Q:Bool->Hp->Prop),Inv X pins σ H s->t σ H Q->MU (MW X.prog X.w) X.A (Uw e X.env (eval e X.env)) (TP X pins σ Q) X.xe s
def PW(X:Cx)(e:Expr)(t:TT):Prop:=∀(whole:Sem Mp) (pins:List (Addr×Obj)) (s:Ms) (σ:St) (H:Hp) (Q:Bool->Hp->Prop),Inv X pins σ H s->t σ H Q->MU (MW X.prog X.w) X.A (Uw e X.env whole) (TP X pins σ Q) X.xe s
theorem PW.pt(h:PW X e t):PT X e t:=h _
def PA(X:Cx)(es:List Expr)(t:TA):Prop:=∀(pos:Pos) (pins:List (Addr×Obj)) (s:Ms) (σ:St) (H:Hp) (Q:List V->Hp->Prop),Inv X pins σ H s->t σ H Q->MU (MW X.prog X.w) X.A (spliced (Nv pos (Mw es X.env))) (AP X pins σ Q) X.xe s
def PS(X:Cx)(st:Stmt)(t:TS):Prop:=∀(pins:List (Addr×Obj)) (s:Ms) (σ:St) (H:Hp) (D:Ends),Inv X pins σ H s->t D σ H->MU (MW X.prog X.w) X.A (exec st X.env) (SP X pins D) X.xe s
def PSs(X:Cx)(st:List Stmt)(t:TS):Prop:=∀(pins:List (Addr×Obj)) (s:Ms) (σ:St) (H:Hp) (D:Ends),Inv X pins σ H s->t D σ H->MU (MW X.prog X.w) X.A (execs st X.env) (SP X pins D) X.xe s
theorem thn{α:Type}{t:Sem α}{Q Q':α->Ms->Prop}{M:Vi}{A:Nb}{E:Mp->Ms->Prop}{s:Ms}(h:MU M A t Q E s)(hQ:∀a s,Q a s->Q' a s):MU M A t Q' E s:=Oc h hQ fun _ _ x=>x
section
variable {X:Cx}
def en(i:Nat):TE:=fun σ H Q=>∃v,σ[i]? = some (some v)/\Q v H
def tC(v:V):TE:=fun _ H Q=>Q v H
theorem EO(hN:X.N[i]? = some x)(hv:Vis X.env.scope x)(hd:(x == ("__debug__" : Str))=false:=by decide)(hcd:(x == ("__classdict__" : Str))=false:=by decide):PE X (.Name x pos) (en i):=by
 intro pins s σ H Q I h;obtain⟨v,e,h⟩:=h;obtain⟨m,hn,hl⟩:=I.loc;obtain⟨u,r,l⟩:=hl i x v hN e hv;have fin:EP X pins σ Q u s:=⟨v,H,I,r,h⟩
 rcases l with⟨hk,hm⟩|⟨hk,c,hc,hcell⟩
 .exact Ux (wpAny_loadName_local I.ok.kind hk hn hm fin) hd
 .rcases hk with hk|hk
  .exact Ux (wpAny_loadName_cell I.ok.kind hk hc hcell fin) hd
  .exact Ux (wpAny_loadName_free I.ok.kind hk hc hcell fin hcd) hd
theorem vG{i j pos}:PE X (.Constant (.int i) j pos) (tC (.int i)):=fun _ _ _ H _ I h=>SX ⟨.int i,H,I.tok _,⟨_,rfl⟩,h⟩
theorem GD{b j pos}:PE X (.Constant (.bool b) j pos) (tC (.bl b)):=fun _ _ _ H _ I h=>Constant_bool ⟨.bl b,H,I,rfl,h⟩
theorem ER{j pos}:PE X (.Constant .none j pos) (tC .non):=fun _ _ _ H _ I h=>Constant_none ⟨.non,H,I,rfl,h⟩
theorem EQ{x j pos}:PE X (.Constant (.str x) j pos) (tC (.str x)):=fun _ _ _ H _ I h=>PZ ⟨.str x,H,I.tok _,⟨_,rfl⟩,h⟩
def Gl(X:Cx)(x:Str):Prop:=X.env.kindOf x=some .globalImplicit
theorem je(I:Inv X pins σ H s)(hg:Gl X x)(hm:X.mg x=some u)(h:Q u s)
  (hd:(x == ("__debug__" : Str))=false:=by decide):MU (MW X.prog X.w) X.A (eval (.Name x pos) X.env) Q E s:=QY I.ok.kind hg (Calls.loadGlobal_global (by rw[I.ok.glob];exact I.mod.glob.keeps I.bk) hm h) hd
theorem my(I:Inv X pins σ H s)(hg:Gl X x)(hm:X.mg x=none)(hv:OA x=some u)(h:Q u s)
  (hn:x≠"__name__":=by decide) (hd:(x == ("__debug__" : Str))=false:=by decide):MU (MW X.prog X.w) X.A (eval (.Name x pos) X.env) Q E s:=by
 obtain⟨mb,h1,h2⟩:=I.mod.blt;exact QY I.ok.kind hg (Calls.loadGlobal_builtin (by rw[I.ok.glob];exact I.mod.glob.keeps I.bk) hm (by rw[I.ok.blt];exact h1.keeps I.bk) ((h2 x hn).trans hv) h) hd
theorem iB(hg:Gl X x)(hm:X.mg x=some u)(r:RelV v u)(hd:(x == ("__debug__" : Str))=false:=by decide):PE X (.Name x pos) (tC v):=fun _ _ _ H _ I h=>je I hg hm ⟨v,H,I,r,h⟩ hd
theorem lW(hg:Gl X x)(hm:X.mg x=none)(hv:OA x=some u)(r:RelV v u)(hn:x≠"__name__":=by decide)(hd:(x == ("__debug__" : Str))=false:=by decide):PE X (.Name x pos) (tC v):=fun _ _ _ H _ I h=>my I hg hm hv ⟨v,H,I,r,h⟩ hn hd
variable {a b:Expr}{ta tb:TE}{pos:Pos}
variable {tA tB':TT}{rest:List Expr}
def HD(t u:TT):TT:=fun σ H Q=>t σ H fun c H1=>if c=true then u σ H1 Q else Q false H1
def tOr(t u:TT):TT:=fun σ H Q=>t σ H fun c H1=>if c=true then Q true H1 else u σ H1 Q
def Hx(t:TT):TT:=fun σ H Q=>t σ H fun c H1=>Q (!c) H1
theorem CP(ha:PT X a tA):PW X (.BoolOp .And [a] pos) tA:=by
 intro wh pins s σ H Q I h;refine isTrue_and (thn (ha pins s σ H Q I h) fun c s1 e=>?_)
 cases c with
 |true=>exact isTrue_and_nil e
 |false=>exact e
theorem EE(ha:PT X a tA):PW X (.BoolOp .Or [a] pos) tA:=by
 intro wh pins s σ H Q I h;refine TC (thn (ha pins s σ H Q I h) fun c s1 e=>?_)
 cases c with
 |false=>exact isTrue_or_nil e
 |true=>exact e
theorem EF(ha:PT X a tA)(hb:PW X (.BoolOp .And (b::rest) pos) tB'):PW X (.BoolOp .And (a::b::rest) pos) (HD tA tB'):=by
 intro wh pins s σ H Q I h;refine isTrue_and (thn (ha pins s σ H _ I h) fun c s1 ⟨H1,I1,q1⟩=>?_)
 cases c with
 |true=>exact hb wh pins s1 σ H1 Q I1 q1
 |false=>exact⟨H1,I1,q1⟩
theorem Gu(ha:PT X a tA)(hb:PW X (.BoolOp .Or (b::rest) pos) tB'):PW X (.BoolOp .Or (a::b::rest) pos) (tOr tA tB'):=by
 intro wh pins s σ H Q I h;refine TC (thn (ha pins s σ H _ I h) fun c s1 ⟨H1,I1,q1⟩=>?_)
 cases c with
 |true=>exact⟨H1,I1,q1⟩
 |false=>exact hb wh pins s1 σ H1 Q I1 q1
theorem EG(ha:PT X a tA):PT X (.UnaryOp .Not a pos) (Hx tA):=by
 intro pins s σ H Q I h;exact isTrue_not (ha pins s σ H (fun c H1=>Q (!c) H1) I h)
def Gk(ta tb:TE):TE:=fun σ H Q=>ta σ H fun x H1=>∃c,x=.bl c/\if c=true then tb σ H1 Q else Q (.bl false) H1
def Hw(ta tb:TE):TE:=fun σ H Q=>ta σ H fun x H1=>∃c,x=.bl c/\if c=true then Q (.bl true) H1 else tb σ H1 Q
def Gg(ta:TE):TE:=fun σ H Q=>ta σ H fun x H1=>∃c,x=.bl c/\Q (.bl (!c)) H1
theorem pT{op}(h:PE X a t):PE X (.BoolOp op [a] pos) t:=fun pins s σ H Q I hw=>BoolOp_one (h pins s σ H Q I hw)
theorem vH(ha:PE X a ta)(hb:PE X (.BoolOp .And (b::rest) pos) tb):PE X (.BoolOp .And (a::b::rest) pos) (Gk ta tb):=by
 intro pins s σ H Q I h;refine BoolOp_and (thn (ha pins s σ H _ I h) fun v s1 ⟨x,H1,I1,r1,q1⟩=>?_);obtain⟨c,rfl,q1⟩:=q1;cases r1;refine N0 ?_
 cases c with
 |true=>exact hb pins s1 σ H1 Q I1 q1
 |false=>exact⟨.bl false,H1,I1,rfl,q1⟩
theorem wx(ha:PE X a ta)(hb:PE X (.BoolOp .Or (b::rest) pos) tb):PE X (.BoolOp .Or (a::b::rest) pos) (Hw ta tb):=by
 intro pins s σ H Q I h;refine BoolOp_or (thn (ha pins s σ H _ I h) fun v s1 ⟨x,H1,I1,r1,q1⟩=>?_);obtain⟨c,rfl,q1⟩:=q1;cases r1;refine N0 ?_
 cases c with
 |false=>exact hb pins s1 σ H1 Q I1 q1
 |true=>exact⟨.bl true,H1,I1,rfl,q1⟩
theorem vD(ha:PE X a ta):PE X (.UnaryOp .Not a pos) (Gg ta):=by
 intro pins s σ H Q I h;refine UnaryOp_ (thn (ha pins s σ H _ I h) fun v s1 ⟨x,H1,I1,r1,q1⟩=>?_);obtain⟨c,rfl,q1⟩:=q1;cases r1;exact not_of (N0 ⟨.bl (!c),H1,I1,rfl,q1⟩)
def tIf(t:TT)(ta tb:TE):TE:=fun σ H Q=>t σ H fun c H1=>if c=true then ta σ H1 Q else tb σ H1 Q
theorem Bv(hc:PT X c tA)(ha:PE X a ta)(hb:PE X b tb):PE X (.IfExp c a b pos) (tIf tA ta tb):=by
 intro pins s σ H Q I h;refine wpAny_IfExp (thn (hc pins s σ H _ I h) fun d s1 ⟨H1,I1,q1⟩=>?_)
 cases d with
 |true=>exact ha pins s1 σ H1 Q I1 q1
 |false=>exact hb pins s1 σ H1 Q I1 q1
end
def SqL(K:Frag)(H:Hp)(a:Addr)(xs:List V):Prop:=
 Rd H a (.lst xs) \/
  ∃(o:Obj) (its:Array Mp) (n:Nat),K.lookup a=some o/\o.cls=.type "list"/\o.dict=none/\o.data=.seq its n/\its.size<=Mz/\Vals xs its.toList
def SqT(K:Frag)(H:Hp)(a:Addr)(xs:List V):Prop:=
 Rd H a (.tup xs) \/
  ∃(o:Obj) (its:Array Mp) (n:Nat),K.lookup a=some o/\o.cls=.type "tuple"/\o.data=.seq its n/\its.size<=Mz/\Vals xs its.toList
def Ia:Mp->Option V
 |.none=>some .non
 |.bool b=>some (.bl b)
 |.int i _=>some (.int i)
 |.str x _=>some (.str x)
 |.bytes b _=>some (.byt b)
 |.float b _=>some (.flt b)
 |.ref a=>some (.ref a)
 |.type n=>some (.ty n)
 |_=>none
theorem RelV.abs(r:RelV x u):Ia u=some x:=by
 cases x with
 |non=>cases r;rfl
 |bl _=>cases r;rfl
 |int _=>obtain⟨t,rfl⟩:=r;rfl
 |str _=>obtain⟨t,rfl⟩:=r;rfl
 |byt _=>obtain⟨t,rfl⟩:=r;rfl
 |flt _=>obtain⟨t,rfl⟩:=r;rfl
 |ref _=>cases r;rfl
 |ty _=>cases r;rfl
theorem RelV.inj(r:RelV x u)(q:RelV y u):x=y:=Nm (r.abs.symm.trans q.abs)
theorem Vals.inj:∀{xs ys:List V}{us:List Mp},Vals xs us->Vals ys us->xs=ys
 |_,_,_,.nil,.nil=>rfl
 |_,_,_,.cons r t,.cons r' t'=>by rw[r.inj r',Vals.inj t t']
section
variable {X:Cx}{pins:List (Addr×Obj)}{σ:St}{H:Hp}{s:Ms}{a:Addr}{xs ys:List V}
theorem SqL.of{K:Frag}(h:H a=some (.lst xs)):SqL K H a xs:=.inl (.inl h)
theorem Inv.list(I:Inv X pins σ H s)(h:SqL X.K H a xs):∃its:List Mp,Vals xs its/\PlainL s.heap a its.toArray/\xs.length<=sizeLine:=by
 rcases h with h|⟨o,its,n,hk,hc,hd,hs,hz,r⟩
 .obtain⟨z,its,n,r,e⟩:=h.ok I.hok
  exact⟨its,r,⟨_,n,e,rfl,rfl,rfl⟩,z⟩
 .refine⟨its.toList,r,⟨o,n,I.kIn a o hk,hc,hd,by simpa using hs⟩,?_⟩
  have e:=r.length;simp only[NN] at e;omega
theorem Inv.tuple(I:Inv X pins σ H s)(h:SqT X.K H a xs):∃its:List Mp,Vals xs its/\Tb s.heap a its.toArray/\xs.length<=sizeLine:=by
 rcases h with h|⟨o,its,n,hk,hc,hs,hz,r⟩
 .obtain⟨z,its,r,p⟩:=h.ok I.hok
  exact⟨its,r,p,z⟩
 .refine⟨its.toList,r,⟨o,I.kIn a o hk,hc,n,by simpa using hs⟩,?_⟩
  have e:=r.length;simp only[NN] at e;omega
theorem Inv.list_inj(I:Inv X pins σ H s)(h:SqL X.K H a xs)(h':SqL X.K H a ys):xs=ys:=by
 obtain⟨its,r,⟨o,n,e,_,_,d⟩,_⟩:=I.list h;obtain⟨its',r',⟨o',n',e',_,_,d'⟩,_⟩:=I.list h';rw[e] at e';cases e';rw[d] at d'
 injection d' with d1 _
 have:its=its':=by simpa using congrArg Vs d1
 subst this;exact r.inj r'
theorem Inv.tuple_inj(I:Inv X pins σ H s)(h:SqT X.K H a xs)(h':SqT X.K H a ys):xs=ys:=by
 obtain⟨its,r,⟨o,e,_,n,d⟩,_⟩:=I.tuple h;obtain⟨its',r',⟨o',e',_,n',d'⟩,_⟩:=I.tuple h';rw[e] at e';cases e';rw[d] at d'
 injection d' with d1 _
 have:its=its':=by simpa using congrArg Vs d1
 subst this;exact r.inj r'
end
abbrev Cx.wish(X:Cx)(E:Mp->Ms->Prop):Cx:={ X with xe:=E }
abbrev Cx.nox(X:Cx):Cx:=X.wish fun _ _=>False
theorem Cx.Ok.wish{X:Cx}(ok:X.Ok)(E:Mp->Ms->Prop):(X.wish E).Ok:=⟨ok.mod,ok.kind,ok.glob,ok.blt,ok.above,ok.inj,ok.has,ok.cab,ok.hd,ok.frames,ok.stk,ok.exf,ok.bs,ok.bsz,ok.noex,ok.exfs,ok.funs,ok.frf⟩
theorem Cx.Ok.unwish{X:Cx}{E:Mp->Ms->Prop}(ok:(X.wish E).Ok):X.Ok:=⟨ok.mod,ok.kind,ok.glob,ok.blt,ok.above,ok.inj,ok.has,ok.cab,ok.hd,ok.frames,ok.stk,ok.exf,ok.bs,ok.bsz,ok.noex,ok.exfs,ok.funs,ok.frf⟩
section
variable {X:Cx}{pins:List (Addr×Obj)}{σ:St}{H:Hp}{s:Ms}{E:Mp->Ms->Prop}
theorem Inv.wish(I:Inv X pins σ H s)(E:Mp->Ms->Prop):Inv (X.wish E) pins σ H s:=⟨I.ok.wish E,I.os,I.bare,I.base,I.loc,I.cell,I.free,I.freeC,I.pin,I.hok,I.len⟩
theorem Inv.unwish(I:Inv (X.wish E) pins σ H s):Inv X pins σ H s:=⟨I.ok.unwish,I.os,I.bare,I.base,I.loc,I.cell,I.free,I.freeC,I.pin,I.hok,I.len⟩
theorem SP.unwish(h:SP (X.wish E) pins D f s'):SP X pins D f s':=by
 cases f with
 |next=>obtain⟨σ',H',I,q⟩:=h;exact⟨σ',H',I.unwish,q⟩
 |brk=>obtain⟨σ',H',I,q⟩:=h;exact⟨σ',H',I.unwish,q⟩
 |cont=>obtain⟨σ',H',I,q⟩:=h;exact⟨σ',H',I.unwish,q⟩
 |ret u=>obtain⟨v,σ',H',I,r,q⟩:=h;exact⟨v,σ',H',I.unwish,r,q⟩
theorem PSs.nox{st:List Stmt}{t:TS}(h:PSs X.nox st t):PSs X st t:=fun pins s σ H D I hw=>
 Oc (h pins s σ H D (I.wish _) hw) (fun _ _ q=>q.unwish) fun _ _ z=>NF z
end
section
variable {X:Cx}{st:Stmt}{rest:List Stmt}{t u:TS}{e:Expr}{te:TE}{pos:Pos}
def Gi:TS:=fun D σ H=>D.nx σ H
def qw(t u:TS):TS:=fun D σ H=>t { D with nx:=u D } σ H
theorem oW:PSs X [] Gi:=fun _ _ σ H _ I h=>Ov ⟨σ,H,I,h⟩
theorem f9(h1:PS X st t)(h2:PSs X rest u):PSs X (st::rest) (qw t u):=by
 intro pins s σ H D I h;refine PB (thn (h1 pins s σ H { D with nx:=u D } I h) fun f s1 q=>?_)
 cases f with
 |next=>
  obtain⟨σ',H',I',q⟩:=q;exact h2 pins s1 σ' H' D I' q
 |ret v=>exact q
 |brk=>exact q
 |cont=>exact q
theorem iz(h1:PS X st t):PSs X [st] t:=by
 intro pins s σ H D I h;refine PB (thn (h1 pins s σ H D I h) fun f s1 q=>?_)
 cases f with
 |next=>exact Ov q
 |ret v=>exact q
 |brk=>exact q
 |cont=>exact q
theorem Inv.quiet(I:Inv X pins σ H s):interactive X.env=false:=by simp[interactive,I.ok.kind]
def wc(te:TE):TS:=fun D σ H=>te σ H fun _ H1=>D.nx σ H1
theorem lU(he:PE X e te)(hs:NX e none pos.line X.env=pure false:=by rfl):PS X (.Expr e pos) (wc te):=by
 intro pins s σ H D I h;exact wpAny_Expr_any (thn (he pins s σ H _ I h) fun v s1 ⟨x,H1,I1,r1,q1⟩=>⟨σ,H1,I1,q1⟩) I.quiet hs
def Hv(te:TE):TS:=fun D σ H=>te σ H D.rt
theorem ka(he:PE X e te):PS X (.Return (some e) pos) (Hv te):=by
 intro pins s σ H D I h;exact wpAny_Return_some (thn (he pins s σ H _ I h) fun v s1 ⟨x,H1,I1,r1,q1⟩=>⟨x,σ,H1,I1,r1,q1⟩)
def Hz(c:TT)(t u:TS):TS:=fun D σ H=>c σ H fun b H1=>if b=true then t D σ H1 else u D σ H1
theorem qj(hc:PT X c tc)(ha:PSs X a t)(hb:PSs X b u):PS X (.If c a b pos) (Hz tc t u):=by
 intro pins s σ H D I h;refine wpAny_If (thn (hc pins s σ H _ I h) fun d s1 ⟨H1,I1,q1⟩=>?_)
 cases d with
 |true=>exact ha pins s1 σ H1 D I1 q1
 |false=>exact hb pins s1 σ H1 D I1 q1
end
abbrev TG:=V->St->Hp->(St->Hp->Prop)->Prop
abbrev TGs:=List V->St->Hp->(St->Hp->Prop)->Prop
def PG(X:Cx)(target:Expr)(t:TG):Prop:=
 ∀(pins:List (Addr×Obj)) (s:Ms) (σ:St) (H:Hp) (v:V) (u:Mp) (Q:St->Hp->Prop),Inv X pins σ H s->RelV v u->t v σ H Q ->
  MU (MW X.prog X.w) X.A (Rm target X.env u) (fun _ s'=>∃σ' H',Inv X pins σ' H' s'/\Q σ' H') X.xe s
def PGs(X:Cx)(ts:List Expr)(t:TGs):Prop:=
 ∀(pins:List (Addr×Obj)) (s:Ms) (σ:St) (H:Hp) (vs:List V) (us:List Mp) (Q:St->Hp->Prop),Inv X pins σ H s->Vals vs us->t vs σ H Q ->
  MU (MW X.prog X.w) X.A (assignInOrder ((P0 ts X.env).map (·.2)) us) (fun _ s'=>∃σ' H',Inv X pins σ' H' s'/\Q σ' H') X.xe s
abbrev qP:=V->V->V->Hp->(Hp->Prop)->Prop
def xU(X:Cx)(t:qP):Prop:=
 ∀(pins:List (Addr×Obj)) (s:Ms) (σ:St) (H:Hp) (o i v:V) (ov iv u:Mp) (Q:Hp->Prop),Inv X pins σ H s->RelV o ov->RelV i iv->RelV v u->t o i v H Q ->
  MU (MW X.prog X.w) X.A (Vt ov iv u) (fun _ s'=>∃H',Inv X pins σ H' s'/\Q H') X.xe s
section
variable {X:Cx}{pos:Pos}
def wQ(i:Nat):TG:=fun v σ H Q=>Q (σ.set i (some v)) H
theorem lV(hN:X.N.Nodup)(hi:X.N[i]? = some x)(hx:Loc X.env.scope x)(hf:X.fn x=true\/X.env.scope.names.lookup x=some .local:=by first|exact .inl rfl|exact .inr rfl|assumption):PG X (.Name x pos) (wQ i):=by
 intro pins s σ H v u Q I r h;exact Rf (lF I hN hi hx r (fun s' I'=>⟨_,H,I',h⟩) hf)
def HW:TGs:=fun vs σ H Q=>vs=[]/\Q σ H
def G6(t:TG)(u:TGs):TGs:=fun vs σ H Q=>∃v r,vs=v::r/\t v σ H fun σ' H'=>u r σ' H' Q
theorem C5:PGs X [] HW:=by
 intro pins s σ H vs us Q I r h;obtain⟨e,h⟩:=h;subst e;cases r;exact assignInOrder_nil ⟨σ,H,I,h⟩
theorem tP(h1:PG X e t)(h2:PGs X es u)
  (hs:(P0 (e::es) X.env).map (·.2)=Rm e X.env::(P0 es X.env).map (·.2):=by rfl):PGs X (e::es) (G6 t u):=by
 intro pins s σ H vs us Q I r h;obtain⟨v,vr,e1,h⟩:=h;subst e1
 cases r with
 |cons r rr=>
  rw[hs];refine assignInOrder_cons (thn (h1 pins s σ H _ _ _ I r h) fun _ s1 ⟨σ1,H1,I1,q1⟩=>?_);exact h2 pins s1 σ1 H1 _ _ Q I1 rr q1
def HU(K:Frag)(n:Nat)(t:TGs):TG:=fun v σ H Q=>∃a xs,v=.ref a/\SqT K H a xs/\xs.length=n/\t xs σ H Q
theorem EL(hc:X.calm=true)(h:PGs X es t)
  (hn:(P0 es X.env).length=n:=by rfl) (hst:(P0 es X.env).findIdx? (·.1)=none:=by rfl):PG X (.Tuple es k pos) (HU X.K n t):=by
 intro pins s σ H v u Q I r hw;obtain⟨a,xs,e1,hq,hl,hw⟩:=hw;subst e1;cases r;obtain⟨its,rv,ht,hz⟩:=I.tuple hq;refine assign_Tuple_tuple (I.ok.hd hc) ht (by simp[hn,←hl,rv.length]) hst fun h' hx=>?_;have I1:Inv X pins σ H { s with heap:=h' }:=I.kept (t':=s.toks) fun b o e=>hx b o (MO (MB e)) e;exact h pins _ σ H xs _ Q I1 (by simpa using rv) hw
def HV(to ti:TE)(t:qP):TG:=fun v σ H Q=>to σ H fun o H1=>ti σ H1 fun i H2=>t o i v H2 fun H3=>Q σ H3
theorem EM(ho:PE X o to)(hi:PE X i ti)(hs:xU X t)
  (ha:∀v,Rm (.Subscript o i pos) X.env v=(do
   let ov ←Rh [v] (eval o X.env)
   let iv ←Rh [v,ov] (eval i X.env)
   Us pos
   Rh [v,ov,iv] (Vt ov iv v)
   release [v,ov,iv] []):=by intro _;rfl):PG X (.Subscript o i pos) (HV to ti t):=by
 intro pins s σ H v u Q I r h;rw[ha];refine Mu (Ob (thn (ho pins s σ H _ I h) fun ov s1 ⟨x,H1,I1,r1,q1⟩=>?_));refine Mu (Ob (thn (hi pins s1 σ H1 _ I1 q1) fun iv s2 ⟨y,H2,I2,r2,q2⟩=>?_));refine Mu (Rn (Mu (Ob (thn (hs pins s2 σ H2 x y v ov iv u _ I2 r1 r2 r q2) fun _ s3 ⟨H3,I3,q3⟩=>?_))));exact wpAny_release ⟨σ,H3,I3,q3⟩
def xq(te:TE)(g:TG):TS:=fun D σ H=>te σ H fun x H1=>g x σ H1 D.nx
theorem vA(he:PE X e te)(hg:PG X tg g)(hs:SN [tg] e pos.line X.env=pure false:=by rfl)(hw:SO [tg] e X.env=pure none:=by rfl)
  (h1:(P0 [tg] X.env).map (·.2)=[Rm tg X.env]:=by rfl):PS X (.Assign [tg] e pos) (xq te g):=by
 intro pins s σ H D I h;refine wpAny_Assign_stores (thn (he pins s σ H _ I h) fun v s1 ⟨x,H1,I1,r1,q1⟩=>?_) hs hw;rw[h1];exact thn (hg pins s1 σ H1 x v _ I1 r1 q1) fun _ s2 q=>q
theorem gi(hN:X.N.Nodup)(hi:X.N[i]? = some x)(hx:Loc X.env.scope x)(he:PE X e te)(hs:NX e (some (.Name x pos')) pos.line X.env=pure false:=by rfl)(hf:X.fn x=true\/X.env.scope.names.lookup x=some .local:=by first|exact .inl rfl|exact .inr rfl|assumption) :
  PS X (.Assign [.Name x pos'] e pos) (xq te (wQ i)):=by
 intro pins s σ H D I h;refine wpAny_Assign_Name (thn (he pins s σ H _ I h) fun v s1 ⟨y,H1,I1,r1,q1⟩=>?_) hs;exact lF I1 hN hi hx r1 (fun s2 I2=>⟨_,H1,I2,q1⟩) hf
def Em(c:TT)(tb:TS):TS:=fun D σ H=>∃W:Nat->St->Hp->Prop,(∃m,W m σ H)/\∀m σ H,W m σ H ->
 c σ H fun b H1=>if b=true then ∃N:St->Hp->Prop,(∀σ' H',N σ' H'->∃m',m' < m/\W m' σ' H')/\tb { D with nx:=N,ct:=N,bk:=D.nx } σ H1 else D.nx σ H1
theorem Bq(hp:Rq (MW X.prog X.w) X.A X.env X.xe)(hc:PT X c tc)(hb:PSs X body tb):PS X (.While c body [] pos) (Em tc tb):=by
 intro pins s σ H D I h;obtain⟨W,⟨m0,w0⟩,turn⟩:=h;refine wpAny_While (codeAny_whileLoop (fun n s'=>∃σ' H',Inv X pins σ' H' s'/\W n σ' H') ?_ m0 ⟨σ,H,I,w0⟩);rintro n s1 ⟨σ1,H1,I1,w1⟩;refine NL hp (thn (hc pins s1 σ1 H1 _ I1 (turn n σ1 H1 w1)) fun b s2 ⟨H2,I2,q2⟩=>?_)
 cases b with
 |true=>
  obtain⟨N,hN,q2⟩:=q2;rw[if_pos rfl];refine NL hp (thn (hb pins s2 σ1 H2 _ I2 q2) fun f s3 q3=>?_)
  cases f with
  |next=>
   obtain⟨σ3,H3,I3,n3⟩:=q3;obtain⟨m',hm,w3⟩:=hN σ3 H3 n3;exact⟨m',hm,σ3,H3,I3,w3⟩
  |cont=>
   obtain⟨σ3,H3,I3,n3⟩:=q3;obtain⟨m',hm,w3⟩:=hN σ3 H3 n3;exact⟨m',hm,σ3,H3,I3,w3⟩
  |brk=>exact q3
  |ret v=>exact q3
 |false=>
  rw[if_neg MF];exact Ov ⟨σ1,H2,I2,q2⟩
end
structure It where
 go:Nat->Hp->Prop
 yld:Nat->Hp->V->Hp->Prop
 stop:Nat->Hp->Prop
def dX(X:Cx)(pins:List (Addr×Obj))(H:Hp)(b:Addr):Prop:=H b=none/\b≠X.env.locals/\b∉X.fs/\(b∈X.ex\/X.s₀.heap.objs.size<=b)/\(∀x c,X.env.cells.lookup x=some c->c≠b)/\∀p∈X.pn++pins,p.1≠b
theorem Inv.fpOk(I:Inv X pins σ H s)(hb:s.heap.objs.size<=b)(hn:H' b=none):dX X pins H' b:=by
 refine⟨hn,PC (ME I.lt hb),I.nofs hb,.inr (MP I.sz hb),fun x c e z=>?_,fun p hp z=>?_⟩
 .obtain⟨v,q⟩:=I.cell x c e
  exact absurd (ME q.lt (by rw[z];exact hb)) (NM _)
 .exact absurd (ME (MB (I.pin p hp).1) (by rw[z];exact hb)) (NM _)
structure Turn(P:MA)(w:ML)(K:Frag)(tg:Expr)(J:It)(fp:List Addr)(it:Addr)(tn:Nat->Heap->Prop):Prop where
 mem:it∈fp
 obj:∀i h,tn i h->∀b∈fp,∃o,h.get? b=some o/\∀v,o.data≠.cell v
 keep:∀i h h',tn i h->(∀b∈fp,∀o,h.get? b=some o->h'.get? b=some o)->tn i h'
 item:∀(X:Cx),X.prog=P->X.w=w->X.K=K->X.calm=true->∀(i:Nat) (pins:List (Addr×Obj)) (s:Ms) (σ:St) (H:Hp) (E:Mp->Ms->Prop),Inv X pins σ H s->(∀b∈fp,dX X pins H b)->tn i s.heap->J.go i H ->
  MU (MW P w) X.A (pyNext (.ref it)) (fun r s1=>∃u,r=some u /\
   MU (MW P w) X.A (QG tg (.ref it) u) (fun _ s2=>∃x H',Inv X pins σ H' s2/\RelV x u/\J.yld i H x H'/\tn (i+1) s2.heap/\∀b∈fp,H' b=none) E s1) E s
 done:∀(X:Cx),X.prog=P->X.w=w->X.K=K->X.calm=true->∀(i:Nat) (pins:List (Addr×Obj)) (s:Ms) (σ:St) (H:Hp) (E:Mp->Ms->Prop),Inv X pins σ H s->(∀b∈fp,dX X pins H b)->tn i s.heap->J.stop i H ->
  MU (MW P w) X.A (pyNext (.ref it)) (fun r s1=>r=none/\Inv X pins σ H s1) E s
 self:∀(A:Nb) (i:Nat) (s:Ms) (Q:Mp->Ms->Prop) (E:Mp->Ms->Prop),tn i s.heap->Q (.ref it) s->MU (MW P w) A (pyIter (.ref it)) Q E s
abbrev TI:=St->Hp->(It->Hp->Prop)->Prop
def PIE(X:Cx)(pins:List (Addr×Obj))(σ:St)(tg:Expr)(R:It->Hp->Prop)(itv:Mp)(s2:Ms):Prop:=∃(it:Addr) (fp:List Addr) (tn:Nat->Heap->Prop) (J:It) (H':Hp),itv=.ref it/\Inv X pins σ H' s2/\Turn X.prog X.w X.K tg J fp it tn/\tn 0 s2.heap/\(∀b∈fp,dX X pins H' b)/\R J H'
def PI(X:Cx)(tg iter:Expr)(wi:TI):Prop:=
 ∀(pins:List (Addr×Obj)) (s:Ms) (σ:St) (H:Hp) (R:It->Hp->Prop),Inv X pins σ H s->wi σ H R ->
  MU (MW X.prog X.w) X.A (eval iter X.env) (fun v s1=>MU (MW X.prog X.w) X.A (pyIter v) (PIE X pins σ tg R) X.xe s1) X.xe s
theorem kE(ho:s.heap.get? it=some o)(hc:o.cls=.type n)(hd:o.data=.fields vs)
  (hn:["enumerate","zip","dict_itemiterator","dict_reverseitemiterator","odict_iterator","itertools.zip_longest","itertools.pairwise"].contains n=false) (hQ:Q () s):MU M A (QG tg (.ref it) u) Q E s:=by
 unfold QG
 cases tg <;> first
  |exact MI hQ
  | (cases u <;> first
    |exact MI hQ
    | (refine Mu (Uy ho ?_)
       rw[hc,hd];show MU M A (if (["enumerate","zip","dict_itemiterator","dict_reverseitemiterator","odict_iterator","itertools.zip_longest","itertools.pairwise"].contains n&&vs[0]? == some (Sd _))=true then _ else _) Q E s;rw[if_neg (by intro h;rw[hn,Bool.false_and] at h;cases h)]
       exact MI hQ))
def Itl(K:Frag)(a:Addr):It:=⟨fun i H=>∃xs x,SqL K H a xs/\xs[i]? = some x,fun i H x H'=>H'=H/\∀xs,SqL K H a xs->xs[i]? = some x,fun i H=>∃xs,SqL K H a xs/\xs.length<=i⟩
def Itt(K:Frag)(a:Addr):It:=⟨fun i H=>∃xs x,SqT K H a xs/\xs[i]? = some x,fun i H x H'=>H'=H/\∀xs,SqT K H a xs->xs[i]? = some x,fun i H=>∃xs,SqT K H a xs/\xs.length<=i⟩
def Itr(lo:Int)(n:Nat):It:=⟨fun i _=>i<n,fun i H x H'=>H'=H/\x=.int (lo+i),fun i _=>n<=i⟩
theorem rX{P:MA}{w:ML}{K:Frag}{tg:Expr}(a it:Addr):Turn P w K tg (Itl K a) [it] it (fun i h=>h.IsListIter it a i) where
 mem:=by simp
 obj:=fun i h st b hb=>by
  have e:b=it:=by simpa using hb
  subst e;obtain⟨o,e,c,d⟩:=st;exact⟨o,e,fun v z=>by rw[d] at z;cases z⟩
 keep:=fun i h h' st k=>st.at fun o e=>k it (by simp) o e
 item:=by
  intro X hP hw hK hc i pins s σ H E I hf st hg;subst hP hw hK;obtain⟨xs,x,hq,hx⟩:=hg;obtain⟨its,rv,p,hz⟩:=I.list hq;obtain⟨u,hu,ru⟩:=rv.get hx;obtain⟨f0,f1,f2,f3,f4,f5⟩:=hf it (by simp);refine RG st p.isList (x:=u) (by simpa using hu) fun h' st' sb=>?_;have I1:Inv X pins σ H { s with heap:=h' }:=I.turned (t':=s.toks) (fun b o hb e=>(sb.2 b hb).trans e) f0 f1 f3 f4 f5;obtain⟨o,e,c,d⟩:=id st';exact⟨u,rfl,kE (s:={ s with heap:=h' }) e c d (by decide) ⟨x,H,I1,ru,⟨rfl,fun ys hy=>by rw[I.list_inj hy hq];exact hx⟩,st',fun b hb=>(hf b hb).1⟩⟩
 done:=by
  intro X hP hw hK hc i pins s σ H E I hf st hg;subst hP hw hK;obtain⟨xs,hq,hx⟩:=hg;obtain⟨its,rv,p,hz⟩:=I.list hq;obtain⟨f0,f1,f2,f3,f4,f5⟩:=hf it (by simp);have hl:=rv.length;exact R7 (I.ok.hd hc) st p.isList (by simp;omega) fun h' eb=>⟨rfl,I.turned (t':=s.toks) (fun b o hb e=>eb b o hb e) f0 f1 f3 f4 f5⟩
 self:=fun _ _ _ _ _ st h=>wpAny_pyIter_listiter st h
theorem zC{P:MA}{w:ML}{K:Frag}{tg:Expr}(a it:Addr):Turn P w K tg (Itt K a) [it] it (fun i h=>h.IsTupleIter it a i) where
 mem:=by simp
 obj:=fun i h st b hb=>by
  have e:b=it:=by simpa using hb
  subst e;obtain⟨o,e,c,d⟩:=st;exact⟨o,e,fun v z=>by rw[d] at z;cases z⟩
 keep:=fun i h h' st k=>st.at fun o e=>k it (by simp) o e
 item:=by
  intro X hP hw hK hc i pins s σ H E I hf st hg;subst hP hw hK;obtain⟨xs,x,hq,hx⟩:=hg;obtain⟨its,rv,p,hz⟩:=I.tuple hq;obtain⟨u,hu,ru⟩:=rv.get hx;obtain⟨f0,f1,f2,f3,f4,f5⟩:=hf it (by simp);refine wpAny_pyNext_tuple_item st (show s.heap.IsTuple a its.toArray from p) (x:=u) (by simpa using hu) fun h' st' sb=>?_;have I1:Inv X pins σ H { s with heap:=h' }:=I.turned (t':=s.toks) (fun b o hb e=>(sb.2 b hb).trans e) f0 f1 f3 f4 f5;obtain⟨o,e,c,d⟩:=id st';exact⟨u,rfl,kE (s:={ s with heap:=h' }) e c d (by decide) ⟨x,H,I1,ru,⟨rfl,fun ys hy=>by rw[I.tuple_inj hy hq];exact hx⟩,st',fun b hb=>(hf b hb).1⟩⟩
 done:=by
  intro X hP hw hK hc i pins s σ H E I hf st hg;subst hP hw hK;obtain⟨xs,hq,hx⟩:=hg;obtain⟨its,rv,p,hz⟩:=I.tuple hq;obtain⟨f0,f1,f2,f3,f4,f5⟩:=hf it (by simp);have hl:=rv.length;exact wpAny_pyNext_tuple_end (I.ok.hd hc) st (show s.heap.IsTuple a its.toArray from p) (by simp;omega) fun h' eb=>⟨rfl,I.turned (t':=s.toks) (fun b o hb e=>eb b o hb e) f0 f1 f3 f4 f5⟩
 self:=fun _ _ _ _ _ st h=>wpAny_pyIter_tupleiter st h
theorem zD{P:MA}{w:ML}{K:Frag}{tg:Expr}(it:Addr)(lo:Int)(n:Nat):Turn P w K tg (Itr lo n) [it] it (fun i h=>IsRangeIter h it (lo+(i:Nat)*1) ((n:Int)-(i:Nat)) 1) where
 mem:=by simp
 obj:=fun i h st b hb=>by
  have e:b=it:=by simpa using hb
  subst e
  exact⟨_,st,fun v z=>by
   have z':VF _=Data.cell v:=z
   cases z'⟩
 keep:=fun i h h' st k=>k it (by simp) _ st
 item:=by
  intro X hP hw hK hc i pins s σ H E I hf st hg;subst hP hw hK;obtain⟨f0,f1,f2,f3,f4,f5⟩:=hf it (by simp);have W:=Walks.range (prog:=X.prog) (w:=X.w) (I.ok.hd hc) it lo 1 n;refine W.item i s _ _ hg st fun v h' tk hv st' kk=>?_;obtain⟨t,rfl⟩:=hv;have I1:Inv X pins σ H { s with heap:=h',toks:=tk }:=I.turned (fun b o hb e=>kk b o (by simpa using hb) e) f0 f1 f3 f4 f5;refine⟨_,rfl,kE (s:={ s with heap:=h',toks:=tk }) (n:="range_iterator") st' rfl rfl (by decide) ⟨.int (lo+i),H,I1,⟨t,?_⟩,⟨rfl,rfl⟩,st',fun b hb=>(hf b hb).1⟩⟩;rw[Int.mul_one]
 done:=by
  intro X hP hw hK hc i pins s σ H E I hf st hg;subst hP hw hK;obtain⟨f0,f1,f2,f3,f4,f5⟩:=hf it (by simp);exact wpAny_pyNext_range_end (I.ok.hd hc) st (by have:n<=i:=hg;omega) fun h' eb=>⟨rfl,I.turned (t':=s.toks) (fun b o hb e=>eb b o hb e) f0 f1 f3 f4 f5⟩
 self:=fun _ _ _ _ _ st h=>wpAny_pyIter_rangeiter st h
section
variable {X:Cx}{tg:Expr}
theorem Bj{pins:List (Addr×Obj)}{σ:St}{H:Hp}{s:Ms}{R:It->Hp->Prop}{E:Mp->Ms->Prop}{lo hi:Int}{t u v:Tok}{tk:Nat}(I:Inv X pins σ H s)(h1 : -(2^62)<=lo)(h2:lo<2^62)(h3 : -(2^62)<=hi)(h4:hi<2^62)
  (q:R (Itr lo (hi-lo).toNat) H):MU (MW X.prog X.w) X.A (pyIter (.ref s.heap.objs.size)) (PIE X pins σ tg R) E { s with heap:=s.heap.push { cls:=.type "range",data:=.fields #[.int lo t,.int hi u,.int 1 v] },toks:=tk }:=by
 refine wpAny_pyIter_range (IsRange.new ..) (small_one h1 h2 h3 h4) ?_;have I1:Inv X pins σ H { s with heap:=s.heap.push { cls:=.type "range",data:=.fields #[.int lo t,.int hi u,.int 1 v] },toks:=tk }:=I.kept fun b o e=>Mt _ e
 refine⟨(s.heap.push { cls:=.type "range",data:=.fields #[.int lo t,.int hi u,.int 1 v] }).objs.size,[(s.heap.push { cls:=.type "range",data:=.fields #[.int lo t,.int hi u,.int 1 v] }).objs.size],_,_,H,rfl,
  I1.kept (t':=tk) fun b o e=>Mt _ e,zD _ lo (hi-lo).toNat,?_,fun b hb=>?_,q⟩
 .have e1:lo+((0:Nat):Int)*1=lo:=by simp
  have e2:(((hi-lo).toNat:Nat):Int)-((0:Nat):Int)=Vj lo hi 1:=by rw[rangeSize_one];split <;> omega
  show IsRangeIter _ _ (lo+((0:Nat):Int)*1) ((((hi-lo).toNat:Nat):Int)-((0:Nat):Int)) 1;rw[e1,e2];exact MZ _ rfl
 .have e:b=(s.heap.push { cls:=.type "range",data:=.fields #[.int lo t,.int hi u,.int 1 v] }).objs.size:=by simpa using hb
  subst e;exact I1.fpOk (MC _) (I1.hok.fresh (MC _))
def G5(ta:TA):TI:=fun σ H R=>ta σ H fun vs H1=>∃j:Int,vs=[.int j]/\-(2^62)<=j/\j<2^62/\R (Itr 0 j.toNat) H1
theorem Ai(hg:Gl X "range")(hm:X.mg "range"=none)(ha:PA X [a] ta)(hs:Mw [a] X.env=[(false,eval a X.env)]:=by rfl):PI X tg (.Call (.Name "range" p) [a] [] pos) (G5 ta):=by
 intro pins s σ H R I h;refine Call_ (my I hg hm boot_range (QN (thn (ha pos pins s σ H _ I h) fun us s1 ⟨vs,H1,I1,r1,q1⟩=>?_) hs rfl));obtain⟨j,e,q1,q2,q⟩:=q1;subst e
 cases r1 with
 |cons r rr=>
  cases rr;obtain⟨t,rfl⟩:=r;exact call_range_1 (Bj I1 (by omega) (by omega) q1 q2 (by simpa using q))
def xp(wi:TI)(g:TG)(tb:TS):TS:=fun D σ H=>wi σ H fun J H1=>∃W:Nat->Nat->St->Hp->Prop,(∃m,W 0 m σ H1)/\∀i m σ H,W i m σ H ->
 (J.stop i H/\D.nx σ H)\/(J.go i H/\∃N:St->Hp->Prop,(∀σ' H',N σ' H'->∃m',m' < m/\W (i+1) m' σ' H')/\∀x H',J.yld i H x H'->g x σ H' fun σ2 H2=>tb { D with nx:=N,ct:=N,bk:=D.nx } σ2 H2)
def gj(fp:List Addr)(h:Heap):List (Addr×Obj):=fp.filterMap fun b=>(h.get? b).map fun o=>(b,o)
theorem i4(hb:b∈fp)(e:h.get? b=some o):(b,o)∈gj fp h:=SY.mpr ⟨b,hb,by rw[e];rfl⟩
theorem An(hp:p∈gj fp h):p.1∈fp/\h.get? p.1=some p.2:=by
 obtain⟨b,hb,e⟩:=SY.mp hp
 cases q:h.get? b with
 |none=>rw[q] at e;cases e
 |some o=>
  rw[q] at e;have e':(b,o)=p:=Nm e;subst e';exact⟨hb,q⟩
theorem Inv.pinned(I:Inv X pins σ H s)(hf:∀b∈fp,dX X pins H b)(ho:∀b∈fp,∃o,s.heap.get? b=some o/\∀v,o.data≠.cell v):Inv X (pins++gj fp s.heap) σ H s:=
 I.pins_of fun p hp=>(MN.mp hp).elim (fun z=>I.pin p (M3 _ z)) fun z=>by
  obtain⟨hb,e⟩:=An z;obtain⟨f0,f1,f2,_⟩:=hf p.1 hb;obtain⟨o,e',d⟩:=ho p.1 hb;rw[e] at e';cases e';exact⟨e,f0,f1,f2,d⟩
theorem Inv.unpinned(I:Inv X (pins++pl) σ H s):Inv X pins σ H s:=I.pins_of fun p hp=>I.pin p (M3 _ (NS _ hp))
theorem EJ(hp:Rq (MW X.prog X.w) X.A X.env X.xe)(hc:X.calm=true)(hi:PI X tg iter wi)(hg:PG X tg g)(hb:PSs X body tb)
  (hs:∀x,NI iter X.env x=pure x:=by intro _;rfl):PS X (.For tg iter body [] pos) (xp wi g tb):=by
 intro pins s σ H D I h;refine wpAny_For (thn (hi pins s σ H _ I h) fun v s1 h1=>thn h1 fun itv s2 h2=>?_) hs;obtain⟨it,fp,tn,J,H2,e,I2,T,st2,f2,W,⟨m0,w0⟩,turn⟩:=h2;subst e;have stat:∀{H':Hp},(∀b∈fp,H' b=none)->∀b∈fp,dX X pins H' b:=fun hn b hb=>⟨hn b hb,(f2 b hb).2⟩;refine SD (fun n s'=>∃i σ' H',Inv X pins σ' H' s'/\tn i s'.heap/\(∀b∈fp,H' b=none)/\W i n σ' H') ?_ m0 ⟨0,σ,H2,I2,st2,fun b hb=>(f2 b hb).1,w0⟩;rintro n s3 ⟨i,σ3,H3,I3,st3,fr3,w3⟩
 rcases turn i n σ3 H3 w3 with⟨stop,qn⟩|⟨go,N,hN,step⟩
 .refine NL hp (thn (T.done X rfl rfl rfl hc i pins s3 σ3 H3 X.xe I3 (stat fr3) st3 stop) fun r s4 ⟨hr,I4⟩=>?_)
  subst hr;exact Ov ⟨σ3,H3,I4,qn⟩
 .refine NL hp (thn (T.item X rfl rfl rfl hc i pins s3 σ3 H3 X.xe I3 (stat fr3) st3 go) fun r s4 ⟨u,hr,h4⟩=>?_)
  subst hr;refine NL hp (thn h4 fun _ s5 ⟨x,H5,I5,r5,y5,st5,fr5⟩=>?_);have I5':=I5.pinned (stat fr5) (T.obj _ _ st5);refine NL hp (thn (hg _ s5 σ3 H5 x u _ I5' r5 (step x H5 y5)) fun _ s6 ⟨σ6,H6,I6,q6⟩=>?_);refine NL hp (thn (hb _ s6 σ6 H6 _ I6 q6) fun f s7 q7=>?_)
  have Vk:∀{σ7:St}{H7:Hp},Inv X (pins++gj fp s5.heap) σ7 H7 s7->N σ7 H7->∃m,m<n/\∃i σ' H',Inv X pins σ' H' s7/\tn i s7.heap/\(∀b∈fp,H' b=none)/\W i m σ' H':=fun {σ7 H7} I7 n7=>by
   obtain⟨m',hm,w7⟩:=hN σ7 H7 n7;refine⟨m',hm,i+1,σ7,H7,I7.unpinned,T.keep _ _ _ st5 fun b hb o e=>(I7.pin (b,o) (M3 _ (M3 _ (i4 hb e)))).1,fun b hb=>?_,w7⟩;obtain⟨o,e,d⟩:=T.obj _ _ st5 b hb;exact(I7.pin (b,o) (M3 _ (M3 _ (i4 hb e)))).2.1
  cases f with
  |next=>obtain⟨σ7,H7,I7,n7⟩:=q7;exact Vk I7 n7
  |cont=>obtain⟨σ7,H7,I7,n7⟩:=q7;exact Vk I7 n7
  |brk=>obtain⟨σ7,H7,I7,q7⟩:=q7;exact⟨σ7,H7,I7.unpinned,q7⟩
  |ret v=>obtain⟨x7,σ7,H7,I7,r7,q7⟩:=q7;exact⟨x7,σ7,H7,I7.unpinned,r7,q7⟩
end
abbrev R2:=V->V->Hp->VK->Prop
def OpR(X:Cx)(f:Mp->Mp->Sem Mp)(r:R2):Prop:=
 ∀(pins:List (Addr×Obj)) (s:Ms) (σ:St) (H:Hp) (x y:V) (v u:Mp) (Q:VK),Inv X pins σ H s->RelV x v->RelV y u->r x y H Q ->
  MU (MW X.prog X.w) X.A (f v u) (EP X pins σ Q) X.xe s
def UnR(X:Cx)(f:Mp->Sem Mp)(r:V->Hp->VK->Prop):Prop:=
 ∀(pins:List (Addr×Obj)) (s:Ms) (σ:St) (H:Hp) (x:V) (v:Mp) (Q:VK),Inv X pins σ H s->RelV x v->r x H Q ->
  MU (MW X.prog X.w) X.A (f v) (EP X pins σ Q) X.xe s
def CallR(X:Cx)(f:Mp)(r:List V->Hp->VK->Prop):Prop:=
 ∀(pins:List (Addr×Obj)) (s:Ms) (σ:St) (H:Hp) (xs:List V) (us:List Mp) (Q:VK),Inv X pins σ H s->Vals xs us->r xs H Q ->
  MU (MW X.prog X.w) X.A (call f us) (EP X pins σ Q) X.xe s
def Ib(X:Cx)(r:V->Hp->(Bool->Hp->Prop)->Prop):Prop:=
 ∀(pins:List (Addr×Obj)) (s:Ms) (σ:St) (H:Hp) (x:V) (v:Mp) (Q:Bool->Hp->Prop),Inv X pins σ H s->RelV x v->r x H Q ->
  MU (MW X.prog X.w) X.A (truthy v) (TP X pins σ Q) X.xe s
def tOp(r:R2)(ta tb:TE):TE:=fun σ H Q=>ta σ H fun x H1=>tb σ H1 fun y H2=>r x y H2 Q
def tUn(r:V->Hp->VK->Prop)(ta:TE):TE:=fun σ H Q=>ta σ H fun x H1=>r x H1 Q
def rI(C:Int->Int->Prop)(g:Int->Int->V):R2:=fun x y H Q=>∃i j,x=.int i/\y=.int j/\C i j/\Q (g i j) H
def rI0(g:Int->Int->V):R2:=fun x y H Q=>∃i j,x=.int i/\y=.int j/\Q (g i j) H
def rU(g:Int->V):V->Hp->VK->Prop:=fun x H Q=>∃i,x=.int i/\Q (g i) H
section
variable {X:Cx}{a b c:Expr}{ta tb tc:TE}{pos:Pos}
theorem qN(ha:PE X a ta)(hb:PE X b tb){R:V->V->Hp->Prop}(I:Inv X pins σ H s)
  (h:ta σ H fun x H1=>tb σ H1 fun y H2=>R x y H2) {Q:Mp->Ms->Prop}{f:Mp->Mp->Sem Mp}
  (hf:∀v u s2 x y H2,Inv X pins σ H2 s2->RelV x v->RelV y u->R x y H2->MU (MW X.prog X.w) X.A (f v u) Q X.xe s2) :
  MU (MW X.prog X.w) X.A (eval a X.env) (fun v s₁=>MU (MW X.prog X.w) X.A (eval b X.env) (fun u s₂=>MU (MW X.prog X.w) X.A (f v u) Q X.xe s₂) X.xe s₁) X.xe s:=by
 refine thn (ha pins s σ H _ I h) fun v s1 ⟨x,H1,I1,r1,q1⟩=>?_;refine thn (hb pins s1 σ H1 _ I1 q1) fun u s2 ⟨y,H2,I2,r2,q2⟩=>?_;exact hf v u s2 x y H2 I2 r1 r2 q2
theorem Gz(ho:OpR X (N9 op) r)(ha:PE X a ta)(hb:PE X b tb):PE X (.BinOp a op b pos) (tOp r ta tb):=by
 intro pins s σ H Q I h;exact wpAny_BinOp (qN ha hb I h fun v u s2 x y H2 I2 rx ry q=>ho pins s2 σ H2 x y v u Q I2 rx ry q)
theorem Gy(ho:UnR X (unaryOp op) r)(ha:PE X a ta):PE X (.UnaryOp op a pos) (tUn r ta):=by
 intro pins s σ H Q I h;exact UnaryOp_ (thn (ha pins s σ H _ I h) fun v s1 ⟨x,H1,I1,r1,q1⟩=>ho pins s1 σ H1 x v Q I1 r1 q1)
theorem opI{f:Mp->Mp->Sem Mp}{C:Int->Int->Prop}{g:Int->Int->Int}
  (rule:∀(i j:Int) (t u:Tok) (s:Ms) (Q:Mp->Ms->Prop) (E:Mp->Ms->Prop),C i j->Q (.int (g i j) s.toks) { s with toks:=s.toks+1 }->MU (MW X.prog X.w) X.A (f (.int i t) (.int j u)) Q E s) :
  OpR X f (rI C fun i j=>.int (g i j)):=by
 intro pins s σ H x y v u Q I rx ry h;obtain⟨i,j,rfl,rfl,hc,q⟩:=h;obtain⟨t,rfl⟩:=rx;obtain⟨t',rfl⟩:=ry;exact rule i j t t' s _ _ hc ⟨.int (g i j),H,I.tok _,⟨_,rfl⟩,q⟩
theorem xD{f:Mp->Mp->Sem Mp}{g:Int->Int->Int}
  (rule:∀(i j:Int) (t u:Tok) (s:Ms) (Q:Mp->Ms->Prop) (E:Mp->Ms->Prop),Q (.int (g i j) s.toks) { s with toks:=s.toks+1 }->MU (MW X.prog X.w) X.A (f (.int i t) (.int j u)) Q E s) :
  OpR X f (rI0 fun i j=>.int (g i j)):=by
 intro pins s σ H x y v u Q I rx ry h;obtain⟨i,j,rfl,rfl,q⟩:=h;obtain⟨t,rfl⟩:=rx;obtain⟨t',rfl⟩:=ry;exact rule i j t t' s _ _ ⟨.int (g i j),H,I.tok _,⟨_,rfl⟩,q⟩
theorem nj{f:Mp->Mp->Sem Mp}{g:Int->Int->Bool}
  (rule:∀(i j:Int) (t u:Tok) (s:Ms) (Q:Mp->Ms->Prop) (E:Mp->Ms->Prop),Q (.bool (g i j)) s->MU (MW X.prog X.w) X.A (f (.int i t) (.int j u)) Q E s) :
  OpR X f (rI0 fun i j=>.bl (g i j)):=by
 intro pins s σ H x y v u Q I rx ry h;obtain⟨i,j,rfl,rfl,q⟩:=h;obtain⟨t,rfl⟩:=rx;obtain⟨t',rfl⟩:=ry;exact rule i j t t' s _ _ ⟨.bl (g i j),H,I,rfl,q⟩
def Ie(i j:Int):Prop:=0<=j/\j<=1000000/\i.natAbs<2^64
def CMul(i j:Int):Prop:=(-(2^64)<i/\i<2^64)\/(-(2^64)<j/\j<2^64)
theorem CMul.ok(h:CMul i j):IntMulOk i j:=by
 rcases h with⟨h1,h2⟩|⟨h1,h2⟩
 .exact .of_left (intBits_le_64 h1 h2)
 .exact .of_right (intBits_le_64 h1 h2)
theorem op_add:OpR X (N9 .Add) (rI0 fun i j=>.int (i+j)):=xD fun _ _ _ _ _ _ _ q=>add_int q
theorem EV:OpR X (N9 .Sub) (rI0 fun i j=>.int (i-j)):=xD fun _ _ _ _ _ _ _ q=>sub_int q
theorem op_mul:OpR X (N9 .Mult) (rI CMul fun i j=>.int (i*j)):=opI fun _ _ _ _ _ _ _ hc q=>mul_int q hc.ok
theorem EX:OpR X (N9 .Mod) (rI (fun _ j=>0<j) fun i j=>.int (i % j)):=opI fun i j _ _ _ _ _ hc q=>by
 have h1:(0:Int)<j:=hc;exact mod_int' (by omega) (by rw[Int.fmod_eq_emod_of_nonneg i (by omega)];exact q)
theorem EW:OpR X (N9 .Pow) (rI Ie fun i j=>.int (i^j.toNat)):=opI fun _ _ _ _ _ _ _ hc q=>pow_int_small hc.1 hc.2.1 hc.2.2 q
theorem unI{f:Mp->Sem Mp}{g:Int->Int}
  (rule:∀(i:Int) (t:Tok) (s:Ms) (Q:Mp->Ms->Prop) (E:Mp->Ms->Prop),Q (.int (g i) s.toks) { s with toks:=s.toks+1 }->MU (MW X.prog X.w) X.A (f (.int i t)) Q E s) :
  UnR X f (rU fun i=>.int (g i)):=by
 intro pins s σ H x v Q I rx h;obtain⟨i,rfl,q⟩:=h;obtain⟨t,rfl⟩:=rx;exact rule i t s _ _ ⟨.int (g i),H,I.tok _,⟨_,rfl⟩,q⟩
theorem Ej:UnR X (unaryOp .USub) (rU fun i=>.int (-i)):=unI fun _ _ _ _ _ q=>neg_int q
end
def qy:V->V->Bool
 |.non,.non=>true | .non,.int _=>true | .int _,.non=>true | .non,.bl _=>true | .bl _,.non=>true | .non,.str _=>true | .str _,.non=>true
 |.int _,.int _=>true | .bl _,.bl _=>true | .str _,.str _=>true | .byt _,.byt _=>true
 |.int _,.str _=>true | .str _,.int _=>true | .bl _,.str _=>true | .str _,.bl _=>true
 |_,_=>false
def rEq:R2:=fun x y H Q=>qy x y=true/\Q (.bl (decide (x=y))) H
def rNe:R2:=fun x y H Q=>qy x y=true/\Q (.bl (!decide (x=y))) H
theorem u9:decide (V.int i=V.int j)=(i == j):=by
 rw[Oi];simp
theorem vZ:decide (V.bl i=V.bl j)=(i == j):=by
 rw[Oi];simp
theorem u7:decide (V.str i=V.str j)=(i == j):=by
 rw[Oi];simp
theorem va:decide (V.byt i=V.byt j)=(i.toList == j.toList):=by
 rw[Oi];cases i;cases j;simp
section
variable {X:Cx}{a b c:Expr}{ta tb tc:TE}{pos:Pos}
theorem bx(I:Inv X pins σ H s)(q:Q (.bl k) H)(e:k=k'):EP X pins σ Q (.bool k') s:=by
 subst e;exact⟨.bl k,H,I,rfl,q⟩
theorem GL:OpR X (M7 .Eq) rEq:=by
 intro pins s σ H x y v u Q I rx ry h;obtain⟨hs,q⟩:=h
 cases x with
 |non=>
  cases rx
  cases y with
  |non=>cases ry;exact UN (bx I q (by simp))
  |bl j=>cases ry;exact UO (bx I q (by simp))
  |int j=>obtain⟨t',rfl⟩:=ry;exact U0 (bx I q (by simp))
  |str j=>obtain⟨t',rfl⟩:=ry;exact U1 (bx I q (by simp))
  |_=>exact absurd (show false=true from hs) MF
 |bl i=>
  cases rx
  cases y with
  |non=>cases ry;exact UP (bx I q (by simp))
  |bl j=>cases ry;exact eq_bool (bx I q vZ)
  |str j=>obtain⟨t',rfl⟩:=ry;exact UQ (bx I q (by simp))
  |_=>exact absurd (show false=true from hs) MF
 |int i=>
  obtain⟨t,rfl⟩:=rx
  cases y with
  |non=>cases ry;exact U2 (bx I q (by simp))
  |int j=>obtain⟨t',rfl⟩:=ry;exact eq_int (bx I q u9)
  |str j=>obtain⟨t',rfl⟩:=ry;exact U3 (bx I q (by simp))
  |_=>exact absurd (show false=true from hs) MF
 |str i=>
  obtain⟨t,rfl⟩:=rx
  cases y with
  |non=>cases ry;exact U4 (bx I q (by simp))
  |bl j=>cases ry;exact UR (bx I q (by simp))
  |int j=>obtain⟨t',rfl⟩:=ry;exact U5 (bx I q (by simp))
  |str j=>obtain⟨t',rfl⟩:=ry;exact eq_str (bx I q u7)
  |_=>exact absurd (show false=true from hs) MF
 |byt i=>
  obtain⟨t,rfl⟩:=rx
  cases y with
  |byt j=>obtain⟨t',rfl⟩:=ry;exact PySem.W.eq_bytes (bx I q va)
  |_=>exact absurd (show false=true from hs) MF
 |_=>cases y <;> exact absurd (show false=true from hs) MF
theorem GF:OpR X (M7 .NotEq) rNe:=by
 intro pins s σ H x y v u Q I rx ry h;obtain⟨hs,q⟩:=h
 cases x with
 |non=>
  cases rx
  cases y with
  |non=>cases ry;exact US (bx I q (by simp))
  |bl j=>cases ry;exact UT (bx I q (by simp))
  |int j=>obtain⟨t',rfl⟩:=ry;exact U6 (bx I q (by simp))
  |str j=>obtain⟨t',rfl⟩:=ry;exact U7 (bx I q (by simp))
  |_=>exact absurd (show false=true from hs) MF
 |bl i=>
  cases rx
  cases y with
  |non=>cases ry;exact UU (bx I q (by simp))
  |bl j=>cases ry;exact ne_bool (bx I q (congrArg not vZ))
  |str j=>obtain⟨t',rfl⟩:=ry;exact UV (bx I q (by simp))
  |_=>exact absurd (show false=true from hs) MF
 |int i=>
  obtain⟨t,rfl⟩:=rx
  cases y with
  |non=>cases ry;exact U8 (bx I q (by simp))
  |int j=>obtain⟨t',rfl⟩:=ry;exact ne_int (bx I q (congrArg not u9))
  |str j=>obtain⟨t',rfl⟩:=ry;exact U9 (bx I q (by simp))
  |_=>exact absurd (show false=true from hs) MF
 |str i=>
  obtain⟨t,rfl⟩:=rx
  cases y with
  |non=>cases ry;exact Va (bx I q (by simp))
  |bl j=>cases ry;exact UW (bx I q (by simp))
  |int j=>obtain⟨t',rfl⟩:=ry;exact Vb (bx I q (by simp))
  |str j=>obtain⟨t',rfl⟩:=ry;exact ne_str (bx I q (congrArg not u7))
  |_=>exact absurd (show false=true from hs) MF
 |byt i=>
  obtain⟨t,rfl⟩:=rx
  cases y with
  |byt j=>obtain⟨t',rfl⟩:=ry;exact PySem.W.ne_bytes (bx I q (congrArg not va))
  |_=>exact absurd (show false=true from hs) MF
 |_=>cases y <;> exact absurd (show false=true from hs) MF
theorem GH:OpR X (M7 .Lt) (rI0 fun i j=>.bl (decide (i<j))):=nj fun _ _ _ _ _ _ _ q=>lt_int q
theorem GI:OpR X (M7 .LtE) (rI0 fun i j=>.bl (decide (i<=j))):=nj fun _ _ _ _ _ _ _ q=>le_int q
theorem GJ:OpR X (M7 .Gt) (rI0 fun i j=>.bl (decide (j<i))):=nj fun _ _ _ _ _ _ _ q=>gt_int q
theorem GK:OpR X (M7 .GtE) (rI0 fun i j=>.bl (decide (j<=i))):=nj fun _ _ _ _ _ _ _ q=>ge_int q
theorem op_in_str:OpR X (M7 .In) (fun x y H Q=>∃i j,x=.str i/\y=.str j/\Q (.bl (!(Nl j i 0 j.length 1).isEmpty)) H):=by
 intro pins s σ H x y v u Q I rx ry h;obtain⟨i,j,rfl,rfl,q⟩:=h;obtain⟨t,rfl⟩:=rx;obtain⟨t',rfl⟩:=ry;exact in_str (bx I q rfl)
theorem EY:OpR X (M7 .Is) (fun x y H Q=>y=.non/\Q (.bl (decide (x=.non))) H):=by
 intro pins s σ H x y v u Q I rx ry h;obtain⟨rfl,q⟩:=h;cases ry;refine is_none_gen (bx I q ?_)
 cases x <;> first
  |(cases rx;rfl)
  |(obtain⟨t,rfl⟩:=rx;rfl)
theorem op_notin_str:OpR X (M7 .NotIn) (fun x y H Q=>∃i j,x=.str i/\y=.str j/\Q (.bl (!(!(Nl j i 0 j.length 1).isEmpty))) H):=by
 intro pins s σ H x y v u Q I rx ry h;obtain⟨i,j,rfl,rfl,q⟩:=h;obtain⟨t,rfl⟩:=rx;obtain⟨t',rfl⟩:=ry;exact notIn_str (bx I q rfl)
theorem OpR.or(h:OpR X f r)(h':OpR X f r'):OpR X f (fun x y H Q=>r x y H Q\/r' x y H Q):=by
 intro pins s σ H x y v u Q I rx ry q
 rcases q with q|q
 .exact h pins s σ H x y v u Q I rx ry q
 .exact h' pins s σ H x y v u Q I rx ry q
theorem pU(b:Expr)(h:op≠.In:=by decide)(h2:op≠.NotIn:=by decide):OS op b=false:=by
 have e1:(op == CmpOp.In)=false:=by cases op <;> first|rfl|exact absurd rfl h
 have e2:(op == CmpOp.NotIn)=false:=by cases op <;> first|rfl|exact absurd rfl h2
 cases b <;> simp[OS,e1,e2]
theorem C9(ho:OpR X (M7 op) r)(ha:PE X a ta)(hb:PE X b tb)(hm:OS op b=false):PE X (.Compare a [op] [b] pos) (tOp r ta tb):=by
 intro pins s σ H Q I h;exact wpAny_Compare1 (qN ha hb I h fun v u s2 x y H2 I2 rx ry q=>ho pins s2 σ H2 x y v u Q I2 rx ry q) hm
def qi(t:TE):TT:=fun σ H Q=>t σ H fun x H'=>∃k,x=.bl k/\Q k H'
theorem CW(ho:OpR X (M7 op) r)(ha:PE X a ta)(hb:PE X b tb)(hm:OS op b=false):PT X (.Compare a [op] [b] pos) (qi (tOp r ta tb)):=by
 intro pins s σ H Q I h
 refine R8 (thn (ha pins s σ H _ I h) fun v s1 ⟨x,H1,I1,r1,q1⟩=>thn (hb pins s1 σ H1 _ I1 q1) fun u s2 ⟨y,H2,I2,r2,q2⟩=>
  thn (ho pins s2 σ H2 x y v u _ I2 r1 r2 q2) fun c s3 ⟨z,H3,I3,r3,k,e,q3⟩=>?_) hm
 subst e;cases r3;exact N0 ⟨H3,I3,q3⟩
def vn(r r':R2)(ta tb tc:TE):TE:=fun σ H Q=>ta σ H fun x H1=>tb σ H1 fun y H2=>r x y H2 fun z H3=>∃k,z=.bl k /\
 (if k=true then tc σ H3 fun w' H4=>r' y w' H4 Q else Q (.bl false) H3)
theorem Bo(ho:OpR X (M7 op) r)(ho':OpR X (M7 op') r')(ha:PE X a ta)(hb:PE X b tb)(hc:PE X c tc)
  (hm:lastMarks [op,op'] [b,c]=false:=by with_unfolding_all rfl):PT X (.Compare a [op,op'] [b,c] pos) (qi (vn r r' ta tb tc)):=by
 intro pins s σ H Q I h
 refine isTrue_chain (thn (ha pins s σ H _ I h) fun v s1 ⟨x,H1,I1,r1,q1⟩=>test_link (thn (hb pins s1 σ H1 _ I1 q1) fun u s2 ⟨y,H2,I2,r2,q2⟩=>
  thn (ho pins s2 σ H2 x y v u _ I2 r1 r2 q2) fun d s3 ⟨z,H3,I3,r3,k,e,q3⟩=>?_)) hm
 subst e;cases r3;refine N0 ?_
 cases k with
 |false=>
  obtain⟨k',e',q'⟩:=q3;cases e';exact ite_ff ⟨H3,I3,q'⟩
 |true=>
  refine ite_tt (test_last (thn (hc pins s3 σ H3 _ I3 q3) fun w' s4 ⟨z',H4,I4,r4,q4⟩=>thn (ho' pins s4 σ H4 y z' u w' _ I4 r2 r4 q4) fun d' s5 ⟨z2,H5,I5,r5,k2,e2,q5⟩=>?_));subst e2;cases r5;exact N0 ⟨H5,I5,q5⟩
def qO(K:Frag)(x:V)(H:Hp)(k:Bool):Prop:=
 match x with
 |.non=>k=false
 |.bl b=>k=b
 |.int i=>k=(i != 0)
 |.str y=>y.length<=Mz/\k=((y.length:Int) != 0)
 |.byt y=>y.size<=Mz/\k=((y.size:Int) != 0)
 |.ref p=>(∃xs,SqL K H p xs/\k = !xs.isEmpty)\/(∃xs,SqT K H p xs/\k = !xs.isEmpty)\/∃kvs,H p=some (.dK kvs)/\k = !kvs.isEmpty
 |_=>False
theorem zV{κ:Type}{kvs:List (κ×V)}{vs:List (κ×Mp)}(r:KV kvs vs):(!vs.isEmpty) = !kvs.isEmpty:=by cases r <;> rfl
theorem rK(r:Vals xs its):(!its.toArray.isEmpty) = !xs.isEmpty:=by cases r <;> simp
theorem iE:(Mz:Nat)<2^63:=by rw[Se];decide
theorem Ek:Ib X (fun x H Q=>∃k,qO X.K x H k/\Q k H):=by
 intro pins s σ H x v Q I rx h;obtain⟨k,e,q⟩:=h;have hl:=iE;have hs:Mz=16777216:=Se
 cases x with
 |non=>
  cases rx;have e':k=false:=e;subst e';exact truthy_none ⟨H,I,q⟩
 |bl b=>
  cases rx;have e':k=b:=e;subst e';exact N0 ⟨H,I,q⟩
 |int i=>
  obtain⟨t,rfl⟩:=rx;have e':k=(i != 0):=e;subst e';exact PySem.P.truthy_int ⟨H,I,q⟩
 |str y=>
  obtain⟨t,rfl⟩:=rx;obtain⟨hy,e'⟩:y.length<=Mz/\k=((y.length:Int) != 0):=e;subst e';exact PySem.P.truthy_str (by omega) ⟨H,I.tok _,q⟩
 |byt y=>
  obtain⟨t,rfl⟩:=rx;obtain⟨hy,e'⟩:y.size<=Mz/\k=((y.size:Int) != 0):=e;subst e';exact PySem.W.truthy_bytes (by omega) ⟨H,I.tok _,q⟩
 |ref p=>
  cases rx;have e':(∃xs,SqL X.K H p xs/\k = !xs.isEmpty)\/(∃xs,SqT X.K H p xs/\k = !xs.isEmpty)\/∃kvs,H p=some (.dK kvs)/\k = !kvs.isEmpty:=e
  rcases e' with⟨xs,hx,e'⟩|⟨xs,hx,e'⟩|⟨kvs,hx,e'⟩
  .subst e'
   obtain⟨its,r,pl,hz⟩:=I.list hx;have hlen:=r.length;exact wpAny_truthy_list pl.isList (by simp only[MH];omega) ⟨H,I.tok _,by rw[rK r];exact q⟩
  .subst e'
   obtain⟨its,r,pl,hz⟩:=I.tuple hx;have hlen:=r.length;exact truthy_tuple pl (by simp only[MH];omega) ⟨H,I.tok _,by rw[rK r];exact q⟩
  .subst e'
   obtain⟨hz,hS,vs,r,m⟩:kvs.length<=Mz/\(p == N8)=false/\∃vs,KV kvs vs/\s.heap.DictOf (bQ X.prog X.w) p vs:=I.hok p _ hx;have hlen:kvs.length=vs.length:=Om r;exact wpAny_truthy_dict hS m (by omega) ⟨H,I.tok _,by rw[zV r];exact q⟩
 |_=>exact(show False from e).elim
theorem Bn(ha:PE X a ta)(he:∀whole,Uw a X.env whole=(do let v ←whole;Us a.pos;Rh [v] (truthy v))) :
  PT X a (fun σ H Q=>ta σ H fun x H'=>∃k,qO X.K x H' k/\Q k H'):=by
 intro pins s σ H Q I h;exact isTrue_plain (thn (ha pins s σ H _ I h) fun v s1 ⟨x,H1,I1,r1,q1⟩=>Ek pins s1 σ H1 x v Q I1 r1 q1) (he _)
theorem op_add_str:OpR X (N9 .Add) (fun x y H Q=>∃i j,x=.str i/\y=.str j/\i.length+j.length<=Mz/\Q (.str (i++j)) H):=by
 intro pins s σ H x y v u Q I rx ry h;obtain⟨i,j,rfl,rfl,hz,q⟩:=h;obtain⟨t,rfl⟩:=rx;obtain⟨t',rfl⟩:=ry;exact add_str (fun t' tk=>⟨.str (i++j),H,I.tok _,⟨_,rfl⟩,q⟩) hz
theorem vals1(r:Vals [x] us):∃u,us=[u]/\RelV x u:=by
 cases r with
 |cons r1 r2=>cases r2;exact⟨_,rfl,r1⟩
theorem vals2(r:Vals [x,y] us):∃u w',us=[u,w']/\RelV x u/\RelV y w':=by
 cases r with
 |cons r1 r2=>
  cases r2 with
  |cons r3 r4=>cases r4;exact⟨_,_,rfl,r1,r3⟩
theorem Cm:CallR X (.builtin "abs") (fun xs H Q=>∃i,xs=[.int i]/\Q (.int (if i<0 then -i else i)) H):=by
 intro pins s σ H xs us Q I r h;obtain⟨i,rfl,q⟩:=h;obtain⟨u,rfl,t,rfl⟩:=vals1 r;exact call_abs_int fun u tk=>⟨.int (if i<0 then -i else i),H,I.tok _,⟨_,rfl⟩,q⟩
theorem call_int1:CallR X (.type "int") (fun xs H Q=>(∃i,xs=[.int i]/\Q (.int i) H)\/∃k,xs=[.bl k]/\Q (.int (if k then 1 else 0)) H):=by
 intro pins s σ H xs us Q I r h
 rcases h with⟨i,rfl,q⟩|⟨k,rfl,q⟩
 .obtain⟨u,rfl,t,rfl⟩:=vals1 r
  exact call_int_int ⟨.int i,H,I,⟨_,rfl⟩,q⟩
 .obtain⟨u,rfl,r1⟩:=vals1 r
  cases r1;exact call_int_bool ⟨.int (if k then 1 else 0),H,I.tok _,⟨_,rfl⟩,q⟩
theorem zd:CallR X (.type "str") (fun xs H Q=>∃i,xs=[.int i]/\i.natAbs.log2<1920/\Q (.str (toString i)) H):=by
 intro pins s σ H xs us Q I r h;obtain⟨i,rfl,hz,q⟩:=h;obtain⟨u,rfl,t,rfl⟩:=vals1 r;exact PySem.P.str_of_int hz ⟨.str _,H,I.tok _,⟨_,rfl⟩,q⟩
end
structure ObjM(h:Heap)(x dx C:Addr)(mA:Str->Option Mp):Prop where
 obj:h.get? x=some (RW C dx)
 ns:h.Ns1 dx mA
 ne:dx≠x
theorem sH{h:Heap}{mA:Str->Option Mp}(n:h.Ns1 dx mA):∃od,h.get? dx=some od/\∀name,QZ name od=some (mA name):=by
 obtain⟨o,es,ep,ho,hd,hk,_,hm⟩:=n;refine⟨o,ho,fun name=>?_⟩;have e:=hm name;unfold nsFind findBy at e;rw[←Array.find?_toList] at e;unfold QZ;rw[hd];dsimp only;split
 .rename_i y q
  rw[q] at e;exact congrArg some e
 .rename_i q
  rw[q] at e
  have a:es.toList.any (·.refKey)=false:=by
   rw[List.any_eq_false];intro y hy;obtain⟨z,t,hkey⟩:=hk y (Array.mem_toList_iff.mp hy);simp[DictEntry.refKey,hkey]
  have a':¬es.toList.any (·.refKey)=true:=by rw[a];exact MF
  rw[if_neg a'];exact congrArg some e
theorem ObjM.look(I:ObjM h x dx C mA):∃od,OY h x (RW C dx) C (some od)/\∀name,QZ name od=some (mA name):=
 let ⟨od,ho,hl⟩:=sH I.ns
 ⟨od,⟨I.obj,rfl,rfl,ho⟩,hl⟩
section
variable {prog:MA}{w:ML}{A:Nb}{E:Mp->Ms->Prop}{s:Ms}{K:Frag}{x dx C f:Addr}{mA:Str->Option Mp}{name:Str}{v:Mp}
end
theorem RelO.some_of(r:RelO (some v) o):∃u,o=some u/\RelV v u:=by
 cases o with
 |none=>exact(show False from r).elim
 |some u=>exact⟨u,rfl,r⟩
theorem AJ(r:RelV v u):TF u=true:=by
 cases v with
 |non=>cases (show u=NY from r);rfl
 |bl b=>cases (show u=QW b from r);rfl
 |int i=>obtain⟨t,e⟩:=(show ∃t,u=QT i t from r);cases e;rfl
 |str x=>obtain⟨t,e⟩:=(show ∃t,u=P5 x t from r);cases e;rfl
 |byt b=>obtain⟨t,e⟩:=(show ∃t,u=VE b t from r);cases e;rfl
 |flt b=>obtain⟨t,e⟩:=(show ∃t,u=Ud b t from r);cases e;rfl
 |ref a=>cases (show u=MK a from r);rfl
 |ty n=>cases (show u=Pb n from r);rfl
section
variable {P:MA}{w:ML}{H H':Hp}{h h':Heap}{a C dx:Addr}{fs fs':List (Str×V)}
theorem Dx(hok:HOk P w H h)(e:H a=some (.ins C dx fs)):∃mA,ObjM h a dx C mA/\(∀f,RelO (fs.lookup f) (mA f))/\Vr mA (fs.map (·.1))/\fs.length<=1000/\H dx=some (.own a):=by
 obtain⟨d,z,ne,ob,mA,n,r,q⟩:=(show ObjOk P w H h a (.ins C dx fs) from hok a _ e);exact⟨mA,⟨ob,n,ne⟩,r,q,z,d⟩
end
structure Cls(K:Frag)(C:Addr):Prop where
 pg:TH K C TJ=true
 hd:Qd K C=true
 po:PySem.W.plainOver K C=true
 sa:MV K (.ref C) "__setattr__"=some (some (.builtin "object.__setattr__"))
theorem Cls.get{K:Frag}{C:Addr}(c:Cls K C)(f:Str):TH K C f=true:=c.pg
structure Con(K:Frag)(C:Addr)(f:Str)(v:V)(u:Mp):Prop where
 at_:MV K (.ref C) f=some (some u)
 rel:RelV v u
 get:Pp K u "__get__"=some none
 cp:PySem.W.copiedNames.contains f=false
structure Meth(K:Frag)(C:Addr)(m:Str)(f:Addr):Prop where
 at_:MV K (.ref C) m=some (some (.ref f))
 fn:Pd K (.ref f)=true
 kp:Ny K (.ref f)=true
section
variable {X:Cx}{pins:List (Addr×Obj)}{σ:St}{H:Hp}{s:Ms}{a C dx:Addr}{fs:List (Str×V)}{f:Str}{v:V}{A:Nb}{E:Mp->Ms->Prop}
theorem D3(hb:NA e f env (eval e env)=eval e env)
  (h:MU (MW prog w) A (eval e env) (fun o s₁=>MU (MW prog w) A (getAttr o f true) Q E s₁) E s):MU (MW prog w) A (eval (.Attribute e f pos) env) Q E s:=Attribute_any_ h (by rw[arm_eval_Attribute,hb])
end
section
variable {X:Cx}{o e value:Expr}{f:Str}{pos pos' tpos:Pos}{ta tv:TE}
end
section
variable {X:Cx}{pins:List (Addr×Obj)}{σ:St}{H:Hp}{s:Ms}{A:Nb}{E:Mp->Ms->Prop}{Q:Mp->Ms->Prop}{c:Mp}{b:Bool}
inductive TyOf(K:Frag)(H:Hp):V->Mp->Prop where
 |non:TyOf K H .non (.type "NoneType")
 |bl (x:Bool):TyOf K H (.bl x) (.type "bool")
 |int (i:Int):TyOf K H (.int i) (.type "int")
 |str (x:Str):TyOf K H (.str x) (.type "str")
 |flt (x:UInt64):TyOf K H (.flt x) (.type "float")
 |lst {a:Addr}{xs:List V} (e:H a=some (.lst xs)):TyOf K H (.ref a) (.type "list")
 |frz {a:Addr}{o:Obj}{xs:List V} (e:H a=some (.frz o (.lst xs))):TyOf K H (.ref a) (.type "list")
 |tup {a:Addr}{xs:List V} (e:H a=some (.tup xs)):TyOf K H (.ref a) (.type "tuple")
 |dK {a:Addr}{kvs:List (Key×V)} (e:H a=some (.dK kvs)):TyOf K H (.ref a) (.type "dict")
 |dT {a:Addr}{kvs:List (List Key×V)} (e:H a=some (.dT kvs)):TyOf K H (.ref a) (.type "dict")
 |ins {a C dx:Addr}{fs:List (Str×V)} (e:H a=some (.ins C dx fs)) (cl:Cls K C) (ha:MV K (.ref C) "__class__"=some (some (.builtin "object.__class__")))
   (hn:Pp K (.builtin "object.__class__") "__get__"=some (some (.builtin "getset_descriptor.__get__"))) (htk:QH K (.builtin "object.__class__")=some true)
   (hm:OC K C (.type "object")=some true):TyOf K H (.ref a) (.ref C)
theorem lw(I:Inv X pins σ H s)(rx:RelV x u)(ty:TyOf X.K H x t)(e:Nf X.K t c=some b)(h:∀tk,Q (.bool b) { s with toks:=tk }) :
  MU (MW X.prog X.w) A (call (.builtin "isinstance") [u,c]) Q E s:=by
 cases ty with
 |non=>cases (show u=NY from rx);exact Np Td I.kIn Ow e (fun z=>nomatch z) h
 |bl y=>cases (show u=QW y from rx);exact Np Te I.kIn Ow e (fun z=>nomatch z) h
 |int i=>obtain⟨t,q⟩:=(show ∃t,u=QT i t from rx);cases q;exact Np TK I.kIn Ow e (fun z=>nomatch z) h
 |str y=>obtain⟨t,q⟩:=(show ∃t,u=P5 y t from rx);cases q;exact Np TL I.kIn Ow e (fun z=>nomatch z) h
 |flt y=>obtain⟨t,q⟩:=(show ∃t,u=Ud y t from rx);cases q;exact Np PySem.W.kitx_float I.kIn Ow e (fun z=>nomatch z) h
 |@lst a xs ea=>
  cases (show u=MK a from rx);obtain⟨_,_,n,_,h1⟩:=(show ObjOk X.prog X.w H s.heap a (.lst xs) from I.hok a _ ea);exact Np Qe I.kIn ⟨_,h1,rfl⟩ e (fun z=>nomatch z) h
 |@frz a ob xs ea=>
  cases (show u=MK a from rx);obtain⟨_,_,_,n,_,h1⟩:=(show ObjOk X.prog X.w H s.heap a (.frz ob (.lst xs)) from I.hok a _ ea);exact Np Qe I.kIn ⟨_,h1,rfl⟩ e (fun z=>nomatch z) h
 |@tup a xs ea=>
  cases (show u=MK a from rx);obtain⟨_,_,_,p⟩:=(show ObjOk X.prog X.w H s.heap a (.tup xs) from I.hok a _ ea);obtain⟨o,h1,h2,_⟩:=p;exact Np Q0 I.kIn ⟨o,h1,h2⟩ e (fun z=>nomatch z) h
 |@dK a kvs ea=>
  cases (show u=MK a from rx);obtain⟨_,_,vs,_,p⟩:=(show ObjOk X.prog X.w H s.heap a (.dK kvs) from I.hok a _ ea);obtain⟨o,es,ep,h1,h2,_⟩:=p;exact Np Qf I.kIn ⟨o,h1,h2.1⟩ e (fun z=>nomatch z) h
 |@dT a kvs ea=>
  cases (show u=MK a from rx);obtain⟨_,_,xs,_,o,es,ep,h1,h2,_⟩:=(show ObjOk X.prog X.w H s.heap a (.dT kvs) from I.hok a _ ea);exact Np Qf I.kIn ⟨o,h1,h2.1⟩ e (fun z=>nomatch z) h
 |@ins a C dx fs ea cl ha hn htk hm=>
  cases (show u=MK a from rx);obtain⟨mA,O,_⟩:=Dx I.hok ea;obtain⟨od,J,_⟩:=O.look;exact Np (PySem.W.kitx_own (cl.get _) cl.hd ha hn htk hm) I.kIn J e (fun z=>nomatch z) h
end
structure Room(k:Nat)(A:Nb):Prop where
 hd:A.handled=none
 dp:A.depth+3*k+5<recursionLimit
 un:A.units+16*k+200<Vl
 gd:A.guards=some []
theorem Room.mono(r:Room k A)(h:j<=k):Room j A:=⟨r.hd,by have:=r.dp;omega,by have:=r.un;omega,r.gd⟩
theorem Room.deeper(r:Room (k+1) A)(env:Env):Room k (A.deeper env):=⟨r.hd,by have:=r.dp;show A.depth+1+3*k+5<_;omega,by have:=r.un;show A.units+3+16*k+200<_;omega,r.gd⟩
theorem zS{A:Nb}:(A.under (.builtin "type.__call__" ⟨.ref C::us,kw⟩)).depth=A.depth+1:=by first|rfl|simp[RH,Code.weight,Code.isCreation,Vu,Code.isCaller,VG,Tf,guardIds]
theorem zR{A:Nb}:(A.under (.builtin "type.__call__" ⟨.ref C::us,kw⟩)).units=A.units+1:=by first|rfl|simp[RH,Code.cUnits,VG,Tf]
theorem Room.make(r:Room (k+1) A)(C:Addr)(us:List Mp)(kw:List (Str×Mp)):Room k (A.under (.builtin "type.__call__" ⟨.ref C::us,kw⟩)):=⟨r.hd,by have:=r.dp;rw[zS];omega,by have:=r.un;rw[zR];omega,by first|exact r.gd|(simpa[RH,Vu,guardIds] using r.gd)⟩
theorem Room.depth(r:Room k A):A.depth<recursionLimit:=by have:=r.dp;omega
def m8:TA:=fun _ H Q=>Q [] H
def ko(ta:TE)(tr:TA):TA:=fun σ H Q=>ta σ H fun x H1=>tr σ H1 fun xs H2=>Q (x::xs) H2
section
variable {X:Cx}{e:Expr}{es:List Expr}{te:TE}{t:TA}{pos:Pos}
theorem bJ:PA X [] m8:=fun _ _ _ _ H Q I h=>Tg ⟨[],H,I,.nil,h⟩
theorem bj(ha:PE X e te)(hr:PA X es t)(hs:Mw (e::es) X.env=(false,eval e X.env)::Mw es X.env:=by rfl):PA X (e::es) (ko te t):=by
 intro pos pins s σ H Q I h;rw[hs];show MU _ _ (spliced ((false,eval e X.env)::Nv pos (Mw es X.env))) _ _ s;refine Q2 (thn (ha pins s σ H _ I h) fun u s1 ⟨x,H1,I1,r1,q1⟩=>?_);exact thn (hr pos pins s1 σ H1 _ I1 q1) fun us s2 ⟨xs,H2,I2,r2,q2⟩=>⟨x::xs,H2,I2,.cons r1 r2,q2⟩
def Hu(t:TA):TE:=fun σ H Q=>t σ H fun xs H1=>xs.length<=Mz/\∀p,H1 p=none->Q (.ref p) (upd H1 p (.tup xs))
def Hy(t:TA):TE:=fun σ H Q=>t σ H fun xs H1=>xs.length<=Mz/\∀p,H1 p=none->Q (.ref p) (upd H1 p (.lst xs))
theorem pS{x1}(h:PA X es t):PE X (.Tuple es x1 pos) (Hu t):=by
 intro pins s σ H Q I hq;refine wpAny_Tuple_spliced (thn (h pos pins s σ H _ I hq) fun us s1 ⟨xs,H1,I1,r,z,q⟩=>⟨by rw[←r.length];exact z,?_⟩);have hf:H1 s1.heap.objs.size=none:=I1.hok.fresh (MC _);refine⟨.ref s1.heap.objs.size,upd H1 s1.heap.objs.size (.tup xs),I1.laid (t':=s1.toks) (fun b u e=>Mt _ e) (MC _) ?_,rfl,q _ hf⟩;exact⟨z,us,r,⟨_,MZ _ rfl,rfl,_,rfl⟩⟩
theorem gQ(h:PA X es t):PE X (.List es pos) (Hy t):=by
 intro pins s σ H Q I hq;refine wpAny_List_spliced (thn (h pos pins s σ H _ I hq) fun us s1 ⟨xs,H1,I1,r,z,q⟩=>⟨by rw[←r.length];exact z,?_⟩);have hf:H1 s1.heap.objs.size=none:=I1.hok.fresh (MC _);refine⟨.ref s1.heap.objs.size,upd H1 s1.heap.objs.size (.lst xs),I1.laid (t':=s1.toks) (fun b u e=>Mt _ e) (MC _) ?_,rfl,q _ hf⟩;exact⟨z,us,0,r,MZ _ rfl⟩
end
abbrev Sp:=List V->Hp->VK->XK->Prop
abbrev CXT:=List Env->Hp->Ms->XK->Mp->Ms->Prop
structure Env0(P:MA)(w:ML)(K:Frag)(mg:Str->Option Mp)(base:Heap)(A:Nb)(outer:List Env)(s:Ms)(H:Hp):Prop where
 frames:A.frames=some outer
 mod:Mod K mg base
 bs:∀b o,base.get? b=some o->s.heap.get? b=some o/\H b=none
 bsz:base.objs.size<=s.heap.objs.size
 funs:s.heap.FunFrames base outer
 frf:∀b∈frs outer,H b=none
 hok:HOk P w H s.heap
 bare:QM s.gens
def CE(outer:List Env)(P:MA)(w:ML)(H:Hp)(s:Ms)(Q:VK)(u:Mp)(s':Ms):Prop:=∃v H',s'.os=s.os/\QM s'.gens/\Un (frs outer) [] H H' s.heap s'.heap/\HOk P w H' s'.heap/\RelV v u/\Q v H'
def CR(CX:CXT)(outer:List Env)(P:MA)(w:ML)(H:Hp)(s:Ms)(Q:VK)(E:XK)(r:Uz)(s':Ms):Prop:=
 match r with
 |.ok (.ret u)=>CE outer P w H s Q u s'
 |.ok _=>False
 |.error e=>CX outer H s E e s'
structure FnOk(P:MA)(w:ML)(K:Frag)(mg:Str->Option Mp)(base:Heap)(CX:CXT)(k:Nat)(f:Addr)(fd:MS)(ps:List Str)(sp:Sp):Prop where
 len:∀vs H Q E,sp vs H Q E->vs.length=ps.length
 run:∀(A:Nb) (outer:List Env) (s:Ms) (H:Hp) (args:Args) (us:List Mp) (vs:List V) (Q:VK) (E:XK),Room k A->Env0 P w K mg base A outer s H->Sy s fd args (ps.zip us)->Vals vs us->sp vs H Q E ->
  RI (MW P w) A (.call (.ref f) args) (CR CX outer P w H s Q E) s
theorem Env0.make{P:MA}{w:ML}{K:Frag}{mg:Str->Option Mp}{base:Heap}{A:Nb}{outer:List Env}{s:Ms}{H:Hp}(e:Env0 P w K mg base A outer s H)(C:Addr)(us:List Mp)(kw:List (Str×Mp)) :
  Env0 P w K mg base (A.under (.builtin "type.__call__" ⟨.ref C::us,kw⟩)) outer s H:=⟨by first|exact e.frames|(simpa[RH,Code.envs,Tf,pushEnvs] using e.frames),e.mod,e.bs,e.bsz,e.funs,e.frf,e.hok,e.bare⟩
section
variable {X:Cx}{pins:List (Addr×Obj)}{σ:St}{H:Hp}{s s':Ms}
theorem Inv.env0(I:Inv X pins σ H s):Env0 X.prog X.w X.K X.mg X.base X.A X.stack s H:=⟨I.ok.frames,I.ok.mod,I.bs,MP I.ok.bsz I.sz,I.stack,I.stkFree,I.hok,I.bare⟩
theorem Inv.after(I:Inv X pins σ H s)(h:CE X.stack X.prog X.w H s Q u s'):EP X pins σ Q u s':=by
 obtain⟨v,H',os,bare,un,hok,r,q⟩:=h;obtain⟨hh,g,d,t,os'⟩:=s';obtain rfl:os'=s.os:=os;exact⟨v,H',I.call (h':=hh) (g':=g) (d':=d) (t':=t) (ch:=[]) un hok bare (fun b z=>absurd z (by simp)),r,q⟩
end
def wg(sp:Sp)(dvs:List V)(E:XK)(t:TA):TE:=fun σ H Q=>t σ H fun vs H1=>sp (vs++dvs) H1 Q E
def Binds(K:Frag)(fd:MS)(ps:List Str)(ds:List Mp):Prop:=∀(s:Ms) (us:List Mp),K.In s.heap->(us++ds).length=ps.length->Sy s fd ⟨us,[]⟩ (ps.zip (us++ds))
theorem Binds.all{K:Frag}{fd:MS}{ps:List Str}(h:∀us:List Mp,us.length=ps.length->bindArgs fd ⟨us,[]⟩=pure (ps.zip us)):Binds K fd ps []:=fun s us _ hl=>by
 rw[OL] at hl ⊢;exact .of_eq (h us hl)
def qf(CX:CXT)(X:Cx)(E:XK):Prop:=∀(pins:List (Addr×Obj)) (σ:St) (H:Hp) (s:Ms) (e:Mp) (s':Ms),Inv X pins σ H s->CX X.stack H s E e s'->X.xe e s'
section
variable {X:Cx}{CX:CXT}{k:Nat}{f C:Addr}{fd:MS}{ps:List Str}{sp:Sp}{dvs:List V}{ds:List Mp}{E:XK}{x m:Str}{p pos apos:Pos}{e o:Expr}{es:List Expr}{ta:TE}{t:TA}
theorem EB(F:FnOk X.prog X.w X.K X.mg X.base CX k f fd ps sp)(hr:Room k X.A)(hb:Binds X.K fd ps ds)(hd:Vals dvs ds)(hx:qf CX X E)
  (I:Inv X pins σ H s) (r:Vals vs us) (h:sp (vs++dvs) H Q E):MU (MW X.prog X.w) X.A (call (.ref f) us) (EP X pins σ Q) X.xe s:=by
 have r2:Vals (vs++dvs) (us++ds):=r.append hd
 have hl:(us++ds).length=ps.length:=by rw[←r2.length];exact F.len _ _ _ _ h
 refine RJ (QO (F.run X.A X.stack s H ⟨us,[]⟩ (us++ds) (vs++dvs) Q E hr I.env0 (hb s us I.kIn hl) r2 h) fun r s' hq=>?_)
 cases r with
 |error e=>exact hx pins σ H s e s' I hq
 |ok fl=>
  cases fl with
  |ret u=>exact I.after hq
  |next=>exact NF hq
  |brk=>exact NF hq
  |cont=>exact NF hq
theorem Da(F:FnOk X.prog X.w X.K X.mg X.base CX k f fd ps sp)(hr:Room k X.A)(hg:Gl X x)(hm:X.mg x=some (.ref f))(hk:Ny X.K (.ref f)=true)(hb:Binds X.K fd ps ds)(hd:Vals dvs ds)(hx:qf CX X E)
  (ha:PA X (e::es) t) (hdb:(x == ("__debug__" : Str))=false:=by decide) (he:Mw (e::es) X.env=(false,eval e X.env)::Mw es X.env:=by rfl) (hpl:(Nv pos (Mw es X.env)).any (·.1)=false:=by rfl) :
  PE X (.Call (.Name x p) (e::es) [] pos) (wg sp dvs E t):=by
 intro pins s σ H Q I h;refine Pe (je I hg hm ?_ hdb);refine Q3 (h₀:=X.base) I.ok.mod.kin hk (thn (ha pos pins s σ H _ I h) fun us s1 ⟨vs,H1,I1,r,q⟩=>⟨I1.kIn,?_⟩) he hpl;exact EB F hr hb hd hx I1 r q
structure Mk(K:Frag)(C f:Addr):Prop where
 makes:PySem.W.makesIn K C=true
 init:MV K (.ref C) "__init__"=some (some (.ref f))
 fn:Pd K (.ref f)=true
 kp:Ny K (.ref C)=true
end
section
variable {X:Cx}{CX:CXT}{k:Nat}{f C:Addr}{fd:MS}{ps ks:List Str}{sp:Sp}{E:XK}{x m:Str}{p pos apos kpos:Pos}{e o:Expr}{es:List Expr}{kws:List N1}{te ta:TE}{t tk:TA}{nm:Option Str}
structure KBinds(K:Frag)(fd:MS)(ps ks:List Str)(g:List Mp->List Mp->List Mp)(gV:List V->List V->List V):Prop where
 to:∀(s:Ms) (us ws:List Mp),K.In s.heap->(g us ws).length=ps.length->Sy s fd ⟨us,ks.zip ws⟩ (ps.zip (g us ws))
 rel:∀{vs:List V}{us:List Mp}{zs:List V}{ws:List Mp},Vals vs us->Vals zs ws->Vals (gV vs zs) (g us ws)
variable {g:List Mp->List Mp->List Mp}{gV:List V->List V->List V}
end
structure FnScope(N P:List Str)(sc:O9):Prop where
 kind:sc.kind=.function
 co:sc.isCoroutine=false
 gen:sc.isGenerator=false
 nd:N.Nodup
 pre:N.take P.length=P
 par:∀x∈P,sc.names.lookup x=some .local\/sc.names.lookup x=some .cell
 nofree:∀y∈sc.names,y.2≠.free
theorem sU{Qt:Str->Option OZ}:∀{binds:List (Str×Mp)}{m:Str->Option Mp},(∀v,(x,v)∉binds)->UA Qt binds m x=m x
 |[],_,_=>rfl
 |(n,v)::r,m,h=>by
  unfold UA;rw[sU fun w hw=>h w (Mr _ hw)];split
  .have:x≠n:=by rintro rfl;exact h v Mq
   simp[this]
  .rfl
theorem sW{Qt:Str->Option OZ}:∀{binds:List (Str×Mp)}{m:Str->Option Mp},(∀v,(x,v)∉binds)->UB Qt binds m x=m x
 |[],_,_=>rfl
 |(n,v)::r,m,h=>by
  unfold UB;rw[sW fun w hw=>h w (Mr _ hw)];split
  .rfl
  .have:x≠n:=by rintro rfl;exact h v Mq
   simp[this]
theorem sV{Qt:Str->Option OZ}:∀{P:List Str}{vs:List Mp}{i:Nat}{m:Str->Option Mp},P.Nodup->P[i]? = some x->vs[i]? = some v->Qt x=some .local ->
  UA Qt (P.zip vs) m x=some v
 |[],_,_,_,_,h,_,_=>by simp at h
 |_::_,[],_,_,_,_,h,_=>by simp at h
 |p::P,w::vs,0,m,nd,h1,h2,hk=>by
  simp at h1 h2;subst h1;subst h2;show UA Qt ((p,w)::P.zip vs) m p=_;unfold UA;rw[sU fun v hv=>(Nc.mp nd).1 (RX hv).1,if_pos hk];simp
 |p::P,w::vs,i+1,m,nd,h1,h2,hk=>by
  show UA Qt ((p,w)::P.zip vs) m x=_;unfold UA;exact sV (i:=i) (Nc.mp nd).2 (by simpa using h1) (by simpa using h2) hk
theorem sX{Qt:Str->Option OZ}:∀{P:List Str}{vs:List Mp}{i:Nat}{m:Str->Option Mp},P.Nodup->P[i]? = some x->vs[i]? = some v->Qt x≠some .local ->
  UB Qt (P.zip vs) m x=some v
 |[],_,_,_,_,h,_,_=>by simp at h
 |_::_,[],_,_,_,_,h,_=>by simp at h
 |p::P,w::vs,0,m,nd,h1,h2,hk=>by
  simp at h1 h2;subst h1;subst h2;show UB Qt ((p,w)::P.zip vs) m p=_;unfold UB;rw[sW fun v hv=>(Nc.mp nd).1 (RX hv).1,if_neg hk];simp
 |p::P,w::vs,i+1,m,nd,h1,h2,hk=>by
  show UB Qt ((p,w)::P.zip vs) m x=_;unfold UB;exact sX (i:=i) (Nc.mp nd).2 (by simpa using h1) (by simpa using h2) hk
def start(N:List Str)(vs:List V):St:=vs.map some++MX (N.length-vs.length) none
def eQ(CX:CXT)(P:MA)(w:ML)(K:Frag)(mg:Str->Option Mp)(base:Heap)(N:List Str)(qual:Str)(scope:O9)(f:Addr)(cd:Mp)(A:Nb)(outer:List Env)(s:Ms)(H:Hp)(E:XK):Cx where
 prog:=P
 w:=w
 K:=K
 mg:=mg
 base:=base
 A:=A.deeper (P1 qual scope s.heap.objs.size f cd)
 N:=N
 s₀:=s
 H₀:=H
 env:=P1 qual scope s.heap.objs.size f cd
 outer:=outer
 stack:=P1 qual scope s.heap.objs.size f cd::outer
 ex:=[]
 calm:=true
 fn:=fun _=>true
 pn:=[]
 xe:=fun e s'=>MU (MW P w) (A.deeper (P1 qual scope s.heap.objs.size f cd)) (leaving (P1 qual scope s.heap.objs.size f cd) e) (fun _ s''=>CX outer H s E e s'') (fun e' s''=>CX outer H s E e' s'') s'
theorem uq{sc:O9}(h:sc.names.lookup x=some .cell):∃c,(Vm n sc.names []).lookup x=some c:=by
 have q:=RL sc.names n [] (.inl h);exact On.mp q
theorem AG{CX:CXT}{P:MA}{w:ML}{K:Frag}{mg:Str->Option Mp}{base:Heap}{N ps:List Str}{qual:Str}{scope:O9}{f:Addr}{cd:Mp}{A:Nb}{outer:List Env}{s s1:Ms}{H:Hp}{E:XK}{us:List Mp}{vs:List V}
  (S:FnScope N ps scope) (hd:A.handled=none) (e0:Env0 P w K mg base A outer s H) (hl:vs.length=ps.length) (r:Vals vs us)
  (x:InCallC s s.heap.objs.size (UA (P1 qual scope s.heap.objs.size f cd).kindOf (ps.zip us) fun _=>none) (Vm (s.heap.objs.size+1) scope.names []) (UB (P1 qual scope s.heap.objs.size f cd).kindOf (ps.zip us) fun _=>none) s1) :
  Inv (eQ CX P w K mg base N qual scope f cd A outer s H E) [] (start N vs) H s1:=by
 have hpl:ps.length<=N.length:=by have:=congrArg QA S.pre;rw[O0] at this;omega
 obtain⟨h1,tk,rfl,hk⟩:=x.done;have noA:∀b:Addr,b∉(eQ CX P w K mg base N qual scope f cd A outer s H E).ex:=fun b z=>absurd (show b∈([]:List Addr) from z) (by simp)
 refine⟨⟨e0.mod,S.kind,rfl,rfl,MC _,fun y z c h1 h2=>?_,fun y hy=>?_,fun y c _ h=>?_,fun _=>hd,Around.frames_deeper e0.frames,.inr ⟨rfl,rfl⟩,fun b z=>absurd z (noA b),e0.bs,e0.bsz,fun b _ _=>noA b,fun b z=>absurd z (noA b),e0.funs,e0.frf⟩,
  rfl,e0.bare,Un.kept hk,⟨_,x.toInCall.ns,fun i y v h1 h2 h3=>?_⟩,fun y c h=>⟨_,x.cell y c h⟩,e0.hok.fresh (MC _),fun y c h=>?_,fun p hp=>absurd (show p∈([]:List (Addr×Obj)) from hp) (by simp),e0.hok.kept hk,?_⟩
 .exact name_of_addr x.apart (OW h1) (OW h2)
 .have hy:scope.names.lookup y=some .cell\/scope.names.lookup y=some .free:=hy
  rcases hy with hy|hy
  .exact uq hy
  .exact absurd rfl (S.nofree _ (OW hy))
 .exact Pc (x.above y c (OW h))
 .have hi:i<vs.length:=by
   unfold start at h2
   by_cases hi:i<vs.length
   .exact hi
   .rw[Q4 (by simpa using hi)] at h2
    rw[List.getElem?_replicate] at h2
    split at h2 <;> cases h2
  have ha:vs[i]? = some v:=by
   unfold start at h2;rw[M4 (by simpa using hi),Nq] at h2
   cases e:vs[i]? with
   |none=>rw[e] at h2;cases h2
   |some a=>rw[e] at h2;cases h2;rfl
  obtain⟨u,hu,rv⟩:=r.get ha
  have hp:ps[i]? = some y:=by
   rw[←S.pre,List.getElem?_take_of_lt (by omega)];exact h1
  have ndP:ps.Nodup:=by rw[←S.pre];exact S.nd.sublist (Th _ _)
  refine⟨u,rv,?_⟩
  rcases S.par y (Nj hp) with k|k
  .exact .inl ⟨k,sV ndP hp hu k⟩
  .obtain⟨c,e⟩:=uq (n:=s.heap.objs.size+1) k
   refine .inr ⟨.inl k,c,e,?_⟩;have q:=x.cell y c e;rw[sX ndP hp hu (by show scope.names.lookup y≠_;rw[k];decide)] at q;exact q
 .exact e0.hok.fresh (Pc (x.above y c (OW h)))
 .unfold start
  show _=N.length;rw[Na,Nd,List.length_replicate];omega
theorem wR{CX:CXT}{P:MA}{w:ML}{K:Frag}{mg:Str->Option Mp}{base:Heap}{k:Nat}{f:Addr}{name qual:Str}{params:Arguments}{body:List Stmt}{scope:O9}{dV kV doc pm cdv ct oc:Mp}{an od:Option Addr}
  {osl:Array (Option Mp)}{N ps:List Str}{sp:Sp} (lk:K.lookup f=some ⟨oc,od,.func (Od name qual params body scope dV kV doc pm an cdv ct),osl⟩) (hcd:O4 K cdv qual=true) (S:FnScope N ps scope)
  (len:∀vs H Q E,sp vs H Q E->vs.length=ps.length)
  (hbody:∀(A:Nb) (outer:List Env) (s:Ms) (H:Hp) (vs:List V) (Q:VK) (E:XK),Room k (A.deeper (P1 qual scope s.heap.objs.size f cdv))->sp vs H Q E ->
   ∃t,PSs (eQ CX P w K mg base N qual scope f cdv A outer s H E) body t/\t { nx:=fun _ H'=>Q .non H',rt:=Q } (start N vs) H) :
  FnOk P w K mg base CX (k+1) f (Od name qual params body scope dV kV doc pm an cdv ct) ps sp:=by
 refine⟨len,fun A outer s H args us vs Q E hr e0 hb r hsp=>?_⟩;have hl:=len _ _ _ _ hsp;have KX:K.In s.heap:=e0.mod.kin.keeps fun b o e=>(e0.bs b o e).1;have lim:s.heap.NoLimit:=e0.mod.nolimit.keeps fun b o e=>(e0.bs b o e).1
 have hkind:∀y∈ps.zip us,scope.names.lookup y.1=some .local\/(scope.names.lookup y.1=some .cell/\((Vm (s.heap.objs.size+1) scope.names []).lookup y.1).isSome=true):=fun⟨n,v⟩ hy=>by
  rcases S.par n (RX hy).1 with q|q
  .exact .inl q
  .exact .inr ⟨q,RL _ _ _ (.inl q)⟩
 refine codeAny_call_function hr.depth (KX _ _ lk) rfl S.co S.gen rfl (PySem.W.codeRec_of KX hcd) (hb _ _ _ _ ?_);refine wpAny_newFunctionEnv_cells S.kind hkind fun env he s1 x=>?_;subst he;refine⟨lim.keeps x.toInCall.keep,codeAny_func ?_⟩;obtain⟨t,ht,hq⟩:=hbody A outer s H vs Q E (hr.deeper _) hsp;have I:Inv (eQ CX P w K mg base N qual scope f cdv A outer s H E) [] (start N vs) H s1:=AG S hr.hd e0 hl r x;refine Oc (ht [] s1 (start N vs) H _ I hq) (fun fl s' hs=>?_) fun e s' hs=>hs
 have fin:∀{σ':St}{H':Hp}{v:V}{u:Mp},Inv (eQ CX P w K mg base N qual scope f cdv A outer s H E) [] σ' H' s'->RelV v u->Q v H'->CE outer P w H s Q u s':=
  fun {σ' H' v u} J rv q=>⟨v,H',J.os,J.bare,J.base,J.hok,rv,q⟩
 cases fl with
 |ret u=>
  obtain⟨v,σ',H',J,rv,q⟩:=hs;exact fin J rv q
 |next=>
  obtain⟨σ',H',J,q⟩:=hs;exact fin (v:=V.non) (u:=NY) J rfl q
 |brk=>
  obtain⟨_,_,_,q⟩:=hs;exact NF q
 |cont=>
  obtain⟨_,_,_,q⟩:=hs;exact NF q
section
variable {X:Cx}{x:Str}{p pos:Pos}{e:Expr}{es:List Expr}{t:TA}{id T:String}{r:List V->Hp->VK->Prop}
def tCB(r:List V->Hp->VK->Prop)(t:TA):TE:=fun σ H Q=>t σ H fun vs H1=>r vs H1 Q
theorem gK(hc:CallR X (.builtin id) r)(hg:Gl X x)(hm:X.mg x=none)(hv:OA x=some (.builtin id))(ha:PA X (e::es) t)(hn:x≠"__name__":=by decide)(hdb:(x == ("__debug__" : Str))=false:=by decide)
  (he:Mw (e::es) X.env=(false,eval e X.env)::Mw es X.env:=by rfl) (hpl:(Nv pos (Mw es X.env)).any (·.1)=false:=by rfl):PE X (.Call (.Name x p) (e::es) [] pos) (tCB r t):=by
 intro pins s σ H Q I h;refine Pe (my I hg hm hv ?_ hn hdb);exact TM (thn (ha pos pins s σ H _ I h) fun us s1 ⟨vs,H1,I1,r1,q1⟩=>hc pins s1 σ H1 vs us Q I1 r1 q1) he hpl
theorem lq(hc:CallR X (.type T) r)(hg:Gl X x)(hm:X.mg x=none)(hv:OA x=some (.type T))(ha:PA X (e::es) t)(hn:x≠"__name__":=by decide)(hdb:(x == ("__debug__" : Str))=false:=by decide)
  (he:Mw (e::es) X.env=(false,eval e X.env)::Mw es X.env:=by rfl) (hpl:(Nv pos (Mw es X.env)).any (·.1)=false:=by rfl):PE X (.Call (.Name x p) (e::es) [] pos) (tCB r t):=by
 intro pins s σ H Q I h;refine Pe (my I hg hm hv ?_ hn hdb);exact QN (thn (ha pos pins s σ H _ I h) fun us s1 ⟨vs,H1,I1,r1,q1⟩=>hc pins s1 σ H1 vs us Q I1 r1 q1) he hpl
end
end L2
namespace HT
open PySem PyProof.Rows
section
open PySem.SeqAt
open PySem.AutoSeq1 (wpAny_loadPart')
open PySem.MeetsSeq PySem.MeetsSeq2 PySem.MeetsSeq3
end
section
variable {prog:MA}{w:ML}{A:Nb}{E:Mp->Ms->Prop}{s:Ms}
theorem DY(ht:Tb s.heap t vs.toArray)(hb:Tb s.heap b ws.toArray)(hv:vs≠[])
  (h1:ws=[]->Q (.ref t) s) (h2:ws≠[]->Q (.ref s.heap.objs.size) { s with heap:=s.heap.push { cls:=.type "tuple",data:=.seq (vs++ws).toArray } })
  (hsz:vs.length+ws.length<=Mz):MU (MW prog w) A (N9 .Add (.ref t) (.ref b)) Q E s:=by
 obtain⟨⟨cls,dd,data,sl⟩,ho,hc,n,hd⟩:=id ht;obtain⟨⟨cls2,dd2,data2,sl2⟩,ho2,hc2,n2,hd2⟩:=id hb;simp only at hc hd hc2 hd2;subst hc hd hc2 hd2
 have e:vs.toArray++ws.toArray=(vs++ws).toArray:=by simp
 by_cases hw:ws=[]
 .exact RM ⟨_,ho,rfl⟩ ⟨_,ho2,rfl⟩ Rt SQ Qg P6 (PN _ _)
   (tuple_addW1 t b vs.toArray ws.toArray n n2 dd dd2 sl sl2 (by simpa using hv) (by simp[hw])) ⟨ho,ho2,h1 hw⟩
 .refine RM ⟨_,ho,rfl⟩ ⟨_,ho2,rfl⟩ Rt SQ Qg P6 (PN _ _)
   (tuple_addW2 t b vs.toArray ws.toArray n n2 dd dd2 sl sl2 (by simpa using hv) (by simpa using hw) (by rw[MH,MH];exact hsz)) ⟨ho,ho2,?_⟩
  rw[e];exact h2 hw
def sIx(n d:Nat):Option Int->Nat
 |none=>d
 |some v=>if v<0 then (v+(n:Int)).toNat else min v.toNat n
theorem CM(n d k:Nat):sIx n d (some (k:Int))=min k n:=by
 show (if (k:Int)<0 then ((k:Int)+(n:Int)).toNat else min (k:Int).toNat n)=min k n;rw[if_neg (by omega),Qh]
theorem EA(n d:Nat)(hd:d<=n)(o:Option Int):sIx n d o<=n:=by
 cases o with
 |none=>exact hd
 |some v=>
  show (if v<0 then (v+(n:Int)).toNat else min v.toNat n)<=n
  by_cases hv:v<0
  .rw[if_pos hv];omega
  .rw[if_neg hv];exact TN _ _
theorem vc(v:Int)(n d:Nat):(if v<0 then max (v+(n:Int)) 0 else min v (n:Int))=((sIx n d (some v):Nat):Int):=by
 show (if v<0 then max (v+(n:Int)) 0 else min v (n:Int))=(((if v<0 then (v+(n:Int)).toNat else min v.toNat n):Nat):Int)
 by_cases hv:v<0
 .simp only[if_pos hv];omega
 .simp only[if_neg hv];omega
theorem z9(lo hi:Option Int)(n:Nat):PL lo hi 1 (n:Int)=(((sIx n 0 lo:Nat):Int),((sIx n n hi:Nat):Int)):=by
 have h1:¬((1:Int)<0):=by omega
 unfold PL;simp only[h1,if_false];refine Prod.ext ?_ ?_
 .cases lo with
  |none=>rfl
  |some v=>exact vc v n 0
 .cases hi with
  |none=>rfl
  |some v=>exact vc v n n
theorem zK(i j:Nat):OJ (i:Int) (j:Int) 1=j-i:=by
 unfold OJ
 have h1:(1:Int)>0:=by omega
 simp only[h1,if_true,Vv]
 split <;> omega
theorem rD(p:RN v o)(h:Q o s):MU (MW prog w) A (Ul v) Q E s:=by
 cases p with
 |none=>exact slicePart_none h
 |int i t=>exact slicePart_int h
theorem qT{sl:Addr}{vl vu:Mp}{lo hi:Option Int}{n:Nat}{Q:Int×Int×Nat->Ms->Prop}(hs:s.heap.IsSliceOf sl vl vu .none)(pl:RN vl lo)(pu:RN vu hi)
  (h:Q (((sIx n 0 lo:Nat):Int),1,sIx n n hi-sIx n 0 lo) s):MU (MW prog w) A (Q5 (.ref sl) (pure (n:Int))) Q E s:=by
 obtain⟨os,hos,hcs,hds⟩:=id hs;unfold Q5 UX;refine Mu (Mu (P7 hos hds (x:=vl) rfl (Mu (P7 hos hds (x:=vu) rfl (Mu (P7 hos hds (x:=.none) rfl (MI ?_)))))));refine Mu (slicePart_none ?_);show MU _ _ (if ((1:Int) == 0)=true then _ else _) _ _ s;rw[if_neg (by decide)];refine Mu (rD pl (Mu (rD pu (Mu (MI ?_)))));show MU _ _ (match PL lo hi 1 (n:Int) with|(lo,hi)=>pure (lo,(1:Int),OJ lo hi 1)) _ _ s;rw[z9 lo hi n];show MU _ _ (pure (((sIx n 0 lo:Nat):Int),(1:Int),OJ ((sIx n 0 lo:Nat):Int) ((sIx n n hi:Nat):Int) 1)) _ _ s;rw[zK];exact MI h
theorem Bs(xs:Array Mp)(i k:Nat):((NZ k).filterMap fun(m:Nat)=>xs[((i:Int)+(m:Int)*1).toNat]?).toArray=((xs.toList.drop i).take k).toArray:=by
 have e:(fun(m:Nat)=>xs[((i:Int)+(m:Int)*1).toNat]?)=fun m=>xs[i+m]?:=by
  funext m
  have:((i:Int)+(m:Int)*1).toNat=i+m:=by omega
  rw[this]
 rw[e];have:=pick_run xs i k;rw[SZ] at this;have e2:((fun x=>xs[x]?) ∘ fun x=>i+x)=fun m=>xs[i+m]?:=rfl;rw[e2] at this;rw[this]
theorem xZ{t sl:Addr}{items:Array Mp}{vl vu:Mp}{lo hi:Option Int}{Q:Mp->Ms->Prop}(ht:Tb s.heap t items)(hs:s.heap.IsSliceOf sl vl vu .none)(pl:RN vl lo)(pu:RN vu hi)
  (hw:¬(sIx items.size 0 lo=0/\sIx items.size items.size hi=items.size))
  (h:Q (.ref s.heap.objs.size) { s with heap:=s.heap.push { cls:=.type "tuple",data:=.seq ((items.toList.drop (sIx items.size 0 lo)).take (sIx items.size items.size hi-sIx items.size 0 lo)).toArray } })
  (hsz:items.size<=Mz):MU (MW prog w) A (Ri (.ref t) (.ref sl)) Q E s:=by
 have htake:sizeOk (.seq ((items.toList.drop (sIx items.size 0 lo)).take (sIx items.size items.size hi-sIx items.size 0 lo)).toArray):=by
  show ((items.toList.drop (sIx items.size 0 lo)).take (sIx items.size items.size hi-sIx items.size 0 lo)).toArray.size<=Mz;rw[MH,O0,NG,NN];omega
 have hj:sIx items.size items.size hi<=items.size:=EA _ _ (MC _) hi;obtain⟨os,hos,hcs,hds⟩:=id hs;have hTs:s.TypeIs (.ref sl) "slice":=⟨os,hos,hcs⟩;unfold Ri
 try with_reducible refine Ob ?_
 first|refine Mu (MI ?_)|skip
 refine Mu (Ti ht.typeIs (by decide) ?_)
 refine Mu (Ru (name:=Mv "__getitem__") ht.typeIs NE
  (Rv NE ht.typeIs SE ?_ (S0 _ _)))
 show MU _ _ (Q6 (.ref t) >>= _) _ _ s;refine Mu (SR ht ?_);refine Mu (QP hTs ?_);rw[if_pos (by decide)];refine Mu (qT hs pl pu ?_)
 have hno:¬((((sIx items.size 0 lo:Nat):Int) == 0&&(1:Int) == 1&&(sIx items.size items.size hi-sIx items.size 0 lo) == items.size)=true):=by
  intro q;rw[Mx,Mx] at q;have q1:((sIx items.size 0 lo:Nat):Int)=0:=eq_of_beq q.1.1;have q2:sIx items.size items.size hi-sIx items.size 0 lo=items.size:=eq_of_beq q.2;exact hw ⟨by omega,by omega⟩
 show MU _ _ (if (((sIx items.size 0 lo:Nat):Int) == 0&&(1:Int) == 1&&(sIx items.size items.size hi-sIx items.size 0 lo) == items.size)=true then _ else _) _ _ s;rw[if_neg hno,Bs]
 first
  |exact Mu (m:=N4 _) (NR (MI ⟨_,rfl,MI h⟩) htake)
  |exact Mu (m:=N4 _) (NR (Mu (MI (MI ⟨_,rfl,MI h⟩))) htake)
  |exact Mu (Mu (m:=N4 _) (NR (MI (MI ⟨_,rfl,MI h⟩)) htake))
  |exact Mu (Mu (m:=N4 _) (NR (MI ⟨_,rfl,MI h⟩) htake))
end
end HT
namespace L2
abbrev TO:=St->Hp->(Option Int->Hp->Prop)->Prop
def PO(X:Cx)(e:Option Expr)(t:TO):Prop:=
 ∀(pins:List (Addr×Obj)) (s:Ms) (σ:St) (H:Hp) (Q:Option Int->Hp->Prop),Inv X pins σ H s->t σ H Q ->
  MU (MW X.prog X.w) X.A (evalPart e X.env) (fun u s'=>∃o H',Inv X pins σ H' s'/\RN u o/\Q o H') X.xe s
def CG:TO:=fun _ H Q=>Q none H
def Gf(t:TE):TO:=fun σ H Q=>t σ H fun x H1=>∃i,x=.int i/\Q (some i) H1
section
variable {X:Cx}{e:Expr}{te:TE}{lo hi:Option Expr}{tl th:TO}{pos p2:Pos}
theorem C4:PO X none CG:=by
 intro pins s σ H Q I h;rw[evalPart_none];exact MI ⟨none,H,I,.none,h⟩
theorem C3(h:PE X e te):PO X (some e) (Gf te):=by
 intro pins s σ H Q I hw;rw[evalPart_some];refine thn (h pins s σ H _ I hw) fun u s1 ⟨x,H1,I1,r1,q1⟩=>?_;obtain⟨i,rfl,q⟩:=q1;obtain⟨t,rfl⟩:=r1;exact⟨some i,H1,I1,.int i t,q⟩
def SlR(X:Cx)(r:V->Option Int->Option Int->Hp->VK->Prop):Prop:=
 ∀(pins:List (Addr×Obj)) (s:Ms) (σ:St) (H:Hp) (x:V) (v vl vu:Mp) (lo hi:Option Int) (sl:Addr) (Q:VK),Inv X pins σ H s->RelV x v->s.heap.IsSliceOf sl vl vu .none->RN vl lo->RN vu hi->r x lo hi H Q ->
  ∃T id,S3 (.type T) "__getitem__"=pure (some (.builtin id))/\s.TypeIs v T/\MU (MW X.prog X.w) X.A (Ri v (.ref sl)) (EP X pins σ Q) X.xe s
theorem SlR.or(h:SlR X r)(h':SlR X r'):SlR X (fun x lo hi H Q=>r x lo hi H Q\/r' x lo hi H Q):=by
 intro pins s σ H x v vl vu lo hi sl Q I rx hs pl pu q
 rcases q with q|q
 .exact h pins s σ H x v vl vu lo hi sl Q I rx hs pl pu q
 .exact h' pins s σ H x v vl vu lo hi sl Q I rx hs pl pu q
def tSl(r:V->Option Int->Option Int->Hp->VK->Prop)(te:TE)(tl th:TO):TE:=fun σ H Q=>te σ H fun x H1=>tl σ H1 fun l H2=>th σ H2 fun u H3=>r x l u H3 Q
theorem Bu(hr:SlR X r)(he:PE X e te)(hl:PO X lo tl)(hu:PO X hi th):PE X (.Subscript e (.Slice lo hi none p2) pos) (tSl r te tl th):=by
 intro pins s σ H Q I h;refine Subscript_ (thn (he pins s σ H _ I h) fun v s1 ⟨x,H1,I1,r1,q1⟩=>?_);refine wpAny_Slice (thn (hl pins s1 σ H1 _ I1 q1) fun vl s2 ⟨l,H2,I2,pl,q2⟩=>thn (hu pins s2 σ H2 _ I2 q2) fun vu s3 ⟨u,H3,I3,pu,q3⟩=>?_);rw[evalPart_none];refine MI ?_;have I4:Inv X pins σ H3 { s3 with heap:=s3.heap.push { cls:=.type "slice",data:=.fields #[vl,vu,.none] } }:=I3.kept (t':=s3.toks) fun b ob q=>Mt _ q;obtain⟨T,id,hT,ht,hg⟩:=hr pins { s3 with heap:=s3.heap.push { cls:=.type "slice",data:=.fields #[vl,vu,.none] } } σ H3 x v vl vu l u s3.heap.objs.size Q I4 r1 (VM ..) pl pu q3;show MU (MW X.prog X.w) X.A (SS e (.Slice lo hi none p2) v (.ref s3.heap.objs.size)) (EP X pins σ Q) X.xe { s3 with heap:=s3.heap.push { cls:=.type "slice",data:=.fields #[vl,vu,.none] } };exact tail_any (ops:=[.ref s3.heap.objs.size,v]) ht hT hg (by with_unfolding_all rfl)
def gC(xs:List V)(lo hi:Option Int):List V:=(xs.drop (HT.sIx xs.length 0 lo)).take (HT.sIx xs.length xs.length hi-HT.sIx xs.length 0 lo)
theorem rm(xs:List V)(lo hi:Option Int):(gC xs lo hi).length<=xs.length:=by
 unfold gC;rw[O0,NG];omega
def HI(K:Frag):V->Option Int->Option Int->Hp->VK->Prop:=fun x lo hi H Q=>∃a xs,x=.ref a/\SqT K H a xs /\
 ¬(HT.sIx xs.length 0 lo=0/\HT.sIx xs.length xs.length hi=xs.length)/\∀p,H p=none->Q (.ref p) (upd H p (.tup (gC xs lo hi)))
theorem Eu:SlR X (HI X.K):=by
 intro pins s σ H x v vl vu lo hi sl Q I rx hs pl pu h;obtain⟨a,xs,rfl,hx,hw,q⟩:=h;cases rx;obtain⟨its,r,ht,hz⟩:=I.tuple hx
 have hlen:its.toArray.size=xs.length:=by rw[MH];exact r.length.symm
 refine⟨"tuple",_,NE.lookup,ht.typeIs,?_⟩;refine HT.xZ ht hs pl pu (by rw[hlen];exact hw) ?_ (by rw[hlen];exact hz);rw[hlen];refine⟨.ref s.heap.objs.size,_,I.laid (t':=s.toks) (o:=.tup (gC xs lo hi)) (fun b ob q=>Mt _ q) (MC _) ?_,rfl,q _ (I.hok.fresh (MC _))⟩;exact⟨MP (rm xs lo hi) hz,_,(r.drop (HT.sIx xs.length 0 lo)).take (HT.sIx xs.length xs.length hi-HT.sIx xs.length 0 lo),TQ _ _⟩
def Gr(K:Frag):R2:=fun x y H Q=>∃a b xs ys,x=.ref a/\y=.ref b/\SqT K H a xs/\SqT K H b ys/\xs≠[]/\xs.length+ys.length<=Mz /\
 (ys=[]->Q (.ref a) H)/\(ys≠[]->∀p,H p=none->Q (.ref p) (upd H p (.tup (xs++ys))))
theorem Vals.nil_iff(r:Vals xs us):us=[]↔xs=[]:=by
 cases r with
 |nil=>simp
 |cons _ _=>simp
theorem Dh:OpR X (N9 .Add) (Gr X.K):=by
 intro pins s σ H x y v u Q I rx ry h;obtain⟨a,b,xs,ys,rfl,rfl,ha,hb,hx,hz,q1,q2⟩:=h;cases rx;cases ry;obtain⟨its,r1,p1,_⟩:=I.tuple ha;obtain⟨its2,r2,p2,_⟩:=I.tuple hb;refine HT.DY p1 p2 (fun z=>hx (r1.nil_iff.mp z)) (fun z=>⟨.ref a,H,I,rfl,q1 (r2.nil_iff.mp z)⟩) (fun z=>?_) (by rw[←r1.length,←r2.length];exact hz);refine⟨.ref s.heap.objs.size,_,I.laid (t':=s.toks) (o:=.tup (xs++ys)) (fun b ob q=>Mt _ q) (MC _) ?_,rfl,q2 (fun w=>z (r2.nil_iff.mpr w)) _ (I.hok.fresh (MC _))⟩;exact⟨by rw[Na];exact hz,_,r1.append r2,TQ _ _⟩
end
def ixN(n:Nat)(i:Int):Option Nat:=if 0<=i then (if i<n then some i.toNat else none) else if -(n:Int)<=i then some (i+n).toNat else none
def atI{α:Type}(xs:List α)(i:Int):Option α:=(ixN xs.length i).bind fun j=>xs[j]?
theorem uU(h:ixN n i=some j):seqIndex? i n=some j/\j<n/\-(n:Int)<=i/\i<n:=by
 unfold ixN at h
 by_cases h0:0<=i
 .rw[if_pos h0] at h
  by_cases h1:i<n
  .rw[if_pos h1] at h
   have e:i.toNat=j:=Nm h;exact⟨by rw[Ug h0 h1,e],by omega,by omega,h1⟩
  .rw[if_neg h1] at h;cases h
 .rw[if_neg h0] at h
  by_cases h1 : -(n:Int)<=i
  .rw[if_pos h1] at h
   have e:(i+n).toNat=j:=Nm h;exact⟨by rw[Tj (by omega) h1,e],by omega,h1,by omega⟩
  .rw[if_neg h1] at h;cases h
theorem pG{α:Type}{xs:List α}{i:Int}{v:α}(h:atI xs i=some v):∃j,seqIndex? i xs.length=some j/\xs[j]? = some v/\j<xs.length/\-(xs.length:Int)<=i/\i<xs.length:=by
 unfold atI at h
 cases e:ixN xs.length i with
 |none=>rw[e] at h;cases h
 |some j=>
  rw[e] at h;obtain⟨h1,h2,h3,h4⟩:=uU e;exact⟨j,h1,h,h2,h3,h4⟩
theorem pF{α:Type}{xs:List α}{j:Nat}{v:α}(h:xs[j]? = some v):atI xs (j:Int)=some v:=by
 have hj:j<xs.length:=(My.mp h).1
 have e:ixN xs.length (j:Int)=some j:=by
  unfold ixN;rw[if_pos (by omega),if_pos (by omega)];simp
 unfold atI;rw[e];exact h
def me(b:Expr):Prop:=∀o i,Uh b false o i=operate [o,i] (Ri o i)
def IxR(X:Cx)(r:R2):Prop:=
 ∀(value slice:Expr) (pins:List (Addr×Obj)) (s:Ms) (σ:St) (H:Hp) (x y:V) (v u:Mp) (Q:VK),Inv X pins σ H s->RelV x v->RelV y u->r x y H Q ->
  Uh slice false v u=operate [v,u] (Ri v u)->MU (MW X.prog X.w) X.A (SS value slice v u) (EP X pins σ Q) X.xe s
def MtR(X:Cx)(id:String)(r:V->List V->Hp->VK->Prop):Prop:=
 ∀(pins:List (Addr×Obj)) (s:Ms) (σ:St) (H:Hp) (x:V) (xs:List V) (v:Mp) (us:List Mp) (Q:VK),Inv X pins σ H s->RelV x v->Vals xs us->r x xs H Q ->
  MU (MW X.prog X.w) X.A (call (.builtin id) (v::us)) (EP X pins σ Q) X.xe s
section
variable {X:Cx}{a b:Expr}{ta tb:TE}{pos:Pos}
theorem IxR.or(h:IxR X r)(h':IxR X r'):IxR X (fun x y H Q=>r x y H Q\/r' x y H Q):=by
 intro value slice pins s σ H x y v u Q I rx ry q hs
 rcases q with q|q
 .exact h value slice pins s σ H x y v u Q I rx ry q hs
 .exact h' value slice pins s σ H x y v u Q I rx ry q hs
theorem qk(hr:IxR X r)(ha:PE X a ta)(hb:PE X b tb)(hs:me b):PE X (.Subscript a b pos) (tOp r ta tb):=by
 intro pins s σ H Q I h;exact Subscript_ (qN ha hb I h fun v u s2 x y H2 I2 rx ry q=>hr a b pins s2 σ H2 x y v u Q I2 rx ry q (hs _ _))
def xy(K:Frag):R2:=fun x y H Q=>∃p xs i v,x=.ref p/\y=.int i/\SqL K H p xs/\atI xs i=some v/\Q v H
def xw(K:Frag):R2:=fun x y H Q=>∃p xs i v,x=.ref p/\y=.int i/\SqT K H p xs/\atI xs i=some v/\Q v H
def xx:R2:=fun x y H Q=>∃z i c,x=.str z/\y=.int i/\z.length<=Mz/\atI z.cps.toList i=some c/\Q (.str ⟨#[c]⟩) H
theorem ix_list:IxR X (xy X.K):=by
 intro value slice pins s σ H x y v u Q I rx ry h hs;obtain⟨p,xs,i,z,rfl,rfl,hq,he,q⟩:=h;cases rx;obtain⟨t,rfl⟩:=ry;obtain⟨its,r,pl,hz⟩:=I.list hq;obtain⟨j,h1,h2,h3,h4,h5⟩:=pG he;obtain⟨w,ew,rw'⟩:=r.get h2;have hl:=r.length;have hn:=iE;have fin:EP X pins σ Q w s:=⟨z,H,I,rw',q⟩
 by_cases h0:0<=i
 .have hj:i.toNat=j:=by
   rw[Ug h0 h5] at h1;exact Nm h1
  exact item_listR pl.isList h0 (by omega) (by rw[hj];simpa using ew) fin hs
 .have hj:(i+(its.toArray.size:Int)).toNat=j:=by
   rw[Tj (by omega) h4] at h1;rw[MH,←hl];exact Nm h1
  exact RO (x:=w) pl.isList.typeIs Tn.lookup
   (wpAny_getItem_list_neg (Q:=fun r s'=>r=w/\EP X pins σ Q r s') pl.isList (by omega) (by rw[MH] <;> omega) (by omega) (by rw[hj];simpa using ew) ⟨rfl,fin⟩) hs
theorem ix_tup:IxR X (xw X.K):=by
 intro value slice pins s σ H x y v u Q I rx ry h hs;obtain⟨p,xs,i,z,rfl,rfl,hq,he,q⟩:=h;cases rx;obtain⟨t,rfl⟩:=ry;obtain⟨its,r,pl,hz⟩:=I.tuple hq;obtain⟨j,h1,h2,h3,h4,h5⟩:=pG he;obtain⟨w,ew,rw'⟩:=r.get h2;have hl:=r.length;have hn:=iE;have fin:EP X pins σ Q w s:=⟨z,H,I,rw',q⟩
 exact RO (x:=w) pl.typeIs slot_tuple_getitem.lookup
  (getItem_tuple (j:=j) (Q:=fun r s'=>r=w/\EP X pins σ Q r s') pl (by omega) (by omega) (by rw[MH,←hl];exact h1) (by simpa using ew) ⟨rfl,fin⟩) hs
theorem Fd:IxR X xx:=by
 intro value slice pins s σ H x y v u Q I rx ry h hs;obtain⟨z,i,c,rfl,rfl,hz,he,q⟩:=h;obtain⟨t,rfl⟩:=rx;obtain⟨t',rfl⟩:=ry;obtain⟨j,h1,h2,h3,h4,h5⟩:=pG he
 have hl:z.cps.toList.length=z.length:=by simp[S4]
 rw[hl] at h1 h4 h5;have hn:=iE
 exact tail_any (Qu s z t) slot_str_getitem.lookup (getItem_str (c:=c) (by
  have e1:decide (i < -(2^63:Int))=false:=decide_eq_false (by omega);have e2:decide (i>=2^63)=false:=decide_eq_false (by omega)
  rw[e1,e2,Bool.or_false]) (by rw[h1];simpa using h2) ⟨.str ⟨#[c]⟩,H,I.tok _,⟨_,rfl⟩,q⟩) hs
def rIx(K:Frag):R2:=fun x y H Q=>xy K x y H Q\/xw K x y H Q\/xx x y H Q
theorem Fe:IxR X (rIx X.K):=ix_list.or (ix_tup.or Fd)
theorem zQ(its:List Mp)(n j:Nat)(u:Mp):RP (·.setIfInBounds j u) { cls:=.type "list",data:=.seq its.toArray n } = { cls:=.type "list",data:=.seq (its.set j u).toArray n }:=by simp[RP]
theorem Inv.lst(I:Inv X pins σ H s)(h:H p=some (.lst xs)) :
  ∃(its:List Mp) (n:Nat),Vals xs its/\s.heap.get? p=some { cls:=.type "list",data:=.seq its.toArray n }/\xs.length<=sizeLine:=by
 obtain⟨z,its,n,r,e⟩:=I.hok p _ h;exact⟨its,n,r,e,z⟩
theorem Inv.lstUpd{s:Ms}{xs ys:List V}{its its':List Mp}{f:Obj->Obj}(I:Inv X pins σ H s)(h:H p=some (.lst xs))
  (ho:s.heap.get? p=some { cls:=.type "list",data:=.seq its.toArray n }) (hf:f { cls:=.type "list",data:=.seq its.toArray n } = { cls:=.type "list",data:=.seq its'.toArray n' }) (r:Vals ys its') (hz:ys.length<=Mz) (t:Nat) :
  Inv X pins σ (upd H p (.lst ys)) { s with heap:=s.heap.update p f,toks:=t }:=by
 have e:(s.heap.update p f).get? p=some { cls:=.type "list",data:=.seq its'.toArray n' }:=by
  rw[N3 f ho (by rw[hf] <;> rfl),hf]
 refine I.write (x:=p) (e:=p) (by rw[h];trivial) (.inl rfl) (fun b u hb q=>(M8 _ _ (Ot hb)).trans q) ⟨_,e⟩ ?_;exact⟨hz,its',n',r,e⟩
def Gq:V->V->V->Hp->(Hp->Prop)->Prop:=fun o i v H Q=>∃p xs k j,o=.ref p/\i=.int k/\H p=some (.lst xs)/\ixN xs.length k=some j/\Q (upd H p (.lst (xs.set j v)))
theorem set_list:xU X Gq:=by
 intro pins s σ H o i v ov iv u Q I ro ri rv h;obtain⟨p,xs,k,j,rfl,rfl,hp,hj,q⟩:=h;cases ro;obtain⟨t,rfl⟩:=ri;obtain⟨its,n,r,ho,hz⟩:=I.lst hp;obtain⟨h1,h2,h3,h4⟩:=uU hj;have hl:=r.length;have hn:=iE
 have I':Inv X pins σ (upd H p (.lst (xs.set j v))) { s with heap:=s.heap.update p (RP (·.setIfInBounds j u)) }:=
  I.lstUpd hp ho (zQ its n j u) (r.set rv j) (by rw[List.length_set];exact hz) s.toks
 by_cases h0:0<=k
 .have hk:k.toNat=j:=by
   rw[Ug h0 h4] at h1;exact Nm h1
  exact PySem.W.ki_setAt ho h0 (by omega) (by rw[MH,←hl];exact h4) (by rw[hk];exact⟨_,I',q⟩)
 .have hk:(k+(its.toArray.size:Int)).toNat=j:=by
   rw[Tj (by omega) h3] at h1;rw[MH,←hl];exact Nm h1
  exact PySem.W.ki_setBack ho (by omega) (by rw[MH,←hl];exact h3) (by omega) (by rw[hk];exact⟨_,I',q⟩)
theorem yJ(lo hi:Option Int)(n:Nat):(P8 lo hi none n).1=((HT.sIx n 0 lo:Nat):Int)/\(P8 lo hi none n).2.1=((HT.sIx n n hi:Nat):Int)/\(P8 lo hi none n).2.2=1:=by
 refine⟨?_,?_,rfl⟩
 .cases lo with
  |none=>simp[P8,HT.sIx]
  |some i=>
   simp only[P8,HT.sIx,Rw,show (1:Int)>0 by decide,if_true]
   by_cases h:i<0
   .simp only[h,if_true] <;> omega
   .simp only[h,if_false] <;> omega
 .cases hi with
  |none=>simp[P8,HT.sIx]
  |some i=>
   simp only[P8,HT.sIx,Rw,show (1:Int)>0 by decide,if_true]
   by_cases h:i<0
   .simp only[h,if_true] <;> omega
   .simp only[h,if_false] <;> omega
theorem yy(its:List Mp)(lo hi:Option Int):slicePick its.toArray lo hi none=((its.drop (HT.sIx its.length 0 lo)).take (HT.sIx its.length its.length hi-HT.sIx its.length 0 lo)).toArray:=by
 obtain⟨h1,h2,h3⟩:=yJ lo hi its.toArray.size;unfold slicePick;rw[h1,h2,h3]
 simp only[sliceRange_one,pick_run,MH] <;> rfl
def HJ(K:Frag):V->Option Int->Option Int->Hp->VK->Prop:=fun x lo hi H Q=>∃a xs,x=.ref a/\SqL K H a xs/\∀p,H p=none->Q (.ref p) (upd H p (.lst (gC xs lo hi)))
theorem sl_list:SlR X (HJ X.K):=by
 intro pins s σ H x v vl vu lo hi sl Q I rx hs pl pu h;obtain⟨a,xs,rfl,hx,q⟩:=h;cases rx;obtain⟨its,r,ht,hz⟩:=I.list hx;have hlen:=r.length;refine⟨"list",_,Tn.lookup,ht.isList.typeIs,?_⟩;refine wpAny_getItem_list_slice ht.isList hs pl pu .none (by simp) ?_ (by rw[MH] <;> omega);rw[yy,←hlen];refine⟨.ref s.heap.objs.size,_,I.laid (t':=s.toks) (o:=.lst (gC xs lo hi)) (fun b ob q=>Mt _ q) (MC _) ?_,rfl,q _ (I.hok.fresh (MC _))⟩;exact⟨MP (rm xs lo hi) hz,_,0,(r.drop (HT.sIx xs.length 0 lo)).take (HT.sIx xs.length xs.length hi-HT.sIx xs.length 0 lo),MZ _ rfl⟩
def fF:V->Bool
 |.non=>true
 |.bl _=>true
 |.int _=>true
 |.str _=>true
 |_=>false
def eqV:V->V->Bool
 |.non,.non=>true
 |.bl a,.bl b=>a == b
 |.bl a,.int b=>(if a then 1 else 0) == b
 |.int a,.bl b=>a == (if b then 1 else 0)
 |.int a,.int b=>a == b
 |.str a,.str b=>a == b
 |_,_=>false
theorem FC(ry:RelV y u)(rx:RelV x v)(fy:fF y=true)(fx:fF x=true):VN A s u v (eqV y x):=by
 cases y with
 |non=>
  cases ry
  cases x with
  |non=>cases rx;exact Um _
  |bl b=>cases rx;exact SeqAt.EqAt.none_bool b
  |int b=>obtain⟨t,rfl⟩:=rx;exact SG b t
  |str b=>obtain⟨t,rfl⟩:=rx;exact SH b t
  |_=>exact absurd (show false=true from fx) MF
 |bl a=>
  cases ry
  cases x with
  |non=>cases rx;exact SeqAt.EqAt.bool_none a
  |bl b=>cases rx;exact SeqAt.EqAt.bool_bool a b
  |int b=>obtain⟨t,rfl⟩:=rx;exact SeqAt.EqAt.bool_int a b t
  |str b=>obtain⟨t,rfl⟩:=rx;exact SeqAt.EqAt.bool_str a b t
  |_=>exact absurd (show false=true from fx) MF
 |int a=>
  obtain⟨t',rfl⟩:=ry
  cases x with
  |non=>cases rx;exact SI a t'
  |bl b=>cases rx;exact SeqAt.EqAt.int_bool a t' b
  |int b=>obtain⟨t,rfl⟩:=rx;exact SeqAt.EqAt.int_int a t' b t
  |str b=>obtain⟨t,rfl⟩:=rx;exact QU a t' b t
  |_=>exact absurd (show false=true from fx) MF
 |str a=>
  obtain⟨t',rfl⟩:=ry
  cases x with
  |non=>cases rx;exact SJ a t'
  |bl b=>cases rx;exact SeqAt.EqAt.str_bool a t' b
  |int b=>obtain⟨t,rfl⟩:=rx;exact QV a t' b t
  |str b=>obtain⟨t,rfl⟩:=rx;exact SeqAt.EqAt.str_str a t' b t
  |_=>exact absurd (show false=true from fx) MF
 |_=>exact absurd (show false=true from fy) MF
def eqU(x:V)(u:Mp):Bool:=match u with
 |.none=>eqV .non x
 |.bool b=>eqV (.bl b) x
 |.int i _=>eqV (.int i) x
 |.str z _=>eqV (.str z) x
 |_=>false
theorem vU(r:RelV y u)(f:fF y=true):eqU x u=eqV y x:=by
 cases y with
 |non=>cases r;rfl
 |bl b=>cases r;rfl
 |int i=>obtain⟨t,rfl⟩:=r;rfl
 |str z=>obtain⟨t,rfl⟩:=r;rfl
 |_=>exact absurd (show false=true from f) MF
theorem jZ:∀{xs:List V}{us:List Mp},Vals xs us->xs.all fF=true->us.any (eqU x)=xs.any fun y=>eqV y x
 |_,_,.nil,_=>rfl
 |y::xs,u::us,.cons r t,f=>by
  rw[Pn,Mx] at f;rw[OD,OD,vU r f.1,jZ t f.2]
theorem jO(rx:RelV x v)(fx:fF x=true):∀{xs:List V}{us:List Mp},Vals xs us->xs.all fF=true->∀u∈us,VN A s u v (eqU x u)
 |_,_,.nil,_=>fun u hu=>by cases hu
 |y::xs,u::us,.cons r t,f=>fun u' hu=>by
  rw[Pn,Mx] at f
  rcases MG.mp hu with rfl|hu
  .rw[vU r f.1];exact FC r rx f.1 fx
  .exact jO rx fx t f.2 u' hu
def inV(x:V)(xs:List V):Bool:=xs.any fun y=>eqV y x
def rIn(K:Frag)(neg:Bool):R2:=fun x y H Q=>∃p xs,y=.ref p/\(SqL K H p xs\/SqT K H p xs)/\fF x=true/\xs.all fF=true/\Q (.bl (if neg then !inV x xs else inV x xs)) H
theorem sC:OpR X (M7 .In) (rIn X.K false):=by
 intro pins s σ H x y v u Q I rx ry h;obtain⟨p,xs,rfl,hq,fx,fs,q⟩:=h;cases ry
 rcases hq with hq|hq
 .obtain⟨its,r,pl,hz⟩:=I.list hq
  refine SeqAt.in_listAt (eqU x) pl.isList (fun w hw=>jO rx fx r fs w (by simpa using hw)) ⟨.bl _,H,I,rfl,?_⟩;rw[show its.toArray.any (eqU x)=its.any (eqU x) by simp,jZ r fs];exact q
 .obtain⟨its,r,pl,hz⟩:=I.tuple hq
  refine SeqAt.in_tupleAt (eqU x) pl (fun w hw=>jO rx fx r fs w (by simpa using hw)) ⟨.bl _,H,I,rfl,?_⟩;rw[show its.toArray.any (eqU x)=its.any (eqU x) by simp,jZ r fs];exact q
theorem qX:OpR X (M7 .NotIn) (rIn X.K true):=by
 intro pins s σ H x y v u Q I rx ry h;obtain⟨p,xs,rfl,hq,fx,fs,q⟩:=h;cases ry
 rcases hq with hq|hq
 .obtain⟨its,r,pl,hz⟩:=I.list hq
  refine S5 (eqU x) pl.isList (fun w hw=>jO rx fx r fs w (by simpa using hw)) ⟨.bl _,H,I,rfl,?_⟩;rw[show its.toArray.any (eqU x)=its.any (eqU x) by simp,jZ r fs];exact q
 .obtain⟨its,r,pl,hz⟩:=I.tuple hq
  refine SeqAt.notIn_tupleAt (eqU x) pl (fun w hw=>jO rx fx r fs w (by simpa using hw)) ⟨.bl _,H,I,rfl,?_⟩;rw[show its.toArray.any (eqU x)=its.any (eqU x) by simp,jZ r fs];exact q
theorem call_len_seq:CallR X (.builtin "len") (fun xs H Q=>∃p ys,xs=[.ref p]/\(SqL X.K H p ys\/SqT X.K H p ys)/\Q (.int ys.length) H):=by
 intro pins s σ H xs us Q I r h;obtain⟨p,ys,rfl,hq,q⟩:=h;obtain⟨u,rfl,rx⟩:=vals1 r;cases rx;have hn:=iE
 rcases hq with hq|hq
 .obtain⟨its,r',pl,hz⟩:=I.list hq
  have hlen:=r'.length;exact Calls.call_len_list pl.isList (by simp only[MH] <;> omega) ⟨.int ys.length,H,I.tok _,⟨s.toks+1,by rw[MH,hlen]⟩,q⟩
 .obtain⟨its,r',pl,hz⟩:=I.tuple hq
  have hlen:=r'.length;exact len_tuple pl (by simp only[MH] <;> omega) ⟨.int ys.length,H,I.tok _,⟨s.toks+1,by rw[MH,hlen]⟩,q⟩
theorem call_len_str:CallR X (.builtin "len") (fun xs H Q=>∃z,xs=[.str z]/\z.length<=Mz/\Q (.int z.length) H):=by
 intro pins s σ H xs us Q I r h;obtain⟨z,rfl,hz,q⟩:=h;obtain⟨u,rfl,t,rfl⟩:=vals1 r;have hn:=iE;exact len_str (by omega) ⟨.int z.length,H,I.tok _,⟨_,rfl⟩,q⟩
theorem CallR.or(h:CallR X f r)(h':CallR X f r'):CallR X f (fun xs H Q=>r xs H Q\/r' xs H Q):=by
 intro pins s σ H xs us Q I rs q
 rcases q with q|q
 .exact h pins s σ H xs us Q I rs q
 .exact h' pins s σ H xs us Q I rs q
theorem call_list_of:CallR X (.type "list") (fun xs H Q=>∃p ys,xs=[.ref p]/\(SqL X.K H p ys\/SqT X.K H p ys)/\∀l,H l=none->Q (.ref l) (upd H l (.lst ys))):=by
 intro pins s σ H xs us Q I r h;obtain⟨p,ys,rfl,hq,q⟩:=h;obtain⟨u,rfl,rx⟩:=vals1 r;cases rx
 have fin:∀(its:List Mp),Vals ys its->ys.length<=Mz->∀(h':Heap) (c':Nat),(∀b o',s.heap.get? b=some o'->h'.get? b=some o') ->
   h'.get? s.heap.objs.size=some { cls:=.type "list",dict:=none,data:=.seq its.toArray c',slots:=#[] }->EP X pins σ Q (.ref s.heap.objs.size) { s with heap:=h' }:=fun its r' hz h' c' kp e=>
  ⟨.ref s.heap.objs.size,_,I.laid (t':=s.toks) kp (MC _) (show ObjOk X.prog X.w _ h' _ (.lst ys) from⟨hz,its,c',r',e⟩),rfl,q _ (I.hok.fresh (MC _))⟩
 rcases hq with hq|hq
 .obtain⟨its,r',pl,hz⟩:=I.list hq
  have hlen:=r'.length;obtain⟨o,ho,hc,n,hd⟩:=pl.isList;exact call_list_seq p (.inl rfl) ho hc hd (fun h' c' kp e=>fin its r' hz h' c' kp e) (by simp only[MH] <;> omega)
 .obtain⟨its,r',pl,hz⟩:=I.tuple hq
  have hlen:=r'.length;obtain⟨o,ho,hc,n,hd⟩:=pl;exact call_list_seq p (.inr rfl) ho hc hd (fun h' c' kp e=>fin its r' hz h' c' kp e) (by simp only[MH] <;> omega)
theorem qW:CallR X (.type "tuple") (fun xs H Q=>∃p ys,xs=[.ref p]/\((SqL X.K H p ys/\∀l,H l=none->Q (.ref l) (upd H l (.tup ys)))\/(SqT X.K H p ys/\Q (.ref p) H))):=by
 intro pins s σ H xs us Q I r h;obtain⟨p,ys,rfl,h⟩:=h;obtain⟨u,rfl,rx⟩:=vals1 r;cases rx
 rcases h with⟨hq,q⟩|⟨hq,q⟩
 .obtain⟨its,r',pl,hz⟩:=I.list hq
  have hlen:=r'.length;refine call_tuple_list pl.isList (fun h' kp=>?_) (by simp only[MH] <;> omega);have I1:Inv X pins σ H { s with heap:=h' }:=I.kept (t':=s.toks) kp
  have I2:Inv X pins σ (upd H h'.objs.size (.tup ys)) { s with heap:=h'.push { cls:=.type "tuple",data:=.seq its.toArray } }:=
   I1.laid (t':=s.toks) (fun b o e=>Mt _ e) (MC _) (show ObjOk X.prog X.w _ _ _ (.tup ys) from⟨hz,its,r',TQ _ _⟩)
  exact⟨.ref h'.objs.size,_,I2,rfl,q _ (I1.hok.fresh (MC _))⟩
 .obtain⟨its,r',pl,hz⟩:=I.tuple hq
  exact call_tuple_same pl ⟨.ref p,H,I,rfl,q⟩
def tyV(K:Frag)(T:String)(x:V)(H:Hp):Prop:=match x with
 |.str _=>T="str"
 |.int _=>T="int"
 |.ref p=>(T="list"/\∃xs,SqL K H p xs)\/(T="tuple"/\∃o,K.lookup p=some o/\o.cls=.type "tuple"/\o.dict=none) \/
   (T="dict"/\((∃kvs,H p=some (.dK kvs))\/∃kvs,H p=some (.dT kvs)))\/(T="set"/\∃S n,H p=some (.set S n))
 |_=>False
theorem mf(I:Inv X pins σ H s)(r:RelV x v)(ty:tyV X.K T x H) :
  s.TypeIs v T/\∀a,v=.ref a->∃ob,s.heap.get? a=some ob/\ob.dict=none:=by
 cases x with
 |str z=>
  obtain⟨t,rfl⟩:=r;cases (show T="str" from ty);exact⟨Qu s z t,fun _ e=>nomatch e⟩
 |int i=>
  obtain⟨t,rfl⟩:=r;cases (show T="int" from ty);exact⟨UC s i t,fun _ e=>nomatch e⟩
 |ref p=>
  cases r
  rcases ty with⟨rfl,xs,hq⟩|⟨rfl,o,hk,hc,hd⟩|⟨rfl,hk⟩|⟨rfl,S,n,hk⟩
  .obtain⟨its,_,pl,_⟩:=I.list hq
   refine⟨pl.isList.typeIs,fun a e=>?_⟩;cases e;obtain⟨o,n,e,c,hd,_⟩:=pl;exact⟨o,e,hd⟩
  .refine⟨⟨o,I.kIn p o hk,hc⟩,fun a e=>?_⟩
   cases e;exact⟨o,I.kIn _ o hk,hd⟩
  .have z:∃o,s.heap.get? p=some o/\o.ExactDict:=by
    rcases hk with⟨kvs,hk⟩|⟨kvs,hk⟩
    .obtain⟨_,_,_,_,o,_,_,e,ex,_⟩:=I.hok p _ hk
     exact⟨o,e,ex⟩
    .obtain⟨_,_,_,_,o,_,_,e,ex,_⟩:=I.hok p _ hk
     exact⟨o,e,ex⟩
   obtain⟨o,e,ex⟩:=z;refine⟨⟨o,e,ex.1⟩,fun a e2=>?_⟩;cases e2;exact⟨o,e,ex.2.1⟩
  .obtain⟨o,_,_,_,e,ex,_⟩:=I.hok p _ hk
   refine⟨⟨o,e,ex.1⟩,fun a e2=>?_⟩;cases e2;exact⟨o,e,ex.2.1⟩
 |_=>exact NF ty
def HB(K:Frag)(T:String)(r:V->List V->Hp->VK->Prop)(to:TE):TE:=fun σ H Q=>to σ H fun x H1=>tyV K T x H1/\r x [] H1 Q
def tBM(K:Frag)(T:String)(r:V->List V->Hp->VK->Prop)(to:TE)(t:TA):TE:=fun σ H Q=>to σ H fun x H1=>tyV K T x H1/\t σ H1 fun xs H2=>r x xs H2 Q
variable {o e:Expr}{es:List Expr}{to:TE}{t:TA}{name:Str}{apos cpos:Pos}{T id:String}{r:V->List V->Hp->VK->Prop}
theorem ET(pa:UD T)(slot:Slot T name id)(hty:typeOf (.builtin id)=pure (.type "method_descriptor"))(hm:MtR X id r)(ho:PE X o to)
  (hbase:NA o name X.env (eval o X.env)=eval o X.env:=by rfl) (hline:(apos.endLine == cpos.line)=true:=by rfl):PE X (.Call (.Attribute o name apos) [] [] cpos) (HB X.K T r to):=by
 intro pins s σ H Q I h;refine wpAny_Call_method0_late hbase hline (thn (ho pins s σ H _ I h) fun v s1 ⟨x,H1,I1,r1,ty,q1⟩=>?_);obtain⟨h1,h2⟩:=mf I1 r1 ty;exact⟨T,id,pa,slot,hty,h1,h2,OB rfl (PySem.evalArgs_none (hm pins s1 σ H1 x [] v [] Q I1 r1 .nil q1))⟩
theorem ku(pa:UD T)(slot:Slot T name id)(hty:typeOf (.builtin id)=pure (.type "method_descriptor"))(hm:MtR X id r)(ho:PE X o to)(ha:PA X (e::es) t)
  (hbase:NA o name X.env (eval o X.env)=eval o X.env:=by rfl)
  (hfew:((Nv cpos (Mw (e::es) X.env)).all (fun x=>!x.1)&&(O5 cpos (Oa [] X.env)).all (fun x=>x.1.isSome)
   && decide ((e::es).length+([]:List N1).length+(if ([]:List N1).isEmpty then 0 else 1)<30))=true:=by rfl)
  (hline:(apos.endLine == cpos.line)=true:=by rfl) (hs:Mw (e::es) X.env=(false,eval e X.env)::Mw es X.env:=by rfl) (hplain:(Nv cpos (Mw es X.env)).any (·.1)=false:=by rfl) :
  PE X (.Call (.Attribute o name apos) (e::es) [] cpos) (tBM X.K T r to t):=by
 intro pins s σ H Q I h;refine Qi hbase hfew hline rfl (thn (ho pins s σ H _ I h) fun v s1 ⟨x,H1,I1,r1,ty,q1⟩=>?_);obtain⟨h1,h2⟩:=mf I1 r1 ty;refine⟨T,id,pa,slot,hty,h1,h2,?_⟩;have hA:=ha cpos pins s1 σ H1 _ I1 q1;rw[hs] at hA ⊢;refine OB (by show (false||(Nv cpos (Mw es X.env)).any (·.1))=false;rw[hplain] <;> rfl) (Pt ?_);exact thn hA fun us s2 ⟨vs,H2,I2,r2,q2⟩=>hm pins s2 σ H2 x vs v us Q I2 r1 r2 q2
end
def MtM(X:Cx)(id:String)(r:V->List V->Hp->VK->Prop):Prop:=
 ∀(pins:List (Addr×Obj)) (s:Ms) (σ:St) (H:Hp) (x:V) (xs:List V) (v:Mp) (us:List Mp) (Q:VK),Inv X pins σ H s->RelV x v->Vals xs us->r x xs H Q ->
  MU (MW X.prog X.w) X.A (call (.builtin id) (v::us)) (EP X pins σ Q) X.xe s
theorem Vals.one:∀{x:V}{us:List Mp},Vals [x] us->∃u,us=[u]/\RelV x u
 |_,_,.cons r .nil=>⟨_,rfl,r⟩
theorem Vals.zero:∀{us:List Mp},Vals [] us->us=[]
 |_,.nil=>rfl
theorem Vals.dropLast(h:Vals xs us):Vals xs.dropLast us.dropLast:=by
 induction h with
 |nil=>exact .nil
 |cons r t ih=>
  cases t with
  |nil=>exact .nil
  |cons q t'=>exact .cons r ih
theorem Vals.rep(h:Vals xs us):∀k:Nat,Vals (MX k xs).flatten (MX k us).flatten
 |0=>.nil
 |k+1=>by
  rw[Oh,Oh,OO,OO];exact Vals.append h (Vals.rep h k)
theorem zX{α:Type}(l:List α):l.eraseIdx (l.length-1)=l.dropLast:=by
 induction l with
 |nil=>rfl
 |cons a r ih=>
  cases r with
  |nil=>rfl
  |cons b r=>
   have e:(a::b::r).length-1=((b::r).length-1)+1:=by
    have h1:(a::b::r).length=r.length+2:=rfl;have h2:(b::r).length=r.length+1:=rfl;omega
   rw[e,List.eraseIdx_cons_succ,ih]
   all_goals rfl
theorem foldl_rep(its:List Mp):∀(k:Nat) (acc:List Mp),
  Q7 (fun x1 x2=>x1++x2) acc.toArray (MX k its.toArray)=(acc++(MX k its).flatten).toArray
 |0,acc=>by simp
 |k+1,acc=>by
  have e:acc.toArray++its.toArray=(acc++its).toArray:=by simp
  have e2:(acc++its)++(MX k its).flatten=acc++(MX (k+1) its).flatten:=by
   rw[Oh,OO,OP]
  rw[←e2,←foldl_rep its k (acc++its),←e,Oh,List.foldl_cons]
section
variable {X:Cx}{pins:List (Addr×Obj)}{σ:St}{H:Hp}{s:Ms}{l b:Addr}{xs ys zs:List V}
theorem Inv.lset{its its':List Mp}{f:Array Mp->Array Mp}(I:Inv X pins σ H s)(hH:H l=some (.lst xs))
  (e:s.heap.get? l=some { cls:=.type "list",data:=.seq its.toArray n }) (hf:f its.toArray=its'.toArray) (hv:Vals ys its') (hz:ys.length<=Mz) :
  Inv X pins σ (upd H l (.lst ys)) { s with heap:=s.heap.update l (RP f),toks:=t' }:=by
 have q:=PySem.IsL.update e f;rw[hf] at q;refine I.write (x:=l) (e:=l) (by rw[hH];exact trivial) (.inl rfl) (fun b' u hb hu=>(M8 s.heap (RP f) (Ot hb)).trans hu) ⟨_,q⟩ ?_;exact⟨hz,its',_,hv,q⟩
theorem Inv.lnew(I:Inv X pins σ H s)(hv:Vals ys its)(hz:ys.length<=Mz) :
  Inv X pins σ (upd H s.heap.objs.size (.lst ys)) { s with heap:=s.heap.push { cls:=.type "list",data:=.seq its.toArray },toks:=t' }:=I.laid (fun _ _ q=>Mt _ q) (MC _) ⟨hz,its,0,hv,MZ _ rfl⟩
theorem Inv.fresh(I:Inv X pins σ H s):H s.heap.objs.size=none:=I.hok.fresh (MC _)
theorem Inv.lstM(I:Inv X pins σ H s)(hH:H l=some (.lst xs)):xs.length<=Mz/\∃(its:List Mp) (n:Nat),Vals xs its/\xs.length=its.length/\s.heap.get? l=some { cls:=.type "list",data:=.seq its.toArray n }:=by
 obtain⟨z,its,n,r,e⟩:=I.hok l _ hH;exact⟨z,its,n,r,r.length,e⟩
end
section
variable {X:Cx}
def CO:V->List V->Hp->VK->Prop:=fun x vs H Q=>∃l xs y,x=.ref l/\vs=[y]/\H l=some (.lst xs)/\xs.length<Mz/\Q .non (upd H l (.lst (xs++[y])))
theorem n8:MtM X "list.append" CO:=by
 intro pins s σ H x vs v us Q I rx rv h;obtain⟨l,xs,y,rfl,rfl,hH,hz,q⟩:=h;cases rx;obtain⟨u,rfl,ru⟩:=rv.one;obtain⟨z,its,n,r,hl,e⟩:=I.lstM hH;refine Qv F.slot_list_append ⟨_,e,rfl⟩ F.entry_list_append (F.args_list_append_2 _ _) (PySem.list_append l its.toArray n u (by rw[MH];omega)) ⟨e,?_⟩;refine⟨.non,_,I.lset (its':=its++[u]) hH e (by simp) (r.append (.cons ru .nil)) ?_,rfl,q⟩;rw[Na,List.length_singleton];omega
def HK:V->List V->Hp->VK->Prop:=fun x vs H Q=>∃l xs y,x=.ref l/\vs=[]/\H l=some (.lst xs)/\xs[xs.length-1]? = some y/\Q y (upd H l (.lst xs.dropLast))
theorem E6:MtM X "list.pop" HK:=by
 intro pins s σ H x vs v us Q I rx rv h;obtain⟨l,xs,y,rfl,rfl,hH,hy,q⟩:=h;cases rx;have hus:=rv.zero;subst hus;obtain⟨z,its,n,r,hl,e⟩:=I.lstM hH;obtain⟨u,hu,ru⟩:=r.get hy
 have hy':its.toArray[its.toArray.size-1]? = some u:=by
  show its.toArray[its.length-1]? = some u;rw[←Array.getElem?_toList,←hl];exact hu
 refine Qv F.slot_list_pop ⟨_,e,rfl⟩ F.entry_list_pop (F.args_list_pop_1 _) (MeetsSeq.list_pop_last l its.toArray n u hy' (by rw[MH];omega)) ⟨e,?_⟩;refine⟨y,_,I.lset (its':=its.dropLast) hH e ?_ r.dropLast ?_,ru,q⟩
 .show its.toArray.eraseIdxIfInBounds (its.toArray.size-1)=its.dropLast.toArray
  rw[MH,List.eraseIdxIfInBounds_toArray,zX]
 .rw[List.length_dropLast]
  omega
theorem len_rep{α:Type}(xs:List α)(k:Nat):(MX k xs).flatten.length=k*xs.length:=by
 induction k with
 |zero=>simp
 |succ k ih=>rw[Oh,OO,Na,ih,Nat.succ_mul,Nat.add_comm]
end
section
variable {prog:MA}{w:ML}{A:Nb}{E:Mp->Ms->Prop}{s:Ms}
end
section
variable {X:Cx}
end
section
variable {κ:Type}[DecidableEq κ]
def bK(kvs:List (κ×V))(k:κ):Option V:=(kvs.find? fun kv=>decide (kv.1=k)).map (·.2)
def putK(kvs:List (κ×V))(k:κ)(v:V):List (κ×V):=if (kvs.any fun kv=>decide (kv.1=k))=true then kvs.map (fun kv=>if kv.1=k then (kv.1,v) else kv) else kvs++[(k,v)]
theorem ot{p:κ×V}(e:p.1=k):bK (p::r) k=some p.2:=by simp[bK,N5,e]
theorem ou{p:κ×V}(e:¬p.1=k):bK (p::r) k=bK r k:=by simp[bK,N5,e]
theorem oy(k:κ):∀kvs:List (κ×V),(kvs.any fun kv=>decide (kv.1=k))=(bK kvs k).isSome
 |[]=>rfl
 |p::r=>by
  rw[OD]
  by_cases e:p.1=k
  .simp only[ot e,decide_eq_true e,Bool.true_or,S6]
  .rw[ou e,decide_eq_false e,Bool.false_or];exact oy k r
theorem nH(kvs:List (κ×V))(k:κ)(v:V):(putK kvs k v).length<=kvs.length+1:=by
 unfold putK;split
 .rw[Nd];omega
 .rw[Na,MY,OM];omega
theorem Bl{kvs:List (κ×V)}{k:κ}(v:V)(h:bK kvs k=none):putK kvs k v=kvs++[(k,v)]:=by
 unfold putK;rw[oy,h];exact if_neg (by decide)
theorem RelO.isSome_eq(r:RelO o u):o.isSome=u.isSome:=by
 cases o with
 |none=>cases u with
  |none=>rfl
  |some _=>exact(show False from r).elim
 |some _=>cases u with
  |none=>exact(show False from r).elim
  |some _=>rfl
theorem KV.val(r:KV kvs vs)(k:κ):RelO (bK kvs k) (Rj vs k):=by
 unfold KV at r
 induction r with
 |nil=>exact Ow
 |@cons p q ps qs h t ih=>
  obtain⟨h1,h2⟩:=h
  by_cases e:p.1=k
  .have e':q.1=k:=h1.symm.trans e
   have b:Rj (q::qs) k=some q.2:=by simp[Rj,N5,e']
   rw[ot e,b];exact h2
  .have e':¬q.1=k:=fun z=>e (h1.trans z)
   have b:Rj (q::qs) k=Rj qs k:=by simp[Rj,N5,e']
   rw[ou e,b];exact ih
theorem KV.any(r:KV kvs vs)(k:κ):(kvs.any fun kv=>decide (kv.1=k))=vs.any fun kv=>decide (kv.1=k):=by
 unfold KV at r
 induction r with
 |nil=>rfl
 |cons h t ih=>rw[OD,OD,ih,h.1]
theorem KV.repl(r:KV kvs vs)(k:κ)(ry:RelV y u) :
  KV (kvs.map fun kv=>if kv.1=k then (kv.1,y) else kv) (vs.map fun kv=>if kv.1=k then (kv.1,u) else kv):=by
 unfold KV at r ⊢
 induction r with
 |nil=>exact .nil
 |@cons p q ps qs h t ih=>
  rw[M5,M5];refine .cons ?_ ih;obtain⟨h1,h2⟩:=h
  by_cases e:p.1=k
  .rw[if_pos e,if_pos (h1.symm.trans e)];exact⟨h1,ry⟩
  .rw[if_neg e,if_neg (fun z=>e (h1.trans z))];exact⟨h1,h2⟩
theorem KV.put(r:KV kvs vs)(k:κ)(ry:RelV y u):KV (putK kvs k y) (stored vs k u):=by
 unfold putK stored;rw[r.any k]
 by_cases e:(vs.any fun kv=>decide (kv.1=k))=true
 .rw[if_pos e,if_pos e];exact r.repl k ry
 .rw[if_neg e,if_neg e];exact VH r ⟨rfl,ry⟩
theorem KV.keys{kvs:List (κ×V)}{vs:List (κ×Mp)}(r:KV kvs vs):kvs.map (·.1)=vs.map (·.1):=by
 unfold KV at r
 induction r with
 |nil=>rfl
 |cons h t ih=>rw[M5,M5,ih,h.1]
theorem KV.length(r:KV kvs vs):kvs.length=vs.length:=Om r
end
theorem ju(r:RelV (kV k) u):(bQ P w).is k u=true:=by
 cases k with
 |inl i=>obtain⟨t,e⟩:=(show ∃t,u=QT i t from r);subst e;exact zx P w i t
 |inr x=>obtain⟨t,e⟩:=(show ∃t,u=P5 x t from r);subst e;exact zw P w x t
theorem sJ:∀{ks:List Key}{us:List Mp},Vals (ks.map kV) us->ItemsAre (bQ P w) ks us
 |[],_,r=>by rw[RQ] at r;cases r;exact .nil
 |k::ks,_,r=>by
  rw[M5] at r
  cases r with
  |cons h t=>exact .cons (ju h) (sJ t)
abbrev KT(H:Hp):List (List Key×V)->List (List Key×Addr×Mp)->Prop:=QX fun p q=>p.1=q.1/\H q.2.1=some (.tup (p.1.map kV))/\RelV p.2 q.2.2
theorem KT.val(r:KT H kvs xs)(k:List Key):RelO (bK kvs k) ((Ui xs k).map (·.2)):=by
 induction r with
 |nil=>exact Ow
 |@cons p q ps qs h t ih=>
  obtain⟨h1,_,h2⟩:=h
  by_cases e:p.1=k
  .have e':q.1=k:=h1.symm.trans e
   have b:Ui (q::qs) k=some q.2:=by simp[Ui,N5,e']
   rw[ot e,b];exact h2
  .have e':¬q.1=k:=fun z=>e (h1.trans z)
   have b:Ui (q::qs) k=Ui qs k:=by simp[Ui,N5,e']
   rw[ou e,b];exact ih
theorem KT.repl(r:KT H kvs xs)(k:List Key)(ry:RelV y u) :
  KT H (kvs.map fun kv=>if kv.1=k then (kv.1,y) else kv) (xs.map (putAt k u)):=by
 induction r with
 |nil=>exact .nil
 |@cons p q ps qs h t ih=>
  rw[M5,M5];refine .cons ?_ ih;obtain⟨h1,h2,h3⟩:=h;unfold putAt
  by_cases e:p.1=k
  .rw[if_pos e,if_pos (h1.symm.trans e)];exact⟨h1,h2,ry⟩
  .rw[if_neg e,if_neg (fun z=>e (h1.trans z))];exact⟨h1,h2,h3⟩
theorem KT.put(r:KT H kvs xs)(k:List Key)(hb:H b=some (.tup (k.map kV)))(ry:RelV y u) :
  KT H (putK kvs k y) (storedH xs k b u):=by
 have e:(kvs.any fun kv=>decide (kv.1=k))=(Ui xs k).isSome:=by
  rw[oy,(r.val k).isSome_eq,Qj]
 unfold putK storedH;rw[e]
 by_cases q:(Ui xs k).isSome=true
 .rw[if_pos q,if_pos q];exact r.repl k ry
 .rw[if_neg q,if_neg q];exact VH r ⟨rfl,hb,ry⟩
theorem KT.keeps(r:KT H kvs xs)(ht:∀b ys,H b=some (.tup ys)->H' b=some (.tup ys)):KT H' kvs xs:=Paired.mapP r fun _ _ z=>⟨z.1,ht _ _ z.2.1,z.2.2⟩
section
variable {P:MA}{w:ML}{H:Hp}{h:Heap}{a:Addr}
theorem wq(ok:HOk P w H h)(e:Rd H a u):ObjOk P w H h a u:=e.ok ok
theorem ef(ok:HOk P w H h)(e:Rd H a (.dK kvs)):kvs.length<=Mz/\(a == N8)=false/\∃vs,KV kvs vs/\h.DictOf (bQ P w) a vs:=show ObjOk P w H h a (.dK kvs) from wq ok e
theorem Ha(ok:HOk P w H h)(e:H a=some (.dK kvs)):kvs.length<=Mz/\(a == N8)=false/\∃vs,KV kvs vs/\h.DictOf (bQ P w) a vs:=ef ok (.inl e)
theorem kc(ok:HOk P w H h)(e:H a=some (.tup (ks.map kV))):(Sx (bQ P w)).is h ks a:=by
 obtain⟨_,its,r,o,h1,h2,n,h3⟩:=(show ObjOk P w H h a (.tup (ks.map kV)) from ok a _ e);exact⟨o,its.toArray,n,h1,h2,h3,by simpa using sJ r⟩
theorem kI(ok:HOk P w H h)(e:Rd H a (.dT kvs)):kvs.length<=Mz/\(a == N8)=false /\
  ∃xs,KT H kvs xs/\h.DictOfH (Sx (bQ P w)) a xs:=by
 obtain⟨z,y,xs,r,o,es,ep,h1,h2,h3,h4,h5⟩:=(show ObjOk P w H h a (.dT kvs) from wq ok e);refine⟨z,y,xs,r,o,es,ep,h1,h2,h3,h4,fun x hx=>?_,h5⟩
 have all:∀{l:List (List Key×V)}{m:List (List Key×Addr×Mp)},KT H l m->∀x∈m,(Sx (bQ P w)).is h x.1 x.2.1:=by
  intro l m q
  induction q with
  |nil=>intro x hx;exact nomatch hx
  |@cons p q ps qs hq t ih=>
   intro x hx
   rcases MG.mp hx with e|hx
   .subst e
    exact kc ok (by rw[←hq.1];exact hq.2.1)
   .exact ih x hx
 exact all r x hx
theorem G9(ok:HOk P w H h)(e:H a=some (.dT kvs)):kvs.length<=Mz/\(a == N8)=false /\
  ∃xs,KT H kvs xs/\h.DictOfH (Sx (bQ P w)) a xs:=kI ok (.inl e)
end
def DGet(H:Hp)(a:Addr)(y:V)(r:Option V):Prop:=(∃kvs k,Rd H a (.dK kvs)/\y=kV k/\r=bK kvs k)\/∃kvs k b,Rd H a (.dT kvs)/\y=.ref b/\H b=some (.tup (k.map kV))/\r=bK kvs k
def DPut(H:Hp)(a:Addr)(y v:V)(H':Hp):Prop:=
 (∃kvs k,H a=some (.dK kvs)/\y=kV k/\kvs.length<Mz/\H'=upd H a (.dK (putK kvs k v))) \/
 ∃kvs k b,H a=some (.dT kvs)/\y=.ref b/\H b=some (.tup (k.map kV))/\kvs.length<Mz/\H'=upd H a (.dT (putK kvs k v))
theorem DPut.k{H:Hp}{a:Addr}{kvs:List (Key×V)}{k:Key}{v:V}(e:H a=some (.dK kvs))(hl:kvs.length<Mz):DPut H a (kV k) v (upd H a (.dK (putK kvs k v))):=.inl ⟨kvs,k,e,rfl,hl,rfl⟩
section
variable {X:Cx}{pins:List (Addr×Obj)}{σ:St}{H:Hp}{s:Ms}{a:Addr}{y v:V}{u r:Mp}{o:Option V}{A:Nb}{E:Mp->Ms->Prop}
theorem Inv.big(I:Inv X pins σ H s):N8<s.heap.objs.size:=by
 have h:MT<s.heap.objs.size:=(I.mod.glob.keeps I.bk).lt;exact QQ (by decide) h
theorem AS(hu:A.units+1<Vl)(I:Inv X pins σ H s)(g:DGet H a y (some v))(ry:RelV y u)(h:∀w' s',Inv X pins σ H s'->RelV v w'->Q w' s') :
  MU (MW X.prog X.w) A (Ri (.ref a) u) Q E s:=by
 rcases g with⟨kvs,k,e,ey,l⟩|⟨kvs,k,b,e,ey,eb,l⟩
 .subst ey
  obtain⟨z,hd,vs,rel,dd⟩:=ef I.hok e;obtain⟨w',hw,rw'⟩:=RelO.some_of (v:=v) (o:=Rj vs k) (by rw[l];exact rel.val k);exact wpAny_getItem_of (ju ry) dd.mapOf hw (h w' _ (I.tok _) rw')
 .subst ey
  cases (show u=MK b from ry);obtain⟨z,hd,xs,rel,dd⟩:=kI I.hok e;obtain⟨w',hw,rw'⟩:=RelO.some_of (v:=v) (o:=(Ui xs k).map (·.2)) (by rw[l];exact rel.val k);obtain⟨p,hp,hp2⟩:=M9.mp hw;refine wpAny_getItem_heap (P2 hu) (kc I.hok eb) dd hp ?_;rw[hp2];exact h w' _ (I.tok _) rw'
theorem HY(hu:A.units+1<Vl)(I:Inv X pins σ H s)(g:DGet H a y o)(ry:RelV y u)(h:∀s',Inv X pins σ H s'->Q (.bool o.isSome) s') :
  MU (MW X.prog X.w) A (M7 .In u (.ref a)) Q E s:=by
 rcases g with⟨kvs,k,e,ey,l⟩|⟨kvs,k,b,e,ey,eb,l⟩
 .subst ey
  obtain⟨z,hd,vs,rel,dd⟩:=ef I.hok e;refine wpAny_in_of (ju ry) hd dd.mapOf ?_;rw[←(rel.val k).isSome_eq,←l];exact h _ (I.tok _)
 .subst ey
  cases (show u=MK b from ry);obtain⟨z,hd,xs,rel,dd⟩:=kI I.hok e;refine wpAny_in_heap (P2 hu) (kc I.hok eb) hd dd ?_;have q:=(rel.val k).isSome_eq;rw[Qj] at q;rw[←q,←l];exact h _ (I.tok _)
theorem DX(hu:A.units+1<Vl)(I:Inv X pins σ H s)(g:DGet H a y o)(ry:RelV y u)(h:∀s',Inv X pins σ H s'->Q (.bool (!o.isSome)) s') :
  MU (MW X.prog X.w) A (M7 .NotIn u (.ref a)) Q E s:=by
 rcases g with⟨kvs,k,e,ey,l⟩|⟨kvs,k,b,e,ey,eb,l⟩
 .subst ey
  obtain⟨z,hd,vs,rel,dd⟩:=ef I.hok e;refine wpAny_notIn_of (ju ry) hd dd.mapOf ?_;rw[←(rel.val k).isSome_eq,←l];exact h _ (I.tok _)
 .subst ey
  cases (show u=MK b from ry);obtain⟨z,hd,xs,rel,dd⟩:=kI I.hok e;refine wpAny_notIn_heap (P2 hu) (kc I.hok eb) hd dd ?_;have q:=(rel.val k).isSome_eq;rw[Qj] at q;rw[←q,←l];exact h _ (I.tok _)
theorem vb(I:Inv X pins σ H s)(mu:Mut (H a))(hs:Qc a s.heap h')(he:∃q,h'.get? a=some q)(new:ObjOk X.prog X.w (upd H a ob) h' a ob) :
  Inv X pins σ (upd H a ob) { s with heap:=h',toks:=t' }:=I.write (x:=a) (e:=a) mu (.inl rfl) (fun b q hb z=>(hs.2 b hb).trans z) he new
theorem p8(z:kvs.length<=Mz)(hd:(a == N8)=false)(rel:KV kvs vs)(dd:h'.DictOf (bQ P w) a vs) :
  ObjOk P w H' h' a (.dK kvs):=⟨z,hd,vs,rel,dd⟩
theorem AR(hu:A.units+1<Vl)(I:Inv X pins σ H s)(g:DPut H a y v H')(ry:RelV y u)(rv:RelV v r)(h:∀s',Inv X pins σ H' s'->Q () s') :
  MU (MW X.prog X.w) A (Vt (.ref a) u r) Q E s:=by
 rcases g with⟨kvs,k,e,ey,l,eH⟩|⟨kvs,k,b,e,ey,eb,l,eH⟩
 .subst ey eH
  obtain⟨z,hd,vs,rel,dd⟩:=Ha I.hok e
  have hz:vs.length<=sizeLine:=by rw[←rel.length];exact z
  have hl:(putK kvs k v).length<=sizeLine:=by have:=nH kvs k v;omega
  refine wpAny_setItem_pairs (hsz:=hz) (ju ry) dd fun h' dd' hs=>h _ ?_
  have he:∃q,h'.get? a=some q:=let ⟨q,_,_,hq,_⟩:=dd';⟨q,hq⟩
  exact vb I (by rw[e];exact Ow) hs he (p8 hl hd (rel.put k rv) dd')
 .subst ey eH
  cases (show u=MK b from ry);obtain⟨z,hd,xs,rel,dd⟩:=G9 I.hok e
  have hz:xs.length<=sizeLine:=by rw[←Om rel];exact z
  have hl:(putK kvs k v).length<=sizeLine:=by have:=nH kvs k v;omega
  refine wpAny_setItem_heap (hsz:=hz) (P2 hu) (kc I.hok eb) dd fun h' dd' hs=>h _ ?_;obtain⟨q,es,ep,hq,h2,h3,h4,_,h5⟩:=dd';refine vb I (by rw[e];exact Ow) hs ⟨q,hq⟩ ⟨hl,hd,_,(rel.put k eb rv).keeps fun c ys ec=>?_,q,es,ep,hq,h2,h3,h4,h5⟩;rw[aP (GN ec e (fun z=>nomatch z))];exact ec
end
section
variable {X:Cx}{pins:List (Addr×Obj)}{σ:St}{H:Hp}{s:Ms}{a:Addr}{kvs:List (Key×V)}{k:Key}{u:Mp}{A:Nb}{E:Mp->Ms->Prop}
theorem He(I:Inv X pins σ H s)(e:Rd H a (.dK kvs))(h:∀t s',Inv X pins σ H s'->Q (.int kvs.length t) s'):MU (MW X.prog X.w) A (call (.builtin "len") [.ref a]) Q E s:=by
 obtain⟨z,hd,vs,rel,dd⟩:=ef I.hok e;refine call_len_dict hd dd (by rw[←rel.length];rw[Se] at z;omega) ?_;rw[←rel.length];exact h _ _ (I.tok _)
end
theorem rj(I:Inv X pins σ H s)(g:DGet H a y o):s.TypeIs (.ref a) "dict":=by
 rcases g with⟨kvs,k,e,_,_⟩|⟨kvs,k,b,e,_,_,_⟩
 .obtain⟨_,_,vs,_,dd⟩:=ef I.hok e
  exact dd.typeIs
 .obtain⟨_,_,xs,_,dd⟩:=kI I.hok e
  exact dd.typeIs
def Gn(td ty tv:TE):TS:=fun D σ H=>tv σ H fun v H1=>td σ H1 fun x H2=>ty σ H2 fun y H3=>∃a H4,x=.ref a/\DPut H3 a y v H4/\D.nx σ H4
section
variable {X:Cx}{o i e value:Expr}{pos pos' tpos:Pos}{td ty tv:TE}
theorem C0(hu:X.A.units+1<Vl)(ho:PE X o td)(hi:PE X i ty)(hv:PE X value tv)(hs:NX value (some (.Subscript o i pos')) pos.line X.env=pure false) :
  PS X (.Assign [.Subscript o i pos'] value pos) (Gn td ty tv):=by
 intro pins s σ H D I h;refine wpAny_Assign_Subscript (thn (hv pins s σ H _ I h) fun r s1 ⟨v,H1,I1,rv,q1⟩=>thn (ho pins s1 σ H1 _ I1 q1) fun u s2 ⟨x,H2,I2,rx,q2⟩=>thn (hi pins s2 σ H2 _ I2 q2) fun iv s3 ⟨y,H3,I3,ry,a,H4,ex,g,q3⟩=>?_) hs;subst ex;obtain rfl:u=MK a:=rx;exact AR hu I3 g ry rv fun s4 I4=>⟨σ,H4,I4,q3⟩
end
theorem B6(h:Heap)(hb:N8<h.objs.size):ObjOk P w H (h.push { cls:=.type "dict",data:=.dict #[] }) h.objs.size (.dK []):=⟨Oj _,beq_eq_false_iff_ne.mpr (Ot (MO hb)),[],.nil,Uo h⟩
def En:TE:=fun _ H Q=>∀p,H p=none->Q (.ref p) (upd H p (.dK []))
section
variable {X:Cx}{pos:Pos}
theorem Bw:PE X (.Dict [] [] pos) En:=fun pins s σ H Q I h=>
 wpAny_Dict_empty ⟨.ref s.heap.objs.size,_,I.laid (a:=s.heap.objs.size) (o:=.dK []) (t':=s.toks) (fun _ _ q=>Mt _ q) (MC _) (B6 s.heap I.big),rfl,h _ (I.hok.fresh (MC _))⟩
end
def pN:List (TE×TE)->St->Hp->(List (V×V)->Hp->Prop)->Prop
 |[],_,H,Q=>Q [] H
 |(tk,tv)::r,σ,H,Q=>tk σ H fun x H1=>tv σ H1 fun y H2=>pN r σ H2 fun ps H3=>Q ((x,y)::ps) H3
abbrev VV:List (V×V)->List (Mp×Mp)->Prop:=QX fun p q=>RelV p.1 q.1/\RelV p.2 q.2
def PPs(X:Cx)(pos:Pos)(keys:List (Option Expr))(values:List Expr)(trs:List (TE×TE)):Prop:=
 ∀(pins:List (Addr×Obj)) (s:Ms) (σ:St) (H:Hp) (Q:List (V×V)->Hp->Prop),Inv X pins σ H s->pN trs σ H Q ->
  MU (MW X.prog X.w) X.A (evalPairs (pairTrees keys values X.env pos)) (fun vs s'=>∃ps H',Inv X pins σ H' s'/\VV ps vs/\Q ps H') X.xe s
def ft(kvs more:List (Key×V)):List (Key×V):=more.foldl (fun acc kv=>putK acc kv.1 kv.2) kvs
theorem KV.merge:∀{more:List (Key×V)}{rs:List (Key×Mp)}{kvs:List (Key×V)}{vs:List (Key×Mp)},KV more rs->KV kvs vs->KV (ft kvs more) (Vx vs rs):=by
 intro more rs kvs vs r;unfold KV at r
 induction r generalizing kvs vs with
 |nil=>intro q;exact q
 |@cons p q ps qs h t ih=>
  intro r0
  have e:KV (putK kvs p.1 p.2) (stored vs q.1 q.2):=by
   have:=r0.put p.1 h.2;rw[←h.1];exact this
  exact ih e
theorem qV:∀(more kvs:List (Key×V)),(ft kvs more).length<=kvs.length+more.length
 |[],kvs=>by show kvs.length<=kvs.length+0;omega
 |p::r,kvs=>by
  have h1:=qV r (putK kvs p.1 p.2);have h2:=nH kvs p.1 p.2;show (ft (putK kvs p.1 p.2) r).length<=_;rw[MY];omega
structure M1(X:Cx)(o:Expr)(m:Str)(apos:Pos)(e:Expr)(cpos:Pos):Prop where
 base:NA o m X.env (eval o X.env)=eval o X.env
 few:((Nv cpos (Mw [e] X.env)).all (fun x=>!x.1)&&(O5 cpos (Oa [] X.env)).all (fun x=>x.1.isSome)
  && decide (([e]:List Expr).length+([]:List N1).length+(if ([]:List N1).isEmpty then 0 else 1)<30))=true
 line:(apos.endLine == cpos.line)=true
 trees:Nv cpos (Mw [e] X.env)=[(false,eval e X.env)]
structure M2(X:Cx)(o:Expr)(m:Str)(apos:Pos)(e f:Expr)(cpos:Pos):Prop where
 base:NA o m X.env (eval o X.env)=eval o X.env
 few:((Nv cpos (Mw [e,f] X.env)).all (fun x=>!x.1)&&(O5 cpos (Oa [] X.env)).all (fun x=>x.1.isSome)
  && decide (([e,f]:List Expr).length+([]:List N1).length+(if ([]:List N1).isEmpty then 0 else 1)<30))=true
 line:(apos.endLine == cpos.line)=true
 trees:Nv cpos (Mw [e,f] X.env)=[(false,eval e X.env),(false,eval f X.env)]
section
variable {X:Cx}{pins:List (Addr×Obj)}{σ:St}{H:Hp}{s:Ms}{a:Addr}{y d:V}{u r:Mp}{o:Option V}{A:Nb}{E:Mp->Ms->Prop}
end
section
variable {X:Cx}{o e f:Expr}{apos cpos:Pos}{td ty tx:TE}
end
section
variable {X:Cx}{pins:List (Addr×Obj)}{σ:St}{H:Hp}{s:Ms}{a:Addr}{kvs:List (Key×V)}{A:Nb}{E:Mp->Ms->Prop}
theorem Ce(I:Inv X pins σ H s)(e:Rd H a (.dK kvs))(h:∀p s',H p=none->Inv X pins σ (upd H p (.dK kvs)) s'->Q (.ref p) s'):MU (MW X.prog X.w) A (call (.type "dict") [.ref a]) Q E s:=by
 obtain⟨z,hd,vs,rel,dd⟩:=ef I.hok e;refine kt_call_dict hd dd (by rw[←rel.length];exact z) fun h' dd' hs=>?_;refine h _ _ (I.hok.fresh (MC _)) (I.laid (a:=s.heap.objs.size) (o:=.dK kvs) (t':=s.toks) (fun b q hq=>?_) (MC _) (p8 z (beq_eq_false_iff_ne.mpr (Ot (MO I.big))) rel dd'));exact(hs.2 b (MO (MB hq))).trans (Mt _ hq)
end
section
variable {X:Cx}{pins:List (Addr×Obj)}{σ:St}{H:Hp}{s:Ms}{a:Addr}{y:V}{u:Mp}{A:Nb}{E:Mp->Ms->Prop}
end
end L2
namespace Att
open PySem PySem.W PySem.Calls PyProof.Rows
theorem ym:∀(ns:List Int) (vs:List Mp),WellAll P h vs (ns.map WData.int)->Ut vs ns:=by
 intro ns
 induction ns with
 |nil=>
  intro vs w;rw[RQ] at w;cases w;exact .nil
 |cons n ns ih=>
  intro vs w;rw[M5] at w
  cases w with
  |cons a b=>
   cases a;exact .cons _ _ (ih _ b)
theorem Ae{l:OpenLaw}(hn:l.most=some n){h:Heap}
  (hpre:l.row.toRowW.claim.pre args=true) (hwl:WellAll P h vals args) :
  ∃a vs ns,vals=[MK a]/\args=[WData.list (ns.map WData.int)]/\h.get? a=some { cls:=.type "list",data:=.seq vs.toArray }/\Ut vs ns/\ns.length<=n:=by
 have hsh:WShape.hasAll [] args [.list .int]=true:=(pre_splitW hpre).1;have hc:l.pre.holds [] { args:=args } = true:=(pre_splitW hpre).2;obtain⟨d,r,rfl,h1,h2⟩:=hasAllW_cons hsh;obtain rfl:=hasAllW_nil h2;obtain⟨xs,rfl,h3⟩:=hasW_list h1;obtain⟨ns,rfl⟩:=items_int h3
 have hlen:ns.length<=n:=by
  unfold OpenLaw.pre at hc
  have h4:(WTm.not (.lt (.lit (.int (n:Int))) (.len (.arg 0)))).holds [] { args:=[.list (ns.map .int)] } = true:=by
   have h4:=(holds_andW hc).1;rw[hn] at h4;exact h4
  have h5:=condW_of h4 (w_not (w_lt w_lit (w_len_list (w_arg rfl))));rw[Nd] at h5;refine Nat.le_of_not_lt fun q=>?_
  have q':(n:Int)<((ns.length:Nat):Int):=by omega
  first
   |(rw[decide_eq_true q'] at h5;exact absurd h5 (by decide))
   |(simp at h5;omega)
 cases hwl with
 |cons w1 w2=>
  cases w2
  cases w1 with
  |list ho hall=>exact⟨_,_,ns,rfl,rfl,ho,ym ns _ hall,hlen⟩
theorem Ah(l:OpenLaw)(args:List WData):l.row.toRowW.claim.post args (.bool true) args=true:=
 postW_of (r:=l.row.toRowW) (X:=(true == true))
  (show WShape.has [] (.bool true) .bool=true by first|rfl|decide|simp[WShape.has,WShape.arms,WShape.armsAll])
  (show (WTm.eq .res (.lit (.bool true))).value [] { args:=args,res:=some (.bool true),after:=args } = some (.bool (true == true)) from w_eq_bool (w_res rfl) w_lit) rfl
theorem zB{l:OpenLaw}{XP:(Str->Option Mp)->Heap->Prop}{YP:ML->Heap->Prop}{d:DefRec}
  (hn:l.most=some n) (hdf:d.params.defaults=[])
  (call:∀(w:ML) (s₀ s₁:Ms) (mg mb:Str->Option Mp) (fa:Addr) (o:Obj) (pm cd doc:Mp) (a:Addr) (vs:List Mp) (ns:List Int),
   Ground q loose [] XP w s₀ mg mb s₁.heap->YP w s₁.heap ->
   s₁.heap.get? fa=some o->o.data=.func (docDef d.name d.params d.body d.scope pm cd doc)->s₁.heap.CodeRec cd d.name->mg d.name=some (.ref fa) ->
   s₁.heap.get? a=some { cls:=.type "list",data:=.seq vs.toArray }->Ut vs ns->ns.length<=n->s₁.gens = #[] ->
   RI (MW l.prog w) RR (.call (.ref fa) ⟨[.ref a],[]⟩) (fun r s'=>r=.ok (.ret (.bool true))/\OldK s₁.heap s'.heap/\s'.os=s₁.os/\QM s'.gens) s₁) :
  WalkO q loose XP YP l.row.toRowW d [] (fun f vs=>RT f vs):=by
 intro w s₀ s₁ mg mb G Y fa o pm cd doc dV kV ho hd hcd hD hmg hg args vals as hpre hlay hrd hwl hlo;obtain rfl:dV=.none:=Dflts.none hD hdf;obtain rfl:kV=.none:=Dflts.noKw hD;obtain⟨a,vs,ns,rfl,rfl,hobj,hints,hlen⟩:=Ae hn hpre hwl;refine enter_call (QO (call w s₀ s₁ mg mb fa o pm cd doc a vs ns G Y ho (fd_plain hd) hcd hmg hobj hints hlen hg) fun r s' hq=>?_);obtain⟨rfl,h2,h3,h4⟩:=hq;exact⟨.inl ⟨.bool true,.bool true,[],rfl,fun _=>rfl,.bool true,Ah l _,fun _=>⟨VR,fun _ hm=>(nomatch hm)⟩⟩,h2,h3,h4⟩
section
variable {prog:MA}{w:ML}{A:Nb}{E:Mp->Ms->Prop}{s:Ms}{K:Frag}
end
end Att
namespace L2
theorem rW:∀{vs:List Mp}{ns:List Int},Ut vs ns->Vals (ns.map V.int) vs
 |_,_,.nil=>.nil
 |_,_,.cons n t h=>.cons ⟨t,rfl⟩ (rW h)
def qR(H:Hp):Prop:=∀b,H b=none\/∃o xs,H b=some (.frz o (.lst xs))
theorem BN{K:Frag}{mg mb:Str->Option Mp}{s₁:Ms}{vs:List Mp}{ns:List Int}
  (KX:K.In s₁.heap) (hns:s₁.heap.Ns MT mg) (hb:s₁.heap.Ns Uv mb) (hbb:∀x:Str,x≠"__name__"->mb x=OA x) (hlim:s₁.heap.NoLimit) (hg:s₁.gens = #[])
  (ha:s₁.heap.get? a=some { cls:=.type "list",data:=.seq vs.toArray }) (hi:Ut vs ns) (hl:ns.length<=Mz) (hr:Room k RR)
  (F:∀base:Heap,K.In base->base.Ns MT mg->FnOk P w K mg base CX k fa fd [x] sp) (hbind:∀(s:Ms) (u:Mp),Sy s fd ⟨[u],[]⟩ [(x,u)])
  (hsp:∀H:Hp,qR H->SqL K H a (ns.map V.int)->sp [.ref a] H (fun v _=>v=.bl true) fun _ _ _=>False)
  (hCX:∀H e s',CX [] H s₁ (fun _ _ _=>False) e s'->False) :
  RI (MW P w) RR (.call (.ref fa) ⟨[.ref a],[]⟩) (fun r s'=>r=.ok (.ret (.bool true))/\OldK s₁.heap s'.heap/\s'.os=s₁.os/\QM s'.gens) s₁:=by
 have rv:=rW hi;have lenV:=hi.length
 have core:∀H:Hp,qR H->SqL K H a (ns.map V.int)->HOk P w H s₁.heap->(∀b,H b≠none->b=a)->(H a≠none->K.lookup a=none) ->
   RI (MW P w) RR (.call (.ref fa) ⟨[.ref a],[]⟩) (fun r s'=>r=.ok (.ret (.bool true))/\OldK s₁.heap s'.heap/\s'.os=s₁.os/\QM s'.gens) s₁:=by
  intro H hO hS hok hA hK;have base_of:∀{b:Addr}{o:Obj},s₁.heap.get? b=some o->H b=none->(gB s₁.heap H).get? b=some o:=fun e n=>BV e n
  have noA:∀{b:Addr}{o:Obj}{es:Array Vn}{ep:Nat},s₁.heap.get? b=some o->o.data=.dict es ep->H b=none:=fun {b o es ep} e d=>by
   cases q:H b with
   |none=>rfl
   |some u=>
    have e':b=a:=hA b (by rw[q];simp);subst e';rw[ha] at e;cases e;have d':Data.seq vs.toArray _=Data.dict es ep:=d;cases d'
  have nsK:∀{b:Addr}{m:Str->Option Mp},s₁.heap.Ns b m->(gB s₁.heap H).Ns b m:=fun {b m} ⟨o,es,ep,e,d,r⟩=>⟨o,es,ep,base_of e (noA e d),d,r⟩
  have hKb:K.In (gB s₁.heap H):=fun b o e=>base_of (KX b o e) (by
   cases q:H b with
   |none=>rfl
   |some u=>
    have e':b=a:=hA b (by rw[q];simp);subst e'
    rw[hK (by rw[q];simp)] at e;cases e)
  have hM:Mod K mg (gB s₁.heap H):=⟨hKb,nsK hns,⟨mb,nsK hb,hbb⟩,let ⟨mc,h1,h2⟩:=hlim;⟨mc,nsK h1,h2⟩⟩;have e0:Env0 P w K mg (gB s₁.heap H) RR [] s₁ H:=⟨rfl,hM,fun b o e=>Dj e,To (AH _ _),trivial,fun b hb=>absurd (show b∈([]:List Addr) from hb) (by simp),hok,.of_eq hg⟩;refine QO ((F _ hKb (nsK hns)).run RR [] s₁ H ⟨[.ref a],[]⟩ [.ref a] [.ref a] _ _ hr e0 (hbind s₁ (.ref a)) (.cons rfl .nil) (hsp H hO hS)) fun r s' h=>?_
  cases r with
  |error e=>exact(hCX H e s' h).elim
  |ok fl=>
   cases fl with
   |next=>exact NF h
   |brk=>exact NF h
   |cont=>exact NF h
   |ret u=>
    obtain⟨v,H',os,bare,un,hok',r',q⟩:=h;have q':v=.bl true:=q;subst q';obtain rfl:u=QW true:=r';refine⟨rfl,OldK.of_keep fun b o e=>?_,os,bare⟩
    cases q:H b with
    |none=>exact un.keep b o e q (by intro z;exact absurd (show b∈([]:List Addr) from z) (by simp)) (by simp)
    |some u=>
     rcases hO b with z|⟨ob,xs,z⟩
     .rw[q] at z;cases z
     .have z2:=un.frzs b ob _ z
      obtain⟨e1,_⟩:=hok b _ z;obtain⟨e2,_⟩:=hok' b _ z2;rw[e] at e1;cases e1;exact e2
 cases hk:K.lookup a with
 |some o=>
  have e:=KX a o hk;rw[ha] at e;cases e;refine core (fun _=>none) (fun _=>.inl rfl) (.inr ⟨_,vs.toArray,_,hk,rfl,rfl,rfl,by rw[MH,lenV];exact hl,by simpa using rv⟩) (fun b u z=>by have z':(none:Option HO)=some u:=z;cases z') (fun b z=>absurd rfl z) fun z=>absurd rfl z
 |none=>
  refine core (fun b=>if b=a then some (.frz { cls:=.type "list",data:=.seq vs.toArray } (.lst (ns.map V.int))) else none) (fun b=>?_) (.inl (.inr ⟨{ cls:=.type "list",data:=.seq vs.toArray },if_pos rfl⟩)) (fun b u z=>?_) (fun b z=>?_) fun _=>hk
  .by_cases hb:b=a
   .exact .inr ⟨_,_,if_pos hb⟩
   .exact .inl (if_neg hb)
  .by_cases hb:b=a
   .have z':=(if_pos hb).symm.trans z
    cases z';subst hb;exact⟨ha,by rw[Nd];exact hl,vs,_,rv,ha⟩
   .have z':=(if_neg hb).symm.trans z
    cases z'
  .by_cases hb:b=a
   .exact hb
   .exact absurd (if_neg hb) z
theorem Cy{l:RY}{XP:(Str->Option Mp)->Heap->Prop}{YP:ML->Heap->Prop}{d:DefRec}{K:Vy->Frag}{CX:ML->CXT}{sp:ML->Sp}
  (hn:l.most=some n) (hn2:n<=Mz) (hdf:d.params.defaults=[]) (hr:Room k RR)
  (hY:∀(w:ML) (h:Heap),YP w h->(K w.params).In h)
  (F:∀(w:ML) (mg:Str->Option Mp) (fa:Addr) (h:Heap),(K w.params).In h->h.Ns MT mg->mg d.name=some (.ref fa) ->
   ∃fd:MS,(∀(s:Ms) (u:Mp),Sy s fd ⟨[u],[]⟩ [(x,u)]) /\
    ∀base:Heap,(K w.params).In base->base.Ns MT mg->FnOk l.prog w (K w.params) mg base (CX w) k fa fd [x] (sp w))
  (hsp:∀(w:ML) (H:Hp) (a:Addr) (ns:List Int),ns.length<=n->qR H->SqL (K w.params) H a (ns.map V.int)->sp w [.ref a] H (fun v _=>v=.bl true) fun _ _ _=>False)
  (hCX:∀(w:ML) (H:Hp) (s:Ms) (e:Mp) (s':Ms),CX w [] H s (fun _ _ _=>False) e s'->False) :
  SU q loose XP YP l.row.toRowW d [] (fun f vs=>RT f vs):=by
 refine Att.zB hn hdf fun w s₀ s₁ mg mb fa o pm cd doc a vs ns G Y ho hd hcd hmg hobj hints hlen hg=>?_;have KX:=hY w _ Y;obtain⟨fd,hb,hF⟩:=F w mg fa _ KX G.T.g hmg;exact BN KX G.T.g G.T.b G.T.builtins G.T.nolimit hg hobj hints (MP hlen hn2) hr hF hb (fun H hO hS=>hsp w H a ns hlen hO hS) fun H e s'=>hCX w H s₁ e s'
def fm(s:Stmt):Arguments:=match s with
 |.FunctionDef _ a _ _ _ _ _ _ _ _=>a
 |_=>{ posonlyargs:=[],args:=[],vararg:=none,kwonlyargs:=[],kw_defaults:=[],kwarg:=none,defaults:=[] }
def dM(s:Stmt):List Stmt:=match s with
 |.FunctionDef _ _ b _ _ _ _ _ _ _=>b
 |_=>[]
def aN(s:Stmt):Scope:=match s with
 |.FunctionDef _ _ _ _ _ _ sc _ _ _=>sc
 |_=>{ kind:=.function,names:=[],isGenerator:=false,isCoroutine:=false }
abbrev CX0:CXT:=fun _ _ _ _ _ _=>False
abbrev E0:XK:=fun _ _ _=>False
theorem GE:qf CX0 X E0:=fun _ _ _ _ _ _ _ h=>h.elim
structure Fun(K:Frag)(x qual:Str)(st:Stmt)(f:Addr)(fd:MS):Prop where
 ex:∃(oc:Mp) (od:Option Addr) (kV doc pm:Mp) (an:Option Addr) (cdv ct:Mp) (osl:Array (Option Mp)),
  fd=Od x qual (fm st) (dM st) (aN st) .none kV doc pm an cdv ct/\K.lookup f=some ⟨oc,od,.func fd,osl⟩/\O4 K cdv qual=true
 kp:Ny K (.ref f)=true
section
variable {P:MA}{w:ML}{K:Frag}{mg:Str->Option Mp}{base:Heap}
theorem Fun.ok{x qual:Str}{st:Stmt}{f:Addr}{fd:MS}{N ps:List Str}{k:Nat}{sp:Sp}(F:Fun K x qual st f fd)(S:FnScope N ps (aN st))(len:∀vs H Q E,sp vs H Q E->vs.length=ps.length)
  (hbody:∀(cdv:Mp) (A:Nb) (outer:List Env) (s:Ms) (H:Hp) (vs:List V) (Q:VK) (E:XK),Room k (A.deeper (P1 qual (aN st) s.heap.objs.size f cdv))->sp vs H Q E ->
   ∃t,PSs (eQ CX0 P w K mg base N qual (aN st) f cdv A outer s H E).nox (dM st) t/\t { nx:=fun _ H'=>Q .non H',rt:=Q } (start N vs) H):FnOk P w K mg base CX0 (k+1) f fd ps sp:=by
 obtain⟨oc,od,kV,doc,pm,an,cdv,ct,osl,rfl,lk,hcd⟩:=F.ex;refine wR lk hcd S len fun A outer s H vs Q E hr hsp=>?_;obtain⟨t,h,q⟩:=hbody cdv A outer s H vs Q E hr hsp;exact⟨t,h.nox,q⟩
theorem Fun.binds{x qual:Str}{st:Stmt}{f:Addr}{fd:MS}{ps:List Str}(F:Fun K x qual st f fd)
  (h:∀(kV doc pm:Mp) (an:Option Addr) (cdv ct:Mp) (us:List Mp),us.length=ps.length->bindArgs (Od x qual (fm st) (dM st) (aN st) .none kV doc pm an cdv ct) ⟨us,[]⟩=pure (ps.zip us)):Binds K fd ps []:=by
 obtain⟨oc,od,kV,doc,pm,an,cdv,ct,osl,rfl,lk,hcd⟩:=F.ex;exact .all (h kV doc pm an cdv ct)
theorem mB{x qual:Str}{st:Stmt}{f:Addr}{oc:Mp}{od an:Option Addr}{osl:Array (Option Mp)}{kV doc pm cdv ct:Mp}(l:K.lookup f=some ⟨oc,od,.func (Od x qual (fm st) (dM st) (aN st) .none kV doc pm an cdv ct),osl⟩)
  (c:O4 K cdv qual=true) (k:Ny K (.ref f)=true):Fun K x qual st f (Od x qual (fm st) (dM st) (aN st) .none kV doc pm an cdv ct):=⟨⟨oc,od,kV,doc,pm,an,cdv,ct,osl,rfl,l,c⟩,k⟩
end
section
variable {X:Cx}
theorem pv(i:Nat)(hN:X.N[i]? = some x:=by rfl)(hv:Vis X.env.scope x:=by first|exact Oe rfl|exact NP (Oe rfl)|exact NP (NP rfl))(hd:(x == ("__debug__" : Str))=false:=by decide)
  (hcd:(x == ("__classdict__" : Str))=false:=by decide):PE X (.Name x pos) (en i):=EO hN hv hd hcd
end
theorem dW{A B:Prop}(h:B):if false=true then A else B:=by
 rw[if_neg MF];exact h
theorem dG{A B:Prop}(h:A):if true=true then A else B:=by
 rw[if_pos rfl];exact h
end L2
set_option maxHeartbeats 4000000
namespace K1
open PySem
def has(signs x:Str):Bool:=x.cps.toList.all fun c=>decide (c∈signs.cps.toList)
def LET:Str:="abcdefghijklmnopqrstuvwxyz"
def TXT:Str:="abcdefghijklmnopqrstuvwxyz0123456789-"
def single:Mo->Bool
 |.int i=>decide ((if i<0 then -i else i)<=10^18)
 |.str x=>decide (x.length<=20)&&has TXT x
 |_=>false
def aG:Nat->Mo->Bool
 |0,.tuple _=>false
 |n+1,.tuple ds=>decide (ds.length<=8)&&ds.all (aG n)
 |_,d=>single d
def aD:Nat->Mo->Int
 |n+1,.tuple ds=>1+(ds.map (aD n)).sum
 |_,_=>1
def lsz:Nat->Mo->Int
 |n+1,.tuple ds=>if ds.length>8 then 100 else 1+(ds.map (lsz n)).sum
 |_,d=>if single d=true then 1 else 100
def isName:Mo->Bool
 |.str x=>decide (1<=x.length)&&decide (x.length<=8)&&has LET x
 |_=>false
def aJ(d:Mo):Bool:=aG 4 d&&decide (aD 4 d<=40)
theorem vq{α:Type}(f:α->Int)(h:∀a,1<=f a):∀l:List α,(l.length:Int)<=(l.map f).sum
 |[]=>by simp
 |a::r=>by
  have:=vq f h r;have:=h a;simp only[M5,OE,MY];omega
def tdp:Nat->Mo->Bool
 |0,.tuple _=>false
 |n+1,.tuple ds=>ds.all (tdp n)
 |_,_=>true
theorem om:∀(n:Nat) (d:Mo),aG n d=true->tdp n d=true
 |0,d,h=>by cases d <;> first|rfl|cases h
 |n+1,d,h=>by
  cases d with
  |tuple ds=>
   have e:aG (n+1) (.tuple ds)=(decide (ds.length<=8)&&ds.all (aG n)):=rfl;rw[e,Mx] at h;show ds.all (tdp n)=true;exact MM.mpr fun x hx=>om n x (MM.mp h.2 x hx)
  |_=>rfl
def jS(best:Int):List Int->Int
 |[]=>best
 |n::r=>jS (if n>best then n else best) r
def iU(d:Int):List Int->Int
 |[]=>d
 |n::r=>jS n r
def bt:Nat->Mo->Int
 |n+1,.tuple ds=>1+iU 0 (ds.map (bt n))
 |_,_=>0
def wF(acc:Int):List Int->Int
 |[]=>acc
 |n::r=>wF (if 1+n>acc then 1+n else acc) r
def ldp:Nat->Mo->Int
 |n+1,.tuple ds=>wF 1 (ds.map (ldp n))
 |_,_=>0
end K1
namespace L2
open PySem
def cy(env:Env):List (Str×OZ)->List (Str×Addr)->List (Str×Addr)
 |[],acc=>acc
 |(n,k)::r,acc=>cy env r (if (k == .free)=true then (n,(env.cells.lookup n).getD 0)::acc else acc)
theorem oj:∀(l:List (Str×OZ)) (acc:List (Str×Addr)),(∀x∈l,x.2=.free->∃c,env.cells.lookup x.1=some c) ->
  (forIn l acc (fun x r=>match x with
   | (name,kind)=>if (kind == NU)=true then (do
     let c ←cellOf env name
     pure (QI ((name,c)::r))) else pure (QI r)):Sem (List (Str×Addr)))=pure (cy env l acc)
 |[],acc,_=>rfl
 |(n,k)::r,acc,h=>by
  rw[List.forIn_cons];have hr:∀x∈r,x.2=.free->∃c,env.cells.lookup x.1=some c:=fun x hx=>h x (Mr _ hx)
  cases hk:(k == NU) with
  |false=>
   have ih:=oj r acc hr
   have e:cy env ((n,k)::r) acc=cy env r acc:=by simp[cy,hk]
   rw[e];dsimp only;rw[if_neg (by rw[hk];exact MF)];exact ih
  |true=>
   obtain⟨c,hc⟩:=h (n,k) Mq (by simpa using hk);have ih:=oj r ((n,c)::acc) hr;have hc':env.cells.lookup n=some c:=hc
   have e:cy env ((n,k)::r) acc=cy env r ((n,c)::acc):=by simp[cy,hk,hc']
   have e2:cellOf env n=pure c:=by unfold cellOf;rw[hc']
   rw[e];dsimp only;rw[if_pos hk,e2];exact ih
theorem rO(h:∀x∈scope.names,x.2=.free->∃c,env.cells.lookup x.1=some c):closureFor scope env=pure (cy env scope.names []):=by
 have q:=oj (env:=env) scope.names [] h;unfold closureFor;exact congrArg (fun t=>t >>= fun z=>pure z) q
theorem rq:∀(l:List (Str×OZ)) (acc:List (Str×Addr)) (x:Str) (c:Addr),(∀y d,acc.lookup y=some d->env.cells.lookup y=some d) ->
  (∀y∈l,y.2=.free->∃c,env.cells.lookup y.1=some c)->(cy env l acc).lookup x=some c->env.cells.lookup x=some c
 |[],acc,x,c,ha,_,e=>ha x c e
 |(n,k)::r,acc,x,c,ha,h,e=>by
  have hr:∀x∈r,x.2=.free->∃c,env.cells.lookup x.1=some c:=fun x hx=>h x (Mr _ hx);refine rq r _ x c ?_ hr e;intro y d q
  cases hk:(k == NU) with
  |false=>rw[hk,if_neg MF] at q;exact ha y d q
  |true=>
   rw[hk,if_pos rfl] at q;obtain⟨c',hc⟩:=h (n,k) Mq (by simpa using hk);have hc':env.cells.lookup n=some c':=hc;rw[OF] at q
   by_cases z:y=n
   .subst z
    simp[hc'] at q;rw[hc',q]
   .have z':(y == n)=false:=beq_eq_false_iff_ne.mpr z
    rw[z'] at q;exact ha y d q
theorem rQ:∀(l:List (Str×OZ)) (acc:List (Str×Addr)) (x:Str),(acc.lookup x).isSome=true->((cy env l acc).lookup x).isSome=true
 |[],_,_,h=>h
 |(n,k)::r,acc,x,h=>by
  refine rQ r _ x ?_
  cases hk:(k == NU) with
  |false=>rw[if_neg MF];exact h
  |true=>
   rw[if_pos rfl,OF]
   cases z:(x == n) with
   |true=>rfl
   |false=>exact h
theorem rP:∀(l:List (Str×OZ)) (acc:List (Str×Addr)) (x:Str),(x,NU)∈l->((cy env l acc).lookup x).isSome=true
 |[],_,_,h=>absurd h (by simp)
 |(n,k)::r,acc,x,h=>by
  rcases MG.mp h with e|e
  .cases e
   refine rQ r _ _ ?_;rw[if_pos (by decide),OF];simp
  .exact rP r _ x e
structure CS(osc:O9)(N:List Str)(x:Str)(scope:O9)(N':List Str):Prop where
 kind:scope.kind=.function
 nocell:∀y∈scope.names,y.2≠.cell
 names:∀y∈scope.names,y.2=.local->scope.names.lookup y.1=some .local
 hx:scope.names.lookup x=some .local
 only:∀y∈scope.names,y.2=.local->y.1=x\/y.1=".0"
 free:∀y∈scope.names,y.2=.free->osc.names.lookup y.1=some .cell\/osc.names.lookup y.1=some .free
 nd:(x::N').Nodup
 n0:(".0" : Str)∉N'
 len:N'.length=N.length
 rel:∀p∈N'.zip N,p.1=p.2\/∀q∈scope.names,q.1≠p.1
theorem CS.at{osc:O9}{N N':List Str}{x:Str}{scope:O9}(S:CS osc N x scope N'){j:Nat}{y:Str}(h:N'[j]? = some y):N[j]? = some y\/∀q∈scope.names,q.1≠y:=by
 have hl:j<N'.length:=(My.mp h).1
 have hl2:j<N.length:=by rw[←S.len];exact hl
 have m:(N'.zip N)[j]? = some (y,N[j]):=by
  rw[List.getElem?_zip_eq_some];exact⟨h,NB hl2⟩
 rcases S.rel _ (Nj m) with z|z
 .left
  rw[NB hl2];exact congrArg some z.symm
 .exact .inr z
theorem tU{c:Str×OZ->Bool}:∀{names:List (Str×OZ)}{y:Str}{k':OZ},
  (names.map fun p=>if (p.2 == NU&&c p)=true then (p.1,Vc) else (p.1,p.2)).lookup y=some k'->∃k,(y,k)∈names/\(k'=k\/(k=.free/\k'=.cell))
 |[],_,_,h=>by simp at h
 |(n,k)::r,y,k',h=>by
  rw[M5] at h
  by_cases hy:y=n
  .subst hy
   cases hc:(k == NU&&c (y,k)) with
   |false=>
    simp only[hc,Pf,if_false,OF,beq_self_eq_true] at h;cases h;exact⟨k,Mq,.inl rfl⟩
   |true=>
    simp only[hc,if_true,OF,beq_self_eq_true] at h;cases h
    have e:k=.free:=by
     have:=(Mx _ _).mp hc;simpa using this.1
    exact⟨k,Mq,.inr ⟨e,rfl⟩⟩
  .have hb:(y == n)=false:=beq_eq_false_iff_ne.mpr hy
   have h':(r.map fun p=>if (p.2 == NU&&c p)=true then (p.1,Vc) else (p.1,p.2)).lookup y=some k':=by
    cases hc:(k == NU&&c (n,k)) with
    |false=>simp only[hc,Pf,if_false,OF,hb] at h;exact h
    |true=>simp only[hc,if_true,OF,hb] at h;exact h
   obtain⟨k2,m,e⟩:=tU h';exact⟨k2,Mr _ m,e⟩
theorem nB(h:(Sz scope env).names.lookup y=some k'):∃k,(y,k)∈scope.names/\(k'=k\/(k=.free/\k'=.cell)):=by
 refine tU (c:=fun p=>env.scope.kind == .function&&env.kindOf p.1 == some .cell) ?_;rw[←h];unfold Sz
 congr 1
 refine Ni fun p _=>?_;obtain⟨n,k⟩:=p;simp only[Bool.and_assoc]
abbrev b5(X:Cx)(x:Str)(scope:O9)(C:Addr)(s0:Ms)(H0:Hp)(ex:List Addr)(N':List Str):Cx where
 prog:=X.prog
 w:=X.w
 K:=X.K
 mg:=X.mg
 base:=X.base
 A:=X.A
 N:=x::N'
 s₀:=s0
 H₀:=H0
 env:=Sf scope (cy X.env scope.names []) C X.env
 outer:=X.stack
 stack:=X.stack
 ex:=ex
 fn:=fun _=>false
 calm:=X.calm
 pn:=[]
 xe:=fun _ _=>False
section
variable {X:Cx}{pins:List (Addr×Obj)}{σ:St}{H:Hp}{s:Ms}{x:Str}{scope:O9}{N':List Str}
theorem oH(I:Inv X pins σ H s)(S:CS X.env.scope X.N x scope N'):∀y∈scope.names,y.2=.free->∃c,X.env.cells.lookup y.1=some c:=fun y hy e=>
 I.ok.has y.1 (S.free y hy e)
theorem sS(I:Inv X pins σ H s)(S:CS X.env.scope X.N x scope N')(e:(cy X.env scope.names []).lookup y=some c):X.env.cells.lookup y=some c:=rq scope.names [] y c (fun _ _ z=>by simp at z) (oH I S) e
theorem uo(I:Inv X pins σ H s)(S:CS X.env.scope X.N x scope N')(e:(y,NU)∈scope.names):∃c,(cy X.env scope.names []).lookup y=some c/\X.env.cells.lookup y=some c:=by
 obtain⟨c,hc⟩:=On.mp (rP (env:=X.env) scope.names [] y e);exact⟨c,hc,sS I S hc⟩
theorem rN(I:Inv X pins σ H s)(S:CS X.env.scope X.N x scope N')(hf:∀b∈fp,dX X pins H b)(ho:∀b∈fp,∃o,s.heap.get? b=some o)
  (hns:h'.Ns (s.heap.push oD).objs.size m) (hsb:Qc (s.heap.push oD).objs.size ((s.heap.push oD).push oC) h') :
  Inv (b5 X x scope (s.heap.push oD).objs.size { s with heap:=s.heap.push oD } H (s.heap.objs.size::fp) N') [] (none::σ) H { s with heap:=h',toks:=tk }:=by
 have I3:Inv X pins σ H { s with heap:=s.heap.push oD,toks:=s.toks }:=I.kept fun b o e=>Mt _ e;have hC:(s.heap.push oD).objs.size=s.heap.objs.size+1:=Pu ..
 have up3:∀b o,(s.heap.push oD).get? b=some o->h'.get? b=some o:=fun b o e=>
  (hsb.2 b (MO (MB e))).trans (Mt _ e)
 have up:∀b o,s.heap.get? b=some o->h'.get? b=some o:=fun b o e=>up3 b o (Mt _ e);have cl:=fun {y c} e=>sS (y:=y) (c:=c) I S e
 have clt:∀y c,X.env.cells.lookup y=some c->c<s.heap.objs.size:=fun y c e=>let ⟨v,q⟩:=I.cell y c e;q.lt
 have inner:∀{y:Str}{k':OZ},(Sz scope X.env).names.lookup y=some k'->(k'=.cell\/k'=.free)->(y,NU)∈scope.names:=fun {y k'} e hk=>by
  obtain⟨k,mem,r⟩:=nB e
  rcases r with r|⟨r,_⟩
  .rcases hk with z|z
   .exact absurd (r.symm.trans z) (S.nocell _ mem)
   .rw[←r.symm.trans z];exact mem
  .rw[←r];exact mem
 have ok:(b5 X x scope (s.heap.push oD).objs.size { s with heap:=s.heap.push oD } H (s.heap.objs.size::fp) N').Ok:=by
  refine⟨I.ok.mod,S.kind,I.ok.glob,I.ok.blt,MC _,fun y z c e1 e2=>I.ok.inj y z c (cl e1) (cl e2),fun y hk=>?_,fun y c e=>(nomatch e),I.ok.hd,I.ok.frames,.inl rfl,fun b hb=>?_,fun b o e=>?_,
   MP (MP I.ok.bsz I.sz) (by show s.heap.objs.size<=(s.heap.push oD).objs.size;omega),fun b o e hb=>?_,fun b hb z=>?_,I3.stack,I.stkFree⟩
  .have mem:(y,NU)∈scope.names:=by
    rcases hk with z|z
    .exact inner z (.inl rfl)
    .exact inner z (.inr rfl)
   obtain⟨c,hc,_⟩:=uo I S mem;exact⟨c,hc⟩
  .rcases MG.mp hb with e|e
   .subst e
    exact⟨by show s.heap.objs.size≠(s.heap.push oD).objs.size;omega,fun y c e=>MO (clt y c (cl e))⟩
   .obtain⟨o,q⟩:=ho b e
    have q2:=MB q;exact⟨by show b≠(s.heap.push oD).objs.size;rw[hC];exact MO (Qk q2),fun y c e'=>(hf b e).2.2.2.2.1 y c (cl e')⟩
  .exact⟨Mt _ (I.bs b o e).1,(I.bs b o e).2⟩
  .rcases MG.mp hb with z|z
   .have q2:=MB (I.bs b o e).1
    rw[z] at q2;exact NM _ q2
   .rcases(hf b z).2.2.2.1 with q|q
    .exact I.ok.noex b o e q
    .have q2:=MB (I.ok.bs b o e).1
     exact NM _ (ME q2 q)
  .have z':=I.stkSub b z
   rcases MG.mp hb with e|e
   .subst e
    rcases MG.mp z' with q|q
    .have q2:=I.lt
     rw[←q] at q2;exact NM _ q2
    .exact I.nofs (MC _) q
   .rcases MG.mp z' with q|q
    .exact(hf b e).2.1 q
    .exact(hf b e).2.2.1 q
 obtain⟨mo,hno,hlo⟩:=I.loc;refine⟨ok,rfl,I.bare,Un.kept up3,⟨m,hns,fun i y v e1 e2 e3=>?_⟩,fun y c e=>?_,I.hok.fresh (by show s.heap.objs.size<=(s.heap.push oD).objs.size;omega),fun y c e=>I.freeC y c (cl e),fun p hp=>absurd hp (by simp),I.hok.kept up,?_⟩
 .cases i with
  |zero=>simp at e2
  |succ j=>
   have e1n:N'[j]? = some y:=by simpa using e1
   have vis:∃k,(y,k)∈scope.names:=by
    rcases(show Vis (Sz scope X.env) y from e3) with z|z|z <;> exact let ⟨k,mem,_⟩:=nB z;⟨k,mem⟩
   have e1':X.N[j]? = some y:=by
    rcases S.at e1n with z|z
    .exact z
    .obtain⟨k,mem⟩:=vis
     exact absurd rfl (z _ mem)
   have e2':σ[j]? = some (some v):=by simpa using e2
   have yx:y≠x:=fun z=>by
    have nd:=S.nd;rw[Nc] at nd;refine nd.1 ?_;rw[←z];exact Nj e1n
   have kin:((Sz scope X.env).names.lookup y=some .cell\/(Sz scope X.env).names.lookup y=some .free):=by
    rcases(show Vis (Sz scope X.env) y from e3) with z|z|z
    .obtain⟨k,mem,r⟩:=nB z
     rcases r with r|⟨_,r⟩
     .rcases S.only _ mem r.symm with z2|z2
      .exact absurd z2 yx
      .exact absurd (Nj e1n) (by rw[show y=(".0" : Str) from z2];exact S.n0)
     .cases r
    .exact .inl z
    .exact .inr z
   have mem:(y,NU)∈scope.names:=by
    rcases kin with z|z
    .exact inner z (.inl rfl)
    .exact inner z (.inr rfl)
   have vo:Vis X.env.scope y:=by
    rcases S.free _ mem rfl with z|z
    .exact .inr (.inl z)
    .exact .inr (.inr z)
   obtain⟨u,ru,lk⟩:=hlo j y v e1' e2' vo;refine⟨u,ru,.inr ⟨kin,?_⟩⟩;obtain⟨c,hc,hc'⟩:=uo I S mem;refine⟨c,hc,?_⟩
   rcases lk with⟨z,_⟩|⟨_,c2,z2,q⟩
   .exfalso
    have z':X.env.scope.names.lookup y=some .local:=z
    rcases S.free _ mem rfl with r|r <;> (rw[z'] at r;cases r)
   .rw[hc'] at z2
    cases z2;obtain⟨o,q1,q2⟩:=q;exact⟨o,up _ _ q1,q2⟩
 .obtain⟨v,o,q1,q2⟩:=I.cell y c (cl e)
  exact⟨v,o,up _ _ q1,q2⟩
 .have:=I.len
  simp[this,S.len]
theorem rM(I:Inv X pins σ H s)(hf:∀b∈fp,dX X pins H b)
  (hCd:C=(s.heap.push oD).objs.size) (J:Inv (b5 X x scope C { s with heap:=s.heap.push oD } H (s.heap.objs.size::fp) N') pins' σ' H1 s1) (hsb:Qc C s1.heap h') (hD0:H1 s.heap.objs.size=none)
  (new:∃its n,Vals ys its/\s1.heap.get? s.heap.objs.size=some { cls:=.type "list",data:=.seq its.toArray n }) (hz:ys.length<=Mz) :
  Inv X pins σ (upd H1 s.heap.objs.size (.lst ys)) { s1 with heap:=h' }:=by
 have hC:C=s.heap.objs.size+1:=by rw[hCd];exact Pu ..
 have nD:∀b o,s.heap.get? b=some o->b≠s.heap.objs.size:=fun b o e=>MO (MB e)
 have nC:∀b o,s.heap.get? b=some o->b≠C:=fun b o e=>by rw[hC];exact MO (Qk (MB e))
 have up:∀b o,s.heap.get? b=some o->(s.heap.push oD).get? b=some o:=fun b o e=>Mt _ e;have nx:∀b,b∉fp->b≠s.heap.objs.size->b∉s.heap.objs.size::fp:=fun b h1 h2 z=>(MG.mp z).elim h2 h1
 have hDC:s.heap.objs.size≠C:=by rw[hC];exact MO (Rx _)
 have tr:∀b u,H1 b=some u->b≠s.heap.objs.size:=fun b u e z=>by rw[z,hD0] at e;cases e
 have trC:∀b u,H1 b=some u->b≠C:=fun b u e z=>by
  have:=J.free;rw[z] at e;have q:H1 C=none:=J.free;rw[q] at e;cases e
 obtain⟨its,n,rv,eD⟩:=new;have B:Un (frs X.stack) (s.heap.objs.size::fp) H H1 (s.heap.push oD) s1.heap:=J.base;refine I.call' (s':={ s1 with heap:=h' }) (ch:=fp) J.os ⟨fun b o e q h1 h2=>?_,fun b o e q h1 h2=>?_,fun b o e q h2=>?_,fun b o e h2=>?_,fun b xs e=>?_,fun b o u e=>?_,fun b ps e=>?_⟩ (fun b u e=>?_) J.bare fun b hb=>?_
 .exact(hsb.2 b (nC b o e)).trans (B.keep b o (up b o e) q h1 (nx b h2 (nD b o e)))
 .obtain⟨sl,z⟩:=B.slot b o (up b o e) q h1 (nx b h2 (nD b o e))
  exact⟨sl,(hsb.2 b (nC b o e)).trans z⟩
 .rw[aP (nD b o e)]
  exact B.free b o (up b o e) q (nx b h2 (nD b o e))
 .obtain⟨o',z⟩:=B.there b o (up b o e) (nx b h2 (nD b o e))
  exact⟨o',(hsb.2 b (nC b o e)).trans z⟩
 .have z:=B.tups b xs e
  rw[aP (tr b _ z)];exact z
 .have z:=B.frzs b o u e
  rw[aP (tr b _ z)];exact z
 .obtain⟨more,z⟩:=B.tbls b ps e
  exact⟨more,by rw[aP (tr b _ z)];exact z⟩
 .by_cases hb:b=s.heap.objs.size
  .subst hb
   rw[bg] at e;cases e;exact⟨hz,its,n,rv,(hsb.2 _ hDC).trans eD⟩
  .rw[aP hb] at e
   refine(J.hok b u e).stay (fun c v hc q=>(hsb.2 c ?_).trans q) (fun c q=>by rw[aP (tr c _ q)];exact q) fun c xs q=>by rw[aP (tr c _ q)];exact q
   rcases hc with z|z
   .rw[z];exact trC b u e
   .exact trC c _ z
 .obtain⟨_,f1,_,f3,f4,f5⟩:=hf b hb
  exact⟨f3,f1,f4,f5⟩
end
def PTs(X:Cx)(ifs:List Expr)(t:TT):Prop:=
 ∀(pins:List (Addr×Obj)) (s:Ms) (σ:St) (H:Hp) (Q:Bool->Hp->Prop) (E:Mp->Ms->Prop),Inv X pins σ H s->t σ H Q ->
  MU (MW X.prog X.w) X.A (forIn ifs true fun c r=>if r=true then do
   let ok ←Uw c X.env (eval c X.env)
   pure (QI ok) else pure (QI r)) (TP X pins σ Q) E s
theorem CV:PTs X [] (fun _ H Q=>Q true H):=fun _ _ _ H _ _ I h=>wpAny_tests_nil ⟨H,I,h⟩
theorem CU(hx:X.xe=fun _ _=>False)(h:PT X c t):PTs X [c] t:=fun pins s σ H Q _ I q=>
 wpAny_tests_one (Oc (h pins s σ H Q I q) (fun _ _ z=>z) fun e s' z=>by rw[hx] at z;exact z.elim)
def mZ(σ:St)(J:It)(tt:TT)(te:TE)(W:Nat->Nat->List V->Hp->Prop)(D:List V->Hp->Prop):Prop:=∀i m ys H,W i m ys H ->
 (J.stop i H/\ys.length<=Mz/\D ys H)\/(J.go i H/\ys.length<Mz/\∃N:List V->Hp->Prop,(∀ys' H',N ys' H'->∃m',m' < m/\W (i+1) m' ys' H')/\∀v H',J.yld i H v H'->tt (some v::σ) H' fun b H2=>
  if b=true then te (some v::σ) H2 fun y H3=>N (ys++[y]) H3 else N ys H2)
section
variable {X:Cx}{pins:List (Addr×Obj)}{σ:St}{H:Hp}{s:Ms}{x:Str}{scope:O9}{N':List Str}
theorem sQ{fp:List Addr}{it C:Addr}{tn:Nat->Heap->Prop}{J:It}{oD:Obj}{elt iter:Expr}{ifs:List Expr}{px pos:Pos}{te:TE}{tt:TT}{W:Nat->Nat->List V->Hp->Prop}{Dn:List V->Hp->Prop}
  {R:Uz->Ms->Prop}{σ':St}{s4:Ms}{m0:Nat} (hcalm:X.calm=true) (S:CS X.env.scope X.N x scope N') (hf:∀b∈fp,dX X pins H b) (ho:∀b∈fp,∃o,s.heap.get? b=some o) (hCd:C=(s.heap.push oD).objs.size)
  (T:Turn X.prog X.w X.K (.Name x px) J fp it tn) (I4:Inv (b5 X x scope C { s with heap:=s.heap.push oD } H (s.heap.objs.size::fp) N') [] (none::σ) H s4) (st4:tn 0 s4.heap) (hD4:s4.heap.get? s.heap.objs.size=some { cls:=.type "list",data:=.seq #[] 0 })
  (hDn:H s.heap.objs.size=none) (hte:PE (b5 X x scope C { s with heap:=s.heap.push oD } H (s.heap.objs.size::fp) N') elt te) (htt:PTs (b5 X x scope C { s with heap:=s.heap.push oD } H (s.heap.objs.size::fp) N') ifs tt)
  (w0:W 0 m0 [] H) (turn:mZ σ J tt te W Dn)
  (hR:∀s1 H1 σ1 ys its n,Inv (b5 X x scope C { s with heap:=s.heap.push oD } H (s.heap.objs.size::fp) N') [] σ1 H1 s1->H1 s.heap.objs.size=none->Vals ys its->s1.heap.get? s.heap.objs.size=some { cls:=.type "list",data:=.seq its.toArray n }->ys.length<=Mz->Dn ys H1->R (.ok .next) s1) :
  RI (MW X.prog X.w) X.A (.compLoop (.ListComp elt [⟨.Name x px,iter,ifs,0⟩] scope pos) 0 (.ref it) (.ref s.heap.objs.size) (Sf scope (cy X.env scope.names []) C X.env)) R s4:=by
 have hC:C=s.heap.objs.size+1:=by rw[hCd];exact Pu ..
 generalize hX:b5 X x scope C { s with heap:=s.heap.push oD } H (s.heap.objs.size::fp) N'=X' at *
 have xP:X'.prog=X.prog:=by rw[←hX]
 have xW:X'.w=X.w:=by rw[←hX]
 have xK:X'.K=X.K:=by rw[←hX]
 have xA:X'.A=X.A:=by rw[←hX]
 have xE:X'.env=Sf scope (cy X.env scope.names []) C X.env:=by rw[←hX]
 have xC:X'.calm=true:=by rw[←hX];exact hcalm
 have xex:X'.ex=s.heap.objs.size::fp:=by rw[←hX]
 have xpn:X'.pn=[]:=by rw[←hX]
 have xxe:X'.xe=fun _ _=>False:=by rw[←hX]
 have xN:X'.N=x::N':=by rw[←hX]
 have xL:X'.env.locals=C:=by rw[xE];rfl
 have xloc:X'.env.scope.names.lookup x=some .local:=by rw[xE];exact lookup_relabel_local S.hx
 have lt:∀b∈fp,b<s.heap.objs.size:=fun b hb=>let ⟨_,e⟩:=ho b hb;MB e
 have fpk:∀{pl:List (Addr×Obj)}{H':Hp},(∀p∈pl,p.1=s.heap.objs.size)->(∀b∈fp,H' b=none)->∀b∈fp,dX X' pl H' b:=fun {pl H'} hp hn b hb=>by
  have okk:=I4.ok
  have hm:b∈X'.ex:=by rw[xex];exact Mr _ hb
  refine⟨hn b hb,(okk.exf b hm).1,okk.exfs b hm,.inl hm,(okk.exf b hm).2,fun p hpl z=>?_⟩;rw[xpn] at hpl;have q1:=hp p (by simpa using hpl);have q2:=lt b hb;rw[←z,q1] at q2;exact NM _ q2
 have dok:∀{pl:List (Addr×Obj)}{H':Hp},(∀p∈pl,p.1∈fp)->H' s.heap.objs.size=none->dX X' pl H' s.heap.objs.size:=fun {pl H'} hp hn=>by
  have okk:=I4.ok
  have hm:s.heap.objs.size∈X'.ex:=by rw[xex];exact Mq
  refine⟨hn,(okk.exf _ hm).1,okk.exfs _ hm,.inl hm,(okk.exf _ hm).2,fun p hpl z=>?_⟩;rw[xpn] at hpl;have q2:=lt p.1 (hp p (by simpa using hpl));rw[z] at q2;exact NM _ q2
 refine codeAny_compLoop_tests (I:=fun m s'=>∃i σx H' ys its n,Inv X' [] (σx::σ) H' s'/\tn i s'.heap/\(∀b∈fp,H' b=none)/\H' s.heap.objs.size=none/\Vals ys its/\s'.heap.get? s.heap.objs.size=some { cls:=.type "list",data:=.seq its.toArray n }/\W i m ys H') ?_ m0
  ⟨0,none,H,[],[],0,I4,st4,fun b hb=>(hf b hb).1,hDn,.nil,hD4,w0⟩
 rintro m s5 ⟨i,σx,H5,ys,its,n,I5,st5,fr5,d5,rv,e5,w5⟩
 have I5d:Inv X' ([]++gj [s.heap.objs.size] s5.heap) (σx::σ) H5 s5:=I5.pinned (fun b hb=>by
   have e:b=s.heap.objs.size:=by simpa using hb
   rw[e];exact dok (fun p hp=>absurd hp (by simp)) d5) fun b hb=>by
   have e:b=s.heap.objs.size:=by simpa using hb
   rw[e];exact⟨_,e5,fun v z=>by cases z⟩
 have pD:([]++gj [s.heap.objs.size] s5.heap:List (Addr×Obj))=[(s.heap.objs.size,{ cls:=.type "list",data:=.seq its.toArray n })]:=by
  simp[gj,e5]
 rw[pD] at I5d
 have p1:∀p∈[(s.heap.objs.size,({ cls:=.type "list",data:=.seq its.toArray n }:Obj))],p.1=s.heap.objs.size:=fun p hp=>by
  have e:p=(s.heap.objs.size,{ cls:=.type "list",data:=.seq its.toArray n }):=by simpa using hp
  rw[e]
 have hsz:its.length=ys.length:=rv.length.symm
 rcases turn i m ys H5 w5 with⟨stop,hz,dn⟩|⟨go,hz,N,hN,step⟩
 .have q:=T.done X' xP xW xK xC i _ s5 (σx::σ) H5 (Vz (MW X.prog X.w) X.A (Sf scope (cy X.env scope.names []) C X.env) fun e s'=>R (.error e) s') I5d (fpk p1 fr5) st5 stop
  rw[xA] at q;refine Oc q (fun r s6 z=>?_) fun _ _ z=>z;obtain⟨rfl,I6⟩:=z;refine hR s6 H5 (σx::σ) ys its n ?_ d5 rv (I6.pin _ (M3 _ (MR.mpr rfl))).1 hz dn;exact I6.pins_of fun p hp=>absurd hp (by simp)
 .have q:=T.item X' xP xW xK xC i _ s5 (σx::σ) H5 (Vz (MW X.prog X.w) X.A (Sf scope (cy X.env scope.names []) C X.env) fun e s'=>R (.error e) s') I5d (fpk p1 fr5) st5 go
  rw[xA] at q;refine Oc q (fun r s6 z=>?_) fun _ _ z=>z;obtain⟨u,rfl,z⟩:=z;dsimp only;have z':MU (MW X.prog X.w) X.A (pure ()) _ _ s6:=z;refine Mu (m:=pure ()) (f:=fun _=>Rm (.Name x px) (Sf scope (cy X.env scope.names []) C X.env) u) (Oc z' (fun _ s7 z=>?_) fun _ _ z=>z);obtain⟨v,H7,I7,rv7,y7,st7,fr7⟩:=z;have I7p:=I7.pinned (fpk p1 fr7) (T.obj _ _ st7);rw[←xE]
  have nd:X'.N.Nodup:=by rw[xN];exact S.nd
  have hi0:X'.N[0]? = some x:=by rw[xN];rfl
  refine Rf (lF (E:=Vz (MW X.prog X.w) X.A X'.env fun e s'=>R (.error e) s') (i:=0) I7p nd hi0 (.inl xloc) rv7 (fun s8 I8=>?_) (.inr xloc));have I8':Inv X' _ (some v::σ) H7 s8:=I8;have t8:=htt _ s8 (some v::σ) H7 _ (Vz (MW X.prog X.w) X.A X'.env fun e s'=>R (.error e) s') I8' (step v H7 y7);rw[xP,xW,xA] at t8;refine Oc t8 (fun ok s9 z=>?_) fun _ _ z=>z;obtain⟨H9,I9,q9⟩:=z
  have back:∀{s':Ms}{H':Hp}{σ2:St},Inv X' ([(s.heap.objs.size,({ cls:=.type "list",data:=.seq its.toArray n }:Obj))]++gj fp s7.heap) σ2 H' s' ->
    tn (i+1) s'.heap/\(∀b∈fp,H' b=none)/\H' s.heap.objs.size=none/\s'.heap.get? s.heap.objs.size=some { cls:=.type "list",data:=.seq its.toArray n }/\Inv X' [] σ2 H' s':=fun {s' H' σ2} I'=>by
   refine⟨T.keep _ _ _ st7 fun b hb o e=>(I'.pin (b,o) (M3 _ (M3 _ (i4 hb e)))).1,fun b hb=>?_,?_,?_,I'.pins_of fun p hp=>absurd hp (by simp)⟩
   .obtain⟨o,e,_⟩:=T.obj _ _ st7 b hb
    exact(I'.pin (b,o) (M3 _ (M3 _ (i4 hb e)))).2.1
   .exact(I'.pin (s.heap.objs.size,_) (M3 _ (NS _ (MR.mpr rfl)))).2.1
   .exact(I'.pin (s.heap.objs.size,_) (M3 _ (NS _ (MR.mpr rfl)))).1
  cases ok with
  |false=>
   simp only[Pf,if_false] at q9 ⊢;obtain⟨m',hm,w9⟩:=hN _ _ q9;obtain⟨a1,a2,a3,a4,a5⟩:=back I9;exact⟨m',hm,i+1,some v,H9,ys,its,n,a5,a1,a2,a3,rv,a4,w9⟩
  |true=>
   simp only[if_true] at q9 ⊢;have t9:=hte _ s9 (some v::σ) H9 _ I9 q9;rw[xP,xW,xA,xxe] at t9;refine Oc t9 (fun u2 s10 z=>?_) fun _ _ z=>z.elim;obtain⟨y,H10,I10,r10,q10⟩:=z;obtain⟨m',hm,w10⟩:=hN _ _ q10;obtain⟨a1,a2,a3,a4,a5⟩:=back I10;refine wpAny_list_append_plain ⟨n,a4⟩ (fun h' pl sb=>?_) (by rw[MH];omega);obtain⟨n',e'⟩:=pl;have D0:=dok (pl:=[]) (fun p hp=>absurd hp (by simp)) a3;refine⟨m',hm,i+1,some v,H10,ys++[y],its++[u2],n',a5.turned (t':=s10.toks) (fun b o hb e=>(sb.2 b hb).trans e) D0.1 D0.2.1 D0.2.2.2.1 D0.2.2.2.2.1 D0.2.2.2.2.2,?_,a2,a3,rv.append (.cons r10 .nil),by simpa using e',w10⟩;exact T.keep _ _ _ a1 fun b hb o e=>(sb.2 b (MO (lt b hb))).trans e
end
section
variable {X:Cx}{x:Str}{scope:O9}{N':List Str}{elt iter:Expr}{ifs:List Expr}{px pos:Pos}{wi:TI}{te:TE}{tt:TT}
def we(wi:TI)(tt:TT)(te:TE):TE:=fun σ H Q=>wi σ H fun J H1=>∃W:Nat->Nat->List V->Hp->Prop,(∃m,W 0 m [] H1)/\mZ σ J tt te W fun ys H=>∀p,H p=none->Q (.ref p) (upd H p (.lst ys))
theorem C8(hc:X.calm=true)(S:CS X.env.scope X.N x scope N')(hi:PI X (.Name x px) iter wi)(he:∀C s0 H0 ex,PE (b5 X x scope C s0 H0 ex N') elt te)
  (ht:∀C s0 H0 ex,PTs (b5 X x scope C s0 H0 ex N') ifs tt) (hs:∀v,NI iter X.env v=pure v:=by intro _;rfl):PE X (.ListComp elt [⟨.Name x px,iter,ifs,0⟩] scope pos) (we wi tt te):=by
 intro pins s σ H Q I h;rw[eval_ListComp];refine Ro (use:=none) rfl hs (rO (oH I S)) S.kind S.names (thn (hi pins s σ H _ I h) fun v s1 h1=>thn h1 fun itv s2 h2=>?_);obtain⟨it,fp,tn,J,H2,rfl,I2,T,st2,f2,W,⟨m0,w0⟩,turn⟩:=h2
 have ho:∀b∈fp,∃o,s2.heap.get? b=some o:=fun b hb=>let ⟨o,e,_⟩:=T.obj _ _ st2 b hb;⟨o,e⟩
 refine NR (Sg S.nocell (by intro y hy;simp at hy) (fun h' hns hsb=>?_) S.kind);have I4:=rN (x:=x) (scope:=scope) (tk:=s2.toks+([]:List (Str×Mp)).length) I2 S f2 ho hns hsb
 have up3:∀b o,(s2.heap.push { cls:=.type "list",dict:=none,data:=.seq ([]:List Mp).toArray }).get? b=some o->h'.get? b=some o:=fun b o e=>
  (hsb.2 b (MO (MB e))).trans (Mt _ e)
 have st4:tn 0 h':=T.keep _ _ _ st2 fun b _ o e=>up3 b o (Mt _ e)
 have loop:=sQ (elt:=elt) (iter:=iter) (ifs:=ifs) (pos:=pos) (R:=compPost (MW X.prog X.w) X.A X.xe none (EP X pins σ Q) (.ref s2.heap.objs.size) (s2.heap.push { cls:=.type "list",dict:=none,data:=.seq ([]:List Mp).toArray }).objs.size) (σ':=σ)
  hc S f2 ho rfl T I4 st4 (up3 _ _ (MZ _ rfl)) (I2.hok.fresh (MC _)) (he _ _ _ _) (ht _ _ _ _) w0 turn fun s5 H5 σ5 ys its n J5 d5 rv e5 hz dn=>by
   obtain⟨m,hn,_⟩:=J5.loc;exact⟨m,hn,fun h'' sb=>⟨.ref s2.heap.objs.size,_,rM I2 f2 rfl J5 sb d5 ⟨its,n,rv,e5⟩ hz,rfl,dn _ d5⟩⟩
 exact RU loop (T.self X.A 0 _ _ _ st4 loop)
def Gp(i:Nat)(wi:TI)(tt:TT)(te:TE):TS:=fun D σ H=>wi σ H fun J H1=>∃W:Nat->Nat->List V->Hp->Prop,(∃m,W 0 m [] H1)/\mZ σ J tt te W fun ys H=>∀p,H p=none->D.nx (σ.set i (some (.ref p))) (upd H p (.lst ys))
theorem uL(hc:X.calm=true)(S:CS X.env.scope X.N x scope N')(hN:X.N.Nodup)(hi':X.N[i]? = some y)(hy:Loc X.env.scope y)(hf':X.fn y=true\/X.env.scope.names.lookup y=some .local)
  (hi:PI X (.Name x px) iter wi) (he:∀C s0 H0 ex,PE (b5 X x scope C s0 H0 ex N') elt te)
  (ht:∀C s0 H0 ex,PTs (b5 X x scope C s0 H0 ex N') ifs tt) (hsw:NX (.ListComp elt [⟨.Name x px,iter,ifs,0⟩] scope pos) (some (.Name y py)) spos.line X.env=pure true) (hs:∀v,NI iter X.env v=pure v:=by intro _;rfl) :
  PS X (.Assign [.Name y py] (.ListComp elt [⟨.Name x px,iter,ifs,0⟩] scope pos) spos) (Gp i wi tt te):=by
 intro pins s σ H D I h;rw[exec_Assign_Name_used _ _ _ _ hsw];refine Mu (Rn (Mu ?_));show MU _ _ (do let _ ←comprehension (.ListComp elt [⟨.Name x px,iter,ifs,0⟩] scope pos) scope X.env _ (newList []) false (eval iter X.env) (some (Rm (.Name y py) X.env))) _ _ s;refine Mu (Oc (Ro (use:=some (Rm (.Name y py) X.env)) (Q:=fun _ s'=>SP X pins D .next s') rfl hs (rO (oH I S)) S.kind S.names (thn (hi pins s σ H _ I h) fun v s1 h1=>thn h1 fun itv s2 h2=>?_)) (fun _ _ q=>MI (MI q)) fun _ _ q=>q);obtain⟨it,fp,tn,J,H2,rfl,I2,T,st2,f2,W,⟨m0,w0⟩,turn⟩:=h2
 have ho:∀b∈fp,∃o,s2.heap.get? b=some o:=fun b hb=>let ⟨o,e,_⟩:=T.obj _ _ st2 b hb;⟨o,e⟩
 refine NR (Sg S.nocell (by intro y hy;simp at hy) (fun h' hns hsb=>?_) S.kind);have I4:=rN (x:=x) (scope:=scope) (tk:=s2.toks+([]:List (Str×Mp)).length) I2 S f2 ho hns hsb
 have up3:∀b o,(s2.heap.push { cls:=.type "list",dict:=none,data:=.seq ([]:List Mp).toArray }).get? b=some o->h'.get? b=some o:=fun b o e=>
  (hsb.2 b (MO (MB e))).trans (Mt _ e)
 have st4:tn 0 h':=T.keep _ _ _ st2 fun b _ o e=>up3 b o (Mt _ e)
 have hCs:s2.heap.objs.size<=(s2.heap.push { cls:=.type "list",dict:=none,data:=.seq ([]:List Mp).toArray }).objs.size:=by rw[Pu];omega
 have hDC:(s2.heap.push { cls:=.type "list",dict:=none,data:=.seq ([]:List Mp).toArray }).objs.size≠s2.heap.objs.size:=by rw[Pu];omega
 have loop:=sQ (elt:=elt) (iter:=iter) (ifs:=ifs) (pos:=pos) (R:=compPost (MW X.prog X.w) X.A X.xe (some (Rm (.Name y py) X.env)) (fun _ s'=>SP X pins D .next s') (.ref s2.heap.objs.size) (s2.heap.push { cls:=.type "list",dict:=none,data:=.seq ([]:List Mp).toArray }).objs.size) (σ':=σ)
  hc S f2 ho rfl T I4 st4 (up3 _ _ (MZ _ rfl)) (I2.hok.fresh (MC _)) (he _ _ _ _) (ht _ _ _ _) w0 turn fun s5 H5 σ5 ys its n J5 d5 rv e5 hz dn=>by
   have J6:=rM I2 f2 rfl J5 (VT _ _) d5 ⟨its,n,rv,e5⟩ hz;obtain⟨m,hn,_⟩:=J5.loc;refine Rf (r6 (u:=.ref s2.heap.objs.size) J6 hN hi' hy (show RelV (.ref s2.heap.objs.size) _ from rfl) (fun s7 I7 ⟨a,sb,ha⟩=>?_) hf')
   have hCa:(s2.heap.push { cls:=.type "list",dict:=none,data:=.seq ([]:List Mp).toArray }).objs.size≠a:=by
    rcases ha with z|z
    .rw[z]
     exact PC (ME I2.lt hCs)
    .obtain⟨v,q⟩:=I2.cell _ _ z
     exact PC (ME q.lt hCs)
   have hn5:H5 (s2.heap.push { cls:=.type "list",dict:=none,data:=.seq ([]:List Mp).toArray }).objs.size=none:=J5.free;have fk:=I2.fpOk (b:=(s2.heap.push { cls:=.type "list",dict:=none,data:=.seq ([]:List Mp).toArray }).objs.size) (H':=upd H5 s2.heap.objs.size (.lst ys)) hCs (by rw[aP hDC];exact hn5);refine⟨m,hn.sameBut sb hCa,fun h'' sb2=>⟨_,_,I7.turned (t':=s7.toks) (fun b o hb e=>(sb2.2 b hb).trans e) fk.1 fk.2.1 fk.2.2.2.1 fk.2.2.2.2.1 fk.2.2.2.2.2,dn _ d5⟩⟩
 exact RU loop (T.self X.A 0 _ _ _ st4 loop)
end
section
variable {σ:St}{tt:TT}{te:TE}
end
def Its(z:Str):It:=⟨fun i _=>i<z.cps.size,fun i H v H'=>H'=H/\∃c,z.cps[i]? = some c/\v=.str ⟨#[c]⟩,fun i _=>z.cps.size<=i⟩
theorem tj{P:MA}{w:ML}{K:Frag}{tg:Expr}(z:Str)(t:Tok)(ty:String)(it:Addr)(hty:ty="str_ascii_iterator"\/ty="str_iterator") :
  Turn P w K tg (Its z) [it] it (fun i h=>h.IsStrIter it ty z t i) where
 mem:=by simp
 obj:=fun i h st b hb=>by
  have e:b=it:=by simpa using hb
  subst e;obtain⟨o,e,c,d⟩:=st;exact⟨o,e,fun v q=>by rw[d] at q;cases q⟩
 keep:=fun i h h' st k=>let ⟨o,e,r⟩:=st;⟨o,k it (by simp) o e,r⟩
 item:=by
  intro X hP hw hK hc i pins s σ H E I hf st hg;subst hP hw hK;have hi:i<z.cps.size:=hg;obtain⟨f0,f1,f2,f3,f4,f5⟩:=hf it (by simp)
  have fin:∀h',h'.IsStrIter it ty z t (i+1)->Qc it s.heap h'->∃u,(some (P5 ⟨#[z.cps[i]]⟩ s.toks):Option Mp)=some u /\
    MU (MW X.prog X.w) X.A (QG tg (.ref it) u) (fun _ s2=>∃x H',Inv X pins σ H' s2/\RelV x u/\(Its z).yld i H x H'/\s2.heap.IsStrIter it ty z t (i+1)/\∀b∈[it],H' b=none) E { s with heap:=h',toks:=s.toks+1 }:=fun h' st' sb=>by
   have I1:Inv X pins σ H { s with heap:=h',toks:=s.toks+1 }:=I.turned (fun b o hb e=>(sb.2 b hb).trans e) f0 f1 f3 f4 f5;obtain⟨o,e,c,d⟩:=id st';refine⟨_,rfl,kE (s:={ s with heap:=h',toks:=s.toks+1 }) (n:=ty) e c d ?_ ⟨.str ⟨#[z.cps[i]]⟩,H,I1,⟨_,rfl⟩,⟨rfl,z.cps[i],by simp[hi],rfl⟩,st',fun b hb=>(hf b hb).1⟩⟩
   rcases hty with e|e <;> (rw[e];decide)
  rcases hty with e|e
  .subst e
   exact wpAny_pyNext_ascii_item st (c:=z.cps[i]) (by simp[hi]) fin
  .subst e
   exact wpAny_pyNext_wide_item st (c:=z.cps[i]) (by simp[hi]) fin
 done:=by
  intro X hP hw hK hc i pins s σ H E I hf st hg;subst hP hw hK;have hi:z.cps.size<=i:=hg;obtain⟨f0,f1,f2,f3,f4,f5⟩:=hf it (by simp);have fin:∀h',Heap.ExtBut it s.heap h'->(none:Option Mp)=none/\Inv X pins σ H { s with heap:=h' }:=fun h' eb=>⟨rfl,I.turned (t':=s.toks) (fun b o hb e=>eb b o hb e) f0 f1 f3 f4 f5⟩
  rcases hty with e|e
  .subst e
   exact wpAny_pyNext_ascii_end (I.ok.hd hc) st (by simp;omega) fin
  .subst e
   exact wpAny_pyNext_wide_end (I.ok.hd hc) st (by simp;omega) fin
 self:=fun _ _ _ _ _ st h=>by
  rcases hty with e|e
  .subst e
   exact wpAny_pyIter_striter_ascii st h
  .subst e
   exact wpAny_pyIter_striter_wide st h
section
variable {X:Cx}{tg:Expr}
end
theorem all_range(bs:List Bool)(n:Nat)(hn:n=bs.length):(NZ n).all (fun i=>bs.getD i false)=bs.all id:=by
 subst hn;rw[Oi,MM,MM];constructor
 .intro h b hb
  obtain⟨i,hi,rfl⟩:=List.getElem_of_mem hb;have:=h i (Qb.mpr hi);simpa[SA,hi] using this
 .intro h i hi
  have hi':=Qb.mp hi;have:=h bs[i] (TR hi');simpa[SA,hi'] using this
theorem rG:∀(ns:List Int) (k:Nat),k<=ns.length->preSum (fun i=>ns.getD i 0) k=(ns.take k).sum
 |ns,0,_=>by simp[preSum]
 |ns,k+1,h=>by
  have hk:k<ns.length:=h;have ih:=rG ns k (Pc hk)
  have e:(ns.take (k+1)).sum=(ns.take k).sum+ns.getD k 0:=by
   rw[Rk,List.sum_append];simp[SA,hk]
  rw[e,←ih];rfl
section
variable {X:Cx}
theorem Ck(hc:X.calm=true):CallR X (.builtin "all") (fun xs H Q=>∃(p:Addr) (bs:List Bool),xs=[.ref p]/\SqL X.K H p (bs.map V.bl)/\Q (.bl (bs.all id)) H):=by
 intro pins s σ H xs us Q I r h;obtain⟨p,bs,rfl,hq,q⟩:=h;obtain⟨u,rfl,ru⟩:=vals1 r;cases ru;obtain⟨its,rv,pl,hz⟩:=I.list hq
 have hlen:its.length=bs.length:=by have:=rv.length;simpa using this.symm
 have hlt:p<s.heap.objs.size:=by
  obtain⟨o,n,e,_⟩:=pl;exact MB e
 refine call_all_walk (Pq pl.isList ?_);refine⟨s.heap.objs.size,_,_,_,_,_,fun i=>bs.getD i false,rfl,VO (A:=X.A.in1) (I.ok.hd hc) _ p (MO hlt) its.toArray,⟨⟨_,MZ _ rfl,rfl,rfl⟩,?_⟩,fun i v s' Q' E' hv hQ'=>?_,fun h' tk hk=>?_⟩
 .obtain⟨o,n,e,r⟩:=pl.isList
  exact⟨o,Mt _ n,e,r⟩
 .have hi:i<its.length:=by
   have:=(OH.mp hv).1;simpa using this
  have hi2:i<bs.length:=by omega
  obtain⟨u,hu,ru⟩:=rv.get (i:=i) (x:=.bl bs[i]) (by simp[hi2])
  have e:v=u:=by
   have hv':its[i]? = some v:=by simpa using hv
   rw[hu] at hv';exact(Nm hv').symm
  subst e;cases (show v=QW bs[i] from ru);refine N0 ?_
  have e:bs[i]=bs.getD i false:=by simp[SA,hi2]
  rw[e];exact hQ'
 .have e:(NZ its.toArray.size).all (fun i=>bs.getD i false)=bs.all id:=all_range bs _ (by simpa using hlen)
  rw[e];exact⟨.bl _,H,I.kept (t':=tk) fun b o q=>hk b o (by simp;exact MO (MB q)) (Mt _ q),rfl,q⟩
theorem Dw{ns:List Int}{its:List Mp}(rv:Vals (ns.map V.int) its){i:Nat}{v:Mp}(hv:its.toArray[i]? = some v):∃t,v=.int (ns.getD i 0) t:=by
 have hlen:its.length=ns.length:=by have:=rv.length;simpa using this.symm
 have hi:i<its.length:=by
  have:=(OH.mp hv).1;simpa using this
 have hi2:i<ns.length:=by omega
 obtain⟨u,hu,ru⟩:=rv.get (i:=i) (x:=.int ns[i]) (by simp[hi2])
 have e:v=u:=by
  have hv':its[i]? = some v:=by simpa using hv
  rw[hu] at hv';exact(Nm hv').symm
 subst e;obtain⟨t,e⟩:=(show ∃t,v=QT ns[i] t from ru);refine⟨t,?_⟩;rw[e];simp[SA,hi2]
theorem Ci(hc:X.calm=true):CallR X (.builtin "sum") (fun xs H Q=>∃(p:Addr) (ns:List Int),xs=[.ref p]/\SqL X.K H p (ns.map V.int)/\Q (.int ns.sum) H):=by
 intro pins s σ H xs us Q I r h;obtain⟨p,ns,rfl,hq,q⟩:=h;obtain⟨u,rfl,ru⟩:=vals1 r;cases ru;obtain⟨its,rv,pl,hz⟩:=I.list hq
 have hlen:its.length=ns.length:=by have:=rv.length;simpa using this.symm
 have hlt:p<s.heap.objs.size:=by
  obtain⟨o,n,e,_⟩:=pl;exact MB e
 refine call_sum_walkG (Pq pl.isList ?_);refine⟨s.heap.objs.size,_,_,_,_,_,fun i=>ns.getD i 0,rfl,VO (A:=X.A.in1) (I.ok.hd hc) _ p (MO hlt) its.toArray,⟨⟨_,MZ _ rfl,rfl,rfl⟩,?_⟩,fun b hb=>?_,fun i v hv=>Dw rv hv,fun h' tk t' hk=>?_⟩
 .obtain⟨o,n,e,r⟩:=pl.isList
  exact⟨o,Mt _ n,e,r⟩
 .rw[Pu]
  rcases(by simpa using hb:b=s.heap.objs.size\/b=p) with e|e
  .rw[e];exact Rx _
  .rw[e];exact Qk hlt
 .have e:preSum (fun i=>ns.getD i 0) its.toArray.size=ns.sum:=by
   rw[rG ns _ (by simp;omega)];rw[Nz (by simp;omega)]
  rw[e];exact⟨.int _,H,I.kept (t':=tk) fun b o q=>hk b o (by simp;exact MO (MB q)) (Mt _ q),⟨t',rfl⟩,q⟩
end
open K1 (jS iU)
section
variable {prog:MA}{w:ML}{A:Nb}{R:Uz->Ms->Prop}{it S:Addr}{fp wr:List Addr}{P:Nat->Mp->Prop}{St:Nat->Heap->Prop}{ns:List Int}{kw:List (Str×Mp)}
end
section
variable {X:Cx}
end
section
variable {X:Cx}{e ed:Expr}{te td:TE}{p pos kpos:Pos}
end
section
variable {X:Cx}
theorem op_catG:OpR X (N9 .Add) (fun x y H Q=>∃a b xs ys,x=.ref a/\y=.ref b/\SqT X.K H a xs/\SqT X.K H b ys/\xs.length+ys.length<=Mz /\
  (xs=[]->Q (.ref b) H)/\(xs≠[]->ys=[]->Q (.ref a) H)/\(xs≠[]->ys≠[]->∀p,H p=none->Q (.ref p) (upd H p (.tup (xs++ys))))):=by
 intro pins s σ H x y v u Q I rx ry h;obtain⟨a,b,xs,ys,rfl,rfl,ha,hb,hz,q0,q1,q2⟩:=h
 by_cases hx:xs=[]
 .cases rx
  cases ry;obtain⟨its,r1,p1,_⟩:=I.tuple ha;obtain⟨its2,r2,p2,_⟩:=I.tuple hb;have hv:its=[]:=r1.nil_iff.mpr hx;obtain⟨⟨cls,dd,data,sl⟩,ho,hc,n,hd⟩:=id p1;obtain⟨⟨cls2,dd2,data2,sl2⟩,ho2,hc2,n2,hd2⟩:=id p2;simp only at hc hd hc2 hd2;subst hc hd hc2 hd2
  exact RM ⟨_,ho,rfl⟩ ⟨_,ho2,rfl⟩ Rt SQ Qg P6 (PN _ _)
   (tuple_addW0 a b its.toArray its2.toArray n n2 dd dd2 sl sl2 (by simp[hv])) ⟨ho,ho2,⟨.ref b,H,I,rfl,q0 hx⟩⟩
 .exact Dh pins s σ H _ _ v u Q I rx ry ⟨a,b,xs,ys,rfl,rfl,ha,hb,hx,hz,q1 hx,q2 hx⟩
theorem Ew:SlR X (fun x lo hi H Q=>∃z:Str,x=.str z/\z.length<=Mz/\Q (.str (NH z lo hi)) H):=by
 intro pins s σ H x v vl vu lo hi sl Q I rx hs pl pu h;obtain⟨z,rfl,hz,q⟩:=h;obtain⟨t,rfl⟩:=rx
 have fin:∀l u:Option (Int×Tok),l.map (·.1)=lo->u.map (·.1)=hi->s.heap.IsSlice sl l u none->MU (MW X.prog X.w) X.A (Ri (.str z t) (.ref sl)) (EP X pins σ Q) X.xe s:=fun l u el eu h=>by
  refine wpAny_getItem_str_slice h rfl ?_;refine post_val_or_made (fun _=>?_) fun t' k=>?_
  .have:=sliceIndices_le (l.map (·.1)) (u.map (·.1)) z.length
   have e:=List.length_filterMap_le (fun i=>z.cps[i]?) (Uj z l u none);show ((Uj z l u none).filterMap (z.cps[·]?)).toArray.size<=Mz;rw[MH];unfold Uj at e ⊢;simp only[Option.map_none,Rw] at e ⊢;omega
  .refine⟨.str (NH z lo hi),H,I.tok _,⟨t',?_⟩,q⟩
   rw[←el,←eu];rfl
 refine⟨"str",_,PySem.F.slot_str_getitem.lookup,Qu s z t,?_⟩
 cases pl with
 |none=>
  cases pu with
  |none=>exact fin none none rfl rfl hs
  |int j u=>exact fin none (some (j,u)) rfl rfl hs
 |int i u=>
  cases pu with
  |none=>exact fin (some (i,u)) none rfl rfl hs
  |int j u'=>exact fin (some (i,u)) (some (j,u')) rfl rfl hs
theorem op_mulS:OpR X (N9 .Mult) (fun x y H Q=>∃z k,x=.str z/\y=.int k/\0<=k/\k<=2000/\z.length<=1000/\Q (.str (PD z k)) H):=by
 intro pins s σ H x y v u Q I rx ry h;obtain⟨z,k,rfl,rfl,h1,h2,h3,q⟩:=h;obtain⟨t,rfl⟩:=rx;obtain⟨t',rfl⟩:=ry;have hm:z.length*k.toNat<=1000*2000:=Si h3 (by omega);refine SB.mul ⟨?_,fun g1 g2=>?_,fun g1 g2=>?_⟩ fun t' k'=>⟨.str _,H,I.tok _,⟨t',rfl⟩,q⟩
 .simp;omega
 .have hk:1<=k:=by simp at g1;omega
  have e1:(1000:Int)<=(2^63-1) / k:=by
   rw[Int.le_ediv_iff_mul_le (by omega)];omega
  omega
 .unfold Builtin.Str.tooLong
  simp[Mz];omega
end
theorem zG:∀{us:List Mp},Vals (ys.map V.str) us->StrsAre us ys:=by
 induction ys with
 |nil=>intro us r;rw[RQ] at r;cases r;exact .nil
 |cons y ys ih=>
  intro us r;rw[M5] at r
  cases r with
  |cons r1 r2=>
   obtain⟨t,e⟩:=r1;subst e;exact .cons y t (ih r2)
section
variable {X:Cx}
end
structure Fn(P:MA)(w:ML)(K:Frag)(mg:Str->Option Mp)(base:Heap)(name:Str)(ps:List Str)(k:Nat)(sp:Sp):Prop where
 ex:∃f fd,FnOk P w K mg base CX0 k f fd ps sp/\Binds K fd ps []/\Ny K (.ref f)=true/\mg name=some (.ref f)
section
variable {X:Cx}{name:Str}{ps:List Str}{k:Nat}{sp:Sp}{e:Expr}{es:List Expr}{t:TA}{p pos:Pos}
theorem wy(F:Fn X.prog X.w X.K X.mg X.base name ps k sp)(hr:Room k X.A)(hg:Gl X name)(ha:PA X (e::es) t)(hdb:(name == ("__debug__" : Str))=false:=by decide)
  (he:Mw (e::es) X.env=(false,eval e X.env)::Mw es X.env:=by rfl) (hpl:(Nv pos (Mw es X.env)).any (·.1)=false:=by rfl):PE X (.Call (.Name name p) (e::es) [] pos) (wg sp [] E0 t):=by
 obtain⟨f,fd,h1,h2,h3,h4⟩:=F.ex;exact Da h1 hr hg h4 h3 h2 .nil GE ha hdb he hpl
end
theorem tQ(S:CS osc N x scope N')(hi:PI X (.Name x px) iter wi)
  (he:∀C s0 H0 ex,PE (b5 X x scope C s0 H0 ex N') elt te) (ht:∀C s0 H0 ex,PTs (b5 X x scope C s0 H0 ex N') ifs tt) (hc:X.calm=true:=by rfl) (hs:X.env.scope=osc:=by rfl) (hN:X.N=N:=by rfl)
  (hf:∀v,NI iter X.env v=pure v:=by intro _;rfl):PE X (.ListComp elt [⟨.Name x px,iter,ifs,0⟩] scope pos) (we wi tt te):=by
 subst hs hN;exact C8 hc S hi he ht hf
end L2
namespace D
open L2
inductive Gh(P:Hp->Prop):Hp->Prop where
 |done {H:Hp}:P H->Gh P H
 |frz {H:Hp}{a:Addr}{kvs:List (Key×V)}:H a=some (.dK kvs)->(∀o,Gh P (upd H a (.frz o (.dK kvs))))->Gh P H
theorem Gh.imp(g:Gh P H)(i:∀H,P H->P' H):Gh P' H:=by
 induction g with
 |done h=>exact .done (i _ h)
 |frz e _ ih=>exact .frz e ih
section
variable {X:Cx}{pins:List (Addr×Obj)}{σ:L2.St}{H:Hp}{s:Ms}
theorem uV(I:Inv X pins σ H s)(e:H a=some (.dK kvs)):∃o,Inv X pins σ (upd H a (.frz o (.dK kvs))) s:=by
 obtain⟨z,y,vs,kv,o,es,ep,eo,r⟩:=I.hok a _ e
 have U:∀{b:Addr}{u:HO},H b=some u->(∀ks,u≠.dK ks)->upd H a (.frz o (.dK kvs)) b=some u:=fun {b u} q n=>by
  rw[aP (fun z=>by subst z;rw[e] at q;cases q;exact n _ rfl)];exact q
 have hok:HOk X.prog X.w (upd H a (.frz o (.dK kvs))) s.heap:=fun b u q=>by
  by_cases hb:b=a
  .subst hb
   rw[bg] at q;cases q;exact⟨eo,(I.hok b _ e).stay (fun _ _ _ q=>q) (fun c q=>U q (fun _ z=>nomatch z)) fun c xs q=>U q (fun _ z=>nomatch z)⟩
  .rw[aP hb] at q
   exact(I.hok b u q).stay (fun _ _ _ q=>q) (fun c q=>U q (fun _ z=>nomatch z)) fun c xs q=>U q (fun _ z=>nomatch z)
 exact⟨o,I.un (h':=s.heap) (t':=s.toks) ⟨fun b ob q n _ _=>q,fun b ob q n _ _=>⟨_,q⟩,fun b ob q n _=>by rw[aP (fun z=>by subst z;rw[e] at n;cases n)];exact n,fun b ob q _=>⟨_,q⟩,fun b xs q=>U q (fun _ z=>nomatch z),
  fun b ob u q=>U q (fun _ z=>nomatch z),fun b ps q=>⟨#[],by rw[U q (fun _ z=>nomatch z)];simp⟩⟩ hok⟩
theorem Gh.ok(g:Gh P H)(I:Inv X pins σ H s):∃H',Inv X pins σ H' s/\P H':=by
 induction g with
 |done h=>exact⟨_,I,h⟩
 |frz e _ ih=>
  obtain⟨o,I'⟩:=uV I e;exact ih o I'
end
section
variable {X:Cx}
theorem Gw{st:Stmt}{t:TS}(h:PS X st t):PS X st (fun D σ H=>Gh (t D σ) H):=fun pins s σ H D I q=>by
 obtain⟨H',I',q'⟩:=q.ok I;exact h pins s σ H' D I' q'
theorem GB(h:PE X e t):PE X e (fun σ H Q=>t σ H fun v H1=>Gh (Q v) H1):=fun pins s σ H Q I q=>
 thn (h pins s σ H _ I q) fun u s' ⟨v,H',I',r,q'⟩=>by
  obtain⟨H2,I2,q2⟩:=q'.ok I';exact⟨v,H2,I2,r,q2⟩
end
def jJ(o:Obj):Nat:=match o.data with
 |.dict _ ep=>ep
 |_=>0
def Itd(a:Addr)(o:Obj)(kvs:List (Key×V)):It:=⟨fun i H=>H a=some (.frz o (.dK kvs))/\i<kvs.length,fun i H x H'=>H'=H/\∃k v,kvs[i]? = some (k,v)/\x=kV k,fun i H=>H a=some (.frz o (.dK kvs))/\i=kvs.length⟩
theorem oh(ok:HOk P w H h)(e:H a=some (.frz o (.dK kvs))):kvs.length<=Mz/\(a == N8)=false/\∃vs,KV kvs vs/\h.DictAt (bQ P w) a vs (jJ o):=by
 obtain⟨e1,z,y,vs,kv,o',es,ep,e2,ed,dd,r⟩:=ok a _ e;rw[e1] at e2;cases e2;refine⟨z,y,vs,kv,o,es,e1,ed,?_,r⟩;unfold jJ;rw[dd]
theorem keyV(e:(bQ P w).is k v=true):RelV (kV k) v:=by
 rcases dZ (show eM k v=true from e) with⟨i,t,rfl,rfl⟩|⟨x,t,rfl,rfl⟩
 .exact⟨t,rfl⟩
 .exact⟨t,rfl⟩
theorem GZ{kvs:List (Key×V)}{vs:List (Key×Mp)}(r:KV kvs vs){i:Nat}{k:Key}{x:Mp}(e:vs[i]? = some (k,x)):∃v,kvs[i]? = some (k,v):=by
 have h:=r.keys
 have h1:(vs.map (·.1))[i]? = some k:=by rw[Nq,e];rfl
 rw[←h,Nq] at h1
 cases q:kvs[i]? with
 |none=>rw[q] at h1;cases h1
 |some p=>
  rw[q] at h1;cases h1;exact⟨p.2,rfl⟩
theorem Aa{P:MA}{w:ML}{K:Frag}{tg:Expr}(a it:Addr)(o:Obj)(kvs:List (Key×V)):Turn P w K tg (Itd a o kvs) [it] it (fun i h=>h.IsKeyIter it a i kvs.length (jJ o)) where
 mem:=by simp
 obj:=fun i h st b hb=>by
  have e:b=it:=by simpa using hb
  subst e;obtain⟨o,e,c,d⟩:=st;exact⟨o,e,fun v z=>by rw[d] at z;cases z⟩
 keep:=fun i h h' st k=>st.at fun o e=>k it (by simp) o e
 item:=by
  intro X hP hw hK hc i pins s σ H E I hf st hg;subst hP hw hK;obtain⟨hg1,hg2⟩:=hg;obtain⟨z,y,vs,kv,dd⟩:=oh I.hok hg1;obtain⟨f0,f1,f2,f3,f4,f5⟩:=hf it (by simp);have hl:=kv.length
  have ne:a≠it:=fun q=>by rw[q,f0] at hg1;cases hg1
  have W:=UE (prog:=X.prog) (w:=X.w) (knd:=bQ X.prog X.w) (I.ok.hd hc) it a ne vs (jJ o);refine W.item i s _ _ (by omega) ⟨by rw[←hl];exact st,dd⟩ fun v h' tk hv st' kk=>?_;obtain⟨k,x,h1,h2⟩:=hv;have I1:Inv X pins σ H { s with heap:=h',toks:=tk }:=I.turned (fun b o hb e=>kk b o (by simpa using hb) e) f0 f1 f3 f4 f5
  have st1:h'.IsKeyIter it a (i+1) kvs.length (jJ o):=by rw[hl];exact st'.1
  obtain⟨o1,e1,c1,d1⟩:=id st1;obtain⟨v0,h3⟩:=GZ kv h1;exact⟨v,rfl,kE (s:={ s with heap:=h',toks:=tk }) e1 c1 d1 (by decide) ⟨kV k,H,I1,keyV h2,⟨rfl,k,v0,h3,rfl⟩,st1,fun b hb=>(hf b hb).1⟩⟩
 done:=by
  intro X hP hw hK hc i pins s σ H E I hf st hg;subst hP hw hK;obtain⟨hg1,hg2⟩:=hg;obtain⟨z,y,vs,kv,dd⟩:=oh I.hok hg1;obtain⟨f0,f1,f2,f3,f4,f5⟩:=hf it (by simp);have hl:=kv.length
  have ne:a≠it:=fun q=>by rw[q,f0] at hg1;cases hg1
  have W:=UE (prog:=X.prog) (w:=X.w) (knd:=bQ X.prog X.w) (I.ok.hd hc) it a ne vs (jJ o);refine W.done s _ _ ⟨by rw[←hl,←hg2];rw[←hg2] at st;exact st,dd⟩ fun h' tk kk=>⟨rfl,I.turned (fun b o hb e=>kk b o (by simpa using hb) e) f0 f1 f3 f4 f5⟩
 self:=fun _ _ _ _ _ st h=>wpAny_pyIter_keyiter st h
inductive W where
 |d (x:Mo)|tp (i:Nat)|loc (x:Mo)
abbrev Tp:=List (List Mo)
abbrev Rho:=List (Option W)
noncomputable def bnd{α β:Type}(o:Option (α×Tp))(k:α->Tp->Option β):Option β:=match o with
 |some (a,T)=>k a T
 |none=>none
theorem aO{α β:Type}{o:Option (α×Tp)}{k:α->Tp->Option β}{b:β}(h:bnd o k=some b):∃a T,o=some (a,T)/\k a T=some b:=by
 cases o with
 |none=>cases h
 |some p=>exact⟨p.1,p.2,rfl,h⟩
def kS:Key->Mo
 |.inl i=>.int i
 |.inr x=>.str x
def TupAt(K:Frag)(O:Addr->Prop)(H:Hp)(a:Addr)(vs:List V):Prop:=(¬O a/\Rd H a (.tup vs))\/SqT K (fun _=>none) a vs
def LstAt(K:Frag)(O:Addr->Prop)(H:Hp)(a:Addr)(vs:List V):Prop:=(¬O a/\Rd H a (.lst vs))\/SqL K (fun _=>none) a vs
theorem Er{K:Frag}{H:Hp}{a:Addr}{vs:List V}(h:SqT K (fun _=>none) a vs):SqT K H a vs:=by
 rcases h with(h|⟨o,h⟩)|h
 .cases h
 .cases h
 .exact .inr h
theorem Es{K:Frag}{H:Hp}{a:Addr}{vs:List V}(h:SqL K (fun _=>none) a vs):SqL K H a vs:=by
 rcases h with(h|⟨o,h⟩)|h
 .cases h
 .cases h
 .exact .inr h
theorem TupAt.sq{K:Frag}{O:Addr->Prop}{H:Hp}{a:Addr}{vs:List V}(h:TupAt K O H a vs):SqT K H a vs:=by
 rcases h with h|h
 .exact .inl h.2
 .exact Er h
theorem LstAt.sq{K:Frag}{O:Addr->Prop}{H:Hp}{a:Addr}{vs:List V}(h:LstAt K O H a vs):SqL K H a vs:=by
 rcases h with h|h
 .exact .inl h.2
 .exact Es h
mutual
inductive Rep(K:Frag)(O:Addr->Prop)(H:Hp):V->Mo->Prop where
 |non:Rep K O H .non .none
 |bl (b:Bool):Rep K O H (.bl b) (.bool b)
 |int (i:Int):Rep K O H (.int i) (.int i)
 |str (x:Str):Rep K O H (.str x) (.str x)
 |tup {a:Addr}{vs:List V}{ds:List Mo}:TupAt K O H a vs->Reps K O H vs ds->Rep K O H (.ref a) (.tuple ds)
 |lst {a:Addr}{vs:List V}{ds:List Mo}:LstAt K O H a vs->Reps K O H vs ds->Rep K O H (.ref a) (.list ds)
 |dct {a:Addr}{o:Obj}{kvs:List (Key×V)}{ds:List (Mo×Mo)}:¬O a->H a=some (.frz o (.dK kvs))->RepK K O H kvs ds->Rep K O H (.ref a) (.dict ds)
inductive Reps(K:Frag)(O:Addr->Prop)(H:Hp):List V->List Mo->Prop where
 |nil:Reps K O H [] []
 |cons {v:V}{d:Mo}{vs:List V}{ds:List Mo}:Rep K O H v d->Reps K O H vs ds->Reps K O H (v::vs) (d::ds)
inductive RepK(K:Frag)(O:Addr->Prop)(H:Hp):List (Key×V)->List (Mo×Mo)->Prop where
 |nil:RepK K O H [] []
 |cons {k:Key}{v:V}{d:Mo}{kvs:List (Key×V)}{ds:List (Mo×Mo)}:Rep K O H v d->RepK K O H kvs ds->RepK K O H ((k,v)::kvs) ((kS k,d)::ds)
end
def Le(O:Addr->Prop)(H:Hp)(O':Addr->Prop)(H':Hp):Prop:=∀a o,¬O a->H a=some o->¬O' a/\H' a=some o
theorem Le.trans(h:Le O H O1 H1)(g:Le O1 H1 O2 H2):Le O H O2 H2:=fun a o n e=>let ⟨n1,e1⟩:=h a o n e;g a o n1 e1
theorem TupAt.mono{K:Frag}{O O':Addr->Prop}{H H':Hp}(h:Le O H O' H'){a:Addr}{vs:List V}(t:TupAt K O H a vs):TupAt K O' H' a vs:=by
 rcases t with⟨n,t|⟨o,t⟩⟩|t
 .exact .inl ⟨(h _ _ n t).1,.inl (h _ _ n t).2⟩
 .exact .inl ⟨(h _ _ n t).1,.inr ⟨o,(h _ _ n t).2⟩⟩
 .exact .inr t
theorem LstAt.mono{K:Frag}{O O':Addr->Prop}{H H':Hp}(h:Le O H O' H'){a:Addr}{vs:List V}(t:LstAt K O H a vs):LstAt K O' H' a vs:=by
 rcases t with⟨n,t|⟨o,t⟩⟩|t
 .exact .inl ⟨(h _ _ n t).1,.inl (h _ _ n t).2⟩
 .exact .inl ⟨(h _ _ n t).1,.inr ⟨o,(h _ _ n t).2⟩⟩
 .exact .inr t
mutual
theorem Rep.mono{K:Frag}{O O':Addr->Prop}{H H':Hp}(e:Le O H O' H'):∀{v:V}{d:Mo},Rep K O H v d->Rep K O' H' v d
 |_,_,.non=>.non
 |_,_,.bl b=>.bl b
 |_,_,.int i=>.int i
 |_,_,.str x=>.str x
 |_,_,.tup t r=>.tup (t.mono e) (Reps.mono e r)
 |_,_,.lst t r=>.lst (t.mono e) (Reps.mono e r)
 |_,_,.dct n h r=>.dct (e _ _ n h).1 (e _ _ n h).2 (RepK.mono e r)
theorem Reps.mono{K:Frag}{O O':Addr->Prop}{H H':Hp}(e:Le O H O' H'):∀{vs:List V}{ds:List Mo},Reps K O H vs ds->Reps K O' H' vs ds
 |_,_,.nil=>.nil
 |_,_,.cons r t=>.cons (Rep.mono e r) (Reps.mono e t)
theorem RepK.mono{K:Frag}{O O':Addr->Prop}{H H':Hp}(e:Le O H O' H'):∀{vs:List (Key×V)}{ds:List (Mo×Mo)},RepK K O H vs ds->RepK K O' H' vs ds
 |_,_,.nil=>.nil
 |_,_,.cons r t=>.cons (Rep.mono e r) (RepK.mono e t)
end
section
variable {K:Frag}{O:Addr->Prop}{H:Hp}
theorem Reps.length:∀{vs:List V}{ds:List Mo},Reps K O H vs ds->vs.length=ds.length
 |_,_,.nil=>rfl
 |_,_,.cons _ t=>congrArg (· + 1) (Reps.length t)
theorem Reps.get:∀{vs:List V}{ds:List Mo}{i:Nat}{v:V},Reps K O H vs ds->vs[i]? = some v->∃d,ds[i]? = some d/\Rep K O H v d
 |_,_,_,_,.nil,e=>by simp at e
 |_,_,0,_,.cons r _,e=>by simp at e;subst e;exact⟨_,rfl,r⟩
 |_,_,i+1,v,.cons _ t,e=>by
  obtain⟨d,h1,h2⟩:=Reps.get (i:=i) (v:=v) t (by simpa using e);exact⟨d,by simpa using h1,h2⟩
theorem Reps.getD:∀{vs:List V}{ds:List Mo}{i:Nat}{d:Mo},Reps K O H vs ds->ds[i]? = some d->∃v,vs[i]? = some v/\Rep K O H v d
 |_,_,_,_,.nil,e=>by simp at e
 |_,_,0,_,.cons r _,e=>by simp at e;subst e;exact⟨_,rfl,r⟩
 |_,_,i+1,v,.cons _ t,e=>by
  obtain⟨d,h1,h2⟩:=Reps.getD (i:=i) (d:=v) t (by simpa using e);exact⟨d,by simpa using h1,h2⟩
theorem Reps.set(r:Rep K O H v d):∀{vs:List V}{ds:List Mo} (i:Nat),Reps K O H vs ds->Reps K O H (vs.set i v) (ds.set i d)
 |_,_,_,.nil=>.nil
 |_,_,0,.cons _ t=>.cons r t
 |_,_,i+1,.cons q t=>.cons q (Reps.set r i t)
theorem Reps.append:∀{vs:List V}{ds:List Mo},Reps K O H vs ds->Reps K O H ws es->Reps K O H (vs++ws) (ds++es)
 |_,_,.nil,r=>r
 |_,_,.cons q t,r=>.cons q (Reps.append t r)
theorem Reps.take:∀{vs:List V}{ds:List Mo} (n:Nat),Reps K O H vs ds->Reps K O H (vs.take n) (ds.take n)
 |_,_,0,_=>.nil
 |_,_,_+1,.nil=>.nil
 |_,_,n+1,.cons r t=>.cons r (Reps.take n t)
theorem Reps.drop:∀{vs:List V}{ds:List Mo} (n:Nat),Reps K O H vs ds->Reps K O H (vs.drop n) (ds.drop n)
 |_,_,0,r=>r
 |_,_,_+1,.nil=>.nil
 |_,_,n+1,.cons _ t=>Reps.drop n t
theorem Reps.rep(r:Reps K O H vs ds):∀n:Nat,Reps K O H (MX n vs).flatten (MX n ds).flatten
 |0=>.nil
 |n+1=>by
  rw[Oh,Oh,OO,OO];exact r.append (r.rep n)
end
def SameX(ts:List Addr)(H H':Hp):Prop:=∀b o,b∉ts->H b=some o->H' b=some o
theorem SameX.refl(ts:List Addr)(H:Hp):SameX ts H H:=fun _ _ _ h=>h
theorem SameX.trans(a:SameX ts H H1)(b:SameX ts H1 H2):SameX ts H H2:=fun c o n h=>b c o n (a c o n h)
theorem SameX.new(h:H p=none)(o:HO):SameX ts H (upd H p o):=fun b u _ q=>by rw[aP (cx q h)];exact q
def Mut(o:Option HO):Prop:=(∃vs,o=some (.lst vs))\/(∃kvs,o=some (.dK kvs))\/∃C dx fs,o=some (.ins C dx fs)
theorem Mut.ex(h:Mut o):∃u,o=some u:=by rcases h with⟨vs,e⟩|⟨vs,e⟩|⟨C,dx,fs,e⟩ <;> exact⟨_,e⟩
theorem Mut.to(h:Mut o)(k:∀u,o=some u->o'=some u):Mut o':=by
 rcases h with⟨vs,e⟩|⟨vs,e⟩|⟨C,dx,fs,e⟩
 .exact .inl ⟨vs,k _ e⟩
 .exact .inr (.inl ⟨vs,k _ e⟩)
 .exact .inr (.inr ⟨C,dx,fs,k _ e⟩)
def Ht(C:Addr):PyData:=.dict [(.none,.int (C:Int))]
def isO:List Mo->Bool
 |.dict [(.none,_)]::_=>true
 |_=>false
def pairF(p:Str×Mo):PyData:=.tuple [.str p.1,p.2]
inductive RepF(K:Frag)(O:Addr->Prop)(H:Hp):List (Str×V)->List (Str×Mo)->Prop where
 |nil:RepF K O H [] []
 |cons {n:Str}{v:V}{d:Mo}{vs:List (Str×V)}{ds:List (Str×Mo)}:Rep K O H v d->RepF K O H vs ds->RepF K O H ((n,v)::vs) ((n,d)::ds)
theorem RepF.mono{K:Frag}{O O':Addr->Prop}{H H':Hp}(e:Le O H O' H'){vs:List (Str×V)}{ds:List (Str×Mo)}(r:RepF K O H vs ds):RepF K O' H' vs ds:=by
 induction r with
 |nil=>exact .nil
 |cons r _ ih=>exact .cons (Rep.mono e r) ih
def RowAt(K:Frag)(O:Addr->Prop)(H:Hp)(a:Addr)(xs:List Mo):Prop:=(isO xs=false/\∃vs,H a=some (.lst vs)/\Reps K O H vs xs)\/∃C dx fs fd,H a=some (.ins C dx fs)/\xs=Ht C::fd.map pairF/\RepF K O H fs fd
theorem RowAt.mono{K:Frag}{O O':Addr->Prop}{H H':Hp}{a:Addr}{xs:List Mo}(h:RowAt K O H a xs)(k:∀o,H a=some o->H' a=some o)(l:Le O H O' H'):RowAt K O' H' a xs:=by
 rcases h with⟨n,vs,h1,h2⟩|⟨C,dx,fs,fd,h1,h2,h3⟩
 .exact .inl ⟨n,vs,k _ h1,h2.mono l⟩
 .exact .inr ⟨C,dx,fs,fd,k _ h1,h2,h3.mono l⟩
theorem RowAt.lst{K:Frag}{O:Addr->Prop}{H:Hp}{a:Addr}{xs:List Mo}(h:RowAt K O H a xs)(n:isO xs=false):∃vs,H a=some (.lst vs)/\Reps K O H vs xs:=by
 rcases h with⟨_,h⟩|⟨C,dx,fs,fd,h1,h2,h3⟩
 .exact h
 .rw[h2] at n
  cases n
theorem CN{K:Frag}{O:Addr->Prop}{H:Hp}{v:V}{y:Mo}(h:Rep K O H v (.dict [(.none,y)])):False:=by
 cases h with
 |dct _ _ r=>
  generalize hl:[(Sj,y)]=l at r
  cases r with
  |nil=>cases hl
  |@cons k _ _ _ _ _ _=>
   injection hl with h1 _
   injection h1 with h1 _
   rcases k with i|x
   .cases h1
   .cases h1
theorem Reps.notO{K:Frag}{O:Addr->Prop}{H:Hp}{vs:List V}{xs:List Mo}(r:Reps K O H vs xs):isO xs=false:=by
 cases r with
 |nil=>rfl
 |cons h _=>
  rename_i d _ _ _;unfold isO;split
  .rename_i e
   cases e;exact(CN h).elim
  .rfl
structure HC(K:Frag)(O:Addr->Prop)(ts:List Addr)(H:Hp)(T:Tp):Prop where
 own:∀b∈ts,O b
 trk:∀b,O b->Mut (H b)
 nd:ts.Nodup
 len:ts.length=T.length
 tape:∀(i:Nat) (a:Addr) (xs:List Mo),ts[i]? = some a->T[i]? = some xs->RowAt K O H a xs
section
variable {K:Frag}{O:Addr->Prop}{ts:List Addr}{H H':Hp}{T:Tp}
theorem HC.le(c:HC K O ts H T)(s:SameX ts H H'):Le O H O H':=fun a o n e=>⟨n,s a o (fun z=>n (c.own a z)) e⟩
theorem HC.step(c:HC K O ts H T)(s:SameX ts H H')(t:∀b∈ts,H' b=H b):HC K O ts H' T where
 own:=c.own
 trk:=fun b hb=>by
  by_cases z:b∈ts
  .rw[t b z];exact c.trk b hb
  .exact(c.trk b hb).to fun u e=>s b _ z e
 nd:=c.nd
 len:=c.len
 tape:=fun i a xs e1 e2=>by
  exact(c.tape i a xs e1 e2).mono (fun o h1=>by rw[t a (Nj e1)];exact h1) (c.le s)
theorem HC.fresh(c:HC K O ts H T)(h:H p=none):¬O p:=fun z=>by
 obtain⟨u,e⟩:=(c.trk p z).ex;rw[h] at e;cases e
theorem HC.new(c:HC K O ts H T)(h:H p=none)(o:HO):HC K O ts (upd H p o) T:=c.step (.new h o) fun b hb=>aP fun z=>c.fresh h (z ▸ c.own b hb)
theorem HC.leNew(c:HC K O ts H T)(h:H p=none)(o:HO):Le O H O (upd H p o):=c.le (.new h o)
theorem HC.newT(c:HC K O ts H T)(h:H p=none)(r:Reps K O H vs ds):Rep K O (upd H p (.tup vs)) (.ref p) (.tuple ds):=.tup (.inl ⟨c.fresh h,.inl bg⟩) (r.mono (c.leNew h _))
theorem HC.newL(c:HC K O ts H T)(h:H p=none)(r:Reps K O H vs ds):Rep K O (upd H p (.lst vs)) (.ref p) (.list ds):=.lst (.inl ⟨c.fresh h,.inl bg⟩) (r.mono (c.leNew h _))
end
inductive Vw(K:Frag)(O:Addr->Prop)(H:Hp):V->Mo->Prop where
 |rep {v:V}{x:Mo}:Rep K O H v x->Vw K O H v x
 |raw {a:Addr}{vs:List V}{xs:List Mo}:H a=some (.lst vs)->Reps K O H vs xs->Vw K O H (.ref a) (.list xs)
 |rawD {a:Addr}{kvs:List (Key×V)}{ds:List (Mo×Mo)}:H a=some (.dK kvs)->RepK K O H kvs ds->Vw K O H (.ref a) (.dict ds)
section
variable {K:Frag}{O:Addr->Prop}{H:Hp}{v:V}
theorem Vw.int(h:Vw K O H v (.int i)):v=.int i:=by cases h with|rep h=>cases h;rfl
theorem Vw.str(h:Vw K O H v (.str x)):v=.str x:=by cases h with|rep h=>cases h;rfl
theorem Vw.bl(h:Vw K O H v (.bool b)):v=.bl b:=by cases h with|rep h=>cases h;rfl
theorem Vw.non(h:Vw K O H v .none):v=.non:=by cases h with|rep h=>cases h;rfl
theorem Vw.tup(h:Vw K O H v (.tuple ds)):∃a vs,v=.ref a/\TupAt K O H a vs/\Reps K O H vs ds:=by cases h with|rep h=>cases h with|tup t r=>exact⟨_,_,rfl,t,r⟩
theorem Vw.tupR(h:Vw K O H v (.tuple ds)):Rep K O H v (.tuple ds):=by cases h with|rep h=>exact h
theorem Vw.lst(h:Vw K O H v (.list ds)):∃a vs,v=.ref a/\SqL K H a vs/\Reps K O H vs ds:=by
 cases h with
 |rep h=>cases h with|lst t r=>exact⟨_,_,rfl,t.sq,r⟩
 |raw h r=>exact⟨_,_,rfl,SqL.of h,r⟩
theorem Vw.dct(h:Vw K O H v (.dict ds)):∃a kvs,v=.ref a/\Rd H a (.dK kvs)/\RepK K O H kvs ds:=by
 cases h with
 |rep h=>cases h with|dct n t r=>exact⟨_,_,rfl,.inr ⟨_,t⟩,r⟩
 |rawD t r=>exact⟨_,_,rfl,.inl t,r⟩
end
def OwnAt(K:Frag)(O:Addr->Prop)(H:Hp)(a:Addr):Mo->Prop
 |.list xs=>∃vs,H a=some (.lst vs)/\Reps K O H vs xs
 |.dict ds=>∃kvs,H a=some (.dK kvs)/\RepK K O H kvs ds
 |_=>False
theorem OwnAt.mono{K:Frag}{O O':Addr->Prop}{H H':Hp}{a:Addr}{x:Mo}(h:OwnAt K O H a x)(k:∀o,H a=some o->H' a=some o)(l:Le O H O' H'):OwnAt K O' H' a x:=by
 cases x with
 |list xs=>obtain⟨vs,h1,h2⟩:=h;exact⟨vs,k _ h1,h2.mono l⟩
 |dict ds=>obtain⟨vs,h1,h2⟩:=h;exact⟨vs,k _ h1,h2.mono l⟩
 |_=>cases h
theorem OwnAt.some{K:Frag}{O:Addr->Prop}{H:Hp}{a:Addr}{x:Mo}(h:OwnAt K O H a x):∃o,H a=some o:=by
 cases x with
 |list xs=>obtain⟨vs,h1,h2⟩:=h;exact⟨_,h1⟩
 |dict ds=>obtain⟨vs,h1,h2⟩:=h;exact⟨_,h1⟩
 |_=>cases h
def RepW(K:Frag)(O:Addr->Prop)(ts:List Addr)(H:Hp)(v:V):W->Prop
 |.d x=>Rep K O H v x
 |.tp i=>∃a,ts[i]? = some a/\v=.ref a
 |.loc x=>∃a,v=.ref a/\O a/\a∉ts/\OwnAt K O H a x
def iR(xs:List Mo):Option PyData:=if isO xs=true then none else some (.list xs)
noncomputable def view(T:Tp):W->Option Mo
 |.d x=>some x
 |.tp i=>(T[i]?).bind iR
 |.loc (.list xs)=>some (.list xs)
 |.loc (.dict ds)=>some (.dict ds)
 |.loc _=>none
noncomputable def views(T:Tp):List W->Option (List Mo)
 |[]=>some []
 |w::r=>match view T w with
  | some x=>(match views T r with
   |some xs=>some (x::xs)
   | none=>none)
  |none=>none
def fL(K:Frag)(O:Addr->Prop)(ts:List Addr)(H:Hp):List V->List W->Prop:=QX fun v w=>RepW K O ts H v w
def Vws(K:Frag)(O:Addr->Prop)(H:Hp):List V->List Mo->Prop:=QX fun v x=>Vw K O H v x
def RelE(K:Frag)(O:Addr->Prop)(ts:List Addr)(H:Hp)(σ:L2.St)(ρ:Rho):Prop:=∀(i:Nat) (w:W),ρ[i]? = some (some w)->∃v,σ[i]? = some (some v)/\RepW K O ts H v w
section
variable {K:Frag}{O:Addr->Prop}{ts:List Addr}{H H':Hp}{T:Tp}{v:V}{w:W}
theorem RepW.mono(r:RepW K O ts H v w)(c:HC K O ts H T)(s:SameX ts H H'):RepW K O ts H' v w:=by
 cases w with
 |d x=>exact Rep.mono (c.le s) r
 |tp i=>exact r
 |loc xs=>
  obtain⟨a,e,h1,h2,h3⟩:=r;exact⟨a,e,h1,h2,h3.mono (fun o q=>s _ _ h2 q) (c.le s)⟩
theorem RelE.mono(r:RelE K O ts H σ ρ)(c:HC K O ts H T)(s:SameX ts H H'):RelE K O ts H' σ ρ:=fun i w e=>
 let ⟨v,h1,h2⟩:=r i w e;⟨v,h1,h2.mono c s⟩
theorem HC.view(c:HC K O ts H T)(r:RepW K O ts H v w)(e:view T w=some x):Vw K O H v x:=by
 cases w with
 |d y=>cases e;exact .rep r
 |tp i=>
  obtain⟨a,h1,rfl⟩:=r;have e':(T[i]?).bind iR=some x:=e
  cases ht:T[i]? with
  |none=>rw[ht] at e';cases e'
  |some xs=>
   rw[ht] at e';have e2:(if isO xs=true then none else some (Pa xs))=some x:=e';split at e2
   .cases e2
   .rename_i hn
    cases e2;obtain⟨vs,h2,h3⟩:=(c.tape i a xs h1 ht).lst (by simpa using hn);exact .raw h2 h3
 |loc xs=>
  obtain⟨a,rfl,_,_,h3⟩:=r
  cases xs with
  |list xs=>cases e;obtain⟨vs,h1,h2⟩:=h3;exact .raw h1 h2
  |dict ds=>cases e;obtain⟨vs,h1,h2⟩:=h3;exact .rawD h1 h2
  |_=>cases h3
theorem HC.views(c:HC K O ts H T):∀{vs:List V}{ws:List W}{xs:List Mo},fL K O ts H vs ws->views T ws=some xs->Vws K O H vs xs
 |_,[],xs,.nil,e=>by cases e;exact .nil
 |_,w::r,xs,.cons h t,e=>by
  unfold D.views at e;split at e
  .rename_i x h1
   split at e
   .rename_i ys h2
    cases e;exact .cons (c.view h h1) (HC.views c t h2)
   .cases e
  .cases e
end
def noStar:Expr->Bool
 |.Starred _ _=>false
 |_=>true
theorem bR(h:noStar e=true):Mw (e::es) env=(false,eval e env)::Mw es env:=by cases e <;> first|rfl|cases h
theorem tE(h:noStar e=true):Mw [e] env=[(false,eval e env)]:=bR h
theorem cL:∀{es:List Expr},es.all noStar=true->(Nv pos (Mw es env)).any (·.1)=false
 |[],_=>rfl
 |e::r,h=>by
  rw[Pn,Mx] at h;rw[bR h.1];show (false||(Nv pos (Mw r env)).any (·.1))=false;rw[cL h.2];rfl
theorem jI(h:noStar e=true):((Nv cpos (Mw [e] env)).all (fun x=>!x.1)&&(O5 cpos (Oa [] env)).all (fun x=>x.1.isSome)
   && decide (([e]:List Expr).length+([]:List N1).length+(if ([]:List N1).isEmpty then 0 else 1)<30))=true:=by
 rw[tE h];rfl
abbrev FE:=Rho->Tp->Option (W×Tp)
abbrev FT:=Rho->Tp->Option (Bool×Tp)
abbrev FA:=Rho->Tp->Option (List W×Tp)
inductive LiftP(K:Frag)(f:FE)(σ:L2.St)(H:Hp)(Q:VK):Prop where
 |mk (O:Addr->Prop) (ts:List Addr) (ρ:Rho) (T:Tp) (w:W) (T':Tp) (hc:HC K O ts H T) (re:RelE K O ts H σ ρ) (e:f ρ T=some (w,T')) (q:∀v H',SameX ts H H'->HC K O ts H' T'->RepW K O ts H' v w->Q v H'):LiftP K f σ H Q
def lift(K:Frag)(f:FE):TE:=fun σ H Q=>LiftP K f σ H Q
inductive LiftTP(K:Frag)(f:FT)(σ:L2.St)(H:Hp)(Q:Bool->Hp->Prop):Prop where
 |mk (O:Addr->Prop) (ts:List Addr) (ρ:Rho) (T:Tp) (b:Bool) (T':Tp) (hc:HC K O ts H T) (re:RelE K O ts H σ ρ) (e:f ρ T=some (b,T')) (q:∀H',SameX ts H H'->HC K O ts H' T'->Q b H'):LiftTP K f σ H Q
def liftT(K:Frag)(f:FT):TT:=fun σ H Q=>LiftTP K f σ H Q
inductive LiftAP(K:Frag)(f:FA)(σ:L2.St)(H:Hp)(Q:List V->Hp->Prop):Prop where
 |mk (O:Addr->Prop) (ts:List Addr) (ρ:Rho) (T:Tp) (ws:List W) (T':Tp) (hc:HC K O ts H T) (re:RelE K O ts H σ ρ) (e:f ρ T=some (ws,T')) (q:∀vs H',SameX ts H H'->HC K O ts H' T'->fL K O ts H' vs ws->Q vs H'):LiftAP K f σ H Q
def wG(K:Frag)(f:FA):TA:=fun σ H Q=>LiftAP K f σ H Q
structure DE(X:Cx)(e:Expr)(f:FE):Prop where
 pe:PE X e (lift X.K f)
structure DT(X:Cx)(e:Expr)(f:FT):Prop where
 pe:PT X e (liftT X.K f)
structure DW(X:Cx)(e:Expr)(f:FT):Prop where
 pe:PW X e (liftT X.K f)
structure DA(X:Cx)(es:List Expr)(f:FA):Prop where
 pe:PA X es (wG X.K f)
theorem pe_imp(h:PE X e t)(i:∀σ H Q,t' σ H Q->t σ H Q):PE X e t':=fun pins s σ H Q I q=>h pins s σ H Q I (i σ H Q q)
theorem ms(h:PT X e t)(i:∀σ H Q,t' σ H Q->t σ H Q):PT X e t':=fun pins s σ H Q I q=>h pins s σ H Q I (i σ H Q q)
theorem vz(h:PW X e t)(i:∀σ H Q,t' σ H Q->t σ H Q):PW X e t':=fun wh pins s σ H Q I q=>h wh pins s σ H Q I (i σ H Q q)
theorem vI(h:PA X e t)(i:∀σ H Q,t' σ H Q->t σ H Q):PA X e t':=fun po pins s σ H Q I q=>h po pins s σ H Q I (i σ H Q q)
def aa(i:Nat):FE:=fun ρ T=>match ρ[i]? with
 |some (some w)=>some (w,T)
 |_=>none
noncomputable def fC(x:Mo):FE:=fun _ T=>some (.d x,T)
section
variable {X:Cx}{pos:Pos}
theorem ag(i:Nat)(hN:X.N[i]? = some x:=by rfl)(hv:Vis X.env.scope x:=by first|exact Oe rfl|exact NP (Oe rfl)|exact NP (NP rfl))(hd:(x == ("__debug__" : Str))=false:=by decide)
  (hcd:(x == ("__classdict__" : Str))=false:=by decide):DE X (.Name x pos) (aa i):=by
 refine⟨?_⟩;refine pe_imp (pv i hN hv hd hcd) fun σ H Q=>?_;rintro⟨O,ts,ρ,T,w,T',hc,re,e,q⟩;unfold aa at e;split at e
 .rename_i w' he
  cases e;obtain⟨v,h1,h2⟩:=re i _ he;exact⟨v,h1,q v H (.refl _ _) hc h2⟩
 .cases e
theorem iF(h:∀O H,Rep X.K O H v x):∀σ H Q,lift X.K (fC x) σ H Q->tC v σ H Q:=by
 rintro σ H Q ⟨O,ts,ρ,T,w,T',hc,re,e,q⟩;cases e;exact q v H (.refl _ _) hc (h O H)
theorem ao{i j}:DE X (.Constant (.int i) j pos) (fC (.int i)):=⟨pe_imp vG (iF fun _ _=>.int i)⟩
theorem b6{i j}:DE X (.Constant (.bool i) j pos) (fC (.bool i)):=⟨pe_imp GD (iF fun _ _=>.bl i)⟩
theorem aC{i j}:DE X (.Constant (.str i) j pos) (fC (.str i)):=⟨pe_imp EQ (iF fun _ _=>.str i)⟩
theorem dj{j}:DE X (.Constant .none j pos) (fC .none):=⟨pe_imp ER (iF fun _ _=>.non)⟩
theorem i8(hg:Gl X x)(hm:∃t,X.mg x=some (.int i t))(hd:(x == ("__debug__" : Str))=false:=by decide):DE X (.Name x pos) (fC (.int i)):=by
 refine⟨?_⟩;obtain⟨t,hm⟩:=hm;exact pe_imp (iB (v:=.int i) hg hm ⟨t,rfl⟩ hd) (iF fun _ _=>.int i)
theorem ug(hg:Gl X x)(hm:∃t,X.mg x=some (.str i t))(hd:(x == ("__debug__" : Str))=false:=by decide):DE X (.Name x pos) (fC (.str i)):=by
 refine⟨?_⟩;obtain⟨t,hm⟩:=hm;exact pe_imp (iB (v:=.str i) hg hm ⟨t,rfl⟩ hd) (iF fun _ _=>.str i)
end
def op1(g:Mo->Option Mo)(T:Tp)(w:W):Option (W×Tp):=match view T w with
 |some x=>match g x with
  |some d=>some (.d d,T)
  |none=>none
 |none=>none
def op2(g:Mo->Mo->Option Mo)(T:Tp)(w1 w2:W):Option (W×Tp):=match view T w1,view T w2 with
 |some x,some y=>match g x y with
  |some d=>some (.d d,T)
  |none=>none
 |_,_=>none
theorem jj(e:op1 g T w1=some (w,T')):∃x d,view T w1=some x/\g x=some d/\w=.d d/\T'=T:=by
 unfold op1 at e;split at e
 .rename_i x h1
  split at e
  .rename_i d h3
   cases e;exact⟨x,d,h1,h3,rfl,rfl⟩
  .cases e
 .cases e
theorem ji(e:op2 g T w1 w2=some (w,T')):∃x y d,view T w1=some x/\view T w2=some y/\g x y=some d/\w=.d d/\T'=T:=by
 unfold op2 at e;split at e
 .rename_i x y h1 h2
  split at e
  .rename_i d h3
   cases e;exact⟨x,y,d,h1,h2,h3,rfl,rfl⟩
  .cases e
 .cases e
def af(g:Mo->Mo->Option Mo)(fa fb:FE):FE:=fun ρ T=>bnd (fa ρ T) fun w1 T1=>bnd (fb ρ T1) fun w2 T2=>op2 g T2 w1 w2
def fUn(g:Mo->Option Mo)(fa:FE):FE:=fun ρ T=>bnd (fa ρ T) fun w1 T1=>op1 g T1 w1
def h9(K:Frag)(r:R2)(g:Mo->Mo->Option Mo):Prop:=∀(O:Addr->Prop) (ts:List Addr) (H:Hp) (T:Tp) (v1 v2:V) (x y d:Mo) (Q:VK),HC K O ts H T->Vw K O H v1 x->Vw K O H v2 y->g x y=some d ->
 (∀v H',SameX ts H H'->HC K O ts H' T->Rep K O H' v d->Q v H')->r v1 v2 H Q
def Ic(K:Frag)(r:V->Hp->VK->Prop)(g:Mo->Option Mo):Prop:=∀(O:Addr->Prop) (ts:List Addr) (H:Hp) (T:Tp) (v1:V) (x d:Mo) (Q:VK),HC K O ts H T->Vw K O H v1 x->g x=some d ->
 (∀v H',SameX ts H H'->HC K O ts H' T->Rep K O H' v d->Q v H')->r v1 H Q
def OpD(X:Cx)(f:Mp->Mp->Sem Mp)(g:Mo->Mo->Option Mo):Prop:=∃r,OpR X f r/\h9 X.K r g
def IxD(X:Cx)(g:Mo->Mo->Option Mo):Prop:=∃r,IxR X r/\h9 X.K r g
theorem jY{K:Frag}{r:R2}{g:Mo->Mo->Option Mo}{fa fb:FE}(snd:h9 K r g){σ:L2.St}{H:Hp}{Q:VK}(h:lift K (af g fa fb) σ H Q):tOp r (lift K fa) (lift K fb) σ H Q:=by
 obtain⟨O,ts,ρ,T,w,T',hc,re,e,q⟩:=h;obtain⟨w1,T1,e1,e⟩:=aO e;obtain⟨w2,T2,e2,e⟩:=aO e;obtain⟨x,y,d,h1,h2,h3,rfl,rfl⟩:=ji e;refine⟨O,ts,ρ,T,w1,T1,hc,re,e1,fun v1 H1 s1 hc1 r1=>?_⟩;refine⟨O,ts,ρ,T1,w2,T',hc1,re.mono hc s1,e2,fun v2 H2 s2 hc2 r2=>?_⟩;exact snd O ts H2 T' v1 v2 x y d Q hc2 (hc2.view (r1.mono hc1 s2) h1) (hc2.view r2 h2) h3 fun v H' s3 hc3 r3=>q v H' (s1.trans (s2.trans s3)) hc3 r3
noncomputable def asB:W->Option Bool
 |.d (.bool b)=>some b
 |_=>none
theorem ki(h:asB w=some b):w=.d (.bool b):=by
 unfold asB at h;split at h
 .cases h;rfl
 .cases h
def ar(f:FE):FT:=fun ρ T=>bnd (f ρ T) fun w T1=>match asB w with
 |some b=>some (b,T1)
 |none=>none
theorem oS{K:Frag}{f:FE}{σ:L2.St}{H:Hp}{Q:Bool->Hp->Prop}(h:liftT K (ar f) σ H Q):lift K f σ H fun x H'=>∃k,x=.bl k/\Q k H':=by
 obtain⟨O,ts,ρ,T,w,T',hc,re,e,q⟩:=h;obtain⟨w1,T1,e1,e⟩:=aO e;refine⟨O,ts,ρ,T,w1,T1,hc,re,e1,fun v1 H1 s1 hc1 r1=>?_⟩;split at e
 .rename_i b hb
  cases e;have hw:=ki hb;subst hw;cases (show Rep K O H1 v1 _ from r1);exact⟨_,rfl,q H1 s1 hc1⟩
 .cases e
section
variable {X:Cx}{pos:Pos}{a b c:Expr}{fa fb fc:FE}{g g':Mo->Mo->Option Mo}
theorem aQ(ho:OpD X (N9 op) g)(ha:DE X a fa)(hb:DE X b fb):DE X (.BinOp a op b pos) (af g fa fb):=by
 refine⟨?_⟩;obtain⟨r,hr,snd⟩:=ho;exact pe_imp (Gz hr ha.pe hb.pe) fun σ H Q=>jY snd
theorem bM(ho:OpD X (M7 op) g)(ha:DE X a fa)(hb:DE X b fb)(hm:OS op b=false:=by first|exact pU _|with_unfolding_all rfl):DE X (.Compare a [op] [b] pos) (af g fa fb):=by
 refine⟨?_⟩;obtain⟨r,hr,snd⟩:=ho;exact pe_imp (C9 hr ha.pe hb.pe hm) fun σ H Q=>jY snd
theorem aH(ho:OpD X (M7 op) g)(ha:DE X a fa)(hb:DE X b fb)(hm:OS op b=false:=by first|exact pU _|with_unfolding_all rfl):DT X (.Compare a [op] [b] pos) (ar (af g fa fb)):=by
 refine⟨?_⟩;obtain⟨r,hr,snd⟩:=ho;exact ms (CW hr ha.pe hb.pe hm) fun σ H Q h=>jY snd (oS h)
theorem aA(ho:IxD X g)(ha:DE X a fa)(hb:DE X b fb)(hs:me b:=by exact fun _ _=>rfl):DE X (.Subscript a b pos) (af g fa fb):=by
 refine⟨?_⟩;obtain⟨r,hr,snd⟩:=ho;exact pe_imp (qk hr ha.pe hb.pe hs) fun σ H Q=>jY snd
def mH(g g':Mo->Mo->Option Mo)(fa fb fc:FE):FE:=fun ρ T=>bnd (fa ρ T) fun w1 T1=>bnd (fb ρ T1) fun w2 T2=>bnd (op2 g T2 w1 w2) fun w T3=>match asB w with
 |some b=>if b=true then bnd (fc ρ T3) fun w3 T4=>op2 g' T4 w2 w3 else some (.d (.bool false),T3)
 |none=>none
theorem AV{K:Frag}{r r':R2}(snd:h9 K r g)(snd':h9 K r' g'){σ:L2.St}{H:Hp}{Q:VK}(h:lift K (mH g g' fa fb fc) σ H Q):vn r r' (lift K fa) (lift K fb) (lift K fc) σ H Q:=by
 obtain⟨O,ts,ρ,T,w,T',hc,re,e,q⟩:=h;obtain⟨w1,T1,e1,e⟩:=aO e;obtain⟨w2,T2,e2,e⟩:=aO e;obtain⟨wz,T3,e3,ez⟩:=aO e;obtain⟨x,y,d,h1,h2,h3,rfl,rfl⟩:=ji e3;clear e;refine⟨O,ts,ρ,T,w1,T1,hc,re,e1,fun v1 H1 s1 hc1 r1=>?_⟩;refine⟨O,ts,ρ,T1,w2,T3,hc1,re.mono hc s1,e2,fun v2 H2 s2 hc2 r2=>?_⟩;refine snd O ts H2 T3 v1 v2 x y d _ hc2 (hc2.view (r1.mono hc1 s2) h1) (hc2.view r2 h2) h3 fun v H3 s3 hc3 r3=>?_;split at ez
 .rename_i b hb
  have hd:=ki hb
  injection hd with hd
  subst hd;cases r3
  cases b with
  |true=>
   rw[if_pos rfl] at ez;refine⟨true,rfl,dG ?_⟩;obtain⟨w3,T4,e4,e5⟩:=aO ez;obtain⟨x',y',d',h1',h2',h3',rfl,rfl⟩:=ji e5;refine⟨O,ts,ρ,T3,w3,T',hc3,(re.mono hc (s1.trans (s2.trans s3))),e4,fun v3 H4 s4 hc4 r4=>?_⟩;exact snd' O ts H4 T' v2 v3 x' y' d' Q hc4 (hc4.view (r2.mono hc2 (s3.trans s4)) h1') (hc4.view r4 h2') h3' fun v H' s5 hc5 r5=>q v H' (s1.trans (s2.trans (s3.trans (s4.trans s5)))) hc5 r5
  |false=>
   rw[if_neg MF] at ez;cases ez;exact⟨false,rfl,dW (q _ H3 (s1.trans (s2.trans s3)) hc3 (.bl false))⟩
 .cases ez
theorem B3(ho:OpD X (M7 op) g)(ho':OpD X (M7 op') g')(ha:DE X a fa)(hb:DE X b fb)(hc:DE X c fc)
  (hm:lastMarks [op,op'] [b,c]=false:=by with_unfolding_all rfl):DT X (.Compare a [op,op'] [b,c] pos) (ar (mH g g' fa fb fc)):=by
 refine⟨?_⟩;obtain⟨r,hr,snd⟩:=ho;obtain⟨r',hr',snd'⟩:=ho';exact ms (Bo hr hr' ha.pe hb.pe hc.pe hm) fun σ H Q h=>AV snd snd' (oS h)
def m6:Mo->Option Bool
 |.none=>some false
 |.bool b=>some b
 |.int i=>some (i != 0)
 |.str y=>if y.length<=Mz then some ((y.length:Int) != 0) else none
 |.list xs=>some (!xs.isEmpty)
 |.tuple xs=>some (!xs.isEmpty)
 |.dict _=>none
def m7(T:Tp)(w:W):Option (Bool×Tp):=match view T w with
 |some x=>match m6 x with
  |some b=>some (b,T)
  |none=>none
 |none=>none
def aU(f:FE):FT:=fun ρ T=>bnd (f ρ T) fun w T1=>m7 T1 w
theorem rE{K:Frag}{O:Addr->Prop}{H:Hp}{vs:List V}{ds:List Mo}(r:Reps K O H vs ds):vs.isEmpty=ds.isEmpty:=by cases r <;> rfl
theorem El{K:Frag}{O:Addr->Prop}{H:Hp}{v:V}{x:Mo}{b:Bool}(h:Vw K O H v x)(e:m6 x=some b):qO K v H b:=by
 cases x with
 |none=>cases h.non;cases e;rfl
 |bool c=>cases h.bl;cases e;rfl
 |int i=>cases h.int;cases e;rfl
 |str y=>
  cases h.str;have e':(if y.length<=Mz then some ((y.length:Int) != 0) else none)=some b:=e;split at e'
  .rename_i hl
   cases e';exact⟨hl,rfl⟩
  .cases e'
 |list xs=>
  obtain⟨a,vs,rfl,h1,h2⟩:=h.lst;cases e;exact .inl ⟨vs,h1,by rw[rE h2]⟩
 |tuple xs=>
  obtain⟨a,vs,rfl,h1,h2⟩:=h.tup;cases e;exact .inr (.inl ⟨vs,h1.sq,by rw[rE h2]⟩)
 |dict kvs=>
  cases e
theorem a9(ha:DE X a fa)(he:∀whole,Uw a X.env whole=(do let v ←whole;Us a.pos;Rh [v] (truthy v)):=by intro _;rfl):DT X a (aU fa):=by
 refine⟨?_⟩;refine ms (Bn ha.pe he) fun σ H Q=>?_;rintro⟨O,ts,ρ,T,b,T',hc,re,e,q⟩;obtain⟨w1,T1,e1,e⟩:=aO e;refine⟨O,ts,ρ,T,w1,T1,hc,re,e1,fun v1 H1 s1 hc1 r1=>?_⟩;unfold m7 at e;split at e
 .rename_i x h1
  split at e
  .rename_i k h2
   cases e;exact⟨b,El (hc1.view r1 h1) h2,q H1 s1 hc1⟩
  .cases e
 .cases e
def bD(f g:FT):FT:=fun ρ T=>bnd (f ρ T) fun b T1=>if b=true then g ρ T1 else some (false,T1)
def bB(f g:FT):FT:=fun ρ T=>bnd (f ρ T) fun b T1=>if b=true then some (true,T1) else g ρ T1
def bG(f:FT):FT:=fun ρ T=>bnd (f ρ T) fun b T1=>some (!b,T1)
variable {ta tb:FT}{rest:List Expr}
theorem bE(h:DW X a f):DT X a f:=⟨PW.pt h.pe⟩
theorem cY(ha:DT X a ta):DW X (.BoolOp .And [a] pos) ta:=⟨CP ha.pe⟩
theorem dh(ha:DT X a ta):DW X (.BoolOp .Or [a] pos) ta:=⟨EE ha.pe⟩
theorem cE(ha:DT X a ta)(hb:DW X (.BoolOp .And (b::rest) pos) tb):DW X (.BoolOp .And (a::b::rest) pos) (bD ta tb):=by
 refine⟨?_⟩;refine vz (EF ha.pe hb.pe) fun σ H Q=>?_;rintro⟨O,ts,ρ,T,b,T',hc,re,e,q⟩;obtain⟨b1,T1,e1,e⟩:=aO e;refine⟨O,ts,ρ,T,b1,T1,hc,re,e1,fun H1 s1 hc1=>?_⟩
 cases b1 with
 |true=>exact dG ⟨O,ts,ρ,T1,b,T',hc1,re.mono hc s1,by simpa using e,fun H2 s2 hc2=>q H2 (s1.trans s2) hc2⟩
 |false=>
  have e':some (false,T1)=some (b,T'):=by simpa using e
  cases e';exact dW (q H1 s1 hc1)
theorem cA(ha:DT X a ta)(hb:DW X (.BoolOp .Or (b::rest) pos) tb):DW X (.BoolOp .Or (a::b::rest) pos) (bB ta tb):=by
 refine⟨?_⟩;refine vz (Gu ha.pe hb.pe) fun σ H Q=>?_;rintro⟨O,ts,ρ,T,b,T',hc,re,e,q⟩;obtain⟨b1,T1,e1,e⟩:=aO e;refine⟨O,ts,ρ,T,b1,T1,hc,re,e1,fun H1 s1 hc1=>?_⟩
 cases b1 with
 |false=>exact dW ⟨O,ts,ρ,T1,b,T',hc1,re.mono hc s1,by simpa using e,fun H2 s2 hc2=>q H2 (s1.trans s2) hc2⟩
 |true=>
  have e':some (true,T1)=some (b,T'):=by simpa using e
  cases e';exact dG (q H1 s1 hc1)
theorem cN(ha:DT X a ta):DT X (.UnaryOp .Not a pos) (bG ta):=by
 refine⟨?_⟩;refine ms (EG ha.pe) fun σ H Q=>?_;rintro⟨O,ts,ρ,T,b,T',hc,re,e,q⟩;obtain⟨b1,T1,e1,e⟩:=aO e;cases e;exact⟨O,ts,ρ,T,b1,T',hc,re,e1,fun H1 s1 hc1=>q H1 s1 hc1⟩
def cP(f g:FE):FE:=fun ρ T=>bnd (f ρ T) fun w T1=>match asB w with
 |some b=>if b=true then g ρ T1 else some (.d (.bool false),T1)
 |none=>none
def qK(f g:FE):FE:=fun ρ T=>bnd (f ρ T) fun w T1=>match asB w with
 |some b=>if b=true then some (.d (.bool true),T1) else g ρ T1
 |none=>none
def kF(f:FE):FE:=fun ρ T=>bnd (f ρ T) fun w T1=>match asB w with
 |some b=>some (.d (.bool (!b)),T1)
 |none=>none
theorem dz{op}(h:DE X a fa):DE X (.BoolOp op [a] pos) fa:=⟨pT h.pe⟩
theorem dm(ha:DE X a fa)(hb:DE X (.BoolOp .And (b::rest) pos) fb):DE X (.BoolOp .And (a::b::rest) pos) (cP fa fb):=by
 refine⟨?_⟩;refine pe_imp (vH ha.pe hb.pe) fun σ H Q=>?_;rintro⟨O,ts,ρ,T,w,T',hc,re,e,q⟩;obtain⟨w1,T1,e1,e⟩:=aO e;refine⟨O,ts,ρ,T,w1,T1,hc,re,e1,fun v1 H1 s1 hc1 r1=>?_⟩;split at e
 .rename_i b hb
  have hw:=ki hb;subst hw;cases (show Rep X.K O H1 v1 _ from r1)
  cases b with
  |true=>exact⟨_,rfl,dG ⟨O,ts,ρ,T1,w,T',hc1,re.mono hc s1,by simpa using e,fun v H2 s2 hc2 r2=>q v H2 (s1.trans s2) hc2 r2⟩⟩
  |false=>
   rw[if_neg MF] at e;cases e;exact⟨_,rfl,dW (q _ H1 s1 hc1 (.bl false))⟩
 .cases e
theorem Hd(ha:DE X a fa)(hb:DE X (.BoolOp .Or (b::rest) pos) fb):DE X (.BoolOp .Or (a::b::rest) pos) (qK fa fb):=by
 refine⟨?_⟩;refine pe_imp (wx ha.pe hb.pe) fun σ H Q=>?_;rintro⟨O,ts,ρ,T,w,T',hc,re,e,q⟩;obtain⟨w1,T1,e1,e⟩:=aO e;refine⟨O,ts,ρ,T,w1,T1,hc,re,e1,fun v1 H1 s1 hc1 r1=>?_⟩;split at e
 .rename_i b hb
  have hw:=ki hb;subst hw;cases (show Rep X.K O H1 v1 _ from r1)
  cases b with
  |false=>exact⟨_,rfl,dW ⟨O,ts,ρ,T1,w,T',hc1,re.mono hc s1,by simpa using e,fun v H2 s2 hc2 r2=>q v H2 (s1.trans s2) hc2 r2⟩⟩
  |true=>
   rw[if_pos rfl] at e;cases e;exact⟨_,rfl,dG (q _ H1 s1 hc1 (.bl true))⟩
 .cases e
theorem qa(ha:DE X a fa):DE X (.UnaryOp .Not a pos) (kF fa):=by
 refine⟨?_⟩;refine pe_imp (vD ha.pe) fun σ H Q=>?_;rintro⟨O,ts,ρ,T,w,T',hc,re,e,q⟩;obtain⟨w1,T1,e1,e⟩:=aO e;refine⟨O,ts,ρ,T,w1,T1,hc,re,e1,fun v1 H1 s1 hc1 r1=>?_⟩;split at e
 .rename_i b hb
  have hw:=ki hb;subst hw;cases (show Rep X.K O H1 v1 _ from r1);cases e;exact⟨_,rfl,q _ H1 s1 hc1 (.bl _)⟩
 .cases e
def cV(c:FT)(f g:FE):FE:=fun ρ T=>bnd (c ρ T) fun b T1=>if b=true then f ρ T1 else g ρ T1
theorem fJ(hc:DT X c ta)(ha:DE X a fa)(hb:DE X b fb):DE X (.IfExp c a b pos) (cV ta fa fb):=by
 refine⟨?_⟩;refine pe_imp (Bv hc.pe ha.pe hb.pe) fun σ H Q=>?_;rintro⟨O,ts,ρ,T,w,T',hc,re,e,q⟩;obtain⟨b1,T1,e1,e⟩:=aO e;refine⟨O,ts,ρ,T,b1,T1,hc,re,e1,fun H1 s1 hc1=>?_⟩
 cases b1 with
 |true=>exact dG ⟨O,ts,ρ,T1,w,T',hc1,re.mono hc s1,by simpa using e,fun v H2 s2 hc2 r2=>q v H2 (s1.trans s2) hc2 r2⟩
 |false=>exact dW ⟨O,ts,ρ,T1,w,T',hc1,re.mono hc s1,by simpa using e,fun v H2 s2 hc2 r2=>q v H2 (s1.trans s2) hc2 r2⟩
theorem Hc(hr:UnR X (unaryOp op) r)(snd:Ic X.K r g1)(ha:DE X a fa):DE X (.UnaryOp op a pos) (fUn g1 fa):=by
 refine⟨?_⟩;refine pe_imp (Gy hr ha.pe) fun σ H Q=>?_;rintro⟨O,ts,ρ,T,w,T',hc,re,e,q⟩;obtain⟨w1,T1,e1,e⟩:=aO e;obtain⟨x,d,h1,h3,rfl,rfl⟩:=jj e;refine⟨O,ts,ρ,T,w1,T',hc,re,e1,fun v1 H1 s1 hc1 r1=>?_⟩;exact snd O ts H1 T' v1 x d Q hc1 (hc1.view r1 h1) h3 fun v H' s3 hc3 r3=>q v H' (s1.trans s3) hc3 r3
end
def ai:FA:=fun _ T=>some ([],T)
def ae(f:FE)(g:FA):FA:=fun ρ T=>bnd (f ρ T) fun w T1=>bnd (g ρ T1) fun ws T2=>some (w::ws,T2)
def dQ:List W->Option (List Mo)
 |[]=>some []
 |.d x::r=>match dQ r with
  |some xs=>some (x::xs)
  |none=>none
 |_::_=>none
theorem jP{K:Frag}{O:Addr->Prop}{ts:List Addr}{H:Hp}:∀{vs:List V}{ws:List W}{xs:List Mo},fL K O ts H vs ws->dQ ws=some xs->Reps K O H vs xs
 |_,[],_,.nil,e=>by cases e;exact .nil
 |_,.d x::r,xs,.cons h t,e=>by
  unfold dQ at e;split at e
  .rename_i ys h2
   cases e;exact .cons h (jP t h2)
  .cases e
 |_,.tp _::_,_,.cons _ _,e=>by cases e
 |_,.loc _::_,_,.cons _ _,e=>by cases e
def aE(mk:List Mo->Mo)(f:FA):FE:=fun ρ T=>bnd (f ρ T) fun ws T1=>match dQ ws with
 |some xs=>if xs.length<=1000 then some (.d (mk xs),T1) else none
 |none=>none
theorem l7(h:n<=1000):n<=sizeLine:=MP h (by decide)
def ej(X:Cx)(f:Mp)(g:List Mo->Option Mo):Prop:=∃r,CallR X f r/\∀(O:Addr->Prop) (ts:List Addr) (H:Hp) (T:Tp) (vs:List V) (xs:List Mo) (d:Mo) (Q:VK),HC X.K O ts H T->Vws X.K O H vs xs->g xs=some d ->
 (∀v H',SameX ts H H'->HC X.K O ts H' T->Rep X.K O H' v d->Q v H')->r vs H Q
def fCB(g:List Mo->Option Mo)(f:FA):FE:=fun ρ T=>bnd (f ρ T) fun ws T1=>match views T1 ws with
 |some xs=>match g xs with
  |some d=>some (.d d,T1)
  |none=>none
 |none=>none
section
variable {X:Cx}{pos p:Pos}{e:Expr}{es:List Expr}{f:FE}{g:FA}
theorem aj:DA X [] ai:=by
 refine⟨?_⟩;refine vI bJ fun σ H Q=>?_;rintro⟨O,ts,ρ,T,w,T',hc,re,e,q⟩;cases e;exact q [] H (.refl _ _) hc .nil
theorem ah(ha:DE X e f)(hr:DA X es g)(hs:Mw (e::es) X.env=(false,eval e X.env)::Mw es X.env:=by exact bR rfl):DA X (e::es) (ae f g):=by
 refine⟨?_⟩;refine vI (bj ha.pe hr.pe hs) fun σ H Q=>?_;rintro⟨O,ts,ρ,T,w,T',hc,re,e,q⟩;obtain⟨w1,T1,e1,e⟩:=aO e;obtain⟨ws,T2,e2,e⟩:=aO e;cases e;refine⟨O,ts,ρ,T,w1,T1,hc,re,e1,fun v1 H1 s1 hc1 r1=>?_⟩;exact⟨O,ts,ρ,T1,ws,_,hc1,re.mono hc s1,e2,fun vs H2 s2 hc2 r2=>q _ H2 (s1.trans s2) hc2 (.cons (r1.mono hc1 s2) r2)⟩
theorem uE(e:aE mk g ρ T=some (w,T')):∃ws xs,g ρ T=some (ws,T')/\dQ ws=some xs/\xs.length<=1000/\w=.d (mk xs):=by
 obtain⟨ws,T1,e1,e⟩:=aO e;split at e
 .rename_i xs h1
  split at e
  .rename_i h2
   cases e;exact⟨ws,xs,e1,h1,h2,rfl⟩
  .cases e
 .cases e
theorem a6{x1}(h:DA X es g):DE X (.Tuple es x1 pos) (aE .tuple g):=by
 refine⟨?_⟩;refine pe_imp (pS h.pe) fun σ H Q=>?_;rintro⟨O,ts,ρ,T,w,T',hc,re,e,q⟩;obtain⟨ws,xs,e1,h1,h2,rfl⟩:=uE e;refine⟨O,ts,ρ,T,ws,T',hc,re,e1,fun vs H1 s1 hc1 r1=>?_⟩;have rs:=jP r1 h1;refine⟨l7 (by rw[rs.length];exact h2),fun p hp=>?_⟩;exact q _ _ (s1.trans (.new hp _)) (hc1.new hp _) (hc1.newT hp rs)
theorem cf(h:DA X es g):DE X (.List es pos) (aE .list g):=by
 refine⟨?_⟩;refine pe_imp (gQ h.pe) fun σ H Q=>?_;rintro⟨O,ts,ρ,T,w,T',hc,re,e,q⟩;obtain⟨ws,xs,e1,h1,h2,rfl⟩:=uE e;refine⟨O,ts,ρ,T,ws,T',hc,re,e1,fun vs H1 s1 hc1 r1=>?_⟩;have rs:=jP r1 h1;refine⟨l7 (by rw[rs.length];exact h2),fun p hp=>?_⟩;exact q _ _ (s1.trans (.new hp _)) (hc1.new hp _) (hc1.newL hp rs)
theorem v6{K:Frag}{r:List V->Hp->VK->Prop}{gg:List Mo->Option Mo}(snd:∀(O:Addr->Prop) (ts:List Addr) (H:Hp) (T:Tp) (vs:List V) (xs:List Mo) (d:Mo) (Q:VK),HC K O ts H T->Vws K O H vs xs->gg xs=some d ->
  (∀v H',SameX ts H H'->HC K O ts H' T->Rep K O H' v d->Q v H')->r vs H Q) {σ:L2.St}{H:Hp}{Q:VK} (h:lift K (fCB gg g) σ H Q):tCB r (wG K g) σ H Q:=by
 obtain⟨O,ts,ρ,T,w,T',hc,re,e,q⟩:=h;obtain⟨ws,T1,e1,e⟩:=aO e;refine⟨O,ts,ρ,T,ws,T1,hc,re,e1,fun vs H1 s1 hc1 r1=>?_⟩;split at e
 .rename_i xs h1
  split at e
  .rename_i d h2
   cases e;exact snd O ts H1 T' vs xs d Q hc1 (hc1.views r1 h1) h2 fun v H' s3 hc3 r3=>q v H' (s1.trans s3) hc3 r3
  .cases e
 .cases e
theorem bh{x:Str}{id:String}{gg:List Mo->Option Mo}(hc:ej X (.builtin id) gg)(hg:Gl X x)(hm:X.mg x=none)(hv:OA x=some (.builtin id))(ha:DA X (e::es) g)(hn:x≠"__name__":=by decide)(hdb:(x == ("__debug__" : Str))=false:=by decide)
  (he:Mw (e::es) X.env=(false,eval e X.env)::Mw es X.env:=by exact bR rfl) (hpl:(Nv pos (Mw es X.env)).any (·.1)=false:=by exact cL rfl):DE X (.Call (.Name x p) (e::es) [] pos) (fCB gg g):=by
 refine⟨?_⟩;obtain⟨r,hr,snd⟩:=hc;exact pe_imp (gK hr hg hm hv ha.pe hn hdb he hpl) fun σ H Q h=>v6 snd h
theorem bP{x:Str}{id:String}{gg:List Mo->Option Mo}(hc:ej X (.type id) gg)(hg:Gl X x)(hm:X.mg x=none)(hv:OA x=some (.type id))(ha:DA X (e::es) g)(hn:x≠"__name__":=by decide)(hdb:(x == ("__debug__" : Str))=false:=by decide)
  (he:Mw (e::es) X.env=(false,eval e X.env)::Mw es X.env:=by exact bR rfl) (hpl:(Nv pos (Mw es X.env)).any (·.1)=false:=by exact cL rfl):DE X (.Call (.Name x p) (e::es) [] pos) (fCB gg g):=by
 refine⟨?_⟩;obtain⟨r,hr,snd⟩:=hc;exact pe_imp (lq hr hg hm hv ha.pe hn hdb he hpl) fun σ H Q h=>v6 snd h
end
abbrev FI:=Rho->Tp->Option (List Mo×Tp)
def HS(K:Frag)(tl:TE):TI:=fun σ H R=>tl σ H fun x H1=>(∃a xs,x=.ref a/\SqL K H1 a xs/\(xs.length<=Mz->R (Itl K a) H1))\/(∃a xs,x=.ref a/\SqT K H1 a xs/\(xs.length<=Mz->R (Itt K a) H1))\/(∃z,x=.str z/\R (Its z) H1)\/∃a o kvs,x=.ref a/\H1 a=some (.frz o (.dK kvs))/\(kvs.length<=Mz->R (Itd a o kvs) H1)
theorem EK(hl:PE X l tl):PI X tg l (HS X.K tl):=by
 intro pins s σ H R I h;refine thn (hl pins s σ H _ I h) fun v s1 ⟨x,H1,I1,r1,q1⟩=>?_
 have fk:∀b∈[s1.heap.objs.size],dX X pins H1 b:=fun b hb=>by
  have e:b=s1.heap.objs.size:=by simpa using hb
  subst e;exact I1.fpOk (MC _) (I1.hok.fresh (MC _))
 rcases q1 with⟨a,xs,e,hq,q⟩|⟨a,xs,e,hq,q⟩|⟨z,e,q⟩|⟨a,o,kvs,e,hq,q⟩
 .subst e
  cases r1;obtain⟨its,rv,p,hz⟩:=I1.list hq;refine Pq p.isList ?_;exact⟨s1.heap.objs.size,[s1.heap.objs.size],_,_,H1,rfl,I1.kept (t':=s1.toks) fun b o e=>Mt _ e,rX a _,⟨_,MZ _ rfl,rfl,rfl⟩,fk,q hz⟩
 .subst e
  cases r1;obtain⟨its,rv,p,hz⟩:=I1.tuple hq;refine wpAny_pyIter_tuple (show s1.heap.IsTuple a its.toArray from p) ?_;exact⟨s1.heap.objs.size,[s1.heap.objs.size],_,_,H1,rfl,I1.kept (t':=s1.toks) fun b o e=>Mt _ e,zC a _,⟨_,MZ _ rfl,rfl,rfl⟩,fk,q hz⟩
 .subst e
  obtain⟨t,rfl⟩:=r1
  cases ha:z.cps.all (· < 128) with
  |false=>
   refine wpAny_pyIter_wide ha ?_;exact⟨s1.heap.objs.size,[s1.heap.objs.size],_,_,H1,rfl,I1.kept (t':=s1.toks) fun b o e=>Mt _ e,tj z t "str_iterator" _ (.inr rfl),⟨_,MZ _ rfl,rfl,rfl⟩,fk,q⟩
  |true=>
   refine wpAny_pyIter_ascii ha ?_;exact⟨s1.heap.objs.size,[s1.heap.objs.size],_,_,H1,rfl,I1.kept (t':=s1.toks) fun b o e=>Mt _ e,tj z t "str_ascii_iterator" _ (.inl rfl),⟨_,MZ _ rfl,rfl,rfl⟩,fk,q⟩
 .subst e
  cases r1;obtain⟨z,y,vs,kv,dd⟩:=oh I1.hok hq;refine wpAny_pyIter_dict y dd ?_;exact⟨s1.heap.objs.size,[s1.heap.objs.size],_,_,H1,rfl,I1.kept (t':=s1.toks) fun b o e=>Mt _ e,Aa a _ o kvs,⟨_,MZ _ rfl,rfl,by rw[kv.length];rfl⟩,fk,q z⟩
def ItOk(K:Frag)(O:Addr->Prop)(H1:Hp)(J:It)(ds:List Mo):Prop:=∀O' H',Le O H1 O' H'->(∀i,i<ds.length->J.go i H')/\J.stop ds.length H'/\∀i v H'',J.yld i H' v H''->i<ds.length->H''=H'/\∃d,ds[i]? = some d/\Rep K O' H' v d
inductive LiftIP(K:Frag)(f:FI)(σ:L2.St)(H:Hp)(R:It->Hp->Prop):Prop where
 |mk (O:Addr->Prop) (ts:List Addr) (ρ:Rho) (T:Tp) (ds:List Mo) (T':Tp) (hc:HC K O ts H T) (re:RelE K O ts H σ ρ) (e:f ρ T=some (ds,T')) (q:∀J H1,SameX ts H H1->HC K O ts H1 T'->ItOk K O H1 J ds->ds.length<=Mz->R J H1):LiftIP K f σ H R
def jt(K:Frag)(f:FI):TI:=fun σ H R=>LiftIP K f σ H R
structure DI(X:Cx)(tg e:Expr)(f:FI):Prop where
 pe:PI X tg e (jt X.K f)
theorem vC(h:PI X tg e t)(i:∀σ H Q,t' σ H Q->t σ H Q):PI X tg e t':=fun pins s σ H Q I q=>h pins s σ H Q I (i σ H Q q)
def signs(z:Str):List PyData:=z.cps.toList.map fun c=>.str ⟨#[c]⟩
def iH:Mo->Option (List Mo)
 |.list xs=>some xs
 |.tuple xs=>some xs
 |.str z=>if z.length<=Mz then some (signs z) else none
 |.dict ds=>some (ds.map (·.1))
 |_=>none
def aX(f:FE):FI:=fun ρ T=>bnd (f ρ T) fun w T1=>match w with
 |.d x=>match iH x with
  |some xs=>some (xs,T1)
  |none=>none
 |_=>none
theorem ItOk.lst{K:Frag}{O:Addr->Prop}{H1:Hp}{a:Addr}{vs:List V}{ds:List Mo}(h:LstAt K O H1 a vs)(r:Reps K O H1 vs ds):ItOk K O H1 (Itl K a) ds:=fun O' H' le=>by
 have sq:=(h.mono le).sq;have hl:=r.length;refine⟨fun i hi=>⟨vs,vs[i]'(by omega),sq,by simp⟩,⟨vs,sq,by omega⟩,fun i v H'' y hi=>?_⟩;obtain⟨e,y⟩:=y;obtain⟨d,h1,h2⟩:=r.get (y vs sq);exact⟨e,d,h1,h2.mono le⟩
theorem ItOk.tup{K:Frag}{O:Addr->Prop}{H1:Hp}{a:Addr}{vs:List V}{ds:List Mo}(h:TupAt K O H1 a vs)(r:Reps K O H1 vs ds):ItOk K O H1 (Itt K a) ds:=fun O' H' le=>by
 have sq:=(h.mono le).sq;have hl:=r.length;refine⟨fun i hi=>⟨vs,vs[i]'(by omega),sq,by simp⟩,⟨vs,sq,by omega⟩,fun i v H'' y hi=>?_⟩;obtain⟨e,y⟩:=y;obtain⟨d,h1,h2⟩:=r.get (y vs sq);exact⟨e,d,h1,h2.mono le⟩
theorem ItOk.str{K:Frag}{O:Addr->Prop}{H1:Hp}{z:Str}:ItOk K O H1 (Its z) (signs z):=fun O' H' le=>by
 have hl:(signs z).length=z.cps.size:=by simp[signs]
 refine⟨fun i hi=>by rw[hl] at hi;exact hi,by rw[hl];exact MC _,fun i v H'' y hi=>?_⟩;obtain⟨e,c,hc,y⟩:=y;subst y;refine⟨e,.str ⟨#[c]⟩,?_,.str _⟩;unfold signs;rw[Nq]
 have:z.cps.toList[i]? = some c:=by simpa using hc
 rw[this];rfl
theorem nY{K:Frag}{O:Addr->Prop}{H:Hp}:∀{kvs:List (Key×V)}{ds:List (Mo×Mo)},RepK K O H kvs ds->kvs.length=ds.length
 |_,_,.nil=>rfl
 |_,_,.cons _ t=>congrArg (· + 1) (nY t)
theorem tN{K:Frag}{O:Addr->Prop}{H:Hp}:∀{kvs:List (Key×V)}{ds:List (Mo×Mo)}{i:Nat}{k:Key}{v:V},RepK K O H kvs ds->kvs[i]? = some (k,v)->(ds.map (·.1))[i]? = some (kS k)
 |_,_,_,_,_,.nil,e=>by simp at e
 |_,_,0,_,_,.cons r _,e=>by simp at e;obtain⟨rfl,rfl⟩:=e;rfl
 |_,_,i+1,k,v,.cons _ t,e=>by
  have:=tN (i:=i) t (by simpa using e);simpa using this
theorem uI{K:Frag}{O:Addr->Prop}{H:Hp}(k:Key):Rep K O H (kV k) (kS k):=by
 cases k with
 |inl i=>exact .int i
 |inr x=>exact .str x
theorem ItOk.dct{K:Frag}{O:Addr->Prop}{H1:Hp}{a:Addr}{o:Obj}{kvs:List (Key×V)}{ds:List (Mo×Mo)}(n:¬O a)(h:H1 a=some (.frz o (.dK kvs)))(r:RepK K O H1 kvs ds):ItOk K O H1 (Itd a o kvs) (ds.map (·.1)):=fun O' H' le=>by
 have h':=(le a _ n h).2;have hl:=nY r;refine⟨fun i hi=>⟨h',by simp at hi;omega⟩,⟨h',by simp[hl]⟩,fun i v H'' y hi=>?_⟩;obtain⟨e,k,v0,y1,y2⟩:=y;subst y2;exact⟨e,_,tN r y1,uI k⟩
theorem bI(h:DE X e f):DI X tg e (aX f):=by
 refine⟨?_⟩;refine vC (EK h.pe) fun σ H R=>?_;rintro⟨O,ts,ρ,T,ds,T',hc,re,e,q⟩;obtain⟨w1,T1,e1,e⟩:=aO e;refine⟨O,ts,ρ,T,w1,T1,hc,re,e1,fun v1 H1 s1 hc1 r1=>?_⟩;split at e
 .rename_i x
  split at e
  .rename_i xs h1
   cases e;have rr:Rep X.K O H1 v1 x:=r1
   cases x with
   |list ys=>
    cases h1
    cases rr with
    |lst t r=>exact .inl ⟨_,_,rfl,t.sq,fun hz=>q _ H1 s1 hc1 (.lst t r) (by rw[←r.length];exact hz)⟩
   |tuple ys=>
    cases h1
    cases rr with
    |tup t r=>exact .inr (.inl ⟨_,_,rfl,t.sq,fun hz=>q _ H1 s1 hc1 (.tup t r) (by rw[←r.length];exact hz)⟩)
   |str z=>
    have h1':(if z.length<=Mz then some (signs z) else none)=some _:=h1;split at h1'
    .rename_i hz
     cases h1';cases rr;exact .inr (.inr (.inl ⟨z,rfl,q _ H1 s1 hc1 .str (by rw[show (signs z).length=z.cps.size by simp[signs]];exact hz)⟩))
    .cases h1'
   |dict ys=>
    cases h1
    cases rr with
    |dct n t r=>exact .inr (.inr (.inr ⟨_,_,_,rfl,t,fun hz=>q _ H1 s1 hc1 (.dct n t r) (by rw[Nd,←nY r];exact hz)⟩))
   |_=>cases h1
  .cases e
 .cases e
def bT(lo:Int)(n:Nat):List PyData:=(NZ n).map fun(i:Nat)=>.int (lo+(i:Int))
theorem ItOk.rng{K:Frag}{O:Addr->Prop}{H1:Hp}{lo:Int}{n:Nat}:ItOk K O H1 (Itr lo n) (bT lo n):=fun O' H' le=>by
 have hl:(bT lo n).length=n:=by simp[bT]
 refine⟨fun i hi=>by rw[hl] at hi;exact hi,by rw[hl];exact MC _,fun i v H'' y hi=>?_⟩;obtain⟨e,y⟩:=y;subst y;rw[hl] at hi;exact⟨e,.int (lo+i),by simp[bT,hi],.int _⟩
def kr(j:Int):Bool:=decide (-1000000<=j/\j<=16777216)
theorem EC(h:kr j=true) : -(2^62)<=j/\j<2^62/\j.toNat<=sizeLine:=by
 have h':=of_decide_eq_true h
 have e:Mz=16777216:=by decide
 omega
def fG(f:FE):FI:=fun ρ T=>bnd (f ρ T) fun w T1=>match w with
 |.d (.int j)=>if kr j=true then some (bT 0 j.toNat,T1) else none
 |_=>none
theorem jg(hg:Gl X "range")(hm:X.mg "range"=none)(ha:DE X a f)(hs:Mw [a] X.env=[(false,eval a X.env)]:=by exact tE rfl):DI X tg (.Call (.Name "range" p) [a] [] pos) (fG f):=by
 refine⟨?_⟩;refine vC (Ai (ta:=ko (lift X.K f) m8) hg hm (bj ha.pe bJ (by rw[hs];rfl)) hs) fun σ H R=>?_;rintro⟨O,ts,ρ,T,ds,T',hc,re,e,q⟩;obtain⟨w1,T1,e1,e⟩:=aO e;refine⟨O,ts,ρ,T,w1,T1,hc,re,e1,fun v1 H1 s1 hc1 r1=>?_⟩;split at e
 .rename_i j
  split at e
  .rename_i h1
   cases e;cases (show Rep X.K O H1 v1 _ from r1);obtain⟨b1,b2,b3⟩:=EC h1;exact⟨j,rfl,b1,b2,q _ H1 s1 hc1 .rng (by simpa[bT] using b3)⟩
  .cases e
 .cases e
def bz(c:FT)(e:FE)(ρ:Rho):List Mo->Tp->Option (List Mo×Tp)
 |[],T=>some ([],T)
 |d::r,T=>bnd (c (some (.d d)::ρ) T) fun b T1=>if b=true then bnd (e (some (.d d)::ρ) T1) fun w T2=>match w with
   |.d y=>bnd (bz c e ρ r T2) fun ys T3=>some (y::ys,T3)
   |_=>none
  else bz c e ρ r T1
def br(it:FI)(c:FT)(e:FE):FE:=fun ρ T=>bnd (it ρ T) fun ds T1=>bnd (bz c e ρ ds T1) fun ys T2=>some (.d (.list ys),T2)
def bu:FT:=fun _ T=>some (true,T)
theorem RelE.cons{K:Frag}{O:Addr->Prop}{ts:List Addr}{H:Hp}{σ:L2.St}{ρ:Rho}{v:V}{d:Mo}(re:RelE K O ts H σ ρ)(r:Rep K O H v d):RelE K O ts H (some v::σ) (some (.d d)::ρ):=fun i w e=>by
 cases i with
 |zero=>cases e;exact⟨v,rfl,r⟩
 |succ i=>
  obtain⟨u,h1,h2⟩:=re i w (by simpa using e);exact⟨u,by simpa using h1,h2⟩
theorem ma{K:Frag}{O:Addr->Prop}{ts:List Addr}{H1:Hp}{σ:L2.St}{ρ:Rho}{J:It}{c:FT}{e:FE}{ds ys:List Mo}{T1 T2:Tp}{Dn:List V->Hp->Prop}(hc:HC K O ts H1 T1)(re:RelE K O ts H1 σ ρ)(ok:ItOk K O H1 J ds)(hz:ds.length<=Mz)
  (ee:bz c e ρ ds T1=some (ys,T2)) (q:∀vs H',SameX ts H1 H'->HC K O ts H' T2->Reps K O H' vs ys->Dn vs H') :
  ∃W:Nat->Nat->List V->Hp->Prop,(∃m,W 0 m [] H1)/\mZ σ J (liftT K c) (lift K e) W Dn:=by
 refine⟨fun i m vs H'=>m=ds.length-i/\i<=ds.length/\vs.length<=i/\∃T dn rs,SameX ts H1 H'/\HC K O ts H' T/\Reps K O H' vs dn/\bz c e ρ (ds.drop i) T=some (rs,T2)/\ys=dn++rs,⟨_,rfl,Oj _,MC _,T1,[],ys,.refl _ _,hc,.nil,ee,rfl⟩,?_⟩;rintro i m vs H' ⟨rfl,hi,hv,T,dn,rs,s1,hc1,rv,ec,ey⟩;obtain⟨k1,k2,k3⟩:=ok O H' (hc.le s1)
 by_cases hlt:i<ds.length
 .refine .inr ⟨k1 i hlt,by omega,fun vs' H2=>i+1<=ds.length/\vs'.length<=i+1/\∃T dn rs,SameX ts H1 H2/\HC K O ts H2 T/\Reps K O H2 vs' dn/\bz c e ρ (ds.drop (i+1)) T=some (rs,T2)/\ys=dn++rs,fun vs' H2 n=>⟨ds.length-(i+1),by omega,rfl,n⟩,fun v H2 y=>?_⟩
  obtain⟨e2,d,hd,rd⟩:=k3 i v H2 y hlt;subst e2
  have hdr:ds.drop i=d::ds.drop (i+1):=by
   rw[PM hlt];have:=(My.mp hd).2;rw[this]
  rw[hdr] at ec;obtain⟨b,T3,e3,ec⟩:=aO ec;refine⟨O,ts,some (.d d)::ρ,T,b,T3,hc1,(re.mono hc s1).cons rd,e3,fun H3 s3 hc3=>?_⟩
  cases b with
  |false=>
   rw[if_neg MF] at ec;exact dW ⟨hlt,by omega,T3,dn,rs,s1.trans s3,hc3,rv.mono (hc1.le s3),ec,ey⟩
  |true=>
   rw[if_pos rfl] at ec;obtain⟨w,T4,e4,ec⟩:=aO ec;refine dG ⟨O,ts,some (.d d)::ρ,T3,w,T4,hc3,((re.mono hc s1).cons rd).mono hc1 s3,e4,fun u H4 s4 hc4 r4=>?_⟩;split at ec
   .rename_i y
    obtain⟨zs,T5,e5,ec⟩:=aO ec;cases ec;refine⟨hlt,by simp;omega,T4,dn++[y],zs,s1.trans (s3.trans s4),hc4,(rv.mono (hc1.le (s3.trans s4))).append (.cons r4 .nil),e5,by rw[ey];simp⟩
   .cases ec
 .have e:i=ds.length:=by omega
  subst e;rw[Of (MC _)] at ec;cases ec;rw[OL] at ey;subst ey;exact .inl ⟨k2,by omega,q vs H' s1 hc1 rv⟩
structure DTs(X:Cx)(es:List Expr)(f:FT):Prop where
 pe:PTs X es (liftT X.K f)
theorem de:DTs X [] bu:=⟨fun pins s σ H Q E I h=>by
 refine CV pins s σ H Q E I ?_;obtain⟨O,ts,ρ,T,w,T',hc,re,e,q⟩:=h;cases e
 exact q H (.refl _ _) hc⟩
theorem fj(hx:X.xe=fun _ _=>False)(h:DT X c f):DTs X [c] f:=⟨CU hx h.pe⟩
theorem cD(S:CS osc N x scope N')(hi:DI X (.Name x px) iter it)
  (he:∀C s0 H0 ex,DE (b5 X x scope C s0 H0 ex N') elt f) (ht:∀C s0 H0 ex,DTs (b5 X x scope C s0 H0 ex N') ifs c) (hc:X.calm=true:=by rfl) (hs:X.env.scope=osc:=by rfl) (hN:X.N=N:=by rfl)
  (hf:∀v,NI iter X.env v=pure v:=by intro _;rfl):DE X (.ListComp elt [⟨.Name x px,iter,ifs,0⟩] scope pos) (br it c f):=by
 refine⟨?_⟩;refine pe_imp (tQ (wi:=jt X.K it) (tt:=liftT X.K c) (te:=lift X.K f) S hi.pe (fun C s0 H0 ex=>(he C s0 H0 ex).pe) (fun C s0 H0 ex=>(ht C s0 H0 ex).pe) hc hs hN hf) fun σ H Q=>?_;rintro⟨O,ts,ρ,T,w,T',hc,re,e,q⟩;obtain⟨ds,T1,e1,e⟩:=aO e;obtain⟨ys,T2,e2,e⟩:=aO e;cases e;refine⟨O,ts,ρ,T,ds,T1,hc,re,e1,fun J H1 s1 hc1 ok hz=>?_⟩;exact ma hc1 (re.mono hc s1) ok hz e2 fun vs H' s2 hc2 r2 p hp=>q _ _ (s1.trans (s2.trans (.new hp _))) (hc2.new hp _) (hc2.newL hp r2)
inductive Fl where
 |nx|rt (x:Mo)|ro (x:Mo)|bk|ct
abbrev FS:=Rho->Tp->Option ((Fl×Rho)×Tp)
structure RS(K:Frag)(O₀:Addr->Prop)(H₀:Hp)(F:List ((Addr->Prop)×Hp))(ts:List Addr)(O:Addr->Prop)(H:Hp)(σ:L2.St)(ρ:Rho)(T:Tp):Prop where
 hc:HC K O ts H T
 re:RelE K O ts H σ ρ
 sub:∀b,O₀ b->O b
 ots:∀b∈ts,O₀ b
 same:SameX ts H₀ H
 fresh:∀(i:Nat) (xs:Mo) (a:Addr),ρ[i]? = some (some (.loc xs))->σ[i]? = some (some (.ref a))->H₀ a=none/\¬O₀ a
 dist:∀(i j:Nat) (xs ys:Mo) (v:V),ρ[i]? = some (some (.loc xs))->ρ[j]? = some (some (.loc ys))->σ[i]? = some (some v)->σ[j]? = some (some v)->i=j
 frs:∀f∈F,Le f.1 f.2 O H
 len:σ.length=ρ.length
def OwnV(K:Frag)(O A:Addr->Prop)(H:Hp)(v:V):Mo->Prop
 |.tuple [x,y]=>∃p a b,v=.ref p/\a≠b/\(∀c,A c↔c=a\/c=b)/\¬O p/\H p=some (.tup [.ref a,.ref b])/\OwnAt K O H a x/\OwnAt K O H b y
 |.none=>v=.non/\∀c,¬A c
 |x=>∃a,v=.ref a/\(∀c,A c↔c=a)/\OwnAt K O H a x
theorem OwnV.mono{K:Frag}{O O' A:Addr->Prop}{H:Hp}{v:V}{x:Mo}(le:Le O H O' H)(h:OwnV K O A H v x):OwnV K O' A H v x:=by
 unfold OwnV at h ⊢;split at h
 .obtain⟨p,a,b,e1,e2,e3,np,hp,oa,ob⟩:=h
  exact⟨p,a,b,e1,e2,e3,(le p _ np hp).1,hp,oa.mono (fun _ h=>h) le,ob.mono (fun _ h=>h) le⟩
 .exact h
 .obtain⟨a,e,hA,oa⟩:=h
  exact⟨a,e,hA,oa.mono (fun _ h=>h) le⟩
def xh(K:Frag)(O₀:Addr->Prop)(H₀:Hp)(F:List ((Addr->Prop)×Hp))(ts:List Addr)(D:Ends)(ρ':Rho)(T':Tp):Fl->Prop
 |.nx=>∀O' σ' H',RS K O₀ H₀ F ts O' H' σ' ρ' T'->D.nx σ' H'
 |.bk=>∀O' σ' H',RS K O₀ H₀ F ts O' H' σ' ρ' T'->D.bk σ' H'
 |.ct=>∀O' σ' H',RS K O₀ H₀ F ts O' H' σ' ρ' T'->D.ct σ' H'
 |.rt x=>∀v H',SameX ts H₀ H'->HC K O₀ ts H' T'->Rep K O₀ H' v x->D.rt v H'
 |.ro x=>∀(A:Addr->Prop) v H',SameX ts H₀ H'->(∀b,A b->H₀ b=none/\¬O₀ b)->HC K (fun b=>O₀ b\/A b) ts H' T'->OwnV K (fun b=>O₀ b\/A b) A H' v x->D.rt v H'
inductive LiftSP(K:Frag)(f:FS)(D:Ends)(σ:L2.St)(H:Hp):Prop where
 |mk (O₀:Addr->Prop) (H₀:Hp) (F:List ((Addr->Prop)×Hp)) (ts:List Addr) (O:Addr->Prop) (ρ:Rho) (T:Tp) (fl:Fl) (ρ':Rho) (T':Tp) (rs:RS K O₀ H₀ F ts O H σ ρ T) (e:f ρ T=some ((fl,ρ'),T')) (q:xh K O₀ H₀ F ts D ρ' T' fl):LiftSP K f D σ H
def qp(K:Frag)(f:FS):TS:=fun D σ H=>LiftSP K f D σ H
structure DS(X:Cx)(s:Stmt)(f:FS):Prop where
 pe:PS X s (qp X.K f)
structure DSs(X:Cx)(s:List Stmt)(f:FS):Prop where
 pe:PSs X s (qp X.K f)
theorem cb(h:PS X e t)(i:∀D σ H,t' D σ H->t D σ H):PS X e t':=fun pins s σ H D I q=>h pins s σ H D I (i D σ H q)
theorem iA(h:PSs X e t)(i:∀D σ H,t' D σ H->t D σ H):PSs X e t':=fun pins s σ H D I q=>h pins s σ H D I (i D σ H q)
section
variable {K:Frag}{O₀:Addr->Prop}{H₀:Hp}{F:List ((Addr->Prop)×Hp)}{ts:List Addr}{O:Addr->Prop}{H H1:Hp}{σ:L2.St}{ρ:Rho}{T T1:Tp}
theorem RS.step(r:RS K O₀ H₀ F ts O H σ ρ T)(s:SameX ts H H1)(c:HC K O ts H1 T1):RS K O₀ H₀ F ts O H1 σ ρ T1 where
 hc:=c
 re:=r.re.mono r.hc s
 sub:=r.sub
 ots:=r.ots
 same:=r.same.trans s
 fresh:=r.fresh
 dist:=r.dist
 frs:=fun f hf=>(r.frs f hf).trans (r.hc.le s)
 len:=r.len
theorem gb(hw:∀ys,w≠.loc ys)(e:(ρ.set i (some w))[j]? = some (some (.loc xs))):j≠i/\ρ[j]? = some (some (.loc xs)):=by
 by_cases z:i=j
 .subst z
  rw[List.getElem?_set_self'] at e
  cases h:ρ[i]? with
  |none=>rw[h] at e;cases e
  |some u=>
   rw[h] at e;have e':some (some w)=some (some (W.loc xs)):=e;cases e';exact absurd rfl (hw xs)
 .rw[MD z] at e
  exact⟨fun q=>z q.symm,e⟩
theorem RS.set{i:Nat}{v:V}{w:W}(r:RS K O₀ H₀ F ts O H σ ρ T)(rw':RepW K O ts H v w)(hw:∀ys,w≠.loc ys):RS K O₀ H₀ F ts O H (σ.set i (some v)) (ρ.set i (some w)) T where
 hc:=r.hc
 re:=fun j u e=>by
  by_cases z:i=j
  .subst z
   have hl:i<ρ.length:=by
    have:=(My.mp e).1;simpa using this
   rw[MQ hl] at e;cases e;exact⟨v,by rw[MQ (by rw[r.len];exact hl)],rw'⟩
  .rw[MD z] at e
   obtain⟨x,h1,h2⟩:=r.re j u e;exact⟨x,by rw[MD z];exact h1,h2⟩
 sub:=r.sub
 ots:=r.ots
 same:=r.same
 fresh:=fun j xs a e1 e2=>by
  obtain⟨n,e⟩:=gb hw e1;rw[MD (Ot n)] at e2;exact r.fresh j xs a e e2
 dist:=fun j k xs ys u e1 e2 e3 e4=>by
  obtain⟨n1,e1⟩:=gb hw e1;obtain⟨n2,e2⟩:=gb hw e2;rw[MD (Ot n1)] at e3;rw[MD (Ot n2)] at e4;exact r.dist j k xs ys u e1 e2 e3 e4
 frs:=r.frs
 len:=by simp[r.len]
theorem RS.ownO(r:RS K O₀ H₀ F ts O H σ ρ T)(hp:H p=none)(hm:Mut (some o))(rv:Le O H (fun b=>O b\/b=p) (upd H p o)->OwnAt K (fun b=>O b\/b=p) (upd H p o) p xs):RS K O₀ H₀ F ts (fun b=>O b\/b=p) (upd H p o) (σ.set i (some (.ref p))) (ρ.set i (some (.loc xs))) T:=by
 have le:Le O H (fun b=>O b\/b=p) (upd H p o):=fun a o n e=>by
  have z:a≠p:=cx e hp;exact⟨fun q=>q.elim n z,by rw[aP z];exact e⟩
 have h0:∀{G:Hp},SameX ts G H->p∉ts->G p=none:=fun {G} s nt=>by
  cases e:G p with
  |none=>rfl
  |some o=>rw[s p o nt e] at hp;cases hp
 have nO:=r.hc.fresh hp;have nt:p∉ts:=fun z=>nO (r.hc.own p z)
 have old:∀{j:Nat}{v:V}{w:W},σ[j]? = some (some v)->RepW K O ts H v w->RepW K (fun b=>O b\/b=p) ts (upd H p o) v w:=fun {j v w} e q=>by
  cases w with
  |d x=>exact Rep.mono le q
  |tp k=>exact q
  |loc ys=>
   obtain⟨a,e1,h1,h2,h3⟩:=q;exact⟨a,e1,.inl h1,h2,h3.mono (fun o' q=>by rw[aP (cx q hp)];exact q) le⟩
 have notp:∀{j:Nat}{ys:Mo},ρ[j]? = some (some (.loc ys))->σ[j]? = some (some (.ref p))->False:=fun {j ys} e1 e2=>by
  obtain⟨v,h1,a,ea,h2,h3,h4⟩:=r.re j _ e1;rw[e2] at h1;cases h1;cases ea;obtain⟨o',h5⟩:=h4.some;rw[hp] at h5;cases h5
 refine⟨⟨fun b hb=>.inl (r.hc.own b hb),fun b hb=>?_,r.hc.nd,r.hc.len,fun j a ys e1 e2=>?_⟩,fun j w e=>?_,fun b hb=>.inl (r.sub b hb),r.ots,r.same.trans (.new hp _),fun j ys a e1 e2=>?_,fun j k ys zs v e1 e2 e3 e4=>?_,fun f hf=>(r.frs f hf).trans le,by simp[r.len]⟩
 .by_cases z:b=p
  .subst z;rw[bg];exact hm
  .rw[aP z]
   exact r.hc.trk b (hb.resolve_right z)
 .exact(r.hc.tape j a ys e1 e2).mono (fun o' h1=>by rw[aP (cx h1 hp)];exact h1) le
 .by_cases z:i=j
  .subst z
   have hl:i<ρ.length:=by
    have:=(My.mp e).1;simpa using this
   rw[MQ hl] at e;cases e;exact⟨.ref p,by rw[MQ (by rw[r.len];exact hl)],p,rfl,.inr rfl,nt,rv le⟩
  .rw[MD z] at e
   obtain⟨x,h1,h2⟩:=r.re j w e;exact⟨x,by rw[MD z];exact h1,old h1 h2⟩
 .by_cases z:i=j
  .subst z
   have hl:i<ρ.length:=by
    have:=(My.mp e1).1;simpa using this
   rw[MQ (by rw[r.len];exact hl)] at e2;cases e2;exact⟨h0 r.same nt,fun q=>nO (r.sub _ q)⟩
  .rw[MD z] at e1 e2
   exact r.fresh j ys a e1 e2
 .by_cases z:i=j
  .by_cases z':i=k
   .rw[←z,←z']
   .exfalso
    subst z
    have hl:i<ρ.length:=by
     have:=(My.mp e1).1;simpa using this
    rw[MQ (by rw[r.len];exact hl)] at e3;cases e3;rw[MD z'] at e2 e4;exact notp e2 e4
  .by_cases z':i=k
   .exfalso
    subst z'
    have hl:i<ρ.length:=by
     have:=(My.mp e2).1;simpa using this
    rw[MQ (by rw[r.len];exact hl)] at e4;cases e4;rw[MD z] at e1 e3;exact notp e1 e3
   .rw[MD z] at e1 e3
    rw[MD z'] at e2 e4;exact r.dist j k ys zs v e1 e2 e3 e4
theorem RS.own(r:RS K O₀ H₀ F ts O H σ ρ T)(hp:H p=none)(rv:Reps K O H vs xs):RS K O₀ H₀ F ts (fun b=>O b\/b=p) (upd H p (.lst vs)) (σ.set i (some (.ref p))) (ρ.set i (some (.loc (.list xs)))) T:=r.ownO hp (.inl ⟨_,rfl⟩) fun le=>⟨vs,bg,rv.mono le⟩
theorem RS.putO(r:RS K O₀ H₀ F ts O H σ ρ T)(e1:ρ[i]? = some (some (.loc xs)))(e2:σ[i]? = some (some (.ref a)))(hm:Mut (some o))(rv:Le O H O (upd H a o)->OwnAt K O (upd H a o) a ys):RS K O₀ H₀ F ts O (upd H a o) σ (ρ.set i (some (.loc ys))) T:=by
 obtain⟨v,z1,a',ea,oa,nt,ha⟩:=r.re i _ e1;rw[e2] at z1;cases z1;cases ea;have hl:i<ρ.length:=(My.mp e1).1;obtain⟨f1,f2⟩:=r.fresh i xs a e1 e2;have le:Le O H O (upd H a o):=fun b o n e=>⟨n,by rw[aP (show b≠a from fun z=>n (by rw[z];exact oa))];exact e⟩
 have back:∀{j:Nat}{zs:Mo},(ρ.set i (some (W.loc ys)))[j]? = some (some (.loc zs))->∃ws,ρ[j]? = some (some (.loc ws)):=fun {j zs} e=>by
  by_cases z:i=j
  .subst z;exact⟨xs,e1⟩
  .rw[MD z] at e;exact⟨zs,e⟩
 refine⟨⟨r.hc.own,fun b hb=>?_,r.hc.nd,r.hc.len,fun j b zs q1 q2=>?_⟩,fun j w e=>?_,r.sub,r.ots,fun b o n e=>?_,fun j zs b q1 q2=>?_,fun j k zs zs' v q1 q2 q3 q4=>?_,fun f hf=>(r.frs f hf).trans le,by simp[r.len]⟩
 .by_cases z:b=a
  .subst z;rw[bg];exact hm
  .rw[aP z];exact r.hc.trk b hb
 .exact(r.hc.tape j b zs q1 q2).mono (fun o' h1=>by rw[aP (show b≠a from fun z=>nt (by rw[←z];exact Nj q1))];exact h1) le
 .by_cases z:i=j
  .subst z
   rw[MQ hl] at e;cases e;exact⟨.ref a,e2,a,rfl,oa,nt,rv le⟩
  .rw[MD z] at e
   obtain⟨x,h1,h2⟩:=r.re j w e;refine⟨x,h1,?_⟩
   cases w with
   |d x=>exact Rep.mono le h2
   |tp k=>exact h2
   |loc zs=>
    obtain⟨b,eb,k1,k2,k3⟩:=h2;have n:b≠a:=fun q=>z (r.dist i j xs zs (.ref a) e1 e e2 (by rw[h1,eb,q]));exact⟨b,eb,k1,k2,k3.mono (fun o' q=>by rw[aP n];exact q) le⟩
 .have:=r.same b o n e
  rw[aP (show b≠a from fun z=>by rw[z,f1] at e;cases e)];exact this
 .obtain⟨ws,q⟩:=back q1
  exact r.fresh j ws b q q2
 .obtain⟨ws,q⟩:=back q1
  obtain⟨ws',q'⟩:=back q2;exact r.dist j k ws ws' v q q' q3 q4
theorem RS.put{i:Nat}{a:Addr}{vs us:List V}{xs ys:List Mo}(r:RS K O₀ H₀ F ts O H σ ρ T)(e1:ρ[i]? = some (some (.loc (.list xs))))(e2:σ[i]? = some (some (.ref a)))(rv:Reps K O H vs ys):RS K O₀ H₀ F ts O (upd H a (.lst vs)) σ (ρ.set i (some (.loc (.list ys)))) T:=r.putO e1 e2 (.inl ⟨_,rfl⟩) fun le=>⟨vs,bg,rv.mono le⟩
theorem RS.tapeO(r:RS K O₀ H₀ F ts O H σ ρ T)(e:ts[n]? = some a)(hm:Mut (some o))(rv:Le O H O (upd H a o)->RowAt K O (upd H a o) a ys):RS K O₀ H₀ F ts O (upd H a o) σ ρ (T.set n ys):=by
 have am:a∈ts:=Nj e;have le:Le O H O (upd H a o):=fun b o' k q=>⟨k,by rw[aP (show b≠a from fun z=>k (by rw[z];exact r.hc.own a am))];exact q⟩
 have sx:SameX ts H (upd H a o):=fun b o' k q=>by rw[aP (show b≠a from fun z=>k (by rw[z];exact am))];exact q
 refine⟨⟨r.hc.own,fun b hb=>?_,r.hc.nd,by simp[r.hc.len],fun j b zs q1 q2=>?_⟩,r.re.mono r.hc sx,r.sub,r.ots,r.same.trans sx,r.fresh,r.dist,fun f hf=>(r.frs f hf).trans le,r.len⟩
 .by_cases z:b=a
  .subst z;rw[bg];exact hm
  .rw[aP z];exact r.hc.trk b hb
 .by_cases z:n=j
  .subst z
   rw[e] at q1;cases q1
   have hl:n<T.length:=by
    have:=(My.mp e).1;rw[←r.hc.len];exact this
   rw[MQ hl] at q2;cases q2;exact rv le
  .rw[MD z] at q2
   refine(r.hc.tape j b zs q1 q2).mono (fun o' h1=>?_) le
   have nb:b≠a:=fun q=>by
    rw[q] at q1;exact z ((List.getElem?_inj (My.mp e).1 r.hc.nd).mp (e.trans q1.symm))
   rw[aP nb];exact h1
theorem RS.tape(r:RS K O₀ H₀ F ts O H σ ρ T)(e:ts[n]? = some a)(rv:Reps K O H vs ys):RS K O₀ H₀ F ts O (upd H a (.lst vs)) σ ρ (T.set n ys):=r.tapeO e (.inl ⟨_,rfl⟩) fun le=>.inl ⟨rv.notO,vs,bg,rv.mono le⟩
def jH:W->W
 |.loc x=>.d x
 |w=>w
def bX(ρ:Rho):Rho:=ρ.map (VP jH)
theorem RS.frzH(r:RS K O₀ H₀ F ts O H σ ρ T):HC K O₀ ts H T:=by
 have le:Le O H O₀ H:=fun a o n e=>⟨fun z=>n (r.sub a z),e⟩;exact⟨r.ots,fun b hb=>r.hc.trk b (r.sub b hb),r.hc.nd,r.hc.len,fun i a xs e1 e2=>(r.hc.tape i a xs e1 e2).mono (fun _ h=>h) le⟩
def qS(ρ:Rho):Prop:=∀(i:Nat) (ds:List (Mo×Mo)),ρ[i]?≠some (some (.loc (.dict ds)))
theorem RS.frz(r:RS K O₀ H₀ F ts O H σ ρ T)(nd:qS ρ):HC K O₀ ts H T/\RelE K O₀ ts H σ (bX ρ):=by
 have le:Le O H O₀ H:=fun a o n e=>⟨fun z=>n (r.sub a z),e⟩;refine⟨r.frzH,fun i w e=>?_⟩;unfold bX at e;rw[Nq] at e
 cases hu:ρ[i]? with
 |none=>rw[hu] at e;cases e
 |some u=>
  cases u with
  |none=>rw[hu] at e;cases e
  |some u=>
   rw[hu] at e;cases e;obtain⟨v,h1,h2⟩:=r.re i u hu;refine⟨v,h1,?_⟩
   cases u with
   |d x=>exact Rep.mono le h2
   |tp k=>exact h2
   |loc xs=>
    obtain⟨a,rfl,k1,k2,k3⟩:=h2
    cases xs with
    |list xs=>obtain⟨vs,k3,k4⟩:=k3;exact .lst (.inl ⟨(r.fresh i _ a hu h1).2,.inl k3⟩) (k4.mono le)
    |dict xs=>exact absurd hu (nd i xs)
    |_=>cases k3
theorem RS.frzD(r:RS K O₀ H₀ F ts O H σ ρ T)(h1:ρ[i]? = some (some (.loc (.dict ds)))):∃a kvs,H a=some (.dK kvs)/\∀o,RS K O₀ H₀ F ts (fun b=>O b/\b≠a) (upd H a (.frz o (.dK kvs))) σ (ρ.set i (some (.d (.dict ds)))) T:=by
 obtain⟨v,k1,a,rfl,k2,k3,kvs,k4,k5⟩:=r.re i _ h1;refine⟨a,kvs,k4,fun o=>?_⟩;have hl:i<ρ.length:=(My.mp h1).1;have U:∀{b:Addr},b≠a->upd H a (.frz o (.dK kvs)) b=H b:=fun n=>aP n;have le:Le O H (fun b=>O b/\b≠a) (upd H a (.frz o (.dK kvs))):=fun b u n e=>⟨fun z=>n z.1,by rw[U (show b≠a from fun z=>n (by rw[z];exact k2))];exact e⟩;have fr:=r.fresh i _ a h1 k1
 have hw:∀ys,W.d (.dict ds)≠.loc ys:=fun _ z=>nomatch z
 refine⟨⟨fun b hb=>⟨r.hc.own b hb,fun z=>k3 (z ▸ hb)⟩,fun b hb=>by rw[U hb.2];exact r.hc.trk b hb.1,r.hc.nd,r.hc.len,fun j b ys e1 e2=>?_⟩,fun j w e=>?_,fun b hb=>⟨r.sub b hb,fun z=>fr.2 (z ▸ hb)⟩,r.ots,fun b u n e=>?_,fun j ys b e1 e2=>?_,fun j k ys zs v e1 e2 e3 e4=>?_,fun f hf=>(r.frs f hf).trans le,by simp[r.len]⟩
 .exact(r.hc.tape j b ys e1 e2).mono (fun _ h=>by rw[U (show b≠a from fun z=>k3 (by rw[←z];exact Nj e1))];exact h) le
 .by_cases z:i=j
  .subst z
   rw[MQ hl] at e;cases e;exact⟨.ref a,k1,.dct (fun z=>z.2 rfl) bg (k5.mono le)⟩
  .rw[MD z] at e
   obtain⟨x,q1,q2⟩:=r.re j w e;refine⟨x,q1,?_⟩
   cases w with
   |d y=>exact Rep.mono le q2
   |tp k=>exact q2
   |loc ys=>
    obtain⟨b,eb,m1,m2,m3⟩:=q2;have nb:b≠a:=fun q=>z (r.dist i j _ ys (.ref a) h1 e k1 (by rw[q1,eb,q]));exact⟨b,eb,⟨m1,nb⟩,m2,m3.mono (fun _ q=>by rw[U nb];exact q) le⟩
 .rw[U (show b≠a from fun z=>by rw[z,fr.1] at e;cases e)]
  exact r.same b u n e
 .obtain⟨n,e⟩:=gb hw e1
  exact r.fresh j ys b e e2
 .obtain⟨n1,e1⟩:=gb hw e1
  obtain⟨n2,e2⟩:=gb hw e2;exact r.dist j k ys zs v e1 e2 e3 e4
theorem BY(h:ρ[i]? = some (some (.loc x))):bX (ρ.set i (some (.d x)))=bX ρ:=by
 apply List.ext_getElem?;intro j;unfold bX;rw[Nq,Nq]
 by_cases z:i=j
 .subst z
  rw[MQ (My.mp h).1,h];rfl
 .rw[MD z]
theorem RS.frzN(R:Rho):∀(k:Nat) {O:Addr->Prop}{H:Hp}{ρ:Rho},RS K O₀ H₀ F ts O H σ ρ T->(∀j ds,k<=j->ρ[j]?≠some (some (.loc (.dict ds))))->bX ρ=R ->
  Gh (fun H'=>∃O' ρ',RS K O₀ H₀ F ts O' H' σ ρ' T/\qS ρ'/\bX ρ'=R) H
 |0,O,H,ρ,r,n,e=>.done ⟨O,ρ,r,fun j ds=>n j ds (Oj _),e⟩
 |k+1,O,H,ρ,r,n,e=>by
  by_cases h:∃ds,ρ[k]? = some (some (.loc (.dict ds)))
  .obtain⟨ds,h⟩:=h
   obtain⟨a,kvs,e1,f⟩:=r.frzD h;refine .frz e1 fun o=>RS.frzN R k (f o) (fun j es hj=>?_) (by rw[BY h];exact e)
   by_cases z:k=j
   .subst z
    rw[MQ (My.mp h).1];intro q;cases q
   .rw[MD z]
    exact n j es (by omega)
  .refine RS.frzN R k r (fun j ds hj=>?_) e
   by_cases z:k=j
   .subst z
    exact fun q=>h ⟨ds,q⟩
   .exact n j ds (by omega)
theorem RS.frzG(r:RS K O₀ H₀ F ts O H σ ρ T):Gh (fun H'=>SameX ts H₀ H'/\HC K O₀ ts H' T/\RelE K O₀ ts H' σ (bX ρ)) H:=(RS.frzN (bX ρ) ρ.length r (fun j ds hj=>by rw[R9 hj];exact fun z=>nomatch z) rfl).imp fun H' ⟨O',ρ',r',n,e⟩=>⟨r'.same,by rw[←e];exact r'.frz n⟩
end
def aK:FS:=fun ρ T=>some ((.nx,ρ),T)
def ak(f g:FS):FS:=fun ρ T=>bnd (f ρ T) fun p T1=>match p with
 |(.nx,ρ1)=>g ρ1 T1
 |(fl,ρ1)=>some ((fl,ρ1),T1)
def aF(i:Nat)(f:FE):FS:=fun ρ T=>bnd (f ρ T) fun w T1=>match w with
 |.d x=>some ((.nx,ρ.set i (some (.d x))),T1)
 |.tp k=>some ((.nx,ρ.set i (some (.tp k))),T1)
 |.loc _=>none
def cO(i:Nat)(g:FA):FS:=fun ρ T=>bnd (g ρ T) fun ws T1=>match dQ ws with
 |some xs=>if xs.length<=1000 then some ((.nx,ρ.set i (some (.loc (.list xs)))),T1) else none
 |none=>none
def b8(i:Nat)(f:FE):FS:=fun ρ T=>bnd (f ρ T) fun w T1=>match w with
 | .d x=>(match ρ[i]? with
  |some (some (.loc (.list xs)))=>if xs.length<Mz then some ((.nx,ρ.set i (some (.loc (.list (xs++[x]))))),T1) else none
  | _=>none)
 |_=>none
def qJ(fo fk fe:FE):FS:=fun ρ T=>bnd (fe ρ T) fun w T1=>bnd (fo ρ T1) fun o T2=>bnd (fk ρ T2) fun k T3=>match w,o,k with
 |.d x,.tp n,.d (.int i)=>match T3[n]? with
  |some xs=>if isO xs=true then none else match ixN xs.length i with
   |some j=>some ((.nx,ρ),T3.set n (xs.set j x))
   |none=>none
  |none=>none
 |_,_,_=>none
def fIf(c:FT)(f g:FS):FS:=fun ρ T=>bnd (c ρ T) fun b T1=>if b=true then f ρ T1 else g ρ T1
def ay(f:FE):FS:=fun ρ T=>bnd (f (bX ρ) T) fun w T1=>match w with
 |.d x=>some ((.rt x,ρ),T1)
 |_=>none
def forL(i:Nat)(body:FS):List Mo->FS
 |[]=>aK
 |d::r=>fun ρ T=>bnd (body (ρ.set i (some (.d d))) T) fun p T1=>match p with
  |(.nx,ρ1)=>forL i body r ρ1 T1
  |(.ct,ρ1)=>forL i body r ρ1 T1
  |(.bk,ρ1)=>some ((.nx,ρ1),T1)
  |(.rt x,ρ1)=>some ((.rt x,ρ1),T1)
  |(.ro x,ρ1)=>some ((.ro x,ρ1),T1)
def cB(i:Nat)(it:FI)(body:FS):FS:=fun ρ T=>bnd (it ρ T) fun ds T1=>forL i body ds ρ T1
def bo(c:FT)(body:FS):Nat->FS
 |0=>fun _ _=>none
 |n+1=>fun ρ T=>bnd (c ρ T) fun b T1=>if b=true then bnd (body ρ T1) fun p T2=>match p with
   |(.nx,ρ1)=>bo c body n ρ1 T2
   |(.ct,ρ1)=>bo c body n ρ1 T2
   |(.bk,ρ1)=>some ((.nx,ρ1),T2)
   |(.rt x,ρ1)=>some ((.rt x,ρ1),T2)
   |(.ro x,ρ1)=>some ((.ro x,ρ1),T2)
  else some ((.nx,ρ),T1)
section
variable {X:Cx}{pos:Pos}{st:Stmt}{rest:List Stmt}{f g:FS}{e:Expr}{fe:FE}{c:FT}
theorem aT:DSs X [] aK:=by
 refine⟨?_⟩;refine iA oW fun D σ H=>?_;rintro⟨O₀,H₀,F,ts,O,ρ,T,fl,ρ',T',rs,e,q⟩;cases e;exact q O σ H rs
theorem av(h1:DS X st f)(h2:DSs X rest g):DSs X (st::rest) (ak f g):=by
 refine⟨?_⟩;refine iA (f9 h1.pe h2.pe) fun D σ H=>?_;rintro⟨O₀,H₀,F,ts,O,ρ,T,fl,ρ',T',rs,e,q⟩;obtain⟨⟨fl1,ρ1⟩,T1,e1,e⟩:=aO e;refine⟨O₀,H₀,F,ts,O,ρ,T,fl1,ρ1,T1,rs,e1,?_⟩
 cases fl1 with
 |nx=>exact fun O' σ' H' rs'=>⟨O₀,H₀,F,ts,O',ρ1,T1,fl,ρ',T',rs',e,q⟩
 |rt x=>cases e;exact q
 |ro x=>cases e;exact q
 |bk=>cases e;exact q
 |ct=>cases e;exact q
theorem az(h1:DS X st f):DSs X [st] f:=⟨iz h1.pe⟩
theorem aV(hN:X.N.Nodup)(he:DE X e fe)(hi:X.N[i]? = some x:=by rfl)(hx:Loc X.env.scope x:=by first|exact Oe rfl|exact NP rfl)(hs:NX e (some (.Name x pos')) pos.line X.env=pure false:=by rfl)
  (hf:X.fn x=true\/X.env.scope.names.lookup x=some .local:=by first|exact .inl rfl|exact .inr rfl|assumption):DS X (.Assign [.Name x pos'] e pos) (aF i fe):=by
 refine⟨?_⟩;refine cb (gi hN hi hx he.pe hs hf) fun D σ H=>?_;rintro⟨O₀,H₀,F,ts,O,ρ,T,fl,ρ',T',rs,e,q⟩;obtain⟨w,T1,e1,e⟩:=aO e;refine⟨O,ts,ρ,T,w,T1,rs.hc,rs.re,e1,fun v H1 s1 hc1 r1=>?_⟩
 cases w with
 |d x=>cases e;exact q O _ _ ((rs.step s1 hc1).set r1 fun _ z=>nomatch z)
 |tp k=>cases e;exact q O _ _ ((rs.step s1 hc1).set r1 fun _ z=>nomatch z)
 |loc xs=>cases e
theorem pz{i:Nat}{x y:Str}{scope osc:O9}{N N':List Str}{elt iter:Expr}{ifs:List Expr}{px py spos:Pos}{it:FI}{c:FT}{f:FE}(S:CS osc N x scope N')(hN:X.N.Nodup)(hi:DI X (.Name x px) iter it)
  (he:∀C s0 H0 ex,DE (b5 X x scope C s0 H0 ex N') elt f) (ht:∀C s0 H0 ex,DTs (b5 X x scope C s0 H0 ex N') ifs c) (hi':X.N[i]? = some y:=by rfl) (hy:Loc X.env.scope y:=by first|exact Oe rfl|exact NP rfl)
  (hf':X.fn y=true\/X.env.scope.names.lookup y=some .local:=by first|exact .inl rfl|exact .inr rfl|assumption) (hc:X.calm=true:=by rfl) (hs:X.env.scope=osc:=by rfl) (hN':X.N=N:=by rfl)
  (hsw:NX (.ListComp elt [⟨.Name x px,iter,ifs,0⟩] scope pos) (some (.Name y py)) spos.line X.env=pure true:=by rfl) (hf:∀v,NI iter X.env v=pure v:=by intro _;rfl) :
  DS X (.Assign [.Name y py] (.ListComp elt [⟨.Name x px,iter,ifs,0⟩] scope pos) spos) (aF i (br it c f)):=by
 refine⟨?_⟩;subst hs hN';refine cb (uL (wi:=jt X.K it) (tt:=liftT X.K c) (te:=lift X.K f) hc S hN hi' hy hf' hi.pe (fun C s0 H0 ex=>(he C s0 H0 ex).pe) (fun C s0 H0 ex=>(ht C s0 H0 ex).pe) hsw hf) fun D σ H=>?_;rintro⟨O₀,H₀,F,ts,O,ρ,T,fl,ρ',T',rs,e,q⟩;obtain⟨w,T1,e1,e⟩:=aO e;obtain⟨ds,T2,e2,e1⟩:=aO e1;obtain⟨ys,T3,e3,e1⟩:=aO e1;cases e1;cases e;refine⟨O,ts,ρ,T,ds,T2,rs.hc,rs.re,e2,fun J H1 s1 hc1 ok hz=>?_⟩;exact ma hc1 (rs.re.mono rs.hc s1) ok hz e3 fun vs H' s2 hc2 r2 p hp=>q O _ _ ((rs.step (s1.trans (s2.trans (.new hp _))) (hc2.new hp _)).set (hc2.newL hp r2) fun _ z=>nomatch z)
theorem gP{i:Nat}{x:Str}{pos':Pos}{es:List Expr}{lpos:Pos}{g:FA}(hN:X.N.Nodup)(he:DA X es g)(hi:X.N[i]? = some x:=by rfl)(hx:Loc X.env.scope x:=by first|exact Oe rfl|exact NP rfl)
  (hs:NX (.List es lpos) (some (.Name x pos')) pos.line X.env=pure false:=by rfl) (hf:X.fn x=true\/X.env.scope.names.lookup x=some .local:=by first|exact .inl rfl|exact .inr rfl|assumption):DS X (.Assign [.Name x pos'] (.List es lpos) pos) (cO i g):=by
 refine⟨?_⟩;refine cb (gi hN hi hx (gQ he.pe) hs hf) fun D σ H=>?_;rintro⟨O₀,H₀,F,ts,O,ρ,T,fl,ρ',T',rs,e,q⟩;obtain⟨ws,T1,e1,e⟩:=aO e;refine⟨O,ts,ρ,T,ws,T1,rs.hc,rs.re,e1,fun vs H1 s1 hc1 r1=>?_⟩;split at e
 .rename_i xs h1
  split at e
  .rename_i h2
   cases e;have rv:=jP r1 h1;exact⟨l7 (by rw[rv.length];exact h2),fun p hp=>q _ _ _ ((rs.step s1 hc1).own hp rv)⟩
  .cases e
 .cases e
theorem aS(hc:DT X ce c)(ha:DSs X a f)(hb:DSs X b g):DS X (.If ce a b pos) (fIf c f g):=by
 refine⟨?_⟩;refine cb (qj hc.pe ha.pe hb.pe) fun D σ H=>?_;rintro⟨O₀,H₀,F,ts,O,ρ,T,fl,ρ',T',rs,e,q⟩;obtain⟨b1,T1,e1,e⟩:=aO e;refine⟨O,ts,ρ,T,b1,T1,rs.hc,rs.re,e1,fun H1 s1 hc1=>?_⟩
 cases b1 with
 |true=>exact dG ⟨O₀,H₀,F,ts,O,ρ,T1,fl,ρ',T',rs.step s1 hc1,by simpa using e,q⟩
 |false=>exact dW ⟨O₀,H₀,F,ts,O,ρ,T1,fl,ρ',T',rs.step s1 hc1,by simpa using e,q⟩
theorem aI(he:DE X e fe):DS X (.Return (some e) pos) (ay fe):=by
 refine⟨?_⟩;refine cb (Gw (ka he.pe)) fun D σ H=>?_;rintro⟨O₀,H₀,F,ts,O,ρ,T,fl,ρ',T',rs,e,q⟩;obtain⟨w,T1,e1,e⟩:=aO e;refine rs.frzG.imp fun H0 ⟨same,c0,re0⟩=>?_;refine⟨O₀,ts,bX ρ,T,w,T1,c0,re0,e1,fun v H1 s1 hc1 r1=>?_⟩
 cases w with
 |d x=>cases e;exact q v H1 (same.trans s1) hc1 r1
 |tp k=>cases e
 |loc xs=>cases e
theorem fw(he:DE X e fe)(hN:X.N[i]? = some x:=by rfl)(hv:Vis X.env.scope x:=by first|exact Oe rfl|exact NP (Oe rfl)|exact NP (NP rfl))(hd:(x == ("__debug__" : Str))=false:=by decide)
  (hcd:(x == ("__classdict__" : Str))=false:=by decide) 
  (hbase:NA (.Name x p) "append" X.env (eval (.Name x p) X.env)=eval (.Name x p) X.env:=by rfl)
  (hfew:((Nv cpos (Mw [e] X.env)).all (fun x=>!x.1)&&(O5 cpos (Oa [] X.env)).all (fun x=>x.1.isSome)
   && decide (([e]:List Expr).length+([]:List N1).length+(if ([]:List N1).isEmpty then 0 else 1)<30))=true:=by exact jI rfl)
  (hline:(apos.endLine == cpos.line)=true:=by rfl) (hse:Mw [e] X.env=(false,eval e X.env)::Mw [] X.env:=by exact bR rfl) (hplain:(Nv cpos (Mw [] X.env)).any (·.1)=false:=by exact cL rfl)
  (hs:NX (.Call (.Attribute (.Name x p) "append" apos) [e] [] cpos) none pos.line X.env=pure false:=by rfl) :
  DS X (.Expr (.Call (.Attribute (.Name x p) "append" apos) [e] [] cpos) pos) (b8 i fe):=by
 refine⟨?_⟩;refine cb (lU (ku O6 PP PQ n8 (pv i hN hv hd hcd) (bj he.pe bJ hse) hbase hfew hline hse hplain) hs) fun D σ H=>?_;rintro⟨O₀,H₀,F,ts,O,ρ,T,fl,ρ',T',rs,e,q⟩;obtain⟨w,T1,e1,e⟩:=aO e;split at e
 .rename_i x0
  split at e
  .rename_i xs h1
   split at e
   .rename_i h2
    cases e;obtain⟨v,k1,a,rfl,k2,k3,vs,k4,k5⟩:=rs.re i _ h1;refine⟨_,k1,.inl ⟨rfl,vs,SqL.of k4⟩,O,ts,ρ,T,_,_,rs.hc,rs.re,e1,fun u H1 s1 hc1 r1=>?_⟩;have rs1:=rs.step s1 hc1;exact⟨a,vs,u,rfl,rfl,s1 _ _ k3 k4,by rw[k5.length];exact h2,q O _ _ (rs1.put (us:=[]) h1 k1 ((k5.mono (rs.hc.le s1)).append (.cons r1 .nil)))⟩
   .cases e
  .cases e
 .cases e
theorem FG(ho:DE X o fo)(hk:DE X k fk)(he:DE X e fe)(ha:∀v,Rm (.Subscript o k tpos) X.env v=(do
   let ov ←Rh [v] (eval o X.env)
   let iv ←Rh [v,ov] (eval k X.env)
   Us tpos
   Rh [v,ov,iv] (Vt ov iv v)
   release [v,ov,iv] []):=by intro _;rfl)
  (hs:SN [.Subscript o k tpos] e pos.line X.env=pure false:=by rfl) (hw:SO [.Subscript o k tpos] e X.env=pure none:=by rfl)
  (h1:(P0 [.Subscript o k tpos] X.env).map (·.2)=[Rm (.Subscript o k tpos) X.env]:=by rfl):DS X (.Assign [.Subscript o k tpos] e pos) (qJ fo fk fe):=by
 refine⟨?_⟩;refine cb (vA he.pe (EM ho.pe hk.pe set_list ha) hs hw h1) fun D σ H=>?_;rintro⟨O₀,H₀,F,ts,O,ρ,T,fl,ρ',T',rs,e,q⟩;obtain⟨w,T1,e1,e⟩:=aO e;obtain⟨wo,T2,e2,e⟩:=aO e;obtain⟨wk,T3,e3,e⟩:=aO e;refine⟨O,ts,ρ,T,w,T1,rs.hc,rs.re,e1,fun v H1 s1 hc1 r1=>?_⟩;have rs1:=rs.step s1 hc1;refine⟨O,ts,ρ,T1,wo,T2,hc1,rs1.re,e2,fun vo H2 s2 hc2 r2=>?_⟩;have rs2:=rs1.step s2 hc2;refine⟨O,ts,ρ,T2,wk,T3,hc2,rs2.re,e3,fun vk H3 s3 hc3 r3=>?_⟩;have rs3:=rs2.step s3 hc3;split at e
 .split at e
  .rename_i xs h1
   split at e
   .cases e
   .rename_i hn
    split at e
    .rename_i j h2
     cases e;obtain⟨a,k1,rfl⟩:=r2;cases (show Rep X.K O H3 vk (.int _) from r3);obtain⟨vs,k2,k3⟩:=(hc3.tape _ a xs k1 h1).lst (by simpa using hn);refine⟨a,vs,_,j,rfl,rfl,k2,by rw[k3.length];exact h2,q O _ _ (rs3.tape k1 (Reps.set ?_ j k3))⟩;exact Rep.mono ((hc1.le s2).trans (hc2.le s3)) r1
    .cases e
  .cases e
 .cases e
end
section
variable {K:Frag}{O₀:Addr->Prop}{H₀:Hp}{F:List ((Addr->Prop)×Hp)}{ts:List Addr}{O:Addr->Prop}{H H1:Hp}{σ:L2.St}{ρ:Rho}{T T1:Tp}
theorem RS.less(r:RS K O₀ H₀ (f::F) ts O H σ ρ T):RS K O₀ H₀ F ts O H σ ρ T:=⟨r.hc,r.re,r.sub,r.ots,r.same,r.fresh,r.dist,fun f hf=>r.frs f (Mr _ hf),r.len⟩
theorem RS.more(r:RS K O₀ H₀ F ts O H σ ρ T):RS K O₀ H₀ ((O,H)::F) ts O H σ ρ T:=⟨r.hc,r.re,r.sub,r.ots,r.same,r.fresh,r.dist,fun f hf=>by
 rcases MG.mp hf with z|z
 .subst z;exact fun a o n e=>⟨n,e⟩
 .exact r.frs f z,r.len⟩
end
section
variable {X:Cx}{pos:Pos}{st:Stmt}{rest:List Stmt}{f g:FS}{e:Expr}{fe:FE}{c:FT}
theorem gn(hN:X.N.Nodup)(hi:DI X (.Name x tpos) iter it)(hb:DSs X body f)(hix:X.N[i]? = some x:=by rfl)(hx:Loc X.env.scope x:=by first|exact Oe rfl|exact NP rfl)
  (hf:X.fn x=true\/X.env.scope.names.lookup x=some .local:=by first|exact .inl rfl|exact .inr rfl|assumption) (hp:Rq (MW X.prog X.w) X.A X.env X.xe:=by exact RZ) (hc:X.calm=true:=by rfl)
  (hs:∀x,NI iter X.env x=pure x:=by intro _;rfl):DS X (.For (.Name x tpos) iter body [] pos) (cB i it f):=by
 refine⟨?_⟩;refine cb (EJ hp hc hi.pe (lV hN hix hx hf) hb.pe hs) fun D σ H=>?_;rintro⟨O₀,H₀,F,ts,O,ρ,T,fl,ρ',T',rs,e,q⟩;obtain⟨ds,T1,e1,e⟩:=aO e;refine⟨O,ts,ρ,T,ds,T1,rs.hc,rs.re,e1,fun J H1 s1 hc1 ok hz=>?_⟩;refine⟨fun k m σ H=>m=ds.length-k/\k<=ds.length/\∃O' ρk Tk,RS X.K O₀ H₀ ((O,H1)::F) ts O' H σ ρk Tk/\forL i f (ds.drop k) ρk Tk=some ((fl,ρ'),T'),⟨_,rfl,Oj _,O,ρ,T1,(rs.step s1 hc1).more,e⟩,?_⟩;rintro k m σ2 H2 ⟨rfl,hk,O',ρk,Tk,rs2,ek⟩;obtain⟨k1,k2,k3⟩:=ok O' H2 (rs2.frs _ Mq)
 by_cases hlt:k<ds.length
 .refine .inr ⟨k1 k hlt,fun σ3 H3=>∃O' ρk Tk,RS X.K O₀ H₀ ((O,H1)::F) ts O' H3 σ3 ρk Tk/\forL i f (ds.drop (k+1)) ρk Tk=some ((fl,ρ'),T'),fun σ3 H3 n=>⟨ds.length-(k+1),by omega,rfl,hlt,n⟩,fun v H3 y=>?_⟩
  obtain⟨e2,d,hd,rd⟩:=k3 k v H3 y hlt;subst e2
  have hdr:ds.drop k=d::ds.drop (k+1):=by
   rw[PM hlt];have:=(My.mp hd).2;rw[this]
  rw[hdr] at ek;obtain⟨⟨fl1,ρ1⟩,T3,e3,ek⟩:=aO ek;refine⟨O₀,H₀,(O,H1)::F,ts,O',_,Tk,fl1,ρ1,T3,rs2.set (i:=i) (w:=.d d) rd (fun _ z=>nomatch z),e3,?_⟩
  cases fl1 with
  |nx=>exact fun O3 σ3 H3 rs3=>⟨O3,ρ1,T3,rs3,ek⟩
  |ct=>exact fun O3 σ3 H3 rs3=>⟨O3,ρ1,T3,rs3,ek⟩
  |bk=>
   cases ek;exact fun O3 σ3 H3 rs3=>q O3 σ3 H3 rs3.less
  |rt x=>
   cases ek;exact q
  |ro x=>
   cases ek;exact q
 .have e:k=ds.length:=by omega
  subst e;rw[Of (MC _)] at ek;cases ek;exact .inl ⟨k2,q O' σ2 H2 rs2.less⟩
theorem gM(n:Nat)(hc:DT X ce c)(hb:DSs X body f)(hp:Rq (MW X.prog X.w) X.A X.env X.xe:=by exact RZ):DS X (.While ce body [] pos) (bo c f n):=by
 refine⟨?_⟩;refine cb (Bq hp hc.pe hb.pe) fun D σ H=>?_;rintro⟨O₀,H₀,F,ts,O,ρ,T,fl,ρ',T',rs,e,q⟩;refine⟨fun m σ H=>∃O' ρm Tm,RS X.K O₀ H₀ F ts O' H σ ρm Tm/\bo c f m ρm Tm=some ((fl,ρ'),T'),⟨n,O,ρ,T,rs,e⟩,?_⟩;rintro m σ2 H2 ⟨O',ρm,Tm,rs2,em⟩
 cases m with
 |zero=>cases em
 |succ m=>
  obtain⟨b,T3,e3,em⟩:=aO em;refine⟨O',ts,ρm,Tm,b,T3,rs2.hc,rs2.re,e3,fun H3 s3 hc3=>?_⟩;have rs3:=rs2.step s3 hc3
  cases b with
  |false=>
   rw[if_neg MF] at em;cases em;exact dW (q O' σ2 H3 rs3)
  |true=>
   rw[if_pos rfl] at em;obtain⟨⟨fl1,ρ1⟩,T4,e4,em⟩:=aO em;refine dG ⟨fun σ3 H3=>∃O' ρm Tm,RS X.K O₀ H₀ F ts O' H3 σ3 ρm Tm/\bo c f m ρm Tm=some ((fl,ρ'),T'),fun σ3 H3 n=>⟨m,Rx m,n⟩,O₀,H₀,F,ts,O',ρm,T3,fl1,ρ1,T4,rs3,e4,?_⟩
   cases fl1 with
   |nx=>exact fun O3 σ3 H3 rs3=>⟨O3,ρ1,T4,rs3,em⟩
   |ct=>exact fun O3 σ3 H3 rs3=>⟨O3,ρ1,T4,rs3,em⟩
   |bk=>
    cases em;exact fun O3 σ3 H3 rs3=>q O3 σ3 H3 rs3
   |rt x=>
    cases em;exact q
   |ro x=>
    cases em;exact q
end
abbrev FnM:=List W->Tp->Option (Mo×Tp)
def dO:List W->Bool
 |[]=>true
 |.loc _::_=>false
 |_::r=>dO r
def dr(o:Option ((Fl×Rho)×Tp)):Option (Mo×Tp):=bnd o fun p T=>match p with
 |(.rt x,_)=>some (x,T)
 |(.nx,_)=>some (.none,T)
 |_=>none
def aW(N:Nat)(f:FS):FnM:=fun ws T=>if dO ws=true then dr (f (ws.map some++MX (N-ws.length) none) T) else none
inductive SpMP(K:Frag)(n:Nat)(m:FnM)(vs:List V)(H:Hp)(Q:VK):Prop where
 |mk (O:Addr->Prop) (ts:List Addr) (T:Tp) (ws:List W) (x:Mo) (T':Tp) (hc:HC K O ts H T) (r:fL K O ts H vs ws) (hl:ws.length=n) (e:m ws T=some (x,T')) (q:∀v H',SameX ts H H'->HC K O ts H' T'->Rep K O H' v x->Q v H'):SpMP K n m vs H Q
def spM(K:Frag)(n:Nat)(m:FnM):Sp:=fun vs H Q _=>SpMP K n m vs H Q
theorem nW{K:Frag}{O:Addr->Prop}{ts:List Addr}{H:Hp}:∀{vs:List V}{ws:List W}{i:Nat}{w:W},fL K O ts H vs ws->ws[i]? = some w->∃v,vs[i]? = some v/\RepW K O ts H v w
 |_,_,_,_,.nil,e=>by simp at e
 |_,_,0,_,.cons r _,e=>by simp at e;subst e;exact⟨_,rfl,r⟩
 |_,_,i+1,w,.cons _ t,e=>by
  obtain⟨d,h1,h2⟩:=nW (i:=i) (w:=w) t (by simpa using e);exact⟨d,by simpa using h1,h2⟩
theorem lu:∀{ws:List W}{xs:Mo},dO ws=true->W.loc xs∉ws
 |[],_,_,h=>by cases h
 |.loc _::_,_,e,_=>by cases e
 |.d _::r,_,e,h=>by
  rcases MG.mp h with z|z
  .cases z
  .exact lu (ws:=r) e z
 |.tp _::r,_,e,h=>by
  rcases MG.mp h with z|z
  .cases z
  .exact lu (ws:=r) e z
theorem lj{ws:List W}{n i:Nat}{w:W}(e:(ws.map some++MX n none)[i]? = some (some w)):ws[i]? = some w:=by
 by_cases h:i<ws.length
 .rw[M4 (by simpa using h),Nq] at e
  cases q:ws[i]? with
  |none=>rw[q] at e;cases e
  |some u=>rw[q] at e;cases e;rfl
 .rw[Q4 (by simpa using h)] at e
  have:=Nj e;rw[List.mem_replicate] at this;cases this.2
theorem dfn{P:MA}{w:ML}{K:Frag}{mg:Str->Option Mp}{base:Heap}{x qual:Str}{st:Stmt}{f:Addr}{fd:MS}{N ps:List Str}{k:Nat}{m:FS}(F:Fun K x qual st f fd)(S:FnScope N ps (aN st))
  (hbody:∀(cdv:Mp) (A:Nb) (outer:List Env) (s:Ms) (H:Hp) (E:XK),Room k (A.deeper (P1 qual (aN st) s.heap.objs.size f cdv))->DSs (eQ CX0 P w K mg base N qual (aN st) f cdv A outer s H E).nox (dM st) m) :
  FnOk P w K mg base CX0 (k+1) f fd ps (spM K ps.length (aW N.length m)):=by
 refine F.ok S (fun vs H Q E h=>?_) (fun cdv A outer s H vs Q E hr h=>⟨_,(hbody cdv A outer s H E hr).pe,?_⟩)
 .obtain⟨O,ts,T,ws,x,T',hc,rw',hl,_⟩:=h
  rw[←hl];exact Om rw'
 obtain⟨O,ts,T,ws,x,T',hc,rw',hl,e,q⟩:=h;unfold aW at e;split at e
 .rename_i hn
  obtain⟨⟨fl,ρ'⟩,T1,e1,e⟩:=aO e;have hlen:vs.length=ws.length:=Om rw';have noL:∀{i:Nat}{xs:Mo},(ws.map some++MX (N.length-ws.length) none)[i]? = some (some (W.loc xs))->False:=fun {i xs} e=>lu hn (Nj (lj e));refine⟨O,H,[],ts,O,_,T,fl,ρ',T1,⟨hc,fun i u e=>?_,fun _ h=>h,hc.own,.refl _ _,fun i xs a e1 _=>(noL e1).elim,fun i j xs ys v e1 _ _ _=>(noL e1).elim,fun f hf=>absurd hf (by simp),by simp[L2.start,hlen]⟩,e1,?_⟩
  .obtain⟨v,h1,h2⟩:=nW rw' (lj e)
   refine⟨v,?_,h2⟩;unfold L2.start;have hi:i<vs.length:=(My.mp h1).1;rw[M4 (by simpa using hi),Nq,h1];rfl
  .cases fl with
   |rt y=>cases e;exact fun v H' s1 c1 r1=>q v H' s1 c1 r1
   |nx=>
    cases e;exact fun O' σ' H' rs=>q _ _ rs.same rs.frzH .non
   |bk=>cases e
   |ct=>cases e
   |ro y=>cases e
 .cases e
def ax(m:FnM)(g:FA):FE:=fun ρ T=>bnd (g ρ T) fun ws T1=>bnd (m ws T1) fun x T2=>some (.d x,T2)
def kZ(g:FA)(n:Nat):Prop:=∀ρ T ws T',g ρ T=some (ws,T')->ws.length=n
theorem aL:kZ ai 0:=fun ρ T ws T' e=>by cases e;rfl
theorem aq(h:kZ g n):kZ (ae f g) (n+1):=fun ρ T ws T' e=>by
 obtain⟨w1,T1,e1,e⟩:=aO e;obtain⟨ws,T2,e2,e⟩:=aO e;cases e;rw[MY,h _ _ _ _ e2]
theorem aM(F:Fn X.prog X.w X.K X.mg X.base name ps k (spM X.K ps.length m))(hr:Room k X.A)(hg:Gl X name)(ha:DA X (e::es) g)(hl:kZ g ps.length)(hdb:(name == ("__debug__" : Str))=false:=by decide)
  (he:Mw (e::es) X.env=(false,eval e X.env)::Mw es X.env:=by exact bR rfl) (hpl:(Nv pos (Mw es X.env)).any (·.1)=false:=by exact cL rfl):DE X (.Call (.Name name p) (e::es) [] pos) (ax m g):=by
 refine⟨?_⟩;refine pe_imp (wy F hr hg ha.pe hdb he hpl) fun σ H Q=>?_;rintro⟨O,ts,ρ,T,w,T',hc,re,e,q⟩;obtain⟨ws,T1,e1,e⟩:=aO e;obtain⟨x,T2,e2,e⟩:=aO e;cases e;refine⟨O,ts,ρ,T,ws,T1,hc,re,e1,fun vs H1 s1 hc1 r1=>?_⟩;refine⟨O,ts,T1,ws,x,_,hc1,by rw[OL];exact r1,hl _ _ _ _ e1,e2,fun v H2 s2 hc2 r2=>q v H2 (s1.trans s2) hc2 r2⟩
noncomputable def iop(g:Int->Int->Option Mo):Mo->Mo->Option Mo
 |.int i,.int j=>g i j
 |_,_=>none
def er:Mo->Mo->Option PyData:=iop fun i j=>some (.int (i-j))
def cq:Mo->Mo->Option PyData:=iop fun i j=>if 0<j then some (.int (i % j)) else none
def G8:Mo->Mo->Option PyData:=iop fun i j=>if 0<j/\j<1073741824 then some (.int (i / j)) else none
def hU:Mo->Mo->Option PyData:=iop fun i j=>if 0<=j/\j<=1000000/\i.natAbs<2^64 then some (.int (i^j.toNat)) else none
def ltD:Mo->Mo->Option PyData:=iop fun i j=>some (.bool (decide (i<j)))
def leD:Mo->Mo->Option PyData:=iop fun i j=>some (.bool (decide (i<=j)))
def gtD:Mo->Mo->Option PyData:=iop fun i j=>some (.bool (decide (j<i)))
def geD:Mo->Mo->Option PyData:=iop fun i j=>some (.bool (decide (j<=i)))
theorem vS(e:iop g x y=some d):∃i j,x=.int i/\y=.int j/\g i j=some d:=by
 unfold iop at e;split at e
 .exact⟨_,_,rfl,rfl,e⟩
 .cases e
theorem pP{K:Frag}{C:Int->Int->Prop}{g:Int->Int->V}{gd:Int->Int->Option Mo}(h:∀i j d,gd i j=some d->C i j/\∀O H,Rep K O H (g i j) d):h9 K (rI C g) (iop gd):=fun O ts H T v1 v2 x y d Q hc h1 h2 e q=>by
 obtain⟨i,j,rfl,rfl,e⟩:=vS e;obtain⟨c,r⟩:=h i j d e;exact⟨i,j,h1.int,h2.int,c,q _ H (.refl _ _) hc (r O H)⟩
theorem jR{K:Frag}{g:Int->Int->V}{gd:Int->Int->Option Mo}(h:∀i j d,gd i j=some d->∀O H,Rep K O H (g i j) d):h9 K (rI0 g) (iop gd):=fun O ts H T v1 v2 x y d Q hc h1 h2 e q=>by
 obtain⟨i,j,rfl,rfl,e⟩:=vS e;exact⟨i,j,h1.int,h2.int,q _ H (.refl _ _) hc (h i j d e O H)⟩
section
variable {X:Cx}
theorem gX:OpD X (N9 .Sub) er:=⟨_,EV,jR fun i j d e O H=>by cases e;exact .int _⟩
theorem eJ:OpD X (N9 .Mod) cq:=⟨_,EX,pP fun i j d e=>by
 split at e
 .rename_i h;cases e;exact⟨h,fun _ _=>.int _⟩
 .cases e⟩
theorem ky:OpD X (N9 .Pow) hU:=⟨_,EW,pP fun i j d e=>by
 split at e
 .rename_i h;cases e;exact⟨h,fun _ _=>.int _⟩
 .cases e⟩
theorem du:OpD X (M7 .Lt) ltD:=⟨_,GH,jR fun i j d e O H=>by cases e;exact .bl _⟩
theorem iT:OpD X (M7 .LtE) leD:=⟨_,GI,jR fun i j d e O H=>by cases e;exact .bl _⟩
theorem dv:OpD X (M7 .Gt) gtD:=⟨_,GJ,jR fun i j d e O H=>by cases e;exact .bl _⟩
theorem HL:OpD X (M7 .GtE) geD:=⟨_,GK,jR fun i j d e O H=>by cases e;exact .bl _⟩
def aR:Mo->Mo->Option Mo
 |.int i,.int j=>some (.int (i+j))
 |.str x,.str y=>if x.length+y.length<=Mz then some (.str (x++y)) else none
 |.tuple xs,.tuple ys=>if xs.length+ys.length<=Mz then some (.tuple (xs++ys)) else none
 |.list xs,.list ys=>if xs.length+ys.length<=Mz then some (.list (xs++ys)) else none
 |_,_=>none
def Gs(K:Frag):R2:=fun x y H Q=>∃l b xs zs,x=.ref l/\y=.ref b/\SqL K H l xs/\SqL K H b zs/\xs.length+zs.length<=Mz/\∀p,H p=none->Q (.ref p) (upd H p (.lst (xs++zs)))
theorem Di:OpR X (N9 .Add) (Gs X.K):=by
 intro pins s σ H x y v u Q I rx ry h;obtain⟨l,b,xs,zs,rfl,rfl,hH,hB,hz,q⟩:=h;cases rx;cases ry;obtain⟨its,r,p1,_⟩:=I.list hH;obtain⟨its2,r2,p2,_⟩:=I.list hB;have hl:=r.length;have hl2:=r2.length;obtain⟨⟨cls,dd,data,sl⟩,ho,hc,n,hd⟩:=id p1.isList;obtain⟨⟨cls2,dd2,data2,sl2⟩,ho2,hc2,n2,hd2⟩:=id p2.isList;simp only at hc hd hc2 hd2;subst hc hd hc2 hd2
 have ea:its.toArray++its2.toArray=(its++its2).toArray:=by simp
 refine RM ⟨_,ho,rfl⟩ ⟨_,ho2,rfl⟩ noFill_list_add seq_list_add PySem.F.slot_list_add PySem.F.entry_list_add (PySem.F.args_list_add_2 _ _) (list_addW l b its.toArray its2.toArray n n2 dd dd2 sl sl2 (by rw[MH,MH];omega)) ⟨ho,ho2,?_⟩;rw[ea];exact⟨.ref _,_,I.lnew (t':=s.toks) (r.append r2) (by rw[Na];omega),rfl,q _ I.fresh⟩
theorem ba:OpD X (N9 .Add) aR:=by
 refine⟨_,op_add.or (op_add_str.or (op_catG.or Di)),fun O ts H T v1 v2 x y d Q hc h1 h2 e q=>?_⟩;unfold aR at e;split at e
 .cases e
  exact .inl ⟨_,_,h1.int,h2.int,q _ H (.refl _ _) hc (.int _)⟩
 .split at e
  .rename_i hz
   cases e;exact .inr (.inl ⟨_,_,h1.str,h2.str,hz,q _ H (.refl _ _) hc (.str _)⟩)
  .cases e
 .split at e
  .rename_i xs ys hz
   cases e;obtain⟨a,vs,rfl,t1,r1⟩:=h1.tup;obtain⟨b,us,rfl,t2,r2⟩:=h2.tup;refine .inr (.inr (.inl ⟨a,b,vs,us,rfl,rfl,t1.sq,t2.sq,by rw[r1.length,r2.length];exact hz,fun z=>?_,fun _ z=>?_,fun _ _ p hp=>?_⟩))
   .subst z
    cases r1;exact q _ H (.refl _ _) hc (.tup t2 r2)
   .subst z
    cases r2;rw[OL] at q;exact q _ H (.refl _ _) hc (.tup t1 r1)
   .exact q _ _ (.new hp _) (hc.new hp _) (hc.newT hp (r1.append r2))
  .cases e
 .split at e
  .rename_i xs ys hz
   cases e;obtain⟨a,vs,rfl,t1,r1⟩:=h1.lst;obtain⟨b,us,rfl,t2,r2⟩:=h2.lst;exact .inr (.inr (.inr ⟨a,b,vs,us,rfl,rfl,t1,t2,by rw[r1.length,r2.length];exact hz,fun p hp=>q _ _ (.new hp _) (hc.new hp _) (hc.newL hp (r1.append r2))⟩))
  .cases e
 .cases e
theorem ya:fillsNumberSlot (.type "tuple") "mul"=pure false:=PySem.fillsNumberSlot_seq (id:="tuple.__mul__") (r:=some (.builtin "tuple.__rmul__")) Ql.lookup (by decide +kernel) Ry.lookup (by decide +kernel)
theorem yQ:seqRepeat? (.type "tuple")=pure (some (.builtin "tuple.__mul__")):=by
 unfold seqRepeat?;rw[TU (T:="tuple") (name:="__mul__") (id:="tuple.__mul__") Ql.lookup (by decide +kernel),TU (T:="tuple") (name:="__rmul__") (id:="tuple.__rmul__") Ry.lookup (by decide +kernel)];rfl
theorem yu(a:Int)(t:Tok)(l:Addr)(items:Array Mp)(n:Nat)(dd:Option Addr)(sl:Array (Option Mp)) :
  Meets (PF.«int.__rmul__» ⟨[.int a t,.ref l],[]⟩) (fun _ R s=>s.heap.get? l=some { cls:=.type "tuple",dict:=dd,data:=.seq items n,slots:=sl }/\R (.ok (.ret Value.notImplemented)) s):=.of_wp fun prog w A R s h=>by obtain⟨hp,g,d,tk,os⟩:=s;obtain⟨hl,h⟩:=h;wp_walk;exact⟨_,rfl,h⟩
theorem zE(l:Addr)(items:Array Mp)(n:Nat)(dd:Option Addr)(sl:Array (Option Mp))(k:Int)(t:Tok)(h1:2<=k)(h2:k<=1000)(h3:items.isEmpty=false)(h4:items.size<=1000) :
  Meets (PF.«tuple.__mul__» ⟨[.ref l,.int k t],[]⟩) (fun _ R s=>s.heap.get? l=some { cls:=.type "tuple",dict:=dd,data:=.seq items n,slots:=sl }/\R (.ok (.ret (MK s.heap.objs.size))) { s with heap:=s.heap.push { cls:=Pb "tuple",data:=Data.seq (Q7 (fun x1 x2=>x1++x2) #[] (MX k.toNat items)) },toks:=s.toks }):=
 .of_wp fun prog w A R s h=>by
  obtain⟨hp,g,d,tk,os⟩:=s;obtain⟨hl,h⟩:=h
  have hc0:¬(decide (k < -(2^63))||decide (k>=2^63))=true:=by simp;omega
  have hc1:¬(items.isEmpty||k == 1)=true:=by rw[h3];simp;omega
  have hc2:¬(decide (k<=0)||items.isEmpty)=true:=by rw[h3];simp;omega
  have hm:items.size*k.toNat<=1000*1000:=Si h4 (by omega)
  have hm':(items.size:Int)*k<=1000000:=by
   have e:((items.size*k.toNat:Nat):Int)=(items.size:Int)*k:=by rw[Int.natCast_mul,Int.toNat_of_nonneg (by omega)]
   omega
  have hc3:¬(items.size:Int)*k>(2^63-1) / 8:=by
   have:(1000000:Int)<=(2^63-1) / 8:=by decide
   omega
  have hc4:¬Q8 ((items.size:Int)*k)=true:=by
   unfold Q8
   have:Mz=16777216:=by decide
   simp;omega
  have ht:Tb hp l items:=⟨_,hl,rfl,n,rfl⟩;wp_walk;rw[if_neg hc0];dsimp only;refine Mu (SR ht ?_);rw[if_neg hc1,if_neg hc2,if_neg hc3,if_neg hc4]
  have fit:sizeOk (.seq (Q7 (fun x1 x2=>x1++x2) #[] (MX k.toNat items))):=by
   show (Q7 (fun x1 x2=>x1++x2) #[] (MX k.toNat items)).size<=Mz;have q:=foldl_rep items.toList k.toNat [];rw[Pj] at q
   have q':Q7 (fun x1 x2=>x1++x2) #[] (MX k.toNat items)=(MX k.toNat items.toList).flatten.toArray:=by simpa using q
   rw[q',MH,len_rep]
   have:Mz=16777216:=by decide
   rw[NN,Nat.mul_comm];omega
  first
  |exact Mu (m:=N4 _) (NR (MI ⟨_,rfl,h⟩) fit)
  |exact Mu (m:=N4 _) (NR (Mu (MI (MI ⟨_,rfl,h⟩))) fit)
theorem De:OpR X (N9 .Mult) (fun x y H Q=>∃a k xs,x=.ref a/\y=.int k/\SqT X.K H a xs/\2<=k/\k<=1000/\xs≠[]/\xs.length<=1000/\∀p,H p=none->Q (.ref p) (upd H p (.tup (MX k.toNat xs).flatten))):=by
 intro pins s σ H x y v u Q I rx ry h;obtain⟨a,k,xs,rfl,rfl,hq,h1,h2,h3,h4,q⟩:=h;cases rx;obtain⟨t,rfl⟩:=ry;obtain⟨its,r,p1,_⟩:=I.tuple hq;have hl:=r.length;have hv:its≠[]:=fun z=>h3 (r.nil_iff.mp z);obtain⟨⟨cls,dd,data,sl⟩,ho,hc,n,hd⟩:=id p1;simp only at hc hd;subst hc hd
 have hnew:Q7 (fun x1 x2=>x1++x2) #[] (MX k.toNat its.toArray)=(MX k.toNat its).flatten.toArray:=by
  have q:=foldl_rep its k.toNat [];rw[Pj] at q;exact q
 have he:its.toArray.isEmpty=false:=by
  cases its with
  |nil=>exact absurd rfl hv
  |cons _ _=>simp
 refine wpAny_binaryOp_repeat_ref (T:="tuple") (U:="int") (by decide) ⟨_,ho,rfl⟩ (fun s'=>UC s' k t) ya F.fills_int_mul Up yQ F.slot_int_index.lookup
  (Qv Up (UC s k t) F.entry_int_rmul (F.args_int_rmul_2 _ _) (yu k t a its.toArray n dd sl)
   ⟨ho,rfl,⟨_,ho,rfl⟩,Qv Ql ⟨_,ho,rfl⟩ PySem.F.entry_tuple_mul (PySem.F.args_tuple_mul_2 _ _) (zE a its.toArray n dd sl k t h1 h2 he (by rw[MH];omega)) ⟨ho,?_⟩⟩)
 rw[hnew];refine⟨.ref s.heap.objs.size,_,I.laid (t':=s.toks) (o:=.tup (MX k.toNat xs).flatten) (fun b ob q=>Mt _ q) (MC _) ?_,rfl,q _ (I.hok.fresh (MC _))⟩;refine⟨?_,_,r.rep k.toNat,TQ _ _⟩;rw[len_rep];have:k.toNat*xs.length<=1000*1000:=Si (by omega) h4
 have:Mz=16777216:=by decide
 omega
def b7:Mo->Mo->Option Mo
 |.int i,.int j=>if (-(2^64)<i/\i<2^64)\/(-(2^64)<j/\j<2^64) then some (.int (i*j)) else none
 |.str z,.int k=>if 0<=k/\k<=2000/\z.length<=1000 then some (.str (PD z k)) else none
 |.tuple xs,.int k=>if 2<=k/\k<=1000/\xs.isEmpty=false/\xs.length<=1000 then some (.tuple (MX k.toNat xs).flatten) else none
 |_,_=>none
theorem fB:OpD X (N9 .Mult) b7:=by
 refine⟨_,op_mul.or (op_mulS.or De),fun O ts H T v1 v2 x y d Q hc h1 h2 e q=>?_⟩;unfold b7 at e;split at e
 .split at e
  .rename_i hz
   cases e;exact .inl ⟨_,_,h1.int,h2.int,hz,q _ H (.refl _ _) hc (.int _)⟩
  .cases e
 .split at e
  .rename_i hz
   cases e;exact .inr (.inl ⟨_,_,h1.str,h2.int,hz.1,hz.2.1,hz.2.2,q _ H (.refl _ _) hc (.str _)⟩)
  .cases e
 .split at e
  .rename_i xs k hz
   cases e;obtain⟨a,vs,rfl,t1,r1⟩:=h1.tup;exact .inr (.inr ⟨a,_,vs,rfl,h2.int,t1.sq,hz.1,hz.2.1,fun z=>by subst z;cases r1;exact absurd hz.2.2.1 (by simp),by rw[r1.length];exact hz.2.2.2,fun p hp=>q _ _ (.new hp _) (hc.new hp _) (hc.newT hp (r1.rep _))⟩)
  .cases e
 .cases e
def eqS:Mo->Mo->Option Bool
 |.int i,.int j=>some (decide (i=j))
 |.str x,.str y=>some (decide (x=y))
 |.bool a,.bool b=>some (decide (a=b))
 |.none,.none=>some true
 |.none,.int _=>some false | .int _,.none=>some false | .none,.bool _=>some false | .bool _,.none=>some false | .none,.str _=>some false | .str _,.none=>some false
 |.int _,.str _=>some false | .str _,.int _=>some false | .bool _,.str _=>some false | .str _,.bool _=>some false
 |_,_=>none
theorem vV{K:Frag}{O:Addr->Prop}{H:Hp}{v1 v2:V}{x y:Mo}{b:Bool}(h1:Vw K O H v1 x)(h2:Vw K O H v2 y)(e:eqS x y=some b):qy v1 v2=true/\decide (v1=v2)=b:=by
 unfold eqS at e;split at e
 all_goals first|(cases e;done)|skip
 .cases h1.int;cases h2.int;cases e;exact⟨rfl,by simp⟩
 .cases h1.str;cases h2.str;cases e;exact⟨rfl,by simp⟩
 .cases h1.bl;cases h2.bl;cases e;exact⟨rfl,by simp⟩
 .cases h1.non;cases h2.non;cases e;exact⟨rfl,by simp⟩
 .cases h1.non;cases h2.int;cases e;exact⟨rfl,by simp⟩
 .cases h1.int;cases h2.non;cases e;exact⟨rfl,by simp⟩
 .cases h1.non;cases h2.bl;cases e;exact⟨rfl,by simp⟩
 .cases h1.bl;cases h2.non;cases e;exact⟨rfl,by simp⟩
 .cases h1.non;cases h2.str;cases e;exact⟨rfl,by simp⟩
 .cases h1.str;cases h2.non;cases e;exact⟨rfl,by simp⟩
 .cases h1.int;cases h2.str;cases e;exact⟨rfl,by simp⟩
 .cases h1.str;cases h2.int;cases e;exact⟨rfl,by simp⟩
 .cases h1.bl;cases h2.str;cases e;exact⟨rfl,by simp⟩
 .cases h1.str;cases h2.bl;cases e;exact⟨rfl,by simp⟩
def eqD(x y:Mo):Option PyData:=(eqS x y).map .bool
def neD(x y:Mo):Option PyData:=(eqS x y).map fun b=>.bool (!b)
theorem a7:OpD X (M7 .Eq) eqD:=⟨_,GL,fun O ts H T v1 v2 x y d Q hc h1 h2 e q=>by
 unfold eqD at e;obtain⟨b,e1,rfl⟩:=M9.mp e;obtain⟨k1,k2⟩:=vV h1 h2 e1
 exact⟨k1,by rw[k2];exact q _ H (.refl _ _) hc (.bl _)⟩⟩
theorem eO:OpD X (M7 .NotEq) neD:=⟨_,GF,fun O ts H T v1 v2 x y d Q hc h1 h2 e q=>by
 unfold neD at e;obtain⟨b,e1,rfl⟩:=M9.mp e;obtain⟨k1,k2⟩:=vV h1 h2 e1
 exact⟨k1,by rw[k2];exact q _ H (.refl _ _) hc (.bl _)⟩⟩
def isNone:Mo->Bool
 |.none=>true
 |_=>false
theorem AF{K:Frag}{O:Addr->Prop}{H:Hp}{v:V}{x:Mo}(h:Vw K O H v x):decide (v=.non)=isNone x:=by
 cases h with
 |rep h=>cases h <;> rfl
 |raw _ _=>rfl
 |rawD _ _=>rfl
def isD:Mo->Mo->Option Mo
 |x,.none=>some (.bool (isNone x))
 |_,_=>none
theorem kN:OpD X (M7 .Is) isD:=⟨_,EY,fun O ts H T v1 v2 x y d Q hc h1 h2 e q=>by
 unfold isD at e;split at e
 .cases e
  exact⟨h2.non,by rw[AF h1];exact q _ H (.refl _ _) hc (.bl _)⟩
 .cases e⟩
def Fj:Mo->Mo->Option Mo
 |x,.none=>some (.bool (!isNone x))
 |.bool a,.bool b=>some (.bool (a != b))
 |_,_=>none
def cz:Mo->Bool
 |.none=>true | .bool _=>true | .int _=>true | .str _=>true
 |_=>false
def eqF:Mo->Mo->Bool
 |.none,.none=>true
 |.bool a,.bool b=>a == b
 |.bool a,.int b=>(if a then 1 else 0) == b
 |.int a,.bool b=>a == (if b then 1 else 0)
 |.int a,.int b=>a == b
 |.str a,.str b=>a == b
 |_,_=>false
def hW(y x:Str):Bool:=!(Nl y x 0 y.length 1).isEmpty
def inS:Mo->Mo->Option Bool
 |.str x,.str y=>some (hW y x)
 |x,.list ys=>if cz x&&ys.all cz then some (ys.any fun y=>eqF y x) else none
 |x,.tuple ys=>if cz x&&ys.all cz then some (ys.any fun y=>eqF y x) else none
 |_,_=>none
theorem pk{K:Frag}{O:Addr->Prop}{H:Hp}{v:V}{x:Mo}(h:Rep K O H v x)(e:cz x=true):fF v=true:=by cases h <;> first|rfl|cases e
theorem Fy{K:Frag}{O:Addr->Prop}{H:Hp}{v u:V}{x y:Mo}(h:Rep K O H v x)(g:Rep K O H u y)(ex:cz x=true)(ey:cz y=true):eqV v u=eqF x y:=by cases h <;> cases g <;> first|rfl|cases ex|cases ey
theorem oI{K:Frag}{O:Addr->Prop}{H:Hp}:∀{vs:List V}{xs:List Mo},Reps K O H vs xs->xs.all cz=true->vs.all fF=true
 |_,_,.nil,_=>rfl
 |_,_,.cons r t,e=>by
  rw[Pn,Mx] at e;rw[Pn,pk r e.1,oI t e.2];rfl
theorem pH{K:Frag}{O:Addr->Prop}{H:Hp}{v:V}{x:Mo}(h:Rep K O H v x)(ex:cz x=true):∀{vs:List V}{xs:List Mo},Reps K O H vs xs->xs.all cz=true->(vs.any fun y=>eqV y v)=xs.any fun y=>eqF y x
 |_,_,.nil,_=>rfl
 |_,_,.cons r t,e=>by
  rw[Pn,Mx] at e;rw[OD,OD,Fy r h e.1 ex,pH h ex t e.2]
theorem Vw.flat{K:Frag}{O:Addr->Prop}{H:Hp}{v:V}{x:Mo}(h:Vw K O H v x)(e:cz x=true):Rep K O H v x:=by
 cases h with
 |rep h=>exact h
 |raw _ _=>cases e
 |rawD _ _=>cases e
def inD(x y:Mo):Option PyData:=(inS x y).map .bool
def bL(x y:Mo):Option PyData:=(inS x y).map fun b=>.bool (!b)
theorem mn{K:Frag}(neg:Bool):h9 K (fun x y H Q=>(∃i j,x=.str i/\y=.str j/\Q (.bl (if neg then !(hW j i) else hW j i)) H)\/rIn K neg x y H Q) (fun x y=>(inS x y).map fun b=>.bool (if neg then !b else b)):=fun O ts H T v1 v2 x y d Q hc h1 h2 e q=>by
 obtain⟨b,e1,rfl⟩:=M9.mp e;unfold inS at e1;split at e1
 .cases e1
  exact .inl ⟨_,_,h1.str,h2.str,q _ H (.refl _ _) hc (.bl _)⟩
 .split at e1
  .rename_i hf
   cases e1;rw[Mx] at hf;obtain⟨a,vs,rfl,t,r⟩:=h2.lst;have r1:=h1.flat hf.1;refine .inr ⟨a,vs,rfl,.inl t,pk r1 hf.1,oI r hf.2,?_⟩;have z:inV v1 vs=_:=pH r1 hf.1 r hf.2;rw[z];exact q _ H (.refl _ _) hc (.bl _)
  .cases e1
 .split at e1
  .rename_i hf
   cases e1;rw[Mx] at hf;obtain⟨a,vs,rfl,t,r⟩:=h2.tup;have r1:=h1.flat hf.1;refine .inr ⟨a,vs,rfl,.inr t.sq,pk r1 hf.1,oI r hf.2,?_⟩;have z:inV v1 vs=_:=pH r1 hf.1 r hf.2;rw[z];exact q _ H (.refl _ _) hc (.bl _)
  .cases e1
 .cases e1
theorem qB:OpD X (M7 .In) inD:=⟨_,op_in_str.or sC,mn false⟩
theorem gc:OpD X (M7 .NotIn) bL:=⟨_,op_notin_str.or qX,mn true⟩
def bA:Mo->Option Mo
 |.int i=>some (.int (-i))
 |_=>none
theorem dA(ha:DE X a fa):DE X (.UnaryOp .USub a pos) (fUn bA fa):=Hc Ej (fun O ts H T v x d Q hc h e q=>by
 unfold bA at e;split at e
 .cases e
  exact⟨_,h.int,q _ H (.refl _ _) hc (.int _)⟩
 .cases e) ha
def ixD:Mo->Mo->Option Mo
 |.list xs,.int i=>atI xs i
 |.tuple xs,.int i=>atI xs i
 |.str z,.int i=>if z.length<=Mz then (atI z.cps.toList i).map fun c=>.str ⟨#[c]⟩ else none
 |_,_=>none
theorem uH{K:Frag}{O:Addr->Prop}{H:Hp}{vs:List V}{xs:List Mo}{i:Int}{d:Mo}(r:Reps K O H vs xs)(e:atI xs i=some d):∃v,atI vs i=some v/\Rep K O H v d:=by
 unfold atI at e ⊢;rw[r.length]
 cases h:ixN xs.length i with
 |none=>rw[h] at e;cases e
 |some j=>
  rw[h] at e;exact r.getD e
theorem aB:IxD X ixD:=⟨_,Fe,fun O ts H T v1 v2 x y d Q hc h1 h2 e q=>by
 unfold ixD at e;split at e
 .obtain⟨a,vs,rfl,t,r⟩:=h1.lst
  obtain⟨v,k1,k2⟩:=uH r e;exact .inl ⟨a,vs,_,v,rfl,h2.int,t,k1,q _ H (.refl _ _) hc k2⟩
 .obtain⟨a,vs,rfl,t,r⟩:=h1.tup
  obtain⟨v,k1,k2⟩:=uH r e;exact .inr (.inl ⟨a,vs,_,v,rfl,h2.int,t.sq,k1,q _ H (.refl _ _) hc k2⟩)
 .split at e
  .rename_i hz
   obtain⟨c,k1,rfl⟩:=M9.mp e;exact .inr (.inr ⟨_,_,c,h1.str,h2.int,hz,k1,q _ H (.refl _ _) hc (.str _)⟩)
  .cases e
 .cases e⟩
end
theorem xX{prog:MA}{w:ML}{A:Nb}{E:Mp->Ms->Prop}{s:Ms}{t sl:Addr}{items:Array Mp}{vl vu:Mp}{lo hi:Option Int}{Q:Mp->Ms->Prop}(ht:Tb s.heap t items)(hs:s.heap.IsSliceOf sl vl vu .none)(pl:RN vl lo)(pu:RN vu hi)
  (hw:HT.sIx items.size 0 lo=0/\HT.sIx items.size items.size hi=items.size) (h:Q (.ref t) s):MU (MW prog w) A (Ri (.ref t) (.ref sl)) Q E s:=by
 obtain⟨os,hos,hcs,hds⟩:=id hs;have hTs:s.TypeIs (.ref sl) "slice":=⟨os,hos,hcs⟩;unfold Ri
 try with_reducible refine Ob ?_
 first|refine Mu (MI ?_)|skip
 refine Mu (Ti ht.typeIs (by decide) ?_)
 refine Mu (Ru (name:=Mv "__getitem__") ht.typeIs NE
  (Rv NE ht.typeIs SE ?_ (S0 _ _)))
 show MU _ _ (Q6 (.ref t) >>= _) _ _ s;refine Mu (SR ht ?_);refine Mu (QP hTs ?_);rw[if_pos (by decide)];refine Mu (HT.qT hs pl pu ?_)
 have hyes:((((HT.sIx items.size 0 lo:Nat):Int) == 0&&(1:Int) == 1&&(HT.sIx items.size items.size hi-HT.sIx items.size 0 lo) == items.size)=true):=by
  rw[hw.1,hw.2];simp
 show MU _ _ (if (((HT.sIx items.size 0 lo:Nat):Int) == 0&&(1:Int) == 1&&(HT.sIx items.size items.size hi-HT.sIx items.size 0 lo) == items.size)=true then _ else _) _ _ s;rw[if_pos hyes];refine Mu (m:=UF (.ref t)) (Mu (QP ht.typeIs (MI ?_)))
 first
 |exact Mu (UG (Mu (MI ⟨_,rfl,MI h⟩)))
 |(simp only[beq_self_eq_true,if_true];exact Mu (UG (MI ⟨_,rfl,MI h⟩)))
def cS{α:Type}(xs:List α)(lo hi:Option Int):List α:=(xs.drop (HT.sIx xs.length 0 lo)).take (HT.sIx xs.length xs.length hi-HT.sIx xs.length 0 lo)
theorem Reps.cut{K:Frag}{O:Addr->Prop}{H:Hp}{vs:List V}{ds:List Mo}(r:Reps K O H vs ds)(lo hi:Option Int):Reps K O H (gC vs lo hi) (cS ds lo hi):=by
 unfold gC cS;rw[r.length];exact(r.drop _).take _
theorem AU{α:Type}{xs:List α}{lo hi:Option Int}(h:HT.sIx xs.length 0 lo=0/\HT.sIx xs.length xs.length hi=xs.length):cS xs lo hi=xs:=by
 unfold cS;rw[h.1,h.2];simp
section
variable {X:Cx}
theorem sl_tupA:SlR X (fun x lo hi H Q=>∃a xs,x=.ref a/\SqT X.K H a xs/\((HT.sIx xs.length 0 lo=0/\HT.sIx xs.length xs.length hi=xs.length)->Q (.ref a) H) /\
  (¬(HT.sIx xs.length 0 lo=0/\HT.sIx xs.length xs.length hi=xs.length)->∀p,H p=none->Q (.ref p) (upd H p (.tup (gC xs lo hi))))):=by
 intro pins s σ H x v vl vu lo hi sl Q I rx hs pl pu h;obtain⟨a,xs,rfl,hx,q1,q2⟩:=h
 by_cases hw:HT.sIx xs.length 0 lo=0/\HT.sIx xs.length xs.length hi=xs.length
 .cases rx
  obtain⟨its,r,ht,hz⟩:=I.tuple hx
  have hlen:its.toArray.size=xs.length:=by rw[MH];exact r.length.symm
  refine⟨"tuple",_,NE.lookup,ht.typeIs,?_⟩;exact xX ht hs pl pu (by rw[hlen];exact hw) ⟨.ref a,H,I,rfl,q1 hw⟩
 .exact Eu pins s σ H _ v vl vu lo hi sl Q I rx hs pl pu ⟨a,xs,rfl,hx,hw,q2 hw⟩
def j8(x:Mo)(lo hi:Option Int):Option PyData:=match x with
 |.list xs=>some (.list (cS xs lo hi))
 |.tuple xs=>some (.tuple (cS xs lo hi))
 |.str z=>if z.length<=Mz then some (.str (NH z lo hi)) else none
 |_=>none
abbrev FO:=Rho->Tp->Option (Option Int×Tp)
def bw:FO:=fun _ T=>some (none,T)
def fP(f:FE):FO:=fun ρ T=>bnd (f ρ T) fun w T1=>match w with
 |.d (.int i)=>some (some i,T1)
 |_=>none
inductive LiftOP(K:Frag)(f:FO)(σ:L2.St)(H:Hp)(Q:Option Int->Hp->Prop):Prop where
 |mk (O:Addr->Prop) (ts:List Addr) (ρ:Rho) (T:Tp) (o:Option Int) (T':Tp) (hc:HC K O ts H T) (re:RelE K O ts H σ ρ) (e:f ρ T=some (o,T')) (q:∀H',SameX ts H H'->HC K O ts H' T'->Q o H'):LiftOP K f σ H Q
def GY(K:Frag)(f:FO):TO:=fun σ H Q=>LiftOP K f σ H Q
structure DO(X:Cx)(e:Option Expr)(f:FO):Prop where
 pe:PO X e (GY X.K f)
theorem vB(h:PO X e t)(i:∀σ H Q,t' σ H Q->t σ H Q):PO X e t':=fun pins s σ H Q I q=>h pins s σ H Q I (i σ H Q q)
theorem df:DO X none bw:=by
 refine⟨?_⟩;refine vB C4 fun σ H Q=>?_;rintro⟨O,ts,ρ,T,o,T',hc,re,e,q⟩;cases e;exact q H (.refl _ _) hc
theorem bZ(h:DE X e f):DO X (some e) (fP f):=by
 refine⟨?_⟩;refine vB (C3 h.pe) fun σ H Q=>?_;rintro⟨O,ts,ρ,T,o,T',hc,re,e,q⟩;obtain⟨w1,T1,e1,e⟩:=aO e;refine⟨O,ts,ρ,T,w1,T1,hc,re,e1,fun v1 H1 s1 hc1 r1=>?_⟩;split at e
 .cases e
  cases (show Rep X.K O H1 v1 _ from r1);exact⟨_,rfl,q H1 s1 hc1⟩
 .cases e
def fSl(f:FE)(l u:FO):FE:=fun ρ T=>bnd (f ρ T) fun w T1=>bnd (l ρ T1) fun lo T2=>bnd (u ρ T2) fun hi T3=>op1 (fun x=>j8 x lo hi) T3 w
theorem cF{e:Expr}{lo hi:Option Expr}{f:FE}{l u:FO}{pos p2:Pos}(he:DE X e f)(hl:DO X lo l)(hu:DO X hi u):DE X (.Subscript e (.Slice lo hi none p2) pos) (fSl f l u):=by
 refine⟨?_⟩;refine pe_imp (Bu (sl_list.or (sl_tupA.or Ew)) he.pe hl.pe hu.pe) fun σ H Q=>?_;rintro⟨O,ts,ρ,T,w,T',hc,re,e,q⟩;obtain⟨w1,T1,e1,e⟩:=aO e;obtain⟨o1,T2,e2,e⟩:=aO e;obtain⟨o2,T3,e3,e⟩:=aO e;obtain⟨x,d,h1,h3,rfl,rfl⟩:=jj e;refine⟨O,ts,ρ,T,w1,T1,hc,re,e1,fun v1 H1 s1 hc1 r1=>?_⟩;refine⟨O,ts,ρ,T1,o1,T2,hc1,re.mono hc s1,e2,fun H2 s2 hc2=>?_⟩;refine⟨O,ts,ρ,T2,o2,T',hc2,re.mono hc (s1.trans s2),e3,fun H3 s3 hc3=>?_⟩;have vw:=hc3.view (r1.mono hc1 (s2.trans s3)) h1;have q':∀v H',SameX ts H3 H'->HC X.K O ts H' T'->Rep X.K O H' v d->Q v H':=fun v H' s c r=>q v H' (s1.trans (s2.trans (s3.trans s))) c r;clear q
 cases x with
 |list xs=>
  cases h3;obtain⟨a,vs,rfl,t,r⟩:=vw.lst;exact .inl ⟨a,vs,rfl,t,fun p hp=>q' _ _ (.new hp _) (hc3.new hp _) (hc3.newL hp (r.cut _ _))⟩
 |tuple xs=>
  cases h3;obtain⟨a,vs,rfl,t,r⟩:=vw.tup;refine .inr (.inl ⟨a,vs,rfl,t.sq,fun hw=>?_,fun hw p hp=>?_⟩)
  .rw[r.length] at hw
   rw[AU hw] at q';exact q' _ H3 (.refl _ _) hc3 vw.tupR
  .exact q' _ _ (.new hp _) (hc3.new hp _) (hc3.newT hp (r.cut _ _))
 |str z=>
  have h3':(if z.length<=Mz then some (Nk (NH z o1 o2)) else none)=some d:=h3;split at h3'
  .rename_i hz
   cases h3';exact .inr (.inr ⟨z,vw.str,hz,q' _ H3 (.refl _ _) hc3 (.str _)⟩)
  .cases h3'
 |_=>cases h3
end
inductive Kd where
 |non|bl|int|str|tup|lst|dct
 deriving DecidableEq
def Kd.name:Kd->String
 |.non=>"NoneType" | .bl=>"bool" | .int=>"int" | .str=>"str" | .tup=>"tuple" | .lst=>"list" | .dct=>"dict"
def kd:Mo->Kd
 |.none=>.non | .bool _=>.bl | .int _=>.int | .str _=>.str | .list _=>.lst | .tuple _=>.tup | .dict _=>.dct
def a8(a b:Kd):Bool:=decide (a=b)||(decide (a=.bl)&&decide (b=.int))
def HQ(t c:String):Option Bool:=if (Pb t == Pb c)=true then some true else if Uq c=true then (fastBuiltinMro t).map (·.contains (.type c)) else none
theorem gf(a b:Kd):b≠.non->HQ a.name b.name=some (a8 a b):=by cases a <;> cases b <;> first|(intro h;exact absurd rfl h)|(intro _;decide +kernel)
section
variable {X:Cx}
theorem Cj:CallR X (.builtin "isinstance") (fun xs H Q=>∃(x:V) (c:Kd) (O:Addr->Prop) (d:Mo),xs=[x,.ty c.name]/\Vw X.K O H x d/\c≠.non/\Q (.bl (a8 (kd d) c)) H):=by
 intro pins s σ H xs us Q I r h;obtain⟨x,c,O,d,rfl,vw,hc,q⟩:=h;obtain⟨u,w',rfl,ru,rw'⟩:=vals2 r;cases (show w'=Pb c.name from rw');have fin:∀tk,EP X pins σ Q (.bool (a8 (kd d) c)) { s with toks:=tk }:=fun tk=>⟨.bl _,H,I.tok _,rfl,q⟩
 cases d with
 |none=>cases vw.non;exact lw I ru .non (show Nf X.K (.type (Kd.name .non)) (.type c.name)=some _ from gf .non c hc) fin
 |bool b=>cases vw.bl;exact lw I ru (.bl b) (show Nf X.K (.type (Kd.name .bl)) (.type c.name)=some _ from gf .bl c hc) fin
 |int i=>cases vw.int;exact lw I ru (.int i) (show Nf X.K (.type (Kd.name .int)) (.type c.name)=some _ from gf .int c hc) fin
 |str z=>cases vw.str;exact lw I ru (.str z) (show Nf X.K (.type (Kd.name .str)) (.type c.name)=some _ from gf .str c hc) fin
 |list ds=>
  obtain⟨a,vs,rfl,t,r⟩:=vw.lst;cases (show u=MK a from ru);obtain⟨its,_,pl,_⟩:=I.list t;obtain⟨o,n,e,c1,_⟩:=pl;exact Np Qe I.kIn ⟨o,e,c1⟩ (show Nf X.K (.type (Kd.name .lst)) (.type c.name)=some _ from gf .lst c hc) (fun z=>nomatch z) fin
 |tuple ds=>
  obtain⟨a,vs,rfl,t,r⟩:=vw.tup;cases (show u=MK a from ru);obtain⟨its,_,pl,_⟩:=I.tuple t.sq;obtain⟨o,e,c1,_⟩:=pl;exact Np Q0 I.kIn ⟨o,e,c1⟩ (show Nf X.K (.type (Kd.name .tup)) (.type c.name)=some _ from gf .tup c hc) (fun z=>nomatch z) fin
 |dict ds=>
  obtain⟨a,vs,rfl,t,r⟩:=vw.dct;cases (show u=MK a from ru);obtain⟨_,_,_,_,o,_,_,e,c1,_⟩:=ef I.hok t;exact Np Qf I.kIn ⟨o,e,c1.1⟩ (show Nf X.K (.type (Kd.name .dct)) (.type c.name)=some _ from gf .dct c hc) (fun z=>nomatch z) fin
def bf(c:Kd)(x:Mo):Option PyData:=some (.bool (a8 (kd x) c))
theorem bq(c:Kd)(hi:X.mg "isinstance"=none)(he:DE X e f)(hm:X.mg T=none)(hb:OA T=some (.type c.name))(hcn:c≠.non:=by decide)(hg:Gl X "isinstance":=by rfl)(hT:Gl X T:=by rfl)(hn:T≠"__name__":=by decide)(hdb:(T == ("__debug__" : Str))=false:=by decide)
  (hs:Mw [e,.Name T p] X.env=(false,eval e X.env)::Mw [.Name T p] X.env:=by exact bR rfl) (hs2:Mw [.Name T p] X.env=(false,eval (.Name T p) X.env)::Mw [] X.env:=by exact bR rfl)
  (hpl:(Nv pos (Mw [.Name T p] X.env)).any (·.1)=false:=by exact cL rfl):DE X (.Call (.Name "isinstance" p') [e,.Name T p] [] pos) (fUn (bf c) f):=by
 refine⟨?_⟩;refine pe_imp (gK Cj hg hi N6 (bj he.pe (bj (lW (v:=.ty c.name) hT hm hb rfl hn hdb) bJ hs2) hs) (by decide) (by decide) hs hpl) fun σ H Q=>?_;rintro⟨O,ts,ρ,T,w,T',hc,re,e,q⟩;obtain⟨w1,T1,e1,e⟩:=aO e;obtain⟨x,d,h1,h3,rfl,rfl⟩:=jj e;cases h3;refine⟨O,ts,ρ,T,w1,T',hc,re,e1,fun v1 H1 s1 hc1 r1=>?_⟩;exact⟨v1,c,O,x,rfl,hc1.view r1 h1,hcn,q _ H1 s1 hc1 (.bl _)⟩
def aY:List Mo->Option Mo
 |[.list xs]=>some (.int xs.length)
 |[.tuple xs]=>some (.int xs.length)
 |[.str z]=>if z.length<=Mz then some (.int z.length) else none
 |[.dict kvs]=>some (.int kvs.length)
 |_=>none
theorem cG{K:Frag}{O:Addr->Prop}{H:Hp}{vs:List V}{x:Mo}(h:Vws K O H vs [x]):∃v,vs=[v]/\Vw K O H v x:=by cases h with|cons h t=>cases t;exact⟨_,rfl,h⟩
theorem tM{K:Frag}{O:Addr->Prop}{H:Hp}:∀{kvs:List (Key×V)}{ds:List (Mo×Mo)},RepK K O H kvs ds->kvs.length=ds.length
 |_,_,.nil=>rfl
 |_,_,.cons _ t=>congrArg (· + 1) (tM t)
theorem AY:CallR X (.builtin "len") (fun xs H Q=>∃a kvs,xs=[V.ref a]/\Rd H a (.dK kvs)/\Q (.int kvs.length) H):=by
 intro pins s σ H xs us Q I r h;obtain⟨a,kvs,rfl,ha,q⟩:=h;obtain⟨u,rfl,ru⟩:=vals1 r;cases ru;exact He I ha fun t s' I'=>⟨.int kvs.length,H,I',⟨t,rfl⟩,q⟩
theorem bF:ej X (.builtin "len") aY:=⟨_,call_len_seq.or (call_len_str.or AY),fun O ts H T vs xs d Q hc h e q=>by
 unfold aY at e;split at e
 .cases e
  obtain⟨v,rfl,g⟩:=cG h;obtain⟨a,vs,rfl,t,r⟩:=g.lst;exact .inl ⟨a,vs,rfl,.inl t,by rw[r.length];exact q _ H (.refl _ _) hc (.int _)⟩
 .cases e
  obtain⟨v,rfl,g⟩:=cG h;obtain⟨a,vs,rfl,t,r⟩:=g.tup;exact .inl ⟨a,vs,rfl,.inr t.sq,by rw[r.length];exact q _ H (.refl _ _) hc (.int _)⟩
 .split at e
  .rename_i hz
   cases e;obtain⟨v,rfl,g⟩:=cG h;cases g.str;exact .inr (.inl ⟨_,rfl,hz,q _ H (.refl _ _) hc (.int _)⟩)
  .cases e
 .cases e
  obtain⟨v,rfl,g⟩:=cG h;obtain⟨a,kvs,rfl,t,r⟩:=g.dct;exact .inr (.inr ⟨a,kvs,rfl,t,by rw[tM r];exact q _ H (.refl _ _) hc (.int _)⟩)
 .cases e⟩
def kX:List Mo->Option Mo
 |[.int i]=>some (.int (if i<0 then -i else i))
 |_=>none
theorem w4:ej X (.builtin "abs") kX:=⟨_,Cm,fun O ts H T vs xs d Q hc h e q=>by
 unfold kX at e;split at e
 .cases e
  obtain⟨v,rfl,g⟩:=cG h;cases g.int;exact⟨_,rfl,q _ H (.refl _ _) hc (.int _)⟩
 .cases e⟩
def GW:List Mo->Option Mo
 |[.int i,.int j]=>some (.int (if j>i then j else i))
 |_=>none
def GT:List Mo->Option Mo
 |[.int i,.int j]=>some (.int (if j<i then j else i))
 |_=>none
def iK:List Mo->Option (List Bool)
 |[]=>some []
 |.bool b::r=>(iK r).map (b::·)
 |_=>none
def gu:List Mo->Option (List Int)
 |[]=>some []
 |.int b::r=>(gu r).map (b::·)
 |_=>none
def c7:List Mo->Option (List Str)
 |[]=>some []
 |.str b::r=>(c7 r).map (b::·)
 |_=>none
theorem ur{K:Frag}{O:Addr->Prop}{H:Hp}:∀{vs:List V}{xs:List Mo}{bs:List Bool},Reps K O H vs xs->iK xs=some bs->vs=bs.map V.bl
 |_,_,_,.nil,e=>by cases e;rfl
 |_,x::r,bs,.cons h t,e=>by
  cases x with
  |bool b=>
   obtain⟨cs,e1,rfl⟩:=M9.mp (show (iK r).map (b::·)=some bs from e);cases h;rw[ur t e1];rfl
  |_=>cases e
theorem tW{K:Frag}{O:Addr->Prop}{H:Hp}:∀{vs:List V}{xs:List Mo}{bs:List Int},Reps K O H vs xs->gu xs=some bs->vs=bs.map V.int
 |_,_,_,.nil,e=>by cases e;rfl
 |_,x::r,bs,.cons h t,e=>by
  cases x with
  |int b=>
   obtain⟨cs,e1,rfl⟩:=M9.mp (show (gu r).map (b::·)=some bs from e);cases h;rw[tW t e1];rfl
  |_=>cases e
theorem lQ{K:Frag}{O:Addr->Prop}{H:Hp}:∀{vs:List V}{xs:List Mo}{bs:List Str},Reps K O H vs xs->c7 xs=some bs->vs=bs.map V.str
 |_,_,_,.nil,e=>by cases e;rfl
 |_,x::r,bs,.cons h t,e=>by
  cases x with
  |str b=>
   obtain⟨cs,e1,rfl⟩:=M9.mp (show (c7 r).map (b::·)=some bs from e);cases h;rw[lQ t e1];rfl
  |_=>cases e
def hZ:List Mo->Option Mo
 |[.list xs]=>(iK xs).map fun bs=>.bool (bs.all id)
 |_=>none
theorem mY(hc:X.calm=true:=by rfl):ej X (.builtin "all") hZ:=⟨_,Ck hc,fun O ts H T vs xs d Q hc h e q=>by
 unfold hZ at e;split at e
 .obtain⟨bs,e1,rfl⟩:=M9.mp e
  obtain⟨v,rfl,g⟩:=cG h;obtain⟨a,vs,rfl,t,r⟩:=g.lst;rw[ur r e1] at t;exact⟨a,bs,rfl,t,q _ H (.refl _ _) hc (.bl _)⟩
 .cases e⟩
def kL:List Mo->Option Mo
 |[.list xs]=>(gu xs).map fun bs=>.int bs.sum
 |_=>none
theorem wZ(hc:X.calm=true:=by rfl):ej X (.builtin "sum") kL:=⟨_,Ci hc,fun O ts H T vs xs d Q hc h e q=>by
 unfold kL at e;split at e
 .obtain⟨bs,e1,rfl⟩:=M9.mp e
  obtain⟨v,rfl,g⟩:=cG h;obtain⟨a,vs,rfl,t,r⟩:=g.lst;rw[tW r e1] at t;exact⟨a,bs,rfl,t,q _ H (.refl _ _) hc (.int _)⟩
 .cases e⟩
def GU:Mo->Mo->Option Mo
 |.list xs,.int d=>(gu xs).map fun bs=>.int (K1.iU d bs)
 |_,_=>none
def m9:List Mo->Option Mo
 |[.int i]=>if i.natAbs.log2<1920 then some (.str (toString i)) else none
 |_=>none
theorem Hf:ej X (.type "str") m9:=⟨_,zd,fun O ts H T vs xs d Q hc h e q=>by
 unfold m9 at e;split at e
 .split at e
  .rename_i hz
   cases e;obtain⟨v,rfl,g⟩:=cG h;cases g.int;exact⟨_,rfl,hz,q _ H (.refl _ _) hc (.str _)⟩
  .cases e
 .cases e⟩
def bS:List Mo->Option Mo
 |[.list xs]=>some (.tuple xs)
 |[.tuple xs]=>some (.tuple xs)
 |_=>none
theorem fq:ej X (.type "tuple") bS:=⟨_,qW,fun O ts H T vs xs d Q hc h e q=>by
 unfold bS at e;split at e
 .cases e
  obtain⟨v,rfl,g⟩:=cG h;obtain⟨a,vs,rfl,t,r⟩:=g.lst;exact⟨a,vs,rfl,.inl ⟨t,fun p hp=>q _ _ (.new hp _) (hc.new hp _) (hc.newT hp r)⟩⟩
 .cases e
  obtain⟨v,rfl,g⟩:=cG h;obtain⟨a,vs,e1,t,r⟩:=g.tup;subst e1;exact⟨a,vs,rfl,.inr ⟨t.sq,q _ H (.refl _ _) hc (.tup t r)⟩⟩
 .cases e⟩
def dP:List Mo->Option Mo
 |[.list xs]=>some (.list xs)
 |[.tuple xs]=>some (.list xs)
 |_=>none
theorem qc:ej X (.type "list") dP:=⟨_,call_list_of,fun O ts H T vs xs d Q hc h e q=>by
 unfold dP at e;split at e
 .cases e
  obtain⟨v,rfl,g⟩:=cG h;obtain⟨a,vs,rfl,t,r⟩:=g.lst;exact⟨a,vs,rfl,.inl t,fun p hp=>q _ _ (.new hp _) (hc.new hp _) (hc.newL hp r)⟩
 .cases e
  obtain⟨v,rfl,g⟩:=cG h;obtain⟨a,vs,rfl,t,r⟩:=g.tup;exact⟨a,vs,rfl,.inr t.sq,fun p hp=>q _ _ (.new hp _) (hc.new hp _) (hc.newL hp r)⟩
 .cases e⟩
theorem BG:MtR X "str.join" (fun x vs H Q=>∃(z:Str) (l:Addr) (ys:List Str),x=.str z/\vs=[.ref l]/\SqL X.K H l (ys.map V.str)/\(ys.map (·.length)).sum+ys.length*z.length<=16777216/\Q (.str (Qm z ys)) H):=by
 intro pins s σ H x vs v us Q I rx rv h;obtain⟨z,l,ys,rfl,rfl,hq,hz,q⟩:=h;obtain⟨t,rfl⟩:=rx;obtain⟨u,rfl,ru⟩:=vals1 rv;cases ru;obtain⟨its,rw',pl,_⟩:=I.list hq;refine join_list (ys:=ys) pl.isList (by simpa using zG rw') hz fun t' k=>⟨.str _,H,I.tok _,⟨t',?_⟩,q⟩;show P5 (Builtin.Str.glued z ys) t'=_;rw[StrLaws.glued_eq_join]
def mU:Mo->Mo->Option Mo
 |.str z,.list xs=>match c7 xs with
  |some ys=>if (ys.map (·.length)).sum+ys.length*z.length<=16777216 then some (.str (Qm z ys)) else none
  |none=>none
 |_,_=>none
theorem DR(ho:DE X o fo)(he:DE X e fe)
  (hbase:NA o "join" X.env (eval o X.env)=eval o X.env:=by rfl)
  (hfew:((Nv cpos (Mw [e] X.env)).all (fun x=>!x.1)&&(O5 cpos (Oa [] X.env)).all (fun x=>x.1.isSome)
   && decide (([e]:List Expr).length+([]:List N1).length+(if ([]:List N1).isEmpty then 0 else 1)<30))=true:=by exact jI rfl)
  (hline:(apos.endLine == cpos.line)=true:=by rfl) (hse:Mw [e] X.env=(false,eval e X.env)::Mw [] X.env:=by exact bR rfl) (hplain:(Nv cpos (Mw [] X.env)).any (·.1)=false:=by exact cL rfl) :
  DE X (.Call (.Attribute o "join" apos) [e] [] cpos) (af mU fo fe):=by
 refine⟨?_⟩;refine pe_imp (ku Pg PySem.F.slot_str_join PySem.F.type_str_join BG ho.pe (bj he.pe bJ hse) hbase hfew hline hse hplain) fun σ H Q=>?_;rintro⟨O,ts,ρ,T,w,T',hc,re,e,q⟩;obtain⟨w1,T1,e1,e⟩:=aO e;obtain⟨w2,T2,e2,e⟩:=aO e;obtain⟨x,y,d,h1,h2,h3,rfl,rfl⟩:=ji e;unfold mU at h3;split at h3
 .rename_i z xs
  split at h3
  .rename_i ys hy
   split at h3
   .rename_i hz
    cases h3;refine⟨O,ts,ρ,T,w1,T1,hc,re,e1,fun v1 H1 s1 hc1 r1=>?_⟩
    have ev:v1=.str z:=by
     cases w1 with
     |d x=>cases h1;cases (show Rep X.K O H1 v1 _ from r1);rfl
     | tp k=>exact(by
       have h1':(T'[k]?).bind iR=some (Nk z):=h1
       cases hk:T'[k]? with
       |none=>rw[hk] at h1';cases h1'
       |some xs=>
        rw[hk] at h1';have e2:(if isO xs=true then none else some (Pa xs))=some (Nk z):=h1'
        split at e2 <;> cases e2)
     |loc zs=>cases zs <;> cases h1
    subst ev;refine⟨rfl,O,ts,ρ,T1,w2,T',hc1,re.mono hc s1,e2,fun v2 H2 s2 hc2 r2=>?_⟩;obtain⟨a,vs,rfl,t,r⟩:=(hc2.view r2 h2).lst;rw[lQ r hy] at t;exact⟨z,a,ys,rfl,rfl,t,hz,q _ H2 (s1.trans s2) hc2 (.str _)⟩
   .cases h3
  .cases h3
 .cases h3
end
mutual
def js:Mo->Bool
 |.list _=>false
 |.tuple ds=>mw ds
 |.dict kvs=>mx kvs
 |.none | .bool _ | .int _ | .str _=>true
def mw:List Mo->Bool
 |[]=>true
 |d::r=>js d&&mw r
def mx:List (Mo×Mo)->Bool
 |[]=>true
 |(_,v)::r=>js v&&mx r
end
section
variable {X:Cx}{pins:List (Addr×Obj)}{σ:L2.St}{H:Hp}{s:Ms}{O:Addr->Prop}
theorem AA(e:eM k v=true):Vo h v (kS k) []:=by
 rcases dZ e with⟨i,t,rfl,rfl⟩|⟨x,t,rfl,rfl⟩
 .exact .int i t
 .exact .str x t
mutual
theorem Rep.reads(I:Inv X pins σ H s):∀{v:V}{d:Mo}{u:Mp},Rep X.K O H v d->RelV v u->∃as,Vo s.heap u d as/\(js d=true->N8∉as)
 |_,_,_,.non,r=>by cases r;exact⟨_,.none,fun _=>by simp⟩
 |_,_,_,.bl b,r=>by cases r;exact⟨_,.bool b,fun _=>by simp⟩
 |_,_,_,.int i,r=>by obtain⟨t,rfl⟩:=r;exact⟨_,.int i t,fun _=>by simp⟩
 |_,_,_,.str x,r=>by obtain⟨t,rfl⟩:=r;exact⟨_,.str x t,fun _=>by simp⟩
 |_,_,_,.tup (a:=a) (vs:=vs) h rs,r=>by
  cases r;obtain⟨its,rv,⟨o,e,c,n,dd⟩,_⟩:=I.tuple h.sq;obtain⟨as,q,f⟩:=Reps.reads I rs rv;exact⟨as,.tuple e c dd (by simpa using q),f⟩
 |_,_,_,.lst (a:=a) (vs:=vs) h rs,r=>by
  cases r;obtain⟨its,rv,pl,_⟩:=I.list h.sq;obtain⟨o,n,e,c,_,dd⟩:=pl;obtain⟨as,q,f⟩:=Reps.reads I rs rv;exact⟨_,.list e c dd (by simpa using q),fun z=>by cases z⟩
 |_,_,_,.dct (a:=a) (kvs:=kvs) (ds:=ds) _ h rk,r=>by
  cases r;obtain⟨z,y,vs,kv,o,es,ep,e,ed,dd,_,ek,_⟩:=(show ObjOk X.prog X.w H s.heap a (.dK kvs) from(I.hok a _ h).2);obtain⟨bs,q1,q2,f⟩:=RepK.reads I rk kv ek;refine⟨_,.dict (kvs:=ds) (as:=[]) (bs:=bs) e ed.1 dd q1 q2,fun zz hm=>?_⟩
  rcases MG.mp (by simpa using hm:N8∈a::bs) with q|q
  .rw[q] at y
   simp at y
  .exact f zz q
theorem Reps.reads(I:Inv X pins σ H s):∀{vs:List V}{ds:List Mo}{us:List Mp},Reps X.K O H vs ds->Vals vs us->∃as,Tq s.heap us ds as/\(mw ds=true->N8∉as)
 |_,_,_,.nil,r=>by cases r;exact⟨_,.nil,fun _=>by simp⟩
 |_,_,_,.cons (d:=d) (ds:=ds) q t,r=>by
  cases r with
  |cons r1 r2=>
   obtain⟨as,h1,f1⟩:=Rep.reads I q r1;obtain⟨bs,h2,f2⟩:=Reps.reads I t r2;refine⟨as++bs,.cons h1 h2,fun z=>?_⟩;have z':(js d&&mw ds)=true:=z;rw[Mx] at z';intro hm
   rcases MN.mp hm with hm|hm
   .exact f1 z'.1 hm
   .exact f2 z'.2 hm
theorem RepK.reads(I:Inv X pins σ H s):∀{kvs:List (Key×V)}{ds:List (Mo×Mo)}{vs:List (Key×Mp)}{es:List Vn},RepK X.K O H kvs ds->KV kvs vs->Pairs (bQ X.prog X.w) es vs ->
  ∃bs,Tq s.heap (es.map (·.key)) (ds.map (·.1)) []/\Tq s.heap (es.map (·.val)) (ds.map (·.2)) bs/\(mx ds=true->N8∉bs)
 |_,_,_,_,.nil,r,ek=>by
  cases r;cases ek;exact⟨[],.nil,.nil,fun _=>by simp⟩
 |_,_,_,_,.cons (k:=k) (d:=d) (ds:=ds) q t,r,ek=>by
  cases r with
  |cons r1 r2=>
   cases ek with
   |cons e1 e1' e2=>
    obtain⟨as,h1,f1⟩:=Rep.reads I q r1.2;obtain⟨bs,h2,h3,f2⟩:=RepK.reads I t r2 e2;rw[←e1'] at h1;have k1:=AA (h:=s.heap) (show eM _ _=true from e1);rw[←r1.1] at k1;refine⟨as++bs,.cons (as:=[]) (bs:=[]) k1 h2,.cons h1 h3,fun z=>?_⟩;have z':(js d&&mx ds)=true:=z;rw[Mx] at z';intro hm
    rcases MN.mp hm with hm|hm
    .exact f1 z'.1 hm
    .exact f2 z'.2 hm
end
end
def iP(d:Mo):Bool:=d.showable&&d.leavesShort 200&&decide (d.depth<=60)&&decide (d.weight<=60000)&&(!d.hasDict||js d)
theorem shown_fits{d:Mo}(h1:d.leavesShort 200=true)(h2:d.weight<=60000):d.shown.length<=sizeLine:=by
 have q:=PyData.shown_le 200 (by decide) d h1
 have e:Mz=16777216:=by decide
 have:(200+2)*d.weight<=202*60000:=Nat.mul_le_mul_left _ h2;omega
section
variable {X:Cx}
theorem AX(hr:Room k X.A):CallR X (.builtin "repr") (fun xs H Q=>∃O x d,xs=[x]/\Rep X.K O H x d/\iP d=true/\Q (.str d.shown) H):=by
 intro pins s σ H xs us Q I r h;obtain⟨O,x,d,rfl,rp,hg,q⟩:=h;unfold iP at hg;rw[Mx,Mx,Mx,Mx] at hg;obtain⟨⟨⟨⟨g1,g2⟩,g3⟩,g4⟩,g5⟩:=hg;have g3:=of_decide_eq_true g3;have g4:=of_decide_eq_true g4;obtain⟨u,rfl,ru⟩:=vals1 r;have hz:=shown_fits g2 g4;have fin:∀h' t k',(∀b o,s.heap.get? b=some o->h'.get? b=some o)->EP X pins σ Q (.str d.shown t) { s with heap:=h',toks:=k' }:=fun h' t k' kk=>⟨.str d.shown,H,I.kept kk,⟨t,rfl⟩,q⟩
 have big:∀a,u=.ref a->MU (MW X.prog X.w) X.A (call (.builtin "repr") [u]) (EP X pins σ Q) X.xe s:=fun a e=>by
  obtain⟨as,rd,f⟩:=rp.reads I ru;subst e;refine repr_of_reads' rd g1 (fun z=>f ?_) hr.gd ?_ (fun _ _ e=>e) (fun h' u tk kk=>fin h' u tk kk) hz
  .rw[z] at g5
   simpa using g5
  .have h2:=hr.un
   omega
 cases rp with
 |non=>cases ru;exact PySem.P.repr_of_none (fin _ _ _ fun _ _ e=>e)
 |bl b=>cases ru;exact PySem.P.repr_of_bool (fin _ _ _ fun _ _ e=>e)
 |int i=>
  obtain⟨t,rfl⟩:=ru;exact PySem.P.repr_of_int (of_decide_eq_true g1) (fin _ _ _ fun _ _ e=>e)
 |str x=>
  obtain⟨t,rfl⟩:=ru;exact PySem.P.repr_of_str (fin _ _ _ fun _ _ e=>e) hz
 |tup _ _=>exact big _ ru
 |lst _ _=>exact big _ ru
 |dct _ _ _=>exact big _ ru
def mL(T:Tp)(w:W):Option (W×Tp):=match w with
 |.d x=>if iP x=true then some (.d (.str x.shown),T) else none
 |_=>none
def jx(f:FE):FE:=fun ρ T=>bnd (f ρ T) fun w T1=>mL T1 w
theorem pA(hr:Room k X.A)(hm:X.mg "repr"=none)(he:DE X e f)(hg:Gl X "repr":=by rfl)(hse:Mw [e] X.env=(false,eval e X.env)::Mw [] X.env:=by exact bR rfl)(hpl:(Nv pos (Mw [] X.env)).any (·.1)=false:=by exact cL rfl) :
  DE X (.Call (.Name "repr" p) [e] [] pos) (jx f):=by
 refine⟨?_⟩;refine pe_imp (gK (AX hr) hg hm boot_repr (bj he.pe bJ hse) (by decide) (by decide) hse hpl) fun σ H Q=>?_;rintro⟨O,ts,ρ,T,w,T',hc,re,e,q⟩;obtain⟨w1,T1,e1,e⟩:=aO e;refine⟨O,ts,ρ,T,w1,T1,hc,re,e1,fun v1 H1 s1 hc1 r1=>?_⟩;unfold mL at e;split at e
 .split at e
  .rename_i x hx
   cases e;exact⟨O,v1,x,rfl,r1,hx,q _ H1 s1 hc1 (.str _)⟩
  .cases e
 .cases e
end
structure Df(K:Frag)(name:Str)(st:Stmt):Prop where
 ex:∃(f:Addr) (oc:Mp) (od an:Option Addr) (sl:Array (Option Mp)) (kV dc pm cd ct:Mp),M6 K MT name=some (some (.ref f)) /\
  K.lookup f=some ⟨oc,od,.func (Od name name (fm st) (dM st) (aN st) .none kV dc pm an cd ct),sl⟩/\O4 K cd name=true/\Ny K (.ref f)=true
theorem Hb{K:Frag}{name:Str}{st:Stmt}{f:Addr}{oc:Mp}{od an:Option Addr}{sl:Array (Option Mp)}{kV dc pm cd ct:Mp}(a:M6 K MT name=some (some (.ref f)))
  (l:K.lookup f=some ⟨oc,od,.func (Od name name (fm st) (dM st) (aN st) .none kV dc pm an cd ct),sl⟩) (c:O4 K cd name=true) (k:Ny K (.ref f)=true):Df K name st:=⟨f,oc,od,an,sl,kV,dc,pm,cd,ct,a,l,c,k⟩
theorem Df.fn{P:MA}{w:ML}{K:Frag}{mg:Str->Option Mp}{base h:Heap}{name:Str}{st:Stmt}{ps:List Str}{k:Nat}{sp:Sp}(d:Df K name st)(X:K.In h)(G:h.Ns MT mg)
  (hb:∀(kV doc pm:Mp) (an:Option Addr) (cdv ct:Mp) (us:List Mp),us.length=ps.length->bindArgs (Od name name (fm st) (dM st) (aN st) .none kV doc pm an cdv ct) ⟨us,[]⟩=pure (ps.zip us))
  (ok:∀f fd,Fun K name name st f fd->FnOk P w K mg base CX0 k f fd ps sp):Fn P w K mg base name ps k sp:=by
 obtain⟨f,oc,od,an,sl,kV,dc,pm,cd,ct,a,l,c,kp⟩:=d.ex;have F:=mB (st:=st) l c kp;exact⟨f,_,ok f _ F,F.binds hb,kp,NC X G a⟩
theorem eC{P:MA}{w:ML}{K:Frag}{mg:Str->Option Mp}{base:Heap}{k n:Nat}{f:Addr}{fd:MS}{ps:List Str}:FnOk P w K mg base CX0 k f fd ps (spM K n fun _ _=>none):=by
 have no:∀vs H Q E,¬spM K n (fun _ _=>none) vs H Q E:=fun vs H Q E h=>by
  obtain⟨O,ts,T,ws,x,T',_,_,_,e,_⟩:=h;cases e
 exact⟨fun vs H Q E h=>absurd h (no vs H Q E),fun A outer s H args us vs Q E _ _ _ _ h=>absurd h (no vs H Q E)⟩
def mK(K:Frag):Sp:=fun vs H Q _=>∃(a:Addr) (ns:List Int),vs=[.ref a]/\SqL K H a (ns.map V.int)/\ns.length<=63/\∀H',Q (.bl true) H'
def d8(ns:List Int):PyData:=.list (ns.map .int)
theorem sr{K:Frag}{O:Addr->Prop}{H:Hp}:∀ns:List Int,Reps K O H (ns.map V.int) (ns.map Pv)
 |[]=>.nil
 |_::r=>.cons (.int _) (sr r)
section
variable {α β:Type}{ρ:Rho}{T:Tp}{f g:FE}{c c':FT}{s s':FS}{a:FA}{w w':W}{x y:Mo}
@[simp] theorem gT:bnd (some (b,T)) k=k b T:=rfl
@[simp] theorem KA:bnd none k=none:=rfl
@[simp] theorem KB[Decidable p]:bnd (if p then u else v) k=if p then bnd u k else bnd v k:=by split <;> rfl
@[simp] theorem mX:aW N s ws T=if dO ws=true then dr (s (ws.map some++MX (N-ws.length) none) T) else none:=rfl
@[simp] theorem ly:dO []=true:=rfl
@[simp] theorem lx:dO (.d x::r)=dO r:=rfl
@[simp] theorem AM:dO (.tp i::r)=dO r:=rfl
@[simp] theorem Kt:dr (some ((.rt x,r),T))=some (x,T):=rfl
@[simp] theorem Ku:dr (some ((.nx,r),T))=some (.none,T):=rfl
@[simp] theorem Kv[Decidable p]:dr (if p then u else v)=if p then dr u else dr v:=by split <;> rfl
def gA(s':FS)(p:Fl×Rho)(T:Tp):Option ((Fl×Rho)×Tp):=match p with
 |(.nx,ρ1)=>s' ρ1 T
 |(fl,ρ1)=>some ((fl,ρ1),T)
@[simp] theorem Fw:ak s s' ρ T=bnd (s ρ T) (gA s'):=rfl
@[simp] theorem JG:gA s' (.nx,ρ1) T=s' ρ1 T:=rfl
@[simp] theorem JF:gA s' (.rt x,ρ1) T=some ((.rt x,ρ1),T):=rfl
@[simp] theorem JJ:gA s' (.bk,ρ1) T=some ((.bk,ρ1),T):=rfl
@[simp] theorem JI:gA s' (.ct,ρ1) T=some ((.ct,ρ1),T):=rfl
@[simp] theorem JV:aK ρ T=some ((.nx,ρ),T):=rfl
def ifK(s s':FS)(ρ:Rho)(b:Bool)(T1:Tp):Option ((Fl×Rho)×Tp):=if b=true then s ρ T1 else s' ρ T1
@[simp] theorem L4:fIf c s s' ρ T=bnd (c ρ T) (ifK s s' ρ):=rfl
@[simp] theorem LG:ifK s s' ρ b T=if b=true then s ρ T else s' ρ T:=rfl
def xu(ρ:Rho):W->Tp->Option ((Fl×Rho)×Tp):=fun w T1=>match w with
 |.d x=>some ((.rt x,ρ),T1)
 |_=>none
@[simp] theorem K6:ay f ρ T=bnd (f (bX ρ) T) (xu ρ):=rfl
@[simp] theorem JN:xu ρ (.d x) T=some ((.rt x,ρ),T):=rfl
@[simp] theorem Kr:bX []=[]:=rfl
@[simp] theorem Kn:bX (none::r)=none::bX r:=rfl
@[simp] theorem Kq:bX (some (.d x)::r)=some (.d x)::bX r:=rfl
@[simp] theorem Km:bX (some (.tp i)::r)=some (.tp i)::bX r:=rfl
@[simp] theorem Ko:bX (some (.loc x)::r)=some (.d x)::bX r:=rfl
def nh(i:Nat)(ρ:Rho):W->Tp->Option ((Fl×Rho)×Tp):=fun w T1=>match w with
 |.d x=>some ((.nx,ρ.set i (some (.d x))),T1)
 |.tp k=>some ((.nx,ρ.set i (some (.tp k))),T1)
 |.loc _=>none
@[simp] theorem Fv:aF i f ρ T=bnd (f ρ T) (nh i ρ):=rfl
@[simp] theorem JE:nh i ρ (.d x) T=some ((.nx,ρ.set i (some (.d x))),T):=rfl
@[simp] theorem JB:nh i ρ (.tp k) T=some ((.nx,ρ.set i (some (.tp k))),T):=rfl
def wm(i:Nat)(ρ:Rho)(T:Tp):Option (List Mo)->Option ((Fl×Rho)×Tp)
 |some xs=>if xs.length<=1000 then some ((.nx,ρ.set i (some (.loc (.list xs)))),T) else none
 |none=>none
@[simp] theorem JC:cO i a ρ T=bnd (a ρ T) fun ws T1=>wm i ρ T1 (dQ ws):=rfl
@[simp] theorem IG:wm i ρ T (some xs)=if xs.length<=1000 then some ((.nx,ρ.set i (some (.loc (.list xs)))),T) else none:=rfl
def xS(i:Nat)(ρ:Rho)(x:Mo)(T:Tp)(o:Option (Option W)):Option ((Fl×Rho)×Tp):=match o with
 |some (some (.loc (.list xs)))=>if xs.length<Mz then some ((.nx,ρ.set i (some (.loc (.list (xs++[x]))))),T) else none
 |_=>none
def xQ(i:Nat)(ρ:Rho):W->Tp->Option ((Fl×Rho)×Tp):=fun w T1=>match w with
 | .d x=>(match ρ[i]? with
  |some (some (.loc (.list xs)))=>if xs.length<Mz then some ((.nx,ρ.set i (some (.loc (.list (xs++[x]))))),T1) else none
  | _=>none)
 |_=>none
@[simp] theorem LQ:b8 i f ρ T=bnd (f ρ T) (xQ i ρ):=rfl
@[simp] theorem KD:xQ i ρ (.d x) T=xS i ρ x T ρ[i]?:=rfl
@[simp] theorem KE:xS i ρ x T (some (some (.loc (.list xs))))=if xs.length<Mz then some ((.nx,ρ.set i (some (.loc (.list (xs++[x]))))),T) else none:=rfl
@[simp] theorem LW:fSl f l u ρ T=bnd (f ρ T) fun w T1=>bnd (l ρ T1) fun lo T2=>bnd (u ρ T2) fun hi T3=>op1 (fun x=>j8 x lo hi) T3 w:=rfl
@[simp] theorem Ld:bw ρ T=some (none,T):=rfl
def pK:W->Tp->Option (Option Int×Tp):=fun w T1=>match w with
 |.d (.int i)=>some (some i,T1)
 |_=>none
@[simp] theorem Mm:fP f ρ T=bnd (f ρ T) pK:=rfl
@[simp] theorem LX:pK (.d (.int i)) T=some (some i,T):=rfl
@[simp] theorem K4{z:Str}{lo hi:Option Int}:j8 (.str z) lo hi=if z.length<=Mz then some (.str (NH z lo hi)) else none:=rfl
@[simp] theorem K3{xs:List Mo}{lo hi:Option Int}:j8 (.tuple xs) lo hi=some (.tuple (cS xs lo hi)):=rfl
@[simp] theorem K5{xs:List Mo}{lo hi:Option Int}:j8 (.list xs) lo hi=some (.list (cS xs lo hi)):=rfl
@[simp] theorem Jv:aa 0 (some o::r) T=some (o,T):=rfl
@[simp] theorem gh:aa (i+1) (o::r) T=aa i r T:=rfl
@[simp] theorem Ju:aa 1 (o::r) T=aa 0 r T:=gh
@[simp] theorem Jt:aa 2 (o::r) T=aa 1 r T:=gh
@[simp] theorem Js:aa 3 (o::r) T=aa 2 r T:=gh
@[simp] theorem Jr:aa 4 (o::r) T=aa 3 r T:=gh
@[simp] theorem Jq:aa 5 (o::r) T=aa 4 r T:=gh
@[simp] theorem Jp:aa 6 (o::r) T=aa 5 r T:=gh
@[simp] theorem Jo:aa 7 (o::r) T=aa 6 r T:=gh
@[simp] theorem Jn:aa 8 (o::r) T=aa 7 r T:=gh
@[simp] theorem Jm:aa 9 (o::r) T=aa 8 r T:=gh
@[simp] theorem Mn:fC x ρ T=some (.d x,T):=rfl
@[simp] theorem Jl:view T (.d x)=some x:=rfl
@[simp] theorem ID:view T (.tp i)=(T[i]?).bind iR:=rfl
@[simp] theorem JK:iR xs=if isO xs=true then none else some (.list xs):=rfl
@[simp] theorem Jk:isO (.list xs::r)=false:=rfl
@[simp] theorem IE:view T (.loc (.list xs))=some (.list xs):=rfl
@[simp] theorem ev_viewLD:view T (.loc (.dict xs))=some (.dict xs):=rfl
noncomputable def mkD(T:Tp)(o:Option Mo):Option (W×Tp):=match o with
 |some d=>some (.d d,T)
 |none=>none
@[simp] theorem Ll:mkD T (some x)=some (.d x,T):=rfl
@[simp] theorem JY:mkD T none=none:=rfl
@[simp] theorem JZ[Decidable p]:mkD T (if p then u else v)=if p then mkD T u else mkD T v:=by split <;> rfl
def xM(o:Mo->Mo->Option Mo)(g:FE)(ρ:Rho)(w1:W)(T1:Tp):Option (W×Tp):=bnd (g ρ T1) fun w2 T2=>op2 o T2 w1 w2
@[simp] theorem LO:af o f g ρ T=bnd (f ρ T) (xM o g ρ):=rfl
@[simp] theorem KC:xM o g ρ w T=bnd (g ρ T) fun w2 T2=>op2 o T2 w w2:=rfl
@[simp] theorem Lb:op2 o T (.d x) (.d y)=mkD T (o x y):=rfl
@[simp] theorem JR:op2 o ((.list zs::xs)::r) (.tp 0) (.d y)=mkD ((.list zs::xs)::r) (o (.list (.list zs::xs)) y):=rfl
@[simp] theorem LV:fUn o f ρ T=bnd (f ρ T) fun w1 T1=>op1 o T1 w1:=rfl
@[simp] theorem Lc:op1 o T (.d x)=mkD T (o x):=rfl
@[simp] theorem LP:asB (.d (.bool b))=some b:=rfl
def xj:W->Tp->Option (Bool×Tp):=fun w T1=>match asB w with
 |some b=>some (b,T1)
 |none=>none
@[simp] theorem KW:ar f ρ T=bnd (f ρ T) xj:=rfl
@[simp] theorem Jw:xj (.d (.bool b)) T=some (b,T):=rfl
@[simp] theorem KY:aU f ρ T=bnd (f ρ T) fun w T1=>m7 T1 w:=rfl
def xk(T:Tp)(o:Option Bool):Option (Bool×Tp):=match o with
 |some b=>some (b,T)
 |none=>none
@[simp] theorem Jz:m7 T (.d x)=xk T (m6 x):=rfl
@[simp] theorem Jx:xk T (some b)=some (b,T):=rfl
@[simp] theorem Jy:m6 (.bool b)=some b:=rfl
def w6(c':FT)(ρ:Rho)(b:Bool)(T1:Tp):Option (Bool×Tp):=if b=true then c' ρ T1 else some (false,T1)
@[simp] theorem KG:bD c c' ρ T=bnd (c ρ T) (w6 c' ρ):=rfl
@[simp] theorem Jh:w6 c' ρ b T=if b=true then c' ρ T else some (false,T):=rfl
def xB(c':FT)(ρ:Rho)(b:Bool)(T1:Tp):Option (Bool×Tp):=if b=true then some (true,T1) else c' ρ T1
@[simp] theorem K9:bB c c' ρ T=bnd (c ρ T) (xB c' ρ):=rfl
@[simp] theorem JQ:xB c' ρ b T=if b=true then some (true,T) else c' ρ T:=rfl
@[simp] theorem JT:bG c ρ T=bnd (c ρ T) fun b T1=>some (!b,T1):=rfl
@[simp] theorem IF:bu ρ T=some (true,T):=rfl
def xT(g:FE)(ρ:Rho)(w:W)(T:Tp):Option (W×Tp):=match asB w with
 |some b=>if b=true then g ρ T else some (.d (.bool false),T)
 |none=>none
@[simp] theorem KF:cP f g ρ T=bnd (f ρ T) (xT g ρ):=rfl
@[simp] theorem KH:xT g ρ (.d (.bool b)) T=if b=true then g ρ T else some (.d (.bool false),T):=rfl
def orK(g:FE)(ρ:Rho)(w:W)(T:Tp):Option (W×Tp):=match asB w with
 |some b=>if b=true then some (.d (.bool true),T) else g ρ T
 |none=>none
@[simp] theorem K8:qK f g ρ T=bnd (f ρ T) (orK g ρ):=rfl
@[simp] theorem La:orK g ρ (.d (.bool b)) T=if b=true then some (.d (.bool true),T) else g ρ T:=rfl
def xG(w:W)(T:Tp):Option (W×Tp):=match asB w with
 |some b=>some (.d (.bool (!b)),T)
 |none=>none
@[simp] theorem JS:kF f ρ T=bnd (f ρ T) xG:=rfl
@[simp] theorem JU:xG (.d (.bool b)) T=some (.d (.bool (!b)),T):=rfl
def xJ(f g:FE)(ρ:Rho)(b:Bool)(T1:Tp):Option (W×Tp):=if b=true then f ρ T1 else g ρ T1
@[simp] theorem LH:cV c f g ρ T=bnd (c ρ T) (xJ f g ρ):=rfl
@[simp] theorem Kl:xJ f g ρ b T=if b=true then f ρ T else g ρ T:=rfl
def chK(o':Mo->Mo->Option Mo)(h:FE)(ρ:Rho)(w2 w:W)(T:Tp):Option (W×Tp):=match asB w with
 |some b=>if b=true then bnd (h ρ T) fun w3 T4=>op2 o' T4 w2 w3 else some (.d (.bool false),T)
 |none=>none
@[simp] theorem Jf:mH o o' f g h ρ T=bnd (f ρ T) fun w1 T1=>bnd (g ρ T1) fun w2 T2=>bnd (op2 o T2 w1 w2) (chK o' h ρ w2):=rfl
@[simp] theorem LM:chK o' h ρ w (.d (.bool b)) T=if b=true then bnd (h ρ T) fun w3 T4=>op2 o' T4 w w3 else some (.d (.bool false),T):=rfl
@[simp] theorem Lf:ai ρ T=some ([],T):=rfl
def wY(a:FA)(ρ:Rho)(w:W)(T1:Tp):Option (List W×Tp):=bnd (a ρ T1) fun ws T2=>some (w::ws,T2)
@[simp] theorem Kx:ae f a ρ T=bnd (f ρ T) (wY a ρ):=rfl
@[simp] theorem Je:wY a ρ w T=bnd (a ρ T) fun ws T2=>some (w::ws,T2):=rfl
@[simp] theorem Ii:views T []=some []:=rfl
def kK(x:Mo)(o:Option (List Mo)):Option (List Mo):=match o with
 |some xs=>some (x::xs)
 |none=>none
@[simp] theorem Jd:kK x (some xs)=some (x::xs):=rfl
@[simp] theorem IC:views T (.d x::r)=kK x (views T r):=rfl
@[simp] theorem Ih:views T (.loc (.list xs)::r)=kK (.list xs) (views T r):=rfl
@[simp] theorem IB:dQ []=some []:=rfl
@[simp] theorem Jc:dQ (.d x::r)=kK x (dQ r):=rfl
def sqK(mk:List Mo->Mo)(T:Tp):Option (List Mo)->Option (W×Tp)
 |some xs=>if xs.length<=1000 then some (.d (mk xs),T) else none
 |none=>none
@[simp] theorem JH:aE mk a ρ T=bnd (a ρ T) fun ws T1=>sqK mk T1 (dQ ws):=rfl
@[simp] theorem K2:sqK mk T (some xs)=if xs.length<=1000 then some (.d (mk xs),T) else none:=rfl
def cbK(o:List Mo->Option Mo)(T:Tp)(v:Option (List Mo)):Option (W×Tp):=match v with
 | some xs=>(match o xs with
  |some d=>some (.d d,T)
  | none=>none)
 |none=>none
@[simp] theorem L7:fCB o a ρ T=bnd (a ρ T) fun ws T1=>cbK o T1 (views T1 ws):=rfl
@[simp] theorem LN:cbK o T (some xs)=mkD T (o xs):=rfl
@[simp] theorem Kz:ax m a ρ T=bnd (a ρ T) fun ws T1=>bnd (m ws T1) fun x T2=>some (.d x,T2):=rfl
@[simp] theorem Ky:br it c f ρ T=bnd (it ρ T) fun ds T1=>bnd (bz c f ρ ds T1) fun ys T2=>some (.d (.list ys),T2):=rfl
def itK(T:Tp)(o:Option (List Mo)):Option (List Mo×Tp):=match o with
 |some xs=>some (xs,T)
 |none=>none
def itW:W->Tp->Option (List Mo×Tp):=fun w T1=>match w with
 | .d x=>(match iH x with
  |some xs=>some (xs,T1)
  | none=>none)
 |_=>none
@[simp] theorem Kg:aX f ρ T=bnd (f ρ T) itW:=rfl
@[simp] theorem LB:itW (.d x) T=itK T (iH x):=rfl
@[simp] theorem LC:itK T (some xs)=some (xs,T):=rfl
@[simp] theorem Iz:iH (.list xs)=some xs:=rfl
@[simp] theorem IA:iH (.dict ds)=some (ds.map (·.1)):=rfl
@[simp] theorem Iw:iH (.tuple xs)=some xs:=rfl
@[simp] theorem Iy:iH (.str z)=if z.length<=Mz then some (signs z) else none:=rfl
def xt:W->Tp->Option (List Mo×Tp):=fun w T1=>match w with
 |.d (.int j)=>if kr j=true then some (bT 0 j.toNat,T1) else none
 |_=>none
@[simp] theorem JM:fG f ρ T=bnd (f ρ T) xt:=rfl
@[simp] theorem JL:xt (.d (.int j)) T=if kr j=true then some (bT 0 j.toNat,T) else none:=rfl
@[simp] theorem LI:cB i it s ρ T=bnd (it ρ T) fun ds T1=>forL i s ds ρ T1:=rfl
@[simp] theorem K0:er (.int i) (.int j)=some (.int (i-j)):=rfl
@[simp] theorem Lk:cq (.int i) (.int j)=if 0<j then some (.int (i % j)) else none:=rfl
@[simp] theorem Ks:G8 (.int i) (.int j)=if 0<j/\j<1073741824 then some (.int (i / j)) else none:=rfl
@[simp] theorem K7:hU (.int i) (.int j)=if 0<=j/\j<=1000000/\i.natAbs<2^64 then some (.int (i^j.toNat)) else none:=rfl
@[simp] theorem LY:ltD (.int i) (.int j)=some (.bool (decide (i<j))):=rfl
@[simp] theorem LZ:leD (.int i) (.int j)=some (.bool (decide (i<=j))):=rfl
@[simp] theorem L5:gtD (.int i) (.int j)=some (.bool (decide (j<i))):=rfl
@[simp] theorem L6:geD (.int i) (.int j)=some (.bool (decide (j<=i))):=rfl
@[simp] theorem KM:aR (.int i) (.int j)=some (.int (i+j)):=rfl
@[simp] theorem KJ:aR (.str u) (.str v)=if u.length+v.length<=Mz then some (.str (u++v)) else none:=rfl
@[simp] theorem KI:aR (.tuple u) (.tuple v)=if u.length+v.length<=Mz then some (.tuple (u++v)) else none:=rfl
@[simp] theorem KL:aR (.list u) (.list v)=if u.length+v.length<=Mz then some (.list (u++v)) else none:=rfl
@[simp] theorem JX:b7 (.int i) (.int j)=if (-(2^64)<i/\i<2^64)\/(-(2^64)<j/\j<2^64) then some (.int (i*j)) else none:=rfl
@[simp] theorem JW:b7 (.str z) (.int k)=if 0<=k/\k<=2000/\z.length<=1000 then some (.str (PD z k)) else none:=rfl
@[simp] theorem LK:eqD (.int i) (.int j)=some (.bool (decide (i=j))):=rfl
@[simp] theorem LJ:eqD (.str i) (.str j)=some (.bool (decide (i=j))):=rfl
@[simp] theorem LL:eqD (.bool i) (.bool j)=some (.bool (decide (i=j))):=rfl
@[simp] theorem Li:neD (.int i) (.int j)=some (.bool (!decide (i=j))):=rfl
@[simp] theorem Lh:neD (.str i) (.str j)=some (.bool (!decide (i=j))):=rfl
@[simp] theorem Lj:neD (.bool i) (.bool j)=some (.bool (!decide (i=j))):=rfl
@[simp] theorem L3:isD x .none=some (.bool (isNone x)):=by cases x <;> rfl
@[simp] theorem Jb:Fj (.bool i) (.bool j)=some (.bool (i != j)):=rfl
@[simp] theorem Lg:bA (.int i)=some (.int (-i)):=rfl
@[simp] theorem LD:bf k x=some (.bool (a8 (kd x) k)):=rfl
@[simp] theorem LA:ixD (.list xs) (.int i)=atI xs i:=rfl
@[simp] theorem Ly:ixD (.tuple xs) (.int i)=atI xs i:=rfl
@[simp] theorem Lz:ixD (.str z) (.int i)=if z.length<=Mz then (atI z.cps.toList i).map (fun c=>.str ⟨#[c]⟩) else none:=rfl
@[simp] theorem J7:aY [.list xs]=some (.int xs.length):=rfl
@[simp] theorem J3:aY [.tuple xs]=some (.int xs.length):=rfl
@[simp] theorem J4:aY [.str z]=if z.length<=Mz then some (.int z.length) else none:=rfl
@[simp] theorem LR:kX [.int i]=some (.int (if i<0 then -i else i)):=rfl
@[simp] theorem Lo:GW [.int i,.int j]=some (.int (if j>i then j else i)):=rfl
@[simp] theorem Lm:GT [.int i,.int j]=some (.int (if j<i then j else i)):=rfl
@[simp] theorem Ik:bS [.list xs]=some (.tuple xs):=rfl
@[simp] theorem Ij:bS [.tuple xs]=some (.tuple xs):=rfl
@[simp] theorem IT:dP [.list xs]=some (.list xs):=rfl
@[simp] theorem IS:dP [.tuple xs]=some (.list xs):=rfl
@[simp] theorem Lu:kd (.int i)=.int:=rfl
@[simp] theorem Lw:kd (.bool i)=.bl:=rfl
@[simp] theorem Lq:kd (.str i)=.str:=rfl
@[simp] theorem Lp:kd (.tuple i)=.tup:=rfl
@[simp] theorem Ls:kd (.list i)=.lst:=rfl
@[simp] theorem Lv:kd (.dict i)=.dct:=rfl
@[simp] theorem Lr:kd .none=.non:=rfl
end
theorem at1{α:Type}{a b c:α}:atI [a,b,c] 1=some b:=rfl
theorem ix2:ixN 3 2=some 2:=rfl
theorem dw:∀{ds:List Mo},(∀d∈ds,e (some (.d d)::ρ) T=some (.d (g d),T))->bz bu e ρ ds T=some (ds.map g,T)
 |[],_=>rfl
 |d::r,h=>by
  have ih:=dw (ds:=r) fun x hx=>h x (Mr _ hx);have h0:=h d Mq;unfold bz;simp[h0,ih]
theorem fV:∀{ds:List Mo},(∀d∈ds,c (some (.d d)::ρ) T=some (p d,T))->bz c (aa 0) ρ ds T=some (ds.filter p,T)
 |[],_=>rfl
 |d::r,h=>by
  have ih:=fV (ds:=r) fun x hx=>h x (Mr _ hx);have h0:=h d Mq;unfold bz
  cases hp:p d with
  |false=>simp[h0,hp,ih]
  |true=>simp[h0,hp,ih]
theorem sR{P:Tp->Prop}{Q:Mo->Prop}:∀{ds:List Mo}{T:Tp},P T->(∀d∈ds,∀T,P T->∃y T',e (some (.d d)::ρ) T=some (.d y,T')/\P T'/\Q y)->∃ys T',bz bu e ρ ds T=some (ys,T')/\P T'/\ys.length=ds.length/\∀y∈ys,Q y
 |[],T,p,_=>⟨[],T,rfl,p,rfl,fun y hy=>by cases hy⟩
 |d::r,T,p,h=>by
  obtain⟨y,T1,e1,p1,q1⟩:=h d Mq T p;obtain⟨ys,T2,e2,p2,l2,q2⟩:=sR (ds:=r) p1 fun x hx=>h x (Mr _ hx);refine⟨y::ys,T2,?_,p2,by simp[l2],fun z hz=>?_⟩
  .unfold bz
   simp[e1,e2]
  .rcases MG.mp hz with k|k
   .subst k;exact q1
   .exact q2 z k
theorem rS{α:Type}(p:α->Bool):∀l:List α,iK (l.map fun d=>.bool (p d))=some (l.map p)
 |[]=>rfl
 |d::r=>by
  show (iK (r.map fun d=>.bool (p d))).map (p d::·)=_;rw[rS p r];rfl
theorem n9{α:Type}(p:α->Int):∀l:List α,gu (l.map fun d=>.int (p d))=some (l.map p)
 |[]=>rfl
 |d::r=>by
  show (gu (r.map fun d=>.int (p d))).map (p d::·)=_;rw[n9 p r];rfl
theorem li{α:Type}(p:α->Str):∀l:List α,c7 (l.map fun d=>.str (p d))=some (l.map p)
 |[]=>rfl
 |d::r=>by
  show (c7 (r.map fun d=>.str (p d))).map (p d::·)=_;rw[li p r];rfl
@[simp] theorem Fx{α:Type}(p:α->Bool)(l:List α):hZ [.list (l.map fun d=>.bool (p d))]=some (.bool (l.all p)):=by
 show (iK _).map (fun bs=>Sk (bs.all id))=_;rw[rS,R3,VA];rfl
@[simp] theorem KZ{α:Type}(p:α->Int)(l:List α):kL [.list (l.map fun d=>.int (p d))]=some (.int (l.map p).sum):=by
 show (gu _).map (fun bs=>Pv bs.sum)=_;rw[n9,R3]
@[simp] theorem J0{α:Type}(p:α->Int)(l:List α)(k:Int):GU (.list (l.map fun d=>.int (p d))) (.int k)=some (.int (K1.iU k (l.map p))):=by
 show (gu _).map (fun bs=>Pv (K1.iU k bs))=_;rw[n9,R3]
def pO(y:Str):Mo->Bool
 |.str z=>hW y z
 |_=>false
theorem tZ(y:Str)(c:Nat):hW y ⟨#[c]⟩=decide (c∈y.cps.toList):=StrLaws.found_one ..
@[simp] theorem LF:inD (.str x) (.str y)=some (.bool (hW y x)):=rfl
theorem Ac(h:d∈D.signs x):∃c,c∈x.cps.toList/\d=.str ⟨#[c]⟩:=by
 obtain⟨c,hc,rfl⟩:=MJ.mp h;exact⟨c,hc,rfl⟩
section
variable {X:Cx}
theorem Ar:MtR X "str.startswith" (fun x vs H Q=>∃z y:Str,x=.str z/\vs=[.str y]/\Q (.bl (Oq z y)) H):=by
 intro pins s σ H x vs v us Q I rx rv h;obtain⟨z,y,rfl,rfl,q⟩:=h;obtain⟨t,rfl⟩:=rx;obtain⟨u,rfl,ru⟩:=vals1 rv;obtain⟨t',rfl⟩:=ru;exact call_gives QR (Qu _ _ _) PySem.F.entry_str_startswith (PySem.F.args_str_startswith_2 _ _) (gives_str_startswith z y t t') ⟨.bl _,H,I,rfl,q⟩
def gN:Mo->Mo->Option Mo
 |.str z,.str y=>some (.bool (Oq z y))
 |_,_=>none
theorem oo(h:view T w=some (.str z)):w=.d (.str z):=by
 cases w with
 |d x=>cases h;rfl
 |tp k=>
  have h':(T[k]?).bind iR=some (Nk z):=h
  cases hk:T[k]? with
  |none=>rw[hk] at h';cases h'
  |some xs=>
   rw[hk] at h';have e2:(if isO xs=true then none else some (Pa xs))=some (Nk z):=h'
   split at e2 <;> cases e2
 |loc zs=>cases zs <;> cases h
theorem oi(ho:DE X o fo)(he:DE X e fe)
  (hbase:NA o "startswith" X.env (eval o X.env)=eval o X.env:=by rfl)
  (hfew:((Nv cpos (Mw [e] X.env)).all (fun x=>!x.1)&&(O5 cpos (Oa [] X.env)).all (fun x=>x.1.isSome)
   && decide (([e]:List Expr).length+([]:List N1).length+(if ([]:List N1).isEmpty then 0 else 1)<30))=true:=by exact jI rfl)
  (hline:(apos.endLine == cpos.line)=true:=by rfl) (hse:Mw [e] X.env=(false,eval e X.env)::Mw [] X.env:=by exact bR rfl) (hplain:(Nv cpos (Mw [] X.env)).any (·.1)=false:=by exact cL rfl) :
  DE X (.Call (.Attribute o "startswith" apos) [e] [] cpos) (af gN fo fe):=by
 refine⟨?_⟩;refine pe_imp (ku Pg QR PySem.F.type_str_startswith Ar ho.pe (bj he.pe bJ hse) hbase hfew hline hse hplain) fun σ H Q=>?_;rintro⟨O,ts,ρ,T,w,T',hc,re,e,q⟩;obtain⟨w1,T1,e1,e⟩:=aO e;obtain⟨w2,T2,e2,e⟩:=aO e;obtain⟨x,y,d,h1,h2,h3,rfl,rfl⟩:=ji e;unfold gN at h3;split at h3
 .rename_i z y
  cases h3;have ew:=oo h1;subst ew;refine⟨O,ts,ρ,T,_,T1,hc,re,e1,fun v1 H1 s1 hc1 r1=>?_⟩;cases (show Rep X.K O H1 v1 _ from r1);refine⟨rfl,O,ts,ρ,T1,w2,T',hc1,re.mono hc s1,e2,fun v2 H2 s2 hc2 r2=>?_⟩;cases (hc2.view r2 h2).str;exact⟨z,_,rfl,rfl,q _ H2 (s1.trans s2) hc2 (.bl _)⟩
 .cases h3
theorem AZ:CallR X (.type "int") (fun xs H Q=>∃x n,xs=[.str x]/\Sl x=some n/\x.length<=640/\Q (.int n) H):=by
 intro pins s σ H xs us Q I r h;obtain⟨x,n,rfl,hn,hl,q⟩:=h;obtain⟨u,rfl,ru⟩:=vals1 r;obtain⟨t,rfl⟩:=ru;exact PySem.W.KIN.call_text hn hl ⟨.int n,H,I.tok _,⟨_,rfl⟩,q⟩
def intD:List Mo->Option Mo
 |[.int i]=>some (.int i)
 |[.bool b]=>some (.int (if b then 1 else 0))
 |[.str x]=>if x.length<=640 then (Sl x).map .int else none
 |_=>none
theorem gx:ej X (.type "int") intD:=⟨_,call_int1.or AZ,fun O ts H T vs xs d Q hc h e q=>by
 unfold intD at e;split at e
 .cases e
  obtain⟨v,rfl,g⟩:=cG h;cases g.int;exact .inl (.inl ⟨_,rfl,q _ H (.refl _ _) hc (.int _)⟩)
 .cases e
  obtain⟨v,rfl,g⟩:=cG h;cases g.bl;exact .inl (.inr ⟨_,rfl,q _ H (.refl _ _) hc (.int _)⟩)
 .split at e
  .rename_i hz
   obtain⟨n,e1,rfl⟩:=M9.mp e;obtain⟨v,rfl,g⟩:=cG h;cases g.str;exact .inr ⟨_,n,rfl,e1,hz,q _ H (.refl _ _) hc (.int _)⟩
  .cases e
 .cases e⟩
end
@[simp] theorem Il:gN (.str z) (.str y)=some (.bool (Oq z y)):=rfl
@[simp] theorem Kh:intD [.str x]=if x.length<=640 then (Sl x).map .int else none:=rfl
@[simp] theorem Ki:intD [.int i]=some (.int i):=rfl
@[simp] theorem Kj:intD [.bool b]=some (.int (if b then 1 else 0)):=rfl
def eqG(x y:Mo):Option PyData:=if Nt x=true/\Nt y=true then some (.bool (NQ x y)) else none
section
variable {X:Cx}
theorem Vw.reads(I:Inv X pins σ H s)(h:Vw X.K O H v d)(r:RelV v u):∃as,Vo s.heap u d as:=by
 cases h with
 |rep h=>obtain⟨as,rd,_⟩:=h.reads I r;exact⟨as,rd⟩
 |raw h hs=>
  cases r;obtain⟨its,rv,pl,_⟩:=I.list (SqL.of h);obtain⟨o,n,e,c,_,dd⟩:=pl;obtain⟨as,rd,_⟩:=hs.reads I rv;exact⟨_,.list e c dd (by simpa using rd)⟩
 |rawD h rk=>
  cases r;obtain⟨z,y,vs,kv,o,es,ep,e,ed,dd,_,ek,_⟩:=(show ObjOk X.prog X.w H s.heap _ (.dK _) from I.hok _ _ h);obtain⟨bs,q1,q2,f⟩:=RepK.reads I rk kv ek;exact⟨_,.dict (as:=[]) (bs:=bs) e ed.1 dd q1 q2⟩
theorem EZ(hr:Room k X.A):OpR X (M7 .Eq) (fun x y H Q=>∃O d1 d2,Vw X.K O H x d1/\Vw X.K O H y d2/\Nt d1=true/\Nt d2=true/\Q (.bl (NQ d1 d2)) H):=by
 intro pins s σ H x y v u Q I rx ry h;obtain⟨O,d1,d2,h1,h2,s1,s2,q⟩:=h;obtain⟨as,r1⟩:=h1.reads I rx;obtain⟨bs,r2⟩:=h2.reads I ry;exact SeqAt.compareEq_shaped r1 r2 s1 s2 (by have:=hr.un;omega) ⟨.bl _,H,I,rfl,q⟩
theorem jr(hr:Room k X.A):OpD X (M7 .Eq) eqG:=⟨_,EZ hr,fun O ts H T v1 v2 x y d Q hc h1 h2 e q=>by
 unfold eqG at e;split at e
 .rename_i h
  cases e;exact⟨O,x,y,h1,h2,h.1,h.2,q _ H (.refl _ _) hc (.bl _)⟩
 .cases e⟩
open Classical in
def kU(h:Heap)(x:Mo)(v:Mp):Bool:=if e:∃p:Mo×List Addr,Vo h v p.1 p.2 then NQ e.choose.1 x else false
theorem uW(r:Vo h v d as):kU h x v=NQ d x:=by
 have e:∃p:Mo×List Addr,Vo h v p.1 p.2:=⟨(d,as),r⟩;unfold kU;rw[dif_pos e];have:=(PySem.Reads.unique e.choose_spec d as r).1;rw[this]
theorem ud:∀{vs:List Mp}{ds:List Mo}{as:List Addr},Tq h vs ds as->vs.any (kU h x)=ds.any fun d=>NQ d x
 |_,_,_,.nil=>rfl
 |_,_,_,.cons r rs=>by rw[OD,OD,uW r,ud rs]
theorem readsAll_mem:∀{vs:List Mp}{ds:List Mo}{as:List Addr}{v:Mp},Tq h vs ds as->v∈vs->∃d bs,d∈ds/\Vo h v d bs
 |_,_,_,_,.cons r rs,hm=>by
  rcases MG.mp hm with z|z
  .subst z;exact⟨_,_,Mq,r⟩
  .obtain⟨d,bs,h1,h2⟩:=readsAll_mem rs z
   exact⟨d,bs,Mr _ h1,h2⟩
end
section
variable {X:Cx}
variable {pos:Pos}{e:Expr}{fe:FE}
end
section
variable {X:Cx}{pos:Pos}{e:Expr}{f:FE}{x:Str}{p:Pos}{B:List (Str×Int)}
end
end D
namespace L2
open K1 (jS iU)
section
variable {prog:MA}{w:ML}{A:Nb}{R:Uz->Ms->Prop}{it S:Addr}{fp wr:List Addr}{P:Nat->Mp->Prop}{St:Nat->Heap->Prop}{ns:List Int}{kw:List (Str×Mp)}
end
section
variable {X:Cx}
end
end L2
namespace D
open L2
section
variable {X:Cx}{pos:Pos}{e:Expr}{f:FE}{x:Str}{p:Pos}
variable {B:List (Str×Int)}
theorem lm{K:Frag}{O:Addr->Prop}{H:Hp}:∀ss:List Str,Reps K O H (ss.map V.str) (ss.map Nk)
 |[]=>.nil
 |x::r=>.cons (.str x) (lm r)
def iX:Mo->Mo->Option Mo
 |x,.list ys=>if Nt x=true/\ys.all Nt=true then some (.bool (!ys.any fun y=>NQ y x)) else none
 |_,_=>none
theorem Dg(hr:Room k X.A):OpR X (M7 .NotIn) (fun x y H Q=>∃O d1 a vs ds,Vw X.K O H x d1/\y=.ref a/\SqL X.K H a vs/\Reps X.K O H vs ds/\Nt d1=true/\ds.all Nt=true/\Q (.bl (!ds.any fun y=>NQ y d1)) H):=by
 intro pins s σ H x y v u Q I rx ry h;obtain⟨O,d1,a,vs,ds,h1,rfl,h2,h3,s1,s2,q⟩:=h;cases ry;obtain⟨as,r1⟩:=h1.reads I rx;obtain⟨its,rv,p1,_⟩:=I.list h2;obtain⟨bs,r2,_⟩:=h3.reads I rv;refine S5 (kU s.heap d1) p1.isList (fun y hy=>?_) ?_
 .obtain⟨d,cs,hd,rd⟩:=readsAll_mem r2 (by simpa using hy)
  rw[uW rd];have sd:=MM.mp s2 d hd;refine SeqAt.eqAt_reads d d1 _ s y v _ _ rd r1 (RV sd) (RV s1) (SeqAt.room_of_shaped sd ?_);have:=hr.un;show X.A.in1.units+64<Vl
  have e:X.A.in1.units<=X.A.units+1:=by simp[VQ]
  omega
 .have e:its.toArray.any (kU s.heap d1)=ds.any fun y=>NQ y d1:=by
   rw[←ud r2];simp
  rw[e];exact⟨.bl _,H,I,rfl,q⟩
theorem BC(hr:Room k X.A):OpD X (M7 .NotIn) iX:=⟨_,Dg hr,fun O ts H T v1 v2 x y d Q hc h1 h2 e q=>by
 unfold iX at e;split at e
 .split at e
  .rename_i h
   cases e;obtain⟨a,vs,rfl,t,r⟩:=h2.lst;exact⟨O,x,a,vs,_,h1,rfl,t,r,h.1,h.2,q _ H (.refl _ _) hc (.bl _)⟩
  .cases e
 .cases e⟩
end
mutual
def bH:Mo->Bool
 |.tuple ds=>cZ ds
 |.list _=>false
 |.dict _=>false
 |_=>true
def cZ:List Mo->Bool
 |[]=>true
 |d::r=>bH d&&cZ r
end
section
variable {K:Frag}{O:Addr->Prop}{H:Hp}
theorem TupAt.own(hm:∀b,O b->Mut (H b))(t:TupAt K (fun _=>False) H a vs):TupAt K O H a vs:=by
 rcases t with⟨_,t⟩|t
 .refine .inl ⟨fun z=>?_,t⟩
  rcases hm a z with⟨us,e⟩|⟨us,e⟩|⟨C,dx,us,e⟩ <;> rcases t with t|⟨o,t⟩ <;> (rw[e] at t;cases t)
 .exact .inr t
mutual
theorem Rep.own(hm:∀b,O b->Mut (H b)):∀{v:V}{d:Mo},Rep K (fun _=>False) H v d->bH d=true->Rep K O H v d
 |_,_,.non,_=>.non
 |_,_,.bl b,_=>.bl b
 |_,_,.int i,_=>.int i
 |_,_,.str x,_=>.str x
 |_,_,.tup t r,h=>.tup (t.own hm) (Reps.own hm r (by simpa[bH] using h))
 |_,_,.lst t r,h=>by simp[bH] at h
 |_,_,.dct n t r,h=>by simp[bH] at h
theorem Reps.own(hm:∀b,O b->Mut (H b)):∀{vs:List V}{ds:List Mo},Reps K (fun _=>False) H vs ds->cZ ds=true->Reps K O H vs ds
 |_,_,.nil,_=>.nil
 |_,_,.cons (d:=d) (ds:=ds) r t,h=>by
  have h':(bH d&&cZ ds)=true:=by simpa[cZ] using h
  rw[Mx] at h';exact .cons (Rep.own hm r h'.1) (Reps.own hm t h'.2)
end
end
def kP:List W->Bool
 |[]=>true
 |.tp _::_=>false
 |.loc (.dict _)::_=>false
 |_::r=>kP r
theorem qD{K:Frag}{O:Addr->Prop}{ts:List Addr}{H:Hp}:∀{vs:List V}{ws:List W},fL K O ts H vs ws->kP ws=true->fL K (fun _=>False) [] H vs (ws.map jH)
 |_,[],.nil,_=>.nil
 |_,.d x::r,.cons h t,e=>.cons (show Rep K (fun _=>False) H _ x from Rep.mono (fun a o n e=>⟨fun z=>z,e⟩) h) (qD t e)
 |_,.tp _::_,.cons _ _,e=>by cases e
 |_,.loc x::r,.cons h t,e=>by
  have le:Le O H (fun _=>False) H:=fun a o n e=>⟨fun z=>z,e⟩;obtain⟨a,rfl,_,_,h3⟩:=h
  cases x with
  |list xs=>obtain⟨vs,h1,h2⟩:=h3;exact .cons (.lst (.inl ⟨fun z=>z,.inl h1⟩) (h2.mono le)) (qD t e)
  |dict xs=>cases e
  |_=>cases h3
def mI(m:FnM)(g:FA):FE:=fun ρ T=>bnd (g ρ T) fun ws T1=>if kP ws=true then (match m (ws.map jH) [] with
 |some (x,_)=>if bH x=true then some (.d x,T1) else none
 | none=>none) else none
theorem Cc(F:Fn X.prog X.w X.K X.mg X.base name ps k (spM X.K ps.length m))(hr:Room k X.A)(hg:Gl X name)(ha:DA X (e::es) g)(hl:kZ g ps.length)(hdb:(name == ("__debug__" : Str))=false:=by decide)
  (he:Mw (e::es) X.env=(false,eval e X.env)::Mw es X.env:=by exact bR rfl) (hpl:(Nv pos (Mw es X.env)).any (·.1)=false:=by exact cL rfl):DE X (.Call (.Name name p) (e::es) [] pos) (mI m g):=by
 refine⟨?_⟩;refine pe_imp (wy F hr hg ha.pe hdb he hpl) fun σ H Q=>?_;rintro⟨O,ts,ρ,T,w,T',hc,re,e,q⟩;obtain⟨ws,T1,e1,e⟩:=aO e;split at e
 .rename_i hn
  split at e
  .rename_i x T2 e2
   split at e
   .rename_i hx
    cases e;refine⟨O,ts,ρ,T,ws,_,hc,re,e1,fun vs H1 s1 hc1 r1=>?_⟩;refine⟨fun _=>False,[],[],ws.map jH,x,T2,⟨fun b hb=>(by cases hb),fun b hb=>hb.elim,Qn,rfl,fun i a xs e1 _=>by simp at e1⟩,by rw[OL];exact qD r1 hn,by rw[Nd];exact hl _ _ _ _ e1,e2,fun v H2 s2 hc2 r2=>?_⟩;have s2':SameX ts H1 H2:=fun b o _ q=>s2 b o (by simp) q
    have hm:∀b,O b->Mut (H2 b):=fun b hb=>by
     exact(hc1.trk b hb).to fun u z=>s2 b _ (by simp) z
    have hc2':=hc1.step s2' fun b hb=>by
     obtain⟨u,z⟩:=(hc1.trk b (hc1.own b hb)).ex;rw[z];exact s2 b _ (by simp) z
    exact q v H2 (s1.trans s2') hc2' (Rep.own hm r2 hx)
   .cases e
  .cases e
 .cases e
def au(ds:List (Mo×Mo))(s:Str):Option PyData:=match ds with
 |[]=>none
 |(.str k,d)::r=>if k=s then some d else au r s
 |_::r=>au r s
theorem i7{K:Frag}{O:Addr->Prop}{H:Hp}{s:Str}:∀{kvs:List (Key×V)}{ds:List (Mo×Mo)},RepK K O H kvs ds->(au ds s=none/\bK kvs (Nr s:Key)=none)\/∃v d,au ds s=some d/\bK kvs (Nr s:Key)=some v/\Rep K O H v d
 |_,_,.nil=>.inl ⟨rfl,rfl⟩
 |_,_,.cons (k:=.inl i) (v:=v) (d:=d) (kvs:=kvs) (ds:=ds) r t=>by
  have e:bK (((RF i:Key),v)::kvs) (Nr s:Key)=bK kvs (Nr s:Key):=by simp[bK,N5]
  rw[e];show (au ds s=none/\_)\/∃v d,au ds s=some d/\_;exact i7 (s:=s) t
 |_,_,.cons (k:=.inr k) (v:=v) (d:=d) (kvs:=kvs) (ds:=ds) r t=>by
  by_cases hk:k=s
  .subst hk
   exact .inr ⟨v,d,by show (if k=k then some d else au ds k)=some d;rw[if_pos rfl],by simp[bK,N5],r⟩
  .have e:bK (((Nr k:Key),v)::kvs) (Nr s:Key)=bK kvs (Nr s:Key):=by simp[bK,N5,hk]
   have e2:au ((kS (Nr k:Key),d)::ds) s=au ds s:=by show (if k=s then some d else au ds s)=_;rw[if_neg hk]
   rw[e,e2];exact i7 (s:=s) t
theorem DGet.rd(e:Rd H a (.dK kvs)):DGet H a (kV k) (bK kvs k):=.inl ⟨kvs,k,e,rfl,rfl⟩
section
variable {X:Cx}{pos:Pos}{k:Nat}
theorem mV(hr:Room k A):A.units+1<cLine:=by have:=hr.un;omega
end
section
variable {K:Frag}{O₀:Addr->Prop}{H₀:Hp}{F:List ((Addr->Prop)×Hp)}{ts:List Addr}{O:Addr->Prop}{H H1:Hp}{σ:L2.St}{ρ:Rho}{T T1:Tp}
end
section
variable {X:Cx}{pos:Pos}
def cM(ds:List (Mo×Mo))(s:Str)(x:Mo):List (Mo×Mo):=match ds with
 |[]=>[]
 |(.str k,d)::r=>if k=s then (.str k,x)::cM r s x else (.str k,d)::cM r s x
 |p::r=>p::cM r s x
theorem nZ{K:Frag}{O:Addr->Prop}{H:Hp}{s:Str}{v:V}{x:Mo}(rx:Rep K O H v x):∀{kvs:List (Key×V)}{ds:List (Mo×Mo)},RepK K O H kvs ds->RepK K O H (kvs.map fun kv=>if kv.1=(Nr s:Key) then (kv.1,v) else kv) (cM ds s x)
 |_,_,.nil=>.nil
 |_,_,.cons (k:=.inl i) r t=>by
  rw[M5];rw[if_neg (by intro z;cases z)];exact .cons (k:=.inl i) r (nZ rx t)
 |_,_,.cons (k:=.inr k) (v:=u) (d:=d) (kvs:=kvs) (ds:=ds) r t=>by
  rw[M5];have ih:=nZ (s:=s) rx t;show RepK K O H _ (if k=s then (.str k,x)::cM ds s x else (.str k,d)::cM ds s x)
  by_cases hk:k=s
  .rw[if_pos hk,if_pos (by rw[hk])]
   exact .cons (k:=.inr k) rx ih
  .rw[if_neg hk,if_neg (fun z=>hk (Uc z))]
   exact .cons (k:=.inr k) r ih
theorem tO{K:Frag}{O:Addr->Prop}{H:Hp}:∀{kvs:List (Key×V)}{ds:List (Mo×Mo)},RepK K O H kvs ds->kvs.length=ds.length
 |_,_,.nil=>rfl
 |_,_,.cons _ t=>congrArg (· + 1) (tO t)
theorem z8{kvs:List (Key×V)}(h:(bK kvs k).isSome=true):(kvs.any fun kv=>decide (kv.1=k))=true:=by
 unfold bK at h;rw[Qj] at h;rw[Qw];obtain⟨p,hp⟩:=On.mp h;exact⟨p,List.mem_of_find?_eq_some hp,by have:=List.find?_some hp;simpa using this⟩
end
section
variable {X:Cx}{pos:Pos}{e:Expr}{f:FE}{x:Str}{p:Pos}{B:List (Str×Str)}
def qI(i j:Nat)(f:FE):FS:=fun ρ T=>bnd (f ρ T) fun w T1=>match w with
 |.d (.tuple [x,y])=>some ((.nx,(ρ.set i (some (.d x))).set j (some (.d y))),T1)
 |_=>none
theorem FF(hN:X.N.Nodup)(he:DE X e f)(hi:X.N[i]? = some x:=by rfl)(hj:X.N[j]? = some y:=by rfl)(hx:Loc X.env.scope x:=by first|exact Oe rfl|exact NP rfl)(hy:Loc X.env.scope y:=by first|exact Oe rfl|exact NP rfl)
  (hf:X.fn x=true\/X.env.scope.names.lookup x=some .local:=by first|exact .inl rfl|exact .inr rfl|assumption) (hf':X.fn y=true\/X.env.scope.names.lookup y=some .local:=by first|exact .inl rfl|exact .inr rfl|assumption) (hc:X.calm=true:=by rfl)
  (hs:SN [.Tuple [.Name x px,.Name y py] k tp] e pos.line X.env=pure false:=by rfl) (hw:SO [.Tuple [.Name x px,.Name y py] k tp] e X.env=pure none:=by rfl)
  (h1:(P0 [.Tuple [.Name x px,.Name y py] k tp] X.env).map (·.2)=[Rm (.Tuple [.Name x px,.Name y py] k tp) X.env]:=by rfl):DS X (.Assign [.Tuple [.Name x px,.Name y py] k tp] e pos) (qI i j f):=by
 refine⟨?_⟩;refine cb (vA he.pe (EL hc (tP (lV hN hi hx hf) (tP (lV hN hj hy hf') C5))) hs hw h1) fun D σ H=>?_;rintro⟨O₀,H₀,F,ts,O,ρ,T,fl,ρ',T',rs,e,q⟩;obtain⟨w,T1,e1,e⟩:=aO e;refine⟨O,ts,ρ,T,w,T1,rs.hc,rs.re,e1,fun v H1 s1 hc1 r1=>?_⟩;split at e
 .rename_i a b
  cases e;have rs1:=rs.step s1 hc1;have r1':Rep X.K O H1 v (.tuple [a,b]):=r1
  cases r1' with
  |tup t r=>
   cases r with
   |cons ra r=>
    cases r with
    |cons rb r=>
     cases r;exact⟨_,_,rfl,t.sq,rfl,_,_,rfl,_,_,rfl,rfl,q O _ _ ((rs1.set (w:=.d a) ra fun _ z=>nomatch z).set (w:=.d b) rb fun _ z=>nomatch z)⟩
 .cases e
end
section
variable {K:Frag}{O:Addr->Prop}{ts:List Addr}{H H':Hp}{T:Tp}{n:Nat}{a C:Addr}{ps:List Mo}
end
section
variable {X:Cx}{C:Addr}{o e:Expr}{f m:Str}{pos pos' apos:Pos}{fo fe:FE}
structure Mth(P:MA)(w:ML)(K:Frag)(mg:Str->Option Mp)(base:Heap)(C:Addr)(m:Str)(ps:List Str)(k:Nat)(sp:Sp):Prop where
 ex:∃f fd,FnOk P w K mg base CX0 k f fd ps sp/\Binds K fd ps []/\Meth K C m f
variable {ps:List Str}{k:Nat}{mm:FnM}{g:FA}{es:List Expr}{pl:Sem Bool}
def wU:FS:=fun _ _=>none
theorem uY{st:Stmt}:DS X st wU:=⟨fun _ _ _ _ _ _ h=>by
 obtain⟨O₀,H₀,F,ts,O,ρ,T,fl,ρ',T',rs,e,q⟩:=h
 cases e⟩
end
def kA(T:Tp):Option (Tp×List Mo):=match T.getLast? with
 |some xs=>some (T.dropLast,xs)
 |none=>none
theorem BO(h:kA T=some (T1,ys)):T=T1++[ys]:=by
 unfold kA at h;split at h
 .rename_i xs e
  cases h;obtain⟨zs,hl⟩:=List.getLast?_eq_some_iff.mp e;rw[hl];simp
 .cases h
def mv:Rho->Bool
 |[]=>true
 |none::r=>mv r
 |some (.d _)::r=>mv r
 |_::_=>false
section
variable {X:Cx}{C f:Addr}{e:Expr}{fe:FE}{fr:FS}{rest:List Stmt}{cn x:Str}{p pos pos' cpos:Pos}{ps:List Str}{k i:Nat}{m:FnM}{fd:MS}
end
end D
namespace L2
section
variable {X:Cx}
theorem rT:∀(l:List (Str×Tok)),Vals ((l.map (·.1)).map V.str) (Vp l)
 |[]=>.nil
 |p::r=>.cons ⟨p.2,rfl⟩ (rT r)
theorem BF:MtR X "str.split" (fun x vs H Q=>∃z y:Str,x=.str z/\vs=[.str y]/\(y.length == 0)=false/\z.length+2<=Mz/\∀l,H l=none->Q (.ref l) (upd H l (.lst ((O7 z y).map V.str)))):=by
 intro pins s σ H x vs v us Q I rx rv h;obtain⟨z,y,rfl,rfl,hy,hz,q⟩:=h;obtain⟨t,rfl⟩:=rx;obtain⟨u,rfl,ru⟩:=vals1 rv;obtain⟨t',rfl⟩:=ru
 have np:(Oo z (Nl z y 0 z.length (z.length+1)) y.length).length<=sizeLine:=by
  have o1:=StrLaws.occ_length_le z y 0 z.length (z.length+1);rw[length_partsBetween];omega
 have fin:∀(l:List (Str×Tok)) (k:Nat),l.map (·.1)=O7 z y->l.length<=Mz->EP X pins σ Q (.ref s.heap.objs.size) { s with toks:=k,heap:=s.heap.push { cls:=.type "list",data:=.seq (Vp l).toArray } }:=fun l k e hl=>by
  have hn:((O7 z y).map V.str).length<=sizeLine:=by rw[←e];simpa using hl
  refine⟨.ref s.heap.objs.size,_,I.laid (t':=k) (fun b o w=>Mt _ w) (MC _) (show ObjOk X.prog X.w _ _ _ (.lst ((O7 z y).map V.str)) from⟨hn,Vp l,0,?_,MZ _ rfl⟩),rfl,q _ (I.hok.fresh (MC _))⟩;rw[←e];exact rT l
 cases c1:(decide (z.length<y.length)||decide (SK z<SK y))
 .cases c2:(Nl z y 0 z.length (z.length+1)).isEmpty
  .refine Qv Ph (Qu _ _ _) P9 (PR _ _) (meets_str_split_sep z y t t' c1 hy c2 (by omega) np) ?_
   show wants _ _ _ { s with toks:=_,heap:=s.heap.push { cls:=.type "list",data:=.seq (strsFrom s.toks (Oo z (Nl z y 0 z.length (z.length+1)) y.length)).toArray } };rw[strsFrom_eq];have e:(numbered s.toks (Oo z (Nl z y 0 z.length (z.length+1)) y.length)).map (·.1)=O7 z y:=(numbered_texts s.toks (Oo z (Nl z y 0 z.length (z.length+1)) y.length)).trans ((if_neg (ne_true_of_eq_false c1)).trans (if_neg (ne_true_of_eq_false c2))).symm;refine fin (numbered s.toks _) _ e ?_;have e2:=congrArg QA (numbered_texts s.toks (Oo z (Nl z y 0 z.length (z.length+1)) y.length));rw[Nd] at e2;rw[e2];exact np
  .exact Qv Ph (Qu _ _ _) P9 (PR _ _) (meets_str_split_not_found z y t t' c1 hy c2) (fin [(z,t)] s.toks ((if_neg (ne_true_of_eq_false c1)).trans (if_pos c2)).symm (by show 1<=Mz;decide))
 .exact Qv Ph (Qu _ _ _) P9 (PR _ _) (meets_str_split_cannot_occur z y t t' c1) (fin [(z,t)] s.toks (if_pos c1).symm (by show 1<=Mz;decide))
end
end L2
namespace D
open L2
section
variable {X:Cx}{pos:Pos}
def j6:Mo->Mo->Option Mo
 |.str z,.str y=>if (y.length == 0)=false/\z.length+2<=Mz then some (.list ((O7 z y).map .str)) else none
 |_,_=>none
structure Ini(P:MA)(w:ML)(K:Frag)(mg:Str->Option Mp)(base:Heap)(C:Addr)(ps:List Str)(k:Nat)(sp:Sp):Prop where
 ex:∃f fd,FnOk P w K mg base CX0 k f fd ps sp/\L2.Binds K fd ps []/\Mk K C f
structure DfM(K:Frag)(C:Addr)(name qual:Str)(st:Stmt):Prop where
 ex:∃(f:Addr) (oc:Mp) (od an:Option Addr) (sl:Array (Option Mp)) (kV dc pm cd ct:Mp),MV K (.ref C) name=some (some (.ref f)) /\
  K.lookup f=some ⟨oc,od,.func (Od name qual (fm st) (dM st) (aN st) .none kV dc pm an cd ct),sl⟩/\O4 K cd qual=true/\Ny K (.ref f)=true/\Pd K (.ref f)=true
theorem FR{K:Frag}{C:Addr}{name qual:Str}{st:Stmt}{f:Addr}{oc:Mp}{od an:Option Addr}{sl:Array (Option Mp)}{kV dc pm cd ct:Mp}(a:MV K (.ref C) name=some (some (.ref f)))
  (l:K.lookup f=some ⟨oc,od,.func (Od name qual (fm st) (dM st) (aN st) .none kV dc pm an cd ct),sl⟩) (c:O4 K cd qual=true) (k:Ny K (.ref f)=true) (n:Pd K (.ref f)=true):DfM K C name qual st:=⟨f,oc,od,an,sl,kV,dc,pm,cd,ct,a,l,c,k,n⟩
theorem nS:∀{kvs:List (Key×V)}{vs:List (Key×Mp)}{us:List Mp},KV kvs vs->us.length=vs.length->(∀(j:Nat) (v:Mp),us[j]? = some v->∃k x,vs[j]? = some (k,x)/\(bQ P w).is k v=true)->Vals (kvs.map fun p=>kV p.1) us
 |[],[],[],_,_,_=>.nil
 |_::_,[],_,r,_,_=>by cases r
 |[],_::_,_,r,_,_=>by cases r
 |_,[],_::_,_,h,_=>by simp at h
 |_,_::_,[],_,h,_=>by simp at h
 |(k,v)::kvs,(k',x)::vs,u::us,r,h,f=>by
  cases r with
  |cons r1 r2=>
   refine .cons ?_ (nS (P:=P) (w:=w) r2 (by simpa using h) fun j v e=>?_)
   .obtain⟨k2,x2,e2,e3⟩:=f 0 u rfl
    cases e2;have:k=k':=r1.1;subst this;exact keyV e3
   .obtain⟨k2,x2,e2,e3⟩:=f (j+1) v (by simpa using e)
    exact⟨k2,x2,by simpa using e2,e3⟩
theorem yI(hcm:X.calm=true):CallR X (.type "list") (fun xs H Q=>∃a kvs,xs=[V.ref a]/\Rd H a (.dK kvs)/\∀l,H l=none->Q (.ref l) (upd H l (.lst (kvs.map fun p=>kV p.1)))):=by
 intro pins s σ H xs us Q I r h;obtain⟨a,kvs,rfl,ha,q⟩:=h;obtain⟨u,rfl,ru⟩:=vals1 r;cases ru;obtain⟨z,y,vs,kv,dd⟩:=ef I.hok ha;obtain⟨ep,dd⟩:=dd.dictAt;have hl:=kv.length;refine PySem.W.kdl_call (TV (prog:=X.prog) (w:=X.w) (knd:=bQ X.prog X.w) (kvs:=vs) (ep:=ep) y) (I.ok.hd hcm) dd (by omega) fun h' tk acc c k1 k2 k3=>?_;have hv:Vals (kvs.map fun p=>kV p.1) acc.toList:=nS (P:=X.prog) (w:=X.w) kv (by rw[NN];exact k3.1) fun j v e=>k3.2 j v (by simpa using e);have hn:H s.heap.objs.size=none:=I.hok.fresh (MC _);exact⟨.ref s.heap.objs.size,_,I.laid (t':=tk) (o:=.lst (kvs.map fun p=>kV p.1)) k1 (MC _) ⟨by simp;omega,acc.toList,c,hv,by simpa using k2⟩,rfl,q _ hn⟩
def d9(ds:List (Mo×Mo)):List PyData:=ds.map (·.1)
theorem nX{K:Frag}{O:Addr->Prop}{H:Hp}{O':Addr->Prop}{H':Hp}:∀{kvs:List (Key×V)}{ds:List (Mo×Mo)},RepK K O H kvs ds->Reps K O' H' (kvs.map fun p=>kV p.1) (d9 ds)
 |_,_,.nil=>.nil
 |_,_,.cons (k:=k) _ t=>.cons (uI k) (nX t)
def fE:List Mo->Option Mo
 |[.list xs]=>some (.list xs)
 |[.tuple xs]=>some (.list xs)
 |[.dict ds]=>some (.list (d9 ds))
 |_=>none
theorem pE(hcm:X.calm=true:=by rfl):ej X (.type "list") fE:=⟨_,call_list_of.or (yI hcm),fun O ts H T vs xs d Q hc h e q=>by
 unfold fE at e;split at e
 .cases e
  obtain⟨v,rfl,g⟩:=cG h;obtain⟨a,vs,rfl,t,r⟩:=g.lst;exact .inl ⟨a,vs,rfl,.inl t,fun p hp=>q _ _ (.new hp _) (hc.new hp _) (hc.newL hp r)⟩
 .cases e
  obtain⟨v,rfl,g⟩:=cG h;obtain⟨a,vs,rfl,t,r⟩:=g.tup;exact .inl ⟨a,vs,rfl,.inr t.sq,fun p hp=>q _ _ (.new hp _) (hc.new hp _) (hc.newL hp r)⟩
 .cases e
  obtain⟨v,rfl,g⟩:=cG h;obtain⟨a,kvs,rfl,t,r⟩:=g.dct;exact .inr ⟨a,kvs,rfl,t,fun p hp=>q _ _ (.new hp _) (hc.new hp _) (hc.newL hp (nX r))⟩
 .cases e⟩
end
theorem vK:∀a b:List Nat,QB a b=false->QB b a=false->a=b
 |[],[],_,_=>rfl
 |[],_::_,h,_=>by simp[QB] at h
 |_::_,[],_,h=>by simp[QB] at h
 |x::r,y::t,h,g=>by
  simp[QB] at h g
  have:x=y:=by omega
  subst this;rw[vK r t (by simpa using h) (by simpa using g)]
theorem uQ:∀a b:List Nat,QB a b=true->QB b a=false
 |[],[],h=>by simp[QB] at h
 |[],_::_,_=>rfl
 |_::_,[],h=>by simp[QB] at h
 |x::r,y::t,h=>by
  simp[QB] at h ⊢
  rcases h with h|h
  .omega
  .refine⟨by omega,fun e=>?_⟩
   exact uQ r t h.2
theorem sF:∀a b c:List Nat,QB b a=false->QB c b=false->QB c a=false
 |a,[],c,h,g=>by
  cases a with
  |nil=>exact g
  |cons x r=>simp[QB] at h
 |[],b,c,h,g=>by cases c <;> rfl
 |x::r,y::t,[],h,g=>by simp[QB] at g
 |x::r,y::t,z::u,h,g=>by
  simp[QB] at h g ⊢;refine⟨by omega,fun e=>?_⟩;subst e
  by_cases q:z=y
  .subst q
   exact sF r t u (h.2 rfl) (g.2 rfl)
  .exfalso
   omega
def leS(a b:Str):Bool:=!ltCps b.cps.toList a.cps.toList
theorem Dt(a b:Str):leS a b=true\/leS b a=true:=by
 unfold leS
 cases h:QB b.cps.toList a.cps.toList with
 |false=>exact .inl rfl
 |true=>
  refine .inr ?_
  cases g:QB a.cps.toList b.cps.toList with
  |false=>rfl
  |true=>
   exfalso;have:=uQ _ _ h;rw[g] at this;cases this
theorem BI(h:leS a b=true)(g:leS b a=true):a=b:=by
 unfold leS at h g;have:=vK a.cps.toList b.cps.toList (by simpa using g) (by simpa using h);cases a;cases b;simp at this;rw[this]
theorem sI(h:leS a b=true)(g:leS b c=true):leS a c=true:=by
 unfold leS at *;have:=sF a.cps.toList b.cps.toList c.cps.toList (by simpa using h) (by simpa using g);rw[this];rfl
def iW(x:Str):List Str->List Str
 |[]=>[x]
 |y::r=>if leS x y=true then x::y::r else y::iW x r
def bN:List Str->List Str
 |[]=>[]
 |x::r=>iW x (bN r)
theorem og(x:Str):∀l:List Str,(iW x l).Perm (x::l)
 |[]=>.refl _
 |y::r=>by
  unfold iW;split
  .exact .refl _
  .exact((og x r).cons y).trans (.swap _ _ _)
theorem fZ:∀l:List Str,(bN l).Perm l
 |[]=>.refl _
 |x::r=>(og x _).trans ((fZ r).cons x)
theorem rf(x:Str):∀l:List Str,l.Pairwise (fun a b=>leS a b=true)->(iW x l).Pairwise (fun a b=>leS a b=true)
 |[],_=>by simp[iW]
 |y::r,h=>by
  obtain⟨h1,h2⟩:=Ol.mp h;unfold iW;split
  .rename_i hx
   refine Ol.mpr ⟨fun z hz=>?_,h⟩
   rcases MG.mp hz with e|e
   .rw[e];exact hx
   .exact sI hx (h1 z e)
  .rename_i hx
   refine Ol.mpr ⟨fun z hz=>?_,rf x r h2⟩
   rcases MG.mp ((og x r).mem_iff.mp hz) with e|e
   .rw[e];exact(Dt x y).resolve_left hx
   .exact h1 z e
theorem nA:∀l:List Str,(bN l).Pairwise (fun a b=>leS a b=true)
 |[]=>.nil
 |x::r=>rf x _ (nA r)
theorem nF:∀{a b:List Str},a.Perm b->a.Pairwise (fun a b=>leS a b=true)->b.Pairwise (fun a b=>leS a b=true)->a=b
 |[],b,p,_,_=>(List.nil_perm.mp p).symm
 |x::r,[],p,_,_=>absurd (List.perm_nil.mp p) (by simp)
 |x::r,y::t,p,h,g=>by
  obtain⟨h1,h2⟩:=Ol.mp h;obtain⟨g1,g2⟩:=Ol.mp g
  have e:x=y:=by
   rcases MG.mp (p.mem_iff.mp Mq) with e|e
   .exact e
   .rcases MG.mp (p.mem_iff.mpr Mq) with e' | e'
    .exact e'.symm
    .exact BI (h1 y e') (g1 x e)
  subst e;rw[nF (List.perm_cons _ |>.mp p) h2 g2]
theorem sj:∀(x:Str) (l:List Str),risingS x l=true->(x::l).Pairwise (fun a b=>leS a b=true)
 |x,[],_=>by simp
 |x,y::r,h=>by
  have h':leS x y=true/\risingS y r=true:=by
   unfold leS;simpa[risingS] using h
  have ih:=sj y r h'.2;refine Ol.mpr ⟨fun z hz=>?_,ih⟩
  rcases MG.mp hz with e|e
  .rw[e];exact h'.1
  .exact sI h'.1 ((Ol.mp ih).1 z e)
theorem rC(h:sortedS l=true):l.Pairwise (fun a b=>leS a b=true):=by
 cases l with
 |nil=>exact .nil
 |cons x r=>exact sj x r h
theorem oA:∀{ss:List Str}{us:List Mp},Vals (ss.map V.str) us->StrsAre us ss
 |[],_,h=>by cases h;exact .nil
 |x::r,_,h=>by
  cases h with
  |cons h1 h2=>
   obtain⟨t,rfl⟩:=h1;exact .cons x t (oA h2)
theorem nJ:∀{us:List Mp}{ss:List Str},StrsAre us ss->Vals (ss.map V.str) us
 |_,_,.nil=>.nil
 |_,_,.cons y t r=>.cons ⟨t,rfl⟩ (nJ r)
section
variable {X:Cx}{pos:Pos}
theorem zA:CallR X (.builtin "sorted") (fun xs H Q=>∃p ss,xs=[V.ref p]/\SqL X.K H p (ss.map V.str)/\ss.length<64/\∀l,H l=none->Q (.ref l) (upd H l (.lst ((bN ss).map V.str)))):=by
 intro pins s σ H xs us Q I r h;obtain⟨p,ss,rfl,hq,hlen,q⟩:=h;obtain⟨u,rfl,ru⟩:=vals1 r;cases ru;obtain⟨its,rv,pl,hz⟩:=I.list hq
 have hl:its.length=ss.length:=by have:=rv.length;simpa using this.symm
 refine sorted_strs pl.isList (oA rv) (by omega) fun out ss' h1 h2 h3=>?_;have e:ss'=bN ss:=nF (h2.trans (fZ ss).symm) (rC h3) (nA ss);subst e;obtain⟨ep,he⟩:=sortedAll_at s.heap its out;have k:∀b o,s.heap.get? b=some o->(sortedAll s.heap its out).get? b=some o:=fun b o z=>sortedAll_old z;have hn:H (s.heap.objs.size+1)=none:=I.hok.fresh (QC _);have hlen2:(bN ss).length=ss.length:=(fZ ss).length_eq;exact⟨.ref (s.heap.objs.size+1),_,I.laid (t':=s.toks) (o:=.lst ((bN ss).map V.str)) k (QC _) ⟨by simp;exact Pc (ME (by omega:(bN ss).length<64) (by decide)),out.toList,ep,nJ h1,by simpa[VB] using he⟩,rfl,q _ hn⟩
def iM(o:Option (List Str)):Option PyData:=match o with
 |some ss=>if ss.length<64 then some (.list ((bN ss).map .str)) else none
 |none=>none
def kq:List Mo->Option Mo
 |[.list xs]=>iM (c7 xs)
 |_=>none
theorem Cn:ej X (.builtin "sorted") kq:=⟨_,zA,fun O ts H T vs xs d Q hc h e q=>by
 unfold kq at e;split at e
 .rename_i ys
  unfold iM at e;split at e
  .rename_i ss hs
   split at e
   .rename_i hl
    cases e;obtain⟨v,rfl,g⟩:=cG h;obtain⟨a,vs,rfl,t,r⟩:=g.lst;have:=lQ r hs;subst this;exact⟨a,ss,rfl,t,hl,fun p hp=>q _ _ (.new hp _) (hc.new hp _) (hc.newL hp (lm _))⟩
   .cases e
  .cases e
 .cases e⟩
end
theorem AI(h:Q (TX 4238894112) { s with toks:=s.toks+1 }):MU (MW prog w) A (pyHash .none) Q E s:=by
 show MU (MW prog w) A (pyHashByItsType .none) Q E s;refine PySem.W.pyHash_slot (T:="NoneType") (by first|rfl|trivial|exact⟨_,rfl⟩|simp[Shared.TypeIs]) PySem.F.slot_NoneType_hash PySem.F.entry_NoneType_hash (PySem.F.args_NoneType_hash_1 _) rfl (.inl rfl) ?_;unfold PySem.Builtin.«NoneType.__hash__»;refine Mu ?_;unfold slotArgs;simp only[];rw[if_neg (by decide),if_neg (by decide)];refine MI ?_;unfold retInt;refine Mu ?_
 first
  |exact wpAny_mkInt (MI ⟨_,_,rfl,h⟩)
  |exact wpAny_mkInt (wpAny_ret ⟨_,_,rfl,h⟩)
def xF:Option Key->Mp->Bool
 |none,.none=>true
 |none,_=>false
 |some k,v=>eM k v
def okH(w:ML):Option Key->Int
 |none=>TX 4238894112
 |some k=>xI w k
theorem eA(h:xF k v=true):(k=none/\v=.none)\/(∃i t,k=some (.inl i)/\v=.int i t)\/∃x t,k=some (.inr x)/\v=.str x t:=by
 cases k with
 |none=>cases v <;> first|exact .inl ⟨rfl,rfl⟩|cases h
 |some k=>
  rcases dZ (show eM k v=true from h) with⟨i,t,rfl,rfl⟩|⟨x,t,rfl,rfl⟩
  .exact .inr (.inl ⟨i,t,rfl,rfl⟩)
  .exact .inr (.inr ⟨x,t,rfl,rfl⟩)
theorem uf(k:Key):decide ((none:Option Key)=some k)=false:=decide_eq_false (fun q=>nomatch q)
theorem sO(k:Key):decide (some k=(none:Option Key))=false:=decide_eq_false (fun q=>nomatch q)
theorem lL(a b:Key):decide (some a=some b)=decide (a=b):=by
 by_cases h:a=b
 .subst h;simp
 .rw[decide_eq_false h,decide_eq_false (fun q=>h (Nm q))]
def oY(prog:MA)(w:ML):UZ prog w (Option Key) where
 is:=xF
 hash:=okH w
 inj:=fun v a b ha hb=>by
  rcases eA ha with⟨rfl,rfl⟩|⟨i,t,rfl,rfl⟩|⟨x,t,rfl,rfl⟩
  .rcases eA hb with⟨rfl,_⟩|⟨j,u,rfl,e⟩|⟨y,u,rfl,e⟩
   .rfl
   .exact nomatch e
   .exact nomatch e
  .rcases eA hb with⟨rfl,e⟩|⟨j,u,rfl,e⟩|⟨y,u,rfl,e⟩
   .exact nomatch e
   .injection e with e1 _;rw[e1]
   .exact nomatch e
  .rcases eA hb with⟨rfl,e⟩|⟨j,u,rfl,e⟩|⟨y,u,rfl,e⟩
   .exact nomatch e
   .exact nomatch e
   .injection e with e1 _;rw[e1]
 byValue:=fun k v h=>by
  rcases eA h with⟨rfl,rfl⟩|⟨i,t,rfl,rfl⟩|⟨x,t,rfl,rfl⟩ <;> rfl
 pyHash:=fun hv h=>by
  rcases eA hv with⟨rfl,rfl⟩|⟨i,t,rfl,rfl⟩|⟨x,t,rfl,rfl⟩
  .exact AI h
  .exact Tv h
  .exact Tw h
 eqBool:=fun hu hv h=>by
  rcases eA hu with⟨rfl,rfl⟩|⟨i,t,rfl,rfl⟩|⟨x,t,rfl,rfl⟩
  .rcases eA hv with⟨rfl,rfl⟩|⟨j,u,rfl,rfl⟩|⟨y,u,rfl,rfl⟩
   .rw[show decide ((none:Option Key)=none)=true by simp] at h;exact Um .none _ _ _ _ h
   .rw[uf] at h;exact SG j u _ _ _ _ h
   .rw[uf] at h;exact SH y u _ _ _ _ h
  .rcases eA hv with⟨rfl,rfl⟩|⟨j,u,rfl,rfl⟩|⟨y,u,rfl,rfl⟩
   .rw[sO] at h;exact SI i t _ _ _ _ h
   .rw[lL,vP] at h;exact Tx h
   .rw[lL,vO] at h;exact QU i t y u _ _ _ _ h
  .rcases eA hv with⟨rfl,rfl⟩|⟨j,u,rfl,rfl⟩|⟨y,u,rfl,rfl⟩
   .rw[sO] at h;exact SJ x t _ _ _ _ h
   .rw[lL,vN] at h;exact QV x t j u _ _ _ _ h
   .rw[lL,vM] at h;exact Tz h
 «strs»:=fun k x t v h=>by
  rcases eA h with⟨rfl,e⟩|⟨i,u,rfl,e⟩|⟨y,u,rfl,e⟩
  .exact nomatch e
  .exact nomatch e
  .injection e with e1 _
   subst e1
   cases v <;> rfl
theorem sy:∀{es:List Vn}{vs:List (Key×Mp)},Pairs (bQ P w) es vs->Pairs (oY P w) es (vs.map fun p=>(some p.1,p.2))
 |_,_,.nil=>.nil
 |_,_,.cons h1 h2 t=>.cons h1 h2 (sy t)
theorem B7{h:Heap}{vs:List (Key×Mp)}(d:h.DictOf (bQ P w) a vs):h.DictOf (oY P w) a (vs.map fun p=>(some p.1,p.2)):=by
 obtain⟨o,es,ep,e1,e2,e3,e4,e5,e6⟩:=d;refine⟨o,es,ep,e1,e2,e3,fun e he=>?_,sy e5,?_⟩
 .obtain⟨k,k1,k2⟩:=e4 e he
  exact⟨some k,k1,k2⟩
 .rw[NJ]
  show (vs.map fun p=>some p.1).Nodup
  have:(vs.map fun p=>some p.1)=(vs.map (·.1)).map some:=by rw[NJ];rfl
  rw[this];exact List.pairwise_map.mpr (VU (fun h q=>h (Nm q)) e6)
theorem sZ:∀(vs:List (Key×Mp)),Rj (vs.map fun p=>((some p.1:Option Key),p.2)) none=none
 |[]=>rfl
 |p::r=>by
  have:=sZ r;unfold Rj at this ⊢;rw[M5,N5];simpa using this
section
variable {X:Cx}
theorem zL:OpR X (M7 .In) (fun x y H Q=>∃a kvs,x=.non/\y=.ref a/\Rd H a (.dK kvs)/\Q (.bl false) H):=by
 intro pins s σ H x y v u Q I rx ry h;obtain⟨a,kvs,rfl,rfl,e,q⟩:=h;cases (show v=NY from rx);cases (show u=MK a from ry);obtain⟨z,hd,vs,rel,dd⟩:=ef I.hok e;refine wpAny_in_of (knd:=oY X.prog X.w) (k:=none) rfl hd (B7 dd).mapOf ?_;rw[sZ];exact⟨.bl false,H,I.tok _,rfl,q⟩
theorem E1(hr:Room k X.A):OpR X (M7 .In) (fun x y H Q=>∃a kvs s,x=.str s/\y=.ref a/\Rd H a (.dK kvs)/\Q (.bl (bK kvs (Nr s:Key)).isSome) H):=by
 intro pins s σ H x y v u Q I rx ry h;obtain⟨a,kvs,z,rfl,rfl,e,q⟩:=h;cases (show u=MK a from ry);exact HY (mV hr) I (DGet.rd (k:=Nr z) e) (show RelV (kV (Nr z)) v from rx) fun s' I'=>⟨.bl _,H,I',rfl,q⟩
theorem Ak(hr:Room k X.A):OpR X (M7 .NotIn) (fun x y H Q=>∃a kvs s,x=.str s/\y=.ref a/\Rd H a (.dK kvs)/\Q (.bl (!(bK kvs (Nr s:Key)).isSome)) H):=by
 intro pins s σ H x y v u Q I rx ry h;obtain⟨a,kvs,z,rfl,rfl,e,q⟩:=h;cases (show u=MK a from ry);exact DX (mV hr) I (DGet.rd (k:=Nr z) e) (show RelV (kV (Nr z)) v from rx) fun s' I'=>⟨.bl _,H,I',rfl,q⟩
theorem Ff(hr:Room k X.A):IxR X (fun x y H Q=>∃a kvs s v,x=.ref a/\y=.str s/\Rd H a (.dK kvs)/\bK kvs (Nr s:Key)=some v/\Q v H):=by
 intro value slice pins s σ H x y v u Q I rx ry h hs;obtain⟨a,kvs,z,v0,rfl,rfl,e,l,q⟩:=h;cases (show v=MK a from rx)
 have g:DGet H a (kV (Nr z)) (some v0):=by rw[←l];exact DGet.rd e
 unfold SS;refine Mu ?_;rw[getitemInPython_of_ne (rj I g).not_modules];refine Mu (wpAny_specialOf (rj I g) PySem.F.slot_dict_getitem.lookup ?_)
 have fin:MU (MW X.prog X.w) X.A (Uh slice false (MK a) u) (fun r s₃=>MU (MW X.prog X.w) X.A (letTemporaryGo value (MK a) r >>= fun _=>pure r) (EP X pins σ Q) X.xe s₃) X.xe s:=by
  rw[hs];exact wpAny_operating (AS (mV hr) I g (show RelV (kV (Nr z)) u from ry) fun w' s' I' rw'=>Mu (wpAny_letTemporaryGo (MI ⟨v0,H,I',rw',q⟩)))
 first
  |exact MI (Mu fin)
  |exact Mu (MI (Mu fin))
  |exact Mu fin
def inK(s:Mo)(ds:List (Mo×Mo)):Option Bool:=match s with
 |.str s=>some (au ds s).isSome
 |.none=>some false
 |_=>none
def inB(x y:Mo):Option Bool:=match y with
 |.dict ds=>inK x ds
 |y=>inS x y
def inA(x y:Mo):Option PyData:=(inB x y).map .bool
def gk(x y:Mo):Option PyData:=match x,y with
 |.str s,.dict ds=>some (.bool (!(au ds s).isSome))
 |_,.dict _=>none
 |x,y=>(inS x y).map fun b=>.bool (!b)
theorem jq(hr:Room k X.A):OpD X (M7 .In) inA:=⟨_,(op_in_str.or sC).or ((E1 hr).or zL),fun O ts H T v1 v2 x y d Q hc h1 h2 e q=>by
 unfold inA at e
 by_cases hd:∃ds,y=.dict ds
 .obtain⟨ds,rfl⟩:=hd
  obtain⟨a,kvs,rfl,t,r⟩:=h2.dct;obtain⟨b,hb,rfl⟩:=M9.mp e;have hb':inK x ds=some b:=hb;unfold inK at hb';split at hb'
  .rename_i s
   cases hb';cases h1.str;refine .inr (.inl ⟨a,kvs,s,rfl,rfl,t,?_⟩)
   have e:(bK kvs (Nr s:Key)).isSome=(au ds s).isSome:=by
    rcases i7 (s:=s) r with⟨z1,z2⟩|⟨v,d,z1,z2,_⟩ <;> rw[z1,z2] <;> rfl
   rw[e];exact q _ H (.refl _ _) hc (.bl _)
  .cases hb'
   cases h1.non;exact .inr (.inr ⟨a,kvs,rfl,rfl,t,q _ H (.refl _ _) hc (.bl _)⟩)
  .cases hb'
 .have e':(inS x y).map .bool=some d:=by
   cases y with
   |dict ds=>exact absurd ⟨ds,rfl⟩ hd
   |_=>exact e
  exact .inl (mn false O ts H T v1 v2 x y d Q hc h1 h2 e' q)⟩
theorem lI(hr:Room k X.A):OpD X (M7 .NotIn) gk:=⟨_,(op_notin_str.or qX).or (Ak hr),fun O ts H T v1 v2 x y d Q hc h1 h2 e q=>by
 by_cases hd:∃ds,y=.dict ds
 .obtain⟨ds,rfl⟩:=hd
  obtain⟨a,kvs,rfl,t,r⟩:=h2.dct
  cases x with
  |str s=>
   cases e;cases h1.str;refine .inr ⟨a,kvs,s,rfl,rfl,t,?_⟩
   have e:(bK kvs (Nr s:Key)).isSome=(au ds s).isSome:=by
    rcases i7 (s:=s) r with⟨z1,z2⟩|⟨v,d,z1,z2,_⟩ <;> rw[z1,z2] <;> rfl
   rw[e];exact q _ H (.refl _ _) hc (.bl _)
  |_=>cases e
 .have e':((inS x y).map fun b=>.bool (!b))=some d:=by
   cases y with
   |dict ds=>exact absurd ⟨ds,rfl⟩ hd
   |_=>cases x <;> exact e
  exact .inl (mn true O ts H T v1 v2 x y d Q hc h1 h2 e' q)⟩
def ixA(x y:Mo):Option PyData:=match x,y with
 |.dict ds,.str s=>au ds s
 |.dict _,_=>none
 |x,y=>ixD x y
theorem eG(hr:Room k X.A):IxD X ixA:=by
 obtain⟨r0,h0,s0⟩:=aB (X:=X);refine⟨_,h0.or (Ff hr),fun O ts H T v1 v2 x y d Q hc h1 h2 e q=>?_⟩
 by_cases hd:∃ds,x=.dict ds
 .obtain⟨ds,rfl⟩:=hd
  obtain⟨a,kvs,rfl,t,r⟩:=h1.dct
  cases y with
  |str s=>
   have e':au ds s=some d:=e;cases h2.str
   rcases i7 (s:=s) r with⟨z1,z2⟩|⟨v,d',z1,z2,rv⟩
   .rw[z1] at e';cases e'
   .rw[z1] at e'
    cases e';exact .inr ⟨a,kvs,s,v,rfl,rfl,t,z2,q _ H (.refl _ _) hc rv⟩
  |_=>cases e
 .refine .inl (s0 O ts H T v1 v2 x y d Q hc h1 h2 ?_ q)
  cases x with
  |dict ds=>exact absurd ⟨ds,rfl⟩ hd
  |_=>exact e
end
section
variable {X:Cx}{pins:List (Addr×Obj)}{σ:L2.St}{H H2:Hp}{s s2:Ms}
theorem BS(I:Inv X pins σ H s)(e:H a=some (.dK kvs))(I2:Inv X pins σ H2 s2)(e2:H2 a=some (.frz o (.dK kvs))):Inv X pins σ (upd H2 a (.dK kvs)) s2:=by
 have U:∀{b:Addr}{u:HO},H2 b=some u->(∀o ks,u≠.frz o ks)->upd H2 a (.dK kvs) b=some u:=fun {b u} q n=>by
  rw[aP (fun z=>by subst z;rw[e2] at q;cases q;exact n _ _ rfl)];exact q
 have N:∀{b:Addr},H2 b=none->upd H2 a (.dK kvs) b=none:=fun {b} q=>by
  rw[aP (fun z=>by subst z;rw[e2] at q;cases q)];exact q
 have hok:HOk X.prog X.w (upd H2 a (.dK kvs)) s2.heap:=fun b u q=>by
  by_cases hb:b=a
  .subst hb
   rw[bg] at q;cases q;exact ObjOk.stay (I2.hok b _ e2).2 (fun _ _ _ q=>q) (fun c q=>U q (fun _ _ z=>nomatch z)) fun c xs q=>U q (fun _ _ z=>nomatch z)
  .rw[aP hb] at q
   exact(I2.hok b u q).stay (fun _ _ _ q=>q) (fun c q=>U q (fun _ _ z=>nomatch z)) fun c xs q=>U q (fun _ _ z=>nomatch z)
 refine⟨I2.ok,I2.os,I2.bare,⟨I2.base.keep,I2.base.slot,fun b ob q n hx=>N (I2.base.free b ob q n hx),I2.base.there,fun b xs q=>U (I2.base.tups b xs q) (fun _ _ z=>nomatch z),fun b ob u q=>?_,fun b ps q=>?_⟩,I2.loc,I2.cell,N I2.free,fun x c q=>N (I2.freeC x c q),fun p hp=>?_,hok,I2.len⟩
 .have h1:=I.base.frzs b ob u q
  rw[aP (fun z=>by subst z;rw[e] at h1;cases h1)];exact I2.base.frzs b ob u q
 .obtain⟨more,h1⟩:=I2.base.tbls b ps q
  exact⟨more,U h1 (fun _ _ z=>nomatch z)⟩
 .obtain⟨k1,k2,k3⟩:=I2.pin p hp
  exact⟨k1,N k2,k3⟩
end
inductive Ln(P:Hp->VK->Prop):Hp->VK->Prop where
 |done {H:Hp}{Q:VK}:P H Q->Ln P H Q
 |frz {H:Hp}{Q:VK}{a:Addr}{kvs:List (Key×V)}:H a=some (.dK kvs)->(∀o,Ln P (upd H a (.frz o (.dK kvs))) (fun v H2=>H2 a=some (.frz o (.dK kvs))/\Q v (upd H2 a (.dK kvs))))->Ln P H Q
theorem GA(h:PE X e t):PE X e (fun σ H Q=>Ln (t σ) H Q):=fun pins s σ H Q I q=>by
 have key:∀{H:Hp}{Q:VK},Ln (t σ) H Q->Inv X pins σ H s->MU (MW X.prog X.w) X.A (eval e X.env) (EP X pins σ Q) X.xe s:=by
  intro H Q q
  induction q with
  |done q=>exact fun I=>h pins s σ _ _ I q
  |frz ea _ ih=>
   intro I;obtain⟨o,I'⟩:=uV I ea;refine thn (ih o I') fun u s' ⟨v,H2,I2,r,e2,q2⟩=>?_;exact⟨v,_,BS I ea I2 e2,r,q2⟩
 exact key q I
section
variable {K:Frag}
theorem TupAt.keep(h:∀b o,H b=some o->(∀ks,o≠.dK ks)->(∀ob ks,o≠.frz ob (.dK ks))->H' b=some o)(t:TupAt K (fun _=>False) H a vs):TupAt K (fun _=>False) H' a vs:=by
 rcases t with⟨n,t|⟨o,t⟩⟩|t
 .exact .inl ⟨n,.inl (h _ _ t (fun _ z=>nomatch z) (fun _ _ z=>nomatch z))⟩
 .exact .inl ⟨n,.inr ⟨o,h _ _ t (fun _ z=>nomatch z) (fun _ _ z=>nomatch z)⟩⟩
 .exact .inr t
mutual
theorem Rep.keep{H H':Hp}(h:∀b o,H b=some o->(∀ks,o≠.dK ks)->(∀ob ks,o≠.frz ob (.dK ks))->H' b=some o):∀{v:V}{d:Mo},Rep K (fun _=>False) H v d->bH d=true->Rep K (fun _=>False) H' v d
 |_,_,.non,_=>.non
 |_,_,.bl b,_=>.bl b
 |_,_,.int i,_=>.int i
 |_,_,.str x,_=>.str x
 |_,_,.tup t r,e=>.tup (t.keep h) (Reps.keep h r (by simpa[bH] using e))
 |_,_,.lst t r,e=>by simp[bH] at e
 |_,_,.dct n t r,e=>by simp[bH] at e
theorem Reps.keep{H H':Hp}(h:∀b o,H b=some o->(∀ks,o≠.dK ks)->(∀ob ks,o≠.frz ob (.dK ks))->H' b=some o):∀{vs:List V}{ds:List Mo},Reps K (fun _=>False) H vs ds->cZ ds=true->Reps K (fun _=>False) H' vs ds
 |_,_,.nil,_=>.nil
 |_,_,.cons (d:=d) (ds:=ds) r t,e=>by
  have e':(bH d&&cZ ds)=true:=by simpa[cZ] using e
  rw[Mx] at e';exact .cons (Rep.keep h r e'.1) (Reps.keep h t e'.2)
end
end
def wH:W->Option W
 |.d x=>some (.d x)
 |.loc x=>some (.d x)
 |.tp _=>none
def bW(ρ:Rho):Rho:=ρ.map fun o=>o.bind wH
def Fz(O:Addr->Prop)(H0 H:Hp):Prop:=∀b,H b=H0 b\/∃kvs o,O b/\H0 b=some (.dK kvs)/\H b=some (.frz o (.dK kvs))
section
variable {K:Frag}{O:Addr->Prop}{ts:List Addr}{H0 H:Hp}{T:Tp}{σ:L2.St}{ρ:Rho}
theorem tV(re:RelE K O ts H0 σ ρ)(fz:Fz O H0 H)(all:∀(j:Nat) (a:Addr) (ds:List (Mo×Mo)),ρ[j]? = some (some (.loc (.dict ds)))->σ[j]? = some (some (.ref a))->∃o kvs,H a=some (.frz o (.dK kvs))):RelE K (fun _=>False) [] H σ (bW ρ):=by
 have le:Le O H0 (fun _=>False) H:=fun b o n e=>⟨fun z=>z,by
  rcases fz b with q|⟨_,_,q,_,_⟩
  .rw[q];exact e
  .exact absurd q n⟩
 intro i w e;unfold bW at e;rw[Nq] at e
 cases hu:ρ[i]? with
 |none=>rw[hu] at e;cases e
 |some u=>
  cases u with
  |none=>rw[hu] at e;cases e
  |some u=>
   rw[hu] at e;have e':wH u=some w:=Nm e;obtain⟨v,h1,h2⟩:=re i u hu
   cases u with
   |d x=>cases e';exact⟨v,h1,Rep.mono le h2⟩
   |tp k=>cases e'
   |loc x=>
    cases e';obtain⟨a,rfl,k1,k2,k3⟩:=h2;refine⟨_,h1,?_⟩
    cases x with
    |list xs=>
     obtain⟨vs,k3,k4⟩:=k3;refine .lst (.inl ⟨fun z=>z,.inl ?_⟩) (k4.mono le)
     rcases fz a with q|⟨_,_,_,q,_⟩
     .rw[q];exact k3
     .rw[k3] at q;cases q
    |dict ds=>
     obtain⟨kvs,k3,k4⟩:=k3;obtain⟨o,kvs',h3⟩:=all i a ds hu h1
     rcases fz a with q|⟨kvs2,o2,_,q,q2⟩
     .rw[q,k3] at h3;cases h3
     .rw[k3] at q
      cases q;exact .dct (fun z=>z) q2 (k4.mono le)
    |_=>cases k3
theorem l6(hx:bH x=true)(re:RelE K O ts H0 σ ρ)(fin:∀H Q,RelE K (fun _=>False) [] H σ (bW ρ)->(∀v H2,SameX [] H H2->Rep K (fun _=>False) H2 v x->Q v H2)->P H Q):∀(k:Nat) {H:Hp}{Q:VK},Fz O H0 H ->
  (∀(j:Nat) (a:Addr) (ds:List (Mo×Mo)),k<=j->ρ[j]? = some (some (.loc (.dict ds)))->σ[j]? = some (some (.ref a))->∃o kvs,H a=some (.frz o (.dK kvs)))->(∀v H2,SameX [] H H2->Rep K (fun _=>False) H2 v x->Q v H2)->Ln P H Q
 |0,H,Q,fz,all,q=>.done (fin H Q (tV re fz fun j a ds=>all j a ds (Oj _)) q)
 |k+1,H,Q,fz,all,q=>by
  by_cases h:∃ds,ρ[k]? = some (some (.loc (.dict ds)))
  .obtain⟨ds,h⟩:=h
   obtain⟨v,h1,a,rfl,k1,k2,kvs,k3,k4⟩:=re k _ h
   rcases fz a with z|⟨kvs2,o2,_,z,z2⟩
   .rw[k3] at z
    refine .frz z fun o=>l6 hx re fin k (fun b=>?_) (fun j b es hj e1 e2=>?_) (fun v H2 s2 r=>?_)
    .by_cases hb:b=a
     .subst hb;exact .inr ⟨kvs,o,k1,k3,bg⟩
     .rw[aP hb];exact fz b
    .by_cases hb:b=a
     .subst hb;exact⟨o,kvs,bg⟩
     .rw[aP hb]
      by_cases hk:k=j
      .subst hk;rw[h1] at e2;cases e2;exact absurd rfl hb
      .exact all j b es (by omega) e1 e2
    .have ha:H2 a=some (.frz o (.dK kvs)):=s2 a _ (by simp) bg
     refine⟨ha,q v _ (fun b ob _ e=>?_) (Rep.keep (fun b ob e n1 n2=>?_) r hx)⟩
     .by_cases hb:b=a
      .subst hb;rw[z] at e;cases e;exact bg
      .rw[aP hb]
       exact s2 b ob (by simp) (by rw[aP hb];exact e)
     .have hb:b≠a:=fun z=>by subst z;rw[ha] at e;cases e;exact n2 _ _ rfl
      rw[aP hb];exact e
   .refine l6 hx re fin k fz (fun j b es hj e1 e2=>?_) q
    by_cases hk:k=j
    .subst hk;rw[h1] at e2;cases e2;exact⟨o2,kvs2,z2⟩
    .exact all j b es (by omega) e1 e2
  .refine l6 hx re fin k fz (fun j b es hj e1 e2=>?_) q
   by_cases hk:k=j
   .subst hk;exact absurd ⟨es,e1⟩ h
   .exact all j b es (by omega) e1 e2
end
def mQ(T:Tp)(o:Option (W×Tp)):Option (W×Tp):=match o with
 |some (.d x,_)=>if bH x=true then some (.d x,T) else none
 |_=>none
def kG(f:FE):FE:=fun ρ T=>mQ T (f (bW ρ) [])
theorem DQ(he:DE X e f):DE X e (kG f):=by
 refine⟨pe_imp (GA he.pe) fun σ H Q=>?_⟩;rintro⟨O,ts,ρ,T,w,T',hc,re,e,q⟩;unfold kG mQ at e;split at e
 .rename_i x T1 h1
  split at e
  .rename_i hx
   cases e;refine l6 hx re (fun H1 Q1 re1 q1=>⟨fun _=>False,[],bW ρ,[],.d x,T1,⟨fun b hb=>(by cases hb),fun b hb=>hb.elim,Qn,rfl,fun i a xs e1 _=>by simp at e1⟩,re1,h1,fun v H2 s2 _ r2=>q1 v H2 s2 r2⟩) ρ.length (fun b=>.inl rfl) (fun j a ds hj e1 _=>?_) (fun v H2 s2 r2=>?_)
   .rw[R9 hj] at e1;cases e1
   .have s2':SameX ts H H2:=fun b o _ q=>s2 b o (by simp) q
    have hm:∀b,O b->Mut (H2 b):=fun b hb=>(hc.trk b hb).to fun u z=>s2 b _ (by simp) z
    have hc2:=hc.step s2' fun b hb=>by
     obtain⟨u,z⟩:=(hc.trk b (hc.own b hb)).ex;rw[z];exact s2 b _ (by simp) z
    exact q v H2 s2' hc2 (Rep.own hm r2 hx)
  .cases e
 .cases e
section
variable {X:Cx}{pos:Pos}{e:Expr}{fe:FE}
def g7(i:Nat):FS:=fun ρ T=>some ((.nx,ρ.set i (some (.loc (.dict [])))),T)
theorem pw(hN:X.N.Nodup)(hi:X.N[i]? = some x:=by rfl)(hx:Loc X.env.scope x:=by first|exact Oe rfl|exact NP rfl)
  (hs:NX (.Dict [] [] dpos) (some (.Name x pos')) pos.line X.env=pure false:=by rfl) (hf:X.fn x=true\/X.env.scope.names.lookup x=some .local:=by first|exact .inl rfl|exact .inr rfl|assumption):DS X (.Assign [.Name x pos'] (.Dict [] [] dpos) pos) (g7 i):=by
 refine⟨?_⟩;refine cb (gi hN hi hx Bw hs hf) fun D σ H=>?_;rintro⟨O₀,H₀,F,ts,O,ρ,T,fl,ρ',T',rs,e,q⟩;cases e;intro p hp;exact q _ _ _ (rs.ownO hp (.inr (.inl ⟨_,rfl⟩)) fun le=>⟨[],bg,.nil⟩)
theorem z6:CallR X (.type "dict") (fun xs H Q=>∃a kvs,xs=[V.ref a]/\Rd H a (.dK kvs)/\∀p,H p=none->Q (.ref p) (upd H p (.dK kvs))):=by
 intro pins s σ H xs us Q I r h;obtain⟨a,kvs,rfl,ha,q⟩:=h;obtain⟨u,rfl,ru⟩:=vals1 r;cases ru;exact Ce I ha fun p s' hp I'=>⟨.ref p,_,I',rfl,q p hp⟩
def kW(o:Option Mo):Option (List (Mo×Mo)):=match o with
 |some (.dict ds)=>some ds
 |_=>none
def mq(i:Nat)(ρ:Rho)(o:Option (List (Mo×Mo)))(T:Tp):Option ((Fl×Rho)×Tp):=match o with
 |some ds=>some ((.nx,ρ.set i (some (.loc (.dict ds)))),T)
 |none=>none
def mE(i:Nat)(f:FE):FS:=fun ρ T=>bnd (f ρ T) fun w T1=>mq i ρ (kW (view T1 w)) T1
theorem DV(h:kW o=some ds):o=some (.dict ds):=by
 unfold kW at h;split at h
 .cases h;rfl
 .cases h
theorem B4(hm:X.mg "dict"=none)(hN:X.N.Nodup)(he:DE X e fe)(hi:X.N[i]? = some x:=by rfl)(hx:Loc X.env.scope x:=by first|exact Oe rfl|exact NP rfl)(hg:Gl X "dict":=by rfl)
  (hse:Mw [e] X.env=(false,eval e X.env)::Mw [] X.env:=by exact bR rfl) (hpl:(Nv cpos (Mw [] X.env)).any (·.1)=false:=by exact cL rfl)
  (hs:NX (.Call (.Name "dict" p) [e] [] cpos) (some (.Name x pos')) pos.line X.env=pure false:=by rfl) (hf:X.fn x=true\/X.env.scope.names.lookup x=some .local:=by first|exact .inl rfl|exact .inr rfl|assumption) :
  DS X (.Assign [.Name x pos'] (.Call (.Name "dict" p) [e] [] cpos) pos) (mE i fe):=by
 refine⟨?_⟩;refine cb (gi hN hi hx (lq z6 hg hm TY (bj he.pe bJ hse) (by decide) (by decide) hse hpl) hs hf) fun D σ H=>?_;rintro⟨O₀,H₀,F,ts,O,ρ,T,fl,ρ',T',rs,e,q⟩;obtain⟨w,T1,e1,e⟩:=aO e;unfold mq at e;split at e
 .rename_i ds hd
  cases e;have hv:=DV hd;refine⟨O,ts,ρ,T,w,_,rs.hc,rs.re,e1,fun v H1 s1 hc1 r1=>?_⟩;obtain⟨a,kvs,rfl,t,r⟩:=(hc1.view r1 hv).dct;exact⟨a,kvs,rfl,t,fun p hp=>q _ _ _ ((rs.step s1 hc1).ownO (xs:=.dict ds) hp (.inr (.inl ⟨_,rfl⟩)) fun le=>⟨kvs,bg,r.mono le⟩)⟩
 .cases e
def putN(ds:List (Mo×Mo))(s:Str)(x:Mo):List (Mo×Mo):=if (au ds s).isSome=true then cM ds s x else ds++[(.str s,x)]
theorem RepK.app{K:Frag}{O:Addr->Prop}{H:Hp}{s:Str}{v:V}{x:Mo}(rx:Rep K O H v x):∀{kvs:List (Key×V)}{ds:List (Mo×Mo)},RepK K O H kvs ds->RepK K O H (kvs++[(Nr s,v)]) (ds++[(.str s,x)])
 |_,_,.nil=>.cons (k:=Nr s) rx .nil
 |_,_,.cons r t=>.cons r (RepK.app rx t)
theorem CQ{K:Frag}{O:Addr->Prop}{H:Hp}{s:Str}{v:V}{x:Mo}(rx:Rep K O H v x){kvs:List (Key×V)}{ds:List (Mo×Mo)}(r:RepK K O H kvs ds):RepK K O H (putK kvs (Nr s) v) (putN ds s x):=by
 unfold putN
 rcases i7 (s:=s) r with⟨z1,z2⟩|⟨v',d',z1,z2,_⟩
 .rw[z1,if_neg (by simp),Bl v z2]
  exact r.app rx
 .rw[z1,if_pos (show (some d').isSome=true by rfl)]
  have hany:(kvs.any fun kv=>decide (kv.1=(Nr s:Key)))=true:=z8 (by rw[z2];rfl);unfold putK;rw[if_pos hany];exact nZ rx r
def mN(i:Nat)(ρ:Rho)(ds:List (Mo×Mo))(w k:W)(T:Tp):Option ((Fl×Rho)×Tp):=match w,k with
 |.d x,.d (.str s)=>if ds.length<=1000 then some ((.nx,ρ.set i (some (.loc (.dict (putN ds s x))))),T) else none
 |_,_=>none
def mM(i:Nat)(fk:FE)(ρ:Rho)(w:W)(T:Tp)(o:Option (Option W)):Option ((Fl×Rho)×Tp):=match o with
 |some (some (.loc (.dict ds)))=>bnd (fk ρ T) (mN i ρ ds w)
 |_=>none
def fH(i:Nat)(fk fv:FE):FS:=fun ρ T=>bnd (fv ρ T) fun w T1=>mM i fk ρ w T1 ρ[i]?
theorem l9(hr:Room k X.A)(hk:DE X kx fk)(he:DE X e fv)(hN:X.N[i]? = some x:=by rfl)(hv:Vis X.env.scope x:=by first|exact Oe rfl|exact NP (Oe rfl)|exact NP (NP rfl))(hd:(x == ("__debug__" : Str))=false:=by decide)
  (hcd:(x == ("__classdict__" : Str))=false:=by decide) (hs:NX e (some (.Subscript (.Name x p) kx pos')) pos.line X.env=pure false:=by rfl):DS X (.Assign [.Subscript (.Name x p) kx pos'] e pos) (fH i fk fv):=by
 refine⟨?_⟩;refine cb (C0 (mV hr) (pv i hN hv hd hcd) hk.pe he.pe hs) fun D σ H=>?_;rintro⟨O₀,H₀,F,ts,O,ρ,T,fl,ρ',T',rs,e,q⟩;obtain⟨w,T1,e1,e⟩:=aO e;refine⟨O,ts,ρ,T,w,T1,rs.hc,rs.re,e1,fun v H1 s1 hc1 r1=>?_⟩;have rs1:=rs.step s1 hc1;unfold mM at e;split at e
 .rename_i ds c3
  obtain⟨wk,T3,e3,e⟩:=aO e;unfold mN at e;split at e
  .rename_i xv s _
   split at e
   .rename_i c2
    cases e;obtain⟨u,k1,a,rfl,k2,k3,kvs,k4,k5⟩:=rs1.re i _ c3;refine⟨_,k1,O,ts,ρ,T1,_,_,rs1.hc,rs1.re,e3,fun y H3 s3 hc3 r3=>?_⟩;have rs3:=rs1.step s3 hc3;cases (show Rep X.K O H3 y (.str s) from r3);have k4':H3 a=some (.dK kvs):=s3 _ _ k3 k4;have k5':RepK X.K O H3 kvs ds:=k5.mono (hc1.le s3)
    have hlen:kvs.length<sizeLine:=by
     rw[tO k5'];exact NK c2 (by decide)
    have rx:Rep X.K O H3 v xv:=RepW.mono (w:=.d xv) r1 hc1 s3;refine⟨a,_,rfl,DPut.k (k:=(Nr s:Key)) k4' hlen,?_⟩;exact q O σ _ (rs3.putO c3 k1 (.inr (.inl ⟨_,rfl⟩)) fun le=>⟨_,bg,CQ (Rep.mono le rx) (k5'.mono le)⟩)
   .cases e
  .cases e
 .cases e
end
def wX(n:Nat):W->Option W
 |.tp k=>if k<n then some (.tp k) else none
 |w=>some w
def iQ(n:Nat)(ρ:Rho):Rho:=ρ.map fun o=>o.bind (wX n)
def jd(n:Nat)(o:Option ((Fl×Rho)×Tp)):Option ((Fl×Rho)×Tp):=match o with
 | some ((fl,ρ'),T3)=>(match kA T3 with
  |some (T4,_)=>if T4.length=n then some ((fl,iQ n ρ'),T4) else none
  | none=>none)
 |none=>none
def openK(i:Nat)(fr:FS)(ρ:Rho)(o:Option (List Mo))(T1:Tp):Option ((Fl×Rho)×Tp):=match o with
 |some xs=>if xs.length<=1000 then jd T1.length (fr (ρ.set i (some (.tp T1.length))) (T1++[xs])) else none
 |none=>none
def jl(i:Nat)(g:FA)(fr:FS):FS:=fun ρ T=>bnd (g ρ T) fun ws T1=>openK i fr ρ (dQ ws) T1
section
variable {K:Frag}{O₀:Addr->Prop}{H₀:Hp}{F:List ((Addr->Prop)×Hp)}{ts:List Addr}{O:Addr->Prop}{H:Hp}{σ:L2.St}{ρ:Rho}{T:Tp}
theorem RS.openR(r:RS K O₀ H₀ F ts O H σ ρ T)(hp:H p=none)(rv:Reps K O H vs xs) :
  RS K (fun b=>O₀ b\/b=p) H₀ F (ts++[p]) (fun b=>O b\/b=p) (upd H p (.lst vs)) (σ.set i (some (.ref p))) (ρ.set i (some (.tp T.length))) (T++[xs]):=by
 have nO:=r.hc.fresh hp;have nt:p∉ts:=fun z=>nO (r.hc.own _ z)
 have le:Le O H (fun b=>O b\/b=p) (upd H p (.lst vs)):=fun a o n e=>by
  have z1:a≠p:=cx e hp;exact⟨fun q=>q.elim n z1,by rw[aP z1];exact e⟩
 have hw:∀ys,W.tp T.length≠.loc ys:=fun _ z=>nomatch z
 refine⟨⟨fun b hb=>?_,fun b hb=>?_,?_,by simp[r.hc.len],fun j b zs q1 q2=>?_⟩,fun j w e=>?_,fun b hb=>hb.elim (fun z=>.inl (r.sub b z)) .inr,fun b hb=>?_,fun b o n e=>?_,fun j xs a e1 e2=>?_,fun j k xs ys v e1 e2 e3 e4=>?_,fun f hf=>(r.frs f hf).trans le,by simp[r.len]⟩
 .rcases MN.mp hb with z|z
  .exact .inl (r.hc.own b z)
  .exact .inr (MR.mp z)
 .by_cases z:b=p
  .rw[z,bg];exact .inl ⟨_,rfl⟩
  .rw[aP z];exact r.hc.trk b (hb.resolve_right z)
 .rw[OQ]
  exact⟨r.hc.nd,by simp,fun b hb c hc z=>nt (by rw[←MR.mp hc,←z];exact hb)⟩
 .by_cases hj:j<ts.length
  .rw[M4 hj] at q1
   rw[M4 (by rw[←r.hc.len];exact hj)] at q2;exact(r.hc.tape j b zs q1 q2).mono (fun o h1=>by rw[aP (cx h1 hp)];exact h1) le
  .have hj2:j=ts.length:=by
    have:=(My.mp q1).1;simp at this;omega
   subst hj2
   have e1:b=p:=by simpa using q1.symm
   have e2:zs=xs:=by rw[r.hc.len] at q2;simpa using q2.symm
   subst e1 e2;exact .inl ⟨rv.notO,vs,bg,rv.mono le⟩
 .by_cases z:i=j
  .subst z
   have hl:i<ρ.length:=by
    have:=(My.mp e).1;simpa using this
   rw[MQ hl] at e;cases e;exact⟨.ref p,by rw[MQ (by rw[r.len];exact hl)],p,by rw[←r.hc.len];simp,rfl⟩
  .rw[MD z] at e
   obtain⟨x,h1,h2⟩:=r.re j w e;refine⟨x,by rw[MD z];exact h1,?_⟩
   cases w with
   |d y=>exact Rep.mono le h2
   |tp k=>
    obtain⟨a,k1,k2⟩:=h2;exact⟨a,by rw[M4 (My.mp k1).1];exact k1,k2⟩
   |loc ys=>
    obtain⟨a,e1,m1,m2,m3⟩:=h2;have na:a≠p:=fun z=>nO (z ▸ m1);refine⟨a,e1,.inl m1,fun z=>?_,m3.mono (fun o' q=>by rw[aP na];exact q) le⟩
    rcases MN.mp z with z|z
    .exact m2 z
    .exact na (MR.mp z)
 .rcases MN.mp hb with z|z
  .exact .inl (r.ots b z)
  .exact .inr (MR.mp z)
 .have nb:b∉ts:=fun z=>n (NS _ z)
  have e1:=r.same b o nb e;rw[aP (cx e1 hp)];exact e1
 .obtain⟨n,e⟩:=gb hw e1
  rw[MD (Ot n)] at e2;obtain⟨f1,f2⟩:=r.fresh j xs a e e2;refine⟨f1,fun z=>z.elim f2 fun z=>?_⟩;obtain⟨v,h1,a',ea,m1,_⟩:=r.re j _ e;rw[e2] at h1;cases h1;cases ea;exact nO (z ▸ m1)
 .obtain⟨n1,e1⟩:=gb hw e1
  obtain⟨n2,e2⟩:=gb hw e2;rw[MD (Ot n1)] at e3;rw[MD (Ot n2)] at e4;exact r.dist j k xs ys v e1 e2 e3 e4
theorem RS.closeR(ots:∀b∈ts,O₀ b)(nt:p∉ts)(h0:H₀ p=none)(n0:¬O₀ p)(r:RS K (fun b=>O₀ b\/b=p) H₀ F (ts++[p]) O H σ ρ (T++[row])):RS K O₀ H₀ F ts O H σ (iQ T.length ρ) T:=by
 have lenT:ts.length=T.length:=by have:=r.hc.len;simp at this;exact this
 have at_:∀{j:Nat}{w:W},(iQ T.length ρ)[j]? = some (some w)->ρ[j]? = some (some w)/\∀k,w=.tp k->k<T.length:=fun {j w} e=>by
  unfold iQ at e;rw[Nq] at e
  cases hu:ρ[j]? with
  |none=>rw[hu] at e;cases e
  |some u=>
   cases u with
   |none=>rw[hu] at e;cases e
   |some u=>
    rw[hu] at e;have e':wX T.length u=some w:=Nm e
    cases u with
    |d x=>cases e';exact⟨rfl,fun k z=>nomatch z⟩
    |loc x=>cases e';exact⟨rfl,fun k z=>nomatch z⟩
    |tp k=>
     have e2:(if k<T.length then some (W.tp k) else none)=some w:=e';split at e2
     .rename_i hk
      cases e2;exact⟨rfl,fun k' z=>by cases z;exact hk⟩
     .cases e2
 refine⟨⟨fun b hb=>r.hc.own b (NS _ hb),r.hc.trk,(OQ.mp r.hc.nd).1,lenT,fun j b zs q1 q2=>?_⟩,fun j w e=>?_,fun b hb=>r.sub b (.inl hb),ots,fun b o n e=>?_,fun j xs a e1 e2=>?_,fun j k xs ys v e1 e2 e3 e4=>?_,r.frs,by simp[iQ,r.len]⟩
 .have hj:j<ts.length:=(My.mp q1).1
  exact r.hc.tape j b zs (by rw[M4 hj];exact q1) (by rw[M4 (by rw[←lenT];exact hj)];exact q2)
 .obtain⟨e1,hk⟩:=at_ e
  obtain⟨v,h1,h2⟩:=r.re j w e1;refine⟨v,h1,?_⟩
  cases w with
  |d x=>exact h2
  |tp k=>
   obtain⟨a,k1,k2⟩:=h2;have:=hk k rfl;exact⟨a,by rw[M4 (by rw[lenT];exact this)] at k1;exact k1,k2⟩
  |loc x=>
   obtain⟨a,k1,k2,k3,k4⟩:=h2;exact⟨a,k1,k2,fun z=>k3 (NS _ z),k4⟩
 .refine r.same b o (fun z=>?_) e
  rcases MN.mp z with z|z
  .exact n z
  .rw[MR.mp z,h0] at e;cases e
 .obtain⟨f1,f2⟩:=r.fresh j xs a (at_ e1).1 e2
  exact⟨f1,fun z=>f2 (.inl z)⟩
 .exact r.dist j k xs ys v (at_ e1).1 (at_ e2).1 e3 e4
end
section
variable {X:Cx}{pos:Pos}{rest:List Stmt}{fr:FS}
theorem Dd
  (rs:RS X.K O₀ H₀ F ts O H σ ρ T) (hp:H p=none) (rv:Reps X.K O H vs xs) (e:jd T.length (fr (ρ.set i (some (.tp T.length))) (T++[xs]))=some ((fl,ρ'),T')) (q:xh X.K O₀ H₀ F ts D ρ' T' fl):qp X.K fr D (σ.set i (some (.ref p))) (upd H p (.lst vs)):=by
 have nO:=rs.hc.fresh hp;have nt:p∉ts:=fun z=>nO (rs.hc.own _ z)
 have h0:H₀ p=none:=by
  cases e:H₀ p with
  |none=>rfl
  |some o=>rw[rs.same p o nt e] at hp;cases hp
 have n0:¬O₀ p:=fun z=>nO (rs.sub p z);have rs1:=rs.openR (i:=i) hp rv;generalize hE:fr (ρ.set i (some (.tp T.length))) (T++[xs])=E at e;unfold jd at e;split at e
 .rename_i fl1 ρ1 T3
  split at e
  .rename_i T4 row hT
   split at e
   .rename_i hlen
    have eT:=BO hT;subst eT;cases e;have lb:∀{G:Hp},Le (fun b=>O₀ b\/b=p) G O₀ G:=fun a o n e=>⟨fun z=>n (.inl z),e⟩
    have lenB:∀{G:Hp}{B:Addr->Prop},HC X.K B (ts++[p]) G (T'++[row])->ts.length=T'.length:=fun h=>by have:=h.len;simp at this;exact this
    have sameB:∀{G:Hp},SameX (ts++[p]) H₀ G->SameX ts H₀ G:=fun s b o n e=>s b o (fun z=>by
     rcases MN.mp z with z|z
     .exact n z
     .rw[MR.mp z,h0] at e;cases e) e
    refine⟨_,H₀,F,ts++[p],_,_,_,fl,ρ1,T'++[row],rs1,hE,?_⟩;have lenE:T.length=T'.length:=hlen.symm
    cases fl with
    |nx=>exact fun O' σ' H' r=>q O' σ' H' (by rw[lenE];exact RS.closeR rs.ots nt h0 n0 r)
    |bk=>exact fun O' σ' H' r=>q O' σ' H' (by rw[lenE];exact RS.closeR rs.ots nt h0 n0 r)
    |ct=>exact fun O' σ' H' r=>q O' σ' H' (by rw[lenE];exact RS.closeR rs.ots nt h0 n0 r)
    |rt y=>
     intro v H' s1 c1 r1;refine q v H' (sameB s1) ⟨rs.ots,fun b hb=>c1.trk b (.inl hb),rs.hc.nd,lenB c1,fun j b zs q1 q2=>?_⟩ (Rep.mono lb r1);have hj:j<ts.length:=(My.mp q1).1;exact(c1.tape j b zs (by rw[M4 hj];exact q1) (by rw[M4 (by rw[←lenB c1];exact hj)];exact q2)).mono (fun _ h=>h) lb
    |ro y=>
     intro A v H' s1 hA c1 o1;have lb2:Le (fun b=>(O₀ b\/b=p)\/A b) H' (fun b=>O₀ b\/A b) H':=fun b o n e=>⟨fun z=>n (z.elim (fun z=>.inl (.inl z)) .inr),e⟩;refine q A v H' (sameB s1) (fun b hb=>⟨(hA b hb).1,fun z=>(hA b hb).2 (.inl z)⟩) ⟨fun b hb=>.inl (rs.ots b hb),fun b hb=>c1.trk b (hb.elim (fun z=>.inl (.inl z)) .inr),rs.hc.nd,lenB c1,fun j b zs q1 q2=>?_⟩ (OwnV.mono lb2 o1);have hj:j<ts.length:=(My.mp q1).1;exact(c1.tape j b zs (by rw[M4 hj];exact q1) (by rw[M4 (by rw[←lenB c1];exact hj)];exact q2)).mono (fun _ h=>h) lb2
   .cases e
  .cases e
 .cases e
theorem sN(hN:X.N.Nodup)(he:DA X es g)(hrest:DSs X rest fr)(hi:X.N[i]? = some x:=by rfl)(hx:Loc X.env.scope x:=by first|exact Oe rfl|exact NP rfl)
  (hs:NX (.List es lpos) (some (.Name x pos')) pos.line X.env=pure false:=by rfl) (hf:X.fn x=true\/X.env.scope.names.lookup x=some .local:=by first|exact .inl rfl|exact .inr rfl|assumption):DSs X (.Assign [.Name x pos'] (.List es lpos) pos::rest) (jl i g fr):=by
 refine⟨?_⟩;refine iA (f9 (gi hN hi hx (gQ he.pe) hs hf) hrest.pe) fun D σ H=>?_;rintro⟨O₀,H₀,F,ts,O,ρ,T,fl,ρ',T',rs,e,q⟩;obtain⟨ws,T1,e1,e⟩:=aO e;refine⟨O,ts,ρ,T,ws,T1,rs.hc,rs.re,e1,fun vs H1 s1 hc1 r1=>?_⟩;unfold openK at e;split at e
 .rename_i xs h1
  split at e
  .rename_i h2
   have rv:=jP r1 h1;exact⟨l7 (by rw[rv.length];exact h2),fun p hp=>Dd (rs.step s1 hc1) hp rv e q⟩
  .cases e
 .cases e
end
section
variable {X:Cx}{pos:Pos}
end
section
variable {X:Cx}
def fM(k:Kd):Bool:=decide (k=.tup)||decide (k=.lst)
theorem iO(K:Frag)(a:Kd):Pw K (.type a.name) [.type "tuple",.type "list"]=some (fM a):=by
 have h1:=gf a .tup (by decide);have h2:=gf a .lst (by decide);have e1:Nf K (.type a.name) (.type "tuple")=some (a8 a .tup):=h1;have e2:Nf K (.type a.name) (.type "list")=some (a8 a .lst):=h2
 cases a <;> (simp only[Pw,e1,e2];rfl)
theorem z4:CallR X (.builtin "isinstance") (fun xs H Q=>∃(x:V) (tp:Addr) (O:Addr->Prop) (d:Mo),xs=[x,.ref tp]/\Vw X.K O H x d/\H tp=some (.tup [.ty "tuple",.ty "list"])/\Q (.bl (fM (kd d))) H):=by
 intro pins s σ H xs us Q I r h;obtain⟨x,tp,O,d,rfl,vw,ht,q⟩:=h;obtain⟨u,w',rfl,ru,rw'⟩:=vals2 r;cases (show w'=MK tp from rw');have fin:∀tk,EP X pins σ Q (.bool (fM (kd d))) { s with toks:=tk }:=fun tk=>⟨.bl _,H,I.tok _,rfl,q⟩;obtain⟨_,its,rv,⟨dd,c,n,sl⟩,e0,e1,m,e2⟩:=(show ObjOk X.prog X.w H s.heap tp (.tup [.ty "tuple",.ty "list"]) from I.hok tp _ ht);obtain⟨u1,u2,rfl,r1,r2⟩:=vals2 rv;cases (show u1=Pb "tuple" from r1);cases (show u2=Pb "list" from r2);dsimp only at e1 e2;subst e1 e2
 cases d with
 |none=>cases vw.non;cases (show u=NY from ru);exact Ox Td I.kIn Ow e0 (iO X.K .non) (fun z=>nomatch z) fin
 |bool b=>cases vw.bl;cases (show u=QW b from ru);exact Ox Te I.kIn Ow e0 (iO X.K .bl) (fun z=>nomatch z) fin
 |int i=>cases vw.int;obtain⟨t,e⟩:=(show ∃t,u=QT i t from ru);cases e;exact Ox TK I.kIn Ow e0 (iO X.K .int) (fun z=>nomatch z) fin
 |str z=>cases vw.str;obtain⟨t,e⟩:=(show ∃t,u=P5 z t from ru);cases e;exact Ox TL I.kIn Ow e0 (iO X.K .str) (fun z=>nomatch z) fin
 |list ds=>
  obtain⟨a,vs,rfl,t,r⟩:=vw.lst;cases (show u=MK a from ru);obtain⟨its,_,pl,_⟩:=I.list t;obtain⟨o,n,e,c1,_⟩:=pl;exact Ox Qe I.kIn ⟨o,e,c1⟩ e0 (iO X.K .lst) (fun z=>nomatch z) fin
 |tuple ds=>
  obtain⟨a,vs,rfl,t,r⟩:=vw.tup;cases (show u=MK a from ru);obtain⟨its,_,pl,_⟩:=I.tuple t.sq;obtain⟨o,e,c1,_⟩:=pl;exact Ox Q0 I.kIn ⟨o,e,c1⟩ e0 (iO X.K .tup) (fun z=>nomatch z) fin
 |dict ds=>
  obtain⟨a,vs,rfl,t,r⟩:=vw.dct;cases (show u=MK a from ru);obtain⟨_,_,_,_,o,_,_,e,c1,_⟩:=ef I.hok t;exact Ox Qf I.kIn ⟨o,e,c1.1⟩ e0 (iO X.K .dct) (fun z=>nomatch z) fin
def g6(x:Mo):Option PyData:=some (.bool (fM (kd x)))
theorem Cb(hi:X.mg "isinstance"=none)(he:DE X e f)(hm1:X.mg "tuple"=none)(hm2:X.mg "list"=none)(hg:Gl X "isinstance":=by rfl)(hT1:Gl X "tuple":=by rfl)(hT2:Gl X "list":=by rfl)
  (hs:Mw [e,.Tuple [.Name "tuple" p1,.Name "list" p2] k tpos] X.env=(false,eval e X.env)::Mw [.Tuple [.Name "tuple" p1,.Name "list" p2] k tpos] X.env:=by exact bR rfl)
  (hs2:Mw [.Tuple [.Name "tuple" p1,.Name "list" p2] k tpos] X.env=(false,eval (.Tuple [.Name "tuple" p1,.Name "list" p2] k tpos) X.env)::Mw [] X.env:=by exact bR rfl)
  (hs3:Mw [.Name "tuple" p1,.Name "list" p2] X.env=(false,eval (.Name "tuple" p1) X.env)::Mw [.Name "list" p2] X.env:=by exact bR rfl) (hs4:Mw [.Name "list" p2] X.env=(false,eval (.Name "list" p2) X.env)::Mw [] X.env:=by exact bR rfl)
  (hpl:(Nv pos (Mw [.Tuple [.Name "tuple" p1,.Name "list" p2] k tpos] X.env)).any (·.1)=false:=by exact cL rfl) :
  DE X (.Call (.Name "isinstance" p') [e,.Tuple [.Name "tuple" p1,.Name "list" p2] k tpos] [] pos) (fUn g6 f):=by
 refine⟨?_⟩;refine pe_imp (gK z4 hg hi N6 (bj he.pe (bj (pS (bj (lW (v:=.ty "tuple") hT1 hm1 Nw rfl) (bj (lW (v:=.ty "list") hT2 hm2 Qa rfl) bJ hs4) hs3)) bJ hs2) hs) (by decide) (by decide) hs hpl) fun σ H Q=>?_;rintro⟨O,ts,ρ,T,w,T',hc,re,e,q⟩;obtain⟨w1,T1,e1,e⟩:=aO e;obtain⟨x,d,h1,h3,rfl,rfl⟩:=jj e;cases h3;refine⟨O,ts,ρ,T,w1,T',hc,re,e1,fun v1 H1 s1 hc1 r1=>?_⟩;refine⟨by decide,fun tp htp=>?_⟩;have hc2:=hc1.new htp (.tup [.ty "tuple",.ty "list"]);have s2:SameX ts H1 (upd H1 tp (.tup [.ty "tuple",.ty "list"])):=.new htp _;exact⟨v1,tp,O,x,rfl,hc2.view (r1.mono hc1 s2) h1,bg,q _ _ (s1.trans s2) hc2 (.bl _)⟩
end
theorem BZ{P:MA}{w:ML}{K:Frag}{mg:Str->Option Mp}{base:Heap}{CX:CXT}{k:Nat}{f:Addr}{fd:MS}{ps:List Str}{sp sp':Sp}(F:FnOk P w K mg base CX k f fd ps sp)(i:∀vs H Q E,sp' vs H Q E->sp vs H Q E):FnOk P w K mg base CX k f fd ps sp':=⟨fun vs H Q E h=>F.1 vs H Q E (i _ _ _ _ h),fun A outer s H args us vs Q E a b c d h=>F.2 A outer s H args us vs Q E a b c d (i _ _ _ _ h)⟩
theorem Ax{K:Frag}{m:FnM}(hm:∀ns:List Int,ns.length<=63->∃T',m [.d (d8 ns)] []=some (.bool true,T')):∀vs H Q E,mK K vs H Q E->spM K 1 m vs H Q E:=by
 intro vs H Q E h;obtain⟨a,ns,rfl,hS,hl,q⟩:=h;obtain⟨T',e⟩:=hm ns hl
 have ra:LstAt K (fun _=>False) H a (ns.map V.int):=by
  rcases hS with h|h
  .exact .inl ⟨fun z=>z,h⟩
  .exact .inr (.inr h)
 refine⟨fun _=>False,[],[],[.d (d8 ns)],.bool true,T',⟨fun b hb=>(by cases hb),fun b hb=>hb.elim,Qn,rfl,fun i a xs e1 _=>by simp at e1⟩,.cons (show Rep K (fun _=>False) H (.ref a) (d8 ns) from .lst ra (sr ns)) .nil,rfl,e,fun v H' _ _ r=>?_⟩;cases r;exact q H'
def HG:Mo->Mo->Option PyData:=iop fun i j=>if 0<=j then some (.int (i / 2^j.toNat)) else none
@[simp] theorem JA:HG (.int i) (.int j)=if 0<=j then some (.int (i / 2^j.toNat)) else none:=rfl
section
variable {X:Cx}
end
end D
namespace L2
structure CSn(osc:O9)(N:List Str)(xs:List Str)(scope:O9)(N':List Str):Prop where
 kind:scope.kind=.function
 nocell:∀y∈scope.names,y.2≠.cell
 names:∀y∈scope.names,y.2=.local->scope.names.lookup y.1=some .local
 hx:∀x∈xs,scope.names.lookup x=some .local
 only:∀y∈scope.names,y.2=.local->y.1∈xs\/y.1=".0"
 free:∀y∈scope.names,y.2=.free->osc.names.lookup y.1=some .cell\/osc.names.lookup y.1=some .free
 nd:(xs++N').Nodup
 n0:(".0" : Str)∉N'
 len:N'.length=N.length
 rel:∀p∈N'.zip N,p.1=p.2\/∀q∈scope.names,q.1≠p.1
section
variable {X:Cx}{pins:List (Addr×Obj)}{σ:St}{H:Hp}{s:Ms}{xs:List Str}{scope:O9}{N':List Str}
end
section
variable {X:Cx}{xs:List Str}{scope:O9}{N':List Str}{tg elt iter:Expr}{ifs:List Expr}{pos:Pos}{wi:TI}{g:TG}{te:TE}{tt:TT}
end
end L2
namespace D
open L2
section
variable {X:Cx}{pos:Pos}
end
section
variable {X:Cx}
variable {pos:Pos}{e e':Expr}{fe fk:FE}
end
section
variable {K:Frag}{O₀:Addr->Prop}{H₀:Hp}{F:List ((Addr->Prop)×Hp)}{ts:List Addr}{O A:Addr->Prop}{H H1:Hp}{σ:L2.St}{ρ:Rho}{T T1:Tp}
theorem RS.keep(r:RS K O₀ H₀ F ts O H σ ρ T)(hA:∀b,A b->O b):HC K (fun b=>O₀ b\/A b) ts H T/\Le O H (fun b=>O₀ b\/A b) H:=by
 have le:Le O H (fun b=>O₀ b\/A b) H:=fun a o n e=>⟨fun z=>n (z.elim (r.sub a) (hA a)),e⟩;exact⟨⟨fun b hb=>.inl (r.ots b hb),fun b hb=>r.hc.trk b (hb.elim (r.sub b) (hA b)),r.hc.nd,r.hc.len,fun i a xs e1 e2=>(r.hc.tape i a xs e1 e2).mono (fun _ h=>h) le⟩,le⟩
end
section
variable {X:Cx}{pos:Pos}
end
inductive SpOP(K:Frag)(n:Nat)(m:FnM)(vs:List V)(H:Hp)(Q:VK):Prop where
 |mk (O:Addr->Prop) (ts:List Addr) (T:Tp) (ws:List W) (x:Mo) (T':Tp) (hc:HC K O ts H T) (r:fL K O ts H vs ws) (hl:ws.length=n) (e:m ws T=some (x,T'))
  (q:∀(A:Addr->Prop) v H',SameX ts H H'->(∀b,A b->H b=none/\¬O b)->HC K (fun b=>O b\/A b) ts H' T'->OwnV K (fun b=>O b\/A b) A H' v x->Q v H'):SpOP K n m vs H Q
section
variable {X:Cx}{pos:Pos}
end
section
variable {X:Cx}
abbrev FP:=Rho->Tp->Option (List (Str×Mo)×Tp)
def g9(l:List (Str×Mo)):List (Mo×Mo):=l.map fun p=>(.str p.1,p.2)
def cR(p:Str×V):Key×V:=(Nr p.1,p.2)
structure DP(X:Cx)(pos:Pos)(keys:List (Option Expr))(values:List Expr)(g:FP):Prop where
 ex:∃trs,PPs X pos keys values trs/\∀(σ:L2.St) (H:Hp) (Q:List (V×V)->Hp->Prop) (O:Addr->Prop) (ts:List Addr) (ρ:Rho) (T:Tp) (l:List (Str×Mo)) (T':Tp),HC X.K O ts H T->RelE X.K O ts H σ ρ->g ρ T=some (l,T') ->
  (∀(kvs:List (Str×V)) (H':Hp),SameX ts H H'->HC X.K O ts H' T'->kvs.map (·.1)=l.map (·.1)->RepK X.K O H' (kvs.map cR) (g9 l)->Q (kvs.map fun p=>(V.str p.1,p.2)) H')->pN trs σ H Q
theorem sD:∀(l acc:List (Str×V)),(acc.map (·.1)++l.map (·.1)).Nodup->ft (acc.map cR) (l.map cR)=(acc++l).map cR
 |[],acc,_=>by simp[ft]
 |p::l,acc,h=>by
  have h1:putK (acc.map cR) (Nr p.1:Key) p.2=(acc++[p]).map cR:=by
   unfold putK;rw[if_neg]
   .rw[NV]
    rfl
   .intro hc
    obtain⟨kv,m,e⟩:=Qw.mp hc;obtain⟨q,m2,rfl⟩:=MJ.mp m;have e':q.1=p.1:=Uc (of_decide_eq_true e);have:=(OQ.mp h).2.2 q.1 (MJ.mpr ⟨q,m2,rfl⟩) p.1 (by simp);exact this e'
  have:=sD l (acc++[p]) (by simpa using h);have e:ft (acc.map cR) ((p::l).map cR)=ft (putK (acc.map cR) (Nr p.1:Key) p.2) (l.map cR):=rfl;rw[e,h1,this];simp
end
section
variable {X:Cx}{pos:Pos}
end
section
variable {X:Cx}{pos:Pos}{rest:List Stmt}{fr:FS}
end
section
variable {X:Cx}{pos:Pos}
end
theorem y9:S3 (.type "list") "keys"=pure none:=Ur (by decide +kernel)
theorem yk:S3 (.type "list") "__getattr__"=pure none:=Ur (by decide +kernel)
theorem zc(ho:s.heap.get? a=some { cls:=.type "list",dict:=none,data:=.seq its n,slots:=sl })(hh:A.handled=none)
  (h:∀h' tk e,Heap.NewAttrErr s.heap h' e (.ref a) "keys"->E (.ref e) { s with heap:=h',toks:=tk }) :
  MU (MW prog w) A (PF.«object.__getattribute__» ⟨[.ref a,.str "keys" u],[]⟩) Q E s:=by
 obtain⟨hp,g,d,tk,os⟩:=s;have hT:(⟨hp,g,d,tk,os⟩:Ms).TypeIs (.ref a) "list":=⟨_,ho,rfl⟩;have f4:=y9;unfold PF.«object.__getattribute__»
 repeat (any_goals (first|assumption|wp_step))
 exact wpAny_raiseAttrError hh h (attrMsg_fits (by decide +kernel) (by decide +kernel))
theorem yv(ho:s.heap.get? a=some { cls:=.type "list",dict:=none,data:=.seq its n,slots:=sl })(hh:A.handled=none)
  (h:∀h' tk,(∀b o,s.heap.get? b=some o->h'.get? b=some o)->Q none { s with heap:=h',toks:=tk }) :
  MU (MW prog w) A (UH (.ref a) "keys") Q E s:=by
 obtain⟨hp,g,d,tk,os⟩:=s;have hT:(⟨hp,g,d,tk,os⟩:Ms).TypeIs (.ref a) "list":=⟨_,ho,rfl⟩;have f1:=sub_AttributeError;have f3:=OT.lookup;have f4:=OT.bind (.ref a);have f5:=yk;unfold UH getAttrBy?
 repeat (any_goals (first|assumption|wp_step))
 refine Px OT.plain F.entry_list_ga (OT.check _ _ _ _ _ _ _ _ (show (⟨hp,g,d,tk+1,os⟩:Ms).TypeIs (.ref a) "list" from⟨_,ho,rfl⟩) (F.args_list_getattribute_2 _ _) (zc (s:=⟨hp,g,d,tk+1,os⟩) ho hh fun h' tk' e hx=>?_));obtain⟨t',u',he⟩:=hx.there;show MU _ _ (S7 _ _ _ _ _ _ _) _ _ _;unfold S7
 repeat (any_goals (first|assumption|wp_step))
 exact h _ _ hx.keeps
theorem qU:entryFor table "dict.update.loop"=some PF.«dict.update.loop»:=entryFor_of_tree (by kernel_rfl)
section
variable {prog:MA}{w:ML}{K:Type}[DecidableEq K]{knd:KeyKind prog w K}{A:Nb}{E:Mp->Ms->Prop}{s:Ms}
theorem tf{its:Array Mp}{R:Uz->Ms->Prop}(hh:A.handled=none)(kvs:List (K×Mp))(hd:d≠it)(hz:kvs.length<=Mz){h0:Heap}
  (hlen:its.size=kvs.length) (hls:∀h',(∀b o,b≠d->b≠it->h0.get? b=some o->h'.get? b=some o)->h'.IsList l its/\∀(i:Nat) (kv:K×Mp),kvs[i]? = some kv->∃T key,(its[i]?:Option Mp)=some (MK T)/\Tb h' T #[key,kv.2]/\knd.is kv.1 key=true)
  (hR:∀h' tk,h'.DictOf knd d (Vx [] kvs)->(∀b o,b≠d->b≠it->h0.get? b=some o->h'.get? b=some o)->R (.ok (.ret .none)) { s with heap:=h',toks:=tk }) :
  ∀(n i:Nat) (j:Int) (tok:Tok) (h':Heap) (tk:Nat),i+n=kvs.length->(∀b o,b≠d->b≠it->h0.get? b=some o->h'.get? b=some o)->h'.IsListIter it l i->h'.DictOf knd d (Vx [] (kvs.take i)) ->
   RI (MW prog w) A (.builtin "dict.update.loop" ⟨[.ref d,.ref it,.int j tok,.none],[]⟩) R { s with heap:=h',toks:=tk }
 |0,i,j,tok,h',tk,hi,hk,hit,hdd=>by
  refine QJ qU ?_;obtain⟨hl,hT⟩:=hls h' hk;unfold PF.«dict.update.loop»;dsimp only;refine Mu (R7 (s:={ s with heap:=h',toks:=tk }) hh hit hl (by rw[Array.getElem?_eq_none];omega) fun h'' eb=>?_);dsimp only;refine Mu ?_;unfold Vd;refine MI (MI ?_);have e:kvs.take i=kvs:=Nz (by omega);rw[e] at hdd;obtain⟨o,es,ep,ho,r⟩:=hdd;exact hR h'' tk ⟨o,es,ep,eb _ _ hd ho,r⟩ fun b ob b1 b2 q=>eb b ob b2 (hk b ob b1 b2 q)
 |n+1,i,j,tok,h',tk,hi,hk,hit,hdd=>by
  refine QJ qU ?_;obtain⟨hl,hT⟩:=hls h' hk
  have hlt:i<kvs.length:=by omega
  obtain⟨T,key,e1,_,e3⟩:=hT i kvs[i] (NB hlt);unfold PF.«dict.update.loop»;dsimp only;refine Mu (RG (s:={ s with heap:=h',toks:=tk }) hit hl e1 fun h2 hit2 sb=>?_);have hk2:∀b o,b≠d->b≠it->h0.get? b=some o->h2.get? b=some o:=fun b ob b1 b2 q=>(sb.2 b b2).trans (hk b ob b1 b2 q);obtain⟨hl2,hT2⟩:=hls h2 hk2;obtain⟨T',key',e1',e2,e3⟩:=hT2 i kvs[i] (NB hlt);rw[e1] at e1';cases e1';dsimp only;refine Mu (Ob ?_);refine Mu (wpAny_tryCatch (Mu (QP e2.typeIs ?_)));rw[if_pos (by decide)];obtain⟨oT,hoT,cT,nT,dT⟩:=id e2;refine Mu (m:=seqItems? (.ref T)) (Mu (Uy (s:={ s with heap:=h2,toks:=tk }) hoT ?_));rw[dT];refine MI (MI ?_);dsimp only[Option.getD]
  have hmz:(Vx [] (kvs.take i)).length<=sizeLine:=by
   have:=merged_length_le ([]:List (K×Mp)) (kvs.take i);simp at this;omega
  refine Ob (wpAny_dictSet_pairs (s:={ s with heap:=h2,toks:=tk }) e3 (hdd.sameBut sb hd) (fun h3 hd3 sb3=>?_) hmz);refine MI ⟨P3 _ (by decide +kernel),?_⟩;rw[←merged_take_succ [] kvs i kvs[i] (NB hlt)] at hd3;exact tf hh kvs hd hz hlen hls hR n (i+1) _ _ h3 _ (by omega) (fun b ob b1 b2 q=>(sb3.2 b b1).trans (hk2 b ob b1 b2 q)) (hit2.extBut sb3.extBut (Ot hd)) hd3
theorem yn(hh:A.handled=none)(kvs:List (K×Mp))(hz:kvs.length<=Mz)(hlen:its.size=kvs.length)
  (ho:s.heap.get? l=some { cls:=.type "list",dict:=none,data:=.seq its n,slots:=sl }) (hT:∀(i:Nat) (kv:K×Mp),kvs[i]? = some kv->∃T key,(its[i]?:Option Mp)=some (MK T)/\Tb s.heap T #[key,kv.2]/\knd.is kv.1 key=true)
  (h:∀h' tk,h'.DictOf knd s.heap.objs.size (Vx [] kvs)->(∀b o,s.heap.get? b=some o->h'.get? b=some o)->Q (.ref s.heap.objs.size) { s with heap:=h',toks:=tk }) :
  MU (MW prog w) A (call (.type "dict") [.ref l]) Q E s:=by
 refine callType_codes (Q₁:=fun obj s₁=>obj=.ref s.heap.objs.size/\s₁ = { s with heap:=s.heap.push { cls:=.type "dict",data:=.dict #[] } }) F.kt_called_dict (F.kt_typeCall_dict_1 _) F.entry_dict_init (kt_code_dict_new _ ⟨rfl,rfl⟩) ?_;rintro obj s₁ ⟨rfl,rfl⟩;have hnew:(s.heap.push { cls:=.type "dict",data:=.dict #[] }).DictOf knd s.heap.objs.size []:=Uo s.heap;have up:∀b o,s.heap.get? b=some o->(s.heap.push { cls:=.type "dict",data:=.dict #[] }).get? b=some o:=fun b o e=>Mt _ e;refine⟨hnew.typeIs,F.args_dict_init_2 _ _,?_⟩;unfold PF.«dict.__init__»;refine Mu ?_;unfold Ve;refine Mu (wpAny_notOrdered_dict hnew.typeIs ?_);show MU _ _ (pure (s.heap.objs.size,[MK l])) _ _ _;refine MI ?_;show MU _ _ (Rz "dict.__init__" s.heap.objs.size (.ref l) [] .none) _ _ _;unfold Rz;refine Mu (QP (T:="list") ⟨_,up _ _ ho,rfl⟩ ?_);rw[if_pos (by decide)];refine Mu (yv (up _ _ ho) hh fun h1 tk1 k1=>?_);simp only[Option.isNone_none,if_true];refine Mu (UG ?_);have ho1:h1.get? l=some _:=k1 _ _ (up _ _ ho);refine Mu (Pq (s:={ s with heap:=h1,toks:=tk1 }) (items:=its) ⟨_,ho1,rfl,n,rfl⟩ ?_);refine MI ⟨P3 _ (by decide +kernel),?_⟩
 have hne:s.heap.objs.size≠h1.objs.size:=by
  obtain⟨o,es,ep,q,_⟩:=hnew;exact MO (MB (k1 _ _ q))
 refine tf (s:=s) (h0:=h1) (l:=l) (its:=its) (by simpa[VQ] using hh) kvs hne hz hlen (fun h' hk'=>⟨⟨_,hk' l _ ?_ ?_ ho1,rfl,n,rfl⟩,fun i kv e=>?_⟩) (fun h' tk hd hk'=>⟨rfl,h h' tk hd fun b o e=>hk' b o (MO (MB e)) (MO (MB (k1 _ _ (up _ _ e)))) (k1 b o (up b o e))⟩) kvs.length 0 _ _ _ _ (by omega) (fun b o _ _ e=>Mt _ e) ?_ ?_
 .exact MO (MB ho)
 .exact MO (MB ho1)
 .obtain⟨T,key,e1,⟨oT,e2,r⟩,e3⟩:=hT i kv e
  exact⟨T,key,e1,⟨oT,hk' T _ (MO (MB e2)) (MO (MB (k1 _ _ (up _ _ e2)))) (k1 _ _ (up _ _ e2)),r⟩,e3⟩
 .exact⟨_,MZ _ rfl,rfl,rfl⟩
 .obtain⟨o,es,ep,q,r⟩:=hnew
  exact⟨o,es,ep,Mt _ (k1 _ _ q),r⟩
end
def qQ(K:Frag)(H:Hp)(v:V)(p:Str×V):Prop:=∃t,v=.ref t/\SqT K H t [.str p.1,p.2]
section
variable {X:Cx}
theorem rH(I:Inv X pins σ H s):∀{vs:List V}{kvs:List (Str×V)}{its:List Mp},QX (qQ X.K H) vs kvs->Vals vs its ->
  ∃rs:List (Key×Mp),KV (kvs.map cR) rs/\rs.length=its.length/\∀(i:Nat) (kv:Key×Mp),rs[i]? = some kv->∃T key,its[i]? = some (MK T)/\Tb s.heap T #[key,kv.2]/\(bQ X.prog X.w).is kv.1 key=true
 |_,_,_,.nil,.nil=>⟨[],.nil,rfl,fun i kv e=>by simp at e⟩
 |_,p::_,u::_,.cons h t,.cons r q=>by
  obtain⟨rs,k1,k2,k3⟩:=rH I t q;obtain⟨a,rfl,hs⟩:=h;obtain⟨its,rv,tp,_⟩:=I.tuple hs;obtain⟨u1,u2,rfl,r1,r2⟩:=vals2 rv;cases (show u=MK a from r);refine⟨(Nr p.1,u2)::rs,.cons ⟨rfl,r2⟩ k1,by simp[k2],fun i kv e=>?_⟩
  cases i with
  |zero=>
   simp at e;subst e;exact⟨a,u1,rfl,tp,ju (k:=Nr p.1) r1⟩
  |succ i=>
   simp at e;obtain⟨T,key,e1,e2,e3⟩:=k3 i kv e;exact⟨T,key,by simpa using e1,e2,e3⟩
theorem z5(hcm:X.calm=true):CallR X (.type "dict") (fun xs H Q=>∃(a:Addr) (vs:List V) (kvs:List (Str×V)),xs=[V.ref a]/\SqL X.K H a vs/\QX (qQ X.K H) vs kvs/\kvs.length<=Mz/\∀p,H p=none->Q (.ref p) (upd H p (.dK (ft [] (kvs.map cR))))):=by
 intro pins s σ H xs us Q I r h;obtain⟨a,vs,kvs,rfl,hs,hp,hz,q⟩:=h;obtain⟨u,rfl,ru⟩:=vals1 r;cases ru;obtain⟨its,rv,pl,_⟩:=I.list hs;obtain⟨⟨cls,dd,data,sl⟩,n,e,c,d1,d2⟩:=pl;simp only at c d1 d2;subst c d1 d2;obtain⟨rs,k1,k2,k3⟩:=rH I hp rv;have hl:(kvs.map cR).length=rs.length:=k1.length;rw[Nd] at hl
 refine yn (knd:=bQ X.prog X.w) (I.ok.hd hcm) rs (by omega) (by simp[k2]) e (fun i kv ei=>by
  obtain⟨T,key,e1,e2,e3⟩:=k3 i kv ei
  exact⟨T,key,by simpa using e1,e2,e3⟩) fun h' tk dd' keep=>?_
 have hn:H s.heap.objs.size=none:=I.hok.fresh (MC _);have h1:=qV (kvs.map cR) [];rw[OM,Nd] at h1;refine⟨.ref s.heap.objs.size,_,I.laid (t':=tk) (o:=.dK (ft [] (kvs.map cR))) keep (MC _) (p8 (by omega) (beq_eq_false_iff_ne.mpr (Ot (MO I.big))) (k1.merge .nil) dd'),rfl,q _ hn⟩
def pairD:Mo->Option (Str×Mo)
 |.tuple [.str k,x]=>some (k,x)
 |_=>none
def gR:List Mo->Option (List (Str×Mo))
 |[]=>some []
 |d::r=>match pairD d with
  | some p=>(match gR r with
   |some ps=>some (p::ps)
   | none=>none)
  |none=>none
theorem Bx(h:pairD d=some p):d=.tuple [.str p.1,p.2]:=by
 unfold pairD at h;split at h
 .cases h;rfl
 .cases h
theorem tR{K:Frag}{O:Addr->Prop}{H:Hp}:∀{vs:List V}{ds:List Mo}{ps:List (Str×Mo)},Reps K O H vs ds->gR ds=some ps->∃kvs:List (Str×V),QX (qQ K H) vs kvs/\kvs.map (·.1)=ps.map (·.1)/\RepK K O H (kvs.map cR) (g9 ps)
 |_,_,_,.nil,e=>by cases e;exact⟨[],.nil,rfl,.nil⟩
 |_,_,ps,.cons (d:=d) r t,e=>by
  unfold gR at e;split at e
  .rename_i p hp
   split at e
   .rename_i q hq
    cases e;obtain⟨kvs,h1,h2,h3⟩:=tR t hq;rw[Bx hp] at r
    cases r with
    |@tup a _ _ tt rr=>
     cases rr with
     |cons ra rr=>
      cases rr with
      |@cons v _ _ _ rb rr=>
       cases rr;cases ra;exact⟨(p.1,v)::kvs,.cons ⟨a,rfl,tt.sq⟩ h1,by simp[h2],.cons (k:=Nr p.1) rb h3⟩
   .cases e
  .cases e
def qA(l:List (Str×Mo)):Bool:=decide ((l.map (·.1)).Nodup)&&decide (l.length<=1000)
def qt(T:Tp)(o:Option (List (Str×Mo))):Option (W×Tp):=match o with
 |some l=>if qA l=true then some (.d (.dict (g9 l)),T) else none
 |none=>none
def qu(w:W)(T:Tp):Option (W×Tp):=match view T w with
 |some (.list ds)=>qt T (gR ds)
 |_=>none
def kH(f:FE):FE:=fun ρ T=>bnd (f ρ T) qu
theorem Cd(h:qu w T=some (w',T')):∃ds l,view T w=some (.list ds)/\gR ds=some l/\(l.map (·.1)).Nodup/\l.length<=1000/\w'=.d (.dict (g9 l))/\T'=T:=by
 unfold qu at h;split at h
 .rename_i ds hv
  unfold qt at h;split at h
  .rename_i l hl
   split at h
   .rename_i ho
    cases h;have h1:=of_decide_eq_true ((Mx _ _ ▸ ho).1);have h2:=of_decide_eq_true ((Mx _ _ ▸ ho).2);exact⟨ds,l,hv,hl,h1,h2,rfl,rfl⟩
   .cases h
  .cases h
 .cases h
theorem DU(hm:X.mg "dict"=none)(he:DE X e fe)(hcm:X.calm=true:=by rfl)(hg:Gl X "dict":=by rfl)
  (hse:Mw [e] X.env=(false,eval e X.env)::Mw [] X.env:=by exact bR rfl) (hpl:(Nv cpos (Mw [] X.env)).any (·.1)=false:=by exact cL rfl):DE X (.Call (.Name "dict" p) [e] [] cpos) (kH fe):=by
 refine⟨?_⟩;refine pe_imp (GB (lq (z5 hcm) hg hm TY (bj he.pe bJ hse) (by decide) (by decide) hse hpl)) fun σ H Q=>?_;rintro⟨O,ts,ρ,T,w,T',hc,re,e,q⟩;obtain⟨w1,T1,e1,e⟩:=aO e;obtain⟨ds,l,hv,hl,nd,hz,rfl,rfl⟩:=Cd e;refine⟨O,ts,ρ,T,w1,T',hc,re,e1,fun v H1 s1 hc1 r1=>?_⟩;obtain⟨a,vs,rfl,t,r⟩:=(hc1.view r1 hv).lst;obtain⟨kvs,h1,h2,h3⟩:=tR r hl
 have hlen:kvs.length=l.length:=by have:=congrArg QA h2;simpa using this
 refine⟨a,vs,kvs,rfl,t,h1,by rw[hlen];exact MP hz (by decide),fun p hp=>.frz bg fun o=>.done ?_⟩
 have hm:ft [] (kvs.map cR)=kvs.map cR:=by
  have:=sD kvs [] (by rw[RQ,Pj,h2];exact nd);simpa using this
 rw[CB,hm];exact q _ _ (s1.trans (.new hp _)) (hc1.new hp _) (.dct (hc1.fresh hp) bg (h3.mono (hc1.leNew hp _)))
end
section
variable {prog:MA}{w:ML}{A:Nb}{E:Mp->Ms->Prop}{s:Ms}
theorem zy(K:PySem.W.KdlSrc prog w T r d n P OK)(hh:A.handled=none)(hok:OK s.heap)(hn:n<=Mz)
  (hQ:∀h' tk acc,(∀b o,s.heap.get? b=some o->h'.get? b=some o)->s.heap.objs.size<h'.objs.size->ItemsOf P acc n->Q acc.toList { s with heap:=h',toks:=tk }):MU (MW prog w) A (collect (.ref r)) Q E s:=by
 have lt:=K.there _ hok;have hS:(s.heap.push { cls:=.type "list",data:=.seq #[] }).get? s.heap.objs.size=some { cls:=.type "list",data:=.seq #[] }:=MZ _ rfl;unfold collect;refine Mu (wpAny_runValue (QJ PySem.F.entry_proto_collect ?_));rw[Sn PySem.F.plain_proto_collect _];show MU _ A.in1 (newList [] >>= fun l=>Vk (.builtin "list.__iadd__" ⟨[l,.ref r],[]⟩)) _ _ s;refine Mu (NR (MI ⟨plainId_quiet RA _,QJ PySem.F.entry_list_iadd ?_⟩));rw[Sn RA _];show MU _ A.in1 (Uu (.ref s.heap.objs.size) (.ref r) (.ref s.heap.objs.size)) _ _ _
 refine PySem.W.kdl_extend (R:=fun r s'=>match r with
  | .ok (.ret v)=>MU (MW prog w) A (match v with
   | .ref a=>(do match (←load a).data with
    |.seq xs _=>pure xs.toList
    | _=>unsupported "internal:collect")
   | _=>unsupported "internal:collect") Q E s'
  |.ok _=>False
  | .error e=>E e s') (A:=A) (s:={ s with heap:=s.heap.push { cls:=.type "list",data:=.seq #[] } }) K hh (K.keep _ _ hok fun b _ o e=>Mt _ e) s.heap.objs.size (PC lt.1) (PC lt.2) (.ref s.heap.objs.size) 0 hS (fun h' tk acc c k1 k2 k3=>?_) hn
 refine Mu (Uy k2 (MI ?_));exact hQ h' tk acc (fun b o e=>k1 b o (MO (MB e)) (Mt _ e)) (MB k2) k3
end
section
variable {X:Cx}
end
section
variable {X:Cx}
end
section
variable {X:Cx}
theorem zZ(hcm:X.calm=true):CallR X (.builtin "sorted") (fun xs H Q=>∃a kvs ss,xs=[V.ref a]/\Rd H a (.dK kvs)/\kvs.map (fun p=>kV p.1)=ss.map V.str/\ss.length<64/\∀l,H l=none->Q (.ref l) (upd H l (.lst ((bN ss).map V.str)))):=by
 intro pins s σ H xs us Q I r h;obtain⟨a,kvs,ss,rfl,ha,hk,h64,q⟩:=h;obtain⟨u,rfl,ru⟩:=vals1 r;cases ru;obtain⟨z,y,vs,kv,dd⟩:=ef I.hok ha;obtain⟨ep,dd⟩:=dd.dictAt;have hl:=kv.length
 have hlen:kvs.length=ss.length:=by have:=congrArg QA hk;simpa using this
 refine Calls.call_function_entry kind_sorted plain_sorted entry_sorted (args_sorted1 _) ?_;unfold PF.«sorted»;refine Mu (m:=checkCount "sorted" 1 1 _) (MI ?_);refine Mu (zy (TV (prog:=X.prog) (w:=X.w) (knd:=bQ X.prog X.w) (kvs:=vs) (ep:=ep) y) (I.ok.hd hcm) dd (by omega) fun h' tk acc k1 k2 k3=>?_);have hv:Vals (kvs.map fun p=>kV p.1) acc.toList:=nS (P:=X.prog) (w:=X.w) kv (by rw[NN];exact k3.1) fun j v e=>k3.2 j v (by simpa using e);rw[hk] at hv;have hS:=oA hv
 have hal:acc.toList.length=ss.length:=by have:=hv.length;simpa using this.symm
 refine Mu (wpAny_newList ?_);have hoL:(h'.push (VB "list" acc.toList.toArray 0)).get? h'.objs.size=some (VB "list" acc.toList.toArray 0):=MZ _ rfl;refine Mu (Ob (Rv slot_list_sort ⟨_,hoL,rfl⟩ entry_list_sort (list_sort_treeK strKind_oneLt hoL hS.keysOf (fun v1 v2 rest e=>keyKind_strs (by rw[←e];exact hS)) (by omega) fun st' a1 a2=>⟨_,rfl,?_⟩) (args_list_sort _)));refine MI ⟨_,rfl,?_⟩;obtain⟨ss',b1,b2,b3⟩:=sorted_out_str hS a1 a2;have e:ss'=bN ss:=nF (b2.trans (fZ ss).symm) (rC b3) (nA ss);subst e;obtain⟨e2,he⟩:=sortedHeap_at (out:=(arrOf st').map (·.2)) hoL
 have keep:∀b o,s.heap.get? b=some o->(sortedHeap (h'.push (VB "list" acc.toList.toArray 0)) h'.objs.size acc.toList ((arrOf st').map (·.2))).get? b=some o:=fun b o q=>by
  have q':=k1 b o q;have lt:=MB q';rw[sortedHeap_old (MO lt) (by rw[size_push'];exact Qk lt)];exact Mt _ q'
 have hn:H h'.objs.size=none:=I.hok.fresh (Pc k2);have hlen2:(bN ss).length=ss.length:=(fZ ss).length_eq;exact⟨.ref h'.objs.size,_,I.laid (t':=tk) (o:=.lst ((bN ss).map V.str)) keep (Pc k2) ⟨by simp;exact Pc (ME (by omega:(bN ss).length<64) (by decide)),((arrOf st').map (·.2)).toList,e2,nJ b1,by simpa[VB,-Array.toList_map] using he⟩,rfl,q _ hn⟩
def j7:Mo->Option Mo
 |.dict ds=>iM (c7 (d9 ds))
 |_=>none
theorem Ab(h:j7 x=some y):∃ds ss,x=.dict ds/\c7 (d9 ds)=some ss/\ss.length<64/\y=.list ((bN ss).map .str):=by
 cases x with
 |dict ds=>
  have h':iM (c7 (d9 ds))=some y:=h;unfold iM at h';split at h'
  .rename_i ss hs
   split at h'
   .rename_i hl
    cases h';exact⟨ds,ss,rfl,hs,hl,rfl⟩
   .cases h'
  .cases h'
 |_=>cases h
theorem Ca(hm:X.mg "sorted"=none)(ha:DE X e fe)(hc:X.calm=true:=by rfl)(hg:Gl X "sorted":=by rfl)(hs:Mw [e] X.env=(false,eval e X.env)::Mw [] X.env:=by exact bR rfl)
  (hpl:(Nv pos (Mw [] X.env)).any (·.1)=false:=by exact cL rfl):DE X (.Call (.Name "sorted" p) [e] [] pos) (fUn j7 fe):=by
 refine⟨?_⟩;refine pe_imp (gK (zZ hc) hg hm boot_sorted (bj ha.pe bJ hs) (by decide) (by decide) hs hpl) fun σ H Q=>?_;rintro⟨O,ts,ρ,T,w,T',hc,re,e,q⟩;obtain⟨w1,T1,e1,e⟩:=aO e;obtain⟨x,d,hv,hd,rfl,rfl⟩:=jj e;obtain⟨ds,ss,rfl,hs',hl,rfl⟩:=Ab hd;refine⟨O,ts,ρ,T,w1,T',hc,re,e1,fun v1 H1 s1 hc1 r1=>?_⟩;obtain⟨a,kvs,rfl,t,r⟩:=(hc1.view r1 hv).dct;have rk:=nX (O':=O) (H':=H1) r;refine⟨a,kvs,ss,rfl,t,lQ rk hs',hl,fun l hl'=>?_⟩;exact q _ _ (s1.trans (.new hl' _)) (hc1.new hl' _) (hc1.newL hl' (lm _))
end
end D
namespace XE
open L2
abbrev vE:List Value:=[.type "ValueError",.type "Exception",.type "BaseException",.type "object"]
def XCl(K:Frag)(C:Addr)(tl:List Mp):Prop:=∃nm q N bs sn sub ab col dd k0 k1 k2 k3 k5,K.lookup C=some (Uk nm q C N bs tl true sn sub ab col dd k0 k1 k2 k3 k5 "ValueError.__new__")/\So K N=true
theorem uz{K:Frag}(X:K.In h)(r:XCl K R vE)(ri:OU K "__init__" (.ref R)=some none):OwnTail h vE (.ref R::vE):=by
 obtain⟨nm,q,N,bs,sn,sub,ab,col,dd,k0,k1,k2,k3,k5,l,n⟩:=r;refine .own (X _ _ l) (.of_isNs (PySem.W.isNs_of_in X n)) (PySem.W.nsMap_none_of_in X n ?_) .base;simp only[OU] at ri;rw[l] at ri;exact ri
section
variable {prog:MA}{w:ML}{A:Nb}{E:Mp->Ms->Prop}{h:Heap}{g:Array Tc}{d:Drawn}{t:Nat}{os:OsState}{K:Frag}{C R fI:Addr}
theorem F5(X:K.In h)(c:XCl K C (.ref R::vE))(r:XCl K R vE)(ri:OU K "__init__" (.ref R)=some none)
  (hi:MV K (.ref C) "__init__"=some (some (.ref fI))) (hf:Pd K (.ref fI)=true) (hz:us.length<=Mz)
  (k:∀h' e,Heap.MadeExcOf h h' e (.ref C) us->h.objs.size<=e->MU (MW prog w) (A.under (.builtin "type.__call__" ⟨.ref C::us,[]⟩)) (call (.ref fI) (.ref e::us)) (fun v s'=>v=.none/\Q (.ref e) s') E ⟨h',g,d,t,os⟩) :
  MU (MW prog w) A (call (.ref C) us) Q E ⟨h,g,d,t,os⟩:=by
 have T:=uz X r ri;obtain⟨nm,q,N,bs,sn,sub,ab,col,dd,k0,k1,k2,k3,k5,l,_⟩:=c;have hC:=X _ _ l;have FB:=Q9;have f1:=tc_lookup;have f2:=tc_bind (.ref C);have hT:(⟨h,g,d,t,os⟩:Ms).TypeIs (.ref C) "type":=⟨_,hC,rfl⟩;refine RJ (codeAny_of_tree ?_);show MU _ _ (callAny (.ref C) _) _ _ _
 repeat (any_goals (first|assumption|with_reducible refine Ng hC ?_|wp_step))
 refine⟨rfl,codeAny_call_builtin_at (P3 _ (by decide +kernel)) entry_typeCall (wpAny_check_type_call_sub hC ?_)⟩
 repeat (first|with_reducible refine Ng hC ?_|with_reducible refine wpAny_madeBy_exc hC ?_|wp_step)
 refine codeAny_call_builtin_code (P3 _ FB.quiet) (wpAny_check_new_subU FB (by decide +kernel) T hC (codeAny_exc_new_subU FB (by decide +kernel) FB T hC ?_ hz));show MU _ _ _ _ _ _
 have up:∀b o,h.get? b=some o->((h.push { cls:=.type "tuple",data:=.seq us.toArray }).push { cls:=.ref C,data:=.fields #[.ref h.objs.size,.none,.none,.none,.bool false,.none] }).get? b=some o:=
  fun b o e=>Mt _ (Mt _ e)
 have at1:((h.push { cls:=.type "tuple",data:=.seq us.toArray }).push { cls:=.ref C,data:=.fields #[.ref h.objs.size,.none,.none,.none,.bool false,.none] }).get? (h.objs.size+1)
   = some { cls:=.ref C,data:=.fields #[.ref h.objs.size,.none,.none,.none,.bool false,.none] }:=by heap_get
 have hC1:=up _ _ hC
 have cc:(MK C::MK R::vE).contains (.ref C)=true:=by simp
 have mk:=k _ (h.objs.size+1) ⟨up,ON (QC _),h.objs.size,at1,ON (MC _),Mt _ (Pr rfl rfl)⟩ (QC _);unfold UI
 repeat (first|with_reducible refine Ng at1 ?_|wp_step)
 refine OX hC1 ?_;rw[cc]
 repeat (first|with_reducible refine Ng at1 ?_|wp_step)
 show MU _ _ (S3 (.ref C) _) _ _ _;refine NT (X.keeps up) hi _ _ _ _ (fun _ _ e=>e) ?_;refine Ob (Mu ?_);refine PySem.W.bind_fn (X.keeps up) _ (by simpa[Pd] using hf) _ _ _ _ (fun _ _ e=>e) ?_;refine Mu (Oc mk (fun v s' hv=>?_) fun _ _ z=>z);obtain⟨rfl,q'⟩:=hv;wp_walk;exact q'
end
end XE
namespace XE
open L2
def XAt(e C:Addr)(od:Option Addr):Heap->Prop:=fun h=>∃t,h.get? e=some { cls:=.ref C,dict:=od,data:=.fields #[.ref t,.none,.none,.none,.bool false,.none] }
theorem XAt.stay(x:XAt e C od h1)(k:∀o,h1.get? e=some o->h2.get? e=some o):XAt e C od h2:=let ⟨t,y⟩:=x;⟨t,k _ y⟩
theorem XAt.ok(x:XAt e C od h):ObjOk P w H h e (.ext (XAt e C od)):=⟨x,let ⟨_,y⟩:=x;⟨_,y⟩,fun _ _ a k=>a.stay k⟩
theorem XAt.of(ok:HOk P w H h)(x:H e=some (.ext (XAt e C od))):XAt e C od h:=(ok _ _ x).1
section
variable {X:Cx}{C R:Addr}
theorem AK{K:Frag}{E:Mp->Ms->Prop}{s:Ms}{Q:Mp×List Mp->Ms->Prop}(x:K.In s.heap)(hr:PV K R (.type "type")=true)
  (hf:QK K (.ref R) (.type "type") "__init__"=some (.val (.builtin "ValueError.__init__"))) (q:Q (.builtin "ValueError.__init__",[]) { s with toks:=s.toks+1 }) :
  MU (MW prog w) A (Vq (.ref R) "__init__" pl) Q E s:=by
 have hr':=hr;simp only[PV,Mx,beq_iff_eq] at hr';obtain⟨⟨⟨⟨_,b⟩,c⟩,_⟩,_⟩:=hr'
 have hc:(Manifest.canonical "type.__getattribute__" != "object.__getattribute__")=true:=by decide +kernel
 unfold Vq specialOf;refine Mu (Mu (PySem.W.looks_typeIn x b _ _ _ _ (fun _ _ e=>e) (NT x c _ _ _ _ (fun _ _ e=>e) ?_)));simp only[hc,if_true];exact Mu (PySem.W.cls_value x hr hf rfl (MI q))
def xn(C:Addr)(tt:TE):TE:=fun σ H Q=>∃e,σ[0]? = some (some (.ref e))/\tt σ H fun _ H1=>H1 e=some (.ext (XAt e C none))/\Q .non H1
theorem ES(c:XCl X.K C (.ref R::vE))(r:XCl X.K R vE)(ri:OU X.K "__init__" (.ref R)=some none)(hg:Gl X rn)(hm:X.mg rn=some (.ref R))
  (hr:PV X.K R (.type "type")=true) (hf:QK X.K (.ref R) (.type "type") "__init__"=some (.val (.builtin "ValueError.__init__"))) (hs:PE X (.Name sn p2) (en 0)) (ht:PE X tx tt)
  (hd:(rn == ("__debug__" : Str))=false:=by decide) (hst:Mw [.Name sn p2,tx] X.env=[(false,eval (.Name sn p2) X.env),(false,eval tx X.env)]:=by rfl) (hs2:Mw [tx] X.env=[(false,eval tx X.env)]:=by rfl)
  (he:eval (.Call (.Attribute (.Name rn p) "__init__" ap) [.Name sn p2,tx] [] pos) X.env=(do
   let ov ←eval (.Name rn p) X.env
   Us ap.atName
   let (f,first) ←Rh [ov] (Vq ov "__init__" pl)
   callWith pos f first (Nv pos (Mw [.Name sn p2,tx] X.env)) (O5 pos (Oa [] X.env))):=by rfl) :
  PE X (.Call (.Attribute (.Name rn p) "__init__" ap) [.Name sn p2,tx] [] pos) (xn C tt):=by
 intro pins s σ H Q I h;obtain⟨e,h0,h⟩:=h;refine PySem.W.methodCall_KW (pl:=pl) (je I hg hm ?_ hd) he;refine AK I.kIn hr hf ?_;have I0:=I.tok (s.toks+1);have pa:PA X [.Name sn p2,tx] (ko (en 0) (ko tt m8)):=bj hs (bj ht bJ (by rw[hs2];rfl)) (by rw[hst,hs2])
 have hA:=pa pos pins _ σ H (fun vs H1=>match vs with
  |[.ref a,_]=>H1 a=some (.ext (XAt a C none))/\Q .non H1
  | _=>False) I0 ⟨_,h0,h⟩
 rw[hst] at hA ⊢;refine OB rfl (Pt (thn hA fun us s2 ⟨vs,H2,I2,r2,q2⟩=>?_));dsimp only at q2;split at q2
 .rename_i a v
  obtain⟨hx,q⟩:=q2
  obtain⟨u0,us1,rfl,r0,r3⟩:∃x b,us=x::b/\RelV (.ref a) x/\Vals [v] b:=by cases r2 with|cons a b=>exact⟨_,_,rfl,a,b⟩
  obtain⟨u1,us2,rfl,r1,r4⟩:∃a b,us1=a::b/\RelV v a/\Vals [] b:=by cases r3 with|cons a b=>exact⟨_,_,rfl,a,b⟩
  cases r4;obtain rfl:u0=MK a:=r0;obtain⟨t,hat⟩:=XAt.of I2.hok hx;have T:=uz I2.kIn r ri;obtain⟨nm,qn,N,bs,sn,sub,ab,col,dd,k0,k1,k2,k3,k5,l,_⟩:=c;have hC:=I2.kIn _ _ l;have FB:=Q9;have up:∀b o,s2.heap.get? b=some o->(s2.heap.push { cls:=.type "tuple",data:=.seq [u1].toArray }).get? b=some o:=fun b o e=>Mt _ e
  have fin:∀(h':Heap) (tk:Nat),(∀b o,b≠a->s2.heap.get? b=some o->h'.get? b=some o)->XAt a C none h'->EP X pins σ Q .none { s2 with heap:=h',toks:=tk }:=fun h' tk k1 k2=>by
   have e1:upd H2 a (.ext (XAt a C none))=H2:=by
    funext b
    by_cases e:b=a
    .rw[e,bg,hx]
    .rw[aP e]
   have I3:=I2.write (x:=a) (e:=a) (o:=.ext (XAt a C none)) (h':=h') (t':=tk) (by rw[hx];trivial) (.inl rfl) k1 (let ⟨_,y⟩:=k2;⟨_,y⟩) (XAt.ok k2);rw[e1] at I3;exact⟨.non,H2,I3,rfl,q⟩
  obtain⟨hp,g,d,tk,os⟩:=s2;show MU _ _ (call (.builtin "ValueError.__init__") [.ref a,u1]) _ _ _;refine RJ (Px FB.init.plain FB.initEntry (wpAny_check_init_subU FB T hC hat rfl ?_));wp_walk;refine fin _ _ (fun b o hb e=>?_) ⟨hp.objs.size,?_⟩
  .rw[M8 _ _ (Ot hb)]
   exact up b o e
  .rw[N3 _ (up _ _ hat) rfl]
   rfl
 .exact NF q2
def tFs(i:Nat)(z:Str):TE:=fun σ H Q=>∃x,σ[i]? = some (some (.str x))/\(QD x).length<=Mz/\(QD x).length+z.length<=Mz/\∀y,Q (.str y) H
theorem GC{i:Nat}{n z:Str}{p p2 p3 pos:Pos}{j:Int}(hn:PE X (.Name n p) (en i)):PE X (.JoinedStr [.FormattedValue (.Name n p) 114 none p2,.Constant (.str z) 0 p3] pos) (tFs i z):=by
 intro pins s σ H Q I h;obtain⟨x,h0,h1,h2,q⟩:=h;refine wpAny_JoinedStr ?_;refine wpAny_FormattedValue_repr (thn (hn pins s σ H (fun v H'=>v=.str x/\H'=H) I ⟨_,h0,rfl,rfl⟩) fun u s1 ⟨v,H1,I1,r1,e1,e2⟩=>?_);subst e1 e2;obtain⟨t,rfl⟩:=r1;have e0:TJ.length=0:=rfl
 have go:∀(t2:Tok) (tk:Nat),∃y t,P5 (QD x) t2=.str y t/\(TJ++y).length<=Mz/\Joins (MW X.prog X.w) X.A X.xe (evalEach [.Constant (.str z) 0 p3] X.env) (TJ++y) (fun out s₁=>out.length<=Mz/\EP X pins σ Q (.str out s₁.toks) { s₁ with toks:=s₁.toks+1 }) { s1 with toks:=tk }:=by
  intro t2 tk;refine⟨_,_,rfl,by rw[Qz,e0,Tr];exact h1,?_⟩;refine PZ ⟨_,_,rfl,?_,?_⟩
  .rw[Qz,Qz,e0,Tr];exact h2
  .exact⟨by rw[Qz,Qz,e0,Tr];exact h2,.str _,H1,(I1.tok _).tok _,⟨_,rfl⟩,q _⟩
 refine pyReprObj_str ?_ h1;exact wpAny_formatField_str (go _ _) (go _ _) h1
end
section
open Builtin Builtin.ObjectAttr
variable {prog:MA}{w:ML}{A:Nb}{E:Mp->Ms->Prop}{h:Heap}{g:Array Tc}{d:Drawn}{t:Nat}{os:OsState}{K:Frag}{C R e:Addr}{name:Str}{v:Mp}{vs:Array Mp}
theorem Ho(X:K.In h)(c:XCl K C (.ref R::vE))(hs:MV K (.ref C) "__setattr__"=some (some (.builtin "object.__setattr__")))(hn:MV K (.ref C) name=some none)
  (he:h.get? e=some { cls:=.ref C,data:=.fields vs })
  (k:∀h' tk,h'.get? e=some { cls:=.ref C,dict:=some h.objs.size,data:=.fields vs }->h'.Ns1 h.objs.size (fun y=>if y=name then some v else none)->(∀b o,b≠e->h.get? b=some o->h'.get? b=some o)->Q () ⟨h',g,d,tk,os⟩) :
  MU (MW prog w) A (setAttr (.ref e) name v) Q E ⟨h,g,d,t,os⟩:=by
 obtain⟨nm,q,N,bs,sn,sub,ab,col,dd,k0,k1,k2,k3,k5,l,_⟩:=c;have hC:=X _ _ l;have SF:=PySem.F.store_ValueError;have hpass:=SF.passes (.ref e);have f3:=SF.slot.bind (.ref e)
 have hO:(MK C::MK R::vE).contains (.type "object")=true:=by simp
 unfold setAttr callSpecial? specialOf
 repeat (any_goals (first|assumption|with_reducible refine Ng he ?_|wp_step))
 refine NT X hs _ _ _ _ (fun _ _ e=>e) ?_
 repeat (any_goals (first|assumption|wp_step))
 refine Px SF.slot.plain SF.entry ?_
 have chk:∀{M:Vi}{A:Nb}{Q:Unit->Ms->Prop}{E:Mp->Ms->Prop}{tk t:Nat},Q () ⟨h,g,d,t,os⟩->MU M A (TZ "object.__setattr__" ⟨[.ref e,.str name tk,v],[]⟩) Q E ⟨h,g,d,t,os⟩:=by
  intro M A Q E tk t hq;have ha:=SF.args (.ref e) (.str name tk) v;simp only[TZ,SF.kind,SF.split];refine Mu ?_;unfold UI
  repeat (first|with_reducible refine Ng he ?_|wp_step)
  refine OX hC ?_;rw[hO]
  repeat wp_step
  exact hq
 refine chk ?_;unfold PF.«object.__setattr__»
 repeat (first|rw[refuse_eq]|(rw[refuseLoop_ref,refuseLoop_ref,hpass])|with_reducible refine Ng he ?_|refine wpAny_mroOf_exc hC ?_|wp_step)
 refine NT X hn _ _ _ _ (fun _ _ e=>e) ?_;have up:(h.push { cls:=.type "dict",data:=.dict #[] }).get? e=some { cls:=.ref C,data:=.fields vs }:=Mt _ he;have ne:e≠h.objs.size:=MO (MB he)
 have gd:((h.push { cls:=.type "dict",data:=.dict #[] }).update e fun o=>{ cls:=o.cls,dict:=some h.objs.size,data:=o.data,slots:=o.slots }).get? h.objs.size=some { cls:=.type "dict",data:=.dict #[] }:=
  (SL _ _ _ _ ne.symm).trans (Pr rfl rfl)
 have nd:((h.push { cls:=.type "dict",data:=.dict #[] }).update e fun o=>{ cls:=o.cls,dict:=some h.objs.size,data:=o.data,slots:=o.slots }).Ns h.objs.size (fun _=>none):=
  ⟨_,#[],_,gd,rfl,fun _ z=>absurd z (by simp),fun _=>rfl⟩
 repeat (first|with_reducible refine Ng he ?_|with_reducible refine wpAny_nsSet1 (Heap.Ns1.of_empty nd) fun h' hn' hs'=>?_|wp_step)
 obtain⟨oD,es,ep,hoD,hdD,hcD⟩:=hn'.count (Within.cons name v Within.nil);refine wpAny_loadPart hoD ?_;rw[hdD,pastItsLine_dict (MP hcD (by rw[MY,OM,Se];omega))]
 repeat wp_step
 refine k h' _ ((hs'.2 e ne).trans (N3 _ up rfl)) hn' fun b o hb z=>?_;exact(hs'.2 b (MO (MB z))).trans ((SL _ _ _ _ hb).trans (Mt _ z))
end
end XE
namespace XE
open L2
theorem Bm{h:Heap}(ne:b≠h.objs.size)(z:(h.push o).get? b=some u):h.get? b=some u:=by
 obtain⟨z1,z2⟩:=Ra.mp z;refine Ra.mpr ⟨?_,z2⟩;have z3:(h.objs.push o)[b]? = some u:=z1;rw[Array.getElem?_push,if_neg ne] at z3;exact z3
section
variable {X:Cx}{C R:Addr}
def sXf(C:Addr)(i:Nat)(tv:TE)(f:Str):TS:=fun D σ H=>tv σ H fun y H1=>∃a,σ[i]? = some (some (.ref a))/\H1 a=some (.ext (XAt a C none)) /\
 ∀dx,H1 dx=none->dx≠a->D.nx σ (upd (upd H1 dx (.xd [(f,y)])) a (.ext (XAt a C (some dx))))
theorem Gv(c:XCl X.K C (.ref R::vE))(hs:MV X.K (.ref C) "__setattr__"=some (some (.builtin "object.__setattr__")))(hn:MV X.K (.ref C) f=some none)
  (ho:PE X o (en i)) (hv:PE X value tv) (hw:NX value (some (.Attribute o f pos')) pos.line X.env=pure false:=by rfl):PS X (.Assign [.Attribute o f pos'] value pos) (sXf C i tv f):=by
 intro pins s σ H D I h;refine plainObj_wpAny_Assign_Attribute (thn (hv pins s σ H _ I h) fun u s1 ⟨y,H1,I1,ry,a,h0,ha,q⟩=>thn (ho pins s1 σ H1 (fun v H'=>v=.ref a/\H'=H1) I1 ⟨_,h0,rfl,rfl⟩) fun ov s2 ⟨x,H2,I2,rx,ex,eh⟩=>?_) hw;subst ex eh;obtain rfl:ov=MK a:=rx;obtain⟨t,hat⟩:=XAt.of I2.hok ha;obtain⟨hp,g,d,tk,os⟩:=s2;refine Ho (v:=u) I2.kIn c hs hn hat fun h' tk' k1 k2 k3=>?_;have fr:H2 hp.objs.size=none:=I2.hok.fresh (MC _);have ne:hp.objs.size≠a:=PC (MB hat);obtain⟨od,es,ep,e1,e2⟩:=k2;have nf:=(Ra.mp e1).2;have up:∀b o,hp.get? b=some o->(hp.push od).get? b=some o:=fun b o z=>Mt _ z
 have I3:=I2.laid (h':=hp.push od) (a:=hp.objs.size) (o:=.xd [(f,y)]) (t':=tk') up (MC _) ⟨_,⟨od,es,ep,Pr rfl nf,e2⟩,fun z=>by
  show RelO (VI z [(f,y)]) (if z=f then some u else none);simp only[VI]
  by_cases q:z=f
  .subst q;simp;exact ry
  .rw[if_neg q]
   have:(z == f)=false:=by simpa using q
   rw[this]
   trivial⟩
 have I4:=I3.write (x:=a) (e:=a) (o:=.ext (XAt a C (some hp.objs.size))) (h':=h') (t':=tk') (by rw[aP ne.symm,ha];trivial) (.inl rfl) (fun b u hb z=>?_) ⟨_,k1⟩ (XAt.ok ⟨t,k1⟩)
 .exact⟨σ,_,I4,q _ fr ne⟩
 .by_cases e:b=hp.objs.size
  .subst e
   have z':(hp.push od).get? hp.objs.size=some u:=z;rw[Pr rfl nf] at z';cases z';exact e1
  .refine k3 b u hb ?_
   exact Bm e z
end
end XE
namespace XE
open L2
def spI(C:Addr)(f:Str):Sp:=fun vs H Q _=>∃a x,vs=[.ref a,.str x]/\H a=some (.ext (XAt a C none))/\(QD x).length+1000<=Mz /\
 ∀dx,H dx=none->dx≠a->Q .non (upd (upd H dx (.xd [(f,.str x)])) a (.ext (XAt a C (some dx))))
theorem BU(hz:z.length<=1000)(h:spI C f vs H Q E) :
  qw (wc (xn C (tFs 1 z))) (sXf C 0 (en 1) f) { nx:=fun _ H'=>Q .non H',rt:=Q } (start N vs) H:=by
 obtain⟨a,x,rfl,ha,hr,q⟩:=h;refine⟨a,rfl,x,rfl,by omega,by omega,fun y=>⟨ha,?_⟩⟩;exact⟨.str x,rfl,a,rfl,ha,fun dx h1 h2=>q dx h1 h2⟩
structure XIni(P:MA)(w:ML)(K:Frag)(mg:Str->Option Mp)(base:Heap)(C R:Addr)(f:Str)(k:Nat):Prop where
 ex:∃fI fd ps,FnOk P w K mg base CX0 k fI fd ps (spI C f)/\Binds K fd ps []/\MV K (.ref C) "__init__"=some (some (.ref fI))/\Pd K (.ref fI)=true
 c:XCl K C (.ref R::vE)
 r:XCl K R vE
 ri:OU K "__init__" (.ref R)=some none
 kp:Ny K (.ref C)=true
def tXm(n0:Nat)(C:Addr)(f:Str)(te:TE):TE:=fun σ H Q=>te σ H fun v H1=>∃x,v=.str x/\(QD x).length+1000<=Mz /\
 ∀a dx,n0<=a->H1 a=none->H1 dx=none->dx≠a->Q (.ref a) (upd (upd H1 dx (.xd [(f,.str x)])) a (.ext (XAt a C (some dx))))
section
variable {X:Cx}{C R:Addr}{f:Str}{k:Nat}
theorem yw(h:dx≠a):upd (upd (upd H a o) dx u) a v=upd (upd H dx u) a v:=by
 funext b;unfold upd
 by_cases e:b=a
 .rw[if_pos e,if_pos e]
 .rw[if_neg e,if_neg e,if_neg e]
theorem EN(G:XIni X.prog X.w X.K X.mg X.base C R f k)(hr:Room (k+1) X.A)(hg:Gl X cn)(hm:X.mg cn=some (.ref C))(he:PE X e te)
  (hdb:(cn == ("__debug__" : Str))=false:=by decide) (hs:Mw [e] X.env=[(false,eval e X.env)]:=by rfl) :
  PE X (.Call (.Name cn p) [e] [] pos) (tXm X.s₀.heap.objs.size C f te):=by
 intro pins s σ H Q I h;obtain⟨fI,fd,ps,F,hb,hi,hf⟩:=G.ex;refine Pe (je I hg hm ?_ hdb);have pa:PA X [e] (ko te m8):=bj he bJ (by rw[hs];rfl)
 have hA:=pa pos pins s σ H (fun vs H1=>match vs with
  |[v]=>∃x,v=.str x/\(QD x).length+1000<=Mz/\∀a dx,X.s₀.heap.objs.size<=a->H1 a=none->H1 dx=none->dx≠a->Q (.ref a) (upd (upd H1 dx (.xd [(f,.str x)])) a (.ext (XAt a C (some dx))))
  | _=>False) I h
 refine Q3 (h₀:=X.base) I.ok.mod.kin G.kp (thn hA fun us s1 ⟨vs,H1,I1,r1,q⟩=>⟨I1.kIn,?_⟩) (by rw[hs];rfl) rfl;dsimp only at q;split at q
 .obtain⟨x,rfl,hx,q⟩:=q
  obtain⟨u,us1,rfl,r2,r3⟩:∃a b,us=a::b/\RelV (.str x) a/\Vals [] b:=by cases r1 with|cons a b=>exact⟨_,_,rfl,a,b⟩
  cases r3;have I1':=I1;obtain⟨hp,g,d,tk,os⟩:=s1;refine F5 I1.kIn G.c G.r G.ri hi hf (show 1<=Mz by decide) fun h' a hm' hge=>?_;obtain⟨t,m1,m2,m3⟩:=hm'.there;have fr:H1 a=none:=I1.hok.fresh hge;have I2:=I1'.laid (h':=h') (a:=a) (o:=.ext (XAt a C none)) (t':=tk) hm'.keeps hge (XAt.ok ⟨t,m1⟩)
  have hl:(MK a::[u]).length=ps.length:=by
   have:=F.len [.ref a,.str x] (upd H1 a (.ext (XAt a C none))) (fun v H2=>True) E0 ⟨a,x,rfl,bg,hx,fun _ _ _=>trivial⟩;simpa using this
  have hb':=hb ⟨h',g,d,tk,os⟩ [.ref a,u] I2.kIn (by simpa using hl);refine RJ (QO (F.run _ X.stack ⟨h',g,d,tk,os⟩ (upd H1 a (.ext (XAt a C none))) ⟨[.ref a,u],[]⟩ [.ref a,u] [.ref a,.str x] (fun v H2=>v=.non/\Q (.ref a) H2) E0 ?_ (I2.env0.make C [u] []) (by simpa using hb') (.cons rfl (.cons r2 .nil)) ⟨a,x,rfl,bg,hx,fun dx h1 h2=>⟨rfl,?_⟩⟩) fun r s' hq=>?_)
  .exact hr.make C [u] []
  .rw[yw h2]
   have h1':H1 dx=none:=by rw[aP h2] at h1;exact h1
   exact q a dx (MP I1.sz hge) fr h1' h2
  .cases r with
   |error e=>exact NF hq
   |ok fl=>
    cases fl with
    |ret u'=>
     obtain⟨v,H3,I3,rv,ev,q'⟩:=I2.after hq;subst ev;exact⟨rv,.ref a,H3,I3,rfl,q'⟩
    |next=>exact NF hq
    |brk=>exact NF hq
    |cont=>exact NF hq
 .exact NF q
end
end XE
namespace XE
open L2
structure Kp(xs fs:List Addr)(h h':Heap):Prop where
 keep:∀b o,h.get? b=some o->b∉xs->b∉fs->h'.get? b=some o
 slot:∀b o,h.get? b=some o->b∉xs->b∈fs->∃sl,h'.get? b=some { o with slots:=sl }
 there:∀b o,h.get? b=some o->∃o',h'.get? b=some o'
theorem Kp.trans{xs fs:List Addr}{h h1 h2:Heap}(a:Kp xs fs h h1)(b:Kp xs fs h1 h2):Kp xs fs h h2 where
 keep:=fun c o q n m=>b.keep c o (a.keep c o q n m) n m
 slot:=fun c o q n m=>let ⟨_,e⟩:=a.slot c o q n m;let ⟨sl,e2⟩:=b.slot c _ e n m;⟨sl,e2⟩
 there:=fun c o q=>let ⟨_,e⟩:=a.there c o q;b.there c _ e
theorem Kp.more(a:Kp xs fs h h')(k:∀x∈xs,x∈ys):Kp ys fs h h':=⟨fun b o q n m=>a.keep b o q (fun z=>n (k b z)) m,fun b o q n m=>a.slot b o q (fun z=>n (k b z)) m,a.there⟩
theorem Kp.fun_(a:Kp xs fs h h')(n:∀x∈xs,∃o vs,h.get? x=some o/\o.data=.fields vs)(f:h.FunFrames base l):h'.FunFrames base l:=by
 refine f.of_keeps fun b o q nf=>?_
 have hx:b∉xs:=fun z=>by
  obtain⟨o',vs,e1,e2⟩:=n b z;rw[q] at e1;cases e1;exact nf vs e2
 by_cases hb:b∈fs
 .obtain⟨sl,e⟩:=a.slot b o q hx hb
  exact⟨_,e,rfl⟩
 .exact⟨o,a.keep b o q hx hb,rfl⟩
def XR(e C dx:Addr)(tb:Mp)(h:Heap):Prop:=∃t,h.get? e=some { cls:=.ref C,dict:=some dx,data:=.fields #[.ref t,tb,.none,.none,.bool false,.none] }
def TB(T:Addr)(fl:Mp)(h:Heap):Prop:=∃oT ts,h.get? T=some oT/\oT.data=.fields ts/\ts[3]? = some fl
section
variable {M:Vi}{A:Nb}{E:Mp->Ms->Prop}{s:Ms}{base:Heap}{env:Env}{outer:List Env}{L e C dx T:Addr}
theorem uX(hfr:A.frames=some (env::outer))(hl:s.heap.FunFrames base (env::outer))(hf:env.frame=some L)(hx:XR e C dx tb s.heap)
  (k:∀h' T,s.heap.objs.size<=T->XR e C dx (.ref T) h'->TB T (Sd L) h'->T≠e->Kp [e] (frs (env::outer)) s.heap h'->Q () { s with heap:=h' }) :
  MU M A (do let a ←frameOf env;let pl ←entryPlaceOf L hn;let b ←SM head a .none (Sd L) .none pl;setField (.ref e) 1 b) Q E s:=by
 obtain⟨t,he⟩:=hx
 have hen:e∉(env::outer).filterMap (·.frame):=fun hm=>by
  obtain⟨_,o,ho,hnf⟩:=hl.mem hm;rw[he] at ho;cases ho;exact hnf _ rfl
 refine Mu (wpAny_frameOf_fun hfr hl hf fun h1 hs=>?_);refine Mu (wpAny_entryPlaceOf fun pl hpl=>?_);unfold SM newFields;refine Mu (NR ?_ (hpl.sizeOk5 _ _ _ _ _));have he1:=(hs.2.1 e hen).trans he;generalize eo:(Obj.mk (.type "traceback") none (.fields ([head,.ref L,.none,Sd L,.none]++(if pl.isEmpty then MX 6 NY else pl)).toArray) #[])=oT
 have eT:oT.data=.fields ([head,.ref L,.none,Sd L,.none]++(if pl.isEmpty then MX 6 NY else pl)).toArray:=by rw[←eo]
 have he2:=Mt (h:=h1) oT he1;refine Sq he2 rfl (by simp) ?_;have ne:h1.objs.size≠e:=PC (MB he1);have sz:h1.objs.size=s.heap.objs.size:=hs.1;refine k _ h1.objs.size (by rw[sz];exact MC _) ⟨t,?_⟩ ⟨oT,_,?_,eT,by simp⟩ ne ⟨fun b o q n m=>?_,fun b o q n m=>?_,fun b o q=>?_⟩
 .rw[N3 _ he2 rfl]
  rfl
 .rw[M8 _ _ ne.symm]
  exact Pr rfl (Qr eT)
 .rw[M8 _ _ (fun z=>n (by simp[z]))]
  exact Mt _ ((hs.2.1 b m).trans q)
 .obtain⟨sl,q'⟩:=hs.2.2 b o q
  refine⟨sl,?_⟩;rw[M8 _ _ (fun z=>n (by simp[z]))];exact Mt _ q'
 .by_cases hb:b=e
  .subst hb
   exact⟨_,N3 _ he2 rfl⟩
  .obtain⟨sl,q'⟩:=hs.2.2 b o q
   exact⟨_,(M8 _ _ (Ot hb)).trans (Mt _ q')⟩
theorem zN(hfr:A.frames=some (env::outer))(hl:s.heap.FunFrames base (env::outer))(hf:env.frame=some L)(hx:XR e C dx .none s.heap)
  (k:∀h' T,s.heap.objs.size<=T->XR e C dx (.ref T) h'->TB T (Sd L) h'->T≠e->Kp [e] (frs (env::outer)) s.heap h'->Q () { s with heap:=h' }):MU M A (T7 (.ref e) env) Q E s:=by
 obtain⟨t,he⟩:=id hx;unfold T7;simp only[hf];refine Mu (P7 he rfl (x:=.none) rfl ?_);rw[if_neg (by decide)];exact uX hfr hl hf hx k
theorem pY(hx:XR e C dx (.ref T) s.heap)(ht:TB T fl s.heap)(ne:T≠e)(k:∀h',XR e C dx (.ref T) h'->TB T .none h'->Kp [T] [] s.heap h'->Q () { s with heap:=h' }) :
  MU M A (setFlight (.ref e) none) Q E s:=by
 obtain⟨t,he⟩:=hx;obtain⟨oT,ts,hT,hd,h3⟩:=ht;have sz:=(OH.mp h3).1;unfold setFlight;refine Mu (P7 he rfl (x:=.ref T) rfl ?_);rw[if_pos (show (MK T != NY)=true from by simp)];have dt:=S8 hd (·.setIfInBounds 3 NY);have self:=N3 (Rp (·.setIfInBounds 3 NY)) hT (Qr dt);refine Sq hT hd sz (k _ ⟨t,?_⟩ ⟨_,_,self,dt,by simp[sz]⟩ ⟨fun b o q n _=>?_,fun b o q n m=>absurd m (by simp),fun b o q=>?_⟩)
 .rw[M8 _ _ ne]
  exact he
 .rw[M8 _ _ (fun z=>n (by simp[z]))]
  exact q
 .by_cases hb:T=b
  .subst hb;exact⟨_,self⟩
  .exact⟨o,by rw[M8 _ _ hb];exact q⟩
theorem Dl(hfr:A.frames=some (env::outer))(hl:s.heap.FunFrames base (env::outer))(hf:env.frame=some L)(hx:XR e C dx (.ref T) s.heap)(ht:TB T .none s.heap)(ne:T≠e)
  (k:∀h' T',s.heap.objs.size<=T'->XR e C dx (.ref T') h'->TB T' (Sd L) h'->T'≠e->Kp [e,T] (frs (env::outer)) s.heap h'->Q () { s with heap:=h' }):MU M A (T7 (.ref e) env) Q E s:=by
 obtain⟨t,he⟩:=id hx;obtain⟨oT,ts,hT,hd,h3⟩:=id ht;have sz:=(OH.mp h3).1;unfold T7;simp only[hf];refine Mu (P7 he rfl (x:=.ref T) rfl ?_);rw[if_pos (show (MK T != NY)=true from by simp)];refine Mu (P7 hT hd h3 ?_);rw[if_neg (show ¬((NY == Sd L)=true) from by simp[Sd])];have dt:=S8 hd (·.setIfInBounds 3 NY);have self:=N3 (Rp (·.setIfInBounds 3 NY)) hT (Qr dt)
 have kp:Kp [e,T] (frs (env::outer)) s.heap (s.heap.update T (Rp (·.setIfInBounds 3 NY))):=by
  refine⟨fun b o q n _=>?_,fun b o q n m=>⟨o.slots,?_⟩,fun b o q=>?_⟩
  .rw[M8 _ _ (fun z=>n (by simp[z]))]
   exact q
  .rw[M8 _ _ (fun z=>n (by simp[z]))]
   exact q
  .by_cases hb:T=b
   .subst hb;exact⟨_,self⟩
   .exact⟨o,by rw[M8 _ _ hb];exact q⟩
 have fn:=kp.fun_ (fun x hx=>by
  rcases MG.mp hx with z|z
  .exact⟨_,_,z ▸ he,rfl⟩
  .exact⟨_,_,(MR.mp z) ▸ hT,hd⟩) hl
 refine Mu (Sq hT hd sz ?_);refine uX (base:=base) hfr fn hf ⟨t,by rw[M8 _ _ ne];exact he⟩ fun h' T' g1 g2 g3 g4 g5=>?_;refine k h' T' ?_ g2 g3 g4 (kp.trans (g5.more fun x hx=>by simp at hx;simp[hx]))
 have:(s.heap.update T (Rp (·.setIfInBounds 3 NY))).objs.size=s.heap.objs.size:=by first|exact Heap.size_update _ _ _|simp
 rw[←this];exact g1
end
end XE
namespace XE
open L2
def forget(a:Addr)(H:Hp):Hp:=fun b=>if b=a then none else H b
theorem gJ(h:b≠a):forget a H b=H b:=by unfold forget;rw[if_neg h]
theorem rh:forget a H a=none:=by unfold forget;rw[if_pos rfl]
theorem zW(h:H a=none):forget a (upd H a o)=H:=by
 funext b;unfold forget upd
 by_cases e:b=a
 .rw[if_pos e,e,h]
 .rw[if_neg e,if_neg e]
theorem Gc(u:Un fs [] H0 H2 h0 h2)(k:Kp xs fs' h2 h3)(nx:∀x∈xs,h0.objs.size<=x)(nf:∀x∈fs',x∈fs\/h0.objs.size<=x)(ha:H2 a=some (.ext φ)) :
  Un fs [] H0 (forget a H2) h0 h3:=by
 have lt:∀{b:Addr}{o:Obj},h0.get? b=some o->b<h0.objs.size:=fun e=>MB e;have nx':∀{b:Addr}{o:Obj},h0.get? b=some o->b∉xs:=fun e z=>NM _ (ME (lt e) (nx _ z));refine⟨fun b o q n m x=>?_,fun b o q n m x=>?_,fun b o q n x=>?_,fun b o q x=>?_,fun b xs e=>?_,fun b o u' e=>?_,fun b ps e=>?_⟩
 .refine k.keep b o (u.keep b o q n m x) (nx' q) fun z=>?_
  rcases nf b z with z|z
  .exact m z
  .exact NM _ (ME (lt q) z)
 .obtain⟨sl,e⟩:=u.slot b o q n m x
  by_cases z:b∈fs'
  .obtain⟨sl',e'⟩:=k.slot b _ e (nx' q) z
   exact⟨sl',e'⟩
  .exact⟨sl,k.keep b _ e (nx' q) z⟩
 .have e:=u.free b o q n x
  rw[gJ (fun z=>by rw[z,ha] at e;cases e)];exact e
 .obtain⟨o',e⟩:=u.there b o q x
  exact k.there b o' e
 .have e':=u.tups b xs e
  rw[gJ (fun z=>by rw[z,ha] at e';cases e')];exact e'
 .have e':=u.frzs b o u' e
  rw[gJ (fun z=>by rw[z,ha] at e';cases e')];exact e'
 .obtain⟨more,e'⟩:=u.tbls b ps e
  refine⟨more,?_⟩;rw[gJ (fun z=>by rw[z,ha] at e';cases e')];exact e'
theorem Fp(x:HOk P w H h)(k:Kp xs fs h h')(nx:∀y∈xs,y=a\/H y=none)(nf:∀y∈fs,H y=none)(ha:H a=some (.ext φ)):HOk P w (forget a H) h':=by
 intro b o e
 have nb:b≠a:=fun z=>by rw[z,rh] at e;cases e
 rw[gJ nb] at e;refine(x b o e).stay (fun c u hc q=>?_) (fun c q=>?_) fun c ys q=>?_
 .have tr:∃v,H c=some v/\c≠a:=by
   rcases hc with rfl|hc
   .exact⟨_,e,nb⟩
   .exact⟨_,hc,fun z=>by rw[z,ha] at hc;cases hc⟩
  obtain⟨v,t1,t2⟩:=tr;refine k.keep c u q (fun z=>?_) fun z=>?_
  .rcases nx c z with z|z
   .exact t2 z
   .rw[t1] at z;cases z
  .have:=nf c z
   rw[t1] at this;cases this
 .rw[gJ (fun z=>by rw[z,ha] at q;cases q)];exact q
 .rw[gJ (fun z=>by rw[z,ha] at q;cases q)];exact q
def CXx(P:MA)(w:ML):CXT:=fun outer H s E v s'=>∃e C dx T H',v=.ref e/\s'.os=s.os/\QM s'.gens/\Un (frs outer) [] H H' s.heap s'.heap/\HOk P w H' s'.heap/\s.heap.objs.size<=e/\s.heap.objs.size<=T/\T≠e /\
 XR e C dx (.ref T) s'.heap/\TB T .none s'.heap/\H' e=none/\H' T=none/\E (.ref C) (some dx) H'
section
variable {P:MA}{w:ML}{K:Frag}{mg:Str->Option Mp}{base:Heap}{N:List Str}{qual:Str}{scope:O9}{f C R:Addr}{cdv:Mp}{A:Nb}{outer:List Env}{s0:Ms}{H0:Hp}{E:XK}
def vt(n0:Nat)(C:Addr)(E:XK)(te:TE):TS:=fun _ σ H=>te σ H fun v H2=>∃a dx,v=.ref a/\n0<=a/\H2 a=some (.ext (XAt a C (some dx)))/\E (.ref C) (some dx) (forget a H2)
theorem Br(c:XCl K C (.ref R::vE))(he:PE (eQ (CXx P w) P w K mg base N qual scope f cdv A outer s0 H0 E) e te) :
  PS (eQ (CXx P w) P w K mg base N qual scope f cdv A outer s0 H0 E) (.Raise (some e) none pos) (vt s0.heap.objs.size C E te):=by
 intro pins s σ H D I h;rw[arm_exec_Raise];refine Mu (Rn ?_);simp only[evalOpt,VP];unfold raiseStmt;refine Mu (Mu (thn (he pins s σ H _ I h) fun v s2 ⟨x,H2,I2,r2,a,dx,ex,ge,ha,q⟩=>Mu (Rn (MI ?_))));subst ex;obtain rfl:v=.ref a:=r2;obtain⟨t,hat⟩:=XAt.of I2.hok ha;obtain⟨nm,qn,Nn,bs,sn,sub,ab,col,dd,k0,k1,k2,k3,k5,l,_⟩:=c;have hC:=I2.kIn _ _ l
 have hcB:(MK C::MK R::vE).contains (.type "BaseException")=true:=by simp
 have hh:=I2.ok.hd rfl;have st:=I2.env0;have un:Un (frs outer) [] H0 H2 s0.heap s2.heap:=I2.base;have osq:s2.os=s0.os:=I2.os;have bare:=I2.bare;have ab':s0.heap.objs.size<=s0.heap.objs.size:=MC _;have sz:s0.heap.objs.size<=s2.heap.objs.size:=I2.sz;have hok:HOk P w H2 s2.heap:=I2.hok
 have fin:(eQ (CXx P w) P w K mg base N qual scope f cdv A outer s0 H0 E).xe (.ref a) s2:=by
  show MU (MW P w) (A.deeper (P1 qual scope s0.heap.objs.size f cdv)) (leaving (P1 qual scope s0.heap.objs.size f cdv) (.ref a)) (fun _ s''=>CXx P w outer H0 s0 E (.ref a) s'') (fun e' s''=>CXx P w outer H0 s0 E e' s'') s2;unfold leaving;refine Mu (zN (base:=base) (outer:=outer) (C:=C) (dx:=dx) st.frames st.funs rfl ⟨t,hat⟩ fun h3 T g1 g2 g3 g4 g5=>?_);refine pY g2 g3 g4 fun h4 j1 j2 j3=>?_
  have kp:Kp [a,T] (frs (P1 qual scope s0.heap.objs.size f cdv::outer)) s2.heap h4:=by
   refine(g5.more fun x hx=>by simp at hx;simp[hx]).trans ?_;refine⟨fun b o q n _=>j3.keep b o q (fun z=>n (by simp at z;simp[z])) (by simp),fun b o q n m=>⟨o.slots,?_⟩,j3.there⟩;exact j3.keep b o q (fun z=>n (by simp at z;simp[z])) (by simp)
  have hT:H2 T=none:=hok.fresh g1;refine⟨a,C,dx,T,forget a H2,rfl,osq,bare,Gc un kp (fun x hx=>?_) (fun x hx=>?_) ha,Fp hok kp (fun y hy=>?_) st.frf ha,ge,MP sz g1,g4,j1,j2,rh,?_,q⟩
  .simp at hx
   rcases hx with rfl|rfl
   .exact ge
   .exact MP sz g1
  .have hx':x∈frs (P1 qual scope s0.heap.objs.size f cdv::outer):=hx
   unfold frs at hx';rw[Oy] at hx';have hfr:(P1 qual scope s0.heap.objs.size f cdv).frame=some s0.heap.objs.size:=rfl;rw[hfr] at hx'
   rcases MG.mp hx' with z|z
   .exact .inr (To z.symm)
   .exact .inl z
  .simp at hy
   rcases hy with rfl|rfl
   .exact .inl rfl
   .exact .inr hT
  .rw[gJ g4];exact hT
 obtain⟨hp,g,d,tk,os⟩:=s2
 repeat (first|with_reducible refine Ng hat ?_|with_reducible refine Ng hC ?_|wp_step)
 refine OX hC ?_;rw[hcB]
 repeat (first|with_reducible refine Ng hat ?_|with_reducible refine Ng hC ?_|wp_step)
 exact wpAny_raiseNew_none hh fin
end
end XE
namespace XE
open L2
section
variable {X:Cx}{pins:List (Addr×Obj)}{σ:L2.St}{H:Hp}{s:Ms}
theorem name_goes(I:L2.Inv X pins σ H s)(hN:X.N.Nodup)(hi:X.N[i]? = some n)(hl:X.env.scope.names.lookup n=some .local)
  (k:∀s',L2.Inv X pins (σ.set i none) H s'->Q () s'):MU (MW X.prog X.w) A (do bindName X.env n .none;QE X.env n pos) Q E s:=by
 obtain⟨m,hn,hm⟩:=id I.loc
 have hp:(X.env.scope.kind == .class||(X.env.scope.kind == .module&&X.env.locals != X.env.globals))=false:=by rw[I.ok.kind];rfl
 have hk:X.env.kindOf n=some .local:=hl;refine Mu (wpAny_bindName (R6 hk hn (fun h1 hn1 hs1=>?_) hp));unfold QE;refine wpAny_onRaise ?_;unfold unbindName;refine Mu (wpAny_point (Mu ?_));unfold deleteName;simp only[hk,hp];rw[if_neg (by decide)];refine Mu (wpAny_nsDel_keeps hn1 fun h2 v hn2 hs2=>?_);simp only[if_true,S6,Bool.not_true,Pf,if_false];refine MI (wpAny_point (k _ ?_));have hs:=hs1.trans hs2;have cne:=I.cne;obtain⟨oL,_,_,hoL,_⟩:=id hn
 have hiσ:i<σ.length:=by rw[I.len];exact(My.mp hi).1
 refine⟨I.ok,I.os,I.bare,⟨fun b o e n hb hx=>?_,fun b o e n hb hx=>?_,I.base.free,fun b o e hx=>?_,I.base.tups,I.base.frzs,I.base.tbls⟩,⟨_,hn2,fun j y v' e1 e2 e3=>?_⟩,fun y c e=>?_,I.free,I.freeC,fun p hp=>?_,fun b ob e=>?_,by simpa using I.len⟩
 .exact(hs.2 b (MO (ME (MB e) I.ok.above))).trans (I.base.keep b o e n hb hx)
 .obtain⟨sl,e1⟩:=I.base.slot b o e n hb hx
  exact⟨sl,(hs.2 b (MO (ME (MB e) I.ok.above))).trans e1⟩
 .obtain⟨o',e1⟩:=I.base.there b o e hx
  exact⟨o',(hs.2 b (MO (ME (MB e) I.ok.above))).trans e1⟩
 .by_cases hj:j=i
  .subst hj
   rw[MQ hiσ] at e2;cases e2
  .rw[MD (Ot hj)] at e2
   obtain⟨u',r',q⟩:=hm j y v' e1 e2 e3;refine⟨u',r',?_⟩
   rcases q with⟨k,e⟩|⟨k,c,e,z⟩
   .refine .inl ⟨k,?_⟩
    have:y≠n:=fun e=>hj (oF hN e1 (e ▸ hi));simp[this,e]
   .exact .inr ⟨k,c,e,z.sameBut hs (cne y c e)⟩
 .obtain⟨w',z⟩:=I.cell y c e
  exact⟨w',z.sameBut hs (cne y c e)⟩
 .obtain⟨e,n,ne,nf,d⟩:=I.pin p hp
  exact⟨(hs.2 p.1 ne).trans e,n,ne,nf,d⟩
 .refine(I.hok b ob e).stay (fun c w' hc q=>(hs.2 c ?_).trans q) (fun _ q=>q) fun _ _ q=>q
  rintro rfl
  rcases hc with rfl|hc
  .rw[I.free] at e;cases e
  .rw[I.free] at hc;cases hc
def gU(X:Cx)(e:Addr)(oe:Obj):Cx:={ X with A:=X.A.mark (some (.ref e)),calm:=false,pn:=(e,oe)::X.pn,xe:=fun _ _=>False }
theorem AW(ok:X.Ok):(gU X e oe).Ok:=⟨ok.mod,ok.kind,ok.glob,ok.blt,ok.above,ok.inj,ok.has,ok.cab,fun z=>(nomatch z),ok.frames,ok.stk,ok.exf,ok.bs,ok.bsz,ok.noex,ok.exfs,ok.funs,ok.frf⟩
theorem rR(I:L2.Inv X pins σ H s)(h:s.heap.get? e=some oe/\H e=none/\e≠X.env.locals/\e∉X.fs/\∀v,oe.data≠.cell v):L2.Inv (gU X e oe) pins σ H s:=
 ⟨AW I.ok,I.os,I.bare,I.base,I.loc,I.cell,I.free,I.freeC,fun p hp=>by
  have hp:p∈(e,oe)::(X.pn++pins):=hp
  rcases MG.mp hp with z|z
  .rw[z];exact h
  .exact I.pin p z,I.hok,I.len⟩
theorem k9(ok:X.Ok)(I:L2.Inv (gU X e oe) pins σ H s):L2.Inv X pins σ H s:=⟨ok,I.os,I.bare,I.base,I.loc,I.cell,I.free,I.freeC,fun p hp=>I.pin p (Mr _ hp),I.hok,I.len⟩
theorem As{E:Mp->Ms->Prop}{K:Frag}{oe:Obj}{Q:Bool->Ms->Prop}(x:K.In s.heap)(c:XCl K C (.ref R::vE))(r:XCl K R vE)(he:s.heap.get? e=some oe)(hc:oe.cls=.ref C)(q:Q true s) :
  MU M A (excMatches (.ref e) (.ref R)) Q E s:=by
 obtain⟨nm,qn,N,bs,sn,sub,ab,col,dd,k0,k1,k2,k3,k5,l,_⟩:=c;obtain⟨nm',qn',N',bs',sn',sub',ab',col',dd',k0',k1',k2',k3',k5',l',_⟩:=r;have hC:=x _ _ l;have hR:=x _ _ l'
 have c1:(MK R::vE).contains (.type "BaseException")=true:=by simp
 have c2:(MK C::MK R::vE).contains (.ref R)=true:=by simp
 have f:=tc_notTuple;obtain⟨hp,g,d,tk,os⟩:=s;unfold excMatches
 repeat (first|(with_reducible refine Ng he ?_;rw[hc])|with_reducible refine Ng hR ?_|wp_step)
 refine OX hR ?_;rw[c1]
 repeat (first|(with_reducible refine Ng he ?_;rw[hc])|with_reducible refine Ng hR ?_|wp_step)
 refine OX hC ?_;rw[c2]
 repeat wp_step
 exact q
end
end XE
namespace XE
open L2
section
variable {X:Cx}{C R fa:Addr}{k:Nat}{fd:MS}{ps:List Str}{sp:Sp}
def HH(C:Addr)(i:Nat)(sp:Sp)(t:TA)(ts:Addr->Addr->TS):TS:=fun D σ H=>t σ H fun vs H1=>sp vs H1 (fun _ H2=>D.nx σ H2) fun cv od H2=>cv=.ref C/\∃dx,od=some dx /\
 ∀e,ts e dx { nx:=fun σ'=>D.nx (σ'.set i none),rt:=D.rt,bk:=fun σ'=>D.bk (σ'.set i none),ct:=fun σ'=>D.ct (σ'.set i none) } (σ.set i (some (.ref e))) H2
theorem EI(F:FnOk X.prog X.w X.K X.mg X.base (CXx X.prog X.w) k fa fd ps sp)(hr:Room k X.A)(hg:Gl X fn)(hm:X.mg fn=some (.ref fa))
  (hk:Ny X.K (.ref fa)=true) (hb:Binds X.K fd ps []) (ha:PA X.nox (e::es) t) (c:XCl X.K C (.ref R::vE)) (r:XCl X.K R vE) (hgR:Gl X rn) (hmR:X.mg rn=some (.ref R)) (hN:X.N.Nodup) (hs:∀e oe dx,oe.cls=.ref C->oe.dict=some dx->(∃vs,oe.data=.fields vs)->PSs (gU X e oe) (b0::suite) (ts e dx))
  (hi:X.N[i]? = some n:=by rfl) (hl:X.env.scope.names.lookup n=some .local:=by rfl) (hfr:X.env.frame=some X.env.locals:=by rfl) (hst:X.stack=X.env::X.outer:=by rfl) (hex:X.ex=[]:=by rfl)
  (hdb:(fn == ("__debug__" : Str))=false:=by decide) (hdR:(rn == ("__debug__" : Str))=false:=by decide) (he:Mw (e::es) X.env=(false,eval e X.env)::Mw es X.env:=by rfl) (hpl:(Nv cp (Mw es X.env)).any (·.1)=false:=by rfl)
  (hsw:NX (.Call (.Name fn p) (e::es) [] cp) none ep.line X.env=pure false:=by rfl) :
  PS X (.Try [.Expr (.Call (.Name fn p) (e::es) [] cp) ep] [.ExceptHandler (some (.Name rn p2)) (some n) (b0::suite) hpos] [] [] pos) (HH C i sp t ts):=by
 intro pins s σ H D I h;refine wpAny_Try_except (PB (wpAny_Expr_any ?_ I.quiet hsw));refine Pe (je I hg hm ?_ hdb);refine Q3 (h₀:=X.base) I.ok.mod.kin hk ?_ he hpl;refine Oc (ha cp pins s σ H _ (I.wish _) h) (fun us s1 ⟨vs,H1,I1',rv,q⟩=>?_) fun _ _ z=>NF z;have I1:L2.Inv X pins σ H1 s1:=I1'.unwish;refine⟨I1.kIn,?_⟩
 have hlen:us.length=ps.length:=by rw[←rv.length];exact F.len _ _ _ _ q
 refine RJ (QO (F.run X.A X.stack s1 H1 ⟨us,[]⟩ us vs _ _ hr I1.env0 (by simpa using hb s1 us I1.kIn (by simpa using hlen)) rv q) fun res s2 hq=>?_)
 cases res with
 |ok fl=>
  cases fl with
  |ret u=>
   obtain⟨v,H2,I2,r2,q2⟩:=I1.after hq;exact Ov (Ov ⟨σ,H2,I2,q2⟩)
  |next=>exact NF hq
  |brk=>exact NF hq
  |cont=>exact NF hq
 |error x=>
  obtain⟨a,C',dx,T,H2,rfl,os2,bare2,un2,hok2,ge,geT,neT,xr,tb,fe,fT,ec,dx',ed,qx⟩:=hq;cases ec;cases ed;have I2:L2.Inv X pins σ H2 s2:=I1.call' (ch:=[]) os2 un2 hok2 bare2 (fun b z=>absurd z (by simp));have st:=I2.env0;have neL:∀y,s1.heap.objs.size<=y->y≠X.env.locals:=fun y hy z=>NM _ (ME (z ▸ I1.lt) hy)
  have nef:∀y,s1.heap.objs.size<=y->y∉frs X.stack:=fun y hy z=>by
   obtain⟨_,o,ho,_⟩:=I1.stack.mem z;exact NM _ (ME (MB ho) hy)
  have go:∀(xs:List Addr) (h':Heap),(∀y∈xs,s1.heap.get? y=none/\H2 y=none)->Kp xs (frs X.stack) s2.heap h'->L2.Inv X pins σ H2 { s2 with heap:=h' }:=fun xs h' nx kp=>by
   have lt:∀{b:Addr}{o:Obj},s1.heap.get? b=some o->b∉xs:=fun q z=>by rw[(nx _ z).1] at q;cases q
   refine I1.call' (ch:=[]) (s':={ s2 with heap:=h' }) os2 ⟨fun b o q n m _=>?_,fun b o q n m _=>?_,un2.free,fun b o q _=>?_,un2.tups,un2.frzs,un2.tbls⟩ (fun b o e=>?_) bare2 (fun b z=>absurd z (by simp))
   .exact kp.keep b o (un2.keep b o q n m (by simp)) (lt q) m
   .obtain⟨sl,e1⟩:=un2.slot b o q n m (by simp)
    obtain⟨sl',e2⟩:=kp.slot b _ e1 (lt q) m;exact⟨sl',e2⟩
   .obtain⟨o',e1⟩:=un2.there b o q (by simp)
    exact kp.there b o' e1
   .refine(hok2 b o e).stay (fun c' u hc q=>?_) (fun _ q=>q) fun _ _ q=>q
    have tr:∃v,H2 c'=some v:=by
     rcases hc with rfl|hc
     .exact⟨_,e⟩
     .exact⟨_,hc⟩
    obtain⟨v,tr⟩:=tr;refine kp.keep c' u q (fun z=>?_) fun z=>?_
    .rw[(nx c' z).2] at tr;cases tr
    .rw[I2.stkFree c' z] at tr;cases tr
  have frs':X.A.frames=some (X.env::X.outer):=by rw[←hst];exact st.frames
  have funs':s2.heap.FunFrames X.base (X.env::X.outer):=by rw[←hst];exact st.funs
  refine Dl (base:=X.base) (outer:=X.outer) (L:=X.env.locals) frs' funs' hfr xr tb neT fun h3 T3 g1 g2 g3 g4 g5=>?_;rw[←hst] at g5;have fT3:H2 T3=none:=hok2.fresh g1;refine pY g2 g3 g4 fun h4 j1 j2 j3=>?_;have wid:∀{x:Addr}{u v:Heap},Kp [x] [] u v->Kp [x] (frs X.stack) u v:=fun k=>⟨fun b o q n _=>k.keep b o q n (by simp),fun b o q n _=>⟨o.slots,k.keep b o q n (by simp)⟩,k.there⟩;have kp4:Kp [a,T,T3] (frs X.stack) s2.heap h4:=(g5.more fun x hx=>by simp at hx;rcases hx with z|z <;> simp[z]).trans ((wid j3).more fun x hx=>by simp at hx;simp[hx])
  have nx:∀y∈[a,T,T3],s1.heap.get? y=none/\H2 y=none:=fun y hy=>by
   simp at hy
   rcases hy with rfl|rfl|rfl
   .exact⟨ON ge,fe⟩
   .exact⟨ON geT,fT⟩
   .refine⟨?_,fT3⟩
    cases z:s1.heap.get? y with
    |none=>rfl
    |some o=>
     obtain⟨o',e1⟩:=un2.there y o z (by simp);exact absurd (MB e1) (Nat.not_lt.mpr g1)
  have I4:=go _ h4 nx kp4;obtain⟨t4,he4⟩:=id j1
  have pin:∀{h':Heap},h'.get? a=some { cls:=.ref C,dict:=some dx,data:=.fields #[.ref t4,.ref T3,.none,.none,.bool false,.none] }->h'.get? a=some { cls:=.ref C,dict:=some dx,data:=.fields #[.ref t4,.ref T3,.none,.none,.bool false,.none] }/\H2 a=none/\a≠X.env.locals/\a∉X.fs/\∀v,(VF #[.ref t4,.ref T3,.none,.none,.bool false,.none])≠.cell v:=fun e=>
   ⟨e,fe,neL a ge,fun z=>nef a ge (by rw[hst];unfold frs;rw[Oy,hfr];exact Mr _ z),fun _ z=>nomatch z⟩
  let oe:Obj:={ cls:=.ref C,dict:=some dx,data:=.fields #[.ref t4,.ref T3,.none,.none,.bool false,.none] }
  have I5:L2.Inv (gU X a oe) pins σ H2 { s2 with heap:=h4 }:=rR I4 (pin he4);refine wpAny_handleBy_cons (codeAny_handlers_test ?_) (by intro z;cases z);refine je (X:=gU X a oe) I5 hgR hmR ?_ hdR;refine As I5.kIn c r he4 rfl ?_;refine codeAny_handlers_suite_as ?_;refine pY j1 j2 g4 fun h6 l1 l2 l3=>?_;have I6:=go _ h6 nx (kp4.trans ((wid l3).more fun x hx=>by simp at hx;simp[hx]));have he6:h6.get? a=some oe:=l3.keep a _ he4 (by simp;exact g4.symm) (by simp);have I7:L2.Inv (gU X a oe) pins σ H2 { s2 with heap:=h6 }:=rR I6 (pin he6);refine lF (X:=gU X a oe) (i:=i) (v:=.ref a) I7 hN hi (.inl hl) rfl (fun s8 I8=>?_) (.inr hl);refine Oc (hs a oe dx rfl rfl ⟨_,rfl⟩ pins s8 _ H2 _ I8 (qx a)) (fun f s9 sp9=>?_) fun _ _ z=>NF z;show MU _ _ (do bindName X.env n .none;QE X.env n hpos) _ _ _
  cases f with
  |next=>
   obtain⟨σ9,H9,I9,q9⟩:=sp9;exact name_goes (k9 I.ok I9) hN hi hl fun s' I'=>⟨_,_,I',q9⟩
  |brk=>
   obtain⟨σ9,H9,I9,q9⟩:=sp9;exact name_goes (k9 I.ok I9) hN hi hl fun s' I'=>⟨_,_,I',q9⟩
  |cont=>
   obtain⟨σ9,H9,I9,q9⟩:=sp9;exact name_goes (k9 I.ok I9) hN hi hl fun s' I'=>⟨_,_,I',q9⟩
  |ret u=>
   obtain⟨v9,σ9,H9,I9,r9,q9⟩:=sp9;exact name_goes (k9 I.ok I9) hN hi hl fun s' I'=>⟨_,_,_,I',r9,q9⟩
end
end XE
namespace XE
open L2
section
variable {prog:MA}{w:ML}{A:Nb}{E:Mp->Ms->Prop}{h:Heap}{g:Array Tc}{d:Drawn}{t:Nat}{os:OsState}{K:Frag}{C R x:Addr}{ox:Obj}{od:Option Obj}{name:Str}
theorem Du:builtinKind "BaseException.__getattribute__"=some .slot:=by decide +kernel
theorem Bb:splitId "BaseException.__getattribute__"=some ("BaseException","__getattribute__"):=by decide +kernel
theorem sY(hbm:OC K C (.type "BaseException")=some true)(X:K.In h)(I:OY h x ox C od)
  (k:MU (MW prog w) A.in1 (PF.«object.__getattribute__» ⟨[.ref x,.str name tk],[]⟩) (fun fin s'=>match fin with | .done f=>Rr (.ok f) s' | .again c'=>c'.quiet=true/\RI (MW prog w) A c' Rr s') (fun e s'=>Rr (.error e) s') ⟨h,g,d,t,os⟩) :
  RI (MW prog w) A (.call (.builtin "BaseException.__getattribute__") ⟨[.ref x,.str name tk],[]⟩) Rr ⟨h,g,d,t,os⟩:=by
 have sub:PySem.W.Looks (MW prog w) h (UI (.ref x) (.type "BaseException")) true:=I.type.andThen (PySem.W.looks_mroIn X hbm);have ha:=F.args_bexc_ga (.ref x) (.str name tk);exact Px Py.ga.plain F.entry_bexc_ga (@PySem.W.check_slot (MW prog w) _ _ ⟨h,g,d,t,os⟩ "BaseException.__getattribute__" "BaseException" "__getattribute__" (.ref x) [.str name tk] [] _ Du Bb sub ha k)
theorem A7(X:K.In s.heap)(I:OY s.heap x ox C od)(hf:R4 K C od name=some (.value v))(k:Q (.done (.ret v)) s) :
  MU (MW prog w) A (PF.«object.__getattribute__» ⟨[.ref x,.str name tk],[]⟩) Q E s:=by
 have L0:=I.type (M:=MW prog w);have L1:=S9 (M:=MW prog w) X I hf;unfold PF.«object.__getattribute__»;refine Mu (MI (Mu (MI (Mu (L0.here (Mu (L1.here ?_)))))));exact MI k
theorem Hr(hbm:OC K C (.type "BaseException")=some true)(hgt:MV K (.ref C) "__getattr__"=some none)(hga:MV K (.ref C) "__getattribute__"=some (some (.builtin "BaseException.__getattribute__")))(X:K.In h)(I:OY h x ox C od)
  (hf:R4 K C od name=some (.value v)) (hv:TF v=true) (k:Q v ⟨h,g,d,t+1,os⟩):MU (MW prog w) A (getAttr (.ref x) name ex) Q E ⟨h,g,d,t,os⟩:=by
 have L0:=I.type (M:=MW prog w);have L1:=NT (M:=MW prog w) X hga;have f3:=Py.ga.bind (.ref x)
 have hx0:(ex&&onTheHeap (Value.builtin "BaseException.__getattribute__"))=false:=by cases ex <;> rfl
 unfold getAttr getAttrBy;refine Mu (wpAny_mkText (Ob (Mu (L0.at (Mu (L1.at ?_))))))
 repeat (any_goals (first|assumption|wp_step))
 refine NT X hgt _ _ _ _ (fun _ _ e=>e) ?_
 repeat (any_goals (first|assumption|wp_step))
 refine sY hbm X I (A7 (s:=⟨h,g,d,t+1,os⟩) X I hf ?_);show MU _ _ (handedOut v) _ _ _;rw[Sr hv];exact MI k
theorem Hs{od:Obj}{Q:Option Mp->Ms->Prop}(hbm:OC K C (.type "BaseException")=some true)(hgt:MV K (.ref C) "__getattr__"=some none)(hga:MV K (.ref C) "__getattribute__"=some (some (.builtin "BaseException.__getattribute__")))
  (hc:(PU K C).isSome=true) (ha:MV K (.ref C) "__class__"=some (some (.builtin "object.__class__"))) (hn:Pp K (.builtin "object.__class__") "__get__"=some (some (.builtin "getset_descriptor.__get__")))
  (htk:QH K (.builtin "object.__class__")=some true) (hm:OC K C (.type "object")=some true) (X:K.In h) (I:OY h x ox C (some od)) (k:Q (some (.ref C)) ⟨h,g,d,t+1,os⟩) :
  MU (MW prog w) A (UH (.ref x) "__class__") Q E ⟨h,g,d,t,os⟩:=by
 have hf:R4 K C (some od) "__class__"=some (.bind (.builtin "getset_descriptor.__get__") (.builtin "object.__class__")):=PySem.W.findObj_data hc ha hn htk;have L0:=I.type (M:=MW prog w);have L1:=NT (M:=MW prog w) X hga;have L2:=S9 (M:=MW prog w) X I hf;have f3:=Py.ga.bind (.ref x);unfold UH getAttrBy? getAttrBy;refine Mu (wpAny_mkText (Mu (wpAny_attempt (Ob (Mu (L0.at (Mu (L1.at ?_))))))))
 repeat (any_goals (first|assumption|wp_step))
 refine NT X hgt _ _ _ _ (fun _ _ e=>e) ?_
 repeat (any_goals (first|assumption|wp_step))
 refine sY hbm X I ?_;unfold PF.«object.__getattribute__»;refine Mu (MI (Mu (MI (Mu (L0.here (Mu (L2.here ?_)))))));show MU _ _ (Rb _ _ _ _) _ _ _;unfold Rb
 repeat wp_step
 refine PySem.W.class_get X I hm ?_;refine MI ?_;show MU _ _ (handedOut (.ref C)) _ _ _;rw[Sr (v:=.ref C) rfl];exact MI (MI k)
structure XIs(K:Frag)(C:Addr):Prop where
 bm:OC K C (.type "BaseException")=some true
 gt:MV K (.ref C) "__getattr__"=some none
 ga:MV K (.ref C) "__getattribute__"=some (some (.builtin "BaseException.__getattribute__"))
 hc:(PU K C).isSome=true
 ca:MV K (.ref C) "__class__"=some (some (.builtin "object.__class__"))
 hn:Pp K (.builtin "object.__class__") "__get__"=some (some (.builtin "getset_descriptor.__get__"))
 tk:QH K (.builtin "object.__class__")=some true
 hm:OC K C (.type "object")=some true
theorem XIs.kit{od:Obj}(q:XIs K C):PySem.W.KitX K (.ref x) (.ref C) (fun h=>OY h x ox C (some od)) where
 ty:=fun _ _ _ I=>I.type
 it:=fun _ _ X _=>by
  obtain⟨cd,hcd⟩:=On.mp q.hc;unfold PU at hcd;split at hcd
  .rename_i c' d' cd' sl' ho
   intro A' Q' E' s' k q;unfold isType loadHead;exact Mu (wpAny_loadPart (k _ _ (X _ _ ho)) (MI q))
  .cases hcd
 ne:=fun h tp dd its n sl X htp=>by
  obtain⟨cd,hcd⟩:=On.mp q.hc;refine Bool.eq_false_iff.mpr fun z=>?_;have e:C=tp:=Value.ref.inj (beq_iff_eq.mp z);subst e;unfold PU at hcd;split at hcd
  .rename_i c' d' cd' sl' ho
   cases (X _ _ ho).symm.trans htp
  .cases hcd
 ca:=fun {_ _ _ _ _ s} X I k=>by
  obtain⟨h,g,d,t,os⟩:=s;exact Hs q.bm q.gt q.ga q.hc q.ca q.hn q.tk q.hm X I k
end
end XE
namespace XE
open L2
theorem rV:∀{Ds:List Addr}{us:List Mp},Vals (Ds.map V.ref) us->us=Ds.map MK
 |[],_,.nil=>rfl
 |a::r,_,.cons h1 h2=>by rw[M5,←rV h2];cases (show _=MK a from h1);rfl
section
variable {X:Cx}{C e dx:Addr}{oe:Obj}
structure Cau(X:Cx)(C e dx:Addr)(oe:Obj):Prop where
 pin:(e,oe)∈X.pn
 cls:oe.cls=.ref C
 dict:oe.dict=some dx
 data:∃vs,oe.data=.fields vs
 is:XIs X.K C
 hd:Qd X.K C=true
theorem Cau.inst(c:Cau X C e dx oe)(I:L2.Inv X pins σ H s)(h:H dx=some (.xd fs)) :
  ∃(od:Obj) (mA:Str->Option Mp),OY s.heap e oe C (some od)/\(∀f,RelO (fs.lookup f) (mA f))/\∀name,QZ name od=some (mA name):=by
 obtain⟨mA,ns,r⟩:=(show ObjOk X.prog X.w H s.heap dx (.xd fs) from I.hok dx _ h);obtain⟨od,ho,hl⟩:=sH ns;obtain⟨e1,_⟩:=I.pin (e,oe) (NS _ c.pin);obtain⟨vs,hd⟩:=c.data;refine⟨od,mA,⟨e1,c.cls,?_,?_⟩,r,hl⟩
 .unfold PySem.W.notCls
  rw[hd]
 .rw[c.dict]
  exact ho
def xo(i:Nat)(e dx:Addr)(v:V):TE:=fun σ H Q=>σ[i]? = some (some (.ref e))/\(∃fs,H dx=some (.xd fs))/\Q v H
theorem oP(c:Cau X C e dx oe):CallR X (.builtin "isinstance") fun xs H Q=>∃v b,xs=[.ref e,v]/\(∃fs,H dx=some (.xd fs))/\((∀u,RelV v u->Nf X.K (.ref C) u=some b)\/∃tp ws,v=.ref tp/\H tp=some (.tup ws)/\∀us,Vals ws us->Pw X.K (.ref C) us=some b)/\Q (.bl b) H:=by
 intro pins s σ H xs us Q I r h;obtain⟨v,b,rfl,⟨fs,hx⟩,hk,q⟩:=h;obtain⟨u,w',rfl,ru,rw'⟩:=vals2 r;cases (show u=MK e from ru);obtain⟨od,mA,inst,_,_⟩:=c.inst I hx;have fin:∀tk,EP X pins σ Q (.bool b) { s with toks:=tk }:=fun tk=>⟨.bl _,H,I.tok _,rfl,q⟩
 rcases hk with hk|⟨tp,ws,rfl,ht,hk⟩
 .exact Np c.is.kit I.kIn inst (hk _ rw') (fun z=>nomatch z) fin
 .cases (show w'=MK tp from rw')
  obtain⟨_,its,rv,⟨dd,c',n,sl⟩,e0,e1,m,e2⟩:=(show ObjOk X.prog X.w H s.heap tp (.tup ws) from I.hok tp _ ht);dsimp only at e1 e2;subst e1 e2;exact Ox c.is.kit I.kIn inst e0 (hk _ rv) (fun z=>nomatch z) fin
theorem vF(c:Cau X C e dx oe)(hv:PE X (.Name n p1) (en i))(hg:Gl X "isinstance")(hi:X.mg "isinstance"=none)(hgD:Gl X cn)(hm:X.mg cn=some (.ref D))(hk:Nf X.K (.ref C) (.ref D)=some b)
  (hd:(cn == ("__debug__" : Str))=false:=by decide) (hs:Mw [.Name n p1,.Name cn p2] X.env=[(false,eval (.Name n p1) X.env),(false,eval (.Name cn p2) X.env)]:=by rfl) (hs2:Mw [.Name cn p2] X.env=[(false,eval (.Name cn p2) X.env)]:=by rfl) :
  PE X (.Call (.Name "isinstance" p) [.Name n p1,.Name cn p2] [] pos) (xo i e dx (.bl b)):=by
 refine Internal.D.pe_imp (gK (oP c) hg hi N6 (bj hv (bj (iB (v:=.ref D) hgD hm rfl hd) bJ (by rw[hs2];rfl)) (by rw[hs,hs2])) (by decide) (by decide) (by rw[hs,hs2]) (by rw[hs2];rfl)) fun σ H Q ⟨h0,hx,q⟩=>?_;exact⟨_,h0,.ref D,b,rfl,hx,.inl fun u hu=>by cases (show u=MK D from hu);exact hk,q⟩
theorem C7{i:Nat}{n:Str}{T:String}{b:Bool}{p p1 p2 pos:Pos}(c:Cau X C e dx oe)(hv:PE X (.Name n p1) (en i))(hg:Gl X "isinstance")(hi:X.mg "isinstance"=none)(hgT:Gl X "ValueError")(hm:X.mg "ValueError"=none)(hk:Nf X.K (.ref C) (.type "ValueError")=some b)
  (hs:Mw [.Name n p1,.Name "ValueError" p2] X.env=[(false,eval (.Name n p1) X.env),(false,eval (.Name "ValueError" p2) X.env)]:=by rfl) (hs2:Mw [.Name "ValueError" p2] X.env=[(false,eval (.Name "ValueError" p2) X.env)]:=by rfl) :
  PE X (.Call (.Name "isinstance" p) [.Name n p1,.Name "ValueError" p2] [] pos) (xo i e dx (.bl b)):=by
 refine Internal.D.pe_imp (gK (oP c) hg hi N6 (bj hv (bj (lW (v:=.ty "ValueError") hgT hm (by first|rfl|decide +kernel) rfl) bJ (by rw[hs2];rfl)) (by rw[hs,hs2])) (by decide) (by decide) (by rw[hs,hs2]) (by rw[hs2];rfl)) fun σ H Q ⟨h0,hx,q⟩=>?_;exact⟨_,h0,.ty "ValueError",b,rfl,hx,.inl fun u hu=>by cases (show u=Pb "ValueError" from hu);exact hk,q⟩
def Gj(i:Nat)(e dx:Addr)(v:V)(ws:List V):TE:=fun σ H Q=>σ[i]? = some (some (.ref e))/\(∃fs,H dx=some (.xd fs))/\∀p,H p=none->Q v (upd H p (.tup ws))
theorem C6{Ds:List Addr}(c:Cau X C e dx oe)(hv:PE X (.Name n p1) (en i))(hg:Gl X "isinstance")(hi:X.mg "isinstance"=none)(ht:PA X es ta)(hta:∀σ H Q,Q (Ds.map V.ref) H->ta σ H Q)
  (hz:Ds.length<=100) (hk:Pw X.K (.ref C) (Ds.map MK)=some b) (hs:Mw [.Name n p1,.Tuple es k tpos] X.env=[(false,eval (.Name n p1) X.env),(false,eval (.Tuple es k tpos) X.env)]:=by rfl) (hs2:Mw [.Tuple es k tpos] X.env=[(false,eval (.Tuple es k tpos) X.env)]:=by rfl) :
  PE X (.Call (.Name "isinstance" p) [.Name n p1,.Tuple es k tpos] [] pos) (Gj i e dx (.bl b) (Ds.map V.ref)):=by
 refine Internal.D.pe_imp (gK (oP c) hg hi N6 (bj hv (bj (pS ht) bJ (by rw[hs2];rfl)) (by rw[hs,hs2])) (by decide) (by decide) (by rw[hs,hs2]) (by rw[hs2];rfl)) fun σ H Q ⟨h0,⟨fs,hx⟩,q⟩=>?_;refine⟨_,h0,hta σ H _ ⟨by rw[Nd];exact MP hz (by decide),fun tp htp=>?_⟩⟩;refine⟨.ref tp,b,rfl,⟨fs,by rw[aP (cx hx htp)];exact hx⟩,.inr ⟨tp,_,rfl,bg,fun us hu=>?_⟩,q tp htp⟩;rw[rV hu];exact hk
def tXn(i:Nat)(e dx:Addr)(f:Str):TE:=fun σ H Q=>σ[i]? = some (some (.ref e))/\∃fs v,H dx=some (.xd fs)/\fs.lookup f=some v/\Q v H
theorem Gx(c:Cau X C e dx oe)(hv:PE X (.Name n p1) (en i))(ha:MV X.K (.ref C) f=some none)(hb:NA (.Name n p1) f X.env (eval (.Name n p1) X.env)=eval (.Name n p1) X.env:=by rfl) :
  PE X (.Attribute (.Name n p1) f pos) (tXn i e dx f):=by
 intro pins s σ H Q I h;obtain⟨h0,fs,v,hx,hf,q⟩:=h;refine D3 hb (thn (hv pins s σ H (fun w H'=>w=.ref e/\H'=H) I ⟨_,h0,rfl,rfl⟩) fun u s1 ⟨x,H1,I1,rx,ex,eh⟩=>?_);subst ex eh;cases (show u=MK e from rx);obtain⟨od,mA,inst,r,hl⟩:=c.inst I1 hx;obtain⟨u,hu,ru⟩:=RelO.some_of (v:=v) (o:=mA f) (by rw[←hf];exact r f);obtain⟨hp,g,d,tk,os⟩:=s1;exact Hr c.is.bm c.is.gt c.is.ga I1.kIn inst (PySem.W.findObj_own c.hd ha rfl (by rw[hl,hu])) (AJ ru) ⟨v,H1,I1.tok _,ru,q⟩
end
end XE
namespace XE
open L2 D
theorem okX{P:MA}{w:ML}{K:Frag}{mg:Str->Option Mp}{base:Heap}{x qual:Str}{st:Stmt}{f:Addr}{fd:MS}{N ps:List Str}{k:Nat}{sp:Sp}(F:Fun K x qual st f fd)(S:FnScope N ps (aN st))(len:∀vs H Q E,sp vs H Q E->vs.length=ps.length)
  (hbody:∀(cdv:Mp) (A:Nb) (outer:List Env) (s:Ms) (H:Hp) (vs:List V) (Q:VK) (E:XK),Room k (A.deeper (P1 qual (aN st) s.heap.objs.size f cdv))->sp vs H Q E ->
   ∃t,PSs (eQ (CXx P w) P w K mg base N qual (aN st) f cdv A outer s H E) (dM st) t/\t { nx:=fun _ H'=>Q .non H',rt:=Q } (start N vs) H):FnOk P w K mg base (CXx P w) (k+1) f fd ps sp:=by
 obtain⟨oc,od,kV,doc,pm,an,cdv,ct,osl,rfl,lk,hcd⟩:=F.ex;exact wR lk hcd S len fun A outer s H vs Q E hr hsp=>hbody cdv A outer s H vs Q E hr hsp
def spX(K:Frag)(n:Nat)(C:Addr)(f:Str)(m:List W->Tp->Option (Str×Tp)):Sp:=fun vs H _ E=>∃(O:Addr->Prop) (ts:List Addr) (T:Tp) (ws:List W) (x:Str) (T':Tp),HC K O ts H T/\fL K O ts H vs ws/\ws.length=n/\dO ws=true/\m ws T=some (x,T') /\
 ∀dx H',SameX ts H H'->HC K O ts H' T'->H' dx=some (.xd [(f,.str x)])->E (.ref C) (some dx) H'
theorem Bg{K:Frag}{O:Addr->Prop}{ts:List Addr}{H:Hp}{T:Tp}{vs:List V}{ws:List W}{N:List Str}(hc:HC K O ts H T)(rw':fL K O ts H vs ws)(hn:dO ws=true) :
  RS K O H [] ts O H (start N vs) (ws.map some++MX (N.length-ws.length) none) T:=by
 have hlen:vs.length=ws.length:=Om rw';have noL:∀{i:Nat}{xs:Mo},(ws.map some++MX (N.length-ws.length) none)[i]? = some (some (W.loc xs))->False:=fun {i xs} e=>lu hn (Nj (lj e));refine⟨hc,fun i u e=>?_,fun _ h=>h,hc.own,.refl _ _,fun i xs a e1 _=>(noL e1).elim,fun i j xs ys v e1 _ _ _=>(noL e1).elim,fun f hf=>absurd hf (by simp),by simp[L2.start,hlen]⟩;obtain⟨v,h1,h2⟩:=nW rw' (lj e);refine⟨v,?_,h2⟩;unfold L2.start;have hi:i<vs.length:=(My.mp h1).1;rw[M4 (by simpa using hi),Nq,h1];rfl
theorem zI{K:Frag}{O₀ O:Addr->Prop}{H₀ H:Hp}{F:List ((Addr->Prop)×Hp)}{ts:List Addr}{σ:L2.St}{ρ:Rho}{T:Tp}{n0 i:Nat}{C:Addr}{f x:Str}{E:XK}{D':Ends}(rs:RS K O₀ H₀ F ts O H σ ρ T)(hi:ρ[i]? = some (some (.d (.str x))))(hz:(QD x).length+1000<=Mz)
  (q:∀dx H',SameX ts H₀ H'->HC K O₀ ts H' T->H' dx=some (.xd [(f,.str x)])->E (.ref C) (some dx) H'):vt n0 C E (tXm n0 C f (en i)) D' σ H:=by
 obtain⟨v,h1,h2⟩:=rs.re i _ hi;cases (show Rep K O H v (.str x) from h2);refine⟨.str x,h1,x,rfl,hz,fun a dx ge ha hd ne=>⟨a,dx,rfl,ge,bg,?_⟩⟩;rw[zW (by rw[aP ne.symm];exact ha)];exact q dx _ (rs.same.trans (.new hd _)) (rs.frzH.new hd _) bg
structure XB(K:Frag)(C R:Addr)(f:Str)(Ds:List Addr):Prop where
 c:XCl K C (.ref R::vE)
 r:XCl K R vE
 ri:OU K "__init__" (.ref R)=some none
 kp:Ny K (.ref C)=true
 is:XIs K C
 hd:Qd K C=true
 nn:MV K (.ref C) f=some none
 sa:MV K (.ref C) "__setattr__"=some (some (.builtin "object.__setattr__"))
 rd:PV K R (.type "type")=true
 fc:QK K (.ref R) (.type "type") "__init__"=some (.val (.builtin "ValueError.__init__"))
 kC:Nf K (.ref C) (.ref C)=some true
 kV:Nf K (.ref C) (.type "ValueError")=some true
 kD:Pw K (.ref C) (Ds.map MK)=some false
def ql:Obj->Bool
 |⟨_,_,.dict es _,_⟩=>es.toList.all fun e=>match e.key with
  |.str _ _=>true
  |_=>false
 |_=>false
theorem mz{K:Frag}{C A:Addr}(h1:Pk K A=true)(h2:Qo K (.ref A)=some (.type "type"))(h3:Po K (.ref C) (.ref A)=some false)(h4:(MK C == MK A)=false):Nf K (.ref C) (.ref A)=some false:=by
 unfold Nf UJ;unfold Pk at h1;rw[h4,if_neg MF];simp only[h1,h2,h3,beq_self_eq_true,Bool.and_true,if_true]
theorem Fb{K:Frag}{C:Addr}(h3:Po K (.ref C) (.type "ValueError")=some true):Nf K (.ref C) (.type "ValueError")=some true:=by
 have h4:(MK C == Pb "ValueError")=false:=by simp
 have h5:Uq "ValueError"=true:=by decide +kernel
 unfold Nf UJ;rw[h4,if_neg MF];simp only[h5,h3,if_true]
end XE
namespace XE
open L2
section
variable {X:Cx}{C R:Addr}
end
end XE
namespace XE
open L2 D
def spG(P:V->Prop)(C:Addr)(f:Str):Sp:=fun vs H Q _=>∃a v,vs=[.ref a,v]/\H a=some (.ext (XAt a C none))/\P v /\
 ∀dx,H dx=none->dx≠a->Q .non (upd (upd H dx (.xd [(f,v)])) a (.ext (XAt a C (some dx))))
structure XIniG(A:V->Prop)(P:MA)(w:ML)(K:Frag)(mg:Str->Option Mp)(base:Heap)(C R:Addr)(f:Str)(k:Nat):Prop where
 ex:∃fI fd ps,FnOk P w K mg base CX0 k fI fd ps (spG A C f)/\Binds K fd ps []/\MV K (.ref C) "__init__"=some (some (.ref fI))/\Pd K (.ref fI)=true
 c:XCl K C (.ref R::vE)
 r:XCl K R vE
 ri:OU K "__init__" (.ref R)=some none
 kp:Ny K (.ref C)=true
section
variable {X:Cx}{C R:Addr}{f:Str}{k:Nat}
end
end XE
namespace XE
open L2 D
end XE
namespace D
open L2
section
variable {X:Cx}
end
section
variable {X:Cx}
variable {pos:Pos}{e:Expr}{fe:FE}
end
section
variable {prog:MA}{w:ML}{A:Nb}{E:Mp->Ms->Prop}
end
section
variable {X:Cx}{pos:Pos}
end
section
variable {X:Cx}{pos:Pos}{e:Expr}{fe:FE}
end
section
variable {X:Cx}
end
section
variable {X:Cx}{pos:Pos}{e:Expr}{fe:FE}
end
section
variable {X:Cx}{pos:Pos}
end
def Hk(_ j:Int):Prop:=0<j/\j<18446744073709551616
def gw:Mo->Mo->Option PyData:=iop fun i j=>if 0<j/\j<18446744073709551616 then some (.int (i / j)) else none
theorem GM(h:y.natAbs<18446744073709551616):Builtin.divisionGoesByPylong x y=false:=by
 refine PyProof.noPylong_of_log2 ?_
 by_cases h0:y.natAbs=0
 .rw[h0];decide +kernel
 .have h30:y.natAbs.log2<64:=(Ss h0).mpr h
  omega
section
variable {X:Cx}
theorem BB:OpR X (N9 .FloorDiv) (rI Hk fun i j=>.int (i / j)):=opI fun i j _ _ _ _ _ hc q=>by
 have h1:(0:Int)<j:=hc.1;have h2:j<18446744073709551616:=hc.2;exact floordiv_int (by omega) (by rw[Int.fdiv_eq_ediv_of_nonneg i (by omega)];exact q) (.inl (GM (by omega)))
theorem lX:OpD X (N9 .FloorDiv) gw:=⟨_,BB,pP fun i j d e=>by
 split at e
 .rename_i h;cases e;exact⟨h,fun _ _=>.int _⟩
 .cases e⟩
end
end D
namespace L2
section
variable {prog:MA}{w:ML}{A:Nb}{E:Mp->Ms->Prop}{s:Ms}
end
section
variable {X:Cx}{e:Expr}{te:TE}{x y:Str}{p p' pos pos':Pos}
end
end L2
namespace D
open L2
def GX:Mo->Option Mo
 |.list xs=>some (.list xs.reverse)
 |_=>none
@[simp] theorem J1:GX (.list xs)=some (.list xs.reverse):=rfl
section
variable {X:Cx}{pos pos' p p':Pos}{e:Expr}{f:FE}
end
section
variable {X:Cx}{pos:Pos}
end
def dd:List Str->List Str
 |[]=>[]
 |a::r=>if a∈r then dd r else a::dd r
section
variable {X:Cx}{pos:Pos}
end
end D
namespace L2
section
variable {P:MA}{w:ML}{A:Nb}{E:Mp->Ms->Prop}{s:Ms}
end
def keyV:Mp->Str
 |.str k _=>k
 |_=>""
section
variable {P:MA}{w:ML}{A:Nb}{s:Ms}
end
section
variable {P:MA}{w:ML}{A:Nb}{E:Mp->Ms->Prop}{s:Ms}
end
section
set_option maxHeartbeats 3200000
variable {P:MA}{w:ML}{A:Nb}{E:Mp->Ms->Prop}{s:Ms}
end
section
set_option maxHeartbeats 3200000
variable {P:MA}{w:ML}{A:Nb}{E:Mp->Ms->Prop}{s:Ms}
end
section
variable {P:MA}{w:ML}{A:Nb}{E:Mp->Ms->Prop}{s:Ms}
end
section
variable {P:MA}{w:ML}{A:Nb}{E:Mp->Ms->Prop}{s:Ms}
def TupAt(h:Heap)(q:Addr)(pl:Array Mp):Prop:=∃o n,h.get? q=some o/\o.data=.seq pl n
end
section
variable {P:MA}{w:ML}{A:Nb}{E:Mp->Ms->Prop}{s:Ms}
end
section
variable {P:MA}{w:ML}{A:Nb}{E:Mp->Ms->Prop}{s:Ms}
end
end L2
namespace D
open L2
section
variable {X:Cx}
end
section
variable {P:MA}{w:ML}{A:Nb}{E:Mp->Ms->Prop}{s:Ms}
open PySem.SeqAt in
open PySem.SeqAt in
end
section
variable {X:Cx}{pins:List (Addr×Obj)}{σ:L2.St}{H:Hp}{s:Ms}{O:Addr->Prop}{A:Nb}
end
section
variable {P:MA}{w:ML}{A:Nb}{E:Mp->Ms->Prop}{s:Ms}
end
section
variable {X:Cx}{pos:Pos}
end
section
variable {X:Cx}{pos:Pos}{e:Expr}{fe:FE}
end
section
variable {K:Frag}{O₀:Addr->Prop}{H₀:Hp}{F:List ((Addr->Prop)×Hp)}{ts:List Addr}{O:Addr->Prop}{H H1:Hp}{σ:L2.St}{ρ:Rho}{T T1:Tp}
end
section
variable {X:Cx}{pos:Pos}
end
section
variable {X:Cx}{pos pos2 pos3:Pos}
end
inductive LnT(P:Hp->(Bool->Hp->Prop)->Prop):Hp->(Bool->Hp->Prop)->Prop where
 |done {H:Hp}{Q:Bool->Hp->Prop}:P H Q->LnT P H Q
 |frz {H:Hp}{Q:Bool->Hp->Prop}{a:Addr}{kvs:List (Key×V)}:H a=some (.dK kvs)->(∀o,LnT P (upd H a (.frz o (.dK kvs))) (fun b H2=>H2 a=some (.frz o (.dK kvs))/\Q b (upd H2 a (.dK kvs))))->LnT P H Q
section
variable {X:Cx}{pos pos2 pos3 pos4:Pos}
end
section
variable {X:Cx}{pos:Pos}
end
section
variable {X:Cx}
end
section
variable {X:Cx}{pos:Pos}
end
end D
namespace L2
section
variable {X:Cx}
def PE1(X:Cx)(e:Expr)(t:TE):Prop:=∀(pins:List (Addr×Obj)) (s:Ms) (σ:St) (H:Hp) (Q:VK),Inv X pins σ H s->1<=s.toks->t σ H Q->MU (MW X.prog X.w) X.A (eval e X.env) (EP X pins σ Q) X.xe s
theorem PE.one1(h:PE X e t):PE1 X e t:=fun pins s σ H Q I _ q=>h pins s σ H Q I q
def Ge(to:TE)(y z:Str):TE:=fun σ H Q=>to σ H fun x H1=>∃w:Str,x=.str w/\w.length<=1048576/\z.length<=14/\(y == z)=false/\Q (.str (NO w y z)) H1
theorem zk(ho:PE1 X o to)
  (hbase:NA o "replace" X.env (eval o X.env)=eval o X.env:=by rfl)
  (hfew:((Nv cpos (Mw [.Constant (.str y) j1 p1,.Constant (.str z) j2 p2] X.env)).all (fun x=>!x.1)&&(O5 cpos (Oa [] X.env)).all (fun x=>x.1.isSome)
   && decide (([.Constant (.str y) j1 p1,.Constant (.str z) j2 p2]:List Expr).length+([]:List N1).length+(if ([]:List N1).isEmpty then 0 else 1)<30))=true:=by rfl)
  (hline:(apos.endLine == cpos.line)=true:=by rfl) :
  PE1 X (.Call (.Attribute o "replace" apos) [.Constant (.str y) j1 p1,.Constant (.str z) j2 p2] [] cpos) (Ge to y z):=by
 intro pins s σ H Q I ht h;refine Qi hbase hfew hline rfl ?_;refine wpAny_with_toks ht (Oc (ho pins s σ H _ I ht h) (fun v s1 q1 h1=>?_) fun _ _ e _=>e);obtain⟨x,H1,I1,r1,w,e,z1,z2,z3,q⟩:=q1;subst e;obtain⟨t,rfl⟩:=r1;obtain⟨h2,h3⟩:=mf (T:="str") (x:=.str w) I1 ⟨t,rfl⟩ rfl;refine⟨"str","str.replace",Pg,PySem.F.slot_str_replace,PySem.F.type_str_replace,h2,h3,?_⟩;refine OB (by rfl) (Pt ?_);refine Q2 (PZ (k:=j1) (pos:=p1) ?_);refine Q2 (PZ (k:=j2) (pos:=p2) (Tg ?_));exact SC.replaceW (by show s1.toks≠0;omega) (by show s1.toks+1≠0;omega) (by show s1.toks≠s1.toks+1;omega) z3 z1 z2 fun t' k=>⟨.str _,H1,I1.tok k,⟨t',rfl⟩,q⟩
theorem uM(h:PE1 X e t)(i:∀σ H Q,t' σ H Q->t σ H Q):PE1 X e t':=fun pins s σ H Q I k q=>h pins s σ H Q I k (i σ H Q q)
theorem EU{T:String}{name:Str}{id:String}{r:V->List V->Hp->VK->Prop}{o e:Expr}{es:List Expr}{to:TE}{t:TA}{apos cpos:Pos}(pa:UD T)(slot:Slot T name id)(hty:typeOf (.builtin id)=pure (.type "method_descriptor"))(hm:MtR X id r)(ho:PE1 X o to)(ha:PA X (e::es) t)
  (hbase:NA o name X.env (eval o X.env)=eval o X.env)
  (hfew:((Nv cpos (Mw (e::es) X.env)).all (fun x=>!x.1)&&(O5 cpos (Oa [] X.env)).all (fun x=>x.1.isSome)
   && decide ((e::es).length+([]:List N1).length+(if ([]:List N1).isEmpty then 0 else 1)<30))=true)
  (hline:(apos.endLine == cpos.line)=true) (hs:Mw (e::es) X.env=(false,eval e X.env)::Mw es X.env) (hplain:(Nv cpos (Mw es X.env)).any (·.1)=false) :
  PE1 X (.Call (.Attribute o name apos) (e::es) [] cpos) (tBM X.K T r to t):=by
 intro pins s σ H Q I k h;refine Qi hbase hfew hline rfl (thn (ho pins s σ H _ I k h) fun v s1 q1=>?_);obtain⟨x,H1,I1,r1,ty,q1⟩:=q1;obtain⟨h1,h2⟩:=mf I1 r1 ty;have hA:=ha cpos pins s1 σ H1 _ I1 q1;refine⟨T,id,pa,slot,hty,h1,h2,?_⟩;rw[hs] at hA ⊢;refine OB (by show (false||(Nv cpos (Mw es X.env)).any (·.1))=false;rw[hplain];rfl) (Pt ?_)
 exact thn hA fun us s2 q2=>by
  obtain⟨vs,H2,I2,r2,q2⟩:=q2;exact hm pins s2 σ H2 x vs v us Q I2 r1 r2 q2
def PI1(X:Cx)(tg iter:Expr)(wi:TI):Prop:=
 ∀(pins:List (Addr×Obj)) (s:Ms) (σ:St) (H:Hp) (R:It->Hp->Prop),Inv X pins σ H s->1<=s.toks->wi σ H R ->
  MU (MW X.prog X.w) X.A (eval iter X.env) (fun v s1=>MU (MW X.prog X.w) X.A (pyIter v) (PIE X pins σ tg R) X.xe s1) X.xe s
def iL1(K:Frag)(tl:TE):TI:=fun σ H R=>tl σ H fun x H1=>∃a xs,x=.ref a/\SqL K H1 a xs/\(xs.length<=Mz->R (Itl K a) H1)
theorem Bt(hl:PE1 X l tl):PI1 X tg l (iL1 X.K tl):=by
 intro pins s σ H R I k h;refine thn (hl pins s σ H _ I k h) fun v s1 q1=>?_;obtain⟨x,H1,I1,r1,q1⟩:=q1;obtain⟨a,xs,e,hq,q⟩:=q1;subst e;cases r1;obtain⟨its,rv,p,hz⟩:=I1.list hq;refine Pq p.isList ?_;refine⟨s1.heap.objs.size,[s1.heap.objs.size],_,_,H1,rfl,I1.kept (t':=s1.toks) fun b o e=>Mt _ e,rX a _,⟨_,MZ _ rfl,rfl,rfl⟩,fun b hb=>?_,q hz⟩
 have e:b=s1.heap.objs.size:=by simpa using hb
 subst e;exact I1.fpOk (MC _) (I1.hok.fresh (MC _))
def PS1(X:Cx)(st:Stmt)(t:TS):Prop:=∀(pins:List (Addr×Obj)) (s:Ms) (σ:St) (H:Hp) (D:Ends),Inv X pins σ H s->1<=s.toks->t D σ H->MU (MW X.prog X.w) X.A (exec st X.env) (SP X pins D) X.xe s
def kY(X:Cx)(st:List Stmt)(t:TS):Prop:=∀(pins:List (Addr×Obj)) (s:Ms) (σ:St) (H:Hp) (D:Ends),Inv X pins σ H s->1<=s.toks->t D σ H->MU (MW X.prog X.w) X.A (execs st X.env) (SP X pins D) X.xe s
theorem C2(hp:Rq (MW X.prog X.w) X.A X.env X.xe)(hc:X.calm=true)(hi:PI1 X tg iter wi)(hg:PG X tg g)(hb:PSs X body tb)
  (hs:∀x,NI iter X.env x=pure x:=by intro _;rfl):PS1 X (.For tg iter body [] pos) (xp wi g tb):=by
 intro pins s σ H D I k0 h;refine wpAny_For (thn (hi pins s σ H _ I k0 h) fun v s1 h1=>thn h1 fun itv s2 h2=>?_) hs;obtain⟨it,fp,tn,J,H2,e,I2,T,st2,f2,W,⟨m0,w0⟩,turn⟩:=h2;subst e;have stat:∀{H':Hp},(∀b∈fp,H' b=none)->∀b∈fp,dX X pins H' b:=fun hn b hb=>⟨hn b hb,(f2 b hb).2⟩;refine SD (fun n s'=>∃i σ' H',Inv X pins σ' H' s'/\tn i s'.heap/\(∀b∈fp,H' b=none)/\W i n σ' H') ?_ m0 ⟨0,σ,H2,I2,st2,fun b hb=>(f2 b hb).1,w0⟩;rintro n s3 ⟨i,σ3,H3,I3,st3,fr3,w3⟩
 rcases turn i n σ3 H3 w3 with⟨stop,qn⟩|⟨go,N,hN,step⟩
 .refine NL hp (thn (T.done X rfl rfl rfl hc i pins s3 σ3 H3 X.xe I3 (stat fr3) st3 stop) fun r s4 ⟨hr,I4⟩=>?_)
  subst hr;exact Ov ⟨σ3,H3,I4,qn⟩
 .refine NL hp (thn (T.item X rfl rfl rfl hc i pins s3 σ3 H3 X.xe I3 (stat fr3) st3 go) fun r s4 ⟨u,hr,h4⟩=>?_)
  subst hr;refine NL hp (thn h4 fun _ s5 ⟨x,H5,I5,r5,y5,st5,fr5⟩=>?_);have I5':=I5.pinned (stat fr5) (T.obj _ _ st5);refine NL hp (thn (hg _ s5 σ3 H5 x u _ I5' r5 (step x H5 y5)) fun _ s6 ⟨σ6,H6,I6,q6⟩=>?_);refine NL hp (thn (hb _ s6 σ6 H6 _ I6 q6) fun f s7 q7=>?_)
  have Vk:∀{σ7:St}{H7:Hp},Inv X (pins++gj fp s5.heap) σ7 H7 s7->N σ7 H7->∃m,m<n/\∃i σ' H',Inv X pins σ' H' s7/\tn i s7.heap/\(∀b∈fp,H' b=none)/\W i m σ' H':=fun {σ7 H7} I7 n7=>by
   obtain⟨m',hm,w7⟩:=hN σ7 H7 n7;refine⟨m',hm,i+1,σ7,H7,I7.unpinned,T.keep _ _ _ st5 fun b hb o e=>(I7.pin (b,o) (M3 _ (M3 _ (i4 hb e)))).1,fun b hb=>?_,w7⟩;obtain⟨o,e,d⟩:=T.obj _ _ st5 b hb;exact(I7.pin (b,o) (M3 _ (M3 _ (i4 hb e)))).2.1
  cases f with
  |next=>obtain⟨σ7,H7,I7,n7⟩:=q7;exact Vk I7 n7
  |cont=>obtain⟨σ7,H7,I7,n7⟩:=q7;exact Vk I7 n7
  |brk=>obtain⟨σ7,H7,I7,q7⟩:=q7;exact⟨σ7,H7,I7.unpinned,q7⟩
  |ret v=>obtain⟨x7,σ7,H7,I7,r7,q7⟩:=q7;exact⟨x7,σ7,H7,I7.unpinned,r7,q7⟩
theorem C1(h:PS1 X e t)(i:∀D σ H,t' D σ H->t D σ H):PS1 X e t':=fun pins s σ H D I k q=>h pins s σ H D I k (i D σ H q)
theorem Bp(h:kY X e t)(i:∀D σ H,t' D σ H->t D σ H):kY X e t':=fun pins s σ H D I k q=>h pins s σ H D I k (i D σ H q)
theorem Ag{st:Stmt}{rest:List Stmt}{t u:TS}(h1:PS1 X st t)(h2:PSs X rest u):kY X (st::rest) (qw t u):=by
 intro pins s σ H D I k h;refine PB (thn (h1 pins s σ H { D with nx:=u D } I k h) fun f s1 q=>?_)
 cases f with
 |next=>
  obtain⟨σ',H',I',q⟩:=q;exact h2 pins s1 σ' H' D I' q
 |ret v=>exact q
 |brk=>exact q
 |cont=>exact q
def PT1(X:Cx)(e:Expr)(t:TT):Prop:=∀(pins:List (Addr×Obj)) (s:Ms) (σ:St) (H:Hp) (Q:Bool->Hp->Prop),Inv X pins σ H s->t σ H Q->MU (MW X.prog X.w) X.A (Uw e X.env (eval e X.env)) (fun b s'=>TP X pins σ Q b s'/\(b=false->1<=s'.toks)) X.xe s
theorem uK(h:PT1 X e t)(i:∀σ H Q,t' σ H Q->t σ H Q):PT1 X e t':=fun pins s σ H Q I q=>h pins s σ H Q I (i σ H Q q)
theorem CY(ho:OpR X (M7 op) r)(ha:PE X a ta)(hm:OS op (.Constant (.int i) j p)=false):PT1 X (.Compare a [op] [.Constant (.int i) j p] pos) (qi (tOp r ta (tC (.int i)))):=by
 intro pins s σ H Q I h;refine R8 (thn (ha pins s σ H _ I h) fun v s1 q1=>SX ?_) hm;obtain⟨x,H1,I1,r1,q1⟩:=q1;refine Oc (wpAny_toks_of (n:=1) (by show 1<=s1.toks+1;omega) (ho pins _ σ H1 x (.int i) v _ _ (I1.tok _) r1 ⟨_,rfl⟩ q1)) (fun c s3 q3=>?_) fun _ _ e=>e.2;obtain⟨k3,z,H3,I3,r3,k,e,q3⟩:=q3;subst e;cases r3;exact N0 ⟨⟨H3,I3,q3⟩,fun _=>k3⟩
theorem EH(ha:PT X a tA)(hb:PT1 X b tB'):PT1 X (.BoolOp .Or [a,b] pos) (tOr tA tB'):=by
 intro pins s σ H Q I h;refine TC (thn (ha pins s σ H _ I h) fun c s1 q1=>?_);obtain⟨H1,I1,q1⟩:=q1
 cases c with
 |true=>exact⟨⟨H1,I1,q1⟩,fun z=>nomatch z⟩
 |false=>
  refine TC (thn (hb pins s1 σ H1 Q I1 q1) fun c s2 e=>?_)
  cases c with
  |false=>exact isTrue_or_nil e
  |true=>exact e
def HA(tc:TT)(t u:TS):TS:=fun D σ H=>tc σ H fun b H1=>if b=true then t { D with nx:=fun _ _=>False } σ H1 else u D σ H1
theorem CZ{c:Expr}{a rest:List Stmt}{tc:TT}{t u:TS}{pos:Pos}(hc:PT1 X c tc)(ha:PSs X a t)(hr:kY X rest u):PSs X (.If c a [] pos::rest) (HA tc t u):=by
 intro pins s σ H D I h;refine PB (wpAny_If (thn (hc pins s σ H _ I h) fun d s1 q1=>?_));obtain⟨⟨H1,I1,q1⟩,k⟩:=q1
 cases d with
 |true=>
  refine thn (ha pins s1 σ H1 _ I1 q1) fun f s2 q2=>?_
  cases f with
  |next=>obtain⟨_,_,_,z⟩:=q2;exact z.elim
  |ret v=>exact q2
  |brk=>exact q2
  |cont=>exact q2
 |false=>exact Ov (hr pins s1 σ H1 D I1 (k rfl) q1)
end
end L2
namespace D
open L2
abbrev Stk:=List (List Mo)
theorem BR{α:Type}(xs:List α)(x:α):ixN (xs++[x]).length (-1)=some xs.length:=by
 have h:(-1+((xs.length:Int)+1)).toNat=xs.length:=by omega
 have h1:(1:Int)<=(xs.length:Int)+1:=by omega
 simp[ixN,h,h1]
theorem Cp{α:Type}(xs:List α)(x:α):atI (xs++[x]) (-1)=some x:=by
 unfold atI;rw[BR];simp
abbrev FK:=Rho->Stk->Tp->Option ((Fl×Rho×Stk)×Tp)
def HE(s:Stk):PyData:=.list (s.reverse.map .list)
def onK(i:Nat)(ρ:Rho)(s:Stk):Rho:=ρ.set i (some (.loc (HE s)))
inductive StkAt(K:Frag)(O:Addr->Prop)(H:Hp):List Addr->Stk->Prop where
 |nil:StkAt K O H [] []
 |cons {b:Addr}{bs:List Addr}{vs:List V}{ys:List Mo}{s:Stk}:H b=some (.lst vs)->Reps K O H vs ys->StkAt K O H bs s->StkAt K O H (b::bs) (ys::s)
theorem StkAt.mono{K:Frag}{O O':Addr->Prop}{H H':Hp}(l:Le O H O' H'):∀{bs:List Addr}{s:Stk},StkAt K O H bs s->(∀b∈bs,∀o,H b=some o->H' b=some o)->StkAt K O' H' bs s
 |_,_,.nil,_=>.nil
 |_,_,.cons h r t,k=>.cons (k _ Mq _ h) (r.mono l) (StkAt.mono l t fun b hb=>k b (Mr _ hb))
theorem StkAt.length{K:Frag}{O:Addr->Prop}{H:Hp}:∀{bs:List Addr}{s:Stk},StkAt K O H bs s->bs.length=s.length
 |_,_,.nil=>rfl
 |_,_,.cons _ _ t=>congrArg (· + 1) t.length
theorem StkAt.reps{K:Frag}{O O':Addr->Prop}{H:Hp}(l:Le O H O' H):∀{bs:List Addr}{s:Stk},StkAt K O H bs s->(∀b∈bs,¬O' b)->Reps K O' H (bs.reverse.map V.ref) (s.reverse.map .list)
 |_,_,.nil,_=>.nil
 |_,_,.cons h r t,k=>by
  rw[Og,Og,NV,NV];exact(StkAt.reps l t fun b hb=>k b (Mr _ hb)).append (.cons (.lst (.inl ⟨k _ Mq,.inl h⟩) (r.mono l)) .nil)
structure KS(K:Frag)(O₀:Addr->Prop)(H₀:Hp)(ts:List Addr)(O:Addr->Prop)(H:Hp)(σ:L2.St)(i:Nat)(a:Addr)(bs:List Addr)(s:Stk):Prop where
 sa:σ[i]? = some (some (.ref a))
 ha:H a=some (.lst (bs.reverse.map V.ref))
 nd:(a::bs).Nodup
 ow:∀b∈a::bs,O b/\b∉ts/\H₀ b=none/\¬O₀ b
 st:StkAt K O H bs s
structure RK(K:Frag)(O₀:Addr->Prop)(H₀:Hp)(F:List ((Addr->Prop)×Hp))(ts:List Addr)(O:Addr->Prop)(H:Hp)(σ:L2.St)(ρ:Rho)(T:Tp)(i:Nat)(s:Stk):Prop where
 rs:RS K O₀ H₀ F ts O H σ ρ T
 pd:∀(j:Nat) (w:W),ρ[j]? = some (some w)->∃x,w=.d x
 ui:ρ[i]? = some none
 ks:∃a bs,KS K O₀ H₀ ts O H σ i a bs s
def Hj(K:Frag)(O₀:Addr->Prop)(H₀:Hp)(F:List ((Addr->Prop)×Hp))(ts:List Addr)(i:Nat)(D:Ends)(ρ':Rho)(s':Stk)(T':Tp):Fl->Prop
 |.nx=>∀O' σ' H',RK K O₀ H₀ F ts O' H' σ' ρ' T' i s'->D.nx σ' H'
 |.bk=>∀O' σ' H',RK K O₀ H₀ F ts O' H' σ' ρ' T' i s'->D.bk σ' H'
 |.ct=>∀O' σ' H',RK K O₀ H₀ F ts O' H' σ' ρ' T' i s'->D.ct σ' H'
 |.rt x=>∀v H',SameX ts H₀ H'->HC K O₀ ts H' T'->Rep K O₀ H' v x->D.rt v H'
 |.ro _=>False
inductive LiftKP(K:Frag)(i:Nat)(f:FK)(D:Ends)(σ:L2.St)(H:Hp):Prop where
 |mk (O₀:Addr->Prop) (H₀:Hp) (F:List ((Addr->Prop)×Hp)) (ts:List Addr) (O:Addr->Prop) (ρ:Rho) (s:Stk) (T:Tp) (fl:Fl) (ρ':Rho) (s':Stk) (T':Tp) (rk:RK K O₀ H₀ F ts O H σ ρ T i s) (e:f ρ s T=some ((fl,ρ',s'),T')) (q:Hj K O₀ H₀ F ts i D ρ' s' T' fl):LiftKP K i f D σ H
structure DK(X:Cx)(i:Nat)(s:Stmt)(f:FK):Prop where
 pe:PS X s (LiftKP X.K i f)
structure DKs(X:Cx)(i:Nat)(s:List Stmt)(f:FK):Prop where
 pe:PSs X s (LiftKP X.K i f)
section
variable {K:Frag}{O₀:Addr->Prop}{H₀:Hp}{F:List ((Addr->Prop)×Hp)}{ts:List Addr}{O:Addr->Prop}{H H1:Hp}{σ:L2.St}{ρ:Rho}{T T1:Tp}{i:Nat}{s:Stk}
theorem RS.lay0(r:RS K O₀ H₀ F ts O H σ ρ T)(pd:∀(j:Nat) (w:W),ρ[j]? = some (some w)->∃x,w=.d x)(hp:H p=none)(hm:Mut (some o)):Le O H (fun b=>O b\/b=p) (upd H p o)/\RS K O₀ H₀ F ts (fun b=>O b\/b=p) (upd H p o) σ ρ T:=by
 have le:Le O H (fun b=>O b\/b=p) (upd H p o):=fun a o n e=>by
  have z:a≠p:=cx e hp;exact⟨fun q=>q.elim n z,by rw[aP z];exact e⟩
 refine⟨le,⟨fun b hb=>.inl (r.hc.own b hb),fun b hb=>?_,r.hc.nd,r.hc.len,fun j a ys e1 e2=>?_⟩,fun j w e=>?_,fun b hb=>.inl (r.sub b hb),r.ots,r.same.trans (.new hp _),fun j ys a e1 e2=>?_,fun j k ys zs v e1 e2 e3 e4=>?_,fun f hf=>(r.frs f hf).trans le,r.len⟩
 .by_cases z:b=p
  .subst z;rw[bg];exact hm
  .rw[aP z]
   exact r.hc.trk b (hb.resolve_right z)
 .exact(r.hc.tape j a ys e1 e2).mono (fun o q=>by rw[aP (cx q hp)];exact q) le
 .obtain⟨x,h1,h2⟩:=r.re j w e
  obtain⟨y,rfl⟩:=pd j w e;exact⟨x,h1,Rep.mono le h2⟩
 .obtain⟨y,z⟩:=pd _ _ e1;cases z
 .obtain⟨y,z⟩:=pd _ _ e1;cases z
theorem RS.wr0(r:RS K O₀ H₀ F ts O H σ ρ T)(pd:∀(j:Nat) (w:W),ρ[j]? = some (some w)->∃x,w=.d x)(oa:O a)(nt:a∉ts)(f1:H₀ a=none)(hm:Mut (some o)):Le O H O (upd H a o)/\RS K O₀ H₀ F ts O (upd H a o) σ ρ T:=by
 have le:Le O H O (upd H a o):=fun b o n e=>⟨n,by rw[aP (show b≠a from fun z=>n (by rw[z];exact oa))];exact e⟩;refine⟨le,⟨r.hc.own,fun b hb=>?_,r.hc.nd,r.hc.len,fun j b zs q1 q2=>?_⟩,fun j w e=>?_,r.sub,r.ots,fun b o n e=>?_,fun j ys a e1 e2=>?_,fun j k ys zs v e1 e2 e3 e4=>?_,fun f hf=>(r.frs f hf).trans le,r.len⟩
 .by_cases z:b=a
  .subst z;rw[bg];exact hm
  .rw[aP z];exact r.hc.trk b hb
 .exact(r.hc.tape j b zs q1 q2).mono (fun o q=>by rw[aP (show b≠a from fun z=>nt (by rw[←z];exact Nj q1))];exact q) le
 .obtain⟨x,h1,h2⟩:=r.re j w e
  obtain⟨y,rfl⟩:=pd j w e;exact⟨x,h1,Rep.mono le h2⟩
 .have:=r.same b o n e
  rw[aP (show b≠a from fun z=>by rw[z,f1] at e;cases e)];exact this
 .obtain⟨y,z⟩:=pd _ _ e1;cases z
 .obtain⟨y,z⟩:=pd _ _ e1;cases z
theorem RK.step(r:RK K O₀ H₀ F ts O H σ ρ T i s)(x:SameX ts H H1)(c:HC K O ts H1 T1):RK K O₀ H₀ F ts O H1 σ ρ T1 i s:=by
 obtain⟨rs,pd,ui,a,bs,k⟩:=r;exact⟨rs.step x c,pd,ui,a,bs,k.sa,x _ _ (k.ow a Mq).2.1 k.ha,k.nd,k.ow,k.st.mono (rs.hc.le x) fun b hb o e=>x _ _ (k.ow b (Mr _ hb)).2.1 e⟩
theorem RK.set(r:RK K O₀ H₀ F ts O H σ ρ T i s)(n:j≠i)(rv:Rep K O H v x):RK K O₀ H₀ F ts O H (σ.set j (some v)) (ρ.set j (some (.d x))) T i s:=by
 obtain⟨rs,pd,ui,a,bs,k⟩:=r;refine⟨rs.set (w:=.d x) rv (fun _ z=>nomatch z),fun m w e=>?_,by rw[MD n];exact ui,a,bs,by rw[MD n];exact k.sa,k.ha,k.nd,k.ow,k.st⟩
 by_cases z:j=m
 .subst z
  have hl:j<ρ.length:=by
   have:=(My.mp e).1;simpa using this
  rw[MQ hl] at e;cases e;exact⟨x,rfl⟩
 .rw[MD z] at e
  exact pd m w e
theorem RK.test(r:RK K O₀ H₀ F ts O H σ ρ T i s):∃O',HC K O' [] H []/\RelE K O' [] H σ (onK i ρ s):=by
 obtain⟨rs,pd,ui,a,bs,k⟩:=r;have le:Le O H (fun b=>O b/\b∉bs) H:=fun b o n e=>⟨fun z=>n z.1,e⟩;have hl:i<ρ.length:=(My.mp ui).1;refine⟨fun b=>O b/\b∉bs,⟨fun _ h=>(nomatch h),fun b hb=>rs.hc.trk b hb.1,Qn,rfl,fun j b ys e1 e2=>(by simp at e1)⟩,fun j w e=>?_⟩;unfold onK at e
 by_cases z:i=j
 .subst z
  rw[MQ hl] at e;cases e;refine⟨.ref a,k.sa,a,rfl,⟨(k.ow a Mq).1,(Nc.mp k.nd).1⟩,fun h=>(nomatch h),?_⟩;exact⟨_,k.ha,k.st.reps le fun b hb z=>z.2 hb⟩
 .rw[MD z] at e
  obtain⟨x,h1,h2⟩:=rs.re j w e;obtain⟨y,rfl⟩:=pd j w e;exact⟨x,h1,Rep.mono le h2⟩
theorem RK.tested(r:RK K O₀ H₀ F ts O H σ ρ T i s)(x:SameX [] H H1):RK K O₀ H₀ F ts O H1 σ ρ T i s:=by
 have s1:SameX ts H H1:=fun b o _ e=>x b o (fun h=>nomatch h) e;refine r.step s1 (r.rs.hc.step s1 fun b hb=>?_);obtain⟨u,z⟩:=(r.rs.hc.trk b (r.rs.hc.own b hb)).ex;rw[z];exact x b _ (fun h=>nomatch h) z
theorem RK.less(r:RK K O₀ H₀ (f::F) ts O H σ ρ T i s):RK K O₀ H₀ F ts O H σ ρ T i s:=⟨r.rs.less,r.pd,r.ui,r.ks⟩
theorem RK.more(r:RK K O₀ H₀ F ts O H σ ρ T i s):RK K O₀ H₀ ((O,H)::F) ts O H σ ρ T i s:=⟨r.rs.more,r.pd,r.ui,r.ks⟩
end
theorem uN(pd:∀(j:Nat) (w:W),ρ[j]? = some (some w)->∃x,w=.d x):qS ρ:=fun i ds e=>by
 obtain⟨x,z⟩:=pd _ _ e;cases z
def eN:FK:=fun ρ s T=>some ((.nx,ρ,s),T)
def mS(g:FK)(p:Fl×Rho×Stk)(T:Tp):Option ((Fl×Rho×Stk)×Tp):=match p with
 |(.nx,ρ1,s1)=>g ρ1 s1 T
 |(fl,ρ1,s1)=>some ((fl,ρ1,s1),T)
def cI(f g:FK):FK:=fun ρ s T=>bnd (f ρ s T) (mS g)
def qq(j:Nat)(ρ:Rho)(s:Stk)(w:W)(T:Tp):Option ((Fl×Rho×Stk)×Tp):=match w with
 |.d x=>some ((.nx,ρ.set j (some (.d x)),s),T)
 |_=>none
def jF(j:Nat)(f:FE):FK:=fun ρ s T=>bnd (f ρ T) (qq j ρ s)
def iV(f g:FK)(ρ:Rho)(s:Stk)(T:Tp)(b:Bool)(_:Tp):Option ((Fl×Rho×Stk)×Tp):=if b=true then f ρ s T else g ρ s T
def kIf(i:Nat)(c:FT)(f g:FK):FK:=fun ρ s T=>bnd (c (onK i ρ s) []) (iV f g ρ s T)
def qr(ρ:Rho)(s:Stk)(w:W)(T:Tp):Option ((Fl×Rho×Stk)×Tp):=match w with
 |.d x=>some ((.rt x,ρ,s),T)
 |_=>none
def jG(f:FE):FK:=fun ρ s T=>bnd (f (bX ρ) T) (qr ρ s)
def G0(k:FK)(p:Fl×Rho×Stk)(T:Tp):Option ((Fl×Rho×Stk)×Tp):=match p with
 |(.nx,ρ1,s1)=>k ρ1 s1 T
 |(.ct,ρ1,s1)=>k ρ1 s1 T
 |(.bk,ρ1,s1)=>some ((.nx,ρ1,s1),T)
 |(.rt x,ρ1,s1)=>some ((.rt x,ρ1,s1),T)
 |(.ro x,ρ1,s1)=>some ((.ro x,ρ1,s1),T)
def dq(j:Nat)(body:FK):List Mo->FK
 |[]=>eN
 |d::r=>fun ρ s T=>bnd (body (ρ.set j (some (.d d))) s T) (G0 (dq j body r))
def kFor(j:Nat)(it:FI)(body:FK):FK:=fun ρ s T=>bnd (it ρ T) fun ds T1=>dq j body ds ρ s T1
def jv:FK:=fun ρ s T=>if s.length<100000 then some ((.nx,ρ,[]::s),T) else none
def mT(ρ:Rho)(s:Stk)(k w:W)(T:Tp):Option ((Fl×Rho×Stk)×Tp):=match k,w,s with
 |.d (.int n),.d x,ys::r=>if n = -1/\ys.length<100000 then some ((.nx,ρ,(ys++[x])::r),T) else none
 |_,_,_=>none
def eP(fk fe:FE):FK:=fun ρ s T=>bnd (fk ρ T) fun k T1=>bnd (fe ρ T1) (mT ρ s k)
def kT(j:Nat):FK:=fun ρ s T=>match s with
 |ys::r=>some ((.nx,ρ.set j (some (.d (.tuple ys))),r),T)
 |[]=>none
theorem n6:∀{ρ:Rho},mv ρ=true->∀(j:Nat) (w:W),ρ[j]? = some (some w)->∃x,w=.d x
 |[],_,_,_,e=>by simp at e
 |none::r,h,0,_,e=>by simp at e
 |none::r,h,j+1,w,e=>n6 (ρ:=r) h j w (by simpa using e)
 |some (.d x)::r,h,0,_,e=>by simp at e;exact⟨x,e.symm⟩
 |some (.d x)::r,h,j+1,w,e=>n6 (ρ:=r) h j w (by simpa using e)
 |some (.tp _)::_,h,_,_,_=>by cases h
 |some (.loc _)::_,h,_,_,_=>by cases h
def pZ(ρ:Rho)(o:Option ((Fl×Rho×Stk)×Tp)):Option ((Fl×Rho)×Tp):=match o with
 |some ((.rt x,_,_),T)=>some ((.rt x,ρ),T)
 |_=>none
section
variable {X:Cx}{pos:Pos}{st:Stmt}{rest:List Stmt}{f g:FK}{e:Expr}{fe:FE}{c:FT}{i:Nat}
theorem u4:DKs X i [] eN:=by
 refine⟨?_⟩;refine iA oW fun D σ H=>?_;rintro⟨O₀,H₀,F,ts,O,ρ,s,T,fl,ρ',s',T',rs,e,q⟩;cases e;exact q O σ H rs
theorem oO(h1:DK X i st f)(h2:DKs X i rest g):DKs X i (st::rest) (cI f g):=by
 refine⟨?_⟩;refine iA (f9 h1.pe h2.pe) fun D σ H=>?_;rintro⟨O₀,H₀,F,ts,O,ρ,s,T,fl,ρ',s',T',rs,e,q⟩;obtain⟨⟨fl1,ρ1,s1⟩,T1,e1,e⟩:=aO e;refine⟨O₀,H₀,F,ts,O,ρ,s,T,fl1,ρ1,s1,T1,rs,e1,?_⟩
 cases fl1 with
 |nx=>exact fun O' σ' H' rs'=>⟨O₀,H₀,F,ts,O',ρ1,s1,T1,fl,ρ',s',T',rs',e,q⟩
 |rt x=>cases e;exact q
 |ro x=>cases e;exact q
 |bk=>cases e;exact q
 |ct=>cases e;exact q
theorem eE(h1:DK X i st f):DKs X i [st] f:=⟨iz h1.pe⟩
theorem FJ(hN:X.N.Nodup)(he:DE X e fe)(hj:j≠i:=by decide)(hi:X.N[j]? = some x:=by rfl)(hx:Loc X.env.scope x:=by first|exact Oe rfl|exact NP rfl)(hs:NX e (some (.Name x pos')) pos.line X.env=pure false:=by rfl)
  (hf:X.fn x=true\/X.env.scope.names.lookup x=some .local:=by first|exact .inl rfl|exact .inr rfl|assumption):DK X i (.Assign [.Name x pos'] e pos) (jF j fe):=by
 refine⟨?_⟩;refine cb (gi hN hi hx he.pe hs hf) fun D σ H=>?_;rintro⟨O₀,H₀,F,ts,O,ρ,s,T,fl,ρ',s',T',rk,e,q⟩;obtain⟨w,T1,e1,e⟩:=aO e;refine⟨O,ts,ρ,T,w,T1,rk.rs.hc,rk.rs.re,e1,fun v H1 s1 hc1 r1=>?_⟩
 cases w with
 |d x=>cases e;exact q O _ _ ((rk.step s1 hc1).set hj r1)
 |tp k=>cases e
 |loc xs=>cases e
theorem kJ(hc:DT X ce c)(ha:DKs X i a f)(hb:DKs X i b g):DK X i (.If ce a b pos) (kIf i c f g):=by
 refine⟨?_⟩;refine cb (qj hc.pe ha.pe hb.pe) fun D σ H=>?_;rintro⟨O₀,H₀,F,ts,O,ρ,s,T,fl,ρ',s',T',rk,e,q⟩;obtain⟨b1,T1,e1,e⟩:=aO e;obtain⟨O',c',re'⟩:=rk.test;refine⟨O',[],_,[],b1,T1,c',re',e1,fun H1 s1 hc1=>?_⟩
 cases b1 with
 |true=>exact dG ⟨O₀,H₀,F,ts,O,ρ,s,T,fl,ρ',s',T',rk.tested s1,by simpa[iV] using e,q⟩
 |false=>exact dW ⟨O₀,H₀,F,ts,O,ρ,s,T,fl,ρ',s',T',rk.tested s1,by simpa[iV] using e,q⟩
theorem vX(he:DE X e fe):DK X i (.Return (some e) pos) (jG fe):=by
 refine⟨?_⟩;refine cb (ka he.pe) fun D σ H=>?_;rintro⟨O₀,H₀,F,ts,O,ρ,s,T,fl,ρ',s',T',rk,e,q⟩;obtain⟨w,T1,e1,e⟩:=aO e;obtain⟨c0,re0⟩:=rk.rs.frz (uN rk.pd);refine⟨O₀,ts,bX ρ,T,w,T1,c0,re0,e1,fun v H1 s1 hc1 r1=>?_⟩
 cases w with
 |d x=>cases e;exact q v H1 (rk.rs.same.trans s1) hc1 r1
 |tp k=>cases e
 |loc xs=>cases e
theorem DL(hN:X.N[i]? = some x:=by rfl)(hv:Vis X.env.scope x:=by first|exact Oe rfl|exact NP (Oe rfl)|exact NP (NP rfl))(hd:(x == ("__debug__" : Str))=false:=by decide)
  (hcd:(x == ("__classdict__" : Str))=false:=by decide) 
  (hbase:NA (.Name x p) "append" X.env (eval (.Name x p) X.env)=eval (.Name x p) X.env:=by rfl)
  (hfew:((Nv cpos (Mw [.List [] lpos] X.env)).all (fun x=>!x.1)&&(O5 cpos (Oa [] X.env)).all (fun x=>x.1.isSome)
   && decide (([.List [] lpos]:List Expr).length+([]:List N1).length+(if ([]:List N1).isEmpty then 0 else 1)<30))=true:=by exact jI rfl)
  (hline:(apos.endLine == cpos.line)=true:=by rfl) (hse:Mw [.List [] lpos] X.env=(false,eval (.List [] lpos) X.env)::Mw [] X.env:=by exact bR rfl) (hplain:(Nv cpos (Mw [] X.env)).any (·.1)=false:=by exact cL rfl)
  (hs:NX (.Call (.Attribute (.Name x p) "append" apos) [.List [] lpos] [] cpos) none pos.line X.env=pure false:=by rfl) :
  DK X i (.Expr (.Call (.Attribute (.Name x p) "append" apos) [.List [] lpos] [] cpos) pos) jv:=by
 refine⟨?_⟩;refine cb (lU (ku O6 PP PQ n8 (pv i hN hv hd hcd) (bj (gQ bJ) bJ hse) hbase hfew hline hse hplain) hs) fun D σ H=>?_;rintro⟨O₀,H₀,F,ts,O,ρ,s,T,fl,ρ',s',T',rk,e,q⟩;unfold jv at e;split at e
 .rename_i hz
  cases e;obtain⟨rs,pd,ui,a,bs,k⟩:=rk;refine⟨_,k.sa,.inl ⟨rfl,_,SqL.of k.ha⟩,Oj _,fun b hb=>?_⟩;obtain⟨oa,nta,h0a,n0a⟩:=k.ow a Mq;have nO:=rs.hc.fresh hb;have ntb:b∉ts:=fun z=>nO (rs.hc.own b z)
  have h0b:H₀ b=none:=by
   cases e:H₀ b with
   |none=>rfl
   |some o=>rw[rs.same b o ntb e] at hb;cases hb
  have nab:a≠b:=fun z=>by have:=k.ha;rw[z,hb] at this;cases this
  obtain⟨le1,rs1⟩:=rs.lay0 pd hb (o:=.lst []) (.inl ⟨_,rfl⟩);obtain⟨le2,rs2⟩:=rs1.wr0 (a:=a) pd (.inl oa) nta h0a (o:=.lst (bs.reverse.map V.ref++[.ref b])) (.inl ⟨_,rfl⟩);have hl:=k.st.length
  have hsz:(bs.reverse.map V.ref).length<sizeLine:=by
   rw[Nd,List.length_reverse,hl];exact ME hz (by decide)
  refine⟨a,_,_,rfl,rfl,by rw[aP nab];exact k.ha,hsz,q _ _ _ ⟨rs2,pd,ui,a,b::bs,k.sa,?_,?_,?_,?_⟩⟩
  .rw[bg,Og,NV];rfl
  .have:=Nc.mp k.nd
   refine Nc.mpr ⟨fun z=>?_,Nc.mpr ⟨fun z=>?_,this.2⟩⟩
   .rcases MG.mp z with z|z
    .exact nab z
    .exact this.1 z
   .exact nO (k.ow b (Mr _ z)).1
  .intro c hc
   rcases MG.mp hc with z|z
   .subst z;exact⟨.inl oa,nta,h0a,n0a⟩
   .rcases MG.mp z with z|z
    .subst z;exact⟨.inr rfl,ntb,h0b,fun q=>nO (rs.sub _ q)⟩
    .obtain⟨m1,m2,m3,m4⟩:=k.ow c (Mr _ z)
     exact⟨.inl m1,m2,m3,m4⟩
  .refine .cons (vs:=[]) (by rw[aP (Ot nab),bg]) .nil (k.st.mono (le1.trans le2) fun c hc o e=>?_)
   rw[aP (show c≠a from fun z=>(Nc.mp k.nd).1 (z ▸ hc)),aP (cx e hb)];exact e
 .cases e
theorem p9(hk:DE X ke fk)(he:DE X e fe)(hN:X.N[i]? = some x:=by rfl)(hv:Vis X.env.scope x:=by first|exact Oe rfl|exact NP (Oe rfl)|exact NP (NP rfl))(hd:(x == ("__debug__" : Str))=false:=by decide)
  (hcd:(x == ("__classdict__" : Str))=false:=by decide) (hix:me ke:=by exact fun _ _=>rfl)
  (hbase:NA (.Subscript (.Name x p) ke spos) "append" X.env (eval (.Subscript (.Name x p) ke spos) X.env)=eval (.Subscript (.Name x p) ke spos) X.env:=by rfl)
  (hfew:((Nv cpos (Mw [e] X.env)).all (fun x=>!x.1)&&(O5 cpos (Oa [] X.env)).all (fun x=>x.1.isSome)
   && decide (([e]:List Expr).length+([]:List N1).length+(if ([]:List N1).isEmpty then 0 else 1)<30))=true:=by exact jI rfl)
  (hline:(apos.endLine == cpos.line)=true:=by rfl) (hse:Mw [e] X.env=(false,eval e X.env)::Mw [] X.env:=by exact bR rfl) (hplain:(Nv cpos (Mw [] X.env)).any (·.1)=false:=by exact cL rfl)
  (hs:NX (.Call (.Attribute (.Subscript (.Name x p) ke spos) "append" apos) [e] [] cpos) none pos.line X.env=pure false:=by rfl) :
  DK X i (.Expr (.Call (.Attribute (.Subscript (.Name x p) ke spos) "append" apos) [e] [] cpos) pos) (eP fk fe):=by
 refine⟨?_⟩;refine cb (lU (ku O6 PP PQ n8 (qk ix_list (pv i hN hv hd hcd) hk.pe hix) (bj he.pe bJ hse) hbase hfew hline hse hplain) hs) fun D σ H=>?_;rintro⟨O₀,H₀,F,ts,O,ρ,s,T,fl,ρ',s',T',rk,e,q⟩;obtain⟨wk,T1,e1,e⟩:=aO e;obtain⟨w,T2,e2,e⟩:=aO e;unfold mT at e;split at e
 .rename_i n x0 ys s0 g1 g2
  split at e
  .rename_i hz
   cases e;obtain⟨rfl,hz⟩:=hz;have rk0:=rk;obtain⟨rs,pd,ui,a,bs,k⟩:=rk;refine⟨_,k.sa,O,ts,ρ,T,_,_,rs.hc,rs.re,e1,fun vk H1 s1 hc1 r1=>?_⟩;cases (show Rep X.K O H1 vk (.int _) from r1);have rk1:=rk0.step s1 hc1;have k':KS X.K O₀ H₀ ts O H1 σ i a bs (ys::s0):=⟨k.sa,s1 _ _ (k.ow a Mq).2.1 k.ha,k.nd,k.ow,k.st.mono (rs.hc.le s1) fun b hb o e=>s1 _ _ (k.ow b (Mr _ hb)).2.1 e⟩
   cases hst:k'.st with
   |@cons b bs' vs _ _ hb rb st'=>
   have nt:b∉ts:=(k.ow b (by simp)).2.1;refine⟨a,_,_,.ref b,rfl,rfl,SqL.of k'.ha,?_,.inl ⟨rfl,vs,SqL.of hb⟩,O,ts,ρ,T1,_,_,hc1,rk1.rs.re,e2,fun u H2 s2 hc2 r2=>?_⟩
   .rw[Og,NV]
    exact Cp _ _
   .have rk2:=rk1.step s2 hc2
    obtain⟨ob,_,h0b,n0b⟩:=k.ow b (by simp);obtain⟨le3,rs3⟩:=rk2.rs.wr0 (a:=b) pd ob nt h0b (o:=.lst (vs++[u])) (.inl ⟨_,rfl⟩);have hl:=rb.length;have nab:a≠b:=fun z=>(Nc.mp k.nd).1 (by rw[z];exact Mq);refine⟨b,vs,u,rfl,rfl,s2 _ _ nt hb,by rw[hl];exact ME hz (by decide),q _ _ _ ⟨rs3,pd,ui,a,b::bs',k.sa,?_,k.nd,k.ow,?_⟩⟩
    .rw[aP nab];exact s2 _ _ (k.ow a Mq).2.1 k'.ha
    .refine .cons bg (((rb.mono (hc1.le s2)).append (.cons r2 .nil)).mono le3) (st'.mono ((hc1.le s2).trans le3) fun c hc o e=>?_)
     have n:c≠b:=fun z=>(Nc.mp (Nc.mp k.nd).2).1 (z ▸ hc);rw[aP n];exact s2 _ _ (k.ow c (by simp[hc])).2.1 e
  .cases e
 .cases e
theorem FM(hg:Gl X t)(hm:X.mg t=none)(hb:OA t=some (.type "tuple"))(hNd:X.N.Nodup)(hj:j≠i:=by decide)(hN:X.N[i]? = some x:=by rfl)(hv:Vis X.env.scope x:=by first|exact Oe rfl|exact NP (Oe rfl)|exact NP (NP rfl))(hd:(x == ("__debug__" : Str))=false:=by decide)
  (hcd:(x == ("__classdict__" : Str))=false:=by decide)
  (hi:X.N[j]? = some y:=by rfl) (hy:Loc X.env.scope y:=by first|exact Oe rfl|exact NP rfl)
  (hn:t≠"__name__":=by decide) (hdb:(t == ("__debug__" : Str))=false:=by decide)
  (hbase:NA (.Name x p) "pop" X.env (eval (.Name x p) X.env)=eval (.Name x p) X.env:=by rfl) (hline:(apos.endLine == cpos.line)=true:=by rfl)
  (hse:Mw [.Call (.Attribute (.Name x p) "pop" apos) [] [] cpos] X.env=(false,eval (.Call (.Attribute (.Name x p) "pop" apos) [] [] cpos) X.env)::Mw [] X.env:=by exact bR rfl) (hpl:(Nv dpos (Mw [] X.env)).any (·.1)=false:=by exact cL rfl)
  (hs:NX (.Call (.Name t tp1) [.Call (.Attribute (.Name x p) "pop" apos) [] [] cpos] [] dpos) (some (.Name y pos')) pos.line X.env=pure false:=by rfl)
  (hf:X.fn y=true\/X.env.scope.names.lookup y=some .local:=by first|exact .inl rfl|exact .inr rfl|assumption) :
  DK X i (.Assign [.Name y pos'] (.Call (.Name t tp1) [.Call (.Attribute (.Name x p) "pop" apos) [] [] cpos] [] dpos) pos) (kT j):=by
 refine⟨?_⟩;refine cb (gi hNd hi hy (lq qW hg hm hb (bj (ET O6 PySem.F.slot_list_pop PySem.F.type_list_pop E6 (pv i hN hv hd hcd) hbase hline) bJ hse) hn hdb hse hpl) hs hf) fun D σ H=>?_;rintro⟨O₀,H₀,F,ts,O,ρ,s,T,fl,ρ',s',T',rk,e,q⟩
 cases s with
 |nil=>cases e
 |cons ys s0=>
  cases e;obtain⟨rs,pd,ui,a,bs,k⟩:=rk
  cases hst:k.st with
  |@cons b bs' vs ys s0 hb rb st'=>
  obtain⟨oa,nta,h0a,n0a⟩:=k.ow a Mq;obtain⟨ob,ntb,h0b,n0b⟩:=k.ow b (by simp);have nab:a≠b:=fun z=>(Nc.mp k.nd).1 (by rw[z];exact Mq)
  have hdl:(((b::bs').reverse.map V.ref).dropLast)=bs'.reverse.map V.ref:=by
   rw[Og,NV]
   exact Su
  refine⟨_,k.sa,.inl ⟨rfl,_,SqL.of k.ha⟩,a,_,.ref b,rfl,rfl,k.ha,?_,b,vs,rfl,.inl ⟨SqL.of (by rw[aP (Ot nab)];exact hb),fun l hl=>?_⟩⟩
  .rw[Og,NV]
   simp
  .rw[hdl] at hl ⊢
   obtain⟨le1,rs1⟩:=rs.wr0 (a:=a) pd oa nta h0a (o:=.lst (bs'.reverse.map V.ref)) (.inl ⟨_,rfl⟩);have sx:SameX ts (upd H a (.lst (bs'.reverse.map V.ref))) (upd (upd H a (.lst (bs'.reverse.map V.ref))) l (.tup vs)):=.new hl _
   have rk1:RK X.K O₀ H₀ F ts O (upd H a (.lst (bs'.reverse.map V.ref))) σ ρ T i s':=by
    refine⟨rs1,pd,ui,a,bs',k.sa,bg,?_,?_,st'.mono le1 fun c hc o e=>?_⟩
    .have:=Nc.mp k.nd
     exact Nc.mpr ⟨fun z=>this.1 (Mr _ z),(Nc.mp this.2).2⟩
    .intro c hc
     rcases MG.mp hc with z|z
     .subst z;exact⟨oa,nta,h0a,n0a⟩
     .exact k.ow c (by simp[z])
    .rw[aP (show c≠a from fun z=>(Nc.mp k.nd).1 (z ▸ Mr _ hc))]
     exact e
   exact q _ _ _ ((rk1.step sx (rk1.rs.hc.new hl _)).set hj (rk1.rs.hc.newT hl (rb.mono le1)))
end
section
variable {ρ:Rho}{s:Stk}{T:Tp}{f g:FK}{fe fk:FE}{c:FT}{i j:Nat}
@[simp] theorem IZ:eN ρ s T=some ((.nx,ρ,s),T):=rfl
@[simp] theorem pq:cI f g ρ s T=bnd (f ρ s T) (mS g):=rfl
@[simp] theorem oM:mS g (.nx,ρ,s) T=g ρ s T:=rfl
@[simp] theorem IW:mS g (.rt x,ρ,s) T=some ((.rt x,ρ,s),T):=rfl
@[simp] theorem J8:jF j fe ρ s T=bnd (fe ρ T) (qq j ρ s):=rfl
@[simp] theorem IV:qq j ρ s (.d x) T=some ((.nx,ρ.set j (some (.d x)),s),T):=rfl
@[simp] theorem Lx:kIf i c f g ρ s T=bnd (c (onK i ρ s) []) (iV f g ρ s T):=rfl
@[simp] theorem Kb:iV f g ρ s T b T'=if b=true then f ρ s T else g ρ s T:=rfl
@[simp] theorem J9:jG fe ρ s T=bnd (fe (bX ρ) T) (qr ρ s):=rfl
@[simp] theorem IX:qr ρ s (.d x) T=some ((.rt x,ρ,s),T):=rfl
@[simp] theorem IY:jv ρ s T=if s.length<100000 then some ((.nx,ρ,[]::s),T) else none:=rfl
@[simp] theorem Kc:eP fk fe ρ s T=bnd (fk ρ T) fun k T1=>bnd (fe ρ T1) (mT ρ s k):=rfl
@[simp] theorem Ja:mT ρ (ys::s) (.d (.int n)) (.d x) T=if n = -1/\ys.length<100000 then some ((.nx,ρ,(ys++[x])::s),T) else none:=rfl
@[simp] theorem Ka:kT j ρ (ys::s) T=some ((.nx,ρ.set j (some (.d (.tuple ys))),s),T):=rfl
end
structure DE1(X:Cx)(e:Expr)(f:FE):Prop where
 pe:PE1 X e (lift X.K f)
structure DI1(X:Cx)(tg e:Expr)(f:FI):Prop where
 pe:PI1 X tg e (jt X.K f)
structure DT1(X:Cx)(e:Expr)(f:FT):Prop where
 pe:PT1 X e (liftT X.K f)
structure DK1(X:Cx)(i:Nat)(s:Stmt)(f:FK):Prop where
 pe:PS1 X s (LiftKP X.K i f)
structure DKs1(X:Cx)(i:Nat)(s:List Stmt)(f:FK):Prop where
 pe:kY X s (LiftKP X.K i f)
section
variable {X:Cx}
theorem DE.one1(h:DE X e f):DE1 X e f:=⟨h.pe.one1⟩
def gW(y z:Str):Mo->Option Mo
 |.str w=>if w.length<=1048576/\z.length<=14/\(y == z)=false then some (.str (NO w y z)) else none
 |_=>none
theorem rl(ho:DE1 X o fo)
  (hbase:NA o "replace" X.env (eval o X.env)=eval o X.env:=by rfl)
  (hfew:((Nv cpos (Mw [.Constant (.str y) j1 p1,.Constant (.str z) j2 p2] X.env)).all (fun x=>!x.1)&&(O5 cpos (Oa [] X.env)).all (fun x=>x.1.isSome)
   && decide (([.Constant (.str y) j1 p1,.Constant (.str z) j2 p2]:List Expr).length+([]:List N1).length+(if ([]:List N1).isEmpty then 0 else 1)<30))=true:=by rfl)
  (hline:(apos.endLine == cpos.line)=true:=by rfl) :
  DE1 X (.Call (.Attribute o "replace" apos) [.Constant (.str y) j1 p1,.Constant (.str z) j2 p2] [] cpos) (fUn (gW y z) fo):=by
 refine⟨uM (zk ho.pe hbase hfew hline) fun σ H Q=>?_⟩;rintro⟨O,ts,ρ,T,w,T',hc,re,e,q⟩;obtain⟨w1,T1,e1,e⟩:=aO e;obtain⟨x,d,h1,h2,rfl,rfl⟩:=jj e;refine⟨O,ts,ρ,T,w1,T',hc,re,e1,fun v1 H1 s1 hc1 r1=>?_⟩;unfold gW at h2;split at h2
 .rename_i z0
  split at h2
  .rename_i hz
   cases h2;cases oo h1;cases (show Rep X.K O H1 v1 _ from r1);exact⟨z0,rfl,hz.1,hz.2.1,hz.2.2,q _ H1 s1 hc1 (.str _)⟩
  .cases h2
 .cases h2
theorem AQ(ho:DE1 X o fo)(he:DE X e fe)
  (hbase:NA o "split" X.env (eval o X.env)=eval o X.env:=by rfl)
  (hfew:((Nv cpos (Mw [e] X.env)).all (fun x=>!x.1)&&(O5 cpos (Oa [] X.env)).all (fun x=>x.1.isSome)
   && decide (([e]:List Expr).length+([]:List N1).length+(if ([]:List N1).isEmpty then 0 else 1)<30))=true:=by exact jI rfl)
  (hline:(apos.endLine == cpos.line)=true:=by rfl) (hse:Mw [e] X.env=(false,eval e X.env)::Mw [] X.env:=by exact bR rfl) (hplain:(Nv cpos (Mw [] X.env)).any (·.1)=false:=by exact cL rfl) :
  DE1 X (.Call (.Attribute o "split" apos) [e] [] cpos) (af j6 fo fe):=by
 refine⟨?_⟩;refine uM (EU Pg Ph PySem.F.type_str_split BF ho.pe (bj he.pe bJ hse) hbase hfew hline hse hplain) fun σ H Q=>?_;rintro⟨O,ts,ρ,T,w,T',hc,re,e,q⟩;obtain⟨w1,T1,e1,e⟩:=aO e;obtain⟨w2,T2,e2,e⟩:=aO e;obtain⟨x,y,d,h1,h2,h3,rfl,rfl⟩:=ji e;unfold j6 at h3;split at h3
 .rename_i z y
  split at h3
  .rename_i hz
   cases h3;cases oo h1;refine⟨O,ts,ρ,T,_,T1,hc,re,e1,fun v1 H1 s1 hc1 r1=>?_⟩;cases (show Rep X.K O H1 v1 _ from r1);refine⟨rfl,O,ts,ρ,T1,w2,T',hc1,re.mono hc s1,e2,fun v2 H2 s2 hc2 r2=>?_⟩;cases (hc2.view r2 h2).str;exact⟨z,y,rfl,rfl,hz.1,hz.2,fun l hl=>q _ _ (s1.trans (s2.trans (.new hl _))) (hc2.new hl _) (hc2.newL hl (lm _))⟩
  .cases h3
 .cases h3
def mG(f:FE):FI:=fun ρ T=>bnd (f ρ T) fun w T1=>match w with
 |.d (.list xs)=>some (xs,T1)
 |_=>none
theorem B8(h:DE1 X e f):DI1 X tg e (mG f):=by
 refine⟨fun pins s σ H R I k q0=>Bt h.pe pins s σ H R I k ?_⟩;obtain⟨O,ts,ρ,T,ds,T',hc,re,e,q⟩:=q0;obtain⟨w1,T1,e1,e⟩:=aO e;refine⟨O,ts,ρ,T,w1,T1,hc,re,e1,fun v1 H1 s1 hc1 r1=>?_⟩;split at e
 .rename_i xs
  cases e;have rr:Rep X.K O H1 v1 (.list _):=r1
  cases rr with
  |lst t r=>exact⟨_,_,rfl,t.sq,fun hz=>q _ H1 s1 hc1 (.lst t r) (by rw[←r.length];exact hz)⟩
 .cases e
theorem DG(ho:OpD X (M7 op) g)(ha:DE X a fa)(hm:OS op (.Constant (.int i) j p)=false:=by first|exact pU _|with_unfolding_all rfl):DT1 X (.Compare a [op] [.Constant (.int i) j p] pos) (ar (af g fa (fC (.int i)))):=by
 refine⟨?_⟩;obtain⟨r,hr,snd⟩:=ho;refine uK (CY hr ha.pe hm) fun σ H Q h=>?_;have h1:=jY snd (oS h);obtain⟨O,ts,ρ,T,w,T',hc,re,e,q⟩:=h1;exact⟨O,ts,ρ,T,w,T',hc,re,e,fun v H' s c r=>iF (fun _ _=>.int i) _ _ _ (q v H' s c r)⟩
theorem FD(ha:DT X a ta)(hb:DT1 X b tb):DT1 X (.BoolOp .Or [a,b] pos) (bB ta tb):=by
 refine⟨?_⟩;refine uK (EH ha.pe hb.pe) fun σ H Q=>?_;rintro⟨O,ts,ρ,T,b,T',hc,re,e,q⟩;obtain⟨b1,T1,e1,e⟩:=aO e;refine⟨O,ts,ρ,T,b1,T1,hc,re,e1,fun H1 s1 hc1=>?_⟩
 cases b1 with
 |false=>exact dW ⟨O,ts,ρ,T1,b,T',hc1,re.mono hc s1,by simpa using e,fun H2 s2 hc2=>q H2 (s1.trans s2) hc2⟩
 |true=>
  have e':some (true,T1)=some (b,T'):=by simpa using e
  cases e';exact dG (q H1 s1 hc1)
variable {i:Nat}{f g:FK}
def kNo(f:FK):FK:=fun ρ s T=>match f ρ s T with
 |some ((.nx,_,_),_)=>none
 |o=>o
theorem DH{ce:Expr}{c:FT}{a rest:List Stmt}{pos:Pos}(hc:DT1 X ce c)(ha:DKs X i a f)(hr:DKs1 X i rest g):DKs X i (.If ce a [] pos::rest) (cI (kIf i c (kNo f) eN) g):=by
 refine⟨?_⟩;refine iA (CZ hc.pe ha.pe hr.pe) fun D σ H=>?_;rintro⟨O₀,H₀,F,ts,O,ρ,s,T,fl,ρ',s',T',rk,e,q⟩;obtain⟨⟨fl1,ρ1,s1⟩,T1,e0,e⟩:=aO e;obtain⟨b1,T2,e1,e2⟩:=aO e0;obtain⟨O',c',re'⟩:=rk.test;refine⟨O',[],_,[],b1,T2,c',re',e1,fun H1 s1' hc1=>?_⟩
 cases b1 with
 |true=>
  refine dG ?_
  have e3:kNo f ρ s T=some ((fl1,ρ1,s1),T1):=by simpa[iV] using e2
  unfold kNo at e3;split at e3
  .cases e3
  .rename_i hne
   refine⟨O₀,H₀,F,ts,O,ρ,s,T,fl1,ρ1,s1,T1,rk.tested s1',e3,?_⟩
   cases fl1 with
   |nx=>exact absurd e3 (hne _ _ _)
   |rt x=>cases e;exact q
   |ro x=>cases e;exact q
   |bk=>cases e;exact q
   |ct=>cases e;exact q
 |false=>
  refine dW ?_
  have e3:some ((Fl.nx,ρ,s),T)=some ((fl1,ρ1,s1),T1):=by simpa[iV] using e2
  cases e3;exact⟨O₀,H₀,F,ts,O,ρ,s,T,fl,ρ',s',T',rk.tested s1',e,q⟩
theorem AO{st:Stmt}{rest:List Stmt}(h1:DK1 X i st f)(h2:DKs X i rest g):DKs1 X i (st::rest) (cI f g):=by
 refine⟨?_⟩;refine Bp (Ag h1.pe h2.pe) fun D σ H=>?_;rintro⟨O₀,H₀,F,ts,O,ρ,s,T,fl,ρ',s',T',rs,e,q⟩;obtain⟨⟨fl1,ρ1,s1⟩,T1,e1,e⟩:=aO e;refine⟨O₀,H₀,F,ts,O,ρ,s,T,fl1,ρ1,s1,T1,rs,e1,?_⟩
 cases fl1 with
 |nx=>exact fun O' σ' H' rs'=>⟨O₀,H₀,F,ts,O',ρ1,s1,T1,fl,ρ',s',T',rs',e,q⟩
 |rt x=>cases e;exact q
 |ro x=>cases e;exact q
 |bk=>cases e;exact q
 |ct=>cases e;exact q
theorem DM(hN:X.N.Nodup)(hi:DI1 X (.Name x tpos) iter it)(hb:DKs X i body f)(hj:j≠i:=by decide)(hix:X.N[j]? = some x:=by rfl)(hx:Loc X.env.scope x:=by first|exact Oe rfl|exact NP rfl)
  (hf:X.fn x=true\/X.env.scope.names.lookup x=some .local:=by first|exact .inl rfl|exact .inr rfl|assumption) (hp:Rq (MW X.prog X.w) X.A X.env X.xe:=by exact RZ) (hc:X.calm=true:=by rfl)
  (hs:∀x,NI iter X.env x=pure x:=by intro _;rfl):DK1 X i (.For (.Name x tpos) iter body [] pos) (kFor j it f):=by
 refine⟨?_⟩;refine C1 (C2 hp hc hi.pe (lV hN hix hx hf) hb.pe hs) fun D σ H=>?_;rintro⟨O₀,H₀,F,ts,O,ρ,s,T,fl,ρ',s',T',rk,e,q⟩;obtain⟨ds,T1,e1,e⟩:=aO e;refine⟨O,ts,ρ,T,ds,T1,rk.rs.hc,rk.rs.re,e1,fun J H1 s1 hc1 ok hz=>?_⟩;refine⟨fun k m σ H=>m=ds.length-k/\k<=ds.length/\∃O' ρk sk Tk,RK X.K O₀ H₀ ((O,H1)::F) ts O' H σ ρk Tk i sk/\dq j f (ds.drop k) ρk sk Tk=some ((fl,ρ',s'),T'),⟨_,rfl,Oj _,O,ρ,s,T1,(rk.step s1 hc1).more,e⟩,?_⟩;rintro k m σ2 H2 ⟨rfl,hk,O',ρk,sk,Tk,rk2,ek⟩;obtain⟨k1,k2,k3⟩:=ok O' H2 (rk2.rs.frs _ Mq)
 by_cases hlt:k<ds.length
 .refine .inr ⟨k1 k hlt,fun σ3 H3=>∃O' ρk sk Tk,RK X.K O₀ H₀ ((O,H1)::F) ts O' H3 σ3 ρk Tk i sk/\dq j f (ds.drop (k+1)) ρk sk Tk=some ((fl,ρ',s'),T'),fun σ3 H3 n=>⟨ds.length-(k+1),by omega,rfl,hlt,n⟩,fun v H3 y=>?_⟩
  obtain⟨e2,d,hd,rd⟩:=k3 k v H3 y hlt;subst e2
  have hdr:ds.drop k=d::ds.drop (k+1):=by
   rw[PM hlt];have:=(My.mp hd).2;rw[this]
  rw[hdr] at ek;obtain⟨⟨fl1,ρ1,s1'⟩,T3,e3,ek⟩:=aO ek;refine⟨O₀,H₀,(O,H1)::F,ts,O',_,sk,Tk,fl1,ρ1,s1',T3,rk2.set (j:=j) (x:=d) hj rd,e3,?_⟩
  cases fl1 with
  |nx=>exact fun O3 σ3 H3 rs3=>⟨O3,ρ1,s1',T3,rs3,ek⟩
  |ct=>exact fun O3 σ3 H3 rs3=>⟨O3,ρ1,s1',T3,rs3,ek⟩
  |bk=>
   cases ek;exact fun O3 σ3 H3 rs3=>q O3 σ3 H3 rs3.less
  |rt x=>
   cases ek;exact q
  |ro x=>
   cases ek;exact q
 .have e:k=ds.length:=by omega
  subst e;rw[Of (MC _)] at ek;cases ek;exact .inl ⟨k2,q O' σ2 H2 rk2.less⟩
def kB:FK:=fun ρ s T=>match s.reverse with
 |ys::_=>some ((.rt (.list ys),ρ,s),T)
 |[]=>none
theorem StkAt.last{K:Frag}{O:Addr->Prop}{H:Hp}:∀{bs:List Addr}{s:Stk},StkAt K O H bs s->∀{ys:List Mo}{r:Stk},s.reverse=ys::r->∃b vs bs',bs.reverse=b::bs'/\b∈bs/\H b=some (.lst vs)/\Reps K O H vs ys:=by
 intro bs s h
 induction h with
 |nil=>intro ys r e;cases e
 |@cons b bs vs ys0 s hb rb st ih=>
  intro ys r e;rw[Og] at e
  cases hs:s.reverse with
  |nil=>
   rw[hs] at e;have hl:=st.length
   have:bs=[]:=by
    have:s.length=0:=by have:=congrArg QA hs;simpa using this
    exact List.eq_nil_of_length_eq_zero (by omega)
   subst this;cases e;exact⟨b,vs,[],rfl,Mq,hb,rb⟩
  |cons y r'=>
   rw[hs] at e;obtain⟨b',vs',bs',h1,h2,h3,h4⟩:=ih hs
   have:y=ys:=by cases e;rfl
   subst this;exact⟨b',vs',bs'++[b],by rw[Og,h1];rfl,Mr _ h2,h3,h4⟩
theorem DJ(hN:X.N[i]? = some x:=by rfl)(hv:Vis X.env.scope x:=by first|exact Oe rfl|exact NP (Oe rfl)|exact NP (NP rfl))(hd:(x == ("__debug__" : Str))=false:=by decide)(hcd:(x == ("__classdict__" : Str))=false:=by decide)
  (hix:me (.Constant (.int 0) kj kp):=by exact fun _ _=>rfl):DK X i (.Return (some (.Subscript (.Name x p) (.Constant (.int 0) kj kp) spos)) pos) kB:=by
 refine⟨?_⟩;refine cb (ka (qk ix_list (pv i hN hv hd hcd) vG hix)) fun D σ H=>?_;rintro⟨O₀,H₀,F,ts,O,ρ,s,T,fl,ρ',s',T',rk,e,q⟩;unfold kB at e;split at e
 .rename_i ys r hs
  cases e;obtain⟨rs,pd,ui,a,bs,k⟩:=rk;obtain⟨b,vs,bs',e1,hb,hH,hr⟩:=k.st.last hs;obtain⟨ob,ntb,h0b,n0b⟩:=k.ow b (Mr _ hb);obtain⟨c0,re0⟩:=rs.frz (uN pd);have le:Le O H O₀ H:=fun a o n e=>⟨fun z=>n (rs.sub a z),e⟩;refine⟨_,k.sa,a,_,0,.ref b,rfl,rfl,SqL.of k.ha,?_,q (.ref b) H rs.same c0 (.lst (.inl ⟨n0b,.inl hH⟩) (hr.mono le))⟩;rw[e1];simp[atI,ixN]
 .cases e
def jm(i:Nat)(g:FK):FS:=fun ρ T=>if mv ρ=true/\i<ρ.length/\(ρ[i]?.join).isNone=true then pZ ρ (g ρ [[]] T) else none
theorem AN{x:Str}{rest:List Stmt}{lpos lpos2 pos' pos:Pos}(hN:X.N.Nodup)(hr:DKs X i rest g)(hi:X.N[i]? = some x:=by rfl)(hx:Loc X.env.scope x:=by first|exact Oe rfl|exact NP rfl)
  (hse:Mw [.List [] lpos2] X.env=(false,eval (.List [] lpos2) X.env)::Mw [] X.env:=by exact bR rfl) (hs:NX (.List [.List [] lpos2] lpos) (some (.Name x pos')) pos.line X.env=pure false:=by rfl) (hf:X.fn x=true\/X.env.scope.names.lookup x=some .local:=by first|exact .inl rfl|exact .inr rfl|assumption) :
  DSs X (.Assign [.Name x pos'] (.List [.List [] lpos2] lpos) pos::rest) (jm i g):=by
 refine⟨?_⟩;refine iA (f9 (gi hN hi hx (gQ (bj (gQ bJ) bJ hse)) hs hf) hr.pe) fun D σ H=>?_;rintro⟨O₀,H₀,F,ts,O,ρ,T,fl,ρ',T',rs,e,q⟩;unfold jm at e;split at e
 .rename_i hz
  obtain⟨h1,h2,h3⟩:=hz;have pd:=n6 h1
  have ui:ρ[i]? = some none:=by
   rw[NB h2] at h3 ⊢
   cases hh:ρ[i] with
   |none=>rfl
   |some w=>rw[hh] at h3;cases h3
  unfold pZ at e;split at e
  .rename_i x0 ρ1 s1 T1 h4
   cases e;refine⟨Oj _,fun b hb=>⟨show (1:Nat)<=Mz by decide,fun p hp=>?_⟩⟩;obtain⟨le1,rs1⟩:=rs.lay0 pd hb (o:=.lst []) (.inl ⟨_,rfl⟩);obtain⟨le2,rs2⟩:=rs1.lay0 pd hp (o:=.lst [.ref b]) (.inl ⟨_,rfl⟩)
   have hs':i<σ.length:=by rw[rs.len];exact h2
   have nOb:=rs.hc.fresh hb;have nOp:=rs1.hc.fresh hp;have ntb:b∉ts:=fun z=>nOb (rs.hc.own b z);have ntp:p∉ts:=fun z=>nOp (rs1.hc.own p z)
   have h0:∀c,c∉ts->(∀o,H₀ c=some o->False)->H₀ c=none:=fun c _ h=>by
    cases e:H₀ c with
    |none=>rfl
    |some o=>exact(h o e).elim
   have h0b:H₀ b=none:=h0 b ntb fun o e=>by rw[rs.same b o ntb e] at hb;cases hb
   have h0p:H₀ p=none:=h0 p ntp fun o e=>by rw[rs1.same p o ntp e] at hp;cases hp
   have nbp:b≠p:=fun z=>by rw[←z,bg] at hp;cases hp
   have npb:p≠b:=fun z=>nbp z.symm;refine⟨O₀,H₀,F,ts,_,ρ,[[]],T,.rt x0,ρ1,s1,_,⟨⟨rs2.hc,fun j w e=>?_,rs2.sub,rs2.ots,rs2.same,fun j ys b q1 q2=>?_,fun j k ys zs v q1 q2 q3 q4=>?_,rs2.frs,by simp[rs.len]⟩,pd,ui,p,[b],MQ hs',bg,by simp[npb],fun c hc=>?_,.cons (vs:=[]) (by rw[aP nbp,bg]) .nil .nil⟩,h4,q⟩
   .obtain⟨x1,m1,m2⟩:=rs2.re j w e
    refine⟨x1,?_,m2⟩;rw[MD fun z=>by rw[←z,ui] at e;cases e];exact m1
   .obtain⟨y,z⟩:=pd _ _ q1;cases z
   .obtain⟨y,z⟩:=pd _ _ q1;cases z
   .rcases MG.mp hc with z|z
    .subst z;exact⟨.inr rfl,ntp,h0p,fun q=>nOp (rs1.sub _ q)⟩
    .rw[MR.mp z]
     exact⟨.inl (.inr rfl),ntb,h0b,fun q=>nOb (rs.sub _ q)⟩
  .cases e
 .cases e
end
def qC(ρ:Rho):Bool:=ρ.all fun o=>match o with
 |some (.loc (.dict _))=>false
 |_=>true
theorem B0{K:Frag}{O O':Addr->Prop}{H:Hp}{v:V}{d:Mo}(r:Rep K O H v d)(h:cz d=true):Rep K O' H v d:=by
 cases r with
 |non=>exact .non
 |bl b=>exact .bl b
 |int i=>exact .int i
 |str z=>exact .str z
 |_=>cases h
theorem sL{K:Frag}{O O':Addr->Prop}{H:Hp}:∀{vs:List V}{ds:List Mo},Reps K O H vs ds->(∀d∈ds,cz d=true)->Reps K O' H vs ds
 |_,_,.nil,_=>.nil
 |_,_,.cons r t,h=>.cons (B0 r (h _ Mq)) (sL t fun d hd=>h d (Mr _ hd))
def v5(T:Tp):Option (List Mo×Tp)->Option (W×Tp)
 |some (ys,_)=>if ys.all cz=true then some (.d (.list ys),T) else none
 |none=>none
def fu(it:FI)(c:FT)(f:FE):FE:=fun ρ T=>if qC ρ=true then v5 T (bnd (it (bW ρ) []) fun ds T1=>bz c f (bW ρ) ds T1) else none
theorem uh(S:CS osc N x scope N')(hi:DI X (.Name x px) iter it)
  (he:∀C s0 H0 ex,DE (b5 X x scope C s0 H0 ex N') elt f) (ht:∀C s0 H0 ex,DTs (b5 X x scope C s0 H0 ex N') ifs c) (hc:X.calm=true:=by rfl) (hs:X.env.scope=osc:=by rfl) (hN:X.N=N:=by rfl)
  (hf:∀v,NI iter X.env v=pure v:=by intro _;rfl):DE X (.ListComp elt [⟨.Name x px,iter,ifs,0⟩] scope pos) (fu it c f):=by
 refine⟨?_⟩;refine pe_imp (tQ (wi:=jt X.K it) (tt:=liftT X.K c) (te:=lift X.K f) S hi.pe (fun C s0 H0 ex=>(he C s0 H0 ex).pe) (fun C s0 H0 ex=>(ht C s0 H0 ex).pe) hc hs hN hf) fun σ H Q=>?_;rintro⟨O,ts,ρ,T,w,T',hc,re,e,q⟩;unfold fu at e;split at e
 .rename_i hn
  cases h1:(bnd (it (bW ρ) []) fun ds T1=>bz c f (bW ρ) ds T1) with
  |none=>rw[h1] at e;cases e
  |some p=>
   obtain⟨ys,T2⟩:=p;rw[h1] at e;unfold v5 at e;dsimp only at e;split at e
   .rename_i hy
    cases e;obtain⟨ds,T1,e1,e2⟩:=aO h1;have hc0:HC X.K (fun _=>False) [] H []:=⟨fun b hb=>(by cases hb),fun b hb=>hb.elim,Qn,rfl,fun i a xs e1 _=>by simp at e1⟩
    have re0:RelE X.K (fun _=>False) [] H σ (bW ρ):=tV re (fun b=>.inl rfl) fun j a ds e1 _=>by
     have:=MM.mp hn _ (Nj e1);cases this
    refine⟨fun _=>False,[],bW ρ,[],ds,T1,hc0,re0,e1,fun J H1 s1 hc1 ok hz=>?_⟩;refine ma hc1 (re0.mono hc0 s1) ok hz e2 fun vs H' s2 hc2 r2 p hp=>?_;have s3:SameX [] H H':=s1.trans s2;have s3':SameX ts H H':=fun b o _ q=>s3 b o (by simp) q
    have hc':HC X.K O ts H' T:=hc.step s3' fun b hb=>by
     obtain⟨u,z⟩:=(hc.trk b (hc.own b hb)).ex;rw[z];exact s3 b _ (by simp) z
    exact q _ _ (s3'.trans (.new hp _)) (hc'.new hp _) (hc'.newL hp (sL r2 fun d hd=>MM.mp hy d hd))
   .cases e
 .cases e
def mF(i:Nat)(it:FI)(c:FT)(f:FE):FS:=fun ρ T=>bnd (it ρ T) fun ds T1=>bnd (bz c f ρ ds T1) fun ys T2=>some ((.nx,ρ.set i (some (.loc (.list ys)))),T2)
theorem B5(S:CS osc N x scope N')(hN:X.N.Nodup)(hi:DI X (.Name x px) iter it)
  (he:∀C s0 H0 ex,DE (b5 X x scope C s0 H0 ex N') elt f) (ht:∀C s0 H0 ex,DTs (b5 X x scope C s0 H0 ex N') ifs c) (hi':X.N[i]? = some y:=by rfl) (hy:Loc X.env.scope y:=by first|exact Oe rfl|exact NP rfl)
  (hf':X.fn y=true\/X.env.scope.names.lookup y=some .local:=by first|exact .inl rfl|exact .inr rfl|assumption) (hc:X.calm=true:=by rfl) (hs:X.env.scope=osc:=by rfl) (hN':X.N=N:=by rfl)
  (hsw:NX (.ListComp elt [⟨.Name x px,iter,ifs,0⟩] scope pos) (some (.Name y py)) spos.line X.env=pure true:=by rfl) (hf:∀v,NI iter X.env v=pure v:=by intro _;rfl) :
  DS X (.Assign [.Name y py] (.ListComp elt [⟨.Name x px,iter,ifs,0⟩] scope pos) spos) (mF i it c f):=by
 refine⟨?_⟩;subst hs hN';refine cb (uL (wi:=jt X.K it) (tt:=liftT X.K c) (te:=lift X.K f) hc S hN hi' hy hf' hi.pe (fun C s0 H0 ex=>(he C s0 H0 ex).pe) (fun C s0 H0 ex=>(ht C s0 H0 ex).pe) hsw hf) fun D σ H=>?_;rintro⟨O₀,H₀,F,ts,O,ρ,T,fl,ρ',T',rs,e,q⟩;obtain⟨ds,T2,e2,e⟩:=aO e;obtain⟨ys,T3,e3,e⟩:=aO e;cases e;refine⟨O,ts,ρ,T,ds,T2,rs.hc,rs.re,e2,fun J H1 s1 hc1 ok hz=>?_⟩;exact ma hc1 (rs.re.mono rs.hc s1) ok hz e3 fun vs H' s2 hc2 r2 p hp=>q _ _ _ ((rs.step (s1.trans s2) hc2).own hp r2)
end D
namespace XE
open L2 D
theorem Ee{K:Frag}{C R A1 A2 A3 A4:Addr}{f:Str}{nm q nm' q':Str}{N N':Addr}{bs bs' sub sub':List Mp}{sn sn':List Str}{ab ab':Bool}{col col':Option Bool}{dd dd':Option Addr}{k0 k1 k2 k3 k5 j0 j1 j2 j3 j5:Option Mp}{oN oN':Obj}
  (lC:K.lookup C=some (Uk nm q C N bs (.ref R::vE) true sn sub ab col dd k0 k1 k2 k3 k5 "ValueError.__new__")) (nC:K.lookup N=some oN)
  (lR:K.lookup R=some (Uk nm' q' R N' bs' vE true sn' sub' ab' col' dd' j0 j1 j2 j3 j5 "ValueError.__new__")) (nR:K.lookup N'=some oN') (ri:M6 K N' "__init__"=some none) (kp:Ny K (.ref C)=true)
  (bm:OC K C (.type "BaseException")=some true) (gt:MV K (.ref C) "__getattr__"=some none) (ga:MV K (.ref C) "__getattribute__"=some (some (.builtin "BaseException.__getattribute__")))
  (ca:MV K (.ref C) "__class__"=some (some (.builtin "object.__class__"))) (hn:Pp K (.builtin "object.__class__") "__get__"=some (some (.builtin "getset_descriptor.__get__")))
  (tk:QH K (.builtin "object.__class__")=some true) (hm:OC K C (.type "object")=some true) (nn:MV K (.ref C) f=some none) (sa:MV K (.ref C) "__setattr__"=some (some (.builtin "object.__setattr__")))
  (rd:PV K R (.type "type")=true) (fc:QK K (.ref R) (.type "type") "__init__"=some (.val (.builtin "ValueError.__init__"))) (kV:Po K (.ref C) (.type "ValueError")=some true)
  (a1:Pk K A1=true) (b1:Qo K (.ref A1)=some (.type "type")) (c1:Po K (.ref C) (.ref A1)=some false) (a2:Pk K A2=true) (b2:Qo K (.ref A2)=some (.type "type")) (c2:Po K (.ref C) (.ref A2)=some false)
  (a3:Pk K A3=true) (b3:Qo K (.ref A3)=some (.type "type")) (c3:Po K (.ref C) (.ref A3)=some false) (a4:Pk K A4=true) (b4:Qo K (.ref A4)=some (.type "type")) (c4:Po K (.ref C) (.ref A4)=some false)
  (d1:(MK C == MK A1)=false) (d2:(MK C == MK A2)=false) (d3:(MK C == MK A3)=false) (d4:(MK C == MK A4)=false) (oC:ql oN=true) (oR:ql oN'=true):XB K C R f [A1,A2,A3,A4]:=by
 have cl:PU K C=some { name:=nm,bases:=bs,mro:=.ref C::.ref R::vE,ns:=N,qualname:=q,hasDict:=true,slotNames:=sn,subclasses:=sub,abstract:=ab,collection:=col,hasDel:=false }:=by
  unfold PU;rw[lC]
 have no:∀{N:Addr}{o:Obj},K.lookup N=some o->ql o=true->So K N=true:=fun {N o} h1 h2=>by
  obtain⟨oc,od,dt,sl⟩:=o;unfold So;rw[h1]
  cases dt with
  |dict es ep=>
   have h3:(es.toList.all fun e=>match e.key with
    |.str _ _=>true
    | _=>false)=true:=h2
   rw[T8] at h3;exact h3
  |_=>cases h2
 refine⟨⟨_,_,_,_,_,_,_,_,_,_,_,_,_,_,lC,no nC oC⟩,⟨_,_,_,_,_,_,_,_,_,_,_,_,_,_,lR,no nR oR⟩,?_,kp,⟨bm,gt,ga,by rw[cl];rfl,ca,hn,tk,hm⟩,?_,nn,sa,rd,fc,?_,Fb kV,?_⟩
 .simp only[OU]
  rw[lR];exact ri
 .unfold Qd
  rw[cl];rfl
 .unfold Nf
  rw[if_pos (by simp)]
 .simp only[List.map,Pw,mz a1 b1 c1 d1,mz a2 b2 c2 d2,mz a3 b3 c3 d3,mz a4 b4 c4 d4]
end XE
namespace G
open L2 D

theorem bb(k:Nat)(h:0<k):∃j,k=j+1:=⟨k-1,by omega⟩
abbrev ac:FE:=fC (.int 1)
abbrev be:FE:=fC (.int 0)
abbrev bn:FE:=aa 0
abbrev ci:FE:=aa 1
abbrev cr:FE:=aa 2
abbrev db:FE:=fC (.bool false)
abbrev dL:FE:=aa 3
abbrev f8:FE:=fC (.str "fails")
abbrev gl:FE:=aa 4
abbrev ii:FE:=aa 5
abbrev im:FE:=fC (.int 2)
abbrev io:FE:=fC (.str "made")
abbrev kt:FE:=fC (.bool true)
abbrev lf:FE:=fC (.str "value")
abbrev mt:FE:=fC .none
abbrev o0:FE:=fC (.int 8)
abbrev pc:FE:=fC (.int 4)
abbrev pi:FE:=fC (.str "abcdefghijklmnopqrstuvwxyz0123456789-")
abbrev pp:FE:=fC (.str "wants")
abbrev sw:FE:=fC (.int 10)
abbrev sB:FE:=fC (.str "abcdefghijklmnopqrstuvwxyz")
abbrev sK:FE:=fC (.str "0")
abbrev t0:FE:=fC (.str "kind")
abbrev tz:FE:=fC (.str "when")
abbrev u8:FE:=aa 6
abbrev wf:FE:=fC (.str "want")
abbrev wl:FE:=fC (.int 18)
abbrev wp:FE:=fC (.str "")
abbrev wv:FE:=fC (.str "put")
abbrev ww:FE:=fC (.str "row")
abbrev wE:FE:=fC (.str "say")
abbrev wP:FE:=fC (.int 3)
abbrev wT:FE:=fC (.str ")")
abbrev xz:FE:=fC (.str "lacks")
abbrev zn:FE:=fC (.str "part")
abbrev At:FE:=fC (.str "peek")
abbrev AT:FE:=fC (.str "name")
abbrev BT:FE:=fC (.str "got")
abbrev Ch:FE:=fC (.int 7)
abbrev Db:FE:=fC (.int 5)
abbrev Ev(f:FE):FA:=ae f ai
abbrev Fa:FE->FE->FE:=af ixD
abbrev Fr:FE->FE->FE:=af eqD
abbrev Go:FA->FE:=aE .tuple
abbrev Id:FE->FE->FE:=af aR
abbrev Ix:FA->FE:=fCB aY
abbrev IN:FA->FE:=aE .list
abbrev IO:FE->FE->FE:=af gtD
abbrev KK:FE->FE->FE:=af ltD
abbrev LE:FE->FE->FE:=af ixA
abbrev LT:FA->FE:=fCB bS
abbrev M0:FA->FE:=fCB intD
def i5:FnM:=aW 1 (ay (cP (fUn (bf .int) bn) (kF (fUn (bf .bl) bn))))
def eX:FnM:=aW 2 (ay (fCB hZ (Ev (br (aX bn) bu (af inD bn cr)))))
def ik:FnM:=aW 1 (ak (fIf (aU (ax i5 (Ev bn))) (ay (af leD (fCB kX (Ev bn)) (af hU sw wl))) aK) (ay (cP (fUn (bf .str) bn) (cP (af leD (Ix (Ev bn)) (fC (.int 20))) (ax eX (ae bn (Ev pi)))))))
def dJ:Nat->FnM
 |0=>fun _ _=>none
 |n+1=>aW 2 (ak (fIf (bG (aU (fUn (bf .tup) bn))) (ay (ax ik (Ev bn))) aK) (ak (fIf (bB (ar (Fr ci be)) (ar (IO (Ix (Ev bn)) o0))) (ay db) aK) (ay (fCB hZ (Ev (br (aX bn) bu (ax (dJ n) (ae bn (Ev (af er cr ac))))))))))
def eZ:Nat->FnM
 |0=>fun _ _=>none
 |n+1=>aW 1 (ak (fIf (bG (aU (fUn (bf .tup) bn))) (ay ac) aK) (ay (Id ac (fCB kL (Ev (br (aX bn) bu (ax (eZ n) (Ev bn))))))))
def iu:FnM:=aW 1 (ay (cP (ax (dJ 25) (ae bn (Ev pc))) (af leD (ax (eZ 25) (Ev bn)) (fC (.int 40)))))
def eS:FnM:=aW 1 (ak (fIf (bB (ar (Fr bn wp)) (bG (aU (ax eX (ae bn (Ev (fC (.str "0123456789")))))))) (ay db) aK) (ay (qK (Fr bn sK) (kF (af gN bn sK)))))
def ij:FnM:=aW 2 (ak (aF 1 (cV (aU (af gN bn (fC (.str "-")))) (fSl bn (fP ac) bw) bn)) (ak (fIf (bB (ar (Fr bn (fC (.str "-0")))) (bB (ar (IO (Ix (Ev ci)) (fC (.int 19)))) (bG (aU (ax eS (Ev ci)))))) (ay mt) aK) (ay (M0 (Ev bn)))))
def ig:FnM:=aW 1 (ak (fIf (aU (af gN bn (fC (.str "'")))) (ay (fSl bn (fP ac) bw)) aK) (ay (ax ij (Ev bn))))
def gF:FnM:=aW 4 (ak (aF 2 ci) (ak (bo (bD (ar (KK cr (Ix (Ev bn)))) (ar (af bL (Fa bn cr) (fC (.str "(),"))))) (aF 2 (Id cr ac)) 100000) (ak (aF 3 (ax ig (Ev (fSl bn (fP ci) (fP cr))))) (ay (cV (ar (af isD dL mt)) mt (Go (ae dL (Ev cr))))))))
mutual
def gL:Nat->FnM
 |0=>fun _ _=>none
 |n+1=>aW 6 (ak (fIf (ar (Fr (fSl bn (fP ci) (fP (Id ci ac))) wT)) (ay (Go (ae (Go ai) (Ev (Id ci ac))))) aK) (ak (cO 3 ai) (bo (aU kt) (ak (aF 4 (ax (da n) (ae bn (ae ci (Ev cr))))) (ak (fIf (ar (af isD gl mt)) (ay mt) aK) (ak (b8 3 (Fa gl be)) (ak (aF 1 (Id (Fa gl ac) ac)) (ak (aF 5 (fSl bn (fP (Fa gl ac)) (fP ci))) (ak (fIf (ar (Fr ii wT)) (ay (Go (ae (LT (Ev dL)) (Ev ci)))) aK) (fIf (ar (af neD ii (fC (.str ",")))) (ay mt) aK))))))) 100000)))
def da:Nat->FnM
 |0=>fun _ _=>none
 |n+1=>aW 3 (ak (fIf (ar (af neD (fSl bn (fP ci) (fP (Id ci ac))) (fC (.str "(")))) (ay (ax gF (ae bn (Ev ci)))) aK) (ak (fIf (ar (Fr cr be)) (ay mt) aK) (ay (ax (gL n) (ae bn (ae (Id ci ac) (Ev (af er cr ac))))))))
end
def ir:FnM:=aW 2 (ak (aF 1 (ax (da 25) (ae bn (ae be (Ev pc))))) (ak (fIf (bB (ar (af isD ci mt)) (ar (KK (Fa ci ac) (Ix (Ev bn))))) (ay mt) aK) (ay (cV (aU (ax iu (Ev (Fa ci be)))) (Fa ci be) mt))))
def fO:FnM:=aW 3 (ak (g7 1) (ak (cB 2 (aX bn) (fH 1 (Fa cr be) cr)) (ay ci)))
def iY:FnM:=aW 4 (ak (cO 2 (Ev ci)) (ak (bo (bD (ar (af inA (Fa cr (fUn bA ac)) bn)) (ar (af bL (Fa cr (fUn bA ac)) (fSl cr bw (fP (fUn bA ac)))))) (ak (aF 3 (Fa (LE bn (Fa cr (fUn bA ac))) im)) (ak (fIf (ar (Fr (Fa dL be) io)) (ay (Go (ae io (Ev (ax ir (Ev (Fa dL ac))))))) aK) (ak (fIf (ar (Fr (Fa dL be) f8)) (ay (Go (ae f8 (ae (LT (Ev cr)) (Ev (Fa dL ac)))))) aK) (b8 2 (Fa dL ac))))) 100000) (ay (Go (ae (cV (ar (af inA (Fa cr (fUn bA ac)) bn)) (fC (.str "ring")) xz) (Ev (LT (Ev cr))))))))
def fW:FnM:=aW 3 (ak (aF 2 (ax fO (Ev bn))) (ak (fIf (ar (af gk ci cr)) wU aK) (ay (ax iY (ae cr (Ev ci))))))
def dI:FnM:=aW 2 (ak (fIf (ar (KK ci (Ix (Ev bn)))) (ay (Fa bn ci)) aK) (ay be))
def fU:FnM:=aW 6 (ak (cO 2 ai) (ak (aF 3 be) (ak (fIf (ar (af geD bn (af hU sw wl))) (aF 3 bn) aK) (ak (aF 4 (Id (af cq bn (fC (.int 2147483629))) (fC (.int 48271)))) (ak (cB 5 (fG ci) (ak (aF 4 (af cq (Id (Id (af b7 gl gl) (af b7 (fC (.int 48271)) gl)) (af b7 Ch ii)) (fC (.int 2147483647)))) (fIf (ar (IO dL be)) (ak (b8 2 (af cq dL (fC (.int 720720)))) (aF 3 (af gw dL (fC (.int 720720))))) (b8 2 (af gw (af cq (Id (af b7 gl (fC (.int 69621))) (af b7 (fC (.int 13)) ii)) (fC (.int 2147483629))) wP))))) (ay cr))))))
def bi:FnM:=aW 2 (ak (qJ bn ac (Id (Fa bn ac) ac)) (ay (af cq (Fa (Fa bn be) (af cq (af er (Fa bn ac) ac) (Ix (Ev (Fa bn be))))) ci)))
def eW:Nat->FnM
 |0=>fun _ _=>none
 |n+1=>aW 1 (ak (fIf (bG (aU (fUn (bf .tup) bn))) (ay ac) aK) (ay (Id ac (fCB kL (Ev (br (aX bn) bu (ax (eW n) (Ev bn))))))))
def fR:FnM:=aW 1 (ak (fIf (bB (bG (aU (fUn (bf .str) bn))) (bB (ar (KK (Ix (Ev bn)) ac)) (ar (IO (Ix (Ev bn)) o0)))) (ay db) aK) (ay (af eqG (br (aX bn) (ar (af bL bn sB)) bn) (IN ai))))
def c8:Nat->FnM
 |0=>fun _ _=>none
 |n+1=>aW 3 (ak (fIf (aU (fUn (bf .bl) bn)) (ay db) aK) (ak (fIf (aU (fUn (bf .int) bn)) (ay (af leD (fCB kX (Ev bn)) (af hU sw wl))) aK) (ak (fIf (aU (fUn (bf .str) bn)) (ak (aF 2 pi) (ay (cP (af leD (Ix (Ev bn)) (fC (.int 20))) (af eqG (br (aX bn) (ar (af bL bn dL)) bn) (IN ai))))) aK) (ak (fIf (bB (bG (aU (fUn (bf .tup) bn))) (bB (ar (IO (Ix (Ev bn)) o0)) (ar (IO ci wP)))) (ay db) aK) (ay (af eqG (br (aX bn) (bG (aU (ax (c8 n) (ae bn (Ev (Id cr ac)))))) bn) (IN ai)))))))
def dH:FnM:=aW 1 (ay (cP (ax (c8 25) (ae bn (Ev be))) (af leD (ax (eW 25) (Ev bn)) (fC (.int 40)))))
def cJ:Nat->FnM
 |0=>fun _ _=>none
 |n+1=>aW 1 (ak (fIf (aU (fUn (bf .tup) bn)) (ay (Id (Id (fC (.str "(")) (af mU (fC (.str ",")) (br (aX bn) bu (ax (cJ n) (Ev bn))))) wT)) aK) (ak (fIf (aU (fUn (bf .str) bn)) (ay (Id (fC (.str "'")) bn)) aK) (ay (fCB m9 (Ev bn)))))
def bC:FnM:=aW 5 (ak (aF 3 (cP (fUn (bf .int) ci) (fUn (bf .int) cr))) (ak (aF 4 (cP (Fr (fUn (bf .str) ci) (fUn (bf .str) cr)) (Fr (fUn (bf .tup) ci) (fUn (bf .tup) cr)))) (ak (fIf (ar (Fr bn (fC (.str "same")))) (ay (Go (ae lf (Ev (M0 (Ev (Fr (jx ci) (jx cr)))))))) aK) (ak (fIf (bD (ar (Fr bn (fC (.str "less")))) (aU dL)) (ay (Go (ae lf (Ev (M0 (Ev (KK ci cr))))))) aK) (ak (fIf (bD (ar (Fr bn zn)) (bD (aU (fUn (bf .tup) ci)) (aU (fUn (bf .int) cr)))) (ay (cV (ar (mH leD ltD be cr (Ix (Ev ci)))) (Go (ae lf (Ev (Fa ci cr)))) (Go (ae f8 (Ev zn))))) aK) (ak (fIf (bB (bD (ar (Fr bn (fC (.str "join")))) (bD (aU gl) (bG (aU dL)))) (bD (ar (Fr bn (fC (.str "sum")))) (aU dL))) (ay (cV (aU (ax dH (Ev (Id ci cr)))) (Go (ae lf (Ev (Id ci cr)))) (Go (ae f8 (Ev (fC (.str "great"))))))) aK) (ay (Go (ae f8 (Ev t0))))))))))
def b9:Nat->FnM
 |0=>fun _ _=>none
 |n+1=>aW 5 (ak (fIf (ar (Fr (Fa bn be) wv)) (ay (Go (ae lf (Ev (Fa bn ac))))) aK) (ak (fIf (ar (Fr (Fa bn be) BT)) (ay (Go (ae lf (Ev (Fa ci (Fa bn ac)))))) aK) (ak (cO 2 ai) (ak (cB 3 (aX (Fa (IN (ae (fCB dP (Ev (fSl bn (fP ac) bw))) (Ev (fCB dP (Ev (Fa bn ac)))))) (M0 (Ev (Fr (Fa bn be) ww))))) (ak (aF 4 (ax (b9 n) (ae dL (Ev ci)))) (ak (fIf (ar (Fr (Fa gl be) f8)) (ay gl) aK) (b8 2 (Fa gl ac))))) (ak (fIf (ar (Fr (Fa bn be) ww)) (ay (cV (aU (ax dH (Ev (LT (Ev cr))))) (Go (ae lf (Ev (LT (Ev cr))))) (Go (ae f8 (Ev (fC (.str "great"))))))) aK) (ak (fIf (ar (Fr (Fa bn be) (fC (.str "many")))) (ay (cV (aU (fUn (bf .int) (Fa cr be))) (Go (ae f8 (Ev t0))) (Go (ae lf (Ev (Ix (Ev (Fa cr be)))))))) aK) (ay (ax bC (ae (Fa bn be) (ae (Fa cr be) (Ev (Fa cr ac))))))))))))
def fQ:FnM:=aW 5 (jm 1 (cI (kIf 1 (bB (bG (aU (fUn (bf .str) bn))) (ar (IO (Ix (Ev bn)) (fC (.int 900))))) (kNo (jG (IN ai))) eN) (cI (kFor 2 (mG (af j6 (fUn (gW ")" ",),") (fUn (gW "(" ",(,") bn)) (fC (.str ",")))) (cI (jF 3 (fSl cr (fP (M0 (Ev (Fr (fSl cr bw (fP ac)) (fC (.str "-")))))) bw)) (kIf 1 (ar (Fr cr (fC (.str "(")))) jv (kIf 1 (bD (ar (Fr cr wT)) (ar (IO (Ix (Ev ci)) ac))) (cI (kT 4) (eP (fUn bA ac) gl)) (kIf 1 (ar (Fr (fSl cr bw (fP ac)) (fC (.str "'")))) (eP (fUn bA ac) (fSl cr (fP ac) bw)) (kIf 1 (bD (ar (af neD dL wp)) (bD (ar (KK (Ix (Ev cr)) (fC (.int 25)))) (ar (af eqG (br (aX dL) (ar (af bL bn (fC (.str "0123456789")))) bn) (IN ai))))) (eP (fUn bA ac) (M0 (Ev cr))) eN)))))) (cI (kIf 1 (bB (ar (IO (Ix (Ev ci)) ac)) (bB (ar (af neD (Ix (Ev (Fa ci be))) ac)) (bB (bG (aU (ax dH (Ev (Fa (Fa ci be) be))))) (ar (af neD (ax (cJ 25) (Ev (Fa (Fa ci be) be))) bn))))) (jG (IN ai)) eN) kB))))
def gG:FnM:=aW 5 (ak (fIf (ar (af isD cr mt)) (ay (cV (ar (af inA gl ci)) (IN (Ev (LE ci gl))) (Go (ae pp (Ev gl))))) aK) (ak (fIf (bB (ar (Fr bn At)) (bD (ar (KK dL (Ix (Ev cr)))) (ar (af neD (Fa (Fa cr dL) be) gl)))) (ay (Go (ae (fC (.str "strays")) (Ev gl)))) aK) (ay (cV (ar (KK dL (Ix (Ev cr)))) (ax fQ (Ev (Fa (Fa cr dL) ac))) (Go (ae pp (Ev gl)))))))
def d0:FnM:=aW 7 (ak (cO 3 ai) (ak (cO 4 ai) (ak (bo (ar (af neD (Fa bn be) (fC (.str "fail")))) (ak (aF 5 (mI (b9 25) (ae (Fa bn ac) (Ev dL)))) (ak (fIf (bB (ar (Fr (Fa ii be) f8)) (ar (Fr (Fa bn be) wE))) (ay (Go (ae gl (Ev (Fa (IN (ae ii (Ev (Go (ae io (Ev (ax (cJ 25) (Ev (Fa ii ac))))))))) (M0 (Ev (Fr (Fa ii be) lf)))))))) aK) (fIf (ar (Fr (Fa bn be) tz)) (aF 0 (Fa bn (Id im (M0 (Ev (af inD (jx (Fa ii ac)) (IN (ae sK (ae (fC (.str "''")) (Ev (fC (.str "()")))))))))))) (fIf (bG (aU (ax fR (Ev (Fa ii ac))))) (ay (Go (ae gl (Ev (Go (ae f8 (Ev AT))))))) (ak (aF 6 (ax gG (ae (Fa bn be) (ae ci (ae cr (ae (Ix (Ev gl)) (Ev (Fa ii ac)))))))) (ak (fIf (aU (fUn (bf .tup) u8)) (ay (Go (ae gl (Ev u8)))) aK) (ak (b8 3 (Fa u8 be)) (ak (fIf (ar (Fr (Fa bn be) wf)) (b8 4 (Go (ae (Fa ii ac) (Ev (ax (cJ 25) (Ev (Fa u8 be))))))) aK) (aF 0 (Fa bn im)))))))))) 100000) (ay (Go (ae gl (Ev (Go (ae f8 (Ev (Fa bn ac)))))))))))
def il:FnM:=aW 5 (ak (mE 1 (Fa bn be)) (ak (aF 2 kt) (ak (bo (aU cr) (ak (aF 2 db) (cB 3 (aX (br (aX (Fa bn ac)) (ar (af gk bn cr)) bn)) (ak (aF 4 (kG (Fa (ax d0 (ae (LE (Fa bn ac) dL) (ae ci (Ev mt)))) ac))) (fIf (ar (Fr (Fa gl be) io)) (ak (fH 1 dL (Fa (ax fQ (Ev (Fa gl ac))) be)) (aF 2 kt)) aK)))) 100000) (ay ci))))
def gH:FnM:=aW 5 (ak (qI 3 4 (ax d0 (ae (LE (Fa bn ac) cr) (ae ci (Ev mt))))) (ay (Go (ae cr (ae (LT (Ev dL)) (Ev gl))))))
def ie:FnM:=aW 5 (ak (fIf (ar (af inA cr ci)) (ay (Go (ae io (Ev (LE ci cr))))) aK) (ak (cO 3 (Ev cr)) (ak (bo (ar (af bL (Fa dL (fUn bA ac)) (fSl dL bw (fP (fUn bA ac))))) (ak (fIf (ar (af gk (Fa dL (fUn bA ac)) (Fa bn ac))) (ay (Go (ae xz (Ev (LT (Ev dL)))))) aK) (ak (aF 4 (Fa (ax d0 (ae (LE (Fa bn ac) (Fa dL (fUn bA ac))) (ae ci (Ev mt)))) ac)) (ak (fIf (ar (Fr (Fa gl be) f8)) (ay (Go (ae f8 (ae (LT (Ev dL)) (Ev (Fa gl ac)))))) aK) (b8 3 (Fa gl ac))))) 100000) (ay (Go (ae (fC (.str "ring")) (Ev (LT (Ev dL)))))))))
def bO:Nat->FnM
 |0=>fun _ _=>none
 |n+1=>aW 2 (ak (fIf (aU (fUn g6 ci)) (ak (fIf (bB (ar (af neD (fUn (bf .tup) bn) (fUn (bf .tup) ci))) (ar (af neD (fUn (bf .lst) bn) (fUn (bf .lst) ci)))) (ay db) aK) (ay (cP (Fr (Ix (Ev bn)) (Ix (Ev ci))) (fCB hZ (Ev (br (fG (Ix (Ev ci))) bu (ax (bO n) (ae (LE ci bn) (Ev (LE cr bn)))))))))) aK) (ak (fIf (aU (fUn (bf .dct) ci)) (ak (fIf (bB (bG (aU (fUn (bf .dct) bn))) (ar (af neD (Ix (Ev bn)) (Ix (Ev ci))))) (ay db) aK) (ay (fCB hZ (Ev (br (aX ci) bu (cP (af inA bn ci) (ax (bO n) (ae (LE ci bn) (Ev (LE cr bn)))))))))) aK) (ak (fIf (bB (aU (fUn (bf .bl) ci)) (ar (af isD ci mt))) (ay (cP (Fr (fUn (bf .bl) bn) (fUn (bf .bl) ci)) (Fr bn ci))) aK) (ak (fIf (aU (fUn (bf .int) ci)) (ay (cP (fUn (bf .int) bn) (cP (kF (fUn (bf .bl) bn)) (Fr bn ci)))) aK) (ay (cP (fUn (bf .str) bn) (Fr bn ci)))))))
def eU:FnM:=aW 7 (ak (aF 2 sB) (ak (aF 3 (ax bi (ae bn (Ev pc)))) (ak (aF 4 (ax bi (ae bn (Ev (fC (.int 12)))))) (ak (fIf (ar (Fr dL be)) (ak (aF 5 (IN (ae (fC (.str "told")) (ae io (ae wE (ae wf (ae pp (ae f8 (ae wv (ae BT (ae ww (ae At (ae tz (Ev t0)))))))))))))) (ay (fSl (Id (fSl ii (fP gl) bw) (fSl ii bw (fP gl))) bw (fP ci)))) aK) (ak (fIf (ar (Fr dL ac)) (ay (br (fG ci) bu (af b7 (Fa dL (Id ii (af gw bn o0))) (Id ac (af cq bn o0))))) aK) (ak (aF 6 (af b7 (Fa cr gl) (ax bi (ae bn (Ev (af er o0 (af cq gl Ch))))))) (ay (br (fG ci) bu (Id (Id (af b7 (Fa dL ii) (af cq ii Ch)) (Fa dL (af cq (Id ii bn) (fC (.int 26))))) (aa 7))))))))))
def cw:Nat->FnM
 |0=>fun _ _=>none
 |n+1=>aW 5 (ak (aF 3 (ax bi (ae bn (Ev sw)))) (ak (aF 4 (IN (ae be (ae ac (ae (fUn bA ac) (ae im (ae (af hU sw wl) (ae (fUn bA (af hU sw wl)) (ae wp (ae (fC (.str "a")) (ae sK (ae (fC (.str "-")) (ae (af b7 (fC (.str "a")) (fC (.int 20))) (Ev (Go ai))))))))))))))) (ak (fIf (bB (ar (KK dL (fC (.int 6)))) (bD (ar (Fr cr be)) (ar (IO dL Ch)))) (ay (Fa gl (ax bi (ae bn (Ev (fC (.int 12))))))) aK) (ak (fIf (ar (KK dL o0)) (ay (Fa ci (ax bi (ae bn (Ev (Ix (Ev ci))))))) aK) (ay (LT (Ev (br (fG (ax bi (ae bn (Ev pc)))) bu (ax (cw n) (ae ci (ae cr (Ev (af er dL ac)))))))))))))
def fS:FnM:=aW 3 (ak (fIf (bD (ar (IO cr be)) (ar (IO (ax bi (ae bn (Ev wP))) be))) (ay (Go (ae BT (Ev (ax bi (ae bn (Ev cr))))))) aK) (ay (Go (ae wv (Ev (ax (cw 25) (ae bn (ae ci (Ev ac)))))))))
def fX:FnM:=aW 6 (ak (aF 3 (ax bi (ae bn (Ev sw)))) (ak (aF 4 (ax fS (ae bn (ae ci (Ev cr))))) (ak (fIf (ar (KK dL Db)) (ay (Fa (IN (ae gl (Ev (Go (ae (fC (.str "many")) (Ev gl)))))) (af gw dL pc))) aK) (ak (aF 5 (ax fS (ae bn (ae ci (Ev cr))))) (ak (fIf (ar (Fr dL Db)) (ay (Go (ae ww (Ev (fSl (Go (ae gl (Ev ii))) bw (fP (ax bi (ae bn (Ev wP))))))))) aK) (ay (Go (ae (Fa (IN (ae (fC (.str "sum")) (ae (fC (.str "join")) (ae (fC (.str "same")) (ae (fC (.str "less")) (Ev zn)))))) (ax bi (ae bn (Ev Db)))) (ae gl (Ev ii))))))))))
def bU:Nat->FnM
 |0=>fun _ _=>none
 |n+1=>aW 9 (ak (aF 5 (ax bi (ae bn (Ev o0)))) (ak (aF 6 (ax fX (ae bn (ae ci (Ev dL))))) (ak (fIf (bD (ar (IO cr be)) (ar (KK ii pc))) (ak (aF 7 (Fa (IN (ae wf (Ev At))) (M0 (Ev (cP gl (Fr (ax bi (ae bn (Ev pc))) be)))))) (ak (fIf (ar (IO (ax bi (ae bn (Ev Db))) be)) (aF 6 (Go (ae wv (Ev (Fa ci (ax bi (ae bn (Ev (Ix (Ev ci)))))))))) aK) (ay (Go (ae (aa 7) (ae u8 (Ev (ax (bU n) (ae bn (ae ci (ae (af er cr ac) (ae (Id dL ac) (Ev gl))))))))))))) aK) (ak (fIf (bD (ar (IO cr ac)) (ar (KK ii (fC (.int 6))))) (ak (aF 8 (ax (bU n) (ae bn (ae ci (ae (af er cr im) (ae dL (Ev gl))))))) (ay (Go (ae tz (ae u8 (ae (aa 8) (Ev (ax (bU n) (ae bn (ae ci (ae (af er cr im) (ae dL (Ev gl))))))))))))) aK) (ak (fIf (bD (ar (Fr ii (fC (.int 6)))) (ar (Fr (ax bi (ae bn (Ev im))) be))) (ay (Go (ae (fC (.str "fail")) (Ev (Fa (Id ci (IN (ae t0 (Ev AT)))) (ax bi (ae bn (Ev (Id (Ix (Ev ci)) im))))))))) aK) (ay (Go (ae wE (Ev u8)))))))))
def ip:FnM:=aW 10 (jl 3 (ae (ax fU (ae (ax dI (ae bn (Ev ci))) (Ev (fC (.int 24))))) (Ev be)) (ak (aF 4 (Id wP (ax bi (ae dL (Ev o0))))) (ak (aF 5 (ax eU (ae dL (Ev (Id gl im))))) (ak (g7 6) (ak (g7 7) (ak (cB 8 (fG gl) (jl 9 (ae (ax fU (ae (Id (ax dI (ae bn (Ev (Id (Id ci ac) (aa 8))))) (af b7 (fC (.int 977)) (aa 8))) (Ev (fC (.int 60))))) (Ev be)) (fIf (ar (Fr (ax bi (ae (aa 9) (Ev pc))) be)) (fH 6 (Fa ii (aa 8)) (ax (cw 25) (ae (aa 9) (ae ii (Ev im))))) (fH 7 (Fa ii (aa 8)) (ax (bU 25) (ae (aa 9) (ae ii (ae (Id ac (ax bi (ae (aa 9) (Ev pc)))) (ae be (Ev cr)))))))))) (ay (Go (ae u8 (Ev (aa 7)))))))))))
def ib:FnM:=aW 7 (ak (aF 2 (br (aX (fUn j7 (Fa bn ac))) bu (ax gH (ae ci (ae cr (Ev bn)))))) (ak (cO 3 ai) (ak (aF 4 kt) (ak (bo (aU gl) (ak (aF 4 db) (cB 5 (aX cr) (ak (aF 6 (Id (fu (aX dL) bu (Fa bn be)) (fCB fE (Ev (Fa bn be))))) (fIf (bD (ar (af iX ii dL)) (ar (af eqG (br (aX (Fa ii ac)) (ar (af bL (Fa bn be) (aa 7))) bn) (IN ai)))) (ak (b8 3 ii) (aF 4 kt)) aK)))) 100000) (ay dL)))))
def ic:FnM:=aW 7 (ak (aF 2 (kH (br (aX bn) bu (Go (ae (Fa bn be) (Ev bn)))))) (ak (aF 3 (IN (Ev ci))) (ak (aF 4 be) (ak (bo (ar (KK gl (Ix (Ev dL)))) (ak (fIf (ar (af inA (Fa dL gl) cr)) (ak (aF 5 (LE cr (Fa dL gl))) (ak (mF 6 (aX (Fa ii ac)) bu (Fa bn be)) (ak (fIf (ar (Fr (Fa (Fa ii im) be) pp)) (b8 6 (Fa (Fa ii im) ac)) aK) (aF 3 (Id dL (fu (aX u8) (ar (af bL bn gl)) bn)))))) aK) (aF 4 (Id gl ac))) 100000) (ay (br (aX bn) (ar (af inD (Fa bn be) gl)) bn))))))
def q8:FS:=aF 2 (ax fO (Ev bn))
def qY:FT:=ar (af gk ci cr)
def k8(ws:List W)(T:Tp):Option (Str×Tp):=bnd (q8 (ws.map some++MX (3-ws.length) none) T) fun p T1=>match (p:Fl×Rho) with
 | (.nx,ρ1)=>bnd (qY ρ1 T1) fun b T2=>if b=true then (match (ρ1[1]?:Option (Option W)) with
  |some (some (.d (.str x)))=>if (QD x).length+1000<=Mz then some (x,T2) else none
  | _=>none) else none
 |_=>none
def gD:FnM:=fun ws T=>if ws.length=2/\dO ws=true then bnd (k8 ws T) fun x T1=>some (.list [.bool true,.bool false,.str x],T1) else none
def et:FnM:=aW 6 (ak (aF 3 (fCB dP (Ev cr))) (ak (aF 4 (br (aX cr) bu (Fa bn be))) (ak (cB 5 (aX gl) (fIf (bG (aU (ax (bO 25) (ae (ax fW (ae cr (Ev ii))) (Ev (ax ie (ae bn (ae ci (Ev ii))))))))) (ay db) aK)) (ak (cB 5 (aX (Id (fCB kq (Ev (Id (fCB fE (Ev (Fa bn be))) (fCB fE (Ev (Fa bn ac)))))) (IN (ae (fC (.str "zzzzzzzz")) (Ev wp))))) (fIf (bD (ar (af bL ii gl)) (bG (aU (ax (bO 25) (ae (ax gD (ae cr (Ev ii))) (Ev (IN (ae kt (ae db (Ev ii)))))))))) (ay db) aK)) (ay (af eqG cr dL))))))
def mP:FnM:=aW 7 (ak (aF 1 (ax ip (ae bn (ae ac (Ev db))))) (ak (aF 2 (ax il (Ev ci))) (ak (aF 3 (ax ib (ae ci (Ev cr)))) (ak (aF 4 (br (aX dL) (ar (af neD (Fa (Fa bn im) be) io)) bn)) (ak (aF 5 (af cq (ax dI (ae bn (Ev be))) (Id (Ix (Ev gl)) ac))) (ak (aF 3 (Id (Id (br (aX dL) (ar (Fr (Fa (Fa bn im) be) io)) bn) (fSl gl (fP ii) bw)) (fSl gl bw (fP ii)))) (ak (fIf (bB (bG (aU (ax et (ae ci (ae cr (Ev dL)))))) (bG (aU (ax et (ae ci (ae cr (Ev (IN ai)))))))) (ay db) aK) (ak (cB 6 (aX dL) (fIf (bG (aU (ax et (ae ci (ae cr (Ev (ax ic (ae dL (Ev (Fa u8 be)))))))))) (ay db) aK)) (ay kt)))))))))
def k6:FS:=(fH 1 (Fa cr be) cr)
theorem xV:fO=aW 3 (ak (g7 1) (ak (cB 2 (aX bn) k6) (ay ci))):=rfl
def ia:FS:=(ak (aF 3 (Fa (LE bn (Fa cr (fUn bA ac))) im)) (ak (fIf (ar (Fr (Fa dL be) io)) (ay (Go (ae io (Ev (ax ir (Ev (Fa dL ac))))))) aK) (ak (fIf (ar (Fr (Fa dL be) f8)) (ay (Go (ae f8 (ae (LT (Ev cr)) (Ev (Fa dL ac)))))) aK) (b8 2 (Fa dL ac)))))
def d7:FS:=(ak (aF 5 (mI (b9 25) (ae (Fa bn ac) (Ev dL)))) (ak (fIf (bB (ar (Fr (Fa ii be) f8)) (ar (Fr (Fa bn be) wE))) (ay (Go (ae gl (Ev (Fa (IN (ae ii (Ev (Go (ae io (Ev (ax (cJ 25) (Ev (Fa ii ac))))))))) (M0 (Ev (Fr (Fa ii be) lf)))))))) aK) (fIf (ar (Fr (Fa bn be) tz)) (aF 0 (Fa bn (Id im (M0 (Ev (af inD (jx (Fa ii ac)) (IN (ae sK (ae (fC (.str "''")) (Ev (fC (.str "()")))))))))))) (fIf (bG (aU (ax fR (Ev (Fa ii ac))))) (ay (Go (ae gl (Ev (Go (ae f8 (Ev AT))))))) (ak (aF 6 (ax gG (ae (Fa bn be) (ae ci (ae cr (ae (Ix (Ev gl)) (Ev (Fa ii ac)))))))) (ak (fIf (aU (fUn (bf .tup) u8)) (ay (Go (ae gl (Ev u8)))) aK) (ak (b8 3 (Fa u8 be)) (ak (fIf (ar (Fr (Fa bn be) wf)) (b8 4 (Go (ae (Fa ii ac) (Ev (ax (cJ 25) (Ev (Fa u8 be))))))) aK) (aF 0 (Fa bn im))))))))))
def fh:FS:=(ak (aF 4 (kG (Fa (ax d0 (ae (LE (Fa bn ac) dL) (ae ci (Ev mt)))) ac))) (fIf (ar (Fr (Fa gl be) io)) (ak (fH 1 dL (Fa (ax fQ (Ev (Fa gl ac))) be)) (aF 2 kt)) aK))
def lD:FS:=(ak (aF 2 db) (cB 3 (aX (br (aX (Fa bn ac)) (ar (af gk bn cr)) bn)) fh))
def iZ:FS:=(ak (fIf (ar (af gk (Fa dL (fUn bA ac)) (Fa bn ac))) (ay (Go (ae xz (Ev (LT (Ev dL)))))) aK) (ak (aF 4 (Fa (ax d0 (ae (LE (Fa bn ac) (Fa dL (fUn bA ac))) (ae ci (Ev mt)))) ac)) (ak (fIf (ar (Fr (Fa gl be) f8)) (ay (Go (ae f8 (ae (LT (Ev dL)) (Ev (Fa gl ac)))))) aK) (b8 3 (Fa gl ac)))))
def eV:FS:=(ak (aF 6 (Id (fu (aX dL) bu (Fa bn be)) (fCB fE (Ev (Fa bn be))))) (fIf (bD (ar (af iX ii dL)) (ar (af eqG (br (aX (Fa ii ac)) (ar (af bL (Fa bn be) (aa 7))) bn) (IN ai)))) (ak (b8 3 ii) (aF 4 kt)) aK))
def k7:FS:=(ak (aF 4 db) (cB 5 (aX cr) eV))
theorem za:ib=aW 7 (ak (aF 2 (br (aX (fUn j7 (Fa bn ac))) bu (ax gH (ae ci (ae cr (Ev bn)))))) (ak (cO 3 ai) (ak (aF 4 kt) (ak (bo (aU gl) k7 100000) (ay dL))))):=rfl
def gE:FS:=(ak (fIf (ar (af inA (Fa dL gl) cr)) (ak (aF 5 (LE cr (Fa dL gl))) (ak (mF 6 (aX (Fa ii ac)) bu (Fa bn be)) (ak (fIf (ar (Fr (Fa (Fa ii im) be) pp)) (b8 6 (Fa (Fa ii im) ac)) aK) (aF 3 (Id dL (fu (aX u8) (ar (af bL bn gl)) bn)))))) aK) (aF 4 (Id gl ac)))
theorem zb:ic=aW 7 (ak (aF 2 (kH (br (aX bn) bu (Go (ae (Fa bn be) (Ev bn)))))) (ak (aF 3 (IN (Ev ci))) (ak (aF 4 be) (ak (bo (ar (KK gl (Ix (Ev dL)))) gE 100000) (ay (br (aX bn) (ar (af inD (Fa bn be) gl)) bn)))))):=rfl
def lh:FS:=(fIf (bG (aU (ax (bO 25) (ae (ax fW (ae cr (Ev ii))) (Ev (ax ie (ae bn (ae ci (Ev ii))))))))) (ay db) aK)
def jM:FS:=(fIf (bD (ar (af bL ii gl)) (bG (aU (ax (bO 25) (ae (ax gD (ae cr (Ev ii))) (Ev (IN (ae kt (ae db (Ev ii)))))))))) (ay db) aK)
theorem zT:et=aW 6 (ak (aF 3 (fCB dP (Ev cr))) (ak (aF 4 (br (aX cr) bu (Fa bn be))) (ak (cB 5 (aX gl) lh) (ak (cB 5 (aX (Id (fCB kq (Ev (Id (fCB fE (Ev (Fa bn be))) (fCB fE (Ev (Fa bn ac)))))) (IN (ae (fC (.str "zzzzzzzz")) (Ev wp))))) jM) (ay (af eqG cr dL)))))):=rfl
def lN:FS:=(fIf (bG (aU (ax et (ae ci (ae cr (Ev (ax ic (ae dL (Ev (Fa u8 be)))))))))) (ay db) aK)
theorem By:mP=aW 7 (ak (aF 1 (ax ip (ae bn (ae ac (Ev db))))) (ak (aF 2 (ax il (Ev ci))) (ak (aF 3 (ax ib (ae ci (Ev cr)))) (ak (aF 4 (br (aX dL) (ar (af neD (Fa (Fa bn im) be) io)) bn)) (ak (aF 5 (af cq (ax dI (ae bn (Ev be))) (Id (Ix (Ev gl)) ac))) (ak (aF 3 (Id (Id (br (aX dL) (ar (Fr (Fa (Fa bn im) be) io)) bn) (fSl gl (fP ii) bw)) (fSl gl bw (fP ii)))) (ak (fIf (bB (bG (aU (ax et (ae ci (ae cr (Ev dL)))))) (bG (aU (ax et (ae ci (ae cr (Ev (IN ai)))))))) (ay db) aK) (ak (cB 6 (aX dL) lN) (ay kt))))))))):=rfl
end G
namespace K1
open PySem
structure Sh(d:Mo)(k n:Nat):Prop where
 sh:d.showable=true
 lv:d.leavesShort 200=true
 dp:d.depth<=k
 wt:d.weight<=n
theorem Sh.mono(h:Sh d k n)(hk:k<=k')(hn:n<=n'):Sh d k' n':=⟨h.sh,h.lv,MP h.dp hk,MP h.wt hn⟩
theorem Sh.int(h:i.natAbs<10^40):Sh (.int i) 0 200:=by
 have l:i.natAbs.log2<150:=by
  by_cases h0:i.natAbs=0
  .rw[h0];decide
  .exact(Ss h0).mpr (QQ h (by decide))
 refine⟨?_,?_,MC _,?_⟩
 .show decide (i.natAbs.log2<1920)=true
  exact decide_eq_true (by omega)
 .show decide ((PyData.shown (.int i)).length<=200)=true
  refine decide_eq_true ?_;have e:=int_text_length_le10 (k:=40) (by decide) h;show (Mv (toString i)).length<=200;rw[PySem.ofString_length];omega
 .show (if i == 0 then 0 else i.natAbs.log2+1)<=200
  split <;> omega
theorem Sh.str(h:∀c∈x.cps.toList,c<128)(hn:x.length<=n):Sh (.str x) 0 n:=by
 refine⟨rfl,?_,MC _,hn⟩;show (x.cps.toList.all fun c=>decide (c<16^8))=true;exact MM.mpr fun c hc=>decide_eq_true (QQ (h c hc) (by decide))
structure Shs(ds:List Mo)(k n:Nat):Prop where
 sh:Ta ds=true
 lv:Sa 200 ds=true
 dp:PX ds<=k
 wt:O8 ds<=n
theorem Shs.nil(k n:Nat):Shs [] k n:=⟨rfl,rfl,Oj _,Oj _⟩
theorem Shs.cons(h:Sh d k n)(t:Shs ds k m):Shs (d::ds) k (n+1+m):=by
 refine⟨?_,?_,?_,?_⟩
 .show (d.showable&&Ta ds)=true
  rw[h.sh,t.sh];rfl
 .show (d.leavesShort 200&&Sa 200 ds)=true
  rw[h.lv,t.lv];rfl
 .show max d.depth (PX ds)<=k
  exact Nat.max_le.mpr ⟨h.dp,t.dp⟩
 .show d.weight+1+O8 ds<=n+1+m
  have:=h.wt;have:=t.wt;omega
theorem Shs.of:∀{ds:List Mo}{k:Nat}{f:Mo->Nat},(∀d∈ds,Sh d k (f d))->Shs ds k ((ds.map fun d=>f d+1).sum)
 |[],k,f,_=>Shs.nil _ _
 |d::r,k,f,h=>by
  have q:=Shs.of (ds:=r) (f:=f) fun x hx=>h x (Mr _ hx);have z:=Shs.cons (h d Mq) q;simpa using z
theorem Sh.tuple(h:Shs ds k n):Sh (.tuple ds) (k+1) n:=⟨h.sh,h.lv,Nat.succ_le_succ h.dp,h.wt⟩
theorem gS(hs:∀c∈s.cps.toList,c<128)(h:has s x=true):∀c∈x.cps.toList,c<128:=fun c hc=>
 hs c (of_decide_eq_true (MM.mp h c hc))
theorem jo:∀c∈TXT.cps.toList,c<128:=by decide +kernel
theorem wb:∀c∈LET.cps.toList,c<128:=by decide +kernel
theorem pQ:∀(n:Nat) (d:Mo),aG n d=true->Sh d n (201*(aD n d).toNat)/\1<=aD n d
 |0,d,h=>by
  cases d with
  |int i=>
   have h':=of_decide_eq_true (p:=(if i<0 then -i else i)<=10^18) h;refine⟨(Sh.int ?_).mono (MC _) (by show 200<=201*(1:Int).toNat;decide),OR 1⟩
   have:i.natAbs<=10^18:=by split at h' <;> omega
   exact NK this (by decide)
  |str x=>
   have h':(decide (x.length<=20)&&has TXT x)=true:=h;rw[Mx] at h';have:=of_decide_eq_true h'.1;exact⟨(Sh.str (n:=20) (gS jo h'.2) this).mono (MC _) (by show 20<=201*(1:Int).toNat;decide),OR 1⟩
  |_=>cases h
 |n+1,d,h=>by
  cases d with
  |int i=>
   have h':=of_decide_eq_true (p:=(if i<0 then -i else i)<=10^18) h;refine⟨(Sh.int ?_).mono (Oj _) (by show 200<=201*(1:Int).toNat;decide),OR 1⟩
   have:i.natAbs<=10^18:=by split at h' <;> omega
   exact NK this (by decide)
  |str x=>
   have h':(decide (x.length<=20)&&has TXT x)=true:=h;rw[Mx] at h';have:=of_decide_eq_true h'.1;exact⟨(Sh.str (n:=20) (gS jo h'.2) this).mono (Oj _) (by show 20<=201*(1:Int).toNat;decide),OR 1⟩
  |tuple ds=>
   have h':(decide (ds.length<=8)&&ds.all (aG n))=true:=h;rw[Mx] at h';have ha:=MM.mp h'.2;have q:=Shs.of (ds:=ds) (k:=n) (f:=fun x=>201*(aD n x).toNat) fun x hx=>(pQ n x (ha x hx)).1
   have key:∀l:List Mo,(∀x∈l,1<=aD n x)->0<=(l.map (aD n)).sum/\(l.map fun x=>201*(aD n x).toNat+1).sum<=201*((l.map (aD n)).sum).toNat+l.length:=by
    intro l
    induction l with
    |nil=>intro _;exact⟨by simp,by simp⟩
    |cons x r ih=>
     intro hx;have h1:=hx x Mq;have h2:=ih fun y hy=>hx y (Mr _ hy);simp only[M5,OE,MY];omega
   have kk:=key ds fun x hx=>(pQ n x (ha x hx)).2;have hl:=of_decide_eq_true h'.1;have e:aD (n+1) (.tuple ds)=1+(ds.map (aD n)).sum:=rfl;refine⟨(Sh.tuple q).mono (MC _) ?_,?_⟩
   .rw[e];omega
   .rw[e];omega
  |_=>cases h
end K1
namespace K1
open PySem
def Good(d:Mo):Prop:=Sh d 60 60000
end K1
namespace G
open L2 D
open K1 (has LET TXT single aG aD lsz isName aJ tdp bt ldp)
mutual
def smB:Mo->Bool
 |.str x=>decide (x.length<=60000)&&x.cps.toList.all fun c=>decide (c<128)
 |.tuple ds=>hJ ds
 |_=>true
def hJ:List Mo->Bool
 |[]=>true
 |d::r=>smB d&&hJ r
end
def Sm(d:Mo):Prop:=smB d=true
theorem Sm.both(h:Sm (.str x)):x.length<=60000/\∀c∈x.cps.toList,c<128:=by
 have h':(decide (x.length<=60000)&&x.cps.toList.all fun c=>decide (c<128))=true:=by
  have:smB (.str x)=true:=h;rw[smB] at this;exact this
 rw[Mx,MM] at h';exact⟨of_decide_eq_true h'.1,fun c hc=>of_decide_eq_true (h'.2 c hc)⟩
theorem Sm.str(h:Sm (.str x)):x.cps.size<=60000:=h.both.1
theorem Sm.mkS(h:x.length<=60000)(h2:∀c∈x.cps.toList,c<128):Sm (.str x):=by
 show smB (.str x)=true;rw[smB,Mx,MM];exact⟨decide_eq_true h,fun c hc=>decide_eq_true (h2 c hc)⟩
theorem tI:∀{ds:List Mo}{d:Mo},hJ ds=true->d∈ds->smB d=true
 |e::r,d,h,hd=>by
  have h':(smB e&&hJ r)=true:=by simpa[hJ] using h
  rw[Mx] at h'
  rcases MG.mp hd with z|z
  .rw[z];exact h'.1
  .exact tI h'.2 z
theorem Sm.part(h:Sm (.tuple ds))(hd:d∈ds):Sm d:=tI (by simpa[Sm,smB] using h) hd
theorem uD:∀{ds:List Mo},(∀d∈ds,Sm d)->hJ ds=true
 |[],_=>by simp[hJ]
 |d::r,h=>by
  have h1:smB d=true:=h d Mq;simp[hJ,h1,uD (ds:=r) fun x hx=>h x (Mr _ hx)]
theorem Sm.tup(h:∀d∈ds,Sm d):Sm (.tuple ds):=by simp[Sm,smB,uD h]
def whole:Mo->Bool
 |.int _=>true
 |_=>false
theorem pJ(x:Mo)(T:Tp):i5 [.d x] T=some (.bool (whole x),T):=by cases x <;> rfl
theorem sf(y x:Str):(D.signs x).all (pO y)=has y x:=by
 unfold D.signs has;rw[VA]
 congr 1
 funext c;exact tZ y c
theorem xg(T:Tp)(h:x.length<=Mz):eX [.d (.str x),.d (.str y)] T=some (.bool (has y x),T):=by
 have hc:bz bu (af inD (aa 0) (aa 2)) [some (.d (.str x)),some (.d (.str y))] (D.signs x) T=some ((D.signs x).map fun d=>.bool (pO y d),T):=dw fun d hd=>by
  obtain⟨c,_,rfl⟩:=Ac hd;rfl
 simp[eX,h,hc,sf]
theorem Cr(T:Tp)(h:Sm d):ik [.d d] T=some (.bool (single d),T):=by
 cases d with
 |str x=>
  have hz:x.length<=sizeLine:=MP h.str (by decide);have hh:∀T,eX [.d (.str x),.d (.str "abcdefghijklmnopqrstuvwxyz0123456789-")] T=some (.bool (has TXT x),T):=fun T=>xg T hz;have e:single (.str x)=(decide (x.length<=20)&&has TXT x):=rfl;have hi:a8 .str .str=true:=rfl
  by_cases hk:x.length<=20
  .have hk':(x.length:Int)<=20:=by omega
   simp[ik,pJ,whole,hh,hz,hi,e,hk,hk']
  .have hk':¬(x.length:Int)<=20:=by omega
   simp[ik,pJ,whole,hh,hz,hi,e,hk,hk']
 |_=>rfl
theorem kf(h:kd d=.tup):∃ds,d=.tuple ds:=by cases d <;> first|exact⟨_,rfl⟩|cases h
theorem oZ(h:kd d≠.tup):a8 (kd d) .tup=false:=by
 revert h
 cases kd d <;> simp[a8]
theorem rz(h:kd d≠.tup):aG n d=single d:=by cases d <;> first|(cases n <;> rfl)|exact absurd rfl h
theorem nL(h:kd d≠.tup):aD n d=1:=by cases d <;> first|(cases n <;> rfl)|exact absurd rfl h
theorem xm(h:tdp 0 d=true):kd d≠.tup:=by
 intro z
 cases d <;> first|cases h;done|cases z
theorem iI:a8 .tup .tup=true:=rfl
theorem vh:∀(n k:Nat) (d:Mo) (T:Tp),Sm d->n<k->dJ k [.d d,.d (.int n)] T=some (.bool (aG n d),T)
 |n,0,d,T,_,hk=>absurd hk (N7 _)
 |n,k+1,d,T,hg,hk=>by
  by_cases ht:kd d=.tup
  .obtain⟨ds,rfl⟩:=kf ht
   cases n with
   |zero=>simp[dJ,iI,aG]
   |succ n=>
    have e:aG (n+1) (.tuple ds)=(decide (ds.length<=8)&&ds.all (aG n)):=rfl
    have h0:¬((n+1:Nat):Int)=0:=by omega
    have h0':¬(n:Int)+1=0:=by omega
    by_cases h8:ds.length<=8
    .have h8':¬(8:Int)<(ds.length:Int):=by omega
     have hs:((n+1:Nat):Int)-1=(n:Int):=by omega
     have hc:bz bu (ax (dJ k) (ae (aa 0) (ae (af er (aa 2) (fC (.int 1))) ai))) [some (.d (.tuple ds)),some (.d (.int ((n+1:Nat):Int)))] ds T=some (ds.map fun x=>.bool (aG n x),T):=dw fun x hx=>by
      have:=vh n k x T (hg.part hx) (by omega);simp[hs,this]
     simp[dJ,iI,e,h0,h0',h8,h8'] at hc ⊢;simp[hc]
    .have h8':(8:Int)<(ds.length:Int):=by omega
     simp[dJ,iI,e,h0,h0',h8,h8']
  .simp[dJ,oZ ht,rz ht,Cr T hg]
theorem wa:∀(n k:Nat) (d:Mo) (T:Tp),tdp n d=true->n<k->eZ k [.d d] T=some (.int (aD n d),T)
 |n,0,d,T,_,hk=>absurd hk (N7 _)
 |n,k+1,d,T,hg,hk=>by
  by_cases ht:kd d=.tup
  .cases n with
   |zero=>exact absurd ht (xm hg)
   |succ n=>
    obtain⟨ds,rfl⟩:=kf ht;have hg':ds.all (tdp n)=true:=hg;have e:aD (n+1) (.tuple ds)=1+(ds.map (aD n)).sum:=rfl
    have hc:bz bu (ax (eZ k) (ae (aa 0) ai)) [some (.d (.tuple ds))] ds T=some (ds.map fun x=>.int (aD n x),T):=dw fun x hx=>by
     have:=wa n k x T (MM.mp hg' x hx) (by omega);simp[this]
    simp[eZ,iI,e,hc]
  .simp[eZ,oZ ht,nL ht]
theorem D5(T:Tp)(h:Sm d):iu [.d d] T=some (.bool (aJ d),T):=by
 have h1:=vh 4 25 d T h (by decide);have h1':dJ 25 [.d d,.d (.int 4)] T=some (.bool (aG 4 d),T):=h1;have e:aJ d=(aG 4 d&&decide (aD 4 d<=40)):=rfl
 cases hb:aG 4 d with
 |false=>simp[iu,h1',e,hb]
 |true=>
  have h2:=wa 4 25 d T (K1.om 4 d hb) (by decide);simp[iu,h1',h2,e,hb]
end G
namespace D
open L2
def cd(x:Str):List Nat:=x.cps.toList
theorem dB(h:cd x=cd y):x=y:=by
 obtain⟨x⟩:=x;obtain⟨y⟩:=y;have h':x.toList=y.toList:=h;exact congrArg Str.mk (T9.mp h')
theorem cg(x:Str):(cd x).length=x.length:=NN
theorem kh(x y:Str):cd (x++y)=cd x++cd y:=cps_toList_append x y
theorem sv{α:Type}(xs:List α)(a:Nat):∀k:Nat,(NZ k).filterMap (fun m=>xs[a+m]?)=(xs.drop a).take k
 |0=>by simp
 |k+1=>by
  rw[List.range_succ,List.filterMap_append,sv xs a k,Rk]
  congr 1
  simp only[Oy,List.filterMap_nil,List.getElem?_drop]
  cases xs[a+k]? <;> rfl
theorem oB(h0:0<=i)(h1:0<=j):cd (NH x (some i) (some j))=((cd x).drop i.toNat).take (j.toNat-i.toNat):=by
 obtain⟨a,rfl⟩:=RB h0;obtain⟨b,rfl⟩:=RB h1;rw[Qh,Qh];have hl:x.cps.toList.length=x.length:=NN;obtain⟨p,hp⟩:∃p,min a x.length=p:=⟨_,rfl⟩;obtain⟨q,hq⟩:∃q,min b x.length=q:=⟨_,rfl⟩
 have e:ND (some (a:Int)) (some (b:Int)) 1 x.length=(NZ (q-p)).map fun k=>p+k:=by
  have m:∀c:Nat,max 0 (min (c:Int) x.length)=((min c x.length:Nat):Int):=fun c=>by
   rcases Ts c x.length with h|h
   .rw[Pm h,Int.min_eq_left (Tt.mpr h),Ua (P4 c)]
   .rw[PH h,Int.min_eq_right (Tt.mpr h),Ua (P4 _)]
  unfold ND sliceRange;simp only[show (1:Int)>0 by decide,if_true,UK.mpr (P4 a),UK.mpr (P4 b),if_false];rw[m,m,hp,hq]
  have ec:(if (p:Int)<q then ((q:Int)-p+1-1) / 1 else 0).toNat=q-p:=by
   split
   .rw[Vv,Int.add_sub_cancel];exact Int.toNat_sub q p
   .rename_i z;exact(Nat.sub_eq_zero_of_le (Tt.mp (UK.mp z))).symm
  rw[ec];refine Ni fun k _=>?_;rw[Int.one_mul];rfl
 have fin:(x.cps.toList.drop p).take (q-p)=((cd x).drop a).take (b-a):=by
  unfold cd
  rcases Ts a x.length with hi|hi
  .rw[Pm hi] at hp
   subst hp
   rcases Ts b x.length with hj|hj
   .rw[←hq,Pm hj]
   .rw[←hq,PH hj,Nz (by rw[NG,hl];exact MC _),Nz (by rw[NG,hl];exact Nat.sub_le_sub_right hj _)]
  .rw[←hp,PH hi,Of (To hl),Of (hl ▸ hi)]
   rw[Vf,Vf]
 unfold NH;split
 .rename_i h
  have h':(ND (some (a:Int)) (some (b:Int)) 1 x.length).length=x.length:=by simpa using h
  rw[e,Nd,List.length_range] at h';rw[←fin];show x.cps.toList=_;rw[h',Nz (by rw[NG,hl];exact Nat.sub_le _ _)];have q1:q<=x.length:=hq ▸ TN _ _
  by_cases hz:x.length=0
  .rw[List.length_eq_zero_iff.mp (hl.trans hz),List.drop_nil]
  .rw[show p=0 by omega];rfl
 .rw[←fin,←sv]
  show List.filterMap _ (ND _ _ 1 x.length)=_;rw[e,SZ]
  congr 1
  funext m;simp
theorem i3(h0:0<=i)(h1:i<=(x.length:Int)):cd (NH x (some i) none)=(cd x).drop i.toNat:=by
 rw[slice_from_eq h0 h1 rfl];show (List.take _ _)=_;refine Nz ?_;rw[NG];have:x.cps.toList.length=x.length:=NN;omega
def aZ(c:List Nat):List (List Nat)->List Nat
 |[]=>[]
 |[x]=>x
 |x::y::r=>x++c++aZ c (y::r)
theorem l8(z:Str):∀ys:List Str,cd (Qm z ys)=aZ (cd z) (ys.map cd)
 |[]=>rfl
 |[x]=>by
  show cd (Qm z [x])=cd x;simp[Qm]
 |x::y::r=>by
  have ih:=l8 z (y::r);show cd ((x++z)++Qm z (y::r))=_;rw[kh,kh,ih];rfl
theorem gI(c x:List Nat)(r:List (List Nat)):aZ c (x::r)=x++(r.map (c++·)).flatten:=by
 induction r generalizing x with
 |nil=>simp[aZ]
 |cons y r ih=>
  show x++c++aZ c (y::r)=_;rw[ih y];simp
theorem rA:Oq x ⟨#[c]⟩=decide ((cd x).head? = some c):=by
 unfold Oq
 have hl:(⟨#[c]⟩:Str).length=1:=rfl;rw[hl];obtain⟨⟨l⟩⟩:=x
 cases l with
 |nil=>rfl
 |cons a r=>
  have h1:(0+1<=(⟨⟨a::r⟩⟩:Str).length):=by show 0+1<=(a::r).length;simp
  rw[decide_eq_true h1,Bool.true_and];show Tu ⟨⟨a::r⟩⟩ ⟨#[c]⟩ 0=decide ((a::r).head? = some c)
  have e:(⟨⟨a::r⟩⟩:Str).cps.extract 0 (0+(⟨#[c]⟩:Str).length) = #[a]:=by
   rw[hl];apply T9.mp;rw[Array.toList_extract];rfl
  unfold Tu;rw[e,Oi];simp
end D
namespace G
open L2 D
open K1 (has LET TXT single aG aD lsz isName aJ tdp bt ldp)
def mk(l:List Nat):Str:=⟨l.toArray⟩
theorem bv(l:List Nat):cd (mk l)=l:=by simp[cd,mk]
theorem qm(x:Str):mk (cd x)=x:=dB (bv _)
theorem bV(l:List Nat):(mk l).length=l.length:=by simp[mk,S4]
def dg(m:Nat):List Nat:=(QS 10 m).map UL
theorem g8(m:Nat):Qp (dg m):=fun c hc=>by
 obtain⟨ch,hch,e⟩:=MJ.mp hc;rw[←e];exact digit_range (Nat.isDigit_of_mem_toDigits (by decide) (by decide) hch)
theorem mJ(m:Nat):N2 (dg m)=m:=W.KIN.val_back m
theorem jy(m:Nat):dg m≠[]:=fun e=>by
 have h:=toDigits_len_ge 10 m;rw[List.map_eq_nil_iff.mp e] at h;exact absurd h (by decide)
theorem jn(h:m<=10^18):(dg m).length<=19:=by
 unfold dg;rw[Nd];exact toDigits_len_pow (by decide) (by decide) (NK h (by decide))
def nc:Int->List Nat
 |.ofNat m=>dg m
 |.negSucc m=>45::dg (m+1)
theorem GP(i:Int):cd (Mv (toString i))=nc i:=by
 cases i with
 |ofNat m=>exact W.KIN.signs_num m
 |negSucc m=>
  have e:toString (Int.negSucc m)="-"++toString (m+1):=rfl;unfold cd;rw[e,Sv];show ("-"++Nat.repr (m+1)).toList.map UL=_;rw[String.toList_append,NV,Nat.toList_repr];rfl
theorem lY(i:Int):∀c∈nc i,c=45\/(48<=c/\c<=57):=by
 cases i with
 |ofNat m=>exact fun c hc=>.inr (g8 m c hc)
 |negSucc m=>
  intro c hc
  rcases MG.mp hc with h|h
  .exact .inl h
  .exact .inr (g8 _ c h)
theorem GO(i:Int):nc i≠[]:=by
 cases i with
 |ofNat m=>exact jy m
 |negSucc m=>exact fun h=>nomatch h
theorem jL(h:single (.int i)=true):i.natAbs<=10^18:=by
 have h':(if i<0 then -i else i)<=10^18:=of_decide_eq_true h
 have e:((10:Int)^18)=1000000000000000000:=by decide
 have e2:((10:Nat)^18)=1000000000000000000:=by decide
 rw[e] at h';rw[e2]
 split at h' <;> omega
theorem pV(h:single (.int i)=true):(nc i).length<=20:=by
 have h:=jL h
 cases i with
 |ofNat m=>
  have:=jn (m:=m) h;show (dg m).length<=20;omega
 |negSucc m=>
  have:=jn (m:=m+1) h;show (dg (m+1)).length+1<=20;omega
theorem dY(h:single d=true):(∃i,d=.int i)\/∃x,d=.str x:=by cases d <;> first|exact .inl ⟨_,rfl⟩|exact .inr ⟨_,rfl⟩|cases h
theorem c9(h:aG n d=true):single d=true\/∃m ds,n=m+1/\d=.tuple ds/\ds.length<=8/\∀x∈ds,aG m x=true:=by
 by_cases k:kd d=.tup
 .obtain⟨ds,rfl⟩:=kf k
  cases n with
  |zero=>cases h
  |succ m=>
   right;have h':(decide (ds.length<=8)&&ds.all (aG m))=true:=h;rw[Mx] at h';exact⟨m,ds,rfl,rfl,of_decide_eq_true h'.1,MM.mp h'.2⟩
 .left
  rw[rz k] at h;exact h
theorem tY(h:a≠[]):(a++b).head? = a.head?:=by
 cases a with
 |nil=>exact absurd rfl h
 |cons=>rfl
def tl(f:Mo->List Nat)(ds:List Mo)(r:List Nat):List Nat:=(ds.map fun d=>44::32::f d).flatten++41::r
theorem nK(h:single (.str x)=true):has TXT x=true:=by
 have h':(decide (x.length<=20)&&has TXT x)=true:=h;rw[Mx] at h';exact h'.2
open K1 (has LET TXT single aG aD lsz isName aJ tdp bt ldp Sh Shs)
theorem vQ:a8 .str .str=true:=rfl
theorem Fg:a8 .str .tup=false:=rfl
theorem Fh:a8 .int .tup=false:=rfl
theorem Fi:a8 .int .str=false:=rfl
def sam(a b:Mo):Bool:=@decide (a=b) (Ou _)
def gt(ds:List Mo)(i:Int):PyData:=(ds[i.toNat]?).getD .none
def both(ds es:List Mo):Mo->Bool
 |.int i=>sam (gt ds i) (gt es i)
 |_=>true
theorem oQ:∀(n:Nat) (v:Mo),aG n v=true->Sm v
 |n,v,h=>by
  rcases c9 h with h1|⟨m,ds,rfl,rfl,_,hd⟩
  .rcases dY h1 with⟨i,rfl⟩|⟨x,rfl⟩
   .show smB (.int i)=true
    rw[smB];intro _ z;cases z;intro _ z;cases z
   .have h2:(decide (x.length<=20)&&has TXT x)=true:=h1
    rw[Mx] at h2;exact Sm.mkS (MP (of_decide_eq_true h2.1) (by decide)) (K1.gS K1.jo h2.2)
  .exact Sm.tup fun d hx=>oQ m d (hd d hx)
termination_by n=>n
theorem Eh(h:aJ v=true):Sm v:=by
 have h':(aG 4 v&&decide (aD 4 v<=40))=true:=h;rw[Mx] at h';exact oQ 4 v h'.1
theorem cU(h:aJ v=true):aG 4 v=true/\aD 4 v<=40:=by
 have h':(aG 4 v&&decide (aD 4 v<=40))=true:=h;rw[Mx] at h';exact⟨h'.1,of_decide_eq_true h'.2⟩
theorem lJ(n:Nat):∀d,1<=aD n d:=by
 induction n with
 |zero=>intro d;cases d <;> exact OR _
 |succ n ih=>
  intro d
  by_cases k:kd d=.tup
  .obtain⟨ds,rfl⟩:=kf k
   have:=K1.vq (aD n) ih ds;show 1<=1+(ds.map (aD n)).sum;omega
  .rw[nL k]
   exact OR _
theorem tw{f:Mo->Int}(h:∀d,0<=f d):∀{ds:List Mo}{d:Mo},d∈ds->f d<=(ds.map f).sum
 |e::r,d,hd=>by
  have nn:∀l:List Mo,0<=(l.map f).sum:=fun l=>by
   induction l with
   |nil=>exact OR _
   |cons a l ih=>rw[M5,OE];have:=h a;omega
  rw[M5,OE]
  rcases MG.mp hd with z|z
  .subst z
   have:=nn r;omega
  .have:=tw h (ds:=r) z
   have:=h e;omega
theorem sE{n:Nat}{ds:List Mo}{d:Mo}(h:d∈ds):aD n d<=aD (n+1) (.tuple ds):=by
 have:=tw (f:=aD n) (fun d=>by have:=lJ n d;omega) h;show aD n d<=1+(ds.map (aD n)).sum;omega
theorem dy(h:n<=2000):n<=sizeLine:=MP h (by decide)
theorem nq{α:Type}{a b:α}:atI [a,b] 0=some a:=rfl
theorem nk{α:Type}{a b:α}:atI [a,b] 1=some b:=rfl
theorem nP{P:Mo->Prop}(h:∀a b,P a->P b->(NQ a b=true↔a=b)):∀(ds es:List Mo),(∀d∈ds,P d)->(∀d∈es,P d)->(OV ds es=true↔ds=es)
 |[],[],_,_=>by simp[OV]
 |[],e::es,_,_=>by simp[OV]
 |d::ds,[],_,_=>by simp[OV]
 |d::ds,e::es,hd,he=>by
  have ih:=nP h ds es (fun x hx=>hd x (Mr _ hx)) (fun x hx=>he x (Mr _ hx));have i0:=h d e (hd d Mq) (he e Mq);simp only[OV];rw[Mx,i0,ih];simp
theorem jX(h:∀d∈ds,d.canLay0=true):Rl ds=true:=by
 induction ds with
 |nil=>simp[Rl]
 |cons d r ih=>
  simp only[Rl];rw[h d Mq,ih fun x hx=>h x (Mr _ hx)];rfl
theorem nQ:∀(n:Nat) (d:Mo),aG n d=true->d.canLay0=true
 |n,d,h=>by
  rcases c9 h with h1|⟨m,ds,rfl,rfl,h8,hd⟩
  .rcases dY h1 with⟨i,rfl⟩|⟨x,rfl⟩
   .simp[Os]
   .have hx:=nK h1
    simp only[Os];unfold PJ;rw[←T8,MM];intro c hc;have:=K1.gS K1.jo hx c hc;exact decide_eq_true (by omega)
  .simp only[Os]
   exact jX fun d hd'=>nQ m d (hd d hd')
termination_by n=>n
theorem vj:∀{ds:List Mo},(∀d∈ds,(d.weight:Int)+1<=61*f d)->(O8 ds:Int)<=61*(ds.map f).sum
 |[],_=>by simp[O8]
 |d::r,h=>by
  have h1:=h d Mq;have h2:=vj (ds:=r) fun x hx=>h x (Mr _ hx);simp only[O8,M5,OE];omega
theorem vi:∀(n:Nat) (d:Mo),aG n d=true->(d.weight:Int)+1<=61*aD n d
 |n,d,h=>by
  have hp:=lJ n d
  rcases c9 h with h1|⟨m,ds,rfl,rfl,h8,hd⟩
  .rcases dY h1 with⟨i,rfl⟩|⟨x,rfl⟩
   .have ha:=jL h1
    have:(Pv i).weight<=60:=by
     simp only[SW];split
     .omega
     .rename_i hz
      have z:i.natAbs≠0:=by simp at hz;omega
      have:=(Ss (k:=60) z).mpr (NK ha (by decide));omega
    omega
   .have h':(decide (x.length<=20)&&has TXT x)=true:=h1
    rw[Mx] at h';have hx:x.cps.size<=20:=of_decide_eq_true h'.1
    have:(Nk x).weight=x.cps.size:=by simp only[SW]
    omega
  .have:=vj (f:=aD m) (ds:=ds) fun d hd'=>vi m d (hd d hd')
   have e:(PK ds).weight=O8 ds:=by simp only[SW]
   rw[e];show _<=61*(1+(ds.map (aD m)).sum);omega
termination_by n=>n
theorem tK(h:aG n d=true):Sh d n (61*aD n d).toNat:=by
 obtain⟨s,_⟩:=K1.pQ n d h;have:=vi n d h;exact⟨s.sh,s.lv,s.dp,by omega⟩
theorem Bc(h:aJ v=true):Sh v 4 2440:=by
 obtain⟨hb,hm⟩:=cU h;exact(tK hb).mono (MC _) (by omega)
theorem Dy(h:Sh d 60 60000)(hd:d.hasDict=false):iP d=true:=by
 unfold iP;rw[h.sh,h.lv,decide_eq_true h.dp,decide_eq_true h.wt,hd];rfl
theorem zO(h:aG n v=true):v.hasDict=false:=PyData.hasDict_of_canLay v (nQ n v h)
theorem nN(h:aJ v=true):iP v=true:=Dy ((Bc h).mono (by decide) (by decide)) (zO (cU h).1)
theorem gp{α:Type}{xs:List α}{i:Int}(h0:0<=i)(h1:i<(xs.length:Int)):∃a,atI xs i=some a/\a∈xs:=by
 have h:i.toNat<xs.length:=by omega
 refine⟨xs[i.toNat],?_,TR h⟩;unfold atI ixN;rw[if_pos h0,if_pos h1];show xs[i.toNat]? = _;rw[NB h]
theorem Dr:(LET.cps.toList.length:Int)=26:=by decide +kernel
theorem B2(h:c7 xs=some ys):mU (.str z) (.list xs)=if (ys.map (·.length)).sum+ys.length*z.length<=16777216 then some (.str (Qm z ys)) else none:=by
 show (match c7 xs with|some (ys:List Str)=>if (ys.map fun x:Str=>x.length).sum+ys.length*z.length<=16777216 then some (Nk (Qm z ys)) else none|none=>none)=_;rw[h]
theorem BD(n:Nat):(bT 0 n).length=n:=by simp[bT]
theorem i6(h0:0<=j)(h1:j<=1000):kr j=true:=decide_eq_true (by omega)
theorem ph:LET.length<=sizeLine:=by decide +kernel
theorem rc(h:isName (.str x)=true):single (.str x)=true:=by
 have h':(decide (1<=x.length)&&decide (x.length<=8)&&has LET x)=true:=h;rw[Mx,Mx] at h';have h8:=of_decide_eq_true h'.1.2;show (decide (x.length<=20)&&has TXT x)=true;rw[decide_eq_true (by omega)]
 have sub:∀c∈LET.cps.toList,c∈TXT.cps.toList:=by decide +kernel
 exact MM.mpr fun c hc=>decide_eq_true (sub c (of_decide_eq_true (MM.mp h'.2 c hc)))
theorem iq(h : -1000000000000000000<=i)(h':i<=1000000000000000000):single (.int i)=true:=by
 show decide ((if i<0 then -i else i)<=10^18)=true;refine decide_eq_true ?_
 split <;> omega
theorem cX(h:single d=true):aG n d=true/\aD n d=1:=by
 cases d with
 |int i=>exact⟨by cases n <;> exact h,by cases n <;> rfl⟩
 |str x=>exact⟨by cases n <;> exact h,by cases n <;> rfl⟩
 |_=>cases h
theorem vp{f:Mo->Int}{q:Int}:∀{l:List Mo},(∀d∈l,f d<=q)->(l.map f).sum<=l.length*q
 |[],_=>by simp
 |a::r,h=>by
  have h1:=h a Mq;have h2:=vp (l:=r) fun d hd=>h d (Mr _ hd);rw[M5,OE,MY]
  have:((r.length+1:Nat):Int)*q=r.length*q+q:=by rw[R5,Int.add_mul];simp
  omega
open K1 (has LET TXT single aG aD lsz isName aJ tdp bt ldp Good Sh Shs)
@[simp] theorem Jj:Mv a=Mv b↔a=b:=by
 constructor
 .intro h
  have h2:(Mv a).cps.toList=(Mv b).cps.toList:=by rw[h]
  rw[Sv,Sv] at h2;have inj:Function.Injective Char.toNat:=fun x y e=>Char.ext (UInt32.toNat_inj.mp e);exact String.toList_inj.mp ((List.map_inj_right (fun x y e=>inj e)).mp h2)
 .rintro rfl;rfl
theorem iw:∀(n:Nat) (d:Mo),aG n d=true->aG (n+1) d=true/\aD (n+1) d=aD n d
 |n,d,h=>by
  rcases c9 h with h1|⟨m,ds,rfl,rfl,h8,hd⟩
  .exact⟨(cX h1).1,by rw[(cX (n:=n+1) h1).2,(cX (n:=n) h1).2]⟩
  .have ih:=fun d hd'=>iw m d (hd d hd')
   refine⟨?_,?_⟩
   .show (decide (ds.length<=8)&&ds.all (aG (m+1)))=true
    rw[decide_eq_true h8,MM.mpr fun d hd'=>(ih d hd').1];rfl
   .show 1+(ds.map (aD (m+1))).sum=1+(ds.map (aD m)).sum
    rw[Ni fun d hd'=>(ih d hd').2]
termination_by n=>n
@[simp] theorem JO:jx f ρ T=bnd (f ρ T) fun w T1=>mL T1 w:=rfl
def vl(v:Mo):PyData:=.tuple [.str "value",v]
def fl(w:String):PyData:=.tuple [.str "fails",.str (Mv w)]
def FW:List String:=["kind","part","great"]
def dN(R:Mo):Prop:=(∃v,R=vl v/\aJ v=true)\/∃w∈FW,R=fl w
theorem cK:dN (fl "kind"):=.inr ⟨_,by simp[FW],rfl⟩
theorem CF:dN (fl "part"):=.inr ⟨_,by simp[FW],rfl⟩
theorem zF:dN (fl "great"):=.inr ⟨_,by simp[FW],rfl⟩
def bd(d:Mo):PyData:=if aJ d=true then vl d else fl "great"
theorem lP(d:Mo):dN (bd d):=by
 unfold bd;split
 .rename_i h;exact .inl ⟨d,rfl,h⟩
 .exact zF
theorem oq(h:aJ (.tuple ds)=true)(hd:d∈ds):aJ d=true:=by
 obtain⟨hb,hm⟩:=cU h
 rcases c9 hb with h1|⟨m,ds',e,e',h8,hb'⟩
 .rcases dY h1 with⟨i,z⟩|⟨x,z⟩ <;> cases z
 .cases e;cases e'
  obtain⟨u1,u2⟩:=iw 3 d (hb' d hd);have:aD 3 d<=aD 4 (.tuple ds):=sE (n:=3) hd;show (aG 4 d&&decide (aD 4 d<=40))=true;rw[u1,u2,decide_eq_true (by omega)];rfl
theorem d6(h:aJ v=true):(∃i,v=.int i/\single (.int i)=true)\/(∃x,v=.str x/\x.length<=20/\∀c∈x.cps.toList,c<128)\/∃ds,v=.tuple ds/\ds.length<=8:=by
 rcases c9 (cU h).1 with h1|⟨m,ds,e,rfl,h8,hd⟩
 .rcases dY h1 with⟨i,rfl⟩|⟨x,rfl⟩
  .exact .inl ⟨i,rfl,h1⟩
  .have h':(decide (x.length<=20)&&has TXT x)=true:=h1
   rw[Mx] at h';exact .inr (.inl ⟨x,rfl,of_decide_eq_true h'.1,K1.gS K1.jo h'.2⟩)
 .exact .inr (.inr ⟨ds,rfl,h8⟩)
theorem lO(h : -1000000000000000000<=i)(h':i<=1000000000000000000):aJ (.int i)=true:=by
 show (single (.int i)&&decide ((1:Int)<=40))=true;rw[iq h h'];rfl
@[simp] theorem KR{α:Type}{a b:α}:atI [a,b] 0=some a:=rfl
@[simp] theorem KQ{α:Type}{a b:α}:atI [a,b] 1=some b:=rfl
@[simp] theorem KU{α:Type}{a:α}:atI [a] 0=some a:=rfl
@[simp] theorem KP{α:Type}{a b c:α}:atI [a,b,c] 0=some a:=rfl
@[simp] theorem KO{α:Type}{a b c:α}:atI [a,b,c] 1=some b:=rfl
@[simp] theorem KN{α:Type}{a b c:α}:atI [a,b,c] 2=some c:=rfl
@[simp] theorem Mj:a8 .int .int=true:=rfl
@[simp] theorem Mi:a8 .int .str=false:=rfl
@[simp] theorem Mh:a8 .int .tup=false:=rfl
@[simp] theorem Ml:a8 .int .bl=false:=rfl
@[simp] theorem Mf:a8 .str .str=true:=rfl
@[simp] theorem Me:a8 .str .tup=false:=rfl
@[simp] theorem Mg:a8 .str .int=false:=rfl
@[simp] theorem Mb:a8 .tup .tup=true:=rfl
@[simp] theorem Md:a8 .tup .int=false:=rfl
@[simp] theorem Mc:a8 .tup .str=false:=rfl
@[simp] theorem Ji(x:Mo)(T:Tp):i5 [.d x] T=some (.bool (whole x),T):=pJ x T
@[simp] theorem Ma(i:Int):whole (.int i)=true:=rfl
@[simp] theorem L9(x:Str):whole (.str x)=false:=rfl
@[simp] theorem L8(x:List Mo):whole (.tuple x)=false:=rfl
theorem FV(h:aJ (.tuple ds)=true)(h0:0<=i)(h1:i<(ds.length:Int)):∃d,atI ds i=some d/\aJ d=true:=by
 obtain⟨d,e,hd⟩:=gp h0 h1;exact⟨d,e,oq h hd⟩
def PW:List String:=["part","sum","join","same","less"]
inductive Ex(m:Int):Nat->Mo->Prop where
 |put {n:Nat}{v:Mo}:aJ v=true->Ex m n (.tuple [.str "put",v])
 |got {n:Nat}{i:Int}:0<=i->i<m->Ex m n (.tuple [.str "got",.int i])
 |row {n:Nat}{es:List Mo}:es.length<=8->(∀e∈es,Ex m n e)->Ex m (n+1) (.tuple [.str "row",.tuple es])
 |many {n:Nat}{e:Mo}:Ex m n e->Ex m (n+1) (.tuple [.str "many",e])
 |pair {n:Nat}{w:String}{a b:Mo}:w∈PW->Ex m n a->Ex m n b->Ex m (n+1) (.tuple [.str (Mv w),a,b])
def isF:Mo->Bool
 |.tuple (.str x::_)=>decide (x=Mv "fails")
 |_=>false
def vOf:Mo->Mo
 |.tuple [_,v]=>v
 |_=>.none
theorem Fk(v:Mo):isF (vl v)=false:=by
 show decide (Mv "value"=Mv "fails")=false
 decide +kernel
theorem Fm(w:String):isF (fl w)=true:=by
 show decide (Mv "fails"=Mv "fails")=true;exact decide_eq_true rfl
theorem rZ(h:dN R):(isF R=true/\∃w∈FW,R=fl w)\/(isF R=false/\R=vl (vOf R)/\aJ (vOf R)=true):=by
 rcases h with⟨v,rfl,hv⟩|⟨w,hw,rfl⟩
 .exact .inr ⟨Fk v,rfl,hv⟩
 .exact .inl ⟨Fm w,w,hw,rfl⟩
def iJ(m:FnM)(ws:List D.W)(T1:Tp):Option (D.W×Tp):=if kP ws=true then (match m (ws.map jH) [] with
 |some (x,_)=>if bH x=true then some (.d x,T1) else none
 | none=>none) else none
@[simp] theorem Jg:mI m a ρ T=bnd (a ρ T) (iJ m):=rfl
theorem ol(h1:kP ws=true)(h2:m (ws.map jH) []=some (x,T'))(h3:bH x=true):iJ m ws T=some (.d x,T):=by
 unfold iJ;rw[if_pos h1,h2];exact if_pos h3
theorem tm:∀{ds:List Mo},(∀d∈ds,bH d=true)->cZ ds=true
 |[],_=>by simp[cZ]
 |d::r,h=>by simp[cZ,h d Mq,tm (ds:=r) fun x hx=>h x (Mr _ hx)]
theorem rY:∀(n:Nat) (d:Mo),aG n d=true->bH d=true
 |n,d,h=>by
  rcases c9 h with h1|⟨m,ds,rfl,rfl,_,hd⟩
  .rcases dY h1 with⟨i,rfl⟩|⟨x,rfl⟩ <;> simp[bH]
  .simp[bH,tm fun x hx=>rY m x (hd x hx)]
termination_by n=>n
theorem CC(h:aJ v=true):bH v=true:=rY 4 v (cU h).1
theorem oz(h:dN R):bH R=true:=by
 rcases h with⟨v,rfl,hv⟩|⟨w,_,rfl⟩
 .simp[vl,bH,cZ,CC hv]
 .simp[fl,bH,cZ]
def qH(k:FS)(p:Fl×Rho)(T:Tp):Option ((Fl×Rho)×Tp):=match p with
 |(.nx,ρ1)=>k ρ1 T
 |(.ct,ρ1)=>k ρ1 T
 |(.bk,ρ1)=>some ((.nx,ρ1),T)
 |(.rt x,ρ1)=>some ((.rt x,ρ1),T)
 |(.ro x,ρ1)=>some ((.ro x,ρ1),T)
theorem DB:qH k (.nx,ρ) T=k ρ T:=rfl
theorem AL:forL i b (d::r) ρ T=bnd (b (ρ.set i (some (.d d))) T) (qH (forL i b r)):=rfl
theorem qM:cS (a::r) (some 1) none=r:=by
 have e:HT.sIx (a::r).length 0 (some 1)=1:=by
  have:=HT.CM (a::r).length 0 1;rw[show ((1:Nat):Int)=1 from rfl] at this;rw[this];simp
 have e2:HT.sIx (a::r).length (a::r).length none=(a::r).length:=rfl;unfold cS;rw[e,e2];simp
inductive Rg(p:Bool):Nat->Nat->Mo->Prop where
 |fail {g n:Nat}{x:Str}:isName (.str x)=true->Rg p g n (.tuple [.str "fail",.str x])
 |say {g n:Nat}{e:Mo}:Ex (g:Int) n e->Rg p g (n+1) (.tuple [.str "say",e])
 |ask {g n:Nat}{w:String}{e r:Mo}:(w="want"\/(w="peek"/\p=true))->g<12->Ex (g:Int) n e->Rg p (g+1) n r->Rg p g (n+1) (.tuple [.str (Mv w),e,r])
 |whn {g n:Nat}{e r s:Mo}:Ex (g:Int) n e->Rg p g n r->Rg p g n s->Rg p g (n+1) (.tuple [.str "when",e,r,s])
def mdT(v:Mo):PyData:=.tuple [.str "made",v]
def flT(x:Str):PyData:=.tuple [.str "fails",.str x]
def asT(b:Bool)(x:Str)(r:Mo):PyData:=.tuple [.str (Mv (if b then "peek" else "want")),.str x,r]
inductive StepOk(p:Bool)(g n:Nat):Mo->Prop where
 |md {v:Mo}:aJ v=true->StepOk p g n (mdT v)
 |fl {x:Str}:isName (.str x)=true->StepOk p g n (flT x)
 |ask {b:Bool}{x:Str}{r:Mo}{n':Nat}:(b=true->p=true)->isName (.str x)=true->g<12->n'<=n->Rg p (g+1) n' r->StepOk p g n (asT b x r)
theorem StepOk.up(h:StepOk p g n S)(l:n<=m):StepOk p g m S:=by
 cases h with
 |md a=>exact .md a
 |fl a=>exact .fl a
 |ask a b c d e=>exact .ask a b c (MP d l) e
theorem pj:∀w∈FW,isName (.str (Mv w))=true:=by decide +kernel
theorem uO:isName (.str "name")=true:=by decide +kernel
theorem xi{α:Type}{a b c d:α}:atI [a,b,c,d] 0=some a:=rfl
theorem Hn{α:Type}{a b c d:α}:atI [a,b,c,d] 1=some b:=rfl
theorem Hm{α:Type}{a b c d:α}:atI [a,b,c,d] 2=some c:=rfl
theorem Hl{α:Type}{a b c d:α}:atI [a,b,c,d] 3=some d:=rfl
theorem lA(h:∀d∈ds,d.depth<=k):PX ds<=k:=by
 induction ds with
 |nil=>simp[PX]
 |cons d r ih=>
  simp only[PX];have h1:=h d Mq;have h2:=ih fun x hx=>h x (Mr _ hx);omega
theorem nG(h:∀d∈l,aG 4 d=true):Nt (.list l)=true:=by
 unfold Nt
 have h1:(Pa l).canLay0=true:=by
  simp only[Os];exact jX fun d hd=>nQ 4 d (h d hd)
 have h2:(Pa l).depth<=64:=by
  simp only[Qq];have:=lA (k:=4) fun d hd=>(tK (h d hd)).dp;omega
 rw[h1,decide_eq_true h2];rfl
theorem eq_nil(h:∀d∈l,aG 4 d=true):eqG (.list l) (.list [])=some (.bool l.isEmpty):=by
 have h2:Nt (.list [])=true:=nG (l:=[]) (by simp);unfold eqG;rw[if_pos ⟨nG h,h2⟩]
 cases l <;> simp[NQ,OV]
theorem qZ(h:∀c∈x.cps.toList,c<128)(hd:d∈D.signs x):∃c,c∈x.cps.toList/\d=.str ⟨#[c]⟩:=by
 unfold D.signs at hd;obtain⟨c,hc,rfl⟩:=MJ.mp hd;exact⟨c,hc,rfl⟩
theorem ze(h:∀d∈l,∃c:Nat,c<128/\d=.str ⟨#[c]⟩):Nt (.list l)=true:=by
 unfold Nt
 have h1:(Pa l).canLay0=true:=by
  simp only[Os];refine jX fun d hd=>?_;obtain⟨c,hc,rfl⟩:=h d hd;simp only[Os];unfold PJ;simp;omega
 have h2:(Pa l).depth<=64:=by
  simp only[Qq]
  have:=lA (k:=0) (ds:=l) fun d hd=>by
   obtain⟨c,hc,rfl⟩:=h d hd;simp[Qq]
  omega
 rw[h1,decide_eq_true h2];rfl
theorem DF(h:∀d∈l,∃c:Nat,c<128/\d=.str ⟨#[c]⟩):eqG (.list l) (.list [])=some (.bool l.isEmpty):=by
 have h2:Nt (.list [])=true:=nG (l:=[]) (by simp);unfold eqG;rw[if_pos ⟨ze h,h2⟩]
 cases l <;> simp[NQ,OV]
theorem filter_none{α:Type}(p:α->Bool)(l:List α):(l.filter fun x=>!(p x)).isEmpty=l.all p:=by
 induction l with
 |nil=>rfl
 |cons a r ih=>
  rw[RC,Pn]
  cases p a with
  |true=>simpa using ih
  |false=>simp
theorem nV(c:FT)(hx:∀c∈x.cps.toList,c<128)(hc:∀z:Str,c (some (.d (.str z))::ρ) T=some (!(hW y z),T)) :
  ∃l,bz c (aa 0) ρ (D.signs x) T=some (l,T)/\eqG (.list l) (.list [])=some (.bool (has y x)):=by
 refine⟨(D.signs x).filter (fun d=>!(pO y d)),fV fun d hd=>?_,?_⟩
 .obtain⟨c',hc',rfl⟩:=qZ hx hd
  rw[hc];rfl
 .rw[DF,filter_none,sf]
  intro d hd;obtain⟨c',hc',rfl⟩:=qZ hx (Nx.mp hd).1;exact⟨c',hx c' hc',rfl⟩
theorem D9(T:Tp)(h:aJ v=true):fR [.d v] T=some (.bool (isName v),T):=by
 rcases d6 h with⟨i,rfl,_⟩|⟨x,rfl,hx,hx2⟩|⟨ds,rfl,_⟩
 .rfl
 .have hz:x.length<=sizeLine:=MP hx (by decide)
  have e:isName (.str x)=(decide (1<=x.length)&&decide (x.length<=8)&&has LET x):=rfl
  obtain⟨l,hc,hl⟩:=nV (y:=LET) (x:=x) (T:=T) (ρ:=[some (.d (.str x))]) (ar (af bL (aa 0) (fC (.str "abcdefghijklmnopqrstuvwxyz")))) hx2 fun z=>by simp;rfl
  by_cases h1:1<=x.length
  .have h1':¬(x.length:Int)<1:=by omega
   by_cases h8:x.length<=8
   .have h8':¬(8:Int)<(x.length:Int):=by omega
    simp[fR,hz,h1',h8',hc,hl,e,h1,h8]
   .have h8':(8:Int)<(x.length:Int):=by omega
    simp[fR,hz,h1',h8',e,h1,h8]
  .have h1':(x.length:Int)<1:=by omega
   simp[fR,hz,h1',e,h1]
 .rfl
theorem vf:∀(n k:Nat) (d:Mo) (T:Tp),tdp n d=true->n<k->eW k [.d d] T=some (.int (aD n d),T)
 |n,0,d,T,_,hk=>absurd hk (N7 _)
 |n,k+1,d,T,hg,hk=>by
  by_cases ht:kd d=.tup
  .cases n with
   |zero=>exact absurd ht (xm hg)
   |succ n=>
    obtain⟨ds,rfl⟩:=kf ht;have hg':ds.all (tdp n)=true:=hg;have e:aD (n+1) (.tuple ds)=1+(ds.map (aD n)).sum:=rfl
    have hc:bz bu (ax (eW k) (ae (aa 0) ai)) [some (.d (.tuple ds))] ds T=some (ds.map fun x=>.int (aD n x),T):=dw fun x hx=>by
     have:=vf n k x T (MM.mp hg' x hx) (by omega);simp[this]
    simp[eW,iI,e,hc]
  .simp[eW,oZ ht,nL ht]
def BP(d:Mo):Prop:=(∃i,d=.int i)\/(∃x,d=.str x/\x.length<=60000/\∀c∈x.cps.toList,c<128)\/∃ds,d=.tuple ds/\∀x∈ds,aG 4 x=true
theorem BP.of(h:aG 4 d=true):BP d:=by
 rcases c9 h with h1|⟨m,ds,e,rfl,h8,hd⟩
 .rcases dY h1 with⟨i,rfl⟩|⟨x,rfl⟩
  .exact .inl ⟨i,rfl⟩
  .have hs:=oQ 4 _ h
   exact .inr (.inl ⟨x,rfl,hs.both.1,hs.both.2⟩)
 .cases e
  exact .inr (.inr ⟨ds,rfl,fun x hx=>(iw 3 x (hd x hx)).1⟩)
theorem ve:∀(n k:Nat) (d:Mo) (T:Tp) (a:Int),BP d->n<k->a+n=4->c8 k [.d d,.d (.int a)] T=some (.bool (aG n d),T)
 |n,0,d,T,a,_,hk,_=>absurd hk (N7 _)
 |n,k+1,d,T,a,hb,hk,ha=>by
  rcases hb with⟨i,rfl⟩|⟨x,rfl,hx,hx2⟩|⟨ds,rfl,hd⟩
  .have e:aG n (.int i)=single (.int i):=by cases n <;> rfl
   have e2:single (.int i)=decide ((if i<0 then -i else i)<=10^18):=rfl;rw[e,e2]
   by_cases hi:(if i<0 then -i else i)<=(10:Int)^18
   .have hi':(if i<0 then -i else i)<=1000000000000000000:=hi
    rw[decide_eq_true hi];simp[c8,a8,hi']
   .have hi':¬(if i<0 then -i else i)<=1000000000000000000:=hi
    rw[decide_eq_false hi];simp[c8,a8,hi']
  .have e:aG n (.str x)=single (.str x):=by cases n <;> rfl
   have e2:single (.str x)=(decide (x.length<=20)&&has TXT x):=rfl;have hz:x.length<=sizeLine:=MP hx (by decide)
   obtain⟨l,hc,hl⟩:=nV (y:=TXT) (x:=x) (T:=T) (ρ:=[some (.d (.str x)),some (.d (.int a)),some (.d (.str TXT))]) (ar (af bL (aa 0) (aa 3))) hx2 fun z=>by simp;rfl
   have tx:TXT=Mv "abcdefghijklmnopqrstuvwxyz0123456789-":=rfl;rw[tx] at hc;rw[e,e2]
   by_cases h20:x.length<=20
   .have h20':(x.length:Int)<=20:=by omega
    simp[c8,a8,hz,h20,h20',hc,hl]
   .have h20':¬(x.length:Int)<=20:=by omega
    simp[c8,a8,hz,h20,h20']
  .by_cases h8:ds.length<=8
   .have h8':¬(8:Int)<(ds.length:Int):=by omega
    cases n with
    |zero=>
     have h3:(3:Int)<a:=by omega
     simp[c8,a8,aG,h8',h3]
    |succ n=>
     have h3:¬(3:Int)<a:=by omega
     have e:aG (n+1) (.tuple ds)=(decide (ds.length<=8)&&ds.all (aG n)):=rfl
     have hc:bz (bG (aU (ax (c8 k) (ae (aa 0) (ae (af aR (aa 2) (fC (.int 1))) ai))))) (aa 0) [some (.d (.tuple ds)),some (.d (.int a)),none] ds T=some (ds.filter (fun x=>!(aG n x)),T):=fV fun x hx=>by
      have:=ve n k x T (a+1) (.of (hd x hx)) (by omega) (by omega);simp[this]
     have hq:eqG (.list (ds.filter fun x=>!(aG n x))) (.list [])=some (.bool (ds.all (aG n))):=by
      rw[eq_nil fun d hd'=>hd d (Nx.mp hd').1,filter_none]
     simp[c8,a8,h8',h3,e,h8,hc,hq]
   .have h8':(8:Int)<(ds.length:Int):=by omega
    have e:aG n (.tuple ds)=false:=by
     cases n with
     |zero=>rfl
     |succ n=>show (decide (ds.length<=8)&&ds.all (aG n))=false;rw[decide_eq_false h8];rfl
    simp[c8,a8,h8',e]
theorem jQ(T:Tp)(h:BP d):dH [.d d] T=some (.bool (aJ d),T):=by
 have h1:=ve 4 25 d T 0 h (by decide) (by decide);have e:aJ d=(aG 4 d&&decide (aD 4 d<=40)):=rfl
 cases hb:aG 4 d with
 |false=>rw[hb] at h1;simp[dH,h1,e,hb]
 |true=>
  have h2:=vf 4 25 d T (K1.om 4 d hb) (by decide);rw[hb] at h1;simp[dH,h1,h2,e,hb]
theorem FU(i:Int):BP (.int i):=.inl ⟨i,rfl⟩
theorem oK(h:iP x=true):mL T (.d x)=some (.d (.str x.shown),T):=if_pos h
def jp(w:String)(a b:Mo):Prop:=∃R,dN R/\∀T,bC [.d (.str (Mv w)),.d a,.d b] T=some (R,T)
theorem FY(ha:aJ a=true)(hb:aJ b=true):jp "same" a b:=by
 have g1:=nN ha;have g2:=nN hb;refine⟨vl (.int (if a.shown=b.shown then 1 else 0)),.inl ⟨_,rfl,by split <;> exact lO (by decide) (by decide)⟩,fun T=>?_⟩
 by_cases c:a.shown=b.shown <;> simp[bC,oK g1,oK g2,c,vl,D.intD]
theorem FZ(ha:aJ a=true)(hb:aJ b=true):jp "part" a b:=by
 rcases d6 ha with⟨i,rfl,hi⟩|⟨x,rfl,hx,hx2⟩|⟨ds,rfl,hd⟩
 .exact⟨_,cK,fun T=>by simp[bC,fl]⟩
 .exact⟨_,cK,fun T=>by simp[bC,fl]⟩
 .rcases d6 hb with⟨j,rfl,hj⟩|⟨y,rfl,hy,hy2⟩|⟨es,rfl,he⟩
  .by_cases c:0<=j/\j<(ds.length:Int)
   .obtain⟨d,e,hv⟩:=FV ha c.1 c.2
    exact⟨vl d,.inl ⟨d,rfl,hv⟩,fun T=>by simp[bC,vl,c.1,c.2,e]⟩
   .refine⟨_,CF,fun T=>?_⟩
    by_cases c0:0<=j
    .have c1:¬j<(ds.length:Int):=fun z=>c ⟨c0,z⟩
     simp[bC,fl,c0,c1]
    .simp[bC,fl,c0]
  .exact⟨_,cK,fun T=>by simp[bC,fl]⟩
  .exact⟨_,cK,fun T=>by simp[bC,fl]⟩
theorem Hh(ha:aJ a=true)(hb:aJ b=true):jp "sum" a b:=by
 rcases d6 ha with⟨i,rfl,hi⟩|⟨x,rfl,hx,hx2⟩|⟨ds,rfl,hd⟩
 .rcases d6 hb with⟨j,rfl,hj⟩|⟨y,rfl,hy,hy2⟩|⟨es,rfl,he⟩
  .have b2:=fun T=>jQ T (FU (i+j))
   refine⟨_,lP (.int (i+j)),fun T=>?_⟩
   cases hv:aJ (.int (i+j)) <;> simp[bC,b2,hv,bd,vl,fl]
  .exact⟨_,cK,fun T=>by simp[bC,fl]⟩
  .exact⟨_,cK,fun T=>by simp[bC,fl]⟩
 .exact⟨_,cK,fun T=>by simp[bC,fl]⟩
 .exact⟨_,cK,fun T=>by simp[bC,fl]⟩
theorem F0(ha:aJ a=true)(hb:aJ b=true):jp "less" a b:=by
 rcases d6 ha with⟨i,rfl,hi⟩|⟨x,rfl,hx,hx2⟩|⟨ds,rfl,hd⟩
 .rcases d6 hb with⟨j,rfl,hj⟩|⟨y,rfl,hy,hy2⟩|⟨es,rfl,he⟩
  .refine⟨vl (.int (if i<j then 1 else 0)),.inl ⟨_,rfl,by split <;> exact lO (by decide) (by decide)⟩,fun T=>?_⟩
   by_cases c:i<j <;> simp[bC,c,vl,D.intD]
  .exact⟨_,cK,fun T=>by simp[bC,fl]⟩
  .exact⟨_,cK,fun T=>by simp[bC,fl]⟩
 .exact⟨_,cK,fun T=>by simp[bC,fl]⟩
 .exact⟨_,cK,fun T=>by simp[bC,fl]⟩
theorem F1(ha:aJ a=true)(hb:aJ b=true):jp "join" a b:=by
 rcases d6 ha with⟨i,rfl,hi⟩|⟨x,rfl,hx,hx2⟩|⟨ds,rfl,hd⟩
 .refine⟨_,cK,fun T=>?_⟩
  rcases d6 hb with⟨j,rfl,hj⟩|⟨y,rfl,hy,hy2⟩|⟨es,rfl,he⟩ <;> simp[bC,fl]
 .rcases d6 hb with⟨j,rfl,hj⟩|⟨y,rfl,hy,hy2⟩|⟨es,rfl,he⟩
  .exact⟨_,cK,fun T=>by simp[bC,fl]⟩
  .have l:x.length+y.length<=sizeLine:=dy (by omega)
   have b2:=fun T=>jQ (d:=.str (x++y)) T (.inr (.inl ⟨_,rfl,by rw[←cg,kh,Na,cg,cg];omega,fun c hc=>by
    have hc':c∈cd (x++y):=hc;rw[kh] at hc'
    exact(MN.mp hc').elim (hx2 c) (hy2 c)⟩))
   refine⟨_,lP (.str (x++y)),fun T=>?_⟩
   cases hv:aJ (.str (x++y)) <;> simp[bC,b2,l,hv,bd,vl,fl]
  .exact⟨_,cK,fun T=>by simp[bC,fl]⟩
 .rcases d6 hb with⟨j,rfl,hj⟩|⟨y,rfl,hy,hy2⟩|⟨es,rfl,he⟩
  .exact⟨_,cK,fun T=>by simp[bC,fl]⟩
  .exact⟨_,cK,fun T=>by simp[bC,fl]⟩
  .have l:ds.length+es.length<=sizeLine:=dy (by omega)
   have b2:=fun T=>jQ (d:=.tuple (ds++es)) T (.inr (.inr ⟨_,rfl,fun z hz=>(MN.mp hz).elim (fun q=>(cU (oq ha q)).1) fun q=>(cU (oq hb q)).1⟩));refine⟨_,lP (.tuple (ds++es)),fun T=>?_⟩
   cases hv:aJ (.tuple (ds++es)) <;> simp[bC,b2,l,hv,bd,vl,fl]
theorem Hi(hw:w∈PW)(ha:aJ a=true)(hb:aJ b=true):jp w a b:=by
 simp[PW] at hw
 rcases hw with rfl|rfl|rfl|rfl|rfl
 .exact FZ ha hb
 .exact Hh ha hb
 .exact F1 ha hb
 .exact FY ha hb
 .exact F0 ha hb
def fA(M:FnM):FS:=(ak (aF 4 (ax M (ae (aa 3) (ae (aa 1) ai)))) (ak (fIf (ar (af eqD (af ixD (aa 4) (fC (.int 0))) (fC (.str "fails")))) (ay (aa 4)) aK) (b8 2 (af ixD (aa 4) (fC (.int 1))))))
def kz:FI:=(aX (af ixD (aE .list (ae (fCB dP (ae (fSl (aa 0) (fP (fC (.int 1))) bw) ai)) (ae (fCB dP (ae (af ixD (aa 0) (fC (.int 1))) ai)) ai))) (fCB intD (ae (af eqD (af ixD (aa 0) (fC (.int 0))) (fC (.str "row"))) ai))))
def iG:FS:=(ak (fIf (ar (af eqD (af ixD (aa 0) (fC (.int 0))) (fC (.str "row")))) (ay (cV (aU (ax dH (ae (fCB bS (ae (aa 2) ai)) ai))) (aE .tuple (ae (fC (.str "value")) (ae (fCB bS (ae (aa 2) ai)) ai))) (aE .tuple (ae (fC (.str "fails")) (ae (fC (.str "great")) ai))))) aK) (ak (fIf (ar (af eqD (af ixD (aa 0) (fC (.int 0))) (fC (.str "many")))) (ay (cV (aU (fUn (bf .int) (af ixD (aa 2) (fC (.int 0))))) (aE .tuple (ae (fC (.str "fails")) (ae (fC (.str "kind")) ai))) (aE .tuple (ae (fC (.str "value")) (ae (fCB aY (ae (af ixD (aa 2) (fC (.int 0))) ai)) ai))))) aK) (ay (ax bC (ae (af ixD (aa 0) (fC (.int 0))) (ae (af ixD (aa 2) (fC (.int 0))) (ae (af ixD (aa 2) (fC (.int 1))) ai)))))))
theorem rJ(n:Nat):b9 (n+1)=aW 5 (ak (fIf (ar (af eqD (af ixD (aa 0) (fC (.int 0))) (fC (.str "put")))) (ay (aE .tuple (ae (fC (.str "value")) (ae (af ixD (aa 0) (fC (.int 1))) ai)))) aK) (ak (fIf (ar (af eqD (af ixD (aa 0) (fC (.int 0))) (fC (.str "got")))) (ay (aE .tuple (ae (fC (.str "value")) (ae (af ixD (aa 1) (af ixD (aa 0) (fC (.int 1)))) ai)))) aK) (ak (cO 2 ai) (ak (cB 3 kz (fA (b9 n))) iG)))):=by rw[b9];rfl
theorem qo{M:FnM}{T:Tp}{e0 G:Mo}{f:Mo->Mo}:∀(es:List Mo) (acc:List Mo) (o3 o4:Option D.W),(∀e∈es,dN (f e)/\M [.d e,.d G] T=some (f e,T))->acc.length+es.length<=1000 ->
  match (es.map f).filter isF with
  |R::_=>∃ρ',forL 3 (fA M) es [some (.d e0),some (.d G),some (.loc (.list acc)),o3,o4] T=some ((.rt R,ρ'),T)
  |[]=>∃o3' o4',forL 3 (fA M) es [some (.d e0),some (.d G),some (.loc (.list acc)),o3,o4] T=some ((.nx,[some (.d e0),some (.d G),some (.loc (.list (acc++es.map fun e=>vOf (f e)))),(o3':Option D.W),o4']),T)
 |[],acc,o3,o4,_,_=>⟨o3,o4,by simp[forL]⟩
 |e::es,acc,o3,o4,h,hl=>by
  obtain⟨t,ht⟩:=h e Mq;have hl':acc.length<sizeLine:=ME (by simp at hl;omega:acc.length<1000) (by decide);have go:forL 3 (fA M) (e::es) [some (.d e0),some (.d G),some (.loc (.list acc)),o3,o4] T=bnd (fA M [some (.d e0),some (.d G),some (.loc (.list acc)),some (.d e),o4] T) (qH (forL 3 (fA M) es)):=rfl;rw[go]
  rcases rZ t with⟨hf,w,_,hw⟩|⟨hf,hv,_⟩
  .rw[M5,RC,if_pos hf]
   rw[hw] at ht
   have hb:fA M [some (.d e0),some (.d G),some (.loc (.list acc)),some (.d e),o4] T=some ((.rt (fl w),[some (.d e0),some (.d G),some (.loc (.list acc)),some (.d e),some (.d (fl w))]),T):=by
    simp[fA,ht,fl]
   rw[hb,hw];exact⟨_,rfl⟩
  .rw[M5,RC,hf]
   have ih:=qo (e0:=e0) es (acc++[vOf (f e)]) (some (.d e)) (some (.d (f e))) (fun x hx=>h x (Mr _ hx)) (by simp at hl ⊢;omega)
   have hb:fA M [some (.d e0),some (.d G),some (.loc (.list acc)),some (.d e),o4] T=some ((.nx,[some (.d e0),some (.d G),some (.loc (.list (acc++[vOf (f e)]))),some (.d e),some (.d (f e))]),T):=by
    generalize hV:vOf (f e)=v at hv;rw[hv] at ht ⊢;simp[fA,ht,vl,hl']
   rw[hb,gT,DB];simp only[Pf,if_false]
   cases hF:(es.map f).filter isF with
   |nil=>
    rw[hF] at ih;obtain⟨o3',o4',hi⟩:=ih;exact⟨o3',o4',by rw[hi];simp⟩
   |cons R r=>
    rw[hF] at ih;exact ih
def TBB(gs:List Mo)(n:Nat)(e:Mo):Prop:=∃R,dN R/\∀k T,n<k->b9 k [.d e,.d (.list gs)] T=some (R,T)
structure NodeB(e0:Mo)(w0:Str)(es:List Mo):Prop where
 ix:ixD e0 (.int 0)=some (.str w0)
 np:(w0=Mv "put")=False
 ng:(w0=Mv "got")=False
 ln:es.length<=8
 w2:∀G T,kz [some (.d e0),some (.d G),some (.loc (.list [])),none,none] T=some (es,T)
theorem nI{es:List Mo}{f:Mo->Mo}(N:NodeB e0 w0 es)
  (hf:∀e∈es,dN (f e)/\∀k T,n<k->b9 k [.d e,.d (.list gs)] T=some (f e,T))
  (fin:(∀e∈es,f e=vl (vOf (f e))/\aJ (vOf (f e))=true)->∃R,dN R/\∀o3 o4 T,dr (iG [some (.d e0),some (.d (.list gs)),some (.loc (.list (es.map fun e=>vOf (f e)))),o3,o4] T)=some (R,T)):TBB gs (n+1) e0:=by
 have ix:=N.ix;have np:=N.np;have ng:=N.ng;have byL:∀k T,n<k->(∀e∈es,dN (f e)/\b9 k [.d e,.d (.list gs)] T=some (f e,T)):=fun k T hk e he=>⟨(hf e he).1,(hf e he).2 k T hk⟩
 cases hF:(es.map f).filter isF with
 |cons R r=>
  have hR:R∈(es.map f).filter isF:=by rw[hF];exact Mq
  obtain⟨e,he,eR⟩:=MJ.mp (Nx.mp hR).1;refine⟨R,by rw[←eR];exact(hf e he).1,fun k T hk=>?_⟩;obtain⟨k,rfl⟩:=bb k (by omega);have lp:=qo (e0:=e0) es [] none none (byL k T (by omega)) (by have:=N.ln;simp;omega);rw[hF] at lp;obtain⟨ρ',lp⟩:=lp;rw[rJ];simp[ix,np,ng,N.w2,lp]
 |nil=>
  have all:∀e∈es,f e=vl (vOf (f e))/\aJ (vOf (f e))=true:=fun e he=>by
   rcases rZ (hf e he).1 with⟨h1,_⟩|⟨_,h2⟩
   .have:f e∈(es.map f).filter isF:=Nx.mpr ⟨MJ.mpr ⟨e,he,rfl⟩,h1⟩
    rw[hF] at this;cases this
   .exact h2
  obtain⟨R,t,q2⟩:=fin all;refine⟨R,t,fun k T hk=>?_⟩;obtain⟨k,rfl⟩:=bb k (by omega);have lp:=qo (e0:=e0) es [] none none (byL k T (by omega)) (by have:=N.ln;simp;omega);rw[hF] at lp;obtain⟨o3',o4',lp⟩:=lp;rw[rJ];have q:=q2 o3' o4' T;simp[ix,np,ng,N.w2,lp,q]
theorem nE{gs:List Mo}{n:Nat}{es:List Mo}(h:∀e∈es,TBB gs n e):∃f:Mo->Mo,∀e∈es,dN (f e)/\∀k T,n<k->b9 k [.d e,.d (.list gs)] T=some (f e,T):=by
 classical
 refine⟨fun e=>if h':e∈es then (h e h').choose else .none,fun e he=>?_⟩;simp only[dif_pos he];exact(h e he).choose_spec
theorem Ex.tup(h:Ex m n e):∃xs,e=.tuple xs:=by cases h <;> exact⟨_,rfl⟩
theorem nU(hg:∀g∈gs,aJ g=true)(hm:m<=(gs.length:Int)):∀(n:Nat) (e:Mo),Ex m n e->TBB gs n e:=by
 intro n e h
 induction h with
 |put hv=>
  rename_i n v;refine⟨vl v,.inl ⟨v,rfl,hv⟩,fun k T hk=>?_⟩;obtain⟨k,rfl⟩:=bb k (by omega);simp[b9,vl]
 |got h0 h1=>
  rename_i n i;obtain⟨g,e,hgm⟩:=gp (xs:=gs) h0 (by omega);refine⟨vl g,.inl ⟨g,rfl,hg g hgm⟩,fun k T hk=>?_⟩;obtain⟨k,rfl⟩:=bb k (by omega);simp[b9,vl,e]
 |row hl _ ih=>
  rename_i n es _;obtain⟨f,hf⟩:=nE ih;refine nI (w0:=Mv "row") (es:=es) (f:=f) ⟨rfl,by simp,by simp,hl,fun G T=>by simp[kz,qM,D.intD,D.dP]⟩ hf fun all=>?_
  have bp:BP (.tuple (es.map fun e=>vOf (f e))):=.inr (.inr ⟨_,rfl,fun d hd=>by
   obtain⟨e,he,rfl⟩:=MJ.mp hd
   exact(cU (all e he).2).1⟩)
  refine⟨bd (.tuple (es.map fun e=>vOf (f e))),lP _,fun o3 o4 T=>?_⟩;have lv:=jQ T bp;generalize es.map (fun e=>vOf (f e))=ps at lv ⊢
  cases hv:aJ (.tuple ps) <;> simp[iG,lv,hv,bd,vl,fl,D.bS]
 |many _ ih=>
  rename_i n e he;obtain⟨xs,hxs⟩:=Ex.tup he;obtain⟨f,hf⟩:=nE (es:=[e]) (fun x hx=>by rw[MR.mp hx];exact ih);refine nI (w0:=Mv "many") (es:=[e]) (f:=f) ⟨rfl,by simp,by simp,by simp,fun G T=>by subst hxs;simp[kz,qM,D.intD,D.dP]⟩ hf fun all=>?_;obtain⟨a1,a2⟩:=all e (by simp);generalize hV:vOf (f e)=v at a1 a2
  rcases d6 a2 with⟨i,rfl,hi⟩|⟨x,rfl,hx,_⟩|⟨ds,rfl,hd⟩
  .exact⟨fl "kind",cK,fun o3 o4 T=>by simp[iG,hV,fl]⟩
  .have hx':x.length<=sizeLine:=dy (by omega)
   exact⟨vl (.int x.length),.inl ⟨_,rfl,lO (by omega) (by omega)⟩,fun o3 o4 T=>by simp[iG,hV,vl,hx']⟩
  .exact⟨vl (.int ds.length),.inl ⟨_,rfl,lO (by omega) (by omega)⟩,fun o3 o4 T=>by simp[iG,hV,vl]⟩
 |pair hw ha hb iha ihb=>
  rename_i n w a b;obtain⟨xs,hxs⟩:=Ex.tup ha
  obtain⟨f,hf⟩:=nE (es:=[a,b]) (fun x hx=>by
   simp at hx
   rcases hx with rfl|rfl
   .exact iha
   .exact ihb)
  have ne:¬w="put"/\¬w="got"/\¬w="row"/\¬w="many":=by
   simp[PW] at hw
   rcases hw with rfl|rfl|rfl|rfl|rfl <;> simp
  obtain⟨n1,n2,n4,n5⟩:=ne;refine nI (w0:=Mv w) (es:=[a,b]) (f:=f) ⟨rfl,by simp[n1],by simp[n2],by simp,fun G T=>by subst hxs;simp[kz,qM,D.intD,D.dP,n4]⟩ hf fun all=>?_;obtain⟨a1,a2⟩:=all a (by simp);obtain⟨b1,b2⟩:=all b (by simp);obtain⟨R,t,q2⟩:=Hi hw a2 b2;refine⟨R,t,fun o3 o4 T=>?_⟩;simp[iG,n4,n5,q2]
def cst:Nat->Mo->List Nat
 |n+1,.tuple ds=>40::(aZ [44] (ds.map (cst n))++[41])
 |0,.tuple _=>[]
 |_,.int i=>nc i
 |_,.str x=>39::cd x
 |_,_=>[]
theorem jW(n:Nat)(i:Int):cst n (.int i)=nc i:=by cases n <;> rfl
theorem jV(n:Nat)(x:Str):cst n (.str x)=39::cd x:=by cases n <;> rfl
theorem tJ(h:single d=true):(cst n d).length<=21:=by
 rcases dY h with⟨i,rfl⟩|⟨x,rfl⟩
 .rw[jW]
  have:=pV h;omega
 .rw[jV]
  have h':(decide (x.length<=20)&&has TXT x)=true:=h;rw[Mx] at h';have:=of_decide_eq_true h'.1;rw[MY,cg];omega
theorem lg(f:Mo->List Nat):∀ds:List Mo,(ds.map fun d=>(f d).length).sum+ds.length<=(aZ [44] (ds.map f)).length+1/\(aZ [44] (ds.map f)).length<=(ds.map fun d=>(f d).length).sum+ds.length
 |[]=>by simp[aZ]
 |[d]=>by simp[aZ]
 |d::e::r=>by
  have ih:=lg f (e::r);have e1:aZ [44] ((d::e::r).map f)=f d++[44]++aZ [44] ((e::r).map f):=rfl;rw[e1];simp only[M5,OE,MY,Na,OM] at ih ⊢;omega
theorem pf:∀{ds:List Mo},(∀d∈ds,((cst n d).length:Int)+1<=25*aD n d)->(((ds.map fun d=>(cst n d).length).sum+ds.length:Nat):Int)<=25*(ds.map (aD n)).sum
 |[],_=>by simp
 |d::r,h=>by
  have h1:=h d Mq;have h2:=pf (ds:=r) fun x hx=>h x (Mr _ hx);simp only[M5,OE,MY];omega
theorem pB:∀(n:Nat) (d:Mo),aG n d=true->((cst n d).length:Int)+1<=25*aD n d
 |n,d,h=>by
  rcases c9 h with h1|⟨m,ds,rfl,rfl,h8,hb⟩
  .have:=tJ (n:=n) h1
   have:=lJ n d;omega
  .have ih:=pB m
   have h1:=pf (ds:=ds) fun d hd=>ih d (hb d hd);have h2:=(lg (cst m) ds).2;show (((40::(aZ [44] (ds.map (cst m))++[41])).length:Nat):Int)+1<=25*(1+(ds.map (aD m)).sum);simp only[MY,Na,OM];omega
termination_by n=>n
theorem DC(h:single (.int i)=true):m9 [.int i]=some (.str (mk (nc i))):=by
 have h1:=jL h
 have h2:i.natAbs.log2<1920:=by
  by_cases z:i.natAbs=0
  .rw[z];decide
  .exact ME ((Ss (k:=64) z).mpr (NK h1 (by decide))) (by decide)
 have e:Mv (toString i)=mk (nc i):=dB (by rw[GP,bv]);show (if i.natAbs.log2<1920 then some (Nk (Mv (toString i))) else none)=_;rw[if_pos h2,e]
theorem pW(a b:List Nat):mk a++mk b=mk (a++b):=dB (by rw[kh,bv,bv,bv])
theorem lit(h:cd (Mv s)=l):Mv s=mk l:=dB (by rw[h,bv])
theorem Dq(f:Mo->List Nat)(ds:List Mo):((ds.map fun d=>mk (f d)).map (·.length)).sum=(ds.map fun d=>(f d).length).sum:=by
 rw[NJ];exact congrArg List.sum (Ni fun d _=>bV _)
theorem Dv(f:Mo->List Nat)(ds:List Mo):Qm (mk [44]) (ds.map fun d=>mk (f d))=mk (aZ [44] (ds.map f)):=dB (by
 rw[l8,bv,bv,NJ]
 exact congrArg (aZ [44]) (Ni fun d _=>bv _))
theorem Cf(hm:aD (m+1) (.tuple ds)<=40)(hb:∀x∈ds,aG m x=true):(aZ [44] (ds.map (cst m))).length<=1000/\(ds.map fun d=>(cst m d).length).sum+ds.length<=1000:=by
 have h1:=pf (ds:=ds) fun d hd=>pB m d (hb d hd);have h2:=(lg (cst m) ds).2;have h3:1+(ds.map (aD m)).sum<=40:=hm;omega
theorem str_len{n:Nat}{x:Str}(h:single (.str x)=true):x.length<=20:=by
 have h':(decide (x.length<=20)&&has TXT x)=true:=h;rw[Mx] at h';exact of_decide_eq_true h'.1
theorem uu:∀(n k:Nat) (d:Mo) (T:Tp),aG n d=true->aD n d<=40->n<k->cJ k [.d d] T=some (.str (mk (cst n d)),T)
 |n,0,d,T,h,hm,hk=>absurd hk (N7 _)
 |n,k+1,d,T,h,hm,hk=>by
  have q1:=lit (s:="'") (l:=[39]) (by decide +kernel);have q2:=lit (s:="(") (l:=[40]) (by decide +kernel);have q3:=lit (s:=")") (l:=[41]) (by decide +kernel);have q4:=lit (s:=",") (l:=[44]) (by decide +kernel)
  rcases c9 h with h1|⟨m,ds,rfl,rfl,h8,hb⟩
  .rcases dY h1 with⟨i,rfl⟩|⟨x,rfl⟩
   .simp[cJ,Fh,Fi,DC h1,jW]
   .have e:mk [39]++x=mk (39::cd x):=by rw[←qm x,pW,bv];rfl
    have l:(mk [39]).length+x.length<=sizeLine:=dy (by rw[bV];have:=str_len (n:=0) h1;simp;omega);simp[cJ,jV,vQ,Fg,q1,l,e]
  .obtain⟨l1,l2⟩:=Cf hm hb
   have c:=dw (e:=ax (cJ k) (ae (aa 0) ai)) (ρ:=[some (.d (.tuple ds))]) (T:=T) (g:=fun d=>.str (mk (cst m d))) (ds:=ds) fun d hd=>by
    have:=uu m k d T (hb d hd) (Int.le_trans (sE hd) hm) (by omega);simp[this]
   have j:=B2 (z:=mk [44]) (li (fun d=>mk (cst m d)) ds);rw[Dq,Dv,Nd,bV] at j;rw[if_pos (by simp;omega)] at j;have a1:(mk [40]).length+(mk (aZ [44] (ds.map (cst m)))).length<=sizeLine:=dy (by rw[bV,bV];simp;omega);have a2:(mk (40::aZ [44] (ds.map (cst m)))).length+(mk [41]).length<=sizeLine:=dy (by rw[bV,bV];simp;omega)
   have e1:mk [40]++mk (aZ [44] (ds.map (cst m)))=mk (40::aZ [44] (ds.map (cst m))):=by rw[pW];rfl
   have e2:mk (40::aZ [44] (ds.map (cst m)))++mk [41]=mk (cst (m+1) (.tuple ds)):=by rw[pW];rfl
   simp[cJ,iI,q2,q3,q4,c,j,a1,a2,e1,e2]
def dU:FT:=(ar (af neD (af ixD (aa 0) (fC (.int 0))) (fC (.str "fail"))))
def qF:FS:=(ay (aE .tuple (ae (aa 4) (ae (aE .tuple (ae (fC (.str "fails")) (ae (af ixD (aa 0) (fC (.int 1))) ai))) ai))))
theorem Ay:d0=aW 7 (ak (cO 3 ai) (ak (cO 4 ai) (ak (bo dU d7 100000) qF))):=rfl
theorem lZ(T:Tp)(h:aJ v=true):cJ 25 [.d v] T=some (.str (mk (cst 4 v)),T):=uu 4 25 v T (cU h).1 (cU h).2 (by decide)
def ρL(r G w:Mo)(gs rd:List Mo)(o o':Option D.W):Rho:=[some (.d r),some (.d G),some (.d w),some (.loc (.list gs)),some (.loc (.list rd)),o,o']
def goL(m:Nat)(r G w:Mo)(gs rd:List Mo)(o o':Option D.W)(T:Tp):Option (Mo×Tp):=dr (bnd (bo dU d7 m (ρL r G w gs rd o o') T) (gA qF))
def cu(w:String)(x:Mo):PyData:=.tuple [.str (Mv w),x]
def stt(v:Mo):PyData:=.str (mk (cst 4 v))
def dD(b:Bool)(x:Str)(v:Mo):List PyData:=if b then [] else [.tuple [.str x,v]]
def xO(b:Bool):PyData:=.str (Mv (if b then "peek" else "want"))
def gY(b:Bool)(G w:Mo)(k:Nat)(x:Str)(T:Tp):Option (Mo×Tp):=gG [.d (xO b),.d G,.d w,.d (.int k),.d (.str x)] T
def nv(n:Nat)(r:Mo)(gs:List Mo)(S:Mo):Prop:=∀(G w:Mo) (m:Nat) (rd:List Mo) (o o':Option D.W) (T:Tp),n<m->rd.length<1000 ->
 (∀v,S=mdT v->goL m r G w gs rd o o' T=some (.tuple [.list rd,cu "made" (stt v)],T)) /\
 (∀x,S=flT x->goL m r G w gs rd o o' T=some (.tuple [.list rd,cu "fails" (.str x)],T)) /\
 (∀b x r',S=asT b x r'->(∀V,gY b G w rd.length x T=some (.tuple V,T)->goL m r G w gs rd o o' T=some (.tuple [.list rd,.tuple V],T)) /\
  ∀v,aJ v=true->gY b G w rd.length x T=some (.list [v],T)->∃m' o1 o2,m<=m' + n/\goL m r G w gs rd o o' T=goL m' r' G w (gs++[v]) (rd++dD b x (stt v)) o1 o2 T)
theorem gZ:mdT v≠flT x:=by simp[mdT,flT]
def qG(v:Mo):Bool:=match inD (.str v.shown) (.list [.str "0",.str "''",.str "()"]) with
 |some (.bool b)=>b
 |_=>false
theorem HR(v:Mo):inD (.str v.shown) (.list [.str "0",.str "''",.str "()"])=some (.bool (qG v)):=rfl
def iL(e:Mo)(gs:List Mo):PyData:=match b9 25 [.d e,.d (.list gs)] [] with
 |some (R,_)=>R
 |none=>.none
def dR:Nat->List Mo->Mo->Mo
 |n+1,gs,.tuple (.str w::e::rest)=>if w=Mv "fail" then .tuple [.str "fails",e] else match iL e gs with
  |.tuple [.str k,v]=>if k=Mv "fails" then .tuple [.str k,v] else match rest with
   |[]=>mdT v
   |[r]=>if isName v=true then .tuple [.str w,v,r] else flT "name"
   |[r,s]=>dR n gs (if qG v=true then s else r)
   |_=>.none
  |_=>.none
 |_,_,_=>.none
theorem BX:goL (m+1) (.tuple [.str "fail",.str x]) G w gs rd o o1 T=some (.tuple [.list rd,cu "fails" (.str x)],T):=by simp[goL,ρL,bo,dU,qF,cu]
theorem whl{c:FT}{b:FS}{m:Nat}{ρ:Rho}{T:Tp}(h:c ρ T=some (true,T)):bo c b (m+1) ρ T=bnd (b ρ T) fun p T2=>match p with
   |(.nx,ρ1)=>bo c b m ρ1 T2
   |(.ct,ρ1)=>bo c b m ρ1 T2
   |(.bk,ρ1)=>some ((.nx,ρ1),T2)
   |(.rt x,ρ1)=>some ((.rt x,ρ1),T2)
   |(.ro x,ρ1)=>some ((.ro x,ρ1),T2):=by
 show bnd (c ρ T) _=_;rw[h];rfl
theorem j4(h:c ρ T=some (true,T))(hb:b ρ T=some ((.rt x,ρ'),T)):bo c b (m+1) ρ T=some ((.rt x,ρ'),T):=by rw[whl h,hb];rfl
theorem iD(h:c ρ T=some (true,T))(hb:b ρ T=some ((.nx,ρ'),T)):bo c b (m+1) ρ T=bo c b m ρ' T:=by rw[whl h,hb];rfl
theorem ja(h:c ρ T=some (false,T)):bo c b (m+1) ρ T=some ((.nx,ρ),T):=by
 show bnd (c ρ T) _=_;rw[h];rfl
theorem jk(h:dU (ρL r G w gs rd o o1) T=some (true,T))(hb:d7 (ρL r G w gs rd o o1) T=some ((.rt x,ρ'),T)):goL (m+1) r G w gs rd o o1 T=some (x,T):=by
 unfold goL;rw[j4 h hb];rfl
theorem vT(h:dU (ρL r G w gs rd o o1) T=some (true,T))(hb:d7 (ρL r G w gs rd o o1) T=some ((.nx,ρL r' G w gs' rd' o' o2),T)):goL (m+1) r G w gs rd o o1 T=goL m r' G w gs' rd' o' o2 T:=by
 unfold goL;rw[iD h hb]
theorem vR:a8 .lst .tup=false:=rfl
theorem Ft:∀w∈FW,aJ (.str (Mv w))=true:=by decide +kernel
theorem pR{gs:List Mo}{e:Mo}{rest:List Mo}{w0:Mo}{u:String}(hu:u∈FW)(tl:∀T,iJ (b9 25) [.d e,.loc (.list gs)] T=some (.d (fl u),T)){G w:Mo}{rd:List Mo}{o o1:Option D.W}{T:Tp} :
  d7 (ρL (.tuple (w0::e::rest)) G w gs rd o o1) T=some ((.rt (.tuple [.list rd,cu "fails" (.str (Mv u))]),ρL (.tuple (w0::e::rest)) G w gs rd (some (.d (fl u))) o1),T):=by
 have e1:ixD (.tuple (w0::e::rest)) (.int 1)=some e:=by
  show atI (w0::e::rest) ((1:Nat):Int)=_;exact pF rfl
 have ls:=fun T=>lZ T (Ft u hu);simp[d7,ρL,e1,tl,fl,cu,D.intD,ls]
theorem BJ:∀(n g:Nat) (r:Mo),Rg p g n r->∀gs:List Mo,gs.length=g->(∀v∈gs,aJ v=true)->n<=20->∃S,StepOk p g n S/\(∀k,n<k->dR k gs r=S)/\nv n r gs S:=by
 intro n g r h
 induction h with
 |fail hx=>
  rename_i g n x;intro gs hl hv hn;refine⟨flT x,.fl hx,fun k hk=>?_,fun G w m rd o o1 T hm hr=>⟨fun v e=>absurd e.symm gZ,fun y e=>?_,fun b y r' e=>?_⟩⟩
  .obtain⟨k,rfl⟩:=bb k (by omega)
   simp[dR,flT]
  .obtain⟨m,rfl⟩:=bb m (by omega)
   have:x=y:=by simpa[flT] using e
   subst this;exact BX
  .cases b <;> simp[flT,asT] at e
 |say he=>
  rename_i g n e;intro gs hl hv hn;obtain⟨R,t,hL⟩:=nU hv (by rw[hl];exact OR _) n e he
  have tb:iL e gs=R:=by unfold iL;rw[hL 25 [] (by omega)]
  have tl:∀T,iJ (b9 25) [.d e,.loc (.list gs)] T=some (.d R,T):=fun T=>ol rfl (hL 25 [] (by omega)) (oz t)
  rcases t with⟨v,rfl,hv'⟩|⟨u,hu,rfl⟩
  .have ls:=fun T=>lZ T hv'
   refine⟨mdT v,.md hv',fun k hk=>?_,fun G w m rd o o1 T hm hr=>⟨fun u e'=>?_,fun y e'=>absurd e' gZ,fun b y r' e'=>?_⟩⟩
   .obtain⟨k,rfl⟩:=bb k (by omega)
    simp[dR,mdT,tb,vl]
   .obtain⟨m,rfl⟩:=bb m (by omega)
    have:v=u:=by simpa[mdT] using e'
    subst this;exact jk (by simp[dU,ρL]) (by simp[d7,ρL,tl,vl,cu,ls,stt,D.intD];rfl)
   .cases b <;> simp[mdT,asT] at e'
  .refine⟨flT (Mv u),.fl (pj u hu),fun k hk=>?_,fun G w m rd o o1 T hm hr=>⟨fun u e'=>absurd e'.symm gZ,fun y e'=>?_,fun b y r' e'=>?_⟩⟩
   .obtain⟨k,rfl⟩:=bb k (by omega)
    simp[dR,flT,tb,fl]
   .obtain⟨m,rfl⟩:=bb m (by omega)
    have:Mv u=y:=by simpa[flT] using e'
    subst this;exact jk (by simp[dU,ρL]) (pR hu tl)
   .cases b <;> simp[flT,asT] at e'
 |ask hw hg he hr ih=>
  rename_i g n w e r;intro gs hl hv hn;obtain⟨R,t,hL⟩:=nU hv (by rw[hl];exact OR _) n e he
  have tb:iL e gs=R:=by unfold iL;rw[hL 25 [] (by omega)]
  have tl:∀T,iJ (b9 25) [.d e,.loc (.list gs)] T=some (.d R,T):=fun T=>ol rfl (hL 25 [] (by omega)) (oz t)
  obtain⟨b,hb,hbp⟩:∃b:Bool,w=(if b then "peek" else "want")/\(b=true->p=true):=by
   rcases hw with rfl|⟨rfl,hp⟩
   .exact⟨false,rfl,fun z=>by cases z⟩
   .exact⟨true,rfl,fun _=>hp⟩
  have nw:¬w="fail"/\¬w="when"/\¬w="say":=by rw[hb];cases b <;> simp
  obtain⟨n1,n2,n3⟩:=nw;have hgl:gs.length<sizeLine:=ME (by omega:gs.length<1000) (by decide)
  rcases t with⟨v,rfl,hv'⟩|⟨u,hu,rfl⟩
  .have ll:=fun T=>D9 (v:=v) T hv'
   cases hi:isName v with
   |false=>
    refine⟨flT "name",.fl uO,fun k hk=>?_,fun G w m rd o o1 T hm hr=>⟨fun u e'=>absurd e'.symm gZ,fun y e'=>?_,fun b y r' e'=>?_⟩⟩
    .obtain⟨k,rfl⟩:=bb k (by omega)
     simp[dR,flT,tb,vl,n1,hi]
    .obtain⟨m,rfl⟩:=bb m (by omega)
     have:Mv "name"=y:=by simpa[flT] using e'
     subst this;exact jk (by simp[dU,ρL,n1]) (by simp[d7,ρL,tl,vl,cu,n2,n3,ll,hi];rfl)
    .cases b <;> simp[flT,asT] at e'
   |true=>
    obtain⟨x,rfl⟩:∃x,v=.str x:=by cases v <;> first|exact⟨_,rfl⟩|cases hi
    refine⟨asT b x r,.ask hbp hi hg (QC n) hr,fun k hk=>?_,fun G wr m rd o o1 T hm hrd=>⟨fun u e'=>?_,fun y e'=>?_,fun b' y r' e'=>?_⟩⟩
    .obtain⟨k,rfl⟩:=bb k (by omega)
     simp[dR,asT,tb,vl,hi,hb]
     cases b <;> simp
    .cases b <;> simp[mdT,asT] at e'
    .cases b <;> simp[flT,asT] at e'
    .obtain⟨m,rfl⟩:=bb m (by omega)
     have hc:dU (ρL (.tuple [.str (Mv w),e,r]) G wr gs rd o o1) T=some (true,T):=by simp[dU,ρL,n1]
     obtain⟨rfl,rfl,rfl⟩:b=b'/\x=y/\r=r':=by
      cases b <;> cases b' <;> simp[asT] at e' <;> simp[e']
     have hrl:rd.length<sizeLine:=ME hrd (by decide)
     have aw:Nk (Mv w)=xO b:=by rw[hb];rfl
     refine⟨fun V hk=>jk hc (ρ':=ρL (.tuple [.str (Mv w),e,r]) G wr gs rd (some (.d (vl (.str x)))) (some (.d (.tuple V)))) ?_,fun v hvv hk=>⟨m,some (.d (vl (.str x))),some (.d (.list [v])),by omega,?_⟩⟩
     .unfold gY at hk
      rw[←aw] at hk;simp[d7,ρL,tl,vl,n2,n3,ll,hi,hk,iI]
     .have ls:=fun T=>lZ T hvv
      unfold gY at hk;rw[←aw] at hk;refine vT hc ?_
      cases b with
      |true=>
       subst hb;simp at hk;simp[d7,ρL,tl,vl,n2,n3,ll,hi,hk,hgl,dD,vR]
      |false=>
       subst hb;simp at hk;simp[d7,ρL,tl,vl,n2,n3,ll,hi,hk,hgl,hrl,dD,vR,ls,stt]
  .refine⟨flT (Mv u),.fl (pj u hu),fun k hk=>?_,fun G w m rd o o1 T hm hr=>⟨fun u e'=>absurd e'.symm gZ,fun y e'=>?_,fun b y r' e'=>?_⟩⟩
   .obtain⟨k,rfl⟩:=bb k (by omega)
    simp[dR,flT,tb,fl,n1]
   .obtain⟨m,rfl⟩:=bb m (by omega)
    have:Mv u=y:=by simpa[flT] using e'
    subst this;exact jk (by simp[dU,ρL,n1]) (pR hu tl)
   .cases b <;> simp[flT,asT] at e'
 |whn he hr hs ihr ihs=>
  rename_i g n e r s;intro gs hl hv hn;obtain⟨R,t,hL⟩:=nU hv (by rw[hl];exact OR _) n e he
  have tb:iL e gs=R:=by unfold iL;rw[hL 25 [] (by omega)]
  have tl:∀T,iJ (b9 25) [.d e,.loc (.list gs)] T=some (.d R,T):=fun T=>ol rfl (hL 25 [] (by omega)) (oz t)
  have hc:∀G w rd o o1 T,dU (ρL (.tuple [.str "when",e,r,s]) G w gs rd o o1) T=some (true,T):=fun G w rd o o1 T=>by simp[dU,ρL,xi]
  rcases t with⟨v,rfl,hv'⟩|⟨u,hu,rfl⟩
  .obtain⟨b,hb⟩:∃b,qG v=b:=⟨_,rfl⟩
   have hb2:=HR v;rw[hb] at hb2;have gd:=nN hv'
   have key:∀q,q=(if b=true then s else r)->∀S,StepOk p g n S->(∀k,n<k->dR k gs q=S)->nv n q gs S->∃S,StepOk p g (n+1) S/\(∀k,n+1<k->dR k gs (.tuple [.str "when",e,r,s])=S)/\nv (n+1) (.tuple [.str "when",e,r,s]) gs S:=by
    intro q hq S hS hq2 hq3;refine⟨S,hS.up (QC n),fun k hk=>?_,fun G w m rd o o1 T hm hrd=>?_⟩
    .obtain⟨k,rfl⟩:=bb k (by omega)
     have:=hq2 k (by omega)
     cases b <;> (simp at hq;subst hq;simp[dR,tb,vl,hb,this])
    .obtain⟨m,rfl⟩:=bb m (by omega)
     have st:goL (m+1) (.tuple [.str "when",e,r,s]) G w gs rd o o1 T=goL m q G w gs rd (some (.d (vl v))) o1 T:=by
      refine vT (hc G w rd o o1 T) ?_
      cases b <;> (simp at hq;subst hq;simp[d7,ρL,tl,vl,oK gd,hb2,xi,Hn,Hm,Hl,D.intD])
     obtain⟨a1,a2,a3⟩:=hq3 G w m rd (some (.d (vl v))) o1 T (by omega) hrd;refine⟨fun u e'=>by rw[st];exact a1 u e',fun y e'=>by rw[st];exact a2 y e',fun b' y r' e'=>?_⟩;obtain⟨c1,c2⟩:=a3 b' y r' e';refine⟨fun V hk=>by rw[st];exact c1 V hk,fun w hw hk=>?_⟩;obtain⟨m',o',o2,l,q'⟩:=c2 w hw hk;exact⟨m',o',o2,by omega,by rw[st];exact q'⟩
   cases b with
   |true=>
    obtain⟨S,h1,h2,h3⟩:=ihs gs hl hv (by omega);exact key s rfl S h1 h2 h3
   |false=>
    obtain⟨S,h1,h2,h3⟩:=ihr gs hl hv (by omega);exact key r rfl S h1 h2 h3
  .refine⟨flT (Mv u),.fl (pj u hu),fun k hk=>?_,fun G w m rd o o1 T hm hr=>⟨fun u e'=>absurd e'.symm gZ,fun y e'=>?_,fun b y r' e'=>?_⟩⟩
   .obtain⟨k,rfl⟩:=bb k (by omega)
    simp[dR,flT,tb,fl]
   .obtain⟨m,rfl⟩:=bb m (by omega)
    have:Mv u=y:=by simpa[flT] using e'
    subst this;exact jk (hc G w rd o o1 T) (pR hu tl)
   .cases b <;> simp[flT,asT] at e'
def FIG:Str:=Mv "0123456789"
def dl(c:Nat):Bool:=decide (c∈cd "(),")
theorem kg(c:Nat):dl c=decide (c=40\/c=41\/c=44):=by
 have e:cd "(),"=[40,41,44]:=by decide +kernel
 unfold dl;rw[e];simp
def W(l:List Nat):List Nat:=l.takeWhile fun c=>!dl c
def fN(w:List Nat):Bool:=!decide (w=[])&&w.all (fun c=>decide (c∈cd FIG))&&(decide (w=[48])||!decide (w.head? = some 48))
theorem wV(h:cd y=l):decide (x=y)=decide (cd x=l):=by refine decide_eq_decide.mpr ⟨fun e=>by rw[e,h],fun e=>dB (by rw[e,h])⟩
theorem F2(T:Tp)(h:x.length<=Mz):eS [.d (.str x)] T=some (.bool (fN (cd x)),T):=by
 have h1:∀T,eX [.d (.str x),.d (.str "0123456789")] T=some (.bool (has FIG x),T):=fun T=>xg T h;have e1:decide (x=Mv "")=decide (cd x=[]):=wV (by decide +kernel);have e2:decide (x=Mv "0")=decide (cd x=[48]):=wV (by decide +kernel)
 have e3:Oq x "0"=decide ((cd x).head? = some 48):=by
  have:Mv "0"=⟨#[48]⟩:=dB (by decide +kernel);rw[this,rA]
 have e4:has FIG x=(cd x).all (fun c=>decide (c∈cd FIG)):=rfl;have p1:(x=Mv "")=(cd x=[]):=propext (by simpa using e1);have p2:(x=Mv "0")=(cd x=[48]):=propext (by simpa using e2);unfold fN;rw[←e4]
 by_cases hn:cd x=[]
 .simp[eS,h1,p1,p2,e3,hn]
 .cases hf:has FIG x with
  |false=>simp[eS,h1,p1,p2,e3,hn,hf]
  |true=>
   by_cases h0:cd x=[48]
   .simp[eS,h1,p1,p2,e3,hn,hf,h0]
   .simp[eS,h1,p1,p2,e3,hn,hf,h0]
def iS:Option Int->Mo
 |some i=>.int i
 |none=>.none
def kM:Option Mo->Mo
 |some i=>i
 |none=>.none
def HX(w:List Nat):Bool:=w.all (fun c=>decide (c∈cd FIG))
theorem sM:cd FIG=[48,49,50,51,52,53,54,55,56,57]:=by decide +kernel
theorem FN(h:HX w=true):Qp w:=fun c hc=>by
 have:=of_decide_eq_true (MM.mp h c hc);rw[sM] at this;simp at this;omega
theorem B1(h:fN w=true):Qp w/\w≠[]:=by
 unfold fN at h;rw[Mx,Mx] at h;exact⟨FN h.1.2,by simpa using h.1.1⟩
def fg(w:List Nat):List Nat:=if w.head? = some 45 then w.tail else w
def kO(w:List Nat):Option Int:=if w=[45,48]\/19<(fg w).length\/fN (fg w)=false then none else some (if w.head? = some 45 then -((N2 w.tail:Nat):Int) else ((N2 w:Nat):Int))
theorem rB(h:cd y=[c]):Oq x y=decide ((cd x).head? = some c):=by
 have:y=⟨#[c]⟩:=dB (by rw[h];rfl);rw[this,rA]
theorem Cu(T:Tp)(h:x.length<=Mz):ij [.d (.str x)] T=some (iS (kO (cd x)),T):=by
 have e1:Oq x "-"=decide ((cd x).head? = some 45):=rB (by decide +kernel);have p2:(x=Mv "-0")=(cd x=[45,48]):=propext ⟨fun e=>by rw[e];decide +kernel,fun e=>dB (by rw[e];decide +kernel)⟩;have hl:=cg x
 obtain⟨f,hf,hfl,hfe⟩:∃f:Str,cd f=fg (cd x)/\f.length<=x.length/\∀T,cV (aU (af gN (aa 0) (fC (.str "-")))) (fSl (aa 0) (fP (fC (.int 1))) bw) (aa 0) [some (.d (.str x)),none] T=some (.d (.str f),T):=by
  by_cases hm:(cd x).head? = some 45
  .have hne:1<=x.length:=by
    rw[←hl]
    cases hx:cd x with
    |nil=>rw[hx] at hm;cases hm
    |cons _ _=>simp
   refine⟨NH x (some 1) none,?_,VC _ _ _,fun T=>by simp[e1,hm,h]⟩;rw[i3 (by decide) (by omega)];unfold fg;rw[if_pos hm];simp
  .refine⟨x,?_,MC _,fun T=>by simp[e1,hm]⟩
   unfold fg;rw[if_neg hm]
 have hfz:f.length<=sizeLine:=MP hfl h;have h1:=fun T=>F2 (x:=f) T hfz
 have hfl':f.length=(fg (cd x)).length:=by rw[←hf,cg]
 unfold kO
 have start:ij [.d (.str x)] T=dr (bnd (bnd (cV (aU (af gN (aa 0) (fC (.str "-")))) (fSl (aa 0) (fP (fC (.int 1))) bw) (aa 0) [some (.d (.str x)),none] T) (nh 1 [some (.d (.str x)),none])) (gA (ak (fIf (bB (ar (af eqD (aa 0) (fC (.str "-0")))) (bB (ar (af gtD (fCB aY (ae (aa 1) ai)) (fC (.int 19)))) (bG (aU (ax eS (ae (aa 1) ai)))))) (ay (fC .none)) aK) (ay (fCB intD (ae (aa 0) ai)))))):=by
  simp only[ij,mX,lx,ly,if_true,Fw,Fv];rfl
 rw[start,hfe]
 by_cases c1:cd x=[45,48]
 .rw[if_pos (.inl c1)]
  simp[p2,c1,iS]
 .by_cases c2:19<(fg (cd x)).length
  .rw[if_pos (.inr (.inl c2))]
   have c2':(19:Int)<(f.length:Int):=by omega
   simp[p2,c1,hfz,c2',iS]
  .have c2':¬(19:Int)<(f.length:Int):=by omega
   cases c3:fN (fg (cd x)) with
   |false=>
    rw[if_pos (.inr (.inr rfl))];simp[p2,c1,hfz,c2',h1,hf,c3,iS]
   |true=>
    rw[if_neg (by simp[c1,c2])];obtain⟨ad,ne⟩:=B1 c3
    have xl:x.length<=640:=by
     rw[←hl]
     have:(cd x).length<=(fg (cd x)).length+1:=by
      unfold fg;split
      .rw[Ub];omega
      .omega
     omega
    by_cases hm:(cd x).head? = some 45
    .have ht:∃cs,cd x=45::cs:=by
      cases hx:cd x with
      |nil=>rw[hx] at hm;cases hm
      |cons a r=>rw[hx] at hm;cases hm;exact⟨r,rfl⟩
     obtain⟨cs,hcs⟩:=ht
     have hfg:fg (cd x)=cs:=by unfold fg;rw[if_pos hm,hcs];rfl
     rw[hfg] at ad ne;have it:=intText_neg (x:=x) (cs:=cs) hcs ad ne (by omega)
     have it':intText? x=some (-((N2 (cd x).tail:Nat):Int)):=by rw[it,hcs];rfl
     simp[p2,c1,hfz,c2',h1,hf,c3,iS,xl,it',hm]
    .have hfg:fg (cd x)=cd x:=by unfold fg;rw[if_neg hm]
     rw[hfg] at ad ne;have it:=intText_digits (x:=x) ad ne (by omega);have it':intText? x=some ((N2 (cd x):Nat):Int):=it;simp[p2,c1,hfz,c2',h1,hf,c3,iS,xl,it',hm]
def gr(w:List Nat):Option PyData:=if w.head? = some 39 then some (.str (mk w.tail)) else (kO w).map .int
theorem BA(o:Option Int):iS o=kM (o.map .int):=by cases o <;> rfl
theorem Cs(T:Tp)(h:x.length<=Mz):ig [.d (.str x)] T=some (kM (gr (cd x)),T):=by
 have e1:Oq x "'"=decide ((cd x).head? = some 39):=rB (by decide +kernel);unfold gr
 by_cases hm:(cd x).head? = some 39
 .have hne:1<=x.length:=by
   rw[←cg]
   cases hx:cd x with
   |nil=>rw[hx] at hm;cases hm
   |cons _ _=>simp
  have es:NH x (some 1) none=mk (cd x).tail:=dB (by
   rw[i3 (by decide) (by omega),bv]
   simp)
  rw[if_pos hm];simp[ig,e1,hm,h,es,kM]
 .rw[if_neg hm,←BA]
  simp[ig,e1,hm,Cu T h]
theorem Hg(h:(cd x).drop b=a::r):atI x.cps.toList (b:Int)=some a/\b<x.length:=by
 have hb:b<(cd x).length:=by
  apply Decidable.byContradiction;intro z;rw[Of (by omega)] at h;cases h
 refine⟨pF ?_,by rw[←cg];exact hb⟩
 have:(cd x)[b]? = ((cd x).drop b)[0]?:=by simp
 show (cd x)[b]? = some a;rw[this,h];rfl
theorem uF(ht:t.length<=Mz):∀(n b:Nat),((cd t).drop b).length<n->b<=t.length ->
  bo (bD (ar (af ltD (aa 2) (fCB aY (ae (aa 0) ai)))) (ar (af bL (af ixD (aa 0) (aa 2)) (fC (.str "(),"))))) (aF 2 (af aR (aa 2) (fC (.int 1)))) n [some (.d (.str t)),some (.d at'),some (.d (.int b)),none] T
   = some ((.nx,[some (.d (.str t)),some (.d at'),some (.d (.int ((b+(W ((cd t).drop b)).length:Nat):Int))),none]),T)
 |0,b,h,_=>absurd h (N7 _)
 |n+1,b,h,hb=>by
  unfold bo
  cases hd:(cd t).drop b with
  |nil=>
   have hl:t.length<=b:=by
    have:=congrArg QA hd;rw[NG,cg] at this;simp at this;omega
   have hn:¬(b:Int)<(t.length:Int):=by omega
   simp[ht,hn,W]
  |cons a r=>
   obtain⟨h1,h2⟩:=Hg hd
   have hn:(b:Int)<(t.length:Int):=by omega
   have hin:bL (.str ⟨#[a]⟩) (.str "(),")=some (.bool (!dl a)):=by
    show some (Sk (!hW "()," ⟨#[a]⟩))=_;rw[tZ];rfl
   cases hdl:dl a with
   |true=>simp[ht,hn,h1,hin,hdl,W]
   |false=>
    have hr:(cd t).drop (b+1)=r:=by
     have:=congrArg List.tail hd;simpa using this
    have ih:=uF (at':=at') (T:=T) ht n (b+1) (by rw[hr];rw[hd] at h;simpa using h) (by omega);rw[hr] at ih
    have eb:((b+1:Nat):Int)=(b:Int)+1:=by omega
    rw[eb] at ih
    have ew:W (a::r)=a::W r:=by simp[W,hdl]
    have el:b+(a::W r).length=b+1+(W r).length:=by simp;omega
    rw[ew,el];simp[ht,hn,h1,hin,hdl,ih]
theorem Ct{t:Str}(T:Tp)(ht:t.length<=60000)(hb:b<=t.length):gF [.d (.str t),.d (.int b)] T=some ((match gr (W ((cd t).drop b)) with|none=>Sj|some v=>.tuple [v,.int ((b+(W ((cd t).drop b)).length:Nat):Int)]),T):=by
 have ht':t.length<=sizeLine:=MP ht (by decide);have hsc:=uF (at':=.int b) (T:=T) ht' 100000 b (by rw[NG,cg];omega) hb
 have hsl:cd (NH t (some (b:Int)) (some ((b+(W ((cd t).drop b)).length:Nat):Int)))=W ((cd t).drop b):=by
  rw[oB (by omega) (by omega)]
  have e:((b+(W ((cd t).drop b)).length:Nat):Int).toNat-((b:Nat):Int).toNat=(W ((cd t).drop b)).length:=by omega
  rw[e]
  have e2:((b:Nat):Int).toNat=b:=by omega
  rw[e2];exact List.prefix_iff_eq_take.mp (Sb _) |>.symm
 have hlen:(NH t (some (b:Int)) (some ((b+(W ((cd t).drop b)).length:Nat):Int))).length<=sizeLine:=MP (VC _ _ _) ht';have hsb:=Cs (x:=NH t (some (b:Int)) (some ((b+(W ((cd t).drop b)).length:Nat):Int))) T hlen;rw[hsl] at hsb;rw[R5] at hsb hsl hlen hsc;rw[R5]
 cases hs:gr (W ((cd t).drop b)) with
 |none=>
  rw[hs] at hsb;simp only[gF,mX,lx,ly,if_true];simp[hsc,ht',hsb,kM,isNone]
 |some v=>
  have hv:isNone v=false:=by
   unfold gr at hs;split at hs
   .cases hs;rfl
   .obtain⟨i,_,rfl⟩:=M9.mp hs
    rfl
  rw[hs] at hsb;simp only[gF,mX,lx,ly,if_true];simp[hsc,ht',hsb,kM,hv]
def dE(n:Nat):Option (Mo×List Nat)->Mo
 |none=>.none
 |some (v,r)=>.tuple [v,.int ((n-r.length:Nat):Int)]
def fD(val:List Nat->Option (Mo×List Nat)):Nat->List Mo->List Nat->Option (Mo×List Nat)
 |0,_,_=>none
 |n+1,acc,l=>match val l with
  |none=>none
  |some (v,r)=>if r.head? = some 41 then some (.tuple (acc++[v]),r.tail) else if r.head? = some 44 then fD val n (acc++[v]) r.tail else none
def gq(l:List Nat):Option (Mo×List Nat):=(gr (W l)).map fun v=>(v,l.drop (W l).length)
def dC:Nat->List Nat->Option (Mo×List Nat)
 |0,l=>if l.head? = some 40 then none else gq l
 |n+1,l=>if l.head? = some 40 then (if l.tail.head? = some 41 then some (.tuple [],l.tail.tail) else fD (dC n) 100000 [] l.tail) else gq l
def Suf(val:List Nat->Option (Mo×List Nat)):Prop:=∀l v r,val l=some (v,r)->r <:+ l
theorem tD(h:Suf val):∀n acc l v r,fD val n acc l=some (v,r)->r <:+ l
 |0,acc,l,v,r,e=>by cases e
 |n+1,acc,l,v,r,e=>by
  unfold fD at e
  cases hv:val l with
  |none=>rw[hv] at e;cases e
  |some p=>
   obtain⟨v1,r1⟩:=p;have s1:=h l v1 r1 hv;rw[hv] at e;dsimp only at e;split at e
   .cases e
    exact(OG _).trans s1
   .split at e
    .exact((tD h n _ _ _ _ e).trans (OG _)).trans s1
    .cases e
theorem tB:Suf gq:=fun l v r e=>by
 obtain⟨v',_,e'⟩:=M9.mp e;cases e';exact List.drop_suffix _ _
theorem uA:∀n,Suf (dC n)
 |0=>fun l v r e=>by
  unfold dC at e;split at e
  .cases e
  .exact tB _ _ _ e
 |n+1=>fun l v r e=>by
  unfold dC at e;split at e
  .split at e
   .cases e
    exact(OG _).trans (OG _)
   .exact(tD (uA n) _ _ _ _ _ e).trans (OG _)
  .exact tB _ _ _ e
theorem lE{l:List Nat}(h:l.head? = some c):l.length=l.tail.length+1:=by
 cases l with
 |nil=>cases h
 |cons=>simp
theorem kb(hl:l <:+ cd t)(hy:cd y=[c]):(NH t (some ((t.length-l.length:Nat):Int)) (some (((t.length-l.length:Nat):Int)+1))=y)=(l.head? = some c):=by
 have hd:(cd t).drop (t.length-l.length)=l:=by
  have:=RD.mp hl;rw[cg] at this;exact this.symm
 have e:cd (NH t (some ((t.length-l.length:Nat):Int)) (some (((t.length-l.length:Nat):Int)+1)))=l.take 1:=by
  rw[oB (by omega) (by omega)]
  have e1:((t.length-l.length:Nat):Int).toNat=t.length-l.length:=by omega
  have e2:(((t.length-l.length:Nat):Int)+1).toNat-(t.length-l.length)=1:=by omega
  rw[e1,e2,hd]
 refine propext ⟨fun z=>?_,fun z=>dB ?_⟩
 .rw[z,hy] at e
  cases l with
  |nil=>cases e
  |cons a r=>simp at e;simp[e]
 .rw[e,hy]
  cases l with
  |nil=>cases z
  |cons a r=>simp at z;simp[z]
theorem se(hl:l <:+ cd t)(T:Tp)(ht:t.length<=60000):gF [.d (.str t),.d (.int ((t.length-l.length:Nat):Int))] T=some (dE t.length (gq l),T):=by
 have hd:(cd t).drop (t.length-l.length)=l:=by
  have:=RD.mp hl;rw[cg] at this;exact this.symm
 have hn:=hl.length_le;rw[cg] at hn;have h:=Ct (t:=t) (b:=t.length-l.length) T ht (by omega);rw[hd] at h;rw[h];unfold gq;have hw:(W l).length<=l.length:=(Sb _).length_le
 cases gr (W l) with
 |none=>rfl
 |some v=>
  show some (PK [v,.int ((t.length-l.length+(W l).length:Nat):Int)],T)=some (PK [v,.int ((t.length-(l.drop (W l).length).length:Nat):Int)],T);rw[NG]
  have:t.length-l.length+(W l).length=t.length-(l.length-(W l).length):=by omega
  rw[this]
def jA(n:Nat):FS:=(ak (aF 4 (ax (da n) (ae (aa 0) (ae (aa 1) (ae (aa 2) ai))))) (ak (fIf (ar (af isD (aa 4) (fC .none))) (ay (fC .none)) aK) (ak (b8 3 (af ixD (aa 4) (fC (.int 0)))) (ak (aF 1 (af aR (af ixD (aa 4) (fC (.int 1))) (fC (.int 1)))) (ak (aF 5 (fSl (aa 0) (fP (af ixD (aa 4) (fC (.int 1)))) (fP (aa 1)))) (ak (fIf (ar (af eqD (aa 5) (fC (.str ")")))) (ay (aE .tuple (ae (fCB bS (ae (aa 3) ai)) (ae (aa 1) ai)))) aK) (fIf (ar (af neD (aa 5) (fC (.str ",")))) (ay (fC .none)) aK)))))))
theorem vv(ht:t.length<=60000)(hs:Suf val)(hv:∀l,l <:+ cd t->da n [.d (.str t),.d (.int ((t.length-l.length:Nat):Int)),.d (.int rows)] T=some (dE t.length (val l),T)) :
  ∀(k:Nat) (l:List Nat) (acc:List Mo) (o4 o5:Option D.W),l <:+ cd t->l.length<k->acc.length+l.length<=60000 ->
  dr (bo (aU (fC (.bool true))) (jA n) k [some (.d (.str t)),some (.d (.int ((t.length-l.length:Nat):Int))),some (.d (.int rows)),some (.loc (.list acc)),o4,o5] T)=some (dE t.length (fD val k acc l),T)
 |0,l,acc,o4,o5,hl,hk,ha=>absurd hk (N7 _)
 |k+1,l,acc,o4,o5,hl,hk,ha=>by
  have ht':t.length<=sizeLine:=MP ht (by decide);have ha':acc.length<sizeLine:=NK (by omega:acc.length<=60000) (by decide);have h1:=hv l hl;unfold bo fD
  cases hvl:val l with
  |none=>
   rw[hvl] at h1;simp[jA,h1,dE,isNone]
  |some p=>
   obtain⟨v,r⟩:=p;have hr:=(hs l v r hvl);have hrt:=hr.trans hl;have hrl:=hr.length_le;have hll:=hl.length_le;rw[cg] at hll;have s1:=kb (c:=41) hrt (y:=Mv ")") (by decide +kernel);have s2:=kb (c:=44) hrt (y:=Mv ",") (by decide +kernel);rw[hvl] at h1
   have step:∀c,r.head? = some c->(((t.length-r.length:Nat):Int)+1)=((t.length-r.tail.length:Nat):Int):=fun c hc=>by
    have:=lE hc;omega
   dsimp only
   by_cases c1:r.head? = some 41
   .have e1:=step _ c1
    rw[if_pos c1]
    have goal:dE t.length (some (PK (acc++[v]),r.tail))=.tuple [.tuple (acc++[v]),.int (((t.length-r.length:Nat):Int)+1)]:=by
     rw[e1];rfl
    rw[goal];simp[jA,h1,dE,isNone,nq,nk,ha',ht',s1,c1]
   .rw[if_neg c1]
    by_cases c2:r.head? = some 44
    .have e1:=step _ c2
     have e2:=lE c2;have ih:=vv ht hs hv k r.tail (acc++[v]) (some (.d (.tuple [v,.int ((t.length-r.length:Nat):Int)]))) (some (.d (.str (NH t (some ((t.length-r.length:Nat):Int)) (some (((t.length-r.length:Nat):Int)+1)))))) ((OG _).trans hrt) (by omega) (by simp;omega);rw[←e1] at ih;rw[if_pos c2,←ih];simp[jA,h1,dE,isNone,nq,nk,ha',ht',s1,s2,c1,c2]
    .rw[if_neg c2]
     simp[jA,h1,dE,isNone,nq,nk,ha',ht',s1,s2,c1,c2]
def qz(val:List Nat->Option (Mo×List Nat))(l:List Nat):Option (Mo×List Nat):=if l.head? = some 41 then some (.tuple [],l.tail) else fD val 100000 [] l
theorem D6(ht:t.length<=60000)(hs:Suf val)(hv:∀l,l <:+ cd t->da n [.d (.str t),.d (.int ((t.length-l.length:Nat):Int)),.d (.int rows)] T=some (dE t.length (val l),T))(hl:l <:+ cd t) :
  gL (n+1) [.d (.str t),.d (.int ((t.length-l.length:Nat):Int)),.d (.int rows)] T=some (dE t.length (qz val l),T):=by
 have ht':t.length<=sizeLine:=MP ht (by decide);have hll:=hl.length_le;rw[cg] at hll;have s1:=kb (c:=41) hl (y:=Mv ")") (by decide +kernel);have hr:=vv (T:=T) ht hs hv 100000 l [] none none hl (by omega) (by simp;omega);unfold qz
 by_cases c1:l.head? = some 41
 .rw[if_pos c1]
  have goal:dE t.length (some (PK [],l.tail))=.tuple [.tuple [],.int (((t.length-l.length:Nat):Int)+1)]:=by
   have:=lE c1
   have e:(((t.length-l.length:Nat):Int)+1)=((t.length-l.tail.length:Nat):Int):=by omega
   rw[e];rfl
  rw[goal];simp[gL,ht',s1,c1]
 .rw[if_neg c1,←hr]
  have:gL (n+1)=aW 6 (ak (fIf (ar (af eqD (fSl (aa 0) (fP (aa 1)) (fP (af aR (aa 1) (fC (.int 1))))) (fC (.str ")")))) (ay (aE .tuple (ae (aE .tuple ai) (ae (af aR (aa 1) (fC (.int 1))) ai)))) aK) (ak (cO 3 ai) (bo (aU (fC (.bool true))) (jA n) 100000))):=by rw[gL];rfl
  rw[this];simp[ht',s1,c1]
theorem vd(ht:t.length<=60000):∀(rows n:Nat),2*rows+1<=n->∀l,l <:+ cd t->da n [.d (.str t),.d (.int ((t.length-l.length:Nat):Int)),.d (.int rows)] T=some (dE t.length (dC rows l),T)
 |_,0,h,_,_=>absurd h (by omega)
 |0,n+1,h,l,hl=>by
  have ht':t.length<=sizeLine:=MP ht (by decide);have s1:=kb (c:=40) hl (y:=Mv "(") (by decide +kernel);have sg:=se hl T ht;unfold dC
  by_cases c1:l.head? = some 40
  .simp[da,ht',s1,c1,dE]
  .simp[da,ht',s1,c1,sg]
 |rows+1,n+1,h,l,hl=>by
  have ht':t.length<=sizeLine:=MP ht (by decide);have s1:=kb (c:=40) hl (y:=Mv "(") (by decide +kernel);have sg:=se hl T ht;have hll:=hl.length_le;rw[cg] at hll;unfold dC
  by_cases c1:l.head? = some 40
  .obtain⟨m,rfl⟩:∃m,n=m+1:=⟨n-1,by omega⟩
   have rr:=D6 ht (uA rows) (vd (T:=T) ht rows m (by omega)) ((OG l).trans hl);have:=lE c1
   have e:(((t.length-l.length:Nat):Int)+1)=((t.length-l.tail.length:Nat):Int):=by omega
   rw[←e] at rr
   have e2:((rows+1:Nat):Int)-1=(rows:Int):=by omega
   have e3:¬((rows+1:Nat):Int)=0:=by omega
   rw[if_pos c1];show _=some (dE t.length (qz (dC rows) l.tail),T);rw[←e2] at rr;generalize ((rows+1:Nat):Int)=R at e3 rr;simp[da,ht',s1,c1,e3,rr]
  .rw[if_neg c1]
   simp[da,ht',s1,c1,sg]
theorem u5(m:Nat):0<m->(dg m).head?≠some 48:=by
 induction m using Nat.strongRecOn with
 |_ m ih=>
  intro hm
  by_cases h:m<10
  .have:∀m:Nat,m<10->0<m->((QS 10 m).map UL).head?≠some 48:=by decide
   exact this m h hm
  .have hm:m % 10<10:=Nat.mod_lt m (by decide)
   have t:QS 10 (m / 10)++QS 10 (m % 10)=QS 10 (10*(m / 10)+m % 10):=Nat.toDigits_append_toDigits (by decide) (by omega) hm;rw[Nat.div_add_mod] at t
   have e:dg m=dg (m / 10)++dg (m % 10):=by
    unfold dg;rw[←t,NV]
   have i1:=ih (m / 10) (by omega) (by omega);have i2:=jy (m / 10);rw[e]
   cases hd:dg (m / 10) with
   |nil=>exact absurd hd i2
   |cons a r=>rw[hd] at i1;simpa using i1
theorem DN:dg 0=[48]:=by decide
theorem u6(m:Nat):fN (dg m)=true:=by
 unfold fN;rw[Mx,Mx];refine⟨⟨by simpa using jy m,MM.mpr fun c hc=>decide_eq_true ?_⟩,?_⟩
 .rw[sM]
  have:=g8 m c hc;simp;omega
 .rcases Nat.eq_zero_or_pos m with h|h
  .subst h
   rw[DN];rfl
  .rw[Bool.or_eq_true]
   right;simpa using u5 m h
theorem lK(m:Nat):(dg m).head?≠some 45:=fun h=>by
 cases hd:dg m with
 |nil=>rw[hd] at h;cases h
 |cons a r=>
  rw[hd] at h;cases h;have:=g8 m 45 (by rw[hd];exact Mq);omega
theorem Dk(h:single (.int i)=true):kO (nc i)=some i:=by
 have h:=jL h;unfold kO
 cases i with
 |ofNat m=>
  show (if dg m=[45,48]\/19<(fg (dg m)).length\/fN (fg (dg m))=false then none else some (if (dg m).head? = some 45 then -((N2 (dg m).tail:Nat):Int) else ((N2 (dg m):Nat):Int)))=_
  have e:fg (dg m)=dg m:=by unfold fg;rw[if_neg (lK m)]
  have l:=jn (m:=m) h;rw[e,if_neg (lK m),mJ,u6,if_neg]
  .rfl
  .rintro(z|z|z)
   .exact lK m (by rw[z];rfl)
   .omega
   .cases z
 |negSucc m=>
  show (if 45::dg (m+1)=[45,48]\/19<(fg (45::dg (m+1))).length\/fN (fg (45::dg (m+1)))=false then none else some (if (45::dg (m+1)).head? = some 45 then -((N2 (45::dg (m+1)).tail:Nat):Int) else ((N2 (45::dg (m+1)):Nat):Int)))=_;have e:fg (45::dg (m+1))=dg (m+1):=rfl;have l:=jn (m:=m+1) h;have e2:(45::dg (m+1)).tail=dg (m+1):=rfl;rw[e,e2,mJ,u6,if_pos (by rfl:(45::dg (m+1)).head? = some 45),if_neg]
  .rfl
  .rintro(z|z|z)
   .have z':dg (m+1)=[48]:=(List.cons.inj z).2
    have:=u5 (m+1) (by omega);rw[z'] at this;exact this rfl
   .omega
   .cases z
theorem txt_codes(h:has TXT x=true):∀c∈cd x,dl c=false:=fun c hc=>by
 have h1:=of_decide_eq_true (MM.mp h c hc)
 have h2:∀c∈TXT.cps.toList,dl c=false:=by decide +kernel
 exact h2 c h1
theorem tT(i:Int):∀c∈nc i,dl c=false:=fun c hc=>by
 rw[kg];have:=lY i c hc;exact decide_eq_false (by omega)
def nr(l:List Nat):Prop:=∀c,l.head? = some c->dl c=true
theorem w8(hw:∀c∈w,dl c=false)(hl:nr l):W (w++l)=w:=by
 unfold W;rw[List.takeWhile_append_of_pos (fun c hc=>by rw[hw c hc];rfl)]
 cases l with
 |nil=>simp
 |cons a r=>
  have:=hl a rfl;rw[List.takeWhile_cons,this];simp
theorem r8(h:single d=true)(hl:nr l):(cst n d++l).head?≠some 40/\(cst n d).head?≠some 41/\cst n d≠[]/\gq (cst n d++l)=some (d,l)/\(cst n d).length<=21:=by
 rcases dY h with⟨i,rfl⟩|⟨x,rfl⟩
 .rw[jW]
  have hne:=GO i;have hs:=lY i;have hh:∀c,(nc i).head? = some c->c=45\/(48<=c/\c<=57):=fun c hc=>hs c (List.mem_of_head? hc)
  have h39:(nc i).head?≠some 39:=fun z=>by have:=hh _ z;omega
  refine⟨?_,fun z=>by have:=hh _ z;omega,hne,?_,by have:=pV h;omega⟩
  .rw[tY hne]
   exact fun z=>by have:=hh _ z;omega
  .unfold gq
   rw[w8 (tT i) hl];unfold gr;rw[if_neg h39,Dk h];simp
 .rw[jV]
  have h':(decide (x.length<=20)&&has TXT x)=true:=h;rw[Mx] at h';refine⟨by simp,by simp,by simp,?_,?_⟩
  .unfold gq
   rw[w8 (w:=39::cd x) (fun c hc=>by
    rcases MG.mp hc with z|z
    .subst z;rw[kg];rfl
    .exact txt_codes h'.2 c z) hl]
   unfold gr;rw[if_pos (by rfl:(39::cd x).head? = some 39)];show (some (Nk (mk (cd x)))).map _=_;rw[qm];simp
  .have:=of_decide_eq_true h'.1
   rw[MY,cg];omega
theorem sG:∀(ds:List Mo) (d:Mo) (k:Nat) (acc:List Mo),ds.length<k->(∀x∈d::ds,∀l,nr l->val (f x++l)=some (x,l)) ->
  fD val k acc (aZ [44] ((d::ds).map f)++41::post)=some (.tuple (acc++d::ds),post)
 |ds,d,0,acc,h,_=>absurd h (N7 _)
 |[],d,k+1,acc,h,hv=>by
  have:=hv d Mq (41::post) (fun c hc=>by cases hc;rw[kg];rfl);unfold fD;show (match val (f d++41::post) with|none=>none|some (v,r)=>_)=_;rw[this];rfl
 |e::ds,d,k+1,acc,h,hv=>by
  have h1:=hv d Mq (44::(aZ [44] ((e::ds).map f)++41::post)) (fun c hc=>by cases hc;rw[kg];rfl);have ih:=sG (post:=post) ds e k (acc++[d]) (by simpa using h) (fun x hx=>hv x (Mr _ hx))
  have e1:aZ [44] ((d::e::ds).map f)++41::post=f d++44::(aZ [44] ((e::ds).map f)++41::post):=by
   show (f d++[44]++aZ [44] ((e::ds).map f))++41::post=_;simp
  unfold fD;rw[e1,h1];simp only[OP,Qx,Pj] at ih;simpa using ih
theorem Cg:∀(n:Nat) (d:Mo),aG n d=true->cst n d≠[]/\(cst n d).head?≠some 41:=fun n d h=>by
 rcases c9 h with h1|⟨m,ds,rfl,rfl,_,_⟩
 .have:=r8 (n:=n) (l:=[]) h1 (fun c hc=>by cases hc)
  exact⟨this.2.2.1,this.2.1⟩
 .exact⟨by simp[cst],by simp[cst]⟩
theorem A9(h:l.head?≠some 40):dC n l=gq l:=by
 cases n with
 |zero=>unfold dC;rw[if_neg h]
 |succ n=>unfold dC;rw[if_neg h]
theorem val_back:∀(n:Nat) (d:Mo),aG n d=true->∀l,nr l->dC n (cst n d++l)=some (d,l)
 |n,d,h,l,hl=>by
  rcases c9 h with h1|⟨m,ds,rfl,rfl,h8,hb⟩
  .have:=r8 (n:=n) h1 hl
   rw[A9 this.1,this.2.2.2.1]
  .have ih:=val_back m
   have e:cst (m+1) (.tuple ds)++l=40::(aZ [44] (ds.map (cst m))++41::l):=by
    show (40::(aZ [44] (ds.map (cst m))++[41]))++l=_;simp
   rw[e];unfold dC;rw[if_pos (by rfl:(40::(aZ [44] (ds.map (cst m))++41::l)).head? = some 40)]
   cases ds with
   |nil=>rfl
   |cons d ds=>
    have hh:=Cg m d (hb d Mq);have e2:(40::(aZ [44] ((d::ds).map (cst m))++41::l)).tail=aZ [44] ((d::ds).map (cst m))++41::l:=rfl
    have e3:(aZ [44] ((d::ds).map (cst m))++41::l).head?≠some 41:=by
     rw[M5,gI,OP,tY hh.1];exact hh.2
    rw[e2,if_neg e3];have:=sG (val:=dC m) (f:=cst m) (post:=l) ds d 100000 [] (by simp at h8;omega) (fun x hx l hl=>ih x (hb x hx) l hl);rw[this];rfl
termination_by n=>n
theorem F4(T:Tp)(h:aJ v=true):ir [.d (.str (mk (cst 4 v)))] T=some (v,T):=by
 obtain⟨hb,hm⟩:=cU h;have hl:=pB 4 v hb
 have ht:(mk (cst 4 v)).length<=60000:=by rw[bV];omega
 have ht':(mk (cst 4 v)).length<=sizeLine:=MP ht (by decide);have e:=vd (T:=T) ht 4 25 (by decide) (cst 4 v) (by rw[bv];exact List.suffix_refl _);have b:=val_back 4 v hb [] (fun c hc=>by cases hc);rw[OL] at b;rw[b,bV,Nat.sub_self] at e;have e':da 25 [.d (.str (mk (cst 4 v))),.d (.int 0),.d (.int 4)] T=some (.tuple [v,.int ((cst 4 v).length:Int)],T):=e;have iv:=D5 T (Eh h);rw[h] at iv
 have hn:¬((cst 4 v).length:Int)<((cst 4 v).length:Int):=by omega
 have hz:(mk (cst 4 v)).length=(cst 4 v).length:=bV _;simp[ir,e',isNone,nq,nk,ht',iv,hz];intro z;rw[hz] at ht';omega
def hdC(a:Nat):List (List Nat)->List (List Nat)
 |[]=>[[a]]
 |w::r=>(a::w)::r
def spl(c:Nat):List Nat->List (List Nat)
 |[]=>[[]]
 |a::l=>if a=c then []::spl c l else hdC a (spl c l)
theorem Fq(a:Nat)(l:List (List Nat)):hdC a l≠[]:=by cases l <;> simp[hdC]
theorem mj(c:Nat):∀l,spl c l≠[]
 |[]=>by simp[spl]
 |a::l=>by
  rw[spl];split
  .simp
  .exact Fq _ _
theorem tH(c:Nat):∀l,∀w∈spl c l,c∉w
 |[],w,h=>by simp[spl] at h;simp[h]
 |a::l,w,h=>by
  have ih:=tH c l;rw[spl] at h;split at h
  .rcases MG.mp h with z|z
   .simp[z]
   .exact ih w z
  .rename_i ha
   cases hs:spl c l with
   |nil=>exact absurd hs (mj c l)
   |cons u r=>
    rw[hs] at h ih
    rcases MG.mp h with z|z
    .rw[z]
     intro q
     rcases MG.mp q with e|e
     .exact ha e.symm
     .exact ih u Mq e
    .exact ih w (Mr _ z)
def sub(c:Nat)(z l:List Nat):List Nat:=l.flatMap fun a=>if a=c then z else [a]
theorem pC(c:Nat)(z:List Nat):∀l,aZ z (spl c l)=sub c z l
 |[]=>rfl
 |a::l=>by
  have ih:=pC c z l;have e:sub c z (a::l)=(if a=c then z else [a])++sub c z l:=rfl;rw[e,←ih,spl]
  cases hs:spl c l with
  |nil=>exact absurd hs (mj c l)
  |cons u r=>
   split
   .rfl
   .show aZ z ((a::u)::r)=_
    rw[gI,gI];rfl
theorem sub_self(c:Nat):∀l,sub c [c] l=l
 |[]=>rfl
 |a::l=>by
  have e:sub c [c] (a::l)=(if a=c then [c] else [a])++sub c [c] l:=rfl;rw[e,sub_self c l]
  by_cases h:a=c
  .rw[if_pos h,h];rfl
  .rw[if_neg h];rfl
theorem jb(c:Nat)(b:List Nat):∀a,spl c (a++c::b)=spl c a++spl c b
 |[]=>by simp[spl]
 |x::a=>by
  have ih:=jb c b a;rw[Qx,spl,spl,ih]
  cases hs:spl c a with
  |nil=>exact absurd hs (mj c a)
  |cons u r=>split <;> rfl
theorem uC(c:Nat):∀w,c∉w->spl c w=[w]
 |[],_=>rfl
 |a::w,h=>by
  rw[spl,uC c w (fun z=>h (Mr _ z)),if_neg (fun e=>h (by rw[e];exact Mq))];rfl
theorem Cq(ha:c∉a)(hb:c∉b)(hu:u=[]\/u.head? = some c)(hv:v=[]\/v.head? = some c)(h:a++u=b++v):a=b/\u=v:=by
 induction a generalizing b with
 |nil=>
  cases b with
  |nil=>exact⟨rfl,h⟩
  |cons d b=>
   exfalso;rw[Pj] at h
   rcases hu with hu|hu
   .rw[hu] at h;cases h
   .rw[h] at hu
    have:d=c:=by simpa using hu
    exact hb (by simp[this])
 |cons x a ih=>
  cases b with
  |nil=>
   exfalso;rw[Pj] at h
   rcases hv with hv|hv
   .rw[hv] at h;cases h
   .rw[←h] at hv
    have:x=c:=by simpa using hv
    exact ha (by simp[this])
  |cons d b=>
   rw[Qx,Qx] at h
   injection h with h1 h2
   obtain⟨k1,k2⟩:=ih (b:=b) (fun z=>ha (Mr _ z)) (fun z=>hb (Mr _ z)) h2;exact⟨by rw[h1,k1],k2⟩
theorem ua(c:Nat)(r:List (List Nat)):(r.map ([c]++·)).flatten=[]\/((r.map ([c]++·)).flatten).head? = some c:=by
 cases r with
 |nil=>exact .inl rfl
 |cons a r=>exact .inr rfl
theorem um(c:Nat):∀(A B:List (List Nat)),A≠[]->B≠[]->(∀a∈A,c∉a)->(∀b∈B,c∉b)->aZ [c] A=aZ [c] B->A=B
 |[],_,h,_,_,_,_=>absurd rfl h
 |_::_,[],_,h,_,_,_=>absurd rfl h
 |a::A,b::B,_,_,hA,hB,h=>by
  rw[gI,gI] at h;obtain⟨h1,h2⟩:=Cq (hA a Mq) (hB b Mq) (ua c A) (ua c B) h;rw[h1]
  congr 1
  cases A with
  |nil=>
   cases B with
   |nil=>rfl
   |cons b' B=>cases h2
  |cons a' A=>
   cases B with
   |nil=>cases h2
   |cons b' B=>
    have h3:a'++(A.map ([c]++·)).flatten=b'++(B.map ([c]++·)).flatten:=by
     have e:∀(x:List Nat) (r:List (List Nat)),((x::r).map ([c]++·)).flatten=c::(x++(r.map ([c]++·)).flatten):=fun x r=>by simp
     rw[e,e] at h2;injection h2
    refine um c (a'::A) (b'::B) (by simp) (by simp) (fun x hx=>hA x (Mr _ hx)) (fun x hx=>hB x (Mr _ hx)) ?_;rw[gI,gI];exact h3
theorem Ba(x y:Str):O7 x y≠[]:=by
 unfold O7;split
 .simp
 .split
  .simp
  .rw[StrLaws.partsBetween_eq]
   obtain⟨p,r,e⟩:=StrLaws.partsFrom_ne x y.length 0 (Nl x y 0 x.length (x.length+1));rw[e];simp
theorem tG(x:Str)(c:Nat):(O7 x ⟨#[c]⟩).map cd=spl c (cd x):=by
 have j:=StrLaws.join_split x ⟨#[c]⟩;have f:=StrLaws.split_free x c
 have e:cd (Qm ⟨#[c]⟩ (O7 x ⟨#[c]⟩))=cd x:=by rw[j]
 rw[l8] at e;have b:cd ⟨#[c]⟩=[c]:=rfl;rw[b] at e;refine um c _ _ (by simpa using Ba x _) (mj c _) (fun a ha=>?_) (tH c _) (by rw[e,pC,sub_self]);obtain⟨p,hp,rfl⟩:=MJ.mp ha;exact f p hp
theorem lT(x z:Str)(c:Nat):cd (NO x ⟨#[c]⟩ z)=sub c (cd z) (cd x):=by rw[StrLaws.replace_one,l8,tG,pC]
theorem sub_len(c:Nat)(z:List Nat)(hz:z.length=3):∀l,(sub c z l).length<=3*l.length
 |[]=>MC _
 |a::l=>by
  have e:sub c z (a::l)=(if a=c then z else [a])++sub c z l:=rfl;have ih:=sub_len c z hz l;rw[e,Na,MY];split
  .omega
  .simp;omega
theorem uB(c:Nat)(z a b:List Nat):sub c z (a++b)=sub c z a++sub c z b:=List.flatMap_append
theorem jN(c:Nat)(z:List Nat):∀w,c∉w->sub c z w=w
 |[],_=>rfl
 |a::w,h=>by
  have e:sub c z (a::w)=(if a=c then z else [a])++sub c z w:=rfl;rw[e,jN c z w (fun q=>h (Mr _ q)),if_neg (fun q=>h (by rw[q];exact Mq))];rfl
def z1:List Nat:=[44,40,44]
def z2:List Nat:=[44,41,44]
def wdl(l:List Nat):List (List Nat):=spl 44 (sub 41 z2 (sub 40 z1 l))
theorem Cw(a b:List Nat):wdl (a++44::b)=wdl a++wdl b:=by
 have e:(a++44::b)=a++([44]++b):=rfl;unfold wdl;rw[e];simp only[uB,jN 40 z1 [44] (by decide),jN 41 z2 [44] (by decide)];exact jb 44 _ _
theorem ux(h:∀c∈w,dl c=false):wdl w=[w]:=by
 have q:∀c∈w,¬(c=40\/c=41\/c=44):=fun c hc=>by
  have:=h c hc;rw[kg] at this;exact of_decide_eq_false this
 unfold wdl;rw[jN 40 z1 w (fun z=>q _ z (.inl rfl)),jN 41 z2 w (fun z=>q _ z (.inr (.inl rfl))),uC 44 w (fun z=>q _ z (.inr (.inr rfl)))]
theorem Cv(l:List Nat):wdl (40::(l++[41]))=[]::[40]::(wdl l++[[41],[]]):=by
 have e:(40::(l++[41]))=[40]++(l++[41]):=rfl
 have s1:sub 40 z1 [40]=z1:=by decide
 have s2:sub 40 z1 [41]=[41]:=by decide
 have s3:sub 41 z2 z1=z1:=by decide
 have s4:sub 41 z2 [41]=z2:=by decide
 unfold wdl;rw[e];simp only[uB,s1,s2,s3,s4];generalize sub 41 z2 (sub 40 z1 l)=m
 have t:z1++(m++z2)=([]:List Nat)++44::([40]++44::(m++44::([41]++44::[]))):=by simp[z1,z2]
 rw[t,jb,jb,jb,jb];have u1:spl 44 []=[[]]:=rfl
 have u2:spl 44 [40]=[[40]]:=by decide
 have u3:spl 44 [41]=[[41]]:=by decide
 rw[u1,u2,u3];rfl
theorem uy(f:Mo->List Nat):∀(d:Mo) (ds:List Mo),wdl (aZ [44] ((d::ds).map f))=(d::ds).flatMap fun x=>wdl (f x)
 |d,[]=>by simp[aZ]
 |d,e::ds=>by
  have e1:aZ [44] ((d::e::ds).map f)=f d++44::aZ [44] ((e::ds).map f):=by
   show f d++[44]++aZ [44] ((e::ds).map f)=_;rw[OP];rfl
  rw[e1,Cw,uy f e ds];rfl
theorem words_of(t:Str):(O7 (NO (NO t "(" ",(,") ")" ",),") ",").map cd=wdl (cd t):=by
 have q1:Mv "("=⟨#[40]⟩:=by decide +kernel
 have q2:Mv ")"=⟨#[41]⟩:=by decide +kernel
 have q3:Mv ","=⟨#[44]⟩:=by decide +kernel
 have q4:cd ",(,"=z1:=by decide +kernel
 have q5:cd ",),"=z2:=by decide +kernel
 rw[q1,q2,q3,tG,lT,lT,q4,q5];rfl
def vbI:FI:=(mG (af j6 (fUn (gW ")" ",),") (fUn (gW "(" ",(,") (aa 0))) (fC (.str ","))))
def vbJ:FK:=(kIf 1 (ar (af eqD (aa 2) (fC (.str "(")))) jv (kIf 1 (bD (ar (af eqD (aa 2) (fC (.str ")")))) (ar (af gtD (fCB aY (ae (aa 1) ai)) (fC (.int 1))))) (cI (kT 4) (eP (fUn bA (fC (.int 1))) (aa 4))) (kIf 1 (ar (af eqD (fSl (aa 2) bw (fP (fC (.int 1)))) (fC (.str "'")))) (eP (fUn bA (fC (.int 1))) (fSl (aa 2) (fP (fC (.int 1))) bw)) (kIf 1 (bD (ar (af neD (aa 3) (fC (.str "")))) (bD (ar (af ltD (fCB aY (ae (aa 2) ai)) (fC (.int 25)))) (ar (af eqG (br (aX (aa 3)) (ar (af bL (aa 0) (fC (.str "0123456789")))) (aa 0)) (aE .list ai))))) (eP (fUn bA (fC (.int 1))) (fCB intD (ae (aa 2) ai))) eN))))
def vbB:FK:=(cI (jF 3 (fSl (aa 2) (fP (fCB intD (ae (af eqD (fSl (aa 2) bw (fP (fC (.int 1)))) (fC (.str "-"))) ai))) bw)) (kIf 1 (ar (af eqD (aa 2) (fC (.str "(")))) jv (kIf 1 (bD (ar (af eqD (aa 2) (fC (.str ")")))) (ar (af gtD (fCB aY (ae (aa 1) ai)) (fC (.int 1))))) (cI (kT 4) (eP (fUn bA (fC (.int 1))) (aa 4))) (kIf 1 (ar (af eqD (fSl (aa 2) bw (fP (fC (.int 1)))) (fC (.str "'")))) (eP (fUn bA (fC (.int 1))) (fSl (aa 2) (fP (fC (.int 1))) bw)) (kIf 1 (bD (ar (af neD (aa 3) (fC (.str "")))) (bD (ar (af ltD (fCB aY (ae (aa 2) ai)) (fC (.int 25)))) (ar (af eqG (br (aX (aa 3)) (ar (af bL (aa 0) (fC (.str "0123456789")))) (aa 0)) (aE .list ai))))) (eP (fUn bA (fC (.int 1))) (fCB intD (ae (aa 2) ai))) eN)))))
theorem Eg:vbB=cI (jF 3 (fSl (aa 2) (fP (fCB intD (ae (af eqD (fSl (aa 2) bw (fP (fC (.int 1)))) (fC (.str "-"))) ai))) bw)) vbJ:=rfl
def vbA:FK:=(kIf 1 (bB (bG (aU (fUn (bf .str) (aa 0)))) (ar (af gtD (fCB aY (ae (aa 0) ai)) (fC (.int 900))))) (kNo (jG (aE .list ai))) eN)
def vbE:FK:=(kIf 1 (bB (ar (af gtD (fCB aY (ae (aa 1) ai)) (fC (.int 1)))) (bB (ar (af neD (fCB aY (ae (af ixD (aa 1) (fC (.int 0))) ai)) (fC (.int 1)))) (bB (bG (aU (ax dH (ae (af ixD (af ixD (aa 1) (fC (.int 0))) (fC (.int 0))) ai)))) (ar (af neD (ax (cJ 25) (ae (af ixD (af ixD (aa 1) (fC (.int 0))) (fC (.int 0))) ai)) (aa 0)))))) (jG (aE .list ai)) eN)
theorem E7:fQ=aW 5 (jm 1 (cI vbA (cI (kFor 2 vbI vbB) (cI vbE kB)))):=rfl
@[simp] theorem IK:op2 o T (.loc (.list xs)) (.d y)=mkD T (o (.list xs) y):=rfl
@[simp] theorem IM:op2 o T (.d x) (.loc (.list xs))=mkD T (o x (.list xs)):=rfl
@[simp] theorem IQ:op1 o T (.loc (.list xs))=mkD T (o (.list xs)):=rfl
theorem Gd(x:Str)(n:Nat):cd (NH x none (some (n:Int)))=(cd x).take n:=by
 have e:ND none (some (n:Int)) 1 x.length=ND (some 0) (some (n:Int)) 1 x.length:=by
  have hm:max 0 (min (0:Int) (x.length:Int))=0:=by omega
  unfold ND sliceRange;simp[hm]
 have e2:NH x none (some (n:Int))=NH x (some 0) (some (n:Int)):=by
  unfold NH;rw[e]
 rw[e2,oB (by omega) (by omega)];simp
theorem eK(h:cd (Mv s)=l):(mk w=Mv s)=(w=l):=by
 rw[lit h,eq_iff_iff];exact⟨fun e=>by rw[←bv w,e,bv],fun e=>by rw[e]⟩
theorem mW(w:List Nat)(h:cd (Mv s)=[c]):(NH (mk w) none (some 1)=Mv s)=(w.head? = some c):=by
 rw[lit h,eq_iff_iff];have q:=Gd (mk w) 1;rw[bv] at q;have q':cd (NH (mk w) none (some 1))=w.take 1:=q;constructor
 .intro e
  rw[e,bv] at q'
  cases w with
  |nil=>simp at q'
  |cons a r=>simp at q';simp[q']
 .intro e
  refine dB ?_;rw[q',bv]
  cases w with
  |nil=>cases e
  |cons a r=>cases e;rfl
def fgW(w:List Nat):List Nat:=if w.head? = some 45 then w.tail else w
theorem G7(w:List Nat):NH (mk w) (some (if w.head? = some 45 then 1 else 0)) none=mk (fgW w):=by
 refine dB ?_
 cases w with
 |nil=>
  have:¬([]:List Nat).head? = some 45:=by simp
  rw[if_neg this,i3 (by decide) (by simp[bV]),bv,bv,fgW,if_neg this];rfl
 |cons a r=>
  by_cases h:a=45
  .have h':(a::r).head? = some 45:=by simp[h]
   rw[if_pos h',i3 (by decide) (by rw[bV];simp;omega),bv,bv,fgW,if_pos h'];rfl
  .have h':¬(a::r).head? = some 45:=by simpa using h
   rw[if_neg h',i3 (by decide) (by rw[bV];simp;omega),bv,bv,fgW,if_neg h'];rfl
abbrev ρV(t:Mo)(o2 o3 o4:Option D.W):Rho:=[some (.d t),none,o2,o3,o4]
theorem iN:onK 1 (ρV t o2 o3 o4) s=[some (.d t),some (.loc (.list (s.reverse.map .list))),o2,o3,o4]:=rfl
section
variable {t:Mo}{T:Tp}{o2 o3 o4:Option D.W}{ys:List Mo}{s:Stk}
theorem Ey(hl:w.length<=1000):∃o,(jF 3 (fSl (aa 2) (fP (fCB intD (ae (af eqD (fSl (aa 2) bw (fP (fC (.int 1)))) (fC (.str "-"))) ai))) bw)) (ρV t (some (.d (.str (mk w)))) o3 o4) (ys::s) T=some ((.nx,ρV t (some (.d (.str (mk w)))) (some (.d (.str (mk (fgW w))))) o4,ys::s),T)/\o=():=by
 refine⟨(),?_,rfl⟩;have a1:=mW w (s:="-") (c:=45) (by decide +kernel);have l1:(mk w).length<=sizeLine:=dy (by rw[bV];omega);have f:=G7 w
 by_cases h:w.head? = some 45
 .rw[if_pos h] at f
  simp[a1,l1,h,f]
 .rw[if_neg h] at f
  simp[a1,l1,h,f]
theorem km(hl:w.length<=1000)(h:vbJ (ρV t (some (.d (.str (mk w)))) (some (.d (.str (mk (fgW w))))) o4) (ys::s) T=r):vbB (ρV t (some (.d (.str (mk w)))) o3 o4) (ys::s) T=r:=by
 obtain⟨_,e,_⟩:=Ey (t:=t) (T:=T) (o3:=o3) (o4:=o4) (ys:=ys) (s:=s) hl;rw[Eg];show bnd _ _=_;rw[e];exact h
theorem pM:vbB (ρV t (some (.d (.str (mk [])))) o3 o4) (ys::s) T=some ((.nx,ρV t (some (.d (.str (mk [])))) (some (.d (.str (mk [])))) o4,ys::s),T):=by
 have e1:=eK (w:=[]) (s:="(") (l:=[40]) (by decide +kernel);have e2:=eK (w:=[]) (s:=")") (l:=[41]) (by decide +kernel);have e3:=mW [] (s:="'") (c:=39) (by decide +kernel);have e4:=eK (w:=[]) (s:="") (l:=[]) (by decide +kernel);have l1:(mk []).length<=sizeLine:=dy (by rw[bV];simp);exact km (by simp) (by simp[vbJ,iN,e1,e2,e3,e4,fgW,l1])
theorem CA(hs:s.length<1000):vbB (ρV t (some (.d (.str (mk [40])))) o3 o4) (ys::s) T=some ((.nx,ρV t (some (.d (.str (mk [40])))) (some (.d (.str (mk [40])))) o4,[]::ys::s),T):=by
 have e1:=eK (w:=[40]) (s:="(") (l:=[40]) (by decide +kernel)
 have l1:s.length+1<100000:=by omega
 exact km (by simp) (by simp[vbJ,iN,e1,fgW,l1])
theorem A8(hy:zs.length<1000):vbB (ρV t (some (.d (.str (mk [41])))) o3 o4) (ys::zs::s) T=some ((.nx,ρV t (some (.d (.str (mk [41])))) (some (.d (.str (mk [41])))) (some (.d (.tuple ys))),(zs++[.tuple ys])::s),T):=by
 have e1:=eK (w:=[41]) (s:="(") (l:=[40]) (by decide +kernel);have e2:=eK (w:=[41]) (s:=")") (l:=[41]) (by decide +kernel)
 have l2:zs.length<100000:=by omega
 exact km (by simp) (by simp[vbJ,iN,e1,e2,fgW,l2];intro h;omega)
theorem Cz(hx:x.length<=20)(hy:ys.length<1000):vbB (ρV t (some (.d (.str (mk (39::cd x))))) o3 o4) (ys::s) T=some ((.nx,ρV t (some (.d (.str (mk (39::cd x))))) (some (.d (.str (mk (39::cd x))))) o4,(ys++[.str x])::s),T):=by
 have e1:=eK (w:=39::cd x) (s:="(") (l:=[40]) (by decide +kernel);have e2:=eK (w:=39::cd x) (s:=")") (l:=[41]) (by decide +kernel);have e3:=mW (39::cd x) (s:="'") (c:=39) (by decide +kernel)
 have hl:(39::cd x).length<=1000:=by rw[MY,cg];omega
 have l1:(mk (39::cd x)).length<=sizeLine:=dy (by rw[bV];omega);have sl:NH (mk (39::cd x)) (some 1) none=x:=dB (by rw[i3 (by decide) (by rw[bV];simp;omega),bv];rfl)
 have fg:fgW (39::cd x)=39::cd x:=by simp[fgW]
 have l2:ys.length<100000:=by omega
 refine km hl ?_;rw[fg];simp[vbJ,iN,e1,e2,e3,l1,sl,l2]
theorem Fu(i:Int):∃m,fgW (nc i)=dg m:=by
 cases i with
 |ofNat m=>
  refine⟨m,?_⟩;show fgW (dg m)=_;unfold fgW;rw[if_neg (lK m)]
 |negSucc m=>exact⟨m+1,rfl⟩
theorem Fo(h:single (.int i)=true):intText? (mk (nc i))=some i:=by
 have h:=jL h
 cases i with
 |ofNat m=>
  have l:=jn (m:=m) h;have:=intText_digits (x:=mk (dg m)) (by show Qp (cd (mk (dg m)));rw[bv];exact g8 m) (by show cd (mk (dg m))≠[];rw[bv];exact jy m) (by show (cd (mk (dg m))).length<=_;rw[bv];omega);have e:(mk (dg m)).cps.toList=dg m:=bv _;rw[e,mJ] at this;exact this
 |negSucc m=>
  have l:=jn (m:=m+1) h;have:=intText_neg (x:=mk (45::dg (m+1))) (cs:=dg (m+1)) (bv _) (g8 _) (jy _) (by rw[bV];simp;omega);rw[mJ] at this;exact this
theorem FQ(m:Nat):has "0123456789" (mk (dg m))=true:=by
 unfold has;rw[MM];intro c hc;have e:(mk (dg m)).cps.toList=dg m:=bv _;rw[e] at hc;have:=g8 m c hc
 have f:(Mv "0123456789").cps.toList=[48,49,50,51,52,53,54,55,56,57]:=by decide +kernel
 rw[f];refine decide_eq_true ?_;simp;omega
theorem Ef(hi:single (.int i)=true)(hy:ys.length<1000):∃o,vbB (ρV t (some (.d (.str (mk (nc i))))) o3 o4) (ys::s) T=some ((.nx,ρV t (some (.d (.str (mk (nc i))))) o o4,(ys++[.int i])::s),T):=by
 have nl:=pV hi;have nz:=lY i
 have hd:∀c,(nc i).head? = some c->c=45\/48<=c/\c<=57:=fun c h=>nz c (by
  cases hn:nc i with
  |nil=>rw[hn] at h;cases h
  | cons a r=>rw[hn] at h;cases h;exact Mq)
 have n40:¬nc i=[40]:=fun e=>by have:=nz 40 (by rw[e];exact Mq);omega
 have n41:¬nc i=[41]:=fun e=>by have:=nz 41 (by rw[e];exact Mq);omega
 have n39:¬(nc i).head? = some 39:=fun e=>by have:=hd 39 e;omega
 have e1:=eK (w:=nc i) (s:="(") (l:=[40]) (by decide +kernel);have e2:=eK (w:=nc i) (s:=")") (l:=[41]) (by decide +kernel);have e3:=mW (nc i) (s:="'") (c:=39) (by decide +kernel);obtain⟨m,hm⟩:=Fu i;have e4:=eK (w:=dg m) (s:="") (l:=[]) (by decide +kernel)
 have l0:(mk (dg m)).length<=1000:=by
  rw[bV,←hm];unfold fgW;split
  .rw[Ub];omega
  .omega
 have l1:(mk (nc i)).length<=sizeLine:=dy (by rw[bV];omega)
 have l2:((mk (nc i)).length:Int)<25:=by rw[bV];omega
 have l3:(mk (nc i)).length<=640:=by rw[bV];omega
 have l4:ys.length<100000:=by omega
 have l5:(mk (dg m)).length<=sizeLine:=dy (by omega)
 have lo:∀c∈(mk (dg m)).cps.toList,c<128:=fun c hc=>by
  have e:(mk (dg m)).cps.toList=dg m:=bv _;rw[e] at hc;have:=g8 m c hc;omega
 obtain⟨l,hc,hl⟩:=nV (y:=Mv "0123456789") (x:=mk (dg m)) (T:=[]) (ρ:=[some (.d t),some (.loc (.list ((ys::s).reverse.map .list))),some (.d (.str (mk (nc i)))),some (.d (.str (mk (dg m)))),o4]) (ar (af bL (aa 0) (fC (.str "0123456789")))) lo fun z=>by simp;rfl
 rw[FQ] at hl;refine⟨some (.d (.str (mk (dg m)))),km (by omega) ?_⟩;rw[hm];simp at hc;simp[vbJ,iN,e1,e2,e3,e4,n40,n41,n39,jy,l1,l2,l3,l4,l5,hc,hl,Fo hi]
theorem iC(h:b (ρ.set 2 (some (.d d))) s T=some ((.nx,ρ',s'),T)):dq 2 b (d::r) ρ s T=dq 2 b r ρ' s' T:=by
 show bnd _ _=_;rw[h];rfl
abbrev wS(l:List (List Nat)):List PyData:=l.map fun w=>.str (mk w)
theorem uJ:∀(n:Nat) (d:Mo),aG n d=true->∀(rest:List (List Nat)) (ys:List Mo) (s:Stk) (o2 o3 o4:Option D.W),ys.length<1000->s.length+n<900 ->
  ∃o2' o3' o4',dq 2 vbB (wS (wdl (cst n d)++rest)) (ρV t o2 o3 o4) (ys::s) T=dq 2 vbB (wS rest) (ρV t o2' o3' o4') ((ys++[d])::s) T
 |n,d,h,rest,ys,s,o2,o3,o4,hy,hs=>by
  rcases c9 h with h1|⟨m,ds,rfl,rfl,h8,hb⟩
  .rcases dY h1 with⟨i,rfl⟩|⟨x,rfl⟩
   .rw[jW,ux (tT i)]
    obtain⟨o,e⟩:=Ef (t:=t) (T:=T) (o3:=o3) (o4:=o4) (s:=s) h1 hy;exact⟨_,_,_,iC e⟩
   .have hx:has TXT x=true:=nK h1
    rw[jV,ux fun c hc=>by
     rcases MG.mp hc with z|z
     .rw[z];decide
     .exact txt_codes hx c z]
    exact⟨_,_,_,iC (Cz (str_len (n:=0) h1) hy)⟩
  .have ih:=uJ m
   have parts:∀(es:List Mo) (acc:List Mo) (rest:List (List Nat)) (o2 o3 o4:Option D.W),(∀x∈es,aG m x=true)->acc.length+es.length<900->∃o2' o3' o4',dq 2 vbB (wS ((es.flatMap fun x=>wdl (cst m x))++rest)) (ρV t o2 o3 o4) (acc::ys::s) T=dq 2 vbB (wS rest) (ρV t o2' o3' o4') ((acc++es)::ys::s) T:=by
    intro es
    induction es with
    |nil=>intro acc rest o2 o3 o4 _ _;exact⟨o2,o3,o4,by simp⟩
    |cons e es ihe=>
     intro acc rest o2 o3 o4 hall hl;simp only[MY] at hl;obtain⟨p2,p3,p4,q⟩:=ih e (hall e Mq) ((es.flatMap fun x=>wdl (cst m x))++rest) acc (ys::s) o2 o3 o4 (by omega) (by simp;omega);obtain⟨r2,r3,r4,q'⟩:=ihe (acc++[e]) rest p2 p3 p4 (fun x hx=>hall x (Mr _ hx)) (by simp;omega);refine⟨r2,r3,r4,?_⟩
     have e1:((e::es).flatMap fun x=>wdl (cst m x))++rest=wdl (cst m e)++((es.flatMap fun x=>wdl (cst m x))++rest):=by simp
     rw[e1,q,q'];simp
   have ec:cst (m+1) (.tuple ds)=40::(aZ [44] (ds.map (cst m))++[41]):=rfl
   have mid:∃o2' o3' o4',dq 2 vbB (wS (wdl (aZ [44] (ds.map (cst m)))++([41]::[]::rest))) (ρV t (some (.d (.str (mk [40])))) (some (.d (.str (mk [40])))) o4) ([]::ys::s) T=dq 2 vbB (wS ([41]::[]::rest)) (ρV t o2' o3' o4') (ds::ys::s) T:=by
    cases ds with
    |nil=>
     have:wdl (aZ [44] (([]:List Mo).map (cst m)))=[[]]:=rfl;rw[this];exact⟨_,_,_,iC pM⟩
    |cons d ds=>
     rw[uy];obtain⟨p2,p3,p4,q⟩:=parts (d::ds) [] ([41]::[]::rest) _ _ o4 hb (by simp at h8 ⊢;omega);exact⟨p2,p3,p4,by rw[q];rfl⟩
   obtain⟨p2,p3,p4,q⟩:=mid;refine⟨some (.d (.str (mk []))),some (.d (.str (mk []))),some (.d (.tuple ds)),?_⟩;rw[ec,Cv]
   have e1:([]::[40]::(wdl (aZ [44] (ds.map (cst m)))++[[41],[]]))++rest=[]::[40]::(wdl (aZ [44] (ds.map (cst m)))++([41]::[]::rest)):=by simp
   rw[e1];show dq 2 vbB (.str (mk [])::.str (mk [40])::wS (wdl (aZ [44] (ds.map (cst m)))++([41]::[]::rest))) _ _ _=_;rw[iC (pM (t:=t) (o3:=o3) (o4:=o4)),iC (CA (t:=t) (by omega)),q];show dq 2 vbB (.str (mk [41])::.str (mk [])::wS rest) _ _ _=_;rw[iC (A8 (t:=t) hy),iC (pM (t:=t))]
termination_by n=>n
theorem sP:∀(n:Nat) (d:Mo),aG n d=true->((cst n d).length:Int)+1<=22*aD n d
 |n,d,h=>by
  rcases c9 h with h1|⟨m,ds,rfl,rfl,h8,hb⟩
  .have:=tJ (n:=n) h1
   have:=lJ n d;omega
  .have ih:=sP m
   have h1:∀{ds:List Mo},(∀d∈ds,aG m d=true)->(((ds.map fun d=>(cst m d).length).sum+ds.length:Nat):Int)<=22*(ds.map (aD m)).sum:=by
    intro ds hd
    induction ds with
    |nil=>simp
    |cons d r ihr=>
     have a1:=ih d (hd d Mq);have a2:=ihr fun x hx=>hd x (Mr _ hx);simp only[M5,OE,MY];omega
   have h1:=h1 hb;have h2:=(lg (cst m) ds).2;show (((40::(aZ [44] (ds.map (cst m))++[41])).length:Nat):Int)+1<=22*(1+(ds.map (aD m)).sum);simp only[MY,Na,OM];omega
termination_by n=>n
theorem CH(h:aJ v=true):(mk (cst 4 v)).length<=880:=by
 have h1:=sP 4 v (cU h).1;have h2:=(cU h).2;rw[bV];omega
theorem Ed(h:aJ v=true):fQ [.d (stt v)] T=some (.list [v],T):=by
 have hl:=CH h;have l1:(mk (cst 4 v)).length<=sizeLine:=dy (by omega)
 have l2:¬(900:Int)<((mk (cst 4 v)).length:Int):=by omega
 have hA:vbA (ρV (stt v) none none none) [[]] T=some ((.nx,ρV (stt v) none none none,[[]]),T):=by
  simp[vbA,iN,stt,vQ,l1,l2]
 have w:=words_of (mk (cst 4 v));rw[bv] at w
 have wS':(O7 (NO (NO (mk (cst 4 v)) "(" ",(,") ")" ",),") ",").map Nk=wS (wdl (cst 4 v)):=by
  rw[←w,wS,NJ]
  exact Ni fun x _=>by simp[qm]
 have r1:(NO (mk (cst 4 v)) "(" ",(,").length<=3*880:=by
  have q:Mv "("=⟨#[40]⟩:=by decide +kernel
  have q4:cd ",(,"=z1:=by decide +kernel
  rw[←cg,q,lT,q4,bv];have:=sub_len 40 z1 rfl (cst 4 v);rw[bV] at hl;omega
 have r2:(NO (NO (mk (cst 4 v)) "(" ",(,") ")" ",),").length<=9*880:=by
  have q:Mv ")"=⟨#[41]⟩:=by decide +kernel
  have q4:cd ",),"=z2:=by decide +kernel
  rw[←cg,q,lT,q4];have:=sub_len 41 z2 rfl (cd (NO (mk (cst 4 v)) "(" ",(,"));rw[cg] at this;omega
 have hI:vbI (ρV (stt v) none none none) T=some (wS (wdl (cst 4 v)),T):=by
  have d1:gW "(" ",(," (stt v)=some (.str (NO (mk (cst 4 v)) "(" ",(,")):=if_pos ⟨by omega,by decide,by decide⟩;have d2:gW ")" ",)," (.str (NO (mk (cst 4 v)) "(" ",(,"))=some (.str (NO (NO (mk (cst 4 v)) "(" ",(,") ")" ",),")):=if_pos ⟨by omega,by decide,by decide⟩
  have d3:j6 (.str (NO (NO (mk (cst 4 v)) "(" ",(,") ")" ",),")) (.str ",")=some (.list (wS (wdl (cst 4 v)))):=by
   rw[←wS'];exact if_pos ⟨by decide,MP (by omega:_<=16000) (by decide)⟩
  simp[vbI,mG,d1,d2,d3]
 obtain⟨o2,o3,o4,e⟩:=uJ (t:=stt v) (T:=T) 4 v (cU h).1 [] [] [] none none none (by simp) (by simp);rw[OL] at e
 have hE:vbE (ρV (stt v) o2 o3 o4) [[v]] T=some ((.nx,ρV (stt v) o2 o3 o4,[[v]]),T):=by
  have lv:=fun T=>jQ (d:=v) T (.of (cU h).1);have ls:=fun T=>lZ T h;simp[vbE,iN,lv,ls,h,stt]
 rw[E7]
 have hF:(kFor 2 vbI vbB) (ρV (stt v) none none none) [[]] T=some ((.nx,ρV (stt v) o2 o3 o4,[[v]]),T):=by
  show bnd _ _=_;rw[hI];show dq 2 vbB (wS (wdl (cst 4 v))) _ _ _=_;rw[e];rfl
 have hO:jm 1 (cI vbA (cI (kFor 2 vbI vbB) (cI vbE kB))) (ρV (stt v) none none none) T=some ((.rt (.list [v]),ρV (stt v) none none none),T):=by
  show (if _ then _ else _)=_;rw[if_pos ⟨rfl,(by decide:1<5),rfl⟩,pq,hA];show pZ _ (bnd _ _)=_;rw[gT,oM,pq,hF,gT,oM,pq,hE,gT,oM];rfl
 show dr (jm 1 _ (ρV (stt v) none none none) T)=_;rw[hO];rfl
end
@[simp] theorem J2:kG f ρ T=mQ T (f (bW ρ) []):=rfl
@[simp] theorem Iv:bW []=[]:=rfl
@[simp] theorem Iq:bW (none::r)=none::bW r:=rfl
@[simp] theorem Iu:bW (some (.d x)::r)=some (.d x)::bW r:=rfl
@[simp] theorem Ir:bW (some (.loc x)::r)=some (.d x)::bW r:=rfl
@[simp] theorem Ip:bW (some (.tp i)::r)=none::bW r:=rfl
theorem oG(h:bH x=true):mQ T (some (.d x,T'))=some (.d x,T):=if_pos h
def stp(r:Mo)(gs:List Mo):PyData:=dR 25 gs r
theorem mh(h:Rg p g n r)(hl:gs.length=g)(hv:∀v∈gs,aJ v=true)(hn:n<=20) :
  StepOk p g n (stp r gs)/\nv n r gs (stp r gs):=by
 obtain⟨S,h1,h2,h3⟩:=BJ n g r h gs hl hv hn;have e:stp r gs=S:=h2 25 (by omega);rw[e];exact⟨h1,h3⟩
def fK:Mo->Option (Bool×Str×Mo)
 |.tuple [.str w,.str x,r]=>if w=Mv "want" then some (false,x,r) else if w=Mv "peek" then some (true,x,r) else none
 |_=>none
@[simp] theorem qe:fK (asT b x r)=some (b,x,r):=by cases b <;> simp[asT,fK]
@[simp] theorem LS:fK (mdT v)=none:=by simp[mdT,fK]
@[simp] theorem LU:fK (flT x)=none:=by simp[flT,fK]
structure St3 where
 gs:List Mo
 rd:List Mo
 S:Mo
abbrev Dc:=List (Mo×Mo)
def jz:Nat->Dc->St3->St3
 |0,_,s=>s
 |f+1,G,s=>match fK s.S with
  |none=>s
  |some (b,x,r)=>match au G x with
   |none=>s
   |some v=>jz f G ⟨s.gs++[v],s.rd++dD b x v,stp r (s.gs++[v])⟩
def run(G:Dc)(s:St3):St3:=jz (12-s.gs.length) G s
structure OkS(p:Bool)(n:Nat)(s:St3):Prop where
 v:∀v∈s.gs,aJ v=true
 st:StepOk p s.gs.length n s.S
 rd:s.rd.length<=s.gs.length
 rv:∀d∈s.rd,∃x v,d=.tuple [.str x,v]/\aJ v=true
 le:s.gs.length<=12
def GV(G:Dc):Prop:=∀x v,au G x=some v->aJ v=true
theorem oU(h:fK s.S=none):run G s=s:=by
 unfold run
 cases 12-s.gs.length with
 |zero=>rfl
 |succ f=>rw[jz,h]
theorem tL(h:s.S=asT b x r)(hk:au G x=none):run G s=s:=by
 unfold run
 cases 12-s.gs.length with
 |zero=>rfl
 |succ f=>rw[jz,h,qe];simp only[hk]
theorem iy(h:s.S=asT b x r)(hl:s.gs.length<12)(hk:au G x=some v):run G s=run G ⟨s.gs++[v],s.rd++dD b x v,stp r (s.gs++[v])⟩:=by
 have e:12-s.gs.length=(12-(s.gs++[v]).length)+1:=by simp;omega
 show jz (12-s.gs.length) G s=_;rw[e,jz,h,qe];simp only[hk];rfl
theorem OkS.next{p:Bool}{n:Nat}{s:St3}{b:Bool}{x:Str}{r v:Mo}(h:OkS p n s)(e:s.S=asT b x r)(hn:n<=20)(hv:aJ v=true):s.gs.length<12/\OkS p n ⟨s.gs++[v],s.rd++dD b x v,stp r (s.gs++[v])⟩:=by
 have st:=h.st;rw[e] at st;generalize hS:asT b x r=S at st
 cases st with
 |md _=>cases b <;> simp[asT,mdT] at hS
 |fl _=>cases b <;> simp[asT,flT] at hS
 |@ask b' x' r' n' hp hx hg hn' hr=>
  obtain⟨rfl,rfl,rfl⟩:b=b'/\x=x'/\r=r':=by
   cases b <;> cases b' <;> simp[asT] at hS <;> simp[hS]
  have hv':∀u∈s.gs++[v],aJ u=true:=fun u hu=>(MN.mp hu).elim (h.v u) fun z=>by rw[MR.mp z];exact hv
  obtain⟨a1,_⟩:=mh hr (by simp) hv' (by omega:n'<=20);refine⟨hg,hv',by have:=a1.up hn';simpa using this,?_,fun d hd=>?_,by simp;omega⟩
  .have:=h.rd
   cases b <;> simp[dD] <;> omega
  .rcases MN.mp hd with z|z
   .exact h.rv d z
   .cases b with
    |true=>simp[dD] at z
    |false=>simp[dD] at z;exact⟨x,v,z,hv⟩
def m5(G:Dc)(S:Mo):Prop:=fK S=none\/∃b x r,S=asT b x r/\au G x=none
theorem fY(h:StepOk p g n S):(∃v,S=mdT v/\aJ v=true)\/(∃x,S=flT x/\isName (.str x)=true)\/∃b x r,S=asT b x r/\isName (.str x)=true:=by
 cases h with
 |md hv=>exact .inl ⟨_,rfl,hv⟩
 |fl hx=>exact .inr (.inl ⟨_,rfl,hx⟩)
 |ask _ hx _ _ _=>exact .inr (.inr ⟨_,_,_,rfl,hx⟩)
theorem jc(hG:GV G)(hn:n<=20)(Q:St3->St3->Prop)(h0:∀s,OkS p n s->m5 G s.S->Q s s)(h1:∀s b x r v,OkS p n s->s.S=asT b x r->au G x=some v->s.gs.length<12->OkS p n ⟨s.gs++[v],s.rd++dD b x v,stp r (s.gs++[v])⟩ ->
  Q ⟨s.gs++[v],s.rd++dD b x v,stp r (s.gs++[v])⟩ (run G ⟨s.gs++[v],s.rd++dD b x v,stp r (s.gs++[v])⟩)->Q s (run G s)):∀(f:Nat) (s:St3),OkS p n s->12-s.gs.length=f->Q s (run G s)
 |f,s,h,hf=>by
  rcases fY h.st with⟨v,e,_⟩|⟨x,e,_⟩|⟨b,x,r,e,_⟩
  .rw[oU (by rw[e];simp)]
   exact h0 s h (.inl (by rw[e];simp))
  .rw[oU (by rw[e];simp)]
   exact h0 s h (.inl (by rw[e];simp))
  .cases hk:au G x with
   |none=>
    rw[tL e hk];exact h0 s h (.inr ⟨b,x,r,e,hk⟩)
   |some v=>
    obtain⟨hl,h'⟩:=h.next e hn (hG x v hk);exact h1 s b x r v h e hk hl h' (jc hG hn Q h0 h1 (f-1) _ h' (by simp;omega))
termination_by f=>f
decreasing_by omega
theorem mr(hG:GV G)(hn:n<=20)(h:OkS p n s):OkS p n (run G s)/\m5 G (run G s).S:=jc hG hn (fun _ s'=>OkS p n s'/\m5 G s'.S) (fun s h e=>⟨h,e⟩) (fun s b x r v _ e hk hl _ q=>by rw[iy e hl hk];exact q) _ s h rfl
def s0(r:Mo):St3:=⟨[],[],stp r []⟩
theorem eI(h:Rg p 0 n r)(hn:n<=20):OkS p n (s0 r):=by
 obtain⟨a1,_⟩:=mh (gs:=[]) h rfl (by simp) hn;exact⟨by simp[s0],a1,by simp[s0],by simp[s0],by simp[s0]⟩
def cW:Mo->Mo
 |.tuple [.str w,v]=>if w=Mv "made" then .tuple [.str w,stt v] else .tuple [.str w,v]
 |.tuple [_,.str x,_]=>cu "wants" (.str x)
 |_=>.none
@[simp] theorem jf:cW (mdT v)=.tuple [.str "made",stt v]:=by simp[mdT,cW]
@[simp] theorem jT:cW (flT x)=flT x:=by simp[flT,cW]
@[simp] theorem jU:cW (asT b x r)=cu "wants" (.str x):=rfl
def rdS:Mo->Mo
 |.tuple [x,v]=>.tuple [x,stt v]
 |d=>d
theorem ED(b:Bool)(x:Str)(v:Mo):dD b x (stt v)=(dD b x v).map rdS:=by cases b <;> rfl
theorem Dm(T:Tp)(h:au G x=none):gY b (.dict G) .none k x T=some (.tuple [.str "wants",.str x],T):=by
 have e:inA (.str x) (.dict G)=some (.bool false):=by show some (Sk (au G x).isSome)=_;rw[h];rfl
 have nn:isNone Sj=true:=rfl;simp[gY,gG,e,nn]
theorem BE(T:Tp)(h:au G x=some v):gY b (.dict G) .none k x T=some (.list [v],T):=by
 have e:inA (.str x) (.dict G)=some (.bool true):=by show some (Sk (au G x).isSome)=_;rw[h];rfl
 have e2:ixA (.dict G) (.str x)=some v:=h;have nn:isNone Sj=true:=rfl;simp[gY,gG,e,e2,nn]
def AtL(p:Bool)(n:Nat)(s:St3)(r:Mo):Prop:=∃n',n'<=n/\Rg p s.gs.length n' r/\s.S=stp r s.gs
theorem BM(hG:GV G)(hn:n<=20)(T:Tp)(s:St3)(h:OkS p n s):∀r m o o1,AtL p n s r->(13-s.gs.length)*21<m->goL m r (.dict G) .none s.gs (s.rd.map rdS) o o1 T=some (.tuple [.list ((run G s).rd.map rdS),cW (run G s).S],T):=by
 refine jc hG hn (fun s s'=>∀r m o o1,AtL p n s r->(13-s.gs.length)*21<m->goL m r (.dict G) .none s.gs (s.rd.map rdS) o o1 T=some (.tuple [.list (s'.rd.map rdS),cW s'.S],T)) (fun s h e r m o o1 a hm=>?_) (fun s b x r0 v h e hk hl h' q r m o o1 a hm=>?_) _ s h rfl
 .obtain⟨n',hn',hr,hs⟩:=a
  obtain⟨_,a3⟩:=mh hr rfl h.v (by omega);obtain⟨c1,c2,c3⟩:=a3 (.dict G) .none m (s.rd.map rdS) o o1 T (by have:=h.le;omega) (by have:=h.rd;have:=h.le;simp;omega);rw[←hs] at c1 c2 c3
  rcases fY h.st with⟨v,e1,_⟩|⟨x,e1,_⟩|⟨b,x,r,e1,_⟩
  .rw[c1 v e1,e1,jf];rfl
  .rw[c2 x e1,e1,jT];rfl
  .rcases e with e|⟨b',x',r',e2,hk⟩
   .rw[e1] at e;simp at e
   .rw[(c3 b' x' r' e2).1 _ (Dm T hk),e2,jU];rfl
 .obtain⟨n',hn',hr,hs⟩:=a
  obtain⟨a1,a3⟩:=mh hr rfl h.v (by omega);obtain⟨_,_,c3⟩:=a3 (.dict G) .none m (s.rd.map rdS) o o1 T (by omega) (by have:=h.rd;simp;omega);rw[←hs] at c3 a1;obtain⟨m',o',o2,l,go⟩:=(c3 b x r0 e).2 v (hG x v hk) (BE T hk);rw[go,iy e hl hk];rw[e] at a1;generalize hS:asT b x r0=S at a1
  cases a1 with
  |md _=>cases b <;> simp[asT,mdT] at hS
  |fl _=>cases b <;> simp[asT,flT] at hS
  |@ask b' x' r' n2 hp hx hg hn2 hr2=>
   obtain⟨rfl,rfl,rfl⟩:b=b'/\x=x'/\r0=r':=by
    cases b <;> cases b' <;> simp[asT] at hS <;> simp[hS]
   have:=q r0 m' o' o2 ⟨n2,by omega,by simpa using hr2,rfl⟩ (by simp;omega);rw[NV,←ED] at this;exact this
theorem qg(T:Tp)(hG:GV G)(hn:n<=20)(h:Rg p 0 n r):d0 [.d r,.d (.dict G),.d .none] T=some (.tuple [.list ((run G (s0 r)).rd.map rdS),cW (run G (s0 r)).S],T):=by
 have:=BM hG hn T (s0 r) (eI h hn) r 100000 none none ⟨n,MC _,h,rfl⟩ (by simp[s0]);rw[←this,Ay];simp[goL,ρL,s0]
theorem AE{ds:Dc}{x y:Str}{v:Mo}:au (ds++[(.str x,v)]) y=match au ds y with
  |some u=>some u
  |none=>if x=y then some v else none:=by
 induction ds with
 |nil=>rfl
 |cons q r ih=>
  obtain⟨k,d⟩:=q
  cases k with
  |str k=>
   show (if k=y then some d else au (r++[(.str x,v)]) y)=_
   by_cases h:k=y
   .rw[if_pos h]
    have:au ((Nk k,d)::r) y=some d:=if_pos h;rw[this]
   .rw[if_neg h,ih]
    have:au ((Nk k,d)::r) y=au r y:=if_neg h;rw[this]
  |_=>exact ih
theorem AD:au (cM ds x v) y=if x=y then (au ds x).map (fun _=>v) else au ds y:=by
 induction ds with
 |nil=>by_cases h:x=y <;> simp[cM,au,h]
 |cons q r ih=>
  obtain⟨k,d⟩:=q
  cases k with
  |str k=>
   by_cases hk:k=x
   .subst hk
    have e1:cM ((Nk k,d)::r) k v=(.str k,v)::cM r k v:=if_pos rfl;rw[e1]
    by_cases h:k=y
    .subst h
     simp[au]
    .simp[au,h,ih]
   .have e1:cM ((Nk k,d)::r) x v=(.str k,d)::cM r x v:=if_neg hk
    rw[e1]
    by_cases h:x=y
    .subst h
     simp[au,hk,ih]
    .simp[au,h] at ih ⊢
     rw[ih]
  |_=>exact ih
theorem zJ:(cM ds x v).length=ds.length:=by
 induction ds with
 |nil=>rfl
 |cons q r ih=>
  obtain⟨k,d⟩:=q
  cases k with
  |str k=>
   by_cases hk:k=x
   .have e1:cM ((Nk k,d)::r) x v=(.str k,v)::cM r x v:=if_pos hk
    rw[e1,MY,MY,ih]
   .have e1:cM ((Nk k,d)::r) x v=(.str k,d)::cM r x v:=if_neg hk
    rw[e1,MY,MY,ih]
  |_=>exact congrArg (· + 1) ih
theorem eY:au (putN ds x v) y=if x=y then some v else au ds y:=by
 unfold putN
 cases h:au ds x with
 |some u=>
  rw[if_pos (by rfl),AD,h];rfl
 |none=>
  rw[if_neg (by simp),AE]
  by_cases hx:x=y
  .subst hx;rw[h,if_pos rfl]
  .rw[if_neg hx,if_neg hx]
   cases au ds y <;> rfl
def Sub(G G':Dc):Prop:=∀x v,au G x=some v->au G' x=some v
theorem Sub.refl(G:Dc):Sub G G:=fun _ _ h=>h
theorem Sub.trans(h:Sub A B)(g:Sub B C):Sub A C:=fun x v q=>g x v (h x v q)
theorem Sub.new(h:au G x=none):Sub G (putN G x v):=fun y u q=>by
 rw[eY]
 by_cases e:x=y
 .subst e;rw[h] at q;cases q
 .rw[if_neg e];exact q
theorem oE(hs:Sub G G')(hG:GV G)(hn:n<=20)(h:OkS p n s):run G' (run G s)=run G' s:=
 jc hG hn (fun s s'=>run G' s'=run G' s) (fun _ _ _=>rfl) (fun s b x r v _ e hk hl _ q=>by
  rw[iy e hl hk,q,iy e hl (hs x v hk)]) _ s h rfl
theorem lG(h:s.S=mdT v):run G' s=s:=oU (by rw[h];simp)
structure Bk(p:Bool)(n:Nat)(D0 R0:Dc):Prop where
 dk:∀q∈D0,∃x v,q=(.str x,v)/\aJ v=true
 rk:∀q∈R0,∃x r,q=(.str x,r)/\Rg p 0 n r/\au R0 x=some r/\au D0 x=none
 rnd:(R0.map (·.1)).Nodup
 len:D0.length+R0.length<=900
 n20:n<=20
inductive Der(D0 R0:Dc):Str->Mo->Prop where
 |told {x:Str}{v:Mo}:au D0 x=some v->Der D0 R0 x v
 |made {x:Str}{v r:Mo}{G:Dc}:au R0 x=some r->GV G->(∀y u,au G y=some u->Der D0 R0 y u)->(run G (s0 r)).S=mdT v->Der D0 R0 x v
theorem ff(h:au ds x=some v):(.str x,v)∈ds:=by
 induction ds with
 |nil=>cases h
 |cons q r ih=>
  obtain⟨k,d⟩:=q
  cases k with
  |str k=>
   by_cases hk:k=x
   .have e:au ((Nk k,d)::r) x=some d:=if_pos hk
    rw[e] at h;cases h;rw[hk];exact Mq
   .have e:au ((Nk k,d)::r) x=au r x:=if_neg hk
    rw[e] at h;exact Mr _ (ih h)
  |_=>exact Mr _ (ih h)
section
variable {p:Bool}{n:Nat}{D0 R0:Dc}
theorem Bk.rg(b:Bk p n D0 R0)(h:au R0 x=some r):Rg p 0 n r/\au D0 x=none:=by
 obtain⟨x',r',e,h1,h2,h3⟩:=b.rk _ (ff h);cases e;exact⟨h1,h3⟩
theorem Bk.gv(b:Bk p n D0 R0):GV D0:=fun x v h=>by
 obtain⟨x',v',e,h1⟩:=b.dk _ (ff h);cases e;exact h1
theorem Der.val(b:Bk p n D0 R0)(h:Der D0 R0 x v):aJ v=true:=by
 cases h with
 |told h=>exact b.gv _ _ h
 |made hr hG _ e=>
  obtain⟨h1,_⟩:=mr hG b.n20 (eI (b.rg hr).1 b.n20)
  rcases fY h1.st with⟨v',e1,hv⟩|⟨x,e1,_⟩|⟨b,x,r,e1,_⟩
  .rw[e1] at e
   have:v'=v:=by simpa[mdT] using e
   rw[←this];exact hv
  .rw[e1] at e;exact absurd e.symm gZ
  .rw[e1] at e;cases b <;> simp[asT,mdT] at e
def Snd(D0 R0 G:Dc):Prop:=∀x v,au G x=some v->Der D0 R0 x v
def ClsAt(R0 G:Dc)(x:Str):Prop:=∀r v,au R0 x=some r->(run G (s0 r)).S=mdT v->au G x=some v
theorem Snd.gv(b:Bk p n D0 R0)(h:Snd D0 R0 G):GV G:=fun x v q=>(h x v q).val b
theorem vY(b:Bk p n D0 R0)(hd:Sub D0 G)(hs:Snd D0 R0 G)(hc:∀x,ClsAt R0 G x)(h:Der D0 R0 x v):au G x=some v:=by
 induction h with
 |told h=>exact hd _ _ h
 |made hr hG hall e ih=>
  rename_i x v r G1;refine hc x r v hr ?_;have hsub:Sub G1 G:=fun y u q=>ih y u q;have h1:=oE hsub hG b.n20 (eI (b.rg hr).1 b.n20);rw[lG e] at h1;rw[←h1];exact e
def mu(R0 G:Dc):Nat:=R0.countP fun q=>match q.1 with
 |.str x=>(au G x).isNone
 |_=>false
theorem countP_le{α:Type}{f g:α->Bool}:∀{l:List α},(∀a∈l,g a=true->f a=true)->l.countP g<=l.countP f
 |[],_=>MC _
 |a::r,h=>by
  have ih:=countP_le (l:=r) fun x hx=>h x (Mr _ hx);rw[Qy,Qy];have h1:=h a Mq
  cases hg:g a with
  |true=>rw[h1 hg];simp;exact ih
  |false=>simp;omega
theorem lB{α:Type}{f g:α->Bool}{a:α}:∀{l:List α},(∀a∈l,g a=true->f a=true)->a∈l->f a=true->g a=false->l.countP g<l.countP f
 |[],_,h,_,_=>by cases h
 |b::r,h,hm,hf,hg=>by
  have hr:∀x∈r,g x=true->f x=true:=fun x hx=>h x (Mr _ hx);rw[Qy,Qy]
  rcases MG.mp hm with e|e
  .subst e
   have:=countP_le hr;rw[hf,hg];simp;omega
  .have ih:=lB hr e hf hg
   have h1:=h b Mq
   cases hb:g b with
   |true=>rw[h1 hb];simp;exact ih
   |false=>simp;omega
theorem GS(h:Sub G G'):mu R0 G'<=mu R0 G:=countP_le fun q _ hq=>by
 split at hq
 .rename_i x e
  cases hk:au G x with
  |none=>rfl
  |some v=>rw[h x v hk] at hq;cases hq
 .cases hq
theorem GQ(hr:au R0 x=some r)(h:au G x=none):mu R0 (putN G x v)+1<=mu R0 G:=by
 have hs:=Sub.new (v:=v) h;refine lB (a:=(.str x,r)) (fun q _ hq=>?_) (ff hr) (by simp[h]) (by simp[eY]);split at hq
 .rename_i x e
  cases hk:au G x with
  |none=>rfl
  |some v=>rw[hs x v hk] at hq;cases hq
 .cases hq
theorem lH(h:au G x=none):(putN G x v).length=G.length+1:=by
 unfold putN;rw[h,if_neg (by simp)];simp
end
theorem BH:il=aW 5 (ak (mE 1 (af ixD (aa 0) (fC (.int 0)))) (ak (aF 2 (fC (.bool true))) (ak (bo (aU (aa 2)) lD 100000) (ay (aa 1))))):=rfl
theorem gO(h:b (ρ.set i (some (.d d))) T=some ((.nx,ρ'),T)):forL i b (d::r) ρ T=forL i b r ρ' T:=by
 rw[AL,h];rfl
@[simp] theorem JP:fH i fk fv ρ T=bnd (fv ρ T) fun w T1=>mM i fk ρ w T1 ρ[i]?:=rfl
@[simp] theorem II:mM i fk ρ w T (some (some (.loc (.dict ds))))=bnd (fk ρ T) (mN i ρ ds w):=rfl
@[simp] theorem IJ:mN i ρ ds (.d x) (.d (.str s)) T=if ds.length<=1000 then some ((.nx,ρ.set i (some (.loc (.dict (putN ds s x))))),T) else none:=rfl
@[simp] theorem IH:mE i f ρ T=bnd (f ρ T) fun w T1=>mq i ρ (kW (view T1 w)) T1:=rfl
@[simp] theorem Kw:kW (some (.dict ds))=some ds:=rfl
@[simp] theorem Im:mq i ρ (some ds) T=some ((.nx,ρ.set i (some (.loc (.dict ds)))),T):=rfl
@[simp] theorem JD:g7 i ρ T=some ((.nx,ρ.set i (some (.loc (.dict [])))),T):=rfl
@[simp] theorem Io:gk (.str s) (.dict ds)=some (.bool (!(au ds s).isSome)):=rfl
@[simp] theorem Kk:inA (.str s) (.dict ds)=some (.bool (au ds s).isSome):=rfl
@[simp] theorem Kf:ixA (.dict ds) (.str s)=au ds s:=rfl
@[simp] theorem IP:op2 o T (.d x) (.loc (.dict ds))=mkD T (o x (.dict ds)):=rfl
@[simp] theorem IL:op2 o T (.loc (.dict ds)) (.d y)=mkD T (o (.dict ds) y):=rfl
@[simp] theorem IR:op1 o T (.loc (.dict ds))=mkD T (o (.dict ds)):=rfl
@[simp] theorem ev_viewLD:view T (.loc (.dict ds))=some (.dict ds):=rfl
def bkD(D0 R0:Dc):PyData:=.tuple [.dict D0,.dict R0]
def ρG(D0 R0 G:Dc)(b:Bool)(on o4:Option D.W):Rho:=[some (.d (bkD D0 R0)),some (.loc (.dict G)),some (.d (.bool b)),on,o4]
@[simp] theorem Ig:views T (.loc (.dict ds)::r)=kK (.dict ds) (views T r):=rfl
section
variable {p:Bool}{n:Nat}{D0 R0:Dc}
theorem CD(h:StepOk p g n S):bH (cW S)=true:=by
 rcases fY h with⟨v,rfl,hv⟩|⟨x,rfl,_⟩|⟨b,x,r,rfl,_⟩
 .rw[jf];simp[stt,bH,cZ]
 .rw[jT];simp[flT,bH,cZ]
 .rw[jU];simp[cu,bH,cZ]
theorem Fs(B:Bk p n D0 R0)(hs:Snd D0 R0 G)(hr:au R0 x=some r)(hl:G.length<=1000) :
  (∃v o,(run G (s0 r)).S=mdT v/\fh (ρG D0 R0 G b (some (.d (.str x))) o4) T=some ((.nx,ρG D0 R0 (putN G x v) true (some (.d (.str x))) o),T)) \/
  ((∀v,(run G (s0 r)).S≠mdT v)/\∃o,fh (ρG D0 R0 G b (some (.d (.str x))) o4) T=some ((.nx,ρG D0 R0 G b (some (.d (.str x))) o),T)):=by
 have hG:=hs.gv B;have lr:=qg [] hG B.n20 (B.rg hr).1;obtain⟨ok,_⟩:=mr hG B.n20 (eI (B.rg hr).1 B.n20);have te:=CD ok.st
 rcases fY ok.st with⟨v,e,hv⟩|⟨y,e,_⟩|⟨b',y,r',e,_⟩
 .refine .inl ⟨v,some (.d (.tuple [.str "made",stt v])),e,?_⟩
  rw[e] at lr te;have lk:=oG (T:=T) (T':=[]) te;have lb:=fun T=>Ed (T:=T) hv;simp at lr lk;simp[fh,ρG,bkD,hr,lr,lk,lb,hl]
 .refine .inr ⟨fun v q=>gZ (q.symm.trans e),some (.d (flT y)),?_⟩
  rw[e] at lr te;have lk:=oG (T:=T) (T':=[]) te;simp at lr lk;simp[fh,ρG,bkD,hr,lr,lk];simp[flT]
 .refine .inr ⟨fun v q=>by rw[e] at q;cases b' <;> simp[asT,mdT] at q,some (.d (cu "wants" (.str y))),?_⟩
  rw[e] at lr te;have lk:=oG (T:=T) (T':=[]) te;simp at lr lk;simp[fh,ρG,bkD,hr,lr,lk];simp[cu]
def qv(R0:Dc)(k:Mo):Prop:=∃x r,k=.str x/\au R0 x=some r
theorem Snd.put(B:Bk p n D0 R0)(hs:Snd D0 R0 G)(hr:au R0 x=some r)(e:(run G (s0 r)).S=mdT v):Snd D0 R0 (putN G x v):=fun y u q=>by
 rw[eY] at q
 by_cases h:x=y
 .subst h
  rw[if_pos rfl] at q;cases q;exact .made hr (hs.gv B) hs e
 .rw[if_neg h] at q
  exact hs y u q
theorem B9(B:Bk p n D0 R0)(h:Der D0 R0 x v):∀u,Der D0 R0 x u->v=u:=by
 induction h with
 |told h=>
  intro u hu
  cases hu with
  |told h'=>rw[h] at h';cases h';rfl
  |made hr _ _ _=>rw[(B.rg hr).2] at h;cases h
 |made hr hG hall e ih=>
  rename_i x v r G1;intro u hu
  cases hu with
  |told h'=>rw[(B.rg hr).2] at h';cases h'
  |made hr' hG' hall' e'=>
   rename_i r' G2;rw[hr] at hr';cases hr'
   have key:∀(s:St3),OkS p n s->∀v u,(run G1 s).S=mdT v->(run G2 s).S=mdT u->v=u:=fun s hs=>by
    refine jc hG B.n20 (fun s s'=>∀v u,s'.S=mdT v->(run G2 s).S=mdT u->v=u) (fun s h st v u e1 e2=>?_) (fun s b x r w h e hk hl h' q v u e1 e2=>?_) _ s hs rfl
    .rw[lG e1,e1] at e2
     simpa[mdT] using e2
    .rw[iy e hl hk] at e1
     cases hk2:au G2 x with
     |none=>rw[tL e hk2,e] at e2;cases b <;> simp[asT,mdT] at e2
     |some w'=>
      have:w=w':=ih x w hk w' (hall' x w' hk2);subst this;rw[iy e hl hk2] at e2;exact q v u e1 e2
   exact key _ (eI (B.rg hr).1 B.n20) v u e e'
theorem zY(B:Bk p n D0 R0)(hs:Snd D0 R0 G)(hr:au R0 x=some r)(h:au G x=some v)(e:(run G (s0 r)).S=mdT u):v=u:=B9 B (hs x v h) u (.made hr (hs.gv B) hs e)
theorem p7(B:Bk p n D0 R0):∀(ks:List Mo) (G:Dc) (b:Bool) (on o4:Option D.W),(∀k∈ks,qv R0 k)->ks.Nodup->(∀x,.str x∈ks->au G x=none)->Snd D0 R0 G->G.length+mu R0 G<=900 ->
  ∃G' b' on' o4',forL 3 fh ks (ρG D0 R0 G b on o4) T=some ((.nx,ρG D0 R0 G' b' on' o4'),T)/\Snd D0 R0 G'/\Sub G G'/\G'.length+mu R0 G'<=900/\(b'=false->b=false/\G'=G/\∀x,.str x∈ks->ClsAt R0 G x)/\(b'=true->b=true\/mu R0 G' < mu R0 G)
 |[],G,b,on,o4,_,_,_,hs,hl=>⟨G,b,on,o4,by simp[forL],hs,.refl G,hl,fun e=>⟨e,rfl,fun x h=>by cases h⟩,fun e=>.inl e⟩
 |k::ks,G,b,on,o4,hk,nd,hno,hs,hl=>by
  obtain⟨x,r,rfl,hr⟩:=hk _ Mq;obtain⟨nd1,nd2⟩:=Nc.mp nd;have hk':∀k∈ks,qv R0 k:=fun k h=>hk k (Mr _ h);have st:∀{ρ':Rho},fh (ρG D0 R0 G b (some (.d (.str x))) o4) T=some ((.nx,ρ'),T)->forL 3 fh (.str x::ks) (ρG D0 R0 G b on o4) T=forL 3 fh ks ρ' T:=fun h=>gO h;have h:au G x=none:=hno x Mq
  rcases Fs B (b:=b) (o4:=o4) (T:=T) hs hr (by omega) with⟨v,o,e,go⟩|⟨ne,o,go⟩
  .rw[st go]
   have m1:=GQ (v:=v) hr h;have l1:=lH (v:=v) h
   obtain⟨G',b',on',o4',e1,e2,e3,e4,e5,e6⟩:=p7 B ks (putN G x v) true (some (.d (.str x))) o hk' nd2 (fun y hy=>by
    rw[eY,if_neg (fun z=>nd1 (by rw[z];exact hy))]
    exact hno y (Mr _ hy)) (hs.put B hr e) (by omega)
   refine⟨G',b',on',o4',e1,e2,(Sub.new h).trans e3,e4,fun q=>?_,fun q=>?_⟩
   .obtain⟨q1,_⟩:=e5 q
    cases q1
   .have:=GS (R0:=R0) e3
    exact .inr (by omega)
  .rw[st go]
   obtain⟨G',b',on',o4',e1,e2,e3,e4,e5,e6⟩:=p7 B ks G b (some (.d (.str x))) o hk' nd2 (fun y hy=>hno y (Mr _ hy)) hs hl;refine⟨G',b',on',o4',e1,e2,e3,e4,fun q=>?_,e6⟩;obtain⟨q1,q2,q3⟩:=e5 q;refine⟨q1,q2,fun y hy=>?_⟩
   rcases MG.mp hy with z|z
   .cases z
    intro r' v' hr' e;rw[hr] at hr';cases hr';exact absurd e (ne v')
   .exact q3 y z
theorem uT(B:Bk p n D0 R0):∀k∈R0.map (·.1),qv R0 k:=fun k hk=>by
 obtain⟨q,hq,rfl⟩:=MJ.mp hk;obtain⟨x,r,rfl,_,h,_⟩:=B.rk q hq;exact⟨x,r,rfl,h⟩
theorem Fc(h:au R0 x=some r):Nk x∈R0.map (·.1):=MJ.mpr ⟨_,ff h,rfl⟩
theorem E4(G:Dc):mu R0 G<=R0.length:=Qs
def jC(G:Dc):Mo->Bool
 |.str x=>!(au G x).isSome
 |_=>false
theorem Dz(B:Bk p n D0 R0):bz (ar (af gk (aa 0) (aa 2))) (aa 0) (ρG D0 R0 G b on o4) (R0.map (·.1)) T=some ((R0.map (·.1)).filter (jC G),T):=fV fun d hd=>by
 obtain⟨x,r,rfl,_⟩:=uT B d hd;simp[ρG,jC]
theorem t7(B:Bk p n D0 R0):∀(m:Nat) (G:Dc) (on o4:Option D.W),mu R0 G+1<m->Snd D0 R0 G->G.length+mu R0 G<=900 ->
  ∃G' on' o4',bo (aU (aa 2)) lD m (ρG D0 R0 G true on o4) T=some ((.nx,ρG D0 R0 G' false on' o4'),T)/\Snd D0 R0 G'/\Sub G G'/\∀x,ClsAt R0 G' x
 |0,G,on,o4,h,_,_=>by omega
 |m+1,G,on,o4,h,hs,hl=>by
  have nd:((R0.map (·.1)).filter (jC G)).Nodup:=VJ _ B.rnd
  obtain⟨G',b',on',o4',e1,e2,e3,e4,e5,e6⟩:=p7 B (T:=T) ((R0.map (·.1)).filter (jC G)) G false on o4 (fun k hk=>uT B k (Nx.mp hk).1) nd (fun x hx=>by
   have:=(Nx.mp hx).2
   simpa[jC] using this) hs hl
  have hc:∀b G on o4,aU (aa 2) (ρG D0 R0 G b on o4) T=some (b,T):=fun b G on o4=>by simp[ρG]
  have cp:=Dz B (G:=G) (b:=false) (on:=on) (o4:=o4) (T:=T)
  have hb:lD (ρG D0 R0 G true on o4) T=some ((.nx,ρG D0 R0 G' b' on' o4'),T):=by
   simp[ρG] at e1 cp;simp[lD,ρG,bkD] at e1 cp ⊢;simp[cp,e1]
  rw[iD (hc _ _ _ _) hb]
  cases b' with
  |false=>
   obtain⟨_,q2,q3⟩:=e5 rfl;obtain⟨m,rfl⟩:=bb m (by omega);rw[ja (hc _ _ _ _)];refine⟨G',on',o4',rfl,e2,e3,fun x r v hr e=>?_⟩;rw[q2] at e ⊢
   cases hk:au G x with
   |none=>
    have:=q3 x (Nx.mpr ⟨Fc hr,by simp[jC,hk]⟩) r v hr e;rw[hk] at this;cases this
   |some u=>rw[zY B hs hr hk e]
  |true=>
   have hm:=(e6 rfl).resolve_left (by simp);obtain⟨G2,on2,o42,f1,f2,f3,f4⟩:=t7 B m G' on' o4' (by omega) e2 e4;exact⟨G2,on2,o42,f1,f2,e3.trans f3,f4⟩
theorem HF(B:Bk p n D0 R0):Snd D0 R0 D0:=fun _ _ h=>.told h
theorem Eb(B:Bk p n D0 R0)(T:Tp):∃G,il [.d (bkD D0 R0)] T=some (.dict G,T)/\Snd D0 R0 G/\Sub D0 G/\∀x,ClsAt R0 G x:=by
 have hl:=B.len;have hm:=E4 (R0:=R0) D0;obtain⟨G,on,o4,e1,e2,e3,e4⟩:=t7 B (T:=T) 100000 D0 none none (by omega) (HF B) (by omega);refine⟨G,?_,e2,e3,e4⟩;rw[BH];simp[ρG] at e1;simp[bkD] at e1 ⊢;rw[e1];simp
end
def nmL(ps:List Str):List PyData:=ps.map Nk
theorem uS(ps:List Str)(x:Str):atI (nmL (ps++[x])) (-1)=some (.str x):=by
 unfold atI ixN nmL
 have h:(List.map Nk (ps++[x])).length=ps.length+1:=by simp
 rw[h,if_neg (by omega),if_pos (by omega)]
 have e:((-1:Int)+((ps.length+1:Nat):Int)).toNat=ps.length:=by omega
 simp only[Option.bind_some,e];simp
theorem uj(ps:List Str)(x:Str):cS (nmL (ps++[x])) none (some (-1))=nmL ps:=by
 have e:HT.sIx (nmL (ps++[x])).length 0 none=0:=rfl
 have e2:HT.sIx (nmL (ps++[x])).length (nmL (ps++[x])).length (some (-1))=ps.length:=by
  show (if (-1:Int)<0 then ((-1:Int)+((nmL (ps++[x])).length:Int)).toNat else min ((-1:Int)).toNat (nmL (ps++[x])).length)=_;rw[if_pos (by omega)];simp[nmL];omega
 unfold cS;rw[e,e2];simp[nmL]
theorem tX(ps:List Str)(x:Str):inS (.str x) (.list (nmL ps))=some (decide (x∈ps)):=by
 have h1:(nmL ps).all cz=true:=by
  rw[MM];intro d hd;obtain⟨y,_,rfl⟩:=MJ.mp hd;rfl
 have h2:((nmL ps).any fun y=>eqF y (.str x))=decide (x∈ps):=by
  rw[Oi,Qw,decide_eq_true_eq];constructor
  .rintro⟨d,hd,e⟩
   obtain⟨y,hy,rfl⟩:=MJ.mp hd
   have:y=x:=by simpa[eqF] using e
   rw[←this];exact hy
  .intro hx
   exact⟨.str x,MJ.mpr ⟨x,hx,rfl⟩,by simp[eqF]⟩
 show (if (cz (.str x)&&(nmL ps).all cz)=true then some ((nmL ps).any fun y=>eqF y (.str x)) else none)=_;rw[h1,if_pos (by rfl),h2]
theorem jK(ps:List Str)(x:Str):bL (.str x) (.list (nmL ps))=some (.bool (!(decide (x∈ps)))):=by
 unfold bL;rw[tX];rfl
theorem zU(ps:List Str)(x:Str):inD (.str x) (.list (nmL ps))=some (.bool (decide (x∈ps))):=by
 unfold inD;rw[tX];rfl
def g0(w:String)(ps:List Str):PyData:=.tuple [.str (Mv w),.tuple (nmL ps)]
def jw(ps:List Str)(w:Str):PyData:=.tuple [.str "fails",.tuple (nmL ps),.str w]
def mu2(R0:Dc)(ps:List Str):Nat:=R0.countP fun q=>match q.1 with
 |.str x=>decide (x∉ps)
 |_=>false
def ln(x:Str)(s:St3):PyData:=.tuple [.str x,.tuple (s.rd.map rdS),cW s.S]
def stG(R0 G:Dc)(x:Str):St3:=run G (s0 ((au R0 x).getD .none))
def lnG(R0 G:Dc)(x:Str):PyData:=ln x (stG R0 G x)
section
variable {p:Bool}{n:Nat}{D0 R0:Dc}
theorem jh(h:au R0 x=some r):stG R0 G x=run G (s0 r):=by
 unfold stG;rw[h];rfl
theorem Ea(B:Bk p n D0 R0)(hG:GV G)(hr:au R0 x=some r)(T:Tp):gH [.d (bkD D0 R0),.d (.dict G),.d (.str x)] T=some (lnG R0 G x,T):=by
 have e:=qg T hG B.n20 (B.rg hr).1;rw[←jh (G:=G) hr] at e;have i1:ixD (bkD D0 R0) (.int 1)=some (.dict R0):=rfl;simp[gH,i1,hr,e,qI,D.bS,lnG,ln]
theorem E5(hr:au R0 x=some r)(h:x∉ps):mu2 R0 (ps++[x])<mu2 R0 ps:=by
 refine lB (a:=(.str x,r)) (fun q _ hq=>?_) (ff hr) (by simp[h]) (by simp);split at hq
 .rename_i y e
  simp at hq ⊢;exact hq.1
 .cases hq
theorem Dp(ps:List Str):mu2 R0 ps<=R0.length:=Qs
inductive ResR:Mo->Prop where
 |two {w:String}{ps:List Str}:ps.length<=1000->ResR (g0 w ps)
 |fail {ps:List Str}{w:Str}:ps.length<=1000->ResR (jw ps w)
theorem si(hG:GV G)(hn:n<=20)(h:OkS p n s):∀d∈(run G s).rd,d∈s.rd\/∃z v,d=.tuple [.str z,v]/\au G z=some v:=
 jc hG hn (fun s s'=>∀d∈s'.rd,d∈s.rd\/∃z v,d=.tuple [.str z,v]/\au G z=some v) (fun s _ _ d hd=>.inl hd) (fun s b x r v _ e hk hl _ q d hd=>by
  rw[iy e hl hk] at hd
  rcases q d hd with z|z
  .rcases MN.mp z with z|z
   .exact .inl z
   .cases b with
    |true=>cases z
    |false=>exact .inr ⟨x,v,MR.mp z,hk⟩
  .exact .inr z) _ s h rfl
theorem BW(B:Bk p n D0 R0)(hd:Sub D0 G)(hs:Snd D0 R0 G)(hc:∀x,ClsAt R0 G x)(hr:au R0 x=some r)(h:au G x=some v) :
  ∃G1,GV G1/\(∀y u,au G1 y=some u->Der D0 R0 y u)/\run G (s0 r)=run G1 (s0 r)/\(run G (s0 r)).S=mdT v:=by
 have d:=hs x v h
 cases d with
 |told z=>rw[(B.rg hr).2] at z;cases z
 |made hr' hG1 hall e=>
  rename_i r' G1;rw[hr] at hr';cases hr';have hsub:Sub G1 G:=fun y u q=>vY B hd hs hc (hall y u q);have h1:=oE hsub hG1 B.n20 (eI (B.rg hr).1 B.n20);rw[lG e] at h1;exact⟨G1,hG1,hall,h1.symm,by rw[←h1];exact e⟩
end
inductive SV:Nat->Mo->Prop where
 |int {n:Nat}{i:Int}:SV n (.int i)
 |str {n:Nat}{x:Str}:SV n (.str x)
 |tup {n:Nat}{xs:List Mo}:xs.length<=1000->(∀d∈xs,SV n d)->SV (n+1) (.tuple xs)
 |dct {n:Nat}{ds:Dc}:(∀q∈ds,∃x,q.1=.str x/\au ds x=some q.2)->(∀q∈ds,SV n q.2)->SV (n+1) (.dict ds)
@[simp] theorem Ke:ixA (.tuple xs) (.int i)=atI xs i:=rfl
@[simp] theorem IU:aY [.dict ds]=some (.int ds.length):=rfl
theorem wN:a8 .int .dct=false:=rfl
theorem wK:a8 .str .dct=false:=rfl
theorem G4:a8 .dct .dct=true:=rfl
theorem wL:a8 .str .bl=false:=rfl
theorem wJ:a8 .str .int=false:=rfl
theorem wO:a8 .int .bl=false:=rfl
theorem wM:a8 .int .int=true:=rfl
theorem wI:a8 .str .str=true:=rfl
theorem pI(l:List Mo):hZ [.list (l.map fun _=>.bool true)]=some (.bool true):=by
 rw[Fx (fun _=>true)];simp
theorem v8(h:SV n d):∀k T,n<k->bO k [.d d,.d d] T=some (.bool true,T):=by
 induction h with
 |int=>
  intro k T hk;obtain⟨k,rfl⟩:=bb k (by omega);simp[bO,g6,fM,isNone,wN,wK,wL,wJ,wO,wM,wI]
 |str=>
  intro k T hk;obtain⟨k,rfl⟩:=bb k (by omega);simp[bO,g6,fM,isNone,wN,wK,wL,wJ,wO,wM,wI]
 |tup hl hs ih=>
  rename_i n xs;intro k T hk;obtain⟨k,rfl⟩:=bb k (by omega);have hr:=i6 (j:=(xs.length:Int)) (by omega) (by omega)
  have c:=dw (e:=ax (bO k) (ae (af ixA (aa 1) (aa 0)) (ae (af ixA (aa 2) (aa 0)) ai))) (ρ:=[some (.d (.tuple xs)),some (.d (.tuple xs))]) (T:=T) (g:=fun _=>.bool true) (ds:=bT 0 xs.length) fun d hd=>by
   obtain⟨i,hi,rfl⟩:=MJ.mp hd;have hi':=Qb.mp hi;obtain⟨a,ha,hm⟩:=gp (xs:=xs) (i:=0+(i:Int)) (by omega) (by omega);have:=ih a hm k T (by omega);rw[Int.zero_add] at ha;simp[ha,this]
  have al:=pI (bT 0 xs.length);simp[bO,g6,fM,hr,c,al]
 |dct hq hs ih=>
  rename_i n ds;intro k T hk;obtain⟨k,rfl⟩:=bb k (by omega)
  have c:=dw (e:=cP (af inA (aa 0) (aa 1)) (ax (bO k) (ae (af ixA (aa 1) (aa 0)) (ae (af ixA (aa 2) (aa 0)) ai)))) (ρ:=[some (.d (.dict ds)),some (.d (.dict ds))]) (T:=T) (g:=fun _=>.bool true) (ds:=ds.map (·.1)) fun d hd=>by
   obtain⟨q,hq1,rfl⟩:=MJ.mp hd;obtain⟨x,e1,e2⟩:=hq q hq1;have:=ih q hq1 k T (by omega);rw[e1];simp[e2,this]
  have al:=pI (ds.map (·.1));simp only[NJ] at al;simp[bO,g6,fM,c,G4,al]
theorem tq:∀(n:Nat) (d:Mo),aG n d=true->SV n d
 |n,.int i,_=>.int
 |n,.str x,_=>.str
 |n,.none,h=>by cases n <;> cases h
 |n,.bool _,h=>by cases n <;> cases h
 |n,.list _,h=>by cases n <;> cases h
 |n,.dict _,h=>by cases n <;> cases h
 |0,.tuple _,h=>by cases h
 |n+1,.tuple xs,h=>by
  have h':(decide (xs.length<=8)&&xs.all (aG n))=true:=h;rw[Mx] at h';have l:=of_decide_eq_true h'.1;exact .tup (by omega) fun d hd=>tq n d (MM.mp h'.2 d hd)
theorem Eo(h:aJ v=true):SV 4 v:=tq 4 v (cU h).1
theorem Gm(h:aJ v=true):SV 5 (mdT v):=.tup (by simp) fun d hd=>by
 simp at hd
 rcases hd with rfl|rfl
 .exact .str
 .exact Eo h
theorem wj(ps:List Str)(h:ps.length<=1000):SV (n+1) (.tuple (nmL ps)):=.tup (by simp[nmL];exact h) fun d hd=>by
 obtain⟨x,_,rfl⟩:=MJ.mp hd;exact .str
def bY(A T:Tp):Prop:=∃(ds:List Mo) (i:Int),T=A++[[.list ds,.int i]]/\0<=i/\0<ds.length/\ds.length<=1000/\∀d∈ds,∃c:Int,d=.int c
theorem DD:op2 o (A++[.list zs::xs]) (.tp A.length) (.d y)=mkD (A++[.list zs::xs]) (o (.list (.list zs::xs)) y):=by
 have h:view (A++[.list zs::xs]) (.tp A.length)=some (.list (.list zs::xs)):=by simp[view,iR,isO]
 unfold op2;rw[h];rfl
theorem Ad{α:Type}(A:List α)(a b:α):(A++[a]).set A.length b=A++[b]:=by
 induction A with
 |nil=>rfl
 |cons x r ih=>exact congrArg (x::·) ih
theorem Bd{A:Tp}{a b:List Mo}:(A++[a]).set A.length b=A++[b]:=Ad A a b
theorem G3:ixN 2 1=some 1:=rfl
theorem gz{α:Type}{a b:α}:atI [a,b] 0=some a:=rfl
theorem gy{α:Type}{a b:α}:atI [a,b] 1=some b:=rfl
theorem cj(t:bY A T)(h1:0<m):∃r T',bi [.tp A.length,.d (.int m)] T=some (.int r,T')/\bY A T'/\0<=r/\r<m:=by
 obtain⟨ds,i,rfl,hi,hl,hl2,hd⟩:=t
 have hp:(0:Int)<(ds.length:Int):=by omega
 obtain⟨d,e1,hm⟩:=gp (xs:=ds) (i:=i % (ds.length:Int)) (PY _ (by omega)) (Pi _ hp);obtain⟨c,rfl⟩:=hd d hm;refine⟨c % m,A++[[.list ds,.int (i+1)]],?_,⟨ds,i+1,rfl,by omega,hl,hl2,hd⟩,PY _ (by omega),Pi _ h1⟩
 have e2:i+1-1=i:=by omega
 simp[bi,qJ,DD,gz,gy,G3,Bd,e2,hp,e1,h1,hl]
theorem fi:gw (.int i) (.int j)=if 0<j/\j<18446744073709551616 then some (.int (i / j)) else none:=rfl
def dwB:FS:=(ak (aF 4 (af cq (af aR (af aR (af b7 (aa 4) (aa 4)) (af b7 (fC (.int 48271)) (aa 4))) (af b7 (fC (.int 7)) (aa 5))) (fC (.int 2147483647)))) (fIf (ar (af gtD (aa 3) (fC (.int 0)))) (ak (b8 2 (af cq (aa 3) (fC (.int 720720)))) (aF 3 (af gw (aa 3) (fC (.int 720720))))) (b8 2 (af gw (af cq (af aR (af b7 (aa 4) (fC (.int 69621))) (af b7 (fC (.int 13)) (aa 5))) (fC (.int 2147483629))) (fC (.int 3))))))
theorem wW:fU=aW 6 (ak (cO 2 ai) (ak (aF 3 (fC (.int 0))) (ak (fIf (ar (af geD (aa 0) (af hU (fC (.int 10)) (fC (.int 18))))) (aF 3 (aa 0)) aK) (ak (aF 4 (af aR (af cq (aa 0) (fC (.int 2147483629))) (fC (.int 48271)))) (ak (cB 5 (fG (aa 1)) dwB) (ay (aa 2))))))):=rfl
def ρD(c N:Int)(fs:List Mo)(nu mi:Int)(o:Option D.W):Rho:=[some (.d (.int c)),some (.d (.int N)),some (.loc (.list fs)),some (.d (.int nu)),some (.d (.int mi)),o]
theorem i9:1000<sizeLine:=by decide
theorem vW:∀(ks:List Int) (fs:List Mo) (nu mi:Int) (o:Option D.W),-18446744073709551616<mi->mi<18446744073709551616->fs.length+ks.length<=1000->(∀d∈fs,∃c:Int,d=.int c) ->
  ∃fs' nu' mi' o',forL 5 dwB (ks.map Pv) (ρD c N fs nu mi o) T=some ((.nx,ρD c N fs' nu' mi' o'),T)/\fs'.length=fs.length+ks.length/\∀d∈fs',∃c:Int,d=.int c
 |[],fs,nu,mi,o,_,_,_,hf=>⟨fs,nu,mi,o,rfl,by simp,hf⟩
 |k::ks,fs,nu,mi,o,h1,h2,hl,hf=>by
  have hl':fs.length+(ks.length+1)<=1000:=hl;have bl:=i9
  have hl1:fs.length<sizeLine:=by omega
  have m2:0<=(mi*mi+48271*mi+7*k) % 2147483647/\(mi*mi+48271*mi+7*k) % 2147483647<2147483647:=⟨PY _ (by decide),Pi _ (by decide)⟩;generalize hmi:(mi*mi+48271*mi+7*k) % 2147483647=mi' at m2
  have ap:∀(x:Int),∀d∈fs++[Pv x],∃c:Int,d=.int c:=fun x d hd=>by
   rcases MN.mp hd with z|z
   .exact hf d z
   .exact⟨x,MR.mp z⟩
  have hst:∃x nu',dwB (Sw (ρD c N fs nu mi o) 5 (some (.d (.int k)))) T=some ((.nx,ρD c N (fs++[.int x]) nu' mi' (some (.d (.int k)))),T):=by
   by_cases hn:0<nu
   .refine⟨nu % 720720,nu / 720720,?_⟩
    simp[dwB,ρD,fi,h1,h2,hn,hl1,hmi]
   .refine⟨(mi' * 69621+13*k) % 2147483629 / 3,nu,?_⟩
    simp[dwB,ρD,fi,h1,h2,hn,hl1,hmi]
  obtain⟨x,nu',st⟩:=hst;obtain⟨fs',nu2,mi2,o2,e1,e2,e3⟩:=vW (c:=c) (N:=N) (T:=T) ks (fs++[.int x]) nu' mi' (some (.d (.int k))) (by omega) (by omega) (by simp;omega) (ap x);refine⟨fs',nu2,mi2,o2,?_,by rw[e2];simp;omega,e3⟩;rw[M5,gO st];exact e1
theorem Ao(n:Nat):bT 0 n=((NZ n).map fun(i:Nat)=>(i:Int)).map PyData.int:=by
 unfold bT;rw[NJ]
 exact Ni fun i _=>by simp
theorem vg(h0:0<N)(h1:N<=1000):∃ds,fU [.d (.int c),.d (.int N)] T=some (.list ds,T)/\ds.length=N.toNat/\∀d∈ds,∃c:Int,d=.int c:=by
 have hr:=i6 (j:=N) (by omega) h1;have m0:0<=c % 2147483629/\c % 2147483629<2147483629:=⟨PY _ (by decide),Pi _ (by decide)⟩
 have key:∀nu,∃ds o,forL 5 dwB (bT 0 N.toNat) (ρD c N [] nu (c % 2147483629+48271) none) T=some ((.nx,o),T)/\(∃a b d e,o=ρD c N ds a b d/\e=())/\ds.length=N.toNat/\∀d∈ds,∃c:Int,d=.int c:=fun nu=>by
  obtain⟨fs',nu2,mi2,o2,e1,e2,e3⟩:=vW (c:=c) (N:=N) (T:=T) ((NZ N.toNat).map fun(i:Nat)=>(i:Int)) [] nu (c % 2147483629+48271) none (by omega) (by omega) (by simp;omega) (by simp);rw[←Ao] at e1;exact⟨fs',_,e1,⟨_,_,_,(),rfl,rfl⟩,by rw[e2];simp,e3⟩
 by_cases hc:1000000000000000000<=c
 .obtain⟨ds,o,e1,⟨a,b,d,e,rfl,_⟩,e3,e4⟩:=key c
  refine⟨ds,?_,e3,e4⟩;rw[wW];simp[ρD] at e1;simp[hc,hr,e1]
 .obtain⟨ds,o,e1,⟨a,b,d,e,rfl,_⟩,e3,e4⟩:=key 0
  refine⟨ds,?_,e3,e4⟩;rw[wW];simp[ρD] at e1;simp[hc,hr,e1]
theorem vm(h0:0<ds.length)(h1:ds.length<=1000)(h:∀d∈ds,∃c:Int,d=.int c):bY A (A++[[.list ds,.int 0]]):=⟨ds,0,rfl,by decide,h0,h1,h⟩
theorem qh(h:0<=k):∃c:Int,dI [.d (d8 ns),.d (.int k)] T=some (.int c,T):=by
 by_cases hk:k<(ns.length:Int)
 .obtain⟨d,e1,hm⟩:=gp (xs:=ns.map Pv) (i:=k) h (by simpa using hk)
  obtain⟨c,_,rfl⟩:=MJ.mp hm;exact⟨c,by simp[dI,d8,hk,e1]⟩
 .exact⟨0,by simp[dI,d8,hk]⟩
theorem uk{α:Type}(xs:List α)(a:Nat):cS xs (some (a:Int)) none=xs.drop a:=by
 have e:HT.sIx xs.length 0 (some (a:Int))=min a xs.length:=by
  show (if (a:Int)<0 then ((a:Int)+(xs.length:Int)).toNat else min ((a:Int)).toNat xs.length)=_;rw[if_neg (by omega)];simp
 have e2:HT.sIx xs.length xs.length none=xs.length:=rfl;unfold cS;rw[e,e2]
 by_cases h:a<=xs.length
 .rw[Pm h]
  exact Nz (by simp)
 .rw[PH (by omega)]
  simp;omega
theorem qb{α:Type}(xs:List α)(a:Nat):cS xs none (some (a:Int))=xs.take a:=by
 have e:HT.sIx xs.length 0 none=0:=rfl
 have e2:HT.sIx xs.length xs.length (some (a:Int))=min a xs.length:=by
  show (if (a:Int)<0 then ((a:Int)+(xs.length:Int)).toNat else min ((a:Int)).toNat xs.length)=_;rw[if_neg (by omega)];simp
 unfold cS;rw[e,e2,List.drop_zero,Nat.sub_zero]
 by_cases h:a<=xs.length
 .rw[Pm h]
 .rw[PH (by omega),List.take_length]
  exact(Nz (by omega)).symm
def NW:List Str:=["told","made","say","want","wants","fails","put","got","row","peek","when","kind"].map Mv
def ZZ:Str:=Mv "zzzzzzzz"
def kQ(l:List Str):Bool:=decide l.Nodup&&l.all fun x=>isName (.str x)&&decide (x≠ZZ)
def nW0(a:Nat):List Str:=NW.drop a++NW.take a
def lc(i:Nat):Str:=⟨#[97+i]⟩
def f1(a k:Nat):Str:=PD (lc (a+k / 8)) ((1+k % 8:Nat):Int)
def f2(a t k:Nat):Str:=PD (lc a) ((a % 7:Nat):Int)++lc ((a+k) % 26)++PD (lc a) (t:Int)
theorem F8:∀a,a<12->kQ (nW0 a)=true/\(nW0 a).length=12:=by decide +kernel
theorem F7:∀a,a<12->kQ ((NZ 12).map (f1 a))=true:=by decide +kernel
theorem F6:∀a,a<12->∀t,t<8->t<8-a % 7->kQ ((NZ 12).map (f2 a t))=true:=by decide +kernel
theorem E9:∀i,i<26->LET.cps.toList[i]? = some (97+i):=by decide +kernel
theorem qd(h0:0<=i)(h1:i<26):atI LET.cps.toList i=some (97+i.toNat):=by
 unfold atI ixN;rw[Dr,if_pos h0,if_pos h1];exact E9 _ (by omega)
theorem pb(m:Nat)(h:kQ l=true):(l.take m).Nodup/\∀x∈l.take m,isName (.str x)=true/\x≠ZZ:=by
 have h':=h;unfold kQ at h';rw[Mx] at h'
 exact⟨(of_decide_eq_true h'.1).sublist (Th ..),fun x hx=>by
  have:=MM.mp h'.2 x (Pz hx);rw[Mx] at this
  exact⟨this.1,of_decide_eq_true this.2⟩⟩
theorem rF{β:Type}(f:Nat->β){m:Nat}(h:m<=12):(NZ m).map f=((NZ 12).map f).take m:=by rw[←Vg,List.take_range,Pm h]
structure Nms(l:List Str)(m:Nat):Prop where
 len:l.length=m
 nd:l.Nodup
 nm:∀x∈l,isName (.str x)=true
 nz:∀x∈l,x≠ZZ
theorem tS(h:∀k:Nat,k<m->e (some (.d (.int (k:Int)))::ρ) T=some (.d (.str (f k)),T)):bz bu e ρ (bT 0 m) T=some (nmL ((NZ m).map f),T):=by
 have c:=dw (e:=e) (ρ:=ρ) (T:=T) (g:=fun d=>match d with
  |.int k=>.str (f k.toNat)
  | d=>d) (ds:=bT 0 m) fun d hd=>by
   obtain⟨i,hi,rfl⟩:=MJ.mp hd;have:=h i (Qb.mp hi);simp;exact this
 rw[c];refine congrArg some (congrArg (·,T) ?_);unfold bT nmL;rw[NJ,NJ]
 exact Ni fun i _=>by simp
theorem HP:∀a,a<12->(PD (lc a) ((a % 7:Nat):Int)).length<=100:=by decide +kernel
theorem HN:∀a,a<12->∀k,k<12->(PD (lc a) ((a % 7:Nat):Int)++lc ((a+k) % 26)).length<=100:=by decide +kernel
theorem HM:∀a:Nat,a<12->∀s:Nat,s<8->(PD (lc a) (s:Int)).length<=100:=by decide +kernel
theorem lcl(i:Nat):(lc i).length=1:=rfl
theorem D8{A T:Tp}{m:Nat}(t:bY A T)(h0:m<=12):∃l T',eU [.tp A.length,.d (.int (m:Int))] T=some (.list (nmL l),T')/\bY A T'/\Nms l m:=by
 obtain⟨w,T1,e1,t1,w0,w1⟩:=cj (m:=4) t (by decide);obtain⟨a,T2,e2,t2,a0,a1⟩:=cj (m:=12) t1 (by decide);obtain⟨a,rfl⟩:∃j:Nat,a=(j:Int):=⟨a.toNat,by omega⟩
 have a1':a<12:=by omega
 have hr:=i6 (j:=(m:Int)) (by omega) (by omega)
 by_cases c0:w=0
 .obtain⟨q1,q2⟩:=F8 a a1'
  obtain⟨n1,n2⟩:=pb m q1;refine⟨(nW0 a).take m,T2,?_,t2,⟨by rw[O0,q2];omega,n1,fun x hx=>(n2 x hx).1,fun x hx=>(n2 x hx).2⟩⟩
  have z:nmL ((nW0 a).take m)=((nmL NW).drop a++(nmL NW).take a).take m:=by
   simp[nmL,nW0,Vg,List.map_drop]
  have z2:(nmL NW)=[.str "told",.str "made",.str "say",.str "want",.str "wants",.str "fails",.str "put",.str "got",.str "row",.str "peek",.str "when",.str "kind"]:=rfl;rw[z,z2]
  have lz:∀xs:List Mo,xs.length=12->(xs.drop a).length+(xs.take a).length<=sizeLine:=fun xs h=>by
   have:=i9;simp[h];omega
  have lz':=lz [.str "told",.str "made",.str "say",.str "want",.str "wants",.str "fails",.str "put",.str "got",.str "row",.str "peek",.str "when",.str "kind"] rfl;simp only[eU,mX,AM,lx,ly,if_true];simp[e1,e2,c0,uk,qb,-NG,-O0,lz']
 .by_cases c1:w=1
  .obtain⟨n1,n2⟩:=pb m (F7 a a1')
   rw[←rF _ h0] at n1 n2;refine⟨(NZ m).map (f1 a),T2,?_,t2,⟨by simp,n1,fun x hx=>(n2 x hx).1,fun x hx=>(n2 x hx).2⟩⟩
   have c:=tS (f:=f1 a) (e:=(af b7 (af ixD (aa 3) (af aR (aa 5) (af gw (aa 0) (fC (.int 8))))) (af aR (fC (.int 1)) (af cq (aa 0) (fC (.int 8)))))) (ρ:=[some (.tp A.length),some (.d (.int (m:Int))),some (.d (.str LET)),some (.d (.int w)),some (.d (.int (a:Int))),none,none]) (T:=T2) (m:=m) fun k hk=>by
    have x1:=qd (i:=(a:Int)+(k:Int) / 8) (by omega) (by omega)
    have x2:((a:Int)+(k:Int) / 8).toNat=a+k / 8:=by omega
    rw[x2] at x1
    have x3:(0:Int)<=1+(k:Int) % 8/\1+(k:Int) % 8<=2000:=by omega
    have x4:((1+k % 8:Nat):Int)=1+(k:Int) % 8:=by omega
    have x5:S4 (⟨#[97+(a+k / 8)]⟩:Str)<=1000:=by show 1<=1000;decide
    simp[x1,x3,ph,x5,f1,x4,lc,fi]
   have e0:Mv "abcdefghijklmnopqrstuvwxyz"=LET:=rfl;simp[eU,e0,e1,e2,c1,hr];rw[c1] at c;simp[c]
  .obtain⟨s,T3,e3,t3,s0,s1⟩:=cj (m:=8-(a:Int) % 7) t2 (by omega)
   obtain⟨s,rfl⟩:∃j:Nat,s=(j:Int):=⟨s.toNat,by omega⟩;obtain⟨n1,n2⟩:=pb m (F6 a a1' s (by omega) (by omega));rw[←rF _ h0] at n1 n2;refine⟨(NZ m).map (f2 a s),T3,?_,t3,⟨by simp,n1,fun x hx=>(n2 x hx).1,fun x hx=>(n2 x hx).2⟩⟩;have bl:=i9;have la:=HP a a1';have lb:=HM a a1' s (by omega);have xa:=qd (i:=(a:Int)) (by omega) (by omega);rw[Qh] at xa
   have z7:((a % 7:Nat):Int)=(a:Int) % 7:=by omega
   have xl:∀j,S4 (⟨#[97+j]⟩:Str)<=1000:=fun j=>by show 1<=1000;decide
   have c:=tS (f:=f2 a s) (e:=(af aR (af aR (af b7 (af ixD (aa 3) (aa 5)) (af cq (aa 5) (fC (.int 7)))) (af ixD (aa 3) (af cq (af aR (aa 5) (aa 0)) (fC (.int 26))))) (aa 7))) (ρ:=[some (.tp A.length),some (.d (.int (m:Int))),some (.d (.str LET)),some (.d (.int w)),some (.d (.int (a:Int))),none,some (.d (.str (PD (lc a) (s:Int))))]) (T:=T3) (m:=m) fun k hk=>by
    have lk:=HN a a1' k (by omega);have x1:=qd (i:=((a:Int)+(k:Int)) % 26) (by omega) (by omega)
    have x2:(((a:Int)+(k:Int)) % 26).toNat=(a+k) % 26:=by omega
    rw[x2] at x1;rw[z7] at lk la
    have y1:(PD (lc a) ((a:Int) % 7)).length+(lc ((a+k) % 26)).length<=sizeLine:=by rw[lcl];omega
    have y2:(PD (lc a) ((a:Int) % 7)++lc ((a+k) % 26)).length+(PD (lc a) (s:Int)).length<=sizeLine:=by omega
    have x3:(0:Int)<=(a:Int) % 7/\(a:Int) % 7<=2000:=by omega
    simp only[lc,fi] at y1 y2;simp only[f2,z7,lc,fi];simp[xa,x1,x3,ph,xl,y1,y2]
   have e0:Mv "abcdefghijklmnopqrstuvwxyz"=LET:=rfl
   have x3:(0:Int)<=(s:Int)/\(s:Int)<=2000:=by omega
   simp only[lc,fi] at c;simp[eU,e0,e1,e2,c0,c1,hr,e3,xa,ph,xl,x3];simp[c]
def mb:Nat->Int
 |0=>1
 |n+1=>1+3*mb n
theorem pX:∀n,1<=mb n
 |0=>by decide
 |n+1=>by
  have:=pX n;show 1<=1+3*mb n;omega
def VS:List PyData:=[.int 0,.int 1,.int (-1),.int 2,.int 1000000000000000000,.int (-1000000000000000000),.str "",.str "a",.str "0",.str "-",.str (PD "a" 20),.tuple []]
theorem F9:∀d∈VS,∀n,aG (n+1) d=true/\aD (n+1) d=1:=by
 intro d hd n;have tu:aG (n+1) (.tuple [])=true/\aD (n+1) (.tuple [])=1:=⟨rfl,rfl⟩;simp[VS] at hd
 rcases hd with rfl|rfl|rfl|rfl|rfl|rfl|rfl|rfl|rfl|rfl|rfl|rfl
 .exact cX (iq (by decide) (by decide))
 .exact cX (iq (by decide) (by decide))
 .exact cX (iq (by decide) (by decide))
 .exact cX (iq (by decide) (by decide))
 .exact cX (iq (by decide) (by decide))
 .exact cX (iq (by decide) (by decide))
 .exact cX (by decide +kernel)
 .exact cX (by decide +kernel)
 .exact cX (by decide +kernel)
 .exact cX (by decide +kernel)
 .exact cX (by decide +kernel)
 .exact tu
theorem wC(h:Nms l m)(h0:0<=i)(h1:i<(l.length:Int)):∃x,atI (nmL l) i=some (.str x)/\isName (.str x)=true:=by
 obtain⟨d,e,hm⟩:=gp (xs:=nmL l) h0 (by simpa[nmL] using h1);obtain⟨x,hx,rfl⟩:=MJ.mp hm;exact⟨x,e,h.nm x hx⟩
theorem eB(l:List Str):(nmL l).length=l.length:=by simp[nmL]
theorem uv{l:List Str}{m:Nat}(hn:Nms l m)(hm:0<m):∀(n k:Nat) (A T:Tp),bY A T->n<k->∃d T',cw k [.tp A.length,.d (.list (nmL l)),.d (.int (n:Int))] T=some (d,T')/\bY A T'/\aG (n+1) d=true/\aD (n+1) d<=mb n
 |n,0,A,T,_,hk=>absurd hk (N7 _)
 |n,k+1,A,T,t,hk=>by
  obtain⟨w,T1,e1,t1,w0,w1⟩:=cj (m:=10) t (by decide);have mp:=pX n
  have some_:(w<6\/((n:Int)=0/\7<w))->∃d T',cw (k+1) [.tp A.length,.d (.list (nmL l)),.d (.int (n:Int))] T=some (d,T')/\bY A T'/\aG (n+1) d=true/\aD (n+1) d<=mb n:=fun hc=>by
   obtain⟨i,T2,e2,t2,i0,i1⟩:=cj (m:=12) t1 (by decide);obtain⟨d,hd,hmem⟩:=gp (xs:=VS) i0 (by show i<12;exact i1);obtain⟨b1,b2⟩:=F9 d hmem n;refine⟨d,T2,?_,t2,b1,by omega⟩;simp only[VS] at hd
   have l1:(Mv "a").length<=1000:=by decide +kernel
   by_cases h6:w<6
   .simp[cw,e1,h6,e2,hd,l1]
   .obtain⟨h7,h8⟩:=hc.resolve_left h6
    simp[cw,e1,h6,h7,h8,e2,hd,l1]
  by_cases c1:w<6
  .exact some_ (.inl c1)
  by_cases c2:(n:Int)=0/\7<w
  .exact some_ (.inr c2)
  clear some_
  have l1:(Mv "a").length<=1000:=by decide +kernel
  by_cases c3:w<8
  .have c4:¬7<w:=by omega
   obtain⟨i,T2,e2,t2,i0,i1⟩:=cj (m:=(l.length:Int)) t1 (by rw[hn.len];omega);obtain⟨x,hx,hxn⟩:=wC hn i0 i1;obtain⟨b1,b2⟩:=cX (n:=n+1) (rc hxn);refine⟨.str x,T2,?_,t2,b1,by omega⟩
   by_cases h0:(n:Int)=0
   .simp[cw,e1,c1,h0,c4,c3,eB,e2,hx,l1]
   .have h0':¬n=0:=by omega
    simp[cw,e1,c1,h0,h0',c3,eB,e2,hx,l1]
  .have h0:¬(n:Int)=0:=fun z=>c2 ⟨z,by omega⟩
   obtain⟨n,rfl⟩:=bb n (by omega);obtain⟨j,T2,e2,t2,j0,j1⟩:=cj (m:=4) t1 (by decide);have hrj:=i6 (j:=j) j0 (by omega)
   have hs:((n+1:Nat):Int)-1=(n:Int):=by omega
   obtain⟨ys,T3,e3,t3,l3,q3⟩:=sR (P:=bY A) (Q:=fun d=>aG (n+1) d=true/\aD (n+1) d<=mb n) (ds:=bT 0 j.toNat)
    (e:=ax (cw k) (ae (aa 1) (ae (aa 2) (ae (af er (aa 3) (fC (.int 1))) ai)))) (ρ:=[some (.tp A.length),some (.d (.list (nmL l))),some (.d (.int ((n+1:Nat):Int))),some (.d (.int w)),some (.d (.list VS))]) t2 fun d _ T t=>by
     obtain⟨d',T',e1,t1,b1,b2⟩:=uv hn hm n k A T t (by omega);refine⟨d',T',?_,t1,b1,b2⟩;rw[←hs] at e1;generalize ((n+1:Nat):Int)=N at e1 ⊢;simp[e1]
   have hl:(ys.length:Int)=j:=by rw[l3,BD];omega
   refine⟨.tuple ys,T3,?_,t3,?_,?_⟩
   .simp only[VS] at e3
    generalize ((n+1:Nat):Int)=N at e3 h0 ⊢;simp[cw,e1,c1,h0,c3,e2,hrj,l1,e3]
   .show (decide (ys.length<=8)&&ys.all (aG (n+1)))=true
    rw[decide_eq_true (by omega)];exact MM.mpr fun d hd=>(q3 d hd).1
   .show 1+(ys.map (aD (n+1))).sum<=1+3*mb n
    have s1:=vp (f:=aD (n+1)) (q:=mb n) fun d hd=>(q3 d hd).2;have s2:(ys.length:Int)*mb n<=3*mb n:=Int.mul_le_mul_of_nonneg_right (by omega) (by have:=pX n;omega);omega
theorem Ei(hn:n<=2)(hb:aG (n+1) d=true)(hm:aD (n+1) d<=mb n):aJ d=true:=by
 obtain⟨u1,u2⟩:=iw (n+1) d hb
 have fin:∀j,aG j d=true->aD j d<=40->j=4->aJ d=true:=fun j a b e=>by
  subst e;show (aG 4 d&&decide (aD 4 d<=40))=true;rw[a,decide_eq_true b];rfl
 match n,hn with
 |0,_=>
  obtain⟨v1,v2⟩:=iw 2 d u1;obtain⟨x1,x2⟩:=iw 3 d v1;have hm':aD 1 d<=1:=hm;have u2':aD 2 d=aD 1 d:=u2;have v2':aD 3 d=aD 2 d:=v2;have x2':aD 4 d=aD 3 d:=x2;exact fin 4 x1 (by omega) rfl
 |1,_=>
  obtain⟨v1,v2⟩:=iw 3 d u1;have hm':aD 2 d<=4:=hm;have u2':aD 3 d=aD 2 d:=u2;have v2':aD 4 d=aD 3 d:=v2;exact fin 4 v1 (by omega) rfl
 |2,_=>
  have hm':aD 3 d<=13:=hm;have u2':aD 4 d=aD 3 d:=u2;exact fin 4 u1 (by omega) rfl
theorem xf{l:List Str}{m:Nat}(hn:Nms l m)(hm:0<m){n:Nat}(h2:n<=2){A T:Tp}(t:bY A T):∃d T',cw 25 [.tp A.length,.d (.list (nmL l)),.d (.int (n:Int))] T=some (d,T')/\bY A T'/\aJ d=true:=by
 obtain⟨d,T',e,t',b1,b2⟩:=uv hn hm n 25 A T t (by omega);exact⟨d,T',e,t',Ei h2 b1 b2⟩
theorem ut(hn:Nms l m)(hm:0<m)(t:bY A T):∃e T',fS [.tp A.length,.d (.list (nmL l)),.d (.int g)] T=some (e,T')/\bY A T'/\Ex g n e:=by
 have putL:∀T,bY A T->∃v T',cw 25 [.tp A.length,.d (.list (nmL l)),.d (.int 1)] T=some (v,T')/\bY A T'/\Ex g n (.tuple [.str "put",v]):=fun T t=>by
  obtain⟨d,T',e,t',hv⟩:=xf hn hm (n:=1) (by decide) t;exact⟨d,T',e,t',.put hv⟩
 by_cases hg:0<g
 .obtain⟨r,T1,e1,t1,r0,r1⟩:=cj (m:=3) t (by decide)
  by_cases hr:0<r
  .obtain⟨i,T2,e2,t2,i0,i1⟩:=cj (m:=g) t1 hg
   exact⟨_,T2,by simp[fS,hg,e1,hr,e2],t2,.got i0 i1⟩
  .obtain⟨v,T2,e2,t2,x⟩:=putL T1 t1
   exact⟨_,T2,by simp[fS,hg,e1,hr,e2],t2,x⟩
 .obtain⟨v,T2,e2,t2,x⟩:=putL T t
  exact⟨_,T2,by simp[fS,hg,e2],t2,x⟩
theorem Ex.up(h:Ex m n e)(l:n<=k):Ex m k e:=by
 induction h generalizing k with
 |put a=>exact .put a
 |got a b=>exact .got a b
 |row a _ ih=>
  obtain⟨k,rfl⟩:=bb k (by omega);exact .row a fun e he=>ih e he (by omega)
 |many _ ih=>
  obtain⟨k,rfl⟩:=bb k (by omega);exact .many (ih (by omega))
 |pair a _ _ i1 i2=>
  obtain⟨k,rfl⟩:=bb k (by omega);exact .pair a (i1 (by omega)) (i2 (by omega))
theorem Rg.up(h:Rg p g n r)(l:n<=k):Rg p g k r:=by
 induction h generalizing k with
 |fail a=>exact .fail a
 |say a=>
  obtain⟨k,rfl⟩:=bb k (by omega);exact .say (a.up (by omega))
 |ask a b c _ ih=>
  obtain⟨k,rfl⟩:=bb k (by omega);exact .ask a b (c.up (by omega)) (ih (by omega))
 |whn a _ _ i1 i2=>
  obtain⟨k,rfl⟩:=bb k (by omega);exact .whn (a.up (by omega)) (i1 (by omega)) (i2 (by omega))
theorem Ec(hn:Nms l m)(hm:0<m)(t:bY A T):∃e T',fX [.tp A.length,.d (.list (nmL l)),.d (.int g)] T=some (e,T')/\bY A T'/\Ex g 1 e:=by
 obtain⟨w,T1,e1,t1,w0,w1⟩:=cj (m:=10) t (by decide);obtain⟨a,T2,e2,t2,xa⟩:=ut hn hm (n:=0) (g:=g) t1
 by_cases c1:w<5
 .by_cases c2:w=4
  .refine⟨.tuple [.str "many",a],T2,?_,t2,.many xa⟩
   subst c2;simp[fX,fi,e1,e2,gz,gy]
  .refine⟨a,T2,?_,t2,xa.up (by decide)⟩
   have z:w / 4=0:=by omega
   simp[fX,fi,e1,e2,c1,z,gz,gy]
 .obtain⟨b,T3,e3,t3,xb⟩:=ut hn hm (n:=0) (g:=g) t2
  by_cases c5:w=5
  .obtain⟨j,T4,e4,t4,j0,j1⟩:=cj (m:=3) t3 (by decide)
   obtain⟨j,rfl⟩:∃i:Nat,j=(i:Int):=⟨j.toNat,by omega⟩;refine⟨.tuple [.str "row",.tuple ([a,b].take j)],T4,?_,t4,.row (by simp;omega) fun e he=>?_⟩
   .subst c5
    simp[fX,fi,e1,e2,e3,e4,qb]
   .have:=Pz he
    simp at this
    rcases this with rfl|rfl
    .exact xa
    .exact xb
  .obtain⟨i,T4,e4,t4,i0,i1⟩:=cj (m:=5) t3 (by decide)
   obtain⟨wd,hwd,hat⟩:∃wd∈PW,atI [Nk "sum",.str "join",.str "same",.str "less",.str "part"] i=some (.str (Mv wd)):=by
    obtain⟨d,h,hm⟩:=gp (xs:=[Nk "sum",.str "join",.str "same",.str "less",.str "part"]) i0 (by simpa using i1);simp at hm
    rcases hm with rfl|rfl|rfl|rfl|rfl
    .exact⟨"sum",by simp[PW],h⟩
    .exact⟨"join",by simp[PW],h⟩
    .exact⟨"same",by simp[PW],h⟩
    .exact⟨"less",by simp[PW],h⟩
    .exact⟨"part",by simp[PW],h⟩
   refine⟨.tuple [.str (Mv wd),a,b],T4,?_,t4,.pair hwd xa xb⟩;simp[fX,fi,e1,e2,e3,c1,c5,e4,hat]
theorem name_val(hx:isName (.str x)=true):aJ (.str x)=true:=by
 obtain⟨u1,u2⟩:=cX (n:=4) (rc hx);show (aG 4 (.str x)&&decide (aD 4 (.str x)<=40))=true;rw[u1,u2];rfl
theorem Az:isName (.str "kind")=true:=by decide +kernel
theorem lM(hn:Nms l m)(hm:0<m)(hm2:m<=12):∀(n k g:Nat) (A T:Tp),bY A T->n<k->n+g<=12->∃r T',bU k [.tp A.length,.d (.list (nmL l)),.d (.int (n:Int)),.d (.int (g:Int)),.d (.bool p)] T=some (r,T')/\bY A T'/\Rg p g (n+2) r
 |n,0,g,A,T,_,hk,_=>absurd hk (N7 _)
 |n,k+1,g,A,T,t,hk,hg=>by
  obtain⟨w,T1,e1,t1,w0,w1⟩:=cj (m:=8) t (by decide);obtain⟨ex,T2,e2,t2,xe⟩:=Ec hn hm (g:=(g:Int)) t1
  by_cases c1:0<n/\w<4
  .obtain⟨c1,c2⟩:=c1
   obtain⟨n,rfl⟩:=bb n (by omega)
   have c1':(0:Int)<((n+1:Nat):Int):=by omega
   have hs:((n+1:Nat):Int)-1=(n:Int):=by omega
   have hgs:((g+1:Nat):Int)=(g:Int)+1:=by omega
   obtain⟨wd,T3,t3,hwd,e3⟩:∃wd T3,bY A T3/\(wd="want"\/(wd="peek"/\p=true))/\((p=false/\wd="want"/\T3=T2)\/(p=true/\∃j,bi [.tp A.length,.d (.int 4)] T2=some (.int j,T3)/\((j=0/\wd="peek")\/(¬j=0/\wd="want")))):=by
    cases p with
    |false=>exact⟨"want",T2,t2,.inl rfl,.inl ⟨rfl,rfl,rfl⟩⟩
    |true=>
     obtain⟨j,T3,e3,t3,j0,j1⟩:=cj (m:=4) t2 (by decide)
     by_cases hj:j=0
     .exact⟨"peek",T3,t3,.inr ⟨rfl,rfl⟩,.inr ⟨rfl,j,e3,.inl ⟨hj,rfl⟩⟩⟩
     .exact⟨"want",T3,t3,.inl rfl,.inr ⟨rfl,j,e3,.inr ⟨hj,rfl⟩⟩⟩
   obtain⟨j,T4,e4,t4,j0,j1⟩:=cj (m:=5) t3 (by decide)
   obtain⟨ex',T5,x5,t5,e5⟩:∃ex' T5,Ex (g:Int) 1 ex'/\bY A T5/\((0<j/\∃i x,bi [.tp A.length,.d (.int (l.length:Int))] T4=some (.int i,T5)/\atI (nmL l) i=some (.str x)/\ex'=.tuple [.str "put",.str x])\/(¬0<j/\ex'=ex/\T5=T4)):=by
    by_cases hj:0<j
    .obtain⟨i,T5,e5,t5,i0,i1⟩:=cj (m:=(l.length:Int)) t4 (by rw[hn.len];omega)
     obtain⟨x,hx,hxn⟩:=wC hn i0 i1;exact⟨_,T5,.put (name_val hxn),t5,.inl ⟨hj,i,x,e5,hx,rfl⟩⟩
    .exact⟨ex,T4,xe,t4,.inr ⟨hj,rfl,rfl⟩⟩
   obtain⟨r,T6,e6,t6,xr⟩:=lM hn hm hm2 (p:=p) n k (g+1) A T5 t5 (by omega) (by omega);refine⟨.tuple [.str (Mv wd),ex',r],T6,?_,t6,.ask hwd (by omega) (x5.up (by omega)) xr⟩;rw[←hs,hgs] at e6;generalize ((n+1:Nat):Int)=N at e6 c1' ⊢;generalize (g:Int)=G at *;have i0:intD [.bool false]=some (.int 0):=rfl;have i1:intD [.bool true]=some (.int 1):=rfl
   rcases e5 with⟨hj,i,x,y1,y2,rfl⟩|⟨hj,rfl,rfl⟩
   .rcases e3 with⟨rfl,rfl,rfl⟩|⟨rfl,q,e3,⟨hq,rfl⟩|⟨hq,rfl⟩⟩
    .simp[bU,e1,e2,c1',c2,i0,i1,gz,gy,e4,hj,eB,y1,y2,e6]
    .simp[bU,e1,e2,c1',c2,i0,i1,gz,gy,e3,hq,e4,hj,eB,y1,y2,e6]
    .simp[bU,e1,e2,c1',c2,i0,i1,gz,gy,e3,hq,e4,hj,eB,y1,y2,e6]
   .rcases e3 with⟨rfl,rfl,rfl⟩|⟨rfl,q,e3,⟨hq,rfl⟩|⟨hq,rfl⟩⟩
    .simp[bU,e1,e2,c1',c2,i0,i1,gz,gy,e4,hj,e6]
    .simp[bU,e1,e2,c1',c2,i0,i1,gz,gy,e3,hq,e4,hj,e6]
    .simp[bU,e1,e2,c1',c2,i0,i1,gz,gy,e3,hq,e4,hj,e6]
  .by_cases c3:1<n/\w<6
   .obtain⟨c3,c4⟩:=c3
    obtain⟨n,rfl⟩:∃j,n=j+2:=⟨n-2,by omega⟩;have c5:¬w<4:=fun z=>c1 ⟨by omega,z⟩
    have hs:((n+2:Nat):Int)-2=(n:Int):=by omega
    have c3':(1:Int)<((n+2:Nat):Int):=by omega
    have c3'':(0:Int)<((n+2:Nat):Int):=by omega
    obtain⟨r,T3,e3,t3,xr⟩:=lM hn hm hm2 (p:=p) n k g A T2 t2 (by omega) (by omega);obtain⟨s,T4,e4,t4,xs⟩:=lM hn hm hm2 (p:=p) n k g A T3 t3 (by omega) (by omega);refine⟨.tuple [.str "when",ex,r,s],T4,?_,t4,.whn (n:=n+3) (xe.up (by omega)) (xr.up (by omega)) (xs.up (by omega))⟩;rw[←hs] at e3 e4;generalize ((n+2:Nat):Int)=N at e3 e4 c3' c3'' ⊢;generalize (g:Int)=G at *;simp[bU,e1,e2,c3',c3'',c5,c4,e3,e4]
   .have z1:¬((0:Int)<(n:Int)/\w<4):=fun z=>c1 ⟨by omega,z.2⟩
    have z3:¬((1:Int)<(n:Int)/\w<6):=fun z=>c3 ⟨by omega,z.2⟩
    have say:∀T4,bY A T4->(¬w=6/\T4=T2\/w=6/\∃j,bi [.tp A.length,.d (.int 2)] T2=some (.int j,T4)/\¬j=0)->bU (k+1) [.tp A.length,.d (.list (nmL l)),.d (.int (n:Int)),.d (.int (g:Int)),.d (.bool p)] T=some (.tuple [.str "say",ex],T4):=fun T4 t4 h=>by
     generalize (n:Int)=N at z1 z3 ⊢;generalize (g:Int)=G at *
     rcases h with⟨h6,rfl⟩|⟨rfl,j,e3,hj⟩
     .by_cases a0:0<N
      .have b0:¬w<4:=fun z=>z1 ⟨a0,z⟩
       by_cases a1:1<N
       .have b1:¬w<6:=fun z=>z3 ⟨a1,z⟩
        simp[bU,e1,e2,a0,b0,a1,b1,h6]
       .simp[bU,e1,e2,a0,b0,a1,h6]
      .have a1:¬1<N:=by omega
       simp[bU,e1,e2,a0,a1,h6]
     .simp[bU,e1,e2,e3,hj]
    by_cases c6:w=6
    .obtain⟨j,T3,e3,t3,j0,j1⟩:=cj (m:=2) t2 (by decide)
     by_cases hj:j=0
     .obtain⟨i,T4,e4,t4,i0,i1⟩:=cj (m:=(l.length:Int)+2) t3 (by omega)
      obtain⟨x,hx,hxn⟩:∃x,atI (nmL l++[.str "kind",.str "name"]) i=some (.str x)/\isName (.str x)=true:=by
       obtain⟨d,h,hmem⟩:=gp (xs:=nmL l++[.str "kind",.str "name"]) i0 (by simp[eB];omega)
       rcases MN.mp hmem with z|z
       .obtain⟨x,hx,rfl⟩:=MJ.mp z
        exact⟨x,h,hn.nm x hx⟩
       .simp at z
        rcases z with rfl|rfl
        .exact⟨_,h,Az⟩
        .exact⟨_,h,uO⟩
      refine⟨.tuple [.str "fail",.str x],T4,?_,t4,.fail hxn⟩
      have ll:l.length+2<=sizeLine:=by
       have:=i9;have:=hn.len;omega
      subst c6 hj;generalize (n:Int)=N at z1 z3 ⊢;generalize (g:Int)=G at *;simp[bU,e1,e2,e3,e4,eB,hx,ll]
     .exact⟨_,T3,say T3 t3 (.inr ⟨c6,j,e3,hj⟩),t3,.say (xe.up (by omega)) ⟩
    .exact⟨_,T2,say T2 t2 (.inl ⟨c6,rfl⟩),t2,.say (xe.up (by omega))⟩
structure BkP(p:Bool)(n:Nat)(S:List Str)(D0 R0:Dc):Prop where
 dk:∀q∈D0,∃x v,q=(.str x,v)/\aJ v=true/\au D0 x=some v/\x∈S
 rk:∀q∈R0,∃x r,q=(.str x,r)/\Rg p 0 n r/\au R0 x=some r/\au D0 x=none/\x∈S
 rnd:(R0.map (·.1)).Nodup
 len:D0.length+R0.length=S.length
theorem BkP.nil:BkP p n [] [] []:=⟨by simp,by simp,by simp,rfl⟩
section
variable {p:Bool}{n:Nat}{S:List Str}{D0 R0:Dc}
theorem BkP.noD(b:BkP p n S D0 R0)(h:x∉S):au D0 x=none:=by
 cases e:au D0 x with
 |none=>rfl
 |some v=>
  obtain⟨y,_,e1,_,_,hy⟩:=b.dk _ (ff e);cases e1;exact absurd hy h
theorem BkP.noR(b:BkP p n S D0 R0)(h:x∉S):au R0 x=none:=by
 cases e:au R0 x with
 |none=>rfl
 |some v=>
  obtain⟨y,_,e1,_,_,_,hy⟩:=b.rk _ (ff e);cases e1;exact absurd hy h
theorem oV(h:au G x=none):putN G x v=G++[(.str x,v)]:=by
 unfold putN;rw[h,if_neg (by simp)]
theorem BkP.putD(b:BkP p n S D0 R0)(h:x∉S)(hv:aJ v=true):BkP p n (x::S) (putN D0 x v) R0:=by
 have nd:=b.noD h;refine⟨fun q hq=>?_,fun q hq=>?_,b.rnd,by rw[lH nd,MY];have:=b.len;omega⟩
 .rw[oV nd] at hq
  rcases MN.mp hq with z|z
  .obtain⟨y,u,rfl,h1,h2,h3⟩:=b.dk q z
   refine⟨y,u,rfl,h1,?_,Mr _ h3⟩;rw[eY,if_neg (fun e=>h (by rw[e];exact h3))];exact h2
  .rw[MR.mp z]
   exact⟨x,v,rfl,hv,by rw[eY,if_pos rfl],Mq⟩
 .obtain⟨y,r,rfl,h1,h2,h3,h4⟩:=b.rk q hq
  refine⟨y,r,rfl,h1,h2,?_,Mr _ h4⟩;rw[eY,if_neg (fun e=>h (by rw[e];exact h4))];exact h3
theorem BkP.putR(b:BkP p n S D0 R0)(h:x∉S)(hr:Rg p 0 n r):BkP p n (x::S) D0 (putN R0 x r):=by
 have nd:=b.noR h;refine⟨fun q hq=>?_,fun q hq=>?_,?_,by rw[lH nd,MY];have:=b.len;omega⟩
 .obtain⟨y,u,rfl,h1,h2,h3⟩:=b.dk q hq
  exact⟨y,u,rfl,h1,h2,Mr _ h3⟩
 .rw[oV nd] at hq
  rcases MN.mp hq with z|z
  .obtain⟨y,u,rfl,h1,h2,h3,h4⟩:=b.rk q z
   refine⟨y,u,rfl,h1,?_,h3,Mr _ h4⟩;rw[eY,if_neg (fun e=>h (by rw[e];exact h4))];exact h2
  .rw[MR.mp z]
   exact⟨x,r,rfl,hr,by rw[eY,if_pos rfl],b.noD h,Mq⟩
 .rw[oV nd,NV,OQ]
  refine⟨b.rnd,by simp,fun a ha c hc e=>?_⟩;simp at hc;subst hc e;obtain⟨q,hq,e⟩:=MJ.mp ha;obtain⟨y,u,rfl,_,_,_,h4⟩:=b.rk q hq;cases e;exact h h4
theorem BkP.bk(b:BkP p n S D0 R0)(hn:n<=20)(hl:S.length<=900):Bk p n D0 R0:=⟨fun q hq=>by
  obtain⟨x,v,e,h1,_⟩:=b.dk q hq
  exact⟨x,v,e,h1⟩,fun q hq=>by
  obtain⟨x,r,e,h1,h2,h3,_⟩:=b.rk q hq
  exact⟨x,r,e,h1,h2,h3⟩,b.rnd,by rw[b.len];exact hl,hn⟩
end
def bkF:FS:=(fIf (ar (af eqD (ax bi (ae (aa 9) (ae (fC (.int 4)) ai))) (fC (.int 0)))) (fH 6 (af ixD (aa 5) (aa 8)) (ax (cw 25) (ae (aa 9) (ae (aa 5) (ae (fC (.int 2)) ai))))) (fH 7 (af ixD (aa 5) (aa 8)) (ax (bU 25) (ae (aa 9) (ae (aa 5) (ae (af aR (fC (.int 1)) (ax bi (ae (aa 9) (ae (fC (.int 4)) ai)))) (ae (fC (.int 0)) (ae (aa 2) ai))))))))
def bkI:FS:=(jl 9 (ae (ax fU (ae (af aR (ax dI (ae (aa 0) (ae (af aR (af aR (aa 1) (fC (.int 1))) (aa 8)) ai))) (af b7 (fC (.int 977)) (aa 8))) (ae (fC (.int 60)) ai))) (ae (fC (.int 0)) ai)) bkF)
def bkS:FS:=(ak (aF 4 (af aR (fC (.int 3)) (ax bi (ae (aa 3) (ae (fC (.int 8)) ai))))) (ak (aF 5 (ax eU (ae (aa 3) (ae (af aR (aa 4) (fC (.int 2))) ai)))) (ak (g7 6) (ak (g7 7) (ak (cB 8 (fG (aa 4)) bkI) (ay (aE .tuple (ae (aa 6) (ae (aa 7) ai)))))))))
theorem DZ:ip=aW 10 (jl 3 (ae (ax fU (ae (ax dI (ae (aa 0) (ae (aa 1) ai))) (ae (fC (.int 24)) ai))) (ae (fC (.int 0)) ai)) bkS):=rfl
theorem ub:jl i g fr ρ T=bnd (g ρ T) fun ws T1=>openK i fr ρ (dQ ws) T1:=rfl
theorem uc:openK i fr ρ (some [a,b]) T=jd T.length (fr (ρ.set i (some (.tp T.length))) (T++[[a,b]])):=rfl
theorem rL{n:Nat}{fl:Fl}{ρ:Rho}{T:Tp}{row:List Mo}(h:T.length=n):jd n (some ((fl,ρ),T++[row]))=some ((fl,iQ n ρ),T):=by
 have e:kA (T++[row])=some (T,row):=by
  unfold kA;have h1:List.getLast? (T++[row])=some row:=List.getLast?_concat ..;have h2:List.dropLast (T++[row])=T:=Su ..;rw[h1,h2]
 simp[jd,e,h]
def ρB(ns:List Int)(p:Bool)(m:Int)(l:List Str)(D0 R0:Dc)(o8 o9:Option D.W):Rho:=[some (.d (d8 ns)),some (.d (.int 1)),some (.d (.bool p)),some (.tp 0),some (.d (.int m)),some (.d (.list (nmL l))),some (.loc (.dict D0)),some (.loc (.dict R0)),o8,o9]
theorem FH:iQ 1 (ρB ns p m l D0 R0 (some (.d (.int k))) (some (.tp 1)))=ρB ns p m l D0 R0 (some (.d (.int k))) none:=rfl
theorem H8(hA:A.length=1)(t:bY A T)(hn:Nms l j)(hj:0<j)(hj2:j<=12)(hx:atI (nmL l) (k:Int)=some (.str x))(hD:D0.length<=1000)(hR:R0.length<=1000) :
  ∃D1 R1 T',bkF (ρB ns p m l D0 R0 (some (.d (.int (k:Int)))) (some (.tp 1))) T=some ((.nx,ρB ns p m l D1 R1 (some (.d (.int (k:Int)))) (some (.tp 1))),T')/\bY A T'/\((∃v,aJ v=true/\D1=putN D0 x v/\R1=R0)\/(∃r,Rg p 0 6 r/\D1=D0/\R1=putN R0 x r)):=by
 obtain⟨w,T1,e1,t1,w0,w1⟩:=cj (m:=4) t (by decide);rw[hA] at e1
 by_cases hw:w=0
 .obtain⟨v,T2,e2,t2,hv⟩:=xf hn hj (n:=2) (by decide) t1
  rw[hA] at e2;refine⟨putN D0 x v,R0,T2,?_,t2,.inl ⟨v,hv,rfl,rfl⟩⟩;have e2':cw 25 [.tp 1,.d (.list (nmL l)),.d (.int 2)] T1=some (v,T2):=e2;simp[bkF,ρB,e1,hw,e2',hx,hD]
 .obtain⟨i,T2,e2,t2,i0,i1⟩:=cj (m:=4) t1 (by decide)
  obtain⟨i,rfl⟩:∃q:Nat,i=(q:Int):=⟨i.toNat,by omega⟩;obtain⟨r,T3,e3,t3,hr⟩:=lM hn hj hj2 (p:=p) (1+i) 25 0 A T2 t2 (by omega) (by omega);rw[hA] at e2 e3;refine⟨D0,putN R0 x r,T3,?_,t3,.inr ⟨r,hr.up (by omega),rfl,rfl⟩⟩
  have e3':bU 25 [.tp 1,.d (.list (nmL l)),.d (.int (1+(i:Int))),.d (.int 0),.d (.bool p)] T2=some (r,T3):=by
   have z:((1+i:Nat):Int)=1+(i:Int):=by omega
   rw[z] at e3;exact e3
  simp[bkF,ρB,e1,hw,e2,e3',hx,hR]
theorem HZ{ns:List Int}{p:Bool}{m:Int}{l:List Str}{j:Nat}{D0 R0:Dc}{k:Nat}{x:Str}{T:Tp}(hA:T.length=1)(hn:Nms l j)(hj:0<j)(hj2:j<=12)(hx:atI (nmL l) (k:Int)=some (.str x))(hD:D0.length<=1000)(hR:R0.length<=1000) :
  ∃D1 R1,bkI (ρB ns p m l D0 R0 (some (.d (.int (k:Int)))) none) T=some ((.nx,ρB ns p m l D1 R1 (some (.d (.int (k:Int)))) none),T)/\((∃v,aJ v=true/\D1=putN D0 x v/\R1=R0)\/(∃r,Rg p 0 6 r/\D1=D0/\R1=putN R0 x r)):=by
 obtain⟨c,ec⟩:=qh (ns:=ns) (k:=1+1+(k:Int)) (T:=T) (by omega);obtain⟨ds,ed,ld,hd⟩:=vg (c:=c+977*(k:Int)) (N:=60) (T:=T) (by decide) (by decide);have ld':ds.length=60:=ld;obtain⟨D1,R1,T',eF,tF,res⟩:=H8 (ns:=ns) (p:=p) (m:=m) hA (vm (A:=T) (ds:=ds) (by omega) (by omega) hd) hn hj hj2 hx hD hR;obtain⟨ds',i',rfl,_⟩:=tF;refine⟨D1,R1,?_,res⟩;have oe:=rL (fl:=.nx) (ρ:=ρB ns p m l D1 R1 (some (.d (.int (k:Int)))) (some (.tp 1))) (T:=T) (row:=[.list ds',.int i']) hA;rw[←eF,FH] at oe;rw[←oe];unfold bkI;rw[ub]
 have z:(1:Int)+1=2:=by decide
 rw[z] at ec;simp[ρB,ec,ed,uc,hA]
theorem v7(hA:T.length=1)(hn:Nms l j)(hj:0<j)(hj2:j<=12):∀(c k:Nat) (S:List Str) (D0 R0:Dc) (o8:Option D.W),k+c<=j->BkP p 6 S D0 R0->S.length=k->(∀y∈S,y∈l.take k) ->
  ∃D1 R1 S1 o,forL 8 bkI ((VL k c).map fun(i:Nat)=>Pv (i:Int)) (ρB ns p m l D0 R0 o8 none) T=some ((.nx,ρB ns p m l D1 R1 o none),T)/\BkP p 6 S1 D1 R1/\S1.length=k+c/\∀y∈S1,y∈l.take (k+c)
 |0,k,S,D0,R0,o8,_,b,hS,hb=>⟨D0,R0,S,o8,rfl,b,hS,hb⟩
 |c+1,k,S,D0,R0,o8,hk,b,hS,hsub=>by
  have hkl:k<l.length:=by rw[hn.len];omega
  have hx:atI (nmL l) (k:Int)=some (.str l[k]):=by
   unfold atI ixN;rw[eB,if_pos (by omega),if_pos (by omega)];simp[nmL,hkl]
  have hnx:l[k]∉S:=fun z=>by
   have z2:=hsub _ z;obtain⟨i,hi,e⟩:=Rc.mp z2;exact(List.pairwise_iff_getElem.mp hn.nd) i k (by omega) hkl (by omega) e
  have hlen:=b.len;obtain⟨D1,R1,e1,res⟩:=HZ (ns:=ns) (p:=p) (m:=m) hA hn hj hj2 hx (show D0.length<=1000 by omega) (show R0.length<=1000 by omega)
  have b1:BkP p 6 (l[k]::S) D1 R1:=by
   rcases res with⟨v,hv,rfl,rfl⟩|⟨r,hr,rfl,rfl⟩
   .exact b.putD hnx hv
   .exact b.putR hnx hr
  obtain⟨D2,R2,S2,o,e2,b2,h2,h3⟩:=v7 (ns:=ns) (p:=p) (m:=m) hA hn hj hj2 c (k+1) (l[k]::S) D1 R1 (some (.d (.int (k:Int)))) (by omega) b1 (by simp;omega) fun y hy=>by
   rcases MG.mp hy with rfl|z
   .exact Rc.mpr ⟨k,by omega,rfl⟩
   .exact List.take_subset_take_left l (by omega) (hsub y z)
  refine⟨D2,R2,S2,o,?_,b2,by omega,fun y hy=>by have:=h3 y hy;rwa [show k+1+c=k+(c+1) by omega] at this⟩;have st:bkI (Sw (ρB ns p m l D0 R0 o8 none) 8 (some (.d (.int (k:Int))))) T=some ((.nx,ρB ns p m l D1 R1 (some (.d (.int (k:Int)))) none),T):=e1;rw[List.range'_succ,M5,gO st];exact e2
theorem zv(n:Nat):bT 0 n=(VL 0 n).map fun(i:Nat)=>Pv (i:Int):=by
 unfold bT;rw[List.range_eq_range']
 exact Ni fun i _=>by simp
theorem F3(ns:List Int)(p:Bool):∃D0 R0 S,ip [.d (d8 ns),.d (.int 1),.d (.bool p)] []=some (bkD D0 R0,[])/\BkP p 6 S D0 R0/\S.length<=10/\∀y∈S,isName (.str y)=true/\y≠ZZ:=by
 obtain⟨c,ec⟩:=qh (ns:=ns) (k:=1) (T:=[]) (by omega);obtain⟨ds,ed,ld,hd⟩:=vg (c:=c) (N:=24) (T:=[]) (by decide) (by decide);have ld':ds.length=24:=ld;obtain⟨w,T1,e1,t1,w0,w1⟩:=cj (m:=8) (vm (A:=[]) (ds:=ds) (by omega) (by omega) hd) (by decide);obtain⟨w,rfl⟩:∃q:Nat,w=(q:Int):=⟨w.toNat,by omega⟩;obtain⟨l,T2,e2,t2,hn⟩:=D8 (m:=3+w+2) t1 (by omega)
 have hA:T2.length=1:=by
  obtain⟨_,_,rfl,_⟩:=t2;rfl
 obtain⟨D1,R1,S1,o,e3,b,hS,hY⟩:=v7 (ns:=ns) (p:=p) (m:=3+(w:Int)) hA hn (by omega) (by omega) (3+w) 0 [] [] [] none (by omega) BkP.nil rfl (by simp);refine⟨D1,R1,S1,?_,b,by omega,fun y hy=>⟨hn.nm y (Pz (hY y hy)),hn.nz y (Pz (hY y hy))⟩⟩;rw[←zv] at e3
 have zt:(3+(w:Int)).toNat=3+w:=by omega
 have hr:=i6 (j:=3+(w:Int)) (by omega) (by omega)
 have z2:((3+w+2:Nat):Int)=3+(w:Int)+2:=by omega
 rw[z2] at e2;have e1':bi [.tp 0,.d (.int 8)] [[.list ds,.int 0]]=some (.int (w:Int),T1):=e1;have e2':eU [.tp 0,.d (.int (3+(w:Int)+2))] T1=some (.list (nmL l),T2):=e2
 have es:bkS [some (.d (d8 ns)),some (.d (.int 1)),some (.d (.bool p)),some (.tp 0),none,none,none,none,none,none] [[.list ds,.int 0]]=some ((.rt (bkD D1 R1),ρB ns p (3+(w:Int)) l D1 R1 o none),T2):=by
  simp[ρB] at e3;simp[bkS,e1',e2',hr,zt,e3,ρB,bkD]
 obtain⟨ds',i',rfl,_⟩:=t2;have oe:=rL (n:=0) (fl:=.rt (bkD D1 R1)) (ρ:=ρB ns p (3+(w:Int)) l D1 R1 o none) (T:=[]) (row:=[.list ds',.int i']) rfl;rw[←es] at oe;rw[DZ];simp[ub,ec,ed,uc];exact congrArg dr oe
def ppr(R0 G:Dc)(xs:List Str):List PyData:=xs.map (lnG R0 G)
theorem CT:(putN G x v).length<=G.length+1:=by
 cases h:au G x with
 |none=>rw[lH h];exact MC _
 |some u=>
  unfold putN;rw[h,if_pos (by rfl),zJ];omega
def raC:FT:=(bD (ar (af inA (af ixD (aa 2) (fUn bA (fC (.int 1)))) (aa 0))) (ar (af bL (af ixD (aa 2) (fUn bA (fC (.int 1)))) (fSl (aa 2) bw (fP (fUn bA (fC (.int 1))))))))
def raE:FS:=(ay (aE .tuple (ae (cV (ar (af inA (af ixD (aa 2) (fUn bA (fC (.int 1)))) (aa 0))) (fC (.str "ring")) (fC (.str "lacks"))) (ae (fCB bS (ae (aa 2) ai)) ai))))
theorem wu:iY=aW 4 (ak (cO 2 (ae (aa 1) ai)) (ak (bo raC ia 100000) raE)):=rfl
def lrC:FT:=(ar (af bL (af ixD (aa 3) (fUn bA (fC (.int 1)))) (fSl (aa 3) bw (fP (fUn bA (fC (.int 1)))))))
def lrE:FS:=(ay (aE .tuple (ae (fC (.str "ring")) (ae (fCB bS (ae (aa 3) ai)) ai))))
theorem wD:ie=aW 5 (ak (fIf (ar (af inA (aa 2) (aa 1))) (ay (aE .tuple (ae (fC (.str "made")) (ae (af ixA (aa 1) (aa 2)) ai)))) aK) (ak (cO 3 (ae (aa 2) ai)) (ak (bo lrC iZ 100000) lrE))):=rfl
section
variable {p:Bool}{n:Nat}{D0 R0:Dc}
theorem vL:∀(xs:List Str) (L:Dc) (o:Option D.W),L.length+xs.length<=900->∃L' o',forL 2 k6 (ppr R0 G xs) [some (.d P),some (.loc (.dict L)),o] T=some ((.nx,[some (.d P),some (.loc (.dict L')),o']),T)/\∀y,au L' y=if y∈xs then some (lnG R0 G y) else au L y
 |[],L,o,_=>⟨L,o,rfl,fun y=>by simp⟩
 |x::xs,L,o,h=>by
  have hl:L.length<=1000:=by simp at h;omega
  have pl:=CT (G:=L) (x:=x) (v:=lnG R0 G x);obtain⟨L',o',e,hk⟩:=vL (G:=G) (P:=P) (T:=T) xs (putN L x (lnG R0 G x)) (some (.d (lnG R0 G x))) (by simp at h;omega);refine⟨L',o',?_,fun y=>?_⟩
  .have i0:ixD (lnG R0 G x) (.int 0)=some (.str x):=rfl
   have st:k6 (Sw [some (.d P),some (.loc (.dict L)),o] 2 (some (.d (lnG R0 G x)))) T=some ((.nx,[some (.d P),some (.loc (.dict (putN L x (lnG R0 G x)))),some (.d (lnG R0 G x))]),T):=by
    simp[k6,i0,hl]
   exact(gO st).trans e
  .rw[hk,eY]
   by_cases hy:y∈xs
   .simp[hy]
   .by_cases hx:x=y
    .subst hx;simp
    .have:¬y∈x::xs:=fun z=>(MG.mp z).elim (fun e=>hx e.symm) hy
     rw[if_neg hy,if_neg hx,if_neg this]
theorem uw(hl:xs.length<=900)(T:Tp):∃L,fO [.d (.list (ppr R0 G xs))] T=some (.dict L,T)/\∀y,au L y=if y∈xs then some (lnG R0 G y) else none:=by
 obtain⟨L,o,e,h⟩:=vL (R0:=R0) (G:=G) (P:=.list (ppr R0 G xs)) (T:=T) xs [] none (by simpa using hl);refine⟨L,?_,h⟩;rw[xV];simp[e]
structure Cl(R0 G:Dc)(xs:List Str):Prop where
 len:xs.length<=60
 mem:∀x∈xs,∃r,au R0 x=some r
 cls:∀x∈xs,∀b y r' r2,(stG R0 G x).S=asT b y r'->au R0 y=some r2->y∈xs
def ρR(L:Dc)(nmE:Mo)(ps:List Str)(o:Option D.W):Rho:=[some (.d (.dict L)),some (.d nmE),some (.loc (.list (nmL ps))),o]
def ρW(D0 R0 G:Dc)(nmE:Mo)(ps:List Str)(o:Option D.W):Rho:=[some (.d (bkD D0 R0)),some (.d (.dict G)),some (.d nmE),some (.loc (.list (nmL ps))),o]
def jB(m:Nat)(ρ:Rho)(T:Tp):Option (Mo×Tp):=dr (bnd (bo raC ia m ρ T) (gA raE))
def jE(m:Nat)(ρ:Rho)(T:Tp):Option (Mo×Tp):=dr (bnd (bo lrC iZ m ρ T) (gA lrE))
theorem sT(B:Bk p n D0 R0)(hs:Snd D0 R0 G)(hc:∀x,ClsAt R0 G x)(cl:Cl R0 G xs)(hL:∀y,au L y=if y∈xs then some (lnG R0 G y) else none)(nmE nmE2:Mo)(T:Tp) :
  ∀(f:Nat) (ps:List Str) (x:Str),mu2 R0 ps=f->au G x=none->(∀r,au R0 x=some r->x∈xs)->(∀y∈ps,y∈xs)->ps.Nodup->ps.length+mu2 R0 ps<=900->∃V,ResR V/\(∀m o,f+1<m->jB m (ρR L nmE (ps++[x]) o) T=some (V,T))/\(∀m o,f+1<m->jE m (ρW D0 R0 G nmE2 (ps++[x]) o) T=some (V,T))
 |f,ps,x,hf,hx,hxs,hps,hnd,hlen=>by
  have la:=uS ps x;have cl':=uj ps x;have ni:=jK ps x
  have l1:(ps++[x]).length<=1000:=by simp;omega
  have tu:bS [.list (nmL (ps++[x]))]=some (.tuple (nmL (ps++[x]))):=rfl
  by_cases hin:x∈ps
  .-- a ring
   have kl:au L x=some (lnG R0 G x):=by rw[hL,if_pos (hps x hin)]
   refine⟨g0 "ring" (ps++[x]),.two l1,fun m o hm=>?_,fun m o hm=>?_⟩
   .obtain⟨m,rfl⟩:=bb m (by omega)
    unfold jB;rw[ja (by simp[raC,ρR,la,kl,cl',ni,hin])];simp[raE,ρR,la,kl,tu,g0]
   .obtain⟨m,rfl⟩:=bb m (by omega)
    unfold jE;rw[ja (by simp[lrC,ρW,la,cl',ni,hin])];simp[lrE,ρW,tu,g0]
  .cases hr:au R0 x with
   |none=>
    have kl:au L x=none:=by
     rw[hL,if_neg];intro z;obtain⟨r,q⟩:=cl.mem x z;rw[hr] at q;cases q
    refine⟨g0 "lacks" (ps++[x]),.two l1,fun m o hm=>?_,fun m o hm=>?_⟩
    .obtain⟨m,rfl⟩:=bb m (by omega)
     unfold jB;rw[ja (by simp[raC,ρR,la,kl])];simp[raE,ρR,la,kl,tu,g0]
    .obtain⟨m,rfl⟩:=bb m (by omega)
     unfold jE;rw[j4 (x:=g0 "lacks" (ps++[x])) (ρ':=ρW D0 R0 G nmE2 (ps++[x]) o) (by simp[lrC,ρW,la,cl',ni,hin]) (by simp[iZ,ρW,bkD,la,hr,tu,g0])];simp
   |some r=>
    have ix:=hxs r hr
    have kl:au L x=some (lnG R0 G x):=by rw[hL,if_pos ix]
    have ok:=(mr (hs.gv B) B.n20 (eI (B.rg hr).1 B.n20));have sx:=jh (G:=G) hr;have lr:=qg T (hs.gv B) B.n20 (B.rg hr).1
    have c1:∀o,raC (ρR L nmE (ps++[x]) o) T=some (true,T):=fun o=>by simp[raC,ρR,la,kl,cl',ni,hin]
    have c2:∀o,lrC (ρW D0 R0 G nmE2 (ps++[x]) o) T=some (true,T):=fun o=>by simp[lrC,ρW,la,cl',ni,hin]
    have ix2:ixD (lnG R0 G x) (.int 2)=some (cW (run G (s0 r)).S):=by rw[←sx];rfl
    rcases fY ok.1.st with⟨v,e,_⟩|⟨w,e,_⟩|⟨b,y,r',e,_⟩
    .exact absurd (hc x r v hr e) (by rw[hx];simp)
    .rw[e] at ix2 lr
     refine⟨jw (ps++[x]) w,.fail l1,fun m o hm=>?_,fun m o hm=>?_⟩
     .obtain⟨m,rfl⟩:=bb m (by omega)
      unfold jB;rw[j4 (x:=jw (ps++[x]) w) (ρ':=ρR L nmE (ps++[x]) (some (.d (flT w)))) (c1 o) (by simp at ix2;simp[ia,ρR,la,kl,ix2];simp[flT,tu,jw])];simp
     .obtain⟨m,rfl⟩:=bb m (by omega)
      unfold jE;rw[j4 (x:=jw (ps++[x]) w) (ρ':=ρW D0 R0 G nmE2 (ps++[x]) (some (.d (flT w)))) (c2 o) (by simp at lr;simp[iZ,ρW,bkD,la,hr,lr];simp[flT,tu,jw])];simp
    .rw[e] at ix2 lr
     have ny:au G y=none:=by
      rcases ok.2 with z|⟨b2,y2,r2,z,hk⟩
      .rw[e] at z;simp at z
      .have:y=y2:=by
        rw[e] at z
        cases b <;> cases b2 <;> simp[asT] at z <;> simp[z]
       rw[this];exact hk
     have hm2:=E5 hr hin;have nd2:(ps++[x]).Nodup:=OQ.mpr ⟨hnd,by simp,fun a ha b hb z=>hin (by rw[←MR.mp hb,←z];exact ha)⟩
     obtain⟨V,hV,w1,w2⟩:=sT B hs hc cl hL nmE nmE2 T (mu2 R0 (ps++[x])) (ps++[x]) y rfl ny (fun r2 h2=>cl.cls x ix b y r' r2 (by rw[sx];exact e) h2) (fun z hz=>by
      rcases MN.mp hz with q|q
      .exact hps z q
      .rw[MR.mp q];exact ix) nd2 (by simp;omega)
     have l2:(nmL (ps++[x])).length<sizeLine:=NK (show (nmL (ps++[x])).length<=1000 by simp[nmL];simp at l1;omega) (by decide)
     have ap:nmL (ps++[x])++[Nk y]=nmL (ps++[x]++[y]):=by simp[nmL]
     refine⟨V,hV,fun m o hm=>?_,fun m o hm=>?_⟩
     .obtain⟨m,rfl⟩:=bb m (by omega)
      have hb:ia (ρR L nmE (ps++[x]) o) T=some ((.nx,ρR L nmE (ps++[x]++[y]) (some (.d (cu "wants" (.str y))))),T):=by
       simp at ix2;simp only[ρR];rw[←ap];simp[ia,la,kl,ix2];simp[cu,l2]
      have:=w1 m (some (.d (cu "wants" (.str y)))) (by omega);unfold jB at this ⊢;rw[iD (c1 o) hb];exact this
     .obtain⟨m,rfl⟩:=bb m (by omega)
      have hb:iZ (ρW D0 R0 G nmE2 (ps++[x]) o) T=some ((.nx,ρW D0 R0 G nmE2 (ps++[x]++[y]) (some (.d (cu "wants" (.str y))))),T):=by
       simp at lr;simp only[ρW];rw[←ap];simp[iZ,bkD,la,hr,lr];simp[cu,l2]
      have:=w2 m (some (.d (cu "wants" (.str y)))) (by omega);unfold jE at this ⊢;rw[iD (c2 o) hb];exact this
termination_by f=>f
decreasing_by omega
theorem Be(B:Bk p n D0 R0)(hd:Sub D0 G)(hs:Snd D0 R0 G)(hc:∀x,ClsAt R0 G x)(cl:Cl R0 G xs)(hx:x∈xs)(T:Tp) :
  ∃V,fW [.d (.list (ppr R0 G xs)),.d (.str x)] T=some (V,T)/\ie [.d (bkD D0 R0),.d (.dict G),.d (.str x)] T=some (V,T)/\SV 5 V:=by
 obtain⟨L,eL,hL⟩:=uw (R0:=R0) (G:=G) (xs:=xs) (by have:=cl.len;omega) T
 have kl:au L x=some (lnG R0 G x):=by rw[hL,if_pos hx]
 obtain⟨r,hr⟩:=cl.mem x hx
 have fin:∀V,iY [.d (.dict L),.d (.str x)] T=some (V,T)->fW [.d (.list (ppr R0 G xs)),.d (.str x)] T=some (V,T):=fun V e=>by
  simp[fW,eL,kl,e]
 cases hk:au G x with
 |some v=>
  obtain⟨_,_,_,_,e⟩:=BW B hd hs hc hr hk;have hv:aJ v=true:=hs.gv B x v hk
  have ix2:ixD (lnG R0 G x) (.int 2)=some (.tuple [.str "made",stt v]):=by
   show some (cW (stG R0 G x).S)=_;rw[jh hr,e,jf]
  have lb:=F4 T hv;have la:=uS [] x;have cl':=uj [] x;have ni:=jK [] x;refine⟨mdT v,fin _ ?_,?_,Gm hv⟩
  .rw[wu]
   have:=j4 (c:=raC) (b:=ia) (m:=99999) (ρ:=ρR L (.str x) [x] none) (T:=T) (x:=mdT v) (ρ':=ρR L (.str x) [x] (some (.d (.tuple [.str "made",stt v])))) (by simp at la cl' ni;simp[raC,ρR,la,kl,cl',ni]) (by simp at la;simp[ia,ρR,la,kl,ix2,stt,lb,mdT]);simp[ρR,nmL] at this;simp[this]
  .rw[wD]
   simp[hk,mdT]
 |none=>
  have hm:=Dp (R0:=R0) [];have hl:=B.len;obtain⟨V,hV,w1,w2⟩:=sT B hs hc cl hL (.str x) (.str x) T (mu2 R0 []) [] x rfl hk (fun _ _=>hx) (by simp) (by simp) (by simp;omega);refine⟨V,fin V ?_,?_,?_⟩
  .rw[wu]
   have:=w1 100000 none (by omega);simp[jB,ρR,nmL] at this;simp[this]
  .rw[wD]
   have:=w2 100000 none (by omega);simp[jE,ρW,nmL] at this;simp[hk,this]
  .cases hV with
   |two h=>
    refine .tup (by simp) fun d hd=>?_;simp at hd
    rcases hd with rfl|rfl
    .exact .str
    .exact wj _ h
   |fail h=>
    refine .tup (by simp) fun d hd=>?_;simp at hd
    rcases hd with rfl|rfl|rfl
    .exact .str
    .exact wj _ h
    .exact .str
end
theorem zP:∀{l:List (List Nat)},c∈aZ s l->c∈s\/∃x∈l,c∈x
 |[],h=>by simp[aZ] at h
 |x::r,h=>by
  rw[gI] at h
  rcases MN.mp h with z|z
  .exact .inr ⟨x,Mq,z⟩
  .obtain⟨y,hy,hc⟩:=List.mem_flatten.mp z
   obtain⟨q,hq,rfl⟩:=MJ.mp hy
   rcases MN.mp hc with w|w
   .exact .inl w
   .exact .inr ⟨q,Mr _ hq,w⟩
theorem v4:∀(n:Nat) (d:Mo),aG n d=true->∀c∈cst n d,c<128
 |n,d,h,c,hc=>by
  rcases c9 h with h1|⟨m,ds,rfl,rfl,_,hd⟩
  .rcases dY h1 with⟨i,rfl⟩|⟨x,rfl⟩
   .rw[jW] at hc
    rcases lY i c hc with z|z <;> omega
   .rw[jV] at hc
    rcases MG.mp hc with z|z
    .omega
    .exact K1.gS K1.jo (nK h1) c z
  .have e:cst (m+1) (.tuple ds)=40::aZ [44] (ds.map (cst m))++[41]:=rfl
   rw[e] at hc
   rcases MN.mp hc with z|z
   .rcases MG.mp z with z|z
    .omega
    .rcases zP z with w|⟨x,hx,hcx⟩
     .have:=MR.mp w;omega
     .obtain⟨d',hd',rfl⟩:=MJ.mp hx
      exact v4 m d' (hd d' hd') c hcx
   .have:=MR.mp z;omega
termination_by n=>n
theorem wB(h:∀c∈cd x,c<128):PJ x=true:=by
 unfold PJ;rw[Array.all_eq_true'];intro c hc;exact decide_eq_true (QQ (h c (by simpa[cd] using hc)) (by decide))
theorem wA(h:aJ v=true):PJ (mk (cst 4 v))=true:=wB fun c hc=>v4 4 v (cU h).1 c (by rw[bv] at hc;exact hc)
theorem mO(h:isName (.str x)=true):PJ x=true:=by
 have h':(decide (1<=x.length)&&decide (x.length<=8)&&has LET x)=true:=h;rw[Mx] at h';exact wB (K1.gS K1.wb h'.2)
inductive ST:Nat->Mo->Prop where
 |s {n:Nat}{x:Str}:PJ x=true->ST n (.str x)
 |t {n:Nat}{ds:List Mo}:(∀d∈ds,ST n d)->ST (n+1) (.tuple ds)
theorem ST.lay(h:ST n d):d.canLay0=true:=by
 induction h with
 |s h=>simpa[Os] using h
 |t _ ih=>
  simp only[Os];exact jX ih
theorem ST.dep(h:ST n d):d.depth<=n+1:=by
 induction h with
 |s h=>simp[Qq]
 |t _ ih=>
  simp only[Qq];have:=lA ih;omega
theorem ST.shp(h:ST n d)(hn:n<=60):Nt d=true:=by
 unfold Nt;have:=h.dep;rw[h.lay,decide_eq_true (by omega)];rfl
theorem ST.eqv:∀(n:Nat) (a b:Mo),ST n a->ST n b->(NQ a b=true↔a=b)
 |n,a,b,ha,hb=>by
  cases ha with
  |s h1=>
   cases hb with
   |s h2=>simp[NQ]
   |t h2=>simp[NQ]
  |t h1=>
   cases hb with
   |s h2=>simp[NQ]
   |t h2=>
    rename_i m ds es;have:=nP (P:=fun d=>ST m d) (ST.eqv m) ds es h1 h2;simp only[NQ];rw[this];simp
termination_by n=>n
theorem lS(h:∀d∈l,ST n d)(hn:n<=60):Nt (.list l)=true:=by
 unfold Nt
 have h1:(Pa l).canLay0=true:=by
  simp only[Os];exact jX fun d hd=>(h d hd).lay
 have h2:(Pa l).depth<=64:=by
  simp only[Qq];have:=lA (k:=n+1) fun d hd=>(h d hd).dep;omega
 rw[h1,decide_eq_true h2];rfl
theorem Ep(h:∀d∈l,ST n d)(hn:n<=60):eqG (.list l) (.list l)=some (.bool true):=by
 unfold eqG;rw[if_pos ⟨lS h hn,lS h hn⟩];have:=(nP (P:=fun d=>ST n d) (ST.eqv n) l l h h).mpr rfl;simp only[NQ];rw[this]
theorem CJ(h:∀d∈l,ST n d)(hn:n<=60):eqG (.list l) (.list [])=some (.bool l.isEmpty):=by
 have h2:Nt (.list [])=true:=lS (n:=n) (l:=[]) (by simp) hn;unfold eqG;rw[if_pos ⟨lS h hn,h2⟩]
 cases l <;> simp[NQ,OV]
def j9(l:List Mo)(x:Mo):Bool:=@decide (x∈l) (Ou _)
theorem CI(hx:ST n x)(h:∀d∈l,ST n d)(hn:n<=60):iX x (.list l)=some (.bool (!j9 l x)):=by
 have e:iX x (.list l)=some (.bool (!l.any fun y=>NQ y x)):=if_pos ⟨hx.shp hn,MM.mpr fun d hd=>(h d hd).shp hn⟩;rw[e]
 congr 2
 unfold j9
 congr 1
 rw[Oi,Qw,@decide_eq_true_iff _ (Ou _)];exact⟨fun⟨y,hy,q⟩=>by rw[←(ST.eqv n y x (h y hy) hx).mp q];exact hy,fun q=>⟨x,q,(ST.eqv n x x hx hx).mpr rfl⟩⟩
def nm:Mo->Str
 |.str x=>x
 |_=>Mv ""
def kn(ds:Dc):List Str:=ds.map fun q=>nm q.1
structure Al(p:Bool)(n:Nat)(D0 R0 G:Dc):Prop where
 B:Bk p n D0 R0
 hd:Sub D0 G
 hs:Snd D0 R0 G
 hc:∀x,ClsAt R0 G x
 nD:∀x v,au D0 x=some v->isName (.str x)=true
 nR:∀x v,au R0 x=some v->isName (.str x)=true
 kD:d9 D0=nmL (kn D0)
 kR:d9 R0=nmL (kn R0)
 mD:∀x,x∈kn D0↔∃v,au D0 x=some v
 mR:∀x,x∈kn R0↔∃v,au R0 x=some v
 len:D0.length+R0.length<=40
def dS:Mo->Str
 |.tuple (.str x::_)=>x
 |_=>Mv ""
def rdN(s:St3):List Str:=s.rd.map dS
section
variable {p:Bool}{n:Nat}{D0 R0 G:Dc}
theorem Al.gv(a:Al p n D0 R0 G):GV G:=a.hs.gv a.B
theorem Al.key(a:Al p n D0 R0 G)(h:au G x=some v):isName (.str x)=true:=by
 cases a.hs x v h with
 |told h=>exact a.nD x v h
 |made h _ _ _=>exact a.nR x _ h
theorem Al.ok(a:Al p n D0 R0 G)(h:au R0 x=some r):OkS p n (stG R0 G x)/\m5 G (stG R0 G x).S:=by
 rw[jh h];exact mr a.gv a.B.n20 (eI (a.B.rg h).1 a.B.n20)
theorem Al.reads(a:Al p n D0 R0 G)(h:au R0 x=some r):∀d∈(stG R0 G x).rd,∃z v,d=.tuple [.str z,v]/\au G z=some v:=fun d hd=>by
 rw[jh h] at hd
 rcases si a.gv a.B.n20 (eI (a.B.rg h).1 a.B.n20) d hd with z|z
 .simp[s0] at z
 .exact z
theorem Al.st(a:Al p n D0 R0 G)(h:au R0 x=some r):ST 3 (lnG R0 G x)/\∀d∈(stG R0 G x).rd.map rdS,ST 1 d:=by
 have hr:∀d∈(stG R0 G x).rd.map rdS,ST 1 d:=fun d hd=>by
  obtain⟨d',hd',rfl⟩:=MJ.mp hd;obtain⟨z,v,rfl,hk⟩:=a.reads h d' hd';refine .t fun d hd=>?_;simp at hd
  rcases hd with rfl|rfl
  .exact .s (mO (a.key hk))
  .exact .s (wA (a.gv z v hk))
 refine⟨.t fun d hd=>?_,hr⟩;simp at hd
 rcases hd with rfl|rfl|rfl
 .exact .s (mO (a.nR x r h))
 .exact .t hr
 .rcases fY (a.ok h).1.st with⟨v,ev,hv⟩|⟨y,ev,hy⟩|⟨b,y,r',ev,hy⟩
  .rw[ev,jf]
   refine .t fun d hd=>?_;simp at hd
   rcases hd with rfl|rfl
   .exact .s (by decide +kernel)
   .exact .s (wA hv)
  .rw[ev,jT]
   refine .t fun d hd=>?_;simp at hd
   rcases hd with rfl|rfl
   .exact .s (by decide +kernel)
   .exact .s (mO hy)
  .rw[ev,jU]
   refine .t fun d hd=>?_;simp at hd
   rcases hd with rfl|rfl
   .exact .s (by decide +kernel)
   .exact .s (mO hy)
theorem vJ:∀(ys xs:List Str),ys.Nodup->(∀y∈ys,y∈xs)->ys.length<=xs.length
 |[],_,_,_=>Oj _
 |y::ys,xs,nd,h=>by
  obtain⟨n1,n2⟩:=Nc.mp nd;have hy:=h y Mq;have:=vJ ys (xs.erase y) n2 fun z hz=>(List.mem_erase_of_ne (fun e=>n1 (by rw[←e];exact hz))).mpr (h z (Mr _ hz));rw[List.length_erase_of_mem hy] at this;have:0<xs.length:=List.length_pos_of_mem hy;rw[MY];omega
theorem E8(h:lnG R0 G x=lnG R0 G y):x=y:=by
 have:Nk x=Nk y:=by
  unfold lnG ln at h
  injection h with h
  injection h
 injection this
theorem mem_ppr:lnG R0 G x∈ppr R0 G ys↔x∈ys:=by
 constructor
 .intro h
  obtain⟨y,hy,e⟩:=MJ.mp h;rw[←E8 e];exact hy
 .exact fun h=>MJ.mpr ⟨x,h,rfl⟩
def rdy(D0 R0 G:Dc)(ys:List Str)(x:Str):Prop:=∀z∈rdN (stG R0 G x),z∈ys++kn D0
def ρO(D0 R0 G:Dc)(ls:Mo)(ys:List Str)(b:Bool)(o5 o6:Option D.W):Rho:=[some (.d (bkD D0 R0)),some (.d (.dict G)),some (.d ls),some (.loc (.list (ppr R0 G ys))),some (.d (.bool b)),o5,o6]
theorem su(ρ:Rho)(T:Tp):bz bu (af ixD (aa 0) (fC (.int 0))) ρ (ppr R0 G ys) T=some (nmL ys,T):=by
 have:=dw (e:=af ixD (aa 0) (fC (.int 0))) (ρ:=ρ) (T:=T) (g:=fun d=>.str (dS d)) (ds:=ppr R0 G ys) fun d hd=>by
  obtain⟨x,_,rfl⟩:=MJ.mp hd;have i0:ixD (lnG R0 G x) (.int 0)=some (.str x):=rfl;simp[i0];rfl
 rw[this]
 congr 2
 unfold ppr nmL;rw[NJ];exact Ni fun x _=>rfl
theorem uP(ys:List Str):(nmL ys).all cz=true:=MM.mpr fun d hd=>by
 obtain⟨y,_,rfl⟩:=MJ.mp hd;rfl
theorem o7(a b:List Str):nmL a++nmL b=nmL (a++b):=by simp[nmL]
theorem Et(hk:d9 ds=nmL l)(h:l.length<64):j7 (.dict ds)=some (.list (nmL (bN l))):=by
 have e:c7 (nmL l)=some l:=by
  have:=li (fun x:Str=>x) l;simpa[nmL] using this
 show iM (c7 (d9 ds))=_;rw[hk,e];show (if l.length<64 then _ else _)=_;rw[if_pos h];rfl
theorem gm(ds:Dc):(kn ds).length=ds.length:=by simp[kn]
def Pl(o:Option D.W):Prop:=o=none\/∃x,o=some (.d x)
theorem Aj(h6:Pl o6) :
  fu (aX (aa 3)) bu (af ixD (aa 0) (fC (.int 0))) (ρO D0 R0 G ls ys b (some (.d x5)) o6) T=some (.d (.list (nmL ys)),T):=by
 have nd:qC (ρO D0 R0 G ls ys b (some (.d x5)) o6)=true:=by rcases h6 with rfl|⟨x,rfl⟩ <;> rfl
 have it:aX (aa 3) (bW (ρO D0 R0 G ls ys b (some (.d x5)) o6)) []=some (ppr R0 G ys,[]):=rfl;unfold fu;rw[if_pos nd,it,gT,su];show (if (nmL ys).all cz=true then _ else _)=_;rw[if_pos (uP ys)]
theorem Af(a:Al p n D0 R0 G){x:Str}{r:Mo}(hr:au R0 x=some r){c:FT}{ρ:Rho}{T:Tp}{as:List Str}(hc:∀z v,c (some (.d (.tuple [.str z,v]))::ρ) T=some (!decide (z∈as),T)) :
  ∃l,bz c (aa 0) ρ ((stG R0 G x).rd.map rdS) T=some (l,T)/\eqG (.list l) (.list [])=some (.bool (decide (∀z∈rdN (stG R0 G x),z∈as))):=by
 refine⟨((stG R0 G x).rd.map rdS).filter (fun d=>!decide (dS d∈as)),fV fun d hd=>?_,?_⟩
 .obtain⟨d',hd',rfl⟩:=MJ.mp hd
  obtain⟨z,v,rfl,_⟩:=a.reads hr d' hd';exact hc z _
 .rw[CJ (n:=1) (fun d hd=>(a.st hr).2 d (Nx.mp hd).1) (by decide),filter_none]
  congr 2
  rw[Oi,MM,decide_eq_true_eq];constructor
  .intro h z hz
   obtain⟨d,hd,rfl⟩:=MJ.mp hz;obtain⟨z,v,rfl,_⟩:=a.reads hr d hd;have q:=h (rdS (.tuple [.str z,v])) (MJ.mpr ⟨_,hd,rfl⟩);exact of_decide_eq_true q
  .intro h d hd
   obtain⟨d',hd',rfl⟩:=MJ.mp hd;obtain⟨z,v,rfl,_⟩:=a.reads hr d' hd';exact decide_eq_true (h _ (MJ.mpr ⟨_,hd',rfl⟩))
theorem Bz(a:Al p n D0 R0 G)(hr:au R0 x=some r)(hys:∀y∈ys,∃r,au R0 y=some r)(hl:ys.length<=60)(h6:Pl o6) :
  (x∉ys/\rdy D0 R0 G ys x/\∃q,eV (ρO D0 R0 G ls ys b (some (.d (lnG R0 G x))) o6) T=some ((.nx,ρO D0 R0 G ls (ys++[x]) true (some (.d (lnG R0 G x))) (some (.d q))),T)) \/
  ((x∈ys\/¬rdy D0 R0 G ys x)/\∃q,eV (ρO D0 R0 G ls ys b (some (.d (lnG R0 G x))) o6) T=some ((.nx,ρO D0 R0 G ls ys b (some (.d (lnG R0 G x))) (some (.d q))),T)):=by
 have c1:=Aj (D0:=D0) (R0:=R0) (G:=G) (ls:=ls) (x5:=lnG R0 G x) (ys:=ys) (b:=b) (T:=T) h6
 have l1:(nmL ys).length+(nmL (kn D0)).length<=sizeLine:=dy (by
  have:=a.len;simp[nmL,gm]
  omega)
 have i0:ixD (bkD D0 R0) (.int 0)=some (.dict D0):=rfl
 have lk:fE [.dict D0]=some (.list (nmL (kn D0))):=by rw[←a.kD];rfl
 have ap:=o7 ys (kn D0)
 have nt:iX (lnG R0 G x) (.list (ppr R0 G ys))=some (.bool (!j9 (ppr R0 G ys) (lnG R0 G x))):=CI (a.st hr).1 (fun d hd=>by
  obtain⟨y,hy,rfl⟩:=MJ.mp hd;obtain⟨r',hr'⟩:=hys y hy
  exact(a.st hr').1) (by decide)
 have i1:ixD (lnG R0 G x) (.int 1)=some (.tuple ((stG R0 G x).rd.map rdS)):=rfl;have l2:(ppr R0 G ys).length<sizeLine:=NK (by simp[ppr];exact hl) (by decide:60<Mz)
 have apP:ppr R0 G ys++[lnG R0 G x]=ppr R0 G (ys++[x]):=by simp[ppr]
 obtain⟨l,f1,f2⟩:=Af a hr (c:=ar (af bL (af ixD (aa 0) (fC (.int 0))) (aa 7))) (ρ:=ρO D0 R0 G ls ys b (some (.d (lnG R0 G x))) (some (.d (.list (nmL (ys++kn D0)))))) (T:=T) (as:=ys++kn D0) fun z v=>by
  have:=jK (ys++kn D0) z;simp[ρO,this]
 by_cases hx:x∈ys
 .have sm:j9 (ppr R0 G ys) (lnG R0 G x)=true:=(@decide_eq_true_iff _ (Ou _)).mpr (mem_ppr.mpr hx)
  rw[sm] at nt;refine .inr ⟨.inl hx,.list (nmL (ys++kn D0)),?_⟩;simp[ρO] at c1;simp[eV,ρO,c1,i0,lk,l1,ap,nt]
 .have sm:j9 (ppr R0 G ys) (lnG R0 G x)=false:=(@decide_eq_false_iff_not _ (Ou _)).mpr (fun z=>hx (mem_ppr.mp z))
  rw[sm] at nt
  by_cases hq:rdy D0 R0 G ys x
  .have hq':(decide (∀z∈rdN (stG R0 G x),z∈ys++kn D0))=true:=decide_eq_true hq
   rw[hq'] at f2;refine .inl ⟨hx,hq,.list (nmL (ys++kn D0)),?_⟩;simp[ρO] at c1 f1;simp[eV,ρO,c1,i0,lk,l1,ap,nt,i1,f1,f2,l2,apP]
  .have hq':(decide (∀z∈rdN (stG R0 G x),z∈ys++kn D0))=false:=decide_eq_false hq
   rw[hq'] at f2;refine .inr ⟨.inr hq,.list (nmL (ys++kn D0)),?_⟩;simp[ρO] at c1 f1;simp[eV,ρO,c1,i0,lk,l1,ap,nt,i1,f1,f2]
theorem Al.small(a:Al p n D0 R0 G){ys:List Str}(nd:ys.Nodup)(hys:∀y∈ys,∃r,au R0 y=some r):ys.length<=40:=by
 have:=vJ ys (kn R0) nd fun y hy=>(a.mR y).mpr (hys y hy);rw[gm] at this;have:=a.len;omega
theorem oX(a:Al p n D0 R0 G):∀(zs ys:List Str) (b:Bool) (o5 o6:Option D.W),(∀z∈zs,∃r,au R0 z=some r)->ys.Nodup->(∀y∈ys,∃r,au R0 y=some r)->Pl o6 ->
  ∃ys' b' o5' o6',forL 5 eV (ppr R0 G zs) (ρO D0 R0 G ls ys b o5 o6) T=some ((.nx,ρO D0 R0 G ls ys' b' o5' o6'),T)/\Pl o6'/\ys'.Nodup/\(∀y∈ys',∃r,au R0 y=some r)/\ys.length<=ys'.length/\(b'=false->b=false/\ys'=ys/\∀z∈zs,z∈ys\/¬rdy D0 R0 G ys z)/\(b'=true->b=true\/ys.length<ys'.length)
 |[],ys,b,o5,o6,_,nd,hy,h6=>⟨ys,b,o5,o6,rfl,h6,nd,hy,MC _,fun e=>⟨e,rfl,fun z h=>by cases h⟩,fun e=>.inl e⟩
 |x::zs,ys,b,o5,o6,hz,nd,hy,h6=>by
  obtain⟨r,hr⟩:=hz x Mq;have hz':∀z∈zs,∃r,au R0 z=some r:=fun z h=>hz z (Mr _ h);have hl:=a.small nd hy;have st:∀{ρ':Rho},eV (ρO D0 R0 G ls ys b (some (.d (lnG R0 G x))) o6) T=some ((.nx,ρ'),T)->forL 5 eV (ppr R0 G (x::zs)) (ρO D0 R0 G ls ys b o5 o6) T=forL 5 eV (ppr R0 G zs) ρ' T:=fun h=>gO h
  rcases Bz a (ls:=ls) (b:=b) (T:=T) hr hy (by omega) h6 with⟨h1,h2,q,e⟩|⟨h1,q,e⟩
  .have nd':(ys++[x]).Nodup:=OQ.mpr ⟨nd,by simp,fun u hu v hv z=>h1 (by rw[←MR.mp hv,←z];exact hu)⟩
   obtain⟨ys',b',o5',o6',f1,f2,f3,f4,f5,f6,f7⟩:=oX a (ls:=ls) (T:=T) zs (ys++[x]) true (some (.d (lnG R0 G x))) (some (.d q)) hz' nd' (fun y h=>by
    rcases MN.mp h with z|z
    .exact hy y z
    .rw[MR.mp z];exact⟨r,hr⟩) (.inr ⟨q,rfl⟩)
   have l1:(ys++[x]).length=ys.length+1:=by simp
   refine⟨ys',b',o5',o6',by rw[st e];exact f1,f2,f3,f4,by omega,fun z=>?_,fun z=>.inr (by omega)⟩;obtain⟨w,_⟩:=f6 z;cases w
  .obtain⟨ys',b',o5',o6',f1,f2,f3,f4,f5,f6,f7⟩:=oX a (ls:=ls) (T:=T) zs ys b (some (.d (lnG R0 G x))) (some (.d q)) hz' nd hy (.inr ⟨q,rfl⟩)
   refine⟨ys',b',o5',o6',by rw[st e];exact f1,f2,f3,f4,f5,fun z=>?_,f7⟩;obtain⟨w1,w2,w3⟩:=f6 z;exact⟨w1,w2,fun y hy=>(MG.mp hy).elim (fun e=>by rw[e];exact h1) (w3 y)⟩
theorem sA(a:Al p n D0 R0 G)(hx:∀z∈xs,∃r,au R0 z=some r):∀(m:Nat) (ys:List Str) (o5 o6:Option D.W),ys.Nodup->(∀y∈ys,∃r,au R0 y=some r)->Pl o6->50<m+ys.length ->
  ∃ys' o5' o6',bo (aU (aa 4)) k7 m (ρO D0 R0 G (.list (ppr R0 G xs)) ys true o5 o6) T=some ((.nx,ρO D0 R0 G (.list (ppr R0 G xs)) ys' false o5' o6'),T)/\ys'.Nodup/\(∀y∈ys',∃r,au R0 y=some r)/\∀z∈xs,z∈ys'\/¬rdy D0 R0 G ys' z
 |0,ys,o5,o6,nd,hy,_,hm=>by have:=a.small nd hy;omega
 |m+1,ys,o5,o6,nd,hy,h6,hm=>by
  obtain⟨ys',b',o5',o6',f1,f2,f3,f4,f5,f6,f7⟩:=oX a (ls:=.list (ppr R0 G xs)) (T:=T) xs ys false o5 o6 hx nd hy h6
  have hc:∀b ys o5 o6,aU (aa 4) (ρO D0 R0 G (.list (ppr R0 G xs)) ys b o5 o6) T=some (b,T):=fun b ys o5 o6=>by simp[ρO]
  have hb:k7 (ρO D0 R0 G (.list (ppr R0 G xs)) ys true o5 o6) T=some ((.nx,ρO D0 R0 G (.list (ppr R0 G xs)) ys' b' o5' o6'),T):=by
   simp[ρO] at f1;simp[k7,ρO,f1]
  rw[iD (hc _ _ _ _) hb];have hl:=a.small f3 f4
  cases b' with
  |false=>
   obtain⟨_,w2,w3⟩:=f6 rfl
   have hm2:0<m:=by omega
   obtain⟨m,rfl⟩:=bb m (by omega);rw[ja (hc _ _ _ _)];refine⟨ys',o5',o6',rfl,f3,f4,fun z hz=>?_⟩;rw[w2];exact w3 z hz
  |true=>
   have hm2:=(f7 rfl).resolve_left (by simp);exact sA a hx m ys' o5' o6' f3 f4 f2 (by omega)
theorem FX(a:Al p n D0 R0 G)(h:∀x r,au R0 x=some r->x∈ys\/¬rdy D0 R0 G ys x):∀x r,au R0 x=some r->x∈ys:=by
 have gd:∀x v,Der D0 R0 x v->x∈ys++kn D0:=by
  intro x v d
  induction d with
  |told hk=>exact MN.mpr (.inr ((a.mD _).mpr ⟨_,hk⟩))
  |made hr hG1 hall e ih=>
   rename_i x v r G1;refine MN.mpr (.inl ((h x r hr).resolve_right fun z=>z fun y hy=>?_));have hsub:Sub G1 G:=fun y u q=>vY a.B a.hd a.hs a.hc (hall y u q);have h1:=oE hsub hG1 a.B.n20 (eI (a.B.rg hr).1 a.B.n20);rw[lG e] at h1;obtain⟨d,hd,rfl⟩:=MJ.mp hy;rw[jh hr,←h1] at hd
   rcases si hG1 a.B.n20 (eI (a.B.rg hr).1 a.B.n20) d hd with w|⟨z,u,rfl,hk⟩
   .simp[s0] at w
   .exact ih z u hk
 intro x r hr;refine(h x r hr).resolve_right fun z=>z fun y hy=>?_;obtain⟨d,hd,rfl⟩:=MJ.mp hy;obtain⟨z,v,rfl,hk⟩:=a.reads hr d hd;exact gd z v (a.hs z v hk)
theorem A5(a:Al p n D0 R0 G)(T:Tp):∃ys,ib [.d (bkD D0 R0),.d (.dict G)] T=some (.list (ppr R0 G ys),T)/\ys.Nodup/\∀x,x∈ys↔∃r,au R0 x=some r:=by
 have hx:∀z∈bN (kn R0),∃r,au R0 z=some r:=fun z hz=>(a.mR z).mp ((fZ _).mem_iff.mp hz);have so:=Et a.kR (by rw[gm];have:=a.len;omega);obtain⟨ys,o5,o6,e,nd,hy,hf⟩:=sA a (T:=T) hx 100000 [] none none (by simp) (by simp) (.inl rfl) (by simp);refine⟨ys,?_,nd,fun x=>⟨hy x,fun⟨r,hr⟩=>FX a (fun x r hr=>hf x ((fZ _).mem_iff.mpr ((a.mR x).mpr ⟨r,hr⟩))) x r hr⟩⟩
 have c:=dw (e:=ax gH (ae (aa 1) (ae (aa 2) (ae (aa 0) ai)))) (ρ:=[some (.d (bkD D0 R0)),some (.d (.dict G)),none,none,none,none,none]) (T:=T) (g:=fun d=>lnG R0 G (nm d)) (ds:=nmL (bN (kn R0))) fun d hd=>by
  obtain⟨x,hx',rfl⟩:=MJ.mp hd;obtain⟨r,hr⟩:=hx x hx';have:=Ea a.B a.gv hr T;simp[this,nm]
 have cm:(nmL (bN (kn R0))).map (fun d=>lnG R0 G (nm d))=ppr R0 G (bN (kn R0)):=by
  unfold nmL ppr;rw[NJ];exact Ni fun x _=>rfl
 rw[cm] at c;have i1:ixD (bkD D0 R0) (.int 1)=some (.dict R0):=rfl;rw[za];have e0:ppr R0 G []=[]:=rfl;simp[ρO,e0] at e;simp[i1,so,c,e]
def wn(S:Mo):List Str:=match fK S with
 |some (_,x,_)=>[x]
 |none=>[]
def dps(R0 G:Dc)(x:Str):List Str:=rdN (stG R0 G x)++wn (stG R0 G x).S
theorem BQ{xs:List Str}(y:Str):au (g9 (xs.map fun x=>(x,lnG R0 G x))) y=if y∈xs then some (lnG R0 G y) else none:=by
 induction xs with
 |nil=>rfl
 |cons x xs ih=>
  show (if x=y then some (lnG R0 G x) else au (g9 (xs.map fun x=>(x,lnG R0 G x))) y)=_;rw[ih]
  by_cases h:x=y
  .subst h;simp
  .have:¬y=x:=fun e=>h e.symm
   simp[h,this]
theorem D7(ρ:Rho)(nd:xs.Nodup)(hl:xs.length<=1000)(T:Tp)(hi:aX (aa 0) ρ T=some (ppr R0 G xs,T)) :
  kH (br (aX (aa 0)) bu (aE .tuple (ae (af ixD (aa 0) (fC (.int 0))) (ae (aa 0) ai)))) ρ T=some (.d (.dict (g9 (xs.map fun x=>(x,lnG R0 G x)))),T):=by
 have c:=dw (e:=aE .tuple (ae (af ixD (aa 0) (fC (.int 0))) (ae (aa 0) ai))) (ρ:=ρ) (T:=T) (g:=fun d=>.tuple [.str (dS d),d]) (ds:=ppr R0 G xs) fun d hd=>by
  obtain⟨x,_,rfl⟩:=MJ.mp hd;have i0:ixD (lnG R0 G x) (.int 0)=some (.str x):=rfl;simp[i0];rfl
 have cm:(ppr R0 G xs).map (fun d=>PK [.str (dS d),d])=xs.map fun x=>.tuple [.str x,lnG R0 G x]:=by
  unfold ppr;rw[NJ];exact Ni fun x _=>rfl
 rw[cm] at c
 have pd:gR (xs.map fun x=>PK [.str x,lnG R0 G x])=some (xs.map fun x=>(x,lnG R0 G x)):=by
  clear c cm hi nd hl
  induction xs with
  |nil=>rfl
  |cons x xs ih=>
   rw[M5];unfold gR;rw[ih];rfl
 have ok:qA (xs.map fun x=>(x,lnG R0 G x))=true:=by
  unfold qA;rw[Mx];refine⟨decide_eq_true ?_,decide_eq_true (by simpa using hl)⟩;rw[NJ];have:(xs.map ((fun x:Str×Mo=>x.1) ∘ fun x=>(x,lnG R0 G x)))=xs:=List.map_id xs;rw[this];exact nd
 have cc:br (aX (aa 0)) bu (aE .tuple (ae (af ixD (aa 0) (fC (.int 0))) (ae (aa 0) ai))) ρ T=some (.d (.list (xs.map fun x=>.tuple [.str x,lnG R0 G x])),T):=by
  show bnd (aX (aa 0) ρ T) _=_;rw[hi,gT,c];rfl
 unfold kH;rw[cc,gT];show qt T (gR _)=_;rw[pd];show (if _ then _ else _)=_;rw[if_pos ok]
end
theorem oJ:mF i it c f ρ T=bnd (it ρ T) fun ds T1=>bnd (bz c f ρ ds T1) fun ys T2=>some ((.nx,ρ.set i (some (.loc (.list ys)))),T2):=rfl
section
variable {p:Bool}{n:Nat}{D0 R0 G:Dc}
theorem Bh(a:Al p n D0 R0 G)(hr:au R0 x=some r)(ρ:Rho)(T:Tp):bz bu (af ixD (aa 0) (fC (.int 0))) ρ ((stG R0 G x).rd.map rdS) T=some (nmL (rdN (stG R0 G x)),T):=by
 have:=dw (e:=af ixD (aa 0) (fC (.int 0))) (ρ:=ρ) (T:=T) (g:=fun d=>.str (dS d)) (ds:=(stG R0 G x).rd.map rdS) fun d hd=>by
  obtain⟨d',hd',rfl⟩:=MJ.mp hd;obtain⟨z,v,rfl,_⟩:=a.reads hr d' hd';have i0:ixD (rdS (.tuple [.str z,v])) (.int 0)=some (.str z):=rfl;simp[i0];rfl
 rw[this]
 congr 2
 unfold rdN nmL;rw[NJ,NJ]
 exact Ni fun d hd=>by
  obtain⟨z,v,rfl,_⟩:=a.reads hr d hd;rfl
theorem uZ(a:Al p n D0 R0 G)(hr:au R0 x=some r):(dps R0 G x).length<=13:=by
 have h:=(a.ok hr).1;have h1:=h.rd;have h2:=h.le
 have h3:(wn (stG R0 G x).S).length<=1:=by
  unfold wn
  split <;> simp
 unfold dps rdN;rw[Na,Nd];omega
def ρE(P x0:Mo)(L:Dc)(F:List Str)(k:Nat)(o5 o6:Option D.W):Rho:=[some (.d P),some (.d x0),some (.d (.dict L)),some (.d (.list (nmL F))),some (.d (.int (k:Int))),o5,o6]
def news(F:List Str)(ds:List Str):List Str:=ds.filter fun z=>!decide (z∈F)
theorem Ap(hc:∀z:Str,c (some (.d (.str z))::ρ) T=some (!decide (z∈F),T)):bz c (aa 0) ρ (nmL ds) T=some (nmL (news F ds),T):=by
 have:=fV (c:=c) (ρ:=ρ) (T:=T) (p:=fun d=>!decide (nm d∈F)) (ds:=nmL ds) fun d hd=>by
  obtain⟨z,_,rfl⟩:=MJ.mp hd;exact hc z
 rw[this]
 congr 2
 unfold nmL news;rw[QL];rfl
theorem Aq:fu (aX (aa 6)) (ar (af bL (aa 0) (aa 4))) (aa 0) (ρE P x0 L F k (some (.d x5)) (some (.loc (.list (nmL ds))))) T=some (.d (.list (nmL (news F ds))),T):=by
 have nd:qC (ρE P x0 L F k (some (.d x5)) (some (.loc (.list (nmL ds)))))=true:=rfl;have it:aX (aa 6) (bW (ρE P x0 L F k (some (.d x5)) (some (.loc (.list (nmL ds)))))) []=some (nmL ds,[]):=rfl
 have c:bz (ar (af bL (aa 0) (aa 4))) (aa 0) (bW (ρE P x0 L F k (some (.d x5)) (some (.loc (.list (nmL ds)))))) (nmL ds) []=some (nmL (news F ds),[]):=Ap fun z=>by
  have:=jK F z;simp[ρE,this]
 unfold fu;rw[if_pos nd,it,gT,c];show (if (nmL (news F ds)).all cz=true then _ else _)=_;rw[if_pos (uP _)]
theorem xH{F:List Str}{k:Nat}{x:Str}(h:F[k]? = some x):atI (nmL F) (k:Int)=some (.str x):=by
 refine pF ?_;unfold nmL;rw[Nq,h];rfl
theorem Av(a:Al p n D0 R0 G){xs F:List Str}(hL:∀y,au L y=if y∈xs then some (lnG R0 G y) else none)(hk:F[k]? = some x)(hx:x∈xs)(hr:au R0 x=some r)(hl:F.length<=900) :
  ∃o5' o6',gE (ρE P x0 L F k o5 o6) T=some ((.nx,ρE P x0 L (F++news F (dps R0 G x)) (k+1) o5' o6'),T):=by
 have at':=xH hk
 have kl:au L x=some (lnG R0 G x):=by rw[hL,if_pos hx]
 have rn:=Bh a hr (ρE P x0 L F k (some (.d (lnG R0 G x))) o6) T;have i1:ixD (lnG R0 G x) (.int 1)=some (.tuple ((stG R0 G x).rd.map rdS)):=rfl;have i2:ixD (lnG R0 G x) (.int 2)=some (cW (stG R0 G x).S):=rfl;have nn:=Aq (P:=P) (x0:=x0) (L:=L) (F:=F) (ds:=dps R0 G x) (k:=k) (x5:=lnG R0 G x) (T:=T);have dl:=uZ a hr;have nl:(news F (dps R0 G x)).length<=13:=MP (OI _ _) dl;have l1:(nmL F).length+(nmL (news F (dps R0 G x))).length<=sizeLine:=dy (by simp only[nmL,Nd];omega)
 have l2:(nmL (rdN (stG R0 G x))).length<sizeLine:=NK (show _<=13 by
  unfold dps at dl;rw[Na] at dl;simp only[nmL,Nd]
  omega) (by decide:13<Mz)
 have ap:=o7 F (news F (dps R0 G x))
 have ck:((k+1:Nat):Int)=(k:Int)+1:=by omega
 refine⟨some (.d (lnG R0 G x)),some (.loc (.list (nmL (dps R0 G x)))),?_⟩;simp[ρE] at rn nn
 rcases fY (a.ok hr).1.st with⟨v,e,hv⟩|⟨w,e,hw⟩|⟨b,y,r',e,hy⟩
 .have dd:dps R0 G x=rdN (stG R0 G x):=by simp[dps,wn,e]
  rw[e,jf] at i2;rw[dd] at nn l1 ap ⊢;simp[gE,ρE,at',kl,oJ,i1,rn,i2,nn,l1,ap,ck]
 .have dd:dps R0 G x=rdN (stG R0 G x):=by simp[dps,wn,e]
  rw[e,jT] at i2;have j0:ixD (flT w) (.int 0)=some (.str "fails"):=rfl;rw[dd] at nn l1 ap ⊢;simp[gE,ρE,at',kl,oJ,i1,rn,i2,j0,nn,l1,ap,ck]
 .have dd:nmL (rdN (stG R0 G x))++[.str y]=nmL (dps R0 G x):=by simp[dps,wn,e,nmL]
  rw[e,jU] at i2;have j0:ixD (cu "wants" (.str y)) (.int 0)=some (.str "wants"):=rfl;have j1:ixD (cu "wants" (.str y)) (.int 1)=some (.str y):=rfl;simp[gE,ρE,at',kl,oJ,i1,rn,i2,j0,j1,l2,dd,nn,l1,ap,ck]
theorem Aw{P x0:Mo}{L:Dc}{xs F:List Str}{k:Nat}{o5 o6:Option D.W}{T:Tp}{x:Str}(hL:∀y,au L y=if y∈xs then some (lnG R0 G y) else none)(hk:F[k]? = some x)(hx:x∉xs) :
  gE (ρE P x0 L F k o5 o6) T=some ((.nx,ρE P x0 L F (k+1) o5 o6),T):=by
 have at':=xH hk
 have kl:au L x=none:=by rw[hL,if_neg hx]
 have ck:((k+1:Nat):Int)=(k:Int)+1:=by omega
 simp[gE,ρE,at',kl,ck]
def lnC:FT:=(ar (af ltD (aa 4) (fCB aY (ae (aa 3) ai))))
def un(xs Q:List Str):Nat:=xs.countP fun x=>decide (x∉Q)
theorem take_one{F:List Str}(h:F[k]? = some x):F.take (k+1)=F.take k++[x]:=by
 rw[Rk,h];rfl
theorem Gb:un xs (Q++[x])<=un xs Q:=countP_le fun q _ hq=>by
 simp at hq ⊢;exact hq.1
theorem Ga(hx:x∈xs)(h:x∉Q):un xs (Q++[x])<un xs Q:=lB (a:=x) (fun q _ hq=>by
 simp at hq ⊢
 exact hq.1) hx (by simp[h]) (by simp)
theorem nM(a:Al p n D0 R0 G)(hL:∀y,au L y=if y∈xs then some (lnG R0 G y) else none)(hxs:∀x∈xs,∃r,au R0 x=some r)(hl:xs.length<=40) :
  ∀(m k:Nat) (F:List Str) (o5 o6:Option D.W),800<m+k->k<=F.length->(∀y∈F.take k,y∈xs->∀z∈dps R0 G y,z∈F)->F.length+13*un xs (F.take k)<=1+13*xs.length ->
  ∃F' k' o5' o6',bo lnC gE m (ρE P x0 L F k o5 o6) T=some ((.nx,ρE P x0 L F' k' o5' o6'),T)/\∀y∈F',y∈xs->∀z∈dps R0 G y,z∈F'
 |0,k,F,o5,o6,hm,hk,_,hb=>by omega
 |m+1,k,F,o5,o6,hm,hk,hp,hb=>by
  by_cases hlt:k<F.length
  .have hx:F[k]? = some F[k]:=NB hlt
   generalize F[k]=x at hx
   have hc:lnC (ρE P x0 L F k o5 o6) T=some (true,T):=by
    have:(k:Int)<((nmL F).length:Int):=by simp only[nmL,Nd];omega
    simp only[nmL,Nd] at this;simp[lnC,ρE,nmL,hlt]
   have t1:=take_one hx;have ul:=Gb (xs:=xs) (Q:=F.take k) (x:=x)
   by_cases hin:x∈xs
   .obtain⟨r,hr⟩:=hxs x hin
    obtain⟨p5,p6,e⟩:=Av a (P:=P) (x0:=x0) (o5:=o5) (o6:=o6) (T:=T) hL hx hin hr (by omega);rw[iD hc e];have dl:=uZ a hr;have nl:(news F (dps R0 G x)).length<=13:=MP (OI _ _) dl
    have tk:(F++news F (dps R0 G x)).take (k+1)=F.take k++[x]:=by rw[List.take_append_of_le_length (by omega),t1]
    refine nM a hL hxs hl m (k+1) _ p5 p6 (by omega) (by simp;omega) (fun y hy hyx z hz=>?_) ?_
    .rw[tk] at hy
     rcases MN.mp hy with w|w
     .exact MN.mpr (.inl (hp y w hyx z hz))
     .rw[MR.mp w] at hz
      by_cases hzF:z∈F
      .exact MN.mpr (.inl hzF)
      .exact MN.mpr (.inr (Nx.mpr ⟨hz,by simp[hzF]⟩))
    .rw[tk,Na]
     by_cases hq:x∈F.take k
     .have:news F (dps R0 G x)=[]:=List.filter_eq_nil_iff.mpr fun z hz=>by
       have:=hp x hq hin z hz;simp[this]
      rw[this];simp only[OM];omega
     .have:=Ga (Q:=F.take k) hin hq
      omega
   .rw[iD hc (Aw hL hx hin)]
    refine nM a hL hxs hl m (k+1) F o5 o6 (by omega) hlt (fun y hy hyx z hz=>?_) (by rw[t1];omega);rw[t1] at hy
    rcases MN.mp hy with w|w
    .exact hp y w hyx z hz
    .rw[MR.mp w] at hyx
     exact absurd hyx hin
  .have hc:lnC (ρE P x0 L F k o5 o6) T=some (false,T):=by
    simp[lnC,ρE,nmL,hlt]
   rw[ja hc];refine⟨F,k,o5,o6,rfl,fun y hy=>hp y ?_⟩;rw[Nz (by omega)];exact hy
theorem A6(a:Al p n D0 R0 G)(nd:xs.Nodup)(hxs:∀x,x∈xs↔∃r,au R0 x=some r)(x0:Str)(T:Tp):∃zs,ic [.d (.list (ppr R0 G xs)),.d (.str x0)] T=some (.list (ppr R0 G zs),T)/\Cl R0 G zs:=by
 have hl:=a.small nd fun y hy=>(hxs y).mp hy;have pr:=D7 (R0:=R0) (G:=G) [some (.d (.list (ppr R0 G xs))),some (.d (.str x0)),none,none,none,none,none] nd (by omega) T rfl;have un1:un xs []<=xs.length:=Qs;obtain⟨F,k,o5,o6,e,hF⟩:=nM a (P:=.list (ppr R0 G xs)) (x0:=.str x0) (T:=T) (xs:=xs) (fun y=>BQ y) (fun x hx=>(hxs x).mp hx) hl 100000 0 [x0] none none (by omega) (by simp) (by simp) (by simp;omega);refine⟨xs.filter fun x=>decide (x∈F),?_,⟨?_,fun x hx=>(hxs x).mp (Nx.mp hx).1,fun x hx b y r' r2 hS hr2=>?_⟩⟩
 .have c:=fun q:Rho=>fV (c:=ar (af inD (af ixD (aa 0) (fC (.int 0))) (aa 4))) (ρ:=some (.d (.list (ppr R0 G xs)))::some (.d (.str x0))::some (.d (.dict (g9 (xs.map fun x=>(x,lnG R0 G x)))))::some (.d (.list (nmL F)))::q) (T:=T) (p:=fun d=>decide (dS d∈F)) (ds:=ppr R0 G xs) fun d hd=>by
   obtain⟨x,_,rfl⟩:=MJ.mp hd;have i0:ixD (lnG R0 G x) (.int 0)=some (.str x):=rfl;have:=zU F x;simp[i0,this];rfl
  have cm:(ppr R0 G xs).filter (fun d=>decide (dS d∈F))=ppr R0 G (xs.filter fun x=>decide (x∈F)):=by
   unfold ppr;rw[QL];rfl
  rw[cm] at c;rw[zb];have cC:(ar (af ltD (aa 4) (fCB aY (ae (aa 3) ai))))=lnC:=rfl;rw[cC];have pr':=pr;simp[ρE,nmL] at e c;simp[pr',e,c]
 .exact MP (OI _ _) (by omega)
 .obtain⟨h1,h2⟩:=Nx.mp hx
  refine Nx.mpr ⟨(hxs y).mpr ⟨r2,hr2⟩,decide_eq_true (hF x (of_decide_eq_true h2) h1 y ?_)⟩;unfold dps wn;rw[hS,qe];simp
end
theorem uG(b:Bool)(k:Nat)(T:Tp):bO (k+1) [.d (.bool b),.d (.bool b)] T=some (.bool true,T):=by
 have k1:a8 .bl .dct=false:=rfl;have k2:a8 .bl .bl=true:=rfl
 cases b <;> simp[bO,g6,fM,isNone,k1,k2]
theorem Bf(a1:bO k [.d (.bool true),.d (.bool true)] T=some (.bool true,T))(a2:bO k [.d (.bool false),.d (.bool false)] T=some (.bool true,T))(a3:bO k [.d (.str x),.d (.str x)] T=some (.bool true,T)) :
  bO (k+1) [.d (.list [.bool true,.bool false,.str x]),.d (.list [.bool true,.bool false,.str x])] T=some (.bool true,T):=by
 have hr:=i6 (j:=3) (by omega) (by omega);have nn:bT 0 3=[.int 0,.int 1,.int 2]:=rfl
 have c:bz bu (ax (bO k) (ae (af ixA (aa 1) (aa 0)) (ae (af ixA (aa 2) (aa 0)) ai))) [some (.d (.list [.bool true,.bool false,.str x])),some (.d (.list [.bool true,.bool false,.str x]))] (bT 0 3) T=some ((bT 0 3).map fun _=>.bool true,T):=dw fun d hd=>by
  rw[nn] at hd;simp at hd;have b0:ixA (.list [.bool true,.bool false,.str x]) (.int 0)=some (.bool true):=rfl;have b1:ixA (.list [.bool true,.bool false,.str x]) (.int 1)=some (.bool false):=rfl;have b2:ixA (.list [.bool true,.bool false,.str x]) (.int 2)=some (.str x):=rfl
  rcases hd with rfl|rfl|rfl
  .simp[b0,a1]
  .simp[b1,a2]
  .simp[b2,a3]
 have al:=pI (bT 0 3);have k1:a8 .lst .tup=false:=rfl;have k2:a8 .lst .lst=true:=rfl;simp[bO,g6,fM,hr,c,al,k1,k2]
theorem CL(x:Str)(T:Tp):bO 25 [.d (.list [.bool true,.bool false,.str x]),.d (.list [.bool true,.bool false,.str x])] T=some (.bool true,T):=Bf (k:=24) (uG true 23 T) (uG false 23 T) (v8 (SV.str (n:=0) (x:=x)) 24 T (by decide))
theorem Do(h:isName (.str x)=true):x.length<=8/\∀c∈x.cps.toList,c<16^8:=by
 have h':(decide (1<=x.length)&&decide (x.length<=8)&&has LET x)=true:=h;rw[Mx,Mx] at h';exact⟨of_decide_eq_true h'.1.2,fun c hc=>QQ (K1.gS K1.wb h'.2 c hc) (by decide)⟩
theorem CK(h:l.length<64):kq [.list (nmL l)]=some (.list (nmL (bN l))):=by
 have e:c7 (nmL l)=some l:=by
  have:=li (fun x:Str=>x) l;simpa[nmL] using this
 show iM (c7 (nmL l))=_;rw[e];show (if l.length<64 then _ else _)=_;rw[if_pos h];rfl
section
variable {p:Bool}{n:Nat}{D0 R0 G:Dc}
theorem A0(hl:xs.length<=900)(hx:x∉xs)(hz:x.length<=1000)(hc:∀c∈x.cps.toList,c<16^8)(T:Tp):gD [.d (.list (ppr R0 G xs)),.d (.str x)] T=some (.list [.bool true,.bool false,.str x],T):=by
 obtain⟨L,e,hL⟩:=uw (R0:=R0) (G:=G) (xs:=xs) hl T
 have hk:au L x=none:=by rw[hL,if_neg hx]
 have hl:(QD x).length+1000<=sizeLine:=by
  have:=StrLaws.reprText_len x hc
  have z:Mz=16777216:=by decide
  omega
 simp[gD,k8,q8,qY,dO,e,hk,hl]
def ρT(D0 R0 G:Dc)(P K:Mo)(zs:List Str)(o:Option D.W):Rho:=[some (.d (bkD D0 R0)),some (.d (.dict G)),some (.d P),some (.d K),some (.d (.list (nmL zs))),o]
theorem vy(a:Al p n D0 R0 G){zs:List Str}(cl:Cl R0 G zs){K:Mo}{ws:List Str}{T:Tp}:∀(ys:List Str) (o:Option D.W),(∀y∈ys,y∈zs)->∃o',forL 5 lh (nmL ys) (ρT D0 R0 G (.list (ppr R0 G zs)) K ws o) T=some ((.nx,ρT D0 R0 G (.list (ppr R0 G zs)) K ws o'),T)
 |[],o,_=>⟨o,rfl⟩
 |y::ys,o,h=>by
  obtain⟨V,e1,e2,e3⟩:=Be a.B a.hd a.hs a.hc cl (h y Mq) T;have e3:=v8 e3 25 T (by decide);obtain⟨o',e⟩:=vy a cl (K:=K) (ws:=ws) (T:=T) ys (some (.d (.str y))) fun z hz=>h z (Mr _ hz);refine⟨o',?_⟩
  have st:lh (Sw (ρT D0 R0 G (.list (ppr R0 G zs)) K ws o) 5 (some (.d (.str y)))) T=some ((.nx,ρT D0 R0 G (.list (ppr R0 G zs)) K ws (some (.d (.str y)))),T):=by
   simp[lh,ρT,e1,e2,e3]
  exact(gO st).trans e
theorem vx{zs:List Str}(hl:zs.length<=900){K:Mo}{T:Tp}:∀(ys:List Str) (o:Option D.W),(∀y∈ys,y.length<=1000/\∀c∈y.cps.toList,c<16^8)->∃o',forL 5 jM (nmL ys) (ρT D0 R0 G (.list (ppr R0 G zs)) K zs o) T=some ((.nx,ρT D0 R0 G (.list (ppr R0 G zs)) K zs o'),T)
 |[],o,_=>⟨o,rfl⟩
 |y::ys,o,h=>by
  obtain⟨h1,h2⟩:=h y Mq;obtain⟨o',e⟩:=vx hl (K:=K) (T:=T) ys (some (.d (.str y))) fun z hz=>h z (Mr _ hz);refine⟨o',?_⟩;have ni:=jK zs y
  have st:jM (Sw (ρT D0 R0 G (.list (ppr R0 G zs)) K zs o) 5 (some (.d (.str y)))) T=some ((.nx,ρT D0 R0 G (.list (ppr R0 G zs)) K zs (some (.d (.str y)))),T):=by
   by_cases hy:y∈zs
   .simp[jM,ρT,ni,hy]
   .have e1:=A0 (R0:=R0) (G:=G) hl hy h1 h2 T
    have e3:=CL y T;simp[jM,ρT,ni,hy,e1,e3]
  exact(gO st).trans e
theorem pL(a:Al p n D0 R0 G)(cl:Cl R0 G zs)(T:Tp):et [.d (bkD D0 R0),.d (.dict G),.d (.list (ppr R0 G zs))] T=some (.bool true,T):=by
 have hl:=cl.len;have len:=a.len;have bl:=i9;obtain⟨o1,f1⟩:=vy a cl (K:=.list (ppr R0 G zs)) (ws:=zs) (T:=T) zs none fun y hy=>hy;have so:=CK (l:=kn D0++kn R0) (by rw[Na,gm,gm];omega)
 have sl:(bN (kn D0++kn R0)).length=D0.length+R0.length:=by rw[(fZ _).length_eq,Na,gm,gm]
 have hN:∀y∈bN (kn D0++kn R0),isName (.str y)=true:=fun y hy=>by
  rcases MN.mp ((fZ _).mem_iff.mp hy) with z|z
  .obtain⟨v,hv⟩:=(a.mD y).mp z
   exact a.nD y v hv
  .obtain⟨v,hv⟩:=(a.mR y).mp z
   exact a.nR y v hv
 obtain⟨o2,f2⟩:=vx (D0:=D0) (R0:=R0) (G:=G) (zs:=zs) (by omega) (K:=.list (ppr R0 G zs)) (T:=T) (bN (kn D0++kn R0)++[Mv "zzzzzzzz",Mv ""]) o1 fun y hy=>by
  rcases MN.mp hy with z|z
  .obtain⟨n1,n2⟩:=Do (hN y z)
   exact⟨MP n1 (by decide),n2⟩
  .simp at z
   rcases z with rfl|rfl
   .exact⟨by decide +kernel,by decide +kernel⟩
   .exact⟨by decide +kernel,by decide +kernel⟩
 have pn:=fun ρ=>su (R0:=R0) (G:=G) (ys:=zs) ρ T
 have eq:=Ep (n:=3) (l:=ppr R0 G zs) (fun d hd=>by
  obtain⟨y,hy,rfl⟩:=MJ.mp hd;obtain⟨r,hr⟩:=cl.mem y hy
  exact(a.st hr).1) (by decide)
 have i0:ixD (bkD D0 R0) (.int 0)=some (.dict D0):=rfl;have i1:ixD (bkD D0 R0) (.int 1)=some (.dict R0):=rfl
 have lk:∀{ds:Dc}{l},d9 ds=nmL l->fE [.dict ds]=some (.list (nmL l)):=fun h=>by rw[←h];rfl
 have l1:(nmL (kn D0)).length+(nmL (kn R0)).length<=sizeLine:=by rw[eB,eB,gm,gm];omega
 have l2:(nmL (bN (kn D0++kn R0))).length+2<=sizeLine:=by rw[eB];omega
 have ap:nmL (bN (kn D0++kn R0))++[.str "zzzzzzzz",.str ""]=nmL (bN (kn D0++kn R0)++[Mv "zzzzzzzz",Mv ""]):=by simp[nmL]
 rw[zT];simp only[ρT] at f1 f2;simp[pn,f1,i0,i1,lk a.kD,lk a.kR,l1,o7,so,l2,ap,f2,eq]
theorem Al.of(b:BkP p n S D0 R0)(hn:n<=20)(hS:S.length<=40)(hY:∀y∈S,isName (.str y)=true)(hd:Sub D0 G)(hs:Snd D0 R0 G)(hc:∀x,ClsAt R0 G x):Al p n D0 R0 G:=by
 have keys:∀{ds:Dc},(∀q∈ds,∃x v,q=(Nk x,v)/\au ds x=some v)->d9 ds=nmL (kn ds)/\∀x,x∈kn ds↔∃v,au ds x=some v:=fun {ds} h=>by
  constructor
  .unfold d9 nmL kn
   rw[NJ]
   exact Ni fun q hq=>by
    obtain⟨x,v,rfl,_⟩:=h q hq;rfl
  .intro x
   constructor
   .intro hx
    obtain⟨q,hq,rfl⟩:=MJ.mp hx;obtain⟨x,v,rfl,hk⟩:=h q hq;exact⟨v,hk⟩
   .rintro⟨v,hk⟩
    exact MJ.mpr ⟨_,ff hk,rfl⟩
 have kD:=keys (ds:=D0) fun q hq=>by
  obtain⟨x,v,e,_,h,_⟩:=b.dk q hq;exact⟨x,v,e,h⟩
 have kR:=keys (ds:=R0) fun q hq=>by
  obtain⟨x,v,e,_,h,_⟩:=b.rk q hq;exact⟨x,v,e,h⟩
 refine⟨b.bk hn (by omega),hd,hs,hc,fun x v h=>?_,fun x v h=>?_,kD.1,kR.1,kD.2,kR.2,by rw[b.len];exact hS⟩
 .obtain⟨y,_,e,_,_,hy⟩:=b.dk _ (ff h)
  cases e;exact hY _ hy
 .obtain⟨y,_,e,_,_,_,hy⟩:=b.rk _ (ff h)
  cases e;exact hY _ hy
def qL(R0 G:Dc)(x:Str):Str:=dS (cW (stG R0 G x).S)
def isM(R0 G:Dc)(x:Str):Bool:=decide (qL R0 G x=Mv "made")
theorem ue(a:Al p n D0 R0 G)(hr:au R0 x=some r):ixD (cW (stG R0 G x).S) (.int 0)=some (.str (qL R0 G x)):=by
 unfold qL
 rcases fY (a.ok hr).1.st with⟨v,e,hv⟩|⟨w,e,hw⟩|⟨b,y,r',e,hy⟩
 .rw[e,jf];rfl
 .rw[e,jT];rfl
 .rw[e,jU];rfl
theorem Co(a:Al p n D0 R0 G)(hy:∀y∈ys,∃r,au R0 y=some r)(ρ:Rho)(T:Tp):bz (ar (af neD (af ixD (af ixD (aa 0) (fC (.int 2))) (fC (.int 0))) (fC (.str "made")))) (aa 0) ρ (ppr R0 G ys) T=some (ppr R0 G (ys.filter fun x=>!isM R0 G x),T):=by
 have:=fV (c:=ar (af neD (af ixD (af ixD (aa 0) (fC (.int 2))) (fC (.int 0))) (fC (.str "made")))) (ρ:=ρ) (T:=T) (p:=fun d=>!isM R0 G (dS d)) (ds:=ppr R0 G ys) fun d hd=>by
  obtain⟨x,hx,rfl⟩:=MJ.mp hd;obtain⟨r,hr⟩:=hy x hx;have i2:ixD (lnG R0 G x) (.int 2)=some (cW (stG R0 G x).S):=rfl;have i0:dS (lnG R0 G x)=x:=rfl;simp[i2,ue a hr,i0,isM]
 rw[this];unfold ppr;rw[QL];rfl
theorem Au(a:Al p n D0 R0 G)(hy:∀y∈ys,∃r,au R0 y=some r)(ρ:Rho)(T:Tp):bz (ar (af eqD (af ixD (af ixD (aa 0) (fC (.int 2))) (fC (.int 0))) (fC (.str "made")))) (aa 0) ρ (ppr R0 G ys) T=some (ppr R0 G (ys.filter fun x=>isM R0 G x),T):=by
 have:=fV (c:=ar (af eqD (af ixD (af ixD (aa 0) (fC (.int 2))) (fC (.int 0))) (fC (.str "made")))) (ρ:=ρ) (T:=T) (p:=fun d=>isM R0 G (dS d)) (ds:=ppr R0 G ys) fun d hd=>by
  obtain⟨x,hx,rfl⟩:=MJ.mp hd;obtain⟨r,hr⟩:=hy x hx;have i2:ixD (lnG R0 G x) (.int 2)=some (cW (stG R0 G x).S):=rfl;have i0:dS (lnG R0 G x)=x:=rfl;simp[i2,ue a hr,i0,isM]
 rw[this];unfold ppr;rw[QL];rfl
def ρX(s:Mo)(D0 R0 G:Dc)(P d4 d5:Mo)(o:Option D.W):Rho:=[some (.d s),some (.d (bkD D0 R0)),some (.d (.dict G)),some (.d P),some (.d d4),some (.d d5),o]
theorem uR(a:Al p n D0 R0 G)(nd:xs.Nodup)(hxs:∀x,x∈xs↔∃r,au R0 x=some r):∀(ys:List Str) (o:Option D.W),∃o',forL 6 lN (ppr R0 G ys) (ρX s D0 R0 G (.list (ppr R0 G xs)) d4 d5 o) T=some ((.nx,ρX s D0 R0 G (.list (ppr R0 G xs)) d4 d5 o'),T)
 |[],o=>⟨o,rfl⟩
 |y::ys,o=>by
  obtain⟨zs,e1,cl⟩:=A6 a nd hxs y T;have e2:=pL a cl T;obtain⟨o',e⟩:=uR a nd hxs (s:=s) (d4:=d4) (d5:=d5) (T:=T) ys (some (.d (lnG R0 G y)));refine⟨o',?_⟩;have i0:ixD (lnG R0 G y) (.int 0)=some (.str y):=rfl
  have st:lN (Sw (ρX s D0 R0 G (.list (ppr R0 G xs)) d4 d5 o) 6 (some (.d (lnG R0 G y)))) T=some ((.nx,ρX s D0 R0 G (.list (ppr R0 G xs)) d4 d5 (some (.d (lnG R0 G y)))),T):=by
   simp[lN,ρX,i0,e1,e2]
  exact(gO st).trans e
end
theorem BK:∀ns:List Int,ns.length<=63->∃T',mP [.d (d8 ns)] []=some (.bool true,T'):=by
 intro ns _;obtain⟨c,ec⟩:=qh (ns:=ns) (k:=0) (T:=[]) (by omega);obtain⟨D0,R0,S,eb,b,hS,hY⟩:=F3 ns false;have B:=b.bk (by decide) (by omega);obtain⟨G,eg,s2,d2,c2⟩:=Eb B [];have a:Al false 6 D0 R0 G:=Al.of b (by decide) (by omega) (fun y hy=>(hY y hy).1) d2 s2 c2;obtain⟨ys,eo,nd,hys⟩:=A5 a [];have hm:=fun y hy=>(hys y).mp hy;have bc:=fun ρ=>Co a hm ρ [];have mc:=fun ρ=>Au a hm ρ [];have yl:=a.small nd hm;generalize hM:ys.filter (fun x=>isM R0 G x)=M at mc;generalize hK:ys.filter (fun x=>!isM R0 G x)=K at bc
 have ml:M.length<=40:=by rw[←hM];exact MP (OI _ _) yl
 have kl:K.length<=40:=by rw[←hK];exact MP (OI _ _) yl
 have hp:(0:Int)<((ppr R0 G K).length:Int)+1:=by omega
 obtain⟨t,ht,tl⟩:∃t:Nat,c % (((ppr R0 G K).length:Int)+1)=(t:Int)/\t<=K.length:=by
  have h0:=PY c (show ((ppr R0 G K).length:Int)+1≠0 by omega);have h1:=Pi c hp;refine⟨(c % (((ppr R0 G K).length:Int)+1)).toNat,by omega,?_⟩
  have:(ppr R0 G K).length=K.length:=by simp[ppr]
  omega
 have bl:=i9
 have pl:∀l,(ppr R0 G l).length=l.length:=fun l=>by simp[ppr]
 have cd1:cS (ppr R0 G K) (some (t:Int)) none=ppr R0 G (K.drop t):=by rw[uk];simp[ppr]
 have cd2:cS (ppr R0 G K) none (some (t:Int))=ppr R0 G (K.take t):=by rw[qb];simp[ppr]
 have ap:∀l m,ppr R0 G l++ppr R0 G m=ppr R0 G (l++m):=fun l m=>by simp[ppr]
 have q1:(ppr R0 G M).length+(ppr R0 G (K.drop t)).length<=sizeLine:=by
  rw[pl,pl,NG];omega
 have q2:(ppr R0 G (M++K.drop t)).length+(ppr R0 G (K.take t)).length<=sizeLine:=by
  rw[pl,pl,Na,NG,O0];omega
 have pm:ys.Perm (M++K.drop t++K.take t):=by
  have h1:ys.Perm (M++K):=by rw[←hM,←hK];exact(List.filter_append_perm _ _).symm
  refine h1.trans ?_;rw[OP];refine List.Perm.append_left M ?_;have:=List.take_append_drop t K;exact(by rw[this]:K.Perm (K.take t++K.drop t)).trans List.perm_append_comm
 generalize hX:M++K.drop t++K.take t=X at pm;have ndX:X.Nodup:=pm.nodup_iff.mp nd
 have hX':∀x,x∈X↔∃r,au R0 x=some r:=fun x=>by rw[←pm.mem_iff];exact hys x
 have cl:Cl R0 G X:=⟨by have:=a.small ndX (fun y hy=>(hX' y).mp hy);omega,fun x hx=>(hX' x).mp hx,fun x _ b y r' r2 _ h2=>(hX' y).mpr ⟨r2,h2⟩⟩;have cl0:Cl R0 G []:=⟨by simp,by simp,by simp⟩;have e1:=pL a cl [];have e2:=pL a cl0 [];have p0:ppr R0 G []=[]:=rfl;rw[p0] at e2;obtain⟨o,f⟩:=uR a ndX hX' (s:=d8 ns) (d4:=.list (ppr R0 G K)) (d5:=.int (t:Int)) (T:=[]) X none;refine⟨[],?_⟩;rw[By];simp only[ρX] at f;simp[eb,eg,eo,bc,ec,hp,ht,mc,cd1,cd2,ap,q1,q2,-OP,hX,e1,e2,f]
def top(i:Nat):Stmt:=PySem.Challenge.pw_redo_k29_what_a_paper_tells.main.body.getD i (.Pass ⟨0,0,0,0⟩)
def jD(i j:Nat):Stmt:=match top i with
 |.ClassDef _ _ _ b _ _ _ _ _ _ _=>b.getD j (.Pass ⟨0,0,0,0⟩)
 |s=>s
structure Bi(K:Frag)(mg:Str->Option Mp):Prop where
 b_ValueError:mg "ValueError"=none
 b_abs:mg "abs"=none
 b_all:mg "all"=none
 b_bool:mg "bool"=none
 b_dict:mg "dict"=none
 b_int:mg "int"=none
 b_isinstance:mg "isinstance"=none
 b_len:mg "len"=none
 b_list:mg "list"=none
 b_range:mg "range"=none
 b_repr:mg "repr"=none
 b_sorted:mg "sorted"=none
 b_str:mg "str"=none
 b_sum:mg "sum"=none
 b_tuple:mg "tuple"=none
 c_FIGURES:∃t,mg "FIGURES"=some (.str "0123456789" t)
 c_MOST_FIGURES:∃t,mg "MOST_FIGURES"=some (.int 19 t)
 c_MOST_PARTS:∃t,mg "MOST_PARTS"=some (.int 8 t)
 c_MOST_ROWS:∃t,mg "MOST_ROWS"=some (.int 4 t)
 c_MOST_SIGNS:∃t,mg "MOST_SIGNS"=some (.int 20 t)
 c_MOST_VALUES:∃t,mg "MOST_VALUES"=some (.int 40 t)
 c_TEXT_SIGNS:∃t,mg "TEXT_SIGNS"=some (.str "abcdefghijklmnopqrstuvwxyz0123456789-" t)
 xc:∃C R A1 A2 A3 A4,XE.XB K C R "name" [A1,A2,A3,A4]/\mg "NoLine"=some (.ref C)/\mg "RedoError"=some (.ref R)/\mg "BadLine"=some (.ref A1)/\mg "NoName"=some (.ref A2)/\mg "NoThing"=some (.ref A3)/\mg "NotMade"=some (.ref A4)/\DfM K C "__init__" "NoLine.__init__" (jD 4 0)
 xl:∃f fd,Fun K "result_by" "result_by" (top 34) f fd/\mg "result_by"=some (.ref f)
theorem zg:FnScope ["thing"] ["thing"] (aN (top 13)):=⟨rfl,rfl,rfl,by decide +kernel,rfl,by decide +kernel,by decide +kernel⟩
theorem zo{P:MA}{w:ML}{K:Frag}{mg:Str->Option Mp}{base:Heap}{f:Addr}{fd:MS}(B:Bi K mg)(F:Fun K "is_whole" "is_whole" (top 13) f fd)  : FnOk P w K mg base CX0 1 f fd ["thing"] (spM K 1 (i5)):=dfn F zg fun cdv A outer s H E hr=>(az (aI (dm (bq .int B.b_isinstance (ag 0) B.b_int Oz) (dz (qa (bq .bl B.b_isinstance (ag 0) B.b_bool RE))))))
theorem zj:FnScope ["text","signs"] ["text","signs"] (aN (top 14)):=⟨rfl,rfl,rfl,by decide +kernel,rfl,by decide +kernel,by decide +kernel⟩
theorem zr{P:MA}{w:ML}{K:Frag}{mg:Str->Option Mp}{base:Heap}{f:Addr}{fd:MS}(B:Bi K mg)(F:Fun K "has_only" "has_only" (top 14) f fd)  : FnOk P w K mg base CX0 1 f fd ["text","signs"] (spM K 2 (eX)):=dfn F zj fun cdv A outer s H E hr=>(az (aI (bh mY rfl B.b_all UM (ah (cD (osc:=aN (top 14)) (N:=["text","signs"]) (N':=["text","signs"]) (x:="sign") ⟨rfl,by decide +kernel,by decide +kernel,rfl,by decide +kernel,by decide +kernel,by decide +kernel,by decide +kernel,rfl,by decide +kernel⟩ (bI (ag 0)) (fun C s0 H0 ex=>(bM qB (ag 0) (ag 2))) (fun C s0 H0 ex=>de)) aj))))
theorem yL:FnScope ["thing"] ["thing"] (aN (top 15)):=⟨rfl,rfl,rfl,by decide +kernel,rfl,by decide +kernel,by decide +kernel⟩
theorem yV{P:MA}{w:ML}{K:Frag}{mg:Str->Option Mp}{base:Heap}{f:Addr}{fd:MS}(B:Bi K mg)(F:Fun K "is_single" "is_single" (top 15) f fd)(Qbn:Fn P w K mg base "is_whole" ["thing"] 1 (spM K 1 i5))(Qam:Fn P w K mg base "has_only" ["text","signs"] 1 (spM K 2 eX)):FnOk P w K mg base CX0 2 f fd ["thing"] (spM K 1 (ik)):=dfn F yL fun cdv A outer s H E hr=>(av (aS (a9 (aM Qbn (hr.mono (by omega)) rfl (ah (ag 0) aj) (aq aL))) (az (aI (bM iT (bh w4 rfl B.b_abs boot_abs (ah (ag 0) aj)) (aQ ky ao ao)))) aT) (az (aI (dm (bq .str B.b_isinstance (ag 0) B.b_str QF) (dm (bM iT (bh bF rfl B.b_len Nu (ah (ag 0) aj)) (i8 rfl B.c_MOST_SIGNS)) (dz (aM Qam (hr.mono (by omega)) rfl (ah (ag 0) (ah (ug rfl B.c_TEXT_SIGNS) aj)) (aq (aq aL)))))))))
theorem zi:FnScope ["thing","rows_left"] ["thing","rows_left"] (aN (top 16)):=⟨rfl,rfl,rfl,by decide +kernel,rfl,by decide +kernel,by decide +kernel⟩
theorem zq{P:MA}{w:ML}{K:Frag}{mg:Str->Option Mp}{base:Heap}{f:Addr}{fd:MS}(n:Nat)(B:Bi K mg)(F:Fun K "is_built" "is_built" (top 16) f fd)(Qbe:Fn P w K mg base "is_single" ["thing"] 2 (spM K 1 ik))(Qar:Fn P w K mg base "is_built" ["thing","rows_left"] (2+n) (spM K 2 (dJ n))):FnOk P w K mg base CX0 (2+n+1) f fd ["thing","rows_left"] (spM K 2 (dJ (n+1))):=dfn F zi fun cdv A outer s H E hr=>(av (aS (cN (a9 (bq .tup B.b_isinstance (ag 0) B.b_tuple Nw))) (az (aI (aM Qbe (hr.mono (by omega)) rfl (ah (ag 0) aj) (aq aL)))) aT) (av (aS (bE (cA (aH a7 (ag 1) ao) (dh (aH dv (bh bF rfl B.b_len Nu (ah (ag 0) aj)) (i8 rfl B.c_MOST_PARTS))))) (az (aI b6)) aT) (az (aI (bh mY rfl B.b_all UM (ah (cD (osc:=aN (top 16)) (N:=["thing","rows_left"]) (N':=["thing","rows_left"]) (x:="part") ⟨rfl,by decide +kernel,by decide +kernel,rfl,by decide +kernel,by decide +kernel,by decide +kernel,by decide +kernel,rfl,by decide +kernel⟩ (bI (ag 0)) (fun C s0 H0 ex=>(aM Qar (hr.mono (by omega)) rfl (ah (ag 0) (ah (aQ gX (ag 2) ao) aj)) (aq (aq aL)))) (fun C s0 H0 ex=>de)) aj))))))
theorem zH:FnScope ["value"] ["value"] (aN (top 18)):=⟨rfl,rfl,rfl,by decide +kernel,rfl,by decide +kernel,by decide +kernel⟩
theorem zM{P:MA}{w:ML}{K:Frag}{mg:Str->Option Mp}{base:Heap}{f:Addr}{fd:MS}(n:Nat)(B:Bi K mg)(F:Fun K "many_of" "many_of" (top 18) f fd)(Qaz:Fn P w K mg base "many_of" ["value"] (0+n) (spM K 1 (eZ n))):FnOk P w K mg base CX0 (0+n+1) f fd ["value"] (spM K 1 (eZ (n+1))):=dfn F zH fun cdv A outer s H E hr=>(av (aS (cN (a9 (bq .tup B.b_isinstance (ag 0) B.b_tuple Nw))) (az (aI ao)) aT) (az (aI (aQ ba ao (bh wZ rfl B.b_sum boot_sum (ah (cD (osc:=aN (top 18)) (N:=["value"]) (N':=["value"]) (x:="part") ⟨rfl,by decide +kernel,by decide +kernel,rfl,by decide +kernel,by decide +kernel,by decide +kernel,by decide +kernel,rfl,by decide +kernel⟩ (bI (ag 0)) (fun C s0 H0 ex=>(aM Qaz (hr.mono (by omega)) rfl (ah (ag 0) aj) (aq aL))) (fun C s0 H0 ex=>de)) aj))))))
theorem zh:FnScope ["thing"] ["thing"] (aN (top 17)):=⟨rfl,rfl,rfl,by decide +kernel,rfl,by decide +kernel,by decide +kernel⟩
theorem zp{P:MA}{w:ML}{K:Frag}{mg:Str->Option Mp}{base:Heap}{f:Addr}{fd:MS}(B:Bi K mg)(F:Fun K "is_value" "is_value" (top 17) f fd)(Qar:Fn P w K mg base "is_built" ["thing","rows_left"] 27 (spM K 2 (dJ 25)))(Qaz:Fn P w K mg base "many_of" ["value"] 25 (spM K 1 (eZ 25))):FnOk P w K mg base CX0 28 f fd ["thing"] (spM K 1 (iu)):=dfn F zh fun cdv A outer s H E hr=>(az (aI (dm (aM Qar (hr.mono (by omega)) rfl (ah (ag 0) (ah (i8 rfl B.c_MOST_ROWS) aj)) (aq (aq aL))) (dz (bM iT (aM Qaz (hr.mono (by omega)) rfl (ah (ag 0) aj) (aq aL)) (i8 rfl B.c_MOST_VALUES))))))
theorem yz:FnScope ["text"] ["text"] (aN (top 28)):=⟨rfl,rfl,rfl,by decide +kernel,rfl,by decide +kernel,by decide +kernel⟩
theorem yC{P:MA}{w:ML}{K:Frag}{mg:Str->Option Mp}{base:Heap}{f:Addr}{fd:MS}(B:Bi K mg)(F:Fun K "is_figures" "is_figures" (top 28) f fd)(Qam:Fn P w K mg base "has_only" ["text","signs"] 1 (spM K 2 eX)):FnOk P w K mg base CX0 2 f fd ["text"] (spM K 1 (eS)):=dfn F yz fun cdv A outer s H E hr=>(av (aS (bE (cA (aH a7 (ag 0) aC) (dh (cN (a9 (aM Qam (hr.mono (by omega)) rfl (ah (ag 0) (ah (ug rfl B.c_FIGURES) aj)) (aq (aq aL)))))))) (az (aI b6)) aT) (az (aI (Hd (bM a7 (ag 0) aC) (dz (qa (oi (ag 0) aC)))))))
theorem sc_number_by:FnScope ["word","figures"] ["word"] (aN (top 27)):=⟨rfl,rfl,rfl,by decide +kernel,rfl,by decide +kernel,by decide +kernel⟩
theorem yU{P:MA}{w:ML}{K:Frag}{mg:Str->Option Mp}{base:Heap}{f:Addr}{fd:MS}(B:Bi K mg)(F:Fun K "number_by" "number_by" (top 27) f fd)(Qbc:Fn P w K mg base "is_figures" ["text"] 2 (spM K 1 eS)):FnOk P w K mg base CX0 3 f fd ["word"] (spM K 1 (ij)):=dfn F sc_number_by fun cdv A outer s H E hr=>(av (aV (i:=1) sc_number_by.nd (fJ (a9 (oi (ag 0) aC)) (cF (ag 0) (bZ ao) df) (ag 0))) (av (aS (bE (cA (aH a7 (ag 0) aC) (cA (aH dv (bh bF rfl B.b_len Nu (ah (ag 1) aj)) (i8 rfl B.c_MOST_FIGURES)) (dh (cN (a9 (aM Qbc (hr.mono (by omega)) rfl (ah (ag 1) aj) (aq aL)))))))) (az (aI dj)) aT) (az (aI (bP gx rfl B.b_int Oz (ah (ag 0) aj))))))
theorem yK:FnScope ["word"] ["word"] (aN (top 26)):=⟨rfl,rfl,rfl,by decide +kernel,rfl,by decide +kernel,by decide +kernel⟩
theorem yR{P:MA}{w:ML}{K:Frag}{mg:Str->Option Mp}{base:Heap}{f:Addr}{fd:MS}(B:Bi K mg)(F:Fun K "single_by" "single_by" (top 26) f fd)(Qbf:Fn P w K mg base "number_by" ["word"] 3 (spM K 1 ij)):FnOk P w K mg base CX0 4 f fd ["word"] (spM K 1 (ig)):=dfn F yK fun cdv A outer s H E hr=>(av (aS (a9 (oi (ag 0) aC)) (az (aI (cF (ag 0) (bZ ao) df))) aT) (az (aI (aM Qbf (hr.mono (by omega)) rfl (ah (ag 0) aj) (aq aL)))))
theorem sc_single_at:FnScope ["text","at","behind","single"] ["text","at"] (aN (top 25)):=⟨rfl,rfl,rfl,by decide +kernel,rfl,by decide +kernel,by decide +kernel⟩
theorem yS{P:MA}{w:ML}{K:Frag}{mg:Str->Option Mp}{base:Heap}{f:Addr}{fd:MS}(B:Bi K mg)(F:Fun K "single_at" "single_at" (top 25) f fd)(Qbg:Fn P w K mg base "single_by" ["word"] 4 (spM K 1 ig)):FnOk P w K mg base CX0 5 f fd ["text","at"] (spM K 2 (gF)):=dfn F sc_single_at fun cdv A outer s H E hr=>(av (aV (i:=2) sc_single_at.nd (ag 1)) (av (gM 100000 (bE (cE (aH du (ag 2) (bh bF rfl B.b_len Nu (ah (ag 0) aj))) (cY (aH gc (aA aB (ag 0) (ag 2)) aC)))) (az (aV (i:=2) sc_single_at.nd (aQ ba (ag 2) ao)))) (av (aV (i:=3) sc_single_at.nd (aM Qbg (hr.mono (by omega)) rfl (ah (cF (ag 0) (bZ (ag 1)) (bZ (ag 2))) aj) (aq aL))) (az (aI (fJ (aH kN (ag 3) dj) dj (a6 (ah (ag 3) (ah (ag 2) aj)))))))))
theorem sc_row_at:FnScope ["text","at","rows_left","parts","found","sign"] ["text","at","rows_left"] (aN (top 24)):=⟨rfl,rfl,rfl,by decide +kernel,rfl,by decide +kernel,by decide +kernel⟩
theorem zf:FnScope ["text","at","rows_left"] ["text","at","rows_left"] (aN (top 23)):=⟨rfl,rfl,rfl,by decide +kernel,rfl,by decide +kernel,by decide +kernel⟩
theorem Am{P:MA}{w:ML}{K:Frag}{mg:Str->Option Mp}{base:Heap}{f:Addr}{fd:MS}(n:Nat)(B:Bi K mg)(F:Fun K "row_at" "row_at" (top 24) f fd)(Qas:Fn P w K mg base "value_at" ["text","at","rows_left"] (5+n) (spM K 3 (da n))):FnOk P w K mg base CX0 (5+n+1) f fd ["text","at","rows_left"] (spM K 3 (gL (n+1))):=dfn F sc_row_at fun cdv A outer s H E hr=>(av (aS (aH a7 (cF (ag 0) (bZ (ag 1)) (bZ (aQ ba (ag 1) ao))) aC) (az (aI (a6 (ah (a6 aj) (ah (aQ ba (ag 1) ao) aj))))) aT) (av (gP (i:=3) sc_row_at.nd aj) (az (gM 100000 (a9 b6) (av (aV (i:=4) sc_row_at.nd (aM Qas (hr.mono (by omega)) rfl (ah (ag 0) (ah (ag 1) (ah (ag 2) aj))) (aq (aq (aq aL))))) (av (aS (aH kN (ag 4) dj) (az (aI dj)) aT) (av (fw (i:=3) (by exact(aA aB (ag 4) ao))) (av (aV (i:=1) sc_row_at.nd (aQ ba (aA aB (ag 4) ao) ao)) (av (aV (i:=5) sc_row_at.nd (cF (ag 0) (bZ (aA aB (ag 4) ao)) (bZ (ag 1)))) (av (aS (aH a7 (ag 5) aC) (az (aI (a6 (ah (bP fq rfl B.b_tuple Nw (ah (ag 3) aj)) (ah (ag 1) aj))))) aT) (az (aS (aH eO (ag 5) aC) (az (aI dj)) aT))))))))))))
theorem zm{P:MA}{w:ML}{K:Frag}{mg:Str->Option Mp}{base:Heap}{f:Addr}{fd:MS}(n:Nat)(B:Bi K mg)(F:Fun K "value_at" "value_at" (top 23) f fd)(Qbh:Fn P w K mg base "single_at" ["text","at"] 5 (spM K 2 gF))(Qbq:Fn P w K mg base "row_at" ["text","at","rows_left"] (5+n) (spM K 3 (gL n))):FnOk P w K mg base CX0 (5+n+1) f fd ["text","at","rows_left"] (spM K 3 (da (n+1))):=dfn F zf fun cdv A outer s H E hr=>(av (aS (aH eO (cF (ag 0) (bZ (ag 1)) (bZ (aQ ba (ag 1) ao))) aC) (az (aI (aM Qbh (hr.mono (by omega)) rfl (ah (ag 0) (ah (ag 1) aj)) (aq (aq aL))))) aT) (av (aS (aH a7 (ag 2) ao) (az (aI dj)) aT) (az (aI (aM Qbq (hr.mono (by omega)) rfl (ah (ag 0) (ah (aQ ba (ag 1) ao) (ah (aQ gX (ag 2) ao) aj))) (aq (aq (aq aL))))))))
theorem sc_value_by:FnScope ["text","found"] ["text"] (aN (top 22)):=⟨rfl,rfl,rfl,by decide +kernel,rfl,by decide +kernel,by decide +kernel⟩
theorem zl{P:MA}{w:ML}{K:Frag}{mg:Str->Option Mp}{base:Heap}{f:Addr}{fd:MS}(B:Bi K mg)(F:Fun K "value_by" "value_by" (top 22) f fd)(Qas:Fn P w K mg base "value_at" ["text","at","rows_left"] 30 (spM K 3 (da 25)))(Qbo:Fn P w K mg base "is_value" ["thing"] 28 (spM K 1 iu)):FnOk P w K mg base CX0 31 f fd ["text"] (spM K 1 (ir)):=dfn F sc_value_by fun cdv A outer s H E hr=>(av (aV (i:=1) sc_value_by.nd (aM Qas (hr.mono (by omega)) rfl (ah (ag 0) (ah ao (ah (i8 rfl B.c_MOST_ROWS) aj))) (aq (aq (aq aL))))) (av (aS (bE (cA (aH kN (ag 1) dj) (dh (aH du (aA aB (ag 1) ao) (bh bF rfl B.b_len Nu (ah (ag 0) aj)))))) (az (aI dj)) aT) (az (aI (fJ (a9 (aM Qbo (hr.mono (by omega)) rfl (ah (aA aB (ag 1) ao) aj) (aq aL))) (aA aB (ag 1) ao) dj)))))
theorem sc_lines_by_names:FnScope ["lines","found","line"] ["lines"] (aN (top 30)):=⟨rfl,rfl,rfl,by decide +kernel,rfl,by decide +kernel,by decide +kernel⟩
theorem xY{P:MA}{w:ML}{K:Frag}{mg:Str->Option Mp}{base:Heap}{f:Addr}{fd:MS}(B:Bi K mg)(F:Fun K "lines_by_names" "lines_by_names" (top 30) f fd)  : FnOk P w K mg base CX0 1 f fd ["lines"] (spM K 1 (fO)):=dfn F sc_lines_by_names fun cdv A outer s H E hr=>(av (pw (i:=1) sc_lines_by_names.nd) (av (gn (i:=2) sc_lines_by_names.nd (bI (ag 0)) (az (l9 (i:=1) hr (aA aB (ag 2) ao) (ag 2)))) (az (aI (ag 1)))))
theorem sc_result_along:FnScope ["lines","name","row","end"] ["lines","name"] (aN (top 32)):=⟨rfl,rfl,rfl,by decide +kernel,rfl,by decide +kernel,by decide +kernel⟩
theorem yd{P:MA}{w:ML}{K:Frag}{mg:Str->Option Mp}{base:Heap}{f:Addr}{fd:MS}(B:Bi K mg)(F:Fun K "result_along" "result_along" (top 32) f fd)(Qbp:Fn P w K mg base "value_by" ["text"] 31 (spM K 1 ir)):FnOk P w K mg base CX0 32 f fd ["lines","name"] (spM K 2 (iY)):=dfn F sc_result_along fun cdv A outer s H E hr=>(av (gP (i:=2) sc_result_along.nd (ah (ag 1) aj)) (av (gM 100000 (bE (cE (aH (jq hr) (aA aB (ag 2) (dA ao)) (ag 0)) (cY (aH gc (aA aB (ag 2) (dA ao)) (cF (ag 2) df (bZ (dA ao))))))) (av (aV (i:=3) sc_result_along.nd (aA aB (aA (eG hr) (ag 0) (aA aB (ag 2) (dA ao))) ao)) (av (aS (aH a7 (aA aB (ag 3) ao) aC) (az (aI (a6 (ah aC (ah (aM Qbp (hr.mono (by omega)) rfl (ah (aA aB (ag 3) ao) aj) (aq aL)) aj))))) aT) (av (aS (aH a7 (aA aB (ag 3) ao) aC) (az (aI (a6 (ah aC (ah (bP fq rfl B.b_tuple Nw (ah (ag 2) aj)) (ah (aA aB (ag 3) ao) aj)))))) aT) (az (fw (i:=2) (by exact(aA aB (ag 3) ao)))))))) (az (aI (a6 (ah (fJ (aH (jq hr) (aA aB (ag 2) (dA ao)) (ag 0)) aC aC) (ah (bP fq rfl B.b_tuple Nw (ah (ag 2) aj)) aj)))))))
theorem sc_result_by:FnScope ["paper","name","lines"] ["paper","name"] (aN (top 34)):=⟨rfl,rfl,rfl,by decide +kernel,rfl,by decide +kernel,by decide +kernel⟩
theorem yT{P:MA}{w:ML}{K:Frag}{mg:Str->Option Mp}{base:Heap}{f:Addr}{fd:MS}(B:Bi K mg)(F:Fun K "result_by" "result_by" (top 34) f fd)(Qac:Fn P w K mg base "lines_by_names" ["lines"] 1 (spM K 1 fO))(Qau:Fn P w K mg base "result_along" ["lines","name"] 32 (spM K 2 iY)):FnOk P w K mg base CX0 33 f fd ["paper","name"] (spM K 2 (fW)):=dfn F sc_result_by fun cdv A outer s H E hr=>(av (aV (i:=2) sc_result_by.nd (aM Qac (hr.mono (by omega)) rfl (ah (ag 0) aj) (aq aL))) (av (aS (aH (lI hr) (ag 1) (ag 2)) (az uY) aT) (az (aI (aM Qau (hr.mono (by omega)) rfl (ah (ag 2) (ah (ag 1) aj)) (aq (aq aL)))))))
theorem yc:FnScope ["_law_script","_law_k"] ["_law_script","_law_k"] (aN (top 36)):=⟨rfl,rfl,rfl,by decide +kernel,rfl,by decide +kernel,by decide +kernel⟩
theorem yj{P:MA}{w:ML}{K:Frag}{mg:Str->Option Mp}{base:Heap}{f:Addr}{fd:MS}(B:Bi K mg)(F:Fun K "_law_cell_at" "_law_cell_at" (top 36) f fd)  : FnOk P w K mg base CX0 1 f fd ["_law_script","_law_k"] (spM K 2 (dI)):=dfn F yc fun cdv A outer s H E hr=>(av (aS (aH du (ag 1) (bh bF rfl B.b_len Nu (ah (ag 0) aj))) (az (aI (aA aB (ag 0) (ag 1)))) aT) (az (aI ao)))
theorem sc__law_draws:FnScope ["_law_cell","_law_many_here","_law_found","_law_number","_law_mixed","_law_k"] ["_law_cell","_law_many_here"] (aN (top 37)):=⟨rfl,rfl,rfl,by decide +kernel,rfl,by decide +kernel,by decide +kernel⟩
theorem yH{P:MA}{w:ML}{K:Frag}{mg:Str->Option Mp}{base:Heap}{f:Addr}{fd:MS}(B:Bi K mg)(F:Fun K "_law_draws" "_law_draws" (top 37) f fd)  : FnOk P w K mg base CX0 1 f fd ["_law_cell","_law_many_here"] (spM K 2 (fU)):=dfn F sc__law_draws fun cdv A outer s H E hr=>(av (gP (i:=2) sc__law_draws.nd aj) (av (aV (i:=3) sc__law_draws.nd ao) (av (aS (aH HL (ag 0) (aQ ky ao ao)) (az (aV (i:=3) sc__law_draws.nd (ag 0))) aT) (av (aV (i:=4) sc__law_draws.nd (aQ ba (aQ eJ (ag 0) ao) ao)) (av (gn (i:=5) sc__law_draws.nd (jg rfl B.b_range (ag 1)) (av (aV (i:=4) sc__law_draws.nd (aQ eJ (aQ ba (aQ ba (aQ fB (ag 4) (ag 4)) (aQ fB ao (ag 4))) (aQ fB ao (ag 5))) ao)) (az (aS (aH dv (ag 3) ao) (av (fw (i:=2) (by exact(aQ eJ (ag 3) ao))) (az (aV (i:=3) sc__law_draws.nd (aQ lX (ag 3) ao)))) (az (fw (i:=2) (by exact(aQ lX (aQ eJ (aQ ba (aQ fB (ag 4) ao) (aQ fB ao (ag 5))) ao) ao)))))))) (az (aI (ag 2))))))))
theorem yM:FnScope ["_law_tape","_law_many_here"] ["_law_tape","_law_many_here"] (aN (top 38)):=⟨rfl,rfl,rfl,by decide +kernel,rfl,by decide +kernel,by decide +kernel⟩
theorem yX{P:MA}{w:ML}{K:Frag}{mg:Str->Option Mp}{base:Heap}{f:Addr}{fd:MS}(B:Bi K mg)(F:Fun K "_law_take" "_law_take" (top 38) f fd)  : FnOk P w K mg base CX0 1 f fd ["_law_tape","_law_many_here"] (spM K 2 (bi)):=dfn F yM fun cdv A outer s H E hr=>(av (FG (ag 0) ao (aQ ba (aA aB (ag 0) ao) ao)) (az (aI (aQ eJ (aA aB (aA aB (ag 0) ao) (aQ eJ (aQ gX (aA aB (ag 0) ao) ao) (bh bF rfl B.b_len Nu (ah (aA aB (ag 0) ao) aj)))) (ag 1)))))
theorem yP:FnScope ["_law_value_here"] ["_law_value_here"] (aN (top 39)):=⟨rfl,rfl,rfl,by decide +kernel,rfl,by decide +kernel,by decide +kernel⟩
theorem y0{P:MA}{w:ML}{K:Frag}{mg:Str->Option Mp}{base:Heap}{f:Addr}{fd:MS}(n:Nat)(B:Bi K mg)(F:Fun K "_law_many" "_law_many" (top 39) f fd)(Qan:Fn P w K mg base "_law_many" ["_law_value_here"] (0+n) (spM K 1 (eW n))):FnOk P w K mg base CX0 (0+n+1) f fd ["_law_value_here"] (spM K 1 (eW (n+1))):=dfn F yP fun cdv A outer s H E hr=>(av (aS (cN (a9 (bq .tup B.b_isinstance (ag 0) B.b_tuple Nw))) (az (aI ao)) aT) (az (aI (aQ ba ao (bh wZ rfl B.b_sum boot_sum (ah (cD (osc:=aN (top 39)) (N:=["_law_value_here"]) (N':=["_law_value_here"]) (x:="_law_part") ⟨rfl,by decide +kernel,by decide +kernel,rfl,by decide +kernel,by decide +kernel,by decide +kernel,by decide +kernel,rfl,by decide +kernel⟩ (bI (ag 0)) (fun C s0 H0 ex=>(aM Qan (hr.mono (by omega)) rfl (ah (ag 0) aj) (aq aL))) (fun C s0 H0 ex=>de)) aj))))))
theorem yb:FnScope ["_law_thing"] ["_law_thing"] (aN (top 40)):=⟨rfl,rfl,rfl,by decide +kernel,rfl,by decide +kernel,by decide +kernel⟩
theorem yi{P:MA}{w:ML}{K:Frag}{mg:Str->Option Mp}{base:Heap}{f:Addr}{fd:MS}(B:Bi K mg)(F:Fun K "_law_is_name" "_law_is_name" (top 40) f fd)  : FnOk P w K mg base CX0 1 f fd ["_law_thing"] (spM K 1 (fR)):=dfn F yb fun cdv A outer s H E hr=>(av (aS (bE (cA (cN (a9 (bq .str B.b_isinstance (ag 0) B.b_str QF))) (cA (aH du (bh bF rfl B.b_len Nu (ah (ag 0) aj)) ao) (dh (aH dv (bh bF rfl B.b_len Nu (ah (ag 0) aj)) ao))))) (az (aI b6)) aT) (az (aI (bM (jr hr) (cD (osc:=aN (top 40)) (N:=["_law_thing"]) (N':=["_law_thing"]) (x:="_law_sign") ⟨rfl,by decide +kernel,by decide +kernel,rfl,by decide +kernel,by decide +kernel,by decide +kernel,by decide +kernel,rfl,by decide +kernel⟩ (bI (ag 0)) (fun C s0 H0 ex=>(ag 0)) (fun C s0 H0 ex=>fj rfl (aH gc (ag 0) aC))) (cf aj)))))
theorem sc__law_is_part:FnScope ["_law_thing","_law_deep","_law_signs"] ["_law_thing","_law_deep"] (aN (top 41)):=⟨rfl,rfl,rfl,by decide +kernel,rfl,by decide +kernel,by decide +kernel⟩
theorem yh{P:MA}{w:ML}{K:Frag}{mg:Str->Option Mp}{base:Heap}{f:Addr}{fd:MS}(n:Nat)(B:Bi K mg)(F:Fun K "_law_is_part" "_law_is_part" (top 41) f fd)(Qak:Fn P w K mg base "_law_is_part" ["_law_thing","_law_deep"] (0+n) (spM K 2 (c8 n))):FnOk P w K mg base CX0 (0+n+1) f fd ["_law_thing","_law_deep"] (spM K 2 (c8 (n+1))):=dfn F sc__law_is_part fun cdv A outer s H E hr=>(av (aS (a9 (bq .bl B.b_isinstance (ag 0) B.b_bool RE)) (az (aI b6)) aT) (av (aS (a9 (bq .int B.b_isinstance (ag 0) B.b_int Oz)) (az (aI (bM iT (bh w4 rfl B.b_abs boot_abs (ah (ag 0) aj)) (aQ ky ao ao)))) aT) (av (aS (a9 (bq .str B.b_isinstance (ag 0) B.b_str QF)) (av (aV (i:=2) sc__law_is_part.nd aC) (az (aI (dm (bM iT (bh bF rfl B.b_len Nu (ah (ag 0) aj)) ao) (dz (bM (jr hr) (cD (osc:=aN (top 41)) (N:=["_law_thing","_law_deep","_law_signs"]) (N':=["_law_thing","_law_deep","_law_signs"]) (x:="_law_sign") ⟨rfl,by decide +kernel,by decide +kernel,rfl,by decide +kernel,by decide +kernel,by decide +kernel,by decide +kernel,rfl,by decide +kernel⟩ (bI (ag 0)) (fun C s0 H0 ex=>(ag 0)) (fun C s0 H0 ex=>fj rfl (aH gc (ag 0) (ag 3)))) (cf aj))))))) aT) (av (aS (bE (cA (cN (a9 (bq .tup B.b_isinstance (ag 0) B.b_tuple Nw))) (cA (aH dv (bh bF rfl B.b_len Nu (ah (ag 0) aj)) ao) (dh (aH dv (ag 1) ao))))) (az (aI b6)) aT) (az (aI (bM (jr hr) (cD (osc:=aN (top 41)) (N:=["_law_thing","_law_deep","_law_signs"]) (N':=["_law_thing","_law_deep","_law_signs"]) (x:="_law_part") ⟨rfl,by decide +kernel,by decide +kernel,rfl,by decide +kernel,by decide +kernel,by decide +kernel,by decide +kernel,rfl,by decide +kernel⟩ (bI (ag 0)) (fun C s0 H0 ex=>(ag 0)) (fun C s0 H0 ex=>fj rfl (cN (a9 (aM Qak (hr.mono (by omega)) rfl (ah (ag 0) (ah (aQ ba (ag 2) ao) aj)) (aq (aq aL))))))) (cf aj))))))))
theorem x6:FnScope ["_law_thing"] ["_law_thing"] (aN (top 42)):=⟨rfl,rfl,rfl,by decide +kernel,rfl,by decide +kernel,by decide +kernel⟩
theorem x9{P:MA}{w:ML}{K:Frag}{mg:Str->Option Mp}{base:Heap}{f:Addr}{fd:MS}(B:Bi K mg)(F:Fun K "_law_is_value" "_law_is_value" (top 42) f fd)(Qak:Fn P w K mg base "_law_is_part" ["_law_thing","_law_deep"] 25 (spM K 2 (c8 25)))(Qan:Fn P w K mg base "_law_many" ["_law_value_here"] 25 (spM K 1 (eW 25))):FnOk P w K mg base CX0 26 f fd ["_law_thing"] (spM K 1 (dH)):=dfn F x6 fun cdv A outer s H E hr=>(az (aI (dm (aM Qak (hr.mono (by omega)) rfl (ah (ag 0) (ah ao aj)) (aq (aq aL))) (dz (bM iT (aM Qan (hr.mono (by omega)) rfl (ah (ag 0) aj) (aq aL)) ao)))))
theorem yA:FnScope ["_law_value_here"] ["_law_value_here"] (aN (top 43)):=⟨rfl,rfl,rfl,by decide +kernel,rfl,by decide +kernel,by decide +kernel⟩
theorem yE{P:MA}{w:ML}{K:Frag}{mg:Str->Option Mp}{base:Heap}{f:Addr}{fd:MS}(n:Nat)(B:Bi K mg)(F:Fun K "_law_stamp" "_law_stamp" (top 43) f fd)(Qad:Fn P w K mg base "_law_stamp" ["_law_value_here"] (0+n) (spM K 1 (cJ n))):FnOk P w K mg base CX0 (0+n+1) f fd ["_law_value_here"] (spM K 1 (cJ (n+1))):=dfn F yA fun cdv A outer s H E hr=>(av (aS (a9 (bq .tup B.b_isinstance (ag 0) B.b_tuple Nw)) (az (aI (aQ ba (aQ ba aC (DR aC (cD (osc:=aN (top 43)) (N:=["_law_value_here"]) (N':=["_law_value_here"]) (x:="_law_part") ⟨rfl,by decide +kernel,by decide +kernel,rfl,by decide +kernel,by decide +kernel,by decide +kernel,by decide +kernel,rfl,by decide +kernel⟩ (bI (ag 0)) (fun C s0 H0 ex=>(aM Qad (hr.mono (by omega)) rfl (ah (ag 0) aj) (aq aL))) (fun C s0 H0 ex=>de)))) aC))) aT) (av (aS (a9 (bq .str B.b_isinstance (ag 0) B.b_str QF)) (az (aI (aQ ba aC (ag 0)))) aT) (az (aI (bP Hf rfl B.b_str QF (ah (ag 0) aj))))))
theorem sc__law_of_two:FnScope ["_law_kind","_law_one","_law_other","_law_whole","_law_alike"] ["_law_kind","_law_one","_law_other"] (aN (top 44)):=⟨rfl,rfl,rfl,by decide +kernel,rfl,by decide +kernel,by decide +kernel⟩
theorem yt{P:MA}{w:ML}{K:Frag}{mg:Str->Option Mp}{base:Heap}{f:Addr}{fd:MS}(B:Bi K mg)(F:Fun K "_law_of_two" "_law_of_two" (top 44) f fd)(Qab:Fn P w K mg base "_law_is_value" ["_law_thing"] 26 (spM K 1 dH)):FnOk P w K mg base CX0 27 f fd ["_law_kind","_law_one","_law_other"] (spM K 3 (bC)):=dfn F sc__law_of_two fun cdv A outer s H E hr=>(av (aV (i:=3) sc__law_of_two.nd (dm (bq .int B.b_isinstance (ag 1) B.b_int Oz) (dz (bq .int B.b_isinstance (ag 2) B.b_int Oz)))) (av (aV (i:=4) sc__law_of_two.nd (dm (bM a7 (bq .str B.b_isinstance (ag 1) B.b_str QF) (bq .str B.b_isinstance (ag 2) B.b_str QF)) (dz (bM a7 (bq .tup B.b_isinstance (ag 1) B.b_tuple Nw) (bq .tup B.b_isinstance (ag 2) B.b_tuple Nw))))) (av (aS (aH a7 (ag 0) aC) (az (aI (a6 (ah aC (ah (bP gx rfl B.b_int Oz (ah (bM a7 (pA hr B.b_repr (ag 1)) (pA hr B.b_repr (ag 2))) aj)) aj))))) aT) (av (aS (bE (cE (aH a7 (ag 0) aC) (cY (a9 (ag 3))))) (az (aI (a6 (ah aC (ah (bP gx rfl B.b_int Oz (ah (bM du (ag 1) (ag 2)) aj)) aj))))) aT) (av (aS (bE (cE (aH a7 (ag 0) aC) (cE (a9 (bq .tup B.b_isinstance (ag 1) B.b_tuple Nw)) (cY (a9 (bq .int B.b_isinstance (ag 2) B.b_int Oz)))))) (az (aI (fJ (B3 iT du ao (ag 2) (bh bF rfl B.b_len Nu (ah (ag 1) aj))) (a6 (ah aC (ah (aA aB (ag 1) (ag 2)) aj))) (a6 (ah aC (ah aC aj)))))) aT) (av (aS (bE (cA (bE (cE (aH a7 (ag 0) aC) (cE (a9 (ag 4)) (cY (cN (a9 (ag 3))))))) (dh (bE (cE (aH a7 (ag 0) aC) (cY (a9 (ag 3)))))))) (az (aI (fJ (a9 (aM Qab (hr.mono (by omega)) rfl (ah (aQ ba (ag 1) (ag 2)) aj) (aq aL))) (a6 (ah aC (ah (aQ ba (ag 1) (ag 2)) aj))) (a6 (ah aC (ah aC aj)))))) aT) (az (aI (a6 (ah aC (ah aC aj)))))))))))
theorem sc__law_told:FnScope ["_law_expr_here","_law_got","_law_parts","_law_one","_law_found"] ["_law_expr_here","_law_got"] (aN (top 45)):=⟨rfl,rfl,rfl,by decide +kernel,rfl,by decide +kernel,by decide +kernel⟩
theorem yW{P:MA}{w:ML}{K:Frag}{mg:Str->Option Mp}{base:Heap}{f:Addr}{fd:MS}(n:Nat)(B:Bi K mg)(F:Fun K "_law_told" "_law_told" (top 45) f fd)(Qao:Fn P w K mg base "_law_told" ["_law_expr_here","_law_got"] (27+n) (spM K 2 (b9 n)))(Qab:Fn P w K mg base "_law_is_value" ["_law_thing"] 26 (spM K 1 dH))(Qba:Fn P w K mg base "_law_of_two" ["_law_kind","_law_one","_law_other"] 27 (spM K 3 bC)):FnOk P w K mg base CX0 (27+n+1) f fd ["_law_expr_here","_law_got"] (spM K 2 (b9 (n+1))):=dfn F sc__law_told fun cdv A outer s H E hr=>(av (aS (aH a7 (aA aB (ag 0) ao) aC) (az (aI (a6 (ah aC (ah (aA aB (ag 0) ao) aj))))) aT) (av (aS (aH a7 (aA aB (ag 0) ao) aC) (az (aI (a6 (ah aC (ah (aA aB (ag 1) (aA aB (ag 0) ao)) aj))))) aT) (av (gP (i:=2) sc__law_told.nd aj) (av (gn (i:=3) sc__law_told.nd (bI (aA aB (cf (ah (bP qc rfl B.b_list Qa (ah (cF (ag 0) (bZ ao) df) aj)) (ah (bP qc rfl B.b_list Qa (ah (aA aB (ag 0) ao) aj)) aj))) (bP gx rfl B.b_int Oz (ah (bM a7 (aA aB (ag 0) ao) aC) aj)))) (av (aV (i:=4) sc__law_told.nd (aM Qao (hr.mono (by omega)) rfl (ah (ag 3) (ah (ag 1) aj)) (aq (aq aL)))) (av (aS (aH a7 (aA aB (ag 4) ao) aC) (az (aI (ag 4))) aT) (az (fw (i:=2) (by exact(aA aB (ag 4) ao))))))) (av (aS (aH a7 (aA aB (ag 0) ao) aC) (az (aI (fJ (a9 (aM Qab (hr.mono (by omega)) rfl (ah (bP fq rfl B.b_tuple Nw (ah (ag 2) aj)) aj) (aq aL))) (a6 (ah aC (ah (bP fq rfl B.b_tuple Nw (ah (ag 2) aj)) aj))) (a6 (ah aC (ah aC aj)))))) aT) (av (aS (aH a7 (aA aB (ag 0) ao) aC) (az (aI (fJ (a9 (bq .int B.b_isinstance (aA aB (ag 2) ao) B.b_int Oz)) (a6 (ah aC (ah aC aj))) (a6 (ah aC (ah (bh bF rfl B.b_len Nu (ah (aA aB (ag 2) ao) aj)) aj)))))) aT) (az (aI (aM Qba (hr.mono (by omega)) rfl (ah (aA aB (ag 0) ao) (ah (aA aB (ag 2) ao) (ah (aA aB (ag 2) ao) aj))) (aq (aq (aq aL))))))))))))
theorem sc__law_value_by:FnScope ["_law_text","_law_pile","_law_word","_law_figures","_law_part"] ["_law_text"] (aN (top 46)):=⟨rfl,rfl,rfl,by decide +kernel,rfl,by decide +kernel,by decide +kernel⟩
theorem x8{P:MA}{w:ML}{K:Frag}{mg:Str->Option Mp}{base:Heap}{f:Addr}{fd:MS}(B:Bi K mg)(F:Fun K "_law_value_by" "_law_value_by" (top 46) f fd)(Qab:Fn P w K mg base "_law_is_value" ["_law_thing"] 26 (spM K 1 dH))(Qad:Fn P w K mg base "_law_stamp" ["_law_value_here"] 25 (spM K 1 (cJ 25))):FnOk P w K mg base CX0 27 f fd ["_law_text"] (spM K 1 (fQ)):=dfn F sc__law_value_by fun cdv A outer s H E hr=>(AN (i:=1) sc__law_value_by.nd (DH (FD (cN (a9 (bq .str B.b_isinstance (ag 0) B.b_str QF))) (DG dv (bh bF rfl B.b_len Nu (ah (ag 0) aj)))) (eE (vX (cf aj))) (AO (DM (i:=1) (j:=2) sc__law_value_by.nd (B8 (AQ (rl (rl (DE.one1 (ag 0)))) aC)) (oO (FJ (i:=1) (j:=3) sc__law_value_by.nd (cF (ag 2) (bZ (bP gx rfl B.b_int Oz (ah (bM a7 (cF (ag 2) df (bZ ao)) aC) aj))) df)) (eE (kJ (aH a7 (ag 2) aC) (eE (DL (i:=1))) (eE (kJ (bE (cE (aH a7 (ag 2) aC) (cY (aH dv (bh bF rfl B.b_len Nu (ah (ag 1) aj)) ao)))) (oO (FM (i:=1) (j:=4) rfl B.b_tuple Nw sc__law_value_by.nd) (eE (p9 (i:=1) (dA ao) (by exact(ag 4))))) (eE (kJ (aH a7 (cF (ag 2) df (bZ ao)) aC) (eE (p9 (i:=1) (dA ao) (by exact(cF (ag 2) (bZ ao) df)))) (eE (kJ (bE (cE (aH eO (ag 3) aC) (cE (aH du (bh bF rfl B.b_len Nu (ah (ag 2) aj)) ao) (cY (aH (jr hr) (cD (osc:=aN (top 46)) (N:=["_law_text","_law_pile","_law_word","_law_figures","_law_part"]) (N':=["_law_text","_law_pile","_law_word","_law_figures","_law_part"]) (x:="_law_sign") ⟨rfl,by decide +kernel,by decide +kernel,rfl,by decide +kernel,by decide +kernel,by decide +kernel,by decide +kernel,rfl,by decide +kernel⟩ (bI (ag 3)) (fun C s0 H0 ex=>(ag 0)) (fun C s0 H0 ex=>fj rfl (aH gc (ag 0) aC))) (cf aj)))))) (eE (p9 (i:=1) (dA ao) (by exact(bP gx rfl B.b_int Oz (ah (ag 2) aj))))) u4)))))))))) (oO (kJ (bE (cA (aH dv (bh bF rfl B.b_len Nu (ah (ag 1) aj)) ao) (cA (aH eO (bh bF rfl B.b_len Nu (ah (aA aB (ag 1) ao) aj)) ao) (cA (cN (a9 (aM Qab (hr.mono (by omega)) rfl (ah (aA aB (aA aB (ag 1) ao) ao) aj) (aq aL)))) (dh (aH eO (aM Qad (hr.mono (by omega)) rfl (ah (aA aB (aA aB (ag 1) ao) ao) aj) (aq aL)) (ag 0))))))) (eE (vX (cf aj))) u4) (eE (DJ (i:=1)))))))
theorem yO:FnScope ["_law_word","_law_good_here","_law_row","_law_at","_law_name"] ["_law_word","_law_good_here","_law_row","_law_at","_law_name"] (aN (top 47)):=⟨rfl,rfl,rfl,by decide +kernel,rfl,by decide +kernel,by decide +kernel⟩
theorem yZ{P:MA}{w:ML}{K:Frag}{mg:Str->Option Mp}{base:Heap}{f:Addr}{fd:MS}(B:Bi K mg)(F:Fun K "_law_next" "_law_next" (top 47) f fd)(Qag:Fn P w K mg base "_law_value_by" ["_law_text"] 27 (spM K 1 fQ)):FnOk P w K mg base CX0 28 f fd ["_law_word","_law_good_here","_law_row","_law_at","_law_name"] (spM K 5 (gG)):=dfn F yO fun cdv A outer s H E hr=>(av (aS (aH kN (ag 2) dj) (az (aI (fJ (aH (jq hr) (ag 4) (ag 1)) (cf (ah (aA (eG hr) (ag 1) (ag 4)) aj)) (a6 (ah aC (ah (ag 4) aj)))))) aT) (av (aS (bE (cA (aH a7 (ag 0) aC) (dh (bE (cE (aH du (ag 3) (bh bF rfl B.b_len Nu (ah (ag 2) aj))) (cY (aH eO (aA aB (aA aB (ag 2) (ag 3)) ao) (ag 4)))))))) (az (aI (a6 (ah aC (ah (ag 4) aj))))) aT) (az (aI (fJ (aH du (ag 3) (bh bF rfl B.b_len Nu (ah (ag 2) aj))) (aM Qag (hr.mono (by omega)) rfl (ah (aA aB (aA aB (ag 2) (ag 3)) ao) aj) (aq aL)) (a6 (ah aC (ah (ag 4) aj))))))))
theorem sc__law_run:FnScope ["_law_recipe_here","_law_good_here","_law_row","_law_got","_law_reads","_law_found","_law_some"] ["_law_recipe_here","_law_good_here","_law_row"] (aN (top 48)):=⟨rfl,rfl,rfl,by decide +kernel,rfl,by decide +kernel,by decide +kernel⟩
theorem zu{P:MA}{w:ML}{K:Frag}{mg:Str->Option Mp}{base:Heap}{f:Addr}{fd:MS}(B:Bi K mg)(F:Fun K "_law_run" "_law_run" (top 48) f fd)(Qao:Fn P w K mg base "_law_told" ["_law_expr_here","_law_got"] 52 (spM K 2 (b9 25)))(Qad:Fn P w K mg base "_law_stamp" ["_law_value_here"] 25 (spM K 1 (cJ 25)))(Qav:Fn P w K mg base "_law_is_name" ["_law_thing"] 1 (spM K 1 fR))(Qbi:Fn P w K mg base "_law_next" ["_law_word","_law_good_here","_law_row","_law_at","_law_name"] 28 (spM K 5 gG)):FnOk P w K mg base CX0 53 f fd ["_law_recipe_here","_law_good_here","_law_row"] (spM K 3 (d0)):=dfn F sc__law_run fun cdv A outer s H E hr=>(av (gP (i:=3) sc__law_run.nd aj) (av (gP (i:=4) sc__law_run.nd aj) (av (gM 100000 (aH eO (aA aB (ag 0) ao) aC) (av (aV (i:=5) sc__law_run.nd (Cc Qao (hr.mono (by omega)) rfl (ah (aA aB (ag 0) ao) (ah (ag 3) aj)) (aq (aq aL)))) (av (aS (bE (cA (aH a7 (aA aB (ag 5) ao) aC) (dh (aH a7 (aA aB (ag 0) ao) aC)))) (az (aI (a6 (ah (ag 4) (ah (aA aB (cf (ah (ag 5) (ah (a6 (ah aC (ah (aM Qad (hr.mono (by omega)) rfl (ah (aA aB (ag 5) ao) aj) (aq aL)) aj))) aj))) (bP gx rfl B.b_int Oz (ah (bM a7 (aA aB (ag 5) ao) aC) aj))) aj))))) aT) (az (aS (aH a7 (aA aB (ag 0) ao) aC) (az (aV (i:=0) sc__law_run.nd (aA aB (ag 0) (aQ ba ao (bP gx rfl B.b_int Oz (ah (bM qB (pA hr B.b_repr (aA aB (ag 5) ao)) (cf (ah aC (ah aC (ah aC aj))))) aj)))))) (az (aS (cN (a9 (aM Qav (hr.mono (by omega)) rfl (ah (aA aB (ag 5) ao) aj) (aq aL)))) (az (aI (a6 (ah (ag 4) (ah (a6 (ah aC (ah aC aj))) aj))))) (av (aV (i:=6) sc__law_run.nd (aM Qbi (hr.mono (by omega)) rfl (ah (aA aB (ag 0) ao) (ah (ag 1) (ah (ag 2) (ah (bh bF rfl B.b_len Nu (ah (ag 4) aj)) (ah (aA aB (ag 5) ao) aj))))) (aq (aq (aq (aq (aq aL))))))) (av (aS (a9 (bq .tup B.b_isinstance (ag 6) B.b_tuple Nw)) (az (aI (a6 (ah (ag 4) (ah (ag 6) aj))))) aT) (av (fw (i:=3) (by exact(aA aB (ag 6) ao))) (av (aS (aH a7 (aA aB (ag 0) ao) aC) (az (fw (i:=4) (by exact(a6 (ah (aA aB (ag 5) ao) (ah (aM Qad (hr.mono (by omega)) rfl (ah (aA aB (ag 6) ao) aj) (aq aL)) aj)))))) aT) (az (aV (i:=0) sc__law_run.nd (aA aB (ag 0) ao)))))))))))))) (az (aI (a6 (ah (ag 4) (ah (a6 (ah aC (ah (aA aB (ag 0) ao) aj))) aj))))))))
theorem sc__law_good:FnScope ["_law_book_here","_law_good_here","_law_going","_law_name","_law_end"] ["_law_book_here"] (aN (top 49)):=⟨rfl,rfl,rfl,by decide +kernel,rfl,by decide +kernel,by decide +kernel⟩
theorem y4{P:MA}{w:ML}{K:Frag}{mg:Str->Option Mp}{base:Heap}{f:Addr}{fd:MS}(B:Bi K mg)(F:Fun K "_law_good" "_law_good" (top 49) f fd)(Qai:Fn P w K mg base "_law_run" ["_law_recipe_here","_law_good_here","_law_row"] 53 (spM K 3 d0))(Qag:Fn P w K mg base "_law_value_by" ["_law_text"] 27 (spM K 1 fQ)):FnOk P w K mg base CX0 54 f fd ["_law_book_here"] (spM K 1 (il)):=dfn F sc__law_good fun cdv A outer s H E hr=>(av (B4 (i:=1) B.b_dict sc__law_good.nd (aA aB (ag 0) ao)) (av (aV (i:=2) sc__law_good.nd b6) (av (gM 100000 (a9 (ag 2)) (av (aV (i:=2) sc__law_good.nd b6) (az (gn (i:=3) sc__law_good.nd (bI (cD (osc:=aN (top 49)) (N:=["_law_book_here","_law_good_here","_law_going","_law_name","_law_end"]) (N':=["_law_book_here","_law_good_here","_law_going","_law_name","_law_end"]) (x:="_law_one") ⟨rfl,by decide +kernel,by decide +kernel,rfl,by decide +kernel,by decide +kernel,by decide +kernel,by decide +kernel,rfl,by decide +kernel⟩ (bI (aA aB (ag 0) ao)) (fun C s0 H0 ex=>(ag 0)) (fun C s0 H0 ex=>fj rfl (aH (lI hr) (ag 0) (ag 2))))) (av (aV (i:=4) sc__law_good.nd (DQ (aA aB (aM Qai (hr.mono (by omega)) rfl (ah (aA (eG hr) (aA aB (ag 0) ao) (ag 3)) (ah (ag 1) (ah dj aj))) (aq (aq (aq aL)))) ao))) (az (aS (aH a7 (aA aB (ag 4) ao) aC) (av (l9 (i:=1) hr (ag 3) (aA aB (aM Qag (hr.mono (by omega)) rfl (ah (aA aB (ag 4) ao) aj) (aq aL)) ao)) (az (aV (i:=2) sc__law_good.nd b6))) aT))))))) (az (aI (ag 1))))))
theorem sc__law_line:FnScope ["_law_book_here","_law_good_here","_law_name","_law_reads","_law_end"] ["_law_book_here","_law_good_here","_law_name"] (aN (top 50)):=⟨rfl,rfl,rfl,by decide +kernel,rfl,by decide +kernel,by decide +kernel⟩
theorem y3{P:MA}{w:ML}{K:Frag}{mg:Str->Option Mp}{base:Heap}{f:Addr}{fd:MS}(B:Bi K mg)(F:Fun K "_law_line" "_law_line" (top 50) f fd)(Qai:Fn P w K mg base "_law_run" ["_law_recipe_here","_law_good_here","_law_row"] 53 (spM K 3 d0)):FnOk P w K mg base CX0 54 f fd ["_law_book_here","_law_good_here","_law_name"] (spM K 3 (gH)):=dfn F sc__law_line fun cdv A outer s H E hr=>(av (FF (i:=3) (j:=4) sc__law_line.nd (aM Qai (hr.mono (by omega)) rfl (ah (aA (eG hr) (aA aB (ag 0) ao) (ag 2)) (ah (ag 1) (ah dj aj))) (aq (aq (aq aL))))) (az (aI (a6 (ah (ag 2) (ah (bP fq rfl B.b_tuple Nw (ah (ag 3) aj)) (ah (ag 4) aj)))))))
theorem sc__law_result:FnScope ["_law_book_here","_law_good_here","_law_name","_law_row","_law_end"] ["_law_book_here","_law_good_here","_law_name"] (aN (top 51)):=⟨rfl,rfl,rfl,by decide +kernel,rfl,by decide +kernel,by decide +kernel⟩
theorem yq{P:MA}{w:ML}{K:Frag}{mg:Str->Option Mp}{base:Heap}{f:Addr}{fd:MS}(B:Bi K mg)(F:Fun K "_law_result" "_law_result" (top 51) f fd)(Qai:Fn P w K mg base "_law_run" ["_law_recipe_here","_law_good_here","_law_row"] 53 (spM K 3 d0)):FnOk P w K mg base CX0 54 f fd ["_law_book_here","_law_good_here","_law_name"] (spM K 3 (ie)):=dfn F sc__law_result fun cdv A outer s H E hr=>(av (aS (aH (jq hr) (ag 2) (ag 1)) (az (aI (a6 (ah aC (ah (aA (eG hr) (ag 1) (ag 2)) aj))))) aT) (av (gP (i:=3) sc__law_result.nd (ah (ag 2) aj)) (av (gM 100000 (aH gc (aA aB (ag 3) (dA ao)) (cF (ag 3) df (bZ (dA ao)))) (av (aS (aH (lI hr) (aA aB (ag 3) (dA ao)) (aA aB (ag 0) ao)) (az (aI (a6 (ah aC (ah (bP fq rfl B.b_tuple Nw (ah (ag 3) aj)) aj))))) aT) (av (aV (i:=4) sc__law_result.nd (aA aB (aM Qai (hr.mono (by omega)) rfl (ah (aA (eG hr) (aA aB (ag 0) ao) (aA aB (ag 3) (dA ao))) (ah (ag 1) (ah dj aj))) (aq (aq (aq aL)))) ao)) (av (aS (aH a7 (aA aB (ag 4) ao) aC) (az (aI (a6 (ah aC (ah (bP fq rfl B.b_tuple Nw (ah (ag 3) aj)) (ah (aA aB (ag 4) ao) aj)))))) aT) (az (fw (i:=3) (by exact(aA aB (ag 4) ao)))))))) (az (aI (a6 (ah aC (ah (bP fq rfl B.b_tuple Nw (ah (ag 3) aj)) aj))))))))
theorem yN:FnScope ["_law_found","_law_due"] ["_law_found","_law_due"] (aN (top 52)):=⟨rfl,rfl,rfl,by decide +kernel,rfl,by decide +kernel,by decide +kernel⟩
theorem yY{P:MA}{w:ML}{K:Frag}{mg:Str->Option Mp}{base:Heap}{f:Addr}{fd:MS}(n:Nat)(B:Bi K mg)(F:Fun K "_law_same" "_law_same" (top 52) f fd)(Qaj:Fn P w K mg base "_law_same" ["_law_found","_law_due"] (0+n) (spM K 2 (bO n))):FnOk P w K mg base CX0 (0+n+1) f fd ["_law_found","_law_due"] (spM K 2 (bO (n+1))):=dfn F yN fun cdv A outer s H E hr=>(av (aS (a9 (Cb B.b_isinstance (ag 1) B.b_tuple B.b_list)) (av (aS (bE (cA (aH eO (bq .tup B.b_isinstance (ag 0) B.b_tuple Nw) (bq .tup B.b_isinstance (ag 1) B.b_tuple Nw)) (dh (aH eO (bq .lst B.b_isinstance (ag 0) B.b_list Qa) (bq .lst B.b_isinstance (ag 1) B.b_list Qa))))) (az (aI b6)) aT) (az (aI (dm (bM a7 (bh bF rfl B.b_len Nu (ah (ag 0) aj)) (bh bF rfl B.b_len Nu (ah (ag 1) aj))) (dz (bh mY rfl B.b_all UM (ah (cD (osc:=aN (top 52)) (N:=["_law_found","_law_due"]) (N':=["_law_found","_law_due"]) (x:="_law_k") ⟨rfl,by decide +kernel,by decide +kernel,rfl,by decide +kernel,by decide +kernel,by decide +kernel,by decide +kernel,rfl,by decide +kernel⟩ (jg rfl B.b_range (bh bF rfl B.b_len Nu (ah (ag 1) aj))) (fun C s0 H0 ex=>(aM Qaj (hr.mono (by omega)) rfl (ah (aA (eG hr) (ag 1) (ag 0)) (ah (aA (eG hr) (ag 2) (ag 0)) aj)) (aq (aq aL)))) (fun C s0 H0 ex=>de)) aj))))))) aT) (av (aS (a9 (bq .dct B.b_isinstance (ag 1) B.b_dict TY)) (av (aS (bE (cA (cN (a9 (bq .dct B.b_isinstance (ag 0) B.b_dict TY))) (dh (aH eO (bh bF rfl B.b_len Nu (ah (ag 0) aj)) (bh bF rfl B.b_len Nu (ah (ag 1) aj)))))) (az (aI b6)) aT) (az (aI (bh mY rfl B.b_all UM (ah (cD (osc:=aN (top 52)) (N:=["_law_found","_law_due"]) (N':=["_law_found","_law_due"]) (x:="_law_key") ⟨rfl,by decide +kernel,by decide +kernel,rfl,by decide +kernel,by decide +kernel,by decide +kernel,by decide +kernel,rfl,by decide +kernel⟩ (bI (ag 1)) (fun C s0 H0 ex=>(dm (bM (jq hr) (ag 0) (ag 1)) (dz (aM Qaj (hr.mono (by omega)) rfl (ah (aA (eG hr) (ag 1) (ag 0)) (ah (aA (eG hr) (ag 2) (ag 0)) aj)) (aq (aq aL)))))) (fun C s0 H0 ex=>de)) aj))))) aT) (av (aS (bE (cA (a9 (bq .bl B.b_isinstance (ag 1) B.b_bool RE)) (dh (aH kN (ag 1) dj)))) (az (aI (dm (bM a7 (bq .bl B.b_isinstance (ag 0) B.b_bool RE) (bq .bl B.b_isinstance (ag 1) B.b_bool RE)) (dz (bM a7 (ag 0) (ag 1)))))) aT) (av (aS (a9 (bq .int B.b_isinstance (ag 1) B.b_int Oz)) (az (aI (dm (bq .int B.b_isinstance (ag 0) B.b_int Oz) (dm (qa (bq .bl B.b_isinstance (ag 0) B.b_bool RE)) (dz (bM a7 (ag 0) (ag 1))))))) aT) (az (aI (dm (bq .str B.b_isinstance (ag 0) B.b_str QF) (dz (bM a7 (ag 0) (ag 1))))))))))
theorem sc__law_names:FnScope ["_law_tape","_law_many_here","_law_letters","_law_way","_law_at","_law_words","_law_tail"] ["_law_tape","_law_many_here"] (aN (top 53)):=⟨rfl,rfl,rfl,by decide +kernel,rfl,by decide +kernel,by decide +kernel⟩
theorem yG{P:MA}{w:ML}{K:Frag}{mg:Str->Option Mp}{base:Heap}{f:Addr}{fd:MS}(B:Bi K mg)(F:Fun K "_law_names" "_law_names" (top 53) f fd)(Qaa:Fn P w K mg base "_law_take" ["_law_tape","_law_many_here"] 1 (spM K 2 bi)):FnOk P w K mg base CX0 2 f fd ["_law_tape","_law_many_here"] (spM K 2 (eU)):=dfn F sc__law_names fun cdv A outer s H E hr=>(av (aV (i:=2) sc__law_names.nd aC) (av (aV (i:=3) sc__law_names.nd (aM Qaa (hr.mono (by omega)) rfl (ah (ag 0) (ah ao aj)) (aq (aq aL)))) (av (aV (i:=4) sc__law_names.nd (aM Qaa (hr.mono (by omega)) rfl (ah (ag 0) (ah ao aj)) (aq (aq aL)))) (av (aS (aH a7 (ag 3) ao) (av (aV (i:=5) sc__law_names.nd (cf (ah aC (ah aC (ah aC (ah aC (ah aC (ah aC (ah aC (ah aC (ah aC (ah aC (ah aC (ah aC aj)))))))))))))) (az (aI (cF (aQ ba (cF (ag 5) (bZ (ag 4)) df) (cF (ag 5) df (bZ (ag 4)))) df (bZ (ag 1)))))) aT) (av (aS (aH a7 (ag 3) ao) (az (aI (cD (osc:=aN (top 53)) (N:=["_law_tape","_law_many_here","_law_letters","_law_way","_law_at","_law_words","_law_tail"]) (N':=["_law_tape","_law_many_here","_law_letters","_law_way","_law_at","_law_words","_law_tail"]) (x:="_law_k") ⟨rfl,by decide +kernel,by decide +kernel,rfl,by decide +kernel,by decide +kernel,by decide +kernel,by decide +kernel,rfl,by decide +kernel⟩ (jg rfl B.b_range (ag 1)) (fun C s0 H0 ex=>(aQ fB (aA aB (ag 3) (aQ ba (ag 5) (aQ lX (ag 0) ao))) (aQ ba ao (aQ eJ (ag 0) ao)))) (fun C s0 H0 ex=>de)))) aT) (av (aV (i:=6) sc__law_names.nd (aQ fB (aA aB (ag 2) (ag 4)) (aM Qaa (hr.mono (by omega)) rfl (ah (ag 0) (ah (aQ gX ao (aQ eJ (ag 4) ao)) aj)) (aq (aq aL))))) (az (aI (cD (osc:=aN (top 53)) (N:=["_law_tape","_law_many_here","_law_letters","_law_way","_law_at","_law_words","_law_tail"]) (N':=["_law_tape","_law_many_here","_law_letters","_law_way","_law_at","_law_words","_law_tail"]) (x:="_law_k") ⟨rfl,by decide +kernel,by decide +kernel,rfl,by decide +kernel,by decide +kernel,by decide +kernel,by decide +kernel,rfl,by decide +kernel⟩ (jg rfl B.b_range (ag 1)) (fun C s0 H0 ex=>(aQ ba (aQ ba (aQ fB (aA aB (ag 3) (ag 5)) (aQ eJ (ag 5) ao)) (aA aB (ag 3) (aQ eJ (aQ ba (ag 5) (ag 0)) ao))) (ag 7))) (fun C s0 H0 ex=>de))))))))))
theorem sc__law_value:FnScope ["_law_tape","_law_names_here","_law_deep","_law_way","_law_some"] ["_law_tape","_law_names_here","_law_deep"] (aN (top 54)):=⟨rfl,rfl,rfl,by decide +kernel,rfl,by decide +kernel,by decide +kernel⟩
theorem yD{P:MA}{w:ML}{K:Frag}{mg:Str->Option Mp}{base:Heap}{f:Addr}{fd:MS}(n:Nat)(B:Bi K mg)(F:Fun K "_law_value" "_law_value" (top 54) f fd)(Qaa:Fn P w K mg base "_law_take" ["_law_tape","_law_many_here"] 1 (spM K 2 bi))(Qaf:Fn P w K mg base "_law_value" ["_law_tape","_law_names_here","_law_deep"] (1+n) (spM K 3 (cw n))):FnOk P w K mg base CX0 (1+n+1) f fd ["_law_tape","_law_names_here","_law_deep"] (spM K 3 (cw (n+1))):=dfn F sc__law_value fun cdv A outer s H E hr=>(av (aV (i:=3) sc__law_value.nd (aM Qaa (hr.mono (by omega)) rfl (ah (ag 0) (ah ao aj)) (aq (aq aL)))) (av (aV (i:=4) sc__law_value.nd (cf (ah ao (ah ao (ah (dA ao) (ah ao (ah (aQ ky ao ao) (ah (dA (aQ ky ao ao)) (ah aC (ah aC (ah aC (ah aC (ah (aQ fB aC ao) (ah (a6 aj) aj)))))))))))))) (av (aS (bE (cA (aH du (ag 3) ao) (dh (bE (cE (aH a7 (ag 2) ao) (cY (aH dv (ag 3) ao))))))) (az (aI (aA aB (ag 4) (aM Qaa (hr.mono (by omega)) rfl (ah (ag 0) (ah ao aj)) (aq (aq aL)))))) aT) (av (aS (aH du (ag 3) ao) (az (aI (aA aB (ag 1) (aM Qaa (hr.mono (by omega)) rfl (ah (ag 0) (ah (bh bF rfl B.b_len Nu (ah (ag 1) aj)) aj)) (aq (aq aL)))))) aT) (az (aI (bP fq rfl B.b_tuple Nw (ah (cD (osc:=aN (top 54)) (N:=["_law_tape","_law_names_here","_law_deep","_law_way","_law_some"]) (N':=["_law_tape","_law_names_here","_law_deep","_law_way","_law_some"]) (x:="_law_k") ⟨rfl,by decide +kernel,by decide +kernel,rfl,by decide +kernel,by decide +kernel,by decide +kernel,by decide +kernel,rfl,by decide +kernel⟩ (jg rfl B.b_range (aM Qaa (hr.mono (by omega)) rfl (ah (ag 0) (ah ao aj)) (aq (aq aL)))) (fun C s0 H0 ex=>(aM Qaf (hr.mono (by omega)) rfl (ah (ag 1) (ah (ag 2) (ah (aQ gX (ag 3) ao) aj))) (aq (aq (aq aL))))) (fun C s0 H0 ex=>de)) aj))))))))
theorem yo:FnScope ["_law_tape","_law_names_here","_law_many_here"] ["_law_tape","_law_names_here","_law_many_here"] (aN (top 55)):=⟨rfl,rfl,rfl,by decide +kernel,rfl,by decide +kernel,by decide +kernel⟩
theorem yp{P:MA}{w:ML}{K:Frag}{mg:Str->Option Mp}{base:Heap}{f:Addr}{fd:MS}(B:Bi K mg)(F:Fun K "_law_simple" "_law_simple" (top 55) f fd)(Qaa:Fn P w K mg base "_law_take" ["_law_tape","_law_many_here"] 1 (spM K 2 bi))(Qaf:Fn P w K mg base "_law_value" ["_law_tape","_law_names_here","_law_deep"] 26 (spM K 3 (cw 25))):FnOk P w K mg base CX0 27 f fd ["_law_tape","_law_names_here","_law_many_here"] (spM K 3 (fS)):=dfn F yo fun cdv A outer s H E hr=>(av (aS (bE (cE (aH dv (ag 2) ao) (cY (aH dv (aM Qaa (hr.mono (by omega)) rfl (ah (ag 0) (ah ao aj)) (aq (aq aL))) ao)))) (az (aI (a6 (ah aC (ah (aM Qaa (hr.mono (by omega)) rfl (ah (ag 0) (ah (ag 2) aj)) (aq (aq aL))) aj))))) aT) (az (aI (a6 (ah aC (ah (aM Qaf (hr.mono (by omega)) rfl (ah (ag 0) (ah (ag 1) (ah ao aj))) (aq (aq (aq aL)))) aj))))))
theorem sc__law_expr:FnScope ["_law_tape","_law_names_here","_law_many_here","_law_way","_law_one","_law_other"] ["_law_tape","_law_names_here","_law_many_here"] (aN (top 56)):=⟨rfl,rfl,rfl,by decide +kernel,rfl,by decide +kernel,by decide +kernel⟩
theorem y6{P:MA}{w:ML}{K:Frag}{mg:Str->Option Mp}{base:Heap}{f:Addr}{fd:MS}(B:Bi K mg)(F:Fun K "_law_expr" "_law_expr" (top 56) f fd)(Qaa:Fn P w K mg base "_law_take" ["_law_tape","_law_many_here"] 1 (spM K 2 bi))(Qaq:Fn P w K mg base "_law_simple" ["_law_tape","_law_names_here","_law_many_here"] 27 (spM K 3 fS)):FnOk P w K mg base CX0 28 f fd ["_law_tape","_law_names_here","_law_many_here"] (spM K 3 (fX)):=dfn F sc__law_expr fun cdv A outer s H E hr=>(av (aV (i:=3) sc__law_expr.nd (aM Qaa (hr.mono (by omega)) rfl (ah (ag 0) (ah ao aj)) (aq (aq aL)))) (av (aV (i:=4) sc__law_expr.nd (aM Qaq (hr.mono (by omega)) rfl (ah (ag 0) (ah (ag 1) (ah (ag 2) aj))) (aq (aq (aq aL))))) (av (aS (aH du (ag 3) ao) (az (aI (aA aB (cf (ah (ag 4) (ah (a6 (ah aC (ah (ag 4) aj))) aj))) (aQ lX (ag 3) ao)))) aT) (av (aV (i:=5) sc__law_expr.nd (aM Qaq (hr.mono (by omega)) rfl (ah (ag 0) (ah (ag 1) (ah (ag 2) aj))) (aq (aq (aq aL))))) (av (aS (aH a7 (ag 3) ao) (az (aI (a6 (ah aC (ah (cF (a6 (ah (ag 4) (ah (ag 5) aj))) df (bZ (aM Qaa (hr.mono (by omega)) rfl (ah (ag 0) (ah ao aj)) (aq (aq aL))))) aj))))) aT) (az (aI (a6 (ah (aA aB (cf (ah aC (ah aC (ah aC (ah aC (ah aC aj)))))) (aM Qaa (hr.mono (by omega)) rfl (ah (ag 0) (ah ao aj)) (aq (aq aL)))) (ah (ag 4) (ah (ag 5) aj)))))))))))
theorem sc__law_recipe:FnScope ["_law_tape","_law_names_here","_law_deep","_law_many_here","_law_peeks","_law_way","_law_expr_here","_law_word","_law_one"] ["_law_tape","_law_names_here","_law_deep","_law_many_here","_law_peeks"] (aN (top 57)):=⟨rfl,rfl,rfl,by decide +kernel,rfl,by decide +kernel,by decide +kernel⟩
theorem yr{P:MA}{w:ML}{K:Frag}{mg:Str->Option Mp}{base:Heap}{f:Addr}{fd:MS}(n:Nat)(B:Bi K mg)(F:Fun K "_law_recipe" "_law_recipe" (top 57) f fd)(Qaa:Fn P w K mg base "_law_take" ["_law_tape","_law_many_here"] 1 (spM K 2 bi))(Qbj:Fn P w K mg base "_law_expr" ["_law_tape","_law_names_here","_law_many_here"] 28 (spM K 3 fX))(Qah:Fn P w K mg base "_law_recipe" ["_law_tape","_law_names_here","_law_deep","_law_many_here","_law_peeks"] (28+n) (spM K 5 (bU n))):FnOk P w K mg base CX0 (28+n+1) f fd ["_law_tape","_law_names_here","_law_deep","_law_many_here","_law_peeks"] (spM K 5 (bU (n+1))):=dfn F sc__law_recipe fun cdv A outer s H E hr=>(av (aV (i:=5) sc__law_recipe.nd (aM Qaa (hr.mono (by omega)) rfl (ah (ag 0) (ah ao aj)) (aq (aq aL)))) (av (aV (i:=6) sc__law_recipe.nd (aM Qbj (hr.mono (by omega)) rfl (ah (ag 0) (ah (ag 1) (ah (ag 3) aj))) (aq (aq (aq aL))))) (av (aS (bE (cE (aH dv (ag 2) ao) (cY (aH du (ag 5) ao)))) (av (aV (i:=7) sc__law_recipe.nd (aA aB (cf (ah aC (ah aC aj))) (bP gx rfl B.b_int Oz (ah (dm (ag 4) (dz (bM a7 (aM Qaa (hr.mono (by omega)) rfl (ah (ag 0) (ah ao aj)) (aq (aq aL))) ao))) aj)))) (av (aS (aH dv (aM Qaa (hr.mono (by omega)) rfl (ah (ag 0) (ah ao aj)) (aq (aq aL))) ao) (az (aV (i:=6) sc__law_recipe.nd (a6 (ah aC (ah (aA aB (ag 1) (aM Qaa (hr.mono (by omega)) rfl (ah (ag 0) (ah (bh bF rfl B.b_len Nu (ah (ag 1) aj)) aj)) (aq (aq aL)))) aj))))) aT) (az (aI (a6 (ah (ag 7) (ah (ag 6) (ah (aM Qah (hr.mono (by omega)) rfl (ah (ag 0) (ah (ag 1) (ah (aQ gX (ag 2) ao) (ah (aQ ba (ag 3) ao) (ah (ag 4) aj))))) (aq (aq (aq (aq (aq aL)))))) aj)))))))) aT) (av (aS (bE (cE (aH dv (ag 2) ao) (cY (aH du (ag 5) ao)))) (av (aV (i:=8) sc__law_recipe.nd (aM Qah (hr.mono (by omega)) rfl (ah (ag 0) (ah (ag 1) (ah (aQ gX (ag 2) ao) (ah (ag 3) (ah (ag 4) aj))))) (aq (aq (aq (aq (aq aL))))))) (az (aI (a6 (ah aC (ah (ag 6) (ah (ag 8) (ah (aM Qah (hr.mono (by omega)) rfl (ah (ag 0) (ah (ag 1) (ah (aQ gX (ag 2) ao) (ah (ag 3) (ah (ag 4) aj))))) (aq (aq (aq (aq (aq aL)))))) aj)))))))) aT) (av (aS (bE (cE (aH a7 (ag 5) ao) (cY (aH a7 (aM Qaa (hr.mono (by omega)) rfl (ah (ag 0) (ah ao aj)) (aq (aq aL))) ao)))) (az (aI (a6 (ah aC (ah (aA aB (aQ ba (ag 1) (cf (ah aC (ah aC aj)))) (aM Qaa (hr.mono (by omega)) rfl (ah (ag 0) (ah (aQ ba (bh bF rfl B.b_len Nu (ah (ag 1) aj)) ao) aj)) (aq (aq aL)))) aj))))) aT) (az (aI (a6 (ah aC (ah (ag 6) aj))))))))))
theorem sc__law_book:FnScope ["_law_script","_law_at","_law_peeks","_law_head","_law_many_here","_law_names_here","_law_givens","_law_recipes","_law_k","_law_tape"] ["_law_script","_law_at","_law_peeks"] (aN (top 58)):=⟨rfl,rfl,rfl,by decide +kernel,rfl,by decide +kernel,by decide +kernel⟩
theorem y8{P:MA}{w:ML}{K:Frag}{mg:Str->Option Mp}{base:Heap}{f:Addr}{fd:MS}(B:Bi K mg)(F:Fun K "_law_book" "_law_book" (top 58) f fd)(Qae:Fn P w K mg base "_law_cell_at" ["_law_script","_law_k"] 1 (spM K 2 dI))(Qat:Fn P w K mg base "_law_draws" ["_law_cell","_law_many_here"] 1 (spM K 2 fU))(Qaa:Fn P w K mg base "_law_take" ["_law_tape","_law_many_here"] 1 (spM K 2 bi))(Qbd:Fn P w K mg base "_law_names" ["_law_tape","_law_many_here"] 2 (spM K 2 eU))(Qaf:Fn P w K mg base "_law_value" ["_law_tape","_law_names_here","_law_deep"] 26 (spM K 3 (cw 25)))(Qah:Fn P w K mg base "_law_recipe" ["_law_tape","_law_names_here","_law_deep","_law_many_here","_law_peeks"] 53 (spM K 5 (bU 25))):FnOk P w K mg base CX0 54 f fd ["_law_script","_law_at","_law_peeks"] (spM K 3 (ip)):=dfn F sc__law_book fun cdv A outer s H E hr=>(sN (i:=3) sc__law_book.nd (ah (aM Qat (hr.mono (by omega)) rfl (ah (aM Qae (hr.mono (by omega)) rfl (ah (ag 0) (ah (ag 1) aj)) (aq (aq aL))) (ah ao aj)) (aq (aq aL))) (ah ao aj)) (av (aV (i:=4) sc__law_book.nd (aQ ba ao (aM Qaa (hr.mono (by omega)) rfl (ah (ag 3) (ah ao aj)) (aq (aq aL))))) (av (aV (i:=5) sc__law_book.nd (aM Qbd (hr.mono (by omega)) rfl (ah (ag 3) (ah (aQ ba (ag 4) ao) aj)) (aq (aq aL)))) (av (pw (i:=6) sc__law_book.nd) (av (pw (i:=7) sc__law_book.nd) (av (gn (i:=8) sc__law_book.nd (jg rfl B.b_range (ag 4)) (sN (i:=9) sc__law_book.nd (ah (aM Qat (hr.mono (by omega)) rfl (ah (aQ ba (aM Qae (hr.mono (by omega)) rfl (ah (ag 0) (ah (aQ ba (aQ ba (ag 1) ao) (ag 8)) aj)) (aq (aq aL))) (aQ fB ao (ag 8))) (ah ao aj)) (aq (aq aL))) (ah ao aj)) (az (aS (aH a7 (aM Qaa (hr.mono (by omega)) rfl (ah (ag 9) (ah ao aj)) (aq (aq aL))) ao) (az (l9 (i:=6) hr (aA aB (ag 5) (ag 8)) (aM Qaf (hr.mono (by omega)) rfl (ah (ag 9) (ah (ag 5) (ah ao aj))) (aq (aq (aq aL)))))) (az (l9 (i:=7) hr (aA aB (ag 5) (ag 8)) (aM Qah (hr.mono (by omega)) rfl (ah (ag 9) (ah (ag 5) (ah (aQ ba ao (aM Qaa (hr.mono (by omega)) rfl (ah (ag 9) (ah ao aj)) (aq (aq aL)))) (ah ao (ah (ag 2) aj))))) (aq (aq (aq (aq (aq aL)))))))))))) (az (aI (a6 (ah (ag 6) (ah (ag 7) aj)))))))))))
theorem sc__law_ordered:FnScope ["_law_book_here","_law_good_here","_law_lines","_law_paper","_law_going","_law_line_here","_law_ahead"] ["_law_book_here","_law_good_here"] (aN (top 59)):=⟨rfl,rfl,rfl,by decide +kernel,rfl,by decide +kernel,by decide +kernel⟩
theorem yf{P:MA}{w:ML}{K:Frag}{mg:Str->Option Mp}{base:Heap}{f:Addr}{fd:MS}(B:Bi K mg)(F:Fun K "_law_ordered" "_law_ordered" (top 59) f fd)(Qbk:Fn P w K mg base "_law_line" ["_law_book_here","_law_good_here","_law_name"] 54 (spM K 3 gH)):FnOk P w K mg base CX0 55 f fd ["_law_book_here","_law_good_here"] (spM K 2 (ib)):=dfn F sc__law_ordered fun cdv A outer s H E hr=>(av (pz (i:=2) (osc:=aN (top 59)) (N:=["_law_book_here","_law_good_here","_law_lines","_law_paper","_law_going","_law_line_here","_law_ahead"]) (N':=["_law_book_here","_law_good_here","_law_lines","_law_paper","_law_going","_law_line_here","_law_ahead"]) (x:="_law_name") ⟨rfl,by decide +kernel,by decide +kernel,rfl,by decide +kernel,by decide +kernel,by decide +kernel,by decide +kernel,rfl,by decide +kernel⟩ sc__law_ordered.nd (bI (Ca B.b_sorted (aA aB (ag 0) ao))) (fun C s0 H0 ex=>(aM Qbk (hr.mono (by omega)) rfl (ah (ag 1) (ah (ag 2) (ah (ag 0) aj))) (aq (aq (aq aL))))) (fun C s0 H0 ex=>de)) (av (gP (i:=3) sc__law_ordered.nd aj) (av (aV (i:=4) sc__law_ordered.nd b6) (av (gM 100000 (a9 (ag 4)) (av (aV (i:=4) sc__law_ordered.nd b6) (az (gn (i:=5) sc__law_ordered.nd (bI (ag 2)) (av (aV (i:=6) sc__law_ordered.nd (aQ ba (uh (osc:=aN (top 59)) (N:=["_law_book_here","_law_good_here","_law_lines","_law_paper","_law_going","_law_line_here","_law_ahead"]) (N':=["_law_book_here","_law_good_here","_law_lines","_law_paper","_law_going","_law_line_here","_law_ahead"]) (x:="_law_one") ⟨rfl,by decide +kernel,by decide +kernel,rfl,by decide +kernel,by decide +kernel,by decide +kernel,by decide +kernel,rfl,by decide +kernel⟩ (bI (ag 3)) (fun C s0 H0 ex=>(aA aB (ag 0) ao)) (fun C s0 H0 ex=>de)) (bP pE rfl B.b_list Qa (ah (aA aB (ag 0) ao) aj)))) (az (aS (bE (cE (aH (BC hr) (ag 5) (ag 3)) (cY (aH (jr hr) (cD (osc:=aN (top 59)) (N:=["_law_book_here","_law_good_here","_law_lines","_law_paper","_law_going","_law_line_here","_law_ahead"]) (N':=["_law_book_here","_law_good_here","_law_lines","_law_paper","_law_going","_law_line_here","_law_ahead"]) (x:="_law_read") ⟨rfl,by decide +kernel,by decide +kernel,rfl,by decide +kernel,by decide +kernel,by decide +kernel,by decide +kernel,rfl,by decide +kernel⟩ (bI (aA aB (ag 5) ao)) (fun C s0 H0 ex=>(ag 0)) (fun C s0 H0 ex=>fj rfl (aH gc (aA aB (ag 0) ao) (ag 7)))) (cf aj))))) (av (fw (i:=3) (by exact(ag 5))) (az (aV (i:=4) sc__law_ordered.nd b6))) aT))))))) (az (aI (ag 3)))))))
theorem sc__law_leaning:FnScope ["_law_lines","_law_name","_law_ends","_law_found","_law_at","_law_line_here","_law_some"] ["_law_lines","_law_name"] (aN (top 60)):=⟨rfl,rfl,rfl,by decide +kernel,rfl,by decide +kernel,by decide +kernel⟩
theorem yg{P:MA}{w:ML}{K:Frag}{mg:Str->Option Mp}{base:Heap}{f:Addr}{fd:MS}(B:Bi K mg)(F:Fun K "_law_leaning" "_law_leaning" (top 60) f fd)  : FnOk P w K mg base CX0 1 f fd ["_law_lines","_law_name"] (spM K 2 (ic)):=dfn F sc__law_leaning fun cdv A outer s H E hr=>(av (aV (i:=2) sc__law_leaning.nd (DU B.b_dict (cD (osc:=aN (top 60)) (N:=["_law_lines","_law_name","_law_ends","_law_found","_law_at","_law_line_here","_law_some"]) (N':=["_law_lines","_law_name","_law_ends","_law_found","_law_at",".5.","_law_some"]) (x:="_law_line_here") ⟨rfl,by decide +kernel,by decide +kernel,rfl,by decide +kernel,by decide +kernel,by decide +kernel,by decide +kernel,rfl,by decide +kernel⟩ (bI (ag 0)) (fun C s0 H0 ex=>(a6 (ah (aA aB (ag 0) ao) (ah (ag 0) aj)))) (fun C s0 H0 ex=>de)))) (av (aV (i:=3) sc__law_leaning.nd (cf (ah (ag 1) aj))) (av (aV (i:=4) sc__law_leaning.nd ao) (av (gM 100000 (aH du (ag 4) (bh bF rfl B.b_len Nu (ah (ag 3) aj))) (av (aS (aH (jq hr) (aA aB (ag 3) (ag 4)) (ag 2)) (av (aV (i:=5) sc__law_leaning.nd (aA (eG hr) (ag 2) (aA aB (ag 3) (ag 4)))) (av (B5 (i:=6) (osc:=aN (top 60)) (N:=["_law_lines","_law_name","_law_ends","_law_found","_law_at","_law_line_here","_law_some"]) (N':=["_law_lines","_law_name","_law_ends","_law_found","_law_at","_law_line_here","_law_some"]) (x:="_law_read") ⟨rfl,by decide +kernel,by decide +kernel,rfl,by decide +kernel,by decide +kernel,by decide +kernel,by decide +kernel,rfl,by decide +kernel⟩ sc__law_leaning.nd (bI (aA aB (ag 5) ao)) (fun C s0 H0 ex=>(aA aB (ag 0) ao)) (fun C s0 H0 ex=>de)) (av (aS (aH a7 (aA aB (aA aB (ag 5) ao) ao) aC) (az (fw (i:=6) (by exact(aA aB (aA aB (ag 5) ao) ao)))) aT) (az (aV (i:=3) sc__law_leaning.nd (aQ ba (ag 3) (uh (osc:=aN (top 60)) (N:=["_law_lines","_law_name","_law_ends","_law_found","_law_at","_law_line_here","_law_some"]) (N':=["_law_lines","_law_name","_law_ends","_law_found","_law_at","_law_line_here","_law_some"]) (x:="_law_one") ⟨rfl,by decide +kernel,by decide +kernel,rfl,by decide +kernel,by decide +kernel,by decide +kernel,by decide +kernel,rfl,by decide +kernel⟩ (bI (ag 6)) (fun C s0 H0 ex=>(ag 0)) (fun C s0 H0 ex=>fj rfl (aH gc (ag 0) (ag 4)))))))))) aT) (az (aV (i:=4) sc__law_leaning.nd (aQ ba (ag 4) ao))))) (az (aI (cD (osc:=aN (top 60)) (N:=["_law_lines","_law_name","_law_ends","_law_found","_law_at","_law_line_here","_law_some"]) (N':=["_law_lines","_law_name","_law_ends","_law_found","_law_at",".5.","_law_some"]) (x:="_law_line_here") ⟨rfl,by decide +kernel,by decide +kernel,rfl,by decide +kernel,by decide +kernel,by decide +kernel,by decide +kernel,rfl,by decide +kernel⟩ (bI (ag 0)) (fun C s0 H0 ex=>(ag 0)) (fun C s0 H0 ex=>fj rfl (aH qB (aA aB (ag 0) ao) (ag 4))))))))))
theorem sc__law_refused:FnScope ["_law_paper","_law_name","e","_law_others"] ["_law_paper","_law_name"] (aN (top 61)):=⟨rfl,rfl,rfl,by decide +kernel,rfl,by decide +kernel,by decide +kernel⟩
theorem sc__law_right:FnScope ["_law_book_here","_law_good_here","_law_paper","_law_kept","_law_shown","_law_name"] ["_law_book_here","_law_good_here","_law_paper"] (aN (top 62)):=⟨rfl,rfl,rfl,by decide +kernel,rfl,by decide +kernel,by decide +kernel⟩
theorem yF{P:MA}{w:ML}{K:Frag}{mg:Str->Option Mp}{base:Heap}{f:Addr}{fd:MS}(B:Bi K mg)(F:Fun K "_law_right" "_law_right" (top 62) f fd)(Qbb:Fn P w K mg base "_law_result" ["_law_book_here","_law_good_here","_law_name"] 54 (spM K 3 ie))(Qap:Fn P w K mg base "result_by" ["paper","name"] 33 (spM K 2 fW))(Qaj:Fn P w K mg base "_law_same" ["_law_found","_law_due"] 25 (spM K 2 (bO 25)))(Qaw:Fn P w K mg base "_law_refused" ["_law_paper","_law_name"] 34 (spM K 2 gD)):FnOk P w K mg base CX0 55 f fd ["_law_book_here","_law_good_here","_law_paper"] (spM K 3 (et)):=dfn F sc__law_right fun cdv A outer s H E hr=>(av (aV (i:=3) sc__law_right.nd (bP qc rfl B.b_list Qa (ah (ag 2) aj))) (av (pz (i:=4) (osc:=aN (top 62)) (N:=["_law_book_here","_law_good_here","_law_paper","_law_kept","_law_shown","_law_name"]) (N':=["_law_book_here","_law_good_here","_law_paper","_law_kept","_law_shown","_law_name"]) (x:="_law_line_here") ⟨rfl,by decide +kernel,by decide +kernel,rfl,by decide +kernel,by decide +kernel,by decide +kernel,by decide +kernel,rfl,by decide +kernel⟩ sc__law_right.nd (bI (ag 2)) (fun C s0 H0 ex=>(aA aB (ag 0) ao)) (fun C s0 H0 ex=>de)) (av (gn (i:=5) sc__law_right.nd (bI (ag 4)) (az (aS (cN (a9 (aM Qaj (hr.mono (by omega)) rfl (ah (aM Qap (hr.mono (by omega)) rfl (ah (ag 2) (ah (ag 5) aj)) (aq (aq aL))) (ah (aM Qbb (hr.mono (by omega)) rfl (ah (ag 0) (ah (ag 1) (ah (ag 5) aj))) (aq (aq (aq aL)))) aj)) (aq (aq aL))))) (az (aI b6)) aT))) (av (gn (i:=5) sc__law_right.nd (bI (aQ ba (bh Cn rfl B.b_sorted boot_sorted (ah (aQ ba (bP pE rfl B.b_list Qa (ah (aA aB (ag 0) ao) aj)) (bP pE rfl B.b_list Qa (ah (aA aB (ag 0) ao) aj))) aj)) (cf (ah aC (ah aC aj))))) (az (aS (bE (cE (aH gc (ag 5) (ag 4)) (cY (cN (a9 (aM Qaj (hr.mono (by omega)) rfl (ah (aM Qaw (hr.mono (by omega)) rfl (ah (ag 2) (ah (ag 5) aj)) (aq (aq aL))) (ah (cf (ah b6 (ah b6 (ah (ag 5) aj)))) aj)) (aq (aq aL)))))))) (az (aI b6)) aT))) (az (aI (bM (jr hr) (ag 2) (ag 3))))))))
theorem sc_law:FnScope ["_law_script","_law_book_here","_law_good_here","_law_lines","_law_bad","_law_at","_law_line_here"] ["_law_script"] (aN (top 63)):=⟨rfl,rfl,rfl,by decide +kernel,rfl,by decide +kernel,by decide +kernel⟩
theorem E2{P:MA}{w:ML}{K:Frag}{mg:Str->Option Mp}{base:Heap}{f:Addr}{fd:MS}(B:Bi K mg)(F:Fun K "law" "law" (top 63) f fd)(Qbl:Fn P w K mg base "_law_book" ["_law_script","_law_at","_law_peeks"] 54 (spM K 3 ip))(Qbm:Fn P w K mg base "_law_good" ["_law_book_here"] 54 (spM K 1 il))(Qax:Fn P w K mg base "_law_ordered" ["_law_book_here","_law_good_here"] 55 (spM K 2 ib))(Qae:Fn P w K mg base "_law_cell_at" ["_law_script","_law_k"] 1 (spM K 2 dI))(Qal:Fn P w K mg base "_law_right" ["_law_book_here","_law_good_here","_law_paper"] 55 (spM K 3 et))(Qay:Fn P w K mg base "_law_leaning" ["_law_lines","_law_name"] 1 (spM K 2 ic)):FnOk P w K mg base CX0 56 f fd ["_law_script"] (spM K 1 (mP)):=dfn F sc_law fun cdv A outer s H E hr=>(av (aV (i:=1) sc_law.nd (aM Qbl (hr.mono (by omega)) rfl (ah (ag 0) (ah ao (ah b6 aj))) (aq (aq (aq aL))))) (av (aV (i:=2) sc_law.nd (aM Qbm (hr.mono (by omega)) rfl (ah (ag 1) aj) (aq aL))) (av (aV (i:=3) sc_law.nd (aM Qax (hr.mono (by omega)) rfl (ah (ag 1) (ah (ag 2) aj)) (aq (aq aL)))) (av (pz (i:=4) (osc:=aN (top 63)) (N:=["_law_script","_law_book_here","_law_good_here","_law_lines","_law_bad","_law_at","_law_line_here"]) (N':=["_law_script","_law_book_here","_law_good_here","_law_lines","_law_bad","_law_at",".6."]) (x:="_law_line_here") ⟨rfl,by decide +kernel,by decide +kernel,rfl,by decide +kernel,by decide +kernel,by decide +kernel,by decide +kernel,rfl,by decide +kernel⟩ sc_law.nd (bI (ag 3)) (fun C s0 H0 ex=>(ag 0)) (fun C s0 H0 ex=>fj rfl (aH eO (aA aB (aA aB (ag 0) ao) ao) aC))) (av (aV (i:=5) sc_law.nd (aQ eJ (aM Qae (hr.mono (by omega)) rfl (ah (ag 0) (ah ao aj)) (aq (aq aL))) (aQ ba (bh bF rfl B.b_len Nu (ah (ag 4) aj)) ao))) (av (aV (i:=3) sc_law.nd (aQ ba (aQ ba (cD (osc:=aN (top 63)) (N:=["_law_script","_law_book_here","_law_good_here","_law_lines","_law_bad","_law_at","_law_line_here"]) (N':=["_law_script","_law_book_here","_law_good_here","_law_lines","_law_bad","_law_at",".6."]) (x:="_law_line_here") ⟨rfl,by decide +kernel,by decide +kernel,rfl,by decide +kernel,by decide +kernel,by decide +kernel,by decide +kernel,rfl,by decide +kernel⟩ (bI (ag 3)) (fun C s0 H0 ex=>(ag 0)) (fun C s0 H0 ex=>fj rfl (aH a7 (aA aB (aA aB (ag 0) ao) ao) aC))) (cF (ag 4) (bZ (ag 5)) df)) (cF (ag 4) df (bZ (ag 5))))) (av (aS (bE (cA (cN (a9 (aM Qal (hr.mono (by omega)) rfl (ah (ag 1) (ah (ag 2) (ah (ag 3) aj))) (aq (aq (aq aL)))))) (dh (cN (a9 (aM Qal (hr.mono (by omega)) rfl (ah (ag 1) (ah (ag 2) (ah (cf aj) aj))) (aq (aq (aq aL))))))))) (az (aI b6)) aT) (av (gn (i:=6) sc_law.nd (bI (ag 3)) (az (aS (cN (a9 (aM Qal (hr.mono (by omega)) rfl (ah (ag 1) (ah (ag 2) (ah (aM Qay (hr.mono (by omega)) rfl (ah (ag 3) (ah (aA aB (ag 6) ao) aj)) (aq (aq aL))) aj))) (aq (aq (aq aL)))))) (az (aI b6)) aT))) (az (aI b6))))))))))
theorem Ez:FnScope ["self","name"] ["self","name"] (aN (jD 4 0)):=⟨rfl,rfl,rfl,by decide +kernel,rfl,by decide +kernel,by decide +kernel⟩
theorem E3{P:MA}{w:ML}{K:Frag}{mg:Str->Option Mp}{base:Heap}{f:Addr}{fd:MS}{C R:Addr}{Ds:List Addr}(x:XE.XB K C R "name" Ds)(mR:mg "RedoError"=some (.ref R))(F:Fun K "__init__" "NoLine.__init__" (jD 4 0) f fd) :
  FnOk P w K mg base CX0 1 f fd ["self","name"] (XE.spI C "name"):=by
 refine F.ok Ez (fun vs H Q E h=>?_) (fun cdv A outer s H vs Q E hr h=>?_)
 .obtain⟨a,y,rfl,_⟩:=h
  rfl
 .exact⟨_,f9 (lU (XE.ES x.c x.r x.ri rfl mR x.rd x.fc (pv 0) (XE.GC (j:=0) (pv 1)))) (iz (XE.Gv x.c x.sa x.nn (pv 0) (pv 1))),XE.BU (by decide) h⟩
theorem Hq{P:MA}{w:ML}{K:Frag}{mg:Str->Option Mp}{base:Heap}{C R:Addr}{Ds:List Addr}(x:XE.XB K C R "name" Ds)(mR:mg "RedoError"=some (.ref R))(d:DfM K C "__init__" "NoLine.__init__" (jD 4 0)):XE.XIni P w K mg base C R "name" 1:=by
 obtain⟨f,oc,od,an,sl,kV,dc,pm,cd,ct,a,l,c,kp,fn⟩:=d.ex;have F:=mB (st:=jD 4 0) l c kp;exact⟨⟨f,_,_,E3 x mR F,F.binds (ps:=["self","name"]) (fun _ _ _ _ _ _ us hl=>match us,hl with | [_,_],_=>rfl),a,fn⟩,x.c,x.r,x.ri,x.kp⟩
theorem yB{P:MA}{w:ML}{K:Frag}{mg:Str->Option Mp}{base:Heap}{f:Addr}{fd:MS}{C R:Addr}(B:Bi K mg)(F:Fun K "result_by" "result_by" (top 34) f fd)(Qac:Fn P w K mg base "lines_by_names" ["lines"] 1 (spM K 1 fO))
  (XI:XE.XIni P w K mg base C R "name" 1) (mC:mg "NoLine"=some (.ref C)):FnOk P w K mg base (XE.CXx P w) 33 f fd ["paper","name"] (XE.spX K 2 C "name" k8):=by
 refine XE.okX F sc_result_by (fun vs H Q E h=>?_) (fun cdv A outer s H vs Q E hr h=>?_)
 .obtain⟨O,ts,T,ws,x,T',hc,rw',hl,_⟩:=h
  exact(Om rw').trans hl
 .obtain⟨O,ts,T,ws,x,T',hc,rw',hl,hn,e,q⟩:=h
  refine⟨_,f9 (DS.pe (aV (i:=2) sc_result_by.nd (aM Qac (hr.mono (by omega)) rfl (ah (ag 0) aj) (aq aL)))) (f9 (qj (DT.pe (aH (lI hr) (ag 1) (ag 2))) (iz (XE.Br XI.c (XE.EN XI (hr.mono (by omega)) rfl mC (pv 1)))) oW) (iz (DS.pe uY))),?_⟩;have rs:=XE.Bg (N:=["paper","name","lines"]) hc rw' hn;unfold k8 at e;obtain⟨⟨fl,ρ1⟩,T1,e1,e⟩:=aO e
  cases fl with
  |nx=>
   refine⟨O,H,[],ts,O,_,T,.nx,ρ1,T1,rs,e1,fun O' σ' H' rs1=>?_⟩;obtain⟨b,T2,e2,e⟩:=aO e
   cases b with
   |true=>
    refine⟨O',ts,ρ1,T1,true,T2,rs1.hc,rs1.re,e2,fun H2 s2 hc2=>dG ?_⟩;rw[if_pos rfl] at e;split at e
    .rename_i y h1
     split at e
     .rename_i hz
      cases e;exact XE.zI (rs1.step s2 hc2) h1 hz q
     .cases e
    .cases e
   |false=>
    rw[if_neg MF] at e;cases e
  |rt y=>cases e
  |bk=>cases e
  |ct=>cases e
  |ro y=>cases e
theorem ye{P:MA}{w:ML}{K:Frag}{mg:Str->Option Mp}{base:Heap}{f:Addr}{fd:MS}(B:Bi K mg)(F:Fun K "_law_refused" "_law_refused" (top 61) f fd)(Qap:Fn P w K mg base "result_by" ["paper","name"] 33 (spM K 2 fW))(Qac:Fn P w K mg base "lines_by_names" ["lines"] 1 (spM K 1 fO)):FnOk P w K mg base CX0 34 f fd ["_law_paper","_law_name"] (spM K 2 (gD)):=by
 obtain⟨C,R,A1,A2,A3,A4,x,mC,mR,m1,m2,m3,m4,di⟩:=B.xc;obtain⟨fl,fdl,Fl,ml⟩:=B.xl;have XI:XE.XIni P w K mg base C R "name" 1:=Hq x mR di;have FL:=yB B Fl Qac XI mC;have BL:L2.Binds K fdl ["paper","name"] []:=Fl.binds (fun _ _ _ _ _ _ us hl=>match us,hl with | [_,_],_=>rfl);refine F.ok sc__law_refused (fun vs H Q E h=>?_) (fun cdv A outer s H vs Q E hr h=>?_)
 .obtain⟨O,ts,T,ws,y,T',hc,rw',hl,_⟩:=h
  exact(Om rw').trans hl
 .obtain⟨O,ts,T,ws,y,T',hc,rw',hl,e,q⟩:=h
  refine⟨_,f9 (XE.EI (C:=C) (R:=R) (i:=2) FL (hr.mono (by omega)) rfl ml Fl.kp BL (bj (pv 0) (bj (pv 1) bJ)) x.c x.r rfl mR sc__law_refused.nd (fun e oe dx h1 h2 h3=>f9 (gi (i:=3) sc__law_refused.nd rfl (.inl rfl)
    (wx (XE.C6 (Ds:=[A1,A2,A3,A4]) (C:=C) ⟨Mq,h1,h2,h3,x.is,x.hd⟩ (pv 2) rfl B.b_isinstance (bj (iB (v:=.ref A1) rfl m1 rfl) (bj (iB (v:=.ref A2) rfl m2 rfl) (bj (iB (v:=.ref A3) rfl m3 rfl) (bj (iB (v:=.ref A4) rfl m4 rfl) bJ)))) (fun _ _ _ z=>z) (show 4<=100 by decide) x.kD)
     (pT (vD (XE.C7 (T:="") (C:=C) ⟨Mq,h1,h2,h3,x.is,x.hd⟩ (pv 2) rfl B.b_isinstance rfl B.b_ValueError x.kV)))))
    (iz (ka (gQ (bj (XE.vF (C:=C) ⟨Mq,h1,h2,h3,x.is,x.hd⟩ (pv 2) rfl B.b_isinstance rfl mC x.kC) (bj (pv 3) (bj (vH (XE.vF (C:=C) ⟨Mq,h1,h2,h3,x.is,x.hd⟩ (pv 2) rfl B.b_isinstance rfl mC x.kC) (pT (XE.Gx (C:=C) ⟨Mq,h1,h2,h3,x.is,x.hd⟩ (pv 2) x.nn))) bJ)))))))) (iz (ka (gQ bJ))),?_⟩
  unfold gD at e;split at e
  .rename_i hz
   obtain⟨x0,T1,e1,e⟩:=aO e;cases e
   obtain⟨v0,v1,rfl⟩:∃a b,vs=[a,b]:=by
    have hv:vs.length=2:=(Om rw').trans hl
    match vs,hv with
    |[a,b],_=>exact⟨a,b,rfl⟩
   refine⟨v0,rfl,v1,rfl,O,ts,T,ws,x0,_,hc,rw',hl,hz.2,e1,fun dx H' s1 hc1 hx=>⟨rfl,dx,rfl,fun e=>?_⟩⟩;refine⟨rfl,⟨_,hx⟩,fun p hp=>⟨false,rfl,dW ⟨rfl,⟨_,(aP (cx hx hp)).trans hx⟩,true,rfl,?_⟩⟩⟩;refine⟨rfl,⟨_,(aP (cx hx hp)).trans hx⟩,.bl false,rfl,rfl,⟨_,(aP (cx hx hp)).trans hx⟩,true,rfl,dG ⟨rfl,_,.str x0,(aP (cx hx hp)).trans hx,rfl,(by show 3<=Mz;decide),fun l hl=>?_⟩⟩;exact q _ _ ((s1.trans (.new hp _)).trans (.new hl _)) ((hc1.new hp _).new hl _) ((hc1.new hp _).newL hl (.cons (.bl _) (.cons (.bl _) (.cons (.str _) .nil))))
  .cases e
theorem cQ{α:Type}{us:List α}(h:us.length=1):∃a,us=[a]:=List.length_eq_one_iff.mp h
theorem cH{α:Type}:∀{us:List α},us.length=2->∃a b,us=[a,b]
 |[a,b],_=>⟨a,b,rfl⟩
theorem dF{α:Type}:∀{us:List α},us.length=3->∃a b c,us=[a,b,c]
 |[a,b,c],_=>⟨a,b,c,rfl⟩
theorem qE{α:Type}:∀{us:List α},us.length=5->∃a b c d e,us=[a,b,c,d,e]
 |[a,b,c,d,e],_=>⟨a,b,c,d,e,rfl⟩
theorem all_mk{l:RY}{K:Frag}{h:Heap}{mg:Str->Option Mp}(X:K.In h)(G:h.Ns MT mg)(hfa:mg "law"=some (.ref fa))(q_NoLine:M6 K MT "NoLine"=some (some (.ref xC)))(q_RedoError:M6 K MT "RedoError"=some (some (.ref xR)))(q_BadLine:M6 K MT "BadLine"=some (some (.ref xA1)))(q_NoName:M6 K MT "NoName"=some (some (.ref xA2)))(q_NoThing:M6 K MT "NoThing"=some (some (.ref xA3)))(q_NotMade:M6 K MT "NotMade"=some (some (.ref xA4)))(xb:XE.XB K xC xR "name" [xA1,xA2,xA3,xA4])(Qbz:DfM K xC "__init__" "NoLine.__init__" (jD 4 0))(d_is_whole:Df K "is_whole" (top 13))(d_has_only:Df K "has_only" (top 14))(d_is_single:Df K "is_single" (top 15))(d_is_built:Df K "is_built" (top 16))(d_many_of:Df K "many_of" (top 18))(d_is_value:Df K "is_value" (top 17))(d_is_figures:Df K "is_figures" (top 28))(d_number_by:Df K "number_by" (top 27))(d_single_by:Df K "single_by" (top 26))(d_single_at:Df K "single_at" (top 25))(d_row_at:Df K "row_at" (top 24))(d_value_at:Df K "value_at" (top 23))(d_value_by:Df K "value_by" (top 22))(d_lines_by_names:Df K "lines_by_names" (top 30))(d_result_along:Df K "result_along" (top 32))(d_result_by:Df K "result_by" (top 34))(d__law_cell_at:Df K "_law_cell_at" (top 36))(d__law_draws:Df K "_law_draws" (top 37))(d__law_take:Df K "_law_take" (top 38))(d__law_many:Df K "_law_many" (top 39))(d__law_is_name:Df K "_law_is_name" (top 40))(d__law_is_part:Df K "_law_is_part" (top 41))(d__law_is_value:Df K "_law_is_value" (top 42))(d__law_stamp:Df K "_law_stamp" (top 43))(d__law_of_two:Df K "_law_of_two" (top 44))(d__law_told:Df K "_law_told" (top 45))(d__law_value_by:Df K "_law_value_by" (top 46))(d__law_next:Df K "_law_next" (top 47))(d__law_run:Df K "_law_run" (top 48))(d__law_good:Df K "_law_good" (top 49))(d__law_line:Df K "_law_line" (top 50))(d__law_result:Df K "_law_result" (top 51))(d__law_same:Df K "_law_same" (top 52))(d__law_names:Df K "_law_names" (top 53))(d__law_value:Df K "_law_value" (top 54))(d__law_simple:Df K "_law_simple" (top 55))(d__law_expr:Df K "_law_expr" (top 56))(d__law_recipe:Df K "_law_recipe" (top 57))(d__law_book:Df K "_law_book" (top 58))(d__law_ordered:Df K "_law_ordered" (top 59))(d__law_leaning:Df K "_law_leaning" (top 60))(d__law_refused:Df K "_law_refused" (top 61))(d__law_right:Df K "_law_right" (top 62))(d_law:Df K "law" (top 63))(z_ValueError:M6 K MT "ValueError"=some none)(Qca:M6 K MT "abs"=some none)(Qcb:M6 K MT "all"=some none)(Qbv:M6 K MT "bool"=some none)(Qbw:M6 K MT "dict"=some none)(Qcc:M6 K MT "int"=some none)(Qbr:M6 K MT "isinstance"=some none)(Qcd:M6 K MT "len"=some none)(Qbx:M6 K MT "list"=some none)(Qbt:M6 K MT "range"=some none)(Qby:M6 K MT "repr"=some none)(Qbs:M6 K MT "sorted"=some none)(Qce:M6 K MT "str"=some none)(Qcf:M6 K MT "sum"=some none)(Qbu:M6 K MT "tuple"=some none)(y_FIGURES:M6 K MT "FIGURES"=some (some (.str "0123456789" t_FIGURES)))(y_MOST_FIGURES:M6 K MT "MOST_FIGURES"=some (some (.int 19 t_MOST_FIGURES)))(y_MOST_PARTS:M6 K MT "MOST_PARTS"=some (some (.int 8 t_MOST_PARTS)))(y_MOST_ROWS:M6 K MT "MOST_ROWS"=some (some (.int 4 t_MOST_ROWS)))(y_MOST_SIGNS:M6 K MT "MOST_SIGNS"=some (some (.int 20 t_MOST_SIGNS)))(y_MOST_VALUES:M6 K MT "MOST_VALUES"=some (some (.int 40 t_MOST_VALUES)))(y_TEXT_SIGNS:M6 K MT "TEXT_SIGNS"=some (some (.str "abcdefghijklmnopqrstuvwxyz0123456789-" t_TEXT_SIGNS)))
  (hm:∀ns:List Int,ns.length<=63->∃T',mP [.d (d8 ns)] []=some (.bool true,T')) :
  ∃fd:MS,(∀(s:Ms) (v:Mp),Sy s fd ⟨[v],[]⟩ [("_law_script",v)])/\∀base:Heap,K.In base->base.Ns MT mg->FnOk l.prog w K mg base CX0 56 fa fd ["_law_script"] (mK K):=by
 have B:Bi K mg:=⟨Nh X G z_ValueError,Nh X G Qca,Nh X G Qcb,Nh X G Qbv,Nh X G Qbw,Nh X G Qcc,Nh X G Qbr,Nh X G Qcd,Nh X G Qbx,Nh X G Qbt,Nh X G Qby,Nh X G Qbs,Nh X G Qce,Nh X G Qcf,Nh X G Qbu,⟨_,NC X G y_FIGURES⟩,⟨_,NC X G y_MOST_FIGURES⟩,⟨_,NC X G y_MOST_PARTS⟩,⟨_,NC X G y_MOST_ROWS⟩,⟨_,NC X G y_MOST_SIGNS⟩,⟨_,NC X G y_MOST_VALUES⟩,⟨_,NC X G y_TEXT_SIGNS⟩,⟨_,_,_,_,_,_,xb,NC X G q_NoLine,NC X G q_RedoError,NC X G q_BadLine,NC X G q_NoName,NC X G q_NoThing,NC X G q_NotMade,Qbz⟩,let ⟨f,_,_,_,_,_,_,_,_,_,a,lk,c,kp⟩:=d_result_by.ex;⟨f,_,mB lk c kp,NC X G a⟩⟩;obtain⟨f0,oc,od,an,sl,kV,dc,pm,cd,ct,a,lk,c,kp⟩:=d_law.ex;have e:=hfa.symm.trans (NC X G a);cases e;have FL:=mB (st:=top 63) lk c kp;refine⟨Od "law" "law" (fm (top 63)) (dM (top 63)) (aN (top 63)) .none kV dc pm an cd ct,fun s v=>.of_eq rfl,fun base _ _=>?_⟩;have Qbn:Fn l.prog w K mg base "is_whole" ["thing"] 1 (spM K 1 i5):=d_is_whole.fn X G (fun _ _ _ _ _ _ _ h=>by obtain⟨_,rfl⟩:=cQ h;rfl) fun f fd F=>zo B F;have Qam:Fn l.prog w K mg base "has_only" ["text","signs"] 1 (spM K 2 eX):=d_has_only.fn X G (fun _ _ _ _ _ _ _ h=>by obtain⟨_,_,rfl⟩:=cH h;rfl) fun f fd F=>zr B F;have Qbe:Fn l.prog w K mg base "is_single" ["thing"] 2 (spM K 1 ik):=d_is_single.fn X G (fun _ _ _ _ _ _ _ h=>by obtain⟨_,rfl⟩:=cQ h;rfl) fun f fd F=>yV B F Qbn Qam
 have R_is_built:∀n:Nat,Fn l.prog w K mg base "is_built" ["thing","rows_left"] (2+n) (spM K 2 (dJ n)):=by
  intro n
  induction n with
  |zero=>exact d_is_built.fn X G (fun _ _ _ _ _ _ _ h=>by obtain⟨_,_,rfl⟩:=cH h;rfl) fun f fd F=>eC
  |succ n ih=>exact d_is_built.fn X G (fun _ _ _ _ _ _ _ h=>by obtain⟨_,_,rfl⟩:=cH h;rfl) fun f fd F=>zq n B F Qbe ih
 have Qar:=R_is_built 25
 have R_many_of:∀n:Nat,Fn l.prog w K mg base "many_of" ["value"] (0+n) (spM K 1 (eZ n)):=by
  intro n
  induction n with
  |zero=>exact d_many_of.fn X G (fun _ _ _ _ _ _ _ h=>by obtain⟨_,rfl⟩:=cQ h;rfl) fun f fd F=>eC
  |succ n ih=>exact d_many_of.fn X G (fun _ _ _ _ _ _ _ h=>by obtain⟨_,rfl⟩:=cQ h;rfl) fun f fd F=>zM n B F ih
 have Qaz:=R_many_of 25;have Qbo:Fn l.prog w K mg base "is_value" ["thing"] 28 (spM K 1 iu):=d_is_value.fn X G (fun _ _ _ _ _ _ _ h=>by obtain⟨_,rfl⟩:=cQ h;rfl) fun f fd F=>zp B F Qar Qaz;have Qbc:Fn l.prog w K mg base "is_figures" ["text"] 2 (spM K 1 eS):=d_is_figures.fn X G (fun _ _ _ _ _ _ _ h=>by obtain⟨_,rfl⟩:=cQ h;rfl) fun f fd F=>yC B F Qam;have Qbf:Fn l.prog w K mg base "number_by" ["word"] 3 (spM K 1 ij):=d_number_by.fn X G (fun _ _ _ _ _ _ _ h=>by obtain⟨_,rfl⟩:=cQ h;rfl) fun f fd F=>yU B F Qbc;have Qbg:Fn l.prog w K mg base "single_by" ["word"] 4 (spM K 1 ig):=d_single_by.fn X G (fun _ _ _ _ _ _ _ h=>by obtain⟨_,rfl⟩:=cQ h;rfl) fun f fd F=>yR B F Qbf;have Qbh:Fn l.prog w K mg base "single_at" ["text","at"] 5 (spM K 2 gF):=d_single_at.fn X G (fun _ _ _ _ _ _ _ h=>by obtain⟨_,_,rfl⟩:=cH h;rfl) fun f fd F=>yS B F Qbg
 have R_row_at:∀n:Nat,Fn l.prog w K mg base "row_at" ["text","at","rows_left"] (5+n) (spM K 3 (gL n))/\Fn l.prog w K mg base "value_at" ["text","at","rows_left"] (5+n) (spM K 3 (da n)):=by
  intro n
  induction n with
  |zero=>exact⟨d_row_at.fn X G (fun _ _ _ _ _ _ _ h=>by obtain⟨_,_,_,rfl⟩:=dF h;rfl) fun f fd F=>eC,d_value_at.fn X G (fun _ _ _ _ _ _ _ h=>by obtain⟨_,_,_,rfl⟩:=dF h;rfl) fun f fd F=>eC⟩
  |succ n ih=>exact⟨d_row_at.fn X G (fun _ _ _ _ _ _ _ h=>by obtain⟨_,_,_,rfl⟩:=dF h;rfl) fun f fd F=>Am n B F ih.2,d_value_at.fn X G (fun _ _ _ _ _ _ _ h=>by obtain⟨_,_,_,rfl⟩:=dF h;rfl) fun f fd F=>zm n B F Qbh ih.1⟩
 have Qbq:=(R_row_at 25).1;have Qas:=(R_row_at 25).2;have Qbp:Fn l.prog w K mg base "value_by" ["text"] 31 (spM K 1 ir):=d_value_by.fn X G (fun _ _ _ _ _ _ _ h=>by obtain⟨_,rfl⟩:=cQ h;rfl) fun f fd F=>zl B F Qas Qbo;have Qac:Fn l.prog w K mg base "lines_by_names" ["lines"] 1 (spM K 1 fO):=d_lines_by_names.fn X G (fun _ _ _ _ _ _ _ h=>by obtain⟨_,rfl⟩:=cQ h;rfl) fun f fd F=>xY B F;have Qau:Fn l.prog w K mg base "result_along" ["lines","name"] 32 (spM K 2 iY):=d_result_along.fn X G (fun _ _ _ _ _ _ _ h=>by obtain⟨_,_,rfl⟩:=cH h;rfl) fun f fd F=>yd B F Qbp;have Qap:Fn l.prog w K mg base "result_by" ["paper","name"] 33 (spM K 2 fW):=d_result_by.fn X G (fun _ _ _ _ _ _ _ h=>by obtain⟨_,_,rfl⟩:=cH h;rfl) fun f fd F=>yT B F Qac Qau;have Qae:Fn l.prog w K mg base "_law_cell_at" ["_law_script","_law_k"] 1 (spM K 2 dI):=d__law_cell_at.fn X G (fun _ _ _ _ _ _ _ h=>by obtain⟨_,_,rfl⟩:=cH h;rfl) fun f fd F=>yj B F;have Qat:Fn l.prog w K mg base "_law_draws" ["_law_cell","_law_many_here"] 1 (spM K 2 fU):=d__law_draws.fn X G (fun _ _ _ _ _ _ _ h=>by obtain⟨_,_,rfl⟩:=cH h;rfl) fun f fd F=>yH B F;have Qaa:Fn l.prog w K mg base "_law_take" ["_law_tape","_law_many_here"] 1 (spM K 2 bi):=d__law_take.fn X G (fun _ _ _ _ _ _ _ h=>by obtain⟨_,_,rfl⟩:=cH h;rfl) fun f fd F=>yX B F
 have R__law_many:∀n:Nat,Fn l.prog w K mg base "_law_many" ["_law_value_here"] (0+n) (spM K 1 (eW n)):=by
  intro n
  induction n with
  |zero=>exact d__law_many.fn X G (fun _ _ _ _ _ _ _ h=>by obtain⟨_,rfl⟩:=cQ h;rfl) fun f fd F=>eC
  |succ n ih=>exact d__law_many.fn X G (fun _ _ _ _ _ _ _ h=>by obtain⟨_,rfl⟩:=cQ h;rfl) fun f fd F=>y0 n B F ih
 have Qan:=R__law_many 25;have Qav:Fn l.prog w K mg base "_law_is_name" ["_law_thing"] 1 (spM K 1 fR):=d__law_is_name.fn X G (fun _ _ _ _ _ _ _ h=>by obtain⟨_,rfl⟩:=cQ h;rfl) fun f fd F=>yi B F
 have R__law_is_part:∀n:Nat,Fn l.prog w K mg base "_law_is_part" ["_law_thing","_law_deep"] (0+n) (spM K 2 (c8 n)):=by
  intro n
  induction n with
  |zero=>exact d__law_is_part.fn X G (fun _ _ _ _ _ _ _ h=>by obtain⟨_,_,rfl⟩:=cH h;rfl) fun f fd F=>eC
  |succ n ih=>exact d__law_is_part.fn X G (fun _ _ _ _ _ _ _ h=>by obtain⟨_,_,rfl⟩:=cH h;rfl) fun f fd F=>yh n B F ih
 have Qak:=R__law_is_part 25;have Qab:Fn l.prog w K mg base "_law_is_value" ["_law_thing"] 26 (spM K 1 dH):=d__law_is_value.fn X G (fun _ _ _ _ _ _ _ h=>by obtain⟨_,rfl⟩:=cQ h;rfl) fun f fd F=>x9 B F Qak Qan
 have R__law_stamp:∀n:Nat,Fn l.prog w K mg base "_law_stamp" ["_law_value_here"] (0+n) (spM K 1 (cJ n)):=by
  intro n
  induction n with
  |zero=>exact d__law_stamp.fn X G (fun _ _ _ _ _ _ _ h=>by obtain⟨_,rfl⟩:=cQ h;rfl) fun f fd F=>eC
  |succ n ih=>exact d__law_stamp.fn X G (fun _ _ _ _ _ _ _ h=>by obtain⟨_,rfl⟩:=cQ h;rfl) fun f fd F=>yE n B F ih
 have Qad:=R__law_stamp 25;have Qba:Fn l.prog w K mg base "_law_of_two" ["_law_kind","_law_one","_law_other"] 27 (spM K 3 bC):=d__law_of_two.fn X G (fun _ _ _ _ _ _ _ h=>by obtain⟨_,_,_,rfl⟩:=dF h;rfl) fun f fd F=>yt B F Qab
 have R__law_told:∀n:Nat,Fn l.prog w K mg base "_law_told" ["_law_expr_here","_law_got"] (27+n) (spM K 2 (b9 n)):=by
  intro n
  induction n with
  |zero=>exact d__law_told.fn X G (fun _ _ _ _ _ _ _ h=>by obtain⟨_,_,rfl⟩:=cH h;rfl) fun f fd F=>eC
  |succ n ih=>exact d__law_told.fn X G (fun _ _ _ _ _ _ _ h=>by obtain⟨_,_,rfl⟩:=cH h;rfl) fun f fd F=>yW n B F ih Qab Qba
 have Qao:=R__law_told 25;have Qag:Fn l.prog w K mg base "_law_value_by" ["_law_text"] 27 (spM K 1 fQ):=d__law_value_by.fn X G (fun _ _ _ _ _ _ _ h=>by obtain⟨_,rfl⟩:=cQ h;rfl) fun f fd F=>x8 B F Qab Qad;have Qbi:Fn l.prog w K mg base "_law_next" ["_law_word","_law_good_here","_law_row","_law_at","_law_name"] 28 (spM K 5 gG):=d__law_next.fn X G (fun _ _ _ _ _ _ _ h=>by obtain⟨_,_,_,_,_,rfl⟩:=qE h;rfl) fun f fd F=>yZ B F Qag;have Qai:Fn l.prog w K mg base "_law_run" ["_law_recipe_here","_law_good_here","_law_row"] 53 (spM K 3 d0):=d__law_run.fn X G (fun _ _ _ _ _ _ _ h=>by obtain⟨_,_,_,rfl⟩:=dF h;rfl) fun f fd F=>zu B F Qao Qad Qav Qbi;have Qbm:Fn l.prog w K mg base "_law_good" ["_law_book_here"] 54 (spM K 1 il):=d__law_good.fn X G (fun _ _ _ _ _ _ _ h=>by obtain⟨_,rfl⟩:=cQ h;rfl) fun f fd F=>y4 B F Qai Qag;have Qbk:Fn l.prog w K mg base "_law_line" ["_law_book_here","_law_good_here","_law_name"] 54 (spM K 3 gH):=d__law_line.fn X G (fun _ _ _ _ _ _ _ h=>by obtain⟨_,_,_,rfl⟩:=dF h;rfl) fun f fd F=>y3 B F Qai;have Qbb:Fn l.prog w K mg base "_law_result" ["_law_book_here","_law_good_here","_law_name"] 54 (spM K 3 ie):=d__law_result.fn X G (fun _ _ _ _ _ _ _ h=>by obtain⟨_,_,_,rfl⟩:=dF h;rfl) fun f fd F=>yq B F Qai
 have R__law_same:∀n:Nat,Fn l.prog w K mg base "_law_same" ["_law_found","_law_due"] (0+n) (spM K 2 (bO n)):=by
  intro n
  induction n with
  |zero=>exact d__law_same.fn X G (fun _ _ _ _ _ _ _ h=>by obtain⟨_,_,rfl⟩:=cH h;rfl) fun f fd F=>eC
  |succ n ih=>exact d__law_same.fn X G (fun _ _ _ _ _ _ _ h=>by obtain⟨_,_,rfl⟩:=cH h;rfl) fun f fd F=>yY n B F ih
 have Qaj:=R__law_same 25;have Qbd:Fn l.prog w K mg base "_law_names" ["_law_tape","_law_many_here"] 2 (spM K 2 eU):=d__law_names.fn X G (fun _ _ _ _ _ _ _ h=>by obtain⟨_,_,rfl⟩:=cH h;rfl) fun f fd F=>yG B F Qaa
 have R__law_value:∀n:Nat,Fn l.prog w K mg base "_law_value" ["_law_tape","_law_names_here","_law_deep"] (1+n) (spM K 3 (cw n)):=by
  intro n
  induction n with
  |zero=>exact d__law_value.fn X G (fun _ _ _ _ _ _ _ h=>by obtain⟨_,_,_,rfl⟩:=dF h;rfl) fun f fd F=>eC
  |succ n ih=>exact d__law_value.fn X G (fun _ _ _ _ _ _ _ h=>by obtain⟨_,_,_,rfl⟩:=dF h;rfl) fun f fd F=>yD n B F Qaa ih
 have Qaf:=R__law_value 25;have Qaq:Fn l.prog w K mg base "_law_simple" ["_law_tape","_law_names_here","_law_many_here"] 27 (spM K 3 fS):=d__law_simple.fn X G (fun _ _ _ _ _ _ _ h=>by obtain⟨_,_,_,rfl⟩:=dF h;rfl) fun f fd F=>yp B F Qaa Qaf;have Qbj:Fn l.prog w K mg base "_law_expr" ["_law_tape","_law_names_here","_law_many_here"] 28 (spM K 3 fX):=d__law_expr.fn X G (fun _ _ _ _ _ _ _ h=>by obtain⟨_,_,_,rfl⟩:=dF h;rfl) fun f fd F=>y6 B F Qaa Qaq
 have R__law_recipe:∀n:Nat,Fn l.prog w K mg base "_law_recipe" ["_law_tape","_law_names_here","_law_deep","_law_many_here","_law_peeks"] (28+n) (spM K 5 (bU n)):=by
  intro n
  induction n with
  |zero=>exact d__law_recipe.fn X G (fun _ _ _ _ _ _ _ h=>by obtain⟨_,_,_,_,_,rfl⟩:=qE h;rfl) fun f fd F=>eC
  |succ n ih=>exact d__law_recipe.fn X G (fun _ _ _ _ _ _ _ h=>by obtain⟨_,_,_,_,_,rfl⟩:=qE h;rfl) fun f fd F=>yr n B F Qaa Qbj ih
 have Qah:=R__law_recipe 25;have Qbl:Fn l.prog w K mg base "_law_book" ["_law_script","_law_at","_law_peeks"] 54 (spM K 3 ip):=d__law_book.fn X G (fun _ _ _ _ _ _ _ h=>by obtain⟨_,_,_,rfl⟩:=dF h;rfl) fun f fd F=>y8 B F Qae Qat Qaa Qbd Qaf Qah;have Qax:Fn l.prog w K mg base "_law_ordered" ["_law_book_here","_law_good_here"] 55 (spM K 2 ib):=d__law_ordered.fn X G (fun _ _ _ _ _ _ _ h=>by obtain⟨_,_,rfl⟩:=cH h;rfl) fun f fd F=>yf B F Qbk;have Qay:Fn l.prog w K mg base "_law_leaning" ["_law_lines","_law_name"] 1 (spM K 2 ic):=d__law_leaning.fn X G (fun _ _ _ _ _ _ _ h=>by obtain⟨_,_,rfl⟩:=cH h;rfl) fun f fd F=>yg B F;have Qaw:Fn l.prog w K mg base "_law_refused" ["_law_paper","_law_name"] 34 (spM K 2 gD):=d__law_refused.fn X G (fun _ _ _ _ _ _ _ h=>by obtain⟨_,_,rfl⟩:=cH h;rfl) fun f fd F=>ye B F Qap Qac;have Qal:Fn l.prog w K mg base "_law_right" ["_law_book_here","_law_good_here","_law_paper"] 55 (spM K 3 et):=d__law_right.fn X G (fun _ _ _ _ _ _ _ h=>by obtain⟨_,_,_,rfl⟩:=dF h;rfl) fun f fd F=>yF B F Qbb Qap Qaj Qaw;exact BZ (E2 B FL Qbl Qbm Qax Qae Qal Qay) (Ax hm)
theorem walk{l:RY}{XP:(Str->Option Mp)->Heap->Prop}{YP:ML->Heap->Prop}{d:DefRec}{K:Vy->Frag}(hn:l.most=some 63)(hdf:d.params.defaults=[])
  (hY:∀(w:ML) (h:Heap),YP w h->(K w.params).In h)
  (F:∀(w:ML) (mg:Str->Option Mp) (fa:Addr) (h:Heap),(K w.params).In h->h.Ns MT mg->mg d.name=some (.ref fa) ->
   ∃fd:MS,(∀(s:Ms) (u:Mp),Sy s fd ⟨[u],[]⟩ [("_law_script",u)])/\∀base:Heap,(K w.params).In base->base.Ns MT mg->FnOk l.prog w (K w.params) mg base CX0 56 fa fd ["_law_script"] (mK (K w.params))) :
  SU q loose XP YP l.row.toRowW d [] (fun f vs=>RT f vs):=L2.Cy (n:=63) (k:=56) (x:="_law_script") (CX:=fun _=>CX0) (sp:=fun w=>mK (K w.params)) hn (by decide) hdf ⟨rfl,by decide,by decide,rfl⟩ hY F (fun _ _ a ns hl _ hS=>⟨a,ns,rfl,hS,hl,fun _=>rfl⟩) fun _ _ _ _ _ z=>z
open PySem PySem.Spec PySem.Calls PySem.W PyProof.Rows PySem.W.X PySem.W.ZRun
theorem walkZ{q:MA}{loose:List Str}{XP:(Str->Option Mp)->Heap->Prop}{K:Vy->Frag}{r:RowW}{d:DefRec}{kwd:List (Str×Expr)}
  {w:ML}{s₀ s₁:Ms}{mg mb:Str->Option Mp}{a:Addr}{o:Obj}{pm cd doc dV kV:Mp}{args:List WData}{vals:List Mp}{as:List Addr}
  (KX:(K w.params).In s₁.heap) (GR:Ground q loose r.records XP w s₀ mg mb s₁.heap) (ho:s₁.heap.get? a=some o)
  (hd:o.data=.func { docDef d.name d.params d.body d.scope pm cd doc with defaults:=dV,kwdefaults:=kV }) (hcd:s₁.heap.CodeRec cd d.name) (hD:Dflts mg s₁.heap d.params kwd dV kV) (hmg:mg d.name=some (.ref a)) (hg:s₁.gens = #[])
  (hpre:r.claim.pre args=true) (hlay:WData.layableAll args=true) (hrd:ReadsAllW r.records (classAt s₀.heap) s₁.heap vals args as) (hwl:WellAll w.params s₁.heap vals args) (hlo:∀a∈as,(a == N8)=false)
  (W:SU q loose XP (fun w h=>(K w.params).In h) r d kwd fun f vs=>RT f vs) :
  MU (MW r.prog w) RR (RT (.ref a) vals) (fun v s'=>GoodWG r.claim (classAt s₀.heap) (Vh s₀.heap) args s₁ (.ok (.ret v)) s')
    (fun e s'=>GoodWG r.claim (classAt s₀.heap) (Vh s₀.heap) args s₁ (.error e) s') s₁:=W w s₀ s₁ mg mb GR KX a o pm cd doc dV kV ho hd hcd hD hmg hg args vals as hpre hlay hrd hwl hlo
end G
end Internal
namespace PySem.W.Fast
def tw12547918639578998509:=Nat
def tw15458461209285679328:=Nat
def tw10102015211576085463:=Nat
def tw2575585043711378549:=Nat
def tw2577910833382724013:=Nat
def tw11050825055062790585:=Nat
def tw18014826994977374094:=Nat
def tw15141601796856441261:=Nat
def tw5244847498791426557:=Nat
def tw7245132121685651499:=Nat
def tw4554324549239738540:=Nat
def tw13084669543175756384:=Nat
def tw9612752341331944790:=Nat
def tw2123202098535324280:=Nat
def tw1557865161244762106:=Nat
def tw2414778046567302391:=Nat
def tw7478945279716608490:=Nat
def tw12285850647891538643:=Nat
def tw9012024863364508346:=Nat
def tw6935166188554826429:=Nat
def tw15835311470757101993:=Nat
def tw3408334903916199056:=Nat
def tw4166672636553273024:=Nat
def tw6610342054499038237:=Nat
def tw9815052784511330256:=Nat
def tw3460172074626063909:=Nat
def tw16832220690740432156:=Nat
def tw7365630330910294505:=Nat
def tw1533448755001047185:=Nat
def tw14433616793498741000:=Nat
def tw18369496318748718198:=Nat
def tw13610844988342528811:=Nat
def tw1287436715722503896:=Nat
def tw12272297534040344485:=Nat
def tw13464479317329794376:=Nat
def tw5067650809317947314:=Nat
def tw9167720216049923252:=Nat
def tw5200132819634550282:=Nat
def tw12683919974949906500:=Nat
def tw1205836932366153878:=Nat
def tw7429975385101635180:=Nat
def tw31223837068367709:=Nat
def tw8928693234161275824:=Nat
def tw7593630471475088166:=Nat
def tw12818639804545908826:=Nat
def tw14058795630325361989:=Nat
def tw8921662788598885762:=Nat
def tw14268408175871452472:=Nat
def tw11060711577429168187:=Nat
def tw9049105247455383685:=Nat
def tw17259649809176264776:=Nat
def tw580114330747700075:=Nat
def tw6667594486015214024:=Nat
def tw5721596078789490388:=Nat
def tw7439537887539635436:=Nat
def tw3744849842978466389:=Nat
def tw16741660844402288992:=Nat
def tw7836195918207038742:=Nat
def tw2179823833138174768:=Nat
def tw11520607690924866712:=Nat
def tw7222031224108133262:=Nat
def tw5346175267995842076:=Nat
def tw9409522983039026954:=Nat
def tw10295969781711659372:=Nat
def tw16240296432805289615:=Nat
def tw4765230505749431502:=Nat
def tw14643138948396716890:=Nat
def tw15583252357352395919:=Nat
def tw6877891847294766283:=Nat
def tw7327251749669138591:=Nat
def tw7049443648441001939:=Nat
def tw5252751765236443605:=Nat
def tw7555443816246733790:=Nat
def tw3649534629870228979:=Nat
def tw10391264983730899485:=Nat
def tw15691239222972550542:=Nat
def tw10959416872352003571:=Nat
def tw5495195643847054474:=Nat
def tw6980076771795226281:=Nat
def tw8807579358451995969:=Nat
def tw3451887207333711031:=Nat
def tw9607508775805671668:=Nat
def tw5923874001353738551:=Nat
def tw3698985195875538159:=Nat
def tw8418400710557614952:=Nat
def tw6440658000275302513:=Nat
def tw13122084300005404600:=Nat
def tw2328896033369763647:=Nat
def tw3050745536994160122:=Nat
def tw13120724031579286565:=Nat
def tw7529758371276295349:=Nat
def tw2343411442484268608:=Nat
def tw15541888134888194141:=Nat
def tw3969509126818799137:=Nat
def tw8097404232779476458:=Nat
def tw8972795339153882489:=Nat
def tw6123769124340309260:=Nat
def tw5323182510285257443:=Nat
def tw11133808635352387482:=Nat
def tw18028714183966348093:=Nat
def tw16008897784912445634:=Nat
def tw12953565173007843558:=Nat
def tw3705655808302962904:=Nat
def tw5417613793111544672:=Nat
def tw11372830459647409280:=Nat
def tw10076347380499874443:=Nat
def tw14164817725596568575:=Nat
def tw17868586044961417645:=Nat
def tw12407134783851869696:=Nat
def tw12304668310704209449:=Nat
def tw1998473970071208211:=Nat
def tw2255131829546085295:=Nat
def tw9980162569557307257:=Nat
def tw2166831096628019811:=Nat
def tw4405277716010504780:=Nat
def tw10946764942860192427:=Nat
def tw12945652646490041358:=Nat
def tw3731666362168947833:=Nat
def tw18373170104981402516:=Nat
def tw9093132238387365004:=Nat
def tw12631681845982746913:=Nat
def tw8007212335924708905:=Nat
def tw420995126905425814:=Nat
def tw11721062485620377334:=Nat
def tw3303054741306580437:=Nat
def tw13852416164494855787:=Nat
def tw9551250052738153380:=Nat
def tw3526499209387331184:=Nat
def tw7729750902314600308:=Nat
def tw7777037177915033046:=Nat
def tw14147744575006056886:=Nat
def tw7104303858003673943:=Nat
def tw15335983095095500011:=Nat
def tw7890582219447442358:=Nat
def tw10854076344285739319:=Nat
def tw8886325270330237808:=Nat
def tw238513645830777160:=Nat
def tw8706834738112112763:=Nat
def tw569484295567320103:=Nat
def tw15025925395249439115:=Nat
def tw2903938287367783862:=Nat
def tw11071227228254821130:=Nat
def tw14258981765689867576:=Nat
def tw8553768786200816677:=Nat
def tw2438791518823072254:=Nat
def tw14254849674019171982:=Nat
def tw187097758338558130:=Nat
def tw10764366733463569956:=Nat
def tw4825496419609693460:=Nat
def tw13044320926973617465:=Nat
def tw13453373668228055167:=Nat
def tw9276511658685396171:=Nat
def tw14446938086947358606:=Nat
def tw17910784679501892259:=Nat
def tw3500006879556832123:=Nat
def tw3673408422015909243:=Nat
def tw4269711843311134393:=Nat
def tw13606169720464908558:=Nat
def tw3904918984928629077:=Nat
def tw5066472689080717284:=Nat
def tw2804474955807305918:=Nat
def tw1106219223803006904:=Nat
def tw12516260993954903253:=Nat
def tw9592471516445601544:=Nat
def tw12600032697551704789:=Nat
def tw617240033610361264:=Nat
def tw3494145380639116631:=Nat
def tw9559706228285360631:=Nat
def tw3080172851245147096:=Nat
def tw17027831233029697775:=Nat
def tw10578517432607634716:=Nat
def tw7227278911095627859:=Nat
def tw13533728224639198290:=Nat
def tw5786511682927679036:=Nat
def tw17737390162560860532:=Nat
def tw10206089974620715764:=Nat
def tw4669775838568512725:=Nat
def tw3435815022733246438:=Nat
def tw3335103806155280271:=Nat
def tw4676992316591021120:=Nat
def tw8637336341506994048:=Nat
def tw9452083149850678612:=Nat
def tw15310939831947672299:=Nat
def tw16140601525602637873:=Nat
def tw7692647169032371576:=Nat
def tw2737478403858496351:=Nat
def tw3980373252525015107:=Nat
def tw9566544536712212163:=Nat
def tw15575512153421949655:=Nat
def tw4482282451090506658:=Nat
def tw9721598931716879733:=Nat
def tw17275706635476762433:=Nat
def tw14345829701639910236:=Nat
def tw2461305482903523089:=Nat
def tw16678371198217929753:=Nat
def tw6603085686386944066:=Nat
def tw12254189621164611112:=Nat
def tw16912323709571215307:=Nat
def tw13693247473747843788:=Nat
def tw8789929480568332205:=Nat
def tw10227904865594324572:=Nat
def tw7938065666945935181:=Nat
def tw4318636225247467145:=Nat
def tw8082913419671906160:=Nat
def tw14777413624475197585:=Nat
def tw14376636275833725603:=Nat
def tw9103216040539229548:=Nat
def tw13516487606210174071:=Nat
def tw12039586400582306049:=Nat
def tw3054151883606829603:=Nat
def tw17850496957855551565:=Nat
def tw18243108702656032587:=Nat
def tw1698924075347924226:=Nat
def tw10144683005900010361:=Nat
def tw12408887267448282600:=Nat
def tw17391289095023887604:=Nat
def tw1345371702748866650:=Nat
def tw2558527360740165555:=Nat
def tw13004667579779848402:=Nat
def tw6540007663413195143:=Nat
def tw7551448624358703638:=Nat
def tw5122771018458413012:=Nat
def tw17508022640480339127:=Nat
def tw15927714203143821381:=Nat
def tw10045465629161565912:=Nat
def tw1840722488481433420:=Nat
def tw7063551381490049897:=Nat
def tw12815214037291017130:=Nat
def tw17342895252176554097:=Nat
def tw7306156533431359191:=Nat
def tw3333065295977219952:=Nat
def tw9740063783084921949:=Nat
def tw16098819772552358273:=Nat
def tw11330870151490593696:=Nat
def tw3596737838909750361:=Nat
def tw12195749426914025724:=Nat
def tw10980321980555041242:=Nat
def tw7238562491727137334:=Nat
def tw10529429408234263606:=Nat
end PySem.W.Fast
noncomputable def PySem.W.Fast.tw9634759219380725642 : PySem.Program := PySem.Challenge.pw_redo_k29_what_a_paper_tells
theorem PySem.W.Fast.te9634759219380725642 : PySem.Challenge.pw_redo_k29_what_a_paper_tells = PySem.W.Fast.tw9634759219380725642 := rfl

open Internal
open PySem PySem.W PyProof.Rows PySem.W.X PySem.W.ZRun
set_option maxRecDepth 100000 in
set_option maxHeartbeats 0 in
theorem PySem.Challenge.cw_redo_k29_what_a_paper_tells_holds : PySem.Challenge.rw_redo_k29_what_a_paper_tells.Holds := by
 w_on; o_law; z_head; (case hw=>w_witness2)
 k_fill
 intro w s₀ s₁ mg mb GR y fa o pm cd doc dV kV ho hd hcd hD hmg hg args vals as L hpre hlay hrd hwl hlo
 z_open y L KX ZH ZN ZT
 clear ZH ZN ZT
 refine G.walkZ KX GR ho hd hcd hD hmg hg hpre hlay hrd hwl hlo ?W
 clear KX GR ho hd hcd hD hmg hg hpre hlay hrd hwl hlo L y
 refine G.walk (l:=PySem.Challenge.rw_redo_k29_what_a_paper_tells) rfl rfl (fun w h Y=>Y) ?F
 case F=>
  intro w mg fa h KX GG hmg
  refine' G.all_mk KX GG hmg ?_ ?_ ?_ ?_ ?_ ?_ ?_ ?_ ?_ ?_ ?_ ?_ ?_ ?_ ?_ ?_ ?_ ?_ ?_ ?_ ?_ ?_ ?_ ?_ ?_ ?_ ?_ ?_ ?_ ?_ ?_ ?_ ?_ ?_ ?_ ?_ ?_ ?_ ?_ ?_ ?_ ?_ ?_ ?_ ?_ ?_ ?_ ?_ ?_ ?_ ?_ ?_ ?_ ?_ ?_ ?_ ?_ ?_ ?_ ?_ ?_ ?_ ?_ ?_ ?_ ?_ ?_ ?_ ?_ ?_ ?_ ?_ ?_ ?_ G.BK
  any_goals first | (refine' XE.Ee ?e1 ?e2 ?e3 ?e4 ?e5 ?e6 ?e7 ?e8 ?e9 ?e10 ?e11 ?e12 ?e13 ?e14 ?e15 ?e16 ?e17 ?e18 ?e19 ?e20 ?e21 ?e22 ?e23 ?e24 ?e25 ?e26 ?e27 ?e28 ?e29 ?e30 ?e31 ?e32 ?e33 ?e34 ?e35 ?e36; (case e1=>k_is); (case e2=>k_is); (case e3=>k_is); (case e4=>k_is); (case e5=>k_is); (case e6=>k_is); (case e7=>k_is); (case e8=>k_is); (case e9=>k_is); (case e10=>k_is); (case e11=>k_is); (case e12=>k_is); (case e13=>k_is); (case e14=>k_is); (case e15=>k_is); (case e16=>k_is); (case e17=>k_is); (case e18=>k_is); (case e19=>k_is); (case e20=>k_is); (case e21=>k_is); (case e22=>k_is); (case e23=>k_is); (case e24=>k_is); (case e25=>k_is); (case e26=>k_is); (case e27=>k_is); (case e28=>k_is); (case e29=>k_is); (case e30=>k_is); (case e31=>rfl); (case e32=>rfl); (case e33=>rfl); (case e34=>rfl); (case e35=>rfl); (case e36=>rfl)) | (refine' D.Hb ?a ?l ?c ?k; (case a=>k_is); (case l=>k_is); (case c=>k_is); (case k=>k_is)) | (refine' D.FR ?a ?l ?c ?k ?n; (case a=>k_is); (case l=>k_is); (case c=>k_is); (case k=>k_is); (case n=>k_is)) | k_is
  all_goals first | rfl | decide +kernel
