import PyProof.Rows.All
import Wide.All
import OpenK.AllK
import Wide.FinOn
import Lean
import PyProof.EqAt
import PyProof.EqKinds
import PyProof.TupleCall
import PySem.Challenge.RW_redo_k25_lines_right_or_not
noncomputable section
open PySem.W (Frag)
set_option Elab.async false
set_option linter.all false
set_option maxRecDepth 100000
set_option compiler.extract_closed false
set_option bootstrap.genMatcherCode false
open PySem renaming PyData->NG,Value->NK,Shared->NL,wpAny_bind->NP,sizeLine->NS,starEach->NU,wpAny_pure->Oa,Program->Og,compareOp->Oh,wpAny->Oo,model->Ot,World->Ow,boot_len->OA,Around->OD,mainGlobals->OG,wpAny_newObj_type->OW,backTo->O4,wpAny_truthy_bool->O6,foldedSetIterable->O7,attributeBase->O8,wpAny_passesOwn->Pb,binaryOp->Pu,Keyword->Pw,sysModules->Pz,FuncData->PK,swapsWith->PN,keywordEach->PV,wpAny_mono->PX,bootBuiltins->P1,behindInMarks->P2,Scope->Qg,mem_of_lookup->Qs,NameKind->Qt,wpAny_execs_nil->QD,backToKw->QE,wpAny_holding->QG,assignEach->QL,call_meets->QO,getItem->Q4,tupleKind_room_in1->Q8,wpAny_callSpecial?_slot->Rc,sliceBounds->Re,wpAny_Call_method_late->Rk,wpAny_pyIter_list->Rm,wpAny_isTrue_Compare1->Rq,wpAny_execs_cons->Rt,wpAny_call_entry->Rv,typeIs_str->Rw,wpAny_field->RB,letOwnedTupleGo->RH,PassesOwn->RU,wpAny_Constant_int->RZ,wpAny_Call_Name_kw->R6,wpAny_binaryOp_repeat_ref->Sk,wpAny_sequenceKey->Sw,subscripted->Sx,valueAt->Sy,swapsWithSole->SD,swappedStores->SE,noFill_tuple_add->SK,holding->S0,concat_meets->S4,IsPart->S5,wpAny_typeOf->S6,typeIs_int->Tb,callerA->Te,call->Tf,CmpOp->Tj,getitemInPython_of_ne->Tt,Paired->Tx,assign->Tz,sizeLine_eq->TB,bindArgs->TF,wpAny_letTemporaryGo->TH,compEnvC->TJ,intText?->TM,intText_digits->TX,tupleKind->TZ,BindsTo->T7,relabel->T8,codeAny_forLoop_any->Ua,seq_tuple_add->Uk,evalPart_none->Ul,GenState->UC,wpAny_assign_Name->UD,cLine->UE,codeAny_mono->UG,seqIndex_neg->UJ,slot_list_getitem->UK,ReadsAll->UO,wpAny_pyIter_enum->UP,wpAny_pyHash_int->UW,wpAny_pyHash_str->UX,wpAny_eqBool_int->UY,wpAny_eqBool_str->UZ,lastMarks->U1,DictEntry->U6,seqSlot_of->U8,reduceHash->Vc,seqIndex_of->Vh,atKey->Vi,slicePicked->Vj,Reads->Vk,intText_neg->Vl,wpAny_specialOf->Vq,wpAny_operating->Vr,codeAny_builtin->Vv,codeAny->Vx,builtinsNs->VD,isTrue->VE,wpAny_Name->VF,bindL->VG,bindC->VH,PlainAttrs->VI,intText?->VP,KeyKind->V4,again->Wn,cellsFrom->Wo,strValues->Wq,Within->Wr,setItem->Wt,standAt->Wu,Params->Wv,notedBy->Ww,Builtin->Wx
open PySem.Str renaming ofString->NH,join->Q2,length->S8
open List renaming mem_cons_self->NI,mem_cons_of_mem->NJ,getElem?_eq_some_iff->NM,getElem?_set_ne->NQ,mem_cons->NR,getElem?_set_self->NV,size_toArray->NX,mem_singleton->NY,mem_append->Ob,all_eq_true->Oe,map_cons->Oi,mem_append_right->Om,replicate->Oq,getElem?_append_left->Os,length_cons->Ou,mem_of_getElem?->Oz,nodup_cons->OE,map_congr_left->OF,mem_map->OH,length_append->OR,getElem?_map->OS,length_map->OV,reverse_cons->OX,not_mem_nil->O5,take_of_length_le->Pa,find?_cons->Pd,range->Pg,map_append->Pn,length_drop->Pp,lookup_cons->Pq,drop_eq_nil_of_le->Pr,map_map->Pt,getElem?_eq_getElem->Px,mem_append_left->PB,tail_suffix->PD,mem_of_mem_take->PF,all_cons->PH,replicate_succ->PP,append_nil->PU,length_take->PY,pairwise_cons->PZ,any_cons->P3,mem_filter->P9,sum_cons->Qe,drop_eq_getElem_cons->Qh,flatten_cons->Qk,filterMap_cons->Qr,takeWhile_prefix->QH,append_assoc->QJ,filter_cons->QR,length_tail->QS,getElem?_eq_none_iff->QV,length_nil->Q5,nil_append->Q6,nodup_append->Rn,getElem?_eq_none->Rr,cons_append->Rx,countP_cons->Ry,mem_of_mem_tail->RF,mem_of_mem_drop->RG,takeWhile_append_of_pos->RM,mem_range->RY,getElem?_append_right->R8,foldl->Sb,nodup_nil->Sg,mem_take_iff_getElem->Sl,length->Sv,take_add_one->Sz,suffix_iff_eq_drop->SX,map_nil->Tc,head?->Th,of_mem_zip->Tn,filterMap_append->Tu,dropLast_concat->TU,getD->T9,takeWhile_cons->Ui,mem_filterMap->Ut,filterMap_map->Uv,mem_replicate->Uy,filterMap_nil->Uz,take_sublist->UH,ext_getElem?->UM,all_nil->UQ,mem_of_head?->UU,getElem_mem->U7,suffix_refl->Vf,mem_flatten->Vg,foldl_cons->Vp,range_succ->Vu,take_nil->Wj,map_take->Wk,all_map->Wy,range'->WM
open Bool renaming and_eq_true->NN,false_ne_true->NZ,eq_iff_iff->PQ,false_eq_true->QA,or_eq_true->Q7,and_self->Up,or_false->Wh
open PySem.Heap renaming get?_push_of_some->NO,lt_size->Oc,get?_push_size->On,SameBut->Rh,size_push->Sd,get?_update_other->Ta
open Nat renaming le_refl->NT,le_trans->Of,lt_of_lt_of_le->Oj,ne_of_lt->Ox,not_lt_zero->Pe,zero_le->Pi,lt_of_le_of_lt->Pk,lt_irrefl->P0,le_of_lt->Qx,min_eq_left->QF,lt_succ_of_lt->QK,min_eq_right->QQ,toDigits->Ro,ne_of_gt->RQ,lt_succ_self->SO,lt_trans->Td,mul_le_mul->TK,le_succ->TN,log2_lt->TR,le_of_eq->UL,le_total->UR,min_le_right->U4,sub_self->WE
open Option renaming map_eq_some_iff->Ol,isSome_iff_exists->QX,isSome_map->Rl,getD_none->SN,map_some->Tq
open PySem.SeqAt renaming shaped->Ov,canLay_of_shaped->Tg,in_tupleAt->U5,EqAt->WN
open PySem.PyData renaming strOk->Oy,str->ON,eqv->OO,tuple->P5,eqvAll->P6,canLay0->P8,int->Qa,depthAll->Qb,shown->Ql,canLayAll0->Qo,weightAll->Qv,list->Qw,depth->Rp,bool->SA,shownAll->Tr,leavesShortAll->Tw,none->TL,weight->Uq,showableAll->UA
open PyProof.Rows renaming slot_tuple_getitem->OB,boot_tuple->OJ,boot_str->Qc,boot_int->Qp,callWith_type1->QI,kindOf->Ru,tupleItemsOf_->Rz,entry_tuple_getitem->RO,boot_list->RV,envOfC->R7,slicePart_none->R9,args_tuple_getitem->Sa,AllBare->So,subscriptTail->SF,subscriptTail_builtinR->S7,signs_ofString->TV,Subscript_->Uw,IsTup->UB,isTrue_or->U0,callWith_builtin1->U3,boot_isinstance->Vt,IntsAre->Vy,seqObj->WB
open PySem.Txt renaming replace->OC,slice->OZ,startswith->P7,split->Qi,mul->QP,upper->SU,slice_le->WD
open PySem.NumText renaming digitsVal->OI,AllDigits->Qn
open Option.some renaming inj->OL
open PySem.Builtin.Tuple renaming tupleExact->OM,tupleItemsOf->QN,tupleTooMany->Sf,tupleIsExact->VL
open Sum renaming inr->OP,inl->SY
open PySem.Builtin.Str renaming occurrences->OQ,strSliceIndices->O0,partsBetween->P4,reprChar->RE,tooLong->Ug,strKind->Uh,subAt->UT
open PySem.Value renaming ref->OT,str->SJ,type->SZ,int->TY,none->Ur,bool->Us,isStrOf->V3,isInt->WF,float->WH
open PySem.W renaming kia_one->OU,findIn->Pc,keepIn->Ph,fnOf->Po,kitOne->PJ,nsIn->PM,codeIn->QM,mg_of->RA,isFn->RR,methodObj->Sn,hasDictIn->Sq,specialIn->Sr,kitx_list->Ss,kitx_dict->Su,cellsFrom_some->S3,instObj->Ti,OpenLaw->To,lookIn->TC,mroIn->Uj,WalkO->Um,ownIn->Uo,kitx_tuple->Uu,plainGet->U2,kdl_dict->Vb,takesIn->Vm
open Or renaming inr->OY,inl->Pj
open PySem.Builtin.Slice renaming slicePlaces->O9,sliceApplied->Qf,sliceAdjust->QT,sliceFields->Si,slicePartIndex->Vn
open Array renaming length_toList->Pf,getElem?_eq_some_iff->Se,toList_inj->Vd,toList->Ws
open PySem.NameKind renaming free->Pm,cell->Wi
open PyProof.Rows.KTD renaming datLooks->Pv,tabLook->Py,rowsLook->QU,datumAt->SH,isSome_datumAt->UV,opened_str->Vz,eachL_miss->VA,item_textA->VB,eachL_hit->VM,inKeys->Wp,EachL->Wz,plain->WA,Dat->WK
open PySem.F renaming plainAttrs_str->Qd,plainAttrs_list->Qu,slot_tuple_mul->QB,slot_str_split->QC,args_tuple_add_2->QY,slot_list_append->QZ,type_list_append->Q0,args_str_split_2->Q3,entry_tuple_add->Rb,entry_str_split->Rf,slot_tuple_add->Ri,slot_int_rmul->RL,slot_str_startswith->RT,slot_dict_getitem->Sj,args_tuple_mul_2->SG,slot_tuple_rmul->SQ,entry_tuple_mul->SR,plain_list_iadd->SS,args_int_rmul_2->UN,slot_int_index->U9,entry_int_rmul->Va,fills_int_mul->Vs
open Ne renaming symm->Qj
open Int renaming le_refl->Qm,natCast_nonneg->Q9,emod_lt_of_pos->Ra,toNat_natCast->Rj,emod_nonneg->RN,toNat_of_nonneg->RP,eq_ofNat_of_zero_le->SV,natCast_add->Ts,ediv_one->UI,ofNat_le->US,max_eq_right->Ve,not_lt->VN,le_trans->WC
open True renaming intro->Qq
open False renaming elim->Qy
open PySem.Calls renaming callWith_builtin->Qz,evalArgs_plain->RC,Constant_str->R3,Name_function_global->R4,spliced_cons->R5,spliced_nil->UF
open PySem.Paired renaming length->QW,snoc->WJ
open PySem.Spec renaming ltCps->RD
open ForInStep renaming yield->RI
open PySem.PassesOwn renaming never->RJ
open PySem.SeqAt.EqAt renaming int_str->RW,str_int->RX,none_int->Ub,none_str->Uc,int_none->Ud,str_none->Ue,same->Vo
open List.cons renaming inj->SI
open PyProof.Rows.IsTup renaming new->SM
open Classical renaming propDecidable->SW
open PySem.Obj renaming mapSeq->S9
open PySem.SeqAt.ReadsAll renaming length->Tv
open PySem.Around renaming under_plainId->TQ
open PySem.Heap.IsSliceOf renaming new->Ux
open PySem.Builtin.List renaming listExtendWith->VC
open PySem.Walks renaming dictKeys->VJ,list->WO
open Char renaming toNat->VO,ofNat->VQ
open PySem.EqNone renaming eq_none_none->VR,eq_none_bool->VT,eq_bool_none->VU,ne_none_none->VY,ne_none_bool->VZ,ne_bool_none->V0,eq_none_int->V5,eq_none_str->V6,eq_int_none->V7,eq_str_none->V9,ne_none_int->Wb,ne_none_str->Wc,ne_int_none->Wd,ne_str_none->Wf
open PySem.EqMixed renaming eq_bool_str->VW,eq_str_bool->VX,ne_bool_str->V1,ne_str_bool->V2,eq_int_str->V8,eq_str_int->Wa,ne_int_str->We,ne_str_int->Wg
open PySem.ExcName renaming means->Wl
open PySem.Builtin.Range renaming rangeSize->Wm
open Sum.inr renaming inj->WG
open PySem.Data renaming fields->WI
open List.Pairwise renaming filter->WL,nil->WQ,imp->WR
open PySem.Draws renaming list->WP
namespace Internal
namespace L2
open PySem PySem.Spec PyProof.Rows
abbrev Key:=Sum Int Str
def fu:Key->NK->Bool
 |.inl k,v=>WF k v
 |.inr x,v=>V3 x v
def zG(w:Ow):Key->Int
 |.inl k=>hashInt k
 |.inr x=>hashStr w x
theorem eK:∀{k:Key}{v:NK},fu k v=true->(∃i t,k=SY i/\v=TY i t)\/(∃x t,k=OP x/\v=SJ x t)
 |.inl i,v,h=>by
  obtain⟨t,e⟩:=Value.isInt_shape (k:=i) (v:=v) h;exact .inl ⟨i,t,rfl,e⟩
 |.inr x,v,h=>by
  obtain⟨t,e⟩:=Value.isStrOf_shape (x:=x) (v:=v) h;exact .inr ⟨x,t,rfl,e⟩
theorem BL(i:Int)(t:Tok):fu (.inl i) (.int i t)=true:=by simp[fu,WF]
theorem BK(x:Str)(t:Tok):fu (.inr x) (.str x t)=true:=by simp[fu,V3]
theorem ya(a b:Int):decide ((SY a:Key)=SY b)=(a == b):=by
 by_cases e:a=b
 .subst e;simp
 .have h:¬(SY a:Key)=SY b:=fun q=>e (Sum.inl.inj q)
  rw[decide_eq_false h];exact(beq_eq_false_iff_ne.mpr e).symm
theorem x6(a b:Str):decide ((OP a:Key)=OP b)=decide (a=b):=by
 by_cases e:a=b
 .subst e;simp
 .have h:¬(OP a:Key)=OP b:=fun q=>e (WG q)
  rw[decide_eq_false h,decide_eq_false e]
theorem x9(a:Int)(b:Str):decide ((SY a:Key)=OP b)=false:=decide_eq_false (fun q=>nomatch q)
theorem x8(a:Str)(b:Int):decide ((OP a:Key)=SY b)=false:=decide_eq_false (fun q=>nomatch q)
def cb(prog:Og)(w:Ow):V4 prog w Key where
 is:=fu
 hash:=zG w
 inj:=fun v a b ha hb=>by
  rcases eK ha with⟨i,t,rfl,rfl⟩|⟨x,t,rfl,rfl⟩
  .rcases eK hb with⟨j,u,rfl,e⟩|⟨y,u,rfl,e⟩
   .injection e with e1 _;rw[e1]
   .exact nomatch e
  .rcases eK hb with⟨j,u,rfl,e⟩|⟨y,u,rfl,e⟩
   .exact nomatch e
   .injection e with e1 _;rw[e1]
 byValue:=fun k v h=>by
  rcases eK h with⟨i,t,rfl,rfl⟩|⟨x,t,rfl,rfl⟩ <;> rfl
 pyHash:=fun hv h=>by
  rcases eK hv with⟨i,t,rfl,rfl⟩|⟨x,t,rfl,rfl⟩
  .exact UW h
  .exact UX h
 eqBool:=fun hu hv h=>by
  rcases eK hu with⟨i,t,rfl,rfl⟩|⟨x,t,rfl,rfl⟩
  .rcases eK hv with⟨j,u,rfl,rfl⟩|⟨y,u,rfl,rfl⟩
   .rw[ya] at h;exact UY h
   .rw[x9] at h;exact RW i t y u _ _ _ _ h
  .rcases eK hv with⟨j,u,rfl,rfl⟩|⟨y,u,rfl,rfl⟩
   .rw[x8] at h;exact RX x t j u _ _ _ _ h
   .rw[x6] at h;exact UZ h
 «strs»:=fun k x t v h=>by
  rcases eK h with⟨i,u,rfl,e⟩|⟨y,u,rfl,e⟩
  .exact nomatch e
  .injection e with e1 _
   subst e1
   cases v <;> rfl
theorem Am(prog:Og)(w:Ow)(i:Int)(t:Tok):(cb prog w).is (.inl i) (.int i t)=true:=BL i t
theorem Ak(prog:Og)(w:Ow)(x:Str)(t:Tok):(cb prog w).is (.inr x) (.str x t)=true:=BK x t
inductive V where
 |non|bl (b:Bool)|int (i:Int)|str (x:Str)|byt (b:Array UInt8)|flt (b:UInt64)|ref (a:Addr)|ty (n:String)
 deriving DecidableEq
def RelV:V->NK->Prop
 |.non,u=>u=Ur
 |.bl b,u=>u=Us b
 |.int i,u=>∃t,u=TY i t
 |.str x,u=>∃t,u=SJ x t
 |.byt b,u=>∃t,u=Value.bytes b t
 |.flt b,u=>∃t,u=WH b t
 |.ref a,u=>u=OT a
 |.ty n,u=>u=SZ n
abbrev Vals:List V->List NK->Prop:=Tx RelV
theorem Vals.length{xs:List V}{us:List NK}(r:Vals xs us):xs.length=us.length:=QW r
theorem Vals.get:∀{xs:List V}{us:List NK}{i:Nat}{x:V},Vals xs us->xs[i]? = some x->∃u,us[i]? = some u/\RelV x u
 |_,_,_,_,.nil,e=>by simp at e
 |_,_,0,_,.cons r _,e=>by simp at e;subst e;exact⟨_,rfl,r⟩
 |_,_,i+1,x,.cons _ t,e=>by
  obtain⟨u,h1,h2⟩:=Vals.get (i:=i) (x:=x) t (by simpa using e);exact⟨u,by simpa using h1,h2⟩
theorem Vals.set{x:V}{u:NK}(r:RelV x u):∀{xs:List V}{us:List NK} (i:Nat),Vals xs us->Vals (xs.set i x) (us.set i u)
 |_,_,_,.nil=>.nil
 |_,_,0,.cons _ t=>.cons r t
 |_,_,i+1,.cons q t=>.cons q (Vals.set r i t)
theorem Vals.append:∀{xs ys:List V}{us ws:List NK},Vals xs us->Vals ys ws->Vals (xs++ys) (us++ws)
 |_,_,_,_,.nil,s=>s
 |_,_,_,_,.cons r t,s=>.cons r (Vals.append t s)
theorem Vals.take:∀{xs:List V}{us:List NK} (n:Nat),Vals xs us->Vals (xs.take n) (us.take n)
 |_,_,0,_=>.nil
 |_,_,_+1,.nil=>.nil
 |_,_,n+1,.cons r t=>.cons r (Vals.take n t)
theorem Vals.drop:∀{xs:List V}{us:List NK} (n:Nat),Vals xs us->Vals (xs.drop n) (us.drop n)
 |_,_,0,r=>r
 |_,_,_+1,.nil=>.nil
 |_,_,n+1,.cons _ t=>Vals.drop n t
def RelO:Option V->Option NK->Prop
 |some v,some u=>RelV v u
 |none,none=>True
 |_,_=>False
def KV{κ:Type}:List (κ×V)->List (κ×NK)->Prop:=Tx fun(p:κ×V) (q:κ×NK)=>p.1=q.1/\RelV p.2 q.2
def kV:Key->V
 |.inl i=>.int i
 |.inr x=>.str x
inductive HO where
  |lst (xs:List V)
  |tup (xs:List V)
  |dK (kvs:List (Key×V))|dT (kvs:List (List Key×V))
  |set (S:Int->Bool) (n:Nat)
  |ins (C dx:Addr) (fs:List (Str×V))
  |own (x:Addr)
  |xd (fs:List (Str×V))
  |met (f x:Addr)
  |rng (lo hi:Int)
  |frz (o:Obj) (u:HO)
  |tbl (ps:Array NK)
  |ext (φ:Heap->Prop)
abbrev Hp:=Addr->Option HO
def upd(H:Hp)(a:Addr)(o:HO):Hp:=fun b=>if b=a then some o else H b
theorem bx{H:Hp}{a:Addr}{o:HO}:upd H a o a=some o:=by unfold upd;rw[if_pos rfl]
theorem aS{H:Hp}{a b:Addr}{o:HO}(h:b≠a):upd H a o b=H b:=by unfold upd;rw[if_neg h]
theorem DM{H:Hp}{a:Addr}{o u:HO}:upd (upd H a o) a u=upd H a u:=by funext b;unfold upd;split <;> rfl
theorem Ii{H:Hp}{a b:Addr}{o u:HO}(h:H a=some o)(h':H b=some u)(d:o≠u):a≠b:=by intro e;subst e;rw[h] at h';exact d (OL h')
theorem cX{H:Hp}{a b:Addr}{o:HO}(h:H a=some o)(h':H b=none):a≠b:=by intro e;subst e;rw[h] at h';cases h'
section
variable (P:Og)(w:Ow)
def ObjOk(H:Hp)(h:Heap)(a:Addr):HO->Prop
 |.lst xs=>xs.length<=NS/\∃(its:List NK) (n:Nat),Vals xs its/\h.get? a=some { cls:=.type "list",data:=.seq its.toArray n }
 |.tup xs=>xs.length<=NS/\∃its:List NK,Vals xs its/\UB h a its.toArray
 |.dK kvs=>kvs.length<=NS/\(a == Pz)=false/\∃vs,KV kvs vs/\h.DictOf (cb P w) a vs
 |.dT kvs=>kvs.length<=NS/\(a == Pz)=false/\∃xs:List (List Key×Addr×NK),
   Tx (fun(p:List Key×V) (q:List Key×Addr×NK)=>p.1=q.1/\H q.2.1=some (.tup (p.1.map kV))/\RelV p.2 q.2.2) kvs xs /\
   ∃o es ep,h.get? a=some o/\o.ExactDict/\o.data=.dict es ep/\es.toList=xs.map (entryOfKey (TZ (cb P w)))/\(xs.map (·.1)).Nodup
 |.set S n=>h.SetOf (intKind P w) a S n
 |.ins C dx fs=>H dx=some (.own a)/\fs.length<=1000/\dx≠a/\h.get? a=some (Ti C dx) /\
   ∃mA,h.Ns1 dx mA/\(∀f,RelO (fs.lookup f) (mA f))/\Wr mA (fs.map (·.1))
 |.own _=>∃o,h.get? a=some o
 |.xd fs=>∃mA,h.Ns1 a mA/\∀f,RelO (fs.lookup f) (mA f)
 |.rng lo hi=>∃t u v,h.get? a=some { cls:=.type "range",data:=.fields #[.int lo t,.int hi u,.int 1 v] }
 |.frz o u=>h.get? a=some o/\ObjOk H h a u
 |.tbl ps=>h.get? a=some { cls:=.none,data:=.fields ps }
 |.met f x=>h.get? a=some (Sn (.ref f) (.ref x))
 |.ext φ=>φ h/\(∃o,h.get? a=some o)/\∀h1 h2:Heap,φ h1->(∀o,h1.get? a=some o->h2.get? a=some o)->φ h2
def HOk(H:Hp)(h:Heap):Prop:=∀a o,H a=some o->ObjOk P w H h a o
end
section
variable {P:Og}{w:Ow}{H H':Hp}{h h':Heap}{a:Addr}{o:HO}
theorem ObjOk.lt(x:ObjOk P w H h a o):a<h.objs.size:=by
 cases o with
 |lst xs=>obtain⟨_,_,_,_,e⟩:=x;exact Oc e
 |tup xs=>obtain⟨_,_,_,p⟩:=x;exact p.lt
 |dK kvs=>obtain⟨_,_,_,_,o,_,_,e,_⟩:=x;exact Oc e
 |dT kvs=>obtain⟨_,_,_,_,o,_,_,e,_⟩:=x;exact Oc e
 |set S n=>obtain⟨o,_,_,_,e,_⟩:=x;exact Oc e
 |ins C dx fs=>obtain⟨_,_,_,e,_⟩:=x;exact Oc e
 |own y=>obtain⟨_,e⟩:=x;exact Oc e
 |xd fs=>obtain⟨_,⟨_,_,_,e,_⟩,_⟩:=x;exact Oc e
 |rng lo hi=>obtain⟨_,_,_,e⟩:=x;exact Oc e
 |frz ob u=>obtain⟨e,_⟩:=x;exact Oc e
 |tbl ps=>exact Oc (show h.get? a=some _ from x)
 |met f y=>exact Oc (show h.get? a=some _ from x)
 |ext φ=>obtain⟨_,⟨_,e⟩,_⟩:=x;exact Oc e
theorem Paired.mapP{α β:Type}{F G:α->β->Prop}:∀{l₁:List α}{l₂:List β},Tx F l₁ l₂->(∀a b,F a b->G a b)->Tx G l₁ l₂
 |_,_,.nil,_=>.nil
 |_,_,.cons r t,f=>.cons (f _ _ r) (Paired.mapP t f)
theorem ObjOk.stay(x:ObjOk P w H h a o)(k:∀b u,(b=a\/H b=some (.own a))->h.get? b=some u->h'.get? b=some u)
  (ho:∀b,H b=some (.own a)->H' b=some (.own a)) (ht:∀b xs,H b=some (.tup xs)->H' b=some (.tup xs)):ObjOk P w H' h' a o:=by
 induction o with
 |lst xs=>obtain⟨z,its,n,r,e⟩:=x;exact⟨z,its,n,r,k _ _ (.inl rfl) e⟩
 |tup xs=>obtain⟨z,its,r,ob,e,c⟩:=x;exact⟨z,its,r,ob,k _ _ (.inl rfl) e,c⟩
 |dK kvs=>obtain⟨z,y,vs,r,ob,es,ep,e,c⟩:=x;exact⟨z,y,vs,r,ob,es,ep,k _ _ (.inl rfl) e,c⟩
 |dT kvs=>
  obtain⟨z,y,xs,r,ob,es,ep,e,c⟩:=x;exact⟨z,y,xs,Paired.mapP r fun p q z=>⟨z.1,ht _ _ z.2.1,z.2.2⟩,ob,es,ep,k _ _ (.inl rfl) e,c⟩
 |set S n=>obtain⟨ob,es,ep,t,e,c⟩:=x;exact⟨ob,es,ep,t,k _ _ (.inl rfl) e,c⟩
 |ins C dx fs=>
  obtain⟨d,z,ne,e,mA,⟨od,es,ep,e2,c⟩,r⟩:=x;exact⟨ho _ d,z,ne,k _ _ (.inl rfl) e,mA,⟨od,es,ep,k _ _ (.inr d) e2,c⟩,r⟩
 |own y=>obtain⟨ob,e⟩:=x;exact⟨ob,k _ _ (.inl rfl) e⟩
 |xd fs=>obtain⟨mA,⟨od,es,ep,e,c⟩,r⟩:=x;exact⟨mA,⟨od,es,ep,k _ _ (.inl rfl) e,c⟩,r⟩
 |rng lo hi=>obtain⟨t,u,v,e⟩:=x;exact⟨t,u,v,k _ _ (.inl rfl) e⟩
 |frz ob u ih=>obtain⟨e,q⟩:=x;exact⟨k _ _ (.inl rfl) e,ih q⟩
 |tbl ps=>
  have e:h.get? a=some { cls:=.none,data:=.fields ps }:=x;show h'.get? a=some { cls:=.none,data:=.fields ps };exact k a _ (.inl rfl) e
 |met f y=>
  have e:h.get? a=some (Sn (.ref f) (.ref y)):=x;show h'.get? a=some (Sn (.ref f) (.ref y));exact k a _ (.inl rfl) e
 |ext φ=>obtain⟨p,⟨o,e⟩,st⟩:=x;exact⟨st _ _ p fun o q=>k _ _ (.inl rfl) q,⟨o,k _ _ (.inl rfl) e⟩,st⟩
theorem HOk.lt(x:HOk P w H h)(e:H a=some o):a<h.objs.size:=(x a o e).lt
theorem HOk.fresh(x:HOk P w H h)(e:h.objs.size<=a):H a=none:=by
 cases q:H a with
 |none=>rfl
 |some u=>exact absurd (Oj (x.lt q) e) (P0 _)
theorem HOk.kept(x:HOk P w H h)(k:∀b u,h.get? b=some u->h'.get? b=some u):HOk P w H h':=fun a o e=>
 (x a o e).stay (fun b u _ q=>k b u q) (fun _ q=>q) fun _ _ q=>q
theorem HOk.laid(x:HOk P w H h)(k:∀b u,h.get? b=some u->h'.get? b=some u)(hp:h.objs.size<=a)(new:ObjOk P w (upd H a o) h' a o):HOk P w (upd H a o) h':=fun b u e=>by
 have hn:=x.fresh hp
 by_cases hb:b=a
 .subst hb;rw[bx] at e;cases e;exact new
 .rw[aS hb] at e
  exact(x b u e).stay (fun c v _ q=>k c v q) (fun c q=>by rw[aS (cX q hn)];exact q) fun c xs q=>by rw[aS (cX q hn)];exact q
end
def Rd(H:Hp)(a:Addr)(u:HO):Prop:=H a=some u\/∃o,H a=some (.frz o u)
theorem Rd.ok{P:Og}{w:Ow}{H:Hp}{h:Heap}{a:Addr}{u:HO}(r:Rd H a u)(x:HOk P w H h):ObjOk P w H h a u:=by
 rcases r with r|⟨o,r⟩
 .exact x a u r
 .obtain⟨_,q⟩:=x a _ r
  exact q
def Mut:Option HO->Prop
 |some (.lst _)=>True
 |some (.dK _)=>True
 |some (.dT _)=>True
 |some (.set _ _)=>True
 |some (.ins _ _ _)=>True
 |some (.ext _)=>True
 |_=>False
section
variable {P:Og}{w:Ow}{H:Hp}{h h':Heap}{x e:Addr}{o':HO}
theorem HOk.write(ok:HOk P w H h)(mu:Mut (H x))(he:e=x\/H e=some (.own x))(k:∀b u,b≠e->h.get? b=some u->h'.get? b=some u)(heo:∃u,h'.get? e=some u)
  (new:ObjOk P w (upd H x o') h' x o'):HOk P w (upd H x o') h':=fun b u q=>by
 have nown:∀c y,H c=some (.own y)->c≠x:=fun c y r z=>by subst z;rw[r] at mu;exact mu
 have ntup:∀c xs,H c=some (.tup xs)->c≠x:=fun c xs r z=>by subst z;rw[r] at mu;exact mu
 by_cases hb:b=x
 .subst hb;rw[bx] at q;cases q;exact new
 .rw[aS hb] at q
  by_cases hbe:b=e
  .have q':H b=some (.own x):=by
    rcases he with z|z
    .exact absurd (hbe.trans z) hb
    .rw[hbe];exact z
   rw[q] at q';cases q';obtain⟨v,hv⟩:=heo;exact⟨v,by rw[hbe];exact hv⟩
  .refine(ok b u q).stay (fun c v hc r=>k c v ?_ r) (fun c r=>by rw[aS (nown c b r)];exact r) fun c xs r=>by rw[aS (ntup c xs r)];exact r
   rcases hc with rfl|hc
   .exact hbe
   .rintro rfl
    rcases he with z|z
    .exact nown c b hc z
    .rw[hc] at z;cases z;exact hb rfl
end
structure Un(fs ex:List Addr)(H H':Hp)(h h':Heap):Prop where
 keep:∀b o,h.get? b=some o->H b=none->b∉fs->b∉ex->h'.get? b=some o
 slot:∀b o,h.get? b=some o->H b=none->b∈fs->b∉ex->∃sl,h'.get? b=some { o with slots:=sl }
 free:∀b o,h.get? b=some o->H b=none->b∉ex->H' b=none
 there:∀b o,h.get? b=some o->b∉ex->∃o',h'.get? b=some o'
 tups:∀b xs,H b=some (.tup xs)->H' b=some (.tup xs)
 frzs:∀b o u,H b=some (.frz o u)->H' b=some (.frz o u)
 tbls:∀b ps,H b=some (.tbl ps)->∃more,H' b=some (.tbl (ps++more))
section
variable {fs fs' ex ex':List Addr}{H H1 H2:Hp}{h h1 h2 h':Heap}{a x e:Addr}{o:HO}
theorem Un.any(u:Un fs ex H H1 h h1){b:Addr}{ob:Obj}(q:h.get? b=some ob)(n:H b=none)(hx:b∉ex):∃sl,h1.get? b=some { ob with slots:=sl }:=by
 by_cases hb:b∈fs
 .exact u.slot b ob q n hb hx
 .exact⟨ob.slots,u.keep b ob q n hb hx⟩
theorem Un.kept(k:∀b u,h.get? b=some u->h'.get? b=some u):Un fs ex H H h h':=⟨fun b ob q _ _ _=>k b ob q,fun b ob q _ _ _=>⟨ob.slots,k b ob q⟩,fun _ _ _ n _=>n,fun b ob q _=>⟨ob,k b ob q⟩,fun _ _ q=>q,fun _ _ _ q=>q,fun _ ps q=>⟨#[],by rw[q];simp⟩⟩
theorem Un.refl:Un fs ex H H h h:=Un.kept fun _ _ q=>q
theorem Un.laid(k:∀b u,h.get? b=some u->h'.get? b=some u)(hp:h.objs.size<=a)(hn:H a=none):Un fs ex H (upd H a o) h h' where
 keep:=fun b u q _ _ _=>k b u q
 slot:=fun b u q _ _ _=>⟨u.slots,k b u q⟩
 free:=fun b u q n _=>by rw[aS (Ox (Oj (Oc q) hp))];exact n
 there:=fun b u q _=>⟨u,k b u q⟩
 tups:=fun b xs q=>by rw[aS (cX q hn)];exact q
 frzs:=fun b u xs q=>by rw[aS (cX q hn)];exact q
 tbls:=fun b ps q=>⟨#[],by rw[aS (cX q hn),q];simp⟩
theorem Un.write(mu:Mut (H x))(he:e=x\/H e=some (.own x))(k:∀b u,b≠e->h.get? b=some u->h'.get? b=some u)(heo:∃u,h'.get? e=some u):Un fs ex H (upd H x o) h h':=by
 have hx:∀b,H b=none->b≠x:=fun b n z=>by subst z;rw[n] at mu;exact mu
 have hb:∀b,H b=none->b≠e:=fun b n z=>by
  subst z
  rcases he with r|r
  .exact hx b n r
  .rw[n] at r;cases r
 have hm:∀b u,H b=some u->¬Mut (some u)->b≠x:=fun b u q nm z=>by subst z;rw[q] at mu;exact nm mu
 refine⟨fun b u q n _ _=>k b u (hb b n) q,fun b u q n _ _=>⟨u.slots,k b u (hb b n) q⟩,fun b u q n _=>by rw[aS (hx b n)];exact n,fun b u q _=>?_,
  fun b xs q=>by rw[aS (hm b _ q fun z=>z)];exact q,fun b u xs q=>by rw[aS (hm b _ q fun z=>z)];exact q,fun b ps q=>⟨#[],by rw[aS (hm b _ q fun z=>z),q];simp⟩⟩
 by_cases hbe:b=e
 .subst hbe;exact heo
 .exact⟨u,k b u hbe q⟩
end
def trk(h:Heap)(H:Hp):List Addr:=(Pg h.objs.size).filter fun a=>(H a).isSome
def gK(h:Heap)(H:Hp):Heap:=PySem.W.hideAll h (trk h H)
theorem BQ(h:Heap)(H:Hp):(gK h H).objs.size=h.objs.size:=PySem.W.hideAll_size _ _
theorem C0{h:Heap}{H:Hp}{b:Addr}{o:Obj}(e:h.get? b=some o)(n:H b=none):(gK h H).get? b=some o:=
 PySem.W.hideAll_get _ e fun hm=>by
  have q:(H b).isSome=true:=(P9.mp hm).2;rw[n] at q;simp at q
theorem Et{h:Heap}{H:Hp}{b:Addr}{o:Obj}(e:(gK h H).get? b=some o):h.get? b=some o/\H b=none:=by
 have e':h.get? b=some o:=PySem.W.of_hideAll (trk h H) e;refine⟨e',?_⟩
 cases q:H b with
 |none=>rfl
 |some x=>
  have hm:b∈trk h H:=P9.mpr ⟨RY.mpr (Oc e'),by simp[q]⟩;have z:(gK h H).get? b=none:=PySem.W.hideAll_none (trk h H) hm;rw[z] at e;cases e
def Fe(g h:Heap)(L:Addr):List (Addr×Obj):=(Pg h.objs.size).filterMap fun a=>if a=L\/(g.get? a).isSome=true then none else (h.get? a).map fun o=>(a,o)
def rest(g h:Heap)(L d:Addr):List (Addr×Obj):=(Fe g h L).filter fun p=>decide (p.1≠d)
structure Mod(K:Frag)(mg:Str->Option NK)(base:Heap):Prop where
 kin:K.In base
 glob:base.Ns OG mg
 blt:∃mb,base.Ns VD mb/\∀x:Str,x≠"__name__"->mb x=P1 x
 nolimit:base.NoLimit
structure Cx where
 prog:Og
 w:Ow
 K:Frag
 mg:Str->Option NK
 base:Heap
 A:OD
 N:List Str
 s₀:NL
 H₀:Hp
 env:Env
 outer:List Env
 stack:List Env
 ex:List Addr
 fn:Str->Bool
 calm:Bool
 pn:List (Addr×Obj)
 xe:NK->NL->Prop
def frs(l:List Env):List Addr:=l.filterMap (·.frame)
abbrev Cx.fs(X:Cx):List Addr:=frs X.outer
def Vis(sc:Qg)(x:Str):Prop:=sc.names.lookup x=some .local\/sc.names.lookup x=some .cell\/sc.names.lookup x=some .free
def Loc(sc:Qg)(x:Str):Prop:=sc.names.lookup x=some .local\/sc.names.lookup x=some .cell
def Look(env:Env)(h:Heap)(m:Str->Option NK)(x:Str)(u:NK):Prop:=(env.kindOf x=some .local/\m x=some u)\/((env.kindOf x=some .cell\/env.kindOf x=some .free)/\∃c,env.cells.lookup x=some c/\h.IsCell c (some u))
structure Cx.Ok(X:Cx):Prop where
 mod:Mod X.K X.mg X.base
 kind:X.env.scope.kind=.function
 glob:X.env.globals=OG
 blt:X.env.builtins=VD
 above:X.s₀.heap.objs.size<=X.env.locals
 inj:∀x y c,X.env.cells.lookup x=some c->X.env.cells.lookup y=some c->x=y
 has:∀x,(X.env.kindOf x=some .cell\/X.env.kindOf x=some .free)->∃c,X.env.cells.lookup x=some c
 cab:∀x c,X.fn x=true->X.env.cells.lookup x=some c->X.s₀.heap.objs.size<=c
 hd:X.calm=true->X.A.handled=none
 frames:X.A.frames=some X.stack
 stk:X.stack=X.outer\/(X.stack=X.env::X.outer/\X.env.frame=some X.env.locals)
 exf:∀b∈X.ex,b≠X.env.locals/\∀x c,X.env.cells.lookup x=some c->c≠b
 bs:∀b o,X.base.get? b=some o->X.s₀.heap.get? b=some o/\X.H₀ b=none
 bsz:X.base.objs.size<=X.s₀.heap.objs.size
 noex:∀b o,X.base.get? b=some o->b∉X.ex
 exfs:∀b∈X.ex,b∉X.fs
 funs:X.s₀.heap.FunFrames X.base X.outer
 frf:∀b∈X.fs,X.H₀ b=none
structure Inv(X:Cx)(pins:List (Addr×Obj))(σ:List (Option V))(H:Hp)(s:NL):Prop where
 ok:X.Ok
 os:s.os=X.s₀.os
 bare:So s.gens
 base:Un X.fs X.ex X.H₀ H X.s₀.heap s.heap
 loc:∃m,s.heap.Ns X.env.locals m/\∀(i:Nat) (x:Str) (v:V),X.N[i]? = some x->σ[i]? = some (some v)->Vis X.env.scope x->∃u,RelV v u/\Look X.env s.heap m x u
 cell:∀x c,X.env.cells.lookup x=some c->∃v,s.heap.IsCell c v
 free:H X.env.locals=none
 freeC:∀x c,X.env.cells.lookup x=some c->H c=none
 pin:∀p∈X.pn++pins,s.heap.get? p.1=some p.2/\H p.1=none/\p.1≠X.env.locals/\p.1∉X.fs/\∀v,p.2.data≠.cell v
 hok:HOk X.prog X.w H s.heap
 len:σ.length=X.N.length
section
variable {X:Cx}{pins:List (Addr×Obj)}{σ:List (Option V)}{H H':Hp}{s:NL}{h':Heap}
theorem Cx.Ok.nofr(ok:X.Ok){b:Addr}{o:Obj}(e:X.base.get? b=some o):b∉X.fs:=fun hb=>by
 have:=(ok.funs.mem hb).1;rw[e] at this;cases this
theorem Inv.bs(I:Inv X pins σ H s):∀b o,X.base.get? b=some o->s.heap.get? b=some o/\H b=none:=fun b o e=>
 ⟨I.base.keep b o (I.ok.bs b o e).1 (I.ok.bs b o e).2 (I.ok.nofr e) (I.ok.noex b o e),I.base.free b o (I.ok.bs b o e).1 (I.ok.bs b o e).2 (I.ok.noex b o e)⟩
theorem Inv.bk(I:Inv X pins σ H s):∀b o,X.base.get? b=some o->s.heap.get? b=some o:=fun b o e=>(I.bs b o e).1
theorem Inv.mod(I:Inv X pins σ H s):Mod X.K X.mg X.base:=I.ok.mod
theorem Inv.kIn(I:Inv X pins σ H s):X.K.In s.heap:=I.ok.mod.kin.keeps I.bk
theorem Inv.lt(I:Inv X pins σ H s):X.env.locals<s.heap.objs.size:=let ⟨_,hn,_⟩:=I.loc;hn.lt
theorem Inv.sz(I:Inv X pins σ H s):X.s₀.heap.objs.size<=s.heap.objs.size:=Of I.ok.above (Qx I.lt)
theorem Inv.nofs(I:Inv X pins σ H s){a:Addr}(h:s.heap.objs.size<=a):a∉X.fs:=fun hb=>by
 obtain⟨_,o,ho,_⟩:=I.ok.funs.mem hb;exact absurd (Oj (Oc ho) (Of I.sz h)) (P0 _)
theorem Inv.cne(I:Inv X pins σ H s):∀x c,X.env.cells.lookup x=some c->c≠X.env.locals:=fun x c e z=>by
 obtain⟨v,o,ho,hd⟩:=I.cell x c e;obtain⟨m,⟨o',es,ep,ho',hd',_⟩,_⟩:=I.loc;rw[z,ho'] at ho;cases ho;rw[hd'] at hd;cases hd
theorem Inv.funs(I:Inv X pins σ H s):s.heap.FunFrames X.base X.outer:=by
 have all:∀(l:List Env),(∀b∈frs l,b∈X.fs)->X.s₀.heap.FunFrames X.base l->s.heap.FunFrames X.base l:=by
  intro l
  induction l with
  |nil=>intro _ _;trivial
  |cons env r ih=>
   intro hs hl;obtain⟨hk,⟨L,o,hf,hn,ho,hd⟩,hr⟩:=hl;have hL:L∈X.fs:=hs L (by unfold frs;rw[Qr,hf];exact NI);obtain⟨sl,e⟩:=I.base.slot L o ho (I.ok.frf L hL) hL fun z=>I.ok.exfs L z hL;exact⟨hk,⟨L,_,hf,hn,e,hd⟩,ih (fun b hb=>hs b (by unfold frs;rw[Qr,hf];exact NJ _ hb)) hr⟩
 exact all X.outer (fun _ hb=>hb) I.ok.funs
theorem Inv.stack(I:Inv X pins σ H s):s.heap.FunFrames X.base X.stack:=by
 rcases I.ok.stk with e|⟨e,hf⟩
 .rw[e];exact I.funs
 .rw[e]
  obtain⟨m,hn,_⟩:=I.loc;refine .cons (by rw[I.ok.kind];decide) hf hn ?_ I.funs;exact Heap.get?_none_of_le (Of I.ok.bsz I.ok.above)
theorem Inv.stkSub(I:Inv X pins σ H s):∀b∈frs X.stack,b∈X.env.locals::X.fs:=fun b hb=>by
 rcases I.ok.stk with e|⟨e,hf⟩
 .rw[e] at hb;exact NJ _ hb
 .rw[e] at hb
  unfold frs at hb;rw[Qr,hf] at hb;exact hb
theorem Inv.stkFree(I:Inv X pins σ H s):∀b∈frs X.stack,H b=none:=fun b hb=>by
 rcases NR.mp (I.stkSub b hb) with e|hb
 .rw[e];exact I.free
 .obtain⟨_,o,ho,_⟩:=I.ok.funs.mem hb
  exact I.base.free b o ho (I.ok.frf b hb) fun z=>I.ok.exfs b z hb
theorem Inv.step{g':Array UC}{t':Nat}{d':Drawn}{ch:List Addr}(I:Inv X pins σ H s)
  (hch:∀b∈ch,(b∈X.ex\/X.s₀.heap.objs.size<=b)/\b≠X.env.locals/\(∀x c,X.env.cells.lookup x=some c->c≠b)/\∀p∈X.pn++pins,p.1≠b)
  (keep:∀b o,b≠X.env.locals->b∉X.fs->b∉ch->s.heap.get? b=some o->H b=none->h'.get? b=some o)
  (slot:∀b o,b≠X.env.locals->b∈X.fs->b∉ch->s.heap.get? b=some o->H b=none->∃sl,h'.get? b=some { o with slots:=sl }) (free:∀b o,b∉ch->s.heap.get? b=some o->H b=none->H' b=none)
  (there:∀b o,b∉ch->s.heap.get? b=some o->∃o',h'.get? b=some o')
  (tups:∀b xs,H b=some (.tup xs)->H' b=some (.tup xs)) (frzs:∀b o u,H b=some (.frz o u)->H' b=some (.frz o u)) (tbls:∀b ps,H b=some (.tbl ps)->∃more,H' b=some (.tbl (ps++more)))
  (ns:∀m,s.heap.Ns X.env.locals m->h'.Ns X.env.locals m) (hok:HOk X.prog X.w H' h') (hg:So g') :
  Inv X pins σ H' { s with heap:=h',gens:=g',drawn:=d',toks:=t' }:=by
 have neL:∀b o,X.s₀.heap.get? b=some o->b≠X.env.locals:=fun b o e=>Ox (Oj (Oc e) I.ok.above)
 have neC:∀b o,X.s₀.heap.get? b=some o->b∉X.ex->b∉ch:=fun b o e hx hb=>by
  rcases(hch b hb).1 with z|z
  .exact hx z
  .exact absurd (Oj (Oc e) z) (P0 _)
 have cellK:∀x c,X.env.cells.lookup x=some c->∀v,s.heap.IsCell c v->h'.IsCell c v:=fun x c e v ⟨o,ho,hd⟩=>by
  have nch:c∉ch:=fun z=>(hch c z).2.2.1 x c e rfl
  by_cases hc:c∈X.fs
  .obtain⟨sl,q⟩:=slot c o (I.cne x c e) hc nch ho (I.freeC x c e)
   exact⟨_,q,hd⟩
  .exact⟨o,keep c o (I.cne x c e) hc nch ho (I.freeC x c e),hd⟩
 refine⟨I.ok,I.os,hg,⟨fun b o e n hb hx=>?_,fun b o e n hb hx=>?_,fun b o e n hx=>?_,fun b o e hx=>?_,fun b xs e=>tups b xs (I.base.tups b xs e),fun b o xs e=>frzs b o xs (I.base.frzs b o xs e),fun b ps e=>?_⟩,?_,fun x c e=>?_,?_,fun x c e=>?_,fun p hp=>?_,hok,I.len⟩
 .exact keep b o (neL b o e) hb (neC b o e hx) (I.base.keep b o e n hb hx) (I.base.free b o e n hx)
 .obtain⟨sl,e1⟩:=I.base.slot b o e n hb hx
  obtain⟨sl',e2⟩:=slot b _ (neL b o e) hb (neC b o e hx) e1 (I.base.free b o e n hx);exact⟨sl',e2⟩
 .obtain⟨o',e1⟩:=I.base.there b o e hx
  exact free b o' (neC b o e hx) e1 (I.base.free b o e n hx)
 .obtain⟨o',e1⟩:=I.base.there b o e hx
  exact there b o' (neC b o e hx) e1
 .obtain⟨m1,e1⟩:=I.base.tbls b ps e
  obtain⟨m2,e2⟩:=tbls b _ e1;exact⟨m1++m2,by rw[e2,Array.append_assoc]⟩
 .obtain⟨m,hn,hl⟩:=I.loc
  refine⟨m,ns m hn,fun i x v e1 e2 e3=>?_⟩;obtain⟨u,r,l⟩:=hl i x v e1 e2 e3;refine⟨u,r,?_⟩
  rcases l with l|⟨k,c,e,z⟩
  .exact .inl l
  .exact .inr ⟨k,c,e,cellK x c e _ z⟩
 .obtain⟨v,z⟩:=I.cell x c e
  exact⟨v,cellK x c e v z⟩
 .obtain⟨m,⟨o,_,_,ho,_⟩,_⟩:=I.loc
  exact free _ o (fun z=>(hch _ z).2.1 rfl) ho I.free
 .obtain⟨v,o,ho,hd⟩:=I.cell x c e
  exact free c o (fun z=>(hch c z).2.2.1 x c e rfl) ho (I.freeC x c e)
 .obtain⟨e,n,ne,nf,d⟩:=I.pin p hp
  have nch:p.1∉ch:=fun z=>(hch p.1 z).2.2.2 p hp rfl;exact⟨keep p.1 p.2 ne nf nch e n,free p.1 p.2 nch e n,ne,nf,d⟩
theorem Inv.un{t':Nat}(I:Inv X pins σ H s)(u:Un X.fs [] H H' s.heap h')(hok:HOk X.prog X.w H' h'):Inv X pins σ H' { s with heap:=h',toks:=t' }:=by
 obtain⟨m,⟨o,es,ep,ho,r⟩,_⟩:=id I.loc;obtain⟨sl,hL⟩:=u.any ho I.free (by simp)
 exact I.step (g':=s.gens) (d':=s.drawn) (ch:=[]) (fun _ z=>nomatch z) (fun b o _ hb _ e n=>u.keep b o e n hb (by simp)) (fun b o _ hb _ e n=>u.slot b o e n hb (by simp)) (fun b o _ e n=>u.free b o e n (by simp)) (fun b o _ e=>u.there b o e (by simp)) u.tups u.frzs u.tbls (fun m' hm=>by
  obtain⟨o',es',ep',ho',r'⟩:=hm;rw[ho] at ho';cases ho'
  exact⟨_,es',ep',hL,r'⟩) hok I.bare
theorem Inv.call{g':Array UC}{t':Nat}{d':Drawn}{ch:List Addr}(I:Inv X pins σ H s)(u:Un (frs X.stack) ch H H' s.heap h')(hok:HOk X.prog X.w H' h')(hg:So g')
  (hch:∀b∈ch,(b∈X.ex\/X.s₀.heap.objs.size<=b)/\b≠X.env.locals/\(∀x c,X.env.cells.lookup x=some c->c≠b)/\∀p∈X.pn++pins,p.1≠b) :
  Inv X pins σ H' { s with heap:=h',gens:=g',drawn:=d',toks:=t' }:=by
 obtain⟨m,⟨o,es,ep,ho,r⟩,_⟩:=id I.loc;obtain⟨sl,hL⟩:=u.any ho I.free fun z=>(hch _ z).2.1 rfl
 exact I.step (ch:=ch) hch (fun b o hL hb hc e n=>u.keep b o e n (fun z=>(NR.mp (I.stkSub b z)).elim hL hb) hc) (fun b o _ _ hc e n=>u.any e n hc) (fun b o hc e n=>u.free b o e n hc) (fun b o hc e=>u.there b o e hc) u.tups u.frzs u.tbls (fun m' hm=>by
  obtain⟨o',es',ep',ho',r'⟩:=hm;rw[ho] at ho';cases ho'
  exact⟨_,es',ep',hL,r'⟩) hok hg
theorem Inv.turned{t':Nat}{it:Addr}(I:Inv X pins σ H s)(k:∀b o,b≠it->s.heap.get? b=some o->h'.get? b=some o)(hn:H it=none)(hL:it≠X.env.locals)
  (h1:it∈X.ex\/X.s₀.heap.objs.size<=it) (h2:∀x c,X.env.cells.lookup x=some c->c≠it) (h3:∀p∈X.pn++pins,p.1≠it):Inv X pins σ H { s with heap:=h',toks:=t' }:=by
 have nit:∀b u,H b=some u->b≠it:=fun b u e z=>by rw[z,hn] at e;cases e
 refine I.step (g':=s.gens) (d':=s.drawn) (ch:=[it]) (fun b hb=>?_) (fun b o _ _ hc e _=>k b o (fun z=>hc (by simp[z])) e) (fun b o _ _ hc e _=>⟨o.slots,k b o (fun z=>hc (by simp[z])) e⟩) (fun _ _ _ _ n=>n)
  (fun b o hc e=>⟨o,k b o (fun z=>hc (by simp[z])) e⟩) (fun _ _ e=>e) (fun _ _ _ e=>e) (fun b ps e=>⟨#[],by rw[e];simp⟩) (fun m hm=>?_) (fun b u e=>?_) I.bare
 .have e:b=it:=by simpa using hb
  subst e;exact⟨h1,hL,h2,h3⟩
 .obtain⟨o,es,ep,ho,r⟩:=hm
  exact⟨o,es,ep,k _ o (Qj hL) ho,r⟩
 .refine(I.hok b u e).stay (fun c v hc q=>k c v ?_ q) (fun _ q=>q) fun _ _ q=>q
  rcases hc with z|z
  .rw[z];exact nit b u e
  .exact nit c _ z
theorem Inv.tok(I:Inv X pins σ H s)(t:Nat):Inv X pins σ H { s with toks:=t }:=I.un (h':=s.heap) (t':=t) Un.refl I.hok
theorem Inv.kept{t':Nat}(I:Inv X pins σ H s)(k:∀b u,s.heap.get? b=some u->h'.get? b=some u):Inv X pins σ H { s with heap:=h',toks:=t' }:=I.un (Un.kept k) (I.hok.kept k)
theorem Inv.laid{a:Addr}{o:HO}{t':Nat}(I:Inv X pins σ H s)(k:∀b u,s.heap.get? b=some u->h'.get? b=some u)(hp:s.heap.objs.size<=a)(new:ObjOk X.prog X.w (upd H a o) h' a o) :
  Inv X pins σ (upd H a o) { s with heap:=h',toks:=t' }:=I.un (Un.laid k hp (I.hok.fresh hp)) (I.hok.laid k hp new)
theorem Inv.write{x e:Addr}{o:HO}{t':Nat}(I:Inv X pins σ H s)(mu:Mut (H x))(he:e=x\/H e=some (.own x))(k:∀b u,b≠e->s.heap.get? b=some u->h'.get? b=some u)(heo:∃u,h'.get? e=some u)
  (new:ObjOk X.prog X.w (upd H x o) h' x o):Inv X pins σ (upd H x o) { s with heap:=h',toks:=t' }:=I.un (Un.write mu he k heo) (I.hok.write mu he k heo new)
theorem Inv.pins_of{pins':List (Addr×Obj)}(I:Inv X pins σ H s)(h:∀p∈pins',s.heap.get? p.1=some p.2/\H p.1=none/\p.1≠X.env.locals/\p.1∉X.fs/\∀v,p.2.data≠.cell v):Inv X pins' σ H s:=⟨I.ok,I.os,I.bare,I.base,I.loc,I.cell,I.free,I.freeC,fun p hp=>(Ob.mp hp).elim (fun z=>I.pin p (PB _ z)) (h p),I.hok,I.len⟩
theorem vj{N:List Str}(hN:N.Nodup){i j:Nat}{x:Str}(a:N[i]? = some x)(b:N[j]? = some x):i=j:=by
 obtain⟨h1,e1⟩:=NM.mp a;obtain⟨h2,e2⟩:=NM.mp b;exact(List.getElem_inj hN).mp (e1.trans e2.symm)
theorem Bo{M:Model}{A:OD}{E:NK->NL->Prop}{i:Nat}{x:Str}{v:V}{u:NK}{Q:Unit->NL->Prop}(I:Inv X pins σ H s)(hN:X.N.Nodup)(hi:X.N[i]? = some x)(hx:Loc X.env.scope x)(r:RelV v u)
  (h:∀s',Inv X pins (σ.set i (some v)) H s'->(∃a,Rh a s.heap s'.heap/\(a=X.env.locals\/X.env.cells.lookup x=some a))->Q () s') (hf:X.fn x=true\/X.env.scope.names.lookup x=some .local:=by first|exact .inl rfl|exact .inr rfl|assumption):Oo M A (storeName X.env x u) Q E s:=by
 obtain⟨m,hn,hl⟩:=id I.loc
 have hcls:(X.env.scope.kind == .class||(X.env.scope.kind == .module&&X.env.locals != X.env.globals))=false:=by rw[I.ok.kind];rfl
 have hiσ:i<σ.length:=by rw[I.len];exact(NM.mp hi).1
 have cne:=I.cne
 have tracked:∀{a:Addr}{h':Heap},(∃o,s.heap.get? a=some o/\H a=none)->Rh a s.heap h'->HOk X.prog X.w H h':=fun {a h'} ha hs b ob e=>by
  obtain⟨_,_,hfree⟩:=ha;refine(I.hok b ob e).stay (fun c w' hc q=>(hs.2 c ?_).trans q) (fun _ q=>q) fun _ _ q=>q;rintro rfl
  rcases hc with rfl|hc
  .rw[hfree] at e;cases e
  .rw[hfree] at hc;cases hc
 rcases hx with hk|hk
 .refine wpAny_storeName_local hk hn (fun h' hn' hs=>?_) hcls
  obtain⟨oL,_,_,hoL,_⟩:=id hn;refine h _ ⟨I.ok,I.os,I.bare,⟨fun b o e n hb hx=>?_,fun b o e n hb hx=>?_,I.base.free,fun b o e hx=>?_,I.base.tups,I.base.frzs,I.base.tbls⟩,⟨_,hn',fun j y v' e1 e2 e3=>?_⟩,fun y c e=>?_,I.free,I.freeC,fun p hp=>?_,tracked ⟨oL,hoL,I.free⟩ hs,by simpa using I.len⟩ ⟨_,hs,.inl rfl⟩
  .exact(hs.2 b (Ox (Oj (Oc e) I.ok.above))).trans (I.base.keep b o e n hb hx)
  .obtain⟨sl,e1⟩:=I.base.slot b o e n hb hx
   exact⟨sl,(hs.2 b (Ox (Oj (Oc e) I.ok.above))).trans e1⟩
  .obtain⟨o',e1⟩:=I.base.there b o e hx
   exact⟨o',(hs.2 b (Ox (Oj (Oc e) I.ok.above))).trans e1⟩
  .by_cases hj:j=i
   .subst hj
    rw[hi] at e1;cases e1;rw[NV hiσ] at e2;cases e2;exact⟨u,r,.inl ⟨hk,by simp⟩⟩
   .rw[NQ (Qj hj)] at e2
    obtain⟨u',r',q⟩:=hl j y v' e1 e2 e3;refine⟨u',r',?_⟩
    rcases q with⟨k,e⟩|⟨k,c,e,z⟩
    .refine .inl ⟨k,?_⟩
     have:y≠x:=fun e=>hj (vj hN e1 (e ▸ hi));simp[this,e]
    .exact .inr ⟨k,c,e,z.sameBut hs (cne y c e)⟩
  .obtain⟨w',z⟩:=I.cell y c e
   exact⟨w',z.sameBut hs (cne y c e)⟩
  .obtain⟨e,n,ne,nf,d⟩:=I.pin p hp
   exact⟨(hs.2 p.1 ne).trans e,n,ne,nf,d⟩
 .have hfn:X.fn x=true:=by
   rcases hf with z|z
   .exact z
   .rw[z] at hk;cases hk
  obtain⟨c,hc⟩:=I.ok.has x (.inl hk);obtain⟨w',z⟩:=I.cell x c hc;refine wpAny_storeName_cell I.ok.kind hk hc z (fun h' hc' hs=>?_);obtain⟨oc,hoc,hocd⟩:=id z;refine h { s with heap:=h' } ⟨I.ok,I.os,I.bare,⟨fun b o e n hb hx=>?_,fun b o e n hb hx=>?_,I.base.free,fun b o e hx=>?_,I.base.tups,I.base.frzs,I.base.tbls⟩,⟨m,hn.sameBut hs (Qj (cne x c hc)),fun j y v' e1 e2 e3=>?_⟩,fun y c' e=>?_,I.free,I.freeC,fun p hp=>?_,tracked ⟨oc,hoc,I.freeC x c hc⟩ hs,by simpa using I.len⟩ ⟨c,hs,.inr hc⟩
  .exact(hs.2 b (Ox (Oj (Oc e) (I.ok.cab x c hfn hc)))).trans (I.base.keep b o e n hb hx)
  .obtain⟨sl,e1⟩:=I.base.slot b o e n hb hx
   exact⟨sl,(hs.2 b (Ox (Oj (Oc e) (I.ok.cab x c hfn hc)))).trans e1⟩
  .obtain⟨o',e1⟩:=I.base.there b o e hx
   exact⟨o',(hs.2 b (Ox (Oj (Oc e) (I.ok.cab x c hfn hc)))).trans e1⟩
  .by_cases hj:j=i
   .subst hj
    rw[hi] at e1;cases e1;rw[NV hiσ] at e2;cases e2;exact⟨u,r,.inr ⟨.inl hk,c,hc,hc'⟩⟩
   .rw[NQ (Qj hj)] at e2
    obtain⟨u',r',q⟩:=hl j y v' e1 e2 e3;refine⟨u',r',?_⟩
    rcases q with q|⟨k,c',e,z'⟩
    .exact .inl q
    .refine .inr ⟨k,c',e,z'.sameBut hs ?_⟩
     rintro rfl;exact hj (vj hN e1 (I.ok.inj _ _ _ e hc ▸ hi))
  .by_cases hcc:c'=c
   .subst hcc;exact⟨_,hc'⟩
   .obtain⟨w2,z2⟩:=I.cell y c' e
    exact⟨w2,z2.sameBut hs hcc⟩
  .obtain⟨e,n,ne,nf,d⟩:=I.pin p hp
   refine⟨(hs.2 p.1 ?_).trans e,n,ne,nf,d⟩;intro q;rw[q,hoc] at e;have q':oc=p.2:=OL e;exact d w' (by rw[←q'];exact hocd)
theorem qh{M:Model}{A:OD}{E:NK->NL->Prop}{i:Nat}{x:Str}{v:V}{u:NK}{Q:Unit->NL->Prop}(I:Inv X pins σ H s)(hN:X.N.Nodup)(hi:X.N[i]? = some x)(hx:Loc X.env.scope x)(r:RelV v u)
  (h:∀s',Inv X pins (σ.set i (some v)) H s'->Q () s') (hf:X.fn x=true\/X.env.scope.names.lookup x=some .local:=by first|exact .inl rfl|exact .inr rfl|assumption):Oo M A (storeName X.env x u) Q E s:=Bo I hN hi hx r (fun s' I' _=>h s' I') hf
theorem Inv.call'{s':NL}{ch:List Addr}(I:Inv X pins σ H s)(ho:s'.os=s.os)(u:Un (frs X.stack) ch H H' s.heap s'.heap)(hok:HOk X.prog X.w H' s'.heap)(hg:So s'.gens)
  (hch:∀b∈ch,(b∈X.ex\/X.s₀.heap.objs.size<=b)/\b≠X.env.locals/\(∀x c,X.env.cells.lookup x=some c->c≠b)/\∀p∈X.pn++pins,p.1≠b):Inv X pins σ H' s':=by
 obtain⟨h',g',d',t',o'⟩:=s';have e:o'=s.os:=ho;subst e;exact I.call (g':=g') (t':=t') (d':=d') u hok hg hch
end
abbrev XK:=NK->Option Addr->Hp->Prop
abbrev St:=List (Option V)
abbrev VK:=V->Hp->Prop
abbrev TE:=St->Hp->VK->Prop
abbrev TT:=St->Hp->(Bool->Hp->Prop)->Prop
abbrev TA:=St->Hp->(List V->Hp->Prop)->Prop
structure Ends where
 nx:St->Hp->Prop
 rt:VK
 bk:St->Hp->Prop:=fun _ _=>False
 ct:St->Hp->Prop:=fun _ _=>False
abbrev TS:=Ends->St->Hp->Prop
def EP(X:Cx)(pins:List (Addr×Obj))(σ:St)(Q:VK)(u:NK)(s':NL):Prop:=∃v H',Inv X pins σ H' s'/\RelV v u/\Q v H'
def TP(X:Cx)(pins:List (Addr×Obj))(σ:St)(Q:Bool->Hp->Prop)(b:Bool)(s':NL):Prop:=∃H',Inv X pins σ H' s'/\Q b H'
def AP(X:Cx)(pins:List (Addr×Obj))(σ:St)(Q:List V->Hp->Prop)(us:List NK)(s':NL):Prop:=∃vs H',Inv X pins σ H' s'/\Vals vs us/\Q vs H'
def SP(X:Cx)(pins:List (Addr×Obj))(D:Ends)(f:Flow)(s':NL):Prop:=
 match f with
 |.next=>∃σ' H',Inv X pins σ' H' s'/\D.nx σ' H'
 |.brk=>∃σ' H',Inv X pins σ' H' s'/\D.bk σ' H'
 |.cont=>∃σ' H',Inv X pins σ' H' s'/\D.ct σ' H'
 |.ret u=>∃v σ' H',Inv X pins σ' H' s'/\RelV v u/\D.rt v H'
def PE(X:Cx)(e:Expr)(t:TE):Prop:=∀(pins:List (Addr×Obj)) (s:NL) (σ:St) (H:Hp) (Q:VK),Inv X pins σ H s->t σ H Q->Oo (Ot X.prog X.w) X.A (eval e X.env) (EP X pins σ Q) X.xe s
def PT(X:Cx)(e:Expr)(t:TT):Prop:=∀(pins:List (Addr×Obj)) (s:NL) (σ:St) (H:Hp) (Q:Bool->Hp->Prop),Inv X pins σ H s->t σ H Q->Oo (Ot X.prog X.w) X.A (VE e X.env (eval e X.env)) (TP X pins σ Q) X.xe s
def PW(X:Cx)(e:Expr)(t:TT):Prop:=∀(whole:Sem NK) (pins:List (Addr×Obj)) (s:NL) (σ:St) (H:Hp) (Q:Bool->Hp->Prop),Inv X pins σ H s->t σ H Q->Oo (Ot X.prog X.w) X.A (VE e X.env whole) (TP X pins σ Q) X.xe s
theorem PW.pt{X:Cx}{e:Expr}{t:TT}(h:PW X e t):PT X e t:=h _
def PA(X:Cx)(es:List Expr)(t:TA):Prop:=∀(pos:Pos) (pins:List (Addr×Obj)) (s:NL) (σ:St) (H:Hp) (Q:List V->Hp->Prop),Inv X pins σ H s->t σ H Q->Oo (Ot X.prog X.w) X.A (spliced (O4 pos (NU es X.env))) (AP X pins σ Q) X.xe s
def PS(X:Cx)(st:Stmt)(t:TS):Prop:=∀(pins:List (Addr×Obj)) (s:NL) (σ:St) (H:Hp) (D:Ends),Inv X pins σ H s->t D σ H->Oo (Ot X.prog X.w) X.A (exec st X.env) (SP X pins D) X.xe s
def PSs(X:Cx)(st:List Stmt)(t:TS):Prop:=∀(pins:List (Addr×Obj)) (s:NL) (σ:St) (H:Hp) (D:Ends),Inv X pins σ H s->t D σ H->Oo (Ot X.prog X.w) X.A (execs st X.env) (SP X pins D) X.xe s
theorem thn{α:Type}{t:Sem α}{Q Q':α->NL->Prop}{M:Model}{A:OD}{E:NK->NL->Prop}{s:NL}(h:Oo M A t Q E s)(hQ:∀a s,Q a s->Q' a s):Oo M A t Q' E s:=PX h hQ fun _ _ x=>x
section
variable {X:Cx}
def zk(i:Nat):TE:=fun σ H Q=>∃v,σ[i]? = some (some v)/\Q v H
def tC(v:V):TE:=fun _ H Q=>Q v H
theorem F8{i:Nat}{x:Str}{pos:Pos}(hN:X.N[i]? = some x)(hv:Vis X.env.scope x)(hd:(x == ("__debug__" : Str))=false:=by decide)(hcd:(x == ("__classdict__" : Str))=false:=by decide):PE X (.Name x pos) (zk i):=by
 intro pins s σ H Q I h;obtain⟨v,e,h⟩:=h;obtain⟨m,hn,hl⟩:=I.loc;obtain⟨u,r,l⟩:=hl i x v hN e hv;have fin:EP X pins σ Q u s:=⟨v,H,I,r,h⟩
 rcases l with⟨hk,hm⟩|⟨hk,c,hc,hcell⟩
 .exact VF (wpAny_loadName_local I.ok.kind hk hn hm fin) hd
 .rcases hk with hk|hk
  .exact VF (wpAny_loadName_cell I.ok.kind hk hc hcell fin) hd
  .exact VF (wpAny_loadName_free I.ok.kind hk hc hcell fin hcd) hd
theorem xT{i j pos}:PE X (.Constant (.int i) j pos) (tC (.int i)):=fun _ _ _ H _ I h=>RZ ⟨.int i,H,I.tok _,⟨_,rfl⟩,h⟩
theorem HU{b j pos}:PE X (.Constant (.bool b) j pos) (tC (.bl b)):=fun _ _ _ H _ I h=>Constant_bool ⟨.bl b,H,I,rfl,h⟩
theorem Gc{j pos}:PE X (.Constant .none j pos) (tC .non):=fun _ _ _ H _ I h=>Constant_none ⟨.non,H,I,rfl,h⟩
theorem rG{x j pos}:PE X (.Constant (.str x) j pos) (tC (.str x)):=fun _ _ _ H _ I h=>R3 ⟨.str x,H,I.tok _,⟨_,rfl⟩,h⟩
def Gl(X:Cx)(x:Str):Prop:=X.env.kindOf x=some .globalImplicit
theorem wK{E:NK->NL->Prop}{pins:List (Addr×Obj)}{s:NL}{σ:St}{H:Hp}{x:Str}{u:NK}{pos:Pos}{Q:NK->NL->Prop}(I:Inv X pins σ H s)(hg:Gl X x)(hm:X.mg x=some u)(h:Q u s)
  (hd:(x == ("__debug__" : Str))=false:=by decide):Oo (Ot X.prog X.w) X.A (eval (.Name x pos) X.env) Q E s:=R4 I.ok.kind hg (Calls.loadGlobal_global (by rw[I.ok.glob];exact I.mod.glob.keeps I.bk) hm h) hd
theorem lj{E:NK->NL->Prop}{pins:List (Addr×Obj)}{s:NL}{σ:St}{H:Hp}{x:Str}{u:NK}{pos:Pos}{Q:NK->NL->Prop}(I:Inv X pins σ H s)(hg:Gl X x)(hm:X.mg x=none)(hv:P1 x=some u)(h:Q u s)
  (hn:x≠"__name__":=by decide) (hd:(x == ("__debug__" : Str))=false:=by decide):Oo (Ot X.prog X.w) X.A (eval (.Name x pos) X.env) Q E s:=by
 obtain⟨mb,h1,h2⟩:=I.mod.blt;exact R4 I.ok.kind hg (Calls.loadGlobal_builtin (by rw[I.ok.glob];exact I.mod.glob.keeps I.bk) hm (by rw[I.ok.blt];exact h1.keeps I.bk) ((h2 x hn).trans hv) h) hd
theorem qC{x:Str}{v:V}{u:NK}{pos:Pos}(hg:Gl X x)(hm:X.mg x=some u)(r:RelV v u)(hd:(x == ("__debug__" : Str))=false:=by decide):PE X (.Name x pos) (tC v):=fun _ _ _ H _ I h=>wK I hg hm ⟨v,H,I,r,h⟩ hd
theorem El{x:Str}{v:V}{u:NK}{pos:Pos}(hg:Gl X x)(hm:X.mg x=none)(hv:P1 x=some u)(r:RelV v u)(hn:x≠"__name__":=by decide)(hd:(x == ("__debug__" : Str))=false:=by decide):PE X (.Name x pos) (tC v):=fun _ _ _ H _ I h=>lj I hg hm hv ⟨v,H,I,r,h⟩ hn hd
variable {a b:Expr}{ta tb:TE}{pos:Pos}
def PC(X:Cx)(op:Tj)(a b:Expr)(t:TE):Prop:=
 ∀(pins:List (Addr×Obj)) (s:NL) (σ:St) (H:Hp) (Q:VK),Inv X pins σ H s->t σ H Q ->
  Oo (Ot X.prog X.w) X.A (eval a X.env) (fun v s₁=>Oo (Ot X.prog X.w) X.A (eval b X.env) (fun u s₂=>Oo (Ot X.prog X.w) X.A (Oh op v u) (EP X pins σ Q) X.xe s₂) X.xe s₁) X.xe s
def tB(t:TE):TT:=fun σ H Q=>t σ H fun x H1=>∃c,x=.bl c/\Q c H1
theorem F4{op:Tj}{t:TE}(h:PC X op a b t)(h1:P2 op b=false:=by first|exact nobehind _ (by decide) (by decide)|rfl):PT X (.Compare a [op] [b] pos) (tB t):=by
 intro pins s σ H Q I hw;refine Rq (thn (h pins s σ H _ I hw) fun v s1 h1=>thn h1 fun u s2 h2=>thn h2 fun c s3 ⟨x,H1,I1,r1,q1⟩=>?_) h1;obtain⟨d,rfl,q⟩:=q1;cases r1;exact O6 ⟨H1,I1,q⟩
variable {tA tB':TT}{rest:List Expr}
def Ji(t u:TT):TT:=fun σ H Q=>t σ H fun c H1=>if c=true then u σ H1 Q else Q false H1
def tOr(t u:TT):TT:=fun σ H Q=>t σ H fun c H1=>if c=true then Q true H1 else u σ H1 Q
def Jc(t:TT):TT:=fun σ H Q=>t σ H fun c H1=>Q (!c) H1
theorem D4(ha:PT X a tA):PW X (.BoolOp .And [a] pos) tA:=by
 intro wh pins s σ H Q I h;refine isTrue_and (thn (ha pins s σ H Q I h) fun c s1 e=>?_)
 cases c with
 |true=>exact isTrue_and_nil e
 |false=>exact e
theorem F1(ha:PT X a tA):PW X (.BoolOp .Or [a] pos) tA:=by
 intro wh pins s σ H Q I h;refine U0 (thn (ha pins s σ H Q I h) fun c s1 e=>?_)
 cases c with
 |false=>exact isTrue_or_nil e
 |true=>exact e
theorem F2(ha:PT X a tA)(hb:PW X (.BoolOp .And (b::rest) pos) tB'):PW X (.BoolOp .And (a::b::rest) pos) (Ji tA tB'):=by
 intro wh pins s σ H Q I h;refine isTrue_and (thn (ha pins s σ H _ I h) fun c s1 ⟨H1,I1,q1⟩=>?_)
 cases c with
 |true=>exact hb wh pins s1 σ H1 Q I1 q1
 |false=>exact⟨H1,I1,q1⟩
theorem HL(ha:PT X a tA)(hb:PW X (.BoolOp .Or (b::rest) pos) tB'):PW X (.BoolOp .Or (a::b::rest) pos) (tOr tA tB'):=by
 intro wh pins s σ H Q I h;refine U0 (thn (ha pins s σ H _ I h) fun c s1 ⟨H1,I1,q1⟩=>?_)
 cases c with
 |true=>exact⟨H1,I1,q1⟩
 |false=>exact hb wh pins s1 σ H1 Q I1 q1
theorem F3(ha:PT X a tA):PT X (.UnaryOp .Not a pos) (Jc tA):=by
 intro pins s σ H Q I h;exact isTrue_not (ha pins s σ H (fun c H1=>Q (!c) H1) I h)
def HG(ta tb:TE):TE:=fun σ H Q=>ta σ H fun x H1=>∃c,x=.bl c/\if c=true then tb σ H1 Q else Q (.bl false) H1
def Jb(ta tb:TE):TE:=fun σ H Q=>ta σ H fun x H1=>∃c,x=.bl c/\if c=true then Q (.bl true) H1 else tb σ H1 Q
def HA(ta:TE):TE:=fun σ H Q=>ta σ H fun x H1=>∃c,x=.bl c/\Q (.bl (!c)) H1
theorem Ga{op}{t:TE}(h:PE X a t):PE X (.BoolOp op [a] pos) t:=fun pins s σ H Q I hw=>BoolOp_one (h pins s σ H Q I hw)
theorem Gd(ha:PE X a ta)(hb:PE X (.BoolOp .And (b::rest) pos) tb):PE X (.BoolOp .And (a::b::rest) pos) (HG ta tb):=by
 intro pins s σ H Q I h;refine BoolOp_and (thn (ha pins s σ H _ I h) fun v s1 ⟨x,H1,I1,r1,q1⟩=>?_);obtain⟨c,rfl,q1⟩:=q1;cases r1;refine O6 ?_
 cases c with
 |true=>exact hb pins s1 σ H1 Q I1 q1
 |false=>exact⟨.bl false,H1,I1,rfl,q1⟩
theorem HP(ha:PE X a ta)(hb:PE X (.BoolOp .Or (b::rest) pos) tb):PE X (.BoolOp .Or (a::b::rest) pos) (Jb ta tb):=by
 intro pins s σ H Q I h;refine BoolOp_or (thn (ha pins s σ H _ I h) fun v s1 ⟨x,H1,I1,r1,q1⟩=>?_);obtain⟨c,rfl,q1⟩:=q1;cases r1;refine O6 ?_
 cases c with
 |false=>exact hb pins s1 σ H1 Q I1 q1
 |true=>exact⟨.bl true,H1,I1,rfl,q1⟩
theorem Gb(ha:PE X a ta):PE X (.UnaryOp .Not a pos) (HA ta):=by
 intro pins s σ H Q I h;refine UnaryOp_ (thn (ha pins s σ H _ I h) fun v s1 ⟨x,H1,I1,r1,q1⟩=>?_);obtain⟨c,rfl,q1⟩:=q1;cases r1;exact not_of (O6 ⟨.bl (!c),H1,I1,rfl,q1⟩)
def tIf(t:TT)(ta tb:TE):TE:=fun σ H Q=>t σ H fun c H1=>if c=true then ta σ H1 Q else tb σ H1 Q
theorem Cw{c:Expr}(hc:PT X c tA)(ha:PE X a ta)(hb:PE X b tb):PE X (.IfExp c a b pos) (tIf tA ta tb):=by
 intro pins s σ H Q I h;refine wpAny_IfExp (thn (hc pins s σ H _ I h) fun d s1 ⟨H1,I1,q1⟩=>?_)
 cases d with
 |true=>exact ha pins s1 σ H1 Q I1 q1
 |false=>exact hb pins s1 σ H1 Q I1 q1
end
def SqL(K:Frag)(H:Hp)(a:Addr)(xs:List V):Prop:=
 Rd H a (.lst xs) \/
  ∃(o:Obj) (its:Array NK) (n:Nat),K.lookup a=some o/\o.cls=.type "list"/\o.dict=none/\o.data=.seq its n/\its.size<=NS/\Vals xs its.toList
def SqT(K:Frag)(H:Hp)(a:Addr)(xs:List V):Prop:=
 Rd H a (.tup xs) \/
  ∃(o:Obj) (its:Array NK) (n:Nat),K.lookup a=some o/\o.cls=.type "tuple"/\o.data=.seq its n/\its.size<=NS/\Vals xs its.toList
def JD:NK->Option V
 |.none=>some .non
 |.bool b=>some (.bl b)
 |.int i _=>some (.int i)
 |.str x _=>some (.str x)
 |.bytes b _=>some (.byt b)
 |.float b _=>some (.flt b)
 |.ref a=>some (.ref a)
 |.type n=>some (.ty n)
 |_=>none
theorem RelV.abs{x:V}{u:NK}(r:RelV x u):JD u=some x:=by
 cases x with
 |non=>cases r;rfl
 |bl _=>cases r;rfl
 |int _=>obtain⟨t,rfl⟩:=r;rfl
 |str _=>obtain⟨t,rfl⟩:=r;rfl
 |byt _=>obtain⟨t,rfl⟩:=r;rfl
 |flt _=>obtain⟨t,rfl⟩:=r;rfl
 |ref _=>cases r;rfl
 |ty _=>cases r;rfl
theorem RelV.inj{x y:V}{u:NK}(r:RelV x u)(q:RelV y u):x=y:=OL (r.abs.symm.trans q.abs)
theorem Vals.inj:∀{xs ys:List V}{us:List NK},Vals xs us->Vals ys us->xs=ys
 |_,_,_,.nil,.nil=>rfl
 |_,_,_,.cons r t,.cons r' t'=>by rw[r.inj r',Vals.inj t t']
section
variable {X:Cx}{pins:List (Addr×Obj)}{σ:St}{H:Hp}{s:NL}{a:Addr}{xs ys:List V}
theorem SqL.of{K:Frag}(h:H a=some (.lst xs)):SqL K H a xs:=.inl (.inl h)
theorem SqT.of{K:Frag}(h:H a=some (.tup xs)):SqT K H a xs:=.inl (.inl h)
theorem Inv.list(I:Inv X pins σ H s)(h:SqL X.K H a xs):∃its:List NK,Vals xs its/\PlainL s.heap a its.toArray/\xs.length<=sizeLine:=by
 rcases h with h|⟨o,its,n,hk,hc,hd,hs,hz,r⟩
 .obtain⟨z,its,n,r,e⟩:=h.ok I.hok
  exact⟨its,r,⟨_,n,e,rfl,rfl,rfl⟩,z⟩
 .refine⟨its.toList,r,⟨o,n,I.kIn a o hk,hc,hd,by simpa using hs⟩,?_⟩
  have e:=r.length;simp only[Pf] at e;omega
theorem Inv.tuple(I:Inv X pins σ H s)(h:SqT X.K H a xs):∃its:List NK,Vals xs its/\UB s.heap a its.toArray/\xs.length<=sizeLine:=by
 rcases h with h|⟨o,its,n,hk,hc,hs,hz,r⟩
 .obtain⟨z,its,r,p⟩:=h.ok I.hok
  exact⟨its,r,p,z⟩
 .refine⟨its.toList,r,⟨o,I.kIn a o hk,hc,n,by simpa using hs⟩,?_⟩
  have e:=r.length;simp only[Pf] at e;omega
theorem Inv.list_inj(I:Inv X pins σ H s)(h:SqL X.K H a xs)(h':SqL X.K H a ys):xs=ys:=by
 obtain⟨its,r,⟨o,n,e,_,_,d⟩,_⟩:=I.list h;obtain⟨its',r',⟨o',n',e',_,_,d'⟩,_⟩:=I.list h';rw[e] at e';cases e';rw[d] at d'
 injection d' with d1 _
 have:its=its':=by simpa using congrArg Ws d1
 subst this;exact r.inj r'
theorem Inv.tuple_inj(I:Inv X pins σ H s)(h:SqT X.K H a xs)(h':SqT X.K H a ys):xs=ys:=by
 obtain⟨its,r,⟨o,e,_,n,d⟩,_⟩:=I.tuple h;obtain⟨its',r',⟨o',e',_,n',d'⟩,_⟩:=I.tuple h';rw[e] at e';cases e';rw[d] at d'
 injection d' with d1 _
 have:its=its':=by simpa using congrArg Ws d1
 subst this;exact r.inj r'
end
abbrev Cx.wish(X:Cx)(E:NK->NL->Prop):Cx:={ X with xe:=E }
abbrev Cx.nox(X:Cx):Cx:=X.wish fun _ _=>False
theorem Cx.Ok.wish{X:Cx}(ok:X.Ok)(E:NK->NL->Prop):(X.wish E).Ok:=⟨ok.mod,ok.kind,ok.glob,ok.blt,ok.above,ok.inj,ok.has,ok.cab,ok.hd,ok.frames,ok.stk,ok.exf,ok.bs,ok.bsz,ok.noex,ok.exfs,ok.funs,ok.frf⟩
theorem Cx.Ok.unwish{X:Cx}{E:NK->NL->Prop}(ok:(X.wish E).Ok):X.Ok:=⟨ok.mod,ok.kind,ok.glob,ok.blt,ok.above,ok.inj,ok.has,ok.cab,ok.hd,ok.frames,ok.stk,ok.exf,ok.bs,ok.bsz,ok.noex,ok.exfs,ok.funs,ok.frf⟩
section
variable {X:Cx}{pins:List (Addr×Obj)}{σ:St}{H:Hp}{s:NL}{E:NK->NL->Prop}
theorem Inv.wish(I:Inv X pins σ H s)(E:NK->NL->Prop):Inv (X.wish E) pins σ H s:=⟨I.ok.wish E,I.os,I.bare,I.base,I.loc,I.cell,I.free,I.freeC,I.pin,I.hok,I.len⟩
theorem Inv.unwish(I:Inv (X.wish E) pins σ H s):Inv X pins σ H s:=⟨I.ok.unwish,I.os,I.bare,I.base,I.loc,I.cell,I.free,I.freeC,I.pin,I.hok,I.len⟩
theorem SP.unwish{D:Ends}{f:Flow}{s':NL}(h:SP (X.wish E) pins D f s'):SP X pins D f s':=by
 cases f with
 |next=>obtain⟨σ',H',I,q⟩:=h;exact⟨σ',H',I.unwish,q⟩
 |brk=>obtain⟨σ',H',I,q⟩:=h;exact⟨σ',H',I.unwish,q⟩
 |cont=>obtain⟨σ',H',I,q⟩:=h;exact⟨σ',H',I.unwish,q⟩
 |ret u=>obtain⟨v,σ',H',I,r,q⟩:=h;exact⟨v,σ',H',I.unwish,r,q⟩
theorem PSs.nox{st:List Stmt}{t:TS}(h:PSs X.nox st t):PSs X st t:=fun pins s σ H D I hw=>
 PX (h pins s σ H D (I.wish _) hw) (fun _ _ q=>q.unwish) fun _ _ z=>Qy z
end
section
variable {X:Cx}{st:Stmt}{rest:List Stmt}{t u:TS}{e:Expr}{te:TE}{pos:Pos}
def HB:TS:=fun D σ H=>D.nx σ H
def zo(t u:TS):TS:=fun D σ H=>t { D with nx:=u D } σ H
theorem wA:PSs X [] HB:=fun _ _ σ H _ I h=>QD ⟨σ,H,I,h⟩
theorem mP(h1:PS X st t)(h2:PSs X rest u):PSs X (st::rest) (zo t u):=by
 intro pins s σ H D I h;refine Rt (thn (h1 pins s σ H { D with nx:=u D } I h) fun f s1 q=>?_)
 cases f with
 |next=>
  obtain⟨σ',H',I',q⟩:=q;exact h2 pins s1 σ' H' D I' q
 |ret v=>exact q
 |brk=>exact q
 |cont=>exact q
theorem wy(h1:PS X st t):PSs X [st] t:=by
 intro pins s σ H D I h;refine Rt (thn (h1 pins s σ H D I h) fun f s1 q=>?_)
 cases f with
 |next=>exact QD q
 |ret v=>exact q
 |brk=>exact q
 |cont=>exact q
theorem Inv.quiet{pins:List (Addr×Obj)}{σ:St}{H:Hp}{s:NL}(I:Inv X pins σ H s):interactive X.env=false:=by simp[interactive,I.ok.kind]
def HD(te:TE):TS:=fun D σ H=>te σ H fun _ H1=>D.nx σ H1
theorem qA(he:PE X e te)(hs:PN e none pos.line X.env=pure false:=by rfl):PS X (.Expr e pos) (HD te):=by
 intro pins s σ H D I h;exact wpAny_Expr_any (thn (he pins s σ H _ I h) fun v s1 ⟨x,H1,I1,r1,q1⟩=>⟨σ,H1,I1,q1⟩) I.quiet hs
def Ja(te:TE):TS:=fun D σ H=>te σ H D.rt
theorem rD(he:PE X e te):PS X (.Return (some e) pos) (Ja te):=by
 intro pins s σ H D I h;exact wpAny_Return_some (thn (he pins s σ H _ I h) fun v s1 ⟨x,H1,I1,r1,q1⟩=>⟨x,σ,H1,I1,r1,q1⟩)
def Je(c:TT)(t u:TS):TS:=fun D σ H=>c σ H fun b H1=>if b=true then t D σ H1 else u D σ H1
theorem yH{c:Expr}{a b:List Stmt}{tc:TT}(hc:PT X c tc)(ha:PSs X a t)(hb:PSs X b u):PS X (.If c a b pos) (Je tc t u):=by
 intro pins s σ H D I h;refine wpAny_If (thn (hc pins s σ H _ I h) fun d s1 ⟨H1,I1,q1⟩=>?_)
 cases d with
 |true=>exact ha pins s1 σ H1 D I1 q1
 |false=>exact hb pins s1 σ H1 D I1 q1
end
abbrev TG:=V->St->Hp->(St->Hp->Prop)->Prop
abbrev TGs:=List V->St->Hp->(St->Hp->Prop)->Prop
def PG(X:Cx)(target:Expr)(t:TG):Prop:=
 ∀(pins:List (Addr×Obj)) (s:NL) (σ:St) (H:Hp) (v:V) (u:NK) (Q:St->Hp->Prop),Inv X pins σ H s->RelV v u->t v σ H Q ->
  Oo (Ot X.prog X.w) X.A (Tz target X.env u) (fun _ s'=>∃σ' H',Inv X pins σ' H' s'/\Q σ' H') X.xe s
def PGs(X:Cx)(ts:List Expr)(t:TGs):Prop:=
 ∀(pins:List (Addr×Obj)) (s:NL) (σ:St) (H:Hp) (vs:List V) (us:List NK) (Q:St->Hp->Prop),Inv X pins σ H s->Vals vs us->t vs σ H Q ->
  Oo (Ot X.prog X.w) X.A (assignInOrder ((QL ts X.env).map (·.2)) us) (fun _ s'=>∃σ' H',Inv X pins σ' H' s'/\Q σ' H') X.xe s
abbrev sM:=V->V->V->Hp->(Hp->Prop)->Prop
def zP(X:Cx)(t:sM):Prop:=
 ∀(pins:List (Addr×Obj)) (s:NL) (σ:St) (H:Hp) (o i v:V) (ov iv u:NK) (Q:Hp->Prop),Inv X pins σ H s->RelV o ov->RelV i iv->RelV v u->t o i v H Q ->
  Oo (Ot X.prog X.w) X.A (Wt ov iv u) (fun _ s'=>∃H',Inv X pins σ H' s'/\Q H') X.xe s
section
variable {X:Cx}{pos:Pos}
def yS(i:Nat):TG:=fun v σ H Q=>Q (σ.set i (some v)) H
theorem gr{i:Nat}{x:Str}(hN:X.N.Nodup)(hi:X.N[i]? = some x)(hx:Loc X.env.scope x)(hf:X.fn x=true\/X.env.scope.names.lookup x=some .local:=by first|exact .inl rfl|exact .inr rfl|assumption):PG X (.Name x pos) (yS i):=by
 intro pins s σ H v u Q I r h;exact UD (qh I hN hi hx r (fun s' I'=>⟨_,H,I',h⟩) hf)
def Jy:TGs:=fun vs σ H Q=>vs=[]/\Q σ H
def IA(t:TG)(u:TGs):TGs:=fun vs σ H Q=>∃v r,vs=v::r/\t v σ H fun σ' H'=>u r σ' H' Q
theorem qB:PGs X [] Jy:=by
 intro pins s σ H vs us Q I r h;obtain⟨e,h⟩:=h;subst e;cases r;exact assignInOrder_nil ⟨σ,H,I,h⟩
theorem iL{e:Expr}{es:List Expr}{t:TG}{u:TGs}(h1:PG X e t)(h2:PGs X es u)
  (hs:(QL (e::es) X.env).map (·.2)=Tz e X.env::(QL es X.env).map (·.2):=by rfl):PGs X (e::es) (IA t u):=by
 intro pins s σ H vs us Q I r h;obtain⟨v,vr,e1,h⟩:=h;subst e1
 cases r with
 |cons r rr=>
  rw[hs];refine assignInOrder_cons (thn (h1 pins s σ H _ _ _ I r h) fun _ s1 ⟨σ1,H1,I1,q1⟩=>?_);exact h2 pins s1 σ1 H1 _ _ Q I1 rr q1
def Jw(K:Frag)(n:Nat)(t:TGs):TG:=fun v σ H Q=>∃a xs,v=.ref a/\SqT K H a xs/\xs.length=n/\t xs σ H Q
theorem rF{es:List Expr}{k:Nat}{t:TGs}{n:Nat}(hc:X.calm=true)(h:PGs X es t)
  (hn:(QL es X.env).length=n:=by rfl) (hst:(QL es X.env).findIdx? (·.1)=none:=by rfl):PG X (.Tuple es k pos) (Jw X.K n t):=by
 intro pins s σ H v u Q I r hw;obtain⟨a,xs,e1,hq,hl,hw⟩:=hw;subst e1;cases r;obtain⟨its,rv,ht,hz⟩:=I.tuple hq;refine assign_Tuple_tuple (I.ok.hd hc) ht (by simp[hn,←hl,rv.length]) hst fun h' hx=>?_;have I1:Inv X pins σ H { s with heap:=h' }:=I.kept (t':=s.toks) fun b o e=>hx b o (Ox (Oc e)) e;exact h pins _ σ H xs _ Q I1 (by simpa using rv) hw
def Jx(to ti:TE)(t:sM):TG:=fun v σ H Q=>to σ H fun o H1=>ti σ H1 fun i H2=>t o i v H2 fun H3=>Q σ H3
theorem F7{o i:Expr}{to ti:TE}{t:sM}(ho:PE X o to)(hi:PE X i ti)(hs:zP X t)
  (ha:∀v,Tz (.Subscript o i pos) X.env v=(do
   let ov ←S0 [v] (eval o X.env)
   let iv ←S0 [v,ov] (eval i X.env)
   Wu pos
   S0 [v,ov,iv] (Wt ov iv v)
   release [v,ov,iv] []):=by intro _;rfl):PG X (.Subscript o i pos) (Jx to ti t):=by
 intro pins s σ H v u Q I r h;rw[ha];refine NP (QG (thn (ho pins s σ H _ I h) fun ov s1 ⟨x,H1,I1,r1,q1⟩=>?_));refine NP (QG (thn (hi pins s1 σ H1 _ I1 q1) fun iv s2 ⟨y,H2,I2,r2,q2⟩=>?_));refine NP (wpAny_standAt (NP (QG (thn (hs pins s2 σ H2 x y v ov iv u _ I2 r1 r2 r q2) fun _ s3 ⟨H3,I3,q3⟩=>?_))));exact wpAny_release ⟨σ,H3,I3,q3⟩
def zr(te:TE)(g:TG):TS:=fun D σ H=>te σ H fun x H1=>g x σ H1 D.nx
theorem rE{tg e:Expr}{te:TE}{g:TG}(he:PE X e te)(hg:PG X tg g)(hs:SD [tg] e pos.line X.env=pure false:=by rfl)(hw:SE [tg] e X.env=pure none:=by rfl)
  (h1:(QL [tg] X.env).map (·.2)=[Tz tg X.env]:=by rfl):PS X (.Assign [tg] e pos) (zr te g):=by
 intro pins s σ H D I h;refine wpAny_Assign_stores (thn (he pins s σ H _ I h) fun v s1 ⟨x,H1,I1,r1,q1⟩=>?_) hs hw;rw[h1];exact thn (hg pins s1 σ H1 x v _ I1 r1 q1) fun _ s2 q=>q
theorem gx{i:Nat}{x:Str}{e:Expr}{te:TE}{pos':Pos}(hN:X.N.Nodup)(hi:X.N[i]? = some x)(hx:Loc X.env.scope x)(he:PE X e te)(hs:PN e (some (.Name x pos')) pos.line X.env=pure false:=by rfl)(hf:X.fn x=true\/X.env.scope.names.lookup x=some .local:=by first|exact .inl rfl|exact .inr rfl|assumption) :
  PS X (.Assign [.Name x pos'] e pos) (zr te (yS i)):=by
 intro pins s σ H D I h;refine wpAny_Assign_Name (thn (he pins s σ H _ I h) fun v s1 ⟨y,H1,I1,r1,q1⟩=>?_) hs;exact qh I1 hN hi hx r1 (fun s2 I2=>⟨_,H1,I2,q1⟩) hf
def FF(c:TT)(tb:TS):TS:=fun D σ H=>∃W:Nat->St->Hp->Prop,(∃m,W m σ H)/\∀m σ H,W m σ H ->
 c σ H fun b H1=>if b=true then ∃N:St->Hp->Prop,(∀σ' H',N σ' H'->∃m',m' < m/\W m' σ' H')/\tb { D with nx:=N,ct:=N,bk:=D.nx } σ H1 else D.nx σ H1
theorem Cq{c:Expr}{body:List Stmt}{tc:TT}{tb:TS}(hp:RU (Ot X.prog X.w) X.A X.env X.xe)(hc:PT X c tc)(hb:PSs X body tb):PS X (.While c body [] pos) (FF tc tb):=by
 intro pins s σ H D I h;obtain⟨W,⟨m0,w0⟩,turn⟩:=h;refine wpAny_While (codeAny_whileLoop (fun n s'=>∃σ' H',Inv X pins σ' H' s'/\W n σ' H') ?_ m0 ⟨σ,H,I,w0⟩);rintro n s1 ⟨σ1,H1,I1,w1⟩;refine Pb hp (thn (hc pins s1 σ1 H1 _ I1 (turn n σ1 H1 w1)) fun b s2 ⟨H2,I2,q2⟩=>?_)
 cases b with
 |true=>
  obtain⟨N,hN,q2⟩:=q2;rw[if_pos rfl];refine Pb hp (thn (hb pins s2 σ1 H2 _ I2 q2) fun f s3 q3=>?_)
  cases f with
  |next=>
   obtain⟨σ3,H3,I3,n3⟩:=q3;obtain⟨m',hm,w3⟩:=hN σ3 H3 n3;exact⟨m',hm,σ3,H3,I3,w3⟩
  |cont=>
   obtain⟨σ3,H3,I3,n3⟩:=q3;obtain⟨m',hm,w3⟩:=hN σ3 H3 n3;exact⟨m',hm,σ3,H3,I3,w3⟩
  |brk=>exact q3
  |ret v=>exact q3
 |false=>
  rw[if_neg NZ];exact QD ⟨σ1,H2,I2,q2⟩
end
structure It where
 go:Nat->Hp->Prop
 yld:Nat->Hp->V->Hp->Prop
 stop:Nat->Hp->Prop
def dR(X:Cx)(pins:List (Addr×Obj))(H:Hp)(b:Addr):Prop:=H b=none/\b≠X.env.locals/\b∉X.fs/\(b∈X.ex\/X.s₀.heap.objs.size<=b)/\(∀x c,X.env.cells.lookup x=some c->c≠b)/\∀p∈X.pn++pins,p.1≠b
theorem Inv.fpOk{X:Cx}{pins:List (Addr×Obj)}{σ:St}{H H':Hp}{s:NL}{b:Addr}(I:Inv X pins σ H s)(hb:s.heap.objs.size<=b)(hn:H' b=none):dR X pins H' b:=by
 refine⟨hn,RQ (Oj I.lt hb),I.nofs hb,.inr (Of I.sz hb),fun x c e z=>?_,fun p hp z=>?_⟩
 .obtain⟨v,q⟩:=I.cell x c e
  exact absurd (Oj q.lt (by rw[z];exact hb)) (P0 _)
 .exact absurd (Oj (Oc (I.pin p hp).1) (by rw[z];exact hb)) (P0 _)
structure Turn(P:Og)(w:Ow)(K:Frag)(tg:Expr)(J:It)(fp:List Addr)(it:Addr)(tn:Nat->Heap->Prop):Prop where
 mem:it∈fp
 obj:∀i h,tn i h->∀b∈fp,∃o,h.get? b=some o/\∀v,o.data≠.cell v
 keep:∀i h h',tn i h->(∀b∈fp,∀o,h.get? b=some o->h'.get? b=some o)->tn i h'
 item:∀(X:Cx),X.prog=P->X.w=w->X.K=K->X.calm=true->∀(i:Nat) (pins:List (Addr×Obj)) (s:NL) (σ:St) (H:Hp) (E:NK->NL->Prop),Inv X pins σ H s->(∀b∈fp,dR X pins H b)->tn i s.heap->J.go i H ->
  Oo (Ot P w) X.A (pyNext (.ref it)) (fun r s1=>∃u,r=some u /\
   Oo (Ot P w) X.A (RH tg (.ref it) u) (fun _ s2=>∃x H',Inv X pins σ H' s2/\RelV x u/\J.yld i H x H'/\tn (i+1) s2.heap/\∀b∈fp,H' b=none) E s1) E s
 done:∀(X:Cx),X.prog=P->X.w=w->X.K=K->X.calm=true->∀(i:Nat) (pins:List (Addr×Obj)) (s:NL) (σ:St) (H:Hp) (E:NK->NL->Prop),Inv X pins σ H s->(∀b∈fp,dR X pins H b)->tn i s.heap->J.stop i H ->
  Oo (Ot P w) X.A (pyNext (.ref it)) (fun r s1=>r=none/\Inv X pins σ H s1) E s
 self:∀(A:OD) (i:Nat) (s:NL) (Q:NK->NL->Prop) (E:NK->NL->Prop),tn i s.heap->Q (.ref it) s->Oo (Ot P w) A (pyIter (.ref it)) Q E s
abbrev TI:=St->Hp->(It->Hp->Prop)->Prop
def PIE(X:Cx)(pins:List (Addr×Obj))(σ:St)(tg:Expr)(R:It->Hp->Prop)(itv:NK)(s2:NL):Prop:=∃(it:Addr) (fp:List Addr) (tn:Nat->Heap->Prop) (J:It) (H':Hp),itv=.ref it/\Inv X pins σ H' s2/\Turn X.prog X.w X.K tg J fp it tn/\tn 0 s2.heap/\(∀b∈fp,dR X pins H' b)/\R J H'
def PI(X:Cx)(tg iter:Expr)(wi:TI):Prop:=
 ∀(pins:List (Addr×Obj)) (s:NL) (σ:St) (H:Hp) (R:It->Hp->Prop),Inv X pins σ H s->wi σ H R ->
  Oo (Ot X.prog X.w) X.A (eval iter X.env) (fun v s1=>Oo (Ot X.prog X.w) X.A (pyIter v) (PIE X pins σ tg R) X.xe s1) X.xe s
theorem lQ{M:Model}{A:OD}{E:NK->NL->Prop}{s:NL}{tg:Expr}{it:Addr}{u:NK}{o:Obj}{n:String}{vs:Array NK}{Q:Unit->NL->Prop}(ho:s.heap.get? it=some o)(hc:o.cls=.type n)(hd:o.data=.fields vs)
  (hn:["enumerate","zip","dict_itemiterator","dict_reverseitemiterator","odict_iterator","itertools.zip_longest","itertools.pairwise"].contains n=false) (hQ:Q () s):Oo M A (RH tg (.ref it) u) Q E s:=by
 unfold RH
 cases tg <;> first
  |exact Oa hQ
  | (cases u <;> first
    |exact Oa hQ
    | (refine NP (wpAny_load ho ?_)
       rw[hc,hd];show Oo M A (if (["enumerate","zip","dict_itemiterator","dict_reverseitemiterator","odict_iterator","itertools.zip_longest","itertools.pairwise"].contains n&&vs[0]? == some (rawInt _))=true then _ else _) Q E s;rw[if_neg (by intro h;rw[hn,Bool.false_and] at h;cases h)]
       exact Oa hQ))
def Itl(K:Frag)(a:Addr):It:=⟨fun i H=>∃xs x,SqL K H a xs/\xs[i]? = some x,fun i H x H'=>H'=H/\∀xs,SqL K H a xs->xs[i]? = some x,fun i H=>∃xs,SqL K H a xs/\xs.length<=i⟩
def Itt(K:Frag)(a:Addr):It:=⟨fun i H=>∃xs x,SqT K H a xs/\xs[i]? = some x,fun i H x H'=>H'=H/\∀xs,SqT K H a xs->xs[i]? = some x,fun i H=>∃xs,SqT K H a xs/\xs.length<=i⟩
def Itr(lo:Int)(n:Nat):It:=⟨fun i _=>i<n,fun i H x H'=>H'=H/\x=.int (lo+i),fun i _=>n<=i⟩
theorem uh{P:Og}{w:Ow}{K:Frag}{tg:Expr}(a it:Addr):Turn P w K tg (Itl K a) [it] it (fun i h=>h.IsListIter it a i) where
 mem:=by simp
 obj:=fun i h st b hb=>by
  have e:b=it:=by simpa using hb
  subst e;obtain⟨o,e,c,d⟩:=st;exact⟨o,e,fun v z=>by rw[d] at z;cases z⟩
 keep:=fun i h h' st k=>st.at fun o e=>k it (by simp) o e
 item:=by
  intro X hP hw hK hc i pins s σ H E I hf st hg;subst hP hw hK;obtain⟨xs,x,hq,hx⟩:=hg;obtain⟨its,rv,p,hz⟩:=I.list hq;obtain⟨u,hu,ru⟩:=rv.get hx;obtain⟨f0,f1,f2,f3,f4,f5⟩:=hf it (by simp);refine wpAny_pyNext_list_item st p.isList (x:=u) (by simpa using hu) fun h' st' sb=>?_;have I1:Inv X pins σ H { s with heap:=h' }:=I.turned (t':=s.toks) (fun b o hb e=>(sb.2 b hb).trans e) f0 f1 f3 f4 f5;obtain⟨o,e,c,d⟩:=id st';exact⟨u,rfl,lQ (s:={ s with heap:=h' }) e c d (by decide) ⟨x,H,I1,ru,⟨rfl,fun ys hy=>by rw[I.list_inj hy hq];exact hx⟩,st',fun b hb=>(hf b hb).1⟩⟩
 done:=by
  intro X hP hw hK hc i pins s σ H E I hf st hg;subst hP hw hK;obtain⟨xs,hq,hx⟩:=hg;obtain⟨its,rv,p,hz⟩:=I.list hq;obtain⟨f0,f1,f2,f3,f4,f5⟩:=hf it (by simp);have hl:=rv.length;exact wpAny_pyNext_list_end (I.ok.hd hc) st p.isList (by simp;omega) fun h' eb=>⟨rfl,I.turned (t':=s.toks) (fun b o hb e=>eb b o hb e) f0 f1 f3 f4 f5⟩
 self:=fun _ _ _ _ _ st h=>wpAny_pyIter_listiter st h
theorem AJ{P:Og}{w:Ow}{K:Frag}{tg:Expr}(a it:Addr):Turn P w K tg (Itt K a) [it] it (fun i h=>h.IsTupleIter it a i) where
 mem:=by simp
 obj:=fun i h st b hb=>by
  have e:b=it:=by simpa using hb
  subst e;obtain⟨o,e,c,d⟩:=st;exact⟨o,e,fun v z=>by rw[d] at z;cases z⟩
 keep:=fun i h h' st k=>st.at fun o e=>k it (by simp) o e
 item:=by
  intro X hP hw hK hc i pins s σ H E I hf st hg;subst hP hw hK;obtain⟨xs,x,hq,hx⟩:=hg;obtain⟨its,rv,p,hz⟩:=I.tuple hq;obtain⟨u,hu,ru⟩:=rv.get hx;obtain⟨f0,f1,f2,f3,f4,f5⟩:=hf it (by simp);refine wpAny_pyNext_tuple_item st (show s.heap.IsTuple a its.toArray from p) (x:=u) (by simpa using hu) fun h' st' sb=>?_;have I1:Inv X pins σ H { s with heap:=h' }:=I.turned (t':=s.toks) (fun b o hb e=>(sb.2 b hb).trans e) f0 f1 f3 f4 f5;obtain⟨o,e,c,d⟩:=id st';exact⟨u,rfl,lQ (s:={ s with heap:=h' }) e c d (by decide) ⟨x,H,I1,ru,⟨rfl,fun ys hy=>by rw[I.tuple_inj hy hq];exact hx⟩,st',fun b hb=>(hf b hb).1⟩⟩
 done:=by
  intro X hP hw hK hc i pins s σ H E I hf st hg;subst hP hw hK;obtain⟨xs,hq,hx⟩:=hg;obtain⟨its,rv,p,hz⟩:=I.tuple hq;obtain⟨f0,f1,f2,f3,f4,f5⟩:=hf it (by simp);have hl:=rv.length;exact wpAny_pyNext_tuple_end (I.ok.hd hc) st (show s.heap.IsTuple a its.toArray from p) (by simp;omega) fun h' eb=>⟨rfl,I.turned (t':=s.toks) (fun b o hb e=>eb b o hb e) f0 f1 f3 f4 f5⟩
 self:=fun _ _ _ _ _ st h=>wpAny_pyIter_tupleiter st h
theorem AK{P:Og}{w:Ow}{K:Frag}{tg:Expr}(it:Addr)(lo:Int)(n:Nat):Turn P w K tg (Itr lo n) [it] it (fun i h=>IsRangeIter h it (lo+(i:Nat)*1) ((n:Int)-(i:Nat)) 1) where
 mem:=by simp
 obj:=fun i h st b hb=>by
  have e:b=it:=by simpa using hb
  subst e
  exact⟨_,st,fun v z=>by
   have z':WI _=Data.cell v:=z
   cases z'⟩
 keep:=fun i h h' st k=>k it (by simp) _ st
 item:=by
  intro X hP hw hK hc i pins s σ H E I hf st hg;subst hP hw hK;obtain⟨f0,f1,f2,f3,f4,f5⟩:=hf it (by simp);have W:=Walks.range (prog:=X.prog) (w:=X.w) (I.ok.hd hc) it lo 1 n;refine W.item i s _ _ hg st fun v h' tk hv st' kk=>?_;obtain⟨t,rfl⟩:=hv;have I1:Inv X pins σ H { s with heap:=h',toks:=tk }:=I.turned (fun b o hb e=>kk b o (by simpa using hb) e) f0 f1 f3 f4 f5;refine⟨_,rfl,lQ (s:={ s with heap:=h',toks:=tk }) (n:="range_iterator") st' rfl rfl (by decide) ⟨.int (lo+i),H,I1,⟨t,?_⟩,⟨rfl,rfl⟩,st',fun b hb=>(hf b hb).1⟩⟩;rw[Int.mul_one]
 done:=by
  intro X hP hw hK hc i pins s σ H E I hf st hg;subst hP hw hK;obtain⟨f0,f1,f2,f3,f4,f5⟩:=hf it (by simp);exact wpAny_pyNext_range_end (I.ok.hd hc) st (by have:n<=i:=hg;omega) fun h' eb=>⟨rfl,I.turned (t':=s.toks) (fun b o hb e=>eb b o hb e) f0 f1 f3 f4 f5⟩
 self:=fun _ _ _ _ _ st h=>wpAny_pyIter_rangeiter st h
section
variable {X:Cx}{tg:Expr}
theorem Cj{pins:List (Addr×Obj)}{σ:St}{H:Hp}{s:NL}{R:It->Hp->Prop}{E:NK->NL->Prop}{lo hi:Int}{t u v:Tok}{tk:Nat}(I:Inv X pins σ H s)(h1 : -(2^62)<=lo)(h2:lo<2^62)(h3 : -(2^62)<=hi)(h4:hi<2^62)
  (q:R (Itr lo (hi-lo).toNat) H):Oo (Ot X.prog X.w) X.A (pyIter (.ref s.heap.objs.size)) (PIE X pins σ tg R) E { s with heap:=s.heap.push { cls:=.type "range",data:=.fields #[.int lo t,.int hi u,.int 1 v] },toks:=tk }:=by
 refine wpAny_pyIter_range (IsRange.new ..) (small_one h1 h2 h3 h4) ?_;have I1:Inv X pins σ H { s with heap:=s.heap.push { cls:=.type "range",data:=.fields #[.int lo t,.int hi u,.int 1 v] },toks:=tk }:=I.kept fun b o e=>NO _ e
 refine⟨(s.heap.push { cls:=.type "range",data:=.fields #[.int lo t,.int hi u,.int 1 v] }).objs.size,[(s.heap.push { cls:=.type "range",data:=.fields #[.int lo t,.int hi u,.int 1 v] }).objs.size],_,_,H,rfl,
  I1.kept (t':=tk) fun b o e=>NO _ e,AK _ lo (hi-lo).toNat,?_,fun b hb=>?_,q⟩
 .have e1:lo+((0:Nat):Int)*1=lo:=by simp
  have e2:(((hi-lo).toNat:Nat):Int)-((0:Nat):Int)=Wm lo hi 1:=by rw[rangeSize_one];split <;> omega
  show IsRangeIter _ _ (lo+((0:Nat):Int)*1) ((((hi-lo).toNat:Nat):Int)-((0:Nat):Int)) 1;rw[e1,e2];exact On _ rfl
 .have e:b=(s.heap.push { cls:=.type "range",data:=.fields #[.int lo t,.int hi u,.int 1 v] }).objs.size:=by simpa using hb
  subst e;exact I1.fpOk (NT _) (I1.hok.fresh (NT _))
def Iz(ta:TA):TI:=fun σ H R=>ta σ H fun vs H1=>∃j:Int,vs=[.int j]/\-(2^62)<=j/\j<2^62/\R (Itr 0 j.toNat) H1
theorem By{a:Expr}{ta:TA}{p pos:Pos}(hg:Gl X "range")(hm:X.mg "range"=none)(ha:PA X [a] ta)(hs:NU [a] X.env=[(false,eval a X.env)]:=by rfl):PI X tg (.Call (.Name "range" p) [a] [] pos) (Iz ta):=by
 intro pins s σ H R I h;refine Call_ (lj I hg hm boot_range (QI (thn (ha pos pins s σ H _ I h) fun us s1 ⟨vs,H1,I1,r1,q1⟩=>?_) hs rfl));obtain⟨j,e,q1,q2,q⟩:=q1;subst e
 cases r1 with
 |cons r rr=>
  cases rr;obtain⟨t,rfl⟩:=r;exact call_range_1 (Cj I1 (by omega) (by omega) q1 q2 (by simpa using q))
def zq(wi:TI)(g:TG)(tb:TS):TS:=fun D σ H=>wi σ H fun J H1=>∃W:Nat->Nat->St->Hp->Prop,(∃m,W 0 m σ H1)/\∀i m σ H,W i m σ H ->
 (J.stop i H/\D.nx σ H)\/(J.go i H/\∃N:St->Hp->Prop,(∀σ' H',N σ' H'->∃m',m' < m/\W (i+1) m' σ' H')/\∀x H',J.yld i H x H'->g x σ H' fun σ2 H2=>tb { D with nx:=N,ct:=N,bk:=D.nx } σ2 H2)
def gy(fp:List Addr)(h:Heap):List (Addr×Obj):=fp.filterMap fun b=>(h.get? b).map fun o=>(b,o)
theorem jm{fp:List Addr}{h:Heap}{b:Addr}{o:Obj}(hb:b∈fp)(e:h.get? b=some o):(b,o)∈gy fp h:=Ut.mpr ⟨b,hb,by rw[e];rfl⟩
theorem BC{fp:List Addr}{h:Heap}{p:Addr×Obj}(hp:p∈gy fp h):p.1∈fp/\h.get? p.1=some p.2:=by
 obtain⟨b,hb,e⟩:=Ut.mp hp
 cases q:h.get? b with
 |none=>rw[q] at e;cases e
 |some o=>
  rw[q] at e;have e':(b,o)=p:=OL e;subst e';exact⟨hb,q⟩
theorem Inv.pinned{pins:List (Addr×Obj)}{σ:St}{H:Hp}{s:NL}{fp:List Addr}(I:Inv X pins σ H s)(hf:∀b∈fp,dR X pins H b)(ho:∀b∈fp,∃o,s.heap.get? b=some o/\∀v,o.data≠.cell v):Inv X (pins++gy fp s.heap) σ H s:=
 I.pins_of fun p hp=>(Ob.mp hp).elim (fun z=>I.pin p (Om _ z)) fun z=>by
  obtain⟨hb,e⟩:=BC z;obtain⟨f0,f1,f2,_⟩:=hf p.1 hb;obtain⟨o,e',d⟩:=ho p.1 hb;rw[e] at e';cases e';exact⟨e,f0,f1,f2,d⟩
theorem Inv.unpinned{pins pl:List (Addr×Obj)}{σ:St}{H:Hp}{s:NL}(I:Inv X (pins++pl) σ H s):Inv X pins σ H s:=I.pins_of fun p hp=>I.pin p (Om _ (PB _ hp))
theorem xQ{iter:Expr}{body:List Stmt}{wi:TI}{g:TG}{tb:TS}{pos:Pos}(hp:RU (Ot X.prog X.w) X.A X.env X.xe)(hc:X.calm=true)(hi:PI X tg iter wi)(hg:PG X tg g)(hb:PSs X body tb)
  (hs:∀x,O7 iter X.env x=pure x:=by intro _;rfl):PS X (.For tg iter body [] pos) (zq wi g tb):=by
 intro pins s σ H D I h;refine wpAny_For (thn (hi pins s σ H _ I h) fun v s1 h1=>thn h1 fun itv s2 h2=>?_) hs;obtain⟨it,fp,tn,J,H2,e,I2,T,st2,f2,W,⟨m0,w0⟩,turn⟩:=h2;subst e;have stat:∀{H':Hp},(∀b∈fp,H' b=none)->∀b∈fp,dR X pins H' b:=fun hn b hb=>⟨hn b hb,(f2 b hb).2⟩;refine Ua (fun n s'=>∃i σ' H',Inv X pins σ' H' s'/\tn i s'.heap/\(∀b∈fp,H' b=none)/\W i n σ' H') ?_ m0 ⟨0,σ,H2,I2,st2,fun b hb=>(f2 b hb).1,w0⟩;rintro n s3 ⟨i,σ3,H3,I3,st3,fr3,w3⟩
 rcases turn i n σ3 H3 w3 with⟨stop,qn⟩|⟨go,N,hN,step⟩
 .refine Pb hp (thn (T.done X rfl rfl rfl hc i pins s3 σ3 H3 X.xe I3 (stat fr3) st3 stop) fun r s4 ⟨hr,I4⟩=>?_)
  subst hr;exact QD ⟨σ3,H3,I4,qn⟩
 .refine Pb hp (thn (T.item X rfl rfl rfl hc i pins s3 σ3 H3 X.xe I3 (stat fr3) st3 go) fun r s4 ⟨u,hr,h4⟩=>?_)
  subst hr;refine Pb hp (thn h4 fun _ s5 ⟨x,H5,I5,r5,y5,st5,fr5⟩=>?_);have I5':=I5.pinned (stat fr5) (T.obj _ _ st5);refine Pb hp (thn (hg _ s5 σ3 H5 x u _ I5' r5 (step x H5 y5)) fun _ s6 ⟨σ6,H6,I6,q6⟩=>?_);refine Pb hp (thn (hb _ s6 σ6 H6 _ I6 q6) fun f s7 q7=>?_)
  have Wn:∀{σ7:St}{H7:Hp},Inv X (pins++gy fp s5.heap) σ7 H7 s7->N σ7 H7->∃m,m<n/\∃i σ' H',Inv X pins σ' H' s7/\tn i s7.heap/\(∀b∈fp,H' b=none)/\W i m σ' H':=fun {σ7 H7} I7 n7=>by
   obtain⟨m',hm,w7⟩:=hN σ7 H7 n7;refine⟨m',hm,i+1,σ7,H7,I7.unpinned,T.keep _ _ _ st5 fun b hb o e=>(I7.pin (b,o) (Om _ (Om _ (jm hb e)))).1,fun b hb=>?_,w7⟩;obtain⟨o,e,d⟩:=T.obj _ _ st5 b hb;exact(I7.pin (b,o) (Om _ (Om _ (jm hb e)))).2.1
  cases f with
  |next=>obtain⟨σ7,H7,I7,n7⟩:=q7;exact Wn I7 n7
  |cont=>obtain⟨σ7,H7,I7,n7⟩:=q7;exact Wn I7 n7
  |brk=>obtain⟨σ7,H7,I7,q7⟩:=q7;exact⟨σ7,H7,I7.unpinned,q7⟩
  |ret v=>obtain⟨x7,σ7,H7,I7,r7,q7⟩:=q7;exact⟨x7,σ7,H7,I7.unpinned,r7,q7⟩
end
abbrev R2:=V->V->Hp->VK->Prop
def OpR(X:Cx)(f:NK->NK->Sem NK)(r:R2):Prop:=
 ∀(pins:List (Addr×Obj)) (s:NL) (σ:St) (H:Hp) (x y:V) (v u:NK) (Q:VK),Inv X pins σ H s->RelV x v->RelV y u->r x y H Q ->
  Oo (Ot X.prog X.w) X.A (f v u) (EP X pins σ Q) X.xe s
def UnR(X:Cx)(f:NK->Sem NK)(r:V->Hp->VK->Prop):Prop:=
 ∀(pins:List (Addr×Obj)) (s:NL) (σ:St) (H:Hp) (x:V) (v:NK) (Q:VK),Inv X pins σ H s->RelV x v->r x H Q ->
  Oo (Ot X.prog X.w) X.A (f v) (EP X pins σ Q) X.xe s
def CallR(X:Cx)(f:NK)(r:List V->Hp->VK->Prop):Prop:=
 ∀(pins:List (Addr×Obj)) (s:NL) (σ:St) (H:Hp) (xs:List V) (us:List NK) (Q:VK),Inv X pins σ H s->Vals xs us->r xs H Q ->
  Oo (Ot X.prog X.w) X.A (call f us) (EP X pins σ Q) X.xe s
def JE(X:Cx)(r:V->Hp->(Bool->Hp->Prop)->Prop):Prop:=
 ∀(pins:List (Addr×Obj)) (s:NL) (σ:St) (H:Hp) (x:V) (v:NK) (Q:Bool->Hp->Prop),Inv X pins σ H s->RelV x v->r x H Q ->
  Oo (Ot X.prog X.w) X.A (truthy v) (TP X pins σ Q) X.xe s
def tOp(r:R2)(ta tb:TE):TE:=fun σ H Q=>ta σ H fun x H1=>tb σ H1 fun y H2=>r x y H2 Q
def tUn(r:V->Hp->VK->Prop)(ta:TE):TE:=fun σ H Q=>ta σ H fun x H1=>r x H1 Q
def rI(C:Int->Int->Prop)(g:Int->Int->V):R2:=fun x y H Q=>∃i j,x=.int i/\y=.int j/\C i j/\Q (g i j) H
def rI0(g:Int->Int->V):R2:=fun x y H Q=>∃i j,x=.int i/\y=.int j/\Q (g i j) H
def rU(g:Int->V):V->Hp->VK->Prop:=fun x H Q=>∃i,x=.int i/\Q (g i) H
section
variable {X:Cx}{a b c:Expr}{ta tb tc:TE}{pos:Pos}
theorem sJ(ha:PE X a ta)(hb:PE X b tb){pins:List (Addr×Obj)}{s:NL}{σ:St}{H:Hp}{R:V->V->Hp->Prop}(I:Inv X pins σ H s)
  (h:ta σ H fun x H1=>tb σ H1 fun y H2=>R x y H2) {Q:NK->NL->Prop}{f:NK->NK->Sem NK}
  (hf:∀v u s2 x y H2,Inv X pins σ H2 s2->RelV x v->RelV y u->R x y H2->Oo (Ot X.prog X.w) X.A (f v u) Q X.xe s2) :
  Oo (Ot X.prog X.w) X.A (eval a X.env) (fun v s₁=>Oo (Ot X.prog X.w) X.A (eval b X.env) (fun u s₂=>Oo (Ot X.prog X.w) X.A (f v u) Q X.xe s₂) X.xe s₁) X.xe s:=by
 refine thn (ha pins s σ H _ I h) fun v s1 ⟨x,H1,I1,r1,q1⟩=>?_;refine thn (hb pins s1 σ H1 _ I1 q1) fun u s2 ⟨y,H2,I2,r2,q2⟩=>?_;exact hf v u s2 x y H2 I2 r1 r2 q2
theorem HQ{op:Operator}{r:R2}(ho:OpR X (Pu op) r)(ha:PE X a ta)(hb:PE X b tb):PE X (.BinOp a op b pos) (tOp r ta tb):=by
 intro pins s σ H Q I h;exact wpAny_BinOp (sJ ha hb I h fun v u s2 x y H2 I2 rx ry q=>ho pins s2 σ H2 x y v u Q I2 rx ry q)
theorem HN{op:UnaryOp}{r:V->Hp->VK->Prop}(ho:UnR X (unaryOp op) r)(ha:PE X a ta):PE X (.UnaryOp op a pos) (tUn r ta):=by
 intro pins s σ H Q I h;exact UnaryOp_ (thn (ha pins s σ H _ I h) fun v s1 ⟨x,H1,I1,r1,q1⟩=>ho pins s1 σ H1 x v Q I1 r1 q1)
theorem opI{f:NK->NK->Sem NK}{C:Int->Int->Prop}{g:Int->Int->Int}
  (rule:∀(i j:Int) (t u:Tok) (s:NL) (Q:NK->NL->Prop) (E:NK->NL->Prop),C i j->Q (.int (g i j) s.toks) { s with toks:=s.toks+1 }->Oo (Ot X.prog X.w) X.A (f (.int i t) (.int j u)) Q E s) :
  OpR X f (rI C fun i j=>.int (g i j)):=by
 intro pins s σ H x y v u Q I rx ry h;obtain⟨i,j,rfl,rfl,hc,q⟩:=h;obtain⟨t,rfl⟩:=rx;obtain⟨t',rfl⟩:=ry;exact rule i j t t' s _ _ hc ⟨.int (g i j),H,I.tok _,⟨_,rfl⟩,q⟩
theorem zC{f:NK->NK->Sem NK}{g:Int->Int->Int}
  (rule:∀(i j:Int) (t u:Tok) (s:NL) (Q:NK->NL->Prop) (E:NK->NL->Prop),Q (.int (g i j) s.toks) { s with toks:=s.toks+1 }->Oo (Ot X.prog X.w) X.A (f (.int i t) (.int j u)) Q E s) :
  OpR X f (rI0 fun i j=>.int (g i j)):=by
 intro pins s σ H x y v u Q I rx ry h;obtain⟨i,j,rfl,rfl,q⟩:=h;obtain⟨t,rfl⟩:=rx;obtain⟨t',rfl⟩:=ry;exact rule i j t t' s _ _ ⟨.int (g i j),H,I.tok _,⟨_,rfl⟩,q⟩
theorem oO{f:NK->NK->Sem NK}{g:Int->Int->Bool}
  (rule:∀(i j:Int) (t u:Tok) (s:NL) (Q:NK->NL->Prop) (E:NK->NL->Prop),Q (.bool (g i j)) s->Oo (Ot X.prog X.w) X.A (f (.int i t) (.int j u)) Q E s) :
  OpR X f (rI0 fun i j=>.bl (g i j)):=by
 intro pins s σ H x y v u Q I rx ry h;obtain⟨i,j,rfl,rfl,q⟩:=h;obtain⟨t,rfl⟩:=rx;obtain⟨t',rfl⟩:=ry;exact rule i j t t' s _ _ ⟨.bl (g i j),H,I,rfl,q⟩
def JG(i j:Int):Prop:=0<=j/\j<=1000000/\i.natAbs<2^64
def CMul(i j:Int):Prop:=(-(2^64)<i/\i<2^64)\/(-(2^64)<j/\j<2^64)
theorem CMul.ok{i j:Int}(h:CMul i j):IntMulOk i j:=by
 rcases h with⟨h1,h2⟩|⟨h1,h2⟩
 .exact .of_left (intBits_le_64 h1 h2)
 .exact .of_right (intBits_le_64 h1 h2)
theorem op_add:OpR X (Pu .Add) (rI0 fun i j=>.int (i+j)):=zC fun _ _ _ _ _ _ _ q=>add_int q
theorem Gg:OpR X (Pu .Sub) (rI0 fun i j=>.int (i-j)):=zC fun _ _ _ _ _ _ _ q=>sub_int q
theorem op_mul:OpR X (Pu .Mult) (rI CMul fun i j=>.int (i*j)):=opI fun _ _ _ _ _ _ _ hc q=>mul_int q hc.ok
theorem Gk:OpR X (Pu .Mod) (rI (fun _ j=>0<j) fun i j=>.int (i % j)):=opI fun i j _ _ _ _ _ hc q=>by
 have h1:(0:Int)<j:=hc;exact mod_int' (by omega) (by rw[Int.fmod_eq_emod_of_nonneg i (by omega)];exact q)
theorem Gi:OpR X (Pu .Pow) (rI JG fun i j=>.int (i^j.toNat)):=opI fun _ _ _ _ _ _ _ hc q=>pow_int_small hc.1 hc.2.1 hc.2.2 q
theorem unI{f:NK->Sem NK}{g:Int->Int}
  (rule:∀(i:Int) (t:Tok) (s:NL) (Q:NK->NL->Prop) (E:NK->NL->Prop),Q (.int (g i) s.toks) { s with toks:=s.toks+1 }->Oo (Ot X.prog X.w) X.A (f (.int i t)) Q E s) :
  UnR X f (rU fun i=>.int (g i)):=by
 intro pins s σ H x v Q I rx h;obtain⟨i,rfl,q⟩:=h;obtain⟨t,rfl⟩:=rx;exact rule i t s _ _ ⟨.int (g i),H,I.tok _,⟨_,rfl⟩,q⟩
theorem Fy:UnR X (unaryOp .USub) (rU fun i=>.int (-i)):=unI fun _ _ _ _ _ q=>neg_int q
end
def sC:V->V->Bool
 |.non,.non=>true | .non,.int _=>true | .int _,.non=>true | .non,.bl _=>true | .bl _,.non=>true | .non,.str _=>true | .str _,.non=>true
 |.int _,.int _=>true | .bl _,.bl _=>true | .str _,.str _=>true | .byt _,.byt _=>true
 |.int _,.str _=>true | .str _,.int _=>true | .bl _,.str _=>true | .str _,.bl _=>true
 |_,_=>false
def rEq:R2:=fun x y H Q=>sC x y=true/\Q (.bl (decide (x=y))) H
def rNe:R2:=fun x y H Q=>sC x y=true/\Q (.bl (!decide (x=y))) H
theorem xc{i j:Int}:decide (V.int i=V.int j)=(i == j):=by
 rw[PQ];simp
theorem ym{i j:Bool}:decide (V.bl i=V.bl j)=(i == j):=by
 rw[PQ];simp
theorem w8{i j:Str}:decide (V.str i=V.str j)=(i == j):=by
 rw[PQ];simp
theorem xf{i j:Array UInt8}:decide (V.byt i=V.byt j)=(i.toList == j.toList):=by
 rw[PQ];cases i;cases j;simp
section
variable {X:Cx}{a b c:Expr}{ta tb tc:TE}{pos:Pos}
theorem bE{pins:List (Addr×Obj)}{σ:St}{H:Hp}{s:NL}{Q:VK}{k k':Bool}(I:Inv X pins σ H s)(q:Q (.bl k) H)(e:k=k'):EP X pins σ Q (.bool k') s:=by
 subst e;exact⟨.bl k,H,I,rfl,q⟩
theorem Ia:OpR X (Oh .Eq) rEq:=by
 intro pins s σ H x y v u Q I rx ry h;obtain⟨hs,q⟩:=h
 cases x with
 |non=>
  cases rx
  cases y with
  |non=>cases ry;exact VR (bE I q (by simp))
  |bl j=>cases ry;exact VT (bE I q (by simp))
  |int j=>obtain⟨t',rfl⟩:=ry;exact V5 (bE I q (by simp))
  |str j=>obtain⟨t',rfl⟩:=ry;exact V6 (bE I q (by simp))
  |_=>exact absurd (show false=true from hs) NZ
 |bl i=>
  cases rx
  cases y with
  |non=>cases ry;exact VU (bE I q (by simp))
  |bl j=>cases ry;exact eq_bool (bE I q ym)
  |str j=>obtain⟨t',rfl⟩:=ry;exact VW (bE I q (by simp))
  |_=>exact absurd (show false=true from hs) NZ
 |int i=>
  obtain⟨t,rfl⟩:=rx
  cases y with
  |non=>cases ry;exact V7 (bE I q (by simp))
  |int j=>obtain⟨t',rfl⟩:=ry;exact eq_int (bE I q xc)
  |str j=>obtain⟨t',rfl⟩:=ry;exact V8 (bE I q (by simp))
  |_=>exact absurd (show false=true from hs) NZ
 |str i=>
  obtain⟨t,rfl⟩:=rx
  cases y with
  |non=>cases ry;exact V9 (bE I q (by simp))
  |bl j=>cases ry;exact VX (bE I q (by simp))
  |int j=>obtain⟨t',rfl⟩:=ry;exact Wa (bE I q (by simp))
  |str j=>obtain⟨t',rfl⟩:=ry;exact eq_str (bE I q w8)
  |_=>exact absurd (show false=true from hs) NZ
 |byt i=>
  obtain⟨t,rfl⟩:=rx
  cases y with
  |byt j=>obtain⟨t',rfl⟩:=ry;exact PySem.W.eq_bytes (bE I q xf)
  |_=>exact absurd (show false=true from hs) NZ
 |_=>cases y <;> exact absurd (show false=true from hs) NZ
theorem HW:OpR X (Oh .NotEq) rNe:=by
 intro pins s σ H x y v u Q I rx ry h;obtain⟨hs,q⟩:=h
 cases x with
 |non=>
  cases rx
  cases y with
  |non=>cases ry;exact VY (bE I q (by simp))
  |bl j=>cases ry;exact VZ (bE I q (by simp))
  |int j=>obtain⟨t',rfl⟩:=ry;exact Wb (bE I q (by simp))
  |str j=>obtain⟨t',rfl⟩:=ry;exact Wc (bE I q (by simp))
  |_=>exact absurd (show false=true from hs) NZ
 |bl i=>
  cases rx
  cases y with
  |non=>cases ry;exact V0 (bE I q (by simp))
  |bl j=>cases ry;exact ne_bool (bE I q (congrArg not ym))
  |str j=>obtain⟨t',rfl⟩:=ry;exact V1 (bE I q (by simp))
  |_=>exact absurd (show false=true from hs) NZ
 |int i=>
  obtain⟨t,rfl⟩:=rx
  cases y with
  |non=>cases ry;exact Wd (bE I q (by simp))
  |int j=>obtain⟨t',rfl⟩:=ry;exact ne_int (bE I q (congrArg not xc))
  |str j=>obtain⟨t',rfl⟩:=ry;exact We (bE I q (by simp))
  |_=>exact absurd (show false=true from hs) NZ
 |str i=>
  obtain⟨t,rfl⟩:=rx
  cases y with
  |non=>cases ry;exact Wf (bE I q (by simp))
  |bl j=>cases ry;exact V2 (bE I q (by simp))
  |int j=>obtain⟨t',rfl⟩:=ry;exact Wg (bE I q (by simp))
  |str j=>obtain⟨t',rfl⟩:=ry;exact ne_str (bE I q (congrArg not w8))
  |_=>exact absurd (show false=true from hs) NZ
 |byt i=>
  obtain⟨t,rfl⟩:=rx
  cases y with
  |byt j=>obtain⟨t',rfl⟩:=ry;exact PySem.W.ne_bytes (bE I q (congrArg not xf))
  |_=>exact absurd (show false=true from hs) NZ
 |_=>cases y <;> exact absurd (show false=true from hs) NZ
theorem HX:OpR X (Oh .Lt) (rI0 fun i j=>.bl (decide (i<j))):=oO fun _ _ _ _ _ _ _ q=>lt_int q
theorem HY:OpR X (Oh .LtE) (rI0 fun i j=>.bl (decide (i<=j))):=oO fun _ _ _ _ _ _ _ q=>le_int q
theorem HZ:OpR X (Oh .Gt) (rI0 fun i j=>.bl (decide (j<i))):=oO fun _ _ _ _ _ _ _ q=>gt_int q
theorem H8:OpR X (Oh .GtE) (rI0 fun i j=>.bl (decide (j<=i))):=oO fun _ _ _ _ _ _ _ q=>ge_int q
theorem op_in_str:OpR X (Oh .In) (fun x y H Q=>∃i j,x=.str i/\y=.str j/\Q (.bl (!(OQ j i 0 j.length 1).isEmpty)) H):=by
 intro pins s σ H x y v u Q I rx ry h;obtain⟨i,j,rfl,rfl,q⟩:=h;obtain⟨t,rfl⟩:=rx;obtain⟨t',rfl⟩:=ry;exact in_str (bE I q rfl)
theorem Gm:OpR X (Oh .Is) (fun x y H Q=>y=.non/\Q (.bl (decide (x=.non))) H):=by
 intro pins s σ H x y v u Q I rx ry h;obtain⟨rfl,q⟩:=h;cases ry;refine is_none_gen (bE I q ?_)
 cases x <;> first
  |(cases rx;rfl)
  |(obtain⟨t,rfl⟩:=rx;rfl)
theorem op_notN:OpR X (Oh .IsNot) (fun x y H Q=>y=.non/\Q (.bl (!decide (x=.non))) H):=by
 intro pins s σ H x y v u Q I rx ry h;obtain⟨rfl,q⟩:=h;cases ry;refine isnot_none_gen (bE I q ?_)
 cases x <;> first
  |(cases rx;rfl)
  |(obtain⟨t,rfl⟩:=rx;rfl)
theorem op_notin_str:OpR X (Oh .NotIn) (fun x y H Q=>∃i j,x=.str i/\y=.str j/\Q (.bl (!(!(OQ j i 0 j.length 1).isEmpty))) H):=by
 intro pins s σ H x y v u Q I rx ry h;obtain⟨i,j,rfl,rfl,q⟩:=h;obtain⟨t,rfl⟩:=rx;obtain⟨t',rfl⟩:=ry;exact notIn_str (bE I q rfl)
theorem OpR.or{f:NK->NK->Sem NK}{r r':R2}(h:OpR X f r)(h':OpR X f r'):OpR X f (fun x y H Q=>r x y H Q\/r' x y H Q):=by
 intro pins s σ H x y v u Q I rx ry q
 rcases q with q|q
 .exact h pins s σ H x y v u Q I rx ry q
 .exact h' pins s σ H x y v u Q I rx ry q
theorem nP(b:Expr){op:Tj}(h:op≠.In:=by decide)(h2:op≠.NotIn:=by decide):P2 op b=false:=by
 have e1:(op == CmpOp.In)=false:=by cases op <;> first|rfl|exact absurd rfl h
 have e2:(op == CmpOp.NotIn)=false:=by cases op <;> first|rfl|exact absurd rfl h2
 cases b <;> simp[P2,e1,e2]
theorem Ej{op:Tj}{r:R2}(ho:OpR X (Oh op) r)(ha:PE X a ta)(hb:PE X b tb)(hm:P2 op b=false):PE X (.Compare a [op] [b] pos) (tOp r ta tb):=by
 intro pins s σ H Q I h;exact wpAny_Compare1 (sJ ha hb I h fun v u s2 x y H2 I2 rx ry q=>ho pins s2 σ H2 x y v u Q I2 rx ry q) hm
def rW(t:TE):TT:=fun σ H Q=>t σ H fun x H'=>∃k,x=.bl k/\Q k H'
theorem D8{op:Tj}{r:R2}(ho:OpR X (Oh op) r)(ha:PE X a ta)(hb:PE X b tb)(hm:P2 op b=false):PT X (.Compare a [op] [b] pos) (rW (tOp r ta tb)):=by
 intro pins s σ H Q I h
 refine Rq (thn (ha pins s σ H _ I h) fun v s1 ⟨x,H1,I1,r1,q1⟩=>thn (hb pins s1 σ H1 _ I1 q1) fun u s2 ⟨y,H2,I2,r2,q2⟩=>
  thn (ho pins s2 σ H2 x y v u _ I2 r1 r2 q2) fun c s3 ⟨z,H3,I3,r3,k,e,q3⟩=>?_) hm
 subst e;cases r3;exact O6 ⟨H3,I3,q3⟩
def rm(r r':R2)(ta tb tc:TE):TE:=fun σ H Q=>ta σ H fun x H1=>tb σ H1 fun y H2=>r x y H2 fun z H3=>∃k,z=.bl k /\
 (if k=true then tc σ H3 fun w' H4=>r' y w' H4 Q else Q (.bl false) H3)
theorem Cz{op op':Tj}{r r':R2}(ho:OpR X (Oh op) r)(ho':OpR X (Oh op') r')(ha:PE X a ta)(hb:PE X b tb)(hc:PE X c tc)
  (hm:U1 [op,op'] [b,c]=false:=by with_unfolding_all rfl):PE X (.Compare a [op,op'] [b,c] pos) (rm r r' ta tb tc):=by
 intro pins s σ H Q I h
 refine Compare_chain (thn (ha pins s σ H _ I h) fun v s1 ⟨x,H1,I1,r1,q1⟩=>chain_link (thn (hb pins s1 σ H1 _ I1 q1) fun u s2 ⟨y,H2,I2,r2,q2⟩=>
  thn (ho pins s2 σ H2 x y v u _ I2 r1 r2 q2) fun d s3 ⟨z,H3,I3,r3,k,e,q3⟩=>?_)) hm
 subst e;cases r3;refine O6 ?_
 cases k with
 |false=>exact ite_ff ⟨.bl false,H3,I3,rfl,q3⟩
 |true=>exact ite_tt (chain_last (thn (hc pins s3 σ H3 _ I3 q3) fun w' s4 ⟨z',H4,I4,r4,q4⟩=>ho' pins s4 σ H4 y z' u w' Q I4 r2 r4 q4))
theorem Co{op op':Tj}{r r':R2}(ho:OpR X (Oh op) r)(ho':OpR X (Oh op') r')(ha:PE X a ta)(hb:PE X b tb)(hc:PE X c tc)
  (hm:U1 [op,op'] [b,c]=false:=by with_unfolding_all rfl):PT X (.Compare a [op,op'] [b,c] pos) (rW (rm r r' ta tb tc)):=by
 intro pins s σ H Q I h
 refine isTrue_chain (thn (ha pins s σ H _ I h) fun v s1 ⟨x,H1,I1,r1,q1⟩=>test_link (thn (hb pins s1 σ H1 _ I1 q1) fun u s2 ⟨y,H2,I2,r2,q2⟩=>
  thn (ho pins s2 σ H2 x y v u _ I2 r1 r2 q2) fun d s3 ⟨z,H3,I3,r3,k,e,q3⟩=>?_)) hm
 subst e;cases r3;refine O6 ?_
 cases k with
 |false=>
  obtain⟨k',e',q'⟩:=q3;cases e';exact ite_ff ⟨H3,I3,q'⟩
 |true=>
  refine ite_tt (test_last (thn (hc pins s3 σ H3 _ I3 q3) fun w' s4 ⟨z',H4,I4,r4,q4⟩=>thn (ho' pins s4 σ H4 y z' u w' _ I4 r2 r4 q4) fun d' s5 ⟨z2,H5,I5,r5,k2,e2,q5⟩=>?_));subst e2;cases r5;exact O6 ⟨H5,I5,q5⟩
def sL(K:Frag)(x:V)(H:Hp)(k:Bool):Prop:=
 match x with
 |.non=>k=false
 |.bl b=>k=b
 |.int i=>k=(i != 0)
 |.str y=>y.length<=NS/\k=((y.length:Int) != 0)
 |.byt y=>y.size<=NS/\k=((y.size:Int) != 0)
 |.ref p=>(∃xs,SqL K H p xs/\k = !xs.isEmpty)\/(∃xs,SqT K H p xs/\k = !xs.isEmpty)\/∃kvs,H p=some (.dK kvs)/\k = !kvs.isEmpty
 |_=>False
theorem A1{κ:Type}{kvs:List (κ×V)}{vs:List (κ×NK)}(r:KV kvs vs):(!vs.isEmpty) = !kvs.isEmpty:=by cases r <;> rfl
theorem tS{xs:List V}{its:List NK}(r:Vals xs its):(!its.toArray.isEmpty) = !xs.isEmpty:=by cases r <;> simp
theorem iU:(NS:Nat)<2^63:=by rw[TB];decide
theorem FC:JE X (fun x H Q=>∃k,sL X.K x H k/\Q k H):=by
 intro pins s σ H x v Q I rx h;obtain⟨k,e,q⟩:=h;have hl:=iU;have hs:NS=16777216:=TB
 cases x with
 |non=>
  cases rx;have e':k=false:=e;subst e';exact truthy_none ⟨H,I,q⟩
 |bl b=>
  cases rx;have e':k=b:=e;subst e';exact O6 ⟨H,I,q⟩
 |int i=>
  obtain⟨t,rfl⟩:=rx;have e':k=(i != 0):=e;subst e';exact PySem.P.truthy_int ⟨H,I,q⟩
 |str y=>
  obtain⟨t,rfl⟩:=rx;obtain⟨hy,e'⟩:y.length<=NS/\k=((y.length:Int) != 0):=e;subst e';exact PySem.P.truthy_str (by omega) ⟨H,I.tok _,q⟩
 |byt y=>
  obtain⟨t,rfl⟩:=rx;obtain⟨hy,e'⟩:y.size<=NS/\k=((y.size:Int) != 0):=e;subst e';exact PySem.W.truthy_bytes (by omega) ⟨H,I.tok _,q⟩
 |ref p=>
  cases rx;have e':(∃xs,SqL X.K H p xs/\k = !xs.isEmpty)\/(∃xs,SqT X.K H p xs/\k = !xs.isEmpty)\/∃kvs,H p=some (.dK kvs)/\k = !kvs.isEmpty:=e
  rcases e' with⟨xs,hx,e'⟩|⟨xs,hx,e'⟩|⟨kvs,hx,e'⟩
  .subst e'
   obtain⟨its,r,pl,hz⟩:=I.list hx;have hlen:=r.length;exact wpAny_truthy_list pl.isList (by simp only[NX];omega) ⟨H,I.tok _,by rw[tS r];exact q⟩
  .subst e'
   obtain⟨its,r,pl,hz⟩:=I.tuple hx;have hlen:=r.length;exact truthy_tuple pl (by simp only[NX];omega) ⟨H,I.tok _,by rw[tS r];exact q⟩
  .subst e'
   obtain⟨hz,hS,vs,r,m⟩:kvs.length<=NS/\(p == Pz)=false/\∃vs,KV kvs vs/\s.heap.DictOf (cb X.prog X.w) p vs:=I.hok p _ hx;have hlen:kvs.length=vs.length:=QW r;exact wpAny_truthy_dict hS m (by omega) ⟨H,I.tok _,by rw[A1 r];exact q⟩
 |_=>exact(show False from e).elim
theorem Cn(ha:PE X a ta)(he:∀whole,VE a X.env whole=(do let v ←whole;Wu a.pos;S0 [v] (truthy v))) :
  PT X a (fun σ H Q=>ta σ H fun x H'=>∃k,sL X.K x H' k/\Q k H'):=by
 intro pins s σ H Q I h;exact isTrue_plain (thn (ha pins s σ H _ I h) fun v s1 ⟨x,H1,I1,r1,q1⟩=>FC pins s1 σ H1 x v Q I1 r1 q1) (he _)
theorem op_add_str:OpR X (Pu .Add) (fun x y H Q=>∃i j,x=.str i/\y=.str j/\i.length+j.length<=NS/\Q (.str (i++j)) H):=by
 intro pins s σ H x y v u Q I rx ry h;obtain⟨i,j,rfl,rfl,hz,q⟩:=h;obtain⟨t,rfl⟩:=rx;obtain⟨t',rfl⟩:=ry;exact add_str (fun t' tk=>⟨.str (i++j),H,I.tok _,⟨_,rfl⟩,q⟩) hz
theorem vals1{x:V}{us:List NK}(r:Vals [x] us):∃u,us=[u]/\RelV x u:=by
 cases r with
 |cons r1 r2=>cases r2;exact⟨_,rfl,r1⟩
theorem vals2{x y:V}{us:List NK}(r:Vals [x,y] us):∃u w',us=[u,w']/\RelV x u/\RelV y w':=by
 cases r with
 |cons r1 r2=>
  cases r2 with
  |cons r3 r4=>cases r4;exact⟨_,_,rfl,r1,r3⟩
theorem Dq:CallR X (.builtin "abs") (fun xs H Q=>∃i,xs=[.int i]/\Q (.int (if i<0 then -i else i)) H):=by
 intro pins s σ H xs us Q I r h;obtain⟨i,rfl,q⟩:=h;obtain⟨u,rfl,t,rfl⟩:=vals1 r;exact call_abs_int fun u tk=>⟨.int (if i<0 then -i else i),H,I.tok _,⟨_,rfl⟩,q⟩
theorem call_int1:CallR X (.type "int") (fun xs H Q=>(∃i,xs=[.int i]/\Q (.int i) H)\/∃k,xs=[.bl k]/\Q (.int (if k then 1 else 0)) H):=by
 intro pins s σ H xs us Q I r h
 rcases h with⟨i,rfl,q⟩|⟨k,rfl,q⟩
 .obtain⟨u,rfl,t,rfl⟩:=vals1 r
  exact call_int_int ⟨.int i,H,I,⟨_,rfl⟩,q⟩
 .obtain⟨u,rfl,r1⟩:=vals1 r
  cases r1;exact call_int_bool ⟨.int (if k then 1 else 0),H,I.tok _,⟨_,rfl⟩,q⟩
theorem Af:CallR X (.type "str") (fun xs H Q=>∃i,xs=[.int i]/\i.natAbs.log2<1920/\Q (.str (toString i)) H):=by
 intro pins s σ H xs us Q I r h;obtain⟨i,rfl,hz,q⟩:=h;obtain⟨u,rfl,t,rfl⟩:=vals1 r;exact PySem.P.str_of_int hz ⟨.str _,H,I.tok _,⟨_,rfl⟩,q⟩
end
structure ObjM(h:Heap)(x dx C:Addr)(mA:Str->Option NK):Prop where
 obj:h.get? x=some (Ti C dx)
 ns:h.Ns1 dx mA
 ne:dx≠x
theorem BG{h:Heap}{dx:Addr}{mA:Str->Option NK}(n:h.Ns1 dx mA):∃od,h.get? dx=some od/\∀name,TC name od=some (mA name):=by
 obtain⟨o,es,ep,ho,hd,hk,_,hm⟩:=n;refine⟨o,ho,fun name=>?_⟩;have e:=hm name;unfold nsFind findBy at e;rw[←Array.find?_toList] at e;unfold TC;rw[hd];dsimp only;split
 .rename_i y q
  rw[q] at e;exact congrArg some e
 .rename_i q
  rw[q] at e
  have a:es.toList.any (·.refKey)=false:=by
   rw[List.any_eq_false];intro y hy;obtain⟨z,t,hkey⟩:=hk y (Array.mem_toList_iff.mp hy);simp[DictEntry.refKey,hkey]
  have a':¬es.toList.any (·.refKey)=true:=by rw[a];exact NZ
  rw[if_neg a'];exact congrArg some e
theorem ObjM.look{h:Heap}{x dx C:Addr}{mA:Str->Option NK}(I:ObjM h x dx C mA):∃od,PySem.W.InstAt h x (Ti C dx) C (some od)/\∀name,TC name od=some (mA name):=
 let ⟨od,ho,hl⟩:=BG I.ns
 ⟨od,⟨I.obj,rfl,rfl,ho⟩,hl⟩
section
variable {prog:Og}{w:Ow}{A:OD}{E:NK->NL->Prop}{s:NL}{K:Frag}{x dx C f:Addr}{mA:Str->Option NK}{name:Str}{v:NK}
end
theorem RelO.some_of{v:V}{o:Option NK}(r:RelO (some v) o):∃u,o=some u/\RelV v u:=by
 cases o with
 |none=>exact(show False from r).elim
 |some u=>exact⟨u,rfl,r⟩
section
variable {P:Og}{w:Ow}{H H':Hp}{h h':Heap}{a C dx:Addr}{fs fs':List (Str×V)}
theorem EJ(hok:HOk P w H h)(e:H a=some (.ins C dx fs)):∃mA,ObjM h a dx C mA/\(∀f,RelO (fs.lookup f) (mA f))/\Wr mA (fs.map (·.1))/\fs.length<=1000/\H dx=some (.own a):=by
 obtain⟨d,z,ne,ob,mA,n,r,q⟩:=(show ObjOk P w H h a (.ins C dx fs) from hok a _ e);exact⟨mA,⟨ob,n,ne⟩,r,q,z,d⟩
end
structure Cls(K:Frag)(C:Addr):Prop where
 pg:U2 K C Str.empty=true
 hd:Sq K C=true
 po:PySem.W.plainOver K C=true
 sa:Pc K (.ref C) "__setattr__"=some (some (.builtin "object.__setattr__"))
theorem Cls.get{K:Frag}{C:Addr}(c:Cls K C)(f:Str):U2 K C f=true:=c.pg
structure Con(K:Frag)(C:Addr)(f:Str)(v:V)(u:NK):Prop where
 at_:Pc K (.ref C) f=some (some u)
 rel:RelV v u
 get:Sr K u "__get__"=some none
 cp:PySem.W.copiedNames.contains f=false
structure Meth(K:Frag)(C:Addr)(m:Str)(f:Addr):Prop where
 at_:Pc K (.ref C) m=some (some (.ref f))
 fn:RR K (.ref f)=true
 kp:Ph K (.ref f)=true
section
variable {X:Cx}{pins:List (Addr×Obj)}{σ:St}{H:Hp}{s:NL}{a C dx:Addr}{fs:List (Str×V)}{f:Str}{v:V}{A:OD}{E:NK->NL->Prop}
end
section
variable {X:Cx}{o e value:Expr}{f:Str}{pos pos' tpos:Pos}{ta tv:TE}
end
section
variable {X:Cx}{pins:List (Addr×Obj)}{σ:St}{H:Hp}{s:NL}{A:OD}{E:NK->NL->Prop}{Q:NK->NL->Prop}{c:NK}{b:Bool}
inductive TyOf(K:Frag)(H:Hp):V->NK->Prop where
 |non:TyOf K H .non (.type "NoneType")
 |bl (x:Bool):TyOf K H (.bl x) (.type "bool")
 |int (i:Int):TyOf K H (.int i) (.type "int")
 |str (x:Str):TyOf K H (.str x) (.type "str")
 |flt (x:UInt64):TyOf K H (.flt x) (.type "float")
 |lst {a:Addr}{xs:List V} (e:H a=some (.lst xs)):TyOf K H (.ref a) (.type "list")
 |frz {a:Addr}{o:Obj}{xs:List V} (e:H a=some (.frz o (.lst xs))):TyOf K H (.ref a) (.type "list")
 |tup {a:Addr}{xs:List V} (e:H a=some (.tup xs)):TyOf K H (.ref a) (.type "tuple")
 |dK {a:Addr}{kvs:List (Key×V)} (e:H a=some (.dK kvs)):TyOf K H (.ref a) (.type "dict")
 |dT {a:Addr}{kvs:List (List Key×V)} (e:H a=some (.dT kvs)):TyOf K H (.ref a) (.type "dict")
 |ins {a C dx:Addr}{fs:List (Str×V)} (e:H a=some (.ins C dx fs)) (cl:Cls K C) (ha:Pc K (.ref C) "__class__"=some (some (.builtin "object.__class__")))
   (hn:Sr K (.builtin "object.__class__") "__get__"=some (some (.builtin "getset_descriptor.__get__"))) (htk:Vm K (.builtin "object.__class__")=some true)
   (hm:Uj K C (.type "object")=some true):TyOf K H (.ref a) (.ref C)
theorem mF{x:V}{u t:NK}(I:Inv X pins σ H s)(rx:RelV x u)(ty:TyOf X.K H x t)(e:PJ X.K t c=some b)(h:∀tk,Q (.bool b) { s with toks:=tk }) :
  Oo (Ot X.prog X.w) A (call (.builtin "isinstance") [u,c]) Q E s:=by
 cases ty with
 |non=>cases (show u=Ur from rx);exact OU PySem.W.kitx_none I.kIn Qq e (fun z=>nomatch z) h
 |bl y=>cases (show u=Us y from rx);exact OU PySem.W.kitx_bool I.kIn Qq e (fun z=>nomatch z) h
 |int i=>obtain⟨t,q⟩:=(show ∃t,u=TY i t from rx);cases q;exact OU PySem.W.kitx_int I.kIn Qq e (fun z=>nomatch z) h
 |str y=>obtain⟨t,q⟩:=(show ∃t,u=SJ y t from rx);cases q;exact OU PySem.W.kitx_str I.kIn Qq e (fun z=>nomatch z) h
 |flt y=>obtain⟨t,q⟩:=(show ∃t,u=WH y t from rx);cases q;exact OU PySem.W.kitx_float I.kIn Qq e (fun z=>nomatch z) h
 |@lst a xs ea=>
  cases (show u=OT a from rx);obtain⟨_,_,n,_,h1⟩:=(show ObjOk X.prog X.w H s.heap a (.lst xs) from I.hok a _ ea);exact OU Ss I.kIn ⟨_,h1,rfl⟩ e (fun z=>nomatch z) h
 |@frz a ob xs ea=>
  cases (show u=OT a from rx);obtain⟨_,_,_,n,_,h1⟩:=(show ObjOk X.prog X.w H s.heap a (.frz ob (.lst xs)) from I.hok a _ ea);exact OU Ss I.kIn ⟨_,h1,rfl⟩ e (fun z=>nomatch z) h
 |@tup a xs ea=>
  cases (show u=OT a from rx);obtain⟨_,_,_,p⟩:=(show ObjOk X.prog X.w H s.heap a (.tup xs) from I.hok a _ ea);obtain⟨o,h1,h2,_⟩:=p;exact OU Uu I.kIn ⟨o,h1,h2⟩ e (fun z=>nomatch z) h
 |@dK a kvs ea=>
  cases (show u=OT a from rx);obtain⟨_,_,vs,_,p⟩:=(show ObjOk X.prog X.w H s.heap a (.dK kvs) from I.hok a _ ea);obtain⟨o,es,ep,h1,h2,_⟩:=p;exact OU Su I.kIn ⟨o,h1,h2.1⟩ e (fun z=>nomatch z) h
 |@dT a kvs ea=>
  cases (show u=OT a from rx);obtain⟨_,_,xs,_,o,es,ep,h1,h2,_⟩:=(show ObjOk X.prog X.w H s.heap a (.dT kvs) from I.hok a _ ea);exact OU Su I.kIn ⟨o,h1,h2.1⟩ e (fun z=>nomatch z) h
 |@ins a C dx fs ea cl ha hn htk hm=>
  cases (show u=OT a from rx);obtain⟨mA,O,_⟩:=EJ I.hok ea;obtain⟨od,J,_⟩:=O.look;exact OU (PySem.W.kitx_own (cl.get _) cl.hd ha hn htk hm) I.kIn J e (fun z=>nomatch z) h
end
structure Room(k:Nat)(A:OD):Prop where
 hd:A.handled=none
 dp:A.depth+3*k+5<recursionLimit
 un:A.units+16*k+200<UE
 gd:A.guards=some []
theorem Room.mono{j k:Nat}{A:OD}(r:Room k A)(h:j<=k):Room j A:=⟨r.hd,by have:=r.dp;omega,by have:=r.un;omega,r.gd⟩
theorem Room.deeper{k:Nat}{A:OD}(r:Room (k+1) A)(env:Env):Room k (A.deeper env):=⟨r.hd,by have:=r.dp;show A.depth+1+3*k+5<_;omega,by have:=r.un;show A.units+3+16*k+200<_;omega,r.gd⟩
theorem Room.depth{k:Nat}{A:OD}(r:Room k A):A.depth<recursionLimit:=by have:=r.dp;omega
def sA:TA:=fun _ H Q=>Q [] H
def rX(ta:TE)(tr:TA):TA:=fun σ H Q=>ta σ H fun x H1=>tr σ H1 fun xs H2=>Q (x::xs) H2
section
variable {X:Cx}{e:Expr}{es:List Expr}{te:TE}{t:TA}{pos:Pos}
theorem di:PA X [] sA:=fun _ _ _ _ H Q I h=>UF ⟨[],H,I,.nil,h⟩
theorem dz(ha:PE X e te)(hr:PA X es t)(hs:NU (e::es) X.env=(false,eval e X.env)::NU es X.env:=by rfl):PA X (e::es) (rX te t):=by
 intro pos pins s σ H Q I h;rw[hs];show Oo _ _ (spliced ((false,eval e X.env)::O4 pos (NU es X.env))) _ _ s;refine R5 (thn (ha pins s σ H _ I h) fun u s1 ⟨x,H1,I1,r1,q1⟩=>?_);exact thn (hr pos pins s1 σ H1 _ I1 q1) fun us s2 ⟨xs,H2,I2,r2,q2⟩=>⟨x::xs,H2,I2,.cons r1 r2,q2⟩
def I0(t:TA):TE:=fun σ H Q=>t σ H fun xs H1=>xs.length<=NS/\∀p,H1 p=none->Q (.ref p) (upd H1 p (.tup xs))
def Jd(t:TA):TE:=fun σ H Q=>t σ H fun xs H1=>xs.length<=NS/\∀p,H1 p=none->Q (.ref p) (upd H1 p (.lst xs))
theorem F9{x1}(h:PA X es t):PE X (.Tuple es x1 pos) (I0 t):=by
 intro pins s σ H Q I hq;refine wpAny_Tuple_spliced (thn (h pos pins s σ H _ I hq) fun us s1 ⟨xs,H1,I1,r,z,q⟩=>⟨by rw[←r.length];exact z,?_⟩);have hf:H1 s1.heap.objs.size=none:=I1.hok.fresh (NT _);refine⟨.ref s1.heap.objs.size,upd H1 s1.heap.objs.size (.tup xs),I1.laid (t':=s1.toks) (fun b u e=>NO _ e) (NT _) ?_,rfl,q _ hf⟩;exact⟨z,us,r,⟨_,On _ rfl,rfl,_,rfl⟩⟩
theorem jD(h:PA X es t):PE X (.List es pos) (Jd t):=by
 intro pins s σ H Q I hq;refine wpAny_List_spliced (thn (h pos pins s σ H _ I hq) fun us s1 ⟨xs,H1,I1,r,z,q⟩=>⟨by rw[←r.length];exact z,?_⟩);have hf:H1 s1.heap.objs.size=none:=I1.hok.fresh (NT _);refine⟨.ref s1.heap.objs.size,upd H1 s1.heap.objs.size (.lst xs),I1.laid (t':=s1.toks) (fun b u e=>NO _ e) (NT _) ?_,rfl,q _ hf⟩;exact⟨z,us,0,r,On _ rfl⟩
end
abbrev Sp:=List V->Hp->VK->XK->Prop
abbrev CXT:=List Env->Hp->NL->XK->NK->NL->Prop
structure Env0(P:Og)(w:Ow)(K:Frag)(mg:Str->Option NK)(base:Heap)(A:OD)(outer:List Env)(s:NL)(H:Hp):Prop where
 frames:A.frames=some outer
 mod:Mod K mg base
 bs:∀b o,base.get? b=some o->s.heap.get? b=some o/\H b=none
 bsz:base.objs.size<=s.heap.objs.size
 funs:s.heap.FunFrames base outer
 frf:∀b∈frs outer,H b=none
 hok:HOk P w H s.heap
 bare:So s.gens
def CE(outer:List Env)(P:Og)(w:Ow)(H:Hp)(s:NL)(Q:VK)(u:NK)(s':NL):Prop:=∃v H',s'.os=s.os/\So s'.gens/\Un (frs outer) [] H H' s.heap s'.heap/\HOk P w H' s'.heap/\RelV v u/\Q v H'
def CR(CX:CXT)(outer:List Env)(P:Og)(w:Ow)(H:Hp)(s:NL)(Q:VK)(E:XK)(r:Result)(s':NL):Prop:=
 match r with
 |.ok (.ret u)=>CE outer P w H s Q u s'
 |.ok _=>False
 |.error e=>CX outer H s E e s'
structure FnOk(P:Og)(w:Ow)(K:Frag)(mg:Str->Option NK)(base:Heap)(CX:CXT)(k:Nat)(f:Addr)(fd:PK)(ps:List Str)(sp:Sp):Prop where
 len:∀vs H Q E,sp vs H Q E->vs.length=ps.length
 run:∀(A:OD) (outer:List Env) (s:NL) (H:Hp) (args:Args) (us:List NK) (vs:List V) (Q:VK) (E:XK),Room k A->Env0 P w K mg base A outer s H->T7 s fd args (ps.zip us)->Vals vs us->sp vs H Q E ->
  Vx (Ot P w) A (.call (.ref f) args) (CR CX outer P w H s Q E) s
section
variable {X:Cx}{pins:List (Addr×Obj)}{σ:St}{H:Hp}{s s':NL}
theorem Inv.env0(I:Inv X pins σ H s):Env0 X.prog X.w X.K X.mg X.base X.A X.stack s H:=⟨I.ok.frames,I.ok.mod,I.bs,Of I.ok.bsz I.sz,I.stack,I.stkFree,I.hok,I.bare⟩
theorem Inv.after{Q:VK}{u:NK}(I:Inv X pins σ H s)(h:CE X.stack X.prog X.w H s Q u s'):EP X pins σ Q u s':=by
 obtain⟨v,H',os,bare,un,hok,r,q⟩:=h;obtain⟨hh,g,d,t,os'⟩:=s';obtain rfl:os'=s.os:=os;exact⟨v,H',I.call (h':=hh) (g':=g) (d':=d) (t':=t) (ch:=[]) un hok bare (fun b z=>absurd z (by simp)),r,q⟩
end
def yC(sp:Sp)(dvs:List V)(E:XK)(t:TA):TE:=fun σ H Q=>t σ H fun vs H1=>sp (vs++dvs) H1 Q E
def Binds(K:Frag)(fd:PK)(ps:List Str)(ds:List NK):Prop:=∀(s:NL) (us:List NK),K.In s.heap->(us++ds).length=ps.length->T7 s fd ⟨us,[]⟩ (ps.zip (us++ds))
theorem Binds.all{K:Frag}{fd:PK}{ps:List Str}(h:∀us:List NK,us.length=ps.length->TF fd ⟨us,[]⟩=pure (ps.zip us)):Binds K fd ps []:=fun s us _ hl=>by
 rw[PU] at hl ⊢;exact .of_eq (h us hl)
def rR(CX:CXT)(X:Cx)(E:XK):Prop:=∀(pins:List (Addr×Obj)) (σ:St) (H:Hp) (s:NL) (e:NK) (s':NL),Inv X pins σ H s->CX X.stack H s E e s'->X.xe e s'
section
variable {X:Cx}{CX:CXT}{k:Nat}{f C:Addr}{fd:PK}{ps:List Str}{sp:Sp}{dvs:List V}{ds:List NK}{E:XK}{x m:Str}{p pos apos:Pos}{e o:Expr}{es:List Expr}{ta:TE}{t:TA}
theorem FY{pins:List (Addr×Obj)}{σ:St}{H:Hp}{s:NL}{Q:VK}{us:List NK}{vs:List V}(F:FnOk X.prog X.w X.K X.mg X.base CX k f fd ps sp)(hr:Room k X.A)(hb:Binds X.K fd ps ds)(hd:Vals dvs ds)(hx:rR CX X E)
  (I:Inv X pins σ H s) (r:Vals vs us) (h:sp (vs++dvs) H Q E):Oo (Ot X.prog X.w) X.A (call (.ref f) us) (EP X pins σ Q) X.xe s:=by
 have r2:Vals (vs++dvs) (us++ds):=r.append hd
 have hl:(us++ds).length=ps.length:=by rw[←r2.length];exact F.len _ _ _ _ h
 refine wpAny_call (UG (F.run X.A X.stack s H ⟨us,[]⟩ (us++ds) (vs++dvs) Q E hr I.env0 (hb s us I.kIn hl) r2 h) fun r s' hq=>?_)
 cases r with
 |error e=>exact hx pins σ H s e s' I hq
 |ok fl=>
  cases fl with
  |ret u=>exact I.after hq
  |next=>exact Qy hq
  |brk=>exact Qy hq
  |cont=>exact Qy hq
theorem Ek(F:FnOk X.prog X.w X.K X.mg X.base CX k f fd ps sp)(hr:Room k X.A)(hg:Gl X x)(hm:X.mg x=some (.ref f))(hk:Ph X.K (.ref f)=true)(hb:Binds X.K fd ps ds)(hd:Vals dvs ds)(hx:rR CX X E)
  (ha:PA X (e::es) t) (hdb:(x == ("__debug__" : Str))=false:=by decide) (he:NU (e::es) X.env=(false,eval e X.env)::NU es X.env:=by rfl) (hpl:(O4 pos (NU es X.env)).any (·.1)=false:=by rfl) :
  PE X (.Call (.Name x p) (e::es) [] pos) (yC sp dvs E t):=by
 intro pins s σ H Q I h;refine R6 (wK I hg hm ?_ hdb);refine PySem.W.callWith_K (h₀:=X.base) I.ok.mod.kin hk (thn (ha pos pins s σ H _ I h) fun us s1 ⟨vs,H1,I1,r,q⟩=>⟨I1.kIn,?_⟩) he hpl;exact FY F hr hb hd hx I1 r q
structure Mk(K:Frag)(C f:Addr):Prop where
 makes:PySem.W.makesIn K C=true
 init:Pc K (.ref C) "__init__"=some (some (.ref f))
 fn:RR K (.ref f)=true
 kp:Ph K (.ref C)=true
end
section
variable {X:Cx}{CX:CXT}{k:Nat}{f C:Addr}{fd:PK}{ps ks:List Str}{sp:Sp}{E:XK}{x m:Str}{p pos apos kpos:Pos}{e o:Expr}{es:List Expr}{kws:List Pw}{te ta:TE}{t tk:TA}{nm:Option Str}
structure KBinds(K:Frag)(fd:PK)(ps ks:List Str)(g:List NK->List NK->List NK)(gV:List V->List V->List V):Prop where
 to:∀(s:NL) (us ws:List NK),K.In s.heap->(g us ws).length=ps.length->T7 s fd ⟨us,ks.zip ws⟩ (ps.zip (g us ws))
 rel:∀{vs:List V}{us:List NK}{zs:List V}{ws:List NK},Vals vs us->Vals zs ws->Vals (gV vs zs) (g us ws)
variable {g:List NK->List NK->List NK}{gV:List V->List V->List V}
end
structure FnScope(N P:List Str)(sc:Qg):Prop where
 kind:sc.kind=.function
 co:sc.isCoroutine=false
 gen:sc.isGenerator=false
 nd:N.Nodup
 pre:N.take P.length=P
 par:∀x∈P,sc.names.lookup x=some .local\/sc.names.lookup x=some .cell
 nofree:∀y∈sc.names,y.2≠.free
theorem uQ{Ru:Str->Option Qt}{x:Str}:∀{binds:List (Str×NK)}{m:Str->Option NK},(∀v,(x,v)∉binds)->VG Ru binds m x=m x
 |[],_,_=>rfl
 |(n,v)::r,m,h=>by
  unfold VG;rw[uQ fun w hw=>h w (NJ _ hw)];split
  .have:x≠n:=by rintro rfl;exact h v NI
   simp[this]
  .rfl
theorem uS{Ru:Str->Option Qt}{x:Str}:∀{binds:List (Str×NK)}{m:Str->Option NK},(∀v,(x,v)∉binds)->VH Ru binds m x=m x
 |[],_,_=>rfl
 |(n,v)::r,m,h=>by
  unfold VH;rw[uS fun w hw=>h w (NJ _ hw)];split
  .rfl
  .have:x≠n:=by rintro rfl;exact h v NI
   simp[this]
theorem uR{Ru:Str->Option Qt}{x:Str}{v:NK}:∀{P:List Str}{vs:List NK}{i:Nat}{m:Str->Option NK},P.Nodup->P[i]? = some x->vs[i]? = some v->Ru x=some .local ->
  VG Ru (P.zip vs) m x=some v
 |[],_,_,_,_,h,_,_=>by simp at h
 |_::_,[],_,_,_,_,h,_=>by simp at h
 |p::P,w::vs,0,m,nd,h1,h2,hk=>by
  simp at h1 h2;subst h1;subst h2;show VG Ru ((p,w)::P.zip vs) m p=_;unfold VG;rw[uQ fun v hv=>(OE.mp nd).1 (Tn hv).1,if_pos hk];simp
 |p::P,w::vs,i+1,m,nd,h1,h2,hk=>by
  show VG Ru ((p,w)::P.zip vs) m x=_;unfold VG;exact uR (i:=i) (OE.mp nd).2 (by simpa using h1) (by simpa using h2) hk
theorem uT{Ru:Str->Option Qt}{x:Str}{v:NK}:∀{P:List Str}{vs:List NK}{i:Nat}{m:Str->Option NK},P.Nodup->P[i]? = some x->vs[i]? = some v->Ru x≠some .local ->
  VH Ru (P.zip vs) m x=some v
 |[],_,_,_,_,h,_,_=>by simp at h
 |_::_,[],_,_,_,_,h,_=>by simp at h
 |p::P,w::vs,0,m,nd,h1,h2,hk=>by
  simp at h1 h2;subst h1;subst h2;show VH Ru ((p,w)::P.zip vs) m p=_;unfold VH;rw[uS fun v hv=>(OE.mp nd).1 (Tn hv).1,if_neg hk];simp
 |p::P,w::vs,i+1,m,nd,h1,h2,hk=>by
  show VH Ru ((p,w)::P.zip vs) m x=_;unfold VH;exact uT (i:=i) (OE.mp nd).2 (by simpa using h1) (by simpa using h2) hk
def start(N:List Str)(vs:List V):St:=vs.map some++Oq (N.length-vs.length) none
def gL(CX:CXT)(P:Og)(w:Ow)(K:Frag)(mg:Str->Option NK)(base:Heap)(N:List Str)(qual:Str)(scope:Qg)(f:Addr)(cd:NK)(A:OD)(outer:List Env)(s:NL)(H:Hp)(E:XK):Cx where
 prog:=P
 w:=w
 K:=K
 mg:=mg
 base:=base
 A:=A.deeper (R7 qual scope s.heap.objs.size f cd)
 N:=N
 s₀:=s
 H₀:=H
 env:=R7 qual scope s.heap.objs.size f cd
 outer:=outer
 stack:=R7 qual scope s.heap.objs.size f cd::outer
 ex:=[]
 calm:=true
 fn:=fun _=>true
 pn:=[]
 xe:=fun e s'=>Oo (Ot P w) (A.deeper (R7 qual scope s.heap.objs.size f cd)) (leaving (R7 qual scope s.heap.objs.size f cd) e) (fun _ s''=>CX outer H s E e s'') (fun e' s''=>CX outer H s E e' s'') s'
theorem vO{sc:Qg}{n:Nat}{x:Str}(h:sc.names.lookup x=some .cell):∃c,(Wo n sc.names []).lookup x=some c:=by
 have q:=S3 sc.names n [] (.inl h);exact QX.mp q
theorem BO{CX:CXT}{P:Og}{w:Ow}{K:Frag}{mg:Str->Option NK}{base:Heap}{N ps:List Str}{qual:Str}{scope:Qg}{f:Addr}{cd:NK}{A:OD}{outer:List Env}{s s1:NL}{H:Hp}{E:XK}{us:List NK}{vs:List V}
  (S:FnScope N ps scope) (hd:A.handled=none) (e0:Env0 P w K mg base A outer s H) (hl:vs.length=ps.length) (r:Vals vs us)
  (x:InCallC s s.heap.objs.size (VG (R7 qual scope s.heap.objs.size f cd).kindOf (ps.zip us) fun _=>none) (Wo (s.heap.objs.size+1) scope.names []) (VH (R7 qual scope s.heap.objs.size f cd).kindOf (ps.zip us) fun _=>none) s1) :
  Inv (gL CX P w K mg base N qual scope f cd A outer s H E) [] (start N vs) H s1:=by
 have hpl:ps.length<=N.length:=by have:=congrArg Sv S.pre;rw[PY] at this;omega
 obtain⟨h1,tk,rfl,hk⟩:=x.done;have noA:∀b:Addr,b∉(gL CX P w K mg base N qual scope f cd A outer s H E).ex:=fun b z=>absurd (show b∈([]:List Addr) from z) (by simp)
 refine⟨⟨e0.mod,S.kind,rfl,rfl,NT _,fun y z c h1 h2=>?_,fun y hy=>?_,fun y c _ h=>?_,fun _=>hd,Around.frames_deeper e0.frames,.inr ⟨rfl,rfl⟩,fun b z=>absurd z (noA b),e0.bs,e0.bsz,fun b _ _=>noA b,fun b z=>absurd z (noA b),e0.funs,e0.frf⟩,
  rfl,e0.bare,Un.kept hk,⟨_,x.toInCall.ns,fun i y v h1 h2 h3=>?_⟩,fun y c h=>⟨_,x.cell y c h⟩,e0.hok.fresh (NT _),fun y c h=>?_,fun p hp=>absurd (show p∈([]:List (Addr×Obj)) from hp) (by simp),e0.hok.kept hk,?_⟩
 .exact name_of_addr x.apart (Qs h1) (Qs h2)
 .have hy:scope.names.lookup y=some .cell\/scope.names.lookup y=some .free:=hy
  rcases hy with hy|hy
  .exact vO hy
  .exact absurd rfl (S.nofree _ (Qs hy))
 .exact Qx (x.above y c (Qs h))
 .have hi:i<vs.length:=by
   unfold start at h2
   by_cases hi:i<vs.length
   .exact hi
   .rw[R8 (by simpa using hi)] at h2
    rw[List.getElem?_replicate] at h2
    split at h2 <;> cases h2
  have ha:vs[i]? = some v:=by
   unfold start at h2;rw[Os (by simpa using hi),OS] at h2
   cases e:vs[i]? with
   |none=>rw[e] at h2;cases h2
   |some a=>rw[e] at h2;cases h2;rfl
  obtain⟨u,hu,rv⟩:=r.get ha
  have hp:ps[i]? = some y:=by
   rw[←S.pre,List.getElem?_take_of_lt (by omega)];exact h1
  have ndP:ps.Nodup:=by rw[←S.pre];exact S.nd.sublist (UH _ _)
  refine⟨u,rv,?_⟩
  rcases S.par y (Oz hp) with k|k
  .exact .inl ⟨k,uR ndP hp hu k⟩
  .obtain⟨c,e⟩:=vO (n:=s.heap.objs.size+1) k
   refine .inr ⟨.inl k,c,e,?_⟩;have q:=x.cell y c e;rw[uT ndP hp hu (by show scope.names.lookup y≠_;rw[k];decide)] at q;exact q
 .exact e0.hok.fresh (Qx (x.above y c (Qs h)))
 .unfold start
  show _=N.length;rw[OR,OV,List.length_replicate];omega
theorem IB{CX:CXT}{P:Og}{w:Ow}{K:Frag}{mg:Str->Option NK}{base:Heap}{k:Nat}{f:Addr}{name qual:Str}{params:Arguments}{body:List Stmt}{scope:Qg}{dV kV doc pm cdv ct oc:NK}{an od:Option Addr}
  {osl:Array (Option NK)}{N ps:List Str}{sp:Sp} (lk:K.lookup f=some ⟨oc,od,.func (Po name qual params body scope dV kV doc pm an cdv ct),osl⟩) (hcd:QM K cdv qual=true) (S:FnScope N ps scope)
  (len:∀vs H Q E,sp vs H Q E->vs.length=ps.length)
  (hbody:∀(A:OD) (outer:List Env) (s:NL) (H:Hp) (vs:List V) (Q:VK) (E:XK),Room k (A.deeper (R7 qual scope s.heap.objs.size f cdv))->sp vs H Q E ->
   ∃t,PSs (gL CX P w K mg base N qual scope f cdv A outer s H E) body t/\t { nx:=fun _ H'=>Q .non H',rt:=Q } (start N vs) H) :
  FnOk P w K mg base CX (k+1) f (Po name qual params body scope dV kV doc pm an cdv ct) ps sp:=by
 refine⟨len,fun A outer s H args us vs Q E hr e0 hb r hsp=>?_⟩;have hl:=len _ _ _ _ hsp;have KX:K.In s.heap:=e0.mod.kin.keeps fun b o e=>(e0.bs b o e).1;have lim:s.heap.NoLimit:=e0.mod.nolimit.keeps fun b o e=>(e0.bs b o e).1
 have hkind:∀y∈ps.zip us,scope.names.lookup y.1=some .local\/(scope.names.lookup y.1=some .cell/\((Wo (s.heap.objs.size+1) scope.names []).lookup y.1).isSome=true):=fun⟨n,v⟩ hy=>by
  rcases S.par n (Tn hy).1 with q|q
  .exact .inl q
  .exact .inr ⟨q,S3 _ _ _ (.inl q)⟩
 refine codeAny_call_function hr.depth (KX _ _ lk) rfl S.co S.gen rfl (PySem.W.codeRec_of KX hcd) (hb _ _ _ _ ?_);refine wpAny_newFunctionEnv_cells S.kind hkind fun env he s1 x=>?_;subst he;refine⟨lim.keeps x.toInCall.keep,codeAny_func ?_⟩;obtain⟨t,ht,hq⟩:=hbody A outer s H vs Q E (hr.deeper _) hsp;have I:Inv (gL CX P w K mg base N qual scope f cdv A outer s H E) [] (start N vs) H s1:=BO S hr.hd e0 hl r x;refine PX (ht [] s1 (start N vs) H _ I hq) (fun fl s' hs=>?_) fun e s' hs=>hs
 have fin:∀{σ':St}{H':Hp}{v:V}{u:NK},Inv (gL CX P w K mg base N qual scope f cdv A outer s H E) [] σ' H' s'->RelV v u->Q v H'->CE outer P w H s Q u s':=
  fun {σ' H' v u} J rv q=>⟨v,H',J.os,J.bare,J.base,J.hok,rv,q⟩
 cases fl with
 |ret u=>
  obtain⟨v,σ',H',J,rv,q⟩:=hs;exact fin J rv q
 |next=>
  obtain⟨σ',H',J,q⟩:=hs;exact fin (v:=V.non) (u:=Ur) J rfl q
 |brk=>
  obtain⟨_,_,_,q⟩:=hs;exact Qy q
 |cont=>
  obtain⟨_,_,_,q⟩:=hs;exact Qy q
section
variable {X:Cx}{x:Str}{p pos:Pos}{e:Expr}{es:List Expr}{t:TA}{id T:String}{r:List V->Hp->VK->Prop}
def tCB(r:List V->Hp->VK->Prop)(t:TA):TE:=fun σ H Q=>t σ H fun vs H1=>r vs H1 Q
theorem mQ(hc:CallR X (.builtin id) r)(hg:Gl X x)(hm:X.mg x=none)(hv:P1 x=some (.builtin id))(ha:PA X (e::es) t)(hn:x≠"__name__":=by decide)(hdb:(x == ("__debug__" : Str))=false:=by decide)
  (he:NU (e::es) X.env=(false,eval e X.env)::NU es X.env:=by rfl) (hpl:(O4 pos (NU es X.env)).any (·.1)=false:=by rfl):PE X (.Call (.Name x p) (e::es) [] pos) (tCB r t):=by
 intro pins s σ H Q I h;refine R6 (lj I hg hm hv ?_ hn hdb);exact U3 (thn (ha pos pins s σ H _ I h) fun us s1 ⟨vs,H1,I1,r1,q1⟩=>hc pins s1 σ H1 vs us Q I1 r1 q1) he hpl
theorem pS(hc:CallR X (.type T) r)(hg:Gl X x)(hm:X.mg x=none)(hv:P1 x=some (.type T))(ha:PA X (e::es) t)(hn:x≠"__name__":=by decide)(hdb:(x == ("__debug__" : Str))=false:=by decide)
  (he:NU (e::es) X.env=(false,eval e X.env)::NU es X.env:=by rfl) (hpl:(O4 pos (NU es X.env)).any (·.1)=false:=by rfl):PE X (.Call (.Name x p) (e::es) [] pos) (tCB r t):=by
 intro pins s σ H Q I h;refine R6 (lj I hg hm hv ?_ hn hdb);exact QI (thn (ha pos pins s σ H _ I h) fun us s1 ⟨vs,H1,I1,r1,q1⟩=>hc pins s1 σ H1 vs us Q I1 r1 q1) he hpl
end
end L2
namespace HT
open PySem PyProof.Rows
section
open PySem.SeqAt
open PySem.AutoSeq1 (wpAny_loadPart')
open PySem.MeetsSeq PySem.MeetsSeq2 PySem.MeetsSeq3
end
section
variable {prog:Og}{w:Ow}{A:OD}{E:NK->NL->Prop}{s:NL}
theorem Fc{t b:Addr}{vs ws:List NK}{Q:NK->NL->Prop}(ht:UB s.heap t vs.toArray)(hb:UB s.heap b ws.toArray)(hv:vs≠[])
  (h1:ws=[]->Q (.ref t) s) (h2:ws≠[]->Q (.ref s.heap.objs.size) { s with heap:=s.heap.push { cls:=.type "tuple",data:=.seq (vs++ws).toArray } })
  (hsz:vs.length+ws.length<=NS):Oo (Ot prog w) A (Pu .Add (.ref t) (.ref b)) Q E s:=by
 obtain⟨⟨cls,dd,data,sl⟩,ho,hc,n,hd⟩:=id ht;obtain⟨⟨cls2,dd2,data2,sl2⟩,ho2,hc2,n2,hd2⟩:=id hb;simp only at hc hd hc2 hd2;subst hc hd hc2 hd2
 have e:vs.toArray++ws.toArray=(vs++ws).toArray:=by simp
 by_cases hw:ws=[]
 .exact S4 ⟨_,ho,rfl⟩ ⟨_,ho2,rfl⟩ SK Uk Ri Rb (QY _ _)
   (tuple_addW1 t b vs.toArray ws.toArray n n2 dd dd2 sl sl2 (by simpa using hv) (by simp[hw])) ⟨ho,ho2,h1 hw⟩
 .refine S4 ⟨_,ho,rfl⟩ ⟨_,ho2,rfl⟩ SK Uk Ri Rb (QY _ _)
   (tuple_addW2 t b vs.toArray ws.toArray n n2 dd dd2 sl sl2 (by simpa using hv) (by simpa using hw) (by rw[NX,NX];exact hsz)) ⟨ho,ho2,?_⟩
  rw[e];exact h2 hw
def sIx(n d:Nat):Option Int->Nat
 |none=>d
 |some v=>if v<0 then (v+(n:Int)).toNat else min v.toNat n
theorem DY(n d k:Nat):sIx n d (some (k:Int))=min k n:=by
 show (if (k:Int)<0 then ((k:Int)+(n:Int)).toNat else min (k:Int).toNat n)=min k n;rw[if_neg (by omega),Rj]
theorem FX(n d:Nat)(hd:d<=n)(o:Option Int):sIx n d o<=n:=by
 cases o with
 |none=>exact hd
 |some v=>
  show (if v<0 then (v+(n:Int)).toNat else min v.toNat n)<=n
  by_cases hv:v<0
  .rw[if_pos hv];omega
  .rw[if_neg hv];exact U4 _ _
theorem xi(v:Int)(n d:Nat):(if v<0 then max (v+(n:Int)) 0 else min v (n:Int))=((sIx n d (some v):Nat):Int):=by
 show (if v<0 then max (v+(n:Int)) 0 else min v (n:Int))=(((if v<0 then (v+(n:Int)).toNat else min v.toNat n):Nat):Int)
 by_cases hv:v<0
 .simp only[if_pos hv];omega
 .simp only[if_neg hv];omega
theorem Bh(lo hi:Option Int)(n:Nat):QT lo hi 1 (n:Int)=(((sIx n 0 lo:Nat):Int),((sIx n n hi:Nat):Int)):=by
 have h1:¬((1:Int)<0):=by omega
 unfold QT;simp only[h1,if_false];refine Prod.ext ?_ ?_
 .cases lo with
  |none=>rfl
  |some v=>exact xi v n 0
 .cases hi with
  |none=>rfl
  |some v=>exact xi v n n
theorem AV(i j:Nat):O9 (i:Int) (j:Int) 1=j-i:=by
 unfold O9
 have h1:(1:Int)>0:=by omega
 simp only[h1,if_true,UI]
 split <;> omega
theorem pC{v:NK}{o:Option Int}{Q:Option Int->NL->Prop}(p:S5 v o)(h:Q o s):Oo (Ot prog w) A (Vn v) Q E s:=by
 cases p with
 |none=>exact R9 h
 |int i t=>exact slicePart_int h
theorem sQ{sl:Addr}{vl vu:NK}{lo hi:Option Int}{n:Nat}{Q:Int×Int×Nat->NL->Prop}(hs:s.heap.IsSliceOf sl vl vu .none)(pl:S5 vl lo)(pu:S5 vu hi)
  (h:Q (((sIx n 0 lo:Nat):Int),1,sIx n n hi-sIx n 0 lo) s):Oo (Ot prog w) A (Qf (.ref sl) (pure (n:Int))) Q E s:=by
 obtain⟨os,hos,hcs,hds⟩:=id hs;unfold Qf Si;refine NP (NP (RB hos hds (x:=vl) rfl (NP (RB hos hds (x:=vu) rfl (NP (RB hos hds (x:=.none) rfl (Oa ?_)))))));refine NP (R9 ?_);show Oo _ _ (if ((1:Int) == 0)=true then _ else _) _ _ s;rw[if_neg (by decide)];refine NP (pC pl (NP (pC pu (NP (Oa ?_)))));show Oo _ _ (match QT lo hi 1 (n:Int) with|(lo,hi)=>pure (lo,(1:Int),O9 lo hi 1)) _ _ s;rw[Bh lo hi n];show Oo _ _ (pure (((sIx n 0 lo:Nat):Int),(1:Int),O9 ((sIx n 0 lo:Nat):Int) ((sIx n n hi:Nat):Int) 1)) _ _ s;rw[AV];exact Oa h
theorem Cs(xs:Array NK)(i k:Nat):((Pg k).filterMap fun(m:Nat)=>xs[((i:Int)+(m:Int)*1).toNat]?).toArray=((xs.toList.drop i).take k).toArray:=by
 have e:(fun(m:Nat)=>xs[((i:Int)+(m:Int)*1).toNat]?)=fun m=>xs[i+m]?:=by
  funext m
  have:((i:Int)+(m:Int)*1).toNat=i+m:=by omega
  rw[this]
 rw[e];have:=pick_run xs i k;rw[Uv] at this;have e2:((fun x=>xs[x]?) ∘ fun x=>i+x)=fun m=>xs[i+m]?:=rfl;rw[e2] at this;rw[this]
theorem zV{t sl:Addr}{items:Array NK}{vl vu:NK}{lo hi:Option Int}{Q:NK->NL->Prop}(ht:UB s.heap t items)(hs:s.heap.IsSliceOf sl vl vu .none)(pl:S5 vl lo)(pu:S5 vu hi)
  (hw:¬(sIx items.size 0 lo=0/\sIx items.size items.size hi=items.size))
  (h:Q (.ref s.heap.objs.size) { s with heap:=s.heap.push { cls:=.type "tuple",data:=.seq ((items.toList.drop (sIx items.size 0 lo)).take (sIx items.size items.size hi-sIx items.size 0 lo)).toArray } })
  (hsz:items.size<=NS):Oo (Ot prog w) A (Q4 (.ref t) (.ref sl)) Q E s:=by
 have htake:sizeOk (.seq ((items.toList.drop (sIx items.size 0 lo)).take (sIx items.size items.size hi-sIx items.size 0 lo)).toArray):=by
  show ((items.toList.drop (sIx items.size 0 lo)).take (sIx items.size items.size hi-sIx items.size 0 lo)).toArray.size<=NS;rw[NX,PY,Pp,Pf];omega
 have hj:sIx items.size items.size hi<=items.size:=FX _ _ (NT _) hi;obtain⟨os,hos,hcs,hds⟩:=id hs;have hTs:s.TypeIs (.ref sl) "slice":=⟨os,hos,hcs⟩;unfold Q4
 try with_reducible refine QG ?_
 first|refine NP (Oa ?_)|skip
 refine NP (Sw ht.typeIs (by decide) ?_)
 refine NP (Rc (name:=NH "__getitem__") ht.typeIs OB
  (Rv OB ht.typeIs RO ?_ (Sa _ _)))
 show Oo _ _ (QN (.ref t) >>= _) _ _ s;refine NP (Rz ht ?_);refine NP (S6 hTs ?_);rw[if_pos (by decide)];refine NP (sQ hs pl pu ?_)
 have hno:¬((((sIx items.size 0 lo:Nat):Int) == 0&&(1:Int) == 1&&(sIx items.size items.size hi-sIx items.size 0 lo) == items.size)=true):=by
  intro q;rw[NN,NN] at q;have q1:((sIx items.size 0 lo:Nat):Int)=0:=eq_of_beq q.1.1;have q2:sIx items.size items.size hi-sIx items.size 0 lo=items.size:=eq_of_beq q.2;exact hw ⟨by omega,by omega⟩
 show Oo _ _ (if (((sIx items.size 0 lo:Nat):Int) == 0&&(1:Int) == 1&&(sIx items.size items.size hi-sIx items.size 0 lo) == items.size)=true then _ else _) _ _ s;rw[if_neg hno,Cs]
 first
  |exact NP (m:=OM _) (OW (Oa ⟨_,rfl,Oa h⟩) htake)
  |exact NP (m:=OM _) (OW (NP (Oa (Oa ⟨_,rfl,Oa h⟩))) htake)
  |exact NP (NP (m:=OM _) (OW (Oa (Oa ⟨_,rfl,Oa h⟩)) htake))
  |exact NP (NP (m:=OM _) (OW (Oa ⟨_,rfl,Oa h⟩) htake))
end
end HT
namespace L2
open PySem PySem.Spec PyProof.Rows
abbrev TO:=St->Hp->(Option Int->Hp->Prop)->Prop
def PO(X:Cx)(e:Option Expr)(t:TO):Prop:=
 ∀(pins:List (Addr×Obj)) (s:NL) (σ:St) (H:Hp) (Q:Option Int->Hp->Prop),Inv X pins σ H s->t σ H Q ->
  Oo (Ot X.prog X.w) X.A (evalPart e X.env) (fun u s'=>∃o H',Inv X pins σ H' s'/\S5 u o/\Q o H') X.xe s
def DR:TO:=fun _ H Q=>Q none H
def Hz(t:TE):TO:=fun σ H Q=>t σ H fun x H1=>∃i,x=.int i/\Q (some i) H1
section
variable {X:Cx}{e:Expr}{te:TE}{lo hi:Option Expr}{tl th:TO}{pos p2:Pos}
theorem Ef:PO X none DR:=by
 intro pins s σ H Q I h;rw[Ul];exact Oa ⟨none,H,I,.none,h⟩
theorem Ee(h:PE X e te):PO X (some e) (Hz te):=by
 intro pins s σ H Q I hw;rw[evalPart_some];refine thn (h pins s σ H _ I hw) fun u s1 ⟨x,H1,I1,r1,q1⟩=>?_;obtain⟨i,rfl,q⟩:=q1;obtain⟨t,rfl⟩:=r1;exact⟨some i,H1,I1,.int i t,q⟩
def SlR(X:Cx)(r:V->Option Int->Option Int->Hp->VK->Prop):Prop:=
 ∀(pins:List (Addr×Obj)) (s:NL) (σ:St) (H:Hp) (x:V) (v vl vu:NK) (lo hi:Option Int) (sl:Addr) (Q:VK),Inv X pins σ H s->RelV x v->s.heap.IsSliceOf sl vl vu .none->S5 vl lo->S5 vu hi->r x lo hi H Q ->
  ∃T id,typeLookup (.type T) "__getitem__"=pure (some (.builtin id))/\s.TypeIs v T/\Oo (Ot X.prog X.w) X.A (Q4 v (.ref sl)) (EP X pins σ Q) X.xe s
theorem SlR.or{r r':V->Option Int->Option Int->Hp->VK->Prop}(h:SlR X r)(h':SlR X r'):SlR X (fun x lo hi H Q=>r x lo hi H Q\/r' x lo hi H Q):=by
 intro pins s σ H x v vl vu lo hi sl Q I rx hs pl pu q
 rcases q with q|q
 .exact h pins s σ H x v vl vu lo hi sl Q I rx hs pl pu q
 .exact h' pins s σ H x v vl vu lo hi sl Q I rx hs pl pu q
def tSl(r:V->Option Int->Option Int->Hp->VK->Prop)(te:TE)(tl th:TO):TE:=fun σ H Q=>te σ H fun x H1=>tl σ H1 fun l H2=>th σ H2 fun u H3=>r x l u H3 Q
theorem Cv{r:V->Option Int->Option Int->Hp->VK->Prop}(hr:SlR X r)(he:PE X e te)(hl:PO X lo tl)(hu:PO X hi th):PE X (.Subscript e (.Slice lo hi none p2) pos) (tSl r te tl th):=by
 intro pins s σ H Q I h;refine Uw (thn (he pins s σ H _ I h) fun v s1 ⟨x,H1,I1,r1,q1⟩=>?_);refine wpAny_Slice (thn (hl pins s1 σ H1 _ I1 q1) fun vl s2 ⟨l,H2,I2,pl,q2⟩=>thn (hu pins s2 σ H2 _ I2 q2) fun vu s3 ⟨u,H3,I3,pu,q3⟩=>?_);rw[Ul];refine Oa ?_;have I4:Inv X pins σ H3 { s3 with heap:=s3.heap.push { cls:=.type "slice",data:=.fields #[vl,vu,.none] } }:=I3.kept (t':=s3.toks) fun b ob q=>NO _ q;obtain⟨T,id,hT,ht,hg⟩:=hr pins { s3 with heap:=s3.heap.push { cls:=.type "slice",data:=.fields #[vl,vu,.none] } } σ H3 x v vl vu l u s3.heap.objs.size Q I4 r1 (Ux ..) pl pu q3;show Oo (Ot X.prog X.w) X.A (SF e (.Slice lo hi none p2) v (.ref s3.heap.objs.size)) (EP X pins σ Q) X.xe { s3 with heap:=s3.heap.push { cls:=.type "slice",data:=.fields #[vl,vu,.none] } };exact tail_any (ops:=[.ref s3.heap.objs.size,v]) ht hT hg (by with_unfolding_all rfl)
def gM(xs:List V)(lo hi:Option Int):List V:=(xs.drop (HT.sIx xs.length 0 lo)).take (HT.sIx xs.length xs.length hi-HT.sIx xs.length 0 lo)
theorem tE(xs:List V)(lo hi:Option Int):(gM xs lo hi).length<=xs.length:=by
 unfold gM;rw[PY,Pp];omega
def Jm(K:Frag):V->Option Int->Option Int->Hp->VK->Prop:=fun x lo hi H Q=>∃a xs,x=.ref a/\SqT K H a xs /\
 ¬(HT.sIx xs.length 0 lo=0/\HT.sIx xs.length xs.length hi=xs.length)/\∀p,H p=none->Q (.ref p) (upd H p (.tup (gM xs lo hi)))
theorem FR:SlR X (Jm X.K):=by
 intro pins s σ H x v vl vu lo hi sl Q I rx hs pl pu h;obtain⟨a,xs,rfl,hx,hw,q⟩:=h;cases rx;obtain⟨its,r,ht,hz⟩:=I.tuple hx
 have hlen:its.toArray.size=xs.length:=by rw[NX];exact r.length.symm
 refine⟨"tuple",_,OB.lookup,ht.typeIs,?_⟩;refine HT.zV ht hs pl pu (by rw[hlen];exact hw) ?_ (by rw[hlen];exact hz);rw[hlen];refine⟨.ref s.heap.objs.size,_,I.laid (t':=s.toks) (o:=.tup (gM xs lo hi)) (fun b ob q=>NO _ q) (NT _) ?_,rfl,q _ (I.hok.fresh (NT _))⟩;exact⟨Of (tE xs lo hi) hz,_,(r.drop (HT.sIx xs.length 0 lo)).take (HT.sIx xs.length xs.length hi-HT.sIx xs.length 0 lo),SM _ _⟩
def HJ(K:Frag):R2:=fun x y H Q=>∃a b xs ys,x=.ref a/\y=.ref b/\SqT K H a xs/\SqT K H b ys/\xs≠[]/\xs.length+ys.length<=NS /\
 (ys=[]->Q (.ref a) H)/\(ys≠[]->∀p,H p=none->Q (.ref p) (upd H p (.tup (xs++ys))))
theorem Vals.nil_iff{xs:List V}{us:List NK}(r:Vals xs us):us=[]↔xs=[]:=by
 cases r with
 |nil=>simp
 |cons _ _=>simp
theorem Er:OpR X (Pu .Add) (HJ X.K):=by
 intro pins s σ H x y v u Q I rx ry h;obtain⟨a,b,xs,ys,rfl,rfl,ha,hb,hx,hz,q1,q2⟩:=h;cases rx;cases ry;obtain⟨its,r1,p1,_⟩:=I.tuple ha;obtain⟨its2,r2,p2,_⟩:=I.tuple hb;refine HT.Fc p1 p2 (fun z=>hx (r1.nil_iff.mp z)) (fun z=>⟨.ref a,H,I,rfl,q1 (r2.nil_iff.mp z)⟩) (fun z=>?_) (by rw[←r1.length,←r2.length];exact hz);refine⟨.ref s.heap.objs.size,_,I.laid (t':=s.toks) (o:=.tup (xs++ys)) (fun b ob q=>NO _ q) (NT _) ?_,rfl,q2 (fun w=>z (r2.nil_iff.mpr w)) _ (I.hok.fresh (NT _))⟩;exact⟨by rw[OR];exact hz,_,r1.append r2,SM _ _⟩
end
def ixN(n:Nat)(i:Int):Option Nat:=if 0<=i then (if i<n then some i.toNat else none) else if -(n:Int)<=i then some (i+n).toNat else none
def atI{α:Type}(xs:List α)(i:Int):Option α:=(ixN xs.length i).bind fun j=>xs[j]?
theorem wN{n:Nat}{i:Int}{j:Nat}(h:ixN n i=some j):seqIndex? i n=some j/\j<n/\-(n:Int)<=i/\i<n:=by
 unfold ixN at h
 by_cases h0:0<=i
 .rw[if_pos h0] at h
  by_cases h1:i<n
  .rw[if_pos h1] at h
   have e:i.toNat=j:=OL h;exact⟨by rw[Vh h0 h1,e],by omega,by omega,h1⟩
  .rw[if_neg h1] at h;cases h
 .rw[if_neg h0] at h
  by_cases h1 : -(n:Int)<=i
  .rw[if_pos h1] at h
   have e:(i+n).toNat=j:=OL h;exact⟨by rw[UJ (by omega) h1,e],by omega,h1,by omega⟩
  .rw[if_neg h1] at h;cases h
theorem qV{α:Type}{xs:List α}{i:Int}{v:α}(h:atI xs i=some v):∃j,seqIndex? i xs.length=some j/\xs[j]? = some v/\j<xs.length/\-(xs.length:Int)<=i/\i<xs.length:=by
 unfold atI at h
 cases e:ixN xs.length i with
 |none=>rw[e] at h;cases h
 |some j=>
  rw[e] at h;obtain⟨h1,h2,h3,h4⟩:=wN e;exact⟨j,h1,h,h2,h3,h4⟩
theorem kY{α:Type}{xs:List α}{j:Nat}{v:α}(h:xs[j]? = some v):atI xs (j:Int)=some v:=by
 have hj:j<xs.length:=(NM.mp h).1
 have e:ixN xs.length (j:Int)=some j:=by
  unfold ixN;rw[if_pos (by omega),if_pos (by omega)];simp
 unfold atI;rw[e];exact h
def k6(b:Expr):Prop:=∀o i,Sx b false o i=operate [o,i] (Q4 o i)
def IxR(X:Cx)(r:R2):Prop:=
 ∀(value slice:Expr) (pins:List (Addr×Obj)) (s:NL) (σ:St) (H:Hp) (x y:V) (v u:NK) (Q:VK),Inv X pins σ H s->RelV x v->RelV y u->r x y H Q ->
  Sx slice false v u=operate [v,u] (Q4 v u)->Oo (Ot X.prog X.w) X.A (SF value slice v u) (EP X pins σ Q) X.xe s
def MtR(X:Cx)(id:String)(r:V->List V->Hp->VK->Prop):Prop:=
 ∀(pins:List (Addr×Obj)) (s:NL) (σ:St) (H:Hp) (x:V) (xs:List V) (v:NK) (us:List NK) (Q:VK),Inv X pins σ H s->RelV x v->Vals xs us->r x xs H Q ->
  Oo (Ot X.prog X.w) X.A (call (.builtin id) (v::us)) (EP X pins σ Q) X.xe s
section
variable {X:Cx}{a b:Expr}{ta tb:TE}{pos:Pos}
theorem IxR.or{r r':R2}(h:IxR X r)(h':IxR X r'):IxR X (fun x y H Q=>r x y H Q\/r' x y H Q):=by
 intro value slice pins s σ H x y v u Q I rx ry q hs
 rcases q with q|q
 .exact h value slice pins s σ H x y v u Q I rx ry q hs
 .exact h' value slice pins s σ H x y v u Q I rx ry q hs
theorem oh{r:R2}(hr:IxR X r)(ha:PE X a ta)(hb:PE X b tb)(hs:k6 b):PE X (.Subscript a b pos) (tOp r ta tb):=by
 intro pins s σ H Q I h;exact Uw (sJ ha hb I h fun v u s2 x y H2 I2 rx ry q=>hr a b pins s2 σ H2 x y v u Q I2 rx ry q (hs _ _))
def zA(K:Frag):R2:=fun x y H Q=>∃p xs i v,x=.ref p/\y=.int i/\SqL K H p xs/\atI xs i=some v/\Q v H
def zw(K:Frag):R2:=fun x y H Q=>∃p xs i v,x=.ref p/\y=.int i/\SqT K H p xs/\atI xs i=some v/\Q v H
def zy:R2:=fun x y H Q=>∃z i c,x=.str z/\y=.int i/\z.length<=NS/\atI z.cps.toList i=some c/\Q (.str ⟨#[c]⟩) H
theorem ix_list:IxR X (zA X.K):=by
 intro value slice pins s σ H x y v u Q I rx ry h hs;obtain⟨p,xs,i,z,rfl,rfl,hq,he,q⟩:=h;cases rx;obtain⟨t,rfl⟩:=ry;obtain⟨its,r,pl,hz⟩:=I.list hq;obtain⟨j,h1,h2,h3,h4,h5⟩:=qV he;obtain⟨w,ew,rw'⟩:=r.get h2;have hl:=r.length;have hn:=iU;have fin:EP X pins σ Q w s:=⟨z,H,I,rw',q⟩
 by_cases h0:0<=i
 .have hj:i.toNat=j:=by
   rw[Vh h0 h5] at h1;exact OL h1
  exact item_listR pl.isList h0 (by omega) (by rw[hj];simpa using ew) fin hs
 .have hj:(i+(its.toArray.size:Int)).toNat=j:=by
   rw[UJ (by omega) h4] at h1;rw[NX,←hl];exact OL h1
  exact S7 (x:=w) pl.isList.typeIs UK.lookup
   (wpAny_getItem_list_neg (Q:=fun r s'=>r=w/\EP X pins σ Q r s') pl.isList (by omega) (by rw[NX] <;> omega) (by omega) (by rw[hj];simpa using ew) ⟨rfl,fin⟩) hs
theorem ix_tup:IxR X (zw X.K):=by
 intro value slice pins s σ H x y v u Q I rx ry h hs;obtain⟨p,xs,i,z,rfl,rfl,hq,he,q⟩:=h;cases rx;obtain⟨t,rfl⟩:=ry;obtain⟨its,r,pl,hz⟩:=I.tuple hq;obtain⟨j,h1,h2,h3,h4,h5⟩:=qV he;obtain⟨w,ew,rw'⟩:=r.get h2;have hl:=r.length;have hn:=iU;have fin:EP X pins σ Q w s:=⟨z,H,I,rw',q⟩
 exact S7 (x:=w) pl.typeIs slot_tuple_getitem.lookup
  (getItem_tuple (j:=j) (Q:=fun r s'=>r=w/\EP X pins σ Q r s') pl (by omega) (by omega) (by rw[NX,←hl];exact h1) (by simpa using ew) ⟨rfl,fin⟩) hs
theorem GH:IxR X zy:=by
 intro value slice pins s σ H x y v u Q I rx ry h hs;obtain⟨z,i,c,rfl,rfl,hz,he,q⟩:=h;obtain⟨t,rfl⟩:=rx;obtain⟨t',rfl⟩:=ry;obtain⟨j,h1,h2,h3,h4,h5⟩:=qV he
 have hl:z.cps.toList.length=z.length:=by simp[S8]
 rw[hl] at h1 h4 h5;have hn:=iU
 exact tail_any (Rw s z t) slot_str_getitem.lookup (getItem_str (c:=c) (by
  have e1:decide (i < -(2^63:Int))=false:=decide_eq_false (by omega);have e2:decide (i>=2^63)=false:=decide_eq_false (by omega)
  rw[e1,e2,Wh]) (by rw[h1];simpa using h2) ⟨.str ⟨#[c]⟩,H,I.tok _,⟨_,rfl⟩,q⟩) hs
def rIx(K:Frag):R2:=fun x y H Q=>zA K x y H Q\/zw K x y H Q\/zy x y H Q
theorem GI:IxR X (rIx X.K):=ix_list.or (ix_tup.or GH)
theorem AZ(its:List NK)(n j:Nat)(u:NK):S9 (·.setIfInBounds j u) { cls:=.type "list",data:=.seq its.toArray n } = { cls:=.type "list",data:=.seq (its.set j u).toArray n }:=by simp[S9]
theorem Inv.lst{pins:List (Addr×Obj)}{σ:St}{H:Hp}{s:NL}{p:Addr}{xs:List V}(I:Inv X pins σ H s)(h:H p=some (.lst xs)) :
  ∃(its:List NK) (n:Nat),Vals xs its/\s.heap.get? p=some { cls:=.type "list",data:=.seq its.toArray n }/\xs.length<=sizeLine:=by
 obtain⟨z,its,n,r,e⟩:=I.hok p _ h;exact⟨its,n,r,e,z⟩
theorem Inv.lstUpd{pins:List (Addr×Obj)}{σ:St}{H:Hp}{s:NL}{p:Addr}{xs ys:List V}{its its':List NK}{n n':Nat}{f:Obj->Obj}(I:Inv X pins σ H s)(h:H p=some (.lst xs))
  (ho:s.heap.get? p=some { cls:=.type "list",data:=.seq its.toArray n }) (hf:f { cls:=.type "list",data:=.seq its.toArray n } = { cls:=.type "list",data:=.seq its'.toArray n' }) (r:Vals ys its') (hz:ys.length<=NS) (t:Nat) :
  Inv X pins σ (upd H p (.lst ys)) { s with heap:=s.heap.update p f,toks:=t }:=by
 have e:(s.heap.update p f).get? p=some { cls:=.type "list",data:=.seq its'.toArray n' }:=by
  rw[Heap.get?_update_self f ho (by rw[hf] <;> rfl),hf]
 refine I.write (x:=p) (e:=p) (by rw[h];trivial) (.inl rfl) (fun b u hb q=>(Ta _ _ (Qj hb)).trans q) ⟨_,e⟩ ?_;exact⟨hz,its',n',r,e⟩
def HI:V->V->V->Hp->(Hp->Prop)->Prop:=fun o i v H Q=>∃p xs k j,o=.ref p/\i=.int k/\H p=some (.lst xs)/\ixN xs.length k=some j/\Q (upd H p (.lst (xs.set j v)))
theorem set_list:zP X HI:=by
 intro pins s σ H o i v ov iv u Q I ro ri rv h;obtain⟨p,xs,k,j,rfl,rfl,hp,hj,q⟩:=h;cases ro;obtain⟨t,rfl⟩:=ri;obtain⟨its,n,r,ho,hz⟩:=I.lst hp;obtain⟨h1,h2,h3,h4⟩:=wN hj;have hl:=r.length;have hn:=iU
 have I':Inv X pins σ (upd H p (.lst (xs.set j v))) { s with heap:=s.heap.update p (S9 (·.setIfInBounds j u)) }:=
  I.lstUpd hp ho (AZ its n j u) (r.set rv j) (by rw[List.length_set];exact hz) s.toks
 by_cases h0:0<=k
 .have hk:k.toNat=j:=by
   rw[Vh h0 h4] at h1;exact OL h1
  exact PySem.W.ki_setAt ho h0 (by omega) (by rw[NX,←hl];exact h4) (by rw[hk];exact⟨_,I',q⟩)
 .have hk:(k+(its.toArray.size:Int)).toNat=j:=by
   rw[UJ (by omega) h3] at h1;rw[NX,←hl];exact OL h1
  exact PySem.W.ki_setBack ho (by omega) (by rw[NX,←hl];exact h3) (by omega) (by rw[hk];exact⟨_,I',q⟩)
theorem Ab(lo hi:Option Int)(n:Nat):(Re lo hi none n).1=((HT.sIx n 0 lo:Nat):Int)/\(Re lo hi none n).2.1=((HT.sIx n n hi:Nat):Int)/\(Re lo hi none n).2.2=1:=by
 refine⟨?_,?_,rfl⟩
 .cases lo with
  |none=>simp[Re,HT.sIx]
  |some i=>
   simp only[Re,HT.sIx,SN,show (1:Int)>0 by decide,if_true]
   by_cases h:i<0
   .simp only[h,if_true] <;> omega
   .simp only[h,if_false] <;> omega
 .cases hi with
  |none=>simp[Re,HT.sIx]
  |some i=>
   simp only[Re,HT.sIx,SN,show (1:Int)>0 by decide,if_true]
   by_cases h:i<0
   .simp only[h,if_true] <;> omega
   .simp only[h,if_false] <;> omega
theorem z6(its:List NK)(lo hi:Option Int):slicePick its.toArray lo hi none=((its.drop (HT.sIx its.length 0 lo)).take (HT.sIx its.length its.length hi-HT.sIx its.length 0 lo)).toArray:=by
 obtain⟨h1,h2,h3⟩:=Ab lo hi its.toArray.size;unfold slicePick;rw[h1,h2,h3]
 simp only[sliceRange_one,pick_run,NX] <;> rfl
def Jn(K:Frag):V->Option Int->Option Int->Hp->VK->Prop:=fun x lo hi H Q=>∃a xs,x=.ref a/\SqL K H a xs/\∀p,H p=none->Q (.ref p) (upd H p (.lst (gM xs lo hi)))
theorem sl_list:SlR X (Jn X.K):=by
 intro pins s σ H x v vl vu lo hi sl Q I rx hs pl pu h;obtain⟨a,xs,rfl,hx,q⟩:=h;cases rx;obtain⟨its,r,ht,hz⟩:=I.list hx;have hlen:=r.length;refine⟨"list",_,UK.lookup,ht.isList.typeIs,?_⟩;refine wpAny_getItem_list_slice ht.isList hs pl pu .none (by simp) ?_ (by rw[NX] <;> omega);rw[z6,←hlen];refine⟨.ref s.heap.objs.size,_,I.laid (t':=s.toks) (o:=.lst (gM xs lo hi)) (fun b ob q=>NO _ q) (NT _) ?_,rfl,q _ (I.hok.fresh (NT _))⟩;exact⟨Of (tE xs lo hi) hz,_,0,(r.drop (HT.sIx xs.length 0 lo)).take (HT.sIx xs.length xs.length hi-HT.sIx xs.length 0 lo),On _ rfl⟩
def f6:V->Bool
 |.non=>true
 |.bl _=>true
 |.int _=>true
 |.str _=>true
 |_=>false
def eqV:V->V->Bool
 |.non,.non=>true
 |.bl a,.bl b=>a == b
 |.bl a,.int b=>(if a then 1 else 0) == b
 |.int a,.bl b=>a == (if b then 1 else 0)
 |.int a,.int b=>a == b
 |.str a,.str b=>a == b
 |_,_=>false
theorem G4{A:OD}{s:NL}{y x:V}{u v:NK}(ry:RelV y u)(rx:RelV x v)(fy:f6 y=true)(fx:f6 x=true):WN A s u v (eqV y x):=by
 cases y with
 |non=>
  cases ry
  cases x with
  |non=>cases rx;exact Vo _
  |bl b=>cases rx;exact SeqAt.EqAt.none_bool b
  |int b=>obtain⟨t,rfl⟩:=rx;exact Ub b t
  |str b=>obtain⟨t,rfl⟩:=rx;exact Uc b t
  |_=>exact absurd (show false=true from fx) NZ
 |bl a=>
  cases ry
  cases x with
  |non=>cases rx;exact SeqAt.EqAt.bool_none a
  |bl b=>cases rx;exact SeqAt.EqAt.bool_bool a b
  |int b=>obtain⟨t,rfl⟩:=rx;exact SeqAt.EqAt.bool_int a b t
  |str b=>obtain⟨t,rfl⟩:=rx;exact SeqAt.EqAt.bool_str a b t
  |_=>exact absurd (show false=true from fx) NZ
 |int a=>
  obtain⟨t',rfl⟩:=ry
  cases x with
  |non=>cases rx;exact Ud a t'
  |bl b=>cases rx;exact SeqAt.EqAt.int_bool a t' b
  |int b=>obtain⟨t,rfl⟩:=rx;exact SeqAt.EqAt.int_int a t' b t
  |str b=>obtain⟨t,rfl⟩:=rx;exact RW a t' b t
  |_=>exact absurd (show false=true from fx) NZ
 |str a=>
  obtain⟨t',rfl⟩:=ry
  cases x with
  |non=>cases rx;exact Ue a t'
  |bl b=>cases rx;exact SeqAt.EqAt.str_bool a t' b
  |int b=>obtain⟨t,rfl⟩:=rx;exact RX a t' b t
  |str b=>obtain⟨t,rfl⟩:=rx;exact SeqAt.EqAt.str_str a t' b t
  |_=>exact absurd (show false=true from fx) NZ
 |_=>exact absurd (show false=true from fy) NZ
def eqU(x:V)(u:NK):Bool:=match u with
 |.none=>eqV .non x
 |.bool b=>eqV (.bl b) x
 |.int i _=>eqV (.int i) x
 |.str z _=>eqV (.str z) x
 |_=>false
theorem yh{x y:V}{u:NK}(r:RelV y u)(f:f6 y=true):eqU x u=eqV y x:=by
 cases y with
 |non=>cases r;rfl
 |bl b=>cases r;rfl
 |int i=>obtain⟨t,rfl⟩:=r;rfl
 |str z=>obtain⟨t,rfl⟩:=r;rfl
 |_=>exact absurd (show false=true from f) NZ
theorem kZ{x:V}:∀{xs:List V}{us:List NK},Vals xs us->xs.all f6=true->us.any (eqU x)=xs.any fun y=>eqV y x
 |_,_,.nil,_=>rfl
 |y::xs,u::us,.cons r t,f=>by
  rw[PH,NN] at f;rw[P3,P3,yh r f.1,kZ t f.2]
theorem kF{A:OD}{s:NL}{x:V}{v:NK}(rx:RelV x v)(fx:f6 x=true):∀{xs:List V}{us:List NK},Vals xs us->xs.all f6=true->∀u∈us,WN A s u v (eqU x u)
 |_,_,.nil,_=>fun u hu=>by cases hu
 |y::xs,u::us,.cons r t,f=>fun u' hu=>by
  rw[PH,NN] at f
  rcases NR.mp hu with rfl|hu
  .rw[yh r f.1];exact G4 r rx f.1 fx
  .exact kF rx fx t f.2 u' hu
def inV(x:V)(xs:List V):Bool:=xs.any fun y=>eqV y x
def rIn(K:Frag)(neg:Bool):R2:=fun x y H Q=>∃p xs,y=.ref p/\(SqL K H p xs\/SqT K H p xs)/\f6 x=true/\xs.all f6=true/\Q (.bl (if neg then !inV x xs else inV x xs)) H
theorem uy:OpR X (Oh .In) (rIn X.K false):=by
 intro pins s σ H x y v u Q I rx ry h;obtain⟨p,xs,rfl,hq,fx,fs,q⟩:=h;cases ry
 rcases hq with hq|hq
 .obtain⟨its,r,pl,hz⟩:=I.list hq
  refine SeqAt.in_listAt (eqU x) pl.isList (fun w hw=>kF rx fx r fs w (by simpa using hw)) ⟨.bl _,H,I,rfl,?_⟩;rw[show its.toArray.any (eqU x)=its.any (eqU x) by simp,kZ r fs];exact q
 .obtain⟨its,r,pl,hz⟩:=I.tuple hq
  refine U5 (eqU x) pl (fun w hw=>kF rx fx r fs w (by simpa using hw)) ⟨.bl _,H,I,rfl,?_⟩;rw[show its.toArray.any (eqU x)=its.any (eqU x) by simp,kZ r fs];exact q
theorem sZ:OpR X (Oh .NotIn) (rIn X.K true):=by
 intro pins s σ H x y v u Q I rx ry h;obtain⟨p,xs,rfl,hq,fx,fs,q⟩:=h;cases ry
 rcases hq with hq|hq
 .obtain⟨its,r,pl,hz⟩:=I.list hq
  refine SeqAt.notIn_listAt (eqU x) pl.isList (fun w hw=>kF rx fx r fs w (by simpa using hw)) ⟨.bl _,H,I,rfl,?_⟩;rw[show its.toArray.any (eqU x)=its.any (eqU x) by simp,kZ r fs];exact q
 .obtain⟨its,r,pl,hz⟩:=I.tuple hq
  refine SeqAt.notIn_tupleAt (eqU x) pl (fun w hw=>kF rx fx r fs w (by simpa using hw)) ⟨.bl _,H,I,rfl,?_⟩;rw[show its.toArray.any (eqU x)=its.any (eqU x) by simp,kZ r fs];exact q
theorem call_len_seq:CallR X (.builtin "len") (fun xs H Q=>∃p ys,xs=[.ref p]/\(SqL X.K H p ys\/SqT X.K H p ys)/\Q (.int ys.length) H):=by
 intro pins s σ H xs us Q I r h;obtain⟨p,ys,rfl,hq,q⟩:=h;obtain⟨u,rfl,rx⟩:=vals1 r;cases rx;have hn:=iU
 rcases hq with hq|hq
 .obtain⟨its,r',pl,hz⟩:=I.list hq
  have hlen:=r'.length;exact Calls.call_len_list pl.isList (by simp only[NX] <;> omega) ⟨.int ys.length,H,I.tok _,⟨s.toks+1,by rw[NX,hlen]⟩,q⟩
 .obtain⟨its,r',pl,hz⟩:=I.tuple hq
  have hlen:=r'.length;exact len_tuple pl (by simp only[NX] <;> omega) ⟨.int ys.length,H,I.tok _,⟨s.toks+1,by rw[NX,hlen]⟩,q⟩
theorem call_len_str:CallR X (.builtin "len") (fun xs H Q=>∃z,xs=[.str z]/\z.length<=NS/\Q (.int z.length) H):=by
 intro pins s σ H xs us Q I r h;obtain⟨z,rfl,hz,q⟩:=h;obtain⟨u,rfl,t,rfl⟩:=vals1 r;have hn:=iU;exact len_str (by omega) ⟨.int z.length,H,I.tok _,⟨_,rfl⟩,q⟩
theorem CallR.or{f:NK}{r r':List V->Hp->VK->Prop}(h:CallR X f r)(h':CallR X f r'):CallR X f (fun xs H Q=>r xs H Q\/r' xs H Q):=by
 intro pins s σ H xs us Q I rs q
 rcases q with q|q
 .exact h pins s σ H xs us Q I rs q
 .exact h' pins s σ H xs us Q I rs q
theorem call_list_of:CallR X (.type "list") (fun xs H Q=>∃p ys,xs=[.ref p]/\(SqL X.K H p ys\/SqT X.K H p ys)/\∀l,H l=none->Q (.ref l) (upd H l (.lst ys))):=by
 intro pins s σ H xs us Q I r h;obtain⟨p,ys,rfl,hq,q⟩:=h;obtain⟨u,rfl,rx⟩:=vals1 r;cases rx
 have fin:∀(its:List NK),Vals ys its->ys.length<=NS->∀(h':Heap) (c':Nat),(∀b o',s.heap.get? b=some o'->h'.get? b=some o') ->
   h'.get? s.heap.objs.size=some { cls:=.type "list",dict:=none,data:=.seq its.toArray c',slots:=#[] }->EP X pins σ Q (.ref s.heap.objs.size) { s with heap:=h' }:=fun its r' hz h' c' kp e=>
  ⟨.ref s.heap.objs.size,_,I.laid (t':=s.toks) kp (NT _) (show ObjOk X.prog X.w _ h' _ (.lst ys) from⟨hz,its,c',r',e⟩),rfl,q _ (I.hok.fresh (NT _))⟩
 rcases hq with hq|hq
 .obtain⟨its,r',pl,hz⟩:=I.list hq
  have hlen:=r'.length;obtain⟨o,ho,hc,n,hd⟩:=pl.isList;exact call_list_seq p (.inl rfl) ho hc hd (fun h' c' kp e=>fin its r' hz h' c' kp e) (by simp only[NX] <;> omega)
 .obtain⟨its,r',pl,hz⟩:=I.tuple hq
  have hlen:=r'.length;obtain⟨o,ho,hc,n,hd⟩:=pl;exact call_list_seq p (.inr rfl) ho hc hd (fun h' c' kp e=>fin its r' hz h' c' kp e) (by simp only[NX] <;> omega)
theorem sW:CallR X (.type "tuple") (fun xs H Q=>∃p ys,xs=[.ref p]/\((SqL X.K H p ys/\∀l,H l=none->Q (.ref l) (upd H l (.tup ys)))\/(SqT X.K H p ys/\Q (.ref p) H))):=by
 intro pins s σ H xs us Q I r h;obtain⟨p,ys,rfl,h⟩:=h;obtain⟨u,rfl,rx⟩:=vals1 r;cases rx
 rcases h with⟨hq,q⟩|⟨hq,q⟩
 .obtain⟨its,r',pl,hz⟩:=I.list hq
  have hlen:=r'.length;refine call_tuple_list pl.isList (fun h' kp=>?_) (by simp only[NX] <;> omega);have I1:Inv X pins σ H { s with heap:=h' }:=I.kept (t':=s.toks) kp
  have I2:Inv X pins σ (upd H h'.objs.size (.tup ys)) { s with heap:=h'.push { cls:=.type "tuple",data:=.seq its.toArray } }:=
   I1.laid (t':=s.toks) (fun b o e=>NO _ e) (NT _) (show ObjOk X.prog X.w _ _ _ (.tup ys) from⟨hz,its,r',SM _ _⟩)
  exact⟨.ref h'.objs.size,_,I2,rfl,q _ (I1.hok.fresh (NT _))⟩
 .obtain⟨its,r',pl,hz⟩:=I.tuple hq
  exact call_tuple_same pl ⟨.ref p,H,I,rfl,q⟩
def tyV(K:Frag)(T:String)(x:V)(H:Hp):Prop:=match x with
 |.str _=>T="str"
 |.int _=>T="int"
 |.ref p=>(T="list"/\∃xs,SqL K H p xs)\/(T="tuple"/\∃o,K.lookup p=some o/\o.cls=.type "tuple"/\o.dict=none) \/
   (T="dict"/\((∃kvs,H p=some (.dK kvs))\/∃kvs,H p=some (.dT kvs)))\/(T="set"/\∃S n,H p=some (.set S n))
 |_=>False
theorem nF{pins:List (Addr×Obj)}{σ:St}{H:Hp}{s:NL}{T:String}{x:V}{v:NK}(I:Inv X pins σ H s)(r:RelV x v)(ty:tyV X.K T x H) :
  s.TypeIs v T/\∀a,v=.ref a->∃ob,s.heap.get? a=some ob/\ob.dict=none:=by
 cases x with
 |str z=>
  obtain⟨t,rfl⟩:=r;cases (show T="str" from ty);exact⟨Rw s z t,fun _ e=>nomatch e⟩
 |int i=>
  obtain⟨t,rfl⟩:=r;cases (show T="int" from ty);exact⟨Tb s i t,fun _ e=>nomatch e⟩
 |ref p=>
  cases r
  rcases ty with⟨rfl,xs,hq⟩|⟨rfl,o,hk,hc,hd⟩|⟨rfl,hk⟩|⟨rfl,S,n,hk⟩
  .obtain⟨its,_,pl,_⟩:=I.list hq
   refine⟨pl.isList.typeIs,fun a e=>?_⟩;cases e;obtain⟨o,n,e,c,hd,_⟩:=pl;exact⟨o,e,hd⟩
  .refine⟨⟨o,I.kIn p o hk,hc⟩,fun a e=>?_⟩
   cases e;exact⟨o,I.kIn _ o hk,hd⟩
  .have z:∃o,s.heap.get? p=some o/\o.ExactDict:=by
    rcases hk with⟨kvs,hk⟩|⟨kvs,hk⟩
    .obtain⟨_,_,_,_,o,_,_,e,ex,_⟩:=I.hok p _ hk
     exact⟨o,e,ex⟩
    .obtain⟨_,_,_,_,o,_,_,e,ex,_⟩:=I.hok p _ hk
     exact⟨o,e,ex⟩
   obtain⟨o,e,ex⟩:=z;refine⟨⟨o,e,ex.1⟩,fun a e2=>?_⟩;cases e2;exact⟨o,e,ex.2.1⟩
  .obtain⟨o,_,_,_,e,ex,_⟩:=I.hok p _ hk
   refine⟨⟨o,e,ex.1⟩,fun a e2=>?_⟩;cases e2;exact⟨o,e,ex.2.1⟩
 |_=>exact Qy ty
def Jh(K:Frag)(T:String)(r:V->List V->Hp->VK->Prop)(to:TE):TE:=fun σ H Q=>to σ H fun x H1=>tyV K T x H1/\r x [] H1 Q
def tBM(K:Frag)(T:String)(r:V->List V->Hp->VK->Prop)(to:TE)(t:TA):TE:=fun σ H Q=>to σ H fun x H1=>tyV K T x H1/\t σ H1 fun xs H2=>r x xs H2 Q
variable {o e:Expr}{es:List Expr}{to:TE}{t:TA}{name:Str}{apos cpos:Pos}{T id:String}{r:V->List V->Hp->VK->Prop}
theorem xU(pa:VI T)(slot:Slot T name id)(hty:typeOf (.builtin id)=pure (.type "method_descriptor"))(hm:MtR X id r)(ho:PE X o to)
  (hbase:O8 o name X.env (eval o X.env)=eval o X.env:=by rfl) (hline:(apos.endLine == cpos.line)=true:=by rfl):PE X (.Call (.Attribute o name apos) [] [] cpos) (Jh X.K T r to):=by
 intro pins s σ H Q I h;refine wpAny_Call_method0_late hbase hline (thn (ho pins s σ H _ I h) fun v s1 ⟨x,H1,I1,r1,ty,q1⟩=>?_);obtain⟨h1,h2⟩:=nF I1 r1 ty;exact⟨T,id,pa,slot,hty,h1,h2,Qz rfl (PySem.evalArgs_none (hm pins s1 σ H1 x [] v [] Q I1 r1 .nil q1))⟩
theorem lK(pa:VI T)(slot:Slot T name id)(hty:typeOf (.builtin id)=pure (.type "method_descriptor"))(hm:MtR X id r)(ho:PE X o to)(ha:PA X (e::es) t)
  (hbase:O8 o name X.env (eval o X.env)=eval o X.env:=by rfl)
  (hfew:((O4 cpos (NU (e::es) X.env)).all (fun x=>!x.1)&&(QE cpos (PV [] X.env)).all (fun x=>x.1.isSome)
   && decide ((e::es).length+([]:List Pw).length+(if ([]:List Pw).isEmpty then 0 else 1)<30))=true:=by rfl)
  (hline:(apos.endLine == cpos.line)=true:=by rfl) (hs:NU (e::es) X.env=(false,eval e X.env)::NU es X.env:=by rfl) (hplain:(O4 cpos (NU es X.env)).any (·.1)=false:=by rfl) :
  PE X (.Call (.Attribute o name apos) (e::es) [] cpos) (tBM X.K T r to t):=by
 intro pins s σ H Q I h;refine Rk hbase hfew hline rfl (thn (ho pins s σ H _ I h) fun v s1 ⟨x,H1,I1,r1,ty,q1⟩=>?_);obtain⟨h1,h2⟩:=nF I1 r1 ty;refine⟨T,id,pa,slot,hty,h1,h2,?_⟩;have hA:=ha cpos pins s1 σ H1 _ I1 q1;rw[hs] at hA ⊢;refine Qz (by show (false||(O4 cpos (NU es X.env)).any (·.1))=false;rw[hplain] <;> rfl) (RC ?_);exact thn hA fun us s2 ⟨vs,H2,I2,r2,q2⟩=>hm pins s2 σ H2 x vs v us Q I2 r1 r2 q2
end
def MtM(X:Cx)(id:String)(r:V->List V->Hp->VK->Prop):Prop:=
 ∀(pins:List (Addr×Obj)) (s:NL) (σ:St) (H:Hp) (x:V) (xs:List V) (v:NK) (us:List NK) (Q:VK),Inv X pins σ H s->RelV x v->Vals xs us->r x xs H Q ->
  Oo (Ot X.prog X.w) X.A (call (.builtin id) (v::us)) (EP X pins σ Q) X.xe s
theorem Vals.one:∀{x:V}{us:List NK},Vals [x] us->∃u,us=[u]/\RelV x u
 |_,_,.cons r .nil=>⟨_,rfl,r⟩
theorem Vals.zero:∀{us:List NK},Vals [] us->us=[]
 |_,.nil=>rfl
theorem Vals.dropLast{xs:List V}{us:List NK}(h:Vals xs us):Vals xs.dropLast us.dropLast:=by
 induction h with
 |nil=>exact .nil
 |cons r t ih=>
  cases t with
  |nil=>exact .nil
  |cons q t'=>exact .cons r ih
theorem Vals.reverse{xs:List V}{us:List NK}(h:Vals xs us):Vals xs.reverse us.reverse:=by
 induction h with
 |nil=>exact .nil
 |cons r t ih=>rw[OX,OX];exact Vals.append ih (.cons r .nil)
theorem Vals.rep{xs:List V}{us:List NK}(h:Vals xs us):∀k:Nat,Vals (Oq k xs).flatten (Oq k us).flatten
 |0=>.nil
 |k+1=>by
  rw[PP,PP,Qk,Qk];exact Vals.append h (Vals.rep h k)
theorem Ba{α:Type}(l:List α):l.eraseIdx (l.length-1)=l.dropLast:=by
 induction l with
 |nil=>rfl
 |cons a r ih=>
  cases r with
  |nil=>rfl
  |cons b r=>
   have e:(a::b::r).length-1=((b::r).length-1)+1:=by
    have h1:(a::b::r).length=r.length+2:=rfl;have h2:(b::r).length=r.length+1:=rfl;omega
   rw[e,List.eraseIdx_cons_succ,ih]
   all_goals rfl
theorem foldl_rep(its:List NK):∀(k:Nat) (acc:List NK),
  Sb (fun x1 x2=>x1++x2) acc.toArray (Oq k its.toArray)=(acc++(Oq k its).flatten).toArray
 |0,acc=>by simp
 |k+1,acc=>by
  have e:acc.toArray++its.toArray=(acc++its).toArray:=by simp
  have e2:(acc++its)++(Oq k its).flatten=acc++(Oq (k+1) its).flatten:=by
   rw[PP,Qk,QJ]
  rw[←e2,←foldl_rep its k (acc++its),←e,PP,Vp]
section
variable {X:Cx}{pins:List (Addr×Obj)}{σ:St}{H:Hp}{s:NL}{l b:Addr}{xs ys zs:List V}
theorem Inv.lset{its its':List NK}{n:Nat}{f:Array NK->Array NK}{t':Nat}(I:Inv X pins σ H s)(hH:H l=some (.lst xs))
  (e:s.heap.get? l=some { cls:=.type "list",data:=.seq its.toArray n }) (hf:f its.toArray=its'.toArray) (hv:Vals ys its') (hz:ys.length<=NS) :
  Inv X pins σ (upd H l (.lst ys)) { s with heap:=s.heap.update l (S9 f),toks:=t' }:=by
 have q:=PySem.IsL.update e f;rw[hf] at q;refine I.write (x:=l) (e:=l) (by rw[hH];exact trivial) (.inl rfl) (fun b' u hb hu=>(Ta s.heap (S9 f) (Qj hb)).trans hu) ⟨_,q⟩ ?_;exact⟨hz,its',_,hv,q⟩
theorem Inv.lnew{its:List NK}{t':Nat}(I:Inv X pins σ H s)(hv:Vals ys its)(hz:ys.length<=NS) :
  Inv X pins σ (upd H s.heap.objs.size (.lst ys)) { s with heap:=s.heap.push { cls:=.type "list",data:=.seq its.toArray },toks:=t' }:=I.laid (fun _ _ q=>NO _ q) (NT _) ⟨hz,its,0,hv,On _ rfl⟩
theorem Inv.fresh(I:Inv X pins σ H s):H s.heap.objs.size=none:=I.hok.fresh (NT _)
theorem Inv.lstM(I:Inv X pins σ H s)(hH:H l=some (.lst xs)):xs.length<=NS/\∃(its:List NK) (n:Nat),Vals xs its/\xs.length=its.length/\s.heap.get? l=some { cls:=.type "list",data:=.seq its.toArray n }:=by
 obtain⟨z,its,n,r,e⟩:=I.hok l _ hH;exact⟨z,its,n,r,r.length,e⟩
end
section
variable {X:Cx}
def D3:V->List V->Hp->VK->Prop:=fun x vs H Q=>∃l xs y,x=.ref l/\vs=[y]/\H l=some (.lst xs)/\xs.length<NS/\Q .non (upd H l (.lst (xs++[y])))
theorem pU:MtM X "list.append" D3:=by
 intro pins s σ H x vs v us Q I rx rv h;obtain⟨l,xs,y,rfl,rfl,hH,hz,q⟩:=h;cases rx;obtain⟨u,rfl,ru⟩:=rv.one;obtain⟨z,its,n,r,hl,e⟩:=I.lstM hH;refine QO F.slot_list_append ⟨_,e,rfl⟩ F.entry_list_append (F.args_list_append_2 _ _) (PySem.list_append l its.toArray n u (by rw[NX];omega)) ⟨e,?_⟩;refine⟨.non,_,I.lset (its':=its++[u]) hH e (by simp) (r.append (.cons ru .nil)) ?_,rfl,q⟩;rw[OR,List.length_singleton];omega
def Jo:V->List V->Hp->VK->Prop:=fun x vs H Q=>∃l xs y,x=.ref l/\vs=[]/\H l=some (.lst xs)/\xs[xs.length-1]? = some y/\Q y (upd H l (.lst xs.dropLast))
theorem GD:MtM X "list.pop" Jo:=by
 intro pins s σ H x vs v us Q I rx rv h;obtain⟨l,xs,y,rfl,rfl,hH,hy,q⟩:=h;cases rx;have hus:=rv.zero;subst hus;obtain⟨z,its,n,r,hl,e⟩:=I.lstM hH;obtain⟨u,hu,ru⟩:=r.get hy
 have hy':its.toArray[its.toArray.size-1]? = some u:=by
  show its.toArray[its.length-1]? = some u;rw[←Array.getElem?_toList,←hl];exact hu
 refine QO F.slot_list_pop ⟨_,e,rfl⟩ F.entry_list_pop (F.args_list_pop_1 _) (MeetsSeq.list_pop_last l its.toArray n u hy' (by rw[NX];omega)) ⟨e,?_⟩;refine⟨y,_,I.lset (its':=its.dropLast) hH e ?_ r.dropLast ?_,ru,q⟩
 .show its.toArray.eraseIdxIfInBounds (its.toArray.size-1)=its.dropLast.toArray
  rw[NX,List.eraseIdxIfInBounds_toArray,Ba]
 .rw[List.length_dropLast]
  omega
theorem len_rep{α:Type}(xs:List α)(k:Nat):(Oq k xs).flatten.length=k*xs.length:=by
 induction k with
 |zero=>simp
 |succ k ih=>rw[PP,Qk,OR,ih,Nat.succ_mul,Nat.add_comm]
end
section
variable {prog:Og}{w:Ow}{A:OD}{E:NK->NL->Prop}{s:NL}
end
section
variable {X:Cx}
end
section
variable {κ:Type}[DecidableEq κ]
def bV(kvs:List (κ×V))(k:κ):Option V:=(kvs.find? fun kv=>decide (kv.1=k)).map (·.2)
def putK(kvs:List (κ×V))(k:κ)(v:V):List (κ×V):=if (kvs.any fun kv=>decide (kv.1=k))=true then kvs.map (fun kv=>if kv.1=k then (kv.1,v) else kv) else kvs++[(k,v)]
theorem qc{p:κ×V}{r:List (κ×V)}{k:κ}(e:p.1=k):bV (p::r) k=some p.2:=by simp[bV,Pd,e]
theorem qd{p:κ×V}{r:List (κ×V)}{k:κ}(e:¬p.1=k):bV (p::r) k=bV r k:=by simp[bV,Pd,e]
theorem qe(k:κ):∀kvs:List (κ×V),(kvs.any fun kv=>decide (kv.1=k))=(bV kvs k).isSome
 |[]=>rfl
 |p::r=>by
  rw[P3]
  by_cases e:p.1=k
  .simp only[qc e,decide_eq_true e,Bool.true_or,Option.isSome_some]
  .rw[qd e,decide_eq_false e,Bool.false_or];exact qe k r
theorem pj(kvs:List (κ×V))(k:κ)(v:V):(putK kvs k v).length<=kvs.length+1:=by
 unfold putK;split
 .rw[OV];omega
 .rw[OR,Ou,Q5];omega
theorem Cm{kvs:List (κ×V)}{k:κ}(v:V)(h:bV kvs k=none):putK kvs k v=kvs++[(k,v)]:=by
 unfold putK;rw[qe,h];exact if_neg (by decide)
theorem RelO.isSome_eq{o:Option V}{u:Option NK}(r:RelO o u):o.isSome=u.isSome:=by
 cases o with
 |none=>cases u with
  |none=>rfl
  |some _=>exact(show False from r).elim
 |some _=>cases u with
  |none=>exact(show False from r).elim
  |some _=>rfl
theorem KV.val{kvs:List (κ×V)}{vs:List (κ×NK)}(r:KV kvs vs)(k:κ):RelO (bV kvs k) (Sy vs k):=by
 unfold KV at r
 induction r with
 |nil=>exact Qq
 |@cons p q ps qs h t ih=>
  obtain⟨h1,h2⟩:=h
  by_cases e:p.1=k
  .have e':q.1=k:=h1.symm.trans e
   have b:Sy (q::qs) k=some q.2:=by simp[Sy,Pd,e']
   rw[qc e,b];exact h2
  .have e':¬q.1=k:=fun z=>e (h1.trans z)
   have b:Sy (q::qs) k=Sy qs k:=by simp[Sy,Pd,e']
   rw[qd e,b];exact ih
theorem KV.any{kvs:List (κ×V)}{vs:List (κ×NK)}(r:KV kvs vs)(k:κ):(kvs.any fun kv=>decide (kv.1=k))=vs.any fun kv=>decide (kv.1=k):=by
 unfold KV at r
 induction r with
 |nil=>rfl
 |cons h t ih=>rw[P3,P3,ih,h.1]
theorem KV.repl{kvs:List (κ×V)}{vs:List (κ×NK)}(r:KV kvs vs)(k:κ){y:V}{u:NK}(ry:RelV y u) :
  KV (kvs.map fun kv=>if kv.1=k then (kv.1,y) else kv) (vs.map fun kv=>if kv.1=k then (kv.1,u) else kv):=by
 unfold KV at r ⊢
 induction r with
 |nil=>exact .nil
 |@cons p q ps qs h t ih=>
  rw[Oi,Oi];refine .cons ?_ ih;obtain⟨h1,h2⟩:=h
  by_cases e:p.1=k
  .rw[if_pos e,if_pos (h1.symm.trans e)];exact⟨h1,ry⟩
  .rw[if_neg e,if_neg (fun z=>e (h1.trans z))];exact⟨h1,h2⟩
theorem KV.put{kvs:List (κ×V)}{vs:List (κ×NK)}(r:KV kvs vs)(k:κ){y:V}{u:NK}(ry:RelV y u):KV (putK kvs k y) (stored vs k u):=by
 unfold putK stored;rw[r.any k]
 by_cases e:(vs.any fun kv=>decide (kv.1=k))=true
 .rw[if_pos e,if_pos e];exact r.repl k ry
 .rw[if_neg e,if_neg e];exact WJ r ⟨rfl,ry⟩
theorem KV.keys{kvs:List (κ×V)}{vs:List (κ×NK)}(r:KV kvs vs):kvs.map (·.1)=vs.map (·.1):=by
 unfold KV at r
 induction r with
 |nil=>rfl
 |cons h t ih=>rw[Oi,Oi,ih,h.1]
theorem KV.length{kvs:List (κ×V)}{vs:List (κ×NK)}(r:KV kvs vs):kvs.length=vs.length:=QW r
end
theorem jO{P:Og}{w:Ow}{k:Key}{u:NK}(r:RelV (kV k) u):(cb P w).is k u=true:=by
 cases k with
 |inl i=>obtain⟨t,e⟩:=(show ∃t,u=TY i t from r);subst e;exact Am P w i t
 |inr x=>obtain⟨t,e⟩:=(show ∃t,u=SJ x t from r);subst e;exact Ak P w x t
theorem uE{P:Og}{w:Ow}:∀{ks:List Key}{us:List NK},Vals (ks.map kV) us->ItemsAre (cb P w) ks us
 |[],_,r=>by rw[Tc] at r;cases r;exact .nil
 |k::ks,_,r=>by
  rw[Oi] at r
  cases r with
  |cons h t=>exact .cons (jO h) (uE t)
abbrev KT(H:Hp):List (List Key×V)->List (List Key×Addr×NK)->Prop:=Tx fun p q=>p.1=q.1/\H q.2.1=some (.tup (p.1.map kV))/\RelV p.2 q.2.2
theorem KT.val{H:Hp}{kvs:List (List Key×V)}{xs:List (List Key×Addr×NK)}(r:KT H kvs xs)(k:List Key):RelO (bV kvs k) ((Vi xs k).map (·.2)):=by
 induction r with
 |nil=>exact Qq
 |@cons p q ps qs h t ih=>
  obtain⟨h1,_,h2⟩:=h
  by_cases e:p.1=k
  .have e':q.1=k:=h1.symm.trans e
   have b:Vi (q::qs) k=some q.2:=by simp[Vi,Pd,e']
   rw[qc e,b];exact h2
  .have e':¬q.1=k:=fun z=>e (h1.trans z)
   have b:Vi (q::qs) k=Vi qs k:=by simp[Vi,Pd,e']
   rw[qd e,b];exact ih
theorem KT.repl{H:Hp}{kvs:List (List Key×V)}{xs:List (List Key×Addr×NK)}(r:KT H kvs xs)(k:List Key){y:V}{u:NK}(ry:RelV y u) :
  KT H (kvs.map fun kv=>if kv.1=k then (kv.1,y) else kv) (xs.map (putAt k u)):=by
 induction r with
 |nil=>exact .nil
 |@cons p q ps qs h t ih=>
  rw[Oi,Oi];refine .cons ?_ ih;obtain⟨h1,h2,h3⟩:=h;unfold putAt
  by_cases e:p.1=k
  .rw[if_pos e,if_pos (h1.symm.trans e)];exact⟨h1,h2,ry⟩
  .rw[if_neg e,if_neg (fun z=>e (h1.trans z))];exact⟨h1,h2,h3⟩
theorem KT.put{H:Hp}{kvs:List (List Key×V)}{xs:List (List Key×Addr×NK)}(r:KT H kvs xs)(k:List Key){b:Addr}{y:V}{u:NK}(hb:H b=some (.tup (k.map kV)))(ry:RelV y u) :
  KT H (putK kvs k y) (storedH xs k b u):=by
 have e:(kvs.any fun kv=>decide (kv.1=k))=(Vi xs k).isSome:=by
  rw[qe,(r.val k).isSome_eq,Rl]
 unfold putK storedH;rw[e]
 by_cases q:(Vi xs k).isSome=true
 .rw[if_pos q,if_pos q];exact r.repl k ry
 .rw[if_neg q,if_neg q];exact WJ r ⟨rfl,hb,ry⟩
theorem KT.keeps{H H':Hp}{kvs:List (List Key×V)}{xs:List (List Key×Addr×NK)}(r:KT H kvs xs)(ht:∀b ys,H b=some (.tup ys)->H' b=some (.tup ys)):KT H' kvs xs:=Paired.mapP r fun _ _ z=>⟨z.1,ht _ _ z.2.1,z.2.2⟩
section
variable {P:Og}{w:Ow}{H:Hp}{h:Heap}{a:Addr}
theorem yG{u:HO}(ok:HOk P w H h)(e:Rd H a u):ObjOk P w H h a u:=e.ok ok
theorem fB{kvs:List (Key×V)}(ok:HOk P w H h)(e:Rd H a (.dK kvs)):kvs.length<=NS/\(a == Pz)=false/\∃vs,KV kvs vs/\h.DictOf (cb P w) a vs:=show ObjOk P w H h a (.dK kvs) from yG ok e
theorem yW{kvs:List (Key×V)}(ok:HOk P w H h)(e:H a=some (.dK kvs)):kvs.length<=NS/\(a == Pz)=false/\∃vs,KV kvs vs/\h.DictOf (cb P w) a vs:=fB ok (.inl e)
theorem lq{ks:List Key}(ok:HOk P w H h)(e:H a=some (.tup (ks.map kV))):(TZ (cb P w)).is h ks a:=by
 obtain⟨_,its,r,o,h1,h2,n,h3⟩:=(show ObjOk P w H h a (.tup (ks.map kV)) from ok a _ e);exact⟨o,its.toArray,n,h1,h2,h3,by simpa using uE r⟩
theorem lU{kvs:List (List Key×V)}(ok:HOk P w H h)(e:Rd H a (.dT kvs)):kvs.length<=NS/\(a == Pz)=false /\
  ∃xs,KT H kvs xs/\h.DictOfH (TZ (cb P w)) a xs:=by
 obtain⟨z,y,xs,r,o,es,ep,h1,h2,h3,h4,h5⟩:=(show ObjOk P w H h a (.dT kvs) from yG ok e);refine⟨z,y,xs,r,o,es,ep,h1,h2,h3,h4,fun x hx=>?_,h5⟩
 have all:∀{l:List (List Key×V)}{m:List (List Key×Addr×NK)},KT H l m->∀x∈m,(TZ (cb P w)).is h x.1 x.2.1:=by
  intro l m q
  induction q with
  |nil=>intro x hx;exact nomatch hx
  |@cons p q ps qs hq t ih=>
   intro x hx
   rcases NR.mp hx with e|hx
   .subst e
    exact lq ok (by rw[←hq.1];exact hq.2.1)
   .exact ih x hx
 exact all r x hx
theorem IF{kvs:List (List Key×V)}(ok:HOk P w H h)(e:H a=some (.dT kvs)):kvs.length<=NS/\(a == Pz)=false /\
  ∃xs,KT H kvs xs/\h.DictOfH (TZ (cb P w)) a xs:=lU ok (.inl e)
end
def DGet(H:Hp)(a:Addr)(y:V)(r:Option V):Prop:=(∃kvs k,Rd H a (.dK kvs)/\y=kV k/\r=bV kvs k)\/∃kvs k b,Rd H a (.dT kvs)/\y=.ref b/\H b=some (.tup (k.map kV))/\r=bV kvs k
def DPut(H:Hp)(a:Addr)(y v:V)(H':Hp):Prop:=
 (∃kvs k,H a=some (.dK kvs)/\y=kV k/\kvs.length<NS/\H'=upd H a (.dK (putK kvs k v))) \/
 ∃kvs k b,H a=some (.dT kvs)/\y=.ref b/\H b=some (.tup (k.map kV))/\kvs.length<NS/\H'=upd H a (.dT (putK kvs k v))
theorem DPut.k{H:Hp}{a:Addr}{kvs:List (Key×V)}{k:Key}{v:V}(e:H a=some (.dK kvs))(hl:kvs.length<NS):DPut H a (kV k) v (upd H a (.dK (putK kvs k v))):=.inl ⟨kvs,k,e,rfl,hl,rfl⟩
section
variable {X:Cx}{pins:List (Addr×Obj)}{σ:St}{H:Hp}{s:NL}{a:Addr}{y v:V}{u r:NK}{o:Option V}{A:OD}{E:NK->NL->Prop}
theorem Inv.big(I:Inv X pins σ H s):Pz<s.heap.objs.size:=by
 have h:OG<s.heap.objs.size:=(I.mod.glob.keeps I.bk).lt;exact Td (by decide) h
theorem uK{Q:NK->NL->Prop}(hu:A.units+1<UE)(I:Inv X pins σ H s)(g:DGet H a y (some v))(ry:RelV y u)(h:∀w' s',Inv X pins σ H s'->RelV v w'->Q w' s') :
  Oo (Ot X.prog X.w) A (Q4 (.ref a) u) Q E s:=by
 rcases g with⟨kvs,k,e,ey,l⟩|⟨kvs,k,b,e,ey,eb,l⟩
 .subst ey
  obtain⟨z,hd,vs,rel,dd⟩:=fB I.hok e;obtain⟨w',hw,rw'⟩:=RelO.some_of (v:=v) (o:=Sy vs k) (by rw[l];exact rel.val k);exact wpAny_getItem_of (jO ry) dd.mapOf hw (h w' _ (I.tok _) rw')
 .subst ey
  cases (show u=OT b from ry);obtain⟨z,hd,xs,rel,dd⟩:=lU I.hok e;obtain⟨w',hw,rw'⟩:=RelO.some_of (v:=v) (o:=(Vi xs k).map (·.2)) (by rw[l];exact rel.val k);obtain⟨p,hp,hp2⟩:=Ol.mp hw;refine wpAny_getItem_heap (Q8 hu) (lq I.hok eb) dd hp ?_;rw[hp2];exact h w' _ (I.tok _) rw'
theorem zJ{Q:NK->NL->Prop}(hu:A.units+1<UE)(I:Inv X pins σ H s)(g:DGet H a y o)(ry:RelV y u)(h:∀s',Inv X pins σ H s'->Q (.bool o.isSome) s') :
  Oo (Ot X.prog X.w) A (Oh .In u (.ref a)) Q E s:=by
 rcases g with⟨kvs,k,e,ey,l⟩|⟨kvs,k,b,e,ey,eb,l⟩
 .subst ey
  obtain⟨z,hd,vs,rel,dd⟩:=fB I.hok e;refine wpAny_in_of (jO ry) hd dd.mapOf ?_;rw[←(rel.val k).isSome_eq,←l];exact h _ (I.tok _)
 .subst ey
  cases (show u=OT b from ry);obtain⟨z,hd,xs,rel,dd⟩:=lU I.hok e;refine wpAny_in_heap (Q8 hu) (lq I.hok eb) hd dd ?_;have q:=(rel.val k).isSome_eq;rw[Rl] at q;rw[←q,←l];exact h _ (I.tok _)
theorem E9{Q:NK->NL->Prop}(hu:A.units+1<UE)(I:Inv X pins σ H s)(g:DGet H a y o)(ry:RelV y u)(h:∀s',Inv X pins σ H s'->Q (.bool (!o.isSome)) s') :
  Oo (Ot X.prog X.w) A (Oh .NotIn u (.ref a)) Q E s:=by
 rcases g with⟨kvs,k,e,ey,l⟩|⟨kvs,k,b,e,ey,eb,l⟩
 .subst ey
  obtain⟨z,hd,vs,rel,dd⟩:=fB I.hok e;refine wpAny_notIn_of (jO ry) hd dd.mapOf ?_;rw[←(rel.val k).isSome_eq,←l];exact h _ (I.tok _)
 .subst ey
  cases (show u=OT b from ry);obtain⟨z,hd,xs,rel,dd⟩:=lU I.hok e;refine wpAny_notIn_heap (Q8 hu) (lq I.hok eb) hd dd ?_;have q:=(rel.val k).isSome_eq;rw[Rl] at q;rw[←q,←l];exact h _ (I.tok _)
theorem qR{h':Heap}{t':Nat}{ob:HO}(I:Inv X pins σ H s)(mu:Mut (H a))(hs:Rh a s.heap h')(he:∃q,h'.get? a=some q)(new:ObjOk X.prog X.w (upd H a ob) h' a ob) :
  Inv X pins σ (upd H a ob) { s with heap:=h',toks:=t' }:=I.write (x:=a) (e:=a) mu (.inl rfl) (fun b q hb z=>(hs.2 b hb).trans z) he new
theorem rN{P:Og}{w:Ow}{H':Hp}{h':Heap}{kvs:List (Key×V)}{vs:List (Key×NK)}(z:kvs.length<=NS)(hd:(a == Pz)=false)(rel:KV kvs vs)(dd:h'.DictOf (cb P w) a vs) :
  ObjOk P w H' h' a (.dK kvs):=⟨z,hd,vs,rel,dd⟩
theorem B3{H':Hp}{Q:Unit->NL->Prop}(hu:A.units+1<UE)(I:Inv X pins σ H s)(g:DPut H a y v H')(ry:RelV y u)(rv:RelV v r)(h:∀s',Inv X pins σ H' s'->Q () s') :
  Oo (Ot X.prog X.w) A (Wt (.ref a) u r) Q E s:=by
 rcases g with⟨kvs,k,e,ey,l,eH⟩|⟨kvs,k,b,e,ey,eb,l,eH⟩
 .subst ey eH
  obtain⟨z,hd,vs,rel,dd⟩:=yW I.hok e
  have hz:vs.length<=sizeLine:=by rw[←rel.length];exact z
  have hl:(putK kvs k v).length<=sizeLine:=by have:=pj kvs k v;omega
  refine wpAny_setItem_pairs (hsz:=hz) (jO ry) dd fun h' dd' hs=>h _ ?_
  have he:∃q,h'.get? a=some q:=let ⟨q,_,_,hq,_⟩:=dd';⟨q,hq⟩
  exact qR I (by rw[e];exact Qq) hs he (rN hl hd (rel.put k rv) dd')
 .subst ey eH
  cases (show u=OT b from ry);obtain⟨z,hd,xs,rel,dd⟩:=IF I.hok e
  have hz:xs.length<=sizeLine:=by rw[←QW rel];exact z
  have hl:(putK kvs k v).length<=sizeLine:=by have:=pj kvs k v;omega
  refine wpAny_setItem_heap (hsz:=hz) (Q8 hu) (lq I.hok eb) dd fun h' dd' hs=>h _ ?_;obtain⟨q,es,ep,hq,h2,h3,h4,_,h5⟩:=dd';refine qR I (by rw[e];exact Qq) hs ⟨q,hq⟩ ⟨hl,hd,_,(rel.put k eb rv).keeps fun c ys ec=>?_,q,es,ep,hq,h2,h3,h4,h5⟩;rw[aS (Ii ec e (fun z=>nomatch z))];exact ec
end
section
variable {X:Cx}{pins:List (Addr×Obj)}{σ:St}{H:Hp}{s:NL}{a:Addr}{kvs:List (Key×V)}{k:Key}{u:NK}{A:OD}{E:NK->NL->Prop}
theorem IM{Q:NK->NL->Prop}(I:Inv X pins σ H s)(e:Rd H a (.dK kvs))(h:∀t s',Inv X pins σ H s'->Q (.int kvs.length t) s'):Oo (Ot X.prog X.w) A (call (.builtin "len") [.ref a]) Q E s:=by
 obtain⟨z,hd,vs,rel,dd⟩:=fB I.hok e;refine call_len_dict hd dd (by rw[←rel.length];rw[TB] at z;omega) ?_;rw[←rel.length];exact h _ _ (I.tok _)
end
def sO(i:Expr):Prop:=∀ov iv,Sx i false ov iv=operate [ov,iv] (Q4 ov iv)
theorem DU{prog:Og}{w:Ow}{A:OD}{E:NK->NL->Prop}{s:NL}{env:Env}{value slice:Expr}{pos:Pos}{T id:String}{Q:NK->NL->Prop}
  (hl:typeLookup (.type T) "__getitem__"=pure (some (.builtin id))) (hs:sO slice)
  (h:Oo (Ot prog w) A (eval value env) (fun o s₁=>Oo (Ot prog w) A (eval slice env) (fun i s₂=>s₂.TypeIs o T/\Oo (Ot prog w) A (Q4 o i) Q E s₂) E s₁) E s) :
  Oo (Ot prog w) A (eval (.Subscript value slice pos) env) Q E s:=by
 refine Uw (PX h (fun o s₁ h₁=>PX h₁ (fun i s₂ h₂=>?_) fun _ _ x=>x) fun _ _ x=>x);obtain⟨hT,h₂⟩:=h₂;unfold SF;refine NP ?_;rw[Tt hT.not_modules];refine NP (Vq hT hl ?_)
 have fin:Oo (Ot prog w) A (Sx slice false o i) (fun r s₃=>Oo (Ot prog w) A (letTemporaryGo value o r >>= fun _=>pure r) Q E s₃) E s₂:=by
  rw[hs o i];exact Vr (PX h₂ (fun r s₃ h₃=>NP (TH (Oa h₃))) fun _ _ x=>x)
 first
  |exact Oa (NP fin)
  |exact NP (Oa (NP fin))
  |exact NP fin
theorem pq{X:Cx}{pins:List (Addr×Obj)}{σ:St}{H:Hp}{s:NL}{a:Addr}{y:V}{o:Option V}(I:Inv X pins σ H s)(g:DGet H a y o):s.TypeIs (.ref a) "dict":=by
 rcases g with⟨kvs,k,e,_,_⟩|⟨kvs,k,b,e,_,_,_⟩
 .obtain⟨_,_,vs,_,dd⟩:=fB I.hok e
  exact dd.typeIs
 .obtain⟨_,_,xs,_,dd⟩:=lU I.hok e
  exact dd.typeIs
def HF(td ty:TE):TE:=fun σ H Q=>td σ H fun x H1=>ty σ H1 fun y H2=>∃a v,x=.ref a/\DGet H2 a y (some v)/\Q v H2
def Jg(ty td:TE):TE:=fun σ H Q=>ty σ H fun y H1=>td σ H1 fun x H2=>∃a o,x=.ref a/\DGet H2 a y o/\Q (.bl o.isSome) H2
def HH(td ty tv:TE):TS:=fun D σ H=>tv σ H fun v H1=>td σ H1 fun x H2=>ty σ H2 fun y H3=>∃a H4,x=.ref a/\DPut H3 a y v H4/\D.nx σ H4
section
variable {X:Cx}{o i e value:Expr}{pos pos' tpos:Pos}{td ty tv:TE}
theorem Eh(hu:X.A.units+1<UE)(ho:PE X o td)(hi:PE X i ty)(hs:sO i):PE X (.Subscript o i pos) (HF td ty):=by
 intro pins s σ H Q I h;refine DU Sj.lookup hs (thn (ho pins s σ H _ I h) fun u s1 ⟨x,H1,I1,rx,q1⟩=>thn (hi pins s1 σ H1 _ I1 q1) fun iv s2 ⟨y,H2,I2,ry,a,v,ex,g,q2⟩=>?_);subst ex;obtain rfl:u=OT a:=rx;exact⟨pq I2 g,uK hu I2 g ry fun w' s3 I3 rw'=>⟨v,H2,I3,rw',q2⟩⟩
theorem Gf(hu:X.A.units+1<UE)(hi:PE X i ty)(ho:PE X o td):PC X .In i o (Jg ty td):=by
 intro pins s σ H Q I h;refine thn (hi pins s σ H _ I h) fun iv s1 ⟨y,H1,I1,ry,q1⟩=>thn (ho pins s1 σ H1 _ I1 q1) fun u s2 ⟨x,H2,I2,rx,a,ov,ex,g,q2⟩=>?_;subst ex;obtain rfl:u=OT a:=rx;exact zJ hu I2 g ry fun s3 I3=>⟨.bl ov.isSome,H2,I3,rfl,q2⟩
theorem wB(hu:X.A.units+1<UE)(ho:PE X o td)(hi:PE X i ty)(hv:PE X value tv)(hs:PN value (some (.Subscript o i pos')) pos.line X.env=pure false) :
  PS X (.Assign [.Subscript o i pos'] value pos) (HH td ty tv):=by
 intro pins s σ H D I h;refine wpAny_Assign_Subscript (thn (hv pins s σ H _ I h) fun r s1 ⟨v,H1,I1,rv,q1⟩=>thn (ho pins s1 σ H1 _ I1 q1) fun u s2 ⟨x,H2,I2,rx,q2⟩=>thn (hi pins s2 σ H2 _ I2 q2) fun iv s3 ⟨y,H3,I3,ry,a,H4,ex,g,q3⟩=>?_) hs;subst ex;obtain rfl:u=OT a:=rx;exact B3 hu I3 g ry rv fun s4 I4=>⟨σ,H4,I4,q3⟩
end
theorem vJ{P:Og}{w:Ow}{H:Hp}(h:Heap)(hb:Pz<h.objs.size):ObjOk P w H (h.push { cls:=.type "dict",data:=.dict #[] }) h.objs.size (.dK []):=⟨Pi _,beq_eq_false_iff_ne.mpr (Qj (Ox hb)),[],.nil,Heap.DictOf.new h⟩
def FG:TE:=fun _ H Q=>∀p,H p=none->Q (.ref p) (upd H p (.dK []))
section
variable {X:Cx}{pos:Pos}
theorem vi:PE X (.Dict [] [] pos) FG:=fun pins s σ H Q I h=>
 wpAny_Dict_empty ⟨.ref s.heap.objs.size,_,I.laid (a:=s.heap.objs.size) (o:=.dK []) (t':=s.toks) (fun _ _ q=>NO _ q) (NT _) (vJ s.heap I.big),rfl,h _ (I.hok.fresh (NT _))⟩
end
def nH:List (TE×TE)->St->Hp->(List (V×V)->Hp->Prop)->Prop
 |[],_,H,Q=>Q [] H
 |(tk,tv)::r,σ,H,Q=>tk σ H fun x H1=>tv σ H1 fun y H2=>nH r σ H2 fun ps H3=>Q ((x,y)::ps) H3
abbrev VV:List (V×V)->List (NK×NK)->Prop:=Tx fun p q=>RelV p.1 q.1/\RelV p.2 q.2
def PPs(X:Cx)(pos:Pos)(keys:List (Option Expr))(values:List Expr)(trs:List (TE×TE)):Prop:=
 ∀(pins:List (Addr×Obj)) (s:NL) (σ:St) (H:Hp) (Q:List (V×V)->Hp->Prop),Inv X pins σ H s->nH trs σ H Q ->
  Oo (Ot X.prog X.w) X.A (evalPairs (pairTrees keys values X.env pos)) (fun vs s'=>∃ps H',Inv X pins σ H' s'/\VV ps vs/\Q ps H') X.xe s
theorem Ed{X:Cx}{pos:Pos}:PPs X pos [] [] []:=fun pins s σ H Q I h=>pairTrees_nil_walk ⟨[],H,I,.nil,h⟩
theorem vh{X:Cx}{pos:Pos}{k v:Expr}{ks:List (Option Expr)}{vs:List Expr}{tk tv:TE}{trs:List (TE×TE)}(hk:PE X k tk)(hv:PE X v tv)(hr:PPs X pos ks vs trs) :
  PPs X pos (some k::ks) (v::vs) ((tk,tv)::trs):=fun pins s σ H Q I h=>
 pairTrees_cons_walk (thn (hk pins s σ H _ I h) fun u s1 ⟨x,H1,I1,rx,q1⟩=>thn (hv pins s1 σ H1 _ I1 q1) fun w2 s2 ⟨y,H2,I2,ry,q2⟩=>
  thn (hr pins s2 σ H2 _ I2 q2) fun ws s3 ⟨ps,H3,I3,rel,q3⟩=>⟨(x,y)::ps,H3,I3,.cons ⟨rx,ry⟩ rel,q3⟩)
def iT(kvs more:List (Key×V)):List (Key×V):=more.foldl (fun acc kv=>putK acc kv.1 kv.2) kvs
theorem KV.merge:∀{more:List (Key×V)}{rs:List (Key×NK)}{kvs:List (Key×V)}{vs:List (Key×NK)},KV more rs->KV kvs vs->KV (iT kvs more) (merged vs rs):=by
 intro more rs kvs vs r;unfold KV at r
 induction r generalizing kvs vs with
 |nil=>intro q;exact q
 |@cons p q ps qs h t ih=>
  intro r0
  have e:KV (putK kvs p.1 p.2) (stored vs q.1 q.2):=by
   have:=r0.put p.1 h.2;rw[←h.1];exact this
  exact ih e
theorem sU:∀(more kvs:List (Key×V)),(iT kvs more).length<=kvs.length+more.length
 |[],kvs=>by show kvs.length<=kvs.length+0;omega
 |p::r,kvs=>by
  have h1:=sU r (putK kvs p.1 p.2);have h2:=pj kvs p.1 p.2;show (iT (putK kvs p.1 p.2) r).length<=_;rw[Ou];omega
theorem ua{P:Og}{w:Ow}:∀{kvs:List (Key×V)}{ws:List (NK×NK)},VV (kvs.map fun kv=>(kV kv.1,kv.2)) ws->∃rs,Carries (cb P w) ws rs/\KV kvs rs
 |[],_,r=>by rw[Tc] at r;cases r;exact⟨[],Qq,.nil⟩
 |p::kvs,_,r=>by
  rw[Oi] at r
  cases r with
  |@cons a b as bs h t=>
   obtain⟨rs,c,q⟩:=ua (P:=P) (w:=w) t;obtain⟨b1,b2⟩:=b;exact⟨(p.1,b2)::rs,⟨jO h.1,rfl,c⟩,.cons ⟨rfl,h.2⟩ q⟩
def HE(trs:List (TE×TE)):TE:=fun σ H Q=>∀p,H p=none->nH trs σ (upd H p (.dK [])) fun ps H2=>H2 p=some (.dK [])/\∃kvs:List (Key×V),ps=kvs.map (fun kv=>(kV kv.1,kv.2))/\kvs.length<=15/\Q (.ref p) (upd H2 p (.dK (iT [] kvs)))
theorem Eg{X:Cx}{pos:Pos}{keys:List (Option Expr)}{values:List Expr}{trs:List (TE×TE)}(h:PPs X pos keys values trs)(hall:keys.all (·.isSome)=true)(hl:keys.length=values.length)(h0:keys≠[])
  (h15:keys.length<=15):PE X (.Dict keys values pos) (HE trs):=by
 intro pins s σ H Q I q;have hn:=I.hok.fresh (NT s.heap.objs.size);have I1:=I.laid (a:=s.heap.objs.size) (o:=.dK []) (h':=s.heap.push { cls:=.type "dict",data:=.dict #[] }) (t':=s.toks) (fun _ _ q=>NO _ q) (NT _) (vJ s.heap I.big);refine wpAny_Dict_walk (knd:=cb X.prog X.w) hall hl h0 h15 (thn (h pins _ σ _ _ I1 (q _ hn)) fun ws s2 ⟨ps,H2,I2,rel,e,kvs,ep,lk,q2⟩=>?_);subst ep;obtain⟨rs,c,rk⟩:=ua (P:=X.prog) (w:=X.w) rel;obtain⟨z,hd,vs0,r0,dd⟩:=yW I2.hok e;cases r0;refine⟨rs,c,dd,fun h' dd' hs=>⟨.ref s.heap.objs.size,_,?_,rfl,q2⟩⟩
 have hz:(iT [] kvs).length<=sizeLine:=by
  have h1:=sU kvs [];rw[Q5] at h1;rw[TB];omega
 have he:∃q,h'.get? s.heap.objs.size=some q:=let ⟨q,_,_,hq,_⟩:=dd';⟨q,hq⟩
 exact qR I2 (by rw[e];exact Qq) hs he (rN hz hd (rk.merge .nil) dd')
structure M1(X:Cx)(o:Expr)(m:Str)(apos:Pos)(e:Expr)(cpos:Pos):Prop where
 base:O8 o m X.env (eval o X.env)=eval o X.env
 few:((O4 cpos (NU [e] X.env)).all (fun x=>!x.1)&&(QE cpos (PV [] X.env)).all (fun x=>x.1.isSome)
  && decide (([e]:List Expr).length+([]:List Pw).length+(if ([]:List Pw).isEmpty then 0 else 1)<30))=true
 line:(apos.endLine == cpos.line)=true
 trees:O4 cpos (NU [e] X.env)=[(false,eval e X.env)]
structure M2(X:Cx)(o:Expr)(m:Str)(apos:Pos)(e f:Expr)(cpos:Pos):Prop where
 base:O8 o m X.env (eval o X.env)=eval o X.env
 few:((O4 cpos (NU [e,f] X.env)).all (fun x=>!x.1)&&(QE cpos (PV [] X.env)).all (fun x=>x.1.isSome)
  && decide (([e,f]:List Expr).length+([]:List Pw).length+(if ([]:List Pw).isEmpty then 0 else 1)<30))=true
 line:(apos.endLine == cpos.line)=true
 trees:O4 cpos (NU [e,f] X.env)=[(false,eval e X.env),(false,eval f X.env)]
section
variable {X:Cx}{pins:List (Addr×Obj)}{σ:St}{H:Hp}{s:NL}{a:Addr}{y d:V}{u r:NK}{o:Option V}{A:OD}{E:NK->NL->Prop}
end
section
variable {X:Cx}{o e f:Expr}{apos cpos:Pos}{td ty tx:TE}
end
section
variable {X:Cx}{pins:List (Addr×Obj)}{σ:St}{H:Hp}{s:NL}{a:Addr}{kvs:List (Key×V)}{A:OD}{E:NK->NL->Prop}
theorem Dk{Q:NK->NL->Prop}(I:Inv X pins σ H s)(e:Rd H a (.dK kvs))(h:∀p s',H p=none->Inv X pins σ (upd H p (.dK kvs)) s'->Q (.ref p) s'):Oo (Ot X.prog X.w) A (call (.type "dict") [.ref a]) Q E s:=by
 obtain⟨z,hd,vs,rel,dd⟩:=fB I.hok e;refine kt_call_dict hd dd (by rw[←rel.length];exact z) fun h' dd' hs=>?_;refine h _ _ (I.hok.fresh (NT _)) (I.laid (a:=s.heap.objs.size) (o:=.dK kvs) (t':=s.toks) (fun b q hq=>?_) (NT _) (rN z (beq_eq_false_iff_ne.mpr (Qj (Ox I.big))) rel dd'));exact(hs.2 b (Ox (Oc hq))).trans (NO _ hq)
end
section
variable {X:Cx}{pins:List (Addr×Obj)}{σ:St}{H:Hp}{s:NL}{a:Addr}{y:V}{u:NK}{A:OD}{E:NK->NL->Prop}
end
end L2
namespace Att
open PySem PySem.W PySem.Calls PyProof.Rows
theorem zW{P:Wv}{h:Heap}:∀(ns:List Int) (vs:List NK),WellAll P h vs (ns.map WData.int)->Vy vs ns:=by
 intro ns
 induction ns with
 |nil=>
  intro vs w;rw[Tc] at w;cases w;exact .nil
 |cons n ns ih=>
  intro vs w;rw[Oi] at w
  cases w with
  |cons a b=>
   cases a;exact .cons _ _ (ih _ b)
theorem Bt{l:OpenLaw}{n:Nat}(hn:l.most=some n){P:Wv}{h:Heap}{args:List WData}{vals:List NK}
  (hpre:l.row.toRowW.claim.pre args=true) (hwl:WellAll P h vals args) :
  ∃a vs ns,vals=[OT a]/\args=[WData.list (ns.map WData.int)]/\h.get? a=some { cls:=.type "list",data:=.seq vs.toArray }/\Vy vs ns/\ns.length<=n:=by
 have hsh:WShape.hasAll [] args [.list .int]=true:=(pre_splitW hpre).1;have hc:l.pre.holds [] { args:=args } = true:=(pre_splitW hpre).2;obtain⟨d,r,rfl,h1,h2⟩:=hasAllW_cons hsh;obtain rfl:=hasAllW_nil h2;obtain⟨xs,rfl,h3⟩:=hasW_list h1;obtain⟨ns,rfl⟩:=items_int h3
 have hlen:ns.length<=n:=by
  unfold OpenLaw.pre at hc
  have h4:(WTm.not (.lt (.lit (.int (n:Int))) (.len (.arg 0)))).holds [] { args:=[.list (ns.map .int)] } = true:=by
   have h4:=(holds_andW hc).1;rw[hn] at h4;exact h4
  have h5:=condW_of h4 (w_not (w_lt w_lit (w_len_list (w_arg rfl))));rw[OV] at h5;refine Nat.le_of_not_lt fun q=>?_
  have q':(n:Int)<((ns.length:Nat):Int):=by omega
  first
   |(rw[decide_eq_true q'] at h5;exact absurd h5 (by decide))
   |(simp at h5;omega)
 cases hwl with
 |cons w1 w2=>
  cases w2
  cases w1 with
  |list ho hall=>exact⟨_,_,ns,rfl,rfl,ho,zW ns _ hall,hlen⟩
theorem Bx(l:OpenLaw)(args:List WData):l.row.toRowW.claim.post args (.bool true) args=true:=
 postW_of (r:=l.row.toRowW) (X:=(true == true))
  (show WShape.has [] (.bool true) .bool=true by first|rfl|decide|simp[WShape.has,WShape.arms,WShape.armsAll])
  (show (WTm.eq .res (.lit (.bool true))).value [] { args:=args,res:=some (.bool true),after:=args } = some (.bool (true == true)) from w_eq_bool (w_res rfl) w_lit) rfl
theorem AH{l:OpenLaw}{n:Nat}{q:Og}{loose:List Str}{XP:(Str->Option NK)->Heap->Prop}{YP:Ow->Heap->Prop}{d:DefRec}
  (hn:l.most=some n) (hdf:d.params.defaults=[])
  (call:∀(w:Ow) (s₀ s₁:NL) (mg mb:Str->Option NK) (fa:Addr) (o:Obj) (pm cd doc:NK) (a:Addr) (vs:List NK) (ns:List Int),
   Ground q loose [] XP w s₀ mg mb s₁.heap->YP w s₁.heap ->
   s₁.heap.get? fa=some o->o.data=.func (docDef d.name d.params d.body d.scope pm cd doc)->s₁.heap.CodeRec cd d.name->mg d.name=some (.ref fa) ->
   s₁.heap.get? a=some { cls:=.type "list",data:=.seq vs.toArray }->Vy vs ns->ns.length<=n->s₁.gens = #[] ->
   Vx (Ot l.prog w) Te (.call (.ref fa) ⟨[.ref a],[]⟩) (fun r s'=>r=.ok (.ret (.bool true))/\OldK s₁.heap s'.heap/\s'.os=s₁.os/\So s'.gens) s₁) :
  WalkO q loose XP YP l.row.toRowW d [] (fun f vs=>Tf f vs):=by
 intro w s₀ s₁ mg mb G Y fa o pm cd doc dV kV ho hd hcd hD hmg hg args vals as hpre hlay hrd hwl hlo;obtain rfl:dV=.none:=Dflts.none hD hdf;obtain rfl:kV=.none:=Dflts.noKw hD;obtain⟨a,vs,ns,rfl,rfl,hobj,hints,hlen⟩:=Bt hn hpre hwl;refine enter_call (UG (call w s₀ s₁ mg mb fa o pm cd doc a vs ns G Y ho (fd_plain hd) hcd hmg hobj hints hlen hg) fun r s' hq=>?_);obtain⟨rfl,h2,h3,h4⟩:=hq;exact⟨.inl ⟨.bool true,.bool true,[],rfl,fun _=>rfl,.bool true,Bx l _,fun _=>⟨WQ,fun _ hm=>(nomatch hm)⟩⟩,h2,h3,h4⟩
section
variable {prog:Og}{w:Ow}{A:OD}{E:NK->NL->Prop}{s:NL}{K:Frag}
end
end Att
namespace L2
open PySem PySem.Spec PyProof.Rows
theorem uf:∀{vs:List NK}{ns:List Int},Vy vs ns->Vals (ns.map V.int) vs
 |_,_,.nil=>.nil
 |_,_,.cons n t h=>.cons ⟨t,rfl⟩ (uf h)
def sN(H:Hp):Prop:=∀b,H b=none\/∃o xs,H b=some (.frz o (.lst xs))
theorem CV{P:Og}{w:Ow}{K:Frag}{mg mb:Str->Option NK}{CX:CXT}{k:Nat}{fa a:Addr}{fd:PK}{x:Str}{sp:Sp}{s₁:NL}{vs:List NK}{ns:List Int}
  (KX:K.In s₁.heap) (hns:s₁.heap.Ns OG mg) (hb:s₁.heap.Ns VD mb) (hbb:∀x:Str,x≠"__name__"->mb x=P1 x) (hlim:s₁.heap.NoLimit) (hg:s₁.gens = #[])
  (ha:s₁.heap.get? a=some { cls:=.type "list",data:=.seq vs.toArray }) (hi:Vy vs ns) (hl:ns.length<=NS) (hr:Room k Te)
  (F:∀base:Heap,K.In base->base.Ns OG mg->FnOk P w K mg base CX k fa fd [x] sp) (hbind:∀(s:NL) (u:NK),T7 s fd ⟨[u],[]⟩ [(x,u)])
  (hsp:∀H:Hp,sN H->SqL K H a (ns.map V.int)->sp [.ref a] H (fun v _=>v=.bl true) fun _ _ _=>False)
  (hCX:∀H e s',CX [] H s₁ (fun _ _ _=>False) e s'->False) :
  Vx (Ot P w) Te (.call (.ref fa) ⟨[.ref a],[]⟩) (fun r s'=>r=.ok (.ret (.bool true))/\OldK s₁.heap s'.heap/\s'.os=s₁.os/\So s'.gens) s₁:=by
 have rv:=uf hi;have lenV:=hi.length
 have core:∀H:Hp,sN H->SqL K H a (ns.map V.int)->HOk P w H s₁.heap->(∀b,H b≠none->b=a)->(H a≠none->K.lookup a=none) ->
   Vx (Ot P w) Te (.call (.ref fa) ⟨[.ref a],[]⟩) (fun r s'=>r=.ok (.ret (.bool true))/\OldK s₁.heap s'.heap/\s'.os=s₁.os/\So s'.gens) s₁:=by
  intro H hO hS hok hA hK;have base_of:∀{b:Addr}{o:Obj},s₁.heap.get? b=some o->H b=none->(gK s₁.heap H).get? b=some o:=fun e n=>C0 e n
  have noA:∀{b:Addr}{o:Obj}{es:Array U6}{ep:Nat},s₁.heap.get? b=some o->o.data=.dict es ep->H b=none:=fun {b o es ep} e d=>by
   cases q:H b with
   |none=>rfl
   |some u=>
    have e':b=a:=hA b (by rw[q];simp);subst e';rw[ha] at e;cases e;have d':Data.seq vs.toArray _=Data.dict es ep:=d;cases d'
  have nsK:∀{b:Addr}{m:Str->Option NK},s₁.heap.Ns b m->(gK s₁.heap H).Ns b m:=fun {b m} ⟨o,es,ep,e,d,r⟩=>⟨o,es,ep,base_of e (noA e d),d,r⟩
  have hKb:K.In (gK s₁.heap H):=fun b o e=>base_of (KX b o e) (by
   cases q:H b with
   |none=>rfl
   |some u=>
    have e':b=a:=hA b (by rw[q];simp);subst e'
    rw[hK (by rw[q];simp)] at e;cases e)
  have hM:Mod K mg (gK s₁.heap H):=⟨hKb,nsK hns,⟨mb,nsK hb,hbb⟩,let ⟨mc,h1,h2⟩:=hlim;⟨mc,nsK h1,h2⟩⟩;have e0:Env0 P w K mg (gK s₁.heap H) Te [] s₁ H:=⟨rfl,hM,fun b o e=>Et e,UL (BQ _ _),trivial,fun b hb=>absurd (show b∈([]:List Addr) from hb) (by simp),hok,.of_eq hg⟩;refine UG ((F _ hKb (nsK hns)).run Te [] s₁ H ⟨[.ref a],[]⟩ [.ref a] [.ref a] _ _ hr e0 (hbind s₁ (.ref a)) (.cons rfl .nil) (hsp H hO hS)) fun r s' h=>?_
  cases r with
  |error e=>exact(hCX H e s' h).elim
  |ok fl=>
   cases fl with
   |next=>exact Qy h
   |brk=>exact Qy h
   |cont=>exact Qy h
   |ret u=>
    obtain⟨v,H',os,bare,un,hok',r',q⟩:=h;have q':v=.bl true:=q;subst q';obtain rfl:u=Us true:=r';refine⟨rfl,OldK.of_keep fun b o e=>?_,os,bare⟩
    cases q:H b with
    |none=>exact un.keep b o e q (by intro z;exact absurd (show b∈([]:List Addr) from z) (by simp)) (by simp)
    |some u=>
     rcases hO b with z|⟨ob,xs,z⟩
     .rw[q] at z;cases z
     .have z2:=un.frzs b ob _ z
      obtain⟨e1,_⟩:=hok b _ z;obtain⟨e2,_⟩:=hok' b _ z2;rw[e] at e1;cases e1;exact e2
 cases hk:K.lookup a with
 |some o=>
  have e:=KX a o hk;rw[ha] at e;cases e;refine core (fun _=>none) (fun _=>.inl rfl) (.inr ⟨_,vs.toArray,_,hk,rfl,rfl,rfl,by rw[NX,lenV];exact hl,by simpa using rv⟩) (fun b u z=>by have z':(none:Option HO)=some u:=z;cases z') (fun b z=>absurd rfl z) fun z=>absurd rfl z
 |none=>
  refine core (fun b=>if b=a then some (.frz { cls:=.type "list",data:=.seq vs.toArray } (.lst (ns.map V.int))) else none) (fun b=>?_) (.inl (.inr ⟨{ cls:=.type "list",data:=.seq vs.toArray },if_pos rfl⟩)) (fun b u z=>?_) (fun b z=>?_) fun _=>hk
  .by_cases hb:b=a
   .exact .inr ⟨_,_,if_pos hb⟩
   .exact .inl (if_neg hb)
  .by_cases hb:b=a
   .have z':=(if_pos hb).symm.trans z
    cases z';subst hb;exact⟨ha,by rw[OV];exact hl,vs,_,rv,ha⟩
   .have z':=(if_neg hb).symm.trans z
    cases z'
  .by_cases hb:b=a
   .exact hb
   .exact absurd (if_neg hb) z
theorem DJ{l:To}{n k:Nat}{q:Og}{loose:List Str}{XP:(Str->Option NK)->Heap->Prop}{YP:Ow->Heap->Prop}{d:DefRec}{K:Wv->Frag}{CX:Ow->CXT}{sp:Ow->Sp}{x:Str}
  (hn:l.most=some n) (hn2:n<=NS) (hdf:d.params.defaults=[]) (hr:Room k Te)
  (hY:∀(w:Ow) (h:Heap),YP w h->(K w.params).In h)
  (F:∀(w:Ow) (mg:Str->Option NK) (fa:Addr) (h:Heap),(K w.params).In h->h.Ns OG mg->mg d.name=some (.ref fa) ->
   ∃fd:PK,(∀(s:NL) (u:NK),T7 s fd ⟨[u],[]⟩ [(x,u)]) /\
    ∀base:Heap,(K w.params).In base->base.Ns OG mg->FnOk l.prog w (K w.params) mg base (CX w) k fa fd [x] (sp w))
  (hsp:∀(w:Ow) (H:Hp) (a:Addr) (ns:List Int),ns.length<=n->sN H->SqL (K w.params) H a (ns.map V.int)->sp w [.ref a] H (fun v _=>v=.bl true) fun _ _ _=>False)
  (hCX:∀(w:Ow) (H:Hp) (s:NL) (e:NK) (s':NL),CX w [] H s (fun _ _ _=>False) e s'->False) :
  Um q loose XP YP l.row.toRowW d [] (fun f vs=>Tf f vs):=by
 refine Att.AH hn hdf fun w s₀ s₁ mg mb fa o pm cd doc a vs ns G Y ho hd hcd hmg hobj hints hlen hg=>?_;have KX:=hY w _ Y;obtain⟨fd,hb,hF⟩:=F w mg fa _ KX G.T.g hmg;exact CV KX G.T.g G.T.b G.T.builtins G.T.nolimit hg hobj hints (Of hlen hn2) hr hF hb (fun H hO hS=>hsp w H a ns hlen hO hS) fun H e s'=>hCX w H s₁ e s'
def eO(s:Stmt):Arguments:=match s with
 |.FunctionDef _ a _ _ _ _ _ _ _ _=>a
 |_=>{ posonlyargs:=[],args:=[],vararg:=none,kwonlyargs:=[],kw_defaults:=[],kwarg:=none,defaults:=[] }
def dA(s:Stmt):List Stmt:=match s with
 |.FunctionDef _ _ b _ _ _ _ _ _ _=>b
 |_=>[]
def bM(s:Stmt):Scope:=match s with
 |.FunctionDef _ _ _ _ _ _ sc _ _ _=>sc
 |_=>{ kind:=.function,names:=[],isGenerator:=false,isCoroutine:=false }
abbrev CX0:CXT:=fun _ _ _ _ _ _=>False
abbrev E0:XK:=fun _ _ _=>False
theorem HV{X:Cx}:rR CX0 X E0:=fun _ _ _ _ _ _ _ h=>h.elim
structure Fun(K:Frag)(x qual:Str)(st:Stmt)(f:Addr)(fd:PK):Prop where
 ex:∃(oc:NK) (od:Option Addr) (kV doc pm:NK) (an:Option Addr) (cdv ct:NK) (osl:Array (Option NK)),
  fd=Po x qual (eO st) (dA st) (bM st) .none kV doc pm an cdv ct/\K.lookup f=some ⟨oc,od,.func fd,osl⟩/\QM K cdv qual=true
 kp:Ph K (.ref f)=true
section
variable {P:Og}{w:Ow}{K:Frag}{mg:Str->Option NK}{base:Heap}
theorem Fun.ok{x qual:Str}{st:Stmt}{f:Addr}{fd:PK}{N ps:List Str}{k:Nat}{sp:Sp}(F:Fun K x qual st f fd)(S:FnScope N ps (bM st))(len:∀vs H Q E,sp vs H Q E->vs.length=ps.length)
  (hbody:∀(cdv:NK) (A:OD) (outer:List Env) (s:NL) (H:Hp) (vs:List V) (Q:VK) (E:XK),Room k (A.deeper (R7 qual (bM st) s.heap.objs.size f cdv))->sp vs H Q E ->
   ∃t,PSs (gL CX0 P w K mg base N qual (bM st) f cdv A outer s H E).nox (dA st) t/\t { nx:=fun _ H'=>Q .non H',rt:=Q } (start N vs) H):FnOk P w K mg base CX0 (k+1) f fd ps sp:=by
 obtain⟨oc,od,kV,doc,pm,an,cdv,ct,osl,rfl,lk,hcd⟩:=F.ex;refine IB lk hcd S len fun A outer s H vs Q E hr hsp=>?_;obtain⟨t,h,q⟩:=hbody cdv A outer s H vs Q E hr hsp;exact⟨t,h.nox,q⟩
theorem Fun.binds{x qual:Str}{st:Stmt}{f:Addr}{fd:PK}{ps:List Str}(F:Fun K x qual st f fd)
  (h:∀(kV doc pm:NK) (an:Option Addr) (cdv ct:NK) (us:List NK),us.length=ps.length->TF (Po x qual (eO st) (dA st) (bM st) .none kV doc pm an cdv ct) ⟨us,[]⟩=pure (ps.zip us)):Binds K fd ps []:=by
 obtain⟨oc,od,kV,doc,pm,an,cdv,ct,osl,rfl,lk,hcd⟩:=F.ex;exact .all (h kV doc pm an cdv ct)
theorem ye{x qual:Str}{st:Stmt}{f:Addr}{oc:NK}{od an:Option Addr}{osl:Array (Option NK)}{kV doc pm cdv ct:NK}(l:K.lookup f=some ⟨oc,od,.func (Po x qual (eO st) (dA st) (bM st) .none kV doc pm an cdv ct),osl⟩)
  (c:QM K cdv qual=true) (k:Ph K (.ref f)=true):Fun K x qual st f (Po x qual (eO st) (dA st) (bM st) .none kV doc pm an cdv ct):=⟨⟨oc,od,kV,doc,pm,an,cdv,ct,osl,rfl,l,c⟩,k⟩
end
section
variable {X:Cx}
theorem pv(i:Nat){x:Str}{pos:Pos}(hN:X.N[i]? = some x:=by rfl)(hv:Vis X.env.scope x:=by first|exact Pj rfl|exact OY (Pj rfl)|exact OY (OY rfl))(hd:(x == ("__debug__" : Str))=false:=by decide)
  (hcd:(x == ("__classdict__" : Str))=false:=by decide):PE X (.Name x pos) (zk i):=F8 hN hv hd hcd
end
theorem e8{A B:Prop}(h:B):if false=true then A else B:=by
 rw[if_neg NZ];exact h
theorem e7{A B:Prop}(h:A):if true=true then A else B:=by
 rw[if_pos rfl];exact h
end L2
set_option maxHeartbeats 4000000
namespace K1
open PySem
def has(signs x:Str):Bool:=x.cps.toList.all fun c=>decide (c∈signs.cps.toList)
def LET:Str:="abcdefghijklmnopqrstuvwxyz"
def TXT:Str:="abcdefghijklmnopqrstuvwxyz0123456789-"
def single:NG->Bool
 |.int i=>decide ((if i<0 then -i else i)<=10^18)
 |.str x=>decide (x.length<=20)&&has TXT x
 |_=>false
def aG:Nat->NG->Bool
 |0,.tuple _=>false
 |n+1,.tuple ds=>decide (ds.length<=8)&&ds.all (aG n)
 |_,d=>single d
def aH:Nat->NG->Int
 |n+1,.tuple ds=>1+(ds.map (aH n)).sum
 |_,_=>1
def lsz:Nat->NG->Int
 |n+1,.tuple ds=>if ds.length>8 then 100 else 1+(ds.map (lsz n)).sum
 |_,d=>if single d=true then 1 else 100
def isName:NG->Bool
 |.str x=>decide (1<=x.length)&&decide (x.length<=8)&&has LET x
 |_=>false
def aE(d:NG):Bool:=aG 4 d&&decide (aH 4 d<=40)
theorem xI{α:Type}(f:α->Int)(h:∀a,1<=f a):∀l:List α,(l.length:Int)<=(l.map f).sum
 |[]=>by simp
 |a::r=>by
  have:=xI f h r;have:=h a;simp only[Oi,Qe,Ou];omega
def tdp:Nat->NG->Bool
 |0,.tuple _=>false
 |n+1,.tuple ds=>ds.all (tdp n)
 |_,_=>true
theorem qb:∀(n:Nat) (d:NG),aG n d=true->tdp n d=true
 |0,d,h=>by cases d <;> first|rfl|cases h
 |n+1,d,h=>by
  cases d with
  |tuple ds=>
   have e:aG (n+1) (.tuple ds)=(decide (ds.length<=8)&&ds.all (aG n)):=rfl;rw[e,NN] at h;show ds.all (tdp n)=true;exact Oe.mpr fun x hx=>qb n x (Oe.mp h.2 x hx)
  |_=>rfl
def kS(best:Int):List Int->Int
 |[]=>best
 |n::r=>kS (if n>best then n else best) r
def je(d:Int):List Int->Int
 |[]=>d
 |n::r=>kS n r
def bw:Nat->NG->Int
 |n+1,.tuple ds=>1+je 0 (ds.map (bw n))
 |_,_=>0
def yO(acc:Int):List Int->Int
 |[]=>acc
 |n::r=>yO (if 1+n>acc then 1+n else acc) r
def ldp:Nat->NG->Int
 |n+1,.tuple ds=>yO 1 (ds.map (ldp n))
 |_,_=>0
end K1
namespace L2
open PySem
def cL(env:Env):List (Str×Qt)->List (Str×Addr)->List (Str×Addr)
 |[],acc=>acc
 |(n,k)::r,acc=>cL env r (if (k == .free)=true then (n,(env.cells.lookup n).getD 0)::acc else acc)
theorem qa{env:Env}:∀(l:List (Str×Qt)) (acc:List (Str×Addr)),(∀x∈l,x.2=.free->∃c,env.cells.lookup x.1=some c) ->
  (forIn l acc (fun x r=>match x with
   | (name,kind)=>if (kind == Pm)=true then (do
     let c ←cellOf env name
     pure (RI ((name,c)::r))) else pure (RI r)):Sem (List (Str×Addr)))=pure (cL env l acc)
 |[],acc,_=>rfl
 |(n,k)::r,acc,h=>by
  rw[List.forIn_cons];have hr:∀x∈r,x.2=.free->∃c,env.cells.lookup x.1=some c:=fun x hx=>h x (NJ _ hx)
  cases hk:(k == Pm) with
  |false=>
   have ih:=qa r acc hr
   have e:cL env ((n,k)::r) acc=cL env r acc:=by simp[cL,hk]
   rw[e];dsimp only;rw[if_neg (by rw[hk];exact NZ)];exact ih
  |true=>
   obtain⟨c,hc⟩:=h (n,k) NI (by simpa using hk);have ih:=qa r ((n,c)::acc) hr;have hc':env.cells.lookup n=some c:=hc
   have e:cL env ((n,k)::r) acc=cL env r ((n,c)::acc):=by simp[cL,hk,hc']
   have e2:cellOf env n=pure c:=by unfold cellOf;rw[hc']
   rw[e];dsimp only;rw[if_pos hk,e2];exact ih
theorem Be{scope:Qg}{env:Env}(h:∀x∈scope.names,x.2=.free->∃c,env.cells.lookup x.1=some c):closureFor scope env=pure (cL env scope.names []):=by
 have q:=qa (env:=env) scope.names [] h;unfold closureFor;exact congrArg (fun t=>t >>= fun z=>pure z) q
theorem tG{env:Env}:∀(l:List (Str×Qt)) (acc:List (Str×Addr)) (x:Str) (c:Addr),(∀y d,acc.lookup y=some d->env.cells.lookup y=some d) ->
  (∀y∈l,y.2=.free->∃c,env.cells.lookup y.1=some c)->(cL env l acc).lookup x=some c->env.cells.lookup x=some c
 |[],acc,x,c,ha,_,e=>ha x c e
 |(n,k)::r,acc,x,c,ha,h,e=>by
  have hr:∀x∈r,x.2=.free->∃c,env.cells.lookup x.1=some c:=fun x hx=>h x (NJ _ hx);refine tG r _ x c ?_ hr e;intro y d q
  cases hk:(k == Pm) with
  |false=>rw[hk,if_neg NZ] at q;exact ha y d q
  |true=>
   rw[hk,if_pos rfl] at q;obtain⟨c',hc⟩:=h (n,k) NI (by simpa using hk);have hc':env.cells.lookup n=some c':=hc;rw[Pq] at q
   by_cases z:y=n
   .subst z
    simp[hc'] at q;rw[hc',q]
   .have z':(y == n)=false:=beq_eq_false_iff_ne.mpr z
    rw[z'] at q;exact ha y d q
theorem t7{env:Env}:∀(l:List (Str×Qt)) (acc:List (Str×Addr)) (x:Str),(acc.lookup x).isSome=true->((cL env l acc).lookup x).isSome=true
 |[],_,_,h=>h
 |(n,k)::r,acc,x,h=>by
  refine t7 r _ x ?_
  cases hk:(k == Pm) with
  |false=>rw[if_neg NZ];exact h
  |true=>
   rw[if_pos rfl,Pq]
   cases z:(x == n) with
   |true=>rfl
   |false=>exact h
theorem tZ{env:Env}:∀(l:List (Str×Qt)) (acc:List (Str×Addr)) (x:Str),(x,Pm)∈l->((cL env l acc).lookup x).isSome=true
 |[],_,_,h=>absurd h (by simp)
 |(n,k)::r,acc,x,h=>by
  rcases NR.mp h with e|e
  .cases e
   refine t7 r _ _ ?_;rw[if_pos (by decide),Pq];simp
  .exact tZ r _ x e
open PySem PySem.Spec PyProof.Rows
structure CS(osc:Qg)(N:List Str)(x:Str)(scope:Qg)(N':List Str):Prop where
 kind:scope.kind=.function
 nocell:∀y∈scope.names,y.2≠.cell
 names:∀y∈scope.names,y.2=.local->scope.names.lookup y.1=some .local
 hx:scope.names.lookup x=some .local
 only:∀y∈scope.names,y.2=.local->y.1=x\/y.1=".0"
 free:∀y∈scope.names,y.2=.free->osc.names.lookup y.1=some .cell\/osc.names.lookup y.1=some .free
 nd:(x::N').Nodup
 n0:(".0" : Str)∉N'
 len:N'.length=N.length
 rel:∀p∈N'.zip N,p.1=p.2\/∀q∈scope.names,q.1≠p.1
theorem CS.at{osc:Qg}{N N':List Str}{x:Str}{scope:Qg}(S:CS osc N x scope N'){j:Nat}{y:Str}(h:N'[j]? = some y):N[j]? = some y\/∀q∈scope.names,q.1≠y:=by
 have hl:j<N'.length:=(NM.mp h).1
 have hl2:j<N.length:=by rw[←S.len];exact hl
 have m:(N'.zip N)[j]? = some (y,N[j]):=by
  rw[List.getElem?_zip_eq_some];exact⟨h,Px hl2⟩
 rcases S.rel _ (Oz m) with z|z
 .left
  rw[Px hl2];exact congrArg some z.symm
 .exact .inr z
theorem vq{c:Str×Qt->Bool}:∀{names:List (Str×Qt)}{y:Str}{k':Qt},
  (names.map fun p=>if (p.2 == Pm&&c p)=true then (p.1,Wi) else (p.1,p.2)).lookup y=some k'->∃k,(y,k)∈names/\(k'=k\/(k=.free/\k'=.cell))
 |[],_,_,h=>by simp at h
 |(n,k)::r,y,k',h=>by
  rw[Oi] at h
  by_cases hy:y=n
  .subst hy
   cases hc:(k == Pm&&c (y,k)) with
   |false=>
    simp only[hc,QA,if_false,Pq,beq_self_eq_true] at h;cases h;exact⟨k,NI,.inl rfl⟩
   |true=>
    simp only[hc,if_true,Pq,beq_self_eq_true] at h;cases h
    have e:k=.free:=by
     have:=(NN _ _).mp hc;simpa using this.1
    exact⟨k,NI,.inr ⟨e,rfl⟩⟩
  .have hb:(y == n)=false:=beq_eq_false_iff_ne.mpr hy
   have h':(r.map fun p=>if (p.2 == Pm&&c p)=true then (p.1,Wi) else (p.1,p.2)).lookup y=some k':=by
    cases hc:(k == Pm&&c (n,k)) with
    |false=>simp only[hc,QA,if_false,Pq,hb] at h;exact h
    |true=>simp only[hc,if_true,Pq,hb] at h;exact h
   obtain⟨k2,m,e⟩:=vq h';exact⟨k2,NJ _ m,e⟩
theorem oY{scope:Qg}{env:Env}{y:Str}{k':Qt}(h:(T8 scope env).names.lookup y=some k'):∃k,(y,k)∈scope.names/\(k'=k\/(k=.free/\k'=.cell)):=by
 refine vq (c:=fun p=>env.scope.kind == .function&&env.kindOf p.1 == some .cell) ?_;rw[←h];unfold T8
 congr 1
 refine OF fun p _=>?_;obtain⟨n,k⟩:=p;simp only[Bool.and_assoc]
abbrev cT(X:Cx)(x:Str)(scope:Qg)(C:Addr)(s0:NL)(H0:Hp)(ex:List Addr)(N':List Str):Cx where
 prog:=X.prog
 w:=X.w
 K:=X.K
 mg:=X.mg
 base:=X.base
 A:=X.A
 N:=x::N'
 s₀:=s0
 H₀:=H0
 env:=TJ scope (cL X.env scope.names []) C X.env
 outer:=X.stack
 stack:=X.stack
 ex:=ex
 fn:=fun _=>false
 calm:=X.calm
 pn:=[]
 xe:=fun _ _=>False
section
variable {X:Cx}{pins:List (Addr×Obj)}{σ:St}{H:Hp}{s:NL}{x:Str}{scope:Qg}{N':List Str}
theorem vA(I:Inv X pins σ H s)(S:CS X.env.scope X.N x scope N'):∀y∈scope.names,y.2=.free->∃c,X.env.cells.lookup y.1=some c:=fun y hy e=>
 I.ok.has y.1 (S.free y hy e)
theorem uO(I:Inv X pins σ H s)(S:CS X.env.scope X.N x scope N'){y:Str}{c:Addr}(e:(cL X.env scope.names []).lookup y=some c):X.env.cells.lookup y=some c:=tG scope.names [] y c (fun _ _ z=>by simp at z) (vA I S) e
theorem vN(I:Inv X pins σ H s)(S:CS X.env.scope X.N x scope N'){y:Str}(e:(y,Pm)∈scope.names):∃c,(cL X.env scope.names []).lookup y=some c/\X.env.cells.lookup y=some c:=by
 obtain⟨c,hc⟩:=QX.mp (tZ (env:=X.env) scope.names [] y e);exact⟨c,hc,uO I S hc⟩
theorem Bd{fp:List Addr}{h':Heap}{m:Str->Option NK}{tk:Nat}{oD oC:Obj}(I:Inv X pins σ H s)(S:CS X.env.scope X.N x scope N')(hf:∀b∈fp,dR X pins H b)(ho:∀b∈fp,∃o,s.heap.get? b=some o)
  (hns:h'.Ns (s.heap.push oD).objs.size m) (hsb:Rh (s.heap.push oD).objs.size ((s.heap.push oD).push oC) h') :
  Inv (cT X x scope (s.heap.push oD).objs.size { s with heap:=s.heap.push oD } H (s.heap.objs.size::fp) N') [] (none::σ) H { s with heap:=h',toks:=tk }:=by
 have I3:Inv X pins σ H { s with heap:=s.heap.push oD,toks:=s.toks }:=I.kept fun b o e=>NO _ e;have hC:(s.heap.push oD).objs.size=s.heap.objs.size+1:=Sd ..
 have up3:∀b o,(s.heap.push oD).get? b=some o->h'.get? b=some o:=fun b o e=>
  (hsb.2 b (Ox (Oc e))).trans (NO _ e)
 have up:∀b o,s.heap.get? b=some o->h'.get? b=some o:=fun b o e=>up3 b o (NO _ e);have cl:=fun {y c} e=>uO (y:=y) (c:=c) I S e
 have clt:∀y c,X.env.cells.lookup y=some c->c<s.heap.objs.size:=fun y c e=>let ⟨v,q⟩:=I.cell y c e;q.lt
 have inner:∀{y:Str}{k':Qt},(T8 scope X.env).names.lookup y=some k'->(k'=.cell\/k'=.free)->(y,Pm)∈scope.names:=fun {y k'} e hk=>by
  obtain⟨k,mem,r⟩:=oY e
  rcases r with r|⟨r,_⟩
  .rcases hk with z|z
   .exact absurd (r.symm.trans z) (S.nocell _ mem)
   .rw[←r.symm.trans z];exact mem
  .rw[←r];exact mem
 have ok:(cT X x scope (s.heap.push oD).objs.size { s with heap:=s.heap.push oD } H (s.heap.objs.size::fp) N').Ok:=by
  refine⟨I.ok.mod,S.kind,I.ok.glob,I.ok.blt,NT _,fun y z c e1 e2=>I.ok.inj y z c (cl e1) (cl e2),fun y hk=>?_,fun y c e=>(nomatch e),I.ok.hd,I.ok.frames,.inl rfl,fun b hb=>?_,fun b o e=>?_,
   Of (Of I.ok.bsz I.sz) (by show s.heap.objs.size<=(s.heap.push oD).objs.size;omega),fun b o e hb=>?_,fun b hb z=>?_,I3.stack,I.stkFree⟩
  .have mem:(y,Pm)∈scope.names:=by
    rcases hk with z|z
    .exact inner z (.inl rfl)
    .exact inner z (.inr rfl)
   obtain⟨c,hc,_⟩:=vN I S mem;exact⟨c,hc⟩
  .rcases NR.mp hb with e|e
   .subst e
    exact⟨by show s.heap.objs.size≠(s.heap.push oD).objs.size;omega,fun y c e=>Ox (clt y c (cl e))⟩
   .obtain⟨o,q⟩:=ho b e
    have q2:=Oc q;exact⟨by show b≠(s.heap.push oD).objs.size;rw[hC];exact Ox (QK q2),fun y c e'=>(hf b e).2.2.2.2.1 y c (cl e')⟩
  .exact⟨NO _ (I.bs b o e).1,(I.bs b o e).2⟩
  .rcases NR.mp hb with z|z
   .have q2:=Oc (I.bs b o e).1
    rw[z] at q2;exact P0 _ q2
   .rcases(hf b z).2.2.2.1 with q|q
    .exact I.ok.noex b o e q
    .have q2:=Oc (I.ok.bs b o e).1
     exact P0 _ (Oj q2 q)
  .have z':=I.stkSub b z
   rcases NR.mp hb with e|e
   .subst e
    rcases NR.mp z' with q|q
    .have q2:=I.lt
     rw[←q] at q2;exact P0 _ q2
    .exact I.nofs (NT _) q
   .rcases NR.mp z' with q|q
    .exact(hf b e).2.1 q
    .exact(hf b e).2.2.1 q
 obtain⟨mo,hno,hlo⟩:=I.loc;refine⟨ok,rfl,I.bare,Un.kept up3,⟨m,hns,fun i y v e1 e2 e3=>?_⟩,fun y c e=>?_,I.hok.fresh (by show s.heap.objs.size<=(s.heap.push oD).objs.size;omega),fun y c e=>I.freeC y c (cl e),fun p hp=>absurd hp (by simp),I.hok.kept up,?_⟩
 .cases i with
  |zero=>simp at e2
  |succ j=>
   have e1n:N'[j]? = some y:=by simpa using e1
   have vis:∃k,(y,k)∈scope.names:=by
    rcases(show Vis (T8 scope X.env) y from e3) with z|z|z <;> exact let ⟨k,mem,_⟩:=oY z;⟨k,mem⟩
   have e1':X.N[j]? = some y:=by
    rcases S.at e1n with z|z
    .exact z
    .obtain⟨k,mem⟩:=vis
     exact absurd rfl (z _ mem)
   have e2':σ[j]? = some (some v):=by simpa using e2
   have yx:y≠x:=fun z=>by
    have nd:=S.nd;rw[OE] at nd;refine nd.1 ?_;rw[←z];exact Oz e1n
   have kin:((T8 scope X.env).names.lookup y=some .cell\/(T8 scope X.env).names.lookup y=some .free):=by
    rcases(show Vis (T8 scope X.env) y from e3) with z|z|z
    .obtain⟨k,mem,r⟩:=oY z
     rcases r with r|⟨_,r⟩
     .rcases S.only _ mem r.symm with z2|z2
      .exact absurd z2 yx
      .exact absurd (Oz e1n) (by rw[show y=(".0" : Str) from z2];exact S.n0)
     .cases r
    .exact .inl z
    .exact .inr z
   have mem:(y,Pm)∈scope.names:=by
    rcases kin with z|z
    .exact inner z (.inl rfl)
    .exact inner z (.inr rfl)
   have vo:Vis X.env.scope y:=by
    rcases S.free _ mem rfl with z|z
    .exact .inr (.inl z)
    .exact .inr (.inr z)
   obtain⟨u,ru,lk⟩:=hlo j y v e1' e2' vo;refine⟨u,ru,.inr ⟨kin,?_⟩⟩;obtain⟨c,hc,hc'⟩:=vN I S mem;refine⟨c,hc,?_⟩
   rcases lk with⟨z,_⟩|⟨_,c2,z2,q⟩
   .exfalso
    have z':X.env.scope.names.lookup y=some .local:=z
    rcases S.free _ mem rfl with r|r <;> (rw[z'] at r;cases r)
   .rw[hc'] at z2
    cases z2;obtain⟨o,q1,q2⟩:=q;exact⟨o,up _ _ q1,q2⟩
 .obtain⟨v,o,q1,q2⟩:=I.cell y c (cl e)
  exact⟨v,o,up _ _ q1,q2⟩
 .have:=I.len
  simp[this,S.len]
theorem Bc{fp:List Addr}{σ':St}{pins':List (Addr×Obj)}{H1:Hp}{s1:NL}{h':Heap}{C:Addr}{oD:Obj}{ys:List V}(I:Inv X pins σ H s)(hf:∀b∈fp,dR X pins H b)
  (hCd:C=(s.heap.push oD).objs.size) (J:Inv (cT X x scope C { s with heap:=s.heap.push oD } H (s.heap.objs.size::fp) N') pins' σ' H1 s1) (hsb:Rh C s1.heap h') (hD0:H1 s.heap.objs.size=none)
  (new:∃its n,Vals ys its/\s1.heap.get? s.heap.objs.size=some { cls:=.type "list",data:=.seq its.toArray n }) (hz:ys.length<=NS) :
  Inv X pins σ (upd H1 s.heap.objs.size (.lst ys)) { s1 with heap:=h' }:=by
 have hC:C=s.heap.objs.size+1:=by rw[hCd];exact Sd ..
 have nD:∀b o,s.heap.get? b=some o->b≠s.heap.objs.size:=fun b o e=>Ox (Oc e)
 have nC:∀b o,s.heap.get? b=some o->b≠C:=fun b o e=>by rw[hC];exact Ox (QK (Oc e))
 have up:∀b o,s.heap.get? b=some o->(s.heap.push oD).get? b=some o:=fun b o e=>NO _ e;have nx:∀b,b∉fp->b≠s.heap.objs.size->b∉s.heap.objs.size::fp:=fun b h1 h2 z=>(NR.mp z).elim h2 h1
 have hDC:s.heap.objs.size≠C:=by rw[hC];exact Ox (SO _)
 have tr:∀b u,H1 b=some u->b≠s.heap.objs.size:=fun b u e z=>by rw[z,hD0] at e;cases e
 have trC:∀b u,H1 b=some u->b≠C:=fun b u e z=>by
  have:=J.free;rw[z] at e;have q:H1 C=none:=J.free;rw[q] at e;cases e
 obtain⟨its,n,rv,eD⟩:=new;have B:Un (frs X.stack) (s.heap.objs.size::fp) H H1 (s.heap.push oD) s1.heap:=J.base;refine I.call' (s':={ s1 with heap:=h' }) (ch:=fp) J.os ⟨fun b o e q h1 h2=>?_,fun b o e q h1 h2=>?_,fun b o e q h2=>?_,fun b o e h2=>?_,fun b xs e=>?_,fun b o u e=>?_,fun b ps e=>?_⟩ (fun b u e=>?_) J.bare fun b hb=>?_
 .exact(hsb.2 b (nC b o e)).trans (B.keep b o (up b o e) q h1 (nx b h2 (nD b o e)))
 .obtain⟨sl,z⟩:=B.slot b o (up b o e) q h1 (nx b h2 (nD b o e))
  exact⟨sl,(hsb.2 b (nC b o e)).trans z⟩
 .rw[aS (nD b o e)]
  exact B.free b o (up b o e) q (nx b h2 (nD b o e))
 .obtain⟨o',z⟩:=B.there b o (up b o e) (nx b h2 (nD b o e))
  exact⟨o',(hsb.2 b (nC b o e)).trans z⟩
 .have z:=B.tups b xs e
  rw[aS (tr b _ z)];exact z
 .have z:=B.frzs b o u e
  rw[aS (tr b _ z)];exact z
 .obtain⟨more,z⟩:=B.tbls b ps e
  exact⟨more,by rw[aS (tr b _ z)];exact z⟩
 .by_cases hb:b=s.heap.objs.size
  .subst hb
   rw[bx] at e;cases e;exact⟨hz,its,n,rv,(hsb.2 _ hDC).trans eD⟩
  .rw[aS hb] at e
   refine(J.hok b u e).stay (fun c v hc q=>(hsb.2 c ?_).trans q) (fun c q=>by rw[aS (tr c _ q)];exact q) fun c xs q=>by rw[aS (tr c _ q)];exact q
   rcases hc with z|z
   .rw[z];exact trC b u e
   .exact trC c _ z
 .obtain⟨_,f1,_,f3,f4,f5⟩:=hf b hb
  exact⟨f3,f1,f4,f5⟩
end
def PTs(X:Cx)(ifs:List Expr)(t:TT):Prop:=
 ∀(pins:List (Addr×Obj)) (s:NL) (σ:St) (H:Hp) (Q:Bool->Hp->Prop) (E:NK->NL->Prop),Inv X pins σ H s->t σ H Q ->
  Oo (Ot X.prog X.w) X.A (forIn ifs true fun c r=>if r=true then do
   let ok ←VE c X.env (eval c X.env)
   pure (RI ok) else pure (RI r)) (TP X pins σ Q) E s
theorem D7{X:Cx}:PTs X [] (fun _ H Q=>Q true H):=fun _ _ _ H _ _ I h=>wpAny_tests_nil ⟨H,I,h⟩
theorem D6{X:Cx}{c:Expr}{t:TT}(hx:X.xe=fun _ _=>False)(h:PT X c t):PTs X [c] t:=fun pins s σ H Q _ I q=>
 wpAny_tests_one (PX (h pins s σ H Q I q) (fun _ _ z=>z) fun e s' z=>by rw[hx] at z;exact z.elim)
def si(σ:St)(J:It)(tt:TT)(te:TE)(W:Nat->Nat->List V->Hp->Prop)(D:List V->Hp->Prop):Prop:=∀i m ys H,W i m ys H ->
 (J.stop i H/\ys.length<=NS/\D ys H)\/(J.go i H/\ys.length<NS/\∃N:List V->Hp->Prop,(∀ys' H',N ys' H'->∃m',m' < m/\W (i+1) m' ys' H')/\∀v H',J.yld i H v H'->tt (some v::σ) H' fun b H2=>
  if b=true then te (some v::σ) H2 fun y H3=>N (ys++[y]) H3 else N ys H2)
section
variable {X:Cx}{pins:List (Addr×Obj)}{σ:St}{H:Hp}{s:NL}{x:Str}{scope:Qg}{N':List Str}
theorem B5{fp:List Addr}{it C:Addr}{tn:Nat->Heap->Prop}{J:It}{oD:Obj}{elt iter:Expr}{ifs:List Expr}{px pos:Pos}{te:TE}{tt:TT}{W:Nat->Nat->List V->Hp->Prop}{Dn:List V->Hp->Prop}
  {R:Result->NL->Prop}{σ':St}{s4:NL}{m0:Nat} (hcalm:X.calm=true) (S:CS X.env.scope X.N x scope N') (hf:∀b∈fp,dR X pins H b) (ho:∀b∈fp,∃o,s.heap.get? b=some o) (hCd:C=(s.heap.push oD).objs.size)
  (T:Turn X.prog X.w X.K (.Name x px) J fp it tn) (I4:Inv (cT X x scope C { s with heap:=s.heap.push oD } H (s.heap.objs.size::fp) N') [] (none::σ) H s4) (st4:tn 0 s4.heap) (hD4:s4.heap.get? s.heap.objs.size=some { cls:=.type "list",data:=.seq #[] 0 })
  (hDn:H s.heap.objs.size=none) (hte:PE (cT X x scope C { s with heap:=s.heap.push oD } H (s.heap.objs.size::fp) N') elt te) (htt:PTs (cT X x scope C { s with heap:=s.heap.push oD } H (s.heap.objs.size::fp) N') ifs tt)
  (w0:W 0 m0 [] H) (turn:si σ J tt te W Dn)
  (hR:∀s1 H1 σ1 ys its n,Inv (cT X x scope C { s with heap:=s.heap.push oD } H (s.heap.objs.size::fp) N') [] σ1 H1 s1->H1 s.heap.objs.size=none->Vals ys its->s1.heap.get? s.heap.objs.size=some { cls:=.type "list",data:=.seq its.toArray n }->ys.length<=NS->Dn ys H1->R (.ok .next) s1) :
  Vx (Ot X.prog X.w) X.A (.compLoop (.ListComp elt [⟨.Name x px,iter,ifs,0⟩] scope pos) 0 (.ref it) (.ref s.heap.objs.size) (TJ scope (cL X.env scope.names []) C X.env)) R s4:=by
 have hC:C=s.heap.objs.size+1:=by rw[hCd];exact Sd ..
 generalize hX:cT X x scope C { s with heap:=s.heap.push oD } H (s.heap.objs.size::fp) N'=X' at *
 have xP:X'.prog=X.prog:=by rw[←hX]
 have xW:X'.w=X.w:=by rw[←hX]
 have xK:X'.K=X.K:=by rw[←hX]
 have xA:X'.A=X.A:=by rw[←hX]
 have xE:X'.env=TJ scope (cL X.env scope.names []) C X.env:=by rw[←hX]
 have xC:X'.calm=true:=by rw[←hX];exact hcalm
 have xex:X'.ex=s.heap.objs.size::fp:=by rw[←hX]
 have xpn:X'.pn=[]:=by rw[←hX]
 have xxe:X'.xe=fun _ _=>False:=by rw[←hX]
 have xN:X'.N=x::N':=by rw[←hX]
 have xL:X'.env.locals=C:=by rw[xE];rfl
 have xloc:X'.env.scope.names.lookup x=some .local:=by rw[xE];exact lookup_relabel_local S.hx
 have lt:∀b∈fp,b<s.heap.objs.size:=fun b hb=>let ⟨_,e⟩:=ho b hb;Oc e
 have fpk:∀{pl:List (Addr×Obj)}{H':Hp},(∀p∈pl,p.1=s.heap.objs.size)->(∀b∈fp,H' b=none)->∀b∈fp,dR X' pl H' b:=fun {pl H'} hp hn b hb=>by
  have okk:=I4.ok
  have hm:b∈X'.ex:=by rw[xex];exact NJ _ hb
  refine⟨hn b hb,(okk.exf b hm).1,okk.exfs b hm,.inl hm,(okk.exf b hm).2,fun p hpl z=>?_⟩;rw[xpn] at hpl;have q1:=hp p (by simpa using hpl);have q2:=lt b hb;rw[←z,q1] at q2;exact P0 _ q2
 have dok:∀{pl:List (Addr×Obj)}{H':Hp},(∀p∈pl,p.1∈fp)->H' s.heap.objs.size=none->dR X' pl H' s.heap.objs.size:=fun {pl H'} hp hn=>by
  have okk:=I4.ok
  have hm:s.heap.objs.size∈X'.ex:=by rw[xex];exact NI
  refine⟨hn,(okk.exf _ hm).1,okk.exfs _ hm,.inl hm,(okk.exf _ hm).2,fun p hpl z=>?_⟩;rw[xpn] at hpl;have q2:=lt p.1 (hp p (by simpa using hpl));rw[z] at q2;exact P0 _ q2
 refine codeAny_compLoop_tests (I:=fun m s'=>∃i σx H' ys its n,Inv X' [] (σx::σ) H' s'/\tn i s'.heap/\(∀b∈fp,H' b=none)/\H' s.heap.objs.size=none/\Vals ys its/\s'.heap.get? s.heap.objs.size=some { cls:=.type "list",data:=.seq its.toArray n }/\W i m ys H') ?_ m0
  ⟨0,none,H,[],[],0,I4,st4,fun b hb=>(hf b hb).1,hDn,.nil,hD4,w0⟩
 rintro m s5 ⟨i,σx,H5,ys,its,n,I5,st5,fr5,d5,rv,e5,w5⟩
 have I5d:Inv X' ([]++gy [s.heap.objs.size] s5.heap) (σx::σ) H5 s5:=I5.pinned (fun b hb=>by
   have e:b=s.heap.objs.size:=by simpa using hb
   rw[e];exact dok (fun p hp=>absurd hp (by simp)) d5) fun b hb=>by
   have e:b=s.heap.objs.size:=by simpa using hb
   rw[e];exact⟨_,e5,fun v z=>by cases z⟩
 have pD:([]++gy [s.heap.objs.size] s5.heap:List (Addr×Obj))=[(s.heap.objs.size,{ cls:=.type "list",data:=.seq its.toArray n })]:=by
  simp[gy,e5]
 rw[pD] at I5d
 have p1:∀p∈[(s.heap.objs.size,({ cls:=.type "list",data:=.seq its.toArray n }:Obj))],p.1=s.heap.objs.size:=fun p hp=>by
  have e:p=(s.heap.objs.size,{ cls:=.type "list",data:=.seq its.toArray n }):=by simpa using hp
  rw[e]
 have hsz:its.length=ys.length:=rv.length.symm
 rcases turn i m ys H5 w5 with⟨stop,hz,dn⟩|⟨go,hz,N,hN,step⟩
 .have q:=T.done X' xP xW xK xC i _ s5 (σx::σ) H5 (Ww (Ot X.prog X.w) X.A (TJ scope (cL X.env scope.names []) C X.env) fun e s'=>R (.error e) s') I5d (fpk p1 fr5) st5 stop
  rw[xA] at q;refine PX q (fun r s6 z=>?_) fun _ _ z=>z;obtain⟨rfl,I6⟩:=z;refine hR s6 H5 (σx::σ) ys its n ?_ d5 rv (I6.pin _ (Om _ (NY.mpr rfl))).1 hz dn;exact I6.pins_of fun p hp=>absurd hp (by simp)
 .have q:=T.item X' xP xW xK xC i _ s5 (σx::σ) H5 (Ww (Ot X.prog X.w) X.A (TJ scope (cL X.env scope.names []) C X.env) fun e s'=>R (.error e) s') I5d (fpk p1 fr5) st5 go
  rw[xA] at q;refine PX q (fun r s6 z=>?_) fun _ _ z=>z;obtain⟨u,rfl,z⟩:=z;dsimp only;have z':Oo (Ot X.prog X.w) X.A (pure ()) _ _ s6:=z;refine NP (m:=pure ()) (f:=fun _=>Tz (.Name x px) (TJ scope (cL X.env scope.names []) C X.env) u) (PX z' (fun _ s7 z=>?_) fun _ _ z=>z);obtain⟨v,H7,I7,rv7,y7,st7,fr7⟩:=z;have I7p:=I7.pinned (fpk p1 fr7) (T.obj _ _ st7);rw[←xE]
  have nd:X'.N.Nodup:=by rw[xN];exact S.nd
  have hi0:X'.N[0]? = some x:=by rw[xN];rfl
  refine UD (qh (E:=Ww (Ot X.prog X.w) X.A X'.env fun e s'=>R (.error e) s') (i:=0) I7p nd hi0 (.inl xloc) rv7 (fun s8 I8=>?_) (.inr xloc));have I8':Inv X' _ (some v::σ) H7 s8:=I8;have t8:=htt _ s8 (some v::σ) H7 _ (Ww (Ot X.prog X.w) X.A X'.env fun e s'=>R (.error e) s') I8' (step v H7 y7);rw[xP,xW,xA] at t8;refine PX t8 (fun ok s9 z=>?_) fun _ _ z=>z;obtain⟨H9,I9,q9⟩:=z
  have back:∀{s':NL}{H':Hp}{σ2:St},Inv X' ([(s.heap.objs.size,({ cls:=.type "list",data:=.seq its.toArray n }:Obj))]++gy fp s7.heap) σ2 H' s' ->
    tn (i+1) s'.heap/\(∀b∈fp,H' b=none)/\H' s.heap.objs.size=none/\s'.heap.get? s.heap.objs.size=some { cls:=.type "list",data:=.seq its.toArray n }/\Inv X' [] σ2 H' s':=fun {s' H' σ2} I'=>by
   refine⟨T.keep _ _ _ st7 fun b hb o e=>(I'.pin (b,o) (Om _ (Om _ (jm hb e)))).1,fun b hb=>?_,?_,?_,I'.pins_of fun p hp=>absurd hp (by simp)⟩
   .obtain⟨o,e,_⟩:=T.obj _ _ st7 b hb
    exact(I'.pin (b,o) (Om _ (Om _ (jm hb e)))).2.1
   .exact(I'.pin (s.heap.objs.size,_) (Om _ (PB _ (NY.mpr rfl)))).2.1
   .exact(I'.pin (s.heap.objs.size,_) (Om _ (PB _ (NY.mpr rfl)))).1
  cases ok with
  |false=>
   simp only[QA,if_false] at q9 ⊢;obtain⟨m',hm,w9⟩:=hN _ _ q9;obtain⟨a1,a2,a3,a4,a5⟩:=back I9;exact⟨m',hm,i+1,some v,H9,ys,its,n,a5,a1,a2,a3,rv,a4,w9⟩
  |true=>
   simp only[if_true] at q9 ⊢;have t9:=hte _ s9 (some v::σ) H9 _ I9 q9;rw[xP,xW,xA,xxe] at t9;refine PX t9 (fun u2 s10 z=>?_) fun _ _ z=>z.elim;obtain⟨y,H10,I10,r10,q10⟩:=z;obtain⟨m',hm,w10⟩:=hN _ _ q10;obtain⟨a1,a2,a3,a4,a5⟩:=back I10;refine wpAny_list_append_plain ⟨n,a4⟩ (fun h' pl sb=>?_) (by rw[NX];omega);obtain⟨n',e'⟩:=pl;have D0:=dok (pl:=[]) (fun p hp=>absurd hp (by simp)) a3;refine⟨m',hm,i+1,some v,H10,ys++[y],its++[u2],n',a5.turned (t':=s10.toks) (fun b o hb e=>(sb.2 b hb).trans e) D0.1 D0.2.1 D0.2.2.2.1 D0.2.2.2.2.1 D0.2.2.2.2.2,?_,a2,a3,rv.append (.cons r10 .nil),by simpa using e',w10⟩;exact T.keep _ _ _ a1 fun b hb o e=>(sb.2 b (Ox (lt b hb))).trans e
end
section
variable {X:Cx}{x:Str}{scope:Qg}{N':List Str}{elt iter:Expr}{ifs:List Expr}{px pos:Pos}{wi:TI}{te:TE}{tt:TT}
def yB(wi:TI)(tt:TT)(te:TE):TE:=fun σ H Q=>wi σ H fun J H1=>∃W:Nat->Nat->List V->Hp->Prop,(∃m,W 0 m [] H1)/\si σ J tt te W fun ys H=>∀p,H p=none->Q (.ref p) (upd H p (.lst ys))
theorem Ei(hc:X.calm=true)(S:CS X.env.scope X.N x scope N')(hi:PI X (.Name x px) iter wi)(he:∀C s0 H0 ex,PE (cT X x scope C s0 H0 ex N') elt te)
  (ht:∀C s0 H0 ex,PTs (cT X x scope C s0 H0 ex N') ifs tt) (hs:∀v,O7 iter X.env v=pure v:=by intro _;rfl):PE X (.ListComp elt [⟨.Name x px,iter,ifs,0⟩] scope pos) (yB wi tt te):=by
 intro pins s σ H Q I h;rw[eval_ListComp];refine wpAny_comprehension_free (use:=none) rfl hs (Be (vA I S)) S.kind S.names (thn (hi pins s σ H _ I h) fun v s1 h1=>thn h1 fun itv s2 h2=>?_);obtain⟨it,fp,tn,J,H2,rfl,I2,T,st2,f2,W,⟨m0,w0⟩,turn⟩:=h2
 have ho:∀b∈fp,∃o,s2.heap.get? b=some o:=fun b hb=>let ⟨o,e,_⟩:=T.obj _ _ st2 b hb;⟨o,e⟩
 refine OW (wpAny_newFunctionEnv S.nocell (by intro y hy;simp at hy) (fun h' hns hsb=>?_) S.kind);have I4:=Bd (x:=x) (scope:=scope) (tk:=s2.toks+([]:List (Str×NK)).length) I2 S f2 ho hns hsb
 have up3:∀b o,(s2.heap.push { cls:=.type "list",dict:=none,data:=.seq ([]:List NK).toArray }).get? b=some o->h'.get? b=some o:=fun b o e=>
  (hsb.2 b (Ox (Oc e))).trans (NO _ e)
 have st4:tn 0 h':=T.keep _ _ _ st2 fun b _ o e=>up3 b o (NO _ e)
 have loop:=B5 (elt:=elt) (iter:=iter) (ifs:=ifs) (pos:=pos) (R:=compPost (Ot X.prog X.w) X.A X.xe none (EP X pins σ Q) (.ref s2.heap.objs.size) (s2.heap.push { cls:=.type "list",dict:=none,data:=.seq ([]:List NK).toArray }).objs.size) (σ':=σ)
  hc S f2 ho rfl T I4 st4 (up3 _ _ (On _ rfl)) (I2.hok.fresh (NT _)) (he _ _ _ _) (ht _ _ _ _) w0 turn fun s5 H5 σ5 ys its n J5 d5 rv e5 hz dn=>by
   obtain⟨m,hn,_⟩:=J5.loc;exact⟨m,hn,fun h'' sb=>⟨.ref s2.heap.objs.size,_,Bc I2 f2 rfl J5 sb d5 ⟨its,n,rv,e5⟩ hz,rfl,dn _ d5⟩⟩
 exact codeAny_compStart_list loop (T.self X.A 0 _ _ _ st4 loop)
end
section
variable {σ:St}{tt:TT}{te:TE}
end
def Its(z:Str):It:=⟨fun i _=>i<z.cps.size,fun i H v H'=>H'=H/\∃c,z.cps[i]? = some c/\v=.str ⟨#[c]⟩,fun i _=>z.cps.size<=i⟩
theorem uX{P:Og}{w:Ow}{K:Frag}{tg:Expr}(z:Str)(t:Tok)(ty:String)(it:Addr)(hty:ty="str_ascii_iterator"\/ty="str_iterator") :
  Turn P w K tg (Its z) [it] it (fun i h=>h.IsStrIter it ty z t i) where
 mem:=by simp
 obj:=fun i h st b hb=>by
  have e:b=it:=by simpa using hb
  subst e;obtain⟨o,e,c,d⟩:=st;exact⟨o,e,fun v q=>by rw[d] at q;cases q⟩
 keep:=fun i h h' st k=>let ⟨o,e,r⟩:=st;⟨o,k it (by simp) o e,r⟩
 item:=by
  intro X hP hw hK hc i pins s σ H E I hf st hg;subst hP hw hK;have hi:i<z.cps.size:=hg;obtain⟨f0,f1,f2,f3,f4,f5⟩:=hf it (by simp)
  have fin:∀h',h'.IsStrIter it ty z t (i+1)->Rh it s.heap h'->∃u,(some (SJ ⟨#[z.cps[i]]⟩ s.toks):Option NK)=some u /\
    Oo (Ot X.prog X.w) X.A (RH tg (.ref it) u) (fun _ s2=>∃x H',Inv X pins σ H' s2/\RelV x u/\(Its z).yld i H x H'/\s2.heap.IsStrIter it ty z t (i+1)/\∀b∈[it],H' b=none) E { s with heap:=h',toks:=s.toks+1 }:=fun h' st' sb=>by
   have I1:Inv X pins σ H { s with heap:=h',toks:=s.toks+1 }:=I.turned (fun b o hb e=>(sb.2 b hb).trans e) f0 f1 f3 f4 f5;obtain⟨o,e,c,d⟩:=id st';refine⟨_,rfl,lQ (s:={ s with heap:=h',toks:=s.toks+1 }) (n:=ty) e c d ?_ ⟨.str ⟨#[z.cps[i]]⟩,H,I1,⟨_,rfl⟩,⟨rfl,z.cps[i],by simp[hi],rfl⟩,st',fun b hb=>(hf b hb).1⟩⟩
   rcases hty with e|e <;> (rw[e];decide)
  rcases hty with e|e
  .subst e
   exact wpAny_pyNext_ascii_item st (c:=z.cps[i]) (by simp[hi]) fin
  .subst e
   exact wpAny_pyNext_wide_item st (c:=z.cps[i]) (by simp[hi]) fin
 done:=by
  intro X hP hw hK hc i pins s σ H E I hf st hg;subst hP hw hK;have hi:z.cps.size<=i:=hg;obtain⟨f0,f1,f2,f3,f4,f5⟩:=hf it (by simp);have fin:∀h',Heap.ExtBut it s.heap h'->(none:Option NK)=none/\Inv X pins σ H { s with heap:=h' }:=fun h' eb=>⟨rfl,I.turned (t':=s.toks) (fun b o hb e=>eb b o hb e) f0 f1 f3 f4 f5⟩
  rcases hty with e|e
  .subst e
   exact wpAny_pyNext_ascii_end (I.ok.hd hc) st (by simp;omega) fin
  .subst e
   exact wpAny_pyNext_wide_end (I.ok.hd hc) st (by simp;omega) fin
 self:=fun _ _ _ _ _ st h=>by
  rcases hty with e|e
  .subst e
   exact wpAny_pyIter_striter_ascii st h
  .subst e
   exact wpAny_pyIter_striter_wide st h
section
variable {X:Cx}{tg:Expr}
end
theorem all_range(bs:List Bool)(n:Nat)(hn:n=bs.length):(Pg n).all (fun i=>bs.getD i false)=bs.all id:=by
 subst hn;rw[PQ,Oe,Oe];constructor
 .intro h b hb
  obtain⟨i,hi,rfl⟩:=List.getElem_of_mem hb;have:=h i (RY.mpr hi);simpa[T9,hi] using this
 .intro h i hi
  have hi':=RY.mp hi;have:=h bs[i] (U7 hi');simpa[T9,hi'] using this
theorem tP:∀(ns:List Int) (k:Nat),k<=ns.length->preSum (fun i=>ns.getD i 0) k=(ns.take k).sum
 |ns,0,_=>by simp[preSum]
 |ns,k+1,h=>by
  have hk:k<ns.length:=h;have ih:=tP ns k (Qx hk)
  have e:(ns.take (k+1)).sum=(ns.take k).sum+ns.getD k 0:=by
   rw[Sz,List.sum_append];simp[T9,hk]
  rw[e,←ih];rfl
section
variable {X:Cx}
theorem Dp(hc:X.calm=true):CallR X (.builtin "all") (fun xs H Q=>∃(p:Addr) (bs:List Bool),xs=[.ref p]/\SqL X.K H p (bs.map V.bl)/\Q (.bl (bs.all id)) H):=by
 intro pins s σ H xs us Q I r h;obtain⟨p,bs,rfl,hq,q⟩:=h;obtain⟨u,rfl,ru⟩:=vals1 r;cases ru;obtain⟨its,rv,pl,hz⟩:=I.list hq
 have hlen:its.length=bs.length:=by have:=rv.length;simpa using this.symm
 have hlt:p<s.heap.objs.size:=by
  obtain⟨o,n,e,_⟩:=pl;exact Oc e
 refine call_all_walk (Rm pl.isList ?_);refine⟨s.heap.objs.size,_,_,_,_,_,fun i=>bs.getD i false,rfl,WO (A:=X.A.in1) (I.ok.hd hc) _ p (Ox hlt) its.toArray,⟨⟨_,On _ rfl,rfl,rfl⟩,?_⟩,fun i v s' Q' E' hv hQ'=>?_,fun h' tk hk=>?_⟩
 .obtain⟨o,n,e,r⟩:=pl.isList
  exact⟨o,NO _ n,e,r⟩
 .have hi:i<its.length:=by
   have:=(Se.mp hv).1;simpa using this
  have hi2:i<bs.length:=by omega
  obtain⟨u,hu,ru⟩:=rv.get (i:=i) (x:=.bl bs[i]) (by simp[hi2])
  have e:v=u:=by
   have hv':its[i]? = some v:=by simpa using hv
   rw[hu] at hv';exact(OL hv').symm
  subst e;cases (show v=Us bs[i] from ru);refine O6 ?_
  have e:bs[i]=bs.getD i false:=by simp[T9,hi2]
  rw[e];exact hQ'
 .have e:(Pg its.toArray.size).all (fun i=>bs.getD i false)=bs.all id:=all_range bs _ (by simpa using hlen)
  rw[e];exact⟨.bl _,H,I.kept (t':=tk) fun b o q=>hk b o (by simp;exact Ox (Oc q)) (NO _ q),rfl,q⟩
theorem EH{ns:List Int}{its:List NK}(rv:Vals (ns.map V.int) its){i:Nat}{v:NK}(hv:its.toArray[i]? = some v):∃t,v=.int (ns.getD i 0) t:=by
 have hlen:its.length=ns.length:=by have:=rv.length;simpa using this.symm
 have hi:i<its.length:=by
  have:=(Se.mp hv).1;simpa using this
 have hi2:i<ns.length:=by omega
 obtain⟨u,hu,ru⟩:=rv.get (i:=i) (x:=.int ns[i]) (by simp[hi2])
 have e:v=u:=by
  have hv':its[i]? = some v:=by simpa using hv
  rw[hu] at hv';exact(OL hv').symm
 subst e;obtain⟨t,e⟩:=(show ∃t,v=TY ns[i] t from ru);refine⟨t,?_⟩;rw[e];simp[T9,hi2]
theorem Dm(hc:X.calm=true):CallR X (.builtin "sum") (fun xs H Q=>∃(p:Addr) (ns:List Int),xs=[.ref p]/\SqL X.K H p (ns.map V.int)/\Q (.int ns.sum) H):=by
 intro pins s σ H xs us Q I r h;obtain⟨p,ns,rfl,hq,q⟩:=h;obtain⟨u,rfl,ru⟩:=vals1 r;cases ru;obtain⟨its,rv,pl,hz⟩:=I.list hq
 have hlen:its.length=ns.length:=by have:=rv.length;simpa using this.symm
 have hlt:p<s.heap.objs.size:=by
  obtain⟨o,n,e,_⟩:=pl;exact Oc e
 refine call_sum_walkG (Rm pl.isList ?_);refine⟨s.heap.objs.size,_,_,_,_,_,fun i=>ns.getD i 0,rfl,WO (A:=X.A.in1) (I.ok.hd hc) _ p (Ox hlt) its.toArray,⟨⟨_,On _ rfl,rfl,rfl⟩,?_⟩,fun b hb=>?_,fun i v hv=>EH rv hv,fun h' tk t' hk=>?_⟩
 .obtain⟨o,n,e,r⟩:=pl.isList
  exact⟨o,NO _ n,e,r⟩
 .rw[Sd]
  rcases(by simpa using hb:b=s.heap.objs.size\/b=p) with e|e
  .rw[e];exact SO _
  .rw[e];exact QK hlt
 .have e:preSum (fun i=>ns.getD i 0) its.toArray.size=ns.sum:=by
   rw[tP ns _ (by simp;omega)];rw[Pa (by simp;omega)]
  rw[e];exact⟨.int _,H,I.kept (t':=tk) fun b o q=>hk b o (by simp;exact Ox (Oc q)) (NO _ q),⟨t',rfl⟩,q⟩
end
open K1 (kS je)
section
variable {prog:Og}{w:Ow}{A:OD}{R:Result->NL->Prop}{it S:Addr}{fp wr:List Addr}{P:Nat->NK->Prop}{St:Nat->Heap->Prop}{ns:List Int}{kw:List (Str×NK)}
end
section
variable {X:Cx}
end
section
variable {X:Cx}{e ed:Expr}{te td:TE}{p pos kpos:Pos}
end
section
variable {X:Cx}
theorem BA:OpR X (Oh .IsNot) (fun x y H Q=>∃b c,x=.bl b/\y=.bl c/\Q (.bl (b != c)) H):=by
 intro pins s σ H x y v u Q I rx ry h;obtain⟨b,c,rfl,rfl,q⟩:=h;cases rx;cases ry;exact isnot_bool ⟨.bl (b != c),H,I,rfl,q⟩
theorem op_catG:OpR X (Pu .Add) (fun x y H Q=>∃a b xs ys,x=.ref a/\y=.ref b/\SqT X.K H a xs/\SqT X.K H b ys/\xs.length+ys.length<=NS /\
  (xs=[]->Q (.ref b) H)/\(xs≠[]->ys=[]->Q (.ref a) H)/\(xs≠[]->ys≠[]->∀p,H p=none->Q (.ref p) (upd H p (.tup (xs++ys))))):=by
 intro pins s σ H x y v u Q I rx ry h;obtain⟨a,b,xs,ys,rfl,rfl,ha,hb,hz,q0,q1,q2⟩:=h
 by_cases hx:xs=[]
 .cases rx
  cases ry;obtain⟨its,r1,p1,_⟩:=I.tuple ha;obtain⟨its2,r2,p2,_⟩:=I.tuple hb;have hv:its=[]:=r1.nil_iff.mpr hx;obtain⟨⟨cls,dd,data,sl⟩,ho,hc,n,hd⟩:=id p1;obtain⟨⟨cls2,dd2,data2,sl2⟩,ho2,hc2,n2,hd2⟩:=id p2;simp only at hc hd hc2 hd2;subst hc hd hc2 hd2
  exact S4 ⟨_,ho,rfl⟩ ⟨_,ho2,rfl⟩ SK Uk Ri Rb (QY _ _)
   (tuple_addW0 a b its.toArray its2.toArray n n2 dd dd2 sl sl2 (by simp[hv])) ⟨ho,ho2,⟨.ref b,H,I,rfl,q0 hx⟩⟩
 .exact Er pins s σ H _ _ v u Q I rx ry ⟨a,b,xs,ys,rfl,rfl,ha,hb,hx,hz,q1 hx,q2 hx⟩
theorem FU:SlR X (fun x lo hi H Q=>∃z:Str,x=.str z/\z.length<=NS/\Q (.str (OZ z lo hi)) H):=by
 intro pins s σ H x v vl vu lo hi sl Q I rx hs pl pu h;obtain⟨z,rfl,hz,q⟩:=h;obtain⟨t,rfl⟩:=rx
 have fin:∀l u:Option (Int×Tok),l.map (·.1)=lo->u.map (·.1)=hi->s.heap.IsSlice sl l u none->Oo (Ot X.prog X.w) X.A (Q4 (.str z t) (.ref sl)) (EP X pins σ Q) X.xe s:=fun l u el eu h=>by
  refine wpAny_getItem_str_slice h rfl ?_;refine post_val_or_made (fun _=>?_) fun t' k=>?_
  .have:=sliceIndices_le (l.map (·.1)) (u.map (·.1)) z.length
   have e:=List.length_filterMap_le (fun i=>z.cps[i]?) (Vj z l u none);show ((Vj z l u none).filterMap (z.cps[·]?)).toArray.size<=NS;rw[NX];unfold Vj at e ⊢;simp only[Option.map_none,SN] at e ⊢;omega
  .refine⟨.str (OZ z lo hi),H,I.tok _,⟨t',?_⟩,q⟩
   rw[←el,←eu];rfl
 refine⟨"str",_,PySem.F.slot_str_getitem.lookup,Rw s z t,?_⟩
 cases pl with
 |none=>
  cases pu with
  |none=>exact fin none none rfl rfl hs
  |int j u=>exact fin none (some (j,u)) rfl rfl hs
 |int i u=>
  cases pu with
  |none=>exact fin (some (i,u)) none rfl rfl hs
  |int j u'=>exact fin (some (i,u)) (some (j,u')) rfl rfl hs
theorem op_mulS:OpR X (Pu .Mult) (fun x y H Q=>∃z k,x=.str z/\y=.int k/\0<=k/\k<=2000/\z.length<=1000/\Q (.str (QP z k)) H):=by
 intro pins s σ H x y v u Q I rx ry h;obtain⟨z,k,rfl,rfl,h1,h2,h3,q⟩:=h;obtain⟨t,rfl⟩:=rx;obtain⟨t',rfl⟩:=ry;have hm:z.length*k.toNat<=1000*2000:=TK h3 (by omega);refine SB.mul ⟨?_,fun g1 g2=>?_,fun g1 g2=>?_⟩ fun t' k'=>⟨.str _,H,I.tok _,⟨t',rfl⟩,q⟩
 .simp;omega
 .have hk:1<=k:=by simp at g1;omega
  have e1:(1000:Int)<=(2^63-1) / k:=by
   rw[Int.le_ediv_iff_mul_le (by omega)];omega
  omega
 .unfold Ug
  simp[NS];omega
end
theorem AR{ys:List Str}:∀{us:List NK},Vals (ys.map V.str) us->StrsAre us ys:=by
 induction ys with
 |nil=>intro us r;rw[Tc] at r;cases r;exact .nil
 |cons y ys ih=>
  intro us r;rw[Oi] at r
  cases r with
  |cons r1 r2=>
   obtain⟨t,e⟩:=r1;subst e;exact .cons y t (ih r2)
section
variable {X:Cx}
end
structure Fn(P:Og)(w:Ow)(K:Frag)(mg:Str->Option NK)(base:Heap)(name:Str)(ps:List Str)(k:Nat)(sp:Sp):Prop where
 ex:∃f fd,FnOk P w K mg base CX0 k f fd ps sp/\Binds K fd ps []/\Ph K (.ref f)=true/\mg name=some (.ref f)
section
variable {X:Cx}{name:Str}{ps:List Str}{k:Nat}{sp:Sp}{e:Expr}{es:List Expr}{t:TA}{p pos:Pos}
theorem yI(F:Fn X.prog X.w X.K X.mg X.base name ps k sp)(hr:Room k X.A)(hg:Gl X name)(ha:PA X (e::es) t)(hdb:(name == ("__debug__" : Str))=false:=by decide)
  (he:NU (e::es) X.env=(false,eval e X.env)::NU es X.env:=by rfl) (hpl:(O4 pos (NU es X.env)).any (·.1)=false:=by rfl):PE X (.Call (.Name name p) (e::es) [] pos) (yC sp [] E0 t):=by
 obtain⟨f,fd,h1,h2,h3,h4⟩:=F.ex;exact Ek h1 hr hg h4 h3 h2 .nil HV ha hdb he hpl
end
theorem Cy{X:Cx}{x:Str}{scope osc:Qg}{N N':List Str}{elt iter:Expr}{ifs:List Expr}{px pos:Pos}{wi:TI}{te:TE}{tt:TT}(S:CS osc N x scope N')(hi:PI X (.Name x px) iter wi)
  (he:∀C s0 H0 ex,PE (cT X x scope C s0 H0 ex N') elt te) (ht:∀C s0 H0 ex,PTs (cT X x scope C s0 H0 ex N') ifs tt) (hc:X.calm=true:=by rfl) (hs:X.env.scope=osc:=by rfl) (hN:X.N=N:=by rfl)
  (hf:∀v,O7 iter X.env v=pure v:=by intro _;rfl):PE X (.ListComp elt [⟨.Name x px,iter,ifs,0⟩] scope pos) (yB wi tt te):=by
 subst hs hN;exact Ei hc S hi he ht hf
end L2
namespace D
open PySem PySem.Spec PyProof.Rows L2
inductive Gh(P:Hp->Prop):Hp->Prop where
 |done {H:Hp}:P H->Gh P H
 |frz {H:Hp}{a:Addr}{kvs:List (Key×V)}:H a=some (.dK kvs)->(∀o,Gh P (upd H a (.frz o (.dK kvs))))->Gh P H
theorem Gh.imp{P P':Hp->Prop}{H:Hp}(g:Gh P H)(i:∀H,P H->P' H):Gh P' H:=by
 induction g with
 |done h=>exact .done (i _ h)
 |frz e _ ih=>exact .frz e ih
section
variable {X:Cx}{pins:List (Addr×Obj)}{σ:L2.St}{H:Hp}{s:NL}
theorem wO(I:Inv X pins σ H s){a:Addr}{kvs:List (Key×V)}(e:H a=some (.dK kvs)):∃o,Inv X pins σ (upd H a (.frz o (.dK kvs))) s:=by
 obtain⟨z,y,vs,kv,o,es,ep,eo,r⟩:=I.hok a _ e
 have U:∀{b:Addr}{u:HO},H b=some u->(∀ks,u≠.dK ks)->upd H a (.frz o (.dK kvs)) b=some u:=fun {b u} q n=>by
  rw[aS (fun z=>by subst z;rw[e] at q;cases q;exact n _ rfl)];exact q
 have hok:HOk X.prog X.w (upd H a (.frz o (.dK kvs))) s.heap:=fun b u q=>by
  by_cases hb:b=a
  .subst hb
   rw[bx] at q;cases q;exact⟨eo,(I.hok b _ e).stay (fun _ _ _ q=>q) (fun c q=>U q (fun _ z=>nomatch z)) fun c xs q=>U q (fun _ z=>nomatch z)⟩
  .rw[aS hb] at q
   exact(I.hok b u q).stay (fun _ _ _ q=>q) (fun c q=>U q (fun _ z=>nomatch z)) fun c xs q=>U q (fun _ z=>nomatch z)
 exact⟨o,I.un (h':=s.heap) (t':=s.toks) ⟨fun b ob q n _ _=>q,fun b ob q n _ _=>⟨_,q⟩,fun b ob q n _=>by rw[aS (fun z=>by subst z;rw[e] at n;cases n)];exact n,fun b ob q _=>⟨_,q⟩,fun b xs q=>U q (fun _ z=>nomatch z),
  fun b ob u q=>U q (fun _ z=>nomatch z),fun b ps q=>⟨#[],by rw[U q (fun _ z=>nomatch z)];simp⟩⟩ hok⟩
theorem Gh.ok{P:Hp->Prop}(g:Gh P H)(I:Inv X pins σ H s):∃H',Inv X pins σ H' s/\P H':=by
 induction g with
 |done h=>exact⟨_,I,h⟩
 |frz e _ ih=>
  obtain⟨o,I'⟩:=wO I e;exact ih o I'
end
section
variable {X:Cx}
theorem HM{st:Stmt}{t:TS}(h:PS X st t):PS X st (fun D σ H=>Gh (t D σ) H):=fun pins s σ H D I q=>by
 obtain⟨H',I',q'⟩:=q.ok I;exact h pins s σ H' D I' q'
theorem HS{e:Expr}{t:TE}(h:PE X e t):PE X e (fun σ H Q=>t σ H fun v H1=>Gh (Q v) H1):=fun pins s σ H Q I q=>
 thn (h pins s σ H _ I q) fun u s' ⟨v,H',I',r,q'⟩=>by
  obtain⟨H2,I2,q2⟩:=q'.ok I';exact⟨v,H2,I2,r,q2⟩
end
def j9(o:Obj):Nat:=match o.data with
 |.dict _ ep=>ep
 |_=>0
def Itd(a:Addr)(o:Obj)(kvs:List (Key×V)):It:=⟨fun i H=>H a=some (.frz o (.dK kvs))/\i<kvs.length,fun i H x H'=>H'=H/\∃k v,kvs[i]? = some (k,v)/\x=kV k,fun i H=>H a=some (.frz o (.dK kvs))/\i=kvs.length⟩
theorem p0{P:Og}{w:Ow}{H:Hp}{h:Heap}{a:Addr}{o:Obj}{kvs:List (Key×V)}(ok:HOk P w H h)(e:H a=some (.frz o (.dK kvs))):kvs.length<=NS/\(a == Pz)=false/\∃vs,KV kvs vs/\h.DictAt (cb P w) a vs (j9 o):=by
 obtain⟨e1,z,y,vs,kv,o',es,ep,e2,ed,dd,r⟩:=ok a _ e;rw[e1] at e2;cases e2;refine⟨z,y,vs,kv,o,es,e1,ed,?_,r⟩;unfold j9;rw[dd]
theorem keyV{P:Og}{w:Ow}{k:Key}{v:NK}(e:(cb P w).is k v=true):RelV (kV k) v:=by
 rcases eK (show fu k v=true from e) with⟨i,t,rfl,rfl⟩|⟨x,t,rfl,rfl⟩
 .exact⟨t,rfl⟩
 .exact⟨t,rfl⟩
theorem Iu{kvs:List (Key×V)}{vs:List (Key×NK)}(r:KV kvs vs){i:Nat}{k:Key}{x:NK}(e:vs[i]? = some (k,x)):∃v,kvs[i]? = some (k,v):=by
 have h:=r.keys
 have h1:(vs.map (·.1))[i]? = some k:=by rw[OS,e];rfl
 rw[←h,OS] at h1
 cases q:kvs[i]? with
 |none=>rw[q] at h1;cases h1
 |some p=>
  rw[q] at h1;cases h1;exact⟨p.2,rfl⟩
theorem Bm{P:Og}{w:Ow}{K:Frag}{tg:Expr}(a it:Addr)(o:Obj)(kvs:List (Key×V)):Turn P w K tg (Itd a o kvs) [it] it (fun i h=>h.IsKeyIter it a i kvs.length (j9 o)) where
 mem:=by simp
 obj:=fun i h st b hb=>by
  have e:b=it:=by simpa using hb
  subst e;obtain⟨o,e,c,d⟩:=st;exact⟨o,e,fun v z=>by rw[d] at z;cases z⟩
 keep:=fun i h h' st k=>st.at fun o e=>k it (by simp) o e
 item:=by
  intro X hP hw hK hc i pins s σ H E I hf st hg;subst hP hw hK;obtain⟨hg1,hg2⟩:=hg;obtain⟨z,y,vs,kv,dd⟩:=p0 I.hok hg1;obtain⟨f0,f1,f2,f3,f4,f5⟩:=hf it (by simp);have hl:=kv.length
  have ne:a≠it:=fun q=>by rw[q,f0] at hg1;cases hg1
  have W:=VJ (prog:=X.prog) (w:=X.w) (knd:=cb X.prog X.w) (I.ok.hd hc) it a ne vs (j9 o);refine W.item i s _ _ (by omega) ⟨by rw[←hl];exact st,dd⟩ fun v h' tk hv st' kk=>?_;obtain⟨k,x,h1,h2⟩:=hv;have I1:Inv X pins σ H { s with heap:=h',toks:=tk }:=I.turned (fun b o hb e=>kk b o (by simpa using hb) e) f0 f1 f3 f4 f5
  have st1:h'.IsKeyIter it a (i+1) kvs.length (j9 o):=by rw[hl];exact st'.1
  obtain⟨o1,e1,c1,d1⟩:=id st1;obtain⟨v0,h3⟩:=Iu kv h1;exact⟨v,rfl,lQ (s:={ s with heap:=h',toks:=tk }) e1 c1 d1 (by decide) ⟨kV k,H,I1,keyV h2,⟨rfl,k,v0,h3,rfl⟩,st1,fun b hb=>(hf b hb).1⟩⟩
 done:=by
  intro X hP hw hK hc i pins s σ H E I hf st hg;subst hP hw hK;obtain⟨hg1,hg2⟩:=hg;obtain⟨z,y,vs,kv,dd⟩:=p0 I.hok hg1;obtain⟨f0,f1,f2,f3,f4,f5⟩:=hf it (by simp);have hl:=kv.length
  have ne:a≠it:=fun q=>by rw[q,f0] at hg1;cases hg1
  have W:=VJ (prog:=X.prog) (w:=X.w) (knd:=cb X.prog X.w) (I.ok.hd hc) it a ne vs (j9 o);refine W.done s _ _ ⟨by rw[←hl,←hg2];rw[←hg2] at st;exact st,dd⟩ fun h' tk kk=>⟨rfl,I.turned (fun b o hb e=>kk b o (by simpa using hb) e) f0 f1 f3 f4 f5⟩
 self:=fun _ _ _ _ _ st h=>wpAny_pyIter_keyiter st h
inductive W where
 |d (x:NG)|tp (i:Nat)|loc (x:NG)
abbrev Tp:=List (List NG)
abbrev Rho:=List (Option W)
noncomputable def bnd{α β:Type}(o:Option (α×Tp))(k:α->Tp->Option β):Option β:=match o with
 |some (a,T)=>k a T
 |none=>none
theorem aP{α β:Type}{o:Option (α×Tp)}{k:α->Tp->Option β}{b:β}(h:bnd o k=some b):∃a T,o=some (a,T)/\k a T=some b:=by
 cases o with
 |none=>cases h
 |some p=>exact⟨p.1,p.2,rfl,h⟩
def l8:Key->NG
 |.inl i=>.int i
 |.inr x=>.str x
def TupAt(K:Frag)(O:Addr->Prop)(H:Hp)(a:Addr)(vs:List V):Prop:=(¬O a/\Rd H a (.tup vs))\/SqT K (fun _=>none) a vs
def LstAt(K:Frag)(O:Addr->Prop)(H:Hp)(a:Addr)(vs:List V):Prop:=(¬O a/\Rd H a (.lst vs))\/SqL K (fun _=>none) a vs
theorem FL{K:Frag}{H:Hp}{a:Addr}{vs:List V}(h:SqT K (fun _=>none) a vs):SqT K H a vs:=by
 rcases h with(h|⟨o,h⟩)|h
 .cases h
 .cases h
 .exact .inr h
theorem FM{K:Frag}{H:Hp}{a:Addr}{vs:List V}(h:SqL K (fun _=>none) a vs):SqL K H a vs:=by
 rcases h with(h|⟨o,h⟩)|h
 .cases h
 .cases h
 .exact .inr h
theorem TupAt.sq{K:Frag}{O:Addr->Prop}{H:Hp}{a:Addr}{vs:List V}(h:TupAt K O H a vs):SqT K H a vs:=by
 rcases h with h|h
 .exact .inl h.2
 .exact FL h
theorem LstAt.sq{K:Frag}{O:Addr->Prop}{H:Hp}{a:Addr}{vs:List V}(h:LstAt K O H a vs):SqL K H a vs:=by
 rcases h with h|h
 .exact .inl h.2
 .exact FM h
mutual
inductive Rep(K:Frag)(O:Addr->Prop)(H:Hp):V->NG->Prop where
 |non:Rep K O H .non .none
 |bl (b:Bool):Rep K O H (.bl b) (.bool b)
 |int (i:Int):Rep K O H (.int i) (.int i)
 |str (x:Str):Rep K O H (.str x) (.str x)
 |tup {a:Addr}{vs:List V}{ds:List NG}:TupAt K O H a vs->Reps K O H vs ds->Rep K O H (.ref a) (.tuple ds)
 |lst {a:Addr}{vs:List V}{ds:List NG}:LstAt K O H a vs->Reps K O H vs ds->Rep K O H (.ref a) (.list ds)
 |dct {a:Addr}{o:Obj}{kvs:List (Key×V)}{ds:List (NG×NG)}:¬O a->H a=some (.frz o (.dK kvs))->RepK K O H kvs ds->Rep K O H (.ref a) (.dict ds)
inductive Reps(K:Frag)(O:Addr->Prop)(H:Hp):List V->List NG->Prop where
 |nil:Reps K O H [] []
 |cons {v:V}{d:NG}{vs:List V}{ds:List NG}:Rep K O H v d->Reps K O H vs ds->Reps K O H (v::vs) (d::ds)
inductive RepK(K:Frag)(O:Addr->Prop)(H:Hp):List (Key×V)->List (NG×NG)->Prop where
 |nil:RepK K O H [] []
 |cons {k:Key}{v:V}{d:NG}{kvs:List (Key×V)}{ds:List (NG×NG)}:Rep K O H v d->RepK K O H kvs ds->RepK K O H ((k,v)::kvs) ((l8 k,d)::ds)
end
def Le(O:Addr->Prop)(H:Hp)(O':Addr->Prop)(H':Hp):Prop:=∀a o,¬O a->H a=some o->¬O' a/\H' a=some o
theorem Le.trans{O O1 O2:Addr->Prop}{H H1 H2:Hp}(h:Le O H O1 H1)(g:Le O1 H1 O2 H2):Le O H O2 H2:=fun a o n e=>let ⟨n1,e1⟩:=h a o n e;g a o n1 e1
theorem TupAt.mono{K:Frag}{O O':Addr->Prop}{H H':Hp}(h:Le O H O' H'){a:Addr}{vs:List V}(t:TupAt K O H a vs):TupAt K O' H' a vs:=by
 rcases t with⟨n,t|⟨o,t⟩⟩|t
 .exact .inl ⟨(h _ _ n t).1,.inl (h _ _ n t).2⟩
 .exact .inl ⟨(h _ _ n t).1,.inr ⟨o,(h _ _ n t).2⟩⟩
 .exact .inr t
theorem LstAt.mono{K:Frag}{O O':Addr->Prop}{H H':Hp}(h:Le O H O' H'){a:Addr}{vs:List V}(t:LstAt K O H a vs):LstAt K O' H' a vs:=by
 rcases t with⟨n,t|⟨o,t⟩⟩|t
 .exact .inl ⟨(h _ _ n t).1,.inl (h _ _ n t).2⟩
 .exact .inl ⟨(h _ _ n t).1,.inr ⟨o,(h _ _ n t).2⟩⟩
 .exact .inr t
mutual
theorem Rep.mono{K:Frag}{O O':Addr->Prop}{H H':Hp}(e:Le O H O' H'):∀{v:V}{d:NG},Rep K O H v d->Rep K O' H' v d
 |_,_,.non=>.non
 |_,_,.bl b=>.bl b
 |_,_,.int i=>.int i
 |_,_,.str x=>.str x
 |_,_,.tup t r=>.tup (t.mono e) (Reps.mono e r)
 |_,_,.lst t r=>.lst (t.mono e) (Reps.mono e r)
 |_,_,.dct n h r=>.dct (e _ _ n h).1 (e _ _ n h).2 (RepK.mono e r)
theorem Reps.mono{K:Frag}{O O':Addr->Prop}{H H':Hp}(e:Le O H O' H'):∀{vs:List V}{ds:List NG},Reps K O H vs ds->Reps K O' H' vs ds
 |_,_,.nil=>.nil
 |_,_,.cons r t=>.cons (Rep.mono e r) (Reps.mono e t)
theorem RepK.mono{K:Frag}{O O':Addr->Prop}{H H':Hp}(e:Le O H O' H'):∀{vs:List (Key×V)}{ds:List (NG×NG)},RepK K O H vs ds->RepK K O' H' vs ds
 |_,_,.nil=>.nil
 |_,_,.cons r t=>.cons (Rep.mono e r) (RepK.mono e t)
end
section
variable {K:Frag}{O:Addr->Prop}{H:Hp}
theorem Reps.length:∀{vs:List V}{ds:List NG},Reps K O H vs ds->vs.length=ds.length
 |_,_,.nil=>rfl
 |_,_,.cons _ t=>congrArg (· + 1) (Reps.length t)
theorem Reps.get:∀{vs:List V}{ds:List NG}{i:Nat}{v:V},Reps K O H vs ds->vs[i]? = some v->∃d,ds[i]? = some d/\Rep K O H v d
 |_,_,_,_,.nil,e=>by simp at e
 |_,_,0,_,.cons r _,e=>by simp at e;subst e;exact⟨_,rfl,r⟩
 |_,_,i+1,v,.cons _ t,e=>by
  obtain⟨d,h1,h2⟩:=Reps.get (i:=i) (v:=v) t (by simpa using e);exact⟨d,by simpa using h1,h2⟩
theorem Reps.getD:∀{vs:List V}{ds:List NG}{i:Nat}{d:NG},Reps K O H vs ds->ds[i]? = some d->∃v,vs[i]? = some v/\Rep K O H v d
 |_,_,_,_,.nil,e=>by simp at e
 |_,_,0,_,.cons r _,e=>by simp at e;subst e;exact⟨_,rfl,r⟩
 |_,_,i+1,v,.cons _ t,e=>by
  obtain⟨d,h1,h2⟩:=Reps.getD (i:=i) (d:=v) t (by simpa using e);exact⟨d,by simpa using h1,h2⟩
theorem Reps.set{v:V}{d:NG}(r:Rep K O H v d):∀{vs:List V}{ds:List NG} (i:Nat),Reps K O H vs ds->Reps K O H (vs.set i v) (ds.set i d)
 |_,_,_,.nil=>.nil
 |_,_,0,.cons _ t=>.cons r t
 |_,_,i+1,.cons q t=>.cons q (Reps.set r i t)
theorem Reps.append{ws:List V}{es:List NG}:∀{vs:List V}{ds:List NG},Reps K O H vs ds->Reps K O H ws es->Reps K O H (vs++ws) (ds++es)
 |_,_,.nil,r=>r
 |_,_,.cons q t,r=>.cons q (Reps.append t r)
theorem Reps.take:∀{vs:List V}{ds:List NG} (n:Nat),Reps K O H vs ds->Reps K O H (vs.take n) (ds.take n)
 |_,_,0,_=>.nil
 |_,_,_+1,.nil=>.nil
 |_,_,n+1,.cons r t=>.cons r (Reps.take n t)
theorem Reps.drop:∀{vs:List V}{ds:List NG} (n:Nat),Reps K O H vs ds->Reps K O H (vs.drop n) (ds.drop n)
 |_,_,0,r=>r
 |_,_,_+1,.nil=>.nil
 |_,_,n+1,.cons _ t=>Reps.drop n t
theorem Reps.rep{vs:List V}{ds:List NG}(r:Reps K O H vs ds):∀n:Nat,Reps K O H (Oq n vs).flatten (Oq n ds).flatten
 |0=>.nil
 |n+1=>by
  rw[PP,PP,Qk,Qk];exact r.append (r.rep n)
end
def SameX(ts:List Addr)(H H':Hp):Prop:=∀b o,b∉ts->H b=some o->H' b=some o
theorem SameX.refl(ts:List Addr)(H:Hp):SameX ts H H:=fun _ _ _ h=>h
theorem SameX.trans{ts:List Addr}{H H1 H2:Hp}(a:SameX ts H H1)(b:SameX ts H1 H2):SameX ts H H2:=fun c o n h=>b c o n (a c o n h)
theorem SameX.new{ts:List Addr}{H:Hp}{p:Addr}(h:H p=none)(o:HO):SameX ts H (upd H p o):=fun b u _ q=>by rw[aS (cX q h)];exact q
def Mut(o:Option HO):Prop:=(∃vs,o=some (.lst vs))\/(∃kvs,o=some (.dK kvs))\/∃C dx fs,o=some (.ins C dx fs)
theorem Mut.ex{o:Option HO}(h:Mut o):∃u,o=some u:=by rcases h with⟨vs,e⟩|⟨vs,e⟩|⟨C,dx,fs,e⟩ <;> exact⟨_,e⟩
theorem Mut.to{o o':Option HO}(h:Mut o)(k:∀u,o=some u->o'=some u):Mut o':=by
 rcases h with⟨vs,e⟩|⟨vs,e⟩|⟨C,dx,fs,e⟩
 .exact .inl ⟨vs,k _ e⟩
 .exact .inr (.inl ⟨vs,k _ e⟩)
 .exact .inr (.inr ⟨C,dx,fs,k _ e⟩)
def IZ(C:Addr):PyData:=.dict [(.none,.int (C:Int))]
def isO:List NG->Bool
 |.dict [(.none,_)]::_=>true
 |_=>false
def pairF(p:Str×NG):PyData:=.tuple [.str p.1,p.2]
inductive RepF(K:Frag)(O:Addr->Prop)(H:Hp):List (Str×V)->List (Str×NG)->Prop where
 |nil:RepF K O H [] []
 |cons {n:Str}{v:V}{d:NG}{vs:List (Str×V)}{ds:List (Str×NG)}:Rep K O H v d->RepF K O H vs ds->RepF K O H ((n,v)::vs) ((n,d)::ds)
theorem RepF.mono{K:Frag}{O O':Addr->Prop}{H H':Hp}(e:Le O H O' H'){vs:List (Str×V)}{ds:List (Str×NG)}(r:RepF K O H vs ds):RepF K O' H' vs ds:=by
 induction r with
 |nil=>exact .nil
 |cons r _ ih=>exact .cons (Rep.mono e r) ih
def RowAt(K:Frag)(O:Addr->Prop)(H:Hp)(a:Addr)(xs:List NG):Prop:=(isO xs=false/\∃vs,H a=some (.lst vs)/\Reps K O H vs xs)\/∃C dx fs fd,H a=some (.ins C dx fs)/\xs=IZ C::fd.map pairF/\RepF K O H fs fd
theorem RowAt.mono{K:Frag}{O O':Addr->Prop}{H H':Hp}{a:Addr}{xs:List NG}(h:RowAt K O H a xs)(k:∀o,H a=some o->H' a=some o)(l:Le O H O' H'):RowAt K O' H' a xs:=by
 rcases h with⟨n,vs,h1,h2⟩|⟨C,dx,fs,fd,h1,h2,h3⟩
 .exact .inl ⟨n,vs,k _ h1,h2.mono l⟩
 .exact .inr ⟨C,dx,fs,fd,k _ h1,h2,h3.mono l⟩
theorem RowAt.lst{K:Frag}{O:Addr->Prop}{H:Hp}{a:Addr}{xs:List NG}(h:RowAt K O H a xs)(n:isO xs=false):∃vs,H a=some (.lst vs)/\Reps K O H vs xs:=by
 rcases h with⟨_,h⟩|⟨C,dx,fs,fd,h1,h2,h3⟩
 .exact h
 .rw[h2] at n
  cases n
theorem DZ{K:Frag}{O:Addr->Prop}{H:Hp}{v:V}{y:NG}(h:Rep K O H v (.dict [(.none,y)])):False:=by
 cases h with
 |dct _ _ r=>
  generalize hl:[(TL,y)]=l at r
  cases r with
  |nil=>cases hl
  |@cons k _ _ _ _ _ _=>
   injection hl with h1 _
   injection h1 with h1 _
   rcases k with i|x
   .cases h1
   .cases h1
theorem Reps.notO{K:Frag}{O:Addr->Prop}{H:Hp}{vs:List V}{xs:List NG}(r:Reps K O H vs xs):isO xs=false:=by
 cases r with
 |nil=>rfl
 |cons h _=>
  rename_i d _ _ _;unfold isO;split
  .rename_i e
   cases e;exact(DZ h).elim
  .rfl
structure HC(K:Frag)(O:Addr->Prop)(ts:List Addr)(H:Hp)(T:Tp):Prop where
 own:∀b∈ts,O b
 trk:∀b,O b->Mut (H b)
 nd:ts.Nodup
 len:ts.length=T.length
 tape:∀(i:Nat) (a:Addr) (xs:List NG),ts[i]? = some a->T[i]? = some xs->RowAt K O H a xs
section
variable {K:Frag}{O:Addr->Prop}{ts:List Addr}{H H':Hp}{T:Tp}
theorem HC.le(c:HC K O ts H T)(s:SameX ts H H'):Le O H O H':=fun a o n e=>⟨n,s a o (fun z=>n (c.own a z)) e⟩
theorem HC.step(c:HC K O ts H T)(s:SameX ts H H')(t:∀b∈ts,H' b=H b):HC K O ts H' T where
 own:=c.own
 trk:=fun b hb=>by
  by_cases z:b∈ts
  .rw[t b z];exact c.trk b hb
  .exact(c.trk b hb).to fun u e=>s b _ z e
 nd:=c.nd
 len:=c.len
 tape:=fun i a xs e1 e2=>by
  exact(c.tape i a xs e1 e2).mono (fun o h1=>by rw[t a (Oz e1)];exact h1) (c.le s)
theorem HC.fresh(c:HC K O ts H T){p:Addr}(h:H p=none):¬O p:=fun z=>by
 obtain⟨u,e⟩:=(c.trk p z).ex;rw[h] at e;cases e
theorem HC.new(c:HC K O ts H T){p:Addr}(h:H p=none)(o:HO):HC K O ts (upd H p o) T:=c.step (.new h o) fun b hb=>aS fun z=>c.fresh h (z ▸ c.own b hb)
theorem HC.leNew(c:HC K O ts H T){p:Addr}(h:H p=none)(o:HO):Le O H O (upd H p o):=c.le (.new h o)
theorem HC.newT(c:HC K O ts H T){p:Addr}(h:H p=none){vs:List V}{ds:List NG}(r:Reps K O H vs ds):Rep K O (upd H p (.tup vs)) (.ref p) (.tuple ds):=.tup (.inl ⟨c.fresh h,.inl bx⟩) (r.mono (c.leNew h _))
theorem HC.newL(c:HC K O ts H T){p:Addr}(h:H p=none){vs:List V}{ds:List NG}(r:Reps K O H vs ds):Rep K O (upd H p (.lst vs)) (.ref p) (.list ds):=.lst (.inl ⟨c.fresh h,.inl bx⟩) (r.mono (c.leNew h _))
end
inductive Vw(K:Frag)(O:Addr->Prop)(H:Hp):V->NG->Prop where
 |rep {v:V}{x:NG}:Rep K O H v x->Vw K O H v x
 |raw {a:Addr}{vs:List V}{xs:List NG}:H a=some (.lst vs)->Reps K O H vs xs->Vw K O H (.ref a) (.list xs)
 |rawD {a:Addr}{kvs:List (Key×V)}{ds:List (NG×NG)}:H a=some (.dK kvs)->RepK K O H kvs ds->Vw K O H (.ref a) (.dict ds)
section
variable {K:Frag}{O:Addr->Prop}{H:Hp}{v:V}
theorem Vw.int{i:Int}(h:Vw K O H v (.int i)):v=.int i:=by cases h with|rep h=>cases h;rfl
theorem Vw.str{x:Str}(h:Vw K O H v (.str x)):v=.str x:=by cases h with|rep h=>cases h;rfl
theorem Vw.bl{b:Bool}(h:Vw K O H v (.bool b)):v=.bl b:=by cases h with|rep h=>cases h;rfl
theorem Vw.non(h:Vw K O H v .none):v=.non:=by cases h with|rep h=>cases h;rfl
theorem Vw.tup{ds:List NG}(h:Vw K O H v (.tuple ds)):∃a vs,v=.ref a/\TupAt K O H a vs/\Reps K O H vs ds:=by cases h with|rep h=>cases h with|tup t r=>exact⟨_,_,rfl,t,r⟩
theorem Vw.tupR{ds:List NG}(h:Vw K O H v (.tuple ds)):Rep K O H v (.tuple ds):=by cases h with|rep h=>exact h
theorem Vw.lst{ds:List NG}(h:Vw K O H v (.list ds)):∃a vs,v=.ref a/\SqL K H a vs/\Reps K O H vs ds:=by
 cases h with
 |rep h=>cases h with|lst t r=>exact⟨_,_,rfl,t.sq,r⟩
 |raw h r=>exact⟨_,_,rfl,SqL.of h,r⟩
theorem Vw.dct{ds:List (NG×NG)}(h:Vw K O H v (.dict ds)):∃a kvs,v=.ref a/\Rd H a (.dK kvs)/\RepK K O H kvs ds:=by
 cases h with
 |rep h=>cases h with|dct n t r=>exact⟨_,_,rfl,.inr ⟨_,t⟩,r⟩
 |rawD t r=>exact⟨_,_,rfl,.inl t,r⟩
end
def OwnAt(K:Frag)(O:Addr->Prop)(H:Hp)(a:Addr):NG->Prop
 |.list xs=>∃vs,H a=some (.lst vs)/\Reps K O H vs xs
 |.dict ds=>∃kvs,H a=some (.dK kvs)/\RepK K O H kvs ds
 |_=>False
theorem OwnAt.mono{K:Frag}{O O':Addr->Prop}{H H':Hp}{a:Addr}{x:NG}(h:OwnAt K O H a x)(k:∀o,H a=some o->H' a=some o)(l:Le O H O' H'):OwnAt K O' H' a x:=by
 cases x with
 |list xs=>obtain⟨vs,h1,h2⟩:=h;exact⟨vs,k _ h1,h2.mono l⟩
 |dict ds=>obtain⟨vs,h1,h2⟩:=h;exact⟨vs,k _ h1,h2.mono l⟩
 |_=>cases h
theorem OwnAt.some{K:Frag}{O:Addr->Prop}{H:Hp}{a:Addr}{x:NG}(h:OwnAt K O H a x):∃o,H a=some o:=by
 cases x with
 |list xs=>obtain⟨vs,h1,h2⟩:=h;exact⟨_,h1⟩
 |dict ds=>obtain⟨vs,h1,h2⟩:=h;exact⟨_,h1⟩
 |_=>cases h
def RepW(K:Frag)(O:Addr->Prop)(ts:List Addr)(H:Hp)(v:V):W->Prop
 |.d x=>Rep K O H v x
 |.tp i=>∃a,ts[i]? = some a/\v=.ref a
 |.loc x=>∃a,v=.ref a/\O a/\a∉ts/\OwnAt K O H a x
def jb(xs:List NG):Option PyData:=if isO xs=true then none else some (.list xs)
noncomputable def view(T:Tp):W->Option NG
 |.d x=>some x
 |.tp i=>(T[i]?).bind jb
 |.loc (.list xs)=>some (.list xs)
 |.loc (.dict ds)=>some (.dict ds)
 |.loc _=>none
noncomputable def views(T:Tp):List W->Option (List NG)
 |[]=>some []
 |w::r=>match view T w with
  | some x=>(match views T r with
   |some xs=>some (x::xs)
   | none=>none)
  |none=>none
def iu(K:Frag)(O:Addr->Prop)(ts:List Addr)(H:Hp):List V->List W->Prop:=Tx fun v w=>RepW K O ts H v w
def Vws(K:Frag)(O:Addr->Prop)(H:Hp):List V->List NG->Prop:=Tx fun v x=>Vw K O H v x
def RelE(K:Frag)(O:Addr->Prop)(ts:List Addr)(H:Hp)(σ:L2.St)(ρ:Rho):Prop:=∀(i:Nat) (w:W),ρ[i]? = some (some w)->∃v,σ[i]? = some (some v)/\RepW K O ts H v w
section
variable {K:Frag}{O:Addr->Prop}{ts:List Addr}{H H':Hp}{T:Tp}{v:V}{w:W}
theorem RepW.mono(r:RepW K O ts H v w)(c:HC K O ts H T)(s:SameX ts H H'):RepW K O ts H' v w:=by
 cases w with
 |d x=>exact Rep.mono (c.le s) r
 |tp i=>exact r
 |loc xs=>
  obtain⟨a,e,h1,h2,h3⟩:=r;exact⟨a,e,h1,h2,h3.mono (fun o q=>s _ _ h2 q) (c.le s)⟩
theorem RelE.mono{σ:L2.St}{ρ:Rho}(r:RelE K O ts H σ ρ)(c:HC K O ts H T)(s:SameX ts H H'):RelE K O ts H' σ ρ:=fun i w e=>
 let ⟨v,h1,h2⟩:=r i w e;⟨v,h1,h2.mono c s⟩
theorem HC.view(c:HC K O ts H T){x:NG}(r:RepW K O ts H v w)(e:view T w=some x):Vw K O H v x:=by
 cases w with
 |d y=>cases e;exact .rep r
 |tp i=>
  obtain⟨a,h1,rfl⟩:=r;have e':(T[i]?).bind jb=some x:=e
  cases ht:T[i]? with
  |none=>rw[ht] at e';cases e'
  |some xs=>
   rw[ht] at e';have e2:(if isO xs=true then none else some (Qw xs))=some x:=e';split at e2
   .cases e2
   .rename_i hn
    cases e2;obtain⟨vs,h2,h3⟩:=(c.tape i a xs h1 ht).lst (by simpa using hn);exact .raw h2 h3
 |loc xs=>
  obtain⟨a,rfl,_,_,h3⟩:=r
  cases xs with
  |list xs=>cases e;obtain⟨vs,h1,h2⟩:=h3;exact .raw h1 h2
  |dict ds=>cases e;obtain⟨vs,h1,h2⟩:=h3;exact .rawD h1 h2
  |_=>cases h3
theorem HC.views(c:HC K O ts H T):∀{vs:List V}{ws:List W}{xs:List NG},iu K O ts H vs ws->views T ws=some xs->Vws K O H vs xs
 |_,[],xs,.nil,e=>by cases e;exact .nil
 |_,w::r,xs,.cons h t,e=>by
  unfold D.views at e;split at e
  .rename_i x h1
   split at e
   .rename_i ys h2
    cases e;exact .cons (c.view h h1) (HC.views c t h2)
   .cases e
  .cases e
end
def noStar:Expr->Bool
 |.Starred _ _=>false
 |_=>true
theorem bC{e:Expr}{es:List Expr}{env:Env}(h:noStar e=true):NU (e::es) env=(false,eval e env)::NU es env:=by cases e <;> first|rfl|cases h
theorem qi{e:Expr}{env:Env}(h:noStar e=true):NU [e] env=[(false,eval e env)]:=bC h
theorem cJ{env:Env}{pos:Pos}:∀{es:List Expr},es.all noStar=true->(O4 pos (NU es env)).any (·.1)=false
 |[],_=>rfl
 |e::r,h=>by
  rw[PH,NN] at h;rw[bC h.1];show (false||(O4 pos (NU r env)).any (·.1))=false;rw[cJ h.2];rfl
theorem j8{e:Expr}{env:Env}{cpos:Pos}(h:noStar e=true):((O4 cpos (NU [e] env)).all (fun x=>!x.1)&&(QE cpos (PV [] env)).all (fun x=>x.1.isSome)
   && decide (([e]:List Expr).length+([]:List Pw).length+(if ([]:List Pw).isEmpty then 0 else 1)<30))=true:=by
 rw[qi h];rfl
abbrev FE:=Rho->Tp->Option (W×Tp)
abbrev FT:=Rho->Tp->Option (Bool×Tp)
abbrev FA:=Rho->Tp->Option (List W×Tp)
inductive LiftP(K:Frag)(f:FE)(σ:L2.St)(H:Hp)(Q:VK):Prop where
 |mk (O:Addr->Prop) (ts:List Addr) (ρ:Rho) (T:Tp) (w:W) (T':Tp) (hc:HC K O ts H T) (re:RelE K O ts H σ ρ) (e:f ρ T=some (w,T')) (q:∀v H',SameX ts H H'->HC K O ts H' T'->RepW K O ts H' v w->Q v H'):LiftP K f σ H Q
def lift(K:Frag)(f:FE):TE:=fun σ H Q=>LiftP K f σ H Q
inductive LiftTP(K:Frag)(f:FT)(σ:L2.St)(H:Hp)(Q:Bool->Hp->Prop):Prop where
 |mk (O:Addr->Prop) (ts:List Addr) (ρ:Rho) (T:Tp) (b:Bool) (T':Tp) (hc:HC K O ts H T) (re:RelE K O ts H σ ρ) (e:f ρ T=some (b,T')) (q:∀H',SameX ts H H'->HC K O ts H' T'->Q b H'):LiftTP K f σ H Q
def liftT(K:Frag)(f:FT):TT:=fun σ H Q=>LiftTP K f σ H Q
inductive LiftAP(K:Frag)(f:FA)(σ:L2.St)(H:Hp)(Q:List V->Hp->Prop):Prop where
 |mk (O:Addr->Prop) (ts:List Addr) (ρ:Rho) (T:Tp) (ws:List W) (T':Tp) (hc:HC K O ts H T) (re:RelE K O ts H σ ρ) (e:f ρ T=some (ws,T')) (q:∀vs H',SameX ts H H'->HC K O ts H' T'->iu K O ts H' vs ws->Q vs H'):LiftAP K f σ H Q
def yQ(K:Frag)(f:FA):TA:=fun σ H Q=>LiftAP K f σ H Q
structure DE(X:Cx)(e:Expr)(f:FE):Prop where
 pe:PE X e (lift X.K f)
structure DT(X:Cx)(e:Expr)(f:FT):Prop where
 pe:PT X e (liftT X.K f)
structure DW(X:Cx)(e:Expr)(f:FT):Prop where
 pe:PW X e (liftT X.K f)
structure DA(X:Cx)(es:List Expr)(f:FA):Prop where
 pe:PA X es (yQ X.K f)
theorem bD{X:Cx}{e:Expr}{t t':TE}(h:PE X e t)(i:∀σ H Q,t' σ H Q->t σ H Q):PE X e t':=fun pins s σ H Q I q=>h pins s σ H Q I (i σ H Q q)
theorem k9{X:Cx}{e:Expr}{t t':TT}(h:PT X e t)(i:∀σ H Q,t' σ H Q->t σ H Q):PT X e t':=fun pins s σ H Q I q=>h pins s σ H Q I (i σ H Q q)
theorem xO{X:Cx}{e:Expr}{t t':TT}(h:PW X e t)(i:∀σ H Q,t' σ H Q->t σ H Q):PW X e t':=fun wh pins s σ H Q I q=>h wh pins s σ H Q I (i σ H Q q)
theorem xV{X:Cx}{e:List Expr}{t t':TA}(h:PA X e t)(i:∀σ H Q,t' σ H Q->t σ H Q):PA X e t':=fun po pins s σ H Q I q=>h po pins s σ H Q I (i σ H Q q)
def aa(i:Nat):FE:=fun ρ T=>match ρ[i]? with
 |some (some w)=>some (w,T)
 |_=>none
noncomputable def fC(x:NG):FE:=fun _ T=>some (.d x,T)
section
variable {X:Cx}{pos:Pos}
theorem af(i:Nat){x:Str}(hN:X.N[i]? = some x:=by rfl)(hv:Vis X.env.scope x:=by first|exact Pj rfl|exact OY (Pj rfl)|exact OY (OY rfl))(hd:(x == ("__debug__" : Str))=false:=by decide)
  (hcd:(x == ("__classdict__" : Str))=false:=by decide):DE X (.Name x pos) (aa i):=by
 refine⟨?_⟩;refine bD (pv i hN hv hd hcd) fun σ H Q=>?_;rintro⟨O,ts,ρ,T,w,T',hc,re,e,q⟩;unfold aa at e;split at e
 .rename_i w' he
  cases e;obtain⟨v,h1,h2⟩:=re i _ he;exact⟨v,h1,q v H (.refl _ _) hc h2⟩
 .cases e
theorem iV{x:NG}{v:V}(h:∀O H,Rep X.K O H v x):∀σ H Q,lift X.K (fC x) σ H Q->tC v σ H Q:=by
 rintro σ H Q ⟨O,ts,ρ,T,w,T',hc,re,e,q⟩;cases e;exact q v H (.refl _ _) hc (h O H)
theorem aj{i j}:DE X (.Constant (.int i) j pos) (fC (.int i)):=⟨bD xT (iV fun _ _=>.int i)⟩
theorem cc{i j}:DE X (.Constant (.bool i) j pos) (fC (.bool i)):=⟨bD HU (iV fun _ _=>.bl i)⟩
theorem ar{i j}:DE X (.Constant (.str i) j pos) (fC (.str i)):=⟨bD rG (iV fun _ _=>.str i)⟩
theorem dB{j}:DE X (.Constant .none j pos) (fC .none):=⟨bD Gc (iV fun _ _=>.non)⟩
theorem gZ{x:Str}{i:Int}(hg:Gl X x)(hm:∃t,X.mg x=some (.int i t))(hd:(x == ("__debug__" : Str))=false:=by decide):DE X (.Name x pos) (fC (.int i)):=by
 refine⟨?_⟩;obtain⟨t,hm⟩:=hm;exact bD (qC (v:=.int i) hg hm ⟨t,rfl⟩ hd) (iV fun _ _=>.int i)
theorem qu{x:Str}{i:Str}(hg:Gl X x)(hm:∃t,X.mg x=some (.str i t))(hd:(x == ("__debug__" : Str))=false:=by decide):DE X (.Name x pos) (fC (.str i)):=by
 refine⟨?_⟩;obtain⟨t,hm⟩:=hm;exact bD (qC (v:=.str i) hg hm ⟨t,rfl⟩ hd) (iV fun _ _=>.str i)
end
def op1(g:NG->Option NG)(T:Tp)(w:W):Option (W×Tp):=match view T w with
 |some x=>match g x with
  |some d=>some (.d d,T)
  |none=>none
 |none=>none
def op2(g:NG->NG->Option NG)(T:Tp)(w1 w2:W):Option (W×Tp):=match view T w1,view T w2 with
 |some x,some y=>match g x y with
  |some d=>some (.d d,T)
  |none=>none
 |_,_=>none
theorem hW{g:NG->Option NG}{T T':Tp}{w1 w:W}(e:op1 g T w1=some (w,T')):∃x d,view T w1=some x/\g x=some d/\w=.d d/\T'=T:=by
 unfold op1 at e;split at e
 .rename_i x h1
  split at e
  .rename_i d h3
   cases e;exact⟨x,d,h1,h3,rfl,rfl⟩
  .cases e
 .cases e
theorem hU{g:NG->NG->Option NG}{T T':Tp}{w1 w2 w:W}(e:op2 g T w1 w2=some (w,T')):∃x y d,view T w1=some x/\view T w2=some y/\g x y=some d/\w=.d d/\T'=T:=by
 unfold op2 at e;split at e
 .rename_i x y h1 h2
  split at e
  .rename_i d h3
   cases e;exact⟨x,y,d,h1,h2,h3,rfl,rfl⟩
  .cases e
 .cases e
def ag(g:NG->NG->Option NG)(fa fb:FE):FE:=fun ρ T=>bnd (fa ρ T) fun w1 T1=>bnd (fb ρ T1) fun w2 T2=>op2 g T2 w1 w2
def fUn(g:NG->Option NG)(fa:FE):FE:=fun ρ T=>bnd (fa ρ T) fun w1 T1=>op1 g T1 w1
def iC(K:Frag)(r:R2)(g:NG->NG->Option NG):Prop:=∀(O:Addr->Prop) (ts:List Addr) (H:Hp) (T:Tp) (v1 v2:V) (x y d:NG) (Q:VK),HC K O ts H T->Vw K O H v1 x->Vw K O H v2 y->g x y=some d ->
 (∀v H',SameX ts H H'->HC K O ts H' T->Rep K O H' v d->Q v H')->r v1 v2 H Q
def JF(K:Frag)(r:V->Hp->VK->Prop)(g:NG->Option NG):Prop:=∀(O:Addr->Prop) (ts:List Addr) (H:Hp) (T:Tp) (v1:V) (x d:NG) (Q:VK),HC K O ts H T->Vw K O H v1 x->g x=some d ->
 (∀v H',SameX ts H H'->HC K O ts H' T->Rep K O H' v d->Q v H')->r v1 H Q
def OpD(X:Cx)(f:NK->NK->Sem NK)(g:NG->NG->Option NG):Prop:=∃r,OpR X f r/\iC X.K r g
def IxD(X:Cx)(g:NG->NG->Option NG):Prop:=∃r,IxR X r/\iC X.K r g
theorem kX{K:Frag}{r:R2}{g:NG->NG->Option NG}{fa fb:FE}(snd:iC K r g){σ:L2.St}{H:Hp}{Q:VK}(h:lift K (ag g fa fb) σ H Q):tOp r (lift K fa) (lift K fb) σ H Q:=by
 obtain⟨O,ts,ρ,T,w,T',hc,re,e,q⟩:=h;obtain⟨w1,T1,e1,e⟩:=aP e;obtain⟨w2,T2,e2,e⟩:=aP e;obtain⟨x,y,d,h1,h2,h3,rfl,rfl⟩:=hU e;refine⟨O,ts,ρ,T,w1,T1,hc,re,e1,fun v1 H1 s1 hc1 r1=>?_⟩;refine⟨O,ts,ρ,T1,w2,T',hc1,re.mono hc s1,e2,fun v2 H2 s2 hc2 r2=>?_⟩;exact snd O ts H2 T' v1 v2 x y d Q hc2 (hc2.view (r1.mono hc1 s2) h1) (hc2.view r2 h2) h3 fun v H' s3 hc3 r3=>q v H' (s1.trans (s2.trans s3)) hc3 r3
noncomputable def asB:W->Option Bool
 |.d (.bool b)=>some b
 |_=>none
theorem lE{w:W}{b:Bool}(h:asB w=some b):w=.d (.bool b):=by
 unfold asB at h;split at h
 .cases h;rfl
 .cases h
def ax(f:FE):FT:=fun ρ T=>bnd (f ρ T) fun w T1=>match asB w with
 |some b=>some (b,T1)
 |none=>none
theorem m5{K:Frag}{f:FE}{σ:L2.St}{H:Hp}{Q:Bool->Hp->Prop}(h:liftT K (ax f) σ H Q):lift K f σ H fun x H'=>∃k,x=.bl k/\Q k H':=by
 obtain⟨O,ts,ρ,T,w,T',hc,re,e,q⟩:=h;obtain⟨w1,T1,e1,e⟩:=aP e;refine⟨O,ts,ρ,T,w1,T1,hc,re,e1,fun v1 H1 s1 hc1 r1=>?_⟩;split at e
 .rename_i b hb
  cases e;have hw:=lE hb;subst hw;cases (show Rep K O H1 v1 _ from r1);exact⟨_,rfl,q H1 s1 hc1⟩
 .cases e
section
variable {X:Cx}{pos:Pos}{a b c:Expr}{fa fb fc:FE}{g g':NG->NG->Option NG}
theorem aN{op:Operator}(ho:OpD X (Pu op) g)(ha:DE X a fa)(hb:DE X b fb):DE X (.BinOp a op b pos) (ag g fa fb):=by
 refine⟨?_⟩;obtain⟨r,hr,snd⟩:=ho;exact bD (HQ hr ha.pe hb.pe) fun σ H Q=>kX snd
theorem bN{op:Tj}(ho:OpD X (Oh op) g)(ha:DE X a fa)(hb:DE X b fb)(hm:P2 op b=false:=by first|exact nP _|with_unfolding_all rfl):DE X (.Compare a [op] [b] pos) (ag g fa fb):=by
 refine⟨?_⟩;obtain⟨r,hr,snd⟩:=ho;exact bD (Ej hr ha.pe hb.pe hm) fun σ H Q=>kX snd
theorem aI{op:Tj}(ho:OpD X (Oh op) g)(ha:DE X a fa)(hb:DE X b fb)(hm:P2 op b=false:=by first|exact nP _|with_unfolding_all rfl):DT X (.Compare a [op] [b] pos) (ax (ag g fa fb)):=by
 refine⟨?_⟩;obtain⟨r,hr,snd⟩:=ho;exact k9 (D8 hr ha.pe hb.pe hm) fun σ H Q h=>kX snd (m5 h)
theorem ay(ho:IxD X g)(ha:DE X a fa)(hb:DE X b fb)(hs:k6 b:=by exact fun _ _=>rfl):DE X (.Subscript a b pos) (ag g fa fb):=by
 refine⟨?_⟩;obtain⟨r,hr,snd⟩:=ho;exact bD (oh hr ha.pe hb.pe hs) fun σ H Q=>kX snd
def iZ(g g':NG->NG->Option NG)(fa fb fc:FE):FE:=fun ρ T=>bnd (fa ρ T) fun w1 T1=>bnd (fb ρ T1) fun w2 T2=>bnd (op2 g T2 w1 w2) fun w T3=>match asB w with
 |some b=>if b=true then bnd (fc ρ T3) fun w3 T4=>op2 g' T4 w2 w3 else some (.d (.bool false),T3)
 |none=>none
theorem uP{K:Frag}{r r':R2}(snd:iC K r g)(snd':iC K r' g'){σ:L2.St}{H:Hp}{Q:VK}(h:lift K (iZ g g' fa fb fc) σ H Q):rm r r' (lift K fa) (lift K fb) (lift K fc) σ H Q:=by
 obtain⟨O,ts,ρ,T,w,T',hc,re,e,q⟩:=h;obtain⟨w1,T1,e1,e⟩:=aP e;obtain⟨w2,T2,e2,e⟩:=aP e;obtain⟨wz,T3,e3,ez⟩:=aP e;obtain⟨x,y,d,h1,h2,h3,rfl,rfl⟩:=hU e3;clear e;refine⟨O,ts,ρ,T,w1,T1,hc,re,e1,fun v1 H1 s1 hc1 r1=>?_⟩;refine⟨O,ts,ρ,T1,w2,T3,hc1,re.mono hc s1,e2,fun v2 H2 s2 hc2 r2=>?_⟩;refine snd O ts H2 T3 v1 v2 x y d _ hc2 (hc2.view (r1.mono hc1 s2) h1) (hc2.view r2 h2) h3 fun v H3 s3 hc3 r3=>?_;split at ez
 .rename_i b hb
  have hd:=lE hb
  injection hd with hd
  subst hd;cases r3
  cases b with
  |true=>
   rw[if_pos rfl] at ez;refine⟨true,rfl,e7 ?_⟩;obtain⟨w3,T4,e4,e5⟩:=aP ez;obtain⟨x',y',d',h1',h2',h3',rfl,rfl⟩:=hU e5;refine⟨O,ts,ρ,T3,w3,T',hc3,(re.mono hc (s1.trans (s2.trans s3))),e4,fun v3 H4 s4 hc4 r4=>?_⟩;exact snd' O ts H4 T' v2 v3 x' y' d' Q hc4 (hc4.view (r2.mono hc2 (s3.trans s4)) h1') (hc4.view r4 h2') h3' fun v H' s5 hc5 r5=>q v H' (s1.trans (s2.trans (s3.trans (s4.trans s5)))) hc5 r5
  |false=>
   rw[if_neg NZ] at ez;cases ez;exact⟨false,rfl,e8 (q _ H3 (s1.trans (s2.trans s3)) hc3 (.bl false))⟩
 .cases ez
theorem Dj{op op':Tj}(ho:OpD X (Oh op) g)(ho':OpD X (Oh op') g')(ha:DE X a fa)(hb:DE X b fb)(hc:DE X c fc)
  (hm:U1 [op,op'] [b,c]=false:=by with_unfolding_all rfl):DE X (.Compare a [op,op'] [b,c] pos) (iZ g g' fa fb fc):=by
 refine⟨?_⟩;obtain⟨r,hr,snd⟩:=ho;obtain⟨r',hr',snd'⟩:=ho';exact bD (Cz hr hr' ha.pe hb.pe hc.pe hm) fun σ H Q=>uP snd snd'
theorem vI{op op':Tj}(ho:OpD X (Oh op) g)(ho':OpD X (Oh op') g')(ha:DE X a fa)(hb:DE X b fb)(hc:DE X c fc)
  (hm:U1 [op,op'] [b,c]=false:=by with_unfolding_all rfl):DT X (.Compare a [op,op'] [b,c] pos) (ax (iZ g g' fa fb fc)):=by
 refine⟨?_⟩;obtain⟨r,hr,snd⟩:=ho;obtain⟨r',hr',snd'⟩:=ho';exact k9 (Co hr hr' ha.pe hb.pe hc.pe hm) fun σ H Q h=>uP snd snd' (m5 h)
def oH:NG->Option Bool
 |.none=>some false
 |.bool b=>some b
 |.int i=>some (i != 0)
 |.str y=>if y.length<=NS then some ((y.length:Int) != 0) else none
 |.list xs=>some (!xs.isEmpty)
 |.tuple xs=>some (!xs.isEmpty)
 |.dict _=>none
def oI(T:Tp)(w:W):Option (Bool×Tp):=match view T w with
 |some x=>match oH x with
  |some b=>some (b,T)
  |none=>none
 |none=>none
def aR(f:FE):FT:=fun ρ T=>bnd (f ρ T) fun w T1=>oI T1 w
theorem tN{K:Frag}{O:Addr->Prop}{H:Hp}{vs:List V}{ds:List NG}(r:Reps K O H vs ds):vs.isEmpty=ds.isEmpty:=by cases r <;> rfl
theorem FD{K:Frag}{O:Addr->Prop}{H:Hp}{v:V}{x:NG}{b:Bool}(h:Vw K O H v x)(e:oH x=some b):sL K v H b:=by
 cases x with
 |none=>cases h.non;cases e;rfl
 |bool c=>cases h.bl;cases e;rfl
 |int i=>cases h.int;cases e;rfl
 |str y=>
  cases h.str;have e':(if y.length<=NS then some ((y.length:Int) != 0) else none)=some b:=e;split at e'
  .rename_i hl
   cases e';exact⟨hl,rfl⟩
  .cases e'
 |list xs=>
  obtain⟨a,vs,rfl,h1,h2⟩:=h.lst;cases e;exact .inl ⟨vs,h1,by rw[tN h2]⟩
 |tuple xs=>
  obtain⟨a,vs,rfl,h1,h2⟩:=h.tup;cases e;exact .inr (.inl ⟨vs,h1.sq,by rw[tN h2]⟩)
 |dict kvs=>
  cases e
theorem aU(ha:DE X a fa)(he:∀whole,VE a X.env whole=(do let v ←whole;Wu a.pos;S0 [v] (truthy v)):=by intro _;rfl):DT X a (aR fa):=by
 refine⟨?_⟩;refine k9 (Cn ha.pe he) fun σ H Q=>?_;rintro⟨O,ts,ρ,T,b,T',hc,re,e,q⟩;obtain⟨w1,T1,e1,e⟩:=aP e;refine⟨O,ts,ρ,T,w1,T1,hc,re,e1,fun v1 H1 s1 hc1 r1=>?_⟩;unfold oI at e;split at e
 .rename_i x h1
  split at e
  .rename_i k h2
   cases e;exact⟨b,FD (hc1.view r1 h1) h2,q H1 s1 hc1⟩
  .cases e
 .cases e
def bO(f g:FT):FT:=fun ρ T=>bnd (f ρ T) fun b T1=>if b=true then g ρ T1 else some (false,T1)
def bi(f g:FT):FT:=fun ρ T=>bnd (f ρ T) fun b T1=>if b=true then some (true,T1) else g ρ T1
def bo(f:FT):FT:=fun ρ T=>bnd (f ρ T) fun b T1=>some (!b,T1)
variable {ta tb:FT}{rest:List Expr}
theorem bu{f:FT}(h:DW X a f):DT X a f:=⟨PW.pt h.pe⟩
theorem cQ(ha:DT X a ta):DW X (.BoolOp .And [a] pos) ta:=⟨D4 ha.pe⟩
theorem cA(ha:DT X a ta):DW X (.BoolOp .Or [a] pos) ta:=⟨F1 ha.pe⟩
theorem cB(ha:DT X a ta)(hb:DW X (.BoolOp .And (b::rest) pos) tb):DW X (.BoolOp .And (a::b::rest) pos) (bO ta tb):=by
 refine⟨?_⟩;refine xO (F2 ha.pe hb.pe) fun σ H Q=>?_;rintro⟨O,ts,ρ,T,b,T',hc,re,e,q⟩;obtain⟨b1,T1,e1,e⟩:=aP e;refine⟨O,ts,ρ,T,b1,T1,hc,re,e1,fun H1 s1 hc1=>?_⟩
 cases b1 with
 |true=>exact e7 ⟨O,ts,ρ,T1,b,T',hc1,re.mono hc s1,by simpa using e,fun H2 s2 hc2=>q H2 (s1.trans s2) hc2⟩
 |false=>
  have e':some (false,T1)=some (b,T'):=by simpa using e
  cases e';exact e8 (q H1 s1 hc1)
theorem bK(ha:DT X a ta)(hb:DW X (.BoolOp .Or (b::rest) pos) tb):DW X (.BoolOp .Or (a::b::rest) pos) (bi ta tb):=by
 refine⟨?_⟩;refine xO (HL ha.pe hb.pe) fun σ H Q=>?_;rintro⟨O,ts,ρ,T,b,T',hc,re,e,q⟩;obtain⟨b1,T1,e1,e⟩:=aP e;refine⟨O,ts,ρ,T,b1,T1,hc,re,e1,fun H1 s1 hc1=>?_⟩
 cases b1 with
 |false=>exact e8 ⟨O,ts,ρ,T1,b,T',hc1,re.mono hc s1,by simpa using e,fun H2 s2 hc2=>q H2 (s1.trans s2) hc2⟩
 |true=>
  have e':some (true,T1)=some (b,T'):=by simpa using e
  cases e';exact e7 (q H1 s1 hc1)
theorem bF(ha:DT X a ta):DT X (.UnaryOp .Not a pos) (bo ta):=by
 refine⟨?_⟩;refine k9 (F3 ha.pe) fun σ H Q=>?_;rintro⟨O,ts,ρ,T,b,T',hc,re,e,q⟩;obtain⟨b1,T1,e1,e⟩:=aP e;cases e;exact⟨O,ts,ρ,T,b1,T',hc,re,e1,fun H1 s1 hc1=>q H1 s1 hc1⟩
def cF(f g:FE):FE:=fun ρ T=>bnd (f ρ T) fun w T1=>match asB w with
 |some b=>if b=true then g ρ T1 else some (.d (.bool false),T1)
 |none=>none
def sI(f g:FE):FE:=fun ρ T=>bnd (f ρ T) fun w T1=>match asB w with
 |some b=>if b=true then some (.d (.bool true),T1) else g ρ T1
 |none=>none
def oB(f:FE):FE:=fun ρ T=>bnd (f ρ T) fun w T1=>match asB w with
 |some b=>some (.d (.bool (!b)),T1)
 |none=>none
theorem dj{op}(h:DE X a fa):DE X (.BoolOp op [a] pos) fa:=⟨Ga h.pe⟩
theorem cK(ha:DE X a fa)(hb:DE X (.BoolOp .And (b::rest) pos) fb):DE X (.BoolOp .And (a::b::rest) pos) (cF fa fb):=by
 refine⟨?_⟩;refine bD (Gd ha.pe hb.pe) fun σ H Q=>?_;rintro⟨O,ts,ρ,T,w,T',hc,re,e,q⟩;obtain⟨w1,T1,e1,e⟩:=aP e;refine⟨O,ts,ρ,T,w1,T1,hc,re,e1,fun v1 H1 s1 hc1 r1=>?_⟩;split at e
 .rename_i b hb
  have hw:=lE hb;subst hw;cases (show Rep X.K O H1 v1 _ from r1)
  cases b with
  |true=>exact⟨_,rfl,e7 ⟨O,ts,ρ,T1,w,T',hc1,re.mono hc s1,by simpa using e,fun v H2 s2 hc2 r2=>q v H2 (s1.trans s2) hc2 r2⟩⟩
  |false=>
   rw[if_neg NZ] at e;cases e;exact⟨_,rfl,e8 (q _ H1 s1 hc1 (.bl false))⟩
 .cases e
theorem II(ha:DE X a fa)(hb:DE X (.BoolOp .Or (b::rest) pos) fb):DE X (.BoolOp .Or (a::b::rest) pos) (sI fa fb):=by
 refine⟨?_⟩;refine bD (HP ha.pe hb.pe) fun σ H Q=>?_;rintro⟨O,ts,ρ,T,w,T',hc,re,e,q⟩;obtain⟨w1,T1,e1,e⟩:=aP e;refine⟨O,ts,ρ,T,w1,T1,hc,re,e1,fun v1 H1 s1 hc1 r1=>?_⟩;split at e
 .rename_i b hb
  have hw:=lE hb;subst hw;cases (show Rep X.K O H1 v1 _ from r1)
  cases b with
  |false=>exact⟨_,rfl,e8 ⟨O,ts,ρ,T1,w,T',hc1,re.mono hc s1,by simpa using e,fun v H2 s2 hc2 r2=>q v H2 (s1.trans s2) hc2 r2⟩⟩
  |true=>
   rw[if_pos rfl] at e;cases e;exact⟨_,rfl,e7 (q _ H1 s1 hc1 (.bl true))⟩
 .cases e
theorem yn(ha:DE X a fa):DE X (.UnaryOp .Not a pos) (oB fa):=by
 refine⟨?_⟩;refine bD (Gb ha.pe) fun σ H Q=>?_;rintro⟨O,ts,ρ,T,w,T',hc,re,e,q⟩;obtain⟨w1,T1,e1,e⟩:=aP e;refine⟨O,ts,ρ,T,w1,T1,hc,re,e1,fun v1 H1 s1 hc1 r1=>?_⟩;split at e
 .rename_i b hb
  have hw:=lE hb;subst hw;cases (show Rep X.K O H1 v1 _ from r1);cases e;exact⟨_,rfl,q _ H1 s1 hc1 (.bl _)⟩
 .cases e
def cV(c:FT)(f g:FE):FE:=fun ρ T=>bnd (c ρ T) fun b T1=>if b=true then f ρ T1 else g ρ T1
theorem en(hc:DT X c ta)(ha:DE X a fa)(hb:DE X b fb):DE X (.IfExp c a b pos) (cV ta fa fb):=by
 refine⟨?_⟩;refine bD (Cw hc.pe ha.pe hb.pe) fun σ H Q=>?_;rintro⟨O,ts,ρ,T,w,T',hc,re,e,q⟩;obtain⟨b1,T1,e1,e⟩:=aP e;refine⟨O,ts,ρ,T,b1,T1,hc,re,e1,fun H1 s1 hc1=>?_⟩
 cases b1 with
 |true=>exact e7 ⟨O,ts,ρ,T1,w,T',hc1,re.mono hc s1,by simpa using e,fun v H2 s2 hc2 r2=>q v H2 (s1.trans s2) hc2 r2⟩
 |false=>exact e8 ⟨O,ts,ρ,T1,w,T',hc1,re.mono hc s1,by simpa using e,fun v H2 s2 hc2 r2=>q v H2 (s1.trans s2) hc2 r2⟩
theorem IH{op:UnaryOp}{r:V->Hp->VK->Prop}{g1:NG->Option NG}(hr:UnR X (unaryOp op) r)(snd:JF X.K r g1)(ha:DE X a fa):DE X (.UnaryOp op a pos) (fUn g1 fa):=by
 refine⟨?_⟩;refine bD (HN hr ha.pe) fun σ H Q=>?_;rintro⟨O,ts,ρ,T,w,T',hc,re,e,q⟩;obtain⟨w1,T1,e1,e⟩:=aP e;obtain⟨x,d,h1,h3,rfl,rfl⟩:=hW e;refine⟨O,ts,ρ,T,w1,T',hc,re,e1,fun v1 H1 s1 hc1 r1=>?_⟩;exact snd O ts H1 T' v1 x d Q hc1 (hc1.view r1 h1) h3 fun v H' s3 hc3 r3=>q v H' (s1.trans s3) hc3 r3
end
def ah:FA:=fun _ T=>some ([],T)
def ae(f:FE)(g:FA):FA:=fun ρ T=>bnd (f ρ T) fun w T1=>bnd (g ρ T1) fun ws T2=>some (w::ws,T2)
def et:List W->Option (List NG)
 |[]=>some []
 |.d x::r=>match et r with
  |some xs=>some (x::xs)
  |none=>none
 |_::_=>none
theorem kK{K:Frag}{O:Addr->Prop}{ts:List Addr}{H:Hp}:∀{vs:List V}{ws:List W}{xs:List NG},iu K O ts H vs ws->et ws=some xs->Reps K O H vs xs
 |_,[],_,.nil,e=>by cases e;exact .nil
 |_,.d x::r,xs,.cons h t,e=>by
  unfold et at e;split at e
  .rename_i ys h2
   cases e;exact .cons h (kK t h2)
  .cases e
 |_,.tp _::_,_,.cons _ _,e=>by cases e
 |_,.loc _::_,_,.cons _ _,e=>by cases e
def aB(mk:List NG->NG)(f:FA):FE:=fun ρ T=>bnd (f ρ T) fun ws T1=>match et ws with
 |some xs=>if xs.length<=1000 then some (.d (mk xs),T1) else none
 |none=>none
theorem nr{n:Nat}(h:n<=1000):n<=sizeLine:=Of h (by decide)
def eY(X:Cx)(f:NK)(g:List NG->Option NG):Prop:=∃r,CallR X f r/\∀(O:Addr->Prop) (ts:List Addr) (H:Hp) (T:Tp) (vs:List V) (xs:List NG) (d:NG) (Q:VK),HC X.K O ts H T->Vws X.K O H vs xs->g xs=some d ->
 (∀v H',SameX ts H H'->HC X.K O ts H' T->Rep X.K O H' v d->Q v H')->r vs H Q
def fCB(g:List NG->Option NG)(f:FA):FE:=fun ρ T=>bnd (f ρ T) fun ws T1=>match views T1 ws with
 |some xs=>match g xs with
  |some d=>some (.d d,T1)
  |none=>none
 |none=>none
section
variable {X:Cx}{pos p:Pos}{e:Expr}{es:List Expr}{f:FE}{g:FA}
theorem aq:DA X [] ah:=by
 refine⟨?_⟩;refine xV di fun σ H Q=>?_;rintro⟨O,ts,ρ,T,w,T',hc,re,e,q⟩;cases e;exact q [] H (.refl _ _) hc .nil
theorem ai(ha:DE X e f)(hr:DA X es g)(hs:NU (e::es) X.env=(false,eval e X.env)::NU es X.env:=by exact bC rfl):DA X (e::es) (ae f g):=by
 refine⟨?_⟩;refine xV (dz ha.pe hr.pe hs) fun σ H Q=>?_;rintro⟨O,ts,ρ,T,w,T',hc,re,e,q⟩;obtain⟨w1,T1,e1,e⟩:=aP e;obtain⟨ws,T2,e2,e⟩:=aP e;cases e;refine⟨O,ts,ρ,T,w1,T1,hc,re,e1,fun v1 H1 s1 hc1 r1=>?_⟩;exact⟨O,ts,ρ,T1,ws,_,hc1,re.mono hc s1,e2,fun vs H2 s2 hc2 r2=>q _ H2 (s1.trans s2) hc2 (.cons (r1.mono hc1 s2) r2)⟩
theorem wb{mk:List NG->NG}{g:FA}{ρ:Rho}{T T':Tp}{w:W}(e:aB mk g ρ T=some (w,T')):∃ws xs,g ρ T=some (ws,T')/\et ws=some xs/\xs.length<=1000/\w=.d (mk xs):=by
 obtain⟨ws,T1,e1,e⟩:=aP e;split at e
 .rename_i xs h1
  split at e
  .rename_i h2
   cases e;exact⟨ws,xs,e1,h1,h2,rfl⟩
  .cases e
 .cases e
theorem aL{x1}(h:DA X es g):DE X (.Tuple es x1 pos) (aB .tuple g):=by
 refine⟨?_⟩;refine bD (F9 h.pe) fun σ H Q=>?_;rintro⟨O,ts,ρ,T,w,T',hc,re,e,q⟩;obtain⟨ws,xs,e1,h1,h2,rfl⟩:=wb e;refine⟨O,ts,ρ,T,ws,T',hc,re,e1,fun vs H1 s1 hc1 r1=>?_⟩;have rs:=kK r1 h1;refine⟨nr (by rw[rs.length];exact h2),fun p hp=>?_⟩;exact q _ _ (s1.trans (.new hp _)) (hc1.new hp _) (hc1.newT hp rs)
theorem bG(h:DA X es g):DE X (.List es pos) (aB .list g):=by
 refine⟨?_⟩;refine bD (jD h.pe) fun σ H Q=>?_;rintro⟨O,ts,ρ,T,w,T',hc,re,e,q⟩;obtain⟨ws,xs,e1,h1,h2,rfl⟩:=wb e;refine⟨O,ts,ρ,T,ws,T',hc,re,e1,fun vs H1 s1 hc1 r1=>?_⟩;have rs:=kK r1 h1;refine⟨nr (by rw[rs.length];exact h2),fun p hp=>?_⟩;exact q _ _ (s1.trans (.new hp _)) (hc1.new hp _) (hc1.newL hp rs)
theorem yp{K:Frag}{r:List V->Hp->VK->Prop}{gg:List NG->Option NG}(snd:∀(O:Addr->Prop) (ts:List Addr) (H:Hp) (T:Tp) (vs:List V) (xs:List NG) (d:NG) (Q:VK),HC K O ts H T->Vws K O H vs xs->gg xs=some d ->
  (∀v H',SameX ts H H'->HC K O ts H' T->Rep K O H' v d->Q v H')->r vs H Q) {σ:L2.St}{H:Hp}{Q:VK} (h:lift K (fCB gg g) σ H Q):tCB r (yQ K g) σ H Q:=by
 obtain⟨O,ts,ρ,T,w,T',hc,re,e,q⟩:=h;obtain⟨ws,T1,e1,e⟩:=aP e;refine⟨O,ts,ρ,T,ws,T1,hc,re,e1,fun vs H1 s1 hc1 r1=>?_⟩;split at e
 .rename_i xs h1
  split at e
  .rename_i d h2
   cases e;exact snd O ts H1 T' vs xs d Q hc1 (hc1.views r1 h1) h2 fun v H' s3 hc3 r3=>q v H' (s1.trans s3) hc3 r3
  .cases e
 .cases e
theorem bc{x:Str}{id:String}{gg:List NG->Option NG}(hc:eY X (.builtin id) gg)(hg:Gl X x)(hm:X.mg x=none)(hv:P1 x=some (.builtin id))(ha:DA X (e::es) g)(hn:x≠"__name__":=by decide)(hdb:(x == ("__debug__" : Str))=false:=by decide)
  (he:NU (e::es) X.env=(false,eval e X.env)::NU es X.env:=by exact bC rfl) (hpl:(O4 pos (NU es X.env)).any (·.1)=false:=by exact cJ rfl):DE X (.Call (.Name x p) (e::es) [] pos) (fCB gg g):=by
 refine⟨?_⟩;obtain⟨r,hr,snd⟩:=hc;exact bD (mQ hr hg hm hv ha.pe hn hdb he hpl) fun σ H Q h=>yp snd h
theorem cv{x:Str}{id:String}{gg:List NG->Option NG}(hc:eY X (.type id) gg)(hg:Gl X x)(hm:X.mg x=none)(hv:P1 x=some (.type id))(ha:DA X (e::es) g)(hn:x≠"__name__":=by decide)(hdb:(x == ("__debug__" : Str))=false:=by decide)
  (he:NU (e::es) X.env=(false,eval e X.env)::NU es X.env:=by exact bC rfl) (hpl:(O4 pos (NU es X.env)).any (·.1)=false:=by exact cJ rfl):DE X (.Call (.Name x p) (e::es) [] pos) (fCB gg g):=by
 refine⟨?_⟩;obtain⟨r,hr,snd⟩:=hc;exact bD (pS hr hg hm hv ha.pe hn hdb he hpl) fun σ H Q h=>yp snd h
end
abbrev FI:=Rho->Tp->Option (List NG×Tp)
def Jv(K:Frag)(tl:TE):TI:=fun σ H R=>tl σ H fun x H1=>(∃a xs,x=.ref a/\SqL K H1 a xs/\(xs.length<=NS->R (Itl K a) H1))\/(∃a xs,x=.ref a/\SqT K H1 a xs/\(xs.length<=NS->R (Itt K a) H1))\/(∃z,x=.str z/\R (Its z) H1)\/∃a o kvs,x=.ref a/\H1 a=some (.frz o (.dK kvs))/\(kvs.length<=NS->R (Itd a o kvs) H1)
theorem F6{X:Cx}{tg l:Expr}{tl:TE}(hl:PE X l tl):PI X tg l (Jv X.K tl):=by
 intro pins s σ H R I h;refine thn (hl pins s σ H _ I h) fun v s1 ⟨x,H1,I1,r1,q1⟩=>?_
 have fk:∀b∈[s1.heap.objs.size],dR X pins H1 b:=fun b hb=>by
  have e:b=s1.heap.objs.size:=by simpa using hb
  subst e;exact I1.fpOk (NT _) (I1.hok.fresh (NT _))
 rcases q1 with⟨a,xs,e,hq,q⟩|⟨a,xs,e,hq,q⟩|⟨z,e,q⟩|⟨a,o,kvs,e,hq,q⟩
 .subst e
  cases r1;obtain⟨its,rv,p,hz⟩:=I1.list hq;refine Rm p.isList ?_;exact⟨s1.heap.objs.size,[s1.heap.objs.size],_,_,H1,rfl,I1.kept (t':=s1.toks) fun b o e=>NO _ e,uh a _,⟨_,On _ rfl,rfl,rfl⟩,fk,q hz⟩
 .subst e
  cases r1;obtain⟨its,rv,p,hz⟩:=I1.tuple hq;refine wpAny_pyIter_tuple (show s1.heap.IsTuple a its.toArray from p) ?_;exact⟨s1.heap.objs.size,[s1.heap.objs.size],_,_,H1,rfl,I1.kept (t':=s1.toks) fun b o e=>NO _ e,AJ a _,⟨_,On _ rfl,rfl,rfl⟩,fk,q hz⟩
 .subst e
  obtain⟨t,rfl⟩:=r1
  cases ha:z.cps.all (· < 128) with
  |false=>
   refine wpAny_pyIter_wide ha ?_;exact⟨s1.heap.objs.size,[s1.heap.objs.size],_,_,H1,rfl,I1.kept (t':=s1.toks) fun b o e=>NO _ e,uX z t "str_iterator" _ (.inr rfl),⟨_,On _ rfl,rfl,rfl⟩,fk,q⟩
  |true=>
   refine wpAny_pyIter_ascii ha ?_;exact⟨s1.heap.objs.size,[s1.heap.objs.size],_,_,H1,rfl,I1.kept (t':=s1.toks) fun b o e=>NO _ e,uX z t "str_ascii_iterator" _ (.inl rfl),⟨_,On _ rfl,rfl,rfl⟩,fk,q⟩
 .subst e
  cases r1;obtain⟨z,y,vs,kv,dd⟩:=p0 I1.hok hq;refine wpAny_pyIter_dict y dd ?_;exact⟨s1.heap.objs.size,[s1.heap.objs.size],_,_,H1,rfl,I1.kept (t':=s1.toks) fun b o e=>NO _ e,Bm a _ o kvs,⟨_,On _ rfl,rfl,by rw[kv.length];rfl⟩,fk,q z⟩
def ItOk(K:Frag)(O:Addr->Prop)(H1:Hp)(J:It)(ds:List NG):Prop:=∀O' H',Le O H1 O' H'->(∀i,i<ds.length->J.go i H')/\J.stop ds.length H'/\∀i v H'',J.yld i H' v H''->i<ds.length->H''=H'/\∃d,ds[i]? = some d/\Rep K O' H' v d
inductive LiftIP(K:Frag)(f:FI)(σ:L2.St)(H:Hp)(R:It->Hp->Prop):Prop where
 |mk (O:Addr->Prop) (ts:List Addr) (ρ:Rho) (T:Tp) (ds:List NG) (T':Tp) (hc:HC K O ts H T) (re:RelE K O ts H σ ρ) (e:f ρ T=some (ds,T')) (q:∀J H1,SameX ts H H1->HC K O ts H1 T'->ItOk K O H1 J ds->ds.length<=NS->R J H1):LiftIP K f σ H R
def r6(K:Frag)(f:FI):TI:=fun σ H R=>LiftIP K f σ H R
structure DI(X:Cx)(tg e:Expr)(f:FI):Prop where
 pe:PI X tg e (r6 X.K f)
theorem xS{X:Cx}{tg e:Expr}{t t':TI}(h:PI X tg e t)(i:∀σ H Q,t' σ H Q->t σ H Q):PI X tg e t':=fun pins s σ H Q I q=>h pins s σ H Q I (i σ H Q q)
def signs(z:Str):List PyData:=z.cps.toList.map fun c=>.str ⟨#[c]⟩
def iX:NG->Option (List NG)
 |.list xs=>some xs
 |.tuple xs=>some xs
 |.str z=>if z.length<=NS then some (signs z) else none
 |.dict ds=>some (ds.map (·.1))
 |_=>none
def bU(f:FE):FI:=fun ρ T=>bnd (f ρ T) fun w T1=>match w with
 |.d x=>match iX x with
  |some xs=>some (xs,T1)
  |none=>none
 |_=>none
theorem ItOk.lst{K:Frag}{O:Addr->Prop}{H1:Hp}{a:Addr}{vs:List V}{ds:List NG}(h:LstAt K O H1 a vs)(r:Reps K O H1 vs ds):ItOk K O H1 (Itl K a) ds:=fun O' H' le=>by
 have sq:=(h.mono le).sq;have hl:=r.length;refine⟨fun i hi=>⟨vs,vs[i]'(by omega),sq,by simp⟩,⟨vs,sq,by omega⟩,fun i v H'' y hi=>?_⟩;obtain⟨e,y⟩:=y;obtain⟨d,h1,h2⟩:=r.get (y vs sq);exact⟨e,d,h1,h2.mono le⟩
theorem ItOk.tup{K:Frag}{O:Addr->Prop}{H1:Hp}{a:Addr}{vs:List V}{ds:List NG}(h:TupAt K O H1 a vs)(r:Reps K O H1 vs ds):ItOk K O H1 (Itt K a) ds:=fun O' H' le=>by
 have sq:=(h.mono le).sq;have hl:=r.length;refine⟨fun i hi=>⟨vs,vs[i]'(by omega),sq,by simp⟩,⟨vs,sq,by omega⟩,fun i v H'' y hi=>?_⟩;obtain⟨e,y⟩:=y;obtain⟨d,h1,h2⟩:=r.get (y vs sq);exact⟨e,d,h1,h2.mono le⟩
theorem ItOk.str{K:Frag}{O:Addr->Prop}{H1:Hp}{z:Str}:ItOk K O H1 (Its z) (signs z):=fun O' H' le=>by
 have hl:(signs z).length=z.cps.size:=by simp[signs]
 refine⟨fun i hi=>by rw[hl] at hi;exact hi,by rw[hl];exact NT _,fun i v H'' y hi=>?_⟩;obtain⟨e,c,hc,y⟩:=y;subst y;refine⟨e,.str ⟨#[c]⟩,?_,.str _⟩;unfold signs;rw[OS]
 have:z.cps.toList[i]? = some c:=by simpa using hc
 rw[this];rfl
theorem pQ{K:Frag}{O:Addr->Prop}{H:Hp}:∀{kvs:List (Key×V)}{ds:List (NG×NG)},RepK K O H kvs ds->kvs.length=ds.length
 |_,_,.nil=>rfl
 |_,_,.cons _ t=>congrArg (· + 1) (pQ t)
theorem vg{K:Frag}{O:Addr->Prop}{H:Hp}:∀{kvs:List (Key×V)}{ds:List (NG×NG)}{i:Nat}{k:Key}{v:V},RepK K O H kvs ds->kvs[i]? = some (k,v)->(ds.map (·.1))[i]? = some (l8 k)
 |_,_,_,_,_,.nil,e=>by simp at e
 |_,_,0,_,_,.cons r _,e=>by simp at e;obtain⟨rfl,rfl⟩:=e;rfl
 |_,_,i+1,k,v,.cons _ t,e=>by
  have:=vg (i:=i) t (by simpa using e);simpa using this
theorem wm{K:Frag}{O:Addr->Prop}{H:Hp}(k:Key):Rep K O H (kV k) (l8 k):=by
 cases k with
 |inl i=>exact .int i
 |inr x=>exact .str x
theorem ItOk.dct{K:Frag}{O:Addr->Prop}{H1:Hp}{a:Addr}{o:Obj}{kvs:List (Key×V)}{ds:List (NG×NG)}(n:¬O a)(h:H1 a=some (.frz o (.dK kvs)))(r:RepK K O H1 kvs ds):ItOk K O H1 (Itd a o kvs) (ds.map (·.1)):=fun O' H' le=>by
 have h':=(le a _ n h).2;have hl:=pQ r;refine⟨fun i hi=>⟨h',by simp at hi;omega⟩,⟨h',by simp[hl]⟩,fun i v H'' y hi=>?_⟩;obtain⟨e,k,v0,y1,y2⟩:=y;subst y2;exact⟨e,_,vg r y1,wm k⟩
theorem cR{X:Cx}{tg e:Expr}{f:FE}(h:DE X e f):DI X tg e (bU f):=by
 refine⟨?_⟩;refine xS (F6 h.pe) fun σ H R=>?_;rintro⟨O,ts,ρ,T,ds,T',hc,re,e,q⟩;obtain⟨w1,T1,e1,e⟩:=aP e;refine⟨O,ts,ρ,T,w1,T1,hc,re,e1,fun v1 H1 s1 hc1 r1=>?_⟩;split at e
 .rename_i x
  split at e
  .rename_i xs h1
   cases e;have rr:Rep X.K O H1 v1 x:=r1
   cases x with
   |list ys=>
    cases h1
    cases rr with
    |lst t r=>exact .inl ⟨_,_,rfl,t.sq,fun hz=>q _ H1 s1 hc1 (.lst t r) (by rw[←r.length];exact hz)⟩
   |tuple ys=>
    cases h1
    cases rr with
    |tup t r=>exact .inr (.inl ⟨_,_,rfl,t.sq,fun hz=>q _ H1 s1 hc1 (.tup t r) (by rw[←r.length];exact hz)⟩)
   |str z=>
    have h1':(if z.length<=NS then some (signs z) else none)=some _:=h1;split at h1'
    .rename_i hz
     cases h1';cases rr;exact .inr (.inr (.inl ⟨z,rfl,q _ H1 s1 hc1 .str (by rw[show (signs z).length=z.cps.size by simp[signs]];exact hz)⟩))
    .cases h1'
   |dict ys=>
    cases h1
    cases rr with
    |dct n t r=>exact .inr (.inr (.inr ⟨_,_,_,rfl,t,fun hz=>q _ H1 s1 hc1 (.dct n t r) (by rw[OV,←pQ r];exact hz)⟩))
   |_=>cases h1
  .cases e
 .cases e
def cM(lo:Int)(n:Nat):List PyData:=(Pg n).map fun(i:Nat)=>.int (lo+(i:Int))
theorem ItOk.rng{K:Frag}{O:Addr->Prop}{H1:Hp}{lo:Int}{n:Nat}:ItOk K O H1 (Itr lo n) (cM lo n):=fun O' H' le=>by
 have hl:(cM lo n).length=n:=by simp[cM]
 refine⟨fun i hi=>by rw[hl] at hi;exact hi,by rw[hl];exact NT _,fun i v H'' y hi=>?_⟩;obtain⟨e,y⟩:=y;subst y;rw[hl] at hi;exact⟨e,.int (lo+i),by simp[cM,hi],.int _⟩
def lH(j:Int):Bool:=decide (-1000000<=j/\j<=16777216)
theorem FZ{j:Int}(h:lH j=true) : -(2^62)<=j/\j<2^62/\j.toNat<=sizeLine:=by
 have h':=of_decide_eq_true h
 have e:NS=16777216:=by decide
 omega
def fA(f:FE):FI:=fun ρ T=>bnd (f ρ T) fun w T1=>match w with
 |.d (.int j)=>if lH j=true then some (cM 0 j.toNat,T1) else none
 |_=>none
theorem jx{X:Cx}{tg a:Expr}{f:FE}{p pos:Pos}(hg:Gl X "range")(hm:X.mg "range"=none)(ha:DE X a f)(hs:NU [a] X.env=[(false,eval a X.env)]:=by exact qi rfl):DI X tg (.Call (.Name "range" p) [a] [] pos) (fA f):=by
 refine⟨?_⟩;refine xS (By (ta:=rX (lift X.K f) sA) hg hm (dz ha.pe di (by rw[hs];rfl)) hs) fun σ H R=>?_;rintro⟨O,ts,ρ,T,ds,T',hc,re,e,q⟩;obtain⟨w1,T1,e1,e⟩:=aP e;refine⟨O,ts,ρ,T,w1,T1,hc,re,e1,fun v1 H1 s1 hc1 r1=>?_⟩;split at e
 .rename_i j
  split at e
  .rename_i h1
   cases e;cases (show Rep X.K O H1 v1 _ from r1);obtain⟨b1,b2,b3⟩:=FZ h1;exact⟨j,rfl,b1,b2,q _ H1 s1 hc1 .rng (by simpa[cM] using b3)⟩
  .cases e
 .cases e
def ck(c:FT)(e:FE)(ρ:Rho):List NG->Tp->Option (List NG×Tp)
 |[],T=>some ([],T)
 |d::r,T=>bnd (c (some (.d d)::ρ) T) fun b T1=>if b=true then bnd (e (some (.d d)::ρ) T1) fun w T2=>match w with
   |.d y=>bnd (ck c e ρ r T2) fun ys T3=>some (y::ys,T3)
   |_=>none
  else ck c e ρ r T1
def cg(it:FI)(c:FT)(e:FE):FE:=fun ρ T=>bnd (it ρ T) fun ds T1=>bnd (ck c e ρ ds T1) fun ys T2=>some (.d (.list ys),T2)
def cw:FT:=fun _ T=>some (true,T)
theorem RelE.cons{K:Frag}{O:Addr->Prop}{ts:List Addr}{H:Hp}{σ:L2.St}{ρ:Rho}{v:V}{d:NG}(re:RelE K O ts H σ ρ)(r:Rep K O H v d):RelE K O ts H (some v::σ) (some (.d d)::ρ):=fun i w e=>by
 cases i with
 |zero=>cases e;exact⟨v,rfl,r⟩
 |succ i=>
  obtain⟨u,h1,h2⟩:=re i w (by simpa using e);exact⟨u,by simpa using h1,h2⟩
theorem Fb{K:Frag}{O:Addr->Prop}{ts:List Addr}{H1:Hp}{σ:L2.St}{ρ:Rho}{J:It}{c:FT}{e:FE}{ds ys:List NG}{T1 T2:Tp}{Dn:List V->Hp->Prop}(hc:HC K O ts H1 T1)(re:RelE K O ts H1 σ ρ)(ok:ItOk K O H1 J ds)(hz:ds.length<=NS)
  (ee:ck c e ρ ds T1=some (ys,T2)) (q:∀vs H',SameX ts H1 H'->HC K O ts H' T2->Reps K O H' vs ys->Dn vs H') :
  ∃W:Nat->Nat->List V->Hp->Prop,(∃m,W 0 m [] H1)/\si σ J (liftT K c) (lift K e) W Dn:=by
 refine⟨fun i m vs H'=>m=ds.length-i/\i<=ds.length/\vs.length<=i/\∃T dn rs,SameX ts H1 H'/\HC K O ts H' T/\Reps K O H' vs dn/\ck c e ρ (ds.drop i) T=some (rs,T2)/\ys=dn++rs,⟨_,rfl,Pi _,NT _,T1,[],ys,.refl _ _,hc,.nil,ee,rfl⟩,?_⟩;rintro i m vs H' ⟨rfl,hi,hv,T,dn,rs,s1,hc1,rv,ec,ey⟩;obtain⟨k1,k2,k3⟩:=ok O H' (hc.le s1)
 by_cases hlt:i<ds.length
 .refine .inr ⟨k1 i hlt,by omega,fun vs' H2=>i+1<=ds.length/\vs'.length<=i+1/\∃T dn rs,SameX ts H1 H2/\HC K O ts H2 T/\Reps K O H2 vs' dn/\ck c e ρ (ds.drop (i+1)) T=some (rs,T2)/\ys=dn++rs,fun vs' H2 n=>⟨ds.length-(i+1),by omega,rfl,n⟩,fun v H2 y=>?_⟩
  obtain⟨e2,d,hd,rd⟩:=k3 i v H2 y hlt;subst e2
  have hdr:ds.drop i=d::ds.drop (i+1):=by
   rw[Qh hlt];have:=(NM.mp hd).2;rw[this]
  rw[hdr] at ec;obtain⟨b,T3,e3,ec⟩:=aP ec;refine⟨O,ts,some (.d d)::ρ,T,b,T3,hc1,(re.mono hc s1).cons rd,e3,fun H3 s3 hc3=>?_⟩
  cases b with
  |false=>
   rw[if_neg NZ] at ec;exact e8 ⟨hlt,by omega,T3,dn,rs,s1.trans s3,hc3,rv.mono (hc1.le s3),ec,ey⟩
  |true=>
   rw[if_pos rfl] at ec;obtain⟨w,T4,e4,ec⟩:=aP ec;refine e7 ⟨O,ts,some (.d d)::ρ,T3,w,T4,hc3,((re.mono hc s1).cons rd).mono hc1 s3,e4,fun u H4 s4 hc4 r4=>?_⟩;split at ec
   .rename_i y
    obtain⟨zs,T5,e5,ec⟩:=aP ec;cases ec;refine⟨hlt,by simp;omega,T4,dn++[y],zs,s1.trans (s3.trans s4),hc4,(rv.mono (hc1.le (s3.trans s4))).append (.cons r4 .nil),e5,by rw[ey];simp⟩
   .cases ec
 .have e:i=ds.length:=by omega
  subst e;rw[Pr (NT _)] at ec;cases ec;rw[PU] at ey;subst ey;exact .inl ⟨k2,by omega,q vs H' s1 hc1 rv⟩
structure DTs(X:Cx)(es:List Expr)(f:FT):Prop where
 pe:PTs X es (liftT X.K f)
theorem EX{X:Cx}:DTs X [] cw:=⟨fun pins s σ H Q E I h=>by
 refine D7 pins s σ H Q E I ?_;obtain⟨O,ts,ρ,T,w,T',hc,re,e,q⟩:=h;cases e
 exact q H (.refl _ _) hc⟩
theorem EW{X:Cx}{c:Expr}{f:FT}(hx:X.xe=fun _ _=>False)(h:DT X c f):DTs X [c] f:=⟨D6 hx h.pe⟩
theorem E7{X:Cx}{x:Str}{scope osc:Qg}{N N':List Str}{elt iter:Expr}{ifs:List Expr}{px pos:Pos}{it:FI}{c:FT}{f:FE}(S:CS osc N x scope N')(hi:DI X (.Name x px) iter it)
  (he:∀C s0 H0 ex,DE (cT X x scope C s0 H0 ex N') elt f) (ht:∀C s0 H0 ex,DTs (cT X x scope C s0 H0 ex N') ifs c) (hc:X.calm=true:=by rfl) (hs:X.env.scope=osc:=by rfl) (hN:X.N=N:=by rfl)
  (hf:∀v,O7 iter X.env v=pure v:=by intro _;rfl):DE X (.ListComp elt [⟨.Name x px,iter,ifs,0⟩] scope pos) (cg it c f):=by
 refine⟨?_⟩;refine bD (Cy (wi:=r6 X.K it) (tt:=liftT X.K c) (te:=lift X.K f) S hi.pe (fun C s0 H0 ex=>(he C s0 H0 ex).pe) (fun C s0 H0 ex=>(ht C s0 H0 ex).pe) hc hs hN hf) fun σ H Q=>?_;rintro⟨O,ts,ρ,T,w,T',hc,re,e,q⟩;obtain⟨ds,T1,e1,e⟩:=aP e;obtain⟨ys,T2,e2,e⟩:=aP e;cases e;refine⟨O,ts,ρ,T,ds,T1,hc,re,e1,fun J H1 s1 hc1 ok hz=>?_⟩;exact Fb hc1 (re.mono hc s1) ok hz e2 fun vs H' s2 hc2 r2 p hp=>q _ _ (s1.trans (s2.trans (.new hp _))) (hc2.new hp _) (hc2.newL hp r2)
inductive Fl where
 |nx|rt (x:NG)|ro (x:NG)|bk|ct
abbrev FS:=Rho->Tp->Option ((Fl×Rho)×Tp)
structure RS(K:Frag)(O₀:Addr->Prop)(H₀:Hp)(F:List ((Addr->Prop)×Hp))(ts:List Addr)(O:Addr->Prop)(H:Hp)(σ:L2.St)(ρ:Rho)(T:Tp):Prop where
 hc:HC K O ts H T
 re:RelE K O ts H σ ρ
 sub:∀b,O₀ b->O b
 ots:∀b∈ts,O₀ b
 same:SameX ts H₀ H
 fresh:∀(i:Nat) (xs:NG) (a:Addr),ρ[i]? = some (some (.loc xs))->σ[i]? = some (some (.ref a))->H₀ a=none/\¬O₀ a
 dist:∀(i j:Nat) (xs ys:NG) (v:V),ρ[i]? = some (some (.loc xs))->ρ[j]? = some (some (.loc ys))->σ[i]? = some (some v)->σ[j]? = some (some v)->i=j
 frs:∀f∈F,Le f.1 f.2 O H
 len:σ.length=ρ.length
def OwnV(K:Frag)(O A:Addr->Prop)(H:Hp)(v:V):NG->Prop
 |.tuple [x,y]=>∃p a b,v=.ref p/\a≠b/\(∀c,A c↔c=a\/c=b)/\¬O p/\H p=some (.tup [.ref a,.ref b])/\OwnAt K O H a x/\OwnAt K O H b y
 |.none=>v=.non/\∀c,¬A c
 |x=>∃a,v=.ref a/\(∀c,A c↔c=a)/\OwnAt K O H a x
theorem OwnV.mono{K:Frag}{O O' A:Addr->Prop}{H:Hp}{v:V}{x:NG}(le:Le O H O' H)(h:OwnV K O A H v x):OwnV K O' A H v x:=by
 unfold OwnV at h ⊢;split at h
 .obtain⟨p,a,b,e1,e2,e3,np,hp,oa,ob⟩:=h
  exact⟨p,a,b,e1,e2,e3,(le p _ np hp).1,hp,oa.mono (fun _ h=>h) le,ob.mono (fun _ h=>h) le⟩
 .exact h
 .obtain⟨a,e,hA,oa⟩:=h
  exact⟨a,e,hA,oa.mono (fun _ h=>h) le⟩
def ze(K:Frag)(O₀:Addr->Prop)(H₀:Hp)(F:List ((Addr->Prop)×Hp))(ts:List Addr)(D:Ends)(ρ':Rho)(T':Tp):Fl->Prop
 |.nx=>∀O' σ' H',RS K O₀ H₀ F ts O' H' σ' ρ' T'->D.nx σ' H'
 |.bk=>∀O' σ' H',RS K O₀ H₀ F ts O' H' σ' ρ' T'->D.bk σ' H'
 |.ct=>∀O' σ' H',RS K O₀ H₀ F ts O' H' σ' ρ' T'->D.ct σ' H'
 |.rt x=>∀v H',SameX ts H₀ H'->HC K O₀ ts H' T'->Rep K O₀ H' v x->D.rt v H'
 |.ro x=>∀(A:Addr->Prop) v H',SameX ts H₀ H'->(∀b,A b->H₀ b=none/\¬O₀ b)->HC K (fun b=>O₀ b\/A b) ts H' T'->OwnV K (fun b=>O₀ b\/A b) A H' v x->D.rt v H'
inductive LiftSP(K:Frag)(f:FS)(D:Ends)(σ:L2.St)(H:Hp):Prop where
 |mk (O₀:Addr->Prop) (H₀:Hp) (F:List ((Addr->Prop)×Hp)) (ts:List Addr) (O:Addr->Prop) (ρ:Rho) (T:Tp) (fl:Fl) (ρ':Rho) (T':Tp) (rs:RS K O₀ H₀ F ts O H σ ρ T) (e:f ρ T=some ((fl,ρ'),T')) (q:ze K O₀ H₀ F ts D ρ' T' fl):LiftSP K f D σ H
def rZ(K:Frag)(f:FS):TS:=fun D σ H=>LiftSP K f D σ H
structure DS(X:Cx)(s:Stmt)(f:FS):Prop where
 pe:PS X s (rZ X.K f)
structure DSs(X:Cx)(s:List Stmt)(f:FS):Prop where
 pe:PSs X s (rZ X.K f)
theorem cz{X:Cx}{e:Stmt}{t t':TS}(h:PS X e t)(i:∀D σ H,t' D σ H->t D σ H):PS X e t':=fun pins s σ H D I q=>h pins s σ H D I (i D σ H q)
theorem iN{X:Cx}{e:List Stmt}{t t':TS}(h:PSs X e t)(i:∀D σ H,t' D σ H->t D σ H):PSs X e t':=fun pins s σ H D I q=>h pins s σ H D I (i D σ H q)
section
variable {K:Frag}{O₀:Addr->Prop}{H₀:Hp}{F:List ((Addr->Prop)×Hp)}{ts:List Addr}{O:Addr->Prop}{H H1:Hp}{σ:L2.St}{ρ:Rho}{T T1:Tp}
theorem RS.step(r:RS K O₀ H₀ F ts O H σ ρ T)(s:SameX ts H H1)(c:HC K O ts H1 T1):RS K O₀ H₀ F ts O H1 σ ρ T1 where
 hc:=c
 re:=r.re.mono r.hc s
 sub:=r.sub
 ots:=r.ots
 same:=r.same.trans s
 fresh:=r.fresh
 dist:=r.dist
 frs:=fun f hf=>(r.frs f hf).trans (r.hc.le s)
 len:=r.len
theorem gq{i j:Nat}{w:W}{xs:NG}(hw:∀ys,w≠.loc ys)(e:(ρ.set i (some w))[j]? = some (some (.loc xs))):j≠i/\ρ[j]? = some (some (.loc xs)):=by
 by_cases z:i=j
 .subst z
  rw[List.getElem?_set_self'] at e
  cases h:ρ[i]? with
  |none=>rw[h] at e;cases e
  |some u=>
   rw[h] at e;have e':some (some w)=some (some (W.loc xs)):=e;cases e';exact absurd rfl (hw xs)
 .rw[NQ z] at e
  exact⟨fun q=>z q.symm,e⟩
theorem RS.set{i:Nat}{v:V}{w:W}(r:RS K O₀ H₀ F ts O H σ ρ T)(rw':RepW K O ts H v w)(hw:∀ys,w≠.loc ys):RS K O₀ H₀ F ts O H (σ.set i (some v)) (ρ.set i (some w)) T where
 hc:=r.hc
 re:=fun j u e=>by
  by_cases z:i=j
  .subst z
   have hl:i<ρ.length:=by
    have:=(NM.mp e).1;simpa using this
   rw[NV hl] at e;cases e;exact⟨v,by rw[NV (by rw[r.len];exact hl)],rw'⟩
  .rw[NQ z] at e
   obtain⟨x,h1,h2⟩:=r.re j u e;exact⟨x,by rw[NQ z];exact h1,h2⟩
 sub:=r.sub
 ots:=r.ots
 same:=r.same
 fresh:=fun j xs a e1 e2=>by
  obtain⟨n,e⟩:=gq hw e1;rw[NQ (Qj n)] at e2;exact r.fresh j xs a e e2
 dist:=fun j k xs ys u e1 e2 e3 e4=>by
  obtain⟨n1,e1⟩:=gq hw e1;obtain⟨n2,e2⟩:=gq hw e2;rw[NQ (Qj n1)] at e3;rw[NQ (Qj n2)] at e4;exact r.dist j k xs ys u e1 e2 e3 e4
 frs:=r.frs
 len:=by simp[r.len]
theorem RS.ownO{i:Nat}{p:Addr}{o:HO}{xs:NG}(r:RS K O₀ H₀ F ts O H σ ρ T)(hp:H p=none)(hm:Mut (some o))(rv:Le O H (fun b=>O b\/b=p) (upd H p o)->OwnAt K (fun b=>O b\/b=p) (upd H p o) p xs):RS K O₀ H₀ F ts (fun b=>O b\/b=p) (upd H p o) (σ.set i (some (.ref p))) (ρ.set i (some (.loc xs))) T:=by
 have le:Le O H (fun b=>O b\/b=p) (upd H p o):=fun a o n e=>by
  have z:a≠p:=cX e hp;exact⟨fun q=>q.elim n z,by rw[aS z];exact e⟩
 have h0:∀{G:Hp},SameX ts G H->p∉ts->G p=none:=fun {G} s nt=>by
  cases e:G p with
  |none=>rfl
  |some o=>rw[s p o nt e] at hp;cases hp
 have nO:=r.hc.fresh hp;have nt:p∉ts:=fun z=>nO (r.hc.own p z)
 have old:∀{j:Nat}{v:V}{w:W},σ[j]? = some (some v)->RepW K O ts H v w->RepW K (fun b=>O b\/b=p) ts (upd H p o) v w:=fun {j v w} e q=>by
  cases w with
  |d x=>exact Rep.mono le q
  |tp k=>exact q
  |loc ys=>
   obtain⟨a,e1,h1,h2,h3⟩:=q;exact⟨a,e1,.inl h1,h2,h3.mono (fun o' q=>by rw[aS (cX q hp)];exact q) le⟩
 have notp:∀{j:Nat}{ys:NG},ρ[j]? = some (some (.loc ys))->σ[j]? = some (some (.ref p))->False:=fun {j ys} e1 e2=>by
  obtain⟨v,h1,a,ea,h2,h3,h4⟩:=r.re j _ e1;rw[e2] at h1;cases h1;cases ea;obtain⟨o',h5⟩:=h4.some;rw[hp] at h5;cases h5
 refine⟨⟨fun b hb=>.inl (r.hc.own b hb),fun b hb=>?_,r.hc.nd,r.hc.len,fun j a ys e1 e2=>?_⟩,fun j w e=>?_,fun b hb=>.inl (r.sub b hb),r.ots,r.same.trans (.new hp _),fun j ys a e1 e2=>?_,fun j k ys zs v e1 e2 e3 e4=>?_,fun f hf=>(r.frs f hf).trans le,by simp[r.len]⟩
 .by_cases z:b=p
  .subst z;rw[bx];exact hm
  .rw[aS z]
   exact r.hc.trk b (hb.resolve_right z)
 .exact(r.hc.tape j a ys e1 e2).mono (fun o' h1=>by rw[aS (cX h1 hp)];exact h1) le
 .by_cases z:i=j
  .subst z
   have hl:i<ρ.length:=by
    have:=(NM.mp e).1;simpa using this
   rw[NV hl] at e;cases e;exact⟨.ref p,by rw[NV (by rw[r.len];exact hl)],p,rfl,.inr rfl,nt,rv le⟩
  .rw[NQ z] at e
   obtain⟨x,h1,h2⟩:=r.re j w e;exact⟨x,by rw[NQ z];exact h1,old h1 h2⟩
 .by_cases z:i=j
  .subst z
   have hl:i<ρ.length:=by
    have:=(NM.mp e1).1;simpa using this
   rw[NV (by rw[r.len];exact hl)] at e2;cases e2;exact⟨h0 r.same nt,fun q=>nO (r.sub _ q)⟩
  .rw[NQ z] at e1 e2
   exact r.fresh j ys a e1 e2
 .by_cases z:i=j
  .by_cases z':i=k
   .rw[←z,←z']
   .exfalso
    subst z
    have hl:i<ρ.length:=by
     have:=(NM.mp e1).1;simpa using this
    rw[NV (by rw[r.len];exact hl)] at e3;cases e3;rw[NQ z'] at e2 e4;exact notp e2 e4
  .by_cases z':i=k
   .exfalso
    subst z'
    have hl:i<ρ.length:=by
     have:=(NM.mp e2).1;simpa using this
    rw[NV (by rw[r.len];exact hl)] at e4;cases e4;rw[NQ z] at e1 e3;exact notp e1 e3
   .rw[NQ z] at e1 e3
    rw[NQ z'] at e2 e4;exact r.dist j k ys zs v e1 e2 e3 e4
theorem RS.own{i:Nat}{p:Addr}{vs:List V}{xs:List NG}(r:RS K O₀ H₀ F ts O H σ ρ T)(hp:H p=none)(rv:Reps K O H vs xs):RS K O₀ H₀ F ts (fun b=>O b\/b=p) (upd H p (.lst vs)) (σ.set i (some (.ref p))) (ρ.set i (some (.loc (.list xs)))) T:=r.ownO hp (.inl ⟨_,rfl⟩) fun le=>⟨vs,bx,rv.mono le⟩
theorem RS.putO{i:Nat}{a:Addr}{o:HO}{xs ys:NG}(r:RS K O₀ H₀ F ts O H σ ρ T)(e1:ρ[i]? = some (some (.loc xs)))(e2:σ[i]? = some (some (.ref a)))(hm:Mut (some o))(rv:Le O H O (upd H a o)->OwnAt K O (upd H a o) a ys):RS K O₀ H₀ F ts O (upd H a o) σ (ρ.set i (some (.loc ys))) T:=by
 obtain⟨v,z1,a',ea,oa,nt,ha⟩:=r.re i _ e1;rw[e2] at z1;cases z1;cases ea;have hl:i<ρ.length:=(NM.mp e1).1;obtain⟨f1,f2⟩:=r.fresh i xs a e1 e2;have le:Le O H O (upd H a o):=fun b o n e=>⟨n,by rw[aS (show b≠a from fun z=>n (by rw[z];exact oa))];exact e⟩
 have back:∀{j:Nat}{zs:NG},(ρ.set i (some (W.loc ys)))[j]? = some (some (.loc zs))->∃ws,ρ[j]? = some (some (.loc ws)):=fun {j zs} e=>by
  by_cases z:i=j
  .subst z;exact⟨xs,e1⟩
  .rw[NQ z] at e;exact⟨zs,e⟩
 refine⟨⟨r.hc.own,fun b hb=>?_,r.hc.nd,r.hc.len,fun j b zs q1 q2=>?_⟩,fun j w e=>?_,r.sub,r.ots,fun b o n e=>?_,fun j zs b q1 q2=>?_,fun j k zs zs' v q1 q2 q3 q4=>?_,fun f hf=>(r.frs f hf).trans le,by simp[r.len]⟩
 .by_cases z:b=a
  .subst z;rw[bx];exact hm
  .rw[aS z];exact r.hc.trk b hb
 .exact(r.hc.tape j b zs q1 q2).mono (fun o' h1=>by rw[aS (show b≠a from fun z=>nt (by rw[←z];exact Oz q1))];exact h1) le
 .by_cases z:i=j
  .subst z
   rw[NV hl] at e;cases e;exact⟨.ref a,e2,a,rfl,oa,nt,rv le⟩
  .rw[NQ z] at e
   obtain⟨x,h1,h2⟩:=r.re j w e;refine⟨x,h1,?_⟩
   cases w with
   |d x=>exact Rep.mono le h2
   |tp k=>exact h2
   |loc zs=>
    obtain⟨b,eb,k1,k2,k3⟩:=h2;have n:b≠a:=fun q=>z (r.dist i j xs zs (.ref a) e1 e e2 (by rw[h1,eb,q]));exact⟨b,eb,k1,k2,k3.mono (fun o' q=>by rw[aS n];exact q) le⟩
 .have:=r.same b o n e
  rw[aS (show b≠a from fun z=>by rw[z,f1] at e;cases e)];exact this
 .obtain⟨ws,q⟩:=back q1
  exact r.fresh j ws b q q2
 .obtain⟨ws,q⟩:=back q1
  obtain⟨ws',q'⟩:=back q2;exact r.dist j k ws ws' v q q' q3 q4
theorem RS.put{i:Nat}{a:Addr}{vs us:List V}{xs ys:List NG}(r:RS K O₀ H₀ F ts O H σ ρ T)(e1:ρ[i]? = some (some (.loc (.list xs))))(e2:σ[i]? = some (some (.ref a)))(rv:Reps K O H vs ys):RS K O₀ H₀ F ts O (upd H a (.lst vs)) σ (ρ.set i (some (.loc (.list ys)))) T:=r.putO e1 e2 (.inl ⟨_,rfl⟩) fun le=>⟨vs,bx,rv.mono le⟩
theorem RS.tapeO{n:Nat}{a:Addr}{o:HO}{ys:List NG}(r:RS K O₀ H₀ F ts O H σ ρ T)(e:ts[n]? = some a)(hm:Mut (some o))(rv:Le O H O (upd H a o)->RowAt K O (upd H a o) a ys):RS K O₀ H₀ F ts O (upd H a o) σ ρ (T.set n ys):=by
 have am:a∈ts:=Oz e;have le:Le O H O (upd H a o):=fun b o' k q=>⟨k,by rw[aS (show b≠a from fun z=>k (by rw[z];exact r.hc.own a am))];exact q⟩
 have sx:SameX ts H (upd H a o):=fun b o' k q=>by rw[aS (show b≠a from fun z=>k (by rw[z];exact am))];exact q
 refine⟨⟨r.hc.own,fun b hb=>?_,r.hc.nd,by simp[r.hc.len],fun j b zs q1 q2=>?_⟩,r.re.mono r.hc sx,r.sub,r.ots,r.same.trans sx,r.fresh,r.dist,fun f hf=>(r.frs f hf).trans le,r.len⟩
 .by_cases z:b=a
  .subst z;rw[bx];exact hm
  .rw[aS z];exact r.hc.trk b hb
 .by_cases z:n=j
  .subst z
   rw[e] at q1;cases q1
   have hl:n<T.length:=by
    have:=(NM.mp e).1;rw[←r.hc.len];exact this
   rw[NV hl] at q2;cases q2;exact rv le
  .rw[NQ z] at q2
   refine(r.hc.tape j b zs q1 q2).mono (fun o' h1=>?_) le
   have nb:b≠a:=fun q=>by
    rw[q] at q1;exact z ((List.getElem?_inj (NM.mp e).1 r.hc.nd).mp (e.trans q1.symm))
   rw[aS nb];exact h1
theorem RS.tape{n:Nat}{a:Addr}{vs:List V}{ys:List NG}(r:RS K O₀ H₀ F ts O H σ ρ T)(e:ts[n]? = some a)(rv:Reps K O H vs ys):RS K O₀ H₀ F ts O (upd H a (.lst vs)) σ ρ (T.set n ys):=r.tapeO e (.inl ⟨_,rfl⟩) fun le=>.inl ⟨rv.notO,vs,bx,rv.mono le⟩
def j6:W->W
 |.loc x=>.d x
 |w=>w
def cy(ρ:Rho):Rho:=ρ.map (Option.map j6)
theorem RS.frzH(r:RS K O₀ H₀ F ts O H σ ρ T):HC K O₀ ts H T:=by
 have le:Le O H O₀ H:=fun a o n e=>⟨fun z=>n (r.sub a z),e⟩;exact⟨r.ots,fun b hb=>r.hc.trk b (r.sub b hb),r.hc.nd,r.hc.len,fun i a xs e1 e2=>(r.hc.tape i a xs e1 e2).mono (fun _ h=>h) le⟩
def sP(ρ:Rho):Prop:=∀(i:Nat) (ds:List (NG×NG)),ρ[i]?≠some (some (.loc (.dict ds)))
theorem RS.frz(r:RS K O₀ H₀ F ts O H σ ρ T)(nd:sP ρ):HC K O₀ ts H T/\RelE K O₀ ts H σ (cy ρ):=by
 have le:Le O H O₀ H:=fun a o n e=>⟨fun z=>n (r.sub a z),e⟩;refine⟨r.frzH,fun i w e=>?_⟩;unfold cy at e;rw[OS] at e
 cases hu:ρ[i]? with
 |none=>rw[hu] at e;cases e
 |some u=>
  cases u with
  |none=>rw[hu] at e;cases e
  |some u=>
   rw[hu] at e;cases e;obtain⟨v,h1,h2⟩:=r.re i u hu;refine⟨v,h1,?_⟩
   cases u with
   |d x=>exact Rep.mono le h2
   |tp k=>exact h2
   |loc xs=>
    obtain⟨a,rfl,k1,k2,k3⟩:=h2
    cases xs with
    |list xs=>obtain⟨vs,k3,k4⟩:=k3;exact .lst (.inl ⟨(r.fresh i _ a hu h1).2,.inl k3⟩) (k4.mono le)
    |dict xs=>exact absurd hu (nd i xs)
    |_=>cases k3
theorem RS.frzD{i:Nat}{ds:List (NG×NG)}(r:RS K O₀ H₀ F ts O H σ ρ T)(h1:ρ[i]? = some (some (.loc (.dict ds)))):∃a kvs,H a=some (.dK kvs)/\∀o,RS K O₀ H₀ F ts (fun b=>O b/\b≠a) (upd H a (.frz o (.dK kvs))) σ (ρ.set i (some (.d (.dict ds)))) T:=by
 obtain⟨v,k1,a,rfl,k2,k3,kvs,k4,k5⟩:=r.re i _ h1;refine⟨a,kvs,k4,fun o=>?_⟩;have hl:i<ρ.length:=(NM.mp h1).1;have U:∀{b:Addr},b≠a->upd H a (.frz o (.dK kvs)) b=H b:=fun n=>aS n;have le:Le O H (fun b=>O b/\b≠a) (upd H a (.frz o (.dK kvs))):=fun b u n e=>⟨fun z=>n z.1,by rw[U (show b≠a from fun z=>n (by rw[z];exact k2))];exact e⟩;have fr:=r.fresh i _ a h1 k1
 have hw:∀ys,W.d (.dict ds)≠.loc ys:=fun _ z=>nomatch z
 refine⟨⟨fun b hb=>⟨r.hc.own b hb,fun z=>k3 (z ▸ hb)⟩,fun b hb=>by rw[U hb.2];exact r.hc.trk b hb.1,r.hc.nd,r.hc.len,fun j b ys e1 e2=>?_⟩,fun j w e=>?_,fun b hb=>⟨r.sub b hb,fun z=>fr.2 (z ▸ hb)⟩,r.ots,fun b u n e=>?_,fun j ys b e1 e2=>?_,fun j k ys zs v e1 e2 e3 e4=>?_,fun f hf=>(r.frs f hf).trans le,by simp[r.len]⟩
 .exact(r.hc.tape j b ys e1 e2).mono (fun _ h=>by rw[U (show b≠a from fun z=>k3 (by rw[←z];exact Oz e1))];exact h) le
 .by_cases z:i=j
  .subst z
   rw[NV hl] at e;cases e;exact⟨.ref a,k1,.dct (fun z=>z.2 rfl) bx (k5.mono le)⟩
  .rw[NQ z] at e
   obtain⟨x,q1,q2⟩:=r.re j w e;refine⟨x,q1,?_⟩
   cases w with
   |d y=>exact Rep.mono le q2
   |tp k=>exact q2
   |loc ys=>
    obtain⟨b,eb,m1,m2,m3⟩:=q2;have nb:b≠a:=fun q=>z (r.dist i j _ ys (.ref a) h1 e k1 (by rw[q1,eb,q]));exact⟨b,eb,⟨m1,nb⟩,m2,m3.mono (fun _ q=>by rw[U nb];exact q) le⟩
 .rw[U (show b≠a from fun z=>by rw[z,fr.1] at e;cases e)]
  exact r.same b u n e
 .obtain⟨n,e⟩:=gq hw e1
  exact r.fresh j ys b e e2
 .obtain⟨n1,e1⟩:=gq hw e1
  obtain⟨n2,e2⟩:=gq hw e2;exact r.dist j k ys zs v e1 e2 e3 e4
theorem C4{i:Nat}{x:NG}(h:ρ[i]? = some (some (.loc x))):cy (ρ.set i (some (.d x)))=cy ρ:=by
 apply UM;intro j;unfold cy;rw[OS,OS]
 by_cases z:i=j
 .subst z
  rw[NV (NM.mp h).1,h];rfl
 .rw[NQ z]
theorem RS.frzN(R:Rho):∀(k:Nat) {O:Addr->Prop}{H:Hp}{ρ:Rho},RS K O₀ H₀ F ts O H σ ρ T->(∀j ds,k<=j->ρ[j]?≠some (some (.loc (.dict ds))))->cy ρ=R ->
  Gh (fun H'=>∃O' ρ',RS K O₀ H₀ F ts O' H' σ ρ' T/\sP ρ'/\cy ρ'=R) H
 |0,O,H,ρ,r,n,e=>.done ⟨O,ρ,r,fun j ds=>n j ds (Pi _),e⟩
 |k+1,O,H,ρ,r,n,e=>by
  by_cases h:∃ds,ρ[k]? = some (some (.loc (.dict ds)))
  .obtain⟨ds,h⟩:=h
   obtain⟨a,kvs,e1,f⟩:=r.frzD h;refine .frz e1 fun o=>RS.frzN R k (f o) (fun j es hj=>?_) (by rw[C4 h];exact e)
   by_cases z:k=j
   .subst z
    rw[NV (NM.mp h).1];intro q;cases q
   .rw[NQ z]
    exact n j es (by omega)
  .refine RS.frzN R k r (fun j ds hj=>?_) e
   by_cases z:k=j
   .subst z
    exact fun q=>h ⟨ds,q⟩
   .exact n j ds (by omega)
theorem RS.frzG(r:RS K O₀ H₀ F ts O H σ ρ T):Gh (fun H'=>SameX ts H₀ H'/\HC K O₀ ts H' T/\RelE K O₀ ts H' σ (cy ρ)) H:=(RS.frzN (cy ρ) ρ.length r (fun j ds hj=>by rw[Rr hj];exact fun z=>nomatch z) rfl).imp fun H' ⟨O',ρ',r',n,e⟩=>⟨r'.same,by rw[←e];exact r'.frz n⟩
end
def aF:FS:=fun ρ T=>some ((.nx,ρ),T)
def ao(f g:FS):FS:=fun ρ T=>bnd (f ρ T) fun p T1=>match p with
 |(.nx,ρ1)=>g ρ1 T1
 |(fl,ρ1)=>some ((fl,ρ1),T1)
def aO(i:Nat)(f:FE):FS:=fun ρ T=>bnd (f ρ T) fun w T1=>match w with
 |.d x=>some ((.nx,ρ.set i (some (.d x))),T1)
 |.tp k=>some ((.nx,ρ.set i (some (.tp k))),T1)
 |.loc _=>none
def dq(i:Nat)(g:FA):FS:=fun ρ T=>bnd (g ρ T) fun ws T1=>match et ws with
 |some xs=>if xs.length<=1000 then some ((.nx,ρ.set i (some (.loc (.list xs)))),T1) else none
 |none=>none
def da(i:Nat)(f:FE):FS:=fun ρ T=>bnd (f ρ T) fun w T1=>match w with
 | .d x=>(match ρ[i]? with
  |some (some (.loc (.list xs)))=>if xs.length<NS then some ((.nx,ρ.set i (some (.loc (.list (xs++[x]))))),T1) else none
  | _=>none)
 |_=>none
def sH(fo fk fe:FE):FS:=fun ρ T=>bnd (fe ρ T) fun w T1=>bnd (fo ρ T1) fun o T2=>bnd (fk ρ T2) fun k T3=>match w,o,k with
 |.d x,.tp n,.d (.int i)=>match T3[n]? with
  |some xs=>if isO xs=true then none else match ixN xs.length i with
   |some j=>some ((.nx,ρ),T3.set n (xs.set j x))
   |none=>none
  |none=>none
 |_,_,_=>none
def fIf(c:FT)(f g:FS):FS:=fun ρ T=>bnd (c ρ T) fun b T1=>if b=true then f ρ T1 else g ρ T1
def av(f:FE):FS:=fun ρ T=>bnd (f (cy ρ) T) fun w T1=>match w with
 |.d x=>some ((.rt x,ρ),T1)
 |_=>none
def forL(i:Nat)(body:FS):List NG->FS
 |[]=>aF
 |d::r=>fun ρ T=>bnd (body (ρ.set i (some (.d d))) T) fun p T1=>match p with
  |(.nx,ρ1)=>forL i body r ρ1 T1
  |(.ct,ρ1)=>forL i body r ρ1 T1
  |(.bk,ρ1)=>some ((.nx,ρ1),T1)
  |(.rt x,ρ1)=>some ((.rt x,ρ1),T1)
  |(.ro x,ρ1)=>some ((.ro x,ρ1),T1)
def c9(i:Nat)(it:FI)(body:FS):FS:=fun ρ T=>bnd (it ρ T) fun ds T1=>forL i body ds ρ T1
def bI(c:FT)(body:FS):Nat->FS
 |0=>fun _ _=>none
 |n+1=>fun ρ T=>bnd (c ρ T) fun b T1=>if b=true then bnd (body ρ T1) fun p T2=>match p with
   |(.nx,ρ1)=>bI c body n ρ1 T2
   |(.ct,ρ1)=>bI c body n ρ1 T2
   |(.bk,ρ1)=>some ((.nx,ρ1),T2)
   |(.rt x,ρ1)=>some ((.rt x,ρ1),T2)
   |(.ro x,ρ1)=>some ((.ro x,ρ1),T2)
  else some ((.nx,ρ),T1)
section
variable {X:Cx}{pos:Pos}{st:Stmt}{rest:List Stmt}{f g:FS}{e:Expr}{fe:FE}{c:FT}
theorem aM:DSs X [] aF:=by
 refine⟨?_⟩;refine iN wA fun D σ H=>?_;rintro⟨O₀,H₀,F,ts,O,ρ,T,fl,ρ',T',rs,e,q⟩;cases e;exact q O σ H rs
theorem az(h1:DS X st f)(h2:DSs X rest g):DSs X (st::rest) (ao f g):=by
 refine⟨?_⟩;refine iN (mP h1.pe h2.pe) fun D σ H=>?_;rintro⟨O₀,H₀,F,ts,O,ρ,T,fl,ρ',T',rs,e,q⟩;obtain⟨⟨fl1,ρ1⟩,T1,e1,e⟩:=aP e;refine⟨O₀,H₀,F,ts,O,ρ,T,fl1,ρ1,T1,rs,e1,?_⟩
 cases fl1 with
 |nx=>exact fun O' σ' H' rs'=>⟨O₀,H₀,F,ts,O',ρ1,T1,fl,ρ',T',rs',e,q⟩
 |rt x=>cases e;exact q
 |ro x=>cases e;exact q
 |bk=>cases e;exact q
 |ct=>cases e;exact q
theorem aA(h1:DS X st f):DSs X [st] f:=⟨wy h1.pe⟩
theorem aW{i:Nat}{x:Str}{pos':Pos}(hN:X.N.Nodup)(he:DE X e fe)(hi:X.N[i]? = some x:=by rfl)(hx:Loc X.env.scope x:=by first|exact Pj rfl|exact OY rfl)(hs:PN e (some (.Name x pos')) pos.line X.env=pure false:=by rfl)
  (hf:X.fn x=true\/X.env.scope.names.lookup x=some .local:=by first|exact .inl rfl|exact .inr rfl|assumption):DS X (.Assign [.Name x pos'] e pos) (aO i fe):=by
 refine⟨?_⟩;refine cz (gx hN hi hx he.pe hs hf) fun D σ H=>?_;rintro⟨O₀,H₀,F,ts,O,ρ,T,fl,ρ',T',rs,e,q⟩;obtain⟨w,T1,e1,e⟩:=aP e;refine⟨O,ts,ρ,T,w,T1,rs.hc,rs.re,e1,fun v H1 s1 hc1 r1=>?_⟩
 cases w with
 |d x=>cases e;exact q O _ _ ((rs.step s1 hc1).set r1 fun _ z=>nomatch z)
 |tp k=>cases e;exact q O _ _ ((rs.step s1 hc1).set r1 fun _ z=>nomatch z)
 |loc xs=>cases e
theorem iP{i:Nat}{x:Str}{pos':Pos}{es:List Expr}{lpos:Pos}{g:FA}(hN:X.N.Nodup)(he:DA X es g)(hi:X.N[i]? = some x:=by rfl)(hx:Loc X.env.scope x:=by first|exact Pj rfl|exact OY rfl)
  (hs:PN (.List es lpos) (some (.Name x pos')) pos.line X.env=pure false:=by rfl) (hf:X.fn x=true\/X.env.scope.names.lookup x=some .local:=by first|exact .inl rfl|exact .inr rfl|assumption):DS X (.Assign [.Name x pos'] (.List es lpos) pos) (dq i g):=by
 refine⟨?_⟩;refine cz (gx hN hi hx (jD he.pe) hs hf) fun D σ H=>?_;rintro⟨O₀,H₀,F,ts,O,ρ,T,fl,ρ',T',rs,e,q⟩;obtain⟨ws,T1,e1,e⟩:=aP e;refine⟨O,ts,ρ,T,ws,T1,rs.hc,rs.re,e1,fun vs H1 s1 hc1 r1=>?_⟩;split at e
 .rename_i xs h1
  split at e
  .rename_i h2
   cases e;have rv:=kK r1 h1;exact⟨nr (by rw[rv.length];exact h2),fun p hp=>q _ _ _ ((rs.step s1 hc1).own hp rv)⟩
  .cases e
 .cases e
theorem aK{ce:Expr}{a b:List Stmt}(hc:DT X ce c)(ha:DSs X a f)(hb:DSs X b g):DS X (.If ce a b pos) (fIf c f g):=by
 refine⟨?_⟩;refine cz (yH hc.pe ha.pe hb.pe) fun D σ H=>?_;rintro⟨O₀,H₀,F,ts,O,ρ,T,fl,ρ',T',rs,e,q⟩;obtain⟨b1,T1,e1,e⟩:=aP e;refine⟨O,ts,ρ,T,b1,T1,rs.hc,rs.re,e1,fun H1 s1 hc1=>?_⟩
 cases b1 with
 |true=>exact e7 ⟨O₀,H₀,F,ts,O,ρ,T1,fl,ρ',T',rs.step s1 hc1,by simpa using e,q⟩
 |false=>exact e8 ⟨O₀,H₀,F,ts,O,ρ,T1,fl,ρ',T',rs.step s1 hc1,by simpa using e,q⟩
theorem aD(he:DE X e fe):DS X (.Return (some e) pos) (av fe):=by
 refine⟨?_⟩;refine cz (HM (rD he.pe)) fun D σ H=>?_;rintro⟨O₀,H₀,F,ts,O,ρ,T,fl,ρ',T',rs,e,q⟩;obtain⟨w,T1,e1,e⟩:=aP e;refine rs.frzG.imp fun H0 ⟨same,c0,re0⟩=>?_;refine⟨O₀,ts,cy ρ,T,w,T1,c0,re0,e1,fun v H1 s1 hc1 r1=>?_⟩
 cases w with
 |d x=>cases e;exact q v H1 (same.trans s1) hc1 r1
 |tp k=>cases e
 |loc xs=>cases e
theorem ie{i:Nat}{x:Str}{p apos:Pos}(he:DE X e fe)(hN:X.N[i]? = some x:=by rfl)(hv:Vis X.env.scope x:=by first|exact Pj rfl|exact OY (Pj rfl)|exact OY (OY rfl))(hd:(x == ("__debug__" : Str))=false:=by decide)
  (hcd:(x == ("__classdict__" : Str))=false:=by decide) {cpos:Pos}
  (hbase:O8 (.Name x p) "append" X.env (eval (.Name x p) X.env)=eval (.Name x p) X.env:=by rfl)
  (hfew:((O4 cpos (NU [e] X.env)).all (fun x=>!x.1)&&(QE cpos (PV [] X.env)).all (fun x=>x.1.isSome)
   && decide (([e]:List Expr).length+([]:List Pw).length+(if ([]:List Pw).isEmpty then 0 else 1)<30))=true:=by exact j8 rfl)
  (hline:(apos.endLine == cpos.line)=true:=by rfl) (hse:NU [e] X.env=(false,eval e X.env)::NU [] X.env:=by exact bC rfl) (hplain:(O4 cpos (NU [] X.env)).any (·.1)=false:=by exact cJ rfl)
  (hs:PN (.Call (.Attribute (.Name x p) "append" apos) [e] [] cpos) none pos.line X.env=pure false:=by rfl) :
  DS X (.Expr (.Call (.Attribute (.Name x p) "append" apos) [e] [] cpos) pos) (da i fe):=by
 refine⟨?_⟩;refine cz (qA (lK Qu QZ Q0 pU (pv i hN hv hd hcd) (dz he.pe di hse) hbase hfew hline hse hplain) hs) fun D σ H=>?_;rintro⟨O₀,H₀,F,ts,O,ρ,T,fl,ρ',T',rs,e,q⟩;obtain⟨w,T1,e1,e⟩:=aP e;split at e
 .rename_i x0
  split at e
  .rename_i xs h1
   split at e
   .rename_i h2
    cases e;obtain⟨v,k1,a,rfl,k2,k3,vs,k4,k5⟩:=rs.re i _ h1;refine⟨_,k1,.inl ⟨rfl,vs,SqL.of k4⟩,O,ts,ρ,T,_,_,rs.hc,rs.re,e1,fun u H1 s1 hc1 r1=>?_⟩;have rs1:=rs.step s1 hc1;exact⟨a,vs,u,rfl,rfl,s1 _ _ k3 k4,by rw[k5.length];exact h2,q O _ _ (rs1.put (us:=[]) h1 k1 ((k5.mono (rs.hc.le s1)).append (.cons r1 .nil)))⟩
   .cases e
  .cases e
 .cases e
theorem G8{o k:Expr}{fo fk:FE}{tpos:Pos}(ho:DE X o fo)(hk:DE X k fk)(he:DE X e fe)(ha:∀v,Tz (.Subscript o k tpos) X.env v=(do
   let ov ←S0 [v] (eval o X.env)
   let iv ←S0 [v,ov] (eval k X.env)
   Wu tpos
   S0 [v,ov,iv] (Wt ov iv v)
   release [v,ov,iv] []):=by intro _;rfl)
  (hs:SD [.Subscript o k tpos] e pos.line X.env=pure false:=by rfl) (hw:SE [.Subscript o k tpos] e X.env=pure none:=by rfl)
  (h1:(QL [.Subscript o k tpos] X.env).map (·.2)=[Tz (.Subscript o k tpos) X.env]:=by rfl):DS X (.Assign [.Subscript o k tpos] e pos) (sH fo fk fe):=by
 refine⟨?_⟩;refine cz (rE he.pe (F7 ho.pe hk.pe set_list ha) hs hw h1) fun D σ H=>?_;rintro⟨O₀,H₀,F,ts,O,ρ,T,fl,ρ',T',rs,e,q⟩;obtain⟨w,T1,e1,e⟩:=aP e;obtain⟨wo,T2,e2,e⟩:=aP e;obtain⟨wk,T3,e3,e⟩:=aP e;refine⟨O,ts,ρ,T,w,T1,rs.hc,rs.re,e1,fun v H1 s1 hc1 r1=>?_⟩;have rs1:=rs.step s1 hc1;refine⟨O,ts,ρ,T1,wo,T2,hc1,rs1.re,e2,fun vo H2 s2 hc2 r2=>?_⟩;have rs2:=rs1.step s2 hc2;refine⟨O,ts,ρ,T2,wk,T3,hc2,rs2.re,e3,fun vk H3 s3 hc3 r3=>?_⟩;have rs3:=rs2.step s3 hc3;split at e
 .split at e
  .rename_i xs h1
   split at e
   .cases e
   .rename_i hn
    split at e
    .rename_i j h2
     cases e;obtain⟨a,k1,rfl⟩:=r2;cases (show Rep X.K O H3 vk (.int _) from r3);obtain⟨vs,k2,k3⟩:=(hc3.tape _ a xs k1 h1).lst (by simpa using hn);refine⟨a,vs,_,j,rfl,rfl,k2,by rw[k3.length];exact h2,q O _ _ (rs3.tape k1 (Reps.set ?_ j k3))⟩;exact Rep.mono ((hc1.le s2).trans (hc2.le s3)) r1
    .cases e
  .cases e
 .cases e
end
section
variable {K:Frag}{O₀:Addr->Prop}{H₀:Hp}{F:List ((Addr->Prop)×Hp)}{ts:List Addr}{O:Addr->Prop}{H H1:Hp}{σ:L2.St}{ρ:Rho}{T T1:Tp}
theorem RS.less{f:(Addr->Prop)×Hp}(r:RS K O₀ H₀ (f::F) ts O H σ ρ T):RS K O₀ H₀ F ts O H σ ρ T:=⟨r.hc,r.re,r.sub,r.ots,r.same,r.fresh,r.dist,fun f hf=>r.frs f (NJ _ hf),r.len⟩
theorem RS.more(r:RS K O₀ H₀ F ts O H σ ρ T):RS K O₀ H₀ ((O,H)::F) ts O H σ ρ T:=⟨r.hc,r.re,r.sub,r.ots,r.same,r.fresh,r.dist,fun f hf=>by
 rcases NR.mp hf with z|z
 .subst z;exact fun a o n e=>⟨n,e⟩
 .exact r.frs f z,r.len⟩
end
section
variable {X:Cx}{pos:Pos}{st:Stmt}{rest:List Stmt}{f g:FS}{e:Expr}{fe:FE}{c:FT}
theorem ic{i:Nat}{x:Str}{iter:Expr}{body:List Stmt}{tpos:Pos}{it:FI}(hN:X.N.Nodup)(hi:DI X (.Name x tpos) iter it)(hb:DSs X body f)(hix:X.N[i]? = some x:=by rfl)(hx:Loc X.env.scope x:=by first|exact Pj rfl|exact OY rfl)
  (hf:X.fn x=true\/X.env.scope.names.lookup x=some .local:=by first|exact .inl rfl|exact .inr rfl|assumption) (hp:RU (Ot X.prog X.w) X.A X.env X.xe:=by exact RJ) (hc:X.calm=true:=by rfl)
  (hs:∀x,O7 iter X.env x=pure x:=by intro _;rfl):DS X (.For (.Name x tpos) iter body [] pos) (c9 i it f):=by
 refine⟨?_⟩;refine cz (xQ hp hc hi.pe (gr hN hix hx hf) hb.pe hs) fun D σ H=>?_;rintro⟨O₀,H₀,F,ts,O,ρ,T,fl,ρ',T',rs,e,q⟩;obtain⟨ds,T1,e1,e⟩:=aP e;refine⟨O,ts,ρ,T,ds,T1,rs.hc,rs.re,e1,fun J H1 s1 hc1 ok hz=>?_⟩;refine⟨fun k m σ H=>m=ds.length-k/\k<=ds.length/\∃O' ρk Tk,RS X.K O₀ H₀ ((O,H1)::F) ts O' H σ ρk Tk/\forL i f (ds.drop k) ρk Tk=some ((fl,ρ'),T'),⟨_,rfl,Pi _,O,ρ,T1,(rs.step s1 hc1).more,e⟩,?_⟩;rintro k m σ2 H2 ⟨rfl,hk,O',ρk,Tk,rs2,ek⟩;obtain⟨k1,k2,k3⟩:=ok O' H2 (rs2.frs _ NI)
 by_cases hlt:k<ds.length
 .refine .inr ⟨k1 k hlt,fun σ3 H3=>∃O' ρk Tk,RS X.K O₀ H₀ ((O,H1)::F) ts O' H3 σ3 ρk Tk/\forL i f (ds.drop (k+1)) ρk Tk=some ((fl,ρ'),T'),fun σ3 H3 n=>⟨ds.length-(k+1),by omega,rfl,hlt,n⟩,fun v H3 y=>?_⟩
  obtain⟨e2,d,hd,rd⟩:=k3 k v H3 y hlt;subst e2
  have hdr:ds.drop k=d::ds.drop (k+1):=by
   rw[Qh hlt];have:=(NM.mp hd).2;rw[this]
  rw[hdr] at ek;obtain⟨⟨fl1,ρ1⟩,T3,e3,ek⟩:=aP ek;refine⟨O₀,H₀,(O,H1)::F,ts,O',_,Tk,fl1,ρ1,T3,rs2.set (i:=i) (w:=.d d) rd (fun _ z=>nomatch z),e3,?_⟩
  cases fl1 with
  |nx=>exact fun O3 σ3 H3 rs3=>⟨O3,ρ1,T3,rs3,ek⟩
  |ct=>exact fun O3 σ3 H3 rs3=>⟨O3,ρ1,T3,rs3,ek⟩
  |bk=>
   cases ek;exact fun O3 σ3 H3 rs3=>q O3 σ3 H3 rs3.less
  |rt x=>
   cases ek;exact q
  |ro x=>
   cases ek;exact q
 .have e:k=ds.length:=by omega
  subst e;rw[Pr (NT _)] at ek;cases ek;exact .inl ⟨k2,q O' σ2 H2 rs2.less⟩
theorem kJ{ce:Expr}{body:List Stmt}(n:Nat)(hc:DT X ce c)(hb:DSs X body f)(hp:RU (Ot X.prog X.w) X.A X.env X.xe:=by exact RJ):DS X (.While ce body [] pos) (bI c f n):=by
 refine⟨?_⟩;refine cz (Cq hp hc.pe hb.pe) fun D σ H=>?_;rintro⟨O₀,H₀,F,ts,O,ρ,T,fl,ρ',T',rs,e,q⟩;refine⟨fun m σ H=>∃O' ρm Tm,RS X.K O₀ H₀ F ts O' H σ ρm Tm/\bI c f m ρm Tm=some ((fl,ρ'),T'),⟨n,O,ρ,T,rs,e⟩,?_⟩;rintro m σ2 H2 ⟨O',ρm,Tm,rs2,em⟩
 cases m with
 |zero=>cases em
 |succ m=>
  obtain⟨b,T3,e3,em⟩:=aP em;refine⟨O',ts,ρm,Tm,b,T3,rs2.hc,rs2.re,e3,fun H3 s3 hc3=>?_⟩;have rs3:=rs2.step s3 hc3
  cases b with
  |false=>
   rw[if_neg NZ] at em;cases em;exact e8 (q O' σ2 H3 rs3)
  |true=>
   rw[if_pos rfl] at em;obtain⟨⟨fl1,ρ1⟩,T4,e4,em⟩:=aP em;refine e7 ⟨fun σ3 H3=>∃O' ρm Tm,RS X.K O₀ H₀ F ts O' H3 σ3 ρm Tm/\bI c f m ρm Tm=some ((fl,ρ'),T'),fun σ3 H3 n=>⟨m,SO m,n⟩,O₀,H₀,F,ts,O',ρm,T3,fl1,ρ1,T4,rs3,e4,?_⟩
   cases fl1 with
   |nx=>exact fun O3 σ3 H3 rs3=>⟨O3,ρ1,T4,rs3,em⟩
   |ct=>exact fun O3 σ3 H3 rs3=>⟨O3,ρ1,T4,rs3,em⟩
   |bk=>
    cases em;exact fun O3 σ3 H3 rs3=>q O3 σ3 H3 rs3
   |rt x=>
    cases em;exact q
   |ro x=>
    cases em;exact q
end
abbrev FnM:=List W->Tp->Option (NG×Tp)
def fY:List W->Bool
 |[]=>true
 |.loc _::_=>false
 |_::r=>fY r
def cZ(o:Option ((Fl×Rho)×Tp)):Option (NG×Tp):=bnd o fun p T=>match p with
 |(.rt x,_)=>some (x,T)
 |(.nx,_)=>some (.none,T)
 |_=>none
def aT(N:Nat)(f:FS):FnM:=fun ws T=>if fY ws=true then cZ (f (ws.map some++Oq (N-ws.length) none) T) else none
inductive SpMP(K:Frag)(n:Nat)(m:FnM)(vs:List V)(H:Hp)(Q:VK):Prop where
 |mk (O:Addr->Prop) (ts:List Addr) (T:Tp) (ws:List W) (x:NG) (T':Tp) (hc:HC K O ts H T) (r:iu K O ts H vs ws) (hl:ws.length=n) (e:m ws T=some (x,T')) (q:∀v H',SameX ts H H'->HC K O ts H' T'->Rep K O H' v x->Q v H'):SpMP K n m vs H Q
def spM(K:Frag)(n:Nat)(m:FnM):Sp:=fun vs H Q _=>SpMP K n m vs H Q
theorem uu{K:Frag}{O:Addr->Prop}{ts:List Addr}{H:Hp}:∀{vs:List V}{ws:List W}{i:Nat}{w:W},iu K O ts H vs ws->ws[i]? = some w->∃v,vs[i]? = some v/\RepW K O ts H v w
 |_,_,_,_,.nil,e=>by simp at e
 |_,_,0,_,.cons r _,e=>by simp at e;subst e;exact⟨_,rfl,r⟩
 |_,_,i+1,w,.cons _ t,e=>by
  obtain⟨d,h1,h2⟩:=uu (i:=i) (w:=w) t (by simpa using e);exact⟨d,by simpa using h1,h2⟩
theorem pT:∀{ws:List W}{xs:NG},fY ws=true->W.loc xs∉ws
 |[],_,_,h=>by cases h
 |.loc _::_,_,e,_=>by cases e
 |.d _::r,_,e,h=>by
  rcases NR.mp h with z|z
  .cases z
  .exact pT (ws:=r) e z
 |.tp _::r,_,e,h=>by
  rcases NR.mp h with z|z
  .cases z
  .exact pT (ws:=r) e z
theorem ul{ws:List W}{n i:Nat}{w:W}(e:(ws.map some++Oq n none)[i]? = some (some w)):ws[i]? = some w:=by
 by_cases h:i<ws.length
 .rw[Os (by simpa using h),OS] at e
  cases q:ws[i]? with
  |none=>rw[q] at e;cases e
  |some u=>rw[q] at e;cases e;rfl
 .rw[R8 (by simpa using h)] at e
  have:=Oz e;rw[Uy] at this;cases this.2
theorem dfn{P:Og}{w:Ow}{K:Frag}{mg:Str->Option NK}{base:Heap}{x qual:Str}{st:Stmt}{f:Addr}{fd:PK}{N ps:List Str}{k:Nat}{m:FS}(F:Fun K x qual st f fd)(S:FnScope N ps (bM st))
  (hbody:∀(cdv:NK) (A:OD) (outer:List Env) (s:NL) (H:Hp) (E:XK),Room k (A.deeper (R7 qual (bM st) s.heap.objs.size f cdv))->DSs (gL CX0 P w K mg base N qual (bM st) f cdv A outer s H E).nox (dA st) m) :
  FnOk P w K mg base CX0 (k+1) f fd ps (spM K ps.length (aT N.length m)):=by
 refine F.ok S (fun vs H Q E h=>?_) (fun cdv A outer s H vs Q E hr h=>⟨_,(hbody cdv A outer s H E hr).pe,?_⟩)
 .obtain⟨O,ts,T,ws,x,T',hc,rw',hl,_⟩:=h
  rw[←hl];exact QW rw'
 obtain⟨O,ts,T,ws,x,T',hc,rw',hl,e,q⟩:=h;unfold aT at e;split at e
 .rename_i hn
  obtain⟨⟨fl,ρ'⟩,T1,e1,e⟩:=aP e;have hlen:vs.length=ws.length:=QW rw';have noL:∀{i:Nat}{xs:NG},(ws.map some++Oq (N.length-ws.length) none)[i]? = some (some (W.loc xs))->False:=fun {i xs} e=>pT hn (Oz (ul e));refine⟨O,H,[],ts,O,_,T,fl,ρ',T1,⟨hc,fun i u e=>?_,fun _ h=>h,hc.own,.refl _ _,fun i xs a e1 _=>(noL e1).elim,fun i j xs ys v e1 _ _ _=>(noL e1).elim,fun f hf=>absurd hf (by simp),by simp[L2.start,hlen]⟩,e1,?_⟩
  .obtain⟨v,h1,h2⟩:=uu rw' (ul e)
   refine⟨v,?_,h2⟩;unfold L2.start;have hi:i<vs.length:=(NM.mp h1).1;rw[Os (by simpa using hi),OS,h1];rfl
  .cases fl with
   |rt y=>cases e;exact fun v H' s1 c1 r1=>q v H' s1 c1 r1
   |nx=>
    cases e;exact fun O' σ' H' rs=>q _ _ rs.same rs.frzH .non
   |bk=>cases e
   |ct=>cases e
   |ro y=>cases e
 .cases e
def au(m:FnM)(g:FA):FE:=fun ρ T=>bnd (g ρ T) fun ws T1=>bnd (m ws T1) fun x T2=>some (.d x,T2)
def mq(g:FA)(n:Nat):Prop:=∀ρ T ws T',g ρ T=some (ws,T')->ws.length=n
theorem g7:mq ah 0:=fun ρ T ws T' e=>by cases e;rfl
theorem cP{f:FE}{g:FA}{n:Nat}(h:mq g n):mq (ae f g) (n+1):=fun ρ T ws T' e=>by
 obtain⟨w1,T1,e1,e⟩:=aP e;obtain⟨ws,T2,e2,e⟩:=aP e;cases e;rw[Ou,h _ _ _ _ e2]
theorem nA{X:Cx}{name:Str}{ps:List Str}{k:Nat}{m:FnM}{e:Expr}{es:List Expr}{g:FA}{p pos:Pos}(F:Fn X.prog X.w X.K X.mg X.base name ps k (spM X.K ps.length m))(hr:Room k X.A)(hg:Gl X name)(ha:DA X (e::es) g)(hl:mq g ps.length)(hdb:(name == ("__debug__" : Str))=false:=by decide)
  (he:NU (e::es) X.env=(false,eval e X.env)::NU es X.env:=by exact bC rfl) (hpl:(O4 pos (NU es X.env)).any (·.1)=false:=by exact cJ rfl):DE X (.Call (.Name name p) (e::es) [] pos) (au m g):=by
 refine⟨?_⟩;refine bD (yI F hr hg ha.pe hdb he hpl) fun σ H Q=>?_;rintro⟨O,ts,ρ,T,w,T',hc,re,e,q⟩;obtain⟨ws,T1,e1,e⟩:=aP e;obtain⟨x,T2,e2,e⟩:=aP e;cases e;refine⟨O,ts,ρ,T,ws,T1,hc,re,e1,fun vs H1 s1 hc1 r1=>?_⟩;refine⟨O,ts,T1,ws,x,_,hc1,by rw[PU];exact r1,hl _ _ _ _ e1,e2,fun v H2 s2 hc2 r2=>q v H2 (s1.trans s2) hc2 r2⟩
noncomputable def iop(g:Int->Int->Option NG):NG->NG->Option NG
 |.int i,.int j=>g i j
 |_,_=>none
def eB:NG->NG->Option PyData:=iop fun i j=>some (.int (i-j))
def cI:NG->NG->Option PyData:=iop fun i j=>if 0<j then some (.int (i % j)) else none
def ID:NG->NG->Option PyData:=iop fun i j=>if 0<j/\j<1073741824 then some (.int (i / j)) else none
def iy:NG->NG->Option PyData:=iop fun i j=>if 0<=j/\j<=1000000/\i.natAbs<2^64 then some (.int (i^j.toNat)) else none
def ltD:NG->NG->Option PyData:=iop fun i j=>some (.bool (decide (i<j)))
def leD:NG->NG->Option PyData:=iop fun i j=>some (.bool (decide (i<=j)))
def gtD:NG->NG->Option PyData:=iop fun i j=>some (.bool (decide (j<i)))
def geD:NG->NG->Option PyData:=iop fun i j=>some (.bool (decide (j<=i)))
theorem yc{g:Int->Int->Option NG}{x y d:NG}(e:iop g x y=some d):∃i j,x=.int i/\y=.int j/\g i j=some d:=by
 unfold iop at e;split at e
 .exact⟨_,_,rfl,rfl,e⟩
 .cases e
theorem rz{K:Frag}{C:Int->Int->Prop}{g:Int->Int->V}{gd:Int->Int->Option NG}(h:∀i j d,gd i j=some d->C i j/\∀O H,Rep K O H (g i j) d):iC K (rI C g) (iop gd):=fun O ts H T v1 v2 x y d Q hc h1 h2 e q=>by
 obtain⟨i,j,rfl,rfl,e⟩:=yc e;obtain⟨c,r⟩:=h i j d e;exact⟨i,j,h1.int,h2.int,c,q _ H (.refl _ _) hc (r O H)⟩
theorem kO{K:Frag}{g:Int->Int->V}{gd:Int->Int->Option NG}(h:∀i j d,gd i j=some d->∀O H,Rep K O H (g i j) d):iC K (rI0 g) (iop gd):=fun O ts H T v1 v2 x y d Q hc h1 h2 e q=>by
 obtain⟨i,j,rfl,rfl,e⟩:=yc e;exact⟨i,j,h1.int,h2.int,q _ H (.refl _ _) hc (h i j d e O H)⟩
section
variable {X:Cx}
theorem gB:OpD X (Pu .Sub) eB:=⟨_,Gg,kO fun i j d e O H=>by cases e;exact .int _⟩
theorem ft:OpD X (Pu .Mod) cI:=⟨_,Gk,rz fun i j d e=>by
 split at e
 .rename_i h;cases e;exact⟨h,fun _ _=>.int _⟩
 .cases e⟩
theorem lL:OpD X (Pu .Pow) iy:=⟨_,Gi,rz fun i j d e=>by
 split at e
 .rename_i h;cases e;exact⟨h,fun _ _=>.int _⟩
 .cases e⟩
theorem cN:OpD X (Oh .Lt) ltD:=⟨_,HX,kO fun i j d e O H=>by cases e;exact .bl _⟩
theorem gb:OpD X (Oh .LtE) leD:=⟨_,HY,kO fun i j d e O H=>by cases e;exact .bl _⟩
theorem cO:OpD X (Oh .Gt) gtD:=⟨_,HZ,kO fun i j d e O H=>by cases e;exact .bl _⟩
theorem zE:OpD X (Oh .GtE) geD:=⟨_,H8,kO fun i j d e O H=>by cases e;exact .bl _⟩
def aQ:NG->NG->Option NG
 |.int i,.int j=>some (.int (i+j))
 |.str x,.str y=>if x.length+y.length<=NS then some (.str (x++y)) else none
 |.tuple xs,.tuple ys=>if xs.length+ys.length<=NS then some (.tuple (xs++ys)) else none
 |.list xs,.list ys=>if xs.length+ys.length<=NS then some (.list (xs++ys)) else none
 |_,_=>none
def HK(K:Frag):R2:=fun x y H Q=>∃l b xs zs,x=.ref l/\y=.ref b/\SqL K H l xs/\SqL K H b zs/\xs.length+zs.length<=NS/\∀p,H p=none->Q (.ref p) (upd H p (.lst (xs++zs)))
theorem Es:OpR X (Pu .Add) (HK X.K):=by
 intro pins s σ H x y v u Q I rx ry h;obtain⟨l,b,xs,zs,rfl,rfl,hH,hB,hz,q⟩:=h;cases rx;cases ry;obtain⟨its,r,p1,_⟩:=I.list hH;obtain⟨its2,r2,p2,_⟩:=I.list hB;have hl:=r.length;have hl2:=r2.length;obtain⟨⟨cls,dd,data,sl⟩,ho,hc,n,hd⟩:=id p1.isList;obtain⟨⟨cls2,dd2,data2,sl2⟩,ho2,hc2,n2,hd2⟩:=id p2.isList;simp only at hc hd hc2 hd2;subst hc hd hc2 hd2
 have ea:its.toArray++its2.toArray=(its++its2).toArray:=by simp
 refine S4 ⟨_,ho,rfl⟩ ⟨_,ho2,rfl⟩ noFill_list_add seq_list_add PySem.F.slot_list_add PySem.F.entry_list_add (PySem.F.args_list_add_2 _ _) (list_addW l b its.toArray its2.toArray n n2 dd dd2 sl sl2 (by rw[NX,NX];omega)) ⟨ho,ho2,?_⟩;rw[ea];exact⟨.ref _,_,I.lnew (t':=s.toks) (r.append r2) (by rw[OR];omega),rfl,q _ I.fresh⟩
theorem ba:OpD X (Pu .Add) aQ:=by
 refine⟨_,op_add.or (op_add_str.or (op_catG.or Es)),fun O ts H T v1 v2 x y d Q hc h1 h2 e q=>?_⟩;unfold aQ at e;split at e
 .cases e
  exact .inl ⟨_,_,h1.int,h2.int,q _ H (.refl _ _) hc (.int _)⟩
 .split at e
  .rename_i hz
   cases e;exact .inr (.inl ⟨_,_,h1.str,h2.str,hz,q _ H (.refl _ _) hc (.str _)⟩)
  .cases e
 .split at e
  .rename_i xs ys hz
   cases e;obtain⟨a,vs,rfl,t1,r1⟩:=h1.tup;obtain⟨b,us,rfl,t2,r2⟩:=h2.tup;refine .inr (.inr (.inl ⟨a,b,vs,us,rfl,rfl,t1.sq,t2.sq,by rw[r1.length,r2.length];exact hz,fun z=>?_,fun _ z=>?_,fun _ _ p hp=>?_⟩))
   .subst z
    cases r1;exact q _ H (.refl _ _) hc (.tup t2 r2)
   .subst z
    cases r2;rw[PU] at q;exact q _ H (.refl _ _) hc (.tup t1 r1)
   .exact q _ _ (.new hp _) (hc.new hp _) (hc.newT hp (r1.append r2))
  .cases e
 .split at e
  .rename_i xs ys hz
   cases e;obtain⟨a,vs,rfl,t1,r1⟩:=h1.lst;obtain⟨b,us,rfl,t2,r2⟩:=h2.lst;exact .inr (.inr (.inr ⟨a,b,vs,us,rfl,rfl,t1,t2,by rw[r1.length,r2.length];exact hz,fun p hp=>q _ _ (.new hp _) (hc.new hp _) (hc.newL hp (r1.append r2))⟩))
  .cases e
 .cases e
theorem sR:fillsNumberSlot (.type "tuple") "mul"=pure false:=PySem.fillsNumberSlot_seq (id:="tuple.__mul__") (r:=some (.builtin "tuple.__rmul__")) QB.lookup (by decide +kernel) SQ.lookup (by decide +kernel)
theorem sY:seqRepeat? (.type "tuple")=pure (some (.builtin "tuple.__mul__")):=by
 unfold seqRepeat?;rw[U8 (T:="tuple") (name:="__mul__") (id:="tuple.__mul__") QB.lookup (by decide +kernel),U8 (T:="tuple") (name:="__rmul__") (id:="tuple.__rmul__") SQ.lookup (by decide +kernel)];rfl
theorem sS(a:Int)(t:Tok)(l:Addr)(items:Array NK)(n:Nat)(dd:Option Addr)(sl:Array (Option NK)) :
  Meets (Wx.«int.__rmul__» ⟨[.int a t,.ref l],[]⟩) (fun _ R s=>s.heap.get? l=some { cls:=.type "tuple",dict:=dd,data:=.seq items n,slots:=sl }/\R (.ok (.ret Value.notImplemented)) s):=.of_wp fun prog w A R s h=>by obtain⟨hp,g,d,tk,os⟩:=s;obtain⟨hl,h⟩:=h;wp_walk;exact⟨_,rfl,h⟩
theorem AM(l:Addr)(items:Array NK)(n:Nat)(dd:Option Addr)(sl:Array (Option NK))(k:Int)(t:Tok)(h1:2<=k)(h2:k<=1000)(h3:items.isEmpty=false)(h4:items.size<=1000) :
  Meets (Wx.«tuple.__mul__» ⟨[.ref l,.int k t],[]⟩) (fun _ R s=>s.heap.get? l=some { cls:=.type "tuple",dict:=dd,data:=.seq items n,slots:=sl }/\R (.ok (.ret (OT s.heap.objs.size))) { s with heap:=s.heap.push { cls:=SZ "tuple",data:=Data.seq (Sb (fun x1 x2=>x1++x2) #[] (Oq k.toNat items)) },toks:=s.toks }):=
 .of_wp fun prog w A R s h=>by
  obtain⟨hp,g,d,tk,os⟩:=s;obtain⟨hl,h⟩:=h
  have hc0:¬(decide (k < -(2^63))||decide (k>=2^63))=true:=by simp;omega
  have hc1:¬(items.isEmpty||k == 1)=true:=by rw[h3];simp;omega
  have hc2:¬(decide (k<=0)||items.isEmpty)=true:=by rw[h3];simp;omega
  have hm:items.size*k.toNat<=1000*1000:=TK h4 (by omega)
  have hm':(items.size:Int)*k<=1000000:=by
   have e:((items.size*k.toNat:Nat):Int)=(items.size:Int)*k:=by rw[Int.natCast_mul,RP (by omega)]
   omega
  have hc3:¬(items.size:Int)*k>(2^63-1) / 8:=by
   have:(1000000:Int)<=(2^63-1) / 8:=by decide
   omega
  have hc4:¬Sf ((items.size:Int)*k)=true:=by
   unfold Sf
   have:NS=16777216:=by decide
   simp;omega
  have ht:UB hp l items:=⟨_,hl,rfl,n,rfl⟩;wp_walk;rw[if_neg hc0];dsimp only;refine NP (Rz ht ?_);rw[if_neg hc1,if_neg hc2,if_neg hc3,if_neg hc4]
  have fit:sizeOk (.seq (Sb (fun x1 x2=>x1++x2) #[] (Oq k.toNat items))):=by
   show (Sb (fun x1 x2=>x1++x2) #[] (Oq k.toNat items)).size<=NS;have q:=foldl_rep items.toList k.toNat [];rw[Q6] at q
   have q':Sb (fun x1 x2=>x1++x2) #[] (Oq k.toNat items)=(Oq k.toNat items.toList).flatten.toArray:=by simpa using q
   rw[q',NX,len_rep]
   have:NS=16777216:=by decide
   rw[Pf,Nat.mul_comm];omega
  first
  |exact NP (m:=OM _) (OW (Oa ⟨_,rfl,h⟩) fit)
  |exact NP (m:=OM _) (OW (NP (Oa (Oa ⟨_,rfl,h⟩))) fit)
theorem En:OpR X (Pu .Mult) (fun x y H Q=>∃a k xs,x=.ref a/\y=.int k/\SqT X.K H a xs/\2<=k/\k<=1000/\xs≠[]/\xs.length<=1000/\∀p,H p=none->Q (.ref p) (upd H p (.tup (Oq k.toNat xs).flatten))):=by
 intro pins s σ H x y v u Q I rx ry h;obtain⟨a,k,xs,rfl,rfl,hq,h1,h2,h3,h4,q⟩:=h;cases rx;obtain⟨t,rfl⟩:=ry;obtain⟨its,r,p1,_⟩:=I.tuple hq;have hl:=r.length;have hv:its≠[]:=fun z=>h3 (r.nil_iff.mp z);obtain⟨⟨cls,dd,data,sl⟩,ho,hc,n,hd⟩:=id p1;simp only at hc hd;subst hc hd
 have hnew:Sb (fun x1 x2=>x1++x2) #[] (Oq k.toNat its.toArray)=(Oq k.toNat its).flatten.toArray:=by
  have q:=foldl_rep its k.toNat [];rw[Q6] at q;exact q
 have he:its.toArray.isEmpty=false:=by
  cases its with
  |nil=>exact absurd rfl hv
  |cons _ _=>simp
 refine Sk (T:="tuple") (U:="int") (by decide) ⟨_,ho,rfl⟩ (fun s'=>Tb s' k t) sR Vs RL sY U9.lookup
  (QO RL (Tb s k t) Va (UN _ _) (sS k t a its.toArray n dd sl)
   ⟨ho,rfl,⟨_,ho,rfl⟩,QO QB ⟨_,ho,rfl⟩ SR (SG _ _) (AM a its.toArray n dd sl k t h1 h2 he (by rw[NX];omega)) ⟨ho,?_⟩⟩)
 rw[hnew];refine⟨.ref s.heap.objs.size,_,I.laid (t':=s.toks) (o:=.tup (Oq k.toNat xs).flatten) (fun b ob q=>NO _ q) (NT _) ?_,rfl,q _ (I.hok.fresh (NT _))⟩;refine⟨?_,_,r.rep k.toNat,SM _ _⟩;rw[len_rep];have:k.toNat*xs.length<=1000*1000:=TK (by omega) h4
 have:NS=16777216:=by decide
 omega
def cm:NG->NG->Option NG
 |.int i,.int j=>if (-(2^64)<i/\i<2^64)\/(-(2^64)<j/\j<2^64) then some (.int (i*j)) else none
 |.str z,.int k=>if 0<=k/\k<=2000/\z.length<=1000 then some (.str (QP z k)) else none
 |.tuple xs,.int k=>if 2<=k/\k<=1000/\xs.isEmpty=false/\xs.length<=1000 then some (.tuple (Oq k.toNat xs).flatten) else none
 |_,_=>none
theorem eW:OpD X (Pu .Mult) cm:=by
 refine⟨_,op_mul.or (op_mulS.or En),fun O ts H T v1 v2 x y d Q hc h1 h2 e q=>?_⟩;unfold cm at e;split at e
 .split at e
  .rename_i hz
   cases e;exact .inl ⟨_,_,h1.int,h2.int,hz,q _ H (.refl _ _) hc (.int _)⟩
  .cases e
 .split at e
  .rename_i hz
   cases e;exact .inr (.inl ⟨_,_,h1.str,h2.int,hz.1,hz.2.1,hz.2.2,q _ H (.refl _ _) hc (.str _)⟩)
  .cases e
 .split at e
  .rename_i xs k hz
   cases e;obtain⟨a,vs,rfl,t1,r1⟩:=h1.tup;exact .inr (.inr ⟨a,_,vs,rfl,h2.int,t1.sq,hz.1,hz.2.1,fun z=>by subst z;cases r1;exact absurd hz.2.2.1 (by simp),by rw[r1.length];exact hz.2.2.2,fun p hp=>q _ _ (.new hp _) (hc.new hp _) (hc.newT hp (r1.rep _))⟩)
  .cases e
 .cases e
def eqS:NG->NG->Option Bool
 |.int i,.int j=>some (decide (i=j))
 |.str x,.str y=>some (decide (x=y))
 |.bool a,.bool b=>some (decide (a=b))
 |.none,.none=>some true
 |.none,.int _=>some false | .int _,.none=>some false | .none,.bool _=>some false | .bool _,.none=>some false | .none,.str _=>some false | .str _,.none=>some false
 |.int _,.str _=>some false | .str _,.int _=>some false | .bool _,.str _=>some false | .str _,.bool _=>some false
 |_,_=>none
theorem yi{K:Frag}{O:Addr->Prop}{H:Hp}{v1 v2:V}{x y:NG}{b:Bool}(h1:Vw K O H v1 x)(h2:Vw K O H v2 y)(e:eqS x y=some b):sC v1 v2=true/\decide (v1=v2)=b:=by
 unfold eqS at e;split at e
 all_goals first|(cases e;done)|skip
 .cases h1.int;cases h2.int;cases e;exact⟨rfl,by simp⟩
 .cases h1.str;cases h2.str;cases e;exact⟨rfl,by simp⟩
 .cases h1.bl;cases h2.bl;cases e;exact⟨rfl,by simp⟩
 .cases h1.non;cases h2.non;cases e;exact⟨rfl,by simp⟩
 .cases h1.non;cases h2.int;cases e;exact⟨rfl,by simp⟩
 .cases h1.int;cases h2.non;cases e;exact⟨rfl,by simp⟩
 .cases h1.non;cases h2.bl;cases e;exact⟨rfl,by simp⟩
 .cases h1.bl;cases h2.non;cases e;exact⟨rfl,by simp⟩
 .cases h1.non;cases h2.str;cases e;exact⟨rfl,by simp⟩
 .cases h1.str;cases h2.non;cases e;exact⟨rfl,by simp⟩
 .cases h1.int;cases h2.str;cases e;exact⟨rfl,by simp⟩
 .cases h1.str;cases h2.int;cases e;exact⟨rfl,by simp⟩
 .cases h1.bl;cases h2.str;cases e;exact⟨rfl,by simp⟩
 .cases h1.str;cases h2.bl;cases e;exact⟨rfl,by simp⟩
def eqD(x y:NG):Option PyData:=(eqS x y).map .bool
def neD(x y:NG):Option PyData:=(eqS x y).map fun b=>.bool (!b)
theorem aV:OpD X (Oh .Eq) eqD:=⟨_,Ia,fun O ts H T v1 v2 x y d Q hc h1 h2 e q=>by
 unfold eqD at e;obtain⟨b,e1,rfl⟩:=Ol.mp e;obtain⟨k1,k2⟩:=yi h1 h2 e1
 exact⟨k1,by rw[k2];exact q _ H (.refl _ _) hc (.bl _)⟩⟩
theorem eh:OpD X (Oh .NotEq) neD:=⟨_,HW,fun O ts H T v1 v2 x y d Q hc h1 h2 e q=>by
 unfold neD at e;obtain⟨b,e1,rfl⟩:=Ol.mp e;obtain⟨k1,k2⟩:=yi h1 h2 e1
 exact⟨k1,by rw[k2];exact q _ H (.refl _ _) hc (.bl _)⟩⟩
def isNone:NG->Bool
 |.none=>true
 |_=>false
theorem uF{K:Frag}{O:Addr->Prop}{H:Hp}{v:V}{x:NG}(h:Vw K O H v x):decide (v=.non)=isNone x:=by
 cases h with
 |rep h=>cases h <;> rfl
 |raw _ _=>rfl
 |rawD _ _=>rfl
def isD:NG->NG->Option NG
 |x,.none=>some (.bool (isNone x))
 |_,_=>none
theorem oP:OpD X (Oh .Is) isD:=⟨_,Gm,fun O ts H T v1 v2 x y d Q hc h1 h2 e q=>by
 unfold isD at e;split at e
 .cases e
  exact⟨h2.non,by rw[uF h1];exact q _ H (.refl _ _) hc (.bl _)⟩
 .cases e⟩
def jG:NG->NG->Option NG
 |x,.none=>some (.bool (!isNone x))
 |.bool a,.bool b=>some (.bool (a != b))
 |_,_=>none
theorem Eu:OpD X (Oh .IsNot) jG:=⟨_,op_notN.or BA,fun O ts H T v1 v2 x y d Q hc h1 h2 e q=>by
 unfold jG at e;split at e
 .cases e
  exact .inl ⟨h2.non,by rw[uF h1];exact q _ H (.refl _ _) hc (.bl _)⟩
 .cases e
  exact .inr ⟨_,_,h1.bl,h2.bl,q _ H (.refl _ _) hc (.bl _)⟩
 .cases e⟩
def c8:NG->Bool
 |.none=>true | .bool _=>true | .int _=>true | .str _=>true
 |_=>false
def eqF:NG->NG->Bool
 |.none,.none=>true
 |.bool a,.bool b=>a == b
 |.bool a,.int b=>(if a then 1 else 0) == b
 |.int a,.bool b=>a == (if b then 1 else 0)
 |.int a,.int b=>a == b
 |.str a,.str b=>a == b
 |_,_=>false
def iz(y x:Str):Bool:=!(OQ y x 0 y.length 1).isEmpty
def inS:NG->NG->Option Bool
 |.str x,.str y=>some (iz y x)
 |x,.list ys=>if c8 x&&ys.all c8 then some (ys.any fun y=>eqF y x) else none
 |x,.tuple ys=>if c8 x&&ys.all c8 then some (ys.any fun y=>eqF y x) else none
 |_,_=>none
theorem qL{K:Frag}{O:Addr->Prop}{H:Hp}{v:V}{x:NG}(h:Rep K O H v x)(e:c8 x=true):f6 v=true:=by cases h <;> first|rfl|cases e
theorem G3{K:Frag}{O:Addr->Prop}{H:Hp}{v u:V}{x y:NG}(h:Rep K O H v x)(g:Rep K O H u y)(ex:c8 x=true)(ey:c8 y=true):eqV v u=eqF x y:=by cases h <;> cases g <;> first|rfl|cases ex|cases ey
theorem qp{K:Frag}{O:Addr->Prop}{H:Hp}:∀{vs:List V}{xs:List NG},Reps K O H vs xs->xs.all c8=true->vs.all f6=true
 |_,_,.nil,_=>rfl
 |_,_,.cons r t,e=>by
  rw[PH,NN] at e;rw[PH,qL r e.1,qp t e.2];rfl
theorem qW{K:Frag}{O:Addr->Prop}{H:Hp}{v:V}{x:NG}(h:Rep K O H v x)(ex:c8 x=true):∀{vs:List V}{xs:List NG},Reps K O H vs xs->xs.all c8=true->(vs.any fun y=>eqV y v)=xs.any fun y=>eqF y x
 |_,_,.nil,_=>rfl
 |_,_,.cons r t,e=>by
  rw[PH,NN] at e;rw[P3,P3,G3 r h e.1 ex,qW h ex t e.2]
theorem Vw.flat{K:Frag}{O:Addr->Prop}{H:Hp}{v:V}{x:NG}(h:Vw K O H v x)(e:c8 x=true):Rep K O H v x:=by
 cases h with
 |rep h=>exact h
 |raw _ _=>cases e
 |rawD _ _=>cases e
def inD(x y:NG):Option PyData:=(inS x y).map .bool
def dX(x y:NG):Option PyData:=(inS x y).map fun b=>.bool (!b)
theorem nJ{K:Frag}(neg:Bool):iC K (fun x y H Q=>(∃i j,x=.str i/\y=.str j/\Q (.bl (if neg then !(iz j i) else iz j i)) H)\/rIn K neg x y H Q) (fun x y=>(inS x y).map fun b=>.bool (if neg then !b else b)):=fun O ts H T v1 v2 x y d Q hc h1 h2 e q=>by
 obtain⟨b,e1,rfl⟩:=Ol.mp e;unfold inS at e1;split at e1
 .cases e1
  exact .inl ⟨_,_,h1.str,h2.str,q _ H (.refl _ _) hc (.bl _)⟩
 .split at e1
  .rename_i hf
   cases e1;rw[NN] at hf;obtain⟨a,vs,rfl,t,r⟩:=h2.lst;have r1:=h1.flat hf.1;refine .inr ⟨a,vs,rfl,.inl t,qL r1 hf.1,qp r hf.2,?_⟩;have z:inV v1 vs=_:=qW r1 hf.1 r hf.2;rw[z];exact q _ H (.refl _ _) hc (.bl _)
  .cases e1
 .split at e1
  .rename_i hf
   cases e1;rw[NN] at hf;obtain⟨a,vs,rfl,t,r⟩:=h2.tup;have r1:=h1.flat hf.1;refine .inr ⟨a,vs,rfl,.inr t.sq,qL r1 hf.1,qp r hf.2,?_⟩;have z:inV v1 vs=_:=qW r1 hf.1 r hf.2;rw[z];exact q _ H (.refl _ _) hc (.bl _)
  .cases e1
 .cases e1
theorem oQ:OpD X (Oh .In) inD:=⟨_,op_in_str.or uy,nJ false⟩
theorem nj:OpD X (Oh .NotIn) dX:=⟨_,op_notin_str.or sZ,nJ true⟩
def dQ:NG->Option NG
 |.int i=>some (.int (-i))
 |_=>none
theorem jJ{a:Expr}{fa:FE}{pos:Pos}(ha:DE X a fa):DE X (.UnaryOp .USub a pos) (fUn dQ fa):=IH Fy (fun O ts H T v x d Q hc h e q=>by
 unfold dQ at e;split at e
 .cases e
  exact⟨_,h.int,q _ H (.refl _ _) hc (.int _)⟩
 .cases e) ha
def ixD:NG->NG->Option NG
 |.list xs,.int i=>atI xs i
 |.tuple xs,.int i=>atI xs i
 |.str z,.int i=>if z.length<=NS then (atI z.cps.toList i).map fun c=>.str ⟨#[c]⟩ else none
 |_,_=>none
theorem wj{K:Frag}{O:Addr->Prop}{H:Hp}{vs:List V}{xs:List NG}{i:Int}{d:NG}(r:Reps K O H vs xs)(e:atI xs i=some d):∃v,atI vs i=some v/\Rep K O H v d:=by
 unfold atI at e ⊢;rw[r.length]
 cases h:ixN xs.length i with
 |none=>rw[h] at e;cases e
 |some j=>
  rw[h] at e;exact r.getD e
theorem aC:IxD X ixD:=⟨_,GI,fun O ts H T v1 v2 x y d Q hc h1 h2 e q=>by
 unfold ixD at e;split at e
 .obtain⟨a,vs,rfl,t,r⟩:=h1.lst
  obtain⟨v,k1,k2⟩:=wj r e;exact .inl ⟨a,vs,_,v,rfl,h2.int,t,k1,q _ H (.refl _ _) hc k2⟩
 .obtain⟨a,vs,rfl,t,r⟩:=h1.tup
  obtain⟨v,k1,k2⟩:=wj r e;exact .inr (.inl ⟨a,vs,_,v,rfl,h2.int,t.sq,k1,q _ H (.refl _ _) hc k2⟩)
 .split at e
  .rename_i hz
   obtain⟨c,k1,rfl⟩:=Ol.mp e;exact .inr (.inr ⟨_,_,c,h1.str,h2.int,hz,k1,q _ H (.refl _ _) hc (.str _)⟩)
  .cases e
 .cases e⟩
end
theorem zR{prog:Og}{w:Ow}{A:OD}{E:NK->NL->Prop}{s:NL}{t sl:Addr}{items:Array NK}{vl vu:NK}{lo hi:Option Int}{Q:NK->NL->Prop}(ht:UB s.heap t items)(hs:s.heap.IsSliceOf sl vl vu .none)(pl:S5 vl lo)(pu:S5 vu hi)
  (hw:HT.sIx items.size 0 lo=0/\HT.sIx items.size items.size hi=items.size) (h:Q (.ref t) s):Oo (Ot prog w) A (Q4 (.ref t) (.ref sl)) Q E s:=by
 obtain⟨os,hos,hcs,hds⟩:=id hs;have hTs:s.TypeIs (.ref sl) "slice":=⟨os,hos,hcs⟩;unfold Q4
 try with_reducible refine QG ?_
 first|refine NP (Oa ?_)|skip
 refine NP (Sw ht.typeIs (by decide) ?_)
 refine NP (Rc (name:=NH "__getitem__") ht.typeIs OB
  (Rv OB ht.typeIs RO ?_ (Sa _ _)))
 show Oo _ _ (QN (.ref t) >>= _) _ _ s;refine NP (Rz ht ?_);refine NP (S6 hTs ?_);rw[if_pos (by decide)];refine NP (HT.sQ hs pl pu ?_)
 have hyes:((((HT.sIx items.size 0 lo:Nat):Int) == 0&&(1:Int) == 1&&(HT.sIx items.size items.size hi-HT.sIx items.size 0 lo) == items.size)=true):=by
  rw[hw.1,hw.2];simp
 show Oo _ _ (if (((HT.sIx items.size 0 lo:Nat):Int) == 0&&(1:Int) == 1&&(HT.sIx items.size items.size hi-HT.sIx items.size 0 lo) == items.size)=true then _ else _) _ _ s;rw[if_pos hyes];refine NP (m:=VL (.ref t)) (NP (S6 ht.typeIs (Oa ?_)))
 first
 |exact NP (wpAny_rule (NP (Oa ⟨_,rfl,Oa h⟩)))
 |(simp only[beq_self_eq_true,if_true];exact NP (wpAny_rule (Oa ⟨_,rfl,Oa h⟩)))
def cD{α:Type}(xs:List α)(lo hi:Option Int):List α:=(xs.drop (HT.sIx xs.length 0 lo)).take (HT.sIx xs.length xs.length hi-HT.sIx xs.length 0 lo)
theorem Reps.cut{K:Frag}{O:Addr->Prop}{H:Hp}{vs:List V}{ds:List NG}(r:Reps K O H vs ds)(lo hi:Option Int):Reps K O H (gM vs lo hi) (cD ds lo hi):=by
 unfold gM cD;rw[r.length];exact(r.drop _).take _
theorem B4{α:Type}{xs:List α}{lo hi:Option Int}(h:HT.sIx xs.length 0 lo=0/\HT.sIx xs.length xs.length hi=xs.length):cD xs lo hi=xs:=by
 unfold cD;rw[h.1,h.2];simp
section
variable {X:Cx}
theorem sl_tupA:SlR X (fun x lo hi H Q=>∃a xs,x=.ref a/\SqT X.K H a xs/\((HT.sIx xs.length 0 lo=0/\HT.sIx xs.length xs.length hi=xs.length)->Q (.ref a) H) /\
  (¬(HT.sIx xs.length 0 lo=0/\HT.sIx xs.length xs.length hi=xs.length)->∀p,H p=none->Q (.ref p) (upd H p (.tup (gM xs lo hi))))):=by
 intro pins s σ H x v vl vu lo hi sl Q I rx hs pl pu h;obtain⟨a,xs,rfl,hx,q1,q2⟩:=h
 by_cases hw:HT.sIx xs.length 0 lo=0/\HT.sIx xs.length xs.length hi=xs.length
 .cases rx
  obtain⟨its,r,ht,hz⟩:=I.tuple hx
  have hlen:its.toArray.size=xs.length:=by rw[NX];exact r.length.symm
  refine⟨"tuple",_,OB.lookup,ht.typeIs,?_⟩;exact zR ht hs pl pu (by rw[hlen];exact hw) ⟨.ref a,H,I,rfl,q1 hw⟩
 .exact FR pins s σ H _ v vl vu lo hi sl Q I rx hs pl pu ⟨a,xs,rfl,hx,hw,q2 hw⟩
def k8(x:NG)(lo hi:Option Int):Option PyData:=match x with
 |.list xs=>some (.list (cD xs lo hi))
 |.tuple xs=>some (.tuple (cD xs lo hi))
 |.str z=>if z.length<=NS then some (.str (OZ z lo hi)) else none
 |_=>none
abbrev FO:=Rho->Tp->Option (Option Int×Tp)
def bB:FO:=fun _ T=>some (none,T)
def fP(f:FE):FO:=fun ρ T=>bnd (f ρ T) fun w T1=>match w with
 |.d (.int i)=>some (some i,T1)
 |_=>none
inductive LiftOP(K:Frag)(f:FO)(σ:L2.St)(H:Hp)(Q:Option Int->Hp->Prop):Prop where
 |mk (O:Addr->Prop) (ts:List Addr) (ρ:Rho) (T:Tp) (o:Option Int) (T':Tp) (hc:HC K O ts H T) (re:RelE K O ts H σ ρ) (e:f ρ T=some (o,T')) (q:∀H',SameX ts H H'->HC K O ts H' T'->Q o H'):LiftOP K f σ H Q
def Ir(K:Frag)(f:FO):TO:=fun σ H Q=>LiftOP K f σ H Q
structure DO(X:Cx)(e:Option Expr)(f:FO):Prop where
 pe:PO X e (Ir X.K f)
theorem xR{e:Option Expr}{t t':TO}(h:PO X e t)(i:∀σ H Q,t' σ H Q->t σ H Q):PO X e t':=fun pins s σ H Q I q=>h pins s σ H Q I (i σ H Q q)
theorem cH:DO X none bB:=by
 refine⟨?_⟩;refine xR Ef fun σ H Q=>?_;rintro⟨O,ts,ρ,T,o,T',hc,re,e,q⟩;cases e;exact q H (.refl _ _) hc
theorem bT{e:Expr}{f:FE}(h:DE X e f):DO X (some e) (fP f):=by
 refine⟨?_⟩;refine xR (Ee h.pe) fun σ H Q=>?_;rintro⟨O,ts,ρ,T,o,T',hc,re,e,q⟩;obtain⟨w1,T1,e1,e⟩:=aP e;refine⟨O,ts,ρ,T,w1,T1,hc,re,e1,fun v1 H1 s1 hc1 r1=>?_⟩;split at e
 .cases e
  cases (show Rep X.K O H1 v1 _ from r1);exact⟨_,rfl,q H1 s1 hc1⟩
 .cases e
def fSl(f:FE)(l u:FO):FE:=fun ρ T=>bnd (f ρ T) fun w T1=>bnd (l ρ T1) fun lo T2=>bnd (u ρ T2) fun hi T3=>op1 (fun x=>k8 x lo hi) T3 w
theorem cj{e:Expr}{lo hi:Option Expr}{f:FE}{l u:FO}{pos p2:Pos}(he:DE X e f)(hl:DO X lo l)(hu:DO X hi u):DE X (.Subscript e (.Slice lo hi none p2) pos) (fSl f l u):=by
 refine⟨?_⟩;refine bD (Cv (sl_list.or (sl_tupA.or FU)) he.pe hl.pe hu.pe) fun σ H Q=>?_;rintro⟨O,ts,ρ,T,w,T',hc,re,e,q⟩;obtain⟨w1,T1,e1,e⟩:=aP e;obtain⟨o1,T2,e2,e⟩:=aP e;obtain⟨o2,T3,e3,e⟩:=aP e;obtain⟨x,d,h1,h3,rfl,rfl⟩:=hW e;refine⟨O,ts,ρ,T,w1,T1,hc,re,e1,fun v1 H1 s1 hc1 r1=>?_⟩;refine⟨O,ts,ρ,T1,o1,T2,hc1,re.mono hc s1,e2,fun H2 s2 hc2=>?_⟩;refine⟨O,ts,ρ,T2,o2,T',hc2,re.mono hc (s1.trans s2),e3,fun H3 s3 hc3=>?_⟩;have vw:=hc3.view (r1.mono hc1 (s2.trans s3)) h1;have q':∀v H',SameX ts H3 H'->HC X.K O ts H' T'->Rep X.K O H' v d->Q v H':=fun v H' s c r=>q v H' (s1.trans (s2.trans (s3.trans s))) c r;clear q
 cases x with
 |list xs=>
  cases h3;obtain⟨a,vs,rfl,t,r⟩:=vw.lst;exact .inl ⟨a,vs,rfl,t,fun p hp=>q' _ _ (.new hp _) (hc3.new hp _) (hc3.newL hp (r.cut _ _))⟩
 |tuple xs=>
  cases h3;obtain⟨a,vs,rfl,t,r⟩:=vw.tup;refine .inr (.inl ⟨a,vs,rfl,t.sq,fun hw=>?_,fun hw p hp=>?_⟩)
  .rw[r.length] at hw
   rw[B4 hw] at q';exact q' _ H3 (.refl _ _) hc3 vw.tupR
  .exact q' _ _ (.new hp _) (hc3.new hp _) (hc3.newT hp (r.cut _ _))
 |str z=>
  have h3':(if z.length<=NS then some (ON (OZ z o1 o2)) else none)=some d:=h3;split at h3'
  .rename_i hz
   cases h3';exact .inr (.inr ⟨z,vw.str,hz,q' _ H3 (.refl _ _) hc3 (.str _)⟩)
  .cases h3'
 |_=>cases h3
end
inductive Kd where
 |non|bl|int|str|tup|lst|dct
 deriving DecidableEq
def Kd.name:Kd->String
 |.non=>"NoneType" | .bl=>"bool" | .int=>"int" | .str=>"str" | .tup=>"tuple" | .lst=>"list" | .dct=>"dict"
def kd:NG->Kd
 |.none=>.non | .bool _=>.bl | .int _=>.int | .str _=>.str | .list _=>.lst | .tuple _=>.tup | .dict _=>.dct
def bg(a b:Kd):Bool:=decide (a=b)||(decide (a=.bl)&&decide (b=.int))
def Jt(t c:String):Option Bool:=if (SZ t == SZ c)=true then some true else if PySem.W.kitMeta c=true then (fastBuiltinMro t).map (·.contains (.type c)) else none
theorem iO(a b:Kd):b≠.non->Jt a.name b.name=some (bg a b):=by cases a <;> cases b <;> first|(intro h;exact absurd rfl h)|(intro _;decide +kernel)
section
variable {X:Cx}
theorem Do:CallR X (.builtin "isinstance") (fun xs H Q=>∃(x:V) (c:Kd) (O:Addr->Prop) (d:NG),xs=[x,.ty c.name]/\Vw X.K O H x d/\c≠.non/\Q (.bl (bg (kd d) c)) H):=by
 intro pins s σ H xs us Q I r h;obtain⟨x,c,O,d,rfl,vw,hc,q⟩:=h;obtain⟨u,w',rfl,ru,rw'⟩:=vals2 r;cases (show w'=SZ c.name from rw');have fin:∀tk,EP X pins σ Q (.bool (bg (kd d) c)) { s with toks:=tk }:=fun tk=>⟨.bl _,H,I.tok _,rfl,q⟩
 cases d with
 |none=>cases vw.non;exact mF I ru .non (show PJ X.K (.type (Kd.name .non)) (.type c.name)=some _ from iO .non c hc) fin
 |bool b=>cases vw.bl;exact mF I ru (.bl b) (show PJ X.K (.type (Kd.name .bl)) (.type c.name)=some _ from iO .bl c hc) fin
 |int i=>cases vw.int;exact mF I ru (.int i) (show PJ X.K (.type (Kd.name .int)) (.type c.name)=some _ from iO .int c hc) fin
 |str z=>cases vw.str;exact mF I ru (.str z) (show PJ X.K (.type (Kd.name .str)) (.type c.name)=some _ from iO .str c hc) fin
 |list ds=>
  obtain⟨a,vs,rfl,t,r⟩:=vw.lst;cases (show u=OT a from ru);obtain⟨its,_,pl,_⟩:=I.list t;obtain⟨o,n,e,c1,_⟩:=pl;exact OU Ss I.kIn ⟨o,e,c1⟩ (show PJ X.K (.type (Kd.name .lst)) (.type c.name)=some _ from iO .lst c hc) (fun z=>nomatch z) fin
 |tuple ds=>
  obtain⟨a,vs,rfl,t,r⟩:=vw.tup;cases (show u=OT a from ru);obtain⟨its,_,pl,_⟩:=I.tuple t.sq;obtain⟨o,e,c1,_⟩:=pl;exact OU Uu I.kIn ⟨o,e,c1⟩ (show PJ X.K (.type (Kd.name .tup)) (.type c.name)=some _ from iO .tup c hc) (fun z=>nomatch z) fin
 |dict ds=>
  obtain⟨a,vs,rfl,t,r⟩:=vw.dct;cases (show u=OT a from ru);obtain⟨_,_,_,_,o,_,_,e,c1,_⟩:=fB I.hok t;exact OU Su I.kIn ⟨o,e,c1.1⟩ (show PJ X.K (.type (Kd.name .dct)) (.type c.name)=some _ from iO .dct c hc) (fun z=>nomatch z) fin
def bh(c:Kd)(x:NG):Option PyData:=some (.bool (bg (kd x) c))
theorem bj{e:Expr}{f:FE}{p p' pos:Pos}{T:Str}(c:Kd)(hi:X.mg "isinstance"=none)(he:DE X e f)(hm:X.mg T=none)(hb:P1 T=some (.type c.name))(hcn:c≠.non:=by decide)(hg:Gl X "isinstance":=by rfl)(hT:Gl X T:=by rfl)(hn:T≠"__name__":=by decide)(hdb:(T == ("__debug__" : Str))=false:=by decide)
  (hs:NU [e,.Name T p] X.env=(false,eval e X.env)::NU [.Name T p] X.env:=by exact bC rfl) (hs2:NU [.Name T p] X.env=(false,eval (.Name T p) X.env)::NU [] X.env:=by exact bC rfl)
  (hpl:(O4 pos (NU [.Name T p] X.env)).any (·.1)=false:=by exact cJ rfl):DE X (.Call (.Name "isinstance" p') [e,.Name T p] [] pos) (fUn (bh c) f):=by
 refine⟨?_⟩;refine bD (mQ Do hg hi Vt (dz he.pe (dz (El (v:=.ty c.name) hT hm hb rfl hn hdb) di hs2) hs) (by decide) (by decide) hs hpl) fun σ H Q=>?_;rintro⟨O,ts,ρ,T,w,T',hc,re,e,q⟩;obtain⟨w1,T1,e1,e⟩:=aP e;obtain⟨x,d,h1,h3,rfl,rfl⟩:=hW e;cases h3;refine⟨O,ts,ρ,T,w1,T',hc,re,e1,fun v1 H1 s1 hc1 r1=>?_⟩;exact⟨v1,c,O,x,rfl,hc1.view r1 h1,hcn,q _ H1 s1 hc1 (.bl _)⟩
def aY:List NG->Option NG
 |[.list xs]=>some (.int xs.length)
 |[.tuple xs]=>some (.int xs.length)
 |[.str z]=>if z.length<=NS then some (.int z.length) else none
 |[.dict kvs]=>some (.int kvs.length)
 |_=>none
theorem cU{K:Frag}{O:Addr->Prop}{H:Hp}{vs:List V}{x:NG}(h:Vws K O H vs [x]):∃v,vs=[v]/\Vw K O H v x:=by cases h with|cons h t=>cases t;exact⟨_,rfl,h⟩
theorem vf{K:Frag}{O:Addr->Prop}{H:Hp}:∀{kvs:List (Key×V)}{ds:List (NG×NG)},RepK K O H kvs ds->kvs.length=ds.length
 |_,_,.nil=>rfl
 |_,_,.cons _ t=>congrArg (· + 1) (vf t)
theorem B7:CallR X (.builtin "len") (fun xs H Q=>∃a kvs,xs=[V.ref a]/\Rd H a (.dK kvs)/\Q (.int kvs.length) H):=by
 intro pins s σ H xs us Q I r h;obtain⟨a,kvs,rfl,ha,q⟩:=h;obtain⟨u,rfl,ru⟩:=vals1 r;cases ru;exact IM I ha fun t s' I'=>⟨.int kvs.length,H,I',⟨t,rfl⟩,q⟩
theorem bq:eY X (.builtin "len") aY:=⟨_,call_len_seq.or (call_len_str.or B7),fun O ts H T vs xs d Q hc h e q=>by
 unfold aY at e;split at e
 .cases e
  obtain⟨v,rfl,g⟩:=cU h;obtain⟨a,vs,rfl,t,r⟩:=g.lst;exact .inl ⟨a,vs,rfl,.inl t,by rw[r.length];exact q _ H (.refl _ _) hc (.int _)⟩
 .cases e
  obtain⟨v,rfl,g⟩:=cU h;obtain⟨a,vs,rfl,t,r⟩:=g.tup;exact .inl ⟨a,vs,rfl,.inr t.sq,by rw[r.length];exact q _ H (.refl _ _) hc (.int _)⟩
 .split at e
  .rename_i hz
   cases e;obtain⟨v,rfl,g⟩:=cU h;cases g.str;exact .inr (.inl ⟨_,rfl,hz,q _ H (.refl _ _) hc (.int _)⟩)
  .cases e
 .cases e
  obtain⟨v,rfl,g⟩:=cU h;obtain⟨a,kvs,rfl,t,r⟩:=g.dct;exact .inr (.inr ⟨a,kvs,rfl,t,by rw[vf r];exact q _ H (.refl _ _) hc (.int _)⟩)
 .cases e⟩
def ml:List NG->Option NG
 |[.int i]=>some (.int (if i<0 then -i else i))
 |_=>none
theorem y4:eY X (.builtin "abs") ml:=⟨_,Dq,fun O ts H T vs xs d Q hc h e q=>by
 unfold ml at e;split at e
 .cases e
  obtain⟨v,rfl,g⟩:=cU h;cases g.int;exact⟨_,rfl,q _ H (.refl _ _) hc (.int _)⟩
 .cases e⟩
def Ip:List NG->Option NG
 |[.int i,.int j]=>some (.int (if j>i then j else i))
 |_=>none
def Im:List NG->Option NG
 |[.int i,.int j]=>some (.int (if j<i then j else i))
 |_=>none
def gA:List NG->Option (List Bool)
 |[]=>some []
 |.bool b::r=>(gA r).map (b::·)
 |_=>none
def gD:List NG->Option (List Int)
 |[]=>some []
 |.int b::r=>(gD r).map (b::·)
 |_=>none
def dE:List NG->Option (List Str)
 |[]=>some []
 |.str b::r=>(dE r).map (b::·)
 |_=>none
theorem vP{K:Frag}{O:Addr->Prop}{H:Hp}:∀{vs:List V}{xs:List NG}{bs:List Bool},Reps K O H vs xs->gA xs=some bs->vs=bs.map V.bl
 |_,_,_,.nil,e=>by cases e;rfl
 |_,x::r,bs,.cons h t,e=>by
  cases x with
  |bool b=>
   obtain⟨cs,e1,rfl⟩:=Ol.mp (show (gA r).map (b::·)=some bs from e);cases h;rw[vP t e1];rfl
  |_=>cases e
theorem vv{K:Frag}{O:Addr->Prop}{H:Hp}:∀{vs:List V}{xs:List NG}{bs:List Int},Reps K O H vs xs->gD xs=some bs->vs=bs.map V.int
 |_,_,_,.nil,e=>by cases e;rfl
 |_,x::r,bs,.cons h t,e=>by
  cases x with
  |int b=>
   obtain⟨cs,e1,rfl⟩:=Ol.mp (show (gD r).map (b::·)=some bs from e);cases h;rw[vv t e1];rfl
  |_=>cases e
theorem m8{K:Frag}{O:Addr->Prop}{H:Hp}:∀{vs:List V}{xs:List NG}{bs:List Str},Reps K O H vs xs->dE xs=some bs->vs=bs.map V.str
 |_,_,_,.nil,e=>by cases e;rfl
 |_,x::r,bs,.cons h t,e=>by
  cases x with
  |str b=>
   obtain⟨cs,e1,rfl⟩:=Ol.mp (show (dE r).map (b::·)=some bs from e);cases h;rw[m8 t e1];rfl
  |_=>cases e
def iB:List NG->Option NG
 |[.list xs]=>(gA xs).map fun bs=>.bool (bs.all id)
 |_=>none
theorem sf(hc:X.calm=true:=by rfl):eY X (.builtin "all") iB:=⟨_,Dp hc,fun O ts H T vs xs d Q hc h e q=>by
 unfold iB at e;split at e
 .obtain⟨bs,e1,rfl⟩:=Ol.mp e
  obtain⟨v,rfl,g⟩:=cU h;obtain⟨a,vs,rfl,t,r⟩:=g.lst;rw[vP r e1] at t;exact⟨a,bs,rfl,t,q _ H (.refl _ _) hc (.bl _)⟩
 .cases e⟩
def lY:List NG->Option NG
 |[.list xs]=>(gD xs).map fun bs=>.int bs.sum
 |_=>none
theorem y0(hc:X.calm=true:=by rfl):eY X (.builtin "sum") lY:=⟨_,Dm hc,fun O ts H T vs xs d Q hc h e q=>by
 unfold lY at e;split at e
 .obtain⟨bs,e1,rfl⟩:=Ol.mp e
  obtain⟨v,rfl,g⟩:=cU h;obtain⟨a,vs,rfl,t,r⟩:=g.lst;rw[vv r e1] at t;exact⟨a,bs,rfl,t,q _ H (.refl _ _) hc (.int _)⟩
 .cases e⟩
def Io:NG->NG->Option NG
 |.list xs,.int d=>(gD xs).map fun bs=>.int (K1.je d bs)
 |_,_=>none
def lZ:List NG->Option NG
 |[.int i]=>if i.natAbs.log2<1920 then some (.str (toString i)) else none
 |_=>none
theorem y3:eY X (.type "str") lZ:=⟨_,Af,fun O ts H T vs xs d Q hc h e q=>by
 unfold lZ at e;split at e
 .split at e
  .rename_i hz
   cases e;obtain⟨v,rfl,g⟩:=cU h;cases g.int;exact⟨_,rfl,hz,q _ H (.refl _ _) hc (.str _)⟩
  .cases e
 .cases e⟩
def dO:List NG->Option NG
 |[.list xs]=>some (.tuple xs)
 |[.tuple xs]=>some (.tuple xs)
 |_=>none
theorem jy:eY X (.type "tuple") dO:=⟨_,sW,fun O ts H T vs xs d Q hc h e q=>by
 unfold dO at e;split at e
 .cases e
  obtain⟨v,rfl,g⟩:=cU h;obtain⟨a,vs,rfl,t,r⟩:=g.lst;exact⟨a,vs,rfl,.inl ⟨t,fun p hp=>q _ _ (.new hp _) (hc.new hp _) (hc.newT hp r)⟩⟩
 .cases e
  obtain⟨v,rfl,g⟩:=cU h;obtain⟨a,vs,e1,t,r⟩:=g.tup;subst e1;exact⟨a,vs,rfl,.inr ⟨t.sq,q _ H (.refl _ _) hc (.tup t r)⟩⟩
 .cases e⟩
def dm:List NG->Option NG
 |[.list xs]=>some (.list xs)
 |[.tuple xs]=>some (.list xs)
 |_=>none
theorem lD:eY X (.type "list") dm:=⟨_,call_list_of,fun O ts H T vs xs d Q hc h e q=>by
 unfold dm at e;split at e
 .cases e
  obtain⟨v,rfl,g⟩:=cU h;obtain⟨a,vs,rfl,t,r⟩:=g.lst;exact⟨a,vs,rfl,.inl t,fun p hp=>q _ _ (.new hp _) (hc.new hp _) (hc.newL hp r)⟩
 .cases e
  obtain⟨v,rfl,g⟩:=cU h;obtain⟨a,vs,rfl,t,r⟩:=g.tup;exact⟨a,vs,rfl,.inr t.sq,fun p hp=>q _ _ (.new hp _) (hc.new hp _) (hc.newL hp r)⟩
 .cases e⟩
theorem CK:MtR X "str.join" (fun x vs H Q=>∃(z:Str) (l:Addr) (ys:List Str),x=.str z/\vs=[.ref l]/\SqL X.K H l (ys.map V.str)/\(ys.map (·.length)).sum+ys.length*z.length<=16777216/\Q (.str (Q2 z ys)) H):=by
 intro pins s σ H x vs v us Q I rx rv h;obtain⟨z,l,ys,rfl,rfl,hq,hz,q⟩:=h;obtain⟨t,rfl⟩:=rx;obtain⟨u,rfl,ru⟩:=vals1 rv;cases ru;obtain⟨its,rw',pl,_⟩:=I.list hq;refine join_list (ys:=ys) pl.isList (by simpa using AR rw') hz fun t' k=>⟨.str _,H,I.tok _,⟨t',?_⟩,q⟩;show SJ (Builtin.Str.glued z ys) t'=_;rw[StrLaws.glued_eq_join]
def lN:NG->NG->Option NG
 |.str z,.list xs=>match dE xs with
  |some ys=>if (ys.map (·.length)).sum+ys.length*z.length<=16777216 then some (.str (Q2 z ys)) else none
  |none=>none
 |_,_=>none
theorem xg{o e:Expr}{fo fe:FE}{apos cpos:Pos}(ho:DE X o fo)(he:DE X e fe)
  (hbase:O8 o "join" X.env (eval o X.env)=eval o X.env:=by rfl)
  (hfew:((O4 cpos (NU [e] X.env)).all (fun x=>!x.1)&&(QE cpos (PV [] X.env)).all (fun x=>x.1.isSome)
   && decide (([e]:List Expr).length+([]:List Pw).length+(if ([]:List Pw).isEmpty then 0 else 1)<30))=true:=by exact j8 rfl)
  (hline:(apos.endLine == cpos.line)=true:=by rfl) (hse:NU [e] X.env=(false,eval e X.env)::NU [] X.env:=by exact bC rfl) (hplain:(O4 cpos (NU [] X.env)).any (·.1)=false:=by exact cJ rfl) :
  DE X (.Call (.Attribute o "join" apos) [e] [] cpos) (ag lN fo fe):=by
 refine⟨?_⟩;refine bD (lK Qd PySem.F.slot_str_join PySem.F.type_str_join CK ho.pe (dz he.pe di hse) hbase hfew hline hse hplain) fun σ H Q=>?_;rintro⟨O,ts,ρ,T,w,T',hc,re,e,q⟩;obtain⟨w1,T1,e1,e⟩:=aP e;obtain⟨w2,T2,e2,e⟩:=aP e;obtain⟨x,y,d,h1,h2,h3,rfl,rfl⟩:=hU e;unfold lN at h3;split at h3
 .rename_i z xs
  split at h3
  .rename_i ys hy
   split at h3
   .rename_i hz
    cases h3;refine⟨O,ts,ρ,T,w1,T1,hc,re,e1,fun v1 H1 s1 hc1 r1=>?_⟩
    have ev:v1=.str z:=by
     cases w1 with
     |d x=>cases h1;cases (show Rep X.K O H1 v1 _ from r1);rfl
     | tp k=>exact(by
       have h1':(T'[k]?).bind jb=some (ON z):=h1
       cases hk:T'[k]? with
       |none=>rw[hk] at h1';cases h1'
       |some xs=>
        rw[hk] at h1';have e2:(if isO xs=true then none else some (Qw xs))=some (ON z):=h1'
        split at e2 <;> cases e2)
     |loc zs=>cases zs <;> cases h1
    subst ev;refine⟨rfl,O,ts,ρ,T1,w2,T',hc1,re.mono hc s1,e2,fun v2 H2 s2 hc2 r2=>?_⟩;obtain⟨a,vs,rfl,t,r⟩:=(hc2.view r2 h2).lst;rw[m8 r hy] at t;exact⟨z,a,ys,rfl,rfl,t,hz,q _ H2 (s1.trans s2) hc2 (.str _)⟩
   .cases h3
  .cases h3
 .cases h3
theorem qQ{pos:Pos}:DE X (.Dict [] [] pos) (fC (.dict [])):=by
 refine⟨?_⟩;refine bD (HS vi) fun σ H Q=>?_;rintro⟨O,ts,ρ,T,w,T',hc,re,e,q⟩;cases e;intro p hp;refine .frz bx fun o=>.done ?_;rw[DM];exact q _ _ (.new hp _) (hc.new hp _) (.dct (hc.fresh hp) bx .nil)
end
mutual
def jN:NG->Bool
 |.list _=>false
 |.tuple ds=>nQ ds
 |.dict kvs=>nS kvs
 |.none | .bool _ | .int _ | .str _=>true
def nQ:List NG->Bool
 |[]=>true
 |d::r=>jN d&&nQ r
def nS:List (NG×NG)->Bool
 |[]=>true
 |(_,v)::r=>jN v&&nS r
end
section
variable {X:Cx}{pins:List (Addr×Obj)}{σ:L2.St}{H:Hp}{s:NL}{O:Addr->Prop}
theorem BJ{h:Heap}{k:Key}{v:NK}(e:fu k v=true):Vk h v (l8 k) []:=by
 rcases eK e with⟨i,t,rfl,rfl⟩|⟨x,t,rfl,rfl⟩
 .exact .int i t
 .exact .str x t
mutual
theorem Rep.reads(I:Inv X pins σ H s):∀{v:V}{d:NG}{u:NK},Rep X.K O H v d->RelV v u->∃as,Vk s.heap u d as/\(jN d=true->Pz∉as)
 |_,_,_,.non,r=>by cases r;exact⟨_,.none,fun _=>by simp⟩
 |_,_,_,.bl b,r=>by cases r;exact⟨_,.bool b,fun _=>by simp⟩
 |_,_,_,.int i,r=>by obtain⟨t,rfl⟩:=r;exact⟨_,.int i t,fun _=>by simp⟩
 |_,_,_,.str x,r=>by obtain⟨t,rfl⟩:=r;exact⟨_,.str x t,fun _=>by simp⟩
 |_,_,_,.tup (a:=a) (vs:=vs) h rs,r=>by
  cases r;obtain⟨its,rv,⟨o,e,c,n,dd⟩,_⟩:=I.tuple h.sq;obtain⟨as,q,f⟩:=Reps.reads I rs rv;exact⟨as,.tuple e c dd (by simpa using q),f⟩
 |_,_,_,.lst (a:=a) (vs:=vs) h rs,r=>by
  cases r;obtain⟨its,rv,pl,_⟩:=I.list h.sq;obtain⟨o,n,e,c,_,dd⟩:=pl;obtain⟨as,q,f⟩:=Reps.reads I rs rv;exact⟨_,.list e c dd (by simpa using q),fun z=>by cases z⟩
 |_,_,_,.dct (a:=a) (kvs:=kvs) (ds:=ds) _ h rk,r=>by
  cases r;obtain⟨z,y,vs,kv,o,es,ep,e,ed,dd,_,ek,_⟩:=(show ObjOk X.prog X.w H s.heap a (.dK kvs) from(I.hok a _ h).2);obtain⟨bs,q1,q2,f⟩:=RepK.reads I rk kv ek;refine⟨_,.dict (kvs:=ds) (as:=[]) (bs:=bs) e ed.1 dd q1 q2,fun zz hm=>?_⟩
  rcases NR.mp (by simpa using hm:Pz∈a::bs) with q|q
  .rw[q] at y
   simp at y
  .exact f zz q
theorem Reps.reads(I:Inv X pins σ H s):∀{vs:List V}{ds:List NG}{us:List NK},Reps X.K O H vs ds->Vals vs us->∃as,UO s.heap us ds as/\(nQ ds=true->Pz∉as)
 |_,_,_,.nil,r=>by cases r;exact⟨_,.nil,fun _=>by simp⟩
 |_,_,_,.cons (d:=d) (ds:=ds) q t,r=>by
  cases r with
  |cons r1 r2=>
   obtain⟨as,h1,f1⟩:=Rep.reads I q r1;obtain⟨bs,h2,f2⟩:=Reps.reads I t r2;refine⟨as++bs,.cons h1 h2,fun z=>?_⟩;have z':(jN d&&nQ ds)=true:=z;rw[NN] at z';intro hm
   rcases Ob.mp hm with hm|hm
   .exact f1 z'.1 hm
   .exact f2 z'.2 hm
theorem RepK.reads(I:Inv X pins σ H s):∀{kvs:List (Key×V)}{ds:List (NG×NG)}{vs:List (Key×NK)}{es:List U6},RepK X.K O H kvs ds->KV kvs vs->Pairs (cb X.prog X.w) es vs ->
  ∃bs,UO s.heap (es.map (·.key)) (ds.map (·.1)) []/\UO s.heap (es.map (·.val)) (ds.map (·.2)) bs/\(nS ds=true->Pz∉bs)
 |_,_,_,_,.nil,r,ek=>by
  cases r;cases ek;exact⟨[],.nil,.nil,fun _=>by simp⟩
 |_,_,_,_,.cons (k:=k) (d:=d) (ds:=ds) q t,r,ek=>by
  cases r with
  |cons r1 r2=>
   cases ek with
   |cons e1 e1' e2=>
    obtain⟨as,h1,f1⟩:=Rep.reads I q r1.2;obtain⟨bs,h2,h3,f2⟩:=RepK.reads I t r2 e2;rw[←e1'] at h1;have k1:=BJ (h:=s.heap) (show fu _ _=true from e1);rw[←r1.1] at k1;refine⟨as++bs,.cons (as:=[]) (bs:=[]) k1 h2,.cons h1 h3,fun z=>?_⟩;have z':(jN d&&nS ds)=true:=z;rw[NN] at z';intro hm
    rcases Ob.mp hm with hm|hm
    .exact f1 z'.1 hm
    .exact f2 z'.2 hm
end
end
def ja(d:NG):Bool:=d.showable&&d.leavesShort 200&&decide (d.depth<=60)&&decide (d.weight<=60000)&&(!d.hasDict||jN d)
theorem shown_fits{d:NG}(h1:d.leavesShort 200=true)(h2:d.weight<=60000):d.shown.length<=sizeLine:=by
 have q:=PyData.shown_le 200 (by decide) d h1
 have e:NS=16777216:=by decide
 have:(200+2)*d.weight<=202*60000:=Nat.mul_le_mul_left _ h2;omega
section
variable {X:Cx}
theorem B6{k:Nat}(hr:Room k X.A):CallR X (.builtin "repr") (fun xs H Q=>∃O x d,xs=[x]/\Rep X.K O H x d/\ja d=true/\Q (.str d.shown) H):=by
 intro pins s σ H xs us Q I r h;obtain⟨O,x,d,rfl,rp,hg,q⟩:=h;unfold ja at hg;rw[NN,NN,NN,NN] at hg;obtain⟨⟨⟨⟨g1,g2⟩,g3⟩,g4⟩,g5⟩:=hg;have g3:=of_decide_eq_true g3;have g4:=of_decide_eq_true g4;obtain⟨u,rfl,ru⟩:=vals1 r;have hz:=shown_fits g2 g4;have fin:∀h' t k',(∀b o,s.heap.get? b=some o->h'.get? b=some o)->EP X pins σ Q (.str d.shown t) { s with heap:=h',toks:=k' }:=fun h' t k' kk=>⟨.str d.shown,H,I.kept kk,⟨t,rfl⟩,q⟩
 have big:∀a,u=.ref a->Oo (Ot X.prog X.w) X.A (call (.builtin "repr") [u]) (EP X pins σ Q) X.xe s:=fun a e=>by
  obtain⟨as,rd,f⟩:=rp.reads I ru;subst e;refine repr_of_reads' rd g1 (fun z=>f ?_) hr.gd ?_ (fun _ _ e=>e) (fun h' u tk kk=>fin h' u tk kk) hz
  .rw[z] at g5
   simpa using g5
  .have h2:=hr.un
   omega
 cases rp with
 |non=>cases ru;exact PySem.P.repr_of_none (fin _ _ _ fun _ _ e=>e)
 |bl b=>cases ru;exact PySem.P.repr_of_bool (fin _ _ _ fun _ _ e=>e)
 |int i=>
  obtain⟨t,rfl⟩:=ru;exact PySem.P.repr_of_int (of_decide_eq_true g1) (fin _ _ _ fun _ _ e=>e)
 |str x=>
  obtain⟨t,rfl⟩:=ru;exact PySem.P.repr_of_str (fin _ _ _ fun _ _ e=>e) hz
 |tup _ _=>exact big _ ru
 |lst _ _=>exact big _ ru
 |dct _ _ _=>exact big _ ru
def lI(T:Tp)(w:W):Option (W×Tp):=match w with
 |.d x=>if ja x=true then some (.d (.str x.shown),T) else none
 |_=>none
def d9(f:FE):FE:=fun ρ T=>bnd (f ρ T) fun w T1=>lI T1 w
theorem iQ{k:Nat}{e:Expr}{f:FE}{p pos:Pos}(hr:Room k X.A)(hm:X.mg "repr"=none)(he:DE X e f)(hg:Gl X "repr":=by rfl)(hse:NU [e] X.env=(false,eval e X.env)::NU [] X.env:=by exact bC rfl)(hpl:(O4 pos (NU [] X.env)).any (·.1)=false:=by exact cJ rfl) :
  DE X (.Call (.Name "repr" p) [e] [] pos) (d9 f):=by
 refine⟨?_⟩;refine bD (mQ (B6 hr) hg hm boot_repr (dz he.pe di hse) (by decide) (by decide) hse hpl) fun σ H Q=>?_;rintro⟨O,ts,ρ,T,w,T',hc,re,e,q⟩;obtain⟨w1,T1,e1,e⟩:=aP e;refine⟨O,ts,ρ,T,w1,T1,hc,re,e1,fun v1 H1 s1 hc1 r1=>?_⟩;unfold lI at e;split at e
 .split at e
  .rename_i x hx
   cases e;exact⟨O,v1,x,rfl,r1,hx,q _ H1 s1 hc1 (.str _)⟩
  .cases e
 .cases e
end
structure Df(K:Frag)(name:Str)(st:Stmt):Prop where
 ex:∃(f:Addr) (oc:NK) (od an:Option Addr) (sl:Array (Option NK)) (kV dc pm cd ct:NK),PM K OG name=some (some (.ref f)) /\
  K.lookup f=some ⟨oc,od,.func (Po name name (eO st) (dA st) (bM st) .none kV dc pm an cd ct),sl⟩/\QM K cd name=true/\Ph K (.ref f)=true
theorem IG{K:Frag}{name:Str}{st:Stmt}{f:Addr}{oc:NK}{od an:Option Addr}{sl:Array (Option NK)}{kV dc pm cd ct:NK}(a:PM K OG name=some (some (.ref f)))
  (l:K.lookup f=some ⟨oc,od,.func (Po name name (eO st) (dA st) (bM st) .none kV dc pm an cd ct),sl⟩) (c:QM K cd name=true) (k:Ph K (.ref f)=true):Df K name st:=⟨f,oc,od,an,sl,kV,dc,pm,cd,ct,a,l,c,k⟩
theorem Df.fn{P:Og}{w:Ow}{K:Frag}{mg:Str->Option NK}{base h:Heap}{name:Str}{st:Stmt}{ps:List Str}{k:Nat}{sp:Sp}(d:Df K name st)(X:K.In h)(G:h.Ns OG mg)
  (hb:∀(kV doc pm:NK) (an:Option Addr) (cdv ct:NK) (us:List NK),us.length=ps.length->TF (Po name name (eO st) (dA st) (bM st) .none kV doc pm an cdv ct) ⟨us,[]⟩=pure (ps.zip us))
  (ok:∀f fd,Fun K name name st f fd->FnOk P w K mg base CX0 k f fd ps sp):Fn P w K mg base name ps k sp:=by
 obtain⟨f,oc,od,an,sl,kV,dc,pm,cd,ct,a,l,c,kp⟩:=d.ex;have F:=ye (st:=st) l c kp;exact⟨f,_,ok f _ F,F.binds hb,kp,RA X G a⟩
theorem ER{P:Og}{w:Ow}{K:Frag}{mg:Str->Option NK}{base:Heap}{k n:Nat}{f:Addr}{fd:PK}{ps:List Str}:FnOk P w K mg base CX0 k f fd ps (spM K n fun _ _=>none):=by
 have no:∀vs H Q E,¬spM K n (fun _ _=>none) vs H Q E:=fun vs H Q E h=>by
  obtain⟨O,ts,T,ws,x,T',_,_,_,e,_⟩:=h;cases e
 exact⟨fun vs H Q E h=>absurd h (no vs H Q E),fun A outer s H args us vs Q E _ _ _ _ h=>absurd h (no vs H Q E)⟩
def n6(K:Frag):Sp:=fun vs H Q _=>∃(a:Addr) (ns:List Int),vs=[.ref a]/\SqL K H a (ns.map V.int)/\ns.length<=63/\∀H',Q (.bl true) H'
def eP(ns:List Int):PyData:=.list (ns.map .int)
theorem uv{K:Frag}{O:Addr->Prop}{H:Hp}:∀ns:List Int,Reps K O H (ns.map V.int) (ns.map Qa)
 |[]=>.nil
 |_::r=>.cons (.int _) (uv r)
section
variable {α β:Type}{ρ:Rho}{T:Tp}{f g:FE}{c c':FT}{s s':FS}{a:FA}{w w':W}{x y:NG}
@[simp] theorem cS{b:α}{k:α->Tp->Option β}:bnd (some (b,T)) k=k b T:=rfl
@[simp] theorem LS{k:α->Tp->Option β}:bnd none k=none:=rfl
@[simp] theorem LU{p:Prop}[Decidable p]{u v:Option (α×Tp)}{k:α->Tp->Option β}:bnd (if p then u else v) k=if p then bnd u k else bnd v k:=by split <;> rfl
@[simp] theorem lT{N:Nat}{ws:List W}:aT N s ws T=if fY ws=true then cZ (s (ws.map some++Oq (N-ws.length) none) T) else none:=rfl
@[simp] theorem mJ:fY []=true:=rfl
@[simp] theorem mI{r:List W}:fY (.d x::r)=fY r:=rfl
@[simp] theorem BZ{i:Nat}{r:List W}:fY (.tp i::r)=fY r:=rfl
@[simp] theorem EU{r:Rho}:cZ (some ((.rt x,r),T))=some (x,T):=rfl
@[simp] theorem LM{r:Rho}:cZ (some ((.nx,r),T))=some (.none,T):=rfl
@[simp] theorem LN{p:Prop}[Decidable p]{u v:Option ((Fl×Rho)×Tp)}:cZ (if p then u else v)=if p then cZ u else cZ v:=by split <;> rfl
def gJ(s':FS)(p:Fl×Rho)(T:Tp):Option ((Fl×Rho)×Tp):=match p with
 |(.nx,ρ1)=>s' ρ1 T
 |(fl,ρ1)=>some ((fl,ρ1),T)
@[simp] theorem rM:ao s s' ρ T=bnd (s ρ T) (gJ s'):=rfl
@[simp] theorem nv{ρ1:Rho}:gJ s' (.nx,ρ1) T=s' ρ1 T:=rfl
@[simp] theorem ES{ρ1:Rho}:gJ s' (.rt x,ρ1) T=some ((.rt x,ρ1),T):=rfl
@[simp] theorem K3{ρ1:Rho}:gJ s' (.bk,ρ1) T=some ((.bk,ρ1),T):=rfl
@[simp] theorem K2{ρ1:Rho}:gJ s' (.ct,ρ1) T=some ((.ct,ρ1),T):=rfl
@[simp] theorem Lg:aF ρ T=some ((.nx,ρ),T):=rfl
def ifK(s s':FS)(ρ:Rho)(b:Bool)(T1:Tp):Option ((Fl×Rho)×Tp):=if b=true then s ρ T1 else s' ρ T1
@[simp] theorem Ng:fIf c s s' ρ T=bnd (c ρ T) (ifK s s' ρ):=rfl
@[simp] theorem MU{b:Bool}:ifK s s' ρ b T=if b=true then s ρ T else s' ρ T:=rfl
def zv(ρ:Rho):W->Tp->Option ((Fl×Rho)×Tp):=fun w T1=>match w with
 |.d x=>some ((.rt x,ρ),T1)
 |_=>none
@[simp] theorem Mm:av f ρ T=bnd (f (cy ρ) T) (zv ρ):=rfl
@[simp] theorem K7:zv ρ (.d x) T=some ((.rt x,ρ),T):=rfl
@[simp] theorem LK:cy []=[]:=rfl
@[simp] theorem LH{r:Rho}:cy (none::r)=none::cy r:=rfl
@[simp] theorem LJ{r:Rho}:cy (some (.d x)::r)=some (.d x)::cy r:=rfl
@[simp] theorem LG{i:Nat}{r:Rho}:cy (some (.tp i)::r)=some (.tp i)::cy r:=rfl
@[simp] theorem LI{x:NG}{r:Rho}:cy (some (.loc x)::r)=some (.d x)::cy r:=rfl
def oK(i:Nat)(ρ:Rho):W->Tp->Option ((Fl×Rho)×Tp):=fun w T1=>match w with
 |.d x=>some ((.nx,ρ.set i (some (.d x))),T1)
 |.tp k=>some ((.nx,ρ.set i (some (.tp k))),T1)
 |.loc _=>none
@[simp] theorem GZ{i:Nat}:aO i f ρ T=bnd (f ρ T) (oK i ρ):=rfl
@[simp] theorem KZ{i:Nat}:oK i ρ (.d x) T=some ((.nx,ρ.set i (some (.d x))),T):=rfl
@[simp] theorem KU{i k:Nat}:oK i ρ (.tp k) T=some ((.nx,ρ.set i (some (.tp k))),T):=rfl
def yE(i:Nat)(ρ:Rho)(T:Tp):Option (List NG)->Option ((Fl×Rho)×Tp)
 |some xs=>if xs.length<=1000 then some ((.nx,ρ.set i (some (.loc (.list xs)))),T) else none
 |none=>none
@[simp] theorem KW{i:Nat}:dq i a ρ T=bnd (a ρ T) fun ws T1=>yE i ρ T1 (et ws):=rfl
@[simp] theorem J4{i:Nat}{xs:List NG}:yE i ρ T (some xs)=if xs.length<=1000 then some ((.nx,ρ.set i (some (.loc (.list xs)))),T) else none:=rfl
def zM(i:Nat)(ρ:Rho)(x:NG)(T:Tp)(o:Option (Option W)):Option ((Fl×Rho)×Tp):=match o with
 |some (some (.loc (.list xs)))=>if xs.length<NS then some ((.nx,ρ.set i (some (.loc (.list (xs++[x]))))),T) else none
 |_=>none
def zL(i:Nat)(ρ:Rho):W->Tp->Option ((Fl×Rho)×Tp):=fun w T1=>match w with
 | .d x=>(match ρ[i]? with
  |some (some (.loc (.list xs)))=>if xs.length<NS then some ((.nx,ρ.set i (some (.loc (.list (xs++[x]))))),T1) else none
  | _=>none)
 |_=>none
@[simp] theorem M6{i:Nat}:da i f ρ T=bnd (f ρ T) (zL i ρ):=rfl
@[simp] theorem LW{i:Nat}:zL i ρ (.d x) T=zM i ρ x T ρ[i]?:=rfl
@[simp] theorem LX{i:Nat}{xs:List NG}:zM i ρ x T (some (some (.loc (.list xs))))=if xs.length<NS then some ((.nx,ρ.set i (some (.loc (.list (xs++[x]))))),T) else none:=rfl
@[simp] theorem Na{l u:FO}:fSl f l u ρ T=bnd (f ρ T) fun w T1=>bnd (l ρ T1) fun lo T2=>bnd (u ρ T2) fun hi T3=>op1 (fun x=>k8 x lo hi) T3 w:=rfl
@[simp] theorem Mt:bB ρ T=some (none,T):=rfl
def pK:W->Tp->Option (Option Int×Tp):=fun w T1=>match w with
 |.d (.int i)=>some (some i,T1)
 |_=>none
@[simp] theorem Nz:fP f ρ T=bnd (f ρ T) pK:=rfl
@[simp] theorem Nb{i:Int}:pK (.d (.int i)) T=some (some i,T):=rfl
@[simp] theorem Mj{z:Str}{lo hi:Option Int}:k8 (.str z) lo hi=if z.length<=NS then some (.str (OZ z lo hi)) else none:=rfl
@[simp] theorem Mi{xs:List NG}{lo hi:Option Int}:k8 (.tuple xs) lo hi=some (.tuple (cD xs lo hi)):=rfl
@[simp] theorem Ml{xs:List NG}{lo hi:Option Int}:k8 (.list xs) lo hi=some (.list (cD xs lo hi)):=rfl
@[simp] theorem KL{o:W}{r:Rho}:aa 0 (some o::r) T=some (o,T):=rfl
@[simp] theorem gu{i:Nat}{o:Option W}{r:Rho}:aa (i+1) (o::r) T=aa i r T:=rfl
@[simp] theorem KJ{o:Option W}{r:Rho}:aa 1 (o::r) T=aa 0 r T:=gu
@[simp] theorem KI{o:Option W}{r:Rho}:aa 2 (o::r) T=aa 1 r T:=gu
@[simp] theorem KH{o:Option W}{r:Rho}:aa 3 (o::r) T=aa 2 r T:=gu
@[simp] theorem KG{o:Option W}{r:Rho}:aa 4 (o::r) T=aa 3 r T:=gu
@[simp] theorem KF{o:Option W}{r:Rho}:aa 5 (o::r) T=aa 4 r T:=gu
@[simp] theorem KE{o:Option W}{r:Rho}:aa 6 (o::r) T=aa 5 r T:=gu
@[simp] theorem KD{o:Option W}{r:Rho}:aa 7 (o::r) T=aa 6 r T:=gu
@[simp] theorem KC{o:Option W}{r:Rho}:aa 8 (o::r) T=aa 7 r T:=gu
@[simp] theorem KB{o:Option W}{r:Rho}:aa 9 (o::r) T=aa 8 r T:=gu
@[simp] theorem NA:fC x ρ T=some (.d x,T):=rfl
@[simp] theorem KA:view T (.d x)=some x:=rfl
@[simp] theorem J0{i:Nat}:view T (.tp i)=(T[i]?).bind jb:=rfl
@[simp] theorem K4{xs:List NG}:jb xs=if isO xs=true then none else some (.list xs):=rfl
@[simp] theorem Kz{xs r:List NG}:isO (.list xs::r)=false:=rfl
@[simp] theorem J1{xs:List NG}:view T (.loc (.list xs))=some (.list xs):=rfl
@[simp] theorem ev_viewLD{xs:List (NG×NG)}:view T (.loc (.dict xs))=some (.dict xs):=rfl
noncomputable def mkD(T:Tp)(o:Option NG):Option (W×Tp):=match o with
 |some d=>some (.d d,T)
 |none=>none
@[simp] theorem MA:mkD T (some x)=some (.d x,T):=rfl
@[simp] theorem Lj:mkD T none=none:=rfl
@[simp] theorem Lk{p:Prop}[Decidable p]{u v:Option NG}:mkD T (if p then u else v)=if p then mkD T u else mkD T v:=by split <;> rfl
def zK(o:NG->NG->Option NG)(g:FE)(ρ:Rho)(w1:W)(T1:Tp):Option (W×Tp):=bnd (g ρ T1) fun w2 T2=>op2 o T2 w1 w2
@[simp] theorem M4{o:NG->NG->Option NG}:ag o f g ρ T=bnd (f ρ T) (zK o g ρ):=rfl
@[simp] theorem LV{o:NG->NG->Option NG}:zK o g ρ w T=bnd (g ρ T) fun w2 T2=>op2 o T2 w w2:=rfl
@[simp] theorem Mr{o:NG->NG->Option NG}:op2 o T (.d x) (.d y)=mkD T (o x y):=rfl
@[simp] theorem Lb{o:NG->NG->Option NG}{zs xs:List NG}{r:Tp}:op2 o ((.list zs::xs)::r) (.tp 0) (.d y)=mkD ((.list zs::xs)::r) (o (.list (.list zs::xs)) y):=rfl
@[simp] theorem M9{o:NG->Option NG}:fUn o f ρ T=bnd (f ρ T) fun w1 T1=>op1 o T1 w1:=rfl
@[simp] theorem Ms{o:NG->Option NG}:op1 o T (.d x)=mkD T (o x):=rfl
@[simp] theorem M5{b:Bool}:asB (.d (.bool b))=some b:=rfl
def zh:W->Tp->Option (Bool×Tp):=fun w T1=>match asB w with
 |some b=>some (b,T1)
 |none=>none
@[simp] theorem Md:ax f ρ T=bnd (f ρ T) zh:=rfl
@[simp] theorem KN{b:Bool}:zh (.d (.bool b)) T=some (b,T):=rfl
@[simp] theorem Me:aR f ρ T=bnd (f ρ T) fun w T1=>oI T1 w:=rfl
def zi(T:Tp)(o:Option Bool):Option (Bool×Tp):=match o with
 |some b=>some (b,T)
 |none=>none
@[simp] theorem KQ:oI T (.d x)=zi T (oH x):=rfl
@[simp] theorem KO{b:Bool}:zi T (some b)=some (b,T):=rfl
@[simp] theorem KP{b:Bool}:oH (.bool b)=some b:=rfl
def za(c':FT)(ρ:Rho)(b:Bool)(T1:Tp):Option (Bool×Tp):=if b=true then c' ρ T1 else some (false,T1)
@[simp] theorem LZ:bO c c' ρ T=bnd (c ρ T) (za c' ρ):=rfl
@[simp] theorem Kw{b:Bool}:za c' ρ b T=if b=true then c' ρ T else some (false,T):=rfl
def zB(c':FT)(ρ:Rho)(b:Bool)(T1:Tp):Option (Bool×Tp):=if b=true then some (true,T1) else c' ρ T1
@[simp] theorem Mp:bi c c' ρ T=bnd (c ρ T) (zB c' ρ):=rfl
@[simp] theorem La{b:Bool}:zB c' ρ b T=if b=true then some (true,T) else c' ρ T:=rfl
@[simp] theorem Ld:bo c ρ T=bnd (c ρ T) fun b T1=>some (!b,T1):=rfl
@[simp] theorem J3:cw ρ T=some (true,T):=rfl
def zN(g:FE)(ρ:Rho)(w:W)(T:Tp):Option (W×Tp):=match asB w with
 |some b=>if b=true then g ρ T else some (.d (.bool false),T)
 |none=>none
@[simp] theorem LY:cF f g ρ T=bnd (f ρ T) (zN g ρ):=rfl
@[simp] theorem L0{b:Bool}:zN g ρ (.d (.bool b)) T=if b=true then g ρ T else some (.d (.bool false),T):=rfl
def orK(g:FE)(ρ:Rho)(w:W)(T:Tp):Option (W×Tp):=match asB w with
 |some b=>if b=true then some (.d (.bool true),T) else g ρ T
 |none=>none
@[simp] theorem Mo:sI f g ρ T=bnd (f ρ T) (orK g ρ):=rfl
@[simp] theorem Mq{b:Bool}:orK g ρ (.d (.bool b)) T=if b=true then some (.d (.bool true),T) else g ρ T:=rfl
def zF(w:W)(T:Tp):Option (W×Tp):=match asB w with
 |some b=>some (.d (.bool (!b)),T)
 |none=>none
@[simp] theorem Lc:oB f ρ T=bnd (f ρ T) zF:=rfl
@[simp] theorem Lf{b:Bool}:zF (.d (.bool b)) T=some (.d (.bool (!b)),T):=rfl
def zH(f g:FE)(ρ:Rho)(b:Bool)(T1:Tp):Option (W×Tp):=if b=true then f ρ T1 else g ρ T1
@[simp] theorem MV:cV c f g ρ T=bnd (c ρ T) (zH f g ρ):=rfl
@[simp] theorem LF{b:Bool}:zH f g ρ b T=if b=true then f ρ T else g ρ T:=rfl
def chK(o':NG->NG->Option NG)(h:FE)(ρ:Rho)(w2 w:W)(T:Tp):Option (W×Tp):=match asB w with
 |some b=>if b=true then bnd (h ρ T) fun w3 T4=>op2 o' T4 w2 w3 else some (.d (.bool false),T)
 |none=>none
@[simp] theorem Ku{o o':NG->NG->Option NG}{h:FE}:iZ o o' f g h ρ T=bnd (f ρ T) fun w1 T1=>bnd (g ρ T1) fun w2 T2=>bnd (op2 o T2 w1 w2) (chK o' h ρ w2):=rfl
@[simp] theorem M0{o':NG->NG->Option NG}{h:FE}{b:Bool}:chK o' h ρ w (.d (.bool b)) T=if b=true then bnd (h ρ T) fun w3 T4=>op2 o' T4 w w3 else some (.d (.bool false),T):=rfl
@[simp] theorem Mu:ah ρ T=some ([],T):=rfl
def yZ(a:FA)(ρ:Rho)(w:W)(T1:Tp):Option (List W×Tp):=bnd (a ρ T1) fun ws T2=>some (w::ws,T2)
@[simp] theorem LP:ae f a ρ T=bnd (f ρ T) (yZ a ρ):=rfl
@[simp] theorem Kt:yZ a ρ w T=bnd (a ρ T) fun ws T2=>some (w::ws,T2):=rfl
@[simp] theorem JJ:views T []=some []:=rfl
def lW(x:NG)(o:Option (List NG)):Option (List NG):=match o with
 |some xs=>some (x::xs)
 |none=>none
@[simp] theorem Ks{xs:List NG}:lW x (some xs)=some (x::xs):=rfl
@[simp] theorem JZ{r:List W}:views T (.d x::r)=lW x (views T r):=rfl
@[simp] theorem JI{xs:List NG}{r:List W}:views T (.loc (.list xs)::r)=lW (.list xs) (views T r):=rfl
@[simp] theorem JY:et []=some []:=rfl
@[simp] theorem Kr{r:List W}:et (.d x::r)=lW x (et r):=rfl
def sqK(mk:List NG->NG)(T:Tp):Option (List NG)->Option (W×Tp)
 |some xs=>if xs.length<=1000 then some (.d (mk xs),T) else none
 |none=>none
@[simp] theorem K0{mk:List NG->NG}:aB mk a ρ T=bnd (a ρ T) fun ws T1=>sqK mk T1 (et ws):=rfl
@[simp] theorem Mh{mk:List NG->NG}{xs:List NG}:sqK mk T (some xs)=if xs.length<=1000 then some (.d (mk xs),T) else none:=rfl
def cbK(o:List NG->Option NG)(T:Tp)(v:Option (List NG)):Option (W×Tp):=match v with
 | some xs=>(match o xs with
  |some d=>some (.d d,T)
  | none=>none)
 |none=>none
@[simp] theorem Nj{o:List NG->Option NG}:fCB o a ρ T=bnd (a ρ T) fun ws T1=>cbK o T1 (views T1 ws):=rfl
@[simp] theorem M3{o:List NG->Option NG}{xs:List NG}:cbK o T (some xs)=mkD T (o xs):=rfl
@[simp] theorem LR{m:FnM}:au m a ρ T=bnd (a ρ T) fun ws T1=>bnd (m ws T1) fun x T2=>some (.d x,T2):=rfl
@[simp] theorem LQ{it:FI}:cg it c f ρ T=bnd (it ρ T) fun ds T1=>bnd (ck c f ρ ds T1) fun ys T2=>some (.d (.list ys),T2):=rfl
def itK(T:Tp)(o:Option (List NG)):Option (List NG×Tp):=match o with
 |some xs=>some (xs,T)
 |none=>none
def itW:W->Tp->Option (List NG×Tp):=fun w T1=>match w with
 | .d x=>(match iX x with
  |some xs=>some (xs,T1)
  | none=>none)
 |_=>none
@[simp] theorem Lz:bU f ρ T=bnd (f ρ T) itW:=rfl
@[simp] theorem MQ:itW (.d x) T=itK T (iX x):=rfl
@[simp] theorem MR{xs:List NG}:itK T (some xs)=some (xs,T):=rfl
@[simp] theorem JW{xs:List NG}:iX (.list xs)=some xs:=rfl
@[simp] theorem JX{ds:List (NG×NG)}:iX (.dict ds)=some (ds.map (·.1)):=rfl
@[simp] theorem JU{xs:List NG}:iX (.tuple xs)=some xs:=rfl
@[simp] theorem JV{z:Str}:iX (.str z)=if z.length<=NS then some (signs z) else none:=rfl
def zu:W->Tp->Option (List NG×Tp):=fun w T1=>match w with
 |.d (.int j)=>if lH j=true then some (cM 0 j.toNat,T1) else none
 |_=>none
@[simp] theorem K6:fA f ρ T=bnd (f ρ T) zu:=rfl
@[simp] theorem K5{j:Int}:zu (.d (.int j)) T=if lH j=true then some (cM 0 j.toNat,T) else none:=rfl
@[simp] theorem MW{i:Nat}{it:FI}:c9 i it s ρ T=bnd (it ρ T) fun ds T1=>forL i s ds ρ T1:=rfl
@[simp] theorem Mg{i j:Int}:eB (.int i) (.int j)=some (.int (i-j)):=rfl
@[simp] theorem Mz{i j:Int}:cI (.int i) (.int j)=if 0<j then some (.int (i % j)) else none:=rfl
@[simp] theorem LL{i j:Int}:ID (.int i) (.int j)=if 0<j/\j<1073741824 then some (.int (i / j)) else none:=rfl
@[simp] theorem Mn{i j:Int}:iy (.int i) (.int j)=if 0<=j/\j<=1000000/\i.natAbs<2^64 then some (.int (i^j.toNat)) else none:=rfl
@[simp] theorem Nc{i j:Int}:ltD (.int i) (.int j)=some (.bool (decide (i<j))):=rfl
@[simp] theorem Nd{i j:Int}:leD (.int i) (.int j)=some (.bool (decide (i<=j))):=rfl
@[simp] theorem Nh{i j:Int}:gtD (.int i) (.int j)=some (.bool (decide (j<i))):=rfl
@[simp] theorem Ni{i j:Int}:geD (.int i) (.int j)=some (.bool (decide (j<=i))):=rfl
@[simp] theorem L6{i j:Int}:aQ (.int i) (.int j)=some (.int (i+j)):=rfl
@[simp] theorem L4{u v:Str}:aQ (.str u) (.str v)=if u.length+v.length<=NS then some (.str (u++v)) else none:=rfl
@[simp] theorem L3{u v:List NG}:aQ (.tuple u) (.tuple v)=if u.length+v.length<=NS then some (.tuple (u++v)) else none:=rfl
@[simp] theorem L5{u v:List NG}:aQ (.list u) (.list v)=if u.length+v.length<=NS then some (.list (u++v)) else none:=rfl
@[simp] theorem Li{i j:Int}:cm (.int i) (.int j)=if (-(2^64)<i/\i<2^64)\/(-(2^64)<j/\j<2^64) then some (.int (i*j)) else none:=rfl
@[simp] theorem Lh{z:Str}{k:Int}:cm (.str z) (.int k)=if 0<=k/\k<=2000/\z.length<=1000 then some (.str (QP z k)) else none:=rfl
@[simp] theorem MY{i j:Int}:eqD (.int i) (.int j)=some (.bool (decide (i=j))):=rfl
@[simp] theorem MX{i j:Str}:eqD (.str i) (.str j)=some (.bool (decide (i=j))):=rfl
@[simp] theorem MZ{i j:Bool}:eqD (.bool i) (.bool j)=some (.bool (decide (i=j))):=rfl
@[simp] theorem Mx{i j:Int}:neD (.int i) (.int j)=some (.bool (!decide (i=j))):=rfl
@[simp] theorem Mw{i j:Str}:neD (.str i) (.str j)=some (.bool (!decide (i=j))):=rfl
@[simp] theorem My{i j:Bool}:neD (.bool i) (.bool j)=some (.bool (!decide (i=j))):=rfl
@[simp] theorem Nf:isD x .none=some (.bool (isNone x)):=by cases x <;> rfl
@[simp] theorem Ko{i j:Bool}:jG (.bool i) (.bool j)=some (.bool (i != j)):=rfl
@[simp] theorem Mv{i:Int}:dQ (.int i)=some (.int (-i)):=rfl
@[simp] theorem MS{k:Kd}:bh k x=some (.bool (bg (kd x) k)):=rfl
@[simp] theorem MP{xs:List NG}{i:Int}:ixD (.list xs) (.int i)=atI xs i:=rfl
@[simp] theorem MM{xs:List NG}{i:Int}:ixD (.tuple xs) (.int i)=atI xs i:=rfl
@[simp] theorem MN{z:Str}{i:Int}:ixD (.str z) (.int i)=if z.length<=NS then (atI z.cps.toList i).map (fun c=>.str ⟨#[c]⟩) else none:=rfl
@[simp] theorem Lr{xs:List NG}:aY [.list xs]=some (.int xs.length):=rfl
@[simp] theorem Lp{xs:List NG}:aY [.tuple xs]=some (.int xs.length):=rfl
@[simp] theorem Lq{z:Str}:aY [.str z]=if z.length<=NS then some (.int z.length) else none:=rfl
@[simp] theorem M8{i:Int}:ml [.int i]=some (.int (if i<0 then -i else i)):=rfl
@[simp] theorem MC{i j:Int}:Ip [.int i,.int j]=some (.int (if j>i then j else i)):=rfl
@[simp] theorem MB{i j:Int}:Im [.int i,.int j]=some (.int (if j<i then j else i)):=rfl
@[simp] theorem JL{xs:List NG}:dO [.list xs]=some (.tuple xs):=rfl
@[simp] theorem JK{xs:List NG}:dO [.tuple xs]=some (.tuple xs):=rfl
@[simp] theorem Kh{xs:List NG}:dm [.list xs]=some (.list xs):=rfl
@[simp] theorem Kg{xs:List NG}:dm [.tuple xs]=some (.list xs):=rfl
@[simp] theorem MH{i:Int}:kd (.int i)=.int:=rfl
@[simp] theorem MJ{i:Bool}:kd (.bool i)=.bl:=rfl
@[simp] theorem ME{i:Str}:kd (.str i)=.str:=rfl
@[simp] theorem MD{i:List NG}:kd (.tuple i)=.tup:=rfl
@[simp] theorem MG{i:List NG}:kd (.list i)=.lst:=rfl
@[simp] theorem MI{i:List (NG×NG)}:kd (.dict i)=.dct:=rfl
@[simp] theorem MF:kd .none=.non:=rfl
end
theorem at1{α:Type}{a b c:α}:atI [a,b,c] 1=some b:=rfl
theorem fO{e:FE}{ρ:Rho}{T:Tp}{g:NG->NG}:∀{ds:List NG},(∀d∈ds,e (some (.d d)::ρ) T=some (.d (g d),T))->ck cw e ρ ds T=some (ds.map g,T)
 |[],_=>rfl
 |d::r,h=>by
  have ih:=fO (ds:=r) fun x hx=>h x (NJ _ hx);have h0:=h d NI;unfold ck;simp[h0,ih]
theorem kb{c:FT}{ρ:Rho}{T:Tp}{p:NG->Bool}:∀{ds:List NG},(∀d∈ds,c (some (.d d)::ρ) T=some (p d,T))->ck c (aa 0) ρ ds T=some (ds.filter p,T)
 |[],_=>rfl
 |d::r,h=>by
  have ih:=kb (ds:=r) fun x hx=>h x (NJ _ hx);have h0:=h d NI;unfold ck
  cases hp:p d with
  |false=>simp[h0,hp,ih]
  |true=>simp[h0,hp,ih]
theorem uN{e:FE}{ρ:Rho}{P:Tp->Prop}{Q:NG->Prop}:∀{ds:List NG}{T:Tp},P T->(∀d∈ds,∀T,P T->∃y T',e (some (.d d)::ρ) T=some (.d y,T')/\P T'/\Q y)->∃ys T',ck cw e ρ ds T=some (ys,T')/\P T'/\ys.length=ds.length/\∀y∈ys,Q y
 |[],T,p,_=>⟨[],T,rfl,p,rfl,fun y hy=>by cases hy⟩
 |d::r,T,p,h=>by
  obtain⟨y,T1,e1,p1,q1⟩:=h d NI T p;obtain⟨ys,T2,e2,p2,l2,q2⟩:=uN (ds:=r) p1 fun x hx=>h x (NJ _ hx);refine⟨y::ys,T2,?_,p2,by simp[l2],fun z hz=>?_⟩
  .unfold ck
   simp[e1,e2]
  .rcases NR.mp hz with k|k
   .subst k;exact q1
   .exact q2 z k
theorem ub{α:Type}(p:α->Bool):∀l:List α,gA (l.map fun d=>.bool (p d))=some (l.map p)
 |[]=>rfl
 |d::r=>by
  show (gA (r.map fun d=>.bool (p d))).map (p d::·)=_;rw[ub p r];rfl
theorem pW{α:Type}(p:α->Int):∀l:List α,gD (l.map fun d=>.int (p d))=some (l.map p)
 |[]=>rfl
 |d::r=>by
  show (gD (r.map fun d=>.int (p d))).map (p d::·)=_;rw[pW p r];rfl
theorem ky{α:Type}(p:α->Str):∀l:List α,dE (l.map fun d=>.str (p d))=some (l.map p)
 |[]=>rfl
 |d::r=>by
  show (dE (r.map fun d=>.str (p d))).map (p d::·)=_;rw[ky p r];rfl
@[simp] theorem M7{α:Type}(p:α->Bool)(l:List α):iB [.list (l.map fun d=>.bool (p d))]=some (.bool (l.all p)):=by
 show (gA _).map (fun bs=>SA (bs.all id))=_;rw[ub,Tq,Wy];rfl
@[simp] theorem Mf{α:Type}(p:α->Int)(l:List α):lY [.list (l.map fun d=>.int (p d))]=some (.int (l.map p).sum):=by
 show (gD _).map (fun bs=>Qa bs.sum)=_;rw[pW,Tq]
@[simp] theorem Ll{α:Type}(p:α->Int)(l:List α)(k:Int):Io (.list (l.map fun d=>.int (p d))) (.int k)=some (.int (K1.je k (l.map p))):=by
 show (gD _).map (fun bs=>Qa (K1.je k bs))=_;rw[pW,Tq]
def rn(y:Str):NG->Bool
 |.str z=>iz y z
 |_=>false
theorem vy(y:Str)(c:Nat):iz y ⟨#[c]⟩=decide (c∈y.cps.toList):=StrLaws.found_one ..
@[simp] theorem MT{x y:Str}:inD (.str x) (.str y)=some (.bool (iz y x)):=rfl
theorem Bq{x:Str}{d:NG}(h:d∈D.signs x):∃c,c∈x.cps.toList/\d=.str ⟨#[c]⟩:=by
 obtain⟨c,hc,rfl⟩:=OH.mp h;exact⟨c,hc,rfl⟩
section
variable {X:Cx}
theorem BE:MtR X "str.startswith" (fun x vs H Q=>∃z y:Str,x=.str z/\vs=[.str y]/\Q (.bl (P7 z y)) H):=by
 intro pins s σ H x vs v us Q I rx rv h;obtain⟨z,y,rfl,rfl,q⟩:=h;obtain⟨t,rfl⟩:=rx;obtain⟨u,rfl,ru⟩:=vals1 rv;obtain⟨t',rfl⟩:=ru;exact call_gives RT (Rw _ _ _) PySem.F.entry_str_startswith (PySem.F.args_str_startswith_2 _ _) (gives_str_startswith z y t t') ⟨.bl _,H,I,rfl,q⟩
def g0:NG->NG->Option NG
 |.str z,.str y=>some (.bool (P7 z y))
 |_,_=>none
theorem mM{T:Tp}{w:W}{z:Str}(h:view T w=some (.str z)):w=.d (.str z):=by
 cases w with
 |d x=>cases h;rfl
 |tp k=>
  have h':(T[k]?).bind jb=some (ON z):=h
  cases hk:T[k]? with
  |none=>rw[hk] at h';cases h'
  |some xs=>
   rw[hk] at h';have e2:(if isO xs=true then none else some (Qw xs))=some (ON z):=h'
   split at e2 <;> cases e2
 |loc zs=>cases zs <;> cases h
theorem p7{o e:Expr}{fo fe:FE}{apos cpos:Pos}(ho:DE X o fo)(he:DE X e fe)
  (hbase:O8 o "startswith" X.env (eval o X.env)=eval o X.env:=by rfl)
  (hfew:((O4 cpos (NU [e] X.env)).all (fun x=>!x.1)&&(QE cpos (PV [] X.env)).all (fun x=>x.1.isSome)
   && decide (([e]:List Expr).length+([]:List Pw).length+(if ([]:List Pw).isEmpty then 0 else 1)<30))=true:=by exact j8 rfl)
  (hline:(apos.endLine == cpos.line)=true:=by rfl) (hse:NU [e] X.env=(false,eval e X.env)::NU [] X.env:=by exact bC rfl) (hplain:(O4 cpos (NU [] X.env)).any (·.1)=false:=by exact cJ rfl) :
  DE X (.Call (.Attribute o "startswith" apos) [e] [] cpos) (ag g0 fo fe):=by
 refine⟨?_⟩;refine bD (lK Qd RT PySem.F.type_str_startswith BE ho.pe (dz he.pe di hse) hbase hfew hline hse hplain) fun σ H Q=>?_;rintro⟨O,ts,ρ,T,w,T',hc,re,e,q⟩;obtain⟨w1,T1,e1,e⟩:=aP e;obtain⟨w2,T2,e2,e⟩:=aP e;obtain⟨x,y,d,h1,h2,h3,rfl,rfl⟩:=hU e;unfold g0 at h3;split at h3
 .rename_i z y
  cases h3;have ew:=mM h1;subst ew;refine⟨O,ts,ρ,T,_,T1,hc,re,e1,fun v1 H1 s1 hc1 r1=>?_⟩;cases (show Rep X.K O H1 v1 _ from r1);refine⟨rfl,O,ts,ρ,T1,w2,T',hc1,re.mono hc s1,e2,fun v2 H2 s2 hc2 r2=>?_⟩;cases (hc2.view r2 h2).str;exact⟨z,_,rfl,rfl,q _ H2 (s1.trans s2) hc2 (.bl _)⟩
 .cases h3
theorem B8:CallR X (.type "int") (fun xs H Q=>∃x n,xs=[.str x]/\TM x=some n/\x.length<=640/\Q (.int n) H):=by
 intro pins s σ H xs us Q I r h;obtain⟨x,n,rfl,hn,hl,q⟩:=h;obtain⟨u,rfl,ru⟩:=vals1 r;obtain⟨t,rfl⟩:=ru;exact PySem.W.KIN.call_text hn hl ⟨.int n,H,I.tok _,⟨_,rfl⟩,q⟩
def intD:List NG->Option NG
 |[.int i]=>some (.int i)
 |[.bool b]=>some (.int (if b then 1 else 0))
 |[.str x]=>if x.length<=640 then (TM x).map .int else none
 |_=>none
theorem gG:eY X (.type "int") intD:=⟨_,call_int1.or B8,fun O ts H T vs xs d Q hc h e q=>by
 unfold intD at e;split at e
 .cases e
  obtain⟨v,rfl,g⟩:=cU h;cases g.int;exact .inl (.inl ⟨_,rfl,q _ H (.refl _ _) hc (.int _)⟩)
 .cases e
  obtain⟨v,rfl,g⟩:=cU h;cases g.bl;exact .inl (.inr ⟨_,rfl,q _ H (.refl _ _) hc (.int _)⟩)
 .split at e
  .rename_i hz
   obtain⟨n,e1,rfl⟩:=Ol.mp e;obtain⟨v,rfl,g⟩:=cU h;cases g.str;exact .inr ⟨_,n,rfl,e1,hz,q _ H (.refl _ _) hc (.int _)⟩
  .cases e
 .cases e⟩
theorem AI{prog:Og}{w:Ow}{A:OD}{E:NK->NL->Prop}{s:NL}{sl:Addr}{t:Tok}{n:Nat}{Q:Int×Int×Nat->NL->Prop}(hs:s.heap.IsSliceOf sl .none .none (.int (-1) t))
  (h:Q ((n:Int)-1,-1,n) s):Oo (Ot prog w) A (Qf (.ref sl) (pure (n:Int))) Q E s:=by
 obtain⟨os,hos,hcs,hds⟩:=id hs;unfold Qf Si;refine NP (NP (RB hos hds (x:=.none) rfl (NP (RB hos hds (x:=.none) rfl (NP (RB hos hds (x:=.int (-1) t) rfl (Oa ?_)))))));refine NP (HT.pC (.int (-1) t) ?_);show Oo _ _ (if ((-1:Int) == 0)=true then _ else _) _ _ s;rw[if_neg (by decide)];refine NP (R9 (NP (R9 (NP (Oa ?_)))));show Oo _ _ (pure ((n:Int)-1,(-1:Int),O9 ((n:Int)-1) (-1) (-1))) _ _ s
 have e:O9 ((n:Int)-1) (-1) (-1)=n:=by
  unfold O9;rw[if_neg (by decide)];split
  .rw[show (-(-1:Int))=1 from rfl,UI]
   omega
  .omega
 rw[e];exact Oa h
theorem Cf(xs:List NK):((Pg xs.length).filterMap fun(m:Nat)=>xs.toArray[(((xs.length:Int)-1)+(m:Int)*(-1)).toNat]?).toArray=xs.reverse.toArray:=by
 congr 1
 refine UM fun i=>?_
 have key:∀k,k<=xs.length->((Pg k).filterMap fun(m:Nat)=>xs.toArray[(((xs.length:Int)-1)+(m:Int)*(-1)).toNat]?)=xs.reverse.take k:=by
  intro k
  induction k with
  |zero=>intro _;simp
  |succ k ih=>
   intro hk;rw[Vu,Tu,ih (by omega),Sz]
   congr 1
   have e:(((xs.length:Int)-1)+(k:Int)*(-1)).toNat=xs.length-1-k:=by omega
   simp only[Qr,Uz,e]
   have h1:xs.length-1-k<xs.length:=by omega
   rw[List.getElem?_reverse (by omega)];simp[h1]
 rw[key xs.length (NT _)]
 congr 1
 rw[Pa (by simp)]
theorem zU{prog:Og}{w:Ow}{A:OD}{E:NK->NL->Prop}{s:NL}{t sl:Addr}{items:List NK}{u:Tok}{Q:NK->NL->Prop}(ht:UB s.heap t items.toArray)(hs:s.heap.IsSliceOf sl .none .none (.int (-1) u))
  (h:Q (.ref s.heap.objs.size) { s with heap:=s.heap.push { cls:=.type "tuple",data:=.seq items.reverse.toArray } }) (hsz:items.length<=NS):Oo (Ot prog w) A (Q4 (.ref t) (.ref sl)) Q E s:=by
 obtain⟨os,hos,hcs,hds⟩:=id hs;have hTs:s.TypeIs (.ref sl) "slice":=⟨os,hos,hcs⟩;unfold Q4
 try with_reducible refine QG ?_
 first|refine NP (Oa ?_)|skip
 refine NP (Sw ht.typeIs (by decide) ?_)
 refine NP (Rc (name:=NH "__getitem__") ht.typeIs OB
  (Rv OB ht.typeIs RO ?_ (Sa _ _)))
 show Oo _ _ (QN (.ref t) >>= _) _ _ s;refine NP (Rz ht ?_);refine NP (S6 hTs ?_);rw[if_pos (by decide)];have hn:items.toArray.size=items.length:=NX;rw[hn];refine NP (AI hs ?_);show Oo _ _ (if ((((items.length:Int)-1) == 0)&&((-1:Int) == 1)&&(items.length == items.length))=true then _ else _) _ _ s;rw[if_neg (by simp)]
 have fit:sizeOk (.seq items.reverse.toArray):=by
  show items.reverse.toArray.size<=NS;simpa using hsz
 rw[Cf]
 first
  |exact NP (m:=OM _) (OW (Oa ⟨_,rfl,Oa h⟩) fit)
  |exact NP (m:=OM _) (OW (NP (Oa (Oa ⟨_,rfl,Oa h⟩))) fit)
  |exact NP (NP (m:=OM _) (OW (Oa (Oa ⟨_,rfl,Oa h⟩)) fit))
  |exact NP (NP (m:=OM _) (OW (Oa ⟨_,rfl,Oa h⟩) fit))
def oM:NG->Option NG
 |.tuple xs=>some (.tuple xs.reverse)
 |_=>none
theorem Reps.rev{K:Frag}{O:Addr->Prop}{H:Hp}:∀{vs:List V}{ds:List NG},Reps K O H vs ds->Reps K O H vs.reverse ds.reverse
 |_,_,.nil=>.nil
 |_,_,.cons r t=>by
  rw[OX,OX];exact(Reps.rev t).append (.cons r .nil)
theorem He{e:Expr}{f:FE}{j:Nat}{p1 p2 p3 pos:Pos}(he:DE X e f):DE X (.Subscript e (.Slice none none (some (.UnaryOp .USub (.Constant (.int 1) j p1) p3)) p2) pos) (fUn oM f):=by
 refine⟨?_⟩;intro pins s σ H Q I h;obtain⟨O,ts,ρ,T,w,T',hc,re,e0,q⟩:=h;obtain⟨w1,T1,e1,e2⟩:=aP e0;obtain⟨x,d,h1,h3,rfl,rfl⟩:=hW e2;unfold oM at h3;split at h3
 .cases h3
  rename_i xs;refine Uw (thn (he.pe pins s σ H (fun v H1=>SameX ts H H1/\HC X.K O ts H1 T'/\RepW X.K O ts H1 v w1) I ⟨O,ts,ρ,T,w1,T',hc,re,e1,fun v1 H1 s1 hc1 r1=>⟨s1,hc1,r1⟩⟩) fun v s1 ⟨x,H1,I1,r1,sx,hc1,rw1⟩=>?_);obtain⟨a,vs,rfl,ta,ra⟩:=(hc1.view rw1 h1).tup;cases r1;refine wpAny_Slice ?_;rw[Ul];refine Oa (Oa ?_);rw[evalPart_some];refine UnaryOp_ (RZ (neg_int ?_));have I2:Inv X pins σ H1 { s1 with heap:=s1.heap.push { cls:=.type "slice",data:=.fields #[.none,.none,.int (-1) (s1.toks+1)] },toks:=s1.toks+1+1 }:=I1.kept fun b ob q=>NO _ q;obtain⟨its,rv,it,hz⟩:=I2.tuple ta.sq;have hlen:=rv.length;refine tail_any (T:="tuple") (ops:=[.ref a,.ref s1.heap.objs.size]) it.typeIs OB.lookup ?_ (by with_unfolding_all rfl);refine zU it (Ux ..) ?_ (by omega);refine⟨.ref _,_,I2.laid (o:=.tup vs.reverse) (fun b ob q=>NO _ q) (NT _) ⟨by simpa using hz,_,rv.reverse,SM _ _⟩,rfl,?_⟩;have hp:=I2.hok.fresh (NT _);exact q _ _ (sx.trans (.new hp _)) (hc1.new hp _) (hc1.newT hp ra.rev)
 .cases h3
end
@[simp] theorem JM{z y:Str}:g0 (.str z) (.str y)=some (.bool (P7 z y)):=rfl
@[simp] theorem LA{x:Str}:intD [.str x]=if x.length<=640 then (TM x).map .int else none:=rfl
@[simp] theorem LB{i:Int}:intD [.int i]=some (.int i):=rfl
@[simp] theorem LC{b:Bool}:intD [.bool b]=some (.int (if b then 1 else 0)):=rfl
def eqG(x y:NG):Option PyData:=if Ov x=true/\Ov y=true then some (.bool (OO x y)) else none
def neG(x y:NG):Option PyData:=if Ov x=true/\Ov y=true then some (.bool (!PyData.eqv x y)) else none
section
variable {X:Cx}
theorem Vw.reads{pins:List (Addr×Obj)}{σ:L2.St}{H:Hp}{s:NL}{O:Addr->Prop}{v:V}{d:NG}{u:NK}(I:Inv X pins σ H s)(h:Vw X.K O H v d)(r:RelV v u):∃as,Vk s.heap u d as:=by
 cases h with
 |rep h=>obtain⟨as,rd,_⟩:=h.reads I r;exact⟨as,rd⟩
 |raw h hs=>
  cases r;obtain⟨its,rv,pl,_⟩:=I.list (SqL.of h);obtain⟨o,n,e,c,_,dd⟩:=pl;obtain⟨as,rd,_⟩:=hs.reads I rv;exact⟨_,.list e c dd (by simpa using rd)⟩
 |rawD h rk=>
  cases r;obtain⟨z,y,vs,kv,o,es,ep,e,ed,dd,_,ek,_⟩:=(show ObjOk X.prog X.w H s.heap _ (.dK _) from I.hok _ _ h);obtain⟨bs,q1,q2,f⟩:=RepK.reads I rk kv ek;exact⟨_,.dict (as:=[]) (bs:=bs) e ed.1 dd q1 q2⟩
theorem Gq{k:Nat}(hr:Room k X.A):OpR X (Oh .Eq) (fun x y H Q=>∃O d1 d2,Vw X.K O H x d1/\Vw X.K O H y d2/\Ov d1=true/\Ov d2=true/\Q (.bl (OO d1 d2)) H):=by
 intro pins s σ H x y v u Q I rx ry h;obtain⟨O,d1,d2,h1,h2,s1,s2,q⟩:=h;obtain⟨as,r1⟩:=h1.reads I rx;obtain⟨bs,r2⟩:=h2.reads I ry;exact SeqAt.compareEq_shaped r1 r2 s1 s2 (by have:=hr.un;omega) ⟨.bl _,H,I,rfl,q⟩
theorem Gj{k:Nat}(hr:Room k X.A):OpR X (Oh .NotEq) (fun x y H Q=>∃O d1 d2,Vw X.K O H x d1/\Vw X.K O H y d2/\Ov d1=true/\Ov d2=true/\Q (.bl (!PyData.eqv d1 d2)) H):=by
 intro pins s σ H x y v u Q I rx ry h;obtain⟨O,d1,d2,h1,h2,s1,s2,q⟩:=h;obtain⟨as,r1⟩:=h1.reads I rx;obtain⟨bs,r2⟩:=h2.reads I ry;exact SeqAt.compareNe_shaped r1 r2 s1 s2 (by have:=hr.un;omega) ⟨.bl _,H,I,rfl,q⟩
theorem i5{k:Nat}(hr:Room k X.A):OpD X (Oh .Eq) eqG:=⟨_,Gq hr,fun O ts H T v1 v2 x y d Q hc h1 h2 e q=>by
 unfold eqG at e;split at e
 .rename_i h
  cases e;exact⟨O,x,y,h1,h2,h.1,h.2,q _ H (.refl _ _) hc (.bl _)⟩
 .cases e⟩
theorem Ib{k:Nat}(hr:Room k X.A):OpD X (Oh .NotEq) neG:=⟨_,Gj hr,fun O ts H T v1 v2 x y d Q hc h1 h2 e q=>by
 unfold neG at e;split at e
 .rename_i h
  cases e;exact⟨O,x,y,h1,h2,h.1,h.2,q _ H (.refl _ _) hc (.bl _)⟩
 .cases e⟩
open Classical in
def me(h:Heap)(x:NG)(v:NK):Bool:=if e:∃p:NG×List Addr,Vk h v p.1 p.2 then OO e.choose.1 x else false
theorem wU{h:Heap}{x d:NG}{v:NK}{as:List Addr}(r:Vk h v d as):me h x v=OO d x:=by
 have e:∃p:NG×List Addr,Vk h v p.1 p.2:=⟨(d,as),r⟩;unfold me;rw[dif_pos e];have:=(PySem.Reads.unique e.choose_spec d as r).1;rw[this]
theorem vH{h:Heap}{x:NG}:∀{vs:List NK}{ds:List NG}{as:List Addr},UO h vs ds as->vs.any (me h x)=ds.any fun d=>OO d x
 |_,_,_,.nil=>rfl
 |_,_,_,.cons r rs=>by rw[P3,P3,wU r,vH rs]
theorem readsAll_mem{h:Heap}:∀{vs:List NK}{ds:List NG}{as:List Addr}{v:NK},UO h vs ds as->v∈vs->∃d bs,d∈ds/\Vk h v d bs
 |_,_,_,_,.cons r rs,hm=>by
  rcases NR.mp hm with z|z
  .subst z;exact⟨_,_,NI,r⟩
  .obtain⟨d,bs,h1,h2⟩:=readsAll_mem rs z
   exact⟨d,bs,NJ _ h1,h2⟩
def inG:NG->NG->Option NG
 |x,.tuple ys=>if Ov x=true/\ys.all Ov=true then some (.bool (ys.any fun y=>OO y x)) else none
 |_,_=>none
theorem Gp{k:Nat}(hr:Room k X.A):OpR X (Oh .In) (fun x y H Q=>∃O d1 a vs ds,Vw X.K O H x d1/\y=.ref a/\SqT X.K H a vs/\Reps X.K O H vs ds/\Ov d1=true/\ds.all Ov=true/\Q (.bl (ds.any fun y=>OO y d1)) H):=by
 intro pins s σ H x y v u Q I rx ry h;obtain⟨O,d1,a,vs,ds,h1,rfl,h2,h3,s1,s2,q⟩:=h;cases ry;obtain⟨as,r1⟩:=h1.reads I rx;obtain⟨its,rv,p1,_⟩:=I.tuple h2;obtain⟨bs,r2,_⟩:=h3.reads I rv;refine U5 (me s.heap d1) p1 (fun y hy=>?_) ?_
 .obtain⟨d,cs,hd,rd⟩:=readsAll_mem r2 (by simpa using hy)
  rw[wU rd];have sd:=Oe.mp s2 d hd;refine SeqAt.eqAt_reads d d1 _ s y v _ _ rd r1 (Tg sd) (Tg s1) (SeqAt.room_of_shaped sd ?_);have:=hr.un;show X.A.in1.units+64<UE
  have e:X.A.in1.units<=X.A.units+1:=by simp[Around.in1]
  omega
 .have e:its.toArray.any (me s.heap d1)=ds.any fun y=>OO y d1:=by
   rw[←vH r2];simp
  rw[e];exact⟨.bl _,H,I,rfl,q⟩
theorem Ie{k:Nat}(hr:Room k X.A):OpD X (Oh .In) inG:=⟨_,Gp hr,fun O ts H T v1 v2 x y d Q hc h1 h2 e q=>by
 unfold inG at e;split at e
 .split at e
  .rename_i h
   cases e;obtain⟨a,vs,rfl,t,r⟩:=h2.tup;exact⟨O,x,a,vs,_,h1,rfl,t.sq,r,h.1,h.2,q _ H (.refl _ _) hc (.bl _)⟩
  .cases e
 .cases e⟩
end
section
variable {X:Cx}
variable {pos:Pos}{e:Expr}{fe:FE}
end
section
variable {X:Cx}{pos:Pos}{e:Expr}{f:FE}{x:Str}{p:Pos}{B:List (Str×Int)}
end
end D
namespace L2
open PySem PySem.Spec PyProof.Rows
open K1 (kS je)
section
variable {prog:Og}{w:Ow}{A:OD}{R:Result->NL->Prop}{it S:Addr}{fp wr:List Addr}{P:Nat->NK->Prop}{St:Nat->Heap->Prop}{ns:List Int}{kw:List (Str×NK)}
end
section
variable {X:Cx}
end
end L2
namespace D
open PySem PySem.Spec PyProof.Rows L2
section
variable {X:Cx}{pos:Pos}{e:Expr}{f:FE}{x:Str}{p:Pos}
variable {B:List (Str×Int)}
theorem mC{K:Frag}{O:Addr->Prop}{H:Hp}:∀ss:List Str,Reps K O H (ss.map V.str) (ss.map ON)
 |[]=>.nil
 |x::r=>.cons (.str x) (mC r)
end
mutual
def br:NG->Bool
 |.tuple ds=>bW ds
 |.list _=>false
 |.dict _=>false
 |_=>true
def bW:List NG->Bool
 |[]=>true
 |d::r=>br d&&bW r
end
section
variable {K:Frag}{O:Addr->Prop}{H:Hp}
theorem TupAt.own(hm:∀b,O b->Mut (H b)){a:Addr}{vs:List V}(t:TupAt K (fun _=>False) H a vs):TupAt K O H a vs:=by
 rcases t with⟨_,t⟩|t
 .refine .inl ⟨fun z=>?_,t⟩
  rcases hm a z with⟨us,e⟩|⟨us,e⟩|⟨C,dx,us,e⟩ <;> rcases t with t|⟨o,t⟩ <;> (rw[e] at t;cases t)
 .exact .inr t
mutual
theorem Rep.own(hm:∀b,O b->Mut (H b)):∀{v:V}{d:NG},Rep K (fun _=>False) H v d->br d=true->Rep K O H v d
 |_,_,.non,_=>.non
 |_,_,.bl b,_=>.bl b
 |_,_,.int i,_=>.int i
 |_,_,.str x,_=>.str x
 |_,_,.tup t r,h=>.tup (t.own hm) (Reps.own hm r (by simpa[br] using h))
 |_,_,.lst t r,h=>by simp[br] at h
 |_,_,.dct n t r,h=>by simp[br] at h
theorem Reps.own(hm:∀b,O b->Mut (H b)):∀{vs:List V}{ds:List NG},Reps K (fun _=>False) H vs ds->bW ds=true->Reps K O H vs ds
 |_,_,.nil,_=>.nil
 |_,_,.cons (d:=d) (ds:=ds) r t,h=>by
  have h':(br d&&bW ds)=true:=by simpa[bW] using h
  rw[NN] at h';exact .cons (Rep.own hm r h'.1) (Reps.own hm t h'.2)
end
end
def l6:List W->Bool
 |[]=>true
 |.tp _::_=>false
 |.loc (.dict _)::_=>false
 |_::r=>l6 r
theorem sE{K:Frag}{O:Addr->Prop}{ts:List Addr}{H:Hp}:∀{vs:List V}{ws:List W},iu K O ts H vs ws->l6 ws=true->iu K (fun _=>False) [] H vs (ws.map j6)
 |_,[],.nil,_=>.nil
 |_,.d x::r,.cons h t,e=>.cons (show Rep K (fun _=>False) H _ x from Rep.mono (fun a o n e=>⟨fun z=>z,e⟩) h) (sE t e)
 |_,.tp _::_,.cons _ _,e=>by cases e
 |_,.loc x::r,.cons h t,e=>by
  have le:Le O H (fun _=>False) H:=fun a o n e=>⟨fun z=>z,e⟩;obtain⟨a,rfl,_,_,h3⟩:=h
  cases x with
  |list xs=>obtain⟨vs,h1,h2⟩:=h3;exact .cons (.lst (.inl ⟨fun z=>z,.inl h1⟩) (h2.mono le)) (sE t e)
  |dict xs=>cases e
  |_=>cases h3
def fm(m:FnM)(g:FA):FE:=fun ρ T=>bnd (g ρ T) fun ws T1=>if l6 ws=true then (match m (ws.map j6) [] with
 |some (x,_)=>if br x=true then some (.d x,T1) else none
 | none=>none) else none
theorem mV{X:Cx}{name:Str}{ps:List Str}{k:Nat}{m:FnM}{e:Expr}{es:List Expr}{g:FA}{p pos:Pos}(F:Fn X.prog X.w X.K X.mg X.base name ps k (spM X.K ps.length m))(hr:Room k X.A)(hg:Gl X name)(ha:DA X (e::es) g)(hl:mq g ps.length)(hdb:(name == ("__debug__" : Str))=false:=by decide)
  (he:NU (e::es) X.env=(false,eval e X.env)::NU es X.env:=by exact bC rfl) (hpl:(O4 pos (NU es X.env)).any (·.1)=false:=by exact cJ rfl):DE X (.Call (.Name name p) (e::es) [] pos) (fm m g):=by
 refine⟨?_⟩;refine bD (yI F hr hg ha.pe hdb he hpl) fun σ H Q=>?_;rintro⟨O,ts,ρ,T,w,T',hc,re,e,q⟩;obtain⟨ws,T1,e1,e⟩:=aP e;split at e
 .rename_i hn
  split at e
  .rename_i x T2 e2
   split at e
   .rename_i hx
    cases e;refine⟨O,ts,ρ,T,ws,_,hc,re,e1,fun vs H1 s1 hc1 r1=>?_⟩;refine⟨fun _=>False,[],[],ws.map j6,x,T2,⟨fun b hb=>(by cases hb),fun b hb=>hb.elim,Sg,rfl,fun i a xs e1 _=>by simp at e1⟩,by rw[PU];exact sE r1 hn,by rw[OV];exact hl _ _ _ _ e1,e2,fun v H2 s2 hc2 r2=>?_⟩;have s2':SameX ts H1 H2:=fun b o _ q=>s2 b o (by simp) q
    have hm:∀b,O b->Mut (H2 b):=fun b hb=>by
     exact(hc1.trk b hb).to fun u z=>s2 b _ (by simp) z
    have hc2':=hc1.step s2' fun b hb=>by
     obtain⟨u,z⟩:=(hc1.trk b (hc1.own b hb)).ex;rw[z];exact s2 b _ (by simp) z
    exact q v H2 (s1.trans s2') hc2' (Rep.own hm r2 hx)
   .cases e
  .cases e
 .cases e
def aJ(ds:List (NG×NG))(s:Str):Option PyData:=match ds with
 |[]=>none
 |(.str k,d)::r=>if k=s then some d else aJ r s
 |_::r=>aJ r s
theorem gp{K:Frag}{O:Addr->Prop}{H:Hp}{s:Str}:∀{kvs:List (Key×V)}{ds:List (NG×NG)},RepK K O H kvs ds->(aJ ds s=none/\bV kvs (OP s:Key)=none)\/∃v d,aJ ds s=some d/\bV kvs (OP s:Key)=some v/\Rep K O H v d
 |_,_,.nil=>.inl ⟨rfl,rfl⟩
 |_,_,.cons (k:=.inl i) (v:=v) (d:=d) (kvs:=kvs) (ds:=ds) r t=>by
  have e:bV (((SY i:Key),v)::kvs) (OP s:Key)=bV kvs (OP s:Key):=by simp[bV,Pd]
  rw[e];show (aJ ds s=none/\_)\/∃v d,aJ ds s=some d/\_;exact gp (s:=s) t
 |_,_,.cons (k:=.inr k) (v:=v) (d:=d) (kvs:=kvs) (ds:=ds) r t=>by
  by_cases hk:k=s
  .subst hk
   exact .inr ⟨v,d,by show (if k=k then some d else aJ ds k)=some d;rw[if_pos rfl],by simp[bV,Pd],r⟩
  .have e:bV (((OP k:Key),v)::kvs) (OP s:Key)=bV kvs (OP s:Key):=by simp[bV,Pd,hk]
   have e2:aJ ((l8 (OP k:Key),d)::ds) s=aJ ds s:=by show (if k=s then some d else aJ ds s)=_;rw[if_neg hk]
   rw[e,e2];exact gp (s:=s) t
theorem DGet.rd{H:Hp}{a:Addr}{kvs:List (Key×V)}{k:Key}(e:Rd H a (.dK kvs)):DGet H a (kV k) (bV kvs k):=.inl ⟨kvs,k,e,rfl,rfl⟩
def jQ:NG->NG->Option NG
 |.str s,.dict ds=>some (.bool (aJ ds s).isSome)
 |_,_=>none
def d7:NG->NG->Option NG
 |.dict ds,.str s=>aJ ds s
 |_,_=>none
section
variable {X:Cx}{pos:Pos}{k:Nat}
theorem i9{k:Nat}{A:OD}(hr:Room k A):A.units+1<cLine:=by have:=hr.un;omega
theorem G6{a b:Expr}{f g:FE}(hr:Room k X.A)(ha:DE X a f)(hb:DE X b g)(h1:P2 .In b=false:=by first|exact nP _|with_unfolding_all rfl):DT X (.Compare a [.In] [b] pos) (ax (ag jQ f g)):=by
 refine⟨?_⟩;refine k9 (F4 (Gf (i9 hr) ha.pe hb.pe) h1) fun σ H Q h=>?_;have h:=m5 h;revert h;rintro⟨O,ts,ρ,T,w,T',hc,re,e,q⟩;obtain⟨w1,T1,e1,e⟩:=aP e;obtain⟨w2,T2,e2,e⟩:=aP e;obtain⟨x,y,d,h1,h2,h3,rfl,rfl⟩:=hU e;refine⟨O,ts,ρ,T,w1,T1,hc,re,e1,fun v1 H1 s1 hc1 r1=>?_⟩;refine⟨O,ts,ρ,T1,w2,T',hc1,re.mono hc s1,e2,fun v2 H2 s2 hc2 r2=>?_⟩;have k1:=hc2.view (r1.mono hc1 s2) h1;have k2:=hc2.view r2 h2;unfold jQ at h3;split at h3
 .rename_i s ds
  cases h3;cases k1.str;obtain⟨a,kvs,rfl,t,r⟩:=k2.dct;refine⟨a,_,rfl,DGet.rd (k:=OP s) t,?_⟩
  have e:(bV kvs (OP s:Key)).isSome=(aJ ds s).isSome:=by
   rcases gp (s:=s) r with⟨z1,z2⟩|⟨v,d,z1,z2,_⟩ <;> rw[z1,z2] <;> rfl
  rw[e];exact q _ H2 (s1.trans s2) hc2 (.bl _)
 .cases h3
theorem nV{a b:Expr}{f g:FE}(hr:Room k X.A)(ha:DE X a f)(hb:DE X b g)(hs:sO b:=by exact fun _ _=>rfl):DE X (.Subscript a b pos) (ag d7 f g):=by
 refine⟨?_⟩;refine bD (Eh (i9 hr) ha.pe hb.pe hs) fun σ H Q=>?_;rintro⟨O,ts,ρ,T,w,T',hc,re,e,q⟩;obtain⟨w1,T1,e1,e⟩:=aP e;obtain⟨w2,T2,e2,e⟩:=aP e;obtain⟨x,y,d,h1,h2,h3,rfl,rfl⟩:=hU e;refine⟨O,ts,ρ,T,w1,T1,hc,re,e1,fun v1 H1 s1 hc1 r1=>?_⟩;refine⟨O,ts,ρ,T1,w2,T',hc1,re.mono hc s1,e2,fun v2 H2 s2 hc2 r2=>?_⟩;have k1:=hc2.view (r1.mono hc1 s2) h1;have k2:=hc2.view r2 h2;unfold d7 at h3;split at h3
 .rename_i ds s
  cases k2.str;obtain⟨a,kvs,rfl,t,r⟩:=k1.dct
  rcases gp (s:=s) r with⟨z1,z2⟩|⟨v,d',z1,z2,rv⟩
  .rw[z1] at h3;cases h3
  .rw[z1] at h3
   cases h3;exact⟨a,v,rfl,by rw[←z2];exact DGet.rd (k:=OP s) t,q v H2 (s1.trans s2) hc2 rv⟩
 .cases h3
end
section
variable {K:Frag}{O₀:Addr->Prop}{H₀:Hp}{F:List ((Addr->Prop)×Hp)}{ts:List Addr}{O:Addr->Prop}{H H1:Hp}{σ:L2.St}{ρ:Rho}{T T1:Tp}
theorem RS.lay{p:Addr}{o:HO}(r:RS K O₀ H₀ F ts O H σ ρ T)(hp:H p=none)(hm:Mut (some o)):RS K O₀ H₀ F ts (fun b=>O b\/b=p) (upd H p o) σ ρ T:=by
 have le:Le O H (fun b=>O b\/b=p) (upd H p o):=fun a o n e=>by
  have z:a≠p:=cX e hp;exact⟨fun q=>q.elim n z,by rw[aS z];exact e⟩
 refine⟨⟨fun b hb=>.inl (r.hc.own b hb),fun b hb=>?_,r.hc.nd,r.hc.len,fun j a ys e1 e2=>?_⟩,fun j w e=>?_,fun b hb=>.inl (r.sub b hb),r.ots,r.same.trans (.new hp _),r.fresh,r.dist,fun f hf=>(r.frs f hf).trans le,r.len⟩
 .by_cases z:b=p
  .subst z;rw[bx];exact hm
  .rw[aS z]
   exact r.hc.trk b (hb.resolve_right z)
 .exact(r.hc.tape j a ys e1 e2).mono (fun o' h1=>by rw[aS (cX h1 hp)];exact h1) le
 .obtain⟨x,h1,h2⟩:=r.re j w e
  refine⟨x,h1,?_⟩
  cases w with
  |d x=>exact Rep.mono le h2
  |tp k=>exact h2
  |loc ys=>
   obtain⟨a,e1,h1,h2,h3⟩:=h2;exact⟨a,e1,.inl h1,h2,h3.mono (fun o' q=>by rw[aS (cX q hp)];exact q) le⟩
theorem RS.take{i:Nat}{p:Addr}{o:HO}{y:NG}(r:RS K O₀ H₀ F ts O H σ ρ T)(oa:O p)(nt:p∉ts)(h0:H₀ p=none/\¬O₀ p)(nh:∀(j:Nat) (ys:NG),ρ[j]? = some (some (W.loc ys))->σ[j]? = some (some (V.ref p))->False)(hm:Mut (some o))(rv:Le O H O (upd H p o)->OwnAt K O (upd H p o) p y) :
  RS K O₀ H₀ F ts O (upd H p o) (σ.set i (some (.ref p))) (ρ.set i (some (.loc y))) T:=by
 have le:Le O H O (upd H p o):=fun b o n e=>⟨n,by rw[aS (show b≠p from fun z=>n (by rw[z];exact oa))];exact e⟩
 have at_i:∀{w:W},(ρ.set i (some w))[i]? = some (some w)\/(ρ.set i (some w))[i]? = none:=fun {w}=>by
  by_cases hl:i<ρ.length
  .exact .inl (NV hl)
  .exact .inr (Rr (by simp;omega))
 refine⟨⟨r.hc.own,fun b hb=>?_,r.hc.nd,r.hc.len,fun j a ys e1 e2=>?_⟩,fun j w e=>?_,r.sub,r.ots,fun b o n e=>?_,fun j ys a e1 e2=>?_,fun j k ys zs v e1 e2 e3 e4=>?_,fun f hf=>(r.frs f hf).trans le,by simp[r.len]⟩
 .by_cases z:b=p
  .subst z;rw[bx];exact hm
  .rw[aS z];exact r.hc.trk b hb
 .exact(r.hc.tape j a ys e1 e2).mono (fun o' h1=>by rw[aS (show a≠p from fun z=>nt (by rw[←z];exact Oz e1))];exact h1) le
 .by_cases z:i=j
  .subst z
   have hl:i<ρ.length:=by
    have:=(NM.mp e).1;simpa using this
   rw[NV hl] at e;cases e;exact⟨.ref p,by rw[NV (by rw[r.len];exact hl)],p,rfl,oa,nt,rv le⟩
  .rw[NQ z] at e
   obtain⟨x,h1,h2⟩:=r.re j w e;refine⟨x,by rw[NQ z];exact h1,?_⟩
   cases w with
   |d x=>exact Rep.mono le h2
   |tp k=>exact h2
   |loc zs=>
    obtain⟨b,eb,k1,k2,k3⟩:=h2;have n:b≠p:=fun q=>nh j zs e (by rw[h1,eb,q]);exact⟨b,eb,k1,k2,k3.mono (fun o' q=>by rw[aS n];exact q) le⟩
 .have:=r.same b o n e
  rw[aS (show b≠p from fun z=>by rw[z,h0.1] at e;cases e)];exact this
 .by_cases z:i=j
  .subst z
   have hl:i<ρ.length:=by
    have:=(NM.mp e1).1;simpa using this
   rw[NV (by rw[r.len];exact hl)] at e2;cases e2;exact h0
  .rw[NQ z] at e1 e2
   exact r.fresh j ys a e1 e2
 .by_cases z:i=j
  .by_cases z':i=k
   .rw[←z,←z']
   .exfalso
    subst z
    have hl:i<ρ.length:=by
     have:=(NM.mp e1).1;simpa using this
    rw[NV (by rw[r.len];exact hl)] at e3;cases e3;rw[NQ z'] at e2 e4;exact nh k zs e2 e4
  .by_cases z':i=k
   .exfalso
    subst z'
    have hl:i<ρ.length:=by
     have:=(NM.mp e2).1;simpa using this
    rw[NV (by rw[r.len];exact hl)] at e4;cases e4;rw[NQ z] at e1 e3;exact nh j ys e1 e3
   .rw[NQ z] at e1 e3
    rw[NQ z'] at e2 e4;exact r.dist j k ys zs v e1 e2 e3 e4
end
section
variable {X:Cx}{pos:Pos}
def f7(i:Nat)(k1 k2:Str)(f g:FE):FS:=fun ρ T=>bnd (f ρ T) fun w1 T1=>bnd (g ρ T1) fun w2 T2=>match w1,w2 with
 |.d x,.d y=>if k1=k2 then none else some ((.nx,ρ.set i (some (.loc (.dict [(.str k1,x),(.str k2,y)])))),T2)
 |_,_=>none
theorem wW{i:Nat}{x:Str}{pos' dpos kp1 kp2:Pos}{k1 k2:Str}{j1 j2}{e1 e2:Expr}{f g:FE}(hN:X.N.Nodup)(he1:DE X e1 f)(he2:DE X e2 g)(hi:X.N[i]? = some x:=by rfl)(hx:Loc X.env.scope x:=by first|exact Pj rfl|exact OY rfl)
  (hs:PN (.Dict [some (.Constant (.str k1) j1 kp1),some (.Constant (.str k2) j2 kp2)] [e1,e2] dpos) (some (.Name x pos')) pos.line X.env=pure false:=by rfl) (hf:X.fn x=true\/X.env.scope.names.lookup x=some .local:=by first|exact .inl rfl|exact .inr rfl|assumption) :
  DS X (.Assign [.Name x pos'] (.Dict [some (.Constant (.str k1) j1 kp1),some (.Constant (.str k2) j2 kp2)] [e1,e2] dpos) pos) (f7 i k1 k2 f g):=by
 refine⟨?_⟩;refine cz (gx hN hi hx (Eg (vh rG he1.pe (vh rG he2.pe Ed)) rfl rfl (by simp) (by simp)) hs hf) fun D σ H=>?_;rintro⟨O₀,H₀,F,ts,O,ρ,T,fl,ρ',T',rs,e,q⟩;obtain⟨w1,T1,z1,e⟩:=aP e;obtain⟨w2,T2,z2,e⟩:=aP e
 obtain⟨x1,rfl⟩:∃x,w1=.d x:=by
  cases w1 with
  |d x=>exact⟨x,rfl⟩
  |tp k=>cases e
  |loc k=>cases e
 obtain⟨y1,rfl⟩:∃x,w2=.d x:=by
  cases w2 with
  |d x=>exact⟨x,rfl⟩
  |tp k=>cases e
  |loc k=>cases e
 intro p hp;have nO:=rs.hc.fresh hp;have nt:p∉ts:=fun z=>nO (rs.hc.own p z)
 have h00:H₀ p=none:=by
  cases e:H₀ p with
  |none=>rfl
  |some o=>rw[rs.same p o nt e] at hp;cases hp
 have h0:H₀ p=none/\¬O₀ p:=⟨h00,fun z=>nO (rs.sub p z)⟩
 have nh:∀(j:Nat) (ys:NG),ρ[j]? = some (some (W.loc ys))->σ[j]? = some (some (V.ref p))->False:=fun j ys q1 q2=>by
  obtain⟨v,h1,a,ea,h2,h3,h4⟩:=rs.re j _ q1;rw[q2] at h1;cases h1;cases ea;obtain⟨o',h5⟩:=h4.some;rw[hp] at h5;cases h5
 have rs0:=rs.lay (o:=.dK []) hp (.inr (.inl ⟨_,rfl⟩));refine⟨_,ts,ρ,T,_,T1,rs0.hc,rs0.re,z1,fun v1 H1 s1 hc1 r1=>?_⟩;have rs1:=rs0.step s1 hc1;refine⟨_,ts,ρ,T1,_,T2,rs1.hc,rs1.re,z2,fun v2 H2 s2 hc2 r2=>?_⟩;have rs2:=rs1.step s2 hc2
 by_cases hne:k1=k2
 .have e':(if k1=k2 then none else some ((Fl.nx,ρ.set i (some (.loc (.dict [(.str k1,x1),(.str k2,y1)])))),T2))=some ((fl,ρ'),T'):=e
  rw[if_pos hne] at e';cases e'
 have e':(if k1=k2 then none else some ((Fl.nx,ρ.set i (some (.loc (.dict [(.str k1,x1),(.str k2,y1)])))),T2))=some ((fl,ρ'),T'):=e;rw[if_neg hne] at e';cases e';have hp2:H2 p=some (.dK []):=s2 p _ nt (s1 p _ nt bx);refine⟨hp2,[(.inr k1,v1),(.inr k2,v2)],rfl,by simp,?_⟩
 have hm:iT [] [((OP k1:Key),v1),((OP k2:Key),v2)]=[(.inr k1,v1),(.inr k2,v2)]:=by
  simp[iT,putK,hne]
 rw[hm];have r1':Rep X.K (fun b=>O b\/b=p) H2 v1 x1:=RepW.mono (w:=.d x1) r1 hc1 s2;exact q _ _ _ (rs2.take (.inr rfl) nt h0 nh (.inr (.inl ⟨_,rfl⟩)) fun le=>⟨_,bx,.cons (k:=.inr k1) (Rep.mono le r1') (.cons (k:=.inr k2) (Rep.mono le r2) .nil)⟩)
def dh(ds:List (NG×NG))(s:Str)(x:NG):List (NG×NG):=match ds with
 |[]=>[]
 |(.str k,d)::r=>if k=s then (.str k,x)::dh r s x else (.str k,d)::dh r s x
 |p::r=>p::dh r s x
theorem mE{K:Frag}{O:Addr->Prop}{H:Hp}{s:Str}{v:V}{x:NG}(rx:Rep K O H v x):∀{kvs:List (Key×V)}{ds:List (NG×NG)},RepK K O H kvs ds->RepK K O H (kvs.map fun kv=>if kv.1=(OP s:Key) then (kv.1,v) else kv) (dh ds s x)
 |_,_,.nil=>.nil
 |_,_,.cons (k:=.inl i) r t=>by
  rw[Oi];rw[if_neg (by intro z;cases z)];exact .cons (k:=.inl i) r (mE rx t)
 |_,_,.cons (k:=.inr k) (v:=u) (d:=d) (kvs:=kvs) (ds:=ds) r t=>by
  rw[Oi];have ih:=mE (s:=s) rx t;show RepK K O H _ (if k=s then (.str k,x)::dh ds s x else (.str k,d)::dh ds s x)
  by_cases hk:k=s
  .rw[if_pos hk,if_pos (by rw[hk])]
   exact .cons (k:=.inr k) rx ih
  .rw[if_neg hk,if_neg (fun z=>hk (WG z))]
   exact .cons (k:=.inr k) r ih
def oA(i:Nat)(fk fv:FE):FS:=fun ρ T=>bnd (fv ρ T) fun w T1=>match ρ[i]? with
 |some (some (.loc (.dict ds)))=>bnd (fk ρ T1) fun k T3=>match w,k with
  |.d x,.d (.str s)=>if (aJ ds s).isSome=true/\ds.length<=1000 then some ((.nx,ρ.set i (some (.loc (.dict (dh ds s x))))),T3) else none
  |_,_=>none
 |_=>none
theorem qk{K:Frag}{O:Addr->Prop}{H:Hp}:∀{kvs:List (Key×V)}{ds:List (NG×NG)},RepK K O H kvs ds->kvs.length=ds.length
 |_,_,.nil=>rfl
 |_,_,.cons _ t=>congrArg (· + 1) (qk t)
theorem uc{kvs:List (Key×V)}{k:Key}(h:(bV kvs k).isSome=true):(kvs.any fun kv=>decide (kv.1=k))=true:=by
 unfold bV at h;rw[Rl] at h;rw[List.any_eq_true];obtain⟨p,hp⟩:=QX.mp h;exact⟨p,List.mem_of_find?_eq_some hp,by have:=List.find?_some hp;simpa using this⟩
theorem E1{i:Nat}{x:Str}{kx e:Expr}{fk fv:FE}{p pos':Pos}{k:Nat}(hr:Room k X.A)(hk:DE X kx fk)(he:DE X e fv)(hN:X.N[i]? = some x:=by rfl)(hv:Vis X.env.scope x:=by first|exact Pj rfl|exact OY (Pj rfl)|exact OY (OY rfl))(hd:(x == ("__debug__" : Str))=false:=by decide)
  (hcd:(x == ("__classdict__" : Str))=false:=by decide) (hs:PN e (some (.Subscript (.Name x p) kx pos')) pos.line X.env=pure false:=by rfl):DS X (.Assign [.Subscript (.Name x p) kx pos'] e pos) (oA i fk fv):=by
 refine⟨?_⟩;refine cz (wB (i9 hr) (pv i hN hv hd hcd) hk.pe he.pe hs) fun D σ H=>?_;rintro⟨O₀,H₀,F,ts,O,ρ,T,fl,ρ',T',rs,e,q⟩;obtain⟨w,T1,e1,e⟩:=aP e;refine⟨O,ts,ρ,T,w,T1,rs.hc,rs.re,e1,fun v H1 s1 hc1 r1=>?_⟩;have rs1:=rs.step s1 hc1;split at e
 .rename_i ds c3
  obtain⟨wk,T3,e3,e⟩:=aP e;split at e
  .rename_i xv s _
   split at e
   .rename_i hcnd
    cases e;obtain⟨c1,c2⟩:=hcnd;obtain⟨u,k1,a,rfl,k2,k3,kvs,k4,k5⟩:=rs1.re i _ c3;refine⟨_,k1,O,ts,ρ,T1,_,_,rs1.hc,rs1.re,e3,fun y H3 s3 hc3 r3=>?_⟩;have rs3:=rs1.step s3 hc3;cases (show Rep X.K O H3 y (.str s) from r3);have k4':H3 a=some (.dK kvs):=s3 _ _ k3 k4;have k5':RepK X.K O H3 kvs ds:=k5.mono (hc1.le s3)
    have hany:(kvs.any fun kv=>decide (kv.1=(OP s:Key)))=true:=uc (by
     rcases gp (s:=s) k5' with⟨z1,z2⟩|⟨v',d',z1,z2,_⟩
     .rw[z1] at c1;cases c1
     .rw[z2];rfl)
    have hput:putK kvs (OP s:Key) v=kvs.map (fun kv=>if kv.1=(OP s:Key) then (kv.1,v) else kv):=by
     unfold putK;rw[if_pos hany]
    have hlen:kvs.length<sizeLine:=by
     rw[qk k5'];exact Pk c2 (by decide)
    have rx:Rep X.K O H3 v xv:=RepW.mono (w:=.d xv) r1 hc1 s3;refine⟨a,_,rfl,DPut.k (k:=(OP s:Key)) k4' hlen,?_⟩;rw[hput];exact q O σ _ (rs3.putO c3 k1 (.inr (.inl ⟨_,rfl⟩)) fun le=>⟨_,bx,mE (Rep.mono le rx) (k5'.mono le)⟩)
   .cases e
  .cases e
 .cases e
end
def eS(B:List (Str×Str)):List (Str×WK):=B.map fun p=>(p.1,.flat (.str p.2))
def zO(K:Frag)(mg:Str->Option NK)(x:Str)(B:List (Str×Str)):Prop:=∃a,mg x=some (.ref a)/\Py (Pv fun b=>K.lookup b) (fun b=>K.lookup b) a (eS B)=true
def atS(B:List (Str×Str)):NG->Option NG
 |.str s=>(B.find? fun p=>decide (s=p.1)).map fun p=>.str p.2
 |_=>none
theorem tY(s:Str):∀B:List (Str×Str),SH s (eS B)=(B.find? fun p=>decide (s=p.1)).map fun p=>.flat (.str p.2)
 |[]=>rfl
 |(x,d)::B=>by
  show (if decide (s=x)=true then some _ else SH s (eS B))=_;rw[tY s B,Pd]
  cases decide (s=x) <;> rfl
section
variable {X:Cx}{pos:Pos}{e:Expr}{f:FE}{x:Str}{p:Pos}{B:List (Str×Str)}
theorem tX{h:Heap}{P:NK->Prop}{s:Str}:∀{B:List (Str×Str)}{d:Str×Str},(B.find? fun p=>decide (s=p.1))=some d->(∀t,P (.str d.2 t))->Wz h s P (eS B)
 |[],d,e,_=>by cases e
 |(x,i)::B,d,e,hp=>by
  rw[Pd] at e
  by_cases hx:s=x
  .have:decide (s=x)=true:=decide_eq_true hx
   simp only[this] at e;cases e;exact VM hx (Vz hp)
  .have:decide (s=x)=false:=decide_eq_false hx
   simp only[this] at e;exact VA hx (tX e hp)
theorem EG{a:Addr}(hl:Py (Pv fun b=>X.K.lookup b) (fun b=>X.K.lookup b) a (eS B)=true):IxR X (fun x y H Q=>∃s p,x=.ref a/\y=.str s/\(B.find? fun p=>decide (s=p.1))=some p/\Q (.str p.2) H):=by
 intro value slice pins s σ H x y v u Q I rx ry h hs;obtain⟨z,d,rfl,rfl,hf,q⟩:=h;obtain⟨t,rfl⟩:=ry;cases rx
 have hk:Wp z (eS B)=true:=by
  rw[←UV,tY,hf];rfl
 have hp:((eS B).all fun p=>WA p.2)=true:=by
  rw[Oe];intro p hp;obtain⟨q,_,rfl⟩:=OH.mp hp;rfl
 exact VB (h₀:=s.heap) ⟨PySem.W.kt_text_in I.kIn hl,fun _ _ e=>e⟩ hp hk (tX hf fun t=>⟨.str d.2,H,I.tok _,⟨t,rfl⟩,q⟩) hs
theorem Hf(ht:zO X.K X.mg x B)(hg:Gl X x)(he:DE X e f)(hd:(x == ("__debug__" : Str))=false:=by decide)(hs:k6 e:=by exact fun _ _=>rfl):DE X (.Subscript (.Name x p) e pos) (fUn (atS B) f):=by
 obtain⟨a,hx,hl⟩:=ht;refine⟨?_⟩;refine bD (oh (EG hl) (qC (v:=.ref a) hg hx rfl hd) he.pe hs) fun σ H Q=>?_;rintro⟨O,ts,ρ,T,w,T',hc,re,e,q⟩;obtain⟨w1,T1,e1,e⟩:=aP e;obtain⟨x,d,h1,h3,rfl,rfl⟩:=hW e;refine⟨O,ts,ρ,T,w1,T',hc,re,e1,fun v1 H1 s1 hc1 r1=>?_⟩;have vw:=hc1.view r1 h1;unfold atS at h3;split at h3
 .obtain⟨p,hp,rfl⟩:=Ol.mp h3
  cases vw.str;exact⟨_,p,rfl,rfl,hp,q _ H1 s1 hc1 (.str _)⟩
 .cases h3
def rV(a:Addr)(o:Obj)(B:List (Str×Str)):Bool:=Py (Pv fun _=>none) (fun _=>some o) a (eS B)
theorem tM{g g':Addr->Option Obj}:∀(es:List U6) (B:List (Str×Str)),QU (Pv g) es (eS B)=QU (Pv g') es (eS B)
 |[],[]=>rfl
 |[],(_,_)::_=>rfl
 |_::_,[]=>rfl
 |e::es,(x,i)::B=>by
  have ih:=tM (g:=g) (g':=g') es B;unfold eS at ih ⊢;rw[Oi];unfold QU;rw[ih];rfl
theorem AQ{K:Frag}{a:Addr}{o:Obj}(h:K.lookup a=some o)(g:rV a o B=true):Py (Pv fun b=>K.lookup b) (fun b=>K.lookup b) a (eS B)=true:=by
 unfold rV Py at g;unfold Py;dsimp only at g ⊢;rw[h];rw[←g];dsimp only
 cases o.data <;> first|rfl|(dsimp only;rw[tM (g':=fun _=>none)])
def iA(i j:Nat)(f:FE):FS:=fun ρ T=>bnd (f ρ T) fun w T1=>match w with
 |.d (.tuple [x,y])=>some ((.nx,(ρ.set i (some (.d x))).set j (some (.d y))),T1)
 |_=>none
theorem yk{i j:Nat}{y:Str}{k:Nat}{px py tp:Pos}(hN:X.N.Nodup)(he:DE X e f)(hi:X.N[i]? = some x:=by rfl)(hj:X.N[j]? = some y:=by rfl)(hx:Loc X.env.scope x:=by first|exact Pj rfl|exact OY rfl)(hy:Loc X.env.scope y:=by first|exact Pj rfl|exact OY rfl)
  (hf:X.fn x=true\/X.env.scope.names.lookup x=some .local:=by first|exact .inl rfl|exact .inr rfl|assumption) (hf':X.fn y=true\/X.env.scope.names.lookup y=some .local:=by first|exact .inl rfl|exact .inr rfl|assumption) (hc:X.calm=true:=by rfl)
  (hs:SD [.Tuple [.Name x px,.Name y py] k tp] e pos.line X.env=pure false:=by rfl) (hw:SE [.Tuple [.Name x px,.Name y py] k tp] e X.env=pure none:=by rfl)
  (h1:(QL [.Tuple [.Name x px,.Name y py] k tp] X.env).map (·.2)=[Tz (.Tuple [.Name x px,.Name y py] k tp) X.env]:=by rfl):DS X (.Assign [.Tuple [.Name x px,.Name y py] k tp] e pos) (iA i j f):=by
 refine⟨?_⟩;refine cz (rE he.pe (rF hc (iL (gr hN hi hx hf) (iL (gr hN hj hy hf') qB))) hs hw h1) fun D σ H=>?_;rintro⟨O₀,H₀,F,ts,O,ρ,T,fl,ρ',T',rs,e,q⟩;obtain⟨w,T1,e1,e⟩:=aP e;refine⟨O,ts,ρ,T,w,T1,rs.hc,rs.re,e1,fun v H1 s1 hc1 r1=>?_⟩;split at e
 .rename_i a b
  cases e;have rs1:=rs.step s1 hc1;have r1':Rep X.K O H1 v (.tuple [a,b]):=r1
  cases r1' with
  |tup t r=>
   cases r with
   |cons ra r=>
    cases r with
    |cons rb r=>
     cases r;exact⟨_,_,rfl,t.sq,rfl,_,_,rfl,_,_,rfl,rfl,q O _ _ ((rs1.set (w:=.d a) ra fun _ z=>nomatch z).set (w:=.d b) rb fun _ z=>nomatch z)⟩
 .cases e
end
section
variable {K:Frag}{O:Addr->Prop}{ts:List Addr}{H H':Hp}{T:Tp}{n:Nat}{a C:Addr}{ps:List NG}
end
section
variable {X:Cx}{C:Addr}{o e:Expr}{f m:Str}{pos pos' apos:Pos}{fo fe:FE}
structure Mth(P:Og)(w:Ow)(K:Frag)(mg:Str->Option NK)(base:Heap)(C:Addr)(m:Str)(ps:List Str)(k:Nat)(sp:Sp):Prop where
 ex:∃f fd,FnOk P w K mg base CX0 k f fd ps sp/\Binds K fd ps []/\Meth K C m f
variable {ps:List Str}{k:Nat}{mm:FnM}{g:FA}{es:List Expr}{pl:Sem Bool}
end
def lM(T:Tp):Option (Tp×List NG):=match T.getLast? with
 |some xs=>some (T.dropLast,xs)
 |none=>none
theorem CW{T T1:Tp}{ys:List NG}(h:lM T=some (T1,ys)):T=T1++[ys]:=by
 unfold lM at h;split at h
 .rename_i xs e
  cases h;obtain⟨zs,hl⟩:=List.getLast?_eq_some_iff.mp e;rw[hl];simp
 .cases h
def nM:Rho->Bool
 |[]=>true
 |none::r=>nM r
 |some (.d _)::r=>nM r
 |_::_=>false
section
variable {X:Cx}{C f:Addr}{e:Expr}{fe:FE}{fr:FS}{rest:List Stmt}{cn x:Str}{p pos pos' cpos:Pos}{ps:List Str}{k i:Nat}{m:FnM}{fd:PK}
end
end D
namespace L2
open PySem PySem.Spec PyProof.Rows
section
variable {X:Cx}
theorem ud:∀(l:List (Str×Tok)),Vals ((l.map (·.1)).map V.str) (Wq l)
 |[]=>.nil
 |p::r=>.cons ⟨p.2,rfl⟩ (ud r)
theorem CJ:MtR X "str.split" (fun x vs H Q=>∃z y:Str,x=.str z/\vs=[.str y]/\(y.length == 0)=false/\z.length+2<=NS/\∀l,H l=none->Q (.ref l) (upd H l (.lst ((Qi z y).map V.str)))):=by
 intro pins s σ H x vs v us Q I rx rv h;obtain⟨z,y,rfl,rfl,hy,hz,q⟩:=h;obtain⟨t,rfl⟩:=rx;obtain⟨u,rfl,ru⟩:=vals1 rv;obtain⟨t',rfl⟩:=ru
 have np:(P4 z (OQ z y 0 z.length (z.length+1)) y.length).length<=sizeLine:=by
  have o1:=StrLaws.occ_length_le z y 0 z.length (z.length+1);rw[length_partsBetween];omega
 have fin:∀(l:List (Str×Tok)) (k:Nat),l.map (·.1)=Qi z y->l.length<=NS->EP X pins σ Q (.ref s.heap.objs.size) { s with toks:=k,heap:=s.heap.push { cls:=.type "list",data:=.seq (Wq l).toArray } }:=fun l k e hl=>by
  have hn:((Qi z y).map V.str).length<=sizeLine:=by rw[←e];simpa using hl
  refine⟨.ref s.heap.objs.size,_,I.laid (t':=k) (fun b o w=>NO _ w) (NT _) (show ObjOk X.prog X.w _ _ _ (.lst ((Qi z y).map V.str)) from⟨hn,Wq l,0,?_,On _ rfl⟩),rfl,q _ (I.hok.fresh (NT _))⟩;rw[←e];exact ud l
 cases c1:(decide (z.length<y.length)||decide (Uh z<Uh y))
 .cases c2:(OQ z y 0 z.length (z.length+1)).isEmpty
  .refine QO QC (Rw _ _ _) Rf (Q3 _ _) (meets_str_split_sep z y t t' c1 hy c2 (by omega) np) ?_
   show wants _ _ _ { s with toks:=_,heap:=s.heap.push { cls:=.type "list",data:=.seq (strsFrom s.toks (P4 z (OQ z y 0 z.length (z.length+1)) y.length)).toArray } };rw[strsFrom_eq];have e:(numbered s.toks (P4 z (OQ z y 0 z.length (z.length+1)) y.length)).map (·.1)=Qi z y:=(numbered_texts s.toks (P4 z (OQ z y 0 z.length (z.length+1)) y.length)).trans ((if_neg (ne_true_of_eq_false c1)).trans (if_neg (ne_true_of_eq_false c2))).symm;refine fin (numbered s.toks _) _ e ?_;have e2:=congrArg Sv (numbered_texts s.toks (P4 z (OQ z y 0 z.length (z.length+1)) y.length));rw[OV] at e2;rw[e2];exact np
  .exact QO QC (Rw _ _ _) Rf (Q3 _ _) (meets_str_split_not_found z y t t' c1 hy c2) (fin [(z,t)] s.toks ((if_neg (ne_true_of_eq_false c1)).trans (if_pos c2)).symm (by show 1<=NS;decide))
 .exact QO QC (Rw _ _ _) Rf (Q3 _ _) (meets_str_split_cannot_occur z y t t' c1) (fin [(z,t)] s.toks (if_pos c1).symm (by show 1<=NS;decide))
end
end L2
namespace D
open PySem PySem.Spec PyProof.Rows L2
section
variable {X:Cx}{pos:Pos}
def jB:NG->NG->Option NG
 |.str z,.str y=>if (y.length == 0)=false/\z.length+2<=NS then some (.list ((Qi z y).map .str)) else none
 |_,_=>none
structure Ini(P:Og)(w:Ow)(K:Frag)(mg:Str->Option NK)(base:Heap)(C:Addr)(ps:List Str)(k:Nat)(sp:Sp):Prop where
 ex:∃f fd,FnOk P w K mg base CX0 k f fd ps sp/\L2.Binds K fd ps []/\Mk K C f
structure DfM(K:Frag)(C:Addr)(name qual:Str)(st:Stmt):Prop where
 ex:∃(f:Addr) (oc:NK) (od an:Option Addr) (sl:Array (Option NK)) (kV dc pm cd ct:NK),Pc K (.ref C) name=some (some (.ref f)) /\
  K.lookup f=some ⟨oc,od,.func (Po name qual (eO st) (dA st) (bM st) .none kV dc pm an cd ct),sl⟩/\QM K cd qual=true/\Ph K (.ref f)=true/\RR K (.ref f)=true
theorem pJ{P:Og}{w:Ow}:∀{kvs:List (Key×V)}{vs:List (Key×NK)}{us:List NK},KV kvs vs->us.length=vs.length->(∀(j:Nat) (v:NK),us[j]? = some v->∃k x,vs[j]? = some (k,x)/\(cb P w).is k v=true)->Vals (kvs.map fun p=>kV p.1) us
 |[],[],[],_,_,_=>.nil
 |_::_,[],_,r,_,_=>by cases r
 |[],_::_,_,r,_,_=>by cases r
 |_,[],_::_,_,h,_=>by simp at h
 |_,_::_,[],_,h,_=>by simp at h
 |(k,v)::kvs,(k',x)::vs,u::us,r,h,f=>by
  cases r with
  |cons r1 r2=>
   refine .cons ?_ (pJ (P:=P) (w:=w) r2 (by simpa using h) fun j v e=>?_)
   .obtain⟨k2,x2,e2,e3⟩:=f 0 u rfl
    cases e2;have:k=k':=r1.1;subst this;exact keyV e3
   .obtain⟨k2,x2,e2,e3⟩:=f (j+1) v (by simpa using e)
    exact⟨k2,x2,by simpa using e2,e3⟩
theorem Aa(hcm:X.calm=true):CallR X (.type "list") (fun xs H Q=>∃a kvs,xs=[V.ref a]/\Rd H a (.dK kvs)/\∀l,H l=none->Q (.ref l) (upd H l (.lst (kvs.map fun p=>kV p.1)))):=by
 intro pins s σ H xs us Q I r h;obtain⟨a,kvs,rfl,ha,q⟩:=h;obtain⟨u,rfl,ru⟩:=vals1 r;cases ru;obtain⟨z,y,vs,kv,dd⟩:=fB I.hok ha;obtain⟨ep,dd⟩:=dd.dictAt;have hl:=kv.length;refine PySem.W.kdl_call (Vb (prog:=X.prog) (w:=X.w) (knd:=cb X.prog X.w) (kvs:=vs) (ep:=ep) y) (I.ok.hd hcm) dd (by omega) fun h' tk acc c k1 k2 k3=>?_;have hv:Vals (kvs.map fun p=>kV p.1) acc.toList:=pJ (P:=X.prog) (w:=X.w) kv (by rw[Pf];exact k3.1) fun j v e=>k3.2 j v (by simpa using e);have hn:H s.heap.objs.size=none:=I.hok.fresh (NT _);exact⟨.ref s.heap.objs.size,_,I.laid (t':=tk) (o:=.lst (kvs.map fun p=>kV p.1)) k1 (NT _) ⟨by simp;omega,acc.toList,c,hv,by simpa using k2⟩,rfl,q _ hn⟩
def eX(ds:List (NG×NG)):List PyData:=ds.map (·.1)
theorem pP{K:Frag}{O:Addr->Prop}{H:Hp}{O':Addr->Prop}{H':Hp}:∀{kvs:List (Key×V)}{ds:List (NG×NG)},RepK K O H kvs ds->Reps K O' H' (kvs.map fun p=>kV p.1) (eX ds)
 |_,_,.nil=>.nil
 |_,_,.cons (k:=k) _ t=>.cons (wm k) (pP t)
def i8:List NG->Option NG
 |[.list xs]=>some (.list xs)
 |[.tuple xs]=>some (.list xs)
 |[.dict ds]=>some (.list (eX ds))
 |_=>none
theorem xj(hcm:X.calm=true:=by rfl):eY X (.type "list") i8:=⟨_,call_list_of.or (Aa hcm),fun O ts H T vs xs d Q hc h e q=>by
 unfold i8 at e;split at e
 .cases e
  obtain⟨v,rfl,g⟩:=cU h;obtain⟨a,vs,rfl,t,r⟩:=g.lst;exact .inl ⟨a,vs,rfl,.inl t,fun p hp=>q _ _ (.new hp _) (hc.new hp _) (hc.newL hp r)⟩
 .cases e
  obtain⟨v,rfl,g⟩:=cU h;obtain⟨a,vs,rfl,t,r⟩:=g.tup;exact .inl ⟨a,vs,rfl,.inr t.sq,fun p hp=>q _ _ (.new hp _) (hc.new hp _) (hc.newL hp r)⟩
 .cases e
  obtain⟨v,rfl,g⟩:=cU h;obtain⟨a,kvs,rfl,t,r⟩:=g.dct;exact .inr ⟨a,kvs,rfl,t,fun p hp=>q _ _ (.new hp _) (hc.new hp _) (hc.newL hp (pP r))⟩
 .cases e⟩
end
theorem xZ:∀a b:List Nat,RD a b=false->RD b a=false->a=b
 |[],[],_,_=>rfl
 |[],_::_,h,_=>by simp[RD] at h
 |_::_,[],_,h=>by simp[RD] at h
 |x::r,y::t,h,g=>by
  simp[RD] at h g
  have:x=y:=by omega
  subst this;rw[xZ r t (by simpa using h) (by simpa using g)]
theorem wH:∀a b:List Nat,RD a b=true->RD b a=false
 |[],[],h=>by simp[RD] at h
 |[],_::_,_=>rfl
 |_::_,[],h=>by simp[RD] at h
 |x::r,y::t,h=>by
  simp[RD] at h ⊢
  rcases h with h|h
  .omega
  .refine⟨by omega,fun e=>?_⟩
   exact wH r t h.2
theorem uz:∀a b c:List Nat,RD b a=false->RD c b=false->RD c a=false
 |a,[],c,h,g=>by
  cases a with
  |nil=>exact g
  |cons x r=>simp[RD] at h
 |[],b,c,h,g=>by cases c <;> rfl
 |x::r,y::t,[],h,g=>by simp[RD] at g
 |x::r,y::t,z::u,h,g=>by
  simp[RD] at h g ⊢;refine⟨by omega,fun e=>?_⟩;subst e
  by_cases q:z=y
  .subst q
   exact uz r t u (h.2 rfl) (g.2 rfl)
  .exfalso
   omega
def leS(a b:Str):Bool:=!ltCps b.cps.toList a.cps.toList
theorem EE(a b:Str):leS a b=true\/leS b a=true:=by
 unfold leS
 cases h:RD b.cps.toList a.cps.toList with
 |false=>exact .inl rfl
 |true=>
  refine .inr ?_
  cases g:RD a.cps.toList b.cps.toList with
  |false=>rfl
  |true=>
   exfalso;have:=wH _ _ h;rw[g] at this;cases this
theorem CO{a b:Str}(h:leS a b=true)(g:leS b a=true):a=b:=by
 unfold leS at h g;have:=xZ a.cps.toList b.cps.toList (by simpa using g) (by simpa using h);cases a;cases b;simp at this;rw[this]
theorem uB{a b c:Str}(h:leS a b=true)(g:leS b c=true):leS a c=true:=by
 unfold leS at *;have:=uz a.cps.toList b.cps.toList c.cps.toList (by simpa using h) (by simpa using g);rw[this];rfl
def jg(x:Str):List Str->List Str
 |[]=>[x]
 |y::r=>if leS x y=true then x::y::r else y::jg x r
def bS:List Str->List Str
 |[]=>[]
 |x::r=>jg x (bS r)
theorem pX(x:Str):∀l:List Str,(jg x l).Perm (x::l)
 |[]=>.refl _
 |y::r=>by
  unfold jg;split
  .exact .refl _
  .exact((pX x r).cons y).trans (.swap _ _ _)
theorem gS:∀l:List Str,(bS l).Perm l
 |[]=>.refl _
 |x::r=>(pX x _).trans ((gS r).cons x)
theorem tw(x:Str):∀l:List Str,l.Pairwise (fun a b=>leS a b=true)->(jg x l).Pairwise (fun a b=>leS a b=true)
 |[],_=>by simp[jg]
 |y::r,h=>by
  obtain⟨h1,h2⟩:=PZ.mp h;unfold jg;split
  .rename_i hx
   refine PZ.mpr ⟨fun z hz=>?_,h⟩
   rcases NR.mp hz with e|e
   .rw[e];exact hx
   .exact uB hx (h1 z e)
  .rename_i hx
   refine PZ.mpr ⟨fun z hz=>?_,tw x r h2⟩
   rcases NR.mp ((pX x r).mem_iff.mp hz) with e|e
   .rw[e];exact(EE x y).resolve_left hx
   .exact h1 z e
theorem oX:∀l:List Str,(bS l).Pairwise (fun a b=>leS a b=true)
 |[]=>.nil
 |x::r=>tw x _ (oX r)
theorem ph:∀{a b:List Str},a.Perm b->a.Pairwise (fun a b=>leS a b=true)->b.Pairwise (fun a b=>leS a b=true)->a=b
 |[],b,p,_,_=>(List.nil_perm.mp p).symm
 |x::r,[],p,_,_=>absurd (List.perm_nil.mp p) (by simp)
 |x::r,y::t,p,h,g=>by
  obtain⟨h1,h2⟩:=PZ.mp h;obtain⟨g1,g2⟩:=PZ.mp g
  have e:x=y:=by
   rcases NR.mp (p.mem_iff.mp NI) with e|e
   .exact e
   .rcases NR.mp (p.mem_iff.mpr NI) with e' | e'
    .exact e'.symm
    .exact CO (h1 y e') (g1 x e)
  subst e;rw[ph (List.perm_cons _ |>.mp p) h2 g2]
theorem ut:∀(x:Str) (l:List Str),risingS x l=true->(x::l).Pairwise (fun a b=>leS a b=true)
 |x,[],_=>by simp
 |x,y::r,h=>by
  have h':leS x y=true/\risingS y r=true:=by
   unfold leS;simpa[risingS] using h
  have ih:=ut y r h'.2;refine PZ.mpr ⟨fun z hz=>?_,ih⟩
  rcases NR.mp hz with e|e
  .rw[e];exact h'.1
  .exact uB h'.1 ((PZ.mp ih).1 z e)
theorem tK{l:List Str}(h:sortedS l=true):l.Pairwise (fun a b=>leS a b=true):=by
 cases l with
 |nil=>exact .nil
 |cons x r=>exact ut x r h
theorem qg:∀{ss:List Str}{us:List NK},Vals (ss.map V.str) us->StrsAre us ss
 |[],_,h=>by cases h;exact .nil
 |x::r,_,h=>by
  cases h with
  |cons h1 h2=>
   obtain⟨t,rfl⟩:=h1;exact .cons x t (qg h2)
theorem pB:∀{us:List NK}{ss:List Str},StrsAre us ss->Vals (ss.map V.str) us
 |_,_,.nil=>.nil
 |_,_,.cons y t r=>.cons ⟨t,rfl⟩ (pB r)
section
variable {X:Cx}{pos:Pos}
theorem AG:CallR X (.builtin "sorted") (fun xs H Q=>∃p ss,xs=[V.ref p]/\SqL X.K H p (ss.map V.str)/\ss.length<64/\∀l,H l=none->Q (.ref l) (upd H l (.lst ((bS ss).map V.str)))):=by
 intro pins s σ H xs us Q I r h;obtain⟨p,ss,rfl,hq,hlen,q⟩:=h;obtain⟨u,rfl,ru⟩:=vals1 r;cases ru;obtain⟨its,rv,pl,hz⟩:=I.list hq
 have hl:its.length=ss.length:=by have:=rv.length;simpa using this.symm
 refine sorted_strs pl.isList (qg rv) (by omega) fun out ss' h1 h2 h3=>?_;have e:ss'=bS ss:=ph (h2.trans (gS ss).symm) (tK h3) (oX ss);subst e;obtain⟨ep,he⟩:=sortedAll_at s.heap its out;have k:∀b o,s.heap.get? b=some o->(sortedAll s.heap its out).get? b=some o:=fun b o z=>sortedAll_old z;have hn:H (s.heap.objs.size+1)=none:=I.hok.fresh (TN _);have hlen2:(bS ss).length=ss.length:=(gS ss).length_eq;exact⟨.ref (s.heap.objs.size+1),_,I.laid (t':=s.toks) (o:=.lst ((bS ss).map V.str)) k (TN _) ⟨by simp;exact Qx (Oj (by omega:(bS ss).length<64) (by decide)),out.toList,ep,pB h1,by simpa[WB] using he⟩,rfl,q _ hn⟩
def i4(o:Option (List Str)):Option PyData:=match o with
 |some ss=>if ss.length<64 then some (.list ((bS ss).map .str)) else none
 |none=>none
def lG:List NG->Option NG
 |[.list xs]=>i4 (dE xs)
 |_=>none
theorem Dr:eY X (.builtin "sorted") lG:=⟨_,AG,fun O ts H T vs xs d Q hc h e q=>by
 unfold lG at e;split at e
 .rename_i ys
  unfold i4 at e;split at e
  .rename_i ss hs
   split at e
   .rename_i hl
    cases e;obtain⟨v,rfl,g⟩:=cU h;obtain⟨a,vs,rfl,t,r⟩:=g.lst;have:=m8 r hs;subst this;exact⟨a,ss,rfl,t,hl,fun p hp=>q _ _ (.new hp _) (hc.new hp _) (hc.newL hp (mC _))⟩
   .cases e
  .cases e
 .cases e⟩
end
theorem BR{prog:Og}{w:Ow}{A:OD}{E:NK->NL->Prop}{s:NL}{Q:Int->NL->Prop}(h:Q (Vc 4238894112) { s with toks:=s.toks+1 }):Oo (Ot prog w) A (pyHash .none) Q E s:=by
 show Oo (Ot prog w) A (pyHashByItsType .none) Q E s;refine PySem.W.pyHash_slot (T:="NoneType") (by first|rfl|trivial|exact⟨_,rfl⟩|simp[Shared.TypeIs]) PySem.F.slot_NoneType_hash PySem.F.entry_NoneType_hash (PySem.F.args_NoneType_hash_1 _) rfl (.inl rfl) ?_;unfold PySem.Builtin.«NoneType.__hash__»;refine NP ?_;unfold slotArgs;simp only[];rw[if_neg (by decide),if_neg (by decide)];refine Oa ?_;unfold retInt;refine NP ?_
 first
  |exact wpAny_mkInt (Oa ⟨_,_,rfl,h⟩)
  |exact wpAny_mkInt (wpAny_ret ⟨_,_,rfl,h⟩)
def zD:Option Key->NK->Bool
 |none,.none=>true
 |none,_=>false
 |some k,v=>fu k v
def okH(w:Ow):Option Key->Int
 |none=>Vc 4238894112
 |some k=>zG w k
theorem ff{k:Option Key}{v:NK}(h:zD k v=true):(k=none/\v=.none)\/(∃i t,k=some (.inl i)/\v=.int i t)\/∃x t,k=some (.inr x)/\v=.str x t:=by
 cases k with
 |none=>cases v <;> first|exact .inl ⟨rfl,rfl⟩|cases h
 |some k=>
  rcases eK (show fu k v=true from h) with⟨i,t,rfl,rfl⟩|⟨x,t,rfl,rfl⟩
  .exact .inr (.inl ⟨i,t,rfl,rfl⟩)
  .exact .inr (.inr ⟨x,t,rfl,rfl⟩)
theorem vK(k:Key):decide ((none:Option Key)=some k)=false:=decide_eq_false (fun q=>nomatch q)
theorem uJ(k:Key):decide (some k=(none:Option Key))=false:=decide_eq_false (fun q=>nomatch q)
theorem mU(a b:Key):decide (some a=some b)=decide (a=b):=by
 by_cases h:a=b
 .subst h;simp
 .rw[decide_eq_false h,decide_eq_false (fun q=>h (OL q))]
def qD(prog:Og)(w:Ow):V4 prog w (Option Key) where
 is:=zD
 hash:=okH w
 inj:=fun v a b ha hb=>by
  rcases ff ha with⟨rfl,rfl⟩|⟨i,t,rfl,rfl⟩|⟨x,t,rfl,rfl⟩
  .rcases ff hb with⟨rfl,_⟩|⟨j,u,rfl,e⟩|⟨y,u,rfl,e⟩
   .rfl
   .exact nomatch e
   .exact nomatch e
  .rcases ff hb with⟨rfl,e⟩|⟨j,u,rfl,e⟩|⟨y,u,rfl,e⟩
   .exact nomatch e
   .injection e with e1 _;rw[e1]
   .exact nomatch e
  .rcases ff hb with⟨rfl,e⟩|⟨j,u,rfl,e⟩|⟨y,u,rfl,e⟩
   .exact nomatch e
   .exact nomatch e
   .injection e with e1 _;rw[e1]
 byValue:=fun k v h=>by
  rcases ff h with⟨rfl,rfl⟩|⟨i,t,rfl,rfl⟩|⟨x,t,rfl,rfl⟩ <;> rfl
 pyHash:=fun hv h=>by
  rcases ff hv with⟨rfl,rfl⟩|⟨i,t,rfl,rfl⟩|⟨x,t,rfl,rfl⟩
  .exact BR h
  .exact UW h
  .exact UX h
 eqBool:=fun hu hv h=>by
  rcases ff hu with⟨rfl,rfl⟩|⟨i,t,rfl,rfl⟩|⟨x,t,rfl,rfl⟩
  .rcases ff hv with⟨rfl,rfl⟩|⟨j,u,rfl,rfl⟩|⟨y,u,rfl,rfl⟩
   .rw[show decide ((none:Option Key)=none)=true by simp] at h;exact Vo .none _ _ _ _ h
   .rw[vK] at h;exact Ub j u _ _ _ _ h
   .rw[vK] at h;exact Uc y u _ _ _ _ h
  .rcases ff hv with⟨rfl,rfl⟩|⟨j,u,rfl,rfl⟩|⟨y,u,rfl,rfl⟩
   .rw[uJ] at h;exact Ud i t _ _ _ _ h
   .rw[mU,ya] at h;exact UY h
   .rw[mU,x9] at h;exact RW i t y u _ _ _ _ h
  .rcases ff hv with⟨rfl,rfl⟩|⟨j,u,rfl,rfl⟩|⟨y,u,rfl,rfl⟩
   .rw[uJ] at h;exact Ue x t _ _ _ _ h
   .rw[mU,x8] at h;exact RX x t j u _ _ _ _ h
   .rw[mU,x6] at h;exact UZ h
 «strs»:=fun k x t v h=>by
  rcases ff h with⟨rfl,e⟩|⟨i,u,rfl,e⟩|⟨y,u,rfl,e⟩
  .exact nomatch e
  .exact nomatch e
  .injection e with e1 _
   subst e1
   cases v <;> rfl
theorem ux{P:Og}{w:Ow}:∀{es:List U6}{vs:List (Key×NK)},Pairs (cb P w) es vs->Pairs (qD P w) es (vs.map fun p=>(some p.1,p.2))
 |_,_,.nil=>.nil
 |_,_,.cons h1 h2 t=>.cons h1 h2 (ux t)
theorem Da{P:Og}{w:Ow}{h:Heap}{a:Addr}{vs:List (Key×NK)}(d:h.DictOf (cb P w) a vs):h.DictOf (qD P w) a (vs.map fun p=>(some p.1,p.2)):=by
 obtain⟨o,es,ep,e1,e2,e3,e4,e5,e6⟩:=d;refine⟨o,es,ep,e1,e2,e3,fun e he=>?_,ux e5,?_⟩
 .obtain⟨k,k1,k2⟩:=e4 e he
  exact⟨some k,k1,k2⟩
 .rw[Pt]
  show (vs.map fun p=>some p.1).Nodup
  have:(vs.map fun p=>some p.1)=(vs.map (·.1)).map some:=by rw[Pt];rfl
  rw[this];exact List.pairwise_map.mpr (WR (fun h q=>h (OL q)) e6)
theorem uW:∀(vs:List (Key×NK)),Sy (vs.map fun p=>((some p.1:Option Key),p.2)) none=none
 |[]=>rfl
 |p::r=>by
  have:=uW r;unfold Sy at this ⊢;rw[Oi,Pd];simpa using this
section
variable {X:Cx}
theorem AW:OpR X (Oh .In) (fun x y H Q=>∃a kvs,x=.non/\y=.ref a/\Rd H a (.dK kvs)/\Q (.bl false) H):=by
 intro pins s σ H x y v u Q I rx ry h;obtain⟨a,kvs,rfl,rfl,e,q⟩:=h;cases (show v=Ur from rx);cases (show u=OT a from ry);obtain⟨z,hd,vs,rel,dd⟩:=fB I.hok e;refine wpAny_in_of (knd:=qD X.prog X.w) (k:=none) rfl hd (Da dd).mapOf ?_;rw[uW];exact⟨.bl false,H,I.tok _,rfl,q⟩
theorem Gs{k:Nat}(hr:Room k X.A):OpR X (Oh .In) (fun x y H Q=>∃a kvs s,x=.str s/\y=.ref a/\Rd H a (.dK kvs)/\Q (.bl (bV kvs (OP s:Key)).isSome) H):=by
 intro pins s σ H x y v u Q I rx ry h;obtain⟨a,kvs,z,rfl,rfl,e,q⟩:=h;cases (show u=OT a from ry);exact zJ (i9 hr) I (DGet.rd (k:=OP z) e) (show RelV (kV (OP z)) v from rx) fun s' I'=>⟨.bl _,H,I',rfl,q⟩
theorem BB{k:Nat}(hr:Room k X.A):OpR X (Oh .NotIn) (fun x y H Q=>∃a kvs s,x=.str s/\y=.ref a/\Rd H a (.dK kvs)/\Q (.bl (!(bV kvs (OP s:Key)).isSome)) H):=by
 intro pins s σ H x y v u Q I rx ry h;obtain⟨a,kvs,z,rfl,rfl,e,q⟩:=h;cases (show u=OT a from ry);exact E9 (i9 hr) I (DGet.rd (k:=OP z) e) (show RelV (kV (OP z)) v from rx) fun s' I'=>⟨.bl _,H,I',rfl,q⟩
theorem GJ{k:Nat}(hr:Room k X.A):IxR X (fun x y H Q=>∃a kvs s v,x=.ref a/\y=.str s/\Rd H a (.dK kvs)/\bV kvs (OP s:Key)=some v/\Q v H):=by
 intro value slice pins s σ H x y v u Q I rx ry h hs;obtain⟨a,kvs,z,v0,rfl,rfl,e,l,q⟩:=h;cases (show v=OT a from rx)
 have g:DGet H a (kV (OP z)) (some v0):=by rw[←l];exact DGet.rd e
 unfold SF;refine NP ?_;rw[Tt (pq I g).not_modules];refine NP (Vq (pq I g) Sj.lookup ?_)
 have fin:Oo (Ot X.prog X.w) X.A (Sx slice false (OT a) u) (fun r s₃=>Oo (Ot X.prog X.w) X.A (letTemporaryGo value (OT a) r >>= fun _=>pure r) (EP X pins σ Q) X.xe s₃) X.xe s:=by
  rw[hs];exact Vr (uK (i9 hr) I g (show RelV (kV (OP z)) u from ry) fun w' s' I' rw'=>NP (TH (Oa ⟨v0,H,I',rw',q⟩)))
 first
  |exact Oa (NP fin)
  |exact NP (Oa (NP fin))
  |exact NP fin
def inK(s:NG)(ds:List (NG×NG)):Option Bool:=match s with
 |.str s=>some (aJ ds s).isSome
 |.none=>some false
 |_=>none
def inB(x y:NG):Option Bool:=match y with
 |.dict ds=>inK x ds
 |y=>inS x y
def inA(x y:NG):Option PyData:=(inB x y).map .bool
def li(x y:NG):Option PyData:=match x,y with
 |.str s,.dict ds=>some (.bool (!(aJ ds s).isSome))
 |_,.dict _=>none
 |x,y=>(inS x y).map fun b=>.bool (!b)
theorem Ig{k:Nat}(hr:Room k X.A):OpD X (Oh .In) inA:=⟨_,(op_in_str.or uy).or ((Gs hr).or AW),fun O ts H T v1 v2 x y d Q hc h1 h2 e q=>by
 unfold inA at e
 by_cases hd:∃ds,y=.dict ds
 .obtain⟨ds,rfl⟩:=hd
  obtain⟨a,kvs,rfl,t,r⟩:=h2.dct;obtain⟨b,hb,rfl⟩:=Ol.mp e;have hb':inK x ds=some b:=hb;unfold inK at hb';split at hb'
  .rename_i s
   cases hb';cases h1.str;refine .inr (.inl ⟨a,kvs,s,rfl,rfl,t,?_⟩)
   have e:(bV kvs (OP s:Key)).isSome=(aJ ds s).isSome:=by
    rcases gp (s:=s) r with⟨z1,z2⟩|⟨v,d,z1,z2,_⟩ <;> rw[z1,z2] <;> rfl
   rw[e];exact q _ H (.refl _ _) hc (.bl _)
  .cases hb'
   cases h1.non;exact .inr (.inr ⟨a,kvs,rfl,rfl,t,q _ H (.refl _ _) hc (.bl _)⟩)
  .cases hb'
 .have e':(inS x y).map .bool=some d:=by
   cases y with
   |dict ds=>exact absurd ⟨ds,rfl⟩ hd
   |_=>exact e
  exact .inl (nJ false O ts H T v1 v2 x y d Q hc h1 h2 e' q)⟩
theorem CD{k:Nat}(hr:Room k X.A):OpD X (Oh .NotIn) li:=⟨_,(op_notin_str.or sZ).or (BB hr),fun O ts H T v1 v2 x y d Q hc h1 h2 e q=>by
 by_cases hd:∃ds,y=.dict ds
 .obtain⟨ds,rfl⟩:=hd
  obtain⟨a,kvs,rfl,t,r⟩:=h2.dct
  cases x with
  |str s=>
   cases e;cases h1.str;refine .inr ⟨a,kvs,s,rfl,rfl,t,?_⟩
   have e:(bV kvs (OP s:Key)).isSome=(aJ ds s).isSome:=by
    rcases gp (s:=s) r with⟨z1,z2⟩|⟨v,d,z1,z2,_⟩ <;> rw[z1,z2] <;> rfl
   rw[e];exact q _ H (.refl _ _) hc (.bl _)
  |_=>cases e
 .have e':((inS x y).map fun b=>.bool (!b))=some d:=by
   cases y with
   |dict ds=>exact absurd ⟨ds,rfl⟩ hd
   |_=>cases x <;> exact e
  exact .inl (nJ true O ts H T v1 v2 x y d Q hc h1 h2 e' q)⟩
def ixA(x y:NG):Option PyData:=match x,y with
 |.dict ds,.str s=>aJ ds s
 |.dict _,_=>none
 |x,y=>ixD x y
theorem lF{k:Nat}(hr:Room k X.A):IxD X ixA:=by
 obtain⟨r0,h0,s0⟩:=aC (X:=X);refine⟨_,h0.or (GJ hr),fun O ts H T v1 v2 x y d Q hc h1 h2 e q=>?_⟩
 by_cases hd:∃ds,x=.dict ds
 .obtain⟨ds,rfl⟩:=hd
  obtain⟨a,kvs,rfl,t,r⟩:=h1.dct
  cases y with
  |str s=>
   have e':aJ ds s=some d:=e;cases h2.str
   rcases gp (s:=s) r with⟨z1,z2⟩|⟨v,d',z1,z2,rv⟩
   .rw[z1] at e';cases e'
   .rw[z1] at e'
    cases e';exact .inr ⟨a,kvs,s,v,rfl,rfl,t,z2,q _ H (.refl _ _) hc rv⟩
  |_=>cases e
 .refine .inl (s0 O ts H T v1 v2 x y d Q hc h1 h2 ?_ q)
  cases x with
  |dict ds=>exact absurd ⟨ds,rfl⟩ hd
  |_=>exact e
end
section
variable {X:Cx}{pins:List (Addr×Obj)}{σ:L2.St}{H H2:Hp}{s s2:NL}
theorem CZ(I:Inv X pins σ H s){a:Addr}{kvs:List (Key×V)}{o:Obj}(e:H a=some (.dK kvs))(I2:Inv X pins σ H2 s2)(e2:H2 a=some (.frz o (.dK kvs))):Inv X pins σ (upd H2 a (.dK kvs)) s2:=by
 have U:∀{b:Addr}{u:HO},H2 b=some u->(∀o ks,u≠.frz o ks)->upd H2 a (.dK kvs) b=some u:=fun {b u} q n=>by
  rw[aS (fun z=>by subst z;rw[e2] at q;cases q;exact n _ _ rfl)];exact q
 have N:∀{b:Addr},H2 b=none->upd H2 a (.dK kvs) b=none:=fun {b} q=>by
  rw[aS (fun z=>by subst z;rw[e2] at q;cases q)];exact q
 have hok:HOk X.prog X.w (upd H2 a (.dK kvs)) s2.heap:=fun b u q=>by
  by_cases hb:b=a
  .subst hb
   rw[bx] at q;cases q;exact ObjOk.stay (I2.hok b _ e2).2 (fun _ _ _ q=>q) (fun c q=>U q (fun _ _ z=>nomatch z)) fun c xs q=>U q (fun _ _ z=>nomatch z)
  .rw[aS hb] at q
   exact(I2.hok b u q).stay (fun _ _ _ q=>q) (fun c q=>U q (fun _ _ z=>nomatch z)) fun c xs q=>U q (fun _ _ z=>nomatch z)
 refine⟨I2.ok,I2.os,I2.bare,⟨I2.base.keep,I2.base.slot,fun b ob q n hx=>N (I2.base.free b ob q n hx),I2.base.there,fun b xs q=>U (I2.base.tups b xs q) (fun _ _ z=>nomatch z),fun b ob u q=>?_,fun b ps q=>?_⟩,I2.loc,I2.cell,N I2.free,fun x c q=>N (I2.freeC x c q),fun p hp=>?_,hok,I2.len⟩
 .have h1:=I.base.frzs b ob u q
  rw[aS (fun z=>by subst z;rw[e] at h1;cases h1)];exact I2.base.frzs b ob u q
 .obtain⟨more,h1⟩:=I2.base.tbls b ps q
  exact⟨more,U h1 (fun _ _ z=>nomatch z)⟩
 .obtain⟨k1,k2,k3⟩:=I2.pin p hp
  exact⟨k1,N k2,k3⟩
end
inductive Ln(P:Hp->VK->Prop):Hp->VK->Prop where
 |done {H:Hp}{Q:VK}:P H Q->Ln P H Q
 |frz {H:Hp}{Q:VK}{a:Addr}{kvs:List (Key×V)}:H a=some (.dK kvs)->(∀o,Ln P (upd H a (.frz o (.dK kvs))) (fun v H2=>H2 a=some (.frz o (.dK kvs))/\Q v (upd H2 a (.dK kvs))))->Ln P H Q
theorem HR{X:Cx}{e:Expr}{t:TE}(h:PE X e t):PE X e (fun σ H Q=>Ln (t σ) H Q):=fun pins s σ H Q I q=>by
 have key:∀{H:Hp}{Q:VK},Ln (t σ) H Q->Inv X pins σ H s->Oo (Ot X.prog X.w) X.A (eval e X.env) (EP X pins σ Q) X.xe s:=by
  intro H Q q
  induction q with
  |done q=>exact fun I=>h pins s σ _ _ I q
  |frz ea _ ih=>
   intro I;obtain⟨o,I'⟩:=wO I ea;refine thn (ih o I') fun u s' ⟨v,H2,I2,r,e2,q2⟩=>?_;exact⟨v,_,CZ I ea I2 e2,r,q2⟩
 exact key q I
section
variable {K:Frag}
theorem TupAt.keep{H H':Hp}(h:∀b o,H b=some o->(∀ks,o≠.dK ks)->(∀ob ks,o≠.frz ob (.dK ks))->H' b=some o){a:Addr}{vs:List V}(t:TupAt K (fun _=>False) H a vs):TupAt K (fun _=>False) H' a vs:=by
 rcases t with⟨n,t|⟨o,t⟩⟩|t
 .exact .inl ⟨n,.inl (h _ _ t (fun _ z=>nomatch z) (fun _ _ z=>nomatch z))⟩
 .exact .inl ⟨n,.inr ⟨o,h _ _ t (fun _ z=>nomatch z) (fun _ _ z=>nomatch z)⟩⟩
 .exact .inr t
mutual
theorem Rep.keep{H H':Hp}(h:∀b o,H b=some o->(∀ks,o≠.dK ks)->(∀ob ks,o≠.frz ob (.dK ks))->H' b=some o):∀{v:V}{d:NG},Rep K (fun _=>False) H v d->br d=true->Rep K (fun _=>False) H' v d
 |_,_,.non,_=>.non
 |_,_,.bl b,_=>.bl b
 |_,_,.int i,_=>.int i
 |_,_,.str x,_=>.str x
 |_,_,.tup t r,e=>.tup (t.keep h) (Reps.keep h r (by simpa[br] using e))
 |_,_,.lst t r,e=>by simp[br] at e
 |_,_,.dct n t r,e=>by simp[br] at e
theorem Reps.keep{H H':Hp}(h:∀b o,H b=some o->(∀ks,o≠.dK ks)->(∀ob ks,o≠.frz ob (.dK ks))->H' b=some o):∀{vs:List V}{ds:List NG},Reps K (fun _=>False) H vs ds->bW ds=true->Reps K (fun _=>False) H' vs ds
 |_,_,.nil,_=>.nil
 |_,_,.cons (d:=d) (ds:=ds) r t,e=>by
  have e':(br d&&bW ds)=true:=by simpa[bW] using e
  rw[NN] at e';exact .cons (Rep.keep h r e'.1) (Reps.keep h t e'.2)
end
end
def yR:W->Option W
 |.d x=>some (.d x)
 |.loc x=>some (.d x)
 |.tp _=>none
def dP(ρ:Rho):Rho:=ρ.map fun o=>o.bind yR
def Fz(O:Addr->Prop)(H0 H:Hp):Prop:=∀b,H b=H0 b\/∃kvs o,O b/\H0 b=some (.dK kvs)/\H b=some (.frz o (.dK kvs))
section
variable {K:Frag}{O:Addr->Prop}{ts:List Addr}{H0 H:Hp}{T:Tp}{σ:L2.St}{ρ:Rho}
theorem CN(re:RelE K O ts H0 σ ρ)(fz:Fz O H0 H)(all:∀(j:Nat) (a:Addr) (ds:List (NG×NG)),ρ[j]? = some (some (.loc (.dict ds)))->σ[j]? = some (some (.ref a))->∃o kvs,H a=some (.frz o (.dK kvs))):RelE K (fun _=>False) [] H σ (dP ρ):=by
 have le:Le O H0 (fun _=>False) H:=fun b o n e=>⟨fun z=>z,by
  rcases fz b with q|⟨_,_,q,_,_⟩
  .rw[q];exact e
  .exact absurd q n⟩
 intro i w e;unfold dP at e;rw[OS] at e
 cases hu:ρ[i]? with
 |none=>rw[hu] at e;cases e
 |some u=>
  cases u with
  |none=>rw[hu] at e;cases e
  |some u=>
   rw[hu] at e;have e':yR u=some w:=OL e;obtain⟨v,h1,h2⟩:=re i u hu
   cases u with
   |d x=>cases e';exact⟨v,h1,Rep.mono le h2⟩
   |tp k=>cases e'
   |loc x=>
    cases e';obtain⟨a,rfl,k1,k2,k3⟩:=h2;refine⟨_,h1,?_⟩
    cases x with
    |list xs=>
     obtain⟨vs,k3,k4⟩:=k3;refine .lst (.inl ⟨fun z=>z,.inl ?_⟩) (k4.mono le)
     rcases fz a with q|⟨_,_,_,q,_⟩
     .rw[q];exact k3
     .rw[k3] at q;cases q
    |dict ds=>
     obtain⟨kvs,k3,k4⟩:=k3;obtain⟨o,kvs',h3⟩:=all i a ds hu h1
     rcases fz a with q|⟨kvs2,o2,_,q,q2⟩
     .rw[q,k3] at h3;cases h3
     .rw[k3] at q
      cases q;exact .dct (fun z=>z) q2 (k4.mono le)
    |_=>cases k3
theorem nq{P:Hp->VK->Prop}{x:NG}(hx:br x=true)(re:RelE K O ts H0 σ ρ)(fin:∀H Q,RelE K (fun _=>False) [] H σ (dP ρ)->(∀v H2,SameX [] H H2->Rep K (fun _=>False) H2 v x->Q v H2)->P H Q):∀(k:Nat) {H:Hp}{Q:VK},Fz O H0 H ->
  (∀(j:Nat) (a:Addr) (ds:List (NG×NG)),k<=j->ρ[j]? = some (some (.loc (.dict ds)))->σ[j]? = some (some (.ref a))->∃o kvs,H a=some (.frz o (.dK kvs)))->(∀v H2,SameX [] H H2->Rep K (fun _=>False) H2 v x->Q v H2)->Ln P H Q
 |0,H,Q,fz,all,q=>.done (fin H Q (CN re fz fun j a ds=>all j a ds (Pi _)) q)
 |k+1,H,Q,fz,all,q=>by
  by_cases h:∃ds,ρ[k]? = some (some (.loc (.dict ds)))
  .obtain⟨ds,h⟩:=h
   obtain⟨v,h1,a,rfl,k1,k2,kvs,k3,k4⟩:=re k _ h
   rcases fz a with z|⟨kvs2,o2,_,z,z2⟩
   .rw[k3] at z
    refine .frz z fun o=>nq hx re fin k (fun b=>?_) (fun j b es hj e1 e2=>?_) (fun v H2 s2 r=>?_)
    .by_cases hb:b=a
     .subst hb;exact .inr ⟨kvs,o,k1,k3,bx⟩
     .rw[aS hb];exact fz b
    .by_cases hb:b=a
     .subst hb;exact⟨o,kvs,bx⟩
     .rw[aS hb]
      by_cases hk:k=j
      .subst hk;rw[h1] at e2;cases e2;exact absurd rfl hb
      .exact all j b es (by omega) e1 e2
    .have ha:H2 a=some (.frz o (.dK kvs)):=s2 a _ (by simp) bx
     refine⟨ha,q v _ (fun b ob _ e=>?_) (Rep.keep (fun b ob e n1 n2=>?_) r hx)⟩
     .by_cases hb:b=a
      .subst hb;rw[z] at e;cases e;exact bx
      .rw[aS hb]
       exact s2 b ob (by simp) (by rw[aS hb];exact e)
     .have hb:b≠a:=fun z=>by subst z;rw[ha] at e;cases e;exact n2 _ _ rfl
      rw[aS hb];exact e
   .refine nq hx re fin k fz (fun j b es hj e1 e2=>?_) q
    by_cases hk:k=j
    .subst hk;rw[h1] at e2;cases e2;exact⟨o2,kvs2,z2⟩
    .exact all j b es (by omega) e1 e2
  .refine nq hx re fin k fz (fun j b es hj e1 e2=>?_) q
   by_cases hk:k=j
   .subst hk;exact absurd ⟨es,e1⟩ h
   .exact all j b es (by omega) e1 e2
end
def om(T:Tp)(o:Option (W×Tp)):Option (W×Tp):=match o with
 |some (.d x,_)=>if br x=true then some (.d x,T) else none
 |_=>none
def lR(f:FE):FE:=fun ρ T=>om T (f (dP ρ) [])
theorem E6{X:Cx}{e:Expr}{f:FE}(he:DE X e f):DE X e (lR f):=by
 refine⟨bD (HR he.pe) fun σ H Q=>?_⟩;rintro⟨O,ts,ρ,T,w,T',hc,re,e,q⟩;unfold lR om at e;split at e
 .rename_i x T1 h1
  split at e
  .rename_i hx
   cases e;refine nq hx re (fun H1 Q1 re1 q1=>⟨fun _=>False,[],dP ρ,[],.d x,T1,⟨fun b hb=>(by cases hb),fun b hb=>hb.elim,Sg,rfl,fun i a xs e1 _=>by simp at e1⟩,re1,h1,fun v H2 s2 _ r2=>q1 v H2 s2 r2⟩) ρ.length (fun b=>.inl rfl) (fun j a ds hj e1 _=>?_) (fun v H2 s2 r2=>?_)
   .rw[Rr hj] at e1;cases e1
   .have s2':SameX ts H H2:=fun b o _ q=>s2 b o (by simp) q
    have hm:∀b,O b->Mut (H2 b):=fun b hb=>(hc.trk b hb).to fun u z=>s2 b _ (by simp) z
    have hc2:=hc.step s2' fun b hb=>by
     obtain⟨u,z⟩:=(hc.trk b (hc.own b hb)).ex;rw[z];exact s2 b _ (by simp) z
    exact q v H2 s2' hc2 (Rep.own hm r2 hx)
  .cases e
 .cases e
section
variable {X:Cx}{pos:Pos}{e:Expr}{fe:FE}
def jR(i:Nat):FS:=fun ρ T=>some ((.nx,ρ.set i (some (.loc (.dict [])))),T)
theorem wV{i:Nat}{x:Str}{pos' dpos:Pos}(hN:X.N.Nodup)(hi:X.N[i]? = some x:=by rfl)(hx:Loc X.env.scope x:=by first|exact Pj rfl|exact OY rfl)
  (hs:PN (.Dict [] [] dpos) (some (.Name x pos')) pos.line X.env=pure false:=by rfl) (hf:X.fn x=true\/X.env.scope.names.lookup x=some .local:=by first|exact .inl rfl|exact .inr rfl|assumption):DS X (.Assign [.Name x pos'] (.Dict [] [] dpos) pos) (jR i):=by
 refine⟨?_⟩;refine cz (gx hN hi hx vi hs hf) fun D σ H=>?_;rintro⟨O₀,H₀,F,ts,O,ρ,T,fl,ρ',T',rs,e,q⟩;cases e;intro p hp;exact q _ _ _ (rs.ownO hp (.inr (.inl ⟨_,rfl⟩)) fun le=>⟨[],bx,.nil⟩)
theorem Bg:CallR X (.type "dict") (fun xs H Q=>∃a kvs,xs=[V.ref a]/\Rd H a (.dK kvs)/\∀p,H p=none->Q (.ref p) (upd H p (.dK kvs))):=by
 intro pins s σ H xs us Q I r h;obtain⟨a,kvs,rfl,ha,q⟩:=h;obtain⟨u,rfl,ru⟩:=vals1 r;cases ru;exact Dk I ha fun p s' hp I'=>⟨.ref p,_,I',rfl,q p hp⟩
def mf(o:Option NG):Option (List (NG×NG)):=match o with
 |some (.dict ds)=>some ds
 |_=>none
def nK(i:Nat)(ρ:Rho)(o:Option (List (NG×NG)))(T:Tp):Option ((Fl×Rho)×Tp):=match o with
 |some ds=>some ((.nx,ρ.set i (some (.loc (.dict ds)))),T)
 |none=>none
def nU(i:Nat)(f:FE):FS:=fun ρ T=>bnd (f ρ T) fun w T1=>nK i ρ (mf (view T1 w)) T1
theorem E8{o:Option NG}{ds:List (NG×NG)}(h:mf o=some ds):o=some (.dict ds):=by
 unfold mf at h;split at h
 .cases h;rfl
 .cases h
theorem C8{i:Nat}{x:Str}{p pos' cpos:Pos}(hm:X.mg "dict"=none)(hN:X.N.Nodup)(he:DE X e fe)(hi:X.N[i]? = some x:=by rfl)(hx:Loc X.env.scope x:=by first|exact Pj rfl|exact OY rfl)(hg:Gl X "dict":=by rfl)
  (hse:NU [e] X.env=(false,eval e X.env)::NU [] X.env:=by exact bC rfl) (hpl:(O4 cpos (NU [] X.env)).any (·.1)=false:=by exact cJ rfl)
  (hs:PN (.Call (.Name "dict" p) [e] [] cpos) (some (.Name x pos')) pos.line X.env=pure false:=by rfl) (hf:X.fn x=true\/X.env.scope.names.lookup x=some .local:=by first|exact .inl rfl|exact .inr rfl|assumption) :
  DS X (.Assign [.Name x pos'] (.Call (.Name "dict" p) [e] [] cpos) pos) (nU i fe):=by
 refine⟨?_⟩;refine cz (gx hN hi hx (pS Bg hg hm boot_dict (dz he.pe di hse) (by decide) (by decide) hse hpl) hs hf) fun D σ H=>?_;rintro⟨O₀,H₀,F,ts,O,ρ,T,fl,ρ',T',rs,e,q⟩;obtain⟨w,T1,e1,e⟩:=aP e;unfold nK at e;split at e
 .rename_i ds hd
  cases e;have hv:=E8 hd;refine⟨O,ts,ρ,T,w,_,rs.hc,rs.re,e1,fun v H1 s1 hc1 r1=>?_⟩;obtain⟨a,kvs,rfl,t,r⟩:=(hc1.view r1 hv).dct;exact⟨a,kvs,rfl,t,fun p hp=>q _ _ _ ((rs.step s1 hc1).ownO (xs:=.dict ds) hp (.inr (.inl ⟨_,rfl⟩)) fun le=>⟨kvs,bx,r.mono le⟩)⟩
 .cases e
def putN(ds:List (NG×NG))(s:Str)(x:NG):List (NG×NG):=if (aJ ds s).isSome=true then dh ds s x else ds++[(.str s,x)]
theorem RepK.app{K:Frag}{O:Addr->Prop}{H:Hp}{s:Str}{v:V}{x:NG}(rx:Rep K O H v x):∀{kvs:List (Key×V)}{ds:List (NG×NG)},RepK K O H kvs ds->RepK K O H (kvs++[(OP s,v)]) (ds++[(.str s,x)])
 |_,_,.nil=>.cons (k:=OP s) rx .nil
 |_,_,.cons r t=>.cons r (RepK.app rx t)
theorem D5{K:Frag}{O:Addr->Prop}{H:Hp}{s:Str}{v:V}{x:NG}(rx:Rep K O H v x){kvs:List (Key×V)}{ds:List (NG×NG)}(r:RepK K O H kvs ds):RepK K O H (putK kvs (OP s) v) (putN ds s x):=by
 unfold putN
 rcases gp (s:=s) r with⟨z1,z2⟩|⟨v',d',z1,z2,_⟩
 .rw[z1,if_neg (by simp),Cm v z2]
  exact r.app rx
 .rw[z1,if_pos (show (some d').isSome=true by rfl)]
  have hany:(kvs.any fun kv=>decide (kv.1=(OP s:Key)))=true:=uc (by rw[z2];rfl);unfold putK;rw[if_pos hany];exact mE rx r
def og(i:Nat)(ρ:Rho)(ds:List (NG×NG))(w k:W)(T:Tp):Option ((Fl×Rho)×Tp):=match w,k with
 |.d x,.d (.str s)=>if ds.length<=1000 then some ((.nx,ρ.set i (some (.loc (.dict (putN ds s x))))),T) else none
 |_,_=>none
def n9(i:Nat)(fk:FE)(ρ:Rho)(w:W)(T:Tp)(o:Option (Option W)):Option ((Fl×Rho)×Tp):=match o with
 |some (some (.loc (.dict ds)))=>bnd (fk ρ T) (og i ρ ds w)
 |_=>none
def iq(i:Nat)(fk fv:FE):FS:=fun ρ T=>bnd (fv ρ T) fun w T1=>n9 i fk ρ w T1 ρ[i]?
theorem qP{i:Nat}{x:Str}{kx:Expr}{fk fv:FE}{p pos':Pos}{k:Nat}(hr:Room k X.A)(hk:DE X kx fk)(he:DE X e fv)(hN:X.N[i]? = some x:=by rfl)(hv:Vis X.env.scope x:=by first|exact Pj rfl|exact OY (Pj rfl)|exact OY (OY rfl))(hd:(x == ("__debug__" : Str))=false:=by decide)
  (hcd:(x == ("__classdict__" : Str))=false:=by decide) (hs:PN e (some (.Subscript (.Name x p) kx pos')) pos.line X.env=pure false:=by rfl):DS X (.Assign [.Subscript (.Name x p) kx pos'] e pos) (iq i fk fv):=by
 refine⟨?_⟩;refine cz (wB (i9 hr) (pv i hN hv hd hcd) hk.pe he.pe hs) fun D σ H=>?_;rintro⟨O₀,H₀,F,ts,O,ρ,T,fl,ρ',T',rs,e,q⟩;obtain⟨w,T1,e1,e⟩:=aP e;refine⟨O,ts,ρ,T,w,T1,rs.hc,rs.re,e1,fun v H1 s1 hc1 r1=>?_⟩;have rs1:=rs.step s1 hc1;unfold n9 at e;split at e
 .rename_i ds c3
  obtain⟨wk,T3,e3,e⟩:=aP e;unfold og at e;split at e
  .rename_i xv s _
   split at e
   .rename_i c2
    cases e;obtain⟨u,k1,a,rfl,k2,k3,kvs,k4,k5⟩:=rs1.re i _ c3;refine⟨_,k1,O,ts,ρ,T1,_,_,rs1.hc,rs1.re,e3,fun y H3 s3 hc3 r3=>?_⟩;have rs3:=rs1.step s3 hc3;cases (show Rep X.K O H3 y (.str s) from r3);have k4':H3 a=some (.dK kvs):=s3 _ _ k3 k4;have k5':RepK X.K O H3 kvs ds:=k5.mono (hc1.le s3)
    have hlen:kvs.length<sizeLine:=by
     rw[qk k5'];exact Pk c2 (by decide)
    have rx:Rep X.K O H3 v xv:=RepW.mono (w:=.d xv) r1 hc1 s3;refine⟨a,_,rfl,DPut.k (k:=(OP s:Key)) k4' hlen,?_⟩;exact q O σ _ (rs3.putO c3 k1 (.inr (.inl ⟨_,rfl⟩)) fun le=>⟨_,bx,D5 (Rep.mono le rx) (k5'.mono le)⟩)
   .cases e
  .cases e
 .cases e
end
def yV(n:Nat):W->Option W
 |.tp k=>if k<n then some (.tp k) else none
 |w=>some w
def ir(n:Nat)(ρ:Rho):Rho:=ρ.map fun o=>o.bind (yV n)
def jv(n:Nat)(o:Option ((Fl×Rho)×Tp)):Option ((Fl×Rho)×Tp):=match o with
 | some ((fl,ρ'),T3)=>(match lM T3 with
  |some (T4,_)=>if T4.length=n then some ((fl,ir n ρ'),T4) else none
  | none=>none)
 |none=>none
def openK(i:Nat)(fr:FS)(ρ:Rho)(o:Option (List NG))(T1:Tp):Option ((Fl×Rho)×Tp):=match o with
 |some xs=>if xs.length<=1000 then jv T1.length (fr (ρ.set i (some (.tp T1.length))) (T1++[xs])) else none
 |none=>none
def ib(i:Nat)(g:FA)(fr:FS):FS:=fun ρ T=>bnd (g ρ T) fun ws T1=>openK i fr ρ (et ws) T1
section
variable {K:Frag}{O₀:Addr->Prop}{H₀:Hp}{F:List ((Addr->Prop)×Hp)}{ts:List Addr}{O:Addr->Prop}{H:Hp}{σ:L2.St}{ρ:Rho}{T:Tp}
theorem RS.openR{i:Nat}{p:Addr}{vs:List V}{xs:List NG}(r:RS K O₀ H₀ F ts O H σ ρ T)(hp:H p=none)(rv:Reps K O H vs xs) :
  RS K (fun b=>O₀ b\/b=p) H₀ F (ts++[p]) (fun b=>O b\/b=p) (upd H p (.lst vs)) (σ.set i (some (.ref p))) (ρ.set i (some (.tp T.length))) (T++[xs]):=by
 have nO:=r.hc.fresh hp;have nt:p∉ts:=fun z=>nO (r.hc.own _ z)
 have le:Le O H (fun b=>O b\/b=p) (upd H p (.lst vs)):=fun a o n e=>by
  have z1:a≠p:=cX e hp;exact⟨fun q=>q.elim n z1,by rw[aS z1];exact e⟩
 have hw:∀ys,W.tp T.length≠.loc ys:=fun _ z=>nomatch z
 refine⟨⟨fun b hb=>?_,fun b hb=>?_,?_,by simp[r.hc.len],fun j b zs q1 q2=>?_⟩,fun j w e=>?_,fun b hb=>hb.elim (fun z=>.inl (r.sub b z)) .inr,fun b hb=>?_,fun b o n e=>?_,fun j xs a e1 e2=>?_,fun j k xs ys v e1 e2 e3 e4=>?_,fun f hf=>(r.frs f hf).trans le,by simp[r.len]⟩
 .rcases Ob.mp hb with z|z
  .exact .inl (r.hc.own b z)
  .exact .inr (NY.mp z)
 .by_cases z:b=p
  .rw[z,bx];exact .inl ⟨_,rfl⟩
  .rw[aS z];exact r.hc.trk b (hb.resolve_right z)
 .rw[Rn]
  exact⟨r.hc.nd,by simp,fun b hb c hc z=>nt (by rw[←NY.mp hc,←z];exact hb)⟩
 .by_cases hj:j<ts.length
  .rw[Os hj] at q1
   rw[Os (by rw[←r.hc.len];exact hj)] at q2;exact(r.hc.tape j b zs q1 q2).mono (fun o h1=>by rw[aS (cX h1 hp)];exact h1) le
  .have hj2:j=ts.length:=by
    have:=(NM.mp q1).1;simp at this;omega
   subst hj2
   have e1:b=p:=by simpa using q1.symm
   have e2:zs=xs:=by rw[r.hc.len] at q2;simpa using q2.symm
   subst e1 e2;exact .inl ⟨rv.notO,vs,bx,rv.mono le⟩
 .by_cases z:i=j
  .subst z
   have hl:i<ρ.length:=by
    have:=(NM.mp e).1;simpa using this
   rw[NV hl] at e;cases e;exact⟨.ref p,by rw[NV (by rw[r.len];exact hl)],p,by rw[←r.hc.len];simp,rfl⟩
  .rw[NQ z] at e
   obtain⟨x,h1,h2⟩:=r.re j w e;refine⟨x,by rw[NQ z];exact h1,?_⟩
   cases w with
   |d y=>exact Rep.mono le h2
   |tp k=>
    obtain⟨a,k1,k2⟩:=h2;exact⟨a,by rw[Os (NM.mp k1).1];exact k1,k2⟩
   |loc ys=>
    obtain⟨a,e1,m1,m2,m3⟩:=h2;have na:a≠p:=fun z=>nO (z ▸ m1);refine⟨a,e1,.inl m1,fun z=>?_,m3.mono (fun o' q=>by rw[aS na];exact q) le⟩
    rcases Ob.mp z with z|z
    .exact m2 z
    .exact na (NY.mp z)
 .rcases Ob.mp hb with z|z
  .exact .inl (r.ots b z)
  .exact .inr (NY.mp z)
 .have nb:b∉ts:=fun z=>n (PB _ z)
  have e1:=r.same b o nb e;rw[aS (cX e1 hp)];exact e1
 .obtain⟨n,e⟩:=gq hw e1
  rw[NQ (Qj n)] at e2;obtain⟨f1,f2⟩:=r.fresh j xs a e e2;refine⟨f1,fun z=>z.elim f2 fun z=>?_⟩;obtain⟨v,h1,a',ea,m1,_⟩:=r.re j _ e;rw[e2] at h1;cases h1;cases ea;exact nO (z ▸ m1)
 .obtain⟨n1,e1⟩:=gq hw e1
  obtain⟨n2,e2⟩:=gq hw e2;rw[NQ (Qj n1)] at e3;rw[NQ (Qj n2)] at e4;exact r.dist j k xs ys v e1 e2 e3 e4
theorem RS.closeR{p:Addr}{row:List NG}(ots:∀b∈ts,O₀ b)(nt:p∉ts)(h0:H₀ p=none)(n0:¬O₀ p)(r:RS K (fun b=>O₀ b\/b=p) H₀ F (ts++[p]) O H σ ρ (T++[row])):RS K O₀ H₀ F ts O H σ (ir T.length ρ) T:=by
 have lenT:ts.length=T.length:=by have:=r.hc.len;simp at this;exact this
 have at_:∀{j:Nat}{w:W},(ir T.length ρ)[j]? = some (some w)->ρ[j]? = some (some w)/\∀k,w=.tp k->k<T.length:=fun {j w} e=>by
  unfold ir at e;rw[OS] at e
  cases hu:ρ[j]? with
  |none=>rw[hu] at e;cases e
  |some u=>
   cases u with
   |none=>rw[hu] at e;cases e
   |some u=>
    rw[hu] at e;have e':yV T.length u=some w:=OL e
    cases u with
    |d x=>cases e';exact⟨rfl,fun k z=>nomatch z⟩
    |loc x=>cases e';exact⟨rfl,fun k z=>nomatch z⟩
    |tp k=>
     have e2:(if k<T.length then some (W.tp k) else none)=some w:=e';split at e2
     .rename_i hk
      cases e2;exact⟨rfl,fun k' z=>by cases z;exact hk⟩
     .cases e2
 refine⟨⟨fun b hb=>r.hc.own b (PB _ hb),r.hc.trk,(Rn.mp r.hc.nd).1,lenT,fun j b zs q1 q2=>?_⟩,fun j w e=>?_,fun b hb=>r.sub b (.inl hb),ots,fun b o n e=>?_,fun j xs a e1 e2=>?_,fun j k xs ys v e1 e2 e3 e4=>?_,r.frs,by simp[ir,r.len]⟩
 .have hj:j<ts.length:=(NM.mp q1).1
  exact r.hc.tape j b zs (by rw[Os hj];exact q1) (by rw[Os (by rw[←lenT];exact hj)];exact q2)
 .obtain⟨e1,hk⟩:=at_ e
  obtain⟨v,h1,h2⟩:=r.re j w e1;refine⟨v,h1,?_⟩
  cases w with
  |d x=>exact h2
  |tp k=>
   obtain⟨a,k1,k2⟩:=h2;have:=hk k rfl;exact⟨a,by rw[Os (by rw[lenT];exact this)] at k1;exact k1,k2⟩
  |loc x=>
   obtain⟨a,k1,k2,k3,k4⟩:=h2;exact⟨a,k1,k2,fun z=>k3 (PB _ z),k4⟩
 .refine r.same b o (fun z=>?_) e
  rcases Ob.mp z with z|z
  .exact n z
  .rw[NY.mp z,h0] at e;cases e
 .obtain⟨f1,f2⟩:=r.fresh j xs a (at_ e1).1 e2
  exact⟨f1,fun z=>f2 (.inl z)⟩
 .exact r.dist j k xs ys v (at_ e1).1 (at_ e2).1 e3 e4
end
section
variable {X:Cx}{pos:Pos}{rest:List Stmt}{fr:FS}
theorem Em{i:Nat}{p:Addr}{vs:List V}{xs:List NG}{D:Ends}{O₀:Addr->Prop}{H₀:Hp}{F:List ((Addr->Prop)×Hp)}{ts:List Addr}{O:Addr->Prop}{H:Hp}{σ:L2.St}{ρ:Rho}{T:Tp}{fl:Fl}{ρ':Rho}{T':Tp}
  (rs:RS X.K O₀ H₀ F ts O H σ ρ T) (hp:H p=none) (rv:Reps X.K O H vs xs) (e:jv T.length (fr (ρ.set i (some (.tp T.length))) (T++[xs]))=some ((fl,ρ'),T')) (q:ze X.K O₀ H₀ F ts D ρ' T' fl):rZ X.K fr D (σ.set i (some (.ref p))) (upd H p (.lst vs)):=by
 have nO:=rs.hc.fresh hp;have nt:p∉ts:=fun z=>nO (rs.hc.own _ z)
 have h0:H₀ p=none:=by
  cases e:H₀ p with
  |none=>rfl
  |some o=>rw[rs.same p o nt e] at hp;cases hp
 have n0:¬O₀ p:=fun z=>nO (rs.sub p z);have rs1:=rs.openR (i:=i) hp rv;generalize hE:fr (ρ.set i (some (.tp T.length))) (T++[xs])=E at e;unfold jv at e;split at e
 .rename_i fl1 ρ1 T3
  split at e
  .rename_i T4 row hT
   split at e
   .rename_i hlen
    have eT:=CW hT;subst eT;cases e;have lb:∀{G:Hp},Le (fun b=>O₀ b\/b=p) G O₀ G:=fun a o n e=>⟨fun z=>n (.inl z),e⟩
    have lenB:∀{G:Hp}{B:Addr->Prop},HC X.K B (ts++[p]) G (T'++[row])->ts.length=T'.length:=fun h=>by have:=h.len;simp at this;exact this
    have sameB:∀{G:Hp},SameX (ts++[p]) H₀ G->SameX ts H₀ G:=fun s b o n e=>s b o (fun z=>by
     rcases Ob.mp z with z|z
     .exact n z
     .rw[NY.mp z,h0] at e;cases e) e
    refine⟨_,H₀,F,ts++[p],_,_,_,fl,ρ1,T'++[row],rs1,hE,?_⟩;have lenE:T.length=T'.length:=hlen.symm
    cases fl with
    |nx=>exact fun O' σ' H' r=>q O' σ' H' (by rw[lenE];exact RS.closeR rs.ots nt h0 n0 r)
    |bk=>exact fun O' σ' H' r=>q O' σ' H' (by rw[lenE];exact RS.closeR rs.ots nt h0 n0 r)
    |ct=>exact fun O' σ' H' r=>q O' σ' H' (by rw[lenE];exact RS.closeR rs.ots nt h0 n0 r)
    |rt y=>
     intro v H' s1 c1 r1;refine q v H' (sameB s1) ⟨rs.ots,fun b hb=>c1.trk b (.inl hb),rs.hc.nd,lenB c1,fun j b zs q1 q2=>?_⟩ (Rep.mono lb r1);have hj:j<ts.length:=(NM.mp q1).1;exact(c1.tape j b zs (by rw[Os hj];exact q1) (by rw[Os (by rw[←lenB c1];exact hj)];exact q2)).mono (fun _ h=>h) lb
    |ro y=>
     intro A v H' s1 hA c1 o1;have lb2:Le (fun b=>(O₀ b\/b=p)\/A b) H' (fun b=>O₀ b\/A b) H':=fun b o n e=>⟨fun z=>n (z.elim (fun z=>.inl (.inl z)) .inr),e⟩;refine q A v H' (sameB s1) (fun b hb=>⟨(hA b hb).1,fun z=>(hA b hb).2 (.inl z)⟩) ⟨fun b hb=>.inl (rs.ots b hb),fun b hb=>c1.trk b (hb.elim (fun z=>.inl (.inl z)) .inr),rs.hc.nd,lenB c1,fun j b zs q1 q2=>?_⟩ (OwnV.mono lb2 o1);have hj:j<ts.length:=(NM.mp q1).1;exact(c1.tape j b zs (by rw[Os hj];exact q1) (by rw[Os (by rw[←lenB c1];exact hj)];exact q2)).mono (fun _ h=>h) lb2
   .cases e
  .cases e
 .cases e
theorem pZ{i:Nat}{x:Str}{pos' lpos:Pos}{es:List Expr}{g:FA}(hN:X.N.Nodup)(he:DA X es g)(hrest:DSs X rest fr)(hi:X.N[i]? = some x:=by rfl)(hx:Loc X.env.scope x:=by first|exact Pj rfl|exact OY rfl)
  (hs:PN (.List es lpos) (some (.Name x pos')) pos.line X.env=pure false:=by rfl) (hf:X.fn x=true\/X.env.scope.names.lookup x=some .local:=by first|exact .inl rfl|exact .inr rfl|assumption):DSs X (.Assign [.Name x pos'] (.List es lpos) pos::rest) (ib i g fr):=by
 refine⟨?_⟩;refine iN (mP (gx hN hi hx (jD he.pe) hs hf) hrest.pe) fun D σ H=>?_;rintro⟨O₀,H₀,F,ts,O,ρ,T,fl,ρ',T',rs,e,q⟩;obtain⟨ws,T1,e1,e⟩:=aP e;refine⟨O,ts,ρ,T,ws,T1,rs.hc,rs.re,e1,fun vs H1 s1 hc1 r1=>?_⟩;unfold openK at e;split at e
 .rename_i xs h1
  split at e
  .rename_i h2
   have rv:=kK r1 h1;exact⟨nr (by rw[rv.length];exact h2),fun p hp=>Em (rs.step s1 hc1) hp rv e q⟩
  .cases e
 .cases e
end
section
variable {X:Cx}{pos:Pos}
end
section
variable {X:Cx}
end
theorem C6{P:Og}{w:Ow}{K:Frag}{mg:Str->Option NK}{base:Heap}{CX:CXT}{k:Nat}{f:Addr}{fd:PK}{ps:List Str}{sp sp':Sp}(F:FnOk P w K mg base CX k f fd ps sp)(i:∀vs H Q E,sp' vs H Q E->sp vs H Q E):FnOk P w K mg base CX k f fd ps sp':=⟨fun vs H Q E h=>F.1 vs H Q E (i _ _ _ _ h),fun A outer s H args us vs Q E a b c d h=>F.2 A outer s H args us vs Q E a b c d (i _ _ _ _ h)⟩
theorem BH{K:Frag}{m:FnM}(hm:∀ns:List Int,ns.length<=63->∃T',m [.d (eP ns)] []=some (.bool true,T')):∀vs H Q E,n6 K vs H Q E->spM K 1 m vs H Q E:=by
 intro vs H Q E h;obtain⟨a,ns,rfl,hS,hl,q⟩:=h;obtain⟨T',e⟩:=hm ns hl
 have ra:LstAt K (fun _=>False) H a (ns.map V.int):=by
  rcases hS with h|h
  .exact .inl ⟨fun z=>z,h⟩
  .exact .inr (.inr h)
 refine⟨fun _=>False,[],[],[.d (eP ns)],.bool true,T',⟨fun b hb=>(by cases hb),fun b hb=>hb.elim,Sg,rfl,fun i a xs e1 _=>by simp at e1⟩,.cons (show Rep K (fun _=>False) H (.ref a) (eP ns) from .lst ra (uv ns)) .nil,rfl,e,fun v H' _ _ r=>?_⟩;cases r;exact q H'
def Jl:NG->NG->Option PyData:=iop fun i j=>if 0<=j then some (.int (i / 2^j.toNat)) else none
@[simp] theorem KR{i j:Int}:Jl (.int i) (.int j)=if 0<=j then some (.int (i / 2^j.toNat)) else none:=rfl
section
variable {X:Cx}
end
end D
namespace L2
open PySem PySem.Spec PyProof.Rows
structure CSn(osc:Qg)(N:List Str)(xs:List Str)(scope:Qg)(N':List Str):Prop where
 kind:scope.kind=.function
 nocell:∀y∈scope.names,y.2≠.cell
 names:∀y∈scope.names,y.2=.local->scope.names.lookup y.1=some .local
 hx:∀x∈xs,scope.names.lookup x=some .local
 only:∀y∈scope.names,y.2=.local->y.1∈xs\/y.1=".0"
 free:∀y∈scope.names,y.2=.free->osc.names.lookup y.1=some .cell\/osc.names.lookup y.1=some .free
 nd:(xs++N').Nodup
 n0:(".0" : Str)∉N'
 len:N'.length=N.length
 rel:∀p∈N'.zip N,p.1=p.2\/∀q∈scope.names,q.1≠p.1
section
variable {X:Cx}{pins:List (Addr×Obj)}{σ:St}{H:Hp}{s:NL}{xs:List Str}{scope:Qg}{N':List Str}
end
section
variable {X:Cx}{xs:List Str}{scope:Qg}{N':List Str}{tg elt iter:Expr}{ifs:List Expr}{pos:Pos}{wi:TI}{g:TG}{te:TE}{tt:TT}
end
end L2
namespace D
open PySem PySem.Spec PyProof.Rows L2
theorem vY{X:Cx}{pins:List (Addr×Obj)}{σ:L2.St}{H:Hp}{s:NL}{h':Heap}{t':Nat}{fp:List Addr}(I:Inv X pins σ H s)(k:∀b o,b∉fp->s.heap.get? b=some o->h'.get? b=some o)(hf:∀b∈fp,dR X pins H b):Inv X pins σ H { s with heap:=h',toks:=t' }:=by
 have nit:∀b u,H b=some u->b∉fp:=fun b u e z=>by rw[(hf b z).1] at e;cases e
 have hL:X.env.locals∉fp:=fun z=>(hf _ z).2.1 rfl
 refine I.step (g':=s.gens) (d':=s.drawn) (ch:=fp) (fun b hb=>?_) (fun b o _ _ hc e _=>k b o hc e) (fun b o _ _ hc e _=>⟨o.slots,k b o hc e⟩) (fun _ _ _ _ n=>n)
  (fun b o hc e=>⟨o,k b o hc e⟩) (fun _ _ e=>e) (fun _ _ _ e=>e) (fun b ps e=>⟨#[],by rw[e];simp⟩) (fun m hm=>?_) (fun b u e=>?_) I.bare
 .obtain⟨_,f1,_,f3,f4,f5⟩:=hf b hb
  exact⟨f3,f1,f4,f5⟩
 .obtain⟨o,es,ep,ho,r⟩:=hm
  exact⟨o,es,ep,k _ o hL ho,r⟩
 .refine(I.hok b u e).stay (fun c v hc q=>k c v ?_ q) (fun _ q=>q) fun _ _ q=>q
  rcases hc with z|z
  .rw[z];exact nit b u e
  .exact nit c _ z
section
variable {X:Cx}{pos:Pos}
def nZ(i j k:Nat)(ρ:Rho)(w:W)(T:Tp):Option ((Fl×Rho)×Tp):=match w with
 |.d (.tuple [x,y,z])=>some ((.nx,((ρ.set i (some (.d x))).set j (some (.d y))).set k (some (.d z))),T)
 |_=>none
def se(i j k:Nat)(f:FE):FS:=fun ρ T=>bnd (f ρ T) (nZ i j k ρ)
theorem EZ{i j k:Nat}{x y z:Str}{e:Expr}{f:FE}{n:Nat}{px py pz tp:Pos}(hN:X.N.Nodup)(he:DE X e f)(hi:X.N[i]? = some x:=by rfl)(hj:X.N[j]? = some y:=by rfl)(hk:X.N[k]? = some z:=by rfl)(hx:Loc X.env.scope x:=by first|exact Pj rfl|exact OY rfl)(hy:Loc X.env.scope y:=by first|exact Pj rfl|exact OY rfl)(hz:Loc X.env.scope z:=by first|exact Pj rfl|exact OY rfl)
  (hf:X.fn x=true\/X.env.scope.names.lookup x=some .local:=by first|exact .inl rfl|exact .inr rfl|assumption) (hf':X.fn y=true\/X.env.scope.names.lookup y=some .local:=by first|exact .inl rfl|exact .inr rfl|assumption) (hf2:X.fn z=true\/X.env.scope.names.lookup z=some .local:=by first|exact .inl rfl|exact .inr rfl|assumption) (hc:X.calm=true:=by rfl)
  (hs:SD [.Tuple [.Name x px,.Name y py,.Name z pz] n tp] e pos.line X.env=pure false:=by rfl) (hw:SE [.Tuple [.Name x px,.Name y py,.Name z pz] n tp] e X.env=pure none:=by rfl)
  (h1:(QL [.Tuple [.Name x px,.Name y py,.Name z pz] n tp] X.env).map (·.2)=[Tz (.Tuple [.Name x px,.Name y py,.Name z pz] n tp) X.env]:=by rfl):DS X (.Assign [.Tuple [.Name x px,.Name y py,.Name z pz] n tp] e pos) (se i j k f):=by
 refine⟨?_⟩;refine cz (rE he.pe (rF hc (iL (gr hN hi hx hf) (iL (gr hN hj hy hf') (iL (gr hN hk hz hf2) qB)))) hs hw h1) fun D σ H=>?_;rintro⟨O₀,H₀,F,ts,O,ρ,T,fl,ρ',T',rs,e,q⟩;obtain⟨w,T1,e1,e⟩:=aP e;refine⟨O,ts,ρ,T,w,T1,rs.hc,rs.re,e1,fun v H1 s1 hc1 r1=>?_⟩;unfold nZ at e;split at e
 .rename_i a b c
  cases e;have rs1:=rs.step s1 hc1;have r1':Rep X.K O H1 v (.tuple [a,b,c]):=r1
  cases r1' with
  |tup t r=>
   cases r with
   |cons ra r=>
    cases r with
    |cons rb r=>
     cases r with
     |cons rc r=>
      cases r;exact⟨_,_,rfl,t.sq,rfl,_,_,rfl,_,_,rfl,_,_,rfl,rfl,q O _ _ (((rs1.set (w:=.d a) ra fun _ z=>nomatch z).set (w:=.d b) rb fun _ z=>nomatch z).set (w:=.d c) rc fun _ z=>nomatch z)⟩
 .cases e
end
section
variable {X:Cx}
variable {pos:Pos}{e e':Expr}{fe fk:FE}
end
section
variable {K:Frag}{O₀:Addr->Prop}{H₀:Hp}{F:List ((Addr->Prop)×Hp)}{ts:List Addr}{O A:Addr->Prop}{H H1:Hp}{σ:L2.St}{ρ:Rho}{T T1:Tp}
theorem RS.keep(r:RS K O₀ H₀ F ts O H σ ρ T)(hA:∀b,A b->O b):HC K (fun b=>O₀ b\/A b) ts H T/\Le O H (fun b=>O₀ b\/A b) H:=by
 have le:Le O H (fun b=>O₀ b\/A b) H:=fun a o n e=>⟨fun z=>n (z.elim (r.sub a) (hA a)),e⟩;exact⟨⟨fun b hb=>.inl (r.ots b hb),fun b hb=>r.hc.trk b (hb.elim (r.sub b) (hA b)),r.hc.nd,r.hc.len,fun i a xs e1 e2=>(r.hc.tape i a xs e1 e2).mono (fun _ h=>h) le⟩,le⟩
end
section
variable {X:Cx}{pos:Pos}
end
inductive SpOP(K:Frag)(n:Nat)(m:FnM)(vs:List V)(H:Hp)(Q:VK):Prop where
 |mk (O:Addr->Prop) (ts:List Addr) (T:Tp) (ws:List W) (x:NG) (T':Tp) (hc:HC K O ts H T) (r:iu K O ts H vs ws) (hl:ws.length=n) (e:m ws T=some (x,T'))
  (q:∀(A:Addr->Prop) v H',SameX ts H H'->(∀b,A b->H b=none/\¬O b)->HC K (fun b=>O b\/A b) ts H' T'->OwnV K (fun b=>O b\/A b) A H' v x->Q v H'):SpOP K n m vs H Q
section
variable {X:Cx}{pos:Pos}
end
section
variable {X:Cx}
abbrev FP:=Rho->Tp->Option (List (Str×NG)×Tp)
def IJ(l:List (Str×NG)):List (NG×NG):=l.map fun p=>(.str p.1,p.2)
def Js(p:Str×V):Key×V:=(OP p.1,p.2)
structure DP(X:Cx)(pos:Pos)(keys:List (Option Expr))(values:List Expr)(g:FP):Prop where
 ex:∃trs,PPs X pos keys values trs/\∀(σ:L2.St) (H:Hp) (Q:List (V×V)->Hp->Prop) (O:Addr->Prop) (ts:List Addr) (ρ:Rho) (T:Tp) (l:List (Str×NG)) (T':Tp),HC X.K O ts H T->RelE X.K O ts H σ ρ->g ρ T=some (l,T') ->
  (∀(kvs:List (Str×V)) (H':Hp),SameX ts H H'->HC X.K O ts H' T'->kvs.map (·.1)=l.map (·.1)->RepK X.K O H' (kvs.map Js) (IJ l)->Q (kvs.map fun p=>(V.str p.1,p.2)) H')->nH trs σ H Q
def okP(l:List (Str×NG)):Bool:=decide ((l.map (·.1)).Nodup)&&decide (l.length<=15)
end
section
variable {X:Cx}{pos:Pos}
end
section
variable {X:Cx}{pos:Pos}{rest:List Stmt}{fr:FS}
end
section
variable {X:Cx}{pos:Pos}
end
section
variable {prog:Og}{w:Ow}{K:Type}[DecidableEq K]{knd:KeyKind prog w K}{A:OD}{E:NK->NL->Prop}{s:NL}
end
section
variable {X:Cx}
end
section
variable {prog:Og}{w:Ow}{A:OD}{E:NK->NL->Prop}{s:NL}
theorem AF{T:String}{r d:Addr}{n:Nat}{P:Nat->NK->Prop}{OK:Heap->Prop}{Q:List NK->NL->Prop}(K:PySem.W.KdlSrc prog w T r d n P OK)(hh:A.handled=none)(hok:OK s.heap)(hn:n<=NS)
  (hQ:∀h' tk acc,(∀b o,s.heap.get? b=some o->h'.get? b=some o)->s.heap.objs.size<h'.objs.size->ItemsOf P acc n->Q acc.toList { s with heap:=h',toks:=tk }):Oo (Ot prog w) A (collect (.ref r)) Q E s:=by
 have lt:=K.there _ hok;have hS:(s.heap.push { cls:=.type "list",data:=.seq #[] }).get? s.heap.objs.size=some { cls:=.type "list",data:=.seq #[] }:=On _ rfl;unfold collect;refine NP (wpAny_runValue (Vv PySem.F.entry_proto_collect ?_));rw[TQ PySem.F.plain_proto_collect _];show Oo _ A.in1 (newList [] >>= fun l=>Wn (.builtin "list.__iadd__" ⟨[l,.ref r],[]⟩)) _ _ s;refine NP (OW (Oa ⟨plainId_quiet SS _,Vv PySem.F.entry_list_iadd ?_⟩));rw[TQ SS _];show Oo _ A.in1 (VC (.ref s.heap.objs.size) (.ref r) (.ref s.heap.objs.size)) _ _ _
 refine PySem.W.kdl_extend (R:=fun r s'=>match r with
  | .ok (.ret v)=>Oo (Ot prog w) A (match v with
   | .ref a=>(do match (←load a).data with
    |.seq xs _=>pure xs.toList
    | _=>unsupported "internal:collect")
   | _=>unsupported "internal:collect") Q E s'
  |.ok _=>False
  | .error e=>E e s') (A:=A) (s:={ s with heap:=s.heap.push { cls:=.type "list",data:=.seq #[] } }) K hh (K.keep _ _ hok fun b _ o e=>NO _ e) s.heap.objs.size (RQ lt.1) (RQ lt.2) (.ref s.heap.objs.size) 0 hS (fun h' tk acc c k1 k2 k3=>?_) hn
 refine NP (wpAny_load k2 (Oa ?_));exact hQ h' tk acc (fun b o e=>k1 b o (Ox (Oc e)) (NO _ e)) (Oc k2) k3
end
section
variable {X:Cx}
end
section
variable {X:Cx}
end
section
variable {X:Cx}
theorem Bf(hcm:X.calm=true):CallR X (.builtin "sorted") (fun xs H Q=>∃a kvs ss,xs=[V.ref a]/\Rd H a (.dK kvs)/\kvs.map (fun p=>kV p.1)=ss.map V.str/\ss.length<64/\∀l,H l=none->Q (.ref l) (upd H l (.lst ((bS ss).map V.str)))):=by
 intro pins s σ H xs us Q I r h;obtain⟨a,kvs,ss,rfl,ha,hk,h64,q⟩:=h;obtain⟨u,rfl,ru⟩:=vals1 r;cases ru;obtain⟨z,y,vs,kv,dd⟩:=fB I.hok ha;obtain⟨ep,dd⟩:=dd.dictAt;have hl:=kv.length
 have hlen:kvs.length=ss.length:=by have:=congrArg Sv hk;simpa using this
 refine Calls.call_function_entry kind_sorted plain_sorted entry_sorted (args_sorted1 _) ?_;unfold Wx.«sorted»;refine NP (m:=checkCount "sorted" 1 1 _) (Oa ?_);refine NP (AF (Vb (prog:=X.prog) (w:=X.w) (knd:=cb X.prog X.w) (kvs:=vs) (ep:=ep) y) (I.ok.hd hcm) dd (by omega) fun h' tk acc k1 k2 k3=>?_);have hv:Vals (kvs.map fun p=>kV p.1) acc.toList:=pJ (P:=X.prog) (w:=X.w) kv (by rw[Pf];exact k3.1) fun j v e=>k3.2 j v (by simpa using e);rw[hk] at hv;have hS:=qg hv
 have hal:acc.toList.length=ss.length:=by have:=hv.length;simpa using this.symm
 refine NP (wpAny_newList ?_);have hoL:(h'.push (WB "list" acc.toList.toArray 0)).get? h'.objs.size=some (WB "list" acc.toList.toArray 0):=On _ rfl;refine NP (QG (Rv slot_list_sort ⟨_,hoL,rfl⟩ entry_list_sort (list_sort_treeK strKind_oneLt hoL hS.keysOf (fun v1 v2 rest e=>keyKind_strs (by rw[←e];exact hS)) (by omega) fun st' a1 a2=>⟨_,rfl,?_⟩) (args_list_sort _)));refine Oa ⟨_,rfl,?_⟩;obtain⟨ss',b1,b2,b3⟩:=sorted_out_str hS a1 a2;have e:ss'=bS ss:=ph (b2.trans (gS ss).symm) (tK b3) (oX ss);subst e;obtain⟨e2,he⟩:=sortedHeap_at (out:=(arrOf st').map (·.2)) hoL
 have keep:∀b o,s.heap.get? b=some o->(sortedHeap (h'.push (WB "list" acc.toList.toArray 0)) h'.objs.size acc.toList ((arrOf st').map (·.2))).get? b=some o:=fun b o q=>by
  have q':=k1 b o q;have lt:=Oc q';rw[sortedHeap_old (Ox lt) (by rw[size_push'];exact QK lt)];exact NO _ q'
 have hn:H h'.objs.size=none:=I.hok.fresh (Qx k2);have hlen2:(bS ss).length=ss.length:=(gS ss).length_eq;exact⟨.ref h'.objs.size,_,I.laid (t':=tk) (o:=.lst ((bS ss).map V.str)) keep (Qx k2) ⟨by simp;exact Qx (Oj (by omega:(bS ss).length<64) (by decide)),((arrOf st').map (·.2)).toList,e2,pB b1,by simpa[WB,-Array.toList_map] using he⟩,rfl,q _ hn⟩
def jC:NG->Option NG
 |.dict ds=>i4 (dE (eX ds))
 |_=>none
theorem Bp{x y:NG}(h:jC x=some y):∃ds ss,x=.dict ds/\dE (eX ds)=some ss/\ss.length<64/\y=.list ((bS ss).map .str):=by
 cases x with
 |dict ds=>
  have h':i4 (dE (eX ds))=some y:=h;unfold i4 at h';split at h'
  .rename_i ss hs
   split at h'
   .rename_i hl
    cases h';exact⟨ds,ss,rfl,hs,hl,rfl⟩
   .cases h'
  .cases h'
 |_=>cases h
theorem Di{e:Expr}{fe:FE}{p pos:Pos}(hm:X.mg "sorted"=none)(ha:DE X e fe)(hc:X.calm=true:=by rfl)(hg:Gl X "sorted":=by rfl)(hs:NU [e] X.env=(false,eval e X.env)::NU [] X.env:=by exact bC rfl)
  (hpl:(O4 pos (NU [] X.env)).any (·.1)=false:=by exact cJ rfl):DE X (.Call (.Name "sorted" p) [e] [] pos) (fUn jC fe):=by
 refine⟨?_⟩;refine bD (mQ (Bf hc) hg hm boot_sorted (dz ha.pe di hs) (by decide) (by decide) hs hpl) fun σ H Q=>?_;rintro⟨O,ts,ρ,T,w,T',hc,re,e,q⟩;obtain⟨w1,T1,e1,e⟩:=aP e;obtain⟨x,d,hv,hd,rfl,rfl⟩:=hW e;obtain⟨ds,ss,rfl,hs',hl,rfl⟩:=Bp hd;refine⟨O,ts,ρ,T,w1,T',hc,re,e1,fun v1 H1 s1 hc1 r1=>?_⟩;obtain⟨a,kvs,rfl,t,r⟩:=(hc1.view r1 hv).dct;have rk:=pP (O':=O) (H':=H1) r;refine⟨a,kvs,ss,rfl,t,m8 rk hs',hl,fun l hl'=>?_⟩;exact q _ _ (s1.trans (.new hl' _)) (hc1.new hl' _) (hc1.newL hl' (mC _))
end
end D
namespace XE
open PySem PySem.Spec PyProof.Rows L2
abbrev vE:List Value:=[.type "ValueError",.type "Exception",.type "BaseException",.type "object"]
def XCl(K:Frag)(C:Addr)(tl:List NK):Prop:=∃nm q N bs sn sub ab col dd k0 k1 k2 k3 k5,K.lookup C=some (excClassObj nm q C N bs tl true sn sub ab col dd k0 k1 k2 k3 k5 "ValueError.__new__")/\PySem.W.nsOkIn K N=true
section
variable {prog:Og}{w:Ow}{A:OD}{E:NK->NL->Prop}{h:Heap}{g:Array UC}{d:Drawn}{t:Nat}{os:OsState}{K:Frag}{C R fI:Addr}
end
end XE
namespace XE
open PySem PySem.Spec PyProof.Rows L2
def XAt(e C:Addr)(od:Option Addr):Heap->Prop:=fun h=>∃t,h.get? e=some { cls:=.ref C,dict:=od,data:=.fields #[.ref t,.none,.none,.none,.bool false,.none] }
section
variable {X:Cx}{C R:Addr}
end
section
open Builtin Builtin.ObjectAttr
variable {prog:Og}{w:Ow}{A:OD}{E:NK->NL->Prop}{h:Heap}{g:Array UC}{d:Drawn}{t:Nat}{os:OsState}{K:Frag}{C R e:Addr}{name:Str}{v:NK}{vs:Array NK}
end
end XE
namespace XE
open PySem PySem.Spec PyProof.Rows L2
section
variable {X:Cx}{C R:Addr}
end
end XE
namespace XE
open PySem PySem.Spec PyProof.Rows L2
def spI(C:Addr)(f:Str):Sp:=fun vs H Q _=>∃a x,vs=[.ref a,.str x]/\H a=some (.ext (XAt a C none))/\(reprText x).length+1000<=NS /\
 ∀dx,H dx=none->dx≠a->Q .non (upd (upd H dx (.xd [(f,.str x)])) a (.ext (XAt a C (some dx))))
structure XIni(P:Og)(w:Ow)(K:Frag)(mg:Str->Option NK)(base:Heap)(C R:Addr)(f:Str)(k:Nat):Prop where
 ex:∃fI fd ps,FnOk P w K mg base CX0 k fI fd ps (spI C f)/\Binds K fd ps []/\Pc K (.ref C) "__init__"=some (some (.ref fI))/\RR K (.ref fI)=true
 c:XCl K C (.ref R::vE)
 r:XCl K R vE
 ri:Uo K "__init__" (.ref R)=some none
 kp:Ph K (.ref C)=true
section
variable {X:Cx}{C R:Addr}{f:Str}{k:Nat}
end
end XE
namespace XE
open PySem PySem.Spec PyProof.Rows L2
structure Kp(xs fs:List Addr)(h h':Heap):Prop where
 keep:∀b o,h.get? b=some o->b∉xs->b∉fs->h'.get? b=some o
 slot:∀b o,h.get? b=some o->b∉xs->b∈fs->∃sl,h'.get? b=some { o with slots:=sl }
 there:∀b o,h.get? b=some o->∃o',h'.get? b=some o'
section
variable {M:Model}{A:OD}{E:NK->NL->Prop}{s:NL}{base:Heap}{env:Env}{outer:List Env}{L e C dx T:Addr}
end
end XE
namespace XE
open PySem PySem.Spec PyProof.Rows L2
section
variable {P:Og}{w:Ow}{K:Frag}{mg:Str->Option NK}{base:Heap}{N:List Str}{qual:Str}{scope:Qg}{f C R:Addr}{cdv:NK}{A:OD}{outer:List Env}{s0:NL}{H0:Hp}{E:XK}
end
end XE
namespace XE
open PySem PySem.Spec PyProof.Rows L2
section
variable {X:Cx}{pins:List (Addr×Obj)}{σ:L2.St}{H:Hp}{s:NL}
end
end XE
namespace XE
open PySem PySem.Spec PyProof.Rows L2
section
variable {X:Cx}{C R fa:Addr}{k:Nat}{fd:PK}{ps:List Str}{sp:Sp}
end
end XE
namespace XE
open PySem PySem.Spec PyProof.Rows L2
section
variable {prog:Og}{w:Ow}{A:OD}{E:NK->NL->Prop}{h:Heap}{g:Array UC}{d:Drawn}{t:Nat}{os:OsState}{K:Frag}{C R x:Addr}{ox:Obj}{od:Option Obj}{name:Str}
structure XIs(K:Frag)(C:Addr):Prop where
 bm:Uj K C (.type "BaseException")=some true
 gt:Pc K (.ref C) "__getattr__"=some none
 ga:Pc K (.ref C) "__getattribute__"=some (some (.builtin "BaseException.__getattribute__"))
 hc:(PySem.W.clsIn K C).isSome=true
 ca:Pc K (.ref C) "__class__"=some (some (.builtin "object.__class__"))
 hn:Sr K (.builtin "object.__class__") "__get__"=some (some (.builtin "getset_descriptor.__get__"))
 tk:Vm K (.builtin "object.__class__")=some true
 hm:Uj K C (.type "object")=some true
end
end XE
namespace XE
open PySem PySem.Spec PyProof.Rows L2
section
variable {X:Cx}{C e dx:Addr}{oe:Obj}
structure Cau(X:Cx)(C e dx:Addr)(oe:Obj):Prop where
 pin:(e,oe)∈X.pn
 cls:oe.cls=.ref C
 dict:oe.dict=some dx
 data:∃vs,oe.data=.fields vs
 is:XIs X.K C
 hd:Sq X.K C=true
end
end XE
namespace XE
open PySem PySem.Spec PyProof.Rows L2 D
structure XB(K:Frag)(C R:Addr)(f:Str)(Ds:List Addr):Prop where
 c:XCl K C (.ref R::vE)
 r:XCl K R vE
 ri:Uo K "__init__" (.ref R)=some none
 kp:Ph K (.ref C)=true
 is:XIs K C
 hd:Sq K C=true
 nn:Pc K (.ref C) f=some none
 sa:Pc K (.ref C) "__setattr__"=some (some (.builtin "object.__setattr__"))
 rd:PySem.W.readsIn K R (.type "type")=true
 fc:PySem.W.findCls K (.ref R) (.type "type") "__init__"=some (.val (.builtin "ValueError.__init__"))
 kC:PJ K (.ref C) (.ref C)=some true
 kV:PJ K (.ref C) (.type "ValueError")=some true
 kD:PySem.W.kitAny K (.ref C) (Ds.map OT)=some false
end XE
namespace XE
open PySem PySem.Spec PyProof.Rows L2
section
variable {X:Cx}{C R:Addr}
end
end XE
namespace XE
open PySem PySem.Spec PyProof.Rows L2 D
def spG(P:V->Prop)(C:Addr)(f:Str):Sp:=fun vs H Q _=>∃a v,vs=[.ref a,v]/\H a=some (.ext (XAt a C none))/\P v /\
 ∀dx,H dx=none->dx≠a->Q .non (upd (upd H dx (.xd [(f,v)])) a (.ext (XAt a C (some dx))))
structure XIniG(A:V->Prop)(P:Og)(w:Ow)(K:Frag)(mg:Str->Option NK)(base:Heap)(C R:Addr)(f:Str)(k:Nat):Prop where
 ex:∃fI fd ps,FnOk P w K mg base CX0 k fI fd ps (spG A C f)/\Binds K fd ps []/\Pc K (.ref C) "__init__"=some (some (.ref fI))/\RR K (.ref fI)=true
 c:XCl K C (.ref R::vE)
 r:XCl K R vE
 ri:Uo K "__init__" (.ref R)=some none
 kp:Ph K (.ref C)=true
section
variable {X:Cx}{C R:Addr}{f:Str}{k:Nat}
end
end XE
namespace XE
open PySem PySem.Spec PyProof.Rows L2 D
end XE
namespace D
open PySem PySem.Spec PyProof.Rows L2
section
variable {X:Cx}
end
section
variable {X:Cx}
variable {pos:Pos}{e:Expr}{fe:FE}
end
section
variable {prog:Og}{w:Ow}{A:OD}{E:NK->NL->Prop}
end
section
variable {X:Cx}{pos:Pos}
end
section
variable {X:Cx}{pos:Pos}{e:Expr}{fe:FE}
end
section
variable {X:Cx}
end
section
variable {X:Cx}{pos:Pos}{e:Expr}{fe:FE}
end
section
variable {X:Cx}{pos:Pos}
end
def IY(_ j:Int):Prop:=0<j/\j<18446744073709551616
def gF:NG->NG->Option PyData:=iop fun i j=>if 0<j/\j<18446744073709551616 then some (.int (i / j)) else none
theorem Ih{x y:Int}(h:y.natAbs<18446744073709551616):Builtin.divisionGoesByPylong x y=false:=by
 refine PyProof.noPylong_of_log2 ?_
 by_cases h0:y.natAbs=0
 .rw[h0];decide +kernel
 .have h30:y.natAbs.log2<64:=(TR h0).mpr h
  omega
section
variable {X:Cx}
theorem CB:OpR X (Pu .FloorDiv) (rI IY fun i j=>.int (i / j)):=opI fun i j _ _ _ _ _ hc q=>by
 have h1:(0:Int)<j:=hc.1;have h2:j<18446744073709551616:=hc.2;exact floordiv_int (by omega) (by rw[Int.fdiv_eq_ediv_of_nonneg i (by omega)];exact q) (.inl (Ih (by omega)))
theorem nk:OpD X (Pu .FloorDiv) gF:=⟨_,CB,rz fun i j d e=>by
 split at e
 .rename_i h;cases e;exact⟨h,fun _ _=>.int _⟩
 .cases e⟩
end
end D
namespace L2
open PySem PySem.Spec PyProof.Rows
section
variable {prog:Og}{w:Ow}{A:OD}{E:NK->NL->Prop}{s:NL}
end
section
variable {X:Cx}{e:Expr}{te:TE}{x y:Str}{p p' pos pos':Pos}
end
end L2
namespace D
open PySem PySem.Spec PyProof.Rows L2
def Iq:NG->Option NG
 |.list xs=>some (.list xs.reverse)
 |_=>none
@[simp] theorem Lm{xs:List NG}:Iq (.list xs)=some (.list xs.reverse):=rfl
section
variable {X:Cx}{pos pos' p p':Pos}{e:Expr}{f:FE}
end
section
variable {X:Cx}{pos:Pos}
end
def dd:List Str->List Str
 |[]=>[]
 |a::r=>if a∈r then dd r else a::dd r
section
variable {X:Cx}{pos:Pos}
end
end D
namespace L2
open PySem PySem.Spec PyProof.Rows
section
variable {P:Og}{w:Ow}{A:OD}{E:NK->NL->Prop}{s:NL}
end
def keyV:NK->Str
 |.str k _=>k
 |_=>""
section
variable {P:Og}{w:Ow}{A:OD}{s:NL}
end
section
variable {P:Og}{w:Ow}{A:OD}{E:NK->NL->Prop}{s:NL}
end
section
set_option maxHeartbeats 3200000
variable {P:Og}{w:Ow}{A:OD}{E:NK->NL->Prop}{s:NL}
end
section
set_option maxHeartbeats 3200000
variable {P:Og}{w:Ow}{A:OD}{E:NK->NL->Prop}{s:NL}
end
section
variable {P:Og}{w:Ow}{A:OD}{E:NK->NL->Prop}{s:NL}
end
section
variable {P:Og}{w:Ow}{A:OD}{E:NK->NL->Prop}{s:NL}
def TupAt(h:Heap)(q:Addr)(pl:Array NK):Prop:=∃o n,h.get? q=some o/\o.data=.seq pl n
end
section
variable {P:Og}{w:Ow}{A:OD}{E:NK->NL->Prop}{s:NL}
end
section
variable {P:Og}{w:Ow}{A:OD}{E:NK->NL->Prop}{s:NL}
end
end L2
namespace D
open PySem PySem.Spec PyProof.Rows L2
section
variable {X:Cx}
end
section
variable {P:Og}{w:Ow}{A:OD}{E:NK->NL->Prop}{s:NL}
open PySem.SeqAt in
open PySem.SeqAt in
end
section
variable {X:Cx}{pins:List (Addr×Obj)}{σ:L2.St}{H:Hp}{s:NL}{O:Addr->Prop}{A:OD}
end
theorem B9:P1 "enumerate"=some (.type "enumerate"):=by decide +kernel
section
variable {P:Og}{w:Ow}{A:OD}{E:NK->NL->Prop}{s:NL}
end
section
variable {X:Cx}{pos:Pos}
end
def zQ(K:Frag)(a:Addr):It:=⟨fun i H=>∃xs,SqL K H a xs/\i<xs.length,fun i H x H'=>∃p v,H p=none/\(∀xs,SqL K H a xs->xs[i]? = some v)/\x=.ref p/\H'=upd H p (.tup [.int (i:Int),v]),fun i H=>∃xs,SqL K H a xs/\i=xs.length⟩
theorem AL{P:Og}{w:Ow}{K:Frag}{elts:List Expr}{x1:Nat}{tpos:Pos}{l e it:Addr}(hei:e≠it)(hle:l≠e)(hli:l≠it):Turn P w K (.Tuple elts x1 tpos) (zQ K l) [e,it] e (fun i h=>(∃old,IsEnum h e it i old)/\h.IsListIter it l i) where
 mem:=by simp
 obj:=fun i h st b hb=>by
  obtain⟨⟨old,a1⟩,⟨o4,a4,_,d4⟩⟩:=st;simp only[NR,O5,or_false] at hb
  rcases hb with e|e <;> subst e
  .exact⟨_,a1,fun v z=>nomatch (show WI _=Data.cell v from z)⟩
  .exact⟨_,a4,fun v z=>by rw[d4] at z;cases z⟩
 keep:=fun i h h' st k=>by
  obtain⟨⟨old,a1⟩,⟨o4,a4,r⟩⟩:=st;exact⟨⟨old,k e (by simp) _ a1⟩,o4,k it (by simp) _ a4,r⟩
 item:=by
  intro X hP hw hK hc i pins s σ H E I hf st hg;subst hP hw hK;obtain⟨xs,hx,k1⟩:=hg;obtain⟨⟨old,a1⟩,a4⟩:=st;obtain⟨its,rx,px,_⟩:=I.list hx;obtain⟨u,hu,ru⟩:=rx.get (Px k1);have hlen:=rx.length;have hIT:s.heap.IsList l its.toArray:=px.isList;refine wpAny_pyNext_enum_itemD (WP (A:=X.A.in1) (by simp[I.ok.hd hc]) it l hli its.toArray) a1 ⟨a4,hIT⟩ (by simp;omega) hei (by simp only[NR,O5,or_false,not_or];exact⟨hei,Qj hle⟩) fun x h' tk hx' b1 b2 b3 b4 b5=>?_
  have ex:x=u:=by
   have h2:its.toArray[i]? = some u:=by simpa using hu
   rw[h2] at hx';exact(OL hx').symm
  subst ex;refine⟨.ref s.heap.objs.size,rfl,wpAny_letOwnedTupleGo_enum b1 fun h'' c1 c2=>?_⟩;have hn:H s.heap.objs.size=none:=I.hok.fresh (NT _);have le:e<s.heap.objs.size:=Oc a1
  have l1:it<s.heap.objs.size:=by obtain⟨_,e,_⟩:=a4;exact Oc e
  have T1:UB (s.heap.push { cls:=.type "tuple",data:=.seq #[.int i tk,x] }) s.heap.objs.size #[.int i tk,x]:=SM ..
  have I1:Inv X pins σ (upd H s.heap.objs.size (.tup [.int (i:Int),xs[i]])) { s with heap:=s.heap.push { cls:=.type "tuple",data:=.seq #[.int i tk,x] } }:=
   I.laid (t':=s.toks) (o:=.tup [.int (i:Int),xs[i]]) (fun b ob e=>NO _ e) (NT _) ⟨by show 2<=NS;decide,[.int i tk,x],.cons ⟨tk,rfl⟩ (.cons ru .nil),T1⟩
  have nn:∀b∈[e,it],b≠s.heap.objs.size:=fun b hb q=>by
   simp only[NR,O5,or_false] at hb
   rcases hb with z|z <;> rw[q] at z
   .exact RQ le z
   .exact RQ l1 z
  have f':∀b∈[e,it],dR X pins (upd H s.heap.objs.size (.tup [.int (i:Int),xs[i]])) b:=fun b hb=>by
   obtain⟨f0,fr⟩:=hf b hb;exact⟨by rw[aS (nn b hb)];exact f0,fr⟩
  have I2:Inv X pins σ (upd H s.heap.objs.size (.tup [.int (i:Int),xs[i]])) { s with heap:=h'',toks:=tk+1 }:=vY (s:={ s with heap:=s.heap.push { cls:=.type "tuple",data:=.seq #[.int i tk,x] } }) (t':=tk+1) (h':=h'') (fp:=[e,it]) I1 (fun b ob hb q=>by
   simp only[NR,O5,or_false,not_or] at hb
   by_cases z:b=s.heap.objs.size
   .subst z
    have q':some _=some ob:=(On _ rfl).symm.trans q;cases q';exact(c2.2 _ hb.1).trans b3
   .rw[Heap.get?_push_ne _ _ _ z] at q
    exact(c2.2 b hb.1).trans (b5 b ob hb.1 hb.2 q)) f'
  refine⟨.ref s.heap.objs.size,_,I2,rfl,⟨s.heap.objs.size,xs[i],hn,fun xs' h=>by rw[I.list_inj h hx];exact Px k1,rfl,rfl⟩,?_,fun b hb=>(f' b hb).1⟩;obtain⟨o,eo,ro⟩:=b2.1;exact⟨⟨_,c1⟩,o,(c2.2 it (Qj hei)).trans eo,ro⟩
 done:=by
  intro X hP hw hK hc i pins s σ H E I hf st hg;subst hP hw hK;obtain⟨xs,hx,k⟩:=hg;obtain⟨⟨old,a1⟩,a4⟩:=st;obtain⟨its,rx,px,_⟩:=I.list hx;have h1:=rx.length;have hIT:s.heap.IsList l its.toArray:=px.isList
  have hs:its.toArray.size=i:=by simp;omega
  refine wpAny_pyNext_enum_endD (WP (A:=X.A.in1) (by simp[I.ok.hd hc]) it l hli its.toArray) a1 ⟨by rw[hs];exact a4,hIT⟩ fun h' b7=>⟨rfl,vY (t':=s.toks) (fp:=[e,it]) I (fun b ob hb q=>?_) hf⟩;simp only[NR,O5,or_false,not_or] at hb;exact b7 b ob hb.2 q
 self:=fun _ _ _ _ _ st h=>let ⟨old,he⟩:=st.1;UP he h
section
variable {X:Cx}{pos:Pos}
def GS(K:Frag)(ta:TA):TI:=fun σ H R=>ta σ H fun vs H1=>∃a xs,vs=[.ref a]/\SqL K H1 a xs/\(xs.length<=NS->R (zQ K a) H1)
theorem Ct{a:Expr}{ta:TA}{elts:List Expr}{x1:Nat}{tpos p:Pos}(hg:Gl X "enumerate")(hm:X.mg "enumerate"=none)(ha:PA X [a] ta)(hs:NU [a] X.env=[(false,eval a X.env)]) :
  PI X (.Tuple elts x1 tpos) (.Call (.Name "enumerate" p) [a] [] pos) (GS X.K ta):=by
 intro pins s σ H R I h;refine Call_ (lj I hg hm B9 (QI (thn (ha pos pins s σ H _ I h) fun us s1 ⟨vs,H1,I1,r1,q1⟩=>?_) hs rfl));obtain⟨l,xs,e,hx,q⟩:=q1;subst e
 cases r1 with
 |cons r rr=>
  cases rr;cases r;obtain⟨its,rx,px,zx⟩:=I1.list hx;have hIT:s1.heap.IsList l its.toArray:=px.isList
  have L1:l<s1.heap.objs.size:=by obtain⟨_,e,_⟩:=hIT;exact Oc e
  refine call_enumerate_list hIT fun h' c1 c2 c3 c7=>?_;have I2:Inv X pins σ H1 { s1 with heap:=h' }:=I1.kept (t':=s1.toks) c7;refine UP c1 ⟨s1.heap.objs.size+1,[s1.heap.objs.size+1,s1.heap.objs.size],_,_,H1,rfl,I2,AL (Nat.succ_ne_self _) (Ox (QK L1)) (Ox L1),⟨⟨_,c1⟩,c2⟩,fun b hb=>?_,q zx⟩
  have hb':s1.heap.objs.size<=b:=by
   simp only[NR,O5,or_false] at hb
   rcases hb with q|q <;> rw[q] <;> first|exact Nat.le_add_right _ _|exact NT _
  exact I1.fpOk hb' (I1.hok.fresh hb')
end
def gE(i j:Nat)(body:FS):Nat->List NG->FS
 |n,x::xs=>fun ρ T=>bnd (body ((ρ.set i (some (.d (.int (n:Int))))).set j (some (.d x))) T) fun p T1=>match p with
  |(.nx,ρ1)=>gE i j body (n+1) xs ρ1 T1
  |(.ct,ρ1)=>gE i j body (n+1) xs ρ1 T1
  |(.bk,ρ1)=>some ((.nx,ρ1),T1)
  |(.rt x,ρ1)=>some ((.rt x,ρ1),T1)
  |(.ro x,ρ1)=>some ((.ro x,ρ1),T1)
 |_,[]=>aF
def yf(i j:Nat)(body:FS)(ρ:Rho)(w:W)(T:Tp):Option ((Fl×Rho)×Tp):=match w with
 |.d (.list xs)=>gE i j body 0 xs ρ T
 |_=>none
def lB(i j:Nat)(f:FE)(body:FS):FS:=fun ρ T=>bnd (f ρ T) fun w T1=>yf i j body ρ w T1
theorem C9{X:Cx}{pos:Pos}{i j:Nat}{x y:Str}{a:Expr}{f:FE}{g:FS}{body:List Stmt}{k:Nat}{px py tpos zp cpos:Pos}(hm:X.mg "enumerate"=none)(hN:X.N.Nodup)(ha:DE X a f)(hb:DSs X body g)(hg:Gl X "enumerate":=by rfl)(hi:X.N[i]? = some x:=by rfl)(hj:X.N[j]? = some y:=by rfl)(hx:Loc X.env.scope x:=by first|exact Pj rfl|exact OY rfl)(hy:Loc X.env.scope y:=by first|exact Pj rfl|exact OY rfl)
  (hf:X.fn x=true\/X.env.scope.names.lookup x=some .local:=by first|exact .inl rfl|exact .inr rfl|assumption) (hf':X.fn y=true\/X.env.scope.names.lookup y=some .local:=by first|exact .inl rfl|exact .inr rfl|assumption) (hp:RU (Ot X.prog X.w) X.A X.env X.xe:=by exact RJ) (hc:X.calm=true:=by rfl)
  (hs1:NU [a] X.env=[(false,eval a X.env)]:=by exact qi rfl) (hs2:NU [] X.env=[]:=by rfl) (hs:∀v,O7 (.Call (.Name "enumerate" zp) [a] [] cpos) X.env v=pure v:=by intro _;rfl) :
  DS X (.For (.Tuple [.Name x px,.Name y py] k tpos) (.Call (.Name "enumerate" zp) [a] [] cpos) body [] pos) (lB i j f g):=by
 refine⟨?_⟩;refine cz (xQ hp hc (Ct (ta:=rX (lift X.K f) sA) hg hm (dz ha.pe di (by rw[hs1,hs2])) hs1) (rF hc (iL (gr hN hi hx hf) (iL (gr hN hj hy hf') qB))) hb.pe hs) fun D σ H=>?_;rintro⟨O₀,H₀,F,ts,O,ρ,T,fl,ρ',T',rs,e,q⟩;obtain⟨w1,T1,e1,e⟩:=aP e;refine⟨O,ts,ρ,T,w1,T1,rs.hc,rs.re,e1,fun v1 H1 s1 hc1 r1=>?_⟩;have rs1:=rs.step s1 hc1
 have hw:∃dx,w1=.d (.list dx):=by
  unfold yf at e;split at e
  .exact⟨_,rfl⟩
  .cases e
 obtain⟨dx,rfl⟩:=hw;have r1':Rep X.K O H1 v1 (.list dx):=r1
 cases r1' with
 |@lst la vx _ tx rx=>
 refine⟨la,vx,rfl,tx.sq,fun zx=>?_⟩;have lx:=rx.length;refine⟨fun n m σ H=>m=dx.length-n/\n<=dx.length/\∃O' ρk Tk,RS X.K O₀ H₀ ((O,H1)::F) ts O' H σ ρk Tk/\gE i j g n (dx.drop n) ρk Tk=some ((fl,ρ'),T'),⟨_,rfl,Pi _,O,ρ,T1,rs1.more,e⟩,?_⟩;rintro n m σ3 H3 ⟨rfl,hk,O',ρk,Tk,rs3,ek⟩;have le:=rs3.frs _ NI;have tx3:=(tx.mono le).sq
 by_cases hlt:n<dx.length
 .refine .inr ⟨⟨vx,tx3,by omega⟩,fun σ3 H3=>∃O' ρk Tk,RS X.K O₀ H₀ ((O,H1)::F) ts O' H3 σ3 ρk Tk/\gE i j g (n+1) (dx.drop (n+1)) ρk Tk=some ((fl,ρ'),T'),fun σ3 H3 nn=>⟨dx.length-(n+1),by omega,rfl,hlt,nn⟩,fun v H4 yy=>?_⟩
  obtain⟨p,v',hpn,kx,rfl,rfl⟩:=yy;obtain⟨d1,hd1,rd1⟩:=rx.get (kx vx tx3)
  have hdx:dx.drop n=d1::dx.drop (n+1):=by rw[Qh hlt,(NM.mp hd1).2]
  rw[hdx] at ek;obtain⟨⟨fl1,ρ1⟩,T3,e3,ek⟩:=aP ek;have rs4:=rs3.step (.new hpn (.tup [.int (n:Int),v'])) (rs3.hc.new hpn _);have le2:=le.trans (rs3.hc.leNew hpn (.tup [.int (n:Int),v']));refine⟨p,_,rfl,SqT.of bx,rfl,_,_,rfl,_,_,rfl,rfl,O₀,H₀,(O,H1)::F,ts,O',_,Tk,fl1,ρ1,T3,(rs4.set (i:=i) (w:=.d (.int (n:Int))) (Rep.int _) (fun _ z=>nomatch z)).set (i:=j) (w:=.d d1) (Rep.mono le2 rd1) (fun _ z=>nomatch z),e3,?_⟩
  cases fl1 with
  |nx=>exact fun O3 σ3 H3 rs3=>⟨O3,ρ1,T3,rs3,ek⟩
  |ct=>exact fun O3 σ3 H3 rs3=>⟨O3,ρ1,T3,rs3,ek⟩
  |bk=>
   cases ek;exact fun O3 σ3 H3 rs3=>q O3 σ3 H3 rs3.less
  |rt x=>
   cases ek;exact q
  |ro x=>
   cases ek;exact q
 .rw[Pr (show dx.length<=n by omega)] at ek
  cases ek;exact .inl ⟨⟨vx,tx3,by omega⟩,q O' σ3 H3 rs3.less⟩
section
variable {X:Cx}{pos:Pos}{e:Expr}{fe:FE}
end
section
variable {K:Frag}{O₀:Addr->Prop}{H₀:Hp}{F:List ((Addr->Prop)×Hp)}{ts:List Addr}{O:Addr->Prop}{H H1:Hp}{σ:L2.St}{ρ:Rho}{T T1:Tp}
end
section
variable {X:Cx}{pos:Pos}
end
section
variable {X:Cx}{pos pos2 pos3:Pos}
end
inductive LnT(P:Hp->(Bool->Hp->Prop)->Prop):Hp->(Bool->Hp->Prop)->Prop where
 |done {H:Hp}{Q:Bool->Hp->Prop}:P H Q->LnT P H Q
 |frz {H:Hp}{Q:Bool->Hp->Prop}{a:Addr}{kvs:List (Key×V)}:H a=some (.dK kvs)->(∀o,LnT P (upd H a (.frz o (.dK kvs))) (fun b H2=>H2 a=some (.frz o (.dK kvs))/\Q b (upd H2 a (.dK kvs))))->LnT P H Q
section
variable {X:Cx}{pos pos2 pos3 pos4:Pos}
end
section
variable {X:Cx}{pos:Pos}
end
section
variable {X:Cx}
end
section
variable {X:Cx}{pos:Pos}
end
theorem Gn{X:Cx}:OpR X (Oh .Is) (fun x y H Q=>∃b c,x=.bl b/\y=.bl c/\Q (.bl (b == c)) H):=by
 intro pins s σ H x y v u Q I rx ry h;obtain⟨b,c,rfl,rfl,q⟩:=h;cases rx;cases ry;exact is_bool ⟨.bl (b == c),H,I,rfl,q⟩
def ma:NG->NG->Option NG
 |.bool a,.bool b=>some (.bool (a == b))
 |_,_=>none
theorem Ic{X:Cx}:OpD X (Oh .Is) ma:=⟨_,Gn,fun O ts H T v1 v2 x y d Q hc h1 h2 e q=>by
 unfold ma at e;split at e
 .cases e
  exact⟨_,_,h1.bl,h2.bl,q _ H (.refl _ _) hc (.bl _)⟩
 .cases e⟩
end D
namespace L2
open PySem PySem.Spec PyProof.Rows
section
variable {X:Cx}
def PE1(X:Cx)(e:Expr)(t:TE):Prop:=∀(pins:List (Addr×Obj)) (s:NL) (σ:St) (H:Hp) (Q:VK),Inv X pins σ H s->1<=s.toks->t σ H Q->Oo (Ot X.prog X.w) X.A (eval e X.env) (EP X pins σ Q) X.xe s
theorem PE.one1{e:Expr}{t:TE}(h:PE X e t):PE1 X e t:=fun pins s σ H Q I _ q=>h pins s σ H Q I q
def Hy(to:TE)(y z:Str):TE:=fun σ H Q=>to σ H fun x H1=>∃w:Str,x=.str w/\w.length<=1048576/\z.length<=14/\(y == z)=false/\Q (.str (OC w y z)) H1
theorem Ai{o:Expr}{to:TE}{y z:Str}{j1 j2:Nat}{p1 p2 apos cpos:Pos}(ho:PE1 X o to)
  (hbase:O8 o "replace" X.env (eval o X.env)=eval o X.env:=by rfl)
  (hfew:((O4 cpos (NU [.Constant (.str y) j1 p1,.Constant (.str z) j2 p2] X.env)).all (fun x=>!x.1)&&(QE cpos (PV [] X.env)).all (fun x=>x.1.isSome)
   && decide (([.Constant (.str y) j1 p1,.Constant (.str z) j2 p2]:List Expr).length+([]:List Pw).length+(if ([]:List Pw).isEmpty then 0 else 1)<30))=true:=by rfl)
  (hline:(apos.endLine == cpos.line)=true:=by rfl) :
  PE1 X (.Call (.Attribute o "replace" apos) [.Constant (.str y) j1 p1,.Constant (.str z) j2 p2] [] cpos) (Hy to y z):=by
 intro pins s σ H Q I ht h;refine Rk hbase hfew hline rfl ?_;refine wpAny_with_toks ht (PX (ho pins s σ H _ I ht h) (fun v s1 q1 h1=>?_) fun _ _ e _=>e);obtain⟨x,H1,I1,r1,w,e,z1,z2,z3,q⟩:=q1;subst e;obtain⟨t,rfl⟩:=r1;obtain⟨h2,h3⟩:=nF (T:="str") (x:=.str w) I1 ⟨t,rfl⟩ rfl;refine⟨"str","str.replace",Qd,PySem.F.slot_str_replace,PySem.F.type_str_replace,h2,h3,?_⟩;refine Qz (by rfl) (RC ?_);refine R5 (R3 (k:=j1) (pos:=p1) ?_);refine R5 (R3 (k:=j2) (pos:=p2) (UF ?_));exact SC.replaceW (by show s1.toks≠0;omega) (by show s1.toks+1≠0;omega) (by show s1.toks≠s1.toks+1;omega) z3 z1 z2 fun t' k=>⟨.str _,H1,I1.tok k,⟨t',rfl⟩,q⟩
theorem wC{e:Expr}{t t':TE}(h:PE1 X e t)(i:∀σ H Q,t' σ H Q->t σ H Q):PE1 X e t':=fun pins s σ H Q I k q=>h pins s σ H Q I k (i σ H Q q)
theorem Ge{T:String}{name:Str}{id:String}{r:V->List V->Hp->VK->Prop}{o e:Expr}{es:List Expr}{to:TE}{t:TA}{apos cpos:Pos}(pa:VI T)(slot:Slot T name id)(hty:typeOf (.builtin id)=pure (.type "method_descriptor"))(hm:MtR X id r)(ho:PE1 X o to)(ha:PA X (e::es) t)
  (hbase:O8 o name X.env (eval o X.env)=eval o X.env)
  (hfew:((O4 cpos (NU (e::es) X.env)).all (fun x=>!x.1)&&(QE cpos (PV [] X.env)).all (fun x=>x.1.isSome)
   && decide ((e::es).length+([]:List Pw).length+(if ([]:List Pw).isEmpty then 0 else 1)<30))=true)
  (hline:(apos.endLine == cpos.line)=true) (hs:NU (e::es) X.env=(false,eval e X.env)::NU es X.env) (hplain:(O4 cpos (NU es X.env)).any (·.1)=false) :
  PE1 X (.Call (.Attribute o name apos) (e::es) [] cpos) (tBM X.K T r to t):=by
 intro pins s σ H Q I k h;refine Rk hbase hfew hline rfl (thn (ho pins s σ H _ I k h) fun v s1 q1=>?_);obtain⟨x,H1,I1,r1,ty,q1⟩:=q1;obtain⟨h1,h2⟩:=nF I1 r1 ty;have hA:=ha cpos pins s1 σ H1 _ I1 q1;refine⟨T,id,pa,slot,hty,h1,h2,?_⟩;rw[hs] at hA ⊢;refine Qz (by show (false||(O4 cpos (NU es X.env)).any (·.1))=false;rw[hplain];rfl) (RC ?_)
 exact thn hA fun us s2 q2=>by
  obtain⟨vs,H2,I2,r2,q2⟩:=q2;exact hm pins s2 σ H2 x vs v us Q I2 r1 r2 q2
def PI1(X:Cx)(tg iter:Expr)(wi:TI):Prop:=
 ∀(pins:List (Addr×Obj)) (s:NL) (σ:St) (H:Hp) (R:It->Hp->Prop),Inv X pins σ H s->1<=s.toks->wi σ H R ->
  Oo (Ot X.prog X.w) X.A (eval iter X.env) (fun v s1=>Oo (Ot X.prog X.w) X.A (pyIter v) (PIE X pins σ tg R) X.xe s1) X.xe s
def iL1(K:Frag)(tl:TE):TI:=fun σ H R=>tl σ H fun x H1=>∃a xs,x=.ref a/\SqL K H1 a xs/\(xs.length<=NS->R (Itl K a) H1)
theorem Cu{tg l:Expr}{tl:TE}(hl:PE1 X l tl):PI1 X tg l (iL1 X.K tl):=by
 intro pins s σ H R I k h;refine thn (hl pins s σ H _ I k h) fun v s1 q1=>?_;obtain⟨x,H1,I1,r1,q1⟩:=q1;obtain⟨a,xs,e,hq,q⟩:=q1;subst e;cases r1;obtain⟨its,rv,p,hz⟩:=I1.list hq;refine Rm p.isList ?_;refine⟨s1.heap.objs.size,[s1.heap.objs.size],_,_,H1,rfl,I1.kept (t':=s1.toks) fun b o e=>NO _ e,uh a _,⟨_,On _ rfl,rfl,rfl⟩,fun b hb=>?_,q hz⟩
 have e:b=s1.heap.objs.size:=by simpa using hb
 subst e;exact I1.fpOk (NT _) (I1.hok.fresh (NT _))
def PS1(X:Cx)(st:Stmt)(t:TS):Prop:=∀(pins:List (Addr×Obj)) (s:NL) (σ:St) (H:Hp) (D:Ends),Inv X pins σ H s->1<=s.toks->t D σ H->Oo (Ot X.prog X.w) X.A (exec st X.env) (SP X pins D) X.xe s
def mn(X:Cx)(st:List Stmt)(t:TS):Prop:=∀(pins:List (Addr×Obj)) (s:NL) (σ:St) (H:Hp) (D:Ends),Inv X pins σ H s->1<=s.toks->t D σ H->Oo (Ot X.prog X.w) X.A (execs st X.env) (SP X pins D) X.xe s
theorem Ec{tg:Expr}{iter:Expr}{body:List Stmt}{wi:TI}{g:TG}{tb:TS}{pos:Pos}(hp:RU (Ot X.prog X.w) X.A X.env X.xe)(hc:X.calm=true)(hi:PI1 X tg iter wi)(hg:PG X tg g)(hb:PSs X body tb)
  (hs:∀x,O7 iter X.env x=pure x:=by intro _;rfl):PS1 X (.For tg iter body [] pos) (zq wi g tb):=by
 intro pins s σ H D I k0 h;refine wpAny_For (thn (hi pins s σ H _ I k0 h) fun v s1 h1=>thn h1 fun itv s2 h2=>?_) hs;obtain⟨it,fp,tn,J,H2,e,I2,T,st2,f2,W,⟨m0,w0⟩,turn⟩:=h2;subst e;have stat:∀{H':Hp},(∀b∈fp,H' b=none)->∀b∈fp,dR X pins H' b:=fun hn b hb=>⟨hn b hb,(f2 b hb).2⟩;refine Ua (fun n s'=>∃i σ' H',Inv X pins σ' H' s'/\tn i s'.heap/\(∀b∈fp,H' b=none)/\W i n σ' H') ?_ m0 ⟨0,σ,H2,I2,st2,fun b hb=>(f2 b hb).1,w0⟩;rintro n s3 ⟨i,σ3,H3,I3,st3,fr3,w3⟩
 rcases turn i n σ3 H3 w3 with⟨stop,qn⟩|⟨go,N,hN,step⟩
 .refine Pb hp (thn (T.done X rfl rfl rfl hc i pins s3 σ3 H3 X.xe I3 (stat fr3) st3 stop) fun r s4 ⟨hr,I4⟩=>?_)
  subst hr;exact QD ⟨σ3,H3,I4,qn⟩
 .refine Pb hp (thn (T.item X rfl rfl rfl hc i pins s3 σ3 H3 X.xe I3 (stat fr3) st3 go) fun r s4 ⟨u,hr,h4⟩=>?_)
  subst hr;refine Pb hp (thn h4 fun _ s5 ⟨x,H5,I5,r5,y5,st5,fr5⟩=>?_);have I5':=I5.pinned (stat fr5) (T.obj _ _ st5);refine Pb hp (thn (hg _ s5 σ3 H5 x u _ I5' r5 (step x H5 y5)) fun _ s6 ⟨σ6,H6,I6,q6⟩=>?_);refine Pb hp (thn (hb _ s6 σ6 H6 _ I6 q6) fun f s7 q7=>?_)
  have Wn:∀{σ7:St}{H7:Hp},Inv X (pins++gy fp s5.heap) σ7 H7 s7->N σ7 H7->∃m,m<n/\∃i σ' H',Inv X pins σ' H' s7/\tn i s7.heap/\(∀b∈fp,H' b=none)/\W i m σ' H':=fun {σ7 H7} I7 n7=>by
   obtain⟨m',hm,w7⟩:=hN σ7 H7 n7;refine⟨m',hm,i+1,σ7,H7,I7.unpinned,T.keep _ _ _ st5 fun b hb o e=>(I7.pin (b,o) (Om _ (Om _ (jm hb e)))).1,fun b hb=>?_,w7⟩;obtain⟨o,e,d⟩:=T.obj _ _ st5 b hb;exact(I7.pin (b,o) (Om _ (Om _ (jm hb e)))).2.1
  cases f with
  |next=>obtain⟨σ7,H7,I7,n7⟩:=q7;exact Wn I7 n7
  |cont=>obtain⟨σ7,H7,I7,n7⟩:=q7;exact Wn I7 n7
  |brk=>obtain⟨σ7,H7,I7,q7⟩:=q7;exact⟨σ7,H7,I7.unpinned,q7⟩
  |ret v=>obtain⟨x7,σ7,H7,I7,r7,q7⟩:=q7;exact⟨x7,σ7,H7,I7.unpinned,r7,q7⟩
theorem Eb{e:Stmt}{t t':TS}(h:PS1 X e t)(i:∀D σ H,t' D σ H->t D σ H):PS1 X e t':=fun pins s σ H D I k q=>h pins s σ H D I k (i D σ H q)
theorem Cp{e:List Stmt}{t t':TS}(h:mn X e t)(i:∀D σ H,t' D σ H->t D σ H):mn X e t':=fun pins s σ H D I k q=>h pins s σ H D I k (i D σ H q)
theorem Bw{st:Stmt}{rest:List Stmt}{t u:TS}(h1:PS1 X st t)(h2:PSs X rest u):mn X (st::rest) (zo t u):=by
 intro pins s σ H D I k h;refine Rt (thn (h1 pins s σ H { D with nx:=u D } I k h) fun f s1 q=>?_)
 cases f with
 |next=>
  obtain⟨σ',H',I',q⟩:=q;exact h2 pins s1 σ' H' D I' q
 |ret v=>exact q
 |brk=>exact q
 |cont=>exact q
def PT1(X:Cx)(e:Expr)(t:TT):Prop:=∀(pins:List (Addr×Obj)) (s:NL) (σ:St) (H:Hp) (Q:Bool->Hp->Prop),Inv X pins σ H s->t σ H Q->Oo (Ot X.prog X.w) X.A (VE e X.env (eval e X.env)) (fun b s'=>TP X pins σ Q b s'/\(b=false->1<=s'.toks)) X.xe s
theorem wx{e:Expr}{t t':TT}(h:PT1 X e t)(i:∀σ H Q,t' σ H Q->t σ H Q):PT1 X e t':=fun pins s σ H Q I q=>h pins s σ H Q I (i σ H Q q)
theorem D9{op:Tj}{r:R2}{a:Expr}{ta:TE}{i:Int}{j:Nat}{p pos:Pos}(ho:OpR X (Oh op) r)(ha:PE X a ta)(hm:P2 op (.Constant (.int i) j p)=false):PT1 X (.Compare a [op] [.Constant (.int i) j p] pos) (rW (tOp r ta (tC (.int i)))):=by
 intro pins s σ H Q I h;refine Rq (thn (ha pins s σ H _ I h) fun v s1 q1=>RZ ?_) hm;obtain⟨x,H1,I1,r1,q1⟩:=q1;refine PX (wpAny_toks_of (n:=1) (by show 1<=s1.toks+1;omega) (ho pins _ σ H1 x (.int i) v _ _ (I1.tok _) r1 ⟨_,rfl⟩ q1)) (fun c s3 q3=>?_) fun _ _ e=>e.2;obtain⟨k3,z,H3,I3,r3,k,e,q3⟩:=q3;subst e;cases r3;exact O6 ⟨⟨H3,I3,q3⟩,fun _=>k3⟩
theorem F5{a b:Expr}{tA tB':TT}{pos:Pos}(ha:PT X a tA)(hb:PT1 X b tB'):PT1 X (.BoolOp .Or [a,b] pos) (tOr tA tB'):=by
 intro pins s σ H Q I h;refine U0 (thn (ha pins s σ H _ I h) fun c s1 q1=>?_);obtain⟨H1,I1,q1⟩:=q1
 cases c with
 |true=>exact⟨⟨H1,I1,q1⟩,fun z=>nomatch z⟩
 |false=>
  refine U0 (thn (hb pins s1 σ H1 Q I1 q1) fun c s2 e=>?_)
  cases c with
  |false=>exact isTrue_or_nil e
  |true=>exact e
def Jf(tc:TT)(t u:TS):TS:=fun D σ H=>tc σ H fun b H1=>if b=true then t { D with nx:=fun _ _=>False } σ H1 else u D σ H1
theorem Ea{c:Expr}{a rest:List Stmt}{tc:TT}{t u:TS}{pos:Pos}(hc:PT1 X c tc)(ha:PSs X a t)(hr:mn X rest u):PSs X (.If c a [] pos::rest) (Jf tc t u):=by
 intro pins s σ H D I h;refine Rt (wpAny_If (thn (hc pins s σ H _ I h) fun d s1 q1=>?_));obtain⟨⟨H1,I1,q1⟩,k⟩:=q1
 cases d with
 |true=>
  refine thn (ha pins s1 σ H1 _ I1 q1) fun f s2 q2=>?_
  cases f with
  |next=>obtain⟨_,_,_,z⟩:=q2;exact z.elim
  |ret v=>exact q2
  |brk=>exact q2
  |cont=>exact q2
 |false=>exact QD (hr pins s1 σ H1 D I1 (k rfl) q1)
end
end L2
namespace D
open PySem PySem.Spec PyProof.Rows L2
abbrev Stk:=List (List NG)
theorem CY{α:Type}(xs:List α)(x:α):ixN (xs++[x]).length (-1)=some xs.length:=by
 have h:(-1+((xs.length:Int)+1)).toNat=xs.length:=by omega
 have h1:(1:Int)<=(xs.length:Int)+1:=by omega
 simp[ixN,h,h1]
theorem Dt{α:Type}(xs:List α)(x:α):atI (xs++[x]) (-1)=some x:=by
 unfold atI;rw[CY];simp
abbrev FK:=Rho->Stk->Tp->Option ((Fl×Rho×Stk)×Tp)
def Jj(s:Stk):PyData:=.list (s.reverse.map .list)
def onK(i:Nat)(ρ:Rho)(s:Stk):Rho:=ρ.set i (some (.loc (Jj s)))
inductive StkAt(K:Frag)(O:Addr->Prop)(H:Hp):List Addr->Stk->Prop where
 |nil:StkAt K O H [] []
 |cons {b:Addr}{bs:List Addr}{vs:List V}{ys:List NG}{s:Stk}:H b=some (.lst vs)->Reps K O H vs ys->StkAt K O H bs s->StkAt K O H (b::bs) (ys::s)
theorem StkAt.mono{K:Frag}{O O':Addr->Prop}{H H':Hp}(l:Le O H O' H'):∀{bs:List Addr}{s:Stk},StkAt K O H bs s->(∀b∈bs,∀o,H b=some o->H' b=some o)->StkAt K O' H' bs s
 |_,_,.nil,_=>.nil
 |_,_,.cons h r t,k=>.cons (k _ NI _ h) (r.mono l) (StkAt.mono l t fun b hb=>k b (NJ _ hb))
theorem StkAt.length{K:Frag}{O:Addr->Prop}{H:Hp}:∀{bs:List Addr}{s:Stk},StkAt K O H bs s->bs.length=s.length
 |_,_,.nil=>rfl
 |_,_,.cons _ _ t=>congrArg (· + 1) t.length
theorem StkAt.reps{K:Frag}{O O':Addr->Prop}{H:Hp}(l:Le O H O' H):∀{bs:List Addr}{s:Stk},StkAt K O H bs s->(∀b∈bs,¬O' b)->Reps K O' H (bs.reverse.map V.ref) (s.reverse.map .list)
 |_,_,.nil,_=>.nil
 |_,_,.cons h r t,k=>by
  rw[OX,OX,Pn,Pn];exact(StkAt.reps l t fun b hb=>k b (NJ _ hb)).append (.cons (.lst (.inl ⟨k _ NI,.inl h⟩) (r.mono l)) .nil)
structure KS(K:Frag)(O₀:Addr->Prop)(H₀:Hp)(ts:List Addr)(O:Addr->Prop)(H:Hp)(σ:L2.St)(i:Nat)(a:Addr)(bs:List Addr)(s:Stk):Prop where
 sa:σ[i]? = some (some (.ref a))
 ha:H a=some (.lst (bs.reverse.map V.ref))
 nd:(a::bs).Nodup
 ow:∀b∈a::bs,O b/\b∉ts/\H₀ b=none/\¬O₀ b
 st:StkAt K O H bs s
structure RK(K:Frag)(O₀:Addr->Prop)(H₀:Hp)(F:List ((Addr->Prop)×Hp))(ts:List Addr)(O:Addr->Prop)(H:Hp)(σ:L2.St)(ρ:Rho)(T:Tp)(i:Nat)(s:Stk):Prop where
 rs:RS K O₀ H₀ F ts O H σ ρ T
 pd:∀(j:Nat) (w:W),ρ[j]? = some (some w)->∃x,w=.d x
 ui:ρ[i]? = some none
 ks:∃a bs,KS K O₀ H₀ ts O H σ i a bs s
def IX(K:Frag)(O₀:Addr->Prop)(H₀:Hp)(F:List ((Addr->Prop)×Hp))(ts:List Addr)(i:Nat)(D:Ends)(ρ':Rho)(s':Stk)(T':Tp):Fl->Prop
 |.nx=>∀O' σ' H',RK K O₀ H₀ F ts O' H' σ' ρ' T' i s'->D.nx σ' H'
 |.bk=>∀O' σ' H',RK K O₀ H₀ F ts O' H' σ' ρ' T' i s'->D.bk σ' H'
 |.ct=>∀O' σ' H',RK K O₀ H₀ F ts O' H' σ' ρ' T' i s'->D.ct σ' H'
 |.rt x=>∀v H',SameX ts H₀ H'->HC K O₀ ts H' T'->Rep K O₀ H' v x->D.rt v H'
 |.ro _=>False
inductive LiftKP(K:Frag)(i:Nat)(f:FK)(D:Ends)(σ:L2.St)(H:Hp):Prop where
 |mk (O₀:Addr->Prop) (H₀:Hp) (F:List ((Addr->Prop)×Hp)) (ts:List Addr) (O:Addr->Prop) (ρ:Rho) (s:Stk) (T:Tp) (fl:Fl) (ρ':Rho) (s':Stk) (T':Tp) (rk:RK K O₀ H₀ F ts O H σ ρ T i s) (e:f ρ s T=some ((fl,ρ',s'),T')) (q:IX K O₀ H₀ F ts i D ρ' s' T' fl):LiftKP K i f D σ H
structure DK(X:Cx)(i:Nat)(s:Stmt)(f:FK):Prop where
 pe:PS X s (LiftKP X.K i f)
structure DKs(X:Cx)(i:Nat)(s:List Stmt)(f:FK):Prop where
 pe:PSs X s (LiftKP X.K i f)
section
variable {K:Frag}{O₀:Addr->Prop}{H₀:Hp}{F:List ((Addr->Prop)×Hp)}{ts:List Addr}{O:Addr->Prop}{H H1:Hp}{σ:L2.St}{ρ:Rho}{T T1:Tp}{i:Nat}{s:Stk}
theorem RS.lay0{p:Addr}{o:HO}(r:RS K O₀ H₀ F ts O H σ ρ T)(pd:∀(j:Nat) (w:W),ρ[j]? = some (some w)->∃x,w=.d x)(hp:H p=none)(hm:Mut (some o)):Le O H (fun b=>O b\/b=p) (upd H p o)/\RS K O₀ H₀ F ts (fun b=>O b\/b=p) (upd H p o) σ ρ T:=by
 have le:Le O H (fun b=>O b\/b=p) (upd H p o):=fun a o n e=>by
  have z:a≠p:=cX e hp;exact⟨fun q=>q.elim n z,by rw[aS z];exact e⟩
 refine⟨le,⟨fun b hb=>.inl (r.hc.own b hb),fun b hb=>?_,r.hc.nd,r.hc.len,fun j a ys e1 e2=>?_⟩,fun j w e=>?_,fun b hb=>.inl (r.sub b hb),r.ots,r.same.trans (.new hp _),fun j ys a e1 e2=>?_,fun j k ys zs v e1 e2 e3 e4=>?_,fun f hf=>(r.frs f hf).trans le,r.len⟩
 .by_cases z:b=p
  .subst z;rw[bx];exact hm
  .rw[aS z]
   exact r.hc.trk b (hb.resolve_right z)
 .exact(r.hc.tape j a ys e1 e2).mono (fun o q=>by rw[aS (cX q hp)];exact q) le
 .obtain⟨x,h1,h2⟩:=r.re j w e
  obtain⟨y,rfl⟩:=pd j w e;exact⟨x,h1,Rep.mono le h2⟩
 .obtain⟨y,z⟩:=pd _ _ e1;cases z
 .obtain⟨y,z⟩:=pd _ _ e1;cases z
theorem RS.wr0{a:Addr}{o:HO}(r:RS K O₀ H₀ F ts O H σ ρ T)(pd:∀(j:Nat) (w:W),ρ[j]? = some (some w)->∃x,w=.d x)(oa:O a)(nt:a∉ts)(f1:H₀ a=none)(hm:Mut (some o)):Le O H O (upd H a o)/\RS K O₀ H₀ F ts O (upd H a o) σ ρ T:=by
 have le:Le O H O (upd H a o):=fun b o n e=>⟨n,by rw[aS (show b≠a from fun z=>n (by rw[z];exact oa))];exact e⟩;refine⟨le,⟨r.hc.own,fun b hb=>?_,r.hc.nd,r.hc.len,fun j b zs q1 q2=>?_⟩,fun j w e=>?_,r.sub,r.ots,fun b o n e=>?_,fun j ys a e1 e2=>?_,fun j k ys zs v e1 e2 e3 e4=>?_,fun f hf=>(r.frs f hf).trans le,r.len⟩
 .by_cases z:b=a
  .subst z;rw[bx];exact hm
  .rw[aS z];exact r.hc.trk b hb
 .exact(r.hc.tape j b zs q1 q2).mono (fun o q=>by rw[aS (show b≠a from fun z=>nt (by rw[←z];exact Oz q1))];exact q) le
 .obtain⟨x,h1,h2⟩:=r.re j w e
  obtain⟨y,rfl⟩:=pd j w e;exact⟨x,h1,Rep.mono le h2⟩
 .have:=r.same b o n e
  rw[aS (show b≠a from fun z=>by rw[z,f1] at e;cases e)];exact this
 .obtain⟨y,z⟩:=pd _ _ e1;cases z
 .obtain⟨y,z⟩:=pd _ _ e1;cases z
theorem RK.step(r:RK K O₀ H₀ F ts O H σ ρ T i s)(x:SameX ts H H1)(c:HC K O ts H1 T1):RK K O₀ H₀ F ts O H1 σ ρ T1 i s:=by
 obtain⟨rs,pd,ui,a,bs,k⟩:=r;exact⟨rs.step x c,pd,ui,a,bs,k.sa,x _ _ (k.ow a NI).2.1 k.ha,k.nd,k.ow,k.st.mono (rs.hc.le x) fun b hb o e=>x _ _ (k.ow b (NJ _ hb)).2.1 e⟩
theorem RK.set{j:Nat}{v:V}{x:NG}(r:RK K O₀ H₀ F ts O H σ ρ T i s)(n:j≠i)(rv:Rep K O H v x):RK K O₀ H₀ F ts O H (σ.set j (some v)) (ρ.set j (some (.d x))) T i s:=by
 obtain⟨rs,pd,ui,a,bs,k⟩:=r;refine⟨rs.set (w:=.d x) rv (fun _ z=>nomatch z),fun m w e=>?_,by rw[NQ n];exact ui,a,bs,by rw[NQ n];exact k.sa,k.ha,k.nd,k.ow,k.st⟩
 by_cases z:j=m
 .subst z
  have hl:j<ρ.length:=by
   have:=(NM.mp e).1;simpa using this
  rw[NV hl] at e;cases e;exact⟨x,rfl⟩
 .rw[NQ z] at e
  exact pd m w e
theorem RK.test(r:RK K O₀ H₀ F ts O H σ ρ T i s):∃O',HC K O' [] H []/\RelE K O' [] H σ (onK i ρ s):=by
 obtain⟨rs,pd,ui,a,bs,k⟩:=r;have le:Le O H (fun b=>O b/\b∉bs) H:=fun b o n e=>⟨fun z=>n z.1,e⟩;have hl:i<ρ.length:=(NM.mp ui).1;refine⟨fun b=>O b/\b∉bs,⟨fun _ h=>(nomatch h),fun b hb=>rs.hc.trk b hb.1,Sg,rfl,fun j b ys e1 e2=>(by simp at e1)⟩,fun j w e=>?_⟩;unfold onK at e
 by_cases z:i=j
 .subst z
  rw[NV hl] at e;cases e;refine⟨.ref a,k.sa,a,rfl,⟨(k.ow a NI).1,(OE.mp k.nd).1⟩,fun h=>(nomatch h),?_⟩;exact⟨_,k.ha,k.st.reps le fun b hb z=>z.2 hb⟩
 .rw[NQ z] at e
  obtain⟨x,h1,h2⟩:=rs.re j w e;obtain⟨y,rfl⟩:=pd j w e;exact⟨x,h1,Rep.mono le h2⟩
theorem RK.tested(r:RK K O₀ H₀ F ts O H σ ρ T i s)(x:SameX [] H H1):RK K O₀ H₀ F ts O H1 σ ρ T i s:=by
 have s1:SameX ts H H1:=fun b o _ e=>x b o (fun h=>nomatch h) e;refine r.step s1 (r.rs.hc.step s1 fun b hb=>?_);obtain⟨u,z⟩:=(r.rs.hc.trk b (r.rs.hc.own b hb)).ex;rw[z];exact x b _ (fun h=>nomatch h) z
theorem RK.less{f:(Addr->Prop)×Hp}(r:RK K O₀ H₀ (f::F) ts O H σ ρ T i s):RK K O₀ H₀ F ts O H σ ρ T i s:=⟨r.rs.less,r.pd,r.ui,r.ks⟩
theorem RK.more(r:RK K O₀ H₀ F ts O H σ ρ T i s):RK K O₀ H₀ ((O,H)::F) ts O H σ ρ T i s:=⟨r.rs.more,r.pd,r.ui,r.ks⟩
end
theorem wD{ρ:Rho}(pd:∀(j:Nat) (w:W),ρ[j]? = some (some w)->∃x,w=.d x):sP ρ:=fun i ds e=>by
 obtain⟨x,z⟩:=pd _ _ e;cases z
def fw:FK:=fun ρ s T=>some ((.nx,ρ,s),T)
def oo(g:FK)(p:Fl×Rho×Stk)(T:Tp):Option ((Fl×Rho×Stk)×Tp):=match p with
 |(.nx,ρ1,s1)=>g ρ1 s1 T
 |(fl,ρ1,s1)=>some ((fl,ρ1,s1),T)
def b6(f g:FK):FK:=fun ρ s T=>bnd (f ρ s T) (oo g)
def r8(j:Nat)(ρ:Rho)(s:Stk)(w:W)(T:Tp):Option ((Fl×Rho×Stk)×Tp):=match w with
 |.d x=>some ((.nx,ρ.set j (some (.d x)),s),T)
 |_=>none
def j4(j:Nat)(f:FE):FK:=fun ρ s T=>bnd (f ρ T) (r8 j ρ s)
def jf(f g:FK)(ρ:Rho)(s:Stk)(T:Tp)(b:Bool)(_:Tp):Option ((Fl×Rho×Stk)×Tp):=if b=true then f ρ s T else g ρ s T
def kIf(i:Nat)(c:FT)(f g:FK):FK:=fun ρ s T=>bnd (c (onK i ρ s) []) (jf f g ρ s T)
def r9(ρ:Rho)(s:Stk)(w:W)(T:Tp):Option ((Fl×Rho×Stk)×Tp):=match w with
 |.d x=>some ((.rt x,ρ,s),T)
 |_=>none
def j5(f:FE):FK:=fun ρ s T=>bnd (f (cy ρ) T) (r9 ρ s)
def Iw(k:FK)(p:Fl×Rho×Stk)(T:Tp):Option ((Fl×Rho×Stk)×Tp):=match p with
 |(.nx,ρ1,s1)=>k ρ1 s1 T
 |(.ct,ρ1,s1)=>k ρ1 s1 T
 |(.bk,ρ1,s1)=>some ((.nx,ρ1,s1),T)
 |(.rt x,ρ1,s1)=>some ((.rt x,ρ1,s1),T)
 |(.ro x,ρ1,s1)=>some ((.ro x,ρ1,s1),T)
def dG(j:Nat)(body:FK):List NG->FK
 |[]=>fw
 |d::r=>fun ρ s T=>bnd (body (ρ.set j (some (.d d))) s T) (Iw (dG j body r))
def kFor(j:Nat)(it:FI)(body:FK):FK:=fun ρ s T=>bnd (it ρ T) fun ds T1=>dG j body ds ρ s T1
def jP:FK:=fun ρ s T=>if s.length<100000 then some ((.nx,ρ,[]::s),T) else none
def ou(ρ:Rho)(s:Stk)(k w:W)(T:Tp):Option ((Fl×Rho×Stk)×Tp):=match k,w,s with
 |.d (.int n),.d x,ys::r=>if n = -1/\ys.length<100000 then some ((.nx,ρ,(ys++[x])::r),T) else none
 |_,_,_=>none
def fD(fk fe:FE):FK:=fun ρ s T=>bnd (fk ρ T) fun k T1=>bnd (fe ρ T1) (ou ρ s k)
def l9(j:Nat):FK:=fun ρ s T=>match s with
 |ys::r=>some ((.nx,ρ.set j (some (.d (.tuple ys))),r),T)
 |[]=>none
theorem pR:∀{ρ:Rho},nM ρ=true->∀(j:Nat) (w:W),ρ[j]? = some (some w)->∃x,w=.d x
 |[],_,_,_,e=>by simp at e
 |none::r,h,0,_,e=>by simp at e
 |none::r,h,j+1,w,e=>pR (ρ:=r) h j w (by simpa using e)
 |some (.d x)::r,h,0,_,e=>by simp at e;exact⟨x,e.symm⟩
 |some (.d x)::r,h,j+1,w,e=>pR (ρ:=r) h j w (by simpa using e)
 |some (.tp _)::_,h,_,_,_=>by cases h
 |some (.loc _)::_,h,_,_,_=>by cases h
def nT(ρ:Rho)(o:Option ((Fl×Rho×Stk)×Tp)):Option ((Fl×Rho)×Tp):=match o with
 |some ((.rt x,_,_),T)=>some ((.rt x,ρ),T)
 |_=>none
section
variable {X:Cx}{pos:Pos}{st:Stmt}{rest:List Stmt}{f g:FK}{e:Expr}{fe:FE}{c:FT}{i:Nat}
theorem wX:DKs X i [] fw:=by
 refine⟨?_⟩;refine iN wA fun D σ H=>?_;rintro⟨O₀,H₀,F,ts,O,ρ,s,T,fl,ρ',s',T',rs,e,q⟩;cases e;exact q O σ H rs
theorem qt(h1:DK X i st f)(h2:DKs X i rest g):DKs X i (st::rest) (b6 f g):=by
 refine⟨?_⟩;refine iN (mP h1.pe h2.pe) fun D σ H=>?_;rintro⟨O₀,H₀,F,ts,O,ρ,s,T,fl,ρ',s',T',rs,e,q⟩;obtain⟨⟨fl1,ρ1,s1⟩,T1,e1,e⟩:=aP e;refine⟨O₀,H₀,F,ts,O,ρ,s,T,fl1,ρ1,s1,T1,rs,e1,?_⟩
 cases fl1 with
 |nx=>exact fun O' σ' H' rs'=>⟨O₀,H₀,F,ts,O',ρ1,s1,T1,fl,ρ',s',T',rs',e,q⟩
 |rt x=>cases e;exact q
 |ro x=>cases e;exact q
 |bk=>cases e;exact q
 |ct=>cases e;exact q
theorem fi(h1:DK X i st f):DKs X i [st] f:=⟨wy h1.pe⟩
theorem Ha{j:Nat}{x:Str}{pos':Pos}(hN:X.N.Nodup)(he:DE X e fe)(hj:j≠i:=by decide)(hi:X.N[j]? = some x:=by rfl)(hx:Loc X.env.scope x:=by first|exact Pj rfl|exact OY rfl)(hs:PN e (some (.Name x pos')) pos.line X.env=pure false:=by rfl)
  (hf:X.fn x=true\/X.env.scope.names.lookup x=some .local:=by first|exact .inl rfl|exact .inr rfl|assumption):DK X i (.Assign [.Name x pos'] e pos) (j4 j fe):=by
 refine⟨?_⟩;refine cz (gx hN hi hx he.pe hs hf) fun D σ H=>?_;rintro⟨O₀,H₀,F,ts,O,ρ,s,T,fl,ρ',s',T',rk,e,q⟩;obtain⟨w,T1,e1,e⟩:=aP e;refine⟨O,ts,ρ,T,w,T1,rk.rs.hc,rk.rs.re,e1,fun v H1 s1 hc1 r1=>?_⟩
 cases w with
 |d x=>cases e;exact q O _ _ ((rk.step s1 hc1).set hj r1)
 |tp k=>cases e
 |loc xs=>cases e
theorem lV{ce:Expr}{a b:List Stmt}(hc:DT X ce c)(ha:DKs X i a f)(hb:DKs X i b g):DK X i (.If ce a b pos) (kIf i c f g):=by
 refine⟨?_⟩;refine cz (yH hc.pe ha.pe hb.pe) fun D σ H=>?_;rintro⟨O₀,H₀,F,ts,O,ρ,s,T,fl,ρ',s',T',rk,e,q⟩;obtain⟨b1,T1,e1,e⟩:=aP e;obtain⟨O',c',re'⟩:=rk.test;refine⟨O',[],_,[],b1,T1,c',re',e1,fun H1 s1 hc1=>?_⟩
 cases b1 with
 |true=>exact e7 ⟨O₀,H₀,F,ts,O,ρ,s,T,fl,ρ',s',T',rk.tested s1,by simpa[jf] using e,q⟩
 |false=>exact e8 ⟨O₀,H₀,F,ts,O,ρ,s,T,fl,ρ',s',T',rk.tested s1,by simpa[jf] using e,q⟩
theorem yl(he:DE X e fe):DK X i (.Return (some e) pos) (j5 fe):=by
 refine⟨?_⟩;refine cz (rD he.pe) fun D σ H=>?_;rintro⟨O₀,H₀,F,ts,O,ρ,s,T,fl,ρ',s',T',rk,e,q⟩;obtain⟨w,T1,e1,e⟩:=aP e;obtain⟨c0,re0⟩:=rk.rs.frz (wD rk.pd);refine⟨O₀,ts,cy ρ,T,w,T1,c0,re0,e1,fun v H1 s1 hc1 r1=>?_⟩
 cases w with
 |d x=>cases e;exact q v H1 (rk.rs.same.trans s1) hc1 r1
 |tp k=>cases e
 |loc xs=>cases e
theorem E4{x:Str}{p apos:Pos}(hN:X.N[i]? = some x:=by rfl)(hv:Vis X.env.scope x:=by first|exact Pj rfl|exact OY (Pj rfl)|exact OY (OY rfl))(hd:(x == ("__debug__" : Str))=false:=by decide)
  (hcd:(x == ("__classdict__" : Str))=false:=by decide) {cpos lpos:Pos}
  (hbase:O8 (.Name x p) "append" X.env (eval (.Name x p) X.env)=eval (.Name x p) X.env:=by rfl)
  (hfew:((O4 cpos (NU [.List [] lpos] X.env)).all (fun x=>!x.1)&&(QE cpos (PV [] X.env)).all (fun x=>x.1.isSome)
   && decide (([.List [] lpos]:List Expr).length+([]:List Pw).length+(if ([]:List Pw).isEmpty then 0 else 1)<30))=true:=by exact j8 rfl)
  (hline:(apos.endLine == cpos.line)=true:=by rfl) (hse:NU [.List [] lpos] X.env=(false,eval (.List [] lpos) X.env)::NU [] X.env:=by exact bC rfl) (hplain:(O4 cpos (NU [] X.env)).any (·.1)=false:=by exact cJ rfl)
  (hs:PN (.Call (.Attribute (.Name x p) "append" apos) [.List [] lpos] [] cpos) none pos.line X.env=pure false:=by rfl) :
  DK X i (.Expr (.Call (.Attribute (.Name x p) "append" apos) [.List [] lpos] [] cpos) pos) jP:=by
 refine⟨?_⟩;refine cz (qA (lK Qu QZ Q0 pU (pv i hN hv hd hcd) (dz (jD di) di hse) hbase hfew hline hse hplain) hs) fun D σ H=>?_;rintro⟨O₀,H₀,F,ts,O,ρ,s,T,fl,ρ',s',T',rk,e,q⟩;unfold jP at e;split at e
 .rename_i hz
  cases e;obtain⟨rs,pd,ui,a,bs,k⟩:=rk;refine⟨_,k.sa,.inl ⟨rfl,_,SqL.of k.ha⟩,Pi _,fun b hb=>?_⟩;obtain⟨oa,nta,h0a,n0a⟩:=k.ow a NI;have nO:=rs.hc.fresh hb;have ntb:b∉ts:=fun z=>nO (rs.hc.own b z)
  have h0b:H₀ b=none:=by
   cases e:H₀ b with
   |none=>rfl
   |some o=>rw[rs.same b o ntb e] at hb;cases hb
  have nab:a≠b:=fun z=>by have:=k.ha;rw[z,hb] at this;cases this
  obtain⟨le1,rs1⟩:=rs.lay0 pd hb (o:=.lst []) (.inl ⟨_,rfl⟩);obtain⟨le2,rs2⟩:=rs1.wr0 (a:=a) pd (.inl oa) nta h0a (o:=.lst (bs.reverse.map V.ref++[.ref b])) (.inl ⟨_,rfl⟩);have hl:=k.st.length
  have hsz:(bs.reverse.map V.ref).length<sizeLine:=by
   rw[OV,List.length_reverse,hl];exact Oj hz (by decide)
  refine⟨a,_,_,rfl,rfl,by rw[aS nab];exact k.ha,hsz,q _ _ _ ⟨rs2,pd,ui,a,b::bs,k.sa,?_,?_,?_,?_⟩⟩
  .rw[bx,OX,Pn];rfl
  .have:=OE.mp k.nd
   refine OE.mpr ⟨fun z=>?_,OE.mpr ⟨fun z=>?_,this.2⟩⟩
   .rcases NR.mp z with z|z
    .exact nab z
    .exact this.1 z
   .exact nO (k.ow b (NJ _ z)).1
  .intro c hc
   rcases NR.mp hc with z|z
   .subst z;exact⟨.inl oa,nta,h0a,n0a⟩
   .rcases NR.mp z with z|z
    .subst z;exact⟨.inr rfl,ntb,h0b,fun q=>nO (rs.sub _ q)⟩
    .obtain⟨m1,m2,m3,m4⟩:=k.ow c (NJ _ z)
     exact⟨.inl m1,m2,m3,m4⟩
  .refine .cons (vs:=[]) (by rw[aS (Qj nab),bx]) .nil (k.st.mono (le1.trans le2) fun c hc o e=>?_)
   rw[aS (show c≠a from fun z=>(OE.mp k.nd).1 (z ▸ hc)),aS (cX e hb)];exact e
 .cases e
theorem rO{x:Str}{p apos spos:Pos}{ke:Expr}{fk:FE}(hk:DE X ke fk)(he:DE X e fe)(hN:X.N[i]? = some x:=by rfl)(hv:Vis X.env.scope x:=by first|exact Pj rfl|exact OY (Pj rfl)|exact OY (OY rfl))(hd:(x == ("__debug__" : Str))=false:=by decide)
  (hcd:(x == ("__classdict__" : Str))=false:=by decide) {cpos:Pos} (hix:k6 ke:=by exact fun _ _=>rfl)
  (hbase:O8 (.Subscript (.Name x p) ke spos) "append" X.env (eval (.Subscript (.Name x p) ke spos) X.env)=eval (.Subscript (.Name x p) ke spos) X.env:=by rfl)
  (hfew:((O4 cpos (NU [e] X.env)).all (fun x=>!x.1)&&(QE cpos (PV [] X.env)).all (fun x=>x.1.isSome)
   && decide (([e]:List Expr).length+([]:List Pw).length+(if ([]:List Pw).isEmpty then 0 else 1)<30))=true:=by exact j8 rfl)
  (hline:(apos.endLine == cpos.line)=true:=by rfl) (hse:NU [e] X.env=(false,eval e X.env)::NU [] X.env:=by exact bC rfl) (hplain:(O4 cpos (NU [] X.env)).any (·.1)=false:=by exact cJ rfl)
  (hs:PN (.Call (.Attribute (.Subscript (.Name x p) ke spos) "append" apos) [e] [] cpos) none pos.line X.env=pure false:=by rfl) :
  DK X i (.Expr (.Call (.Attribute (.Subscript (.Name x p) ke spos) "append" apos) [e] [] cpos) pos) (fD fk fe):=by
 refine⟨?_⟩;refine cz (qA (lK Qu QZ Q0 pU (oh ix_list (pv i hN hv hd hcd) hk.pe hix) (dz he.pe di hse) hbase hfew hline hse hplain) hs) fun D σ H=>?_;rintro⟨O₀,H₀,F,ts,O,ρ,s,T,fl,ρ',s',T',rk,e,q⟩;obtain⟨wk,T1,e1,e⟩:=aP e;obtain⟨w,T2,e2,e⟩:=aP e;unfold ou at e;split at e
 .rename_i n x0 ys s0 g1 g2
  split at e
  .rename_i hz
   cases e;obtain⟨rfl,hz⟩:=hz;have rk0:=rk;obtain⟨rs,pd,ui,a,bs,k⟩:=rk;refine⟨_,k.sa,O,ts,ρ,T,_,_,rs.hc,rs.re,e1,fun vk H1 s1 hc1 r1=>?_⟩;cases (show Rep X.K O H1 vk (.int _) from r1);have rk1:=rk0.step s1 hc1;have k':KS X.K O₀ H₀ ts O H1 σ i a bs (ys::s0):=⟨k.sa,s1 _ _ (k.ow a NI).2.1 k.ha,k.nd,k.ow,k.st.mono (rs.hc.le s1) fun b hb o e=>s1 _ _ (k.ow b (NJ _ hb)).2.1 e⟩
   cases hst:k'.st with
   |@cons b bs' vs _ _ hb rb st'=>
   have nt:b∉ts:=(k.ow b (by simp)).2.1;refine⟨a,_,_,.ref b,rfl,rfl,SqL.of k'.ha,?_,.inl ⟨rfl,vs,SqL.of hb⟩,O,ts,ρ,T1,_,_,hc1,rk1.rs.re,e2,fun u H2 s2 hc2 r2=>?_⟩
   .rw[OX,Pn]
    exact Dt _ _
   .have rk2:=rk1.step s2 hc2
    obtain⟨ob,_,h0b,n0b⟩:=k.ow b (by simp);obtain⟨le3,rs3⟩:=rk2.rs.wr0 (a:=b) pd ob nt h0b (o:=.lst (vs++[u])) (.inl ⟨_,rfl⟩);have hl:=rb.length;have nab:a≠b:=fun z=>(OE.mp k.nd).1 (by rw[z];exact NI);refine⟨b,vs,u,rfl,rfl,s2 _ _ nt hb,by rw[hl];exact Oj hz (by decide),q _ _ _ ⟨rs3,pd,ui,a,b::bs',k.sa,?_,k.nd,k.ow,?_⟩⟩
    .rw[aS nab];exact s2 _ _ (k.ow a NI).2.1 k'.ha
    .refine .cons bx (((rb.mono (hc1.le s2)).append (.cons r2 .nil)).mono le3) (st'.mono ((hc1.le s2).trans le3) fun c hc o e=>?_)
     have n:c≠b:=fun z=>(OE.mp (OE.mp k.nd).2).1 (z ▸ hc);rw[aS n];exact s2 _ _ (k.ow c (by simp[hc])).2.1 e
  .cases e
 .cases e
theorem Hb{j:Nat}{x y t:Str}{p tp1 apos:Pos}{pos' cpos dpos:Pos}(hg:Gl X t)(hm:X.mg t=none)(hb:P1 t=some (.type "tuple"))(hNd:X.N.Nodup)(hj:j≠i:=by decide)(hN:X.N[i]? = some x:=by rfl)(hv:Vis X.env.scope x:=by first|exact Pj rfl|exact OY (Pj rfl)|exact OY (OY rfl))(hd:(x == ("__debug__" : Str))=false:=by decide)
  (hcd:(x == ("__classdict__" : Str))=false:=by decide)
  (hi:X.N[j]? = some y:=by rfl) (hy:Loc X.env.scope y:=by first|exact Pj rfl|exact OY rfl)
  (hn:t≠"__name__":=by decide) (hdb:(t == ("__debug__" : Str))=false:=by decide)
  (hbase:O8 (.Name x p) "pop" X.env (eval (.Name x p) X.env)=eval (.Name x p) X.env:=by rfl) (hline:(apos.endLine == cpos.line)=true:=by rfl)
  (hse:NU [.Call (.Attribute (.Name x p) "pop" apos) [] [] cpos] X.env=(false,eval (.Call (.Attribute (.Name x p) "pop" apos) [] [] cpos) X.env)::NU [] X.env:=by exact bC rfl) (hpl:(O4 dpos (NU [] X.env)).any (·.1)=false:=by exact cJ rfl)
  (hs:PN (.Call (.Name t tp1) [.Call (.Attribute (.Name x p) "pop" apos) [] [] cpos] [] dpos) (some (.Name y pos')) pos.line X.env=pure false:=by rfl)
  (hf:X.fn y=true\/X.env.scope.names.lookup y=some .local:=by first|exact .inl rfl|exact .inr rfl|assumption) :
  DK X i (.Assign [.Name y pos'] (.Call (.Name t tp1) [.Call (.Attribute (.Name x p) "pop" apos) [] [] cpos] [] dpos) pos) (l9 j):=by
 refine⟨?_⟩;refine cz (gx hNd hi hy (pS sW hg hm hb (dz (xU Qu PySem.F.slot_list_pop PySem.F.type_list_pop GD (pv i hN hv hd hcd) hbase hline) di hse) hn hdb hse hpl) hs hf) fun D σ H=>?_;rintro⟨O₀,H₀,F,ts,O,ρ,s,T,fl,ρ',s',T',rk,e,q⟩
 cases s with
 |nil=>cases e
 |cons ys s0=>
  cases e;obtain⟨rs,pd,ui,a,bs,k⟩:=rk
  cases hst:k.st with
  |@cons b bs' vs ys s0 hb rb st'=>
  obtain⟨oa,nta,h0a,n0a⟩:=k.ow a NI;obtain⟨ob,ntb,h0b,n0b⟩:=k.ow b (by simp);have nab:a≠b:=fun z=>(OE.mp k.nd).1 (by rw[z];exact NI)
  have hdl:(((b::bs').reverse.map V.ref).dropLast)=bs'.reverse.map V.ref:=by
   rw[OX,Pn]
   exact TU
  refine⟨_,k.sa,.inl ⟨rfl,_,SqL.of k.ha⟩,a,_,.ref b,rfl,rfl,k.ha,?_,b,vs,rfl,.inl ⟨SqL.of (by rw[aS (Qj nab)];exact hb),fun l hl=>?_⟩⟩
  .rw[OX,Pn]
   simp
  .rw[hdl] at hl ⊢
   obtain⟨le1,rs1⟩:=rs.wr0 (a:=a) pd oa nta h0a (o:=.lst (bs'.reverse.map V.ref)) (.inl ⟨_,rfl⟩);have sx:SameX ts (upd H a (.lst (bs'.reverse.map V.ref))) (upd (upd H a (.lst (bs'.reverse.map V.ref))) l (.tup vs)):=.new hl _
   have rk1:RK X.K O₀ H₀ F ts O (upd H a (.lst (bs'.reverse.map V.ref))) σ ρ T i s':=by
    refine⟨rs1,pd,ui,a,bs',k.sa,bx,?_,?_,st'.mono le1 fun c hc o e=>?_⟩
    .have:=OE.mp k.nd
     exact OE.mpr ⟨fun z=>this.1 (NJ _ z),(OE.mp this.2).2⟩
    .intro c hc
     rcases NR.mp hc with z|z
     .subst z;exact⟨oa,nta,h0a,n0a⟩
     .exact k.ow c (by simp[z])
    .rw[aS (show c≠a from fun z=>(OE.mp k.nd).1 (z ▸ NJ _ hc))]
     exact e
   exact q _ _ _ ((rk1.step sx (rk1.rs.hc.new hl _)).set hj (rk1.rs.hc.newT hl (rb.mono le1)))
end
section
variable {ρ:Rho}{s:Stk}{T:Tp}{f g:FK}{fe fk:FE}{c:FT}{i j:Nat}
@[simp] theorem Km:fw ρ s T=some ((.nx,ρ,s),T):=rfl
@[simp] theorem hJ:b6 f g ρ s T=bnd (f ρ s T) (oo g):=rfl
@[simp] theorem kI:oo g (.nx,ρ,s) T=g ρ s T:=rfl
@[simp] theorem Kj{x:NG}:oo g (.rt x,ρ,s) T=some ((.rt x,ρ,s),T):=rfl
@[simp] theorem Ls:j4 j fe ρ s T=bnd (fe ρ T) (r8 j ρ s):=rfl
@[simp] theorem Ki{x:NG}:r8 j ρ s (.d x) T=some ((.nx,ρ.set j (some (.d x)),s),T):=rfl
@[simp] theorem MK:kIf i c f g ρ s T=bnd (c (onK i ρ s) []) (jf f g ρ s T):=rfl
@[simp] theorem Lw{b:Bool}{T':Tp}:jf f g ρ s T b T'=if b=true then f ρ s T else g ρ s T:=rfl
@[simp] theorem Lu:j5 fe ρ s T=bnd (fe (cy ρ) T) (r9 ρ s):=rfl
@[simp] theorem Kk{x:NG}:r9 ρ s (.d x) T=some ((.rt x,ρ,s),T):=rfl
@[simp] theorem Kl:jP ρ s T=if s.length<100000 then some ((.nx,ρ,[]::s),T) else none:=rfl
@[simp] theorem Lx:fD fk fe ρ s T=bnd (fk ρ T) fun k T1=>bnd (fe ρ T1) (ou ρ s k):=rfl
@[simp] theorem Kn{n:Int}{x:NG}{ys:List NG}:ou ρ (ys::s) (.d (.int n)) (.d x) T=if n = -1/\ys.length<100000 then some ((.nx,ρ,(ys++[x])::s),T) else none:=rfl
@[simp] theorem Lv{ys:List NG}:l9 j ρ (ys::s) T=some ((.nx,ρ.set j (some (.d (.tuple ys))),s),T):=rfl
end
structure DE1(X:Cx)(e:Expr)(f:FE):Prop where
 pe:PE1 X e (lift X.K f)
structure DI1(X:Cx)(tg e:Expr)(f:FI):Prop where
 pe:PI1 X tg e (r6 X.K f)
structure DT1(X:Cx)(e:Expr)(f:FT):Prop where
 pe:PT1 X e (liftT X.K f)
structure DK1(X:Cx)(i:Nat)(s:Stmt)(f:FK):Prop where
 pe:PS1 X s (LiftKP X.K i f)
structure DKs1(X:Cx)(i:Nat)(s:List Stmt)(f:FK):Prop where
 pe:mn X s (LiftKP X.K i f)
section
variable {X:Cx}
theorem DE.one1{e:Expr}{f:FE}(h:DE X e f):DE1 X e f:=⟨h.pe.one1⟩
def fW(y z:Str):NG->Option NG
 |.str w=>if w.length<=1048576/\z.length<=14/\(y == z)=false then some (.str (OC w y z)) else none
 |_=>none
theorem tD{o:Expr}{fo:FE}{y z:Str}{j1 j2:Nat}{p1 p2 apos cpos:Pos}(ho:DE1 X o fo)
  (hbase:O8 o "replace" X.env (eval o X.env)=eval o X.env:=by rfl)
  (hfew:((O4 cpos (NU [.Constant (.str y) j1 p1,.Constant (.str z) j2 p2] X.env)).all (fun x=>!x.1)&&(QE cpos (PV [] X.env)).all (fun x=>x.1.isSome)
   && decide (([.Constant (.str y) j1 p1,.Constant (.str z) j2 p2]:List Expr).length+([]:List Pw).length+(if ([]:List Pw).isEmpty then 0 else 1)<30))=true:=by rfl)
  (hline:(apos.endLine == cpos.line)=true:=by rfl) :
  DE1 X (.Call (.Attribute o "replace" apos) [.Constant (.str y) j1 p1,.Constant (.str z) j2 p2] [] cpos) (fUn (fW y z) fo):=by
 refine⟨wC (Ai ho.pe hbase hfew hline) fun σ H Q=>?_⟩;rintro⟨O,ts,ρ,T,w,T',hc,re,e,q⟩;obtain⟨w1,T1,e1,e⟩:=aP e;obtain⟨x,d,h1,h2,rfl,rfl⟩:=hW e;refine⟨O,ts,ρ,T,w1,T',hc,re,e1,fun v1 H1 s1 hc1 r1=>?_⟩;unfold fW at h2;split at h2
 .rename_i z0
  split at h2
  .rename_i hz
   cases h2;cases mM h1;cases (show Rep X.K O H1 v1 _ from r1);exact⟨z0,rfl,hz.1,hz.2.1,hz.2.2,q _ H1 s1 hc1 (.str _)⟩
  .cases h2
 .cases h2
theorem B2{o e:Expr}{fo fe:FE}{apos cpos:Pos}(ho:DE1 X o fo)(he:DE X e fe)
  (hbase:O8 o "split" X.env (eval o X.env)=eval o X.env:=by rfl)
  (hfew:((O4 cpos (NU [e] X.env)).all (fun x=>!x.1)&&(QE cpos (PV [] X.env)).all (fun x=>x.1.isSome)
   && decide (([e]:List Expr).length+([]:List Pw).length+(if ([]:List Pw).isEmpty then 0 else 1)<30))=true:=by exact j8 rfl)
  (hline:(apos.endLine == cpos.line)=true:=by rfl) (hse:NU [e] X.env=(false,eval e X.env)::NU [] X.env:=by exact bC rfl) (hplain:(O4 cpos (NU [] X.env)).any (·.1)=false:=by exact cJ rfl) :
  DE1 X (.Call (.Attribute o "split" apos) [e] [] cpos) (ag jB fo fe):=by
 refine⟨?_⟩;refine wC (Ge Qd QC PySem.F.type_str_split CJ ho.pe (dz he.pe di hse) hbase hfew hline hse hplain) fun σ H Q=>?_;rintro⟨O,ts,ρ,T,w,T',hc,re,e,q⟩;obtain⟨w1,T1,e1,e⟩:=aP e;obtain⟨w2,T2,e2,e⟩:=aP e;obtain⟨x,y,d,h1,h2,h3,rfl,rfl⟩:=hU e;unfold jB at h3;split at h3
 .rename_i z y
  split at h3
  .rename_i hz
   cases h3;cases mM h1;refine⟨O,ts,ρ,T,_,T1,hc,re,e1,fun v1 H1 s1 hc1 r1=>?_⟩;cases (show Rep X.K O H1 v1 _ from r1);refine⟨rfl,O,ts,ρ,T1,w2,T',hc1,re.mono hc s1,e2,fun v2 H2 s2 hc2 r2=>?_⟩;cases (hc2.view r2 h2).str;exact⟨z,y,rfl,rfl,hz.1,hz.2,fun l hl=>q _ _ (s1.trans (s2.trans (.new hl _))) (hc2.new hl _) (hc2.newL hl (mC _))⟩
  .cases h3
 .cases h3
def lA(f:FE):FI:=fun ρ T=>bnd (f ρ T) fun w T1=>match w with
 |.d (.list xs)=>some (xs,T1)
 |_=>none
theorem Dd{tg e:Expr}{f:FE}(h:DE1 X e f):DI1 X tg e (lA f):=by
 refine⟨fun pins s σ H R I k q0=>Cu h.pe pins s σ H R I k ?_⟩;obtain⟨O,ts,ρ,T,ds,T',hc,re,e,q⟩:=q0;obtain⟨w1,T1,e1,e⟩:=aP e;refine⟨O,ts,ρ,T,w1,T1,hc,re,e1,fun v1 H1 s1 hc1 r1=>?_⟩;split at e
 .rename_i xs
  cases e;have rr:Rep X.K O H1 v1 (.list _):=r1
  cases rr with
  |lst t r=>exact⟨_,_,rfl,t.sq,fun hz=>q _ H1 s1 hc1 (.lst t r) (by rw[←r.length];exact hz)⟩
 .cases e
theorem EY{op:Tj}{g:NG->NG->Option NG}{a:Expr}{fa:FE}{i:Int}{j:Nat}{p pos:Pos}(ho:OpD X (Oh op) g)(ha:DE X a fa)(hm:P2 op (.Constant (.int i) j p)=false:=by first|exact nP _|with_unfolding_all rfl):DT1 X (.Compare a [op] [.Constant (.int i) j p] pos) (ax (ag g fa (fC (.int i)))):=by
 refine⟨?_⟩;obtain⟨r,hr,snd⟩:=ho;refine wx (D9 hr ha.pe hm) fun σ H Q h=>?_;have h1:=kX snd (m5 h);obtain⟨O,ts,ρ,T,w,T',hc,re,e,q⟩:=h1;exact⟨O,ts,ρ,T,w,T',hc,re,e,fun v H' s c r=>iV (fun _ _=>.int i) _ _ _ (q v H' s c r)⟩
theorem G7{a b:Expr}{ta tb:FT}{pos:Pos}(ha:DT X a ta)(hb:DT1 X b tb):DT1 X (.BoolOp .Or [a,b] pos) (bi ta tb):=by
 refine⟨?_⟩;refine wx (F5 ha.pe hb.pe) fun σ H Q=>?_;rintro⟨O,ts,ρ,T,b,T',hc,re,e,q⟩;obtain⟨b1,T1,e1,e⟩:=aP e;refine⟨O,ts,ρ,T,b1,T1,hc,re,e1,fun H1 s1 hc1=>?_⟩
 cases b1 with
 |false=>exact e8 ⟨O,ts,ρ,T1,b,T',hc1,re.mono hc s1,by simpa using e,fun H2 s2 hc2=>q H2 (s1.trans s2) hc2⟩
 |true=>
  have e':some (true,T1)=some (b,T'):=by simpa using e
  cases e';exact e7 (q H1 s1 hc1)
variable {i:Nat}{f g:FK}
def kNo(f:FK):FK:=fun ρ s T=>match f ρ s T with
 |some ((.nx,_,_),_)=>none
 |o=>o
theorem E2{ce:Expr}{c:FT}{a rest:List Stmt}{pos:Pos}(hc:DT1 X ce c)(ha:DKs X i a f)(hr:DKs1 X i rest g):DKs X i (.If ce a [] pos::rest) (b6 (kIf i c (kNo f) fw) g):=by
 refine⟨?_⟩;refine iN (Ea hc.pe ha.pe hr.pe) fun D σ H=>?_;rintro⟨O₀,H₀,F,ts,O,ρ,s,T,fl,ρ',s',T',rk,e,q⟩;obtain⟨⟨fl1,ρ1,s1⟩,T1,e0,e⟩:=aP e;obtain⟨b1,T2,e1,e2⟩:=aP e0;obtain⟨O',c',re'⟩:=rk.test;refine⟨O',[],_,[],b1,T2,c',re',e1,fun H1 s1' hc1=>?_⟩
 cases b1 with
 |true=>
  refine e7 ?_
  have e3:kNo f ρ s T=some ((fl1,ρ1,s1),T1):=by simpa[jf] using e2
  unfold kNo at e3;split at e3
  .cases e3
  .rename_i hne
   refine⟨O₀,H₀,F,ts,O,ρ,s,T,fl1,ρ1,s1,T1,rk.tested s1',e3,?_⟩
   cases fl1 with
   |nx=>exact absurd e3 (hne _ _ _)
   |rt x=>cases e;exact q
   |ro x=>cases e;exact q
   |bk=>cases e;exact q
   |ct=>cases e;exact q
 |false=>
  refine e8 ?_
  have e3:some ((Fl.nx,ρ,s),T)=some ((fl1,ρ1,s1),T1):=by simpa[jf] using e2
  cases e3;exact⟨O₀,H₀,F,ts,O,ρ,s,T,fl,ρ',s',T',rk.tested s1',e,q⟩
theorem B1{st:Stmt}{rest:List Stmt}(h1:DK1 X i st f)(h2:DKs X i rest g):DKs1 X i (st::rest) (b6 f g):=by
 refine⟨?_⟩;refine Cp (Bw h1.pe h2.pe) fun D σ H=>?_;rintro⟨O₀,H₀,F,ts,O,ρ,s,T,fl,ρ',s',T',rs,e,q⟩;obtain⟨⟨fl1,ρ1,s1⟩,T1,e1,e⟩:=aP e;refine⟨O₀,H₀,F,ts,O,ρ,s,T,fl1,ρ1,s1,T1,rs,e1,?_⟩
 cases fl1 with
 |nx=>exact fun O' σ' H' rs'=>⟨O₀,H₀,F,ts,O',ρ1,s1,T1,fl,ρ',s',T',rs',e,q⟩
 |rt x=>cases e;exact q
 |ro x=>cases e;exact q
 |bk=>cases e;exact q
 |ct=>cases e;exact q
theorem E5{pos:Pos}{j:Nat}{x:Str}{iter:Expr}{body:List Stmt}{tpos:Pos}{it:FI}(hN:X.N.Nodup)(hi:DI1 X (.Name x tpos) iter it)(hb:DKs X i body f)(hj:j≠i:=by decide)(hix:X.N[j]? = some x:=by rfl)(hx:Loc X.env.scope x:=by first|exact Pj rfl|exact OY rfl)
  (hf:X.fn x=true\/X.env.scope.names.lookup x=some .local:=by first|exact .inl rfl|exact .inr rfl|assumption) (hp:RU (Ot X.prog X.w) X.A X.env X.xe:=by exact RJ) (hc:X.calm=true:=by rfl)
  (hs:∀x,O7 iter X.env x=pure x:=by intro _;rfl):DK1 X i (.For (.Name x tpos) iter body [] pos) (kFor j it f):=by
 refine⟨?_⟩;refine Eb (Ec hp hc hi.pe (gr hN hix hx hf) hb.pe hs) fun D σ H=>?_;rintro⟨O₀,H₀,F,ts,O,ρ,s,T,fl,ρ',s',T',rk,e,q⟩;obtain⟨ds,T1,e1,e⟩:=aP e;refine⟨O,ts,ρ,T,ds,T1,rk.rs.hc,rk.rs.re,e1,fun J H1 s1 hc1 ok hz=>?_⟩;refine⟨fun k m σ H=>m=ds.length-k/\k<=ds.length/\∃O' ρk sk Tk,RK X.K O₀ H₀ ((O,H1)::F) ts O' H σ ρk Tk i sk/\dG j f (ds.drop k) ρk sk Tk=some ((fl,ρ',s'),T'),⟨_,rfl,Pi _,O,ρ,s,T1,(rk.step s1 hc1).more,e⟩,?_⟩;rintro k m σ2 H2 ⟨rfl,hk,O',ρk,sk,Tk,rk2,ek⟩;obtain⟨k1,k2,k3⟩:=ok O' H2 (rk2.rs.frs _ NI)
 by_cases hlt:k<ds.length
 .refine .inr ⟨k1 k hlt,fun σ3 H3=>∃O' ρk sk Tk,RK X.K O₀ H₀ ((O,H1)::F) ts O' H3 σ3 ρk Tk i sk/\dG j f (ds.drop (k+1)) ρk sk Tk=some ((fl,ρ',s'),T'),fun σ3 H3 n=>⟨ds.length-(k+1),by omega,rfl,hlt,n⟩,fun v H3 y=>?_⟩
  obtain⟨e2,d,hd,rd⟩:=k3 k v H3 y hlt;subst e2
  have hdr:ds.drop k=d::ds.drop (k+1):=by
   rw[Qh hlt];have:=(NM.mp hd).2;rw[this]
  rw[hdr] at ek;obtain⟨⟨fl1,ρ1,s1'⟩,T3,e3,ek⟩:=aP ek;refine⟨O₀,H₀,(O,H1)::F,ts,O',_,sk,Tk,fl1,ρ1,s1',T3,rk2.set (j:=j) (x:=d) hj rd,e3,?_⟩
  cases fl1 with
  |nx=>exact fun O3 σ3 H3 rs3=>⟨O3,ρ1,s1',T3,rs3,ek⟩
  |ct=>exact fun O3 σ3 H3 rs3=>⟨O3,ρ1,s1',T3,rs3,ek⟩
  |bk=>
   cases ek;exact fun O3 σ3 H3 rs3=>q O3 σ3 H3 rs3.less
  |rt x=>
   cases ek;exact q
  |ro x=>
   cases ek;exact q
 .have e:k=ds.length:=by omega
  subst e;rw[Pr (NT _)] at ek;cases ek;exact .inl ⟨k2,q O' σ2 H2 rk2.less⟩
def gC:FK:=fun ρ s T=>match s.reverse with
 |ys::_=>some ((.rt (.list ys),ρ,s),T)
 |[]=>none
theorem StkAt.last{K:Frag}{O:Addr->Prop}{H:Hp}:∀{bs:List Addr}{s:Stk},StkAt K O H bs s->∀{ys:List NG}{r:Stk},s.reverse=ys::r->∃b vs bs',bs.reverse=b::bs'/\b∈bs/\H b=some (.lst vs)/\Reps K O H vs ys:=by
 intro bs s h
 induction h with
 |nil=>intro ys r e;cases e
 |@cons b bs vs ys0 s hb rb st ih=>
  intro ys r e;rw[OX] at e
  cases hs:s.reverse with
  |nil=>
   rw[hs] at e;have hl:=st.length
   have:bs=[]:=by
    have:s.length=0:=by have:=congrArg Sv hs;simpa using this
    exact List.eq_nil_of_length_eq_zero (by omega)
   subst this;cases e;exact⟨b,vs,[],rfl,NI,hb,rb⟩
  |cons y r'=>
   rw[hs] at e;obtain⟨b',vs',bs',h1,h2,h3,h4⟩:=ih hs
   have:y=ys:=by cases e;rfl
   subst this;exact⟨b',vs',bs'++[b],by rw[OX,h1];rfl,NJ _ h2,h3,h4⟩
theorem E3{x:Str}{p kp spos pos:Pos}{kj:Nat}(hN:X.N[i]? = some x:=by rfl)(hv:Vis X.env.scope x:=by first|exact Pj rfl|exact OY (Pj rfl)|exact OY (OY rfl))(hd:(x == ("__debug__" : Str))=false:=by decide)(hcd:(x == ("__classdict__" : Str))=false:=by decide)
  (hix:k6 (.Constant (.int 0) kj kp):=by exact fun _ _=>rfl):DK X i (.Return (some (.Subscript (.Name x p) (.Constant (.int 0) kj kp) spos)) pos) gC:=by
 refine⟨?_⟩;refine cz (rD (oh ix_list (pv i hN hv hd hcd) xT hix)) fun D σ H=>?_;rintro⟨O₀,H₀,F,ts,O,ρ,s,T,fl,ρ',s',T',rk,e,q⟩;unfold gC at e;split at e
 .rename_i ys r hs
  cases e;obtain⟨rs,pd,ui,a,bs,k⟩:=rk;obtain⟨b,vs,bs',e1,hb,hH,hr⟩:=k.st.last hs;obtain⟨ob,ntb,h0b,n0b⟩:=k.ow b (NJ _ hb);obtain⟨c0,re0⟩:=rs.frz (wD pd);have le:Le O H O₀ H:=fun a o n e=>⟨fun z=>n (rs.sub a z),e⟩;refine⟨_,k.sa,a,_,0,.ref b,rfl,rfl,SqL.of k.ha,?_,q (.ref b) H rs.same c0 (.lst (.inl ⟨n0b,.inl hH⟩) (hr.mono le))⟩;rw[e1];simp[atI,ixN]
 .cases e
def fT(i:Nat)(g:FK):FS:=fun ρ T=>if nM ρ=true/\i<ρ.length/\(ρ[i]?.join).isNone=true then nT ρ (g ρ [[]] T) else none
theorem B0{x:Str}{rest:List Stmt}{lpos lpos2 pos' pos:Pos}(hN:X.N.Nodup)(hr:DKs X i rest g)(hi:X.N[i]? = some x:=by rfl)(hx:Loc X.env.scope x:=by first|exact Pj rfl|exact OY rfl)
  (hse:NU [.List [] lpos2] X.env=(false,eval (.List [] lpos2) X.env)::NU [] X.env:=by exact bC rfl) (hs:PN (.List [.List [] lpos2] lpos) (some (.Name x pos')) pos.line X.env=pure false:=by rfl) (hf:X.fn x=true\/X.env.scope.names.lookup x=some .local:=by first|exact .inl rfl|exact .inr rfl|assumption) :
  DSs X (.Assign [.Name x pos'] (.List [.List [] lpos2] lpos) pos::rest) (fT i g):=by
 refine⟨?_⟩;refine iN (mP (gx hN hi hx (jD (dz (jD di) di hse)) hs hf) hr.pe) fun D σ H=>?_;rintro⟨O₀,H₀,F,ts,O,ρ,T,fl,ρ',T',rs,e,q⟩;unfold fT at e;split at e
 .rename_i hz
  obtain⟨h1,h2,h3⟩:=hz;have pd:=pR h1
  have ui:ρ[i]? = some none:=by
   rw[Px h2] at h3 ⊢
   cases hh:ρ[i] with
   |none=>rfl
   |some w=>rw[hh] at h3;cases h3
  unfold nT at e;split at e
  .rename_i x0 ρ1 s1 T1 h4
   cases e;refine⟨Pi _,fun b hb=>⟨show (1:Nat)<=NS by decide,fun p hp=>?_⟩⟩;obtain⟨le1,rs1⟩:=rs.lay0 pd hb (o:=.lst []) (.inl ⟨_,rfl⟩);obtain⟨le2,rs2⟩:=rs1.lay0 pd hp (o:=.lst [.ref b]) (.inl ⟨_,rfl⟩)
   have hs':i<σ.length:=by rw[rs.len];exact h2
   have nOb:=rs.hc.fresh hb;have nOp:=rs1.hc.fresh hp;have ntb:b∉ts:=fun z=>nOb (rs.hc.own b z);have ntp:p∉ts:=fun z=>nOp (rs1.hc.own p z)
   have h0:∀c,c∉ts->(∀o,H₀ c=some o->False)->H₀ c=none:=fun c _ h=>by
    cases e:H₀ c with
    |none=>rfl
    |some o=>exact(h o e).elim
   have h0b:H₀ b=none:=h0 b ntb fun o e=>by rw[rs.same b o ntb e] at hb;cases hb
   have h0p:H₀ p=none:=h0 p ntp fun o e=>by rw[rs1.same p o ntp e] at hp;cases hp
   have nbp:b≠p:=fun z=>by rw[←z,bx] at hp;cases hp
   have npb:p≠b:=fun z=>nbp z.symm;refine⟨O₀,H₀,F,ts,_,ρ,[[]],T,.rt x0,ρ1,s1,_,⟨⟨rs2.hc,fun j w e=>?_,rs2.sub,rs2.ots,rs2.same,fun j ys b q1 q2=>?_,fun j k ys zs v q1 q2 q3 q4=>?_,rs2.frs,by simp[rs.len]⟩,pd,ui,p,[b],NV hs',bx,by simp[npb],fun c hc=>?_,.cons (vs:=[]) (by rw[aS nbp,bx]) .nil .nil⟩,h4,q⟩
   .obtain⟨x1,m1,m2⟩:=rs2.re j w e
    refine⟨x1,?_,m2⟩;rw[NQ fun z=>by rw[←z,ui] at e;cases e];exact m1
   .obtain⟨y,z⟩:=pd _ _ q1;cases z
   .obtain⟨y,z⟩:=pd _ _ q1;cases z
   .rcases NR.mp hc with z|z
    .subst z;exact⟨.inr rfl,ntp,h0p,fun q=>nOp (rs1.sub _ q)⟩
    .rw[NY.mp z]
     exact⟨.inl (.inr rfl),ntb,h0b,fun q=>nOb (rs.sub _ q)⟩
  .cases e
 .cases e
end
end D
namespace XE
open PySem PySem.Spec PyProof.Rows L2 D
end XE
namespace D
open PySem PySem.Spec PyProof.Rows L2
section
variable {X:Cx}{pos:Pos}
end
section
variable {X:Cx}{e:Expr}{fe:FE}
end
section
variable {X:Cx}{pos:Pos}
end
section
variable {X:Cx}
theorem CI:MtR X "str.upper" (fun x vs H Q=>∃z:Str,x=.str z/\vs=[]/\(SU z).length<=NS/\Q (.str (SU z)) H):=by
 intro pins s σ H x vs v us Q I rx rv h;obtain⟨z,rfl,rfl,hz,q⟩:=h;obtain⟨t,rfl⟩:=rx;have hus:=rv.zero;subst hus;exact SC.upper (by unfold Ug;exact decide_eq_false (by omega)) ⟨.str _,H,I.tok _,⟨_,rfl⟩,q⟩
def gw:NG->Option NG
 |.str z=>if (SU z).length<=NS then some (.str (SU z)) else none
 |_=>none
theorem Dh{o:Expr}{fo:FE}{apos cpos:Pos}(ho:DE X o fo)(hbase:O8 o "upper" X.env (eval o X.env)=eval o X.env:=by rfl)(hline:(apos.endLine == cpos.line)=true:=by rfl) :
  DE X (.Call (.Attribute o "upper" apos) [] [] cpos) (fUn gw fo):=by
 refine⟨bD (xU Qd PySem.F.slot_str_upper PySem.F.type_str_upper CI ho.pe hbase hline) fun σ H Q=>?_⟩;rintro⟨O,ts,ρ,T,w,T',hc,re,e,q⟩;obtain⟨w1,T1,e1,e⟩:=aP e;obtain⟨x,d,h1,h2,rfl,rfl⟩:=hW e;refine⟨O,ts,ρ,T,w1,T',hc,re,e1,fun v1 H1 s1 hc1 r1=>?_⟩;unfold gw at h2;split at h2
 .rename_i z0
  split at h2
  .rename_i hz
   cases h2;cases mM h1;cases (show Rep X.K O H1 v1 _ from r1);exact⟨rfl,z0,rfl,rfl,hz,q _ H1 s1 hc1 (.str _)⟩
  .cases h2
 .cases h2
end
theorem AN(l:Addr)(n:Nat)(dd:Option Addr)(sl:Array (Option NK))(k:Int)(t:Tok)(h1:2<=k)(h2:k<=1000) :
  Meets (Wx.«tuple.__mul__» ⟨[.ref l,.int k t],[]⟩) (fun _ R s=>s.heap.get? l=some { cls:=.type "tuple",dict:=dd,data:=.seq #[] n,slots:=sl }/\R (.ok (.ret (OT l))) s):=
 .of_wp fun prog w A R s h=>by
  obtain⟨hp,g,d,tk,os⟩:=s;obtain⟨hl,h⟩:=h
  have hc0:¬(decide (k < -(2^63))||decide (k>=2^63))=true:=by simp;omega
  have ht:UB hp l #[]:=⟨_,hl,rfl,n,rfl⟩;wp_walk;rw[if_neg hc0];dsimp only;refine NP (Rz ht ?_);rw[if_pos (by rfl)];wp_walk;exact⟨_,rfl,h⟩
section
variable {X:Cx}
theorem Eo:OpR X (Pu .Mult) (fun x y H Q=>∃a k,x=.ref a/\y=.int k/\SqT X.K H a []/\2<=k/\k<=1000/\Q (.ref a) H):=by
 intro pins s σ H x y v u Q I rx ry h;obtain⟨a,k,rfl,rfl,hq,h1,h2,q⟩:=h;cases rx;obtain⟨t,rfl⟩:=ry;obtain⟨its,r,p1,_⟩:=I.tuple hq;have hv:its=[]:=r.nil_iff.mpr rfl;subst hv;obtain⟨⟨cls,dd,data,sl⟩,ho,hc,n,hd⟩:=id p1;simp only at hc hd;subst hc hd
 refine Sk (T:="tuple") (U:="int") (by decide) ⟨_,ho,rfl⟩ (fun s'=>Tb s' k t) sR Vs RL sY U9.lookup
  (QO RL (Tb s k t) Va (UN _ _) (sS k t a #[] n dd sl)
   ⟨ho,rfl,⟨_,ho,rfl⟩,QO QB ⟨_,ho,rfl⟩ SR (SG _ _) (AN a n dd sl k t h1 h2) ⟨ho,?_⟩⟩)
 exact⟨.ref a,H,I,rfl,q⟩
def oR(x y:NG):Option PyData:=match x,y with
 |.tuple [],.int k=>if 2<=k/\k<=1000 then some (.tuple []) else none
 |x,y=>cm x y
theorem Gw:OpD X (Pu .Mult) oR:=by
 obtain⟨r0,h0,s0⟩:=eW (X:=X);refine⟨_,h0.or Eo,fun O ts H T v1 v2 x y d Q hc h1 h2 e q=>?_⟩;unfold oR at e;split at e
 .split at e
  .rename_i k hk
   cases e;obtain⟨a,vs,rfl,t,r⟩:=h1.tup;cases h2.int;cases r;exact .inr ⟨a,k,rfl,rfl,t.sq,hk.1,hk.2,q _ H (.refl _ _) hc (.tup t .nil)⟩
  .cases e
 .exact .inl (s0 O ts H T v1 v2 _ _ d Q hc h1 h2 e q)
theorem Ep:OpR X (Oh .IsNot) (fun x y H Q=>∃b c,x=.bl b/\y=.bl c/\Q (.bl (!(b == c))) H):=by
 intro pins s σ H x y v u Q I rx ry h;obtain⟨b,c,rfl,rfl,q⟩:=h;cases rx;cases ry;exact isnot_bool ⟨.bl (!(b == c)),H,I,rfl,q⟩
def lO:NG->NG->Option NG
 |.bool a,.bool b=>some (.bool (!(a == b)))
 |_,_=>none
theorem Gx:OpD X (Oh .IsNot) lO:=⟨_,Ep,fun O ts H T v1 v2 x y d Q hc h1 h2 e q=>by
 unfold lO at e;split at e
 .cases e
  exact⟨_,_,h1.bl,h2.bl,q _ H (.refl _ _) hc (.bl _)⟩
 .cases e⟩
end
def eqE:NG->NG->Option NG
 |.list xs,.list []=>some (.bool xs.isEmpty)
 |_,_=>none
section
variable {X:Cx}
theorem Ci{A:OD}{s:NL}{a b:NK}{xs:List NG}{as bs:List Addr}(ra:Vk s.heap a (.list xs) as)(rb:Vk s.heap b (.list []) bs)(hu:A.units<UE):SeqAt.RcAt A s a b xs.isEmpty:=by
 cases ra with
 |@list l o vs n _ as₁ h1 h2 h3 h4=>
  have hl:s.heap.IsList l vs:=⟨_,h1,h2,_,h3⟩
  cases rb with
  |@list l' o' vs' n' ys bs₁ k1 k2 k3 k4=>
   have hl':s.heap.IsList l' vs':=⟨_,k1,k2,_,k3⟩
   have n1:vs.size=xs.length:=by simpa using Tv _ _ _ h4
   have n2:vs'.size=0:=by simpa using Tv _ _ _ k4
   cases xs with
   |nil=>
    have:=SeqAt.RcAt.lists hl hl' (by rw[n1,n2];rfl) hu (e:=fun _=>true) (fun j j1 j2=>absurd j2 (by omega));rw[n1] at this;exact this
   |cons x r=>exact SeqAt.RcAt.lists_lengths hl hl' (by rw[n1,n2];simp) hu
theorem Gr{k:Nat}(hr:Room k X.A):OpR X (Oh .Eq) (fun x y H Q=>∃O xs,Vw X.K O H x (.list xs)/\Vw X.K O H y (.list [])/\Q (.bl xs.isEmpty) H):=by
 intro pins s σ H x y v u Q I rx ry h;obtain⟨O,xs,h1,h2,q⟩:=h;obtain⟨as,r1⟩:=h1.reads I rx;obtain⟨bs,r2⟩:=h2.reads I ry;exact Ci r1 r2 (by have:=hr.un;omega) _ _ _ _ ⟨.bl _,H,I,rfl,q⟩
theorem yK{k:Nat}(hr:Room k X.A):OpD X (Oh .Eq) eqE:=⟨_,Gr hr,fun O ts H T v1 v2 x y d Q hc h1 h2 e q=>by
 unfold eqE at e;split at e
 .cases e
  exact⟨O,_,h1,h2,q _ H (.refl _ _) hc (.bl _)⟩
 .cases e⟩
end
def DfL(K:Frag)(tp:Nat->Stmt):List (Str×Nat)->Prop
 |[]=>True
 |(x,i)::r=>Df K x (tp i)/\DfL K tp r
theorem De{K:Frag}{tp:Nat->Stmt}{x:Str}{i:Nat}{L:List (Str×Nat)}(a:Df K x (tp i))(r:DfL K tp L):DfL K tp ((x,i)::L):=⟨a,r⟩
theorem DfL.at{K:Frag}{tp:Nat->Stmt}{x:Str}{i:Nat}:∀{L:List (Str×Nat)},DfL K tp L->L.lookup x=some i->Df K x (tp i)
 |[],_,e=>nomatch e
 |(y,j)::r,h,e=>by
  rw[Pq] at e;split at e
  .rename_i hx
   cases e;rw[eq_of_beq hx];exact h.1
  .exact h.2.at e
def ZL(K:Frag):List Str->Prop
 |[]=>True
 |x::r=>PM K OG x=some none/\ZL K r
theorem DB{K:Frag}{x:Str}{L:List Str}(a:PM K OG x=some none)(r:ZL K L):ZL K (x::L):=⟨a,r⟩
theorem ZL.at{K:Frag}{x:Str}:∀{L:List Str},ZL K L->L.contains x=true->PM K OG x=some none
 |[],_,e=>nomatch e
 |y::r,h,e=>by
  rw[List.contains_cons,Q7] at e
  rcases e with e|e
  .rw[eq_of_beq e];exact h.1
  .exact h.2.at e
def IL(K:Frag):List (Str×Int)->Prop
 |[]=>True
 |(x,i)::r=>(∃t,PM K OG x=some (some (.int i t)))/\IL K r
theorem EK{K:Frag}{x:Str}{i:Int}{t:Tok}{L:List (Str×Int)}(a:PM K OG x=some (some (.int i t)))(r:IL K L):IL K ((x,i)::L):=⟨⟨t,a⟩,r⟩
theorem IL.at{K:Frag}{x:Str}{i:Int}:∀{L:List (Str×Int)},IL K L->L.lookup x=some i->∃t,PM K OG x=some (some (.int i t))
 |[],_,e=>nomatch e
 |(y,j)::r,h,e=>by
  rw[Pq] at e;split at e
  .rename_i hx
   cases e;rw[eq_of_beq hx];exact h.1
  .exact h.2.at e
def SL(K:Frag):List (Str×Str)->Prop
 |[]=>True
 |(x,i)::r=>(∃t,PM K OG x=some (some (.str i t)))/\SL K r
theorem DX{K:Frag}{x i:Str}{t:Tok}{L:List (Str×Str)}(a:PM K OG x=some (some (.str i t)))(r:SL K L):SL K ((x,i)::L):=⟨⟨t,a⟩,r⟩
theorem SL.at{K:Frag}{x i:Str}:∀{L:List (Str×Str)},SL K L->L.lookup x=some i->∃t,PM K OG x=some (some (.str i t))
 |[],_,e=>nomatch e
 |(y,j)::r,h,e=>by
  rw[Pq] at e;split at e
  .rename_i hx
   cases e;rw[eq_of_beq hx];exact h.1
  .exact h.2.at e
structure Bz(K:Frag)(mg:Str->Option NK)(z:List Str)(i:List (Str×Int))(s:List (Str×Str)):Prop where
 z:∀{x:Str} (_:z.contains x=true:=by decide +kernel),mg x=none
 i:∀{x:Str}{j:Int} (_:i.lookup x=some j:=by decide +kernel),∃t,mg x=some (.int j t)
 s:∀{x y:Str} (_:s.lookup x=some y:=by decide +kernel),∃t,mg x=some (.str y t)
theorem IQ{K:Frag}{h:Heap}{mg:Str->Option NK}{z:List Str}{i:List (Str×Int)}{s:List (Str×Str)}(X:K.In h)(G:h.Ns OG mg)(a:ZL K z)(b:IL K i)(c:SL K s):Bz K mg z i s:=⟨fun e=>PySem.W.mg_none_of X G (a.at e),fun e=>let ⟨t,q⟩:=b.at e;⟨t,RA X G q⟩,fun e=>let ⟨t,q⟩:=c.at e;⟨t,RA X G q⟩⟩
structure Ev(P:Og)(w:Ow)(K:Frag)(mg:Str->Option NK)(base:Heap)(B:Prop)(tp:Nat->Stmt)(L:List (Str×Nat)):Prop where
 x:∃h:Heap,K.In h/\h.Ns OG mg
 b:B
 d:DfL K tp L
def scB(N P:List Str)(sc:Qg):Bool:=decide (sc.kind=.function)&&!sc.isCoroutine&&!sc.isGenerator&&decide N.Nodup&&decide (N.take P.length=P)&&P.all (fun x=>decide (sc.names.lookup x=some .local)||decide (sc.names.lookup x=some .cell))&&sc.names.all fun y=>decide (y.2≠.free)
theorem n8{N P:List Str}{sc:Qg}(h:scB N P sc=true):FnScope N P sc:=by
 simp only[scB,NN,decide_eq_true_eq,Bool.not_eq_true',Oe,Q7] at h;exact⟨h.1.1.1.1.1.1,h.1.1.1.1.1.2,h.1.1.1.1.2,h.1.1.1.2,h.1.1.2,h.1.2,h.2⟩
theorem bl1{α:Type}{p:List α->Prop}(h:∀a,p [a]):∀us,us.length=1->p us
 |[a],_=>h a
theorem bl2{α:Type}{p:List α->Prop}(h:∀a b,p [a,b]):∀us,us.length=2->p us
 |[a,b],_=>h a b
theorem bl3{α:Type}{p:List α->Prop}(h:∀a b c,p [a,b,c]):∀us,us.length=3->p us
 |[a,b,c],_=>h a b c
theorem bl5{α:Type}{p:List α->Prop}(h:∀a b c d e,p [a,b,c,d,e]):∀us,us.length=5->p us
 |[a,b,c,d,e],_=>h a b c d e
section
variable {P:Og}{w:Ow}{K:Frag}{mg:Str->Option NK}{base:Heap}{B:Prop}{tp:Nat->Stmt}{L:List (Str×Nat)}{x:Str}{ps:List Str}{k:Nat}{m:FS}
theorem yX{sp:Sp}(E:Ev P w K mg base B tp L)(i:Nat)(ok:∀f fd,Fun K x x (tp i) f fd->FnOk P w K mg base CX0 k f fd ps sp)(e:L.lookup x=some i:=by decide +kernel)
  (hb:∀(kV doc pm:NK) (an:Option Addr) (cdv ct:NK) (us:List NK),us.length=ps.length->TF (Po x x (eO (tp i)) (dA (tp i)) (bM (tp i)) .none kV doc pm an cdv ct) ⟨us,[]⟩=pure (ps.zip us):=by
   intro _ _ _ _ _ _;first|(show ∀us:List NK,us.length=0->_;exact D.bl0 rfl)|(show ∀us:List NK,us.length=1->_;exact D.bl1 fun _=>rfl)|(show ∀us:List NK,us.length=2->_;exact D.bl2 fun _ _=>rfl)|(show ∀us:List NK,us.length=3->_;exact D.bl3 fun _ _ _=>rfl)|(show ∀us:List NK,us.length=4->_;exact D.bl4 fun _ _ _ _=>rfl)|(show ∀us:List NK,us.length=5->_;exact D.bl5 fun _ _ _ _ _=>rfl)|(show ∀us:List NK,us.length=6->_;exact D.bl6 fun _ _ _ _ _ _=>rfl)):Fn P w K mg base x ps k sp:=
 let ⟨_,X,G⟩:=E.x
 (E.d.at e).fn X G hb ok
theorem aZ(E:Ev P w K mg base B tp L)(i:Nat)(N:List Str)(hbody:∀{f:Addr}{cdv:NK}{A:OD}{outer:List Env}{s:NL}{H:Hp}{E:XK},B->FnScope N ps (bM (tp i))->Room k (A.deeper (R7 x (bM (tp i)) s.heap.objs.size f cdv))->DSs (gL CX0 P w K mg base N x (bM (tp i)) f cdv A outer s H E).nox (dA (tp i)) m)
  (S:scB N ps (bM (tp i))=true:=by decide +kernel) (e:L.lookup x=some i:=by decide +kernel)
  (hb:∀(kV doc pm:NK) (an:Option Addr) (cdv ct:NK) (us:List NK),us.length=ps.length->TF (Po x x (eO (tp i)) (dA (tp i)) (bM (tp i)) .none kV doc pm an cdv ct) ⟨us,[]⟩=pure (ps.zip us):=by
   intro _ _ _ _ _ _;first|(show ∀us:List NK,us.length=0->_;exact D.bl0 rfl)|(show ∀us:List NK,us.length=1->_;exact D.bl1 fun _=>rfl)|(show ∀us:List NK,us.length=2->_;exact D.bl2 fun _ _=>rfl)|(show ∀us:List NK,us.length=3->_;exact D.bl3 fun _ _ _=>rfl)|(show ∀us:List NK,us.length=4->_;exact D.bl4 fun _ _ _ _=>rfl)|(show ∀us:List NK,us.length=5->_;exact D.bl5 fun _ _ _ _ _=>rfl)|(show ∀us:List NK,us.length=6->_;exact D.bl6 fun _ _ _ _ _ _=>rfl)):Fn P w K mg base x ps (k+1) (spM K ps.length (aT N.length m)):=yX E i (fun _ _ F=>dfn F (n8 S) fun _ _ _ _ _ _ hr=>hbody E.b (n8 S) hr) e hb
theorem ef(E:Ev P w K mg base B tp L)(i:Nat){n:Nat}(e:L.lookup x=some i:=by decide +kernel)
  (hb:∀(kV doc pm:NK) (an:Option Addr) (cdv ct:NK) (us:List NK),us.length=ps.length->TF (Po x x (eO (tp i)) (dA (tp i)) (bM (tp i)) .none kV doc pm an cdv ct) ⟨us,[]⟩=pure (ps.zip us):=by
   intro _ _ _ _ _ _;first|(show ∀us:List NK,us.length=0->_;exact D.bl0 rfl)|(show ∀us:List NK,us.length=1->_;exact D.bl1 fun _=>rfl)|(show ∀us:List NK,us.length=2->_;exact D.bl2 fun _ _=>rfl)|(show ∀us:List NK,us.length=3->_;exact D.bl3 fun _ _ _=>rfl)|(show ∀us:List NK,us.length=4->_;exact D.bl4 fun _ _ _ _=>rfl)|(show ∀us:List NK,us.length=5->_;exact D.bl5 fun _ _ _ _ _=>rfl)|(show ∀us:List NK,us.length=6->_;exact D.bl6 fun _ _ _ _ _ _=>rfl)):Fn P w K mg base x ps k (spM K n fun _ _=>none):=yX E i (fun _ _ _=>ER) e hb
theorem IK{f:Addr}{fd:PK}{i:Nat}(E:Ev P w K mg base B tp L)(N:List Str)(F:Fun K x x (tp i) f fd)(hbody:∀{cdv:NK}{A:OD}{outer:List Env}{s:NL}{H:Hp}{E:XK},B->FnScope N ps (bM (tp i))->Room k (A.deeper (R7 x (bM (tp i)) s.heap.objs.size f cdv))->DSs (gL CX0 P w K mg base N x (bM (tp i)) f cdv A outer s H E).nox (dA (tp i)) m)
  (S:scB N ps (bM (tp i))=true:=by decide +kernel):FnOk P w K mg base CX0 (k+1) f fd ps (spM K ps.length (aT N.length m)):=dfn F (n8 S) fun _ _ _ _ _ _ hr=>hbody E.b (n8 S) hr
theorem dY{p:Nat->Prop}(z:p 0)(s:∀n,p n->p (n+1)):∀n,p n
 |0=>z
 |n+1=>s n (dY z s n)
end
section
variable {X:Cx}{name p1 p2 p3 p4 p5 p6:Str}{k k':Nat}{m:FnM}{e1 e2 e3 e4 e5 e6:Expr}{g1 g2 g3 g4 g5 g6:FE}{p pos:Pos}
theorem bb(F:Fn X.prog X.w X.K X.mg X.base name [p1] k (spM X.K 1 m))(hr:Room k' X.A)(a1:DE X e1 g1)(h:k<=k':=by omega)(hg:Gl X name:=by exact rfl)(hdb:(name == ("__debug__" : Str))=false:=by decide)(n1:noStar e1=true:=by exact rfl):DE X (.Call (.Name name p) [e1] [] pos) (au m (ae g1 ah)):=nA F (hr.mono h) hg (ai a1 aq (bC n1)) (cP g7) hdb (bC n1) (cJ rfl)
theorem aX(F:Fn X.prog X.w X.K X.mg X.base name [p1,p2] k (spM X.K 2 m))(hr:Room k' X.A)(a1:DE X e1 g1)(a2:DE X e2 g2)(h:k<=k':=by omega)(hg:Gl X name:=by exact rfl)(hdb:(name == ("__debug__" : Str))=false:=by decide)(n1:noStar e1=true:=by exact rfl)(n2:noStar e2=true:=by exact rfl):DE X (.Call (.Name name p) [e1,e2] [] pos) (au m (ae g1 (ae g2 ah))):=nA F (hr.mono h) hg (ai a1 (ai a2 aq (bC n2)) (bC n1)) (cP (cP g7)) hdb (bC n1) (cJ (by simp only[PH,UQ,n2,Up]))
theorem cW(F:Fn X.prog X.w X.K X.mg X.base name [p1,p2,p3] k (spM X.K 3 m))(hr:Room k' X.A)(a1:DE X e1 g1)(a2:DE X e2 g2)(a3:DE X e3 g3)(h:k<=k':=by omega)(hg:Gl X name:=by exact rfl)(hdb:(name == ("__debug__" : Str))=false:=by decide)(n1:noStar e1=true:=by exact rfl)(n2:noStar e2=true:=by exact rfl)(n3:noStar e3=true:=by exact rfl):DE X (.Call (.Name name p) [e1,e2,e3] [] pos) (au m (ae g1 (ae g2 (ae g3 ah)))):=nA F (hr.mono h) hg (ai a1 (ai a2 (ai a3 aq (bC n3)) (bC n2)) (bC n1)) (cP (cP (cP g7))) hdb (bC n1) (cJ (by simp only[PH,UQ,n2,n3,Up]))
theorem mh(F:Fn X.prog X.w X.K X.mg X.base name [p1,p2,p3,p4,p5] k (spM X.K 5 m))(hr:Room k' X.A)(a1:DE X e1 g1)(a2:DE X e2 g2)(a3:DE X e3 g3)(a4:DE X e4 g4)(a5:DE X e5 g5)(h:k<=k':=by omega)(hg:Gl X name:=by exact rfl)(hdb:(name == ("__debug__" : Str))=false:=by decide)(n1:noStar e1=true:=by exact rfl)(n2:noStar e2=true:=by exact rfl)(n3:noStar e3=true:=by exact rfl)(n4:noStar e4=true:=by exact rfl)(n5:noStar e5=true:=by exact rfl):DE X (.Call (.Name name p) [e1,e2,e3,e4,e5] [] pos) (au m (ae g1 (ae g2 (ae g3 (ae g4 (ae g5 ah)))))):=nA F (hr.mono h) hg (ai a1 (ai a2 (ai a3 (ai a4 (ai a5 aq (bC n5)) (bC n4)) (bC n3)) (bC n2)) (bC n1)) (cP (cP (cP (cP (cP g7))))) hdb (bC n1) (cJ (by simp only[PH,UQ,n2,n3,n4,n5,Up]))
end
def csB(osc:Qg)(N:List Str)(x:Str)(sc:Qg)(N':List Str):Bool:=decide (sc.kind=.function)&&(sc.names.all fun y=>decide (y.2≠.cell))&&(sc.names.all fun y=>decide (y.2=.local->sc.names.lookup y.1=some .local))&&decide (sc.names.lookup x=some .local)&&(sc.names.all fun y=>decide (y.2=.local->y.1=x\/y.1=".0"))
 && (sc.names.all fun y=>decide (y.2=.free->osc.names.lookup y.1=some .cell\/osc.names.lookup y.1=some .free))&&decide (x::N').Nodup&&decide ((".0" : Str)∉N')&&decide (N'.length=N.length)&&(N'.zip N).all fun p=>decide (p.1=p.2)||sc.names.all fun q=>decide (q.1≠p.1)
theorem IP{osc:Qg}{N:List Str}{x:Str}{sc:Qg}{N':List Str}(h:csB osc N x sc N'=true):CS osc N x sc N':=by
 simp only[csB,NN,decide_eq_true_eq,Oe,Q7] at h;exact⟨h.1.1.1.1.1.1.1.1.1,h.1.1.1.1.1.1.1.1.2,h.1.1.1.1.1.1.1.2,h.1.1.1.1.1.1.2,h.1.1.1.1.1.2,h.1.1.1.1.2,h.1.1.1.2,h.1.1.2,h.1.2,h.2⟩
section
variable {X:Cx}{x:Str}{scope:Qg}{elt iter:Expr}{ifs:List Expr}{px pos:Pos}{it:FI}{c:FT}{f:FE}
theorem yY(st:Stmt)(N N':List Str)(hi:DI X (.Name x px) iter it)(he:∀{C s0 H0 ex},DE (cT X x scope C s0 H0 ex N') elt f)(ht:∀{C s0 H0 ex},DTs (cT X x scope C s0 H0 ex N') ifs c)
  (S:csB (bM st) N x scope N'=true:=by decide +kernel) (hc:X.calm=true:=by rfl) (hs:X.env.scope=bM st:=by rfl) (hN:X.N=N:=by rfl) (hf:∀v,O7 iter X.env v=pure v:=by intro _;rfl):DE X (.ListComp elt [⟨.Name x px,iter,ifs,0⟩] scope pos) (cg it c f):=E7 (IP S) hi (fun _ _ _ _=>he) (fun _ _ _ _=>ht) hc hs hN hf
theorem fE(st:Stmt)(N:List Str)(hi:DI X (.Name x px) iter it)(he:∀{C s0 H0 ex},DE (cT X x scope C s0 H0 ex N) elt f)
  (S:csB (bM st) N x scope N=true:=by decide +kernel) (hc:X.calm=true:=by rfl) (hs:X.env.scope=bM st:=by rfl) (hN:X.N=N:=by rfl) (hf:∀v,O7 iter X.env v=pure v:=by intro _;rfl):DE X (.ListComp elt [⟨.Name x px,iter,[],0⟩] scope pos) (cg it cw f):=yY st N N hi he EX S hc hs hN hf
theorem jT{t:Expr}(st:Stmt)(N:List Str)(hi:DI X (.Name x px) iter it)(he:∀{C s0 H0 ex},DE (cT X x scope C s0 H0 ex N) elt f)(ht:∀{C s0 H0 ex},DT (cT X x scope C s0 H0 ex N) t c)
  (S:csB (bM st) N x scope N=true:=by decide +kernel) (hc:X.calm=true:=by rfl) (hs:X.env.scope=bM st:=by rfl) (hN:X.N=N:=by rfl) (hf:∀v,O7 iter X.env v=pure v:=by intro _;rfl):DE X (.ListComp elt [⟨.Name x px,iter,[t],0⟩] scope pos) (cg it c f):=yY st N N hi he (EW rfl ht) S hc hs hN hf
end
end D
namespace G
open PySem PySem.Spec PyProof.Rows L2 D

theorem bH(k:Nat)(h:0<k):∃j,k=j+1:=⟨k-1,by omega⟩
abbrev ac:FE:=fC (.int 1)
abbrev al:FE:=fC (.int 0)
abbrev be:FE:=aa 0
abbrev bn:FE:=aa 1
abbrev ci:FE:=fC (.str "fails")
abbrev cr:FE:=fC (.bool false)
abbrev db:FE:=aa 2
abbrev dL:FE:=fC (.str "made")
abbrev f8:FE:=fC (.str "value")
abbrev ge:FE:=aa 4
abbrev gl:FE:=aa 3
abbrev ii:FE:=fC (.int 2)
abbrev im:FE:=aa 5
abbrev io:FE:=fC (.int 3)
abbrev kt:FE:=fC (.str "kind")
abbrev mt:FE:=fC .none
abbrev o0:FE:=fC (.bool true)
abbrev pc:FE:=fC (.int 8)
abbrev pp:FE:=fC (.int 4)
abbrev pr:FE:=aa 6
abbrev sw:FE:=fC (.str "wants")
abbrev sB:FE:=fC (.str "a")
abbrev sK:FE:=fC (.str "abcdefghijklmnopqrstuvwxyz")
abbrev tz:FE:=fC (.str "abcdefghijklmnopqrstuvwxyz0123456789-")
abbrev u8:FE:=fC (.int 10)
abbrev wf:FE:=fC (.str "name")
abbrev wn:FE:=fC (.str "want")
abbrev wp:FE:=fC (.int 12)
abbrev wv:FE:=fC (.str "0")
abbrev ww:FE:=fC (.str "1")
abbrev wE:FE:=fC (.str "put")
abbrev wP:FE:=fC (.str "row")
abbrev wT:FE:=fC (.str "part")
abbrev xz:FE:=fC (.str "when")
abbrev zn:FE:=fC (.str "'")
abbrev At:FE:=fC (.str "got")
abbrev AT:FE:=fC (.str "say")
abbrev BT:FE:=fC (.str "")
abbrev Ch:FE:=fC (.str ")")
abbrev Cl:FE:=fC (.int 18)
abbrev Db:FE:=aa 7
abbrev Fa:FE:=fC (.int 7)
abbrev Fr:FE:=fC (.int 5)
abbrev Go:FE:=fC (.str "(")
abbrev Id:FE:=fC (.str ",")
abbrev Ix:FE:=fC (.str "great")
abbrev IN:FE:=fC (.str "many")
abbrev IO:FE:=fC (.str "join")
abbrev KK:FE:=fC (.str "same")
abbrev LE:FE:=fC (.str "fail")
abbrev LT:FE:=fC (.str "peek")
abbrev N0:FE:=fC (.str "sum")
abbrev N1:FE:=fC (.int 6)
abbrev N2:FE:=fC (.str "()")
abbrev N3:FE:=aa 8
abbrev N4:FE:=aa 9
abbrev N5(f:FE):FA:=ae f ah
abbrev N6:FE->FE->FE:=ag ixD
abbrev N7:FA->FE:=aB .tuple
abbrev N8:FE->FE->FE:=ag eqD
abbrev N9:FE->FE->FE:=ag aQ
abbrev No:FA->FE:=fCB aY
abbrev NB:FA->FE:=aB .list
abbrev NC:FE->FE->FE:=ag gtD
abbrev ND:FE->FE->FE:=ag ltD
abbrev NE:FE->FE->FE:=ag neD
abbrev NF:FA->FE:=fCB intD
def fh:FnM:=aT 1 (av (cF (fUn (bh .int) be) (oB (fUn (bh .bl) be))))
def gk:FnM:=aT 2 (av (fCB iB (N5 (cg (bU be) cw (ag inD be db)))))
def fN:FnM:=aT 1 (av (cF (fUn (bh .str) be) (cF (iZ leD leD ac (No (N5 be)) pc) (au gk (ae be (N5 sK))))))
def ki:FnM:=aT 1 (ao (fIf (aR (au fh (N5 be))) (av (ag leD (fCB ml (N5 be)) (ag iy u8 Cl))) aF) (av (cF (fUn (bh .str) be) (cF (ag leD (No (N5 be)) (fC (.int 20))) (au gk (ae be (N5 tz)))))))
def fL:Nat->FnM
 |0=>fun _ _=>none
 |n+1=>aT 2 (ao (fIf (bo (aR (fUn (bh .tup) be))) (av (au ki (N5 be))) aF) (ao (fIf (bi (ax (N8 bn al)) (ax (NC (No (N5 be)) pc))) (av cr) aF) (av (fCB iB (N5 (cg (bU be) cw (au (fL n) (ae be (N5 (ag eB db ac))))))))))
def iK:Nat->FnM
 |0=>fun _ _=>none
 |n+1=>aT 1 (ao (fIf (bo (aR (fUn (bh .tup) be))) (av ac) aF) (av (N9 ac (fCB lY (N5 (cg (bU be) cw (au (iK n) (N5 be))))))))
def jn:FnM:=aT 1 (av (cF (au (fL 25) (ae be (N5 pp))) (ag leD (au (iK 25) (N5 be)) (fC (.int 40)))))
def fH:FnM:=aT 1 (ao (fIf (bi (ax (N8 (N6 be al) wE)) (ax (N8 (N6 be al) At))) (av (NB ah)) aF) (ao (fIf (ax (N8 (N6 be al) wP)) (av (fCB dm (N5 (N6 be ac)))) aF) (av (fCB dm (N5 (fSl be (fP ac) bB))))))
def gQ:FnM:=aT 2 (ao (fIf (bi (bo (aR (au fh (N5 be)))) (bo (aR (au fh (N5 bn))))) (av (N7 (ae ci (N5 kt)))) aF) (av (N7 (ae f8 (N5 (cV (ax (ND be bn)) ac al))))))
def gU:FnM:=aT 1 (av (cV (aR (au jn (N5 be))) (N7 (ae f8 (N5 be))) (N7 (ae ci (N5 Ix)))))
def kf:FnM:=aT 1 (ao (fIf (aR (au fh (N5 be))) (av (N7 (ae ci (N5 kt)))) aF) (av (N7 (ae f8 (N5 (No (N5 be)))))))
def gf:FnM:=aT 2 (ao (fIf (bi (bo (aR (fUn (bh .tup) be))) (bo (aR (au fh (N5 bn))))) (av (N7 (ae ci (N5 kt)))) aF) (ao (fIf (bo (ax (iZ leD ltD al bn (No (N5 be))))) (av (N7 (ae ci (N5 wT)))) aF) (av (N7 (ae f8 (N5 (N6 be bn)))))))
def iI:FnM:=aT 2 (ao (fIf (bi (bo (aR (au fh (N5 be)))) (bo (aR (au fh (N5 bn))))) (av (N7 (ae ci (N5 kt)))) aF) (av (au gU (N5 (N9 be bn)))))
def gh:FnM:=aT 2 (ao (fIf (bO (aR (fUn (bh .str) be)) (aR (fUn (bh .str) bn))) (av (au gU (N5 (N9 be bn)))) aF) (ao (fIf (bO (aR (fUn (bh .tup) be)) (aR (fUn (bh .tup) bn))) (av (au gU (N5 (N9 be bn)))) aF) (av (N7 (ae ci (N5 kt))))))
def bA:FnM:=aT 2 (ao (fIf (ax (N8 be wP)) (av (au gU (N5 (fCB dO (N5 bn))))) aF) (ao (fIf (ax (N8 be IN)) (av (au kf (N5 (N6 bn al)))) aF) (ao (fIf (ax (N8 be wT)) (av (au gf (ae (N6 bn al) (N5 (N6 bn ac))))) aF) (ao (fIf (ax (N8 be N0)) (av (au iI (ae (N6 bn al) (N5 (N6 bn ac))))) aF) (ao (fIf (ax (N8 be IO)) (av (au gh (ae (N6 bn al) (N5 (N6 bn ac))))) aF) (ao (fIf (ax (N8 be KK)) (av (N7 (ae f8 (N5 (cV (ax (ag eqG (N6 bn al) (N6 bn ac))) ac al))))) aF) (av (au gQ (ae (N6 bn al) (N5 (N6 bn ac)))))))))))
def ei:Nat->FnM
 |0=>fun _ _=>none
 |n+1=>aT 5 (ao (fIf (ax (N8 (N6 be al) wE)) (av (N7 (ae f8 (N5 (N6 be ac))))) aF) (ao (fIf (ax (N8 (N6 be al) At)) (av (N7 (ae f8 (N5 (N6 bn (N6 be ac)))))) aF) (ao (dq 2 ah) (ao (c9 3 (bU (au fH (N5 be))) (ao (aO 4 (au (ei n) (ae gl (N5 bn)))) (ao (fIf (ax (N8 (N6 ge al) ci)) (av ge) aF) (da 2 (N6 ge ac))))) (av (fm bA (ae (N6 be al) (N5 db))))))))
def cu:Nat->FnM
 |0=>fun _ _=>none
 |n+1=>aT 3 (ao (fIf (ax (N8 (N6 be al) LE)) (av (N7 (ae ci (N5 (N6 be ac))))) aF) (ao (aO 2 (au (ei 25) (ae (N6 be ac) (N5 bn)))) (ao (fIf (ax (N8 (N6 db al) ci)) (av db) aF) (ao (fIf (ax (N8 (N6 be al) xz)) (av (au (cu n) (ae (cV (ax (ag inG (N6 db ac) (N7 (ae al (ae BT (N5 (N7 ah))))))) (N6 be io) (N6 be ii)) (N5 bn)))) aF) (ao (fIf (ax (N8 (N6 be al) AT)) (av (N7 (ae dL (N5 (N6 db ac))))) aF) (ao (fIf (bo (aR (au fN (N5 (N6 db ac))))) (av (N7 (ae ci (N5 wf)))) aF) (av (N7 (ae (N6 be al) (ae (N6 db ac) (N5 (N6 be ii))))))))))))
def mw:FnM:=aT 9 (ao (f7 3 "want" "peek" bn db) (ao (f7 4 "want" "peek" al al) (ao (dq 5 ah) (ao (aO 6 (fm (cu 25) (ae be (N5 im)))) (ao (bI (ax (ag jQ (N6 pr al) gl)) (ao (aO 7 (ag d7 gl (N6 pr al))) (ao (aO 8 (ag d7 ge (N6 pr al))) (ao (fIf (bi (ax (ag geD N3 (No (N5 Db)))) (ax (NE (N6 (N6 Db N3) al) (N6 pr ac)))) (av (N7 (ae (N7 (ae (fUn (atS [("want","wants"),("peek","peeks")]) (N6 pr al)) (N5 (N6 pr ac)))) (N5 (ag d7 ge wn))))) aF) (ao (da 5 (N6 (N6 Db N3) ac)) (ao (oA 4 (N6 pr al) (N9 N3 ac)) (aO 6 (fm (cu 25) (ae (N6 pr ii) (N5 im))))))))) 100000) (av (N7 (ae pr (N5 (ag d7 ge wn))))))))))
def kG:FnM:=aT 4 (ao (aO 3 (au mw (ae be (ae bn (N5 db))))) (ao (fIf (ax (ND (N6 gl ac) (No (N5 bn)))) (av (N7 (ae (fC (.str "strays")) (N5 (N6 gl ac))))) aF) (av (N6 gl al))))
def gi:Nat->FnM
 |0=>fun _ _=>none
 |n+1=>aT 1 (ao (fIf (aR (au fh (N5 be))) (av (fCB lZ (N5 be))) aF) (ao (fIf (aR (fUn (bh .str) be)) (av (N9 zn be)) aF) (av (N9 (N9 Go (ag lN Id (cg (bU be) cw (au (gi n) (N5 be))))) Ch))))
def gN:FnM:=aT 1 (ao (fIf (bi (ax (N8 be BT)) (bo (aR (au gk (ae be (N5 (fC (.str "0123456789")))))))) (av cr) aF) (av (sI (N8 be wv) (oB (ag g0 be wv)))))
def kh:FnM:=aT 2 (ao (aO 1 (cV (aR (ag g0 be (fC (.str "-")))) (fSl be (fP ac) bB) be)) (ao (fIf (bi (ax (N8 be (fC (.str "-0")))) (bi (ax (NC (No (N5 bn)) (fC (.int 19)))) (bo (aR (au gN (N5 bn)))))) (av mt) aF) (av (NF (N5 be)))))
def kg:FnM:=aT 1 (ao (fIf (aR (ag g0 be zn)) (av (fSl be (fP ac) bB)) aF) (av (au kh (N5 be))))
def jj:FnM:=aT 4 (ao (aO 2 bn) (ao (bI (bO (ax (ND db (No (N5 be)))) (ax (ag dX (N6 be db) (fC (.str "(),"))))) (aO 2 (N9 db ac)) 100000) (ao (aO 3 (au kg (N5 (fSl be (fP bn) (fP db))))) (av (cV (ax (ag isD gl mt)) mt (N7 (ae gl (N5 db))))))))
mutual
def jr:Nat->FnM
 |0=>fun _ _=>none
 |n+1=>aT 6 (ao (fIf (ax (N8 (fSl be (fP bn) (fP (N9 bn ac))) Ch)) (av (N7 (ae (N7 ah) (N5 (N9 bn ac))))) aF) (ao (dq 3 ah) (bI (aR o0) (ao (aO 4 (au (dw n) (ae be (ae bn (N5 db))))) (ao (fIf (ax (ag isD ge mt)) (av mt) aF) (ao (da 3 (N6 ge al)) (ao (aO 1 (N9 (N6 ge ac) ac)) (ao (aO 5 (fSl be (fP (N6 ge ac)) (fP bn))) (ao (fIf (ax (N8 im Ch)) (av (N7 (ae (fCB dO (N5 gl)) (N5 bn)))) aF) (fIf (ax (NE im Id)) (av mt) aF))))))) 100000)))
def dw:Nat->FnM
 |0=>fun _ _=>none
 |n+1=>aT 3 (ao (fIf (ax (NE (fSl be (fP bn) (fP (N9 bn ac))) Go)) (av (au jj (ae be (N5 bn)))) aF) (ao (fIf (ax (N8 db al)) (av mt) aF) (av (au (jr n) (ae be (ae (N9 bn ac) (N5 (ag eB db ac))))))))
end
def eL:FnM:=aT 2 (ao (aO 1 (au (dw 25) (ae be (ae al (N5 pp))))) (ao (fIf (bi (ax (ag isD bn mt)) (ax (ND (N6 bn ac) (No (N5 be))))) (av mt) aF) (av (cV (aR (au jn (N5 (N6 bn al)))) (N6 bn al) mt))))
def jo:FnM:=aT 1 (av (cF (fUn (bh .str) be) (ag jG (au eL (N5 be)) mt)))
def jp:FnM:=aT 1 (av (cF (fUn (bh .tup) be) (cF (N8 (No (N5 be)) ii) (cF (au fN (N5 (N6 be al))) (au jo (N5 (N6 be ac)))))))
def kl:FnM:=aT 1 (ao (fIf (bi (bo (aR (fUn (bh .tup) be))) (ax (NC (No (N5 be)) wp))) (av cr) aF) (av (fCB iB (N5 (cg (bU be) cw (au jp (N5 be)))))))
def gX:FnM:=aT 1 (ao (fIf (bi (bo (aR (fUn (bh .tup) be))) (bi (ax (NE (No (N5 be)) ii)) (bo (aR (fUn (bh .str) (N6 be al)))))) (av cr) aF) (ao (fIf (ax (N8 (N6 be al) dL)) (av (au jo (N5 (N6 be ac)))) aF) (av (cF (ag inD (N6 be al) (N7 (ae ci (N5 sw)))) (au fN (N5 (N6 be ac)))))))
def ej:FnM:=aT 1 (ao (fIf (bi (bo (aR (fUn (bh .tup) be))) (bi (ax (NE (No (N5 be)) io)) (bo (aR (au fN (N5 (N6 be al))))))) (av cr) aF) (av (cF (au kl (N5 (N6 be ac))) (au gX (N5 (N6 be ii))))))
def iJ:FnM:=aT 4 (ao (aO 3 (au kG (ae be (ae (cg (bU bn) cw (N7 (ae (N6 be al) (N5 (au eL (N5 (N6 be ac))))))) (N5 (NB ah)))))) (ao (fIf (ax (N8 (N6 gl al) dL)) (av (ag eqG db (N7 (ae dL (N5 (au (gi 25) (N5 (N6 gl ac)))))))) aF) (av (ag eqG db gl))))
def gj:FnM:=aT 2 (av (au iJ (ae be (ae (N6 bn ac) (N5 (N6 bn ii))))))
def eJ:FnM:=aT 2 (ao (fIf (ax (ND bn (No (N5 be)))) (av (N6 be bn)) aF) (av al))
def gc:FnM:=aT 6 (ao (dq 2 ah) (ao (aO 3 al) (ao (fIf (ax (ag geD be (ag iy u8 Cl))) (aO 3 be) aF) (ao (aO 4 (N9 (ag cI be (fC (.int 2147483629))) (fC (.int 48271)))) (ao (c9 5 (fA bn) (ao (aO 4 (ag cI (N9 (N9 (ag cm ge ge) (ag cm (fC (.int 48271)) ge)) (ag cm Fa im)) (fC (.int 2147483647)))) (fIf (ax (NC gl al)) (ao (da 2 (ag cI gl (fC (.int 720720)))) (aO 3 (ag gF gl (fC (.int 720720))))) (da 2 (ag gF (ag cI (N9 (ag cm ge (fC (.int 69621))) (ag cm (fC (.int 13)) im)) (fC (.int 2147483629))) io))))) (av db))))))
def bv:FnM:=aT 2 (ao (sH be ac (N9 (N6 be ac) ac)) (av (ag cI (N6 (N6 be al) (ag cI (ag eB (N6 be ac) ac) (No (N5 (N6 be al))))) bn)))
def iE:Nat->FnM
 |0=>fun _ _=>none
 |n+1=>aT 1 (ao (fIf (bo (aR (fUn (bh .tup) be))) (av ac) aF) (av (N9 ac (fCB lY (N5 (cg (bU be) cw (au (iE n) (N5 be))))))))
def dS:FnM:=aT 1 (ao (fIf (bi (bo (aR (fUn (bh .str) be))) (bi (ax (ND (No (N5 be)) ac)) (ax (NC (No (N5 be)) pc)))) (av cr) aF) (av (ag eqG (cg (bU be) (ax (ag dX be sK)) be) (NB ah))))
def eI:Nat->FnM
 |0=>fun _ _=>none
 |n+1=>aT 3 (ao (fIf (aR (fUn (bh .bl) be)) (av cr) aF) (ao (fIf (aR (fUn (bh .int) be)) (av (ag leD (fCB ml (N5 be)) (ag iy u8 Cl))) aF) (ao (fIf (aR (fUn (bh .str) be)) (ao (aO 2 tz) (av (cF (ag leD (No (N5 be)) (fC (.int 20))) (ag eqG (cg (bU be) (ax (ag dX be gl)) be) (NB ah))))) aF) (ao (fIf (bi (bo (aR (fUn (bh .tup) be))) (bi (ax (NC (No (N5 be)) pc)) (ax (NC bn io)))) (av cr) aF) (av (ag eqE (cg (bU be) (bo (aR (au (eI n) (ae be (N5 (N9 db ac)))))) be) (NB ah)))))))
def fF:FnM:=aT 1 (av (cF (au (eI 25) (ae be (N5 al))) (ag leD (au (iE 25) (N5 be)) (fC (.int 40)))))
def dU:Nat->FnM
 |0=>fun _ _=>none
 |n+1=>aT 1 (ao (fIf (aR (fUn (bh .tup) be)) (av (N9 (N9 Go (ag lN Id (cg (bU be) cw (au (dU n) (N5 be))))) Ch)) aF) (ao (fIf (aR (fUn (bh .str) be)) (av (N9 zn be)) aF) (av (fCB lZ (N5 be)))))
def bP:FnM:=aT 5 (ao (aO 3 (cF (fUn (bh .int) bn) (fUn (bh .int) db))) (ao (aO 4 (cF (N8 (fUn (bh .str) bn) (fUn (bh .str) db)) (N8 (fUn (bh .tup) bn) (fUn (bh .tup) db)))) (ao (fIf (ax (N8 be KK)) (av (N7 (ae f8 (N5 (NF (N5 (N8 (d9 bn) (d9 db)))))))) aF) (ao (fIf (bO (ax (N8 be (fC (.str "less")))) (aR gl)) (av (N7 (ae f8 (N5 (NF (N5 (ND bn db))))))) aF) (ao (fIf (bO (ax (N8 be wT)) (bO (aR (fUn (bh .tup) bn)) (aR (fUn (bh .int) db)))) (av (cV (ax (iZ leD ltD al db (No (N5 bn)))) (N7 (ae f8 (N5 (N6 bn db)))) (N7 (ae ci (N5 wT))))) aF) (ao (fIf (bi (bO (ax (N8 be IO)) (bO (aR ge) (bo (aR gl)))) (bO (ax (N8 be N0)) (aR gl))) (av (cV (aR (au fF (N5 (N9 bn db)))) (N7 (ae f8 (N5 (N9 bn db)))) (N7 (ae ci (N5 Ix))))) aF) (av (N7 (ae ci (N5 kt))))))))))
def de:Nat->FnM
 |0=>fun _ _=>none
 |n+1=>aT 5 (ao (fIf (ax (N8 (N6 be al) wE)) (av (N7 (ae f8 (N5 (N6 be ac))))) aF) (ao (fIf (ax (N8 (N6 be al) At)) (av (N7 (ae f8 (N5 (N6 bn (N6 be ac)))))) aF) (ao (dq 2 ah) (ao (c9 3 (bU (N6 (NB (ae (fCB dm (N5 (fSl be (fP ac) bB))) (N5 (fCB dm (N5 (N6 be ac)))))) (NF (N5 (N8 (N6 be al) wP))))) (ao (aO 4 (au (de n) (ae gl (N5 bn)))) (ao (fIf (ax (N8 (N6 ge al) ci)) (av ge) aF) (da 2 (N6 ge ac))))) (ao (fIf (ax (N8 (N6 be al) wP)) (av (cV (aR (au fF (N5 (fCB dO (N5 db))))) (N7 (ae f8 (N5 (fCB dO (N5 db))))) (N7 (ae ci (N5 Ix))))) aF) (ao (fIf (ax (N8 (N6 be al) IN)) (av (cV (aR (fUn (bh .int) (N6 db al))) (N7 (ae ci (N5 kt))) (N7 (ae f8 (N5 (No (N5 (N6 db al)))))))) aF) (av (au bP (ae (N6 be al) (ae (N6 db al) (N5 (N6 db ac))))))))))))
def eG:FnM:=aT 5 (fT 1 (b6 (kIf 1 (bi (bo (aR (fUn (bh .str) be))) (ax (NC (No (N5 be)) (fC (.int 900))))) (kNo (j5 (NB ah))) fw) (b6 (kFor 2 (lA (ag jB (fUn (fW ")" ",),") (fUn (fW "(" ",(,") be)) Id)) (b6 (j4 3 (fSl db (fP (NF (N5 (N8 (fSl db bB (fP ac)) (fC (.str "-")))))) bB)) (kIf 1 (ax (N8 db Go)) jP (kIf 1 (bO (ax (N8 db Ch)) (ax (NC (No (N5 bn)) ac))) (b6 (l9 4) (fD (fUn dQ ac) ge)) (kIf 1 (ax (N8 (fSl db bB (fP ac)) zn)) (fD (fUn dQ ac) (fSl db (fP ac) bB)) (kIf 1 (bO (ax (NE gl BT)) (bO (ax (ND (No (N5 db)) (fC (.int 25)))) (ax (ag eqG (cg (bU gl) (ax (ag dX be (fC (.str "0123456789")))) be) (NB ah))))) (fD (fUn dQ ac) (NF (N5 db))) fw)))))) (b6 (kIf 1 (bi (ax (NC (No (N5 bn)) ac)) (bi (ax (NE (No (N5 (N6 bn al))) ac)) (bi (bo (aR (au fF (N5 (N6 (N6 bn al) al))))) (ax (NE (au (dU 25) (N5 (N6 (N6 bn al) al))) be))))) (j5 (NB ah)) fw) gC))))
def fK:FnM:=aT 5 (ao (fIf (ax (ag isD db mt)) (av (cV (ax (ag inA ge bn)) (NB (N5 (ag ixA bn ge))) (N7 (ae sw (N5 ge))))) aF) (ao (fIf (bi (ax (N8 be LT)) (bO (ax (ND gl (No (N5 db)))) (ax (NE (N6 (N6 db gl) al) ge)))) (av (N7 (ae (fC (.str "strays")) (N5 ge)))) aF) (av (cV (ax (ND gl (No (N5 db)))) (au eG (N5 (N6 (N6 db gl) ac))) (N7 (ae sw (N5 ge)))))))
def fM:FnM:=aT 7 (ao (dq 3 ah) (ao (dq 4 ah) (ao (bI (ax (NE (N6 be al) LE)) (ao (aO 5 (fm (de 25) (ae (N6 be ac) (N5 gl)))) (ao (fIf (bi (ax (N8 (N6 im al) ci)) (ax (N8 (N6 be al) AT))) (av (N7 (ae ge (N5 (N6 (NB (ae im (N5 (N7 (ae dL (N5 (au (dU 25) (N5 (N6 im ac))))))))) (NF (N5 (N8 (N6 im al) f8)))))))) aF) (fIf (ax (N8 (N6 be al) xz)) (aO 0 (N6 be (N9 ii (NF (N5 (ag inD (d9 (N6 im ac)) (NB (ae wv (ae (fC (.str "''")) (N5 N2)))))))))) (fIf (bo (aR (au dS (N5 (N6 im ac))))) (av (N7 (ae ge (N5 (N7 (ae ci (N5 wf))))))) (ao (aO 6 (au fK (ae (N6 be al) (ae bn (ae db (ae (No (N5 ge)) (N5 (N6 im ac)))))))) (ao (fIf (aR (fUn (bh .tup) pr)) (av (N7 (ae ge (N5 pr)))) aF) (ao (da 3 (N6 pr al)) (ao (fIf (ax (N8 (N6 be al) wn)) (da 4 (N7 (ae (N6 im ac) (N5 (au (dU 25) (N5 (N6 pr al))))))) aF) (aO 0 (N6 be ii)))))))))) 100000) (av (N7 (ae ge (N5 (N7 (ae ci (N5 (N6 be ac)))))))))))
def ko:FnM:=aT 5 (ao (nU 1 (N6 be al)) (ao (aO 2 o0) (ao (bI (aR db) (ao (aO 2 cr) (c9 3 (bU (cg (bU (N6 be ac)) (ax (ag li be db)) be)) (ao (aO 4 (lR (N6 (au fM (ae (ag ixA (N6 be ac) gl) (ae bn (N5 mt)))) ac))) (fIf (ax (N8 (N6 ge al) dL)) (ao (iq 1 gl (N6 (au eG (N5 (N6 ge ac))) al)) (aO 2 o0)) aF)))) 100000) (av bn))))
def km:FnM:=aT 5 (ao (iA 3 4 (au fM (ae (ag ixA (N6 be ac) db) (ae bn (N5 mt))))) (av (N7 (ae db (ae (fCB dO (N5 gl)) (N5 ge))))))
def dN:FnM:=aT 2 (ao (fIf (bi (bo (aR (fUn (bh .tup) be))) (bi (ax (NE (No (N5 be)) ii)) (bo (aR (fUn (bh .str) (N6 be al)))))) (av cr) aF) (ao (fIf (bi (aR bn) (ax (N8 (N6 be al) dL))) (av (cF (ag neG (au eG (N5 (N6 be ac))) (NB ah)) (au dS (N5 (N6 be al))))) aF) (av (cF (ag inD (N6 be al) (NB (ae ci (N5 sw)))) (au dS (N5 (N6 be ac)))))))
def fJ:FnM:=aT 1 (ao (fIf (bi (bo (aR (fUn (bh .tup) be))) (bi (ax (NE (No (N5 be)) io)) (bo (aR (au dS (N5 (N6 be al))))))) (av cr) aF) (ao (fIf (bi (bo (aR (fUn (bh .tup) (N6 be ac)))) (bi (ax (NC (No (N5 (N6 be ac))) wp)) (bo (aR (au dN (ae (N6 be ii) (N5 cr))))))) (av cr) aF) (av (ag eqE (cg (bU (N6 be ac)) (bo (aR (au dN (ae be (N5 o0))))) be) (NB ah)))))
def fG:FnM:=aT 4 (ao (iA 2 3 (au fM (ae be (ae (fC (.dict [])) (N5 (N6 bn ac)))))) (av (cF (ag eqG gl (N6 bn ii)) (N8 (No (N5 db)) (No (N5 (N6 bn ac)))))))
def gO:FnM:=aT 7 (ao (aO 2 sK) (ao (aO 3 (au bv (ae be (N5 pp)))) (ao (aO 4 (au bv (ae be (N5 wp)))) (ao (fIf (ax (N8 gl al)) (ao (aO 5 (NB (ae (fC (.str "told")) (ae dL (ae AT (ae wn (ae sw (ae ci (ae wE (ae At (ae wP (ae LT (ae xz (N5 kt)))))))))))))) (av (fSl (N9 (fSl im (fP ge) bB) (fSl im bB (fP ge))) bB (fP bn)))) aF) (ao (fIf (ax (N8 gl ac)) (av (cg (fA bn) cw (ag cm (N6 gl (N9 im (ag gF be pc))) (N9 ac (ag cI be pc))))) aF) (ao (aO 6 (ag cm (N6 db ge) (au bv (ae be (N5 (ag eB pc (ag cI ge Fa))))))) (av (cg (fA bn) cw (N9 (N9 (ag cm (N6 gl im) (ag cI im Fa)) (N6 gl (ag cI (N9 im be) (fC (.int 26))))) Db)))))))))
def dt:Nat->FnM
 |0=>fun _ _=>none
 |n+1=>aT 5 (ao (aO 3 (au bv (ae be (N5 u8)))) (ao (aO 4 (NB (ae al (ae ac (ae (fUn dQ ac) (ae ii (ae (ag iy u8 Cl) (ae (fUn dQ (ag iy u8 Cl)) (ae BT (ae sB (ae wv (ae (fC (.str "-")) (ae (ag cm sB (fC (.int 20))) (N5 (N7 ah))))))))))))))) (ao (fIf (bi (ax (ND gl N1)) (bO (ax (N8 db al)) (ax (NC gl Fa)))) (av (N6 ge (au bv (ae be (N5 wp))))) aF) (ao (fIf (ax (ND gl pc)) (av (N6 bn (au bv (ae be (N5 (No (N5 bn))))))) aF) (av (fCB dO (N5 (cg (fA (au bv (ae be (N5 pp)))) cw (au (dt n) (ae bn (ae db (N5 (ag eB gl ac)))))))))))))
def iD:FnM:=aT 3 (ao (fIf (bO (ax (NC db al)) (ax (NC (au bv (ae be (N5 io))) al))) (av (N7 (ae At (N5 (au bv (ae be (N5 db))))))) aF) (av (N7 (ae wE (N5 (au (dt 25) (ae be (ae bn (N5 ac)))))))))
def iF:FnM:=aT 6 (ao (aO 3 (au bv (ae be (N5 u8)))) (ao (aO 4 (au iD (ae be (ae bn (N5 db))))) (ao (fIf (ax (ND gl Fr)) (av (N6 (NB (ae ge (N5 (N7 (ae IN (N5 ge)))))) (ag gF gl pp))) aF) (ao (aO 5 (au iD (ae be (ae bn (N5 db))))) (ao (fIf (ax (N8 gl Fr)) (av (N7 (ae wP (N5 (fSl (N7 (ae ge (N5 im))) bB (fP (au bv (ae be (N5 io))))))))) aF) (av (N7 (ae (N6 (NB (ae N0 (ae IO (ae KK (ae (fC (.str "less")) (N5 wT)))))) (au bv (ae be (N5 Fr)))) (ae ge (N5 im))))))))))
def cG:Nat->FnM
 |0=>fun _ _=>none
 |n+1=>aT 9 (ao (aO 5 (au bv (ae be (N5 pc)))) (ao (aO 6 (au iF (ae be (ae bn (N5 gl))))) (ao (fIf (bO (ax (NC db al)) (ax (ND im pp))) (ao (aO 7 (N6 (NB (ae wn (N5 LT))) (NF (N5 (cF ge (N8 (au bv (ae be (N5 pp))) al)))))) (ao (fIf (ax (NC (au bv (ae be (N5 Fr))) al)) (aO 6 (N7 (ae wE (N5 (N6 bn (au bv (ae be (N5 (No (N5 bn)))))))))) aF) (av (N7 (ae Db (ae pr (N5 (au (cG n) (ae be (ae bn (ae (ag eB db ac) (ae (N9 gl ac) (N5 ge))))))))))))) aF) (ao (fIf (bO (ax (NC db ac)) (ax (ND im N1))) (ao (aO 8 (au (cG n) (ae be (ae bn (ae (ag eB db ii) (ae gl (N5 ge))))))) (av (N7 (ae xz (ae pr (ae N3 (N5 (au (cG n) (ae be (ae bn (ae (ag eB db ii) (ae gl (N5 ge))))))))))))) aF) (ao (fIf (bO (ax (N8 im N1)) (ax (N8 (au bv (ae be (N5 ii))) al))) (av (N7 (ae LE (N5 (N6 (N9 bn (NB (ae kt (N5 wf)))) (au bv (ae be (N5 (N9 (No (N5 bn)) ii))))))))) aF) (av (N7 (ae AT (N5 pr)))))))))
def kq:FnM:=aT 10 (ib 3 (ae (au gc (ae (au eJ (ae be (N5 bn))) (N5 (fC (.int 24))))) (N5 al)) (ao (aO 4 (N9 io (au bv (ae gl (N5 pc))))) (ao (aO 5 (au gO (ae gl (N5 (N9 ge ii))))) (ao (jR 6) (ao (jR 7) (ao (c9 8 (fA ge) (ib 9 (ae (au gc (ae (N9 (au eJ (ae be (N5 (N9 (N9 bn ac) N3)))) (ag cm (fC (.int 977)) N3)) (N5 (fC (.int 60))))) (N5 al)) (fIf (ax (N8 (au bv (ae N4 (N5 pp))) al)) (iq 6 (N6 im N3) (au (dt 25) (ae N4 (ae im (N5 ii))))) (iq 7 (N6 im N3) (au (cG 25) (ae N4 (ae im (ae (N9 ac (au bv (ae N4 (N5 pp)))) (ae al (N5 db)))))))))) (av (N7 (ae pr (N5 Db))))))))))
def dy:FnM:=aT 4 (ao (aO 2 (au bv (ae be (N5 wp)))) (ao (fIf (bO (ax (ND db io)) (aR (fUn (bh .tup) bn))) (av (N6 (NB (ae (fCB dm (N5 bn)) (ae (N9 bn (N7 (N5 bn))) (N5 (fSl bn (fP ac) bB))))) db)) aF) (ao (fIf (bO (ax (ND db N1)) (aR (fUn (bh .str) bn))) (av (N6 (NB (ae (fUn gw bn) (ae (N9 bn (fC (.str "abcdefgh"))) (N5 BT)))) (ag eB db io))) aF) (ao (aO 3 (NB (ae mt (ae o0 (ae al (ae (fUn dQ ac) (ae BT (ae sB (ae (fC (.str "A")) (ae (fC (.str "a b")) (ae (N7 ah) (ae (NB ah) (ae (N7 (ae sB (N5 ww))) (ae (N7 (ae dL (N5 ww))) (ae (N7 (ae dL (N5 ac))) (ae (fC (.dict [])) (ae wf (N5 (fC (.str "01")))))))))))))))))))) (av (N6 gl (au bv (ae be (N5 (No (N5 gl)))))))))))
def gR:Nat->FnM
 |0=>fun _ _=>none
 |n+1=>aT 3 (ao (fIf (bO (aR (fUn (bh .tup) bn)) (bO (ax (NC (No (N5 bn)) al)) (ax (NC (au bv (ae be (N5 pp))) al)))) (ao (aO 2 (au bv (ae be (N5 (No (N5 bn)))))) (av (N9 (N9 (fSl bn bB (fP db)) (N7 (N5 (au (gR n) (ae be (N5 (N6 bn db))))))) (fSl bn (fP (N9 db ac)) bB)))) aF) (av (au dy (ae be (N5 bn)))))
def du:FnM:=aT 10 (ao (se 3 4 5 bn) (ao (aO 6 (au bv (ae be (N5 pc)))) (ao (aO 7 (au bv (ae be (N5 (N9 (No (N5 ge)) ac))))) (ao (fIf (ax (ND pr ii)) (av (N7 (ae gl (ae (N9 (fSl ge bB (fP Db)) (N6 (NB (ae (N7 ah) (N5 (fSl ge (fP (N9 Db ac)) bB)))) pr)) (N5 im))))) aF) (ao (fIf (ax (N8 pr ii)) (av (N7 (ae gl (ae (fSl (N9 ge (ag oR (fSl ge bB (fP ac)) (fC (.int 13)))) bB (fP (N6 (NB (ae (N9 (No (N5 ge)) ac) (ae wp (N5 (fC (.int 13)))))) (au bv (ae be (N5 io)))))) (N5 im))))) aF) (ao (fIf (bO (ax (N8 pr io)) (ax (NC (No (N5 ge)) Db))) (ao (aO 8 (N6 (NB (ae wv (ae zn (ae N2 (ae (fC (.str "01")) (ae (fC (.str "'A")) (ae al (ae ww (ae (fC (.str "(1,'a)")) (ae (fC (.str "(1,)")) (N5 (fC (.str "-1"))))))))))))) (au bv (ae be (N5 u8))))) (ao (aO 9 (N6 (NB (ae (N6 (N6 ge Db) al) (ae (N6 db al) (N5 (fC (.str "A")))))) (au bv (ae be (N5 io))))) (av (N7 (ae gl (ae (N9 (N9 (fSl ge bB (fP Db)) (N7 (N5 (N7 (ae N4 (N5 N3)))))) (fSl ge (fP (N9 Db ac)) bB)) (N5 im))))))) aF) (ao (fIf (ax (N8 pr pp)) (ao (aO 9 (NB (ae (N7 (ae dL (N5 wv))) (ae (N7 (ae dL (N5 al))) (ae (N7 (ae dL (N5 (fC (.str "00"))))) (ae (N7 (ae ci (N5 kt))) (ae (N7 (ae ci (N5 ww))) (N5 (N7 (ae sw (N5 (N6 db al)))))))))))) (ao (aO 9 (N9 N4 (NB (ae (N7 (ae sw (N5 (fC (.str "A"))))) (ae (N7 (ae (fC (.str "lacks")) (N5 sB))) (ae (N7 (N5 dL)) (ae (NB (ae dL (N5 ww))) (ae (N7 (ae (fC (.str "Made")) (N5 ww))) (N5 (N7 (ae ci (N5 wf)))))))))))) (av (N7 (ae gl (ae ge (N5 (N6 N4 (au bv (ae be (N5 wp))))))))))) aF) (ao (fIf (ax (N8 pr Fr)) (av (N7 (ae gl (ae (fUn oM ge) (N5 im))))) aF) (av (au (gR 25) (ae be (N5 bn))))))))))))
def gP:FnM:=aT 5 (ao (aO 2 (au fJ (N5 bn))) (ao (fIf (ax (NE (d9 (au ej (N5 bn))) (d9 db))) (av cr) aF) (ao (c9 3 (bU (N6 be ac)) (fIf (aR db) (ao (aO 4 (au fG (ae (ag ixA (N6 be ac) gl) (N5 bn)))) (fIf (ax (NE (d9 (au gj (ae (ag ixA (N6 be ac) gl) (N5 bn)))) (d9 ge))) (av cr) aF)) aF)) (av o0))))
def oj:FnM:=aT 10 (ao (aO 1 (au kq (ae be (ae ac (N5 (N8 (ag cI (au eJ (ae be (N5 al))) io) al)))))) (ao (aO 2 (au ko (N5 bn))) (ao (aO 3 (fCB lG (N5 (N9 (fCB i8 (N5 (N6 bn al))) (fCB i8 (N5 (N6 bn ac))))))) (ao (lB 4 5 (fUn jC (N6 bn ac)) (ao (aO 6 (au km (ae bn (ae db (N5 im))))) (ao (fIf (bo (aR (au gP (ae bn (N5 pr))))) (av cr) aF) (ib 7 (ae (au gc (ae (N9 (au eJ (ae be (N5 (N9 wp ge)))) (ag cm (fC (.int 53)) ge)) (N5 (fC (.int 40))))) (N5 al)) (c9 8 (fA io) (fIf (bo (aR (au gP (ae bn (N5 (au du (ae Db (ae pr (N5 gl))))))))) (av cr) aF)))))) (ao (c9 9 (bU (NB (ae mt (ae (N7 ah) (ae (NB ah) (ae sB (ae (fC (.dict [])) (ae (N7 (ae sB (N5 (N7 ah)))) (ae (N7 (ae sB (ae (N7 ah) (ae (N7 (ae dL (N5 ww))) (N5 ac))))) (N5 Fa)))))))))) (fIf (ax (ag lO (au ej (N5 N4)) cr)) (av cr) aF)) (av (ag ma (au ej (N5 (N7 (ae sB (ae (N7 ah) (N5 (N7 (ae dL (N5 zn))))))))) o0)))))))
def eN:FS:=(ao (aO 5 (fm (de 25) (ae (N6 be ac) (N5 gl)))) (ao (fIf (bi (ax (N8 (N6 im al) ci)) (ax (N8 (N6 be al) AT))) (av (N7 (ae ge (N5 (N6 (NB (ae im (N5 (N7 (ae dL (N5 (au (dU 25) (N5 (N6 im ac))))))))) (NF (N5 (N8 (N6 im al) f8)))))))) aF) (fIf (ax (N8 (N6 be al) xz)) (aO 0 (N6 be (N9 ii (NF (N5 (ag inD (d9 (N6 im ac)) (NB (ae wv (ae (fC (.str "''")) (N5 N2)))))))))) (fIf (bo (aR (au dS (N5 (N6 im ac))))) (av (N7 (ae ge (N5 (N7 (ae ci (N5 wf))))))) (ao (aO 6 (au fK (ae (N6 be al) (ae bn (ae db (ae (No (N5 ge)) (N5 (N6 im ac)))))))) (ao (fIf (aR (fUn (bh .tup) pr)) (av (N7 (ae ge (N5 pr)))) aF) (ao (da 3 (N6 pr al)) (ao (fIf (ax (N8 (N6 be al) wn)) (da 4 (N7 (ae (N6 im ac) (N5 (au (dU 25) (N5 (N6 pr al))))))) aF) (aO 0 (N6 be ii))))))))))
def fQ:FS:=(ao (aO 4 (lR (N6 (au fM (ae (ag ixA (N6 be ac) gl) (ae bn (N5 mt)))) ac))) (fIf (ax (N8 (N6 ge al) dL)) (ao (iq 1 gl (N6 (au eG (N5 (N6 ge ac))) al)) (aO 2 o0)) aF))
def mL:FS:=(ao (aO 2 cr) (c9 3 (bU (cg (bU (N6 be ac)) (ax (ag li be db)) be)) fQ))
def mz:FS:=(fIf (aR db) (ao (aO 4 (au fG (ae (ag ixA (N6 be ac) gl) (N5 bn)))) (fIf (ax (NE (d9 (au gj (ae (ag ixA (N6 be ac) gl) (N5 bn)))) (d9 ge))) (av cr) aF)) aF)
theorem A0:gP=aT 5 (ao (aO 2 (au fJ (N5 bn))) (ao (fIf (ax (NE (d9 (au ej (N5 bn))) (d9 db))) (av cr) aF) (ao (c9 3 (bU (N6 be ac)) mz) (av o0)))):=rfl
def kN:FS:=(fIf (bo (aR (au gP (ae bn (N5 (au du (ae Db (ae pr (N5 gl))))))))) (av cr) aF)
def qv:FS:=(fIf (ax (ag lO (au ej (N5 N4)) cr)) (av cr) aF)
end G
namespace K1
open PySem
structure Sh(d:NG)(k n:Nat):Prop where
 sh:d.showable=true
 lv:d.leavesShort 200=true
 dp:d.depth<=k
 wt:d.weight<=n
theorem Sh.mono{d:NG}{k n k' n':Nat}(h:Sh d k n)(hk:k<=k')(hn:n<=n'):Sh d k' n':=⟨h.sh,h.lv,Of h.dp hk,Of h.wt hn⟩
theorem Sh.int{i:Int}(h:i.natAbs<10^40):Sh (.int i) 0 200:=by
 have l:i.natAbs.log2<150:=by
  by_cases h0:i.natAbs=0
  .rw[h0];decide
  .exact(TR h0).mpr (Td h (by decide))
 refine⟨?_,?_,NT _,?_⟩
 .show decide (i.natAbs.log2<1920)=true
  exact decide_eq_true (by omega)
 .show decide ((Ql (.int i)).length<=200)=true
  refine decide_eq_true ?_;have e:=int_text_length_le10 (k:=40) (by decide) h;show (NH (toString i)).length<=200;rw[PySem.ofString_length];omega
 .show (if i == 0 then 0 else i.natAbs.log2+1)<=200
  split <;> omega
theorem Sh.str{x:Str}{n:Nat}(h:∀c∈x.cps.toList,c<128)(hn:x.length<=n):Sh (.str x) 0 n:=by
 refine⟨rfl,?_,NT _,hn⟩;show (x.cps.toList.all fun c=>decide (c<16^8))=true;exact Oe.mpr fun c hc=>decide_eq_true (Td (h c hc) (by decide))
structure Shs(ds:List NG)(k n:Nat):Prop where
 sh:UA ds=true
 lv:Tw 200 ds=true
 dp:Qb ds<=k
 wt:Qv ds<=n
theorem Shs.nil(k n:Nat):Shs [] k n:=⟨rfl,rfl,Pi _,Pi _⟩
theorem Shs.cons{d:NG}{ds:List NG}{k n m:Nat}(h:Sh d k n)(t:Shs ds k m):Shs (d::ds) k (n+1+m):=by
 refine⟨?_,?_,?_,?_⟩
 .show (d.showable&&UA ds)=true
  rw[h.sh,t.sh];rfl
 .show (d.leavesShort 200&&Tw 200 ds)=true
  rw[h.lv,t.lv];rfl
 .show max d.depth (Qb ds)<=k
  exact Nat.max_le.mpr ⟨h.dp,t.dp⟩
 .show d.weight+1+Qv ds<=n+1+m
  have:=h.wt;have:=t.wt;omega
theorem Shs.of:∀{ds:List NG}{k:Nat}{f:NG->Nat},(∀d∈ds,Sh d k (f d))->Shs ds k ((ds.map fun d=>f d+1).sum)
 |[],k,f,_=>Shs.nil _ _
 |d::r,k,f,h=>by
  have q:=Shs.of (ds:=r) (f:=f) fun x hx=>h x (NJ _ hx);have z:=Shs.cons (h d NI) q;simpa using z
theorem Sh.tuple{ds:List NG}{k n:Nat}(h:Shs ds k n):Sh (.tuple ds) (k+1) n:=⟨h.sh,h.lv,Nat.succ_le_succ h.dp,h.wt⟩
theorem ia{s x:Str}(hs:∀c∈s.cps.toList,c<128)(h:has s x=true):∀c∈x.cps.toList,c<128:=fun c hc=>
 hs c (of_decide_eq_true (Oe.mp h c hc))
theorem jK:∀c∈TXT.cps.toList,c<128:=by decide +kernel
theorem yA:∀c∈LET.cps.toList,c<128:=by decide +kernel
theorem rA:∀(n:Nat) (d:NG),aG n d=true->Sh d n (201*(aH n d).toNat)/\1<=aH n d
 |0,d,h=>by
  cases d with
  |int i=>
   have h':=of_decide_eq_true (p:=(if i<0 then -i else i)<=10^18) h;refine⟨(Sh.int ?_).mono (NT _) (by show 200<=201*(1:Int).toNat;decide),Qm 1⟩
   have:i.natAbs<=10^18:=by split at h' <;> omega
   exact Pk this (by decide)
  |str x=>
   have h':(decide (x.length<=20)&&has TXT x)=true:=h;rw[NN] at h';have:=of_decide_eq_true h'.1;exact⟨(Sh.str (n:=20) (ia jK h'.2) this).mono (NT _) (by show 20<=201*(1:Int).toNat;decide),Qm 1⟩
  |_=>cases h
 |n+1,d,h=>by
  cases d with
  |int i=>
   have h':=of_decide_eq_true (p:=(if i<0 then -i else i)<=10^18) h;refine⟨(Sh.int ?_).mono (Pi _) (by show 200<=201*(1:Int).toNat;decide),Qm 1⟩
   have:i.natAbs<=10^18:=by split at h' <;> omega
   exact Pk this (by decide)
  |str x=>
   have h':(decide (x.length<=20)&&has TXT x)=true:=h;rw[NN] at h';have:=of_decide_eq_true h'.1;exact⟨(Sh.str (n:=20) (ia jK h'.2) this).mono (Pi _) (by show 20<=201*(1:Int).toNat;decide),Qm 1⟩
  |tuple ds=>
   have h':(decide (ds.length<=8)&&ds.all (aG n))=true:=h;rw[NN] at h';have ha:=Oe.mp h'.2;have q:=Shs.of (ds:=ds) (k:=n) (f:=fun x=>201*(aH n x).toNat) fun x hx=>(rA n x (ha x hx)).1
   have key:∀l:List NG,(∀x∈l,1<=aH n x)->0<=(l.map (aH n)).sum/\(l.map fun x=>201*(aH n x).toNat+1).sum<=201*((l.map (aH n)).sum).toNat+l.length:=by
    intro l
    induction l with
    |nil=>intro _;exact⟨by simp,by simp⟩
    |cons x r ih=>
     intro hx;have h1:=hx x NI;have h2:=ih fun y hy=>hx y (NJ _ hy);simp only[Oi,Qe,Ou];omega
   have kk:=key ds fun x hx=>(rA n x (ha x hx)).2;have hl:=of_decide_eq_true h'.1;have e:aH (n+1) (.tuple ds)=1+(ds.map (aH n)).sum:=rfl;refine⟨(Sh.tuple q).mono (NT _) ?_,?_⟩
   .rw[e];omega
   .rw[e];omega
  |_=>cases h
end K1
namespace K1
open PySem
def Good(d:NG):Prop:=Sh d 60 60000
end K1
namespace G
open PySem PySem.Spec PyProof.Rows L2 D
open K1 (has LET TXT single aG aH lsz isName aE tdp bw ldp)
mutual
def smB:NG->Bool
 |.str x=>decide (x.length<=60000)&&x.cps.toList.all fun c=>decide (c<128)
 |.tuple ds=>iw ds
 |_=>true
def iw:List NG->Bool
 |[]=>true
 |d::r=>smB d&&iw r
end
def Sm(d:NG):Prop:=smB d=true
theorem Sm.both{x:Str}(h:Sm (.str x)):x.length<=60000/\∀c∈x.cps.toList,c<128:=by
 have h':(decide (x.length<=60000)&&x.cps.toList.all fun c=>decide (c<128))=true:=by
  have:smB (.str x)=true:=h;rw[smB] at this;exact this
 rw[NN,Oe] at h';exact⟨of_decide_eq_true h'.1,fun c hc=>of_decide_eq_true (h'.2 c hc)⟩
theorem Sm.str{x:Str}(h:Sm (.str x)):x.cps.size<=60000:=h.both.1
theorem Sm.mkS{x:Str}(h:x.length<=60000)(h2:∀c∈x.cps.toList,c<128):Sm (.str x):=by
 show smB (.str x)=true;rw[smB,NN,Oe];exact⟨decide_eq_true h,fun c hc=>decide_eq_true (h2 c hc)⟩
theorem u7:∀{ds:List NG}{d:NG},iw ds=true->d∈ds->smB d=true
 |e::r,d,h,hd=>by
  have h':(smB e&&iw r)=true:=by simpa[iw] using h
  rw[NN] at h'
  rcases NR.mp hd with z|z
  .rw[z];exact h'.1
  .exact u7 h'.2 z
theorem Sm.part{ds:List NG}{d:NG}(h:Sm (.tuple ds))(hd:d∈ds):Sm d:=u7 (by simpa[Sm,smB] using h) hd
theorem v9:∀{ds:List NG},(∀d∈ds,Sm d)->iw ds=true
 |[],_=>by simp[iw]
 |d::r,h=>by
  have h1:smB d=true:=h d NI;simp[iw,h1,v9 (ds:=r) fun x hx=>h x (NJ _ hx)]
theorem Sm.tup{ds:List NG}(h:∀d∈ds,Sm d):Sm (.tuple ds):=by simp[Sm,smB,v9 h]
def whole:NG->Bool
 |.int _=>true
 |_=>false
theorem jz(x:NG)(T:Tp):fh [.d x] T=some (.bool (whole x),T):=by cases x <;> rfl
theorem ur(y x:Str):(D.signs x).all (rn y)=has y x:=by
 unfold D.signs has;rw[Wy]
 congr 1
 funext c;exact vy y c
theorem su{x y:Str}(T:Tp)(h:x.length<=NS):gk [.d (.str x),.d (.str y)] T=some (.bool (has y x),T):=by
 have hc:ck cw (ag inD (aa 0) (aa 2)) [some (.d (.str x)),some (.d (.str y))] (D.signs x) T=some ((D.signs x).map fun d=>.bool (rn y d),T):=fO fun d hd=>by
  obtain⟨c,_,rfl⟩:=Bq hd;rfl
 simp[gk,h,hc,ur]
theorem Dv{d:NG}(T:Tp)(h:Sm d):ki [.d d] T=some (.bool (single d),T):=by
 cases d with
 |str x=>
  have hz:x.length<=sizeLine:=Of h.str (by decide);have hh:∀T,gk [.d (.str x),.d (.str "abcdefghijklmnopqrstuvwxyz0123456789-")] T=some (.bool (has TXT x),T):=fun T=>su T hz;have e:single (.str x)=(decide (x.length<=20)&&has TXT x):=rfl;have hi:bg .str .str=true:=rfl
  by_cases hk:x.length<=20
  .have hk':(x.length:Int)<=20:=by omega
   simp[ki,jz,whole,hh,hz,hi,e,hk,hk']
  .have hk':¬(x.length:Int)<=20:=by omega
   simp[ki,jz,whole,hh,hz,hi,e,hk,hk']
 |_=>rfl
theorem jF{d:NG}(h:kd d=.tup):∃ds,d=.tuple ds:=by cases d <;> first|exact⟨_,rfl⟩|cases h
theorem qE{d:NG}(h:kd d≠.tup):bg (kd d) .tup=false:=by
 revert h
 cases kd d <;> simp[bg]
theorem tH{n:Nat}{d:NG}(h:kd d≠.tup):aG n d=single d:=by cases d <;> first|(cases n <;> rfl)|exact absurd rfl h
theorem pE{n:Nat}{d:NG}(h:kd d≠.tup):aH n d=1:=by cases d <;> first|(cases n <;> rfl)|exact absurd rfl h
theorem zj{d:NG}(h:tdp 0 d=true):kd d≠.tup:=by
 intro z
 cases d <;> first|cases h;done|cases z
theorem iY:bg .tup .tup=true:=rfl
theorem xu:∀(n k:Nat) (d:NG) (T:Tp),Sm d->n<k->fL k [.d d,.d (.int n)] T=some (.bool (aG n d),T)
 |n,0,d,T,_,hk=>absurd hk (Pe _)
 |n,k+1,d,T,hg,hk=>by
  by_cases ht:kd d=.tup
  .obtain⟨ds,rfl⟩:=jF ht
   cases n with
   |zero=>simp[fL,iY,aG]
   |succ n=>
    have e:aG (n+1) (.tuple ds)=(decide (ds.length<=8)&&ds.all (aG n)):=rfl
    have h0:¬((n+1:Nat):Int)=0:=by omega
    have h0':¬(n:Int)+1=0:=by omega
    by_cases h8:ds.length<=8
    .have h8':¬(8:Int)<(ds.length:Int):=by omega
     have hs:((n+1:Nat):Int)-1=(n:Int):=by omega
     have hc:ck cw (au (fL k) (ae (aa 0) (ae (ag eB (aa 2) (fC (.int 1))) ah))) [some (.d (.tuple ds)),some (.d (.int ((n+1:Nat):Int)))] ds T=some (ds.map fun x=>.bool (aG n x),T):=fO fun x hx=>by
      have:=xu n k x T (hg.part hx) (by omega);simp[hs,this]
     simp[fL,iY,e,h0,h0',h8,h8'] at hc ⊢;simp[hc]
    .have h8':(8:Int)<(ds.length:Int):=by omega
     simp[fL,iY,e,h0,h0',h8,h8']
  .simp[fL,qE ht,tH ht,Dv T hg]
theorem yw:∀(n k:Nat) (d:NG) (T:Tp),tdp n d=true->n<k->iK k [.d d] T=some (.int (aH n d),T)
 |n,0,d,T,_,hk=>absurd hk (Pe _)
 |n,k+1,d,T,hg,hk=>by
  by_cases ht:kd d=.tup
  .cases n with
   |zero=>exact absurd ht (zj hg)
   |succ n=>
    obtain⟨ds,rfl⟩:=jF ht;have hg':ds.all (tdp n)=true:=hg;have e:aH (n+1) (.tuple ds)=1+(ds.map (aH n)).sum:=rfl
    have hc:ck cw (au (iK k) (ae (aa 0) ah)) [some (.d (.tuple ds))] ds T=some (ds.map fun x=>.int (aH n x),T):=fO fun x hx=>by
     have:=yw n k x T (Oe.mp hg' x hx) (by omega);simp[this]
    simp[iK,iY,e,hc]
  .simp[iK,qE ht,pE ht]
theorem qY{d:NG}(T:Tp)(h:Sm d):jn [.d d] T=some (.bool (aE d),T):=by
 have h1:=xu 4 25 d T h (by decide);have h1':fL 25 [.d d,.d (.int 4)] T=some (.bool (aG 4 d),T):=h1;have e:aE d=(aG 4 d&&decide (aH 4 d<=40)):=rfl
 cases hb:aG 4 d with
 |false=>simp[jn,h1',e,hb]
 |true=>
  have h2:=yw 4 25 d T (K1.qb 4 d hb) (by decide);simp[jn,h1',h2,e,hb]
end G
namespace D
open PySem PySem.Spec PyProof.Rows L2
def cd(x:Str):List Nat:=x.cps.toList
theorem dC{x y:Str}(h:cd x=cd y):x=y:=by
 obtain⟨x⟩:=x;obtain⟨y⟩:=y;have h':x.toList=y.toList:=h;exact congrArg Str.mk (Vd.mp h')
theorem bJ(x:Str):(cd x).length=x.length:=Pf
theorem gz(x y:Str):cd (x++y)=cd x++cd y:=cps_toList_append x y
theorem uw{α:Type}(xs:List α)(a:Nat):∀k:Nat,(Pg k).filterMap (fun m=>xs[a+m]?)=(xs.drop a).take k
 |0=>by simp
 |k+1=>by
  rw[Vu,Tu,uw xs a k,Sz]
  congr 1
  simp only[Qr,Uz,List.getElem?_drop]
  cases xs[a+k]? <;> rfl
theorem qj{x:Str}{i j:Int}(h0:0<=i)(h1:0<=j):cd (OZ x (some i) (some j))=((cd x).drop i.toNat).take (j.toNat-i.toNat):=by
 obtain⟨a,rfl⟩:=SV h0;obtain⟨b,rfl⟩:=SV h1;rw[Rj,Rj];have hl:x.cps.toList.length=x.length:=Pf;obtain⟨p,hp⟩:∃p,min a x.length=p:=⟨_,rfl⟩;obtain⟨q,hq⟩:∃q,min b x.length=q:=⟨_,rfl⟩
 have e:O0 (some (a:Int)) (some (b:Int)) 1 x.length=(Pg (q-p)).map fun k=>p+k:=by
  have m:∀c:Nat,max 0 (min (c:Int) x.length)=((min c x.length:Nat):Int):=fun c=>by
   rcases UR c x.length with h|h
   .rw[QF h,Int.min_eq_left (US.mpr h),Ve (Q9 c)]
   .rw[QQ h,Int.min_eq_right (US.mpr h),Ve (Q9 _)]
  unfold O0 sliceRange;simp only[show (1:Int)>0 by decide,if_true,VN.mpr (Q9 a),VN.mpr (Q9 b),if_false];rw[m,m,hp,hq]
  have ec:(if (p:Int)<q then ((q:Int)-p+1-1) / 1 else 0).toNat=q-p:=by
   split
   .rw[UI,Int.add_sub_cancel];exact Int.toNat_sub q p
   .rename_i z;exact(Nat.sub_eq_zero_of_le (US.mp (VN.mp z))).symm
  rw[ec];refine OF fun k _=>?_;rw[Int.one_mul];rfl
 have fin:(x.cps.toList.drop p).take (q-p)=((cd x).drop a).take (b-a):=by
  unfold cd
  rcases UR a x.length with hi|hi
  .rw[QF hi] at hp
   subst hp
   rcases UR b x.length with hj|hj
   .rw[←hq,QF hj]
   .rw[←hq,QQ hj,Pa (by rw[Pp,hl];exact NT _),Pa (by rw[Pp,hl];exact Nat.sub_le_sub_right hj _)]
  .rw[←hp,QQ hi,Pr (UL hl),Pr (hl ▸ hi)]
   rw[Wj,Wj]
 unfold OZ;split
 .rename_i h
  have h':(O0 (some (a:Int)) (some (b:Int)) 1 x.length).length=x.length:=by simpa using h
  rw[e,OV,List.length_range] at h';rw[←fin];show x.cps.toList=_;rw[h',Pa (by rw[Pp,hl];exact Nat.sub_le _ _)];have q1:q<=x.length:=hq ▸ U4 _ _
  by_cases hz:x.length=0
  .rw[List.length_eq_zero_iff.mp (hl.trans hz),List.drop_nil]
  .rw[show p=0 by omega];rfl
 .rw[←fin,←uw]
  show List.filterMap _ (O0 _ _ 1 x.length)=_;rw[e,Uv]
  congr 1
  funext m;simp
theorem iG{x:Str}{i:Int}(h0:0<=i)(h1:i<=(x.length:Int)):cd (OZ x (some i) none)=(cd x).drop i.toNat:=by
 rw[slice_from_eq h0 h1 rfl];show (List.take _ _)=_;refine Pa ?_;rw[Pp];have:x.cps.toList.length=x.length:=Pf;omega
def a9(c:List Nat):List (List Nat)->List Nat
 |[]=>[]
 |[x]=>x
 |x::y::r=>x++c++a9 c (y::r)
theorem kU(z:Str):∀ys:List Str,cd (Q2 z ys)=a9 (cd z) (ys.map cd)
 |[]=>rfl
 |[x]=>by
  show cd (Q2 z [x])=cd x;simp[Q2]
 |x::y::r=>by
  have ih:=kU z (y::r);show cd ((x++z)++Q2 z (y::r))=_;rw[gz,gz,ih];rfl
theorem e9(c x:List Nat)(r:List (List Nat)):a9 c (x::r)=x++(r.map (c++·)).flatten:=by
 induction r generalizing x with
 |nil=>simp[a9]
 |cons y r ih=>
  show x++c++a9 c (y::r)=_;rw[ih y];simp
theorem tI{x:Str}{c:Nat}:P7 x ⟨#[c]⟩=decide ((cd x).head? = some c):=by
 unfold P7
 have hl:(⟨#[c]⟩:Str).length=1:=rfl;rw[hl];obtain⟨⟨l⟩⟩:=x
 cases l with
 |nil=>rfl
 |cons a r=>
  have h1:(0+1<=(⟨⟨a::r⟩⟩:Str).length):=by show 0+1<=(a::r).length;simp
  rw[decide_eq_true h1,Bool.true_and];show UT ⟨⟨a::r⟩⟩ ⟨#[c]⟩ 0=decide ((a::r).head? = some c)
  have e:(⟨⟨a::r⟩⟩:Str).cps.extract 0 (0+(⟨#[c]⟩:Str).length) = #[a]:=by
   rw[hl];apply Vd.mp;rw[Array.toList_extract];rfl
  unfold UT;rw[e,PQ];simp
end D
namespace G
open PySem PySem.Spec PyProof.Rows L2 D
open K1 (has LET TXT single aG aH lsz isName aE tdp bw ldp)
def mk(l:List Nat):Str:=⟨l.toArray⟩
theorem bf(l:List Nat):cd (mk l)=l:=by simp[cd,mk]
theorem i7(x:Str):mk (cd x)=x:=dC (bf _)
theorem bz(l:List Nat):(mk l).length=l.length:=by simp[mk,S8]
def dg(m:Nat):List Nat:=(Ro 10 m).map VO
theorem f9(m:Nat):Qn (dg m):=fun c hc=>by
 obtain⟨ch,hch,e⟩:=OH.mp hc;rw[←e];exact digit_range (Nat.isDigit_of_mem_toDigits (by decide) (by decide) hch)
theorem ig(m:Nat):OI (dg m)=m:=W.KIN.val_back m
theorem jS(m:Nat):dg m≠[]:=fun e=>by
 have h:=toDigits_len_ge 10 m;rw[List.map_eq_nil_iff.mp e] at h;exact absurd h (by decide)
theorem jI{m:Nat}(h:m<=10^18):(dg m).length<=19:=by
 unfold dg;rw[OV];exact toDigits_len_pow (by decide) (by decide) (Pk h (by decide))
def nc:Int->List Nat
 |.ofNat m=>dg m
 |.negSucc m=>45::dg (m+1)
theorem yN(i:Int):cd (NH (toString i))=nc i:=by
 cases i with
 |ofNat m=>exact W.KIN.signs_num m
 |negSucc m=>
  have e:toString (Int.negSucc m)="-"++toString (m+1):=rfl;unfold cd;rw[e,TV];show ("-"++Nat.repr (m+1)).toList.map VO=_;rw[String.toList_append,Pn,Nat.toList_repr];rfl
theorem jw(i:Int):∀c∈nc i,c=45\/(48<=c/\c<=57):=by
 cases i with
 |ofNat m=>exact fun c hc=>.inr (f9 m c hc)
 |negSucc m=>
  intro c hc
  rcases NR.mp hc with h|h
  .exact .inl h
  .exact .inr (f9 _ c h)
theorem yM(i:Int):nc i≠[]:=by
 cases i with
 |ofNat m=>exact jS m
 |negSucc m=>exact fun h=>nomatch h
theorem ku{i:Int}(h:single (.int i)=true):i.natAbs<=10^18:=by
 have h':(if i<0 then -i else i)<=10^18:=of_decide_eq_true h
 have e:((10:Int)^18)=1000000000000000000:=by decide
 have e2:((10:Nat)^18)=1000000000000000000:=by decide
 rw[e] at h';rw[e2]
 split at h' <;> omega
theorem rH{i:Int}(h:single (.int i)=true):(nc i).length<=20:=by
 have h:=ku h
 cases i with
 |ofNat m=>
  have:=jI (m:=m) h;show (dg m).length<=20;omega
 |negSucc m=>
  have:=jI (m:=m+1) h;show (dg (m+1)).length+1<=20;omega
theorem cq{d:NG}(h:single d=true):(∃i,d=.int i)\/∃x,d=.str x:=by cases d <;> first|exact .inl ⟨_,rfl⟩|exact .inr ⟨_,rfl⟩|cases h
theorem bY{n:Nat}{d:NG}(h:aG n d=true):single d=true\/∃m ds,n=m+1/\d=.tuple ds/\ds.length<=8/\∀x∈ds,aG m x=true:=by
 by_cases k:kd d=.tup
 .obtain⟨ds,rfl⟩:=jF k
  cases n with
  |zero=>cases h
  |succ m=>
   right;have h':(decide (ds.length<=8)&&ds.all (aG m))=true:=h;rw[NN] at h';exact⟨m,ds,rfl,rfl,of_decide_eq_true h'.1,Oe.mp h'.2⟩
 .left
  rw[tH k] at h;exact h
theorem gY{a b:List Nat}(h:a≠[]):(a++b).head? = a.head?:=by
 cases a with
 |nil=>exact absurd rfl h
 |cons=>rfl
theorem GB{i j:Int}(h:nc i=nc j):i=j:=by
 cases i with
 |ofNat m=>
  cases j with
  |ofNat k=>
   have h':dg m=dg k:=h;have:=congrArg OI h';rw[ig,ig] at this;rw[this]
  |negSucc k=>
   have h':dg m=45::dg (k+1):=h;have:=f9 m 45 (by rw[h'];exact NI);omega
 |negSucc m=>
  cases j with
  |ofNat k=>
   have h':45::dg (m+1)=dg k:=h;have:=f9 k 45 (by rw[←h'];exact NI);omega
  |negSucc k=>
   have h':45::dg (m+1)=45::dg (k+1):=h;have:=congrArg OI (SI h').2;rw[ig,ig] at this
   have:m=k:=by omega
   rw[this]
theorem yo{p:Nat->Bool}{a b r s:List Nat}(ha:∀c∈a,p c=false)(hb:∀c∈b,p c=false)(hr:∀c,r.head? = some c->p c=true)(hs:∀c,s.head? = some c->p c=true)(h:a++r=b++s):a=b/\r=s:=by
 have key:∀{a r:List Nat},(∀c∈a,p c=false)->(∀c,r.head? = some c->p c=true)->(a++r).takeWhile (fun c=>!p c)=a:=fun {a r} ha hr=>by
  rw[RM (fun c hc=>by rw[ha c hc];rfl)]
  cases r with
  |nil=>simp
  |cons x r=>
   have:=hr x rfl;rw[Ui,this];simp
 have e:=congrArg (List.takeWhile fun c=>!p c) h;rw[key ha hr,key hb hs] at e;subst e;exact⟨rfl,List.append_cancel_left h⟩
theorem Cg{x:Str}(h:has TXT x=true):cd (reprText x)=39::(cd x++[39]):=by
 have hq:∀c∈cd x,c∈TXT.cps.toList:=fun c hc=>of_decide_eq_true (Oe.mp h c hc)
 have h39:(39:Nat)∉TXT.cps.toList:=by decide +kernel
 have q:reprQuote x=39:=by
  unfold reprQuote;have:(39:Nat)∉x.cps:=fun e=>h39 (hq 39 (by simpa[cd] using e));simp[this]
 have one:∀c∈TXT.cps.toList,RE 39 c=[c]:=by decide +kernel
 have fold:∀(l:List Nat) (acc:Array Nat),(∀c∈l,c∈TXT.cps.toList)->(l.foldl (fun out c=>out++(RE 39 c).toArray) acc).toList=acc.toList++l:=fun l=>by
  induction l with
  |nil=>intro acc _;simp
  |cons a l ih=>
   intro acc hl;rw[Vp,ih _ (fun c hc=>hl c (NJ _ hc)),one a (hl a NI)];simp
 unfold reprText cd;rw[q];show ((x.cps.foldl (fun out c=>out++(RE 39 c).toArray) #[39]).push 39).toList=_;rw[Array.toList_push,←Array.foldl_toList,fold x.cps.toList #[39] hq];rfl
def tl(f:NG->List Nat)(ds:List NG)(r:List Nat):List Nat:=(ds.map fun d=>44::32::f d).flatten++41::r
def csh:Nat->NG->List Nat
 |n+1,.tuple []=>[40,41]
 |n+1,.tuple [d]=>40::(csh n d++[44,41])
 |n+1,.tuple (d::e::r)=>40::(csh n d++tl (csh n) (e::r) [])
 |0,.tuple _=>[]
 |_,.int i=>nc i
 |_,.str x=>39::(cd x++[39])
 |_,_=>[]
theorem nE(n:Nat)(i:Int):csh n (.int i)=nc i:=by cases n <;> rfl
theorem nB(n:Nat)(x:Str):csh n (.str x)=39::(cd x++[39]):=by cases n <;> rfl
theorem sX:∀ds:List NG,Tr ds=ds.map Ql
 |[]=>by simp[Tr]
 |d::r=>by simp[Tr,sX r]
theorem kr{x:Str}(h:single (.str x)=true):has TXT x=true:=by
 have h':(decide (x.length<=20)&&has TXT x)=true:=h;rw[NN] at h';exact h'.2
theorem Bn(f:NG->List Nat)(d:NG)(ds:List NG):a9 [44,32] ((d::ds).map f)++[41]=f d++tl f ds []:=by
 rw[Oi,e9,Pt,QJ];rfl
theorem pO:∀(n:Nat) (d:NG),aG n d=true->cd d.shown=csh n d
 |n,d,h=>by
  rcases bY h with h1|⟨m,ds,rfl,rfl,h8,hb⟩
  .rcases cq h1 with⟨i,rfl⟩|⟨x,rfl⟩
   .rw[nE,←yN]
    simp only[Ql]
   .rw[nB,←Cg (kr h1)]
    simp only[Ql]
  .have ih:ds.map (fun d=>cd d.shown)=ds.map (csh m):=OF fun d hd=>pO m d (hb d hd)
   have q1:cd "("=[40]:=by decide +kernel
   have q2:cd ", "=[44,32]:=by decide +kernel
   have q3:cd ",)"=[44,41]:=by decide +kernel
   have q4:cd ")"=[41]:=by decide +kernel
   have e:(P5 ds).shown=tupleText (ds.map Ql):=by
    simp only[Ql,sX]
   rw[e];unfold tupleText;show cd ((NH "("++Q2 ", " (ds.map Ql))++NH (if (ds.map Ql).length == 1 then ",)" else ")"))=_;rw[gz,gz,kU,q1,q2,Pt,OV];have e2:ds.map (cd ∘ Ql)=ds.map (csh m):=ih;rw[e2]
   match ds with
   |[]=>rfl
   |[d]=>
    show [40]++csh m d++cd ",)"=_;rw[q3];simp[csh]
   |d::e::r=>
    show [40]++a9 [44,32] ((d::e::r).map (csh m))++cd ")"=40::(csh m d++tl (csh m) (e::r) []);rw[q4,←Bn];simp
termination_by n=>n
def Beh(r:List Nat):Prop:=∀c,r.head? = some c->c=44\/c=41
def bnB(c:Nat):Bool:=decide (c=44)||decide (c=41)
theorem y6{r:List Nat}(h:Beh r):∀c,r.head? = some c->bnB c=true:=fun c hc=>by
 rcases h c hc with z|z <;> simp[bnB,z]
theorem js(n:Nat){d:NG}(h:aG n d=true):csh n d≠[]/\(csh n d).head?≠some 41/\(csh n d).head?≠some 32/\((csh n d).head? = some 40↔kd d=.tup)/\((csh n d).head? = some 39↔kd d=.str):=by
 rcases bY h with h1|⟨m,ds,rfl,rfl,h8,hb⟩
 .rcases cq h1 with⟨i,rfl⟩|⟨x,rfl⟩
  .rw[nE]
   have hh:∀c,(nc i).head? = some c->c=45\/(48<=c/\c<=57):=fun c hc=>jw i c (UU hc);refine⟨yM i,fun z=>by have:=hh _ z;omega,fun z=>by have:=hh _ z;omega,⟨fun z=>by have:=hh _ z;omega,fun z=>by cases z⟩,⟨fun z=>by have:=hh _ z;omega,fun z=>by cases z⟩⟩
  .rw[nB]
   refine⟨by simp,by simp,by simp,?_,?_⟩ <;> simp
 .match ds with
  |[]=>simp[csh]
  |[d]=>simp[csh]
  |d::e::r=>simp[csh]
theorem xG{f:NG->List Nat}{P:NG->Prop}(hf:∀a b r s,P a->P b->Beh r->Beh s->f a++r=f b++s->a=b/\r=s):∀(ds es:List NG) (r s:List Nat),(∀d∈ds,P d)->(∀d∈es,P d)->tl f ds r=tl f es s->ds=es/\r=s
 |[],[],r,s,_,_,h=>⟨rfl,(SI h).2⟩
 |[],e::es,r,s,_,_,h=>by simp[tl] at h
 |d::ds,[],r,s,_,_,h=>by simp[tl] at h
 |d::ds,e::es,r,s,hd,he,h=>by
  have h':f d++tl f ds r=f e++tl f es s:=by simpa[tl] using h
  have beh:∀ds r,Beh (tl f ds r):=fun ds r c hc=>by
   cases ds with
   |nil=>cases hc;exact .inr rfl
   |cons=>cases hc;exact .inl rfl
  obtain⟨e1,e2⟩:=hf d e _ _ (hd d NI) (he e NI) (beh _ _) (beh _ _) h';obtain⟨e3,e4⟩:=xG hf ds es r s (fun x hx=>hd x (NJ _ hx)) (fun x hx=>he x (NJ _ hx)) e2;exact⟨by rw[e1,e3],e4⟩
theorem yr(f:NG->List Nat)(ds:List NG)(r:List Nat):Beh (tl f ds r):=fun c hc=>by
 cases ds with
 |nil=>cases hc;exact .inr rfl
 |cons=>cases hc;exact .inl rfl
theorem xh:∀(n:Nat) (a b:NG) (r s:List Nat),aG n a=true->aG n b=true->Beh r->Beh s->csh n a++r=csh n b++s->a=b/\r=s
 |n,a,b,r,s,ha,hb,hr,hs,h=>by
  have h1:=js n ha;have h2:=js n hb
  have hh:(csh n a).head? = (csh n b).head?:=by
   have:=congrArg Th h;rw[gY h1.1,gY h2.1] at this;exact this
  have k40:kd a=.tup↔kd b=.tup:=by rw[←h1.2.2.2.1,←h2.2.2.2.1,hh]
  have k39:kd a=.str↔kd b=.str:=by rw[←h1.2.2.2.2,←h2.2.2.2.2,hh]
  rcases bY ha with g1|⟨m,ds,rfl,rfl,h8,hd⟩
  .rcases cq g1 with⟨i,rfl⟩|⟨x,rfl⟩
   .rcases bY hb with g2|⟨m,es,rfl,rfl,h8,he⟩
    .rcases cq g2 with⟨j,rfl⟩|⟨y,rfl⟩
     .rw[nE,nE] at h
      have nn:∀i,∀c∈nc i,bnB c=false:=fun i c hc=>by
       have:=jw i c hc;simp[bnB];omega
      obtain⟨e1,e2⟩:=yo (nn i) (nn j) (y6 hr) (y6 hs) h;exact⟨by rw[GB e1],e2⟩
     .cases k39.mpr rfl
    .cases k40.mpr rfl
   .rcases bY hb with g2|⟨m,es,rfl,rfl,h8,he⟩
    .rcases cq g2 with⟨j,rfl⟩|⟨y,rfl⟩
     .cases k39.mp rfl
     .rw[nB,nB] at h
      have h':cd x++39::r=cd y++39::s:=by simpa using h
      have n39:∀{x:Str},single (.str x)=true->∀c∈cd x,decide (c=39)=false:=fun {x} hx c hc=>by
       have h39:(39:Nat)∉TXT.cps.toList:=by decide +kernel
       have:=of_decide_eq_true (Oe.mp (kr hx) c hc);exact decide_eq_false fun z=>h39 (z ▸ this)
      obtain⟨e1,e2⟩:=yo (p:=fun c=>decide (c=39)) (n39 g1) (n39 g2) (fun c hc=>by cases hc;rfl) (fun c hc=>by cases hc;rfl) h';exact⟨by rw[dC e1],(SI e2).2⟩
    .cases k40.mpr rfl
  .obtain⟨es,rfl⟩:=jF (k40.mp rfl)
   have he:∀x∈es,aG m x=true:=by
    rcases bY hb with g2|⟨m',es',e,e',_,he⟩
    .rcases cq g2 with⟨j,z⟩|⟨y,z⟩ <;> cases z
    .cases e;cases e';exact he
   have ih:∀a b r s,aG m a=true->aG m b=true->Beh r->Beh s->csh m a++r=csh m b++s->a=b/\r=s:=xh m
   have b1:∀r:List Nat,Beh (44::r):=fun r c hc=>by cases hc;exact .inl rfl
   match ds,es,hd,he,h with
   |[],[],_,_,h=>exact⟨rfl,by simpa[csh] using h⟩
   |[],[e],_,he,h=>
    have h':41::r=csh m e++44::41::s:=by simpa[csh] using h
    have hz:=js m (he e (by simp));have:=congrArg Th h';rw[gY hz.1] at this;exact absurd this.symm hz.2.1
   |[],e::e2::es,_,he,h=>
    have h':41::r=csh m e++(tl (csh m) (e2::es) []++s):=by simpa[csh] using h
    have hz:=js m (he e (by simp));have:=congrArg Th h';rw[gY hz.1] at this;exact absurd this.symm hz.2.1
   |[d],[],hd,_,h=>
    have h':csh m d++44::41::r=41::s:=by simpa[csh] using h
    have hz:=js m (hd d (by simp));have:=congrArg Th h';rw[gY hz.1] at this;exact absurd this hz.2.1
   |d::d2::ds,[],hd,_,h=>
    have h':csh m d++(tl (csh m) (d2::ds) []++r)=41::s:=by simpa[csh] using h
    have hz:=js m (hd d (by simp));have:=congrArg Th h';rw[gY hz.1] at this;exact absurd this hz.2.1
   |[d],[e],hd,he,h=>
    have h':csh m d++44::41::r=csh m e++44::41::s:=by simpa[csh] using h
    obtain⟨e1,e2⟩:=ih d e _ _ (hd d (by simp)) (he e (by simp)) (b1 _) (b1 _) h';simp at e2;exact⟨by rw[e1],e2⟩
   |[d],e::e2::es,hd,he,h=>
    have h':csh m d++44::41::r=csh m e++(44::32::(csh m e2++((es.map fun d=>44::32::csh m d).flatten++41::s))):=by simpa[csh,tl] using h
    obtain⟨_,e2⟩:=ih d e _ _ (hd d (by simp)) (he e (by simp)) (b1 _) (b1 _) h';simp at e2
   |d::d2::ds,[e],hd,he,h=>
    have h':csh m d++(44::32::(csh m d2++((ds.map fun d=>44::32::csh m d).flatten++41::r)))=csh m e++44::41::s:=by simpa[csh,tl] using h
    obtain⟨_,e2⟩:=ih d e _ _ (hd d (by simp)) (he e (by simp)) (b1 _) (b1 _) h';simp at e2
   |d::d2::ds,e::e2::es,hd,he,h=>
    have h':csh m d++tl (csh m) (d2::ds) r=csh m e++tl (csh m) (e2::es) s:=by simpa[csh,tl] using h
    obtain⟨e1,e3⟩:=ih d e _ _ (hd d (by simp)) (he e (by simp)) (yr _ _ _) (yr _ _ _) h';obtain⟨e4,e5⟩:=xG (P:=fun d=>aG m d=true) ih (d2::ds) (e2::es) r s (fun x hx=>hd x (NJ _ hx)) (fun x hx=>he x (NJ _ hx)) e3;exact⟨by rw[e1,e4],e5⟩
termination_by n=>n
theorem Br{a b:NG}(ha:aG 4 a=true)(hb:aG 4 b=true)(h:a.shown=b.shown):a=b:=by
 have h':=congrArg cd h;rw[pO 4 a ha,pO 4 b hb] at h';exact(xh 4 a b [] [] ha hb (fun c hc=>by cases hc) (fun c hc=>by cases hc) (by rw[h'])).1
open K1 (has LET TXT single aG aH lsz isName aE tdp bw ldp Sh Shs)
theorem ly:bg .str .str=true:=rfl
theorem GK:bg .tup .str=false:=rfl
theorem GL:bg .str .tup=false:=rfl
theorem GM:bg .int .tup=false:=rfl
theorem GN:bg .int .str=false:=rfl
def sam(a b:NG):Bool:=@decide (a=b) (SW _)
theorem we{a b:NG}:sam a b=true↔a=b:=by
 unfold sam;exact @decide_eq_true_iff _ (SW _)
def gt(ds:List NG)(i:Int):PyData:=(ds[i.toNat]?).getD .none
def both(ds es:List NG):NG->Bool
 |.int i=>sam (gt ds i) (gt es i)
 |_=>true
theorem mX:∀(n:Nat) (v:NG),aG n v=true->Sm v
 |n,v,h=>by
  rcases bY h with h1|⟨m,ds,rfl,rfl,_,hd⟩
  .rcases cq h1 with⟨i,rfl⟩|⟨x,rfl⟩
   .show smB (.int i)=true
    rw[smB];intro _ z;cases z;intro _ z;cases z
   .have h2:(decide (x.length<=20)&&has TXT x)=true:=h1
    rw[NN] at h2;exact Sm.mkS (Of (of_decide_eq_true h2.1) (by decide)) (K1.ia K1.jK h2.2)
  .exact Sm.tup fun d hx=>mX m d (hd d hx)
termination_by n=>n
theorem k7{v:NG}(h:aE v=true):Sm v:=by
 have h':(aG 4 v&&decide (aH 4 v<=40))=true:=h;rw[NN] at h';exact mX 4 v h'.1
theorem b9{v:NG}(h:aE v=true):aG 4 v=true/\aH 4 v<=40:=by
 have h':(aG 4 v&&decide (aH 4 v<=40))=true:=h;rw[NN] at h';exact⟨h'.1,of_decide_eq_true h'.2⟩
theorem mS(n:Nat):∀d,1<=aH n d:=by
 induction n with
 |zero=>intro d;cases d <;> exact Qm _
 |succ n ih=>
  intro d
  by_cases k:kd d=.tup
  .obtain⟨ds,rfl⟩:=jF k
   have:=K1.xI (aH n) ih ds;show 1<=1+(ds.map (aH n)).sum;omega
  .rw[pE k]
   exact Qm _
theorem uZ{f:NG->Int}(h:∀d,0<=f d):∀{ds:List NG}{d:NG},d∈ds->f d<=(ds.map f).sum
 |e::r,d,hd=>by
  have nn:∀l:List NG,0<=(l.map f).sum:=fun l=>by
   induction l with
   |nil=>exact Qm _
   |cons a l ih=>rw[Oi,Qe];have:=h a;omega
  rw[Oi,Qe]
  rcases NR.mp hd with z|z
  .subst z
   have:=nn r;omega
  .have:=uZ h (ds:=r) z
   have:=h e;omega
theorem pV{n:Nat}{ds:List NG}{d:NG}(h:d∈ds):aH n d<=aH (n+1) (.tuple ds):=by
 have:=uZ (f:=aH n) (fun d=>by have:=mS n d;omega) h;show aH n d<=1+(ds.map (aH n)).sum;omega
theorem bZ{n:Nat}(h:n<=2000):n<=sizeLine:=Of h (by decide)
theorem ji{α:Type}{a b:α}:atI [a,b] 0=some a:=rfl
theorem jh{α:Type}{a b:α}:atI [a,b] 1=some b:=rfl
theorem tW{P:NG->Prop}(h:∀a b,P a->P b->(OO a b=true↔a=b)):∀(ds es:List NG),(∀d∈ds,P d)->(∀d∈es,P d)->(P6 ds es=true↔ds=es)
 |[],[],_,_=>by simp[P6]
 |[],e::es,_,_=>by simp[P6]
 |d::ds,[],_,_=>by simp[P6]
 |d::ds,e::es,hd,he=>by
  have ih:=tW h ds es (fun x hx=>hd x (NJ _ hx)) (fun x hx=>he x (NJ _ hx));have i0:=h d e (hd d NI) (he e NI);simp only[P6];rw[NN,i0,ih];simp
theorem wR:∀(n:Nat) (a b:NG),aG n a=true->aG n b=true->(OO a b=true↔a=b)
 |n,a,b,ha,hb=>by
  rcases bY ha with h1|⟨m,ds,rfl,rfl,h8,hd⟩
  .rcases cq h1 with⟨i,rfl⟩|⟨x,rfl⟩
   .rcases bY hb with h2|⟨m,es,rfl,rfl,g8,he⟩
    .rcases cq h2 with⟨j,rfl⟩|⟨y,rfl⟩
     .simp[OO]
     .simp[OO]
    .simp[OO]
   .rcases bY hb with h2|⟨m,es,rfl,rfl,g8,he⟩
    .rcases cq h2 with⟨j,rfl⟩|⟨y,rfl⟩
     .simp[OO]
     .simp[OO]
    .simp[OO]
  .rcases bY hb with h2|⟨m',es,e,rfl,g8,he⟩
   .rcases cq h2 with⟨j,rfl⟩|⟨y,rfl⟩
    .simp[OO]
    .simp[OO]
   .cases e
    have:=tW (P:=fun d=>aG m d=true) (wR m) ds es hd he;simp only[OO];rw[this];simp
termination_by n=>n
theorem ny{a b:NG}(ha:aE a=true)(hb:aE b=true):OO a b=sam a b:=by rw[PQ,wR 4 a b (b9 ha).1 (b9 hb).1,we]
theorem mB{a b:NG}(ha:aE a=true)(hb:aE b=true):decide (a.shown=b.shown)=sam a b:=by
 rw[PQ,decide_eq_true_iff,we];exact⟨Br (b9 ha).1 (b9 hb).1,fun e=>by rw[e]⟩
theorem qU{ds:List NG}(h:∀d∈ds,d.canLay0=true):Qo ds=true:=by
 induction ds with
 |nil=>simp[Qo]
 |cons d r ih=>
  simp only[Qo];rw[h d NI,ih fun x hx=>h x (NJ _ hx)];rfl
theorem my:∀(n:Nat) (d:NG),aG n d=true->d.canLay0=true
 |n,d,h=>by
  rcases bY h with h1|⟨m,ds,rfl,rfl,h8,hd⟩
  .rcases cq h1 with⟨i,rfl⟩|⟨x,rfl⟩
   .simp[P8]
   .have hx:=kr h1
    simp only[P8];unfold Oy;rw[←Array.all_toList,Oe];intro c hc;have:=K1.ia K1.jK hx c hc;exact decide_eq_true (by omega)
  .simp only[P8]
   exact qU fun d hd'=>my m d (hd d hd')
termination_by n=>n
theorem xy{f:NG->Int}:∀{ds:List NG},(∀d∈ds,(d.weight:Int)+1<=61*f d)->(Qv ds:Int)<=61*(ds.map f).sum
 |[],_=>by simp[Qv]
 |d::r,h=>by
  have h1:=h d NI;have h2:=xy (ds:=r) fun x hx=>h x (NJ _ hx);simp only[Qv,Oi,Qe];omega
theorem xx:∀(n:Nat) (d:NG),aG n d=true->(d.weight:Int)+1<=61*aH n d
 |n,d,h=>by
  have hp:=mS n d
  rcases bY h with h1|⟨m,ds,rfl,rfl,h8,hd⟩
  .rcases cq h1 with⟨i,rfl⟩|⟨x,rfl⟩
   .have ha:=ku h1
    have:(Qa i).weight<=60:=by
     simp only[Uq];split
     .omega
     .rename_i hz
      have z:i.natAbs≠0:=by simp at hz;omega
      have:=(TR (k:=60) z).mpr (Pk ha (by decide));omega
    omega
   .have h':(decide (x.length<=20)&&has TXT x)=true:=h1
    rw[NN] at h';have hx:x.cps.size<=20:=of_decide_eq_true h'.1
    have:(ON x).weight=x.cps.size:=by simp only[Uq]
    omega
  .have:=xy (f:=aH m) (ds:=ds) fun d hd'=>xx m d (hd d hd')
   have e:(P5 ds).weight=Qv ds:=by simp only[Uq]
   rw[e];show _<=61*(1+(ds.map (aH m)).sum);omega
termination_by n=>n
theorem vc{n:Nat}{d:NG}(h:aG n d=true):Sh d n (61*aH n d).toNat:=by
 obtain⟨s,_⟩:=K1.rA n d h;have:=xx n d h;exact⟨s.sh,s.lv,s.dp,by omega⟩
theorem va{v:NG}(h:aE v=true):Sh v 4 2440:=by
 obtain⟨hb,hm⟩:=b9 h;exact(vc hb).mono (NT _) (by omega)
theorem jl{v:NG}(h:aE v=true):Ov v=true:=by
 have:=(va h).dp;unfold Ov;rw[my 4 v (b9 h).1,decide_eq_true (by omega)];rfl
theorem EN{d:NG}(h:Sh d 60 60000)(hd:d.hasDict=false):ja d=true:=by
 unfold ja;rw[h.sh,h.lv,decide_eq_true h.dp,decide_eq_true h.wt,hd];rfl
theorem AX{v:NG}{n:Nat}(h:aG n v=true):v.hasDict=false:=PyData.hasDict_of_canLay v (my n v h)
theorem pF{v:NG}(h:aE v=true):ja v=true:=EN ((va h).mono (by decide) (by decide)) (AX (b9 h).1)
theorem dZ{α:Type}{xs:List α}{i:Int}(h0:0<=i)(h1:i<(xs.length:Int)):∃a,atI xs i=some a/\a∈xs:=by
 have h:i.toNat<xs.length:=by omega
 refine⟨xs[i.toNat],?_,U7 h⟩;unfold atI ixN;rw[if_pos h0,if_pos h1];show xs[i.toNat]? = _;rw[Px h]
theorem ED:(LET.cps.toList.length:Int)=26:=by decide +kernel
theorem vG{z:Str}{xs:List NG}{ys:List Str}(h:dE xs=some ys):lN (.str z) (.list xs)=if (ys.map (·.length)).sum+ys.length*z.length<=16777216 then some (.str (Q2 z ys)) else none:=by
 show (match dE xs with|some (ys:List Str)=>if (ys.map fun x:Str=>x.length).sum+ys.length*z.length<=16777216 then some (ON (Q2 z ys)) else none|none=>none)=_;rw[h]
theorem CF(n:Nat):(cM 0 n).length=n:=by simp[cM]
theorem kA{j:Int}(h0:0<=j)(h1:j<=1000):lH j=true:=decide_eq_true (by omega)
theorem qH:LET.length<=sizeLine:=by decide +kernel
theorem tq{x:Str}(h:isName (.str x)=true):single (.str x)=true:=by
 have h':(decide (1<=x.length)&&decide (x.length<=8)&&has LET x)=true:=h;rw[NN,NN] at h';have h8:=of_decide_eq_true h'.1.2;show (decide (x.length<=20)&&has TXT x)=true;rw[decide_eq_true (by omega)]
 have sub:∀c∈LET.cps.toList,c∈TXT.cps.toList:=by decide +kernel
 exact Oe.mpr fun c hc=>decide_eq_true (sub c (of_decide_eq_true (Oe.mp h'.2 c hc)))
theorem iH{i:Int}(h : -1000000000000000000<=i)(h':i<=1000000000000000000):single (.int i)=true:=by
 show decide ((if i<0 then -i else i)<=10^18)=true;refine decide_eq_true ?_
 split <;> omega
theorem dv{n:Nat}{d:NG}(h:single d=true):aG n d=true/\aH n d=1:=by
 cases d with
 |int i=>exact⟨by cases n <;> exact h,by cases n <;> rfl⟩
 |str x=>exact⟨by cases n <;> exact h,by cases n <;> rfl⟩
 |_=>cases h
theorem xH{f:NG->Int}{q:Int}:∀{l:List NG},(∀d∈l,f d<=q)->(l.map f).sum<=l.length*q
 |[],_=>by simp
 |a::r,h=>by
  have h1:=h a NI;have h2:=xH (l:=r) fun d hd=>h d (NJ _ hd);rw[Oi,Qe,Ou]
  have:((r.length+1:Nat):Int)*q=r.length*q+q:=by rw[Ts,Int.add_mul];simp
  omega
open K1 (has LET TXT single aG aH lsz isName aE tdp bw ldp Good Sh Shs)
@[simp] theorem Ky{a b:String}:NH a=NH b↔a=b:=by
 constructor
 .intro h
  have h2:(NH a).cps.toList=(NH b).cps.toList:=by rw[h]
  rw[TV,TV] at h2;have inj:Function.Injective Char.toNat:=fun x y e=>Char.ext (UInt32.toNat_inj.mp e);exact String.toList_inj.mp ((List.map_inj_right (fun x y e=>inj e)).mp h2)
 .rintro rfl;rfl
theorem iM:∀(n:Nat) (d:NG),aG n d=true->aG (n+1) d=true/\aH (n+1) d=aH n d
 |n,d,h=>by
  rcases bY h with h1|⟨m,ds,rfl,rfl,h8,hd⟩
  .exact⟨(dv h1).1,by rw[(dv (n:=n+1) h1).2,(dv (n:=n) h1).2]⟩
  .have ih:=fun d hd'=>iM m d (hd d hd')
   refine⟨?_,?_⟩
   .show (decide (ds.length<=8)&&ds.all (aG (m+1)))=true
    rw[decide_eq_true h8,Oe.mpr fun d hd'=>(ih d hd').1];rfl
   .show 1+(ds.map (aH (m+1))).sum=1+(ds.map (aH m)).sum
    rw[OF fun d hd'=>(ih d hd').2]
termination_by n=>n
@[simp] theorem K8{f:FE}{ρ:Rho}{T:Tp}:d9 f ρ T=bnd (f ρ T) fun w T1=>lI T1 w:=rfl
def vl(v:NG):PyData:=.tuple [.str "value",v]
def fl(w:String):PyData:=.tuple [.str "fails",.str (NH w)]
def FW:List String:=["kind","part","great"]
def dD(R:NG):Prop:=(∃v,R=vl v/\aE v=true)\/∃w∈FW,R=fl w
theorem cY:dD (fl "kind"):=.inr ⟨_,by simp[FW],rfl⟩
theorem DQ:dD (fl "part"):=.inr ⟨_,by simp[FW],rfl⟩
theorem AO:dD (fl "great"):=.inr ⟨_,by simp[FW],rfl⟩
def bd(d:NG):PyData:=if aE d=true then vl d else fl "great"
theorem m6(d:NG):dD (bd d):=by
 unfold bd;split
 .rename_i h;exact .inl ⟨d,rfl,h⟩
 .exact AO
theorem mK{d:NG}(T:Tp)(h:Sm d):gU [.d d] T=some (bd d,T):=by
 have:=qY T h;unfold bd
 cases hv:aE d with
 |true=>rw[hv] at this;simp[gU,this,vl]
 |false=>rw[hv] at this;simp[gU,this,fl]
theorem kB{ds:List NG}{d:NG}(h:aE (.tuple ds)=true)(hd:d∈ds):aE d=true:=by
 obtain⟨hb,hm⟩:=b9 h
 rcases bY hb with h1|⟨m,ds',e,e',h8,hb'⟩
 .rcases cq h1 with⟨i,z⟩|⟨x,z⟩ <;> cases z
 .cases e;cases e'
  obtain⟨u1,u2⟩:=iM 3 d (hb' d hd);have:aH 3 d<=aH 4 (.tuple ds):=pV (n:=3) hd;show (aG 4 d&&decide (aH 4 d<=40))=true;rw[u1,u2,decide_eq_true (by omega)];rfl
theorem eM{v:NG}(h:aE v=true):(∃i,v=.int i/\single (.int i)=true)\/(∃x,v=.str x/\x.length<=20/\∀c∈x.cps.toList,c<128)\/∃ds,v=.tuple ds/\ds.length<=8:=by
 rcases bY (b9 h).1 with h1|⟨m,ds,e,rfl,h8,hd⟩
 .rcases cq h1 with⟨i,rfl⟩|⟨x,rfl⟩
  .exact .inl ⟨i,rfl,h1⟩
  .have h':(decide (x.length<=20)&&has TXT x)=true:=h1
   rw[NN] at h';exact .inr (.inl ⟨x,rfl,of_decide_eq_true h'.1,K1.ia K1.jK h'.2⟩)
 .exact .inr (.inr ⟨ds,rfl,h8⟩)
theorem mZ{i:Int}(h : -1000000000000000000<=i)(h':i<=1000000000000000000):aE (.int i)=true:=by
 show (single (.int i)&&decide ((1:Int)<=40))=true;rw[iH h h'];rfl
theorem FQ(i:Int):Sm (.int i):=by simp[Sm,smB]
theorem G0{x y:NG}(h1:aE x=true)(h2:aE y=true):eqG x y=some (.bool (sam x y)):=by
 unfold eqG;rw[if_pos ⟨jl h1,jl h2⟩,ny h1 h2]
@[simp] theorem Mb{α:Type}{a b:α}:atI [a,b] 0=some a:=rfl
@[simp] theorem Ma{α:Type}{a b:α}:atI [a,b] 1=some b:=rfl
@[simp] theorem Mc{α:Type}{a:α}:atI [a] 0=some a:=rfl
@[simp] theorem L9{α:Type}{a b c:α}:atI [a,b,c] 0=some a:=rfl
@[simp] theorem L8{α:Type}{a b c:α}:atI [a,b,c] 1=some b:=rfl
@[simp] theorem L7{α:Type}{a b c:α}:atI [a,b,c] 2=some c:=rfl
@[simp] theorem Nx:bg .int .int=true:=rfl
@[simp] theorem Nw:bg .int .str=false:=rfl
@[simp] theorem Nv:bg .int .tup=false:=rfl
@[simp] theorem Ny:bg .int .bl=false:=rfl
@[simp] theorem Nt:bg .str .str=true:=rfl
@[simp] theorem Nr:bg .str .tup=false:=rfl
@[simp] theorem Nu:bg .str .int=false:=rfl
@[simp] theorem Nn:bg .tup .tup=true:=rfl
@[simp] theorem Nq:bg .tup .int=false:=rfl
@[simp] theorem Np:bg .tup .str=false:=rfl
@[simp] theorem Kx(x:NG)(T:Tp):fh [.d x] T=some (.bool (whole x),T):=jz x T
@[simp] theorem Nm(i:Int):whole (.int i)=true:=rfl
@[simp] theorem Nl(x:Str):whole (.str x)=false:=rfl
@[simp] theorem Nk(x:List NG):whole (.tuple x)=false:=rfl
def Pairs(w:String)(a b:NG):Prop:=∃R,dD R/\∀T,bA [.d (.str (NH w)),.d (.list [a,b])] T=some (R,T)
theorem Hh{ds:List NG}{i:Int}(h:aE (.tuple ds)=true)(h0:0<=i)(h1:i<(ds.length:Int)):∃d,atI ds i=some d/\aE d=true:=by
 obtain⟨d,e,hd⟩:=dZ h0 h1;exact⟨d,e,kB h hd⟩
def PW:List String:=["part","sum","join","same","less"]
inductive Ex(m:Int):Nat->NG->Prop where
 |put {n:Nat}{v:NG}:aE v=true->Ex m n (.tuple [.str "put",v])
 |got {n:Nat}{i:Int}:0<=i->i<m->Ex m n (.tuple [.str "got",.int i])
 |row {n:Nat}{es:List NG}:es.length<=8->(∀e∈es,Ex m n e)->Ex m (n+1) (.tuple [.str "row",.tuple es])
 |many {n:Nat}{e:NG}:Ex m n e->Ex m (n+1) (.tuple [.str "many",e])
 |pair {n:Nat}{w:String}{a b:NG}:w∈PW->Ex m n a->Ex m n b->Ex m (n+1) (.tuple [.str (NH w),a,b])
def isF:NG->Bool
 |.tuple (.str x::_)=>decide (x=NH "fails")
 |_=>false
def vOf:NG->NG
 |.tuple [_,v]=>v
 |_=>.none
theorem GO(v:NG):isF (vl v)=false:=by
 show decide (NH "value"=NH "fails")=false
 decide +kernel
theorem GP(w:String):isF (fl w)=true:=by
 show decide (NH "fails"=NH "fails")=true;exact decide_eq_true rfl
theorem pL{R:NG}(h:dD R):(isF R=true/\∃w∈FW,R=fl w)\/(isF R=false/\R=vl (vOf R)/\aE (vOf R)=true):=by
 rcases h with⟨v,rfl,hv⟩|⟨w,hw,rfl⟩
 .exact .inr ⟨GO v,rfl,hv⟩
 .exact .inl ⟨GP w,w,hw,rfl⟩
def fq(m:FnM)(ws:List D.W)(T1:Tp):Option (D.W×Tp):=if l6 ws=true then (match m (ws.map j6) [] with
 |some (x,_)=>if br x=true then some (.d x,T1) else none
 | none=>none) else none
@[simp] theorem Kv{m:FnM}{a:FA}{ρ:Rho}{T:Tp}:fm m a ρ T=bnd (a ρ T) (fq m):=rfl
theorem jq{m:FnM}{ws:List D.W}{T T':Tp}{x:NG}(h1:l6 ws=true)(h2:m (ws.map j6) []=some (x,T'))(h3:br x=true):fq m ws T=some (.d x,T):=by
 unfold fq;rw[if_pos h1,h2];exact if_pos h3
theorem qf:∀{ds:List NG},(∀d∈ds,br d=true)->bW ds=true
 |[],_=>by simp[bW]
 |d::r,h=>by simp[bW,h d NI,qf (ds:=r) fun x hx=>h x (NJ _ hx)]
theorem uj:∀(n:Nat) (d:NG),aG n d=true->br d=true
 |n,d,h=>by
  rcases bY h with h1|⟨m,ds,rfl,rfl,_,hd⟩
  .rcases cq h1 with⟨i,rfl⟩|⟨x,rfl⟩ <;> simp[br]
  .simp[br,qf fun x hx=>uj m x (hd x hx)]
termination_by n=>n
theorem qw{v:NG}(h:aE v=true):br v=true:=uj 4 v (b9 h).1
theorem mN{R:NG}(h:dD R):br R=true:=by
 rcases h with⟨v,rfl,hv⟩|⟨w,_,rfl⟩
 .simp[vl,br,bW,qw hv]
 .simp[fl,br,bW]
def fV(k:Nat):FS:=(ao (aO 4 (au (ei k) (ae (aa 3) (ae (aa 1) ah)))) (ao (fIf (ax (ag eqD (ag ixD (aa 4) (fC (.int 0))) (fC (.str "fails")))) (av (aa 4)) aF) (da 2 (ag ixD (aa 4) (fC (.int 1))))))
def j7(k:FS)(p:Fl×Rho)(T:Tp):Option ((Fl×Rho)×Tp):=match p with
 |(.nx,ρ1)=>k ρ1 T
 |(.ct,ρ1)=>k ρ1 T
 |(.bk,ρ1)=>some ((.nx,ρ1),T)
 |(.rt x,ρ1)=>some ((.rt x,ρ1),T)
 |(.ro x,ρ1)=>some ((.ro x,ρ1),T)
theorem qK{k:FS}{ρ:Rho}{T:Tp}:j7 k (.nx,ρ) T=k ρ T:=rfl
theorem BY{i:Nat}{b:FS}{d:NG}{r:List NG}{ρ:Rho}{T:Tp}:forL i b (d::r) ρ T=bnd (b (ρ.set i (some (.d d))) T) (j7 (forL i b r)):=rfl
theorem pM{k:Nat}{T:Tp}{e0 G:NG}{f:NG->NG}:∀(es:List NG) (acc:List NG) (o3 o4:Option D.W),(∀e∈es,dD (f e)/\ei k [.d e,.d G] T=some (f e,T))->acc.length+es.length<=1000 ->
  match (es.map f).filter isF with
  |R::_=>∃ρ',forL 3 (fV k) es [some (.d e0),some (.d G),some (.loc (.list acc)),o3,o4] T=some ((.rt R,ρ'),T)
  |[]=>∃o3' o4',forL 3 (fV k) es [some (.d e0),some (.d G),some (.loc (.list acc)),o3,o4] T=some ((.nx,[some (.d e0),some (.d G),some (.loc (.list (acc++es.map fun e=>vOf (f e)))),(o3':Option D.W),o4']),T)
 |[],acc,o3,o4,_,_=>⟨o3,o4,by simp[forL]⟩
 |e::es,acc,o3,o4,h,hl=>by
  obtain⟨t,ht⟩:=h e NI;have hl':acc.length<sizeLine:=Oj (by simp at hl;omega:acc.length<1000) (by decide);have go:forL 3 (fV k) (e::es) [some (.d e0),some (.d G),some (.loc (.list acc)),o3,o4] T=bnd (fV k [some (.d e0),some (.d G),some (.loc (.list acc)),some (.d e),o4] T) (j7 (forL 3 (fV k) es)):=rfl;rw[go]
  rcases pL t with⟨hf,w,_,hw⟩|⟨hf,hv,_⟩
  .rw[Oi,QR,if_pos hf]
   rw[hw] at ht
   have hb:fV k [some (.d e0),some (.d G),some (.loc (.list acc)),some (.d e),o4] T=some ((.rt (fl w),[some (.d e0),some (.d G),some (.loc (.list acc)),some (.d e),some (.d (fl w))]),T):=by
    simp[fV,ht,fl]
   rw[hb,hw];exact⟨_,rfl⟩
  .rw[Oi,QR,hf]
   have ih:=pM (e0:=e0) es (acc++[vOf (f e)]) (some (.d e)) (some (.d (f e))) (fun x hx=>h x (NJ _ hx)) (by simp at hl ⊢;omega)
   have hb:fV k [some (.d e0),some (.d G),some (.loc (.list acc)),some (.d e),o4] T=some ((.nx,[some (.d e0),some (.d G),some (.loc (.list (acc++[vOf (f e)]))),some (.d e),some (.d (f e))]),T):=by
    generalize hV:vOf (f e)=v at hv;rw[hv] at ht ⊢;simp[fV,ht,vl,hl']
   rw[hb,cS,qK];simp only[QA,if_false]
   cases hF:(es.map f).filter isF with
   |nil=>
    rw[hF] at ih;obtain⟨o3',o4',hi⟩:=ih;exact⟨o3',o4',by rw[hi];simp⟩
   |cons R r=>
    rw[hF] at ih;exact ih
structure Node(e0:NG)(w0:Str)(es:List NG):Prop where
 w1:∀T,fH [.d e0] T=some (.list es,T)
 ix:ixD e0 (.int 0)=some (.str w0)
 np:(w0=NH "put")=False
 ng:(w0=NH "got")=False
 ln:es.length<=8
def zd(G:NG)(gs:List NG):Prop:=∀i:Int,ixD G (.int i)=atI gs i
theorem qo(gs:List NG):zd (.list gs) gs:=fun _=>rfl
theorem uk(n:Nat):ei (n+1)=aT 5 (ao (fIf (ax (ag eqD (ag ixD (aa 0) (fC (.int 0))) (fC (.str "put")))) (av (aB .tuple (ae (fC (.str "value")) (ae (ag ixD (aa 0) (fC (.int 1))) ah)))) aF) (ao (fIf (ax (ag eqD (ag ixD (aa 0) (fC (.int 0))) (fC (.str "got")))) (av (aB .tuple (ae (fC (.str "value")) (ae (ag ixD (aa 1) (ag ixD (aa 0) (fC (.int 1)))) ah)))) aF) (ao (dq 2 ah) (ao (c9 3 (bU (au fH (ae (aa 0) ah))) (fV n)) (av (fm bA (ae (ag ixD (aa 0) (fC (.int 0))) (ae (aa 2) ah)))))))):=by rw[ei];rfl
theorem mj{a:NG}{r:List NG}:cD (a::r) (some 1) none=r:=by
 have e:HT.sIx (a::r).length 0 (some 1)=1:=by
  have:=HT.DY (a::r).length 0 1;rw[show ((1:Nat):Int)=1 from rfl] at this;rw[this];simp
 have e2:HT.sIx (a::r).length (a::r).length none=(a::r).length:=rfl;unfold cD;rw[e,e2];simp
inductive Rg(p:Bool):Nat->Nat->NG->Prop where
 |fail {g n:Nat}{x:Str}:isName (.str x)=true->Rg p g n (.tuple [.str "fail",.str x])
 |say {g n:Nat}{e:NG}:Ex (g:Int) n e->Rg p g (n+1) (.tuple [.str "say",e])
 |ask {g n:Nat}{w:String}{e r:NG}:(w="want"\/(w="peek"/\p=true))->g<12->Ex (g:Int) n e->Rg p (g+1) n r->Rg p g (n+1) (.tuple [.str (NH w),e,r])
 |whn {g n:Nat}{e r s:NG}:Ex (g:Int) n e->Rg p g n r->Rg p g n s->Rg p g (n+1) (.tuple [.str "when",e,r,s])
def mdT(v:NG):PyData:=.tuple [.str "made",v]
def flT(x:Str):PyData:=.tuple [.str "fails",.str x]
def asT(b:Bool)(x:Str)(r:NG):PyData:=.tuple [.str (NH (if b then "peek" else "want")),.str x,r]
inductive StepOk(p:Bool)(g n:Nat):NG->Prop where
 |md {v:NG}:aE v=true->StepOk p g n (mdT v)
 |fl {x:Str}:isName (.str x)=true->StepOk p g n (flT x)
 |ask {b:Bool}{x:Str}{r:NG}{n':Nat}:(b=true->p=true)->isName (.str x)=true->g<12->n'<=n->Rg p (g+1) n' r->StepOk p g n (asT b x r)
theorem StepOk.up{p:Bool}{g n m:Nat}{S:NG}(h:StepOk p g n S)(l:n<=m):StepOk p g m S:=by
 cases h with
 |md a=>exact .md a
 |fl a=>exact .fl a
 |ask a b c d e=>exact .ask a b c (Of d l) e
theorem qJ:∀w∈FW,isName (.str (NH w))=true:=by decide +kernel
theorem wF:isName (.str "name")=true:=by decide +kernel
theorem vS{d:NG}(T:Tp)(h:Sm d):fN [.d d] T=some (.bool (isName d),T):=by
 cases d with
 |str x=>
  have hz:x.length<=sizeLine:=Of h.str (by decide);have hh:∀T,gk [.d (.str x),.d (.str "abcdefghijklmnopqrstuvwxyz")] T=some (.bool (has LET x),T):=fun T=>su T hz;have e:isName (.str x)=(decide (1<=x.length)&&decide (x.length<=8)&&has LET x):=rfl
  by_cases h1:1<=x.length
  .have h1':(1:Int)<=(x.length:Int):=by omega
   by_cases h8:x.length<=8
   .have h8':(x.length:Int)<=8:=by omega
    simp[fN,hz,hh,e,h1,h1',h8,h8']
   .have h8':¬(x.length:Int)<=8:=by omega
    simp[fN,hz,hh,e,h1,h1',h8,h8']
  .have h1':¬(1:Int)<=(x.length:Int):=by omega
   simp[fN,hz,hh,e,h1,h1']
 |_=>rfl
theorem oG{α:Type}{a b c d:α}:atI [a,b,c,d] 0=some a:=rfl
theorem sy{α:Type}{a b c d:α}:atI [a,b,c,d] 1=some b:=rfl
theorem zg{α:Type}{a b c d:α}:atI [a,b,c,d] 2=some c:=rfl
theorem zf{α:Type}{a b c d:α}:atI [a,b,c,d] 3=some d:=rfl
theorem uI{ds:List NG}{k:Nat}(h:∀d∈ds,d.depth<=k):Qb ds<=k:=by
 induction ds with
 |nil=>simp[Qb]
 |cons d r ih=>
  simp only[Qb];have h1:=h d NI;have h2:=ih fun x hx=>h x (NJ _ hx);omega
theorem mv{l:List NG}(h:∀d∈l,aG 4 d=true):Ov (.list l)=true:=by
 unfold Ov
 have h1:(Qw l).canLay0=true:=by
  simp only[P8];exact qU fun d hd=>my 4 d (h d hd)
 have h2:(Qw l).depth<=64:=by
  simp only[Rp];have:=uI (k:=4) fun d hd=>(vc (h d hd)).dp;omega
 rw[h1,decide_eq_true h2];rfl
theorem tm{x:Str}(h:∀c∈x.cps.toList,c<128){d:NG}(hd:d∈D.signs x):∃c,c∈x.cps.toList/\d=.str ⟨#[c]⟩:=by
 unfold D.signs at hd;obtain⟨c,hc,rfl⟩:=OH.mp hd;exact⟨c,hc,rfl⟩
theorem Ah{l:List NG}(h:∀d∈l,∃c:Nat,c<128/\d=.str ⟨#[c]⟩):Ov (.list l)=true:=by
 unfold Ov
 have h1:(Qw l).canLay0=true:=by
  simp only[P8];refine qU fun d hd=>?_;obtain⟨c,hc,rfl⟩:=h d hd;simp only[P8];unfold Oy;simp;omega
 have h2:(Qw l).depth<=64:=by
  simp only[Rp]
  have:=uI (k:=0) (ds:=l) fun d hd=>by
   obtain⟨c,hc,rfl⟩:=h d hd;simp[Rp]
  omega
 rw[h1,decide_eq_true h2];rfl
theorem EV{l:List NG}(h:∀d∈l,∃c:Nat,c<128/\d=.str ⟨#[c]⟩):eqG (.list l) (.list [])=some (.bool l.isEmpty):=by
 have h2:Ov (.list [])=true:=mv (l:=[]) (by simp);unfold eqG;rw[if_pos ⟨Ah h,h2⟩]
 cases l <;> simp[OO,P6]
theorem filter_none{α:Type}(p:α->Bool)(l:List α):(l.filter fun x=>!(p x)).isEmpty=l.all p:=by
 induction l with
 |nil=>rfl
 |cons a r ih=>
  rw[QR,PH]
  cases p a with
  |true=>simpa using ih
  |false=>simp
theorem kz{y x:Str}{T:Tp}{ρ:Rho}(c:FT)(hx:∀c∈x.cps.toList,c<128)(hc:∀z:Str,c (some (.d (.str z))::ρ) T=some (!(iz y z),T)) :
  ∃l,ck c (aa 0) ρ (D.signs x) T=some (l,T)/\eqG (.list l) (.list [])=some (.bool (has y x)):=by
 refine⟨(D.signs x).filter (fun d=>!(rn y d)),kb fun d hd=>?_,?_⟩
 .obtain⟨c',hc',rfl⟩:=tm hx hd
  rw[hc];rfl
 .rw[EV,filter_none,ur]
  intro d hd;obtain⟨c',hc',rfl⟩:=tm hx (P9.mp hd).1;exact⟨c',hx c' hc',rfl⟩
theorem Fj{v:NG}(T:Tp)(h:aE v=true):dS [.d v] T=some (.bool (isName v),T):=by
 rcases eM h with⟨i,rfl,_⟩|⟨x,rfl,hx,hx2⟩|⟨ds,rfl,_⟩
 .rfl
 .have hz:x.length<=sizeLine:=Of hx (by decide)
  have e:isName (.str x)=(decide (1<=x.length)&&decide (x.length<=8)&&has LET x):=rfl
  obtain⟨l,hc,hl⟩:=kz (y:=LET) (x:=x) (T:=T) (ρ:=[some (.d (.str x))]) (ax (ag dX (aa 0) (fC (.str "abcdefghijklmnopqrstuvwxyz")))) hx2 fun z=>by simp;rfl
  by_cases h1:1<=x.length
  .have h1':¬(x.length:Int)<1:=by omega
   by_cases h8:x.length<=8
   .have h8':¬(8:Int)<(x.length:Int):=by omega
    simp[dS,hz,h1',h8',hc,hl,e,h1,h8]
   .have h8':(8:Int)<(x.length:Int):=by omega
    simp[dS,hz,h1',h8',e,h1,h8]
  .have h1':(x.length:Int)<1:=by omega
   simp[dS,hz,h1',e,h1]
 .rfl
theorem xq:∀(n k:Nat) (d:NG) (T:Tp),tdp n d=true->n<k->iE k [.d d] T=some (.int (aH n d),T)
 |n,0,d,T,_,hk=>absurd hk (Pe _)
 |n,k+1,d,T,hg,hk=>by
  by_cases ht:kd d=.tup
  .cases n with
   |zero=>exact absurd ht (zj hg)
   |succ n=>
    obtain⟨ds,rfl⟩:=jF ht;have hg':ds.all (tdp n)=true:=hg;have e:aH (n+1) (.tuple ds)=1+(ds.map (aH n)).sum:=rfl
    have hc:ck cw (au (iE k) (ae (aa 0) ah)) [some (.d (.tuple ds))] ds T=some (ds.map fun x=>.int (aH n x),T):=fO fun x hx=>by
     have:=xq n k x T (Oe.mp hg' x hx) (by omega);simp[this]
    simp[iE,iY,e,hc]
  .simp[iE,qE ht,pE ht]
def BP(d:NG):Prop:=(∃i,d=.int i)\/(∃x,d=.str x/\x.length<=60000/\∀c∈x.cps.toList,c<128)\/∃ds,d=.tuple ds/\∀x∈ds,aG 4 x=true
theorem BP.of{d:NG}(h:aG 4 d=true):BP d:=by
 rcases bY h with h1|⟨m,ds,e,rfl,h8,hd⟩
 .rcases cq h1 with⟨i,rfl⟩|⟨x,rfl⟩
  .exact .inl ⟨i,rfl⟩
  .have hs:=mX 4 _ h
   exact .inr (.inl ⟨x,rfl,hs.both.1,hs.both.2⟩)
 .cases e
  exact .inr (.inr ⟨ds,rfl,fun x hx=>(iM 3 x (hd x hx)).1⟩)
inductive TI:NG->Prop where
 |int (i:Int):TI (.int i)
 |str {x:Str}:x.length<=60000->(∀c∈x.cps.toList,c<128)->TI (.str x)
 |tup {ds:List NG}:(∀d∈ds,TI d)->TI (.tuple ds)
theorem TI.of:∀(n:Nat) (d:NG),aG n d=true->TI d
 |n,d,h=>by
  rcases bY h with h1|⟨m,ds,e,rfl,h8,hd⟩
  .rcases cq h1 with⟨i,rfl⟩|⟨x,rfl⟩
   .exact .int i
   .have hs:=mX n _ h
    exact .str hs.both.1 hs.both.2
  .subst e
   exact .tup fun x hx=>TI.of m x (hd x hx)
termination_by n=>n
theorem BP.ti{d:NG}(h:BP d):TI d:=by
 rcases h with⟨i,rfl⟩|⟨x,rfl,h1,h2⟩|⟨ds,rfl,hd⟩
 .exact .int i
 .exact .str h1 h2
 .exact .tup fun x hx=>TI.of 4 x (hd x hx)
theorem xp:∀(n k:Nat) (d:NG) (T:Tp) (a:Int),TI d->n<k->a+n=4->eI k [.d d,.d (.int a)] T=some (.bool (aG n d),T)
 |n,0,d,T,a,_,hk,_=>absurd hk (Pe _)
 |n,k+1,d,T,a,hb,hk,ha=>by
  cases hb with
  |int i=>
   have e:aG n (.int i)=single (.int i):=by cases n <;> rfl
   have e2:single (.int i)=decide ((if i<0 then -i else i)<=10^18):=rfl;rw[e,e2]
   by_cases hi:(if i<0 then -i else i)<=(10:Int)^18
   .have hi':(if i<0 then -i else i)<=1000000000000000000:=hi
    rw[decide_eq_true hi];simp[eI,bg,hi']
   .have hi':¬(if i<0 then -i else i)<=1000000000000000000:=hi
    rw[decide_eq_false hi];simp[eI,bg,hi']
  |@str x hx hx2=>
   have e:aG n (.str x)=single (.str x):=by cases n <;> rfl
   have e2:single (.str x)=(decide (x.length<=20)&&has TXT x):=rfl;have hz:x.length<=sizeLine:=Of hx (by decide)
   obtain⟨l,hc,hl⟩:=kz (y:=TXT) (x:=x) (T:=T) (ρ:=[some (.d (.str x)),some (.d (.int a)),some (.d (.str TXT))]) (ax (ag dX (aa 0) (aa 3))) hx2 fun z=>by simp;rfl
   have tx:TXT=NH "abcdefghijklmnopqrstuvwxyz0123456789-":=rfl;rw[tx] at hc;rw[e,e2]
   by_cases h20:x.length<=20
   .have h20':(x.length:Int)<=20:=by omega
    simp[eI,bg,hz,h20,h20',hc,hl]
   .have h20':¬(x.length:Int)<=20:=by omega
    simp[eI,bg,hz,h20,h20']
  |@tup ds hd=>
   by_cases h8:ds.length<=8
   .have h8':¬(8:Int)<(ds.length:Int):=by omega
    cases n with
    |zero=>
     have h3:(3:Int)<a:=by omega
     simp[eI,bg,aG,h8',h3]
    |succ n=>
     have h3:¬(3:Int)<a:=by omega
     have e:aG (n+1) (.tuple ds)=(decide (ds.length<=8)&&ds.all (aG n)):=rfl
     have hc:ck (bo (aR (au (eI k) (ae (aa 0) (ae (ag aQ (aa 2) (fC (.int 1))) ah))))) (aa 0) [some (.d (.tuple ds)),some (.d (.int a)),none] ds T=some (ds.filter (fun x=>!(aG n x)),T):=kb fun x hx=>by
      have:=xp n k x T (a+1) (hd x hx) (by omega) (by omega);simp[this]
     have hq:eqE (.list (ds.filter fun x=>!(aG n x))) (.list [])=some (.bool (ds.all (aG n))):=by
      rw[←filter_none];rfl
     simp[eI,bg,h8',h3,e,h8,hc,hq]
   .have h8':(8:Int)<(ds.length:Int):=by omega
    have e:aG n (.tuple ds)=false:=by
     cases n with
     |zero=>rfl
     |succ n=>show (decide (ds.length<=8)&&ds.all (aG n))=false;rw[decide_eq_false h8];rfl
    simp[eI,bg,h8',e]
theorem xo{d:NG}(T:Tp)(h:TI d):fF [.d d] T=some (.bool (aE d),T):=by
 have h1:=xp 4 25 d T 0 h (by decide) (by decide);have e:aE d=(aG 4 d&&decide (aH 4 d<=40)):=rfl
 cases hb:aG 4 d with
 |false=>rw[hb] at h1;simp[fF,h1,e,hb]
 |true=>
  have h2:=xq 4 25 d T (K1.qb 4 d hb) (by decide);rw[hb] at h1;simp[fF,h1,h2,e,hb]
theorem kM{d:NG}(T:Tp)(h:BP d):fF [.d d] T=some (.bool (aE d),T):=xo T h.ti
theorem Hg(i:Int):BP (.int i):=.inl ⟨i,rfl⟩
theorem kH{x:NG}{T:Tp}(h:ja x=true):lI T (.d x)=some (.d (.str x.shown),T):=if_pos h
def jL(w:String)(a b:NG):Prop:=∃R,dD R/\(∀T,bA [.d (.str (NH w)),.d (.list [a,b])] T=some (R,T))/\∀T,bP [.d (.str (NH w)),.d a,.d b] T=some (R,T)
theorem Hi{a b:NG}(ha:aE a=true)(hb:aE b=true):jL "same" a b:=by
 have g1:=pF ha;have g2:=pF hb;have e1:=G0 ha hb;have e2:=mB ha hb;refine⟨vl (.int (if sam a b=true then 1 else 0)),.inl ⟨_,rfl,by split <;> exact mZ (by decide) (by decide)⟩,fun T=>?_,fun T=>?_⟩
 .cases hs:sam a b with
  |true=>rw[hs] at e1;simp[bA,e1,vl]
  |false=>rw[hs] at e1;simp[bA,e1,vl]
 .rw[←e2]
  by_cases c:a.shown=b.shown
  .simp[bP,kH g1,kH g2,c,vl,D.intD]
  .simp[bP,kH g1,kH g2,c,vl,D.intD]
theorem Hj{a b:NG}(ha:aE a=true)(hb:aE b=true):jL "part" a b:=by
 rcases eM ha with⟨i,rfl,hi⟩|⟨x,rfl,hx,hx2⟩|⟨ds,rfl,hd⟩
 .refine⟨_,cY,fun T=>?_,fun T=>?_⟩ <;> simp[bA,gf,bP,fl]
 .refine⟨_,cY,fun T=>?_,fun T=>?_⟩ <;> simp[bA,gf,bP,fl]
 .rcases eM hb with⟨j,rfl,hj⟩|⟨y,rfl,hy,hy2⟩|⟨es,rfl,he⟩
  .by_cases c:0<=j/\j<(ds.length:Int)
   .obtain⟨d,e,hv⟩:=Hh ha c.1 c.2
    refine⟨vl d,.inl ⟨d,rfl,hv⟩,fun T=>?_,fun T=>?_⟩ <;> simp[bA,gf,bP,vl,c.1,c.2,e]
   .refine⟨_,DQ,fun T=>?_,fun T=>?_⟩
    .by_cases c0:0<=j
     .have c1:¬j<(ds.length:Int):=fun z=>c ⟨c0,z⟩
      simp[bA,gf,fl,c0,c1]
     .simp[bA,gf,fl,c0]
    .by_cases c0:0<=j
     .have c1:¬j<(ds.length:Int):=fun z=>c ⟨c0,z⟩
      simp[bP,fl,c0,c1]
     .simp[bP,fl,c0]
  .refine⟨_,cY,fun T=>?_,fun T=>?_⟩ <;> simp[bA,gf,bP,fl]
  .refine⟨_,cY,fun T=>?_,fun T=>?_⟩ <;> simp[bA,gf,bP,fl]
theorem IS{a b:NG}(ha:aE a=true)(hb:aE b=true):jL "sum" a b:=by
 rcases eM ha with⟨i,rfl,hi⟩|⟨x,rfl,hx,hx2⟩|⟨ds,rfl,hd⟩
 .rcases eM hb with⟨j,rfl,hj⟩|⟨y,rfl,hy,hy2⟩|⟨es,rfl,he⟩
  .have b1:=fun T=>mK T (FQ (i+j))
   have b2:=fun T=>kM T (Hg (i+j));refine⟨_,m6 (.int (i+j)),fun T=>?_,fun T=>?_⟩
   .simp[bA,iI,b1]
   .cases hv:aE (.int (i+j)) <;> simp[bP,b2,hv,bd,vl,fl]
  .refine⟨_,cY,fun T=>?_,fun T=>?_⟩ <;> simp[bA,iI,bP,fl]
  .refine⟨_,cY,fun T=>?_,fun T=>?_⟩ <;> simp[bA,iI,bP,fl]
 .refine⟨_,cY,fun T=>?_,fun T=>?_⟩ <;> simp[bA,iI,bP,fl]
 .refine⟨_,cY,fun T=>?_,fun T=>?_⟩ <;> simp[bA,iI,bP,fl]
theorem Hk{a b:NG}(ha:aE a=true)(hb:aE b=true):jL "less" a b:=by
 rcases eM ha with⟨i,rfl,hi⟩|⟨x,rfl,hx,hx2⟩|⟨ds,rfl,hd⟩
 .rcases eM hb with⟨j,rfl,hj⟩|⟨y,rfl,hy,hy2⟩|⟨es,rfl,he⟩
  .refine⟨vl (.int (if i<j then 1 else 0)),.inl ⟨_,rfl,by split <;> exact mZ (by decide) (by decide)⟩,fun T=>?_,fun T=>?_⟩
   .by_cases c:i<j
    .simp[bA,gQ,c,vl]
    .simp[bA,gQ,c,vl]
   .by_cases c:i<j
    .simp[bP,c,vl,D.intD]
    .simp[bP,c,vl,D.intD]
  .refine⟨_,cY,fun T=>?_,fun T=>?_⟩ <;> simp[bA,gQ,bP,fl]
  .refine⟨_,cY,fun T=>?_,fun T=>?_⟩ <;> simp[bA,gQ,bP,fl]
 .refine⟨_,cY,fun T=>?_,fun T=>?_⟩ <;> simp[bA,gQ,bP,fl]
 .refine⟨_,cY,fun T=>?_,fun T=>?_⟩ <;> simp[bA,gQ,bP,fl]
theorem Hl{a b:NG}(ha:aE a=true)(hb:aE b=true):jL "join" a b:=by
 rcases eM ha with⟨i,rfl,hi⟩|⟨x,rfl,hx,hx2⟩|⟨ds,rfl,hd⟩
 .refine⟨_,cY,fun T=>?_,fun T=>?_⟩
  .simp[bA,gh,fl]
  .rcases eM hb with⟨j,rfl,hj⟩|⟨y,rfl,hy,hy2⟩|⟨es,rfl,he⟩ <;> simp[bP,fl]
 .rcases eM hb with⟨j,rfl,hj⟩|⟨y,rfl,hy,hy2⟩|⟨es,rfl,he⟩
  .refine⟨_,cY,fun T=>?_,fun T=>?_⟩ <;> simp[bA,gh,bP,fl]
  .have l:x.length+y.length<=sizeLine:=bZ (by omega)
   have sx:Sm (.str (x++y)):=Sm.mkS (by rw[←bJ,gz,OR,bJ,bJ];omega) fun c hc=>by
    have hc':c∈cd (x++y):=hc;rw[gz] at hc';exact(Ob.mp hc').elim (hx2 c) (hy2 c)
   have b1:=fun T=>mK T sx;have b2:=fun T=>kM (d:=.str (x++y)) T (.inr (.inl ⟨_,rfl,sx.both.1,sx.both.2⟩));refine⟨_,m6 (.str (x++y)),fun T=>?_,fun T=>?_⟩
   .simp[bA,gh,b1,l]
   .cases hv:aE (.str (x++y)) <;> simp[bP,b2,l,hv,bd,vl,fl]
  .refine⟨_,cY,fun T=>?_,fun T=>?_⟩ <;> simp[bA,gh,bP,fl]
 .rcases eM hb with⟨j,rfl,hj⟩|⟨y,rfl,hy,hy2⟩|⟨es,rfl,he⟩
  .refine⟨_,cY,fun T=>?_,fun T=>?_⟩ <;> simp[bA,gh,bP,fl]
  .refine⟨_,cY,fun T=>?_,fun T=>?_⟩ <;> simp[bA,gh,bP,fl]
  .have l:ds.length+es.length<=sizeLine:=bZ (by omega)
   have sx:Sm (.tuple (ds++es)):=Sm.tup fun d hd=>by
    rcases Ob.mp hd with z|z
    .exact k7 (kB ha z)
    .exact k7 (kB hb z)
   have b1:=fun T=>mK T sx;have b2:=fun T=>kM (d:=.tuple (ds++es)) T (.inr (.inr ⟨_,rfl,fun z hz=>(Ob.mp hz).elim (fun q=>(b9 (kB ha q)).1) fun q=>(b9 (kB hb q)).1⟩));refine⟨_,m6 (.tuple (ds++es)),fun T=>?_,fun T=>?_⟩
   .simp[bA,gh,b1,l]
   .cases hv:aE (.tuple (ds++es)) <;> simp[bP,b2,l,hv,bd,vl,fl]
theorem IT{w:String}{a b:NG}(hw:w∈PW)(ha:aE a=true)(hb:aE b=true):jL w a b:=by
 simp[PW] at hw
 rcases hw with rfl|rfl|rfl|rfl|rfl
 .exact Hj ha hb
 .exact IS ha hb
 .exact Hl ha hb
 .exact Hi ha hb
 .exact Hk ha hb
def fU(M:FnM):FS:=(ao (aO 4 (au M (ae (aa 3) (ae (aa 1) ah)))) (ao (fIf (ax (ag eqD (ag ixD (aa 4) (fC (.int 0))) (fC (.str "fails")))) (av (aa 4)) aF) (da 2 (ag ixD (aa 4) (fC (.int 1))))))
def ip:FI:=(bU (ag ixD (aB .list (ae (fCB dm (ae (fSl (aa 0) (fP (fC (.int 1))) bB) ah)) (ae (fCB dm (ae (ag ixD (aa 0) (fC (.int 1))) ah)) ah))) (fCB intD (ae (ag eqD (ag ixD (aa 0) (fC (.int 0))) (fC (.str "row"))) ah))))
def iW:FS:=(ao (fIf (ax (ag eqD (ag ixD (aa 0) (fC (.int 0))) (fC (.str "row")))) (av (cV (aR (au fF (ae (fCB dO (ae (aa 2) ah)) ah))) (aB .tuple (ae (fC (.str "value")) (ae (fCB dO (ae (aa 2) ah)) ah))) (aB .tuple (ae (fC (.str "fails")) (ae (fC (.str "great")) ah))))) aF) (ao (fIf (ax (ag eqD (ag ixD (aa 0) (fC (.int 0))) (fC (.str "many")))) (av (cV (aR (fUn (bh .int) (ag ixD (aa 2) (fC (.int 0))))) (aB .tuple (ae (fC (.str "fails")) (ae (fC (.str "kind")) ah))) (aB .tuple (ae (fC (.str "value")) (ae (fCB aY (ae (ag ixD (aa 2) (fC (.int 0))) ah)) ah))))) aF) (av (au bP (ae (ag ixD (aa 0) (fC (.int 0))) (ae (ag ixD (aa 2) (fC (.int 0))) (ae (ag ixD (aa 2) (fC (.int 1))) ah)))))))
theorem tR(n:Nat):de (n+1)=aT 5 (ao (fIf (ax (ag eqD (ag ixD (aa 0) (fC (.int 0))) (fC (.str "put")))) (av (aB .tuple (ae (fC (.str "value")) (ae (ag ixD (aa 0) (fC (.int 1))) ah)))) aF) (ao (fIf (ax (ag eqD (ag ixD (aa 0) (fC (.int 0))) (fC (.str "got")))) (av (aB .tuple (ae (fC (.str "value")) (ae (ag ixD (aa 1) (ag ixD (aa 0) (fC (.int 1)))) ah)))) aF) (ao (dq 2 ah) (ao (c9 3 ip (fU (de n))) iW)))):=by rw[de];rfl
theorem rY{M:FnM}{T:Tp}{e0 G:NG}{f:NG->NG}:∀(es:List NG) (acc:List NG) (o3 o4:Option D.W),(∀e∈es,dD (f e)/\M [.d e,.d G] T=some (f e,T))->acc.length+es.length<=1000 ->
  match (es.map f).filter isF with
  |R::_=>∃ρ',forL 3 (fU M) es [some (.d e0),some (.d G),some (.loc (.list acc)),o3,o4] T=some ((.rt R,ρ'),T)
  |[]=>∃o3' o4',forL 3 (fU M) es [some (.d e0),some (.d G),some (.loc (.list acc)),o3,o4] T=some ((.nx,[some (.d e0),some (.d G),some (.loc (.list (acc++es.map fun e=>vOf (f e)))),(o3':Option D.W),o4']),T)
 |[],acc,o3,o4,_,_=>⟨o3,o4,by simp[forL]⟩
 |e::es,acc,o3,o4,h,hl=>by
  obtain⟨t,ht⟩:=h e NI;have hl':acc.length<sizeLine:=Oj (by simp at hl;omega:acc.length<1000) (by decide);have go:forL 3 (fU M) (e::es) [some (.d e0),some (.d G),some (.loc (.list acc)),o3,o4] T=bnd (fU M [some (.d e0),some (.d G),some (.loc (.list acc)),some (.d e),o4] T) (j7 (forL 3 (fU M) es)):=rfl;rw[go]
  rcases pL t with⟨hf,w,_,hw⟩|⟨hf,hv,_⟩
  .rw[Oi,QR,if_pos hf]
   rw[hw] at ht
   have hb:fU M [some (.d e0),some (.d G),some (.loc (.list acc)),some (.d e),o4] T=some ((.rt (fl w),[some (.d e0),some (.d G),some (.loc (.list acc)),some (.d e),some (.d (fl w))]),T):=by
    simp[fU,ht,fl]
   rw[hb,hw];exact⟨_,rfl⟩
  .rw[Oi,QR,hf]
   have ih:=rY (e0:=e0) es (acc++[vOf (f e)]) (some (.d e)) (some (.d (f e))) (fun x hx=>h x (NJ _ hx)) (by simp at hl ⊢;omega)
   have hb:fU M [some (.d e0),some (.d G),some (.loc (.list acc)),some (.d e),o4] T=some ((.nx,[some (.d e0),some (.d G),some (.loc (.list (acc++[vOf (f e)]))),some (.d e),some (.d (f e))]),T):=by
    generalize hV:vOf (f e)=v at hv;rw[hv] at ht ⊢;simp[fU,ht,vl,hl']
   rw[hb,cS,qK];simp only[QA,if_false]
   cases hF:(es.map f).filter isF with
   |nil=>
    rw[hF] at ih;obtain⟨o3',o4',hi⟩:=ih;exact⟨o3',o4',by rw[hi];simp⟩
   |cons R r=>
    rw[hF] at ih;exact ih
def TBB(G:NG)(gs:List NG)(n:Nat)(e:NG):Prop:=∃R,dD R/\(∀k T,n<k->de k [.d e,.d (.list gs)] T=some (R,T))/\∀k T,n<k->ei k [.d e,.d G] T=some (R,T)
structure NodeB(e0:NG)(w0:Str)(es:List NG):Prop where
 nd:Node e0 w0 es
 w2:∀G T,ip [some (.d e0),some (.d G),some (.loc (.list [])),none,none] T=some (es,T)
theorem pA{G:NG}{gs:List NG}{e0:NG}{w0:Str}{es:List NG}{f:NG->NG}{n:Nat}(N:NodeB e0 w0 es)
  (hf:∀e∈es,dD (f e)/\(∀k T,n<k->de k [.d e,.d (.list gs)] T=some (f e,T))/\∀k T,n<k->ei k [.d e,.d G] T=some (f e,T))
  (fin:(∀e∈es,f e=vl (vOf (f e))/\aE (vOf (f e))=true)->∃R,dD R/\(∀T,bA [.d (.str w0),.d (.list (es.map fun e=>vOf (f e)))] T=some (R,T))/\∀o3 o4 T,cZ (iW [some (.d e0),some (.d (.list gs)),some (.loc (.list (es.map fun e=>vOf (f e)))),o3,o4] T)=some (R,T)):TBB G gs (n+1) e0:=by
 have ix:=N.nd.ix;have np:=N.nd.np;have ng:=N.nd.ng;have byP:∀k T,n<k->(∀e∈es,dD (f e)/\ei k [.d e,.d G] T=some (f e,T)):=fun k T hk e he=>⟨(hf e he).1,(hf e he).2.2 k T hk⟩;have byL:∀k T,n<k->(∀e∈es,dD (f e)/\de k [.d e,.d (.list gs)] T=some (f e,T)):=fun k T hk e he=>⟨(hf e he).1,(hf e he).2.1 k T hk⟩
 cases hF:(es.map f).filter isF with
 |cons R r=>
  have hR:R∈(es.map f).filter isF:=by rw[hF];exact NI
  obtain⟨e,he,eR⟩:=OH.mp (P9.mp hR).1;refine⟨R,by rw[←eR];exact(hf e he).1,fun k T hk=>?_,fun k T hk=>?_⟩
  .obtain⟨k,rfl⟩:=bH k (by omega)
   have lp:=rY (e0:=e0) es [] none none (byL k T (by omega)) (by have:=N.nd.ln;simp;omega);rw[hF] at lp;obtain⟨ρ',lp⟩:=lp;rw[tR];simp[ix,np,ng,N.w2,lp]
  .obtain⟨k,rfl⟩:=bH k (by omega)
   have lp:=pM (e0:=e0) es [] none none (byP k T (by omega)) (by have:=N.nd.ln;simp;omega);rw[hF] at lp;obtain⟨ρ',lp⟩:=lp;rw[uk];simp[ix,np,ng,N.nd.w1,lp]
 |nil=>
  have all:∀e∈es,f e=vl (vOf (f e))/\aE (vOf (f e))=true:=fun e he=>by
   rcases pL (hf e he).1 with⟨h1,_⟩|⟨_,h2⟩
   .have:f e∈(es.map f).filter isF:=P9.mpr ⟨OH.mpr ⟨e,he,rfl⟩,h1⟩
    rw[hF] at this;cases this
   .exact h2
  obtain⟨R,t,q1,q2⟩:=fin all;refine⟨R,t,fun k T hk=>?_,fun k T hk=>?_⟩
  .obtain⟨k,rfl⟩:=bH k (by omega)
   have lp:=rY (e0:=e0) es [] none none (byL k T (by omega)) (by have:=N.nd.ln;simp;omega);rw[hF] at lp;obtain⟨o3',o4',lp⟩:=lp;rw[tR];have q:=q2 o3' o4' T;simp[ix,np,ng,N.w2,lp,q]
  .obtain⟨k,rfl⟩:=bH k (by omega)
   have lp:=pM (e0:=e0) es [] none none (byP k T (by omega)) (by have:=N.nd.ln;simp;omega);rw[hF] at lp;obtain⟨o3',o4',lp⟩:=lp;have cf:∀T,fq bA [.d (.str w0),.d (.list (es.map fun e=>vOf (f e)))] T=some (.d R,T):=fun T=>jq rfl (q1 []) (mN t);rw[uk];simp[ix,np,ng,N.nd.w1,lp,cf]
theorem pf{G:NG}{gs:List NG}{n:Nat}{es:List NG}(h:∀e∈es,TBB G gs n e):∃f:NG->NG,∀e∈es,dD (f e)/\(∀k T,n<k->de k [.d e,.d (.list gs)] T=some (f e,T))/\∀k T,n<k->ei k [.d e,.d G] T=some (f e,T):=by
 classical
 refine⟨fun e=>if h':e∈es then (h e h').choose else .none,fun e he=>?_⟩;simp only[dif_pos he];exact(h e he).choose_spec
theorem Ex.tup{m:Int}{n:Nat}{e:NG}(h:Ex m n e):∃xs,e=.tuple xs:=by cases h <;> exact⟨_,rfl⟩
theorem pN{m:Int}{G:NG}{gs:List NG}(hG:zd G gs)(hg:∀g∈gs,aE g=true)(hm:m<=(gs.length:Int)):∀(n:Nat) (e:NG),Ex m n e->TBB G gs n e:=by
 intro n e h
 induction h with
 |put hv=>
  rename_i n v;refine⟨vl v,.inl ⟨v,rfl,hv⟩,fun k T hk=>?_,fun k T hk=>?_⟩
  .obtain⟨k,rfl⟩:=bH k (by omega)
   simp[de,vl]
  .obtain⟨k,rfl⟩:=bH k (by omega)
   simp[ei,vl]
 |got h0 h1=>
  rename_i n i;obtain⟨g,e,hgm⟩:=dZ (xs:=gs) h0 (by omega);refine⟨vl g,.inl ⟨g,rfl,hg g hgm⟩,fun k T hk=>?_,fun k T hk=>?_⟩
  .obtain⟨k,rfl⟩:=bH k (by omega)
   simp[de,vl,e]
  .obtain⟨k,rfl⟩:=bH k (by omega)
   simp[ei,vl,hG i,e]
 |row hl _ ih=>
  rename_i n es _;obtain⟨f,hf⟩:=pf ih
  have e1:∀T,fH [.d (.tuple [.str "row",.tuple es])] T=some (.list es,T):=fun T=>by simp[fH]
  have e2:∀G T,ip [some (.d (.tuple [.str "row",.tuple es])),some (.d G),some (.loc (.list [])),none,none] T=some (es,T):=fun G T=>by simp[ip,mj,D.intD,D.dm]
  refine pA (w0:=NH "row") (es:=es) (f:=f) ⟨⟨e1,rfl,by simp,by simp,hl⟩,e2⟩ hf fun all=>?_
  have sx:Sm (.tuple (es.map fun e=>vOf (f e))):=Sm.tup fun d hd=>by
   obtain⟨e,he,rfl⟩:=OH.mp hd;exact k7 (all e he).2
  have bp:BP (.tuple (es.map fun e=>vOf (f e))):=.inr (.inr ⟨_,rfl,fun d hd=>by
   obtain⟨e,he,rfl⟩:=OH.mp hd
   exact(b9 (all e he).2).1⟩)
  refine⟨bd (.tuple (es.map fun e=>vOf (f e))),m6 _,fun T=>?_,fun o3 o4 T=>?_⟩
  .simp[bA,mK T sx]
  .have lv:=kM T bp
   generalize es.map (fun e=>vOf (f e))=ps at lv ⊢
   cases hv:aE (.tuple ps) <;> simp[iW,lv,hv,bd,vl,fl,D.dO]
 |many _ ih=>
  rename_i n e he;obtain⟨xs,hxs⟩:=Ex.tup he;obtain⟨f,hf⟩:=pf (es:=[e]) (fun x hx=>by rw[NY.mp hx];exact ih)
  have e1:∀T,fH [.d (.tuple [.str "many",e])] T=some (.list [e],T):=fun T=>by simp[fH,mj]
  have e2:∀G T,ip [some (.d (.tuple [.str "many",e])),some (.d G),some (.loc (.list [])),none,none] T=some ([e],T):=fun G T=>by subst hxs;simp[ip,mj,D.intD,D.dm]
  refine pA (w0:=NH "many") (es:=[e]) (f:=f) ⟨⟨e1,rfl,by simp,by simp,by simp⟩,e2⟩ hf fun all=>?_;obtain⟨a1,a2⟩:=all e (by simp);generalize hV:vOf (f e)=v at a1 a2
  rcases eM a2 with⟨i,rfl,hi⟩|⟨x,rfl,hx,_⟩|⟨ds,rfl,hd⟩
  .refine⟨fl "kind",cY,fun T=>?_,fun o3 o4 T=>?_⟩
   .simp[bA,kf,hV,fl]
   .simp[iW,hV,fl]
  .have hx':x.length<=sizeLine:=bZ (by omega)
   refine⟨vl (.int x.length),.inl ⟨_,rfl,mZ (by omega) (by omega)⟩,fun T=>?_,fun o3 o4 T=>?_⟩
   .simp[bA,kf,hV,vl,hx']
   .simp[iW,hV,vl,hx']
  .refine⟨vl (.int ds.length),.inl ⟨_,rfl,mZ (by omega) (by omega)⟩,fun T=>?_,fun o3 o4 T=>?_⟩
   .simp[bA,kf,hV,vl]
   .simp[iW,hV,vl]
 |pair hw ha hb iha ihb=>
  rename_i n w a b;obtain⟨xs,hxs⟩:=Ex.tup ha
  obtain⟨f,hf⟩:=pf (es:=[a,b]) (fun x hx=>by
   simp at hx
   rcases hx with rfl|rfl
   .exact iha
   .exact ihb)
  have ne:¬w="put"/\¬w="got"/\¬w="row"/\¬w="many":=by
   simp[PW] at hw
   rcases hw with rfl|rfl|rfl|rfl|rfl <;> simp
  obtain⟨n1,n2,n4,n5⟩:=ne
  have e1:∀T,fH [.d (.tuple [.str (NH w),a,b])] T=some (.list [a,b],T):=fun T=>by simp[fH,mj,n1,n2,n4]
  have e2:∀G T,ip [some (.d (.tuple [.str (NH w),a,b])),some (.d G),some (.loc (.list [])),none,none] T=some ([a,b],T):=fun G T=>by subst hxs;simp[ip,mj,D.intD,D.dm,n4]
  refine pA (w0:=NH w) (es:=[a,b]) (f:=f) ⟨⟨e1,rfl,by simp[n1],by simp[n2],by simp⟩,e2⟩ hf fun all=>?_;obtain⟨a1,a2⟩:=all a (by simp);obtain⟨b1,b2⟩:=all b (by simp);obtain⟨R,t,q1,q2⟩:=IT hw a2 b2;refine⟨R,t,fun T=>q1 T,fun o3 o4 T=>?_⟩;simp[iW,n4,n5,q2]
def cst:Nat->NG->List Nat
 |n+1,.tuple ds=>40::(a9 [44] (ds.map (cst n))++[41])
 |0,.tuple _=>[]
 |_,.int i=>nc i
 |_,.str x=>39::cd x
 |_,_=>[]
theorem iS(n:Nat)(i:Int):cst n (.int i)=nc i:=by cases n <;> rfl
theorem iR(n:Nat)(x:Str):cst n (.str x)=39::cd x:=by cases n <;> rfl
theorem u9{d:NG}{n:Nat}(h:single d=true):(cst n d).length<=21:=by
 rcases cq h with⟨i,rfl⟩|⟨x,rfl⟩
 .rw[iS]
  have:=rH h;omega
 .rw[iR]
  have h':(decide (x.length<=20)&&has TXT x)=true:=h;rw[NN] at h';have:=of_decide_eq_true h'.1;rw[Ou,bJ];omega
theorem mx(f:NG->List Nat):∀ds:List NG,(ds.map fun d=>(f d).length).sum+ds.length<=(a9 [44] (ds.map f)).length+1/\(a9 [44] (ds.map f)).length<=(ds.map fun d=>(f d).length).sum+ds.length
 |[]=>by simp[a9]
 |[d]=>by simp[a9]
 |d::e::r=>by
  have ih:=mx f (e::r);have e1:a9 [44] ((d::e::r).map f)=f d++[44]++a9 [44] ((e::r).map f):=rfl;rw[e1];simp only[Oi,Qe,Ou,OR,Q5] at ih ⊢;omega
theorem qG{n:Nat}:∀{ds:List NG},(∀d∈ds,((cst n d).length:Int)+1<=25*aH n d)->(((ds.map fun d=>(cst n d).length).sum+ds.length:Nat):Int)<=25*(ds.map (aH n)).sum
 |[],_=>by simp
 |d::r,h=>by
  have h1:=h d NI;have h2:=qG (ds:=r) fun x hx=>h x (NJ _ hx);simp only[Oi,Qe,Ou];omega
theorem qS:∀(n:Nat) (d:NG),aG n d=true->((cst n d).length:Int)+1<=25*aH n d
 |n,d,h=>by
  rcases bY h with h1|⟨m,ds,rfl,rfl,h8,hb⟩
  .have:=u9 (n:=n) h1
   have:=mS n d;omega
  .have ih:=qS m
   have h1:=qG (ds:=ds) fun d hd=>ih d (hb d hd);have h2:=(mx (cst m) ds).2;show (((40::(a9 [44] (ds.map (cst m))++[41])).length:Nat):Int)+1<=25*(1+(ds.map (aH m)).sum);simp only[Ou,OR,Q5];omega
termination_by n=>n
theorem wQ{i:Int}(h:single (.int i)=true):lZ [.int i]=some (.str (mk (nc i))):=by
 have h1:=ku h
 have h2:i.natAbs.log2<1920:=by
  by_cases z:i.natAbs=0
  .rw[z];decide
  .exact Oj ((TR (k:=64) z).mpr (Pk h1 (by decide))) (by decide)
 have e:NH (toString i)=mk (nc i):=dC (by rw[yN,bf]);show (if i.natAbs.log2<1920 then some (ON (NH (toString i))) else none)=_;rw[if_pos h2,e]
theorem jE(a b:List Nat):mk a++mk b=mk (a++b):=dC (by rw[gz,bf,bf,bf])
theorem lit{s:String}{l:List Nat}(h:cd (NH s)=l):NH s=mk l:=dC (by rw[h,bf])
theorem wG(f:NG->List Nat)(ds:List NG):((ds.map fun d=>mk (f d)).map (·.length)).sum=(ds.map fun d=>(f d).length).sum:=by
 rw[Pt];exact congrArg List.sum (OF fun d _=>bz _)
theorem wM(f:NG->List Nat)(ds:List NG):Q2 (mk [44]) (ds.map fun d=>mk (f d))=mk (a9 [44] (ds.map f)):=dC (by
 rw[kU,bf,bf,Pt]
 exact congrArg (a9 [44]) (OF fun d _=>bf _))
theorem vL{m:Nat}{ds:List NG}(hm:aH (m+1) (.tuple ds)<=40)(hb:∀x∈ds,aG m x=true):(a9 [44] (ds.map (cst m))).length<=1000/\(ds.map fun d=>(cst m d).length).sum+ds.length<=1000:=by
 have h1:=qG (ds:=ds) fun d hd=>qS m d (hb d hd);have h2:=(mx (cst m) ds).2;have h3:1+(ds.map (aH m)).sum<=40:=hm;omega
theorem str_len{n:Nat}{x:Str}(h:single (.str x)=true):x.length<=20:=by
 have h':(decide (x.length<=20)&&has TXT x)=true:=h;rw[NN] at h';exact of_decide_eq_true h'.1
theorem xn:∀(n k:Nat) (d:NG) (T:Tp),aG n d=true->aH n d<=40->n<k->gi k [.d d] T=some (.str (mk (cst n d)),T)
 |n,0,d,T,h,hm,hk=>absurd hk (Pe _)
 |n,k+1,d,T,h,hm,hk=>by
  have q1:=lit (s:="'") (l:=[39]) (by decide +kernel);have q2:=lit (s:="(") (l:=[40]) (by decide +kernel);have q3:=lit (s:=")") (l:=[41]) (by decide +kernel);have q4:=lit (s:=",") (l:=[44]) (by decide +kernel)
  rcases bY h with h1|⟨m,ds,rfl,rfl,h8,hb⟩
  .rcases cq h1 with⟨i,rfl⟩|⟨x,rfl⟩
   .simp[gi,jz,whole,wQ h1,iS]
   .have e:mk [39]++x=mk (39::cd x):=by rw[←i7 x,jE,bf];rfl
    have l:(mk [39]).length+x.length<=sizeLine:=bZ (by rw[bz];have:=str_len (n:=0) h1;simp;omega);simp[gi,jz,whole,iR,ly,q1,l,e]
  .obtain⟨l1,l2⟩:=vL hm hb
   have c:=fO (e:=au (gi k) (ae (aa 0) ah)) (ρ:=[some (.d (.tuple ds))]) (T:=T) (g:=fun d=>.str (mk (cst m d))) (ds:=ds) fun d hd=>by
    have:=xn m k d T (hb d hd) (WC (pV hd) hm) (by omega);simp[this]
   have j:=vG (z:=mk [44]) (ky (fun d=>mk (cst m d)) ds);rw[wG,wM,OV,bz] at j;rw[if_pos (by simp;omega)] at j;have a1:(mk [40]).length+(mk (a9 [44] (ds.map (cst m)))).length<=sizeLine:=bZ (by rw[bz,bz];simp;omega);have a2:(mk (40::a9 [44] (ds.map (cst m)))).length+(mk [41]).length<=sizeLine:=bZ (by rw[bz,bz];simp;omega)
   have e1:mk [40]++mk (a9 [44] (ds.map (cst m)))=mk (40::a9 [44] (ds.map (cst m))):=by rw[jE];rfl
   have e2:mk (40::a9 [44] (ds.map (cst m)))++mk [41]=mk (cst (m+1) (.tuple ds)):=by rw[jE];rfl
   simp[gi,jz,whole,GK,q2,q3,q4,c,j,a1,a2,e1,e2]
theorem vR:∀(n k:Nat) (d:NG) (T:Tp),aG n d=true->aH n d<=40->n<k->dU k [.d d] T=some (.str (mk (cst n d)),T)
 |n,0,d,T,h,hm,hk=>absurd hk (Pe _)
 |n,k+1,d,T,h,hm,hk=>by
  have q1:=lit (s:="'") (l:=[39]) (by decide +kernel);have q2:=lit (s:="(") (l:=[40]) (by decide +kernel);have q3:=lit (s:=")") (l:=[41]) (by decide +kernel);have q4:=lit (s:=",") (l:=[44]) (by decide +kernel)
  rcases bY h with h1|⟨m,ds,rfl,rfl,h8,hb⟩
  .rcases cq h1 with⟨i,rfl⟩|⟨x,rfl⟩
   .simp[dU,GM,GN,wQ h1,iS]
   .have e:mk [39]++x=mk (39::cd x):=by rw[←i7 x,jE,bf];rfl
    have l:(mk [39]).length+x.length<=sizeLine:=bZ (by rw[bz];have:=str_len (n:=0) h1;simp;omega);simp[dU,iR,ly,GL,q1,l,e]
  .obtain⟨l1,l2⟩:=vL hm hb
   have c:=fO (e:=au (dU k) (ae (aa 0) ah)) (ρ:=[some (.d (.tuple ds))]) (T:=T) (g:=fun d=>.str (mk (cst m d))) (ds:=ds) fun d hd=>by
    have:=vR m k d T (hb d hd) (WC (pV hd) hm) (by omega);simp[this]
   have j:=vG (z:=mk [44]) (ky (fun d=>mk (cst m d)) ds);rw[wG,wM,OV,bz] at j;rw[if_pos (by simp;omega)] at j;have a1:(mk [40]).length+(mk (a9 [44] (ds.map (cst m)))).length<=sizeLine:=bZ (by rw[bz,bz];simp;omega);have a2:(mk (40::a9 [44] (ds.map (cst m)))).length+(mk [41]).length<=sizeLine:=bZ (by rw[bz,bz];simp;omega)
   have e1:mk [40]++mk (a9 [44] (ds.map (cst m)))=mk (40::a9 [44] (ds.map (cst m))):=by rw[jE];rfl
   have e2:mk (40::a9 [44] (ds.map (cst m)))++mk [41]=mk (cst (m+1) (.tuple ds)):=by rw[jE];rfl
   simp[dU,iY,q2,q3,q4,c,j,a1,a2,e1,e2]
def eC:FT:=(ax (ag neD (ag ixD (aa 0) (fC (.int 0))) (fC (.str "fail"))))
def sG:FS:=(av (aB .tuple (ae (aa 4) (ae (aB .tuple (ae (fC (.str "fails")) (ae (ag ixD (aa 0) (fC (.int 1))) ah))) ah))))
theorem uD:fM=aT 7 (ao (dq 3 ah) (ao (dq 4 ah) (ao (bI eC eN 100000) sG))):=rfl
theorem kT{v:NG}(T:Tp)(h:aE v=true):dU 25 [.d v] T=some (.str (mk (cst 4 v)),T):=vR 4 25 v T (b9 h).1 (b9 h).2 (by decide)
def ρL(r G w:NG)(gs rd:List NG)(o o':Option D.W):Rho:=[some (.d r),some (.d G),some (.d w),some (.loc (.list gs)),some (.loc (.list rd)),o,o']
def goL(m:Nat)(r G w:NG)(gs rd:List NG)(o o':Option D.W)(T:Tp):Option (NG×Tp):=cZ (bnd (bI eC eN m (ρL r G w gs rd o o') T) (gJ sG))
def b8(w:String)(x:NG):PyData:=.tuple [.str (NH w),x]
def stt(v:NG):PyData:=.str (mk (cst 4 v))
def dI(b:Bool)(x:Str)(v:NG):List PyData:=if b then [] else [.tuple [.str x,v]]
def ka(b:Bool):PyData:=.str (NH (if b then "peek" else "want"))
def dF(b:Bool)(G w:NG)(k:Nat)(x:Str)(T:Tp):Option (NG×Tp):=fK [.d (ka b),.d G,.d w,.d (.int k),.d (.str x)] T
def oU(n:Nat)(r:NG)(gs:List NG)(S:NG):Prop:=∀(G w:NG) (m:Nat) (rd:List NG) (o o':Option D.W) (T:Tp),n<m->rd.length<1000 ->
 (∀v,S=mdT v->goL m r G w gs rd o o' T=some (.tuple [.list rd,b8 "made" (stt v)],T)) /\
 (∀x,S=flT x->goL m r G w gs rd o o' T=some (.tuple [.list rd,b8 "fails" (.str x)],T)) /\
 (∀b x r',S=asT b x r'->(∀V,dF b G w rd.length x T=some (.tuple V,T)->goL m r G w gs rd o o' T=some (.tuple [.list rd,.tuple V],T)) /\
  ∀v,aE v=true->dF b G w rd.length x T=some (.list [v],T)->∃m' o1 o2,m<=m' + n/\goL m r G w gs rd o o' T=goL m' r' G w (gs++[v]) (rd++dI b x (stt v)) o1 o2 T)
theorem fZ{v:NG}{x:Str}:mdT v≠flT x:=by simp[mdT,flT]
theorem Ju{v:NG}(h:aE v=true):∃b,inG v (.tuple [.int 0,.str "",.tuple []])=some (.bool b)/\inD (.str v.shown) (.list [.str "0",.str "''",.str "()"])=some (.bool b):=by
 have z1:aE (.int 0)=true:=by decide +kernel
 have z2:aE (.str "")=true:=by decide +kernel
 have z3:aE (.tuple [])=true:=by decide +kernel
 have s1:=mB z1 h;have s2:=mB z2 h;have s3:=mB z3 h
 have t1:(Qa 0).shown=NH "0":=by decide +kernel
 have t2:(ON "").shown=NH "''":=by decide +kernel
 have t3:(P5 []).shown=NH "()":=by decide +kernel
 rw[t1] at s1;rw[t2] at s2;rw[t3] at s3
 have h2:([Qa 0,.str "",.tuple []]).all Ov=true:=by
  simp[jl z1,jl z2,jl z3]
 have e:inG v (.tuple [.int 0,.str "",.tuple []])=some (.bool ([Qa 0,.str "",.tuple []].any fun y=>OO y v)):=if_pos ⟨jl h,h2⟩;refine⟨_,e,?_⟩
 have a:([Qa 0,.str "",.tuple []].any fun y=>OO y v)=(decide (NH "0"=v.shown)||(decide (NH "''"=v.shown)||decide (NH "()"=v.shown))):=by
  simp only[P3,List.any_nil,Wh];rw[ny z1 h,ny z2 h,ny z3 h,s1,s2,s3]
 rw[a]
 have q:∀a b:Str,(a == b)=decide (a=b):=fun a b=>by first|rfl|(rw[PQ];simp)
 simp[inD,inS,c8,eqF,q]
theorem C1{m:Nat}{x:Str}{G w:NG}{gs rd:List NG}{o o1:Option D.W}{T:Tp}:goL (m+1) (.tuple [.str "fail",.str x]) G w gs rd o o1 T=some (.tuple [.list rd,b8 "fails" (.str x)],T):=by simp[goL,ρL,bI,eC,sG,b8]
theorem whl{c:FT}{b:FS}{m:Nat}{ρ:Rho}{T:Tp}(h:c ρ T=some (true,T)):bI c b (m+1) ρ T=bnd (b ρ T) fun p T2=>match p with
   |(.nx,ρ1)=>bI c b m ρ1 T2
   |(.ct,ρ1)=>bI c b m ρ1 T2
   |(.bk,ρ1)=>some ((.nx,ρ1),T2)
   |(.rt x,ρ1)=>some ((.rt x,ρ1),T2)
   |(.ro x,ρ1)=>some ((.ro x,ρ1),T2):=by
 show bnd (c ρ T) _=_;rw[h];rfl
theorem Fp{c:FT}{b:FS}{m:Nat}{ρ ρ':Rho}{T:Tp}{x:NG}(h:c ρ T=some (true,T))(hb:b ρ T=some ((.rt x,ρ'),T)):bI c b (m+1) ρ T=some ((.rt x,ρ'),T):=by rw[whl h,hb];rfl
theorem xB{c:FT}{b:FS}{m:Nat}{ρ ρ':Rho}{T:Tp}(h:c ρ T=some (true,T))(hb:b ρ T=some ((.nx,ρ'),T)):bI c b (m+1) ρ T=bI c b m ρ' T:=by rw[whl h,hb];rfl
theorem DC{c:FT}{b:FS}{m:Nat}{ρ:Rho}{T:Tp}(h:c ρ T=some (false,T)):bI c b (m+1) ρ T=some ((.nx,ρ),T):=by
 show bnd (c ρ T) _=_;rw[h];rfl
theorem jH{m:Nat}{r:NG}{G w:NG}{gs rd:List NG}{o o1:Option D.W}{T:Tp}{ρ':Rho}{x:NG}(h:eC (ρL r G w gs rd o o1) T=some (true,T))(hb:eN (ρL r G w gs rd o o1) T=some ((.rt x,ρ'),T)):goL (m+1) r G w gs rd o o1 T=some (x,T):=by
 unfold goL;rw[Fp h hb];rfl
theorem yd{m:Nat}{r r':NG}{G w:NG}{gs rd gs' rd':List NG}{o o1 o' o2:Option D.W}{T:Tp}(h:eC (ρL r G w gs rd o o1) T=some (true,T))(hb:eN (ρL r G w gs rd o o1) T=some ((.nx,ρL r' G w gs' rd' o' o2),T)):goL (m+1) r G w gs rd o o1 T=goL m r' G w gs' rd' o' o2 T:=by
 unfold goL;rw[xB h hb]
theorem yb:bg .lst .tup=false:=rfl
theorem GW:∀w∈FW,aE (.str (NH w))=true:=by decide +kernel
theorem rC{gs:List NG}{e:NG}{rest:List NG}{w0:NG}{u:String}(hu:u∈FW)(tl:∀T,fq (de 25) [.d e,.loc (.list gs)] T=some (.d (fl u),T)){G w:NG}{rd:List NG}{o o1:Option D.W}{T:Tp} :
  eN (ρL (.tuple (w0::e::rest)) G w gs rd o o1) T=some ((.rt (.tuple [.list rd,b8 "fails" (.str (NH u))]),ρL (.tuple (w0::e::rest)) G w gs rd (some (.d (fl u))) o1),T):=by
 have e1:ixD (.tuple (w0::e::rest)) (.int 1)=some e:=by
  show atI (w0::e::rest) ((1:Nat):Int)=_;exact kY rfl
 have ls:=fun T=>kT T (GW u hu);simp[eN,ρL,e1,tl,fl,b8,D.intD,ls]
theorem CQ{p:Bool}:∀(n g:Nat) (r:NG),Rg p g n r->∀gs:List NG,gs.length=g->(∀v∈gs,aE v=true)->n<=20->∃S,StepOk p g n S/\(∀k T,n<k->cu k [.d r,.d (.list gs)] T=some (S,T))/\oU n r gs S:=by
 intro n g r h
 induction h with
 |fail hx=>
  rename_i g n x;intro gs hl hv hn;refine⟨flT x,.fl hx,fun k T hk=>?_,fun G w m rd o o1 T hm hr=>⟨fun v e=>absurd e.symm fZ,fun y e=>?_,fun b y r' e=>?_⟩⟩
  .obtain⟨k,rfl⟩:=bH k (by omega)
   simp[cu,flT]
  .obtain⟨m,rfl⟩:=bH m (by omega)
   have:x=y:=by simpa[flT] using e
   subst this;exact C1
  .cases b <;> simp[flT,asT] at e
 |say he=>
  rename_i g n e;intro gs hl hv hn;obtain⟨R,t,hL,hP⟩:=pN (qo gs) hv (by rw[hl];exact Qm _) n e he;have tb:=fun T=>hP 25 T (by omega);have tl:∀T,fq (de 25) [.d e,.loc (.list gs)] T=some (.d R,T):=fun T=>jq rfl (hL 25 [] (by omega)) (mN t)
  rcases t with⟨v,rfl,hv'⟩|⟨u,hu,rfl⟩
  .have ls:=fun T=>kT T hv'
   refine⟨mdT v,.md hv',fun k T hk=>?_,fun G w m rd o o1 T hm hr=>⟨fun u e'=>?_,fun y e'=>absurd e' fZ,fun b y r' e'=>?_⟩⟩
   .obtain⟨k,rfl⟩:=bH k (by omega)
    simp[cu,mdT,tb,vl]
   .obtain⟨m,rfl⟩:=bH m (by omega)
    have:v=u:=by simpa[mdT] using e'
    subst this;exact jH (by simp[eC,ρL]) (by simp[eN,ρL,tl,vl,b8,ls,stt,D.intD];rfl)
   .cases b <;> simp[mdT,asT] at e'
  .refine⟨flT (NH u),.fl (qJ u hu),fun k T hk=>?_,fun G w m rd o o1 T hm hr=>⟨fun u e'=>absurd e'.symm fZ,fun y e'=>?_,fun b y r' e'=>?_⟩⟩
   .obtain⟨k,rfl⟩:=bH k (by omega)
    simp[cu,flT,tb,fl]
   .obtain⟨m,rfl⟩:=bH m (by omega)
    have:NH u=y:=by simpa[flT] using e'
    subst this;exact jH (by simp[eC,ρL]) (rC hu tl)
   .cases b <;> simp[flT,asT] at e'
 |ask hw hg he hr ih=>
  rename_i g n w e r;intro gs hl hv hn;obtain⟨R,t,hL,hP⟩:=pN (qo gs) hv (by rw[hl];exact Qm _) n e he;have tb:=fun T=>hP 25 T (by omega);have tl:∀T,fq (de 25) [.d e,.loc (.list gs)] T=some (.d R,T):=fun T=>jq rfl (hL 25 [] (by omega)) (mN t)
  obtain⟨b,hb,hbp⟩:∃b:Bool,w=(if b then "peek" else "want")/\(b=true->p=true):=by
   rcases hw with rfl|⟨rfl,hp⟩
   .exact⟨false,rfl,fun z=>by cases z⟩
   .exact⟨true,rfl,fun _=>hp⟩
  have nw:¬w="fail"/\¬w="when"/\¬w="say":=by rw[hb];cases b <;> simp
  obtain⟨n1,n2,n3⟩:=nw;have hgl:gs.length<sizeLine:=Oj (by omega:gs.length<1000) (by decide)
  rcases t with⟨v,rfl,hv'⟩|⟨u,hu,rfl⟩
  .have ln:=fun T=>vS (d:=v) T (k7 hv')
   have ll:=fun T=>Fj (v:=v) T hv'
   cases hi:isName v with
   |false=>
    refine⟨flT "name",.fl wF,fun k T hk=>?_,fun G w m rd o o1 T hm hr=>⟨fun u e'=>absurd e'.symm fZ,fun y e'=>?_,fun b y r' e'=>?_⟩⟩
    .obtain⟨k,rfl⟩:=bH k (by omega)
     simp[cu,flT,tb,vl,n1,n2,n3,ln,hi]
    .obtain⟨m,rfl⟩:=bH m (by omega)
     have:NH "name"=y:=by simpa[flT] using e'
     subst this;exact jH (by simp[eC,ρL,n1]) (by simp[eN,ρL,tl,vl,b8,n2,n3,ll,hi];rfl)
    .cases b <;> simp[flT,asT] at e'
   |true=>
    obtain⟨x,rfl⟩:∃x,v=.str x:=by cases v <;> first|exact⟨_,rfl⟩|cases hi
    refine⟨asT b x r,.ask hbp hi hg (TN n) hr,fun k T hk=>?_,fun G wr m rd o o1 T hm hrd=>⟨fun u e'=>?_,fun y e'=>?_,fun b' y r' e'=>?_⟩⟩
    .obtain⟨k,rfl⟩:=bH k (by omega)
     simp[cu,asT,tb,vl,n1,n2,n3,ln,hi,hb]
     cases b <;> simp
    .cases b <;> simp[mdT,asT] at e'
    .cases b <;> simp[flT,asT] at e'
    .obtain⟨m,rfl⟩:=bH m (by omega)
     have hc:eC (ρL (.tuple [.str (NH w),e,r]) G wr gs rd o o1) T=some (true,T):=by simp[eC,ρL,n1]
     obtain⟨rfl,rfl,rfl⟩:b=b'/\x=y/\r=r':=by
      cases b <;> cases b' <;> simp[asT] at e' <;> simp[e']
     have hrl:rd.length<sizeLine:=Oj hrd (by decide)
     have aw:ON (NH w)=ka b:=by rw[hb];rfl
     refine⟨fun V hk=>jH hc (ρ':=ρL (.tuple [.str (NH w),e,r]) G wr gs rd (some (.d (vl (.str x)))) (some (.d (.tuple V)))) ?_,fun v hvv hk=>⟨m,some (.d (vl (.str x))),some (.d (.list [v])),by omega,?_⟩⟩
     .unfold dF at hk
      rw[←aw] at hk;simp[eN,ρL,tl,vl,n2,n3,ll,hi,hk,iY]
     .have ls:=fun T=>kT T hvv
      unfold dF at hk;rw[←aw] at hk;refine yd hc ?_
      cases b with
      |true=>
       subst hb;simp at hk;simp[eN,ρL,tl,vl,n2,n3,ll,hi,hk,hgl,dI,yb]
      |false=>
       subst hb;simp at hk;simp[eN,ρL,tl,vl,n2,n3,ll,hi,hk,hgl,hrl,dI,yb,ls,stt]
  .refine⟨flT (NH u),.fl (qJ u hu),fun k T hk=>?_,fun G w m rd o o1 T hm hr=>⟨fun u e'=>absurd e'.symm fZ,fun y e'=>?_,fun b y r' e'=>?_⟩⟩
   .obtain⟨k,rfl⟩:=bH k (by omega)
    simp[cu,flT,tb,fl,n1]
   .obtain⟨m,rfl⟩:=bH m (by omega)
    have:NH u=y:=by simpa[flT] using e'
    subst this;exact jH (by simp[eC,ρL,n1]) (rC hu tl)
   .cases b <;> simp[flT,asT] at e'
 |whn he hr hs ihr ihs=>
  rename_i g n e r s;intro gs hl hv hn;obtain⟨R,t,hL,hP⟩:=pN (qo gs) hv (by rw[hl];exact Qm _) n e he;have tb:=fun T=>hP 25 T (by omega);have tl:∀T,fq (de 25) [.d e,.loc (.list gs)] T=some (.d R,T):=fun T=>jq rfl (hL 25 [] (by omega)) (mN t)
  have hc:∀G w rd o o1 T,eC (ρL (.tuple [.str "when",e,r,s]) G w gs rd o o1) T=some (true,T):=fun G w rd o o1 T=>by simp[eC,ρL,oG]
  rcases t with⟨v,rfl,hv'⟩|⟨u,hu,rfl⟩
  .obtain⟨b,hb,hb2⟩:=Ju hv'
   have gd:=pF hv'
   have key:∀q,q=(if b=true then s else r)->∀S,StepOk p g n S->(∀k T,n<k->cu k [.d q,.d (.list gs)] T=some (S,T))->oU n q gs S->∃S,StepOk p g (n+1) S/\(∀k T,n+1<k->cu k [.d (.tuple [.str "when",e,r,s]),.d (.list gs)] T=some (S,T))/\oU (n+1) (.tuple [.str "when",e,r,s]) gs S:=by
    intro q hq S hS hq2 hq3;refine⟨S,hS.up (TN n),fun k T hk=>?_,fun G w m rd o o1 T hm hrd=>?_⟩
    .obtain⟨k,rfl⟩:=bH k (by omega)
     have:=hq2 k T (by omega)
     cases b <;> (simp at hq;subst hq;simp[cu,tb,vl,hb,oG,sy,zg,zf,this])
    .obtain⟨m,rfl⟩:=bH m (by omega)
     have st:goL (m+1) (.tuple [.str "when",e,r,s]) G w gs rd o o1 T=goL m q G w gs rd (some (.d (vl v))) o1 T:=by
      refine yd (hc G w rd o o1 T) ?_
      cases b <;> (simp at hq;subst hq;simp[eN,ρL,tl,vl,kH gd,hb2,oG,sy,zg,zf,D.intD])
     obtain⟨a1,a2,a3⟩:=hq3 G w m rd (some (.d (vl v))) o1 T (by omega) hrd;refine⟨fun u e'=>by rw[st];exact a1 u e',fun y e'=>by rw[st];exact a2 y e',fun b' y r' e'=>?_⟩;obtain⟨c1,c2⟩:=a3 b' y r' e';refine⟨fun V hk=>by rw[st];exact c1 V hk,fun w hw hk=>?_⟩;obtain⟨m',o',o2,l,q'⟩:=c2 w hw hk;exact⟨m',o',o2,by omega,by rw[st];exact q'⟩
   cases b with
   |true=>
    obtain⟨S,h1,h2,h3⟩:=ihs gs hl hv (by omega);exact key s rfl S h1 h2 h3
   |false=>
    obtain⟨S,h1,h2,h3⟩:=ihr gs hl hv (by omega);exact key r rfl S h1 h2 h3
  .refine⟨flT (NH u),.fl (qJ u hu),fun k T hk=>?_,fun G w m rd o o1 T hm hr=>⟨fun u e'=>absurd e'.symm fZ,fun y e'=>?_,fun b y r' e'=>?_⟩⟩
   .obtain⟨k,rfl⟩:=bH k (by omega)
    simp[cu,flT,tb,fl,oG,sy]
   .obtain⟨m,rfl⟩:=bH m (by omega)
    have:NH u=y:=by simpa[flT] using e'
    subst this;exact jH (hc G w rd o o1 T) (rC hu tl)
   .cases b <;> simp[flT,asT] at e'
def FIG:Str:=NH "0123456789"
def dl(c:Nat):Bool:=decide (c∈cd "(),")
theorem lC(c:Nat):dl c=decide (c=40\/c=41\/c=44):=by
 have e:cd "(),"=[40,41,44]:=by decide +kernel
 unfold dl;rw[e];simp
def W(l:List Nat):List Nat:=l.takeWhile fun c=>!dl c
def dM(w:List Nat):Bool:=!decide (w=[])&&w.all (fun c=>decide (c∈cd FIG))&&(decide (w=[48])||!decide (w.head? = some 48))
theorem yT{x:Str}{y:Str}{l:List Nat}(h:cd y=l):decide (x=y)=decide (cd x=l):=by refine decide_eq_decide.mpr ⟨fun e=>by rw[e,h],fun e=>dC (by rw[e,h])⟩
theorem Hn{x:Str}(T:Tp)(h:x.length<=NS):gN [.d (.str x)] T=some (.bool (dM (cd x)),T):=by
 have h1:∀T,gk [.d (.str x),.d (.str "0123456789")] T=some (.bool (has FIG x),T):=fun T=>su T h;have e1:decide (x=NH "")=decide (cd x=[]):=yT (by decide +kernel);have e2:decide (x=NH "0")=decide (cd x=[48]):=yT (by decide +kernel)
 have e3:P7 x "0"=decide ((cd x).head? = some 48):=by
  have:NH "0"=⟨#[48]⟩:=dC (by decide +kernel);rw[this,tI]
 have e4:has FIG x=(cd x).all (fun c=>decide (c∈cd FIG)):=rfl;have p1:(x=NH "")=(cd x=[]):=propext (by simpa using e1);have p2:(x=NH "0")=(cd x=[48]):=propext (by simpa using e2);unfold dM;rw[←e4]
 by_cases hn:cd x=[]
 .simp[gN,h1,p1,p2,e3,hn]
 .cases hf:has FIG x with
  |false=>simp[gN,h1,p1,p2,e3,hn,hf]
  |true=>
   by_cases h0:cd x=[48]
   .simp[gN,h1,p1,p2,e3,hn,hf,h0]
   .simp[gN,h1,p1,p2,e3,hn,hf,h0]
def jc:Option Int->NG
 |some i=>.int i
 |none=>.none
def eZ:Option NG->NG
 |some i=>i
 |none=>.none
def JA(w:List Nat):Bool:=w.all (fun c=>decide (c∈cd FIG))
theorem uH:cd FIG=[48,49,50,51,52,53,54,55,56,57]:=by decide +kernel
theorem Hc{w:List Nat}(h:JA w=true):Qn w:=fun c hc=>by
 have:=of_decide_eq_true (Oe.mp h c hc);rw[uH] at this;simp at this;omega
theorem vC{w:List Nat}(h:dM w=true):Qn w/\w≠[]:=by
 unfold dM at h;rw[NN,NN] at h;exact⟨Hc h.1.2,by simpa using h.1.1⟩
def fg(w:List Nat):List Nat:=if w.head? = some 45 then w.tail else w
def jd(w:List Nat):Option Int:=if w=[45,48]\/19<(fg w).length\/dM (fg w)=false then none else some (if w.head? = some 45 then -((OI w.tail:Nat):Int) else ((OI w:Nat):Int))
theorem tJ{x y:Str}{c:Nat}(h:cd y=[c]):P7 x y=decide ((cd x).head? = some c):=by
 have:y=⟨#[c]⟩:=dC (by rw[h];rfl);rw[this,tI]
theorem Dz{x:Str}(T:Tp)(h:x.length<=NS):kh [.d (.str x)] T=some (jc (jd (cd x)),T):=by
 have e1:P7 x "-"=decide ((cd x).head? = some 45):=tJ (by decide +kernel);have p2:(x=NH "-0")=(cd x=[45,48]):=propext ⟨fun e=>by rw[e];decide +kernel,fun e=>dC (by rw[e];decide +kernel)⟩;have hl:=bJ x
 obtain⟨f,hf,hfl,hfe⟩:∃f:Str,cd f=fg (cd x)/\f.length<=x.length/\∀T,cV (aR (ag g0 (aa 0) (fC (.str "-")))) (fSl (aa 0) (fP (fC (.int 1))) bB) (aa 0) [some (.d (.str x)),none] T=some (.d (.str f),T):=by
  by_cases hm:(cd x).head? = some 45
  .have hne:1<=x.length:=by
    rw[←hl]
    cases hx:cd x with
    |nil=>rw[hx] at hm;cases hm
    |cons _ _=>simp
   refine⟨OZ x (some 1) none,?_,WD _ _ _,fun T=>by simp[e1,hm,h]⟩;rw[iG (by decide) (by omega)];unfold fg;rw[if_pos hm];simp
  .refine⟨x,?_,NT _,fun T=>by simp[e1,hm]⟩
   unfold fg;rw[if_neg hm]
 have hfz:f.length<=sizeLine:=Of hfl h;have h1:=fun T=>Hn (x:=f) T hfz
 have hfl':f.length=(fg (cd x)).length:=by rw[←hf,bJ]
 unfold jd
 have start:kh [.d (.str x)] T=cZ (bnd (bnd (cV (aR (ag g0 (aa 0) (fC (.str "-")))) (fSl (aa 0) (fP (fC (.int 1))) bB) (aa 0) [some (.d (.str x)),none] T) (oK 1 [some (.d (.str x)),none])) (gJ (ao (fIf (bi (ax (ag eqD (aa 0) (fC (.str "-0")))) (bi (ax (ag gtD (fCB aY (ae (aa 1) ah)) (fC (.int 19)))) (bo (aR (au gN (ae (aa 1) ah)))))) (av (fC .none)) aF) (av (fCB intD (ae (aa 0) ah)))))):=by
  simp only[kh,lT,mI,mJ,if_true,rM,GZ];rfl
 rw[start,hfe]
 by_cases c1:cd x=[45,48]
 .rw[if_pos (.inl c1)]
  simp[p2,c1,jc]
 .by_cases c2:19<(fg (cd x)).length
  .rw[if_pos (.inr (.inl c2))]
   have c2':(19:Int)<(f.length:Int):=by omega
   simp[p2,c1,hfz,c2',jc]
  .have c2':¬(19:Int)<(f.length:Int):=by omega
   cases c3:dM (fg (cd x)) with
   |false=>
    rw[if_pos (.inr (.inr rfl))];simp[p2,c1,hfz,c2',h1,hf,c3,jc]
   |true=>
    rw[if_neg (by simp[c1,c2])];obtain⟨ad,ne⟩:=vC c3
    have xl:x.length<=640:=by
     rw[←hl]
     have:(cd x).length<=(fg (cd x)).length+1:=by
      unfold fg;split
      .rw[QS];omega
      .omega
     omega
    by_cases hm:(cd x).head? = some 45
    .have ht:∃cs,cd x=45::cs:=by
      cases hx:cd x with
      |nil=>rw[hx] at hm;cases hm
      |cons a r=>rw[hx] at hm;cases hm;exact⟨r,rfl⟩
     obtain⟨cs,hcs⟩:=ht
     have hfg:fg (cd x)=cs:=by unfold fg;rw[if_pos hm,hcs];rfl
     rw[hfg] at ad ne;have it:=Vl (x:=x) (cs:=cs) hcs ad ne (by omega)
     have it':VP x=some (-((OI (cd x).tail:Nat):Int)):=by rw[it,hcs];rfl
     simp[p2,c1,hfz,c2',h1,hf,c3,jc,xl,it',hm]
    .have hfg:fg (cd x)=cd x:=by unfold fg;rw[if_neg hm]
     rw[hfg] at ad ne;have it:=TX (x:=x) ad ne (by omega);have it':VP x=some ((OI (cd x):Nat):Int):=it;simp[p2,c1,hfz,c2',h1,hf,c3,jc,xl,it',hm]
def eV(w:List Nat):Option PyData:=if w.head? = some 39 then some (.str (mk w.tail)) else (jd w).map .int
theorem CA(o:Option Int):jc o=eZ (o.map .int):=by cases o <;> rfl
theorem Dw{x:Str}(T:Tp)(h:x.length<=NS):kg [.d (.str x)] T=some (eZ (eV (cd x)),T):=by
 have e1:P7 x "'"=decide ((cd x).head? = some 39):=tJ (by decide +kernel);unfold eV
 by_cases hm:(cd x).head? = some 39
 .have hne:1<=x.length:=by
   rw[←bJ]
   cases hx:cd x with
   |nil=>rw[hx] at hm;cases hm
   |cons _ _=>simp
  have es:OZ x (some 1) none=mk (cd x).tail:=dC (by
   rw[iG (by decide) (by omega),bf]
   simp)
  rw[if_pos hm];simp[kg,e1,hm,h,es,eZ]
 .rw[if_neg hm,←CA]
  simp[kg,e1,hm,Dz T h]
theorem IR{x:Str}{b:Nat}{a:Nat}{r:List Nat}(h:(cd x).drop b=a::r):atI x.cps.toList (b:Int)=some a/\b<x.length:=by
 have hb:b<(cd x).length:=by
  apply Decidable.byContradiction;intro z;rw[Pr (by omega)] at h;cases h
 refine⟨kY ?_,by rw[←bJ];exact hb⟩
 have:(cd x)[b]? = ((cd x).drop b)[0]?:=by simp
 show (cd x)[b]? = some a;rw[this,h];rfl
theorem wc{t:Str}{at':NG}{T:Tp}(ht:t.length<=NS):∀(n b:Nat),((cd t).drop b).length<n->b<=t.length ->
  bI (bO (ax (ag ltD (aa 2) (fCB aY (ae (aa 0) ah)))) (ax (ag dX (ag ixD (aa 0) (aa 2)) (fC (.str "(),"))))) (aO 2 (ag aQ (aa 2) (fC (.int 1)))) n [some (.d (.str t)),some (.d at'),some (.d (.int b)),none] T
   = some ((.nx,[some (.d (.str t)),some (.d at'),some (.d (.int ((b+(W ((cd t).drop b)).length:Nat):Int))),none]),T)
 |0,b,h,_=>absurd h (Pe _)
 |n+1,b,h,hb=>by
  unfold bI
  cases hd:(cd t).drop b with
  |nil=>
   have hl:t.length<=b:=by
    have:=congrArg Sv hd;rw[Pp,bJ] at this;simp at this;omega
   have hn:¬(b:Int)<(t.length:Int):=by omega
   simp[ht,hn,W]
  |cons a r=>
   obtain⟨h1,h2⟩:=IR hd
   have hn:(b:Int)<(t.length:Int):=by omega
   have hin:dX (.str ⟨#[a]⟩) (.str "(),")=some (.bool (!dl a)):=by
    show some (SA (!iz "()," ⟨#[a]⟩))=_;rw[vy];rfl
   cases hdl:dl a with
   |true=>simp[ht,hn,h1,hin,hdl,W]
   |false=>
    have hr:(cd t).drop (b+1)=r:=by
     have:=congrArg List.tail hd;simpa using this
    have ih:=wc (at':=at') (T:=T) ht n (b+1) (by rw[hr];rw[hd] at h;simpa using h) (by omega);rw[hr] at ih
    have eb:((b+1:Nat):Int)=(b:Int)+1:=by omega
    rw[eb] at ih
    have ew:W (a::r)=a::W r:=by simp[W,hdl]
    have el:b+(a::W r).length=b+1+(W r).length:=by simp;omega
    rw[ew,el];simp[ht,hn,h1,hin,hdl,ih]
theorem Dx{t:Str}{b:Nat}(T:Tp)(ht:t.length<=60000)(hb:b<=t.length):jj [.d (.str t),.d (.int b)] T=some ((match eV (W ((cd t).drop b)) with|none=>TL|some v=>.tuple [v,.int ((b+(W ((cd t).drop b)).length:Nat):Int)]),T):=by
 have ht':t.length<=sizeLine:=Of ht (by decide);have hsc:=wc (at':=.int b) (T:=T) ht' 100000 b (by rw[Pp,bJ];omega) hb
 have hsl:cd (OZ t (some (b:Int)) (some ((b+(W ((cd t).drop b)).length:Nat):Int)))=W ((cd t).drop b):=by
  rw[qj (by omega) (by omega)]
  have e:((b+(W ((cd t).drop b)).length:Nat):Int).toNat-((b:Nat):Int).toNat=(W ((cd t).drop b)).length:=by omega
  rw[e]
  have e2:((b:Nat):Int).toNat=b:=by omega
  rw[e2];exact List.prefix_iff_eq_take.mp (QH _) |>.symm
 have hlen:(OZ t (some (b:Int)) (some ((b+(W ((cd t).drop b)).length:Nat):Int))).length<=sizeLine:=Of (WD _ _ _) ht';have hsb:=Dw (x:=OZ t (some (b:Int)) (some ((b+(W ((cd t).drop b)).length:Nat):Int))) T hlen;rw[hsl] at hsb;rw[Ts] at hsb hsl hlen hsc;rw[Ts]
 cases hs:eV (W ((cd t).drop b)) with
 |none=>
  rw[hs] at hsb;simp only[jj,lT,mI,mJ,if_true];simp[hsc,ht',hsb,eZ,isNone]
 |some v=>
  have hv:isNone v=false:=by
   unfold eV at hs;split at hs
   .cases hs;rfl
   .obtain⟨i,_,rfl⟩:=Ol.mp hs
    rfl
  rw[hs] at hsb;simp only[jj,lT,mI,mJ,if_true];simp[hsc,ht',hsb,eZ,hv]
def dJ(n:Nat):Option (NG×List Nat)->NG
 |none=>.none
 |some (v,r)=>.tuple [v,.int ((n-r.length:Nat):Int)]
def d6(val:List Nat->Option (NG×List Nat)):Nat->List NG->List Nat->Option (NG×List Nat)
 |0,_,_=>none
 |n+1,acc,l=>match val l with
  |none=>none
  |some (v,r)=>if r.head? = some 41 then some (.tuple (acc++[v]),r.tail) else if r.head? = some 44 then d6 val n (acc++[v]) r.tail else none
def eU(l:List Nat):Option (NG×List Nat):=(eV (W l)).map fun v=>(v,l.drop (W l).length)
def cC:Nat->List Nat->Option (NG×List Nat)
 |0,l=>if l.head? = some 40 then none else eU l
 |n+1,l=>if l.head? = some 40 then (if l.tail.head? = some 41 then some (.tuple [],l.tail.tail) else d6 (cC n) 100000 [] l.tail) else eU l
def Suf(val:List Nat->Option (NG×List Nat)):Prop:=∀l v r,val l=some (v,r)->r <:+ l
theorem u4{val:List Nat->Option (NG×List Nat)}(h:Suf val):∀n acc l v r,d6 val n acc l=some (v,r)->r <:+ l
 |0,acc,l,v,r,e=>by cases e
 |n+1,acc,l,v,r,e=>by
  unfold d6 at e
  cases hv:val l with
  |none=>rw[hv] at e;cases e
  |some p=>
   obtain⟨v1,r1⟩:=p;have s1:=h l v1 r1 hv;rw[hv] at e;dsimp only at e;split at e
   .cases e
    exact(PD _).trans s1
   .split at e
    .exact((u4 h n _ _ _ _ e).trans (PD _)).trans s1
    .cases e
theorem u0:Suf eU:=fun l v r e=>by
 obtain⟨v',_,e'⟩:=Ol.mp e;cases e';exact List.drop_suffix _ _
theorem m7:∀n,Suf (cC n)
 |0=>fun l v r e=>by
  unfold cC at e;split at e
  .cases e
  .exact u0 _ _ _ e
 |n+1=>fun l v r e=>by
  unfold cC at e;split at e
  .split at e
   .cases e
    exact(PD _).trans (PD _)
   .exact(u4 (m7 n) _ _ _ _ _ e).trans (PD _)
  .exact u0 _ _ _ e
theorem mO{l:List Nat}{c:Nat}(h:l.head? = some c):l.length=l.tail.length+1:=by
 cases l with
 |nil=>cases h
 |cons=>simp
theorem lh{t y:Str}{l:List Nat}{c:Nat}(hl:l <:+ cd t)(hy:cd y=[c]):(OZ t (some ((t.length-l.length:Nat):Int)) (some (((t.length-l.length:Nat):Int)+1))=y)=(l.head? = some c):=by
 have hd:(cd t).drop (t.length-l.length)=l:=by
  have:=SX.mp hl;rw[bJ] at this;exact this.symm
 have e:cd (OZ t (some ((t.length-l.length:Nat):Int)) (some (((t.length-l.length:Nat):Int)+1)))=l.take 1:=by
  rw[qj (by omega) (by omega)]
  have e1:((t.length-l.length:Nat):Int).toNat=t.length-l.length:=by omega
  have e2:(((t.length-l.length:Nat):Int)+1).toNat-(t.length-l.length)=1:=by omega
  rw[e1,e2,hd]
 refine propext ⟨fun z=>?_,fun z=>dC ?_⟩
 .rw[z,hy] at e
  cases l with
  |nil=>cases e
  |cons a r=>simp at e;simp[e]
 .rw[e,hy]
  cases l with
  |nil=>cases z
  |cons a r=>simp at z;simp[z]
theorem uq{t:Str}{l:List Nat}(hl:l <:+ cd t)(T:Tp)(ht:t.length<=60000):jj [.d (.str t),.d (.int ((t.length-l.length:Nat):Int))] T=some (dJ t.length (eU l),T):=by
 have hd:(cd t).drop (t.length-l.length)=l:=by
  have:=SX.mp hl;rw[bJ] at this;exact this.symm
 have hn:=hl.length_le;rw[bJ] at hn;have h:=Dx (t:=t) (b:=t.length-l.length) T ht (by omega);rw[hd] at h;rw[h];unfold eU;have hw:(W l).length<=l.length:=(QH _).length_le
 cases eV (W l) with
 |none=>rfl
 |some v=>
  show some (P5 [v,.int ((t.length-l.length+(W l).length:Nat):Int)],T)=some (P5 [v,.int ((t.length-(l.drop (W l).length).length:Nat):Int)],T);rw[Pp]
  have:t.length-l.length+(W l).length=t.length-(l.length-(W l).length):=by omega
  rw[this]
def jV(n:Nat):FS:=(ao (aO 4 (au (dw n) (ae (aa 0) (ae (aa 1) (ae (aa 2) ah))))) (ao (fIf (ax (ag isD (aa 4) (fC .none))) (av (fC .none)) aF) (ao (da 3 (ag ixD (aa 4) (fC (.int 0)))) (ao (aO 1 (ag aQ (ag ixD (aa 4) (fC (.int 1))) (fC (.int 1)))) (ao (aO 5 (fSl (aa 0) (fP (ag ixD (aa 4) (fC (.int 1)))) (fP (aa 1)))) (ao (fIf (ax (ag eqD (aa 5) (fC (.str ")")))) (av (aB .tuple (ae (fCB dO (ae (aa 3) ah)) (ae (aa 1) ah)))) aF) (fIf (ax (ag neD (aa 5) (fC (.str ",")))) (av (fC .none)) aF)))))))
theorem xJ{t:Str}{T:Tp}{val:List Nat->Option (NG×List Nat)}{n rows:Nat}(ht:t.length<=60000)(hs:Suf val)(hv:∀l,l <:+ cd t->dw n [.d (.str t),.d (.int ((t.length-l.length:Nat):Int)),.d (.int rows)] T=some (dJ t.length (val l),T)) :
  ∀(k:Nat) (l:List Nat) (acc:List NG) (o4 o5:Option D.W),l <:+ cd t->l.length<k->acc.length+l.length<=60000 ->
  cZ (bI (aR (fC (.bool true))) (jV n) k [some (.d (.str t)),some (.d (.int ((t.length-l.length:Nat):Int))),some (.d (.int rows)),some (.loc (.list acc)),o4,o5] T)=some (dJ t.length (d6 val k acc l),T)
 |0,l,acc,o4,o5,hl,hk,ha=>absurd hk (Pe _)
 |k+1,l,acc,o4,o5,hl,hk,ha=>by
  have ht':t.length<=sizeLine:=Of ht (by decide);have ha':acc.length<sizeLine:=Pk (by omega:acc.length<=60000) (by decide);have h1:=hv l hl;unfold bI d6
  cases hvl:val l with
  |none=>
   rw[hvl] at h1;simp[jV,h1,dJ,isNone]
  |some p=>
   obtain⟨v,r⟩:=p;have hr:=(hs l v r hvl);have hrt:=hr.trans hl;have hrl:=hr.length_le;have hll:=hl.length_le;rw[bJ] at hll;have s1:=lh (c:=41) hrt (y:=NH ")") (by decide +kernel);have s2:=lh (c:=44) hrt (y:=NH ",") (by decide +kernel);rw[hvl] at h1
   have step:∀c,r.head? = some c->(((t.length-r.length:Nat):Int)+1)=((t.length-r.tail.length:Nat):Int):=fun c hc=>by
    have:=mO hc;omega
   dsimp only
   by_cases c1:r.head? = some 41
   .have e1:=step _ c1
    rw[if_pos c1]
    have goal:dJ t.length (some (P5 (acc++[v]),r.tail))=.tuple [.tuple (acc++[v]),.int (((t.length-r.length:Nat):Int)+1)]:=by
     rw[e1];rfl
    rw[goal];simp[jV,h1,dJ,isNone,ji,jh,ha',ht',s1,c1]
   .rw[if_neg c1]
    by_cases c2:r.head? = some 44
    .have e1:=step _ c2
     have e2:=mO c2;have ih:=xJ ht hs hv k r.tail (acc++[v]) (some (.d (.tuple [v,.int ((t.length-r.length:Nat):Int)]))) (some (.d (.str (OZ t (some ((t.length-r.length:Nat):Int)) (some (((t.length-r.length:Nat):Int)+1)))))) ((PD _).trans hrt) (by omega) (by simp;omega);rw[←e1] at ih;rw[if_pos c2,←ih];simp[jV,h1,dJ,isNone,ji,jh,ha',ht',s1,s2,c1,c2]
    .rw[if_neg c2]
     simp[jV,h1,dJ,isNone,ji,jh,ha',ht',s1,s2,c1,c2]
def sD(val:List Nat->Option (NG×List Nat))(l:List Nat):Option (NG×List Nat):=if l.head? = some 41 then some (.tuple [],l.tail) else d6 val 100000 [] l
theorem Fg{t:Str}{T:Tp}{val:List Nat->Option (NG×List Nat)}{n rows:Nat}(ht:t.length<=60000)(hs:Suf val)(hv:∀l,l <:+ cd t->dw n [.d (.str t),.d (.int ((t.length-l.length:Nat):Int)),.d (.int rows)] T=some (dJ t.length (val l),T)){l:List Nat}(hl:l <:+ cd t) :
  jr (n+1) [.d (.str t),.d (.int ((t.length-l.length:Nat):Int)),.d (.int rows)] T=some (dJ t.length (sD val l),T):=by
 have ht':t.length<=sizeLine:=Of ht (by decide);have hll:=hl.length_le;rw[bJ] at hll;have s1:=lh (c:=41) hl (y:=NH ")") (by decide +kernel);have hr:=xJ (T:=T) ht hs hv 100000 l [] none none hl (by omega) (by simp;omega);unfold sD
 by_cases c1:l.head? = some 41
 .rw[if_pos c1]
  have goal:dJ t.length (some (P5 [],l.tail))=.tuple [.tuple [],.int (((t.length-l.length:Nat):Int)+1)]:=by
   have:=mO c1
   have e:(((t.length-l.length:Nat):Int)+1)=((t.length-l.tail.length:Nat):Int):=by omega
   rw[e];rfl
  rw[goal];simp[jr,ht',s1,c1]
 .rw[if_neg c1,←hr]
  have:jr (n+1)=aT 6 (ao (fIf (ax (ag eqD (fSl (aa 0) (fP (aa 1)) (fP (ag aQ (aa 1) (fC (.int 1))))) (fC (.str ")")))) (av (aB .tuple (ae (aB .tuple ah) (ae (ag aQ (aa 1) (fC (.int 1))) ah)))) aF) (ao (dq 3 ah) (bI (aR (fC (.bool true))) (jV n) 100000))):=by rw[jr];rfl
  rw[this];simp[ht',s1,c1]
theorem qZ{t:Str}{T:Tp}(ht:t.length<=60000):∀(rows n:Nat),2*rows+1<=n->∀l,l <:+ cd t->dw n [.d (.str t),.d (.int ((t.length-l.length:Nat):Int)),.d (.int rows)] T=some (dJ t.length (cC rows l),T)
 |_,0,h,_,_=>absurd h (by omega)
 |0,n+1,h,l,hl=>by
  have ht':t.length<=sizeLine:=Of ht (by decide);have s1:=lh (c:=40) hl (y:=NH "(") (by decide +kernel);have sg:=uq hl T ht;unfold cC
  by_cases c1:l.head? = some 40
  .simp[dw,ht',s1,c1,dJ]
  .simp[dw,ht',s1,c1,sg]
 |rows+1,n+1,h,l,hl=>by
  have ht':t.length<=sizeLine:=Of ht (by decide);have s1:=lh (c:=40) hl (y:=NH "(") (by decide +kernel);have sg:=uq hl T ht;have hll:=hl.length_le;rw[bJ] at hll;unfold cC
  by_cases c1:l.head? = some 40
  .obtain⟨m,rfl⟩:∃m,n=m+1:=⟨n-1,by omega⟩
   have rr:=Fg ht (m7 rows) (qZ (T:=T) ht rows m (by omega)) ((PD l).trans hl);have:=mO c1
   have e:(((t.length-l.length:Nat):Int)+1)=((t.length-l.tail.length:Nat):Int):=by omega
   rw[←e] at rr
   have e2:((rows+1:Nat):Int)-1=(rows:Int):=by omega
   have e3:¬((rows+1:Nat):Int)=0:=by omega
   rw[if_pos c1];show _=some (dJ t.length (sD (cC rows) l.tail),T);rw[←e2] at rr;generalize ((rows+1:Nat):Int)=R at e3 rr;simp[dw,ht',s1,c1,e3,rr]
  .rw[if_neg c1]
   simp[dw,ht',s1,c1,sg]
theorem wZ(m:Nat):0<m->(dg m).head?≠some 48:=by
 induction m using Nat.strongRecOn with
 |_ m ih=>
  intro hm
  by_cases h:m<10
  .have:∀m:Nat,m<10->0<m->((Ro 10 m).map VO).head?≠some 48:=by decide
   exact this m h hm
  .have hm:m % 10<10:=Nat.mod_lt m (by decide)
   have t:Ro 10 (m / 10)++Ro 10 (m % 10)=Ro 10 (10*(m / 10)+m % 10):=Nat.toDigits_append_toDigits (by decide) (by omega) hm;rw[Nat.div_add_mod] at t
   have e:dg m=dg (m / 10)++dg (m % 10):=by
    unfold dg;rw[←t,Pn]
   have i1:=ih (m / 10) (by omega) (by omega);have i2:=jS (m / 10);rw[e]
   cases hd:dg (m / 10) with
   |nil=>exact absurd hd i2
   |cons a r=>rw[hd] at i1;simpa using i1
theorem wY:dg 0=[48]:=by decide
theorem w4(m:Nat):dM (dg m)=true:=by
 unfold dM;rw[NN,NN];refine⟨⟨by simpa using jS m,Oe.mpr fun c hc=>decide_eq_true ?_⟩,?_⟩
 .rw[uH]
  have:=f9 m c hc;simp;omega
 .rcases Nat.eq_zero_or_pos m with h|h
  .subst h
   rw[wY];rfl
  .rw[Q7]
   right;simpa using wZ m h
theorem mT(m:Nat):(dg m).head?≠some 45:=fun h=>by
 cases hd:dg m with
 |nil=>rw[hd] at h;cases h
 |cons a r=>
  rw[hd] at h;cases h;have:=f9 m 45 (by rw[hd];exact NI);omega
theorem Ey{i:Int}(h:single (.int i)=true):jd (nc i)=some i:=by
 have h:=ku h;unfold jd
 cases i with
 |ofNat m=>
  show (if dg m=[45,48]\/19<(fg (dg m)).length\/dM (fg (dg m))=false then none else some (if (dg m).head? = some 45 then -((OI (dg m).tail:Nat):Int) else ((OI (dg m):Nat):Int)))=_
  have e:fg (dg m)=dg m:=by unfold fg;rw[if_neg (mT m)]
  have l:=jI (m:=m) h;rw[e,if_neg (mT m),ig,w4,if_neg]
  .rfl
  .rintro(z|z|z)
   .exact mT m (by rw[z];rfl)
   .omega
   .cases z
 |negSucc m=>
  show (if 45::dg (m+1)=[45,48]\/19<(fg (45::dg (m+1))).length\/dM (fg (45::dg (m+1)))=false then none else some (if (45::dg (m+1)).head? = some 45 then -((OI (45::dg (m+1)).tail:Nat):Int) else ((OI (45::dg (m+1)):Nat):Int)))=_;have e:fg (45::dg (m+1))=dg (m+1):=rfl;have l:=jI (m:=m+1) h;have e2:(45::dg (m+1)).tail=dg (m+1):=rfl;rw[e,e2,ig,w4,if_pos (by rfl:(45::dg (m+1)).head? = some 45),if_neg]
  .rfl
  .rintro(z|z|z)
   .have z':dg (m+1)=[48]:=(SI z).2
    have:=wZ (m+1) (by omega);rw[z'] at this;exact this rfl
   .omega
   .cases z
theorem txt_codes{x:Str}(h:has TXT x=true):∀c∈cd x,dl c=false:=fun c hc=>by
 have h1:=of_decide_eq_true (Oe.mp h c hc)
 have h2:∀c∈TXT.cps.toList,dl c=false:=by decide +kernel
 exact h2 c h1
theorem vp(i:Int):∀c∈nc i,dl c=false:=fun c hc=>by
 rw[lC];have:=jw i c hc;exact decide_eq_false (by omega)
def oT(l:List Nat):Prop:=∀c,l.head? = some c->dl c=true
theorem zb{w l:List Nat}(hw:∀c∈w,dl c=false)(hl:oT l):W (w++l)=w:=by
 unfold W;rw[RM (fun c hc=>by rw[hw c hc];rfl)]
 cases l with
 |nil=>simp
 |cons a r=>
  have:=hl a rfl;rw[Ui,this];simp
theorem uo{d:NG}{n:Nat}{l:List Nat}(h:single d=true)(hl:oT l):(cst n d++l).head?≠some 40/\(cst n d).head?≠some 41/\cst n d≠[]/\eU (cst n d++l)=some (d,l)/\(cst n d).length<=21:=by
 rcases cq h with⟨i,rfl⟩|⟨x,rfl⟩
 .rw[iS]
  have hne:=yM i;have hs:=jw i;have hh:∀c,(nc i).head? = some c->c=45\/(48<=c/\c<=57):=fun c hc=>hs c (UU hc)
  have h39:(nc i).head?≠some 39:=fun z=>by have:=hh _ z;omega
  refine⟨?_,fun z=>by have:=hh _ z;omega,hne,?_,by have:=rH h;omega⟩
  .rw[gY hne]
   exact fun z=>by have:=hh _ z;omega
  .unfold eU
   rw[zb (vp i) hl];unfold eV;rw[if_neg h39,Ey h];simp
 .rw[iR]
  have h':(decide (x.length<=20)&&has TXT x)=true:=h;rw[NN] at h';refine⟨by simp,by simp,by simp,?_,?_⟩
  .unfold eU
   rw[zb (w:=39::cd x) (fun c hc=>by
    rcases NR.mp hc with z|z
    .subst z;rw[lC];rfl
    .exact txt_codes h'.2 c z) hl]
   unfold eV;rw[if_pos (by rfl:(39::cd x).head? = some 39)];show (some (ON (mk (cd x)))).map _=_;rw[i7];simp
  .have:=of_decide_eq_true h'.1
   rw[Ou,bJ];omega
theorem uA{val:List Nat->Option (NG×List Nat)}{f:NG->List Nat}{post:List Nat}:∀(ds:List NG) (d:NG) (k:Nat) (acc:List NG),ds.length<k->(∀x∈d::ds,∀l,oT l->val (f x++l)=some (x,l)) ->
  d6 val k acc (a9 [44] ((d::ds).map f)++41::post)=some (.tuple (acc++d::ds),post)
 |ds,d,0,acc,h,_=>absurd h (Pe _)
 |[],d,k+1,acc,h,hv=>by
  have:=hv d NI (41::post) (fun c hc=>by cases hc;rw[lC];rfl);unfold d6;show (match val (f d++41::post) with|none=>none|some (v,r)=>_)=_;rw[this];rfl
 |e::ds,d,k+1,acc,h,hv=>by
  have h1:=hv d NI (44::(a9 [44] ((e::ds).map f)++41::post)) (fun c hc=>by cases hc;rw[lC];rfl);have ih:=uA (post:=post) ds e k (acc++[d]) (by simpa using h) (fun x hx=>hv x (NJ _ hx))
  have e1:a9 [44] ((d::e::ds).map f)++41::post=f d++44::(a9 [44] ((e::ds).map f)++41::post):=by
   show (f d++[44]++a9 [44] ((e::ds).map f))++41::post=_;simp
  unfold d6;rw[e1,h1];simp only[QJ,Rx,Q6] at ih;simpa using ih
theorem Dl:∀(n:Nat) (d:NG),aG n d=true->cst n d≠[]/\(cst n d).head?≠some 41:=fun n d h=>by
 rcases bY h with h1|⟨m,ds,rfl,rfl,_,_⟩
 .have:=uo (n:=n) (l:=[]) h1 (fun c hc=>by cases hc)
  exact⟨this.2.2.1,this.2.1⟩
 .exact⟨by simp[cst],by simp[cst]⟩
theorem uV{n:Nat}{l:List Nat}(h:l.head?≠some 40):cC n l=eU l:=by
 cases n with
 |zero=>unfold cC;rw[if_neg h]
 |succ n=>unfold cC;rw[if_neg h]
theorem val_back:∀(n:Nat) (d:NG),aG n d=true->∀l,oT l->cC n (cst n d++l)=some (d,l)
 |n,d,h,l,hl=>by
  rcases bY h with h1|⟨m,ds,rfl,rfl,h8,hb⟩
  .have:=uo (n:=n) h1 hl
   rw[uV this.1,this.2.2.2.1]
  .have ih:=val_back m
   have e:cst (m+1) (.tuple ds)++l=40::(a9 [44] (ds.map (cst m))++41::l):=by
    show (40::(a9 [44] (ds.map (cst m))++[41]))++l=_;simp
   rw[e];unfold cC;rw[if_pos (by rfl:(40::(a9 [44] (ds.map (cst m))++41::l)).head? = some 40)]
   cases ds with
   |nil=>rfl
   |cons d ds=>
    have hh:=Dl m d (hb d NI);have e2:(40::(a9 [44] ((d::ds).map (cst m))++41::l)).tail=a9 [44] ((d::ds).map (cst m))++41::l:=rfl
    have e3:(a9 [44] ((d::ds).map (cst m))++41::l).head?≠some 41:=by
     rw[Oi,e9,QJ,gY hh.1];exact hh.2
    rw[e2,if_neg e3];have:=uA (val:=cC m) (f:=cst m) (post:=l) ds d 100000 [] (by simp at h8;omega) (fun x hx l hl=>ih x (hb x hx) l hl);rw[this];rfl
termination_by n=>n
theorem Hq{v:NG}(T:Tp)(h:aE v=true):eL [.d (.str (mk (cst 4 v)))] T=some (v,T):=by
 obtain⟨hb,hm⟩:=b9 h;have hl:=qS 4 v hb
 have ht:(mk (cst 4 v)).length<=60000:=by rw[bz];omega
 have ht':(mk (cst 4 v)).length<=sizeLine:=Of ht (by decide);have e:=qZ (T:=T) ht 4 25 (by decide) (cst 4 v) (by rw[bf];exact Vf _);have b:=val_back 4 v hb [] (fun c hc=>by cases hc);rw[PU] at b;rw[b,bz,WE] at e;have e':dw 25 [.d (.str (mk (cst 4 v))),.d (.int 0),.d (.int 4)] T=some (.tuple [v,.int ((cst 4 v).length:Int)],T):=e;have iv:=qY T (k7 h);rw[h] at iv
 have hn:¬((cst 4 v).length:Int)<((cst 4 v).length:Int):=by omega
 have hz:(mk (cst 4 v)).length=(cst 4 v).length:=bz _;simp[eL,e',isNone,ji,jh,ht',iv,hz];intro z;rw[hz] at ht';omega
def hdC(a:Nat):List (List Nat)->List (List Nat)
 |[]=>[[a]]
 |w::r=>(a::w)::r
def spl(c:Nat):List Nat->List (List Nat)
 |[]=>[[]]
 |a::l=>if a=c then []::spl c l else hdC a (spl c l)
theorem GT(a:Nat)(l:List (List Nat)):hdC a l≠[]:=by cases l <;> simp[hdC]
theorem nI(c:Nat):∀l,spl c l≠[]
 |[]=>by simp[spl]
 |a::l=>by
  rw[spl];split
  .simp
  .exact GT _ _
theorem u6(c:Nat):∀l,∀w∈spl c l,c∉w
 |[],w,h=>by simp[spl] at h;simp[h]
 |a::l,w,h=>by
  have ih:=u6 c l;rw[spl] at h;split at h
  .rcases NR.mp h with z|z
   .simp[z]
   .exact ih w z
  .rename_i ha
   cases hs:spl c l with
   |nil=>exact absurd hs (nI c l)
   |cons u r=>
    rw[hs] at h ih
    rcases NR.mp h with z|z
    .rw[z]
     intro q
     rcases NR.mp q with e|e
     .exact ha e.symm
     .exact ih u NI e
    .exact ih w (NJ _ z)
def sub(c:Nat)(z l:List Nat):List Nat:=l.flatMap fun a=>if a=c then z else [a]
theorem qT(c:Nat)(z:List Nat):∀l,a9 z (spl c l)=sub c z l
 |[]=>rfl
 |a::l=>by
  have ih:=qT c z l;have e:sub c z (a::l)=(if a=c then z else [a])++sub c z l:=rfl;rw[e,←ih,spl]
  cases hs:spl c l with
  |nil=>exact absurd hs (nI c l)
  |cons u r=>
   split
   .rfl
   .show a9 z ((a::u)::r)=_
    rw[e9,e9];rfl
theorem sub_self(c:Nat):∀l,sub c [c] l=l
 |[]=>rfl
 |a::l=>by
  have e:sub c [c] (a::l)=(if a=c then [c] else [a])++sub c [c] l:=rfl;rw[e,sub_self c l]
  by_cases h:a=c
  .rw[if_pos h,h];rfl
  .rw[if_neg h];rfl
theorem jt(c:Nat)(b:List Nat):∀a,spl c (a++c::b)=spl c a++spl c b
 |[]=>by simp[spl]
 |x::a=>by
  have ih:=jt c b a;rw[Rx,spl,spl,ih]
  cases hs:spl c a with
  |nil=>exact absurd hs (nI c a)
  |cons u r=>split <;> rfl
theorem v7(c:Nat):∀w,c∉w->spl c w=[w]
 |[],_=>rfl
 |a::w,h=>by
  rw[spl,v7 c w (fun z=>h (NJ _ z)),if_neg (fun e=>h (by rw[e];exact NI))];rfl
theorem Du{c:Nat}{a b u v:List Nat}(ha:c∉a)(hb:c∉b)(hu:u=[]\/u.head? = some c)(hv:v=[]\/v.head? = some c)(h:a++u=b++v):a=b/\u=v:=by
 induction a generalizing b with
 |nil=>
  cases b with
  |nil=>exact⟨rfl,h⟩
  |cons d b=>
   exfalso;rw[Q6] at h
   rcases hu with hu|hu
   .rw[hu] at h;cases h
   .rw[h] at hu
    have:d=c:=by simpa using hu
    exact hb (by simp[this])
 |cons x a ih=>
  cases b with
  |nil=>
   exfalso;rw[Q6] at h
   rcases hv with hv|hv
   .rw[hv] at h;cases h
   .rw[←h] at hv
    have:x=c:=by simpa using hv
    exact ha (by simp[this])
  |cons d b=>
   rw[Rx,Rx] at h
   injection h with h1 h2
   obtain⟨k1,k2⟩:=ih (b:=b) (fun z=>ha (NJ _ z)) (fun z=>hb (NJ _ z)) h2;exact⟨by rw[h1,k1],k2⟩
theorem vB(c:Nat)(r:List (List Nat)):(r.map ([c]++·)).flatten=[]\/((r.map ([c]++·)).flatten).head? = some c:=by
 cases r with
 |nil=>exact .inl rfl
 |cons a r=>exact .inr rfl
theorem vM(c:Nat):∀(A B:List (List Nat)),A≠[]->B≠[]->(∀a∈A,c∉a)->(∀b∈B,c∉b)->a9 [c] A=a9 [c] B->A=B
 |[],_,h,_,_,_,_=>absurd rfl h
 |_::_,[],_,h,_,_,_=>absurd rfl h
 |a::A,b::B,_,_,hA,hB,h=>by
  rw[e9,e9] at h;obtain⟨h1,h2⟩:=Du (hA a NI) (hB b NI) (vB c A) (vB c B) h;rw[h1]
  congr 1
  cases A with
  |nil=>
   cases B with
   |nil=>rfl
   |cons b' B=>cases h2
  |cons a' A=>
   cases B with
   |nil=>cases h2
   |cons b' B=>
    have h3:a'++(A.map ([c]++·)).flatten=b'++(B.map ([c]++·)).flatten:=by
     have e:∀(x:List Nat) (r:List (List Nat)),((x::r).map ([c]++·)).flatten=c::(x++(r.map ([c]++·)).flatten):=fun x r=>by simp
     rw[e,e] at h2;injection h2
    refine vM c (a'::A) (b'::B) (by simp) (by simp) (fun x hx=>hA x (NJ _ hx)) (fun x hx=>hB x (NJ _ hx)) ?_;rw[e9,e9];exact h3
theorem Cc(x y:Str):Qi x y≠[]:=by
 unfold Qi;split
 .simp
 .split
  .simp
  .rw[StrLaws.partsBetween_eq]
   obtain⟨p,r,e⟩:=StrLaws.partsFrom_ne x y.length 0 (OQ x y 0 x.length (x.length+1));rw[e];simp
theorem u5(x:Str)(c:Nat):(Qi x ⟨#[c]⟩).map cd=spl c (cd x):=by
 have j:=StrLaws.join_split x ⟨#[c]⟩;have f:=StrLaws.split_free x c
 have e:cd (Q2 ⟨#[c]⟩ (Qi x ⟨#[c]⟩))=cd x:=by rw[j]
 rw[kU] at e;have b:cd ⟨#[c]⟩=[c]:=rfl;rw[b] at e;refine vM c _ _ (by simpa using Cc x _) (nI c _) (fun a ha=>?_) (u6 c _) (by rw[e,qT,sub_self]);obtain⟨p,hp,rfl⟩:=OH.mp ha;exact f p hp
theorem ju(x z:Str)(c:Nat):cd (OC x ⟨#[c]⟩ z)=sub c (cd z) (cd x):=by rw[StrLaws.replace_one,kU,u5,qT]
theorem sub_len(c:Nat)(z:List Nat)(hz:z.length=3):∀l,(sub c z l).length<=3*l.length
 |[]=>NT _
 |a::l=>by
  have e:sub c z (a::l)=(if a=c then z else [a])++sub c z l:=rfl;have ih:=sub_len c z hz l;rw[e,OR,Ou];split
  .omega
  .simp;omega
theorem v4(c:Nat)(z a b:List Nat):sub c z (a++b)=sub c z a++sub c z b:=List.flatMap_append
theorem kE(c:Nat)(z:List Nat):∀w,c∉w->sub c z w=w
 |[],_=>rfl
 |a::w,h=>by
  have e:sub c z (a::w)=(if a=c then z else [a])++sub c z w:=rfl;rw[e,kE c z w (fun q=>h (NJ _ q)),if_neg (fun q=>h (by rw[q];exact NI))];rfl
def z1:List Nat:=[44,40,44]
def z2:List Nat:=[44,41,44]
def wdl(l:List Nat):List (List Nat):=spl 44 (sub 41 z2 (sub 40 z1 l))
theorem DG(a b:List Nat):wdl (a++44::b)=wdl a++wdl b:=by
 have e:(a++44::b)=a++([44]++b):=rfl;unfold wdl;rw[e];simp only[v4,kE 40 z1 [44] (by decide),kE 41 z2 [44] (by decide)];exact jt 44 _ _
theorem vU{w:List Nat}(h:∀c∈w,dl c=false):wdl w=[w]:=by
 have q:∀c∈w,¬(c=40\/c=41\/c=44):=fun c hc=>by
  have:=h c hc;rw[lC] at this;exact of_decide_eq_false this
 unfold wdl;rw[kE 40 z1 w (fun z=>q _ z (.inl rfl)),kE 41 z2 w (fun z=>q _ z (.inr (.inl rfl))),v7 44 w (fun z=>q _ z (.inr (.inr rfl)))]
theorem DF(l:List Nat):wdl (40::(l++[41]))=[]::[40]::(wdl l++[[41],[]]):=by
 have e:(40::(l++[41]))=[40]++(l++[41]):=rfl
 have s1:sub 40 z1 [40]=z1:=by decide
 have s2:sub 40 z1 [41]=[41]:=by decide
 have s3:sub 41 z2 z1=z1:=by decide
 have s4:sub 41 z2 [41]=z2:=by decide
 unfold wdl;rw[e];simp only[v4,s1,s2,s3,s4];generalize sub 41 z2 (sub 40 z1 l)=m
 have t:z1++(m++z2)=([]:List Nat)++44::([40]++44::(m++44::([41]++44::[]))):=by simp[z1,z2]
 rw[t,jt,jt,jt,jt];have u1:spl 44 []=[[]]:=rfl
 have u2:spl 44 [40]=[[40]]:=by decide
 have u3:spl 44 [41]=[[41]]:=by decide
 rw[u1,u2,u3];rfl
theorem vV(f:NG->List Nat):∀(d:NG) (ds:List NG),wdl (a9 [44] ((d::ds).map f))=(d::ds).flatMap fun x=>wdl (f x)
 |d,[]=>by simp[a9]
 |d,e::ds=>by
  have e1:a9 [44] ((d::e::ds).map f)=f d++44::a9 [44] ((e::ds).map f):=by
   show f d++[44]++a9 [44] ((e::ds).map f)=_;rw[QJ];rfl
  rw[e1,DG,vV f e ds];rfl
theorem words_of(t:Str):(Qi (OC (OC t "(" ",(,") ")" ",),") ",").map cd=wdl (cd t):=by
 have q1:NH "("=⟨#[40]⟩:=by decide +kernel
 have q2:NH ")"=⟨#[41]⟩:=by decide +kernel
 have q3:NH ","=⟨#[44]⟩:=by decide +kernel
 have q4:cd ",(,"=z1:=by decide +kernel
 have q5:cd ",),"=z2:=by decide +kernel
 rw[q1,q2,q3,u5,ju,ju,q4,q5];rfl
def vbI:FI:=(lA (ag jB (fUn (fW ")" ",),") (fUn (fW "(" ",(,") (aa 0))) (fC (.str ","))))
def vbJ:FK:=(kIf 1 (ax (ag eqD (aa 2) (fC (.str "(")))) jP (kIf 1 (bO (ax (ag eqD (aa 2) (fC (.str ")")))) (ax (ag gtD (fCB aY (ae (aa 1) ah)) (fC (.int 1))))) (b6 (l9 4) (fD (fUn dQ (fC (.int 1))) (aa 4))) (kIf 1 (ax (ag eqD (fSl (aa 2) bB (fP (fC (.int 1)))) (fC (.str "'")))) (fD (fUn dQ (fC (.int 1))) (fSl (aa 2) (fP (fC (.int 1))) bB)) (kIf 1 (bO (ax (ag neD (aa 3) (fC (.str "")))) (bO (ax (ag ltD (fCB aY (ae (aa 2) ah)) (fC (.int 25)))) (ax (ag eqG (cg (bU (aa 3)) (ax (ag dX (aa 0) (fC (.str "0123456789")))) (aa 0)) (aB .list ah))))) (fD (fUn dQ (fC (.int 1))) (fCB intD (ae (aa 2) ah))) fw))))
def vbB:FK:=(b6 (j4 3 (fSl (aa 2) (fP (fCB intD (ae (ag eqD (fSl (aa 2) bB (fP (fC (.int 1)))) (fC (.str "-"))) ah))) bB)) (kIf 1 (ax (ag eqD (aa 2) (fC (.str "(")))) jP (kIf 1 (bO (ax (ag eqD (aa 2) (fC (.str ")")))) (ax (ag gtD (fCB aY (ae (aa 1) ah)) (fC (.int 1))))) (b6 (l9 4) (fD (fUn dQ (fC (.int 1))) (aa 4))) (kIf 1 (ax (ag eqD (fSl (aa 2) bB (fP (fC (.int 1)))) (fC (.str "'")))) (fD (fUn dQ (fC (.int 1))) (fSl (aa 2) (fP (fC (.int 1))) bB)) (kIf 1 (bO (ax (ag neD (aa 3) (fC (.str "")))) (bO (ax (ag ltD (fCB aY (ae (aa 2) ah)) (fC (.int 25)))) (ax (ag eqG (cg (bU (aa 3)) (ax (ag dX (aa 0) (fC (.str "0123456789")))) (aa 0)) (aB .list ah))))) (fD (fUn dQ (fC (.int 1))) (fCB intD (ae (aa 2) ah))) fw)))))
theorem Fw:vbB=b6 (j4 3 (fSl (aa 2) (fP (fCB intD (ae (ag eqD (fSl (aa 2) bB (fP (fC (.int 1)))) (fC (.str "-"))) ah))) bB)) vbJ:=rfl
def vbA:FK:=(kIf 1 (bi (bo (aR (fUn (bh .str) (aa 0)))) (ax (ag gtD (fCB aY (ae (aa 0) ah)) (fC (.int 900))))) (kNo (j5 (aB .list ah))) fw)
def vbE:FK:=(kIf 1 (bi (ax (ag gtD (fCB aY (ae (aa 1) ah)) (fC (.int 1)))) (bi (ax (ag neD (fCB aY (ae (ag ixD (aa 1) (fC (.int 0))) ah)) (fC (.int 1)))) (bi (bo (aR (au fF (ae (ag ixD (ag ixD (aa 1) (fC (.int 0))) (fC (.int 0))) ah)))) (ax (ag neD (au (dU 25) (ae (ag ixD (ag ixD (aa 1) (fC (.int 0))) (fC (.int 0))) ah)) (aa 0)))))) (j5 (aB .list ah)) fw)
theorem rK:eG=aT 5 (fT 1 (b6 vbA (b6 (kFor 2 vbI vbB) (b6 vbE gC)))):=rfl
@[simp] theorem J9{o:NG->NG->Option NG}{T:Tp}{y:NG}{xs:List NG}:op2 o T (.loc (.list xs)) (.d y)=mkD T (o (.list xs) y):=rfl
@[simp] theorem Kb{o:NG->NG->Option NG}{T:Tp}{x:NG}{xs:List NG}:op2 o T (.d x) (.loc (.list xs))=mkD T (o x (.list xs)):=rfl
@[simp] theorem Ke{o:NG->Option NG}{T:Tp}{xs:List NG}:op1 o T (.loc (.list xs))=mkD T (o (.list xs)):=rfl
theorem Hw(x:Str)(n:Nat):cd (OZ x none (some (n:Int)))=(cd x).take n:=by
 have e:O0 none (some (n:Int)) 1 x.length=O0 (some 0) (some (n:Int)) 1 x.length:=by
  have hm:max 0 (min (0:Int) (x.length:Int))=0:=by omega
  unfold O0 sliceRange;simp[hm]
 have e2:OZ x none (some (n:Int))=OZ x (some 0) (some (n:Int)):=by
  unfold OZ;rw[e]
 rw[e2,qj (by omega) (by omega)];simp
theorem d0{w l:List Nat}{s:String}(h:cd (NH s)=l):(mk w=NH s)=(w=l):=by
 rw[lit h,eq_iff_iff];exact⟨fun e=>by rw[←bf w,e,bf],fun e=>by rw[e]⟩
theorem lP(w:List Nat){s:String}{c:Nat}(h:cd (NH s)=[c]):(OZ (mk w) none (some 1)=NH s)=(w.head? = some c):=by
 rw[lit h,eq_iff_iff];have q:=Hw (mk w) 1;rw[bf] at q;have q':cd (OZ (mk w) none (some 1))=w.take 1:=q;constructor
 .intro e
  rw[e,bf] at q'
  cases w with
  |nil=>simp at q'
  |cons a r=>simp at q';simp[q']
 .intro e
  refine dC ?_;rw[q',bf]
  cases w with
  |nil=>cases e
  |cons a r=>cases e;rfl
def fgW(w:List Nat):List Nat:=if w.head? = some 45 then w.tail else w
theorem IC(w:List Nat):OZ (mk w) (some (if w.head? = some 45 then 1 else 0)) none=mk (fgW w):=by
 refine dC ?_
 cases w with
 |nil=>
  have:¬([]:List Nat).head? = some 45:=by simp
  rw[if_neg this,iG (by decide) (by simp[bz]),bf,bf,fgW,if_neg this];rfl
 |cons a r=>
  by_cases h:a=45
  .have h':(a::r).head? = some 45:=by simp[h]
   rw[if_pos h',iG (by decide) (by rw[bz];simp;omega),bf,bf,fgW,if_pos h'];rfl
  .have h':¬(a::r).head? = some 45:=by simpa using h
   rw[if_neg h',iG (by decide) (by rw[bz];simp;omega),bf,bf,fgW,if_neg h'];rfl
abbrev ρV(t:NG)(o2 o3 o4:Option D.W):Rho:=[some (.d t),none,o2,o3,o4]
theorem cE{t:NG}{o2 o3 o4:Option D.W}{s:Stk}:onK 1 (ρV t o2 o3 o4) s=[some (.d t),some (.loc (.list (s.reverse.map .list))),o2,o3,o4]:=rfl
section
variable {t:NG}{T:Tp}{o2 o3 o4:Option D.W}{ys:List NG}{s:Stk}
theorem FV{w:List Nat}(hl:w.length<=9000):∃o,(j4 3 (fSl (aa 2) (fP (fCB intD (ae (ag eqD (fSl (aa 2) bB (fP (fC (.int 1)))) (fC (.str "-"))) ah))) bB)) (ρV t (some (.d (.str (mk w)))) o3 o4) (ys::s) T=some ((.nx,ρV t (some (.d (.str (mk w)))) (some (.d (.str (mk (fgW w))))) o4,ys::s),T)/\o=():=by
 refine⟨(),?_,rfl⟩;have a1:=lP w (s:="-") (c:=45) (by decide +kernel);have l1:(mk w).length<=sizeLine:=Of (by rw[bz];exact hl) (by decide:9000<=NS);have f:=IC w
 by_cases h:w.head? = some 45
 .rw[if_pos h] at f
  simp[a1,l1,h,f]
 .rw[if_neg h] at f
  simp[a1,l1,h,f]
theorem il{w:List Nat}(hl:w.length<=9000){r:Option ((Fl×Rho×Stk)×Tp)}(h:vbJ (ρV t (some (.d (.str (mk w)))) (some (.d (.str (mk (fgW w))))) o4) (ys::s) T=r):vbB (ρV t (some (.d (.str (mk w)))) o3 o4) (ys::s) T=r:=by
 obtain⟨_,e,_⟩:=FV (t:=t) (T:=T) (o3:=o3) (o4:=o4) (ys:=ys) (s:=s) hl;rw[Fw];show bnd _ _=_;rw[e];exact h
theorem rh:vbB (ρV t (some (.d (.str (mk [])))) o3 o4) (ys::s) T=some ((.nx,ρV t (some (.d (.str (mk [])))) (some (.d (.str (mk [])))) o4,ys::s),T):=by
 have e1:=d0 (w:=[]) (s:="(") (l:=[40]) (by decide +kernel);have e2:=d0 (w:=[]) (s:=")") (l:=[41]) (by decide +kernel);have e3:=lP [] (s:="'") (c:=39) (by decide +kernel);have e4:=d0 (w:=[]) (s:="") (l:=[]) (by decide +kernel);have l1:(mk []).length<=sizeLine:=bZ (by rw[bz];simp);exact il (by simp) (by simp[vbJ,cE,e1,e2,e3,e4,fgW,l1])
theorem vW(hs:s.length<10000):vbB (ρV t (some (.d (.str (mk [40])))) o3 o4) (ys::s) T=some ((.nx,ρV t (some (.d (.str (mk [40])))) (some (.d (.str (mk [40])))) o4,[]::ys::s),T):=by
 have e1:=d0 (w:=[40]) (s:="(") (l:=[40]) (by decide +kernel)
 have l1:s.length+1<100000:=by omega
 exact il (by simp) (by simp[vbJ,cE,e1,fgW,l1])
theorem uU{zs:List NG}(hy:zs.length<10000):vbB (ρV t (some (.d (.str (mk [41])))) o3 o4) (ys::zs::s) T=some ((.nx,ρV t (some (.d (.str (mk [41])))) (some (.d (.str (mk [41])))) (some (.d (.tuple ys))),(zs++[.tuple ys])::s),T):=by
 have e1:=d0 (w:=[41]) (s:="(") (l:=[40]) (by decide +kernel);have e2:=d0 (w:=[41]) (s:=")") (l:=[41]) (by decide +kernel)
 have l2:zs.length<100000:=by omega
 exact il (by simp) (by simp[vbJ,cE,e1,e2,fgW,l2];intro h;omega)
theorem DL{x:Str}(hx:x.length<=20)(hy:ys.length<1000):vbB (ρV t (some (.d (.str (mk (39::cd x))))) o3 o4) (ys::s) T=some ((.nx,ρV t (some (.d (.str (mk (39::cd x))))) (some (.d (.str (mk (39::cd x))))) o4,(ys++[.str x])::s),T):=by
 have e1:=d0 (w:=39::cd x) (s:="(") (l:=[40]) (by decide +kernel);have e2:=d0 (w:=39::cd x) (s:=")") (l:=[41]) (by decide +kernel);have e3:=lP (39::cd x) (s:="'") (c:=39) (by decide +kernel)
 have hl:(39::cd x).length<=1000:=by rw[Ou,bJ];omega
 have l1:(mk (39::cd x)).length<=sizeLine:=bZ (by rw[bz];omega);have sl:OZ (mk (39::cd x)) (some 1) none=x:=dC (by rw[iG (by decide) (by rw[bz];simp;omega),bf];rfl)
 have fg:fgW (39::cd x)=39::cd x:=by simp[fgW]
 have l2:ys.length<100000:=by omega
 refine il (Of hl (by decide)) ?_;rw[fg];simp[vbJ,cE,e1,e2,e3,l1,sl,l2]
theorem GY(i:Int):∃m,fgW (nc i)=dg m:=by
 cases i with
 |ofNat m=>
  refine⟨m,?_⟩;show fgW (dg m)=_;unfold fgW;rw[if_neg (mT m)]
 |negSucc m=>exact⟨m+1,rfl⟩
theorem GQ{i:Int}(h:single (.int i)=true):VP (mk (nc i))=some i:=by
 have h:=ku h
 cases i with
 |ofNat m=>
  have l:=jI (m:=m) h;have:=TX (x:=mk (dg m)) (by show Qn (cd (mk (dg m)));rw[bf];exact f9 m) (by show cd (mk (dg m))≠[];rw[bf];exact jS m) (by show (cd (mk (dg m))).length<=_;rw[bf];omega);have e:(mk (dg m)).cps.toList=dg m:=bf _;rw[e,ig] at this;exact this
 |negSucc m=>
  have l:=jI (m:=m+1) h;have:=Vl (x:=mk (45::dg (m+1))) (cs:=dg (m+1)) (bf _) (f9 _) (jS _) (by rw[bz];simp;omega);rw[ig] at this;exact this
theorem Hd(m:Nat):has "0123456789" (mk (dg m))=true:=by
 unfold has;rw[Oe];intro c hc;have e:(mk (dg m)).cps.toList=dg m:=bf _;rw[e] at hc;have:=f9 m c hc
 have f:(NH "0123456789").cps.toList=[48,49,50,51,52,53,54,55,56,57]:=by decide +kernel
 rw[f];refine decide_eq_true ?_;simp;omega
theorem Fu{i:Int}(hi:single (.int i)=true)(hy:ys.length<1000):∃o,vbB (ρV t (some (.d (.str (mk (nc i))))) o3 o4) (ys::s) T=some ((.nx,ρV t (some (.d (.str (mk (nc i))))) o o4,(ys++[.int i])::s),T):=by
 have nl:=rH hi;have nz:=jw i
 have hd:∀c,(nc i).head? = some c->c=45\/48<=c/\c<=57:=fun c h=>nz c (by
  cases hn:nc i with
  |nil=>rw[hn] at h;cases h
  | cons a r=>rw[hn] at h;cases h;exact NI)
 have n40:¬nc i=[40]:=fun e=>by have:=nz 40 (by rw[e];exact NI);omega
 have n41:¬nc i=[41]:=fun e=>by have:=nz 41 (by rw[e];exact NI);omega
 have n39:¬(nc i).head? = some 39:=fun e=>by have:=hd 39 e;omega
 have e1:=d0 (w:=nc i) (s:="(") (l:=[40]) (by decide +kernel);have e2:=d0 (w:=nc i) (s:=")") (l:=[41]) (by decide +kernel);have e3:=lP (nc i) (s:="'") (c:=39) (by decide +kernel);obtain⟨m,hm⟩:=GY i;have e4:=d0 (w:=dg m) (s:="") (l:=[]) (by decide +kernel)
 have l0:(mk (dg m)).length<=1000:=by
  rw[bz,←hm];unfold fgW;split
  .rw[QS];omega
  .omega
 have l1:(mk (nc i)).length<=sizeLine:=bZ (by rw[bz];omega)
 have l2:((mk (nc i)).length:Int)<25:=by rw[bz];omega
 have l3:(mk (nc i)).length<=640:=by rw[bz];omega
 have l4:ys.length<100000:=by omega
 have l5:(mk (dg m)).length<=sizeLine:=bZ (by omega)
 have lo:∀c∈(mk (dg m)).cps.toList,c<128:=fun c hc=>by
  have e:(mk (dg m)).cps.toList=dg m:=bf _;rw[e] at hc;have:=f9 m c hc;omega
 obtain⟨l,hc,hl⟩:=kz (y:=NH "0123456789") (x:=mk (dg m)) (T:=[]) (ρ:=[some (.d t),some (.loc (.list ((ys::s).reverse.map .list))),some (.d (.str (mk (nc i)))),some (.d (.str (mk (dg m)))),o4]) (ax (ag dX (aa 0) (fC (.str "0123456789")))) lo fun z=>by simp;rfl
 rw[Hd] at hl;refine⟨some (.d (.str (mk (dg m)))),il (by omega) ?_⟩;rw[hm];simp at hc;simp[vbJ,cE,e1,e2,e3,e4,n40,n41,n39,jS,l1,l2,l3,l4,l5,hc,hl,GQ hi]
theorem g9{d:NG}{r:List NG}{b:FK}{ρ ρ':Rho}{s s':Stk}(h:b (ρ.set 2 (some (.d d))) s T=some ((.nx,ρ',s'),T)):dG 2 b (d::r) ρ s T=dG 2 b r ρ' s' T:=by
 show bnd _ _=_;rw[h];rfl
abbrev wS(l:List (List Nat)):List PyData:=l.map fun w=>.str (mk w)
theorem qz:∀(n:Nat) (d:NG),aG n d=true->∀(rest:List (List Nat)) (ys:List NG) (s:Stk) (o2 o3 o4:Option D.W),ys.length<1000->s.length+n<900 ->
  ∃o2' o3' o4',dG 2 vbB (wS (wdl (cst n d)++rest)) (ρV t o2 o3 o4) (ys::s) T=dG 2 vbB (wS rest) (ρV t o2' o3' o4') ((ys++[d])::s) T
 |n,d,h,rest,ys,s,o2,o3,o4,hy,hs=>by
  rcases bY h with h1|⟨m,ds,rfl,rfl,h8,hb⟩
  .rcases cq h1 with⟨i,rfl⟩|⟨x,rfl⟩
   .rw[iS,vU (vp i)]
    obtain⟨o,e⟩:=Fu (t:=t) (T:=T) (o3:=o3) (o4:=o4) (s:=s) h1 hy;exact⟨_,_,_,g9 e⟩
   .have hx:has TXT x=true:=kr h1
    rw[iR,vU fun c hc=>by
     rcases NR.mp hc with z|z
     .rw[z];decide
     .exact txt_codes hx c z]
    exact⟨_,_,_,g9 (DL (str_len (n:=0) h1) hy)⟩
  .have ih:=qz m
   have parts:∀(es:List NG) (acc:List NG) (rest:List (List Nat)) (o2 o3 o4:Option D.W),(∀x∈es,aG m x=true)->acc.length+es.length<900->∃o2' o3' o4',dG 2 vbB (wS ((es.flatMap fun x=>wdl (cst m x))++rest)) (ρV t o2 o3 o4) (acc::ys::s) T=dG 2 vbB (wS rest) (ρV t o2' o3' o4') ((acc++es)::ys::s) T:=by
    intro es
    induction es with
    |nil=>intro acc rest o2 o3 o4 _ _;exact⟨o2,o3,o4,by simp⟩
    |cons e es ihe=>
     intro acc rest o2 o3 o4 hall hl;simp only[Ou] at hl;obtain⟨p2,p3,p4,q⟩:=ih e (hall e NI) ((es.flatMap fun x=>wdl (cst m x))++rest) acc (ys::s) o2 o3 o4 (by omega) (by simp;omega);obtain⟨r2,r3,r4,q'⟩:=ihe (acc++[e]) rest p2 p3 p4 (fun x hx=>hall x (NJ _ hx)) (by simp;omega);refine⟨r2,r3,r4,?_⟩
     have e1:((e::es).flatMap fun x=>wdl (cst m x))++rest=wdl (cst m e)++((es.flatMap fun x=>wdl (cst m x))++rest):=by simp
     rw[e1,q,q'];simp
   have ec:cst (m+1) (.tuple ds)=40::(a9 [44] (ds.map (cst m))++[41]):=rfl
   have mid:∃o2' o3' o4',dG 2 vbB (wS (wdl (a9 [44] (ds.map (cst m)))++([41]::[]::rest))) (ρV t (some (.d (.str (mk [40])))) (some (.d (.str (mk [40])))) o4) ([]::ys::s) T=dG 2 vbB (wS ([41]::[]::rest)) (ρV t o2' o3' o4') (ds::ys::s) T:=by
    cases ds with
    |nil=>
     have:wdl (a9 [44] (([]:List NG).map (cst m)))=[[]]:=rfl;rw[this];exact⟨_,_,_,g9 rh⟩
    |cons d ds=>
     rw[vV];obtain⟨p2,p3,p4,q⟩:=parts (d::ds) [] ([41]::[]::rest) _ _ o4 hb (by simp at h8 ⊢;omega);exact⟨p2,p3,p4,by rw[q];rfl⟩
   obtain⟨p2,p3,p4,q⟩:=mid;refine⟨some (.d (.str (mk []))),some (.d (.str (mk []))),some (.d (.tuple ds)),?_⟩;rw[ec,DF]
   have e1:([]::[40]::(wdl (a9 [44] (ds.map (cst m)))++[[41],[]]))++rest=[]::[40]::(wdl (a9 [44] (ds.map (cst m)))++([41]::[]::rest)):=by simp
   rw[e1];show dG 2 vbB (.str (mk [])::.str (mk [40])::wS (wdl (a9 [44] (ds.map (cst m)))++([41]::[]::rest))) _ _ _=_;rw[g9 (rh (t:=t) (o3:=o3) (o4:=o4)),g9 (vW (t:=t) (by omega)),q];show dG 2 vbB (.str (mk [41])::.str (mk [])::wS rest) _ _ _=_;rw[g9 (uU (t:=t) (by omega)),g9 (rh (t:=t))]
termination_by n=>n
theorem uL:∀(n:Nat) (d:NG),aG n d=true->((cst n d).length:Int)+1<=22*aH n d
 |n,d,h=>by
  rcases bY h with h1|⟨m,ds,rfl,rfl,h8,hb⟩
  .have:=u9 (n:=n) h1
   have:=mS n d;omega
  .have ih:=uL m
   have h1:∀{ds:List NG},(∀d∈ds,aG m d=true)->(((ds.map fun d=>(cst m d).length).sum+ds.length:Nat):Int)<=22*(ds.map (aH m)).sum:=by
    intro ds hd
    induction ds with
    |nil=>simp
    |cons d r ihr=>
     have a1:=ih d (hd d NI);have a2:=ihr fun x hx=>hd x (NJ _ hx);simp only[Oi,Qe,Ou];omega
   have h1:=h1 hb;have h2:=(mx (cst m) ds).2;show (((40::(a9 [44] (ds.map (cst m))++[41])).length:Nat):Int)+1<=22*(1+(ds.map (aH m)).sum);simp only[Ou,OR,Q5];omega
termination_by n=>n
theorem qx{v:NG}(h:aE v=true):(mk (cst 4 v)).length<=880:=by
 have h1:=uL 4 v (b9 h).1;have h2:=(b9 h).2;rw[bz];omega
theorem xt{v:NG}(h:aE v=true):eG [.d (stt v)] T=some (.list [v],T):=by
 have hl:=qx h;have l1:(mk (cst 4 v)).length<=sizeLine:=bZ (by omega)
 have l2:¬(900:Int)<((mk (cst 4 v)).length:Int):=by omega
 have hA:vbA (ρV (stt v) none none none) [[]] T=some ((.nx,ρV (stt v) none none none,[[]]),T):=by
  simp[vbA,cE,stt,ly,l1,l2]
 have w:=words_of (mk (cst 4 v));rw[bf] at w
 have wS':(Qi (OC (OC (mk (cst 4 v)) "(" ",(,") ")" ",),") ",").map ON=wS (wdl (cst 4 v)):=by
  rw[←w,wS,Pt]
  exact OF fun x _=>by simp[i7]
 have r1:(OC (mk (cst 4 v)) "(" ",(,").length<=3*880:=by
  have q:NH "("=⟨#[40]⟩:=by decide +kernel
  have q4:cd ",(,"=z1:=by decide +kernel
  rw[←bJ,q,ju,q4,bf];have:=sub_len 40 z1 rfl (cst 4 v);rw[bz] at hl;omega
 have r2:(OC (OC (mk (cst 4 v)) "(" ",(,") ")" ",),").length<=9*880:=by
  have q:NH ")"=⟨#[41]⟩:=by decide +kernel
  have q4:cd ",),"=z2:=by decide +kernel
  rw[←bJ,q,ju,q4];have:=sub_len 41 z2 rfl (cd (OC (mk (cst 4 v)) "(" ",(,"));rw[bJ] at this;omega
 have hI:vbI (ρV (stt v) none none none) T=some (wS (wdl (cst 4 v)),T):=by
  have d1:fW "(" ",(," (stt v)=some (.str (OC (mk (cst 4 v)) "(" ",(,")):=if_pos ⟨by omega,by decide,by decide⟩;have d2:fW ")" ",)," (.str (OC (mk (cst 4 v)) "(" ",(,"))=some (.str (OC (OC (mk (cst 4 v)) "(" ",(,") ")" ",),")):=if_pos ⟨by omega,by decide,by decide⟩
  have d3:jB (.str (OC (OC (mk (cst 4 v)) "(" ",(,") ")" ",),")) (.str ",")=some (.list (wS (wdl (cst 4 v)))):=by
   rw[←wS'];exact if_pos ⟨by decide,Of (by omega:_<=16000) (by decide)⟩
  simp[vbI,lA,d1,d2,d3]
 obtain⟨o2,o3,o4,e⟩:=qz (t:=stt v) (T:=T) 4 v (b9 h).1 [] [] [] none none none (by simp) (by simp);rw[PU] at e
 have hE:vbE (ρV (stt v) o2 o3 o4) [[v]] T=some ((.nx,ρV (stt v) o2 o3 o4,[[v]]),T):=by
  have lv:=fun T=>kM (d:=v) T (.of (b9 h).1);have ls:=fun T=>kT T h;simp[vbE,cE,lv,ls,h,stt]
 rw[rK]
 have hF:(kFor 2 vbI vbB) (ρV (stt v) none none none) [[]] T=some ((.nx,ρV (stt v) o2 o3 o4,[[v]]),T):=by
  show bnd _ _=_;rw[hI];show dG 2 vbB (wS (wdl (cst 4 v))) _ _ _=_;rw[e];rfl
 have hO:fT 1 (b6 vbA (b6 (kFor 2 vbI vbB) (b6 vbE gC))) (ρV (stt v) none none none) T=some ((.rt (.list [v]),ρV (stt v) none none none),T):=by
  show (if _ then _ else _)=_;rw[if_pos ⟨rfl,(by decide:1<5),rfl⟩,hJ,hA];show nT _ (bnd _ _)=_;rw[cS,kI,hJ,hF,cS,kI,hJ,hE,cS,kI];rfl
 show cZ (fT 1 _ (ρV (stt v) none none none) T)=_;rw[hO];rfl
end
@[simp] theorem Lo{f:FE}{ρ:Rho}{T:Tp}:lR f ρ T=om T (f (dP ρ) []):=rfl
@[simp] theorem JT:dP []=[]:=rfl
@[simp] theorem JQ{r:Rho}:dP (none::r)=none::dP r:=rfl
@[simp] theorem JS{x:NG}{r:Rho}:dP (some (.d x)::r)=some (.d x)::dP r:=rfl
@[simp] theorem JR{x:NG}{r:Rho}:dP (some (.loc x)::r)=some (.d x)::dP r:=rfl
@[simp] theorem JP{i:Nat}{r:Rho}:dP (some (.tp i)::r)=none::dP r:=rfl
theorem qm{T T':Tp}{x:NG}(h:br x=true):om T (some (.d x,T'))=some (.d x,T):=if_pos h
theorem rj{m:Int}{n:Nat}{e:NG}(h:Ex m n e):br e=true:=by
 induction h with
 |put hv=>simp[br,bW,qw hv]
 |got _ _=>simp[br,bW]
 |row _ _ ih=>simp[br,bW,qf ih]
 |many _ ih=>simp[br,bW,ih]
 |pair _ _ _ iha ihb=>simp[br,bW,iha,ihb]
theorem FB{p:Bool}{g n:Nat}{r:NG}(h:Rg p g n r):br r=true:=by
 induction h with
 |fail _=>simp[br,bW]
 |say he=>simp[br,bW,rj he]
 |ask _ _ he _ ih=>simp[br,bW,rj he,ih]
 |whn he _ _ ih1 ih2=>simp[br,bW,rj he,ih1,ih2]
theorem uY{p:Bool}{g n:Nat}{S:NG}(h:StepOk p g n S):br S=true:=by
 cases h with
 |md hv=>simp[mdT,br,bW,qw hv]
 |fl _=>simp[flT,br,bW]
 |ask _ _ _ _ hr=>simp[asT,br,bW,FB hr]
def stp(r:NG)(gs:List NG):PyData:=match cu 25 [.d r,.d (.list gs)] [] with
 |some (S,_)=>S
 |none=>.none
theorem jA{p:Bool}{n g:Nat}{r:NG}{gs:List NG}(h:Rg p g n r)(hl:gs.length=g)(hv:∀v∈gs,aE v=true)(hn:n<=20) :
  StepOk p g n (stp r gs)/\(∀k T,n<k->cu k [.d r,.d (.list gs)] T=some (stp r gs,T))/\oU n r gs (stp r gs):=by
 obtain⟨S,h1,h2,h3⟩:=CQ n g r h gs hl hv hn
 have e:stp r gs=S:=by
  unfold stp;rw[h2 25 [] (by omega)]
 rw[e];exact⟨h1,h2,h3⟩
def eA:NG->Option (Bool×Str×NG)
 |.tuple [.str w,.str x,r]=>if w=NH "want" then some (false,x,r) else if w=NH "peek" then some (true,x,r) else none
 |_=>none
@[simp] theorem ik{b:Bool}{x:Str}{r:NG}:eA (asT b x r)=some (b,x,r):=by cases b <;> simp[asT,eA]
@[simp] theorem yt{v:NG}:eA (mdT v)=none:=by simp[mdT,eA]
@[simp] theorem yu{x:Str}:eA (flT x)=none:=by simp[flT,eA]
structure St3 where
 gs:List NG
 rd:List NG
 S:NG
abbrev Dc:=List (NG×NG)
def jU:Nat->Dc->St3->St3
 |0,_,s=>s
 |f+1,G,s=>match eA s.S with
  |none=>s
  |some (b,x,r)=>match aJ G x with
   |none=>s
   |some v=>jU f G ⟨s.gs++[v],s.rd++dI b x v,stp r (s.gs++[v])⟩
def run(G:Dc)(s:St3):St3:=jU (12-s.gs.length) G s
structure OkS(p:Bool)(n:Nat)(s:St3):Prop where
 v:∀v∈s.gs,aE v=true
 st:StepOk p s.gs.length n s.S
 rd:s.rd.length<=s.gs.length
 rv:∀d∈s.rd,∃x v,d=.tuple [.str x,v]/\aE v=true
 le:s.gs.length<=12
def GV(G:Dc):Prop:=∀x v,aJ G x=some v->aE v=true
theorem qy{G:Dc}{s:St3}(h:eA s.S=none):run G s=s:=by
 unfold run
 cases 12-s.gs.length with
 |zero=>rfl
 |succ f=>rw[jU,h]
theorem vd{G:Dc}{s:St3}{b:Bool}{x:Str}{r:NG}(h:s.S=asT b x r)(hk:aJ G x=none):run G s=s:=by
 unfold run
 cases 12-s.gs.length with
 |zero=>rfl
 |succ f=>rw[jU,h,ik];simp only[hk]
theorem kP{G:Dc}{s:St3}{b:Bool}{x:Str}{r v:NG}(h:s.S=asT b x r)(hl:s.gs.length<12)(hk:aJ G x=some v):run G s=run G ⟨s.gs++[v],s.rd++dI b x v,stp r (s.gs++[v])⟩:=by
 have e:12-s.gs.length=(12-(s.gs++[v]).length)+1:=by simp;omega
 show jU (12-s.gs.length) G s=_;rw[e,jU,h,ik];simp only[hk];rfl
theorem OkS.next{p:Bool}{n:Nat}{s:St3}{b:Bool}{x:Str}{r v:NG}(h:OkS p n s)(e:s.S=asT b x r)(hn:n<=20)(hv:aE v=true):s.gs.length<12/\OkS p n ⟨s.gs++[v],s.rd++dI b x v,stp r (s.gs++[v])⟩:=by
 have st:=h.st;rw[e] at st;generalize hS:asT b x r=S at st
 cases st with
 |md _=>cases b <;> simp[asT,mdT] at hS
 |fl _=>cases b <;> simp[asT,flT] at hS
 |@ask b' x' r' n' hp hx hg hn' hr=>
  obtain⟨rfl,rfl,rfl⟩:b=b'/\x=x'/\r=r':=by
   cases b <;> cases b' <;> simp[asT] at hS <;> simp[hS]
  have hv':∀u∈s.gs++[v],aE u=true:=fun u hu=>(Ob.mp hu).elim (h.v u) fun z=>by rw[NY.mp z];exact hv
  obtain⟨a1,_,_⟩:=jA hr (by simp) hv' (by omega:n'<=20);refine⟨hg,hv',by have:=a1.up hn';simpa using this,?_,fun d hd=>?_,by simp;omega⟩
  .have:=h.rd
   cases b <;> simp[dI] <;> omega
  .rcases Ob.mp hd with z|z
   .exact h.rv d z
   .cases b with
    |true=>simp[dI] at z
    |false=>simp[dI] at z;exact⟨x,v,z,hv⟩
def oE(G:Dc)(S:NG):Prop:=eA S=none\/∃b x r,S=asT b x r/\aJ G x=none
theorem jk{p:Bool}{g n:Nat}{S:NG}(h:StepOk p g n S):(∃v,S=mdT v/\aE v=true)\/(∃x,S=flT x/\isName (.str x)=true)\/∃b x r,S=asT b x r/\isName (.str x)=true:=by
 cases h with
 |md hv=>exact .inl ⟨_,rfl,hv⟩
 |fl hx=>exact .inr (.inl ⟨_,rfl,hx⟩)
 |ask _ hx _ _ _=>exact .inr (.inr ⟨_,_,_,rfl,hx⟩)
theorem kQ{p:Bool}{n:Nat}{G:Dc}(hG:GV G)(hn:n<=20)(Q:St3->St3->Prop)(h0:∀s,OkS p n s->oE G s.S->Q s s)(h1:∀s b x r v,OkS p n s->s.S=asT b x r->aJ G x=some v->s.gs.length<12->OkS p n ⟨s.gs++[v],s.rd++dI b x v,stp r (s.gs++[v])⟩ ->
  Q ⟨s.gs++[v],s.rd++dI b x v,stp r (s.gs++[v])⟩ (run G ⟨s.gs++[v],s.rd++dI b x v,stp r (s.gs++[v])⟩)->Q s (run G s)):∀(f:Nat) (s:St3),OkS p n s->12-s.gs.length=f->Q s (run G s)
 |f,s,h,hf=>by
  rcases jk h.st with⟨v,e,_⟩|⟨x,e,_⟩|⟨b,x,r,e,_⟩
  .rw[qy (by rw[e];simp)]
   exact h0 s h (.inl (by rw[e];simp))
  .rw[qy (by rw[e];simp)]
   exact h0 s h (.inl (by rw[e];simp))
  .cases hk:aJ G x with
   |none=>
    rw[vd e hk];exact h0 s h (.inr ⟨b,x,r,e,hk⟩)
   |some v=>
    obtain⟨hl,h'⟩:=h.next e hn (hG x v hk);exact h1 s b x r v h e hk hl h' (kQ hG hn Q h0 h1 (f-1) _ h' (by simp;omega))
termination_by f=>f
decreasing_by omega
theorem rB{p:Bool}{n:Nat}{G:Dc}{s:St3}(hG:GV G)(hn:n<=20)(h:OkS p n s):OkS p n (run G s)/\oE G (run G s).S:=kQ hG hn (fun _ s'=>OkS p n s'/\oE G s'.S) (fun s h e=>⟨h,e⟩) (fun s b x r v _ e hk hl _ q=>by rw[kP e hl hk];exact q) _ s h rfl
def s0(r:NG):St3:=⟨[],[],stp r []⟩
theorem jM{p:Bool}{n:Nat}{r:NG}(h:Rg p 0 n r)(hn:n<=20):OkS p n (s0 r):=by
 obtain⟨a1,_,_⟩:=jA (gs:=[]) h rfl (by simp) hn;exact⟨by simp[s0],a1,by simp[s0],by simp[s0],by simp[s0]⟩
def eE:NG->NG
 |.tuple [.str w,v]=>if w=NH "made" then .tuple [.str w,stt v] else .tuple [.str w,v]
 |.tuple [_,.str x,_]=>b8 "wants" (.str x)
 |_=>.none
@[simp] theorem qM{v:NG}:eE (mdT v)=.tuple [.str "made",stt v]:=by simp[mdT,eE]
@[simp] theorem qN{x:Str}:eE (flT x)=flT x:=by simp[flT,eE]
@[simp] theorem qO{b:Bool}{x:Str}{r:NG}:eE (asT b x r)=b8 "wants" (.str x):=rfl
def rdS:NG->NG
 |.tuple [x,v]=>.tuple [x,stt v]
 |d=>d
theorem F0(b:Bool)(x:Str)(v:NG):dI b x (stt v)=(dI b x v).map rdS:=by cases b <;> rfl
theorem EA{b:Bool}{G:Dc}{k:Nat}{x:Str}(T:Tp)(h:aJ G x=none):dF b (.dict G) .none k x T=some (.tuple [.str "wants",.str x],T):=by
 have e:inA (.str x) (.dict G)=some (.bool false):=by show some (SA (aJ G x).isSome)=_;rw[h];rfl
 have nn:isNone TL=true:=rfl;simp[dF,fK,e,nn]
theorem CH{b:Bool}{G:Dc}{k:Nat}{x:Str}{v:NG}(T:Tp)(h:aJ G x=some v):dF b (.dict G) .none k x T=some (.list [v],T):=by
 have e:inA (.str x) (.dict G)=some (.bool true):=by show some (SA (aJ G x).isSome)=_;rw[h];rfl
 have e2:ixA (.dict G) (.str x)=some v:=h;have nn:isNone TL=true:=rfl;simp[dF,fK,e,e2,nn]
def AtL(p:Bool)(n:Nat)(s:St3)(r:NG):Prop:=∃n',n'<=n/\Rg p s.gs.length n' r/\s.S=stp r s.gs
theorem CU{p:Bool}{n:Nat}{G:Dc}(hG:GV G)(hn:n<=20)(T:Tp)(s:St3)(h:OkS p n s):∀r m o o1,AtL p n s r->(13-s.gs.length)*21<m->goL m r (.dict G) .none s.gs (s.rd.map rdS) o o1 T=some (.tuple [.list ((run G s).rd.map rdS),eE (run G s).S],T):=by
 refine kQ hG hn (fun s s'=>∀r m o o1,AtL p n s r->(13-s.gs.length)*21<m->goL m r (.dict G) .none s.gs (s.rd.map rdS) o o1 T=some (.tuple [.list (s'.rd.map rdS),eE s'.S],T)) (fun s h e r m o o1 a hm=>?_) (fun s b x r0 v h e hk hl h' q r m o o1 a hm=>?_) _ s h rfl
 .obtain⟨n',hn',hr,hs⟩:=a
  obtain⟨_,_,a3⟩:=jA hr rfl h.v (by omega);obtain⟨c1,c2,c3⟩:=a3 (.dict G) .none m (s.rd.map rdS) o o1 T (by have:=h.le;omega) (by have:=h.rd;have:=h.le;simp;omega);rw[←hs] at c1 c2 c3
  rcases jk h.st with⟨v,e1,_⟩|⟨x,e1,_⟩|⟨b,x,r,e1,_⟩
  .rw[c1 v e1,e1,qM];rfl
  .rw[c2 x e1,e1,qN];rfl
  .rcases e with e|⟨b',x',r',e2,hk⟩
   .rw[e1] at e;simp at e
   .rw[(c3 b' x' r' e2).1 _ (EA T hk),e2,qO];rfl
 .obtain⟨n',hn',hr,hs⟩:=a
  obtain⟨a1,_,a3⟩:=jA hr rfl h.v (by omega);obtain⟨_,_,c3⟩:=a3 (.dict G) .none m (s.rd.map rdS) o o1 T (by omega) (by have:=h.rd;simp;omega);rw[←hs] at c3 a1;obtain⟨m',o',o2,l,go⟩:=(c3 b x r0 e).2 v (hG x v hk) (CH T hk);rw[go,kP e hl hk];rw[e] at a1;generalize hS:asT b x r0=S at a1
  cases a1 with
  |md _=>cases b <;> simp[asT,mdT] at hS
  |fl _=>cases b <;> simp[asT,flT] at hS
  |@ask b' x' r' n2 hp hx hg hn2 hr2=>
   obtain⟨rfl,rfl,rfl⟩:b=b'/\x=x'/\r0=r':=by
    cases b <;> cases b' <;> simp[asT] at hS <;> simp[hS]
   have:=q r0 m' o' o2 ⟨n2,by omega,by simpa using hr2,rfl⟩ (by simp;omega);rw[Pn,←F0] at this;exact this
theorem yz{p:Bool}{n:Nat}{G:Dc}{r:NG}(T:Tp)(hG:GV G)(hn:n<=20)(h:Rg p 0 n r):fM [.d r,.d (.dict G),.d .none] T=some (.tuple [.list ((run G (s0 r)).rd.map rdS),eE (run G (s0 r)).S],T):=by
 have:=CU hG hn T (s0 r) (jM h hn) r 100000 none none ⟨n,NT _,h,rfl⟩ (by simp[s0]);rw[←this,uD];simp[goL,ρL,s0]
theorem BN{ds:Dc}{x y:Str}{v:NG}:aJ (ds++[(.str x,v)]) y=match aJ ds y with
  |some u=>some u
  |none=>if x=y then some v else none:=by
 induction ds with
 |nil=>rfl
 |cons q r ih=>
  obtain⟨k,d⟩:=q
  cases k with
  |str k=>
   show (if k=y then some d else aJ (r++[(.str x,v)]) y)=_
   by_cases h:k=y
   .rw[if_pos h]
    have:aJ ((ON k,d)::r) y=some d:=if_pos h;rw[this]
   .rw[if_neg h,ih]
    have:aJ ((ON k,d)::r) y=aJ r y:=if_neg h;rw[this]
  |_=>exact ih
theorem BM{ds:Dc}{x y:Str}{v:NG}:aJ (dh ds x v) y=if x=y then (aJ ds x).map (fun _=>v) else aJ ds y:=by
 induction ds with
 |nil=>by_cases h:x=y <;> simp[dh,aJ,h]
 |cons q r ih=>
  obtain⟨k,d⟩:=q
  cases k with
  |str k=>
   by_cases hk:k=x
   .subst hk
    have e1:dh ((ON k,d)::r) k v=(.str k,v)::dh r k v:=if_pos rfl;rw[e1]
    by_cases h:k=y
    .subst h
     simp[aJ]
    .simp[aJ,h,ih]
   .have e1:dh ((ON k,d)::r) x v=(.str k,d)::dh r x v:=if_neg hk
    rw[e1]
    by_cases h:x=y
    .subst h
     simp[aJ,hk,ih]
    .simp[aJ,h] at ih ⊢
     rw[ih]
  |_=>exact ih
theorem gm{ds:Dc}{x y:Str}{v:NG}:aJ (putN ds x v) y=if x=y then some v else aJ ds y:=by
 unfold putN
 cases h:aJ ds x with
 |some u=>
  rw[if_pos (by rfl),BM,h];rfl
 |none=>
  rw[if_neg (by simp),BN]
  by_cases hx:x=y
  .subst hx;rw[h,if_pos rfl]
  .rw[if_neg hx,if_neg hx]
   cases aJ ds y <;> rfl
def Sub(G G':Dc):Prop:=∀x v,aJ G x=some v->aJ G' x=some v
theorem Sub.refl(G:Dc):Sub G G:=fun _ _ h=>h
theorem Sub.trans{A B C:Dc}(h:Sub A B)(g:Sub B C):Sub A C:=fun x v q=>g x v (h x v q)
theorem Sub.new{G:Dc}{x:Str}{v:NG}(h:aJ G x=none):Sub G (putN G x v):=fun y u q=>by
 rw[gm]
 by_cases e:x=y
 .subst e;rw[h] at q;cases q
 .rw[if_neg e];exact q
theorem Ce{G':Dc}{s:St3}{v:NG}(h:s.S=mdT v):run G' s=s:=qy (by rw[h];simp)
structure Bk(p:Bool)(n:Nat)(D0 R0:Dc):Prop where
 dk:∀q∈D0,∃x v,q=(.str x,v)/\aE v=true
 rk:∀q∈R0,∃x r,q=(.str x,r)/\Rg p 0 n r/\aJ R0 x=some r/\aJ D0 x=none
 rnd:(R0.map (·.1)).Nodup
 len:D0.length+R0.length<=900
 n20:n<=20
inductive Der(D0 R0:Dc):Str->NG->Prop where
 |told {x:Str}{v:NG}:aJ D0 x=some v->Der D0 R0 x v
 |made {x:Str}{v r:NG}{G:Dc}:aJ R0 x=some r->GV G->(∀y u,aJ G y=some u->Der D0 R0 y u)->(run G (s0 r)).S=mdT v->Der D0 R0 x v
theorem gn{ds:Dc}{x:Str}{v:NG}(h:aJ ds x=some v):(.str x,v)∈ds:=by
 induction ds with
 |nil=>cases h
 |cons q r ih=>
  obtain⟨k,d⟩:=q
  cases k with
  |str k=>
   by_cases hk:k=x
   .have e:aJ ((ON k,d)::r) x=some d:=if_pos hk
    rw[e] at h;cases h;rw[hk];exact NI
   .have e:aJ ((ON k,d)::r) x=aJ r x:=if_neg hk
    rw[e] at h;exact NJ _ (ih h)
  |_=>exact NJ _ (ih h)
section
variable {p:Bool}{n:Nat}{D0 R0:Dc}
theorem Bk.rg(b:Bk p n D0 R0){x:Str}{r:NG}(h:aJ R0 x=some r):Rg p 0 n r/\aJ D0 x=none:=by
 obtain⟨x',r',e,h1,h2,h3⟩:=b.rk _ (gn h);cases e;exact⟨h1,h3⟩
theorem Bk.gv(b:Bk p n D0 R0):GV D0:=fun x v h=>by
 obtain⟨x',v',e,h1⟩:=b.dk _ (gn h);cases e;exact h1
theorem Der.val(b:Bk p n D0 R0){x:Str}{v:NG}(h:Der D0 R0 x v):aE v=true:=by
 cases h with
 |told h=>exact b.gv _ _ h
 |made hr hG _ e=>
  obtain⟨h1,_⟩:=rB hG b.n20 (jM (b.rg hr).1 b.n20)
  rcases jk h1.st with⟨v',e1,hv⟩|⟨x,e1,_⟩|⟨b,x,r,e1,_⟩
  .rw[e1] at e
   have:v'=v:=by simpa[mdT] using e
   rw[←this];exact hv
  .rw[e1] at e;exact absurd e.symm fZ
  .rw[e1] at e;cases b <;> simp[asT,mdT] at e
def Snd(D0 R0 G:Dc):Prop:=∀x v,aJ G x=some v->Der D0 R0 x v
def ClsAt(R0 G:Dc)(x:Str):Prop:=∀r v,aJ R0 x=some r->(run G (s0 r)).S=mdT v->aJ G x=some v
theorem Snd.gv(b:Bk p n D0 R0){G:Dc}(h:Snd D0 R0 G):GV G:=fun x v q=>(h x v q).val b
def mu(R0 G:Dc):Nat:=R0.countP fun q=>match q.1 with
 |.str x=>(aJ G x).isNone
 |_=>false
theorem countP_le{α:Type}{f g:α->Bool}:∀{l:List α},(∀a∈l,g a=true->f a=true)->l.countP g<=l.countP f
 |[],_=>NT _
 |a::r,h=>by
  have ih:=countP_le (l:=r) fun x hx=>h x (NJ _ hx);rw[Ry,Ry];have h1:=h a NI
  cases hg:g a with
  |true=>rw[h1 hg];simp;exact ih
  |false=>simp;omega
theorem uM{α:Type}{f g:α->Bool}{a:α}:∀{l:List α},(∀a∈l,g a=true->f a=true)->a∈l->f a=true->g a=false->l.countP g<l.countP f
 |[],_,h,_,_=>by cases h
 |b::r,h,hm,hf,hg=>by
  have hr:∀x∈r,g x=true->f x=true:=fun x hx=>h x (NJ _ hx);rw[Ry,Ry]
  rcases NR.mp hm with e|e
  .subst e
   have:=countP_le hr;rw[hf,hg];simp;omega
  .have ih:=uM hr e hf hg
   have h1:=h b NI
   cases hb:g b with
   |true=>rw[h1 hb];simp;exact ih
   |false=>simp;omega
theorem Il{G G':Dc}(h:Sub G G'):mu R0 G'<=mu R0 G:=countP_le fun q _ hq=>by
 split at hq
 .rename_i x e
  cases hk:aJ G x with
  |none=>rfl
  |some v=>rw[h x v hk] at hq;cases hq
 .cases hq
theorem Ik{G:Dc}{x:Str}{r v:NG}(hr:aJ R0 x=some r)(h:aJ G x=none):mu R0 (putN G x v)+1<=mu R0 G:=by
 have hs:=Sub.new (v:=v) h;refine uM (a:=(.str x,r)) (fun q _ hq=>?_) (gn hr) (by simp[h]) (by simp[gm]);split at hq
 .rename_i x e
  cases hk:aJ G x with
  |none=>rfl
  |some v=>rw[hs x v hk] at hq;cases hq
 .cases hq
theorem ql{G:Dc}{x:Str}{v:NG}(h:aJ G x=none):(putN G x v).length=G.length+1:=by
 unfold putN;rw[h,if_neg (by simp)];simp
end
theorem CM:ko=aT 5 (ao (nU 1 (ag ixD (aa 0) (fC (.int 0)))) (ao (aO 2 (fC (.bool true))) (ao (bI (aR (aa 2)) mL 100000) (av (aa 1))))):=rfl
theorem kW{i:Nat}{b:FS}{d:NG}{r:List NG}{ρ ρ':Rho}{T:Tp}(h:b (ρ.set i (some (.d d))) T=some ((.nx,ρ'),T)):forL i b (d::r) ρ T=forL i b r ρ' T:=by
 rw[BY,h];rfl
@[simp] theorem K9{i:Nat}{fk fv:FE}{ρ:Rho}{T:Tp}:iq i fk fv ρ T=bnd (fv ρ T) fun w T1=>n9 i fk ρ w T1 ρ[i]?:=rfl
@[simp] theorem J7{i:Nat}{fk:FE}{ρ:Rho}{w:D.W}{T:Tp}{ds:Dc}:n9 i fk ρ w T (some (some (.loc (.dict ds))))=bnd (fk ρ T) (og i ρ ds w):=rfl
@[simp] theorem J8{i:Nat}{ρ:Rho}{T:Tp}{ds:Dc}{x:NG}{s:Str}:og i ρ ds (.d x) (.d (.str s)) T=if ds.length<=1000 then some ((.nx,ρ.set i (some (.loc (.dict (putN ds s x))))),T) else none:=rfl
@[simp] theorem J6{i:Nat}{f:FE}{ρ:Rho}{T:Tp}:nU i f ρ T=bnd (f ρ T) fun w T1=>nK i ρ (mf (view T1 w)) T1:=rfl
@[simp] theorem LO{ds:Dc}:mf (some (.dict ds))=some ds:=rfl
@[simp] theorem JN{i:Nat}{ρ:Rho}{ds:Dc}{T:Tp}:nK i ρ (some ds) T=some ((.nx,ρ.set i (some (.loc (.dict ds)))),T):=rfl
@[simp] theorem KY{i:Nat}{ρ:Rho}{T:Tp}:jR i ρ T=some ((.nx,ρ.set i (some (.loc (.dict [])))),T):=rfl
@[simp] theorem JO{s:Str}{ds:Dc}:li (.str s) (.dict ds)=some (.bool (!(aJ ds s).isSome)):=rfl
@[simp] theorem LD{s:Str}{ds:Dc}:inA (.str s) (.dict ds)=some (.bool (aJ ds s).isSome):=rfl
@[simp] theorem Ly{s:Str}{ds:Dc}:ixA (.dict ds) (.str s)=aJ ds s:=rfl
@[simp] theorem Kc{o:NG->NG->Option NG}{T:Tp}{x:NG}{ds:Dc}:op2 o T (.d x) (.loc (.dict ds))=mkD T (o x (.dict ds)):=rfl
@[simp] theorem Ka{o:NG->NG->Option NG}{T:Tp}{y:NG}{ds:Dc}:op2 o T (.loc (.dict ds)) (.d y)=mkD T (o (.dict ds) y):=rfl
@[simp] theorem Kf{o:NG->Option NG}{T:Tp}{ds:Dc}:op1 o T (.loc (.dict ds))=mkD T (o (.dict ds)):=rfl
@[simp] theorem ev_viewLD{T:Tp}{ds:Dc}:view T (.loc (.dict ds))=some (.dict ds):=rfl
def bkD(D0 R0:Dc):PyData:=.tuple [.dict D0,.dict R0]
def ρG(D0 R0 G:Dc)(b:Bool)(on o4:Option D.W):Rho:=[some (.d (bkD D0 R0)),some (.loc (.dict G)),some (.d (.bool b)),on,o4]
@[simp] theorem JH{T:Tp}{ds:Dc}{r:List D.W}:views T (.loc (.dict ds)::r)=lW (.dict ds) (views T r):=rfl
section
variable {p:Bool}{n:Nat}{D0 R0:Dc}
theorem DN{p:Bool}{g n:Nat}{S:NG}(h:StepOk p g n S):br (eE S)=true:=by
 rcases jk h with⟨v,rfl,hv⟩|⟨x,rfl,_⟩|⟨b,x,r,rfl,_⟩
 .rw[qM];simp[stt,br,bW]
 .rw[qN];simp[flT,br,bW]
 .rw[qO];simp[b8,br,bW]
theorem GU(B:Bk p n D0 R0){G:Dc}{b:Bool}{x:Str}{r:NG}{o4:Option D.W}{T:Tp}(hs:Snd D0 R0 G)(hr:aJ R0 x=some r)(hl:G.length<=1000) :
  (∃v o,(run G (s0 r)).S=mdT v/\fQ (ρG D0 R0 G b (some (.d (.str x))) o4) T=some ((.nx,ρG D0 R0 (putN G x v) true (some (.d (.str x))) o),T)) \/
  ((∀v,(run G (s0 r)).S≠mdT v)/\∃o,fQ (ρG D0 R0 G b (some (.d (.str x))) o4) T=some ((.nx,ρG D0 R0 G b (some (.d (.str x))) o),T)):=by
 have hG:=hs.gv B;have lr:=yz [] hG B.n20 (B.rg hr).1;obtain⟨ok,_⟩:=rB hG B.n20 (jM (B.rg hr).1 B.n20);have te:=DN ok.st
 rcases jk ok.st with⟨v,e,hv⟩|⟨y,e,_⟩|⟨b',y,r',e,_⟩
 .refine .inl ⟨v,some (.d (.tuple [.str "made",stt v])),e,?_⟩
  rw[e] at lr te;have lk:=qm (T:=T) (T':=[]) te;have lb:=fun T=>xt (T:=T) hv;simp at lr lk;simp[fQ,ρG,bkD,hr,lr,lk,lb,hl]
 .refine .inr ⟨fun v q=>fZ (q.symm.trans e),some (.d (flT y)),?_⟩
  rw[e] at lr te;have lk:=qm (T:=T) (T':=[]) te;simp at lr lk;simp[fQ,ρG,bkD,hr,lr,lk];simp[flT]
 .refine .inr ⟨fun v q=>by rw[e] at q;cases b' <;> simp[asT,mdT] at q,some (.d (b8 "wants" (.str y))),?_⟩
  rw[e] at lr te;have lk:=qm (T:=T) (T':=[]) te;simp at lr lk;simp[fQ,ρG,bkD,hr,lr,lk];simp[b8]
def lX(R0:Dc)(k:NG):Prop:=∃x r,k=.str x/\aJ R0 x=some r
theorem Snd.put(B:Bk p n D0 R0){G:Dc}{x:Str}{r v:NG}(hs:Snd D0 R0 G)(hr:aJ R0 x=some r)(e:(run G (s0 r)).S=mdT v):Snd D0 R0 (putN G x v):=fun y u q=>by
 rw[gm] at q
 by_cases h:x=y
 .subst h
  rw[if_pos rfl] at q;cases q;exact .made hr (hs.gv B) hs e
 .rw[if_neg h] at q
  exact hs y u q
theorem Dg(B:Bk p n D0 R0){x:Str}{v:NG}(h:Der D0 R0 x v):∀u,Der D0 R0 x u->v=u:=by
 induction h with
 |told h=>
  intro u hu
  cases hu with
  |told h'=>rw[h] at h';cases h';rfl
  |made hr _ _ _=>rw[(B.rg hr).2] at h;cases h
 |made hr hG hall e ih=>
  rename_i x v r G1;intro u hu
  cases hu with
  |told h'=>rw[(B.rg hr).2] at h';cases h'
  |made hr' hG' hall' e'=>
   rename_i r' G2;rw[hr] at hr';cases hr'
   have key:∀(s:St3),OkS p n s->∀v u,(run G1 s).S=mdT v->(run G2 s).S=mdT u->v=u:=fun s hs=>by
    refine kQ hG B.n20 (fun s s'=>∀v u,s'.S=mdT v->(run G2 s).S=mdT u->v=u) (fun s h st v u e1 e2=>?_) (fun s b x r w h e hk hl h' q v u e1 e2=>?_) _ s hs rfl
    .rw[Ce e1,e1] at e2
     simpa[mdT] using e2
    .rw[kP e hl hk] at e1
     cases hk2:aJ G2 x with
     |none=>rw[vd e hk2,e] at e2;cases b <;> simp[asT,mdT] at e2
     |some w'=>
      have:w=w':=ih x w hk w' (hall' x w' hk2);subst this;rw[kP e hl hk2] at e2;exact q v u e1 e2
   exact key _ (jM (B.rg hr).1 B.n20) v u e e'
theorem Bb(B:Bk p n D0 R0){G:Dc}{x:Str}{r v u:NG}(hs:Snd D0 R0 G)(hr:aJ R0 x=some r)(h:aJ G x=some v)(e:(run G (s0 r)).S=mdT u):v=u:=Dg B (hs x v h) u (.made hr (hs.gv B) hs e)
theorem rL(B:Bk p n D0 R0){T:Tp}:∀(ks:List NG) (G:Dc) (b:Bool) (on o4:Option D.W),(∀k∈ks,lX R0 k)->ks.Nodup->(∀x,.str x∈ks->aJ G x=none)->Snd D0 R0 G->G.length+mu R0 G<=900 ->
  ∃G' b' on' o4',forL 3 fQ ks (ρG D0 R0 G b on o4) T=some ((.nx,ρG D0 R0 G' b' on' o4'),T)/\Snd D0 R0 G'/\Sub G G'/\G'.length+mu R0 G'<=900/\(b'=false->b=false/\G'=G/\∀x,.str x∈ks->ClsAt R0 G x)/\(b'=true->b=true\/mu R0 G' < mu R0 G)
 |[],G,b,on,o4,_,_,_,hs,hl=>⟨G,b,on,o4,by simp[forL],hs,.refl G,hl,fun e=>⟨e,rfl,fun x h=>by cases h⟩,fun e=>.inl e⟩
 |k::ks,G,b,on,o4,hk,nd,hno,hs,hl=>by
  obtain⟨x,r,rfl,hr⟩:=hk _ NI;obtain⟨nd1,nd2⟩:=OE.mp nd;have hk':∀k∈ks,lX R0 k:=fun k h=>hk k (NJ _ h);have st:∀{ρ':Rho},fQ (ρG D0 R0 G b (some (.d (.str x))) o4) T=some ((.nx,ρ'),T)->forL 3 fQ (.str x::ks) (ρG D0 R0 G b on o4) T=forL 3 fQ ks ρ' T:=fun h=>kW h;have h:aJ G x=none:=hno x NI
  rcases GU B (b:=b) (o4:=o4) (T:=T) hs hr (by omega) with⟨v,o,e,go⟩|⟨ne,o,go⟩
  .rw[st go]
   have m1:=Ik (v:=v) hr h;have l1:=ql (v:=v) h
   obtain⟨G',b',on',o4',e1,e2,e3,e4,e5,e6⟩:=rL B ks (putN G x v) true (some (.d (.str x))) o hk' nd2 (fun y hy=>by
    rw[gm,if_neg (fun z=>nd1 (by rw[z];exact hy))]
    exact hno y (NJ _ hy)) (hs.put B hr e) (by omega)
   refine⟨G',b',on',o4',e1,e2,(Sub.new h).trans e3,e4,fun q=>?_,fun q=>?_⟩
   .obtain⟨q1,_⟩:=e5 q
    cases q1
   .have:=Il (R0:=R0) e3
    exact .inr (by omega)
  .rw[st go]
   obtain⟨G',b',on',o4',e1,e2,e3,e4,e5,e6⟩:=rL B ks G b (some (.d (.str x))) o hk' nd2 (fun y hy=>hno y (NJ _ hy)) hs hl;refine⟨G',b',on',o4',e1,e2,e3,e4,fun q=>?_,e6⟩;obtain⟨q1,q2,q3⟩:=e5 q;refine⟨q1,q2,fun y hy=>?_⟩
   rcases NR.mp hy with z|z
   .cases z
    intro r' v' hr' e;rw[hr] at hr';cases hr';exact absurd e (ne v')
   .exact q3 y z
theorem qI(B:Bk p n D0 R0):∀k∈R0.map (·.1),lX R0 k:=fun k hk=>by
 obtain⟨q,hq,rfl⟩:=OH.mp hk;obtain⟨x,r,rfl,_,h,_⟩:=B.rk q hq;exact⟨x,r,rfl,h⟩
theorem GF{x:Str}{r:NG}(h:aJ R0 x=some r):ON x∈R0.map (·.1):=OH.mpr ⟨_,gn h,rfl⟩
theorem GC(G:Dc):mu R0 G<=R0.length:=List.countP_le_length
def jZ(G:Dc):NG->Bool
 |.str x=>!(aJ G x).isSome
 |_=>false
theorem EO(B:Bk p n D0 R0){G:Dc}{b:Bool}{on o4:Option D.W}{T:Tp}:ck (ax (ag li (aa 0) (aa 2))) (aa 0) (ρG D0 R0 G b on o4) (R0.map (·.1)) T=some ((R0.map (·.1)).filter (jZ G),T):=kb fun d hd=>by
 obtain⟨x,r,rfl,_⟩:=qI B d hd;simp[ρG,jZ]
theorem vz(B:Bk p n D0 R0){T:Tp}:∀(m:Nat) (G:Dc) (on o4:Option D.W),mu R0 G+1<m->Snd D0 R0 G->G.length+mu R0 G<=900 ->
  ∃G' on' o4',bI (aR (aa 2)) mL m (ρG D0 R0 G true on o4) T=some ((.nx,ρG D0 R0 G' false on' o4'),T)/\Snd D0 R0 G'/\Sub G G'/\∀x,ClsAt R0 G' x
 |0,G,on,o4,h,_,_=>by omega
 |m+1,G,on,o4,h,hs,hl=>by
  have nd:((R0.map (·.1)).filter (jZ G)).Nodup:=WL _ B.rnd
  obtain⟨G',b',on',o4',e1,e2,e3,e4,e5,e6⟩:=rL B (T:=T) ((R0.map (·.1)).filter (jZ G)) G false on o4 (fun k hk=>qI B k (P9.mp hk).1) nd (fun x hx=>by
   have:=(P9.mp hx).2
   simpa[jZ] using this) hs hl
  have hc:∀b G on o4,aR (aa 2) (ρG D0 R0 G b on o4) T=some (b,T):=fun b G on o4=>by simp[ρG]
  have cp:=EO B (G:=G) (b:=false) (on:=on) (o4:=o4) (T:=T)
  have hb:mL (ρG D0 R0 G true on o4) T=some ((.nx,ρG D0 R0 G' b' on' o4'),T):=by
   simp[ρG] at e1 cp;simp[mL,ρG,bkD] at e1 cp ⊢;simp[cp,e1]
  rw[xB (hc _ _ _ _) hb]
  cases b' with
  |false=>
   obtain⟨_,q2,q3⟩:=e5 rfl;obtain⟨m,rfl⟩:=bH m (by omega);rw[DC (hc _ _ _ _)];refine⟨G',on',o4',rfl,e2,e3,fun x r v hr e=>?_⟩;rw[q2] at e ⊢
   cases hk:aJ G x with
   |none=>
    have:=q3 x (P9.mpr ⟨GF hr,by simp[jZ,hk]⟩) r v hr e;rw[hk] at this;cases this
   |some u=>rw[Bb B hs hr hk e]
  |true=>
   have hm:=(e6 rfl).resolve_left (by simp);obtain⟨G2,on2,o42,f1,f2,f3,f4⟩:=vz B m G' on' o4' (by omega) e2 e4;exact⟨G2,on2,o42,f1,f2,e3.trans f3,f4⟩
theorem Jk(B:Bk p n D0 R0):Snd D0 R0 D0:=fun _ _ h=>.told h
theorem Fm(B:Bk p n D0 R0)(T:Tp):∃G,ko [.d (bkD D0 R0)] T=some (.dict G,T)/\Snd D0 R0 G/\Sub D0 G/\∀x,ClsAt R0 G x:=by
 have hl:=B.len;have hm:=GC (R0:=R0) D0;obtain⟨G,on,o4,e1,e2,e3,e4⟩:=vz B (T:=T) 100000 D0 none none (by omega) (Jk B) (by omega);refine⟨G,?_,e2,e3,e4⟩;rw[CM];simp[ρG] at e1;simp[bkD] at e1 ⊢;rw[e1];simp
end
def nmL(ps:List Str):List PyData:=ps.map ON
def Iv(w:String)(ps:List Str):PyData:=.tuple [.str (NH w),.tuple (nmL ps)]
def IE(ps:List Str)(w:Str):PyData:=.tuple [.str "fails",.tuple (nmL ps),.str w]
def ln(x:Str)(s:St3):PyData:=.tuple [.str x,.tuple (s.rd.map rdS),eE s.S]
def stG(R0 G:Dc)(x:Str):St3:=run G (s0 ((aJ R0 x).getD .none))
def lnG(R0 G:Dc)(x:Str):PyData:=ln x (stG R0 G x)
section
variable {p:Bool}{n:Nat}{D0 R0:Dc}
theorem rq{G:Dc}{x:Str}{r:NG}(h:aJ R0 x=some r):stG R0 G x=run G (s0 r):=by
 unfold stG;rw[h];rfl
theorem Fk(B:Bk p n D0 R0){G:Dc}(hG:GV G){x:Str}{r:NG}(hr:aJ R0 x=some r)(T:Tp):km [.d (bkD D0 R0),.d (.dict G),.d (.str x)] T=some (lnG R0 G x,T):=by
 have e:=yz T hG B.n20 (B.rg hr).1;rw[←rq (G:=G) hr] at e;have i1:ixD (bkD D0 R0) (.int 1)=some (.dict R0):=rfl;simp[km,i1,hr,e,iA,D.dO,lnG,ln]
inductive ResR:NG->Prop where
 |two {w:String}{ps:List Str}:ps.length<=1000->ResR (Iv w ps)
 |fail {ps:List Str}{w:Str}:ps.length<=1000->ResR (IE ps w)
theorem Bu{G:Dc}(hG:GV G)(hn:n<=20){s:St3}(h:OkS p n s):∀d∈(run G s).rd,d∈s.rd\/∃z v,d=.tuple [.str z,v]/\aJ G z=some v:=
 kQ hG hn (fun s s'=>∀d∈s'.rd,d∈s.rd\/∃z v,d=.tuple [.str z,v]/\aJ G z=some v) (fun s _ _ d hd=>.inl hd) (fun s b x r v _ e hk hl _ q d hd=>by
  rw[kP e hl hk] at hd
  rcases q d hd with z|z
  .rcases Ob.mp z with z|z
   .exact .inl z
   .cases b with
    |true=>cases z
    |false=>exact .inr ⟨x,v,NY.mp z,hk⟩
  .exact .inr z) _ s h rfl
end
def bL(A T:Tp):Prop:=∃(ds:List NG) (i:Int),T=A++[[.list ds,.int i]]/\0<=i/\0<ds.length/\ds.length<=1000/\∀d∈ds,∃c:Int,d=.int c
theorem ET{o:NG->NG->Option NG}{A:Tp}{zs xs:List NG}{y:NG}:op2 o (A++[.list zs::xs]) (.tp A.length) (.d y)=mkD (A++[.list zs::xs]) (o (.list (.list zs::xs)) y):=by
 have h:view (A++[.list zs::xs]) (.tp A.length)=some (.list (.list zs::xs)):=by simp[view,jb,isO]
 unfold op2;rw[h];rfl
theorem Bs{α:Type}(A:List α)(a b:α):(A++[a]).set A.length b=A++[b]:=by
 induction A with
 |nil=>rfl
 |cons x r ih=>exact congrArg (x::·) ih
theorem Cd{A:Tp}{a b:List NG}:(A++[a]).set A.length b=A++[b]:=Bs A a b
theorem Iy:ixN 2 1=some 1:=rfl
theorem gI{α:Type}{a b:α}:atI [a,b] 0=some a:=rfl
theorem gH{α:Type}{a b:α}:atI [a,b] 1=some b:=rfl
theorem bR{A T:Tp}{m:Int}(t:bL A T)(h1:0<m):∃r T',bv [.tp A.length,.d (.int m)] T=some (.int r,T')/\bL A T'/\0<=r/\r<m:=by
 obtain⟨ds,i,rfl,hi,hl,hl2,hd⟩:=t
 have hp:(0:Int)<(ds.length:Int):=by omega
 obtain⟨d,e1,hm⟩:=dZ (xs:=ds) (i:=i % (ds.length:Int)) (RN _ (by omega)) (Ra _ hp);obtain⟨c,rfl⟩:=hd d hm;refine⟨c % m,A++[[.list ds,.int (i+1)]],?_,⟨ds,i+1,rfl,by omega,hl,hl2,hd⟩,RN _ (by omega),Ra _ h1⟩
 have e2:i+1-1=i:=by omega
 simp[bv,sH,ET,gI,gH,Iy,Cd,e2,hp,e1,h1,hl]
theorem fR{i j:Int}:gF (.int i) (.int j)=if 0<j/\j<18446744073709551616 then some (.int (i / j)) else none:=rfl
def dwB:FS:=(ao (aO 4 (ag cI (ag aQ (ag aQ (ag cm (aa 4) (aa 4)) (ag cm (fC (.int 48271)) (aa 4))) (ag cm (fC (.int 7)) (aa 5))) (fC (.int 2147483647)))) (fIf (ax (ag gtD (aa 3) (fC (.int 0)))) (ao (da 2 (ag cI (aa 3) (fC (.int 720720)))) (aO 3 (ag gF (aa 3) (fC (.int 720720))))) (da 2 (ag gF (ag cI (ag aQ (ag cm (aa 4) (fC (.int 69621))) (ag cm (fC (.int 13)) (aa 5))) (fC (.int 2147483629))) (fC (.int 3))))))
theorem yU:gc=aT 6 (ao (dq 2 ah) (ao (aO 3 (fC (.int 0))) (ao (fIf (ax (ag geD (aa 0) (ag iy (fC (.int 10)) (fC (.int 18))))) (aO 3 (aa 0)) aF) (ao (aO 4 (ag aQ (ag cI (aa 0) (fC (.int 2147483629))) (fC (.int 48271)))) (ao (c9 5 (fA (aa 1)) dwB) (av (aa 2))))))):=rfl
def ρD(c N:Int)(fs:List NG)(nu mi:Int)(o:Option D.W):Rho:=[some (.d (.int c)),some (.d (.int N)),some (.loc (.list fs)),some (.d (.int nu)),some (.d (.int mi)),o]
theorem kL:1000<sizeLine:=by decide
theorem yj{c N:Int}{T:Tp}:∀(ks:List Int) (fs:List NG) (nu mi:Int) (o:Option D.W),-18446744073709551616<mi->mi<18446744073709551616->fs.length+ks.length<=1000->(∀d∈fs,∃c:Int,d=.int c) ->
  ∃fs' nu' mi' o',forL 5 dwB (ks.map Qa) (ρD c N fs nu mi o) T=some ((.nx,ρD c N fs' nu' mi' o'),T)/\fs'.length=fs.length+ks.length/\∀d∈fs',∃c:Int,d=.int c
 |[],fs,nu,mi,o,_,_,_,hf=>⟨fs,nu,mi,o,rfl,by simp,hf⟩
 |k::ks,fs,nu,mi,o,h1,h2,hl,hf=>by
  have hl':fs.length+(ks.length+1)<=1000:=hl;have bl:=kL
  have hl1:fs.length<sizeLine:=by omega
  have m2:0<=(mi*mi+48271*mi+7*k) % 2147483647/\(mi*mi+48271*mi+7*k) % 2147483647<2147483647:=⟨RN _ (by decide),Ra _ (by decide)⟩;generalize hmi:(mi*mi+48271*mi+7*k) % 2147483647=mi' at m2
  have ap:∀(x:Int),∀d∈fs++[Qa x],∃c:Int,d=.int c:=fun x d hd=>by
   rcases Ob.mp hd with z|z
   .exact hf d z
   .exact⟨x,NY.mp z⟩
  have hst:∃x nu',dwB (List.set (ρD c N fs nu mi o) 5 (some (.d (.int k)))) T=some ((.nx,ρD c N (fs++[.int x]) nu' mi' (some (.d (.int k)))),T):=by
   by_cases hn:0<nu
   .refine⟨nu % 720720,nu / 720720,?_⟩
    simp[dwB,ρD,fR,h1,h2,hn,hl1,hmi]
   .refine⟨(mi' * 69621+13*k) % 2147483629 / 3,nu,?_⟩
    simp[dwB,ρD,fR,h1,h2,hn,hl1,hmi]
  obtain⟨x,nu',st⟩:=hst;obtain⟨fs',nu2,mi2,o2,e1,e2,e3⟩:=yj (c:=c) (N:=N) (T:=T) ks (fs++[.int x]) nu' mi' (some (.d (.int k))) (by omega) (by omega) (by simp;omega) (ap x);refine⟨fs',nu2,mi2,o2,?_,by rw[e2];simp;omega,e3⟩;rw[Oi,kW st];exact e1
theorem BD(n:Nat):cM 0 n=((Pg n).map fun(i:Nat)=>(i:Int)).map PyData.int:=by
 unfold cM;rw[Pt]
 exact OF fun i _=>by simp
theorem rf{c N:Int}{T:Tp}(h0:0<N)(h1:N<=1000):∃ds,gc [.d (.int c),.d (.int N)] T=some (.list ds,T)/\ds.length=N.toNat/\∀d∈ds,∃c:Int,d=.int c:=by
 have hr:=kA (j:=N) (by omega) h1;have m0:0<=c % 2147483629/\c % 2147483629<2147483629:=⟨RN _ (by decide),Ra _ (by decide)⟩
 have key:∀nu,∃ds o,forL 5 dwB (cM 0 N.toNat) (ρD c N [] nu (c % 2147483629+48271) none) T=some ((.nx,o),T)/\(∃a b d e,o=ρD c N ds a b d/\e=())/\ds.length=N.toNat/\∀d∈ds,∃c:Int,d=.int c:=fun nu=>by
  obtain⟨fs',nu2,mi2,o2,e1,e2,e3⟩:=yj (c:=c) (N:=N) (T:=T) ((Pg N.toNat).map fun(i:Nat)=>(i:Int)) [] nu (c % 2147483629+48271) none (by omega) (by omega) (by simp;omega) (by simp);rw[←BD] at e1;exact⟨fs',_,e1,⟨_,_,_,(),rfl,rfl⟩,by rw[e2];simp,e3⟩
 by_cases hc:1000000000000000000<=c
 .obtain⟨ds,o,e1,⟨a,b,d,e,rfl,_⟩,e3,e4⟩:=key c
  refine⟨ds,?_,e3,e4⟩;rw[yU];simp[ρD] at e1;simp[hc,hr,e1]
 .obtain⟨ds,o,e1,⟨a,b,d,e,rfl,_⟩,e3,e4⟩:=key 0
  refine⟨ds,?_,e3,e4⟩;rw[yU];simp[ρD] at e1;simp[hc,hr,e1]
theorem rl{A:Tp}{ds:List NG}(h0:0<ds.length)(h1:ds.length<=1000)(h:∀d∈ds,∃c:Int,d=.int c):bL A (A++[[.list ds,.int 0]]):=⟨ds,0,rfl,by decide,h0,h1,h⟩
theorem nX{ns:List Int}{k:Int}{T:Tp}(h:0<=k):∃c:Int,eJ [.d (eP ns),.d (.int k)] T=some (.int c,T):=by
 by_cases hk:k<(ns.length:Int)
 .obtain⟨d,e1,hm⟩:=dZ (xs:=ns.map Qa) (i:=k) h (by simpa using hk)
  obtain⟨c,_,rfl⟩:=OH.mp hm;exact⟨c,by simp[eJ,eP,hk,e1]⟩
 .exact⟨0,by simp[eJ,eP,hk]⟩
theorem mW{α:Type}(xs:List α)(a:Nat):cD xs (some (a:Int)) none=xs.drop a:=by
 have e:HT.sIx xs.length 0 (some (a:Int))=min a xs.length:=by
  show (if (a:Int)<0 then ((a:Int)+(xs.length:Int)).toNat else min ((a:Int)).toNat xs.length)=_;rw[if_neg (by omega)];simp
 have e2:HT.sIx xs.length xs.length none=xs.length:=rfl;unfold cD;rw[e,e2]
 by_cases h:a<=xs.length
 .rw[QF h]
  exact Pa (by simp)
 .rw[QQ (by omega)]
  simp;omega
theorem ij{α:Type}(xs:List α)(a:Nat):cD xs none (some (a:Int))=xs.take a:=by
 have e:HT.sIx xs.length 0 none=0:=rfl
 have e2:HT.sIx xs.length xs.length (some (a:Int))=min a xs.length:=by
  show (if (a:Int)<0 then ((a:Int)+(xs.length:Int)).toNat else min ((a:Int)).toNat xs.length)=_;rw[if_neg (by omega)];simp
 unfold cD;rw[e,e2,List.drop_zero,Nat.sub_zero]
 by_cases h:a<=xs.length
 .rw[QF h]
 .rw[QQ (by omega),List.take_length]
  exact(Pa (by omega)).symm
def NW:List Str:=["told","made","say","want","wants","fails","put","got","row","peek","when","kind"].map NH
def ZZ:Str:=NH "zzzzzzzz"
def l7(l:List Str):Bool:=decide l.Nodup&&l.all fun x=>isName (.str x)&&decide (x≠ZZ)
def nW0(a:Nat):List Str:=NW.drop a++NW.take a
def lc(i:Nat):Str:=⟨#[97+i]⟩
def f1(a k:Nat):Str:=QP (lc (a+k / 8)) ((1+k % 8:Nat):Int)
def f2(a t k:Nat):Str:=QP (lc a) ((a % 7:Nat):Int)++lc ((a+k) % 26)++QP (lc a) (t:Int)
theorem Hu:∀a,a<12->l7 (nW0 a)=true/\(nW0 a).length=12:=by decide +kernel
theorem Ht:∀a,a<12->l7 ((Pg 12).map (f1 a))=true:=by decide +kernel
theorem Hs:∀a,a<12->∀t,t<8->t<8-a % 7->l7 ((Pg 12).map (f2 a t))=true:=by decide +kernel
theorem GE:∀i,i<26->LET.cps.toList[i]? = some (97+i):=by decide +kernel
theorem rQ{i:Int}(h0:0<=i)(h1:i<26):atI LET.cps.toList i=some (97+i.toNat):=by
 unfold atI ixN;rw[ED,if_pos h0,if_pos h1];exact GE _ (by omega)
theorem qF{l:List Str}(m:Nat)(h:l7 l=true):(l.take m).Nodup/\∀x∈l.take m,isName (.str x)=true/\x≠ZZ:=by
 have h':=h;unfold l7 at h';rw[NN] at h'
 exact⟨(of_decide_eq_true h'.1).sublist (UH ..),fun x hx=>by
  have:=Oe.mp h'.2 x (PF hx);rw[NN] at this
  exact⟨this.1,of_decide_eq_true this.2⟩⟩
theorem tO{β:Type}(f:Nat->β){m:Nat}(h:m<=12):(Pg m).map f=((Pg 12).map f).take m:=by rw[←Wk,List.take_range,QF h]
structure Nms(l:List Str)(m:Nat):Prop where
 len:l.length=m
 nd:l.Nodup
 nm:∀x∈l,isName (.str x)=true
 nz:∀x∈l,x≠ZZ
theorem vm{f:Nat->Str}{e:FE}{ρ:Rho}{T:Tp}{m:Nat}(h:∀k:Nat,k<m->e (some (.d (.int (k:Int)))::ρ) T=some (.d (.str (f k)),T)):ck cw e ρ (cM 0 m) T=some (nmL ((Pg m).map f),T):=by
 have c:=fO (e:=e) (ρ:=ρ) (T:=T) (g:=fun d=>match d with
  |.int k=>.str (f k.toNat)
  | d=>d) (ds:=cM 0 m) fun d hd=>by
   obtain⟨i,hi,rfl⟩:=OH.mp hd;have:=h i (RY.mp hi);simp;exact this
 rw[c];refine congrArg some (congrArg (·,T) ?_);unfold cM nmL;rw[Pt,Pt]
 exact OF fun i _=>by simp
theorem Jr:∀a,a<12->(QP (lc a) ((a % 7:Nat):Int)).length<=100:=by decide +kernel
theorem Jq:∀a,a<12->∀k,k<12->(QP (lc a) ((a % 7:Nat):Int)++lc ((a+k) % 26)).length<=100:=by decide +kernel
theorem Jp:∀a:Nat,a<12->∀s:Nat,s<8->(QP (lc a) (s:Int)).length<=100:=by decide +kernel
theorem lcl(i:Nat):(lc i).length=1:=rfl
theorem Fi{A T:Tp}{m:Nat}(t:bL A T)(h0:m<=12):∃l T',gO [.tp A.length,.d (.int (m:Int))] T=some (.list (nmL l),T')/\bL A T'/\Nms l m:=by
 obtain⟨w,T1,e1,t1,w0,w1⟩:=bR (m:=4) t (by decide);obtain⟨a,T2,e2,t2,a0,a1⟩:=bR (m:=12) t1 (by decide);obtain⟨a,rfl⟩:∃j:Nat,a=(j:Int):=⟨a.toNat,by omega⟩
 have a1':a<12:=by omega
 have hr:=kA (j:=(m:Int)) (by omega) (by omega)
 by_cases c0:w=0
 .obtain⟨q1,q2⟩:=Hu a a1'
  obtain⟨n1,n2⟩:=qF m q1;refine⟨(nW0 a).take m,T2,?_,t2,⟨by rw[PY,q2];omega,n1,fun x hx=>(n2 x hx).1,fun x hx=>(n2 x hx).2⟩⟩
  have z:nmL ((nW0 a).take m)=((nmL NW).drop a++(nmL NW).take a).take m:=by
   simp[nmL,nW0,Wk,List.map_drop]
  have z2:(nmL NW)=[.str "told",.str "made",.str "say",.str "want",.str "wants",.str "fails",.str "put",.str "got",.str "row",.str "peek",.str "when",.str "kind"]:=rfl;rw[z,z2]
  have lz:∀xs:List NG,xs.length=12->(xs.drop a).length+(xs.take a).length<=sizeLine:=fun xs h=>by
   have:=kL;simp[h];omega
  have lz':=lz [.str "told",.str "made",.str "say",.str "want",.str "wants",.str "fails",.str "put",.str "got",.str "row",.str "peek",.str "when",.str "kind"] rfl;simp only[gO,lT,BZ,mI,mJ,if_true];simp[e1,e2,c0,mW,ij,-Pp,-PY,lz']
 .by_cases c1:w=1
  .obtain⟨n1,n2⟩:=qF m (Ht a a1')
   rw[←tO _ h0] at n1 n2;refine⟨(Pg m).map (f1 a),T2,?_,t2,⟨by simp,n1,fun x hx=>(n2 x hx).1,fun x hx=>(n2 x hx).2⟩⟩
   have c:=vm (f:=f1 a) (e:=(ag cm (ag ixD (aa 3) (ag aQ (aa 5) (ag gF (aa 0) (fC (.int 8))))) (ag aQ (fC (.int 1)) (ag cI (aa 0) (fC (.int 8)))))) (ρ:=[some (.tp A.length),some (.d (.int (m:Int))),some (.d (.str LET)),some (.d (.int w)),some (.d (.int (a:Int))),none,none]) (T:=T2) (m:=m) fun k hk=>by
    have x1:=rQ (i:=(a:Int)+(k:Int) / 8) (by omega) (by omega)
    have x2:((a:Int)+(k:Int) / 8).toNat=a+k / 8:=by omega
    rw[x2] at x1
    have x3:(0:Int)<=1+(k:Int) % 8/\1+(k:Int) % 8<=2000:=by omega
    have x4:((1+k % 8:Nat):Int)=1+(k:Int) % 8:=by omega
    have x5:S8 (⟨#[97+(a+k / 8)]⟩:Str)<=1000:=by show 1<=1000;decide
    simp[x1,x3,qH,x5,f1,x4,lc,fR]
   have e0:NH "abcdefghijklmnopqrstuvwxyz"=LET:=rfl;simp[gO,e0,e1,e2,c1,hr];rw[c1] at c;simp[c]
  .obtain⟨s,T3,e3,t3,s0,s1⟩:=bR (m:=8-(a:Int) % 7) t2 (by omega)
   obtain⟨s,rfl⟩:∃j:Nat,s=(j:Int):=⟨s.toNat,by omega⟩;obtain⟨n1,n2⟩:=qF m (Hs a a1' s (by omega) (by omega));rw[←tO _ h0] at n1 n2;refine⟨(Pg m).map (f2 a s),T3,?_,t3,⟨by simp,n1,fun x hx=>(n2 x hx).1,fun x hx=>(n2 x hx).2⟩⟩;have bl:=kL;have la:=Jr a a1';have lb:=Jp a a1' s (by omega);have xa:=rQ (i:=(a:Int)) (by omega) (by omega);rw[Rj] at xa
   have z7:((a % 7:Nat):Int)=(a:Int) % 7:=by omega
   have xl:∀j,S8 (⟨#[97+j]⟩:Str)<=1000:=fun j=>by show 1<=1000;decide
   have c:=vm (f:=f2 a s) (e:=(ag aQ (ag aQ (ag cm (ag ixD (aa 3) (aa 5)) (ag cI (aa 5) (fC (.int 7)))) (ag ixD (aa 3) (ag cI (ag aQ (aa 5) (aa 0)) (fC (.int 26))))) (aa 7))) (ρ:=[some (.tp A.length),some (.d (.int (m:Int))),some (.d (.str LET)),some (.d (.int w)),some (.d (.int (a:Int))),none,some (.d (.str (QP (lc a) (s:Int))))]) (T:=T3) (m:=m) fun k hk=>by
    have lk:=Jq a a1' k (by omega);have x1:=rQ (i:=((a:Int)+(k:Int)) % 26) (by omega) (by omega)
    have x2:(((a:Int)+(k:Int)) % 26).toNat=(a+k) % 26:=by omega
    rw[x2] at x1;rw[z7] at lk la
    have y1:(QP (lc a) ((a:Int) % 7)).length+(lc ((a+k) % 26)).length<=sizeLine:=by rw[lcl];omega
    have y2:(QP (lc a) ((a:Int) % 7)++lc ((a+k) % 26)).length+(QP (lc a) (s:Int)).length<=sizeLine:=by omega
    have x3:(0:Int)<=(a:Int) % 7/\(a:Int) % 7<=2000:=by omega
    simp only[lc,fR] at y1 y2;simp only[f2,z7,lc,fR];simp[xa,x1,x3,qH,xl,y1,y2]
   have e0:NH "abcdefghijklmnopqrstuvwxyz"=LET:=rfl
   have x3:(0:Int)<=(s:Int)/\(s:Int)<=2000:=by omega
   simp only[lc,fR] at c;simp[gO,e0,e1,e2,c0,c1,hr,e3,xa,qH,xl,x3];simp[c]
def mb:Nat->Int
 |0=>1
 |n+1=>1+3*mb n
theorem rJ:∀n,1<=mb n
 |0=>by decide
 |n+1=>by
  have:=rJ n;show 1<=1+3*mb n;omega
def VS:List PyData:=[.int 0,.int 1,.int (-1),.int 2,.int 1000000000000000000,.int (-1000000000000000000),.str "",.str "a",.str "0",.str "-",.str (QP "a" 20),.tuple []]
theorem Hv:∀d∈VS,∀n,aG (n+1) d=true/\aH (n+1) d=1:=by
 intro d hd n;have tu:aG (n+1) (.tuple [])=true/\aH (n+1) (.tuple [])=1:=⟨rfl,rfl⟩;simp[VS] at hd
 rcases hd with rfl|rfl|rfl|rfl|rfl|rfl|rfl|rfl|rfl|rfl|rfl|rfl
 .exact dv (iH (by decide) (by decide))
 .exact dv (iH (by decide) (by decide))
 .exact dv (iH (by decide) (by decide))
 .exact dv (iH (by decide) (by decide))
 .exact dv (iH (by decide) (by decide))
 .exact dv (iH (by decide) (by decide))
 .exact dv (by decide +kernel)
 .exact dv (by decide +kernel)
 .exact dv (by decide +kernel)
 .exact dv (by decide +kernel)
 .exact dv (by decide +kernel)
 .exact tu
theorem yL{l:List Str}{m:Nat}{i:Int}(h:Nms l m)(h0:0<=i)(h1:i<(l.length:Int)):∃x,atI (nmL l) i=some (.str x)/\isName (.str x)=true:=by
 obtain⟨d,e,hm⟩:=dZ (xs:=nmL l) h0 (by simpa[nmL] using h1);obtain⟨x,hx,rfl⟩:=OH.mp hm;exact⟨x,e,h.nm x hx⟩
theorem fS(l:List Str):(nmL l).length=l.length:=by simp[nmL]
theorem vT{l:List Str}{m:Nat}(hn:Nms l m)(hm:0<m):∀(n k:Nat) (A T:Tp),bL A T->n<k->∃d T',dt k [.tp A.length,.d (.list (nmL l)),.d (.int (n:Int))] T=some (d,T')/\bL A T'/\aG (n+1) d=true/\aH (n+1) d<=mb n
 |n,0,A,T,_,hk=>absurd hk (Pe _)
 |n,k+1,A,T,t,hk=>by
  obtain⟨w,T1,e1,t1,w0,w1⟩:=bR (m:=10) t (by decide);have mp:=rJ n
  have some_:(w<6\/((n:Int)=0/\7<w))->∃d T',dt (k+1) [.tp A.length,.d (.list (nmL l)),.d (.int (n:Int))] T=some (d,T')/\bL A T'/\aG (n+1) d=true/\aH (n+1) d<=mb n:=fun hc=>by
   obtain⟨i,T2,e2,t2,i0,i1⟩:=bR (m:=12) t1 (by decide);obtain⟨d,hd,hmem⟩:=dZ (xs:=VS) i0 (by show i<12;exact i1);obtain⟨b1,b2⟩:=Hv d hmem n;refine⟨d,T2,?_,t2,b1,by omega⟩;simp only[VS] at hd
   have l1:(NH "a").length<=1000:=by decide +kernel
   by_cases h6:w<6
   .simp[dt,e1,h6,e2,hd,l1]
   .obtain⟨h7,h8⟩:=hc.resolve_left h6
    simp[dt,e1,h6,h7,h8,e2,hd,l1]
  by_cases c1:w<6
  .exact some_ (.inl c1)
  by_cases c2:(n:Int)=0/\7<w
  .exact some_ (.inr c2)
  clear some_
  have l1:(NH "a").length<=1000:=by decide +kernel
  by_cases c3:w<8
  .have c4:¬7<w:=by omega
   obtain⟨i,T2,e2,t2,i0,i1⟩:=bR (m:=(l.length:Int)) t1 (by rw[hn.len];omega);obtain⟨x,hx,hxn⟩:=yL hn i0 i1;obtain⟨b1,b2⟩:=dv (n:=n+1) (tq hxn);refine⟨.str x,T2,?_,t2,b1,by omega⟩
   by_cases h0:(n:Int)=0
   .simp[dt,e1,c1,h0,c4,c3,fS,e2,hx,l1]
   .have h0':¬n=0:=by omega
    simp[dt,e1,c1,h0,h0',c3,fS,e2,hx,l1]
  .have h0:¬(n:Int)=0:=fun z=>c2 ⟨z,by omega⟩
   obtain⟨n,rfl⟩:=bH n (by omega);obtain⟨j,T2,e2,t2,j0,j1⟩:=bR (m:=4) t1 (by decide);have hrj:=kA (j:=j) j0 (by omega)
   have hs:((n+1:Nat):Int)-1=(n:Int):=by omega
   obtain⟨ys,T3,e3,t3,l3,q3⟩:=uN (P:=bL A) (Q:=fun d=>aG (n+1) d=true/\aH (n+1) d<=mb n) (ds:=cM 0 j.toNat)
    (e:=au (dt k) (ae (aa 1) (ae (aa 2) (ae (ag eB (aa 3) (fC (.int 1))) ah)))) (ρ:=[some (.tp A.length),some (.d (.list (nmL l))),some (.d (.int ((n+1:Nat):Int))),some (.d (.int w)),some (.d (.list VS))]) t2 fun d _ T t=>by
     obtain⟨d',T',e1,t1,b1,b2⟩:=vT hn hm n k A T t (by omega);refine⟨d',T',?_,t1,b1,b2⟩;rw[←hs] at e1;generalize ((n+1:Nat):Int)=N at e1 ⊢;simp[e1]
   have hl:(ys.length:Int)=j:=by rw[l3,CF];omega
   refine⟨.tuple ys,T3,?_,t3,?_,?_⟩
   .simp only[VS] at e3
    generalize ((n+1:Nat):Int)=N at e3 h0 ⊢;simp[dt,e1,c1,h0,c3,e2,hrj,l1,e3]
   .show (decide (ys.length<=8)&&ys.all (aG (n+1)))=true
    rw[decide_eq_true (by omega)];exact Oe.mpr fun d hd=>(q3 d hd).1
   .show 1+(ys.map (aH (n+1))).sum<=1+3*mb n
    have s1:=xH (f:=aH (n+1)) (q:=mb n) fun d hd=>(q3 d hd).2;have s2:(ys.length:Int)*mb n<=3*mb n:=Int.mul_le_mul_of_nonneg_right (by omega) (by have:=rJ n;omega);omega
theorem Fx{n:Nat}{d:NG}(hn:n<=2)(hb:aG (n+1) d=true)(hm:aH (n+1) d<=mb n):aE d=true:=by
 obtain⟨u1,u2⟩:=iM (n+1) d hb
 have fin:∀j,aG j d=true->aH j d<=40->j=4->aE d=true:=fun j a b e=>by
  subst e;show (aG 4 d&&decide (aH 4 d<=40))=true;rw[a,decide_eq_true b];rfl
 match n,hn with
 |0,_=>
  obtain⟨v1,v2⟩:=iM 2 d u1;obtain⟨x1,x2⟩:=iM 3 d v1;have hm':aH 1 d<=1:=hm;have u2':aH 2 d=aH 1 d:=u2;have v2':aH 3 d=aH 2 d:=v2;have x2':aH 4 d=aH 3 d:=x2;exact fin 4 x1 (by omega) rfl
 |1,_=>
  obtain⟨v1,v2⟩:=iM 3 d u1;have hm':aH 2 d<=4:=hm;have u2':aH 3 d=aH 2 d:=u2;have v2':aH 4 d=aH 3 d:=v2;exact fin 4 v1 (by omega) rfl
 |2,_=>
  have hm':aH 3 d<=13:=hm;have u2':aH 4 d=aH 3 d:=u2;exact fin 4 u1 (by omega) rfl
theorem zc{l:List Str}{m:Nat}(hn:Nms l m)(hm:0<m){n:Nat}(h2:n<=2){A T:Tp}(t:bL A T):∃d T',dt 25 [.tp A.length,.d (.list (nmL l)),.d (.int (n:Int))] T=some (d,T')/\bL A T'/\aE d=true:=by
 obtain⟨d,T',e,t',b1,b2⟩:=vT hn hm n 25 A T t (by omega);exact⟨d,T',e,t',Fx h2 b1 b2⟩
theorem vQ{l:List Str}{m:Nat}(hn:Nms l m)(hm:0<m){n:Nat}{g:Int}{A T:Tp}(t:bL A T):∃e T',iD [.tp A.length,.d (.list (nmL l)),.d (.int g)] T=some (e,T')/\bL A T'/\Ex g n e:=by
 have putL:∀T,bL A T->∃v T',dt 25 [.tp A.length,.d (.list (nmL l)),.d (.int 1)] T=some (v,T')/\bL A T'/\Ex g n (.tuple [.str "put",v]):=fun T t=>by
  obtain⟨d,T',e,t',hv⟩:=zc hn hm (n:=1) (by decide) t;exact⟨d,T',e,t',.put hv⟩
 by_cases hg:0<g
 .obtain⟨r,T1,e1,t1,r0,r1⟩:=bR (m:=3) t (by decide)
  by_cases hr:0<r
  .obtain⟨i,T2,e2,t2,i0,i1⟩:=bR (m:=g) t1 hg
   exact⟨_,T2,by simp[iD,hg,e1,hr,e2],t2,.got i0 i1⟩
  .obtain⟨v,T2,e2,t2,x⟩:=putL T1 t1
   exact⟨_,T2,by simp[iD,hg,e1,hr,e2],t2,x⟩
 .obtain⟨v,T2,e2,t2,x⟩:=putL T t
  exact⟨_,T2,by simp[iD,hg,e2],t2,x⟩
theorem Ex.up{m:Int}{n k:Nat}{e:NG}(h:Ex m n e)(l:n<=k):Ex m k e:=by
 induction h generalizing k with
 |put a=>exact .put a
 |got a b=>exact .got a b
 |row a _ ih=>
  obtain⟨k,rfl⟩:=bH k (by omega);exact .row a fun e he=>ih e he (by omega)
 |many _ ih=>
  obtain⟨k,rfl⟩:=bH k (by omega);exact .many (ih (by omega))
 |pair a _ _ i1 i2=>
  obtain⟨k,rfl⟩:=bH k (by omega);exact .pair a (i1 (by omega)) (i2 (by omega))
theorem Rg.up{p:Bool}{g n k:Nat}{r:NG}(h:Rg p g n r)(l:n<=k):Rg p g k r:=by
 induction h generalizing k with
 |fail a=>exact .fail a
 |say a=>
  obtain⟨k,rfl⟩:=bH k (by omega);exact .say (a.up (by omega))
 |ask a b c _ ih=>
  obtain⟨k,rfl⟩:=bH k (by omega);exact .ask a b (c.up (by omega)) (ih (by omega))
 |whn a _ _ i1 i2=>
  obtain⟨k,rfl⟩:=bH k (by omega);exact .whn (a.up (by omega)) (i1 (by omega)) (i2 (by omega))
theorem Fo{l:List Str}{m:Nat}(hn:Nms l m)(hm:0<m){g:Int}{A T:Tp}(t:bL A T):∃e T',iF [.tp A.length,.d (.list (nmL l)),.d (.int g)] T=some (e,T')/\bL A T'/\Ex g 1 e:=by
 obtain⟨w,T1,e1,t1,w0,w1⟩:=bR (m:=10) t (by decide);obtain⟨a,T2,e2,t2,xa⟩:=vQ hn hm (n:=0) (g:=g) t1
 by_cases c1:w<5
 .by_cases c2:w=4
  .refine⟨.tuple [.str "many",a],T2,?_,t2,.many xa⟩
   subst c2;simp[iF,fR,e1,e2,gI,gH]
  .refine⟨a,T2,?_,t2,xa.up (by decide)⟩
   have z:w / 4=0:=by omega
   simp[iF,fR,e1,e2,c1,z,gI,gH]
 .obtain⟨b,T3,e3,t3,xb⟩:=vQ hn hm (n:=0) (g:=g) t2
  by_cases c5:w=5
  .obtain⟨j,T4,e4,t4,j0,j1⟩:=bR (m:=3) t3 (by decide)
   obtain⟨j,rfl⟩:∃i:Nat,j=(i:Int):=⟨j.toNat,by omega⟩;refine⟨.tuple [.str "row",.tuple ([a,b].take j)],T4,?_,t4,.row (by simp;omega) fun e he=>?_⟩
   .subst c5
    simp[iF,fR,e1,e2,e3,e4,ij]
   .have:=PF he
    simp at this
    rcases this with rfl|rfl
    .exact xa
    .exact xb
  .obtain⟨i,T4,e4,t4,i0,i1⟩:=bR (m:=5) t3 (by decide)
   obtain⟨wd,hwd,hat⟩:∃wd∈PW,atI [ON "sum",.str "join",.str "same",.str "less",.str "part"] i=some (.str (NH wd)):=by
    obtain⟨d,h,hm⟩:=dZ (xs:=[ON "sum",.str "join",.str "same",.str "less",.str "part"]) i0 (by simpa using i1);simp at hm
    rcases hm with rfl|rfl|rfl|rfl|rfl
    .exact⟨"sum",by simp[PW],h⟩
    .exact⟨"join",by simp[PW],h⟩
    .exact⟨"same",by simp[PW],h⟩
    .exact⟨"less",by simp[PW],h⟩
    .exact⟨"part",by simp[PW],h⟩
   refine⟨.tuple [.str (NH wd),a,b],T4,?_,t4,.pair hwd xa xb⟩;simp[iF,fR,e1,e2,e3,c1,c5,e4,hat]
theorem name_val{x:Str}(hx:isName (.str x)=true):aE (.str x)=true:=by
 obtain⟨u1,u2⟩:=dv (n:=4) (tq hx);show (aG 4 (.str x)&&decide (aH 4 (.str x)<=40))=true;rw[u1,u2];rfl
theorem BI:isName (.str "kind")=true:=by decide +kernel
theorem mY{l:List Str}{m:Nat}(hn:Nms l m)(hm:0<m)(hm2:m<=12){p:Bool}:∀(n k g:Nat) (A T:Tp),bL A T->n<k->n+g<=12->∃r T',cG k [.tp A.length,.d (.list (nmL l)),.d (.int (n:Int)),.d (.int (g:Int)),.d (.bool p)] T=some (r,T')/\bL A T'/\Rg p g (n+2) r
 |n,0,g,A,T,_,hk,_=>absurd hk (Pe _)
 |n,k+1,g,A,T,t,hk,hg=>by
  obtain⟨w,T1,e1,t1,w0,w1⟩:=bR (m:=8) t (by decide);obtain⟨ex,T2,e2,t2,xe⟩:=Fo hn hm (g:=(g:Int)) t1
  by_cases c1:0<n/\w<4
  .obtain⟨c1,c2⟩:=c1
   obtain⟨n,rfl⟩:=bH n (by omega)
   have c1':(0:Int)<((n+1:Nat):Int):=by omega
   have hs:((n+1:Nat):Int)-1=(n:Int):=by omega
   have hgs:((g+1:Nat):Int)=(g:Int)+1:=by omega
   obtain⟨wd,T3,t3,hwd,e3⟩:∃wd T3,bL A T3/\(wd="want"\/(wd="peek"/\p=true))/\((p=false/\wd="want"/\T3=T2)\/(p=true/\∃j,bv [.tp A.length,.d (.int 4)] T2=some (.int j,T3)/\((j=0/\wd="peek")\/(¬j=0/\wd="want")))):=by
    cases p with
    |false=>exact⟨"want",T2,t2,.inl rfl,.inl ⟨rfl,rfl,rfl⟩⟩
    |true=>
     obtain⟨j,T3,e3,t3,j0,j1⟩:=bR (m:=4) t2 (by decide)
     by_cases hj:j=0
     .exact⟨"peek",T3,t3,.inr ⟨rfl,rfl⟩,.inr ⟨rfl,j,e3,.inl ⟨hj,rfl⟩⟩⟩
     .exact⟨"want",T3,t3,.inl rfl,.inr ⟨rfl,j,e3,.inr ⟨hj,rfl⟩⟩⟩
   obtain⟨j,T4,e4,t4,j0,j1⟩:=bR (m:=5) t3 (by decide)
   obtain⟨ex',T5,x5,t5,e5⟩:∃ex' T5,Ex (g:Int) 1 ex'/\bL A T5/\((0<j/\∃i x,bv [.tp A.length,.d (.int (l.length:Int))] T4=some (.int i,T5)/\atI (nmL l) i=some (.str x)/\ex'=.tuple [.str "put",.str x])\/(¬0<j/\ex'=ex/\T5=T4)):=by
    by_cases hj:0<j
    .obtain⟨i,T5,e5,t5,i0,i1⟩:=bR (m:=(l.length:Int)) t4 (by rw[hn.len];omega)
     obtain⟨x,hx,hxn⟩:=yL hn i0 i1;exact⟨_,T5,.put (name_val hxn),t5,.inl ⟨hj,i,x,e5,hx,rfl⟩⟩
    .exact⟨ex,T4,xe,t4,.inr ⟨hj,rfl,rfl⟩⟩
   obtain⟨r,T6,e6,t6,xr⟩:=mY hn hm hm2 (p:=p) n k (g+1) A T5 t5 (by omega) (by omega);refine⟨.tuple [.str (NH wd),ex',r],T6,?_,t6,.ask hwd (by omega) (x5.up (by omega)) xr⟩;rw[←hs,hgs] at e6;generalize ((n+1:Nat):Int)=N at e6 c1' ⊢;generalize (g:Int)=G at *;have i0:intD [.bool false]=some (.int 0):=rfl;have i1:intD [.bool true]=some (.int 1):=rfl
   rcases e5 with⟨hj,i,x,y1,y2,rfl⟩|⟨hj,rfl,rfl⟩
   .rcases e3 with⟨rfl,rfl,rfl⟩|⟨rfl,q,e3,⟨hq,rfl⟩|⟨hq,rfl⟩⟩
    .simp[cG,e1,e2,c1',c2,i0,i1,gI,gH,e4,hj,fS,y1,y2,e6]
    .simp[cG,e1,e2,c1',c2,i0,i1,gI,gH,e3,hq,e4,hj,fS,y1,y2,e6]
    .simp[cG,e1,e2,c1',c2,i0,i1,gI,gH,e3,hq,e4,hj,fS,y1,y2,e6]
   .rcases e3 with⟨rfl,rfl,rfl⟩|⟨rfl,q,e3,⟨hq,rfl⟩|⟨hq,rfl⟩⟩
    .simp[cG,e1,e2,c1',c2,i0,i1,gI,gH,e4,hj,e6]
    .simp[cG,e1,e2,c1',c2,i0,i1,gI,gH,e3,hq,e4,hj,e6]
    .simp[cG,e1,e2,c1',c2,i0,i1,gI,gH,e3,hq,e4,hj,e6]
  .by_cases c3:1<n/\w<6
   .obtain⟨c3,c4⟩:=c3
    obtain⟨n,rfl⟩:∃j,n=j+2:=⟨n-2,by omega⟩;have c5:¬w<4:=fun z=>c1 ⟨by omega,z⟩
    have hs:((n+2:Nat):Int)-2=(n:Int):=by omega
    have c3':(1:Int)<((n+2:Nat):Int):=by omega
    have c3'':(0:Int)<((n+2:Nat):Int):=by omega
    obtain⟨r,T3,e3,t3,xr⟩:=mY hn hm hm2 (p:=p) n k g A T2 t2 (by omega) (by omega);obtain⟨s,T4,e4,t4,xs⟩:=mY hn hm hm2 (p:=p) n k g A T3 t3 (by omega) (by omega);refine⟨.tuple [.str "when",ex,r,s],T4,?_,t4,.whn (n:=n+3) (xe.up (by omega)) (xr.up (by omega)) (xs.up (by omega))⟩;rw[←hs] at e3 e4;generalize ((n+2:Nat):Int)=N at e3 e4 c3' c3'' ⊢;generalize (g:Int)=G at *;simp[cG,e1,e2,c3',c3'',c5,c4,e3,e4]
   .have z1:¬((0:Int)<(n:Int)/\w<4):=fun z=>c1 ⟨by omega,z.2⟩
    have z3:¬((1:Int)<(n:Int)/\w<6):=fun z=>c3 ⟨by omega,z.2⟩
    have say:∀T4,bL A T4->(¬w=6/\T4=T2\/w=6/\∃j,bv [.tp A.length,.d (.int 2)] T2=some (.int j,T4)/\¬j=0)->cG (k+1) [.tp A.length,.d (.list (nmL l)),.d (.int (n:Int)),.d (.int (g:Int)),.d (.bool p)] T=some (.tuple [.str "say",ex],T4):=fun T4 t4 h=>by
     generalize (n:Int)=N at z1 z3 ⊢;generalize (g:Int)=G at *
     rcases h with⟨h6,rfl⟩|⟨rfl,j,e3,hj⟩
     .by_cases a0:0<N
      .have b0:¬w<4:=fun z=>z1 ⟨a0,z⟩
       by_cases a1:1<N
       .have b1:¬w<6:=fun z=>z3 ⟨a1,z⟩
        simp[cG,e1,e2,a0,b0,a1,b1,h6]
       .simp[cG,e1,e2,a0,b0,a1,h6]
      .have a1:¬1<N:=by omega
       simp[cG,e1,e2,a0,a1,h6]
     .simp[cG,e1,e2,e3,hj]
    by_cases c6:w=6
    .obtain⟨j,T3,e3,t3,j0,j1⟩:=bR (m:=2) t2 (by decide)
     by_cases hj:j=0
     .obtain⟨i,T4,e4,t4,i0,i1⟩:=bR (m:=(l.length:Int)+2) t3 (by omega)
      obtain⟨x,hx,hxn⟩:∃x,atI (nmL l++[.str "kind",.str "name"]) i=some (.str x)/\isName (.str x)=true:=by
       obtain⟨d,h,hmem⟩:=dZ (xs:=nmL l++[.str "kind",.str "name"]) i0 (by simp[fS];omega)
       rcases Ob.mp hmem with z|z
       .obtain⟨x,hx,rfl⟩:=OH.mp z
        exact⟨x,h,hn.nm x hx⟩
       .simp at z
        rcases z with rfl|rfl
        .exact⟨_,h,BI⟩
        .exact⟨_,h,wF⟩
      refine⟨.tuple [.str "fail",.str x],T4,?_,t4,.fail hxn⟩
      have ll:l.length+2<=sizeLine:=by
       have:=kL;have:=hn.len;omega
      subst c6 hj;generalize (n:Int)=N at z1 z3 ⊢;generalize (g:Int)=G at *;simp[cG,e1,e2,e3,e4,fS,hx,ll]
     .exact⟨_,T3,say T3 t3 (.inr ⟨c6,j,e3,hj⟩),t3,.say (xe.up (by omega)) ⟩
    .exact⟨_,T2,say T2 t2 (.inl ⟨c6,rfl⟩),t2,.say (xe.up (by omega))⟩
structure BkP(p:Bool)(n:Nat)(S:List Str)(D0 R0:Dc):Prop where
 dk:∀q∈D0,∃x v,q=(.str x,v)/\aE v=true/\aJ D0 x=some v/\x∈S
 rk:∀q∈R0,∃x r,q=(.str x,r)/\Rg p 0 n r/\aJ R0 x=some r/\aJ D0 x=none/\x∈S
 rnd:(R0.map (·.1)).Nodup
 len:D0.length+R0.length=S.length
 dnd:(D0.map (·.1)).Nodup
theorem BkP.nil{p:Bool}{n:Nat}:BkP p n [] [] []:=⟨by simp,by simp,by simp,rfl,by simp⟩
section
variable {p:Bool}{n:Nat}{S:List Str}{D0 R0:Dc}
theorem BkP.noD(b:BkP p n S D0 R0){x:Str}(h:x∉S):aJ D0 x=none:=by
 cases e:aJ D0 x with
 |none=>rfl
 |some v=>
  obtain⟨y,_,e1,_,_,hy⟩:=b.dk _ (gn e);cases e1;exact absurd hy h
theorem BkP.noR(b:BkP p n S D0 R0){x:Str}(h:x∉S):aJ R0 x=none:=by
 cases e:aJ R0 x with
 |none=>rfl
 |some v=>
  obtain⟨y,_,e1,_,_,_,hy⟩:=b.rk _ (gn e);cases e1;exact absurd hy h
theorem ni{G:Dc}{x:Str}{v:NG}(h:aJ G x=none):putN G x v=G++[(.str x,v)]:=by
 unfold putN;rw[h,if_neg (by simp)]
theorem BkP.putD(b:BkP p n S D0 R0){x:Str}{v:NG}(h:x∉S)(hv:aE v=true):BkP p n (x::S) (putN D0 x v) R0:=by
 have nd:=b.noD h;refine⟨fun q hq=>?_,fun q hq=>?_,b.rnd,by rw[ql nd,Ou];have:=b.len;omega,?_⟩
 .rw[ni nd] at hq
  rcases Ob.mp hq with z|z
  .obtain⟨y,u,rfl,h1,h2,h3⟩:=b.dk q z
   refine⟨y,u,rfl,h1,?_,NJ _ h3⟩;rw[gm,if_neg (fun e=>h (by rw[e];exact h3))];exact h2
  .rw[NY.mp z]
   exact⟨x,v,rfl,hv,by rw[gm,if_pos rfl],NI⟩
 .obtain⟨y,r,rfl,h1,h2,h3,h4⟩:=b.rk q hq
  refine⟨y,r,rfl,h1,h2,?_,NJ _ h4⟩;rw[gm,if_neg (fun e=>h (by rw[e];exact h4))];exact h3
 .rw[ni nd,Pn,Rn]
  refine⟨b.dnd,by simp,fun a ha c hc e=>?_⟩;simp at hc;subst hc e;obtain⟨q,hq,e⟩:=OH.mp ha;obtain⟨y,u,rfl,_,_,h4⟩:=b.dk q hq;cases e;exact h h4
theorem BkP.putR(b:BkP p n S D0 R0){x:Str}{r:NG}(h:x∉S)(hr:Rg p 0 n r):BkP p n (x::S) D0 (putN R0 x r):=by
 have nd:=b.noR h;refine⟨fun q hq=>?_,fun q hq=>?_,?_,by rw[ql nd,Ou];have:=b.len;omega,b.dnd⟩
 .obtain⟨y,u,rfl,h1,h2,h3⟩:=b.dk q hq
  exact⟨y,u,rfl,h1,h2,NJ _ h3⟩
 .rw[ni nd] at hq
  rcases Ob.mp hq with z|z
  .obtain⟨y,u,rfl,h1,h2,h3,h4⟩:=b.rk q z
   refine⟨y,u,rfl,h1,?_,h3,NJ _ h4⟩;rw[gm,if_neg (fun e=>h (by rw[e];exact h4))];exact h2
  .rw[NY.mp z]
   exact⟨x,r,rfl,hr,by rw[gm,if_pos rfl],b.noD h,NI⟩
 .rw[ni nd,Pn,Rn]
  refine⟨b.rnd,by simp,fun a ha c hc e=>?_⟩;simp at hc;subst hc e;obtain⟨q,hq,e⟩:=OH.mp ha;obtain⟨y,u,rfl,_,_,_,h4⟩:=b.rk q hq;cases e;exact h h4
theorem BkP.bk(b:BkP p n S D0 R0)(hn:n<=20)(hl:S.length<=900):Bk p n D0 R0:=⟨fun q hq=>by
  obtain⟨x,v,e,h1,_⟩:=b.dk q hq
  exact⟨x,v,e,h1⟩,fun q hq=>by
  obtain⟨x,r,e,h1,h2,h3,_⟩:=b.rk q hq
  exact⟨x,r,e,h1,h2,h3⟩,b.rnd,by rw[b.len];exact hl,hn⟩
end
def bkF:FS:=(fIf (ax (ag eqD (au bv (ae (aa 9) (ae (fC (.int 4)) ah))) (fC (.int 0)))) (iq 6 (ag ixD (aa 5) (aa 8)) (au (dt 25) (ae (aa 9) (ae (aa 5) (ae (fC (.int 2)) ah))))) (iq 7 (ag ixD (aa 5) (aa 8)) (au (cG 25) (ae (aa 9) (ae (aa 5) (ae (ag aQ (fC (.int 1)) (au bv (ae (aa 9) (ae (fC (.int 4)) ah)))) (ae (fC (.int 0)) (ae (aa 2) ah))))))))
def bkI:FS:=(ib 9 (ae (au gc (ae (ag aQ (au eJ (ae (aa 0) (ae (ag aQ (ag aQ (aa 1) (fC (.int 1))) (aa 8)) ah))) (ag cm (fC (.int 977)) (aa 8))) (ae (fC (.int 60)) ah))) (ae (fC (.int 0)) ah)) bkF)
def bkS:FS:=(ao (aO 4 (ag aQ (fC (.int 3)) (au bv (ae (aa 3) (ae (fC (.int 8)) ah))))) (ao (aO 5 (au gO (ae (aa 3) (ae (ag aQ (aa 4) (fC (.int 2))) ah)))) (ao (jR 6) (ao (jR 7) (ao (c9 8 (fA (aa 4)) bkI) (av (aB .tuple (ae (aa 6) (ae (aa 7) ah)))))))))
theorem Fd:kq=aT 10 (ib 3 (ae (au gc (ae (au eJ (ae (aa 0) (ae (aa 1) ah))) (ae (fC (.int 24)) ah))) (ae (fC (.int 0)) ah)) bkS):=rfl
theorem qq{i:Nat}{g:FA}{fr:FS}{ρ:Rho}{T:Tp}:ib i g fr ρ T=bnd (g ρ T) fun ws T1=>openK i fr ρ (et ws) T1:=rfl
theorem qr{i:Nat}{fr:FS}{ρ:Rho}{T:Tp}{a b:NG}:openK i fr ρ (some [a,b]) T=jv T.length (fr (ρ.set i (some (.tp T.length))) (T++[[a,b]])):=rfl
theorem pI{n:Nat}{fl:Fl}{ρ:Rho}{T:Tp}{row:List NG}(h:T.length=n):jv n (some ((fl,ρ),T++[row]))=some ((fl,ir n ρ),T):=by
 have e:lM (T++[row])=some (T,row):=by
  unfold lM;have h1:List.getLast? (T++[row])=some row:=List.getLast?_concat ..;have h2:List.dropLast (T++[row])=T:=TU ..;rw[h1,h2]
 simp[jv,e,h]
def ρB(ns:List Int)(p:Bool)(m:Int)(l:List Str)(D0 R0:Dc)(o8 o9:Option D.W):Rho:=[some (.d (eP ns)),some (.d (.int 1)),some (.d (.bool p)),some (.tp 0),some (.d (.int m)),some (.d (.list (nmL l))),some (.loc (.dict D0)),some (.loc (.dict R0)),o8,o9]
theorem G9{ns:List Int}{p:Bool}{m:Int}{l:List Str}{D0 R0:Dc}{k:Int}:ir 1 (ρB ns p m l D0 R0 (some (.d (.int k))) (some (.tp 1)))=ρB ns p m l D0 R0 (some (.d (.int k))) none:=rfl
theorem JC{ns:List Int}{p:Bool}{m:Int}{l:List Str}{j:Nat}{D0 R0:Dc}{k:Nat}{x:Str}{A T:Tp}(hA:A.length=1)(t:bL A T)(hn:Nms l j)(hj:0<j)(hj2:j<=12)(hx:atI (nmL l) (k:Int)=some (.str x))(hD:D0.length<=1000)(hR:R0.length<=1000) :
  ∃D1 R1 T',bkF (ρB ns p m l D0 R0 (some (.d (.int (k:Int)))) (some (.tp 1))) T=some ((.nx,ρB ns p m l D1 R1 (some (.d (.int (k:Int)))) (some (.tp 1))),T')/\bL A T'/\((∃v,aE v=true/\D1=putN D0 x v/\R1=R0)\/(∃r,Rg p 0 6 r/\D1=D0/\R1=putN R0 x r)):=by
 obtain⟨w,T1,e1,t1,w0,w1⟩:=bR (m:=4) t (by decide);rw[hA] at e1
 by_cases hw:w=0
 .obtain⟨v,T2,e2,t2,hv⟩:=zc hn hj (n:=2) (by decide) t1
  rw[hA] at e2;refine⟨putN D0 x v,R0,T2,?_,t2,.inl ⟨v,hv,rfl,rfl⟩⟩;have e2':dt 25 [.tp 1,.d (.list (nmL l)),.d (.int 2)] T1=some (v,T2):=e2;simp[bkF,ρB,e1,hw,e2',hx,hD]
 .obtain⟨i,T2,e2,t2,i0,i1⟩:=bR (m:=4) t1 (by decide)
  obtain⟨i,rfl⟩:∃q:Nat,i=(q:Int):=⟨i.toNat,by omega⟩;obtain⟨r,T3,e3,t3,hr⟩:=mY hn hj hj2 (p:=p) (1+i) 25 0 A T2 t2 (by omega) (by omega);rw[hA] at e2 e3;refine⟨D0,putN R0 x r,T3,?_,t3,.inr ⟨r,hr.up (by omega),rfl,rfl⟩⟩
  have e3':cG 25 [.tp 1,.d (.list (nmL l)),.d (.int (1+(i:Int))),.d (.int 0),.d (.bool p)] T2=some (r,T3):=by
   have z:((1+i:Nat):Int)=1+(i:Int):=by omega
   rw[z] at e3;exact e3
  simp[bkF,ρB,e1,hw,e2,e3',hx,hR]
theorem JB{ns:List Int}{p:Bool}{m:Int}{l:List Str}{j:Nat}{D0 R0:Dc}{k:Nat}{x:Str}{T:Tp}(hA:T.length=1)(hn:Nms l j)(hj:0<j)(hj2:j<=12)(hx:atI (nmL l) (k:Int)=some (.str x))(hD:D0.length<=1000)(hR:R0.length<=1000) :
  ∃D1 R1,bkI (ρB ns p m l D0 R0 (some (.d (.int (k:Int)))) none) T=some ((.nx,ρB ns p m l D1 R1 (some (.d (.int (k:Int)))) none),T)/\((∃v,aE v=true/\D1=putN D0 x v/\R1=R0)\/(∃r,Rg p 0 6 r/\D1=D0/\R1=putN R0 x r)):=by
 obtain⟨c,ec⟩:=nX (ns:=ns) (k:=1+1+(k:Int)) (T:=T) (by omega);obtain⟨ds,ed,ld,hd⟩:=rf (c:=c+977*(k:Int)) (N:=60) (T:=T) (by decide) (by decide);have ld':ds.length=60:=ld;obtain⟨D1,R1,T',eF,tF,res⟩:=JC (ns:=ns) (p:=p) (m:=m) hA (rl (A:=T) (ds:=ds) (by omega) (by omega) hd) hn hj hj2 hx hD hR;obtain⟨ds',i',rfl,_⟩:=tF;refine⟨D1,R1,?_,res⟩;have oe:=pI (fl:=.nx) (ρ:=ρB ns p m l D1 R1 (some (.d (.int (k:Int)))) (some (.tp 1))) (T:=T) (row:=[.list ds',.int i']) hA;rw[←eF,G9] at oe;rw[←oe];unfold bkI;rw[qq]
 have z:(1:Int)+1=2:=by decide
 rw[z] at ec;simp[ρB,ec,ed,qr,hA]
theorem yq{ns:List Int}{p:Bool}{m:Int}{l:List Str}{j:Nat}{T:Tp}(hA:T.length=1)(hn:Nms l j)(hj:0<j)(hj2:j<=12):∀(c k:Nat) (S:List Str) (D0 R0:Dc) (o8:Option D.W),k+c<=j->BkP p 6 S D0 R0->S.length=k->(∀y∈S,y∈l.take k) ->
  ∃D1 R1 S1 o,forL 8 bkI ((WM k c).map fun(i:Nat)=>Qa (i:Int)) (ρB ns p m l D0 R0 o8 none) T=some ((.nx,ρB ns p m l D1 R1 o none),T)/\BkP p 6 S1 D1 R1/\S1.length=k+c/\∀y∈S1,y∈l.take (k+c)
 |0,k,S,D0,R0,o8,_,b,hS,hb=>⟨D0,R0,S,o8,rfl,b,hS,hb⟩
 |c+1,k,S,D0,R0,o8,hk,b,hS,hsub=>by
  have hkl:k<l.length:=by rw[hn.len];omega
  have hx:atI (nmL l) (k:Int)=some (.str l[k]):=by
   unfold atI ixN;rw[fS,if_pos (by omega),if_pos (by omega)];simp[nmL,hkl]
  have hnx:l[k]∉S:=fun z=>by
   have z2:=hsub _ z;obtain⟨i,hi,e⟩:=Sl.mp z2;exact(List.pairwise_iff_getElem.mp hn.nd) i k (by omega) hkl (by omega) e
  have hlen:=b.len;obtain⟨D1,R1,e1,res⟩:=JB (ns:=ns) (p:=p) (m:=m) hA hn hj hj2 hx (show D0.length<=1000 by omega) (show R0.length<=1000 by omega)
  have b1:BkP p 6 (l[k]::S) D1 R1:=by
   rcases res with⟨v,hv,rfl,rfl⟩|⟨r,hr,rfl,rfl⟩
   .exact b.putD hnx hv
   .exact b.putR hnx hr
  obtain⟨D2,R2,S2,o,e2,b2,h2,h3⟩:=yq (ns:=ns) (p:=p) (m:=m) hA hn hj hj2 c (k+1) (l[k]::S) D1 R1 (some (.d (.int (k:Int)))) (by omega) b1 (by simp;omega) fun y hy=>by
   rcases NR.mp hy with rfl|z
   .exact Sl.mpr ⟨k,by omega,rfl⟩
   .exact List.take_subset_take_left l (by omega) (hsub y z)
  refine⟨D2,R2,S2,o,?_,b2,by omega,fun y hy=>by have:=h3 y hy;rwa [show k+1+c=k+(c+1) by omega] at this⟩;have st:bkI (List.set (ρB ns p m l D0 R0 o8 none) 8 (some (.d (.int (k:Int))))) T=some ((.nx,ρB ns p m l D1 R1 (some (.d (.int (k:Int)))) none),T):=e1;rw[List.range'_succ,Oi,kW st];exact e2
theorem Aj(n:Nat):cM 0 n=(WM 0 n).map fun(i:Nat)=>Qa (i:Int):=by
 unfold cM;rw[List.range_eq_range']
 exact OF fun i _=>by simp
theorem Ho(ns:List Int)(p:Bool):∃D0 R0 S,kq [.d (eP ns),.d (.int 1),.d (.bool p)] []=some (bkD D0 R0,[])/\BkP p 6 S D0 R0/\S.length<=10/\∀y∈S,isName (.str y)=true/\y≠ZZ:=by
 obtain⟨c,ec⟩:=nX (ns:=ns) (k:=1) (T:=[]) (by omega);obtain⟨ds,ed,ld,hd⟩:=rf (c:=c) (N:=24) (T:=[]) (by decide) (by decide);have ld':ds.length=24:=ld;obtain⟨w,T1,e1,t1,w0,w1⟩:=bR (m:=8) (rl (A:=[]) (ds:=ds) (by omega) (by omega) hd) (by decide);obtain⟨w,rfl⟩:∃q:Nat,w=(q:Int):=⟨w.toNat,by omega⟩;obtain⟨l,T2,e2,t2,hn⟩:=Fi (m:=3+w+2) t1 (by omega)
 have hA:T2.length=1:=by
  obtain⟨_,_,rfl,_⟩:=t2;rfl
 obtain⟨D1,R1,S1,o,e3,b,hS,hY⟩:=yq (ns:=ns) (p:=p) (m:=3+(w:Int)) hA hn (by omega) (by omega) (3+w) 0 [] [] [] none (by omega) BkP.nil rfl (by simp);refine⟨D1,R1,S1,?_,b,by omega,fun y hy=>⟨hn.nm y (PF (hY y hy)),hn.nz y (PF (hY y hy))⟩⟩;rw[←Aj] at e3
 have zt:(3+(w:Int)).toNat=3+w:=by omega
 have hr:=kA (j:=3+(w:Int)) (by omega) (by omega)
 have z2:((3+w+2:Nat):Int)=3+(w:Int)+2:=by omega
 rw[z2] at e2;have e1':bv [.tp 0,.d (.int 8)] [[.list ds,.int 0]]=some (.int (w:Int),T1):=e1;have e2':gO [.tp 0,.d (.int (3+(w:Int)+2))] T1=some (.list (nmL l),T2):=e2
 have es:bkS [some (.d (eP ns)),some (.d (.int 1)),some (.d (.bool p)),some (.tp 0),none,none,none,none,none,none] [[.list ds,.int 0]]=some ((.rt (bkD D1 R1),ρB ns p (3+(w:Int)) l D1 R1 o none),T2):=by
  simp[ρB] at e3;simp[bkS,e1',e2',hr,zt,e3,ρB,bkD]
 obtain⟨ds',i',rfl,_⟩:=t2;have oe:=pI (n:=0) (fl:=.rt (bkD D1 R1)) (ρ:=ρB ns p (3+(w:Int)) l D1 R1 o none) (T:=[]) (row:=[.list ds',.int i']) rfl;rw[←es] at oe;rw[Fd];simp[qq,ec,ed,qr];exact congrArg cZ oe
theorem AY{s:List Nat}{c:Nat}:∀{l:List (List Nat)},c∈a9 s l->c∈s\/∃x∈l,c∈x
 |[],h=>by simp[a9] at h
 |x::r,h=>by
  rw[e9] at h
  rcases Ob.mp h with z|z
  .exact .inr ⟨x,NI,z⟩
  .obtain⟨y,hy,hc⟩:=Vg.mp z
   obtain⟨q,hq,rfl⟩:=OH.mp hy
   rcases Ob.mp hc with w|w
   .exact .inl w
   .exact .inr ⟨q,NJ _ hq,w⟩
theorem rP:∀(n:Nat) (d:NG),aG n d=true->∀c∈cst n d,c<128
 |n,d,h,c,hc=>by
  rcases bY h with h1|⟨m,ds,rfl,rfl,_,hd⟩
  .rcases cq h1 with⟨i,rfl⟩|⟨x,rfl⟩
   .rw[iS] at hc
    rcases jw i c hc with z|z <;> omega
   .rw[iR] at hc
    rcases NR.mp hc with z|z
    .omega
    .exact K1.ia K1.jK (kr h1) c z
  .have e:cst (m+1) (.tuple ds)=40::a9 [44] (ds.map (cst m))++[41]:=rfl
   rw[e] at hc
   rcases Ob.mp hc with z|z
   .rcases NR.mp z with z|z
    .omega
    .rcases AY z with w|⟨x,hx,hcx⟩
     .have:=NY.mp w;omega
     .obtain⟨d',hd',rfl⟩:=OH.mp hx
      exact rP m d' (hd d' hd') c hcx
   .have:=NY.mp z;omega
termination_by n=>n
theorem yJ{x:Str}(h:∀c∈cd x,c<128):Oy x=true:=by
 unfold Oy;rw[Array.all_eq_true'];intro c hc;exact decide_eq_true (Td (h c (by simpa[cd] using hc)) (by decide))
theorem oi{v:NG}(h:aE v=true):Oy (mk (cst 4 v))=true:=yJ fun c hc=>rP 4 v (b9 h).1 c (by rw[bf] at hc;exact hc)
theorem fX{x:Str}(h:isName (.str x)=true):Oy x=true:=by
 have h':(decide (1<=x.length)&&decide (x.length<=8)&&has LET x)=true:=h;rw[NN] at h';exact yJ (K1.ia K1.yA h'.2)
inductive ST:Nat->NG->Prop where
 |s {n:Nat}{x:Str}:Oy x=true->ST n (.str x)
 |t {n:Nat}{ds:List NG}:(∀d∈ds,ST n d)->ST (n+1) (.tuple ds)
def nm:NG->Str
 |.str x=>x
 |_=>NH ""
def kn(ds:Dc):List Str:=ds.map fun q=>nm q.1
structure Al(p:Bool)(n:Nat)(D0 R0 G:Dc):Prop where
 B:Bk p n D0 R0
 hd:Sub D0 G
 hs:Snd D0 R0 G
 hc:∀x,ClsAt R0 G x
 nD:∀x v,aJ D0 x=some v->isName (.str x)=true
 nR:∀x v,aJ R0 x=some v->isName (.str x)=true
 kD:eX D0=nmL (kn D0)
 kR:eX R0=nmL (kn R0)
 mD:∀x,x∈kn D0↔∃v,aJ D0 x=some v
 mR:∀x,x∈kn R0↔∃v,aJ R0 x=some v
 len:D0.length+R0.length<=40
section
variable {p:Bool}{n:Nat}{D0 R0 G:Dc}
theorem Al.gv(a:Al p n D0 R0 G):GV G:=a.hs.gv a.B
theorem Al.key(a:Al p n D0 R0 G){x:Str}{v:NG}(h:aJ G x=some v):isName (.str x)=true:=by
 cases a.hs x v h with
 |told h=>exact a.nD x v h
 |made h _ _ _=>exact a.nR x _ h
theorem Al.ok(a:Al p n D0 R0 G){x:Str}{r:NG}(h:aJ R0 x=some r):OkS p n (stG R0 G x)/\oE G (stG R0 G x).S:=by
 rw[rq h];exact rB a.gv a.B.n20 (jM (a.B.rg h).1 a.B.n20)
theorem Al.reads(a:Al p n D0 R0 G){x:Str}{r:NG}(h:aJ R0 x=some r):∀d∈(stG R0 G x).rd,∃z v,d=.tuple [.str z,v]/\aJ G z=some v:=fun d hd=>by
 rw[rq h] at hd
 rcases Bu a.gv a.B.n20 (jM (a.B.rg h).1 a.B.n20) d hd with z|z
 .simp[s0] at z
 .exact z
theorem Ez(a b:List Str):nmL a++nmL b=nmL (a++b):=by simp[nmL]
theorem FN{ds:Dc}{l:List Str}(hk:eX ds=nmL l)(h:l.length<64):jC (.dict ds)=some (.list (nmL (bS l))):=by
 have e:dE (nmL l)=some l:=by
  have:=ky (fun x:Str=>x) l;simpa[nmL] using this
 show i4 (dE (eX ds))=_;rw[hk,e];show (if l.length<64 then _ else _)=_;rw[if_pos h];rfl
theorem lm(ds:Dc):(kn ds).length=ds.length:=by simp[kn]
end
theorem w6{w:List Nat}(h:dM w=true):dg (OI w)=w:=by
 obtain⟨ha,hne⟩:=vC h
 have hc:w.map VQ=Ro 10 (OI w):=by
  obtain⟨c,r,rfl⟩:∃c r,w=c::r:=by
   cases w with
   |nil=>exact absurd rfl hne
   |cons c r=>exact⟨c,r,rfl⟩
  refine(NumText.toDigits_digitsVal r.length (c::r) rfl ha ?_).symm
  by_cases hr:r=[]
  .left;rw[hr];rfl
  .right
   refine⟨c,r,rfl,?_⟩
   have hz:c≠48:=fun z=>by
    unfold dM at h;rw[z] at h;simp[hr] at h
   have:=ha c NI;omega
 unfold dg;rw[←hc,Pt];refine(OF (g:=id) fun c hc=>?_).trans (List.map_id _);have:=ha c hc;show (VQ c).toNat=c;exact(by decide:∀c<58,(VQ c).toNat=c) c (by omega)
theorem CG{w:List Nat}{i:Int}(h:jd w=some i):w=nc i:=by
 unfold jd at h;split at h
 .cases h
 .rename_i hn
  have h1:w≠[45,48]:=fun z=>hn (.inl z)
  have h3:dM (fg w)=true:=by
   cases e:dM (fg w) with
   |true=>rfl
   |false=>exact absurd (.inr (.inr e)) hn
  injection h with h
  subst h
  by_cases hm:w.head? = some 45
  .obtain⟨r,rfl⟩:∃r,w=45::r:=by
    cases w with
    |nil=>cases hm
    |cons c r=>simp at hm;exact⟨r,by rw[hm]⟩
   have h3':dM r=true:=h3;have e:=w6 h3';rw[if_pos hm];show _=nc (-((OI r:Nat):Int))
   cases k:OI r with
   |zero=>
    rw[k] at e;exact absurd (by rw[←e,wY]) h1
   |succ m=>
    rw[k] at e;show 45::r=45::dg (m+1);rw[e]
  .have h3':dM w=true:=by
    unfold fg at h3
    rwa [if_neg hm] at h3
   rw[if_neg hm];exact(w6 h3').symm
theorem AS{w:List Nat}{v:NG}(h:eV w=some v)(n:Nat):w=cst n v:=by
 unfold eV at h
 by_cases hm:w.head? = some 39
 .rw[if_pos hm] at h
  injection h with h
  subst h;rw[iR,bf]
  cases w with
  |nil=>cases hm
  |cons c r=>simp at hm;rw[hm];rfl
 .rw[if_neg hm] at h
  obtain⟨i,hi,rfl⟩:=Ol.mp h;rw[iS];exact CG hi
theorem Ag{l r:List Nat}{v:NG}(h:eU l=some (v,r))(n:Nat):l=cst n v++r:=by
 unfold eU at h;obtain⟨x,hx,e⟩:=Ol.mp h
 injection e with e1 e2
 subst e1 e2;rw[←AS hx n];have h2:W l <+: l:=QH _;obtain⟨t,ht⟩:=h2
 have h3:l.drop (W l).length=t:=by
  have:=congrArg (List.drop (W l).length) ht;rw[List.drop_left] at this;exact this.symm
 rw[h3];exact ht.symm
theorem head_cons{l:List Nat}{c:Nat}(h:l.head? = some c):l=c::l.tail:=by
 cases l with
 |nil=>cases h
 |cons d r=>simp at h;rw[h];rfl
theorem tQ{val:List Nat->Option (NG×List Nat)}{f:NG->List Nat}(hv:∀l v r,val l=some (v,r)->l=f v++r) :
  ∀(n:Nat) (acc:List NG) (l:List Nat) (v:NG) (r:List Nat),d6 val n acc l=some (v,r)->∃d ds,v=.tuple (acc++d::ds)/\l=a9 [44] ((d::ds).map f)++41::r
 |0,acc,l,v,r,e=>by cases e
 |n+1,acc,l,v,r,e=>by
  unfold d6 at e
  cases hx:val l with
  |none=>rw[hx] at e;cases e
  |some p=>
   obtain⟨x,q⟩:=p;rw[hx] at e;have hl:=hv l x q hx
   by_cases c1:q.head? = some 41
   .simp only[c1,if_true] at e
    injection e with e
    injection e with e1 e2
    refine⟨x,[],e1.symm,?_⟩;rw[hl,head_cons c1,e2];rfl
   .by_cases c2:q.head? = some 44
    .simp only[c1,c2,if_true,if_false] at e
     obtain⟨d,ds,e1,e2⟩:=tQ hv n _ _ _ _ e;refine⟨x,d::ds,by rw[e1];simp,?_⟩;rw[hl,head_cons c2,e2];rw[Oi,Oi,Oi,e9,e9];simp
    .simp only[c1,c2,if_false] at e
     cases e
theorem ug:∀(n:Nat) (l:List Nat) (v:NG) (r:List Nat),cC n l=some (v,r)->l=cst n v++r
 |n,l,v,r,e=>by
  by_cases h:l.head? = some 40
  .cases n with
   |zero=>unfold cC at e;rw[if_pos h] at e;cases e
   |succ n=>
    unfold cC at e;rw[if_pos h] at e
    by_cases c:l.tail.head? = some 41
    .rw[if_pos c] at e
     injection e with e
     injection e with e1 e2
     rw[head_cons h,head_cons c,e2,←e1];rfl
    .rw[if_neg c] at e
     obtain⟨d,ds,e1,e2⟩:=tQ (ug n) _ _ _ _ _ e;rw[head_cons h,e2,e1];show _=40::(a9 [44] ((d::ds).map (cst n))++[41])++r;simp
  .rw[uV h] at e
   exact Ag e n
def df(l:List Nat):Option PyData:=match cC 4 l with
 |some (v,[])=>if aE v=true then some v else none
 |_=>none
theorem Bl{v:NG}(h:aE v=true):aG 4 v=true:=by
 unfold aE at h;simp at h;exact h.1
theorem pw{v:NG}(h:aE v=true):df (cst 4 v)=some v:=by
 have:=val_back 4 v (Bl h) [] (fun c hc=>by cases hc);rw[PU] at this;unfold df;rw[this];show (if aE v=true then some v else none)=_;rw[if_pos h]
theorem kc{l:List Nat}{v:NG}(h:df l=some v):aE v=true/\l=cst 4 v:=by
 unfold df at h;split at h
 .rename_i x hx
  split at h
  .rename_i hv
   injection h with h
   subst h;exact⟨hv,by simpa using ug 4 _ _ _ hx⟩
  .cases h
 .cases h
theorem wa{l r:List Nat}{v:NG}(hl:l.length<=2000)(hc:∀c∈l,c<128)(h:eU l=some (v,r)):Sm v:=by
 obtain⟨v',h1,h2⟩:=Ol.mp h;cases h2;have hw:W l <+: l:=QH _;unfold eV at h1;split at h1
 .injection h1 with h1
  subst h1;refine Sm.mkS ?_ fun c hc'=>?_
  .rw[bz,QS]
   have:=hw.length_le;omega
  .rw[show (mk (W l).tail).cps.toList=(W l).tail from bf _] at hc'
   exact hc c (hw.subset (RF hc'))
 .obtain⟨i,_,rfl⟩:=Ol.mp h1
  simp[Sm,smB]
theorem wI{val:List Nat->Option (NG×List Nat)}(hs:Suf val)(hv:∀l v r,l.length<=2000->(∀c∈l,c<128)->val l=some (v,r)->Sm v) :
  ∀(n:Nat) (acc:List NG) (l:List Nat) (v:NG) (r:List Nat),l.length<=2000->(∀c∈l,c<128)->(∀d∈acc,Sm d)->d6 val n acc l=some (v,r)->Sm v
 |0,_,_,_,_,_,_,_,e=>by cases e
 |n+1,acc,l,v,r,hl,hc,ha,e=>by
  unfold d6 at e
  cases hx:val l with
  |none=>rw[hx] at e;cases e
  |some q=>
   obtain⟨v1,r1⟩:=q;have s1:=hs l v1 r1 hx;have m1:=hv l v1 r1 hl hc hx
   have ha':∀d∈acc++[v1],Sm d:=fun d hd=>by
    rcases Ob.mp hd with z|z
    .exact ha d z
    .rw[NY.mp z];exact m1
   rw[hx] at e;dsimp only at e;split at e
   .cases e
    exact Sm.tup ha'
   .split at e
    .have s2:=(PD r1).trans s1
     exact wI hs hv n _ _ _ _ (Of s2.length_le hl) (fun c hc'=>hc c (s2.subset hc')) ha' e
    .cases e
theorem vX:∀(n:Nat) (l:List Nat) (v:NG) (r:List Nat),l.length<=2000->(∀c∈l,c<128)->cC n l=some (v,r)->Sm v
 |0,l,v,r,hl,hc,e=>by
  unfold cC at e;split at e
  .cases e
  .exact wa hl hc e
 |n+1,l,v,r,hl,hc,e=>by
  unfold cC at e;split at e
  .split at e
   .cases e
    exact Sm.tup fun d hd=>by cases hd
   .have s2:=PD l
    exact wI (m7 n) (fun l v r=>vX n l v r) _ _ _ _ _ (Of s2.length_le hl) (fun c hc'=>hc c (s2.subset hc')) (fun d hd=>by cases hd) e
  .exact wa hl hc e
theorem Ca{x:Str}(T:Tp)(h:x.length<=2000)(hc:∀c∈cd x,c<128):eL [.d (.str x)] T=some (eZ (df (cd x)),T):=by
 have hz:x.length<=sizeLine:=Of h (by decide);have e:=qZ (t:=x) (T:=T) (Of h (by decide)) 4 25 (by decide) (cd x) (Vf _);rw[bJ,WE] at e;have e':dw 25 [.d (.str x),.d (.int 0),.d (.int 4)] T=some (dJ x.length (cC 4 (cd x)),T):=e;unfold df
 cases hv:cC 4 (cd x) with
 |none=>
  rw[hv] at e';simp[eL,e',dJ,isNone,eZ]
 |some q=>
  obtain⟨v,r⟩:=q;have hs:=(m7 4 _ _ _ hv).length_le;rw[bJ] at hs;have sm:=vX 4 _ _ _ (by rw[bJ];exact h) hc hv;have iv:=qY T sm;rw[hv] at e'
  cases r with
  |nil=>
   have e2:dw 25 [.d (.str x),.d (.int 0),.d (.int 4)] T=some (.tuple [v,.int (x.length:Int)],T):=e'
   cases hi:aE v with
   |true=>
    rw[hi] at iv;simp[eL,e2,isNone,ji,jh,hz,iv,eZ,hi]
   |false=>
    rw[hi] at iv;simp[eL,e2,isNone,ji,jh,hz,iv,eZ,hi]
  |cons a r=>
   rw[Ou] at hs;have e2:dw 25 [.d (.str x),.d (.int 0),.d (.int 4)] T=some (.tuple [v,.int ((x.length-(r.length+1):Nat):Int)],T):=e'
   have lt:((x.length-(r.length+1):Nat):Int)<(x.length:Int):=by omega
   generalize ((x.length-(r.length+1):Nat):Int)=N at e2 lt;simp[eL,e2,isNone,ji,jh,hz,eZ,lt]
structure PI(j:Nat)(S:Stk):Prop where
 ne:S≠[]
 len:S.length<=j+1
 rows:∀r∈S,r.length<=j/\∀d∈r,TI d
theorem PI.up{j:Nat}{S:Stk}(h:PI j S):PI (j+1) S:=⟨h.ne,by have:=h.len;omega,fun r hr=>⟨by have:=(h.rows r hr).1;omega,(h.rows r hr).2⟩⟩
theorem PI.app{j:Nat}{ys:List NG}{s:Stk}{d:NG}(h:PI j (ys::s))(hd:TI d):PI (j+1) ((ys++[d])::s):=⟨by simp,by have:=h.len;simp at this ⊢;omega,fun r hr=>by
 rcases NR.mp hr with rfl|z
 .have:=h.rows ys NI
  refine⟨by simp;omega,fun x hx=>?_⟩
  rcases Ob.mp hx with q|q
  .exact this.2 x q
  .rw[NY.mp q];exact hd
 .exact h.up.rows r (NJ _ z)⟩
theorem PI.push{j:Nat}{S:Stk}(h:PI j S):PI (j+1) ([]::S):=⟨by simp,by have:=h.len;simp;omega,fun r hr=>by
 rcases NR.mp hr with rfl|z
 .exact⟨Pi _,fun d hd=>by cases hd⟩
 .exact h.up.rows r z⟩
theorem PI.pop{j:Nat}{ys zs:List NG}{s:Stk}(h:PI j (ys::zs::s)):PI (j+1) ((zs++[.tuple ys])::s):=by
 have g:PI j (zs::s):=⟨by simp,by have:=h.len;simp at this ⊢;omega,fun r hr=>h.rows r (NJ _ hr)⟩;exact g.app (.tup (h.rows ys NI).2)
theorem EM{w:List Nat}(h:has "0123456789" (mk w)=true):Qn w:=fun c hc=>by
 unfold has at h;rw[Oe] at h;have e:(mk w).cps.toList=w:=bf _
 have f:(NH "0123456789").cps.toList=[48,49,50,51,52,53,54,55,56,57]:=by decide +kernel
 have:=of_decide_eq_true (h c (by rw[e];exact hc));rw[f] at this;simp at this;omega
theorem EI{w:List Nat}(h:Qn (fgW w))(hne:fgW w≠[])(hl:w.length<25):∃i,VP (mk w)=some i:=by
 unfold fgW at h hne;split at h
 .rename_i h1
  rw[if_pos h1] at hne
  have e:w=45::w.tail:=by
   cases w with
   |nil=>cases h1
   |cons a r=>cases h1;rfl
  exact⟨_,Vl (x:=mk w) (cs:=w.tail) (by rw[show (mk w).cps.toList=w from bf w];exact e) h hne (by rw[bz];omega)⟩
 .rename_i h1
  rw[if_neg h1] at hne;exact⟨_,TX (x:=mk w) (by rw[show (mk w).cps.toList=w from bf w];exact h) (by rw[show (mk w).cps.toList=w from bf w];exact hne) (by show (cd (mk w)).length<=_;rw[bf];omega)⟩
section
variable {t:NG}{T:Tp}{o2 o3 o4:Option D.W}{ys:List NG}{s:Stk}
theorem Fv{w:List Nat}{j:Nat}(hl:w.length<=9000)(hc:∀c∈w,c<128)(h:PI j (ys::s))(hj:j<9000):∃o o4' S',vbB (ρV t (some (.d (.str (mk w)))) o3 o4) (ys::s) T=some ((.nx,ρV t (some (.d (.str (mk w)))) o o4',S'),T)/\PI (j+1) S':=by
 have hs:s.length<9001:=by have:=h.len;simp at this;omega
 by_cases h40:w=[40]
 .subst h40
  exact⟨_,_,_,vW (by omega),h.push⟩
 have e1:=d0 (w:=w) (s:="(") (l:=[40]) (by decide +kernel);have e2:=d0 (w:=w) (s:=")") (l:=[41]) (by decide +kernel);have e3:=lP w (s:="'") (c:=39) (by decide +kernel);have e4:=d0 (w:=fgW w) (s:="") (l:=[]) (by decide +kernel)
 have hy:ys.length<100000:=by have:=(h.rows ys NI).1;omega
 have lw:(mk w).length<=sizeLine:=Of (by rw[bz];exact hl) (by decide:9000<=NS)
 have lf:(fgW w).length<=w.length:=by
  unfold fgW;split
  .rw[QS];omega
  .exact NT _
 have lf':(mk (fgW w)).length<=sizeLine:=Of (by rw[bz];omega) (by decide:9000<=NS)
 have lo:∀c∈(mk (fgW w)).cps.toList,c<128:=fun c hcc=>by
  have e:(mk (fgW w)).cps.toList=fgW w:=bf _;rw[e] at hcc;refine hc c ?_;unfold fgW at hcc;split at hcc
  .exact RF hcc
  .exact hcc
 obtain⟨l,hcp,hle⟩:=kz (y:=NH "0123456789") (x:=mk (fgW w)) (T:=[]) (ρ:=[some (.d t),some (.loc (.list ((ys::s).reverse.map .list))),some (.d (.str (mk w))),some (.d (.str (mk (fgW w)))),o4]) (ax (ag dX (aa 0) (fC (.str "0123456789")))) lo fun z=>by simp;rfl
 have tail:(w=[41]->s=[])->∃o o4' S',vbB (ρV t (some (.d (.str (mk w)))) o3 o4) (ys::s) T=some ((.nx,ρV t (some (.d (.str (mk w)))) o o4',S'),T)/\PI (j+1) S':=fun h41=>by
  have t41:¬(w=[41]/\(1:Int)<((s.length:Int)+1)):=fun z=>by
   have:=h41 z.1;rw[this] at z;simp at z
  by_cases h39:w.head? = some 39
  .have e5:w=39::w.tail:=by
    cases w with
    |nil=>cases h39
    |cons a r=>cases h39;rfl
   have n41:¬w=[41]:=fun z=>by rw[z] at h39;cases h39
   have sl:OZ (mk w) (some 1) none=mk w.tail:=dC (by rw[iG (by decide) (by rw[bz,e5];simp;omega),bf,bf];rw[e5];rfl);have hti:TI (.str (mk w.tail)):=.str (by rw[bz,QS];omega) fun c hcc=>hc c (RF (by rw[show (mk w.tail).cps.toList=w.tail from bf _] at hcc;exact hcc));exact⟨some (.d (.str (mk (fgW w)))),o4,_,il hl (by simp[vbJ,cE,e1,e2,e3,h40,n41,h39,lw,sl,hy]),h.app hti⟩
  .by_cases hd:fgW w≠[]/\w.length<25/\has "0123456789" (mk (fgW w))=true
   .obtain⟨d1,d2,d3⟩:=hd
    obtain⟨i,hi⟩:=EI (EM d3) d1 d2
    have n41:¬w=[41]:=fun z=>by
     rw[z] at d3;exact absurd d3 (by decide +kernel)
    have l2:((mk w).length:Int)<25:=by rw[bz];omega
    have l3:(mk w).length<=640:=by rw[bz];omega
    rw[d3] at hle;simp at hcp;exact⟨some (.d (.str (mk (fgW w)))),o4,_,il hl (by simp[vbJ,cE,e1,e2,e3,e4,h40,n41,h39,d1,lw,l2,l3,lf',hy,hcp,hle,hi]),h.app (.int i)⟩
   .refine⟨_,_,_,il hl (r:=some ((.nx,ρV t (some (.d (.str (mk w)))) (some (.d (.str (mk (fgW w))))) o4,ys::s),T)) ?_,h.up⟩
    simp at hcp
    have key:¬fgW w=[]->((mk w).length:Int)<25->has "0123456789" (mk (fgW w))=false:=fun q1 q2=>by
     cases hh:has "0123456789" (mk (fgW w)) with
     |false=>rfl
     |true=>exact absurd ⟨q1,by rw[bz] at q2;omega,hh⟩ hd
    by_cases q0:w=[41]
    .have s0':=h41 q0
     subst q0;subst s0'
     have hq:has "0123456789" (mk (fgW [41]))=false:=by decide +kernel
     rw[hq] at hle;have f41:fgW [41]=[41]:=rfl;rw[f41] at e4 lf' hcp;simp at hcp
     have l25:((mk [41]).length:Int)<25:=by decide +kernel
     simp[vbJ,cE,e1,e2,e3,e4,lw,lf',f41,hcp,hle,l25]
    .by_cases q1:fgW w=[]
     .rw[q1] at e4 ⊢
      simp[vbJ,cE,e1,e2,e3,e4,h40,q0,h39,lw]
     .by_cases q2:((mk w).length:Int)<25
      .rw[key q1 q2] at hle
       simp[vbJ,cE,e1,e2,e3,e4,h40,q0,h39,q1,lw,lf',q2,hcp,hle]
      .simp[vbJ,cE,e1,e2,e3,e4,h40,q0,h39,q1,lw,q2]
 by_cases h41:w=[41]
 .cases s with
  |nil=>exact tail fun _=>rfl
  |cons zs s=>
   subst h41;have hz:=(h.rows zs (by simp)).1;exact⟨_,_,_,uU (by omega),h.pop⟩
 .exact tail fun z=>absurd z h41
theorem xF:∀(ws:List (List Nat)) (j:Nat) (S:Stk) (o2 o3 o4:Option D.W),(∀w∈ws,w.length<=9000/\∀c∈w,c<128)->PI j S->j+ws.length<=9000->∃p2 p3 p4 S',dG 2 vbB (wS ws) (ρV t o2 o3 o4) S T=some ((.nx,ρV t p2 p3 p4,S'),T)/\PI (j+ws.length) S'
 |[],j,S,o2,o3,o4,_,h,_=>⟨o2,o3,o4,S,rfl,h⟩
 |w::ws,j,S,o2,o3,o4,hw,h,hj=>by
  simp only[Ou] at hj
  cases S with
  |nil=>exact absurd rfl h.ne
  |cons ys s=>
   have hw0:=hw w NI;obtain⟨o,p,S',e,g⟩:=Fv (t:=t) (T:=T) (o3:=o3) (o4:=o4) hw0.1 hw0.2 h (by omega);obtain⟨p2,p3,p4,S2,e2,g2⟩:=xF ws (j+1) S' (some (.d (.str (mk w)))) o p (fun x hx=>hw x (NJ _ hx)) g (by omega);refine⟨p2,p3,p4,S2,(g9 (by exact e)).trans e2,?_⟩;rw[Ou,show j+(ws.length+1)=j+1+ws.length by omega];exact g2
end
theorem EL{a:Nat}{ls:List (List Nat)}{w:List Nat}(h:w∈hdC a ls):w∈ls\/w=[a]\/∃v∈ls,w=a::v:=by
 cases ls with
 |nil=>simp[hdC] at h;exact .inr (.inl h)
 |cons v r=>
  simp[hdC] at h
  rcases h with h|h
  .exact .inr (.inr ⟨v,NI,h⟩)
  .exact .inl (NJ _ h)
theorem v8(c:Nat):∀(l:List Nat) (w:List Nat),w∈spl c l->w.length<=l.length/\∀a∈w,a∈l
 |[],w,h=>by simp[spl] at h;rw[h];exact⟨NT _,fun a ha=>ha⟩
 |a::l,w,h=>by
  have ih:=v8 c l
  by_cases hc:a=c
  .rw[spl,if_pos hc] at h
   rcases NR.mp h with rfl|z
   .exact⟨Pi _,fun a ha=>by cases ha⟩
   .exact⟨by have:=(ih w z).1;simp;omega,fun b hb=>NJ _ ((ih w z).2 b hb)⟩
  .rw[spl,if_neg hc] at h
   rcases EL h with z|rfl|⟨v,hv,rfl⟩
   .exact⟨by have:=(ih w z).1;simp;omega,fun b hb=>NJ _ ((ih w z).2 b hb)⟩
   .exact⟨by simp,fun b hb=>by rw[NY.mp hb];exact NI⟩
   .exact⟨by have:=(ih v hv).1;simp;omega,fun b hb=>(NR.mp hb).elim (fun q=>by rw[q];exact NI) fun q=>NJ _ ((ih v hv).2 b q)⟩
theorem um(c:Nat):∀(l:List Nat),(spl c l).length<=l.length+1
 |[]=>by simp[spl]
 |a::l=>by
  have ih:=um c l
  by_cases hc:a=c
  .rw[spl,if_pos hc];simp;omega
  .rw[spl,if_neg hc]
   cases hs:spl c l with
   |nil=>simp[hdC]
   |cons v r=>rw[hs] at ih;simp[hdC] at ih ⊢;omega
theorem vZ{c:Nat}{z l:List Nat}{a:Nat}(h:a∈sub c z l):a∈z\/a∈l:=by
 obtain⟨b,hb,h2⟩:=List.mem_flatMap.mp h;split at h2
 .exact .inl h2
 .rw[NY.mp h2];exact .inr hb
theorem Fs{l:List Nat}(hl:l.length<=900)(hc:∀c∈l,c<128):(wdl l).length<=8200/\∀w∈wdl l,w.length<=9000/\∀c∈w,c<128:=by
 have h1:=sub_len 40 z1 rfl l;have h2:=sub_len 41 z2 rfl (sub 40 z1 l);have h3:=um 44 (sub 41 z2 (sub 40 z1 l));refine⟨by unfold wdl;omega,fun w hw=>?_⟩;have h4:=v8 44 _ w hw;refine⟨by omega,fun c hcw=>?_⟩
 rcases vZ (h4.2 c hcw) with q|q
 .simp[z2] at q;omega
 .rcases vZ q with q|q
  .simp[z1] at q;omega
  .exact hc c q
def vlL(l:List Nat):List PyData:=match df l with
 |some v=>[v]
 |none=>[]
theorem Ft{l:List Nat}{v:NG}(h:aE v=true)(e:l=cst 4 v):vlL l=[v]:=by
 unfold vlL;rw[e,pw h]
section
variable {T:Tp}
theorem xY{d:NG}(h:vbA (ρV d none none none) [[]] T=some ((.rt (.list []),ρV d none none none,[[]]),T)):eG [.d d] T=some (.list [],T):=by
 rw[rK]
 have hO:fT 1 (b6 vbA (b6 (kFor 2 vbI vbB) (b6 vbE gC))) (ρV d none none none) T=some ((.rt (.list []),ρV d none none none),T):=by
  show (if _ then _ else _)=_;rw[if_pos ⟨rfl,(by decide:1<5),rfl⟩,hJ,h];rfl
 show cZ (fT 1 _ (ρV d none none none) T)=_;rw[hO];rfl
theorem BF{d:NG}(h:kd d≠.str):eG [.d d] T=some (.list [],T):=xY (by
 have hi:bg (kd d) .str=false:=by cases d <;> first|rfl|exact absurd rfl h
 simp[vbA,cE,hi,kNo])
theorem EC{l:List Nat}(h:900<l.length):df l=none:=by
 cases hv:df l with
 |none=>rfl
 |some v=>
  obtain⟨h1,h2⟩:=kc hv;have:=qx h1;rw[bz,←h2] at this;omega
theorem IW{x:Str}(hl:x.length<=2000)(hc:∀c∈cd x,c<128):eG [.d (.str x)] T=some (.list (vlL (cd x)),T):=by
 have l1:x.length<=sizeLine:=bZ hl
 by_cases h9:x.length<=900
 .have l2:¬(900:Int)<(x.length:Int):=by omega
  have hA:vbA (ρV (.str x) none none none) [[]] T=some ((.nx,ρV (.str x) none none none,[[]]),T):=by
   simp[vbA,cE,ly,l1,l2]
  have w:=words_of x
  have wS':(Qi (OC (OC x "(" ",(,") ")" ",),") ",").map ON=wS (wdl (cd x)):=by
   rw[←w,wS,Pt]
   exact OF fun x _=>by simp[i7]
  have r1:(OC x "(" ",(,").length<=3*900:=by
   have q:NH "("=⟨#[40]⟩:=by decide +kernel
   have q4:cd ",(,"=z1:=by decide +kernel
   rw[←bJ,q,ju,q4];have:=sub_len 40 z1 rfl (cd x);rw[bJ] at this;omega
  have r2:(OC (OC x "(" ",(,") ")" ",),").length<=9*900:=by
   have q:NH ")"=⟨#[41]⟩:=by decide +kernel
   have q4:cd ",),"=z2:=by decide +kernel
   rw[←bJ,q,ju,q4];have:=sub_len 41 z2 rfl (cd (OC x "(" ",(,"));rw[bJ] at this;omega
  have hI:vbI (ρV (.str x) none none none) T=some (wS (wdl (cd x)),T):=by
   have d1:fW "(" ",(," (.str x)=some (.str (OC x "(" ",(,")):=if_pos ⟨by omega,by decide,by decide⟩;have d2:fW ")" ",)," (.str (OC x "(" ",(,"))=some (.str (OC (OC x "(" ",(,") ")" ",),")):=if_pos ⟨by omega,by decide,by decide⟩
   have d3:jB (.str (OC (OC x "(" ",(,") ")" ",),")) (.str ",")=some (.list (wS (wdl (cd x)))):=by
    rw[←wS'];exact if_pos ⟨by decide,Of (by omega:_<=16000) (by decide)⟩
   simp[vbI,lA,d1,d2,d3]
  obtain⟨wl,wo⟩:=Fs (by rw[bJ];exact h9) hc;obtain⟨o2,o3,o4,S,e,pi⟩:=xF (t:=.str x) (T:=T) (wdl (cd x)) 0 [[]] none none none wo ⟨by simp,by simp,fun r hr=>by rw[NY.mp hr];exact⟨NT _,fun d hd=>by cases hd⟩⟩ (by omega)
  have hF:(kFor 2 vbI vbB) (ρV (.str x) none none none) [[]] T=some ((.nx,ρV (.str x) o2 o3 o4,S),T):=by
   show bnd _ _=_;rw[hI];exact e
  have lS:S.length<=9000:=by have:=pi.len;omega
  have fin:(b6 vbE gC) (ρV (.str x) o2 o3 o4) S T=some ((.rt (.list (vlL (cd x))),ρV (.str x) o2 o3 o4,S),T):=by
   have no:vbE (ρV (.str x) o2 o3 o4) S T=some ((.rt (.list []),ρV (.str x) o2 o3 o4,S),T)->df (cd x)=none->(b6 vbE gC) (ρV (.str x) o2 o3 o4) S T=some ((.rt (.list (vlL (cd x))),ρV (.str x) o2 o3 o4,S),T):=fun q q2=>by
    rw[hJ,q];unfold vlL;rw[q2];rfl
   have none_of:(∀v,aE v=true->S=[[v]]->cd x=cst 4 v->False)->df (cd x)=none:=fun q=>by
    cases hv:df (cd x) with
    |none=>rfl
    |some v=>
     obtain⟨h1,h2⟩:=kc hv;obtain⟨p2,p3,p4,e'⟩:=qz (t:=.str x) (T:=T) 4 v (b9 h1).1 [] [] [] none none none (by simp) (by simp);rw[PU,←h2,e] at e';have e2:some ((Fl.nx,ρV (.str x) o2 o3 o4,S),T)=some ((Fl.nx,ρV (.str x) p2 p3 p4,[[v]]),T):=e';simp only[Option.some.injEq,Prod.mk.injEq] at e2;exact(q v h1 e2.1.2.2 h2).elim
   cases S with
   |nil=>exact absurd rfl pi.ne
   |cons r S=>
    cases S with
    |cons r2 S=>
     refine no ?_ (none_of fun v _ z _=>by simp at z)
     have l1:(1:Int)<((S.length:Int)+1+1):=by omega
     simp[vbE,cE];intro z;omega
    |nil=>
     match r,pi.rows r NI,none_of,no with
     |[],_,none_of,no=>
      refine no ?_ (none_of fun v _ z _=>by simp at z);simp[vbE,cE]
     |a::b::r,hr,none_of,no=>
      refine no ?_ (none_of fun v _ z _=>by simp at z)
      have l1:¬((r.length:Int)+1+1=1):=by omega
      simp[vbE,cE,l1]
     |[v],hr,none_of,no=>
      have tv:=hr.2 v (by simp);have lv:=fun T=>xo (d:=v) T tv
      cases hv:aE v with
      |false=>
       refine no ?_ (none_of fun u hu z _=>by simp at z;rw[z,hu] at hv;cases hv);simp[vbE,cE,lv,hv]
      |true=>
       have ls:=fun T=>kT T hv
       by_cases hx:cst 4 v=cd x
       .have hm:mk (cst 4 v)=x:=by rw[hx,i7]
        rw[Ft hv hx.symm,hJ];simp[vbE,cE,lv,ls,hv,hm];rfl
       .have hm:¬mk (cst 4 v)=x:=fun z=>hx (by rw[←z,bf])
        refine no ?_ (none_of fun u hu z z2=>by simp at z;rw[←z] at z2;exact hx z2.symm);simp[vbE,cE,lv,ls,hv,hm]
  rw[rK]
  have hO:fT 1 (b6 vbA (b6 (kFor 2 vbI vbB) (b6 vbE gC))) (ρV (.str x) none none none) T=some ((.rt (.list (vlL (cd x))),ρV (.str x) none none none),T):=by
   show (if _ then _ else _)=_;rw[if_pos ⟨rfl,(by decide:1<5),rfl⟩,hJ,hA];show nT _ (bnd _ _)=_;rw[cS,kI,hJ,hF,cS,kI,fin];rfl
  show cZ (fT 1 _ (ρV (.str x) none none none) T)=_;rw[hO];rfl
 .have l2:(900:Int)<(x.length:Int):=by omega
  unfold vlL;rw[EC (by rw[bJ];omega)];exact xY (by simp[vbA,cE,ly,l1,l2,kNo])
end
theorem EB{v:NG}(h:aE v=true):neG (.list [v]) (.list [])=some (.bool true):=by
 have h1:Ov (.list [v])=true:=mv fun d hd=>by rw[NY.mp hd];exact(b9 h).1
 have h2:Ov (.list [])=true:=mv (l:=[]) (by simp);unfold neG;rw[if_pos ⟨h1,h2⟩];simp[OO,P6]
theorem vn:neG (.list []) (.list [])=some (.bool false):=by
 have h2:Ov (.list [])=true:=mv (l:=[]) (by simp);unfold neG;rw[if_pos ⟨h2,h2⟩];simp[OO,P6]
inductive Od:NG->Prop where
 |non:Od .none
 |bl (b:Bool):Od (.bool b)
 |int (i:Int):Od (.int i)
 |str {x:Str}:x.length<=2000->(∀c∈cd x,c<128)->Od (.str x)
 |tup {ds:List NG}:ds.length<=1000->(∀d∈ds,Od d)->Od (.tuple ds)
 |lst (ds:List NG):Od (.list ds)
 |dct (ds:List (NG×NG)):Od (.dict ds)
def d8:NG->Bool
 |.str x=>(df (cd x)).isSome
 |_=>false
def prS:NG->Bool
 |.tuple [a,b]=>isName a&&d8 b
 |_=>false
def edS:NG->Bool
 |.tuple [.str a,b]=>if a=NH "made" then d8 b else (decide (a=NH "fails")||decide (a=NH "wants"))&&isName b
 |_=>false
def lnS:NG->Bool
 |.tuple [a,.tuple rs,e]=>isName a&&decide (rs.length<=12)&&rs.all prS&&edS e
 |_=>false
theorem rS{d:NG}(h:Od d)(T:Tp):fN [.d d] T=some (.bool (isName d),T):=by
 cases h with
 |str hl hc=>exact vS T (Sm.mkS (by omega) hc)
 |_=>rfl
theorem qX{d:NG}(h:Od d)(T:Tp):dS [.d d] T=some (.bool (isName d),T):=by
 cases h with
 |@str x hl hc=>
  have hz:x.length<=sizeLine:=bZ hl;have e:isName (.str x)=(decide (1<=x.length)&&decide (x.length<=8)&&has LET x):=rfl
  obtain⟨l,hc,hl⟩:=kz (y:=LET) (x:=x) (T:=T) (ρ:=[some (.d (.str x))]) (ax (ag dX (aa 0) (fC (.str "abcdefghijklmnopqrstuvwxyz")))) hc fun z=>by simp;rfl
  by_cases h1:1<=x.length
  .have h1':¬(x.length:Int)<1:=by omega
   by_cases h8:x.length<=8
   .have h8':¬(8:Int)<(x.length:Int):=by omega
    simp[dS,hz,h1',h8',hc,hl,e,h1,h8]
   .have h8':(8:Int)<(x.length:Int):=by omega
    simp[dS,hz,h1',h8',e,h1,h8]
  .have h1':(x.length:Int)<1:=by omega
   simp[dS,hz,h1',e,h1]
 |_=>rfl
theorem Cb{v:NG}(h:aE v=true):isNone v=false:=by cases v <;> first|rfl|exact absurd h (by decide)
theorem xm{d:NG}(h:Od d)(T:Tp):jo [.d d] T=some (.bool (d8 d),T):=by
 cases h with
 |@str x hl hc=>
  have e:=fun T=>Ca (x:=x) T hl hc;have hi:bg .str .str=true:=rfl
  cases hv:df (cd x) with
  |none=>
   rw[hv] at e;simp[jo,hi,e,eZ,d8,hv,jG,isNone]
  |some v=>
   rw[hv] at e;have:=Cb (kc hv).1;simp[jo,hi,e,eZ,d8,hv,jG,this]
 |_=>rfl
theorem IU{d:NG}(h:Od d):∃l,(∀T,eG [.d d] T=some (.list l,T))/\neG (.list l) (.list [])=some (.bool (d8 d)):=by
 have other:kd d≠.str->∃l,(∀T,eG [.d d] T=some (.list l,T))/\neG (.list l) (.list [])=some (.bool (d8 d)):=fun hk=>
  ⟨[],fun T=>BF hk,by
   have:d8 d=false:=by cases d <;> first|rfl|exact absurd rfl hk
   rw[this];exact vn⟩
 cases h with
 |@str x hl hc=>
  refine⟨_,fun T=>IW hl hc,?_⟩;unfold vlL
  cases hv:df (cd x) with
  |none=>simp only[d8,hv];exact vn
  |some v=>simp only[d8,hv];exact EB (kc hv).1
 |_=>exact other (by intro z;cases z)
theorem Hm{d:NG}(h:Od d)(T:Tp):jp [.d d] T=some (.bool (prS d),T):=by
 cases h with
 |@tup ds hl ho=>
  have hi:bg .tup .tup=true:=rfl
  match ds,hl,ho with
  |[],_,_=>rfl
  |[a],_,_=>rfl
  |[a,b],_,ho=>
   have n:=rS (ho a (by simp));have s:=xm (ho b (by simp))
   cases hn:isName a <;> simp[jp,hi,n,s,hn,prS]
  |a::b::c::r,hl,_=>
   have l1:¬((r.length:Int)+1+1+1=2):=by omega
   simp[jp,hi,l1,prS]
 |_=>rfl
theorem Ff{d:NG}(h:Od d)(T:Tp):kl [.d d] T=some (.bool (match d with | .tuple rs=>decide (rs.length<=12)&&rs.all prS|_=>false),T):=by
 cases h with
 |@tup ds hl ho=>
  have hi:bg .tup .tup=true:=rfl
  have hc:ck cw (au jp (ae (aa 0) ah)) [some (.d (.tuple ds))] ds T=some (ds.map fun x=>.bool (prS x),T):=fO fun x hx=>by
   simp[Hm (ho x hx)]
  have hb:∀ds:List NG,gA (ds.map fun x=>.bool (prS x))=some (ds.map prS):=fun ds=>by
   induction ds with
   |nil=>rfl
   |cons x r ih=>simp[gA,ih]
  have ha:iB [.list (ds.map fun x=>.bool (prS x))]=some (.bool (ds.all prS)):=by
   simp[iB,hb]
  by_cases h12:ds.length<=12
  .have h12':¬(12:Int)<(ds.length:Int):=by omega
   simp[kl,hi,h12',hc,ha,h12]
  .have h12':(12:Int)<(ds.length:Int):=by omega
   simp[kl,hi,h12',h12]
 |_=>rfl
theorem IV{d:NG}(h:Od d)(T:Tp):gX [.d d] T=some (.bool (edS d),T):=by
 cases h with
 |@tup ds hl ho=>
  have hi:bg .tup .tup=true:=rfl
  match ds,hl,ho with
  |[],_,_=>rfl
  |[a],_,_=>cases a <;> rfl
  |[a,b],_,ho=>
   have s:=xm (ho b (by simp));have n:=rS (ho b (by simp))
   cases ho a (by simp) with
   |@str x _ _=>
    have hs:bg .str .str=true:=rfl
    by_cases h1:x=NH "made"
    .simp[gX,hi,hs,h1,s,edS]
    .by_cases h2:x=NH "fails"
     .have:¬NH "fails"=NH "made":=by decide +kernel
      subst h2;simp[gX,hi,hs,n,edS,this,inD,inS,c8,eqF]
     .by_cases h3:x=NH "wants"
      .have q1:¬NH "wants"=NH "made":=by decide +kernel
       have q2:¬NH "wants"=NH "fails":=by decide +kernel
       subst h3;simp[gX,hi,hs,n,edS,q1,q2,inD,inS,c8,eqF]
      .have h2':¬NH "fails"=x:=fun z=>h2 z.symm
       have h3':¬NH "wants"=x:=fun z=>h3 z.symm;simp[gX,hi,hs,h1,h2,h3,h2',h3',edS,inD,inS,c8,eqF]
   |_=>rfl
  |a::b::c::r,hl,_=>
   have l1:¬((r.length:Int)+1+1+1=2):=by omega
   have:edS (.tuple (a::b::c::r))=false:=by cases a <;> rfl
   simp[gX,hi,l1,this]
 |_=>rfl
theorem yv{d:NG}(h:Od d)(T:Tp):dN [.d d,.d (.bool true)] T=some (.bool (prS d),T)/\dN [.d d,.d (.bool false)] T=some (.bool (edS d),T):=by
 cases h with
 |@tup ds hl ho=>
  have hi:bg .tup .tup=true:=rfl
  match ds,hl,ho with
  |[],_,_=>exact⟨rfl,rfl⟩
  |[a],_,_=>exact⟨rfl,by cases a <;> rfl⟩
  |[a,b],_,ho=>
   obtain⟨l,s,sn⟩:=IU (ho b (by simp));have n:=qX (ho b (by simp));have na:=qX (ho a (by simp))
   cases ho a (by simp) with
   |@str x _ _=>
    have hs:bg .str .str=true:=rfl;refine⟨?_,?_⟩
    .cases hb:d8 b with
     |true=>rw[hb] at sn;simp[dN,hi,hs,s,sn,na,prS,hb]
     |false=>rw[hb] at sn;simp[dN,hi,hs,s,sn,prS,hb]
    .by_cases h1:x=NH "made"
     .subst h1
      have nm:isName (.str "made")=true:=by decide +kernel
      cases hb:d8 b with
      |true=>rw[hb] at sn;simp[dN,hi,hs,s,sn,na,nm,edS,hb]
      |false=>rw[hb] at sn;simp[dN,hi,hs,s,sn,edS,hb]
     .by_cases h2:x=NH "fails"
      .have:¬NH "fails"=NH "made":=by decide +kernel
       subst h2;simp[dN,hi,hs,n,edS,this,inD,inS,c8,eqF]
      .by_cases h3:x=NH "wants"
       .have q1:¬NH "wants"=NH "made":=by decide +kernel
        have q2:¬NH "wants"=NH "fails":=by decide +kernel
        subst h3;simp[dN,hi,hs,n,edS,q1,q2,inD,inS,c8,eqF]
       .have h2':¬NH "fails"=x:=fun z=>h2 z.symm
        have h3':¬NH "wants"=x:=fun z=>h3 z.symm;simp[dN,hi,hs,h1,h2,h3,h2',h3',edS,inD,inS,c8,eqF]
   |_=>exact⟨rfl,rfl⟩
  |a::b::c::r,hl,_=>
   have l1:¬((r.length:Int)+1+1+1=2):=by omega
   have:edS (.tuple (a::b::c::r))=false:=by cases a <;> rfl
   exact⟨by simp[dN,hi,l1,prS],by simp[dN,hi,l1,this]⟩
 |_=>exact⟨rfl,rfl⟩
theorem nW{d:NG}(h:Od d)(T:Tp):ej [.d d] T=some (.bool (lnS d),T)/\fJ [.d d] T=some (.bool (lnS d),T):=by
 cases h with
 |@tup ds hl ho=>
  have hi:bg .tup .tup=true:=rfl
  match ds,hl,ho with
  |[],_,_=>exact⟨rfl,rfl⟩
  |[a],_,_=>exact⟨rfl,rfl⟩
  |[a,b],_,_=>cases b <;> exact⟨rfl,rfl⟩
  |[a,b,c],_,ho=>
   have n:=rS (ho a (by simp));have ln:=qX (ho a (by simp));have e:=IV (ho c (by simp));have le:=fun T=>(yv (ho c (by simp)) T).2;have r:=Ff (ho b (by simp))
   cases hn:isName a with
   |false=>
    have q:lnS (.tuple [a,b,c])=false:=by
     cases b <;> simp[lnS,hn]
    rw[q];exact⟨by simp[ej,hi,n,hn],by simp[fJ,hi,ln,hn]⟩
   |true=>
    cases ho b (by simp) with
    |@tup rs hl2 ho2=>
     have q:lnS (.tuple [a,.tuple rs,c])=((decide (rs.length<=12)&&rs.all prS)&&edS c):=by simp[lnS,hn]
     rw[q];refine⟨?_,?_⟩
     .cases hr:(decide (rs.length<=12)&&rs.all prS) <;> (simp only[hr] at r;simp[ej,hi,n,hn,r,e])
     .have c1:ck (bo (aR (au dN (ae (aa 0) (ae (fC (.bool true)) ah))))) (aa 0) [some (.d (.tuple [a,.tuple rs,c]))] rs T=some (rs.filter (fun x=>!(prS x)),T):=kb fun x hx=>by
       simp[(yv (ho2 x hx) T).1]
      have c2:eqE (.list (rs.filter fun x=>!(prS x))) (.list [])=some (.bool (rs.all prS)):=by
       rw[←filter_none];rfl
      by_cases h12:rs.length<=12
      .have h12':¬(12:Int)<(rs.length:Int):=by omega
       cases hc:edS c with
       |true=>rw[hc] at le;simp[fJ,hi,ln,hn,h12',le,c1,c2,h12]
       |false=>rw[hc] at le;simp[fJ,hi,ln,hn,h12',le]
      .have h12':(12:Int)<(rs.length:Int):=by omega
       simp[fJ,hi,ln,hn,h12',h12]
    |_=>exact⟨by simp[ej,hi,n,hn,r,lnS],by simp[fJ,hi,ln,hn,lnS,bg,kd]⟩
  |a::b::c::d::r,hl,_=>
   have l1:¬((r.length:Int)+1+1+1+1=3):=by omega
   have:lnS (.tuple (a::b::c::d::r))=false:=by cases b <;> rfl
   rw[this];exact⟨by simp[ej,hi,l1],by simp[fJ,hi,l1]⟩
 |_=>exact⟨rfl,rfl⟩
theorem v6{p:Bool}{g n:Nat}{r:NG}{gs:List NG}(h:Rg p g n r)(hl:gs.length=g)(hv:∀v∈gs,aE v=true)(hn:n<=20):StepOk p g n (stp r gs)/\∀T,cu 25 [.d r,.d (.list gs)] T=some (stp r gs,T):=by
 obtain⟨a,b,_⟩:=jA h hl hv hn;exact⟨a,fun T=>b 25 T (by omega)⟩
abbrev PR:=List (Str×NG)
def PL(l:PR):List PyData:=l.map fun q=>.tuple [.str q.1,q.2]
def bX(b:Bool)(x:Str):PyData:=.tuple [.str (NH (if b then "peeks" else "wants")),.str x]
def dH(rd pk:PR):Nat->Nat->Nat->List NG->NG->NG×Nat
 |0,i,_,_,_=>(.none,i)
 |f+1,i,j,gs,S=>match eA S with
  |none=>(S,i)
  |some (b,x,r)=>match (if b then pk[j]? else rd[i]?) with
   |none=>(bX b x,i)
   |some (y,v)=>if y=x then dH rd pk f (if b then i else i+1) (if b then j+1 else j) (gs++[v]) (stp r (gs++[v])) else (bX b x,i)
def whC:FT:=(ax (ag jQ (ag ixD (aa 6) (fC (.int 0))) (aa 3)))
def whB:FS:=(ao (aO 7 (ag d7 (aa 3) (ag ixD (aa 6) (fC (.int 0))))) (ao (aO 8 (ag d7 (aa 4) (ag ixD (aa 6) (fC (.int 0))))) (ao (fIf (bi (ax (ag geD (aa 8) (fCB aY (ae (aa 7) ah)))) (ax (ag neD (ag ixD (ag ixD (aa 7) (aa 8)) (fC (.int 0))) (ag ixD (aa 6) (fC (.int 1)))))) (av (aB .tuple (ae (aB .tuple (ae (fUn (atS [("want","wants"),("peek","peeks")]) (ag ixD (aa 6) (fC (.int 0)))) (ae (ag ixD (aa 6) (fC (.int 1))) ah))) (ae (ag d7 (aa 4) (fC (.str "want"))) ah)))) aF) (ao (da 5 (ag ixD (ag ixD (aa 7) (aa 8)) (fC (.int 1)))) (ao (oA 4 (ag ixD (aa 6) (fC (.int 0))) (ag aQ (aa 8) (fC (.int 1)))) (aO 6 (fm (cu 25) (ae (ag ixD (aa 6) (fC (.int 2))) (ae (aa 5) ah)))))))))
theorem DD{m:Nat}{ρ:Rho}{T:Tp}:bI whC whB (m+1) ρ T=bnd (whC ρ T) fun b T1=>if b=true then bnd (whB ρ T1) (j7 (bI whC whB m)) else some ((.nx,ρ),T1):=rfl
def dW(a b:NG):PyData:=.dict [(.str "want",a),(.str "peek",b)]
def rhF(r:NG)(rd pk:PR)(i j:Nat)(gs:List NG)(S:NG)(o7 o8:Option D.W):Rho:=[some (.d r),some (.d (.list (PL rd))),some (.d (.list (PL pk))),some (.loc (dW (.list (PL rd)) (.list (PL pk)))),some (.loc (dW (.int (i:Int)) (.int (j:Int)))),some (.loc (.list gs)),some (.d S),o7,o8]
@[simp] theorem Kq{s:Str}{a b:NG}:jQ (.str s) (dW a b)=some (.bool (decide (s=NH "want")||decide (s=NH "peek"))):=by
 unfold dW jQ aJ aJ aJ
 by_cases h1:NH "want"=s
 .subst h1;simp
 .by_cases h2:NH "peek"=s
  .subst h2;simp
  .have h1':¬s=NH "want":=fun z=>h1 z.symm
   have h2':¬s=NH "peek":=fun z=>h2 z.symm;simp[h1,h2,h1',h2']
@[simp] theorem ML{a b:NG}:d7 (dW a b) (.str "want")=some a:=by simp[dW,d7,aJ]
@[simp] theorem MO{a b:NG}:d7 (dW a b) (.str "peek")=some b:=by simp[dW,d7,aJ]
theorem jX{o:NG->NG->Option NG}{T:Tp}{a b y:NG}:op2 o T (.loc (dW a b)) (.d y)=mkD T (o (dW a b) y):=rfl
theorem jW{o:NG->NG->Option NG}{T:Tp}{a b y:NG}:op2 o T (.d y) (.loc (dW a b))=mkD T (o y (dW a b)):=rfl
theorem xD{r S:NG}{rd pk:PR}{i j:Nat}{gs:List NG}{o7 o8:Option D.W}{T:Tp}{w:String}{l:List NG}(hS:S=.tuple (.str (NH w)::l))(h1:¬w="want")(h2:¬w="peek")(hl:l.length=1):whC (rhF r rd pk i j gs S o7 o8) T=some (false,T):=by
 obtain⟨a,rfl⟩:∃a,l=[a]:=by
  match l,hl with
  |[a],_=>exact⟨a,rfl⟩
 subst hS;simp[whC,rhF,jW,h1,h2]
theorem Fq{r:NG}{b:Bool}{x:Str}{r':NG}{rd pk:PR}{i j:Nat}{gs:List NG}{o7 o8:Option D.W}{T:Tp}:whC (rhF r rd pk i j gs (asT b x r') o7 o8) T=some (true,T):=by cases b <;> simp[whC,rhF,jW,asT]
theorem nN{l:PR}{i:Nat}{x:Str}{v:NG}(h:l[i]? = some (x,v)):atI (PL l) (i:Int)=some (.tuple [.str x,v]):=by
 refine kY ?_;unfold PL;rw[OS,h];rfl
theorem lg(l:PR):(PL l).length=l.length:=by simp[PL]
def lJ(ρ:Rho)(a b:NG)(w k:D.W)(T:Tp):Option ((Fl×Rho)×Tp):=match w,k with
 |.d x,.d (.str s)=>if (aJ [(.str "want",a),(.str "peek",b)] s).isSome=true/\([(ON "want",a),(.str "peek",b)]).length<=1000 then some ((.nx,ρ.set 4 (some (.loc (.dict (dh [(.str "want",a),(.str "peek",b)] s x))))),T) else none
 |_,_=>none
theorem vF{fk fv:FE}{T:Tp}{a b:NG}{a0 a1 a2 a3 a5 a6 a7 a8:Option D.W}:oA 4 fk fv [a0,a1,a2,a3,some (.loc (dW a b)),a5,a6,a7,a8] T=bnd (fv [a0,a1,a2,a3,some (.loc (dW a b)),a5,a6,a7,a8] T) fun w T1=>bnd (fk [a0,a1,a2,a3,some (.loc (dW a b)),a5,a6,a7,a8] T1) (lJ [a0,a1,a2,a3,some (.loc (dW a b)),a5,a6,a7,a8] a b w):=rfl
theorem wq{ρ:Rho}{a b x:NG}{T:Tp}:lJ ρ a b (.d x) (.d (.str "want")) T=some ((.nx,ρ.set 4 (some (.loc (dW x b)))),T):=by simp[lJ,aJ,dh,dW]
theorem wu{ρ:Rho}{a b x:NG}{T:Tp}:lJ ρ a b (.d x) (.d (.str "peek")) T=some ((.nx,ρ.set 4 (some (.loc (dW a x)))),T):=by simp[lJ,aJ,dh,dW]
theorem Hr{r:NG}{b:Bool}{x:Str}{r' v S':NG}{rd pk:PR}{i j:Nat}{gs:List NG}{o7 o8:Option D.W}{T:Tp}(hq:(if b then pk[j]? else rd[i]?)=some (x,v))(hg:gs.length<=12)
  (hS:∀T,fq (cu 25) [.d r',.loc (.list (gs++[v]))] T=some (.d S',T)):∃o7' o8',whB (rhF r rd pk i j gs (asT b x r') o7 o8) T=some ((.nx,rhF r rd pk (if b then i else i+1) (if b then j+1 else j) (gs++[v]) S' o7' o8'),T):=by
 have hz:gs.length<sizeLine:=Pk hg (by decide)
 cases b with
 |false=>
  have hq':rd[i]? = some (x,v):=hq;have hi:i<rd.length:=(NM.mp hq').1;have at1:=nN hq'
  have nl:¬((rd.length:Int)<=(i:Int)):=by omega
  have ln:=lg rd;refine⟨some (.d (.list (PL rd))),some (.d (.int (i:Int))),?_⟩;simp[whB,rhF,asT,jX,ln,nl,at1,hz,vF,wq,wu,hS]
 |true=>
  have hq':pk[j]? = some (x,v):=hq;have hi:j<pk.length:=(NM.mp hq').1;have at1:=nN hq'
  have nl:¬((pk.length:Int)<=(j:Int)):=by omega
  have ln:=lg pk;refine⟨some (.d (.list (PL pk))),some (.d (.int (j:Int))),?_⟩;simp[whB,rhF,asT,jX,ln,nl,at1,hz,vF,wq,wu,hS]
theorem y8:D.atS [("want","wants"),("peek","peeks")] (.str "want")=some (.str "wants"):=by simp[D.atS]
theorem y9:D.atS [("want","wants"),("peek","peeks")] (.str "peek")=some (.str "peeks"):=by simp[D.atS]
theorem DH{r:NG}{b:Bool}{x:Str}{r':NG}{rd pk:PR}{i j:Nat}{gs:List NG}{o7 o8:Option D.W}{T:Tp}(hq:∀v,(if b then pk[j]? else rd[i]?)≠some (x,v)):∃ρ',whB (rhF r rd pk i j gs (asT b x r') o7 o8) T=some ((.rt (.tuple [bX b x,.int (i:Int)]),ρ'),T):=by
 cases b with
 |false=>
  have ln:=lg rd
  cases hg:rd[i]? with
  |none=>
   have nl:((rd.length:Int)<=(i:Int)):=by
    have:=QV.mp hg;omega
   refine⟨rhF r rd pk i j gs (asT false x r') (some (.d (.list (PL rd)))) (some (.d (.int (i:Int)))),?_⟩;simp[whB,rhF,asT,jX,jW,ln,nl,y8,bX]
  |some q=>
   obtain⟨y,v⟩:=q;have hi:i<rd.length:=(NM.mp hg).1
   have nl:¬((rd.length:Int)<=(i:Int)):=by omega
   have at1:=nN hg;have hy:¬y=x:=fun z=>hq v (by rw[←z];exact hg);refine⟨rhF r rd pk i j gs (asT false x r') (some (.d (.list (PL rd)))) (some (.d (.int (i:Int)))),?_⟩;simp[whB,rhF,asT,jX,jW,ln,nl,at1,hy,y8,bX]
 |true=>
  have ln:=lg pk
  cases hg:pk[j]? with
  |none=>
   have nl:((pk.length:Int)<=(j:Int)):=by
    have:=QV.mp hg;omega
   refine⟨rhF r rd pk i j gs (asT true x r') (some (.d (.list (PL pk)))) (some (.d (.int (j:Int)))),?_⟩;simp[whB,rhF,asT,jX,jW,ln,nl,y9,bX]
  |some q=>
   obtain⟨y,v⟩:=q;have hi:j<pk.length:=(NM.mp hg).1
   have nl:¬((pk.length:Int)<=(j:Int)):=by omega
   have at1:=nN hg;have hy:¬y=x:=fun z=>hq v (by rw[←z];exact hg);refine⟨rhF r rd pk i j gs (asT true x r') (some (.d (.list (PL pk)))) (some (.d (.int (j:Int)))),?_⟩;simp[whB,rhF,asT,jX,jW,ln,nl,at1,hy,y9,bX]
def fin:FS:=av (aB .tuple (ae (aa 6) (ae (ag d7 (aa 4) (fC (.str "want"))) ah)))
theorem yg{r S:NG}{rd pk:PR}{i j:Nat}{gs:List NG}{o7 o8:Option D.W}{T:Tp}:cZ (fin (rhF r rd pk i j gs S o7 o8) T)=some (.tuple [S,.int (i:Int)],T):=by simp[fin,rhF]
theorem EQ{k:FS}{ρ:Rho}{T:Tp}{x:NG}:j7 k (.rt x,ρ) T=some ((.rt x,ρ),T):=rfl
theorem nL{rd pk:PR}{f i j:Nat}{gs:List NG}{S:NG}(h:eA S=none):dH rd pk (f+1) i j gs S=(S,i):=by rw[dH,h]
theorem m9{rd pk:PR}{f i j:Nat}{gs:List NG}{b:Bool}{x:Str}{r:NG}{S:NG}(hS:eA S=some (b,x,r))(h:∀v,(if b then pk[j]? else rd[i]?)≠some (x,v)):dH rd pk (f+1) i j gs S=(bX b x,i):=by
 rw[dH,hS];dsimp only
 cases hq:(if b then pk[j]? else rd[i]?) with
 |none=>rfl
 |some q=>
  obtain⟨y,v⟩:=q;have hy:¬y=x:=fun z=>h v (by rw[hq,z]);exact if_neg hy
theorem yF{rd pk:PR}{f i j:Nat}{gs:List NG}{b:Bool}{x:Str}{r v:NG}{S:NG}(hS:eA S=some (b,x,r))(h:(if b then pk[j]? else rd[i]?)=some (x,v)):dH rd pk (f+1) i j gs S=dH rd pk f (if b then i else i+1) (if b then j+1 else j) (gs++[v]) (stp r (gs++[v])):=by
 rw[dH,hS];dsimp only;rw[h];exact if_pos rfl
def okP(l:PR):Prop:=∀q∈l,aE q.2=true
theorem BS{rd pk:PR}{b:Bool}{i j:Nat}{x:Str}{v:NG}(h1:okP rd)(h2:okP pk)(h:(if b then pk[j]? else rd[i]?)=some (x,v)):aE v=true:=by
 cases b with
 |true=>exact h2 (x,v) (Oz h)
 |false=>exact h1 (x,v) (Oz h)
theorem ue{gs:List NG}{v:NG}(h:∀u∈gs,aE u=true)(hv:aE v=true):∀u∈gs++[v],aE u=true:=fun u hu=>by
 rcases Ob.mp hu with z|z
 .exact h u z
 .rw[NY.mp z];exact hv
theorem wJ{p:Bool}{r:NG}{rd pk:PR}{T:Tp}(h1:okP rd)(h2:okP pk):∀(f m i j:Nat) (gs:List NG) (S:NG) (n:Nat) (o7 o8:Option D.W),StepOk p gs.length n S->n<=20->(∀v∈gs,aE v=true)->gs.length<=12->13<=gs.length+f->f<=m ->
  cZ (bnd (bI whC whB m (rhF r rd pk i j gs S o7 o8) T) (gJ fin))=some (.tuple [(dH rd pk f i j gs S).1,.int ((dH rd pk f i j gs S).2:Int)],T)
 |0,m,i,j,gs,S,n,o7,o8,_,_,_,hg,hf,_=>by omega
 |f+1,m,i,j,gs,S,n,o7,o8,hS,hn,hv,hg,hf,hm=>by
  obtain⟨m,rfl⟩:=bH m (by omega);rw[DD]
  cases hS with
  |md hx=>
   rename_i v;rw[xD (S:=mdT v) (w:="made") (l:=[v]) rfl (by decide) (by decide) rfl,cS,if_neg (by decide),cS,nv,yg,nL yt]
  |fl hx=>
   rename_i x;rw[xD (S:=flT x) (w:="fails") (l:=[.str x]) rfl (by decide) (by decide) rfl,cS,if_neg (by decide),cS,nv,yg,nL yu]
  |ask hb hx hg' hn' hr=>
   rename_i b x r' n';rw[Fq,cS,if_pos rfl]
   by_cases hq:∃v,(if b then pk[j]? else rd[i]?)=some (x,v)
   .obtain⟨v,hq⟩:=hq
    have hv':=ue hv (BS h1 h2 hq);obtain⟨s1,s2⟩:=v6 hr (gs:=gs++[v]) (by simp) hv' (by omega);have cf:∀T,fq (cu 25) [.d r',.loc (.list (gs++[v]))] T=some (.d (stp r' (gs++[v])),T):=fun T=>jq rfl (s2 []) (uY s1);obtain⟨o7',o8',e⟩:=Hr (r:=r) (o7:=o7) (o8:=o8) (T:=T) hq hg cf;rw[e,cS,qK,yF ik hq]
    have hl:(gs++[v]).length=gs.length+1:=by simp
    exact wJ h1 h2 f m _ _ (gs++[v]) _ n' o7' o8' (by rw[hl];exact s1) (by omega) hv' (by rw[hl];omega) (by rw[hl];omega) (by omega)
   .have hq':∀v,(if b then pk[j]? else rd[i]?)≠some (x,v):=fun v z=>hq ⟨v,z⟩
    obtain⟨ρ',e⟩:=DH (r:=r) (r':=r') (gs:=gs) (o7:=o7) (o8:=o8) (T:=T) hq';rw[e,cS,EQ,cS,ES,EU,m9 ik hq']
theorem GX:mw=aT 9 (ao (f7 3 "want" "peek" (aa 1) (aa 2)) (ao (f7 4 "want" "peek" (fC (.int 0)) (fC (.int 0))) (ao (dq 5 ah) (ao (aO 6 (fm (cu 25) (ae (aa 0) (ae (aa 5) ah)))) (ao (bI whC whB 100000) fin))))):=rfl
theorem vD{ρ:Rho}{T:Tp}{f g:FE}{i:Nat}{x y:NG}(h1:f ρ T=some (.d x,T))(h2:g ρ T=some (.d y,T)):f7 i "want" "peek" f g ρ T=some ((.nx,ρ.set i (some (.loc (dW x y)))),T):=by
 unfold f7;rw[h1,cS,h2,cS];exact if_neg (by decide +kernel)
def cx(rd pk:PR)(r:NG):NG×Nat:=dH rd pk 13 0 0 [] (stp r [])
theorem Bj{p:Bool}{r:NG}{rd pk:PR}(T:Tp)(hr:Rg p 0 20 r)(h1:okP rd)(h2:okP pk):mw [.d r,.d (.list (PL rd)),.d (.list (PL pk))] T=some (.tuple [(cx rd pk r).1,.int ((cx rd pk r).2:Int)],T):=by
 obtain⟨s1,s2⟩:=v6 hr (gs:=[]) rfl (fun v hv=>by cases hv) (NT _);have cf:∀T,fq (cu 25) [.d r,.loc (.list [])] T=some (.d (stp r []),T):=fun T=>jq rfl (s2 []) (uY s1);have lp:=wJ (r:=r) (T:=T) h1 h2 13 100000 0 0 [] (stp r []) 20 none none s1 (NT _) (fun v hv=>by cases hv) (by simp) (by simp) (by decide);rw[GX,lT,if_pos (show fY [W.d r,W.d (Qw (PL rd)),W.d (Qw (PL pk))]=true from rfl)];have a1:f7 3 "want" "peek" (aa 1) (aa 2) [some (.d r),some (.d (.list (PL rd))),some (.d (.list (PL pk))),none,none,none,none,none,none] T=some ((.nx,[some (.d r),some (.d (.list (PL rd))),some (.d (.list (PL pk))),some (.loc (dW (.list (PL rd)) (.list (PL pk)))),none,none,none,none,none]),T):=vD rfl rfl;have a2:f7 4 "want" "peek" (fC (.int 0)) (fC (.int 0)) [some (.d r),some (.d (.list (PL rd))),some (.d (.list (PL pk))),some (.loc (dW (.list (PL rd)) (.list (PL pk)))),none,none,none,none,none] T=some ((.nx,[some (.d r),some (.d (.list (PL rd))),some (.d (.list (PL pk))),some (.loc (dW (.list (PL rd)) (.list (PL pk)))),some (.loc (dW (.int 0) (.int 0))),none,none,none,none]),T):=vD rfl rfl;rw[rM];show cZ (bnd (f7 3 _ _ _ _ [some (.d r),some (.d (.list (PL rd))),some (.d (.list (PL pk))),none,none,none,none,none,none] T) _)=_;rw[a1,cS,nv,rM,a2,cS,nv]
 have a3:(ao (dq 5 ah) (ao (aO 6 (fm (cu 25) (ae (aa 0) (ae (aa 5) ah)))) (ao (bI whC whB 100000) fin))) [some (.d r),some (.d (.list (PL rd))),some (.d (.list (PL pk))),some (.loc (dW (.list (PL rd)) (.list (PL pk)))),some (.loc (dW (.int 0) (.int 0))),none,none,none,none] T=bnd (bI whC whB 100000 (rhF r rd pk 0 0 [] (stp r []) none none) T) (gJ fin):=by
  simp[cf];rfl
 rw[a3];exact lp
def oN(rd pk:PR)(r:NG):PyData:=if (cx rd pk r).2<rd.length then .tuple [.str "strays",.int ((cx rd pk r).2:Int)] else (cx rd pk r).1
theorem Dy{p:Bool}{r:NG}{rd pk:PR}(T:Tp)(hr:Rg p 0 20 r)(h1:okP rd)(h2:okP pk):kG [.d r,.d (.list (PL rd)),.d (.list (PL pk))] T=some (oN rd pk r,T):=by
 have e:=Bj T hr h1 h2;have ln:=lg rd;unfold oN
 by_cases c:(cx rd pk r).2<rd.length
 .have c':((cx rd pk r).2:Int)<(rd.length:Int):=by omega
  rw[if_pos c];simp[kG,e,ln,c']
 .have c':¬((cx rd pk r).2:Int)<(rd.length:Int):=by omega
  rw[if_neg c];simp[kG,e,ln,c']
def bt(rd:PR):List PyData:=rd.map fun q=>.tuple [.str q.1,stt q.2]
theorem gW(rd:PR):(bt rd).length=rd.length:=by simp[bt]
theorem wg{rd:PR}{k:Nat}{x:Str}{v:NG}(hk:rd[k]? = some (x,v)):atI (bt rd) (k:Int)=some (.tuple [.str x,stt v])/\(k:Int)<((bt rd).length:Int):=by
 have hl:k<rd.length:=(NM.mp hk).1;exact⟨kY (by unfold bt;rw[OS,hk];rfl),by rw[gW];omega⟩
section
variable {rd:PR}{k:Nat}{x:Str}{T:Tp}
theorem Gz{v:NG}(hk:rd[k]? = some (x,v))(hv:aE v=true):dF false (.dict []) (.tuple (bt rd)) k x T=some (.list [v],T):=by
 have lb:=fun T=>xt (T:=T) hv;obtain⟨at',hl'⟩:=wg hk;have nn:isNone (P5 (bt rd))=false:=rfl;have aw:ka false=.str "want":=rfl;simp[dF,fK,aw,nn,hl',at',lb]
theorem Gy{y:Str}{v:NG}(hk:rd[k]? = some (y,v))(h:¬y=x):dF false (.dict []) (.tuple (bt rd)) k x T=some (.tuple [.str "strays",.str x],T):=by
 obtain⟨at',hl'⟩:=wg hk;have nn:isNone (P5 (bt rd))=false:=rfl;have aw:ka false=.str "want":=rfl;simp[dF,fK,aw,nn,hl',at',h]
theorem Ew:dF true (.dict []) (.tuple (bt rd)) k x T=some (.tuple [.str "strays",.str x],T):=by
 have nn:isNone (P5 (bt rd))=false:=rfl;have aw:ka true=.str "peek":=rfl;simp[dF,fK,aw,nn]
theorem GA(hk:rd.length<=k):dF false (.dict []) (.tuple (bt rd)) k x T=some (.tuple [.str "wants",.str x],T):=by
 have hl':¬(k:Int)<((bt rd).length:Int):=by rw[gW];omega
 have nn:isNone (P5 (bt rd))=false:=rfl;have aw:ka false=.str "want":=rfl;simp[dF,fK,aw,nn,hl']
end
inductive RelE(k L:Nat):NG->NG->Prop where
 |md {v:NG}:aE v=true->RelE k L (mdT v) (b8 "made" (stt v))
 |fl {x:Str}:isName (.str x)=true->RelE k L (flT x) (b8 "fails" (.str x))
 |wt {x:Str}:isName (.str x)=true->k=L->RelE k L (bX false x) (b8 "wants" (.str x))
 |st {b:Bool}{x:Str}:isName (.str x)=true->(b=true\/k<L)->RelE k L (bX b x) (b8 "strays" (.str x))
theorem RelE.md_inv{k L:Nat}{v E:NG}(h:RelE k L (mdT v) E):E=b8 "made" (stt v):=by
 generalize hR:mdT v=R at h
 cases h with
 |md _=>simp[mdT] at hR;rw[hR]
 |fl _=>exact absurd hR fZ
 |wt _ _=>simp[mdT,bX] at hR
 |@st b _ _ _=>cases b <;> simp[mdT,bX] at hR
theorem RelE.fl_inv{k L:Nat}{x:Str}{E:NG}(h:RelE k L (flT x) E):E=b8 "fails" (.str x):=by
 generalize hR:flT x=R at h
 cases h with
 |md _=>exact absurd hR.symm fZ
 |fl _=>simp[flT] at hR;rw[hR]
 |wt _ _=>simp[flT,bX] at hR
 |@st b _ _ _=>cases b <;> simp[flT,bX] at hR
theorem RelE.wt_inv{k L:Nat}{x:Str}{E:NG}(hk:k=L)(h:RelE k L (bX false x) E):E=b8 "wants" (.str x):=by
 generalize hR:bX false x=R at h
 cases h with
 |md _=>simp[mdT,bX] at hR
 |fl _=>simp[flT,bX] at hR
 |wt _ _=>simp[bX] at hR;rw[hR]
 |@st b y _ hb=>
  cases b with
  |true=>simp[bX] at hR
  |false=>exact absurd hb (by simp;omega)
theorem RelE.st_inv{k L:Nat}{b:Bool}{x:Str}{E:NG}(hb:b=true\/k<L)(h:RelE k L (bX b x) E):E=b8 "strays" (.str x):=by
 generalize hR:bX b x=R at h
 cases h with
 |md _=>cases b <;> simp[mdT,bX] at hR
 |fl _=>cases b <;> simp[flT,bX] at hR
 |wt _ hk=>
  cases b with
  |true=>simp[bX] at hR
  |false=>exact absurd hb (by simp;omega)
 |@st c y _ _=>
  have:x=y:=by cases b <;> cases c <;> simp[bX] at hR <;> exact hR
  rw[this]
theorem ve{p:Bool}{n:Nat}{rd:PR}(hrd:okP rd)(hl:rd.length<=12)(hn:n<=20)(T:Tp):∀(f i:Nat) (gs:List NG) (r:NG) (m:Nat) (o o1:Option D.W) (n':Nat),n'<=n->Rg p gs.length n' r->gs.length=i->(∀v∈gs,aE v=true)->i<=rd.length->13<=i+f->(13-i)*21<m ->
  ∃E,goL m r (.dict []) (.tuple (bt rd)) gs (bt (rd.take i)) o o1 T=some (.tuple [.list (bt (rd.take (dH rd [] f i 0 gs (stp r gs)).2)),E],T)/\(dH rd [] f i 0 gs (stp r gs)).2<=rd.length/\RelE (dH rd [] f i 0 gs (stp r gs)).2 rd.length (dH rd [] f i 0 gs (stp r gs)).1 E
 |0,i,gs,r,m,o,o1,n',hn',hr,hi,hv,hir,hf,hm=>by omega
 |f+1,i,gs,r,m,o,o1,n',hn',hr,hi,hv,hir,hf,hm=>by
  obtain⟨a1,_,a3⟩:=jA hr rfl hv (by omega)
  have tl:(bt (rd.take i)).length=i:=by rw[gW,PY];omega
  obtain⟨c1,c2,c3⟩:=a3 (.dict []) (.tuple (bt rd)) m (bt (rd.take i)) o o1 T (by omega) (by rw[tl];omega);rw[tl] at c3;generalize hS:stp r gs=S at a1 c1 c2 c3
  cases a1 with
  |@md v hv'=>
   rw[nL yt];exact⟨_,c1 v rfl,hir,.md hv'⟩
  |@fl x hx=>
   rw[nL yu];exact⟨_,c2 x rfl,hir,.fl hx⟩
  |@ask b x r' n2 hp hx hg hn2 hr2=>
   obtain⟨d1,d2⟩:=c3 b x r' rfl
   cases b with
   |true=>
    rw[m9 ik (by intro v;simp)];exact⟨_,d1 _ Ew,hir,.st hx (.inl rfl)⟩
   |false=>
    cases hq:rd[i]? with
    |none=>
     have hle:rd.length<=i:=QV.mp hq;rw[m9 ik (by intro v;simp[hq])];exact⟨_,d1 _ (GA hle),hir,.wt hx (by omega)⟩
    |some q=>
     obtain⟨y,v⟩:=q;have hlt:i<rd.length:=(NM.mp hq).1
     by_cases hy:y=x
     .subst hy
      have hvv:aE v=true:=hrd (y,v) (Oz hq);obtain⟨m',o',o2,l,go⟩:=d2 v hvv (Gz hq hvv)
      have tk:bt (rd.take i)++dI false y (stt v)=bt (rd.take (i+1)):=by
       rw[List.take_succ,hq];simp[bt,dI]
      rw[tk] at go;rw[yF ik (by simpa using hq)];rw[go];exact ve hrd hl hn T f (i+1) (gs++[v]) r' m' o' o2 n2 (by omega) (by simpa using hr2) (by simp[hi]) (ue hv hvv) hlt (by omega) (by omega)
     .rw[m9 ik (by intro u;simp[hq];intro z;exact absurd z hy)]
      exact⟨_,d1 _ (Gy hq hy),hir,.st hx (.inr hlt)⟩
theorem oF{p:Bool}{n:Nat}{rd:PR}{r:NG}(hrd:okP rd)(hl:rd.length<=12)(hn:n<=20)(hr:Rg p 0 n r)(T:Tp):∃E,fM [.d r,.d (.dict []),.d (.tuple (bt rd))] T=some (.tuple [.list (bt (rd.take (cx rd [] r).2)),E],T)/\(cx rd [] r).2<=rd.length/\RelE (cx rd [] r).2 rd.length (cx rd [] r).1 E:=by
 obtain⟨E,e,h⟩:=ve (p:=p) (n:=n) hrd hl hn T 13 0 [] r 100000 none none n (NT _) hr rfl (fun v hv=>by cases hv) (Pi _) (by omega) (by omega);refine⟨E,?_,h⟩;rw[show cx rd [] r=dH rd [] 13 0 0 [] (stp r []) from rfl,←e,uD];simp[goL,ρL,bt]
theorem eq2{a b c d:Str}(h1:Oy a=true)(h2:Oy b=true)(h3:Oy c=true)(h4:Oy d=true):eqG (.tuple [.str a,.str b]) (.tuple [.str c,.str d])=some (.bool (decide (a=c/\b=d))):=by
 have s1:∀{a b:Str},Oy a=true->Oy b=true->Ov (.tuple [.str a,.str b])=true:=fun {a b} h1 h2=>by
  unfold Ov;simp[P8,Qo,h1,h2,Rp,Qb]
 unfold eqG;rw[if_pos ⟨s1 h1 h2,s1 h3 h4⟩]
 by_cases q1:a=c <;> by_cases q2:b=d <;> simp[OO,P6,q1,q2]
theorem Jz{a b c:Str}{i:Int}(h1:Oy a=true)(h2:Oy b=true)(h3:Oy c=true):eqG (.tuple [.str a,.str b]) (.tuple [.str c,.int i])=some (.bool false):=by
 have s1:Ov (.tuple [.str a,.str b])=true:=by
  unfold Ov;simp[P8,Qo,h1,h2,Rp,Qb]
 have s2:Ov (.tuple [.str c,.int i])=true:=by
  unfold Ov;simp[P8,Qo,h3,Rp,Qb]
 unfold eqG;rw[if_pos ⟨s1,s2⟩];simp[OO,P6]
theorem xX{d:NG}(h:isName d=true):∃x,d=.str x:=by
 cases d with
 |str x=>exact⟨x,rfl⟩
 |_=>cases h
theorem v5{d:NG}(h:d8 d=true):∃v,aE v=true/\d=stt v:=by
 cases d with
 |str x=>
  cases hv:df (cd x) with
  |none=>simp[d8,hv] at h
  |some v=>
   obtain⟨h1,h2⟩:=kc hv;exact⟨v,h1,by unfold stt;rw[←h2,i7]⟩
 |_=>cases h
theorem Cr{d:NG}(h:prS d=true):∃x v,d=.tuple [.str x,stt v]/\aE v=true:=by
 unfold prS at h;split at h
 .rw[NN] at h
  obtain⟨x,rfl⟩:=xX h.1;obtain⟨v,hv,rfl⟩:=v5 h.2;exact⟨x,v,rfl,hv⟩
 .cases h
theorem tL:∀{rs:List NG},rs.all prS=true->∃rd:PR,rs=bt rd/\okP rd
 |[],_=>⟨[],rfl,fun q hq=>by cases hq⟩
 |d::rs,h=>by
  rw[PH,NN] at h;obtain⟨x,v,rfl,hv⟩:=Cr h.1;obtain⟨rd,rfl,ho⟩:=tL h.2;exact⟨(x,v)::rd,rfl,fun q hq=>(NR.mp hq).elim (fun z=>by rw[z];exact hv) (ho q)⟩
def EndW(a:Str):Prop:=a=NH "made"\/a=NH "fails"\/a=NH "wants"
theorem C7{d:NG}(h:edS d=true):∃a b:Str,d=.tuple [.str a,.str b]/\EndW a/\Oy b=true:=by
 unfold edS at h;split at h
 .rename_i a b
  split at h
  .rename_i ha
   obtain⟨v,hv,rfl⟩:=v5 h;exact⟨a,_,rfl,.inl ha,oi hv⟩
  .rw[NN,Q7] at h
   obtain⟨x,rfl⟩:=xX h.2;refine⟨a,x,rfl,.inr ?_,fX h.2⟩;exact h.1.imp of_decide_eq_true of_decide_eq_true
 .cases h
theorem CL{d:NG}(h:lnS d=true):∃(a:NG) (rd:PR) (e f:Str),d=.tuple [a,.tuple (bt rd),.tuple [.str e,.str f]]/\okP rd/\rd.length<=12/\EndW e/\Oy f=true:=by
 unfold lnS at h;split at h
 .rename_i a rs e
  rw[NN,NN,NN] at h;obtain⟨rd,rfl,ho⟩:=tL h.1.2;obtain⟨e1,f,rfl,he,hf⟩:=C7 h.2;have:=of_decide_eq_true h.1.1.2;rw[gW] at this;exact⟨a,rd,e1,f,rfl,ho,this,he,hf⟩
 .cases h
theorem EndW.ok{a:Str}(h:EndW a):Oy a=true:=by rcases h with rfl|rfl|rfl <;> decide +kernel
theorem EndW.no{a:Str}(h:EndW a):¬a=NH "strays"/\¬a=NH "peeks":=by rcases h with rfl|rfl|rfl <;> decide +kernel
theorem Bv{rd:PR}(h:okP rd)(ρ:Rho)(T:Tp):ck cw (aB .tuple (ae (ag ixD (aa 0) (fC (.int 0))) (ae (au eL (ae (ag ixD (aa 0) (fC (.int 1))) ah)) ah))) ρ (bt rd) T=some (PL rd,T):=by
 have c:ck cw (aB .tuple (ae (ag ixD (aa 0) (fC (.int 0))) (ae (au eL (ae (ag ixD (aa 0) (fC (.int 1))) ah)) ah))) ρ (bt rd) T=some ((bt rd).map (fun d=>match d with | .tuple [a,.str t]=>.tuple [a,(df (cd t)).getD .none]|_=>.none),T):=fO fun d hd=>by
  obtain⟨q,hq,rfl⟩:=OH.mp hd;have lb:=fun T=>Hq T (h q hq);have vb:=pw (h q hq);simp[stt,lb,bf,vb]
 rw[c];unfold bt PL;rw[Pt]
 congr 2
 refine OF fun q hq=>?_;simp[stt,bf,pw (h q hq)]
theorem FJ{v:NG}(T:Tp)(h:aE v=true):gi 25 [.d v] T=some (.str (mk (cst 4 v)),T):=xn 4 25 v T (b9 h).1 (b9 h).2 (by decide)
theorem AU{p:Bool}{n:Nat}{r line:NG}(hr:Rg p 0 n r)(hn:n<=20)(hln:lnS line=true):∃B,(∀T,gj [.d r,.d line] T=some (.bool B,T))/\∀T,fG [.d r,.d line] T=some (.bool B,T):=by
 obtain⟨a,rd,e,f,rfl,hrd,hl,he,hf⟩:=CL hln
 have nil:okP []:=fun q hq=>by cases hq
 have rp:=fun T=>Dy (rd:=rd) (pk:=[]) T (hr.up hn) hrd nil;have eo:=he.ok;obtain⟨ns,np⟩:=he.no
 have sk:Oy "strays"=true:=by decide +kernel
 have pk:Oy "peeks"=true:=by decide +kernel
 have mk':Oy "made"=true:=by decide +kernel
 have fk:Oy "fails"=true:=by decide +kernel
 have wk:Oy "wants"=true:=by decide +kernel
 have ns':¬NH "strays"=e:=fun z=>ns z.symm;have i1:ixD (.tuple [a,.tuple (bt rd),.tuple [.str e,.str f]]) (.int 1)=some (.tuple (bt rd)):=rfl;have i2:ixD (.tuple [a,.tuple (bt rd),.tuple [.str e,.str f]]) (.int 2)=some (.tuple [.str e,.str f]):=rfl;have cp:=fun ρ T=>Bv hrd ρ T;have pn:PL []=[]:=rfl;rw[pn] at rp;obtain⟨E0,_,hk,_⟩:=oF hrd hl hn hr []
 by_cases hlt:(cx rd [] r).2<rd.length
 .refine⟨false,fun T=>?_,fun T=>?_⟩
  .have rp:=fun T=>rp T
   unfold oN at rp;simp only[if_pos hlt] at rp
   have q1:¬NH "strays"=NH "made":=by decide +kernel
   simp[gj,iJ,i1,i2,cp,rp,q1,Jz eo hf sk]
  .obtain⟨E,er,_,rel⟩:=oF hrd hl hn hr T
   have tl:(bt (rd.take (cx rd [] r).2)).length=(cx rd [] r).2:=by rw[gW,PY];omega
   have ne:¬((cx rd [] r).2:Int)=(rd.length:Int):=by omega
   have fin:∀{w:String}{x:Str},Oy (NH w)=true->Oy x=true->E=b8 w (.str x)->fG [.d r,.d (.tuple [a,.tuple (bt rd),.tuple [.str e,.str f]])] T=some (.bool false,T):=fun {w x} hw hx hE=>by
    rw[hE] at er;have q:=eq2 hw hx eo hf
    by_cases z:NH w=e/\x=f
    .rw[decide_eq_true z] at q
     simp[fG,i1,i2,er,iA,b8,q,tl,gW,ne]
    .rw[decide_eq_false z] at q
     simp[fG,i1,i2,er,iA,b8,q]
   generalize (cx rd [] r).1=R at rel
   cases rel with
   |md hv=>exact fin mk' (oi hv) rfl
   |fl hx=>exact fin fk (fX hx) rfl
   |wt hx _=>exact fin wk (fX hx) rfl
   |st hx _=>exact fin sk (fX hx) rfl
 .have hkl:(cx rd [] r).2=rd.length:=by omega
  have rp:=fun T=>rp T;unfold oN at rp;simp only[if_neg hlt] at rp
  have lw:∀{w:String}{x:Str}{T:Tp},fM [.d r,.d (.dict []),.d (.tuple (bt rd))] T=some (.tuple [.list (bt (rd.take (cx rd [] r).2)),b8 w (.str x)],T)->Oy (NH w)=true->Oy x=true->fG [.d r,.d (.tuple [a,.tuple (bt rd),.tuple [.str e,.str f]])] T=some (.bool (decide (e=NH w/\f=x)),T):=fun {w x T} er hw hx=>by
   have q:=eq2 hw hx eo hf
   have tl:(bt (rd.take (cx rd [] r).2)).length=rd.length:=by rw[gW,PY];omega
   by_cases z:NH w=e/\x=f
   .rw[decide_eq_true z] at q
    rw[decide_eq_true ⟨z.1.symm,z.2.symm⟩];simp[fG,i1,i2,er,iA,b8,q,tl,gW]
   .rw[decide_eq_false z] at q
    rw[decide_eq_false fun y=>z ⟨y.1.symm,y.2.symm⟩];simp[fG,i1,i2,er,iA,b8,q]
  obtain⟨E,_,_,rel⟩:=oF hrd hl hn hr []
  have same:∀T,fM [.d r,.d (.dict []),.d (.tuple (bt rd))] T=some (.tuple [.list (bt (rd.take (cx rd [] r).2)),E],T):=fun T=>by
   obtain⟨E',er,_,rel'⟩:=oF hrd hl hn hr T
   have:E'=E:=by
    generalize (cx rd [] r).1=R at rel rel';clear er
    cases rel with
    |md hv=>exact RelE.md_inv rel'
    |fl hx=>exact RelE.fl_inv rel'
    |wt hx hk=>exact RelE.wt_inv hk rel'
    |st hx hb=>exact RelE.st_inv hb rel'
   rw[←this];exact er
  generalize (cx rd [] r).1=R at rel rp
  cases rel with
  |@md v hv=>
   refine⟨decide (e=NH "made"/\f=mk (cst 4 v)),fun T=>?_,fun T=>lw (same T) mk' (oi hv)⟩;have sv:=fun T=>FJ T hv;simp[gj,iJ,i1,i2,cp,rp,mdT,sv,eq2 eo hf mk' (oi hv)]
  |@fl x hx=>
   refine⟨decide (e=NH "fails"/\f=x),fun T=>?_,fun T=>lw (same T) fk (fX hx)⟩
   have q1:¬NH "fails"=NH "made":=by decide +kernel
   simp[gj,iJ,i1,i2,cp,rp,flT,q1,eq2 eo hf fk (fX hx)]
  |@wt x hx _=>
   refine⟨decide (e=NH "wants"/\f=x),fun T=>?_,fun T=>lw (same T) wk (fX hx)⟩
   have q1:¬NH "wants"=NH "made":=by decide +kernel
   simp[gj,iJ,i1,i2,cp,rp,bX,q1,eq2 eo hf wk (fX hx)]
  |@st b x hx hb=>
   have hb:b=true:=hb.resolve_right fun z=>by omega
   subst hb;refine⟨false,fun T=>?_,fun T=>?_⟩
   .have q1:¬NH "peeks"=NH "made":=by decide +kernel
    have q2:=eq2 eo hf pk (fX hx);rw[decide_eq_false fun z=>np z.1] at q2;simp[gj,iJ,i1,i2,cp,rp,bX,q1,q2]
   .have:=lw (same T) sk (fX hx)
    rw[decide_eq_false fun z=>ns z.1] at this;exact this
theorem xM{b:Bool}{T:Tp}:lI T (.d (.bool b))=some (.d (.str (SA b).shown),T):=by cases b <;> rfl
section
variable {p:Bool}{n:Nat}{D0 R0 G:Dc}
def ρA(D0 R0:Dc)(l:NG)(b:Bool)(o3 o4:Option D.W):Rho:=[some (.d (bkD D0 R0)),some (.d l),some (.d (.bool b)),o3,o4]
theorem xk(B:Bk p n D0 R0)(hn:n<=20){l:NG}{b:Bool}(hl:b=true->lnS l=true){T:Tp}:∀(ks:List NG) (o3 o4:Option D.W),(∀k∈ks,lX R0 k)->∃p3 p4,forL 3 mz ks (ρA D0 R0 l b o3 o4) T=some ((.nx,ρA D0 R0 l b p3 p4),T)
 |[],o3,o4,_=>⟨o3,o4,rfl⟩
 |k::ks,o3,o4,hk=>by
  obtain⟨x,r,rfl,hr⟩:=hk _ NI;have hk':∀k∈ks,lX R0 k:=fun k h=>hk k (NJ _ h)
  have step:∃o4',mz (ρA D0 R0 l b (some (.d (.str x))) o4) T=some ((.nx,ρA D0 R0 l b (some (.d (.str x))) o4'),T):=by
   cases b with
   |false=>exact⟨o4,rfl⟩
   |true=>
    obtain⟨v,e1,e2⟩:=AU (B.rg hr).1 hn (hl rfl);have i1:ixD (bkD D0 R0) (.int 1)=some (.dict R0):=rfl;have i2:ixA (.dict R0) (.str x)=some r:=hr;refine⟨some (.d (.bool v)),?_⟩;simp[mz,ρA,i1,i2,e1,e2,xM]
  obtain⟨o4',e⟩:=step;obtain⟨p3,p4,f⟩:=xk B hn hl ks (some (.d (.str x))) o4' hk';exact⟨p3,p4,(kW (by exact e)).trans f⟩
theorem xw(B:Bk p n D0 R0){l:NG}(h:Od l)(T:Tp):gP [.d (bkD D0 R0),.d l] T=some (.bool true,T):=by
 have e1:=fun T=>(nW h T).1;have e2:=fun T=>(nW h T).2;have i1:ixD (bkD D0 R0) (.int 1)=some (.dict R0):=rfl;obtain⟨p3,p4,f⟩:=xk B B.n20 (l:=l) (b:=lnS l) id (T:=T) (R0.map (·.1)) none none (qI B);rw[A0];simp[ρA] at f;simp[e1,e2,i1,xM,f]
end
inductive Lt:Nat->NG->Prop where
 |s {n:Nat}{x:Str}:x.length<=1000->(∀c∈cd x,c<128)->Lt n (.str x)
 |t {n:Nat}{ds:List NG}:ds.length<=100->(∀d∈ds,Lt n d)->Lt (n+1) (.tuple ds)
theorem Lt.od{n:Nat}{d:NG}(h:Lt n d):Od d:=by
 induction h with
 |s h1 h2=>exact .str (by omega) h2
 |t h1 _ ih=>exact .tup (by omega) ih
def txB(x:Str):Bool:=decide (x.length<=2000)&&(cd x).all fun c=>decide (c<128)
theorem fj{x:Str}(h:txB x=true):Od (.str x):=by
 unfold txB at h;rw[NN,Oe] at h;exact .str (of_decide_eq_true h.1) fun c hc=>of_decide_eq_true (h.2 c hc)
theorem eQ{a b:NG}(h1:Od a)(h2:Od b):Od (.tuple [a,b]):=.tup (by simp) fun d hd=>by
 simp at hd
 rcases hd with rfl|rfl
 .exact h1
 .exact h2
theorem CC{x:Str}(h1:x.length<=1000)(h2:∀c∈cd x,c<128):Od (.str (SU x)):=by
 rw[upper_ascii h2];refine .str (by simp[S8];exact Of h1 (by decide)) fun c hc=>?_;simp[cd] at hc;obtain⟨a,ha,rfl⟩:=hc;have:=h2 a (by simpa[cd] using ha);unfold up1
 split <;> omega
def jY:List PyData:=[.none,.bool true,.int 0,.int (-1),.str "",.str "a",.str "A",.str "a b",.tuple [],.list [],.tuple [.str "a",.str "1"],.tuple [.str "made",.str "1"],.tuple [.str "made",.int 1],.dict [],.str "name",.str "01"]
theorem Gv:∀d∈jY,Od d:=by
 have tx:∀x∈["","a","A","a b","1","made","name","01"],txB (NH x)=true:=by decide +kernel
 have lit:∀x∈["","a","A","a b","1","made","name","01"],Od (.str (NH x)):=fun x hx=>fj (tx x hx);intro d hd;simp only[jY,NR,O5,or_false] at hd
 rcases hd with rfl|rfl|rfl|rfl|rfl|rfl|rfl|rfl|rfl|rfl|rfl|rfl|rfl|rfl|rfl|rfl
 .exact .non
 .exact .bl _
 .exact .int _
 .exact .int _
 .exact lit _ (by simp)
 .exact lit _ (by simp)
 .exact lit _ (by simp)
 .exact lit _ (by simp)
 .exact .tup (by simp) fun d hd=>by cases hd
 .exact .lst _
 .exact eQ (lit _ (by simp)) (lit _ (by simp))
 .exact eQ (lit _ (by simp)) (lit _ (by simp))
 .exact eQ (lit _ (by simp)) (.int _)
 .exact .dct _
 .exact lit _ (by simp)
 .exact lit _ (by simp)
section
variable {A T:Tp}{n:Nat}{d:NG}
theorem sj(t:bL A T)(h:Lt n d):∃d' T',dy [.tp A.length,.d d] T=some (d',T')/\bL A T'/\Od d':=by
 obtain⟨r,T1,e1,t1,r0,r1⟩:=bR (m:=12) t (by decide);obtain⟨j,T2,e2,t2,j0,j1⟩:=bR (m:=16) t1 (by decide);have hi:bg .tup .tup=true:=rfl;have hs:bg .str .str=true:=rfl;have hts:bg .tup .str=false:=rfl;have hst:bg .str .tup=false:=rfl;obtain⟨q,hq,hm⟩:=dZ (xs:=jY) j0 j1;have ix:ixD (.list jY) (.int j)=some q:=hq;have ls:aY [.list jY]=some (.int 16):=rfl
 have last:(r<3->bg (kd d) .tup=false)->(r<6->bg (kd d) .str=false)->∃d' T',dy [.tp A.length,.d d] T=some (d',T')/\bL A T'/\Od d':=fun c1 c2=>by
  refine⟨q,T2,?_,t2,Gv q hm⟩;simp[jY] at ix
  by_cases h6:r<6
  .by_cases h3:r<3
   .simp[dy,e1,h3,h6,c1 h3,c2 h6,ix,e2]
   .simp[dy,e1,h3,h6,c2 h6,ix,e2]
  .have h3:¬r<3:=by omega
   simp[dy,e1,h3,h6,ix,e2]
 cases h with
 |@s _ x h1 h2=>
  have lx:x.length<=sizeLine:=bZ (by omega);have lu:(SU x).length<=sizeLine:=Of (len_upper x) (Of (by omega:_<=3000) (by decide));have la:x.length+(NH "abcdefgh").length<=sizeLine:=Of (by rw[show (NH "abcdefgh").length=8 by decide +kernel];omega:_<=1008) (by decide)
  by_cases h6:r<6
  .have i3:∀{a b c:NG},atI [a,b,c] 0=some a/\atI [a,b,c] 1=some b/\atI [a,b,c] 2=some c/\atI [a,b,c] (-3)=some a/\atI [a,b,c] (-2)=some b/\atI [a,b,c] (-1)=some c:=fun {a b c}=>⟨rfl,rfl,rfl,rfl,rfl,rfl⟩
   have o1:=CC h1 h2
   have o2:Od (.str (x++NH "abcdefgh")):=.str (by
    rw[←bJ,gz,OR,bJ,bJ,show (NH "abcdefgh").length=8 by decide +kernel];omega) fun c hc=>by
    rw[gz] at hc
    rcases Ob.mp hc with z|z
    .exact h2 c z
    .exact(by decide +kernel:∀c∈cd "abcdefgh",c<128) c z
   have o3:Od (.str ""):=fj (by decide +kernel)
   have:r=0\/r=1\/r=2\/r=3\/r=4\/r=5:=by omega
   rcases this with rfl|rfl|rfl|rfl|rfl|rfl
   .exact⟨_,T1,by simp[dy,e1,hs,hst,gw,lu,la,i3],t1,o1⟩
   .exact⟨_,T1,by simp[dy,e1,hs,hst,gw,lu,la,i3],t1,o2⟩
   .exact⟨_,T1,by simp[dy,e1,hs,hst,gw,lu,la,i3],t1,o3⟩
   .exact⟨_,T1,by simp[dy,e1,hs,gw,lu,la,i3],t1,o1⟩
   .exact⟨_,T1,by simp[dy,e1,hs,gw,lu,la,i3],t1,o2⟩
   .exact⟨_,T1,by simp[dy,e1,hs,gw,lu,la,i3],t1,o3⟩
  .exact last (fun z=>absurd z (by omega)) (fun z=>absurd z h6)
 |@t _ ds h1 h2=>
  have od:∀d∈ds,Od d:=fun d hd=>(h2 d hd).od
  by_cases h3:r<3
  .have:r=0\/r=1\/r=2:=by omega
   have i3:∀{a b c:NG},atI [a,b,c] 0=some a/\atI [a,b,c] 1=some b/\atI [a,b,c] 2=some c:=fun {a b c}=>⟨rfl,rfl,rfl⟩;have ll:ds.length<=sizeLine:=bZ (by omega);have la:ds.length+1<=sizeLine:=bZ (by omega);have cf:=mW ds 1;have cf':cD ds (some 1) none=ds.drop 1:=cf
   rcases this with rfl|rfl|rfl
   .exact⟨.list ds,T1,by simp[dy,e1,hi,ll,la,i3,dm,cf'],t1,.lst _⟩
   .refine⟨.tuple (ds++[.tuple ds]),T1,by simp[dy,e1,hi,ll,la,i3,dm,cf'],t1,.tup (by simp;omega) fun d hd=>?_⟩
    rcases Ob.mp hd with z|z
    .exact od d z
    .rw[NY.mp z];exact .tup (by omega) od
   .exact⟨.tuple (ds.drop 1),T1,by simp[dy,e1,hi,ll,la,i3,dm,cf'],t1,.tup (by simp;omega) fun d hd=>od d (RG hd)⟩
  .exact last (fun z=>absurd z h3) fun z=>rfl
end
theorem nY:∀(k n:Nat) (d:NG) (A T:Tp),bL A T->Lt n d->n<k->∃d' T',gR k [.tp A.length,.d d] T=some (d',T')/\bL A T'/\Od d'
 |0,n,d,A,T,_,_,hk=>absurd hk (Pe _)
 |k+1,n,d,A,T,t,h,hk=>by
  have hi:bg .tup .tup=true:=rfl;have hst:bg .str .tup=false:=rfl
  cases h with
  |@s _ x h1 h2=>
   obtain⟨d',T',e,t',o⟩:=sj t (.s (n:=0) h1 h2);exact⟨d',T',by simp[gR,hst,e],t',o⟩
  |@t n ds h1 h2=>
   have od:∀d∈ds,Od d:=fun d hd=>(h2 d hd).od
   cases hd:ds with
   |nil=>
    obtain⟨d',T',e,t',o⟩:=sj t (.t (n:=0) (ds:=[]) (by simp) fun d hd=>by cases hd);exact⟨d',T',by simp[gR,hi,e],t',o⟩
   |cons a r=>
    rw[←hd]
    have hne:(0:Int)<(ds.length:Int):=by rw[hd];simp
    have hnil:¬ds=[]:=by rw[hd];simp
    obtain⟨j,T1,e1,t1,j0,j1⟩:=bR (m:=4) t (by decide)
    by_cases hj:0<j
    .obtain⟨i,T2,e2,t2,i0,i1⟩:=bR (m:=(ds.length:Int)) t1 hne
     obtain⟨u,hu,hm⟩:=dZ (xs:=ds) i0 i1;obtain⟨d',T3,e3,t3,o⟩:=nY k n u A T2 t2 (h2 u hm) (by omega)
     have c1:cD ds none (some i)=ds.take i.toNat:=by
      have:=ij ds i.toNat
      rwa [RP i0] at this
     have c2:cD ds (some (i+1)) none=ds.drop (i.toNat+1):=by
      have:=mW ds (i.toNat+1)
      rwa [show ((i.toNat+1:Nat):Int)=i+1 by omega] at this
     have l1:(ds.take i.toNat).length+1<=sizeLine:=bZ (by simp;omega);have l2:(ds.take i.toNat++[d']).length+(ds.drop (i.toNat+1)).length<=sizeLine:=bZ (by simp;omega);refine⟨.tuple (ds.take i.toNat++[d']++ds.drop (i.toNat+1)),T3,?_,t3,.tup (by simp;omega) fun v hv=>?_⟩
     .simp at l1 l2
      simp[gR,hi,hnil,e1,hj,e2,hu,e3,c1,c2,l1,l2]
     .rcases Ob.mp hv with z|z
      .rcases Ob.mp z with z|z
       .exact od v (PF z)
       .rw[NY.mp z];exact o
      .exact od v (RG z)
    .obtain⟨d',T',e,t',o⟩:=sj t1 (.t (n:=n) h1 h2)
     exact⟨d',T',by simp[gR,hi,hnil,e1,hj,e],t',o⟩
theorem i6{n:Nat}{x:Str}(h:isName (.str x)=true):Lt n (.str x):=by
 have h':(decide (1<=x.length)&&decide (x.length<=8)&&has LET x)=true:=h;rw[NN,NN] at h';exact .s (by have:=of_decide_eq_true h'.1.2;omega) (K1.ia K1.yA h'.2)
@[simp] theorem KM{i j k:Nat}{ρ:Rho}{T:Tp}{f:FE}:se i j k f ρ T=bnd (f ρ T) (nZ i j k ρ):=rfl
@[simp] theorem J2{i j k:Nat}{ρ:Rho}{T:Tp}{a b c:NG}:nZ i j k ρ (.d (.tuple [a,b,c])) T=some ((.nx,((ρ.set i (some (.d a))).set j (some (.d b))).set k (some (.d c))),T):=rfl
theorem Ij{rs:List NG}:∃Z,oR (.tuple (rs.take 1)) (.int 13)=some (.tuple Z)/\Z.length<=13/\∀d∈Z,d∈rs:=by
 cases rs with
 |nil=>exact⟨[],rfl,by simp,fun d hd=>by cases hd⟩
 |cons a r=>
  refine⟨(Oq 13 [a]).flatten,rfl,UL rfl,fun d hd=>?_⟩;obtain⟨l,hl,h2⟩:=Vg.mp hd;rw[(Uy.mp hl).2] at h2;rw[NY.mp h2];exact NI
def oJ:List PyData:=[.str "0",.str "'",.str "()",.str "01",.str "'A",.int 0,.str "1",.str "(1,'a)",.str "(1,)",.str "-1"]
theorem FH:∀d∈oJ,Od d:=by
 have tx:∀x∈["0","'","()","01","'A","1","(1,'a)","(1,)","-1"],txB (NH x)=true:=by decide +kernel
 have lit:∀x∈["0","'","()","01","'A","1","(1,'a)","(1,)","-1"],Od (.str (NH x)):=fun x hx=>fj (tx x hx);intro d hd;simp only[oJ,NR,O5,or_false] at hd
 rcases hd with rfl|rfl|rfl|rfl|rfl|rfl|rfl|rfl|rfl|rfl
 all_goals first|exact .int _|exact lit _ (by simp)
def oS(z:NG):List PyData:=[.tuple [.str "made",.str "0"],.tuple [.str "made",.int 0],.tuple [.str "made",.str "00"],.tuple [.str "fails",.str "kind"],.tuple [.str "fails",.str "1"],.tuple [.str "wants",z],.tuple [.str "wants",.str "A"],.tuple [.str "lacks",.str "a"],.tuple [.str "made"],.list [.str "made",.str "1"],.tuple [.str "Made",.str "1"],.tuple [.str "fails",.str "name"]]
theorem G5{z:NG}(hz:Od z):∀d∈oS z,Od d:=by
 have tx:∀x∈["made","0","00","fails","kind","1","wants","A","lacks","a","Made","name"],txB (NH x)=true:=by decide +kernel
 have lit:∀x∈["made","0","00","fails","kind","1","wants","A","lacks","a","Made","name"],Od (.str (NH x)):=fun x hx=>fj (tx x hx);intro d hd;simp only[oS,NR,O5,or_false] at hd
 rcases hd with rfl|rfl|rfl|rfl|rfl|rfl|rfl|rfl|rfl|rfl|rfl|rfl
 all_goals first|exact .lst _|exact eQ (lit _ (by simp)) (lit _ (by simp))|exact eQ (lit _ (by simp)) (.int _)|exact eQ (lit _ (by simp)) hz|exact .tup (by simp) fun d hd=>by rw[NY.mp hd];exact lit _ (by simp)
theorem Fh{A T:Tp}(t:bL A T){y:Str}{N:List NG}(ixy:atI N 0=some (.str y))(hy:isName (.str y)=true){a:Str}{rs:List NG}{e:NG}(ha:Od (.str a))(hl:rs.length<=12)(hr:∀d∈rs,∃x z:Str,d=.tuple [.str x,.str z]/\Lt 0 (.str x)/\Lt 0 (.str z))(he:Od e)(hln:Lt 3 (.tuple [.str a,.tuple rs,e])):∃d' T',du [.tp A.length,.d (.tuple [.str a,.tuple rs,e]),.d (.list N)] T=some (d',T')/\bL A T'/\Od d':=by
 obtain⟨w,T1,e1,t1,w0,w1⟩:=bR (m:=8) t (by decide);obtain⟨k,T2,e2,t2,k0,k1⟩:=bR (m:=(rs.length:Int)+1) t1 (by omega)
 have ro:∀d∈rs,Od d:=fun d hd=>by
  obtain⟨x,z,rfl,hx,hz⟩:=hr d hd;exact eQ hx.od hz.od
 have three:∀{b c:NG},Od b->Od c->Od (.tuple [.str a,b,c]):=fun hb hc=>.tup (by simp) fun d hd=>by
  simp at hd
  rcases hd with rfl|rfl|rfl
  .exact ha
  .exact hb
  .exact hc
 have oy:Od (.str y):=(i6 (n:=0) hy).od
 have c1:cD rs none (some k)=rs.take k.toNat:=by
  have:=ij rs k.toNat
  rwa [RP k0] at this
 have c2:cD rs (some (k+1)) none=rs.drop (k.toNat+1):=by
  have:=mW rs (k.toNat+1)
  rwa [show ((k.toNat+1:Nat):Int)=k+1 by omega] at this
 have c3:cD rs none (some 1)=rs.take 1:=ij rs 1;have lr:rs.length<=sizeLine:=bZ (by omega);have ot:∀n,∀d∈rs.take n,Od d:=fun n d hd=>ro d (PF hd);have odr:∀n,∀d∈rs.drop n,Od d:=fun n d hd=>ro d (RG hd);have l1:(rs.take k.toNat).length+0<=sizeLine:=bZ (by simp;omega);have l2:(rs.take k.toNat).length+(rs.drop (k.toNat+1)).length<=sizeLine:=bZ (by simp;omega);have i2:∀{a b:NG},atI [a,b] 0=some a/\atI [a,b] 1=some b:=fun {a b}=>⟨rfl,rfl⟩;simp at l1 l2
 have:w=0\/w=1\/w=2\/w=3\/w=4\/w=5\/w=6\/w=7:=by omega
 rcases this with rfl|rfl|rfl|rfl|rfl|rfl|rfl|rfl
 .refine⟨.tuple [.str a,.tuple (rs.take k.toNat),e],T2,?_,t2,three (.tup (by simp;omega) (ot _)) he⟩
  simp[du,e1,e2,c1,c2,l1,i2]
 .refine⟨.tuple [.str a,.tuple (rs.take k.toNat++rs.drop (k.toNat+1)),e],T2,?_,t2,three (.tup (by simp;omega) fun d hd=>(Ob.mp hd).elim (ot _ d) (odr _ d)) he⟩
  simp[du,e1,e2,c1,c2,l2,i2]
 .obtain⟨Z,hZ,zl,zm⟩:=Ij (rs:=rs)
  obtain⟨j,T3,e3,t3,j0,j1⟩:=bR (m:=3) t2 (by decide);have l3:rs.length+Z.length<=sizeLine:=bZ (by omega);have oz:∀d∈rs++Z,Od d:=fun d hd=>(Ob.mp hd).elim (ro d) fun z=>ro d (zm d z);have i3:∀{a b c:NG},atI [a,b,c] 0=some a/\atI [a,b,c] 1=some b/\atI [a,b,c] 2=some c:=fun {a b c}=>⟨rfl,rfl,rfl⟩;have k1:cD (rs++Z) none (some ((rs.length:Int)+1))=(rs++Z).take (rs.length+1):=ij (rs++Z) (rs.length+1);have k2:cD (rs++Z) none (some 12)=(rs++Z).take 12:=ij (rs++Z) 12;have k3:cD (rs++Z) none (some 13)=(rs++Z).take 13:=ij (rs++Z) 13;have out:∀q,Od (.tuple [.str a,.tuple ((rs++Z).take q),e]):=fun q=>three (.tup (by simp;omega) fun d hd=>oz d (PF hd)) he
  have:j=0\/j=1\/j=2:=by omega
  rcases this with rfl|rfl|rfl
  .exact⟨_,T3,by simp only[du];simp[e1,e2,c3,hZ,l3,i3,e3,k1],t3,out (rs.length+1)⟩
  .exact⟨_,T3,by simp only[du];simp[e1,e2,c3,hZ,l3,i3,e3,k2],t3,out 12⟩
  .exact⟨_,T3,by simp only[du];simp[e1,e2,c3,hZ,l3,i3,e3,k3],t3,out 13⟩
 .by_cases hk:k<(rs.length:Int)
  .obtain⟨j,T3,e3,t3,j0,j1⟩:=bR (m:=10) t2 (by decide)
   obtain⟨i,T4,e4,t4,i0,i1⟩:=bR (m:=3) t3 (by decide);obtain⟨q,hq,hm⟩:=dZ (xs:=oJ) j0 j1;have oq:=FH q hm;obtain⟨u,hu,hum⟩:=dZ (xs:=rs) k0 hk;obtain⟨x,z,rfl,hx,hz⟩:=hr u hum;obtain⟨v,hv,hvm⟩:=dZ (xs:=[ON x,.str y,.str "A"]) i0 i1
   have ov:Od v:=by
    simp at hvm
    rcases hvm with rfl|rfl|rfl
    .exact hx.od
    .exact oy
    .exact fj (by decide +kernel)
   have x0:∀{a b:NG},atI [a,b] 0=some a:=rfl;have l4:(rs.take k.toNat).length+1<=sizeLine:=bZ (by simp;omega);have l5:(rs.take k.toNat).length+1+(rs.drop (k.toNat+1)).length<=sizeLine:=bZ (by simp;omega);simp[oJ] at hq l4 l5;refine⟨.tuple [.str a,.tuple (rs.take k.toNat++[.tuple [v,q]]++rs.drop (k.toNat+1)),e],T4,?_,t4,three (.tup (by simp;omega) fun d hd=>?_) he⟩
   .simp[du,e1,e2,hk,c1,c2,hq,hu,x0,ixy,hv,e3,e4,l4,l5]
   .rcases Ob.mp hd with z|z
    .rcases Ob.mp z with z|z
     .exact ot _ d z
     .rw[NY.mp z];exact eQ ov oq
    .exact odr _ d z
  .obtain⟨d',T3,e3,t3,o⟩:=nY 25 3 _ A T2 t2 hln (by decide)
   exact⟨d',T3,by simp[du,e1,e2,hk,e3],t3,o⟩
 .obtain⟨j,T3,e3,t3,j0,j1⟩:=bR (m:=12) t2 (by decide)
  obtain⟨q,hq,hm⟩:=dZ (xs:=oS (.str y)) j0 j1;simp[oS] at hq;refine⟨.tuple [.str a,.tuple rs,q],T3,?_,t3,three (.tup (by omega) ro) (G5 oy q hm)⟩;simp[du,e1,e2,ixy,hq,e3];intro z;exact absurd z (by decide)
 .refine⟨.tuple [.str a,.tuple rs.reverse,e],T2,?_,t2,three (.tup (by simp;omega) fun d hd=>ro d (List.mem_reverse.mp hd)) he⟩
  simp[du,e1,e2,oM]
 .obtain⟨d',T3,e3,t3,o⟩:=nY 25 3 _ A T2 t2 hln (by decide)
  exact⟨d',T3,by simp[du,e1,e2,e3],t3,o⟩
 .obtain⟨d',T3,e3,t3,o⟩:=nY 25 3 _ A T2 t2 hln (by decide)
  exact⟨d',T3,by simp[du,e1,e2,e3],t3,o⟩
theorem DV{l:List Str}(h:l.length<64):lG [.list (nmL l)]=some (.list (nmL (bS l))):=by
 have e:dE (nmL l)=some l:=by
  have:=ky (fun x:Str=>x) l;simpa[nmL] using this
 show i4 (dE (nmL l))=_;rw[e];show (if l.length<64 then _ else _)=_;rw[if_pos h];rfl
section
variable {p:Bool}{n:Nat}{D0 R0 G:Dc}
theorem Al.of{S:List Str}(b:BkP p n S D0 R0)(hn:n<=20)(hS:S.length<=40)(hY:∀y∈S,isName (.str y)=true)(hd:Sub D0 G)(hs:Snd D0 R0 G)(hc:∀x,ClsAt R0 G x):Al p n D0 R0 G:=by
 have keys:∀{ds:Dc},(∀q∈ds,∃x v,q=(ON x,v)/\aJ ds x=some v)->eX ds=nmL (kn ds)/\∀x,x∈kn ds↔∃v,aJ ds x=some v:=fun {ds} h=>by
  constructor
  .unfold eX nmL kn
   rw[Pt]
   exact OF fun q hq=>by
    obtain⟨x,v,rfl,_⟩:=h q hq;rfl
  .intro x
   constructor
   .intro hx
    obtain⟨q,hq,rfl⟩:=OH.mp hx;obtain⟨x,v,rfl,hk⟩:=h q hq;exact⟨v,hk⟩
   .rintro⟨v,hk⟩
    exact OH.mpr ⟨_,gn hk,rfl⟩
 have kD:=keys (ds:=D0) fun q hq=>by
  obtain⟨x,v,e,_,h,_⟩:=b.dk q hq;exact⟨x,v,e,h⟩
 have kR:=keys (ds:=R0) fun q hq=>by
  obtain⟨x,v,e,_,h,_⟩:=b.rk q hq;exact⟨x,v,e,h⟩
 refine⟨b.bk hn (by omega),hd,hs,hc,fun x v h=>?_,fun x v h=>?_,kD.1,kR.1,kD.2,kR.2,by rw[b.len];exact hS⟩
 .obtain⟨y,_,e,_,_,hy⟩:=b.dk _ (gn h)
  cases e;exact hY _ hy
 .obtain⟨y,_,e,_,_,_,hy⟩:=b.rk _ (gn h)
  cases e;exact hY _ hy
end
theorem yD{n:Nat}{v:NG}(h:aE v=true):Lt n (stt v):=.s (by have:=qx h;omega) fun c hc=>rP 4 v (b9 h).1 c (by rw[bf] at hc;exact hc)
theorem Lt.up{n m:Nat}{d:NG}(h:Lt n d)(l:n<=m):Lt m d:=by
 induction h generalizing m with
 |s h1 h2=>exact .s h1 h2
 |@t n ds h1 _ ih=>
  obtain⟨k,rfl⟩:∃k,m=k+1:=⟨m-1,by omega⟩;exact .t h1 fun d hd=>ih d hd (by omega)
theorem nG{n:Nat}{a b:NG}(h1:Lt n a)(h2:Lt n b):Lt (n+1) (.tuple [a,b]):=.t (by simp) fun d hd=>by
 simp at hd
 rcases hd with rfl|rfl
 .exact h1
 .exact h2
def wdB(x:Str):Bool:=decide (x.length<=1000)&&(cd x).all fun c=>decide (c<128)
theorem rT{n:Nat}{x:Str}(h:wdB x=true):Lt n (.str x):=by
 unfold wdB at h;rw[NN,Oe] at h;exact .s (of_decide_eq_true h.1) fun c hc=>of_decide_eq_true (h.2 c hc)
def Pl(o:Option D.W):Prop:=o=none\/∃v,o=some (.d v)
section
variable {p:Bool}{n:Nat}{D0 R0 G:Dc}
theorem yP(a:Al p n D0 R0 G){x:Str}{r:NG}(hr:aJ R0 x=some r):(∀d∈(stG R0 G x).rd.map rdS,∃u z:Str,d=.tuple [.str u,.str z]/\Lt 0 (.str u)/\Lt 0 (.str z))/\((stG R0 G x).rd.map rdS).length<=12/\Lt 1 (eE (stG R0 G x).S):=by
 refine⟨fun d hd=>?_,?_,?_⟩
 .obtain⟨d',hd',rfl⟩:=OH.mp hd
  obtain⟨z,v,rfl,hk⟩:=a.reads hr d' hd';exact⟨z,mk (cst 4 v),rfl,i6 (a.key hk),yD (a.gv z v hk)⟩
 .have h:=(a.ok hr).1
  have h1:=h.rd;have h2:=h.le;rw[OV];omega
 .rcases jk (a.ok hr).1.st with⟨v,e,hv⟩|⟨w,e,hw⟩|⟨b,y,r',e,hy⟩
  .rw[e,qM];exact nG (rT (by decide +kernel)) (yD hv)
  .rw[e,qN];exact nG (rT (by decide +kernel)) (i6 hw)
  .rw[e,qO];exact nG (rT (by decide +kernel)) (i6 hy)
abbrev ρW(ns:List Int)(D0 R0 G:Dc)(N:List NG)(o4 o5 o6 o7 o8 o9:Option D.W):Rho:=[some (.d (eP ns)),some (.d (bkD D0 R0)),some (.d (.dict G)),some (.d (.list N)),o4,o5,o6,o7,o8,o9]
theorem wL(a:Al p n D0 R0 G){ns:List Int}{N:List NG}{y:Str}(ixy:atI N 0=some (.str y))(hy:isName (.str y)=true){x:Str}{r:NG}(hr:aJ R0 x=some r){o4 o5:Option D.W}:∀(ds:List NG) (o8:Option D.W) (T:Tp),bL [] T->Pl o8->∃p8 T',forL 8 kN ds (ρW ns D0 R0 G N o4 o5 (some (.d (lnG R0 G x))) (some (.tp 0)) o8 none) T=some ((.nx,ρW ns D0 R0 G N o4 o5 (some (.d (lnG R0 G x))) (some (.tp 0)) p8 none),T')/\bL [] T'/\Pl p8
 |[],o8,T,t,ho=>⟨o8,T,rfl,t,ho⟩
 |d::ds,o8,T,t,ho=>by
  obtain⟨h1,h2,h3⟩:=yP a hr;have hx:=a.nR x r hr
  have hln:Lt 3 (.tuple [.str x,.tuple ((stG R0 G x).rd.map rdS),eE (stG R0 G x).S]):=by
   refine .t (by simp) fun d hd=>?_;simp only[NR,O5,or_false] at hd
   rcases hd with rfl|rfl|rfl
   .exact i6 hx
   .refine .t (by omega) fun d hd=>?_
    obtain⟨u,z,rfl,q1,q2⟩:=h1 d hd;exact nG q1 q2
   .exact h3.up (by omega)
  obtain⟨d',T1,e,t1,o⟩:=Fh t ixy hy (i6 (n:=0) hx).od h2 h1 h3.od hln;have e':du [.tp 0,.d (lnG R0 G x),.d (.list N)] T=some (d',T1):=e;have ak:=fun T=>xw a.B o T;obtain⟨p8,T2,f,t2,ho2⟩:=wL a ixy hy hr ds (some (.d d)) T1 t1 (.inr ⟨d,rfl⟩);refine⟨p8,T2,?_,t2,ho2⟩;rw[←f];show bnd (kN _ T) _=_
  have s:kN (ρW ns D0 R0 G N o4 o5 (some (.d (lnG R0 G x))) (some (.tp 0)) (some (.d d)) none) T=some ((.nx,ρW ns D0 R0 G N o4 o5 (some (.d (lnG R0 G x))) (some (.tp 0)) (some (.d d)) none),T1):=by
   simp[kN,e',ak]
  exact(congrArg (fun z=>bnd z _) s).trans rfl
def j3:FS:=(ao (aO 6 (au km (ae (aa 1) (ae (aa 2) (ae (aa 5) ah))))) (ao (fIf (bo (aR (au gP (ae (aa 1) (ae (aa 6) ah))))) (av (fC (.bool false))) aF) (ib 7 (ae (au gc (ae (ag aQ (au eJ (ae (aa 0) (ae (ag aQ (fC (.int 12)) (aa 4)) ah))) (ag cm (fC (.int 53)) (aa 4))) (ae (fC (.int 40)) ah))) (ae (fC (.int 0)) ah)) (c9 8 (fA (fC (.int 3))) kN))))
theorem CP(a:Al p n D0 R0 G){ns:List Int}{N:List NG}{y:Str}(ixy:atI N 0=some (.str y))(hy:isName (.str y)=true){x:Str}{r:NG}(hr:aJ R0 x=some r){k:Nat}{o6 o8:Option D.W}(ho:Pl o8):∃p6 p8,Pl p8/\j3 (ρW ns D0 R0 G N (some (.d (.int (k:Int)))) (some (.d (.str x))) o6 none o8 none) []=some ((.nx,ρW ns D0 R0 G N (some (.d (.int (k:Int)))) (some (.d (.str x))) p6 none p8 none),[]):=by
 obtain⟨h1,h2,h3⟩:=yP a hr;have hx:=a.nR x r hr
 have ol:Od (.tuple [.str x,.tuple ((stG R0 G x).rd.map rdS),eE (stG R0 G x).S]):=by
  refine .tup (by simp) fun d hd=>?_;simp only[NR,O5,or_false] at hd
  rcases hd with rfl|rfl|rfl
  .exact(i6 (n:=0) hx).od
  .refine .tup (by omega) fun d hd=>?_
   obtain⟨u,z,rfl,q1,q2⟩:=h1 d hd;exact eQ q1.od q2.od
  .exact h3.od
 have el:=fun T=>Fk a.B a.gv hr T;have ak:∀T,gP [.d (bkD D0 R0),.d (lnG R0 G x)] T=some (.bool true,T):=fun T=>xw a.B ol T;obtain⟨c,ec⟩:=nX (ns:=ns) (k:=12+(k:Int)) (T:=[]) (by omega);obtain⟨ds,ed,ld,hd⟩:=rf (c:=c+53*(k:Int)) (N:=40) (T:=[]) (by decide) (by decide);have ld':ds.length=40:=ld;have t0:=rl (A:=[]) (ds:=ds) (by omega) (by omega) hd;have h3r:=kA (j:=3) (by decide) (by decide);obtain⟨p8,T',f,t',ho2⟩:=wL a (ns:=ns) ixy hy hr (o4:=some (.d (.int (k:Int)))) (o5:=some (.d (.str x))) (cM 0 3) o8 _ t0 ho;obtain⟨ds',i',rfl,_⟩:=t';refine⟨some (.d (lnG R0 G x)),p8,ho2,?_⟩;have oe:=pI (n:=0) (fl:=.nx) (ρ:=ρW ns D0 R0 G N (some (.d (.int (k:Int)))) (some (.d (.str x))) (some (.d (lnG R0 G x))) (some (.tp 0)) p8 none) (T:=[]) (row:=[.list ds',.int i']) rfl;rw[←f] at oe
 have dr:ir 0 (ρW ns D0 R0 G N (some (.d (.int (k:Int)))) (some (.d (.str x))) (some (.d (lnG R0 G x))) (some (.tp 0)) p8 none)=ρW ns D0 R0 G N (some (.d (.int (k:Int)))) (some (.d (.str x))) (some (.d (lnG R0 G x))) none p8 none:=by
  rcases ho2 with rfl|⟨v,rfl⟩ <;> rfl
 rw[dr] at oe;rw[←oe];simp[j3,el,ak,qq,ec,ed,qr,h3r]
theorem C5{i j k:Nat}{b:FS}{x:NG}{xs:List NG}{ρ ρ':Rho}{T T':Tp}(h:b ((ρ.set i (some (.d (.int (k:Int))))).set j (some (.d x))) T=some ((.nx,ρ'),T')):gE i j b k (x::xs) ρ T=gE i j b (k+1) xs ρ' T':=by
 show bnd _ _=_;rw[h];rfl
theorem uC(a:Al p n D0 R0 G){ns:List Int}{N:List NG}{y:Str}(ixy:atI N 0=some (.str y))(hy:isName (.str y)=true):∀(xs:List Str) (k:Nat) (o4 o5 o6 o8:Option D.W),Pl o8->(∀x∈xs,x∈kn R0)->∃p4 p5 p6 p8,gE 4 5 j3 k (nmL xs) (ρW ns D0 R0 G N o4 o5 o6 none o8 none) []=some ((.nx,ρW ns D0 R0 G N p4 p5 p6 none p8 none),[])
 |[],k,o4,o5,o6,o8,_,_=>⟨o4,o5,o6,o8,rfl⟩
 |x::xs,k,o4,o5,o6,o8,ho,hx=>by
  obtain⟨r,hr⟩:=(a.mR x).mp (hx x NI);obtain⟨p6,p8,ho2,e⟩:=CP a (ns:=ns) ixy hy hr (k:=k) (o6:=o6) ho;obtain⟨q4,q5,q6,q8,f⟩:=uC a ixy hy xs (k+1) (some (.d (.int (k:Int)))) (some (.d (.str x))) p6 p8 ho2 fun z hz=>hx z (NJ _ hz);exact⟨q4,q5,q6,q8,(C5 (by exact e)).trans f⟩
theorem vt:∀(ds:List NG) (ns:List Int) (N:List NG) (o4 o5 o6 o8 o9:Option D.W),(∀d∈ds,Od d/\lnS d=false)->∃p9,forL 9 qv ds (ρW ns D0 R0 G N o4 o5 o6 none o8 o9) []=some ((.nx,ρW ns D0 R0 G N o4 o5 o6 none o8 p9),[])
 |[],ns,N,o4,o5,o6,o8,o9,_=>⟨o9,rfl⟩
 |d::ds,ns,N,o4,o5,o6,o8,o9,h=>by
  obtain⟨h1,h2⟩:=h d NI;have e:=fun T=>(nW h1 T).1;rw[h2] at e;obtain⟨p9,f⟩:=vt ds ns N o4 o5 o6 o8 (some (.d d)) fun z hz=>h z (NJ _ hz);exact⟨p9,(kW (by simp[qv,e,lO])).trans f⟩
end
def thL:List PyData:=[.none,.tuple [],.list [],.str "a",.dict [],.tuple [.str "a",.tuple []],.tuple [.str "a",.tuple [],.tuple [.str "made",.str "1"],.int 1],.int 7]
theorem Hx:∀d∈thL,Od d/\lnS d=false:=by
 have oa:Od (.str "a"):=fj (by decide +kernel)
 have on:Od (.tuple []):=.tup (by simp) fun d hd=>by cases hd
 intro d hd;simp only[thL,NR,O5,or_false] at hd
 rcases hd with rfl|rfl|rfl|rfl|rfl|rfl|rfl|rfl
 .exact⟨.non,rfl⟩
 .exact⟨on,rfl⟩
 .exact⟨.lst _,rfl⟩
 .exact⟨oa,rfl⟩
 .exact⟨.dct _,rfl⟩
 .exact⟨eQ oa on,rfl⟩
 .exact⟨.tup (by simp) fun d hd=>by
   simp at hd
   rcases hd with rfl|rfl|rfl|rfl
   .exact oa
   .exact on
   .exact eQ (fj (by decide +kernel)) (fj (by decide +kernel))
   .exact .int _,rfl⟩
 .exact⟨.int _,rfl⟩
theorem EF(T:Tp):ej [.d (.tuple [.str "a",.tuple [],.tuple [.str "made",.str "'"]])] T=some (.bool true,T):=by
 have o:Od (.tuple [.str "a",.tuple [],.tuple [.str "made",.str "'"]]):=.tup (by simp) fun d hd=>by
  simp at hd
  rcases hd with rfl|rfl|rfl
  .exact fj (by decide +kernel)
  .exact .tup (by simp) fun d hd=>by cases hd
  .exact eQ (fj (by decide +kernel)) (fj (by decide +kernel))
 have s:lnS (.tuple [.str "a",.tuple [],.tuple [.str "made",.str "'"]])=true:=by decide +kernel
 rw[(nW o T).1,s]
def sF:FS:=(ao (c9 9 (bU (aB .list (ae (fC .none) (ae (aB .tuple ah) (ae (aB .list ah) (ae (fC (.str "a")) (ae (fC (.dict [])) (ae (aB .tuple (ae (fC (.str "a")) (ae (aB .tuple ah) ah))) (ae (aB .tuple (ae (fC (.str "a")) (ae (aB .tuple ah) (ae (aB .tuple (ae (fC (.str "made")) (ae (fC (.str "1")) ah))) (ae (fC (.int 1)) ah))))) (ae (fC (.int 7)) ah)))))))))) qv) (av (ag ma (au ej (ae (aB .tuple (ae (fC (.str "a")) (ae (aB .tuple ah) (ae (aB .tuple (ae (fC (.str "made")) (ae (fC (.str "'")) ah))) ah)))) ah)) (fC (.bool true)))))
theorem CT:∀ns:List Int,ns.length<=63->∃T',oj [.d (eP ns)] []=some (.bool true,T'):=by
 intro ns _;obtain⟨c,ec⟩:=nX (ns:=ns) (k:=0) (T:=[]) (by decide);obtain⟨D0,R0,S,eb,b,hS,hY⟩:=Ho ns (decide (c % 3=0));have B:=b.bk (by decide) (by omega);obtain⟨G,eg,s2,d2,c2⟩:=Fm B [];have a:Al (decide (c % 3=0)) 6 D0 R0 G:=Al.of b (by decide) (by omega) (fun y hy=>(hY y hy).1) d2 s2 c2
 have hb:D0.length+R0.length<=12:=by rw[b.len];omega
 have bl:=kL;have so:=DV (l:=kn D0++kn R0) (by rw[OR,lm,lm];omega);have sr:=FN (ds:=R0) a.kR (by rw[lm];omega)
 have mem:∀y∈bS (kn D0++kn R0),isName (.str y)=true:=fun y hy=>by
  rcases Ob.mp ((gS _).mem_iff.mp hy) with z|z
  .obtain⟨v,hv⟩:=(a.mD y).mp z
   exact a.nD y v hv
  .obtain⟨v,hv⟩:=(a.mR y).mp z
   exact a.nR y v hv
 have sub:∀x∈bS (kn R0),x∈kn R0:=fun x hx=>(gS _).mem_iff.mp hx
 have loop:∃p4 p5 p6 p8,gE 4 5 j3 0 (nmL (bS (kn R0))) (ρW ns D0 R0 G (nmL (bS (kn D0++kn R0))) none none none none none none) []=some ((.nx,ρW ns D0 R0 G (nmL (bS (kn D0++kn R0))) p4 p5 p6 none p8 none),[]):=by
  cases hs:bS (kn R0) with
  |nil=>exact⟨_,_,_,_,rfl⟩
  |cons x xs=>
   have hx:x∈bS (kn D0++kn R0):=(gS _).mem_iff.mpr (Om _ (sub x (by rw[hs];exact NI)))
   cases hN:bS (kn D0++kn R0) with
   |nil=>rw[hN] at hx;cases hx
   |cons y L=>
    have hy:isName (.str y)=true:=mem y (by rw[hN];exact NI);rw[←hs];exact uC a (show atI (nmL (y::L)) ((0:Nat):Int)=some (.str y) from kY rfl) hy (bS (kn R0)) 0 none none none none (.inl rfl) sub
 obtain⟨p4,p5,p6,p8,f⟩:=loop;obtain⟨p9,g⟩:=vt (D0:=D0) (R0:=R0) (G:=G) thL ns (nmL (bS (kn D0++kn R0))) p4 p5 p6 p8 none Hx;have i0:ixD (bkD D0 R0) (.int 0)=some (.dict D0):=rfl;have i1:ixD (bkD D0 R0) (.int 1)=some (.dict R0):=rfl
 have lk:∀{ds:Dc}{l},eX ds=nmL l->i8 [.dict ds]=some (.list (nmL l)):=fun h=>by rw[←h];rfl
 have l1:(nmL (kn D0)).length+(nmL (kn R0)).length<=sizeLine:=by rw[fS,fS,lm,lm];omega
 refine⟨[],?_⟩;have pe:oj=aT 10 (ao (aO 1 (au kq (ae (aa 0) (ae (fC (.int 1)) (ae (ag eqD (ag cI (au eJ (ae (aa 0) (ae (fC (.int 0)) ah))) (fC (.int 3))) (fC (.int 0))) ah))))) (ao (aO 2 (au ko (ae (aa 1) ah))) (ao (aO 3 (fCB lG (ae (ag aQ (fCB i8 (ae (ag ixD (aa 1) (fC (.int 0))) ah)) (fCB i8 (ae (ag ixD (aa 1) (fC (.int 1))) ah))) ah))) (ao (lB 4 5 (fUn jC (ag ixD (aa 1) (fC (.int 1)))) j3) sF)))):=rfl
 have fe:lB 4 5 (fUn jC (ag ixD (aa 1) (fC (.int 1)))) j3 (ρW ns D0 R0 G (nmL (bS (kn D0++kn R0))) none none none none none none) []=some ((.nx,ρW ns D0 R0 G (nmL (bS (kn D0++kn R0))) p4 p5 p6 none p8 none),[]):=by
  unfold lB;simp[i1,sr];exact f
 have fz:sF (ρW ns D0 R0 G (nmL (bS (kn D0++kn R0))) p4 p5 p6 none p8 none) []=some ((.rt (.bool true),ρW ns D0 R0 G (nmL (bS (kn D0++kn R0))) p4 p5 p6 none p8 p9),[]):=by
  have lo:=EF;simp[thL] at g;simp[sF,g,lo,ma]
 rw[pe];simp[ec,eb,i0,i1,eg,lk a.kD,lk a.kR,l1,Ez,so,fe,fz]
def top(i:Nat):Stmt:=PySem.Challenge.pw_redo_k25_lines_right_or_not.main.body.getD i (.Pass ⟨0,0,0,0⟩)
abbrev zS:List (Str×Nat):=("is_whole",8)::("has_only",9)::("is_name",10)::("is_single",11)::("is_built",12)::("many_of",14)::("is_value",13)::("exprs_within",16)::("told_less",25)::("bounded",20)::("told_many",21)::("told_part",22)::("told_sum",23)::("told_join",24)::("told_of",19)::("told_by",18)::("step_of",30)::("followed",29)::("replay",28)::("stamp_of",34)::("is_figures",41)::("number_by",40)::("single_by",39)::("single_at",38)::("row_at",37)::("value_at",36)::("value_by",35)::("is_stamp",47)::("is_read",46)::("are_reads",45)::("is_end",48)::("is_line",44)::("comes_to",50)::("is_right",49)::("_law_cell_at",52)::("_law_draws",53)::("_law_take",54)::("_law_many",55)::("_law_is_name",56)::("_law_is_part",57)::("_law_is_value",58)::("_law_stamp",59)::("_law_of_two",60)::("_law_told",61)::("_law_value_by",62)::("_law_next",63)::("_law_run",64)::("_law_good",65)::("_law_line",66)::("_law_is_pair",67)::("_law_is_line",68)::("_law_is_right",69)::("_law_names",70)::("_law_value",71)::("_law_simple",72)::("_law_expr",73)::("_law_recipe",74)::("_law_book",75)::("_law_odd",76)::("_law_bent",77)::("_law_other",78)::("_law_asked",79)::("law",80)::[]
abbrev zZ:List Str:=["abs","all","bool","dict","enumerate","int","isinstance","len","list","range","repr","sorted","str","sum","tuple"]
abbrev zI:List (Str×Int):=[("MOST_FIGURES",19),("MOST_LETTERS",8),("MOST_PARTS",8),("MOST_READS",12),("MOST_ROWS",4),("MOST_SIGNS",20),("MOST_VALUES",40)]
abbrev zT:List (Str×Str):=[("FIGURES","0123456789"),("LETTERS","abcdefghijklmnopqrstuvwxyz"),("TEXT_SIGNS","abcdefghijklmnopqrstuvwxyz0123456789-")]
structure Bi(K:Frag)(mg:Str->Option NK):Prop extends Bz K mg zZ zI zT where
 s_NOT_GIVEN:zO K mg "NOT_GIVEN" [("want","wants"),("peek","peeks")]
section
variable {P:Og}{w:Ow}{K:Frag}{mg:Str->Option NK}{base:Heap}(E:Ev P w K mg base (Bi K mg) top zS)
include E
theorem gT:Fn P w K mg base "is_whole" ["thing"] 1 (spM K 1 fh):=aZ E 8 ["thing"] fun B S hr=>(aA (aD (cK (bj .int B.z (af 0) B.z Qp) (dj (yn (bj .bl B.z (af 0) B.z boot_bool))))))
theorem pG:Fn P w K mg base "has_only" ["text","signs"] 1 (spM K 2 gk):=aZ E 9 ["text","signs"] fun B S hr=>(aA (aD (bc sf rfl B.z boot_all (ai (fE (top 9) ["text","signs"] (cR (af 0)) (bN oQ (af 0) (af 2))) aq))))
theorem mG:Fn P w K mg base "is_name" ["thing"] 2 (spM K 1 fN):=aZ E 10 ["thing"] fun B S hr=>(aA (aD (cK (bj .str B.z (af 0) B.z Qc) (cK (Dj gb gb aj (bc bq rfl B.z OA (ai (af 0) aq)) (gZ rfl B.i)) (dj (aX (pG E) hr (af 0) (qu rfl B.s)))))))
theorem Av:Fn P w K mg base "is_single" ["thing"] 2 (spM K 1 ki):=aZ E 11 ["thing"] fun B S hr=>(az (aK (aU (bb (gT E) hr (af 0))) (aA (aD (bN gb (bc y4 rfl B.z boot_abs (ai (af 0) aq)) (aN lL aj aj)))) aM) (aA (aD (cK (bj .str B.z (af 0) B.z Qc) (cK (bN gb (bc bq rfl B.z OA (ai (af 0) aq)) (gZ rfl B.i)) (dj (aX (pG E) hr (af 0) (qu rfl B.s))))))))
theorem A6:∀n,Fn P w K mg base "is_built" ["thing","rows_left"] (2+n) (spM K 2 (fL n)):=dY (ef E 12) fun n ih=>aZ (k:=2+n) E 12 ["thing","rows_left"] fun B S hr=>(az (aK (bF (aU (bj .tup B.z (af 0) B.z OJ))) (aA (aD (bb (Av E) hr (af 0)))) aM) (az (aK (bu (bK (aI aV (af 1) aj) (cA (aI cO (bc bq rfl B.z OA (ai (af 0) aq)) (gZ rfl B.i))))) (aA (aD cc)) aM) (aA (aD (bc sf rfl B.z boot_all (ai (fE (top 12) ["thing","rows_left"] (cR (af 0)) (aX ih hr (af 0) (aN gB (af 2) aj))) aq))))))
theorem BW:∀n,Fn P w K mg base "many_of" ["value"] (0+n) (spM K 1 (iK n)):=dY (ef E 14) fun n ih=>aZ (k:=0+n) E 14 ["value"] fun B S hr=>(az (aK (bF (aU (bj .tup B.z (af 0) B.z OJ))) (aA (aD aj)) aM) (aA (aD (aN ba aj (bc y0 rfl B.z boot_sum (ai (fE (top 14) ["value"] (cR (af 0)) (bb ih hr (af 0))) aq))))))
theorem tU:Fn P w K mg base "is_value" ["thing"] 28 (spM K 1 jn):=aZ E 13 ["thing"] fun B S hr=>(aA (aD (cK (aX (A6 E 25) hr (af 0) (gZ rfl B.i)) (dj (bN gb (bb (BW E 25) hr (af 0)) (gZ rfl B.i))))))
theorem zY:Fn P w K mg base "exprs_within" ["expr"] 1 (spM K 1 fH):=aZ E 16 ["expr"] fun B S hr=>(az (aK (bu (bK (aI aV (ay aC (af 0) aj) ar) (cA (aI aV (ay aC (af 0) aj) ar)))) (aA (aD (bG aq))) aM) (az (aK (aI aV (ay aC (af 0) aj) ar) (aA (aD (cv lD rfl B.z RV (ai (ay aC (af 0) aj) aq)))) aM) (aA (aD (cv lD rfl B.z RV (ai (cj (af 0) (bT aj) cH) aq))))))
theorem Ap:Fn P w K mg base "told_less" ["one","other"] 2 (spM K 2 gQ):=aZ E 25 ["one","other"] fun B S hr=>(az (aK (bu (bK (bF (aU (bb (gT E) hr (af 0)))) (cA (bF (aU (bb (gT E) hr (af 1))))))) (aA (aD (aL (ai ar (ai ar aq))))) aM) (aA (aD (aL (ai ar (ai (en (aI cN (af 0) (af 1)) aj aj) aq))))))
theorem mH:Fn P w K mg base "bounded" ["thing"] 29 (spM K 1 gU):=aZ E 20 ["thing"] fun B S hr=>(aA (aD (en (aU (bb (tU E) hr (af 0))) (aL (ai ar (ai (af 0) aq))) (aL (ai ar (ai ar aq))))))
theorem Ao:Fn P w K mg base "told_many" ["value"] 2 (spM K 1 kf):=aZ E 21 ["value"] fun B S hr=>(az (aK (aU (bb (gT E) hr (af 0))) (aA (aD (aL (ai ar (ai ar aq))))) aM) (aA (aD (aL (ai ar (ai (bc bq rfl B.z OA (ai (af 0) aq)) aq))))))
theorem An:Fn P w K mg base "told_part" ["row","number"] 2 (spM K 2 gf):=aZ E 22 ["row","number"] fun B S hr=>(az (aK (bu (bK (bF (aU (bj .tup B.z (af 0) B.z OJ))) (cA (bF (aU (bb (gT E) hr (af 1))))))) (aA (aD (aL (ai ar (ai ar aq))))) aM) (az (aK (bF (vI gb cN aj (af 1) (bc bq rfl B.z OA (ai (af 0) aq)))) (aA (aD (aL (ai ar (ai ar aq))))) aM) (aA (aD (aL (ai ar (ai (ay aC (af 0) (af 1)) aq)))))))
theorem A3:Fn P w K mg base "told_sum" ["one","other"] 30 (spM K 2 iI):=aZ E 23 ["one","other"] fun B S hr=>(az (aK (bu (bK (bF (aU (bb (gT E) hr (af 0)))) (cA (bF (aU (bb (gT E) hr (af 1))))))) (aA (aD (aL (ai ar (ai ar aq))))) aM) (aA (aD (bb (mH E) hr (aN ba (af 0) (af 1))))))
theorem Aq:Fn P w K mg base "told_join" ["one","other"] 30 (spM K 2 gh):=aZ E 24 ["one","other"] fun B S hr=>(az (aK (bu (cB (aU (bj .str B.z (af 0) B.z Qc)) (cQ (aU (bj .str B.z (af 1) B.z Qc))))) (aA (aD (bb (mH E) hr (aN ba (af 0) (af 1))))) aM) (az (aK (bu (cB (aU (bj .tup B.z (af 0) B.z OJ)) (cQ (aU (bj .tup B.z (af 1) B.z OJ))))) (aA (aD (bb (mH E) hr (aN ba (af 0) (af 1))))) aM) (aA (aD (aL (ai ar (ai ar aq)))))))
theorem BU:Fn P w K mg base "told_of" ["word","parts"] 31 (spM K 2 bA):=aZ E 19 ["word","parts"] fun B S hr=>(az (aK (aI aV (af 0) ar) (aA (aD (bb (mH E) hr (cv jy rfl B.z OJ (ai (af 1) aq))))) aM) (az (aK (aI aV (af 0) ar) (aA (aD (bb (Ao E) hr (ay aC (af 1) aj)))) aM) (az (aK (aI aV (af 0) ar) (aA (aD (aX (An E) hr (ay aC (af 1) aj) (ay aC (af 1) aj)))) aM) (az (aK (aI aV (af 0) ar) (aA (aD (aX (A3 E) hr (ay aC (af 1) aj) (ay aC (af 1) aj)))) aM) (az (aK (aI aV (af 0) ar) (aA (aD (aX (Aq E) hr (ay aC (af 1) aj) (ay aC (af 1) aj)))) aM) (az (aK (aI aV (af 0) ar) (aA (aD (aL (ai ar (ai (en (aI (i5 hr) (ay aC (af 1) aj) (ay aC (af 1) aj)) aj aj) aq))))) aM) (aA (aD (aX (Ap E) hr (ay aC (af 1) aj) (ay aC (af 1) aj))))))))))
theorem BV:∀n,Fn P w K mg base "told_by" ["expr","got"] (31+n) (spM K 2 (ei n)):=dY (ef E 18) fun n ih=>aZ (k:=31+n) E 18 ["expr","got","parts","inner","told"] fun B S hr=>(az (aK (aI aV (ay aC (af 0) aj) ar) (aA (aD (aL (ai ar (ai (ay aC (af 0) aj) aq))))) aM) (az (aK (aI aV (ay aC (af 0) aj) ar) (aA (aD (aL (ai ar (ai (ay aC (af 1) (ay aC (af 0) aj)) aq))))) aM) (az (iP (i:=2) S.nd aq) (az (ic (i:=3) S.nd (cR (bb (zY E) hr (af 0))) (az (aW (i:=4) S.nd (aX ih hr (af 3) (af 1))) (az (aK (aI aV (ay aC (af 4) aj) ar) (aA (aD (af 4))) aM) (aA (ie (i:=2) (by exact(ay aC (af 4) aj))))))) (aA (aD (mV (BU E) (hr.mono (by omega)) rfl (ai (ay aC (af 0) aj) (ai (af 2) aq)) (cP (cP g7)))))))))
theorem uG:∀n,Fn P w K mg base "step_of" ["recipe","got"] (56+n) (spM K 2 (cu n)):=dY (ef E 30) fun n ih=>aZ (k:=56+n) E 30 ["recipe","got","told"] fun B S hr=>(az (aK (aI aV (ay aC (af 0) aj) ar) (aA (aD (aL (ai ar (ai (ay aC (af 0) aj) aq))))) aM) (az (aW (i:=2) S.nd (aX (BV E 25) hr (ay aC (af 0) aj) (af 1))) (az (aK (aI aV (ay aC (af 2) aj) ar) (aA (aD (af 2))) aM) (az (aK (aI aV (ay aC (af 0) aj) ar) (aA (aD (aX ih hr (en (aI (Ie hr) (ay aC (af 2) aj) (aL (ai aj (ai ar (ai (aL aq) aq))))) (ay aC (af 0) aj) (ay aC (af 0) aj)) (af 1)))) aM) (az (aK (aI aV (ay aC (af 0) aj) ar) (aA (aD (aL (ai ar (ai (ay aC (af 2) aj) aq))))) aM) (az (aK (bF (aU (bb (mG E) hr (ay aC (af 2) aj)))) (aA (aD (aL (ai ar (ai ar aq))))) aM) (aA (aD (aL (ai (ay aC (af 0) aj) (ai (ay aC (af 2) aj) (ai (ay aC (af 0) aj) aq))))))))))))
theorem A7:Fn P w K mg base "followed" ["recipe","reads","peeks"] 82 (spM K 3 mw):=aZ E 29 ["recipe","reads","peeks","given","used","got","step","pairs","k"] fun B S hr=>(az (wW (i:=3) S.nd (af 1) (af 2)) (az (wW (i:=4) S.nd aj aj) (az (iP (i:=5) S.nd aq) (az (aW (i:=6) S.nd (mV (uG E 25) (hr.mono (by omega)) rfl (ai (af 0) (ai (af 5) aq)) (cP (cP g7)))) (az (kJ 100000 (G6 hr (ay aC (af 6) aj) (af 3)) (az (aW (i:=7) S.nd (nV hr (af 3) (ay aC (af 6) aj))) (az (aW (i:=8) S.nd (nV hr (af 4) (ay aC (af 6) aj))) (az (aK (bu (bK (aI zE (af 8) (bc bq rfl B.z OA (ai (af 7) aq))) (cA (aI eh (ay aC (ay aC (af 7) (af 8)) aj) (ay aC (af 6) aj))))) (aA (aD (aL (ai (aL (ai (Hf B.s_NOT_GIVEN rfl (ay aC (af 6) aj)) (ai (ay aC (af 6) aj) aq))) (ai (nV hr (af 4) ar) aq))))) aM) (az (ie (i:=5) (by exact(ay aC (ay aC (af 7) (af 8)) aj))) (az (E1 (i:=4) hr (ay aC (af 6) aj) (aN ba (af 8) aj)) (aA (aW (i:=6) S.nd (mV (uG E 25) (hr.mono (by omega)) rfl (ai (ay aC (af 6) aj) (ai (af 5) aq)) (cP (cP g7))))))))))) (aA (aD (aL (ai (af 6) (ai (nV hr (af 4) ar) aq))))))))))
theorem C2:Fn P w K mg base "replay" ["recipe","reads","peeks"] 83 (spM K 3 kG):=aZ E 28 ["recipe","reads","peeks","came"] fun B S hr=>(az (aW (i:=3) S.nd (cW (A7 E) hr (af 0) (af 1) (af 2))) (az (aK (aI cN (ay aC (af 3) aj) (bc bq rfl B.z OA (ai (af 1) aq))) (aA (aD (aL (ai ar (ai (ay aC (af 3) aj) aq))))) aM) (aA (aD (ay aC (af 3) aj)))))
theorem A4:∀n,Fn P w K mg base "stamp_of" ["value"] (1+n) (spM K 1 (gi n)):=dY (ef E 34) fun n ih=>aZ (k:=1+n) E 34 ["value"] fun B S hr=>(az (aK (aU (bb (gT E) hr (af 0))) (aA (aD (cv y3 rfl B.z Qc (ai (af 0) aq)))) aM) (az (aK (aU (bj .str B.z (af 0) B.z Qc)) (aA (aD (aN ba ar (af 0)))) aM) (aA (aD (aN ba (aN ba ar (xg ar (fE (top 34) ["value"] (cR (af 0)) (bb ih hr (af 0))))) ar)))))
theorem Ac:Fn P w K mg base "is_figures" ["text"] 2 (spM K 1 gN):=aZ E 41 ["text"] fun B S hr=>(az (aK (bu (bK (aI aV (af 0) ar) (cA (bF (aU (aX (pG E) hr (af 0) (qu rfl B.s))))))) (aA (aD cc)) aM) (aA (aD (II (bN aV (af 0) ar) (dj (yn (p7 (af 0) ar)))))))
theorem Au:Fn P w K mg base "number_by" ["word"] 3 (spM K 1 kh):=aZ E 40 ["word","figures"] fun B S hr=>(az (aW (i:=1) S.nd (en (aU (p7 (af 0) ar)) (cj (af 0) (bT aj) cH) (af 0))) (az (aK (bu (bK (aI aV (af 0) ar) (bK (aI cO (bc bq rfl B.z OA (ai (af 1) aq)) (gZ rfl B.i)) (cA (bF (aU (bb (Ac E) hr (af 1)))))))) (aA (aD dB)) aM) (aA (aD (cv gG rfl B.z Qp (ai (af 0) aq))))))
theorem Ar:Fn P w K mg base "single_by" ["word"] 4 (spM K 1 kg):=aZ E 39 ["word"] fun B S hr=>(az (aK (aU (p7 (af 0) ar)) (aA (aD (cj (af 0) (bT aj) cH))) aM) (aA (aD (bb (Au E) hr (af 0)))))
theorem As:Fn P w K mg base "single_at" ["text","at"] 5 (spM K 2 jj):=aZ E 38 ["text","at","behind","single"] fun B S hr=>(az (aW (i:=2) S.nd (af 1)) (az (kJ 100000 (bu (cB (aI cN (af 2) (bc bq rfl B.z OA (ai (af 0) aq))) (cQ (aI nj (ay aC (af 0) (af 2)) ar)))) (aA (aW (i:=2) S.nd (aN ba (af 2) aj)))) (az (aW (i:=3) S.nd (bb (Ar E) hr (cj (af 0) (bT (af 1)) (bT (af 2))))) (aA (aD (en (aI oP (af 3) dB) dB (aL (ai (af 3) (ai (af 2) aq)))))))))
theorem Ck:∀n,Fn P w K mg base "row_at" ["text","at","rows_left"] (5+n) (spM K 3 (jr n))/\Fn P w K mg base "value_at" ["text","at","rows_left"] (5+n) (spM K 3 (dw n)):=dY ⟨(ef E 37),(ef E 36)⟩ fun n ih=>⟨(aZ (k:=5+n) E 37 ["text","at","rows_left","parts","found","sign"] fun B S hr=>(az (aK (aI aV (cj (af 0) (bT (af 1)) (bT (aN ba (af 1) aj))) ar) (aA (aD (aL (ai (aL aq) (ai (aN ba (af 1) aj) aq))))) aM) (az (iP (i:=3) S.nd aq) (aA (kJ 100000 (aU cc) (az (aW (i:=4) S.nd (cW ih.2 hr (af 0) (af 1) (af 2))) (az (aK (aI oP (af 4) dB) (aA (aD dB)) aM) (az (ie (i:=3) (by exact(ay aC (af 4) aj))) (az (aW (i:=1) S.nd (aN ba (ay aC (af 4) aj) aj)) (az (aW (i:=5) S.nd (cj (af 0) (bT (ay aC (af 4) aj)) (bT (af 1)))) (az (aK (aI aV (af 5) ar) (aA (aD (aL (ai (cv jy rfl B.z OJ (ai (af 3) aq)) (ai (af 1) aq))))) aM) (aA (aK (aI eh (af 5) ar) (aA (aD dB)) aM))))))))))))),(aZ (k:=5+n) E 36 ["text","at","rows_left"] fun B S hr=>(az (aK (aI eh (cj (af 0) (bT (af 1)) (bT (aN ba (af 1) aj))) ar) (aA (aD (aX (As E) hr (af 0) (af 1)))) aM) (az (aK (aI aV (af 2) aj) (aA (aD dB)) aM) (aA (aD (cW ih.1 hr (af 0) (aN ba (af 1) aj) (aN gB (af 2) aj)))))))⟩
theorem A2:Fn P w K mg base "value_at" ["text","at","rows_left"] 30 (spM K 3 (dw 25)):=(Ck E 25).2
theorem tT:Fn P w K mg base "value_by" ["text"] 31 (spM K 1 eL):=aZ E 35 ["text","found"] fun B S hr=>(az (aW (i:=1) S.nd (cW (A2 E) hr (af 0) aj (gZ rfl B.i))) (az (aK (bu (bK (aI oP (af 1) dB) (cA (aI cN (ay aC (af 1) aj) (bc bq rfl B.z OA (ai (af 0) aq)))))) (aA (aD dB)) aM) (aA (aD (en (aU (bb (tU E) hr (ay aC (af 1) aj))) (ay aC (af 1) aj) dB)))))
theorem tV:Fn P w K mg base "is_stamp" ["thing"] 32 (spM K 1 jo):=aZ E 47 ["thing"] fun B S hr=>(aA (aD (cK (bj .str B.z (af 0) B.z Qc) (dj (bN Eu (bb (tT E) hr (af 0)) dB)))))
theorem BX:Fn P w K mg base "is_read" ["thing"] 33 (spM K 1 jp):=aZ E 46 ["thing"] fun B S hr=>(aA (aD (cK (bj .tup B.z (af 0) B.z OJ) (cK (bN aV (bc bq rfl B.z OA (ai (af 0) aq)) aj) (cK (bb (mG E) hr (ay aC (af 0) aj)) (dj (bb (tV E) hr (ay aC (af 0) aj))))))))
theorem Aw:Fn P w K mg base "are_reads" ["thing"] 34 (spM K 1 kl):=aZ E 45 ["thing"] fun B S hr=>(az (aK (bu (bK (bF (aU (bj .tup B.z (af 0) B.z OJ))) (cA (aI cO (bc bq rfl B.z OA (ai (af 0) aq)) (gZ rfl B.i))))) (aA (aD cc)) aM) (aA (aD (bc sf rfl B.z boot_all (ai (fE (top 45) ["thing"] (cR (af 0)) (bb (BX E) hr (af 0))) aq)))))
theorem C3:Fn P w K mg base "is_end" ["thing"] 33 (spM K 1 gX):=aZ E 48 ["thing"] fun B S hr=>(az (aK (bu (bK (bF (aU (bj .tup B.z (af 0) B.z OJ))) (bK (aI eh (bc bq rfl B.z OA (ai (af 0) aq)) aj) (cA (bF (aU (bj .str B.z (ay aC (af 0) aj) B.z Qc))))))) (aA (aD cc)) aM) (az (aK (aI aV (ay aC (af 0) aj) ar) (aA (aD (bb (tV E) hr (ay aC (af 0) aj)))) aM) (aA (aD (cK (bN oQ (ay aC (af 0) aj) (aL (ai ar (ai ar aq)))) (dj (bb (mG E) hr (ay aC (af 0) aj))))))))
theorem pY:Fn P w K mg base "is_line" ["thing"] 35 (spM K 1 ej):=aZ E 44 ["thing"] fun B S hr=>(az (aK (bu (bK (bF (aU (bj .tup B.z (af 0) B.z OJ))) (bK (aI eh (bc bq rfl B.z OA (ai (af 0) aq)) aj) (cA (bF (aU (bb (mG E) hr (ay aC (af 0) aj)))))))) (aA (aD cc)) aM) (aA (aD (cK (bb (Aw E) hr (ay aC (af 0) aj)) (dj (bb (C3 E) hr (ay aC (af 0) aj)))))))
theorem A8:Fn P w K mg base "comes_to" ["recipe","reads","end"] 84 (spM K 3 iJ):=aZ E 50 ["recipe","reads","end","came"] fun B S hr=>(az (aW (i:=3) S.nd (cW (C2 E) hr (af 0) (fE (top 50) ["recipe","reads","end","came"] (cR (af 1)) (aL (ai (ay aC (af 0) aj) (ai (bb (tT E) hr (ay aC (af 0) aj)) aq)))) (bG aq))) (az (aK (aI aV (ay aC (af 3) aj) ar) (aA (aD (bN (i5 hr) (af 2) (aL (ai ar (ai (bb (A4 E 25) hr (ay aC (af 3) aj)) aq)))))) aM) (aA (aD (bN (i5 hr) (af 2) (af 3))))))
theorem A5:Fn P w K mg base "is_right" ["recipe","line"] 85 (spM K 2 gj):=aZ E 49 ["recipe","line"] fun B S hr=>(aA (aD (cW (A8 E) hr (af 0) (ay aC (af 1) aj) (ay aC (af 1) aj))))
theorem ms:Fn P w K mg base "_law_cell_at" ["_law_script","_law_k"] 1 (spM K 2 eJ):=aZ E 52 ["_law_script","_law_k"] fun B S hr=>(az (aK (aI cN (af 1) (bc bq rfl B.z OA (ai (af 0) aq))) (aA (aD (ay aC (af 0) (af 1)))) aM) (aA (aD aj)))
theorem pb:Fn P w K mg base "_law_draws" ["_law_cell","_law_many_here"] 1 (spM K 2 gc):=aZ E 53 ["_law_cell","_law_many_here","_law_found","_law_number","_law_mixed","_law_k"] fun B S hr=>(az (iP (i:=2) S.nd aq) (az (aW (i:=3) S.nd aj) (az (aK (aI zE (af 0) (aN lL aj aj)) (aA (aW (i:=3) S.nd (af 0))) aM) (az (aW (i:=4) S.nd (aN ba (aN ft (af 0) aj) aj)) (az (ic (i:=5) S.nd (jx rfl B.z (af 1)) (az (aW (i:=4) S.nd (aN ft (aN ba (aN ba (aN eW (af 4) (af 4)) (aN eW aj (af 4))) (aN eW aj (af 5))) aj)) (aA (aK (aI cO (af 3) aj) (az (ie (i:=2) (by exact(aN ft (af 3) aj))) (aA (aW (i:=3) S.nd (aN nk (af 3) aj)))) (aA (ie (i:=2) (by exact(aN nk (aN ft (aN ba (aN eW (af 4) aj) (aN eW aj (af 5))) aj) aj)))))))) (aA (aD (af 2))))))))
theorem bQ:Fn P w K mg base "_law_take" ["_law_tape","_law_many_here"] 1 (spM K 2 bv):=aZ E 54 ["_law_tape","_law_many_here"] fun B S hr=>(az (G8 (af 0) aj (aN ba (ay aC (af 0) aj) aj)) (aA (aD (aN ft (ay aC (ay aC (af 0) aj) (aN ft (aN gB (ay aC (af 0) aj) aj) (bc bq rfl B.z OA (ai (ay aC (af 0) aj) aq)))) (af 1)))))
theorem Az:∀n,Fn P w K mg base "_law_many" ["_law_value_here"] (0+n) (spM K 1 (iE n)):=dY (ef E 55) fun n ih=>aZ (k:=0+n) E 55 ["_law_value_here"] fun B S hr=>(az (aK (bF (aU (bj .tup B.z (af 0) B.z OJ))) (aA (aD aj)) aM) (aA (aD (aN ba aj (bc y0 rfl B.z boot_sum (ai (fE (top 55) ["_law_value_here"] (cR (af 0)) (bb ih hr (af 0))) aq))))))
theorem mr:Fn P w K mg base "_law_is_name" ["_law_thing"] 1 (spM K 1 dS):=aZ E 56 ["_law_thing"] fun B S hr=>(az (aK (bu (bK (bF (aU (bj .str B.z (af 0) B.z Qc))) (bK (aI cN (bc bq rfl B.z OA (ai (af 0) aq)) aj) (cA (aI cO (bc bq rfl B.z OA (ai (af 0) aq)) aj))))) (aA (aD cc)) aM) (aA (aD (bN (i5 hr) (jT (top 56) ["_law_thing"] (cR (af 0)) (af 0) (aI nj (af 0) ar)) (bG aq)))))
theorem z4:∀n,Fn P w K mg base "_law_is_part" ["_law_thing","_law_deep"] (0+n) (spM K 2 (eI n)):=dY (ef E 57) fun n ih=>aZ (k:=0+n) E 57 ["_law_thing","_law_deep","_law_signs"] fun B S hr=>(az (aK (aU (bj .bl B.z (af 0) B.z boot_bool)) (aA (aD cc)) aM) (az (aK (aU (bj .int B.z (af 0) B.z Qp)) (aA (aD (bN gb (bc y4 rfl B.z boot_abs (ai (af 0) aq)) (aN lL aj aj)))) aM) (az (aK (aU (bj .str B.z (af 0) B.z Qc)) (az (aW (i:=2) S.nd ar) (aA (aD (cK (bN gb (bc bq rfl B.z OA (ai (af 0) aq)) aj) (dj (bN (i5 hr) (jT (top 57) ["_law_thing","_law_deep","_law_signs"] (cR (af 0)) (af 0) (aI nj (af 0) (af 3))) (bG aq))))))) aM) (az (aK (bu (bK (bF (aU (bj .tup B.z (af 0) B.z OJ))) (bK (aI cO (bc bq rfl B.z OA (ai (af 0) aq)) aj) (cA (aI cO (af 1) aj))))) (aA (aD cc)) aM) (aA (aD (bN (yK hr) (jT (top 57) ["_law_thing","_law_deep","_law_signs"] (cR (af 0)) (af 0) (bF (aU (aX ih hr (af 0) (aN ba (af 2) aj))))) (bG aq))))))))
theorem oW:Fn P w K mg base "_law_is_value" ["_law_thing"] 26 (spM K 1 fF):=aZ E 58 ["_law_thing"] fun B S hr=>(aA (aD (cK (aX (z4 E 25) hr (af 0) aj) (dj (bN gb (bb (Az E 25) hr (af 0)) aj)))))
theorem oZ:∀n,Fn P w K mg base "_law_stamp" ["_law_value_here"] (0+n) (spM K 1 (dU n)):=dY (ef E 59) fun n ih=>aZ (k:=0+n) E 59 ["_law_value_here"] fun B S hr=>(az (aK (aU (bj .tup B.z (af 0) B.z OJ)) (aA (aD (aN ba (aN ba ar (xg ar (fE (top 59) ["_law_value_here"] (cR (af 0)) (bb ih hr (af 0))))) ar))) aM) (az (aK (aU (bj .str B.z (af 0) B.z Qc)) (aA (aD (aN ba ar (af 0)))) aM) (aA (aD (cv y3 rfl B.z Qc (ai (af 0) aq))))))
theorem z9:Fn P w K mg base "_law_of_two" ["_law_kind","_law_one","_law_other_here"] 27 (spM K 3 bP):=aZ E 60 ["_law_kind","_law_one","_law_other_here","_law_whole","_law_alike"] fun B S hr=>(az (aW (i:=3) S.nd (cK (bj .int B.z (af 1) B.z Qp) (dj (bj .int B.z (af 2) B.z Qp)))) (az (aW (i:=4) S.nd (cK (bN aV (bj .str B.z (af 1) B.z Qc) (bj .str B.z (af 2) B.z Qc)) (dj (bN aV (bj .tup B.z (af 1) B.z OJ) (bj .tup B.z (af 2) B.z OJ))))) (az (aK (aI aV (af 0) ar) (aA (aD (aL (ai ar (ai (cv gG rfl B.z Qp (ai (bN aV (iQ hr B.z (af 1)) (iQ hr B.z (af 2))) aq)) aq))))) aM) (az (aK (bu (cB (aI aV (af 0) ar) (cQ (aU (af 3))))) (aA (aD (aL (ai ar (ai (cv gG rfl B.z Qp (ai (bN cN (af 1) (af 2)) aq)) aq))))) aM) (az (aK (bu (cB (aI aV (af 0) ar) (cB (aU (bj .tup B.z (af 1) B.z OJ)) (cQ (aU (bj .int B.z (af 2) B.z Qp)))))) (aA (aD (en (vI gb cN aj (af 2) (bc bq rfl B.z OA (ai (af 1) aq))) (aL (ai ar (ai (ay aC (af 1) (af 2)) aq))) (aL (ai ar (ai ar aq)))))) aM) (az (aK (bu (bK (bu (cB (aI aV (af 0) ar) (cB (aU (af 4)) (cQ (bF (aU (af 3))))))) (cA (bu (cB (aI aV (af 0) ar) (cQ (aU (af 3)))))))) (aA (aD (en (aU (bb (oW E) hr (aN ba (af 1) (af 2)))) (aL (ai ar (ai (aN ba (af 1) (af 2)) aq))) (aL (ai ar (ai ar aq)))))) aM) (aA (aD (aL (ai ar (ai ar aq)))))))))))
theorem Ax:∀n,Fn P w K mg base "_law_told" ["_law_expr_here","_law_got"] (27+n) (spM K 2 (de n)):=dY (ef E 61) fun n ih=>aZ (k:=27+n) E 61 ["_law_expr_here","_law_got","_law_parts","_law_one","_law_found"] fun B S hr=>(az (aK (aI aV (ay aC (af 0) aj) ar) (aA (aD (aL (ai ar (ai (ay aC (af 0) aj) aq))))) aM) (az (aK (aI aV (ay aC (af 0) aj) ar) (aA (aD (aL (ai ar (ai (ay aC (af 1) (ay aC (af 0) aj)) aq))))) aM) (az (iP (i:=2) S.nd aq) (az (ic (i:=3) S.nd (cR (ay aC (bG (ai (cv lD rfl B.z RV (ai (cj (af 0) (bT aj) cH) aq)) (ai (cv lD rfl B.z RV (ai (ay aC (af 0) aj) aq)) aq))) (cv gG rfl B.z Qp (ai (bN aV (ay aC (af 0) aj) ar) aq)))) (az (aW (i:=4) S.nd (aX ih hr (af 3) (af 1))) (az (aK (aI aV (ay aC (af 4) aj) ar) (aA (aD (af 4))) aM) (aA (ie (i:=2) (by exact(ay aC (af 4) aj))))))) (az (aK (aI aV (ay aC (af 0) aj) ar) (aA (aD (en (aU (bb (oW E) hr (cv jy rfl B.z OJ (ai (af 2) aq)))) (aL (ai ar (ai (cv jy rfl B.z OJ (ai (af 2) aq)) aq))) (aL (ai ar (ai ar aq)))))) aM) (az (aK (aI aV (ay aC (af 0) aj) ar) (aA (aD (en (aU (bj .int B.z (ay aC (af 2) aj) B.z Qp)) (aL (ai ar (ai ar aq))) (aL (ai ar (ai (bc bq rfl B.z OA (ai (ay aC (af 2) aj) aq)) aq)))))) aM) (aA (aD (cW (z9 E) hr (ay aC (af 0) aj) (ay aC (af 2) aj) (ay aC (af 2) aj))))))))))
theorem oV:Fn P w K mg base "_law_value_by" ["_law_text"] 27 (spM K 1 eG):=aZ E 62 ["_law_text","_law_pile","_law_word","_law_figures","_law_part"] fun B S hr=>(B0 (i:=1) S.nd (E2 (G7 (bF (aU (bj .str B.z (af 0) B.z Qc))) (EY cO (bc bq rfl B.z OA (ai (af 0) aq)))) (fi (yl (bG aq))) (B1 (E5 (i:=1) (j:=2) S.nd (Dd (B2 (tD (tD (DE.one1 (af 0)))) ar)) (qt (Ha (i:=1) (j:=3) S.nd (cj (af 2) (bT (cv gG rfl B.z Qp (ai (bN aV (cj (af 2) cH (bT aj)) ar) aq))) cH)) (fi (lV (aI aV (af 2) ar) (fi (E4 (i:=1))) (fi (lV (bu (cB (aI aV (af 2) ar) (cQ (aI cO (bc bq rfl B.z OA (ai (af 1) aq)) aj)))) (qt (Hb (i:=1) (j:=4) rfl B.z OJ S.nd) (fi (rO (i:=1) (jJ aj) (by exact(af 4))))) (fi (lV (aI aV (cj (af 2) cH (bT aj)) ar) (fi (rO (i:=1) (jJ aj) (by exact(cj (af 2) (bT aj) cH)))) (fi (lV (bu (cB (aI eh (af 3) ar) (cB (aI cN (bc bq rfl B.z OA (ai (af 2) aq)) aj) (cQ (aI (i5 hr) (jT (top 62) ["_law_text","_law_pile","_law_word","_law_figures","_law_part"] (cR (af 3)) (af 0) (aI nj (af 0) ar)) (bG aq)))))) (fi (rO (i:=1) (jJ aj) (by exact(cv gG rfl B.z Qp (ai (af 2) aq))))) wX)))))))))) (qt (lV (bu (bK (aI cO (bc bq rfl B.z OA (ai (af 1) aq)) aj) (bK (aI eh (bc bq rfl B.z OA (ai (ay aC (af 1) aj) aq)) aj) (bK (bF (aU (bb (oW E) hr (ay aC (ay aC (af 1) aj) aj)))) (cA (aI eh (bb (oZ E 25) hr (ay aC (ay aC (af 1) aj) aj)) (af 0))))))) (fi (yl (bG aq))) wX) (fi (E3 (i:=1)))))))
theorem Ay:Fn P w K mg base "_law_next" ["_law_word","_law_good_here","_law_row","_law_at","_law_name"] 28 (spM K 5 fK):=aZ E 63 ["_law_word","_law_good_here","_law_row","_law_at","_law_name"] fun B S hr=>(az (aK (aI oP (af 2) dB) (aA (aD (en (aI (Ig hr) (af 4) (af 1)) (bG (ai (ay (lF hr) (af 1) (af 4)) aq)) (aL (ai ar (ai (af 4) aq)))))) aM) (az (aK (bu (bK (aI aV (af 0) ar) (cA (bu (cB (aI cN (af 3) (bc bq rfl B.z OA (ai (af 2) aq))) (cQ (aI eh (ay aC (ay aC (af 2) (af 3)) aj) (af 4)))))))) (aA (aD (aL (ai ar (ai (af 4) aq))))) aM) (aA (aD (en (aI cN (af 3) (bc bq rfl B.z OA (ai (af 2) aq))) (bb (oV E) hr (ay aC (ay aC (af 2) (af 3)) aj)) (aL (ai ar (ai (af 4) aq))))))))
theorem pH:Fn P w K mg base "_law_run" ["_law_recipe_here","_law_good_here","_law_row"] 53 (spM K 3 fM):=aZ E 64 ["_law_recipe_here","_law_good_here","_law_row","_law_got","_law_reads","_law_found","_law_some"] fun B S hr=>(az (iP (i:=3) S.nd aq) (az (iP (i:=4) S.nd aq) (az (kJ 100000 (aI eh (ay aC (af 0) aj) ar) (az (aW (i:=5) S.nd (mV (Ax E 25) (hr.mono (by omega)) rfl (ai (ay aC (af 0) aj) (ai (af 3) aq)) (cP (cP g7)))) (az (aK (bu (bK (aI aV (ay aC (af 5) aj) ar) (cA (aI aV (ay aC (af 0) aj) ar)))) (aA (aD (aL (ai (af 4) (ai (ay aC (bG (ai (af 5) (ai (aL (ai ar (ai (bb (oZ E 25) hr (ay aC (af 5) aj)) aq))) aq))) (cv gG rfl B.z Qp (ai (bN aV (ay aC (af 5) aj) ar) aq))) aq))))) aM) (aA (aK (aI aV (ay aC (af 0) aj) ar) (aA (aW (i:=0) S.nd (ay aC (af 0) (aN ba aj (cv gG rfl B.z Qp (ai (bN oQ (iQ hr B.z (ay aC (af 5) aj)) (bG (ai ar (ai ar (ai ar aq))))) aq)))))) (aA (aK (bF (aU (bb (mr E) hr (ay aC (af 5) aj)))) (aA (aD (aL (ai (af 4) (ai (aL (ai ar (ai ar aq))) aq))))) (az (aW (i:=6) S.nd (mh (Ay E) hr (ay aC (af 0) aj) (af 1) (af 2) (bc bq rfl B.z OA (ai (af 4) aq)) (ay aC (af 5) aj))) (az (aK (aU (bj .tup B.z (af 6) B.z OJ)) (aA (aD (aL (ai (af 4) (ai (af 6) aq))))) aM) (az (ie (i:=3) (by exact(ay aC (af 6) aj))) (az (aK (aI aV (ay aC (af 0) aj) ar) (aA (ie (i:=4) (by exact(aL (ai (ay aC (af 5) aj) (ai (bb (oZ E 25) hr (ay aC (af 6) aj)) aq)))))) aM) (aA (aW (i:=0) S.nd (ay aC (af 0) aj)))))))))))))) (aA (aD (aL (ai (af 4) (ai (aL (ai ar (ai (ay aC (af 0) aj) aq))) aq))))))))
theorem AB:Fn P w K mg base "_law_good" ["_law_book_here"] 54 (spM K 1 ko):=aZ E 65 ["_law_book_here","_law_good_here","_law_going","_law_name","_law_end"] fun B S hr=>(az (C8 (i:=1) B.z S.nd (ay aC (af 0) aj)) (az (aW (i:=2) S.nd cc) (az (kJ 100000 (aU (af 2)) (az (aW (i:=2) S.nd cc) (aA (ic (i:=3) S.nd (cR (jT (top 65) ["_law_book_here","_law_good_here","_law_going","_law_name","_law_end"] (cR (ay aC (af 0) aj)) (af 0) (aI (CD hr) (af 0) (af 2)))) (az (aW (i:=4) S.nd (E6 (ay aC (cW (pH E) hr (ay (lF hr) (ay aC (af 0) aj) (af 3)) (af 1) dB) aj))) (aA (aK (aI aV (ay aC (af 4) aj) ar) (az (qP (i:=1) hr (af 3) (ay aC (bb (oV E) hr (ay aC (af 4) aj)) aj)) (aA (aW (i:=2) S.nd cc))) aM))))))) (aA (aD (af 1))))))
theorem AA:Fn P w K mg base "_law_line" ["_law_book_here","_law_good_here","_law_name"] 54 (spM K 3 km):=aZ E 66 ["_law_book_here","_law_good_here","_law_name","_law_reads","_law_end"] fun B S hr=>(az (yk (i:=3) (j:=4) S.nd (cW (pH E) hr (ay (lF hr) (ay aC (af 0) aj) (af 2)) (af 1) dB)) (aA (aD (aL (ai (af 2) (ai (cv jy rfl B.z OJ (ai (af 3) aq)) (ai (af 4) aq)))))))
theorem sT:Fn P w K mg base "_law_is_pair" ["_law_thing","_law_stamped"] 28 (spM K 2 dN):=aZ E 67 ["_law_thing","_law_stamped"] fun B S hr=>(az (aK (bu (bK (bF (aU (bj .tup B.z (af 0) B.z OJ))) (bK (aI eh (bc bq rfl B.z OA (ai (af 0) aq)) aj) (cA (bF (aU (bj .str B.z (ay aC (af 0) aj) B.z Qc))))))) (aA (aD cc)) aM) (az (aK (bu (bK (aU (af 1)) (cA (aI aV (ay aC (af 0) aj) ar)))) (aA (aD (cK (bN (Ib hr) (bb (oV E) hr (ay aC (af 0) aj)) (bG aq)) (dj (bb (mr E) hr (ay aC (af 0) aj)))))) aM) (aA (aD (cK (bN oQ (ay aC (af 0) aj) (bG (ai ar (ai ar aq)))) (dj (bb (mr E) hr (ay aC (af 0) aj))))))))
theorem z5:Fn P w K mg base "_law_is_line" ["_law_thing"] 29 (spM K 1 fJ):=aZ E 68 ["_law_thing"] fun B S hr=>(az (aK (bu (bK (bF (aU (bj .tup B.z (af 0) B.z OJ))) (bK (aI eh (bc bq rfl B.z OA (ai (af 0) aq)) aj) (cA (bF (aU (bb (mr E) hr (ay aC (af 0) aj)))))))) (aA (aD cc)) aM) (az (aK (bu (bK (bF (aU (bj .tup B.z (ay aC (af 0) aj) B.z OJ))) (bK (aI cO (bc bq rfl B.z OA (ai (ay aC (af 0) aj) aq)) aj) (cA (bF (aU (aX (sT E) hr (ay aC (af 0) aj) cc))))))) (aA (aD cc)) aM) (aA (aD (bN (yK hr) (jT (top 68) ["_law_thing"] (cR (ay aC (af 0) aj)) (af 0) (bF (aU (aX (sT E) hr (af 0) cc)))) (bG aq))))))
theorem zX:Fn P w K mg base "_law_is_right" ["_law_recipe_here","_law_line_here"] 54 (spM K 2 fG):=aZ E 69 ["_law_recipe_here","_law_line_here","_law_reads","_law_end"] fun B S hr=>(az (yk (i:=2) (j:=3) S.nd (cW (pH E) hr (af 0) qQ (ay aC (af 1) aj))) (aA (aD (cK (bN (i5 hr) (af 3) (ay aC (af 1) aj)) (dj (bN aV (bc bq rfl B.z OA (ai (af 2) aq)) (bc bq rfl B.z OA (ai (ay aC (af 1) aj) aq))))))))
theorem Ae:Fn P w K mg base "_law_names" ["_law_tape","_law_many_here"] 2 (spM K 2 gO):=aZ E 70 ["_law_tape","_law_many_here","_law_letters","_law_way","_law_at","_law_words","_law_tail"] fun B S hr=>(az (aW (i:=2) S.nd ar) (az (aW (i:=3) S.nd (aX (bQ E) hr (af 0) aj)) (az (aW (i:=4) S.nd (aX (bQ E) hr (af 0) aj)) (az (aK (aI aV (af 3) aj) (az (aW (i:=5) S.nd (bG (ai ar (ai ar (ai ar (ai ar (ai ar (ai ar (ai ar (ai ar (ai ar (ai ar (ai ar (ai ar aq)))))))))))))) (aA (aD (cj (aN ba (cj (af 5) (bT (af 4)) cH) (cj (af 5) cH (bT (af 4)))) cH (bT (af 1)))))) aM) (az (aK (aI aV (af 3) aj) (aA (aD (fE (top 70) ["_law_tape","_law_many_here","_law_letters","_law_way","_law_at","_law_words","_law_tail"] (jx rfl B.z (af 1)) (aN eW (ay aC (af 3) (aN ba (af 5) (aN nk (af 0) aj))) (aN ba aj (aN ft (af 0) aj)))))) aM) (az (aW (i:=6) S.nd (aN eW (ay aC (af 2) (af 4)) (aX (bQ E) hr (af 0) (aN gB aj (aN ft (af 4) aj))))) (aA (aD (fE (top 70) ["_law_tape","_law_many_here","_law_letters","_law_way","_law_at","_law_words","_law_tail"] (jx rfl B.z (af 1)) (aN ba (aN ba (aN eW (ay aC (af 3) (af 5)) (aN ft (af 5) aj)) (ay aC (af 3) (aN ft (aN ba (af 5) (af 0)) aj))) (af 7)))))))))))
theorem tf:∀n,Fn P w K mg base "_law_value" ["_law_tape","_law_names_here","_law_deep"] (1+n) (spM K 3 (dt n)):=dY (ef E 71) fun n ih=>aZ (k:=1+n) E 71 ["_law_tape","_law_names_here","_law_deep","_law_way","_law_some"] fun B S hr=>(az (aW (i:=3) S.nd (aX (bQ E) hr (af 0) aj)) (az (aW (i:=4) S.nd (bG (ai aj (ai aj (ai (jJ aj) (ai aj (ai (aN lL aj aj) (ai (jJ (aN lL aj aj)) (ai ar (ai ar (ai ar (ai ar (ai (aN eW ar aj) (ai (aL aq) aq)))))))))))))) (az (aK (bu (bK (aI cN (af 3) aj) (cA (bu (cB (aI aV (af 2) aj) (cQ (aI cO (af 3) aj))))))) (aA (aD (ay aC (af 4) (aX (bQ E) hr (af 0) aj)))) aM) (az (aK (aI cN (af 3) aj) (aA (aD (ay aC (af 1) (aX (bQ E) hr (af 0) (bc bq rfl B.z OA (ai (af 1) aq)))))) aM) (aA (aD (cv jy rfl B.z OJ (ai (fE (top 71) ["_law_tape","_law_names_here","_law_deep","_law_way","_law_some"] (jx rfl B.z (aX (bQ E) hr (af 0) aj)) (cW ih hr (af 1) (af 2) (aN gB (af 3) aj))) aq))))))))
theorem sV:Fn P w K mg base "_law_simple" ["_law_tape","_law_names_here","_law_many_here"] 27 (spM K 3 iD):=aZ E 72 ["_law_tape","_law_names_here","_law_many_here"] fun B S hr=>(az (aK (bu (cB (aI cO (af 2) aj) (cQ (aI cO (aX (bQ E) hr (af 0) aj) aj)))) (aA (aD (aL (ai ar (ai (aX (bQ E) hr (af 0) (af 2)) aq))))) aM) (aA (aD (aL (ai ar (ai (cW (tf E 25) hr (af 0) (af 1) aj) aq))))))
theorem AC:Fn P w K mg base "_law_expr" ["_law_tape","_law_names_here","_law_many_here"] 28 (spM K 3 iF):=aZ E 73 ["_law_tape","_law_names_here","_law_many_here","_law_way","_law_one","_law_other_here"] fun B S hr=>(az (aW (i:=3) S.nd (aX (bQ E) hr (af 0) aj)) (az (aW (i:=4) S.nd (cW (sV E) hr (af 0) (af 1) (af 2))) (az (aK (aI cN (af 3) aj) (aA (aD (ay aC (bG (ai (af 4) (ai (aL (ai ar (ai (af 4) aq))) aq))) (aN nk (af 3) aj)))) aM) (az (aW (i:=5) S.nd (cW (sV E) hr (af 0) (af 1) (af 2))) (az (aK (aI aV (af 3) aj) (aA (aD (aL (ai ar (ai (cj (aL (ai (af 4) (ai (af 5) aq))) cH (bT (aX (bQ E) hr (af 0) aj))) aq))))) aM) (aA (aD (aL (ai (ay aC (bG (ai ar (ai ar (ai ar (ai ar (ai ar aq)))))) (aX (bQ E) hr (af 0) aj)) (ai (af 4) (ai (af 5) aq)))))))))))
theorem z8:∀n,Fn P w K mg base "_law_recipe" ["_law_tape","_law_names_here","_law_deep","_law_many_here","_law_peeks"] (28+n) (spM K 5 (cG n)):=dY (ef E 74) fun n ih=>aZ (k:=28+n) E 74 ["_law_tape","_law_names_here","_law_deep","_law_many_here","_law_peeks","_law_way","_law_expr_here","_law_word","_law_one"] fun B S hr=>(az (aW (i:=5) S.nd (aX (bQ E) hr (af 0) aj)) (az (aW (i:=6) S.nd (cW (AC E) hr (af 0) (af 1) (af 3))) (az (aK (bu (cB (aI cO (af 2) aj) (cQ (aI cN (af 5) aj)))) (az (aW (i:=7) S.nd (ay aC (bG (ai ar (ai ar aq))) (cv gG rfl B.z Qp (ai (cK (af 4) (dj (bN aV (aX (bQ E) hr (af 0) aj) aj))) aq)))) (az (aK (aI cO (aX (bQ E) hr (af 0) aj) aj) (aA (aW (i:=6) S.nd (aL (ai ar (ai (ay aC (af 1) (aX (bQ E) hr (af 0) (bc bq rfl B.z OA (ai (af 1) aq)))) aq))))) aM) (aA (aD (aL (ai (af 7) (ai (af 6) (ai (mh ih hr (af 0) (af 1) (aN gB (af 2) aj) (aN ba (af 3) aj) (af 4)) aq)))))))) aM) (az (aK (bu (cB (aI cO (af 2) aj) (cQ (aI cN (af 5) aj)))) (az (aW (i:=8) S.nd (mh ih hr (af 0) (af 1) (aN gB (af 2) aj) (af 3) (af 4))) (aA (aD (aL (ai ar (ai (af 6) (ai (af 8) (ai (mh ih hr (af 0) (af 1) (aN gB (af 2) aj) (af 3) (af 4)) aq)))))))) aM) (az (aK (bu (cB (aI aV (af 5) aj) (cQ (aI aV (aX (bQ E) hr (af 0) aj) aj)))) (aA (aD (aL (ai ar (ai (ay aC (aN ba (af 1) (bG (ai ar (ai ar aq)))) (aX (bQ E) hr (af 0) (aN ba (bc bq rfl B.z OA (ai (af 1) aq)) aj))) aq))))) aM) (aA (aD (aL (ai ar (ai (af 6) aq))))))))))
theorem AD:Fn P w K mg base "_law_book" ["_law_script","_law_at","_law_peeks"] 54 (spM K 3 kq):=aZ E 75 ["_law_script","_law_at","_law_peeks","_law_head","_law_many_here","_law_names_here","_law_givens","_law_recipes","_law_k","_law_tape"] fun B S hr=>(pZ (i:=3) S.nd (ai (aX (pb E) hr (aX (ms E) hr (af 0) (af 1)) aj) (ai aj aq)) (az (aW (i:=4) S.nd (aN ba aj (aX (bQ E) hr (af 3) aj))) (az (aW (i:=5) S.nd (aX (Ae E) hr (af 3) (aN ba (af 4) aj))) (az (wV (i:=6) S.nd) (az (wV (i:=7) S.nd) (az (ic (i:=8) S.nd (jx rfl B.z (af 4)) (pZ (i:=9) S.nd (ai (aX (pb E) hr (aN ba (aX (ms E) hr (af 0) (aN ba (aN ba (af 1) aj) (af 8))) (aN eW aj (af 8))) aj) (ai aj aq)) (aA (aK (aI aV (aX (bQ E) hr (af 9) aj) aj) (aA (qP (i:=6) hr (ay aC (af 5) (af 8)) (cW (tf E 25) hr (af 9) (af 5) aj))) (aA (qP (i:=7) hr (ay aC (af 5) (af 8)) (mh (z8 E 25) hr (af 9) (af 5) (aN ba aj (aX (bQ E) hr (af 9) aj)) aj (af 2)))))))) (aA (aD (aL (ai (af 6) (ai (af 7) aq)))))))))))
theorem A9:Fn P w K mg base "_law_odd" ["_law_tape","_law_thing"] 2 (spM K 2 dy):=aZ E 76 ["_law_tape","_law_thing","_law_way","_law_some"] fun B S hr=>(az (aW (i:=2) S.nd (aX (bQ E) hr (af 0) aj)) (az (aK (bu (cB (aI cN (af 2) aj) (cQ (aU (bj .tup B.z (af 1) B.z OJ))))) (aA (aD (ay aC (bG (ai (cv lD rfl B.z RV (ai (af 1) aq)) (ai (aN ba (af 1) (aL (ai (af 1) aq))) (ai (cj (af 1) (bT aj) cH) aq)))) (af 2)))) aM) (az (aK (bu (cB (aI cN (af 2) aj) (cQ (aU (bj .str B.z (af 1) B.z Qc))))) (aA (aD (ay aC (bG (ai (Dh (af 1)) (ai (aN ba (af 1) ar) (ai ar aq)))) (aN gB (af 2) aj)))) aM) (az (aW (i:=3) S.nd (bG (ai dB (ai cc (ai aj (ai (jJ aj) (ai ar (ai ar (ai ar (ai ar (ai (aL aq) (ai (bG aq) (ai (aL (ai ar (ai ar aq))) (ai (aL (ai ar (ai ar aq))) (ai (aL (ai ar (ai aj aq))) (ai qQ (ai ar (ai ar aq)))))))))))))))))) (aA (aD (ay aC (af 3) (aX (bQ E) hr (af 0) (bc bq rfl B.z OA (ai (af 3) aq))))))))))
theorem AE:∀n,Fn P w K mg base "_law_bent" ["_law_tape","_law_thing"] (2+n) (spM K 2 (gR n)):=dY (ef E 77) fun n ih=>aZ (k:=2+n) E 77 ["_law_tape","_law_thing","_law_at"] fun B S hr=>(az (aK (bu (cB (aU (bj .tup B.z (af 1) B.z OJ)) (cB (aI cO (bc bq rfl B.z OA (ai (af 1) aq)) aj) (cQ (aI cO (aX (bQ E) hr (af 0) aj) aj))))) (az (aW (i:=2) S.nd (aX (bQ E) hr (af 0) (bc bq rfl B.z OA (ai (af 1) aq)))) (aA (aD (aN ba (aN ba (cj (af 1) cH (bT (af 2))) (aL (ai (aX ih hr (af 0) (ay aC (af 1) (af 2))) aq))) (cj (af 1) (bT (aN ba (af 2) aj)) cH))))) aM) (aA (aD (aX (A9 E) hr (af 0) (af 1)))))
theorem Ad:Fn P w K mg base "_law_other" ["_law_tape","_law_line_here","_law_names_here"] 28 (spM K 3 du):=aZ E 78 ["_law_tape","_law_line_here","_law_names_here","_law_name","_law_reads","_law_end","_law_way","_law_k","_law_stamp_here","_law_some"] fun B S hr=>(az (EZ (i:=3) (j:=4) (k:=5) S.nd (af 1)) (az (aW (i:=6) S.nd (aX (bQ E) hr (af 0) aj)) (az (aW (i:=7) S.nd (aX (bQ E) hr (af 0) (aN ba (bc bq rfl B.z OA (ai (af 4) aq)) aj))) (az (aK (aI cN (af 6) aj) (aA (aD (aL (ai (af 3) (ai (aN ba (cj (af 4) cH (bT (af 7))) (ay aC (bG (ai (aL aq) (ai (cj (af 4) (bT (aN ba (af 7) aj)) cH) aq))) (af 6))) (ai (af 5) aq)))))) aM) (az (aK (aI aV (af 6) aj) (aA (aD (aL (ai (af 3) (ai (cj (aN ba (af 4) (aN Gw (cj (af 4) cH (bT aj)) aj)) cH (bT (ay aC (bG (ai (aN ba (bc bq rfl B.z OA (ai (af 4) aq)) aj) (ai aj (ai aj aq)))) (aX (bQ E) hr (af 0) aj)))) (ai (af 5) aq)))))) aM) (az (aK (bu (cB (aI aV (af 6) aj) (cQ (aI cO (bc bq rfl B.z OA (ai (af 4) aq)) (af 7))))) (az (aW (i:=8) S.nd (ay aC (bG (ai ar (ai ar (ai ar (ai ar (ai ar (ai aj (ai ar (ai ar (ai ar (ai ar aq))))))))))) (aX (bQ E) hr (af 0) aj))) (az (aW (i:=9) S.nd (ay aC (bG (ai (ay aC (ay aC (af 4) (af 7)) aj) (ai (ay aC (af 2) aj) (ai ar aq)))) (aX (bQ E) hr (af 0) aj))) (aA (aD (aL (ai (af 3) (ai (aN ba (aN ba (cj (af 4) cH (bT (af 7))) (aL (ai (aL (ai (af 9) (ai (af 8) aq))) aq))) (cj (af 4) (bT (aN ba (af 7) aj)) cH)) (ai (af 5) aq)))))))) aM) (az (aK (aI aV (af 6) aj) (az (aW (i:=9) S.nd (bG (ai (aL (ai ar (ai ar aq))) (ai (aL (ai ar (ai aj aq))) (ai (aL (ai ar (ai ar aq))) (ai (aL (ai ar (ai ar aq))) (ai (aL (ai ar (ai ar aq))) (ai (aL (ai ar (ai (ay aC (af 2) aj) aq))) aq)))))))) (az (aW (i:=9) S.nd (aN ba (af 9) (bG (ai (aL (ai ar (ai ar aq))) (ai (aL (ai ar (ai ar aq))) (ai (aL (ai ar aq)) (ai (bG (ai ar (ai ar aq))) (ai (aL (ai ar (ai ar aq))) (ai (aL (ai ar (ai ar aq))) aq))))))))) (aA (aD (aL (ai (af 3) (ai (af 4) (ai (ay aC (af 9) (aX (bQ E) hr (af 0) aj)) aq)))))))) aM) (az (aK (aI aV (af 6) aj) (aA (aD (aL (ai (af 3) (ai (He (af 4)) (ai (af 5) aq)))))) aM) (aA (aD (aX (AE E 25) hr (af 0) (af 1))))))))))))
theorem tj:Fn P w K mg base "_law_asked" ["_law_book_here","_law_line_here"] 86 (spM K 2 gP):=aZ E 79 ["_law_book_here","_law_line_here","_law_due","_law_name","_law_right"] fun B S hr=>(az (aW (i:=2) S.nd (bb (z5 E) hr (af 1))) (az (aK (aI eh (iQ hr B.z (bb (pY E) hr (af 1))) (iQ hr B.z (af 2))) (aA (aD cc)) aM) (az (ic (i:=3) S.nd (cR (ay aC (af 0) aj)) (aA (aK (aU (af 2)) (az (aW (i:=4) S.nd (aX (zX E) hr (ay (lF hr) (ay aC (af 0) aj) (af 3)) (af 1))) (aA (aK (aI eh (iQ hr B.z (aX (A5 E) hr (ay (lF hr) (ay aC (af 0) aj) (af 3)) (af 1))) (iQ hr B.z (af 4))) (aA (aD cc)) aM))) aM))) (aA (aD cc)))))
theorem Gu{f:Addr}{fd:PK}(F:Fun K "law" "law" (top 80) f fd):FnOk P w K mg base CX0 87 f fd ["_law_script"] (spM K 1 oj):=IK E ["_law_script","_law_book_here","_law_good_here","_law_names_here","_law_k","_law_name","_law_line_here","_law_tape","_law_turn","_law_thing"] F fun B S hr=>(az (aW (i:=1) S.nd (cW (AD E) hr (af 0) aj (bN aV (aN ft (aX (ms E) hr (af 0) aj) aj) aj))) (az (aW (i:=2) S.nd (bb (AB E) hr (af 1))) (az (aW (i:=3) S.nd (bc Dr rfl B.z boot_sorted (ai (aN ba (cv xj rfl B.z RV (ai (ay aC (af 1) aj) aq)) (cv xj rfl B.z RV (ai (ay aC (af 1) aj) aq))) aq))) (az (C9 (i:=4) (j:=5) B.z S.nd (Di B.z (ay aC (af 1) aj)) (az (aW (i:=6) S.nd (cW (AA E) hr (af 1) (af 2) (af 5))) (az (aK (bF (aU (aX (tj E) hr (af 1) (af 6)))) (aA (aD cc)) aM) (pZ (i:=7) S.nd (ai (aX (pb E) hr (aN ba (aX (ms E) hr (af 0) (aN ba aj (af 4))) (aN eW aj (af 4))) aj) (ai aj aq)) (aA (ic (i:=8) S.nd (jx rfl B.z aj) (aA (aK (bF (aU (aX (tj E) hr (af 1) (cW (Ad E) hr (af 7) (af 6) (af 3))))) (aA (aD cc)) aM)))))))) (az (ic (i:=9) S.nd (cR (bG (ai dB (ai (aL aq) (ai (bG aq) (ai ar (ai qQ (ai (aL (ai ar (ai (aL aq) aq))) (ai (aL (ai ar (ai (aL aq) (ai (aL (ai ar (ai ar aq))) (ai aj aq))))) (ai aj aq)))))))))) (aA (aK (aI Gx (bb (pY E) hr (af 9)) cc) (aA (aD cc)) aM))) (aA (aD (bN Ic (bb (pY E) hr (aL (ai ar (ai (aL aq) (ai (aL (ai ar (ai ar aq))) aq))))) cc))))))))
end
theorem all_mk{l:To}{w:Ow}{K:Frag}{h:Heap}{mg:Str->Option NK}{fa:Addr}(X:K.In h)(G:h.Ns OG mg)(hfa:mg "law"=some (.ref fa))(d:DfL K top zS)(z:ZL K zZ)(i:IL K zI)(s:SL K zT){a_NOT_GIVEN:Addr}{o_NOT_GIVEN:Obj}(u_NOT_GIVEN:PM K OG "NOT_GIVEN"=some (some (.ref a_NOT_GIVEN)))(l_NOT_GIVEN:K.lookup a_NOT_GIVEN=some o_NOT_GIVEN)(v_NOT_GIVEN:rV a_NOT_GIVEN o_NOT_GIVEN [("want","wants"),("peek","peeks")]=true)
  (hm:∀ns:List Int,ns.length<=63->∃T',oj [.d (eP ns)] []=some (.bool true,T')) :
  ∃fd:PK,(∀(s:NL) (v:NK),T7 s fd ⟨[v],[]⟩ [("_law_script",v)])/\∀base:Heap,K.In base->base.Ns OG mg->FnOk l.prog w K mg base CX0 87 fa fd ["_law_script"] (n6 K):=by
 obtain⟨f0,oc,od,an,sl,kV,dc,pm,cd,ct,a,lk,c,kp⟩:=(d.at (x:="law") (i:=80) (by decide +kernel)).ex;cases hfa.symm.trans (RA X G a);exact⟨Po "law" "law" (eO (top 80)) (dA (top 80)) (bM (top 80)) .none kV dc pm an cd ct,fun s v=>.of_eq rfl,fun base _ _=>C6 (Gu ⟨⟨_,X,G⟩,⟨IQ X G z i s,⟨_,RA X G u_NOT_GIVEN,AQ l_NOT_GIVEN v_NOT_GIVEN⟩⟩,d⟩ (ye (st:=top 80) lk c kp)) (BH hm)⟩
theorem walk{l:To}{q:Og}{loose:List Str}{XP:(Str->Option NK)->Heap->Prop}{YP:Ow->Heap->Prop}{d:DefRec}{K:Wv->Frag}(hn:l.most=some 63)(hdf:d.params.defaults=[])
  (hY:∀(w:Ow) (h:Heap),YP w h->(K w.params).In h)
  (F:∀(w:Ow) (mg:Str->Option NK) (fa:Addr) (h:Heap),(K w.params).In h->h.Ns OG mg->mg d.name=some (.ref fa) ->
   ∃fd:PK,(∀(s:NL) (u:NK),T7 s fd ⟨[u],[]⟩ [("_law_script",u)])/\∀base:Heap,(K w.params).In base->base.Ns OG mg->FnOk l.prog w (K w.params) mg base CX0 87 fa fd ["_law_script"] (n6 (K w.params))) :
  Um q loose XP YP l.row.toRowW d [] (fun f vs=>Tf f vs):=L2.DJ (n:=63) (k:=87) (x:="_law_script") (CX:=fun _=>CX0) (sp:=fun w=>n6 (K w.params)) hn (by decide) hdf ⟨rfl,by decide,by decide,rfl⟩ hY F (fun _ _ a ns hl _ hS=>⟨a,ns,rfl,hS,hl,fun _=>rfl⟩) fun _ _ _ _ _ z=>z
open PySem PySem.Spec PySem.Calls PySem.W PyProof.Rows PySem.W.X PySem.W.ZRun
theorem walkZ{q:Og}{loose:List Str}{XP:(Str->Option NK)->Heap->Prop}{K:Wv->Frag}{r:RowW}{d:DefRec}{kwd:List (Str×Expr)}
  {w:Ow}{s₀ s₁:NL}{mg mb:Str->Option NK}{a:Addr}{o:Obj}{pm cd doc dV kV:NK}{args:List WData}{vals:List NK}{as:List Addr}
  (KX:(K w.params).In s₁.heap) (GR:Ground q loose r.records XP w s₀ mg mb s₁.heap) (ho:s₁.heap.get? a=some o)
  (hd:o.data=.func { docDef d.name d.params d.body d.scope pm cd doc with defaults:=dV,kwdefaults:=kV }) (hcd:s₁.heap.CodeRec cd d.name) (hD:Dflts mg s₁.heap d.params kwd dV kV) (hmg:mg d.name=some (.ref a)) (hg:s₁.gens = #[])
  (hpre:r.claim.pre args=true) (hlay:WData.layableAll args=true) (hrd:ReadsAllW r.records (classAt s₀.heap) s₁.heap vals args as) (hwl:WellAll w.params s₁.heap vals args) (hlo:∀a∈as,(a == Pz)=false)
  (W:Um q loose XP (fun w h=>(K w.params).In h) r d kwd fun f vs=>Tf f vs) :
  Oo (Ot r.prog w) Te (Tf (.ref a) vals) (fun v s'=>GoodWG r.claim (classAt s₀.heap) (Wl s₀.heap) args s₁ (.ok (.ret v)) s')
    (fun e s'=>GoodWG r.claim (classAt s₀.heap) (Wl s₀.heap) args s₁ (.error e) s') s₁:=W w s₀ s₁ mg mb GR KX a o pm cd doc dV kV ho hd hcd hD hmg hg args vals as hpre hlay hrd hwl hlo
end G
end Internal
namespace PySem.W.Fast
def tw9891659360955191979:=Nat
def tw2381375020433119282:=Nat
def tw134262819366399669:=Nat
def tw794053437837140390:=Nat
def tw3493444365835018548:=Nat
def tw8133342812461769055:=Nat
def tw1180246100237757268:=Nat
def tw78399239709221083:=Nat
def tw15508512125360285811:=Nat
def tw16387083132243879916:=Nat
def tw5285980000302147468:=Nat
def tw9939877290609721688:=Nat
def tw12299687428676607500:=Nat
def tw1513981278256891435:=Nat
def tw11582049717086466319:=Nat
def tw6631458398237408956:=Nat
def tw15196632400074849573:=Nat
def tw9921991032497872629:=Nat
def tw3575034362227294131:=Nat
def tw17769824508036036952:=Nat
def tw12095450560978693845:=Nat
def tw14672942343444562438:=Nat
def tw3044523924484226439:=Nat
def tw17480455104440124502:=Nat
def tw4483034249249075345:=Nat
def tw4391417065095229632:=Nat
def tw16945167635081315332:=Nat
def tw14121470229282111885:=Nat
def tw11664395172192149779:=Nat
def tw10162828525605134757:=Nat
def tw1751492262141460814:=Nat
def tw675822238258764161:=Nat
def tw9419315160132492985:=Nat
def tw688056575193763852:=Nat
def tw17815734249379419195:=Nat
def tw6430156906711124061:=Nat
def tw3055342273316166127:=Nat
def tw12782623444748213931:=Nat
def tw18339493633385838058:=Nat
def tw5628423267989659985:=Nat
def tw16793365675821182846:=Nat
def tw16287612532399804559:=Nat
def tw9344272184014374233:=Nat
def tw18330971240161197721:=Nat
def tw10858856812904225022:=Nat
def tw5476137962722365146:=Nat
def tw3948936251229171989:=Nat
def tw8965181554393310291:=Nat
def tw3337165455575444264:=Nat
def tw13166220928669991972:=Nat
def tw12535532351995273659:=Nat
def tw10392767535771490013:=Nat
def tw15204160305573157723:=Nat
def tw11205802646238760253:=Nat
def tw7395314390419372990:=Nat
def tw5579515585388921444:=Nat
def tw15603468321062939067:=Nat
def tw8258655008731057992:=Nat
def tw6401238387702466330:=Nat
def tw1502537921868399546:=Nat
def tw15045987844622727369:=Nat
def tw6378198938296767089:=Nat
def tw1324532775831643701:=Nat
def tw8578638869777121947:=Nat
def tw2708465597998527850:=Nat
def tw5117051326758701184:=Nat
def tw9873023541917196835:=Nat
def tw16139029044368740054:=Nat
def tw4927182764443244634:=Nat
def tw6328076193210375581:=Nat
def tw4769809439712916522:=Nat
def tw1782750578758367283:=Nat
def tw1246649497658739027:=Nat
def tw5065238584893698884:=Nat
def tw13051256586872983518:=Nat
def tw903274813563026248:=Nat
def tw3006003322337770169:=Nat
def tw5004806848303418329:=Nat
def tw16685793957410920020:=Nat
def tw13071394708546865684:=Nat
def tw17960583159205760081:=Nat
def tw4245790751117141516:=Nat
def tw12511958129899537522:=Nat
def tw5378453101314989863:=Nat
def tw138506418821961551:=Nat
def tw13376091566849655247:=Nat
def tw2445927875151667652:=Nat
def tw8162344120216709992:=Nat
def tw15593351113028731232:=Nat
def tw9692146182403959427:=Nat
def tw11632889053560902259:=Nat
def tw17489093395625752179:=Nat
def tw15171960543999643935:=Nat
def tw10657634011871858914:=Nat
def tw4065852712454350865:=Nat
def tw6481607178427951987:=Nat
def tw14804590687843047433:=Nat
def tw14439538860886679254:=Nat
def tw7001861895275195990:=Nat
def tw17121089660579489237:=Nat
def tw15892609808200577333:=Nat
def tw3582446784175889910:=Nat
def tw14986856963983184244:=Nat
def tw12261352890755242482:=Nat
def tw15394561798195888241:=Nat
def tw8473739862242854322:=Nat
def tw9270562828900686648:=Nat
def tw14027900582827489540:=Nat
def tw12191130114008904810:=Nat
def tw16401477462041456839:=Nat
def tw12355287651244765187:=Nat
def tw12839431690893863331:=Nat
def tw11629562881098057838:=Nat
def tw11644716004839673588:=Nat
def tw7903190010539470:=Nat
def tw9593030367139947396:=Nat
def tw2594474097293899737:=Nat
def tw9146039345297358206:=Nat
def tw9652421505096935421:=Nat
def tw9895651513930085163:=Nat
def tw8825194564312362660:=Nat
def tw15928883669180262761:=Nat
def tw6182462702453743525:=Nat
def tw6559958132999475185:=Nat
def tw6593374408568496566:=Nat
def tw3483599883775663271:=Nat
def tw8130514124460798627:=Nat
def tw6006864352321076606:=Nat
def tw3809804593512065159:=Nat
def tw7035641071688024996:=Nat
def tw3399264507970117369:=Nat
def tw7383499778439053424:=Nat
def tw6021284792017740440:=Nat
def tw12579205037788007306:=Nat
def tw7172220061643867843:=Nat
def tw5307942095262479392:=Nat
def tw18404988756357755045:=Nat
def tw9566644743004465743:=Nat
def tw15394395943526765695:=Nat
def tw4584133259578793495:=Nat
def tw17723360599419739541:=Nat
def tw9986665532065367485:=Nat
def tw11242770038668504387:=Nat
def tw14269353096504206738:=Nat
def tw2984347922614199346:=Nat
def tw2516482584125597772:=Nat
def tw2815461542662749101:=Nat
def tw4338369151245511575:=Nat
def tw12742056913861308092:=Nat
def tw5571981844258983522:=Nat
def tw1193509508076344460:=Nat
def tw2221836003657460593:=Nat
def tw12307407271293871040:=Nat
def tw13978261224705373436:=Nat
def tw5043792156627650943:=Nat
def tw14021325314109643828:=Nat
def tw16964203991968814307:=Nat
def tw13310622217109764977:=Nat
def tw4628790075278037324:=Nat
def tw4434199127515839753:=Nat
def tw9257098765425337504:=Nat
def tw2716457032601470876:=Nat
def tw16904361848302965397:=Nat
def tw10749691233335449124:=Nat
def tw8363508828808430050:=Nat
def tw8272994639051554859:=Nat
def tw3431544050966877265:=Nat
def tw12682587421311568488:=Nat
def tw6859683998998096041:=Nat
def tw5114688243425528722:=Nat
def tw16423863801904066769:=Nat
def tw4331379219233469622:=Nat
def tw3776813890625543206:=Nat
def tw7289788028439606650:=Nat
def tw5160178247704901909:=Nat
def tw12990972253474346004:=Nat
def tw15951370931947701263:=Nat
def tw7618207989335020987:=Nat
def tw8876703645836122647:=Nat
def tw2223963981982715915:=Nat
def tw1016059995679716232:=Nat
def tw8750792086309429476:=Nat
def tw4069778117616621892:=Nat
def tw8110889885615100417:=Nat
def tw13626008794447111181:=Nat
def tw16359781207264989165:=Nat
def tw2759683175428098417:=Nat
def tw7498173636828619317:=Nat
def tw2401267611916189566:=Nat
def tw3823497560850163002:=Nat
def tw13351697403948616085:=Nat
def tw11489240033445918973:=Nat
def tw17995545830152902500:=Nat
def tw5290389233706262466:=Nat
def tw552801285933915684:=Nat
def tw13431479204779047943:=Nat
def tw1577226488327448430:=Nat
def tw13350239332934510859:=Nat
def tw2392182058759520894:=Nat
def tw18231044504750300488:=Nat
def tw17092297815789828043:=Nat
def tw12154634682979056226:=Nat
def tw13345529874430815939:=Nat
def tw8000078852684560202:=Nat
def tw7080291613892496027:=Nat
def tw13805855370786910544:=Nat
def tw390583833475977934:=Nat
def tw8784397609280829816:=Nat
def tw2050716037771575427:=Nat
def tw6485734946296107825:=Nat
def tw17302695284516940608:=Nat
def tw9395216702190140294:=Nat
def tw11323303187791150617:=Nat
def tw8707043507776629698:=Nat
def tw16075276017493193570:=Nat
def tw6275239545118343374:=Nat
def tw12009888835898776032:=Nat
def tw4129052351785688877:=Nat
def tw9473695480046445495:=Nat
def tw17076473759031233044:=Nat
def tw11227477243097881503:=Nat
def tw8745849831977863162:=Nat
def tw4278373709905295117:=Nat
def tw7130702704651632411:=Nat
def tw14192512928572584688:=Nat
def tw13751951046667209340:=Nat
def tw17001991591654265691:=Nat
def tw1945718291910763990:=Nat
def tw5934304896500751463:=Nat
def tw7654470338829514196:=Nat
def tw7882354120573512891:=Nat
def tw4058953952341035387:=Nat
def tw15464865343650861517:=Nat
def tw14450549711447416853:=Nat
def tw16766723260129373286:=Nat
def tw1138824059618953010:=Nat
def tw2667541158962675820:=Nat
def tw15897195709415957355:=Nat
def tw8062659532495661066:=Nat
def tw16357037099096288616:=Nat
def tw11885884555282985123:=Nat
def tw15154439963206483738:=Nat
def tw3782206896142177919:=Nat
def tw14112569621721378763:=Nat
def tw10494723181046362810:=Nat
def tw13195487944186758583:=Nat
def tw9628226747907021767:=Nat
def tw8642713915291609344:=Nat
def tw1262898169649793226:=Nat
def tw6040614771516823428:=Nat
def tw6435844413663611615:=Nat
def tw8021053830200052383:=Nat
def tw6286134115432105644:=Nat
def tw10149924837464244437:=Nat
def tw18131013172158485085:=Nat
def tw4185344380847409452:=Nat
def tw4570000741699634566:=Nat
def tw9568403553386120191:=Nat
def tw16187982712914349695:=Nat
def tw4833292885101901940:=Nat
def tw17096637299685364176:=Nat
def tw11392790618048569915:=Nat
def tw9645055249098425296:=Nat
def tw17298116630788588867:=Nat
end PySem.W.Fast
noncomputable def PySem.W.Fast.tw4343059435106042856 : PySem.Program := PySem.Challenge.pw_redo_k25_lines_right_or_not
theorem PySem.W.Fast.te4343059435106042856 : PySem.Challenge.pw_redo_k25_lines_right_or_not = PySem.W.Fast.tw4343059435106042856 := rfl

open Internal
open PySem PySem.W PyProof.Rows PySem.W.X PySem.W.ZRun
set_option maxRecDepth 100000 in
set_option maxHeartbeats 0 in
theorem PySem.Challenge.cw_redo_k25_lines_right_or_not_holds : PySem.Challenge.rw_redo_k25_lines_right_or_not.Holds := by
 w_on; o_law; z_head; (case hw=>w_witness2)
 k_fill
 intro w s₀ s₁ mg mb GR y fa o pm cd doc dV kV ho hd hcd hD hmg hg args vals as L hpre hlay hrd hwl hlo
 z_open y L KX ZH ZN ZT
 clear ZH ZN ZT
 refine G.walkZ KX GR ho hd hcd hD hmg hg hpre hlay hrd hwl hlo ?W
 clear KX GR ho hd hcd hD hmg hg hpre hlay hrd hwl hlo L y
 refine G.walk (l:=PySem.Challenge.rw_redo_k25_lines_right_or_not) rfl rfl (fun w h Y=>Y) ?F
 case F=>
  intro w mg fa h KX GG hmg
  refine' G.all_mk KX GG hmg ?_ ?_ ?_ ?_ ?_ ?_ ?_ G.CT
  any_goals repeat' first | exact True.intro | refine' D.De ?_ ?_ | refine' D.DB ?_ ?_ | refine' D.EK ?_ ?_ | refine' D.DX ?_ ?_
  any_goals first | (refine' D.IG ?a ?l ?c ?k; (case a=>k_is); (case l=>k_is); (case c=>k_is); (case k=>k_is)) | k_is
  all_goals first | rfl | decide +kernel
