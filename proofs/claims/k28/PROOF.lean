import PyProof.Rows.All
import Wide.All
import OpenK.AllK
import Wide.FinOn
import Lean
import PyProof.EqAt
import PyProof.EqKinds
import PyProof.TupleCall
import PySem.Challenge.RW_redo_k28_papers_told
noncomputable section
open PySem.W (Frag)
set_option Elab.async false
set_option linter.all false
set_option maxRecDepth 100000
set_option compiler.extract_closed false
set_option bootstrap.genMatcherCode false
open PySem renaming PyData->N9,Value->Oa,Shared->Od,starEach->Oh,sizeLine->Om,wpAny_bind->On,Program->OB,wpAny_pure->OD,compareOp->OM,model->OQ,wpAny->OU,World->OV,foldedSetIterable->O0,Around->O5,boot_len->O7,mainGlobals->O9,attributeBase->Pa,backTo->Pb,swapsWith->Pm,Keyword->Pq,wpAny_passesOwn->Pu,wpAny_truthy_bool->Pz,keywordEach->PF,sysModules->PN,wpAny_newObj_type->PP,binaryOp->PY,FuncData->PZ,wpAny_pyIter_list->Qf,bootBuiltins->Qh,Scope->Qi,wpAny_mono->Qn,backToKw->Qo,wpAny_holding->Qz,behindInMarks->QA,call_meets->QC,mem_of_lookup->QG,NameKind->QH,tupleKind_room_in1->QN,wpAny_execs_nil->QS,assignEach->Rj,PassesOwn->Ro,sliceBounds->Rq,wpAny_Call_method_late->RC,wpAny_execs_cons->RN,letOwnedTupleGo->RU,codeAny_builtin->RY,wpAny_typeOf->R6,valueAt->R7,Builtin->R8,Paired->Sf,wpAny_Call_Name_kw->Sk,typeIs_str->Sq,wpAny_assign_Name->Sy,getItem->SF,assign->SK,wpAny_comprehension_free->SM,Builtin->SN,tupleKind->SO,bindArgs->SQ,noFill_tuple_add->SR,wpAny_callSpecial?_slot->SS,wpAny_call_entry->SU,wpAny_Call_method0_late->SX,holding->Te,wpAny_pyNext_list_item->Tf,concat_meets->Th,IsPart->Ti,call_meetsIn->Tr,callerA->Tt,call->Tu,codeAny_compStart_list->Tv,wpAny_pyNext_list_end->TJ,wpAny_isTrue_Compare1->TK,cLine->TY,compEnvC->TZ,wpAny_newFunctionEnv->T7,ReadsAll->T9,intText?->Ua,BindsTo->Uj,relabel->Ul,codeAny_forLoop_any->Uo,evalArgs_none->Uu,swapsWithSole->Uy,swappedStores->Uz,CmpOp->UA,seq_tuple_add->UC,wpAny_Constant_int->UK,getattributeRaised->UP,GenState->US,codeAny->UV,codeAny_mono->UW,wpAny_sequenceKey->UY,seqIndex_neg->UZ,slot_list_getitem->U0,wpAny_pyHash_int->Va,wpAny_pyHash_str->Vb,wpAny_eqBool_int->Vc,wpAny_eqBool_str->Vd,lastMarks->Vf,seqSlot_of->Vn,reduceHash->Vq,sizeLine_eq->Vt,wpAny_field->Vu,seqIndex_of->Vv,subscripted->Vx,atKey->Vy,slicePicked->Vz,wpAny_loadPart'->VI,am_miss_of_fast->VJ,builtinsNs->VO,isTrue->VP,wpAny_Name->VQ,wpAny_load->VR,bindL->VT,bindC->VU,typeLookup->VW,typeIs_int->VX,PlainAttrs->VY,wpAny_rule->V2,KeyKind->Wj,again->WF,cellsFrom->WG,DictEntry->WH,Reads->WI,strValues->WJ,Within->WK,setItem->WM,standAt->WN,Result->WO,merged->WQ,Params->WR,notedBy->WT
open List renaming mem_cons_of_mem->Ob,mem_cons_self->Oc,getElem?_eq_some_iff->Og,getElem?_set_ne->Oi,mem_append_right->Oo,mem_append->Oq,size_toArray->Os,mem_map->Ot,mem_singleton->Ov,getElem?_set_self->Ow,mem_cons->Oy,all_eq_true->Oz,length_append->OE,length_cons->OH,mem_append_left->OI,map_cons->OJ,getElem?_append_left->ON,replicate->OO,nodup_cons->OR,length_map->OS,map_congr_left->O4,mem_of_getElem?->O6,map_map->Pe,mem_filter->Pg,getElem?_map->Ph,map_append->Pk,nodup_append->Pl,take_of_length_le->Pr,drop_eq_nil_of_le->Pt,getElem?_eq_getElem->Pw,range->Py,lookup_cons->PL,drop_eq_getElem_cons->PM,any_cons->PU,append_nil->PV,find?_cons->PX,reverse_cons->P2,replicate_succ->P3,filter_cons->P5,any_eq_true->P8,pairwise_cons->P9,all_cons->Qb,sum_cons->Qj,length_drop->Ql,countP_cons->Qm,flatten_cons->Qu,length_singleton->QV,nodup_nil->Q0,mem_of_mem_take->Q2,length_take->Q3,filterMap_cons->Q7,length_nil->Re,nil_append->Rf,mem_range->Rv,append_assoc->RD,filter_sublist->R3,getElem?_append_right->Sl,foldl->Ss,mem_take_iff_getElem->Sv,length->SE,getD->S3,cons_append->Tc,map_nil->To,any_map->Tw,head?->Tx,of_mem_zip->TB,getElem?_eq_none->TM,dropLast_eq_take->TR,countP_le_length->TV,dropLast_concat->Uh,mem_filterMap->UL,filterMap_map->UM,take_sublist->UX,take_add_one->U1,pairwise_map->U2,all_nil->U5,set->U9,getElem_mem->Vm,range'->VB,foldl_cons->VF,filter_map->VL,take_nil->WA,map_take->WB,all_map->WU
open PySem.Str renaming ofString->Oe,join->Ra,length->UO
open PySem.Heap renaming get?_push_of_some->Of,lt_size->Ou,get?_push_size->OC,size_push->QY,SameBut->Rw,get?_update_other->Tn
open Bool renaming and_eq_true->Oj,false_ne_true->Ox,eq_iff_iff->PJ,false_eq_true->QO,or_eq_true->TF,and_self->UH,not_eq_true'->U4,or_false->Ww
open Nat renaming le_refl->Ol,lt_of_lt_of_le->OA,ne_of_lt->OF,le_trans->OX,zero_le->PH,lt_irrefl->PQ,not_lt_zero->Qg,lt_of_le_of_lt->Qp,le_of_lt->QL,min_eq_left->QU,min_eq_right->Q5,ne_of_gt->Rx,lt_succ_of_lt->RF,lt_succ_self->SZ,lt_trans->Tq,mul_le_mul->T8,le_succ->Uc,log2_lt->Ug,le_total->U6,min_le_right->Vk,le_of_eq->WS
open PySem.PyData renaming str->OG,eqv->OP,int->P7,strOk->Qd,canLay0->Qe,eqvAll->Qk,shown->Qv,weightAll->QJ,list->QK,tuple->QR,depthAll->Rh,depth->RI,bool->SG,canLayAll0->SJ,shownAll->TH,leavesShortAll->TU,weight->UJ,showableAll->UR,none->VA
open PySem.SeqAt renaming shaped->OL,canLay_of_shaped->QP,room_of_shaped->Ub,in_tupleAt->Vl,eqAt_reads->Vo,EqAt->W3
open Sum renaming inr->OT,inl->Ru
open Or renaming inr->OW,inl->Pc
open Option renaming map_eq_some_iff->OY,isSome_iff_exists->Q8,isSome_map->RE,map_some->RX,getD_none->SW
open PySem.Value renaming ref->OZ,str->RL,type->RM,int->R9,none->Sd,bool->Se,isStrOf->Wi,isInt->WX,float->WY
open Option.some renaming inj->O8
open PySem.Builtin.Str renaming occurrences->Pd,strSliceIndices->Pn,partsBetween->Qc,reprChar->RT,strKind->Uw
open PyProof.Rows renaming boot_tuple->Pf,slot_tuple_getitem->Po,boot_int->Qq,boot_list->Qt,boot_str->Qx,kindOf->RO,envOfC->RP,boot_isinstance->RW,callWith_type1->R4,AllBare->Sx,boot_bool->Td,subscriptTail_builtinR->Tj,signs_ofString->Ui,boot_dict->Um,entry_tuple_getitem->Up,IsTup->Ux,tupleItemsOf_->UD,subscriptTail->UE,args_tuple_getitem->UN,isTrue_or->Ve,callWith_builtin1->Vj,IntsAre->VM,boot_all->V6,seqObj->WV
open PySem.F renaming plainAttrs_list->Pi,slot_list_append->QD,type_list_append->QE,slot_list_getattribute->QF,slot_str_split->QQ,args_tuple_add_2->Q9,args_str_split_2->Rb,slot_dict_itemiterator_iter->Rc,entry_tuple_add->Rp,plainAttrs_dict->Rr,entry_str_split->Rt,slot_tuple_add->RA,slot_tuple_mul->RG,plainAttrs_str->RH,slot_dict_get->RJ,args_dict_get_2->SY,slot_tuple_rmul->S4,slot_dict_items->S5,plain_list_iadd->S7,slot_list_count->S8,slot_list_clear->S9,entry_dict_get->Ts,slot_dict_pop->TL,slot_list_pop->TN,type_list_pop->TQ,slot_int_rmul->VH
open PySem.W renaming kia_one->Pj,findIn->Pv,fnOf->PB,keepIn->PC,kitOne->PD,nsIn->P1,kia_tup->Qs,codeIn->QW,kitx_list->Ry,kitx_dict->Rz,mg_of->RQ,isFn->R5,kitx_tuple->Sj,methodObj->Sw,hasDictIn->Sz,specialIn->SA,cellsFrom_some->Tg,instObj->Tz,OpenLaw->TC,lookIn->TX,kitAny->Ud,mroIn->UB,WalkO->UF,ownIn->UG,kitx_none->UT,kitx_bool->UU,plainGet->Vg,kitx_int->Vh,kitx_str->Vi,kdl_dict->Vp,takesIn->VC
open Array renaming length_toList->Pp,getElem?_eq_some_iff->QZ,toList->WL
open PySem.Txt renaming replace->Px,slice->P6,split->QI,mul->Q4,startswith->V3
open PySem.NameKind renaming free->PK,cell->Wx
open PySem.Builtin.Tuple renaming tupleExact->PR,tupleItemsOf->So,tupleTooMany->Su,tupleIsExact->V1
open PySem.Calls renaming callWith_builtin->P0,evalArgs_plain->QX,spliced_cons->Rk,Constant_str->Sg,Name_function_global->Si,spliced_nil->SD
open True renaming intro->P4
open Ne renaming symm->Qa
open PySem.Builtin.Slice renaming slicePlaces->Qr,sliceAdjust->Q6,sliceApplied->Sn,slicePartIndex->VD,sliceFields->Wh
open Int renaming le_refl->Qw,natCast_nonneg->Rl,emod_lt_of_pos->Rm,toNat_natCast->RB,emod_nonneg->RZ,eq_ofNat_of_zero_le->Ta,ofNat_le->U7,max_eq_right->Vr,not_lt->V5,ediv_one->WP,le_trans->WW
open PySem.Paired renaming length->Qy,snoc->W0
open PySem.Builtin.List renaming listTooLong->QB,listExtendWith->VN
open False renaming elim->QM
open PySem.PassesOwn renaming never->QT
open List.Nodup renaming sublist->Rn
open PySem.Spec renaming ltCps->RR
open ForInStep renaming yield->RV
open PySem.SeqAt.EqAt renaming int_str->Sa,str_int->Sb,none_int->Uq,none_str->Ur,int_none->Us,str_none->Ut,same->VE
open PySem.Obj renaming mapSeq->Sr
open PySem.NumText renaming digitsVal->SH,AllDigits->U8
open PySem.Builtin.Dict renaming updateFrom->S6,addKeywords->Wy,selfAndRest->Wz
open Classical renaming propDecidable->Tb
open PySem.Around renaming under_plainId->Ue,in1->V4
open PyProof.Rows.IsTup renaming new->Uk
open List.cons renaming inj->UI
open PySem.Code renaming quiet_builtin->UQ
open PySem.AutoSeq1 renaming list_clear_list_0->U3
open Sum.inr renaming inj->Vs
open PySem.Heap.DictOf renaming new->VG
open PySem.Walks renaming list->VZ,dictKeys->V0
open PySem.EqNone renaming eq_none_none->V7,eq_none_bool->V8,eq_bool_none->V9,ne_none_none->Wc,ne_none_bool->Wd,ne_bool_none->We,eq_none_int->Wk,eq_none_str->Wl,eq_int_none->Wm,eq_str_none->Wo,ne_none_int->Wq,ne_none_str->Wr,ne_int_none->Ws,ne_str_none->Wu
open PySem.EqMixed renaming eq_bool_str->Wa,eq_str_bool->Wb,ne_bool_str->Wf,ne_str_bool->Wg,eq_int_str->Wn,eq_str_int->Wp,ne_int_str->Wt,ne_str_int->Wv
open List.Sublist renaming append_left->WC
open PySem.ExcName renaming means->WD
open PySem.Builtin.Range renaming rangeSize->WE
open PySem.Data renaming fields->WZ
open List.Pairwise renaming filter->W1,nil->W5,imp->W7
open PySem.Heap.IsSliceOf renaming new->W2
open Char renaming toNat->W4
open PySem.Heap.SameBut renaming refl->W6
open PySem PySem.Spec PyProof.Rows
namespace Internal
namespace L2
abbrev Key:=Sum Int Str
def e7:Key->Oa->Bool
 |.inl k,v=>WX k v
 |.inr x,v=>Wi x v
def zD(w:OV):Key->Int
 |.inl k=>hashInt k
 |.inr x=>hashStr w x
theorem ej:∀{k:Key}{v:Oa},e7 k v=true->(∃i t,k=Ru i/\v=R9 i t)\/(∃x t,k=OT x/\v=RL x t)
 |.inl i,v,h=>by
  obtain⟨t,e⟩:=Value.isInt_shape (k:=i) (v:=v) h;exact .inl ⟨i,t,rfl,e⟩
 |.inr x,v,h=>by
  obtain⟨t,e⟩:=Value.isStrOf_shape (x:=x) (v:=v) h;exact .inr ⟨x,t,rfl,e⟩
theorem BN(i:Int)(t:Tok):e7 (.inl i) (.int i t)=true:=by simp[e7,WX]
theorem BM(x:Str)(t:Tok):e7 (.inr x) (.str x t)=true:=by simp[e7,Wi]
theorem xH(a b:Int):decide ((Ru a:Key)=Ru b)=(a == b):=by
 by_cases e:a=b
 .subst e;simp
 .have h:¬(Ru a:Key)=Ru b:=fun q=>e (Sum.inl.inj q)
  rw[decide_eq_false h];exact(beq_eq_false_iff_ne.mpr e).symm
theorem xD(a b:Str):decide ((OT a:Key)=OT b)=decide (a=b):=by
 by_cases e:a=b
 .subst e;simp
 .have h:¬(OT a:Key)=OT b:=fun q=>e (Vs q)
  rw[decide_eq_false h,decide_eq_false e]
theorem xG(a:Int)(b:Str):decide ((Ru a:Key)=OT b)=false:=decide_eq_false (fun q=>nomatch q)
theorem xF(a:Str)(b:Int):decide ((OT a:Key)=Ru b)=false:=decide_eq_false (fun q=>nomatch q)
def bE(prog:OB)(w:OV):Wj prog w Key where
 is:=e7
 hash:=zD w
 inj:=fun v a b ha hb=>by
  rcases ej ha with⟨i,t,rfl,rfl⟩|⟨x,t,rfl,rfl⟩
  .rcases ej hb with⟨j,u,rfl,e⟩|⟨y,u,rfl,e⟩
   .injection e with e1 _;rw[e1]
   .exact nomatch e
  .rcases ej hb with⟨j,u,rfl,e⟩|⟨y,u,rfl,e⟩
   .exact nomatch e
   .injection e with e1 _;rw[e1]
 byValue:=fun k v h=>by
  rcases ej h with⟨i,t,rfl,rfl⟩|⟨x,t,rfl,rfl⟩ <;> rfl
 pyHash:=fun hv h=>by
  rcases ej hv with⟨i,t,rfl,rfl⟩|⟨x,t,rfl,rfl⟩
  .exact Va h
  .exact Vb h
 eqBool:=fun hu hv h=>by
  rcases ej hu with⟨i,t,rfl,rfl⟩|⟨x,t,rfl,rfl⟩
  .rcases ej hv with⟨j,u,rfl,rfl⟩|⟨y,u,rfl,rfl⟩
   .rw[xH] at h;exact Vc h
   .rw[xG] at h;exact Sa i t y u _ _ _ _ h
  .rcases ej hv with⟨j,u,rfl,rfl⟩|⟨y,u,rfl,rfl⟩
   .rw[xF] at h;exact Sb x t j u _ _ _ _ h
   .rw[xD] at h;exact Vd h
 «strs»:=fun k x t v h=>by
  rcases ej h with⟨i,u,rfl,e⟩|⟨y,u,rfl,e⟩
  .exact nomatch e
  .injection e with e1 _
   subst e1
   cases v <;> rfl
theorem Av(prog:OB)(w:OV)(i:Int)(t:Tok):(bE prog w).is (.inl i) (.int i t)=true:=BN i t
theorem Au(prog:OB)(w:OV)(x:Str)(t:Tok):(bE prog w).is (.inr x) (.str x t)=true:=BM x t
inductive V where
 |non|bl (b:Bool)|int (i:Int)|str (x:Str)|byt (b:Array UInt8)|flt (b:UInt64)|ref (a:Addr)|ty (n:String)
 deriving DecidableEq
def RelV:V->Oa->Prop
 |.non,u=>u=Sd
 |.bl b,u=>u=Se b
 |.int i,u=>∃t,u=R9 i t
 |.str x,u=>∃t,u=RL x t
 |.byt b,u=>∃t,u=Value.bytes b t
 |.flt b,u=>∃t,u=WY b t
 |.ref a,u=>u=OZ a
 |.ty n,u=>u=RM n
abbrev Vals:List V->List Oa->Prop:=Sf RelV
theorem Vals.length(r:Vals xs us):xs.length=us.length:=Qy r
theorem Vals.get:∀{xs:List V}{us:List Oa}{i:Nat}{x:V},Vals xs us->xs[i]? = some x->∃u,us[i]? = some u/\RelV x u
 |_,_,_,_,.nil,e=>by simp at e
 |_,_,0,_,.cons r _,e=>by simp at e;subst e;exact⟨_,rfl,r⟩
 |_,_,i+1,x,.cons _ t,e=>by
  obtain⟨u,h1,h2⟩:=Vals.get (i:=i) (x:=x) t (by simpa using e);exact⟨u,by simpa using h1,h2⟩
theorem Vals.set(r:RelV x u):∀{xs:List V}{us:List Oa} (i:Nat),Vals xs us->Vals (xs.set i x) (us.set i u)
 |_,_,_,.nil=>.nil
 |_,_,0,.cons _ t=>.cons r t
 |_,_,i+1,.cons q t=>.cons q (Vals.set r i t)
theorem Vals.append:∀{xs ys:List V}{us ws:List Oa},Vals xs us->Vals ys ws->Vals (xs++ys) (us++ws)
 |_,_,_,_,.nil,s=>s
 |_,_,_,_,.cons r t,s=>.cons r (Vals.append t s)
theorem Vals.take:∀{xs:List V}{us:List Oa} (n:Nat),Vals xs us->Vals (xs.take n) (us.take n)
 |_,_,0,_=>.nil
 |_,_,_+1,.nil=>.nil
 |_,_,n+1,.cons r t=>.cons r (Vals.take n t)
theorem Vals.drop:∀{xs:List V}{us:List Oa} (n:Nat),Vals xs us->Vals (xs.drop n) (us.drop n)
 |_,_,0,r=>r
 |_,_,_+1,.nil=>.nil
 |_,_,n+1,.cons _ t=>Vals.drop n t
def RelO:Option V->Option Oa->Prop
 |some v,some u=>RelV v u
 |none,none=>True
 |_,_=>False
def KV{κ:Type}:List (κ×V)->List (κ×Oa)->Prop:=Sf fun(p:κ×V) (q:κ×Oa)=>p.1=q.1/\RelV p.2 q.2
def kV:Key->V
 |.inl i=>.int i
 |.inr x=>.str x
inductive HO where
  |lst (xs:List V)
  |tup (xs:List V)
  |dK (kvs:List (Key×V))|dT (kvs:List (List Key×V))
  |set (S:Int->Bool) (n:Nat)
  |ins (C dx:Addr) (fs:List (Str×V))
  |own (x:Addr)
  |xd (fs:List (Str×V))
  |met (f x:Addr)
  |rng (lo hi:Int)
  |frz (o:Obj) (u:HO)
  |tbl (ps:Array Oa)
  |ext (φ:Heap->Prop)
abbrev Hp:=Addr->Option HO
def upd(H:Hp)(a:Addr)(o:HO):Hp:=fun b=>if b=a then some o else H b
theorem bt:upd H a o a=some o:=by unfold upd;rw[if_pos rfl]
theorem aQ(h:b≠a):upd H a o b=H b:=by unfold upd;rw[if_neg h]
theorem vM:upd (upd H a o) a u=upd H a u:=by funext b;unfold upd;split <;> rfl
theorem IY{H:Hp}{a b:Addr}{o u:HO}(h:H a=some o)(h':H b=some u)(d:o≠u):a≠b:=by intro e;subst e;rw[h] at h';exact d (O8 h')
theorem dw{H:Hp}{a b:Addr}{o:HO}(h:H a=some o)(h':H b=none):a≠b:=by intro e;subst e;rw[h] at h';cases h'
section
variable (P:OB)(w:OV)
def ObjOk(H:Hp)(h:Heap)(a:Addr):HO->Prop
 |.lst xs=>xs.length<=Om/\∃(its:List Oa) (n:Nat),Vals xs its/\h.get? a=some { cls:=.type "list",data:=.seq its.toArray n }
 |.tup xs=>xs.length<=Om/\∃its:List Oa,Vals xs its/\Ux h a its.toArray
 |.dK kvs=>kvs.length<=Om/\(a == PN)=false/\∃vs,KV kvs vs/\h.DictOf (bE P w) a vs
 |.dT kvs=>kvs.length<=Om/\(a == PN)=false/\∃xs:List (List Key×Addr×Oa),
   Sf (fun(p:List Key×V) (q:List Key×Addr×Oa)=>p.1=q.1/\H q.2.1=some (.tup (p.1.map kV))/\RelV p.2 q.2.2) kvs xs /\
   ∃o es ep,h.get? a=some o/\o.ExactDict/\o.data=.dict es ep/\es.toList=xs.map (entryOfKey (SO (bE P w)))/\(xs.map (·.1)).Nodup
 |.set S n=>h.SetOf (intKind P w) a S n
 |.ins C dx fs=>H dx=some (.own a)/\fs.length<=1000/\dx≠a/\h.get? a=some (Tz C dx) /\
   ∃mA,h.Ns1 dx mA/\(∀f,RelO (fs.lookup f) (mA f))/\WK mA (fs.map (·.1))
 |.own _=>∃o,h.get? a=some o
 |.xd fs=>∃mA,h.Ns1 a mA/\∀f,RelO (fs.lookup f) (mA f)
 |.rng lo hi=>∃t u v,h.get? a=some { cls:=.type "range",data:=.fields #[.int lo t,.int hi u,.int 1 v] }
 |.frz o u=>h.get? a=some o/\ObjOk H h a u
 |.tbl ps=>h.get? a=some { cls:=.none,data:=.fields ps }
 |.met f x=>h.get? a=some (Sw (.ref f) (.ref x))
 |.ext φ=>φ h/\(∃o,h.get? a=some o)/\∀h1 h2:Heap,φ h1->(∀o,h1.get? a=some o->h2.get? a=some o)->φ h2
def HOk(H:Hp)(h:Heap):Prop:=∀a o,H a=some o->ObjOk P w H h a o
end
section
variable {P:OB}{w:OV}{H H':Hp}{h h':Heap}{a:Addr}{o:HO}
theorem ObjOk.lt(x:ObjOk P w H h a o):a<h.objs.size:=by
 cases o with
 |lst xs=>obtain⟨_,_,_,_,e⟩:=x;exact Ou e
 |tup xs=>obtain⟨_,_,_,p⟩:=x;exact p.lt
 |dK kvs=>obtain⟨_,_,_,_,o,_,_,e,_⟩:=x;exact Ou e
 |dT kvs=>obtain⟨_,_,_,_,o,_,_,e,_⟩:=x;exact Ou e
 |set S n=>obtain⟨o,_,_,_,e,_⟩:=x;exact Ou e
 |ins C dx fs=>obtain⟨_,_,_,e,_⟩:=x;exact Ou e
 |own y=>obtain⟨_,e⟩:=x;exact Ou e
 |xd fs=>obtain⟨_,⟨_,_,_,e,_⟩,_⟩:=x;exact Ou e
 |rng lo hi=>obtain⟨_,_,_,e⟩:=x;exact Ou e
 |frz ob u=>obtain⟨e,_⟩:=x;exact Ou e
 |tbl ps=>exact Ou (show h.get? a=some _ from x)
 |met f y=>exact Ou (show h.get? a=some _ from x)
 |ext φ=>obtain⟨_,⟨_,e⟩,_⟩:=x;exact Ou e
theorem Paired.mapP{α β:Type}{F G:α->β->Prop}:∀{l₁:List α}{l₂:List β},Sf F l₁ l₂->(∀a b,F a b->G a b)->Sf G l₁ l₂
 |_,_,.nil,_=>.nil
 |_,_,.cons r t,f=>.cons (f _ _ r) (Paired.mapP t f)
theorem ObjOk.stay(x:ObjOk P w H h a o)(k:∀b u,(b=a\/H b=some (.own a))->h.get? b=some u->h'.get? b=some u)
  (ho:∀b,H b=some (.own a)->H' b=some (.own a)) (ht:∀b xs,H b=some (.tup xs)->H' b=some (.tup xs)):ObjOk P w H' h' a o:=by
 induction o with
 |lst xs=>obtain⟨z,its,n,r,e⟩:=x;exact⟨z,its,n,r,k _ _ (.inl rfl) e⟩
 |tup xs=>obtain⟨z,its,r,ob,e,c⟩:=x;exact⟨z,its,r,ob,k _ _ (.inl rfl) e,c⟩
 |dK kvs=>obtain⟨z,y,vs,r,ob,es,ep,e,c⟩:=x;exact⟨z,y,vs,r,ob,es,ep,k _ _ (.inl rfl) e,c⟩
 |dT kvs=>
  obtain⟨z,y,xs,r,ob,es,ep,e,c⟩:=x;exact⟨z,y,xs,Paired.mapP r fun p q z=>⟨z.1,ht _ _ z.2.1,z.2.2⟩,ob,es,ep,k _ _ (.inl rfl) e,c⟩
 |set S n=>obtain⟨ob,es,ep,t,e,c⟩:=x;exact⟨ob,es,ep,t,k _ _ (.inl rfl) e,c⟩
 |ins C dx fs=>
  obtain⟨d,z,ne,e,mA,⟨od,es,ep,e2,c⟩,r⟩:=x;exact⟨ho _ d,z,ne,k _ _ (.inl rfl) e,mA,⟨od,es,ep,k _ _ (.inr d) e2,c⟩,r⟩
 |own y=>obtain⟨ob,e⟩:=x;exact⟨ob,k _ _ (.inl rfl) e⟩
 |xd fs=>obtain⟨mA,⟨od,es,ep,e,c⟩,r⟩:=x;exact⟨mA,⟨od,es,ep,k _ _ (.inl rfl) e,c⟩,r⟩
 |rng lo hi=>obtain⟨t,u,v,e⟩:=x;exact⟨t,u,v,k _ _ (.inl rfl) e⟩
 |frz ob u ih=>obtain⟨e,q⟩:=x;exact⟨k _ _ (.inl rfl) e,ih q⟩
 |tbl ps=>
  have e:h.get? a=some { cls:=.none,data:=.fields ps }:=x;show h'.get? a=some { cls:=.none,data:=.fields ps };exact k a _ (.inl rfl) e
 |met f y=>
  have e:h.get? a=some (Sw (.ref f) (.ref y)):=x;show h'.get? a=some (Sw (.ref f) (.ref y));exact k a _ (.inl rfl) e
 |ext φ=>obtain⟨p,⟨o,e⟩,st⟩:=x;exact⟨st _ _ p fun o q=>k _ _ (.inl rfl) q,⟨o,k _ _ (.inl rfl) e⟩,st⟩
theorem HOk.lt(x:HOk P w H h)(e:H a=some o):a<h.objs.size:=(x a o e).lt
theorem HOk.fresh(x:HOk P w H h)(e:h.objs.size<=a):H a=none:=by
 cases q:H a with
 |none=>rfl
 |some u=>exact absurd (OA (x.lt q) e) (PQ _)
theorem HOk.kept(x:HOk P w H h)(k:∀b u,h.get? b=some u->h'.get? b=some u):HOk P w H h':=fun a o e=>
 (x a o e).stay (fun b u _ q=>k b u q) (fun _ q=>q) fun _ _ q=>q
theorem HOk.laid(x:HOk P w H h)(k:∀b u,h.get? b=some u->h'.get? b=some u)(hp:h.objs.size<=a)(new:ObjOk P w (upd H a o) h' a o):HOk P w (upd H a o) h':=fun b u e=>by
 have hn:=x.fresh hp
 by_cases hb:b=a
 .subst hb;rw[bt] at e;cases e;exact new
 .rw[aQ hb] at e
  exact(x b u e).stay (fun c v _ q=>k c v q) (fun c q=>by rw[aQ (dw q hn)];exact q) fun c xs q=>by rw[aQ (dw q hn)];exact q
end
def Rd(H:Hp)(a:Addr)(u:HO):Prop:=H a=some u\/∃o,H a=some (.frz o u)
theorem Rd.ok(r:Rd H a u)(x:HOk P w H h):ObjOk P w H h a u:=by
 rcases r with r|⟨o,r⟩
 .exact x a u r
 .obtain⟨_,q⟩:=x a _ r
  exact q
def Mut:Option HO->Prop
 |some (.lst _)=>True
 |some (.dK _)=>True
 |some (.dT _)=>True
 |some (.set _ _)=>True
 |some (.ins _ _ _)=>True
 |some (.ext _)=>True
 |_=>False
section
variable {P:OB}{w:OV}{H:Hp}{h h':Heap}{x e:Addr}{o':HO}
theorem HOk.write(ok:HOk P w H h)(mu:Mut (H x))(he:e=x\/H e=some (.own x))(k:∀b u,b≠e->h.get? b=some u->h'.get? b=some u)(heo:∃u,h'.get? e=some u)
  (new:ObjOk P w (upd H x o') h' x o'):HOk P w (upd H x o') h':=fun b u q=>by
 have nown:∀c y,H c=some (.own y)->c≠x:=fun c y r z=>by subst z;rw[r] at mu;exact mu
 have ntup:∀c xs,H c=some (.tup xs)->c≠x:=fun c xs r z=>by subst z;rw[r] at mu;exact mu
 by_cases hb:b=x
 .subst hb;rw[bt] at q;cases q;exact new
 .rw[aQ hb] at q
  by_cases hbe:b=e
  .have q':H b=some (.own x):=by
    rcases he with z|z
    .exact absurd (hbe.trans z) hb
    .rw[hbe];exact z
   rw[q] at q';cases q';obtain⟨v,hv⟩:=heo;exact⟨v,by rw[hbe];exact hv⟩
  .refine(ok b u q).stay (fun c v hc r=>k c v ?_ r) (fun c r=>by rw[aQ (nown c b r)];exact r) fun c xs r=>by rw[aQ (ntup c xs r)];exact r
   rcases hc with rfl|hc
   .exact hbe
   .rintro rfl
    rcases he with z|z
    .exact nown c b hc z
    .rw[hc] at z;cases z;exact hb rfl
end
structure Un(fs ex:List Addr)(H H':Hp)(h h':Heap):Prop where
 keep:∀b o,h.get? b=some o->H b=none->b∉fs->b∉ex->h'.get? b=some o
 slot:∀b o,h.get? b=some o->H b=none->b∈fs->b∉ex->∃sl,h'.get? b=some { o with slots:=sl }
 free:∀b o,h.get? b=some o->H b=none->b∉ex->H' b=none
 there:∀b o,h.get? b=some o->b∉ex->∃o',h'.get? b=some o'
 tups:∀b xs,H b=some (.tup xs)->H' b=some (.tup xs)
 frzs:∀b o u,H b=some (.frz o u)->H' b=some (.frz o u)
 tbls:∀b ps,H b=some (.tbl ps)->∃more,H' b=some (.tbl (ps++more))
section
variable {fs fs' ex ex':List Addr}{H H1 H2:Hp}{h h1 h2 h':Heap}{a x e:Addr}{o:HO}
theorem Un.any(u:Un fs ex H H1 h h1)(q:h.get? b=some ob)(n:H b=none)(hx:b∉ex):∃sl,h1.get? b=some { ob with slots:=sl }:=by
 by_cases hb:b∈fs
 .exact u.slot b ob q n hb hx
 .exact⟨ob.slots,u.keep b ob q n hb hx⟩
theorem Un.kept(k:∀b u,h.get? b=some u->h'.get? b=some u):Un fs ex H H h h':=⟨fun b ob q _ _ _=>k b ob q,fun b ob q _ _ _=>⟨ob.slots,k b ob q⟩,fun _ _ _ n _=>n,fun b ob q _=>⟨ob,k b ob q⟩,fun _ _ q=>q,fun _ _ _ q=>q,fun _ ps q=>⟨#[],by rw[q];simp⟩⟩
theorem Un.refl:Un fs ex H H h h:=Un.kept fun _ _ q=>q
theorem Un.laid(k:∀b u,h.get? b=some u->h'.get? b=some u)(hp:h.objs.size<=a)(hn:H a=none):Un fs ex H (upd H a o) h h' where
 keep:=fun b u q _ _ _=>k b u q
 slot:=fun b u q _ _ _=>⟨u.slots,k b u q⟩
 free:=fun b u q n _=>by rw[aQ (OF (OA (Ou q) hp))];exact n
 there:=fun b u q _=>⟨u,k b u q⟩
 tups:=fun b xs q=>by rw[aQ (dw q hn)];exact q
 frzs:=fun b u xs q=>by rw[aQ (dw q hn)];exact q
 tbls:=fun b ps q=>⟨#[],by rw[aQ (dw q hn),q];simp⟩
theorem Un.write(mu:Mut (H x))(he:e=x\/H e=some (.own x))(k:∀b u,b≠e->h.get? b=some u->h'.get? b=some u)(heo:∃u,h'.get? e=some u):Un fs ex H (upd H x o) h h':=by
 have hx:∀b,H b=none->b≠x:=fun b n z=>by subst z;rw[n] at mu;exact mu
 have hb:∀b,H b=none->b≠e:=fun b n z=>by
  subst z
  rcases he with r|r
  .exact hx b n r
  .rw[n] at r;cases r
 have hm:∀b u,H b=some u->¬Mut (some u)->b≠x:=fun b u q nm z=>by subst z;rw[q] at mu;exact nm mu
 refine⟨fun b u q n _ _=>k b u (hb b n) q,fun b u q n _ _=>⟨u.slots,k b u (hb b n) q⟩,fun b u q n _=>by rw[aQ (hx b n)];exact n,fun b u q _=>?_,
  fun b xs q=>by rw[aQ (hm b _ q fun z=>z)];exact q,fun b u xs q=>by rw[aQ (hm b _ q fun z=>z)];exact q,fun b ps q=>⟨#[],by rw[aQ (hm b _ q fun z=>z),q];simp⟩⟩
 by_cases hbe:b=e
 .subst hbe;exact heo
 .exact⟨u,k b u hbe q⟩
end
def trk(h:Heap)(H:Hp):List Addr:=(Py h.objs.size).filter fun a=>(H a).isSome
def gG(h:Heap)(H:Hp):Heap:=PySem.W.hideAll h (trk h H)
theorem BU(h:Heap)(H:Hp):(gG h H).objs.size=h.objs.size:=PySem.W.hideAll_size _ _
theorem Da(e:h.get? b=some o)(n:H b=none):(gG h H).get? b=some o:=
 PySem.W.hideAll_get _ e fun hm=>by
  have q:(H b).isSome=true:=(Pg.mp hm).2;rw[n] at q;simp at q
theorem EW(e:(gG h H).get? b=some o):h.get? b=some o/\H b=none:=by
 have e':h.get? b=some o:=PySem.W.of_hideAll (trk h H) e;refine⟨e',?_⟩
 cases q:H b with
 |none=>rfl
 |some x=>
  have hm:b∈trk h H:=Pg.mpr ⟨Rv.mpr (Ou e'),by simp[q]⟩;have z:(gG h H).get? b=none:=PySem.W.hideAll_none (trk h H) hm;rw[z] at e;cases e
def F3(g h:Heap)(L:Addr):List (Addr×Obj):=(Py h.objs.size).filterMap fun a=>if a=L\/(g.get? a).isSome=true then none else (h.get? a).map fun o=>(a,o)
def rest(g h:Heap)(L d:Addr):List (Addr×Obj):=(F3 g h L).filter fun p=>decide (p.1≠d)
structure Mod(K:Frag)(mg:Str->Option Oa)(base:Heap):Prop where
 kin:K.In base
 glob:base.Ns O9 mg
 blt:∃mb,base.Ns VO mb/\∀x:Str,x≠"__name__"->mb x=Qh x
 nolimit:base.NoLimit
structure Cx where
 prog:OB
 w:OV
 K:Frag
 mg:Str->Option Oa
 base:Heap
 A:O5
 N:List Str
 s₀:Od
 H₀:Hp
 env:Env
 outer:List Env
 stack:List Env
 ex:List Addr
 fn:Str->Bool
 calm:Bool
 pn:List (Addr×Obj)
 xe:Oa->Od->Prop
def frs(l:List Env):List Addr:=l.filterMap (·.frame)
abbrev Cx.fs(X:Cx):List Addr:=frs X.outer
def Vis(sc:Qi)(x:Str):Prop:=sc.names.lookup x=some .local\/sc.names.lookup x=some .cell\/sc.names.lookup x=some .free
def Loc(sc:Qi)(x:Str):Prop:=sc.names.lookup x=some .local\/sc.names.lookup x=some .cell
def Look(env:Env)(h:Heap)(m:Str->Option Oa)(x:Str)(u:Oa):Prop:=(env.kindOf x=some .local/\m x=some u)\/((env.kindOf x=some .cell\/env.kindOf x=some .free)/\∃c,env.cells.lookup x=some c/\h.IsCell c (some u))
structure Cx.Ok(X:Cx):Prop where
 mod:Mod X.K X.mg X.base
 kind:X.env.scope.kind=.function
 glob:X.env.globals=O9
 blt:X.env.builtins=VO
 above:X.s₀.heap.objs.size<=X.env.locals
 inj:∀x y c,X.env.cells.lookup x=some c->X.env.cells.lookup y=some c->x=y
 has:∀x,(X.env.kindOf x=some .cell\/X.env.kindOf x=some .free)->∃c,X.env.cells.lookup x=some c
 cab:∀x c,X.fn x=true->X.env.cells.lookup x=some c->X.s₀.heap.objs.size<=c
 hd:X.calm=true->X.A.handled=none
 frames:X.A.frames=some X.stack
 stk:X.stack=X.outer\/(X.stack=X.env::X.outer/\X.env.frame=some X.env.locals)
 exf:∀b∈X.ex,b≠X.env.locals/\∀x c,X.env.cells.lookup x=some c->c≠b
 bs:∀b o,X.base.get? b=some o->X.s₀.heap.get? b=some o/\X.H₀ b=none
 bsz:X.base.objs.size<=X.s₀.heap.objs.size
 noex:∀b o,X.base.get? b=some o->b∉X.ex
 exfs:∀b∈X.ex,b∉X.fs
 funs:X.s₀.heap.FunFrames X.base X.outer
 frf:∀b∈X.fs,X.H₀ b=none
structure Inv(X:Cx)(pins:List (Addr×Obj))(σ:List (Option V))(H:Hp)(s:Od):Prop where
 ok:X.Ok
 os:s.os=X.s₀.os
 bare:Sx s.gens
 base:Un X.fs X.ex X.H₀ H X.s₀.heap s.heap
 loc:∃m,s.heap.Ns X.env.locals m/\∀(i:Nat) (x:Str) (v:V),X.N[i]? = some x->σ[i]? = some (some v)->Vis X.env.scope x->∃u,RelV v u/\Look X.env s.heap m x u
 cell:∀x c,X.env.cells.lookup x=some c->∃v,s.heap.IsCell c v
 free:H X.env.locals=none
 freeC:∀x c,X.env.cells.lookup x=some c->H c=none
 pin:∀p∈X.pn++pins,s.heap.get? p.1=some p.2/\H p.1=none/\p.1≠X.env.locals/\p.1∉X.fs/\∀v,p.2.data≠.cell v
 hok:HOk X.prog X.w H s.heap
 len:σ.length=X.N.length
section
variable {X:Cx}{pins:List (Addr×Obj)}{σ:List (Option V)}{H H':Hp}{s:Od}{h':Heap}
theorem Cx.Ok.nofr(ok:X.Ok)(e:X.base.get? b=some o):b∉X.fs:=fun hb=>by
 have:=(ok.funs.mem hb).1;rw[e] at this;cases this
theorem Inv.bs(I:Inv X pins σ H s):∀b o,X.base.get? b=some o->s.heap.get? b=some o/\H b=none:=fun b o e=>
 ⟨I.base.keep b o (I.ok.bs b o e).1 (I.ok.bs b o e).2 (I.ok.nofr e) (I.ok.noex b o e),I.base.free b o (I.ok.bs b o e).1 (I.ok.bs b o e).2 (I.ok.noex b o e)⟩
theorem Inv.bk(I:Inv X pins σ H s):∀b o,X.base.get? b=some o->s.heap.get? b=some o:=fun b o e=>(I.bs b o e).1
theorem Inv.mod(I:Inv X pins σ H s):Mod X.K X.mg X.base:=I.ok.mod
theorem Inv.kIn(I:Inv X pins σ H s):X.K.In s.heap:=I.ok.mod.kin.keeps I.bk
theorem Inv.lt(I:Inv X pins σ H s):X.env.locals<s.heap.objs.size:=let ⟨_,hn,_⟩:=I.loc;hn.lt
theorem Inv.sz(I:Inv X pins σ H s):X.s₀.heap.objs.size<=s.heap.objs.size:=OX I.ok.above (QL I.lt)
theorem Inv.nofs(I:Inv X pins σ H s)(h:s.heap.objs.size<=a):a∉X.fs:=fun hb=>by
 obtain⟨_,o,ho,_⟩:=I.ok.funs.mem hb;exact absurd (OA (Ou ho) (OX I.sz h)) (PQ _)
theorem Inv.cne(I:Inv X pins σ H s):∀x c,X.env.cells.lookup x=some c->c≠X.env.locals:=fun x c e z=>by
 obtain⟨v,o,ho,hd⟩:=I.cell x c e;obtain⟨m,⟨o',es,ep,ho',hd',_⟩,_⟩:=I.loc;rw[z,ho'] at ho;cases ho;rw[hd'] at hd;cases hd
theorem Inv.funs(I:Inv X pins σ H s):s.heap.FunFrames X.base X.outer:=by
 have all:∀(l:List Env),(∀b∈frs l,b∈X.fs)->X.s₀.heap.FunFrames X.base l->s.heap.FunFrames X.base l:=by
  intro l
  induction l with
  |nil=>intro _ _;trivial
  |cons env r ih=>
   intro hs hl;obtain⟨hk,⟨L,o,hf,hn,ho,hd⟩,hr⟩:=hl;have hL:L∈X.fs:=hs L (by unfold frs;rw[Q7,hf];exact Oc);obtain⟨sl,e⟩:=I.base.slot L o ho (I.ok.frf L hL) hL fun z=>I.ok.exfs L z hL;exact⟨hk,⟨L,_,hf,hn,e,hd⟩,ih (fun b hb=>hs b (by unfold frs;rw[Q7,hf];exact Ob _ hb)) hr⟩
 exact all X.outer (fun _ hb=>hb) I.ok.funs
theorem Inv.stack(I:Inv X pins σ H s):s.heap.FunFrames X.base X.stack:=by
 rcases I.ok.stk with e|⟨e,hf⟩
 .rw[e];exact I.funs
 .rw[e]
  obtain⟨m,hn,_⟩:=I.loc;refine .cons (by rw[I.ok.kind];decide) hf hn ?_ I.funs;exact Heap.get?_none_of_le (OX I.ok.bsz I.ok.above)
theorem Inv.stkSub(I:Inv X pins σ H s):∀b∈frs X.stack,b∈X.env.locals::X.fs:=fun b hb=>by
 rcases I.ok.stk with e|⟨e,hf⟩
 .rw[e] at hb;exact Ob _ hb
 .rw[e] at hb
  unfold frs at hb;rw[Q7,hf] at hb;exact hb
theorem Inv.stkFree(I:Inv X pins σ H s):∀b∈frs X.stack,H b=none:=fun b hb=>by
 rcases Oy.mp (I.stkSub b hb) with e|hb
 .rw[e];exact I.free
 .obtain⟨_,o,ho,_⟩:=I.ok.funs.mem hb
  exact I.base.free b o ho (I.ok.frf b hb) fun z=>I.ok.exfs b z hb
theorem Inv.step{g':Array US}{t':Nat}{d':Drawn}{ch:List Addr}(I:Inv X pins σ H s)
  (hch:∀b∈ch,(b∈X.ex\/X.s₀.heap.objs.size<=b)/\b≠X.env.locals/\(∀x c,X.env.cells.lookup x=some c->c≠b)/\∀p∈X.pn++pins,p.1≠b)
  (keep:∀b o,b≠X.env.locals->b∉X.fs->b∉ch->s.heap.get? b=some o->H b=none->h'.get? b=some o)
  (slot:∀b o,b≠X.env.locals->b∈X.fs->b∉ch->s.heap.get? b=some o->H b=none->∃sl,h'.get? b=some { o with slots:=sl }) (free:∀b o,b∉ch->s.heap.get? b=some o->H b=none->H' b=none)
  (there:∀b o,b∉ch->s.heap.get? b=some o->∃o',h'.get? b=some o')
  (tups:∀b xs,H b=some (.tup xs)->H' b=some (.tup xs)) (frzs:∀b o u,H b=some (.frz o u)->H' b=some (.frz o u)) (tbls:∀b ps,H b=some (.tbl ps)->∃more,H' b=some (.tbl (ps++more)))
  (ns:∀m,s.heap.Ns X.env.locals m->h'.Ns X.env.locals m) (hok:HOk X.prog X.w H' h') (hg:Sx g') :
  Inv X pins σ H' { s with heap:=h',gens:=g',drawn:=d',toks:=t' }:=by
 have neL:∀b o,X.s₀.heap.get? b=some o->b≠X.env.locals:=fun b o e=>OF (OA (Ou e) I.ok.above)
 have neC:∀b o,X.s₀.heap.get? b=some o->b∉X.ex->b∉ch:=fun b o e hx hb=>by
  rcases(hch b hb).1 with z|z
  .exact hx z
  .exact absurd (OA (Ou e) z) (PQ _)
 have cellK:∀x c,X.env.cells.lookup x=some c->∀v,s.heap.IsCell c v->h'.IsCell c v:=fun x c e v ⟨o,ho,hd⟩=>by
  have nch:c∉ch:=fun z=>(hch c z).2.2.1 x c e rfl
  by_cases hc:c∈X.fs
  .obtain⟨sl,q⟩:=slot c o (I.cne x c e) hc nch ho (I.freeC x c e)
   exact⟨_,q,hd⟩
  .exact⟨o,keep c o (I.cne x c e) hc nch ho (I.freeC x c e),hd⟩
 refine⟨I.ok,I.os,hg,⟨fun b o e n hb hx=>?_,fun b o e n hb hx=>?_,fun b o e n hx=>?_,fun b o e hx=>?_,fun b xs e=>tups b xs (I.base.tups b xs e),fun b o xs e=>frzs b o xs (I.base.frzs b o xs e),fun b ps e=>?_⟩,?_,fun x c e=>?_,?_,fun x c e=>?_,fun p hp=>?_,hok,I.len⟩
 .exact keep b o (neL b o e) hb (neC b o e hx) (I.base.keep b o e n hb hx) (I.base.free b o e n hx)
 .obtain⟨sl,e1⟩:=I.base.slot b o e n hb hx
  obtain⟨sl',e2⟩:=slot b _ (neL b o e) hb (neC b o e hx) e1 (I.base.free b o e n hx);exact⟨sl',e2⟩
 .obtain⟨o',e1⟩:=I.base.there b o e hx
  exact free b o' (neC b o e hx) e1 (I.base.free b o e n hx)
 .obtain⟨o',e1⟩:=I.base.there b o e hx
  exact there b o' (neC b o e hx) e1
 .obtain⟨m1,e1⟩:=I.base.tbls b ps e
  obtain⟨m2,e2⟩:=tbls b _ e1;exact⟨m1++m2,by rw[e2,Array.append_assoc]⟩
 .obtain⟨m,hn,hl⟩:=I.loc
  refine⟨m,ns m hn,fun i x v e1 e2 e3=>?_⟩;obtain⟨u,r,l⟩:=hl i x v e1 e2 e3;refine⟨u,r,?_⟩
  rcases l with l|⟨k,c,e,z⟩
  .exact .inl l
  .exact .inr ⟨k,c,e,cellK x c e _ z⟩
 .obtain⟨v,z⟩:=I.cell x c e
  exact⟨v,cellK x c e v z⟩
 .obtain⟨m,⟨o,_,_,ho,_⟩,_⟩:=I.loc
  exact free _ o (fun z=>(hch _ z).2.1 rfl) ho I.free
 .obtain⟨v,o,ho,hd⟩:=I.cell x c e
  exact free c o (fun z=>(hch c z).2.2.1 x c e rfl) ho (I.freeC x c e)
 .obtain⟨e,n,ne,nf,d⟩:=I.pin p hp
  have nch:p.1∉ch:=fun z=>(hch p.1 z).2.2.2 p hp rfl;exact⟨keep p.1 p.2 ne nf nch e n,free p.1 p.2 nch e n,ne,nf,d⟩
theorem Inv.un(I:Inv X pins σ H s)(u:Un X.fs [] H H' s.heap h')(hok:HOk X.prog X.w H' h'):Inv X pins σ H' { s with heap:=h',toks:=t' }:=by
 obtain⟨m,⟨o,es,ep,ho,r⟩,_⟩:=id I.loc;obtain⟨sl,hL⟩:=u.any ho I.free (by simp)
 exact I.step (g':=s.gens) (d':=s.drawn) (ch:=[]) (fun _ z=>nomatch z) (fun b o _ hb _ e n=>u.keep b o e n hb (by simp)) (fun b o _ hb _ e n=>u.slot b o e n hb (by simp)) (fun b o _ e n=>u.free b o e n (by simp)) (fun b o _ e=>u.there b o e (by simp)) u.tups u.frzs u.tbls (fun m' hm=>by
  obtain⟨o',es',ep',ho',r'⟩:=hm;rw[ho] at ho';cases ho'
  exact⟨_,es',ep',hL,r'⟩) hok I.bare
theorem Inv.call(I:Inv X pins σ H s)(u:Un (frs X.stack) ch H H' s.heap h')(hok:HOk X.prog X.w H' h')(hg:Sx g')
  (hch:∀b∈ch,(b∈X.ex\/X.s₀.heap.objs.size<=b)/\b≠X.env.locals/\(∀x c,X.env.cells.lookup x=some c->c≠b)/\∀p∈X.pn++pins,p.1≠b) :
  Inv X pins σ H' { s with heap:=h',gens:=g',drawn:=d',toks:=t' }:=by
 obtain⟨m,⟨o,es,ep,ho,r⟩,_⟩:=id I.loc;obtain⟨sl,hL⟩:=u.any ho I.free fun z=>(hch _ z).2.1 rfl
 exact I.step (ch:=ch) hch (fun b o hL hb hc e n=>u.keep b o e n (fun z=>(Oy.mp (I.stkSub b z)).elim hL hb) hc) (fun b o _ _ hc e n=>u.any e n hc) (fun b o hc e n=>u.free b o e n hc) (fun b o hc e=>u.there b o e hc) u.tups u.frzs u.tbls (fun m' hm=>by
  obtain⟨o',es',ep',ho',r'⟩:=hm;rw[ho] at ho';cases ho'
  exact⟨_,es',ep',hL,r'⟩) hok hg
theorem Inv.turned(I:Inv X pins σ H s)(k:∀b o,b≠it->s.heap.get? b=some o->h'.get? b=some o)(hn:H it=none)(hL:it≠X.env.locals)
  (h1:it∈X.ex\/X.s₀.heap.objs.size<=it) (h2:∀x c,X.env.cells.lookup x=some c->c≠it) (h3:∀p∈X.pn++pins,p.1≠it):Inv X pins σ H { s with heap:=h',toks:=t' }:=by
 have nit:∀b u,H b=some u->b≠it:=fun b u e z=>by rw[z,hn] at e;cases e
 refine I.step (g':=s.gens) (d':=s.drawn) (ch:=[it]) (fun b hb=>?_) (fun b o _ _ hc e _=>k b o (fun z=>hc (by simp[z])) e) (fun b o _ _ hc e _=>⟨o.slots,k b o (fun z=>hc (by simp[z])) e⟩) (fun _ _ _ _ n=>n)
  (fun b o hc e=>⟨o,k b o (fun z=>hc (by simp[z])) e⟩) (fun _ _ e=>e) (fun _ _ _ e=>e) (fun b ps e=>⟨#[],by rw[e];simp⟩) (fun m hm=>?_) (fun b u e=>?_) I.bare
 .have e:b=it:=by simpa using hb
  subst e;exact⟨h1,hL,h2,h3⟩
 .obtain⟨o,es,ep,ho,r⟩:=hm
  exact⟨o,es,ep,k _ o (Qa hL) ho,r⟩
 .refine(I.hok b u e).stay (fun c v hc q=>k c v ?_ q) (fun _ q=>q) fun _ _ q=>q
  rcases hc with z|z
  .rw[z];exact nit b u e
  .exact nit c _ z
theorem Inv.tok(I:Inv X pins σ H s)(t:Nat):Inv X pins σ H { s with toks:=t }:=I.un (h':=s.heap) (t':=t) Un.refl I.hok
theorem Inv.kept(I:Inv X pins σ H s)(k:∀b u,s.heap.get? b=some u->h'.get? b=some u):Inv X pins σ H { s with heap:=h',toks:=t' }:=I.un (Un.kept k) (I.hok.kept k)
theorem Inv.laid(I:Inv X pins σ H s)(k:∀b u,s.heap.get? b=some u->h'.get? b=some u)(hp:s.heap.objs.size<=a)(new:ObjOk X.prog X.w (upd H a o) h' a o) :
  Inv X pins σ (upd H a o) { s with heap:=h',toks:=t' }:=I.un (Un.laid k hp (I.hok.fresh hp)) (I.hok.laid k hp new)
theorem Inv.write(I:Inv X pins σ H s)(mu:Mut (H x))(he:e=x\/H e=some (.own x))(k:∀b u,b≠e->s.heap.get? b=some u->h'.get? b=some u)(heo:∃u,h'.get? e=some u)
  (new:ObjOk X.prog X.w (upd H x o) h' x o):Inv X pins σ (upd H x o) { s with heap:=h',toks:=t' }:=I.un (Un.write mu he k heo) (I.hok.write mu he k heo new)
theorem Inv.pins_of(I:Inv X pins σ H s)(h:∀p∈pins',s.heap.get? p.1=some p.2/\H p.1=none/\p.1≠X.env.locals/\p.1∉X.fs/\∀v,p.2.data≠.cell v):Inv X pins' σ H s:=⟨I.ok,I.os,I.bare,I.base,I.loc,I.cell,I.free,I.freeC,fun p hp=>(Oq.mp hp).elim (fun z=>I.pin p (OI _ z)) (h p),I.hok,I.len⟩
theorem va{N:List Str}(hN:N.Nodup){i j:Nat}{x:Str}(a:N[i]? = some x)(b:N[j]? = some x):i=j:=by
 obtain⟨h1,e1⟩:=Og.mp a;obtain⟨h2,e2⟩:=Og.mp b;exact(List.getElem_inj hN).mp (e1.trans e2.symm)
theorem ue(I:Inv X pins σ H s)(hN:X.N.Nodup)(hi:X.N[i]? = some x)(hx:Loc X.env.scope x)(r:RelV v u)
  (h:∀s',Inv X pins (σ.set i (some v)) H s'->(∃a,Rw a s.heap s'.heap/\(a=X.env.locals\/X.env.cells.lookup x=some a))->Q () s') (hf:X.fn x=true\/X.env.scope.names.lookup x=some .local:=by first|exact .inl rfl|exact .inr rfl|assumption):OU M A (storeName X.env x u) Q E s:=by
 obtain⟨m,hn,hl⟩:=id I.loc
 have hcls:(X.env.scope.kind == .class||(X.env.scope.kind == .module&&X.env.locals != X.env.globals))=false:=by rw[I.ok.kind];rfl
 have hiσ:i<σ.length:=by rw[I.len];exact(Og.mp hi).1
 have cne:=I.cne
 have tracked:∀{a:Addr}{h':Heap},(∃o,s.heap.get? a=some o/\H a=none)->Rw a s.heap h'->HOk X.prog X.w H h':=fun {a h'} ha hs b ob e=>by
  obtain⟨_,_,hfree⟩:=ha;refine(I.hok b ob e).stay (fun c w' hc q=>(hs.2 c ?_).trans q) (fun _ q=>q) fun _ _ q=>q;rintro rfl
  rcases hc with rfl|hc
  .rw[hfree] at e;cases e
  .rw[hfree] at hc;cases hc
 rcases hx with hk|hk
 .refine wpAny_storeName_local hk hn (fun h' hn' hs=>?_) hcls
  obtain⟨oL,_,_,hoL,_⟩:=id hn;refine h _ ⟨I.ok,I.os,I.bare,⟨fun b o e n hb hx=>?_,fun b o e n hb hx=>?_,I.base.free,fun b o e hx=>?_,I.base.tups,I.base.frzs,I.base.tbls⟩,⟨_,hn',fun j y v' e1 e2 e3=>?_⟩,fun y c e=>?_,I.free,I.freeC,fun p hp=>?_,tracked ⟨oL,hoL,I.free⟩ hs,by simpa using I.len⟩ ⟨_,hs,.inl rfl⟩
  .exact(hs.2 b (OF (OA (Ou e) I.ok.above))).trans (I.base.keep b o e n hb hx)
  .obtain⟨sl,e1⟩:=I.base.slot b o e n hb hx
   exact⟨sl,(hs.2 b (OF (OA (Ou e) I.ok.above))).trans e1⟩
  .obtain⟨o',e1⟩:=I.base.there b o e hx
   exact⟨o',(hs.2 b (OF (OA (Ou e) I.ok.above))).trans e1⟩
  .by_cases hj:j=i
   .subst hj
    rw[hi] at e1;cases e1;rw[Ow hiσ] at e2;cases e2;exact⟨u,r,.inl ⟨hk,by simp⟩⟩
   .rw[Oi (Qa hj)] at e2
    obtain⟨u',r',q⟩:=hl j y v' e1 e2 e3;refine⟨u',r',?_⟩
    rcases q with⟨k,e⟩|⟨k,c,e,z⟩
    .refine .inl ⟨k,?_⟩
     have:y≠x:=fun e=>hj (va hN e1 (e ▸ hi));simp[this,e]
    .exact .inr ⟨k,c,e,z.sameBut hs (cne y c e)⟩
  .obtain⟨w',z⟩:=I.cell y c e
   exact⟨w',z.sameBut hs (cne y c e)⟩
  .obtain⟨e,n,ne,nf,d⟩:=I.pin p hp
   exact⟨(hs.2 p.1 ne).trans e,n,ne,nf,d⟩
 .have hfn:X.fn x=true:=by
   rcases hf with z|z
   .exact z
   .rw[z] at hk;cases hk
  obtain⟨c,hc⟩:=I.ok.has x (.inl hk);obtain⟨w',z⟩:=I.cell x c hc;refine wpAny_storeName_cell I.ok.kind hk hc z (fun h' hc' hs=>?_);obtain⟨oc,hoc,hocd⟩:=id z;refine h { s with heap:=h' } ⟨I.ok,I.os,I.bare,⟨fun b o e n hb hx=>?_,fun b o e n hb hx=>?_,I.base.free,fun b o e hx=>?_,I.base.tups,I.base.frzs,I.base.tbls⟩,⟨m,hn.sameBut hs (Qa (cne x c hc)),fun j y v' e1 e2 e3=>?_⟩,fun y c' e=>?_,I.free,I.freeC,fun p hp=>?_,tracked ⟨oc,hoc,I.freeC x c hc⟩ hs,by simpa using I.len⟩ ⟨c,hs,.inr hc⟩
  .exact(hs.2 b (OF (OA (Ou e) (I.ok.cab x c hfn hc)))).trans (I.base.keep b o e n hb hx)
  .obtain⟨sl,e1⟩:=I.base.slot b o e n hb hx
   exact⟨sl,(hs.2 b (OF (OA (Ou e) (I.ok.cab x c hfn hc)))).trans e1⟩
  .obtain⟨o',e1⟩:=I.base.there b o e hx
   exact⟨o',(hs.2 b (OF (OA (Ou e) (I.ok.cab x c hfn hc)))).trans e1⟩
  .by_cases hj:j=i
   .subst hj
    rw[hi] at e1;cases e1;rw[Ow hiσ] at e2;cases e2;exact⟨u,r,.inr ⟨.inl hk,c,hc,hc'⟩⟩
   .rw[Oi (Qa hj)] at e2
    obtain⟨u',r',q⟩:=hl j y v' e1 e2 e3;refine⟨u',r',?_⟩
    rcases q with q|⟨k,c',e,z'⟩
    .exact .inl q
    .refine .inr ⟨k,c',e,z'.sameBut hs ?_⟩
     rintro rfl;exact hj (va hN e1 (I.ok.inj _ _ _ e hc ▸ hi))
  .by_cases hcc:c'=c
   .subst hcc;exact⟨_,hc'⟩
   .obtain⟨w2,z2⟩:=I.cell y c' e
    exact⟨w2,z2.sameBut hs hcc⟩
  .obtain⟨e,n,ne,nf,d⟩:=I.pin p hp
   refine⟨(hs.2 p.1 ?_).trans e,n,ne,nf,d⟩;intro q;rw[q,hoc] at e;have q':oc=p.2:=O8 e;exact d w' (by rw[←q'];exact hocd)
theorem qf(I:Inv X pins σ H s)(hN:X.N.Nodup)(hi:X.N[i]? = some x)(hx:Loc X.env.scope x)(r:RelV v u)
  (h:∀s',Inv X pins (σ.set i (some v)) H s'->Q () s') (hf:X.fn x=true\/X.env.scope.names.lookup x=some .local:=by first|exact .inl rfl|exact .inr rfl|assumption):OU M A (storeName X.env x u) Q E s:=ue I hN hi hx r (fun s' I' _=>h s' I') hf
theorem Inv.call'(I:Inv X pins σ H s)(ho:s'.os=s.os)(u:Un (frs X.stack) ch H H' s.heap s'.heap)(hok:HOk X.prog X.w H' s'.heap)(hg:Sx s'.gens)
  (hch:∀b∈ch,(b∈X.ex\/X.s₀.heap.objs.size<=b)/\b≠X.env.locals/\(∀x c,X.env.cells.lookup x=some c->c≠b)/\∀p∈X.pn++pins,p.1≠b):Inv X pins σ H' s':=by
 obtain⟨h',g',d',t',o'⟩:=s';have e:o'=s.os:=ho;subst e;exact I.call (g':=g') (t':=t') (d':=d') u hok hg hch
end
abbrev XK:=Oa->Option Addr->Hp->Prop
abbrev St:=List (Option V)
abbrev VK:=V->Hp->Prop
abbrev TE:=St->Hp->VK->Prop
abbrev TT:=St->Hp->(Bool->Hp->Prop)->Prop
abbrev TA:=St->Hp->(List V->Hp->Prop)->Prop
structure Ends where
 nx:St->Hp->Prop
 rt:VK
 bk:St->Hp->Prop:=fun _ _=>False
 ct:St->Hp->Prop:=fun _ _=>False
abbrev TS:=Ends->St->Hp->Prop
def EP(X:Cx)(pins:List (Addr×Obj))(σ:St)(Q:VK)(u:Oa)(s':Od):Prop:=∃v H',Inv X pins σ H' s'/\RelV v u/\Q v H'
def TP(X:Cx)(pins:List (Addr×Obj))(σ:St)(Q:Bool->Hp->Prop)(b:Bool)(s':Od):Prop:=∃H',Inv X pins σ H' s'/\Q b H'
def AP(X:Cx)(pins:List (Addr×Obj))(σ:St)(Q:List V->Hp->Prop)(us:List Oa)(s':Od):Prop:=∃vs H',Inv X pins σ H' s'/\Vals vs us/\Q vs H'
def SP(X:Cx)(pins:List (Addr×Obj))(D:Ends)(f:Flow)(s':Od):Prop:=
 match f with
 |.next=>∃σ' H',Inv X pins σ' H' s'/\D.nx σ' H'
 |.brk=>∃σ' H',Inv X pins σ' H' s'/\D.bk σ' H'
 |.cont=>∃σ' H',Inv X pins σ' H' s'/\D.ct σ' H'
 |.ret u=>∃v σ' H',Inv X pins σ' H' s'/\RelV v u/\D.rt v H'
def PE(X:Cx)(e:Expr)(t:TE):Prop:=∀(pins:List (Addr×Obj)) (s:Od) (σ:St) (H:Hp) (Q:VK),Inv X pins σ H s->t σ H Q->OU (OQ X.prog X.w) X.A (eval e X.env) (EP X pins σ Q) X.xe s
def PT(X:Cx)(e:Expr)(t:TT):Prop:=∀(pins:List (Addr×Obj)) (s:Od) (σ:St) (H:Hp) (Q:Bool->Hp->Prop),Inv X pins σ H s->t σ H Q->OU (OQ X.prog X.w) X.A (VP e X.env (eval e X.env)) (TP X pins σ Q) X.xe s
def PW(X:Cx)(e:Expr)(t:TT):Prop:=∀(whole:Sem Oa) (pins:List (Addr×Obj)) (s:Od) (σ:St) (H:Hp) (Q:Bool->Hp->Prop),Inv X pins σ H s->t σ H Q->OU (OQ X.prog X.w) X.A (VP e X.env whole) (TP X pins σ Q) X.xe s
theorem PW.pt(h:PW X e t):PT X e t:=h _
def PA(X:Cx)(es:List Expr)(t:TA):Prop:=∀(pos:Pos) (pins:List (Addr×Obj)) (s:Od) (σ:St) (H:Hp) (Q:List V->Hp->Prop),Inv X pins σ H s->t σ H Q->OU (OQ X.prog X.w) X.A (spliced (Pb pos (Oh es X.env))) (AP X pins σ Q) X.xe s
def PS(X:Cx)(st:Stmt)(t:TS):Prop:=∀(pins:List (Addr×Obj)) (s:Od) (σ:St) (H:Hp) (D:Ends),Inv X pins σ H s->t D σ H->OU (OQ X.prog X.w) X.A (exec st X.env) (SP X pins D) X.xe s
def PSs(X:Cx)(st:List Stmt)(t:TS):Prop:=∀(pins:List (Addr×Obj)) (s:Od) (σ:St) (H:Hp) (D:Ends),Inv X pins σ H s->t D σ H->OU (OQ X.prog X.w) X.A (execs st X.env) (SP X pins D) X.xe s
theorem thn{α:Type}{t:Sem α}{Q Q':α->Od->Prop}{M:Model}{A:O5}{E:Oa->Od->Prop}{s:Od}(h:OU M A t Q E s)(hQ:∀a s,Q a s->Q' a s):OU M A t Q' E s:=Qn h hQ fun _ _ x=>x
section
variable {X:Cx}
def zg(i:Nat):TE:=fun σ H Q=>∃v,σ[i]? = some (some v)/\Q v H
def tC(v:V):TE:=fun _ H Q=>Q v H
theorem GP(hN:X.N[i]? = some x)(hv:Vis X.env.scope x)(hd:(x == ("__debug__" : Str))=false:=by decide)(hcd:(x == ("__classdict__" : Str))=false:=by decide):PE X (.Name x pos) (zg i):=by
 intro pins s σ H Q I h;obtain⟨v,e,h⟩:=h;obtain⟨m,hn,hl⟩:=I.loc;obtain⟨u,r,l⟩:=hl i x v hN e hv;have fin:EP X pins σ Q u s:=⟨v,H,I,r,h⟩
 rcases l with⟨hk,hm⟩|⟨hk,c,hc,hcell⟩
 .exact VQ (wpAny_loadName_local I.ok.kind hk hn hm fin) hd
 .rcases hk with hk|hk
  .exact VQ (wpAny_loadName_cell I.ok.kind hk hc hcell fin) hd
  .exact VQ (wpAny_loadName_free I.ok.kind hk hc hcell fin hcd) hd
theorem xo{i j pos}:PE X (.Constant (.int i) j pos) (tC (.int i)):=fun _ _ _ H _ I h=>UK ⟨.int i,H,I.tok _,⟨_,rfl⟩,h⟩
theorem IM{b j pos}:PE X (.Constant (.bool b) j pos) (tC (.bl b)):=fun _ _ _ H _ I h=>Constant_bool ⟨.bl b,H,I,rfl,h⟩
theorem xn{j pos}:PE X (.Constant .none j pos) (tC .non):=fun _ _ _ H _ I h=>Constant_none ⟨.non,H,I,rfl,h⟩
theorem GQ{x j pos}:PE X (.Constant (.str x) j pos) (tC (.str x)):=fun _ _ _ H _ I h=>Sg ⟨.str x,H,I.tok _,⟨_,rfl⟩,h⟩
def Gl(X:Cx)(x:Str):Prop:=X.env.kindOf x=some .globalImplicit
theorem wc(I:Inv X pins σ H s)(hg:Gl X x)(hm:X.mg x=some u)(h:Q u s)
  (hd:(x == ("__debug__" : Str))=false:=by decide):OU (OQ X.prog X.w) X.A (eval (.Name x pos) X.env) Q E s:=Si I.ok.kind hg (Calls.loadGlobal_global (by rw[I.ok.glob];exact I.mod.glob.keeps I.bk) hm h) hd
theorem nY(I:Inv X pins σ H s)(hg:Gl X x)(hm:X.mg x=none)(hv:Qh x=some u)(h:Q u s)
  (hn:x≠"__name__":=by decide) (hd:(x == ("__debug__" : Str))=false:=by decide):OU (OQ X.prog X.w) X.A (eval (.Name x pos) X.env) Q E s:=by
 obtain⟨mb,h1,h2⟩:=I.mod.blt;exact Si I.ok.kind hg (Calls.loadGlobal_builtin (by rw[I.ok.glob];exact I.mod.glob.keeps I.bk) hm (by rw[I.ok.blt];exact h1.keeps I.bk) ((h2 x hn).trans hv) h) hd
theorem qD(hg:Gl X x)(hm:X.mg x=some u)(r:RelV v u)(hd:(x == ("__debug__" : Str))=false:=by decide):PE X (.Name x pos) (tC v):=fun _ _ _ H _ I h=>wc I hg hm ⟨v,H,I,r,h⟩ hd
theorem qE(hg:Gl X x)(hm:X.mg x=none)(hv:Qh x=some u)(r:RelV v u)(hn:x≠"__name__":=by decide)(hd:(x == ("__debug__" : Str))=false:=by decide):PE X (.Name x pos) (tC v):=fun _ _ _ H _ I h=>nY I hg hm hv ⟨v,H,I,r,h⟩ hn hd
variable {a b:Expr}{ta tb:TE}{pos:Pos}
variable {tA tB':TT}{rest:List Expr}
def JP(t u:TT):TT:=fun σ H Q=>t σ H fun c H1=>if c=true then u σ H1 Q else Q false H1
def tOr(t u:TT):TT:=fun σ H Q=>t σ H fun c H1=>if c=true then Q true H1 else u σ H1 Q
def JK(t:TT):TT:=fun σ H Q=>t σ H fun c H1=>Q (!c) H1
theorem Ey(ha:PT X a tA):PW X (.BoolOp .And [a] pos) tA:=by
 intro wh pins s σ H Q I h;refine isTrue_and (thn (ha pins s σ H Q I h) fun c s1 e=>?_)
 cases c with
 |true=>exact isTrue_and_nil e
 |false=>exact e
theorem GJ(ha:PT X a tA):PW X (.BoolOp .Or [a] pos) tA:=by
 intro wh pins s σ H Q I h;refine Ve (thn (ha pins s σ H Q I h) fun c s1 e=>?_)
 cases c with
 |false=>exact isTrue_or_nil e
 |true=>exact e
theorem GK(ha:PT X a tA)(hb:PW X (.BoolOp .And (b::rest) pos) tB'):PW X (.BoolOp .And (a::b::rest) pos) (JP tA tB'):=by
 intro wh pins s σ H Q I h;refine isTrue_and (thn (ha pins s σ H _ I h) fun c s1 ⟨H1,I1,q1⟩=>?_)
 cases c with
 |true=>exact hb wh pins s1 σ H1 Q I1 q1
 |false=>exact⟨H1,I1,q1⟩
theorem IG(ha:PT X a tA)(hb:PW X (.BoolOp .Or (b::rest) pos) tB'):PW X (.BoolOp .Or (a::b::rest) pos) (tOr tA tB'):=by
 intro wh pins s σ H Q I h;refine Ve (thn (ha pins s σ H _ I h) fun c s1 ⟨H1,I1,q1⟩=>?_)
 cases c with
 |true=>exact⟨H1,I1,q1⟩
 |false=>exact hb wh pins s1 σ H1 Q I1 q1
theorem GL(ha:PT X a tA):PT X (.UnaryOp .Not a pos) (JK tA):=by
 intro pins s σ H Q I h;exact isTrue_not (ha pins s σ H (fun c H1=>Q (!c) H1) I h)
def Iy(ta tb:TE):TE:=fun σ H Q=>ta σ H fun x H1=>∃c,x=.bl c/\if c=true then tb σ H1 Q else Q (.bl false) H1
def Iu(ta:TE):TE:=fun σ H Q=>ta σ H fun x H1=>∃c,x=.bl c/\Q (.bl (!c)) H1
theorem GS{op}(h:PE X a t):PE X (.BoolOp op [a] pos) t:=fun pins s σ H Q I hw=>BoolOp_one (h pins s σ H Q I hw)
theorem GU(ha:PE X a ta)(hb:PE X (.BoolOp .And (b::rest) pos) tb):PE X (.BoolOp .And (a::b::rest) pos) (Iy ta tb):=by
 intro pins s σ H Q I h;refine BoolOp_and (thn (ha pins s σ H _ I h) fun v s1 ⟨x,H1,I1,r1,q1⟩=>?_);obtain⟨c,rfl,q1⟩:=q1;cases r1;refine Pz ?_
 cases c with
 |true=>exact hb pins s1 σ H1 Q I1 q1
 |false=>exact⟨.bl false,H1,I1,rfl,q1⟩
theorem GT(ha:PE X a ta):PE X (.UnaryOp .Not a pos) (Iu ta):=by
 intro pins s σ H Q I h;refine UnaryOp_ (thn (ha pins s σ H _ I h) fun v s1 ⟨x,H1,I1,r1,q1⟩=>?_);obtain⟨c,rfl,q1⟩:=q1;cases r1;exact not_of (Pz ⟨.bl (!c),H1,I1,rfl,q1⟩)
def tIf(t:TT)(ta tb:TE):TE:=fun σ H Q=>t σ H fun c H1=>if c=true then ta σ H1 Q else tb σ H1 Q
theorem CI(hc:PT X c tA)(ha:PE X a ta)(hb:PE X b tb):PE X (.IfExp c a b pos) (tIf tA ta tb):=by
 intro pins s σ H Q I h;refine wpAny_IfExp (thn (hc pins s σ H _ I h) fun d s1 ⟨H1,I1,q1⟩=>?_)
 cases d with
 |true=>exact ha pins s1 σ H1 Q I1 q1
 |false=>exact hb pins s1 σ H1 Q I1 q1
end
def SqL(K:Frag)(H:Hp)(a:Addr)(xs:List V):Prop:=
 Rd H a (.lst xs) \/
  ∃(o:Obj) (its:Array Oa) (n:Nat),K.lookup a=some o/\o.cls=.type "list"/\o.dict=none/\o.data=.seq its n/\its.size<=Om/\Vals xs its.toList
def SqT(K:Frag)(H:Hp)(a:Addr)(xs:List V):Prop:=
 Rd H a (.tup xs) \/
  ∃(o:Obj) (its:Array Oa) (n:Nat),K.lookup a=some o/\o.cls=.type "tuple"/\o.data=.seq its n/\its.size<=Om/\Vals xs its.toList
def Kc:Oa->Option V
 |.none=>some .non
 |.bool b=>some (.bl b)
 |.int i _=>some (.int i)
 |.str x _=>some (.str x)
 |.bytes b _=>some (.byt b)
 |.float b _=>some (.flt b)
 |.ref a=>some (.ref a)
 |.type n=>some (.ty n)
 |_=>none
theorem RelV.abs(r:RelV x u):Kc u=some x:=by
 cases x with
 |non=>cases r;rfl
 |bl _=>cases r;rfl
 |int _=>obtain⟨t,rfl⟩:=r;rfl
 |str _=>obtain⟨t,rfl⟩:=r;rfl
 |byt _=>obtain⟨t,rfl⟩:=r;rfl
 |flt _=>obtain⟨t,rfl⟩:=r;rfl
 |ref _=>cases r;rfl
 |ty _=>cases r;rfl
theorem RelV.inj(r:RelV x u)(q:RelV y u):x=y:=O8 (r.abs.symm.trans q.abs)
theorem Vals.inj:∀{xs ys:List V}{us:List Oa},Vals xs us->Vals ys us->xs=ys
 |_,_,_,.nil,.nil=>rfl
 |_,_,_,.cons r t,.cons r' t'=>by rw[r.inj r',Vals.inj t t']
section
variable {X:Cx}{pins:List (Addr×Obj)}{σ:St}{H:Hp}{s:Od}{a:Addr}{xs ys:List V}
theorem SqL.of{K:Frag}(h:H a=some (.lst xs)):SqL K H a xs:=.inl (.inl h)
theorem SqT.of{K:Frag}(h:H a=some (.tup xs)):SqT K H a xs:=.inl (.inl h)
theorem Inv.list(I:Inv X pins σ H s)(h:SqL X.K H a xs):∃its:List Oa,Vals xs its/\PlainL s.heap a its.toArray/\xs.length<=sizeLine:=by
 rcases h with h|⟨o,its,n,hk,hc,hd,hs,hz,r⟩
 .obtain⟨z,its,n,r,e⟩:=h.ok I.hok
  exact⟨its,r,⟨_,n,e,rfl,rfl,rfl⟩,z⟩
 .refine⟨its.toList,r,⟨o,n,I.kIn a o hk,hc,hd,by simpa using hs⟩,?_⟩
  have e:=r.length;simp only[Pp] at e;omega
theorem Inv.tuple(I:Inv X pins σ H s)(h:SqT X.K H a xs):∃its:List Oa,Vals xs its/\Ux s.heap a its.toArray/\xs.length<=sizeLine:=by
 rcases h with h|⟨o,its,n,hk,hc,hs,hz,r⟩
 .obtain⟨z,its,r,p⟩:=h.ok I.hok
  exact⟨its,r,p,z⟩
 .refine⟨its.toList,r,⟨o,I.kIn a o hk,hc,n,by simpa using hs⟩,?_⟩
  have e:=r.length;simp only[Pp] at e;omega
theorem Inv.list_inj(I:Inv X pins σ H s)(h:SqL X.K H a xs)(h':SqL X.K H a ys):xs=ys:=by
 obtain⟨its,r,⟨o,n,e,_,_,d⟩,_⟩:=I.list h;obtain⟨its',r',⟨o',n',e',_,_,d'⟩,_⟩:=I.list h';rw[e] at e';cases e';rw[d] at d'
 injection d' with d1 _
 have:its=its':=by simpa using congrArg WL d1
 subst this;exact r.inj r'
theorem Inv.tuple_inj(I:Inv X pins σ H s)(h:SqT X.K H a xs)(h':SqT X.K H a ys):xs=ys:=by
 obtain⟨its,r,⟨o,e,_,n,d⟩,_⟩:=I.tuple h;obtain⟨its',r',⟨o',e',_,n',d'⟩,_⟩:=I.tuple h';rw[e] at e';cases e';rw[d] at d'
 injection d' with d1 _
 have:its=its':=by simpa using congrArg WL d1
 subst this;exact r.inj r'
end
abbrev Cx.wish(X:Cx)(E:Oa->Od->Prop):Cx:={ X with xe:=E }
abbrev Cx.nox(X:Cx):Cx:=X.wish fun _ _=>False
theorem Cx.Ok.wish{X:Cx}(ok:X.Ok)(E:Oa->Od->Prop):(X.wish E).Ok:=⟨ok.mod,ok.kind,ok.glob,ok.blt,ok.above,ok.inj,ok.has,ok.cab,ok.hd,ok.frames,ok.stk,ok.exf,ok.bs,ok.bsz,ok.noex,ok.exfs,ok.funs,ok.frf⟩
theorem Cx.Ok.unwish{X:Cx}{E:Oa->Od->Prop}(ok:(X.wish E).Ok):X.Ok:=⟨ok.mod,ok.kind,ok.glob,ok.blt,ok.above,ok.inj,ok.has,ok.cab,ok.hd,ok.frames,ok.stk,ok.exf,ok.bs,ok.bsz,ok.noex,ok.exfs,ok.funs,ok.frf⟩
section
variable {X:Cx}{pins:List (Addr×Obj)}{σ:St}{H:Hp}{s:Od}{E:Oa->Od->Prop}
theorem Inv.wish(I:Inv X pins σ H s)(E:Oa->Od->Prop):Inv (X.wish E) pins σ H s:=⟨I.ok.wish E,I.os,I.bare,I.base,I.loc,I.cell,I.free,I.freeC,I.pin,I.hok,I.len⟩
theorem Inv.unwish(I:Inv (X.wish E) pins σ H s):Inv X pins σ H s:=⟨I.ok.unwish,I.os,I.bare,I.base,I.loc,I.cell,I.free,I.freeC,I.pin,I.hok,I.len⟩
theorem SP.unwish(h:SP (X.wish E) pins D f s'):SP X pins D f s':=by
 cases f with
 |next=>obtain⟨σ',H',I,q⟩:=h;exact⟨σ',H',I.unwish,q⟩
 |brk=>obtain⟨σ',H',I,q⟩:=h;exact⟨σ',H',I.unwish,q⟩
 |cont=>obtain⟨σ',H',I,q⟩:=h;exact⟨σ',H',I.unwish,q⟩
 |ret u=>obtain⟨v,σ',H',I,r,q⟩:=h;exact⟨v,σ',H',I.unwish,r,q⟩
theorem PSs.nox{st:List Stmt}{t:TS}(h:PSs X.nox st t):PSs X st t:=fun pins s σ H D I hw=>
 Qn (h pins s σ H D (I.wish _) hw) (fun _ _ q=>q.unwish) fun _ _ z=>QM z
end
section
variable {X:Cx}{st:Stmt}{rest:List Stmt}{t u:TS}{e:Expr}{te:TE}{pos:Pos}
def Iv:TS:=fun D σ H=>D.nx σ H
def zh(t u:TS):TS:=fun D σ H=>t { D with nx:=u D } σ H
theorem qB:PSs X [] Iv:=fun _ _ σ H _ I h=>QS ⟨σ,H,I,h⟩
theorem mV(h1:PS X st t)(h2:PSs X rest u):PSs X (st::rest) (zh t u):=by
 intro pins s σ H D I h;refine RN (thn (h1 pins s σ H { D with nx:=u D } I h) fun f s1 q=>?_)
 cases f with
 |next=>
  obtain⟨σ',H',I',q⟩:=q;exact h2 pins s1 σ' H' D I' q
 |ret v=>exact q
 |brk=>exact q
 |cont=>exact q
theorem qA(h1:PS X st t):PSs X [st] t:=by
 intro pins s σ H D I h;refine RN (thn (h1 pins s σ H D I h) fun f s1 q=>?_)
 cases f with
 |next=>exact QS q
 |ret v=>exact q
 |brk=>exact q
 |cont=>exact q
theorem Inv.quiet(I:Inv X pins σ H s):interactive X.env=false:=by simp[interactive,I.ok.kind]
def Iw(te:TE):TS:=fun D σ H=>te σ H fun _ H1=>D.nx σ H1
theorem jx(he:PE X e te)(hs:Pm e none pos.line X.env=pure false:=by rfl):PS X (.Expr e pos) (Iw te):=by
 intro pins s σ H D I h;exact wpAny_Expr_any (thn (he pins s σ H _ I h) fun v s1 ⟨x,H1,I1,r1,q1⟩=>⟨σ,H1,I1,q1⟩) I.quiet hs
def JJ(te:TE):TS:=fun D σ H=>te σ H D.rt
theorem jG(he:PE X e te):PS X (.Return (some e) pos) (JJ te):=by
 intro pins s σ H D I h;exact wpAny_Return_some (thn (he pins s σ H _ I h) fun v s1 ⟨x,H1,I1,r1,q1⟩=>⟨x,σ,H1,I1,r1,q1⟩)
def JM(c:TT)(t u:TS):TS:=fun D σ H=>c σ H fun b H1=>if b=true then t D σ H1 else u D σ H1
theorem rV(hc:PT X c tc)(ha:PSs X a t)(hb:PSs X b u):PS X (.If c a b pos) (JM tc t u):=by
 intro pins s σ H D I h;refine wpAny_If (thn (hc pins s σ H _ I h) fun d s1 ⟨H1,I1,q1⟩=>?_)
 cases d with
 |true=>exact ha pins s1 σ H1 D I1 q1
 |false=>exact hb pins s1 σ H1 D I1 q1
end
abbrev TG:=V->St->Hp->(St->Hp->Prop)->Prop
abbrev TGs:=List V->St->Hp->(St->Hp->Prop)->Prop
def PG(X:Cx)(target:Expr)(t:TG):Prop:=
 ∀(pins:List (Addr×Obj)) (s:Od) (σ:St) (H:Hp) (v:V) (u:Oa) (Q:St->Hp->Prop),Inv X pins σ H s->RelV v u->t v σ H Q ->
  OU (OQ X.prog X.w) X.A (SK target X.env u) (fun _ s'=>∃σ' H',Inv X pins σ' H' s'/\Q σ' H') X.xe s
def PGs(X:Cx)(ts:List Expr)(t:TGs):Prop:=
 ∀(pins:List (Addr×Obj)) (s:Od) (σ:St) (H:Hp) (vs:List V) (us:List Oa) (Q:St->Hp->Prop),Inv X pins σ H s->Vals vs us->t vs σ H Q ->
  OU (OQ X.prog X.w) X.A (assignInOrder ((Rj ts X.env).map (·.2)) us) (fun _ s'=>∃σ' H',Inv X pins σ' H' s'/\Q σ' H') X.xe s
abbrev sL:=V->V->V->Hp->(Hp->Prop)->Prop
def zM(X:Cx)(t:sL):Prop:=
 ∀(pins:List (Addr×Obj)) (s:Od) (σ:St) (H:Hp) (o i v:V) (ov iv u:Oa) (Q:Hp->Prop),Inv X pins σ H s->RelV o ov->RelV i iv->RelV v u->t o i v H Q ->
  OU (OQ X.prog X.w) X.A (WM ov iv u) (fun _ s'=>∃H',Inv X pins σ H' s'/\Q H') X.xe s
section
variable {X:Cx}{pos:Pos}
def yO(i:Nat):TG:=fun v σ H Q=>Q (σ.set i (some v)) H
theorem fK(hN:X.N.Nodup)(hi:X.N[i]? = some x)(hx:Loc X.env.scope x)(hf:X.fn x=true\/X.env.scope.names.lookup x=some .local:=by first|exact .inl rfl|exact .inr rfl|assumption):PG X (.Name x pos) (yO i):=by
 intro pins s σ H v u Q I r h;exact Sy (qf I hN hi hx r (fun s' I'=>⟨_,H,I',h⟩) hf)
def J4:TGs:=fun vs σ H Q=>vs=[]/\Q σ H
def Jo(t:TG)(u:TGs):TGs:=fun vs σ H Q=>∃v r,vs=v::r/\t v σ H fun σ' H'=>u r σ' H' Q
theorem qC:PGs X [] J4:=by
 intro pins s σ H vs us Q I r h;obtain⟨e,h⟩:=h;subst e;cases r;exact assignInOrder_nil ⟨σ,H,I,h⟩
theorem iH(h1:PG X e t)(h2:PGs X es u)
  (hs:(Rj (e::es) X.env).map (·.2)=SK e X.env::(Rj es X.env).map (·.2):=by rfl):PGs X (e::es) (Jo t u):=by
 intro pins s σ H vs us Q I r h;obtain⟨v,vr,e1,h⟩:=h;subst e1
 cases r with
 |cons r rr=>
  rw[hs];refine assignInOrder_cons (thn (h1 pins s σ H _ _ _ I r h) fun _ s1 ⟨σ1,H1,I1,q1⟩=>?_);exact h2 pins s1 σ1 H1 _ _ Q I1 rr q1
def J2(K:Frag)(n:Nat)(t:TGs):TG:=fun v σ H Q=>∃a xs,v=.ref a/\SqT K H a xs/\xs.length=n/\t xs σ H Q
theorem rB(hc:X.calm=true)(h:PGs X es t)
  (hn:(Rj es X.env).length=n:=by rfl) (hst:(Rj es X.env).findIdx? (·.1)=none:=by rfl):PG X (.Tuple es k pos) (J2 X.K n t):=by
 intro pins s σ H v u Q I r hw;obtain⟨a,xs,e1,hq,hl,hw⟩:=hw;subst e1;cases r;obtain⟨its,rv,ht,hz⟩:=I.tuple hq;refine assign_Tuple_tuple (I.ok.hd hc) ht (by simp[hn,←hl,rv.length]) hst fun h' hx=>?_;have I1:Inv X pins σ H { s with heap:=h' }:=I.kept (t':=s.toks) fun b o e=>hx b o (OF (Ou e)) e;exact h pins _ σ H xs _ Q I1 (by simpa using rv) hw
def J3(to ti:TE)(t:sL):TG:=fun v σ H Q=>to σ H fun o H1=>ti σ H1 fun i H2=>t o i v H2 fun H3=>Q σ H3
theorem GO(ho:PE X o to)(hi:PE X i ti)(hs:zM X t)
  (ha:∀v,SK (.Subscript o i pos) X.env v=(do
   let ov ←Te [v] (eval o X.env)
   let iv ←Te [v,ov] (eval i X.env)
   WN pos
   Te [v,ov,iv] (WM ov iv v)
   release [v,ov,iv] []):=by intro _;rfl):PG X (.Subscript o i pos) (J3 to ti t):=by
 intro pins s σ H v u Q I r h;rw[ha];refine On (Qz (thn (ho pins s σ H _ I h) fun ov s1 ⟨x,H1,I1,r1,q1⟩=>?_));refine On (Qz (thn (hi pins s1 σ H1 _ I1 q1) fun iv s2 ⟨y,H2,I2,r2,q2⟩=>?_));refine On (wpAny_standAt (On (Qz (thn (hs pins s2 σ H2 x y v ov iv u _ I2 r1 r2 r q2) fun _ s3 ⟨H3,I3,q3⟩=>?_))));exact wpAny_release ⟨σ,H3,I3,q3⟩
def zk(te:TE)(g:TG):TS:=fun D σ H=>te σ H fun x H1=>g x σ H1 D.nx
theorem xi(he:PE X e te)(hg:PG X tg g)(hs:Uy [tg] e pos.line X.env=pure false:=by rfl)(hw:Uz [tg] e X.env=pure none:=by rfl)
  (h1:(Rj [tg] X.env).map (·.2)=[SK tg X.env]:=by rfl):PS X (.Assign [tg] e pos) (zk te g):=by
 intro pins s σ H D I h;refine wpAny_Assign_stores (thn (he pins s σ H _ I h) fun v s1 ⟨x,H1,I1,r1,q1⟩=>?_) hs hw;rw[h1];exact thn (hg pins s1 σ H1 x v _ I1 r1 q1) fun _ s2 q=>q
theorem eC(hN:X.N.Nodup)(hi:X.N[i]? = some x)(hx:Loc X.env.scope x)(he:PE X e te)(hs:Pm e (some (.Name x pos')) pos.line X.env=pure false:=by rfl)(hf:X.fn x=true\/X.env.scope.names.lookup x=some .local:=by first|exact .inl rfl|exact .inr rfl|assumption) :
  PS X (.Assign [.Name x pos'] e pos) (zk te (yO i)):=by
 intro pins s σ H D I h;refine wpAny_Assign_Name (thn (he pins s σ H _ I h) fun v s1 ⟨y,H1,I1,r1,q1⟩=>?_) hs;exact qf I1 hN hi hx r1 (fun s2 I2=>⟨_,H1,I2,q1⟩) hf
def Gu(c:TT)(tb:TS):TS:=fun D σ H=>∃W:Nat->St->Hp->Prop,(∃m,W m σ H)/\∀m σ H,W m σ H ->
 c σ H fun b H1=>if b=true then ∃N:St->Hp->Prop,(∀σ' H',N σ' H'->∃m',m' < m/\W m' σ' H')/\tb { D with nx:=N,ct:=N,bk:=D.nx } σ H1 else D.nx σ H1
theorem CC(hp:Ro (OQ X.prog X.w) X.A X.env X.xe)(hc:PT X c tc)(hb:PSs X body tb):PS X (.While c body [] pos) (Gu tc tb):=by
 intro pins s σ H D I h;obtain⟨W,⟨m0,w0⟩,turn⟩:=h;refine wpAny_While (codeAny_whileLoop (fun n s'=>∃σ' H',Inv X pins σ' H' s'/\W n σ' H') ?_ m0 ⟨σ,H,I,w0⟩);rintro n s1 ⟨σ1,H1,I1,w1⟩;refine Pu hp (thn (hc pins s1 σ1 H1 _ I1 (turn n σ1 H1 w1)) fun b s2 ⟨H2,I2,q2⟩=>?_)
 cases b with
 |true=>
  obtain⟨N,hN,q2⟩:=q2;rw[if_pos rfl];refine Pu hp (thn (hb pins s2 σ1 H2 _ I2 q2) fun f s3 q3=>?_)
  cases f with
  |next=>
   obtain⟨σ3,H3,I3,n3⟩:=q3;obtain⟨m',hm,w3⟩:=hN σ3 H3 n3;exact⟨m',hm,σ3,H3,I3,w3⟩
  |cont=>
   obtain⟨σ3,H3,I3,n3⟩:=q3;obtain⟨m',hm,w3⟩:=hN σ3 H3 n3;exact⟨m',hm,σ3,H3,I3,w3⟩
  |brk=>exact q3
  |ret v=>exact q3
 |false=>
  rw[if_neg Ox];exact QS ⟨σ1,H2,I2,q2⟩
end
structure It where
 go:Nat->Hp->Prop
 yld:Nat->Hp->V->Hp->Prop
 stop:Nat->Hp->Prop
def dU(X:Cx)(pins:List (Addr×Obj))(H:Hp)(b:Addr):Prop:=H b=none/\b≠X.env.locals/\b∉X.fs/\(b∈X.ex\/X.s₀.heap.objs.size<=b)/\(∀x c,X.env.cells.lookup x=some c->c≠b)/\∀p∈X.pn++pins,p.1≠b
theorem Inv.fpOk(I:Inv X pins σ H s)(hb:s.heap.objs.size<=b)(hn:H' b=none):dU X pins H' b:=by
 refine⟨hn,Rx (OA I.lt hb),I.nofs hb,.inr (OX I.sz hb),fun x c e z=>?_,fun p hp z=>?_⟩
 .obtain⟨v,q⟩:=I.cell x c e
  exact absurd (OA q.lt (by rw[z];exact hb)) (PQ _)
 .exact absurd (OA (Ou (I.pin p hp).1) (by rw[z];exact hb)) (PQ _)
structure Turn(P:OB)(w:OV)(K:Frag)(tg:Expr)(J:It)(fp:List Addr)(it:Addr)(tn:Nat->Heap->Prop):Prop where
 mem:it∈fp
 obj:∀i h,tn i h->∀b∈fp,∃o,h.get? b=some o/\∀v,o.data≠.cell v
 keep:∀i h h',tn i h->(∀b∈fp,∀o,h.get? b=some o->h'.get? b=some o)->tn i h'
 item:∀(X:Cx),X.prog=P->X.w=w->X.K=K->X.calm=true->∀(i:Nat) (pins:List (Addr×Obj)) (s:Od) (σ:St) (H:Hp) (E:Oa->Od->Prop),Inv X pins σ H s->(∀b∈fp,dU X pins H b)->tn i s.heap->J.go i H ->
  OU (OQ P w) X.A (pyNext (.ref it)) (fun r s1=>∃u,r=some u /\
   OU (OQ P w) X.A (RU tg (.ref it) u) (fun _ s2=>∃x H',Inv X pins σ H' s2/\RelV x u/\J.yld i H x H'/\tn (i+1) s2.heap/\∀b∈fp,H' b=none) E s1) E s
 done:∀(X:Cx),X.prog=P->X.w=w->X.K=K->X.calm=true->∀(i:Nat) (pins:List (Addr×Obj)) (s:Od) (σ:St) (H:Hp) (E:Oa->Od->Prop),Inv X pins σ H s->(∀b∈fp,dU X pins H b)->tn i s.heap->J.stop i H ->
  OU (OQ P w) X.A (pyNext (.ref it)) (fun r s1=>r=none/\Inv X pins σ H s1) E s
 self:∀(A:O5) (i:Nat) (s:Od) (Q:Oa->Od->Prop) (E:Oa->Od->Prop),tn i s.heap->Q (.ref it) s->OU (OQ P w) A (pyIter (.ref it)) Q E s
abbrev TI:=St->Hp->(It->Hp->Prop)->Prop
def PIE(X:Cx)(pins:List (Addr×Obj))(σ:St)(tg:Expr)(R:It->Hp->Prop)(itv:Oa)(s2:Od):Prop:=∃(it:Addr) (fp:List Addr) (tn:Nat->Heap->Prop) (J:It) (H':Hp),itv=.ref it/\Inv X pins σ H' s2/\Turn X.prog X.w X.K tg J fp it tn/\tn 0 s2.heap/\(∀b∈fp,dU X pins H' b)/\R J H'
def PI(X:Cx)(tg iter:Expr)(wi:TI):Prop:=
 ∀(pins:List (Addr×Obj)) (s:Od) (σ:St) (H:Hp) (R:It->Hp->Prop),Inv X pins σ H s->wi σ H R ->
  OU (OQ X.prog X.w) X.A (eval iter X.env) (fun v s1=>OU (OQ X.prog X.w) X.A (pyIter v) (PIE X pins σ tg R) X.xe s1) X.xe s
theorem lN(ho:s.heap.get? it=some o)(hc:o.cls=.type n)(hd:o.data=.fields vs)
  (hn:["enumerate","zip","dict_itemiterator","dict_reverseitemiterator","odict_iterator","itertools.zip_longest","itertools.pairwise"].contains n=false) (hQ:Q () s):OU M A (RU tg (.ref it) u) Q E s:=by
 unfold RU
 cases tg <;> first
  |exact OD hQ
  | (cases u <;> first
    |exact OD hQ
    | (refine On (VR ho ?_)
       rw[hc,hd];show OU M A (if (["enumerate","zip","dict_itemiterator","dict_reverseitemiterator","odict_iterator","itertools.zip_longest","itertools.pairwise"].contains n&&vs[0]? == some (rawInt _))=true then _ else _) Q E s;rw[if_neg (by intro h;rw[hn,Bool.false_and] at h;cases h)]
       exact OD hQ))
def Itl(K:Frag)(a:Addr):It:=⟨fun i H=>∃xs x,SqL K H a xs/\xs[i]? = some x,fun i H x H'=>H'=H/\∀xs,SqL K H a xs->xs[i]? = some x,fun i H=>∃xs,SqL K H a xs/\xs.length<=i⟩
def Itt(K:Frag)(a:Addr):It:=⟨fun i H=>∃xs x,SqT K H a xs/\xs[i]? = some x,fun i H x H'=>H'=H/\∀xs,SqT K H a xs->xs[i]? = some x,fun i H=>∃xs,SqT K H a xs/\xs.length<=i⟩
def Itr(lo:Int)(n:Nat):It:=⟨fun i _=>i<n,fun i H x H'=>H'=H/\x=.int (lo+i),fun i _=>n<=i⟩
theorem pM{P:OB}{w:OV}{K:Frag}{tg:Expr}(a it:Addr):Turn P w K tg (Itl K a) [it] it (fun i h=>h.IsListIter it a i) where
 mem:=by simp
 obj:=fun i h st b hb=>by
  have e:b=it:=by simpa using hb
  subst e;obtain⟨o,e,c,d⟩:=st;exact⟨o,e,fun v z=>by rw[d] at z;cases z⟩
 keep:=fun i h h' st k=>st.at fun o e=>k it (by simp) o e
 item:=by
  intro X hP hw hK hc i pins s σ H E I hf st hg;subst hP hw hK;obtain⟨xs,x,hq,hx⟩:=hg;obtain⟨its,rv,p,hz⟩:=I.list hq;obtain⟨u,hu,ru⟩:=rv.get hx;obtain⟨f0,f1,f2,f3,f4,f5⟩:=hf it (by simp);refine Tf st p.isList (x:=u) (by simpa using hu) fun h' st' sb=>?_;have I1:Inv X pins σ H { s with heap:=h' }:=I.turned (t':=s.toks) (fun b o hb e=>(sb.2 b hb).trans e) f0 f1 f3 f4 f5;obtain⟨o,e,c,d⟩:=id st';exact⟨u,rfl,lN (s:={ s with heap:=h' }) e c d (by decide) ⟨x,H,I1,ru,⟨rfl,fun ys hy=>by rw[I.list_inj hy hq];exact hx⟩,st',fun b hb=>(hf b hb).1⟩⟩
 done:=by
  intro X hP hw hK hc i pins s σ H E I hf st hg;subst hP hw hK;obtain⟨xs,hq,hx⟩:=hg;obtain⟨its,rv,p,hz⟩:=I.list hq;obtain⟨f0,f1,f2,f3,f4,f5⟩:=hf it (by simp);have hl:=rv.length;exact TJ (I.ok.hd hc) st p.isList (by simp;omega) fun h' eb=>⟨rfl,I.turned (t':=s.toks) (fun b o hb e=>eb b o hb e) f0 f1 f3 f4 f5⟩
 self:=fun _ _ _ _ _ st h=>wpAny_pyIter_listiter st h
theorem AN{P:OB}{w:OV}{K:Frag}{tg:Expr}(a it:Addr):Turn P w K tg (Itt K a) [it] it (fun i h=>h.IsTupleIter it a i) where
 mem:=by simp
 obj:=fun i h st b hb=>by
  have e:b=it:=by simpa using hb
  subst e;obtain⟨o,e,c,d⟩:=st;exact⟨o,e,fun v z=>by rw[d] at z;cases z⟩
 keep:=fun i h h' st k=>st.at fun o e=>k it (by simp) o e
 item:=by
  intro X hP hw hK hc i pins s σ H E I hf st hg;subst hP hw hK;obtain⟨xs,x,hq,hx⟩:=hg;obtain⟨its,rv,p,hz⟩:=I.tuple hq;obtain⟨u,hu,ru⟩:=rv.get hx;obtain⟨f0,f1,f2,f3,f4,f5⟩:=hf it (by simp);refine wpAny_pyNext_tuple_item st (show s.heap.IsTuple a its.toArray from p) (x:=u) (by simpa using hu) fun h' st' sb=>?_;have I1:Inv X pins σ H { s with heap:=h' }:=I.turned (t':=s.toks) (fun b o hb e=>(sb.2 b hb).trans e) f0 f1 f3 f4 f5;obtain⟨o,e,c,d⟩:=id st';exact⟨u,rfl,lN (s:={ s with heap:=h' }) e c d (by decide) ⟨x,H,I1,ru,⟨rfl,fun ys hy=>by rw[I.tuple_inj hy hq];exact hx⟩,st',fun b hb=>(hf b hb).1⟩⟩
 done:=by
  intro X hP hw hK hc i pins s σ H E I hf st hg;subst hP hw hK;obtain⟨xs,hq,hx⟩:=hg;obtain⟨its,rv,p,hz⟩:=I.tuple hq;obtain⟨f0,f1,f2,f3,f4,f5⟩:=hf it (by simp);have hl:=rv.length;exact wpAny_pyNext_tuple_end (I.ok.hd hc) st (show s.heap.IsTuple a its.toArray from p) (by simp;omega) fun h' eb=>⟨rfl,I.turned (t':=s.toks) (fun b o hb e=>eb b o hb e) f0 f1 f3 f4 f5⟩
 self:=fun _ _ _ _ _ st h=>wpAny_pyIter_tupleiter st h
theorem AO{P:OB}{w:OV}{K:Frag}{tg:Expr}(it:Addr)(lo:Int)(n:Nat):Turn P w K tg (Itr lo n) [it] it (fun i h=>IsRangeIter h it (lo+(i:Nat)*1) ((n:Int)-(i:Nat)) 1) where
 mem:=by simp
 obj:=fun i h st b hb=>by
  have e:b=it:=by simpa using hb
  subst e
  exact⟨_,st,fun v z=>by
   have z':WZ _=Data.cell v:=z
   cases z'⟩
 keep:=fun i h h' st k=>k it (by simp) _ st
 item:=by
  intro X hP hw hK hc i pins s σ H E I hf st hg;subst hP hw hK;obtain⟨f0,f1,f2,f3,f4,f5⟩:=hf it (by simp);have W:=Walks.range (prog:=X.prog) (w:=X.w) (I.ok.hd hc) it lo 1 n;refine W.item i s _ _ hg st fun v h' tk hv st' kk=>?_;obtain⟨t,rfl⟩:=hv;have I1:Inv X pins σ H { s with heap:=h',toks:=tk }:=I.turned (fun b o hb e=>kk b o (by simpa using hb) e) f0 f1 f3 f4 f5;refine⟨_,rfl,lN (s:={ s with heap:=h',toks:=tk }) (n:="range_iterator") st' rfl rfl (by decide) ⟨.int (lo+i),H,I1,⟨t,?_⟩,⟨rfl,rfl⟩,st',fun b hb=>(hf b hb).1⟩⟩;rw[Int.mul_one]
 done:=by
  intro X hP hw hK hc i pins s σ H E I hf st hg;subst hP hw hK;obtain⟨f0,f1,f2,f3,f4,f5⟩:=hf it (by simp);exact wpAny_pyNext_range_end (I.ok.hd hc) st (by have:n<=i:=hg;omega) fun h' eb=>⟨rfl,I.turned (t':=s.toks) (fun b o hb e=>eb b o hb e) f0 f1 f3 f4 f5⟩
 self:=fun _ _ _ _ _ st h=>wpAny_pyIter_rangeiter st h
section
variable {X:Cx}{tg:Expr}
def Jn(K:Frag)(tl:TE):TI:=fun σ H R=>tl σ H fun x H1=>∃a,x=.ref a/\(∃xs,SqL K H1 a xs)/\R (Itl K a) H1
theorem EN(hl:PE X l tl):PI X tg l (Jn X.K tl):=by
 intro pins s σ H R I h;refine thn (hl pins s σ H _ I h) fun v s1 ⟨x,H1,I1,r1,q1⟩=>?_;obtain⟨a,e,⟨xs,hq⟩,q⟩:=q1;subst e;cases r1;obtain⟨its,rv,p,hz⟩:=I1.list hq;refine Qf p.isList ?_;refine⟨s1.heap.objs.size,[s1.heap.objs.size],_,_,H1,rfl,I1.kept (t':=s1.toks) fun b o e=>Of _ e,pM a _,⟨_,OC _ rfl,rfl,rfl⟩,fun b hb=>?_,q⟩
 have e:b=s1.heap.objs.size:=by simpa using hb
 subst e;exact I1.fpOk (Ol _) (I1.hok.fresh (Ol _))
theorem Cv{pins:List (Addr×Obj)}{σ:St}{H:Hp}{s:Od}{R:It->Hp->Prop}{E:Oa->Od->Prop}{lo hi:Int}{t u v:Tok}{tk:Nat}(I:Inv X pins σ H s)(h1 : -(2^62)<=lo)(h2:lo<2^62)(h3 : -(2^62)<=hi)(h4:hi<2^62)
  (q:R (Itr lo (hi-lo).toNat) H):OU (OQ X.prog X.w) X.A (pyIter (.ref s.heap.objs.size)) (PIE X pins σ tg R) E { s with heap:=s.heap.push { cls:=.type "range",data:=.fields #[.int lo t,.int hi u,.int 1 v] },toks:=tk }:=by
 refine wpAny_pyIter_range (IsRange.new ..) (small_one h1 h2 h3 h4) ?_;have I1:Inv X pins σ H { s with heap:=s.heap.push { cls:=.type "range",data:=.fields #[.int lo t,.int hi u,.int 1 v] },toks:=tk }:=I.kept fun b o e=>Of _ e
 refine⟨(s.heap.push { cls:=.type "range",data:=.fields #[.int lo t,.int hi u,.int 1 v] }).objs.size,[(s.heap.push { cls:=.type "range",data:=.fields #[.int lo t,.int hi u,.int 1 v] }).objs.size],_,_,H,rfl,
  I1.kept (t':=tk) fun b o e=>Of _ e,AO _ lo (hi-lo).toNat,?_,fun b hb=>?_,q⟩
 .have e1:lo+((0:Nat):Int)*1=lo:=by simp
  have e2:(((hi-lo).toNat:Nat):Int)-((0:Nat):Int)=WE lo hi 1:=by rw[rangeSize_one];split <;> omega
  show IsRangeIter _ _ (lo+((0:Nat):Int)*1) ((((hi-lo).toNat:Nat):Int)-((0:Nat):Int)) 1;rw[e1,e2];exact OC _ rfl
 .have e:b=(s.heap.push { cls:=.type "range",data:=.fields #[.int lo t,.int hi u,.int 1 v] }).objs.size:=by simpa using hb
  subst e;exact I1.fpOk (Ol _) (I1.hok.fresh (Ol _))
def Jm(ta:TA):TI:=fun σ H R=>ta σ H fun vs H1=>∃j:Int,vs=[.int j]/\-(2^62)<=j/\j<2^62/\R (Itr 0 j.toNat) H1
theorem Bx(hg:Gl X "range")(hm:X.mg "range"=none)(ha:PA X [a] ta)(hs:Oh [a] X.env=[(false,eval a X.env)]:=by rfl):PI X tg (.Call (.Name "range" p) [a] [] pos) (Jm ta):=by
 intro pins s σ H R I h;refine Call_ (nY I hg hm boot_range (R4 (thn (ha pos pins s σ H _ I h) fun us s1 ⟨vs,H1,I1,r1,q1⟩=>?_) hs rfl));obtain⟨j,e,q1,q2,q⟩:=q1;subst e
 cases r1 with
 |cons r rr=>
  cases rr;obtain⟨t,rfl⟩:=r;exact call_range_1 (Cv I1 (by omega) (by omega) q1 q2 (by simpa using q))
def zj(wi:TI)(g:TG)(tb:TS):TS:=fun D σ H=>wi σ H fun J H1=>∃W:Nat->Nat->St->Hp->Prop,(∃m,W 0 m σ H1)/\∀i m σ H,W i m σ H ->
 (J.stop i H/\D.nx σ H)\/(J.go i H/\∃N:St->Hp->Prop,(∀σ' H',N σ' H'->∃m',m' < m/\W (i+1) m' σ' H')/\∀x H',J.yld i H x H'->g x σ H' fun σ2 H2=>tb { D with nx:=N,ct:=N,bk:=D.nx } σ2 H2)
def gq(fp:List Addr)(h:Heap):List (Addr×Obj):=fp.filterMap fun b=>(h.get? b).map fun o=>(b,o)
theorem jl(hb:b∈fp)(e:h.get? b=some o):(b,o)∈gq fp h:=UL.mpr ⟨b,hb,by rw[e];rfl⟩
theorem BC(hp:p∈gq fp h):p.1∈fp/\h.get? p.1=some p.2:=by
 obtain⟨b,hb,e⟩:=UL.mp hp
 cases q:h.get? b with
 |none=>rw[q] at e;cases e
 |some o=>
  rw[q] at e;have e':(b,o)=p:=O8 e;subst e';exact⟨hb,q⟩
theorem Inv.pinned(I:Inv X pins σ H s)(hf:∀b∈fp,dU X pins H b)(ho:∀b∈fp,∃o,s.heap.get? b=some o/\∀v,o.data≠.cell v):Inv X (pins++gq fp s.heap) σ H s:=
 I.pins_of fun p hp=>(Oq.mp hp).elim (fun z=>I.pin p (Oo _ z)) fun z=>by
  obtain⟨hb,e⟩:=BC z;obtain⟨f0,f1,f2,_⟩:=hf p.1 hb;obtain⟨o,e',d⟩:=ho p.1 hb;rw[e] at e';cases e';exact⟨e,f0,f1,f2,d⟩
theorem Inv.unpinned(I:Inv X (pins++pl) σ H s):Inv X pins σ H s:=I.pins_of fun p hp=>I.pin p (Oo _ (OI _ hp))
theorem nS(hp:Ro (OQ X.prog X.w) X.A X.env X.xe)(hc:X.calm=true)(hi:PI X tg iter wi)(hg:PG X tg g)(hb:PSs X body tb)
  (hs:∀x,O0 iter X.env x=pure x:=by intro _;rfl):PS X (.For tg iter body [] pos) (zj wi g tb):=by
 intro pins s σ H D I h;refine wpAny_For (thn (hi pins s σ H _ I h) fun v s1 h1=>thn h1 fun itv s2 h2=>?_) hs;obtain⟨it,fp,tn,J,H2,e,I2,T,st2,f2,W,⟨m0,w0⟩,turn⟩:=h2;subst e;have stat:∀{H':Hp},(∀b∈fp,H' b=none)->∀b∈fp,dU X pins H' b:=fun hn b hb=>⟨hn b hb,(f2 b hb).2⟩;refine Uo (fun n s'=>∃i σ' H',Inv X pins σ' H' s'/\tn i s'.heap/\(∀b∈fp,H' b=none)/\W i n σ' H') ?_ m0 ⟨0,σ,H2,I2,st2,fun b hb=>(f2 b hb).1,w0⟩;rintro n s3 ⟨i,σ3,H3,I3,st3,fr3,w3⟩
 rcases turn i n σ3 H3 w3 with⟨stop,qn⟩|⟨go,N,hN,step⟩
 .refine Pu hp (thn (T.done X rfl rfl rfl hc i pins s3 σ3 H3 X.xe I3 (stat fr3) st3 stop) fun r s4 ⟨hr,I4⟩=>?_)
  subst hr;exact QS ⟨σ3,H3,I4,qn⟩
 .refine Pu hp (thn (T.item X rfl rfl rfl hc i pins s3 σ3 H3 X.xe I3 (stat fr3) st3 go) fun r s4 ⟨u,hr,h4⟩=>?_)
  subst hr;refine Pu hp (thn h4 fun _ s5 ⟨x,H5,I5,r5,y5,st5,fr5⟩=>?_);have I5':=I5.pinned (stat fr5) (T.obj _ _ st5);refine Pu hp (thn (hg _ s5 σ3 H5 x u _ I5' r5 (step x H5 y5)) fun _ s6 ⟨σ6,H6,I6,q6⟩=>?_);refine Pu hp (thn (hb _ s6 σ6 H6 _ I6 q6) fun f s7 q7=>?_)
  have WF:∀{σ7:St}{H7:Hp},Inv X (pins++gq fp s5.heap) σ7 H7 s7->N σ7 H7->∃m,m<n/\∃i σ' H',Inv X pins σ' H' s7/\tn i s7.heap/\(∀b∈fp,H' b=none)/\W i m σ' H':=fun {σ7 H7} I7 n7=>by
   obtain⟨m',hm,w7⟩:=hN σ7 H7 n7;refine⟨m',hm,i+1,σ7,H7,I7.unpinned,T.keep _ _ _ st5 fun b hb o e=>(I7.pin (b,o) (Oo _ (Oo _ (jl hb e)))).1,fun b hb=>?_,w7⟩;obtain⟨o,e,d⟩:=T.obj _ _ st5 b hb;exact(I7.pin (b,o) (Oo _ (Oo _ (jl hb e)))).2.1
  cases f with
  |next=>obtain⟨σ7,H7,I7,n7⟩:=q7;exact WF I7 n7
  |cont=>obtain⟨σ7,H7,I7,n7⟩:=q7;exact WF I7 n7
  |brk=>obtain⟨σ7,H7,I7,q7⟩:=q7;exact⟨σ7,H7,I7.unpinned,q7⟩
  |ret v=>obtain⟨x7,σ7,H7,I7,r7,q7⟩:=q7;exact⟨x7,σ7,H7,I7.unpinned,r7,q7⟩
end
abbrev R2:=V->V->Hp->VK->Prop
def OpR(X:Cx)(f:Oa->Oa->Sem Oa)(r:R2):Prop:=
 ∀(pins:List (Addr×Obj)) (s:Od) (σ:St) (H:Hp) (x y:V) (v u:Oa) (Q:VK),Inv X pins σ H s->RelV x v->RelV y u->r x y H Q ->
  OU (OQ X.prog X.w) X.A (f v u) (EP X pins σ Q) X.xe s
def UnR(X:Cx)(f:Oa->Sem Oa)(r:V->Hp->VK->Prop):Prop:=
 ∀(pins:List (Addr×Obj)) (s:Od) (σ:St) (H:Hp) (x:V) (v:Oa) (Q:VK),Inv X pins σ H s->RelV x v->r x H Q ->
  OU (OQ X.prog X.w) X.A (f v) (EP X pins σ Q) X.xe s
def CallR(X:Cx)(f:Oa)(r:List V->Hp->VK->Prop):Prop:=
 ∀(pins:List (Addr×Obj)) (s:Od) (σ:St) (H:Hp) (xs:List V) (us:List Oa) (Q:VK),Inv X pins σ H s->Vals xs us->r xs H Q ->
  OU (OQ X.prog X.w) X.A (call f us) (EP X pins σ Q) X.xe s
def Ke(X:Cx)(r:V->Hp->(Bool->Hp->Prop)->Prop):Prop:=
 ∀(pins:List (Addr×Obj)) (s:Od) (σ:St) (H:Hp) (x:V) (v:Oa) (Q:Bool->Hp->Prop),Inv X pins σ H s->RelV x v->r x H Q ->
  OU (OQ X.prog X.w) X.A (truthy v) (TP X pins σ Q) X.xe s
def tOp(r:R2)(ta tb:TE):TE:=fun σ H Q=>ta σ H fun x H1=>tb σ H1 fun y H2=>r x y H2 Q
def tUn(r:V->Hp->VK->Prop)(ta:TE):TE:=fun σ H Q=>ta σ H fun x H1=>r x H1 Q
def rI(C:Int->Int->Prop)(g:Int->Int->V):R2:=fun x y H Q=>∃i j,x=.int i/\y=.int j/\C i j/\Q (g i j) H
def rI0(g:Int->Int->V):R2:=fun x y H Q=>∃i j,x=.int i/\y=.int j/\Q (g i j) H
def rU(g:Int->V):V->Hp->VK->Prop:=fun x H Q=>∃i,x=.int i/\Q (g i) H
section
variable {X:Cx}{a b c:Expr}{ta tb tc:TE}{pos:Pos}
theorem sI(ha:PE X a ta)(hb:PE X b tb){R:V->V->Hp->Prop}(I:Inv X pins σ H s)
  (h:ta σ H fun x H1=>tb σ H1 fun y H2=>R x y H2) {Q:Oa->Od->Prop}{f:Oa->Oa->Sem Oa}
  (hf:∀v u s2 x y H2,Inv X pins σ H2 s2->RelV x v->RelV y u->R x y H2->OU (OQ X.prog X.w) X.A (f v u) Q X.xe s2) :
  OU (OQ X.prog X.w) X.A (eval a X.env) (fun v s₁=>OU (OQ X.prog X.w) X.A (eval b X.env) (fun u s₂=>OU (OQ X.prog X.w) X.A (f v u) Q X.xe s₂) X.xe s₁) X.xe s:=by
 refine thn (ha pins s σ H _ I h) fun v s1 ⟨x,H1,I1,r1,q1⟩=>?_;refine thn (hb pins s1 σ H1 _ I1 q1) fun u s2 ⟨y,H2,I2,r2,q2⟩=>?_;exact hf v u s2 x y H2 I2 r1 r2 q2
theorem IJ(ho:OpR X (PY op) r)(ha:PE X a ta)(hb:PE X b tb):PE X (.BinOp a op b pos) (tOp r ta tb):=by
 intro pins s σ H Q I h;exact wpAny_BinOp (sI ha hb I h fun v u s2 x y H2 I2 rx ry q=>ho pins s2 σ H2 x y v u Q I2 rx ry q)
theorem II(ho:UnR X (unaryOp op) r)(ha:PE X a ta):PE X (.UnaryOp op a pos) (tUn r ta):=by
 intro pins s σ H Q I h;exact UnaryOp_ (thn (ha pins s σ H _ I h) fun v s1 ⟨x,H1,I1,r1,q1⟩=>ho pins s1 σ H1 x v Q I1 r1 q1)
theorem opI{f:Oa->Oa->Sem Oa}{C:Int->Int->Prop}{g:Int->Int->Int}
  (rule:∀(i j:Int) (t u:Tok) (s:Od) (Q:Oa->Od->Prop) (E:Oa->Od->Prop),C i j->Q (.int (g i j) s.toks) { s with toks:=s.toks+1 }->OU (OQ X.prog X.w) X.A (f (.int i t) (.int j u)) Q E s) :
  OpR X f (rI C fun i j=>.int (g i j)):=by
 intro pins s σ H x y v u Q I rx ry h;obtain⟨i,j,rfl,rfl,hc,q⟩:=h;obtain⟨t,rfl⟩:=rx;obtain⟨t',rfl⟩:=ry;exact rule i j t t' s _ _ hc ⟨.int (g i j),H,I.tok _,⟨_,rfl⟩,q⟩
theorem zx{f:Oa->Oa->Sem Oa}{g:Int->Int->Int}
  (rule:∀(i j:Int) (t u:Tok) (s:Od) (Q:Oa->Od->Prop) (E:Oa->Od->Prop),Q (.int (g i j) s.toks) { s with toks:=s.toks+1 }->OU (OQ X.prog X.w) X.A (f (.int i t) (.int j u)) Q E s) :
  OpR X f (rI0 fun i j=>.int (g i j)):=by
 intro pins s σ H x y v u Q I rx ry h;obtain⟨i,j,rfl,rfl,q⟩:=h;obtain⟨t,rfl⟩:=rx;obtain⟨t',rfl⟩:=ry;exact rule i j t t' s _ _ ⟨.int (g i j),H,I.tok _,⟨_,rfl⟩,q⟩
theorem oR{f:Oa->Oa->Sem Oa}{g:Int->Int->Bool}
  (rule:∀(i j:Int) (t u:Tok) (s:Od) (Q:Oa->Od->Prop) (E:Oa->Od->Prop),Q (.bool (g i j)) s->OU (OQ X.prog X.w) X.A (f (.int i t) (.int j u)) Q E s) :
  OpR X f (rI0 fun i j=>.bl (g i j)):=by
 intro pins s σ H x y v u Q I rx ry h;obtain⟨i,j,rfl,rfl,q⟩:=h;obtain⟨t,rfl⟩:=rx;obtain⟨t',rfl⟩:=ry;exact rule i j t t' s _ _ ⟨.bl (g i j),H,I,rfl,q⟩
def Kg(i j:Int):Prop:=0<=j/\j<=1000000/\i.natAbs<2^64
def CMul(i j:Int):Prop:=(-(2^64)<i/\i<2^64)\/(-(2^64)<j/\j<2^64)
theorem CMul.ok(h:CMul i j):IntMulOk i j:=by
 rcases h with⟨h1,h2⟩|⟨h1,h2⟩
 .exact .of_left (intBits_le_64 h1 h2)
 .exact .of_right (intBits_le_64 h1 h2)
theorem op_add:OpR X (PY .Add) (rI0 fun i j=>.int (i+j)):=zx fun _ _ _ _ _ _ _ q=>add_int q
theorem GX:OpR X (PY .Sub) (rI0 fun i j=>.int (i-j)):=zx fun _ _ _ _ _ _ _ q=>sub_int q
theorem op_mul:OpR X (PY .Mult) (rI CMul fun i j=>.int (i*j)):=opI fun _ _ _ _ _ _ _ hc q=>mul_int q hc.ok
theorem G0:OpR X (PY .Mod) (rI (fun _ j=>0<j) fun i j=>.int (i % j)):=opI fun i j _ _ _ _ _ hc q=>by
 have h1:(0:Int)<j:=hc;exact mod_int' (by omega) (by rw[Int.fmod_eq_emod_of_nonneg i (by omega)];exact q)
theorem GY:OpR X (PY .Pow) (rI Kg fun i j=>.int (i^j.toNat)):=opI fun _ _ _ _ _ _ _ hc q=>pow_int_small hc.1 hc.2.1 hc.2.2 q
theorem unI{f:Oa->Sem Oa}{g:Int->Int}
  (rule:∀(i:Int) (t:Tok) (s:Od) (Q:Oa->Od->Prop) (E:Oa->Od->Prop),Q (.int (g i) s.toks) { s with toks:=s.toks+1 }->OU (OQ X.prog X.w) X.A (f (.int i t)) Q E s) :
  UnR X f (rU fun i=>.int (g i)):=by
 intro pins s σ H x v Q I rx h;obtain⟨i,rfl,q⟩:=h;obtain⟨t,rfl⟩:=rx;exact rule i t s _ _ ⟨.int (g i),H,I.tok _,⟨_,rfl⟩,q⟩
theorem Gm:UnR X (unaryOp .USub) (rU fun i=>.int (-i)):=unI fun _ _ _ _ _ q=>neg_int q
end
def sC:V->V->Bool
 |.non,.non=>true | .non,.int _=>true | .int _,.non=>true | .non,.bl _=>true | .bl _,.non=>true | .non,.str _=>true | .str _,.non=>true
 |.int _,.int _=>true | .bl _,.bl _=>true | .str _,.str _=>true | .byt _,.byt _=>true
 |.int _,.str _=>true | .str _,.int _=>true | .bl _,.str _=>true | .str _,.bl _=>true
 |_,_=>false
def rEq:R2:=fun x y H Q=>sC x y=true/\Q (.bl (decide (x=y))) H
def rNe:R2:=fun x y H Q=>sC x y=true/\Q (.bl (!decide (x=y))) H
theorem wA:decide (V.int i=V.int j)=(i == j):=by
 rw[PJ];simp
theorem xZ:decide (V.bl i=V.bl j)=(i == j):=by
 rw[PJ];simp
theorem wy:decide (V.str i=V.str j)=(i == j):=by
 rw[PJ];simp
theorem wB:decide (V.byt i=V.byt j)=(i.toList == j.toList):=by
 rw[PJ];cases i;cases j;simp
section
variable {X:Cx}{a b c:Expr}{ta tb tc:TE}{pos:Pos}
theorem bG(I:Inv X pins σ H s)(q:Q (.bl k) H)(e:k=k'):EP X pins σ Q (.bool k') s:=by
 subst e;exact⟨.bl k,H,I,rfl,q⟩
theorem IV:OpR X (OM .Eq) rEq:=by
 intro pins s σ H x y v u Q I rx ry h;obtain⟨hs,q⟩:=h
 cases x with
 |non=>
  cases rx
  cases y with
  |non=>cases ry;exact V7 (bG I q (by simp))
  |bl j=>cases ry;exact V8 (bG I q (by simp))
  |int j=>obtain⟨t',rfl⟩:=ry;exact Wk (bG I q (by simp))
  |str j=>obtain⟨t',rfl⟩:=ry;exact Wl (bG I q (by simp))
  |_=>exact absurd (show false=true from hs) Ox
 |bl i=>
  cases rx
  cases y with
  |non=>cases ry;exact V9 (bG I q (by simp))
  |bl j=>cases ry;exact eq_bool (bG I q xZ)
  |str j=>obtain⟨t',rfl⟩:=ry;exact Wa (bG I q (by simp))
  |_=>exact absurd (show false=true from hs) Ox
 |int i=>
  obtain⟨t,rfl⟩:=rx
  cases y with
  |non=>cases ry;exact Wm (bG I q (by simp))
  |int j=>obtain⟨t',rfl⟩:=ry;exact eq_int (bG I q wA)
  |str j=>obtain⟨t',rfl⟩:=ry;exact Wn (bG I q (by simp))
  |_=>exact absurd (show false=true from hs) Ox
 |str i=>
  obtain⟨t,rfl⟩:=rx
  cases y with
  |non=>cases ry;exact Wo (bG I q (by simp))
  |bl j=>cases ry;exact Wb (bG I q (by simp))
  |int j=>obtain⟨t',rfl⟩:=ry;exact Wp (bG I q (by simp))
  |str j=>obtain⟨t',rfl⟩:=ry;exact eq_str (bG I q wy)
  |_=>exact absurd (show false=true from hs) Ox
 |byt i=>
  obtain⟨t,rfl⟩:=rx
  cases y with
  |byt j=>obtain⟨t',rfl⟩:=ry;exact PySem.W.eq_bytes (bG I q wB)
  |_=>exact absurd (show false=true from hs) Ox
 |_=>cases y <;> exact absurd (show false=true from hs) Ox
theorem IQ:OpR X (OM .NotEq) rNe:=by
 intro pins s σ H x y v u Q I rx ry h;obtain⟨hs,q⟩:=h
 cases x with
 |non=>
  cases rx
  cases y with
  |non=>cases ry;exact Wc (bG I q (by simp))
  |bl j=>cases ry;exact Wd (bG I q (by simp))
  |int j=>obtain⟨t',rfl⟩:=ry;exact Wq (bG I q (by simp))
  |str j=>obtain⟨t',rfl⟩:=ry;exact Wr (bG I q (by simp))
  |_=>exact absurd (show false=true from hs) Ox
 |bl i=>
  cases rx
  cases y with
  |non=>cases ry;exact We (bG I q (by simp))
  |bl j=>cases ry;exact ne_bool (bG I q (congrArg not xZ))
  |str j=>obtain⟨t',rfl⟩:=ry;exact Wf (bG I q (by simp))
  |_=>exact absurd (show false=true from hs) Ox
 |int i=>
  obtain⟨t,rfl⟩:=rx
  cases y with
  |non=>cases ry;exact Ws (bG I q (by simp))
  |int j=>obtain⟨t',rfl⟩:=ry;exact ne_int (bG I q (congrArg not wA))
  |str j=>obtain⟨t',rfl⟩:=ry;exact Wt (bG I q (by simp))
  |_=>exact absurd (show false=true from hs) Ox
 |str i=>
  obtain⟨t,rfl⟩:=rx
  cases y with
  |non=>cases ry;exact Wu (bG I q (by simp))
  |bl j=>cases ry;exact Wg (bG I q (by simp))
  |int j=>obtain⟨t',rfl⟩:=ry;exact Wv (bG I q (by simp))
  |str j=>obtain⟨t',rfl⟩:=ry;exact ne_str (bG I q (congrArg not wy))
  |_=>exact absurd (show false=true from hs) Ox
 |byt i=>
  obtain⟨t,rfl⟩:=rx
  cases y with
  |byt j=>obtain⟨t',rfl⟩:=ry;exact PySem.W.ne_bytes (bG I q (congrArg not wB))
  |_=>exact absurd (show false=true from hs) Ox
 |_=>cases y <;> exact absurd (show false=true from hs) Ox
theorem IR:OpR X (OM .Lt) (rI0 fun i j=>.bl (decide (i<j))):=oR fun _ _ _ _ _ _ _ q=>lt_int q
theorem IS:OpR X (OM .LtE) (rI0 fun i j=>.bl (decide (i<=j))):=oR fun _ _ _ _ _ _ _ q=>le_int q
theorem IT:OpR X (OM .Gt) (rI0 fun i j=>.bl (decide (j<i))):=oR fun _ _ _ _ _ _ _ q=>gt_int q
theorem IU:OpR X (OM .GtE) (rI0 fun i j=>.bl (decide (j<=i))):=oR fun _ _ _ _ _ _ _ q=>ge_int q
theorem op_in_str:OpR X (OM .In) (fun x y H Q=>∃i j,x=.str i/\y=.str j/\Q (.bl (!(Pd j i 0 j.length 1).isEmpty)) H):=by
 intro pins s σ H x y v u Q I rx ry h;obtain⟨i,j,rfl,rfl,q⟩:=h;obtain⟨t,rfl⟩:=rx;obtain⟨t',rfl⟩:=ry;exact in_str (bG I q rfl)
theorem G3:OpR X (OM .Is) (fun x y H Q=>y=.non/\Q (.bl (decide (x=.non))) H):=by
 intro pins s σ H x y v u Q I rx ry h;obtain⟨rfl,q⟩:=h;cases ry;refine is_none_gen (bG I q ?_)
 cases x <;> first
  |(cases rx;rfl)
  |(obtain⟨t,rfl⟩:=rx;rfl)
theorem op_notin_str:OpR X (OM .NotIn) (fun x y H Q=>∃i j,x=.str i/\y=.str j/\Q (.bl (!(!(Pd j i 0 j.length 1).isEmpty))) H):=by
 intro pins s σ H x y v u Q I rx ry h;obtain⟨i,j,rfl,rfl,q⟩:=h;obtain⟨t,rfl⟩:=rx;obtain⟨t',rfl⟩:=ry;exact notIn_str (bG I q rfl)
theorem OpR.or(h:OpR X f r)(h':OpR X f r'):OpR X f (fun x y H Q=>r x y H Q\/r' x y H Q):=by
 intro pins s σ H x y v u Q I rx ry q
 rcases q with q|q
 .exact h pins s σ H x y v u Q I rx ry q
 .exact h' pins s σ H x y v u Q I rx ry q
theorem rD(b:Expr)(h:op≠.In:=by decide)(h2:op≠.NotIn:=by decide):QA op b=false:=by
 have e1:(op == CmpOp.In)=false:=by cases op <;> first|rfl|exact absurd rfl h
 have e2:(op == CmpOp.NotIn)=false:=by cases op <;> first|rfl|exact absurd rfl h2
 cases b <;> simp[QA,e1,e2]
theorem EQ(ho:OpR X (OM op) r)(ha:PE X a ta)(hb:PE X b tb)(hm:QA op b=false):PE X (.Compare a [op] [b] pos) (tOp r ta tb):=by
 intro pins s σ H Q I h;exact wpAny_Compare1 (sI ha hb I h fun v u s2 x y H2 I2 rx ry q=>ho pins s2 σ H2 x y v u Q I2 rx ry q) hm
def rS(t:TE):TT:=fun σ H Q=>t σ H fun x H'=>∃k,x=.bl k/\Q k H'
theorem ED(ho:OpR X (OM op) r)(ha:PE X a ta)(hb:PE X b tb)(hm:QA op b=false):PT X (.Compare a [op] [b] pos) (rS (tOp r ta tb)):=by
 intro pins s σ H Q I h
 refine TK (thn (ha pins s σ H _ I h) fun v s1 ⟨x,H1,I1,r1,q1⟩=>thn (hb pins s1 σ H1 _ I1 q1) fun u s2 ⟨y,H2,I2,r2,q2⟩=>
  thn (ho pins s2 σ H2 x y v u _ I2 r1 r2 q2) fun c s3 ⟨z,H3,I3,r3,k,e,q3⟩=>?_) hm
 subst e;cases r3;exact Pz ⟨H3,I3,q3⟩
def q8(r r':R2)(ta tb tc:TE):TE:=fun σ H Q=>ta σ H fun x H1=>tb σ H1 fun y H2=>r x y H2 fun z H3=>∃k,z=.bl k /\
 (if k=true then tc σ H3 fun w' H4=>r' y w' H4 Q else Q (.bl false) H3)
theorem CK(ho:OpR X (OM op) r)(ho':OpR X (OM op') r')(ha:PE X a ta)(hb:PE X b tb)(hc:PE X c tc)
  (hm:Vf [op,op'] [b,c]=false:=by with_unfolding_all rfl):PE X (.Compare a [op,op'] [b,c] pos) (q8 r r' ta tb tc):=by
 intro pins s σ H Q I h
 refine Compare_chain (thn (ha pins s σ H _ I h) fun v s1 ⟨x,H1,I1,r1,q1⟩=>chain_link (thn (hb pins s1 σ H1 _ I1 q1) fun u s2 ⟨y,H2,I2,r2,q2⟩=>
  thn (ho pins s2 σ H2 x y v u _ I2 r1 r2 q2) fun d s3 ⟨z,H3,I3,r3,k,e,q3⟩=>?_)) hm
 subst e;cases r3;refine Pz ?_
 cases k with
 |false=>exact ite_ff ⟨.bl false,H3,I3,rfl,q3⟩
 |true=>exact ite_tt (chain_last (thn (hc pins s3 σ H3 _ I3 q3) fun w' s4 ⟨z',H4,I4,r4,q4⟩=>ho' pins s4 σ H4 y z' u w' Q I4 r2 r4 q4))
theorem CA(ho:OpR X (OM op) r)(ho':OpR X (OM op') r')(ha:PE X a ta)(hb:PE X b tb)(hc:PE X c tc)
  (hm:Vf [op,op'] [b,c]=false:=by with_unfolding_all rfl):PT X (.Compare a [op,op'] [b,c] pos) (rS (q8 r r' ta tb tc)):=by
 intro pins s σ H Q I h
 refine isTrue_chain (thn (ha pins s σ H _ I h) fun v s1 ⟨x,H1,I1,r1,q1⟩=>test_link (thn (hb pins s1 σ H1 _ I1 q1) fun u s2 ⟨y,H2,I2,r2,q2⟩=>
  thn (ho pins s2 σ H2 x y v u _ I2 r1 r2 q2) fun d s3 ⟨z,H3,I3,r3,k,e,q3⟩=>?_)) hm
 subst e;cases r3;refine Pz ?_
 cases k with
 |false=>
  obtain⟨k',e',q'⟩:=q3;cases e';exact ite_ff ⟨H3,I3,q'⟩
 |true=>
  refine ite_tt (test_last (thn (hc pins s3 σ H3 _ I3 q3) fun w' s4 ⟨z',H4,I4,r4,q4⟩=>thn (ho' pins s4 σ H4 y z' u w' _ I4 r2 r4 q4) fun d' s5 ⟨z2,H5,I5,r5,k2,e2,q5⟩=>?_));subst e2;cases r5;exact Pz ⟨H5,I5,q5⟩
def sJ(K:Frag)(x:V)(H:Hp)(k:Bool):Prop:=
 match x with
 |.non=>k=false
 |.bl b=>k=b
 |.int i=>k=(i != 0)
 |.str y=>y.length<=Om/\k=((y.length:Int) != 0)
 |.byt y=>y.size<=Om/\k=((y.size:Int) != 0)
 |.ref p=>(∃xs,SqL K H p xs/\k = !xs.isEmpty)\/(∃xs,SqT K H p xs/\k = !xs.isEmpty)\/∃kvs,H p=some (.dK kvs)/\k = !kvs.isEmpty
 |_=>False
theorem A3{κ:Type}{kvs:List (κ×V)}{vs:List (κ×Oa)}(r:KV kvs vs):(!vs.isEmpty) = !kvs.isEmpty:=by cases r <;> rfl
theorem tQ(r:Vals xs its):(!its.toArray.isEmpty) = !xs.isEmpty:=by cases r <;> simp
theorem iO:(Om:Nat)<2^63:=by rw[Vt];decide
theorem Gq:Ke X (fun x H Q=>∃k,sJ X.K x H k/\Q k H):=by
 intro pins s σ H x v Q I rx h;obtain⟨k,e,q⟩:=h;have hl:=iO;have hs:Om=16777216:=Vt
 cases x with
 |non=>
  cases rx;have e':k=false:=e;subst e';exact truthy_none ⟨H,I,q⟩
 |bl b=>
  cases rx;have e':k=b:=e;subst e';exact Pz ⟨H,I,q⟩
 |int i=>
  obtain⟨t,rfl⟩:=rx;have e':k=(i != 0):=e;subst e';exact PySem.P.truthy_int ⟨H,I,q⟩
 |str y=>
  obtain⟨t,rfl⟩:=rx;obtain⟨hy,e'⟩:y.length<=Om/\k=((y.length:Int) != 0):=e;subst e';exact PySem.P.truthy_str (by omega) ⟨H,I.tok _,q⟩
 |byt y=>
  obtain⟨t,rfl⟩:=rx;obtain⟨hy,e'⟩:y.size<=Om/\k=((y.size:Int) != 0):=e;subst e';exact PySem.W.truthy_bytes (by omega) ⟨H,I.tok _,q⟩
 |ref p=>
  cases rx;have e':(∃xs,SqL X.K H p xs/\k = !xs.isEmpty)\/(∃xs,SqT X.K H p xs/\k = !xs.isEmpty)\/∃kvs,H p=some (.dK kvs)/\k = !kvs.isEmpty:=e
  rcases e' with⟨xs,hx,e'⟩|⟨xs,hx,e'⟩|⟨kvs,hx,e'⟩
  .subst e'
   obtain⟨its,r,pl,hz⟩:=I.list hx;have hlen:=r.length;exact wpAny_truthy_list pl.isList (by simp only[Os];omega) ⟨H,I.tok _,by rw[tQ r];exact q⟩
  .subst e'
   obtain⟨its,r,pl,hz⟩:=I.tuple hx;have hlen:=r.length;exact truthy_tuple pl (by simp only[Os];omega) ⟨H,I.tok _,by rw[tQ r];exact q⟩
  .subst e'
   obtain⟨hz,hS,vs,r,m⟩:kvs.length<=Om/\(p == PN)=false/\∃vs,KV kvs vs/\s.heap.DictOf (bE X.prog X.w) p vs:=I.hok p _ hx;have hlen:kvs.length=vs.length:=Qy r;exact wpAny_truthy_dict hS m (by omega) ⟨H,I.tok _,by rw[A3 r];exact q⟩
 |_=>exact(show False from e).elim
theorem Cz(ha:PE X a ta)(he:∀whole,VP a X.env whole=(do let v ←whole;WN a.pos;Te [v] (truthy v))) :
  PT X a (fun σ H Q=>ta σ H fun x H'=>∃k,sJ X.K x H' k/\Q k H'):=by
 intro pins s σ H Q I h;exact isTrue_plain (thn (ha pins s σ H _ I h) fun v s1 ⟨x,H1,I1,r1,q1⟩=>Gq pins s1 σ H1 x v Q I1 r1 q1) (he _)
theorem op_add_str:OpR X (PY .Add) (fun x y H Q=>∃i j,x=.str i/\y=.str j/\i.length+j.length<=Om/\Q (.str (i++j)) H):=by
 intro pins s σ H x y v u Q I rx ry h;obtain⟨i,j,rfl,rfl,hz,q⟩:=h;obtain⟨t,rfl⟩:=rx;obtain⟨t',rfl⟩:=ry;exact add_str (fun t' tk=>⟨.str (i++j),H,I.tok _,⟨_,rfl⟩,q⟩) hz
theorem vals1(r:Vals [x] us):∃u,us=[u]/\RelV x u:=by
 cases r with
 |cons r1 r2=>cases r2;exact⟨_,rfl,r1⟩
theorem vals2(r:Vals [x,y] us):∃u w',us=[u,w']/\RelV x u/\RelV y w':=by
 cases r with
 |cons r1 r2=>
  cases r2 with
  |cons r3 r4=>cases r4;exact⟨_,_,rfl,r1,r3⟩
theorem DZ:CallR X (.builtin "abs") (fun xs H Q=>∃i,xs=[.int i]/\Q (.int (if i<0 then -i else i)) H):=by
 intro pins s σ H xs us Q I r h;obtain⟨i,rfl,q⟩:=h;obtain⟨u,rfl,t,rfl⟩:=vals1 r;exact call_abs_int fun u tk=>⟨.int (if i<0 then -i else i),H,I.tok _,⟨_,rfl⟩,q⟩
theorem call_int1:CallR X (.type "int") (fun xs H Q=>(∃i,xs=[.int i]/\Q (.int i) H)\/∃k,xs=[.bl k]/\Q (.int (if k then 1 else 0)) H):=by
 intro pins s σ H xs us Q I r h
 rcases h with⟨i,rfl,q⟩|⟨k,rfl,q⟩
 .obtain⟨u,rfl,t,rfl⟩:=vals1 r
  exact call_int_int ⟨.int i,H,I,⟨_,rfl⟩,q⟩
 .obtain⟨u,rfl,r1⟩:=vals1 r
  cases r1;exact call_int_bool ⟨.int (if k then 1 else 0),H,I.tok _,⟨_,rfl⟩,q⟩
theorem Aq:CallR X (.type "str") (fun xs H Q=>∃i,xs=[.int i]/\i.natAbs.log2<1920/\Q (.str (toString i)) H):=by
 intro pins s σ H xs us Q I r h;obtain⟨i,rfl,hz,q⟩:=h;obtain⟨u,rfl,t,rfl⟩:=vals1 r;exact PySem.P.str_of_int hz ⟨.str _,H,I.tok _,⟨_,rfl⟩,q⟩
end
structure ObjM(h:Heap)(x dx C:Addr)(mA:Str->Option Oa):Prop where
 obj:h.get? x=some (Tz C dx)
 ns:h.Ns1 dx mA
 ne:dx≠x
theorem BH{h:Heap}{mA:Str->Option Oa}(n:h.Ns1 dx mA):∃od,h.get? dx=some od/\∀name,TX name od=some (mA name):=by
 obtain⟨o,es,ep,ho,hd,hk,_,hm⟩:=n;refine⟨o,ho,fun name=>?_⟩;have e:=hm name;unfold nsFind findBy at e;rw[←Array.find?_toList] at e;unfold TX;rw[hd];dsimp only;split
 .rename_i y q
  rw[q] at e;exact congrArg some e
 .rename_i q
  rw[q] at e
  have a:es.toList.any (·.refKey)=false:=by
   rw[List.any_eq_false];intro y hy;obtain⟨z,t,hkey⟩:=hk y (Array.mem_toList_iff.mp hy);simp[DictEntry.refKey,hkey]
  have a':¬es.toList.any (·.refKey)=true:=by rw[a];exact Ox
  rw[if_neg a'];exact congrArg some e
theorem ObjM.look(I:ObjM h x dx C mA):∃od,PySem.W.InstAt h x (Tz C dx) C (some od)/\∀name,TX name od=some (mA name):=
 let ⟨od,ho,hl⟩:=BH I.ns
 ⟨od,⟨I.obj,rfl,rfl,ho⟩,hl⟩
section
variable {prog:OB}{w:OV}{A:O5}{E:Oa->Od->Prop}{s:Od}{K:Frag}{x dx C f:Addr}{mA:Str->Option Oa}{name:Str}{v:Oa}
end
theorem RelO.some_of(r:RelO (some v) o):∃u,o=some u/\RelV v u:=by
 cases o with
 |none=>exact(show False from r).elim
 |some u=>exact⟨u,rfl,r⟩
section
variable {P:OB}{w:OV}{H H':Hp}{h h':Heap}{a C dx:Addr}{fs fs':List (Str×V)}
theorem Fc(hok:HOk P w H h)(e:H a=some (.ins C dx fs)):∃mA,ObjM h a dx C mA/\(∀f,RelO (fs.lookup f) (mA f))/\WK mA (fs.map (·.1))/\fs.length<=1000/\H dx=some (.own a):=by
 obtain⟨d,z,ne,ob,mA,n,r,q⟩:=(show ObjOk P w H h a (.ins C dx fs) from hok a _ e);exact⟨mA,⟨ob,n,ne⟩,r,q,z,d⟩
end
structure Cls(K:Frag)(C:Addr):Prop where
 pg:Vg K C Str.empty=true
 hd:Sz K C=true
 po:PySem.W.plainOver K C=true
 sa:Pv K (.ref C) "__setattr__"=some (some (.builtin "object.__setattr__"))
theorem Cls.get{K:Frag}{C:Addr}(c:Cls K C)(f:Str):Vg K C f=true:=c.pg
structure Con(K:Frag)(C:Addr)(f:Str)(v:V)(u:Oa):Prop where
 at_:Pv K (.ref C) f=some (some u)
 rel:RelV v u
 get:SA K u "__get__"=some none
 cp:PySem.W.copiedNames.contains f=false
structure Meth(K:Frag)(C:Addr)(m:Str)(f:Addr):Prop where
 at_:Pv K (.ref C) m=some (some (.ref f))
 fn:R5 K (.ref f)=true
 kp:PC K (.ref f)=true
section
variable {X:Cx}{pins:List (Addr×Obj)}{σ:St}{H:Hp}{s:Od}{a C dx:Addr}{fs:List (Str×V)}{f:Str}{v:V}{A:O5}{E:Oa->Od->Prop}
end
section
variable {X:Cx}{o e value:Expr}{f:Str}{pos pos' tpos:Pos}{ta tv:TE}
end
section
variable {X:Cx}{pins:List (Addr×Obj)}{σ:St}{H:Hp}{s:Od}{A:O5}{E:Oa->Od->Prop}{Q:Oa->Od->Prop}{c:Oa}{b:Bool}
inductive TyOf(K:Frag)(H:Hp):V->Oa->Prop where
 |non:TyOf K H .non (.type "NoneType")
 |bl (x:Bool):TyOf K H (.bl x) (.type "bool")
 |int (i:Int):TyOf K H (.int i) (.type "int")
 |str (x:Str):TyOf K H (.str x) (.type "str")
 |flt (x:UInt64):TyOf K H (.flt x) (.type "float")
 |lst {a:Addr}{xs:List V} (e:H a=some (.lst xs)):TyOf K H (.ref a) (.type "list")
 |frz {a:Addr}{o:Obj}{xs:List V} (e:H a=some (.frz o (.lst xs))):TyOf K H (.ref a) (.type "list")
 |tup {a:Addr}{xs:List V} (e:H a=some (.tup xs)):TyOf K H (.ref a) (.type "tuple")
 |dK {a:Addr}{kvs:List (Key×V)} (e:H a=some (.dK kvs)):TyOf K H (.ref a) (.type "dict")
 |dT {a:Addr}{kvs:List (List Key×V)} (e:H a=some (.dT kvs)):TyOf K H (.ref a) (.type "dict")
 |ins {a C dx:Addr}{fs:List (Str×V)} (e:H a=some (.ins C dx fs)) (cl:Cls K C) (ha:Pv K (.ref C) "__class__"=some (some (.builtin "object.__class__")))
   (hn:SA K (.builtin "object.__class__") "__get__"=some (some (.builtin "getset_descriptor.__get__"))) (htk:VC K (.builtin "object.__class__")=some true)
   (hm:UB K C (.type "object")=some true):TyOf K H (.ref a) (.ref C)
theorem mK(I:Inv X pins σ H s)(rx:RelV x u)(ty:TyOf X.K H x t)(e:PD X.K t c=some b)(h:∀tk,Q (.bool b) { s with toks:=tk }) :
  OU (OQ X.prog X.w) A (call (.builtin "isinstance") [u,c]) Q E s:=by
 cases ty with
 |non=>cases (show u=Sd from rx);exact Pj UT I.kIn P4 e (fun z=>nomatch z) h
 |bl y=>cases (show u=Se y from rx);exact Pj UU I.kIn P4 e (fun z=>nomatch z) h
 |int i=>obtain⟨t,q⟩:=(show ∃t,u=R9 i t from rx);cases q;exact Pj Vh I.kIn P4 e (fun z=>nomatch z) h
 |str y=>obtain⟨t,q⟩:=(show ∃t,u=RL y t from rx);cases q;exact Pj Vi I.kIn P4 e (fun z=>nomatch z) h
 |flt y=>obtain⟨t,q⟩:=(show ∃t,u=WY y t from rx);cases q;exact Pj PySem.W.kitx_float I.kIn P4 e (fun z=>nomatch z) h
 |@lst a xs ea=>
  cases (show u=OZ a from rx);obtain⟨_,_,n,_,h1⟩:=(show ObjOk X.prog X.w H s.heap a (.lst xs) from I.hok a _ ea);exact Pj Ry I.kIn ⟨_,h1,rfl⟩ e (fun z=>nomatch z) h
 |@frz a ob xs ea=>
  cases (show u=OZ a from rx);obtain⟨_,_,_,n,_,h1⟩:=(show ObjOk X.prog X.w H s.heap a (.frz ob (.lst xs)) from I.hok a _ ea);exact Pj Ry I.kIn ⟨_,h1,rfl⟩ e (fun z=>nomatch z) h
 |@tup a xs ea=>
  cases (show u=OZ a from rx);obtain⟨_,_,_,p⟩:=(show ObjOk X.prog X.w H s.heap a (.tup xs) from I.hok a _ ea);obtain⟨o,h1,h2,_⟩:=p;exact Pj Sj I.kIn ⟨o,h1,h2⟩ e (fun z=>nomatch z) h
 |@dK a kvs ea=>
  cases (show u=OZ a from rx);obtain⟨_,_,vs,_,p⟩:=(show ObjOk X.prog X.w H s.heap a (.dK kvs) from I.hok a _ ea);obtain⟨o,es,ep,h1,h2,_⟩:=p;exact Pj Rz I.kIn ⟨o,h1,h2.1⟩ e (fun z=>nomatch z) h
 |@dT a kvs ea=>
  cases (show u=OZ a from rx);obtain⟨_,_,xs,_,o,es,ep,h1,h2,_⟩:=(show ObjOk X.prog X.w H s.heap a (.dT kvs) from I.hok a _ ea);exact Pj Rz I.kIn ⟨o,h1,h2.1⟩ e (fun z=>nomatch z) h
 |@ins a C dx fs ea cl ha hn htk hm=>
  cases (show u=OZ a from rx);obtain⟨mA,O,_⟩:=Fc I.hok ea;obtain⟨od,J,_⟩:=O.look;exact Pj (PySem.W.kitx_own (cl.get _) cl.hd ha hn htk hm) I.kIn J e (fun z=>nomatch z) h
end
structure Room(k:Nat)(A:O5):Prop where
 hd:A.handled=none
 dp:A.depth+3*k+5<recursionLimit
 un:A.units+16*k+200<TY
 gd:A.guards=some []
theorem Room.mono(r:Room k A)(h:j<=k):Room j A:=⟨r.hd,by have:=r.dp;omega,by have:=r.un;omega,r.gd⟩
theorem Room.deeper(r:Room (k+1) A)(env:Env):Room k (A.deeper env):=⟨r.hd,by have:=r.dp;show A.depth+1+3*k+5<_;omega,by have:=r.un;show A.units+3+16*k+200<_;omega,r.gd⟩
theorem Room.depth(r:Room k A):A.depth<recursionLimit:=by have:=r.dp;omega
def zi:TA:=fun _ H Q=>Q [] H
def yo(ta:TE)(tr:TA):TA:=fun σ H Q=>ta σ H fun x H1=>tr σ H1 fun xs H2=>Q (x::xs) H2
section
variable {X:Cx}{e:Expr}{es:List Expr}{te:TE}{t:TA}{pos:Pos}
theorem b7:PA X [] zi:=fun _ _ _ _ H Q I h=>SD ⟨[],H,I,.nil,h⟩
theorem bY(ha:PE X e te)(hr:PA X es t)(hs:Oh (e::es) X.env=(false,eval e X.env)::Oh es X.env:=by rfl):PA X (e::es) (yo te t):=by
 intro pos pins s σ H Q I h;rw[hs];show OU _ _ (spliced ((false,eval e X.env)::Pb pos (Oh es X.env))) _ _ s;refine Rk (thn (ha pins s σ H _ I h) fun u s1 ⟨x,H1,I1,r1,q1⟩=>?_);exact thn (hr pos pins s1 σ H1 _ I1 q1) fun us s2 ⟨xs,H2,I2,r2,q2⟩=>⟨x::xs,H2,I2,.cons r1 r2,q2⟩
def JI(t:TA):TE:=fun σ H Q=>t σ H fun xs H1=>xs.length<=Om/\∀p,H1 p=none->Q (.ref p) (upd H1 p (.tup xs))
def JL(t:TA):TE:=fun σ H Q=>t σ H fun xs H1=>xs.length<=Om/\∀p,H1 p=none->Q (.ref p) (upd H1 p (.lst xs))
theorem xm{x1}(h:PA X es t):PE X (.Tuple es x1 pos) (JI t):=by
 intro pins s σ H Q I hq;refine wpAny_Tuple_spliced (thn (h pos pins s σ H _ I hq) fun us s1 ⟨xs,H1,I1,r,z,q⟩=>⟨by rw[←r.length];exact z,?_⟩);have hf:H1 s1.heap.objs.size=none:=I1.hok.fresh (Ol _);refine⟨.ref s1.heap.objs.size,upd H1 s1.heap.objs.size (.tup xs),I1.laid (t':=s1.toks) (fun b u e=>Of _ e) (Ol _) ?_,rfl,q _ hf⟩;exact⟨z,us,r,⟨_,OC _ rfl,rfl,_,rfl⟩⟩
theorem jH(h:PA X es t):PE X (.List es pos) (JL t):=by
 intro pins s σ H Q I hq;refine wpAny_List_spliced (thn (h pos pins s σ H _ I hq) fun us s1 ⟨xs,H1,I1,r,z,q⟩=>⟨by rw[←r.length];exact z,?_⟩);have hf:H1 s1.heap.objs.size=none:=I1.hok.fresh (Ol _);refine⟨.ref s1.heap.objs.size,upd H1 s1.heap.objs.size (.lst xs),I1.laid (t':=s1.toks) (fun b u e=>Of _ e) (Ol _) ?_,rfl,q _ hf⟩;exact⟨z,us,0,r,OC _ rfl⟩
end
abbrev Sp:=List V->Hp->VK->XK->Prop
abbrev CXT:=List Env->Hp->Od->XK->Oa->Od->Prop
structure Env0(P:OB)(w:OV)(K:Frag)(mg:Str->Option Oa)(base:Heap)(A:O5)(outer:List Env)(s:Od)(H:Hp):Prop where
 frames:A.frames=some outer
 mod:Mod K mg base
 bs:∀b o,base.get? b=some o->s.heap.get? b=some o/\H b=none
 bsz:base.objs.size<=s.heap.objs.size
 funs:s.heap.FunFrames base outer
 frf:∀b∈frs outer,H b=none
 hok:HOk P w H s.heap
 bare:Sx s.gens
def CE(outer:List Env)(P:OB)(w:OV)(H:Hp)(s:Od)(Q:VK)(u:Oa)(s':Od):Prop:=∃v H',s'.os=s.os/\Sx s'.gens/\Un (frs outer) [] H H' s.heap s'.heap/\HOk P w H' s'.heap/\RelV v u/\Q v H'
def CR(CX:CXT)(outer:List Env)(P:OB)(w:OV)(H:Hp)(s:Od)(Q:VK)(E:XK)(r:WO)(s':Od):Prop:=
 match r with
 |.ok (.ret u)=>CE outer P w H s Q u s'
 |.ok _=>False
 |.error e=>CX outer H s E e s'
structure FnOk(P:OB)(w:OV)(K:Frag)(mg:Str->Option Oa)(base:Heap)(CX:CXT)(k:Nat)(f:Addr)(fd:PZ)(ps:List Str)(sp:Sp):Prop where
 len:∀vs H Q E,sp vs H Q E->vs.length=ps.length
 run:∀(A:O5) (outer:List Env) (s:Od) (H:Hp) (args:Args) (us:List Oa) (vs:List V) (Q:VK) (E:XK),Room k A->Env0 P w K mg base A outer s H->Uj s fd args (ps.zip us)->Vals vs us->sp vs H Q E ->
  UV (OQ P w) A (.call (.ref f) args) (CR CX outer P w H s Q E) s
section
variable {X:Cx}{pins:List (Addr×Obj)}{σ:St}{H:Hp}{s s':Od}
theorem Inv.env0(I:Inv X pins σ H s):Env0 X.prog X.w X.K X.mg X.base X.A X.stack s H:=⟨I.ok.frames,I.ok.mod,I.bs,OX I.ok.bsz I.sz,I.stack,I.stkFree,I.hok,I.bare⟩
theorem Inv.after(I:Inv X pins σ H s)(h:CE X.stack X.prog X.w H s Q u s'):EP X pins σ Q u s':=by
 obtain⟨v,H',os,bare,un,hok,r,q⟩:=h;obtain⟨hh,g,d,t,os'⟩:=s';obtain rfl:os'=s.os:=os;exact⟨v,H',I.call (h':=hh) (g':=g) (d':=d) (t':=t) (ch:=[]) un hok bare (fun b z=>absurd z (by simp)),r,q⟩
end
def yr(sp:Sp)(dvs:List V)(E:XK)(t:TA):TE:=fun σ H Q=>t σ H fun vs H1=>sp (vs++dvs) H1 Q E
def Binds(K:Frag)(fd:PZ)(ps:List Str)(ds:List Oa):Prop:=∀(s:Od) (us:List Oa),K.In s.heap->(us++ds).length=ps.length->Uj s fd ⟨us,[]⟩ (ps.zip (us++ds))
theorem Binds.all{K:Frag}{fd:PZ}{ps:List Str}(h:∀us:List Oa,us.length=ps.length->SQ fd ⟨us,[]⟩=pure (ps.zip us)):Binds K fd ps []:=fun s us _ hl=>by
 rw[PV] at hl ⊢;exact .of_eq (h us hl)
def rQ(CX:CXT)(X:Cx)(E:XK):Prop:=∀(pins:List (Addr×Obj)) (σ:St) (H:Hp) (s:Od) (e:Oa) (s':Od),Inv X pins σ H s->CX X.stack H s E e s'->X.xe e s'
section
variable {X:Cx}{CX:CXT}{k:Nat}{f C:Addr}{fd:PZ}{ps:List Str}{sp:Sp}{dvs:List V}{ds:List Oa}{E:XK}{x m:Str}{p pos apos:Pos}{e o:Expr}{es:List Expr}{ta:TE}{t:TA}
theorem GH(F:FnOk X.prog X.w X.K X.mg X.base CX k f fd ps sp)(hr:Room k X.A)(hb:Binds X.K fd ps ds)(hd:Vals dvs ds)(hx:rQ CX X E)
  (I:Inv X pins σ H s) (r:Vals vs us) (h:sp (vs++dvs) H Q E):OU (OQ X.prog X.w) X.A (call (.ref f) us) (EP X pins σ Q) X.xe s:=by
 have r2:Vals (vs++dvs) (us++ds):=r.append hd
 have hl:(us++ds).length=ps.length:=by rw[←r2.length];exact F.len _ _ _ _ h
 refine wpAny_call (UW (F.run X.A X.stack s H ⟨us,[]⟩ (us++ds) (vs++dvs) Q E hr I.env0 (hb s us I.kIn hl) r2 h) fun r s' hq=>?_)
 cases r with
 |error e=>exact hx pins σ H s e s' I hq
 |ok fl=>
  cases fl with
  |ret u=>exact I.after hq
  |next=>exact QM hq
  |brk=>exact QM hq
  |cont=>exact QM hq
theorem ER(F:FnOk X.prog X.w X.K X.mg X.base CX k f fd ps sp)(hr:Room k X.A)(hg:Gl X x)(hm:X.mg x=some (.ref f))(hk:PC X.K (.ref f)=true)(hb:Binds X.K fd ps ds)(hd:Vals dvs ds)(hx:rQ CX X E)
  (ha:PA X (e::es) t) (hdb:(x == ("__debug__" : Str))=false:=by decide) (he:Oh (e::es) X.env=(false,eval e X.env)::Oh es X.env:=by rfl) (hpl:(Pb pos (Oh es X.env)).any (·.1)=false:=by rfl) :
  PE X (.Call (.Name x p) (e::es) [] pos) (yr sp dvs E t):=by
 intro pins s σ H Q I h;refine Sk (wc I hg hm ?_ hdb);refine PySem.W.callWith_K (h₀:=X.base) I.ok.mod.kin hk (thn (ha pos pins s σ H _ I h) fun us s1 ⟨vs,H1,I1,r,q⟩=>⟨I1.kIn,?_⟩) he hpl;exact GH F hr hb hd hx I1 r q
structure Mk(K:Frag)(C f:Addr):Prop where
 makes:PySem.W.makesIn K C=true
 init:Pv K (.ref C) "__init__"=some (some (.ref f))
 fn:R5 K (.ref f)=true
 kp:PC K (.ref C)=true
end
section
variable {X:Cx}{CX:CXT}{k:Nat}{f C:Addr}{fd:PZ}{ps ks:List Str}{sp:Sp}{E:XK}{x m:Str}{p pos apos kpos:Pos}{e o:Expr}{es:List Expr}{kws:List Pq}{te ta:TE}{t tk:TA}{nm:Option Str}
structure KBinds(K:Frag)(fd:PZ)(ps ks:List Str)(g:List Oa->List Oa->List Oa)(gV:List V->List V->List V):Prop where
 to:∀(s:Od) (us ws:List Oa),K.In s.heap->(g us ws).length=ps.length->Uj s fd ⟨us,ks.zip ws⟩ (ps.zip (g us ws))
 rel:∀{vs:List V}{us:List Oa}{zs:List V}{ws:List Oa},Vals vs us->Vals zs ws->Vals (gV vs zs) (g us ws)
variable {g:List Oa->List Oa->List Oa}{gV:List V->List V->List V}
end
structure FnScope(N P:List Str)(sc:Qi):Prop where
 kind:sc.kind=.function
 co:sc.isCoroutine=false
 gen:sc.isGenerator=false
 nd:N.Nodup
 pre:N.take P.length=P
 par:∀x∈P,sc.names.lookup x=some .local\/sc.names.lookup x=some .cell
 nofree:∀y∈sc.names,y.2≠.free
theorem uD{RO:Str->Option QH}:∀{binds:List (Str×Oa)}{m:Str->Option Oa},(∀v,(x,v)∉binds)->VT RO binds m x=m x
 |[],_,_=>rfl
 |(n,v)::r,m,h=>by
  unfold VT;rw[uD fun w hw=>h w (Ob _ hw)];split
  .have:x≠n:=by rintro rfl;exact h v Oc
   simp[this]
  .rfl
theorem uF{RO:Str->Option QH}:∀{binds:List (Str×Oa)}{m:Str->Option Oa},(∀v,(x,v)∉binds)->VU RO binds m x=m x
 |[],_,_=>rfl
 |(n,v)::r,m,h=>by
  unfold VU;rw[uF fun w hw=>h w (Ob _ hw)];split
  .rfl
  .have:x≠n:=by rintro rfl;exact h v Oc
   simp[this]
theorem uE{RO:Str->Option QH}:∀{P:List Str}{vs:List Oa}{i:Nat}{m:Str->Option Oa},P.Nodup->P[i]? = some x->vs[i]? = some v->RO x=some .local ->
  VT RO (P.zip vs) m x=some v
 |[],_,_,_,_,h,_,_=>by simp at h
 |_::_,[],_,_,_,_,h,_=>by simp at h
 |p::P,w::vs,0,m,nd,h1,h2,hk=>by
  simp at h1 h2;subst h1;subst h2;show VT RO ((p,w)::P.zip vs) m p=_;unfold VT;rw[uD fun v hv=>(OR.mp nd).1 (TB hv).1,if_pos hk];simp
 |p::P,w::vs,i+1,m,nd,h1,h2,hk=>by
  show VT RO ((p,w)::P.zip vs) m x=_;unfold VT;exact uE (i:=i) (OR.mp nd).2 (by simpa using h1) (by simpa using h2) hk
theorem uG{RO:Str->Option QH}:∀{P:List Str}{vs:List Oa}{i:Nat}{m:Str->Option Oa},P.Nodup->P[i]? = some x->vs[i]? = some v->RO x≠some .local ->
  VU RO (P.zip vs) m x=some v
 |[],_,_,_,_,h,_,_=>by simp at h
 |_::_,[],_,_,_,_,h,_=>by simp at h
 |p::P,w::vs,0,m,nd,h1,h2,hk=>by
  simp at h1 h2;subst h1;subst h2;show VU RO ((p,w)::P.zip vs) m p=_;unfold VU;rw[uF fun v hv=>(OR.mp nd).1 (TB hv).1,if_neg hk];simp
 |p::P,w::vs,i+1,m,nd,h1,h2,hk=>by
  show VU RO ((p,w)::P.zip vs) m x=_;unfold VU;exact uG (i:=i) (OR.mp nd).2 (by simpa using h1) (by simpa using h2) hk
def start(N:List Str)(vs:List V):St:=vs.map some++OO (N.length-vs.length) none
def ft(CX:CXT)(P:OB)(w:OV)(K:Frag)(mg:Str->Option Oa)(base:Heap)(N:List Str)(qual:Str)(scope:Qi)(f:Addr)(cd:Oa)(A:O5)(outer:List Env)(s:Od)(H:Hp)(E:XK):Cx where
 prog:=P
 w:=w
 K:=K
 mg:=mg
 base:=base
 A:=A.deeper (RP qual scope s.heap.objs.size f cd)
 N:=N
 s₀:=s
 H₀:=H
 env:=RP qual scope s.heap.objs.size f cd
 outer:=outer
 stack:=RP qual scope s.heap.objs.size f cd::outer
 ex:=[]
 calm:=true
 fn:=fun _=>true
 pn:=[]
 xe:=fun e s'=>OU (OQ P w) (A.deeper (RP qual scope s.heap.objs.size f cd)) (leaving (RP qual scope s.heap.objs.size f cd) e) (fun _ s''=>CX outer H s E e s'') (fun e' s''=>CX outer H s E e' s'') s'
theorem vG{sc:Qi}(h:sc.names.lookup x=some .cell):∃c,(WG n sc.names []).lookup x=some c:=by
 have q:=Tg sc.names n [] (.inl h);exact Q8.mp q
theorem BS{CX:CXT}{P:OB}{w:OV}{K:Frag}{mg:Str->Option Oa}{base:Heap}{N ps:List Str}{qual:Str}{scope:Qi}{f:Addr}{cd:Oa}{A:O5}{outer:List Env}{s s1:Od}{H:Hp}{E:XK}{us:List Oa}{vs:List V}
  (S:FnScope N ps scope) (hd:A.handled=none) (e0:Env0 P w K mg base A outer s H) (hl:vs.length=ps.length) (r:Vals vs us)
  (x:InCallC s s.heap.objs.size (VT (RP qual scope s.heap.objs.size f cd).kindOf (ps.zip us) fun _=>none) (WG (s.heap.objs.size+1) scope.names []) (VU (RP qual scope s.heap.objs.size f cd).kindOf (ps.zip us) fun _=>none) s1) :
  Inv (ft CX P w K mg base N qual scope f cd A outer s H E) [] (start N vs) H s1:=by
 have hpl:ps.length<=N.length:=by have:=congrArg SE S.pre;rw[Q3] at this;omega
 obtain⟨h1,tk,rfl,hk⟩:=x.done;have noA:∀b:Addr,b∉(ft CX P w K mg base N qual scope f cd A outer s H E).ex:=fun b z=>absurd (show b∈([]:List Addr) from z) (by simp)
 refine⟨⟨e0.mod,S.kind,rfl,rfl,Ol _,fun y z c h1 h2=>?_,fun y hy=>?_,fun y c _ h=>?_,fun _=>hd,Around.frames_deeper e0.frames,.inr ⟨rfl,rfl⟩,fun b z=>absurd z (noA b),e0.bs,e0.bsz,fun b _ _=>noA b,fun b z=>absurd z (noA b),e0.funs,e0.frf⟩,
  rfl,e0.bare,Un.kept hk,⟨_,x.toInCall.ns,fun i y v h1 h2 h3=>?_⟩,fun y c h=>⟨_,x.cell y c h⟩,e0.hok.fresh (Ol _),fun y c h=>?_,fun p hp=>absurd (show p∈([]:List (Addr×Obj)) from hp) (by simp),e0.hok.kept hk,?_⟩
 .exact name_of_addr x.apart (QG h1) (QG h2)
 .have hy:scope.names.lookup y=some .cell\/scope.names.lookup y=some .free:=hy
  rcases hy with hy|hy
  .exact vG hy
  .exact absurd rfl (S.nofree _ (QG hy))
 .exact QL (x.above y c (QG h))
 .have hi:i<vs.length:=by
   unfold start at h2
   by_cases hi:i<vs.length
   .exact hi
   .rw[Sl (by simpa using hi)] at h2
    rw[List.getElem?_replicate] at h2
    split at h2 <;> cases h2
  have ha:vs[i]? = some v:=by
   unfold start at h2;rw[ON (by simpa using hi),Ph] at h2
   cases e:vs[i]? with
   |none=>rw[e] at h2;cases h2
   |some a=>rw[e] at h2;cases h2;rfl
  obtain⟨u,hu,rv⟩:=r.get ha
  have hp:ps[i]? = some y:=by
   rw[←S.pre,List.getElem?_take_of_lt (by omega)];exact h1
  have ndP:ps.Nodup:=by rw[←S.pre];exact S.nd.sublist (UX _ _)
  refine⟨u,rv,?_⟩
  rcases S.par y (O6 hp) with k|k
  .exact .inl ⟨k,uE ndP hp hu k⟩
  .obtain⟨c,e⟩:=vG (n:=s.heap.objs.size+1) k
   refine .inr ⟨.inl k,c,e,?_⟩;have q:=x.cell y c e;rw[uG ndP hp hu (by show scope.names.lookup y≠_;rw[k];decide)] at q;exact q
 .exact e0.hok.fresh (QL (x.above y c (QG h)))
 .unfold start
  show _=N.length;rw[OE,OS,List.length_replicate];omega
theorem Jp{CX:CXT}{P:OB}{w:OV}{K:Frag}{mg:Str->Option Oa}{base:Heap}{k:Nat}{f:Addr}{name qual:Str}{params:Arguments}{body:List Stmt}{scope:Qi}{dV kV doc pm cdv ct oc:Oa}{an od:Option Addr}
  {osl:Array (Option Oa)}{N ps:List Str}{sp:Sp} (lk:K.lookup f=some ⟨oc,od,.func (PB name qual params body scope dV kV doc pm an cdv ct),osl⟩) (hcd:QW K cdv qual=true) (S:FnScope N ps scope)
  (len:∀vs H Q E,sp vs H Q E->vs.length=ps.length)
  (hbody:∀(A:O5) (outer:List Env) (s:Od) (H:Hp) (vs:List V) (Q:VK) (E:XK),Room k (A.deeper (RP qual scope s.heap.objs.size f cdv))->sp vs H Q E ->
   ∃t,PSs (ft CX P w K mg base N qual scope f cdv A outer s H E) body t/\t { nx:=fun _ H'=>Q .non H',rt:=Q } (start N vs) H) :
  FnOk P w K mg base CX (k+1) f (PB name qual params body scope dV kV doc pm an cdv ct) ps sp:=by
 refine⟨len,fun A outer s H args us vs Q E hr e0 hb r hsp=>?_⟩;have hl:=len _ _ _ _ hsp;have KX:K.In s.heap:=e0.mod.kin.keeps fun b o e=>(e0.bs b o e).1;have lim:s.heap.NoLimit:=e0.mod.nolimit.keeps fun b o e=>(e0.bs b o e).1
 have hkind:∀y∈ps.zip us,scope.names.lookup y.1=some .local\/(scope.names.lookup y.1=some .cell/\((WG (s.heap.objs.size+1) scope.names []).lookup y.1).isSome=true):=fun⟨n,v⟩ hy=>by
  rcases S.par n (TB hy).1 with q|q
  .exact .inl q
  .exact .inr ⟨q,Tg _ _ _ (.inl q)⟩
 refine codeAny_call_function hr.depth (KX _ _ lk) rfl S.co S.gen rfl (PySem.W.codeRec_of KX hcd) (hb _ _ _ _ ?_);refine wpAny_newFunctionEnv_cells S.kind hkind fun env he s1 x=>?_;subst he;refine⟨lim.keeps x.toInCall.keep,codeAny_func ?_⟩;obtain⟨t,ht,hq⟩:=hbody A outer s H vs Q E (hr.deeper _) hsp;have I:Inv (ft CX P w K mg base N qual scope f cdv A outer s H E) [] (start N vs) H s1:=BS S hr.hd e0 hl r x;refine Qn (ht [] s1 (start N vs) H _ I hq) (fun fl s' hs=>?_) fun e s' hs=>hs
 have fin:∀{σ':St}{H':Hp}{v:V}{u:Oa},Inv (ft CX P w K mg base N qual scope f cdv A outer s H E) [] σ' H' s'->RelV v u->Q v H'->CE outer P w H s Q u s':=
  fun {σ' H' v u} J rv q=>⟨v,H',J.os,J.bare,J.base,J.hok,rv,q⟩
 cases fl with
 |ret u=>
  obtain⟨v,σ',H',J,rv,q⟩:=hs;exact fin J rv q
 |next=>
  obtain⟨σ',H',J,q⟩:=hs;exact fin (v:=V.non) (u:=Sd) J rfl q
 |brk=>
  obtain⟨_,_,_,q⟩:=hs;exact QM q
 |cont=>
  obtain⟨_,_,_,q⟩:=hs;exact QM q
section
variable {X:Cx}{x:Str}{p pos:Pos}{e:Expr}{es:List Expr}{t:TA}{id T:String}{r:List V->Hp->VK->Prop}
def tCB(r:List V->Hp->VK->Prop)(t:TA):TE:=fun σ H Q=>t σ H fun vs H1=>r vs H1 Q
theorem kJ(hc:CallR X (.builtin id) r)(hg:Gl X x)(hm:X.mg x=none)(hv:Qh x=some (.builtin id))(ha:PA X (e::es) t)(hn:x≠"__name__":=by decide)(hdb:(x == ("__debug__" : Str))=false:=by decide)
  (he:Oh (e::es) X.env=(false,eval e X.env)::Oh es X.env:=by rfl) (hpl:(Pb pos (Oh es X.env)).any (·.1)=false:=by rfl):PE X (.Call (.Name x p) (e::es) [] pos) (tCB r t):=by
 intro pins s σ H Q I h;refine Sk (nY I hg hm hv ?_ hn hdb);exact Vj (thn (ha pos pins s σ H _ I h) fun us s1 ⟨vs,H1,I1,r1,q1⟩=>hc pins s1 σ H1 vs us Q I1 r1 q1) he hpl
theorem jn(hc:CallR X (.type T) r)(hg:Gl X x)(hm:X.mg x=none)(hv:Qh x=some (.type T))(ha:PA X (e::es) t)(hn:x≠"__name__":=by decide)(hdb:(x == ("__debug__" : Str))=false:=by decide)
  (he:Oh (e::es) X.env=(false,eval e X.env)::Oh es X.env:=by rfl) (hpl:(Pb pos (Oh es X.env)).any (·.1)=false:=by rfl):PE X (.Call (.Name x p) (e::es) [] pos) (tCB r t):=by
 intro pins s σ H Q I h;refine Sk (nY I hg hm hv ?_ hn hdb);exact R4 (thn (ha pos pins s σ H _ I h) fun us s1 ⟨vs,H1,I1,r1,q1⟩=>hc pins s1 σ H1 vs us Q I1 r1 q1) he hpl
end
end L2
namespace HT
open PySem PyProof.Rows
section
open PySem.SeqAt
open PySem.AutoSeq1 (wpAny_loadPart')
open PySem.MeetsSeq PySem.MeetsSeq2 PySem.MeetsSeq3
end
section
variable {prog:OB}{w:OV}{A:O5}{E:Oa->Od->Prop}{s:Od}
theorem F0(ht:Ux s.heap t vs.toArray)(hb:Ux s.heap b ws.toArray)(hv:vs≠[])
  (h1:ws=[]->Q (.ref t) s) (h2:ws≠[]->Q (.ref s.heap.objs.size) { s with heap:=s.heap.push { cls:=.type "tuple",data:=.seq (vs++ws).toArray } })
  (hsz:vs.length+ws.length<=Om):OU (OQ prog w) A (PY .Add (.ref t) (.ref b)) Q E s:=by
 obtain⟨⟨cls,dd,data,sl⟩,ho,hc,n,hd⟩:=id ht;obtain⟨⟨cls2,dd2,data2,sl2⟩,ho2,hc2,n2,hd2⟩:=id hb;simp only at hc hd hc2 hd2;subst hc hd hc2 hd2
 have e:vs.toArray++ws.toArray=(vs++ws).toArray:=by simp
 by_cases hw:ws=[]
 .exact Th ⟨_,ho,rfl⟩ ⟨_,ho2,rfl⟩ SR UC RA Rp (Q9 _ _)
   (tuple_addW1 t b vs.toArray ws.toArray n n2 dd dd2 sl sl2 (by simpa using hv) (by simp[hw])) ⟨ho,ho2,h1 hw⟩
 .refine Th ⟨_,ho,rfl⟩ ⟨_,ho2,rfl⟩ SR UC RA Rp (Q9 _ _)
   (tuple_addW2 t b vs.toArray ws.toArray n n2 dd dd2 sl sl2 (by simpa using hv) (by simpa using hw) (by rw[Os,Os];exact hsz)) ⟨ho,ho2,?_⟩
  rw[e];exact h2 hw
def sIx(n d:Nat):Option Int->Nat
 |none=>d
 |some v=>if v<0 then (v+(n:Int)).toNat else min v.toNat n
theorem Ep(n d k:Nat):sIx n d (some (k:Int))=min k n:=by
 show (if (k:Int)<0 then ((k:Int)+(n:Int)).toNat else min (k:Int).toNat n)=min k n;rw[if_neg (by omega),RB]
theorem GF(n d:Nat)(hd:d<=n)(o:Option Int):sIx n d o<=n:=by
 cases o with
 |none=>exact hd
 |some v=>
  show (if v<0 then (v+(n:Int)).toNat else min v.toNat n)<=n
  by_cases hv:v<0
  .rw[if_pos hv];omega
  .rw[if_neg hv];exact Vk _ _
theorem wI(v:Int)(n d:Nat):(if v<0 then max (v+(n:Int)) 0 else min v (n:Int))=((sIx n d (some v):Nat):Int):=by
 show (if v<0 then max (v+(n:Int)) 0 else min v (n:Int))=(((if v<0 then (v+(n:Int)).toNat else min v.toNat n):Nat):Int)
 by_cases hv:v<0
 .simp only[if_pos hv];omega
 .simp only[if_neg hv];omega
theorem Bh(lo hi:Option Int)(n:Nat):Q6 lo hi 1 (n:Int)=(((sIx n 0 lo:Nat):Int),((sIx n n hi:Nat):Int)):=by
 have h1:¬((1:Int)<0):=by omega
 unfold Q6;simp only[h1,if_false];refine Prod.ext ?_ ?_
 .cases lo with
  |none=>rfl
  |some v=>exact wI v n 0
 .cases hi with
  |none=>rfl
  |some v=>exact wI v n n
theorem AV(i j:Nat):Qr (i:Int) (j:Int) 1=j-i:=by
 unfold Qr
 have h1:(1:Int)>0:=by omega
 simp only[h1,if_true,WP]
 split <;> omega
theorem tJ(p:Ti v o)(h:Q o s):OU (OQ prog w) A (VD v) Q E s:=by
 cases p with
 |none=>exact slicePart_none h
 |int i t=>exact slicePart_int h
theorem sP{sl:Addr}{vl vu:Oa}{lo hi:Option Int}{n:Nat}{Q:Int×Int×Nat->Od->Prop}(hs:s.heap.IsSliceOf sl vl vu .none)(pl:Ti vl lo)(pu:Ti vu hi)
  (h:Q (((sIx n 0 lo:Nat):Int),1,sIx n n hi-sIx n 0 lo) s):OU (OQ prog w) A (Sn (.ref sl) (pure (n:Int))) Q E s:=by
 obtain⟨os,hos,hcs,hds⟩:=id hs;unfold Sn Wh;refine On (On (Vu hos hds (x:=vl) rfl (On (Vu hos hds (x:=vu) rfl (On (Vu hos hds (x:=.none) rfl (OD ?_)))))));refine On (slicePart_none ?_);show OU _ _ (if ((1:Int) == 0)=true then _ else _) _ _ s;rw[if_neg (by decide)];refine On (tJ pl (On (tJ pu (On (OD ?_)))));show OU _ _ (match Q6 lo hi 1 (n:Int) with|(lo,hi)=>pure (lo,(1:Int),Qr lo hi 1)) _ _ s;rw[Bh lo hi n];show OU _ _ (pure (((sIx n 0 lo:Nat):Int),(1:Int),Qr ((sIx n 0 lo:Nat):Int) ((sIx n n hi:Nat):Int) 1)) _ _ s;rw[AV];exact OD h
theorem CD(xs:Array Oa)(i k:Nat):((Py k).filterMap fun(m:Nat)=>xs[((i:Int)+(m:Int)*1).toNat]?).toArray=((xs.toList.drop i).take k).toArray:=by
 have e:(fun(m:Nat)=>xs[((i:Int)+(m:Int)*1).toNat]?)=fun m=>xs[i+m]?:=by
  funext m
  have:((i:Int)+(m:Int)*1).toNat=i+m:=by omega
  rw[this]
 rw[e];have:=pick_run xs i k;rw[UM] at this;have e2:((fun x=>xs[x]?) ∘ fun x=>i+x)=fun m=>xs[i+m]?:=rfl;rw[e2] at this;rw[this]
theorem zQ{t sl:Addr}{items:Array Oa}{vl vu:Oa}{lo hi:Option Int}{Q:Oa->Od->Prop}(ht:Ux s.heap t items)(hs:s.heap.IsSliceOf sl vl vu .none)(pl:Ti vl lo)(pu:Ti vu hi)
  (hw:¬(sIx items.size 0 lo=0/\sIx items.size items.size hi=items.size))
  (h:Q (.ref s.heap.objs.size) { s with heap:=s.heap.push { cls:=.type "tuple",data:=.seq ((items.toList.drop (sIx items.size 0 lo)).take (sIx items.size items.size hi-sIx items.size 0 lo)).toArray } })
  (hsz:items.size<=Om):OU (OQ prog w) A (SF (.ref t) (.ref sl)) Q E s:=by
 have htake:sizeOk (.seq ((items.toList.drop (sIx items.size 0 lo)).take (sIx items.size items.size hi-sIx items.size 0 lo)).toArray):=by
  show ((items.toList.drop (sIx items.size 0 lo)).take (sIx items.size items.size hi-sIx items.size 0 lo)).toArray.size<=Om;rw[Os,Q3,Ql,Pp];omega
 have hj:sIx items.size items.size hi<=items.size:=GF _ _ (Ol _) hi;obtain⟨os,hos,hcs,hds⟩:=id hs;have hTs:s.TypeIs (.ref sl) "slice":=⟨os,hos,hcs⟩;unfold SF
 try with_reducible refine Qz ?_
 first|refine On (OD ?_)|skip
 refine On (UY ht.typeIs (by decide) ?_)
 refine On (SS (name:=Oe "__getitem__") ht.typeIs Po
  (SU Po ht.typeIs Up ?_ (UN _ _)))
 show OU _ _ (So (.ref t) >>= _) _ _ s;refine On (UD ht ?_);refine On (R6 hTs ?_);rw[if_pos (by decide)];refine On (sP hs pl pu ?_)
 have hno:¬((((sIx items.size 0 lo:Nat):Int) == 0&&(1:Int) == 1&&(sIx items.size items.size hi-sIx items.size 0 lo) == items.size)=true):=by
  intro q;rw[Oj,Oj] at q;have q1:((sIx items.size 0 lo:Nat):Int)=0:=eq_of_beq q.1.1;have q2:sIx items.size items.size hi-sIx items.size 0 lo=items.size:=eq_of_beq q.2;exact hw ⟨by omega,by omega⟩
 show OU _ _ (if (((sIx items.size 0 lo:Nat):Int) == 0&&(1:Int) == 1&&(sIx items.size items.size hi-sIx items.size 0 lo) == items.size)=true then _ else _) _ _ s;rw[if_neg hno,CD]
 first
  |exact On (m:=PR _) (PP (OD ⟨_,rfl,OD h⟩) htake)
  |exact On (m:=PR _) (PP (On (OD (OD ⟨_,rfl,OD h⟩))) htake)
  |exact On (On (m:=PR _) (PP (OD (OD ⟨_,rfl,OD h⟩)) htake))
  |exact On (On (m:=PR _) (PP (OD ⟨_,rfl,OD h⟩) htake))
end
end HT
namespace L2
abbrev TO:=St->Hp->(Option Int->Hp->Prop)->Prop
def PO(X:Cx)(e:Option Expr)(t:TO):Prop:=
 ∀(pins:List (Addr×Obj)) (s:Od) (σ:St) (H:Hp) (Q:Option Int->Hp->Prop),Inv X pins σ H s->t σ H Q ->
  OU (OQ X.prog X.w) X.A (evalPart e X.env) (fun u s'=>∃o H',Inv X pins σ H' s'/\Ti u o/\Q o H') X.xe s
def Ej:TO:=fun _ H Q=>Q none H
def Ir(t:TE):TO:=fun σ H Q=>t σ H fun x H1=>∃i,x=.int i/\Q (some i) H1
section
variable {X:Cx}{e:Expr}{te:TE}{lo hi:Option Expr}{tl th:TO}{pos p2:Pos}
theorem EM:PO X none Ej:=by
 intro pins s σ H Q I h;rw[evalPart_none];exact OD ⟨none,H,I,.none,h⟩
theorem EL(h:PE X e te):PO X (some e) (Ir te):=by
 intro pins s σ H Q I hw;rw[evalPart_some];refine thn (h pins s σ H _ I hw) fun u s1 ⟨x,H1,I1,r1,q1⟩=>?_;obtain⟨i,rfl,q⟩:=q1;obtain⟨t,rfl⟩:=r1;exact⟨some i,H1,I1,.int i t,q⟩
def SlR(X:Cx)(r:V->Option Int->Option Int->Hp->VK->Prop):Prop:=
 ∀(pins:List (Addr×Obj)) (s:Od) (σ:St) (H:Hp) (x:V) (v vl vu:Oa) (lo hi:Option Int) (sl:Addr) (Q:VK),Inv X pins σ H s->RelV x v->s.heap.IsSliceOf sl vl vu .none->Ti vl lo->Ti vu hi->r x lo hi H Q ->
  ∃T id,VW (.type T) "__getitem__"=pure (some (.builtin id))/\s.TypeIs v T/\OU (OQ X.prog X.w) X.A (SF v (.ref sl)) (EP X pins σ Q) X.xe s
theorem SlR.or(h:SlR X r)(h':SlR X r'):SlR X (fun x lo hi H Q=>r x lo hi H Q\/r' x lo hi H Q):=by
 intro pins s σ H x v vl vu lo hi sl Q I rx hs pl pu q
 rcases q with q|q
 .exact h pins s σ H x v vl vu lo hi sl Q I rx hs pl pu q
 .exact h' pins s σ H x v vl vu lo hi sl Q I rx hs pl pu q
def tSl(r:V->Option Int->Option Int->Hp->VK->Prop)(te:TE)(tl th:TO):TE:=fun σ H Q=>te σ H fun x H1=>tl σ H1 fun l H2=>th σ H2 fun u H3=>r x l u H3 Q
theorem CH(hr:SlR X r)(he:PE X e te)(hl:PO X lo tl)(hu:PO X hi th):PE X (.Subscript e (.Slice lo hi none p2) pos) (tSl r te tl th):=by
 intro pins s σ H Q I h;refine Subscript_ (thn (he pins s σ H _ I h) fun v s1 ⟨x,H1,I1,r1,q1⟩=>?_);refine wpAny_Slice (thn (hl pins s1 σ H1 _ I1 q1) fun vl s2 ⟨l,H2,I2,pl,q2⟩=>thn (hu pins s2 σ H2 _ I2 q2) fun vu s3 ⟨u,H3,I3,pu,q3⟩=>?_);rw[evalPart_none];refine OD ?_;have I4:Inv X pins σ H3 { s3 with heap:=s3.heap.push { cls:=.type "slice",data:=.fields #[vl,vu,.none] } }:=I3.kept (t':=s3.toks) fun b ob q=>Of _ q;obtain⟨T,id,hT,ht,hg⟩:=hr pins { s3 with heap:=s3.heap.push { cls:=.type "slice",data:=.fields #[vl,vu,.none] } } σ H3 x v vl vu l u s3.heap.objs.size Q I4 r1 (W2 ..) pl pu q3;show OU (OQ X.prog X.w) X.A (UE e (.Slice lo hi none p2) v (.ref s3.heap.objs.size)) (EP X pins σ Q) X.xe { s3 with heap:=s3.heap.push { cls:=.type "slice",data:=.fields #[vl,vu,.none] } };exact tail_any (ops:=[.ref s3.heap.objs.size,v]) ht hT hg (by with_unfolding_all rfl)
def gH(xs:List V)(lo hi:Option Int):List V:=(xs.drop (HT.sIx xs.length 0 lo)).take (HT.sIx xs.length xs.length hi-HT.sIx xs.length 0 lo)
theorem tE(xs:List V)(lo hi:Option Int):(gH xs lo hi).length<=xs.length:=by
 unfold gH;rw[Q3,Ql];omega
def JS(K:Frag):V->Option Int->Option Int->Hp->VK->Prop:=fun x lo hi H Q=>∃a xs,x=.ref a/\SqT K H a xs /\
 ¬(HT.sIx xs.length 0 lo=0/\HT.sIx xs.length xs.length hi=xs.length)/\∀p,H p=none->Q (.ref p) (upd H p (.tup (gH xs lo hi)))
theorem GC:SlR X (JS X.K):=by
 intro pins s σ H x v vl vu lo hi sl Q I rx hs pl pu h;obtain⟨a,xs,rfl,hx,hw,q⟩:=h;cases rx;obtain⟨its,r,ht,hz⟩:=I.tuple hx
 have hlen:its.toArray.size=xs.length:=by rw[Os];exact r.length.symm
 refine⟨"tuple",_,Po.lookup,ht.typeIs,?_⟩;refine HT.zQ ht hs pl pu (by rw[hlen];exact hw) ?_ (by rw[hlen];exact hz);rw[hlen];refine⟨.ref s.heap.objs.size,_,I.laid (t':=s.toks) (o:=.tup (gH xs lo hi)) (fun b ob q=>Of _ q) (Ol _) ?_,rfl,q _ (I.hok.fresh (Ol _))⟩;exact⟨OX (tE xs lo hi) hz,_,(r.drop (HT.sIx xs.length 0 lo)).take (HT.sIx xs.length xs.length hi-HT.sIx xs.length 0 lo),Uk _ _⟩
def IE(K:Frag):R2:=fun x y H Q=>∃a b xs ys,x=.ref a/\y=.ref b/\SqT K H a xs/\SqT K H b ys/\xs≠[]/\xs.length+ys.length<=Om /\
 (ys=[]->Q (.ref a) H)/\(ys≠[]->∀p,H p=none->Q (.ref p) (upd H p (.tup (xs++ys))))
theorem Vals.nil_iff(r:Vals xs us):us=[]↔xs=[]:=by
 cases r with
 |nil=>simp
 |cons _ _=>simp
theorem EU:OpR X (PY .Add) (IE X.K):=by
 intro pins s σ H x y v u Q I rx ry h;obtain⟨a,b,xs,ys,rfl,rfl,ha,hb,hx,hz,q1,q2⟩:=h;cases rx;cases ry;obtain⟨its,r1,p1,_⟩:=I.tuple ha;obtain⟨its2,r2,p2,_⟩:=I.tuple hb;refine HT.F0 p1 p2 (fun z=>hx (r1.nil_iff.mp z)) (fun z=>⟨.ref a,H,I,rfl,q1 (r2.nil_iff.mp z)⟩) (fun z=>?_) (by rw[←r1.length,←r2.length];exact hz);refine⟨.ref s.heap.objs.size,_,I.laid (t':=s.toks) (o:=.tup (xs++ys)) (fun b ob q=>Of _ q) (Ol _) ?_,rfl,q2 (fun w=>z (r2.nil_iff.mpr w)) _ (I.hok.fresh (Ol _))⟩;exact⟨by rw[OE];exact hz,_,r1.append r2,Uk _ _⟩
end
def ixN(n:Nat)(i:Int):Option Nat:=if 0<=i then (if i<n then some i.toNat else none) else if -(n:Int)<=i then some (i+n).toNat else none
def atI{α:Type}(xs:List α)(i:Int):Option α:=(ixN xs.length i).bind fun j=>xs[j]?
theorem wg(h:ixN n i=some j):seqIndex? i n=some j/\j<n/\-(n:Int)<=i/\i<n:=by
 unfold ixN at h
 by_cases h0:0<=i
 .rw[if_pos h0] at h
  by_cases h1:i<n
  .rw[if_pos h1] at h
   have e:i.toNat=j:=O8 h;exact⟨by rw[Vv h0 h1,e],by omega,by omega,h1⟩
  .rw[if_neg h1] at h;cases h
 .rw[if_neg h0] at h
  by_cases h1 : -(n:Int)<=i
  .rw[if_pos h1] at h
   have e:(i+n).toNat=j:=O8 h;exact⟨by rw[UZ (by omega) h1,e],by omega,h1,by omega⟩
  .rw[if_neg h1] at h;cases h
theorem qT{α:Type}{xs:List α}{i:Int}{v:α}(h:atI xs i=some v):∃j,seqIndex? i xs.length=some j/\xs[j]? = some v/\j<xs.length/\-(xs.length:Int)<=i/\i<xs.length:=by
 unfold atI at h
 cases e:ixN xs.length i with
 |none=>rw[e] at h;cases h
 |some j=>
  rw[e] at h;obtain⟨h1,h2,h3,h4⟩:=wg e;exact⟨j,h1,h,h2,h3,h4⟩
theorem wK{α:Type}{xs:List α}{j:Nat}{v:α}(h:xs[j]? = some v):atI xs (j:Int)=some v:=by
 have hj:j<xs.length:=(Og.mp h).1
 have e:ixN xs.length (j:Int)=some j:=by
  unfold ixN;rw[if_pos (by omega),if_pos (by omega)];simp
 unfold atI;rw[e];exact h
def nJ(b:Expr):Prop:=∀o i,Vx b false o i=operate [o,i] (SF o i)
def IxR(X:Cx)(r:R2):Prop:=
 ∀(value slice:Expr) (pins:List (Addr×Obj)) (s:Od) (σ:St) (H:Hp) (x y:V) (v u:Oa) (Q:VK),Inv X pins σ H s->RelV x v->RelV y u->r x y H Q ->
  Vx slice false v u=operate [v,u] (SF v u)->OU (OQ X.prog X.w) X.A (UE value slice v u) (EP X pins σ Q) X.xe s
def MtR(X:Cx)(id:String)(r:V->List V->Hp->VK->Prop):Prop:=
 ∀(pins:List (Addr×Obj)) (s:Od) (σ:St) (H:Hp) (x:V) (xs:List V) (v:Oa) (us:List Oa) (Q:VK),Inv X pins σ H s->RelV x v->Vals xs us->r x xs H Q ->
  OU (OQ X.prog X.w) X.A (call (.builtin id) (v::us)) (EP X pins σ Q) X.xe s
section
variable {X:Cx}{a b:Expr}{ta tb:TE}{pos:Pos}
theorem IxR.or(h:IxR X r)(h':IxR X r'):IxR X (fun x y H Q=>r x y H Q\/r' x y H Q):=by
 intro value slice pins s σ H x y v u Q I rx ry q hs
 rcases q with q|q
 .exact h value slice pins s σ H x y v u Q I rx ry q hs
 .exact h' value slice pins s σ H x y v u Q I rx ry q hs
theorem rX(hr:IxR X r)(ha:PE X a ta)(hb:PE X b tb)(hs:nJ b):PE X (.Subscript a b pos) (tOp r ta tb):=by
 intro pins s σ H Q I h;exact Subscript_ (sI ha hb I h fun v u s2 x y H2 I2 rx ry q=>hr a b pins s2 σ H2 x y v u Q I2 rx ry q (hs _ _))
def zu(K:Frag):R2:=fun x y H Q=>∃p xs i v,x=.ref p/\y=.int i/\SqL K H p xs/\atI xs i=some v/\Q v H
def zq(K:Frag):R2:=fun x y H Q=>∃p xs i v,x=.ref p/\y=.int i/\SqT K H p xs/\atI xs i=some v/\Q v H
def zr:R2:=fun x y H Q=>∃z i c,x=.str z/\y=.int i/\z.length<=Om/\atI z.cps.toList i=some c/\Q (.str ⟨#[c]⟩) H
theorem ix_list:IxR X (zu X.K):=by
 intro value slice pins s σ H x y v u Q I rx ry h hs;obtain⟨p,xs,i,z,rfl,rfl,hq,he,q⟩:=h;cases rx;obtain⟨t,rfl⟩:=ry;obtain⟨its,r,pl,hz⟩:=I.list hq;obtain⟨j,h1,h2,h3,h4,h5⟩:=qT he;obtain⟨w,ew,rw'⟩:=r.get h2;have hl:=r.length;have hn:=iO;have fin:EP X pins σ Q w s:=⟨z,H,I,rw',q⟩
 by_cases h0:0<=i
 .have hj:i.toNat=j:=by
   rw[Vv h0 h5] at h1;exact O8 h1
  exact item_listR pl.isList h0 (by omega) (by rw[hj];simpa using ew) fin hs
 .have hj:(i+(its.toArray.size:Int)).toNat=j:=by
   rw[UZ (by omega) h4] at h1;rw[Os,←hl];exact O8 h1
  exact Tj (x:=w) pl.isList.typeIs U0.lookup
   (wpAny_getItem_list_neg (Q:=fun r s'=>r=w/\EP X pins σ Q r s') pl.isList (by omega) (by rw[Os] <;> omega) (by omega) (by rw[hj];simpa using ew) ⟨rfl,fin⟩) hs
theorem ix_tup:IxR X (zq X.K):=by
 intro value slice pins s σ H x y v u Q I rx ry h hs;obtain⟨p,xs,i,z,rfl,rfl,hq,he,q⟩:=h;cases rx;obtain⟨t,rfl⟩:=ry;obtain⟨its,r,pl,hz⟩:=I.tuple hq;obtain⟨j,h1,h2,h3,h4,h5⟩:=qT he;obtain⟨w,ew,rw'⟩:=r.get h2;have hl:=r.length;have hn:=iO;have fin:EP X pins σ Q w s:=⟨z,H,I,rw',q⟩
 exact Tj (x:=w) pl.typeIs slot_tuple_getitem.lookup
  (getItem_tuple (j:=j) (Q:=fun r s'=>r=w/\EP X pins σ Q r s') pl (by omega) (by omega) (by rw[Os,←hl];exact h1) (by simpa using ew) ⟨rfl,fin⟩) hs
theorem Hf:IxR X zr:=by
 intro value slice pins s σ H x y v u Q I rx ry h hs;obtain⟨z,i,c,rfl,rfl,hz,he,q⟩:=h;obtain⟨t,rfl⟩:=rx;obtain⟨t',rfl⟩:=ry;obtain⟨j,h1,h2,h3,h4,h5⟩:=qT he
 have hl:z.cps.toList.length=z.length:=by simp[UO]
 rw[hl] at h1 h4 h5;have hn:=iO
 exact tail_any (Sq s z t) slot_str_getitem.lookup (getItem_str (c:=c) (by
  have e1:decide (i < -(2^63:Int))=false:=decide_eq_false (by omega);have e2:decide (i>=2^63)=false:=decide_eq_false (by omega)
  rw[e1,e2,Ww]) (by rw[h1];simpa using h2) ⟨.str ⟨#[c]⟩,H,I.tok _,⟨_,rfl⟩,q⟩) hs
def rIx(K:Frag):R2:=fun x y H Q=>zu K x y H Q\/zq K x y H Q\/zr x y H Q
theorem Hg:IxR X (rIx X.K):=ix_list.or (ix_tup.or Hf)
theorem A1(its:List Oa)(n j:Nat)(u:Oa):Sr (·.setIfInBounds j u) { cls:=.type "list",data:=.seq its.toArray n } = { cls:=.type "list",data:=.seq (its.set j u).toArray n }:=by simp[Sr]
theorem Inv.lst(I:Inv X pins σ H s)(h:H p=some (.lst xs)) :
  ∃(its:List Oa) (n:Nat),Vals xs its/\s.heap.get? p=some { cls:=.type "list",data:=.seq its.toArray n }/\xs.length<=sizeLine:=by
 obtain⟨z,its,n,r,e⟩:=I.hok p _ h;exact⟨its,n,r,e,z⟩
theorem Inv.lstUpd{s:Od}{xs ys:List V}{its its':List Oa}{f:Obj->Obj}(I:Inv X pins σ H s)(h:H p=some (.lst xs))
  (ho:s.heap.get? p=some { cls:=.type "list",data:=.seq its.toArray n }) (hf:f { cls:=.type "list",data:=.seq its.toArray n } = { cls:=.type "list",data:=.seq its'.toArray n' }) (r:Vals ys its') (hz:ys.length<=Om) (t:Nat) :
  Inv X pins σ (upd H p (.lst ys)) { s with heap:=s.heap.update p f,toks:=t }:=by
 have e:(s.heap.update p f).get? p=some { cls:=.type "list",data:=.seq its'.toArray n' }:=by
  rw[Heap.get?_update_self f ho (by rw[hf] <;> rfl),hf]
 refine I.write (x:=p) (e:=p) (by rw[h];trivial) (.inl rfl) (fun b u hb q=>(Tn _ _ (Qa hb)).trans q) ⟨_,e⟩ ?_;exact⟨hz,its',n',r,e⟩
def ID:V->V->V->Hp->(Hp->Prop)->Prop:=fun o i v H Q=>∃p xs k j,o=.ref p/\i=.int k/\H p=some (.lst xs)/\ixN xs.length k=some j/\Q (upd H p (.lst (xs.set j v)))
theorem set_list:zM X ID:=by
 intro pins s σ H o i v ov iv u Q I ro ri rv h;obtain⟨p,xs,k,j,rfl,rfl,hp,hj,q⟩:=h;cases ro;obtain⟨t,rfl⟩:=ri;obtain⟨its,n,r,ho,hz⟩:=I.lst hp;obtain⟨h1,h2,h3,h4⟩:=wg hj;have hl:=r.length;have hn:=iO
 have I':Inv X pins σ (upd H p (.lst (xs.set j v))) { s with heap:=s.heap.update p (Sr (·.setIfInBounds j u)) }:=
  I.lstUpd hp ho (A1 its n j u) (r.set rv j) (by rw[List.length_set];exact hz) s.toks
 by_cases h0:0<=k
 .have hk:k.toNat=j:=by
   rw[Vv h0 h4] at h1;exact O8 h1
  exact PySem.W.ki_setAt ho h0 (by omega) (by rw[Os,←hl];exact h4) (by rw[hk];exact⟨_,I',q⟩)
 .have hk:(k+(its.toArray.size:Int)).toNat=j:=by
   rw[UZ (by omega) h3] at h1;rw[Os,←hl];exact O8 h1
  exact PySem.W.ki_setBack ho (by omega) (by rw[Os,←hl];exact h3) (by omega) (by rw[hk];exact⟨_,I',q⟩)
theorem Aj(lo hi:Option Int)(n:Nat):(Rq lo hi none n).1=((HT.sIx n 0 lo:Nat):Int)/\(Rq lo hi none n).2.1=((HT.sIx n n hi:Nat):Int)/\(Rq lo hi none n).2.2=1:=by
 refine⟨?_,?_,rfl⟩
 .cases lo with
  |none=>simp[Rq,HT.sIx]
  |some i=>
   simp only[Rq,HT.sIx,SW,show (1:Int)>0 by decide,if_true]
   by_cases h:i<0
   .simp only[h,if_true] <;> omega
   .simp only[h,if_false] <;> omega
 .cases hi with
  |none=>simp[Rq,HT.sIx]
  |some i=>
   simp only[Rq,HT.sIx,SW,show (1:Int)>0 by decide,if_true]
   by_cases h:i<0
   .simp only[h,if_true] <;> omega
   .simp only[h,if_false] <;> omega
theorem Ac(its:List Oa)(lo hi:Option Int):slicePick its.toArray lo hi none=((its.drop (HT.sIx its.length 0 lo)).take (HT.sIx its.length its.length hi-HT.sIx its.length 0 lo)).toArray:=by
 obtain⟨h1,h2,h3⟩:=Aj lo hi its.toArray.size;unfold slicePick;rw[h1,h2,h3]
 simp only[sliceRange_one,pick_run,Os] <;> rfl
def JT(K:Frag):V->Option Int->Option Int->Hp->VK->Prop:=fun x lo hi H Q=>∃a xs,x=.ref a/\SqL K H a xs/\∀p,H p=none->Q (.ref p) (upd H p (.lst (gH xs lo hi)))
theorem sl_list:SlR X (JT X.K):=by
 intro pins s σ H x v vl vu lo hi sl Q I rx hs pl pu h;obtain⟨a,xs,rfl,hx,q⟩:=h;cases rx;obtain⟨its,r,ht,hz⟩:=I.list hx;have hlen:=r.length;refine⟨"list",_,U0.lookup,ht.isList.typeIs,?_⟩;refine wpAny_getItem_list_slice ht.isList hs pl pu .none (by simp) ?_ (by rw[Os] <;> omega);rw[Ac,←hlen];refine⟨.ref s.heap.objs.size,_,I.laid (t':=s.toks) (o:=.lst (gH xs lo hi)) (fun b ob q=>Of _ q) (Ol _) ?_,rfl,q _ (I.hok.fresh (Ol _))⟩;exact⟨OX (tE xs lo hi) hz,_,0,(r.drop (HT.sIx xs.length 0 lo)).take (HT.sIx xs.length xs.length hi-HT.sIx xs.length 0 lo),OC _ rfl⟩
def fZ:V->Bool
 |.non=>true
 |.bl _=>true
 |.int _=>true
 |.str _=>true
 |_=>false
def eqV:V->V->Bool
 |.non,.non=>true
 |.bl a,.bl b=>a == b
 |.bl a,.int b=>(if a then 1 else 0) == b
 |.int a,.bl b=>a == (if b then 1 else 0)
 |.int a,.int b=>a == b
 |.str a,.str b=>a == b
 |_,_=>false
theorem HI(ry:RelV y u)(rx:RelV x v)(fy:fZ y=true)(fx:fZ x=true):W3 A s u v (eqV y x):=by
 cases y with
 |non=>
  cases ry
  cases x with
  |non=>cases rx;exact VE _
  |bl b=>cases rx;exact SeqAt.EqAt.none_bool b
  |int b=>obtain⟨t,rfl⟩:=rx;exact Uq b t
  |str b=>obtain⟨t,rfl⟩:=rx;exact Ur b t
  |_=>exact absurd (show false=true from fx) Ox
 |bl a=>
  cases ry
  cases x with
  |non=>cases rx;exact SeqAt.EqAt.bool_none a
  |bl b=>cases rx;exact SeqAt.EqAt.bool_bool a b
  |int b=>obtain⟨t,rfl⟩:=rx;exact SeqAt.EqAt.bool_int a b t
  |str b=>obtain⟨t,rfl⟩:=rx;exact SeqAt.EqAt.bool_str a b t
  |_=>exact absurd (show false=true from fx) Ox
 |int a=>
  obtain⟨t',rfl⟩:=ry
  cases x with
  |non=>cases rx;exact Us a t'
  |bl b=>cases rx;exact SeqAt.EqAt.int_bool a t' b
  |int b=>obtain⟨t,rfl⟩:=rx;exact SeqAt.EqAt.int_int a t' b t
  |str b=>obtain⟨t,rfl⟩:=rx;exact Sa a t' b t
  |_=>exact absurd (show false=true from fx) Ox
 |str a=>
  obtain⟨t',rfl⟩:=ry
  cases x with
  |non=>cases rx;exact Ut a t'
  |bl b=>cases rx;exact SeqAt.EqAt.str_bool a t' b
  |int b=>obtain⟨t,rfl⟩:=rx;exact Sb a t' b t
  |str b=>obtain⟨t,rfl⟩:=rx;exact SeqAt.EqAt.str_str a t' b t
  |_=>exact absurd (show false=true from fx) Ox
 |_=>exact absurd (show false=true from fy) Ox
def eqU(x:V)(u:Oa):Bool:=match u with
 |.none=>eqV .non x
 |.bool b=>eqV (.bl b) x
 |.int i _=>eqV (.int i) x
 |.str z _=>eqV (.str z) x
 |_=>false
theorem xS(r:RelV y u)(f:fZ y=true):eqU x u=eqV y x:=by
 cases y with
 |non=>cases r;rfl
 |bl b=>cases r;rfl
 |int i=>obtain⟨t,rfl⟩:=r;rfl
 |str z=>obtain⟨t,rfl⟩:=r;rfl
 |_=>exact absurd (show false=true from f) Ox
theorem lh:∀{xs:List V}{us:List Oa},Vals xs us->xs.all fZ=true->us.any (eqU x)=xs.any fun y=>eqV y x
 |_,_,.nil,_=>rfl
 |y::xs,u::us,.cons r t,f=>by
  rw[Qb,Oj] at f;rw[PU,PU,xS r f.1,lh t f.2]
theorem kK(rx:RelV x v)(fx:fZ x=true):∀{xs:List V}{us:List Oa},Vals xs us->xs.all fZ=true->∀u∈us,W3 A s u v (eqU x u)
 |_,_,.nil,_=>fun u hu=>by cases hu
 |y::xs,u::us,.cons r t,f=>fun u' hu=>by
  rw[Qb,Oj] at f
  rcases Oy.mp hu with rfl|hu
  .rw[xS r f.1];exact HI r rx f.1 fx
  .exact kK rx fx t f.2 u' hu
def inV(x:V)(xs:List V):Bool:=xs.any fun y=>eqV y x
def rIn(K:Frag)(neg:Bool):R2:=fun x y H Q=>∃p xs,y=.ref p/\(SqL K H p xs\/SqT K H p xs)/\fZ x=true/\xs.all fZ=true/\Q (.bl (if neg then !inV x xs else inV x xs)) H
theorem uo:OpR X (OM .In) (rIn X.K false):=by
 intro pins s σ H x y v u Q I rx ry h;obtain⟨p,xs,rfl,hq,fx,fs,q⟩:=h;cases ry
 rcases hq with hq|hq
 .obtain⟨its,r,pl,hz⟩:=I.list hq
  refine SeqAt.in_listAt (eqU x) pl.isList (fun w hw=>kK rx fx r fs w (by simpa using hw)) ⟨.bl _,H,I,rfl,?_⟩;rw[show its.toArray.any (eqU x)=its.any (eqU x) by simp,lh r fs];exact q
 .obtain⟨its,r,pl,hz⟩:=I.tuple hq
  refine Vl (eqU x) pl (fun w hw=>kK rx fx r fs w (by simpa using hw)) ⟨.bl _,H,I,rfl,?_⟩;rw[show its.toArray.any (eqU x)=its.any (eqU x) by simp,lh r fs];exact q
theorem sW:OpR X (OM .NotIn) (rIn X.K true):=by
 intro pins s σ H x y v u Q I rx ry h;obtain⟨p,xs,rfl,hq,fx,fs,q⟩:=h;cases ry
 rcases hq with hq|hq
 .obtain⟨its,r,pl,hz⟩:=I.list hq
  refine SeqAt.notIn_listAt (eqU x) pl.isList (fun w hw=>kK rx fx r fs w (by simpa using hw)) ⟨.bl _,H,I,rfl,?_⟩;rw[show its.toArray.any (eqU x)=its.any (eqU x) by simp,lh r fs];exact q
 .obtain⟨its,r,pl,hz⟩:=I.tuple hq
  refine SeqAt.notIn_tupleAt (eqU x) pl (fun w hw=>kK rx fx r fs w (by simpa using hw)) ⟨.bl _,H,I,rfl,?_⟩;rw[show its.toArray.any (eqU x)=its.any (eqU x) by simp,lh r fs];exact q
theorem call_len_seq:CallR X (.builtin "len") (fun xs H Q=>∃p ys,xs=[.ref p]/\(SqL X.K H p ys\/SqT X.K H p ys)/\Q (.int ys.length) H):=by
 intro pins s σ H xs us Q I r h;obtain⟨p,ys,rfl,hq,q⟩:=h;obtain⟨u,rfl,rx⟩:=vals1 r;cases rx;have hn:=iO
 rcases hq with hq|hq
 .obtain⟨its,r',pl,hz⟩:=I.list hq
  have hlen:=r'.length;exact Calls.call_len_list pl.isList (by simp only[Os] <;> omega) ⟨.int ys.length,H,I.tok _,⟨s.toks+1,by rw[Os,hlen]⟩,q⟩
 .obtain⟨its,r',pl,hz⟩:=I.tuple hq
  have hlen:=r'.length;exact len_tuple pl (by simp only[Os] <;> omega) ⟨.int ys.length,H,I.tok _,⟨s.toks+1,by rw[Os,hlen]⟩,q⟩
theorem call_len_str:CallR X (.builtin "len") (fun xs H Q=>∃z,xs=[.str z]/\z.length<=Om/\Q (.int z.length) H):=by
 intro pins s σ H xs us Q I r h;obtain⟨z,rfl,hz,q⟩:=h;obtain⟨u,rfl,t,rfl⟩:=vals1 r;have hn:=iO;exact len_str (by omega) ⟨.int z.length,H,I.tok _,⟨_,rfl⟩,q⟩
theorem CallR.or(h:CallR X f r)(h':CallR X f r'):CallR X f (fun xs H Q=>r xs H Q\/r' xs H Q):=by
 intro pins s σ H xs us Q I rs q
 rcases q with q|q
 .exact h pins s σ H xs us Q I rs q
 .exact h' pins s σ H xs us Q I rs q
theorem call_list_of:CallR X (.type "list") (fun xs H Q=>∃p ys,xs=[.ref p]/\(SqL X.K H p ys\/SqT X.K H p ys)/\∀l,H l=none->Q (.ref l) (upd H l (.lst ys))):=by
 intro pins s σ H xs us Q I r h;obtain⟨p,ys,rfl,hq,q⟩:=h;obtain⟨u,rfl,rx⟩:=vals1 r;cases rx
 have fin:∀(its:List Oa),Vals ys its->ys.length<=Om->∀(h':Heap) (c':Nat),(∀b o',s.heap.get? b=some o'->h'.get? b=some o') ->
   h'.get? s.heap.objs.size=some { cls:=.type "list",dict:=none,data:=.seq its.toArray c',slots:=#[] }->EP X pins σ Q (.ref s.heap.objs.size) { s with heap:=h' }:=fun its r' hz h' c' kp e=>
  ⟨.ref s.heap.objs.size,_,I.laid (t':=s.toks) kp (Ol _) (show ObjOk X.prog X.w _ h' _ (.lst ys) from⟨hz,its,c',r',e⟩),rfl,q _ (I.hok.fresh (Ol _))⟩
 rcases hq with hq|hq
 .obtain⟨its,r',pl,hz⟩:=I.list hq
  have hlen:=r'.length;obtain⟨o,ho,hc,n,hd⟩:=pl.isList;exact call_list_seq p (.inl rfl) ho hc hd (fun h' c' kp e=>fin its r' hz h' c' kp e) (by simp only[Os] <;> omega)
 .obtain⟨its,r',pl,hz⟩:=I.tuple hq
  have hlen:=r'.length;obtain⟨o,ho,hc,n,hd⟩:=pl;exact call_list_seq p (.inr rfl) ho hc hd (fun h' c' kp e=>fin its r' hz h' c' kp e) (by simp only[Os] <;> omega)
theorem sU:CallR X (.type "tuple") (fun xs H Q=>∃p ys,xs=[.ref p]/\((SqL X.K H p ys/\∀l,H l=none->Q (.ref l) (upd H l (.tup ys)))\/(SqT X.K H p ys/\Q (.ref p) H))):=by
 intro pins s σ H xs us Q I r h;obtain⟨p,ys,rfl,h⟩:=h;obtain⟨u,rfl,rx⟩:=vals1 r;cases rx
 rcases h with⟨hq,q⟩|⟨hq,q⟩
 .obtain⟨its,r',pl,hz⟩:=I.list hq
  have hlen:=r'.length;refine call_tuple_list pl.isList (fun h' kp=>?_) (by simp only[Os] <;> omega);have I1:Inv X pins σ H { s with heap:=h' }:=I.kept (t':=s.toks) kp
  have I2:Inv X pins σ (upd H h'.objs.size (.tup ys)) { s with heap:=h'.push { cls:=.type "tuple",data:=.seq its.toArray } }:=
   I1.laid (t':=s.toks) (fun b o e=>Of _ e) (Ol _) (show ObjOk X.prog X.w _ _ _ (.tup ys) from⟨hz,its,r',Uk _ _⟩)
  exact⟨.ref h'.objs.size,_,I2,rfl,q _ (I1.hok.fresh (Ol _))⟩
 .obtain⟨its,r',pl,hz⟩:=I.tuple hq
  exact call_tuple_same pl ⟨.ref p,H,I,rfl,q⟩
def tyV(K:Frag)(T:String)(x:V)(H:Hp):Prop:=match x with
 |.str _=>T="str"
 |.int _=>T="int"
 |.ref p=>(T="list"/\∃xs,SqL K H p xs)\/(T="tuple"/\∃o,K.lookup p=some o/\o.cls=.type "tuple"/\o.dict=none) \/
   (T="dict"/\((∃kvs,H p=some (.dK kvs))\/∃kvs,H p=some (.dT kvs)))\/(T="set"/\∃S n,H p=some (.set S n))
 |_=>False
theorem nM(I:Inv X pins σ H s)(r:RelV x v)(ty:tyV X.K T x H) :
  s.TypeIs v T/\∀a,v=.ref a->∃ob,s.heap.get? a=some ob/\ob.dict=none:=by
 cases x with
 |str z=>
  obtain⟨t,rfl⟩:=r;cases (show T="str" from ty);exact⟨Sq s z t,fun _ e=>nomatch e⟩
 |int i=>
  obtain⟨t,rfl⟩:=r;cases (show T="int" from ty);exact⟨VX s i t,fun _ e=>nomatch e⟩
 |ref p=>
  cases r
  rcases ty with⟨rfl,xs,hq⟩|⟨rfl,o,hk,hc,hd⟩|⟨rfl,hk⟩|⟨rfl,S,n,hk⟩
  .obtain⟨its,_,pl,_⟩:=I.list hq
   refine⟨pl.isList.typeIs,fun a e=>?_⟩;cases e;obtain⟨o,n,e,c,hd,_⟩:=pl;exact⟨o,e,hd⟩
  .refine⟨⟨o,I.kIn p o hk,hc⟩,fun a e=>?_⟩
   cases e;exact⟨o,I.kIn _ o hk,hd⟩
  .have z:∃o,s.heap.get? p=some o/\o.ExactDict:=by
    rcases hk with⟨kvs,hk⟩|⟨kvs,hk⟩
    .obtain⟨_,_,_,_,o,_,_,e,ex,_⟩:=I.hok p _ hk
     exact⟨o,e,ex⟩
    .obtain⟨_,_,_,_,o,_,_,e,ex,_⟩:=I.hok p _ hk
     exact⟨o,e,ex⟩
   obtain⟨o,e,ex⟩:=z;refine⟨⟨o,e,ex.1⟩,fun a e2=>?_⟩;cases e2;exact⟨o,e,ex.2.1⟩
  .obtain⟨o,_,_,_,e,ex,_⟩:=I.hok p _ hk
   refine⟨⟨o,e,ex.1⟩,fun a e2=>?_⟩;cases e2;exact⟨o,e,ex.2.1⟩
 |_=>exact QM ty
def JO(K:Frag)(T:String)(r:V->List V->Hp->VK->Prop)(to:TE):TE:=fun σ H Q=>to σ H fun x H1=>tyV K T x H1/\r x [] H1 Q
def tBM(K:Frag)(T:String)(r:V->List V->Hp->VK->Prop)(to:TE)(t:TA):TE:=fun σ H Q=>to σ H fun x H1=>tyV K T x H1/\t σ H1 fun xs H2=>r x xs H2 Q
variable {o e:Expr}{es:List Expr}{to:TE}{t:TA}{name:Str}{apos cpos:Pos}{T id:String}{r:V->List V->Hp->VK->Prop}
theorem rC(pa:VY T)(slot:Slot T name id)(hty:typeOf (.builtin id)=pure (.type "method_descriptor"))(hm:MtR X id r)(ho:PE X o to)
  (hbase:Pa o name X.env (eval o X.env)=eval o X.env:=by rfl) (hline:(apos.endLine == cpos.line)=true:=by rfl):PE X (.Call (.Attribute o name apos) [] [] cpos) (JO X.K T r to):=by
 intro pins s σ H Q I h;refine SX hbase hline (thn (ho pins s σ H _ I h) fun v s1 ⟨x,H1,I1,r1,ty,q1⟩=>?_);obtain⟨h1,h2⟩:=nM I1 r1 ty;exact⟨T,id,pa,slot,hty,h1,h2,P0 rfl (Uu (hm pins s1 σ H1 x [] v [] Q I1 r1 .nil q1))⟩
theorem g7(pa:VY T)(slot:Slot T name id)(hty:typeOf (.builtin id)=pure (.type "method_descriptor"))(hm:MtR X id r)(ho:PE X o to)(ha:PA X (e::es) t)
  (hbase:Pa o name X.env (eval o X.env)=eval o X.env:=by rfl)
  (hfew:((Pb cpos (Oh (e::es) X.env)).all (fun x=>!x.1)&&(Qo cpos (PF [] X.env)).all (fun x=>x.1.isSome)
   && decide ((e::es).length+([]:List Pq).length+(if ([]:List Pq).isEmpty then 0 else 1)<30))=true:=by rfl)
  (hline:(apos.endLine == cpos.line)=true:=by rfl) (hs:Oh (e::es) X.env=(false,eval e X.env)::Oh es X.env:=by rfl) (hplain:(Pb cpos (Oh es X.env)).any (·.1)=false:=by rfl) :
  PE X (.Call (.Attribute o name apos) (e::es) [] cpos) (tBM X.K T r to t):=by
 intro pins s σ H Q I h;refine RC hbase hfew hline rfl (thn (ho pins s σ H _ I h) fun v s1 ⟨x,H1,I1,r1,ty,q1⟩=>?_);obtain⟨h1,h2⟩:=nM I1 r1 ty;refine⟨T,id,pa,slot,hty,h1,h2,?_⟩;have hA:=ha cpos pins s1 σ H1 _ I1 q1;rw[hs] at hA ⊢;refine P0 (by show (false||(Pb cpos (Oh es X.env)).any (·.1))=false;rw[hplain] <;> rfl) (QX ?_);exact thn hA fun us s2 ⟨vs,H2,I2,r2,q2⟩=>hm pins s2 σ H2 x vs v us Q I2 r1 r2 q2
end
def MtM(X:Cx)(id:String)(r:V->List V->Hp->VK->Prop):Prop:=
 ∀(pins:List (Addr×Obj)) (s:Od) (σ:St) (H:Hp) (x:V) (xs:List V) (v:Oa) (us:List Oa) (Q:VK),Inv X pins σ H s->RelV x v->Vals xs us->r x xs H Q ->
  OU (OQ X.prog X.w) X.A (call (.builtin id) (v::us)) (EP X pins σ Q) X.xe s
theorem Vals.one:∀{x:V}{us:List Oa},Vals [x] us->∃u,us=[u]/\RelV x u
 |_,_,.cons r .nil=>⟨_,rfl,r⟩
theorem Vals.zero:∀{us:List Oa},Vals [] us->us=[]
 |_,.nil=>rfl
theorem Vals.dropLast(h:Vals xs us):Vals xs.dropLast us.dropLast:=by
 induction h with
 |nil=>exact .nil
 |cons r t ih=>
  cases t with
  |nil=>exact .nil
  |cons q t'=>exact .cons r ih
theorem Vals.rep(h:Vals xs us):∀k:Nat,Vals (OO k xs).flatten (OO k us).flatten
 |0=>.nil
 |k+1=>by
  rw[P3,P3,Qu,Qu];exact Vals.append h (Vals.rep h k)
theorem Bc{α:Type}(l:List α):l.eraseIdx (l.length-1)=l.dropLast:=by
 induction l with
 |nil=>rfl
 |cons a r ih=>
  cases r with
  |nil=>rfl
  |cons b r=>
   have e:(a::b::r).length-1=((b::r).length-1)+1:=by
    have h1:(a::b::r).length=r.length+2:=rfl;have h2:(b::r).length=r.length+1:=rfl;omega
   rw[e,List.eraseIdx_cons_succ,ih]
   all_goals rfl
theorem foldl_rep(its:List Oa):∀(k:Nat) (acc:List Oa),
  Ss (fun x1 x2=>x1++x2) acc.toArray (OO k its.toArray)=(acc++(OO k its).flatten).toArray
 |0,acc=>by simp
 |k+1,acc=>by
  have e:acc.toArray++its.toArray=(acc++its).toArray:=by simp
  have e2:(acc++its)++(OO k its).flatten=acc++(OO (k+1) its).flatten:=by
   rw[P3,Qu,RD]
  rw[←e2,←foldl_rep its k (acc++its),←e,P3,VF]
section
variable {X:Cx}{pins:List (Addr×Obj)}{σ:St}{H:Hp}{s:Od}{l b:Addr}{xs ys zs:List V}
theorem Inv.lset{its its':List Oa}{f:Array Oa->Array Oa}(I:Inv X pins σ H s)(hH:H l=some (.lst xs))
  (e:s.heap.get? l=some { cls:=.type "list",data:=.seq its.toArray n }) (hf:f its.toArray=its'.toArray) (hv:Vals ys its') (hz:ys.length<=Om) :
  Inv X pins σ (upd H l (.lst ys)) { s with heap:=s.heap.update l (Sr f),toks:=t' }:=by
 have q:=PySem.IsL.update e f;rw[hf] at q;refine I.write (x:=l) (e:=l) (by rw[hH];exact trivial) (.inl rfl) (fun b' u hb hu=>(Tn s.heap (Sr f) (Qa hb)).trans hu) ⟨_,q⟩ ?_;exact⟨hz,its',_,hv,q⟩
theorem Inv.lnew(I:Inv X pins σ H s)(hv:Vals ys its)(hz:ys.length<=Om) :
  Inv X pins σ (upd H s.heap.objs.size (.lst ys)) { s with heap:=s.heap.push { cls:=.type "list",data:=.seq its.toArray },toks:=t' }:=I.laid (fun _ _ q=>Of _ q) (Ol _) ⟨hz,its,0,hv,OC _ rfl⟩
theorem Inv.fresh(I:Inv X pins σ H s):H s.heap.objs.size=none:=I.hok.fresh (Ol _)
theorem Inv.lstM(I:Inv X pins σ H s)(hH:H l=some (.lst xs)):xs.length<=Om/\∃(its:List Oa) (n:Nat),Vals xs its/\xs.length=its.length/\s.heap.get? l=some { cls:=.type "list",data:=.seq its.toArray n }:=by
 obtain⟨z,its,n,r,e⟩:=I.hok l _ hH;exact⟨z,its,n,r,r.length,e⟩
theorem CP(h:n<=Om):QB n=false:=by
 unfold QB;exact decide_eq_false (by omega)
end
section
variable {X:Cx}
def Ew:V->List V->Hp->VK->Prop:=fun x vs H Q=>∃l xs y,x=.ref l/\vs=[y]/\H l=some (.lst xs)/\xs.length<Om/\Q .non (upd H l (.lst (xs++[y])))
theorem mJ:MtM X "list.append" Ew:=by
 intro pins s σ H x vs v us Q I rx rv h;obtain⟨l,xs,y,rfl,rfl,hH,hz,q⟩:=h;cases rx;obtain⟨u,rfl,ru⟩:=rv.one;obtain⟨z,its,n,r,hl,e⟩:=I.lstM hH;refine QC F.slot_list_append ⟨_,e,rfl⟩ F.entry_list_append (F.args_list_append_2 _ _) (PySem.list_append l its.toArray n u (by rw[Os];omega)) ⟨e,?_⟩;refine⟨.non,_,I.lset (its':=its++[u]) hH e (by simp) (r.append (.cons ru .nil)) ?_,rfl,q⟩;rw[OE,QV];omega
def JU:V->List V->Hp->VK->Prop:=fun x vs H Q=>∃l xs y,x=.ref l/\vs=[]/\H l=some (.lst xs)/\xs[xs.length-1]? = some y/\Q y (upd H l (.lst xs.dropLast))
theorem xu:MtM X "list.pop" JU:=by
 intro pins s σ H x vs v us Q I rx rv h;obtain⟨l,xs,y,rfl,rfl,hH,hy,q⟩:=h;cases rx;have hus:=rv.zero;subst hus;obtain⟨z,its,n,r,hl,e⟩:=I.lstM hH;obtain⟨u,hu,ru⟩:=r.get hy
 have hy':its.toArray[its.toArray.size-1]? = some u:=by
  show its.toArray[its.length-1]? = some u;rw[←Array.getElem?_toList,←hl];exact hu
 refine QC F.slot_list_pop ⟨_,e,rfl⟩ F.entry_list_pop (F.args_list_pop_1 _) (MeetsSeq.list_pop_last l its.toArray n u hy' (by rw[Os];omega)) ⟨e,?_⟩;refine⟨y,_,I.lset (its':=its.dropLast) hH e ?_ r.dropLast ?_,ru,q⟩
 .show its.toArray.eraseIdxIfInBounds (its.toArray.size-1)=its.dropLast.toArray
  rw[Os,List.eraseIdxIfInBounds_toArray,Bc]
 .rw[List.length_dropLast]
  omega
theorem len_rep{α:Type}(xs:List α)(k:Nat):(OO k xs).flatten.length=k*xs.length:=by
 induction k with
 |zero=>simp
 |succ k ih=>rw[P3,Qu,OE,ih,Nat.succ_mul,Nat.add_comm]
end
section
variable {prog:OB}{w:OV}{A:O5}{E:Oa->Od->Prop}{s:Od}
end
section
variable {X:Cx}
end
section
variable {κ:Type}[DecidableEq κ]
def bQ(kvs:List (κ×V))(k:κ):Option V:=(kvs.find? fun kv=>decide (kv.1=k)).map (·.2)
def putK(kvs:List (κ×V))(k:κ)(v:V):List (κ×V):=if (kvs.any fun kv=>decide (kv.1=k))=true then kvs.map (fun kv=>if kv.1=k then (kv.1,v) else kv) else kvs++[(k,v)]
def c8(kvs:List (κ×V))(k:κ):List (κ×V):=kvs.filter fun kv=>decide (kv.1≠k)
theorem qb{p:κ×V}(e:p.1=k):bQ (p::r) k=some p.2:=by simp[bQ,PX,e]
theorem qc{p:κ×V}(e:¬p.1=k):bQ (p::r) k=bQ r k:=by simp[bQ,PX,e]
theorem qd(k:κ):∀kvs:List (κ×V),(kvs.any fun kv=>decide (kv.1=k))=(bQ kvs k).isSome
 |[]=>rfl
 |p::r=>by
  rw[PU]
  by_cases e:p.1=k
  .simp only[qb e,decide_eq_true e,Bool.true_or,Option.isSome_some]
  .rw[qc e,decide_eq_false e,Bool.false_or];exact qd k r
theorem pB(kvs:List (κ×V))(k:κ)(v:V):(putK kvs k v).length<=kvs.length+1:=by
 unfold putK;split
 .rw[OS];omega
 .rw[OE,OH,Re];omega
theorem Cy{kvs:List (κ×V)}{k:κ}(v:V)(h:bQ kvs k=none):putK kvs k v=kvs++[(k,v)]:=by
 unfold putK;rw[qd,h];exact if_neg (by decide)
theorem RelO.isSome_eq(r:RelO o u):o.isSome=u.isSome:=by
 cases o with
 |none=>cases u with
  |none=>rfl
  |some _=>exact(show False from r).elim
 |some _=>cases u with
  |none=>exact(show False from r).elim
  |some _=>rfl
theorem RelO.getD(r:RelO o u)(rd:RelV d d'):RelV (o.getD d) (u.getD d'):=by
 cases o with
 |none=>cases u with
  |none=>exact rd
  |some _=>exact(show False from r).elim
 |some _=>cases u with
  |none=>exact(show False from r).elim
  |some _=>exact r
theorem KV.val(r:KV kvs vs)(k:κ):RelO (bQ kvs k) (R7 vs k):=by
 unfold KV at r
 induction r with
 |nil=>exact P4
 |@cons p q ps qs h t ih=>
  obtain⟨h1,h2⟩:=h
  by_cases e:p.1=k
  .have e':q.1=k:=h1.symm.trans e
   have b:R7 (q::qs) k=some q.2:=by simp[R7,PX,e']
   rw[qb e,b];exact h2
  .have e':¬q.1=k:=fun z=>e (h1.trans z)
   have b:R7 (q::qs) k=R7 qs k:=by simp[R7,PX,e']
   rw[qc e,b];exact ih
theorem KV.any(r:KV kvs vs)(k:κ):(kvs.any fun kv=>decide (kv.1=k))=vs.any fun kv=>decide (kv.1=k):=by
 unfold KV at r
 induction r with
 |nil=>rfl
 |cons h t ih=>rw[PU,PU,ih,h.1]
theorem KV.repl(r:KV kvs vs)(k:κ)(ry:RelV y u) :
  KV (kvs.map fun kv=>if kv.1=k then (kv.1,y) else kv) (vs.map fun kv=>if kv.1=k then (kv.1,u) else kv):=by
 unfold KV at r ⊢
 induction r with
 |nil=>exact .nil
 |@cons p q ps qs h t ih=>
  rw[OJ,OJ];refine .cons ?_ ih;obtain⟨h1,h2⟩:=h
  by_cases e:p.1=k
  .rw[if_pos e,if_pos (h1.symm.trans e)];exact⟨h1,ry⟩
  .rw[if_neg e,if_neg (fun z=>e (h1.trans z))];exact⟨h1,h2⟩
theorem KV.put(r:KV kvs vs)(k:κ)(ry:RelV y u):KV (putK kvs k y) (stored vs k u):=by
 unfold putK stored;rw[r.any k]
 by_cases e:(vs.any fun kv=>decide (kv.1=k))=true
 .rw[if_pos e,if_pos e];exact r.repl k ry
 .rw[if_neg e,if_neg e];exact W0 r ⟨rfl,ry⟩
theorem KV.drop(r:KV kvs vs)(k:κ):KV (c8 kvs k) (without vs k):=by
 unfold KV at r ⊢;unfold c8 without
 induction r with
 |nil=>exact .nil
 |@cons p q ps qs h t ih=>
  obtain⟨h1,h2⟩:=h;rw[P5,P5]
  by_cases e:p.1=k
  .have a:¬decide (p.1≠k)=true:=by simp[e]
   have b:¬decide (q.1≠k)=true:=by simp[h1.symm.trans e]
   rw[if_neg a,if_neg b];exact ih
  .have e':¬q.1=k:=fun z=>e (h1.trans z)
   have a:decide (p.1≠k)=true:=by simp[e]
   have b:decide (q.1≠k)=true:=by simp[e']
   rw[if_pos a,if_pos b];exact .cons ⟨h1,h2⟩ ih
theorem KV.keys{kvs:List (κ×V)}{vs:List (κ×Oa)}(r:KV kvs vs):kvs.map (·.1)=vs.map (·.1):=by
 unfold KV at r
 induction r with
 |nil=>rfl
 |cons h t ih=>rw[OJ,OJ,ih,h.1]
theorem KV.length(r:KV kvs vs):kvs.length=vs.length:=Qy r
theorem Dx(kvs:List (κ×V))(k:κ):(c8 kvs k).length<=kvs.length:=List.length_filter_le _ _
end
theorem hW(r:RelV (kV k) u):(bE P w).is k u=true:=by
 cases k with
 |inl i=>obtain⟨t,e⟩:=(show ∃t,u=R9 i t from r);subst e;exact Av P w i t
 |inr x=>obtain⟨t,e⟩:=(show ∃t,u=RL x t from r);subst e;exact Au P w x t
theorem uv:∀{ks:List Key}{us:List Oa},Vals (ks.map kV) us->ItemsAre (bE P w) ks us
 |[],_,r=>by rw[To] at r;cases r;exact .nil
 |k::ks,_,r=>by
  rw[OJ] at r
  cases r with
  |cons h t=>exact .cons (hW h) (uv t)
abbrev KT(H:Hp):List (List Key×V)->List (List Key×Addr×Oa)->Prop:=Sf fun p q=>p.1=q.1/\H q.2.1=some (.tup (p.1.map kV))/\RelV p.2 q.2.2
theorem KT.val(r:KT H kvs xs)(k:List Key):RelO (bQ kvs k) ((Vy xs k).map (·.2)):=by
 induction r with
 |nil=>exact P4
 |@cons p q ps qs h t ih=>
  obtain⟨h1,_,h2⟩:=h
  by_cases e:p.1=k
  .have e':q.1=k:=h1.symm.trans e
   have b:Vy (q::qs) k=some q.2:=by simp[Vy,PX,e']
   rw[qb e,b];exact h2
  .have e':¬q.1=k:=fun z=>e (h1.trans z)
   have b:Vy (q::qs) k=Vy qs k:=by simp[Vy,PX,e']
   rw[qc e,b];exact ih
theorem KT.repl(r:KT H kvs xs)(k:List Key)(ry:RelV y u) :
  KT H (kvs.map fun kv=>if kv.1=k then (kv.1,y) else kv) (xs.map (putAt k u)):=by
 induction r with
 |nil=>exact .nil
 |@cons p q ps qs h t ih=>
  rw[OJ,OJ];refine .cons ?_ ih;obtain⟨h1,h2,h3⟩:=h;unfold putAt
  by_cases e:p.1=k
  .rw[if_pos e,if_pos (h1.symm.trans e)];exact⟨h1,h2,ry⟩
  .rw[if_neg e,if_neg (fun z=>e (h1.trans z))];exact⟨h1,h2,h3⟩
theorem KT.put(r:KT H kvs xs)(k:List Key)(hb:H b=some (.tup (k.map kV)))(ry:RelV y u) :
  KT H (putK kvs k y) (storedH xs k b u):=by
 have e:(kvs.any fun kv=>decide (kv.1=k))=(Vy xs k).isSome:=by
  rw[qd,(r.val k).isSome_eq,RE]
 unfold putK storedH;rw[e]
 by_cases q:(Vy xs k).isSome=true
 .rw[if_pos q,if_pos q];exact r.repl k ry
 .rw[if_neg q,if_neg q];exact W0 r ⟨rfl,hb,ry⟩
theorem KT.keeps(r:KT H kvs xs)(ht:∀b ys,H b=some (.tup ys)->H' b=some (.tup ys)):KT H' kvs xs:=Paired.mapP r fun _ _ z=>⟨z.1,ht _ _ z.2.1,z.2.2⟩
section
variable {P:OB}{w:OV}{H:Hp}{h:Heap}{a:Addr}
theorem yu(ok:HOk P w H h)(e:Rd H a u):ObjOk P w H h a u:=e.ok ok
theorem dM(ok:HOk P w H h)(e:Rd H a (.dK kvs)):kvs.length<=Om/\(a == PN)=false/\∃vs,KV kvs vs/\h.DictOf (bE P w) a vs:=show ObjOk P w H h a (.dK kvs) from yu ok e
theorem yS(ok:HOk P w H h)(e:H a=some (.dK kvs)):kvs.length<=Om/\(a == PN)=false/\∃vs,KV kvs vs/\h.DictOf (bE P w) a vs:=dM ok (.inl e)
theorem jL(ok:HOk P w H h)(e:H a=some (.tup (ks.map kV))):(SO (bE P w)).is h ks a:=by
 obtain⟨_,its,r,o,h1,h2,n,h3⟩:=(show ObjOk P w H h a (.tup (ks.map kV)) from ok a _ e);exact⟨o,its.toArray,n,h1,h2,h3,by simpa using uv r⟩
theorem i6(ok:HOk P w H h)(e:Rd H a (.dT kvs)):kvs.length<=Om/\(a == PN)=false /\
  ∃xs,KT H kvs xs/\h.DictOfH (SO (bE P w)) a xs:=by
 obtain⟨z,y,xs,r,o,es,ep,h1,h2,h3,h4,h5⟩:=(show ObjOk P w H h a (.dT kvs) from yu ok e);refine⟨z,y,xs,r,o,es,ep,h1,h2,h3,h4,fun x hx=>?_,h5⟩
 have all:∀{l:List (List Key×V)}{m:List (List Key×Addr×Oa)},KT H l m->∀x∈m,(SO (bE P w)).is h x.1 x.2.1:=by
  intro l m q
  induction q with
  |nil=>intro x hx;exact nomatch hx
  |@cons p q ps qs hq t ih=>
   intro x hx
   rcases Oy.mp hx with e|hx
   .subst e
    exact jL ok (by rw[←hq.1];exact hq.2.1)
   .exact ih x hx
 exact all r x hx
theorem Ju(ok:HOk P w H h)(e:H a=some (.dT kvs)):kvs.length<=Om/\(a == PN)=false /\
  ∃xs,KT H kvs xs/\h.DictOfH (SO (bE P w)) a xs:=i6 ok (.inl e)
end
def DGet(H:Hp)(a:Addr)(y:V)(r:Option V):Prop:=(∃kvs k,Rd H a (.dK kvs)/\y=kV k/\r=bQ kvs k)\/∃kvs k b,Rd H a (.dT kvs)/\y=.ref b/\H b=some (.tup (k.map kV))/\r=bQ kvs k
def DPut(H:Hp)(a:Addr)(y v:V)(H':Hp):Prop:=
 (∃kvs k,H a=some (.dK kvs)/\y=kV k/\kvs.length<Om/\H'=upd H a (.dK (putK kvs k v))) \/
 ∃kvs k b,H a=some (.dT kvs)/\y=.ref b/\H b=some (.tup (k.map kV))/\kvs.length<Om/\H'=upd H a (.dT (putK kvs k v))
theorem DPut.k{H:Hp}{a:Addr}{kvs:List (Key×V)}{k:Key}{v:V}(e:H a=some (.dK kvs))(hl:kvs.length<Om):DPut H a (kV k) v (upd H a (.dK (putK kvs k v))):=.inl ⟨kvs,k,e,rfl,hl,rfl⟩
section
variable {X:Cx}{pins:List (Addr×Obj)}{σ:St}{H:Hp}{s:Od}{a:Addr}{y v:V}{u r:Oa}{o:Option V}{A:O5}{E:Oa->Od->Prop}
theorem Inv.big(I:Inv X pins σ H s):PN<s.heap.objs.size:=by
 have h:O9<s.heap.objs.size:=(I.mod.glob.keeps I.bk).lt;exact Tq (by decide) h
theorem Ce(hu:A.units+1<TY)(I:Inv X pins σ H s)(g:DGet H a y (some v))(ry:RelV y u)(h:∀w' s',Inv X pins σ H s'->RelV v w'->Q w' s') :
  OU (OQ X.prog X.w) A (SF (.ref a) u) Q E s:=by
 rcases g with⟨kvs,k,e,ey,l⟩|⟨kvs,k,b,e,ey,eb,l⟩
 .subst ey
  obtain⟨z,hd,vs,rel,dd⟩:=dM I.hok e;obtain⟨w',hw,rw'⟩:=RelO.some_of (v:=v) (o:=R7 vs k) (by rw[l];exact rel.val k);exact wpAny_getItem_of (hW ry) dd.mapOf hw (h w' _ (I.tok _) rw')
 .subst ey
  cases (show u=OZ b from ry);obtain⟨z,hd,xs,rel,dd⟩:=i6 I.hok e;obtain⟨w',hw,rw'⟩:=RelO.some_of (v:=v) (o:=(Vy xs k).map (·.2)) (by rw[l];exact rel.val k);obtain⟨p,hp,hp2⟩:=OY.mp hw;refine wpAny_getItem_heap (QN hu) (jL I.hok eb) dd hp ?_;rw[hp2];exact h w' _ (I.tok _) rw'
theorem J9(hu:A.units+1<TY)(I:Inv X pins σ H s)(g:DGet H a y o)(ry:RelV y u)(h:∀s',Inv X pins σ H s'->Q (.bool o.isSome) s') :
  OU (OQ X.prog X.w) A (OM .In u (.ref a)) Q E s:=by
 rcases g with⟨kvs,k,e,ey,l⟩|⟨kvs,k,b,e,ey,eb,l⟩
 .subst ey
  obtain⟨z,hd,vs,rel,dd⟩:=dM I.hok e;refine wpAny_in_of (hW ry) hd dd.mapOf ?_;rw[←(rel.val k).isSome_eq,←l];exact h _ (I.tok _)
 .subst ey
  cases (show u=OZ b from ry);obtain⟨z,hd,xs,rel,dd⟩:=i6 I.hok e;refine wpAny_in_heap (QN hu) (jL I.hok eb) hd dd ?_;have q:=(rel.val k).isSome_eq;rw[RE] at q;rw[←q,←l];exact h _ (I.tok _)
theorem FV(hu:A.units+1<TY)(I:Inv X pins σ H s)(g:DGet H a y o)(ry:RelV y u)(h:∀s',Inv X pins σ H s'->Q (.bool (!o.isSome)) s') :
  OU (OQ X.prog X.w) A (OM .NotIn u (.ref a)) Q E s:=by
 rcases g with⟨kvs,k,e,ey,l⟩|⟨kvs,k,b,e,ey,eb,l⟩
 .subst ey
  obtain⟨z,hd,vs,rel,dd⟩:=dM I.hok e;refine wpAny_notIn_of (hW ry) hd dd.mapOf ?_;rw[←(rel.val k).isSome_eq,←l];exact h _ (I.tok _)
 .subst ey
  cases (show u=OZ b from ry);obtain⟨z,hd,xs,rel,dd⟩:=i6 I.hok e;refine wpAny_notIn_heap (QN hu) (jL I.hok eb) hd dd ?_;have q:=(rel.val k).isSome_eq;rw[RE] at q;rw[←q,←l];exact h _ (I.tok _)
theorem qQ(I:Inv X pins σ H s)(mu:Mut (H a))(hs:Rw a s.heap h')(he:∃q,h'.get? a=some q)(new:ObjOk X.prog X.w (upd H a ob) h' a ob) :
  Inv X pins σ (upd H a ob) { s with heap:=h',toks:=t' }:=I.write (x:=a) (e:=a) mu (.inl rfl) (fun b q hb z=>(hs.2 b hb).trans z) he new
theorem n9(z:kvs.length<=Om)(hd:(a == PN)=false)(rel:KV kvs vs)(dd:h'.DictOf (bE P w) a vs) :
  ObjOk P w H' h' a (.dK kvs):=⟨z,hd,vs,rel,dd⟩
theorem Cd(hu:A.units+1<TY)(I:Inv X pins σ H s)(g:DPut H a y v H')(ry:RelV y u)(rv:RelV v r)(h:∀s',Inv X pins σ H' s'->Q () s') :
  OU (OQ X.prog X.w) A (WM (.ref a) u r) Q E s:=by
 rcases g with⟨kvs,k,e,ey,l,eH⟩|⟨kvs,k,b,e,ey,eb,l,eH⟩
 .subst ey eH
  obtain⟨z,hd,vs,rel,dd⟩:=yS I.hok e
  have hz:vs.length<=sizeLine:=by rw[←rel.length];exact z
  have hl:(putK kvs k v).length<=sizeLine:=by have:=pB kvs k v;omega
  refine wpAny_setItem_pairs (hsz:=hz) (hW ry) dd fun h' dd' hs=>h _ ?_
  have he:∃q,h'.get? a=some q:=let ⟨q,_,_,hq,_⟩:=dd';⟨q,hq⟩
  exact qQ I (by rw[e];exact P4) hs he (n9 hl hd (rel.put k rv) dd')
 .subst ey eH
  cases (show u=OZ b from ry);obtain⟨z,hd,xs,rel,dd⟩:=Ju I.hok e
  have hz:xs.length<=sizeLine:=by rw[←Qy rel];exact z
  have hl:(putK kvs k v).length<=sizeLine:=by have:=pB kvs k v;omega
  refine wpAny_setItem_heap (hsz:=hz) (QN hu) (jL I.hok eb) dd fun h' dd' hs=>h _ ?_;obtain⟨q,es,ep,hq,h2,h3,h4,_,h5⟩:=dd';refine qQ I (by rw[e];exact P4) hs ⟨q,hq⟩ ⟨hl,hd,_,(rel.put k eb rv).keeps fun c ys ec=>?_,q,es,ep,hq,h2,h3,h4,h5⟩;rw[aQ (IY ec e (fun z=>nomatch z))];exact ec
end
section
variable {X:Cx}{pins:List (Addr×Obj)}{σ:St}{H:Hp}{s:Od}{a:Addr}{kvs:List (Key×V)}{k:Key}{u:Oa}{A:O5}{E:Oa->Od->Prop}
theorem Jy(I:Inv X pins σ H s)(e:H a=some (.dK kvs))(ry:RelV (kV k) u)(l:bQ kvs k=some v)(hm:more=[]\/∃x,more=[x])
  (h:∀w' s',Inv X pins σ (upd H a (.dK (c8 kvs k))) s'->RelV v w'->Q w' s'):OU (OQ X.prog X.w) A (call (.builtin "dict.pop") (.ref a::u::more)) Q E s:=by
 obtain⟨z,hd,vs,rel,dd⟩:=yS I.hok e;obtain⟨w',hw,rw'⟩:=RelO.some_of (v:=v) (o:=R7 vs k) (by rw[←l];exact rel.val k)
 have hp:(keyPart u).isSome=true:=by
  cases k with
  |inl i=>obtain⟨t,q⟩:=(show ∃t,u=R9 i t from ry);subst q;rfl
  |inr x=>obtain⟨t,q⟩:=(show ∃t,u=RL x t from ry);subst q;rfl
 have ha:argsOk "dict.pop" ⟨.ref a::u::more,[]⟩:=by
  rcases hm with q|⟨x,q⟩
  .subst q;exact PySem.F.args_dict_pop_2 _ _
  .subst q;exact PySem.F.args_dict_pop_3 _ _ _
 refine Tr TL dd.typeIs PySem.F.entry_dict_pop ha (meets_dict_pop_there (bE X.prog X.w) a (hW ry) more hm hp)
  ⟨vs,w',dd,by rw[←rel.length];exact z,hw,fun h' dd' hs=>h w' _ ?_ rw'⟩
 have he:∃q,h'.get? a=some q:=let ⟨q,_,_,hq,_⟩:=dd';⟨q,hq⟩
 exact qQ I (by rw[e];exact P4) hs he (n9 (OX (Dx kvs k) z) hd (rel.drop k) dd')
theorem JA(I:Inv X pins σ H s)(e:Rd H a (.dK kvs))(h:∀t s',Inv X pins σ H s'->Q (.int kvs.length t) s'):OU (OQ X.prog X.w) A (call (.builtin "len") [.ref a]) Q E s:=by
 obtain⟨z,hd,vs,rel,dd⟩:=dM I.hok e;refine call_len_dict hd dd (by rw[←rel.length];rw[Vt] at z;omega) ?_;rw[←rel.length];exact h _ _ (I.tok _)
end
theorem tB(I:Inv X pins σ H s)(g:DGet H a y o):s.TypeIs (.ref a) "dict":=by
 rcases g with⟨kvs,k,e,_,_⟩|⟨kvs,k,b,e,_,_,_⟩
 .obtain⟨_,_,vs,_,dd⟩:=dM I.hok e
  exact dd.typeIs
 .obtain⟨_,_,xs,_,dd⟩:=i6 I.hok e
  exact dd.typeIs
def IB(td ty tv:TE):TS:=fun D σ H=>tv σ H fun v H1=>td σ H1 fun x H2=>ty σ H2 fun y H3=>∃a H4,x=.ref a/\DPut H3 a y v H4/\D.nx σ H4
section
variable {X:Cx}{o i e value:Expr}{pos pos' tpos:Pos}{td ty tv:TE}
theorem EH(hu:X.A.units+1<TY)(ho:PE X o td)(hi:PE X i ty)(hv:PE X value tv)(hs:Pm value (some (.Subscript o i pos')) pos.line X.env=pure false) :
  PS X (.Assign [.Subscript o i pos'] value pos) (IB td ty tv):=by
 intro pins s σ H D I h;refine wpAny_Assign_Subscript (thn (hv pins s σ H _ I h) fun r s1 ⟨v,H1,I1,rv,q1⟩=>thn (ho pins s1 σ H1 _ I1 q1) fun u s2 ⟨x,H2,I2,rx,q2⟩=>thn (hi pins s2 σ H2 _ I2 q2) fun iv s3 ⟨y,H3,I3,ry,a,H4,ex,g,q3⟩=>?_) hs;subst ex;obtain rfl:u=OZ a:=rx;exact Cd hu I3 g ry rv fun s4 I4=>⟨σ,H4,I4,q3⟩
end
theorem Dy(h:Heap)(hb:PN<h.objs.size):ObjOk P w H (h.push { cls:=.type "dict",data:=.dict #[] }) h.objs.size (.dK []):=⟨PH _,beq_eq_false_iff_ne.mpr (Qa (OF hb)),[],.nil,VG h⟩
def Gv:TE:=fun _ H Q=>∀p,H p=none->Q (.ref p) (upd H p (.dK []))
section
variable {X:Cx}{pos:Pos}
theorem u4:PE X (.Dict [] [] pos) Gv:=fun pins s σ H Q I h=>
 wpAny_Dict_empty ⟨.ref s.heap.objs.size,_,I.laid (a:=s.heap.objs.size) (o:=.dK []) (t':=s.toks) (fun _ _ q=>Of _ q) (Ol _) (Dy s.heap I.big),rfl,h _ (I.hok.fresh (Ol _))⟩
end
def qZ:List (TE×TE)->St->Hp->(List (V×V)->Hp->Prop)->Prop
 |[],_,H,Q=>Q [] H
 |(tk,tv)::r,σ,H,Q=>tk σ H fun x H1=>tv σ H1 fun y H2=>qZ r σ H2 fun ps H3=>Q ((x,y)::ps) H3
abbrev VV:List (V×V)->List (Oa×Oa)->Prop:=Sf fun p q=>RelV p.1 q.1/\RelV p.2 q.2
def PPs(X:Cx)(pos:Pos)(keys:List (Option Expr))(values:List Expr)(trs:List (TE×TE)):Prop:=
 ∀(pins:List (Addr×Obj)) (s:Od) (σ:St) (H:Hp) (Q:List (V×V)->Hp->Prop),Inv X pins σ H s->qZ trs σ H Q ->
  OU (OQ X.prog X.w) X.A (evalPairs (pairTrees keys values X.env pos)) (fun vs s'=>∃ps H',Inv X pins σ H' s'/\VV ps vs/\Q ps H') X.xe s
def fR(kvs more:List (Key×V)):List (Key×V):=more.foldl (fun acc kv=>putK acc kv.1 kv.2) kvs
theorem KV.merge:∀{more:List (Key×V)}{rs:List (Key×Oa)}{kvs:List (Key×V)}{vs:List (Key×Oa)},KV more rs->KV kvs vs->KV (fR kvs more) (WQ vs rs):=by
 intro more rs kvs vs r;unfold KV at r
 induction r generalizing kvs vs with
 |nil=>intro q;exact q
 |@cons p q ps qs h t ih=>
  intro r0
  have e:KV (putK kvs p.1 p.2) (stored vs q.1 q.2):=by
   have:=r0.put p.1 h.2;rw[←h.1];exact this
  exact ih e
theorem sS:∀(more kvs:List (Key×V)),(fR kvs more).length<=kvs.length+more.length
 |[],kvs=>by show kvs.length<=kvs.length+0;omega
 |p::r,kvs=>by
  have h1:=sS r (putK kvs p.1 p.2);have h2:=pB kvs p.1 p.2;show (fR (putK kvs p.1 p.2) r).length<=_;rw[OH];omega
structure M1(X:Cx)(o:Expr)(m:Str)(apos:Pos)(e:Expr)(cpos:Pos):Prop where
 base:Pa o m X.env (eval o X.env)=eval o X.env
 few:((Pb cpos (Oh [e] X.env)).all (fun x=>!x.1)&&(Qo cpos (PF [] X.env)).all (fun x=>x.1.isSome)
  && decide (([e]:List Expr).length+([]:List Pq).length+(if ([]:List Pq).isEmpty then 0 else 1)<30))=true
 line:(apos.endLine == cpos.line)=true
 trees:Pb cpos (Oh [e] X.env)=[(false,eval e X.env)]
structure M2(X:Cx)(o:Expr)(m:Str)(apos:Pos)(e f:Expr)(cpos:Pos):Prop where
 base:Pa o m X.env (eval o X.env)=eval o X.env
 few:((Pb cpos (Oh [e,f] X.env)).all (fun x=>!x.1)&&(Qo cpos (PF [] X.env)).all (fun x=>x.1.isSome)
  && decide (([e,f]:List Expr).length+([]:List Pq).length+(if ([]:List Pq).isEmpty then 0 else 1)<30))=true
 line:(apos.endLine == cpos.line)=true
 trees:Pb cpos (Oh [e,f] X.env)=[(false,eval e X.env),(false,eval f X.env)]
def IsD(H:Hp)(a:Addr):Prop:=(∃kvs,Rd H a (.dK kvs))\/∃kvs,Rd H a (.dT kvs)
theorem Hs(I:Inv X pins σ H s)(d:IsD H a) :
  s.TypeIs (.ref a) "dict"/\(∀b,OZ a=.ref b->∃ob,s.heap.get? b=some ob/\ob.dict=none)/\(a == PN)=false:=by
 rcases d with⟨kvs,e⟩|⟨kvs,e⟩
 .obtain⟨_,hd,vs,_,dd⟩:=dM I.hok e
  refine⟨dd.typeIs,fun b q=>?_,hd⟩;cases q;obtain⟨ob,_,_,h1,h2,_⟩:=dd;exact⟨ob,h1,h2.2.1⟩
 .obtain⟨_,hd,xs,_,dd⟩:=i6 I.hok e
  refine⟨dd.typeIs,fun b q=>?_,hd⟩;cases q;obtain⟨ob,_,_,h1,h2,_⟩:=dd;exact⟨ob,h1,h2.2.1⟩
section
variable {X:Cx}{pins:List (Addr×Obj)}{σ:St}{H:Hp}{s:Od}{a:Addr}{y d:V}{u r:Oa}{o:Option V}{A:O5}{E:Oa->Od->Prop}
theorem HS(hu:A.units+1<TY)(I:Inv X pins σ H s)(g:DGet H a y o)(ry:RelV y u)(h:∀w' s',Inv X pins σ H s'->RelV (o.getD .non) w'->Q w' s') :
  OU (OQ X.prog X.w) A (call (.builtin "dict.get") [.ref a,u]) Q E s:=by
 rcases g with⟨kvs,k,e,ey,l⟩|⟨kvs,k,b,e,ey,eb,l⟩
 .subst ey
  obtain⟨z,hd,vs,rel,dd⟩:=dM I.hok e;refine Tr RJ dd.typeIs Ts (SY _ _) (meets_dict_get (bE X.prog X.w) a (hW ry) hd) ⟨_,dd.mapOf,h _ _ (I.tok _) ?_⟩;rw[l];exact(rel.val k).getD rfl
 .subst ey
  cases (show u=OZ b from ry);obtain⟨z,hd,xs,rel,dd⟩:=i6 I.hok e;refine Tr RJ dd.typeIs Ts (SY _ _) (meetsH_dict_get (SO (bE X.prog X.w)) a b hd) ⟨QN hu,k,xs,jL I.hok eb,dd,h _ _ (I.tok _) ?_⟩;rw[l];exact(rel.val k).getD rfl
end
def Gw(td ty:TE):TE:=fun σ H Q=>td σ H fun x H1=>∃a,x=.ref a/\IsD H1 a/\ty σ H1 fun y H2=>∃o,DGet H2 a y o/\Q (o.getD .non) H2
section
variable {X:Cx}{o e f:Expr}{apos cpos:Pos}{td ty tx:TE}
theorem CJ(hu:X.A.units+1<TY)(ho:PE X o td)(he:PE X e ty)(m:M1 X o "get" apos e cpos):PE X (.Call (.Attribute o "get" apos) [e] [] cpos) (Gw td ty):=by
 intro pins s σ H Q I h;refine wpAny_Call_method m.base m.few m.line Rr RJ PySem.F.type_dict_get (thn (ho pins s σ H _ I h) fun u s1 ⟨x,H1,I1,rx,a,ex,d,q1⟩=>?_);subst ex;obtain rfl:u=OZ a:=rx;obtain⟨t1,t2,_⟩:=Hs I1 d;refine⟨t1,t2,?_⟩;rw[m.trees];refine P0 rfl (QX (Rk (thn (he pins s1 σ H1 _ I1 q1) fun iv s2 ⟨y,H2,I2,ry,ov,g,q2⟩=>SD ?_)));exact HS hu I2 g ry fun w' s3 I3 rw'=>⟨_,H2,I3,rw',q2⟩
end
section
variable {X:Cx}{pins:List (Addr×Obj)}{σ:St}{H:Hp}{s:Od}{a:Addr}{kvs:List (Key×V)}{A:O5}{E:Oa->Od->Prop}
theorem DN(I:Inv X pins σ H s)(e:Rd H a (.dK kvs))(h:∀p s',H p=none->Inv X pins σ (upd H p (.dK kvs)) s'->Q (.ref p) s'):OU (OQ X.prog X.w) A (call (.type "dict") [.ref a]) Q E s:=by
 obtain⟨z,hd,vs,rel,dd⟩:=dM I.hok e;refine kt_call_dict hd dd (by rw[←rel.length];exact z) fun h' dd' hs=>?_;refine h _ _ (I.hok.fresh (Ol _)) (I.laid (a:=s.heap.objs.size) (o:=.dK kvs) (t':=s.toks) (fun b q hq=>?_) (Ol _) (n9 z (beq_eq_false_iff_ne.mpr (Qa (OF I.big))) rel dd'));exact(hs.2 b (OF (Ou hq))).trans (Of _ hq)
end
section
variable {X:Cx}{pins:List (Addr×Obj)}{σ:St}{H:Hp}{s:Od}{a:Addr}{y:V}{u:Oa}{A:O5}{E:Oa->Od->Prop}
end
end L2
namespace Att
open PySem PySem.W PySem.Calls PyProof.Rows
theorem zV:∀(ns:List Int) (vs:List Oa),WellAll P h vs (ns.map WData.int)->VM vs ns:=by
 intro ns
 induction ns with
 |nil=>
  intro vs w;rw[To] at w;cases w;exact .nil
 |cons n ns ih=>
  intro vs w;rw[OJ] at w
  cases w with
  |cons a b=>
   cases a;exact .cons _ _ (ih _ b)
theorem Bu{l:OpenLaw}(hn:l.most=some n){h:Heap}
  (hpre:l.row.toRowW.claim.pre args=true) (hwl:WellAll P h vals args) :
  ∃a vs ns,vals=[OZ a]/\args=[WData.list (ns.map WData.int)]/\h.get? a=some { cls:=.type "list",data:=.seq vs.toArray }/\VM vs ns/\ns.length<=n:=by
 have hsh:WShape.hasAll [] args [.list .int]=true:=(pre_splitW hpre).1;have hc:l.pre.holds [] { args:=args } = true:=(pre_splitW hpre).2;obtain⟨d,r,rfl,h1,h2⟩:=hasAllW_cons hsh;obtain rfl:=hasAllW_nil h2;obtain⟨xs,rfl,h3⟩:=hasW_list h1;obtain⟨ns,rfl⟩:=items_int h3
 have hlen:ns.length<=n:=by
  unfold OpenLaw.pre at hc
  have h4:(WTm.not (.lt (.lit (.int (n:Int))) (.len (.arg 0)))).holds [] { args:=[.list (ns.map .int)] } = true:=by
   have h4:=(holds_andW hc).1;rw[hn] at h4;exact h4
  have h5:=condW_of h4 (w_not (w_lt w_lit (w_len_list (w_arg rfl))));rw[OS] at h5;refine Nat.le_of_not_lt fun q=>?_
  have q':(n:Int)<((ns.length:Nat):Int):=by omega
  first
   |(rw[decide_eq_true q'] at h5;exact absurd h5 (by decide))
   |(simp at h5;omega)
 cases hwl with
 |cons w1 w2=>
  cases w2
  cases w1 with
  |list ho hall=>exact⟨_,_,ns,rfl,rfl,ho,zV ns _ hall,hlen⟩
theorem Bw(l:OpenLaw)(args:List WData):l.row.toRowW.claim.post args (.bool true) args=true:=
 postW_of (r:=l.row.toRowW) (X:=(true == true))
  (show WShape.has [] (.bool true) .bool=true by first|rfl|decide|simp[WShape.has,WShape.arms,WShape.armsAll])
  (show (WTm.eq .res (.lit (.bool true))).value [] { args:=args,res:=some (.bool true),after:=args } = some (.bool (true == true)) from w_eq_bool (w_res rfl) w_lit) rfl
theorem AM{l:OpenLaw}{XP:(Str->Option Oa)->Heap->Prop}{YP:OV->Heap->Prop}{d:DefRec}
  (hn:l.most=some n) (hdf:d.params.defaults=[])
  (call:∀(w:OV) (s₀ s₁:Od) (mg mb:Str->Option Oa) (fa:Addr) (o:Obj) (pm cd doc:Oa) (a:Addr) (vs:List Oa) (ns:List Int),
   Ground q loose [] XP w s₀ mg mb s₁.heap->YP w s₁.heap ->
   s₁.heap.get? fa=some o->o.data=.func (docDef d.name d.params d.body d.scope pm cd doc)->s₁.heap.CodeRec cd d.name->mg d.name=some (.ref fa) ->
   s₁.heap.get? a=some { cls:=.type "list",data:=.seq vs.toArray }->VM vs ns->ns.length<=n->s₁.gens = #[] ->
   UV (OQ l.prog w) Tt (.call (.ref fa) ⟨[.ref a],[]⟩) (fun r s'=>r=.ok (.ret (.bool true))/\OldK s₁.heap s'.heap/\s'.os=s₁.os/\Sx s'.gens) s₁) :
  WalkO q loose XP YP l.row.toRowW d [] (fun f vs=>Tu f vs):=by
 intro w s₀ s₁ mg mb G Y fa o pm cd doc dV kV ho hd hcd hD hmg hg args vals as hpre hlay hrd hwl hlo;obtain rfl:dV=.none:=Dflts.none hD hdf;obtain rfl:kV=.none:=Dflts.noKw hD;obtain⟨a,vs,ns,rfl,rfl,hobj,hints,hlen⟩:=Bu hn hpre hwl;refine enter_call (UW (call w s₀ s₁ mg mb fa o pm cd doc a vs ns G Y ho (fd_plain hd) hcd hmg hobj hints hlen hg) fun r s' hq=>?_);obtain⟨rfl,h2,h3,h4⟩:=hq;exact⟨.inl ⟨.bool true,.bool true,[],rfl,fun _=>rfl,.bool true,Bw l _,fun _=>⟨W5,fun _ hm=>(nomatch hm)⟩⟩,h2,h3,h4⟩
section
variable {prog:OB}{w:OV}{A:O5}{E:Oa->Od->Prop}{s:Od}{K:Frag}
end
end Att
namespace L2
theorem ua:∀{vs:List Oa}{ns:List Int},VM vs ns->Vals (ns.map V.int) vs
 |_,_,.nil=>.nil
 |_,_,.cons n t h=>.cons ⟨t,rfl⟩ (ua h)
def sN(H:Hp):Prop:=∀b,H b=none\/∃o xs,H b=some (.frz o (.lst xs))
theorem C5{K:Frag}{mg mb:Str->Option Oa}{s₁:Od}{vs:List Oa}{ns:List Int}
  (KX:K.In s₁.heap) (hns:s₁.heap.Ns O9 mg) (hb:s₁.heap.Ns VO mb) (hbb:∀x:Str,x≠"__name__"->mb x=Qh x) (hlim:s₁.heap.NoLimit) (hg:s₁.gens = #[])
  (ha:s₁.heap.get? a=some { cls:=.type "list",data:=.seq vs.toArray }) (hi:VM vs ns) (hl:ns.length<=Om) (hr:Room k Tt)
  (F:∀base:Heap,K.In base->base.Ns O9 mg->FnOk P w K mg base CX k fa fd [x] sp) (hbind:∀(s:Od) (u:Oa),Uj s fd ⟨[u],[]⟩ [(x,u)])
  (hsp:∀H:Hp,sN H->SqL K H a (ns.map V.int)->sp [.ref a] H (fun v _=>v=.bl true) fun _ _ _=>False)
  (hCX:∀H e s',CX [] H s₁ (fun _ _ _=>False) e s'->False) :
  UV (OQ P w) Tt (.call (.ref fa) ⟨[.ref a],[]⟩) (fun r s'=>r=.ok (.ret (.bool true))/\OldK s₁.heap s'.heap/\s'.os=s₁.os/\Sx s'.gens) s₁:=by
 have rv:=ua hi;have lenV:=hi.length
 have core:∀H:Hp,sN H->SqL K H a (ns.map V.int)->HOk P w H s₁.heap->(∀b,H b≠none->b=a)->(H a≠none->K.lookup a=none) ->
   UV (OQ P w) Tt (.call (.ref fa) ⟨[.ref a],[]⟩) (fun r s'=>r=.ok (.ret (.bool true))/\OldK s₁.heap s'.heap/\s'.os=s₁.os/\Sx s'.gens) s₁:=by
  intro H hO hS hok hA hK;have base_of:∀{b:Addr}{o:Obj},s₁.heap.get? b=some o->H b=none->(gG s₁.heap H).get? b=some o:=fun e n=>Da e n
  have noA:∀{b:Addr}{o:Obj}{es:Array WH}{ep:Nat},s₁.heap.get? b=some o->o.data=.dict es ep->H b=none:=fun {b o es ep} e d=>by
   cases q:H b with
   |none=>rfl
   |some u=>
    have e':b=a:=hA b (by rw[q];simp);subst e';rw[ha] at e;cases e;have d':Data.seq vs.toArray _=Data.dict es ep:=d;cases d'
  have nsK:∀{b:Addr}{m:Str->Option Oa},s₁.heap.Ns b m->(gG s₁.heap H).Ns b m:=fun {b m} ⟨o,es,ep,e,d,r⟩=>⟨o,es,ep,base_of e (noA e d),d,r⟩
  have hKb:K.In (gG s₁.heap H):=fun b o e=>base_of (KX b o e) (by
   cases q:H b with
   |none=>rfl
   |some u=>
    have e':b=a:=hA b (by rw[q];simp);subst e'
    rw[hK (by rw[q];simp)] at e;cases e)
  have hM:Mod K mg (gG s₁.heap H):=⟨hKb,nsK hns,⟨mb,nsK hb,hbb⟩,let ⟨mc,h1,h2⟩:=hlim;⟨mc,nsK h1,h2⟩⟩;have e0:Env0 P w K mg (gG s₁.heap H) Tt [] s₁ H:=⟨rfl,hM,fun b o e=>EW e,WS (BU _ _),trivial,fun b hb=>absurd (show b∈([]:List Addr) from hb) (by simp),hok,.of_eq hg⟩;refine UW ((F _ hKb (nsK hns)).run Tt [] s₁ H ⟨[.ref a],[]⟩ [.ref a] [.ref a] _ _ hr e0 (hbind s₁ (.ref a)) (.cons rfl .nil) (hsp H hO hS)) fun r s' h=>?_
  cases r with
  |error e=>exact(hCX H e s' h).elim
  |ok fl=>
   cases fl with
   |next=>exact QM h
   |brk=>exact QM h
   |cont=>exact QM h
   |ret u=>
    obtain⟨v,H',os,bare,un,hok',r',q⟩:=h;have q':v=.bl true:=q;subst q';obtain rfl:u=Se true:=r';refine⟨rfl,OldK.of_keep fun b o e=>?_,os,bare⟩
    cases q:H b with
    |none=>exact un.keep b o e q (by intro z;exact absurd (show b∈([]:List Addr) from z) (by simp)) (by simp)
    |some u=>
     rcases hO b with z|⟨ob,xs,z⟩
     .rw[q] at z;cases z
     .have z2:=un.frzs b ob _ z
      obtain⟨e1,_⟩:=hok b _ z;obtain⟨e2,_⟩:=hok' b _ z2;rw[e] at e1;cases e1;exact e2
 cases hk:K.lookup a with
 |some o=>
  have e:=KX a o hk;rw[ha] at e;cases e;refine core (fun _=>none) (fun _=>.inl rfl) (.inr ⟨_,vs.toArray,_,hk,rfl,rfl,rfl,by rw[Os,lenV];exact hl,by simpa using rv⟩) (fun b u z=>by have z':(none:Option HO)=some u:=z;cases z') (fun b z=>absurd rfl z) fun z=>absurd rfl z
 |none=>
  refine core (fun b=>if b=a then some (.frz { cls:=.type "list",data:=.seq vs.toArray } (.lst (ns.map V.int))) else none) (fun b=>?_) (.inl (.inr ⟨{ cls:=.type "list",data:=.seq vs.toArray },if_pos rfl⟩)) (fun b u z=>?_) (fun b z=>?_) fun _=>hk
  .by_cases hb:b=a
   .exact .inr ⟨_,_,if_pos hb⟩
   .exact .inl (if_neg hb)
  .by_cases hb:b=a
   .have z':=(if_pos hb).symm.trans z
    cases z';subst hb;exact⟨ha,by rw[OS];exact hl,vs,_,rv,ha⟩
   .have z':=(if_neg hb).symm.trans z
    cases z'
  .by_cases hb:b=a
   .exact hb
   .exact absurd (if_neg hb) z
theorem Ee{l:TC}{XP:(Str->Option Oa)->Heap->Prop}{YP:OV->Heap->Prop}{d:DefRec}{K:WR->Frag}{CX:OV->CXT}{sp:OV->Sp}
  (hn:l.most=some n) (hn2:n<=Om) (hdf:d.params.defaults=[]) (hr:Room k Tt)
  (hY:∀(w:OV) (h:Heap),YP w h->(K w.params).In h)
  (F:∀(w:OV) (mg:Str->Option Oa) (fa:Addr) (h:Heap),(K w.params).In h->h.Ns O9 mg->mg d.name=some (.ref fa) ->
   ∃fd:PZ,(∀(s:Od) (u:Oa),Uj s fd ⟨[u],[]⟩ [(x,u)]) /\
    ∀base:Heap,(K w.params).In base->base.Ns O9 mg->FnOk l.prog w (K w.params) mg base (CX w) k fa fd [x] (sp w))
  (hsp:∀(w:OV) (H:Hp) (a:Addr) (ns:List Int),ns.length<=n->sN H->SqL (K w.params) H a (ns.map V.int)->sp w [.ref a] H (fun v _=>v=.bl true) fun _ _ _=>False)
  (hCX:∀(w:OV) (H:Hp) (s:Od) (e:Oa) (s':Od),CX w [] H s (fun _ _ _=>False) e s'->False) :
  UF q loose XP YP l.row.toRowW d [] (fun f vs=>Tu f vs):=by
 refine Att.AM hn hdf fun w s₀ s₁ mg mb fa o pm cd doc a vs ns G Y ho hd hcd hmg hobj hints hlen hg=>?_;have KX:=hY w _ Y;obtain⟨fd,hb,hF⟩:=F w mg fa _ KX G.T.g hmg;exact C5 KX G.T.g G.T.b G.T.builtins G.T.nolimit hg hobj hints (OX hlen hn2) hr hF hb (fun H hO hS=>hsp w H a ns hlen hO hS) fun H e s'=>hCX w H s₁ e s'
def dY(s:Stmt):Arguments:=match s with
 |.FunctionDef _ a _ _ _ _ _ _ _ _=>a
 |_=>{ posonlyargs:=[],args:=[],vararg:=none,kwonlyargs:=[],kw_defaults:=[],kwarg:=none,defaults:=[] }
def cM(s:Stmt):List Stmt:=match s with
 |.FunctionDef _ _ b _ _ _ _ _ _ _=>b
 |_=>[]
def bj(s:Stmt):Scope:=match s with
 |.FunctionDef _ _ _ _ _ _ sc _ _ _=>sc
 |_=>{ kind:=.function,names:=[],isGenerator:=false,isCoroutine:=false }
abbrev CX0:CXT:=fun _ _ _ _ _ _=>False
abbrev E0:XK:=fun _ _ _=>False
theorem IP:rQ CX0 X E0:=fun _ _ _ _ _ _ _ h=>h.elim
structure Fun(K:Frag)(x qual:Str)(st:Stmt)(f:Addr)(fd:PZ):Prop where
 ex:∃(oc:Oa) (od:Option Addr) (kV doc pm:Oa) (an:Option Addr) (cdv ct:Oa) (osl:Array (Option Oa)),
  fd=PB x qual (dY st) (cM st) (bj st) .none kV doc pm an cdv ct/\K.lookup f=some ⟨oc,od,.func fd,osl⟩/\QW K cdv qual=true
 kp:PC K (.ref f)=true
section
variable {P:OB}{w:OV}{K:Frag}{mg:Str->Option Oa}{base:Heap}
theorem Fun.ok{x qual:Str}{st:Stmt}{f:Addr}{fd:PZ}{N ps:List Str}{k:Nat}{sp:Sp}(F:Fun K x qual st f fd)(S:FnScope N ps (bj st))(len:∀vs H Q E,sp vs H Q E->vs.length=ps.length)
  (hbody:∀(cdv:Oa) (A:O5) (outer:List Env) (s:Od) (H:Hp) (vs:List V) (Q:VK) (E:XK),Room k (A.deeper (RP qual (bj st) s.heap.objs.size f cdv))->sp vs H Q E ->
   ∃t,PSs (ft CX0 P w K mg base N qual (bj st) f cdv A outer s H E).nox (cM st) t/\t { nx:=fun _ H'=>Q .non H',rt:=Q } (start N vs) H):FnOk P w K mg base CX0 (k+1) f fd ps sp:=by
 obtain⟨oc,od,kV,doc,pm,an,cdv,ct,osl,rfl,lk,hcd⟩:=F.ex;refine Jp lk hcd S len fun A outer s H vs Q E hr hsp=>?_;obtain⟨t,h,q⟩:=hbody cdv A outer s H vs Q E hr hsp;exact⟨t,h.nox,q⟩
theorem Fun.binds{x qual:Str}{st:Stmt}{f:Addr}{fd:PZ}{ps:List Str}(F:Fun K x qual st f fd)
  (h:∀(kV doc pm:Oa) (an:Option Addr) (cdv ct:Oa) (us:List Oa),us.length=ps.length->SQ (PB x qual (dY st) (cM st) (bj st) .none kV doc pm an cdv ct) ⟨us,[]⟩=pure (ps.zip us)):Binds K fd ps []:=by
 obtain⟨oc,od,kV,doc,pm,an,cdv,ct,osl,rfl,lk,hcd⟩:=F.ex;exact .all (h kV doc pm an cdv ct)
theorem xQ{x qual:Str}{st:Stmt}{f:Addr}{oc:Oa}{od an:Option Addr}{osl:Array (Option Oa)}{kV doc pm cdv ct:Oa}(l:K.lookup f=some ⟨oc,od,.func (PB x qual (dY st) (cM st) (bj st) .none kV doc pm an cdv ct),osl⟩)
  (c:QW K cdv qual=true) (k:PC K (.ref f)=true):Fun K x qual st f (PB x qual (dY st) (cM st) (bj st) .none kV doc pm an cdv ct):=⟨⟨oc,od,kV,doc,pm,an,cdv,ct,osl,rfl,l,c⟩,k⟩
end
section
variable {X:Cx}
theorem pv(i:Nat)(hN:X.N[i]? = some x:=by rfl)(hv:Vis X.env.scope x:=by first|exact Pc rfl|exact OW (Pc rfl)|exact OW (OW rfl))(hd:(x == ("__debug__" : Str))=false:=by decide)
  (hcd:(x == ("__classdict__" : Str))=false:=by decide):PE X (.Name x pos) (zg i):=GP hN hv hd hcd
end
theorem eM{A B:Prop}(h:B):if false=true then A else B:=by
 rw[if_neg Ox];exact h
theorem eJ{A B:Prop}(h:A):if true=true then A else B:=by
 rw[if_pos rfl];exact h
end L2
set_option maxHeartbeats 4000000
namespace K1
open PySem
def has(signs x:Str):Bool:=x.cps.toList.all fun c=>decide (c∈signs.cps.toList)
def LET:Str:="abcdefghijklmnopqrstuvwxyz"
def TXT:Str:="abcdefghijklmnopqrstuvwxyz0123456789-"
def single:N9->Bool
 |.int i=>decide ((if i<0 then -i else i)<=10^18)
 |.str x=>decide (x.length<=20)&&has TXT x
 |_=>false
def aF:Nat->N9->Bool
 |0,.tuple _=>false
 |n+1,.tuple ds=>decide (ds.length<=8)&&ds.all (aF n)
 |_,d=>single d
def aG:Nat->N9->Int
 |n+1,.tuple ds=>1+(ds.map (aG n)).sum
 |_,_=>1
def lsz:Nat->N9->Int
 |n+1,.tuple ds=>if ds.length>8 then 100 else 1+(ds.map (lsz n)).sum
 |_,d=>if single d=true then 1 else 100
def isName:N9->Bool
 |.str x=>decide (1<=x.length)&&decide (x.length<=8)&&has LET x
 |_=>false
def aE(d:N9):Bool:=aF 4 d&&decide (aG 4 d<=40)
theorem wZ{α:Type}(f:α->Int)(h:∀a,1<=f a):∀l:List α,(l.length:Int)<=(l.map f).sum
 |[]=>by simp
 |a::r=>by
  have:=wZ f h r;have:=h a;simp only[OJ,Qj,OH];omega
def tdp:Nat->N9->Bool
 |0,.tuple _=>false
 |n+1,.tuple ds=>ds.all (tdp n)
 |_,_=>true
theorem qa:∀(n:Nat) (d:N9),aF n d=true->tdp n d=true
 |0,d,h=>by cases d <;> first|rfl|cases h
 |n+1,d,h=>by
  cases d with
  |tuple ds=>
   have e:aF (n+1) (.tuple ds)=(decide (ds.length<=8)&&ds.all (aF n)):=rfl;rw[e,Oj] at h;show ds.all (tdp n)=true;exact Oz.mpr fun x hx=>qa n x (Oz.mp h.2 x hx)
  |_=>rfl
def kW(best:Int):List Int->Int
 |[]=>best
 |n::r=>kW (if n>best then n else best) r
def i9(d:Int):List Int->Int
 |[]=>d
 |n::r=>kW n r
def bq:Nat->N9->Int
 |n+1,.tuple ds=>1+i9 0 (ds.map (bq n))
 |_,_=>0
def yE(acc:Int):List Int->Int
 |[]=>acc
 |n::r=>yE (if 1+n>acc then 1+n else acc) r
def ldp:Nat->N9->Int
 |n+1,.tuple ds=>yE 1 (ds.map (ldp n))
 |_,_=>0
end K1
namespace L2
open PySem
def cI(env:Env):List (Str×QH)->List (Str×Addr)->List (Str×Addr)
 |[],acc=>acc
 |(n,k)::r,acc=>cI env r (if (k == .free)=true then (n,(env.cells.lookup n).getD 0)::acc else acc)
theorem p9:∀(l:List (Str×QH)) (acc:List (Str×Addr)),(∀x∈l,x.2=.free->∃c,env.cells.lookup x.1=some c) ->
  (forIn l acc (fun x r=>match x with
   | (name,kind)=>if (kind == PK)=true then (do
     let c ←cellOf env name
     pure (RV ((name,c)::r))) else pure (RV r)):Sem (List (Str×Addr)))=pure (cI env l acc)
 |[],acc,_=>rfl
 |(n,k)::r,acc,h=>by
  rw[List.forIn_cons];have hr:∀x∈r,x.2=.free->∃c,env.cells.lookup x.1=some c:=fun x hx=>h x (Ob _ hx)
  cases hk:(k == PK) with
  |false=>
   have ih:=p9 r acc hr
   have e:cI env ((n,k)::r) acc=cI env r acc:=by simp[cI,hk]
   rw[e];dsimp only;rw[if_neg (by rw[hk];exact Ox)];exact ih
  |true=>
   obtain⟨c,hc⟩:=h (n,k) Oc (by simpa using hk);have ih:=p9 r ((n,c)::acc) hr;have hc':env.cells.lookup n=some c:=hc
   have e:cI env ((n,k)::r) acc=cI env r ((n,c)::acc):=by simp[cI,hk,hc']
   have e2:cellOf env n=pure c:=by unfold cellOf;rw[hc']
   rw[e];dsimp only;rw[if_pos hk,e2];exact ih
theorem tW(h:∀x∈scope.names,x.2=.free->∃c,env.cells.lookup x.1=some c):closureFor scope env=pure (cI env scope.names []):=by
 have q:=p9 (env:=env) scope.names [] h;unfold closureFor;exact congrArg (fun t=>t >>= fun z=>pure z) q
theorem tG:∀(l:List (Str×QH)) (acc:List (Str×Addr)) (x:Str) (c:Addr),(∀y d,acc.lookup y=some d->env.cells.lookup y=some d) ->
  (∀y∈l,y.2=.free->∃c,env.cells.lookup y.1=some c)->(cI env l acc).lookup x=some c->env.cells.lookup x=some c
 |[],acc,x,c,ha,_,e=>ha x c e
 |(n,k)::r,acc,x,c,ha,h,e=>by
  have hr:∀x∈r,x.2=.free->∃c,env.cells.lookup x.1=some c:=fun x hx=>h x (Ob _ hx);refine tG r _ x c ?_ hr e;intro y d q
  cases hk:(k == PK) with
  |false=>rw[hk,if_neg Ox] at q;exact ha y d q
  |true=>
   rw[hk,if_pos rfl] at q;obtain⟨c',hc⟩:=h (n,k) Oc (by simpa using hk);have hc':env.cells.lookup n=some c':=hc;rw[PL] at q
   by_cases z:y=n
   .subst z
    simp[hc'] at q;rw[hc',q]
   .have z':(y == n)=false:=beq_eq_false_iff_ne.mpr z
    rw[z'] at q;exact ha y d q
theorem tY:∀(l:List (Str×QH)) (acc:List (Str×Addr)) (x:Str),(acc.lookup x).isSome=true->((cI env l acc).lookup x).isSome=true
 |[],_,_,h=>h
 |(n,k)::r,acc,x,h=>by
  refine tY r _ x ?_
  cases hk:(k == PK) with
  |false=>rw[if_neg Ox];exact h
  |true=>
   rw[if_pos rfl,PL]
   cases z:(x == n) with
   |true=>rfl
   |false=>exact h
theorem tX:∀(l:List (Str×QH)) (acc:List (Str×Addr)) (x:Str),(x,PK)∈l->((cI env l acc).lookup x).isSome=true
 |[],_,_,h=>absurd h (by simp)
 |(n,k)::r,acc,x,h=>by
  rcases Oy.mp h with e|e
  .cases e
   refine tY r _ _ ?_;rw[if_pos (by decide),PL];simp
  .exact tX r _ x e
structure CS(osc:Qi)(N:List Str)(x:Str)(scope:Qi)(N':List Str):Prop where
 kind:scope.kind=.function
 nocell:∀y∈scope.names,y.2≠.cell
 names:∀y∈scope.names,y.2=.local->scope.names.lookup y.1=some .local
 hx:scope.names.lookup x=some .local
 only:∀y∈scope.names,y.2=.local->y.1=x\/y.1=".0"
 free:∀y∈scope.names,y.2=.free->osc.names.lookup y.1=some .cell\/osc.names.lookup y.1=some .free
 nd:(x::N').Nodup
 n0:(".0" : Str)∉N'
 len:N'.length=N.length
 rel:∀p∈N'.zip N,p.1=p.2\/∀q∈scope.names,q.1≠p.1
theorem CS.at{osc:Qi}{N N':List Str}{x:Str}{scope:Qi}(S:CS osc N x scope N'){j:Nat}{y:Str}(h:N'[j]? = some y):N[j]? = some y\/∀q∈scope.names,q.1≠y:=by
 have hl:j<N'.length:=(Og.mp h).1
 have hl2:j<N.length:=by rw[←S.len];exact hl
 have m:(N'.zip N)[j]? = some (y,N[j]):=by
  rw[List.getElem?_zip_eq_some];exact⟨h,Pw hl2⟩
 rcases S.rel _ (O6 m) with z|z
 .left
  rw[Pw hl2];exact congrArg some z.symm
 .exact .inr z
theorem vd{c:Str×QH->Bool}:∀{names:List (Str×QH)}{y:Str}{k':QH},
  (names.map fun p=>if (p.2 == PK&&c p)=true then (p.1,Wx) else (p.1,p.2)).lookup y=some k'->∃k,(y,k)∈names/\(k'=k\/(k=.free/\k'=.cell))
 |[],_,_,h=>by simp at h
 |(n,k)::r,y,k',h=>by
  rw[OJ] at h
  by_cases hy:y=n
  .subst hy
   cases hc:(k == PK&&c (y,k)) with
   |false=>
    simp only[hc,QO,if_false,PL,beq_self_eq_true] at h;cases h;exact⟨k,Oc,.inl rfl⟩
   |true=>
    simp only[hc,if_true,PL,beq_self_eq_true] at h;cases h
    have e:k=.free:=by
     have:=(Oj _ _).mp hc;simpa using this.1
    exact⟨k,Oc,.inr ⟨e,rfl⟩⟩
  .have hb:(y == n)=false:=beq_eq_false_iff_ne.mpr hy
   have h':(r.map fun p=>if (p.2 == PK&&c p)=true then (p.1,Wx) else (p.1,p.2)).lookup y=some k':=by
    cases hc:(k == PK&&c (n,k)) with
    |false=>simp only[hc,QO,if_false,PL,hb] at h;exact h
    |true=>simp only[hc,if_true,PL,hb] at h;exact h
   obtain⟨k2,m,e⟩:=vd h';exact⟨k2,Ob _ m,e⟩
theorem pk(h:(Ul scope env).names.lookup y=some k'):∃k,(y,k)∈scope.names/\(k'=k\/(k=.free/\k'=.cell)):=by
 refine vd (c:=fun p=>env.scope.kind == .function&&env.kindOf p.1 == some .cell) ?_;rw[←h];unfold Ul
 congr 1
 refine O4 fun p _=>?_;obtain⟨n,k⟩:=p;simp only[Bool.and_assoc]
abbrev bV(X:Cx)(x:Str)(scope:Qi)(C:Addr)(s0:Od)(H0:Hp)(ex:List Addr)(N':List Str):Cx where
 prog:=X.prog
 w:=X.w
 K:=X.K
 mg:=X.mg
 base:=X.base
 A:=X.A
 N:=x::N'
 s₀:=s0
 H₀:=H0
 env:=TZ scope (cI X.env scope.names []) C X.env
 outer:=X.stack
 stack:=X.stack
 ex:=ex
 fn:=fun _=>false
 calm:=X.calm
 pn:=[]
 xe:=fun _ _=>False
section
variable {X:Cx}{pins:List (Addr×Obj)}{σ:St}{H:Hp}{s:Od}{x:Str}{scope:Qi}{N':List Str}
theorem qj(I:Inv X pins σ H s)(S:CS X.env.scope X.N x scope N'):∀y∈scope.names,y.2=.free->∃c,X.env.cells.lookup y.1=some c:=fun y hy e=>
 I.ok.has y.1 (S.free y hy e)
theorem uB(I:Inv X pins σ H s)(S:CS X.env.scope X.N x scope N')(e:(cI X.env scope.names []).lookup y=some c):X.env.cells.lookup y=some c:=tG scope.names [] y c (fun _ _ z=>by simp at z) (qj I S) e
theorem vF(I:Inv X pins σ H s)(S:CS X.env.scope X.N x scope N')(e:(y,PK)∈scope.names):∃c,(cI X.env scope.names []).lookup y=some c/\X.env.cells.lookup y=some c:=by
 obtain⟨c,hc⟩:=Q8.mp (tX (env:=X.env) scope.names [] y e);exact⟨c,hc,uB I S hc⟩
theorem tV(I:Inv X pins σ H s)(S:CS X.env.scope X.N x scope N')(hf:∀b∈fp,dU X pins H b)(ho:∀b∈fp,∃o,s.heap.get? b=some o)
  (hns:h'.Ns (s.heap.push oD).objs.size m) (hsb:Rw (s.heap.push oD).objs.size ((s.heap.push oD).push oC) h') :
  Inv (bV X x scope (s.heap.push oD).objs.size { s with heap:=s.heap.push oD } H (s.heap.objs.size::fp) N') [] (none::σ) H { s with heap:=h',toks:=tk }:=by
 have I3:Inv X pins σ H { s with heap:=s.heap.push oD,toks:=s.toks }:=I.kept fun b o e=>Of _ e;have hC:(s.heap.push oD).objs.size=s.heap.objs.size+1:=QY ..
 have up3:∀b o,(s.heap.push oD).get? b=some o->h'.get? b=some o:=fun b o e=>
  (hsb.2 b (OF (Ou e))).trans (Of _ e)
 have up:∀b o,s.heap.get? b=some o->h'.get? b=some o:=fun b o e=>up3 b o (Of _ e);have cl:=fun {y c} e=>uB (y:=y) (c:=c) I S e
 have clt:∀y c,X.env.cells.lookup y=some c->c<s.heap.objs.size:=fun y c e=>let ⟨v,q⟩:=I.cell y c e;q.lt
 have inner:∀{y:Str}{k':QH},(Ul scope X.env).names.lookup y=some k'->(k'=.cell\/k'=.free)->(y,PK)∈scope.names:=fun {y k'} e hk=>by
  obtain⟨k,mem,r⟩:=pk e
  rcases r with r|⟨r,_⟩
  .rcases hk with z|z
   .exact absurd (r.symm.trans z) (S.nocell _ mem)
   .rw[←r.symm.trans z];exact mem
  .rw[←r];exact mem
 have ok:(bV X x scope (s.heap.push oD).objs.size { s with heap:=s.heap.push oD } H (s.heap.objs.size::fp) N').Ok:=by
  refine⟨I.ok.mod,S.kind,I.ok.glob,I.ok.blt,Ol _,fun y z c e1 e2=>I.ok.inj y z c (cl e1) (cl e2),fun y hk=>?_,fun y c e=>(nomatch e),I.ok.hd,I.ok.frames,.inl rfl,fun b hb=>?_,fun b o e=>?_,
   OX (OX I.ok.bsz I.sz) (by show s.heap.objs.size<=(s.heap.push oD).objs.size;omega),fun b o e hb=>?_,fun b hb z=>?_,I3.stack,I.stkFree⟩
  .have mem:(y,PK)∈scope.names:=by
    rcases hk with z|z
    .exact inner z (.inl rfl)
    .exact inner z (.inr rfl)
   obtain⟨c,hc,_⟩:=vF I S mem;exact⟨c,hc⟩
  .rcases Oy.mp hb with e|e
   .subst e
    exact⟨by show s.heap.objs.size≠(s.heap.push oD).objs.size;omega,fun y c e=>OF (clt y c (cl e))⟩
   .obtain⟨o,q⟩:=ho b e
    have q2:=Ou q;exact⟨by show b≠(s.heap.push oD).objs.size;rw[hC];exact OF (RF q2),fun y c e'=>(hf b e).2.2.2.2.1 y c (cl e')⟩
  .exact⟨Of _ (I.bs b o e).1,(I.bs b o e).2⟩
  .rcases Oy.mp hb with z|z
   .have q2:=Ou (I.bs b o e).1
    rw[z] at q2;exact PQ _ q2
   .rcases(hf b z).2.2.2.1 with q|q
    .exact I.ok.noex b o e q
    .have q2:=Ou (I.ok.bs b o e).1
     exact PQ _ (OA q2 q)
  .have z':=I.stkSub b z
   rcases Oy.mp hb with e|e
   .subst e
    rcases Oy.mp z' with q|q
    .have q2:=I.lt
     rw[←q] at q2;exact PQ _ q2
    .exact I.nofs (Ol _) q
   .rcases Oy.mp z' with q|q
    .exact(hf b e).2.1 q
    .exact(hf b e).2.2.1 q
 obtain⟨mo,hno,hlo⟩:=I.loc;refine⟨ok,rfl,I.bare,Un.kept up3,⟨m,hns,fun i y v e1 e2 e3=>?_⟩,fun y c e=>?_,I.hok.fresh (by show s.heap.objs.size<=(s.heap.push oD).objs.size;omega),fun y c e=>I.freeC y c (cl e),fun p hp=>absurd hp (by simp),I.hok.kept up,?_⟩
 .cases i with
  |zero=>simp at e2
  |succ j=>
   have e1n:N'[j]? = some y:=by simpa using e1
   have vis:∃k,(y,k)∈scope.names:=by
    rcases(show Vis (Ul scope X.env) y from e3) with z|z|z <;> exact let ⟨k,mem,_⟩:=pk z;⟨k,mem⟩
   have e1':X.N[j]? = some y:=by
    rcases S.at e1n with z|z
    .exact z
    .obtain⟨k,mem⟩:=vis
     exact absurd rfl (z _ mem)
   have e2':σ[j]? = some (some v):=by simpa using e2
   have yx:y≠x:=fun z=>by
    have nd:=S.nd;rw[OR] at nd;refine nd.1 ?_;rw[←z];exact O6 e1n
   have kin:((Ul scope X.env).names.lookup y=some .cell\/(Ul scope X.env).names.lookup y=some .free):=by
    rcases(show Vis (Ul scope X.env) y from e3) with z|z|z
    .obtain⟨k,mem,r⟩:=pk z
     rcases r with r|⟨_,r⟩
     .rcases S.only _ mem r.symm with z2|z2
      .exact absurd z2 yx
      .exact absurd (O6 e1n) (by rw[show y=(".0" : Str) from z2];exact S.n0)
     .cases r
    .exact .inl z
    .exact .inr z
   have mem:(y,PK)∈scope.names:=by
    rcases kin with z|z
    .exact inner z (.inl rfl)
    .exact inner z (.inr rfl)
   have vo:Vis X.env.scope y:=by
    rcases S.free _ mem rfl with z|z
    .exact .inr (.inl z)
    .exact .inr (.inr z)
   obtain⟨u,ru,lk⟩:=hlo j y v e1' e2' vo;refine⟨u,ru,.inr ⟨kin,?_⟩⟩;obtain⟨c,hc,hc'⟩:=vF I S mem;refine⟨c,hc,?_⟩
   rcases lk with⟨z,_⟩|⟨_,c2,z2,q⟩
   .exfalso
    have z':X.env.scope.names.lookup y=some .local:=z
    rcases S.free _ mem rfl with r|r <;> (rw[z'] at r;cases r)
   .rw[hc'] at z2
    cases z2;obtain⟨o,q1,q2⟩:=q;exact⟨o,up _ _ q1,q2⟩
 .obtain⟨v,o,q1,q2⟩:=I.cell y c (cl e)
  exact⟨v,o,up _ _ q1,q2⟩
 .have:=I.len
  simp[this,S.len]
theorem tU(I:Inv X pins σ H s)(hf:∀b∈fp,dU X pins H b)
  (hCd:C=(s.heap.push oD).objs.size) (J:Inv (bV X x scope C { s with heap:=s.heap.push oD } H (s.heap.objs.size::fp) N') pins' σ' H1 s1) (hsb:Rw C s1.heap h') (hD0:H1 s.heap.objs.size=none)
  (new:∃its n,Vals ys its/\s1.heap.get? s.heap.objs.size=some { cls:=.type "list",data:=.seq its.toArray n }) (hz:ys.length<=Om) :
  Inv X pins σ (upd H1 s.heap.objs.size (.lst ys)) { s1 with heap:=h' }:=by
 have hC:C=s.heap.objs.size+1:=by rw[hCd];exact QY ..
 have nD:∀b o,s.heap.get? b=some o->b≠s.heap.objs.size:=fun b o e=>OF (Ou e)
 have nC:∀b o,s.heap.get? b=some o->b≠C:=fun b o e=>by rw[hC];exact OF (RF (Ou e))
 have up:∀b o,s.heap.get? b=some o->(s.heap.push oD).get? b=some o:=fun b o e=>Of _ e;have nx:∀b,b∉fp->b≠s.heap.objs.size->b∉s.heap.objs.size::fp:=fun b h1 h2 z=>(Oy.mp z).elim h2 h1
 have hDC:s.heap.objs.size≠C:=by rw[hC];exact OF (SZ _)
 have tr:∀b u,H1 b=some u->b≠s.heap.objs.size:=fun b u e z=>by rw[z,hD0] at e;cases e
 have trC:∀b u,H1 b=some u->b≠C:=fun b u e z=>by
  have:=J.free;rw[z] at e;have q:H1 C=none:=J.free;rw[q] at e;cases e
 obtain⟨its,n,rv,eD⟩:=new;have B:Un (frs X.stack) (s.heap.objs.size::fp) H H1 (s.heap.push oD) s1.heap:=J.base;refine I.call' (s':={ s1 with heap:=h' }) (ch:=fp) J.os ⟨fun b o e q h1 h2=>?_,fun b o e q h1 h2=>?_,fun b o e q h2=>?_,fun b o e h2=>?_,fun b xs e=>?_,fun b o u e=>?_,fun b ps e=>?_⟩ (fun b u e=>?_) J.bare fun b hb=>?_
 .exact(hsb.2 b (nC b o e)).trans (B.keep b o (up b o e) q h1 (nx b h2 (nD b o e)))
 .obtain⟨sl,z⟩:=B.slot b o (up b o e) q h1 (nx b h2 (nD b o e))
  exact⟨sl,(hsb.2 b (nC b o e)).trans z⟩
 .rw[aQ (nD b o e)]
  exact B.free b o (up b o e) q (nx b h2 (nD b o e))
 .obtain⟨o',z⟩:=B.there b o (up b o e) (nx b h2 (nD b o e))
  exact⟨o',(hsb.2 b (nC b o e)).trans z⟩
 .have z:=B.tups b xs e
  rw[aQ (tr b _ z)];exact z
 .have z:=B.frzs b o u e
  rw[aQ (tr b _ z)];exact z
 .obtain⟨more,z⟩:=B.tbls b ps e
  exact⟨more,by rw[aQ (tr b _ z)];exact z⟩
 .by_cases hb:b=s.heap.objs.size
  .subst hb
   rw[bt] at e;cases e;exact⟨hz,its,n,rv,(hsb.2 _ hDC).trans eD⟩
  .rw[aQ hb] at e
   refine(J.hok b u e).stay (fun c v hc q=>(hsb.2 c ?_).trans q) (fun c q=>by rw[aQ (tr c _ q)];exact q) fun c xs q=>by rw[aQ (tr c _ q)];exact q
   rcases hc with z|z
   .rw[z];exact trC b u e
   .exact trC c _ z
 .obtain⟨_,f1,_,f3,f4,f5⟩:=hf b hb
  exact⟨f3,f1,f4,f5⟩
end
def PTs(X:Cx)(ifs:List Expr)(t:TT):Prop:=
 ∀(pins:List (Addr×Obj)) (s:Od) (σ:St) (H:Hp) (Q:Bool->Hp->Prop) (E:Oa->Od->Prop),Inv X pins σ H s->t σ H Q ->
  OU (OQ X.prog X.w) X.A (forIn ifs true fun c r=>if r=true then do
   let ok ←VP c X.env (eval c X.env)
   pure (RV ok) else pure (RV r)) (TP X pins σ Q) E s
theorem EC:PTs X [] (fun _ H Q=>Q true H):=fun _ _ _ H _ _ I h=>wpAny_tests_nil ⟨H,I,h⟩
theorem EB(hx:X.xe=fun _ _=>False)(h:PT X c t):PTs X [c] t:=fun pins s σ H Q _ I q=>
 wpAny_tests_one (Qn (h pins s σ H Q I q) (fun _ _ z=>z) fun e s' z=>by rw[hx] at z;exact z.elim)
def oM(σ:St)(J:It)(tt:TT)(te:TE)(W:Nat->Nat->List V->Hp->Prop)(D:List V->Hp->Prop):Prop:=∀i m ys H,W i m ys H ->
 (J.stop i H/\ys.length<=Om/\D ys H)\/(J.go i H/\ys.length<Om/\∃N:List V->Hp->Prop,(∀ys' H',N ys' H'->∃m',m' < m/\W (i+1) m' ys' H')/\∀v H',J.yld i H v H'->tt (some v::σ) H' fun b H2=>
  if b=true then te (some v::σ) H2 fun y H3=>N (ys++[y]) H3 else N ys H2)
section
variable {X:Cx}{pins:List (Addr×Obj)}{σ:St}{H:Hp}{s:Od}{x:Str}{scope:Qi}{N':List Str}
theorem uA{fp:List Addr}{it C:Addr}{tn:Nat->Heap->Prop}{J:It}{oD:Obj}{elt iter:Expr}{ifs:List Expr}{px pos:Pos}{te:TE}{tt:TT}{W:Nat->Nat->List V->Hp->Prop}{Dn:List V->Hp->Prop}
  {R:WO->Od->Prop}{σ':St}{s4:Od}{m0:Nat} (hcalm:X.calm=true) (S:CS X.env.scope X.N x scope N') (hf:∀b∈fp,dU X pins H b) (ho:∀b∈fp,∃o,s.heap.get? b=some o) (hCd:C=(s.heap.push oD).objs.size)
  (T:Turn X.prog X.w X.K (.Name x px) J fp it tn) (I4:Inv (bV X x scope C { s with heap:=s.heap.push oD } H (s.heap.objs.size::fp) N') [] (none::σ) H s4) (st4:tn 0 s4.heap) (hD4:s4.heap.get? s.heap.objs.size=some { cls:=.type "list",data:=.seq #[] 0 })
  (hDn:H s.heap.objs.size=none) (hte:PE (bV X x scope C { s with heap:=s.heap.push oD } H (s.heap.objs.size::fp) N') elt te) (htt:PTs (bV X x scope C { s with heap:=s.heap.push oD } H (s.heap.objs.size::fp) N') ifs tt)
  (w0:W 0 m0 [] H) (turn:oM σ J tt te W Dn)
  (hR:∀s1 H1 σ1 ys its n,Inv (bV X x scope C { s with heap:=s.heap.push oD } H (s.heap.objs.size::fp) N') [] σ1 H1 s1->H1 s.heap.objs.size=none->Vals ys its->s1.heap.get? s.heap.objs.size=some { cls:=.type "list",data:=.seq its.toArray n }->ys.length<=Om->Dn ys H1->R (.ok .next) s1) :
  UV (OQ X.prog X.w) X.A (.compLoop (.ListComp elt [⟨.Name x px,iter,ifs,0⟩] scope pos) 0 (.ref it) (.ref s.heap.objs.size) (TZ scope (cI X.env scope.names []) C X.env)) R s4:=by
 have hC:C=s.heap.objs.size+1:=by rw[hCd];exact QY ..
 generalize hX:bV X x scope C { s with heap:=s.heap.push oD } H (s.heap.objs.size::fp) N'=X' at *
 have xP:X'.prog=X.prog:=by rw[←hX]
 have xW:X'.w=X.w:=by rw[←hX]
 have xK:X'.K=X.K:=by rw[←hX]
 have xA:X'.A=X.A:=by rw[←hX]
 have xE:X'.env=TZ scope (cI X.env scope.names []) C X.env:=by rw[←hX]
 have xC:X'.calm=true:=by rw[←hX];exact hcalm
 have xex:X'.ex=s.heap.objs.size::fp:=by rw[←hX]
 have xpn:X'.pn=[]:=by rw[←hX]
 have xxe:X'.xe=fun _ _=>False:=by rw[←hX]
 have xN:X'.N=x::N':=by rw[←hX]
 have xL:X'.env.locals=C:=by rw[xE];rfl
 have xloc:X'.env.scope.names.lookup x=some .local:=by rw[xE];exact lookup_relabel_local S.hx
 have lt:∀b∈fp,b<s.heap.objs.size:=fun b hb=>let ⟨_,e⟩:=ho b hb;Ou e
 have fpk:∀{pl:List (Addr×Obj)}{H':Hp},(∀p∈pl,p.1=s.heap.objs.size)->(∀b∈fp,H' b=none)->∀b∈fp,dU X' pl H' b:=fun {pl H'} hp hn b hb=>by
  have okk:=I4.ok
  have hm:b∈X'.ex:=by rw[xex];exact Ob _ hb
  refine⟨hn b hb,(okk.exf b hm).1,okk.exfs b hm,.inl hm,(okk.exf b hm).2,fun p hpl z=>?_⟩;rw[xpn] at hpl;have q1:=hp p (by simpa using hpl);have q2:=lt b hb;rw[←z,q1] at q2;exact PQ _ q2
 have dok:∀{pl:List (Addr×Obj)}{H':Hp},(∀p∈pl,p.1∈fp)->H' s.heap.objs.size=none->dU X' pl H' s.heap.objs.size:=fun {pl H'} hp hn=>by
  have okk:=I4.ok
  have hm:s.heap.objs.size∈X'.ex:=by rw[xex];exact Oc
  refine⟨hn,(okk.exf _ hm).1,okk.exfs _ hm,.inl hm,(okk.exf _ hm).2,fun p hpl z=>?_⟩;rw[xpn] at hpl;have q2:=lt p.1 (hp p (by simpa using hpl));rw[z] at q2;exact PQ _ q2
 refine codeAny_compLoop_tests (I:=fun m s'=>∃i σx H' ys its n,Inv X' [] (σx::σ) H' s'/\tn i s'.heap/\(∀b∈fp,H' b=none)/\H' s.heap.objs.size=none/\Vals ys its/\s'.heap.get? s.heap.objs.size=some { cls:=.type "list",data:=.seq its.toArray n }/\W i m ys H') ?_ m0
  ⟨0,none,H,[],[],0,I4,st4,fun b hb=>(hf b hb).1,hDn,.nil,hD4,w0⟩
 rintro m s5 ⟨i,σx,H5,ys,its,n,I5,st5,fr5,d5,rv,e5,w5⟩
 have I5d:Inv X' ([]++gq [s.heap.objs.size] s5.heap) (σx::σ) H5 s5:=I5.pinned (fun b hb=>by
   have e:b=s.heap.objs.size:=by simpa using hb
   rw[e];exact dok (fun p hp=>absurd hp (by simp)) d5) fun b hb=>by
   have e:b=s.heap.objs.size:=by simpa using hb
   rw[e];exact⟨_,e5,fun v z=>by cases z⟩
 have pD:([]++gq [s.heap.objs.size] s5.heap:List (Addr×Obj))=[(s.heap.objs.size,{ cls:=.type "list",data:=.seq its.toArray n })]:=by
  simp[gq,e5]
 rw[pD] at I5d
 have p1:∀p∈[(s.heap.objs.size,({ cls:=.type "list",data:=.seq its.toArray n }:Obj))],p.1=s.heap.objs.size:=fun p hp=>by
  have e:p=(s.heap.objs.size,{ cls:=.type "list",data:=.seq its.toArray n }):=by simpa using hp
  rw[e]
 have hsz:its.length=ys.length:=rv.length.symm
 rcases turn i m ys H5 w5 with⟨stop,hz,dn⟩|⟨go,hz,N,hN,step⟩
 .have q:=T.done X' xP xW xK xC i _ s5 (σx::σ) H5 (WT (OQ X.prog X.w) X.A (TZ scope (cI X.env scope.names []) C X.env) fun e s'=>R (.error e) s') I5d (fpk p1 fr5) st5 stop
  rw[xA] at q;refine Qn q (fun r s6 z=>?_) fun _ _ z=>z;obtain⟨rfl,I6⟩:=z;refine hR s6 H5 (σx::σ) ys its n ?_ d5 rv (I6.pin _ (Oo _ (Ov.mpr rfl))).1 hz dn;exact I6.pins_of fun p hp=>absurd hp (by simp)
 .have q:=T.item X' xP xW xK xC i _ s5 (σx::σ) H5 (WT (OQ X.prog X.w) X.A (TZ scope (cI X.env scope.names []) C X.env) fun e s'=>R (.error e) s') I5d (fpk p1 fr5) st5 go
  rw[xA] at q;refine Qn q (fun r s6 z=>?_) fun _ _ z=>z;obtain⟨u,rfl,z⟩:=z;dsimp only;have z':OU (OQ X.prog X.w) X.A (pure ()) _ _ s6:=z;refine On (m:=pure ()) (f:=fun _=>SK (.Name x px) (TZ scope (cI X.env scope.names []) C X.env) u) (Qn z' (fun _ s7 z=>?_) fun _ _ z=>z);obtain⟨v,H7,I7,rv7,y7,st7,fr7⟩:=z;have I7p:=I7.pinned (fpk p1 fr7) (T.obj _ _ st7);rw[←xE]
  have nd:X'.N.Nodup:=by rw[xN];exact S.nd
  have hi0:X'.N[0]? = some x:=by rw[xN];rfl
  refine Sy (qf (E:=WT (OQ X.prog X.w) X.A X'.env fun e s'=>R (.error e) s') (i:=0) I7p nd hi0 (.inl xloc) rv7 (fun s8 I8=>?_) (.inr xloc));have I8':Inv X' _ (some v::σ) H7 s8:=I8;have t8:=htt _ s8 (some v::σ) H7 _ (WT (OQ X.prog X.w) X.A X'.env fun e s'=>R (.error e) s') I8' (step v H7 y7);rw[xP,xW,xA] at t8;refine Qn t8 (fun ok s9 z=>?_) fun _ _ z=>z;obtain⟨H9,I9,q9⟩:=z
  have back:∀{s':Od}{H':Hp}{σ2:St},Inv X' ([(s.heap.objs.size,({ cls:=.type "list",data:=.seq its.toArray n }:Obj))]++gq fp s7.heap) σ2 H' s' ->
    tn (i+1) s'.heap/\(∀b∈fp,H' b=none)/\H' s.heap.objs.size=none/\s'.heap.get? s.heap.objs.size=some { cls:=.type "list",data:=.seq its.toArray n }/\Inv X' [] σ2 H' s':=fun {s' H' σ2} I'=>by
   refine⟨T.keep _ _ _ st7 fun b hb o e=>(I'.pin (b,o) (Oo _ (Oo _ (jl hb e)))).1,fun b hb=>?_,?_,?_,I'.pins_of fun p hp=>absurd hp (by simp)⟩
   .obtain⟨o,e,_⟩:=T.obj _ _ st7 b hb
    exact(I'.pin (b,o) (Oo _ (Oo _ (jl hb e)))).2.1
   .exact(I'.pin (s.heap.objs.size,_) (Oo _ (OI _ (Ov.mpr rfl)))).2.1
   .exact(I'.pin (s.heap.objs.size,_) (Oo _ (OI _ (Ov.mpr rfl)))).1
  cases ok with
  |false=>
   simp only[QO,if_false] at q9 ⊢;obtain⟨m',hm,w9⟩:=hN _ _ q9;obtain⟨a1,a2,a3,a4,a5⟩:=back I9;exact⟨m',hm,i+1,some v,H9,ys,its,n,a5,a1,a2,a3,rv,a4,w9⟩
  |true=>
   simp only[if_true] at q9 ⊢;have t9:=hte _ s9 (some v::σ) H9 _ I9 q9;rw[xP,xW,xA,xxe] at t9;refine Qn t9 (fun u2 s10 z=>?_) fun _ _ z=>z.elim;obtain⟨y,H10,I10,r10,q10⟩:=z;obtain⟨m',hm,w10⟩:=hN _ _ q10;obtain⟨a1,a2,a3,a4,a5⟩:=back I10;refine wpAny_list_append_plain ⟨n,a4⟩ (fun h' pl sb=>?_) (by rw[Os];omega);obtain⟨n',e'⟩:=pl;have D0:=dok (pl:=[]) (fun p hp=>absurd hp (by simp)) a3;refine⟨m',hm,i+1,some v,H10,ys++[y],its++[u2],n',a5.turned (t':=s10.toks) (fun b o hb e=>(sb.2 b hb).trans e) D0.1 D0.2.1 D0.2.2.2.1 D0.2.2.2.2.1 D0.2.2.2.2.2,?_,a2,a3,rv.append (.cons r10 .nil),by simpa using e',w10⟩;exact T.keep _ _ _ a1 fun b hb o e=>(sb.2 b (OF (lt b hb))).trans e
end
section
variable {X:Cx}{x:Str}{scope:Qi}{N':List Str}{elt iter:Expr}{ifs:List Expr}{px pos:Pos}{wi:TI}{te:TE}{tt:TT}
def yp(wi:TI)(tt:TT)(te:TE):TE:=fun σ H Q=>wi σ H fun J H1=>∃W:Nat->Nat->List V->Hp->Prop,(∃m,W 0 m [] H1)/\oM σ J tt te W fun ys H=>∀p,H p=none->Q (.ref p) (upd H p (.lst ys))
theorem EO(hc:X.calm=true)(S:CS X.env.scope X.N x scope N')(hi:PI X (.Name x px) iter wi)(he:∀C s0 H0 ex,PE (bV X x scope C s0 H0 ex N') elt te)
  (ht:∀C s0 H0 ex,PTs (bV X x scope C s0 H0 ex N') ifs tt) (hs:∀v,O0 iter X.env v=pure v:=by intro _;rfl):PE X (.ListComp elt [⟨.Name x px,iter,ifs,0⟩] scope pos) (yp wi tt te):=by
 intro pins s σ H Q I h;rw[eval_ListComp];refine SM (use:=none) rfl hs (tW (qj I S)) S.kind S.names (thn (hi pins s σ H _ I h) fun v s1 h1=>thn h1 fun itv s2 h2=>?_);obtain⟨it,fp,tn,J,H2,rfl,I2,T,st2,f2,W,⟨m0,w0⟩,turn⟩:=h2
 have ho:∀b∈fp,∃o,s2.heap.get? b=some o:=fun b hb=>let ⟨o,e,_⟩:=T.obj _ _ st2 b hb;⟨o,e⟩
 refine PP (T7 S.nocell (by intro y hy;simp at hy) (fun h' hns hsb=>?_) S.kind);have I4:=tV (x:=x) (scope:=scope) (tk:=s2.toks+([]:List (Str×Oa)).length) I2 S f2 ho hns hsb
 have up3:∀b o,(s2.heap.push { cls:=.type "list",dict:=none,data:=.seq ([]:List Oa).toArray }).get? b=some o->h'.get? b=some o:=fun b o e=>
  (hsb.2 b (OF (Ou e))).trans (Of _ e)
 have st4:tn 0 h':=T.keep _ _ _ st2 fun b _ o e=>up3 b o (Of _ e)
 have loop:=uA (elt:=elt) (iter:=iter) (ifs:=ifs) (pos:=pos) (R:=compPost (OQ X.prog X.w) X.A X.xe none (EP X pins σ Q) (.ref s2.heap.objs.size) (s2.heap.push { cls:=.type "list",dict:=none,data:=.seq ([]:List Oa).toArray }).objs.size) (σ':=σ)
  hc S f2 ho rfl T I4 st4 (up3 _ _ (OC _ rfl)) (I2.hok.fresh (Ol _)) (he _ _ _ _) (ht _ _ _ _) w0 turn fun s5 H5 σ5 ys its n J5 d5 rv e5 hz dn=>by
   obtain⟨m,hn,_⟩:=J5.loc;exact⟨m,hn,fun h'' sb=>⟨.ref s2.heap.objs.size,_,tU I2 f2 rfl J5 sb d5 ⟨its,n,rv,e5⟩ hz,rfl,dn _ d5⟩⟩
 exact Tv loop (T.self X.A 0 _ _ _ st4 loop)
def IC(i:Nat)(wi:TI)(tt:TT)(te:TE):TS:=fun D σ H=>wi σ H fun J H1=>∃W:Nat->Nat->List V->Hp->Prop,(∃m,W 0 m [] H1)/\oM σ J tt te W fun ys H=>∀p,H p=none->D.nx (σ.set i (some (.ref p))) (upd H p (.lst ys))
theorem EG(hc:X.calm=true)(S:CS X.env.scope X.N x scope N')(hN:X.N.Nodup)(hi':X.N[i]? = some y)(hy:Loc X.env.scope y)(hf':X.fn y=true\/X.env.scope.names.lookup y=some .local)
  (hi:PI X (.Name x px) iter wi) (he:∀C s0 H0 ex,PE (bV X x scope C s0 H0 ex N') elt te)
  (ht:∀C s0 H0 ex,PTs (bV X x scope C s0 H0 ex N') ifs tt) (hsw:Pm (.ListComp elt [⟨.Name x px,iter,ifs,0⟩] scope pos) (some (.Name y py)) spos.line X.env=pure true) (hs:∀v,O0 iter X.env v=pure v:=by intro _;rfl) :
  PS X (.Assign [.Name y py] (.ListComp elt [⟨.Name x px,iter,ifs,0⟩] scope pos) spos) (IC i wi tt te):=by
 intro pins s σ H D I h;rw[exec_Assign_Name_used _ _ _ _ hsw];refine On (wpAny_standAt (On ?_));show OU _ _ (do let _ ←comprehension (.ListComp elt [⟨.Name x px,iter,ifs,0⟩] scope pos) scope X.env _ (newList []) false (eval iter X.env) (some (SK (.Name y py) X.env))) _ _ s;refine On (Qn (SM (use:=some (SK (.Name y py) X.env)) (Q:=fun _ s'=>SP X pins D .next s') rfl hs (tW (qj I S)) S.kind S.names (thn (hi pins s σ H _ I h) fun v s1 h1=>thn h1 fun itv s2 h2=>?_)) (fun _ _ q=>OD (OD q)) fun _ _ q=>q);obtain⟨it,fp,tn,J,H2,rfl,I2,T,st2,f2,W,⟨m0,w0⟩,turn⟩:=h2
 have ho:∀b∈fp,∃o,s2.heap.get? b=some o:=fun b hb=>let ⟨o,e,_⟩:=T.obj _ _ st2 b hb;⟨o,e⟩
 refine PP (T7 S.nocell (by intro y hy;simp at hy) (fun h' hns hsb=>?_) S.kind);have I4:=tV (x:=x) (scope:=scope) (tk:=s2.toks+([]:List (Str×Oa)).length) I2 S f2 ho hns hsb
 have up3:∀b o,(s2.heap.push { cls:=.type "list",dict:=none,data:=.seq ([]:List Oa).toArray }).get? b=some o->h'.get? b=some o:=fun b o e=>
  (hsb.2 b (OF (Ou e))).trans (Of _ e)
 have st4:tn 0 h':=T.keep _ _ _ st2 fun b _ o e=>up3 b o (Of _ e)
 have hCs:s2.heap.objs.size<=(s2.heap.push { cls:=.type "list",dict:=none,data:=.seq ([]:List Oa).toArray }).objs.size:=by rw[QY];omega
 have hDC:(s2.heap.push { cls:=.type "list",dict:=none,data:=.seq ([]:List Oa).toArray }).objs.size≠s2.heap.objs.size:=by rw[QY];omega
 have loop:=uA (elt:=elt) (iter:=iter) (ifs:=ifs) (pos:=pos) (R:=compPost (OQ X.prog X.w) X.A X.xe (some (SK (.Name y py) X.env)) (fun _ s'=>SP X pins D .next s') (.ref s2.heap.objs.size) (s2.heap.push { cls:=.type "list",dict:=none,data:=.seq ([]:List Oa).toArray }).objs.size) (σ':=σ)
  hc S f2 ho rfl T I4 st4 (up3 _ _ (OC _ rfl)) (I2.hok.fresh (Ol _)) (he _ _ _ _) (ht _ _ _ _) w0 turn fun s5 H5 σ5 ys its n J5 d5 rv e5 hz dn=>by
   have J6:=tU I2 f2 rfl J5 (W6 _ _) d5 ⟨its,n,rv,e5⟩ hz;obtain⟨m,hn,_⟩:=J5.loc;refine Sy (ue (u:=.ref s2.heap.objs.size) J6 hN hi' hy (show RelV (.ref s2.heap.objs.size) _ from rfl) (fun s7 I7 ⟨a,sb,ha⟩=>?_) hf')
   have hCa:(s2.heap.push { cls:=.type "list",dict:=none,data:=.seq ([]:List Oa).toArray }).objs.size≠a:=by
    rcases ha with z|z
    .rw[z]
     exact Rx (OA I2.lt hCs)
    .obtain⟨v,q⟩:=I2.cell _ _ z
     exact Rx (OA q.lt hCs)
   have hn5:H5 (s2.heap.push { cls:=.type "list",dict:=none,data:=.seq ([]:List Oa).toArray }).objs.size=none:=J5.free;have fk:=I2.fpOk (b:=(s2.heap.push { cls:=.type "list",dict:=none,data:=.seq ([]:List Oa).toArray }).objs.size) (H':=upd H5 s2.heap.objs.size (.lst ys)) hCs (by rw[aQ hDC];exact hn5);refine⟨m,hn.sameBut sb hCa,fun h'' sb2=>⟨_,_,I7.turned (t':=s7.toks) (fun b o hb e=>(sb2.2 b hb).trans e) fk.1 fk.2.1 fk.2.2.2.1 fk.2.2.2.2.1 fk.2.2.2.2.2,dn _ d5⟩⟩
 exact Tv loop (T.self X.A 0 _ _ _ st4 loop)
end
section
variable {σ:St}{tt:TT}{te:TE}
end
def Its(z:Str):It:=⟨fun i _=>i<z.cps.size,fun i H v H'=>H'=H/\∃c,z.cps[i]? = some c/\v=.str ⟨#[c]⟩,fun i _=>z.cps.size<=i⟩
theorem uK{P:OB}{w:OV}{K:Frag}{tg:Expr}(z:Str)(t:Tok)(ty:String)(it:Addr)(hty:ty="str_ascii_iterator"\/ty="str_iterator") :
  Turn P w K tg (Its z) [it] it (fun i h=>h.IsStrIter it ty z t i) where
 mem:=by simp
 obj:=fun i h st b hb=>by
  have e:b=it:=by simpa using hb
  subst e;obtain⟨o,e,c,d⟩:=st;exact⟨o,e,fun v q=>by rw[d] at q;cases q⟩
 keep:=fun i h h' st k=>let ⟨o,e,r⟩:=st;⟨o,k it (by simp) o e,r⟩
 item:=by
  intro X hP hw hK hc i pins s σ H E I hf st hg;subst hP hw hK;have hi:i<z.cps.size:=hg;obtain⟨f0,f1,f2,f3,f4,f5⟩:=hf it (by simp)
  have fin:∀h',h'.IsStrIter it ty z t (i+1)->Rw it s.heap h'->∃u,(some (RL ⟨#[z.cps[i]]⟩ s.toks):Option Oa)=some u /\
    OU (OQ X.prog X.w) X.A (RU tg (.ref it) u) (fun _ s2=>∃x H',Inv X pins σ H' s2/\RelV x u/\(Its z).yld i H x H'/\s2.heap.IsStrIter it ty z t (i+1)/\∀b∈[it],H' b=none) E { s with heap:=h',toks:=s.toks+1 }:=fun h' st' sb=>by
   have I1:Inv X pins σ H { s with heap:=h',toks:=s.toks+1 }:=I.turned (fun b o hb e=>(sb.2 b hb).trans e) f0 f1 f3 f4 f5;obtain⟨o,e,c,d⟩:=id st';refine⟨_,rfl,lN (s:={ s with heap:=h',toks:=s.toks+1 }) (n:=ty) e c d ?_ ⟨.str ⟨#[z.cps[i]]⟩,H,I1,⟨_,rfl⟩,⟨rfl,z.cps[i],by simp[hi],rfl⟩,st',fun b hb=>(hf b hb).1⟩⟩
   rcases hty with e|e <;> (rw[e];decide)
  rcases hty with e|e
  .subst e
   exact wpAny_pyNext_ascii_item st (c:=z.cps[i]) (by simp[hi]) fin
  .subst e
   exact wpAny_pyNext_wide_item st (c:=z.cps[i]) (by simp[hi]) fin
 done:=by
  intro X hP hw hK hc i pins s σ H E I hf st hg;subst hP hw hK;have hi:z.cps.size<=i:=hg;obtain⟨f0,f1,f2,f3,f4,f5⟩:=hf it (by simp);have fin:∀h',Heap.ExtBut it s.heap h'->(none:Option Oa)=none/\Inv X pins σ H { s with heap:=h' }:=fun h' eb=>⟨rfl,I.turned (t':=s.toks) (fun b o hb e=>eb b o hb e) f0 f1 f3 f4 f5⟩
  rcases hty with e|e
  .subst e
   exact wpAny_pyNext_ascii_end (I.ok.hd hc) st (by simp;omega) fin
  .subst e
   exact wpAny_pyNext_wide_end (I.ok.hd hc) st (by simp;omega) fin
 self:=fun _ _ _ _ _ st h=>by
  rcases hty with e|e
  .subst e
   exact wpAny_pyIter_striter_ascii st h
  .subst e
   exact wpAny_pyIter_striter_wide st h
section
variable {X:Cx}{tg:Expr}
end
theorem all_range(bs:List Bool)(n:Nat)(hn:n=bs.length):(Py n).all (fun i=>bs.getD i false)=bs.all id:=by
 subst hn;rw[PJ,Oz,Oz];constructor
 .intro h b hb
  obtain⟨i,hi,rfl⟩:=List.getElem_of_mem hb;have:=h i (Rv.mpr hi);simpa[S3,hi] using this
 .intro h i hi
  have hi':=Rv.mp hi;have:=h bs[i] (Vm hi');simpa[S3,hi'] using this
theorem tN:∀(ns:List Int) (k:Nat),k<=ns.length->preSum (fun i=>ns.getD i 0) k=(ns.take k).sum
 |ns,0,_=>by simp[preSum]
 |ns,k+1,h=>by
  have hk:k<ns.length:=h;have ih:=tN ns k (QL hk)
  have e:(ns.take (k+1)).sum=(ns.take k).sum+ns.getD k 0:=by
   rw[U1,List.sum_append];simp[S3,hk]
  rw[e,←ih];rfl
section
variable {X:Cx}
theorem DY(hc:X.calm=true):CallR X (.builtin "all") (fun xs H Q=>∃(p:Addr) (bs:List Bool),xs=[.ref p]/\SqL X.K H p (bs.map V.bl)/\Q (.bl (bs.all id)) H):=by
 intro pins s σ H xs us Q I r h;obtain⟨p,bs,rfl,hq,q⟩:=h;obtain⟨u,rfl,ru⟩:=vals1 r;cases ru;obtain⟨its,rv,pl,hz⟩:=I.list hq
 have hlen:its.length=bs.length:=by have:=rv.length;simpa using this.symm
 have hlt:p<s.heap.objs.size:=by
  obtain⟨o,n,e,_⟩:=pl;exact Ou e
 refine call_all_walk (Qf pl.isList ?_);refine⟨s.heap.objs.size,_,_,_,_,_,fun i=>bs.getD i false,rfl,VZ (A:=X.A.in1) (I.ok.hd hc) _ p (OF hlt) its.toArray,⟨⟨_,OC _ rfl,rfl,rfl⟩,?_⟩,fun i v s' Q' E' hv hQ'=>?_,fun h' tk hk=>?_⟩
 .obtain⟨o,n,e,r⟩:=pl.isList
  exact⟨o,Of _ n,e,r⟩
 .have hi:i<its.length:=by
   have:=(QZ.mp hv).1;simpa using this
  have hi2:i<bs.length:=by omega
  obtain⟨u,hu,ru⟩:=rv.get (i:=i) (x:=.bl bs[i]) (by simp[hi2])
  have e:v=u:=by
   have hv':its[i]? = some v:=by simpa using hv
   rw[hu] at hv';exact(O8 hv').symm
  subst e;cases (show v=Se bs[i] from ru);refine Pz ?_
  have e:bs[i]=bs.getD i false:=by simp[S3,hi2]
  rw[e];exact hQ'
 .have e:(Py its.toArray.size).all (fun i=>bs.getD i false)=bs.all id:=all_range bs _ (by simpa using hlen)
  rw[e];exact⟨.bl _,H,I.kept (t':=tk) fun b o q=>hk b o (by simp;exact OF (Ou q)) (Of _ q),rfl,q⟩
theorem Fb{ns:List Int}{its:List Oa}(rv:Vals (ns.map V.int) its){i:Nat}{v:Oa}(hv:its.toArray[i]? = some v):∃t,v=.int (ns.getD i 0) t:=by
 have hlen:its.length=ns.length:=by have:=rv.length;simpa using this.symm
 have hi:i<its.length:=by
  have:=(QZ.mp hv).1;simpa using this
 have hi2:i<ns.length:=by omega
 obtain⟨u,hu,ru⟩:=rv.get (i:=i) (x:=.int ns[i]) (by simp[hi2])
 have e:v=u:=by
  have hv':its[i]? = some v:=by simpa using hv
  rw[hu] at hv';exact(O8 hv').symm
 subst e;obtain⟨t,e⟩:=(show ∃t,v=R9 ns[i] t from ru);refine⟨t,?_⟩;rw[e];simp[S3,hi2]
theorem DU(hc:X.calm=true):CallR X (.builtin "sum") (fun xs H Q=>∃(p:Addr) (ns:List Int),xs=[.ref p]/\SqL X.K H p (ns.map V.int)/\Q (.int ns.sum) H):=by
 intro pins s σ H xs us Q I r h;obtain⟨p,ns,rfl,hq,q⟩:=h;obtain⟨u,rfl,ru⟩:=vals1 r;cases ru;obtain⟨its,rv,pl,hz⟩:=I.list hq
 have hlen:its.length=ns.length:=by have:=rv.length;simpa using this.symm
 have hlt:p<s.heap.objs.size:=by
  obtain⟨o,n,e,_⟩:=pl;exact Ou e
 refine call_sum_walkG (Qf pl.isList ?_);refine⟨s.heap.objs.size,_,_,_,_,_,fun i=>ns.getD i 0,rfl,VZ (A:=X.A.in1) (I.ok.hd hc) _ p (OF hlt) its.toArray,⟨⟨_,OC _ rfl,rfl,rfl⟩,?_⟩,fun b hb=>?_,fun i v hv=>Fb rv hv,fun h' tk t' hk=>?_⟩
 .obtain⟨o,n,e,r⟩:=pl.isList
  exact⟨o,Of _ n,e,r⟩
 .rw[QY]
  rcases(by simpa using hb:b=s.heap.objs.size\/b=p) with e|e
  .rw[e];exact SZ _
  .rw[e];exact RF hlt
 .have e:preSum (fun i=>ns.getD i 0) its.toArray.size=ns.sum:=by
   rw[tN ns _ (by simp;omega)];rw[Pr (by simp;omega)]
  rw[e];exact⟨.int _,H,I.kept (t':=tk) fun b o q=>hk b o (by simp;exact OF (Ou q)) (Of _ q),⟨t',rfl⟩,q⟩
end
open K1 (kW i9)
section
variable {prog:OB}{w:OV}{A:O5}{R:WO->Od->Prop}{it S:Addr}{fp wr:List Addr}{P:Nat->Oa->Prop}{St:Nat->Heap->Prop}{ns:List Int}{kw:List (Str×Oa)}
end
section
variable {X:Cx}
end
section
variable {X:Cx}{e ed:Expr}{te td:TE}{p pos kpos:Pos}
end
section
variable {X:Cx}
theorem op_catG:OpR X (PY .Add) (fun x y H Q=>∃a b xs ys,x=.ref a/\y=.ref b/\SqT X.K H a xs/\SqT X.K H b ys/\xs.length+ys.length<=Om /\
  (xs=[]->Q (.ref b) H)/\(xs≠[]->ys=[]->Q (.ref a) H)/\(xs≠[]->ys≠[]->∀p,H p=none->Q (.ref p) (upd H p (.tup (xs++ys))))):=by
 intro pins s σ H x y v u Q I rx ry h;obtain⟨a,b,xs,ys,rfl,rfl,ha,hb,hz,q0,q1,q2⟩:=h
 by_cases hx:xs=[]
 .cases rx
  cases ry;obtain⟨its,r1,p1,_⟩:=I.tuple ha;obtain⟨its2,r2,p2,_⟩:=I.tuple hb;have hv:its=[]:=r1.nil_iff.mpr hx;obtain⟨⟨cls,dd,data,sl⟩,ho,hc,n,hd⟩:=id p1;obtain⟨⟨cls2,dd2,data2,sl2⟩,ho2,hc2,n2,hd2⟩:=id p2;simp only at hc hd hc2 hd2;subst hc hd hc2 hd2
  exact Th ⟨_,ho,rfl⟩ ⟨_,ho2,rfl⟩ SR UC RA Rp (Q9 _ _)
   (tuple_addW0 a b its.toArray its2.toArray n n2 dd dd2 sl sl2 (by simp[hv])) ⟨ho,ho2,⟨.ref b,H,I,rfl,q0 hx⟩⟩
 .exact EU pins s σ H _ _ v u Q I rx ry ⟨a,b,xs,ys,rfl,rfl,ha,hb,hx,hz,q1 hx,q2 hx⟩
theorem GD:SlR X (fun x lo hi H Q=>∃z:Str,x=.str z/\z.length<=Om/\Q (.str (P6 z lo hi)) H):=by
 intro pins s σ H x v vl vu lo hi sl Q I rx hs pl pu h;obtain⟨z,rfl,hz,q⟩:=h;obtain⟨t,rfl⟩:=rx
 have fin:∀l u:Option (Int×Tok),l.map (·.1)=lo->u.map (·.1)=hi->s.heap.IsSlice sl l u none->OU (OQ X.prog X.w) X.A (SF (.str z t) (.ref sl)) (EP X pins σ Q) X.xe s:=fun l u el eu h=>by
  refine wpAny_getItem_str_slice h rfl ?_;refine post_val_or_made (fun _=>?_) fun t' k=>?_
  .have:=sliceIndices_le (l.map (·.1)) (u.map (·.1)) z.length
   have e:=List.length_filterMap_le (fun i=>z.cps[i]?) (Vz z l u none);show ((Vz z l u none).filterMap (z.cps[·]?)).toArray.size<=Om;rw[Os];unfold Vz at e ⊢;simp only[Option.map_none,SW] at e ⊢;omega
  .refine⟨.str (P6 z lo hi),H,I.tok _,⟨t',?_⟩,q⟩
   rw[←el,←eu];rfl
 refine⟨"str",_,PySem.F.slot_str_getitem.lookup,Sq s z t,?_⟩
 cases pl with
 |none=>
  cases pu with
  |none=>exact fin none none rfl rfl hs
  |int j u=>exact fin none (some (j,u)) rfl rfl hs
 |int i u=>
  cases pu with
  |none=>exact fin (some (i,u)) none rfl rfl hs
  |int j u'=>exact fin (some (i,u)) (some (j,u')) rfl rfl hs
theorem op_mulS:OpR X (PY .Mult) (fun x y H Q=>∃z k,x=.str z/\y=.int k/\0<=k/\k<=2000/\z.length<=1000/\Q (.str (Q4 z k)) H):=by
 intro pins s σ H x y v u Q I rx ry h;obtain⟨z,k,rfl,rfl,h1,h2,h3,q⟩:=h;obtain⟨t,rfl⟩:=rx;obtain⟨t',rfl⟩:=ry;have hm:z.length*k.toNat<=1000*2000:=T8 h3 (by omega);refine SB.mul ⟨?_,fun g1 g2=>?_,fun g1 g2=>?_⟩ fun t' k'=>⟨.str _,H,I.tok _,⟨t',rfl⟩,q⟩
 .simp;omega
 .have hk:1<=k:=by simp at g1;omega
  have e1:(1000:Int)<=(2^63-1) / k:=by
   rw[Int.le_ediv_iff_mul_le (by omega)];omega
  omega
 .unfold Builtin.Str.tooLong
  simp[Om];omega
end
theorem AU:∀{us:List Oa},Vals (ys.map V.str) us->StrsAre us ys:=by
 induction ys with
 |nil=>intro us r;rw[To] at r;cases r;exact .nil
 |cons y ys ih=>
  intro us r;rw[OJ] at r
  cases r with
  |cons r1 r2=>
   obtain⟨t,e⟩:=r1;subst e;exact .cons y t (ih r2)
section
variable {X:Cx}
end
structure Fn(P:OB)(w:OV)(K:Frag)(mg:Str->Option Oa)(base:Heap)(name:Str)(ps:List Str)(k:Nat)(sp:Sp):Prop where
 ex:∃f fd,FnOk P w K mg base CX0 k f fd ps sp/\Binds K fd ps []/\PC K (.ref f)=true/\mg name=some (.ref f)
section
variable {X:Cx}{name:Str}{ps:List Str}{k:Nat}{sp:Sp}{e:Expr}{es:List Expr}{t:TA}{p pos:Pos}
theorem ot(F:Fn X.prog X.w X.K X.mg X.base name ps k sp)(hr:Room k X.A)(hg:Gl X name)(ha:PA X (e::es) t)(hdb:(name == ("__debug__" : Str))=false:=by decide)
  (he:Oh (e::es) X.env=(false,eval e X.env)::Oh es X.env:=by rfl) (hpl:(Pb pos (Oh es X.env)).any (·.1)=false:=by rfl):PE X (.Call (.Name name p) (e::es) [] pos) (yr sp [] E0 t):=by
 obtain⟨f,fd,h1,h2,h3,h4⟩:=F.ex;exact ER h1 hr hg h4 h3 h2 .nil IP ha hdb he hpl
end
theorem u5(S:CS osc N x scope N')(hi:PI X (.Name x px) iter wi)
  (he:∀C s0 H0 ex,PE (bV X x scope C s0 H0 ex N') elt te) (ht:∀C s0 H0 ex,PTs (bV X x scope C s0 H0 ex N') ifs tt) (hc:X.calm=true:=by rfl) (hs:X.env.scope=osc:=by rfl) (hN:X.N=N:=by rfl)
  (hf:∀v,O0 iter X.env v=pure v:=by intro _;rfl):PE X (.ListComp elt [⟨.Name x px,iter,ifs,0⟩] scope pos) (yp wi tt te):=by
 subst hs hN;exact EO hc S hi he ht hf
end L2
namespace D
open L2
inductive Gh(P:Hp->Prop):Hp->Prop where
 |done {H:Hp}:P H->Gh P H
 |frz {H:Hp}{a:Addr}{kvs:List (Key×V)}:H a=some (.dK kvs)->(∀o,Gh P (upd H a (.frz o (.dK kvs))))->Gh P H
theorem Gh.imp(g:Gh P H)(i:∀H,P H->P' H):Gh P' H:=by
 induction g with
 |done h=>exact .done (i _ h)
 |frz e _ ih=>exact .frz e ih
section
variable {X:Cx}{pins:List (Addr×Obj)}{σ:L2.St}{H:Hp}{s:Od}
theorem wj(I:Inv X pins σ H s)(e:H a=some (.dK kvs)):∃o,Inv X pins σ (upd H a (.frz o (.dK kvs))) s:=by
 obtain⟨z,y,vs,kv,o,es,ep,eo,r⟩:=I.hok a _ e
 have U:∀{b:Addr}{u:HO},H b=some u->(∀ks,u≠.dK ks)->upd H a (.frz o (.dK kvs)) b=some u:=fun {b u} q n=>by
  rw[aQ (fun z=>by subst z;rw[e] at q;cases q;exact n _ rfl)];exact q
 have hok:HOk X.prog X.w (upd H a (.frz o (.dK kvs))) s.heap:=fun b u q=>by
  by_cases hb:b=a
  .subst hb
   rw[bt] at q;cases q;exact⟨eo,(I.hok b _ e).stay (fun _ _ _ q=>q) (fun c q=>U q (fun _ z=>nomatch z)) fun c xs q=>U q (fun _ z=>nomatch z)⟩
  .rw[aQ hb] at q
   exact(I.hok b u q).stay (fun _ _ _ q=>q) (fun c q=>U q (fun _ z=>nomatch z)) fun c xs q=>U q (fun _ z=>nomatch z)
 exact⟨o,I.un (h':=s.heap) (t':=s.toks) ⟨fun b ob q n _ _=>q,fun b ob q n _ _=>⟨_,q⟩,fun b ob q n _=>by rw[aQ (fun z=>by subst z;rw[e] at n;cases n)];exact n,fun b ob q _=>⟨_,q⟩,fun b xs q=>U q (fun _ z=>nomatch z),
  fun b ob u q=>U q (fun _ z=>nomatch z),fun b ps q=>⟨#[],by rw[U q (fun _ z=>nomatch z)];simp⟩⟩ hok⟩
theorem Gh.ok(g:Gh P H)(I:Inv X pins σ H s):∃H',Inv X pins σ H' s/\P H':=by
 induction g with
 |done h=>exact⟨_,I,h⟩
 |frz e _ ih=>
  obtain⟨o,I'⟩:=wj I e;exact ih o I'
end
section
variable {X:Cx}
theorem IH{st:Stmt}{t:TS}(h:PS X st t):PS X st (fun D σ H=>Gh (t D σ) H):=fun pins s σ H D I q=>by
 obtain⟨H',I',q'⟩:=q.ok I;exact h pins s σ H' D I' q'
theorem yv(h:PE X e t):PE X e (fun σ H Q=>t σ H fun v H1=>Gh (Q v) H1):=fun pins s σ H Q I q=>
 thn (h pins s σ H _ I q) fun u s' ⟨v,H',I',r,q'⟩=>by
  obtain⟨H2,I2,q2⟩:=q'.ok I';exact⟨v,H2,I2,r,q2⟩
end
def il(o:Obj):Nat:=match o.data with
 |.dict _ ep=>ep
 |_=>0
def Itd(a:Addr)(o:Obj)(kvs:List (Key×V)):It:=⟨fun i H=>H a=some (.frz o (.dK kvs))/\i<kvs.length,fun i H x H'=>H'=H/\∃k v,kvs[i]? = some (k,v)/\x=kV k,fun i H=>H a=some (.frz o (.dK kvs))/\i=kvs.length⟩
theorem iG(ok:HOk P w H h)(e:H a=some (.frz o (.dK kvs))):kvs.length<=Om/\(a == PN)=false/\∃vs,KV kvs vs/\h.DictAt (bE P w) a vs (il o):=by
 obtain⟨e1,z,y,vs,kv,o',es,ep,e2,ed,dd,r⟩:=ok a _ e;rw[e1] at e2;cases e2;refine⟨z,y,vs,kv,o,es,e1,ed,?_,r⟩;unfold il;rw[dd]
theorem keyV(e:(bE P w).is k v=true):RelV (kV k) v:=by
 rcases ej (show e7 k v=true from e) with⟨i,t,rfl,rfl⟩|⟨x,t,rfl,rfl⟩
 .exact⟨t,rfl⟩
 .exact⟨t,rfl⟩
theorem Jh{kvs:List (Key×V)}{vs:List (Key×Oa)}(r:KV kvs vs){i:Nat}{k:Key}{x:Oa}(e:vs[i]? = some (k,x)):∃v,kvs[i]? = some (k,v):=by
 have h:=r.keys
 have h1:(vs.map (·.1))[i]? = some k:=by rw[Ph,e];rfl
 rw[←h,Ph] at h1
 cases q:kvs[i]? with
 |none=>rw[q] at h1;cases h1
 |some p=>
  rw[q] at h1;cases h1;exact⟨p.2,rfl⟩
theorem Bm{P:OB}{w:OV}{K:Frag}{tg:Expr}(a it:Addr)(o:Obj)(kvs:List (Key×V)):Turn P w K tg (Itd a o kvs) [it] it (fun i h=>h.IsKeyIter it a i kvs.length (il o)) where
 mem:=by simp
 obj:=fun i h st b hb=>by
  have e:b=it:=by simpa using hb
  subst e;obtain⟨o,e,c,d⟩:=st;exact⟨o,e,fun v z=>by rw[d] at z;cases z⟩
 keep:=fun i h h' st k=>st.at fun o e=>k it (by simp) o e
 item:=by
  intro X hP hw hK hc i pins s σ H E I hf st hg;subst hP hw hK;obtain⟨hg1,hg2⟩:=hg;obtain⟨z,y,vs,kv,dd⟩:=iG I.hok hg1;obtain⟨f0,f1,f2,f3,f4,f5⟩:=hf it (by simp);have hl:=kv.length
  have ne:a≠it:=fun q=>by rw[q,f0] at hg1;cases hg1
  have W:=V0 (prog:=X.prog) (w:=X.w) (knd:=bE X.prog X.w) (I.ok.hd hc) it a ne vs (il o);refine W.item i s _ _ (by omega) ⟨by rw[←hl];exact st,dd⟩ fun v h' tk hv st' kk=>?_;obtain⟨k,x,h1,h2⟩:=hv;have I1:Inv X pins σ H { s with heap:=h',toks:=tk }:=I.turned (fun b o hb e=>kk b o (by simpa using hb) e) f0 f1 f3 f4 f5
  have st1:h'.IsKeyIter it a (i+1) kvs.length (il o):=by rw[hl];exact st'.1
  obtain⟨o1,e1,c1,d1⟩:=id st1;obtain⟨v0,h3⟩:=Jh kv h1;exact⟨v,rfl,lN (s:={ s with heap:=h',toks:=tk }) e1 c1 d1 (by decide) ⟨kV k,H,I1,keyV h2,⟨rfl,k,v0,h3,rfl⟩,st1,fun b hb=>(hf b hb).1⟩⟩
 done:=by
  intro X hP hw hK hc i pins s σ H E I hf st hg;subst hP hw hK;obtain⟨hg1,hg2⟩:=hg;obtain⟨z,y,vs,kv,dd⟩:=iG I.hok hg1;obtain⟨f0,f1,f2,f3,f4,f5⟩:=hf it (by simp);have hl:=kv.length
  have ne:a≠it:=fun q=>by rw[q,f0] at hg1;cases hg1
  have W:=V0 (prog:=X.prog) (w:=X.w) (knd:=bE X.prog X.w) (I.ok.hd hc) it a ne vs (il o);refine W.done s _ _ ⟨by rw[←hl,←hg2];rw[←hg2] at st;exact st,dd⟩ fun h' tk kk=>⟨rfl,I.turned (fun b o hb e=>kk b o (by simpa using hb) e) f0 f1 f3 f4 f5⟩
 self:=fun _ _ _ _ _ st h=>wpAny_pyIter_keyiter st h
inductive W where
 |d (x:N9)|tp (i:Nat)|loc (x:N9)
abbrev Tp:=List (List N9)
abbrev Rho:=List (Option W)
noncomputable def bnd{α β:Type}(o:Option (α×Tp))(k:α->Tp->Option β):Option β:=match o with
 |some (a,T)=>k a T
 |none=>none
theorem aJ{α β:Type}{o:Option (α×Tp)}{k:α->Tp->Option β}{b:β}(h:bnd o k=some b):∃a T,o=some (a,T)/\k a T=some b:=by
 cases o with
 |none=>cases h
 |some p=>exact⟨p.1,p.2,rfl,h⟩
def dH:Key->N9
 |.inl i=>.int i
 |.inr x=>.str x
def TupAt(K:Frag)(O:Addr->Prop)(H:Hp)(a:Addr)(vs:List V):Prop:=(¬O a/\Rd H a (.tup vs))\/SqT K (fun _=>none) a vs
def LstAt(K:Frag)(O:Addr->Prop)(H:Hp)(a:Addr)(vs:List V):Prop:=(¬O a/\Rd H a (.lst vs))\/SqL K (fun _=>none) a vs
theorem Gz{K:Frag}{H:Hp}{a:Addr}{vs:List V}(h:SqT K (fun _=>none) a vs):SqT K H a vs:=by
 rcases h with(h|⟨o,h⟩)|h
 .cases h
 .cases h
 .exact .inr h
theorem GA{K:Frag}{H:Hp}{a:Addr}{vs:List V}(h:SqL K (fun _=>none) a vs):SqL K H a vs:=by
 rcases h with(h|⟨o,h⟩)|h
 .cases h
 .cases h
 .exact .inr h
theorem TupAt.sq{K:Frag}{O:Addr->Prop}{H:Hp}{a:Addr}{vs:List V}(h:TupAt K O H a vs):SqT K H a vs:=by
 rcases h with h|h
 .exact .inl h.2
 .exact Gz h
theorem LstAt.sq{K:Frag}{O:Addr->Prop}{H:Hp}{a:Addr}{vs:List V}(h:LstAt K O H a vs):SqL K H a vs:=by
 rcases h with h|h
 .exact .inl h.2
 .exact GA h
mutual
inductive Rep(K:Frag)(O:Addr->Prop)(H:Hp):V->N9->Prop where
 |non:Rep K O H .non .none
 |bl (b:Bool):Rep K O H (.bl b) (.bool b)
 |int (i:Int):Rep K O H (.int i) (.int i)
 |str (x:Str):Rep K O H (.str x) (.str x)
 |tup {a:Addr}{vs:List V}{ds:List N9}:TupAt K O H a vs->Reps K O H vs ds->Rep K O H (.ref a) (.tuple ds)
 |lst {a:Addr}{vs:List V}{ds:List N9}:LstAt K O H a vs->Reps K O H vs ds->Rep K O H (.ref a) (.list ds)
 |dct {a:Addr}{o:Obj}{kvs:List (Key×V)}{ds:List (N9×N9)}:¬O a->H a=some (.frz o (.dK kvs))->RepK K O H kvs ds->Rep K O H (.ref a) (.dict ds)
inductive Reps(K:Frag)(O:Addr->Prop)(H:Hp):List V->List N9->Prop where
 |nil:Reps K O H [] []
 |cons {v:V}{d:N9}{vs:List V}{ds:List N9}:Rep K O H v d->Reps K O H vs ds->Reps K O H (v::vs) (d::ds)
inductive RepK(K:Frag)(O:Addr->Prop)(H:Hp):List (Key×V)->List (N9×N9)->Prop where
 |nil:RepK K O H [] []
 |cons {k:Key}{v:V}{d:N9}{kvs:List (Key×V)}{ds:List (N9×N9)}:Rep K O H v d->RepK K O H kvs ds->RepK K O H ((k,v)::kvs) ((dH k,d)::ds)
end
def Le(O:Addr->Prop)(H:Hp)(O':Addr->Prop)(H':Hp):Prop:=∀a o,¬O a->H a=some o->¬O' a/\H' a=some o
theorem Le.trans(h:Le O H O1 H1)(g:Le O1 H1 O2 H2):Le O H O2 H2:=fun a o n e=>let ⟨n1,e1⟩:=h a o n e;g a o n1 e1
theorem TupAt.mono{K:Frag}{O O':Addr->Prop}{H H':Hp}(h:Le O H O' H'){a:Addr}{vs:List V}(t:TupAt K O H a vs):TupAt K O' H' a vs:=by
 rcases t with⟨n,t|⟨o,t⟩⟩|t
 .exact .inl ⟨(h _ _ n t).1,.inl (h _ _ n t).2⟩
 .exact .inl ⟨(h _ _ n t).1,.inr ⟨o,(h _ _ n t).2⟩⟩
 .exact .inr t
theorem LstAt.mono{K:Frag}{O O':Addr->Prop}{H H':Hp}(h:Le O H O' H'){a:Addr}{vs:List V}(t:LstAt K O H a vs):LstAt K O' H' a vs:=by
 rcases t with⟨n,t|⟨o,t⟩⟩|t
 .exact .inl ⟨(h _ _ n t).1,.inl (h _ _ n t).2⟩
 .exact .inl ⟨(h _ _ n t).1,.inr ⟨o,(h _ _ n t).2⟩⟩
 .exact .inr t
mutual
theorem Rep.mono{K:Frag}{O O':Addr->Prop}{H H':Hp}(e:Le O H O' H'):∀{v:V}{d:N9},Rep K O H v d->Rep K O' H' v d
 |_,_,.non=>.non
 |_,_,.bl b=>.bl b
 |_,_,.int i=>.int i
 |_,_,.str x=>.str x
 |_,_,.tup t r=>.tup (t.mono e) (Reps.mono e r)
 |_,_,.lst t r=>.lst (t.mono e) (Reps.mono e r)
 |_,_,.dct n h r=>.dct (e _ _ n h).1 (e _ _ n h).2 (RepK.mono e r)
theorem Reps.mono{K:Frag}{O O':Addr->Prop}{H H':Hp}(e:Le O H O' H'):∀{vs:List V}{ds:List N9},Reps K O H vs ds->Reps K O' H' vs ds
 |_,_,.nil=>.nil
 |_,_,.cons r t=>.cons (Rep.mono e r) (Reps.mono e t)
theorem RepK.mono{K:Frag}{O O':Addr->Prop}{H H':Hp}(e:Le O H O' H'):∀{vs:List (Key×V)}{ds:List (N9×N9)},RepK K O H vs ds->RepK K O' H' vs ds
 |_,_,.nil=>.nil
 |_,_,.cons r t=>.cons (Rep.mono e r) (RepK.mono e t)
end
section
variable {K:Frag}{O:Addr->Prop}{H:Hp}
theorem Reps.length:∀{vs:List V}{ds:List N9},Reps K O H vs ds->vs.length=ds.length
 |_,_,.nil=>rfl
 |_,_,.cons _ t=>congrArg (· + 1) (Reps.length t)
theorem Reps.get:∀{vs:List V}{ds:List N9}{i:Nat}{v:V},Reps K O H vs ds->vs[i]? = some v->∃d,ds[i]? = some d/\Rep K O H v d
 |_,_,_,_,.nil,e=>by simp at e
 |_,_,0,_,.cons r _,e=>by simp at e;subst e;exact⟨_,rfl,r⟩
 |_,_,i+1,v,.cons _ t,e=>by
  obtain⟨d,h1,h2⟩:=Reps.get (i:=i) (v:=v) t (by simpa using e);exact⟨d,by simpa using h1,h2⟩
theorem Reps.getD:∀{vs:List V}{ds:List N9}{i:Nat}{d:N9},Reps K O H vs ds->ds[i]? = some d->∃v,vs[i]? = some v/\Rep K O H v d
 |_,_,_,_,.nil,e=>by simp at e
 |_,_,0,_,.cons r _,e=>by simp at e;subst e;exact⟨_,rfl,r⟩
 |_,_,i+1,v,.cons _ t,e=>by
  obtain⟨d,h1,h2⟩:=Reps.getD (i:=i) (d:=v) t (by simpa using e);exact⟨d,by simpa using h1,h2⟩
theorem Reps.set(r:Rep K O H v d):∀{vs:List V}{ds:List N9} (i:Nat),Reps K O H vs ds->Reps K O H (vs.set i v) (ds.set i d)
 |_,_,_,.nil=>.nil
 |_,_,0,.cons _ t=>.cons r t
 |_,_,i+1,.cons q t=>.cons q (Reps.set r i t)
theorem Reps.append:∀{vs:List V}{ds:List N9},Reps K O H vs ds->Reps K O H ws es->Reps K O H (vs++ws) (ds++es)
 |_,_,.nil,r=>r
 |_,_,.cons q t,r=>.cons q (Reps.append t r)
theorem Reps.take:∀{vs:List V}{ds:List N9} (n:Nat),Reps K O H vs ds->Reps K O H (vs.take n) (ds.take n)
 |_,_,0,_=>.nil
 |_,_,_+1,.nil=>.nil
 |_,_,n+1,.cons r t=>.cons r (Reps.take n t)
theorem Reps.drop:∀{vs:List V}{ds:List N9} (n:Nat),Reps K O H vs ds->Reps K O H (vs.drop n) (ds.drop n)
 |_,_,0,r=>r
 |_,_,_+1,.nil=>.nil
 |_,_,n+1,.cons _ t=>Reps.drop n t
theorem Reps.rep(r:Reps K O H vs ds):∀n:Nat,Reps K O H (OO n vs).flatten (OO n ds).flatten
 |0=>.nil
 |n+1=>by
  rw[P3,P3,Qu,Qu];exact r.append (r.rep n)
end
def SameX(ts:List Addr)(H H':Hp):Prop:=∀b o,b∉ts->H b=some o->H' b=some o
theorem SameX.refl(ts:List Addr)(H:Hp):SameX ts H H:=fun _ _ _ h=>h
theorem SameX.trans(a:SameX ts H H1)(b:SameX ts H1 H2):SameX ts H H2:=fun c o n h=>b c o n (a c o n h)
theorem SameX.new(h:H p=none)(o:HO):SameX ts H (upd H p o):=fun b u _ q=>by rw[aQ (dw q h)];exact q
def Mut(o:Option HO):Prop:=(∃vs,o=some (.lst vs))\/(∃kvs,o=some (.dK kvs))\/∃C dx fs,o=some (.ins C dx fs)
theorem Mut.ex(h:Mut o):∃u,o=some u:=by rcases h with⟨vs,e⟩|⟨vs,e⟩|⟨C,dx,fs,e⟩ <;> exact⟨_,e⟩
theorem Mut.to(h:Mut o)(k:∀u,o=some u->o'=some u):Mut o':=by
 rcases h with⟨vs,e⟩|⟨vs,e⟩|⟨C,dx,fs,e⟩
 .exact .inl ⟨vs,k _ e⟩
 .exact .inr (.inl ⟨vs,k _ e⟩)
 .exact .inr (.inr ⟨C,dx,fs,k _ e⟩)
def JH(C:Addr):PyData:=.dict [(.none,.int (C:Int))]
def isO:List N9->Bool
 |.dict [(.none,_)]::_=>true
 |_=>false
def pairF(p:Str×N9):PyData:=.tuple [.str p.1,p.2]
inductive RepF(K:Frag)(O:Addr->Prop)(H:Hp):List (Str×V)->List (Str×N9)->Prop where
 |nil:RepF K O H [] []
 |cons {n:Str}{v:V}{d:N9}{vs:List (Str×V)}{ds:List (Str×N9)}:Rep K O H v d->RepF K O H vs ds->RepF K O H ((n,v)::vs) ((n,d)::ds)
theorem RepF.mono{K:Frag}{O O':Addr->Prop}{H H':Hp}(e:Le O H O' H'){vs:List (Str×V)}{ds:List (Str×N9)}(r:RepF K O H vs ds):RepF K O' H' vs ds:=by
 induction r with
 |nil=>exact .nil
 |cons r _ ih=>exact .cons (Rep.mono e r) ih
def RowAt(K:Frag)(O:Addr->Prop)(H:Hp)(a:Addr)(xs:List N9):Prop:=(isO xs=false/\∃vs,H a=some (.lst vs)/\Reps K O H vs xs)\/∃C dx fs fd,H a=some (.ins C dx fs)/\xs=JH C::fd.map pairF/\RepF K O H fs fd
theorem RowAt.mono{K:Frag}{O O':Addr->Prop}{H H':Hp}{a:Addr}{xs:List N9}(h:RowAt K O H a xs)(k:∀o,H a=some o->H' a=some o)(l:Le O H O' H'):RowAt K O' H' a xs:=by
 rcases h with⟨n,vs,h1,h2⟩|⟨C,dx,fs,fd,h1,h2,h3⟩
 .exact .inl ⟨n,vs,k _ h1,h2.mono l⟩
 .exact .inr ⟨C,dx,fs,fd,k _ h1,h2,h3.mono l⟩
theorem RowAt.lst{K:Frag}{O:Addr->Prop}{H:Hp}{a:Addr}{xs:List N9}(h:RowAt K O H a xs)(n:isO xs=false):∃vs,H a=some (.lst vs)/\Reps K O H vs xs:=by
 rcases h with⟨_,h⟩|⟨C,dx,fs,fd,h1,h2,h3⟩
 .exact h
 .rw[h2] at n
  cases n
theorem Eu{K:Frag}{O:Addr->Prop}{H:Hp}{v:V}{y:N9}(h:Rep K O H v (.dict [(.none,y)])):False:=by
 cases h with
 |dct _ _ r=>
  generalize hl:[(VA,y)]=l at r
  cases r with
  |nil=>cases hl
  |@cons k _ _ _ _ _ _=>
   injection hl with h1 _
   injection h1 with h1 _
   rcases k with i|x
   .cases h1
   .cases h1
theorem Reps.notO{K:Frag}{O:Addr->Prop}{H:Hp}{vs:List V}{xs:List N9}(r:Reps K O H vs xs):isO xs=false:=by
 cases r with
 |nil=>rfl
 |cons h _=>
  rename_i d _ _ _;unfold isO;split
  .rename_i e
   cases e;exact(Eu h).elim
  .rfl
structure HC(K:Frag)(O:Addr->Prop)(ts:List Addr)(H:Hp)(T:Tp):Prop where
 own:∀b∈ts,O b
 trk:∀b,O b->Mut (H b)
 nd:ts.Nodup
 len:ts.length=T.length
 tape:∀(i:Nat) (a:Addr) (xs:List N9),ts[i]? = some a->T[i]? = some xs->RowAt K O H a xs
section
variable {K:Frag}{O:Addr->Prop}{ts:List Addr}{H H':Hp}{T:Tp}
theorem HC.le(c:HC K O ts H T)(s:SameX ts H H'):Le O H O H':=fun a o n e=>⟨n,s a o (fun z=>n (c.own a z)) e⟩
theorem HC.step(c:HC K O ts H T)(s:SameX ts H H')(t:∀b∈ts,H' b=H b):HC K O ts H' T where
 own:=c.own
 trk:=fun b hb=>by
  by_cases z:b∈ts
  .rw[t b z];exact c.trk b hb
  .exact(c.trk b hb).to fun u e=>s b _ z e
 nd:=c.nd
 len:=c.len
 tape:=fun i a xs e1 e2=>by
  exact(c.tape i a xs e1 e2).mono (fun o h1=>by rw[t a (O6 e1)];exact h1) (c.le s)
theorem HC.fresh(c:HC K O ts H T)(h:H p=none):¬O p:=fun z=>by
 obtain⟨u,e⟩:=(c.trk p z).ex;rw[h] at e;cases e
theorem HC.new(c:HC K O ts H T)(h:H p=none)(o:HO):HC K O ts (upd H p o) T:=c.step (.new h o) fun b hb=>aQ fun z=>c.fresh h (z ▸ c.own b hb)
theorem HC.leNew(c:HC K O ts H T)(h:H p=none)(o:HO):Le O H O (upd H p o):=c.le (.new h o)
theorem HC.newT(c:HC K O ts H T)(h:H p=none)(r:Reps K O H vs ds):Rep K O (upd H p (.tup vs)) (.ref p) (.tuple ds):=.tup (.inl ⟨c.fresh h,.inl bt⟩) (r.mono (c.leNew h _))
theorem HC.newL(c:HC K O ts H T)(h:H p=none)(r:Reps K O H vs ds):Rep K O (upd H p (.lst vs)) (.ref p) (.list ds):=.lst (.inl ⟨c.fresh h,.inl bt⟩) (r.mono (c.leNew h _))
end
inductive Vw(K:Frag)(O:Addr->Prop)(H:Hp):V->N9->Prop where
 |rep {v:V}{x:N9}:Rep K O H v x->Vw K O H v x
 |raw {a:Addr}{vs:List V}{xs:List N9}:H a=some (.lst vs)->Reps K O H vs xs->Vw K O H (.ref a) (.list xs)
 |rawD {a:Addr}{kvs:List (Key×V)}{ds:List (N9×N9)}:H a=some (.dK kvs)->RepK K O H kvs ds->Vw K O H (.ref a) (.dict ds)
section
variable {K:Frag}{O:Addr->Prop}{H:Hp}{v:V}
theorem Vw.int(h:Vw K O H v (.int i)):v=.int i:=by cases h with|rep h=>cases h;rfl
theorem Vw.str(h:Vw K O H v (.str x)):v=.str x:=by cases h with|rep h=>cases h;rfl
theorem Vw.bl(h:Vw K O H v (.bool b)):v=.bl b:=by cases h with|rep h=>cases h;rfl
theorem Vw.non(h:Vw K O H v .none):v=.non:=by cases h with|rep h=>cases h;rfl
theorem Vw.tup(h:Vw K O H v (.tuple ds)):∃a vs,v=.ref a/\TupAt K O H a vs/\Reps K O H vs ds:=by cases h with|rep h=>cases h with|tup t r=>exact⟨_,_,rfl,t,r⟩
theorem Vw.tupR(h:Vw K O H v (.tuple ds)):Rep K O H v (.tuple ds):=by cases h with|rep h=>exact h
theorem Vw.lst(h:Vw K O H v (.list ds)):∃a vs,v=.ref a/\SqL K H a vs/\Reps K O H vs ds:=by
 cases h with
 |rep h=>cases h with|lst t r=>exact⟨_,_,rfl,t.sq,r⟩
 |raw h r=>exact⟨_,_,rfl,SqL.of h,r⟩
theorem Vw.dct(h:Vw K O H v (.dict ds)):∃a kvs,v=.ref a/\Rd H a (.dK kvs)/\RepK K O H kvs ds:=by
 cases h with
 |rep h=>cases h with|dct n t r=>exact⟨_,_,rfl,.inr ⟨_,t⟩,r⟩
 |rawD t r=>exact⟨_,_,rfl,.inl t,r⟩
end
def OwnAt(K:Frag)(O:Addr->Prop)(H:Hp)(a:Addr):N9->Prop
 |.list xs=>∃vs,H a=some (.lst vs)/\Reps K O H vs xs
 |.dict ds=>∃kvs,H a=some (.dK kvs)/\RepK K O H kvs ds
 |_=>False
theorem OwnAt.mono{K:Frag}{O O':Addr->Prop}{H H':Hp}{a:Addr}{x:N9}(h:OwnAt K O H a x)(k:∀o,H a=some o->H' a=some o)(l:Le O H O' H'):OwnAt K O' H' a x:=by
 cases x with
 |list xs=>obtain⟨vs,h1,h2⟩:=h;exact⟨vs,k _ h1,h2.mono l⟩
 |dict ds=>obtain⟨vs,h1,h2⟩:=h;exact⟨vs,k _ h1,h2.mono l⟩
 |_=>cases h
theorem OwnAt.some{K:Frag}{O:Addr->Prop}{H:Hp}{a:Addr}{x:N9}(h:OwnAt K O H a x):∃o,H a=some o:=by
 cases x with
 |list xs=>obtain⟨vs,h1,h2⟩:=h;exact⟨_,h1⟩
 |dict ds=>obtain⟨vs,h1,h2⟩:=h;exact⟨_,h1⟩
 |_=>cases h
def RepW(K:Frag)(O:Addr->Prop)(ts:List Addr)(H:Hp)(v:V):W->Prop
 |.d x=>Rep K O H v x
 |.tp i=>∃a,ts[i]? = some a/\v=.ref a
 |.loc x=>∃a,v=.ref a/\O a/\a∉ts/\OwnAt K O H a x
def i8(xs:List N9):Option PyData:=if isO xs=true then none else some (.list xs)
noncomputable def view(T:Tp):W->Option N9
 |.d x=>some x
 |.tp i=>(T[i]?).bind i8
 |.loc (.list xs)=>some (.list xs)
 |.loc (.dict ds)=>some (.dict ds)
 |.loc _=>none
noncomputable def views(T:Tp):List W->Option (List N9)
 |[]=>some []
 |w::r=>match view T w with
  | some x=>(match views T r with
   |some xs=>some (x::xs)
   | none=>none)
  |none=>none
def ie(K:Frag)(O:Addr->Prop)(ts:List Addr)(H:Hp):List V->List W->Prop:=Sf fun v w=>RepW K O ts H v w
def Vws(K:Frag)(O:Addr->Prop)(H:Hp):List V->List N9->Prop:=Sf fun v x=>Vw K O H v x
def RelE(K:Frag)(O:Addr->Prop)(ts:List Addr)(H:Hp)(σ:L2.St)(ρ:Rho):Prop:=∀(i:Nat) (w:W),ρ[i]? = some (some w)->∃v,σ[i]? = some (some v)/\RepW K O ts H v w
section
variable {K:Frag}{O:Addr->Prop}{ts:List Addr}{H H':Hp}{T:Tp}{v:V}{w:W}
theorem RepW.mono(r:RepW K O ts H v w)(c:HC K O ts H T)(s:SameX ts H H'):RepW K O ts H' v w:=by
 cases w with
 |d x=>exact Rep.mono (c.le s) r
 |tp i=>exact r
 |loc xs=>
  obtain⟨a,e,h1,h2,h3⟩:=r;exact⟨a,e,h1,h2,h3.mono (fun o q=>s _ _ h2 q) (c.le s)⟩
theorem RelE.mono(r:RelE K O ts H σ ρ)(c:HC K O ts H T)(s:SameX ts H H'):RelE K O ts H' σ ρ:=fun i w e=>
 let ⟨v,h1,h2⟩:=r i w e;⟨v,h1,h2.mono c s⟩
theorem HC.view(c:HC K O ts H T)(r:RepW K O ts H v w)(e:view T w=some x):Vw K O H v x:=by
 cases w with
 |d y=>cases e;exact .rep r
 |tp i=>
  obtain⟨a,h1,rfl⟩:=r;have e':(T[i]?).bind i8=some x:=e
  cases ht:T[i]? with
  |none=>rw[ht] at e';cases e'
  |some xs=>
   rw[ht] at e';have e2:(if isO xs=true then none else some (QK xs))=some x:=e';split at e2
   .cases e2
   .rename_i hn
    cases e2;obtain⟨vs,h2,h3⟩:=(c.tape i a xs h1 ht).lst (by simpa using hn);exact .raw h2 h3
 |loc xs=>
  obtain⟨a,rfl,_,_,h3⟩:=r
  cases xs with
  |list xs=>cases e;obtain⟨vs,h1,h2⟩:=h3;exact .raw h1 h2
  |dict ds=>cases e;obtain⟨vs,h1,h2⟩:=h3;exact .rawD h1 h2
  |_=>cases h3
theorem HC.views(c:HC K O ts H T):∀{vs:List V}{ws:List W}{xs:List N9},ie K O ts H vs ws->views T ws=some xs->Vws K O H vs xs
 |_,[],xs,.nil,e=>by cases e;exact .nil
 |_,w::r,xs,.cons h t,e=>by
  unfold D.views at e;split at e
  .rename_i x h1
   split at e
   .rename_i ys h2
    cases e;exact .cons (c.view h h1) (HC.views c t h2)
   .cases e
  .cases e
end
def noStar:Expr->Bool
 |.Starred _ _=>false
 |_=>true
theorem bf(h:noStar e=true):Oh (e::es) env=(false,eval e env)::Oh es env:=by cases e <;> first|rfl|cases h
theorem uO(h:noStar e=true):Oh [e] env=[(false,eval e env)]:=bf h
theorem bR:∀{es:List Expr},es.all noStar=true->(Pb pos (Oh es env)).any (·.1)=false
 |[],_=>rfl
 |e::r,h=>by
  rw[Qb,Oj] at h;rw[bf h.1];show (false||(Pb pos (Oh r env)).any (·.1))=false;rw[bR h.2];rfl
theorem f9(h:noStar e=true):((Pb cpos (Oh [e] env)).all (fun x=>!x.1)&&(Qo cpos (PF [] env)).all (fun x=>x.1.isSome)
   && decide (([e]:List Expr).length+([]:List Pq).length+(if ([]:List Pq).isEmpty then 0 else 1)<30))=true:=by
 rw[uO h];rfl
abbrev FE:=Rho->Tp->Option (W×Tp)
abbrev FT:=Rho->Tp->Option (Bool×Tp)
abbrev FA:=Rho->Tp->Option (List W×Tp)
inductive LiftP(K:Frag)(f:FE)(σ:L2.St)(H:Hp)(Q:VK):Prop where
 |mk (O:Addr->Prop) (ts:List Addr) (ρ:Rho) (T:Tp) (w:W) (T':Tp) (hc:HC K O ts H T) (re:RelE K O ts H σ ρ) (e:f ρ T=some (w,T')) (q:∀v H',SameX ts H H'->HC K O ts H' T'->RepW K O ts H' v w->Q v H'):LiftP K f σ H Q
def lift(K:Frag)(f:FE):TE:=fun σ H Q=>LiftP K f σ H Q
inductive LiftTP(K:Frag)(f:FT)(σ:L2.St)(H:Hp)(Q:Bool->Hp->Prop):Prop where
 |mk (O:Addr->Prop) (ts:List Addr) (ρ:Rho) (T:Tp) (b:Bool) (T':Tp) (hc:HC K O ts H T) (re:RelE K O ts H σ ρ) (e:f ρ T=some (b,T')) (q:∀H',SameX ts H H'->HC K O ts H' T'->Q b H'):LiftTP K f σ H Q
def liftT(K:Frag)(f:FT):TT:=fun σ H Q=>LiftTP K f σ H Q
inductive LiftAP(K:Frag)(f:FA)(σ:L2.St)(H:Hp)(Q:List V->Hp->Prop):Prop where
 |mk (O:Addr->Prop) (ts:List Addr) (ρ:Rho) (T:Tp) (ws:List W) (T':Tp) (hc:HC K O ts H T) (re:RelE K O ts H σ ρ) (e:f ρ T=some (ws,T')) (q:∀vs H',SameX ts H H'->HC K O ts H' T'->ie K O ts H' vs ws->Q vs H'):LiftAP K f σ H Q
def yF(K:Frag)(f:FA):TA:=fun σ H Q=>LiftAP K f σ H Q
structure DE(X:Cx)(e:Expr)(f:FE):Prop where
 pe:PE X e (lift X.K f)
structure DT(X:Cx)(e:Expr)(f:FT):Prop where
 pe:PT X e (liftT X.K f)
structure DW(X:Cx)(e:Expr)(f:FT):Prop where
 pe:PW X e (liftT X.K f)
structure DA(X:Cx)(es:List Expr)(f:FA):Prop where
 pe:PA X es (yF X.K f)
theorem bC(h:PE X e t)(i:∀σ H Q,t' σ H Q->t σ H Q):PE X e t':=fun pins s σ H Q I q=>h pins s σ H Q I (i σ H Q q)
theorem lq(h:PT X e t)(i:∀σ H Q,t' σ H Q->t σ H Q):PT X e t':=fun pins s σ H Q I q=>h pins s σ H Q I (i σ H Q q)
theorem xh(h:PW X e t)(i:∀σ H Q,t' σ H Q->t σ H Q):PW X e t':=fun wh pins s σ H Q I q=>h wh pins s σ H Q I (i σ H Q q)
theorem xp(h:PA X e t)(i:∀σ H Q,t' σ H Q->t σ H Q):PA X e t':=fun po pins s σ H Q I q=>h po pins s σ H Q I (i σ H Q q)
def aa(i:Nat):FE:=fun ρ T=>match ρ[i]? with
 |some (some w)=>some (w,T)
 |_=>none
noncomputable def fC(x:N9):FE:=fun _ T=>some (.d x,T)
section
variable {X:Cx}{pos:Pos}
theorem ag(i:Nat)(hN:X.N[i]? = some x:=by rfl)(hv:Vis X.env.scope x:=by first|exact Pc rfl|exact OW (Pc rfl)|exact OW (OW rfl))(hd:(x == ("__debug__" : Str))=false:=by decide)
  (hcd:(x == ("__classdict__" : Str))=false:=by decide):DE X (.Name x pos) (aa i):=by
 refine⟨?_⟩;refine bC (pv i hN hv hd hcd) fun σ H Q=>?_;rintro⟨O,ts,ρ,T,w,T',hc,re,e,q⟩;unfold aa at e;split at e
 .rename_i w' he
  cases e;obtain⟨v,h1,h2⟩:=re i _ he;exact⟨v,h1,q v H (.refl _ _) hc h2⟩
 .cases e
theorem gU(h:∀O H,Rep X.K O H v x):∀σ H Q,lift X.K (fC x) σ H Q->tC v σ H Q:=by
 rintro σ H Q ⟨O,ts,ρ,T,w,T',hc,re,e,q⟩;cases e;exact q v H (.refl _ _) hc (h O H)
theorem ai{i j}:DE X (.Constant (.int i) j pos) (fC (.int i)):=⟨bC xo (gU fun _ _=>.int i)⟩
theorem bW{i j}:DE X (.Constant (.bool i) j pos) (fC (.bool i)):=⟨bC IM (gU fun _ _=>.bl i)⟩
theorem aB{i j}:DE X (.Constant (.str i) j pos) (fC (.str i)):=⟨bC GQ (gU fun _ _=>.str i)⟩
theorem lA{j}:DE X (.Constant .none j pos) (fC .none):=⟨bC xn (gU fun _ _=>.non)⟩
theorem kM(hg:Gl X x)(hm:∃t,X.mg x=some (.int i t))(hd:(x == ("__debug__" : Str))=false:=by decide):DE X (.Name x pos) (fC (.int i)):=by
 refine⟨?_⟩;obtain⟨t,hm⟩:=hm;exact bC (qD (v:=.int i) hg hm ⟨t,rfl⟩ hd) (gU fun _ _=>.int i)
theorem vz(hg:Gl X x)(hm:∃t,X.mg x=some (.str i t))(hd:(x == ("__debug__" : Str))=false:=by decide):DE X (.Name x pos) (fC (.str i)):=by
 refine⟨?_⟩;obtain⟨t,hm⟩:=hm;exact bC (qD (v:=.str i) hg hm ⟨t,rfl⟩ hd) (gU fun _ _=>.str i)
end
def op1(g:N9->Option N9)(T:Tp)(w:W):Option (W×Tp):=match view T w with
 |some x=>match g x with
  |some d=>some (.d d,T)
  |none=>none
 |none=>none
def op2(g:N9->N9->Option N9)(T:Tp)(w1 w2:W):Option (W×Tp):=match view T w1,view T w2 with
 |some x,some y=>match g x y with
  |some d=>some (.d d,T)
  |none=>none
 |_,_=>none
theorem jJ(e:op1 g T w1=some (w,T')):∃x d,view T w1=some x/\g x=some d/\w=.d d/\T'=T:=by
 unfold op1 at e;split at e
 .rename_i x h1
  split at e
  .rename_i d h3
   cases e;exact⟨x,d,h1,h3,rfl,rfl⟩
  .cases e
 .cases e
theorem jI(e:op2 g T w1 w2=some (w,T')):∃x y d,view T w1=some x/\view T w2=some y/\g x y=some d/\w=.d d/\T'=T:=by
 unfold op2 at e;split at e
 .rename_i x y h1 h2
  split at e
  .rename_i d h3
   cases e;exact⟨x,y,d,h1,h2,h3,rfl,rfl⟩
  .cases e
 .cases e
def af(g:N9->N9->Option N9)(fa fb:FE):FE:=fun ρ T=>bnd (fa ρ T) fun w1 T1=>bnd (fb ρ T1) fun w2 T2=>op2 g T2 w1 w2
def fUn(g:N9->Option N9)(fa:FE):FE:=fun ρ T=>bnd (fa ρ T) fun w1 T1=>op1 g T1 w1
def iq(K:Frag)(r:R2)(g:N9->N9->Option N9):Prop:=∀(O:Addr->Prop) (ts:List Addr) (H:Hp) (T:Tp) (v1 v2:V) (x y d:N9) (Q:VK),HC K O ts H T->Vw K O H v1 x->Vw K O H v2 y->g x y=some d ->
 (∀v H',SameX ts H H'->HC K O ts H' T->Rep K O H' v d->Q v H')->r v1 v2 H Q
def Kf(K:Frag)(r:V->Hp->VK->Prop)(g:N9->Option N9):Prop:=∀(O:Addr->Prop) (ts:List Addr) (H:Hp) (T:Tp) (v1:V) (x d:N9) (Q:VK),HC K O ts H T->Vw K O H v1 x->g x=some d ->
 (∀v H',SameX ts H H'->HC K O ts H' T->Rep K O H' v d->Q v H')->r v1 H Q
def OpD(X:Cx)(f:Oa->Oa->Sem Oa)(g:N9->N9->Option N9):Prop:=∃r,OpR X f r/\iq X.K r g
def IxD(X:Cx)(g:N9->N9->Option N9):Prop:=∃r,IxR X r/\iq X.K r g
theorem k9{K:Frag}{r:R2}{g:N9->N9->Option N9}{fa fb:FE}(snd:iq K r g){σ:L2.St}{H:Hp}{Q:VK}(h:lift K (af g fa fb) σ H Q):tOp r (lift K fa) (lift K fb) σ H Q:=by
 obtain⟨O,ts,ρ,T,w,T',hc,re,e,q⟩:=h;obtain⟨w1,T1,e1,e⟩:=aJ e;obtain⟨w2,T2,e2,e⟩:=aJ e;obtain⟨x,y,d,h1,h2,h3,rfl,rfl⟩:=jI e;refine⟨O,ts,ρ,T,w1,T1,hc,re,e1,fun v1 H1 s1 hc1 r1=>?_⟩;refine⟨O,ts,ρ,T1,w2,T',hc1,re.mono hc s1,e2,fun v2 H2 s2 hc2 r2=>?_⟩;exact snd O ts H2 T' v1 v2 x y d Q hc2 (hc2.view (r1.mono hc1 s2) h1) (hc2.view r2 h2) h3 fun v H' s3 hc3 r3=>q v H' (s1.trans (s2.trans s3)) hc3 r3
noncomputable def asB:W->Option Bool
 |.d (.bool b)=>some b
 |_=>none
theorem oj(h:asB w=some b):w=.d (.bool b):=by
 unfold asB at h;split at h
 .cases h;rfl
 .cases h
def au(f:FE):FT:=fun ρ T=>bnd (f ρ T) fun w T1=>match asB w with
 |some b=>some (b,T1)
 |none=>none
theorem qw{K:Frag}{f:FE}{σ:L2.St}{H:Hp}{Q:Bool->Hp->Prop}(h:liftT K (au f) σ H Q):lift K f σ H fun x H'=>∃k,x=.bl k/\Q k H':=by
 obtain⟨O,ts,ρ,T,w,T',hc,re,e,q⟩:=h;obtain⟨w1,T1,e1,e⟩:=aJ e;refine⟨O,ts,ρ,T,w1,T1,hc,re,e1,fun v1 H1 s1 hc1 r1=>?_⟩;split at e
 .rename_i b hb
  cases e;have hw:=oj hb;subst hw;cases (show Rep K O H1 v1 _ from r1);exact⟨_,rfl,q H1 s1 hc1⟩
 .cases e
section
variable {X:Cx}{pos:Pos}{a b c:Expr}{fa fb fc:FE}{g g':N9->N9->Option N9}
theorem aO(ho:OpD X (PY op) g)(ha:DE X a fa)(hb:DE X b fb):DE X (.BinOp a op b pos) (af g fa fb):=by
 refine⟨?_⟩;obtain⟨r,hr,snd⟩:=ho;exact bC (IJ hr ha.pe hb.pe) fun σ H Q=>k9 snd
theorem bH(ho:OpD X (OM op) g)(ha:DE X a fa)(hb:DE X b fb)(hm:QA op b=false:=by first|exact rD _|with_unfolding_all rfl):DE X (.Compare a [op] [b] pos) (af g fa fb):=by
 refine⟨?_⟩;obtain⟨r,hr,snd⟩:=ho;exact bC (EQ hr ha.pe hb.pe hm) fun σ H Q=>k9 snd
theorem aI(ho:OpD X (OM op) g)(ha:DE X a fa)(hb:DE X b fb)(hm:QA op b=false:=by first|exact rD _|with_unfolding_all rfl):DT X (.Compare a [op] [b] pos) (au (af g fa fb)):=by
 refine⟨?_⟩;obtain⟨r,hr,snd⟩:=ho;exact lq (ED hr ha.pe hb.pe hm) fun σ H Q h=>k9 snd (qw h)
theorem ar(ho:IxD X g)(ha:DE X a fa)(hb:DE X b fb)(hs:nJ b:=by exact fun _ _=>rfl):DE X (.Subscript a b pos) (af g fa fb):=by
 refine⟨?_⟩;obtain⟨r,hr,snd⟩:=ho;exact bC (rX hr ha.pe hb.pe hs) fun σ H Q=>k9 snd
def iS(g g':N9->N9->Option N9)(fa fb fc:FE):FE:=fun ρ T=>bnd (fa ρ T) fun w1 T1=>bnd (fb ρ T1) fun w2 T2=>bnd (op2 g T2 w1 w2) fun w T3=>match asB w with
 |some b=>if b=true then bnd (fc ρ T3) fun w3 T4=>op2 g' T4 w2 w3 else some (.d (.bool false),T3)
 |none=>none
theorem uC{K:Frag}{r r':R2}(snd:iq K r g)(snd':iq K r' g'){σ:L2.St}{H:Hp}{Q:VK}(h:lift K (iS g g' fa fb fc) σ H Q):q8 r r' (lift K fa) (lift K fb) (lift K fc) σ H Q:=by
 obtain⟨O,ts,ρ,T,w,T',hc,re,e,q⟩:=h;obtain⟨w1,T1,e1,e⟩:=aJ e;obtain⟨w2,T2,e2,e⟩:=aJ e;obtain⟨wz,T3,e3,ez⟩:=aJ e;obtain⟨x,y,d,h1,h2,h3,rfl,rfl⟩:=jI e3;clear e;refine⟨O,ts,ρ,T,w1,T1,hc,re,e1,fun v1 H1 s1 hc1 r1=>?_⟩;refine⟨O,ts,ρ,T1,w2,T3,hc1,re.mono hc s1,e2,fun v2 H2 s2 hc2 r2=>?_⟩;refine snd O ts H2 T3 v1 v2 x y d _ hc2 (hc2.view (r1.mono hc1 s2) h1) (hc2.view r2 h2) h3 fun v H3 s3 hc3 r3=>?_;split at ez
 .rename_i b hb
  have hd:=oj hb
  injection hd with hd
  subst hd;cases r3
  cases b with
  |true=>
   rw[if_pos rfl] at ez;refine⟨true,rfl,eJ ?_⟩;obtain⟨w3,T4,e4,e5⟩:=aJ ez;obtain⟨x',y',d',h1',h2',h3',rfl,rfl⟩:=jI e5;refine⟨O,ts,ρ,T3,w3,T',hc3,(re.mono hc (s1.trans (s2.trans s3))),e4,fun v3 H4 s4 hc4 r4=>?_⟩;exact snd' O ts H4 T' v2 v3 x' y' d' Q hc4 (hc4.view (r2.mono hc2 (s3.trans s4)) h1') (hc4.view r4 h2') h3' fun v H' s5 hc5 r5=>q v H' (s1.trans (s2.trans (s3.trans (s4.trans s5)))) hc5 r5
  |false=>
   rw[if_neg Ox] at ez;cases ez;exact⟨false,rfl,eM (q _ H3 (s1.trans (s2.trans s3)) hc3 (.bl false))⟩
 .cases ez
theorem DM(ho:OpD X (OM op) g)(ho':OpD X (OM op') g')(ha:DE X a fa)(hb:DE X b fb)(hc:DE X c fc)
  (hm:Vf [op,op'] [b,c]=false:=by with_unfolding_all rfl):DE X (.Compare a [op,op'] [b,c] pos) (iS g g' fa fb fc):=by
 refine⟨?_⟩;obtain⟨r,hr,snd⟩:=ho;obtain⟨r',hr',snd'⟩:=ho';exact bC (CK hr hr' ha.pe hb.pe hc.pe hm) fun σ H Q=>uC snd snd'
theorem vq(ho:OpD X (OM op) g)(ho':OpD X (OM op') g')(ha:DE X a fa)(hb:DE X b fb)(hc:DE X c fc)
  (hm:Vf [op,op'] [b,c]=false:=by with_unfolding_all rfl):DT X (.Compare a [op,op'] [b,c] pos) (au (iS g g' fa fb fc)):=by
 refine⟨?_⟩;obtain⟨r,hr,snd⟩:=ho;obtain⟨r',hr',snd'⟩:=ho';exact lq (CA hr hr' ha.pe hb.pe hc.pe hm) fun σ H Q h=>uC snd snd' (qw h)
def oP:N9->Option Bool
 |.none=>some false
 |.bool b=>some b
 |.int i=>some (i != 0)
 |.str y=>if y.length<=Om then some ((y.length:Int) != 0) else none
 |.list xs=>some (!xs.isEmpty)
 |.tuple xs=>some (!xs.isEmpty)
 |.dict _=>none
def oQ(T:Tp)(w:W):Option (Bool×Tp):=match view T w with
 |some x=>match oP x with
  |some b=>some (b,T)
  |none=>none
 |none=>none
def aK(f:FE):FT:=fun ρ T=>bnd (f ρ T) fun w T1=>oQ T1 w
theorem tK{K:Frag}{O:Addr->Prop}{H:Hp}{vs:List V}{ds:List N9}(r:Reps K O H vs ds):vs.isEmpty=ds.isEmpty:=by cases r <;> rfl
theorem Gr{K:Frag}{O:Addr->Prop}{H:Hp}{v:V}{x:N9}{b:Bool}(h:Vw K O H v x)(e:oP x=some b):sJ K v H b:=by
 cases x with
 |none=>cases h.non;cases e;rfl
 |bool c=>cases h.bl;cases e;rfl
 |int i=>cases h.int;cases e;rfl
 |str y=>
  cases h.str;have e':(if y.length<=Om then some ((y.length:Int) != 0) else none)=some b:=e;split at e'
  .rename_i hl
   cases e';exact⟨hl,rfl⟩
  .cases e'
 |list xs=>
  obtain⟨a,vs,rfl,h1,h2⟩:=h.lst;cases e;exact .inl ⟨vs,h1,by rw[tK h2]⟩
 |tuple xs=>
  obtain⟨a,vs,rfl,h1,h2⟩:=h.tup;cases e;exact .inr (.inl ⟨vs,h1.sq,by rw[tK h2]⟩)
 |dict kvs=>
  cases e
theorem aU(ha:DE X a fa)(he:∀whole,VP a X.env whole=(do let v ←whole;WN a.pos;Te [v] (truthy v)):=by intro _;rfl):DT X a (aK fa):=by
 refine⟨?_⟩;refine lq (Cz ha.pe he) fun σ H Q=>?_;rintro⟨O,ts,ρ,T,b,T',hc,re,e,q⟩;obtain⟨w1,T1,e1,e⟩:=aJ e;refine⟨O,ts,ρ,T,w1,T1,hc,re,e1,fun v1 H1 s1 hc1 r1=>?_⟩;unfold oQ at e;split at e
 .rename_i x h1
  split at e
  .rename_i k h2
   cases e;exact⟨b,Gr (hc1.view r1 h1) h2,q H1 s1 hc1⟩
  .cases e
 .cases e
def bN(f g:FT):FT:=fun ρ T=>bnd (f ρ T) fun b T1=>if b=true then g ρ T1 else some (false,T1)
def a8(f g:FT):FT:=fun ρ T=>bnd (f ρ T) fun b T1=>if b=true then some (true,T1) else g ρ T1
def a6(f:FT):FT:=fun ρ T=>bnd (f ρ T) fun b T1=>some (!b,T1)
variable {ta tb:FT}{rest:List Expr}
theorem bu(h:DW X a f):DT X a f:=⟨PW.pt h.pe⟩
theorem dh(ha:DT X a ta):DW X (.BoolOp .And [a] pos) ta:=⟨Ey ha.pe⟩
theorem bZ(ha:DT X a ta):DW X (.BoolOp .Or [a] pos) ta:=⟨GJ ha.pe⟩
theorem cG(ha:DT X a ta)(hb:DW X (.BoolOp .And (b::rest) pos) tb):DW X (.BoolOp .And (a::b::rest) pos) (bN ta tb):=by
 refine⟨?_⟩;refine xh (GK ha.pe hb.pe) fun σ H Q=>?_;rintro⟨O,ts,ρ,T,b,T',hc,re,e,q⟩;obtain⟨b1,T1,e1,e⟩:=aJ e;refine⟨O,ts,ρ,T,b1,T1,hc,re,e1,fun H1 s1 hc1=>?_⟩
 cases b1 with
 |true=>exact eJ ⟨O,ts,ρ,T1,b,T',hc1,re.mono hc s1,by simpa using e,fun H2 s2 hc2=>q H2 (s1.trans s2) hc2⟩
 |false=>
  have e':some (false,T1)=some (b,T'):=by simpa using e
  cases e';exact eM (q H1 s1 hc1)
theorem bD(ha:DT X a ta)(hb:DW X (.BoolOp .Or (b::rest) pos) tb):DW X (.BoolOp .Or (a::b::rest) pos) (a8 ta tb):=by
 refine⟨?_⟩;refine xh (IG ha.pe hb.pe) fun σ H Q=>?_;rintro⟨O,ts,ρ,T,b,T',hc,re,e,q⟩;obtain⟨b1,T1,e1,e⟩:=aJ e;refine⟨O,ts,ρ,T,b1,T1,hc,re,e1,fun H1 s1 hc1=>?_⟩
 cases b1 with
 |false=>exact eM ⟨O,ts,ρ,T1,b,T',hc1,re.mono hc s1,by simpa using e,fun H2 s2 hc2=>q H2 (s1.trans s2) hc2⟩
 |true=>
  have e':some (true,T1)=some (b,T'):=by simpa using e
  cases e';exact eJ (q H1 s1 hc1)
theorem bB(ha:DT X a ta):DT X (.UnaryOp .Not a pos) (a6 ta):=by
 refine⟨?_⟩;refine lq (GL ha.pe) fun σ H Q=>?_;rintro⟨O,ts,ρ,T,b,T',hc,re,e,q⟩;obtain⟨b1,T1,e1,e⟩:=aJ e;cases e;exact⟨O,ts,ρ,T,b1,T',hc,re,e1,fun H1 s1 hc1=>q H1 s1 hc1⟩
def cw(f g:FE):FE:=fun ρ T=>bnd (f ρ T) fun w T1=>match asB w with
 |some b=>if b=true then g ρ T1 else some (.d (.bool false),T1)
 |none=>none
def J7(f g:FE):FE:=fun ρ T=>bnd (f ρ T) fun w T1=>match asB w with
 |some b=>if b=true then some (.d (.bool true),T1) else g ρ T1
 |none=>none
def lO(f:FE):FE:=fun ρ T=>bnd (f ρ T) fun w T1=>match asB w with
 |some b=>some (.d (.bool (!b)),T1)
 |none=>none
theorem cZ{op}(h:DE X a fa):DE X (.BoolOp op [a] pos) fa:=⟨GS h.pe⟩
theorem cH(ha:DE X a fa)(hb:DE X (.BoolOp .And (b::rest) pos) fb):DE X (.BoolOp .And (a::b::rest) pos) (cw fa fb):=by
 refine⟨?_⟩;refine bC (GU ha.pe hb.pe) fun σ H Q=>?_;rintro⟨O,ts,ρ,T,w,T',hc,re,e,q⟩;obtain⟨w1,T1,e1,e⟩:=aJ e;refine⟨O,ts,ρ,T,w1,T1,hc,re,e1,fun v1 H1 s1 hc1 r1=>?_⟩;split at e
 .rename_i b hb
  have hw:=oj hb;subst hw;cases (show Rep X.K O H1 v1 _ from r1)
  cases b with
  |true=>exact⟨_,rfl,eJ ⟨O,ts,ρ,T1,w,T',hc1,re.mono hc s1,by simpa using e,fun v H2 s2 hc2 r2=>q v H2 (s1.trans s2) hc2 r2⟩⟩
  |false=>
   rw[if_neg Ox] at e;cases e;exact⟨_,rfl,eM (q _ H1 s1 hc1 (.bl false))⟩
 .cases e
theorem rO(ha:DE X a fa):DE X (.UnaryOp .Not a pos) (lO fa):=by
 refine⟨?_⟩;refine bC (GT ha.pe) fun σ H Q=>?_;rintro⟨O,ts,ρ,T,w,T',hc,re,e,q⟩;obtain⟨w1,T1,e1,e⟩:=aJ e;refine⟨O,ts,ρ,T,w1,T1,hc,re,e1,fun v1 H1 s1 hc1 r1=>?_⟩;split at e
 .rename_i b hb
  have hw:=oj hb;subst hw;cases (show Rep X.K O H1 v1 _ from r1);cases e;exact⟨_,rfl,q _ H1 s1 hc1 (.bl _)⟩
 .cases e
def cF(c:FT)(f g:FE):FE:=fun ρ T=>bnd (c ρ T) fun b T1=>if b=true then f ρ T1 else g ρ T1
theorem dN(hc:DT X c ta)(ha:DE X a fa)(hb:DE X b fb):DE X (.IfExp c a b pos) (cF ta fa fb):=by
 refine⟨?_⟩;refine bC (CI hc.pe ha.pe hb.pe) fun σ H Q=>?_;rintro⟨O,ts,ρ,T,w,T',hc,re,e,q⟩;obtain⟨b1,T1,e1,e⟩:=aJ e;refine⟨O,ts,ρ,T,b1,T1,hc,re,e1,fun H1 s1 hc1=>?_⟩
 cases b1 with
 |true=>exact eJ ⟨O,ts,ρ,T1,w,T',hc1,re.mono hc s1,by simpa using e,fun v H2 s2 hc2 r2=>q v H2 (s1.trans s2) hc2 r2⟩
 |false=>exact eM ⟨O,ts,ρ,T1,w,T',hc1,re.mono hc s1,by simpa using e,fun v H2 s2 hc2 r2=>q v H2 (s1.trans s2) hc2 r2⟩
theorem Jx(hr:UnR X (unaryOp op) r)(snd:Kf X.K r g1)(ha:DE X a fa):DE X (.UnaryOp op a pos) (fUn g1 fa):=by
 refine⟨?_⟩;refine bC (II hr ha.pe) fun σ H Q=>?_;rintro⟨O,ts,ρ,T,w,T',hc,re,e,q⟩;obtain⟨w1,T1,e1,e⟩:=aJ e;obtain⟨x,d,h1,h3,rfl,rfl⟩:=jJ e;refine⟨O,ts,ρ,T,w1,T',hc,re,e1,fun v1 H1 s1 hc1 r1=>?_⟩;exact snd O ts H1 T' v1 x d Q hc1 (hc1.view r1 h1) h3 fun v H' s3 hc3 r3=>q v H' (s1.trans s3) hc3 r3
end
def ah:FA:=fun _ T=>some ([],T)
def ae(f:FE)(g:FA):FA:=fun ρ T=>bnd (f ρ T) fun w T1=>bnd (g ρ T1) fun ws T2=>some (w::ws,T2)
def d4:List W->Option (List N9)
 |[]=>some []
 |.d x::r=>match d4 r with
  |some xs=>some (x::xs)
  |none=>none
 |_::_=>none
theorem kN{K:Frag}{O:Addr->Prop}{ts:List Addr}{H:Hp}:∀{vs:List V}{ws:List W}{xs:List N9},ie K O ts H vs ws->d4 ws=some xs->Reps K O H vs xs
 |_,[],_,.nil,e=>by cases e;exact .nil
 |_,.d x::r,xs,.cons h t,e=>by
  unfold d4 at e;split at e
  .rename_i ys h2
   cases e;exact .cons h (kN t h2)
  .cases e
 |_,.tp _::_,_,.cons _ _,e=>by cases e
 |_,.loc _::_,_,.cons _ _,e=>by cases e
def aC(mk:List N9->N9)(f:FA):FE:=fun ρ T=>bnd (f ρ T) fun ws T1=>match d4 ws with
 |some xs=>if xs.length<=1000 then some (.d (mk xs),T1) else none
 |none=>none
theorem nA(h:n<=1000):n<=sizeLine:=OX h (by decide)
def d6(X:Cx)(f:Oa)(g:List N9->Option N9):Prop:=∃r,CallR X f r/\∀(O:Addr->Prop) (ts:List Addr) (H:Hp) (T:Tp) (vs:List V) (xs:List N9) (d:N9) (Q:VK),HC X.K O ts H T->Vws X.K O H vs xs->g xs=some d ->
 (∀v H',SameX ts H H'->HC X.K O ts H' T->Rep X.K O H' v d->Q v H')->r vs H Q
def fCB(g:List N9->Option N9)(f:FA):FE:=fun ρ T=>bnd (f ρ T) fun ws T1=>match views T1 ws with
 |some xs=>match g xs with
  |some d=>some (.d d,T1)
  |none=>none
 |none=>none
section
variable {X:Cx}{pos p:Pos}{e:Expr}{es:List Expr}{f:FE}{g:FA}
theorem av:DA X [] ah:=by
 refine⟨?_⟩;refine xp b7 fun σ H Q=>?_;rintro⟨O,ts,ρ,T,w,T',hc,re,e,q⟩;cases e;exact q [] H (.refl _ _) hc .nil
theorem aj(ha:DE X e f)(hr:DA X es g)(hs:Oh (e::es) X.env=(false,eval e X.env)::Oh es X.env:=by exact bf rfl):DA X (e::es) (ae f g):=by
 refine⟨?_⟩;refine xp (bY ha.pe hr.pe hs) fun σ H Q=>?_;rintro⟨O,ts,ρ,T,w,T',hc,re,e,q⟩;obtain⟨w1,T1,e1,e⟩:=aJ e;obtain⟨ws,T2,e2,e⟩:=aJ e;cases e;refine⟨O,ts,ρ,T,w1,T1,hc,re,e1,fun v1 H1 s1 hc1 r1=>?_⟩;exact⟨O,ts,ρ,T1,ws,_,hc1,re.mono hc s1,e2,fun vs H2 s2 hc2 r2=>q _ H2 (s1.trans s2) hc2 (.cons (r1.mono hc1 s2) r2)⟩
theorem vR(e:aC mk g ρ T=some (w,T')):∃ws xs,g ρ T=some (ws,T')/\d4 ws=some xs/\xs.length<=1000/\w=.d (mk xs):=by
 obtain⟨ws,T1,e1,e⟩:=aJ e;split at e
 .rename_i xs h1
  split at e
  .rename_i h2
   cases e;exact⟨ws,xs,e1,h1,h2,rfl⟩
  .cases e
 .cases e
theorem aS{x1}(h:DA X es g):DE X (.Tuple es x1 pos) (aC .tuple g):=by
 refine⟨?_⟩;refine bC (xm h.pe) fun σ H Q=>?_;rintro⟨O,ts,ρ,T,w,T',hc,re,e,q⟩;obtain⟨ws,xs,e1,h1,h2,rfl⟩:=vR e;refine⟨O,ts,ρ,T,ws,T',hc,re,e1,fun vs H1 s1 hc1 r1=>?_⟩;have rs:=kN r1 h1;refine⟨nA (by rw[rs.length];exact h2),fun p hp=>?_⟩;exact q _ _ (s1.trans (.new hp _)) (hc1.new hp _) (hc1.newT hp rs)
theorem bS(h:DA X es g):DE X (.List es pos) (aC .list g):=by
 refine⟨?_⟩;refine bC (jH h.pe) fun σ H Q=>?_;rintro⟨O,ts,ρ,T,w,T',hc,re,e,q⟩;obtain⟨ws,xs,e1,h1,h2,rfl⟩:=vR e;refine⟨O,ts,ρ,T,ws,T',hc,re,e1,fun vs H1 s1 hc1 r1=>?_⟩;have rs:=kN r1 h1;refine⟨nA (by rw[rs.length];exact h2),fun p hp=>?_⟩;exact q _ _ (s1.trans (.new hp _)) (hc1.new hp _) (hc1.newL hp rs)
theorem yd{K:Frag}{r:List V->Hp->VK->Prop}{gg:List N9->Option N9}(snd:∀(O:Addr->Prop) (ts:List Addr) (H:Hp) (T:Tp) (vs:List V) (xs:List N9) (d:N9) (Q:VK),HC K O ts H T->Vws K O H vs xs->gg xs=some d ->
  (∀v H',SameX ts H H'->HC K O ts H' T->Rep K O H' v d->Q v H')->r vs H Q) {σ:L2.St}{H:Hp}{Q:VK} (h:lift K (fCB gg g) σ H Q):tCB r (yF K g) σ H Q:=by
 obtain⟨O,ts,ρ,T,w,T',hc,re,e,q⟩:=h;obtain⟨ws,T1,e1,e⟩:=aJ e;refine⟨O,ts,ρ,T,ws,T1,hc,re,e1,fun vs H1 s1 hc1 r1=>?_⟩;split at e
 .rename_i xs h1
  split at e
  .rename_i d h2
   cases e;exact snd O ts H1 T' vs xs d Q hc1 (hc1.views r1 h1) h2 fun v H' s3 hc3 r3=>q v H' (s1.trans s3) hc3 r3
  .cases e
 .cases e
theorem a9{x:Str}{id:String}{gg:List N9->Option N9}(hc:d6 X (.builtin id) gg)(hg:Gl X x)(hm:X.mg x=none)(hv:Qh x=some (.builtin id))(ha:DA X (e::es) g)(hn:x≠"__name__":=by decide)(hdb:(x == ("__debug__" : Str))=false:=by decide)
  (he:Oh (e::es) X.env=(false,eval e X.env)::Oh es X.env:=by exact bf rfl) (hpl:(Pb pos (Oh es X.env)).any (·.1)=false:=by exact bR rfl):DE X (.Call (.Name x p) (e::es) [] pos) (fCB gg g):=by
 refine⟨?_⟩;obtain⟨r,hr,snd⟩:=hc;exact bC (kJ hr hg hm hv ha.pe hn hdb he hpl) fun σ H Q h=>yd snd h
theorem ck{x:Str}{id:String}{gg:List N9->Option N9}(hc:d6 X (.type id) gg)(hg:Gl X x)(hm:X.mg x=none)(hv:Qh x=some (.type id))(ha:DA X (e::es) g)(hn:x≠"__name__":=by decide)(hdb:(x == ("__debug__" : Str))=false:=by decide)
  (he:Oh (e::es) X.env=(false,eval e X.env)::Oh es X.env:=by exact bf rfl) (hpl:(Pb pos (Oh es X.env)).any (·.1)=false:=by exact bR rfl):DE X (.Call (.Name x p) (e::es) [] pos) (fCB gg g):=by
 refine⟨?_⟩;obtain⟨r,hr,snd⟩:=hc;exact bC (jn hr hg hm hv ha.pe hn hdb he hpl) fun σ H Q h=>yd snd h
end
abbrev FI:=Rho->Tp->Option (List N9×Tp)
def J1(K:Frag)(tl:TE):TI:=fun σ H R=>tl σ H fun x H1=>(∃a xs,x=.ref a/\SqL K H1 a xs/\(xs.length<=Om->R (Itl K a) H1))\/(∃a xs,x=.ref a/\SqT K H1 a xs/\(xs.length<=Om->R (Itt K a) H1))\/(∃z,x=.str z/\R (Its z) H1)\/∃a o kvs,x=.ref a/\H1 a=some (.frz o (.dK kvs))/\(kvs.length<=Om->R (Itd a o kvs) H1)
theorem GN(hl:PE X l tl):PI X tg l (J1 X.K tl):=by
 intro pins s σ H R I h;refine thn (hl pins s σ H _ I h) fun v s1 ⟨x,H1,I1,r1,q1⟩=>?_
 have fk:∀b∈[s1.heap.objs.size],dU X pins H1 b:=fun b hb=>by
  have e:b=s1.heap.objs.size:=by simpa using hb
  subst e;exact I1.fpOk (Ol _) (I1.hok.fresh (Ol _))
 rcases q1 with⟨a,xs,e,hq,q⟩|⟨a,xs,e,hq,q⟩|⟨z,e,q⟩|⟨a,o,kvs,e,hq,q⟩
 .subst e
  cases r1;obtain⟨its,rv,p,hz⟩:=I1.list hq;refine Qf p.isList ?_;exact⟨s1.heap.objs.size,[s1.heap.objs.size],_,_,H1,rfl,I1.kept (t':=s1.toks) fun b o e=>Of _ e,pM a _,⟨_,OC _ rfl,rfl,rfl⟩,fk,q hz⟩
 .subst e
  cases r1;obtain⟨its,rv,p,hz⟩:=I1.tuple hq;refine wpAny_pyIter_tuple (show s1.heap.IsTuple a its.toArray from p) ?_;exact⟨s1.heap.objs.size,[s1.heap.objs.size],_,_,H1,rfl,I1.kept (t':=s1.toks) fun b o e=>Of _ e,AN a _,⟨_,OC _ rfl,rfl,rfl⟩,fk,q hz⟩
 .subst e
  obtain⟨t,rfl⟩:=r1
  cases ha:z.cps.all (· < 128) with
  |false=>
   refine wpAny_pyIter_wide ha ?_;exact⟨s1.heap.objs.size,[s1.heap.objs.size],_,_,H1,rfl,I1.kept (t':=s1.toks) fun b o e=>Of _ e,uK z t "str_iterator" _ (.inr rfl),⟨_,OC _ rfl,rfl,rfl⟩,fk,q⟩
  |true=>
   refine wpAny_pyIter_ascii ha ?_;exact⟨s1.heap.objs.size,[s1.heap.objs.size],_,_,H1,rfl,I1.kept (t':=s1.toks) fun b o e=>Of _ e,uK z t "str_ascii_iterator" _ (.inl rfl),⟨_,OC _ rfl,rfl,rfl⟩,fk,q⟩
 .subst e
  cases r1;obtain⟨z,y,vs,kv,dd⟩:=iG I1.hok hq;refine wpAny_pyIter_dict y dd ?_;exact⟨s1.heap.objs.size,[s1.heap.objs.size],_,_,H1,rfl,I1.kept (t':=s1.toks) fun b o e=>Of _ e,Bm a _ o kvs,⟨_,OC _ rfl,rfl,by rw[kv.length];rfl⟩,fk,q z⟩
def ItOk(K:Frag)(O:Addr->Prop)(H1:Hp)(J:It)(ds:List N9):Prop:=∀O' H',Le O H1 O' H'->(∀i,i<ds.length->J.go i H')/\J.stop ds.length H'/\∀i v H'',J.yld i H' v H''->i<ds.length->H''=H'/\∃d,ds[i]? = some d/\Rep K O' H' v d
inductive LiftIP(K:Frag)(f:FI)(σ:L2.St)(H:Hp)(R:It->Hp->Prop):Prop where
 |mk (O:Addr->Prop) (ts:List Addr) (ρ:Rho) (T:Tp) (ds:List N9) (T':Tp) (hc:HC K O ts H T) (re:RelE K O ts H σ ρ) (e:f ρ T=some (ds,T')) (q:∀J H1,SameX ts H H1->HC K O ts H1 T'->ItOk K O H1 J ds->ds.length<=Om->R J H1):LiftIP K f σ H R
def lI(K:Frag)(f:FI):TI:=fun σ H R=>LiftIP K f σ H R
structure DI(X:Cx)(tg e:Expr)(f:FI):Prop where
 pe:PI X tg e (lI X.K f)
theorem xk(h:PI X tg e t)(i:∀σ H Q,t' σ H Q->t σ H Q):PI X tg e t':=fun pins s σ H Q I q=>h pins s σ H Q I (i σ H Q q)
def signs(z:Str):List PyData:=z.cps.toList.map fun c=>.str ⟨#[c]⟩
def iQ:N9->Option (List N9)
 |.list xs=>some xs
 |.tuple xs=>some xs
 |.str z=>if z.length<=Om then some (signs z) else none
 |.dict ds=>some (ds.map (·.1))
 |_=>none
def aW(f:FE):FI:=fun ρ T=>bnd (f ρ T) fun w T1=>match w with
 |.d x=>match iQ x with
  |some xs=>some (xs,T1)
  |none=>none
 |_=>none
theorem ItOk.lst{K:Frag}{O:Addr->Prop}{H1:Hp}{a:Addr}{vs:List V}{ds:List N9}(h:LstAt K O H1 a vs)(r:Reps K O H1 vs ds):ItOk K O H1 (Itl K a) ds:=fun O' H' le=>by
 have sq:=(h.mono le).sq;have hl:=r.length;refine⟨fun i hi=>⟨vs,vs[i]'(by omega),sq,by simp⟩,⟨vs,sq,by omega⟩,fun i v H'' y hi=>?_⟩;obtain⟨e,y⟩:=y;obtain⟨d,h1,h2⟩:=r.get (y vs sq);exact⟨e,d,h1,h2.mono le⟩
theorem ItOk.tup{K:Frag}{O:Addr->Prop}{H1:Hp}{a:Addr}{vs:List V}{ds:List N9}(h:TupAt K O H1 a vs)(r:Reps K O H1 vs ds):ItOk K O H1 (Itt K a) ds:=fun O' H' le=>by
 have sq:=(h.mono le).sq;have hl:=r.length;refine⟨fun i hi=>⟨vs,vs[i]'(by omega),sq,by simp⟩,⟨vs,sq,by omega⟩,fun i v H'' y hi=>?_⟩;obtain⟨e,y⟩:=y;obtain⟨d,h1,h2⟩:=r.get (y vs sq);exact⟨e,d,h1,h2.mono le⟩
theorem ItOk.str{K:Frag}{O:Addr->Prop}{H1:Hp}{z:Str}:ItOk K O H1 (Its z) (signs z):=fun O' H' le=>by
 have hl:(signs z).length=z.cps.size:=by simp[signs]
 refine⟨fun i hi=>by rw[hl] at hi;exact hi,by rw[hl];exact Ol _,fun i v H'' y hi=>?_⟩;obtain⟨e,c,hc,y⟩:=y;subst y;refine⟨e,.str ⟨#[c]⟩,?_,.str _⟩;unfold signs;rw[Ph]
 have:z.cps.toList[i]? = some c:=by simpa using hc
 rw[this];rfl
theorem mH{K:Frag}{O:Addr->Prop}{H:Hp}:∀{kvs:List (Key×V)}{ds:List (N9×N9)},RepK K O H kvs ds->kvs.length=ds.length
 |_,_,.nil=>rfl
 |_,_,.cons _ t=>congrArg (· + 1) (mH t)
theorem uY{K:Frag}{O:Addr->Prop}{H:Hp}:∀{kvs:List (Key×V)}{ds:List (N9×N9)}{i:Nat}{k:Key}{v:V},RepK K O H kvs ds->kvs[i]? = some (k,v)->(ds.map (·.1))[i]? = some (dH k)
 |_,_,_,_,_,.nil,e=>by simp at e
 |_,_,0,_,_,.cons r _,e=>by simp at e;obtain⟨rfl,rfl⟩:=e;rfl
 |_,_,i+1,k,v,.cons _ t,e=>by
  have:=uY (i:=i) t (by simpa using e);simpa using this
theorem qy{K:Frag}{O:Addr->Prop}{H:Hp}(k:Key):Rep K O H (kV k) (dH k):=by
 cases k with
 |inl i=>exact .int i
 |inr x=>exact .str x
theorem ItOk.dct{K:Frag}{O:Addr->Prop}{H1:Hp}{a:Addr}{o:Obj}{kvs:List (Key×V)}{ds:List (N9×N9)}(n:¬O a)(h:H1 a=some (.frz o (.dK kvs)))(r:RepK K O H1 kvs ds):ItOk K O H1 (Itd a o kvs) (ds.map (·.1)):=fun O' H' le=>by
 have h':=(le a _ n h).2;have hl:=mH r;refine⟨fun i hi=>⟨h',by simp at hi;omega⟩,⟨h',by simp[hl]⟩,fun i v H'' y hi=>?_⟩;obtain⟨e,k,v0,y1,y2⟩:=y;subst y2;exact⟨e,_,uY r y1,qy k⟩
theorem bK(h:DE X e f):DI X tg e (aW f):=by
 refine⟨?_⟩;refine xk (GN h.pe) fun σ H R=>?_;rintro⟨O,ts,ρ,T,ds,T',hc,re,e,q⟩;obtain⟨w1,T1,e1,e⟩:=aJ e;refine⟨O,ts,ρ,T,w1,T1,hc,re,e1,fun v1 H1 s1 hc1 r1=>?_⟩;split at e
 .rename_i x
  split at e
  .rename_i xs h1
   cases e;have rr:Rep X.K O H1 v1 x:=r1
   cases x with
   |list ys=>
    cases h1
    cases rr with
    |lst t r=>exact .inl ⟨_,_,rfl,t.sq,fun hz=>q _ H1 s1 hc1 (.lst t r) (by rw[←r.length];exact hz)⟩
   |tuple ys=>
    cases h1
    cases rr with
    |tup t r=>exact .inr (.inl ⟨_,_,rfl,t.sq,fun hz=>q _ H1 s1 hc1 (.tup t r) (by rw[←r.length];exact hz)⟩)
   |str z=>
    have h1':(if z.length<=Om then some (signs z) else none)=some _:=h1;split at h1'
    .rename_i hz
     cases h1';cases rr;exact .inr (.inr (.inl ⟨z,rfl,q _ H1 s1 hc1 .str (by rw[show (signs z).length=z.cps.size by simp[signs]];exact hz)⟩))
    .cases h1'
   |dict ys=>
    cases h1
    cases rr with
    |dct n t r=>exact .inr (.inr (.inr ⟨_,_,_,rfl,t,fun hz=>q _ H1 s1 hc1 (.dct n t r) (by rw[OS,←mH r];exact hz)⟩))
   |_=>cases h1
  .cases e
 .cases e
def cv(lo:Int)(n:Nat):List PyData:=(Py n).map fun(i:Nat)=>.int (lo+(i:Int))
theorem ItOk.rng{K:Frag}{O:Addr->Prop}{H1:Hp}{lo:Int}{n:Nat}:ItOk K O H1 (Itr lo n) (cv lo n):=fun O' H' le=>by
 have hl:(cv lo n).length=n:=by simp[cv]
 refine⟨fun i hi=>by rw[hl] at hi;exact hi,by rw[hl];exact Ol _,fun i v H'' y hi=>?_⟩;obtain⟨e,y⟩:=y;subst y;rw[hl] at hi;exact⟨e,.int (lo+i),by simp[cv,hi],.int _⟩
def lF(j:Int):Bool:=decide (-1000000<=j/\j<=16777216)
theorem GI(h:lF j=true) : -(2^62)<=j/\j<2^62/\j.toNat<=sizeLine:=by
 have h':=of_decide_eq_true h
 have e:Om=16777216:=by decide
 omega
def dE(f:FE):FI:=fun ρ T=>bnd (f ρ T) fun w T1=>match w with
 |.d (.int j)=>if lF j=true then some (cv 0 j.toNat,T1) else none
 |_=>none
theorem gR(hg:Gl X "range")(hm:X.mg "range"=none)(ha:DE X a f)(hs:Oh [a] X.env=[(false,eval a X.env)]:=by exact uO rfl):DI X tg (.Call (.Name "range" p) [a] [] pos) (dE f):=by
 refine⟨?_⟩;refine xk (Bx (ta:=yo (lift X.K f) zi) hg hm (bY ha.pe b7 (by rw[hs];rfl)) hs) fun σ H R=>?_;rintro⟨O,ts,ρ,T,ds,T',hc,re,e,q⟩;obtain⟨w1,T1,e1,e⟩:=aJ e;refine⟨O,ts,ρ,T,w1,T1,hc,re,e1,fun v1 H1 s1 hc1 r1=>?_⟩;split at e
 .rename_i j
  split at e
  .rename_i h1
   cases e;cases (show Rep X.K O H1 v1 _ from r1);obtain⟨b1,b2,b3⟩:=GI h1;exact⟨j,rfl,b1,b2,q _ H1 s1 hc1 .rng (by simpa[cv] using b3)⟩
  .cases e
 .cases e
def bT(c:FT)(e:FE)(ρ:Rho):List N9->Tp->Option (List N9×Tp)
 |[],T=>some ([],T)
 |d::r,T=>bnd (c (some (.d d)::ρ) T) fun b T1=>if b=true then bnd (e (some (.d d)::ρ) T1) fun w T2=>match w with
   |.d y=>bnd (bT c e ρ r T2) fun ys T3=>some (y::ys,T3)
   |_=>none
  else bT c e ρ r T1
def bb(it:FI)(c:FT)(e:FE):FE:=fun ρ T=>bnd (it ρ T) fun ds T1=>bnd (bT c e ρ ds T1) fun ys T2=>some (.d (.list ys),T2)
def bx:FT:=fun _ T=>some (true,T)
theorem RelE.cons{K:Frag}{O:Addr->Prop}{ts:List Addr}{H:Hp}{σ:L2.St}{ρ:Rho}{v:V}{d:N9}(re:RelE K O ts H σ ρ)(r:Rep K O H v d):RelE K O ts H (some v::σ) (some (.d d)::ρ):=fun i w e=>by
 cases i with
 |zero=>cases e;exact⟨v,rfl,r⟩
 |succ i=>
  obtain⟨u,h1,h2⟩:=re i w (by simpa using e);exact⟨u,by simpa using h1,h2⟩
theorem qR{K:Frag}{O:Addr->Prop}{ts:List Addr}{H1:Hp}{σ:L2.St}{ρ:Rho}{J:It}{c:FT}{e:FE}{ds ys:List N9}{T1 T2:Tp}{Dn:List V->Hp->Prop}(hc:HC K O ts H1 T1)(re:RelE K O ts H1 σ ρ)(ok:ItOk K O H1 J ds)(hz:ds.length<=Om)
  (ee:bT c e ρ ds T1=some (ys,T2)) (q:∀vs H',SameX ts H1 H'->HC K O ts H' T2->Reps K O H' vs ys->Dn vs H') :
  ∃W:Nat->Nat->List V->Hp->Prop,(∃m,W 0 m [] H1)/\oM σ J (liftT K c) (lift K e) W Dn:=by
 refine⟨fun i m vs H'=>m=ds.length-i/\i<=ds.length/\vs.length<=i/\∃T dn rs,SameX ts H1 H'/\HC K O ts H' T/\Reps K O H' vs dn/\bT c e ρ (ds.drop i) T=some (rs,T2)/\ys=dn++rs,⟨_,rfl,PH _,Ol _,T1,[],ys,.refl _ _,hc,.nil,ee,rfl⟩,?_⟩;rintro i m vs H' ⟨rfl,hi,hv,T,dn,rs,s1,hc1,rv,ec,ey⟩;obtain⟨k1,k2,k3⟩:=ok O H' (hc.le s1)
 by_cases hlt:i<ds.length
 .refine .inr ⟨k1 i hlt,by omega,fun vs' H2=>i+1<=ds.length/\vs'.length<=i+1/\∃T dn rs,SameX ts H1 H2/\HC K O ts H2 T/\Reps K O H2 vs' dn/\bT c e ρ (ds.drop (i+1)) T=some (rs,T2)/\ys=dn++rs,fun vs' H2 n=>⟨ds.length-(i+1),by omega,rfl,n⟩,fun v H2 y=>?_⟩
  obtain⟨e2,d,hd,rd⟩:=k3 i v H2 y hlt;subst e2
  have hdr:ds.drop i=d::ds.drop (i+1):=by
   rw[PM hlt];have:=(Og.mp hd).2;rw[this]
  rw[hdr] at ec;obtain⟨b,T3,e3,ec⟩:=aJ ec;refine⟨O,ts,some (.d d)::ρ,T,b,T3,hc1,(re.mono hc s1).cons rd,e3,fun H3 s3 hc3=>?_⟩
  cases b with
  |false=>
   rw[if_neg Ox] at ec;exact eM ⟨hlt,by omega,T3,dn,rs,s1.trans s3,hc3,rv.mono (hc1.le s3),ec,ey⟩
  |true=>
   rw[if_pos rfl] at ec;obtain⟨w,T4,e4,ec⟩:=aJ ec;refine eJ ⟨O,ts,some (.d d)::ρ,T3,w,T4,hc3,((re.mono hc s1).cons rd).mono hc1 s3,e4,fun u H4 s4 hc4 r4=>?_⟩;split at ec
   .rename_i y
    obtain⟨zs,T5,e5,ec⟩:=aJ ec;cases ec;refine⟨hlt,by simp;omega,T4,dn++[y],zs,s1.trans (s3.trans s4),hc4,(rv.mono (hc1.le (s3.trans s4))).append (.cons r4 .nil),e5,by rw[ey];simp⟩
   .cases ec
 .have e:i=ds.length:=by omega
  subst e;rw[Pt (Ol _)] at ec;cases ec;rw[PV] at ey;subst ey;exact .inl ⟨k2,by omega,q vs H' s1 hc1 rv⟩
structure DTs(X:Cx)(es:List Expr)(f:FT):Prop where
 pe:PTs X es (liftT X.K f)
theorem kZ:DTs X [] bx:=⟨fun pins s σ H Q E I h=>by
 refine EC pins s σ H Q E I ?_;obtain⟨O,ts,ρ,T,w,T',hc,re,e,q⟩:=h;cases e
 exact q H (.refl _ _) hc⟩
theorem qO(hx:X.xe=fun _ _=>False)(h:DT X c f):DTs X [c] f:=⟨EB hx h.pe⟩
theorem FU(S:CS osc N x scope N')(hi:DI X (.Name x px) iter it)
  (he:∀C s0 H0 ex,DE (bV X x scope C s0 H0 ex N') elt f) (ht:∀C s0 H0 ex,DTs (bV X x scope C s0 H0 ex N') ifs c) (hc:X.calm=true:=by rfl) (hs:X.env.scope=osc:=by rfl) (hN:X.N=N:=by rfl)
  (hf:∀v,O0 iter X.env v=pure v:=by intro _;rfl):DE X (.ListComp elt [⟨.Name x px,iter,ifs,0⟩] scope pos) (bb it c f):=by
 refine⟨?_⟩;refine bC (u5 (wi:=lI X.K it) (tt:=liftT X.K c) (te:=lift X.K f) S hi.pe (fun C s0 H0 ex=>(he C s0 H0 ex).pe) (fun C s0 H0 ex=>(ht C s0 H0 ex).pe) hc hs hN hf) fun σ H Q=>?_;rintro⟨O,ts,ρ,T,w,T',hc,re,e,q⟩;obtain⟨ds,T1,e1,e⟩:=aJ e;obtain⟨ys,T2,e2,e⟩:=aJ e;cases e;refine⟨O,ts,ρ,T,ds,T1,hc,re,e1,fun J H1 s1 hc1 ok hz=>?_⟩;exact qR hc1 (re.mono hc s1) ok hz e2 fun vs H' s2 hc2 r2 p hp=>q _ _ (s1.trans (s2.trans (.new hp _))) (hc2.new hp _) (hc2.newL hp r2)
inductive Fl where
 |nx|rt (x:N9)|ro (x:N9)|bk|ct
abbrev FS:=Rho->Tp->Option ((Fl×Rho)×Tp)
structure RS(K:Frag)(O₀:Addr->Prop)(H₀:Hp)(F:List ((Addr->Prop)×Hp))(ts:List Addr)(O:Addr->Prop)(H:Hp)(σ:L2.St)(ρ:Rho)(T:Tp):Prop where
 hc:HC K O ts H T
 re:RelE K O ts H σ ρ
 sub:∀b,O₀ b->O b
 ots:∀b∈ts,O₀ b
 same:SameX ts H₀ H
 fresh:∀(i:Nat) (xs:N9) (a:Addr),ρ[i]? = some (some (.loc xs))->σ[i]? = some (some (.ref a))->H₀ a=none/\¬O₀ a
 dist:∀(i j:Nat) (xs ys:N9) (v:V),ρ[i]? = some (some (.loc xs))->ρ[j]? = some (some (.loc ys))->σ[i]? = some (some v)->σ[j]? = some (some v)->i=j
 frs:∀f∈F,Le f.1 f.2 O H
 len:σ.length=ρ.length
def OwnV(K:Frag)(O A:Addr->Prop)(H:Hp)(v:V):N9->Prop
 |.tuple [x,y]=>∃p a b,v=.ref p/\a≠b/\(∀c,A c↔c=a\/c=b)/\¬O p/\H p=some (.tup [.ref a,.ref b])/\OwnAt K O H a x/\OwnAt K O H b y
 |.none=>v=.non/\∀c,¬A c
 |x=>∃a,v=.ref a/\(∀c,A c↔c=a)/\OwnAt K O H a x
theorem OwnV.mono{K:Frag}{O O' A:Addr->Prop}{H:Hp}{v:V}{x:N9}(le:Le O H O' H)(h:OwnV K O A H v x):OwnV K O' A H v x:=by
 unfold OwnV at h ⊢;split at h
 .obtain⟨p,a,b,e1,e2,e3,np,hp,oa,ob⟩:=h
  exact⟨p,a,b,e1,e2,e3,(le p _ np hp).1,hp,oa.mono (fun _ h=>h) le,ob.mono (fun _ h=>h) le⟩
 .exact h
 .obtain⟨a,e,hA,oa⟩:=h
  exact⟨a,e,hA,oa.mono (fun _ h=>h) le⟩
def za(K:Frag)(O₀:Addr->Prop)(H₀:Hp)(F:List ((Addr->Prop)×Hp))(ts:List Addr)(D:Ends)(ρ':Rho)(T':Tp):Fl->Prop
 |.nx=>∀O' σ' H',RS K O₀ H₀ F ts O' H' σ' ρ' T'->D.nx σ' H'
 |.bk=>∀O' σ' H',RS K O₀ H₀ F ts O' H' σ' ρ' T'->D.bk σ' H'
 |.ct=>∀O' σ' H',RS K O₀ H₀ F ts O' H' σ' ρ' T'->D.ct σ' H'
 |.rt x=>∀v H',SameX ts H₀ H'->HC K O₀ ts H' T'->Rep K O₀ H' v x->D.rt v H'
 |.ro x=>∀(A:Addr->Prop) v H',SameX ts H₀ H'->(∀b,A b->H₀ b=none/\¬O₀ b)->HC K (fun b=>O₀ b\/A b) ts H' T'->OwnV K (fun b=>O₀ b\/A b) A H' v x->D.rt v H'
inductive LiftSP(K:Frag)(f:FS)(D:Ends)(σ:L2.St)(H:Hp):Prop where
 |mk (O₀:Addr->Prop) (H₀:Hp) (F:List ((Addr->Prop)×Hp)) (ts:List Addr) (O:Addr->Prop) (ρ:Rho) (T:Tp) (fl:Fl) (ρ':Rho) (T':Tp) (rs:RS K O₀ H₀ F ts O H σ ρ T) (e:f ρ T=some ((fl,ρ'),T')) (q:za K O₀ H₀ F ts D ρ' T' fl):LiftSP K f D σ H
def r6(K:Frag)(f:FS):TS:=fun D σ H=>LiftSP K f D σ H
structure DS(X:Cx)(s:Stmt)(f:FS):Prop where
 pe:PS X s (r6 X.K f)
structure DSs(X:Cx)(s:List Stmt)(f:FS):Prop where
 pe:PSs X s (r6 X.K f)
theorem bF(h:PS X e t)(i:∀D σ H,t' D σ H->t D σ H):PS X e t':=fun pins s σ H D I q=>h pins s σ H D I (i D σ H q)
theorem iL(h:PSs X e t)(i:∀D σ H,t' D σ H->t D σ H):PSs X e t':=fun pins s σ H D I q=>h pins s σ H D I (i D σ H q)
section
variable {K:Frag}{O₀:Addr->Prop}{H₀:Hp}{F:List ((Addr->Prop)×Hp)}{ts:List Addr}{O:Addr->Prop}{H H1:Hp}{σ:L2.St}{ρ:Rho}{T T1:Tp}
theorem RS.step(r:RS K O₀ H₀ F ts O H σ ρ T)(s:SameX ts H H1)(c:HC K O ts H1 T1):RS K O₀ H₀ F ts O H1 σ ρ T1 where
 hc:=c
 re:=r.re.mono r.hc s
 sub:=r.sub
 ots:=r.ots
 same:=r.same.trans s
 fresh:=r.fresh
 dist:=r.dist
 frs:=fun f hf=>(r.frs f hf).trans (r.hc.le s)
 len:=r.len
theorem gk(hw:∀ys,w≠.loc ys)(e:(ρ.set i (some w))[j]? = some (some (.loc xs))):j≠i/\ρ[j]? = some (some (.loc xs)):=by
 by_cases z:i=j
 .subst z
  rw[List.getElem?_set_self'] at e
  cases h:ρ[i]? with
  |none=>rw[h] at e;cases e
  |some u=>
   rw[h] at e;have e':some (some w)=some (some (W.loc xs)):=e;cases e';exact absurd rfl (hw xs)
 .rw[Oi z] at e
  exact⟨fun q=>z q.symm,e⟩
theorem RS.set{i:Nat}{v:V}{w:W}(r:RS K O₀ H₀ F ts O H σ ρ T)(rw':RepW K O ts H v w)(hw:∀ys,w≠.loc ys):RS K O₀ H₀ F ts O H (σ.set i (some v)) (ρ.set i (some w)) T where
 hc:=r.hc
 re:=fun j u e=>by
  by_cases z:i=j
  .subst z
   have hl:i<ρ.length:=by
    have:=(Og.mp e).1;simpa using this
   rw[Ow hl] at e;cases e;exact⟨v,by rw[Ow (by rw[r.len];exact hl)],rw'⟩
  .rw[Oi z] at e
   obtain⟨x,h1,h2⟩:=r.re j u e;exact⟨x,by rw[Oi z];exact h1,h2⟩
 sub:=r.sub
 ots:=r.ots
 same:=r.same
 fresh:=fun j xs a e1 e2=>by
  obtain⟨n,e⟩:=gk hw e1;rw[Oi (Qa n)] at e2;exact r.fresh j xs a e e2
 dist:=fun j k xs ys u e1 e2 e3 e4=>by
  obtain⟨n1,e1⟩:=gk hw e1;obtain⟨n2,e2⟩:=gk hw e2;rw[Oi (Qa n1)] at e3;rw[Oi (Qa n2)] at e4;exact r.dist j k xs ys u e1 e2 e3 e4
 frs:=r.frs
 len:=by simp[r.len]
theorem RS.ownO(r:RS K O₀ H₀ F ts O H σ ρ T)(hp:H p=none)(hm:Mut (some o))(rv:Le O H (fun b=>O b\/b=p) (upd H p o)->OwnAt K (fun b=>O b\/b=p) (upd H p o) p xs):RS K O₀ H₀ F ts (fun b=>O b\/b=p) (upd H p o) (σ.set i (some (.ref p))) (ρ.set i (some (.loc xs))) T:=by
 have le:Le O H (fun b=>O b\/b=p) (upd H p o):=fun a o n e=>by
  have z:a≠p:=dw e hp;exact⟨fun q=>q.elim n z,by rw[aQ z];exact e⟩
 have h0:∀{G:Hp},SameX ts G H->p∉ts->G p=none:=fun {G} s nt=>by
  cases e:G p with
  |none=>rfl
  |some o=>rw[s p o nt e] at hp;cases hp
 have nO:=r.hc.fresh hp;have nt:p∉ts:=fun z=>nO (r.hc.own p z)
 have old:∀{j:Nat}{v:V}{w:W},σ[j]? = some (some v)->RepW K O ts H v w->RepW K (fun b=>O b\/b=p) ts (upd H p o) v w:=fun {j v w} e q=>by
  cases w with
  |d x=>exact Rep.mono le q
  |tp k=>exact q
  |loc ys=>
   obtain⟨a,e1,h1,h2,h3⟩:=q;exact⟨a,e1,.inl h1,h2,h3.mono (fun o' q=>by rw[aQ (dw q hp)];exact q) le⟩
 have notp:∀{j:Nat}{ys:N9},ρ[j]? = some (some (.loc ys))->σ[j]? = some (some (.ref p))->False:=fun {j ys} e1 e2=>by
  obtain⟨v,h1,a,ea,h2,h3,h4⟩:=r.re j _ e1;rw[e2] at h1;cases h1;cases ea;obtain⟨o',h5⟩:=h4.some;rw[hp] at h5;cases h5
 refine⟨⟨fun b hb=>.inl (r.hc.own b hb),fun b hb=>?_,r.hc.nd,r.hc.len,fun j a ys e1 e2=>?_⟩,fun j w e=>?_,fun b hb=>.inl (r.sub b hb),r.ots,r.same.trans (.new hp _),fun j ys a e1 e2=>?_,fun j k ys zs v e1 e2 e3 e4=>?_,fun f hf=>(r.frs f hf).trans le,by simp[r.len]⟩
 .by_cases z:b=p
  .subst z;rw[bt];exact hm
  .rw[aQ z]
   exact r.hc.trk b (hb.resolve_right z)
 .exact(r.hc.tape j a ys e1 e2).mono (fun o' h1=>by rw[aQ (dw h1 hp)];exact h1) le
 .by_cases z:i=j
  .subst z
   have hl:i<ρ.length:=by
    have:=(Og.mp e).1;simpa using this
   rw[Ow hl] at e;cases e;exact⟨.ref p,by rw[Ow (by rw[r.len];exact hl)],p,rfl,.inr rfl,nt,rv le⟩
  .rw[Oi z] at e
   obtain⟨x,h1,h2⟩:=r.re j w e;exact⟨x,by rw[Oi z];exact h1,old h1 h2⟩
 .by_cases z:i=j
  .subst z
   have hl:i<ρ.length:=by
    have:=(Og.mp e1).1;simpa using this
   rw[Ow (by rw[r.len];exact hl)] at e2;cases e2;exact⟨h0 r.same nt,fun q=>nO (r.sub _ q)⟩
  .rw[Oi z] at e1 e2
   exact r.fresh j ys a e1 e2
 .by_cases z:i=j
  .by_cases z':i=k
   .rw[←z,←z']
   .exfalso
    subst z
    have hl:i<ρ.length:=by
     have:=(Og.mp e1).1;simpa using this
    rw[Ow (by rw[r.len];exact hl)] at e3;cases e3;rw[Oi z'] at e2 e4;exact notp e2 e4
  .by_cases z':i=k
   .exfalso
    subst z'
    have hl:i<ρ.length:=by
     have:=(Og.mp e2).1;simpa using this
    rw[Ow (by rw[r.len];exact hl)] at e4;cases e4;rw[Oi z] at e1 e3;exact notp e1 e3
   .rw[Oi z] at e1 e3
    rw[Oi z'] at e2 e4;exact r.dist j k ys zs v e1 e2 e3 e4
theorem RS.own(r:RS K O₀ H₀ F ts O H σ ρ T)(hp:H p=none)(rv:Reps K O H vs xs):RS K O₀ H₀ F ts (fun b=>O b\/b=p) (upd H p (.lst vs)) (σ.set i (some (.ref p))) (ρ.set i (some (.loc (.list xs)))) T:=r.ownO hp (.inl ⟨_,rfl⟩) fun le=>⟨vs,bt,rv.mono le⟩
theorem RS.putO(r:RS K O₀ H₀ F ts O H σ ρ T)(e1:ρ[i]? = some (some (.loc xs)))(e2:σ[i]? = some (some (.ref a)))(hm:Mut (some o))(rv:Le O H O (upd H a o)->OwnAt K O (upd H a o) a ys):RS K O₀ H₀ F ts O (upd H a o) σ (ρ.set i (some (.loc ys))) T:=by
 obtain⟨v,z1,a',ea,oa,nt,ha⟩:=r.re i _ e1;rw[e2] at z1;cases z1;cases ea;have hl:i<ρ.length:=(Og.mp e1).1;obtain⟨f1,f2⟩:=r.fresh i xs a e1 e2;have le:Le O H O (upd H a o):=fun b o n e=>⟨n,by rw[aQ (show b≠a from fun z=>n (by rw[z];exact oa))];exact e⟩
 have back:∀{j:Nat}{zs:N9},(ρ.set i (some (W.loc ys)))[j]? = some (some (.loc zs))->∃ws,ρ[j]? = some (some (.loc ws)):=fun {j zs} e=>by
  by_cases z:i=j
  .subst z;exact⟨xs,e1⟩
  .rw[Oi z] at e;exact⟨zs,e⟩
 refine⟨⟨r.hc.own,fun b hb=>?_,r.hc.nd,r.hc.len,fun j b zs q1 q2=>?_⟩,fun j w e=>?_,r.sub,r.ots,fun b o n e=>?_,fun j zs b q1 q2=>?_,fun j k zs zs' v q1 q2 q3 q4=>?_,fun f hf=>(r.frs f hf).trans le,by simp[r.len]⟩
 .by_cases z:b=a
  .subst z;rw[bt];exact hm
  .rw[aQ z];exact r.hc.trk b hb
 .exact(r.hc.tape j b zs q1 q2).mono (fun o' h1=>by rw[aQ (show b≠a from fun z=>nt (by rw[←z];exact O6 q1))];exact h1) le
 .by_cases z:i=j
  .subst z
   rw[Ow hl] at e;cases e;exact⟨.ref a,e2,a,rfl,oa,nt,rv le⟩
  .rw[Oi z] at e
   obtain⟨x,h1,h2⟩:=r.re j w e;refine⟨x,h1,?_⟩
   cases w with
   |d x=>exact Rep.mono le h2
   |tp k=>exact h2
   |loc zs=>
    obtain⟨b,eb,k1,k2,k3⟩:=h2;have n:b≠a:=fun q=>z (r.dist i j xs zs (.ref a) e1 e e2 (by rw[h1,eb,q]));exact⟨b,eb,k1,k2,k3.mono (fun o' q=>by rw[aQ n];exact q) le⟩
 .have:=r.same b o n e
  rw[aQ (show b≠a from fun z=>by rw[z,f1] at e;cases e)];exact this
 .obtain⟨ws,q⟩:=back q1
  exact r.fresh j ws b q q2
 .obtain⟨ws,q⟩:=back q1
  obtain⟨ws',q'⟩:=back q2;exact r.dist j k ws ws' v q q' q3 q4
theorem RS.put{i:Nat}{a:Addr}{vs us:List V}{xs ys:List N9}(r:RS K O₀ H₀ F ts O H σ ρ T)(e1:ρ[i]? = some (some (.loc (.list xs))))(e2:σ[i]? = some (some (.ref a)))(rv:Reps K O H vs ys):RS K O₀ H₀ F ts O (upd H a (.lst vs)) σ (ρ.set i (some (.loc (.list ys)))) T:=r.putO e1 e2 (.inl ⟨_,rfl⟩) fun le=>⟨vs,bt,rv.mono le⟩
theorem RS.tapeO(r:RS K O₀ H₀ F ts O H σ ρ T)(e:ts[n]? = some a)(hm:Mut (some o))(rv:Le O H O (upd H a o)->RowAt K O (upd H a o) a ys):RS K O₀ H₀ F ts O (upd H a o) σ ρ (T.set n ys):=by
 have am:a∈ts:=O6 e;have le:Le O H O (upd H a o):=fun b o' k q=>⟨k,by rw[aQ (show b≠a from fun z=>k (by rw[z];exact r.hc.own a am))];exact q⟩
 have sx:SameX ts H (upd H a o):=fun b o' k q=>by rw[aQ (show b≠a from fun z=>k (by rw[z];exact am))];exact q
 refine⟨⟨r.hc.own,fun b hb=>?_,r.hc.nd,by simp[r.hc.len],fun j b zs q1 q2=>?_⟩,r.re.mono r.hc sx,r.sub,r.ots,r.same.trans sx,r.fresh,r.dist,fun f hf=>(r.frs f hf).trans le,r.len⟩
 .by_cases z:b=a
  .subst z;rw[bt];exact hm
  .rw[aQ z];exact r.hc.trk b hb
 .by_cases z:n=j
  .subst z
   rw[e] at q1;cases q1
   have hl:n<T.length:=by
    have:=(Og.mp e).1;rw[←r.hc.len];exact this
   rw[Ow hl] at q2;cases q2;exact rv le
  .rw[Oi z] at q2
   refine(r.hc.tape j b zs q1 q2).mono (fun o' h1=>?_) le
   have nb:b≠a:=fun q=>by
    rw[q] at q1;exact z ((List.getElem?_inj (Og.mp e).1 r.hc.nd).mp (e.trans q1.symm))
   rw[aQ nb];exact h1
theorem RS.tape(r:RS K O₀ H₀ F ts O H σ ρ T)(e:ts[n]? = some a)(rv:Reps K O H vs ys):RS K O₀ H₀ F ts O (upd H a (.lst vs)) σ ρ (T.set n ys):=r.tapeO e (.inl ⟨_,rfl⟩) fun le=>.inl ⟨rv.notO,vs,bt,rv.mono le⟩
def kb:W->W
 |.loc x=>.d x
 |w=>w
def cb(ρ:Rho):Rho:=ρ.map (Option.map kb)
theorem RS.frzH(r:RS K O₀ H₀ F ts O H σ ρ T):HC K O₀ ts H T:=by
 have le:Le O H O₀ H:=fun a o n e=>⟨fun z=>n (r.sub a z),e⟩;exact⟨r.ots,fun b hb=>r.hc.trk b (r.sub b hb),r.hc.nd,r.hc.len,fun i a xs e1 e2=>(r.hc.tape i a xs e1 e2).mono (fun _ h=>h) le⟩
def sO(ρ:Rho):Prop:=∀(i:Nat) (ds:List (N9×N9)),ρ[i]?≠some (some (.loc (.dict ds)))
theorem RS.frz(r:RS K O₀ H₀ F ts O H σ ρ T)(nd:sO ρ):HC K O₀ ts H T/\RelE K O₀ ts H σ (cb ρ):=by
 have le:Le O H O₀ H:=fun a o n e=>⟨fun z=>n (r.sub a z),e⟩;refine⟨r.frzH,fun i w e=>?_⟩;unfold cb at e;rw[Ph] at e
 cases hu:ρ[i]? with
 |none=>rw[hu] at e;cases e
 |some u=>
  cases u with
  |none=>rw[hu] at e;cases e
  |some u=>
   rw[hu] at e;cases e;obtain⟨v,h1,h2⟩:=r.re i u hu;refine⟨v,h1,?_⟩
   cases u with
   |d x=>exact Rep.mono le h2
   |tp k=>exact h2
   |loc xs=>
    obtain⟨a,rfl,k1,k2,k3⟩:=h2
    cases xs with
    |list xs=>obtain⟨vs,k3,k4⟩:=k3;exact .lst (.inl ⟨(r.fresh i _ a hu h1).2,.inl k3⟩) (k4.mono le)
    |dict xs=>exact absurd hu (nd i xs)
    |_=>cases k3
theorem RS.frzD(r:RS K O₀ H₀ F ts O H σ ρ T)(h1:ρ[i]? = some (some (.loc (.dict ds)))):∃a kvs,H a=some (.dK kvs)/\∀o,RS K O₀ H₀ F ts (fun b=>O b/\b≠a) (upd H a (.frz o (.dK kvs))) σ (ρ.set i (some (.d (.dict ds)))) T:=by
 obtain⟨v,k1,a,rfl,k2,k3,kvs,k4,k5⟩:=r.re i _ h1;refine⟨a,kvs,k4,fun o=>?_⟩;have hl:i<ρ.length:=(Og.mp h1).1;have U:∀{b:Addr},b≠a->upd H a (.frz o (.dK kvs)) b=H b:=fun n=>aQ n;have le:Le O H (fun b=>O b/\b≠a) (upd H a (.frz o (.dK kvs))):=fun b u n e=>⟨fun z=>n z.1,by rw[U (show b≠a from fun z=>n (by rw[z];exact k2))];exact e⟩;have fr:=r.fresh i _ a h1 k1
 have hw:∀ys,W.d (.dict ds)≠.loc ys:=fun _ z=>nomatch z
 refine⟨⟨fun b hb=>⟨r.hc.own b hb,fun z=>k3 (z ▸ hb)⟩,fun b hb=>by rw[U hb.2];exact r.hc.trk b hb.1,r.hc.nd,r.hc.len,fun j b ys e1 e2=>?_⟩,fun j w e=>?_,fun b hb=>⟨r.sub b hb,fun z=>fr.2 (z ▸ hb)⟩,r.ots,fun b u n e=>?_,fun j ys b e1 e2=>?_,fun j k ys zs v e1 e2 e3 e4=>?_,fun f hf=>(r.frs f hf).trans le,by simp[r.len]⟩
 .exact(r.hc.tape j b ys e1 e2).mono (fun _ h=>by rw[U (show b≠a from fun z=>k3 (by rw[←z];exact O6 e1))];exact h) le
 .by_cases z:i=j
  .subst z
   rw[Ow hl] at e;cases e;exact⟨.ref a,k1,.dct (fun z=>z.2 rfl) bt (k5.mono le)⟩
  .rw[Oi z] at e
   obtain⟨x,q1,q2⟩:=r.re j w e;refine⟨x,q1,?_⟩
   cases w with
   |d y=>exact Rep.mono le q2
   |tp k=>exact q2
   |loc ys=>
    obtain⟨b,eb,m1,m2,m3⟩:=q2;have nb:b≠a:=fun q=>z (r.dist i j _ ys (.ref a) h1 e k1 (by rw[q1,eb,q]));exact⟨b,eb,⟨m1,nb⟩,m2,m3.mono (fun _ q=>by rw[U nb];exact q) le⟩
 .rw[U (show b≠a from fun z=>by rw[z,fr.1] at e;cases e)]
  exact r.same b u n e
 .obtain⟨n,e⟩:=gk hw e1
  exact r.fresh j ys b e e2
 .obtain⟨n1,e1⟩:=gk hw e1
  obtain⟨n2,e2⟩:=gk hw e2;exact r.dist j k ys zs v e1 e2 e3 e4
theorem Di(h:ρ[i]? = some (some (.loc x))):cb (ρ.set i (some (.d x)))=cb ρ:=by
 apply List.ext_getElem?;intro j;unfold cb;rw[Ph,Ph]
 by_cases z:i=j
 .subst z
  rw[Ow (Og.mp h).1,h];rfl
 .rw[Oi z]
theorem RS.frzN(R:Rho):∀(k:Nat) {O:Addr->Prop}{H:Hp}{ρ:Rho},RS K O₀ H₀ F ts O H σ ρ T->(∀j ds,k<=j->ρ[j]?≠some (some (.loc (.dict ds))))->cb ρ=R ->
  Gh (fun H'=>∃O' ρ',RS K O₀ H₀ F ts O' H' σ ρ' T/\sO ρ'/\cb ρ'=R) H
 |0,O,H,ρ,r,n,e=>.done ⟨O,ρ,r,fun j ds=>n j ds (PH _),e⟩
 |k+1,O,H,ρ,r,n,e=>by
  by_cases h:∃ds,ρ[k]? = some (some (.loc (.dict ds)))
  .obtain⟨ds,h⟩:=h
   obtain⟨a,kvs,e1,f⟩:=r.frzD h;refine .frz e1 fun o=>RS.frzN R k (f o) (fun j es hj=>?_) (by rw[Di h];exact e)
   by_cases z:k=j
   .subst z
    rw[Ow (Og.mp h).1];intro q;cases q
   .rw[Oi z]
    exact n j es (by omega)
  .refine RS.frzN R k r (fun j ds hj=>?_) e
   by_cases z:k=j
   .subst z
    exact fun q=>h ⟨ds,q⟩
   .exact n j ds (by omega)
theorem RS.frzG(r:RS K O₀ H₀ F ts O H σ ρ T):Gh (fun H'=>SameX ts H₀ H'/\HC K O₀ ts H' T/\RelE K O₀ ts H' σ (cb ρ)) H:=(RS.frzN (cb ρ) ρ.length r (fun j ds hj=>by rw[TM hj];exact fun z=>nomatch z) rfl).imp fun H' ⟨O',ρ',r',n,e⟩=>⟨r'.same,by rw[←e];exact r'.frz n⟩
end
def aH:FS:=fun ρ T=>some ((.nx,ρ),T)
def ak(f g:FS):FS:=fun ρ T=>bnd (f ρ T) fun p T1=>match p with
 |(.nx,ρ1)=>g ρ1 T1
 |(fl,ρ1)=>some ((fl,ρ1),T1)
def aM(i:Nat)(f:FE):FS:=fun ρ T=>bnd (f ρ T) fun w T1=>match w with
 |.d x=>some ((.nx,ρ.set i (some (.d x))),T1)
 |.tp k=>some ((.nx,ρ.set i (some (.tp k))),T1)
 |.loc _=>none
def dI(i:Nat)(g:FA):FS:=fun ρ T=>bnd (g ρ T) fun ws T1=>match d4 ws with
 |some xs=>if xs.length<=1000 then some ((.nx,ρ.set i (some (.loc (.list xs)))),T1) else none
 |none=>none
def dQ(i:Nat)(f:FE):FS:=fun ρ T=>bnd (f ρ T) fun w T1=>match w with
 | .d x=>(match ρ[i]? with
  |some (some (.loc (.list xs)))=>if xs.length<Om then some ((.nx,ρ.set i (some (.loc (.list (xs++[x]))))),T1) else none
  | _=>none)
 |_=>none
def sG(fo fk fe:FE):FS:=fun ρ T=>bnd (fe ρ T) fun w T1=>bnd (fo ρ T1) fun o T2=>bnd (fk ρ T2) fun k T3=>match w,o,k with
 |.d x,.tp n,.d (.int i)=>match T3[n]? with
  |some xs=>if isO xs=true then none else match ixN xs.length i with
   |some j=>some ((.nx,ρ),T3.set n (xs.set j x))
   |none=>none
  |none=>none
 |_,_,_=>none
def fIf(c:FT)(f g:FS):FS:=fun ρ T=>bnd (c ρ T) fun b T1=>if b=true then f ρ T1 else g ρ T1
def ay(f:FE):FS:=fun ρ T=>bnd (f (cb ρ) T) fun w T1=>match w with
 |.d x=>some ((.rt x,ρ),T1)
 |_=>none
def forL(i:Nat)(body:FS):List N9->FS
 |[]=>aH
 |d::r=>fun ρ T=>bnd (body (ρ.set i (some (.d d))) T) fun p T1=>match p with
  |(.nx,ρ1)=>forL i body r ρ1 T1
  |(.ct,ρ1)=>forL i body r ρ1 T1
  |(.bk,ρ1)=>some ((.nx,ρ1),T1)
  |(.rt x,ρ1)=>some ((.rt x,ρ1),T1)
  |(.ro x,ρ1)=>some ((.ro x,ρ1),T1)
def cA(i:Nat)(it:FI)(body:FS):FS:=fun ρ T=>bnd (it ρ T) fun ds T1=>forL i body ds ρ T1
def bL(c:FT)(body:FS):Nat->FS
 |0=>fun _ _=>none
 |n+1=>fun ρ T=>bnd (c ρ T) fun b T1=>if b=true then bnd (body ρ T1) fun p T2=>match p with
   |(.nx,ρ1)=>bL c body n ρ1 T2
   |(.ct,ρ1)=>bL c body n ρ1 T2
   |(.bk,ρ1)=>some ((.nx,ρ1),T2)
   |(.rt x,ρ1)=>some ((.rt x,ρ1),T2)
   |(.ro x,ρ1)=>some ((.ro x,ρ1),T2)
  else some ((.nx,ρ),T1)
section
variable {X:Cx}{pos:Pos}{st:Stmt}{rest:List Stmt}{f g:FS}{e:Expr}{fe:FE}{c:FT}
theorem aN:DSs X [] aH:=by
 refine⟨?_⟩;refine iL qB fun D σ H=>?_;rintro⟨O₀,H₀,F,ts,O,ρ,T,fl,ρ',T',rs,e,q⟩;cases e;exact q O σ H rs
theorem az(h1:DS X st f)(h2:DSs X rest g):DSs X (st::rest) (ak f g):=by
 refine⟨?_⟩;refine iL (mV h1.pe h2.pe) fun D σ H=>?_;rintro⟨O₀,H₀,F,ts,O,ρ,T,fl,ρ',T',rs,e,q⟩;obtain⟨⟨fl1,ρ1⟩,T1,e1,e⟩:=aJ e;refine⟨O₀,H₀,F,ts,O,ρ,T,fl1,ρ1,T1,rs,e1,?_⟩
 cases fl1 with
 |nx=>exact fun O' σ' H' rs'=>⟨O₀,H₀,F,ts,O',ρ1,T1,fl,ρ',T',rs',e,q⟩
 |rt x=>cases e;exact q
 |ro x=>cases e;exact q
 |bk=>cases e;exact q
 |ct=>cases e;exact q
theorem aA(h1:DS X st f):DSs X [st] f:=⟨qA h1.pe⟩
theorem a7(hN:X.N.Nodup)(he:DE X e fe)(hi:X.N[i]? = some x:=by rfl)(hx:Loc X.env.scope x:=by first|exact Pc rfl|exact OW rfl)(hs:Pm e (some (.Name x pos')) pos.line X.env=pure false:=by rfl)
  (hf:X.fn x=true\/X.env.scope.names.lookup x=some .local:=by first|exact .inl rfl|exact .inr rfl|assumption):DS X (.Assign [.Name x pos'] e pos) (aM i fe):=by
 refine⟨?_⟩;refine bF (eC hN hi hx he.pe hs hf) fun D σ H=>?_;rintro⟨O₀,H₀,F,ts,O,ρ,T,fl,ρ',T',rs,e,q⟩;obtain⟨w,T1,e1,e⟩:=aJ e;refine⟨O,ts,ρ,T,w,T1,rs.hc,rs.re,e1,fun v H1 s1 hc1 r1=>?_⟩
 cases w with
 |d x=>cases e;exact q O _ _ ((rs.step s1 hc1).set r1 fun _ z=>nomatch z)
 |tp k=>cases e;exact q O _ _ ((rs.step s1 hc1).set r1 fun _ z=>nomatch z)
 |loc xs=>cases e
theorem FB{i:Nat}{x y:Str}{scope osc:Qi}{N N':List Str}{elt iter:Expr}{ifs:List Expr}{px py spos:Pos}{it:FI}{c:FT}{f:FE}(S:CS osc N x scope N')(hN:X.N.Nodup)(hi:DI X (.Name x px) iter it)
  (he:∀C s0 H0 ex,DE (bV X x scope C s0 H0 ex N') elt f) (ht:∀C s0 H0 ex,DTs (bV X x scope C s0 H0 ex N') ifs c) (hi':X.N[i]? = some y:=by rfl) (hy:Loc X.env.scope y:=by first|exact Pc rfl|exact OW rfl)
  (hf':X.fn y=true\/X.env.scope.names.lookup y=some .local:=by first|exact .inl rfl|exact .inr rfl|assumption) (hc:X.calm=true:=by rfl) (hs:X.env.scope=osc:=by rfl) (hN':X.N=N:=by rfl)
  (hsw:Pm (.ListComp elt [⟨.Name x px,iter,ifs,0⟩] scope pos) (some (.Name y py)) spos.line X.env=pure true:=by rfl) (hf:∀v,O0 iter X.env v=pure v:=by intro _;rfl) :
  DS X (.Assign [.Name y py] (.ListComp elt [⟨.Name x px,iter,ifs,0⟩] scope pos) spos) (aM i (bb it c f)):=by
 refine⟨?_⟩;subst hs hN';refine bF (EG (wi:=lI X.K it) (tt:=liftT X.K c) (te:=lift X.K f) hc S hN hi' hy hf' hi.pe (fun C s0 H0 ex=>(he C s0 H0 ex).pe) (fun C s0 H0 ex=>(ht C s0 H0 ex).pe) hsw hf) fun D σ H=>?_;rintro⟨O₀,H₀,F,ts,O,ρ,T,fl,ρ',T',rs,e,q⟩;obtain⟨w,T1,e1,e⟩:=aJ e;obtain⟨ds,T2,e2,e1⟩:=aJ e1;obtain⟨ys,T3,e3,e1⟩:=aJ e1;cases e1;cases e;refine⟨O,ts,ρ,T,ds,T2,rs.hc,rs.re,e2,fun J H1 s1 hc1 ok hz=>?_⟩;exact qR hc1 (rs.re.mono rs.hc s1) ok hz e3 fun vs H' s2 hc2 r2 p hp=>q O _ _ ((rs.step (s1.trans (s2.trans (.new hp _))) (hc2.new hp _)).set (hc2.newL hp r2) fun _ z=>nomatch z)
theorem jA{i:Nat}{x:Str}{pos':Pos}{es:List Expr}{lpos:Pos}{g:FA}(hN:X.N.Nodup)(he:DA X es g)(hi:X.N[i]? = some x:=by rfl)(hx:Loc X.env.scope x:=by first|exact Pc rfl|exact OW rfl)
  (hs:Pm (.List es lpos) (some (.Name x pos')) pos.line X.env=pure false:=by rfl) (hf:X.fn x=true\/X.env.scope.names.lookup x=some .local:=by first|exact .inl rfl|exact .inr rfl|assumption):DS X (.Assign [.Name x pos'] (.List es lpos) pos) (dI i g):=by
 refine⟨?_⟩;refine bF (eC hN hi hx (jH he.pe) hs hf) fun D σ H=>?_;rintro⟨O₀,H₀,F,ts,O,ρ,T,fl,ρ',T',rs,e,q⟩;obtain⟨ws,T1,e1,e⟩:=aJ e;refine⟨O,ts,ρ,T,ws,T1,rs.hc,rs.re,e1,fun vs H1 s1 hc1 r1=>?_⟩;split at e
 .rename_i xs h1
  split at e
  .rename_i h2
   cases e;have rv:=kN r1 h1;exact⟨nA (by rw[rv.length];exact h2),fun p hp=>q _ _ _ ((rs.step s1 hc1).own hp rv)⟩
  .cases e
 .cases e
theorem aL(hc:DT X ce c)(ha:DSs X a f)(hb:DSs X b g):DS X (.If ce a b pos) (fIf c f g):=by
 refine⟨?_⟩;refine bF (rV hc.pe ha.pe hb.pe) fun D σ H=>?_;rintro⟨O₀,H₀,F,ts,O,ρ,T,fl,ρ',T',rs,e,q⟩;obtain⟨b1,T1,e1,e⟩:=aJ e;refine⟨O,ts,ρ,T,b1,T1,rs.hc,rs.re,e1,fun H1 s1 hc1=>?_⟩
 cases b1 with
 |true=>exact eJ ⟨O₀,H₀,F,ts,O,ρ,T1,fl,ρ',T',rs.step s1 hc1,by simpa using e,q⟩
 |false=>exact eM ⟨O₀,H₀,F,ts,O,ρ,T1,fl,ρ',T',rs.step s1 hc1,by simpa using e,q⟩
theorem aD(he:DE X e fe):DS X (.Return (some e) pos) (ay fe):=by
 refine⟨?_⟩;refine bF (IH (jG he.pe)) fun D σ H=>?_;rintro⟨O₀,H₀,F,ts,O,ρ,T,fl,ρ',T',rs,e,q⟩;obtain⟨w,T1,e1,e⟩:=aJ e;refine rs.frzG.imp fun H0 ⟨same,c0,re0⟩=>?_;refine⟨O₀,ts,cb ρ,T,w,T1,c0,re0,e1,fun v H1 s1 hc1 r1=>?_⟩
 cases w with
 |d x=>cases e;exact q v H1 (same.trans s1) hc1 r1
 |tp k=>cases e
 |loc xs=>cases e
theorem jS(he:DE X e fe)(hN:X.N[i]? = some x:=by rfl)(hv:Vis X.env.scope x:=by first|exact Pc rfl|exact OW (Pc rfl)|exact OW (OW rfl))(hd:(x == ("__debug__" : Str))=false:=by decide)
  (hcd:(x == ("__classdict__" : Str))=false:=by decide) 
  (hbase:Pa (.Name x p) "append" X.env (eval (.Name x p) X.env)=eval (.Name x p) X.env:=by rfl)
  (hfew:((Pb cpos (Oh [e] X.env)).all (fun x=>!x.1)&&(Qo cpos (PF [] X.env)).all (fun x=>x.1.isSome)
   && decide (([e]:List Expr).length+([]:List Pq).length+(if ([]:List Pq).isEmpty then 0 else 1)<30))=true:=by exact f9 rfl)
  (hline:(apos.endLine == cpos.line)=true:=by rfl) (hse:Oh [e] X.env=(false,eval e X.env)::Oh [] X.env:=by exact bf rfl) (hplain:(Pb cpos (Oh [] X.env)).any (·.1)=false:=by exact bR rfl)
  (hs:Pm (.Call (.Attribute (.Name x p) "append" apos) [e] [] cpos) none pos.line X.env=pure false:=by rfl) :
  DS X (.Expr (.Call (.Attribute (.Name x p) "append" apos) [e] [] cpos) pos) (dQ i fe):=by
 refine⟨?_⟩;refine bF (jx (g7 Pi QD QE mJ (pv i hN hv hd hcd) (bY he.pe b7 hse) hbase hfew hline hse hplain) hs) fun D σ H=>?_;rintro⟨O₀,H₀,F,ts,O,ρ,T,fl,ρ',T',rs,e,q⟩;obtain⟨w,T1,e1,e⟩:=aJ e;split at e
 .rename_i x0
  split at e
  .rename_i xs h1
   split at e
   .rename_i h2
    cases e;obtain⟨v,k1,a,rfl,k2,k3,vs,k4,k5⟩:=rs.re i _ h1;refine⟨_,k1,.inl ⟨rfl,vs,SqL.of k4⟩,O,ts,ρ,T,_,_,rs.hc,rs.re,e1,fun u H1 s1 hc1 r1=>?_⟩;have rs1:=rs.step s1 hc1;exact⟨a,vs,u,rfl,rfl,s1 _ _ k3 k4,by rw[k5.length];exact h2,q O _ _ (rs1.put (us:=[]) h1 k1 ((k5.mono (rs.hc.le s1)).append (.cons r1 .nil)))⟩
   .cases e
  .cases e
 .cases e
theorem HK(ho:DE X o fo)(hk:DE X k fk)(he:DE X e fe)(ha:∀v,SK (.Subscript o k tpos) X.env v=(do
   let ov ←Te [v] (eval o X.env)
   let iv ←Te [v,ov] (eval k X.env)
   WN tpos
   Te [v,ov,iv] (WM ov iv v)
   release [v,ov,iv] []):=by intro _;rfl)
  (hs:Uy [.Subscript o k tpos] e pos.line X.env=pure false:=by rfl) (hw:Uz [.Subscript o k tpos] e X.env=pure none:=by rfl)
  (h1:(Rj [.Subscript o k tpos] X.env).map (·.2)=[SK (.Subscript o k tpos) X.env]:=by rfl):DS X (.Assign [.Subscript o k tpos] e pos) (sG fo fk fe):=by
 refine⟨?_⟩;refine bF (xi he.pe (GO ho.pe hk.pe set_list ha) hs hw h1) fun D σ H=>?_;rintro⟨O₀,H₀,F,ts,O,ρ,T,fl,ρ',T',rs,e,q⟩;obtain⟨w,T1,e1,e⟩:=aJ e;obtain⟨wo,T2,e2,e⟩:=aJ e;obtain⟨wk,T3,e3,e⟩:=aJ e;refine⟨O,ts,ρ,T,w,T1,rs.hc,rs.re,e1,fun v H1 s1 hc1 r1=>?_⟩;have rs1:=rs.step s1 hc1;refine⟨O,ts,ρ,T1,wo,T2,hc1,rs1.re,e2,fun vo H2 s2 hc2 r2=>?_⟩;have rs2:=rs1.step s2 hc2;refine⟨O,ts,ρ,T2,wk,T3,hc2,rs2.re,e3,fun vk H3 s3 hc3 r3=>?_⟩;have rs3:=rs2.step s3 hc3;split at e
 .split at e
  .rename_i xs h1
   split at e
   .cases e
   .rename_i hn
    split at e
    .rename_i j h2
     cases e;obtain⟨a,k1,rfl⟩:=r2;cases (show Rep X.K O H3 vk (.int _) from r3);obtain⟨vs,k2,k3⟩:=(hc3.tape _ a xs k1 h1).lst (by simpa using hn);refine⟨a,vs,_,j,rfl,rfl,k2,by rw[k3.length];exact h2,q O _ _ (rs3.tape k1 (Reps.set ?_ j k3))⟩;exact Rep.mono ((hc1.le s2).trans (hc2.le s3)) r1
    .cases e
  .cases e
 .cases e
end
section
variable {K:Frag}{O₀:Addr->Prop}{H₀:Hp}{F:List ((Addr->Prop)×Hp)}{ts:List Addr}{O:Addr->Prop}{H H1:Hp}{σ:L2.St}{ρ:Rho}{T T1:Tp}
theorem RS.less(r:RS K O₀ H₀ (f::F) ts O H σ ρ T):RS K O₀ H₀ F ts O H σ ρ T:=⟨r.hc,r.re,r.sub,r.ots,r.same,r.fresh,r.dist,fun f hf=>r.frs f (Ob _ hf),r.len⟩
theorem RS.more(r:RS K O₀ H₀ F ts O H σ ρ T):RS K O₀ H₀ ((O,H)::F) ts O H σ ρ T:=⟨r.hc,r.re,r.sub,r.ots,r.same,r.fresh,r.dist,fun f hf=>by
 rcases Oy.mp hf with z|z
 .subst z;exact fun a o n e=>⟨n,e⟩
 .exact r.frs f z,r.len⟩
end
section
variable {X:Cx}{pos:Pos}{st:Stmt}{rest:List Stmt}{f g:FS}{e:Expr}{fe:FE}{c:FT}
theorem fT(hN:X.N.Nodup)(hi:DI X (.Name x tpos) iter it)(hb:DSs X body f)(hix:X.N[i]? = some x:=by rfl)(hx:Loc X.env.scope x:=by first|exact Pc rfl|exact OW rfl)
  (hf:X.fn x=true\/X.env.scope.names.lookup x=some .local:=by first|exact .inl rfl|exact .inr rfl|assumption) (hp:Ro (OQ X.prog X.w) X.A X.env X.xe:=by exact QT) (hc:X.calm=true:=by rfl)
  (hs:∀x,O0 iter X.env x=pure x:=by intro _;rfl):DS X (.For (.Name x tpos) iter body [] pos) (cA i it f):=by
 refine⟨?_⟩;refine bF (nS hp hc hi.pe (fK hN hix hx hf) hb.pe hs) fun D σ H=>?_;rintro⟨O₀,H₀,F,ts,O,ρ,T,fl,ρ',T',rs,e,q⟩;obtain⟨ds,T1,e1,e⟩:=aJ e;refine⟨O,ts,ρ,T,ds,T1,rs.hc,rs.re,e1,fun J H1 s1 hc1 ok hz=>?_⟩;refine⟨fun k m σ H=>m=ds.length-k/\k<=ds.length/\∃O' ρk Tk,RS X.K O₀ H₀ ((O,H1)::F) ts O' H σ ρk Tk/\forL i f (ds.drop k) ρk Tk=some ((fl,ρ'),T'),⟨_,rfl,PH _,O,ρ,T1,(rs.step s1 hc1).more,e⟩,?_⟩;rintro k m σ2 H2 ⟨rfl,hk,O',ρk,Tk,rs2,ek⟩;obtain⟨k1,k2,k3⟩:=ok O' H2 (rs2.frs _ Oc)
 by_cases hlt:k<ds.length
 .refine .inr ⟨k1 k hlt,fun σ3 H3=>∃O' ρk Tk,RS X.K O₀ H₀ ((O,H1)::F) ts O' H3 σ3 ρk Tk/\forL i f (ds.drop (k+1)) ρk Tk=some ((fl,ρ'),T'),fun σ3 H3 n=>⟨ds.length-(k+1),by omega,rfl,hlt,n⟩,fun v H3 y=>?_⟩
  obtain⟨e2,d,hd,rd⟩:=k3 k v H3 y hlt;subst e2
  have hdr:ds.drop k=d::ds.drop (k+1):=by
   rw[PM hlt];have:=(Og.mp hd).2;rw[this]
  rw[hdr] at ek;obtain⟨⟨fl1,ρ1⟩,T3,e3,ek⟩:=aJ ek;refine⟨O₀,H₀,(O,H1)::F,ts,O',_,Tk,fl1,ρ1,T3,rs2.set (i:=i) (w:=.d d) rd (fun _ z=>nomatch z),e3,?_⟩
  cases fl1 with
  |nx=>exact fun O3 σ3 H3 rs3=>⟨O3,ρ1,T3,rs3,ek⟩
  |ct=>exact fun O3 σ3 H3 rs3=>⟨O3,ρ1,T3,rs3,ek⟩
  |bk=>
   cases ek;exact fun O3 σ3 H3 rs3=>q O3 σ3 H3 rs3.less
  |rt x=>
   cases ek;exact q
  |ro x=>
   cases ek;exact q
 .have e:k=ds.length:=by omega
  subst e;rw[Pt (Ol _)] at ek;cases ek;exact .inl ⟨k2,q O' σ2 H2 rs2.less⟩
theorem js(n:Nat)(hc:DT X ce c)(hb:DSs X body f)(hp:Ro (OQ X.prog X.w) X.A X.env X.xe:=by exact QT):DS X (.While ce body [] pos) (bL c f n):=by
 refine⟨?_⟩;refine bF (CC hp hc.pe hb.pe) fun D σ H=>?_;rintro⟨O₀,H₀,F,ts,O,ρ,T,fl,ρ',T',rs,e,q⟩;refine⟨fun m σ H=>∃O' ρm Tm,RS X.K O₀ H₀ F ts O' H σ ρm Tm/\bL c f m ρm Tm=some ((fl,ρ'),T'),⟨n,O,ρ,T,rs,e⟩,?_⟩;rintro m σ2 H2 ⟨O',ρm,Tm,rs2,em⟩
 cases m with
 |zero=>cases em
 |succ m=>
  obtain⟨b,T3,e3,em⟩:=aJ em;refine⟨O',ts,ρm,Tm,b,T3,rs2.hc,rs2.re,e3,fun H3 s3 hc3=>?_⟩;have rs3:=rs2.step s3 hc3
  cases b with
  |false=>
   rw[if_neg Ox] at em;cases em;exact eM (q O' σ2 H3 rs3)
  |true=>
   rw[if_pos rfl] at em;obtain⟨⟨fl1,ρ1⟩,T4,e4,em⟩:=aJ em;refine eJ ⟨fun σ3 H3=>∃O' ρm Tm,RS X.K O₀ H₀ F ts O' H3 σ3 ρm Tm/\bL c f m ρm Tm=some ((fl,ρ'),T'),fun σ3 H3 n=>⟨m,SZ m,n⟩,O₀,H₀,F,ts,O',ρm,T3,fl1,ρ1,T4,rs3,e4,?_⟩
   cases fl1 with
   |nx=>exact fun O3 σ3 H3 rs3=>⟨O3,ρ1,T4,rs3,em⟩
   |ct=>exact fun O3 σ3 H3 rs3=>⟨O3,ρ1,T4,rs3,em⟩
   |bk=>
    cases em;exact fun O3 σ3 H3 rs3=>q O3 σ3 H3 rs3
   |rt x=>
    cases em;exact q
   |ro x=>
    cases em;exact q
end
abbrev FnM:=List W->Tp->Option (N9×Tp)
def eE:List W->Bool
 |[]=>true
 |.loc _::_=>false
 |_::r=>eE r
def e9(o:Option ((Fl×Rho)×Tp)):Option (N9×Tp):=bnd o fun p T=>match p with
 |(.rt x,_)=>some (x,T)
 |(.nx,_)=>some (.none,T)
 |_=>none
def aP(N:Nat)(f:FS):FnM:=fun ws T=>if eE ws=true then e9 (f (ws.map some++OO (N-ws.length) none) T) else none
inductive SpMP(K:Frag)(n:Nat)(m:FnM)(vs:List V)(H:Hp)(Q:VK):Prop where
 |mk (O:Addr->Prop) (ts:List Addr) (T:Tp) (ws:List W) (x:N9) (T':Tp) (hc:HC K O ts H T) (r:ie K O ts H vs ws) (hl:ws.length=n) (e:m ws T=some (x,T')) (q:∀v H',SameX ts H H'->HC K O ts H' T'->Rep K O H' v x->Q v H'):SpMP K n m vs H Q
def spM(K:Frag)(n:Nat)(m:FnM):Sp:=fun vs H Q _=>SpMP K n m vs H Q
theorem pS{K:Frag}{O:Addr->Prop}{ts:List Addr}{H:Hp}:∀{vs:List V}{ws:List W}{i:Nat}{w:W},ie K O ts H vs ws->ws[i]? = some w->∃v,vs[i]? = some v/\RepW K O ts H v w
 |_,_,_,_,.nil,e=>by simp at e
 |_,_,0,_,.cons r _,e=>by simp at e;subst e;exact⟨_,rfl,r⟩
 |_,_,i+1,w,.cons _ t,e=>by
  obtain⟨d,h1,h2⟩:=pS (i:=i) (w:=w) t (by simpa using e);exact⟨d,by simpa using h1,h2⟩
theorem mI:∀{ws:List W}{xs:N9},eE ws=true->W.loc xs∉ws
 |[],_,_,h=>by cases h
 |.loc _::_,_,e,_=>by cases e
 |.d _::r,_,e,h=>by
  rcases Oy.mp h with z|z
  .cases z
  .exact mI (ws:=r) e z
 |.tp _::r,_,e,h=>by
  rcases Oy.mp h with z|z
  .cases z
  .exact mI (ws:=r) e z
theorem mE{ws:List W}{n i:Nat}{w:W}(e:(ws.map some++OO n none)[i]? = some (some w)):ws[i]? = some w:=by
 by_cases h:i<ws.length
 .rw[ON (by simpa using h),Ph] at e
  cases q:ws[i]? with
  |none=>rw[q] at e;cases e
  |some u=>rw[q] at e;cases e;rfl
 .rw[Sl (by simpa using h)] at e
  have:=O6 e;rw[List.mem_replicate] at this;cases this.2
theorem dfn{P:OB}{w:OV}{K:Frag}{mg:Str->Option Oa}{base:Heap}{x qual:Str}{st:Stmt}{f:Addr}{fd:PZ}{N ps:List Str}{k:Nat}{m:FS}(F:Fun K x qual st f fd)(S:FnScope N ps (bj st))
  (hbody:∀(cdv:Oa) (A:O5) (outer:List Env) (s:Od) (H:Hp) (E:XK),Room k (A.deeper (RP qual (bj st) s.heap.objs.size f cdv))->DSs (ft CX0 P w K mg base N qual (bj st) f cdv A outer s H E).nox (cM st) m) :
  FnOk P w K mg base CX0 (k+1) f fd ps (spM K ps.length (aP N.length m)):=by
 refine F.ok S (fun vs H Q E h=>?_) (fun cdv A outer s H vs Q E hr h=>⟨_,(hbody cdv A outer s H E hr).pe,?_⟩)
 .obtain⟨O,ts,T,ws,x,T',hc,rw',hl,_⟩:=h
  rw[←hl];exact Qy rw'
 obtain⟨O,ts,T,ws,x,T',hc,rw',hl,e,q⟩:=h;unfold aP at e;split at e
 .rename_i hn
  obtain⟨⟨fl,ρ'⟩,T1,e1,e⟩:=aJ e;have hlen:vs.length=ws.length:=Qy rw';have noL:∀{i:Nat}{xs:N9},(ws.map some++OO (N.length-ws.length) none)[i]? = some (some (W.loc xs))->False:=fun {i xs} e=>mI hn (O6 (mE e));refine⟨O,H,[],ts,O,_,T,fl,ρ',T1,⟨hc,fun i u e=>?_,fun _ h=>h,hc.own,.refl _ _,fun i xs a e1 _=>(noL e1).elim,fun i j xs ys v e1 _ _ _=>(noL e1).elim,fun f hf=>absurd hf (by simp),by simp[L2.start,hlen]⟩,e1,?_⟩
  .obtain⟨v,h1,h2⟩:=pS rw' (mE e)
   refine⟨v,?_,h2⟩;unfold L2.start;have hi:i<vs.length:=(Og.mp h1).1;rw[ON (by simpa using hi),Ph,h1];rfl
  .cases fl with
   |rt y=>cases e;exact fun v H' s1 c1 r1=>q v H' s1 c1 r1
   |nx=>
    cases e;exact fun O' σ' H' rs=>q _ _ rs.same rs.frzH .non
   |bk=>cases e
   |ct=>cases e
   |ro y=>cases e
 .cases e
def aq(m:FnM)(g:FA):FE:=fun ρ T=>bnd (g ρ T) fun ws T1=>bnd (m ws T1) fun x T2=>some (.d x,T2)
def jf(g:FA)(n:Nat):Prop:=∀ρ T ws T',g ρ T=some (ws,T')->ws.length=n
theorem gQ:jf ah 0:=fun ρ T ws T' e=>by cases e;rfl
theorem cR(h:jf g n):jf (ae f g) (n+1):=fun ρ T ws T' e=>by
 obtain⟨w1,T1,e1,e⟩:=aJ e;obtain⟨ws,T2,e2,e⟩:=aJ e;cases e;rw[OH,h _ _ _ _ e2]
theorem nG(F:Fn X.prog X.w X.K X.mg X.base name ps k (spM X.K ps.length m))(hr:Room k X.A)(hg:Gl X name)(ha:DA X (e::es) g)(hl:jf g ps.length)(hdb:(name == ("__debug__" : Str))=false:=by decide)
  (he:Oh (e::es) X.env=(false,eval e X.env)::Oh es X.env:=by exact bf rfl) (hpl:(Pb pos (Oh es X.env)).any (·.1)=false:=by exact bR rfl):DE X (.Call (.Name name p) (e::es) [] pos) (aq m g):=by
 refine⟨?_⟩;refine bC (ot F hr hg ha.pe hdb he hpl) fun σ H Q=>?_;rintro⟨O,ts,ρ,T,w,T',hc,re,e,q⟩;obtain⟨ws,T1,e1,e⟩:=aJ e;obtain⟨x,T2,e2,e⟩:=aJ e;cases e;refine⟨O,ts,ρ,T,ws,T1,hc,re,e1,fun vs H1 s1 hc1 r1=>?_⟩;refine⟨O,ts,T1,ws,x,_,hc1,by rw[PV];exact r1,hl _ _ _ _ e1,e2,fun v H2 s2 hc2 r2=>q v H2 (s1.trans s2) hc2 r2⟩
noncomputable def iop(g:Int->Int->Option N9):N9->N9->Option N9
 |.int i,.int j=>g i j
 |_,_=>none
def fh:N9->N9->Option PyData:=iop fun i j=>some (.int (i-j))
def cO:N9->N9->Option PyData:=iop fun i j=>if 0<j then some (.int (i % j)) else none
def Jr:N9->N9->Option PyData:=iop fun i j=>if 0<j/\j<1073741824 then some (.int (i / j)) else none
def ij:N9->N9->Option PyData:=iop fun i j=>if 0<=j/\j<=1000000/\i.natAbs<2^64 then some (.int (i^j.toNat)) else none
def ltD:N9->N9->Option PyData:=iop fun i j=>some (.bool (decide (i<j)))
def leD:N9->N9->Option PyData:=iop fun i j=>some (.bool (decide (i<=j)))
def gtD:N9->N9->Option PyData:=iop fun i j=>some (.bool (decide (j<i)))
def geD:N9->N9->Option PyData:=iop fun i j=>some (.bool (decide (j<=i)))
theorem xJ(e:iop g x y=some d):∃i j,x=.int i/\y=.int j/\g i j=some d:=by
 unfold iop at e;split at e
 .exact⟨_,_,rfl,rfl,e⟩
 .cases e
theorem rh{K:Frag}{C:Int->Int->Prop}{g:Int->Int->V}{gd:Int->Int->Option N9}(h:∀i j d,gd i j=some d->C i j/\∀O H,Rep K O H (g i j) d):iq K (rI C g) (iop gd):=fun O ts H T v1 v2 x y d Q hc h1 h2 e q=>by
 obtain⟨i,j,rfl,rfl,e⟩:=xJ e;obtain⟨c,r⟩:=h i j d e;exact⟨i,j,h1.int,h2.int,c,q _ H (.refl _ _) hc (r O H)⟩
theorem kS{K:Frag}{g:Int->Int->V}{gd:Int->Int->Option N9}(h:∀i j d,gd i j=some d->∀O H,Rep K O H (g i j) d):iq K (rI0 g) (iop gd):=fun O ts H T v1 v2 x y d Q hc h1 h2 e q=>by
 obtain⟨i,j,rfl,rfl,e⟩:=xJ e;exact⟨i,j,h1.int,h2.int,q _ H (.refl _ _) hc (h i j d e O H)⟩
section
variable {X:Cx}
theorem iY:OpD X (PY .Sub) fh:=⟨_,GX,kS fun i j d e O H=>by cases e;exact .int _⟩
theorem fX:OpD X (PY .Mod) cO:=⟨_,G0,rh fun i j d e=>by
 split at e
 .rename_i h;cases e;exact⟨h,fun _ _=>.int _⟩
 .cases e⟩
theorem lG:OpD X (PY .Pow) ij:=⟨_,GY,rh fun i j d e=>by
 split at e
 .rename_i h;cases e;exact⟨h,fun _ _=>.int _⟩
 .cases e⟩
theorem dO:OpD X (OM .Lt) ltD:=⟨_,IR,kS fun i j d e O H=>by cases e;exact .bl _⟩
theorem fj:OpD X (OM .LtE) leD:=⟨_,IS,kS fun i j d e O H=>by cases e;exact .bl _⟩
theorem cU:OpD X (OM .Gt) gtD:=⟨_,IT,kS fun i j d e O H=>by cases e;exact .bl _⟩
theorem JV:OpD X (OM .GtE) geD:=⟨_,IU,kS fun i j d e O H=>by cases e;exact .bl _⟩
def aR:N9->N9->Option N9
 |.int i,.int j=>some (.int (i+j))
 |.str x,.str y=>if x.length+y.length<=Om then some (.str (x++y)) else none
 |.tuple xs,.tuple ys=>if xs.length+ys.length<=Om then some (.tuple (xs++ys)) else none
 |.list xs,.list ys=>if xs.length+ys.length<=Om then some (.list (xs++ys)) else none
 |_,_=>none
def IF(K:Frag):R2:=fun x y H Q=>∃l b xs zs,x=.ref l/\y=.ref b/\SqL K H l xs/\SqL K H b zs/\xs.length+zs.length<=Om/\∀p,H p=none->Q (.ref p) (upd H p (.lst (xs++zs)))
theorem EV:OpR X (PY .Add) (IF X.K):=by
 intro pins s σ H x y v u Q I rx ry h;obtain⟨l,b,xs,zs,rfl,rfl,hH,hB,hz,q⟩:=h;cases rx;cases ry;obtain⟨its,r,p1,_⟩:=I.list hH;obtain⟨its2,r2,p2,_⟩:=I.list hB;have hl:=r.length;have hl2:=r2.length;obtain⟨⟨cls,dd,data,sl⟩,ho,hc,n,hd⟩:=id p1.isList;obtain⟨⟨cls2,dd2,data2,sl2⟩,ho2,hc2,n2,hd2⟩:=id p2.isList;simp only at hc hd hc2 hd2;subst hc hd hc2 hd2
 have ea:its.toArray++its2.toArray=(its++its2).toArray:=by simp
 refine Th ⟨_,ho,rfl⟩ ⟨_,ho2,rfl⟩ noFill_list_add seq_list_add PySem.F.slot_list_add PySem.F.entry_list_add (PySem.F.args_list_add_2 _ _) (list_addW l b its.toArray its2.toArray n n2 dd dd2 sl sl2 (by rw[Os,Os];omega)) ⟨ho,ho2,?_⟩;rw[ea];exact⟨.ref _,_,I.lnew (t':=s.toks) (r.append r2) (by rw[OE];omega),rfl,q _ I.fresh⟩
theorem bo:OpD X (PY .Add) aR:=by
 refine⟨_,op_add.or (op_add_str.or (op_catG.or EV)),fun O ts H T v1 v2 x y d Q hc h1 h2 e q=>?_⟩;unfold aR at e;split at e
 .cases e
  exact .inl ⟨_,_,h1.int,h2.int,q _ H (.refl _ _) hc (.int _)⟩
 .split at e
  .rename_i hz
   cases e;exact .inr (.inl ⟨_,_,h1.str,h2.str,hz,q _ H (.refl _ _) hc (.str _)⟩)
  .cases e
 .split at e
  .rename_i xs ys hz
   cases e;obtain⟨a,vs,rfl,t1,r1⟩:=h1.tup;obtain⟨b,us,rfl,t2,r2⟩:=h2.tup;refine .inr (.inr (.inl ⟨a,b,vs,us,rfl,rfl,t1.sq,t2.sq,by rw[r1.length,r2.length];exact hz,fun z=>?_,fun _ z=>?_,fun _ _ p hp=>?_⟩))
   .subst z
    cases r1;exact q _ H (.refl _ _) hc (.tup t2 r2)
   .subst z
    cases r2;rw[PV] at q;exact q _ H (.refl _ _) hc (.tup t1 r1)
   .exact q _ _ (.new hp _) (hc.new hp _) (hc.newT hp (r1.append r2))
  .cases e
 .split at e
  .rename_i xs ys hz
   cases e;obtain⟨a,vs,rfl,t1,r1⟩:=h1.lst;obtain⟨b,us,rfl,t2,r2⟩:=h2.lst;exact .inr (.inr (.inr ⟨a,b,vs,us,rfl,rfl,t1,t2,by rw[r1.length,r2.length];exact hz,fun p hp=>q _ _ (.new hp _) (hc.new hp _) (hc.newL hp (r1.append r2))⟩))
  .cases e
 .cases e
theorem zR:fillsNumberSlot (.type "tuple") "mul"=pure false:=PySem.fillsNumberSlot_seq (id:="tuple.__mul__") (r:=some (.builtin "tuple.__rmul__")) RG.lookup (by decide +kernel) S4.lookup (by decide +kernel)
theorem Ak:seqRepeat? (.type "tuple")=pure (some (.builtin "tuple.__mul__")):=by
 unfold seqRepeat?;rw[Vn (T:="tuple") (name:="__mul__") (id:="tuple.__mul__") RG.lookup (by decide +kernel),Vn (T:="tuple") (name:="__rmul__") (id:="tuple.__rmul__") S4.lookup (by decide +kernel)];rfl
theorem z6(a:Int)(t:Tok)(l:Addr)(items:Array Oa)(n:Nat)(dd:Option Addr)(sl:Array (Option Oa)) :
  Meets (R8.«int.__rmul__» ⟨[.int a t,.ref l],[]⟩) (fun _ R s=>s.heap.get? l=some { cls:=.type "tuple",dict:=dd,data:=.seq items n,slots:=sl }/\R (.ok (.ret Value.notImplemented)) s):=.of_wp fun prog w A R s h=>by obtain⟨hp,g,d,tk,os⟩:=s;obtain⟨hl,h⟩:=h;wp_walk;exact⟨_,rfl,h⟩
theorem AR(l:Addr)(items:Array Oa)(n:Nat)(dd:Option Addr)(sl:Array (Option Oa))(k:Int)(t:Tok)(h1:2<=k)(h2:k<=1000)(h3:items.isEmpty=false)(h4:items.size<=1000) :
  Meets (R8.«tuple.__mul__» ⟨[.ref l,.int k t],[]⟩) (fun _ R s=>s.heap.get? l=some { cls:=.type "tuple",dict:=dd,data:=.seq items n,slots:=sl }/\R (.ok (.ret (OZ s.heap.objs.size))) { s with heap:=s.heap.push { cls:=RM "tuple",data:=Data.seq (Ss (fun x1 x2=>x1++x2) #[] (OO k.toNat items)) },toks:=s.toks }):=
 .of_wp fun prog w A R s h=>by
  obtain⟨hp,g,d,tk,os⟩:=s;obtain⟨hl,h⟩:=h
  have hc0:¬(decide (k < -(2^63))||decide (k>=2^63))=true:=by simp;omega
  have hc1:¬(items.isEmpty||k == 1)=true:=by rw[h3];simp;omega
  have hc2:¬(decide (k<=0)||items.isEmpty)=true:=by rw[h3];simp;omega
  have hm:items.size*k.toNat<=1000*1000:=T8 h4 (by omega)
  have hm':(items.size:Int)*k<=1000000:=by
   have e:((items.size*k.toNat:Nat):Int)=(items.size:Int)*k:=by rw[Int.natCast_mul,Int.toNat_of_nonneg (by omega)]
   omega
  have hc3:¬(items.size:Int)*k>(2^63-1) / 8:=by
   have:(1000000:Int)<=(2^63-1) / 8:=by decide
   omega
  have hc4:¬Su ((items.size:Int)*k)=true:=by
   unfold Su
   have:Om=16777216:=by decide
   simp;omega
  have ht:Ux hp l items:=⟨_,hl,rfl,n,rfl⟩;wp_walk;rw[if_neg hc0];dsimp only;refine On (UD ht ?_);rw[if_neg hc1,if_neg hc2,if_neg hc3,if_neg hc4]
  have fit:sizeOk (.seq (Ss (fun x1 x2=>x1++x2) #[] (OO k.toNat items))):=by
   show (Ss (fun x1 x2=>x1++x2) #[] (OO k.toNat items)).size<=Om;have q:=foldl_rep items.toList k.toNat [];rw[Rf] at q
   have q':Ss (fun x1 x2=>x1++x2) #[] (OO k.toNat items)=(OO k.toNat items.toList).flatten.toArray:=by simpa using q
   rw[q',Os,len_rep]
   have:Om=16777216:=by decide
   rw[Pp,Nat.mul_comm];omega
  first
  |exact On (m:=PR _) (PP (OD ⟨_,rfl,h⟩) fit)
  |exact On (m:=PR _) (PP (On (OD (OD ⟨_,rfl,h⟩))) fit)
theorem ET:OpR X (PY .Mult) (fun x y H Q=>∃a k xs,x=.ref a/\y=.int k/\SqT X.K H a xs/\2<=k/\k<=1000/\xs≠[]/\xs.length<=1000/\∀p,H p=none->Q (.ref p) (upd H p (.tup (OO k.toNat xs).flatten))):=by
 intro pins s σ H x y v u Q I rx ry h;obtain⟨a,k,xs,rfl,rfl,hq,h1,h2,h3,h4,q⟩:=h;cases rx;obtain⟨t,rfl⟩:=ry;obtain⟨its,r,p1,_⟩:=I.tuple hq;have hl:=r.length;have hv:its≠[]:=fun z=>h3 (r.nil_iff.mp z);obtain⟨⟨cls,dd,data,sl⟩,ho,hc,n,hd⟩:=id p1;simp only at hc hd;subst hc hd
 have hnew:Ss (fun x1 x2=>x1++x2) #[] (OO k.toNat its.toArray)=(OO k.toNat its).flatten.toArray:=by
  have q:=foldl_rep its k.toNat [];rw[Rf] at q;exact q
 have he:its.toArray.isEmpty=false:=by
  cases its with
  |nil=>exact absurd rfl hv
  |cons _ _=>simp
 refine wpAny_binaryOp_repeat_ref (T:="tuple") (U:="int") (by decide) ⟨_,ho,rfl⟩ (fun s'=>VX s' k t) zR F.fills_int_mul VH Ak F.slot_int_index.lookup
  (QC VH (VX s k t) F.entry_int_rmul (F.args_int_rmul_2 _ _) (z6 k t a its.toArray n dd sl)
   ⟨ho,rfl,⟨_,ho,rfl⟩,QC RG ⟨_,ho,rfl⟩ PySem.F.entry_tuple_mul (PySem.F.args_tuple_mul_2 _ _) (AR a its.toArray n dd sl k t h1 h2 he (by rw[Os];omega)) ⟨ho,?_⟩⟩)
 rw[hnew];refine⟨.ref s.heap.objs.size,_,I.laid (t':=s.toks) (o:=.tup (OO k.toNat xs).flatten) (fun b ob q=>Of _ q) (Ol _) ?_,rfl,q _ (I.hok.fresh (Ol _))⟩;refine⟨?_,_,r.rep k.toNat,Uk _ _⟩;rw[len_rep];have:k.toNat*xs.length<=1000*1000:=T8 (by omega) h4
 have:Om=16777216:=by decide
 omega
def b9:N9->N9->Option N9
 |.int i,.int j=>if (-(2^64)<i/\i<2^64)\/(-(2^64)<j/\j<2^64) then some (.int (i*j)) else none
 |.str z,.int k=>if 0<=k/\k<=2000/\z.length<=1000 then some (.str (Q4 z k)) else none
 |.tuple xs,.int k=>if 2<=k/\k<=1000/\xs.isEmpty=false/\xs.length<=1000 then some (.tuple (OO k.toNat xs).flatten) else none
 |_,_=>none
theorem eY:OpD X (PY .Mult) b9:=by
 refine⟨_,op_mul.or (op_mulS.or ET),fun O ts H T v1 v2 x y d Q hc h1 h2 e q=>?_⟩;unfold b9 at e;split at e
 .split at e
  .rename_i hz
   cases e;exact .inl ⟨_,_,h1.int,h2.int,hz,q _ H (.refl _ _) hc (.int _)⟩
  .cases e
 .split at e
  .rename_i hz
   cases e;exact .inr (.inl ⟨_,_,h1.str,h2.int,hz.1,hz.2.1,hz.2.2,q _ H (.refl _ _) hc (.str _)⟩)
  .cases e
 .split at e
  .rename_i xs k hz
   cases e;obtain⟨a,vs,rfl,t1,r1⟩:=h1.tup;exact .inr (.inr ⟨a,_,vs,rfl,h2.int,t1.sq,hz.1,hz.2.1,fun z=>by subst z;cases r1;exact absurd hz.2.2.1 (by simp),by rw[r1.length];exact hz.2.2.2,fun p hp=>q _ _ (.new hp _) (hc.new hp _) (hc.newT hp (r1.rep _))⟩)
  .cases e
 .cases e
def eqS:N9->N9->Option Bool
 |.int i,.int j=>some (decide (i=j))
 |.str x,.str y=>some (decide (x=y))
 |.bool a,.bool b=>some (decide (a=b))
 |.none,.none=>some true
 |.none,.int _=>some false | .int _,.none=>some false | .none,.bool _=>some false | .bool _,.none=>some false | .none,.str _=>some false | .str _,.none=>some false
 |.int _,.str _=>some false | .str _,.int _=>some false | .bool _,.str _=>some false | .str _,.bool _=>some false
 |_,_=>none
theorem xT{K:Frag}{O:Addr->Prop}{H:Hp}{v1 v2:V}{x y:N9}{b:Bool}(h1:Vw K O H v1 x)(h2:Vw K O H v2 y)(e:eqS x y=some b):sC v1 v2=true/\decide (v1=v2)=b:=by
 unfold eqS at e;split at e
 all_goals first|(cases e;done)|skip
 .cases h1.int;cases h2.int;cases e;exact⟨rfl,by simp⟩
 .cases h1.str;cases h2.str;cases e;exact⟨rfl,by simp⟩
 .cases h1.bl;cases h2.bl;cases e;exact⟨rfl,by simp⟩
 .cases h1.non;cases h2.non;cases e;exact⟨rfl,by simp⟩
 .cases h1.non;cases h2.int;cases e;exact⟨rfl,by simp⟩
 .cases h1.int;cases h2.non;cases e;exact⟨rfl,by simp⟩
 .cases h1.non;cases h2.bl;cases e;exact⟨rfl,by simp⟩
 .cases h1.bl;cases h2.non;cases e;exact⟨rfl,by simp⟩
 .cases h1.non;cases h2.str;cases e;exact⟨rfl,by simp⟩
 .cases h1.str;cases h2.non;cases e;exact⟨rfl,by simp⟩
 .cases h1.int;cases h2.str;cases e;exact⟨rfl,by simp⟩
 .cases h1.str;cases h2.int;cases e;exact⟨rfl,by simp⟩
 .cases h1.bl;cases h2.str;cases e;exact⟨rfl,by simp⟩
 .cases h1.str;cases h2.bl;cases e;exact⟨rfl,by simp⟩
def eqD(x y:N9):Option PyData:=(eqS x y).map .bool
def neD(x y:N9):Option PyData:=(eqS x y).map fun b=>.bool (!b)
theorem aV:OpD X (OM .Eq) eqD:=⟨_,IV,fun O ts H T v1 v2 x y d Q hc h1 h2 e q=>by
 unfold eqD at e;obtain⟨b,e1,rfl⟩:=OY.mp e;obtain⟨k1,k2⟩:=xT h1 h2 e1
 exact⟨k1,by rw[k2];exact q _ H (.refl _ _) hc (.bl _)⟩⟩
theorem d7:OpD X (OM .NotEq) neD:=⟨_,IQ,fun O ts H T v1 v2 x y d Q hc h1 h2 e q=>by
 unfold neD at e;obtain⟨b,e1,rfl⟩:=OY.mp e;obtain⟨k1,k2⟩:=xT h1 h2 e1
 exact⟨k1,by rw[k2];exact q _ H (.refl _ _) hc (.bl _)⟩⟩
def isNone:N9->Bool
 |.none=>true
 |_=>false
theorem BR{K:Frag}{O:Addr->Prop}{H:Hp}{v:V}{x:N9}(h:Vw K O H v x):decide (v=.non)=isNone x:=by
 cases h with
 |rep h=>cases h <;> rfl
 |raw _ _=>rfl
 |rawD _ _=>rfl
def isD:N9->N9->Option N9
 |x,.none=>some (.bool (isNone x))
 |_,_=>none
theorem zA:OpD X (OM .Is) isD:=⟨_,G3,fun O ts H T v1 v2 x y d Q hc h1 h2 e q=>by
 unfold isD at e;split at e
 .cases e
  exact⟨h2.non,by rw[BR h1];exact q _ H (.refl _ _) hc (.bl _)⟩
 .cases e⟩
def Hm:N9->N9->Option N9
 |x,.none=>some (.bool (!isNone x))
 |.bool a,.bool b=>some (.bool (a != b))
 |_,_=>none
def b8:N9->Bool
 |.none=>true | .bool _=>true | .int _=>true | .str _=>true
 |_=>false
def eqF:N9->N9->Bool
 |.none,.none=>true
 |.bool a,.bool b=>a == b
 |.bool a,.int b=>(if a then 1 else 0) == b
 |.int a,.bool b=>a == (if b then 1 else 0)
 |.int a,.int b=>a == b
 |.str a,.str b=>a == b
 |_,_=>false
def jc(y x:Str):Bool:=!(Pd y x 0 y.length 1).isEmpty
def inS:N9->N9->Option Bool
 |.str x,.str y=>some (jc y x)
 |x,.list ys=>if b8 x&&ys.all b8 then some (ys.any fun y=>eqF y x) else none
 |x,.tuple ys=>if b8 x&&ys.all b8 then some (ys.any fun y=>eqF y x) else none
 |_,_=>none
theorem qM{K:Frag}{O:Addr->Prop}{H:Hp}{v:V}{x:N9}(h:Rep K O H v x)(e:b8 x=true):fZ v=true:=by cases h <;> first|rfl|cases e
theorem HH{K:Frag}{O:Addr->Prop}{H:Hp}{v u:V}{x y:N9}(h:Rep K O H v x)(g:Rep K O H u y)(ex:b8 x=true)(ey:b8 y=true):eqV v u=eqF x y:=by cases h <;> cases g <;> first|rfl|cases ex|cases ey
theorem qk{K:Frag}{O:Addr->Prop}{H:Hp}:∀{vs:List V}{xs:List N9},Reps K O H vs xs->xs.all b8=true->vs.all fZ=true
 |_,_,.nil,_=>rfl
 |_,_,.cons r t,e=>by
  rw[Qb,Oj] at e;rw[Qb,qM r e.1,qk t e.2];rfl
theorem qU{K:Frag}{O:Addr->Prop}{H:Hp}{v:V}{x:N9}(h:Rep K O H v x)(ex:b8 x=true):∀{vs:List V}{xs:List N9},Reps K O H vs xs->xs.all b8=true->(vs.any fun y=>eqV y v)=xs.any fun y=>eqF y x
 |_,_,.nil,_=>rfl
 |_,_,.cons r t,e=>by
  rw[Qb,Oj] at e;rw[PU,PU,HH r h e.1 ex,qU h ex t e.2]
theorem Vw.flat{K:Frag}{O:Addr->Prop}{H:Hp}{v:V}{x:N9}(h:Vw K O H v x)(e:b8 x=true):Rep K O H v x:=by
 cases h with
 |rep h=>exact h
 |raw _ _=>cases e
 |rawD _ _=>cases e
def inD(x y:N9):Option PyData:=(inS x y).map .bool
def di(x y:N9):Option PyData:=(inS x y).map fun b=>.bool (!b)
theorem nP{K:Frag}(neg:Bool):iq K (fun x y H Q=>(∃i j,x=.str i/\y=.str j/\Q (.bl (if neg then !(jc j i) else jc j i)) H)\/rIn K neg x y H Q) (fun x y=>(inS x y).map fun b=>.bool (if neg then !b else b)):=fun O ts H T v1 v2 x y d Q hc h1 h2 e q=>by
 obtain⟨b,e1,rfl⟩:=OY.mp e;unfold inS at e1;split at e1
 .cases e1
  exact .inl ⟨_,_,h1.str,h2.str,q _ H (.refl _ _) hc (.bl _)⟩
 .split at e1
  .rename_i hf
   cases e1;rw[Oj] at hf;obtain⟨a,vs,rfl,t,r⟩:=h2.lst;have r1:=h1.flat hf.1;refine .inr ⟨a,vs,rfl,.inl t,qM r1 hf.1,qk r hf.2,?_⟩;have z:inV v1 vs=_:=qU r1 hf.1 r hf.2;rw[z];exact q _ H (.refl _ _) hc (.bl _)
  .cases e1
 .split at e1
  .rename_i hf
   cases e1;rw[Oj] at hf;obtain⟨a,vs,rfl,t,r⟩:=h2.tup;have r1:=h1.flat hf.1;refine .inr ⟨a,vs,rfl,.inr t.sq,qM r1 hf.1,qk r hf.2,?_⟩;have z:inV v1 vs=_:=qU r1 hf.1 r hf.2;rw[z];exact q _ H (.refl _ _) hc (.bl _)
  .cases e1
 .cases e1
theorem oS:OpD X (OM .In) inD:=⟨_,op_in_str.or uo,nP false⟩
theorem kT:OpD X (OM .NotIn) di:=⟨_,op_notin_str.or sW,nP true⟩
def dP:N9->Option N9
 |.int i=>some (.int (-i))
 |_=>none
theorem lB(ha:DE X a fa):DE X (.UnaryOp .USub a pos) (fUn dP fa):=Jx Gm (fun O ts H T v x d Q hc h e q=>by
 unfold dP at e;split at e
 .cases e
  exact⟨_,h.int,q _ H (.refl _ _) hc (.int _)⟩
 .cases e) ha
def ixD:N9->N9->Option N9
 |.list xs,.int i=>atI xs i
 |.tuple xs,.int i=>atI xs i
 |.str z,.int i=>if z.length<=Om then (atI z.cps.toList i).map fun c=>.str ⟨#[c]⟩ else none
 |_,_=>none
theorem vT{K:Frag}{O:Addr->Prop}{H:Hp}{vs:List V}{xs:List N9}{i:Int}{d:N9}(r:Reps K O H vs xs)(e:atI xs i=some d):∃v,atI vs i=some v/\Rep K O H v d:=by
 unfold atI at e ⊢;rw[r.length]
 cases h:ixN xs.length i with
 |none=>rw[h] at e;cases e
 |some j=>
  rw[h] at e;exact r.getD e
theorem ax:IxD X ixD:=⟨_,Hg,fun O ts H T v1 v2 x y d Q hc h1 h2 e q=>by
 unfold ixD at e;split at e
 .obtain⟨a,vs,rfl,t,r⟩:=h1.lst
  obtain⟨v,k1,k2⟩:=vT r e;exact .inl ⟨a,vs,_,v,rfl,h2.int,t,k1,q _ H (.refl _ _) hc k2⟩
 .obtain⟨a,vs,rfl,t,r⟩:=h1.tup
  obtain⟨v,k1,k2⟩:=vT r e;exact .inr (.inl ⟨a,vs,_,v,rfl,h2.int,t.sq,k1,q _ H (.refl _ _) hc k2⟩)
 .split at e
  .rename_i hz
   obtain⟨c,k1,rfl⟩:=OY.mp e;exact .inr (.inr ⟨_,_,c,h1.str,h2.int,hz,k1,q _ H (.refl _ _) hc (.str _)⟩)
  .cases e
 .cases e⟩
end
theorem zN{prog:OB}{w:OV}{A:O5}{E:Oa->Od->Prop}{s:Od}{t sl:Addr}{items:Array Oa}{vl vu:Oa}{lo hi:Option Int}{Q:Oa->Od->Prop}(ht:Ux s.heap t items)(hs:s.heap.IsSliceOf sl vl vu .none)(pl:Ti vl lo)(pu:Ti vu hi)
  (hw:HT.sIx items.size 0 lo=0/\HT.sIx items.size items.size hi=items.size) (h:Q (.ref t) s):OU (OQ prog w) A (SF (.ref t) (.ref sl)) Q E s:=by
 obtain⟨os,hos,hcs,hds⟩:=id hs;have hTs:s.TypeIs (.ref sl) "slice":=⟨os,hos,hcs⟩;unfold SF
 try with_reducible refine Qz ?_
 first|refine On (OD ?_)|skip
 refine On (UY ht.typeIs (by decide) ?_)
 refine On (SS (name:=Oe "__getitem__") ht.typeIs Po
  (SU Po ht.typeIs Up ?_ (UN _ _)))
 show OU _ _ (So (.ref t) >>= _) _ _ s;refine On (UD ht ?_);refine On (R6 hTs ?_);rw[if_pos (by decide)];refine On (HT.sP hs pl pu ?_)
 have hyes:((((HT.sIx items.size 0 lo:Nat):Int) == 0&&(1:Int) == 1&&(HT.sIx items.size items.size hi-HT.sIx items.size 0 lo) == items.size)=true):=by
  rw[hw.1,hw.2];simp
 show OU _ _ (if (((HT.sIx items.size 0 lo:Nat):Int) == 0&&(1:Int) == 1&&(HT.sIx items.size items.size hi-HT.sIx items.size 0 lo) == items.size)=true then _ else _) _ _ s;rw[if_pos hyes];refine On (m:=V1 (.ref t)) (On (R6 ht.typeIs (OD ?_)))
 first
 |exact On (V2 (On (OD ⟨_,rfl,OD h⟩)))
 |(simp only[beq_self_eq_true,if_true];exact On (V2 (OD ⟨_,rfl,OD h⟩)))
def dS{α:Type}(xs:List α)(lo hi:Option Int):List α:=(xs.drop (HT.sIx xs.length 0 lo)).take (HT.sIx xs.length xs.length hi-HT.sIx xs.length 0 lo)
theorem Reps.cut{K:Frag}{O:Addr->Prop}{H:Hp}{vs:List V}{ds:List N9}(r:Reps K O H vs ds)(lo hi:Option Int):Reps K O H (gH vs lo hi) (dS ds lo hi):=by
 unfold gH dS;rw[r.length];exact(r.drop _).take _
theorem Cf{α:Type}{xs:List α}{lo hi:Option Int}(h:HT.sIx xs.length 0 lo=0/\HT.sIx xs.length xs.length hi=xs.length):dS xs lo hi=xs:=by
 unfold dS;rw[h.1,h.2];simp
section
variable {X:Cx}
theorem sl_tupA:SlR X (fun x lo hi H Q=>∃a xs,x=.ref a/\SqT X.K H a xs/\((HT.sIx xs.length 0 lo=0/\HT.sIx xs.length xs.length hi=xs.length)->Q (.ref a) H) /\
  (¬(HT.sIx xs.length 0 lo=0/\HT.sIx xs.length xs.length hi=xs.length)->∀p,H p=none->Q (.ref p) (upd H p (.tup (gH xs lo hi))))):=by
 intro pins s σ H x v vl vu lo hi sl Q I rx hs pl pu h;obtain⟨a,xs,rfl,hx,q1,q2⟩:=h
 by_cases hw:HT.sIx xs.length 0 lo=0/\HT.sIx xs.length xs.length hi=xs.length
 .cases rx
  obtain⟨its,r,ht,hz⟩:=I.tuple hx
  have hlen:its.toArray.size=xs.length:=by rw[Os];exact r.length.symm
  refine⟨"tuple",_,Po.lookup,ht.typeIs,?_⟩;exact zN ht hs pl pu (by rw[hlen];exact hw) ⟨.ref a,H,I,rfl,q1 hw⟩
 .exact GC pins s σ H _ v vl vu lo hi sl Q I rx hs pl pu ⟨a,xs,rfl,hx,hw,q2 hw⟩
def lm(x:N9)(lo hi:Option Int):Option PyData:=match x with
 |.list xs=>some (.list (dS xs lo hi))
 |.tuple xs=>some (.tuple (dS xs lo hi))
 |.str z=>if z.length<=Om then some (.str (P6 z lo hi)) else none
 |_=>none
abbrev FO:=Rho->Tp->Option (Option Int×Tp)
def cx:FO:=fun _ T=>some (none,T)
def fP(f:FE):FO:=fun ρ T=>bnd (f ρ T) fun w T1=>match w with
 |.d (.int i)=>some (some i,T1)
 |_=>none
inductive LiftOP(K:Frag)(f:FO)(σ:L2.St)(H:Hp)(Q:Option Int->Hp->Prop):Prop where
 |mk (O:Addr->Prop) (ts:List Addr) (ρ:Rho) (T:Tp) (o:Option Int) (T':Tp) (hc:HC K O ts H T) (re:RelE K O ts H σ ρ) (e:f ρ T=some (o,T')) (q:∀H',SameX ts H H'->HC K O ts H' T'->Q o H'):LiftOP K f σ H Q
def Je(K:Frag)(f:FO):TO:=fun σ H Q=>LiftOP K f σ H Q
structure DO(X:Cx)(e:Option Expr)(f:FO):Prop where
 pe:PO X e (Je X.K f)
theorem xj(h:PO X e t)(i:∀σ H Q,t' σ H Q->t σ H Q):PO X e t':=fun pins s σ H Q I q=>h pins s σ H Q I (i σ H Q q)
theorem fO:DO X none cx:=by
 refine⟨?_⟩;refine xj EM fun σ H Q=>?_;rintro⟨O,ts,ρ,T,o,T',hc,re,e,q⟩;cases e;exact q H (.refl _ _) hc
theorem fN(h:DE X e f):DO X (some e) (fP f):=by
 refine⟨?_⟩;refine xj (EL h.pe) fun σ H Q=>?_;rintro⟨O,ts,ρ,T,o,T',hc,re,e,q⟩;obtain⟨w1,T1,e1,e⟩:=aJ e;refine⟨O,ts,ρ,T,w1,T1,hc,re,e1,fun v1 H1 s1 hc1 r1=>?_⟩;split at e
 .cases e
  cases (show Rep X.K O H1 v1 _ from r1);exact⟨_,rfl,q H1 s1 hc1⟩
 .cases e
def fSl(f:FE)(l u:FO):FE:=fun ρ T=>bnd (f ρ T) fun w T1=>bnd (l ρ T1) fun lo T2=>bnd (u ρ T2) fun hi T3=>op1 (fun x=>lm x lo hi) T3 w
theorem f6{e:Expr}{lo hi:Option Expr}{f:FE}{l u:FO}{pos p2:Pos}(he:DE X e f)(hl:DO X lo l)(hu:DO X hi u):DE X (.Subscript e (.Slice lo hi none p2) pos) (fSl f l u):=by
 refine⟨?_⟩;refine bC (CH (sl_list.or (sl_tupA.or GD)) he.pe hl.pe hu.pe) fun σ H Q=>?_;rintro⟨O,ts,ρ,T,w,T',hc,re,e,q⟩;obtain⟨w1,T1,e1,e⟩:=aJ e;obtain⟨o1,T2,e2,e⟩:=aJ e;obtain⟨o2,T3,e3,e⟩:=aJ e;obtain⟨x,d,h1,h3,rfl,rfl⟩:=jJ e;refine⟨O,ts,ρ,T,w1,T1,hc,re,e1,fun v1 H1 s1 hc1 r1=>?_⟩;refine⟨O,ts,ρ,T1,o1,T2,hc1,re.mono hc s1,e2,fun H2 s2 hc2=>?_⟩;refine⟨O,ts,ρ,T2,o2,T',hc2,re.mono hc (s1.trans s2),e3,fun H3 s3 hc3=>?_⟩;have vw:=hc3.view (r1.mono hc1 (s2.trans s3)) h1;have q':∀v H',SameX ts H3 H'->HC X.K O ts H' T'->Rep X.K O H' v d->Q v H':=fun v H' s c r=>q v H' (s1.trans (s2.trans (s3.trans s))) c r;clear q
 cases x with
 |list xs=>
  cases h3;obtain⟨a,vs,rfl,t,r⟩:=vw.lst;exact .inl ⟨a,vs,rfl,t,fun p hp=>q' _ _ (.new hp _) (hc3.new hp _) (hc3.newL hp (r.cut _ _))⟩
 |tuple xs=>
  cases h3;obtain⟨a,vs,rfl,t,r⟩:=vw.tup;refine .inr (.inl ⟨a,vs,rfl,t.sq,fun hw=>?_,fun hw p hp=>?_⟩)
  .rw[r.length] at hw
   rw[Cf hw] at q';exact q' _ H3 (.refl _ _) hc3 vw.tupR
  .exact q' _ _ (.new hp _) (hc3.new hp _) (hc3.newT hp (r.cut _ _))
 |str z=>
  have h3':(if z.length<=Om then some (OG (P6 z o1 o2)) else none)=some d:=h3;split at h3'
  .rename_i hz
   cases h3';exact .inr (.inr ⟨z,vw.str,hz,q' _ H3 (.refl _ _) hc3 (.str _)⟩)
  .cases h3'
 |_=>cases h3
end
inductive Kd where
 |non|bl|int|str|tup|lst|dct
 deriving DecidableEq
def Kd.name:Kd->String
 |.non=>"NoneType" | .bl=>"bool" | .int=>"int" | .str=>"str" | .tup=>"tuple" | .lst=>"list" | .dct=>"dict"
def kd:N9->Kd
 |.none=>.non | .bool _=>.bl | .int _=>.int | .str _=>.str | .list _=>.lst | .tuple _=>.tup | .dict _=>.dct
def bi(a b:Kd):Bool:=decide (a=b)||(decide (a=.bl)&&decide (b=.int))
def JZ(t c:String):Option Bool:=if (RM t == RM c)=true then some true else if PySem.W.kitMeta c=true then (fastBuiltinMro t).map (·.contains (.type c)) else none
theorem gm(a b:Kd):b≠.non->JZ a.name b.name=some (bi a b):=by cases a <;> cases b <;> first|(intro h;exact absurd rfl h)|(intro _;decide +kernel)
section
variable {X:Cx}
theorem DV:CallR X (.builtin "isinstance") (fun xs H Q=>∃(x:V) (c:Kd) (O:Addr->Prop) (d:N9),xs=[x,.ty c.name]/\Vw X.K O H x d/\c≠.non/\Q (.bl (bi (kd d) c)) H):=by
 intro pins s σ H xs us Q I r h;obtain⟨x,c,O,d,rfl,vw,hc,q⟩:=h;obtain⟨u,w',rfl,ru,rw'⟩:=vals2 r;cases (show w'=RM c.name from rw');have fin:∀tk,EP X pins σ Q (.bool (bi (kd d) c)) { s with toks:=tk }:=fun tk=>⟨.bl _,H,I.tok _,rfl,q⟩
 cases d with
 |none=>cases vw.non;exact mK I ru .non (show PD X.K (.type (Kd.name .non)) (.type c.name)=some _ from gm .non c hc) fin
 |bool b=>cases vw.bl;exact mK I ru (.bl b) (show PD X.K (.type (Kd.name .bl)) (.type c.name)=some _ from gm .bl c hc) fin
 |int i=>cases vw.int;exact mK I ru (.int i) (show PD X.K (.type (Kd.name .int)) (.type c.name)=some _ from gm .int c hc) fin
 |str z=>cases vw.str;exact mK I ru (.str z) (show PD X.K (.type (Kd.name .str)) (.type c.name)=some _ from gm .str c hc) fin
 |list ds=>
  obtain⟨a,vs,rfl,t,r⟩:=vw.lst;cases (show u=OZ a from ru);obtain⟨its,_,pl,_⟩:=I.list t;obtain⟨o,n,e,c1,_⟩:=pl;exact Pj Ry I.kIn ⟨o,e,c1⟩ (show PD X.K (.type (Kd.name .lst)) (.type c.name)=some _ from gm .lst c hc) (fun z=>nomatch z) fin
 |tuple ds=>
  obtain⟨a,vs,rfl,t,r⟩:=vw.tup;cases (show u=OZ a from ru);obtain⟨its,_,pl,_⟩:=I.tuple t.sq;obtain⟨o,e,c1,_⟩:=pl;exact Pj Sj I.kIn ⟨o,e,c1⟩ (show PD X.K (.type (Kd.name .tup)) (.type c.name)=some _ from gm .tup c hc) (fun z=>nomatch z) fin
 |dict ds=>
  obtain⟨a,vs,rfl,t,r⟩:=vw.dct;cases (show u=OZ a from ru);obtain⟨_,_,_,_,o,_,_,e,c1,_⟩:=dM I.hok t;exact Pj Rz I.kIn ⟨o,e,c1.1⟩ (show PD X.K (.type (Kd.name .dct)) (.type c.name)=some _ from gm .dct c hc) (fun z=>nomatch z) fin
def aZ(c:Kd)(x:N9):Option PyData:=some (.bool (bi (kd x) c))
theorem ba(c:Kd)(hi:X.mg "isinstance"=none)(he:DE X e f)(hm:X.mg T=none)(hb:Qh T=some (.type c.name))(hcn:c≠.non:=by decide)(hg:Gl X "isinstance":=by rfl)(hT:Gl X T:=by rfl)(hn:T≠"__name__":=by decide)(hdb:(T == ("__debug__" : Str))=false:=by decide)
  (hs:Oh [e,.Name T p] X.env=(false,eval e X.env)::Oh [.Name T p] X.env:=by exact bf rfl) (hs2:Oh [.Name T p] X.env=(false,eval (.Name T p) X.env)::Oh [] X.env:=by exact bf rfl)
  (hpl:(Pb pos (Oh [.Name T p] X.env)).any (·.1)=false:=by exact bR rfl):DE X (.Call (.Name "isinstance" p') [e,.Name T p] [] pos) (fUn (aZ c) f):=by
 refine⟨?_⟩;refine bC (kJ DV hg hi RW (bY he.pe (bY (qE (v:=.ty c.name) hT hm hb rfl hn hdb) b7 hs2) hs) (by decide) (by decide) hs hpl) fun σ H Q=>?_;rintro⟨O,ts,ρ,T,w,T',hc,re,e,q⟩;obtain⟨w1,T1,e1,e⟩:=aJ e;obtain⟨x,d,h1,h3,rfl,rfl⟩:=jJ e;cases h3;refine⟨O,ts,ρ,T,w1,T',hc,re,e1,fun v1 H1 s1 hc1 r1=>?_⟩;exact⟨v1,c,O,x,rfl,hc1.view r1 h1,hcn,q _ H1 s1 hc1 (.bl _)⟩
def aT:List N9->Option N9
 |[.list xs]=>some (.int xs.length)
 |[.tuple xs]=>some (.int xs.length)
 |[.str z]=>if z.length<=Om then some (.int z.length) else none
 |[.dict kvs]=>some (.int kvs.length)
 |_=>none
theorem cJ{K:Frag}{O:Addr->Prop}{H:Hp}{vs:List V}{x:N9}(h:Vws K O H vs [x]):∃v,vs=[v]/\Vw K O H v x:=by cases h with|cons h t=>cases t;exact⟨_,rfl,h⟩
theorem uX{K:Frag}{O:Addr->Prop}{H:Hp}:∀{kvs:List (Key×V)}{ds:List (N9×N9)},RepK K O H kvs ds->kvs.length=ds.length
 |_,_,.nil=>rfl
 |_,_,.cons _ t=>congrArg (· + 1) (uX t)
theorem Ci:CallR X (.builtin "len") (fun xs H Q=>∃a kvs,xs=[V.ref a]/\Rd H a (.dK kvs)/\Q (.int kvs.length) H):=by
 intro pins s σ H xs us Q I r h;obtain⟨a,kvs,rfl,ha,q⟩:=h;obtain⟨u,rfl,ru⟩:=vals1 r;cases ru;exact JA I ha fun t s' I'=>⟨.int kvs.length,H,I',⟨t,rfl⟩,q⟩
theorem bv:d6 X (.builtin "len") aT:=⟨_,call_len_seq.or (call_len_str.or Ci),fun O ts H T vs xs d Q hc h e q=>by
 unfold aT at e;split at e
 .cases e
  obtain⟨v,rfl,g⟩:=cJ h;obtain⟨a,vs,rfl,t,r⟩:=g.lst;exact .inl ⟨a,vs,rfl,.inl t,by rw[r.length];exact q _ H (.refl _ _) hc (.int _)⟩
 .cases e
  obtain⟨v,rfl,g⟩:=cJ h;obtain⟨a,vs,rfl,t,r⟩:=g.tup;exact .inl ⟨a,vs,rfl,.inr t.sq,by rw[r.length];exact q _ H (.refl _ _) hc (.int _)⟩
 .split at e
  .rename_i hz
   cases e;obtain⟨v,rfl,g⟩:=cJ h;cases g.str;exact .inr (.inl ⟨_,rfl,hz,q _ H (.refl _ _) hc (.int _)⟩)
  .cases e
 .cases e
  obtain⟨v,rfl,g⟩:=cJ h;obtain⟨a,kvs,rfl,t,r⟩:=g.dct;exact .inr (.inr ⟨a,kvs,rfl,t,by rw[uX r];exact q _ H (.refl _ _) hc (.int _)⟩)
 .cases e⟩
def me:List N9->Option N9
 |[.int i]=>some (.int (if i<0 then -i else i))
 |_=>none
theorem yZ:d6 X (.builtin "abs") me:=⟨_,DZ,fun O ts H T vs xs d Q hc h e q=>by
 unfold me at e;split at e
 .cases e
  obtain⟨v,rfl,g⟩:=cJ h;cases g.int;exact⟨_,rfl,q _ H (.refl _ _) hc (.int _)⟩
 .cases e⟩
def Jc:List N9->Option N9
 |[.int i,.int j]=>some (.int (if j>i then j else i))
 |_=>none
def Ja:List N9->Option N9
 |[.int i,.int j]=>some (.int (if j<i then j else i))
 |_=>none
def gy:List N9->Option (List Bool)
 |[]=>some []
 |.bool b::r=>(gy r).map (b::·)
 |_=>none
def gA:List N9->Option (List Int)
 |[]=>some []
 |.int b::r=>(gA r).map (b::·)
 |_=>none
def dm:List N9->Option (List Str)
 |[]=>some []
 |.str b::r=>(dm r).map (b::·)
 |_=>none
theorem qu{K:Frag}{O:Addr->Prop}{H:Hp}:∀{vs:List V}{xs:List N9}{bs:List Bool},Reps K O H vs xs->gy xs=some bs->vs=bs.map V.bl
 |_,_,_,.nil,e=>by cases e;rfl
 |_,x::r,bs,.cons h t,e=>by
  cases x with
  |bool b=>
   obtain⟨cs,e1,rfl⟩:=OY.mp (show (gy r).map (b::·)=some bs from e);cases h;rw[qu t e1];rfl
  |_=>cases e
theorem vg{K:Frag}{O:Addr->Prop}{H:Hp}:∀{vs:List V}{xs:List N9}{bs:List Int},Reps K O H vs xs->gA xs=some bs->vs=bs.map V.int
 |_,_,_,.nil,e=>by cases e;rfl
 |_,x::r,bs,.cons h t,e=>by
  cases x with
  |int b=>
   obtain⟨cs,e1,rfl⟩:=OY.mp (show (gA r).map (b::·)=some bs from e);cases h;rw[vg t e1];rfl
  |_=>cases e
theorem m8{K:Frag}{O:Addr->Prop}{H:Hp}:∀{vs:List V}{xs:List N9}{bs:List Str},Reps K O H vs xs->dm xs=some bs->vs=bs.map V.str
 |_,_,_,.nil,e=>by cases e;rfl
 |_,x::r,bs,.cons h t,e=>by
  cases x with
  |str b=>
   obtain⟨cs,e1,rfl⟩:=OY.mp (show (dm r).map (b::·)=some bs from e);cases h;rw[m8 t e1];rfl
  |_=>cases e
def ip:List N9->Option N9
 |[.list xs]=>(gy xs).map fun bs=>.bool (bs.all id)
 |_=>none
theorem oK(hc:X.calm=true:=by rfl):d6 X (.builtin "all") ip:=⟨_,DY hc,fun O ts H T vs xs d Q hc h e q=>by
 unfold ip at e;split at e
 .obtain⟨bs,e1,rfl⟩:=OY.mp e
  obtain⟨v,rfl,g⟩:=cJ h;obtain⟨a,vs,rfl,t,r⟩:=g.lst;rw[qu r e1] at t;exact⟨a,bs,rfl,t,q _ H (.refl _ _) hc (.bl _)⟩
 .cases e⟩
def lV:List N9->Option N9
 |[.list xs]=>(gA xs).map fun bs=>.int bs.sum
 |_=>none
theorem yX(hc:X.calm=true:=by rfl):d6 X (.builtin "sum") lV:=⟨_,DU hc,fun O ts H T vs xs d Q hc h e q=>by
 unfold lV at e;split at e
 .obtain⟨bs,e1,rfl⟩:=OY.mp e
  obtain⟨v,rfl,g⟩:=cJ h;obtain⟨a,vs,rfl,t,r⟩:=g.lst;rw[vg r e1] at t;exact⟨a,bs,rfl,t,q _ H (.refl _ _) hc (.int _)⟩
 .cases e⟩
def Jb:N9->N9->Option N9
 |.list xs,.int d=>(gA xs).map fun bs=>.int (K1.i9 d bs)
 |_,_=>none
def lW:List N9->Option N9
 |[.int i]=>if i.natAbs.log2<1920 then some (.str (toString i)) else none
 |_=>none
theorem yY:d6 X (.type "str") lW:=⟨_,Aq,fun O ts H T vs xs d Q hc h e q=>by
 unfold lW at e;split at e
 .split at e
  .rename_i hz
   cases e;obtain⟨v,rfl,g⟩:=cJ h;cases g.int;exact⟨_,rfl,hz,q _ H (.refl _ _) hc (.str _)⟩
  .cases e
 .cases e⟩
def dA:List N9->Option N9
 |[.list xs]=>some (.tuple xs)
 |[.tuple xs]=>some (.tuple xs)
 |_=>none
theorem jC:d6 X (.type "tuple") dA:=⟨_,sU,fun O ts H T vs xs d Q hc h e q=>by
 unfold dA at e;split at e
 .cases e
  obtain⟨v,rfl,g⟩:=cJ h;obtain⟨a,vs,rfl,t,r⟩:=g.lst;exact⟨a,vs,rfl,.inl ⟨t,fun p hp=>q _ _ (.new hp _) (hc.new hp _) (hc.newT hp r)⟩⟩
 .cases e
  obtain⟨v,rfl,g⟩:=cJ h;obtain⟨a,vs,e1,t,r⟩:=g.tup;subst e1;exact⟨a,vs,rfl,.inr ⟨t.sq,q _ H (.refl _ _) hc (.tup t r)⟩⟩
 .cases e⟩
def dC:List N9->Option N9
 |[.list xs]=>some (.list xs)
 |[.tuple xs]=>some (.list xs)
 |_=>none
theorem lC:d6 X (.type "list") dC:=⟨_,call_list_of,fun O ts H T vs xs d Q hc h e q=>by
 unfold dC at e;split at e
 .cases e
  obtain⟨v,rfl,g⟩:=cJ h;obtain⟨a,vs,rfl,t,r⟩:=g.lst;exact⟨a,vs,rfl,.inl t,fun p hp=>q _ _ (.new hp _) (hc.new hp _) (hc.newL hp r)⟩
 .cases e
  obtain⟨v,rfl,g⟩:=cJ h;obtain⟨a,vs,rfl,t,r⟩:=g.tup;exact⟨a,vs,rfl,.inr t.sq,fun p hp=>q _ _ (.new hp _) (hc.new hp _) (hc.newL hp r)⟩
 .cases e⟩
theorem CW:MtR X "str.join" (fun x vs H Q=>∃(z:Str) (l:Addr) (ys:List Str),x=.str z/\vs=[.ref l]/\SqL X.K H l (ys.map V.str)/\(ys.map (·.length)).sum+ys.length*z.length<=16777216/\Q (.str (Ra z ys)) H):=by
 intro pins s σ H x vs v us Q I rx rv h;obtain⟨z,l,ys,rfl,rfl,hq,hz,q⟩:=h;obtain⟨t,rfl⟩:=rx;obtain⟨u,rfl,ru⟩:=vals1 rv;cases ru;obtain⟨its,rw',pl,_⟩:=I.list hq;refine join_list (ys:=ys) pl.isList (by simpa using AU rw') hz fun t' k=>⟨.str _,H,I.tok _,⟨t',?_⟩,q⟩;show RL (Builtin.Str.glued z ys) t'=_;rw[StrLaws.glued_eq_join]
def lL:N9->N9->Option N9
 |.str z,.list xs=>match dm xs with
  |some ys=>if (ys.map (·.length)).sum+ys.length*z.length<=16777216 then some (.str (Ra z ys)) else none
  |none=>none
 |_,_=>none
theorem wC(ho:DE X o fo)(he:DE X e fe)
  (hbase:Pa o "join" X.env (eval o X.env)=eval o X.env:=by rfl)
  (hfew:((Pb cpos (Oh [e] X.env)).all (fun x=>!x.1)&&(Qo cpos (PF [] X.env)).all (fun x=>x.1.isSome)
   && decide (([e]:List Expr).length+([]:List Pq).length+(if ([]:List Pq).isEmpty then 0 else 1)<30))=true:=by exact f9 rfl)
  (hline:(apos.endLine == cpos.line)=true:=by rfl) (hse:Oh [e] X.env=(false,eval e X.env)::Oh [] X.env:=by exact bf rfl) (hplain:(Pb cpos (Oh [] X.env)).any (·.1)=false:=by exact bR rfl) :
  DE X (.Call (.Attribute o "join" apos) [e] [] cpos) (af lL fo fe):=by
 refine⟨?_⟩;refine bC (g7 RH PySem.F.slot_str_join PySem.F.type_str_join CW ho.pe (bY he.pe b7 hse) hbase hfew hline hse hplain) fun σ H Q=>?_;rintro⟨O,ts,ρ,T,w,T',hc,re,e,q⟩;obtain⟨w1,T1,e1,e⟩:=aJ e;obtain⟨w2,T2,e2,e⟩:=aJ e;obtain⟨x,y,d,h1,h2,h3,rfl,rfl⟩:=jI e;unfold lL at h3;split at h3
 .rename_i z xs
  split at h3
  .rename_i ys hy
   split at h3
   .rename_i hz
    cases h3;refine⟨O,ts,ρ,T,w1,T1,hc,re,e1,fun v1 H1 s1 hc1 r1=>?_⟩
    have ev:v1=.str z:=by
     cases w1 with
     |d x=>cases h1;cases (show Rep X.K O H1 v1 _ from r1);rfl
     | tp k=>exact(by
       have h1':(T'[k]?).bind i8=some (OG z):=h1
       cases hk:T'[k]? with
       |none=>rw[hk] at h1';cases h1'
       |some xs=>
        rw[hk] at h1';have e2:(if isO xs=true then none else some (QK xs))=some (OG z):=h1'
        split at e2 <;> cases e2)
     |loc zs=>cases zs <;> cases h1
    subst ev;refine⟨rfl,O,ts,ρ,T1,w2,T',hc1,re.mono hc s1,e2,fun v2 H2 s2 hc2 r2=>?_⟩;obtain⟨a,vs,rfl,t,r⟩:=(hc2.view r2 h2).lst;rw[m8 r hy] at t;exact⟨z,a,ys,rfl,rfl,t,hz,q _ H2 (s1.trans s2) hc2 (.str _)⟩
   .cases h3
  .cases h3
 .cases h3
theorem FR:DE X (.Dict [] [] pos) (fC (.dict [])):=by
 refine⟨?_⟩;refine bC (yv u4) fun σ H Q=>?_;rintro⟨O,ts,ρ,T,w,T',hc,re,e,q⟩;cases e;intro p hp;refine .frz bt fun o=>.done ?_;rw[vM];exact q _ _ (.new hp _) (hc.new hp _) (.dct (hc.fresh hp) bt .nil)
end
mutual
def jX:N9->Bool
 |.list _=>false
 |.tuple ds=>nV ds
 |.dict kvs=>nW kvs
 |.none | .bool _ | .int _ | .str _=>true
def nV:List N9->Bool
 |[]=>true
 |d::r=>jX d&&nV r
def nW:List (N9×N9)->Bool
 |[]=>true
 |(_,v)::r=>jX v&&nW r
end
section
variable {X:Cx}{pins:List (Addr×Obj)}{σ:L2.St}{H:Hp}{s:Od}{O:Addr->Prop}
theorem BL(e:e7 k v=true):WI h v (dH k) []:=by
 rcases ej e with⟨i,t,rfl,rfl⟩|⟨x,t,rfl,rfl⟩
 .exact .int i t
 .exact .str x t
mutual
theorem Rep.reads(I:Inv X pins σ H s):∀{v:V}{d:N9}{u:Oa},Rep X.K O H v d->RelV v u->∃as,WI s.heap u d as/\(jX d=true->PN∉as)
 |_,_,_,.non,r=>by cases r;exact⟨_,.none,fun _=>by simp⟩
 |_,_,_,.bl b,r=>by cases r;exact⟨_,.bool b,fun _=>by simp⟩
 |_,_,_,.int i,r=>by obtain⟨t,rfl⟩:=r;exact⟨_,.int i t,fun _=>by simp⟩
 |_,_,_,.str x,r=>by obtain⟨t,rfl⟩:=r;exact⟨_,.str x t,fun _=>by simp⟩
 |_,_,_,.tup (a:=a) (vs:=vs) h rs,r=>by
  cases r;obtain⟨its,rv,⟨o,e,c,n,dd⟩,_⟩:=I.tuple h.sq;obtain⟨as,q,f⟩:=Reps.reads I rs rv;exact⟨as,.tuple e c dd (by simpa using q),f⟩
 |_,_,_,.lst (a:=a) (vs:=vs) h rs,r=>by
  cases r;obtain⟨its,rv,pl,_⟩:=I.list h.sq;obtain⟨o,n,e,c,_,dd⟩:=pl;obtain⟨as,q,f⟩:=Reps.reads I rs rv;exact⟨_,.list e c dd (by simpa using q),fun z=>by cases z⟩
 |_,_,_,.dct (a:=a) (kvs:=kvs) (ds:=ds) _ h rk,r=>by
  cases r;obtain⟨z,y,vs,kv,o,es,ep,e,ed,dd,_,ek,_⟩:=(show ObjOk X.prog X.w H s.heap a (.dK kvs) from(I.hok a _ h).2);obtain⟨bs,q1,q2,f⟩:=RepK.reads I rk kv ek;refine⟨_,.dict (kvs:=ds) (as:=[]) (bs:=bs) e ed.1 dd q1 q2,fun zz hm=>?_⟩
  rcases Oy.mp (by simpa using hm:PN∈a::bs) with q|q
  .rw[q] at y
   simp at y
  .exact f zz q
theorem Reps.reads(I:Inv X pins σ H s):∀{vs:List V}{ds:List N9}{us:List Oa},Reps X.K O H vs ds->Vals vs us->∃as,T9 s.heap us ds as/\(nV ds=true->PN∉as)
 |_,_,_,.nil,r=>by cases r;exact⟨_,.nil,fun _=>by simp⟩
 |_,_,_,.cons (d:=d) (ds:=ds) q t,r=>by
  cases r with
  |cons r1 r2=>
   obtain⟨as,h1,f1⟩:=Rep.reads I q r1;obtain⟨bs,h2,f2⟩:=Reps.reads I t r2;refine⟨as++bs,.cons h1 h2,fun z=>?_⟩;have z':(jX d&&nV ds)=true:=z;rw[Oj] at z';intro hm
   rcases Oq.mp hm with hm|hm
   .exact f1 z'.1 hm
   .exact f2 z'.2 hm
theorem RepK.reads(I:Inv X pins σ H s):∀{kvs:List (Key×V)}{ds:List (N9×N9)}{vs:List (Key×Oa)}{es:List WH},RepK X.K O H kvs ds->KV kvs vs->Pairs (bE X.prog X.w) es vs ->
  ∃bs,T9 s.heap (es.map (·.key)) (ds.map (·.1)) []/\T9 s.heap (es.map (·.val)) (ds.map (·.2)) bs/\(nW ds=true->PN∉bs)
 |_,_,_,_,.nil,r,ek=>by
  cases r;cases ek;exact⟨[],.nil,.nil,fun _=>by simp⟩
 |_,_,_,_,.cons (k:=k) (d:=d) (ds:=ds) q t,r,ek=>by
  cases r with
  |cons r1 r2=>
   cases ek with
   |cons e1 e1' e2=>
    obtain⟨as,h1,f1⟩:=Rep.reads I q r1.2;obtain⟨bs,h2,h3,f2⟩:=RepK.reads I t r2 e2;rw[←e1'] at h1;have k1:=BL (h:=s.heap) (show e7 _ _=true from e1);rw[←r1.1] at k1;refine⟨as++bs,.cons (as:=[]) (bs:=[]) k1 h2,.cons h1 h3,fun z=>?_⟩;have z':(jX d&&nW ds)=true:=z;rw[Oj] at z';intro hm
    rcases Oq.mp hm with hm|hm
    .exact f1 z'.1 hm
    .exact f2 z'.2 hm
end
end
def i5(d:N9):Bool:=d.showable&&d.leavesShort 200&&decide (d.depth<=60)&&decide (d.weight<=60000)&&(!d.hasDict||jX d)
theorem shown_fits{d:N9}(h1:d.leavesShort 200=true)(h2:d.weight<=60000):d.shown.length<=sizeLine:=by
 have q:=PyData.shown_le 200 (by decide) d h1
 have e:Om=16777216:=by decide
 have:(200+2)*d.weight<=202*60000:=Nat.mul_le_mul_left _ h2;omega
section
variable {X:Cx}
theorem Cg(hr:Room k X.A):CallR X (.builtin "repr") (fun xs H Q=>∃O x d,xs=[x]/\Rep X.K O H x d/\i5 d=true/\Q (.str d.shown) H):=by
 intro pins s σ H xs us Q I r h;obtain⟨O,x,d,rfl,rp,hg,q⟩:=h;unfold i5 at hg;rw[Oj,Oj,Oj,Oj] at hg;obtain⟨⟨⟨⟨g1,g2⟩,g3⟩,g4⟩,g5⟩:=hg;have g3:=of_decide_eq_true g3;have g4:=of_decide_eq_true g4;obtain⟨u,rfl,ru⟩:=vals1 r;have hz:=shown_fits g2 g4;have fin:∀h' t k',(∀b o,s.heap.get? b=some o->h'.get? b=some o)->EP X pins σ Q (.str d.shown t) { s with heap:=h',toks:=k' }:=fun h' t k' kk=>⟨.str d.shown,H,I.kept kk,⟨t,rfl⟩,q⟩
 have big:∀a,u=.ref a->OU (OQ X.prog X.w) X.A (call (.builtin "repr") [u]) (EP X pins σ Q) X.xe s:=fun a e=>by
  obtain⟨as,rd,f⟩:=rp.reads I ru;subst e;refine repr_of_reads' rd g1 (fun z=>f ?_) hr.gd ?_ (fun _ _ e=>e) (fun h' u tk kk=>fin h' u tk kk) hz
  .rw[z] at g5
   simpa using g5
  .have h2:=hr.un
   omega
 cases rp with
 |non=>cases ru;exact PySem.P.repr_of_none (fin _ _ _ fun _ _ e=>e)
 |bl b=>cases ru;exact PySem.P.repr_of_bool (fin _ _ _ fun _ _ e=>e)
 |int i=>
  obtain⟨t,rfl⟩:=ru;exact PySem.P.repr_of_int (of_decide_eq_true g1) (fin _ _ _ fun _ _ e=>e)
 |str x=>
  obtain⟨t,rfl⟩:=ru;exact PySem.P.repr_of_str (fin _ _ _ fun _ _ e=>e) hz
 |tup _ _=>exact big _ ru
 |lst _ _=>exact big _ ru
 |dct _ _ _=>exact big _ ru
def om(T:Tp)(w:W):Option (W×Tp):=match w with
 |.d x=>if i5 x=true then some (.d (.str x.shown),T) else none
 |_=>none
def j4(f:FE):FE:=fun ρ T=>bnd (f ρ T) fun w T1=>om T1 w
theorem qP(hr:Room k X.A)(hm:X.mg "repr"=none)(he:DE X e f)(hg:Gl X "repr":=by rfl)(hse:Oh [e] X.env=(false,eval e X.env)::Oh [] X.env:=by exact bf rfl)(hpl:(Pb pos (Oh [] X.env)).any (·.1)=false:=by exact bR rfl) :
  DE X (.Call (.Name "repr" p) [e] [] pos) (j4 f):=by
 refine⟨?_⟩;refine bC (kJ (Cg hr) hg hm boot_repr (bY he.pe b7 hse) (by decide) (by decide) hse hpl) fun σ H Q=>?_;rintro⟨O,ts,ρ,T,w,T',hc,re,e,q⟩;obtain⟨w1,T1,e1,e⟩:=aJ e;refine⟨O,ts,ρ,T,w1,T1,hc,re,e1,fun v1 H1 s1 hc1 r1=>?_⟩;unfold om at e;split at e
 .split at e
  .rename_i x hx
   cases e;exact⟨O,v1,x,rfl,r1,hx,q _ H1 s1 hc1 (.str _)⟩
  .cases e
 .cases e
end
structure Df(K:Frag)(name:Str)(st:Stmt):Prop where
 ex:∃(f:Addr) (oc:Oa) (od an:Option Addr) (sl:Array (Option Oa)) (kV dc pm cd ct:Oa),P1 K O9 name=some (some (.ref f)) /\
  K.lookup f=some ⟨oc,od,.func (PB name name (dY st) (cM st) (bj st) .none kV dc pm an cd ct),sl⟩/\QW K cd name=true/\PC K (.ref f)=true
theorem Jw{K:Frag}{name:Str}{st:Stmt}{f:Addr}{oc:Oa}{od an:Option Addr}{sl:Array (Option Oa)}{kV dc pm cd ct:Oa}(a:P1 K O9 name=some (some (.ref f)))
  (l:K.lookup f=some ⟨oc,od,.func (PB name name (dY st) (cM st) (bj st) .none kV dc pm an cd ct),sl⟩) (c:QW K cd name=true) (k:PC K (.ref f)=true):Df K name st:=⟨f,oc,od,an,sl,kV,dc,pm,cd,ct,a,l,c,k⟩
theorem Df.fn{P:OB}{w:OV}{K:Frag}{mg:Str->Option Oa}{base h:Heap}{name:Str}{st:Stmt}{ps:List Str}{k:Nat}{sp:Sp}(d:Df K name st)(X:K.In h)(G:h.Ns O9 mg)
  (hb:∀(kV doc pm:Oa) (an:Option Addr) (cdv ct:Oa) (us:List Oa),us.length=ps.length->SQ (PB name name (dY st) (cM st) (bj st) .none kV doc pm an cdv ct) ⟨us,[]⟩=pure (ps.zip us))
  (ok:∀f fd,Fun K name name st f fd->FnOk P w K mg base CX0 k f fd ps sp):Fn P w K mg base name ps k sp:=by
 obtain⟨f,oc,od,an,sl,kV,dc,pm,cd,ct,a,l,c,kp⟩:=d.ex;have F:=xQ (st:=st) l c kp;exact⟨f,_,ok f _ F,F.binds hb,kp,RQ X G a⟩
theorem Fk{P:OB}{w:OV}{K:Frag}{mg:Str->Option Oa}{base:Heap}{k n:Nat}{f:Addr}{fd:PZ}{ps:List Str}:FnOk P w K mg base CX0 k f fd ps (spM K n fun _ _=>none):=by
 have no:∀vs H Q E,¬spM K n (fun _ _=>none) vs H Q E:=fun vs H Q E h=>by
  obtain⟨O,ts,T,ws,x,T',_,_,_,e,_⟩:=h;cases e
 exact⟨fun vs H Q E h=>absurd h (no vs H Q E),fun A outer s H args us vs Q E _ _ _ _ h=>absurd h (no vs H Q E)⟩
def ol(K:Frag):Sp:=fun vs H Q _=>∃(a:Addr) (ns:List Int),vs=[.ref a]/\SqL K H a (ns.map V.int)/\ns.length<=63/\∀H',Q (.bl true) H'
def cD(ns:List Int):PyData:=.list (ns.map .int)
theorem uj{K:Frag}{O:Addr->Prop}{H:Hp}:∀ns:List Int,Reps K O H (ns.map V.int) (ns.map P7)
 |[]=>.nil
 |_::r=>.cons (.int _) (uj r)
section
variable {α β:Type}{ρ:Rho}{T:Tp}{f g:FE}{c c':FT}{s s':FS}{a:FA}{w w':W}{x y:N9}
@[simp] theorem fS:bnd (some (b,T)) k=k b T:=rfl
@[simp] theorem Ms:bnd none k=none:=rfl
@[simp] theorem Mt[Decidable p]:bnd (if p then u else v) k=if p then bnd u k else bnd v k:=by split <;> rfl
@[simp] theorem Jt:aP N s ws T=if eE ws=true then e9 (s (ws.map some++OO (N-ws.length) none) T) else none:=rfl
@[simp] theorem B6:eE []=true:=rfl
@[simp] theorem B5:eE (.d x::r)=eE r:=rfl
@[simp] theorem B4:eE (.tp i::r)=eE r:=rfl
@[simp] theorem Mm:e9 (some ((.rt x,r),T))=some (x,T):=rfl
@[simp] theorem Mn:e9 (some ((.nx,r),T))=some (.none,T):=rfl
@[simp] theorem Mo[Decidable p]:e9 (if p then u else v)=if p then e9 u else e9 v:=by split <;> rfl
def j7(s':FS)(p:Fl×Rho)(T:Tp):Option ((Fl×Rho)×Tp):=match p with
 |(.nx,ρ1)=>s' ρ1 T
 |(fl,ρ1)=>some ((fl,ρ1),T)
@[simp] theorem HA:ak s s' ρ T=bnd (s ρ T) (j7 s'):=rfl
@[simp] theorem Fp:j7 s' (.nx,ρ1) T=s' ρ1 T:=rfl
@[simp] theorem LA:j7 s' (.rt x,ρ1) T=some ((.rt x,ρ1),T):=rfl
@[simp] theorem LD:j7 s' (.bk,ρ1) T=some ((.bk,ρ1),T):=rfl
@[simp] theorem LC:j7 s' (.ct,ρ1) T=some ((.ct,ρ1),T):=rfl
@[simp] theorem LQ:aH ρ T=some ((.nx,ρ),T):=rfl
def ifK(s s':FS)(ρ:Rho)(b:Bool)(T1:Tp):Option ((Fl×Rho)×Tp):=if b=true then s ρ T1 else s' ρ T1
@[simp] theorem NL:fIf c s s' ρ T=bnd (c ρ T) (ifK s s' ρ):=rfl
@[simp] theorem Nq:ifK s s' ρ b T=if b=true then s ρ T else s' ρ T:=rfl
def zp(ρ:Rho):W->Tp->Option ((Fl×Rho)×Tp):=fun w T1=>match w with
 |.d x=>some ((.rt x,ρ),T1)
 |_=>none
@[simp] theorem MS:ay f ρ T=bnd (f (cb ρ) T) (zp ρ):=rfl
@[simp] theorem LI:zp ρ (.d x) T=some ((.rt x,ρ),T):=rfl
@[simp] theorem Mj:cb []=[]:=rfl
@[simp] theorem Mg:cb (none::r)=none::cb r:=rfl
@[simp] theorem Mi:cb (some (.d x)::r)=some (.d x)::cb r:=rfl
@[simp] theorem Mf:cb (some (.tp i)::r)=some (.tp i)::cb r:=rfl
@[simp] theorem Mh:cb (some (.loc x)::r)=some (.d x)::cb r:=rfl
def sA(i:Nat)(ρ:Rho):W->Tp->Option ((Fl×Rho)×Tp):=fun w T1=>match w with
 |.d x=>some ((.nx,ρ.set i (some (.d x))),T1)
 |.tp k=>some ((.nx,ρ.set i (some (.tp k))),T1)
 |.loc _=>none
@[simp] theorem Hz:aM i f ρ T=bnd (f ρ T) (sA i ρ):=rfl
@[simp] theorem Fo:sA i ρ (.d x) T=some ((.nx,ρ.set i (some (.d x))),T):=rfl
@[simp] theorem Lx:sA i ρ (.tp k) T=some ((.nx,ρ.set i (some (.tp k))),T):=rfl
def yt(i:Nat)(ρ:Rho)(T:Tp):Option (List N9)->Option ((Fl×Rho)×Tp)
 |some xs=>if xs.length<=1000 then some ((.nx,ρ.set i (some (.loc (.list xs)))),T) else none
 |none=>none
@[simp] theorem Ly:dI i a ρ T=bnd (a ρ T) fun ws T1=>yt i ρ T1 (d4 ws):=rfl
@[simp] theorem KD:yt i ρ T (some xs)=if xs.length<=1000 then some ((.nx,ρ.set i (some (.loc (.list xs)))),T) else none:=rfl
def zJ(i:Nat)(ρ:Rho)(x:N9)(T:Tp)(o:Option (Option W)):Option ((Fl×Rho)×Tp):=match o with
 |some (some (.loc (.list xs)))=>if xs.length<Om then some ((.nx,ρ.set i (some (.loc (.list (xs++[x]))))),T) else none
 |_=>none
def zH(i:Nat)(ρ:Rho):W->Tp->Option ((Fl×Rho)×Tp):=fun w T1=>match w with
 | .d x=>(match ρ[i]? with
  |some (some (.loc (.list xs)))=>if xs.length<Om then some ((.nx,ρ.set i (some (.loc (.list (xs++[x]))))),T1) else none
  | _=>none)
 |_=>none
@[simp] theorem NB:dQ i f ρ T=bnd (f ρ T) (zH i ρ):=rfl
@[simp] theorem Mv:zH i ρ (.d x) T=zJ i ρ x T ρ[i]?:=rfl
@[simp] theorem Mw:zJ i ρ x T (some (some (.loc (.list xs))))=if xs.length<Om then some ((.nx,ρ.set i (some (.loc (.list (xs++[x]))))),T) else none:=rfl
@[simp] theorem NG:fSl f l u ρ T=bnd (f ρ T) fun w T1=>bnd (l ρ T1) fun lo T2=>bnd (u ρ T2) fun hi T3=>op1 (fun x=>lm x lo hi) T3 w:=rfl
@[simp] theorem MZ:cx ρ T=some (none,T):=rfl
def pK:W->Tp->Option (Option Int×Tp):=fun w T1=>match w with
 |.d (.int i)=>some (some i,T1)
 |_=>none
@[simp] theorem N3:fP f ρ T=bnd (f ρ T) pK:=rfl
@[simp] theorem NH:pK (.d (.int i)) T=some (some i,T):=rfl
@[simp] theorem MQ{z:Str}{lo hi:Option Int}:lm (.str z) lo hi=if z.length<=Om then some (.str (P6 z lo hi)) else none:=rfl
@[simp] theorem MP{xs:List N9}{lo hi:Option Int}:lm (.tuple xs) lo hi=some (.tuple (dS xs lo hi)):=rfl
@[simp] theorem MR{xs:List N9}{lo hi:Option Int}:lm (.list xs) lo hi=some (.list (dS xs lo hi)):=rfl
@[simp] theorem Lq:aa 0 (some o::r) T=some (o,T):=rfl
@[simp] theorem gp:aa (i+1) (o::r) T=aa i r T:=rfl
@[simp] theorem Lp:aa 1 (o::r) T=aa 0 r T:=gp
@[simp] theorem Lo:aa 2 (o::r) T=aa 1 r T:=gp
@[simp] theorem Lm:aa 3 (o::r) T=aa 2 r T:=gp
@[simp] theorem Ll:aa 4 (o::r) T=aa 3 r T:=gp
@[simp] theorem Lk:aa 5 (o::r) T=aa 4 r T:=gp
@[simp] theorem Lj:aa 6 (o::r) T=aa 5 r T:=gp
@[simp] theorem Li:aa 7 (o::r) T=aa 6 r T:=gp
@[simp] theorem Lh:aa 8 (o::r) T=aa 7 r T:=gp
@[simp] theorem Lg:aa 9 (o::r) T=aa 8 r T:=gp
@[simp] theorem N4:fC x ρ T=some (.d x,T):=rfl
@[simp] theorem Lf:view T (.d x)=some x:=rfl
@[simp] theorem KA:view T (.tp i)=(T[i]?).bind i8:=rfl
@[simp] theorem LF:i8 xs=if isO xs=true then none else some (.list xs):=rfl
@[simp] theorem Ld:isO (.list xs::r)=false:=rfl
@[simp] theorem KB:view T (.loc (.list xs))=some (.list xs):=rfl
@[simp] theorem ev_viewLD:view T (.loc (.dict xs))=some (.dict xs):=rfl
noncomputable def mkD(T:Tp)(o:Option N9):Option (W×Tp):=match o with
 |some d=>some (.d d,T)
 |none=>none
@[simp] theorem M8:mkD T (some x)=some (.d x,T):=rfl
@[simp] theorem LU:mkD T none=none:=rfl
@[simp] theorem LV[Decidable p]:mkD T (if p then u else v)=if p then mkD T u else mkD T v:=by split <;> rfl
def zG(o:N9->N9->Option N9)(g:FE)(ρ:Rho)(w1:W)(T1:Tp):Option (W×Tp):=bnd (g ρ T1) fun w2 T2=>op2 o T2 w1 w2
@[simp] theorem Nz:af o f g ρ T=bnd (f ρ T) (zG o g ρ):=rfl
@[simp] theorem Mu:zG o g ρ w T=bnd (g ρ T) fun w2 T2=>op2 o T2 w w2:=rfl
@[simp] theorem MX:op2 o T (.d x) (.d y)=mkD T (o x y):=rfl
@[simp] theorem LM:op2 o ((.list zs::xs)::r) (.tp 0) (.d y)=mkD ((.list zs::xs)::r) (o (.list (.list zs::xs)) y):=rfl
@[simp] theorem NF:fUn o f ρ T=bnd (f ρ T) fun w1 T1=>op1 o T1 w1:=rfl
@[simp] theorem MY:op1 o T (.d x)=mkD T (o x):=rfl
@[simp] theorem NA:asB (.d (.bool b))=some b:=rfl
def zd:W->Tp->Option (Bool×Tp):=fun w T1=>match asB w with
 |some b=>some (b,T1)
 |none=>none
@[simp] theorem MK:au f ρ T=bnd (f ρ T) zd:=rfl
@[simp] theorem Lr:zd (.d (.bool b)) T=some (b,T):=rfl
@[simp] theorem ML:aK f ρ T=bnd (f ρ T) fun w T1=>oQ T1 w:=rfl
def ze(T:Tp)(o:Option Bool):Option (Bool×Tp):=match o with
 |some b=>some (b,T)
 |none=>none
@[simp] theorem Lv:oQ T (.d x)=ze T (oP x):=rfl
@[simp] theorem Ls:ze T (some b)=some (b,T):=rfl
@[simp] theorem Lu:oP (.bool b)=some b:=rfl
def y4(c':FT)(ρ:Rho)(b:Bool)(T1:Tp):Option (Bool×Tp):=if b=true then c' ρ T1 else some (false,T1)
@[simp] theorem My:bN c c' ρ T=bnd (c ρ T) (y4 c' ρ):=rfl
@[simp] theorem La:y4 c' ρ b T=if b=true then c' ρ T else some (false,T):=rfl
def zw(c':FT)(ρ:Rho)(b:Bool)(T1:Tp):Option (Bool×Tp):=if b=true then some (true,T1) else c' ρ T1
@[simp] theorem MV:a8 c c' ρ T=bnd (c ρ T) (zw c' ρ):=rfl
@[simp] theorem LL:zw c' ρ b T=if b=true then some (true,T) else c' ρ T:=rfl
@[simp] theorem LO:a6 c ρ T=bnd (c ρ T) fun b T1=>some (!b,T1):=rfl
@[simp] theorem KC:bx ρ T=some (true,T):=rfl
def zK(g:FE)(ρ:Rho)(w:W)(T:Tp):Option (W×Tp):=match asB w with
 |some b=>if b=true then g ρ T else some (.d (.bool false),T)
 |none=>none
@[simp] theorem Mx:cw f g ρ T=bnd (f ρ T) (zK g ρ):=rfl
@[simp] theorem Mz:zK g ρ (.d (.bool b)) T=if b=true then g ρ T else some (.d (.bool false),T):=rfl
def orK(g:FE)(ρ:Rho)(w:W)(T:Tp):Option (W×Tp):=match asB w with
 |some b=>if b=true then some (.d (.bool true),T) else g ρ T
 |none=>none
@[simp] theorem MU:J7 f g ρ T=bnd (f ρ T) (orK g ρ):=rfl
@[simp] theorem MW:orK g ρ (.d (.bool b)) T=if b=true then some (.d (.bool true),T) else g ρ T:=rfl
def zB(w:W)(T:Tp):Option (W×Tp):=match asB w with
 |some b=>some (.d (.bool (!b)),T)
 |none=>none
@[simp] theorem LN:lO f ρ T=bnd (f ρ T) zB:=rfl
@[simp] theorem LP:zB (.d (.bool b)) T=some (.d (.bool (!b)),T):=rfl
def zE(f g:FE)(ρ:Rho)(b:Bool)(T1:Tp):Option (W×Tp):=if b=true then f ρ T1 else g ρ T1
@[simp] theorem Nr:cF c f g ρ T=bnd (c ρ T) (zE f g ρ):=rfl
@[simp] theorem Me:zE f g ρ b T=if b=true then f ρ T else g ρ T:=rfl
def chK(o':N9->N9->Option N9)(h:FE)(ρ:Rho)(w2 w:W)(T:Tp):Option (W×Tp):=match asB w with
 |some b=>if b=true then bnd (h ρ T) fun w3 T4=>op2 o' T4 w2 w3 else some (.d (.bool false),T)
 |none=>none
@[simp] theorem K8:iS o o' f g h ρ T=bnd (f ρ T) fun w1 T1=>bnd (g ρ T1) fun w2 T2=>bnd (op2 o T2 w1 w2) (chK o' h ρ w2):=rfl
@[simp] theorem Nx:chK o' h ρ w (.d (.bool b)) T=if b=true then bnd (h ρ T) fun w3 T4=>op2 o' T4 w w3 else some (.d (.bool false),T):=rfl
@[simp] theorem M0:ah ρ T=some ([],T):=rfl
def yV(a:FA)(ρ:Rho)(w:W)(T1:Tp):Option (List W×Tp):=bnd (a ρ T1) fun ws T2=>some (w::ws,T2)
@[simp] theorem Mq:ae f a ρ T=bnd (f ρ T) (yV a ρ):=rfl
@[simp] theorem K7:yV a ρ w T=bnd (a ρ T) fun ws T2=>some (w::ws,T2):=rfl
@[simp] theorem Kj:views T []=some []:=rfl
def lT(x:N9)(o:Option (List N9)):Option (List N9):=match o with
 |some xs=>some (x::xs)
 |none=>none
@[simp] theorem K6:lT x (some xs)=some (x::xs):=rfl
@[simp] theorem Kz:views T (.d x::r)=lT x (views T r):=rfl
@[simp] theorem Ki:views T (.loc (.list xs)::r)=lT (.list xs) (views T r):=rfl
@[simp] theorem Ky:d4 []=some []:=rfl
@[simp] theorem K5:d4 (.d x::r)=lT x (d4 r):=rfl
def sqK(mk:List N9->N9)(T:Tp):Option (List N9)->Option (W×Tp)
 |some xs=>if xs.length<=1000 then some (.d (mk xs),T) else none
 |none=>none
@[simp] theorem LB:aC mk a ρ T=bnd (a ρ T) fun ws T1=>sqK mk T1 (d4 ws):=rfl
@[simp] theorem MO:sqK mk T (some xs)=if xs.length<=1000 then some (.d (mk xs),T) else none:=rfl
def cbK(o:List N9->Option N9)(T:Tp)(v:Option (List N9)):Option (W×Tp):=match v with
 | some xs=>(match o xs with
  |some d=>some (.d d,T)
  | none=>none)
 |none=>none
@[simp] theorem NO:fCB o a ρ T=bnd (a ρ T) fun ws T1=>cbK o T1 (views T1 ws):=rfl
@[simp] theorem Ny:cbK o T (some xs)=mkD T (o xs):=rfl
@[simp] theorem Mr:aq m a ρ T=bnd (a ρ T) fun ws T1=>bnd (m ws T1) fun x T2=>some (.d x,T2):=rfl
@[simp] theorem Fu:bb it c f ρ T=bnd (it ρ T) fun ds T1=>bnd (bT c f ρ ds T1) fun ys T2=>some (.d (.list ys),T2):=rfl
def itK(T:Tp)(o:Option (List N9)):Option (List N9×Tp):=match o with
 |some xs=>some (xs,T)
 |none=>none
def itW:W->Tp->Option (List N9×Tp):=fun w T1=>match w with
 | .d x=>(match iQ x with
  |some xs=>some (xs,T1)
  | none=>none)
 |_=>none
@[simp] theorem Fs:aW f ρ T=bnd (f ρ T) itW:=rfl
@[simp] theorem HB:itW (.d x) T=itK T (iQ x):=rfl
@[simp] theorem HD:itK T (some xs)=some (xs,T):=rfl
@[simp] theorem B7:iQ (.list xs)=some xs:=rfl
@[simp] theorem Kx:iQ (.dict ds)=some (ds.map (·.1)):=rfl
@[simp] theorem Kv:iQ (.tuple xs)=some xs:=rfl
@[simp] theorem Kw:iQ (.str z)=if z.length<=Om then some (signs z) else none:=rfl
def zo:W->Tp->Option (List N9×Tp):=fun w T1=>match w with
 |.d (.int j)=>if lF j=true then some (cv 0 j.toNat,T1) else none
 |_=>none
@[simp] theorem LH:dE f ρ T=bnd (f ρ T) zo:=rfl
@[simp] theorem LG:zo (.d (.int j)) T=if lF j=true then some (cv 0 j.toNat,T) else none:=rfl
@[simp] theorem Nt:cA i it s ρ T=bnd (it ρ T) fun ds T1=>forL i s ds ρ T1:=rfl
@[simp] theorem MN:fh (.int i) (.int j)=some (.int (i-j)):=rfl
@[simp] theorem M7:cO (.int i) (.int j)=if 0<j then some (.int (i % j)) else none:=rfl
@[simp] theorem Ml:Jr (.int i) (.int j)=if 0<j/\j<1073741824 then some (.int (i / j)) else none:=rfl
@[simp] theorem MT:ij (.int i) (.int j)=if 0<=j/\j<=1000000/\i.natAbs<2^64 then some (.int (i^j.toNat)) else none:=rfl
@[simp] theorem NI:ltD (.int i) (.int j)=some (.bool (decide (i<j))):=rfl
@[simp] theorem NJ:leD (.int i) (.int j)=some (.bool (decide (i<=j))):=rfl
@[simp] theorem NM:gtD (.int i) (.int j)=some (.bool (decide (j<i))):=rfl
@[simp] theorem NN:geD (.int i) (.int j)=some (.bool (decide (j<=i))):=rfl
@[simp] theorem MD:aR (.int i) (.int j)=some (.int (i+j)):=rfl
@[simp] theorem MB:aR (.str u) (.str v)=if u.length+v.length<=Om then some (.str (u++v)) else none:=rfl
@[simp] theorem MA:aR (.tuple u) (.tuple v)=if u.length+v.length<=Om then some (.tuple (u++v)) else none:=rfl
@[simp] theorem MC:aR (.list u) (.list v)=if u.length+v.length<=Om then some (.list (u++v)) else none:=rfl
@[simp] theorem LS:b9 (.int i) (.int j)=if (-(2^64)<i/\i<2^64)\/(-(2^64)<j/\j<2^64) then some (.int (i*j)) else none:=rfl
@[simp] theorem LR:b9 (.str z) (.int k)=if 0<=k/\k<=2000/\z.length<=1000 then some (.str (Q4 z k)) else none:=rfl
@[simp] theorem Nv:eqD (.int i) (.int j)=some (.bool (decide (i=j))):=rfl
@[simp] theorem Nu:eqD (.str i) (.str j)=some (.bool (decide (i=j))):=rfl
@[simp] theorem Nw:eqD (.bool i) (.bool j)=some (.bool (decide (i=j))):=rfl
@[simp] theorem M5:neD (.int i) (.int j)=some (.bool (!decide (i=j))):=rfl
@[simp] theorem M4:neD (.str i) (.str j)=some (.bool (!decide (i=j))):=rfl
@[simp] theorem M6:neD (.bool i) (.bool j)=some (.bool (!decide (i=j))):=rfl
@[simp] theorem NK:isD x .none=some (.bool (isNone x)):=by cases x <;> rfl
@[simp] theorem K4:Hm (.bool i) (.bool j)=some (.bool (i != j)):=rfl
@[simp] theorem M3:dP (.int i)=some (.int (-i)):=rfl
@[simp] theorem Nn:aZ k x=some (.bool (bi (kd x) k)):=rfl
@[simp] theorem Nm:ixD (.list xs) (.int i)=atI xs i:=rfl
@[simp] theorem Nk:ixD (.tuple xs) (.int i)=atI xs i:=rfl
@[simp] theorem Nl:ixD (.str z) (.int i)=if z.length<=Om then (atI z.cps.toList i).map (fun c=>.str ⟨#[c]⟩) else none:=rfl
@[simp] theorem L1:aT [.list xs]=some (.int xs.length):=rfl
@[simp] theorem LZ:aT [.tuple xs]=some (.int xs.length):=rfl
@[simp] theorem L0:aT [.str z]=if z.length<=Om then some (.int z.length) else none:=rfl
@[simp] theorem NC:me [.int i]=some (.int (if i<0 then -i else i)):=rfl
@[simp] theorem Na:Jc [.int i,.int j]=some (.int (if j>i then j else i)):=rfl
@[simp] theorem M9:Ja [.int i,.int j]=some (.int (if j<i then j else i)):=rfl
@[simp] theorem Kl:dA [.list xs]=some (.tuple xs):=rfl
@[simp] theorem Kk:dA [.tuple xs]=some (.tuple xs):=rfl
@[simp] theorem KQ:dC [.list xs]=some (.list xs):=rfl
@[simp] theorem KP:dC [.tuple xs]=some (.list xs):=rfl
@[simp] theorem Ng:kd (.int i)=.int:=rfl
@[simp] theorem Ni:kd (.bool i)=.bl:=rfl
@[simp] theorem Nc:kd (.str i)=.str:=rfl
@[simp] theorem Nb:kd (.tuple i)=.tup:=rfl
@[simp] theorem Nf:kd (.list i)=.lst:=rfl
@[simp] theorem Nh:kd (.dict i)=.dct:=rfl
@[simp] theorem Nd:kd .none=.non:=rfl
end
theorem dz:∀{ds:List N9},(∀d∈ds,e (some (.d d)::ρ) T=some (.d (g d),T))->bT bx e ρ ds T=some (ds.map g,T)
 |[],_=>rfl
 |d::r,h=>by
  have ih:=dz (ds:=r) fun x hx=>h x (Ob _ hx);have h0:=h d Oc;unfold bT;simp[h0,ih]
theorem gf:∀{ds:List N9},(∀d∈ds,c (some (.d d)::ρ) T=some (p d,T))->bT c (aa 0) ρ ds T=some (ds.filter p,T)
 |[],_=>rfl
 |d::r,h=>by
  have ih:=gf (ds:=r) fun x hx=>h x (Ob _ hx);have h0:=h d Oc;unfold bT
  cases hp:p d with
  |false=>simp[h0,hp,ih]
  |true=>simp[h0,hp,ih]
theorem p8{P:Tp->Prop}{Q:N9->Prop}:∀{ds:List N9}{T:Tp},P T->(∀d∈ds,∀T,P T->∃y T',e (some (.d d)::ρ) T=some (.d y,T')/\P T'/\Q y)->∃ys T',bT bx e ρ ds T=some (ys,T')/\P T'/\ys.length=ds.length/\∀y∈ys,Q y
 |[],T,p,_=>⟨[],T,rfl,p,rfl,fun y hy=>by cases hy⟩
 |d::r,T,p,h=>by
  obtain⟨y,T1,e1,p1,q1⟩:=h d Oc T p;obtain⟨ys,T2,e2,p2,l2,q2⟩:=p8 (ds:=r) p1 fun x hx=>h x (Ob _ hx);refine⟨y::ys,T2,?_,p2,by simp[l2],fun z hz=>?_⟩
  .unfold bT
   simp[e1,e2]
  .rcases Oy.mp hz with k|k
   .subst k;exact q1
   .exact q2 z k
theorem pJ{α:Type}(p:α->Bool):∀l:List α,gy (l.map fun d=>.bool (p d))=some (l.map p)
 |[]=>rfl
 |d::r=>by
  show (gy (r.map fun d=>.bool (p d))).map (p d::·)=_;rw[pJ p r];rfl
theorem pX{α:Type}(p:α->Int):∀l:List α,gA (l.map fun d=>.int (p d))=some (l.map p)
 |[]=>rfl
 |d::r=>by
  show (gA (r.map fun d=>.int (p d))).map (p d::·)=_;rw[pX p r];rfl
theorem kA{α:Type}(p:α->Str):∀l:List α,dm (l.map fun d=>.str (p d))=some (l.map p)
 |[]=>rfl
 |d::r=>by
  show (dm (r.map fun d=>.str (p d))).map (p d::·)=_;rw[kA p r];rfl
@[simp] theorem HG{α:Type}(p:α->Bool)(l:List α):ip [.list (l.map fun d=>.bool (p d))]=some (.bool (l.all p)):=by
 show (gy _).map (fun bs=>SG (bs.all id))=_;rw[pJ,RX,WU];rfl
@[simp] theorem MM{α:Type}(p:α->Int)(l:List α):lV [.list (l.map fun d=>.int (p d))]=some (.int (l.map p).sum):=by
 show (gA _).map (fun bs=>P7 bs.sum)=_;rw[pX,RX]
@[simp] theorem LW{α:Type}(p:α->Int)(l:List α)(k:Int):Jb (.list (l.map fun d=>.int (p d))) (.int k)=some (.int (K1.i9 k (l.map p))):=by
 show (gA _).map (fun bs=>P7 (K1.i9 k bs))=_;rw[pX,RX]
def rf(y:Str):N9->Bool
 |.str z=>jc y z
 |_=>false
theorem Dd(y:Str)(c:Nat):jc y ⟨#[c]⟩=decide (c∈y.cps.toList):=StrLaws.found_one ..
@[simp] theorem Np:inD (.str x) (.str y)=some (.bool (jc y x)):=rfl
theorem Br(h:d∈D.signs x):∃c,c∈x.cps.toList/\d=.str ⟨#[c]⟩:=by
 obtain⟨c,hc,rfl⟩:=Ot.mp h;exact⟨c,hc,rfl⟩
section
variable {X:Cx}
def El:N9->N9->Option N9
 |.str z,.str y=>some (.bool (V3 z y))
 |_,_=>none
theorem uH(h:view T w=some (.str z)):w=.d (.str z):=by
 cases w with
 |d x=>cases h;rfl
 |tp k=>
  have h':(T[k]?).bind i8=some (OG z):=h
  cases hk:T[k]? with
  |none=>rw[hk] at h';cases h'
  |some xs=>
   rw[hk] at h';have e2:(if isO xs=true then none else some (QK xs))=some (OG z):=h'
   split at e2 <;> cases e2
 |loc zs=>cases zs <;> cases h
theorem Cj:CallR X (.type "int") (fun xs H Q=>∃x n,xs=[.str x]/\Ua x=some n/\x.length<=640/\Q (.int n) H):=by
 intro pins s σ H xs us Q I r h;obtain⟨x,n,rfl,hn,hl,q⟩:=h;obtain⟨u,rfl,ru⟩:=vals1 r;obtain⟨t,rfl⟩:=ru;exact PySem.W.KIN.call_text hn hl ⟨.int n,H,I.tok _,⟨_,rfl⟩,q⟩
def intD:List N9->Option N9
 |[.int i]=>some (.int i)
 |[.bool b]=>some (.int (if b then 1 else 0))
 |[.str x]=>if x.length<=640 then (Ua x).map .int else none
 |_=>none
theorem ic:d6 X (.type "int") intD:=⟨_,call_int1.or Cj,fun O ts H T vs xs d Q hc h e q=>by
 unfold intD at e;split at e
 .cases e
  obtain⟨v,rfl,g⟩:=cJ h;cases g.int;exact .inl (.inl ⟨_,rfl,q _ H (.refl _ _) hc (.int _)⟩)
 .cases e
  obtain⟨v,rfl,g⟩:=cJ h;cases g.bl;exact .inl (.inr ⟨_,rfl,q _ H (.refl _ _) hc (.int _)⟩)
 .split at e
  .rename_i hz
   obtain⟨n,e1,rfl⟩:=OY.mp e;obtain⟨v,rfl,g⟩:=cJ h;cases g.str;exact .inr ⟨_,n,rfl,e1,hz,q _ H (.refl _ _) hc (.int _)⟩
  .cases e
 .cases e⟩
end
@[simp] theorem Km:El (.str z) (.str y)=some (.bool (V3 z y)):=rfl
@[simp] theorem Ma:intD [.str x]=if x.length<=640 then (Ua x).map .int else none:=rfl
@[simp] theorem Mb:intD [.int i]=some (.int i):=rfl
@[simp] theorem Mc:intD [.bool b]=some (.int (if b then 1 else 0)):=rfl
def eqG(x y:N9):Option PyData:=if OL x=true/\OL y=true then some (.bool (OP x y)) else none
def neG(x y:N9):Option PyData:=if OL x=true/\OL y=true then some (.bool (!PyData.eqv x y)) else none
section
variable {X:Cx}
theorem Vw.reads(I:Inv X pins σ H s)(h:Vw X.K O H v d)(r:RelV v u):∃as,WI s.heap u d as:=by
 cases h with
 |rep h=>obtain⟨as,rd,_⟩:=h.reads I r;exact⟨as,rd⟩
 |raw h hs=>
  cases r;obtain⟨its,rv,pl,_⟩:=I.list (SqL.of h);obtain⟨o,n,e,c,_,dd⟩:=pl;obtain⟨as,rd,_⟩:=hs.reads I rv;exact⟨_,.list e c dd (by simpa using rd)⟩
 |rawD h rk=>
  cases r;obtain⟨z,y,vs,kv,o,es,ep,e,ed,dd,_,ek,_⟩:=(show ObjOk X.prog X.w H s.heap _ (.dK _) from I.hok _ _ h);obtain⟨bs,q1,q2,f⟩:=RepK.reads I rk kv ek;exact⟨_,.dict (as:=[]) (bs:=bs) e ed.1 dd q1 q2⟩
theorem G5(hr:Room k X.A):OpR X (OM .Eq) (fun x y H Q=>∃O d1 d2,Vw X.K O H x d1/\Vw X.K O H y d2/\OL d1=true/\OL d2=true/\Q (.bl (OP d1 d2)) H):=by
 intro pins s σ H x y v u Q I rx ry h;obtain⟨O,d1,d2,h1,h2,s1,s2,q⟩:=h;obtain⟨as,r1⟩:=h1.reads I rx;obtain⟨bs,r2⟩:=h2.reads I ry;exact SeqAt.compareEq_shaped r1 r2 s1 s2 (by have:=hr.un;omega) ⟨.bl _,H,I,rfl,q⟩
theorem GZ(hr:Room k X.A):OpR X (OM .NotEq) (fun x y H Q=>∃O d1 d2,Vw X.K O H x d1/\Vw X.K O H y d2/\OL d1=true/\OL d2=true/\Q (.bl (!PyData.eqv d1 d2)) H):=by
 intro pins s σ H x y v u Q I rx ry h;obtain⟨O,d1,d2,h1,h2,s1,s2,q⟩:=h;obtain⟨as,r1⟩:=h1.reads I rx;obtain⟨bs,r2⟩:=h2.reads I ry;exact SeqAt.compareNe_shaped r1 r2 s1 s2 (by have:=hr.un;omega) ⟨.bl _,H,I,rfl,q⟩
theorem iZ(hr:Room k X.A):OpD X (OM .Eq) eqG:=⟨_,G5 hr,fun O ts H T v1 v2 x y d Q hc h1 h2 e q=>by
 unfold eqG at e;split at e
 .rename_i h
  cases e;exact⟨O,x,y,h1,h2,h.1,h.2,q _ H (.refl _ _) hc (.bl _)⟩
 .cases e⟩
theorem lH(hr:Room k X.A):OpD X (OM .NotEq) neG:=⟨_,GZ hr,fun O ts H T v1 v2 x y d Q hc h1 h2 e q=>by
 unfold neG at e;split at e
 .rename_i h
  cases e;exact⟨O,x,y,h1,h2,h.1,h.2,q _ H (.refl _ _) hc (.bl _)⟩
 .cases e⟩
open Classical in
def jd(h:Heap)(x:N9)(v:Oa):Bool:=if e:∃p:N9×List Addr,WI h v p.1 p.2 then OP e.choose.1 x else false
theorem nE(r:WI h v d as):jd h x v=OP d x:=by
 have e:∃p:N9×List Addr,WI h v p.1 p.2:=⟨(d,as),r⟩;unfold jd;rw[dif_pos e];have:=(PySem.Reads.unique e.choose_spec d as r).1;rw[this]
theorem vn:∀{vs:List Oa}{ds:List N9}{as:List Addr},T9 h vs ds as->vs.any (jd h x)=ds.any fun d=>OP d x
 |_,_,_,.nil=>rfl
 |_,_,_,.cons r rs=>by rw[PU,PU,nE r,vn rs]
theorem readsAll_mem:∀{vs:List Oa}{ds:List N9}{as:List Addr}{v:Oa},T9 h vs ds as->v∈vs->∃d bs,d∈ds/\WI h v d bs
 |_,_,_,_,.cons r rs,hm=>by
  rcases Oy.mp hm with z|z
  .subst z;exact⟨_,_,Oc,r⟩
  .obtain⟨d,bs,h1,h2⟩:=readsAll_mem rs z
   exact⟨d,bs,Ob _ h1,h2⟩
def inG:N9->N9->Option N9
 |x,.tuple ys=>if OL x=true/\ys.all OL=true then some (.bool (ys.any fun y=>OP y x)) else none
 |_,_=>none
theorem G4(hr:Room k X.A):OpR X (OM .In) (fun x y H Q=>∃O d1 a vs ds,Vw X.K O H x d1/\y=.ref a/\SqT X.K H a vs/\Reps X.K O H vs ds/\OL d1=true/\ds.all OL=true/\Q (.bl (ds.any fun y=>OP y d1)) H):=by
 intro pins s σ H x y v u Q I rx ry h;obtain⟨O,d1,a,vs,ds,h1,rfl,h2,h3,s1,s2,q⟩:=h;cases ry;obtain⟨as,r1⟩:=h1.reads I rx;obtain⟨its,rv,p1,_⟩:=I.tuple h2;obtain⟨bs,r2,_⟩:=h3.reads I rv;refine Vl (jd s.heap d1) p1 (fun y hy=>?_) ?_
 .obtain⟨d,cs,hd,rd⟩:=readsAll_mem r2 (by simpa using hy)
  rw[nE rd];have sd:=Oz.mp s2 d hd;refine Vo d d1 _ s y v _ _ rd r1 (QP sd) (QP s1) (Ub sd ?_);have:=hr.un;show X.A.in1.units+64<TY
  have e:X.A.in1.units<=X.A.units+1:=by simp[V4]
  omega
 .have e:its.toArray.any (jd s.heap d1)=ds.any fun y=>OP y d1:=by
   rw[←vn r2];simp
  rw[e];exact⟨.bl _,H,I,rfl,q⟩
theorem IW(hr:Room k X.A):OpD X (OM .In) inG:=⟨_,G4 hr,fun O ts H T v1 v2 x y d Q hc h1 h2 e q=>by
 unfold inG at e;split at e
 .split at e
  .rename_i h
   cases e;obtain⟨a,vs,rfl,t,r⟩:=h2.tup;exact⟨O,x,a,vs,_,h1,rfl,t.sq,r,h.1,h.2,q _ H (.refl _ _) hc (.bl _)⟩
  .cases e
 .cases e⟩
end
theorem BI(l:Addr)(items:Array Oa)(n:Nat)(b:Addr)(items2:Array Oa)(n2:Nat)(dd:Option Addr)(sl:Array (Option Oa))(hc0:¬(!items.isEmpty&&QB (items.size+items2.size))=true)(hc1:items.size<=Om)(hs2:items.size+items2.size<=Om+1) :
  Meets (R8.«list.extend» ⟨[.ref l,.ref b],[]⟩) (fun _ R s=>s.heap.get? l=some { cls:=.type "list",dict:=none,data:=.seq items n,slots:=#[] }/\s.heap.get? b=some { cls:=.type "list",dict:=dd,data:=.seq items2 n2,slots:=sl }/\R (.ok (.ret Sd)) { s with heap:=s.heap.update l (Sr fun x=>x++items2),toks:=s.toks }):=
 .of_wp fun prog w A R s h=>by
  obtain⟨hp,g,d,tk,os⟩:=s;obtain⟨hl,hb,h⟩:=h;have f1:=AutoSeq1.idx_int;have f2:=AutoSeq1.sub_tuple_tuple;have f3:=AutoSeq1.sub_list_list;have f4:=AutoSeq1.sub_tuple_list;have f5:=AutoSeq1.sub_list_tuple
  have hz':(items++items2).size<=Om+1:=by rw[Array.size_append];exact hs2
  wp_walk using(wpAny_updateSeq hl rfl (hz:=hc1) (_hz':=hz')),VI hl,VI hb;exact⟨_,rfl,h⟩
section
variable {X:Cx}
theorem G9:MtM X "list.extend" (fun x vs H Q=>∃l b xs zs,x=.ref l/\vs=[.ref b]/\H l=some (.lst xs)/\SqL X.K H b zs/\xs.length+zs.length<=Om/\Q .non (upd H l (.lst (xs++zs)))):=by
 intro pins s σ H x vs v us Q I rx rv h;obtain⟨l,b,xs,zs,rfl,rfl,hH,hB,hz,q⟩:=h;cases rx;obtain⟨u,rfl,ru⟩:=rv.one;cases ru;obtain⟨z,its,n,r,hl,e⟩:=I.lstM hH;obtain⟨its2,r2,pl,_⟩:=I.list hB;obtain⟨⟨cls2,dd2,data2,sl2⟩,n2,e2,c2,_,d2⟩:=pl;simp only at c2 d2;subst c2 d2;have hl2:=r2.length
 have hsz:its.toArray.size+its2.toArray.size<=sizeLine:=by rw[Os,Os];omega
 have hlong:¬(!its.toArray.isEmpty&&QB (its.toArray.size+its2.toArray.size))=true:=by
  rw[CP hsz,Bool.and_false];exact Ox
 refine QC F.slot_list_extend ⟨_,e,rfl⟩ F.entry_list_extend (F.args_list_extend_2 _ _)
  (BI l its.toArray n b its2.toArray n2 dd2 sl2 hlong (by rw[Os];omega) (by omega)) ⟨e,e2,?_⟩
 refine⟨.non,_,I.lset (its':=its++its2) hH e (by simp) (r.append r2) ?_,rfl,q⟩;rw[OE];omega
variable {pos:Pos}{e:Expr}{fe:FE}
def l7(i:Nat)(f:FE):FS:=fun ρ T=>bnd (f ρ T) fun w T1=>match w,ρ[i]? with
 |.d (.list ys),some (some (.loc (.list xs)))=>if xs.length+ys.length<=Om then some ((.nx,ρ.set i (some (.loc (.list (xs++ys))))),T1) else none
 |_,_=>none
theorem HL(he:DE X e fe)(hN:X.N[i]? = some x:=by rfl)(hv:Vis X.env.scope x:=by first|exact Pc rfl|exact OW (Pc rfl)|exact OW (OW rfl))(hd:(x == ("__debug__" : Str))=false:=by decide)
  (hcd:(x == ("__classdict__" : Str))=false:=by decide) 
  (hbase:Pa (.Name x p) "extend" X.env (eval (.Name x p) X.env)=eval (.Name x p) X.env:=by rfl)
  (hfew:((Pb cpos (Oh [e] X.env)).all (fun x=>!x.1)&&(Qo cpos (PF [] X.env)).all (fun x=>x.1.isSome)
   && decide (([e]:List Expr).length+([]:List Pq).length+(if ([]:List Pq).isEmpty then 0 else 1)<30))=true:=by exact f9 rfl)
  (hline:(apos.endLine == cpos.line)=true:=by rfl) (hse:Oh [e] X.env=(false,eval e X.env)::Oh [] X.env:=by exact bf rfl) (hplain:(Pb cpos (Oh [] X.env)).any (·.1)=false:=by exact bR rfl)
  (hs:Pm (.Call (.Attribute (.Name x p) "extend" apos) [e] [] cpos) none pos.line X.env=pure false:=by rfl) :
  DS X (.Expr (.Call (.Attribute (.Name x p) "extend" apos) [e] [] cpos) pos) (l7 i fe):=by
 refine⟨?_⟩;refine bF (jx (g7 Pi PySem.F.slot_list_extend PySem.F.type_list_extend G9 (pv i hN hv hd hcd) (bY he.pe b7 hse) hbase hfew hline hse hplain) hs) fun D σ H=>?_;rintro⟨O₀,H₀,F,ts,O,ρ,T,fl,ρ',T',rs,e,q⟩;obtain⟨w,T1,e1,e⟩:=aJ e;split at e
 .rename_i ys xs h1
  split at e
  .rename_i h2
   cases e;obtain⟨v,k1,a,rfl,k2,k3,vs,k4,k5⟩:=rs.re i _ h1;refine⟨_,k1,.inl ⟨rfl,vs,SqL.of k4⟩,O,ts,ρ,T,_,_,rs.hc,rs.re,e1,fun u H1 s1 hc1 r1=>?_⟩;have rs1:=rs.step s1 hc1;have r1':Rep X.K O H1 u (.list ys):=r1
   cases r1' with
   |lst t r=>
    rename_i b us;exact⟨a,b,vs,us,rfl,rfl,s1 _ _ k3 k4,t.sq,by rw[k5.length,r.length];exact h2,q O _ _ (rs1.put (us:=[]) h1 k1 ((k5.mono (rs.hc.le s1)).append r))⟩
  .cases e
 .cases e
end
section
variable {X:Cx}{pos:Pos}{e:Expr}{f:FE}{x:Str}{p:Pos}{B:List (Str×Int)}
end
end D
namespace L2
open K1 (kW i9)
section
variable {prog:OB}{w:OV}{A:O5}{R:WO->Od->Prop}{it S:Addr}{fp wr:List Addr}{P:Nat->Oa->Prop}{St:Nat->Heap->Prop}{ns:List Int}{kw:List (Str×Oa)}
end
section
variable {X:Cx}
end
end L2
namespace D
open L2
section
variable {X:Cx}{pos:Pos}{e:Expr}{f:FE}{x:Str}{p:Pos}
variable {B:List (Str×Int)}
def m9:List Oa->List Str->Bool
 |[],[]=>true
 |.str x _::r,y::s=>decide (x=y)&&m9 r s
 |_,_=>false
def ju(look:Addr->Option Obj)(a:Addr)(ss:List Str):Bool:=match look a with
 |some ⟨.type n,_,.seq its _,_⟩=>decide (n="tuple")&&m9 its.toList ss
 |_=>false
def zL(K:Frag)(mg:Str->Option Oa)(x:Str)(ss:List Str):Prop:=∃a,mg x=some (.ref a)/\ju (fun b=>K.lookup b) a ss=true
theorem ud:∀{vs:List Oa}{ss:List Str},m9 vs ss=true->Vals (ss.map V.str) vs
 |[],[],_=>.nil
 |.str x t::r,y::s,h=>by
  have h':(decide (x=y)&&m9 r s)=true:=h;rw[Oj] at h';exact .cons ⟨t,by rw[of_decide_eq_true h'.1]⟩ (ud h'.2)
theorem kB{K:Frag}{O:Addr->Prop}{H:Hp}:∀ss:List Str,Reps K O H (ss.map V.str) (ss.map OG)
 |[]=>.nil
 |x::r=>.cons (.str x) (kB r)
theorem DJ(hg:Gl X x)(ht:zL X.K X.mg x ss)(hz:ss.length<=sizeLine:=by decide)(hd:(x == ("__debug__" : Str))=false:=by decide):DE X (.Name x p) (fC (.tuple (ss.map OG))):=by
 obtain⟨a,hx,hl⟩:=ht;refine⟨?_⟩;refine bC (qD (v:=.ref a) hg hx rfl hd) (gU fun O H=>?_);unfold ju at hl;split at hl
 .rename_i n dd its c sl hk
  rw[Oj] at hl;have rv:=ud hl.2;have hn:=of_decide_eq_true hl.1;subst hn;refine .tup (vs:=ss.map V.str) (.inr (.inr ⟨_,its,c,hk,rfl,rfl,?_,rv⟩)) (kB ss);have:=rv.length;rw[OS] at this;have e2:its.toList.length=its.size:=Pp;omega
 .cases hl
def sy(o:Obj)(ss:List Str):Bool:=ju (fun _=>some o) 0 ss
theorem Bn{K:Frag}(h:K.lookup a=some o)(g:sy o ss=true):ju (fun b=>K.lookup b) a ss=true:=by
 unfold sy ju at g;unfold ju;dsimp only;rw[h];exact g
end
mutual
def bh:N9->Bool
 |.tuple ds=>bM ds
 |.list _=>false
 |.dict _=>false
 |_=>true
def bM:List N9->Bool
 |[]=>true
 |d::r=>bh d&&bM r
end
section
variable {K:Frag}{O:Addr->Prop}{H:Hp}
theorem TupAt.own(hm:∀b,O b->Mut (H b))(t:TupAt K (fun _=>False) H a vs):TupAt K O H a vs:=by
 rcases t with⟨_,t⟩|t
 .refine .inl ⟨fun z=>?_,t⟩
  rcases hm a z with⟨us,e⟩|⟨us,e⟩|⟨C,dx,us,e⟩ <;> rcases t with t|⟨o,t⟩ <;> (rw[e] at t;cases t)
 .exact .inr t
mutual
theorem Rep.own(hm:∀b,O b->Mut (H b)):∀{v:V}{d:N9},Rep K (fun _=>False) H v d->bh d=true->Rep K O H v d
 |_,_,.non,_=>.non
 |_,_,.bl b,_=>.bl b
 |_,_,.int i,_=>.int i
 |_,_,.str x,_=>.str x
 |_,_,.tup t r,h=>.tup (t.own hm) (Reps.own hm r (by simpa[bh] using h))
 |_,_,.lst t r,h=>by simp[bh] at h
 |_,_,.dct n t r,h=>by simp[bh] at h
theorem Reps.own(hm:∀b,O b->Mut (H b)):∀{vs:List V}{ds:List N9},Reps K (fun _=>False) H vs ds->bM ds=true->Reps K O H vs ds
 |_,_,.nil,_=>.nil
 |_,_,.cons (d:=d) (ds:=ds) r t,h=>by
  have h':(bh d&&bM ds)=true:=by simpa[bM] using h
  rw[Oj] at h';exact .cons (Rep.own hm r h'.1) (Reps.own hm t h'.2)
end
end
def lX:List W->Bool
 |[]=>true
 |.tp _::_=>false
 |.loc (.dict _)::_=>false
 |_::r=>lX r
theorem sE{K:Frag}{O:Addr->Prop}{ts:List Addr}{H:Hp}:∀{vs:List V}{ws:List W},ie K O ts H vs ws->lX ws=true->ie K (fun _=>False) [] H vs (ws.map kb)
 |_,[],.nil,_=>.nil
 |_,.d x::r,.cons h t,e=>.cons (show Rep K (fun _=>False) H _ x from Rep.mono (fun a o n e=>⟨fun z=>z,e⟩) h) (sE t e)
 |_,.tp _::_,.cons _ _,e=>by cases e
 |_,.loc x::r,.cons h t,e=>by
  have le:Le O H (fun _=>False) H:=fun a o n e=>⟨fun z=>z,e⟩;obtain⟨a,rfl,_,_,h3⟩:=h
  cases x with
  |list xs=>obtain⟨vs,h1,h2⟩:=h3;exact .cons (.lst (.inl ⟨fun z=>z,.inl h1⟩) (h2.mono le)) (sE t e)
  |dict xs=>cases e
  |_=>cases h3
def jR(m:FnM)(g:FA):FE:=fun ρ T=>bnd (g ρ T) fun ws T1=>if lX ws=true then (match m (ws.map kb) [] with
 |some (x,_)=>if bh x=true then some (.d x,T1) else none
 | none=>none) else none
theorem vA(F:Fn X.prog X.w X.K X.mg X.base name ps k (spM X.K ps.length m))(hr:Room k X.A)(hg:Gl X name)(ha:DA X (e::es) g)(hl:jf g ps.length)(hdb:(name == ("__debug__" : Str))=false:=by decide)
  (he:Oh (e::es) X.env=(false,eval e X.env)::Oh es X.env:=by exact bf rfl) (hpl:(Pb pos (Oh es X.env)).any (·.1)=false:=by exact bR rfl):DE X (.Call (.Name name p) (e::es) [] pos) (jR m g):=by
 refine⟨?_⟩;refine bC (ot F hr hg ha.pe hdb he hpl) fun σ H Q=>?_;rintro⟨O,ts,ρ,T,w,T',hc,re,e,q⟩;obtain⟨ws,T1,e1,e⟩:=aJ e;split at e
 .rename_i hn
  split at e
  .rename_i x T2 e2
   split at e
   .rename_i hx
    cases e;refine⟨O,ts,ρ,T,ws,_,hc,re,e1,fun vs H1 s1 hc1 r1=>?_⟩;refine⟨fun _=>False,[],[],ws.map kb,x,T2,⟨fun b hb=>(by cases hb),fun b hb=>hb.elim,Q0,rfl,fun i a xs e1 _=>by simp at e1⟩,by rw[PV];exact sE r1 hn,by rw[OS];exact hl _ _ _ _ e1,e2,fun v H2 s2 hc2 r2=>?_⟩;have s2':SameX ts H1 H2:=fun b o _ q=>s2 b o (by simp) q
    have hm:∀b,O b->Mut (H2 b):=fun b hb=>by
     exact(hc1.trk b hb).to fun u z=>s2 b _ (by simp) z
    have hc2':=hc1.step s2' fun b hb=>by
     obtain⟨u,z⟩:=(hc1.trk b (hc1.own b hb)).ex;rw[z];exact s2 b _ (by simp) z
    exact q v H2 (s1.trans s2') hc2' (Rep.own hm r2 hx)
   .cases e
  .cases e
 .cases e
def ao(ds:List (N9×N9))(s:Str):Option PyData:=match ds with
 |[]=>none
 |(.str k,d)::r=>if k=s then some d else ao r s
 |_::r=>ao r s
theorem gP{K:Frag}{O:Addr->Prop}{H:Hp}{s:Str}:∀{kvs:List (Key×V)}{ds:List (N9×N9)},RepK K O H kvs ds->(ao ds s=none/\bQ kvs (OT s:Key)=none)\/∃v d,ao ds s=some d/\bQ kvs (OT s:Key)=some v/\Rep K O H v d
 |_,_,.nil=>.inl ⟨rfl,rfl⟩
 |_,_,.cons (k:=.inl i) (v:=v) (d:=d) (kvs:=kvs) (ds:=ds) r t=>by
  have e:bQ (((Ru i:Key),v)::kvs) (OT s:Key)=bQ kvs (OT s:Key):=by simp[bQ,PX]
  rw[e];show (ao ds s=none/\_)\/∃v d,ao ds s=some d/\_;exact gP (s:=s) t
 |_,_,.cons (k:=.inr k) (v:=v) (d:=d) (kvs:=kvs) (ds:=ds) r t=>by
  by_cases hk:k=s
  .subst hk
   exact .inr ⟨v,d,by show (if k=k then some d else ao ds k)=some d;rw[if_pos rfl],by simp[bQ,PX],r⟩
  .have e:bQ (((OT k:Key),v)::kvs) (OT s:Key)=bQ kvs (OT s:Key):=by simp[bQ,PX,hk]
   have e2:ao ((dH (OT k:Key),d)::ds) s=ao ds s:=by show (if k=s then some d else ao ds s)=_;rw[if_neg hk]
   rw[e,e2];exact gP (s:=s) t
theorem DGet.rd(e:Rd H a (.dK kvs)):DGet H a (kV k) (bQ kvs k):=.inl ⟨kvs,k,e,rfl,rfl⟩
section
variable {X:Cx}{pos:Pos}{k:Nat}
theorem lM(hr:Room k A):A.units+1<cLine:=by have:=hr.un;omega
end
section
variable {K:Frag}{O₀:Addr->Prop}{H₀:Hp}{F:List ((Addr->Prop)×Hp)}{ts:List Addr}{O:Addr->Prop}{H H1:Hp}{σ:L2.St}{ρ:Rho}{T T1:Tp}
end
section
variable {X:Cx}{pos:Pos}
def cq(ds:List (N9×N9))(s:Str)(x:N9):List (N9×N9):=match ds with
 |[]=>[]
 |(.str k,d)::r=>if k=s then (.str k,x)::cq r s x else (.str k,d)::cq r s x
 |p::r=>p::cq r s x
theorem pU{K:Frag}{O:Addr->Prop}{H:Hp}{s:Str}{v:V}{x:N9}(rx:Rep K O H v x):∀{kvs:List (Key×V)}{ds:List (N9×N9)},RepK K O H kvs ds->RepK K O H (kvs.map fun kv=>if kv.1=(OT s:Key) then (kv.1,v) else kv) (cq ds s x)
 |_,_,.nil=>.nil
 |_,_,.cons (k:=.inl i) r t=>by
  rw[OJ];rw[if_neg (by intro z;cases z)];exact .cons (k:=.inl i) r (pU rx t)
 |_,_,.cons (k:=.inr k) (v:=u) (d:=d) (kvs:=kvs) (ds:=ds) r t=>by
  rw[OJ];have ih:=pU (s:=s) rx t;show RepK K O H _ (if k=s then (.str k,x)::cq ds s x else (.str k,d)::cq ds s x)
  by_cases hk:k=s
  .rw[if_pos hk,if_pos (by rw[hk])]
   exact .cons (k:=.inr k) rx ih
  .rw[if_neg hk,if_neg (fun z=>hk (Vs z))]
   exact .cons (k:=.inr k) r ih
theorem uZ{K:Frag}{O:Addr->Prop}{H:Hp}:∀{kvs:List (Key×V)}{ds:List (N9×N9)},RepK K O H kvs ds->kvs.length=ds.length
 |_,_,.nil=>rfl
 |_,_,.cons _ t=>congrArg (· + 1) (uZ t)
theorem Bg{kvs:List (Key×V)}(h:(bQ kvs k).isSome=true):(kvs.any fun kv=>decide (kv.1=k))=true:=by
 unfold bQ at h;rw[RE] at h;rw[P8];obtain⟨p,hp⟩:=Q8.mp h;exact⟨p,List.mem_of_find?_eq_some hp,by have:=List.find?_some hp;simpa using this⟩
end
section
variable {X:Cx}{pos:Pos}{e:Expr}{f:FE}{x:Str}{p:Pos}{B:List (Str×Str)}
def l6(i j:Nat)(f:FE):FS:=fun ρ T=>bnd (f ρ T) fun w T1=>match w with
 |.d (.tuple [x,y])=>some ((.nx,(ρ.set i (some (.d x))).set j (some (.d y))),T1)
 |_=>none
theorem xV(hN:X.N.Nodup)(he:DE X e f)(hi:X.N[i]? = some x:=by rfl)(hj:X.N[j]? = some y:=by rfl)(hx:Loc X.env.scope x:=by first|exact Pc rfl|exact OW rfl)(hy:Loc X.env.scope y:=by first|exact Pc rfl|exact OW rfl)
  (hf:X.fn x=true\/X.env.scope.names.lookup x=some .local:=by first|exact .inl rfl|exact .inr rfl|assumption) (hf':X.fn y=true\/X.env.scope.names.lookup y=some .local:=by first|exact .inl rfl|exact .inr rfl|assumption) (hc:X.calm=true:=by rfl)
  (hs:Uy [.Tuple [.Name x px,.Name y py] k tp] e pos.line X.env=pure false:=by rfl) (hw:Uz [.Tuple [.Name x px,.Name y py] k tp] e X.env=pure none:=by rfl)
  (h1:(Rj [.Tuple [.Name x px,.Name y py] k tp] X.env).map (·.2)=[SK (.Tuple [.Name x px,.Name y py] k tp) X.env]:=by rfl):DS X (.Assign [.Tuple [.Name x px,.Name y py] k tp] e pos) (l6 i j f):=by
 refine⟨?_⟩;refine bF (xi he.pe (rB hc (iH (fK hN hi hx hf) (iH (fK hN hj hy hf') qC))) hs hw h1) fun D σ H=>?_;rintro⟨O₀,H₀,F,ts,O,ρ,T,fl,ρ',T',rs,e,q⟩;obtain⟨w,T1,e1,e⟩:=aJ e;refine⟨O,ts,ρ,T,w,T1,rs.hc,rs.re,e1,fun v H1 s1 hc1 r1=>?_⟩;split at e
 .rename_i a b
  cases e;have rs1:=rs.step s1 hc1;have r1':Rep X.K O H1 v (.tuple [a,b]):=r1
  cases r1' with
  |tup t r=>
   cases r with
   |cons ra r=>
    cases r with
    |cons rb r=>
     cases r;exact⟨_,_,rfl,t.sq,rfl,_,_,rfl,_,_,rfl,rfl,q O _ _ ((rs1.set (w:=.d a) ra fun _ z=>nomatch z).set (w:=.d b) rb fun _ z=>nomatch z)⟩
 .cases e
end
section
variable {K:Frag}{O:Addr->Prop}{ts:List Addr}{H H':Hp}{T:Tp}{n:Nat}{a C:Addr}{ps:List N9}
end
section
variable {X:Cx}{C:Addr}{o e:Expr}{f m:Str}{pos pos' apos:Pos}{fo fe:FE}
structure Mth(P:OB)(w:OV)(K:Frag)(mg:Str->Option Oa)(base:Heap)(C:Addr)(m:Str)(ps:List Str)(k:Nat)(sp:Sp):Prop where
 ex:∃f fd,FnOk P w K mg base CX0 k f fd ps sp/\Binds K fd ps []/\Meth K C m f
variable {ps:List Str}{k:Nat}{mm:FnM}{g:FA}{es:List Expr}{pl:Sem Bool}
end
def lJ(T:Tp):Option (Tp×List N9):=match T.getLast? with
 |some xs=>some (T.dropLast,xs)
 |none=>none
theorem C6(h:lJ T=some (T1,ys)):T=T1++[ys]:=by
 unfold lJ at h;split at h
 .rename_i xs e
  cases h;obtain⟨zs,hl⟩:=List.getLast?_eq_some_iff.mp e;rw[hl];simp
 .cases h
def nU:Rho->Bool
 |[]=>true
 |none::r=>nU r
 |some (.d _)::r=>nU r
 |_::_=>false
section
variable {X:Cx}{C f:Addr}{e:Expr}{fe:FE}{fr:FS}{rest:List Stmt}{cn x:Str}{p pos pos' cpos:Pos}{ps:List Str}{k i:Nat}{m:FnM}{fd:PZ}
end
end D
namespace L2
section
variable {X:Cx}
theorem t7:∀(l:List (Str×Tok)),Vals ((l.map (·.1)).map V.str) (WJ l)
 |[]=>.nil
 |p::r=>.cons ⟨p.2,rfl⟩ (t7 r)
theorem CV:MtR X "str.split" (fun x vs H Q=>∃z y:Str,x=.str z/\vs=[.str y]/\(y.length == 0)=false/\z.length+2<=Om/\∀l,H l=none->Q (.ref l) (upd H l (.lst ((QI z y).map V.str)))):=by
 intro pins s σ H x vs v us Q I rx rv h;obtain⟨z,y,rfl,rfl,hy,hz,q⟩:=h;obtain⟨t,rfl⟩:=rx;obtain⟨u,rfl,ru⟩:=vals1 rv;obtain⟨t',rfl⟩:=ru
 have np:(Qc z (Pd z y 0 z.length (z.length+1)) y.length).length<=sizeLine:=by
  have o1:=StrLaws.occ_length_le z y 0 z.length (z.length+1);rw[length_partsBetween];omega
 have fin:∀(l:List (Str×Tok)) (k:Nat),l.map (·.1)=QI z y->l.length<=Om->EP X pins σ Q (.ref s.heap.objs.size) { s with toks:=k,heap:=s.heap.push { cls:=.type "list",data:=.seq (WJ l).toArray } }:=fun l k e hl=>by
  have hn:((QI z y).map V.str).length<=sizeLine:=by rw[←e];simpa using hl
  refine⟨.ref s.heap.objs.size,_,I.laid (t':=k) (fun b o w=>Of _ w) (Ol _) (show ObjOk X.prog X.w _ _ _ (.lst ((QI z y).map V.str)) from⟨hn,WJ l,0,?_,OC _ rfl⟩),rfl,q _ (I.hok.fresh (Ol _))⟩;rw[←e];exact t7 l
 cases c1:(decide (z.length<y.length)||decide (Uw z<Uw y))
 .cases c2:(Pd z y 0 z.length (z.length+1)).isEmpty
  .refine QC QQ (Sq _ _ _) Rt (Rb _ _) (meets_str_split_sep z y t t' c1 hy c2 (by omega) np) ?_
   show wants _ _ _ { s with toks:=_,heap:=s.heap.push { cls:=.type "list",data:=.seq (strsFrom s.toks (Qc z (Pd z y 0 z.length (z.length+1)) y.length)).toArray } };rw[strsFrom_eq];have e:(numbered s.toks (Qc z (Pd z y 0 z.length (z.length+1)) y.length)).map (·.1)=QI z y:=(numbered_texts s.toks (Qc z (Pd z y 0 z.length (z.length+1)) y.length)).trans ((if_neg (ne_true_of_eq_false c1)).trans (if_neg (ne_true_of_eq_false c2))).symm;refine fin (numbered s.toks _) _ e ?_;have e2:=congrArg SE (numbered_texts s.toks (Qc z (Pd z y 0 z.length (z.length+1)) y.length));rw[OS] at e2;rw[e2];exact np
  .exact QC QQ (Sq _ _ _) Rt (Rb _ _) (meets_str_split_not_found z y t t' c1 hy c2) (fin [(z,t)] s.toks ((if_neg (ne_true_of_eq_false c1)).trans (if_pos c2)).symm (by show 1<=Om;decide))
 .exact QC QQ (Sq _ _ _) Rt (Rb _ _) (meets_str_split_cannot_occur z y t t' c1) (fin [(z,t)] s.toks (if_pos c1).symm (by show 1<=Om;decide))
end
end L2
namespace D
open L2
section
variable {X:Cx}{pos:Pos}
def lj:N9->N9->Option N9
 |.str z,.str y=>if (y.length == 0)=false/\z.length+2<=Om then some (.list ((QI z y).map .str)) else none
 |_,_=>none
structure Ini(P:OB)(w:OV)(K:Frag)(mg:Str->Option Oa)(base:Heap)(C:Addr)(ps:List Str)(k:Nat)(sp:Sp):Prop where
 ex:∃f fd,FnOk P w K mg base CX0 k f fd ps sp/\L2.Binds K fd ps []/\Mk K C f
structure DfM(K:Frag)(C:Addr)(name qual:Str)(st:Stmt):Prop where
 ex:∃(f:Addr) (oc:Oa) (od an:Option Addr) (sl:Array (Option Oa)) (kV dc pm cd ct:Oa),Pv K (.ref C) name=some (some (.ref f)) /\
  K.lookup f=some ⟨oc,od,.func (PB name qual (dY st) (cM st) (bj st) .none kV dc pm an cd ct),sl⟩/\QW K cd qual=true/\PC K (.ref f)=true/\R5 K (.ref f)=true
theorem pL:∀{kvs:List (Key×V)}{vs:List (Key×Oa)}{us:List Oa},KV kvs vs->us.length=vs.length->(∀(j:Nat) (v:Oa),us[j]? = some v->∃k x,vs[j]? = some (k,x)/\(bE P w).is k v=true)->Vals (kvs.map fun p=>kV p.1) us
 |[],[],[],_,_,_=>.nil
 |_::_,[],_,r,_,_=>by cases r
 |[],_::_,_,r,_,_=>by cases r
 |_,[],_::_,_,h,_=>by simp at h
 |_,_::_,[],_,h,_=>by simp at h
 |(k,v)::kvs,(k',x)::vs,u::us,r,h,f=>by
  cases r with
  |cons r1 r2=>
   refine .cons ?_ (pL (P:=P) (w:=w) r2 (by simpa using h) fun j v e=>?_)
   .obtain⟨k2,x2,e2,e3⟩:=f 0 u rfl
    cases e2;have:k=k':=r1.1;subst this;exact keyV e3
   .obtain⟨k2,x2,e2,e3⟩:=f (j+1) v (by simpa using e)
    exact⟨k2,x2,by simpa using e2,e3⟩
theorem Ai(hcm:X.calm=true):CallR X (.type "list") (fun xs H Q=>∃a kvs,xs=[V.ref a]/\Rd H a (.dK kvs)/\∀l,H l=none->Q (.ref l) (upd H l (.lst (kvs.map fun p=>kV p.1)))):=by
 intro pins s σ H xs us Q I r h;obtain⟨a,kvs,rfl,ha,q⟩:=h;obtain⟨u,rfl,ru⟩:=vals1 r;cases ru;obtain⟨z,y,vs,kv,dd⟩:=dM I.hok ha;obtain⟨ep,dd⟩:=dd.dictAt;have hl:=kv.length;refine PySem.W.kdl_call (Vp (prog:=X.prog) (w:=X.w) (knd:=bE X.prog X.w) (kvs:=vs) (ep:=ep) y) (I.ok.hd hcm) dd (by omega) fun h' tk acc c k1 k2 k3=>?_;have hv:Vals (kvs.map fun p=>kV p.1) acc.toList:=pL (P:=X.prog) (w:=X.w) kv (by rw[Pp];exact k3.1) fun j v e=>k3.2 j v (by simpa using e);have hn:H s.heap.objs.size=none:=I.hok.fresh (Ol _);exact⟨.ref s.heap.objs.size,_,I.laid (t':=tk) (o:=.lst (kvs.map fun p=>kV p.1)) k1 (Ol _) ⟨by simp;omega,acc.toList,c,hv,by simpa using k2⟩,rfl,q _ hn⟩
def dq(ds:List (N9×N9)):List PyData:=ds.map (·.1)
theorem pT{K:Frag}{O:Addr->Prop}{H:Hp}{O':Addr->Prop}{H':Hp}:∀{kvs:List (Key×V)}{ds:List (N9×N9)},RepK K O H kvs ds->Reps K O' H' (kvs.map fun p=>kV p.1) (dq ds)
 |_,_,.nil=>.nil
 |_,_,.cons (k:=k) _ t=>.cons (qy k) (pT t)
def i3:List N9->Option N9
 |[.list xs]=>some (.list xs)
 |[.tuple xs]=>some (.list xs)
 |[.dict ds]=>some (.list (dq ds))
 |_=>none
theorem wJ(hcm:X.calm=true:=by rfl):d6 X (.type "list") i3:=⟨_,call_list_of.or (Ai hcm),fun O ts H T vs xs d Q hc h e q=>by
 unfold i3 at e;split at e
 .cases e
  obtain⟨v,rfl,g⟩:=cJ h;obtain⟨a,vs,rfl,t,r⟩:=g.lst;exact .inl ⟨a,vs,rfl,.inl t,fun p hp=>q _ _ (.new hp _) (hc.new hp _) (hc.newL hp r)⟩
 .cases e
  obtain⟨v,rfl,g⟩:=cJ h;obtain⟨a,vs,rfl,t,r⟩:=g.tup;exact .inl ⟨a,vs,rfl,.inr t.sq,fun p hp=>q _ _ (.new hp _) (hc.new hp _) (hc.newL hp r)⟩
 .cases e
  obtain⟨v,rfl,g⟩:=cJ h;obtain⟨a,kvs,rfl,t,r⟩:=g.dct;exact .inr ⟨a,kvs,rfl,t,fun p hp=>q _ _ (.new hp _) (hc.new hp _) (hc.newL hp (pT r))⟩
 .cases e⟩
def xO:N9->N9->Option N9
 |.dict ds,.str s=>some ((ao ds s).getD .none)
 |_,_=>none
def sf(T0:Tp)(w1 w2:W)(T:Tp):Option (W×Tp):=match view T0 w1 with
 |some (.dict _)=>op2 xO T w1 w2
 |_=>none
def lP(f g:FE):FE:=fun ρ T=>bnd (f ρ T) fun w1 T1=>bnd (g ρ T1) fun w2 T2=>sf T1 w1 w2 T2
theorem Hr(r:Rd H a (.dK kvs)):IsD H a:=.inl ⟨kvs,r⟩
theorem FQ(hr:Room k X.A)(ho:DE X o f)(he:DE X e g)
  (m:M1 X o "get" apos e cpos:=by exact⟨rfl,f9 rfl,rfl,by rfl⟩):DE X (.Call (.Attribute o "get" apos) [e] [] cpos) (lP f g):=by
 refine⟨?_⟩;refine bC (CJ (lM hr) ho.pe he.pe m) fun σ H Q=>?_;rintro⟨O,ts,ρ,T,w,T',hc,re,e,q⟩;obtain⟨w1,T1,e1,e⟩:=aJ e;obtain⟨w2,T2,e2,e⟩:=aJ e;unfold sf at e;split at e
 .rename_i ds0 hv0
  obtain⟨x,y,d,h1,h2,h3,rfl,rfl⟩:=jI e;refine⟨O,ts,ρ,T,w1,T1,hc,re,e1,fun v1 H1 s1 hc1 r1=>?_⟩;obtain⟨a,kvs0,rfl,t0,_⟩:=(hc1.view r1 hv0).dct;refine⟨a,rfl,Hr t0,O,ts,ρ,T1,w2,T',hc1,re.mono hc s1,e2,fun v2 H2 s2 hc2 r2=>?_⟩;have k1:=hc2.view (r1.mono hc1 s2) h1;have k2:=hc2.view r2 h2;unfold xO at h3;split at h3
  .rename_i ds s
   cases k2.str;obtain⟨a',kvs,ea,t,r⟩:=k1.dct;cases ea;cases h3;refine⟨_,DGet.rd (k:=OT s) t,?_⟩
   rcases gP (s:=s) r with⟨z1,z2⟩|⟨v,d',z1,z2,rv⟩
   .rw[z2]
    exact q _ H2 (s1.trans s2) hc2 (by rw[z1];exact .non)
   .rw[z2]
    exact q _ H2 (s1.trans s2) hc2 (by rw[z1];exact rv)
  .cases h3
 .cases e
end
theorem xx:∀a b:List Nat,RR a b=false->RR b a=false->a=b
 |[],[],_,_=>rfl
 |[],_::_,h,_=>by simp[RR] at h
 |_::_,[],_,h=>by simp[RR] at h
 |x::r,y::t,h,g=>by
  simp[RR] at h g
  have:x=y:=by omega
  subst this;rw[xx r t (by simpa using h) (by simpa using g)]
theorem wa:∀a b:List Nat,RR a b=true->RR b a=false
 |[],[],h=>by simp[RR] at h
 |[],_::_,_=>rfl
 |_::_,[],h=>by simp[RR] at h
 |x::r,y::t,h=>by
  simp[RR] at h ⊢
  rcases h with h|h
  .omega
  .refine⟨by omega,fun e=>?_⟩
   exact wa r t h.2
theorem ur:∀a b c:List Nat,RR b a=false->RR c b=false->RR c a=false
 |a,[],c,h,g=>by
  cases a with
  |nil=>exact g
  |cons x r=>simp[RR] at h
 |[],b,c,h,g=>by cases c <;> rfl
 |x::r,y::t,[],h,g=>by simp[RR] at g
 |x::r,y::t,z::u,h,g=>by
  simp[RR] at h g ⊢;refine⟨by omega,fun e=>?_⟩;subst e
  by_cases q:z=y
  .subst q
   exact ur r t u (h.2 rfl) (g.2 rfl)
  .exfalso
   omega
def leS(a b:Str):Bool:=!ltCps b.cps.toList a.cps.toList
theorem E6(a b:Str):leS a b=true\/leS b a=true:=by
 unfold leS
 cases h:RR b.cps.toList a.cps.toList with
 |false=>exact .inl rfl
 |true=>
  refine .inr ?_
  cases g:RR a.cps.toList b.cps.toList with
  |false=>rfl
  |true=>
   exfalso;have:=wa _ _ h;rw[g] at this;cases this
theorem CZ(h:leS a b=true)(g:leS b a=true):a=b:=by
 unfold leS at h g;have:=xx a.cps.toList b.cps.toList (by simpa using g) (by simpa using h);cases a;cases b;simp at this;rw[this]
theorem ut(h:leS a b=true)(g:leS b c=true):leS a c=true:=by
 unfold leS at *;have:=ur a.cps.toList b.cps.toList c.cps.toList (by simpa using h) (by simpa using g);rw[this];rfl
def jb(x:Str):List Str->List Str
 |[]=>[x]
 |y::r=>if leS x y=true then x::y::r else y::jb x r
def bI:List Str->List Str
 |[]=>[]
 |x::r=>jb x (bI r)
theorem pY(x:Str):∀l:List Str,(jb x l).Perm (x::l)
 |[]=>.refl _
 |y::r=>by
  unfold jb;split
  .exact .refl _
  .exact((pY x r).cons y).trans (.swap _ _ _)
theorem fD:∀l:List Str,(bI l).Perm l
 |[]=>.refl _
 |x::r=>(pY x _).trans ((fD r).cons x)
theorem tq(x:Str):∀l:List Str,l.Pairwise (fun a b=>leS a b=true)->(jb x l).Pairwise (fun a b=>leS a b=true)
 |[],_=>by simp[jb]
 |y::r,h=>by
  obtain⟨h1,h2⟩:=P9.mp h;unfold jb;split
  .rename_i hx
   refine P9.mpr ⟨fun z hz=>?_,h⟩
   rcases Oy.mp hz with e|e
   .rw[e];exact hx
   .exact ut hx (h1 z e)
  .rename_i hx
   refine P9.mpr ⟨fun z hz=>?_,tq x r h2⟩
   rcases Oy.mp ((pY x r).mem_iff.mp hz) with e|e
   .rw[e];exact(E6 x y).resolve_left hx
   .exact h1 z e
theorem pj:∀l:List Str,(bI l).Pairwise (fun a b=>leS a b=true)
 |[]=>.nil
 |x::r=>tq x _ (pj r)
theorem pA:∀{a b:List Str},a.Perm b->a.Pairwise (fun a b=>leS a b=true)->b.Pairwise (fun a b=>leS a b=true)->a=b
 |[],b,p,_,_=>(List.nil_perm.mp p).symm
 |x::r,[],p,_,_=>absurd (List.perm_nil.mp p) (by simp)
 |x::r,y::t,p,h,g=>by
  obtain⟨h1,h2⟩:=P9.mp h;obtain⟨g1,g2⟩:=P9.mp g
  have e:x=y:=by
   rcases Oy.mp (p.mem_iff.mp Oc) with e|e
   .exact e
   .rcases Oy.mp (p.mem_iff.mpr Oc) with e' | e'
    .exact e'.symm
    .exact CZ (h1 y e') (g1 x e)
  subst e;rw[pA (List.perm_cons _ |>.mp p) h2 g2]
theorem uh:∀(x:Str) (l:List Str),risingS x l=true->(x::l).Pairwise (fun a b=>leS a b=true)
 |x,[],_=>by simp
 |x,y::r,h=>by
  have h':leS x y=true/\risingS y r=true:=by
   unfold leS;simpa[risingS] using h
  have ih:=uh y r h'.2;refine P9.mpr ⟨fun z hz=>?_,ih⟩
  rcases Oy.mp hz with e|e
  .rw[e];exact h'.1
  .exact ut h'.1 ((P9.mp ih).1 z e)
theorem tI(h:sortedS l=true):l.Pairwise (fun a b=>leS a b=true):=by
 cases l with
 |nil=>exact .nil
 |cons x r=>exact uh x r h
theorem qe:∀{ss:List Str}{us:List Oa},Vals (ss.map V.str) us->StrsAre us ss
 |[],_,h=>by cases h;exact .nil
 |x::r,_,h=>by
  cases h with
  |cons h1 h2=>
   obtain⟨t,rfl⟩:=h1;exact .cons x t (qe h2)
theorem pE:∀{us:List Oa}{ss:List Str},StrsAre us ss->Vals (ss.map V.str) us
 |_,_,.nil=>.nil
 |_,_,.cons y t r=>.cons ⟨t,rfl⟩ (pE r)
section
variable {X:Cx}{pos:Pos}
theorem AL:CallR X (.builtin "sorted") (fun xs H Q=>∃p ss,xs=[V.ref p]/\SqL X.K H p (ss.map V.str)/\ss.length<64/\∀l,H l=none->Q (.ref l) (upd H l (.lst ((bI ss).map V.str)))):=by
 intro pins s σ H xs us Q I r h;obtain⟨p,ss,rfl,hq,hlen,q⟩:=h;obtain⟨u,rfl,ru⟩:=vals1 r;cases ru;obtain⟨its,rv,pl,hz⟩:=I.list hq
 have hl:its.length=ss.length:=by have:=rv.length;simpa using this.symm
 refine sorted_strs pl.isList (qe rv) (by omega) fun out ss' h1 h2 h3=>?_;have e:ss'=bI ss:=pA (h2.trans (fD ss).symm) (tI h3) (pj ss);subst e;obtain⟨ep,he⟩:=sortedAll_at s.heap its out;have k:∀b o,s.heap.get? b=some o->(sortedAll s.heap its out).get? b=some o:=fun b o z=>sortedAll_old z;have hn:H (s.heap.objs.size+1)=none:=I.hok.fresh (Uc _);have hlen2:(bI ss).length=ss.length:=(fD ss).length_eq;exact⟨.ref (s.heap.objs.size+1),_,I.laid (t':=s.toks) (o:=.lst ((bI ss).map V.str)) k (Uc _) ⟨by simp;exact QL (OA (by omega:(bI ss).length<64) (by decide)),out.toList,ep,pE h1,by simpa[WV] using he⟩,rfl,q _ hn⟩
def iU(o:Option (List Str)):Option PyData:=match o with
 |some ss=>if ss.length<64 then some (.list ((bI ss).map .str)) else none
 |none=>none
def lE:List N9->Option N9
 |[.list xs]=>iU (dm xs)
 |_=>none
theorem D3:d6 X (.builtin "sorted") lE:=⟨_,AL,fun O ts H T vs xs d Q hc h e q=>by
 unfold lE at e;split at e
 .rename_i ys
  unfold iU at e;split at e
  .rename_i ss hs
   split at e
   .rename_i hl
    cases e;obtain⟨v,rfl,g⟩:=cJ h;obtain⟨a,vs,rfl,t,r⟩:=g.lst;have:=m8 r hs;subst this;exact⟨a,ss,rfl,t,hl,fun p hp=>q _ _ (.new hp _) (hc.new hp _) (hc.newL hp (kB _))⟩
   .cases e
  .cases e
 .cases e⟩
end
theorem BV(h:Q (Vq 4238894112) { s with toks:=s.toks+1 }):OU (OQ prog w) A (pyHash .none) Q E s:=by
 show OU (OQ prog w) A (pyHashByItsType .none) Q E s;refine PySem.W.pyHash_slot (T:="NoneType") (by first|rfl|trivial|exact⟨_,rfl⟩|simp[Shared.TypeIs]) PySem.F.slot_NoneType_hash PySem.F.entry_NoneType_hash (PySem.F.args_NoneType_hash_1 _) rfl (.inl rfl) ?_;unfold SN.«NoneType.__hash__»;refine On ?_;unfold slotArgs;simp only[];rw[if_neg (by decide),if_neg (by decide)];refine OD ?_;unfold retInt;refine On ?_
 first
  |exact wpAny_mkInt (OD ⟨_,_,rfl,h⟩)
  |exact wpAny_mkInt (wpAny_ret ⟨_,_,rfl,h⟩)
def zy:Option Key->Oa->Bool
 |none,.none=>true
 |none,_=>false
 |some k,v=>e7 k v
def okH(w:OV):Option Key->Int
 |none=>Vq 4238894112
 |some k=>zD w k
theorem eO(h:zy k v=true):(k=none/\v=.none)\/(∃i t,k=some (.inl i)/\v=.int i t)\/∃x t,k=some (.inr x)/\v=.str x t:=by
 cases k with
 |none=>cases v <;> first|exact .inl ⟨rfl,rfl⟩|cases h
 |some k=>
  rcases ej (show e7 k v=true from h) with⟨i,t,rfl,rfl⟩|⟨x,t,rfl,rfl⟩
  .exact .inr (.inl ⟨i,t,rfl,rfl⟩)
  .exact .inr (.inr ⟨x,t,rfl,rfl⟩)
theorem vv(k:Key):decide ((none:Option Key)=some k)=false:=decide_eq_false (fun q=>nomatch q)
theorem uy(k:Key):decide (some k=(none:Option Key))=false:=decide_eq_false (fun q=>nomatch q)
theorem mX(a b:Key):decide (some a=some b)=decide (a=b):=by
 by_cases h:a=b
 .subst h;simp
 .rw[decide_eq_false h,decide_eq_false (fun q=>h (O8 q))]
def qF(prog:OB)(w:OV):Wj prog w (Option Key) where
 is:=zy
 hash:=okH w
 inj:=fun v a b ha hb=>by
  rcases eO ha with⟨rfl,rfl⟩|⟨i,t,rfl,rfl⟩|⟨x,t,rfl,rfl⟩
  .rcases eO hb with⟨rfl,_⟩|⟨j,u,rfl,e⟩|⟨y,u,rfl,e⟩
   .rfl
   .exact nomatch e
   .exact nomatch e
  .rcases eO hb with⟨rfl,e⟩|⟨j,u,rfl,e⟩|⟨y,u,rfl,e⟩
   .exact nomatch e
   .injection e with e1 _;rw[e1]
   .exact nomatch e
  .rcases eO hb with⟨rfl,e⟩|⟨j,u,rfl,e⟩|⟨y,u,rfl,e⟩
   .exact nomatch e
   .exact nomatch e
   .injection e with e1 _;rw[e1]
 byValue:=fun k v h=>by
  rcases eO h with⟨rfl,rfl⟩|⟨i,t,rfl,rfl⟩|⟨x,t,rfl,rfl⟩ <;> rfl
 pyHash:=fun hv h=>by
  rcases eO hv with⟨rfl,rfl⟩|⟨i,t,rfl,rfl⟩|⟨x,t,rfl,rfl⟩
  .exact BV h
  .exact Va h
  .exact Vb h
 eqBool:=fun hu hv h=>by
  rcases eO hu with⟨rfl,rfl⟩|⟨i,t,rfl,rfl⟩|⟨x,t,rfl,rfl⟩
  .rcases eO hv with⟨rfl,rfl⟩|⟨j,u,rfl,rfl⟩|⟨y,u,rfl,rfl⟩
   .rw[show decide ((none:Option Key)=none)=true by simp] at h;exact VE .none _ _ _ _ h
   .rw[vv] at h;exact Uq j u _ _ _ _ h
   .rw[vv] at h;exact Ur y u _ _ _ _ h
  .rcases eO hv with⟨rfl,rfl⟩|⟨j,u,rfl,rfl⟩|⟨y,u,rfl,rfl⟩
   .rw[uy] at h;exact Us i t _ _ _ _ h
   .rw[mX,xH] at h;exact Vc h
   .rw[mX,xG] at h;exact Sa i t y u _ _ _ _ h
  .rcases eO hv with⟨rfl,rfl⟩|⟨j,u,rfl,rfl⟩|⟨y,u,rfl,rfl⟩
   .rw[uy] at h;exact Ut x t _ _ _ _ h
   .rw[mX,xF] at h;exact Sb x t j u _ _ _ _ h
   .rw[mX,xD] at h;exact Vd h
 «strs»:=fun k x t v h=>by
  rcases eO h with⟨rfl,e⟩|⟨i,u,rfl,e⟩|⟨y,u,rfl,e⟩
  .exact nomatch e
  .exact nomatch e
  .injection e with e1 _
   subst e1
   cases v <;> rfl
theorem um:∀{es:List WH}{vs:List (Key×Oa)},Pairs (bE P w) es vs->Pairs (qF P w) es (vs.map fun p=>(some p.1,p.2))
 |_,_,.nil=>.nil
 |_,_,.cons h1 h2 t=>.cons h1 h2 (um t)
theorem Dz{h:Heap}{vs:List (Key×Oa)}(d:h.DictOf (bE P w) a vs):h.DictOf (qF P w) a (vs.map fun p=>(some p.1,p.2)):=by
 obtain⟨o,es,ep,e1,e2,e3,e4,e5,e6⟩:=d;refine⟨o,es,ep,e1,e2,e3,fun e he=>?_,um e5,?_⟩
 .obtain⟨k,k1,k2⟩:=e4 e he
  exact⟨some k,k1,k2⟩
 .rw[Pe]
  show (vs.map fun p=>some p.1).Nodup
  have:(vs.map fun p=>some p.1)=(vs.map (·.1)).map some:=by rw[Pe];rfl
  rw[this];exact U2.mpr (W7 (fun h q=>h (O8 q)) e6)
theorem uI:∀(vs:List (Key×Oa)),R7 (vs.map fun p=>((some p.1:Option Key),p.2)) none=none
 |[]=>rfl
 |p::r=>by
  have:=uI r;unfold R7 at this ⊢;rw[OJ,PX];simpa using this
section
variable {X:Cx}
theorem AW:OpR X (OM .In) (fun x y H Q=>∃a kvs,x=.non/\y=.ref a/\Rd H a (.dK kvs)/\Q (.bl false) H):=by
 intro pins s σ H x y v u Q I rx ry h;obtain⟨a,kvs,rfl,rfl,e,q⟩:=h;cases (show v=Sd from rx);cases (show u=OZ a from ry);obtain⟨z,hd,vs,rel,dd⟩:=dM I.hok e;refine wpAny_in_of (knd:=qF X.prog X.w) (k:=none) rfl hd (Dz dd).mapOf ?_;rw[uI];exact⟨.bl false,H,I.tok _,rfl,q⟩
theorem G6(hr:Room k X.A):OpR X (OM .In) (fun x y H Q=>∃a kvs s,x=.str s/\y=.ref a/\Rd H a (.dK kvs)/\Q (.bl (bQ kvs (OT s:Key)).isSome) H):=by
 intro pins s σ H x y v u Q I rx ry h;obtain⟨a,kvs,z,rfl,rfl,e,q⟩:=h;cases (show u=OZ a from ry);exact J9 (lM hr) I (DGet.rd (k:=OT z) e) (show RelV (kV (OT z)) v from rx) fun s' I'=>⟨.bl _,H,I',rfl,q⟩
theorem BB(hr:Room k X.A):OpR X (OM .NotIn) (fun x y H Q=>∃a kvs s,x=.str s/\y=.ref a/\Rd H a (.dK kvs)/\Q (.bl (!(bQ kvs (OT s:Key)).isSome)) H):=by
 intro pins s σ H x y v u Q I rx ry h;obtain⟨a,kvs,z,rfl,rfl,e,q⟩:=h;cases (show u=OZ a from ry);exact FV (lM hr) I (DGet.rd (k:=OT z) e) (show RelV (kV (OT z)) v from rx) fun s' I'=>⟨.bl _,H,I',rfl,q⟩
theorem Hh(hr:Room k X.A):IxR X (fun x y H Q=>∃a kvs s v,x=.ref a/\y=.str s/\Rd H a (.dK kvs)/\bQ kvs (OT s:Key)=some v/\Q v H):=by
 intro value slice pins s σ H x y v u Q I rx ry h hs;obtain⟨a,kvs,z,v0,rfl,rfl,e,l,q⟩:=h;cases (show v=OZ a from rx)
 have g:DGet H a (kV (OT z)) (some v0):=by rw[←l];exact DGet.rd e
 unfold UE;refine On ?_;rw[getitemInPython_of_ne (tB I g).not_modules];refine On (wpAny_specialOf (tB I g) PySem.F.slot_dict_getitem.lookup ?_)
 have fin:OU (OQ X.prog X.w) X.A (Vx slice false (OZ a) u) (fun r s₃=>OU (OQ X.prog X.w) X.A (letTemporaryGo value (OZ a) r >>= fun _=>pure r) (EP X pins σ Q) X.xe s₃) X.xe s:=by
  rw[hs];exact wpAny_operating (Ce (lM hr) I g (show RelV (kV (OT z)) u from ry) fun w' s' I' rw'=>On (wpAny_letTemporaryGo (OD ⟨v0,H,I',rw',q⟩)))
 first
  |exact OD (On fin)
  |exact On (OD (On fin))
  |exact On fin
def inK(s:N9)(ds:List (N9×N9)):Option Bool:=match s with
 |.str s=>some (ao ds s).isSome
 |.none=>some false
 |_=>none
def inB(x y:N9):Option Bool:=match y with
 |.dict ds=>inK x ds
 |y=>inS x y
def inA(x y:N9):Option PyData:=(inB x y).map .bool
def gr(x y:N9):Option PyData:=match x,y with
 |.str s,.dict ds=>some (.bool (!(ao ds s).isSome))
 |_,.dict _=>none
 |x,y=>(inS x y).map fun b=>.bool (!b)
theorem gz(hr:Room k X.A):OpD X (OM .In) inA:=⟨_,(op_in_str.or uo).or ((G6 hr).or AW),fun O ts H T v1 v2 x y d Q hc h1 h2 e q=>by
 unfold inA at e
 by_cases hd:∃ds,y=.dict ds
 .obtain⟨ds,rfl⟩:=hd
  obtain⟨a,kvs,rfl,t,r⟩:=h2.dct;obtain⟨b,hb,rfl⟩:=OY.mp e;have hb':inK x ds=some b:=hb;unfold inK at hb';split at hb'
  .rename_i s
   cases hb';cases h1.str;refine .inr (.inl ⟨a,kvs,s,rfl,rfl,t,?_⟩)
   have e:(bQ kvs (OT s:Key)).isSome=(ao ds s).isSome:=by
    rcases gP (s:=s) r with⟨z1,z2⟩|⟨v,d,z1,z2,_⟩ <;> rw[z1,z2] <;> rfl
   rw[e];exact q _ H (.refl _ _) hc (.bl _)
  .cases hb'
   cases h1.non;exact .inr (.inr ⟨a,kvs,rfl,rfl,t,q _ H (.refl _ _) hc (.bl _)⟩)
  .cases hb'
 .have e':(inS x y).map .bool=some d:=by
   cases y with
   |dict ds=>exact absurd ⟨ds,rfl⟩ hd
   |_=>exact e
  exact .inl (nP false O ts H T v1 v2 x y d Q hc h1 h2 e' q)⟩
theorem qh(hr:Room k X.A):OpD X (OM .NotIn) gr:=⟨_,(op_notin_str.or sW).or (BB hr),fun O ts H T v1 v2 x y d Q hc h1 h2 e q=>by
 by_cases hd:∃ds,y=.dict ds
 .obtain⟨ds,rfl⟩:=hd
  obtain⟨a,kvs,rfl,t,r⟩:=h2.dct
  cases x with
  |str s=>
   cases e;cases h1.str;refine .inr ⟨a,kvs,s,rfl,rfl,t,?_⟩
   have e:(bQ kvs (OT s:Key)).isSome=(ao ds s).isSome:=by
    rcases gP (s:=s) r with⟨z1,z2⟩|⟨v,d,z1,z2,_⟩ <;> rw[z1,z2] <;> rfl
   rw[e];exact q _ H (.refl _ _) hc (.bl _)
  |_=>cases e
 .have e':((inS x y).map fun b=>.bool (!b))=some d:=by
   cases y with
   |dict ds=>exact absurd ⟨ds,rfl⟩ hd
   |_=>cases x <;> exact e
  exact .inl (nP true O ts H T v1 v2 x y d Q hc h1 h2 e' q)⟩
def ixA(x y:N9):Option PyData:=match x,y with
 |.dict ds,.str s=>ao ds s
 |.dict _,_=>none
 |x,y=>ixD x y
theorem c7(hr:Room k X.A):IxD X ixA:=by
 obtain⟨r0,h0,s0⟩:=ax (X:=X);refine⟨_,h0.or (Hh hr),fun O ts H T v1 v2 x y d Q hc h1 h2 e q=>?_⟩
 by_cases hd:∃ds,x=.dict ds
 .obtain⟨ds,rfl⟩:=hd
  obtain⟨a,kvs,rfl,t,r⟩:=h1.dct
  cases y with
  |str s=>
   have e':ao ds s=some d:=e;cases h2.str
   rcases gP (s:=s) r with⟨z1,z2⟩|⟨v,d',z1,z2,rv⟩
   .rw[z1] at e';cases e'
   .rw[z1] at e'
    cases e';exact .inr ⟨a,kvs,s,v,rfl,rfl,t,z2,q _ H (.refl _ _) hc rv⟩
  |_=>cases e
 .refine .inl (s0 O ts H T v1 v2 x y d Q hc h1 h2 ?_ q)
  cases x with
  |dict ds=>exact absurd ⟨ds,rfl⟩ hd
  |_=>exact e
end
section
variable {X:Cx}{pins:List (Addr×Obj)}{σ:L2.St}{H H2:Hp}{s s2:Od}
theorem C8(I:Inv X pins σ H s)(e:H a=some (.dK kvs))(I2:Inv X pins σ H2 s2)(e2:H2 a=some (.frz o (.dK kvs))):Inv X pins σ (upd H2 a (.dK kvs)) s2:=by
 have U:∀{b:Addr}{u:HO},H2 b=some u->(∀o ks,u≠.frz o ks)->upd H2 a (.dK kvs) b=some u:=fun {b u} q n=>by
  rw[aQ (fun z=>by subst z;rw[e2] at q;cases q;exact n _ _ rfl)];exact q
 have N:∀{b:Addr},H2 b=none->upd H2 a (.dK kvs) b=none:=fun {b} q=>by
  rw[aQ (fun z=>by subst z;rw[e2] at q;cases q)];exact q
 have hok:HOk X.prog X.w (upd H2 a (.dK kvs)) s2.heap:=fun b u q=>by
  by_cases hb:b=a
  .subst hb
   rw[bt] at q;cases q;exact ObjOk.stay (I2.hok b _ e2).2 (fun _ _ _ q=>q) (fun c q=>U q (fun _ _ z=>nomatch z)) fun c xs q=>U q (fun _ _ z=>nomatch z)
  .rw[aQ hb] at q
   exact(I2.hok b u q).stay (fun _ _ _ q=>q) (fun c q=>U q (fun _ _ z=>nomatch z)) fun c xs q=>U q (fun _ _ z=>nomatch z)
 refine⟨I2.ok,I2.os,I2.bare,⟨I2.base.keep,I2.base.slot,fun b ob q n hx=>N (I2.base.free b ob q n hx),I2.base.there,fun b xs q=>U (I2.base.tups b xs q) (fun _ _ z=>nomatch z),fun b ob u q=>?_,fun b ps q=>?_⟩,I2.loc,I2.cell,N I2.free,fun x c q=>N (I2.freeC x c q),fun p hp=>?_,hok,I2.len⟩
 .have h1:=I.base.frzs b ob u q
  rw[aQ (fun z=>by subst z;rw[e] at h1;cases h1)];exact I2.base.frzs b ob u q
 .obtain⟨more,h1⟩:=I2.base.tbls b ps q
  exact⟨more,U h1 (fun _ _ z=>nomatch z)⟩
 .obtain⟨k1,k2,k3⟩:=I2.pin p hp
  exact⟨k1,N k2,k3⟩
end
inductive Ln(P:Hp->VK->Prop):Hp->VK->Prop where
 |done {H:Hp}{Q:VK}:P H Q->Ln P H Q
 |frz {H:Hp}{Q:VK}{a:Addr}{kvs:List (Key×V)}:H a=some (.dK kvs)->(∀o,Ln P (upd H a (.frz o (.dK kvs))) (fun v H2=>H2 a=some (.frz o (.dK kvs))/\Q v (upd H2 a (.dK kvs))))->Ln P H Q
theorem IK(h:PE X e t):PE X e (fun σ H Q=>Ln (t σ) H Q):=fun pins s σ H Q I q=>by
 have key:∀{H:Hp}{Q:VK},Ln (t σ) H Q->Inv X pins σ H s->OU (OQ X.prog X.w) X.A (eval e X.env) (EP X pins σ Q) X.xe s:=by
  intro H Q q
  induction q with
  |done q=>exact fun I=>h pins s σ _ _ I q
  |frz ea _ ih=>
   intro I;obtain⟨o,I'⟩:=wj I ea;refine thn (ih o I') fun u s' ⟨v,H2,I2,r,e2,q2⟩=>?_;exact⟨v,_,C8 I ea I2 e2,r,q2⟩
 exact key q I
section
variable {K:Frag}
theorem TupAt.keep(h:∀b o,H b=some o->(∀ks,o≠.dK ks)->(∀ob ks,o≠.frz ob (.dK ks))->H' b=some o)(t:TupAt K (fun _=>False) H a vs):TupAt K (fun _=>False) H' a vs:=by
 rcases t with⟨n,t|⟨o,t⟩⟩|t
 .exact .inl ⟨n,.inl (h _ _ t (fun _ z=>nomatch z) (fun _ _ z=>nomatch z))⟩
 .exact .inl ⟨n,.inr ⟨o,h _ _ t (fun _ z=>nomatch z) (fun _ _ z=>nomatch z)⟩⟩
 .exact .inr t
mutual
theorem Rep.keep{H H':Hp}(h:∀b o,H b=some o->(∀ks,o≠.dK ks)->(∀ob ks,o≠.frz ob (.dK ks))->H' b=some o):∀{v:V}{d:N9},Rep K (fun _=>False) H v d->bh d=true->Rep K (fun _=>False) H' v d
 |_,_,.non,_=>.non
 |_,_,.bl b,_=>.bl b
 |_,_,.int i,_=>.int i
 |_,_,.str x,_=>.str x
 |_,_,.tup t r,e=>.tup (t.keep h) (Reps.keep h r (by simpa[bh] using e))
 |_,_,.lst t r,e=>by simp[bh] at e
 |_,_,.dct n t r,e=>by simp[bh] at e
theorem Reps.keep{H H':Hp}(h:∀b o,H b=some o->(∀ks,o≠.dK ks)->(∀ob ks,o≠.frz ob (.dK ks))->H' b=some o):∀{vs:List V}{ds:List N9},Reps K (fun _=>False) H vs ds->bM ds=true->Reps K (fun _=>False) H' vs ds
 |_,_,.nil,_=>.nil
 |_,_,.cons (d:=d) (ds:=ds) r t,e=>by
  have e':(bh d&&bM ds)=true:=by simpa[bM] using e
  rw[Oj] at e';exact .cons (Rep.keep h r e'.1) (Reps.keep h t e'.2)
end
end
def yG:W->Option W
 |.d x=>some (.d x)
 |.loc x=>some (.d x)
 |.tp _=>none
def bX(ρ:Rho):Rho:=ρ.map fun o=>o.bind yG
def Fz(O:Addr->Prop)(H0 H:Hp):Prop:=∀b,H b=H0 b\/∃kvs o,O b/\H0 b=some (.dK kvs)/\H b=some (.frz o (.dK kvs))
section
variable {K:Frag}{O:Addr->Prop}{ts:List Addr}{H0 H:Hp}{T:Tp}{σ:L2.St}{ρ:Rho}
theorem qi(re:RelE K O ts H0 σ ρ)(fz:Fz O H0 H)(all:∀(j:Nat) (a:Addr) (ds:List (N9×N9)),ρ[j]? = some (some (.loc (.dict ds)))->σ[j]? = some (some (.ref a))->∃o kvs,H a=some (.frz o (.dK kvs))):RelE K (fun _=>False) [] H σ (bX ρ):=by
 have le:Le O H0 (fun _=>False) H:=fun b o n e=>⟨fun z=>z,by
  rcases fz b with q|⟨_,_,q,_,_⟩
  .rw[q];exact e
  .exact absurd q n⟩
 intro i w e;unfold bX at e;rw[Ph] at e
 cases hu:ρ[i]? with
 |none=>rw[hu] at e;cases e
 |some u=>
  cases u with
  |none=>rw[hu] at e;cases e
  |some u=>
   rw[hu] at e;have e':yG u=some w:=O8 e;obtain⟨v,h1,h2⟩:=re i u hu
   cases u with
   |d x=>cases e';exact⟨v,h1,Rep.mono le h2⟩
   |tp k=>cases e'
   |loc x=>
    cases e';obtain⟨a,rfl,k1,k2,k3⟩:=h2;refine⟨_,h1,?_⟩
    cases x with
    |list xs=>
     obtain⟨vs,k3,k4⟩:=k3;refine .lst (.inl ⟨fun z=>z,.inl ?_⟩) (k4.mono le)
     rcases fz a with q|⟨_,_,_,q,_⟩
     .rw[q];exact k3
     .rw[k3] at q;cases q
    |dict ds=>
     obtain⟨kvs,k3,k4⟩:=k3;obtain⟨o,kvs',h3⟩:=all i a ds hu h1
     rcases fz a with q|⟨kvs2,o2,_,q,q2⟩
     .rw[q,k3] at h3;cases h3
     .rw[k3] at q
      cases q;exact .dct (fun z=>z) q2 (k4.mono le)
    |_=>cases k3
theorem nv(hx:bh x=true)(re:RelE K O ts H0 σ ρ)(fin:∀H Q,RelE K (fun _=>False) [] H σ (bX ρ)->(∀v H2,SameX [] H H2->Rep K (fun _=>False) H2 v x->Q v H2)->P H Q):∀(k:Nat) {H:Hp}{Q:VK},Fz O H0 H ->
  (∀(j:Nat) (a:Addr) (ds:List (N9×N9)),k<=j->ρ[j]? = some (some (.loc (.dict ds)))->σ[j]? = some (some (.ref a))->∃o kvs,H a=some (.frz o (.dK kvs)))->(∀v H2,SameX [] H H2->Rep K (fun _=>False) H2 v x->Q v H2)->Ln P H Q
 |0,H,Q,fz,all,q=>.done (fin H Q (qi re fz fun j a ds=>all j a ds (PH _)) q)
 |k+1,H,Q,fz,all,q=>by
  by_cases h:∃ds,ρ[k]? = some (some (.loc (.dict ds)))
  .obtain⟨ds,h⟩:=h
   obtain⟨v,h1,a,rfl,k1,k2,kvs,k3,k4⟩:=re k _ h
   rcases fz a with z|⟨kvs2,o2,_,z,z2⟩
   .rw[k3] at z
    refine .frz z fun o=>nv hx re fin k (fun b=>?_) (fun j b es hj e1 e2=>?_) (fun v H2 s2 r=>?_)
    .by_cases hb:b=a
     .subst hb;exact .inr ⟨kvs,o,k1,k3,bt⟩
     .rw[aQ hb];exact fz b
    .by_cases hb:b=a
     .subst hb;exact⟨o,kvs,bt⟩
     .rw[aQ hb]
      by_cases hk:k=j
      .subst hk;rw[h1] at e2;cases e2;exact absurd rfl hb
      .exact all j b es (by omega) e1 e2
    .have ha:H2 a=some (.frz o (.dK kvs)):=s2 a _ (by simp) bt
     refine⟨ha,q v _ (fun b ob _ e=>?_) (Rep.keep (fun b ob e n1 n2=>?_) r hx)⟩
     .by_cases hb:b=a
      .subst hb;rw[z] at e;cases e;exact bt
      .rw[aQ hb]
       exact s2 b ob (by simp) (by rw[aQ hb];exact e)
     .have hb:b≠a:=fun z=>by subst z;rw[ha] at e;cases e;exact n2 _ _ rfl
      rw[aQ hb];exact e
   .refine nv hx re fin k fz (fun j b es hj e1 e2=>?_) q
    by_cases hk:k=j
    .subst hk;rw[h1] at e2;cases e2;exact⟨o2,kvs2,z2⟩
    .exact all j b es (by omega) e1 e2
  .refine nv hx re fin k fz (fun j b es hj e1 e2=>?_) q
   by_cases hk:k=j
   .subst hk;exact absurd ⟨es,e1⟩ h
   .exact all j b es (by omega) e1 e2
end
def jY(T:Tp)(o:Option (W×Tp)):Option (W×Tp):=match o with
 |some (.d x,_)=>if bh x=true then some (.d x,T) else none
 |_=>none
def d0(f:FE):FE:=fun ρ T=>jY T (f (bX ρ) [])
theorem nF(he:DE X e f):DE X e (d0 f):=by
 refine⟨bC (IK he.pe) fun σ H Q=>?_⟩;rintro⟨O,ts,ρ,T,w,T',hc,re,e,q⟩;unfold d0 jY at e;split at e
 .rename_i x T1 h1
  split at e
  .rename_i hx
   cases e;refine nv hx re (fun H1 Q1 re1 q1=>⟨fun _=>False,[],bX ρ,[],.d x,T1,⟨fun b hb=>(by cases hb),fun b hb=>hb.elim,Q0,rfl,fun i a xs e1 _=>by simp at e1⟩,re1,h1,fun v H2 s2 _ r2=>q1 v H2 s2 r2⟩) ρ.length (fun b=>.inl rfl) (fun j a ds hj e1 _=>?_) (fun v H2 s2 r2=>?_)
   .rw[TM hj] at e1;cases e1
   .have s2':SameX ts H H2:=fun b o _ q=>s2 b o (by simp) q
    have hm:∀b,O b->Mut (H2 b):=fun b hb=>(hc.trk b hb).to fun u z=>s2 b _ (by simp) z
    have hc2:=hc.step s2' fun b hb=>by
     obtain⟨u,z⟩:=(hc.trk b (hc.own b hb)).ex;rw[z];exact s2 b _ (by simp) z
    exact q v H2 s2' hc2 (Rep.own hm r2 hx)
  .cases e
 .cases e
section
variable {X:Cx}{pos:Pos}{e:Expr}{fe:FE}
def dJ(i:Nat):FS:=fun ρ T=>some ((.nx,ρ.set i (some (.loc (.dict [])))),T)
theorem jB(hN:X.N.Nodup)(hi:X.N[i]? = some x:=by rfl)(hx:Loc X.env.scope x:=by first|exact Pc rfl|exact OW rfl)
  (hs:Pm (.Dict [] [] dpos) (some (.Name x pos')) pos.line X.env=pure false:=by rfl) (hf:X.fn x=true\/X.env.scope.names.lookup x=some .local:=by first|exact .inl rfl|exact .inr rfl|assumption):DS X (.Assign [.Name x pos'] (.Dict [] [] dpos) pos) (dJ i):=by
 refine⟨?_⟩;refine bF (eC hN hi hx u4 hs hf) fun D σ H=>?_;rintro⟨O₀,H₀,F,ts,O,ρ,T,fl,ρ',T',rs,e,q⟩;cases e;intro p hp;exact q _ _ _ (rs.ownO hp (.inr (.inl ⟨_,rfl⟩)) fun le=>⟨[],bt,.nil⟩)
theorem tZ:CallR X (.type "dict") (fun xs H Q=>∃a kvs,xs=[V.ref a]/\Rd H a (.dK kvs)/\∀p,H p=none->Q (.ref p) (upd H p (.dK kvs))):=by
 intro pins s σ H xs us Q I r h;obtain⟨a,kvs,rfl,ha,q⟩:=h;obtain⟨u,rfl,ru⟩:=vals1 r;cases ru;exact DN I ha fun p s' hp I'=>⟨.ref p,_,I',rfl,q p hp⟩
def je(o:Option N9):Option (List (N9×N9)):=match o with
 |some (.dict ds)=>some ds
 |_=>none
def nQ(i:Nat)(ρ:Rho)(o:Option (List (N9×N9)))(T:Tp):Option ((Fl×Rho)×Tp):=match o with
 |some ds=>some ((.nx,ρ.set i (some (.loc (.dict ds)))),T)
 |none=>none
def gW(i:Nat)(f:FE):FS:=fun ρ T=>bnd (f ρ T) fun w T1=>nQ i ρ (je (view T1 w)) T1
theorem wF(h:je o=some ds):o=some (.dict ds):=by
 unfold je at h;split at h
 .cases h;rfl
 .cases h
theorem qq(hm:X.mg "dict"=none)(hN:X.N.Nodup)(he:DE X e fe)(hi:X.N[i]? = some x:=by rfl)(hx:Loc X.env.scope x:=by first|exact Pc rfl|exact OW rfl)(hg:Gl X "dict":=by rfl)
  (hse:Oh [e] X.env=(false,eval e X.env)::Oh [] X.env:=by exact bf rfl) (hpl:(Pb cpos (Oh [] X.env)).any (·.1)=false:=by exact bR rfl)
  (hs:Pm (.Call (.Name "dict" p) [e] [] cpos) (some (.Name x pos')) pos.line X.env=pure false:=by rfl) (hf:X.fn x=true\/X.env.scope.names.lookup x=some .local:=by first|exact .inl rfl|exact .inr rfl|assumption) :
  DS X (.Assign [.Name x pos'] (.Call (.Name "dict" p) [e] [] cpos) pos) (gW i fe):=by
 refine⟨?_⟩;refine bF (eC hN hi hx (jn tZ hg hm Um (bY he.pe b7 hse) (by decide) (by decide) hse hpl) hs hf) fun D σ H=>?_;rintro⟨O₀,H₀,F,ts,O,ρ,T,fl,ρ',T',rs,e,q⟩;obtain⟨w,T1,e1,e⟩:=aJ e;unfold nQ at e;split at e
 .rename_i ds hd
  cases e;have hv:=wF hd;refine⟨O,ts,ρ,T,w,_,rs.hc,rs.re,e1,fun v H1 s1 hc1 r1=>?_⟩;obtain⟨a,kvs,rfl,t,r⟩:=(hc1.view r1 hv).dct;exact⟨a,kvs,rfl,t,fun p hp=>q _ _ _ ((rs.step s1 hc1).ownO (xs:=.dict ds) hp (.inr (.inl ⟨_,rfl⟩)) fun le=>⟨kvs,bt,r.mono le⟩)⟩
 .cases e
def oI(o:Option (List (N9×N9)))(T:Tp):Option (W×Tp):=match o with
 |some ds=>some (.d (.dict ds),T)
 |none=>none
def j6(f:FE):FE:=fun ρ T=>bnd (f ρ T) fun w T1=>oI (je (view T1 w)) T1
theorem wD(hm:X.mg "dict"=none)(he:DE X e fe)(hg:Gl X "dict":=by rfl)
  (hse:Oh [e] X.env=(false,eval e X.env)::Oh [] X.env:=by exact bf rfl) (hpl:(Pb cpos (Oh [] X.env)).any (·.1)=false:=by exact bR rfl):DE X (.Call (.Name "dict" p) [e] [] cpos) (j6 fe):=by
 refine⟨?_⟩;refine bC (yv (jn tZ hg hm Um (bY he.pe b7 hse) (by decide) (by decide) hse hpl)) fun σ H Q=>?_;rintro⟨O,ts,ρ,T,w,T',hc,re,e,q⟩;obtain⟨w1,T1,e1,e⟩:=aJ e;unfold oI at e;split at e
 .rename_i ds hd
  cases e;have hv:=wF hd;refine⟨O,ts,ρ,T,w1,T',hc,re,e1,fun v H1 s1 hc1 r1=>?_⟩;obtain⟨a,kvs,rfl,t,r⟩:=(hc1.view r1 hv).dct;refine⟨a,kvs,rfl,t,fun p hp=>.frz bt fun o=>.done ?_⟩;rw[vM];exact q _ _ (s1.trans (.new hp _)) (hc1.new hp _) (.dct (hc1.fresh hp) bt (r.mono (hc1.leNew hp _)))
 .cases e
def putN(ds:List (N9×N9))(s:Str)(x:N9):List (N9×N9):=if (ao ds s).isSome=true then cq ds s x else ds++[(.str s,x)]
theorem RepK.app{K:Frag}{O:Addr->Prop}{H:Hp}{s:Str}{v:V}{x:N9}(rx:Rep K O H v x):∀{kvs:List (Key×V)}{ds:List (N9×N9)},RepK K O H kvs ds->RepK K O H (kvs++[(OT s,v)]) (ds++[(.str s,x)])
 |_,_,.nil=>.cons (k:=OT s) rx .nil
 |_,_,.cons r t=>.cons r (RepK.app rx t)
theorem Ez{K:Frag}{O:Addr->Prop}{H:Hp}{s:Str}{v:V}{x:N9}(rx:Rep K O H v x){kvs:List (Key×V)}{ds:List (N9×N9)}(r:RepK K O H kvs ds):RepK K O H (putK kvs (OT s) v) (putN ds s x):=by
 unfold putN
 rcases gP (s:=s) r with⟨z1,z2⟩|⟨v',d',z1,z2,_⟩
 .rw[z1,if_neg (by simp),Cy v z2]
  exact r.app rx
 .rw[z1,if_pos (show (some d').isSome=true by rfl)]
  have hany:(kvs.any fun kv=>decide (kv.1=(OT s:Key)))=true:=Bg (by rw[z2];rfl);unfold putK;rw[if_pos hany];exact pU rx r
def oq(i:Nat)(ρ:Rho)(ds:List (N9×N9))(w k:W)(T:Tp):Option ((Fl×Rho)×Tp):=match w,k with
 |.d x,.d (.str s)=>if ds.length<=1000 then some ((.nx,ρ.set i (some (.loc (.dict (putN ds s x))))),T) else none
 |_,_=>none
def oo(i:Nat)(fk:FE)(ρ:Rho)(w:W)(T:Tp)(o:Option (Option W)):Option ((Fl×Rho)×Tp):=match o with
 |some (some (.loc (.dict ds)))=>bnd (fk ρ T) (oq i ρ ds w)
 |_=>none
def cz(i:Nat)(fk fv:FE):FS:=fun ρ T=>bnd (fv ρ T) fun w T1=>oo i fk ρ w T1 ρ[i]?
theorem fM(hr:Room k X.A)(hk:DE X kx fk)(he:DE X e fv)(hN:X.N[i]? = some x:=by rfl)(hv:Vis X.env.scope x:=by first|exact Pc rfl|exact OW (Pc rfl)|exact OW (OW rfl))(hd:(x == ("__debug__" : Str))=false:=by decide)
  (hcd:(x == ("__classdict__" : Str))=false:=by decide) (hs:Pm e (some (.Subscript (.Name x p) kx pos')) pos.line X.env=pure false:=by rfl):DS X (.Assign [.Subscript (.Name x p) kx pos'] e pos) (cz i fk fv):=by
 refine⟨?_⟩;refine bF (EH (lM hr) (pv i hN hv hd hcd) hk.pe he.pe hs) fun D σ H=>?_;rintro⟨O₀,H₀,F,ts,O,ρ,T,fl,ρ',T',rs,e,q⟩;obtain⟨w,T1,e1,e⟩:=aJ e;refine⟨O,ts,ρ,T,w,T1,rs.hc,rs.re,e1,fun v H1 s1 hc1 r1=>?_⟩;have rs1:=rs.step s1 hc1;unfold oo at e;split at e
 .rename_i ds c3
  obtain⟨wk,T3,e3,e⟩:=aJ e;unfold oq at e;split at e
  .rename_i xv s _
   split at e
   .rename_i c2
    cases e;obtain⟨u,k1,a,rfl,k2,k3,kvs,k4,k5⟩:=rs1.re i _ c3;refine⟨_,k1,O,ts,ρ,T1,_,_,rs1.hc,rs1.re,e3,fun y H3 s3 hc3 r3=>?_⟩;have rs3:=rs1.step s3 hc3;cases (show Rep X.K O H3 y (.str s) from r3);have k4':H3 a=some (.dK kvs):=s3 _ _ k3 k4;have k5':RepK X.K O H3 kvs ds:=k5.mono (hc1.le s3)
    have hlen:kvs.length<sizeLine:=by
     rw[uZ k5'];exact Qp c2 (by decide)
    have rx:Rep X.K O H3 v xv:=RepW.mono (w:=.d xv) r1 hc1 s3;refine⟨a,_,rfl,DPut.k (k:=(OT s:Key)) k4' hlen,?_⟩;exact q O σ _ (rs3.putO c3 k1 (.inr (.inl ⟨_,rfl⟩)) fun le=>⟨_,bt,Ez (Rep.mono le rx) (k5'.mono le)⟩)
   .cases e
  .cases e
 .cases e
end
def yR(n:Nat):W->Option W
 |.tp k=>if k<n then some (.tp k) else none
 |w=>some w
def ia(n:Nat)(ρ:Rho):Rho:=ρ.map fun o=>o.bind (yR n)
def jy(n:Nat)(o:Option ((Fl×Rho)×Tp)):Option ((Fl×Rho)×Tp):=match o with
 | some ((fl,ρ'),T3)=>(match lJ T3 with
  |some (T4,_)=>if T4.length=n then some ((fl,ia n ρ'),T4) else none
  | none=>none)
 |none=>none
def openK(i:Nat)(fr:FS)(ρ:Rho)(o:Option (List N9))(T1:Tp):Option ((Fl×Rho)×Tp):=match o with
 |some xs=>if xs.length<=1000 then jy T1.length (fr (ρ.set i (some (.tp T1.length))) (T1++[xs])) else none
 |none=>none
def gX(i:Nat)(g:FA)(fr:FS):FS:=fun ρ T=>bnd (g ρ T) fun ws T1=>openK i fr ρ (d4 ws) T1
section
variable {K:Frag}{O₀:Addr->Prop}{H₀:Hp}{F:List ((Addr->Prop)×Hp)}{ts:List Addr}{O:Addr->Prop}{H:Hp}{σ:L2.St}{ρ:Rho}{T:Tp}
theorem RS.openR(r:RS K O₀ H₀ F ts O H σ ρ T)(hp:H p=none)(rv:Reps K O H vs xs) :
  RS K (fun b=>O₀ b\/b=p) H₀ F (ts++[p]) (fun b=>O b\/b=p) (upd H p (.lst vs)) (σ.set i (some (.ref p))) (ρ.set i (some (.tp T.length))) (T++[xs]):=by
 have nO:=r.hc.fresh hp;have nt:p∉ts:=fun z=>nO (r.hc.own _ z)
 have le:Le O H (fun b=>O b\/b=p) (upd H p (.lst vs)):=fun a o n e=>by
  have z1:a≠p:=dw e hp;exact⟨fun q=>q.elim n z1,by rw[aQ z1];exact e⟩
 have hw:∀ys,W.tp T.length≠.loc ys:=fun _ z=>nomatch z
 refine⟨⟨fun b hb=>?_,fun b hb=>?_,?_,by simp[r.hc.len],fun j b zs q1 q2=>?_⟩,fun j w e=>?_,fun b hb=>hb.elim (fun z=>.inl (r.sub b z)) .inr,fun b hb=>?_,fun b o n e=>?_,fun j xs a e1 e2=>?_,fun j k xs ys v e1 e2 e3 e4=>?_,fun f hf=>(r.frs f hf).trans le,by simp[r.len]⟩
 .rcases Oq.mp hb with z|z
  .exact .inl (r.hc.own b z)
  .exact .inr (Ov.mp z)
 .by_cases z:b=p
  .rw[z,bt];exact .inl ⟨_,rfl⟩
  .rw[aQ z];exact r.hc.trk b (hb.resolve_right z)
 .rw[Pl]
  exact⟨r.hc.nd,by simp,fun b hb c hc z=>nt (by rw[←Ov.mp hc,←z];exact hb)⟩
 .by_cases hj:j<ts.length
  .rw[ON hj] at q1
   rw[ON (by rw[←r.hc.len];exact hj)] at q2;exact(r.hc.tape j b zs q1 q2).mono (fun o h1=>by rw[aQ (dw h1 hp)];exact h1) le
  .have hj2:j=ts.length:=by
    have:=(Og.mp q1).1;simp at this;omega
   subst hj2
   have e1:b=p:=by simpa using q1.symm
   have e2:zs=xs:=by rw[r.hc.len] at q2;simpa using q2.symm
   subst e1 e2;exact .inl ⟨rv.notO,vs,bt,rv.mono le⟩
 .by_cases z:i=j
  .subst z
   have hl:i<ρ.length:=by
    have:=(Og.mp e).1;simpa using this
   rw[Ow hl] at e;cases e;exact⟨.ref p,by rw[Ow (by rw[r.len];exact hl)],p,by rw[←r.hc.len];simp,rfl⟩
  .rw[Oi z] at e
   obtain⟨x,h1,h2⟩:=r.re j w e;refine⟨x,by rw[Oi z];exact h1,?_⟩
   cases w with
   |d y=>exact Rep.mono le h2
   |tp k=>
    obtain⟨a,k1,k2⟩:=h2;exact⟨a,by rw[ON (Og.mp k1).1];exact k1,k2⟩
   |loc ys=>
    obtain⟨a,e1,m1,m2,m3⟩:=h2;have na:a≠p:=fun z=>nO (z ▸ m1);refine⟨a,e1,.inl m1,fun z=>?_,m3.mono (fun o' q=>by rw[aQ na];exact q) le⟩
    rcases Oq.mp z with z|z
    .exact m2 z
    .exact na (Ov.mp z)
 .rcases Oq.mp hb with z|z
  .exact .inl (r.ots b z)
  .exact .inr (Ov.mp z)
 .have nb:b∉ts:=fun z=>n (OI _ z)
  have e1:=r.same b o nb e;rw[aQ (dw e1 hp)];exact e1
 .obtain⟨n,e⟩:=gk hw e1
  rw[Oi (Qa n)] at e2;obtain⟨f1,f2⟩:=r.fresh j xs a e e2;refine⟨f1,fun z=>z.elim f2 fun z=>?_⟩;obtain⟨v,h1,a',ea,m1,_⟩:=r.re j _ e;rw[e2] at h1;cases h1;cases ea;exact nO (z ▸ m1)
 .obtain⟨n1,e1⟩:=gk hw e1
  obtain⟨n2,e2⟩:=gk hw e2;rw[Oi (Qa n1)] at e3;rw[Oi (Qa n2)] at e4;exact r.dist j k xs ys v e1 e2 e3 e4
theorem RS.closeR(ots:∀b∈ts,O₀ b)(nt:p∉ts)(h0:H₀ p=none)(n0:¬O₀ p)(r:RS K (fun b=>O₀ b\/b=p) H₀ F (ts++[p]) O H σ ρ (T++[row])):RS K O₀ H₀ F ts O H σ (ia T.length ρ) T:=by
 have lenT:ts.length=T.length:=by have:=r.hc.len;simp at this;exact this
 have at_:∀{j:Nat}{w:W},(ia T.length ρ)[j]? = some (some w)->ρ[j]? = some (some w)/\∀k,w=.tp k->k<T.length:=fun {j w} e=>by
  unfold ia at e;rw[Ph] at e
  cases hu:ρ[j]? with
  |none=>rw[hu] at e;cases e
  |some u=>
   cases u with
   |none=>rw[hu] at e;cases e
   |some u=>
    rw[hu] at e;have e':yR T.length u=some w:=O8 e
    cases u with
    |d x=>cases e';exact⟨rfl,fun k z=>nomatch z⟩
    |loc x=>cases e';exact⟨rfl,fun k z=>nomatch z⟩
    |tp k=>
     have e2:(if k<T.length then some (W.tp k) else none)=some w:=e';split at e2
     .rename_i hk
      cases e2;exact⟨rfl,fun k' z=>by cases z;exact hk⟩
     .cases e2
 refine⟨⟨fun b hb=>r.hc.own b (OI _ hb),r.hc.trk,(Pl.mp r.hc.nd).1,lenT,fun j b zs q1 q2=>?_⟩,fun j w e=>?_,fun b hb=>r.sub b (.inl hb),ots,fun b o n e=>?_,fun j xs a e1 e2=>?_,fun j k xs ys v e1 e2 e3 e4=>?_,r.frs,by simp[ia,r.len]⟩
 .have hj:j<ts.length:=(Og.mp q1).1
  exact r.hc.tape j b zs (by rw[ON hj];exact q1) (by rw[ON (by rw[←lenT];exact hj)];exact q2)
 .obtain⟨e1,hk⟩:=at_ e
  obtain⟨v,h1,h2⟩:=r.re j w e1;refine⟨v,h1,?_⟩
  cases w with
  |d x=>exact h2
  |tp k=>
   obtain⟨a,k1,k2⟩:=h2;have:=hk k rfl;exact⟨a,by rw[ON (by rw[lenT];exact this)] at k1;exact k1,k2⟩
  |loc x=>
   obtain⟨a,k1,k2,k3,k4⟩:=h2;exact⟨a,k1,k2,fun z=>k3 (OI _ z),k4⟩
 .refine r.same b o (fun z=>?_) e
  rcases Oq.mp z with z|z
  .exact n z
  .rw[Ov.mp z,h0] at e;cases e
 .obtain⟨f1,f2⟩:=r.fresh j xs a (at_ e1).1 e2
  exact⟨f1,fun z=>f2 (.inl z)⟩
 .exact r.dist j k xs ys v (at_ e1).1 (at_ e2).1 e3 e4
end
section
variable {X:Cx}{pos:Pos}{rest:List Stmt}{fr:FS}
theorem ES
  (rs:RS X.K O₀ H₀ F ts O H σ ρ T) (hp:H p=none) (rv:Reps X.K O H vs xs) (e:jy T.length (fr (ρ.set i (some (.tp T.length))) (T++[xs]))=some ((fl,ρ'),T')) (q:za X.K O₀ H₀ F ts D ρ' T' fl):r6 X.K fr D (σ.set i (some (.ref p))) (upd H p (.lst vs)):=by
 have nO:=rs.hc.fresh hp;have nt:p∉ts:=fun z=>nO (rs.hc.own _ z)
 have h0:H₀ p=none:=by
  cases e:H₀ p with
  |none=>rfl
  |some o=>rw[rs.same p o nt e] at hp;cases hp
 have n0:¬O₀ p:=fun z=>nO (rs.sub p z);have rs1:=rs.openR (i:=i) hp rv;generalize hE:fr (ρ.set i (some (.tp T.length))) (T++[xs])=E at e;unfold jy at e;split at e
 .rename_i fl1 ρ1 T3
  split at e
  .rename_i T4 row hT
   split at e
   .rename_i hlen
    have eT:=C6 hT;subst eT;cases e;have lb:∀{G:Hp},Le (fun b=>O₀ b\/b=p) G O₀ G:=fun a o n e=>⟨fun z=>n (.inl z),e⟩
    have lenB:∀{G:Hp}{B:Addr->Prop},HC X.K B (ts++[p]) G (T'++[row])->ts.length=T'.length:=fun h=>by have:=h.len;simp at this;exact this
    have sameB:∀{G:Hp},SameX (ts++[p]) H₀ G->SameX ts H₀ G:=fun s b o n e=>s b o (fun z=>by
     rcases Oq.mp z with z|z
     .exact n z
     .rw[Ov.mp z,h0] at e;cases e) e
    refine⟨_,H₀,F,ts++[p],_,_,_,fl,ρ1,T'++[row],rs1,hE,?_⟩;have lenE:T.length=T'.length:=hlen.symm
    cases fl with
    |nx=>exact fun O' σ' H' r=>q O' σ' H' (by rw[lenE];exact RS.closeR rs.ots nt h0 n0 r)
    |bk=>exact fun O' σ' H' r=>q O' σ' H' (by rw[lenE];exact RS.closeR rs.ots nt h0 n0 r)
    |ct=>exact fun O' σ' H' r=>q O' σ' H' (by rw[lenE];exact RS.closeR rs.ots nt h0 n0 r)
    |rt y=>
     intro v H' s1 c1 r1;refine q v H' (sameB s1) ⟨rs.ots,fun b hb=>c1.trk b (.inl hb),rs.hc.nd,lenB c1,fun j b zs q1 q2=>?_⟩ (Rep.mono lb r1);have hj:j<ts.length:=(Og.mp q1).1;exact(c1.tape j b zs (by rw[ON hj];exact q1) (by rw[ON (by rw[←lenB c1];exact hj)];exact q2)).mono (fun _ h=>h) lb
    |ro y=>
     intro A v H' s1 hA c1 o1;have lb2:Le (fun b=>(O₀ b\/b=p)\/A b) H' (fun b=>O₀ b\/A b) H':=fun b o n e=>⟨fun z=>n (z.elim (fun z=>.inl (.inl z)) .inr),e⟩;refine q A v H' (sameB s1) (fun b hb=>⟨(hA b hb).1,fun z=>(hA b hb).2 (.inl z)⟩) ⟨fun b hb=>.inl (rs.ots b hb),fun b hb=>c1.trk b (hb.elim (fun z=>.inl (.inl z)) .inr),rs.hc.nd,lenB c1,fun j b zs q1 q2=>?_⟩ (OwnV.mono lb2 o1);have hj:j<ts.length:=(Og.mp q1).1;exact(c1.tape j b zs (by rw[ON hj];exact q1) (by rw[ON (by rw[←lenB c1];exact hj)];exact q2)).mono (fun _ h=>h) lb2
   .cases e
  .cases e
 .cases e
theorem p0(hN:X.N.Nodup)(he:DA X es g)(hrest:DSs X rest fr)(hi:X.N[i]? = some x:=by rfl)(hx:Loc X.env.scope x:=by first|exact Pc rfl|exact OW rfl)
  (hs:Pm (.List es lpos) (some (.Name x pos')) pos.line X.env=pure false:=by rfl) (hf:X.fn x=true\/X.env.scope.names.lookup x=some .local:=by first|exact .inl rfl|exact .inr rfl|assumption):DSs X (.Assign [.Name x pos'] (.List es lpos) pos::rest) (gX i g fr):=by
 refine⟨?_⟩;refine iL (mV (eC hN hi hx (jH he.pe) hs hf) hrest.pe) fun D σ H=>?_;rintro⟨O₀,H₀,F,ts,O,ρ,T,fl,ρ',T',rs,e,q⟩;obtain⟨ws,T1,e1,e⟩:=aJ e;refine⟨O,ts,ρ,T,ws,T1,rs.hc,rs.re,e1,fun vs H1 s1 hc1 r1=>?_⟩;unfold openK at e;split at e
 .rename_i xs h1
  split at e
  .rename_i h2
   have rv:=kN r1 h1;exact⟨nA (by rw[rv.length];exact h2),fun p hp=>ES (rs.step s1 hc1) hp rv e q⟩
  .cases e
 .cases e
end
theorem B8:entryFor table "dict_itemiterator.__iter__"=some SN.«dict_keyiterator.__iter__»:=by kernel_rfl
theorem AZ(v:Oa):Meets (SN.«dict_keyiterator.__iter__» { pos:=[v] }) (fun _ R s=>R (.ok (.ret v)) s):=by
 intro prog w A R s h;unfold SN.«dict_keyiterator.__iter__»;refine On ?_;unfold slotArgs;simp only[];rw[if_neg (by simp),if_neg (by simp)];exact OD (OD h)
def Iti(a:Addr)(o:Obj)(kvs:List (Key×V)):It:=⟨fun i H=>H a=some (.frz o (.dK kvs))/\i<kvs.length,fun i H x H'=>∃p k v,H p=none/\kvs[i]? = some (k,v)/\x=.ref p/\H'=upd H p (.tup [kV k,v]),fun i H=>H a=some (.frz o (.dK kvs))/\i=kvs.length⟩
theorem He:∀{i:Nat},KV kvs vs->i<kvs.length->∃k v u,kvs[i]? = some (k,v)/\vs[i]? = some (k,u)/\RelV v u:=by
 intro i r h
 induction r generalizing i with
 |nil=>simp at h
 |cons r1 r2 ih=>
  cases i with
  |zero=>
   rename_i p q _ _;refine⟨p.1,p.2,q.2,rfl,?_,r1.2⟩;rw[r1.1];rfl
  |succ i=>
   obtain⟨k,v,u,h1,h2,h3⟩:=ih (i:=i) (by simpa using h);exact⟨k,v,u,by simpa using h1,by simpa using h2,h3⟩
theorem AQ{P:OB}{w:OV}{K:Frag}{elts:List Expr}{x1:Nat}{tpos:Pos}(a it:Addr)(o:Obj)(kvs:List (Key×V)) :
  Turn P w K (.Tuple elts x1 tpos) (Iti a o kvs) [it] it (fun i h=>∃ok ov,IsItemIter h it a i kvs.length (il o) ok ov) where
 mem:=by simp
 obj:=fun i h st b hb=>by
  have e:b=it:=by simpa using hb
  subst e;obtain⟨ok,ov,st⟩:=st
  exact⟨_,st,fun v z=>by
   have z':WZ _=Data.cell v:=z
   cases z'⟩
 keep:=fun i h h' ⟨ok,ov,st⟩ k=>⟨ok,ov,k it (by simp) _ st⟩
 item:=by
  intro X hP hw hK hc i pins s σ H E I hf st hg;subst hP hw hK;obtain⟨ok,ov,st⟩:=st;obtain⟨hg1,hg2⟩:=hg;obtain⟨z,y,vs,kv,dd⟩:=iG I.hok hg1;obtain⟨f0,f1,f2,f3,f4,f5⟩:=hf it (by simp);have hl:=kv.length;obtain⟨k,v0,u0,q1,q2,q3⟩:=He kv hg2;rw[hl] at st;refine wpAny_pyNext_items_item (knd:=bE X.prog X.w) st dd q2 fun key h' hk st' hT hsz hkeep=>?_;refine⟨.ref s.heap.objs.size,rfl,wpAny_letOwnedTupleGo_items st' fun h'' st'' hsb=>?_⟩;have hit:it<s.heap.objs.size:=Ou st;have hne:s.heap.objs.size≠it:=Rx hit;have hn:H s.heap.objs.size=none:=I.hok.fresh (Ol _);have T1:Ux (s.heap.push { cls:=.type "tuple",data:=.seq #[key,u0] }) s.heap.objs.size #[key,u0]:=Uk ..
  have I1:Inv X pins σ (upd H s.heap.objs.size (.tup [kV k,v0])) { s with heap:=s.heap.push { cls:=.type "tuple",data:=.seq #[key,u0] } }:=
   I.laid (t':=s.toks) (o:=.tup [kV k,v0]) (fun b ob e=>Of _ e) (Ol _) ⟨by show 2<=Om;decide,[key,u0],.cons (keyV hk) (.cons q3 .nil),T1⟩
  have K:∀b ob,b≠it->(s.heap.push { cls:=.type "tuple",data:=.seq #[key,u0] }).get? b=some ob->h''.get? b=some ob:=fun b ob hb e=>by
   by_cases hbs:b=s.heap.objs.size
   .subst hbs
    rw[OC _ (by rfl)] at e;cases e;exact(hsb.2 _ hb).trans hT
   .have e0:s.heap.get? b=some ob:=by
     rw[←Heap.get?_push_ne _ _ _ hbs];exact e
    exact(hsb.2 b hb).trans (hkeep b ob hb e0)
  have I2:Inv X pins σ (upd H s.heap.objs.size (.tup [kV k,v0])) { s with heap:=h'' }:=Inv.turned (s:={ s with heap:=s.heap.push { cls:=.type "tuple",data:=.seq #[key,u0] } }) (t':=s.toks) (h':=h'') (it:=it) I1 K (by rw[aQ (Qa hne)];exact f0) f1 f3 f4 f5;refine⟨.ref s.heap.objs.size,_,I2,rfl,⟨s.heap.objs.size,k,v0,hn,q1,rfl,rfl⟩,⟨_,_,by rw[hl];exact st''⟩,fun b hb=>?_⟩
  have e:b=it:=by simpa using hb
  subst e;rw[aQ (Qa hne)];exact f0
 done:=by
  intro X hP hw hK hc i pins s σ H E I hf st hg;subst hP hw hK;obtain⟨ok,ov,st⟩:=st;obtain⟨hg1,hg2⟩:=hg;obtain⟨z,y,vs,kv,dd⟩:=iG I.hok hg1;obtain⟨f0,f1,f2,f3,f4,f5⟩:=hf it (by simp);have hl:=kv.length;rw[hl] at st;exact wpAny_pyNext_items_end (knd:=bE X.prog X.w) (I.ok.hd hc) st dd (by rw[List.getElem?_eq_none_iff];omega) fun h' eb=>⟨rfl,I.turned (t':=s.toks) (fun b ob hb e=>eb b ob hb e) f0 f1 f3 f4 f5⟩
 self:=fun A i s Q E ⟨ok,ov,st⟩ h=>by
  have ty:s.TypeIs (.ref it) "dict_itemiterator":=⟨_,st,rfl⟩;refine wpAny_pyIter_slot ty Rc ?_;exact QC Rc ty B8 (PySem.F.args_dict_itemiterator_iter_1 _) (AZ _) ⟨"dict_itemiterator",_,ty,PySem.F.slot_dict_itemiterator_next.lookup,h⟩
section
variable {X:Cx}{pos:Pos}
def Hu(tl:TE):TI:=fun σ H R=>tl σ H fun x H1=>∃a o kvs,x=.ref a/\H1 a=some (.frz o (.dK kvs))/\(kvs.length<=Om->R (Iti a o kvs) H1)
theorem CF(ho:PE X ob tl)(hbase:Pa ob "items" X.env (eval ob X.env)=eval ob X.env:=by rfl)(hline:(apos.endLine == cpos.line)=true:=by rfl) :
  PI X (.Tuple elts x1 tpos) (.Call (.Attribute ob "items" apos) [] [] cpos) (Hu tl):=by
 intro pins s σ H R I h;refine SX hbase hline (thn (ho pins s σ H _ I h) fun v s1 ⟨x,H1,I1,r1,a,o,kvs,ex,ha,q⟩=>?_);subst ex;cases (show v=OZ a from r1);obtain⟨z,y,vs,kv,dd⟩:=iG I1.hok ha;have dOf:=dd.dictOf;obtain⟨od,_,_,eo,ex,_⟩:=id dOf;refine⟨"dict","dict.items",Rr,S5,PySem.F.type_dict_items,⟨od,eo,ex.1⟩,fun b e2=>by cases e2;exact⟨od,eo,ex.2.1⟩,P0 rfl (Uu ?_)⟩;refine Tr S5 ⟨od,eo,ex.1⟩ PySem.F.entry_dict_items (PySem.F.args_dict_items_1 _) (meets_dict_items (bE X.prog X.w) a y) ⟨⟨vs,dOf⟩,?_⟩;have I2:Inv X pins σ H1 { s1 with heap:=s1.heap.push { cls:=.type "dict_items",data:=.fields #[.ref a] } }:=I1.kept (t':=s1.toks) fun b ob e=>Of _ e;obtain⟨z2,y2,vs2,kv2,dd2⟩:=iG I2.hok ha;refine wpAny_pyIter_items (knd:=bE X.prog X.w) (kvs:=vs2) (ep:=il o) ⟨_,OC _ (by rfl),rfl,rfl⟩ dd2 ?_
 have fk:∀b∈[(s1.heap.push { cls:=.type "dict_items",data:=.fields #[.ref a] }).objs.size],dU X pins H1 b:=fun b hb=>by
  have e:b=(s1.heap.push { cls:=.type "dict_items",data:=.fields #[.ref a] }).objs.size:=Ov.mp hb;subst e;exact I2.fpOk (Ol _) (I2.hok.fresh (Ol _))
 exact⟨_,[_],_,_,H1,rfl,I2.kept (t':=s1.toks) fun b ob e=>Of _ e,AQ a _ o kvs,⟨.none,.none,by rw[kv2.length];exact OC _ (by rfl)⟩,fk,q z⟩
def f7(i j:Nat)(body:FS):List (N9×N9)->FS
 |[]=>aH
 |d::r=>fun ρ T=>bnd (body ((ρ.set i (some (.d d.1))).set j (some (.d d.2))) T) fun p T1=>match p with
  |(.nx,ρ1)=>f7 i j body r ρ1 T1
  |(.ct,ρ1)=>f7 i j body r ρ1 T1
  |(.bk,ρ1)=>some ((.nx,ρ1),T1)
  |(.rt x,ρ1)=>some ((.rt x,ρ1),T1)
  |(.ro x,ρ1)=>some ((.ro x,ρ1),T1)
def oE(i j:Nat)(body:FS)(ρ:Rho)(w:W)(T:Tp):Option ((Fl×Rho)×Tp):=match w with
 |.d (.dict ds)=>f7 i j body ds ρ T
 |_=>none
def oF(i j:Nat)(f:FE)(body:FS):FS:=fun ρ T=>bnd (f ρ T) (oE i j body ρ)
theorem vU{K:Frag}{O:Addr->Prop}{H:Hp}:∀{kvs:List (Key×V)}{ds:List (N9×N9)}{i:Nat}{k:Key}{v:V},RepK K O H kvs ds->kvs[i]? = some (k,v)->∃d,ds[i]? = some (dH k,d)/\Rep K O H v d
 |_,_,_,_,_,.nil,e=>by simp at e
 |_,_,0,_,_,.cons r _,e=>by simp at e;obtain⟨rfl,rfl⟩:=e;exact⟨_,rfl,r⟩
 |_,_,i+1,k,v,.cons _ t,e=>by
  obtain⟨d,h1,h2⟩:=vU (i:=i) t (by simpa using e);exact⟨d,by simpa using h1,h2⟩
theorem FF(hN:X.N.Nodup)(ho:DE X ob f)(hb:DSs X body g)(hi:X.N[i]? = some x:=by rfl)(hj:X.N[j]? = some y:=by rfl)(hx:Loc X.env.scope x:=by first|exact Pc rfl|exact OW rfl)(hy:Loc X.env.scope y:=by first|exact Pc rfl|exact OW rfl)
  (hf:X.fn x=true\/X.env.scope.names.lookup x=some .local:=by first|exact .inl rfl|exact .inr rfl|assumption) (hf':X.fn y=true\/X.env.scope.names.lookup y=some .local:=by first|exact .inl rfl|exact .inr rfl|assumption) (hp:Ro (OQ X.prog X.w) X.A X.env X.xe:=by exact QT) (hc:X.calm=true:=by rfl)
  (hbase:Pa ob "items" X.env (eval ob X.env)=eval ob X.env:=by rfl) (hline:(apos.endLine == cpos.line)=true:=by rfl) (hs:∀v,O0 (.Call (.Attribute ob "items" apos) [] [] cpos) X.env v=pure v:=by intro _;rfl) :
  DS X (.For (.Tuple [.Name x px,.Name y py] k tpos) (.Call (.Attribute ob "items" apos) [] [] cpos) body [] pos) (oF i j f g):=by
 refine⟨?_⟩;refine bF (nS hp hc (CF ho.pe hbase hline) (rB hc (iH (fK hN hi hx hf) (iH (fK hN hj hy hf') qC))) hb.pe hs) fun D σ H=>?_;rintro⟨O₀,H₀,F,ts,O,ρ,T,fl,ρ',T',rs,e,q⟩;obtain⟨w,T1,e1,e⟩:=aJ e;unfold oE at e;split at e
 .rename_i ds
  refine⟨O,ts,ρ,T,_,T1,rs.hc,rs.re,e1,fun v H1 s1 hc1 r1=>?_⟩;have r1':Rep X.K O H1 v (.dict ds):=r1
  cases r1' with
  |@dct a o kvs _ nO ha rk=>
   refine⟨a,o,kvs,rfl,ha,fun hz=>?_⟩;have hlen:=mH rk;refine⟨fun n m σ H=>m=ds.length-n/\n<=ds.length/\∃O' ρk Tk,RS X.K O₀ H₀ ((O,H1)::F) ts O' H σ ρk Tk/\f7 i j g (ds.drop n) ρk Tk=some ((fl,ρ'),T'),⟨_,rfl,PH _,O,ρ,T1,(rs.step s1 hc1).more,e⟩,?_⟩;rintro n m σ2 H2 ⟨rfl,hk,O',ρk,Tk,rs2,ek⟩;have le:=rs2.frs _ Oc;have ha2:=le a _ nO ha
   by_cases hlt:n<ds.length
   .refine .inr ⟨⟨ha2.2,by omega⟩,fun σ3 H3=>∃O' ρk Tk,RS X.K O₀ H₀ ((O,H1)::F) ts O' H3 σ3 ρk Tk/\f7 i j g (ds.drop (n+1)) ρk Tk=some ((fl,ρ'),T'),fun σ3 H3 nn=>⟨ds.length-(n+1),by omega,rfl,hlt,nn⟩,fun v H3 yy=>?_⟩
    obtain⟨p,k',v',hpn,hkv,rfl,rfl⟩:=yy;obtain⟨d,hd,rd⟩:=vU rk hkv
    have hdr:ds.drop n=(dH k',d)::ds.drop (n+1):=by
     rw[PM hlt];have:=(Og.mp hd).2;rw[this]
    rw[hdr] at ek;obtain⟨⟨fl1,ρ1⟩,T3,e3,ek⟩:=aJ ek;have rs3:=rs2.step (.new hpn (.tup [kV k',v'])) (rs2.hc.new hpn _);have rd3:Rep X.K O' (upd H2 p (.tup [kV k',v'])) v' d:=Rep.mono (le.trans (rs2.hc.leNew hpn _)) rd;refine⟨p,_,rfl,SqT.of bt,rfl,_,_,rfl,_,_,rfl,rfl,O₀,H₀,(O,H1)::F,ts,O',_,Tk,fl1,ρ1,T3,(rs3.set (i:=i) (w:=.d (dH k')) (qy k') (fun _ z=>nomatch z)).set (i:=j) (w:=.d d) rd3 (fun _ z=>nomatch z),e3,?_⟩
    cases fl1 with
    |nx=>exact fun O3 σ3 H3 rs3=>⟨O3,ρ1,T3,rs3,ek⟩
    |ct=>exact fun O3 σ3 H3 rs3=>⟨O3,ρ1,T3,rs3,ek⟩
    |bk=>
     cases ek;exact fun O3 σ3 H3 rs3=>q O3 σ3 H3 rs3.less
    |rt x=>
     cases ek;exact q
    |ro x=>
     cases ek;exact q
   .have e:n=ds.length:=by omega
    subst e;rw[Pt (Ol _)] at ek;cases ek;exact .inl ⟨⟨ha2.2,hlen.symm⟩,q O' σ2 H2 rs2.less⟩
 .cases e
end
section
variable {X:Cx}
def ik(k:Kd):Bool:=decide (k=.tup)||decide (k=.lst)
theorem i4(K:Frag)(a:Kd):Ud K (.type a.name) [.type "tuple",.type "list"]=some (ik a):=by
 have h1:=gm a .tup (by decide);have h2:=gm a .lst (by decide);have e1:PD K (.type a.name) (.type "tuple")=some (bi a .tup):=h1;have e2:PD K (.type a.name) (.type "list")=some (bi a .lst):=h2
 cases a <;> (simp only[Ud,e1,e2];rfl)
theorem Be:CallR X (.builtin "isinstance") (fun xs H Q=>∃(x:V) (tp:Addr) (O:Addr->Prop) (d:N9),xs=[x,.ref tp]/\Vw X.K O H x d/\H tp=some (.tup [.ty "tuple",.ty "list"])/\Q (.bl (ik (kd d))) H):=by
 intro pins s σ H xs us Q I r h;obtain⟨x,tp,O,d,rfl,vw,ht,q⟩:=h;obtain⟨u,w',rfl,ru,rw'⟩:=vals2 r;cases (show w'=OZ tp from rw');have fin:∀tk,EP X pins σ Q (.bool (ik (kd d))) { s with toks:=tk }:=fun tk=>⟨.bl _,H,I.tok _,rfl,q⟩;obtain⟨_,its,rv,⟨dd,c,n,sl⟩,e0,e1,m,e2⟩:=(show ObjOk X.prog X.w H s.heap tp (.tup [.ty "tuple",.ty "list"]) from I.hok tp _ ht);obtain⟨u1,u2,rfl,r1,r2⟩:=vals2 rv;cases (show u1=RM "tuple" from r1);cases (show u2=RM "list" from r2);dsimp only at e1 e2;subst e1 e2
 cases d with
 |none=>cases vw.non;cases (show u=Sd from ru);exact Qs UT I.kIn P4 e0 (i4 X.K .non) (fun z=>nomatch z) fin
 |bool b=>cases vw.bl;cases (show u=Se b from ru);exact Qs UU I.kIn P4 e0 (i4 X.K .bl) (fun z=>nomatch z) fin
 |int i=>cases vw.int;obtain⟨t,e⟩:=(show ∃t,u=R9 i t from ru);cases e;exact Qs Vh I.kIn P4 e0 (i4 X.K .int) (fun z=>nomatch z) fin
 |str z=>cases vw.str;obtain⟨t,e⟩:=(show ∃t,u=RL z t from ru);cases e;exact Qs Vi I.kIn P4 e0 (i4 X.K .str) (fun z=>nomatch z) fin
 |list ds=>
  obtain⟨a,vs,rfl,t,r⟩:=vw.lst;cases (show u=OZ a from ru);obtain⟨its,_,pl,_⟩:=I.list t;obtain⟨o,n,e,c1,_⟩:=pl;exact Qs Ry I.kIn ⟨o,e,c1⟩ e0 (i4 X.K .lst) (fun z=>nomatch z) fin
 |tuple ds=>
  obtain⟨a,vs,rfl,t,r⟩:=vw.tup;cases (show u=OZ a from ru);obtain⟨its,_,pl,_⟩:=I.tuple t.sq;obtain⟨o,e,c1,_⟩:=pl;exact Qs Sj I.kIn ⟨o,e,c1⟩ e0 (i4 X.K .tup) (fun z=>nomatch z) fin
 |dict ds=>
  obtain⟨a,vs,rfl,t,r⟩:=vw.dct;cases (show u=OZ a from ru);obtain⟨_,_,_,_,o,_,_,e,c1,_⟩:=dM I.hok t;exact Qs Rz I.kIn ⟨o,e,c1.1⟩ e0 (i4 X.K .dct) (fun z=>nomatch z) fin
def j3(x:N9):Option PyData:=some (.bool (ik (kd x)))
theorem DH(hi:X.mg "isinstance"=none)(he:DE X e f)(hm1:X.mg "tuple"=none)(hm2:X.mg "list"=none)(hg:Gl X "isinstance":=by rfl)(hT1:Gl X "tuple":=by rfl)(hT2:Gl X "list":=by rfl)
  (hs:Oh [e,.Tuple [.Name "tuple" p1,.Name "list" p2] k tpos] X.env=(false,eval e X.env)::Oh [.Tuple [.Name "tuple" p1,.Name "list" p2] k tpos] X.env:=by exact bf rfl)
  (hs2:Oh [.Tuple [.Name "tuple" p1,.Name "list" p2] k tpos] X.env=(false,eval (.Tuple [.Name "tuple" p1,.Name "list" p2] k tpos) X.env)::Oh [] X.env:=by exact bf rfl)
  (hs3:Oh [.Name "tuple" p1,.Name "list" p2] X.env=(false,eval (.Name "tuple" p1) X.env)::Oh [.Name "list" p2] X.env:=by exact bf rfl) (hs4:Oh [.Name "list" p2] X.env=(false,eval (.Name "list" p2) X.env)::Oh [] X.env:=by exact bf rfl)
  (hpl:(Pb pos (Oh [.Tuple [.Name "tuple" p1,.Name "list" p2] k tpos] X.env)).any (·.1)=false:=by exact bR rfl) :
  DE X (.Call (.Name "isinstance" p') [e,.Tuple [.Name "tuple" p1,.Name "list" p2] k tpos] [] pos) (fUn j3 f):=by
 refine⟨?_⟩;refine bC (kJ Be hg hi RW (bY he.pe (bY (xm (bY (qE (v:=.ty "tuple") hT1 hm1 Pf rfl) (bY (qE (v:=.ty "list") hT2 hm2 Qt rfl) b7 hs4) hs3)) b7 hs2) hs) (by decide) (by decide) hs hpl) fun σ H Q=>?_;rintro⟨O,ts,ρ,T,w,T',hc,re,e,q⟩;obtain⟨w1,T1,e1,e⟩:=aJ e;obtain⟨x,d,h1,h3,rfl,rfl⟩:=jJ e;cases h3;refine⟨O,ts,ρ,T,w1,T',hc,re,e1,fun v1 H1 s1 hc1 r1=>?_⟩;refine⟨by decide,fun tp htp=>?_⟩;have hc2:=hc1.new htp (.tup [.ty "tuple",.ty "list"]);have s2:SameX ts H1 (upd H1 tp (.tup [.ty "tuple",.ty "list"])):=.new htp _;exact⟨v1,tp,O,x,rfl,hc2.view (r1.mono hc1 s2) h1,bt,q _ _ (s1.trans s2) hc2 (.bl _)⟩
end
theorem Dk{P:OB}{w:OV}{K:Frag}{mg:Str->Option Oa}{base:Heap}{CX:CXT}{k:Nat}{f:Addr}{fd:PZ}{ps:List Str}{sp sp':Sp}(F:FnOk P w K mg base CX k f fd ps sp)(i:∀vs H Q E,sp' vs H Q E->sp vs H Q E):FnOk P w K mg base CX k f fd ps sp':=⟨fun vs H Q E h=>F.1 vs H Q E (i _ _ _ _ h),fun A outer s H args us vs Q E a b c d h=>F.2 A outer s H args us vs Q E a b c d (i _ _ _ _ h)⟩
theorem BJ{K:Frag}{m:FnM}(hm:∀ns:List Int,ns.length<=63->∃T',m [.d (cD ns)] []=some (.bool true,T')):∀vs H Q E,ol K vs H Q E->spM K 1 m vs H Q E:=by
 intro vs H Q E h;obtain⟨a,ns,rfl,hS,hl,q⟩:=h;obtain⟨T',e⟩:=hm ns hl
 have ra:LstAt K (fun _=>False) H a (ns.map V.int):=by
  rcases hS with h|h
  .exact .inl ⟨fun z=>z,h⟩
  .exact .inr (.inr h)
 refine⟨fun _=>False,[],[],[.d (cD ns)],.bool true,T',⟨fun b hb=>(by cases hb),fun b hb=>hb.elim,Q0,rfl,fun i a xs e1 _=>by simp at e1⟩,.cons (show Rep K (fun _=>False) H (.ref a) (cD ns) from .lst ra (uj ns)) .nil,rfl,e,fun v H' _ _ r=>?_⟩;cases r;exact q H'
def JR:N9->N9->Option PyData:=iop fun i j=>if 0<=j then some (.int (i / 2^j.toNat)) else none
@[simp] theorem Lw:JR (.int i) (.int j)=if 0<=j then some (.int (i / 2^j.toNat)) else none:=rfl
section
variable {X:Cx}
end
end D
namespace L2
structure CSn(osc:Qi)(N:List Str)(xs:List Str)(scope:Qi)(N':List Str):Prop where
 kind:scope.kind=.function
 nocell:∀y∈scope.names,y.2≠.cell
 names:∀y∈scope.names,y.2=.local->scope.names.lookup y.1=some .local
 hx:∀x∈xs,scope.names.lookup x=some .local
 only:∀y∈scope.names,y.2=.local->y.1∈xs\/y.1=".0"
 free:∀y∈scope.names,y.2=.free->osc.names.lookup y.1=some .cell\/osc.names.lookup y.1=some .free
 nd:(xs++N').Nodup
 n0:(".0" : Str)∉N'
 len:N'.length=N.length
 rel:∀p∈N'.zip N,p.1=p.2\/∀q∈scope.names,q.1≠p.1
section
variable {X:Cx}{pins:List (Addr×Obj)}{σ:St}{H:Hp}{s:Od}{xs:List Str}{scope:Qi}{N':List Str}
end
section
variable {X:Cx}{xs:List Str}{scope:Qi}{N':List Str}{tg elt iter:Expr}{ifs:List Expr}{pos:Pos}{wi:TI}{g:TG}{te:TE}{tt:TT}
end
end L2
namespace D
open L2
section
variable {X:Cx}{pos:Pos}
end
section
variable {X:Cx}
variable {pos:Pos}{e e':Expr}{fe fk:FE}
end
section
variable {K:Frag}{O₀:Addr->Prop}{H₀:Hp}{F:List ((Addr->Prop)×Hp)}{ts:List Addr}{O A:Addr->Prop}{H H1:Hp}{σ:L2.St}{ρ:Rho}{T T1:Tp}
theorem RS.widen(r:RS K O₀ H₀ F ts O H σ ρ T)(s:SameX ts H H1)(hA:∀b,A b->H b=none/\¬O b)(c:HC K (fun b=>O b\/A b) ts H1 T1):RS K O₀ H₀ F ts (fun b=>O b\/A b) H1 σ ρ T1:=by
 have le:Le O H (fun b=>O b\/A b) H1:=fun a o n e=>⟨fun z=>z.elim n fun z=>(by rw[(hA a z).1] at e;cases e),s a o (fun z=>n (r.hc.own a z)) e⟩;refine⟨c,fun i w e=>?_,fun b hb=>.inl (r.sub b hb),r.ots,r.same.trans s,r.fresh,r.dist,fun f hf=>(r.frs f hf).trans le,r.len⟩;obtain⟨v,h1,h2⟩:=r.re i w e;refine⟨v,h1,?_⟩
 cases w with
 |d x=>exact Rep.mono le h2
 |tp k=>exact h2
 |loc ys=>
  obtain⟨a,ea,m1,m2,m3⟩:=h2;exact⟨a,ea,.inl m1,m2,m3.mono (fun o q=>s _ _ m2 q) le⟩
theorem RS.hold(r:RS K O₀ H₀ F ts O H σ ρ T)(ha:O a)(nt:a∉ts)(hf:H₀ a=none/\¬O₀ a)(nh:∀(j:Nat) (ys:N9),ρ[j]? = some (some (W.loc ys))->σ[j]? = some (some (V.ref a))->False)(rv:OwnAt K O H a xs) :
  RS K O₀ H₀ F ts O H (σ.set i (some (.ref a))) (ρ.set i (some (.loc xs))) T:=by
 refine⟨r.hc,fun j w e=>?_,r.sub,r.ots,r.same,fun j ys b e1 e2=>?_,fun j k ys zs v e1 e2 e3 e4=>?_,r.frs,by simp[r.len]⟩
 .by_cases z:i=j
  .subst z
   have hl:i<ρ.length:=by
    have:=(Og.mp e).1;simpa using this
   rw[Ow hl] at e;cases e;exact⟨.ref a,by rw[Ow (by rw[r.len];exact hl)],a,rfl,ha,nt,rv⟩
  .rw[Oi z] at e
   obtain⟨x,h1,h2⟩:=r.re j w e;exact⟨x,by rw[Oi z];exact h1,h2⟩
 .by_cases z:i=j
  .subst z
   have hl:i<ρ.length:=by
    have:=(Og.mp e1).1;simpa using this
   rw[Ow (by rw[r.len];exact hl)] at e2;cases e2;exact hf
  .rw[Oi z] at e1 e2
   exact r.fresh j ys b e1 e2
 .by_cases z:i=j
  .by_cases z':i=k
   .rw[←z,←z']
   .exfalso
    subst z
    have hl:i<ρ.length:=by
     have:=(Og.mp e1).1;simpa using this
    rw[Ow (by rw[r.len];exact hl)] at e3;cases e3;rw[Oi z'] at e2 e4;exact nh k zs e2 e4
  .by_cases z':i=k
   .exfalso
    subst z'
    have hl:i<ρ.length:=by
     have:=(Og.mp e2).1;simpa using this
    rw[Ow (by rw[r.len];exact hl)] at e4;cases e4;rw[Oi z] at e1 e3;exact nh j ys e1 e3
   .rw[Oi z] at e1 e3
    rw[Oi z'] at e2 e4;exact r.dist j k ys zs v e1 e2 e3 e4
theorem RS.keep(r:RS K O₀ H₀ F ts O H σ ρ T)(hA:∀b,A b->O b):HC K (fun b=>O₀ b\/A b) ts H T/\Le O H (fun b=>O₀ b\/A b) H:=by
 have le:Le O H (fun b=>O₀ b\/A b) H:=fun a o n e=>⟨fun z=>n (z.elim (r.sub a) (hA a)),e⟩;exact⟨⟨fun b hb=>.inl (r.ots b hb),fun b hb=>r.hc.trk b (hb.elim (r.sub b) (hA b)),r.hc.nd,r.hc.len,fun i a xs e1 e2=>(r.hc.tape i a xs e1 e2).mono (fun _ h=>h) le⟩,le⟩
end
section
variable {X:Cx}{pos:Pos}
end
def rK(o:Option ((Fl×Rho)×Tp)):Option (N9×Tp):=bnd o fun p T=>match p with
 |(.ro x,_)=>some (x,T)
 |_=>none
def g9(N:Nat)(f:FS):FnM:=fun ws T=>if eE ws=true then rK (f (ws.map some++OO (N-ws.length) none) T) else none
inductive SpOP(K:Frag)(n:Nat)(m:FnM)(vs:List V)(H:Hp)(Q:VK):Prop where
 |mk (O:Addr->Prop) (ts:List Addr) (T:Tp) (ws:List W) (x:N9) (T':Tp) (hc:HC K O ts H T) (r:ie K O ts H vs ws) (hl:ws.length=n) (e:m ws T=some (x,T'))
  (q:∀(A:Addr->Prop) v H',SameX ts H H'->(∀b,A b->H b=none/\¬O b)->HC K (fun b=>O b\/A b) ts H' T'->OwnV K (fun b=>O b\/A b) A H' v x->Q v H'):SpOP K n m vs H Q
def spO(K:Frag)(n:Nat)(m:FnM):Sp:=fun vs H Q _=>SpOP K n m vs H Q
theorem J8{P:OB}{w:OV}{K:Frag}{mg:Str->Option Oa}{base:Heap}{x qual:Str}{st:Stmt}{f:Addr}{fd:PZ}{N ps:List Str}{k:Nat}{m:FS}(F:Fun K x qual st f fd)(S:FnScope N ps (bj st))
  (hbody:∀(cdv:Oa) (A:O5) (outer:List Env) (s:Od) (H:Hp) (E:XK),Room k (A.deeper (RP qual (bj st) s.heap.objs.size f cdv))->DSs (ft CX0 P w K mg base N qual (bj st) f cdv A outer s H E).nox (cM st) m) :
  FnOk P w K mg base CX0 (k+1) f fd ps (spO K ps.length (g9 N.length m)):=by
 refine F.ok S (fun vs H Q E h=>?_) (fun cdv A outer s H vs Q E hr h=>⟨_,(hbody cdv A outer s H E hr).pe,?_⟩)
 .obtain⟨O,ts,T,ws,x,T',hc,rw',hl,_⟩:=h
  rw[←hl];exact Qy rw'
 obtain⟨O,ts,T,ws,x,T',hc,rw',hl,e,q⟩:=h;unfold g9 at e;split at e
 .rename_i hn
  obtain⟨⟨fl,ρ'⟩,T1,e1,e⟩:=aJ e;have hlen:vs.length=ws.length:=Qy rw';have noL:∀{i:Nat}{xs:N9},(ws.map some++OO (N.length-ws.length) none)[i]? = some (some (W.loc xs))->False:=fun {i xs} e=>mI hn (O6 (mE e));refine⟨O,H,[],ts,O,_,T,fl,ρ',T1,⟨hc,fun i u e=>?_,fun _ h=>h,hc.own,.refl _ _,fun i xs a e1 _=>(noL e1).elim,fun i j xs ys v e1 _ _ _=>(noL e1).elim,fun f hf=>absurd hf (by simp),by simp[L2.start,hlen]⟩,e1,?_⟩
  .obtain⟨v,h1,h2⟩:=pS rw' (mE e)
   refine⟨v,?_,h2⟩;unfold L2.start;have hi:i<vs.length:=(Og.mp h1).1;rw[ON (by simpa using hi),Ph,h1];rfl
  .cases fl with
   |ro y=>cases e;exact q
   |_=>cases e
 .cases e
section
variable {X:Cx}{pos:Pos}
end
section
variable {X:Cx}
abbrev FP:=Rho->Tp->Option (List (Str×N9)×Tp)
def ib(l:List (Str×N9)):List (N9×N9):=l.map fun p=>(.str p.1,p.2)
def cV(p:Str×V):Key×V:=(OT p.1,p.2)
structure DP(X:Cx)(pos:Pos)(keys:List (Option Expr))(values:List Expr)(g:FP):Prop where
 ex:∃trs,PPs X pos keys values trs/\∀(σ:L2.St) (H:Hp) (Q:List (V×V)->Hp->Prop) (O:Addr->Prop) (ts:List Addr) (ρ:Rho) (T:Tp) (l:List (Str×N9)) (T':Tp),HC X.K O ts H T->RelE X.K O ts H σ ρ->g ρ T=some (l,T') ->
  (∀(kvs:List (Str×V)) (H':Hp),SameX ts H H'->HC X.K O ts H' T'->kvs.map (·.1)=l.map (·.1)->RepK X.K O H' (kvs.map cV) (ib l)->Q (kvs.map fun p=>(V.str p.1,p.2)) H')->qZ trs σ H Q
theorem uq:∀(l acc:List (Str×V)),(acc.map (·.1)++l.map (·.1)).Nodup->fR (acc.map cV) (l.map cV)=(acc++l).map cV
 |[],acc,_=>by simp[fR]
 |p::l,acc,h=>by
  have h1:putK (acc.map cV) (OT p.1:Key) p.2=(acc++[p]).map cV:=by
   unfold putK;rw[if_neg]
   .rw[Pk]
    rfl
   .intro hc
    obtain⟨kv,m,e⟩:=P8.mp hc;obtain⟨q,m2,rfl⟩:=Ot.mp m;have e':q.1=p.1:=Vs (of_decide_eq_true e);have:=(Pl.mp h).2.2 q.1 (Ot.mpr ⟨q,m2,rfl⟩) p.1 (by simp);exact this e'
  have:=uq l (acc++[p]) (by simpa using h);have e:fR (acc.map cV) ((p::l).map cV)=fR (putK (acc.map cV) (OT p.1:Key) p.2) (l.map cV):=rfl;rw[e,h1,this];simp
end
section
variable {X:Cx}{pos:Pos}
end
section
variable {X:Cx}{pos:Pos}{rest:List Stmt}{fr:FS}
end
section
variable {X:Cx}{pos:Pos}
end
theorem Am:VW (.type "list") "keys"=pure none:=VJ (by decide +kernel)
theorem zU:VW (.type "list") "__getattr__"=pure none:=VJ (by decide +kernel)
theorem An(ho:s.heap.get? a=some { cls:=.type "list",dict:=none,data:=.seq its n,slots:=sl })(hh:A.handled=none)
  (h:∀h' tk e,Heap.NewAttrErr s.heap h' e (.ref a) "keys"->E (.ref e) { s with heap:=h',toks:=tk }) :
  OU (OQ prog w) A (R8.«object.__getattribute__» ⟨[.ref a,.str "keys" u],[]⟩) Q E s:=by
 obtain⟨hp,g,d,tk,os⟩:=s;have hT:(⟨hp,g,d,tk,os⟩:Od).TypeIs (.ref a) "list":=⟨_,ho,rfl⟩;have f4:=Am;unfold R8.«object.__getattribute__»
 repeat (any_goals (first|assumption|wp_step))
 exact wpAny_raiseAttrError hh h (attrMsg_fits (by decide +kernel) (by decide +kernel))
theorem Ab(ho:s.heap.get? a=some { cls:=.type "list",dict:=none,data:=.seq its n,slots:=sl })(hh:A.handled=none)
  (h:∀h' tk,(∀b o,s.heap.get? b=some o->h'.get? b=some o)->Q none { s with heap:=h',toks:=tk }) :
  OU (OQ prog w) A (getAttr? (.ref a) "keys") Q E s:=by
 obtain⟨hp,g,d,tk,os⟩:=s;have hT:(⟨hp,g,d,tk,os⟩:Od).TypeIs (.ref a) "list":=⟨_,ho,rfl⟩;have f1:=sub_AttributeError;have f3:=QF.lookup;have f4:=QF.bind (.ref a);have f5:=zU;unfold getAttr? getAttrBy?
 repeat (any_goals (first|assumption|wp_step))
 refine codeAny_call_builtin QF.plain F.entry_list_ga (QF.check _ _ _ _ _ _ _ _ (show (⟨hp,g,d,tk+1,os⟩:Od).TypeIs (.ref a) "list" from⟨_,ho,rfl⟩) (F.args_list_getattribute_2 _ _) (An (s:=⟨hp,g,d,tk+1,os⟩) ho hh fun h' tk' e hx=>?_));obtain⟨t',u',he⟩:=hx.there;show OU _ _ (UP _ _ _ _ _ _ _) _ _ _;unfold UP
 repeat (any_goals (first|assumption|wp_step))
 exact h _ _ hx.keeps
theorem sR:entryFor table "dict.update.loop"=some R8.«dict.update.loop»:=entryFor_of_tree (by kernel_rfl)
section
variable {prog:OB}{w:OV}{K:Type}[DecidableEq K]{knd:KeyKind prog w K}{A:O5}{E:Oa->Od->Prop}{s:Od}
theorem uJ{its:Array Oa}{R:WO->Od->Prop}(hh:A.handled=none)(kvs:List (K×Oa))(hd:d≠it)(hz:kvs.length<=Om){h0:Heap}
  (hlen:its.size=kvs.length) (hls:∀h',(∀b o,b≠d->b≠it->h0.get? b=some o->h'.get? b=some o)->h'.IsList l its/\∀(i:Nat) (kv:K×Oa),kvs[i]? = some kv->∃T key,(its[i]?:Option Oa)=some (OZ T)/\Ux h' T #[key,kv.2]/\knd.is kv.1 key=true)
  (hR:∀h' tk,h'.DictOf knd d (WQ [] kvs)->(∀b o,b≠d->b≠it->h0.get? b=some o->h'.get? b=some o)->R (.ok (.ret .none)) { s with heap:=h',toks:=tk }) :
  ∀(n i:Nat) (j:Int) (tok:Tok) (h':Heap) (tk:Nat),i+n=kvs.length->(∀b o,b≠d->b≠it->h0.get? b=some o->h'.get? b=some o)->h'.IsListIter it l i->h'.DictOf knd d (WQ [] (kvs.take i)) ->
   UV (OQ prog w) A (.builtin "dict.update.loop" ⟨[.ref d,.ref it,.int j tok,.none],[]⟩) R { s with heap:=h',toks:=tk }
 |0,i,j,tok,h',tk,hi,hk,hit,hdd=>by
  refine RY sR ?_;obtain⟨hl,hT⟩:=hls h' hk;unfold R8.«dict.update.loop»;dsimp only;refine On (TJ (s:={ s with heap:=h',toks:=tk }) hh hit hl (by rw[Array.getElem?_eq_none];omega) fun h'' eb=>?_);dsimp only;refine On ?_;unfold Wy;refine OD (OD ?_);have e:kvs.take i=kvs:=Pr (by omega);rw[e] at hdd;obtain⟨o,es,ep,ho,r⟩:=hdd;exact hR h'' tk ⟨o,es,ep,eb _ _ hd ho,r⟩ fun b ob b1 b2 q=>eb b ob b2 (hk b ob b1 b2 q)
 |n+1,i,j,tok,h',tk,hi,hk,hit,hdd=>by
  refine RY sR ?_;obtain⟨hl,hT⟩:=hls h' hk
  have hlt:i<kvs.length:=by omega
  obtain⟨T,key,e1,_,e3⟩:=hT i kvs[i] (Pw hlt);unfold R8.«dict.update.loop»;dsimp only;refine On (Tf (s:={ s with heap:=h',toks:=tk }) hit hl e1 fun h2 hit2 sb=>?_);have hk2:∀b o,b≠d->b≠it->h0.get? b=some o->h2.get? b=some o:=fun b ob b1 b2 q=>(sb.2 b b2).trans (hk b ob b1 b2 q);obtain⟨hl2,hT2⟩:=hls h2 hk2;obtain⟨T',key',e1',e2,e3⟩:=hT2 i kvs[i] (Pw hlt);rw[e1] at e1';cases e1';dsimp only;refine On (Qz ?_);refine On (wpAny_tryCatch (On (R6 e2.typeIs ?_)));rw[if_pos (by decide)];obtain⟨oT,hoT,cT,nT,dT⟩:=id e2;refine On (m:=seqItems? (.ref T)) (On (VR (s:={ s with heap:=h2,toks:=tk }) hoT ?_));rw[dT];refine OD (OD ?_);dsimp only[Option.getD]
  have hmz:(WQ [] (kvs.take i)).length<=sizeLine:=by
   have:=merged_length_le ([]:List (K×Oa)) (kvs.take i);simp at this;omega
  refine Qz (wpAny_dictSet_pairs (s:={ s with heap:=h2,toks:=tk }) e3 (hdd.sameBut sb hd) (fun h3 hd3 sb3=>?_) hmz);refine OD ⟨UQ _ (by decide +kernel),?_⟩;rw[←merged_take_succ [] kvs i kvs[i] (Pw hlt)] at hd3;exact uJ hh kvs hd hz hlen hls hR n (i+1) _ _ h3 _ (by omega) (fun b ob b1 b2 q=>(sb3.2 b b1).trans (hk2 b ob b1 b2 q)) (hit2.extBut sb3.extBut (Qa hd)) hd3
theorem z5(hh:A.handled=none)(kvs:List (K×Oa))(hz:kvs.length<=Om)(hlen:its.size=kvs.length)
  (ho:s.heap.get? l=some { cls:=.type "list",dict:=none,data:=.seq its n,slots:=sl }) (hT:∀(i:Nat) (kv:K×Oa),kvs[i]? = some kv->∃T key,(its[i]?:Option Oa)=some (OZ T)/\Ux s.heap T #[key,kv.2]/\knd.is kv.1 key=true)
  (h:∀h' tk,h'.DictOf knd s.heap.objs.size (WQ [] kvs)->(∀b o,s.heap.get? b=some o->h'.get? b=some o)->Q (.ref s.heap.objs.size) { s with heap:=h',toks:=tk }) :
  OU (OQ prog w) A (call (.type "dict") [.ref l]) Q E s:=by
 refine callType_codes (Q₁:=fun obj s₁=>obj=.ref s.heap.objs.size/\s₁ = { s with heap:=s.heap.push { cls:=.type "dict",data:=.dict #[] } }) F.kt_called_dict (F.kt_typeCall_dict_1 _) F.entry_dict_init (kt_code_dict_new _ ⟨rfl,rfl⟩) ?_;rintro obj s₁ ⟨rfl,rfl⟩;have hnew:(s.heap.push { cls:=.type "dict",data:=.dict #[] }).DictOf knd s.heap.objs.size []:=VG s.heap;have up:∀b o,s.heap.get? b=some o->(s.heap.push { cls:=.type "dict",data:=.dict #[] }).get? b=some o:=fun b o e=>Of _ e;refine⟨hnew.typeIs,F.args_dict_init_2 _ _,?_⟩;unfold R8.«dict.__init__»;refine On ?_;unfold Wz;refine On (wpAny_notOrdered_dict hnew.typeIs ?_);show OU _ _ (pure (s.heap.objs.size,[OZ l])) _ _ _;refine OD ?_;show OU _ _ (S6 "dict.__init__" s.heap.objs.size (.ref l) [] .none) _ _ _;unfold S6;refine On (R6 (T:="list") ⟨_,up _ _ ho,rfl⟩ ?_);rw[if_pos (by decide)];refine On (Ab (up _ _ ho) hh fun h1 tk1 k1=>?_);simp only[Option.isNone_none,if_true];refine On (V2 ?_);have ho1:h1.get? l=some _:=k1 _ _ (up _ _ ho);refine On (Qf (s:={ s with heap:=h1,toks:=tk1 }) (items:=its) ⟨_,ho1,rfl,n,rfl⟩ ?_);refine OD ⟨UQ _ (by decide +kernel),?_⟩
 have hne:s.heap.objs.size≠h1.objs.size:=by
  obtain⟨o,es,ep,q,_⟩:=hnew;exact OF (Ou (k1 _ _ q))
 refine uJ (s:=s) (h0:=h1) (l:=l) (its:=its) (by simpa[V4] using hh) kvs hne hz hlen (fun h' hk'=>⟨⟨_,hk' l _ ?_ ?_ ho1,rfl,n,rfl⟩,fun i kv e=>?_⟩) (fun h' tk hd hk'=>⟨rfl,h h' tk hd fun b o e=>hk' b o (OF (Ou e)) (OF (Ou (k1 _ _ (up _ _ e)))) (k1 b o (up b o e))⟩) kvs.length 0 _ _ _ _ (by omega) (fun b o _ _ e=>Of _ e) ?_ ?_
 .exact OF (Ou ho)
 .exact OF (Ou ho1)
 .obtain⟨T,key,e1,⟨oT,e2,r⟩,e3⟩:=hT i kv e
  exact⟨T,key,e1,⟨oT,hk' T _ (OF (Ou e2)) (OF (Ou (k1 _ _ (up _ _ e2)))) (k1 _ _ (up _ _ e2)),r⟩,e3⟩
 .exact⟨_,OC _ rfl,rfl,rfl⟩
 .obtain⟨o,es,ep,q,r⟩:=hnew
  exact⟨o,es,ep,Of _ (k1 _ _ q),r⟩
end
def sM(K:Frag)(H:Hp)(v:V)(p:Str×V):Prop:=∃t,v=.ref t/\SqT K H t [.str p.1,p.2]
section
variable {X:Cx}
theorem tO(I:Inv X pins σ H s):∀{vs:List V}{kvs:List (Str×V)}{its:List Oa},Sf (sM X.K H) vs kvs->Vals vs its ->
  ∃rs:List (Key×Oa),KV (kvs.map cV) rs/\rs.length=its.length/\∀(i:Nat) (kv:Key×Oa),rs[i]? = some kv->∃T key,its[i]? = some (OZ T)/\Ux s.heap T #[key,kv.2]/\(bE X.prog X.w).is kv.1 key=true
 |_,_,_,.nil,.nil=>⟨[],.nil,rfl,fun i kv e=>by simp at e⟩
 |_,p::_,u::_,.cons h t,.cons r q=>by
  obtain⟨rs,k1,k2,k3⟩:=tO I t q;obtain⟨a,rfl,hs⟩:=h;obtain⟨its,rv,tp,_⟩:=I.tuple hs;obtain⟨u1,u2,rfl,r1,r2⟩:=vals2 rv;cases (show u=OZ a from r);refine⟨(OT p.1,u2)::rs,.cons ⟨rfl,r2⟩ k1,by simp[k2],fun i kv e=>?_⟩
  cases i with
  |zero=>
   simp at e;subst e;exact⟨a,u1,rfl,tp,hW (k:=OT p.1) r1⟩
  |succ i=>
   simp at e;obtain⟨T,key,e1,e2,e3⟩:=k3 i kv e;exact⟨T,key,by simpa using e1,e2,e3⟩
theorem Bf(hcm:X.calm=true):CallR X (.type "dict") (fun xs H Q=>∃(a:Addr) (vs:List V) (kvs:List (Str×V)),xs=[V.ref a]/\SqL X.K H a vs/\Sf (sM X.K H) vs kvs/\kvs.length<=Om/\∀p,H p=none->Q (.ref p) (upd H p (.dK (fR [] (kvs.map cV))))):=by
 intro pins s σ H xs us Q I r h;obtain⟨a,vs,kvs,rfl,hs,hp,hz,q⟩:=h;obtain⟨u,rfl,ru⟩:=vals1 r;cases ru;obtain⟨its,rv,pl,_⟩:=I.list hs;obtain⟨⟨cls,dd,data,sl⟩,n,e,c,d1,d2⟩:=pl;simp only at c d1 d2;subst c d1 d2;obtain⟨rs,k1,k2,k3⟩:=tO I hp rv;have hl:(kvs.map cV).length=rs.length:=k1.length;rw[OS] at hl
 refine z5 (knd:=bE X.prog X.w) (I.ok.hd hcm) rs (by omega) (by simp[k2]) e (fun i kv ei=>by
  obtain⟨T,key,e1,e2,e3⟩:=k3 i kv ei
  exact⟨T,key,by simpa using e1,e2,e3⟩) fun h' tk dd' keep=>?_
 have hn:H s.heap.objs.size=none:=I.hok.fresh (Ol _);have h1:=sS (kvs.map cV) [];rw[Re,OS] at h1;refine⟨.ref s.heap.objs.size,_,I.laid (t':=tk) (o:=.dK (fR [] (kvs.map cV))) keep (Ol _) (n9 (by omega) (beq_eq_false_iff_ne.mpr (Qa (OF I.big))) (k1.merge .nil) dd'),rfl,q _ hn⟩
def pairD:N9->Option (Str×N9)
 |.tuple [.str k,x]=>some (k,x)
 |_=>none
def iN:List N9->Option (List (Str×N9))
 |[]=>some []
 |d::r=>match pairD d with
  | some p=>(match iN r with
   |some ps=>some (p::ps)
   | none=>none)
  |none=>none
theorem CL(h:pairD d=some p):d=.tuple [.str p.1,p.2]:=by
 unfold pairD at h;split at h
 .cases h;rfl
 .cases h
theorem u6{K:Frag}{O:Addr->Prop}{H:Hp}:∀{vs:List V}{ds:List N9}{ps:List (Str×N9)},Reps K O H vs ds->iN ds=some ps->∃kvs:List (Str×V),Sf (sM K H) vs kvs/\kvs.map (·.1)=ps.map (·.1)/\RepK K O H (kvs.map cV) (ib ps)
 |_,_,_,.nil,e=>by cases e;exact⟨[],.nil,rfl,.nil⟩
 |_,_,ps,.cons (d:=d) r t,e=>by
  unfold iN at e;split at e
  .rename_i p hp
   split at e
   .rename_i q hq
    cases e;obtain⟨kvs,h1,h2,h3⟩:=u6 t hq;rw[CL hp] at r
    cases r with
    |@tup a _ _ tt rr=>
     cases rr with
     |cons ra rr=>
      cases rr with
      |@cons v _ _ _ rb rr=>
       cases rr;cases ra;exact⟨(p.1,v)::kvs,.cons ⟨a,rfl,tt.sq⟩ h1,by simp[h2],.cons (k:=OT p.1) rb h3⟩
   .cases e
  .cases e
def sD(l:List (Str×N9)):Bool:=decide ((l.map (·.1)).Nodup)&&decide (l.length<=1000)
end
section
variable {prog:OB}{w:OV}{A:O5}{E:Oa->Od->Prop}{s:Od}
theorem AK(K:PySem.W.KdlSrc prog w T r d n P OK)(hh:A.handled=none)(hok:OK s.heap)(hn:n<=Om)
  (hQ:∀h' tk acc,(∀b o,s.heap.get? b=some o->h'.get? b=some o)->s.heap.objs.size<h'.objs.size->ItemsOf P acc n->Q acc.toList { s with heap:=h',toks:=tk }):OU (OQ prog w) A (collect (.ref r)) Q E s:=by
 have lt:=K.there _ hok;have hS:(s.heap.push { cls:=.type "list",data:=.seq #[] }).get? s.heap.objs.size=some { cls:=.type "list",data:=.seq #[] }:=OC _ rfl;unfold collect;refine On (wpAny_runValue (RY PySem.F.entry_proto_collect ?_));rw[Ue PySem.F.plain_proto_collect _];show OU _ A.in1 (newList [] >>= fun l=>WF (.builtin "list.__iadd__" ⟨[l,.ref r],[]⟩)) _ _ s;refine On (PP (OD ⟨plainId_quiet S7 _,RY PySem.F.entry_list_iadd ?_⟩));rw[Ue S7 _];show OU _ A.in1 (VN (.ref s.heap.objs.size) (.ref r) (.ref s.heap.objs.size)) _ _ _
 refine PySem.W.kdl_extend (R:=fun r s'=>match r with
  | .ok (.ret v)=>OU (OQ prog w) A (match v with
   | .ref a=>(do match (←load a).data with
    |.seq xs _=>pure xs.toList
    | _=>unsupported "internal:collect")
   | _=>unsupported "internal:collect") Q E s'
  |.ok _=>False
  | .error e=>E e s') (A:=A) (s:={ s with heap:=s.heap.push { cls:=.type "list",data:=.seq #[] } }) K hh (K.keep _ _ hok fun b _ o e=>Of _ e) s.heap.objs.size (Rx lt.1) (Rx lt.2) (.ref s.heap.objs.size) 0 hS (fun h' tk acc c k1 k2 k3=>?_) hn
 refine On (VR k2 (OD ?_));exact hQ h' tk acc (fun b o e=>k1 b o (OF (Ou e)) (Of _ e)) (Ou k2) k3
end
section
variable {X:Cx}
end
section
variable {X:Cx}
end
section
variable {X:Cx}
theorem Bd(hcm:X.calm=true):CallR X (.builtin "sorted") (fun xs H Q=>∃a kvs ss,xs=[V.ref a]/\Rd H a (.dK kvs)/\kvs.map (fun p=>kV p.1)=ss.map V.str/\ss.length<64/\∀l,H l=none->Q (.ref l) (upd H l (.lst ((bI ss).map V.str)))):=by
 intro pins s σ H xs us Q I r h;obtain⟨a,kvs,ss,rfl,ha,hk,h64,q⟩:=h;obtain⟨u,rfl,ru⟩:=vals1 r;cases ru;obtain⟨z,y,vs,kv,dd⟩:=dM I.hok ha;obtain⟨ep,dd⟩:=dd.dictAt;have hl:=kv.length
 have hlen:kvs.length=ss.length:=by have:=congrArg SE hk;simpa using this
 refine Calls.call_function_entry kind_sorted plain_sorted entry_sorted (args_sorted1 _) ?_;unfold R8.«sorted»;refine On (m:=checkCount "sorted" 1 1 _) (OD ?_);refine On (AK (Vp (prog:=X.prog) (w:=X.w) (knd:=bE X.prog X.w) (kvs:=vs) (ep:=ep) y) (I.ok.hd hcm) dd (by omega) fun h' tk acc k1 k2 k3=>?_);have hv:Vals (kvs.map fun p=>kV p.1) acc.toList:=pL (P:=X.prog) (w:=X.w) kv (by rw[Pp];exact k3.1) fun j v e=>k3.2 j v (by simpa using e);rw[hk] at hv;have hS:=qe hv
 have hal:acc.toList.length=ss.length:=by have:=hv.length;simpa using this.symm
 refine On (wpAny_newList ?_);have hoL:(h'.push (WV "list" acc.toList.toArray 0)).get? h'.objs.size=some (WV "list" acc.toList.toArray 0):=OC _ rfl;refine On (Qz (SU slot_list_sort ⟨_,hoL,rfl⟩ entry_list_sort (list_sort_treeK strKind_oneLt hoL hS.keysOf (fun v1 v2 rest e=>keyKind_strs (by rw[←e];exact hS)) (by omega) fun st' a1 a2=>⟨_,rfl,?_⟩) (args_list_sort _)));refine OD ⟨_,rfl,?_⟩;obtain⟨ss',b1,b2,b3⟩:=sorted_out_str hS a1 a2;have e:ss'=bI ss:=pA (b2.trans (fD ss).symm) (tI b3) (pj ss);subst e;obtain⟨e2,he⟩:=sortedHeap_at (out:=(arrOf st').map (·.2)) hoL
 have keep:∀b o,s.heap.get? b=some o->(sortedHeap (h'.push (WV "list" acc.toList.toArray 0)) h'.objs.size acc.toList ((arrOf st').map (·.2))).get? b=some o:=fun b o q=>by
  have q':=k1 b o q;have lt:=Ou q';rw[sortedHeap_old (OF lt) (by rw[size_push'];exact RF lt)];exact Of _ q'
 have hn:H h'.objs.size=none:=I.hok.fresh (QL k2);have hlen2:(bI ss).length=ss.length:=(fD ss).length_eq;exact⟨.ref h'.objs.size,_,I.laid (t':=tk) (o:=.lst ((bI ss).map V.str)) keep (QL k2) ⟨by simp;exact QL (OA (by omega:(bI ss).length<64) (by decide)),((arrOf st').map (·.2)).toList,e2,pE b1,by simpa[WV,-Array.toList_map] using he⟩,rfl,q _ hn⟩
def fQ:N9->Option N9
 |.dict ds=>iU (dm (dq ds))
 |_=>none
theorem Bp(h:fQ x=some y):∃ds ss,x=.dict ds/\dm (dq ds)=some ss/\ss.length<64/\y=.list ((bI ss).map .str):=by
 cases x with
 |dict ds=>
  have h':iU (dm (dq ds))=some y:=h;unfold iU at h';split at h'
  .rename_i ss hs
   split at h'
   .rename_i hl
    cases h';exact⟨ds,ss,rfl,hs,hl,rfl⟩
   .cases h'
  .cases h'
 |_=>cases h
theorem vx(hm:X.mg "sorted"=none)(ha:DE X e fe)(hc:X.calm=true:=by rfl)(hg:Gl X "sorted":=by rfl)(hs:Oh [e] X.env=(false,eval e X.env)::Oh [] X.env:=by exact bf rfl)
  (hpl:(Pb pos (Oh [] X.env)).any (·.1)=false:=by exact bR rfl):DE X (.Call (.Name "sorted" p) [e] [] pos) (fUn fQ fe):=by
 refine⟨?_⟩;refine bC (kJ (Bd hc) hg hm boot_sorted (bY ha.pe b7 hs) (by decide) (by decide) hs hpl) fun σ H Q=>?_;rintro⟨O,ts,ρ,T,w,T',hc,re,e,q⟩;obtain⟨w1,T1,e1,e⟩:=aJ e;obtain⟨x,d,hv,hd,rfl,rfl⟩:=jJ e;obtain⟨ds,ss,rfl,hs',hl,rfl⟩:=Bp hd;refine⟨O,ts,ρ,T,w1,T',hc,re,e1,fun v1 H1 s1 hc1 r1=>?_⟩;obtain⟨a,kvs,rfl,t,r⟩:=(hc1.view r1 hv).dct;have rk:=pT (O':=O) (H':=H1) r;refine⟨a,kvs,ss,rfl,t,m8 rk hs',hl,fun l hl'=>?_⟩;exact q _ _ (s1.trans (.new hl' _)) (hc1.new hl' _) (hc1.newL hl' (kB _))
end
end D
namespace XE
open L2
abbrev vE:List Value:=[.type "ValueError",.type "Exception",.type "BaseException",.type "object"]
def XCl(K:Frag)(C:Addr)(tl:List Oa):Prop:=∃nm q N bs sn sub ab col dd k0 k1 k2 k3 k5,K.lookup C=some (excClassObj nm q C N bs tl true sn sub ab col dd k0 k1 k2 k3 k5 "ValueError.__new__")/\PySem.W.nsOkIn K N=true
section
variable {prog:OB}{w:OV}{A:O5}{E:Oa->Od->Prop}{h:Heap}{g:Array US}{d:Drawn}{t:Nat}{os:OsState}{K:Frag}{C R fI:Addr}
end
end XE
namespace XE
open L2
def XAt(e C:Addr)(od:Option Addr):Heap->Prop:=fun h=>∃t,h.get? e=some { cls:=.ref C,dict:=od,data:=.fields #[.ref t,.none,.none,.none,.bool false,.none] }
section
variable {X:Cx}{C R:Addr}
end
section
open Builtin Builtin.ObjectAttr
variable {prog:OB}{w:OV}{A:O5}{E:Oa->Od->Prop}{h:Heap}{g:Array US}{d:Drawn}{t:Nat}{os:OsState}{K:Frag}{C R e:Addr}{name:Str}{v:Oa}{vs:Array Oa}
end
end XE
namespace XE
open L2
section
variable {X:Cx}{C R:Addr}
end
end XE
namespace XE
open L2
def spI(C:Addr)(f:Str):Sp:=fun vs H Q _=>∃a x,vs=[.ref a,.str x]/\H a=some (.ext (XAt a C none))/\(reprText x).length+1000<=Om /\
 ∀dx,H dx=none->dx≠a->Q .non (upd (upd H dx (.xd [(f,.str x)])) a (.ext (XAt a C (some dx))))
structure XIni(P:OB)(w:OV)(K:Frag)(mg:Str->Option Oa)(base:Heap)(C R:Addr)(f:Str)(k:Nat):Prop where
 ex:∃fI fd ps,FnOk P w K mg base CX0 k fI fd ps (spI C f)/\Binds K fd ps []/\Pv K (.ref C) "__init__"=some (some (.ref fI))/\R5 K (.ref fI)=true
 c:XCl K C (.ref R::vE)
 r:XCl K R vE
 ri:UG K "__init__" (.ref R)=some none
 kp:PC K (.ref C)=true
section
variable {X:Cx}{C R:Addr}{f:Str}{k:Nat}
end
end XE
namespace XE
open L2
structure Kp(xs fs:List Addr)(h h':Heap):Prop where
 keep:∀b o,h.get? b=some o->b∉xs->b∉fs->h'.get? b=some o
 slot:∀b o,h.get? b=some o->b∉xs->b∈fs->∃sl,h'.get? b=some { o with slots:=sl }
 there:∀b o,h.get? b=some o->∃o',h'.get? b=some o'
section
variable {M:Model}{A:O5}{E:Oa->Od->Prop}{s:Od}{base:Heap}{env:Env}{outer:List Env}{L e C dx T:Addr}
end
end XE
namespace XE
open L2
section
variable {P:OB}{w:OV}{K:Frag}{mg:Str->Option Oa}{base:Heap}{N:List Str}{qual:Str}{scope:Qi}{f C R:Addr}{cdv:Oa}{A:O5}{outer:List Env}{s0:Od}{H0:Hp}{E:XK}
end
end XE
namespace XE
open L2
section
variable {X:Cx}{pins:List (Addr×Obj)}{σ:L2.St}{H:Hp}{s:Od}
end
end XE
namespace XE
open L2
section
variable {X:Cx}{C R fa:Addr}{k:Nat}{fd:PZ}{ps:List Str}{sp:Sp}
end
end XE
namespace XE
open L2
section
variable {prog:OB}{w:OV}{A:O5}{E:Oa->Od->Prop}{h:Heap}{g:Array US}{d:Drawn}{t:Nat}{os:OsState}{K:Frag}{C R x:Addr}{ox:Obj}{od:Option Obj}{name:Str}
structure XIs(K:Frag)(C:Addr):Prop where
 bm:UB K C (.type "BaseException")=some true
 gt:Pv K (.ref C) "__getattr__"=some none
 ga:Pv K (.ref C) "__getattribute__"=some (some (.builtin "BaseException.__getattribute__"))
 hc:(PySem.W.clsIn K C).isSome=true
 ca:Pv K (.ref C) "__class__"=some (some (.builtin "object.__class__"))
 hn:SA K (.builtin "object.__class__") "__get__"=some (some (.builtin "getset_descriptor.__get__"))
 tk:VC K (.builtin "object.__class__")=some true
 hm:UB K C (.type "object")=some true
end
end XE
namespace XE
open L2
section
variable {X:Cx}{C e dx:Addr}{oe:Obj}
structure Cau(X:Cx)(C e dx:Addr)(oe:Obj):Prop where
 pin:(e,oe)∈X.pn
 cls:oe.cls=.ref C
 dict:oe.dict=some dx
 data:∃vs,oe.data=.fields vs
 is:XIs X.K C
 hd:Sz X.K C=true
end
end XE
namespace XE
open L2 D
structure XB(K:Frag)(C R:Addr)(f:Str)(Ds:List Addr):Prop where
 c:XCl K C (.ref R::vE)
 r:XCl K R vE
 ri:UG K "__init__" (.ref R)=some none
 kp:PC K (.ref C)=true
 is:XIs K C
 hd:Sz K C=true
 nn:Pv K (.ref C) f=some none
 sa:Pv K (.ref C) "__setattr__"=some (some (.builtin "object.__setattr__"))
 rd:PySem.W.readsIn K R (.type "type")=true
 fc:PySem.W.findCls K (.ref R) (.type "type") "__init__"=some (.val (.builtin "ValueError.__init__"))
 kC:PD K (.ref C) (.ref C)=some true
 kV:PD K (.ref C) (.type "ValueError")=some true
 kD:Ud K (.ref C) (Ds.map OZ)=some false
end XE
namespace XE
open L2
section
variable {X:Cx}{C R:Addr}
end
end XE
namespace XE
open L2 D
def spG(P:V->Prop)(C:Addr)(f:Str):Sp:=fun vs H Q _=>∃a v,vs=[.ref a,v]/\H a=some (.ext (XAt a C none))/\P v /\
 ∀dx,H dx=none->dx≠a->Q .non (upd (upd H dx (.xd [(f,v)])) a (.ext (XAt a C (some dx))))
structure XIniG(A:V->Prop)(P:OB)(w:OV)(K:Frag)(mg:Str->Option Oa)(base:Heap)(C R:Addr)(f:Str)(k:Nat):Prop where
 ex:∃fI fd ps,FnOk P w K mg base CX0 k fI fd ps (spG A C f)/\Binds K fd ps []/\Pv K (.ref C) "__init__"=some (some (.ref fI))/\R5 K (.ref fI)=true
 c:XCl K C (.ref R::vE)
 r:XCl K R vE
 ri:UG K "__init__" (.ref R)=some none
 kp:PC K (.ref C)=true
section
variable {X:Cx}{C R:Addr}{f:Str}{k:Nat}
end
end XE
namespace XE
open L2 D
end XE
namespace D
open L2
section
variable {X:Cx}
end
section
variable {X:Cx}
variable {pos:Pos}{e:Expr}{fe:FE}
end
section
variable {prog:OB}{w:OV}{A:O5}{E:Oa->Od->Prop}
end
section
variable {X:Cx}{pos:Pos}
end
section
variable {X:Cx}{pos:Pos}{e:Expr}{fe:FE}
def xc(i:Nat)(ρ:Rho)(T:Tp)(o:Option N9):Option ((Fl×Rho)×Tp):=match o with
 |some (.list xs)=>some ((.nx,ρ.set i (some (.loc (.list xs)))),T)
 |_=>none
def nZ(i:Nat)(f:FE):FS:=fun ρ T=>bnd (f ρ T) fun w T1=>xc i ρ T1 (view T1 w)
theorem Dq(hm:X.mg "list"=none)(hN:X.N.Nodup)(he:DE X e fe)(hg:Gl X "list":=by rfl)
  (hse:Oh [e] X.env=(false,eval e X.env)::Oh [] X.env:=by exact bf rfl) (hpl:(Pb cpos (Oh [] X.env)).any (·.1)=false:=by exact bR rfl) (hi:X.N[i]? = some x:=by rfl) (hx:Loc X.env.scope x:=by first|exact Pc rfl|exact OW rfl)
  (hs:Pm (.Call (.Name "list" p) [e] [] cpos) (some (.Name x pos')) pos.line X.env=pure false:=by rfl) (hf:X.fn x=true\/X.env.scope.names.lookup x=some .local:=by first|exact .inl rfl|exact .inr rfl|assumption) :
  DS X (.Assign [.Name x pos'] (.Call (.Name "list" p) [e] [] cpos) pos) (nZ i fe):=by
 refine⟨?_⟩;refine bF (eC hN hi hx (jn call_list_of hg hm Qt (bY he.pe b7 hse) (by decide) (by decide) hse hpl) hs hf) fun D σ H=>?_;rintro⟨O₀,H₀,F,ts,O,ρ,T,fl,ρ',T',rs,e,q⟩;obtain⟨w,T1,e1,e⟩:=aJ e;refine⟨O,ts,ρ,T,w,T1,rs.hc,rs.re,e1,fun v H1 s1 hc1 r1=>?_⟩;have rs1:=rs.step s1 hc1;unfold xc at e;split at e
 .rename_i xs h1
  cases e;obtain⟨a,vs,rfl,t,r⟩:=(hc1.view r1 h1).lst;exact⟨a,vs,rfl,.inl t,fun p hp=>q _ _ _ (rs1.own hp r)⟩
 .cases e
end
section
variable {X:Cx}
theorem any_range(bs:List Bool)(n:Nat)(hn:n=bs.length):(Py n).any (fun i=>bs.getD i false)=bs.any id:=by
 subst hn
 induction bs with
 |nil=>rfl
 |cons b r ih=>
  rw[OH,List.range_succ_eq_map,PU,Tw,PU,←ih];rfl
theorem DX(hc:X.calm=true):CallR X (.builtin "any") (fun xs H Q=>∃(p:Addr) (bs:List Bool),xs=[.ref p]/\SqL X.K H p (bs.map V.bl)/\Q (.bl (bs.any id)) H):=by
 intro pins s σ H xs us Q I r h;obtain⟨p,bs,rfl,hq,q⟩:=h;obtain⟨u,rfl,ru⟩:=vals1 r;cases ru;obtain⟨its,rv,pl,hz⟩:=I.list hq
 have hlen:its.length=bs.length:=by have:=rv.length;simpa using this.symm
 have hlt:p<s.heap.objs.size:=by
  obtain⟨o,n,e,_⟩:=pl;exact Ou e
 refine call_any_walk (Qf pl.isList ?_);refine⟨s.heap.objs.size,_,_,_,_,_,fun i=>bs.getD i false,rfl,VZ (A:=X.A.in1) (I.ok.hd hc) _ p (OF hlt) its.toArray,⟨⟨_,OC _ rfl,rfl,rfl⟩,?_⟩,fun i v s' Q' E' hv hQ'=>?_,fun h' tk hk=>?_⟩
 .obtain⟨o,n,e,r⟩:=pl.isList
  exact⟨o,Of _ n,e,r⟩
 .have hi:i<its.length:=by
   have:=(QZ.mp hv).1;simpa using this
  have hi2:i<bs.length:=by omega
  obtain⟨u,hu,ru⟩:=rv.get (i:=i) (x:=.bl bs[i]) (by simp[hi2])
  have e:v=u:=by
   have hv':its[i]? = some v:=by simpa using hv
   rw[hu] at hv';exact(O8 hv').symm
  subst e;cases (show v=Se bs[i] from ru);refine Pz ?_
  have e:bs[i]=bs.getD i false:=by simp[S3,hi2]
  rw[e];exact hQ'
 .have e:(Py its.toArray.size).any (fun i=>bs.getD i false)=bs.any id:=any_range bs _ (by simpa using hlen)
  rw[e];exact⟨.bl _,H,I.kept (t':=tk) fun b o q=>hk b o (by simp;exact OF (Ou q)) (Of _ q),rfl,q⟩
def oX:List N9->Option N9
 |[.list xs]=>(gy xs).map fun bs=>.bool (bs.any id)
 |_=>none
theorem JB(hc:X.calm=true:=by rfl):d6 X (.builtin "any") oX:=⟨_,DX hc,fun O ts H T vs xs d Q hc h e q=>by
 unfold oX at e;split at e
 .obtain⟨bs,e1,rfl⟩:=OY.mp e
  obtain⟨v,rfl,g⟩:=cJ h;obtain⟨a,vs,rfl,t,r⟩:=g.lst;rw[qu r e1] at t;exact⟨a,bs,rfl,t,q _ H (.refl _ _) hc (.bl _)⟩
 .cases e⟩
end
section
variable {X:Cx}{pos:Pos}{e:Expr}{fe:FE}
def rW(i j:Nat)(ρ:Rho)(T:Tp)(o:Option (Option W)):Option ((Fl×Rho)×Tp):=match o with
 | some (some (.loc (.list xs)))=>if i=j then none else (match xs[xs.length-1]? with
  |some y=>some ((.nx,(ρ.set i (some (.loc (.list xs.dropLast)))).set j (some (.d y))),T)
  | none=>none)
 |_=>none
def j5(i j:Nat):FS:=fun ρ T=>rW i j ρ T ρ[i]?
theorem FC(hNd:X.N.Nodup)(hN:X.N[i]? = some x:=by rfl)(hv:Vis X.env.scope x:=by first|exact Pc rfl|exact OW (Pc rfl)|exact OW (OW rfl))(hd:(x == ("__debug__" : Str))=false:=by decide)
  (hcd:(x == ("__classdict__" : Str))=false:=by decide) (hj:X.N[j]? = some y:=by rfl) (hy:Loc X.env.scope y:=by first|exact Pc rfl|exact OW rfl)
  (hbase:Pa (.Name x p) "pop" X.env (eval (.Name x p) X.env)=eval (.Name x p) X.env:=by rfl) (hline:(apos.endLine == cpos.line)=true:=by rfl)
  (hs:Pm (.Call (.Attribute (.Name x p) "pop" apos) [] [] cpos) (some (.Name y pos')) pos.line X.env=pure false:=by rfl) (hf:X.fn y=true\/X.env.scope.names.lookup y=some .local:=by first|exact .inl rfl|exact .inr rfl|assumption) :
  DS X (.Assign [.Name y pos'] (.Call (.Attribute (.Name x p) "pop" apos) [] [] cpos) pos) (j5 i j):=by
 refine⟨?_⟩;refine bF (eC hNd hj hy (rC Pi TN TQ xu (pv i hN hv hd hcd) hbase hline) hs hf) fun D σ H=>?_;rintro⟨O₀,H₀,F,ts,O,ρ,T,fl,ρ',T',rs,e,q⟩;unfold j5 rW at e;split at e
 .rename_i xs h1
  split at e
  .cases e
  .rename_i hij
   split at e
   .rename_i y0 hy0
    cases e;obtain⟨v,k1,a,rfl,k2,k3,vs,k4,k5⟩:=rs.re i _ h1;obtain⟨vy,hvy,ry⟩:=k5.getD hy0;have hl:=k5.length
    have rd:Reps X.K O H vs.dropLast xs.dropLast:=by
     rw[TR,TR,hl];exact k5.take _
    have rs1:=rs.put (us:=[]) h1 k1 rd;have rs2:=rs1.set (i:=j) (v:=vy) (w:=.d y0) (Rep.mono (fun b o n z=>⟨n,by rw[aQ (show b≠a from fun z=>n (by rw[z];exact k2))];exact z⟩) ry) (fun _ z=>nomatch z);exact⟨_,k1,.inl ⟨rfl,vs,SqL.of k4⟩,a,vs,vy,rfl,rfl,k4,by rw[hl];exact hvy,q O _ _ rs2⟩
   .cases e
 .cases e
end
def dF(ds:List (N9×N9))(s:Str):List (N9×N9):=ds.filter fun p=>match p.1 with
 |.str x=>decide (x≠s)
 |_=>true
theorem vt{K:Frag}{O:Addr->Prop}{H:Hp}{s:Str}:∀{kvs:List (Key×V)}{ds:List (N9×N9)},RepK K O H kvs ds->RepK K O H (c8 kvs (OT s:Key)) (dF ds s)
 |_,_,.nil=>.nil
 |_,_,.cons (k:=k) (v:=v) (d:=d) (kvs:=kvs) (ds:=ds) r t=>by
  have ih:=vt (s:=s) t
  rcases k with i|x
  .have e1:c8 (((Ru i:Key),v)::kvs) (OT s:Key)=((Ru i:Key),v)::c8 kvs (OT s:Key):=by simp[c8]
   have e2:dF ((dH (Ru i),d)::ds) s=(dH (Ru i),d)::dF ds s:=rfl;rw[e1,e2];exact .cons r ih
  .by_cases hx:x=s
   .have e1:c8 (((OT x:Key),v)::kvs) (OT s:Key)=c8 kvs (OT s:Key):=by simp[c8,hx]
    have e2:dF ((dH (OT x),d)::ds) s=dF ds s:=by simp[dF,dH,hx]
    rw[e1,e2];exact ih
   .have e1:c8 (((OT x:Key),v)::kvs) (OT s:Key)=((OT x:Key),v)::c8 kvs (OT s:Key):=by simp[c8,hx]
    have e2:dF ((dH (OT x),d)::ds) s=(dH (OT x),d)::dF ds s:=by simp[dF,dH,hx]
    rw[e1,e2];exact .cons r ih
section
variable {X:Cx}{pos:Pos}{e:Expr}{fe:FE}
theorem E1:MtM X "dict.pop" (fun x vs H Q=>∃(a:Addr) (kvs:List (Key×V)) (s:Str) (v:V),x=.ref a/\vs=[.str s]/\H a=some (.dK kvs)/\bQ kvs (OT s:Key)=some v/\Q v (upd H a (.dK (c8 kvs (OT s:Key))))):=by
 intro pins s σ H x vs v us Q I rx rv h;obtain⟨a,kvs,z,y,rfl,rfl,hA,hy,q⟩:=h;cases rx;obtain⟨u,rfl,ru⟩:=rv.one;exact Jy I hA (k:=OT z) ru hy (.inl rfl) fun w' s' I' r'=>⟨_,_,I',r',q⟩
def ma(i j:Nat)(ρ:Rho)(w:W)(T:Tp)(o1 o2:Option (Option W)):Option ((Fl×Rho)×Tp):=match w,o1,o2 with
 | .d (.str s),some (some (.loc (.list xs))),some (some (.loc (.dict ds)))=>(match ao ds s with
  |some y=>if xs.length<1000 then some ((.nx,(ρ.set j (some (.loc (.dict (dF ds s))))).set i (some (.loc (.list (xs++[y]))))),T) else none
  | none=>none)
 |_,_,_=>none
theorem F2(h:ma i j ρ w T o1 o2=some ((fl,ρ'),T')):∃s xs ds y,w=.d (.str s)/\o1=some (some (.loc (.list xs)))/\o2=some (some (.loc (.dict ds)))/\ao ds s=some y/\xs.length<1000/\((fl,ρ'),T')=((Fl.nx,(ρ.set j (some (W.loc (.dict (dF ds s))))).set i (some (W.loc (.list (xs++[y]))))),T):=by
 unfold ma at h;split at h
 .split at h
  .rename_i y hy
   split at h
   .rename_i hl
    exact⟨_,_,_,y,rfl,rfl,rfl,hy,hl,(O8 h).symm⟩
   .cases h
  .cases h
 .cases h
def sH(i j:Nat)(f:FE):FS:=fun ρ T=>bnd (f ρ T) fun w T1=>ma i j ρ w T1 ρ[i]? ρ[j]?
theorem HM(he:DE X e fe)(hN:X.N[i]? = some x:=by rfl)(hv:Vis X.env.scope x:=by first|exact Pc rfl|exact OW (Pc rfl)|exact OW (OW rfl))(hd:(x == ("__debug__" : Str))=false:=by decide)
  (hcd:(x == ("__classdict__" : Str))=false:=by decide) (hN2:X.N[j]? = some y:=by rfl) (hv2:Vis X.env.scope y:=by first|exact Pc rfl|exact OW (Pc rfl)|exact OW (OW rfl)) (hd2:(y == ("__debug__" : Str))=false:=by decide)
  (hcd2:(y == ("__classdict__" : Str))=false:=by decide) 
  (hbase:Pa (.Name x p) "append" X.env (eval (.Name x p) X.env)=eval (.Name x p) X.env:=by rfl)
  (hbase2:Pa (.Name y p2) "pop" X.env (eval (.Name y p2) X.env)=eval (.Name y p2) X.env:=by rfl)
  (hfew:((Pb cpos (Oh [.Call (.Attribute (.Name y p2) "pop" apos2) [e] [] cpos2] X.env)).all (fun x=>!x.1)&&(Qo cpos (PF [] X.env)).all (fun x=>x.1.isSome)
   && decide (([.Call (.Attribute (.Name y p2) "pop" apos2) [e] [] cpos2]:List Expr).length+([]:List Pq).length+(if ([]:List Pq).isEmpty then 0 else 1)<30))=true:=by exact f9 rfl)
  (hfew2:((Pb cpos2 (Oh [e] X.env)).all (fun x=>!x.1)&&(Qo cpos2 (PF [] X.env)).all (fun x=>x.1.isSome)
   && decide (([e]:List Expr).length+([]:List Pq).length+(if ([]:List Pq).isEmpty then 0 else 1)<30))=true:=by exact f9 rfl)
  (hline:(apos.endLine == cpos.line)=true:=by rfl) (hline2:(apos2.endLine == cpos2.line)=true:=by rfl)
  (hse:Oh [.Call (.Attribute (.Name y p2) "pop" apos2) [e] [] cpos2] X.env=(false,eval (.Call (.Attribute (.Name y p2) "pop" apos2) [e] [] cpos2) X.env)::Oh [] X.env:=by exact bf rfl)
  (hse3:Oh [e] X.env=(false,eval e X.env)::Oh [] X.env:=by exact bf rfl) (hplain:(Pb cpos (Oh [] X.env)).any (·.1)=false:=by exact bR rfl) (hplain2:(Pb cpos2 (Oh [] X.env)).any (·.1)=false:=by exact bR rfl)
  (hs:Pm (.Call (.Attribute (.Name x p) "append" apos) [.Call (.Attribute (.Name y p2) "pop" apos2) [e] [] cpos2] [] cpos) none pos.line X.env=pure false:=by rfl) :
  DS X (.Expr (.Call (.Attribute (.Name x p) "append" apos) [.Call (.Attribute (.Name y p2) "pop" apos2) [e] [] cpos2] [] cpos) pos) (sH i j fe):=by
 refine⟨?_⟩;refine bF (jx (g7 Pi QD QE mJ (pv i hN hv hd hcd) (bY (g7 Rr TL PySem.F.type_dict_pop E1 (pv j hN2 hv2 hd2 hcd2) (bY he.pe b7 hse3) hbase2 hfew2 hline2 hse3 hplain2) b7 hse) hbase hfew hline hse hplain) hs) fun D σ H=>?_;rintro⟨O₀,H₀,F,ts,O,ρ,T,fl,ρ',T',rs,e,q⟩;obtain⟨w,T1,e1,e⟩:=aJ e;obtain⟨s,xs,ds,y0,rfl,h1,h2,hy,hlen,e3⟩:=F2 e;cases e3;obtain⟨v,k1,a,rfl,k2,k3,vs,k4,k5⟩:=rs.re i _ h1;obtain⟨v',m1,b,rfl,m2,m3,kvs,m4,m5⟩:=rs.re j _ h2
 have hij:i≠j:=fun z=>by rw[z,h2] at h1;cases h1
 have hab:b≠a:=fun z=>hij (rs.dist i j _ _ (.ref a) h1 h2 k1 (by rw[m1,z]));refine⟨_,k1,.inl ⟨rfl,vs,SqL.of k4⟩,?_⟩;refine⟨_,m1,.inr (.inr (.inl ⟨rfl,.inl ⟨kvs,m4⟩⟩)),O,ts,ρ,T,_,_,rs.hc,rs.re,e1,fun u H1 s1 hc1 r1=>?_⟩;cases (show Rep X.K O H1 u (.str s) from r1);have rs1:=rs.step s1 hc1;have m4':=s1 _ _ m3 m4;have m5':=m5.mono (rs.hc.le s1);have k4':=s1 _ _ k3 k4;have k5':=k5.mono (rs.hc.le s1)
 rcases gP (s:=s) m5' with⟨z1,z2⟩|⟨vy,dy,z1,z2,ry⟩
 .rw[z1] at hy;cases hy
 rw[hy] at z1;cases z1;refine⟨b,kvs,s,vy,rfl,rfl,m4',z2,?_⟩;have leb:Le O H1 O (upd H1 b (.dK (c8 kvs (OT s:Key)))):=fun c o n z=>⟨n,by rw[aQ (show c≠b from fun y=>n (by rw[y];exact m2))];exact z⟩;have rs2:=rs1.putO h2 m1 (o:=.dK (c8 kvs (OT s:Key))) (ys:=.dict (dF ds s)) (.inr (.inl ⟨_,rfl⟩)) fun le=>⟨_,bt,vt (m5'.mono le)⟩
 have h1':(ρ.set j (some (W.loc (.dict (dF ds s)))))[i]? = some (some (.loc (.list xs))):=by rw[Oi hij.symm];exact h1
 refine⟨a,vs,vy,rfl,rfl,(aQ hab.symm).trans k4',by rw[k5.length];exact OA hlen (by decide),?_⟩;exact q O _ _ (rs2.put (us:=[]) h1' k1 ((k5'.mono leb).append (.cons (Rep.mono leb ry) .nil)))
end
section
variable {X:Cx}{pos:Pos}
def rL:FS:=fun ρ T=>some ((.ro .none,ρ),T)
theorem Dt:DS X (.Return (some (.Constant .none k p)) pos) rL:=by
 refine⟨?_⟩;refine bF (jG xn) fun D σ H=>?_;rintro⟨O₀,H₀,F,ts,O,ρ,T,fl,ρ',T',rs,e,q⟩;cases e;obtain⟨c,_⟩:=rs.keep (A:=fun _=>False) fun _ z=>z.elim;exact q (fun _=>False) .non H rs.same (fun _ z=>z.elim) c ⟨rfl,fun _ z=>z⟩
def rA(ρ:Rho)(T:Tp)(o:Option (Option W)):Option ((Fl×Rho)×Tp):=match o with
 |some (some (.loc (.list xs)))=>some ((.ro (.list xs),ρ),T)
 |_=>none
def ly(i:Nat):FS:=fun ρ T=>rA ρ T ρ[i]?
theorem Dv(hN:X.N[i]? = some x:=by rfl)(hv:Vis X.env.scope x:=by first|exact Pc rfl|exact OW (Pc rfl)|exact OW (OW rfl))(hd:(x == ("__debug__" : Str))=false:=by decide)(hcd:(x == ("__classdict__" : Str))=false:=by decide) :
  DS X (.Return (some (.Name x p)) pos) (ly i):=by
 refine⟨?_⟩;refine bF (jG (pv i hN hv hd hcd)) fun D σ H=>?_;rintro⟨O₀,H₀,F,ts,O,ρ,T,fl,ρ',T',rs,e,q⟩;unfold ly rA at e;split at e
 .rename_i xs h1
  cases e;obtain⟨v,k1,a,rfl,k2,k3,vs,k4,k5⟩:=rs.re i _ h1
  obtain⟨c,le⟩:=rs.keep (A:=fun c=>c=a) fun c hc=>by rw[hc];exact k2
  exact⟨_,k1,q (fun c=>c=a) (.ref a) H rs.same (fun c hc=>by rw[hc];exact rs.fresh i _ a h1 k1) c ⟨a,rfl,fun _=>Iff.rfl,vs,k4,k5.mono le⟩⟩
 .cases e
def xf(ρ:Rho)(x:N9)(T:Tp):Option ((Fl×Rho)×Tp):=match x with
 |.list xs=>some ((.ro (.list xs),ρ),T)
 |.none=>some ((.ro .none,ρ),T)
 |_=>none
def rM(m:FnM)(g:FA):FS:=fun ρ T=>bnd (g ρ T) fun ws T1=>bnd (m ws T1) (xf ρ)
theorem Du(F:Fn X.prog X.w X.K X.mg X.base name ps kk (spO X.K ps.length m))(hr:Room kk X.A)(hg:Gl X name)(ha:DA X (e::es) g)(hl:jf g ps.length)(hdb:(name == ("__debug__" : Str))=false:=by decide)
  (he:Oh (e::es) X.env=(false,eval e X.env)::Oh es X.env:=by exact bf rfl) (hpl:(Pb cpos (Oh es X.env)).any (·.1)=false:=by exact bR rfl) :
  DS X (.Return (some (.Call (.Name name p) (e::es) [] cpos)) pos) (rM m g):=by
 refine⟨?_⟩;refine bF (jG (ot F hr hg ha.pe hdb he hpl)) fun D σ H=>?_;rintro⟨O₀,H₀,F,ts,O,ρ,T,fl,ρ',T',rs,e,q⟩;obtain⟨ws,T1,e1,e⟩:=aJ e;obtain⟨x0,T2,e2,e⟩:=aJ e;refine⟨O,ts,_,T,ws,T1,rs.hc,rs.re,e1,fun vs H1 s1 hc1 r1=>?_⟩;have rs1:=rs.step s1 hc1;refine⟨O,ts,T1,ws,_,_,hc1,by rw[PV];exact r1,hl _ _ _ _ e1,e2,fun A v H2 s2 hA hc2 ov=>?_⟩;have rs2:=rs1.widen s2 hA hc2
 cases x0 with
 |list xs=>
  cases e;obtain⟨a,rfl,hAA,us,k1,k2⟩:=ov;have hAa:=hA a ((hAA a).mpr rfl);have nta:a∉ts:=fun z=>hAa.2 (hc1.own a z)
  have h0:H₀ a=none:=by
   cases z:H₀ a with
   |none=>rfl
   |some o=>have:=rs1.same a o nta z;rw[hAa.1] at this;cases this
  obtain⟨c,le⟩:=rs2.keep (A:=fun c=>c=a) (fun c hc=>.inr ((hAA c).mpr hc));exact q (fun c=>c=a) (.ref a) H2 (rs1.same.trans s2) (fun c hc=>by rw[hc];exact⟨h0,fun z=>hAa.2 (rs1.sub a z)⟩) c ⟨a,rfl,fun _=>Iff.rfl,us,k1,k2.mono le⟩
 |none=>
  cases e;obtain⟨rfl,hno⟩:=ov;obtain⟨c,_⟩:=rs2.keep (A:=fun _=>False) fun _ z=>z.elim;exact q (fun _=>False) .non H2 (rs1.same.trans s2) (fun _ z=>z.elim) c ⟨rfl,fun _ z=>z⟩
 |_=>cases e
def w8(i:Nat)(ρ:Rho)(x:N9)(T:Tp):Option ((Fl×Rho)×Tp):=match x with
 |.list xs=>some ((.nx,ρ.set i (some (.loc (.list xs)))),T)
 |.none=>some ((.nx,ρ.set i (some (.d .none))),T)
 |_=>none
def lu(i:Nat)(m:FnM)(g:FA):FS:=fun ρ T=>bnd (g ρ T) fun ws T1=>bnd (m ws T1) (w8 i ρ)
theorem Dp(F:Fn X.prog X.w X.K X.mg X.base name ps kk (spO X.K ps.length m))(hr:Room kk X.A)(hg:Gl X name)(hN:X.N.Nodup)(ha:DA X (e::es) g)(hl:jf g ps.length)(hdb:(name == ("__debug__" : Str))=false:=by decide)
  (he:Oh (e::es) X.env=(false,eval e X.env)::Oh es X.env:=by exact bf rfl) (hpl:(Pb cpos (Oh es X.env)).any (·.1)=false:=by exact bR rfl) (hi:X.N[i]? = some x:=by rfl) (hx:Loc X.env.scope x:=by first|exact Pc rfl|exact OW rfl)
  (hs:Pm (.Call (.Name name p) (e::es) [] cpos) (some (.Name x pos')) pos.line X.env=pure false:=by rfl) (hf:X.fn x=true\/X.env.scope.names.lookup x=some .local:=by first|exact .inl rfl|exact .inr rfl|assumption) :
  DS X (.Assign [.Name x pos'] (.Call (.Name name p) (e::es) [] cpos) pos) (lu i m g):=by
 refine⟨?_⟩;refine bF (eC hN hi hx (ot F hr hg ha.pe hdb he hpl) hs hf) fun D σ H=>?_;rintro⟨O₀,H₀,F,ts,O,ρ,T,fl,ρ',T',rs,e,q⟩;obtain⟨ws,T1,e1,e⟩:=aJ e;obtain⟨x0,T2,e2,e⟩:=aJ e;refine⟨O,ts,ρ,T,ws,T1,rs.hc,rs.re,e1,fun vs H1 s1 hc1 r1=>?_⟩;have rs1:=rs.step s1 hc1;refine⟨O,ts,T1,ws,_,_,hc1,by rw[PV];exact r1,hl _ _ _ _ e1,e2,fun A v H2 s2 hA hc2 ov=>?_⟩;have rs2:=rs1.widen s2 hA hc2
 cases x0 with
 |list xs=>
  cases e;obtain⟨a,rfl,hAA,oa⟩:=ov;have hAa:=hA a ((hAA a).mpr rfl);have nta:a∉ts:=fun z=>hAa.2 (hc1.own a z)
  have h0:H₀ a=none:=by
   cases z:H₀ a with
   |none=>rfl
   |some o=>have:=rs1.same a o nta z;rw[hAa.1] at this;cases this
  exact q _ _ _ (rs2.hold (i:=i) (.inr ((hAA a).mpr rfl)) nta ⟨h0,fun z=>hAa.2 (rs1.sub a z)⟩ (fun j ys q1 q2=>by
   obtain⟨v,h1,b,ea,h2,h3,h4⟩:=rs1.re j _ q1;rw[q2] at h1;cases h1;cases ea;obtain⟨o',h5⟩:=h4.some;rw[hAa.1] at h5
   cases h5) oa)
 |none=>
  cases e;obtain⟨rfl,hno⟩:=ov;exact q _ _ _ (rs2.set (i:=i) (v:=.non) (w:=.d .none) .non fun _ z=>nomatch z)
 |_=>cases e
def rm(i:Nat)(ρ:Rho)(T:Tp)(o:Option (List (Str×N9))):Option ((Fl×Rho)×Tp):=match o with
 |some l=>if sD l=true then some ((.nx,ρ.set i (some (.loc (.dict (ib l))))),T) else none
 |none=>none
def zv(o:Option N9):Option (List (Str×N9)):=match o with
 |some (.list ds)=>iN ds
 |_=>none
def lw(i:Nat)(f:FE):FS:=fun ρ T=>bnd (f ρ T) fun w T1=>rm i ρ T1 (zv (view T1 w))
theorem Dr(hm:X.mg "dict"=none)(hN:X.N.Nodup)(he:DE X e fe)(hcm:X.calm=true:=by rfl)(hg:Gl X "dict":=by rfl)
  (hse:Oh [e] X.env=(false,eval e X.env)::Oh [] X.env:=by exact bf rfl) (hpl:(Pb cpos (Oh [] X.env)).any (·.1)=false:=by exact bR rfl) (hi:X.N[i]? = some x:=by rfl) (hx:Loc X.env.scope x:=by first|exact Pc rfl|exact OW rfl)
  (hs:Pm (.Call (.Name "dict" p) [e] [] cpos) (some (.Name x pos')) pos.line X.env=pure false:=by rfl) (hf:X.fn x=true\/X.env.scope.names.lookup x=some .local:=by first|exact .inl rfl|exact .inr rfl|assumption) :
  DS X (.Assign [.Name x pos'] (.Call (.Name "dict" p) [e] [] cpos) pos) (lw i fe):=by
 refine⟨?_⟩;refine bF (eC hN hi hx (jn (Bf hcm) hg hm Um (bY he.pe b7 hse) (by decide) (by decide) hse hpl) hs hf) fun D σ H=>?_;rintro⟨O₀,H₀,F,ts,O,ρ,T,fl,ρ',T',rs,e,q⟩;obtain⟨w,T1,e1,e⟩:=aJ e;refine⟨O,ts,ρ,T,w,T1,rs.hc,rs.re,e1,fun v H1 s1 hc1 r1=>?_⟩;have rs1:=rs.step s1 hc1;unfold rm at e;split at e
 .rename_i l hl
  split at e
  .rename_i ho
   cases e;have nd:=of_decide_eq_true ((Oj _ _ ▸ ho).1);have hz:=of_decide_eq_true ((Oj _ _ ▸ ho).2);unfold zv at hl;split at hl
   .rename_i ds hv
    obtain⟨a,vs,rfl,t,r⟩:=(hc1.view r1 hv).lst;obtain⟨kvs,h1,h2,h3⟩:=u6 r hl
    have hlen:kvs.length=l.length:=by have:=congrArg SE h2;simpa using this
    refine⟨a,vs,kvs,rfl,t,h1,by rw[hlen];exact OX hz (by decide),fun p hp=>?_⟩
    have hm:fR [] (kvs.map cV)=kvs.map cV:=by
     have:=uq kvs [] (by rw[To,Rf,h2];exact nd);simpa using this
    rw[hm];exact q _ _ _ (rs1.ownO hp (.inr (.inl ⟨_,rfl⟩)) fun le=>⟨_,bt,h3.mono le⟩)
   .cases hl
  .cases e
 .cases e
end
def JG(_ j:Int):Prop:=0<j/\j<18446744073709551616
def gB:N9->N9->Option PyData:=iop fun i j=>if 0<j/\j<18446744073709551616 then some (.int (i / j)) else none
theorem IX(h:y.natAbs<18446744073709551616):Builtin.divisionGoesByPylong x y=false:=by
 refine PyProof.noPylong_of_log2 ?_
 by_cases h0:y.natAbs=0
 .rw[h0];decide +kernel
 .have h30:y.natAbs.log2<64:=(Ug h0).mpr h
  omega
section
variable {X:Cx}
theorem CN:OpR X (PY .FloorDiv) (rI JG fun i j=>.int (i / j)):=opI fun i j _ _ _ _ _ hc q=>by
 have h1:(0:Int)<j:=hc.1;have h2:j<18446744073709551616:=hc.2;exact floordiv_int (by omega) (by rw[Int.fdiv_eq_ediv_of_nonneg i (by omega)];exact q) (.inl (IX (by omega)))
theorem nr:OpD X (PY .FloorDiv) gB:=⟨_,CN,rh fun i j d e=>by
 split at e
 .rename_i h;cases e;exact⟨h,fun _ _=>.int _⟩
 .cases e⟩
end
end D
namespace L2
section
variable {prog:OB}{w:OV}{A:O5}{E:Oa->Od->Prop}{s:Od}
end
section
variable {X:Cx}{e:Expr}{te:TE}{x y:Str}{p p' pos pos':Pos}
end
end L2
namespace D
open L2
def Jd:N9->Option N9
 |.list xs=>some (.list xs.reverse)
 |_=>none
@[simp] theorem LX:Jd (.list xs)=some (.list xs.reverse):=rfl
section
variable {X:Cx}{pos pos' p p':Pos}{e:Expr}{f:FE}
end
section
variable {X:Cx}{pos:Pos}
end
def dd:List Str->List Str
 |[]=>[]
 |a::r=>if a∈r then dd r else a::dd r
section
variable {X:Cx}{pos:Pos}
end
end D
namespace L2
section
variable {P:OB}{w:OV}{A:O5}{E:Oa->Od->Prop}{s:Od}
end
def keyV:Oa->Str
 |.str k _=>k
 |_=>""
section
variable {P:OB}{w:OV}{A:O5}{s:Od}
end
section
variable {P:OB}{w:OV}{A:O5}{E:Oa->Od->Prop}{s:Od}
end
section
set_option maxHeartbeats 3200000
variable {P:OB}{w:OV}{A:O5}{E:Oa->Od->Prop}{s:Od}
end
section
set_option maxHeartbeats 3200000
variable {P:OB}{w:OV}{A:O5}{E:Oa->Od->Prop}{s:Od}
end
section
variable {P:OB}{w:OV}{A:O5}{E:Oa->Od->Prop}{s:Od}
end
section
variable {P:OB}{w:OV}{A:O5}{E:Oa->Od->Prop}{s:Od}
def TupAt(h:Heap)(q:Addr)(pl:Array Oa):Prop:=∃o n,h.get? q=some o/\o.data=.seq pl n
end
section
variable {P:OB}{w:OV}{A:O5}{E:Oa->Od->Prop}{s:Od}
end
section
variable {P:OB}{w:OV}{A:O5}{E:Oa->Od->Prop}{s:Od}
end
end L2
namespace D
open L2
section
variable {X:Cx}
end
section
variable {P:OB}{w:OV}{A:O5}{E:Oa->Od->Prop}{s:Od}
open PySem.SeqAt in
open PySem.SeqAt in
end
section
variable {X:Cx}{pins:List (Addr×Obj)}{σ:L2.St}{H:Hp}{s:Od}{O:Addr->Prop}{A:O5}
end
section
variable {P:OB}{w:OV}{A:O5}{E:Oa->Od->Prop}{s:Od}
end
section
variable {X:Cx}{pos:Pos}
end
section
variable {X:Cx}{pos:Pos}{e:Expr}{fe:FE}
end
section
variable {K:Frag}{O₀:Addr->Prop}{H₀:Hp}{F:List ((Addr->Prop)×Hp)}{ts:List Addr}{O:Addr->Prop}{H H1:Hp}{σ:L2.St}{ρ:Rho}{T T1:Tp}
end
section
variable {X:Cx}{pos:Pos}
end
section
variable {X:Cx}{pos pos2 pos3:Pos}
end
inductive LnT(P:Hp->(Bool->Hp->Prop)->Prop):Hp->(Bool->Hp->Prop)->Prop where
 |done {H:Hp}{Q:Bool->Hp->Prop}:P H Q->LnT P H Q
 |frz {H:Hp}{Q:Bool->Hp->Prop}{a:Addr}{kvs:List (Key×V)}:H a=some (.dK kvs)->(∀o,LnT P (upd H a (.frz o (.dK kvs))) (fun b H2=>H2 a=some (.frz o (.dK kvs))/\Q b (upd H2 a (.dK kvs))))->LnT P H Q
section
variable {X:Cx}{pos pos2 pos3 pos4:Pos}
end
section
variable {X:Cx}{pos:Pos}
end
section
variable {X:Cx}
end
section
variable {X:Cx}{pos:Pos}
end
end D
namespace L2
section
variable {X:Cx}
def PE1(X:Cx)(e:Expr)(t:TE):Prop:=∀(pins:List (Addr×Obj)) (s:Od) (σ:St) (H:Hp) (Q:VK),Inv X pins σ H s->1<=s.toks->t σ H Q->OU (OQ X.prog X.w) X.A (eval e X.env) (EP X pins σ Q) X.xe s
theorem PE.one1(h:PE X e t):PE1 X e t:=fun pins s σ H Q I _ q=>h pins s σ H Q I q
def Iq(to:TE)(y z:Str):TE:=fun σ H Q=>to σ H fun x H1=>∃w:Str,x=.str w/\w.length<=1048576/\z.length<=14/\(y == z)=false/\Q (.str (Px w y z)) H1
theorem As(ho:PE1 X o to)
  (hbase:Pa o "replace" X.env (eval o X.env)=eval o X.env:=by rfl)
  (hfew:((Pb cpos (Oh [.Constant (.str y) j1 p1,.Constant (.str z) j2 p2] X.env)).all (fun x=>!x.1)&&(Qo cpos (PF [] X.env)).all (fun x=>x.1.isSome)
   && decide (([.Constant (.str y) j1 p1,.Constant (.str z) j2 p2]:List Expr).length+([]:List Pq).length+(if ([]:List Pq).isEmpty then 0 else 1)<30))=true:=by rfl)
  (hline:(apos.endLine == cpos.line)=true:=by rfl) :
  PE1 X (.Call (.Attribute o "replace" apos) [.Constant (.str y) j1 p1,.Constant (.str z) j2 p2] [] cpos) (Iq to y z):=by
 intro pins s σ H Q I ht h;refine RC hbase hfew hline rfl ?_;refine wpAny_with_toks ht (Qn (ho pins s σ H _ I ht h) (fun v s1 q1 h1=>?_) fun _ _ e _=>e);obtain⟨x,H1,I1,r1,w,e,z1,z2,z3,q⟩:=q1;subst e;obtain⟨t,rfl⟩:=r1;obtain⟨h2,h3⟩:=nM (T:="str") (x:=.str w) I1 ⟨t,rfl⟩ rfl;refine⟨"str","str.replace",RH,PySem.F.slot_str_replace,PySem.F.type_str_replace,h2,h3,?_⟩;refine P0 (by rfl) (QX ?_);refine Rk (Sg (k:=j1) (pos:=p1) ?_);refine Rk (Sg (k:=j2) (pos:=p2) (SD ?_));exact SC.replaceW (by show s1.toks≠0;omega) (by show s1.toks+1≠0;omega) (by show s1.toks≠s1.toks+1;omega) z3 z1 z2 fun t' k=>⟨.str _,H1,I1.tok k,⟨t',rfl⟩,q⟩
theorem vX(h:PE1 X e t)(i:∀σ H Q,t' σ H Q->t σ H Q):PE1 X e t':=fun pins s σ H Q I k q=>h pins s σ H Q I k (i σ H Q q)
theorem GW{T:String}{name:Str}{id:String}{r:V->List V->Hp->VK->Prop}{o e:Expr}{es:List Expr}{to:TE}{t:TA}{apos cpos:Pos}(pa:VY T)(slot:Slot T name id)(hty:typeOf (.builtin id)=pure (.type "method_descriptor"))(hm:MtR X id r)(ho:PE1 X o to)(ha:PA X (e::es) t)
  (hbase:Pa o name X.env (eval o X.env)=eval o X.env)
  (hfew:((Pb cpos (Oh (e::es) X.env)).all (fun x=>!x.1)&&(Qo cpos (PF [] X.env)).all (fun x=>x.1.isSome)
   && decide ((e::es).length+([]:List Pq).length+(if ([]:List Pq).isEmpty then 0 else 1)<30))=true)
  (hline:(apos.endLine == cpos.line)=true) (hs:Oh (e::es) X.env=(false,eval e X.env)::Oh es X.env) (hplain:(Pb cpos (Oh es X.env)).any (·.1)=false) :
  PE1 X (.Call (.Attribute o name apos) (e::es) [] cpos) (tBM X.K T r to t):=by
 intro pins s σ H Q I k h;refine RC hbase hfew hline rfl (thn (ho pins s σ H _ I k h) fun v s1 q1=>?_);obtain⟨x,H1,I1,r1,ty,q1⟩:=q1;obtain⟨h1,h2⟩:=nM I1 r1 ty;have hA:=ha cpos pins s1 σ H1 _ I1 q1;refine⟨T,id,pa,slot,hty,h1,h2,?_⟩;rw[hs] at hA ⊢;refine P0 (by show (false||(Pb cpos (Oh es X.env)).any (·.1))=false;rw[hplain];rfl) (QX ?_)
 exact thn hA fun us s2 q2=>by
  obtain⟨vs,H2,I2,r2,q2⟩:=q2;exact hm pins s2 σ H2 x vs v us Q I2 r1 r2 q2
def PI1(X:Cx)(tg iter:Expr)(wi:TI):Prop:=
 ∀(pins:List (Addr×Obj)) (s:Od) (σ:St) (H:Hp) (R:It->Hp->Prop),Inv X pins σ H s->1<=s.toks->wi σ H R ->
  OU (OQ X.prog X.w) X.A (eval iter X.env) (fun v s1=>OU (OQ X.prog X.w) X.A (pyIter v) (PIE X pins σ tg R) X.xe s1) X.xe s
def iL1(K:Frag)(tl:TE):TI:=fun σ H R=>tl σ H fun x H1=>∃a xs,x=.ref a/\SqL K H1 a xs/\(xs.length<=Om->R (Itl K a) H1)
theorem CG(hl:PE1 X l tl):PI1 X tg l (iL1 X.K tl):=by
 intro pins s σ H R I k h;refine thn (hl pins s σ H _ I k h) fun v s1 q1=>?_;obtain⟨x,H1,I1,r1,q1⟩:=q1;obtain⟨a,xs,e,hq,q⟩:=q1;subst e;cases r1;obtain⟨its,rv,p,hz⟩:=I1.list hq;refine Qf p.isList ?_;refine⟨s1.heap.objs.size,[s1.heap.objs.size],_,_,H1,rfl,I1.kept (t':=s1.toks) fun b o e=>Of _ e,pM a _,⟨_,OC _ rfl,rfl,rfl⟩,fun b hb=>?_,q hz⟩
 have e:b=s1.heap.objs.size:=by simpa using hb
 subst e;exact I1.fpOk (Ol _) (I1.hok.fresh (Ol _))
def PS1(X:Cx)(st:Stmt)(t:TS):Prop:=∀(pins:List (Addr×Obj)) (s:Od) (σ:St) (H:Hp) (D:Ends),Inv X pins σ H s->1<=s.toks->t D σ H->OU (OQ X.prog X.w) X.A (exec st X.env) (SP X pins D) X.xe s
def mf(X:Cx)(st:List Stmt)(t:TS):Prop:=∀(pins:List (Addr×Obj)) (s:Od) (σ:St) (H:Hp) (D:Ends),Inv X pins σ H s->1<=s.toks->t D σ H->OU (OQ X.prog X.w) X.A (execs st X.env) (SP X pins D) X.xe s
theorem EJ(hp:Ro (OQ X.prog X.w) X.A X.env X.xe)(hc:X.calm=true)(hi:PI1 X tg iter wi)(hg:PG X tg g)(hb:PSs X body tb)
  (hs:∀x,O0 iter X.env x=pure x:=by intro _;rfl):PS1 X (.For tg iter body [] pos) (zj wi g tb):=by
 intro pins s σ H D I k0 h;refine wpAny_For (thn (hi pins s σ H _ I k0 h) fun v s1 h1=>thn h1 fun itv s2 h2=>?_) hs;obtain⟨it,fp,tn,J,H2,e,I2,T,st2,f2,W,⟨m0,w0⟩,turn⟩:=h2;subst e;have stat:∀{H':Hp},(∀b∈fp,H' b=none)->∀b∈fp,dU X pins H' b:=fun hn b hb=>⟨hn b hb,(f2 b hb).2⟩;refine Uo (fun n s'=>∃i σ' H',Inv X pins σ' H' s'/\tn i s'.heap/\(∀b∈fp,H' b=none)/\W i n σ' H') ?_ m0 ⟨0,σ,H2,I2,st2,fun b hb=>(f2 b hb).1,w0⟩;rintro n s3 ⟨i,σ3,H3,I3,st3,fr3,w3⟩
 rcases turn i n σ3 H3 w3 with⟨stop,qn⟩|⟨go,N,hN,step⟩
 .refine Pu hp (thn (T.done X rfl rfl rfl hc i pins s3 σ3 H3 X.xe I3 (stat fr3) st3 stop) fun r s4 ⟨hr,I4⟩=>?_)
  subst hr;exact QS ⟨σ3,H3,I4,qn⟩
 .refine Pu hp (thn (T.item X rfl rfl rfl hc i pins s3 σ3 H3 X.xe I3 (stat fr3) st3 go) fun r s4 ⟨u,hr,h4⟩=>?_)
  subst hr;refine Pu hp (thn h4 fun _ s5 ⟨x,H5,I5,r5,y5,st5,fr5⟩=>?_);have I5':=I5.pinned (stat fr5) (T.obj _ _ st5);refine Pu hp (thn (hg _ s5 σ3 H5 x u _ I5' r5 (step x H5 y5)) fun _ s6 ⟨σ6,H6,I6,q6⟩=>?_);refine Pu hp (thn (hb _ s6 σ6 H6 _ I6 q6) fun f s7 q7=>?_)
  have WF:∀{σ7:St}{H7:Hp},Inv X (pins++gq fp s5.heap) σ7 H7 s7->N σ7 H7->∃m,m<n/\∃i σ' H',Inv X pins σ' H' s7/\tn i s7.heap/\(∀b∈fp,H' b=none)/\W i m σ' H':=fun {σ7 H7} I7 n7=>by
   obtain⟨m',hm,w7⟩:=hN σ7 H7 n7;refine⟨m',hm,i+1,σ7,H7,I7.unpinned,T.keep _ _ _ st5 fun b hb o e=>(I7.pin (b,o) (Oo _ (Oo _ (jl hb e)))).1,fun b hb=>?_,w7⟩;obtain⟨o,e,d⟩:=T.obj _ _ st5 b hb;exact(I7.pin (b,o) (Oo _ (Oo _ (jl hb e)))).2.1
  cases f with
  |next=>obtain⟨σ7,H7,I7,n7⟩:=q7;exact WF I7 n7
  |cont=>obtain⟨σ7,H7,I7,n7⟩:=q7;exact WF I7 n7
  |brk=>obtain⟨σ7,H7,I7,q7⟩:=q7;exact⟨σ7,H7,I7.unpinned,q7⟩
  |ret v=>obtain⟨x7,σ7,H7,I7,r7,q7⟩:=q7;exact⟨x7,σ7,H7,I7.unpinned,r7,q7⟩
theorem EI(h:PS1 X e t)(i:∀D σ H,t' D σ H->t D σ H):PS1 X e t':=fun pins s σ H D I k q=>h pins s σ H D I k (i D σ H q)
theorem CB(h:mf X e t)(i:∀D σ H,t' D σ H->t D σ H):mf X e t':=fun pins s σ H D I k q=>h pins s σ H D I k (i D σ H q)
theorem Bv{st:Stmt}{rest:List Stmt}{t u:TS}(h1:PS1 X st t)(h2:PSs X rest u):mf X (st::rest) (zh t u):=by
 intro pins s σ H D I k h;refine RN (thn (h1 pins s σ H { D with nx:=u D } I k h) fun f s1 q=>?_)
 cases f with
 |next=>
  obtain⟨σ',H',I',q⟩:=q;exact h2 pins s1 σ' H' D I' q
 |ret v=>exact q
 |brk=>exact q
 |cont=>exact q
def PT1(X:Cx)(e:Expr)(t:TT):Prop:=∀(pins:List (Addr×Obj)) (s:Od) (σ:St) (H:Hp) (Q:Bool->Hp->Prop),Inv X pins σ H s->t σ H Q->OU (OQ X.prog X.w) X.A (VP e X.env (eval e X.env)) (fun b s'=>TP X pins σ Q b s'/\(b=false->1<=s'.toks)) X.xe s
theorem vW(h:PT1 X e t)(i:∀σ H Q,t' σ H Q->t σ H Q):PT1 X e t':=fun pins s σ H Q I q=>h pins s σ H Q I (i σ H Q q)
theorem EE(ho:OpR X (OM op) r)(ha:PE X a ta)(hm:QA op (.Constant (.int i) j p)=false):PT1 X (.Compare a [op] [.Constant (.int i) j p] pos) (rS (tOp r ta (tC (.int i)))):=by
 intro pins s σ H Q I h;refine TK (thn (ha pins s σ H _ I h) fun v s1 q1=>UK ?_) hm;obtain⟨x,H1,I1,r1,q1⟩:=q1;refine Qn (wpAny_toks_of (n:=1) (by show 1<=s1.toks+1;omega) (ho pins _ σ H1 x (.int i) v _ _ (I1.tok _) r1 ⟨_,rfl⟩ q1)) (fun c s3 q3=>?_) fun _ _ e=>e.2;obtain⟨k3,z,H3,I3,r3,k,e,q3⟩:=q3;subst e;cases r3;exact Pz ⟨⟨H3,I3,q3⟩,fun _=>k3⟩
theorem GM(ha:PT X a tA)(hb:PT1 X b tB'):PT1 X (.BoolOp .Or [a,b] pos) (tOr tA tB'):=by
 intro pins s σ H Q I h;refine Ve (thn (ha pins s σ H _ I h) fun c s1 q1=>?_);obtain⟨H1,I1,q1⟩:=q1
 cases c with
 |true=>exact⟨⟨H1,I1,q1⟩,fun z=>nomatch z⟩
 |false=>
  refine Ve (thn (hb pins s1 σ H1 Q I1 q1) fun c s2 e=>?_)
  cases c with
  |false=>exact isTrue_or_nil e
  |true=>exact e
def JN(tc:TT)(t u:TS):TS:=fun D σ H=>tc σ H fun b H1=>if b=true then t { D with nx:=fun _ _=>False } σ H1 else u D σ H1
theorem EF{c:Expr}{a rest:List Stmt}{tc:TT}{t u:TS}{pos:Pos}(hc:PT1 X c tc)(ha:PSs X a t)(hr:mf X rest u):PSs X (.If c a [] pos::rest) (JN tc t u):=by
 intro pins s σ H D I h;refine RN (wpAny_If (thn (hc pins s σ H _ I h) fun d s1 q1=>?_));obtain⟨⟨H1,I1,q1⟩,k⟩:=q1
 cases d with
 |true=>
  refine thn (ha pins s1 σ H1 _ I1 q1) fun f s2 q2=>?_
  cases f with
  |next=>obtain⟨_,_,_,z⟩:=q2;exact z.elim
  |ret v=>exact q2
  |brk=>exact q2
  |cont=>exact q2
 |false=>exact QS (hr pins s1 σ H1 D I1 (k rfl) q1)
end
end L2
namespace D
open L2
abbrev Stk:=List (List N9)
theorem C7{α:Type}(xs:List α)(x:α):ixN (xs++[x]).length (-1)=some xs.length:=by
 have h:(-1+((xs.length:Int)+1)).toNat=xs.length:=by omega
 have h1:(1:Int)<=(xs.length:Int)+1:=by omega
 simp[ixN,h,h1]
theorem D6{α:Type}(xs:List α)(x:α):atI (xs++[x]) (-1)=some x:=by
 unfold atI;rw[C7];simp
abbrev FK:=Rho->Stk->Tp->Option ((Fl×Rho×Stk)×Tp)
def JQ(s:Stk):PyData:=.list (s.reverse.map .list)
def onK(i:Nat)(ρ:Rho)(s:Stk):Rho:=ρ.set i (some (.loc (JQ s)))
inductive StkAt(K:Frag)(O:Addr->Prop)(H:Hp):List Addr->Stk->Prop where
 |nil:StkAt K O H [] []
 |cons {b:Addr}{bs:List Addr}{vs:List V}{ys:List N9}{s:Stk}:H b=some (.lst vs)->Reps K O H vs ys->StkAt K O H bs s->StkAt K O H (b::bs) (ys::s)
theorem StkAt.mono{K:Frag}{O O':Addr->Prop}{H H':Hp}(l:Le O H O' H'):∀{bs:List Addr}{s:Stk},StkAt K O H bs s->(∀b∈bs,∀o,H b=some o->H' b=some o)->StkAt K O' H' bs s
 |_,_,.nil,_=>.nil
 |_,_,.cons h r t,k=>.cons (k _ Oc _ h) (r.mono l) (StkAt.mono l t fun b hb=>k b (Ob _ hb))
theorem StkAt.length{K:Frag}{O:Addr->Prop}{H:Hp}:∀{bs:List Addr}{s:Stk},StkAt K O H bs s->bs.length=s.length
 |_,_,.nil=>rfl
 |_,_,.cons _ _ t=>congrArg (· + 1) t.length
theorem StkAt.reps{K:Frag}{O O':Addr->Prop}{H:Hp}(l:Le O H O' H):∀{bs:List Addr}{s:Stk},StkAt K O H bs s->(∀b∈bs,¬O' b)->Reps K O' H (bs.reverse.map V.ref) (s.reverse.map .list)
 |_,_,.nil,_=>.nil
 |_,_,.cons h r t,k=>by
  rw[P2,P2,Pk,Pk];exact(StkAt.reps l t fun b hb=>k b (Ob _ hb)).append (.cons (.lst (.inl ⟨k _ Oc,.inl h⟩) (r.mono l)) .nil)
structure KS(K:Frag)(O₀:Addr->Prop)(H₀:Hp)(ts:List Addr)(O:Addr->Prop)(H:Hp)(σ:L2.St)(i:Nat)(a:Addr)(bs:List Addr)(s:Stk):Prop where
 sa:σ[i]? = some (some (.ref a))
 ha:H a=some (.lst (bs.reverse.map V.ref))
 nd:(a::bs).Nodup
 ow:∀b∈a::bs,O b/\b∉ts/\H₀ b=none/\¬O₀ b
 st:StkAt K O H bs s
structure RK(K:Frag)(O₀:Addr->Prop)(H₀:Hp)(F:List ((Addr->Prop)×Hp))(ts:List Addr)(O:Addr->Prop)(H:Hp)(σ:L2.St)(ρ:Rho)(T:Tp)(i:Nat)(s:Stk):Prop where
 rs:RS K O₀ H₀ F ts O H σ ρ T
 pd:∀(j:Nat) (w:W),ρ[j]? = some (some w)->∃x,w=.d x
 ui:ρ[i]? = some none
 ks:∃a bs,KS K O₀ H₀ ts O H σ i a bs s
def JF(K:Frag)(O₀:Addr->Prop)(H₀:Hp)(F:List ((Addr->Prop)×Hp))(ts:List Addr)(i:Nat)(D:Ends)(ρ':Rho)(s':Stk)(T':Tp):Fl->Prop
 |.nx=>∀O' σ' H',RK K O₀ H₀ F ts O' H' σ' ρ' T' i s'->D.nx σ' H'
 |.bk=>∀O' σ' H',RK K O₀ H₀ F ts O' H' σ' ρ' T' i s'->D.bk σ' H'
 |.ct=>∀O' σ' H',RK K O₀ H₀ F ts O' H' σ' ρ' T' i s'->D.ct σ' H'
 |.rt x=>∀v H',SameX ts H₀ H'->HC K O₀ ts H' T'->Rep K O₀ H' v x->D.rt v H'
 |.ro _=>False
inductive LiftKP(K:Frag)(i:Nat)(f:FK)(D:Ends)(σ:L2.St)(H:Hp):Prop where
 |mk (O₀:Addr->Prop) (H₀:Hp) (F:List ((Addr->Prop)×Hp)) (ts:List Addr) (O:Addr->Prop) (ρ:Rho) (s:Stk) (T:Tp) (fl:Fl) (ρ':Rho) (s':Stk) (T':Tp) (rk:RK K O₀ H₀ F ts O H σ ρ T i s) (e:f ρ s T=some ((fl,ρ',s'),T')) (q:JF K O₀ H₀ F ts i D ρ' s' T' fl):LiftKP K i f D σ H
structure DK(X:Cx)(i:Nat)(s:Stmt)(f:FK):Prop where
 pe:PS X s (LiftKP X.K i f)
structure DKs(X:Cx)(i:Nat)(s:List Stmt)(f:FK):Prop where
 pe:PSs X s (LiftKP X.K i f)
section
variable {K:Frag}{O₀:Addr->Prop}{H₀:Hp}{F:List ((Addr->Prop)×Hp)}{ts:List Addr}{O:Addr->Prop}{H H1:Hp}{σ:L2.St}{ρ:Rho}{T T1:Tp}{i:Nat}{s:Stk}
theorem RS.lay0(r:RS K O₀ H₀ F ts O H σ ρ T)(pd:∀(j:Nat) (w:W),ρ[j]? = some (some w)->∃x,w=.d x)(hp:H p=none)(hm:Mut (some o)):Le O H (fun b=>O b\/b=p) (upd H p o)/\RS K O₀ H₀ F ts (fun b=>O b\/b=p) (upd H p o) σ ρ T:=by
 have le:Le O H (fun b=>O b\/b=p) (upd H p o):=fun a o n e=>by
  have z:a≠p:=dw e hp;exact⟨fun q=>q.elim n z,by rw[aQ z];exact e⟩
 refine⟨le,⟨fun b hb=>.inl (r.hc.own b hb),fun b hb=>?_,r.hc.nd,r.hc.len,fun j a ys e1 e2=>?_⟩,fun j w e=>?_,fun b hb=>.inl (r.sub b hb),r.ots,r.same.trans (.new hp _),fun j ys a e1 e2=>?_,fun j k ys zs v e1 e2 e3 e4=>?_,fun f hf=>(r.frs f hf).trans le,r.len⟩
 .by_cases z:b=p
  .subst z;rw[bt];exact hm
  .rw[aQ z]
   exact r.hc.trk b (hb.resolve_right z)
 .exact(r.hc.tape j a ys e1 e2).mono (fun o q=>by rw[aQ (dw q hp)];exact q) le
 .obtain⟨x,h1,h2⟩:=r.re j w e
  obtain⟨y,rfl⟩:=pd j w e;exact⟨x,h1,Rep.mono le h2⟩
 .obtain⟨y,z⟩:=pd _ _ e1;cases z
 .obtain⟨y,z⟩:=pd _ _ e1;cases z
theorem RS.wr0(r:RS K O₀ H₀ F ts O H σ ρ T)(pd:∀(j:Nat) (w:W),ρ[j]? = some (some w)->∃x,w=.d x)(oa:O a)(nt:a∉ts)(f1:H₀ a=none)(hm:Mut (some o)):Le O H O (upd H a o)/\RS K O₀ H₀ F ts O (upd H a o) σ ρ T:=by
 have le:Le O H O (upd H a o):=fun b o n e=>⟨n,by rw[aQ (show b≠a from fun z=>n (by rw[z];exact oa))];exact e⟩;refine⟨le,⟨r.hc.own,fun b hb=>?_,r.hc.nd,r.hc.len,fun j b zs q1 q2=>?_⟩,fun j w e=>?_,r.sub,r.ots,fun b o n e=>?_,fun j ys a e1 e2=>?_,fun j k ys zs v e1 e2 e3 e4=>?_,fun f hf=>(r.frs f hf).trans le,r.len⟩
 .by_cases z:b=a
  .subst z;rw[bt];exact hm
  .rw[aQ z];exact r.hc.trk b hb
 .exact(r.hc.tape j b zs q1 q2).mono (fun o q=>by rw[aQ (show b≠a from fun z=>nt (by rw[←z];exact O6 q1))];exact q) le
 .obtain⟨x,h1,h2⟩:=r.re j w e
  obtain⟨y,rfl⟩:=pd j w e;exact⟨x,h1,Rep.mono le h2⟩
 .have:=r.same b o n e
  rw[aQ (show b≠a from fun z=>by rw[z,f1] at e;cases e)];exact this
 .obtain⟨y,z⟩:=pd _ _ e1;cases z
 .obtain⟨y,z⟩:=pd _ _ e1;cases z
theorem RK.step(r:RK K O₀ H₀ F ts O H σ ρ T i s)(x:SameX ts H H1)(c:HC K O ts H1 T1):RK K O₀ H₀ F ts O H1 σ ρ T1 i s:=by
 obtain⟨rs,pd,ui,a,bs,k⟩:=r;exact⟨rs.step x c,pd,ui,a,bs,k.sa,x _ _ (k.ow a Oc).2.1 k.ha,k.nd,k.ow,k.st.mono (rs.hc.le x) fun b hb o e=>x _ _ (k.ow b (Ob _ hb)).2.1 e⟩
theorem RK.set(r:RK K O₀ H₀ F ts O H σ ρ T i s)(n:j≠i)(rv:Rep K O H v x):RK K O₀ H₀ F ts O H (σ.set j (some v)) (ρ.set j (some (.d x))) T i s:=by
 obtain⟨rs,pd,ui,a,bs,k⟩:=r;refine⟨rs.set (w:=.d x) rv (fun _ z=>nomatch z),fun m w e=>?_,by rw[Oi n];exact ui,a,bs,by rw[Oi n];exact k.sa,k.ha,k.nd,k.ow,k.st⟩
 by_cases z:j=m
 .subst z
  have hl:j<ρ.length:=by
   have:=(Og.mp e).1;simpa using this
  rw[Ow hl] at e;cases e;exact⟨x,rfl⟩
 .rw[Oi z] at e
  exact pd m w e
theorem RK.test(r:RK K O₀ H₀ F ts O H σ ρ T i s):∃O',HC K O' [] H []/\RelE K O' [] H σ (onK i ρ s):=by
 obtain⟨rs,pd,ui,a,bs,k⟩:=r;have le:Le O H (fun b=>O b/\b∉bs) H:=fun b o n e=>⟨fun z=>n z.1,e⟩;have hl:i<ρ.length:=(Og.mp ui).1;refine⟨fun b=>O b/\b∉bs,⟨fun _ h=>(nomatch h),fun b hb=>rs.hc.trk b hb.1,Q0,rfl,fun j b ys e1 e2=>(by simp at e1)⟩,fun j w e=>?_⟩;unfold onK at e
 by_cases z:i=j
 .subst z
  rw[Ow hl] at e;cases e;refine⟨.ref a,k.sa,a,rfl,⟨(k.ow a Oc).1,(OR.mp k.nd).1⟩,fun h=>(nomatch h),?_⟩;exact⟨_,k.ha,k.st.reps le fun b hb z=>z.2 hb⟩
 .rw[Oi z] at e
  obtain⟨x,h1,h2⟩:=rs.re j w e;obtain⟨y,rfl⟩:=pd j w e;exact⟨x,h1,Rep.mono le h2⟩
theorem RK.tested(r:RK K O₀ H₀ F ts O H σ ρ T i s)(x:SameX [] H H1):RK K O₀ H₀ F ts O H1 σ ρ T i s:=by
 have s1:SameX ts H H1:=fun b o _ e=>x b o (fun h=>nomatch h) e;refine r.step s1 (r.rs.hc.step s1 fun b hb=>?_);obtain⟨u,z⟩:=(r.rs.hc.trk b (r.rs.hc.own b hb)).ex;rw[z];exact x b _ (fun h=>nomatch h) z
theorem RK.less(r:RK K O₀ H₀ (f::F) ts O H σ ρ T i s):RK K O₀ H₀ F ts O H σ ρ T i s:=⟨r.rs.less,r.pd,r.ui,r.ks⟩
theorem RK.more(r:RK K O₀ H₀ F ts O H σ ρ T i s):RK K O₀ H₀ ((O,H)::F) ts O H σ ρ T i s:=⟨r.rs.more,r.pd,r.ui,r.ks⟩
end
theorem v4(pd:∀(j:Nat) (w:W),ρ[j]? = some (some w)->∃x,w=.d x):sO ρ:=fun i ds e=>by
 obtain⟨x,z⟩:=pd _ _ e;cases z
def e8:FK:=fun ρ s T=>some ((.nx,ρ,s),T)
def oz(g:FK)(p:Fl×Rho×Stk)(T:Tp):Option ((Fl×Rho×Stk)×Tp):=match p with
 |(.nx,ρ1,s1)=>g ρ1 s1 T
 |(fl,ρ1,s1)=>some ((fl,ρ1,s1),T)
def cP(f g:FK):FK:=fun ρ s T=>bnd (f ρ s T) (oz g)
def r8(j:Nat)(ρ:Rho)(s:Stk)(w:W)(T:Tp):Option ((Fl×Rho×Stk)×Tp):=match w with
 |.d x=>some ((.nx,ρ.set j (some (.d x)),s),T)
 |_=>none
def j9(j:Nat)(f:FE):FK:=fun ρ s T=>bnd (f ρ T) (r8 j ρ s)
def ja(f g:FK)(ρ:Rho)(s:Stk)(T:Tp)(b:Bool)(_:Tp):Option ((Fl×Rho×Stk)×Tp):=if b=true then f ρ s T else g ρ s T
def kIf(i:Nat)(c:FT)(f g:FK):FK:=fun ρ s T=>bnd (c (onK i ρ s) []) (ja f g ρ s T)
def r9(ρ:Rho)(s:Stk)(w:W)(T:Tp):Option ((Fl×Rho×Stk)×Tp):=match w with
 |.d x=>some ((.rt x,ρ,s),T)
 |_=>none
def ka(f:FE):FK:=fun ρ s T=>bnd (f (cb ρ) T) (r9 ρ s)
def Jj(k:FK)(p:Fl×Rho×Stk)(T:Tp):Option ((Fl×Rho×Stk)×Tp):=match p with
 |(.nx,ρ1,s1)=>k ρ1 s1 T
 |(.ct,ρ1,s1)=>k ρ1 s1 T
 |(.bk,ρ1,s1)=>some ((.nx,ρ1,s1),T)
 |(.rt x,ρ1,s1)=>some ((.rt x,ρ1,s1),T)
 |(.ro x,ρ1,s1)=>some ((.ro x,ρ1,s1),T)
def dD(j:Nat)(body:FK):List N9->FK
 |[]=>e8
 |d::r=>fun ρ s T=>bnd (body (ρ.set j (some (.d d))) s T) (Jj (dD j body r))
def kFor(j:Nat)(it:FI)(body:FK):FK:=fun ρ s T=>bnd (it ρ T) fun ds T1=>dD j body ds ρ s T1
def jZ:FK:=fun ρ s T=>if s.length<100000 then some ((.nx,ρ,[]::s),T) else none
def oA(ρ:Rho)(s:Stk)(k w:W)(T:Tp):Option ((Fl×Rho×Stk)×Tp):=match k,w,s with
 |.d (.int n),.d x,ys::r=>if n = -1/\ys.length<100000 then some ((.nx,ρ,(ys++[x])::r),T) else none
 |_,_,_=>none
def fm(fk fe:FE):FK:=fun ρ s T=>bnd (fk ρ T) fun k T1=>bnd (fe ρ T1) (oA ρ s k)
def lZ(j:Nat):FK:=fun ρ s T=>match s with
 |ys::r=>some ((.nx,ρ.set j (some (.d (.tuple ys))),r),T)
 |[]=>none
theorem pV:∀{ρ:Rho},nU ρ=true->∀(j:Nat) (w:W),ρ[j]? = some (some w)->∃x,w=.d x
 |[],_,_,_,e=>by simp at e
 |none::r,h,0,_,e=>by simp at e
 |none::r,h,j+1,w,e=>pV (ρ:=r) h j w (by simpa using e)
 |some (.d x)::r,h,0,_,e=>by simp at e;exact⟨x,e.symm⟩
 |some (.d x)::r,h,j+1,w,e=>pV (ρ:=r) h j w (by simpa using e)
 |some (.tp _)::_,h,_,_,_=>by cases h
 |some (.loc _)::_,h,_,_,_=>by cases h
def rH(ρ:Rho)(o:Option ((Fl×Rho×Stk)×Tp)):Option ((Fl×Rho)×Tp):=match o with
 |some ((.rt x,_,_),T)=>some ((.rt x,ρ),T)
 |_=>none
section
variable {X:Cx}{pos:Pos}{st:Stmt}{rest:List Stmt}{f g:FK}{e:Expr}{fe:FE}{c:FT}{i:Nat}
theorem wx:DKs X i [] e8:=by
 refine⟨?_⟩;refine iL qB fun D σ H=>?_;rintro⟨O₀,H₀,F,ts,O,ρ,s,T,fl,ρ',s',T',rs,e,q⟩;cases e;exact q O σ H rs
theorem qr(h1:DK X i st f)(h2:DKs X i rest g):DKs X i (st::rest) (cP f g):=by
 refine⟨?_⟩;refine iL (mV h1.pe h2.pe) fun D σ H=>?_;rintro⟨O₀,H₀,F,ts,O,ρ,s,T,fl,ρ',s',T',rs,e,q⟩;obtain⟨⟨fl1,ρ1,s1⟩,T1,e1,e⟩:=aJ e;refine⟨O₀,H₀,F,ts,O,ρ,s,T,fl1,ρ1,s1,T1,rs,e1,?_⟩
 cases fl1 with
 |nx=>exact fun O' σ' H' rs'=>⟨O₀,H₀,F,ts,O',ρ1,s1,T1,fl,ρ',s',T',rs',e,q⟩
 |rt x=>cases e;exact q
 |ro x=>cases e;exact q
 |bk=>cases e;exact q
 |ct=>cases e;exact q
theorem eW(h1:DK X i st f):DKs X i [st] f:=⟨qA h1.pe⟩
theorem HP(hN:X.N.Nodup)(he:DE X e fe)(hj:j≠i:=by decide)(hi:X.N[j]? = some x:=by rfl)(hx:Loc X.env.scope x:=by first|exact Pc rfl|exact OW rfl)(hs:Pm e (some (.Name x pos')) pos.line X.env=pure false:=by rfl)
  (hf:X.fn x=true\/X.env.scope.names.lookup x=some .local:=by first|exact .inl rfl|exact .inr rfl|assumption):DK X i (.Assign [.Name x pos'] e pos) (j9 j fe):=by
 refine⟨?_⟩;refine bF (eC hN hi hx he.pe hs hf) fun D σ H=>?_;rintro⟨O₀,H₀,F,ts,O,ρ,s,T,fl,ρ',s',T',rk,e,q⟩;obtain⟨w,T1,e1,e⟩:=aJ e;refine⟨O,ts,ρ,T,w,T1,rk.rs.hc,rk.rs.re,e1,fun v H1 s1 hc1 r1=>?_⟩
 cases w with
 |d x=>cases e;exact q O _ _ ((rk.step s1 hc1).set hj r1)
 |tp k=>cases e
 |loc xs=>cases e
theorem lS(hc:DT X ce c)(ha:DKs X i a f)(hb:DKs X i b g):DK X i (.If ce a b pos) (kIf i c f g):=by
 refine⟨?_⟩;refine bF (rV hc.pe ha.pe hb.pe) fun D σ H=>?_;rintro⟨O₀,H₀,F,ts,O,ρ,s,T,fl,ρ',s',T',rk,e,q⟩;obtain⟨b1,T1,e1,e⟩:=aJ e;obtain⟨O',c',re'⟩:=rk.test;refine⟨O',[],_,[],b1,T1,c',re',e1,fun H1 s1 hc1=>?_⟩
 cases b1 with
 |true=>exact eJ ⟨O₀,H₀,F,ts,O,ρ,s,T,fl,ρ',s',T',rk.tested s1,by simpa[ja] using e,q⟩
 |false=>exact eM ⟨O₀,H₀,F,ts,O,ρ,s,T,fl,ρ',s',T',rk.tested s1,by simpa[ja] using e,q⟩
theorem xY(he:DE X e fe):DK X i (.Return (some e) pos) (ka fe):=by
 refine⟨?_⟩;refine bF (jG he.pe) fun D σ H=>?_;rintro⟨O₀,H₀,F,ts,O,ρ,s,T,fl,ρ',s',T',rk,e,q⟩;obtain⟨w,T1,e1,e⟩:=aJ e;obtain⟨c0,re0⟩:=rk.rs.frz (v4 rk.pd);refine⟨O₀,ts,cb ρ,T,w,T1,c0,re0,e1,fun v H1 s1 hc1 r1=>?_⟩
 cases w with
 |d x=>cases e;exact q v H1 (rk.rs.same.trans s1) hc1 r1
 |tp k=>cases e
 |loc xs=>cases e
theorem FM(hN:X.N[i]? = some x:=by rfl)(hv:Vis X.env.scope x:=by first|exact Pc rfl|exact OW (Pc rfl)|exact OW (OW rfl))(hd:(x == ("__debug__" : Str))=false:=by decide)
  (hcd:(x == ("__classdict__" : Str))=false:=by decide) 
  (hbase:Pa (.Name x p) "append" X.env (eval (.Name x p) X.env)=eval (.Name x p) X.env:=by rfl)
  (hfew:((Pb cpos (Oh [.List [] lpos] X.env)).all (fun x=>!x.1)&&(Qo cpos (PF [] X.env)).all (fun x=>x.1.isSome)
   && decide (([.List [] lpos]:List Expr).length+([]:List Pq).length+(if ([]:List Pq).isEmpty then 0 else 1)<30))=true:=by exact f9 rfl)
  (hline:(apos.endLine == cpos.line)=true:=by rfl) (hse:Oh [.List [] lpos] X.env=(false,eval (.List [] lpos) X.env)::Oh [] X.env:=by exact bf rfl) (hplain:(Pb cpos (Oh [] X.env)).any (·.1)=false:=by exact bR rfl)
  (hs:Pm (.Call (.Attribute (.Name x p) "append" apos) [.List [] lpos] [] cpos) none pos.line X.env=pure false:=by rfl) :
  DK X i (.Expr (.Call (.Attribute (.Name x p) "append" apos) [.List [] lpos] [] cpos) pos) jZ:=by
 refine⟨?_⟩;refine bF (jx (g7 Pi QD QE mJ (pv i hN hv hd hcd) (bY (jH b7) b7 hse) hbase hfew hline hse hplain) hs) fun D σ H=>?_;rintro⟨O₀,H₀,F,ts,O,ρ,s,T,fl,ρ',s',T',rk,e,q⟩;unfold jZ at e;split at e
 .rename_i hz
  cases e;obtain⟨rs,pd,ui,a,bs,k⟩:=rk;refine⟨_,k.sa,.inl ⟨rfl,_,SqL.of k.ha⟩,PH _,fun b hb=>?_⟩;obtain⟨oa,nta,h0a,n0a⟩:=k.ow a Oc;have nO:=rs.hc.fresh hb;have ntb:b∉ts:=fun z=>nO (rs.hc.own b z)
  have h0b:H₀ b=none:=by
   cases e:H₀ b with
   |none=>rfl
   |some o=>rw[rs.same b o ntb e] at hb;cases hb
  have nab:a≠b:=fun z=>by have:=k.ha;rw[z,hb] at this;cases this
  obtain⟨le1,rs1⟩:=rs.lay0 pd hb (o:=.lst []) (.inl ⟨_,rfl⟩);obtain⟨le2,rs2⟩:=rs1.wr0 (a:=a) pd (.inl oa) nta h0a (o:=.lst (bs.reverse.map V.ref++[.ref b])) (.inl ⟨_,rfl⟩);have hl:=k.st.length
  have hsz:(bs.reverse.map V.ref).length<sizeLine:=by
   rw[OS,List.length_reverse,hl];exact OA hz (by decide)
  refine⟨a,_,_,rfl,rfl,by rw[aQ nab];exact k.ha,hsz,q _ _ _ ⟨rs2,pd,ui,a,b::bs,k.sa,?_,?_,?_,?_⟩⟩
  .rw[bt,P2,Pk];rfl
  .have:=OR.mp k.nd
   refine OR.mpr ⟨fun z=>?_,OR.mpr ⟨fun z=>?_,this.2⟩⟩
   .rcases Oy.mp z with z|z
    .exact nab z
    .exact this.1 z
   .exact nO (k.ow b (Ob _ z)).1
  .intro c hc
   rcases Oy.mp hc with z|z
   .subst z;exact⟨.inl oa,nta,h0a,n0a⟩
   .rcases Oy.mp z with z|z
    .subst z;exact⟨.inr rfl,ntb,h0b,fun q=>nO (rs.sub _ q)⟩
    .obtain⟨m1,m2,m3,m4⟩:=k.ow c (Ob _ z)
     exact⟨.inl m1,m2,m3,m4⟩
  .refine .cons (vs:=[]) (by rw[aQ (Qa nab),bt]) .nil (k.st.mono (le1.trans le2) fun c hc o e=>?_)
   rw[aQ (show c≠a from fun z=>(OR.mp k.nd).1 (z ▸ hc)),aQ (dw e hb)];exact e
 .cases e
theorem rN(hk:DE X ke fk)(he:DE X e fe)(hN:X.N[i]? = some x:=by rfl)(hv:Vis X.env.scope x:=by first|exact Pc rfl|exact OW (Pc rfl)|exact OW (OW rfl))(hd:(x == ("__debug__" : Str))=false:=by decide)
  (hcd:(x == ("__classdict__" : Str))=false:=by decide) (hix:nJ ke:=by exact fun _ _=>rfl)
  (hbase:Pa (.Subscript (.Name x p) ke spos) "append" X.env (eval (.Subscript (.Name x p) ke spos) X.env)=eval (.Subscript (.Name x p) ke spos) X.env:=by rfl)
  (hfew:((Pb cpos (Oh [e] X.env)).all (fun x=>!x.1)&&(Qo cpos (PF [] X.env)).all (fun x=>x.1.isSome)
   && decide (([e]:List Expr).length+([]:List Pq).length+(if ([]:List Pq).isEmpty then 0 else 1)<30))=true:=by exact f9 rfl)
  (hline:(apos.endLine == cpos.line)=true:=by rfl) (hse:Oh [e] X.env=(false,eval e X.env)::Oh [] X.env:=by exact bf rfl) (hplain:(Pb cpos (Oh [] X.env)).any (·.1)=false:=by exact bR rfl)
  (hs:Pm (.Call (.Attribute (.Subscript (.Name x p) ke spos) "append" apos) [e] [] cpos) none pos.line X.env=pure false:=by rfl) :
  DK X i (.Expr (.Call (.Attribute (.Subscript (.Name x p) ke spos) "append" apos) [e] [] cpos) pos) (fm fk fe):=by
 refine⟨?_⟩;refine bF (jx (g7 Pi QD QE mJ (rX ix_list (pv i hN hv hd hcd) hk.pe hix) (bY he.pe b7 hse) hbase hfew hline hse hplain) hs) fun D σ H=>?_;rintro⟨O₀,H₀,F,ts,O,ρ,s,T,fl,ρ',s',T',rk,e,q⟩;obtain⟨wk,T1,e1,e⟩:=aJ e;obtain⟨w,T2,e2,e⟩:=aJ e;unfold oA at e;split at e
 .rename_i n x0 ys s0 g1 g2
  split at e
  .rename_i hz
   cases e;obtain⟨rfl,hz⟩:=hz;have rk0:=rk;obtain⟨rs,pd,ui,a,bs,k⟩:=rk;refine⟨_,k.sa,O,ts,ρ,T,_,_,rs.hc,rs.re,e1,fun vk H1 s1 hc1 r1=>?_⟩;cases (show Rep X.K O H1 vk (.int _) from r1);have rk1:=rk0.step s1 hc1;have k':KS X.K O₀ H₀ ts O H1 σ i a bs (ys::s0):=⟨k.sa,s1 _ _ (k.ow a Oc).2.1 k.ha,k.nd,k.ow,k.st.mono (rs.hc.le s1) fun b hb o e=>s1 _ _ (k.ow b (Ob _ hb)).2.1 e⟩
   cases hst:k'.st with
   |@cons b bs' vs _ _ hb rb st'=>
   have nt:b∉ts:=(k.ow b (by simp)).2.1;refine⟨a,_,_,.ref b,rfl,rfl,SqL.of k'.ha,?_,.inl ⟨rfl,vs,SqL.of hb⟩,O,ts,ρ,T1,_,_,hc1,rk1.rs.re,e2,fun u H2 s2 hc2 r2=>?_⟩
   .rw[P2,Pk]
    exact D6 _ _
   .have rk2:=rk1.step s2 hc2
    obtain⟨ob,_,h0b,n0b⟩:=k.ow b (by simp);obtain⟨le3,rs3⟩:=rk2.rs.wr0 (a:=b) pd ob nt h0b (o:=.lst (vs++[u])) (.inl ⟨_,rfl⟩);have hl:=rb.length;have nab:a≠b:=fun z=>(OR.mp k.nd).1 (by rw[z];exact Oc);refine⟨b,vs,u,rfl,rfl,s2 _ _ nt hb,by rw[hl];exact OA hz (by decide),q _ _ _ ⟨rs3,pd,ui,a,b::bs',k.sa,?_,k.nd,k.ow,?_⟩⟩
    .rw[aQ nab];exact s2 _ _ (k.ow a Oc).2.1 k'.ha
    .refine .cons bt (((rb.mono (hc1.le s2)).append (.cons r2 .nil)).mono le3) (st'.mono ((hc1.le s2).trans le3) fun c hc o e=>?_)
     have n:c≠b:=fun z=>(OR.mp (OR.mp k.nd).2).1 (z ▸ hc);rw[aQ n];exact s2 _ _ (k.ow c (by simp[hc])).2.1 e
  .cases e
 .cases e
theorem HQ(hg:Gl X t)(hm:X.mg t=none)(hb:Qh t=some (.type "tuple"))(hNd:X.N.Nodup)(hj:j≠i:=by decide)(hN:X.N[i]? = some x:=by rfl)(hv:Vis X.env.scope x:=by first|exact Pc rfl|exact OW (Pc rfl)|exact OW (OW rfl))(hd:(x == ("__debug__" : Str))=false:=by decide)
  (hcd:(x == ("__classdict__" : Str))=false:=by decide)
  (hi:X.N[j]? = some y:=by rfl) (hy:Loc X.env.scope y:=by first|exact Pc rfl|exact OW rfl)
  (hn:t≠"__name__":=by decide) (hdb:(t == ("__debug__" : Str))=false:=by decide)
  (hbase:Pa (.Name x p) "pop" X.env (eval (.Name x p) X.env)=eval (.Name x p) X.env:=by rfl) (hline:(apos.endLine == cpos.line)=true:=by rfl)
  (hse:Oh [.Call (.Attribute (.Name x p) "pop" apos) [] [] cpos] X.env=(false,eval (.Call (.Attribute (.Name x p) "pop" apos) [] [] cpos) X.env)::Oh [] X.env:=by exact bf rfl) (hpl:(Pb dpos (Oh [] X.env)).any (·.1)=false:=by exact bR rfl)
  (hs:Pm (.Call (.Name t tp1) [.Call (.Attribute (.Name x p) "pop" apos) [] [] cpos] [] dpos) (some (.Name y pos')) pos.line X.env=pure false:=by rfl)
  (hf:X.fn y=true\/X.env.scope.names.lookup y=some .local:=by first|exact .inl rfl|exact .inr rfl|assumption) :
  DK X i (.Assign [.Name y pos'] (.Call (.Name t tp1) [.Call (.Attribute (.Name x p) "pop" apos) [] [] cpos] [] dpos) pos) (lZ j):=by
 refine⟨?_⟩;refine bF (eC hNd hi hy (jn sU hg hm hb (bY (rC Pi TN TQ xu (pv i hN hv hd hcd) hbase hline) b7 hse) hn hdb hse hpl) hs hf) fun D σ H=>?_;rintro⟨O₀,H₀,F,ts,O,ρ,s,T,fl,ρ',s',T',rk,e,q⟩
 cases s with
 |nil=>cases e
 |cons ys s0=>
  cases e;obtain⟨rs,pd,ui,a,bs,k⟩:=rk
  cases hst:k.st with
  |@cons b bs' vs ys s0 hb rb st'=>
  obtain⟨oa,nta,h0a,n0a⟩:=k.ow a Oc;obtain⟨ob,ntb,h0b,n0b⟩:=k.ow b (by simp);have nab:a≠b:=fun z=>(OR.mp k.nd).1 (by rw[z];exact Oc)
  have hdl:(((b::bs').reverse.map V.ref).dropLast)=bs'.reverse.map V.ref:=by
   rw[P2,Pk]
   exact Uh
  refine⟨_,k.sa,.inl ⟨rfl,_,SqL.of k.ha⟩,a,_,.ref b,rfl,rfl,k.ha,?_,b,vs,rfl,.inl ⟨SqL.of (by rw[aQ (Qa nab)];exact hb),fun l hl=>?_⟩⟩
  .rw[P2,Pk]
   simp
  .rw[hdl] at hl ⊢
   obtain⟨le1,rs1⟩:=rs.wr0 (a:=a) pd oa nta h0a (o:=.lst (bs'.reverse.map V.ref)) (.inl ⟨_,rfl⟩);have sx:SameX ts (upd H a (.lst (bs'.reverse.map V.ref))) (upd (upd H a (.lst (bs'.reverse.map V.ref))) l (.tup vs)):=.new hl _
   have rk1:RK X.K O₀ H₀ F ts O (upd H a (.lst (bs'.reverse.map V.ref))) σ ρ T i s':=by
    refine⟨rs1,pd,ui,a,bs',k.sa,bt,?_,?_,st'.mono le1 fun c hc o e=>?_⟩
    .have:=OR.mp k.nd
     exact OR.mpr ⟨fun z=>this.1 (Ob _ z),(OR.mp this.2).2⟩
    .intro c hc
     rcases Oy.mp hc with z|z
     .subst z;exact⟨oa,nta,h0a,n0a⟩
     .exact k.ow c (by simp[z])
    .rw[aQ (show c≠a from fun z=>(OR.mp k.nd).1 (z ▸ Ob _ hc))]
     exact e
   exact q _ _ _ ((rk1.step sx (rk1.rs.hc.new hl _)).set hj (rk1.rs.hc.newT hl (rb.mono le1)))
end
section
variable {ρ:Rho}{s:Stk}{T:Tp}{f g:FK}{fe fk:FE}{c:FT}{i j:Nat}
@[simp] theorem K2:e8 ρ s T=some ((.nx,ρ,s),T):=rfl
@[simp] theorem qN:cP f g ρ s T=bnd (f ρ s T) (oz g):=rfl
@[simp] theorem qp:oz g (.nx,ρ,s) T=g ρ s T:=rfl
@[simp] theorem KY:oz g (.rt x,ρ,s) T=some ((.rt x,ρ,s),T):=rfl
@[simp] theorem L3:j9 j fe ρ s T=bnd (fe ρ T) (r8 j ρ s):=rfl
@[simp] theorem KW:r8 j ρ s (.d x) T=some ((.nx,ρ.set j (some (.d x)),s),T):=rfl
@[simp] theorem Nj:kIf i c f g ρ s T=bnd (c (onK i ρ s) []) (ja f g ρ s T):=rfl
@[simp] theorem L6:ja f g ρ s T b T'=if b=true then f ρ s T else g ρ s T:=rfl
@[simp] theorem L4:ka fe ρ s T=bnd (fe (cb ρ) T) (r9 ρ s):=rfl
@[simp] theorem KZ:r9 ρ s (.d x) T=some ((.rt x,ρ,s),T):=rfl
@[simp] theorem K0:jZ ρ s T=if s.length<100000 then some ((.nx,ρ,[]::s),T) else none:=rfl
@[simp] theorem L7:fm fk fe ρ s T=bnd (fk ρ T) fun k T1=>bnd (fe ρ T1) (oA ρ s k):=rfl
@[simp] theorem K3:oA ρ (ys::s) (.d (.int n)) (.d x) T=if n = -1/\ys.length<100000 then some ((.nx,ρ,(ys++[x])::s),T) else none:=rfl
@[simp] theorem L5:lZ j ρ (ys::s) T=some ((.nx,ρ.set j (some (.d (.tuple ys))),s),T):=rfl
end
structure DE1(X:Cx)(e:Expr)(f:FE):Prop where
 pe:PE1 X e (lift X.K f)
structure DI1(X:Cx)(tg e:Expr)(f:FI):Prop where
 pe:PI1 X tg e (lI X.K f)
structure DT1(X:Cx)(e:Expr)(f:FT):Prop where
 pe:PT1 X e (liftT X.K f)
structure DK1(X:Cx)(i:Nat)(s:Stmt)(f:FK):Prop where
 pe:PS1 X s (LiftKP X.K i f)
structure DKs1(X:Cx)(i:Nat)(s:List Stmt)(f:FK):Prop where
 pe:mf X s (LiftKP X.K i f)
section
variable {X:Cx}
theorem DE.one1(h:DE X e f):DE1 X e f:=⟨h.pe.one1⟩
def g0(y z:Str):N9->Option N9
 |.str w=>if w.length<=1048576/\z.length<=14/\(y == z)=false then some (.str (Px w y z)) else none
 |_=>none
theorem tD(ho:DE1 X o fo)
  (hbase:Pa o "replace" X.env (eval o X.env)=eval o X.env:=by rfl)
  (hfew:((Pb cpos (Oh [.Constant (.str y) j1 p1,.Constant (.str z) j2 p2] X.env)).all (fun x=>!x.1)&&(Qo cpos (PF [] X.env)).all (fun x=>x.1.isSome)
   && decide (([.Constant (.str y) j1 p1,.Constant (.str z) j2 p2]:List Expr).length+([]:List Pq).length+(if ([]:List Pq).isEmpty then 0 else 1)<30))=true:=by rfl)
  (hline:(apos.endLine == cpos.line)=true:=by rfl) :
  DE1 X (.Call (.Attribute o "replace" apos) [.Constant (.str y) j1 p1,.Constant (.str z) j2 p2] [] cpos) (fUn (g0 y z) fo):=by
 refine⟨vX (As ho.pe hbase hfew hline) fun σ H Q=>?_⟩;rintro⟨O,ts,ρ,T,w,T',hc,re,e,q⟩;obtain⟨w1,T1,e1,e⟩:=aJ e;obtain⟨x,d,h1,h2,rfl,rfl⟩:=jJ e;refine⟨O,ts,ρ,T,w1,T',hc,re,e1,fun v1 H1 s1 hc1 r1=>?_⟩;unfold g0 at h2;split at h2
 .rename_i z0
  split at h2
  .rename_i hz
   cases h2;cases uH h1;cases (show Rep X.K O H1 v1 _ from r1);exact⟨z0,rfl,hz.1,hz.2.1,hz.2.2,q _ H1 s1 hc1 (.str _)⟩
  .cases h2
 .cases h2
theorem Cc(ho:DE1 X o fo)(he:DE X e fe)
  (hbase:Pa o "split" X.env (eval o X.env)=eval o X.env:=by rfl)
  (hfew:((Pb cpos (Oh [e] X.env)).all (fun x=>!x.1)&&(Qo cpos (PF [] X.env)).all (fun x=>x.1.isSome)
   && decide (([e]:List Expr).length+([]:List Pq).length+(if ([]:List Pq).isEmpty then 0 else 1)<30))=true:=by exact f9 rfl)
  (hline:(apos.endLine == cpos.line)=true:=by rfl) (hse:Oh [e] X.env=(false,eval e X.env)::Oh [] X.env:=by exact bf rfl) (hplain:(Pb cpos (Oh [] X.env)).any (·.1)=false:=by exact bR rfl) :
  DE1 X (.Call (.Attribute o "split" apos) [e] [] cpos) (af lj fo fe):=by
 refine⟨?_⟩;refine vX (GW RH QQ PySem.F.type_str_split CV ho.pe (bY he.pe b7 hse) hbase hfew hline hse hplain) fun σ H Q=>?_;rintro⟨O,ts,ρ,T,w,T',hc,re,e,q⟩;obtain⟨w1,T1,e1,e⟩:=aJ e;obtain⟨w2,T2,e2,e⟩:=aJ e;obtain⟨x,y,d,h1,h2,h3,rfl,rfl⟩:=jI e;unfold lj at h3;split at h3
 .rename_i z y
  split at h3
  .rename_i hz
   cases h3;cases uH h1;refine⟨O,ts,ρ,T,_,T1,hc,re,e1,fun v1 H1 s1 hc1 r1=>?_⟩;cases (show Rep X.K O H1 v1 _ from r1);refine⟨rfl,O,ts,ρ,T1,w2,T',hc1,re.mono hc s1,e2,fun v2 H2 s2 hc2 r2=>?_⟩;cases (hc2.view r2 h2).str;exact⟨z,y,rfl,rfl,hz.1,hz.2,fun l hl=>q _ _ (s1.trans (s2.trans (.new hl _))) (hc2.new hl _) (hc2.newL hl (kB _))⟩
  .cases h3
 .cases h3
def n6(f:FE):FI:=fun ρ T=>bnd (f ρ T) fun w T1=>match w with
 |.d (.list xs)=>some (xs,T1)
 |_=>none
theorem DB(h:DE1 X e f):DI1 X tg e (n6 f):=by
 refine⟨fun pins s σ H R I k q0=>CG h.pe pins s σ H R I k ?_⟩;obtain⟨O,ts,ρ,T,ds,T',hc,re,e,q⟩:=q0;obtain⟨w1,T1,e1,e⟩:=aJ e;refine⟨O,ts,ρ,T,w1,T1,hc,re,e1,fun v1 H1 s1 hc1 r1=>?_⟩;split at e
 .rename_i xs
  cases e;have rr:Rep X.K O H1 v1 (.list _):=r1
  cases rr with
  |lst t r=>exact⟨_,_,rfl,t.sq,fun hz=>q _ H1 s1 hc1 (.lst t r) (by rw[←r.length];exact hz)⟩
 .cases e
theorem Fy(ho:OpD X (OM op) g)(ha:DE X a fa)(hm:QA op (.Constant (.int i) j p)=false:=by first|exact rD _|with_unfolding_all rfl):DT1 X (.Compare a [op] [.Constant (.int i) j p] pos) (au (af g fa (fC (.int i)))):=by
 refine⟨?_⟩;obtain⟨r,hr,snd⟩:=ho;refine vW (EE hr ha.pe hm) fun σ H Q h=>?_;have h1:=k9 snd (qw h);obtain⟨O,ts,ρ,T,w,T',hc,re,e,q⟩:=h1;exact⟨O,ts,ρ,T,w,T',hc,re,e,fun v H' s c r=>gU (fun _ _=>.int i) _ _ _ (q v H' s c r)⟩
theorem HJ(ha:DT X a ta)(hb:DT1 X b tb):DT1 X (.BoolOp .Or [a,b] pos) (a8 ta tb):=by
 refine⟨?_⟩;refine vW (GM ha.pe hb.pe) fun σ H Q=>?_;rintro⟨O,ts,ρ,T,b,T',hc,re,e,q⟩;obtain⟨b1,T1,e1,e⟩:=aJ e;refine⟨O,ts,ρ,T,b1,T1,hc,re,e1,fun H1 s1 hc1=>?_⟩
 cases b1 with
 |false=>exact eM ⟨O,ts,ρ,T1,b,T',hc1,re.mono hc s1,by simpa using e,fun H2 s2 hc2=>q H2 (s1.trans s2) hc2⟩
 |true=>
  have e':some (true,T1)=some (b,T'):=by simpa using e
  cases e';exact eJ (q H1 s1 hc1)
variable {i:Nat}{f g:FK}
def kNo(f:FK):FK:=fun ρ s T=>match f ρ s T with
 |some ((.nx,_,_),_)=>none
 |o=>o
theorem FJ{ce:Expr}{c:FT}{a rest:List Stmt}{pos:Pos}(hc:DT1 X ce c)(ha:DKs X i a f)(hr:DKs1 X i rest g):DKs X i (.If ce a [] pos::rest) (cP (kIf i c (kNo f) e8) g):=by
 refine⟨?_⟩;refine iL (EF hc.pe ha.pe hr.pe) fun D σ H=>?_;rintro⟨O₀,H₀,F,ts,O,ρ,s,T,fl,ρ',s',T',rk,e,q⟩;obtain⟨⟨fl1,ρ1,s1⟩,T1,e0,e⟩:=aJ e;obtain⟨b1,T2,e1,e2⟩:=aJ e0;obtain⟨O',c',re'⟩:=rk.test;refine⟨O',[],_,[],b1,T2,c',re',e1,fun H1 s1' hc1=>?_⟩
 cases b1 with
 |true=>
  refine eJ ?_
  have e3:kNo f ρ s T=some ((fl1,ρ1,s1),T1):=by simpa[ja] using e2
  unfold kNo at e3;split at e3
  .cases e3
  .rename_i hne
   refine⟨O₀,H₀,F,ts,O,ρ,s,T,fl1,ρ1,s1,T1,rk.tested s1',e3,?_⟩
   cases fl1 with
   |nx=>exact absurd e3 (hne _ _ _)
   |rt x=>cases e;exact q
   |ro x=>cases e;exact q
   |bk=>cases e;exact q
   |ct=>cases e;exact q
 |false=>
  refine eM ?_
  have e3:some ((Fl.nx,ρ,s),T)=some ((fl1,ρ1,s1),T1):=by simpa[ja] using e2
  cases e3;exact⟨O₀,H₀,F,ts,O,ρ,s,T,fl,ρ',s',T',rk.tested s1',e,q⟩
theorem Ca{st:Stmt}{rest:List Stmt}(h1:DK1 X i st f)(h2:DKs X i rest g):DKs1 X i (st::rest) (cP f g):=by
 refine⟨?_⟩;refine CB (Bv h1.pe h2.pe) fun D σ H=>?_;rintro⟨O₀,H₀,F,ts,O,ρ,s,T,fl,ρ',s',T',rs,e,q⟩;obtain⟨⟨fl1,ρ1,s1⟩,T1,e1,e⟩:=aJ e;refine⟨O₀,H₀,F,ts,O,ρ,s,T,fl1,ρ1,s1,T1,rs,e1,?_⟩
 cases fl1 with
 |nx=>exact fun O' σ' H' rs'=>⟨O₀,H₀,F,ts,O',ρ1,s1,T1,fl,ρ',s',T',rs',e,q⟩
 |rt x=>cases e;exact q
 |ro x=>cases e;exact q
 |bk=>cases e;exact q
 |ct=>cases e;exact q
theorem FN(hN:X.N.Nodup)(hi:DI1 X (.Name x tpos) iter it)(hb:DKs X i body f)(hj:j≠i:=by decide)(hix:X.N[j]? = some x:=by rfl)(hx:Loc X.env.scope x:=by first|exact Pc rfl|exact OW rfl)
  (hf:X.fn x=true\/X.env.scope.names.lookup x=some .local:=by first|exact .inl rfl|exact .inr rfl|assumption) (hp:Ro (OQ X.prog X.w) X.A X.env X.xe:=by exact QT) (hc:X.calm=true:=by rfl)
  (hs:∀x,O0 iter X.env x=pure x:=by intro _;rfl):DK1 X i (.For (.Name x tpos) iter body [] pos) (kFor j it f):=by
 refine⟨?_⟩;refine EI (EJ hp hc hi.pe (fK hN hix hx hf) hb.pe hs) fun D σ H=>?_;rintro⟨O₀,H₀,F,ts,O,ρ,s,T,fl,ρ',s',T',rk,e,q⟩;obtain⟨ds,T1,e1,e⟩:=aJ e;refine⟨O,ts,ρ,T,ds,T1,rk.rs.hc,rk.rs.re,e1,fun J H1 s1 hc1 ok hz=>?_⟩;refine⟨fun k m σ H=>m=ds.length-k/\k<=ds.length/\∃O' ρk sk Tk,RK X.K O₀ H₀ ((O,H1)::F) ts O' H σ ρk Tk i sk/\dD j f (ds.drop k) ρk sk Tk=some ((fl,ρ',s'),T'),⟨_,rfl,PH _,O,ρ,s,T1,(rk.step s1 hc1).more,e⟩,?_⟩;rintro k m σ2 H2 ⟨rfl,hk,O',ρk,sk,Tk,rk2,ek⟩;obtain⟨k1,k2,k3⟩:=ok O' H2 (rk2.rs.frs _ Oc)
 by_cases hlt:k<ds.length
 .refine .inr ⟨k1 k hlt,fun σ3 H3=>∃O' ρk sk Tk,RK X.K O₀ H₀ ((O,H1)::F) ts O' H3 σ3 ρk Tk i sk/\dD j f (ds.drop (k+1)) ρk sk Tk=some ((fl,ρ',s'),T'),fun σ3 H3 n=>⟨ds.length-(k+1),by omega,rfl,hlt,n⟩,fun v H3 y=>?_⟩
  obtain⟨e2,d,hd,rd⟩:=k3 k v H3 y hlt;subst e2
  have hdr:ds.drop k=d::ds.drop (k+1):=by
   rw[PM hlt];have:=(Og.mp hd).2;rw[this]
  rw[hdr] at ek;obtain⟨⟨fl1,ρ1,s1'⟩,T3,e3,ek⟩:=aJ ek;refine⟨O₀,H₀,(O,H1)::F,ts,O',_,sk,Tk,fl1,ρ1,s1',T3,rk2.set (j:=j) (x:=d) hj rd,e3,?_⟩
  cases fl1 with
  |nx=>exact fun O3 σ3 H3 rs3=>⟨O3,ρ1,s1',T3,rs3,ek⟩
  |ct=>exact fun O3 σ3 H3 rs3=>⟨O3,ρ1,s1',T3,rs3,ek⟩
  |bk=>
   cases ek;exact fun O3 σ3 H3 rs3=>q O3 σ3 H3 rs3.less
  |rt x=>
   cases ek;exact q
  |ro x=>
   cases ek;exact q
 .have e:k=ds.length:=by omega
  subst e;rw[Pt (Ol _)] at ek;cases ek;exact .inl ⟨k2,q O' σ2 H2 rk2.less⟩
def lK:FK:=fun ρ s T=>match s.reverse with
 |ys::_=>some ((.rt (.list ys),ρ,s),T)
 |[]=>none
theorem StkAt.last{K:Frag}{O:Addr->Prop}{H:Hp}:∀{bs:List Addr}{s:Stk},StkAt K O H bs s->∀{ys:List N9}{r:Stk},s.reverse=ys::r->∃b vs bs',bs.reverse=b::bs'/\b∈bs/\H b=some (.lst vs)/\Reps K O H vs ys:=by
 intro bs s h
 induction h with
 |nil=>intro ys r e;cases e
 |@cons b bs vs ys0 s hb rb st ih=>
  intro ys r e;rw[P2] at e
  cases hs:s.reverse with
  |nil=>
   rw[hs] at e;have hl:=st.length
   have:bs=[]:=by
    have:s.length=0:=by have:=congrArg SE hs;simpa using this
    exact List.eq_nil_of_length_eq_zero (by omega)
   subst this;cases e;exact⟨b,vs,[],rfl,Oc,hb,rb⟩
  |cons y r'=>
   rw[hs] at e;obtain⟨b',vs',bs',h1,h2,h3,h4⟩:=ih hs
   have:y=ys:=by cases e;rfl
   subst this;exact⟨b',vs',bs'++[b],by rw[P2,h1];rfl,Ob _ h2,h3,h4⟩
theorem FL(hN:X.N[i]? = some x:=by rfl)(hv:Vis X.env.scope x:=by first|exact Pc rfl|exact OW (Pc rfl)|exact OW (OW rfl))(hd:(x == ("__debug__" : Str))=false:=by decide)(hcd:(x == ("__classdict__" : Str))=false:=by decide)
  (hix:nJ (.Constant (.int 0) kj kp):=by exact fun _ _=>rfl):DK X i (.Return (some (.Subscript (.Name x p) (.Constant (.int 0) kj kp) spos)) pos) lK:=by
 refine⟨?_⟩;refine bF (jG (rX ix_list (pv i hN hv hd hcd) xo hix)) fun D σ H=>?_;rintro⟨O₀,H₀,F,ts,O,ρ,s,T,fl,ρ',s',T',rk,e,q⟩;unfold lK at e;split at e
 .rename_i ys r hs
  cases e;obtain⟨rs,pd,ui,a,bs,k⟩:=rk;obtain⟨b,vs,bs',e1,hb,hH,hr⟩:=k.st.last hs;obtain⟨ob,ntb,h0b,n0b⟩:=k.ow b (Ob _ hb);obtain⟨c0,re0⟩:=rs.frz (v4 pd);have le:Le O H O₀ H:=fun a o n e=>⟨fun z=>n (rs.sub a z),e⟩;refine⟨_,k.sa,a,_,0,.ref b,rfl,rfl,SqL.of k.ha,?_,q (.ref b) H rs.same c0 (.lst (.inl ⟨n0b,.inl hH⟩) (hr.mono le))⟩;rw[e1];simp[atI,ixN]
 .cases e
def jP(i:Nat)(g:FK):FS:=fun ρ T=>if nU ρ=true/\i<ρ.length/\(ρ[i]?.join).isNone=true then rH ρ (g ρ [[]] T) else none
theorem B9{x:Str}{rest:List Stmt}{lpos lpos2 pos' pos:Pos}(hN:X.N.Nodup)(hr:DKs X i rest g)(hi:X.N[i]? = some x:=by rfl)(hx:Loc X.env.scope x:=by first|exact Pc rfl|exact OW rfl)
  (hse:Oh [.List [] lpos2] X.env=(false,eval (.List [] lpos2) X.env)::Oh [] X.env:=by exact bf rfl) (hs:Pm (.List [.List [] lpos2] lpos) (some (.Name x pos')) pos.line X.env=pure false:=by rfl) (hf:X.fn x=true\/X.env.scope.names.lookup x=some .local:=by first|exact .inl rfl|exact .inr rfl|assumption) :
  DSs X (.Assign [.Name x pos'] (.List [.List [] lpos2] lpos) pos::rest) (jP i g):=by
 refine⟨?_⟩;refine iL (mV (eC hN hi hx (jH (bY (jH b7) b7 hse)) hs hf) hr.pe) fun D σ H=>?_;rintro⟨O₀,H₀,F,ts,O,ρ,T,fl,ρ',T',rs,e,q⟩;unfold jP at e;split at e
 .rename_i hz
  obtain⟨h1,h2,h3⟩:=hz;have pd:=pV h1
  have ui:ρ[i]? = some none:=by
   rw[Pw h2] at h3 ⊢
   cases hh:ρ[i] with
   |none=>rfl
   |some w=>rw[hh] at h3;cases h3
  unfold rH at e;split at e
  .rename_i x0 ρ1 s1 T1 h4
   cases e;refine⟨PH _,fun b hb=>⟨show (1:Nat)<=Om by decide,fun p hp=>?_⟩⟩;obtain⟨le1,rs1⟩:=rs.lay0 pd hb (o:=.lst []) (.inl ⟨_,rfl⟩);obtain⟨le2,rs2⟩:=rs1.lay0 pd hp (o:=.lst [.ref b]) (.inl ⟨_,rfl⟩)
   have hs':i<σ.length:=by rw[rs.len];exact h2
   have nOb:=rs.hc.fresh hb;have nOp:=rs1.hc.fresh hp;have ntb:b∉ts:=fun z=>nOb (rs.hc.own b z);have ntp:p∉ts:=fun z=>nOp (rs1.hc.own p z)
   have h0:∀c,c∉ts->(∀o,H₀ c=some o->False)->H₀ c=none:=fun c _ h=>by
    cases e:H₀ c with
    |none=>rfl
    |some o=>exact(h o e).elim
   have h0b:H₀ b=none:=h0 b ntb fun o e=>by rw[rs.same b o ntb e] at hb;cases hb
   have h0p:H₀ p=none:=h0 p ntp fun o e=>by rw[rs1.same p o ntp e] at hp;cases hp
   have nbp:b≠p:=fun z=>by rw[←z,bt] at hp;cases hp
   have npb:p≠b:=fun z=>nbp z.symm;refine⟨O₀,H₀,F,ts,_,ρ,[[]],T,.rt x0,ρ1,s1,_,⟨⟨rs2.hc,fun j w e=>?_,rs2.sub,rs2.ots,rs2.same,fun j ys b q1 q2=>?_,fun j k ys zs v q1 q2 q3 q4=>?_,rs2.frs,by simp[rs.len]⟩,pd,ui,p,[b],Ow hs',bt,by simp[npb],fun c hc=>?_,.cons (vs:=[]) (by rw[aQ nbp,bt]) .nil .nil⟩,h4,q⟩
   .obtain⟨x1,m1,m2⟩:=rs2.re j w e
    refine⟨x1,?_,m2⟩;rw[Oi fun z=>by rw[←z,ui] at e;cases e];exact m1
   .obtain⟨y,z⟩:=pd _ _ q1;cases z
   .obtain⟨y,z⟩:=pd _ _ q1;cases z
   .rcases Oy.mp hc with z|z
    .subst z;exact⟨.inr rfl,ntp,h0p,fun q=>nOp (rs1.sub _ q)⟩
    .rw[Ov.mp z]
     exact⟨.inl (.inr rfl),ntb,h0b,fun q=>nOb (rs.sub _ q)⟩
  .cases e
 .cases e
end
def zC(ρ:Rho):Bool:=ρ.all fun o=>match o with
 |some (.loc (.dict _))=>false
 |_=>true
theorem Dl{K:Frag}{O O':Addr->Prop}{H:Hp}{v:V}{d:N9}(r:Rep K O H v d)(h:b8 d=true):Rep K O' H v d:=by
 cases r with
 |non=>exact .non
 |bl b=>exact .bl b
 |int i=>exact .int i
 |str z=>exact .str z
 |_=>cases h
theorem ux{K:Frag}{O O':Addr->Prop}{H:Hp}:∀{vs:List V}{ds:List N9},Reps K O H vs ds->(∀d∈ds,b8 d=true)->Reps K O' H vs ds
 |_,_,.nil,_=>.nil
 |_,_,.cons r t,h=>.cons (Dl r (h _ Oc)) (ux t fun d hd=>h d (Ob _ hd))
def ya(T:Tp):Option (List N9×Tp)->Option (W×Tp)
 |some (ys,_)=>if ys.all b8=true then some (.d (.list ys),T) else none
 |none=>none
def jQ(it:FI)(c:FT)(f:FE):FE:=fun ρ T=>if zC ρ=true then ya T (bnd (it (bX ρ) []) fun ds T1=>bT c f (bX ρ) ds T1) else none
theorem DL(S:CS osc N x scope N')(hi:DI X (.Name x px) iter it)
  (he:∀C s0 H0 ex,DE (bV X x scope C s0 H0 ex N') elt f) (ht:∀C s0 H0 ex,DTs (bV X x scope C s0 H0 ex N') ifs c) (hc:X.calm=true:=by rfl) (hs:X.env.scope=osc:=by rfl) (hN:X.N=N:=by rfl)
  (hf:∀v,O0 iter X.env v=pure v:=by intro _;rfl):DE X (.ListComp elt [⟨.Name x px,iter,ifs,0⟩] scope pos) (jQ it c f):=by
 refine⟨?_⟩;refine bC (u5 (wi:=lI X.K it) (tt:=liftT X.K c) (te:=lift X.K f) S hi.pe (fun C s0 H0 ex=>(he C s0 H0 ex).pe) (fun C s0 H0 ex=>(ht C s0 H0 ex).pe) hc hs hN hf) fun σ H Q=>?_;rintro⟨O,ts,ρ,T,w,T',hc,re,e,q⟩;unfold jQ at e;split at e
 .rename_i hn
  cases h1:(bnd (it (bX ρ) []) fun ds T1=>bT c f (bX ρ) ds T1) with
  |none=>rw[h1] at e;cases e
  |some p=>
   obtain⟨ys,T2⟩:=p;rw[h1] at e;unfold ya at e;dsimp only at e;split at e
   .rename_i hy
    cases e;obtain⟨ds,T1,e1,e2⟩:=aJ h1;have hc0:HC X.K (fun _=>False) [] H []:=⟨fun b hb=>(by cases hb),fun b hb=>hb.elim,Q0,rfl,fun i a xs e1 _=>by simp at e1⟩
    have re0:RelE X.K (fun _=>False) [] H σ (bX ρ):=qi re (fun b=>.inl rfl) fun j a ds e1 _=>by
     have:=Oz.mp hn _ (O6 e1);cases this
    refine⟨fun _=>False,[],bX ρ,[],ds,T1,hc0,re0,e1,fun J H1 s1 hc1 ok hz=>?_⟩;refine qR hc1 (re0.mono hc0 s1) ok hz e2 fun vs H' s2 hc2 r2 p hp=>?_;have s3:SameX [] H H':=s1.trans s2;have s3':SameX ts H H':=fun b o _ q=>s3 b o (by simp) q
    have hc':HC X.K O ts H' T:=hc.step s3' fun b hb=>by
     obtain⟨u,z⟩:=(hc.trk b (hc.own b hb)).ex;rw[z];exact s3 b _ (by simp) z
    exact q _ _ (s3'.trans (.new hp _)) (hc'.new hp _) (hc'.newL hp (ux r2 fun d hd=>Oz.mp hy d hd))
   .cases e
 .cases e
end D
namespace XE
open L2 D
end XE
namespace D
open L2
section
variable {X:Cx}{pos:Pos}
def h9(i j m:Nat)(body:FS):List N9->FS
 |[]=>aH
 |.tuple [a,b,c]::r=>fun ρ T=>bnd (body (((ρ.set i (some (.d a))).set j (some (.d b))).set m (some (.d c))) T) fun p T1=>match p with
  |(.nx,ρ1)=>h9 i j m body r ρ1 T1
  |(.ct,ρ1)=>h9 i j m body r ρ1 T1
  |(.bk,ρ1)=>some ((.nx,ρ1),T1)
  |(.rt x,ρ1)=>some ((.rt x,ρ1),T1)
  |(.ro x,ρ1)=>some ((.ro x,ρ1),T1)
 |_=>fun _ _=>none
def n8(i j m:Nat)(it:FI)(body:FS):FS:=fun ρ T=>bnd (it ρ T) fun ds T1=>h9 i j m body ds ρ T1
theorem Dw(hN:X.N.Nodup)(hi:DI X (.Tuple [.Name x px,.Name y py,.Name z pz] n tpos) iter it)(hb:DSs X body f)(hix:X.N[i]? = some x:=by rfl)(hjx:X.N[j]? = some y:=by rfl)(hmx:X.N[m]? = some z:=by rfl)(hx:Loc X.env.scope x:=by first|exact Pc rfl|exact OW rfl)(hy:Loc X.env.scope y:=by first|exact Pc rfl|exact OW rfl)(hz0:Loc X.env.scope z:=by first|exact Pc rfl|exact OW rfl)
  (hf:X.fn x=true\/X.env.scope.names.lookup x=some .local:=by first|exact .inl rfl|exact .inr rfl|assumption) (hf':X.fn y=true\/X.env.scope.names.lookup y=some .local:=by first|exact .inl rfl|exact .inr rfl|assumption) (hf2:X.fn z=true\/X.env.scope.names.lookup z=some .local:=by first|exact .inl rfl|exact .inr rfl|assumption) (hp:Ro (OQ X.prog X.w) X.A X.env X.xe:=by exact QT) (hc:X.calm=true:=by rfl)
  (hs:∀x,O0 iter X.env x=pure x:=by intro _;rfl):DS X (.For (.Tuple [.Name x px,.Name y py,.Name z pz] n tpos) iter body [] pos) (n8 i j m it f):=by
 refine⟨?_⟩;refine bF (nS hp hc hi.pe (rB hc (iH (fK hN hix hx hf) (iH (fK hN hjx hy hf') (iH (fK hN hmx hz0 hf2) qC)))) hb.pe hs) fun D σ H=>?_;rintro⟨O₀,H₀,F,ts,O,ρ,T,fl,ρ',T',rs,e,q⟩;obtain⟨ds,T1,e1,e⟩:=aJ e;refine⟨O,ts,ρ,T,ds,T1,rs.hc,rs.re,e1,fun J H1 s1 hc1 ok hz=>?_⟩;refine⟨fun k mm σ H=>mm=ds.length-k/\k<=ds.length/\∃O' ρk Tk,RS X.K O₀ H₀ ((O,H1)::F) ts O' H σ ρk Tk/\h9 i j m f (ds.drop k) ρk Tk=some ((fl,ρ'),T'),⟨_,rfl,PH _,O,ρ,T1,(rs.step s1 hc1).more,e⟩,?_⟩;rintro k mm σ2 H2 ⟨rfl,hk,O',ρk,Tk,rs2,ek⟩;obtain⟨k1,k2,k3⟩:=ok O' H2 (rs2.frs _ Oc)
 by_cases hlt:k<ds.length
 .refine .inr ⟨k1 k hlt,fun σ3 H3=>∃O' ρk Tk,RS X.K O₀ H₀ ((O,H1)::F) ts O' H3 σ3 ρk Tk/\h9 i j m f (ds.drop (k+1)) ρk Tk=some ((fl,ρ'),T'),fun σ3 H3 n=>⟨ds.length-(k+1),by omega,rfl,hlt,n⟩,fun v H3 y=>?_⟩
  obtain⟨e2,d,hd,rd⟩:=k3 k v H3 y hlt;subst e2
  have hdr:ds.drop k=d::ds.drop (k+1):=by rw[PM hlt,(Og.mp hd).2]
  rw[hdr] at ek;generalize ds.drop (k+1)=rest at ek ⊢
  have hab:∃a b c,d=.tuple [a,b,c]:=by
   match d,ek with
   |.tuple [a,b,c],_=>exact⟨a,b,c,rfl⟩
   |.tuple [],ek=>cases ek
   |.tuple [_],ek=>cases ek
   |.tuple [_,_],ek=>cases ek
   |.tuple (_::_::_::_::_),ek=>cases ek
   |.none,ek=>cases ek
   |.bool _,ek=>cases ek
   |.int _,ek=>cases ek
   |.str _,ek=>cases ek
   |.list _,ek=>cases ek
   |.dict _,ek=>cases ek
  obtain⟨a,b,c,rfl⟩:=hab
  cases rd with
  |tup t r=>
  cases r with
  |cons ra r=>
  cases r with
  |cons rb r=>
  cases r with
  |cons rc r=>
  cases r;obtain⟨⟨fl1,ρ1⟩,T3,e3,ek⟩:=aJ ek;refine⟨_,_,rfl,t.sq,rfl,_,_,rfl,_,_,rfl,_,_,rfl,rfl,O₀,H₀,(O,H1)::F,ts,O',_,Tk,fl1,ρ1,T3,((rs2.set (i:=i) (w:=.d a) ra (fun _ z=>nomatch z)).set (i:=j) (w:=.d b) rb (fun _ z=>nomatch z)).set (i:=m) (w:=.d c) rc (fun _ z=>nomatch z),e3,?_⟩
  cases fl1 with
  |nx=>exact fun O3 σ3 H3 rs3=>⟨O3,ρ1,T3,rs3,ek⟩
  |ct=>exact fun O3 σ3 H3 rs3=>⟨O3,ρ1,T3,rs3,ek⟩
  |bk=>
   cases ek;exact fun O3 σ3 H3 rs3=>q O3 σ3 H3 rs3.less
  |rt x=>
   cases ek;exact q
  |ro x=>
   cases ek;exact q
 .have e:k=ds.length:=by omega
  subst e;rw[Pt (Ol _)] at ek;cases ek;exact .inl ⟨k2,q O' σ2 H2 rs2.less⟩
end
theorem yc:∀{its:List Oa}{ds:List N9}{as:List Addr},T9 h its ds as->its.countP (jd h d1)=ds.countP fun d=>OP d d1
 |_,_,_,.nil=>rfl
 |_,_,_,.cons r rs=>by rw[Qm,Qm,yc rs,nE r]
section
variable {X:Cx}{e:Expr}{fe:FE}
theorem BE(hu:X.A.units+200<TY):MtR X "list.count" (fun x vs H Q=>∃(O:Addr->Prop) (d1:N9) (a:Addr) (us:List V) (ds:List N9) (y:V),x=.ref a/\vs=[y]/\Vw X.K O H y d1/\SqL X.K H a us/\Reps X.K O H us ds/\OL d1=true/\ds.all OL=true/\Q (.int ((ds.countP fun d=>OP d d1:Nat):Int)) H):=by
 intro pins s σ H x vs v us Q I rx rv h;obtain⟨O,d1,a,xs,ds,y,rfl,rfl,h1,h2,h3,s1,s2,q⟩:=h;cases rx;obtain⟨u,rfl,ru⟩:=rv.one;obtain⟨as,r1⟩:=h1.reads I ru;obtain⟨its,rvl,p1,hz⟩:=I.list h2;obtain⟨bs,r2,hlen⟩:=h3.reads I rvl;obtain⟨⟨c,d,dt,sl⟩,n,eo,hc,hd,hs⟩:=p1;dsimp only at hc hd hs;subst hc hd hs;refine QC S8 ⟨_,eo,rfl⟩ PySem.F.entry_list_count (PySem.F.args_list_count_2 _ _) (PySem.SeqAt.list_countAt a its.toArray n none sl u (jd s.heap d1)) ⟨eo,fun v hv=>?_,⟨.int _,H,I.tok _,⟨s.toks,?_⟩,q⟩⟩
 .obtain⟨d,cs,hd,rd⟩:=readsAll_mem r2 (show v∈its by simpa using hv)
  rw[nE rd];have sd:=Oz.mp s2 d hd;refine Vo d d1 _ s v u _ _ rd r1 (QP sd) (QP s1) (Ub sd ?_);show X.A.in1.units+64<TY
  have e:X.A.in1.units<=X.A.units+1:=by simp[V4]
  omega
 .rw[←yc r2]
def sr(xs:List N9)(w:W)(T:Tp):Option (W×Tp):=match w with
 |.d x=>if OL x=true/\xs.all OL=true then some (.d (.int ((xs.countP fun d=>OP d x:Nat):Int)),T) else none
 |_=>none
def oG(fo fe:FE):FE:=fun ρ T=>bnd (fo ρ T) fun w T1=>match w with
 |.d (.list xs)=>bnd (fe ρ T1) (sr xs)
 |_=>none
theorem Cb(hu:X.A.units+200<TY)(ho:DE X o fo)(he:DE X e fe)
  (hbase:Pa o "count" X.env (eval o X.env)=eval o X.env:=by rfl)
  (hfew:((Pb cpos (Oh [e] X.env)).all (fun x=>!x.1)&&(Qo cpos (PF [] X.env)).all (fun x=>x.1.isSome)
   && decide (([e]:List Expr).length+([]:List Pq).length+(if ([]:List Pq).isEmpty then 0 else 1)<30))=true:=by exact f9 rfl)
  (hline:(apos.endLine == cpos.line)=true:=by rfl) (hse:Oh [e] X.env=(false,eval e X.env)::Oh [] X.env:=by exact bf rfl) (hplain:(Pb cpos (Oh [] X.env)).any (·.1)=false:=by exact bR rfl) :
  DE X (.Call (.Attribute o "count" apos) [e] [] cpos) (oG fo fe):=by
 refine⟨?_⟩;refine bC (g7 Pi S8 PySem.F.type_list_count (BE hu) ho.pe (bY he.pe b7 hse) hbase hfew hline hse hplain) fun σ H Q=>?_;rintro⟨O,ts,ρ,T,w,T',hc,re,e,q⟩;obtain⟨w1,T1,e1,e⟩:=aJ e;split at e
 .rename_i xs
  obtain⟨w2,T2,e2,e⟩:=aJ e;refine⟨O,ts,ρ,T,_,T1,hc,re,e1,fun v1 H1 s1 hc1 r1=>?_⟩;obtain⟨a1,vs1,rfl,t1,q1⟩:=(Vw.rep (show Rep X.K O H1 v1 (.list xs) from r1)).lst;refine⟨.inl ⟨rfl,vs1,t1⟩,O,ts,ρ,T1,w2,T2,hc1,re.mono hc s1,e2,fun v2 H2 s2 hc2 r2=>?_⟩;have r1':=Rep.mono (hc1.le s2) r1;obtain⟨a2,vs2,ea,t2,q2⟩:=(Vw.rep (show Rep X.K O H2 (.ref a1) (.list xs) from r1')).lst;cases ea;unfold sr at e;split at e
  .rename_i y
   split at e
   .rename_i hs
    cases e;exact⟨O,y,a1,vs2,xs,v2,rfl,rfl,.rep (show Rep X.K O H2 v2 y from r2),t2,q2,hs.1,hs.2,q _ H2 (s1.trans s2) hc2 (.int _)⟩
   .cases e
  .cases e
 .cases e
end
section
variable {X:Cx}{pos:Pos}
theorem BF:MtM X "list.clear" (fun x vs H Q=>∃(l:Addr) (xs:List V),x=.ref l/\vs=[]/\H l=some (.lst xs)/\xs.length<=1000/\Q .non (upd H l (.lst []))):=by
 intro pins s σ H x vs v us Q I rx rv h;obtain⟨l,xs,rfl,rfl,hH,hz,q⟩:=h;cases rx;have hus:=rv.zero;subst hus;obtain⟨z,its,n,r,hl,e⟩:=I.lstM hH
 have hsz:its.toArray.size<=sizeLine:=by
  rw[Os];exact OX (by omega) (by decide:(1000:Nat)<=Om)
 refine QC S9 ⟨_,e,rfl⟩ PySem.F.entry_list_clear (PySem.F.args_list_clear_1 _) (U3 l its.toArray n hsz) ⟨e,?_⟩;exact⟨.non,_,I.lset (its':=[]) hH e rfl .nil (by decide),rfl,q⟩
def yW(i:Nat)(ρ:Rho)(T:Tp)(o:Option (Option W)):Option ((Fl×Rho)×Tp):=match o with
 |some (some (.loc (.list xs)))=>if xs.length<=1000 then some ((.nx,ρ.set i (some (.loc (.list [])))),T) else none
 |_=>none
def lR(i:Nat):FS:=fun ρ T=>yW i ρ T ρ[i]?
theorem FG(hN:X.N[i]? = some x:=by rfl)(hv:Vis X.env.scope x:=by first|exact Pc rfl|exact OW (Pc rfl)|exact OW (OW rfl))(hd:(x == ("__debug__" : Str))=false:=by decide)
  (hcd:(x == ("__classdict__" : Str))=false:=by decide)
  (hbase:Pa (.Name x p) "clear" X.env (eval (.Name x p) X.env)=eval (.Name x p) X.env:=by rfl) (hline:(apos.endLine == cpos.line)=true:=by rfl)
  (hs:Pm (.Call (.Attribute (.Name x p) "clear" apos) [] [] cpos) none pos.line X.env=pure false:=by rfl) :
  DS X (.Expr (.Call (.Attribute (.Name x p) "clear" apos) [] [] cpos) pos) (lR i):=by
 refine⟨?_⟩;refine bF (jx (rC Pi S9 PySem.F.type_list_clear BF (pv i hN hv hd hcd) hbase hline) hs) fun D σ H=>?_;rintro⟨O₀,H₀,F,ts,O,ρ,T,fl,ρ',T',rs,e,q⟩;unfold lR yW at e;split at e
 .rename_i xs h1
  split at e
  .rename_i hz
   cases e;obtain⟨v,k1,a,rfl,k2,k3,vs,k4,k5⟩:=rs.re i _ h1;exact⟨_,k1,.inl ⟨rfl,vs,SqL.of k4⟩,a,vs,rfl,rfl,k4,by rw[k5.length];exact hz,q O _ _ (rs.putO h1 k1 (.inl ⟨_,rfl⟩) fun le=>⟨[],bt,.nil⟩)⟩
  .cases e
 .cases e
def goO(j:Nat)(c:FT)(f:FS):List N9->FS
 |[]=>aH
 | d::r=>fun ρ T=>bnd (c (ρ.set j (some (.d d))) T) fun b T1=>if b=true then (match f (ρ.set j (some (.d d))) T1 with
  |some ((.rt x,ρ1),T2)=>some ((.rt x,ρ1),T2)
  | _=>none) else goO j c f r (ρ.set j (some (.d d))) T1
def yP(i j:Nat)(c:FT)(f:FS)(ρ:Rho)(T:Tp)(o:Option (Option W)):Option ((Fl×Rho)×Tp):=match o with
 |some (some (.loc (.list xs)))=>if i≠j then goO j c f xs ρ T else none
 |_=>none
def lQ(i j:Nat)(c:FT)(f:FS):FS:=fun ρ T=>yP i j c f ρ T ρ[i]?
theorem FD(hN:X.N.Nodup)(hc:DT X ce c)(ha:DSs X a f)(hi:X.N[i]? = some l:=by rfl)(hj:X.N[j]? = some x:=by rfl)(hx:Loc X.env.scope x:=by first|exact Pc rfl|exact OW rfl)
  (hv:Vis X.env.scope l:=by first|exact Pc rfl|exact OW (Pc rfl)|exact OW (OW rfl)) (hd:(l == ("__debug__" : Str))=false:=by decide) (hcd:(l == ("__classdict__" : Str))=false:=by decide)
  (hf:X.fn x=true\/X.env.scope.names.lookup x=some .local:=by first|exact .inl rfl|exact .inr rfl|assumption) (hp:Ro (OQ X.prog X.w) X.A X.env X.xe:=by exact QT) (hm:X.calm=true:=by rfl)
  (hs:∀x,O0 (.Name l lpos) X.env x=pure x:=by intro _;rfl):DS X (.For (.Name x tpos) (.Name l lpos) [.If ce a [] ipos] [] pos) (lQ i j c f):=by
 refine⟨?_⟩;refine bF (nS hp hm (EN (pv i hi hv hd hcd)) (fK hN hj hx hf) (qA (rV hc.pe ha.pe qB)) hs) fun D σ H=>?_;rintro⟨O₀,H₀,F,ts,O,ρ,T,fl,ρ',T',rs,e,q⟩;unfold lQ yP at e;split at e
 .rename_i xs h1
  split at e
  .rename_i hij
   obtain⟨v,k1,b,rfl,k2,k3,vs,k4,k5⟩:=rs.re i _ h1;refine⟨_,k1,b,rfl,⟨vs,SqL.of k4⟩,fun k m σ H=>m=xs.length-k/\k<=xs.length/\∃ρk Tk,RS X.K O₀ H₀ F ts O H σ ρk Tk/\ρk[i]? = some (some (.loc (.list xs)))/\σ[i]? = some (some (.ref b))/\goO j c f (xs.drop k) ρk Tk=some ((fl,ρ'),T'),⟨_,rfl,PH _,ρ,T,rs,h1,k1,e⟩,?_⟩;rintro k m σ2 H2 ⟨rfl,hk,ρk,Tk,rs2,h2,s2,ek⟩;obtain⟨v2,k1',b2,rfl,k2',k3',vs2,k4',k5'⟩:=rs2.re i _ h2;rw[s2] at k1';cases k1';have hlen:=k5'.length
   by_cases hlt:k<xs.length
   .refine .inr ⟨⟨vs2,vs2[k]'(by omega),SqL.of k4',by simp⟩,fun σ3 H3=>∃ρk Tk,RS X.K O₀ H₀ F ts O H3 σ3 ρk Tk/\ρk[i]? = some (some (.loc (.list xs)))/\σ3[i]? = some (some (.ref b))/\goO j c f (xs.drop (k+1)) ρk Tk=some ((fl,ρ'),T'),fun σ3 H3 n=>⟨xs.length-(k+1),by omega,rfl,hlt,n⟩,fun v H3 y=>?_⟩
    obtain⟨e2,y⟩:=y;subst e2;obtain⟨d,hd',rd⟩:=k5'.get (y vs2 (SqL.of k4'))
    have hdr:xs.drop k=d::xs.drop (k+1):=by rw[PM hlt,(Og.mp hd').2]
    rw[hdr] at ek;obtain⟨b1,T1,e1,ek⟩:=aJ ek;have rs3:=rs2.set (i:=j) (w:=.d d) rd (fun _ z=>nomatch z);refine⟨O,ts,_,Tk,b1,T1,rs3.hc,rs3.re,e1,fun H4 s4 hc4=>?_⟩
    cases b1 with
    |true=>
     rw[if_pos rfl] at ek;split at ek
     .rename_i x1 ρ1 T2 ef
      cases ek;exact eJ ⟨O₀,H₀,F,ts,O,_,T1,_,_,_,rs3.step s4 hc4,ef,q⟩
     .cases ek
    |false=>
     rw[if_neg (by decide)] at ek;exact eM ⟨_,T1,rs3.step s4 hc4,by rw[Oi (Qa hij)];exact h2,by rw[Oi (Qa hij)];exact s2,ek⟩
   .have e3:k=xs.length:=by omega
    subst e3;rw[Pt (Ol _)] at ek;cases ek;exact .inl ⟨⟨vs2,SqL.of k4',by omega⟩,q O σ2 H2 rs2⟩
  .cases e
 .cases e
end
def yA(ρ:Rho):Bool:=ρ.all fun o=>match o with
 |some (.loc (.dict _))=>false
 |_=>true
def Jg(T:Tp):Option (Bool×Tp)->Option (Bool×Tp)
 |some (b,_)=>some (b,T)
 |none=>none
def gw(f:FT):FT:=fun ρ T=>if yA ρ=true then Jg T (f (bX ρ) []) else none
theorem Fx(he:DT X e f):DT X e (gw f):=by
 refine⟨lq he.pe fun σ H Q=>?_⟩;rintro⟨O,ts,ρ,T,b,T',hc,re,e,q⟩;unfold gw at e;split at e
 .rename_i hn
  cases h1:f (bX ρ) [] with
  |none=>rw[h1] at e;cases e
  |some p=>
   obtain⟨b1,T1⟩:=p;rw[h1] at e;cases e;refine⟨fun _=>False,[],bX ρ,[],b,T1,⟨fun b hb=>(by cases hb),fun b hb=>hb.elim,Q0,rfl,fun i a xs e1 _=>by simp at e1⟩,qi re (fun b=>.inl rfl) (fun j a ds e1 _=>?_),h1,fun H2 s2 _=>?_⟩
   .have:=Oz.mp hn _ (O6 e1)
    cases this
   .have s2':SameX ts H H2:=fun b o _ q=>s2 b o (by simp) q
    exact q H2 s2' (hc.step s2' fun b hb=>by
     obtain⟨u,z⟩:=(hc.trk b (hc.own b hb)).ex
     rw[z];exact s2 b _ (by simp) z)
 .cases e
theorem Et(r:Room k A):A.units+200<cLine:=by
 have:=r.un;omega
def DfL(K:Frag)(tp:Nat->Stmt):List (Str×Nat)->Prop
 |[]=>True
 |(x,i)::r=>Df K x (tp i)/\DfL K tp r
theorem DF{K:Frag}{tp:Nat->Stmt}{x:Str}{i:Nat}{L:List (Str×Nat)}(a:Df K x (tp i))(r:DfL K tp L):DfL K tp ((x,i)::L):=⟨a,r⟩
theorem DfL.at{K:Frag}{tp:Nat->Stmt}{x:Str}{i:Nat}:∀{L:List (Str×Nat)},DfL K tp L->L.lookup x=some i->Df K x (tp i)
 |[],_,e=>nomatch e
 |(y,j)::r,h,e=>by
  rw[PL] at e;split at e
  .rename_i hx
   cases e;rw[eq_of_beq hx];exact h.1
  .exact h.2.at e
def ZL(K:Frag):List Str->Prop
 |[]=>True
 |x::r=>P1 K O9 x=some none/\ZL K r
theorem Eb{K:Frag}{x:Str}{L:List Str}(a:P1 K O9 x=some none)(r:ZL K L):ZL K (x::L):=⟨a,r⟩
theorem ZL.at{K:Frag}{x:Str}:∀{L:List Str},ZL K L->L.contains x=true->P1 K O9 x=some none
 |[],_,e=>nomatch e
 |y::r,h,e=>by
  rw[List.contains_cons,TF] at e
  rcases e with e|e
  .rw[eq_of_beq e];exact h.1
  .exact h.2.at e
def IL(K:Frag):List (Str×Int)->Prop
 |[]=>True
 |(x,i)::r=>(∃t,P1 K O9 x=some (some (.int i t)))/\IL K r
theorem Fe{K:Frag}{x:Str}{i:Int}{t:Tok}{L:List (Str×Int)}(a:P1 K O9 x=some (some (.int i t)))(r:IL K L):IL K ((x,i)::L):=⟨⟨t,a⟩,r⟩
theorem IL.at{K:Frag}{x:Str}{i:Int}:∀{L:List (Str×Int)},IL K L->L.lookup x=some i->∃t,P1 K O9 x=some (some (.int i t))
 |[],_,e=>nomatch e
 |(y,j)::r,h,e=>by
  rw[PL] at e;split at e
  .rename_i hx
   cases e;rw[eq_of_beq hx];exact h.1
  .exact h.2.at e
def SL(K:Frag):List (Str×Str)->Prop
 |[]=>True
 |(x,i)::r=>(∃t,P1 K O9 x=some (some (.str i t)))/\SL K r
theorem En{K:Frag}{x i:Str}{t:Tok}{L:List (Str×Str)}(a:P1 K O9 x=some (some (.str i t)))(r:SL K L):SL K ((x,i)::L):=⟨⟨t,a⟩,r⟩
theorem SL.at{K:Frag}{x i:Str}:∀{L:List (Str×Str)},SL K L->L.lookup x=some i->∃t,P1 K O9 x=some (some (.str i t))
 |[],_,e=>nomatch e
 |(y,j)::r,h,e=>by
  rw[PL] at e;split at e
  .rename_i hx
   cases e;rw[eq_of_beq hx];exact h.1
  .exact h.2.at e
structure Bz(K:Frag)(mg:Str->Option Oa)(z:List Str)(i:List (Str×Int))(s:List (Str×Str)):Prop where
 z:∀{x:Str} (_:z.contains x=true:=by decide +kernel),mg x=none
 i:∀{x:Str}{j:Int} (_:i.lookup x=some j:=by decide +kernel),∃t,mg x=some (.int j t)
 s:∀{x y:Str} (_:s.lookup x=some y:=by decide +kernel),∃t,mg x=some (.str y t)
theorem JC{K:Frag}{h:Heap}{mg:Str->Option Oa}(X:K.In h)(G:h.Ns O9 mg)(a:ZL K z)(b:IL K i)(c:SL K s):Bz K mg z i s:=⟨fun e=>PySem.W.mg_none_of X G (a.at e),fun e=>let ⟨t,q⟩:=b.at e;⟨t,RQ X G q⟩,fun e=>let ⟨t,q⟩:=c.at e;⟨t,RQ X G q⟩⟩
structure Ev(P:OB)(w:OV)(K:Frag)(mg:Str->Option Oa)(base:Heap)(B:Prop)(tp:Nat->Stmt)(L:List (Str×Nat)):Prop where
 x:∃h:Heap,K.In h/\h.Ns O9 mg
 b:B
 d:DfL K tp L
def scB(N P:List Str)(sc:Qi):Bool:=decide (sc.kind=.function)&&!sc.isCoroutine&&!sc.isGenerator&&decide N.Nodup&&decide (N.take P.length=P)&&P.all (fun x=>decide (sc.names.lookup x=some .local)||decide (sc.names.lookup x=some .cell))&&sc.names.all fun y=>decide (y.2≠.free)
theorem jW(h:scB N P sc=true):FnScope N P sc:=by
 simp only[scB,Oj,decide_eq_true_eq,U4,Oz,TF] at h;exact⟨h.1.1.1.1.1.1,h.1.1.1.1.1.2,h.1.1.1.1.2,h.1.1.1.2,h.1.1.2,h.1.2,h.2⟩
theorem bl1{α:Type}{p:List α->Prop}(h:∀a,p [a]):∀us,us.length=1->p us
 |[a],_=>h a
theorem bl2{α:Type}{p:List α->Prop}(h:∀a b,p [a,b]):∀us,us.length=2->p us
 |[a,b],_=>h a b
theorem bl3{α:Type}{p:List α->Prop}(h:∀a b c,p [a,b,c]):∀us,us.length=3->p us
 |[a,b,c],_=>h a b c
theorem bl5{α:Type}{p:List α->Prop}(h:∀a b c d e,p [a,b,c,d,e]):∀us,us.length=5->p us
 |[a,b,c,d,e],_=>h a b c d e
section
variable {P:OB}{w:OV}{K:Frag}{mg:Str->Option Oa}{base:Heap}{B:Prop}{tp:Nat->Stmt}{L:List (Str×Nat)}{x:Str}{ps:List Str}{k:Nat}{m:FS}
theorem sg(E:Ev P w K mg base B tp L)(i:Nat)(ok:∀f fd,Fun K x x (tp i) f fd->FnOk P w K mg base CX0 k f fd ps sp)(e:L.lookup x=some i:=by decide +kernel)
  (hb:∀(kV doc pm:Oa) (an:Option Addr) (cdv ct:Oa) (us:List Oa),us.length=ps.length->SQ (PB x x (dY (tp i)) (cM (tp i)) (bj (tp i)) .none kV doc pm an cdv ct) ⟨us,[]⟩=pure (ps.zip us):=by
   intro _ _ _ _ _ _;first|(show ∀us:List Oa,us.length=0->_;exact D.bl0 rfl)|(show ∀us:List Oa,us.length=1->_;exact D.bl1 fun _=>rfl)|(show ∀us:List Oa,us.length=2->_;exact D.bl2 fun _ _=>rfl)|(show ∀us:List Oa,us.length=3->_;exact D.bl3 fun _ _ _=>rfl)|(show ∀us:List Oa,us.length=4->_;exact D.bl4 fun _ _ _ _=>rfl)|(show ∀us:List Oa,us.length=5->_;exact D.bl5 fun _ _ _ _ _=>rfl)|(show ∀us:List Oa,us.length=6->_;exact D.bl6 fun _ _ _ _ _ _=>rfl)):Fn P w K mg base x ps k sp:=
 let ⟨_,X,G⟩:=E.x
 (E.d.at e).fn X G hb ok
theorem aY(E:Ev P w K mg base B tp L)(i:Nat)(N:List Str)(hbody:∀{f:Addr}{cdv:Oa}{A:O5}{outer:List Env}{s:Od}{H:Hp}{E:XK},B->FnScope N ps (bj (tp i))->Room k (A.deeper (RP x (bj (tp i)) s.heap.objs.size f cdv))->DSs (ft CX0 P w K mg base N x (bj (tp i)) f cdv A outer s H E).nox (cM (tp i)) m)
  (S:scB N ps (bj (tp i))=true:=by decide +kernel) (e:L.lookup x=some i:=by decide +kernel)
  (hb:∀(kV doc pm:Oa) (an:Option Addr) (cdv ct:Oa) (us:List Oa),us.length=ps.length->SQ (PB x x (dY (tp i)) (cM (tp i)) (bj (tp i)) .none kV doc pm an cdv ct) ⟨us,[]⟩=pure (ps.zip us):=by
   intro _ _ _ _ _ _;first|(show ∀us:List Oa,us.length=0->_;exact D.bl0 rfl)|(show ∀us:List Oa,us.length=1->_;exact D.bl1 fun _=>rfl)|(show ∀us:List Oa,us.length=2->_;exact D.bl2 fun _ _=>rfl)|(show ∀us:List Oa,us.length=3->_;exact D.bl3 fun _ _ _=>rfl)|(show ∀us:List Oa,us.length=4->_;exact D.bl4 fun _ _ _ _=>rfl)|(show ∀us:List Oa,us.length=5->_;exact D.bl5 fun _ _ _ _ _=>rfl)|(show ∀us:List Oa,us.length=6->_;exact D.bl6 fun _ _ _ _ _ _=>rfl)):Fn P w K mg base x ps (k+1) (spM K ps.length (aP N.length m)):=sg E i (fun _ _ F=>dfn F (jW S) fun _ _ _ _ _ _ hr=>hbody E.b (jW S) hr) e hb
theorem yT(E:Ev P w K mg base B tp L)(i:Nat)(N:List Str)(hbody:∀{f:Addr}{cdv:Oa}{A:O5}{outer:List Env}{s:Od}{H:Hp}{E:XK},B->FnScope N ps (bj (tp i))->Room k (A.deeper (RP x (bj (tp i)) s.heap.objs.size f cdv))->DSs (ft CX0 P w K mg base N x (bj (tp i)) f cdv A outer s H E).nox (cM (tp i)) m)
  (S:scB N ps (bj (tp i))=true:=by decide +kernel) (e:L.lookup x=some i:=by decide +kernel)
  (hb:∀(kV doc pm:Oa) (an:Option Addr) (cdv ct:Oa) (us:List Oa),us.length=ps.length->SQ (PB x x (dY (tp i)) (cM (tp i)) (bj (tp i)) .none kV doc pm an cdv ct) ⟨us,[]⟩=pure (ps.zip us):=by
   intro _ _ _ _ _ _;first|(show ∀us:List Oa,us.length=0->_;exact D.bl0 rfl)|(show ∀us:List Oa,us.length=1->_;exact D.bl1 fun _=>rfl)|(show ∀us:List Oa,us.length=2->_;exact D.bl2 fun _ _=>rfl)|(show ∀us:List Oa,us.length=3->_;exact D.bl3 fun _ _ _=>rfl)|(show ∀us:List Oa,us.length=4->_;exact D.bl4 fun _ _ _ _=>rfl)|(show ∀us:List Oa,us.length=5->_;exact D.bl5 fun _ _ _ _ _=>rfl)|(show ∀us:List Oa,us.length=6->_;exact D.bl6 fun _ _ _ _ _ _=>rfl)):Fn P w K mg base x ps (k+1) (spO K ps.length (g9 N.length m)):=sg E i (fun _ _ F=>J8 F (jW S) fun _ _ _ _ _ _ hr=>hbody E.b (jW S) hr) e hb
theorem eI(E:Ev P w K mg base B tp L)(i:Nat)(e:L.lookup x=some i:=by decide +kernel)
  (hb:∀(kV doc pm:Oa) (an:Option Addr) (cdv ct:Oa) (us:List Oa),us.length=ps.length->SQ (PB x x (dY (tp i)) (cM (tp i)) (bj (tp i)) .none kV doc pm an cdv ct) ⟨us,[]⟩=pure (ps.zip us):=by
   intro _ _ _ _ _ _;first|(show ∀us:List Oa,us.length=0->_;exact D.bl0 rfl)|(show ∀us:List Oa,us.length=1->_;exact D.bl1 fun _=>rfl)|(show ∀us:List Oa,us.length=2->_;exact D.bl2 fun _ _=>rfl)|(show ∀us:List Oa,us.length=3->_;exact D.bl3 fun _ _ _=>rfl)|(show ∀us:List Oa,us.length=4->_;exact D.bl4 fun _ _ _ _=>rfl)|(show ∀us:List Oa,us.length=5->_;exact D.bl5 fun _ _ _ _ _=>rfl)|(show ∀us:List Oa,us.length=6->_;exact D.bl6 fun _ _ _ _ _ _=>rfl)):Fn P w K mg base x ps k (spM K n fun _ _=>none):=sg E i (fun _ _ _=>Fk) e hb
theorem Jz(E:Ev P w K mg base B tp L)(N:List Str)(F:Fun K x x (tp i) f fd)(hbody:∀{cdv:Oa}{A:O5}{outer:List Env}{s:Od}{H:Hp}{E:XK},B->FnScope N ps (bj (tp i))->Room k (A.deeper (RP x (bj (tp i)) s.heap.objs.size f cdv))->DSs (ft CX0 P w K mg base N x (bj (tp i)) f cdv A outer s H E).nox (cM (tp i)) m)
  (S:scB N ps (bj (tp i))=true:=by decide +kernel):FnOk P w K mg base CX0 (k+1) f fd ps (spM K ps.length (aP N.length m)):=dfn F (jW S) fun _ _ _ _ _ _ hr=>hbody E.b (jW S) hr
theorem dZ{p:Nat->Prop}(z:p 0)(s:∀n,p n->p (n+1)):∀n,p n
 |0=>z
 |n+1=>s n (dZ z s n)
end
section
variable {X:Cx}{name p1 p2 p3 p4 p5 p6:Str}{k k':Nat}{m:FnM}{e1 e2 e3 e4 e5 e6:Expr}{g1 g2 g3 g4 g5 g6:FE}{p pos:Pos}
theorem bc(F:Fn X.prog X.w X.K X.mg X.base name [p1] k (spM X.K 1 m))(hr:Room k' X.A)(a1:DE X e1 g1)(h:k<=k':=by omega)(hg:Gl X name:=by exact rfl)(hdb:(name == ("__debug__" : Str))=false:=by decide)(n1:noStar e1=true:=by exact rfl):DE X (.Call (.Name name p) [e1] [] pos) (aq m (ae g1 ah)):=nG F (hr.mono h) hg (aj a1 av (bf n1)) (cR gQ) hdb (bf n1) (bR rfl)
theorem aX(F:Fn X.prog X.w X.K X.mg X.base name [p1,p2] k (spM X.K 2 m))(hr:Room k' X.A)(a1:DE X e1 g1)(a2:DE X e2 g2)(h:k<=k':=by omega)(hg:Gl X name:=by exact rfl)(hdb:(name == ("__debug__" : Str))=false:=by decide)(n1:noStar e1=true:=by exact rfl)(n2:noStar e2=true:=by exact rfl):DE X (.Call (.Name name p) [e1,e2] [] pos) (aq m (ae g1 (ae g2 ah))):=nG F (hr.mono h) hg (aj a1 (aj a2 av (bf n2)) (bf n1)) (cR (cR gQ)) hdb (bf n1) (bR (by simp only[Qb,U5,n2,UH]))
theorem du(F:Fn X.prog X.w X.K X.mg X.base name [p1,p2,p3] k (spM X.K 3 m))(hr:Room k' X.A)(a1:DE X e1 g1)(a2:DE X e2 g2)(a3:DE X e3 g3)(h:k<=k':=by omega)(hg:Gl X name:=by exact rfl)(hdb:(name == ("__debug__" : Str))=false:=by decide)(n1:noStar e1=true:=by exact rfl)(n2:noStar e2=true:=by exact rfl)(n3:noStar e3=true:=by exact rfl):DE X (.Call (.Name name p) [e1,e2,e3] [] pos) (aq m (ae g1 (ae g2 (ae g3 ah)))):=nG F (hr.mono h) hg (aj a1 (aj a2 (aj a3 av (bf n3)) (bf n2)) (bf n1)) (cR (cR (cR gQ))) hdb (bf n1) (bR (by simp only[Qb,U5,n2,n3,UH]))
theorem l8(F:Fn X.prog X.w X.K X.mg X.base name [p1,p2,p3,p4,p5] k (spM X.K 5 m))(hr:Room k' X.A)(a1:DE X e1 g1)(a2:DE X e2 g2)(a3:DE X e3 g3)(a4:DE X e4 g4)(a5:DE X e5 g5)(h:k<=k':=by omega)(hg:Gl X name:=by exact rfl)(hdb:(name == ("__debug__" : Str))=false:=by decide)(n1:noStar e1=true:=by exact rfl)(n2:noStar e2=true:=by exact rfl)(n3:noStar e3=true:=by exact rfl)(n4:noStar e4=true:=by exact rfl)(n5:noStar e5=true:=by exact rfl):DE X (.Call (.Name name p) [e1,e2,e3,e4,e5] [] pos) (aq m (ae g1 (ae g2 (ae g3 (ae g4 (ae g5 ah)))))):=nG F (hr.mono h) hg (aj a1 (aj a2 (aj a3 (aj a4 (aj a5 av (bf n5)) (bf n4)) (bf n3)) (bf n2)) (bf n1)) (cR (cR (cR (cR (cR gQ))))) hdb (bf n1) (bR (by simp only[Qb,U5,n2,n3,n4,n5,UH]))
end
def csB(osc:Qi)(N:List Str)(x:Str)(sc:Qi)(N':List Str):Bool:=decide (sc.kind=.function)&&(sc.names.all fun y=>decide (y.2≠.cell))&&(sc.names.all fun y=>decide (y.2=.local->sc.names.lookup y.1=some .local))&&decide (sc.names.lookup x=some .local)&&(sc.names.all fun y=>decide (y.2=.local->y.1=x\/y.1=".0"))
 && (sc.names.all fun y=>decide (y.2=.free->osc.names.lookup y.1=some .cell\/osc.names.lookup y.1=some .free))&&decide (x::N').Nodup&&decide ((".0" : Str)∉N')&&decide (N'.length=N.length)&&(N'.zip N).all fun p=>decide (p.1=p.2)||sc.names.all fun q=>decide (q.1≠p.1)
theorem yU(h:csB osc N x sc N'=true):CS osc N x sc N':=by
 simp only[csB,Oj,decide_eq_true_eq,Oz,TF] at h;exact⟨h.1.1.1.1.1.1.1.1.1,h.1.1.1.1.1.1.1.1.2,h.1.1.1.1.1.1.1.2,h.1.1.1.1.1.1.2,h.1.1.1.1.1.2,h.1.1.1.1.2,h.1.1.1.2,h.1.1.2,h.1.2,h.2⟩
section
variable {X:Cx}{x:Str}{scope:Qi}{elt iter:Expr}{ifs:List Expr}{px pos:Pos}{it:FI}{c:FT}{f:FE}
theorem sj(st:Stmt)(N N':List Str)(hi:DI X (.Name x px) iter it)(he:∀{C s0 H0 ex},DE (bV X x scope C s0 H0 ex N') elt f)(ht:∀{C s0 H0 ex},DTs (bV X x scope C s0 H0 ex N') ifs c)
  (S:csB (bj st) N x scope N'=true:=by decide +kernel) (hc:X.calm=true:=by rfl) (hs:X.env.scope=bj st:=by rfl) (hN:X.N=N:=by rfl) (hf:∀v,O0 iter X.env v=pure v:=by intro _;rfl):DE X (.ListComp elt [⟨.Name x px,iter,ifs,0⟩] scope pos) (bb it c f):=FU (yU S) hi (fun _ _ _ _=>he) (fun _ _ _ _=>ht) hc hs hN hf
theorem dR(st:Stmt)(N:List Str)(hi:DI X (.Name x px) iter it)(he:∀{C s0 H0 ex},DE (bV X x scope C s0 H0 ex N) elt f)
  (S:csB (bj st) N x scope N=true:=by decide +kernel) (hc:X.calm=true:=by rfl) (hs:X.env.scope=bj st:=by rfl) (hN:X.N=N:=by rfl) (hf:∀v,O0 iter X.env v=pure v:=by intro _;rfl):DE X (.ListComp elt [⟨.Name x px,iter,[],0⟩] scope pos) (bb it bx f):=sj st N N hi he kZ S hc hs hN hf
theorem gD(st:Stmt)(N:List Str)(hi:DI X (.Name x px) iter it)(he:∀{C s0 H0 ex},DE (bV X x scope C s0 H0 ex N) elt f)(ht:∀{C s0 H0 ex},DT (bV X x scope C s0 H0 ex N) t c)
  (S:csB (bj st) N x scope N=true:=by decide +kernel) (hc:X.calm=true:=by rfl) (hs:X.env.scope=bj st:=by rfl) (hN:X.N=N:=by rfl) (hf:∀v,O0 iter X.env v=pure v:=by intro _;rfl):DE X (.ListComp elt [⟨.Name x px,iter,[t],0⟩] scope pos) (bb it c f):=sj st N N hi he (qO rfl ht) S hc hs hN hf
theorem oJ(st:Stmt)(N N':List Str)(nd:X.N.Nodup)(hi:DI X (.Name x px) iter it)(he:∀{C s0 H0 ex},DE (bV X x scope C s0 H0 ex N') elt f)(ht:∀{C s0 H0 ex},DTs (bV X x scope C s0 H0 ex N') ifs c)
  (S:csB (bj st) N x scope N'=true:=by decide +kernel) (hi':X.N[i]? = some y:=by rfl) (hy:Loc X.env.scope y:=by first|exact Pc rfl|exact OW rfl)
  (hf':X.fn y=true\/X.env.scope.names.lookup y=some .local:=by first|exact .inl rfl|exact .inr rfl|assumption) (hc:X.calm=true:=by rfl) (hs:X.env.scope=bj st:=by rfl) (hN:X.N=N:=by rfl)
  (hsw:Pm (.ListComp elt [⟨.Name x px,iter,ifs,0⟩] scope pos) (some (.Name y py)) spos.line X.env=pure true:=by rfl) (hf:∀v,O0 iter X.env v=pure v:=by intro _;rfl) :
  DS X (.Assign [.Name y py] (.ListComp elt [⟨.Name x px,iter,ifs,0⟩] scope pos) spos) (aM i (bb it c f)):=FB (yU S) nd hi (fun _ _ _ _=>he) (fun _ _ _ _=>ht) hi' hy hf' hc hs hN hsw hf
end
end D
namespace G
open L2 D

theorem br(k:Nat)(h:0<k):∃j,k=j+1:=⟨k-1,by omega⟩
abbrev ac:FE:=fC (.int 0)
abbrev ad:FE:=fC (.int 1)
abbrev be:FE:=aa 0
abbrev bn:FE:=aa 1
abbrev ci:FE:=fC (.str "fails")
abbrev cr:FE:=fC (.bool false)
abbrev db:FE:=aa 2
abbrev dL:FE:=fC (.int 2)
abbrev f8:FE:=aa 3
abbrev ge:FE:=fC (.str "value")
abbrev gl:FE:=aa 4
abbrev ii:FE:=fC (.str "made")
abbrev im:FE:=aa 5
abbrev kt:FE:=fC (.str "kind")
abbrev lf:FE:=fC (.bool true)
abbrev mt:FE:=fC (.str "wants")
abbrev o0:FE:=fC (.str "abcdefghijklmnopqrstuvwxyz")
abbrev pc:FE:=fC (.int 8)
abbrev pi:FE:=fC (.int 10)
abbrev pr:FE:=fC (.str "abcdefghijklmnopqrstuvwxyz0123456789-")
abbrev sw:FE:=fC (.str "put")
abbrev sB:FE:=fC (.str "row")
abbrev sK:FE:=fC (.int 4)
abbrev tz:FE:=fC (.str "part")
abbrev u8:FE:=fC (.str "when")
abbrev wf:FE:=fC (.str "want")
abbrev wl:FE:=aa 6
abbrev wp:FE:=fC (.int 3)
abbrev wv:FE:=fC (.str "got")
abbrev ww:FE:=fC (.str "say")
abbrev wE:FE:=fC (.int 7)
abbrev wP:FE:=fC (.str "name")
abbrev wT:FE:=aa 7
abbrev xz:FE:=fC (.int 18)
abbrev zn:FE:=fC (.int 12)
abbrev At:FE:=fC (.str "great")
abbrev AT:FE:=fC (.str "many")
abbrev BT:FE:=fC (.str "join")
abbrev Ch:FE:=fC (.str "same")
abbrev Cl:FE:=fC (.str "fail")
abbrev Db:FE:=fC .none
abbrev Fa:FE:=fC (.str "peek")
abbrev Fr:FE:=fC (.str "sum")
abbrev Go:FE:=fC (.int 5)
abbrev Id(f:FE):FA:=ae f ah
abbrev Ix:FE->FE->FE:=af ixD
abbrev IN:FA->FE:=aC .tuple
abbrev IO:FE->FE->FE:=af eqD
abbrev KK:FE->FE->FE:=af aR
abbrev LE:FA->FE:=fCB aT
abbrev LT:FA->FE:=aC .list
abbrev N5:FE->FE->FE:=af ixA
abbrev N6:FE->FE->FE:=af gtD
abbrev N7:FE->FE->FE:=af neD
abbrev N8:FA->FE:=fCB intD
def eS:FnM:=aP 1 (ay (cw (fUn (aZ .int) be) (lO (fUn (aZ .bl) be))))
def iD:FnM:=aP 2 (ay (fCB ip (Id (bb (aW be) bx (af inD be db)))))
def jo:FnM:=aP 1 (ay (cw (fUn (aZ .str) be) (cw (iS leD leD ad (LE (Id be)) pc) (aq iD (ae be (Id o0))))))
def ki:FnM:=aP 1 (ak (fIf (aK (aq eS (Id be))) (ay (af leD (fCB me (Id be)) (af ij pi xz))) aH) (ay (cw (fUn (aZ .str) be) (cw (af leD (LE (Id be)) (fC (.int 20))) (aq iD (ae be (Id pr)))))))
def fE:Nat->FnM
 |0=>fun _ _=>none
 |n+1=>aP 2 (ak (fIf (a6 (aK (fUn (aZ .tup) be))) (ay (aq ki (Id be))) aH) (ak (fIf (a8 (au (IO bn ac)) (au (N6 (LE (Id be)) pc))) (ay cr) aH) (ay (fCB ip (Id (bb (aW be) bx (aq (fE n) (ae be (Id (af fh db ad))))))))))
def iF:Nat->FnM
 |0=>fun _ _=>none
 |n+1=>aP 1 (ak (fIf (a6 (aK (fUn (aZ .tup) be))) (ay ad) aH) (ay (KK ad (fCB lV (Id (bb (aW be) bx (aq (iF n) (Id be))))))))
def kz:FnM:=aP 1 (ay (cw (aq (fE 25) (ae be (Id sK))) (af leD (aq (iF 25) (Id be)) (fC (.int 40)))))
def fw:FnM:=aP 1 (ak (fIf (a8 (au (IO (Ix be ac) sw)) (au (IO (Ix be ac) wv))) (ay (LT ah)) aH) (ak (fIf (au (IO (Ix be ac) sB)) (ay (fCB dC (Id (Ix be ad)))) aH) (ay (fCB dC (Id (fSl be (fP ad) cx))))))
def gJ:FnM:=aP 2 (ak (fIf (a8 (a6 (aK (aq eS (Id be)))) (a6 (aK (aq eS (Id bn))))) (ay (IN (ae ci (Id kt)))) aH) (ay (IN (ae ge (Id (cF (au (af ltD be bn)) ad ac))))))
def gO:FnM:=aP 1 (ay (cF (aK (aq kz (Id be))) (IN (ae ge (Id be))) (IN (ae ci (Id At)))))
def kg:FnM:=aP 1 (ak (fIf (aK (aq eS (Id be))) (ay (IN (ae ci (Id kt)))) aH) (ay (IN (ae ge (Id (LE (Id be)))))))
def gh:FnM:=aP 2 (ak (fIf (a8 (a6 (aK (fUn (aZ .tup) be))) (a6 (aK (aq eS (Id bn))))) (ay (IN (ae ci (Id kt)))) aH) (ak (fIf (a6 (au (iS leD ltD ac bn (LE (Id be))))) (ay (IN (ae ci (Id tz)))) aH) (ay (IN (ae ge (Id (Ix be bn)))))))
def iC:FnM:=aP 2 (ak (fIf (a8 (a6 (aK (aq eS (Id be)))) (a6 (aK (aq eS (Id bn))))) (ay (IN (ae ci (Id kt)))) aH) (ay (aq gO (Id (KK be bn)))))
def gi:FnM:=aP 2 (ak (fIf (bN (aK (fUn (aZ .str) be)) (aK (fUn (aZ .str) bn))) (ay (aq gO (Id (KK be bn)))) aH) (ak (fIf (bN (aK (fUn (aZ .tup) be)) (aK (fUn (aZ .tup) bn))) (ay (aq gO (Id (KK be bn)))) aH) (ay (IN (ae ci (Id kt))))))
def bA:FnM:=aP 2 (ak (fIf (au (IO be sB)) (ay (aq gO (Id (fCB dA (Id bn))))) aH) (ak (fIf (au (IO be AT)) (ay (aq kg (Id (Ix bn ac)))) aH) (ak (fIf (au (IO be tz)) (ay (aq gh (ae (Ix bn ac) (Id (Ix bn ad))))) aH) (ak (fIf (au (IO be Fr)) (ay (aq iC (ae (Ix bn ac) (Id (Ix bn ad))))) aH) (ak (fIf (au (IO be BT)) (ay (aq gi (ae (Ix bn ac) (Id (Ix bn ad))))) aH) (ak (fIf (au (IO be Ch)) (ay (IN (ae ge (Id (cF (au (af eqG (Ix bn ac) (Ix bn ad))) ad ac))))) aH) (ay (aq gJ (ae (Ix bn ac) (Id (Ix bn ad)))))))))))
def dX:Nat->FnM
 |0=>fun _ _=>none
 |n+1=>aP 5 (ak (fIf (au (IO (Ix be ac) sw)) (ay (IN (ae ge (Id (Ix be ad))))) aH) (ak (fIf (au (IO (Ix be ac) wv)) (ay (IN (ae ge (Id (Ix bn (Ix be ad)))))) aH) (ak (dI 2 ah) (ak (cA 3 (aW (aq fw (Id be))) (ak (aM 4 (aq (dX n) (ae f8 (Id bn)))) (ak (fIf (au (IO (Ix gl ac) ci)) (ay gl) aH) (dQ 2 (Ix gl ad))))) (ay (jR bA (ae (Ix be ac) (Id db))))))))
def cX:Nat->FnM
 |0=>fun _ _=>none
 |n+1=>aP 3 (ak (fIf (au (IO (Ix be ac) Cl)) (ay (IN (ae ci (Id (Ix be ad))))) aH) (ak (aM 2 (aq (dX 25) (ae (Ix be ad) (Id bn)))) (ak (fIf (au (IO (Ix db ac) ci)) (ay db) aH) (ak (fIf (au (IO (Ix be ac) u8)) (ay (aq (cX n) (ae (cF (au (af inG (Ix db ad) (IN (ae ac (ae (fC (.str "")) (Id (IN ah))))))) (Ix be wp) (Ix be dL)) (Id bn)))) aH) (ak (fIf (au (IO (Ix be ac) ww)) (ay (IN (ae ii (Id (Ix db ad))))) aH) (ak (fIf (a6 (aK (aq jo (Id (Ix db ad))))) (ay (IN (ae ci (Id wP)))) aH) (ay (IN (ae (Ix be ac) (ae (Ix db ad) (Id (Ix be dL))))))))))))
def eQ:Nat->FnM
 |0=>fun _ _=>none
 |n+1=>aP 1 (ak (fIf (aK (aq eS (Id be))) (ay (fCB lW (Id be))) aH) (ak (fIf (aK (fUn (aZ .str) be)) (ay (KK (fC (.str "'")) be)) aH) (ay (KK (KK (fC (.str "(")) (af lL (fC (.str ",")) (bb (aW be) bx (aq (eQ n) (Id be))))) (fC (.str ")"))))))
def jp:FnM:=aP 1 (ak (fIf (au (IO (Ix be ac) ii)) (ay (IN (ae ii (Id (aq (eQ 25) (Id (Ix be ad))))))) aH) (ak (fIf (au (IO (Ix be ac) ci)) (ay be) aH) (ay (IN (ae mt (Id (Ix be ad)))))))
def kh:FnM:=aP 3 (ak (aM 2 (fCB dA (Id (bb (aW (Ix bn ad)) bx (IN (ae (Ix be ac) (Id (aq (eQ 25) (Id (Ix be ad)))))))))) (ay (IN (ae be (ae db (Id (aq jp (Id (Ix bn dL)))))))))
def mq:FnM:=aP 3 (ak (dJ 1) (ak (cA 2 (aW be) (cz 1 db (aq kh (ae db (Id (N5 be db)))))) (ay bn)))
def ky:FnM:=aP 1 (ay (IN (ae (IN ah) (ae (IN ah) (Id (aq (cX 25) (ae be (Id (IN ah)))))))))
def eh:FnM:=aP 1 (ay (cF (au (af inD (Ix (Ix be dL) ac) (fC (.tuple [.str "want",.str "peek"])))) (Ix (Ix be dL) ad) Db))
def jz:FnM:=aP 5 (ak (aM 2 (Ix be dL)) (ak (aM 3 (KK (Ix be ac) (IN (Id bn)))) (ak (aM 4 (cF (au (IO (Ix db ac) wf)) (KK (Ix be ad) (IN (Id (IN (ae (Ix db ad) (Id bn)))))) (Ix be ad))) (ay (IN (ae f8 (ae gl (Id (aq (cX 25) (ae (Ix db dL) (Id f8)))))))))))
def kE:FnM:=aP 2 (ak (bL (au (af inA (aq eh (Id be)) bn)) (aM 0 (aq jz (ae be (Id (N5 bn (aq eh (Id be))))))) 100000) (ay be))
def ml:FnM:=aP 7 (ak (gW 1 (Ix be ac)) (ak (dJ 2) (ak (oF 3 4 (Ix be ad) (cz 2 f8 (aq ky (Id gl)))) (ak (aM 5 lf) (ak (bL (aK im) (ak (aM 6 (LE (Id bn))) (ak (cA 3 (aW (Ix be ad)) (ak (cz 2 f8 (d0 (aq kE (ae (N5 db f8) (Id bn))))) (fIf (au (IO (Ix (Ix (N5 db f8) dL) ac) ii)) (cz 1 f8 (Ix (Ix (N5 db f8) dL) ad)) aH))) (aM 5 (N6 (LE (Id bn)) wl)))) 100000) (ay (IN (ae bn (Id db)))))))))
def mx:FnM:=aP 1 (ay (aq mq (Id (Ix (aq ml (Id be)) ad))))
def iu:FnM:=aP 2 (ay (lO (fCB oX (Id (bb (aW (Ix bn ad)) bx (af inA (Ix be ac) bn))))))
def my:FnM:=g9 5 (ak (dI 1 ah) (ak (gW 2 be) (ak (bL (au (N6 (LE (Id db)) ac)) (ak (aM 3 (bb (aW (fUn fQ db)) (aK (d0 (aq iu (ae f8 (Id (N5 f8 be)))))) be)) (ak (fIf (au (IO (LE (Id f8)) ac)) rL aH) (cA 4 (aW f8) (sH 1 2 gl)))) 100000) (ly 1))))
def gj:FnM:=aP 2 (ak (aM 1 (cF (au (IO (Ix (Ix be dL) ac) mt)) (LT (Id (Ix (Ix be dL) ad))) (LT ah))) (ay (KK (bb (aW (Ix be ad)) bx (Ix be ac)) bn)))
def kc:FnM:=aP 5 (ak (dJ 2) (ak (nZ 3 bn) (ak (bL (au (N6 (LE (Id f8)) ac)) (ak (j5 3 4) (fIf (au (af gr gl db)) (ak (cz 2 gl lf) (l7 3 (cF (au (af inA gl be)) (aq gj (Id (N5 be gl))) (LT ah)))) aH)) 100000) (ay (fUn fQ db)))))
def mh:FnM:=aP 4 (ak (dJ 2) (ak (cA 3 (aW (aq kc (ae be (Id bn)))) (fIf (au (af inA f8 be)) (cz 2 f8 (N5 be f8)) aH)) (ay db)))
def jm:FnM:=g9 3 (ak (aM 2 (aq mx (Id be))) (rM my (Id (aq mh (ae db (Id bn))))))
def fB:FnM:=aP 2 (ak (fIf (au (af ltD bn (LE (Id be)))) (ay (Ix be bn)) aH) (ay ac))
def gc:FnM:=aP 6 (ak (dI 2 ah) (ak (aM 3 ac) (ak (fIf (au (af geD be (af ij pi xz))) (aM 3 be) aH) (ak (aM 4 (KK (af cO be (fC (.int 2147483629))) (fC (.int 48271)))) (ak (cA 5 (dE bn) (ak (aM 4 (af cO (KK (KK (af b9 gl gl) (af b9 (fC (.int 48271)) gl)) (af b9 wE im)) (fC (.int 2147483647)))) (fIf (au (N6 f8 ac)) (ak (dQ 2 (af cO f8 (fC (.int 720720)))) (aM 3 (af gB f8 (fC (.int 720720))))) (dQ 2 (af gB (af cO (KK (af b9 gl (fC (.int 69621))) (af b9 (fC (.int 13)) im)) (fC (.int 2147483629))) wp))))) (ay db))))))
def bw:FnM:=aP 2 (ak (sG be ad (KK (Ix be ad) ad)) (ay (af cO (Ix (Ix be ac) (af cO (af fh (Ix be ad) ad) (LE (Id (Ix be ac))))) bn)))
def iz:Nat->FnM
 |0=>fun _ _=>none
 |n+1=>aP 1 (ak (fIf (a6 (aK (fUn (aZ .tup) be))) (ay ad) aH) (ay (KK ad (fCB lV (Id (bb (aW be) bx (aq (iz n) (Id be))))))))
def fA:FnM:=aP 1 (ak (fIf (a8 (a6 (aK (fUn (aZ .str) be))) (a8 (au (af ltD (LE (Id be)) ad)) (au (N6 (LE (Id be)) pc)))) (ay cr) aH) (ay (af eqG (bb (aW be) (au (af di be o0)) be) (LT ah))))
def d9:Nat->FnM
 |0=>fun _ _=>none
 |n+1=>aP 3 (ak (fIf (aK (fUn (aZ .bl) be)) (ay cr) aH) (ak (fIf (aK (fUn (aZ .int) be)) (ay (af leD (fCB me (Id be)) (af ij pi xz))) aH) (ak (fIf (aK (fUn (aZ .str) be)) (ak (aM 2 pr) (ay (cw (af leD (LE (Id be)) (fC (.int 20))) (af eqG (bb (aW be) (au (af di be f8)) be) (LT ah))))) aH) (ak (fIf (a8 (a6 (aK (fUn (aZ .tup) be))) (a8 (au (N6 (LE (Id be)) pc)) (au (N6 bn wp)))) (ay cr) aH) (ay (af eqG (bb (aW be) (a6 (aK (aq (d9 n) (ae be (Id (KK db ad)))))) be) (LT ah)))))))
def gb:FnM:=aP 1 (ay (cw (aq (d9 25) (ae be (Id ac))) (af leD (aq (iz 25) (Id be)) (fC (.int 40)))))
def cK:Nat->FnM
 |0=>fun _ _=>none
 |n+1=>aP 1 (ak (fIf (aK (fUn (aZ .tup) be)) (ay (KK (KK (fC (.str "(")) (af lL (fC (.str ",")) (bb (aW be) bx (aq (cK n) (Id be))))) (fC (.str ")")))) aH) (ak (fIf (aK (fUn (aZ .str) be)) (ay (KK (fC (.str "'")) be)) aH) (ay (fCB lW (Id be)))))
def bP:FnM:=aP 5 (ak (aM 3 (cw (fUn (aZ .int) bn) (fUn (aZ .int) db))) (ak (aM 4 (cw (IO (fUn (aZ .str) bn) (fUn (aZ .str) db)) (IO (fUn (aZ .tup) bn) (fUn (aZ .tup) db)))) (ak (fIf (au (IO be Ch)) (ay (IN (ae ge (Id (N8 (Id (IO (j4 bn) (j4 db)))))))) aH) (ak (fIf (bN (au (IO be (fC (.str "less")))) (aK f8)) (ay (IN (ae ge (Id (N8 (Id (af ltD bn db))))))) aH) (ak (fIf (bN (au (IO be tz)) (bN (aK (fUn (aZ .tup) bn)) (aK (fUn (aZ .int) db)))) (ay (cF (au (iS leD ltD ac db (LE (Id bn)))) (IN (ae ge (Id (Ix bn db)))) (IN (ae ci (Id tz))))) aH) (ak (fIf (a8 (bN (au (IO be BT)) (bN (aK gl) (a6 (aK f8)))) (bN (au (IO be Fr)) (aK f8))) (ay (cF (aK (aq gb (Id (KK bn db)))) (IN (ae ge (Id (KK bn db)))) (IN (ae ci (Id At))))) aH) (ay (IN (ae ci (Id kt))))))))))
def cW:Nat->FnM
 |0=>fun _ _=>none
 |n+1=>aP 5 (ak (fIf (au (IO (Ix be ac) sw)) (ay (IN (ae ge (Id (Ix be ad))))) aH) (ak (fIf (au (IO (Ix be ac) wv)) (ay (IN (ae ge (Id (Ix bn (Ix be ad)))))) aH) (ak (dI 2 ah) (ak (cA 3 (aW (Ix (LT (ae (fCB dC (Id (fSl be (fP ad) cx))) (Id (fCB dC (Id (Ix be ad)))))) (N8 (Id (IO (Ix be ac) sB))))) (ak (aM 4 (aq (cW n) (ae f8 (Id bn)))) (ak (fIf (au (IO (Ix gl ac) ci)) (ay gl) aH) (dQ 2 (Ix gl ad))))) (ak (fIf (au (IO (Ix be ac) sB)) (ay (cF (aK (aq gb (Id (fCB dA (Id db))))) (IN (ae ge (Id (fCB dA (Id db))))) (IN (ae ci (Id At))))) aH) (ak (fIf (au (IO (Ix be ac) AT)) (ay (cF (aK (fUn (aZ .int) (Ix db ac))) (IN (ae ci (Id kt))) (IN (ae ge (Id (LE (Id (Ix db ac)))))))) aH) (ay (aq bP (ae (Ix be ac) (ae (Ix db ac) (Id (Ix db ad))))))))))))
def iw:FnM:=aP 5 (jP 1 (cP (kIf 1 (a8 (a6 (aK (fUn (aZ .str) be))) (au (N6 (LE (Id be)) (fC (.int 900))))) (kNo (ka (LT ah))) e8) (cP (kFor 2 (n6 (af lj (fUn (g0 ")" ",),") (fUn (g0 "(" ",(,") be)) (fC (.str ",")))) (cP (j9 3 (fSl db (fP (N8 (Id (IO (fSl db cx (fP ad)) (fC (.str "-")))))) cx)) (kIf 1 (au (IO db (fC (.str "(")))) jZ (kIf 1 (bN (au (IO db (fC (.str ")")))) (au (N6 (LE (Id bn)) ad))) (cP (lZ 4) (fm (fUn dP ad) gl)) (kIf 1 (au (IO (fSl db cx (fP ad)) (fC (.str "'")))) (fm (fUn dP ad) (fSl db (fP ad) cx)) (kIf 1 (bN (au (N7 f8 (fC (.str "")))) (bN (au (af ltD (LE (Id db)) (fC (.int 25)))) (au (af eqG (bb (aW f8) (au (af di be (fC (.str "0123456789")))) be) (LT ah))))) (fm (fUn dP ad) (N8 (Id db))) e8)))))) (cP (kIf 1 (a8 (au (N6 (LE (Id bn)) ad)) (a8 (au (N7 (LE (Id (Ix bn ac))) ad)) (a8 (a6 (aK (aq gb (Id (Ix (Ix bn ac) ac))))) (au (N7 (aq (cK 25) (Id (Ix (Ix bn ac) ac))) be))))) (ka (LT ah)) e8) lK))))
def gK:FnM:=aP 5 (ak (fIf (au (af isD db Db)) (ay (cF (au (af inA gl bn)) (LT (Id (N5 bn gl))) (IN (ae mt (Id gl))))) aH) (ak (fIf (a8 (au (IO be Fa)) (bN (au (af ltD f8 (LE (Id db)))) (au (N7 (Ix (Ix db f8) ac) gl)))) (ay (IN (ae (fC (.str "strays")) (Id gl)))) aH) (ay (cF (au (af ltD f8 (LE (Id db)))) (aq iw (Id (Ix (Ix db f8) ad))) (IN (ae mt (Id gl)))))))
def gM:FnM:=aP 7 (ak (dI 3 ah) (ak (dI 4 ah) (ak (bL (au (N7 (Ix be ac) Cl)) (ak (aM 5 (jR (cW 25) (ae (Ix be ad) (Id f8)))) (ak (fIf (a8 (au (IO (Ix im ac) ci)) (au (IO (Ix be ac) ww))) (ay (IN (ae gl (Id (Ix (LT (ae im (Id (IN (ae ii (Id (aq (cK 25) (Id (Ix im ad))))))))) (N8 (Id (IO (Ix im ac) ge)))))))) aH) (fIf (au (IO (Ix be ac) u8)) (aM 0 (Ix be (KK dL (N8 (Id (af inD (j4 (Ix im ad)) (LT (ae (fC (.str "0")) (ae (fC (.str "''")) (Id (fC (.str "()")))))))))))) (fIf (a6 (aK (aq fA (Id (Ix im ad))))) (ay (IN (ae gl (Id (IN (ae ci (Id wP))))))) (ak (aM 6 (aq gK (ae (Ix be ac) (ae bn (ae db (ae (LE (Id gl)) (Id (Ix im ad)))))))) (ak (fIf (aK (fUn (aZ .tup) wl)) (ay (IN (ae gl (Id wl)))) aH) (ak (dQ 3 (Ix wl ac)) (ak (fIf (au (IO (Ix be ac) wf)) (dQ 4 (IN (ae (Ix im ad) (Id (aq (cK 25) (Id (Ix wl ac))))))) aH) (aM 0 (Ix be dL)))))))))) 100000) (ay (IN (ae gl (Id (IN (ae ci (Id (Ix be ad)))))))))))
def kq:FnM:=aP 5 (ak (gW 1 (Ix be ac)) (ak (aM 2 lf) (ak (bL (aK db) (ak (aM 2 cr) (cA 3 (aW (bb (aW (Ix be ad)) (au (af gr be db)) be)) (ak (aM 4 (d0 (Ix (aq gM (ae (N5 (Ix be ad) f8) (ae bn (Id Db)))) ad))) (fIf (au (IO (Ix gl ac) ii)) (ak (cz 1 f8 (Ix (aq iw (Id (Ix gl ad))) ac)) (aM 2 lf)) aH)))) 100000) (ay bn))))
def km:FnM:=aP 5 (ak (l6 3 4 (aq gM (ae (N5 (Ix be ad) db) (ae bn (Id Db))))) (ay (IN (ae db (ae (fCB dA (Id f8)) (Id gl))))))
def eN:FnM:=aP 2 (ak (fIf (a8 (a6 (aK (fUn (aZ .tup) be))) (a8 (au (N7 (LE (Id be)) dL)) (a6 (aK (fUn (aZ .str) (Ix be ac)))))) (ay cr) aH) (ak (fIf (a8 (aK bn) (au (IO (Ix be ac) ii))) (ay (cw (af neG (aq iw (Id (Ix be ad))) (LT ah)) (aq fA (Id (Ix be ac))))) aH) (ay (cw (af inD (Ix be ac) (LT (ae ci (Id mt)))) (aq fA (Id (Ix be ad)))))))
def ji:FnM:=aP 1 (ak (fIf (a8 (a6 (aK (fUn (aZ .tup) be))) (a8 (au (N7 (LE (Id be)) wp)) (a6 (aK (aq fA (Id (Ix be ac))))))) (ay cr) aH) (ak (fIf (a8 (a6 (aK (fUn (aZ .tup) (Ix be ad)))) (a8 (au (N6 (LE (Id (Ix be ad))) zn)) (a6 (aK (aq eN (ae (Ix be dL) (Id cr))))))) (ay cr) aH) (ay (af eqG (bb (aW (Ix be ad)) (a6 (aK (aq eN (ae be (Id lf))))) be) (LT ah)))))
def kf:FnM:=aP 4 (ak (l6 2 3 (aq gM (ae be (ae (fC (.dict [])) (Id (Ix bn ad)))))) (ay (cw (af eqG f8 (Ix bn dL)) (IO (LE (Id db)) (LE (Id (Ix bn ad)))))))
def ko:FnM:=aP 8 (ak (fIf (a8 (a6 (aK (fUn (aZ .lst) bn))) (au (af neG (bb (aW bn) (a6 (aK (aq ji (Id be)))) be) (LT ah)))) (ay cr) aH) (ak (aM 2 (bb (aW bn) bx (Ix be ac))) (ak (aM 3 (bb (aW bn) (au (N7 (Ix (Ix be dL) ac) ii)) (Ix be ac))) (ak (lw 4 (bb (aW (Ix be ac)) bx (IN (ae be (Id (aq (cK 25) (Id (N5 (Ix bn ac) be)))))))) (ak (n8 5 6 7 (aW bn) (ak (fIf (a8 (au (N7 (oG db im) ad)) (a8 (au (af gr im (Ix be ad))) (a6 (aK (aq kf (ae (N5 (Ix be ad) im) (Id (IN (ae im (ae wl (Id wT))))))))))) (ay cr) aH) (ak (fIf (au (af neG (bb (aW wl) (au (N7 (lP im (Ix be ac)) (Ix be ad))) be) (LT ah))) (ay cr) aH) (ak (fIf (bN (au (IO (Ix wT ac) mt)) (bN (au (af di (Ix wT ad) f8)) (a8 (au (af inA (Ix wT ad) (Ix be ac))) (au (af inA (Ix wT ad) (Ix be ad)))))) (ay cr) aH) (fIf (au (IO (Ix wT ac) ii)) (cz 4 im (Ix wT ad)) aH))))) (ay (af leD (LE (Id bn)) (fC (.int 100)))))))))
def dv:Nat->FnM
 |0=>fun _ _=>none
 |n+1=>aP 2 (ak (fIf (aK (fUn j3 bn)) (ak (fIf (a8 (au (N7 (fUn (aZ .tup) be) (fUn (aZ .tup) bn))) (au (N7 (fUn (aZ .lst) be) (fUn (aZ .lst) bn)))) (ay cr) aH) (ay (cw (IO (LE (Id be)) (LE (Id bn))) (fCB ip (Id (bb (dE (LE (Id bn))) bx (aq (dv n) (ae (N5 bn be) (Id (N5 db be)))))))))) aH) (ak (fIf (aK (fUn (aZ .dct) bn)) (ak (fIf (a8 (a6 (aK (fUn (aZ .dct) be))) (au (N7 (LE (Id be)) (LE (Id bn))))) (ay cr) aH) (ay (fCB ip (Id (bb (aW bn) bx (cw (af inA be bn) (aq (dv n) (ae (N5 bn be) (Id (N5 db be)))))))))) aH) (ak (fIf (a8 (aK (fUn (aZ .bl) bn)) (au (af isD bn Db))) (ay (cw (IO (fUn (aZ .bl) be) (fUn (aZ .bl) bn)) (IO be bn))) aH) (ak (fIf (aK (fUn (aZ .int) bn)) (ay (cw (fUn (aZ .int) be) (cw (lO (fUn (aZ .bl) be)) (IO be bn)))) aH) (ay (cw (fUn (aZ .str) be) (IO be bn)))))))
def gI:FnM:=aP 7 (ak (aM 2 o0) (ak (aM 3 (aq bw (ae be (Id sK)))) (ak (aM 4 (aq bw (ae be (Id zn)))) (ak (fIf (au (IO f8 ac)) (ak (aM 5 (LT (ae (fC (.str "told")) (ae ii (ae ww (ae wf (ae mt (ae ci (ae sw (ae wv (ae sB (ae Fa (ae u8 (Id kt)))))))))))))) (ay (fSl (KK (fSl im (fP gl) cx) (fSl im cx (fP gl))) cx (fP bn)))) aH) (ak (fIf (au (IO f8 ad)) (ay (bb (dE bn) bx (af b9 (Ix f8 (KK im (af gB be pc))) (KK ad (af cO be pc))))) aH) (ak (aM 6 (af b9 (Ix db gl) (aq bw (ae be (Id (af fh pc (af cO gl wE))))))) (ay (bb (dE bn) bx (KK (KK (af b9 (Ix f8 im) (af cO im wE)) (Ix f8 (af cO (KK im be) (fC (.int 26))))) wT)))))))))
def da:Nat->FnM
 |0=>fun _ _=>none
 |n+1=>aP 5 (ak (aM 3 (aq bw (ae be (Id pi)))) (ak (aM 4 (LT (ae ac (ae ad (ae (fUn dP ad) (ae dL (ae (af ij pi xz) (ae (fUn dP (af ij pi xz)) (ae (fC (.str "")) (ae (fC (.str "a")) (ae (fC (.str "0")) (ae (fC (.str "-")) (ae (af b9 (fC (.str "a")) (fC (.int 20))) (Id (IN ah))))))))))))))) (ak (fIf (a8 (au (af ltD f8 (fC (.int 6)))) (bN (au (IO db ac)) (au (N6 f8 wE)))) (ay (Ix gl (aq bw (ae be (Id zn))))) aH) (ak (fIf (au (af ltD f8 pc)) (ay (Ix bn (aq bw (ae be (Id (LE (Id bn))))))) aH) (ay (fCB dA (Id (bb (dE (aq bw (ae be (Id sK)))) bx (aq (da n) (ae bn (ae db (Id (af fh f8 ad)))))))))))))
def iy:FnM:=aP 3 (ak (fIf (bN (au (N6 db ac)) (au (N6 (aq bw (ae be (Id wp))) ac))) (ay (IN (ae wv (Id (aq bw (ae be (Id db))))))) aH) (ay (IN (ae sw (Id (aq (da 25) (ae be (ae bn (Id ad)))))))))
def iA:FnM:=aP 6 (ak (aM 3 (aq bw (ae be (Id pi)))) (ak (aM 4 (aq iy (ae be (ae bn (Id db))))) (ak (fIf (au (af ltD f8 Go)) (ay (Ix (LT (ae gl (Id (IN (ae AT (Id gl)))))) (af gB f8 sK))) aH) (ak (aM 5 (aq iy (ae be (ae bn (Id db))))) (ak (fIf (au (IO f8 Go)) (ay (IN (ae sB (Id (fSl (IN (ae gl (Id im))) cx (fP (aq bw (ae be (Id wp))))))))) aH) (ay (IN (ae (Ix (LT (ae Fr (ae BT (ae Ch (ae (fC (.str "less")) (Id tz)))))) (aq bw (ae be (Id Go)))) (ae gl (Id im))))))))))
def cB:Nat->FnM
 |0=>fun _ _=>none
 |n+1=>aP 9 (ak (aM 5 (aq bw (ae be (Id pc)))) (ak (aM 6 (aq iA (ae be (ae bn (Id f8))))) (ak (fIf (bN (au (N6 db ac)) (au (af ltD im sK))) (ak (aM 7 (Ix (LT (ae wf (Id Fa))) (N8 (Id (cw gl (IO (aq bw (ae be (Id sK))) ac)))))) (ak (fIf (au (N6 (aq bw (ae be (Id Go))) ac)) (aM 6 (IN (ae sw (Id (Ix bn (aq bw (ae be (Id (LE (Id bn)))))))))) aH) (ay (IN (ae wT (ae wl (Id (aq (cB n) (ae be (ae bn (ae (af fh db ad) (ae (KK f8 ad) (Id gl))))))))))))) aH) (ak (fIf (bN (au (N6 db ad)) (au (af ltD im (fC (.int 6))))) (ak (aM 8 (aq (cB n) (ae be (ae bn (ae (af fh db dL) (ae f8 (Id gl))))))) (ay (IN (ae u8 (ae wl (ae (aa 8) (Id (aq (cB n) (ae be (ae bn (ae (af fh db dL) (ae f8 (Id gl))))))))))))) aH) (ak (fIf (bN (au (IO im (fC (.int 6)))) (au (IO (aq bw (ae be (Id dL))) ac))) (ay (IN (ae Cl (Id (Ix (KK bn (LT (ae kt (Id wP)))) (aq bw (ae be (Id (KK (LE (Id bn)) dL))))))))) aH) (ay (IN (ae ww (Id wl)))))))))
def kr:FnM:=aP 10 (gX 3 (ae (aq gc (ae (aq fB (ae be (Id bn))) (Id (fC (.int 24))))) (Id ac)) (ak (aM 4 (KK wp (aq bw (ae f8 (Id pc))))) (ak (aM 5 (aq gI (ae f8 (Id (KK gl dL))))) (ak (dJ 6) (ak (dJ 7) (ak (cA 8 (dE gl) (gX 9 (ae (aq gc (ae (KK (aq fB (ae be (Id (KK (KK bn ad) (aa 8))))) (af b9 (fC (.int 977)) (aa 8))) (Id (fC (.int 60))))) (Id ac)) (fIf (au (IO (aq bw (ae (aa 9) (Id sK))) ac)) (cz 6 (Ix im (aa 8)) (aq (da 25) (ae (aa 9) (ae im (Id dL))))) (cz 7 (Ix im (aa 8)) (aq (cB 25) (ae (aa 9) (ae im (ae (KK ad (aq bw (ae (aa 9) (Id sK)))) (ae ac (Id db)))))))))) (ay (IN (ae wl (Id wT))))))))))
def dW:FnM:=aP 7 (ak (aM 3 (fCB dC (Id db))) (ak (lu 4 jm (ae be (Id f8))) (ak (fIf (a8 (au (af neG f8 db)) (a8 (a6 (aK (fUn (aZ .lst) gl))) (a6 (aK (d0 (aq ko (ae be (Id gl)))))))) (ay cr) aH) (ak (aM 5 (jQ (aW gl) bx (Ix be ac))) (ak (fIf (au (af neG (bb (aW db) (bN (au (af inA be (Ix bn ad))) (au (af di be wl))) be) (LT ah))) (ay cr) aH) (ak (lQ 4 6 (gw (a6 (aK (aq (dv 25) (ae wl (Id (aq km (ae be (ae bn (Id (Ix wl ac))))))))))) (ay cr)) (ak (lR 4) (ay lf))))))))
def oy:FnM:=aP 8 (ak (aM 1 (aq kr (ae be (ae ad (Id cr))))) (ak (aM 2 (IN (ae (j6 (Ix bn ac)) (Id (j6 (Ix bn ad)))))) (ak (aM 3 (aq kq (Id bn))) (ak (aM 4 (fCB lE (Id (KK (fCB i3 (Id (Ix bn ac))) (fCB i3 (Id (Ix bn ad))))))) (ak (fIf (a8 (a6 (aK (aq dW (ae bn (ae f8 (Id gl)))))) (a6 (aK (aq dW (ae bn (ae f8 (Id (LT ah)))))))) (ay cr) aH) (ak (cA 5 (dE pi) (gX 6 (ae (aq gc (ae (KK (aq fB (ae be (Id (KK zn im)))) (af b9 (fC (.int 73)) im)) (Id (fC (.int 30))))) (Id ac)) (ak (aM 7 (bb (dE (aq bw (ae wl (Id wE)))) bx (Ix (KK im (LT (ae (fC (.str "zzzzzzzz")) (Id (fC (.str "A")))))) (aq bw (ae wT (Id (KK (LE (Id im)) dL))))))) (fIf (a8 (a6 (aK (aq dW (ae bn (ae f8 (Id wT)))))) (a6 (aK (aq dW (ae bn (ae f8 (Id wT))))))) (ay cr) aH)))) (ay (aq (dv 25) (ae bn (Id db))))))))))
def ph:FS:=(sH 1 2 gl)
def mn:FS:=(ak (aM 3 (bb (aW (fUn fQ db)) (aK (d0 (aq iu (ae f8 (Id (N5 f8 be)))))) be)) (ak (fIf (au (IO (LE (Id f8)) ac)) rL aH) (cA 4 (aW f8) ph)))
theorem Ad:my=g9 5 (ak (dI 1 ah) (ak (gW 2 be) (ak (bL (au (N6 (LE (Id db)) ac)) mn 100000) (ly 1)))):=rfl
def jg:FS:=(ak (j5 3 4) (fIf (au (af gr gl db)) (ak (cz 2 gl lf) (l7 3 (cF (au (af inA gl be)) (aq gj (Id (N5 be gl))) (LT ah)))) aH))
theorem zO:kc=aP 5 (ak (dJ 2) (ak (nZ 3 bn) (ak (bL (au (N6 (LE (Id f8)) ac)) jg 100000) (ay (fUn fQ db))))):=rfl
def jh:FS:=(fIf (au (af inA f8 be)) (cz 2 f8 (N5 be f8)) aH)
theorem zP:mh=aP 4 (ak (dJ 2) (ak (cA 3 (aW (aq kc (ae be (Id bn)))) jh) (ay db))):=rfl
def eA:FS:=(ak (aM 5 (jR (cW 25) (ae (Ix be ad) (Id f8)))) (ak (fIf (a8 (au (IO (Ix im ac) ci)) (au (IO (Ix be ac) ww))) (ay (IN (ae gl (Id (Ix (LT (ae im (Id (IN (ae ii (Id (aq (cK 25) (Id (Ix im ad))))))))) (N8 (Id (IO (Ix im ac) ge)))))))) aH) (fIf (au (IO (Ix be ac) u8)) (aM 0 (Ix be (KK dL (N8 (Id (af inD (j4 (Ix im ad)) (LT (ae (fC (.str "0")) (ae (fC (.str "''")) (Id (fC (.str "()")))))))))))) (fIf (a6 (aK (aq fA (Id (Ix im ad))))) (ay (IN (ae gl (Id (IN (ae ci (Id wP))))))) (ak (aM 6 (aq gK (ae (Ix be ac) (ae bn (ae db (ae (LE (Id gl)) (Id (Ix im ad)))))))) (ak (fIf (aK (fUn (aZ .tup) wl)) (ay (IN (ae gl (Id wl)))) aH) (ak (dQ 3 (Ix wl ac)) (ak (fIf (au (IO (Ix be ac) wf)) (dQ 4 (IN (ae (Ix im ad) (Id (aq (cK 25) (Id (Ix wl ac))))))) aH) (aM 0 (Ix be dL))))))))))
def fG:FS:=(ak (aM 4 (d0 (Ix (aq gM (ae (N5 (Ix be ad) f8) (ae bn (Id Db)))) ad))) (fIf (au (IO (Ix gl ac) ii)) (ak (cz 1 f8 (Ix (aq iw (Id (Ix gl ad))) ac)) (aM 2 lf)) aH))
def mQ:FS:=(ak (aM 2 cr) (cA 3 (aW (bb (aW (Ix be ad)) (au (af gr be db)) be)) fG))
def mZ:FS:=(gX 6 (ae (aq gc (ae (KK (aq fB (ae be (Id (KK zn im)))) (af b9 (fC (.int 73)) im)) (Id (fC (.int 30))))) (Id ac)) (ak (aM 7 (bb (dE (aq bw (ae wl (Id wE)))) bx (Ix (KK im (LT (ae (fC (.str "zzzzzzzz")) (Id (fC (.str "A")))))) (aq bw (ae wT (Id (KK (LE (Id im)) dL))))))) (fIf (a8 (a6 (aK (aq dW (ae bn (ae f8 (Id wT)))))) (a6 (aK (aq dW (ae bn (ae f8 (Id wT))))))) (ay cr) aH)))
theorem CM:oy=aP 8 (ak (aM 1 (aq kr (ae be (ae ad (Id cr))))) (ak (aM 2 (IN (ae (j6 (Ix bn ac)) (Id (j6 (Ix bn ad)))))) (ak (aM 3 (aq kq (Id bn))) (ak (aM 4 (fCB lE (Id (KK (fCB i3 (Id (Ix bn ac))) (fCB i3 (Id (Ix bn ad))))))) (ak (fIf (a8 (a6 (aK (aq dW (ae bn (ae f8 (Id gl)))))) (a6 (aK (aq dW (ae bn (ae f8 (Id (LT ah)))))))) (ay cr) aH) (ak (cA 5 (dE pi) mZ) (ay (aq (dv 25) (ae bn (Id db)))))))))):=rfl
end G
namespace K1
open PySem
structure Sh(d:N9)(k n:Nat):Prop where
 sh:d.showable=true
 lv:d.leavesShort 200=true
 dp:d.depth<=k
 wt:d.weight<=n
theorem Sh.mono(h:Sh d k n)(hk:k<=k')(hn:n<=n'):Sh d k' n':=⟨h.sh,h.lv,OX h.dp hk,OX h.wt hn⟩
theorem Sh.int(h:i.natAbs<10^40):Sh (.int i) 0 200:=by
 have l:i.natAbs.log2<150:=by
  by_cases h0:i.natAbs=0
  .rw[h0];decide
  .exact(Ug h0).mpr (Tq h (by decide))
 refine⟨?_,?_,Ol _,?_⟩
 .show decide (i.natAbs.log2<1920)=true
  exact decide_eq_true (by omega)
 .show decide ((Qv (.int i)).length<=200)=true
  refine decide_eq_true ?_;have e:=int_text_length_le10 (k:=40) (by decide) h;show (Oe (toString i)).length<=200;rw[PySem.ofString_length];omega
 .show (if i == 0 then 0 else i.natAbs.log2+1)<=200
  split <;> omega
theorem Sh.str(h:∀c∈x.cps.toList,c<128)(hn:x.length<=n):Sh (.str x) 0 n:=by
 refine⟨rfl,?_,Ol _,hn⟩;show (x.cps.toList.all fun c=>decide (c<16^8))=true;exact Oz.mpr fun c hc=>decide_eq_true (Tq (h c hc) (by decide))
structure Shs(ds:List N9)(k n:Nat):Prop where
 sh:UR ds=true
 lv:TU 200 ds=true
 dp:Rh ds<=k
 wt:QJ ds<=n
theorem Shs.nil(k n:Nat):Shs [] k n:=⟨rfl,rfl,PH _,PH _⟩
theorem Shs.cons(h:Sh d k n)(t:Shs ds k m):Shs (d::ds) k (n+1+m):=by
 refine⟨?_,?_,?_,?_⟩
 .show (d.showable&&UR ds)=true
  rw[h.sh,t.sh];rfl
 .show (d.leavesShort 200&&TU 200 ds)=true
  rw[h.lv,t.lv];rfl
 .show max d.depth (Rh ds)<=k
  exact Nat.max_le.mpr ⟨h.dp,t.dp⟩
 .show d.weight+1+QJ ds<=n+1+m
  have:=h.wt;have:=t.wt;omega
theorem Shs.of:∀{ds:List N9}{k:Nat}{f:N9->Nat},(∀d∈ds,Sh d k (f d))->Shs ds k ((ds.map fun d=>f d+1).sum)
 |[],k,f,_=>Shs.nil _ _
 |d::r,k,f,h=>by
  have q:=Shs.of (ds:=r) (f:=f) fun x hx=>h x (Ob _ hx);have z:=Shs.cons (h d Oc) q;simpa using z
theorem Sh.tuple(h:Shs ds k n):Sh (.tuple ds) (k+1) n:=⟨h.sh,h.lv,Nat.succ_le_succ h.dp,h.wt⟩
theorem iR(hs:∀c∈s.cps.toList,c<128)(h:has s x=true):∀c∈x.cps.toList,c<128:=fun c hc=>
 hs c (of_decide_eq_true (Oz.mp h c hc))
theorem jU:∀c∈TXT.cps.toList,c<128:=by decide +kernel
theorem Ih:∀c∈LET.cps.toList,c<128:=by decide +kernel
theorem rj:∀(n:Nat) (d:N9),aF n d=true->Sh d n (201*(aG n d).toNat)/\1<=aG n d
 |0,d,h=>by
  cases d with
  |int i=>
   have h':=of_decide_eq_true (p:=(if i<0 then -i else i)<=10^18) h;refine⟨(Sh.int ?_).mono (Ol _) (by show 200<=201*(1:Int).toNat;decide),Qw 1⟩
   have:i.natAbs<=10^18:=by split at h' <;> omega
   exact Qp this (by decide)
  |str x=>
   have h':(decide (x.length<=20)&&has TXT x)=true:=h;rw[Oj] at h';have:=of_decide_eq_true h'.1;exact⟨(Sh.str (n:=20) (iR jU h'.2) this).mono (Ol _) (by show 20<=201*(1:Int).toNat;decide),Qw 1⟩
  |_=>cases h
 |n+1,d,h=>by
  cases d with
  |int i=>
   have h':=of_decide_eq_true (p:=(if i<0 then -i else i)<=10^18) h;refine⟨(Sh.int ?_).mono (PH _) (by show 200<=201*(1:Int).toNat;decide),Qw 1⟩
   have:i.natAbs<=10^18:=by split at h' <;> omega
   exact Qp this (by decide)
  |str x=>
   have h':(decide (x.length<=20)&&has TXT x)=true:=h;rw[Oj] at h';have:=of_decide_eq_true h'.1;exact⟨(Sh.str (n:=20) (iR jU h'.2) this).mono (PH _) (by show 20<=201*(1:Int).toNat;decide),Qw 1⟩
  |tuple ds=>
   have h':(decide (ds.length<=8)&&ds.all (aF n))=true:=h;rw[Oj] at h';have ha:=Oz.mp h'.2;have q:=Shs.of (ds:=ds) (k:=n) (f:=fun x=>201*(aG n x).toNat) fun x hx=>(rj n x (ha x hx)).1
   have key:∀l:List N9,(∀x∈l,1<=aG n x)->0<=(l.map (aG n)).sum/\(l.map fun x=>201*(aG n x).toNat+1).sum<=201*((l.map (aG n)).sum).toNat+l.length:=by
    intro l
    induction l with
    |nil=>intro _;exact⟨by simp,by simp⟩
    |cons x r ih=>
     intro hx;have h1:=hx x Oc;have h2:=ih fun y hy=>hx y (Ob _ hy);simp only[OJ,Qj,OH];omega
   have kk:=key ds fun x hx=>(rj n x (ha x hx)).2;have hl:=of_decide_eq_true h'.1;have e:aG (n+1) (.tuple ds)=1+(ds.map (aG n)).sum:=rfl;refine⟨(Sh.tuple q).mono (Ol _) ?_,?_⟩
   .rw[e];omega
   .rw[e];omega
  |_=>cases h
end K1
namespace K1
open PySem
def Good(d:N9):Prop:=Sh d 60 60000
end K1
namespace G
open L2 D
open K1 (has LET TXT single aF aG lsz isName aE tdp bq ldp)
mutual
def smB:N9->Bool
 |.str x=>decide (x.length<=60000)&&x.cps.toList.all fun c=>decide (c<128)
 |.tuple ds=>ig ds
 |_=>true
def ig:List N9->Bool
 |[]=>true
 |d::r=>smB d&&ig r
end
def Sm(d:N9):Prop:=smB d=true
theorem Sm.both(h:Sm (.str x)):x.length<=60000/\∀c∈x.cps.toList,c<128:=by
 have h':(decide (x.length<=60000)&&x.cps.toList.all fun c=>decide (c<128))=true:=by
  have:smB (.str x)=true:=h;rw[smB] at this;exact this
 rw[Oj,Oz] at h';exact⟨of_decide_eq_true h'.1,fun c hc=>of_decide_eq_true (h'.2 c hc)⟩
theorem Sm.str(h:Sm (.str x)):x.cps.size<=60000:=h.both.1
theorem Sm.mkS(h:x.length<=60000)(h2:∀c∈x.cps.toList,c<128):Sm (.str x):=by
 show smB (.str x)=true;rw[smB,Oj,Oz];exact⟨decide_eq_true h,fun c hc=>decide_eq_true (h2 c hc)⟩
theorem uR:∀{ds:List N9}{d:N9},ig ds=true->d∈ds->smB d=true
 |e::r,d,h,hd=>by
  have h':(smB e&&ig r)=true:=by simpa[ig] using h
  rw[Oj] at h'
  rcases Oy.mp hd with z|z
  .rw[z];exact h'.1
  .exact uR h'.2 z
theorem Sm.part(h:Sm (.tuple ds))(hd:d∈ds):Sm d:=uR (by simpa[Sm,smB] using h) hd
theorem vQ:∀{ds:List N9},(∀d∈ds,Sm d)->ig ds=true
 |[],_=>by simp[ig]
 |d::r,h=>by
  have h1:smB d=true:=h d Oc;simp[ig,h1,vQ (ds:=r) fun x hx=>h x (Ob _ hx)]
theorem Sm.tup(h:∀d∈ds,Sm d):Sm (.tuple ds):=by simp[Sm,smB,vQ h]
def whole:N9->Bool
 |.int _=>true
 |_=>false
theorem jD(x:N9)(T:Tp):eS [.d x] T=some (.bool (whole x),T):=by cases x <;> rfl
theorem uf(y x:Str):(D.signs x).all (rf y)=has y x:=by
 unfold D.signs has;rw[WU]
 congr 1
 funext c;exact Dd y c
theorem y8(T:Tp)(h:x.length<=Om):iD [.d (.str x),.d (.str y)] T=some (.bool (has y x),T):=by
 have hc:bT bx (af inD (aa 0) (aa 2)) [some (.d (.str x)),some (.d (.str y))] (D.signs x) T=some ((D.signs x).map fun d=>.bool (rf y d),T):=dz fun d hd=>by
  obtain⟨c,_,rfl⟩:=Br hd;rfl
 simp[iD,h,hc,uf]
theorem D8(T:Tp)(h:Sm d):ki [.d d] T=some (.bool (single d),T):=by
 cases d with
 |str x=>
  have hz:x.length<=sizeLine:=OX h.str (by decide);have hh:∀T,iD [.d (.str x),.d (.str "abcdefghijklmnopqrstuvwxyz0123456789-")] T=some (.bool (has TXT x),T):=fun T=>y8 T hz;have e:single (.str x)=(decide (x.length<=20)&&has TXT x):=rfl;have hi:bi .str .str=true:=rfl
  by_cases hk:x.length<=20
  .have hk':(x.length:Int)<=20:=by omega
   simp[ki,jD,whole,hh,hz,hi,e,hk,hk']
  .have hk':¬(x.length:Int)<=20:=by omega
   simp[ki,jD,whole,hh,hz,hi,e,hk,hk']
 |_=>rfl
theorem jM(h:kd d=.tup):∃ds,d=.tuple ds:=by cases d <;> first|exact⟨_,rfl⟩|cases h
theorem qG(h:kd d≠.tup):bi (kd d) .tup=false:=by
 revert h
 cases kd d <;> simp[bi]
theorem tH(h:kd d≠.tup):aF n d=single d:=by cases d <;> first|(cases n <;> rfl)|exact absurd rfl h
theorem pF(h:kd d≠.tup):aG n d=1:=by cases d <;> first|(cases n <;> rfl)|exact absurd rfl h
theorem zf(h:tdp 0 d=true):kd d≠.tup:=by
 intro z
 cases d <;> first|cases h;done|cases z
theorem eX:bi .tup .tup=true:=rfl
theorem wQ:∀(n k:Nat) (d:N9) (T:Tp),Sm d->n<k->fE k [.d d,.d (.int n)] T=some (.bool (aF n d),T)
 |n,0,d,T,_,hk=>absurd hk (Qg _)
 |n,k+1,d,T,hg,hk=>by
  by_cases ht:kd d=.tup
  .obtain⟨ds,rfl⟩:=jM ht
   cases n with
   |zero=>simp[fE,eX,aF]
   |succ n=>
    have e:aF (n+1) (.tuple ds)=(decide (ds.length<=8)&&ds.all (aF n)):=rfl
    have h0:¬((n+1:Nat):Int)=0:=by omega
    have h0':¬(n:Int)+1=0:=by omega
    by_cases h8:ds.length<=8
    .have h8':¬(8:Int)<(ds.length:Int):=by omega
     have hs:((n+1:Nat):Int)-1=(n:Int):=by omega
     have hc:bT bx (aq (fE k) (ae (aa 0) (ae (af fh (aa 2) (fC (.int 1))) ah))) [some (.d (.tuple ds)),some (.d (.int ((n+1:Nat):Int)))] ds T=some (ds.map fun x=>.bool (aF n x),T):=dz fun x hx=>by
      have:=wQ n k x T (hg.part hx) (by omega);simp[hs,this]
     simp[fE,eX,e,h0,h0',h8,h8'] at hc ⊢;simp[hc]
    .have h8':(8:Int)<(ds.length:Int):=by omega
     simp[fE,eX,e,h0,h0',h8,h8']
  .simp[fE,qG ht,tH ht,D8 T hg]
theorem yk:∀(n k:Nat) (d:N9) (T:Tp),tdp n d=true->n<k->iF k [.d d] T=some (.int (aG n d),T)
 |n,0,d,T,_,hk=>absurd hk (Qg _)
 |n,k+1,d,T,hg,hk=>by
  by_cases ht:kd d=.tup
  .cases n with
   |zero=>exact absurd ht (zf hg)
   |succ n=>
    obtain⟨ds,rfl⟩:=jM ht;have hg':ds.all (tdp n)=true:=hg;have e:aG (n+1) (.tuple ds)=1+(ds.map (aG n)).sum:=rfl
    have hc:bT bx (aq (iF k) (ae (aa 0) ah)) [some (.d (.tuple ds))] ds T=some (ds.map fun x=>.int (aG n x),T):=dz fun x hx=>by
     have:=yk n k x T (Oz.mp hg' x hx) (by omega);simp[this]
    simp[iF,eX,e,hc]
  .simp[iF,qG ht,pF ht]
theorem F4(T:Tp)(h:Sm d):kz [.d d] T=some (.bool (aE d),T):=by
 have h1:=wQ 4 25 d T h (by decide);have h1':fE 25 [.d d,.d (.int 4)] T=some (.bool (aF 4 d),T):=h1;have e:aE d=(aF 4 d&&decide (aG 4 d<=40)):=rfl
 cases hb:aF 4 d with
 |false=>simp[kz,h1',e,hb]
 |true=>
  have h2:=yk 4 25 d T (K1.qa 4 d hb) (by decide);simp[kz,h1',h2,e,hb]
end G
namespace D
open L2
def cd(x:Str):List Nat:=x.cps.toList
theorem gx(h:cd x=cd y):x=y:=by
 obtain⟨x⟩:=x;obtain⟨y⟩:=y;have h':x.toList=y.toList:=h;exact congrArg Str.mk (Array.toList_inj.mp h')
theorem gY(x:Str):(cd x).length=x.length:=Pp
theorem iT(x y:Str):cd (x++y)=cd x++cd y:=cps_toList_append x y
theorem ul{α:Type}(xs:List α)(a:Nat):∀k:Nat,(Py k).filterMap (fun m=>xs[a+m]?)=(xs.drop a).take k
 |0=>by simp
 |k+1=>by
  rw[List.range_succ,List.filterMap_append,ul xs a k,U1]
  congr 1
  simp only[Q7,List.filterMap_nil,List.getElem?_drop]
  cases xs[a+k]? <;> rfl
theorem Cr(h0:0<=i)(h1:0<=j):cd (P6 x (some i) (some j))=((cd x).drop i.toNat).take (j.toNat-i.toNat):=by
 obtain⟨a,rfl⟩:=Ta h0;obtain⟨b,rfl⟩:=Ta h1;rw[RB,RB];have hl:x.cps.toList.length=x.length:=Pp;obtain⟨p,hp⟩:∃p,min a x.length=p:=⟨_,rfl⟩;obtain⟨q,hq⟩:∃q,min b x.length=q:=⟨_,rfl⟩
 have e:Pn (some (a:Int)) (some (b:Int)) 1 x.length=(Py (q-p)).map fun k=>p+k:=by
  have m:∀c:Nat,max 0 (min (c:Int) x.length)=((min c x.length:Nat):Int):=fun c=>by
   rcases U6 c x.length with h|h
   .rw[QU h,Int.min_eq_left (U7.mpr h),Vr (Rl c)]
   .rw[Q5 h,Int.min_eq_right (U7.mpr h),Vr (Rl _)]
  unfold Pn sliceRange;simp only[show (1:Int)>0 by decide,if_true,V5.mpr (Rl a),V5.mpr (Rl b),if_false];rw[m,m,hp,hq]
  have ec:(if (p:Int)<q then ((q:Int)-p+1-1) / 1 else 0).toNat=q-p:=by
   split
   .rw[WP,Int.add_sub_cancel];exact Int.toNat_sub q p
   .rename_i z;exact(Nat.sub_eq_zero_of_le (U7.mp (V5.mp z))).symm
  rw[ec];refine O4 fun k _=>?_;rw[Int.one_mul];rfl
 have fin:(x.cps.toList.drop p).take (q-p)=((cd x).drop a).take (b-a):=by
  unfold cd
  rcases U6 a x.length with hi|hi
  .rw[QU hi] at hp
   subst hp
   rcases U6 b x.length with hj|hj
   .rw[←hq,QU hj]
   .rw[←hq,Q5 hj,Pr (by rw[Ql,hl];exact Ol _),Pr (by rw[Ql,hl];exact Nat.sub_le_sub_right hj _)]
  .rw[←hp,Q5 hi,Pt (WS hl),Pt (hl ▸ hi)]
   rw[WA,WA]
 unfold P6;split
 .rename_i h
  have h':(Pn (some (a:Int)) (some (b:Int)) 1 x.length).length=x.length:=by simpa using h
  rw[e,OS,List.length_range] at h';rw[←fin];show x.cps.toList=_;rw[h',Pr (by rw[Ql,hl];exact Nat.sub_le _ _)];have q1:q<=x.length:=hq ▸ Vk _ _
  by_cases hz:x.length=0
  .rw[List.length_eq_zero_iff.mp (hl.trans hz),List.drop_nil]
  .rw[show p=0 by omega];rfl
 .rw[←fin,←ul]
  show List.filterMap _ (Pn _ _ 1 x.length)=_;rw[e,UM]
  congr 1
  funext m;simp
theorem mv(h0:0<=i)(h1:i<=(x.length:Int)):cd (P6 x (some i) none)=(cd x).drop i.toNat:=by
 rw[slice_from_eq h0 h1 rfl];show (List.take _ _)=_;refine Pr ?_;rw[Ql];have:x.cps.toList.length=x.length:=Pp;omega
def bg(c:List Nat):List (List Nat)->List Nat
 |[]=>[]
 |[x]=>x
 |x::y::r=>x++c++bg c (y::r)
theorem kY(z:Str):∀ys:List Str,cd (Ra z ys)=bg (cd z) (ys.map cd)
 |[]=>rfl
 |[x]=>by
  show cd (Ra z [x])=cd x;simp[Ra]
 |x::y::r=>by
  have ih:=kY z (y::r);show cd ((x++z)++Ra z (y::r))=_;rw[iT,iT,ih];rfl
theorem gL(c x:List Nat)(r:List (List Nat)):bg c (x::r)=x++(r.map (c++·)).flatten:=by
 induction r generalizing x with
 |nil=>simp[bg]
 |cons y r ih=>
  show x++c++bg c (y::r)=_;rw[ih y];simp
end D
namespace G
open L2 D
open K1 (has LET TXT single aF aG lsz isName aE tdp bq ldp)
def mk(l:List Nat):Str:=⟨l.toArray⟩
theorem bJ(l:List Nat):cd (mk l)=l:=by simp[cd,mk]
theorem rY(x:Str):mk (cd x)=x:=gx (bJ _)
theorem bU(l:List Nat):(mk l).length=l.length:=by simp[mk,UO]
def dg(m:Nat):List Nat:=(Nat.toDigits 10 m).map W4
theorem gC(m:Nat):U8 (dg m):=fun c hc=>by
 obtain⟨ch,hch,e⟩:=Ot.mp hc;rw[←e];exact digit_range (Nat.isDigit_of_mem_toDigits (by decide) (by decide) hch)
theorem jT(m:Nat):SH (dg m)=m:=W.KIN.val_back m
theorem oH(m:Nat):dg m≠[]:=fun e=>by
 have h:=toDigits_len_ge 10 m;rw[List.map_eq_nil_iff.mp e] at h;exact absurd h (by decide)
theorem og(h:m<=10^18):(dg m).length<=19:=by
 unfold dg;rw[OS];exact toDigits_len_pow (by decide) (by decide) (Qp h (by decide))
def nc:Int->List Nat
 |.ofNat m=>dg m
 |.negSucc m=>45::dg (m+1)
theorem yC(i:Int):cd (Oe (toString i))=nc i:=by
 cases i with
 |ofNat m=>exact W.KIN.signs_num m
 |negSucc m=>
  have e:toString (Int.negSucc m)="-"++toString (m+1):=rfl;unfold cd;rw[e,Ui];show ("-"++Nat.repr (m+1)).toList.map W4=_;rw[String.toList_append,Pk,Nat.toList_repr];rfl
theorem kU(i:Int):∀c∈nc i,c=45\/(48<=c/\c<=57):=by
 cases i with
 |ofNat m=>exact fun c hc=>.inr (gC m c hc)
 |negSucc m=>
  intro c hc
  rcases Oy.mp hc with h|h
  .exact .inl h
  .exact .inr (gC _ c h)
theorem IZ(i:Int):nc i≠[]:=by
 cases i with
 |ofNat m=>exact oH m
 |negSucc m=>exact fun h=>nomatch h
theorem mw(h:single (.int i)=true):i.natAbs<=10^18:=by
 have h':(if i<0 then -i else i)<=10^18:=of_decide_eq_true h
 have e:((10:Int)^18)=1000000000000000000:=by decide
 have e2:((10:Nat)^18)=1000000000000000000:=by decide
 rw[e] at h';rw[e2]
 split at h' <;> omega
theorem xq(h:single (.int i)=true):(nc i).length<=20:=by
 have h:=mw h
 cases i with
 |ofNat m=>
  have:=og (m:=m) h;show (dg m).length<=20;omega
 |negSucc m=>
  have:=og (m:=m+1) h;show (dg (m+1)).length+1<=20;omega
theorem cy(h:single d=true):(∃i,d=.int i)\/∃x,d=.str x:=by cases d <;> first|exact .inl ⟨_,rfl⟩|exact .inr ⟨_,rfl⟩|cases h
theorem b5(h:aF n d=true):single d=true\/∃m ds,n=m+1/\d=.tuple ds/\ds.length<=8/\∀x∈ds,aF m x=true:=by
 by_cases k:kd d=.tup
 .obtain⟨ds,rfl⟩:=jM k
  cases n with
  |zero=>cases h
  |succ m=>
   right;have h':(decide (ds.length<=8)&&ds.all (aF m))=true:=h;rw[Oj] at h';exact⟨m,ds,rfl,rfl,of_decide_eq_true h'.1,Oz.mp h'.2⟩
 .left
  rw[tH k] at h;exact h
theorem jr(h:a≠[]):(a++b).head? = a.head?:=by
 cases a with
 |nil=>exact absurd rfl h
 |cons=>rfl
theorem G8(h:nc i=nc j):i=j:=by
 cases i with
 |ofNat m=>
  cases j with
  |ofNat k=>
   have h':dg m=dg k:=h;have:=congrArg SH h';rw[jT,jT] at this;rw[this]
  |negSucc k=>
   have h':dg m=45::dg (k+1):=h;have:=gC m 45 (by rw[h'];exact Oc);omega
 |negSucc m=>
  cases j with
  |ofNat k=>
   have h':45::dg (m+1)=dg k:=h;have:=gC k 45 (by rw[←h'];exact Oc);omega
  |negSucc k=>
   have h':45::dg (m+1)=45::dg (k+1):=h;have:=congrArg SH (UI h').2;rw[jT,jT] at this
   have:m=k:=by omega
   rw[this]
theorem x8{p:Nat->Bool}{a b r s:List Nat}(ha:∀c∈a,p c=false)(hb:∀c∈b,p c=false)(hr:∀c,r.head? = some c->p c=true)(hs:∀c,s.head? = some c->p c=true)(h:a++r=b++s):a=b/\r=s:=by
 have key:∀{a r:List Nat},(∀c∈a,p c=false)->(∀c,r.head? = some c->p c=true)->(a++r).takeWhile (fun c=>!p c)=a:=fun {a r} ha hr=>by
  rw[List.takeWhile_append_of_pos (fun c hc=>by rw[ha c hc];rfl)]
  cases r with
  |nil=>simp
  |cons x r=>
   have:=hr x rfl;rw[List.takeWhile_cons,this];simp
 have e:=congrArg (List.takeWhile fun c=>!p c) h;rw[key ha hr,key hb hs] at e;subst e;exact⟨rfl,List.append_cancel_left h⟩
theorem Ct(h:has TXT x=true):cd (reprText x)=39::(cd x++[39]):=by
 have hq:∀c∈cd x,c∈TXT.cps.toList:=fun c hc=>of_decide_eq_true (Oz.mp h c hc)
 have h39:(39:Nat)∉TXT.cps.toList:=by decide +kernel
 have q:reprQuote x=39:=by
  unfold reprQuote;have:(39:Nat)∉x.cps:=fun e=>h39 (hq 39 (by simpa[cd] using e));simp[this]
 have one:∀c∈TXT.cps.toList,RT 39 c=[c]:=by decide +kernel
 have fold:∀(l:List Nat) (acc:Array Nat),(∀c∈l,c∈TXT.cps.toList)->(l.foldl (fun out c=>out++(RT 39 c).toArray) acc).toList=acc.toList++l:=fun l=>by
  induction l with
  |nil=>intro acc _;simp
  |cons a l ih=>
   intro acc hl;rw[VF,ih _ (fun c hc=>hl c (Ob _ hc)),one a (hl a Oc)];simp
 unfold reprText cd;rw[q];show ((x.cps.foldl (fun out c=>out++(RT 39 c).toArray) #[39]).push 39).toList=_;rw[Array.toList_push,←Array.foldl_toList,fold x.cps.toList #[39] hq];rfl
def tl(f:N9->List Nat)(ds:List N9)(r:List Nat):List Nat:=(ds.map fun d=>44::32::f d).flatten++41::r
def csh:Nat->N9->List Nat
 |n+1,.tuple []=>[40,41]
 |n+1,.tuple [d]=>40::(csh n d++[44,41])
 |n+1,.tuple (d::e::r)=>40::(csh n d++tl (csh n) (e::r) [])
 |0,.tuple _=>[]
 |_,.int i=>nc i
 |_,.str x=>39::(cd x++[39])
 |_,_=>[]
theorem nI(n:Nat)(i:Int):csh n (.int i)=nc i:=by cases n <;> rfl
theorem nH(n:Nat)(x:Str):csh n (.str x)=39::(cd x++[39]):=by cases n <;> rfl
theorem sV:∀ds:List N9,TH ds=ds.map Qv
 |[]=>by simp[TH]
 |d::r=>by simp[TH,sV r]
theorem ku(h:single (.str x)=true):has TXT x=true:=by
 have h':(decide (x.length<=20)&&has TXT x)=true:=h;rw[Oj] at h';exact h'.2
theorem Bo(f:N9->List Nat)(d:N9)(ds:List N9):bg [44,32] ((d::ds).map f)++[41]=f d++tl f ds []:=by
 rw[OJ,gL,Pe,RD];rfl
theorem pR:∀(n:Nat) (d:N9),aF n d=true->cd d.shown=csh n d
 |n,d,h=>by
  rcases b5 h with h1|⟨m,ds,rfl,rfl,h8,hb⟩
  .rcases cy h1 with⟨i,rfl⟩|⟨x,rfl⟩
   .rw[nI,←yC]
    simp only[Qv]
   .rw[nH,←Ct (ku h1)]
    simp only[Qv]
  .have ih:ds.map (fun d=>cd d.shown)=ds.map (csh m):=O4 fun d hd=>pR m d (hb d hd)
   have q1:cd "("=[40]:=by decide +kernel
   have q2:cd ", "=[44,32]:=by decide +kernel
   have q3:cd ",)"=[44,41]:=by decide +kernel
   have q4:cd ")"=[41]:=by decide +kernel
   have e:(QR ds).shown=tupleText (ds.map Qv):=by
    simp only[Qv,sV]
   rw[e];unfold tupleText;show cd ((Oe "("++Ra ", " (ds.map Qv))++Oe (if (ds.map Qv).length == 1 then ",)" else ")"))=_;rw[iT,iT,kY,q1,q2,Pe,OS];have e2:ds.map (cd ∘ Qv)=ds.map (csh m):=ih;rw[e2]
   match ds with
   |[]=>rfl
   |[d]=>
    show [40]++csh m d++cd ",)"=_;rw[q3];simp[csh]
   |d::e::r=>
    show [40]++bg [44,32] ((d::e::r).map (csh m))++cd ")"=40::(csh m d++tl (csh m) (e::r) []);rw[q4,←Bo];simp
termination_by n=>n
def Beh(r:List Nat):Prop:=∀c,r.head? = some c->c=44\/c=41
def bnB(c:Nat):Bool:=decide (c=44)||decide (c=41)
theorem y3(h:Beh r):∀c,r.head? = some c->bnB c=true:=fun c hc=>by
 rcases h c hc with z|z <;> simp[bnB,z]
theorem jt(n:Nat)(h:aF n d=true):csh n d≠[]/\(csh n d).head?≠some 41/\(csh n d).head?≠some 32/\((csh n d).head? = some 40↔kd d=.tup)/\((csh n d).head? = some 39↔kd d=.str):=by
 rcases b5 h with h1|⟨m,ds,rfl,rfl,h8,hb⟩
 .rcases cy h1 with⟨i,rfl⟩|⟨x,rfl⟩
  .rw[nI]
   have hh:∀c,(nc i).head? = some c->c=45\/(48<=c/\c<=57):=fun c hc=>kU i c (List.mem_of_head? hc);refine⟨IZ i,fun z=>by have:=hh _ z;omega,fun z=>by have:=hh _ z;omega,⟨fun z=>by have:=hh _ z;omega,fun z=>by cases z⟩,⟨fun z=>by have:=hh _ z;omega,fun z=>by cases z⟩⟩
  .rw[nH]
   refine⟨by simp,by simp,by simp,?_,?_⟩ <;> simp
 .match ds with
  |[]=>simp[csh]
  |[d]=>simp[csh]
  |d::e::r=>simp[csh]
theorem wW{f:N9->List Nat}{P:N9->Prop}(hf:∀a b r s,P a->P b->Beh r->Beh s->f a++r=f b++s->a=b/\r=s):∀(ds es:List N9) (r s:List Nat),(∀d∈ds,P d)->(∀d∈es,P d)->tl f ds r=tl f es s->ds=es/\r=s
 |[],[],r,s,_,_,h=>⟨rfl,(UI h).2⟩
 |[],e::es,r,s,_,_,h=>by simp[tl] at h
 |d::ds,[],r,s,_,_,h=>by simp[tl] at h
 |d::ds,e::es,r,s,hd,he,h=>by
  have h':f d++tl f ds r=f e++tl f es s:=by simpa[tl] using h
  have beh:∀ds r,Beh (tl f ds r):=fun ds r c hc=>by
   cases ds with
   |nil=>cases hc;exact .inr rfl
   |cons=>cases hc;exact .inl rfl
  obtain⟨e1,e2⟩:=hf d e _ _ (hd d Oc) (he e Oc) (beh _ _) (beh _ _) h';obtain⟨e3,e4⟩:=wW hf ds es r s (fun x hx=>hd x (Ob _ hx)) (fun x hx=>he x (Ob _ hx)) e2;exact⟨by rw[e1,e3],e4⟩
theorem yf(f:N9->List Nat)(ds:List N9)(r:List Nat):Beh (tl f ds r):=fun c hc=>by
 cases ds with
 |nil=>cases hc;exact .inr rfl
 |cons=>cases hc;exact .inl rfl
theorem wH:∀(n:Nat) (a b:N9) (r s:List Nat),aF n a=true->aF n b=true->Beh r->Beh s->csh n a++r=csh n b++s->a=b/\r=s
 |n,a,b,r,s,ha,hb,hr,hs,h=>by
  have h1:=jt n ha;have h2:=jt n hb
  have hh:(csh n a).head? = (csh n b).head?:=by
   have:=congrArg Tx h;rw[jr h1.1,jr h2.1] at this;exact this
  have k40:kd a=.tup↔kd b=.tup:=by rw[←h1.2.2.2.1,←h2.2.2.2.1,hh]
  have k39:kd a=.str↔kd b=.str:=by rw[←h1.2.2.2.2,←h2.2.2.2.2,hh]
  rcases b5 ha with g1|⟨m,ds,rfl,rfl,h8,hd⟩
  .rcases cy g1 with⟨i,rfl⟩|⟨x,rfl⟩
   .rcases b5 hb with g2|⟨m,es,rfl,rfl,h8,he⟩
    .rcases cy g2 with⟨j,rfl⟩|⟨y,rfl⟩
     .rw[nI,nI] at h
      have nn:∀i,∀c∈nc i,bnB c=false:=fun i c hc=>by
       have:=kU i c hc;simp[bnB];omega
      obtain⟨e1,e2⟩:=x8 (nn i) (nn j) (y3 hr) (y3 hs) h;exact⟨by rw[G8 e1],e2⟩
     .cases k39.mpr rfl
    .cases k40.mpr rfl
   .rcases b5 hb with g2|⟨m,es,rfl,rfl,h8,he⟩
    .rcases cy g2 with⟨j,rfl⟩|⟨y,rfl⟩
     .cases k39.mp rfl
     .rw[nH,nH] at h
      have h':cd x++39::r=cd y++39::s:=by simpa using h
      have n39:∀{x:Str},single (.str x)=true->∀c∈cd x,decide (c=39)=false:=fun {x} hx c hc=>by
       have h39:(39:Nat)∉TXT.cps.toList:=by decide +kernel
       have:=of_decide_eq_true (Oz.mp (ku hx) c hc);exact decide_eq_false fun z=>h39 (z ▸ this)
      obtain⟨e1,e2⟩:=x8 (p:=fun c=>decide (c=39)) (n39 g1) (n39 g2) (fun c hc=>by cases hc;rfl) (fun c hc=>by cases hc;rfl) h';exact⟨by rw[gx e1],(UI e2).2⟩
    .cases k40.mpr rfl
  .obtain⟨es,rfl⟩:=jM (k40.mp rfl)
   have he:∀x∈es,aF m x=true:=by
    rcases b5 hb with g2|⟨m',es',e,e',_,he⟩
    .rcases cy g2 with⟨j,z⟩|⟨y,z⟩ <;> cases z
    .cases e;cases e';exact he
   have ih:∀a b r s,aF m a=true->aF m b=true->Beh r->Beh s->csh m a++r=csh m b++s->a=b/\r=s:=wH m
   have b1:∀r:List Nat,Beh (44::r):=fun r c hc=>by cases hc;exact .inl rfl
   match ds,es,hd,he,h with
   |[],[],_,_,h=>exact⟨rfl,by simpa[csh] using h⟩
   |[],[e],_,he,h=>
    have h':41::r=csh m e++44::41::s:=by simpa[csh] using h
    have hz:=jt m (he e (by simp));have:=congrArg Tx h';rw[jr hz.1] at this;exact absurd this.symm hz.2.1
   |[],e::e2::es,_,he,h=>
    have h':41::r=csh m e++(tl (csh m) (e2::es) []++s):=by simpa[csh] using h
    have hz:=jt m (he e (by simp));have:=congrArg Tx h';rw[jr hz.1] at this;exact absurd this.symm hz.2.1
   |[d],[],hd,_,h=>
    have h':csh m d++44::41::r=41::s:=by simpa[csh] using h
    have hz:=jt m (hd d (by simp));have:=congrArg Tx h';rw[jr hz.1] at this;exact absurd this hz.2.1
   |d::d2::ds,[],hd,_,h=>
    have h':csh m d++(tl (csh m) (d2::ds) []++r)=41::s:=by simpa[csh] using h
    have hz:=jt m (hd d (by simp));have:=congrArg Tx h';rw[jr hz.1] at this;exact absurd this hz.2.1
   |[d],[e],hd,he,h=>
    have h':csh m d++44::41::r=csh m e++44::41::s:=by simpa[csh] using h
    obtain⟨e1,e2⟩:=ih d e _ _ (hd d (by simp)) (he e (by simp)) (b1 _) (b1 _) h';simp at e2;exact⟨by rw[e1],e2⟩
   |[d],e::e2::es,hd,he,h=>
    have h':csh m d++44::41::r=csh m e++(44::32::(csh m e2++((es.map fun d=>44::32::csh m d).flatten++41::s))):=by simpa[csh,tl] using h
    obtain⟨_,e2⟩:=ih d e _ _ (hd d (by simp)) (he e (by simp)) (b1 _) (b1 _) h';simp at e2
   |d::d2::ds,[e],hd,he,h=>
    have h':csh m d++(44::32::(csh m d2++((ds.map fun d=>44::32::csh m d).flatten++41::r)))=csh m e++44::41::s:=by simpa[csh,tl] using h
    obtain⟨_,e2⟩:=ih d e _ _ (hd d (by simp)) (he e (by simp)) (b1 _) (b1 _) h';simp at e2
   |d::d2::ds,e::e2::es,hd,he,h=>
    have h':csh m d++tl (csh m) (d2::ds) r=csh m e++tl (csh m) (e2::es) s:=by simpa[csh,tl] using h
    obtain⟨e1,e3⟩:=ih d e _ _ (hd d (by simp)) (he e (by simp)) (yf _ _ _) (yf _ _ _) h';obtain⟨e4,e5⟩:=wW (P:=fun d=>aF m d=true) ih (d2::ds) (e2::es) r s (fun x hx=>hd x (Ob _ hx)) (fun x hx=>he x (Ob _ hx)) e3;exact⟨by rw[e1,e4],e5⟩
termination_by n=>n
theorem Bs(ha:aF 4 a=true)(hb:aF 4 b=true)(h:a.shown=b.shown):a=b:=by
 have h':=congrArg cd h;rw[pR 4 a ha,pR 4 b hb] at h';exact(wH 4 a b [] [] ha hb (fun c hc=>by cases hc) (fun c hc=>by cases hc) (by rw[h'])).1
open K1 (has LET TXT single aF aG lsz isName aE tdp bq ldp Sh Shs)
theorem jN:bi .str .str=true:=rfl
theorem Hi:bi .tup .str=false:=rfl
theorem Hj:bi .str .tup=false:=rfl
theorem Hk:bi .int .tup=false:=rfl
theorem Hl:bi .int .str=false:=rfl
def sam(a b:N9):Bool:=@decide (a=b) (Tb _)
theorem vS:sam a b=true↔a=b:=by
 unfold sam;exact @decide_eq_true_iff _ (Tb _)
def gt(ds:List N9)(i:Int):PyData:=(ds[i.toNat]?).getD .none
def both(ds es:List N9):N9->Bool
 |.int i=>sam (gt ds i) (gt es i)
 |_=>true
theorem qt:∀(n:Nat) (v:N9),aF n v=true->Sm v
 |n,v,h=>by
  rcases b5 h with h1|⟨m,ds,rfl,rfl,_,hd⟩
  .rcases cy h1 with⟨i,rfl⟩|⟨x,rfl⟩
   .show smB (.int i)=true
    rw[smB];intro _ z;cases z;intro _ z;cases z
   .have h2:(decide (x.length<=20)&&has TXT x)=true:=h1
    rw[Oj] at h2;exact Sm.mkS (OX (of_decide_eq_true h2.1) (by decide)) (K1.iR K1.jU h2.2)
  .exact Sm.tup fun d hx=>qt m d (hd d hx)
termination_by n=>n
theorem nL(h:aE v=true):Sm v:=by
 have h':(aF 4 v&&decide (aG 4 v<=40))=true:=h;rw[Oj] at h';exact qt 4 v h'.1
theorem b6(h:aE v=true):aF 4 v=true/\aG 4 v<=40:=by
 have h':(aF 4 v&&decide (aG 4 v<=40))=true:=h;rw[Oj] at h';exact⟨h'.1,of_decide_eq_true h'.2⟩
theorem mW(n:Nat):∀d,1<=aG n d:=by
 induction n with
 |zero=>intro d;cases d <;> exact Qw _
 |succ n ih=>
  intro d
  by_cases k:kd d=.tup
  .obtain⟨ds,rfl⟩:=jM k
   have:=K1.wZ (aG n) ih ds;show 1<=1+(ds.map (aG n)).sum;omega
  .rw[pF k]
   exact Qw _
theorem uN{f:N9->Int}(h:∀d,0<=f d):∀{ds:List N9}{d:N9},d∈ds->f d<=(ds.map f).sum
 |e::r,d,hd=>by
  have nn:∀l:List N9,0<=(l.map f).sum:=fun l=>by
   induction l with
   |nil=>exact Qw _
   |cons a l ih=>rw[OJ,Qj];have:=h a;omega
  rw[OJ,Qj]
  rcases Oy.mp hd with z|z
  .subst z
   have:=nn r;omega
  .have:=uN h (ds:=r) z
   have:=h e;omega
theorem pW{n:Nat}{ds:List N9}{d:N9}(h:d∈ds):aG n d<=aG (n+1) (.tuple ds):=by
 have:=uN (f:=aG n) (fun d=>by have:=mW n d;omega) h;show aG n d<=1+(ds.map (aG n)).sum;omega
theorem cY(h:n<=2000):n<=sizeLine:=OX h (by decide)
theorem mz{P:N9->Prop}(h:∀a b,P a->P b->(OP a b=true↔a=b)):∀(ds es:List N9),(∀d∈ds,P d)->(∀d∈es,P d)->(Qk ds es=true↔ds=es)
 |[],[],_,_=>by simp[Qk]
 |[],e::es,_,_=>by simp[Qk]
 |d::ds,[],_,_=>by simp[Qk]
 |d::ds,e::es,hd,he=>by
  have ih:=mz h ds es (fun x hx=>hd x (Ob _ hx)) (fun x hx=>he x (Ob _ hx));have i0:=h d e (hd d Oc) (he e Oc);simp only[Qk];rw[Oj,i0,ih];simp
theorem wu:∀(n:Nat) (a b:N9),aF n a=true->aF n b=true->(OP a b=true↔a=b)
 |n,a,b,ha,hb=>by
  rcases b5 ha with h1|⟨m,ds,rfl,rfl,h8,hd⟩
  .rcases cy h1 with⟨i,rfl⟩|⟨x,rfl⟩
   .rcases b5 hb with h2|⟨m,es,rfl,rfl,g8,he⟩
    .rcases cy h2 with⟨j,rfl⟩|⟨y,rfl⟩
     .simp[OP]
     .simp[OP]
    .simp[OP]
   .rcases b5 hb with h2|⟨m,es,rfl,rfl,g8,he⟩
    .rcases cy h2 with⟨j,rfl⟩|⟨y,rfl⟩
     .simp[OP]
     .simp[OP]
    .simp[OP]
  .rcases b5 hb with h2|⟨m',es,e,rfl,g8,he⟩
   .rcases cy h2 with⟨j,rfl⟩|⟨y,rfl⟩
    .simp[OP]
    .simp[OP]
   .cases e
    have:=mz (P:=fun d=>aF m d=true) (wu m) ds es hd he;simp only[OP];rw[this];simp
termination_by n=>n
theorem nB(ha:aE a=true)(hb:aE b=true):OP a b=sam a b:=by rw[PJ,wu 4 a b (b6 ha).1 (b6 hb).1,vS]
theorem mF(ha:aE a=true)(hb:aE b=true):decide (a.shown=b.shown)=sam a b:=by
 rw[PJ,decide_eq_true_iff,vS];exact⟨Bs (b6 ha).1 (b6 hb).1,fun e=>by rw[e]⟩
theorem k8(h:∀d∈ds,d.canLay0=true):SJ ds=true:=by
 induction ds with
 |nil=>simp[SJ]
 |cons d r ih=>
  simp only[SJ];rw[h d Oc,ih fun x hx=>h x (Ob _ hx)];rfl
theorem mC:∀(n:Nat) (d:N9),aF n d=true->d.canLay0=true
 |n,d,h=>by
  rcases b5 h with h1|⟨m,ds,rfl,rfl,h8,hd⟩
  .rcases cy h1 with⟨i,rfl⟩|⟨x,rfl⟩
   .simp[Qe]
   .have hx:=ku h1
    simp only[Qe];unfold Qd;rw[←Array.all_toList,Oz];intro c hc;have:=K1.iR K1.jU hx c hc;exact decide_eq_true (by omega)
  .simp only[Qe]
   exact k8 fun d hd'=>mC m d (hd d hd')
termination_by n=>n
theorem wU:∀{ds:List N9},(∀d∈ds,(d.weight:Int)+1<=61*f d)->(QJ ds:Int)<=61*(ds.map f).sum
 |[],_=>by simp[QJ]
 |d::r,h=>by
  have h1:=h d Oc;have h2:=wU (ds:=r) fun x hx=>h x (Ob _ hx);simp only[QJ,OJ,Qj];omega
theorem wR:∀(n:Nat) (d:N9),aF n d=true->(d.weight:Int)+1<=61*aG n d
 |n,d,h=>by
  have hp:=mW n d
  rcases b5 h with h1|⟨m,ds,rfl,rfl,h8,hd⟩
  .rcases cy h1 with⟨i,rfl⟩|⟨x,rfl⟩
   .have ha:=mw h1
    have:(P7 i).weight<=60:=by
     simp only[UJ];split
     .omega
     .rename_i hz
      have z:i.natAbs≠0:=by simp at hz;omega
      have:=(Ug (k:=60) z).mpr (Qp ha (by decide));omega
    omega
   .have h':(decide (x.length<=20)&&has TXT x)=true:=h1
    rw[Oj] at h';have hx:x.cps.size<=20:=of_decide_eq_true h'.1
    have:(OG x).weight=x.cps.size:=by simp only[UJ]
    omega
  .have:=wU (f:=aG m) (ds:=ds) fun d hd'=>wR m d (hd d hd')
   have e:(QR ds).weight=QJ ds:=by simp only[UJ]
   rw[e];show _<=61*(1+(ds.map (aG m)).sum);omega
termination_by n=>n
theorem uV(h:aF n d=true):Sh d n (61*aG n d).toNat:=by
 obtain⟨s,_⟩:=K1.rj n d h;have:=wR n d h;exact⟨s.sh,s.lv,s.dp,by omega⟩
theorem uU(h:aE v=true):Sh v 4 2440:=by
 obtain⟨hb,hm⟩:=b6 h;exact(uV hb).mono (Ol _) (by omega)
theorem jk(h:aE v=true):OL v=true:=by
 have:=(uU h).dp;unfold OL;rw[mC 4 v (b6 h).1,decide_eq_true (by omega)];rfl
theorem Ff(h:Sh d 60 60000)(hd:d.hasDict=false):i5 d=true:=by
 unfold i5;rw[h.sh,h.lv,decide_eq_true h.dp,decide_eq_true h.wt,hd];rfl
theorem AX(h:aF n v=true):v.hasDict=false:=PyData.hasDict_of_canLay v (mC n v h)
theorem pG(h:aE v=true):i5 v=true:=Ff ((uU h).mono (by decide) (by decide)) (AX (b6 h).1)
theorem fU{α:Type}{xs:List α}{i:Int}(h0:0<=i)(h1:i<(xs.length:Int)):∃a,atI xs i=some a/\a∈xs:=by
 have h:i.toNat<xs.length:=by omega
 refine⟨xs[i.toNat],?_,Vm h⟩;unfold atI ixN;rw[if_pos h0,if_pos h1];show xs[i.toNat]? = _;rw[Pw h]
theorem E5:(LET.cps.toList.length:Int)=26:=by decide +kernel
theorem vm(h:dm xs=some ys):lL (.str z) (.list xs)=if (ys.map (·.length)).sum+ys.length*z.length<=16777216 then some (.str (Ra z ys)) else none:=by
 show (match dm xs with|some (ys:List Str)=>if (ys.map fun x:Str=>x.length).sum+ys.length*z.length<=16777216 then some (OG (Ra z ys)) else none|none=>none)=_;rw[h]
theorem CO(n:Nat):(cv 0 n).length=n:=by simp[cv]
theorem iE(h0:0<=j)(h1:j<=1000):lF j=true:=decide_eq_true (by omega)
theorem qJ:LET.length<=sizeLine:=by decide +kernel
theorem tm(h:isName (.str x)=true):single (.str x)=true:=by
 have h':(decide (1<=x.length)&&decide (x.length<=8)&&has LET x)=true:=h;rw[Oj,Oj] at h';have h8:=of_decide_eq_true h'.1.2;show (decide (x.length<=20)&&has TXT x)=true;rw[decide_eq_true (by omega)]
 have sub:∀c∈LET.cps.toList,c∈TXT.cps.toList:=by decide +kernel
 exact Oz.mpr fun c hc=>decide_eq_true (sub c (of_decide_eq_true (Oz.mp h'.2 c hc)))
theorem iB(h : -1000000000000000000<=i)(h':i<=1000000000000000000):single (.int i)=true:=by
 show decide ((if i<0 then -i else i)<=10^18)=true;refine decide_eq_true ?_
 split <;> omega
theorem de(h:single d=true):aF n d=true/\aG n d=1:=by
 cases d with
 |int i=>exact⟨by cases n <;> exact h,by cases n <;> rfl⟩
 |str x=>exact⟨by cases n <;> exact h,by cases n <;> rfl⟩
 |_=>cases h
theorem wY{f:N9->Int}{q:Int}:∀{l:List N9},(∀d∈l,f d<=q)->(l.map f).sum<=l.length*q
 |[],_=>by simp
 |a::r,h=>by
  have h1:=h a Oc;have h2:=wY (l:=r) fun d hd=>h d (Ob _ hd);rw[OJ,Qj,OH]
  have:((r.length+1:Nat):Int)*q=r.length*q+q:=by rw[Int.natCast_add,Int.add_mul];simp
  omega
open K1 (has LET TXT single aF aG lsz isName aE tdp bq ldp Good Sh Shs)
@[simp] theorem Lc:Oe a=Oe b↔a=b:=by
 constructor
 .intro h
  have h2:(Oe a).cps.toList=(Oe b).cps.toList:=by rw[h]
  rw[Ui,Ui] at h2;have inj:Function.Injective Char.toNat:=fun x y e=>Char.ext (UInt32.toNat_inj.mp e);exact String.toList_inj.mp ((List.map_inj_right (fun x y e=>inj e)).mp h2)
 .rintro rfl;rfl
theorem iJ:∀(n:Nat) (d:N9),aF n d=true->aF (n+1) d=true/\aG (n+1) d=aG n d
 |n,d,h=>by
  rcases b5 h with h1|⟨m,ds,rfl,rfl,h8,hd⟩
  .exact⟨(de h1).1,by rw[(de (n:=n+1) h1).2,(de (n:=n) h1).2]⟩
  .have ih:=fun d hd'=>iJ m d (hd d hd')
   refine⟨?_,?_⟩
   .show (decide (ds.length<=8)&&ds.all (aF (m+1)))=true
    rw[decide_eq_true h8,Oz.mpr fun d hd'=>(ih d hd').1];rfl
   .show 1+(ds.map (aG (m+1))).sum=1+(ds.map (aG m)).sum
    rw[O4 fun d hd'=>(ih d hd').2]
termination_by n=>n
@[simp] theorem LJ:j4 f ρ T=bnd (f ρ T) fun w T1=>om T1 w:=rfl
def vl(v:N9):PyData:=.tuple [.str "value",v]
def fl(w:String):PyData:=.tuple [.str "fails",.str (Oe w)]
def FW:List String:=["kind","part","great"]
def dj(R:N9):Prop:=(∃v,R=vl v/\aE v=true)\/∃w∈FW,R=fl w
theorem cQ:dj (fl "kind"):=.inr ⟨_,by simp[FW],rfl⟩
theorem Ei:dj (fl "part"):=.inr ⟨_,by simp[FW],rfl⟩
theorem AS:dj (fl "great"):=.inr ⟨_,by simp[FW],rfl⟩
def bd(d:N9):PyData:=if aE d=true then vl d else fl "great"
theorem m7(d:N9):dj (bd d):=by
 unfold bd;split
 .rename_i h;exact .inl ⟨d,rfl,h⟩
 .exact AS
theorem mP(T:Tp)(h:Sm d):gO [.d d] T=some (bd d,T):=by
 have:=F4 T h;unfold bd
 cases hv:aE d with
 |true=>rw[hv] at this;simp[gO,this,vl]
 |false=>rw[hv] at this;simp[gO,this,fl]
theorem kF(h:aE (.tuple ds)=true)(hd:d∈ds):aE d=true:=by
 obtain⟨hb,hm⟩:=b6 h
 rcases b5 hb with h1|⟨m,ds',e,e',h8,hb'⟩
 .rcases cy h1 with⟨i,z⟩|⟨x,z⟩ <;> cases z
 .cases e;cases e'
  obtain⟨u1,u2⟩:=iJ 3 d (hb' d hd);have:aG 3 d<=aG 4 (.tuple ds):=pW (n:=3) hd;show (aF 4 d&&decide (aG 4 d<=40))=true;rw[u1,u2,decide_eq_true (by omega)];rfl
theorem et(h:aE v=true):(∃i,v=.int i/\single (.int i)=true)\/(∃x,v=.str x/\x.length<=20/\∀c∈x.cps.toList,c<128)\/∃ds,v=.tuple ds/\ds.length<=8:=by
 rcases b5 (b6 h).1 with h1|⟨m,ds,e,rfl,h8,hd⟩
 .rcases cy h1 with⟨i,rfl⟩|⟨x,rfl⟩
  .exact .inl ⟨i,rfl,h1⟩
  .have h':(decide (x.length<=20)&&has TXT x)=true:=h1
   rw[Oj] at h';exact .inr (.inl ⟨x,rfl,of_decide_eq_true h'.1,K1.iR K1.jU h'.2⟩)
 .exact .inr (.inr ⟨ds,rfl,h8⟩)
theorem m6(h : -1000000000000000000<=i)(h':i<=1000000000000000000):aE (.int i)=true:=by
 show (single (.int i)&&decide ((1:Int)<=40))=true;rw[iB h h'];rfl
theorem GB(i:Int):Sm (.int i):=by simp[Sm,smB]
theorem HE(h1:aE x=true)(h2:aE y=true):eqG x y=some (.bool (sam x y)):=by
 unfold eqG;rw[if_pos ⟨jk h1,jk h2⟩,nB h1 h2]
@[simp] theorem MI{α:Type}{a b:α}:atI [a,b] 0=some a:=rfl
@[simp] theorem MH{α:Type}{a b:α}:atI [a,b] 1=some b:=rfl
@[simp] theorem MJ{α:Type}{a:α}:atI [a] 0=some a:=rfl
@[simp] theorem MG{α:Type}{a b c:α}:atI [a,b,c] 0=some a:=rfl
@[simp] theorem MF{α:Type}{a b c:α}:atI [a,b,c] 1=some b:=rfl
@[simp] theorem ME{α:Type}{a b c:α}:atI [a,b,c] 2=some c:=rfl
@[simp] theorem N1:bi .int .int=true:=rfl
@[simp] theorem N0:bi .int .str=false:=rfl
@[simp] theorem NZ:bi .int .tup=false:=rfl
@[simp] theorem N2:bi .int .bl=false:=rfl
@[simp] theorem NX:bi .str .str=true:=rfl
@[simp] theorem NV:bi .str .tup=false:=rfl
@[simp] theorem NY:bi .str .int=false:=rfl
@[simp] theorem NS:bi .tup .tup=true:=rfl
@[simp] theorem NU:bi .tup .int=false:=rfl
@[simp] theorem NT:bi .tup .str=false:=rfl
@[simp] theorem Lb(x:N9)(T:Tp):eS [.d x] T=some (.bool (whole x),T):=jD x T
@[simp] theorem NR(i:Int):whole (.int i)=true:=rfl
@[simp] theorem NQ(x:Str):whole (.str x)=false:=rfl
@[simp] theorem NP(x:List N9):whole (.tuple x)=false:=rfl
def Pairs(w:String)(a b:N9):Prop:=∃R,dj R/\∀T,bA [.d (.str (Oe w)),.d (.list [a,b])] T=some (R,T)
theorem HV(h:aE (.tuple ds)=true)(h0:0<=i)(h1:i<(ds.length:Int)):∃d,atI ds i=some d/\aE d=true:=by
 obtain⟨d,e,hd⟩:=fU h0 h1;exact⟨d,e,kF h hd⟩
def PW:List String:=["part","sum","join","same","less"]
inductive Ex(m:Int):Nat->N9->Prop where
 |put {n:Nat}{v:N9}:aE v=true->Ex m n (.tuple [.str "put",v])
 |got {n:Nat}{i:Int}:0<=i->i<m->Ex m n (.tuple [.str "got",.int i])
 |row {n:Nat}{es:List N9}:es.length<=8->(∀e∈es,Ex m n e)->Ex m (n+1) (.tuple [.str "row",.tuple es])
 |many {n:Nat}{e:N9}:Ex m n e->Ex m (n+1) (.tuple [.str "many",e])
 |pair {n:Nat}{w:String}{a b:N9}:w∈PW->Ex m n a->Ex m n b->Ex m (n+1) (.tuple [.str (Oe w),a,b])
def isF:N9->Bool
 |.tuple (.str x::_)=>decide (x=Oe "fails")
 |_=>false
def vOf:N9->N9
 |.tuple [_,v]=>v
 |_=>.none
theorem Ho(v:N9):isF (vl v)=false:=by
 show decide (Oe "value"=Oe "fails")=false
 decide +kernel
theorem Hq(w:String):isF (fl w)=true:=by
 show decide (Oe "fails"=Oe "fails")=true;exact decide_eq_true rfl
theorem pN(h:dj R):(isF R=true/\∃w∈FW,R=fl w)\/(isF R=false/\R=vl (vOf R)/\aE (vOf R)=true):=by
 rcases h with⟨v,rfl,hv⟩|⟨w,hw,rfl⟩
 .exact .inr ⟨Ho v,rfl,hv⟩
 .exact .inl ⟨Hq w,w,hw,rfl⟩
def gZ(m:FnM)(ws:List D.W)(T1:Tp):Option (D.W×Tp):=if lX ws=true then (match m (ws.map kb) [] with
 |some (x,_)=>if bh x=true then some (.d x,T1) else none
 | none=>none) else none
@[simp] theorem K9:jR m a ρ T=bnd (a ρ T) (gZ m):=rfl
theorem mO(h1:lX ws=true)(h2:m (ws.map kb) []=some (x,T'))(h3:bh x=true):gZ m ws T=some (.d x,T):=by
 unfold gZ;rw[if_pos h1,h2];exact if_pos h3
theorem kG:∀{ds:List N9},(∀d∈ds,bh d=true)->bM ds=true
 |[],_=>by simp[bM]
 |d::r,h=>by simp[bM,h d Oc,kG (ds:=r) fun x hx=>h x (Ob _ hx)]
theorem ub:∀(n:Nat) (d:N9),aF n d=true->bh d=true
 |n,d,h=>by
  rcases b5 h with h1|⟨m,ds,rfl,rfl,_,hd⟩
  .rcases cy h1 with⟨i,rfl⟩|⟨x,rfl⟩ <;> simp[bh]
  .simp[bh,kG fun x hx=>ub m x (hd x hx)]
termination_by n=>n
theorem kQ(h:aE v=true):bh v=true:=ub 4 v (b6 h).1
theorem mS(h:dj R):bh R=true:=by
 rcases h with⟨v,rfl,hv⟩|⟨w,_,rfl⟩
 .simp[vl,bh,bM,kQ hv]
 .simp[fl,bh,bM]
def fW(k:Nat):FS:=(ak (aM 4 (aq (dX k) (ae (aa 3) (ae (aa 1) ah)))) (ak (fIf (au (af eqD (af ixD (aa 4) (fC (.int 0))) (fC (.str "fails")))) (ay (aa 4)) aH) (dQ 2 (af ixD (aa 4) (fC (.int 1))))))
def oU(k:FS)(p:Fl×Rho)(T:Tp):Option ((Fl×Rho)×Tp):=match p with
 |(.nx,ρ1)=>k ρ1 T
 |(.ct,ρ1)=>k ρ1 T
 |(.bk,ρ1)=>some ((.nx,ρ1),T)
 |(.rt x,ρ1)=>some ((.rt x,ρ1),T)
 |(.ro x,ρ1)=>some ((.ro x,ρ1),T)
theorem wm:oU k (.nx,ρ) T=k ρ T:=rfl
theorem B3:forL i b (d::r) ρ T=bnd (b (ρ.set i (some (.d d))) T) (oU (forL i b r)):=rfl
theorem pO{k:Nat}{T:Tp}{e0 G:N9}{f:N9->N9}:∀(es:List N9) (acc:List N9) (o3 o4:Option D.W),(∀e∈es,dj (f e)/\dX k [.d e,.d G] T=some (f e,T))->acc.length+es.length<=1000 ->
  match (es.map f).filter isF with
  |R::_=>∃ρ',forL 3 (fW k) es [some (.d e0),some (.d G),some (.loc (.list acc)),o3,o4] T=some ((.rt R,ρ'),T)
  |[]=>∃o3' o4',forL 3 (fW k) es [some (.d e0),some (.d G),some (.loc (.list acc)),o3,o4] T=some ((.nx,[some (.d e0),some (.d G),some (.loc (.list (acc++es.map fun e=>vOf (f e)))),(o3':Option D.W),o4']),T)
 |[],acc,o3,o4,_,_=>⟨o3,o4,by simp[forL]⟩
 |e::es,acc,o3,o4,h,hl=>by
  obtain⟨t,ht⟩:=h e Oc;have hl':acc.length<sizeLine:=OA (by simp at hl;omega:acc.length<1000) (by decide);have go:forL 3 (fW k) (e::es) [some (.d e0),some (.d G),some (.loc (.list acc)),o3,o4] T=bnd (fW k [some (.d e0),some (.d G),some (.loc (.list acc)),some (.d e),o4] T) (oU (forL 3 (fW k) es)):=rfl;rw[go]
  rcases pN t with⟨hf,w,_,hw⟩|⟨hf,hv,_⟩
  .rw[OJ,P5,if_pos hf]
   rw[hw] at ht
   have hb:fW k [some (.d e0),some (.d G),some (.loc (.list acc)),some (.d e),o4] T=some ((.rt (fl w),[some (.d e0),some (.d G),some (.loc (.list acc)),some (.d e),some (.d (fl w))]),T):=by
    simp[fW,ht,fl]
   rw[hb,hw];exact⟨_,rfl⟩
  .rw[OJ,P5,hf]
   have ih:=pO (e0:=e0) es (acc++[vOf (f e)]) (some (.d e)) (some (.d (f e))) (fun x hx=>h x (Ob _ hx)) (by simp at hl ⊢;omega)
   have hb:fW k [some (.d e0),some (.d G),some (.loc (.list acc)),some (.d e),o4] T=some ((.nx,[some (.d e0),some (.d G),some (.loc (.list (acc++[vOf (f e)]))),some (.d e),some (.d (f e))]),T):=by
    generalize hV:vOf (f e)=v at hv;rw[hv] at ht ⊢;simp[fW,ht,vl,hl']
   rw[hb,fS,wm];simp only[QO,if_false]
   cases hF:(es.map f).filter isF with
   |nil=>
    rw[hF] at ih;obtain⟨o3',o4',hi⟩:=ih;exact⟨o3',o4',by rw[hi];simp⟩
   |cons R r=>
    rw[hF] at ih;exact ih
structure Node(e0:N9)(w0:Str)(es:List N9):Prop where
 w1:∀T,fw [.d e0] T=some (.list es,T)
 ix:ixD e0 (.int 0)=some (.str w0)
 np:(w0=Oe "put")=False
 ng:(w0=Oe "got")=False
 ln:es.length<=8
def y9(G:N9)(gs:List N9):Prop:=∀i:Int,ixD G (.int i)=atI gs i
theorem pZ(gs:List N9):y9 (.tuple gs) gs:=fun _=>rfl
theorem uc(n:Nat):dX (n+1)=aP 5 (ak (fIf (au (af eqD (af ixD (aa 0) (fC (.int 0))) (fC (.str "put")))) (ay (aC .tuple (ae (fC (.str "value")) (ae (af ixD (aa 0) (fC (.int 1))) ah)))) aH) (ak (fIf (au (af eqD (af ixD (aa 0) (fC (.int 0))) (fC (.str "got")))) (ay (aC .tuple (ae (fC (.str "value")) (ae (af ixD (aa 1) (af ixD (aa 0) (fC (.int 1)))) ah)))) aH) (ak (dI 2 ah) (ak (cA 3 (aW (aq fw (ae (aa 0) ah))) (fW n)) (ay (jR bA (ae (af ixD (aa 0) (fC (.int 0))) (ae (aa 2) ah)))))))):=by rw[dX];rfl
theorem l9:dS (a::r) (some 1) none=r:=by
 have e:HT.sIx (a::r).length 0 (some 1)=1:=by
  have:=HT.Ep (a::r).length 0 1;rw[show ((1:Nat):Int)=1 from rfl] at this;rw[this];simp
 have e2:HT.sIx (a::r).length (a::r).length none=(a::r).length:=rfl;unfold dS;rw[e,e2];simp
inductive Rg(p:Bool):Nat->Nat->N9->Prop where
 |fail {g n:Nat}{x:Str}:isName (.str x)=true->Rg p g n (.tuple [.str "fail",.str x])
 |say {g n:Nat}{e:N9}:Ex (g:Int) n e->Rg p g (n+1) (.tuple [.str "say",e])
 |ask {g n:Nat}{w:String}{e r:N9}:(w="want"\/(w="peek"/\p=true))->g<12->Ex (g:Int) n e->Rg p (g+1) n r->Rg p g (n+1) (.tuple [.str (Oe w),e,r])
 |whn {g n:Nat}{e r s:N9}:Ex (g:Int) n e->Rg p g n r->Rg p g n s->Rg p g (n+1) (.tuple [.str "when",e,r,s])
def mdT(v:N9):PyData:=.tuple [.str "made",v]
def flT(x:Str):PyData:=.tuple [.str "fails",.str x]
def asT(b:Bool)(x:Str)(r:N9):PyData:=.tuple [.str (Oe (if b then "peek" else "want")),.str x,r]
inductive StepOk(p:Bool)(g n:Nat):N9->Prop where
 |md {v:N9}:aE v=true->StepOk p g n (mdT v)
 |fl {x:Str}:isName (.str x)=true->StepOk p g n (flT x)
 |ask {b:Bool}{x:Str}{r:N9}{n':Nat}:(b=true->p=true)->isName (.str x)=true->g<12->n'<=n->Rg p (g+1) n' r->StepOk p g n (asT b x r)
theorem StepOk.up(h:StepOk p g n S)(l:n<=m):StepOk p g m S:=by
 cases h with
 |md a=>exact .md a
 |fl a=>exact .fl a
 |ask a b c d e=>exact .ask a b c (OX d l) e
theorem qL:∀w∈FW,isName (.str (Oe w))=true:=by decide +kernel
theorem v6:isName (.str "name")=true:=by decide +kernel
theorem D9(T:Tp)(h:Sm d):jo [.d d] T=some (.bool (isName d),T):=by
 cases d with
 |str x=>
  have hz:x.length<=sizeLine:=OX h.str (by decide);have hh:∀T,iD [.d (.str x),.d (.str "abcdefghijklmnopqrstuvwxyz")] T=some (.bool (has LET x),T):=fun T=>y8 T hz;have e:isName (.str x)=(decide (1<=x.length)&&decide (x.length<=8)&&has LET x):=rfl
  by_cases h1:1<=x.length
  .have h1':(1:Int)<=(x.length:Int):=by omega
   by_cases h8:x.length<=8
   .have h8':(x.length:Int)<=8:=by omega
    simp[jo,hz,hh,e,h1,h1',h8,h8']
   .have h8':¬(x.length:Int)<=8:=by omega
    simp[jo,hz,hh,e,h1,h1',h8,h8']
  .have h1':¬(1:Int)<=(x.length:Int):=by omega
   simp[jo,hz,hh,e,h1,h1']
 |_=>rfl
theorem oO{α:Type}{a b c d:α}:atI [a,b,c,d] 0=some a:=rfl
theorem su{α:Type}{a b c d:α}:atI [a,b,c,d] 1=some b:=rfl
theorem zc{α:Type}{a b c d:α}:atI [a,b,c,d] 2=some c:=rfl
theorem zb{α:Type}{a b c d:α}:atI [a,b,c,d] 3=some d:=rfl
theorem mM(h:∀d∈ds,d.depth<=k):Rh ds<=k:=by
 induction ds with
 |nil=>simp[Rh]
 |cons d r ih=>
  simp only[Rh];have h1:=h d Oc;have h2:=ih fun x hx=>h x (Ob _ hx);omega
theorem jj(h:∀d∈l,aF 4 d=true):OL (.list l)=true:=by
 unfold OL
 have h1:(QK l).canLay0=true:=by
  simp only[Qe];exact k8 fun d hd=>mC 4 d (h d hd)
 have h2:(QK l).depth<=64:=by
  simp only[RI];have:=mM (k:=4) fun d hd=>(uV (h d hd)).dp;omega
 rw[h1,decide_eq_true h2];rfl
theorem eq_nil(h:∀d∈l,aF 4 d=true):eqG (.list l) (.list [])=some (.bool l.isEmpty):=by
 have h2:OL (.list [])=true:=jj (l:=[]) (by simp);unfold eqG;rw[if_pos ⟨jj h,h2⟩]
 cases l <;> simp[OP,Qk]
theorem sZ(h:∀c∈x.cps.toList,c<128)(hd:d∈D.signs x):∃c,c∈x.cps.toList/\d=.str ⟨#[c]⟩:=by
 unfold D.signs at hd;obtain⟨c,hc,rfl⟩:=Ot.mp hd;exact⟨c,hc,rfl⟩
theorem Ar(h:∀d∈l,∃c:Nat,c<128/\d=.str ⟨#[c]⟩):OL (.list l)=true:=by
 unfold OL
 have h1:(QK l).canLay0=true:=by
  simp only[Qe];refine k8 fun d hd=>?_;obtain⟨c,hc,rfl⟩:=h d hd;simp only[Qe];unfold Qd;simp;omega
 have h2:(QK l).depth<=64:=by
  simp only[RI]
  have:=mM (k:=0) (ds:=l) fun d hd=>by
   obtain⟨c,hc,rfl⟩:=h d hd;simp[RI]
  omega
 rw[h1,decide_eq_true h2];rfl
theorem Fv(h:∀d∈l,∃c:Nat,c<128/\d=.str ⟨#[c]⟩):eqG (.list l) (.list [])=some (.bool l.isEmpty):=by
 have h2:OL (.list [])=true:=jj (l:=[]) (by simp);unfold eqG;rw[if_pos ⟨Ar h,h2⟩]
 cases l <;> simp[OP,Qk]
theorem filter_none{α:Type}(p:α->Bool)(l:List α):(l.filter fun x=>!(p x)).isEmpty=l.all p:=by
 induction l with
 |nil=>rfl
 |cons a r ih=>
  rw[P5,Qb]
  cases p a with
  |true=>simpa using ih
  |false=>simp
theorem pQ(c:FT)(hx:∀c∈x.cps.toList,c<128)(hc:∀z:Str,c (some (.d (.str z))::ρ) T=some (!(jc y z),T)) :
  ∃l,bT c (aa 0) ρ (D.signs x) T=some (l,T)/\eqG (.list l) (.list [])=some (.bool (has y x)):=by
 refine⟨(D.signs x).filter (fun d=>!(rf y d)),gf fun d hd=>?_,?_⟩
 .obtain⟨c',hc',rfl⟩:=sZ hx hd
  rw[hc];rfl
 .rw[Fv,filter_none,uf]
  intro d hd;obtain⟨c',hc',rfl⟩:=sZ hx (Pg.mp hd).1;exact⟨c',hx c' hc',rfl⟩
theorem li(T:Tp)(h:aE v=true):fA [.d v] T=some (.bool (isName v),T):=by
 rcases et h with⟨i,rfl,_⟩|⟨x,rfl,hx,hx2⟩|⟨ds,rfl,_⟩
 .rfl
 .have hz:x.length<=sizeLine:=OX hx (by decide)
  have e:isName (.str x)=(decide (1<=x.length)&&decide (x.length<=8)&&has LET x):=rfl
  obtain⟨l,hc,hl⟩:=pQ (y:=LET) (x:=x) (T:=T) (ρ:=[some (.d (.str x))]) (au (af di (aa 0) (fC (.str "abcdefghijklmnopqrstuvwxyz")))) hx2 fun z=>by simp;rfl
  by_cases h1:1<=x.length
  .have h1':¬(x.length:Int)<1:=by omega
   by_cases h8:x.length<=8
   .have h8':¬(8:Int)<(x.length:Int):=by omega
    simp[fA,hz,h1',h8',hc,hl,e,h1,h8]
   .have h8':(8:Int)<(x.length:Int):=by omega
    simp[fA,hz,h1',h8',e,h1,h8]
  .have h1':(x.length:Int)<1:=by omega
   simp[fA,hz,h1',e,h1]
 .rfl
theorem wO:∀(n k:Nat) (d:N9) (T:Tp),tdp n d=true->n<k->iz k [.d d] T=some (.int (aG n d),T)
 |n,0,d,T,_,hk=>absurd hk (Qg _)
 |n,k+1,d,T,hg,hk=>by
  by_cases ht:kd d=.tup
  .cases n with
   |zero=>exact absurd ht (zf hg)
   |succ n=>
    obtain⟨ds,rfl⟩:=jM ht;have hg':ds.all (tdp n)=true:=hg;have e:aG (n+1) (.tuple ds)=1+(ds.map (aG n)).sum:=rfl
    have hc:bT bx (aq (iz k) (ae (aa 0) ah)) [some (.d (.tuple ds))] ds T=some (ds.map fun x=>.int (aG n x),T):=dz fun x hx=>by
     have:=wO n k x T (Oz.mp hg' x hx) (by omega);simp[this]
    simp[iz,eX,e,hc]
  .simp[iz,qG ht,pF ht]
def BP(d:N9):Prop:=(∃i,d=.int i)\/(∃x,d=.str x/\x.length<=60000/\∀c∈x.cps.toList,c<128)\/∃ds,d=.tuple ds/\∀x∈ds,aF 4 x=true
theorem BP.of(h:aF 4 d=true):BP d:=by
 rcases b5 h with h1|⟨m,ds,e,rfl,h8,hd⟩
 .rcases cy h1 with⟨i,rfl⟩|⟨x,rfl⟩
  .exact .inl ⟨i,rfl⟩
  .have hs:=qt 4 _ h
   exact .inr (.inl ⟨x,rfl,hs.both.1,hs.both.2⟩)
 .cases e
  exact .inr (.inr ⟨ds,rfl,fun x hx=>(iJ 3 x (hd x hx)).1⟩)
theorem wN:∀(n k:Nat) (d:N9) (T:Tp) (a:Int),BP d->n<k->a+n=4->d9 k [.d d,.d (.int a)] T=some (.bool (aF n d),T)
 |n,0,d,T,a,_,hk,_=>absurd hk (Qg _)
 |n,k+1,d,T,a,hb,hk,ha=>by
  rcases hb with⟨i,rfl⟩|⟨x,rfl,hx,hx2⟩|⟨ds,rfl,hd⟩
  .have e:aF n (.int i)=single (.int i):=by cases n <;> rfl
   have e2:single (.int i)=decide ((if i<0 then -i else i)<=10^18):=rfl;rw[e,e2]
   by_cases hi:(if i<0 then -i else i)<=(10:Int)^18
   .have hi':(if i<0 then -i else i)<=1000000000000000000:=hi
    rw[decide_eq_true hi];simp[d9,bi,hi']
   .have hi':¬(if i<0 then -i else i)<=1000000000000000000:=hi
    rw[decide_eq_false hi];simp[d9,bi,hi']
  .have e:aF n (.str x)=single (.str x):=by cases n <;> rfl
   have e2:single (.str x)=(decide (x.length<=20)&&has TXT x):=rfl;have hz:x.length<=sizeLine:=OX hx (by decide)
   obtain⟨l,hc,hl⟩:=pQ (y:=TXT) (x:=x) (T:=T) (ρ:=[some (.d (.str x)),some (.d (.int a)),some (.d (.str TXT))]) (au (af di (aa 0) (aa 3))) hx2 fun z=>by simp;rfl
   have tx:TXT=Oe "abcdefghijklmnopqrstuvwxyz0123456789-":=rfl;rw[tx] at hc;rw[e,e2]
   by_cases h20:x.length<=20
   .have h20':(x.length:Int)<=20:=by omega
    simp[d9,bi,hz,h20,h20',hc,hl]
   .have h20':¬(x.length:Int)<=20:=by omega
    simp[d9,bi,hz,h20,h20']
  .by_cases h8:ds.length<=8
   .have h8':¬(8:Int)<(ds.length:Int):=by omega
    cases n with
    |zero=>
     have h3:(3:Int)<a:=by omega
     simp[d9,bi,aF,h8',h3]
    |succ n=>
     have h3:¬(3:Int)<a:=by omega
     have e:aF (n+1) (.tuple ds)=(decide (ds.length<=8)&&ds.all (aF n)):=rfl
     have hc:bT (a6 (aK (aq (d9 k) (ae (aa 0) (ae (af aR (aa 2) (fC (.int 1))) ah))))) (aa 0) [some (.d (.tuple ds)),some (.d (.int a)),none] ds T=some (ds.filter (fun x=>!(aF n x)),T):=gf fun x hx=>by
      have:=wN n k x T (a+1) (.of (hd x hx)) (by omega) (by omega);simp[this]
     have hq:eqG (.list (ds.filter fun x=>!(aF n x))) (.list [])=some (.bool (ds.all (aF n))):=by
      rw[eq_nil fun d hd'=>hd d (Pg.mp hd').1,filter_none]
     simp[d9,bi,h8',h3,e,h8,hc,hq]
   .have h8':(8:Int)<(ds.length:Int):=by omega
    have e:aF n (.tuple ds)=false:=by
     cases n with
     |zero=>rfl
     |succ n=>show (decide (ds.length<=8)&&ds.all (aF n))=false;rw[decide_eq_false h8];rfl
    simp[d9,bi,h8',e]
theorem kO(T:Tp)(h:BP d):gb [.d d] T=some (.bool (aE d),T):=by
 have h1:=wN 4 25 d T 0 h (by decide) (by decide);have e:aE d=(aF 4 d&&decide (aG 4 d<=40)):=rfl
 cases hb:aF 4 d with
 |false=>rw[hb] at h1;simp[gb,h1,e,hb]
 |true=>
  have h2:=wO 4 25 d T (K1.qa 4 d hb) (by decide);rw[hb] at h1;simp[gb,h1,h2,e,hb]
theorem HU(i:Int):BP (.int i):=.inl ⟨i,rfl⟩
theorem kL(h:i5 x=true):om T (.d x)=some (.d (.str x.shown),T):=if_pos h
def jV(w:String)(a b:N9):Prop:=∃R,dj R/\(∀T,bA [.d (.str (Oe w)),.d (.list [a,b])] T=some (R,T))/\∀T,bP [.d (.str (Oe w)),.d a,.d b] T=some (R,T)
theorem HW(ha:aE a=true)(hb:aE b=true):jV "same" a b:=by
 have g1:=pG ha;have g2:=pG hb;have e1:=HE ha hb;have e2:=mF ha hb;refine⟨vl (.int (if sam a b=true then 1 else 0)),.inl ⟨_,rfl,by split <;> exact m6 (by decide) (by decide)⟩,fun T=>?_,fun T=>?_⟩
 .cases hs:sam a b with
  |true=>rw[hs] at e1;simp[bA,e1,vl]
  |false=>rw[hs] at e1;simp[bA,e1,vl]
 .rw[←e2]
  by_cases c:a.shown=b.shown
  .simp[bP,kL g1,kL g2,c,vl,D.intD]
  .simp[bP,kL g1,kL g2,c,vl,D.intD]
theorem HX(ha:aE a=true)(hb:aE b=true):jV "part" a b:=by
 rcases et ha with⟨i,rfl,hi⟩|⟨x,rfl,hx,hx2⟩|⟨ds,rfl,hd⟩
 .refine⟨_,cQ,fun T=>?_,fun T=>?_⟩ <;> simp[bA,gh,bP,fl]
 .refine⟨_,cQ,fun T=>?_,fun T=>?_⟩ <;> simp[bA,gh,bP,fl]
 .rcases et hb with⟨j,rfl,hj⟩|⟨y,rfl,hy,hy2⟩|⟨es,rfl,he⟩
  .by_cases c:0<=j/\j<(ds.length:Int)
   .obtain⟨d,e,hv⟩:=HV ha c.1 c.2
    refine⟨vl d,.inl ⟨d,rfl,hv⟩,fun T=>?_,fun T=>?_⟩ <;> simp[bA,gh,bP,vl,c.1,c.2,e]
   .refine⟨_,Ei,fun T=>?_,fun T=>?_⟩
    .by_cases c0:0<=j
     .have c1:¬j<(ds.length:Int):=fun z=>c ⟨c0,z⟩
      simp[bA,gh,fl,c0,c1]
     .simp[bA,gh,fl,c0]
    .by_cases c0:0<=j
     .have c1:¬j<(ds.length:Int):=fun z=>c ⟨c0,z⟩
      simp[bP,fl,c0,c1]
     .simp[bP,fl,c0]
  .refine⟨_,cQ,fun T=>?_,fun T=>?_⟩ <;> simp[bA,gh,bP,fl]
  .refine⟨_,cQ,fun T=>?_,fun T=>?_⟩ <;> simp[bA,gh,bP,fl]
theorem JD(ha:aE a=true)(hb:aE b=true):jV "sum" a b:=by
 rcases et ha with⟨i,rfl,hi⟩|⟨x,rfl,hx,hx2⟩|⟨ds,rfl,hd⟩
 .rcases et hb with⟨j,rfl,hj⟩|⟨y,rfl,hy,hy2⟩|⟨es,rfl,he⟩
  .have b1:=fun T=>mP T (GB (i+j))
   have b2:=fun T=>kO T (HU (i+j));refine⟨_,m7 (.int (i+j)),fun T=>?_,fun T=>?_⟩
   .simp[bA,iC,b1]
   .cases hv:aE (.int (i+j)) <;> simp[bP,b2,hv,bd,vl,fl]
  .refine⟨_,cQ,fun T=>?_,fun T=>?_⟩ <;> simp[bA,iC,bP,fl]
  .refine⟨_,cQ,fun T=>?_,fun T=>?_⟩ <;> simp[bA,iC,bP,fl]
 .refine⟨_,cQ,fun T=>?_,fun T=>?_⟩ <;> simp[bA,iC,bP,fl]
 .refine⟨_,cQ,fun T=>?_,fun T=>?_⟩ <;> simp[bA,iC,bP,fl]
theorem HY(ha:aE a=true)(hb:aE b=true):jV "less" a b:=by
 rcases et ha with⟨i,rfl,hi⟩|⟨x,rfl,hx,hx2⟩|⟨ds,rfl,hd⟩
 .rcases et hb with⟨j,rfl,hj⟩|⟨y,rfl,hy,hy2⟩|⟨es,rfl,he⟩
  .refine⟨vl (.int (if i<j then 1 else 0)),.inl ⟨_,rfl,by split <;> exact m6 (by decide) (by decide)⟩,fun T=>?_,fun T=>?_⟩
   .by_cases c:i<j
    .simp[bA,gJ,c,vl]
    .simp[bA,gJ,c,vl]
   .by_cases c:i<j
    .simp[bP,c,vl,D.intD]
    .simp[bP,c,vl,D.intD]
  .refine⟨_,cQ,fun T=>?_,fun T=>?_⟩ <;> simp[bA,gJ,bP,fl]
  .refine⟨_,cQ,fun T=>?_,fun T=>?_⟩ <;> simp[bA,gJ,bP,fl]
 .refine⟨_,cQ,fun T=>?_,fun T=>?_⟩ <;> simp[bA,gJ,bP,fl]
 .refine⟨_,cQ,fun T=>?_,fun T=>?_⟩ <;> simp[bA,gJ,bP,fl]
theorem HZ(ha:aE a=true)(hb:aE b=true):jV "join" a b:=by
 rcases et ha with⟨i,rfl,hi⟩|⟨x,rfl,hx,hx2⟩|⟨ds,rfl,hd⟩
 .refine⟨_,cQ,fun T=>?_,fun T=>?_⟩
  .simp[bA,gi,fl]
  .rcases et hb with⟨j,rfl,hj⟩|⟨y,rfl,hy,hy2⟩|⟨es,rfl,he⟩ <;> simp[bP,fl]
 .rcases et hb with⟨j,rfl,hj⟩|⟨y,rfl,hy,hy2⟩|⟨es,rfl,he⟩
  .refine⟨_,cQ,fun T=>?_,fun T=>?_⟩ <;> simp[bA,gi,bP,fl]
  .have l:x.length+y.length<=sizeLine:=cY (by omega)
   have sx:Sm (.str (x++y)):=Sm.mkS (by rw[←gY,iT,OE,gY,gY];omega) fun c hc=>by
    have hc':c∈cd (x++y):=hc;rw[iT] at hc';exact(Oq.mp hc').elim (hx2 c) (hy2 c)
   have b1:=fun T=>mP T sx;have b2:=fun T=>kO (d:=.str (x++y)) T (.inr (.inl ⟨_,rfl,sx.both.1,sx.both.2⟩));refine⟨_,m7 (.str (x++y)),fun T=>?_,fun T=>?_⟩
   .simp[bA,gi,b1,l]
   .cases hv:aE (.str (x++y)) <;> simp[bP,b2,l,hv,bd,vl,fl]
  .refine⟨_,cQ,fun T=>?_,fun T=>?_⟩ <;> simp[bA,gi,bP,fl]
 .rcases et hb with⟨j,rfl,hj⟩|⟨y,rfl,hy,hy2⟩|⟨es,rfl,he⟩
  .refine⟨_,cQ,fun T=>?_,fun T=>?_⟩ <;> simp[bA,gi,bP,fl]
  .refine⟨_,cQ,fun T=>?_,fun T=>?_⟩ <;> simp[bA,gi,bP,fl]
  .have l:ds.length+es.length<=sizeLine:=cY (by omega)
   have sx:Sm (.tuple (ds++es)):=Sm.tup fun d hd=>by
    rcases Oq.mp hd with z|z
    .exact nL (kF ha z)
    .exact nL (kF hb z)
   have b1:=fun T=>mP T sx;have b2:=fun T=>kO (d:=.tuple (ds++es)) T (.inr (.inr ⟨_,rfl,fun z hz=>(Oq.mp hz).elim (fun q=>(b6 (kF ha q)).1) fun q=>(b6 (kF hb q)).1⟩));refine⟨_,m7 (.tuple (ds++es)),fun T=>?_,fun T=>?_⟩
   .simp[bA,gi,b1,l]
   .cases hv:aE (.tuple (ds++es)) <;> simp[bP,b2,l,hv,bd,vl,fl]
theorem JE(hw:w∈PW)(ha:aE a=true)(hb:aE b=true):jV w a b:=by
 simp[PW] at hw
 rcases hw with rfl|rfl|rfl|rfl|rfl
 .exact HX ha hb
 .exact JD ha hb
 .exact HZ ha hb
 .exact HW ha hb
 .exact HY ha hb
def fV(M:FnM):FS:=(ak (aM 4 (aq M (ae (aa 3) (ae (aa 1) ah)))) (ak (fIf (au (af eqD (af ixD (aa 4) (fC (.int 0))) (fC (.str "fails")))) (ay (aa 4)) aH) (dQ 2 (af ixD (aa 4) (fC (.int 1))))))
def hJ:FI:=(aW (af ixD (aC .list (ae (fCB dC (ae (fSl (aa 0) (fP (fC (.int 1))) cx) ah)) (ae (fCB dC (ae (af ixD (aa 0) (fC (.int 1))) ah)) ah))) (fCB intD (ae (af eqD (af ixD (aa 0) (fC (.int 0))) (fC (.str "row"))) ah))))
def iP:FS:=(ak (fIf (au (af eqD (af ixD (aa 0) (fC (.int 0))) (fC (.str "row")))) (ay (cF (aK (aq gb (ae (fCB dA (ae (aa 2) ah)) ah))) (aC .tuple (ae (fC (.str "value")) (ae (fCB dA (ae (aa 2) ah)) ah))) (aC .tuple (ae (fC (.str "fails")) (ae (fC (.str "great")) ah))))) aH) (ak (fIf (au (af eqD (af ixD (aa 0) (fC (.int 0))) (fC (.str "many")))) (ay (cF (aK (fUn (aZ .int) (af ixD (aa 2) (fC (.int 0))))) (aC .tuple (ae (fC (.str "fails")) (ae (fC (.str "kind")) ah))) (aC .tuple (ae (fC (.str "value")) (ae (fCB aT (ae (af ixD (aa 2) (fC (.int 0))) ah)) ah))))) aH) (ay (aq bP (ae (af ixD (aa 0) (fC (.int 0))) (ae (af ixD (aa 2) (fC (.int 0))) (ae (af ixD (aa 2) (fC (.int 1))) ah)))))))
theorem tP(n:Nat):cW (n+1)=aP 5 (ak (fIf (au (af eqD (af ixD (aa 0) (fC (.int 0))) (fC (.str "put")))) (ay (aC .tuple (ae (fC (.str "value")) (ae (af ixD (aa 0) (fC (.int 1))) ah)))) aH) (ak (fIf (au (af eqD (af ixD (aa 0) (fC (.int 0))) (fC (.str "got")))) (ay (aC .tuple (ae (fC (.str "value")) (ae (af ixD (aa 1) (af ixD (aa 0) (fC (.int 1)))) ah)))) aH) (ak (dI 2 ah) (ak (cA 3 hJ (fV (cW n))) iP)))):=by rw[cW];rfl
theorem rZ{M:FnM}{T:Tp}{e0 G:N9}{f:N9->N9}:∀(es:List N9) (acc:List N9) (o3 o4:Option D.W),(∀e∈es,dj (f e)/\M [.d e,.d G] T=some (f e,T))->acc.length+es.length<=1000 ->
  match (es.map f).filter isF with
  |R::_=>∃ρ',forL 3 (fV M) es [some (.d e0),some (.d G),some (.loc (.list acc)),o3,o4] T=some ((.rt R,ρ'),T)
  |[]=>∃o3' o4',forL 3 (fV M) es [some (.d e0),some (.d G),some (.loc (.list acc)),o3,o4] T=some ((.nx,[some (.d e0),some (.d G),some (.loc (.list (acc++es.map fun e=>vOf (f e)))),(o3':Option D.W),o4']),T)
 |[],acc,o3,o4,_,_=>⟨o3,o4,by simp[forL]⟩
 |e::es,acc,o3,o4,h,hl=>by
  obtain⟨t,ht⟩:=h e Oc;have hl':acc.length<sizeLine:=OA (by simp at hl;omega:acc.length<1000) (by decide);have go:forL 3 (fV M) (e::es) [some (.d e0),some (.d G),some (.loc (.list acc)),o3,o4] T=bnd (fV M [some (.d e0),some (.d G),some (.loc (.list acc)),some (.d e),o4] T) (oU (forL 3 (fV M) es)):=rfl;rw[go]
  rcases pN t with⟨hf,w,_,hw⟩|⟨hf,hv,_⟩
  .rw[OJ,P5,if_pos hf]
   rw[hw] at ht
   have hb:fV M [some (.d e0),some (.d G),some (.loc (.list acc)),some (.d e),o4] T=some ((.rt (fl w),[some (.d e0),some (.d G),some (.loc (.list acc)),some (.d e),some (.d (fl w))]),T):=by
    simp[fV,ht,fl]
   rw[hb,hw];exact⟨_,rfl⟩
  .rw[OJ,P5,hf]
   have ih:=rZ (e0:=e0) es (acc++[vOf (f e)]) (some (.d e)) (some (.d (f e))) (fun x hx=>h x (Ob _ hx)) (by simp at hl ⊢;omega)
   have hb:fV M [some (.d e0),some (.d G),some (.loc (.list acc)),some (.d e),o4] T=some ((.nx,[some (.d e0),some (.d G),some (.loc (.list (acc++[vOf (f e)]))),some (.d e),some (.d (f e))]),T):=by
    generalize hV:vOf (f e)=v at hv;rw[hv] at ht ⊢;simp[fV,ht,vl,hl']
   rw[hb,fS,wm];simp only[QO,if_false]
   cases hF:(es.map f).filter isF with
   |nil=>
    rw[hF] at ih;obtain⟨o3',o4',hi⟩:=ih;exact⟨o3',o4',by rw[hi];simp⟩
   |cons R r=>
    rw[hF] at ih;exact ih
def TBB(G:N9)(gs:List N9)(n:Nat)(e:N9):Prop:=∃R,dj R/\(∀k T,n<k->cW k [.d e,.d (.list gs)] T=some (R,T))/\∀k T,n<k->dX k [.d e,.d G] T=some (R,T)
structure NodeB(e0:N9)(w0:Str)(es:List N9):Prop where
 nd:Node e0 w0 es
 w2:∀G T,hJ [some (.d e0),some (.d G),some (.loc (.list [])),none,none] T=some (es,T)
theorem pC{es:List N9}{f:N9->N9}(N:NodeB e0 w0 es)
  (hf:∀e∈es,dj (f e)/\(∀k T,n<k->cW k [.d e,.d (.list gs)] T=some (f e,T))/\∀k T,n<k->dX k [.d e,.d G] T=some (f e,T))
  (fin:(∀e∈es,f e=vl (vOf (f e))/\aE (vOf (f e))=true)->∃R,dj R/\(∀T,bA [.d (.str w0),.d (.list (es.map fun e=>vOf (f e)))] T=some (R,T))/\∀o3 o4 T,e9 (iP [some (.d e0),some (.d (.list gs)),some (.loc (.list (es.map fun e=>vOf (f e)))),o3,o4] T)=some (R,T)):TBB G gs (n+1) e0:=by
 have ix:=N.nd.ix;have np:=N.nd.np;have ng:=N.nd.ng;have byP:∀k T,n<k->(∀e∈es,dj (f e)/\dX k [.d e,.d G] T=some (f e,T)):=fun k T hk e he=>⟨(hf e he).1,(hf e he).2.2 k T hk⟩;have byL:∀k T,n<k->(∀e∈es,dj (f e)/\cW k [.d e,.d (.list gs)] T=some (f e,T)):=fun k T hk e he=>⟨(hf e he).1,(hf e he).2.1 k T hk⟩
 cases hF:(es.map f).filter isF with
 |cons R r=>
  have hR:R∈(es.map f).filter isF:=by rw[hF];exact Oc
  obtain⟨e,he,eR⟩:=Ot.mp (Pg.mp hR).1;refine⟨R,by rw[←eR];exact(hf e he).1,fun k T hk=>?_,fun k T hk=>?_⟩
  .obtain⟨k,rfl⟩:=br k (by omega)
   have lp:=rZ (e0:=e0) es [] none none (byL k T (by omega)) (by have:=N.nd.ln;simp;omega);rw[hF] at lp;obtain⟨ρ',lp⟩:=lp;rw[tP];simp[ix,np,ng,N.w2,lp]
  .obtain⟨k,rfl⟩:=br k (by omega)
   have lp:=pO (e0:=e0) es [] none none (byP k T (by omega)) (by have:=N.nd.ln;simp;omega);rw[hF] at lp;obtain⟨ρ',lp⟩:=lp;rw[uc];simp[ix,np,ng,N.nd.w1,lp]
 |nil=>
  have all:∀e∈es,f e=vl (vOf (f e))/\aE (vOf (f e))=true:=fun e he=>by
   rcases pN (hf e he).1 with⟨h1,_⟩|⟨_,h2⟩
   .have:f e∈(es.map f).filter isF:=Pg.mpr ⟨Ot.mpr ⟨e,he,rfl⟩,h1⟩
    rw[hF] at this;cases this
   .exact h2
  obtain⟨R,t,q1,q2⟩:=fin all;refine⟨R,t,fun k T hk=>?_,fun k T hk=>?_⟩
  .obtain⟨k,rfl⟩:=br k (by omega)
   have lp:=rZ (e0:=e0) es [] none none (byL k T (by omega)) (by have:=N.nd.ln;simp;omega);rw[hF] at lp;obtain⟨o3',o4',lp⟩:=lp;rw[tP];have q:=q2 o3' o4' T;simp[ix,np,ng,N.w2,lp,q]
  .obtain⟨k,rfl⟩:=br k (by omega)
   have lp:=pO (e0:=e0) es [] none none (byP k T (by omega)) (by have:=N.nd.ln;simp;omega);rw[hF] at lp;obtain⟨o3',o4',lp⟩:=lp;have cf:∀T,gZ bA [.d (.str w0),.d (.list (es.map fun e=>vOf (f e)))] T=some (.d R,T):=fun T=>mO rfl (q1 []) (mS t);rw[uc];simp[ix,np,ng,N.nd.w1,lp,cf]
theorem pw{G:N9}{gs:List N9}{n:Nat}{es:List N9}(h:∀e∈es,TBB G gs n e):∃f:N9->N9,∀e∈es,dj (f e)/\(∀k T,n<k->cW k [.d e,.d (.list gs)] T=some (f e,T))/\∀k T,n<k->dX k [.d e,.d G] T=some (f e,T):=by
 classical
 refine⟨fun e=>if h':e∈es then (h e h').choose else .none,fun e he=>?_⟩;simp only[dif_pos he];exact(h e he).choose_spec
theorem Ex.tup(h:Ex m n e):∃xs,e=.tuple xs:=by cases h <;> exact⟨_,rfl⟩
theorem pP(hG:y9 G gs)(hg:∀g∈gs,aE g=true)(hm:m<=(gs.length:Int)):∀(n:Nat) (e:N9),Ex m n e->TBB G gs n e:=by
 intro n e h
 induction h with
 |put hv=>
  rename_i n v;refine⟨vl v,.inl ⟨v,rfl,hv⟩,fun k T hk=>?_,fun k T hk=>?_⟩
  .obtain⟨k,rfl⟩:=br k (by omega)
   simp[cW,vl]
  .obtain⟨k,rfl⟩:=br k (by omega)
   simp[dX,vl]
 |got h0 h1=>
  rename_i n i;obtain⟨g,e,hgm⟩:=fU (xs:=gs) h0 (by omega);refine⟨vl g,.inl ⟨g,rfl,hg g hgm⟩,fun k T hk=>?_,fun k T hk=>?_⟩
  .obtain⟨k,rfl⟩:=br k (by omega)
   simp[cW,vl,e]
  .obtain⟨k,rfl⟩:=br k (by omega)
   simp[dX,vl,hG i,e]
 |row hl _ ih=>
  rename_i n es _;obtain⟨f,hf⟩:=pw ih
  have e1:∀T,fw [.d (.tuple [.str "row",.tuple es])] T=some (.list es,T):=fun T=>by simp[fw]
  have e2:∀G T,hJ [some (.d (.tuple [.str "row",.tuple es])),some (.d G),some (.loc (.list [])),none,none] T=some (es,T):=fun G T=>by simp[hJ,l9,D.intD,D.dC]
  refine pC (w0:=Oe "row") (es:=es) (f:=f) ⟨⟨e1,rfl,by simp,by simp,hl⟩,e2⟩ hf fun all=>?_
  have sx:Sm (.tuple (es.map fun e=>vOf (f e))):=Sm.tup fun d hd=>by
   obtain⟨e,he,rfl⟩:=Ot.mp hd;exact nL (all e he).2
  have bp:BP (.tuple (es.map fun e=>vOf (f e))):=.inr (.inr ⟨_,rfl,fun d hd=>by
   obtain⟨e,he,rfl⟩:=Ot.mp hd
   exact(b6 (all e he).2).1⟩)
  refine⟨bd (.tuple (es.map fun e=>vOf (f e))),m7 _,fun T=>?_,fun o3 o4 T=>?_⟩
  .simp[bA,mP T sx]
  .have lv:=kO T bp
   generalize es.map (fun e=>vOf (f e))=ps at lv ⊢
   cases hv:aE (.tuple ps) <;> simp[iP,lv,hv,bd,vl,fl,D.dA]
 |many _ ih=>
  rename_i n e he;obtain⟨xs,hxs⟩:=Ex.tup he;obtain⟨f,hf⟩:=pw (es:=[e]) (fun x hx=>by rw[Ov.mp hx];exact ih)
  have e1:∀T,fw [.d (.tuple [.str "many",e])] T=some (.list [e],T):=fun T=>by simp[fw,l9]
  have e2:∀G T,hJ [some (.d (.tuple [.str "many",e])),some (.d G),some (.loc (.list [])),none,none] T=some ([e],T):=fun G T=>by subst hxs;simp[hJ,l9,D.intD,D.dC]
  refine pC (w0:=Oe "many") (es:=[e]) (f:=f) ⟨⟨e1,rfl,by simp,by simp,by simp⟩,e2⟩ hf fun all=>?_;obtain⟨a1,a2⟩:=all e (by simp);generalize hV:vOf (f e)=v at a1 a2
  rcases et a2 with⟨i,rfl,hi⟩|⟨x,rfl,hx,_⟩|⟨ds,rfl,hd⟩
  .refine⟨fl "kind",cQ,fun T=>?_,fun o3 o4 T=>?_⟩
   .simp[bA,kg,hV,fl]
   .simp[iP,hV,fl]
  .have hx':x.length<=sizeLine:=cY (by omega)
   refine⟨vl (.int x.length),.inl ⟨_,rfl,m6 (by omega) (by omega)⟩,fun T=>?_,fun o3 o4 T=>?_⟩
   .simp[bA,kg,hV,vl,hx']
   .simp[iP,hV,vl,hx']
  .refine⟨vl (.int ds.length),.inl ⟨_,rfl,m6 (by omega) (by omega)⟩,fun T=>?_,fun o3 o4 T=>?_⟩
   .simp[bA,kg,hV,vl]
   .simp[iP,hV,vl]
 |pair hw ha hb iha ihb=>
  rename_i n w a b;obtain⟨xs,hxs⟩:=Ex.tup ha
  obtain⟨f,hf⟩:=pw (es:=[a,b]) (fun x hx=>by
   simp at hx
   rcases hx with rfl|rfl
   .exact iha
   .exact ihb)
  have ne:¬w="put"/\¬w="got"/\¬w="row"/\¬w="many":=by
   simp[PW] at hw
   rcases hw with rfl|rfl|rfl|rfl|rfl <;> simp
  obtain⟨n1,n2,n4,n5⟩:=ne
  have e1:∀T,fw [.d (.tuple [.str (Oe w),a,b])] T=some (.list [a,b],T):=fun T=>by simp[fw,l9,n1,n2,n4]
  have e2:∀G T,hJ [some (.d (.tuple [.str (Oe w),a,b])),some (.d G),some (.loc (.list [])),none,none] T=some ([a,b],T):=fun G T=>by subst hxs;simp[hJ,l9,D.intD,D.dC,n4]
  refine pC (w0:=Oe w) (es:=[a,b]) (f:=f) ⟨⟨e1,rfl,by simp[n1],by simp[n2],by simp⟩,e2⟩ hf fun all=>?_;obtain⟨a1,a2⟩:=all a (by simp);obtain⟨b1,b2⟩:=all b (by simp);obtain⟨R,t,q1,q2⟩:=JE hw a2 b2;refine⟨R,t,fun T=>q1 T,fun o3 o4 T=>?_⟩;simp[iP,n4,n5,q2]
def cst:Nat->N9->List Nat
 |n+1,.tuple ds=>40::(bg [44] (ds.map (cst n))++[41])
 |0,.tuple _=>[]
 |_,.int i=>nc i
 |_,.str x=>39::cd x
 |_,_=>[]
theorem k7(n:Nat)(i:Int):cst n (.int i)=nc i:=by cases n <;> rfl
theorem k6(n:Nat)(x:Str):cst n (.str x)=39::cd x:=by cases n <;> rfl
theorem uT(h:single d=true):(cst n d).length<=21:=by
 rcases cy h with⟨i,rfl⟩|⟨x,rfl⟩
 .rw[k7]
  have:=xq h;omega
 .rw[k6]
  have h':(decide (x.length<=20)&&has TXT x)=true:=h;rw[Oj] at h';have:=of_decide_eq_true h'.1;rw[OH,gY];omega
theorem mB(f:N9->List Nat):∀ds:List N9,(ds.map fun d=>(f d).length).sum+ds.length<=(bg [44] (ds.map f)).length+1/\(bg [44] (ds.map f)).length<=(ds.map fun d=>(f d).length).sum+ds.length
 |[]=>by simp[bg]
 |[d]=>by simp[bg]
 |d::e::r=>by
  have ih:=mB f (e::r);have e1:bg [44] ((d::e::r).map f)=f d++[44]++bg [44] ((e::r).map f):=rfl;rw[e1];simp only[OJ,Qj,OH,OE,Re] at ih ⊢;omega
theorem qI:∀{ds:List N9},(∀d∈ds,((cst n d).length:Int)+1<=25*aG n d)->(((ds.map fun d=>(cst n d).length).sum+ds.length:Nat):Int)<=25*(ds.map (aG n)).sum
 |[],_=>by simp
 |d::r,h=>by
  have h1:=h d Oc;have h2:=qI (ds:=r) fun x hx=>h x (Ob _ hx);simp only[OJ,Qj,OH];omega
theorem wG:∀(n:Nat) (d:N9),aF n d=true->((cst n d).length:Int)+1<=25*aG n d
 |n,d,h=>by
  rcases b5 h with h1|⟨m,ds,rfl,rfl,h8,hb⟩
  .have:=uT (n:=n) h1
   have:=mW n d;omega
  .have ih:=wG m
   have h1:=qI (ds:=ds) fun d hd=>ih d (hb d hd);have h2:=(mB (cst m) ds).2;show (((40::(bg [44] (ds.map (cst m))++[41])).length:Nat):Int)+1<=25*(1+(ds.map (aG m)).sum);simp only[OH,OE,Re];omega
termination_by n=>n
theorem wq(h:single (.int i)=true):lW [.int i]=some (.str (mk (nc i))):=by
 have h1:=mw h
 have h2:i.natAbs.log2<1920:=by
  by_cases z:i.natAbs=0
  .rw[z];decide
  .exact OA ((Ug (k:=64) z).mpr (Qp h1 (by decide))) (by decide)
 have e:Oe (toString i)=mk (nc i):=gx (by rw[yC,bJ]);show (if i.natAbs.log2<1920 then some (OG (Oe (toString i))) else none)=_;rw[if_pos h2,e]
theorem jK(a b:List Nat):mk a++mk b=mk (a++b):=gx (by rw[iT,bJ,bJ,bJ])
theorem lit(h:cd (Oe s)=l):Oe s=mk l:=gx (by rw[h,bJ])
theorem v8(f:N9->List Nat)(ds:List N9):((ds.map fun d=>mk (f d)).map (·.length)).sum=(ds.map fun d=>(f d).length).sum:=by
 rw[Pe];exact congrArg List.sum (O4 fun d _=>bU _)
theorem we(f:N9->List Nat)(ds:List N9):Ra (mk [44]) (ds.map fun d=>mk (f d))=mk (bg [44] (ds.map f)):=gx (by
 rw[kY,bJ,bJ,Pe]
 exact congrArg (bg [44]) (O4 fun d _=>bJ _))
theorem vB(hm:aG (m+1) (.tuple ds)<=40)(hb:∀x∈ds,aF m x=true):(bg [44] (ds.map (cst m))).length<=1000/\(ds.map fun d=>(cst m d).length).sum+ds.length<=1000:=by
 have h1:=qI (ds:=ds) fun d hd=>wG m d (hb d hd);have h2:=(mB (cst m) ds).2;have h3:1+(ds.map (aG m)).sum<=40:=hm;omega
theorem str_len{n:Nat}{x:Str}(h:single (.str x)=true):x.length<=20:=by
 have h':(decide (x.length<=20)&&has TXT x)=true:=h;rw[Oj] at h';exact of_decide_eq_true h'.1
theorem wM:∀(n k:Nat) (d:N9) (T:Tp),aF n d=true->aG n d<=40->n<k->eQ k [.d d] T=some (.str (mk (cst n d)),T)
 |n,0,d,T,h,hm,hk=>absurd hk (Qg _)
 |n,k+1,d,T,h,hm,hk=>by
  have q1:=lit (s:="'") (l:=[39]) (by decide +kernel);have q2:=lit (s:="(") (l:=[40]) (by decide +kernel);have q3:=lit (s:=")") (l:=[41]) (by decide +kernel);have q4:=lit (s:=",") (l:=[44]) (by decide +kernel)
  rcases b5 h with h1|⟨m,ds,rfl,rfl,h8,hb⟩
  .rcases cy h1 with⟨i,rfl⟩|⟨x,rfl⟩
   .simp[eQ,jD,whole,wq h1,k7]
   .have e:mk [39]++x=mk (39::cd x):=by rw[←rY x,jK,bJ];rfl
    have l:(mk [39]).length+x.length<=sizeLine:=cY (by rw[bU];have:=str_len (n:=0) h1;simp;omega);simp[eQ,jD,whole,k6,jN,q1,l,e]
  .obtain⟨l1,l2⟩:=vB hm hb
   have c:=dz (e:=aq (eQ k) (ae (aa 0) ah)) (ρ:=[some (.d (.tuple ds))]) (T:=T) (g:=fun d=>.str (mk (cst m d))) (ds:=ds) fun d hd=>by
    have:=wM m k d T (hb d hd) (WW (pW hd) hm) (by omega);simp[this]
   have j:=vm (z:=mk [44]) (kA (fun d=>mk (cst m d)) ds);rw[v8,we,OS,bU] at j;rw[if_pos (by simp;omega)] at j;have a1:(mk [40]).length+(mk (bg [44] (ds.map (cst m)))).length<=sizeLine:=cY (by rw[bU,bU];simp;omega);have a2:(mk (40::bg [44] (ds.map (cst m)))).length+(mk [41]).length<=sizeLine:=cY (by rw[bU,bU];simp;omega)
   have e1:mk [40]++mk (bg [44] (ds.map (cst m)))=mk (40::bg [44] (ds.map (cst m))):=by rw[jK];rfl
   have e2:mk (40::bg [44] (ds.map (cst m)))++mk [41]=mk (cst (m+1) (.tuple ds)):=by rw[jK];rfl
   simp[eQ,jD,whole,Hi,q2,q3,q4,c,j,a1,a2,e1,e2]
theorem vI:∀(n k:Nat) (d:N9) (T:Tp),aF n d=true->aG n d<=40->n<k->cK k [.d d] T=some (.str (mk (cst n d)),T)
 |n,0,d,T,h,hm,hk=>absurd hk (Qg _)
 |n,k+1,d,T,h,hm,hk=>by
  have q1:=lit (s:="'") (l:=[39]) (by decide +kernel);have q2:=lit (s:="(") (l:=[40]) (by decide +kernel);have q3:=lit (s:=")") (l:=[41]) (by decide +kernel);have q4:=lit (s:=",") (l:=[44]) (by decide +kernel)
  rcases b5 h with h1|⟨m,ds,rfl,rfl,h8,hb⟩
  .rcases cy h1 with⟨i,rfl⟩|⟨x,rfl⟩
   .simp[cK,Hk,Hl,wq h1,k7]
   .have e:mk [39]++x=mk (39::cd x):=by rw[←rY x,jK,bJ];rfl
    have l:(mk [39]).length+x.length<=sizeLine:=cY (by rw[bU];have:=str_len (n:=0) h1;simp;omega);simp[cK,k6,jN,Hj,q1,l,e]
  .obtain⟨l1,l2⟩:=vB hm hb
   have c:=dz (e:=aq (cK k) (ae (aa 0) ah)) (ρ:=[some (.d (.tuple ds))]) (T:=T) (g:=fun d=>.str (mk (cst m d))) (ds:=ds) fun d hd=>by
    have:=vI m k d T (hb d hd) (WW (pW hd) hm) (by omega);simp[this]
   have j:=vm (z:=mk [44]) (kA (fun d=>mk (cst m d)) ds);rw[v8,we,OS,bU] at j;rw[if_pos (by simp;omega)] at j;have a1:(mk [40]).length+(mk (bg [44] (ds.map (cst m)))).length<=sizeLine:=cY (by rw[bU,bU];simp;omega);have a2:(mk (40::bg [44] (ds.map (cst m)))).length+(mk [41]).length<=sizeLine:=cY (by rw[bU,bU];simp;omega)
   have e1:mk [40]++mk (bg [44] (ds.map (cst m)))=mk (40::bg [44] (ds.map (cst m))):=by rw[jK];rfl
   have e2:mk (40::bg [44] (ds.map (cst m)))++mk [41]=mk (cst (m+1) (.tuple ds)):=by rw[jK];rfl
   simp[cK,eX,q2,q3,q4,c,j,a1,a2,e1,e2]
def d8:FT:=(au (af neD (af ixD (aa 0) (fC (.int 0))) (fC (.str "fail"))))
def sF:FS:=(ay (aC .tuple (ae (aa 4) (ae (aC .tuple (ae (fC (.str "fails")) (ae (af ixD (aa 0) (fC (.int 1))) ah))) ah))))
theorem uu:gM=aP 7 (ak (dI 3 ah) (ak (dI 4 ah) (ak (bL d8 eA 100000) sF))):=rfl
theorem kX(T:Tp)(h:aE v=true):cK 25 [.d v] T=some (.str (mk (cst 4 v)),T):=vI 4 25 v T (b6 h).1 (b6 h).2 (by decide)
def ρL(r G w:N9)(gs rd:List N9)(o o':Option D.W):Rho:=[some (.d r),some (.d G),some (.d w),some (.loc (.list gs)),some (.loc (.list rd)),o,o']
def goL(m:Nat)(r G w:N9)(gs rd:List N9)(o o':Option D.W)(T:Tp):Option (N9×Tp):=e9 (bnd (bL d8 eA m (ρL r G w gs rd o o') T) (j7 sF))
def c9(w:String)(x:N9):PyData:=.tuple [.str (Oe w),x]
def stt(v:N9):PyData:=.str (mk (cst 4 v))
def cE(b:Bool)(x:Str)(v:N9):List PyData:=if b then [] else [.tuple [.str x,v]]
def oW(b:Bool):PyData:=.str (Oe (if b then "peek" else "want"))
def eG(b:Bool)(G w:N9)(k:Nat)(x:Str)(T:Tp):Option (N9×Tp):=gK [.d (oW b),.d G,.d w,.d (.int k),.d (.str x)] T
def oY(n:Nat)(r:N9)(gs:List N9)(S:N9):Prop:=∀(G w:N9) (m:Nat) (rd:List N9) (o o':Option D.W) (T:Tp),n<m->rd.length<1000 ->
 (∀v,S=mdT v->goL m r G w gs rd o o' T=some (.tuple [.list rd,c9 "made" (stt v)],T)) /\
 (∀x,S=flT x->goL m r G w gs rd o o' T=some (.tuple [.list rd,c9 "fails" (.str x)],T)) /\
 (∀b x r',S=asT b x r'->(∀V,eG b G w rd.length x T=some (.tuple V,T)->goL m r G w gs rd o o' T=some (.tuple [.list rd,.tuple V],T)) /\
  ∀v,aE v=true->eG b G w rd.length x T=some (.list [v],T)->∃m' o1 o2,m<=m' + n/\goL m r G w gs rd o o' T=goL m' r' G w (gs++[v]) (rd++cE b x (stt v)) o1 o2 T)
theorem fY:mdT v≠flT x:=by simp[mdT,flT]
theorem J0(h:aE v=true):∃b,inG v (.tuple [.int 0,.str "",.tuple []])=some (.bool b)/\inD (.str v.shown) (.list [.str "0",.str "''",.str "()"])=some (.bool b):=by
 have z1:aE (.int 0)=true:=by decide +kernel
 have z2:aE (.str "")=true:=by decide +kernel
 have z3:aE (.tuple [])=true:=by decide +kernel
 have s1:=mF z1 h;have s2:=mF z2 h;have s3:=mF z3 h
 have t1:(P7 0).shown=Oe "0":=by decide +kernel
 have t2:(OG "").shown=Oe "''":=by decide +kernel
 have t3:(QR []).shown=Oe "()":=by decide +kernel
 rw[t1] at s1;rw[t2] at s2;rw[t3] at s3
 have h2:([P7 0,.str "",.tuple []]).all OL=true:=by
  simp[jk z1,jk z2,jk z3]
 have e:inG v (.tuple [.int 0,.str "",.tuple []])=some (.bool ([P7 0,.str "",.tuple []].any fun y=>OP y v)):=if_pos ⟨jk h,h2⟩;refine⟨_,e,?_⟩
 have a:([P7 0,.str "",.tuple []].any fun y=>OP y v)=(decide (Oe "0"=v.shown)||(decide (Oe "''"=v.shown)||decide (Oe "()"=v.shown))):=by
  simp only[PU,List.any_nil,Ww];rw[nB z1 h,nB z2 h,nB z3 h,s1,s2,s3]
 rw[a]
 have q:∀a b:Str,(a == b)=decide (a=b):=fun a b=>by first|rfl|(rw[PJ];simp)
 simp[inD,inS,b8,eqF,q]
theorem Dg:goL (m+1) (.tuple [.str "fail",.str x]) G w gs rd o o1 T=some (.tuple [.list rd,c9 "fails" (.str x)],T):=by simp[goL,ρL,bL,d8,sF,c9]
theorem whl{c:FT}{b:FS}{m:Nat}{ρ:Rho}{T:Tp}(h:c ρ T=some (true,T)):bL c b (m+1) ρ T=bnd (b ρ T) fun p T2=>match p with
   |(.nx,ρ1)=>bL c b m ρ1 T2
   |(.ct,ρ1)=>bL c b m ρ1 T2
   |(.bk,ρ1)=>some ((.nx,ρ1),T2)
   |(.rt x,ρ1)=>some ((.rt x,ρ1),T2)
   |(.ro x,ρ1)=>some ((.ro x,ρ1),T2):=by
 show bnd (c ρ T) _=_;rw[h];rfl
theorem Gg(h:c ρ T=some (true,T))(hb:b ρ T=some ((.rt x,ρ'),T)):bL c b (m+1) ρ T=some ((.rt x,ρ'),T):=by rw[whl h,hb];rfl
theorem jE(h:c ρ T=some (true,T))(hb:b ρ T=some ((.nx,ρ'),T)):bL c b (m+1) ρ T=bL c b m ρ' T:=by rw[whl h,hb];rfl
theorem kP(h:c ρ T=some (false,T)):bL c b (m+1) ρ T=some ((.nx,ρ),T):=by
 show bnd (c ρ T) _=_;rw[h];rfl
theorem jO(h:d8 (ρL r G w gs rd o o1) T=some (true,T))(hb:eA (ρL r G w gs rd o o1) T=some ((.rt x,ρ'),T)):goL (m+1) r G w gs rd o o1 T=some (x,T):=by
 unfold goL;rw[Gg h hb];rfl
theorem xM(h:d8 (ρL r G w gs rd o o1) T=some (true,T))(hb:eA (ρL r G w gs rd o o1) T=some ((.nx,ρL r' G w gs' rd' o' o2),T)):goL (m+1) r G w gs rd o o1 T=goL m r' G w gs' rd' o' o2 T:=by
 unfold goL;rw[jE h hb]
theorem xI:bi .lst .tup=false:=rfl
theorem Hx:∀w∈FW,aE (.str (Oe w))=true:=by decide +kernel
theorem rq{gs:List N9}{e:N9}{rest:List N9}{w0:N9}{u:String}(hu:u∈FW)(tl:∀T,gZ (cW 25) [.d e,.loc (.list gs)] T=some (.d (fl u),T)){G w:N9}{rd:List N9}{o o1:Option D.W}{T:Tp} :
  eA (ρL (.tuple (w0::e::rest)) G w gs rd o o1) T=some ((.rt (.tuple [.list rd,c9 "fails" (.str (Oe u))]),ρL (.tuple (w0::e::rest)) G w gs rd (some (.d (fl u))) o1),T):=by
 have e1:ixD (.tuple (w0::e::rest)) (.int 1)=some e:=by
  show atI (w0::e::rest) ((1:Nat):Int)=_;exact wK rfl
 have ls:=fun T=>kX T (Hx u hu);simp[eA,ρL,e1,tl,fl,c9,D.intD,ls]
theorem C2:∀(n g:Nat) (r:N9),Rg p g n r->∀gs:List N9,gs.length=g->(∀v∈gs,aE v=true)->n<=20->∃S,StepOk p g n S/\(∀k T,n<k->cX k [.d r,.d (.tuple gs)] T=some (S,T))/\oY n r gs S:=by
 intro n g r h
 induction h with
 |fail hx=>
  rename_i g n x;intro gs hl hv hn;refine⟨flT x,.fl hx,fun k T hk=>?_,fun G w m rd o o1 T hm hr=>⟨fun v e=>absurd e.symm fY,fun y e=>?_,fun b y r' e=>?_⟩⟩
  .obtain⟨k,rfl⟩:=br k (by omega)
   simp[cX,flT]
  .obtain⟨m,rfl⟩:=br m (by omega)
   have:x=y:=by simpa[flT] using e
   subst this;exact Dg
  .cases b <;> simp[flT,asT] at e
 |say he=>
  rename_i g n e;intro gs hl hv hn;obtain⟨R,t,hL,hP⟩:=pP (pZ gs) hv (by rw[hl];exact Qw _) n e he;have tb:=fun T=>hP 25 T (by omega);have tl:∀T,gZ (cW 25) [.d e,.loc (.list gs)] T=some (.d R,T):=fun T=>mO rfl (hL 25 [] (by omega)) (mS t)
  rcases t with⟨v,rfl,hv'⟩|⟨u,hu,rfl⟩
  .have ls:=fun T=>kX T hv'
   refine⟨mdT v,.md hv',fun k T hk=>?_,fun G w m rd o o1 T hm hr=>⟨fun u e'=>?_,fun y e'=>absurd e' fY,fun b y r' e'=>?_⟩⟩
   .obtain⟨k,rfl⟩:=br k (by omega)
    simp[cX,mdT,tb,vl]
   .obtain⟨m,rfl⟩:=br m (by omega)
    have:v=u:=by simpa[mdT] using e'
    subst this;exact jO (by simp[d8,ρL]) (by simp[eA,ρL,tl,vl,c9,ls,stt,D.intD];rfl)
   .cases b <;> simp[mdT,asT] at e'
  .refine⟨flT (Oe u),.fl (qL u hu),fun k T hk=>?_,fun G w m rd o o1 T hm hr=>⟨fun u e'=>absurd e'.symm fY,fun y e'=>?_,fun b y r' e'=>?_⟩⟩
   .obtain⟨k,rfl⟩:=br k (by omega)
    simp[cX,flT,tb,fl]
   .obtain⟨m,rfl⟩:=br m (by omega)
    have:Oe u=y:=by simpa[flT] using e'
    subst this;exact jO (by simp[d8,ρL]) (rq hu tl)
   .cases b <;> simp[flT,asT] at e'
 |ask hw hg he hr ih=>
  rename_i g n w e r;intro gs hl hv hn;obtain⟨R,t,hL,hP⟩:=pP (pZ gs) hv (by rw[hl];exact Qw _) n e he;have tb:=fun T=>hP 25 T (by omega);have tl:∀T,gZ (cW 25) [.d e,.loc (.list gs)] T=some (.d R,T):=fun T=>mO rfl (hL 25 [] (by omega)) (mS t)
  obtain⟨b,hb,hbp⟩:∃b:Bool,w=(if b then "peek" else "want")/\(b=true->p=true):=by
   rcases hw with rfl|⟨rfl,hp⟩
   .exact⟨false,rfl,fun z=>by cases z⟩
   .exact⟨true,rfl,fun _=>hp⟩
  have nw:¬w="fail"/\¬w="when"/\¬w="say":=by rw[hb];cases b <;> simp
  obtain⟨n1,n2,n3⟩:=nw;have hgl:gs.length<sizeLine:=OA (by omega:gs.length<1000) (by decide)
  rcases t with⟨v,rfl,hv'⟩|⟨u,hu,rfl⟩
  .have ln:=fun T=>D9 (d:=v) T (nL hv')
   have ll:=fun T=>li (v:=v) T hv'
   cases hi:isName v with
   |false=>
    refine⟨flT "name",.fl v6,fun k T hk=>?_,fun G w m rd o o1 T hm hr=>⟨fun u e'=>absurd e'.symm fY,fun y e'=>?_,fun b y r' e'=>?_⟩⟩
    .obtain⟨k,rfl⟩:=br k (by omega)
     simp[cX,flT,tb,vl,n1,n2,n3,ln,hi]
    .obtain⟨m,rfl⟩:=br m (by omega)
     have:Oe "name"=y:=by simpa[flT] using e'
     subst this;exact jO (by simp[d8,ρL,n1]) (by simp[eA,ρL,tl,vl,c9,n2,n3,ll,hi];rfl)
    .cases b <;> simp[flT,asT] at e'
   |true=>
    obtain⟨x,rfl⟩:∃x,v=.str x:=by cases v <;> first|exact⟨_,rfl⟩|cases hi
    refine⟨asT b x r,.ask hbp hi hg (Uc n) hr,fun k T hk=>?_,fun G wr m rd o o1 T hm hrd=>⟨fun u e'=>?_,fun y e'=>?_,fun b' y r' e'=>?_⟩⟩
    .obtain⟨k,rfl⟩:=br k (by omega)
     simp[cX,asT,tb,vl,n1,n2,n3,ln,hi,hb]
     cases b <;> simp
    .cases b <;> simp[mdT,asT] at e'
    .cases b <;> simp[flT,asT] at e'
    .obtain⟨m,rfl⟩:=br m (by omega)
     have hc:d8 (ρL (.tuple [.str (Oe w),e,r]) G wr gs rd o o1) T=some (true,T):=by simp[d8,ρL,n1]
     obtain⟨rfl,rfl,rfl⟩:b=b'/\x=y/\r=r':=by
      cases b <;> cases b' <;> simp[asT] at e' <;> simp[e']
     have hrl:rd.length<sizeLine:=OA hrd (by decide)
     have aw:OG (Oe w)=oW b:=by rw[hb];rfl
     refine⟨fun V hk=>jO hc (ρ':=ρL (.tuple [.str (Oe w),e,r]) G wr gs rd (some (.d (vl (.str x)))) (some (.d (.tuple V)))) ?_,fun v hvv hk=>⟨m,some (.d (vl (.str x))),some (.d (.list [v])),by omega,?_⟩⟩
     .unfold eG at hk
      rw[←aw] at hk;simp[eA,ρL,tl,vl,n2,n3,ll,hi,hk,eX]
     .have ls:=fun T=>kX T hvv
      unfold eG at hk;rw[←aw] at hk;refine xM hc ?_
      cases b with
      |true=>
       subst hb;simp at hk;simp[eA,ρL,tl,vl,n2,n3,ll,hi,hk,hgl,cE,xI]
      |false=>
       subst hb;simp at hk;simp[eA,ρL,tl,vl,n2,n3,ll,hi,hk,hgl,hrl,cE,xI,ls,stt]
  .refine⟨flT (Oe u),.fl (qL u hu),fun k T hk=>?_,fun G w m rd o o1 T hm hr=>⟨fun u e'=>absurd e'.symm fY,fun y e'=>?_,fun b y r' e'=>?_⟩⟩
   .obtain⟨k,rfl⟩:=br k (by omega)
    simp[cX,flT,tb,fl,n1]
   .obtain⟨m,rfl⟩:=br m (by omega)
    have:Oe u=y:=by simpa[flT] using e'
    subst this;exact jO (by simp[d8,ρL,n1]) (rq hu tl)
   .cases b <;> simp[flT,asT] at e'
 |whn he hr hs ihr ihs=>
  rename_i g n e r s;intro gs hl hv hn;obtain⟨R,t,hL,hP⟩:=pP (pZ gs) hv (by rw[hl];exact Qw _) n e he;have tb:=fun T=>hP 25 T (by omega);have tl:∀T,gZ (cW 25) [.d e,.loc (.list gs)] T=some (.d R,T):=fun T=>mO rfl (hL 25 [] (by omega)) (mS t)
  have hc:∀G w rd o o1 T,d8 (ρL (.tuple [.str "when",e,r,s]) G w gs rd o o1) T=some (true,T):=fun G w rd o o1 T=>by simp[d8,ρL,oO]
  rcases t with⟨v,rfl,hv'⟩|⟨u,hu,rfl⟩
  .obtain⟨b,hb,hb2⟩:=J0 hv'
   have gd:=pG hv'
   have key:∀q,q=(if b=true then s else r)->∀S,StepOk p g n S->(∀k T,n<k->cX k [.d q,.d (.tuple gs)] T=some (S,T))->oY n q gs S->∃S,StepOk p g (n+1) S/\(∀k T,n+1<k->cX k [.d (.tuple [.str "when",e,r,s]),.d (.tuple gs)] T=some (S,T))/\oY (n+1) (.tuple [.str "when",e,r,s]) gs S:=by
    intro q hq S hS hq2 hq3;refine⟨S,hS.up (Uc n),fun k T hk=>?_,fun G w m rd o o1 T hm hrd=>?_⟩
    .obtain⟨k,rfl⟩:=br k (by omega)
     have:=hq2 k T (by omega)
     cases b <;> (simp at hq;subst hq;simp[cX,tb,vl,hb,oO,su,zc,zb,this])
    .obtain⟨m,rfl⟩:=br m (by omega)
     have st:goL (m+1) (.tuple [.str "when",e,r,s]) G w gs rd o o1 T=goL m q G w gs rd (some (.d (vl v))) o1 T:=by
      refine xM (hc G w rd o o1 T) ?_
      cases b <;> (simp at hq;subst hq;simp[eA,ρL,tl,vl,kL gd,hb2,oO,su,zc,zb,D.intD])
     obtain⟨a1,a2,a3⟩:=hq3 G w m rd (some (.d (vl v))) o1 T (by omega) hrd;refine⟨fun u e'=>by rw[st];exact a1 u e',fun y e'=>by rw[st];exact a2 y e',fun b' y r' e'=>?_⟩;obtain⟨c1,c2⟩:=a3 b' y r' e';refine⟨fun V hk=>by rw[st];exact c1 V hk,fun w hw hk=>?_⟩;obtain⟨m',o',o2,l,q'⟩:=c2 w hw hk;exact⟨m',o',o2,by omega,by rw[st];exact q'⟩
   cases b with
   |true=>
    obtain⟨S,h1,h2,h3⟩:=ihs gs hl hv (by omega);exact key s rfl S h1 h2 h3
   |false=>
    obtain⟨S,h1,h2,h3⟩:=ihr gs hl hv (by omega);exact key r rfl S h1 h2 h3
  .refine⟨flT (Oe u),.fl (qL u hu),fun k T hk=>?_,fun G w m rd o o1 T hm hr=>⟨fun u e'=>absurd e'.symm fY,fun y e'=>?_,fun b y r' e'=>?_⟩⟩
   .obtain⟨k,rfl⟩:=br k (by omega)
    simp[cX,flT,tb,fl,oO,su]
   .obtain⟨m,rfl⟩:=br m (by omega)
    have:Oe u=y:=by simpa[flT] using e'
    subst this;exact jO (hc G w rd o o1 T) (rq hu tl)
   .cases b <;> simp[flT,asT] at e'
def dl(c:Nat):Bool:=decide (c∈cd "(),")
theorem xX(c:Nat):dl c=decide (c=40\/c=41\/c=44):=by
 have e:cd "(),"=[40,41,44]:=by decide +kernel
 unfold dl;rw[e];simp
theorem DC(m:Nat):(dg m).head?≠some 45:=fun h=>by
 cases hd:dg m with
 |nil=>rw[hd] at h;cases h
 |cons a r=>
  rw[hd] at h;cases h;have:=gC m 45 (by rw[hd];exact Oc);omega
theorem txt_codes(h:has TXT x=true):∀c∈cd x,dl c=false:=fun c hc=>by
 have h1:=of_decide_eq_true (Oz.mp h c hc)
 have h2:∀c∈TXT.cps.toList,dl c=false:=by decide +kernel
 exact h2 c h1
theorem CU(i:Int):∀c∈nc i,dl c=false:=fun c hc=>by
 rw[xX];have:=kU i c hc;exact decide_eq_false (by omega)
def hdC(a:Nat):List (List Nat)->List (List Nat)
 |[]=>[[a]]
 |w::r=>(a::w)::r
def spl(c:Nat):List Nat->List (List Nat)
 |[]=>[[]]
 |a::l=>if a=c then []::spl c l else hdC a (spl c l)
theorem Hv(a:Nat)(l:List (List Nat)):hdC a l≠[]:=by cases l <;> simp[hdC]
theorem nN(c:Nat):∀l,spl c l≠[]
 |[]=>by simp[spl]
 |a::l=>by
  rw[spl];split
  .simp
  .exact Hv _ _
theorem uQ(c:Nat):∀l,∀w∈spl c l,c∉w
 |[],w,h=>by simp[spl] at h;simp[h]
 |a::l,w,h=>by
  have ih:=uQ c l;rw[spl] at h;split at h
  .rcases Oy.mp h with z|z
   .simp[z]
   .exact ih w z
  .rename_i ha
   cases hs:spl c l with
   |nil=>exact absurd hs (nN c l)
   |cons u r=>
    rw[hs] at h ih
    rcases Oy.mp h with z|z
    .rw[z]
     intro q
     rcases Oy.mp q with e|e
     .exact ha e.symm
     .exact ih u Oc e
    .exact ih w (Ob _ z)
def sub(c:Nat)(z l:List Nat):List Nat:=l.flatMap fun a=>if a=c then z else [a]
theorem qS(c:Nat)(z:List Nat):∀l,bg z (spl c l)=sub c z l
 |[]=>rfl
 |a::l=>by
  have ih:=qS c z l;have e:sub c z (a::l)=(if a=c then z else [a])++sub c z l:=rfl;rw[e,←ih,spl]
  cases hs:spl c l with
  |nil=>exact absurd hs (nN c l)
  |cons u r=>
   split
   .rfl
   .show bg z ((a::u)::r)=_
    rw[gL,gL];rfl
theorem sub_self(c:Nat):∀l,sub c [c] l=l
 |[]=>rfl
 |a::l=>by
  have e:sub c [c] (a::l)=(if a=c then [c] else [a])++sub c [c] l:=rfl;rw[e,sub_self c l]
  by_cases h:a=c
  .rw[if_pos h,h];rfl
  .rw[if_neg h];rfl
theorem jv(c:Nat)(b:List Nat):∀a,spl c (a++c::b)=spl c a++spl c b
 |[]=>by simp[spl]
 |x::a=>by
  have ih:=jv c b a;rw[Tc,spl,spl,ih]
  cases hs:spl c a with
  |nil=>exact absurd hs (nN c a)
  |cons u r=>split <;> rfl
theorem vP(c:Nat):∀w,c∉w->spl c w=[w]
 |[],_=>rfl
 |a::w,h=>by
  rw[spl,vP c w (fun z=>h (Ob _ z)),if_neg (fun e=>h (by rw[e];exact Oc))];rfl
theorem D7(ha:c∉a)(hb:c∉b)(hu:u=[]\/u.head? = some c)(hv:v=[]\/v.head? = some c)(h:a++u=b++v):a=b/\u=v:=by
 induction a generalizing b with
 |nil=>
  cases b with
  |nil=>exact⟨rfl,h⟩
  |cons d b=>
   exfalso;rw[Rf] at h
   rcases hu with hu|hu
   .rw[hu] at h;cases h
   .rw[h] at hu
    have:d=c:=by simpa using hu
    exact hb (by simp[this])
 |cons x a ih=>
  cases b with
  |nil=>
   exfalso;rw[Rf] at h
   rcases hv with hv|hv
   .rw[hv] at h;cases h
   .rw[←h] at hv
    have:x=c:=by simpa using hv
    exact ha (by simp[this])
  |cons d b=>
   rw[Tc,Tc] at h
   injection h with h1 h2
   obtain⟨k1,k2⟩:=ih (b:=b) (fun z=>ha (Ob _ z)) (fun z=>hb (Ob _ z)) h2;exact⟨by rw[h1,k1],k2⟩
theorem vj(c:Nat)(r:List (List Nat)):(r.map ([c]++·)).flatten=[]\/((r.map ([c]++·)).flatten).head? = some c:=by
 cases r with
 |nil=>exact .inl rfl
 |cons a r=>exact .inr rfl
theorem vD(c:Nat):∀(A B:List (List Nat)),A≠[]->B≠[]->(∀a∈A,c∉a)->(∀b∈B,c∉b)->bg [c] A=bg [c] B->A=B
 |[],_,h,_,_,_,_=>absurd rfl h
 |_::_,[],_,h,_,_,_=>absurd rfl h
 |a::A,b::B,_,_,hA,hB,h=>by
  rw[gL,gL] at h;obtain⟨h1,h2⟩:=D7 (hA a Oc) (hB b Oc) (vj c A) (vj c B) h;rw[h1]
  congr 1
  cases A with
  |nil=>
   cases B with
   |nil=>rfl
   |cons b' B=>cases h2
  |cons a' A=>
   cases B with
   |nil=>cases h2
   |cons b' B=>
    have h3:a'++(A.map ([c]++·)).flatten=b'++(B.map ([c]++·)).flatten:=by
     have e:∀(x:List Nat) (r:List (List Nat)),((x::r).map ([c]++·)).flatten=c::(x++(r.map ([c]++·)).flatten):=fun x r=>by simp
     rw[e,e] at h2;injection h2
    refine vD c (a'::A) (b'::B) (by simp) (by simp) (fun x hx=>hA x (Ob _ hx)) (fun x hx=>hB x (Ob _ hx)) ?_;rw[gL,gL];exact h3
theorem Cq(x y:Str):QI x y≠[]:=by
 unfold QI;split
 .simp
 .split
  .simp
  .rw[StrLaws.partsBetween_eq]
   obtain⟨p,r,e⟩:=StrLaws.partsFrom_ne x y.length 0 (Pd x y 0 x.length (x.length+1));rw[e];simp
theorem uP(x:Str)(c:Nat):(QI x ⟨#[c]⟩).map cd=spl c (cd x):=by
 have j:=StrLaws.join_split x ⟨#[c]⟩;have f:=StrLaws.split_free x c
 have e:cd (Ra ⟨#[c]⟩ (QI x ⟨#[c]⟩))=cd x:=by rw[j]
 rw[kY] at e;have b:cd ⟨#[c]⟩=[c]:=rfl;rw[b] at e;refine vD c _ _ (by simpa using Cq x _) (nN c _) (fun a ha=>?_) (uQ c _) (by rw[e,qS,sub_self]);obtain⟨p,hp,rfl⟩:=Ot.mp ha;exact f p hp
theorem nq(x z:Str)(c:Nat):cd (Px x ⟨#[c]⟩ z)=sub c (cd z) (cd x):=by rw[StrLaws.replace_one,kY,uP,qS]
theorem sub_len(c:Nat)(z:List Nat)(hz:z.length=3):∀l,(sub c z l).length<=3*l.length
 |[]=>Ol _
 |a::l=>by
  have e:sub c z (a::l)=(if a=c then z else [a])++sub c z l:=rfl;have ih:=sub_len c z hz l;rw[e,OE,OH];split
  .omega
  .simp;omega
theorem vN(c:Nat)(z a b:List Nat):sub c z (a++b)=sub c z a++sub c z b:=List.flatMap_append
theorem kH(c:Nat)(z:List Nat):∀w,c∉w->sub c z w=w
 |[],_=>rfl
 |a::w,h=>by
  have e:sub c z (a::w)=(if a=c then z else [a])++sub c z w:=rfl;rw[e,kH c z w (fun q=>h (Ob _ q)),if_neg (fun q=>h (by rw[q];exact Oc))];rfl
def z1:List Nat:=[44,40,44]
def z2:List Nat:=[44,41,44]
def wdl(l:List Nat):List (List Nat):=spl 44 (sub 41 z2 (sub 40 z1 l))
theorem Ed(a b:List Nat):wdl (a++44::b)=wdl a++wdl b:=by
 have e:(a++44::b)=a++([44]++b):=rfl;unfold wdl;rw[e];simp only[vN,kH 40 z1 [44] (by decide),kH 41 z2 [44] (by decide)];exact jv 44 _ _
theorem vK(h:∀c∈w,dl c=false):wdl w=[w]:=by
 have q:∀c∈w,¬(c=40\/c=41\/c=44):=fun c hc=>by
  have:=h c hc;rw[xX] at this;exact of_decide_eq_false this
 unfold wdl;rw[kH 40 z1 w (fun z=>q _ z (.inl rfl)),kH 41 z2 w (fun z=>q _ z (.inr (.inl rfl))),vP 44 w (fun z=>q _ z (.inr (.inr rfl)))]
theorem Ec(l:List Nat):wdl (40::(l++[41]))=[]::[40]::(wdl l++[[41],[]]):=by
 have e:(40::(l++[41]))=[40]++(l++[41]):=rfl
 have s1:sub 40 z1 [40]=z1:=by decide
 have s2:sub 40 z1 [41]=[41]:=by decide
 have s3:sub 41 z2 z1=z1:=by decide
 have s4:sub 41 z2 [41]=z2:=by decide
 unfold wdl;rw[e];simp only[vN,s1,s2,s3,s4];generalize sub 41 z2 (sub 40 z1 l)=m
 have t:z1++(m++z2)=([]:List Nat)++44::([40]++44::(m++44::([41]++44::[]))):=by simp[z1,z2]
 rw[t,jv,jv,jv,jv];have u1:spl 44 []=[[]]:=rfl
 have u2:spl 44 [40]=[[40]]:=by decide
 have u3:spl 44 [41]=[[41]]:=by decide
 rw[u1,u2,u3];rfl
theorem vL(f:N9->List Nat):∀(d:N9) (ds:List N9),wdl (bg [44] ((d::ds).map f))=(d::ds).flatMap fun x=>wdl (f x)
 |d,[]=>by simp[bg]
 |d,e::ds=>by
  have e1:bg [44] ((d::e::ds).map f)=f d++44::bg [44] ((e::ds).map f):=by
   show f d++[44]++bg [44] ((e::ds).map f)=_;rw[RD];rfl
  rw[e1,Ed,vL f e ds];rfl
theorem words_of(t:Str):(QI (Px (Px t "(" ",(,") ")" ",),") ",").map cd=wdl (cd t):=by
 have q1:Oe "("=⟨#[40]⟩:=by decide +kernel
 have q2:Oe ")"=⟨#[41]⟩:=by decide +kernel
 have q3:Oe ","=⟨#[44]⟩:=by decide +kernel
 have q4:cd ",(,"=z1:=by decide +kernel
 have q5:cd ",),"=z2:=by decide +kernel
 rw[q1,q2,q3,uP,nq,nq,q4,q5];rfl
def vbI:FI:=(n6 (af lj (fUn (g0 ")" ",),") (fUn (g0 "(" ",(,") (aa 0))) (fC (.str ","))))
def vbJ:FK:=(kIf 1 (au (af eqD (aa 2) (fC (.str "(")))) jZ (kIf 1 (bN (au (af eqD (aa 2) (fC (.str ")")))) (au (af gtD (fCB aT (ae (aa 1) ah)) (fC (.int 1))))) (cP (lZ 4) (fm (fUn dP (fC (.int 1))) (aa 4))) (kIf 1 (au (af eqD (fSl (aa 2) cx (fP (fC (.int 1)))) (fC (.str "'")))) (fm (fUn dP (fC (.int 1))) (fSl (aa 2) (fP (fC (.int 1))) cx)) (kIf 1 (bN (au (af neD (aa 3) (fC (.str "")))) (bN (au (af ltD (fCB aT (ae (aa 2) ah)) (fC (.int 25)))) (au (af eqG (bb (aW (aa 3)) (au (af di (aa 0) (fC (.str "0123456789")))) (aa 0)) (aC .list ah))))) (fm (fUn dP (fC (.int 1))) (fCB intD (ae (aa 2) ah))) e8))))
def vbB:FK:=(cP (j9 3 (fSl (aa 2) (fP (fCB intD (ae (af eqD (fSl (aa 2) cx (fP (fC (.int 1)))) (fC (.str "-"))) ah))) cx)) (kIf 1 (au (af eqD (aa 2) (fC (.str "(")))) jZ (kIf 1 (bN (au (af eqD (aa 2) (fC (.str ")")))) (au (af gtD (fCB aT (ae (aa 1) ah)) (fC (.int 1))))) (cP (lZ 4) (fm (fUn dP (fC (.int 1))) (aa 4))) (kIf 1 (au (af eqD (fSl (aa 2) cx (fP (fC (.int 1)))) (fC (.str "'")))) (fm (fUn dP (fC (.int 1))) (fSl (aa 2) (fP (fC (.int 1))) cx)) (kIf 1 (bN (au (af neD (aa 3) (fC (.str "")))) (bN (au (af ltD (fCB aT (ae (aa 2) ah)) (fC (.int 25)))) (au (af eqG (bb (aW (aa 3)) (au (af di (aa 0) (fC (.str "0123456789")))) (aa 0)) (aC .list ah))))) (fm (fUn dP (fC (.int 1))) (fCB intD (ae (aa 2) ah))) e8)))))
theorem Gj:vbB=cP (j9 3 (fSl (aa 2) (fP (fCB intD (ae (af eqD (fSl (aa 2) cx (fP (fC (.int 1)))) (fC (.str "-"))) ah))) cx)) vbJ:=rfl
def vbA:FK:=(kIf 1 (a8 (a6 (aK (fUn (aZ .str) (aa 0)))) (au (af gtD (fCB aT (ae (aa 0) ah)) (fC (.int 900))))) (kNo (ka (aC .list ah))) e8)
def vbE:FK:=(kIf 1 (a8 (au (af gtD (fCB aT (ae (aa 1) ah)) (fC (.int 1)))) (a8 (au (af neD (fCB aT (ae (af ixD (aa 1) (fC (.int 0))) ah)) (fC (.int 1)))) (a8 (a6 (aK (aq gb (ae (af ixD (af ixD (aa 1) (fC (.int 0))) (fC (.int 0))) ah)))) (au (af neD (aq (cK 25) (ae (af ixD (af ixD (aa 1) (fC (.int 0))) (fC (.int 0))) ah)) (aa 0)))))) (ka (aC .list ah)) e8)
theorem Hb:iw=aP 5 (jP 1 (cP vbA (cP (kFor 2 vbI vbB) (cP vbE lK)))):=rfl
@[simp] theorem KH:op2 o T (.loc (.list xs)) (.d y)=mkD T (o (.list xs) y):=rfl
@[simp] theorem KL:op2 o T (.d x) (.loc (.list xs))=mkD T (o x (.list xs)):=rfl
@[simp] theorem KN:op1 o T (.loc (.list xs))=mkD T (o (.list xs)):=rfl
theorem Ip(x:Str)(n:Nat):cd (P6 x none (some (n:Int)))=(cd x).take n:=by
 have e:Pn none (some (n:Int)) 1 x.length=Pn (some 0) (some (n:Int)) 1 x.length:=by
  have hm:max 0 (min (0:Int) (x.length:Int))=0:=by omega
  unfold Pn sliceRange;simp[hm]
 have e2:P6 x none (some (n:Int))=P6 x (some 0) (some (n:Int)):=by
  unfold P6;rw[e]
 rw[e2,Cr (by omega) (by omega)];simp
theorem eZ(h:cd (Oe s)=l):(mk w=Oe s)=(w=l):=by
 rw[lit h,eq_iff_iff];exact⟨fun e=>by rw[←bJ w,e,bJ],fun e=>by rw[e]⟩
theorem oB(w:List Nat)(h:cd (Oe s)=[c]):(P6 (mk w) none (some 1)=Oe s)=(w.head? = some c):=by
 rw[lit h,eq_iff_iff];have q:=Ip (mk w) 1;rw[bJ] at q;have q':cd (P6 (mk w) none (some 1))=w.take 1:=q;constructor
 .intro e
  rw[e,bJ] at q'
  cases w with
  |nil=>simp at q'
  |cons a r=>simp at q';simp[q']
 .intro e
  refine gx ?_;rw[q',bJ]
  cases w with
  |nil=>cases e
  |cons a r=>cases e;rfl
def fgW(w:List Nat):List Nat:=if w.head? = some 45 then w.tail else w
theorem Jq(w:List Nat):P6 (mk w) (some (if w.head? = some 45 then 1 else 0)) none=mk (fgW w):=by
 refine gx ?_
 cases w with
 |nil=>
  have:¬([]:List Nat).head? = some 45:=by simp
  rw[if_neg this,mv (by decide) (by simp[bU]),bJ,bJ,fgW,if_neg this];rfl
 |cons a r=>
  by_cases h:a=45
  .have h':(a::r).head? = some 45:=by simp[h]
   rw[if_pos h',mv (by decide) (by rw[bU];simp;omega),bJ,bJ,fgW,if_pos h'];rfl
  .have h':¬(a::r).head? = some 45:=by simpa using h
   rw[if_neg h',mv (by decide) (by rw[bU];simp;omega),bJ,bJ,fgW,if_neg h'];rfl
abbrev ρV(t:N9)(o2 o3 o4:Option D.W):Rho:=[some (.d t),none,o2,o3,o4]
theorem iW:onK 1 (ρV t o2 o3 o4) s=[some (.d t),some (.loc (.list (s.reverse.map .list))),o2,o3,o4]:=rfl
section
variable {t:N9}{T:Tp}{o2 o3 o4:Option D.W}{ys:List N9}{s:Stk}
theorem GE(hl:w.length<=1000):∃o,(j9 3 (fSl (aa 2) (fP (fCB intD (ae (af eqD (fSl (aa 2) cx (fP (fC (.int 1)))) (fC (.str "-"))) ah))) cx)) (ρV t (some (.d (.str (mk w)))) o3 o4) (ys::s) T=some ((.nx,ρV t (some (.d (.str (mk w)))) (some (.d (.str (mk (fgW w))))) o4,ys::s),T)/\o=():=by
 refine⟨(),?_,rfl⟩;have a1:=oB w (s:="-") (c:=45) (by decide +kernel);have l1:(mk w).length<=sizeLine:=cY (by rw[bU];omega);have f:=Jq w
 by_cases h:w.head? = some 45
 .rw[if_pos h] at f
  simp[a1,l1,h,f]
 .rw[if_neg h] at f
  simp[a1,l1,h,f]
theorem lD(hl:w.length<=1000)(h:vbJ (ρV t (some (.d (.str (mk w)))) (some (.d (.str (mk (fgW w))))) o4) (ys::s) T=r):vbB (ρV t (some (.d (.str (mk w)))) o3 o4) (ys::s) T=r:=by
 obtain⟨_,e,_⟩:=GE (t:=t) (T:=T) (o3:=o3) (o4:=o4) (ys:=ys) (s:=s) hl;rw[Gj];show bnd _ _=_;rw[e];exact h
theorem qW:vbB (ρV t (some (.d (.str (mk [])))) o3 o4) (ys::s) T=some ((.nx,ρV t (some (.d (.str (mk [])))) (some (.d (.str (mk [])))) o4,ys::s),T):=by
 have e1:=eZ (w:=[]) (s:="(") (l:=[40]) (by decide +kernel);have e2:=eZ (w:=[]) (s:=")") (l:=[41]) (by decide +kernel);have e3:=oB [] (s:="'") (c:=39) (by decide +kernel);have e4:=eZ (w:=[]) (s:="") (l:=[]) (by decide +kernel);have l1:(mk []).length<=sizeLine:=cY (by rw[bU];simp);exact lD (by simp) (by simp[vbJ,iW,e1,e2,e3,e4,fgW,l1])
theorem Eg(hs:s.length<1000):vbB (ρV t (some (.d (.str (mk [40])))) o3 o4) (ys::s) T=some ((.nx,ρV t (some (.d (.str (mk [40])))) (some (.d (.str (mk [40])))) o4,[]::ys::s),T):=by
 have e1:=eZ (w:=[40]) (s:="(") (l:=[40]) (by decide +kernel)
 have l1:s.length+1<100000:=by omega
 exact lD (by simp) (by simp[vbJ,iW,e1,fgW,l1])
theorem Co(hy:zs.length<1000):vbB (ρV t (some (.d (.str (mk [41])))) o3 o4) (ys::zs::s) T=some ((.nx,ρV t (some (.d (.str (mk [41])))) (some (.d (.str (mk [41])))) (some (.d (.tuple ys))),(zs++[.tuple ys])::s),T):=by
 have e1:=eZ (w:=[41]) (s:="(") (l:=[40]) (by decide +kernel);have e2:=eZ (w:=[41]) (s:=")") (l:=[41]) (by decide +kernel)
 have l2:zs.length<100000:=by omega
 exact lD (by simp) (by simp[vbJ,iW,e1,e2,fgW,l2];intro h;omega)
theorem Ef(hx:x.length<=20)(hy:ys.length<1000):vbB (ρV t (some (.d (.str (mk (39::cd x))))) o3 o4) (ys::s) T=some ((.nx,ρV t (some (.d (.str (mk (39::cd x))))) (some (.d (.str (mk (39::cd x))))) o4,(ys++[.str x])::s),T):=by
 have e1:=eZ (w:=39::cd x) (s:="(") (l:=[40]) (by decide +kernel);have e2:=eZ (w:=39::cd x) (s:=")") (l:=[41]) (by decide +kernel);have e3:=oB (39::cd x) (s:="'") (c:=39) (by decide +kernel)
 have hl:(39::cd x).length<=1000:=by rw[OH,gY];omega
 have l1:(mk (39::cd x)).length<=sizeLine:=cY (by rw[bU];omega);have sl:P6 (mk (39::cd x)) (some 1) none=x:=gx (by rw[mv (by decide) (by rw[bU];simp;omega),bJ];rfl)
 have fg:fgW (39::cd x)=39::cd x:=by simp[fgW]
 have l2:ys.length<100000:=by omega
 refine lD hl ?_;rw[fg];simp[vbJ,iW,e1,e2,e3,l1,sl,l2]
theorem Hy(i:Int):∃m,fgW (nc i)=dg m:=by
 cases i with
 |ofNat m=>
  refine⟨m,?_⟩;show fgW (dg m)=_;unfold fgW;rw[if_neg (DC m)]
 |negSucc m=>exact⟨m+1,rfl⟩
theorem Ht(h:single (.int i)=true):intText? (mk (nc i))=some i:=by
 have h:=mw h
 cases i with
 |ofNat m=>
  have l:=og (m:=m) h;have:=intText_digits (x:=mk (dg m)) (by show U8 (cd (mk (dg m)));rw[bJ];exact gC m) (by show cd (mk (dg m))≠[];rw[bJ];exact oH m) (by show (cd (mk (dg m))).length<=_;rw[bJ];omega);have e:(mk (dg m)).cps.toList=dg m:=bJ _;rw[e,jT] at this;exact this
 |negSucc m=>
  have l:=og (m:=m+1) h;have:=intText_neg (x:=mk (45::dg (m+1))) (cs:=dg (m+1)) (bJ _) (gC _) (oH _) (by rw[bU];simp;omega);rw[jT] at this;exact this
theorem HR(m:Nat):has "0123456789" (mk (dg m))=true:=by
 unfold has;rw[Oz];intro c hc;have e:(mk (dg m)).cps.toList=dg m:=bJ _;rw[e] at hc;have:=gC m c hc
 have f:(Oe "0123456789").cps.toList=[48,49,50,51,52,53,54,55,56,57]:=by decide +kernel
 rw[f];refine decide_eq_true ?_;simp;omega
theorem Gi(hi:single (.int i)=true)(hy:ys.length<1000):∃o,vbB (ρV t (some (.d (.str (mk (nc i))))) o3 o4) (ys::s) T=some ((.nx,ρV t (some (.d (.str (mk (nc i))))) o o4,(ys++[.int i])::s),T):=by
 have nl:=xq hi;have nz:=kU i
 have hd:∀c,(nc i).head? = some c->c=45\/48<=c/\c<=57:=fun c h=>nz c (by
  cases hn:nc i with
  |nil=>rw[hn] at h;cases h
  | cons a r=>rw[hn] at h;cases h;exact Oc)
 have n40:¬nc i=[40]:=fun e=>by have:=nz 40 (by rw[e];exact Oc);omega
 have n41:¬nc i=[41]:=fun e=>by have:=nz 41 (by rw[e];exact Oc);omega
 have n39:¬(nc i).head? = some 39:=fun e=>by have:=hd 39 e;omega
 have e1:=eZ (w:=nc i) (s:="(") (l:=[40]) (by decide +kernel);have e2:=eZ (w:=nc i) (s:=")") (l:=[41]) (by decide +kernel);have e3:=oB (nc i) (s:="'") (c:=39) (by decide +kernel);obtain⟨m,hm⟩:=Hy i;have e4:=eZ (w:=dg m) (s:="") (l:=[]) (by decide +kernel)
 have l0:(mk (dg m)).length<=1000:=by
  rw[bU,←hm];unfold fgW;split
  .rw[List.length_tail];omega
  .omega
 have l1:(mk (nc i)).length<=sizeLine:=cY (by rw[bU];omega)
 have l2:((mk (nc i)).length:Int)<25:=by rw[bU];omega
 have l3:(mk (nc i)).length<=640:=by rw[bU];omega
 have l4:ys.length<100000:=by omega
 have l5:(mk (dg m)).length<=sizeLine:=cY (by omega)
 have lo:∀c∈(mk (dg m)).cps.toList,c<128:=fun c hc=>by
  have e:(mk (dg m)).cps.toList=dg m:=bJ _;rw[e] at hc;have:=gC m c hc;omega
 obtain⟨l,hc,hl⟩:=pQ (y:=Oe "0123456789") (x:=mk (dg m)) (T:=[]) (ρ:=[some (.d t),some (.loc (.list ((ys::s).reverse.map .list))),some (.d (.str (mk (nc i)))),some (.d (.str (mk (dg m)))),o4]) (au (af di (aa 0) (fC (.str "0123456789")))) lo fun z=>by simp;rfl
 rw[HR] at hl;refine⟨some (.d (.str (mk (dg m)))),lD (by omega) ?_⟩;rw[hm];simp at hc;simp[vbJ,iW,e1,e2,e3,e4,n40,n41,n39,oH,l1,l2,l3,l4,l5,hc,hl,Ht hi]
theorem iM(h:b (ρ.set 2 (some (.d d))) s T=some ((.nx,ρ',s'),T)):dD 2 b (d::r) ρ s T=dD 2 b r ρ' s' T:=by
 show bnd _ _=_;rw[h];rfl
abbrev wS(l:List (List Nat)):List PyData:=l.map fun w=>.str (mk w)
theorem vV:∀(n:Nat) (d:N9),aF n d=true->∀(rest:List (List Nat)) (ys:List N9) (s:Stk) (o2 o3 o4:Option D.W),ys.length<1000->s.length+n<900 ->
  ∃o2' o3' o4',dD 2 vbB (wS (wdl (cst n d)++rest)) (ρV t o2 o3 o4) (ys::s) T=dD 2 vbB (wS rest) (ρV t o2' o3' o4') ((ys++[d])::s) T
 |n,d,h,rest,ys,s,o2,o3,o4,hy,hs=>by
  rcases b5 h with h1|⟨m,ds,rfl,rfl,h8,hb⟩
  .rcases cy h1 with⟨i,rfl⟩|⟨x,rfl⟩
   .rw[k7,vK (CU i)]
    obtain⟨o,e⟩:=Gi (t:=t) (T:=T) (o3:=o3) (o4:=o4) (s:=s) h1 hy;exact⟨_,_,_,iM e⟩
   .have hx:has TXT x=true:=ku h1
    rw[k6,vK fun c hc=>by
     rcases Oy.mp hc with z|z
     .rw[z];decide
     .exact txt_codes hx c z]
    exact⟨_,_,_,iM (Ef (str_len (n:=0) h1) hy)⟩
  .have ih:=vV m
   have parts:∀(es:List N9) (acc:List N9) (rest:List (List Nat)) (o2 o3 o4:Option D.W),(∀x∈es,aF m x=true)->acc.length+es.length<900->∃o2' o3' o4',dD 2 vbB (wS ((es.flatMap fun x=>wdl (cst m x))++rest)) (ρV t o2 o3 o4) (acc::ys::s) T=dD 2 vbB (wS rest) (ρV t o2' o3' o4') ((acc++es)::ys::s) T:=by
    intro es
    induction es with
    |nil=>intro acc rest o2 o3 o4 _ _;exact⟨o2,o3,o4,by simp⟩
    |cons e es ihe=>
     intro acc rest o2 o3 o4 hall hl;simp only[OH] at hl;obtain⟨p2,p3,p4,q⟩:=ih e (hall e Oc) ((es.flatMap fun x=>wdl (cst m x))++rest) acc (ys::s) o2 o3 o4 (by omega) (by simp;omega);obtain⟨r2,r3,r4,q'⟩:=ihe (acc++[e]) rest p2 p3 p4 (fun x hx=>hall x (Ob _ hx)) (by simp;omega);refine⟨r2,r3,r4,?_⟩
     have e1:((e::es).flatMap fun x=>wdl (cst m x))++rest=wdl (cst m e)++((es.flatMap fun x=>wdl (cst m x))++rest):=by simp
     rw[e1,q,q'];simp
   have ec:cst (m+1) (.tuple ds)=40::(bg [44] (ds.map (cst m))++[41]):=rfl
   have mid:∃o2' o3' o4',dD 2 vbB (wS (wdl (bg [44] (ds.map (cst m)))++([41]::[]::rest))) (ρV t (some (.d (.str (mk [40])))) (some (.d (.str (mk [40])))) o4) ([]::ys::s) T=dD 2 vbB (wS ([41]::[]::rest)) (ρV t o2' o3' o4') (ds::ys::s) T:=by
    cases ds with
    |nil=>
     have:wdl (bg [44] (([]:List N9).map (cst m)))=[[]]:=rfl;rw[this];exact⟨_,_,_,iM qW⟩
    |cons d ds=>
     rw[vL];obtain⟨p2,p3,p4,q⟩:=parts (d::ds) [] ([41]::[]::rest) _ _ o4 hb (by simp at h8 ⊢;omega);exact⟨p2,p3,p4,by rw[q];rfl⟩
   obtain⟨p2,p3,p4,q⟩:=mid;refine⟨some (.d (.str (mk []))),some (.d (.str (mk []))),some (.d (.tuple ds)),?_⟩;rw[ec,Ec]
   have e1:([]::[40]::(wdl (bg [44] (ds.map (cst m)))++[[41],[]]))++rest=[]::[40]::(wdl (bg [44] (ds.map (cst m)))++([41]::[]::rest)):=by simp
   rw[e1];show dD 2 vbB (.str (mk [])::.str (mk [40])::wS (wdl (bg [44] (ds.map (cst m)))++([41]::[]::rest))) _ _ _=_;rw[iM (qW (t:=t) (o3:=o3) (o4:=o4)),iM (Eg (t:=t) (by omega)),q];show dD 2 vbB (.str (mk [41])::.str (mk [])::wS rest) _ _ _=_;rw[iM (Co (t:=t) hy),iM (qW (t:=t))]
termination_by n=>n
theorem uz:∀(n:Nat) (d:N9),aF n d=true->((cst n d).length:Int)+1<=22*aG n d
 |n,d,h=>by
  rcases b5 h with h1|⟨m,ds,rfl,rfl,h8,hb⟩
  .have:=uT (n:=n) h1
   have:=mW n d;omega
  .have ih:=uz m
   have h1:∀{ds:List N9},(∀d∈ds,aF m d=true)->(((ds.map fun d=>(cst m d).length).sum+ds.length:Nat):Int)<=22*(ds.map (aG m)).sum:=by
    intro ds hd
    induction ds with
    |nil=>simp
    |cons d r ihr=>
     have a1:=ih d (hd d Oc);have a2:=ihr fun x hx=>hd x (Ob _ hx);simp only[OJ,Qj,OH];omega
   have h1:=h1 hb;have h2:=(mB (cst m) ds).2;show (((40::(bg [44] (ds.map (cst m))++[41])).length:Nat):Int)+1<=22*(1+(ds.map (aG m)).sum);simp only[OH,OE,Re];omega
termination_by n=>n
theorem Ek(h:aE v=true):(mk (cst 4 v)).length<=880:=by
 have h1:=uz 4 v (b6 h).1;have h2:=(b6 h).2;rw[bU];omega
theorem nK(h:aE v=true):iw [.d (stt v)] T=some (.list [v],T):=by
 have hl:=Ek h;have l1:(mk (cst 4 v)).length<=sizeLine:=cY (by omega)
 have l2:¬(900:Int)<((mk (cst 4 v)).length:Int):=by omega
 have hA:vbA (ρV (stt v) none none none) [[]] T=some ((.nx,ρV (stt v) none none none,[[]]),T):=by
  simp[vbA,iW,stt,jN,l1,l2]
 have w:=words_of (mk (cst 4 v));rw[bJ] at w
 have wS':(QI (Px (Px (mk (cst 4 v)) "(" ",(,") ")" ",),") ",").map OG=wS (wdl (cst 4 v)):=by
  rw[←w,wS,Pe]
  exact O4 fun x _=>by simp[rY]
 have r1:(Px (mk (cst 4 v)) "(" ",(,").length<=3*880:=by
  have q:Oe "("=⟨#[40]⟩:=by decide +kernel
  have q4:cd ",(,"=z1:=by decide +kernel
  rw[←gY,q,nq,q4,bJ];have:=sub_len 40 z1 rfl (cst 4 v);rw[bU] at hl;omega
 have r2:(Px (Px (mk (cst 4 v)) "(" ",(,") ")" ",),").length<=9*880:=by
  have q:Oe ")"=⟨#[41]⟩:=by decide +kernel
  have q4:cd ",),"=z2:=by decide +kernel
  rw[←gY,q,nq,q4];have:=sub_len 41 z2 rfl (cd (Px (mk (cst 4 v)) "(" ",(,"));rw[gY] at this;omega
 have hI:vbI (ρV (stt v) none none none) T=some (wS (wdl (cst 4 v)),T):=by
  have d1:g0 "(" ",(," (stt v)=some (.str (Px (mk (cst 4 v)) "(" ",(,")):=if_pos ⟨by omega,by decide,by decide⟩;have d2:g0 ")" ",)," (.str (Px (mk (cst 4 v)) "(" ",(,"))=some (.str (Px (Px (mk (cst 4 v)) "(" ",(,") ")" ",),")):=if_pos ⟨by omega,by decide,by decide⟩
  have d3:lj (.str (Px (Px (mk (cst 4 v)) "(" ",(,") ")" ",),")) (.str ",")=some (.list (wS (wdl (cst 4 v)))):=by
   rw[←wS'];exact if_pos ⟨by decide,OX (by omega:_<=16000) (by decide)⟩
  simp[vbI,n6,d1,d2,d3]
 obtain⟨o2,o3,o4,e⟩:=vV (t:=stt v) (T:=T) 4 v (b6 h).1 [] [] [] none none none (by simp) (by simp);rw[PV] at e
 have hE:vbE (ρV (stt v) o2 o3 o4) [[v]] T=some ((.nx,ρV (stt v) o2 o3 o4,[[v]]),T):=by
  have lv:=fun T=>kO (d:=v) T (.of (b6 h).1);have ls:=fun T=>kX T h;simp[vbE,iW,lv,ls,h,stt]
 rw[Hb]
 have hF:(kFor 2 vbI vbB) (ρV (stt v) none none none) [[]] T=some ((.nx,ρV (stt v) o2 o3 o4,[[v]]),T):=by
  show bnd _ _=_;rw[hI];show dD 2 vbB (wS (wdl (cst 4 v))) _ _ _=_;rw[e];rfl
 have hO:jP 1 (cP vbA (cP (kFor 2 vbI vbB) (cP vbE lK))) (ρV (stt v) none none none) T=some ((.rt (.list [v]),ρV (stt v) none none none),T):=by
  show (if _ then _ else _)=_;rw[if_pos ⟨rfl,(by decide:1<5),rfl⟩,qN,hA];show rH _ (bnd _ _)=_;rw[fS,qp,qN,hF,fS,qp,qN,hE,fS,qp];rfl
 show e9 (jP 1 _ (ρV (stt v) none none none) T)=_;rw[hO];rfl
end
@[simp] theorem LY:d0 f ρ T=jY T (f (bX ρ) []):=rfl
@[simp] theorem Ku:bX []=[]:=rfl
@[simp] theorem Kr:bX (none::r)=none::bX r:=rfl
@[simp] theorem Kt:bX (some (.d x)::r)=some (.d x)::bX r:=rfl
@[simp] theorem Ks:bX (some (.loc x)::r)=some (.d x)::bX r:=rfl
@[simp] theorem Kq:bX (some (.tp i)::r)=none::bX r:=rfl
theorem jq(h:bh x=true):jY T (some (.d x,T'))=some (.d x,T):=if_pos h
theorem qX(h:Ex m n e):bh e=true:=by
 induction h with
 |put hv=>simp[bh,bM,kQ hv]
 |got _ _=>simp[bh,bM]
 |row _ _ ih=>simp[bh,bM,kG ih]
 |many _ ih=>simp[bh,bM,ih]
 |pair _ _ _ iha ihb=>simp[bh,bM,iha,ihb]
theorem Gn(h:Rg p g n r):bh r=true:=by
 induction h with
 |fail _=>simp[bh,bM]
 |say he=>simp[bh,bM,qX he]
 |ask _ _ he _ ih=>simp[bh,bM,qX he,ih]
 |whn he _ _ ih1 ih2=>simp[bh,bM,qX he,ih1,ih2]
theorem Cp(h:StepOk p g n S):bh S=true:=by
 cases h with
 |md hv=>simp[mdT,bh,bM,kQ hv]
 |fl _=>simp[flT,bh,bM]
 |ask _ _ _ _ hr=>simp[asT,bh,bM,Gn hr]
def stp(r:N9)(gs:List N9):PyData:=match cX 25 [.d r,.d (.tuple gs)] [] with
 |some (S,_)=>S
 |none=>.none
theorem gS(h:Rg p g n r)(hl:gs.length=g)(hv:∀v∈gs,aE v=true)(hn:n<=20) :
  StepOk p g n (stp r gs)/\(∀k T,n<k->cX k [.d r,.d (.tuple gs)] T=some (stp r gs,T))/\oY n r gs (stp r gs):=by
 obtain⟨S,h1,h2,h3⟩:=C2 n g r h gs hl hv hn
 have e:stp r gs=S:=by
  unfold stp;rw[h2 25 [] (by omega)]
 rw[e];exact⟨h1,h2,h3⟩
def ff:N9->Option (Bool×Str×N9)
 |.tuple [.str w,.str x,r]=>if w=Oe "want" then some (false,x,r) else if w=Oe "peek" then some (true,x,r) else none
 |_=>none
@[simp] theorem yg:ff (asT b x r)=some (b,x,r):=by cases b <;> simp[asT,ff]
@[simp] theorem ND:ff (mdT v)=none:=by simp[mdT,ff]
@[simp] theorem NE:ff (flT x)=none:=by simp[flT,ff]
structure St3 where
 gs:List N9
 rd:List N9
 S:N9
abbrev Dc:=List (N9×N9)
def i7:Nat->Dc->St3->St3
 |0,_,s=>s
 |f+1,G,s=>match ff s.S with
  |none=>s
  |some (b,x,r)=>match ao G x with
   |none=>s
   |some v=>i7 f G ⟨s.gs++[v],s.rd++cE b x v,stp r (s.gs++[v])⟩
def run(G:Dc)(s:St3):St3:=i7 (12-s.gs.length) G s
structure OkS(p:Bool)(n:Nat)(s:St3):Prop where
 v:∀v∈s.gs,aE v=true
 st:StepOk p s.gs.length n s.S
 rd:s.rd.length<=s.gs.length
 rv:∀d∈s.rd,∃x v,d=.tuple [.str x,v]/\aE v=true
 le:s.gs.length<=12
def GV(G:Dc):Prop:=∀x v,ao G x=some v->aE v=true
theorem nj(h:ff s.S=none):run G s=s:=by
 unfold run
 cases 12-s.gs.length with
 |zero=>rfl
 |succ f=>rw[i7,h]
theorem qg(h:s.S=asT b x r)(hk:ao G x=none):run G s=s:=by
 unfold run
 cases 12-s.gs.length with
 |zero=>rfl
 |succ f=>rw[i7,h,yg];simp only[hk]
theorem eB(h:s.S=asT b x r)(hl:s.gs.length<12)(hk:ao G x=some v):run G s=run G ⟨s.gs++[v],s.rd++cE b x v,stp r (s.gs++[v])⟩:=by
 have e:12-s.gs.length=(12-(s.gs++[v]).length)+1:=by simp;omega
 show i7 (12-s.gs.length) G s=_;rw[e,i7,h,yg];simp only[hk];rfl
theorem OkS.next{p:Bool}{n:Nat}{s:St3}{b:Bool}{x:Str}{r v:N9}(h:OkS p n s)(e:s.S=asT b x r)(hn:n<=20)(hv:aE v=true):s.gs.length<12/\OkS p n ⟨s.gs++[v],s.rd++cE b x v,stp r (s.gs++[v])⟩:=by
 have st:=h.st;rw[e] at st;generalize hS:asT b x r=S at st
 cases st with
 |md _=>cases b <;> simp[asT,mdT] at hS
 |fl _=>cases b <;> simp[asT,flT] at hS
 |@ask b' x' r' n' hp hx hg hn' hr=>
  obtain⟨rfl,rfl,rfl⟩:b=b'/\x=x'/\r=r':=by
   cases b <;> cases b' <;> simp[asT] at hS <;> simp[hS]
  have hv':∀u∈s.gs++[v],aE u=true:=fun u hu=>(Oq.mp hu).elim (h.v u) fun z=>by rw[Ov.mp z];exact hv
  obtain⟨a1,_,_⟩:=gS hr (by simp) hv' (by omega:n'<=20);refine⟨hg,hv',by have:=a1.up hn';simpa using this,?_,fun d hd=>?_,by simp;omega⟩
  .have:=h.rd
   cases b <;> simp[cE] <;> omega
  .rcases Oq.mp hd with z|z
   .exact h.rv d z
   .cases b with
    |true=>simp[cE] at z
    |false=>simp[cE] at z;exact⟨x,v,z,hv⟩
def oN(G:Dc)(S:N9):Prop:=ff S=none\/∃b x r,S=asT b x r/\ao G x=none
theorem df(h:StepOk p g n S):(∃v,S=mdT v/\aE v=true)\/(∃x,S=flT x/\isName (.str x)=true)\/∃b x r,S=asT b x r/\isName (.str x)=true:=by
 cases h with
 |md hv=>exact .inl ⟨_,rfl,hv⟩
 |fl hx=>exact .inr (.inl ⟨_,rfl,hx⟩)
 |ask _ hx _ _ _=>exact .inr (.inr ⟨_,_,_,rfl,hx⟩)
theorem fJ(hG:GV G)(hn:n<=20)(Q:St3->St3->Prop)(h0:∀s,OkS p n s->oN G s.S->Q s s)(h1:∀s b x r v,OkS p n s->s.S=asT b x r->ao G x=some v->s.gs.length<12->OkS p n ⟨s.gs++[v],s.rd++cE b x v,stp r (s.gs++[v])⟩ ->
  Q ⟨s.gs++[v],s.rd++cE b x v,stp r (s.gs++[v])⟩ (run G ⟨s.gs++[v],s.rd++cE b x v,stp r (s.gs++[v])⟩)->Q s (run G s)):∀(f:Nat) (s:St3),OkS p n s->12-s.gs.length=f->Q s (run G s)
 |f,s,h,hf=>by
  rcases df h.st with⟨v,e,_⟩|⟨x,e,_⟩|⟨b,x,r,e,_⟩
  .rw[nj (by rw[e];simp)]
   exact h0 s h (.inl (by rw[e];simp))
  .rw[nj (by rw[e];simp)]
   exact h0 s h (.inl (by rw[e];simp))
  .cases hk:ao G x with
   |none=>
    rw[qg e hk];exact h0 s h (.inr ⟨b,x,r,e,hk⟩)
   |some v=>
    obtain⟨hl,h'⟩:=h.next e hn (hG x v hk);exact h1 s b x r v h e hk hl h' (fJ hG hn Q h0 h1 (f-1) _ h' (by simp;omega))
termination_by f=>f
decreasing_by omega
theorem jF(hG:GV G)(hn:n<=20)(h:OkS p n s):OkS p n (run G s)/\oN G (run G s).S:=fJ hG hn (fun _ s'=>OkS p n s'/\oN G s'.S) (fun s h e=>⟨h,e⟩) (fun s b x r v _ e hk hl _ q=>by rw[eB e hl hk];exact q) _ s h rfl
def cm(s:St3):PyData:=.tuple [.tuple s.gs,.tuple s.rd,s.S]
theorem Gp(h:OkS p n s):bh (cm s)=true:=by
 have h1:bM s.gs=true:=kG fun d hd=>kQ (h.v d hd)
 have h2:bM s.rd=true:=kG fun d hd=>by
  obtain⟨x,v,rfl,hv⟩:=h.rv d hd;simp[bh,bM,kQ hv]
 simp[cm,bh,bM,h1,h2,Cp h.st]
theorem qv(T:Tp):eh [.d (cm ⟨gs,rd,asT b x r⟩)] T=some (.str x,T):=by cases b <;> simp[eh,cm,asT,inD,inS,b8,eqF]
theorem D4(T:Tp):eh [.d (cm ⟨gs,rd,mdT v⟩)] T=some (.none,T):=by simp[eh,cm,mdT,inD,inS,b8,eqF]
theorem D5(T:Tp):eh [.d (cm ⟨gs,rd,flT x⟩)] T=some (.none,T):=by simp[eh,cm,flT,inD,inS,b8,eqF]
theorem Ge(T:Tp)(h:OkS p n s)(e:s.S=asT b x r)(hn:n<=20)(hv:aE v=true) :
  jz [.d (cm s),.d v] T=some (cm ⟨s.gs++[v],s.rd++cE b x v,stp r (s.gs++[v])⟩,T):=by
 have st:=h.st;rw[e] at st;generalize hS:asT b x r=S at st
 cases st with
 |md _=>cases b <;> simp[asT,mdT] at hS
 |fl _=>cases b <;> simp[asT,flT] at hS
 |@ask b' x' r' n' hp hx hg hn' hr=>
  obtain⟨rfl,rfl,rfl⟩:b=b'/\x=x'/\r=r':=by
   cases b <;> cases b' <;> simp[asT] at hS <;> simp[hS]
  have hv':∀u∈s.gs++[v],aE u=true:=fun u hu=>(Oq.mp hu).elim (h.v u) fun z=>by rw[Ov.mp z];exact hv
  obtain⟨_,a2,_⟩:=gS hr (by simp) hv' (by omega:n'<=20);have st:=a2 25 T (by omega);have l1:s.gs.length+1<=sizeLine:=cY (by omega);have l2:s.rd.length+1<=sizeLine:=cY (by have:=h.rd;omega);obtain⟨gs,rd,S0⟩:=s;subst e
  cases b with
  |true=>simp[jz,cm,asT,l1,st,cE]
  |false=>simp[jz,cm,asT,l1,l2,st,cE]
def goC:FT:=(au (af inA (aq eh (ae (aa 0) ah)) (aa 1)))
def goB:FS:=(aM 0 (aq jz (ae (aa 0) (ae (af ixA (aa 1) (aq eh (ae (aa 0) ah))) ah))))
theorem Fg:kE=aP 2 (ak (bL goC goB 100000) (ay (aa 0))):=rfl
theorem BX(hG:GV G)(hn:n<=20)(T:Tp)(s:St3)(h:OkS p n s):∀m,12-s.gs.length<m->bL goC goB m [some (.d (cm s)),some (.d (.dict G))] T=some ((.nx,[some (.d (cm (run G s))),some (.d (.dict G))]),T):=by
 refine fJ hG hn (fun s s'=>∀m,12-s.gs.length<m->bL goC goB m [some (.d (cm s)),some (.d (.dict G))] T=some ((.nx,[some (.d (cm s')),some (.d (.dict G))]),T)) (fun s h e m hm=>?_) (fun s b x r v h e hk hl h' q m hm=>?_) _ s h rfl
 .obtain⟨m,rfl⟩:=br m (by omega)
  refine kP ?_;obtain⟨gs,rd,S⟩:=s
  rcases df h.st with⟨v,e1,_⟩|⟨x,e1,_⟩|⟨b,x,r,e1,_⟩
  .have e1:S=mdT v:=e1
   subst e1;simp[goC,D4,inA,inB,inK]
  .have e1:S=flT x:=e1
   subst e1;simp[goC,D5,inA,inB,inK]
  .have e1:S=asT b x r:=e1
   subst e1
   rcases e with e|⟨b',x',r',e2,hk⟩
   .simp at e
   .have:x=x':=by
     have e2:asT b x r=asT b' x' r':=e2
     cases b <;> cases b' <;> simp[asT] at e2 <;> simp[e2]
    subst this;simp[goC,qv,inA,inB,inK,hk]
 .obtain⟨m,rfl⟩:=br m (by omega)
  have gv:=Ge T h e hn (hG x v hk);rw[eB e hl hk]
  have hc:goC [some (.d (cm s)),some (.d (.dict G))] T=some (true,T):=by
   obtain⟨gs,rd,S⟩:=s;have e1:S=asT b x r:=e;subst e1;simp[goC,qv,inA,inB,inK,hk]
  have hb:goB [some (.d (cm s)),some (.d (.dict G))] T=some ((.nx,[some (.d (cm ⟨s.gs++[v],s.rd++cE b x v,stp r (s.gs++[v])⟩)),some (.d (.dict G))]),T):=by
   have aw:eh [.d (cm s)] T=some (.str x,T):=by
    obtain⟨gs,rd,S⟩:=s;have e1:S=asT b x r:=e;subst e1;exact qv T
   simp[goB,aw,ixA,hk,gv]
  rw[jE hc hb];exact q m (by simp;omega)
theorem Ie(T:Tp)(hG:GV G)(hn:n<=20)(h:OkS p n s):kE [.d (cm s),.d (.dict G)] T=some (cm (run G s),T):=by
 rw[Fg];have:=BX hG hn T s h 100000 (by omega);simp[this]
def s0(r:N9):St3:=⟨[],[],stp r []⟩
theorem cS(h:Rg p 0 n r)(hn:n<=20):OkS p n (s0 r):=by
 obtain⟨a1,_,_⟩:=gS (gs:=[]) h rfl (by simp) hn;exact⟨by simp[s0],a1,by simp[s0],by simp[s0],by simp[s0]⟩
theorem F5(T:Tp)(h:Rg p 0 n r)(hn:n<=20):ky [.d r] T=some (cm (s0 r),T):=by
 obtain⟨_,a2,_⟩:=gS (gs:=[]) h rfl (by simp) hn;simp[ky,a2 25 T (by omega),cm,s0]
def bO:N9->N9
 |.tuple [.str w,v]=>if w=Oe "made" then .tuple [.str w,stt v] else .tuple [.str w,v]
 |.tuple [_,.str x,_]=>c9 "wants" (.str x)
 |_=>.none
@[simp] theorem fL:bO (mdT v)=.tuple [.str "made",stt v]:=by simp[mdT,bO]
@[simp] theorem eU:bO (flT x)=flT x:=by simp[flT,bO]
@[simp] theorem eV:bO (asT b x r)=c9 "wants" (.str x):=rfl
def rdS:N9->N9
 |.tuple [x,v]=>.tuple [x,stt v]
 |d=>d
theorem xg(b:Bool)(x:Str)(v:N9):cE b x (stt v)=(cE b x v).map rdS:=by cases b <;> rfl
theorem EZ(T:Tp)(h:ao G x=none):eG b (.dict G) .none k x T=some (.tuple [.str "wants",.str x],T):=by
 have e:inA (.str x) (.dict G)=some (.bool false):=by show some (SG (ao G x).isSome)=_;rw[h];rfl
 have nn:isNone VA=true:=rfl;simp[eG,gK,e,nn]
theorem CQ(T:Tp)(h:ao G x=some v):eG b (.dict G) .none k x T=some (.list [v],T):=by
 have e:inA (.str x) (.dict G)=some (.bool true):=by show some (SG (ao G x).isSome)=_;rw[h];rfl
 have e2:ixA (.dict G) (.str x)=some v:=h;have nn:isNone VA=true:=rfl;simp[eG,gK,e,e2,nn]
def AtL(p:Bool)(n:Nat)(s:St3)(r:N9):Prop:=∃n',n'<=n/\Rg p s.gs.length n' r/\s.S=stp r s.gs
theorem C4(hG:GV G)(hn:n<=20)(T:Tp)(s:St3)(h:OkS p n s):∀r m o o1,AtL p n s r->(13-s.gs.length)*21<m->goL m r (.dict G) .none s.gs (s.rd.map rdS) o o1 T=some (.tuple [.list ((run G s).rd.map rdS),bO (run G s).S],T):=by
 refine fJ hG hn (fun s s'=>∀r m o o1,AtL p n s r->(13-s.gs.length)*21<m->goL m r (.dict G) .none s.gs (s.rd.map rdS) o o1 T=some (.tuple [.list (s'.rd.map rdS),bO s'.S],T)) (fun s h e r m o o1 a hm=>?_) (fun s b x r0 v h e hk hl h' q r m o o1 a hm=>?_) _ s h rfl
 .obtain⟨n',hn',hr,hs⟩:=a
  obtain⟨_,_,a3⟩:=gS hr rfl h.v (by omega);obtain⟨c1,c2,c3⟩:=a3 (.dict G) .none m (s.rd.map rdS) o o1 T (by have:=h.le;omega) (by have:=h.rd;have:=h.le;simp;omega);rw[←hs] at c1 c2 c3
  rcases df h.st with⟨v,e1,_⟩|⟨x,e1,_⟩|⟨b,x,r,e1,_⟩
  .rw[c1 v e1,e1,fL];rfl
  .rw[c2 x e1,e1,eU];rfl
  .rcases e with e|⟨b',x',r',e2,hk⟩
   .rw[e1] at e;simp at e
   .rw[(c3 b' x' r' e2).1 _ (EZ T hk),e2,eV];rfl
 .obtain⟨n',hn',hr,hs⟩:=a
  obtain⟨a1,_,a3⟩:=gS hr rfl h.v (by omega);obtain⟨_,_,c3⟩:=a3 (.dict G) .none m (s.rd.map rdS) o o1 T (by omega) (by have:=h.rd;simp;omega);rw[←hs] at c3 a1;obtain⟨m',o',o2,l,go⟩:=(c3 b x r0 e).2 v (hG x v hk) (CQ T hk);rw[go,eB e hl hk];rw[e] at a1;generalize hS:asT b x r0=S at a1
  cases a1 with
  |md _=>cases b <;> simp[asT,mdT] at hS
  |fl _=>cases b <;> simp[asT,flT] at hS
  |@ask b' x' r' n2 hp hx hg hn2 hr2=>
   obtain⟨rfl,rfl,rfl⟩:b=b'/\x=x'/\r0=r':=by
    cases b <;> cases b' <;> simp[asT] at hS <;> simp[hS]
   have:=q r0 m' o' o2 ⟨n2,by omega,by simpa using hr2,rfl⟩ (by simp;omega);rw[Pk,←xg] at this;exact this
theorem yl(T:Tp)(hG:GV G)(hn:n<=20)(h:Rg p 0 n r):gM [.d r,.d (.dict G),.d .none] T=some (.tuple [.list ((run G (s0 r)).rd.map rdS),bO (run G (s0 r)).S],T):=by
 have:=C4 hG hn T (s0 r) (cS h hn) r 100000 none none ⟨n,Ol _,h,rfl⟩ (by simp[s0]);rw[←this,uu];simp[goL,ρL,s0]
theorem BQ{ds:Dc}{x y:Str}{v:N9}:ao (ds++[(.str x,v)]) y=match ao ds y with
  |some u=>some u
  |none=>if x=y then some v else none:=by
 induction ds with
 |nil=>rfl
 |cons q r ih=>
  obtain⟨k,d⟩:=q
  cases k with
  |str k=>
   show (if k=y then some d else ao (r++[(.str x,v)]) y)=_
   by_cases h:k=y
   .rw[if_pos h]
    have:ao ((OG k,d)::r) y=some d:=if_pos h;rw[this]
   .rw[if_neg h,ih]
    have:ao ((OG k,d)::r) y=ao r y:=if_neg h;rw[this]
  |_=>exact ih
theorem BO:ao (cq ds x v) y=if x=y then (ao ds x).map (fun _=>v) else ao ds y:=by
 induction ds with
 |nil=>by_cases h:x=y <;> simp[cq,ao,h]
 |cons q r ih=>
  obtain⟨k,d⟩:=q
  cases k with
  |str k=>
   by_cases hk:k=x
   .subst hk
    have e1:cq ((OG k,d)::r) k v=(.str k,v)::cq r k v:=if_pos rfl;rw[e1]
    by_cases h:k=y
    .subst h
     simp[ao]
    .simp[ao,h,ih]
   .have e1:cq ((OG k,d)::r) x v=(.str k,d)::cq r x v:=if_neg hk
    rw[e1]
    by_cases h:x=y
    .subst h
     simp[ao,hk,ih]
    .simp[ao,h] at ih ⊢
     rw[ih]
  |_=>exact ih
theorem tM:(cq ds x v).length=ds.length:=by
 induction ds with
 |nil=>rfl
 |cons q r ih=>
  obtain⟨k,d⟩:=q
  cases k with
  |str k=>
   by_cases hk:k=x
   .have e1:cq ((OG k,d)::r) x v=(.str k,v)::cq r x v:=if_pos hk
    rw[e1,OH,OH,ih]
   .have e1:cq ((OG k,d)::r) x v=(.str k,d)::cq r x v:=if_neg hk
    rw[e1,OH,OH,ih]
  |_=>exact congrArg (· + 1) ih
theorem en:ao (putN ds x v) y=if x=y then some v else ao ds y:=by
 unfold putN
 cases h:ao ds x with
 |some u=>
  rw[if_pos (by rfl),BO,h];rfl
 |none=>
  rw[if_neg (by simp),BQ]
  by_cases hx:x=y
  .subst hx;rw[h,if_pos rfl]
  .rw[if_neg hx,if_neg hx]
   cases ao ds y <;> rfl
def Sub(G G':Dc):Prop:=∀x v,ao G x=some v->ao G' x=some v
theorem Sub.refl(G:Dc):Sub G G:=fun _ _ h=>h
theorem Sub.trans(h:Sub A B)(g:Sub B C):Sub A C:=fun x v q=>g x v (h x v q)
theorem Sub.new(h:ao G x=none):Sub G (putN G x v):=fun y u q=>by
 rw[en]
 by_cases e:x=y
 .subst e;rw[h] at q;cases q
 .rw[if_neg e];exact q
theorem mT(hs:Sub G G')(hG:GV G)(hn:n<=20)(h:OkS p n s):run G' (run G s)=run G' s:=
 fJ hG hn (fun s s'=>run G' s'=run G' s) (fun _ _ _=>rfl) (fun s b x r v _ e hk hl _ q=>by
  rw[eB e hl hk,q,eB e hl (hs x v hk)]) _ s h rfl
theorem mU(h:s.S=mdT v):run G' s=s:=nj (by rw[h];simp)
theorem mG(hs:∀x,ao G x=ao G' x)(hG:GV G)(hn:n<=20)(h:OkS p n s):run G s=run G' s:=
 fJ hG hn (fun s s'=>s'=run G' s) (fun s h e=>by
  rcases e with e|⟨b,x,r,e,hk⟩
  .exact(nj e).symm
  .rw[hs] at hk;exact(qg e hk).symm) (fun s b x r v _ e hk hl _ q=>by
  rw[eB e hl hk,q,←eB e hl (by rw[←hs];exact hk)]) _ s h rfl
structure Bk(p:Bool)(n:Nat)(D0 R0:Dc):Prop where
 dk:∀q∈D0,∃x v,q=(.str x,v)/\aE v=true
 rk:∀q∈R0,∃x r,q=(.str x,r)/\Rg p 0 n r/\ao R0 x=some r/\ao D0 x=none
 rnd:(R0.map (·.1)).Nodup
 len:D0.length+R0.length<=900
 n20:n<=20
inductive Der(D0 R0:Dc):Str->N9->Prop where
 |told {x:Str}{v:N9}:ao D0 x=some v->Der D0 R0 x v
 |made {x:Str}{v r:N9}{G:Dc}:ao R0 x=some r->GV G->(∀y u,ao G y=some u->Der D0 R0 y u)->(run G (s0 r)).S=mdT v->Der D0 R0 x v
theorem fF(h:ao ds x=some v):(.str x,v)∈ds:=by
 induction ds with
 |nil=>cases h
 |cons q r ih=>
  obtain⟨k,d⟩:=q
  cases k with
  |str k=>
   by_cases hk:k=x
   .have e:ao ((OG k,d)::r) x=some d:=if_pos hk
    rw[e] at h;cases h;rw[hk];exact Oc
   .have e:ao ((OG k,d)::r) x=ao r x:=if_neg hk
    rw[e] at h;exact Ob _ (ih h)
  |_=>exact Ob _ (ih h)
section
variable {p:Bool}{n:Nat}{D0 R0:Dc}
theorem Bk.rg(b:Bk p n D0 R0)(h:ao R0 x=some r):Rg p 0 n r/\ao D0 x=none:=by
 obtain⟨x',r',e,h1,h2,h3⟩:=b.rk _ (fF h);cases e;exact⟨h1,h3⟩
theorem Bk.gv(b:Bk p n D0 R0):GV D0:=fun x v h=>by
 obtain⟨x',v',e,h1⟩:=b.dk _ (fF h);cases e;exact h1
theorem Der.val(b:Bk p n D0 R0)(h:Der D0 R0 x v):aE v=true:=by
 cases h with
 |told h=>exact b.gv _ _ h
 |made hr hG _ e=>
  obtain⟨h1,_⟩:=jF hG b.n20 (cS (b.rg hr).1 b.n20)
  rcases df h1.st with⟨v',e1,hv⟩|⟨x,e1,_⟩|⟨b,x,r,e1,_⟩
  .rw[e1] at e
   have:v'=v:=by simpa[mdT] using e
   rw[←this];exact hv
  .rw[e1] at e;exact absurd e.symm fY
  .rw[e1] at e;cases b <;> simp[asT,mdT] at e
def Snd(D0 R0 G:Dc):Prop:=∀x v,ao G x=some v->Der D0 R0 x v
def ClsAt(R0 G:Dc)(x:Str):Prop:=∀r v,ao R0 x=some r->(run G (s0 r)).S=mdT v->ao G x=some v
theorem Snd.gv(b:Bk p n D0 R0)(h:Snd D0 R0 G):GV G:=fun x v q=>(h x v q).val b
theorem oh(b:Bk p n D0 R0)(hd:Sub D0 G)(hs:Snd D0 R0 G)(hc:∀x,ClsAt R0 G x)(h:Der D0 R0 x v):ao G x=some v:=by
 induction h with
 |told h=>exact hd _ _ h
 |made hr hG hall e ih=>
  rename_i x v r G1;refine hc x r v hr ?_;have hsub:Sub G1 G:=fun y u q=>ih y u q;have h1:=mT hsub hG b.n20 (cS (b.rg hr).1 b.n20);rw[mU e] at h1;rw[←h1];exact e
theorem BW(b:Bk p n D0 R0)(hd:Sub D0 G)(hs:Snd D0 R0 G)(hc:∀x,ClsAt R0 G x)(hd':Sub D0 G')(hs':Snd D0 R0 G')(hc':∀x,ClsAt R0 G' x)(x:Str):ao G x=ao G' x:=by
 cases h:ao G x with
 |some v=>exact(oh b hd' hs' hc' (hs x v h)).symm
 |none=>
  cases h':ao G' x with
  |none=>rfl
  |some v=>rw[oh b hd hs hc (hs' x v h')] at h;cases h
def mu(R0 G:Dc):Nat:=R0.countP fun q=>match q.1 with
 |.str x=>(ao G x).isNone
 |_=>false
theorem countP_le{α:Type}{f g:α->Bool}:∀{l:List α},(∀a∈l,g a=true->f a=true)->l.countP g<=l.countP f
 |[],_=>Ol _
 |a::r,h=>by
  have ih:=countP_le (l:=r) fun x hx=>h x (Ob _ hx);rw[Qm,Qm];have h1:=h a Oc
  cases hg:g a with
  |true=>rw[h1 hg];simp;exact ih
  |false=>simp;omega
theorem mN{α:Type}{f g:α->Bool}{a:α}:∀{l:List α},(∀a∈l,g a=true->f a=true)->a∈l->f a=true->g a=false->l.countP g<l.countP f
 |[],_,h,_,_=>by cases h
 |b::r,h,hm,hf,hg=>by
  have hr:∀x∈r,g x=true->f x=true:=fun x hx=>h x (Ob _ hx);rw[Qm,Qm]
  rcases Oy.mp hm with e|e
  .subst e
   have:=countP_le hr;rw[hf,hg];simp;omega
  .have ih:=mN hr e hf hg
   have h1:=h b Oc
   cases hb:g b with
   |true=>rw[h1 hb];simp;exact ih
   |false=>simp;omega
theorem ou(h:Sub G G'):mu R0 G'<=mu R0 G:=countP_le fun q _ hq=>by
 split at hq
 .rename_i x e
  cases hk:ao G x with
  |none=>rfl
  |some v=>rw[h x v hk] at hq;cases hq
 .cases hq
theorem yD(hr:ao R0 x=some r)(h:ao G x=none):mu R0 (putN G x v)+1<=mu R0 G:=by
 have hs:=Sub.new (v:=v) h;refine mN (a:=(.str x,r)) (fun q _ hq=>?_) (fF hr) (by simp[h]) (by simp[en]);split at hq
 .rename_i x e
  cases hk:ao G x with
  |none=>rfl
  |some v=>rw[hs x v hk] at hq;cases hq
 .cases hq
theorem kI(h:ao G x=none):(putN G x v).length=G.length+1:=by
 unfold putN;rw[h,if_neg (by simp)];simp
end
theorem CY:kq=aP 5 (ak (gW 1 (af ixD (aa 0) (fC (.int 0)))) (ak (aM 2 (fC (.bool true))) (ak (bL (aK (aa 2)) mQ 100000) (ay (aa 1))))):=rfl
theorem gn(h:b (ρ.set i (some (.d d))) T=some ((.nx,ρ'),T)):forL i b (d::r) ρ T=forL i b r ρ' T:=by
 rw[B3,h];rfl
@[simp] theorem LK:cz i fk fv ρ T=bnd (fv ρ T) fun w T1=>oo i fk ρ w T1 ρ[i]?:=rfl
@[simp] theorem KF:oo i fk ρ w T (some (some (.loc (.dict ds))))=bnd (fk ρ T) (oq i ρ ds w):=rfl
@[simp] theorem KG:oq i ρ ds (.d x) (.d (.str s)) T=if ds.length<=1000 then some ((.nx,ρ.set i (some (.loc (.dict (putN ds s x))))),T) else none:=rfl
@[simp] theorem KE:gW i f ρ T=bnd (f ρ T) fun w T1=>nQ i ρ (je (view T1 w)) T1:=rfl
@[simp] theorem Mp:je (some (.dict ds))=some ds:=rfl
@[simp] theorem Kn:nQ i ρ (some ds) T=some ((.nx,ρ.set i (some (.loc (.dict ds)))),T):=rfl
@[simp] theorem Lz:dJ i ρ T=some ((.nx,ρ.set i (some (.loc (.dict [])))),T):=rfl
@[simp] theorem Ko:gr (.str s) (.dict ds)=some (.bool (!(ao ds s).isSome)):=rfl
@[simp] theorem Md:inA (.str s) (.dict ds)=some (.bool (ao ds s).isSome):=rfl
@[simp] theorem L9:ixA (.dict ds) (.str s)=ao ds s:=rfl
@[simp] theorem KM:op2 o T (.d x) (.loc (.dict ds))=mkD T (o x (.dict ds)):=rfl
@[simp] theorem KJ:op2 o T (.loc (.dict ds)) (.d y)=mkD T (o (.dict ds) y):=rfl
@[simp] theorem KO:op1 o T (.loc (.dict ds))=mkD T (o (.dict ds)):=rfl
@[simp] theorem ev_viewLD:view T (.loc (.dict ds))=some (.dict ds):=rfl
def bkD(D0 R0:Dc):PyData:=.tuple [.dict D0,.dict R0]
def ρG(D0 R0 G:Dc)(b:Bool)(on o4:Option D.W):Rho:=[some (.d (bkD D0 R0)),some (.loc (.dict G)),some (.d (.bool b)),on,o4]
@[simp] theorem Kh:views T (.loc (.dict ds)::r)=lT (.dict ds) (views T r):=rfl
section
variable {p:Bool}{n:Nat}{D0 R0:Dc}
theorem Eh(h:StepOk p g n S):bh (bO S)=true:=by
 rcases df h with⟨v,rfl,hv⟩|⟨x,rfl,_⟩|⟨b,x,r,rfl,_⟩
 .rw[fL];simp[stt,bh,bM]
 .rw[eU];simp[flT,bh,bM]
 .rw[eV];simp[c9,bh,bM]
theorem Hw(B:Bk p n D0 R0)(hs:Snd D0 R0 G)(hr:ao R0 x=some r)(hl:G.length<=1000) :
  (∃v o,(run G (s0 r)).S=mdT v/\fG (ρG D0 R0 G b (some (.d (.str x))) o4) T=some ((.nx,ρG D0 R0 (putN G x v) true (some (.d (.str x))) o),T)) \/
  ((∀v,(run G (s0 r)).S≠mdT v)/\∃o,fG (ρG D0 R0 G b (some (.d (.str x))) o4) T=some ((.nx,ρG D0 R0 G b (some (.d (.str x))) o),T)):=by
 have hG:=hs.gv B;have lr:=yl [] hG B.n20 (B.rg hr).1;obtain⟨ok,_⟩:=jF hG B.n20 (cS (B.rg hr).1 B.n20);have te:=Eh ok.st
 rcases df ok.st with⟨v,e,hv⟩|⟨y,e,_⟩|⟨b',y,r',e,_⟩
 .refine .inl ⟨v,some (.d (.tuple [.str "made",stt v])),e,?_⟩
  rw[e] at lr te;have lk:=jq (T:=T) (T':=[]) te;have lb:=fun T=>nK (T:=T) hv;simp at lr lk;simp[fG,ρG,bkD,hr,lr,lk,lb,hl]
 .refine .inr ⟨fun v q=>fY (q.symm.trans e),some (.d (flT y)),?_⟩
  rw[e] at lr te;have lk:=jq (T:=T) (T':=[]) te;simp at lr lk;simp[fG,ρG,bkD,hr,lr,lk];simp[flT]
 .refine .inr ⟨fun v q=>by rw[e] at q;cases b' <;> simp[asT,mdT] at q,some (.d (c9 "wants" (.str y))),?_⟩
  rw[e] at lr te;have lk:=jq (T:=T) (T':=[]) te;simp at lr lk;simp[fG,ρG,bkD,hr,lr,lk];simp[c9]
def lU(R0:Dc)(k:N9):Prop:=∃x r,k=.str x/\ao R0 x=some r
theorem Snd.put(B:Bk p n D0 R0)(hs:Snd D0 R0 G)(hr:ao R0 x=some r)(e:(run G (s0 r)).S=mdT v):Snd D0 R0 (putN G x v):=fun y u q=>by
 rw[en] at q
 by_cases h:x=y
 .subst h
  rw[if_pos rfl] at q;cases q;exact .made hr (hs.gv B) hs e
 .rw[if_neg h] at q
  exact hs y u q
theorem DG(B:Bk p n D0 R0)(h:Der D0 R0 x v):∀u,Der D0 R0 x u->v=u:=by
 induction h with
 |told h=>
  intro u hu
  cases hu with
  |told h'=>rw[h] at h';cases h';rfl
  |made hr _ _ _=>rw[(B.rg hr).2] at h;cases h
 |made hr hG hall e ih=>
  rename_i x v r G1;intro u hu
  cases hu with
  |told h'=>rw[(B.rg hr).2] at h';cases h'
  |made hr' hG' hall' e'=>
   rename_i r' G2;rw[hr] at hr';cases hr'
   have key:∀(s:St3),OkS p n s->∀v u,(run G1 s).S=mdT v->(run G2 s).S=mdT u->v=u:=fun s hs=>by
    refine fJ hG B.n20 (fun s s'=>∀v u,s'.S=mdT v->(run G2 s).S=mdT u->v=u) (fun s h st v u e1 e2=>?_) (fun s b x r w h e hk hl h' q v u e1 e2=>?_) _ s hs rfl
    .rw[mU e1,e1] at e2
     simpa[mdT] using e2
    .rw[eB e hl hk] at e1
     cases hk2:ao G2 x with
     |none=>rw[qg e hk2,e] at e2;cases b <;> simp[asT,mdT] at e2
     |some w'=>
      have:w=w':=ih x w hk w' (hall' x w' hk2);subst this;rw[eB e hl hk2] at e2;exact q v u e1 e2
   exact key _ (cS (B.rg hr).1 B.n20) v u e e'
theorem tT(B:Bk p n D0 R0)(hs:Snd D0 R0 G)(hr:ao R0 x=some r)(h:ao G x=some v)(e:(run G (s0 r)).S=mdT u):v=u:=DG B (hs x v h) u (.made hr (hs.gv B) hs e)
theorem rJ(B:Bk p n D0 R0):∀(ks:List N9) (G:Dc) (b:Bool) (on o4:Option D.W),(∀k∈ks,lU R0 k)->ks.Nodup->(∀x,.str x∈ks->ao G x=none)->Snd D0 R0 G->G.length+mu R0 G<=900 ->
  ∃G' b' on' o4',forL 3 fG ks (ρG D0 R0 G b on o4) T=some ((.nx,ρG D0 R0 G' b' on' o4'),T)/\Snd D0 R0 G'/\Sub G G'/\G'.length+mu R0 G'<=900/\(b'=false->b=false/\G'=G/\∀x,.str x∈ks->ClsAt R0 G x)/\(b'=true->b=true\/mu R0 G' < mu R0 G)
 |[],G,b,on,o4,_,_,_,hs,hl=>⟨G,b,on,o4,by simp[forL],hs,.refl G,hl,fun e=>⟨e,rfl,fun x h=>by cases h⟩,fun e=>.inl e⟩
 |k::ks,G,b,on,o4,hk,nd,hno,hs,hl=>by
  obtain⟨x,r,rfl,hr⟩:=hk _ Oc;obtain⟨nd1,nd2⟩:=OR.mp nd;have hk':∀k∈ks,lU R0 k:=fun k h=>hk k (Ob _ h);have st:∀{ρ':Rho},fG (ρG D0 R0 G b (some (.d (.str x))) o4) T=some ((.nx,ρ'),T)->forL 3 fG (.str x::ks) (ρG D0 R0 G b on o4) T=forL 3 fG ks ρ' T:=fun h=>gn h;have h:ao G x=none:=hno x Oc
  rcases Hw B (b:=b) (o4:=o4) (T:=T) hs hr (by omega) with⟨v,o,e,go⟩|⟨ne,o,go⟩
  .rw[st go]
   have m1:=yD (v:=v) hr h;have l1:=kI (v:=v) h
   obtain⟨G',b',on',o4',e1,e2,e3,e4,e5,e6⟩:=rJ B ks (putN G x v) true (some (.d (.str x))) o hk' nd2 (fun y hy=>by
    rw[en,if_neg (fun z=>nd1 (by rw[z];exact hy))]
    exact hno y (Ob _ hy)) (hs.put B hr e) (by omega)
   refine⟨G',b',on',o4',e1,e2,(Sub.new h).trans e3,e4,fun q=>?_,fun q=>?_⟩
   .obtain⟨q1,_⟩:=e5 q
    cases q1
   .have:=ou (R0:=R0) e3
    exact .inr (by omega)
  .rw[st go]
   obtain⟨G',b',on',o4',e1,e2,e3,e4,e5,e6⟩:=rJ B ks G b (some (.d (.str x))) o hk' nd2 (fun y hy=>hno y (Ob _ hy)) hs hl;refine⟨G',b',on',o4',e1,e2,e3,e4,fun q=>?_,e6⟩;obtain⟨q1,q2,q3⟩:=e5 q;refine⟨q1,q2,fun y hy=>?_⟩
   rcases Oy.mp hy with z|z
   .cases z
    intro r' v' hr' e;rw[hr] at hr';cases hr';exact absurd e (ne v')
   .exact q3 y z
theorem qK(B:Bk p n D0 R0):∀k∈R0.map (·.1),lU R0 k:=fun k hk=>by
 obtain⟨q,hq,rfl⟩:=Ot.mp hk;obtain⟨x,r,rfl,_,h,_⟩:=B.rk q hq;exact⟨x,r,rfl,h⟩
theorem rG(h:ao R0 x=some r):OG x∈R0.map (·.1):=Ot.mpr ⟨_,fF h,rfl⟩
theorem xt(G:Dc):mu R0 G<=R0.length:=TV
def j8(G:Dc):N9->Bool
 |.str x=>!(ao G x).isSome
 |_=>false
theorem Fh(B:Bk p n D0 R0):bT (au (af gr (aa 0) (aa 2))) (aa 0) (ρG D0 R0 G b on o4) (R0.map (·.1)) T=some ((R0.map (·.1)).filter (j8 G),T):=gf fun d hd=>by
 obtain⟨x,r,rfl,_⟩:=qK B d hd;simp[ρG,j8]
theorem vh(B:Bk p n D0 R0):∀(m:Nat) (G:Dc) (on o4:Option D.W),mu R0 G+1<m->Snd D0 R0 G->G.length+mu R0 G<=900 ->
  ∃G' on' o4',bL (aK (aa 2)) mQ m (ρG D0 R0 G true on o4) T=some ((.nx,ρG D0 R0 G' false on' o4'),T)/\Snd D0 R0 G'/\Sub G G'/\∀x,ClsAt R0 G' x
 |0,G,on,o4,h,_,_=>by omega
 |m+1,G,on,o4,h,hs,hl=>by
  have nd:((R0.map (·.1)).filter (j8 G)).Nodup:=W1 _ B.rnd
  obtain⟨G',b',on',o4',e1,e2,e3,e4,e5,e6⟩:=rJ B (T:=T) ((R0.map (·.1)).filter (j8 G)) G false on o4 (fun k hk=>qK B k (Pg.mp hk).1) nd (fun x hx=>by
   have:=(Pg.mp hx).2
   simpa[j8] using this) hs hl
  have hc:∀b G on o4,aK (aa 2) (ρG D0 R0 G b on o4) T=some (b,T):=fun b G on o4=>by simp[ρG]
  have cp:=Fh B (G:=G) (b:=false) (on:=on) (o4:=o4) (T:=T)
  have hb:mQ (ρG D0 R0 G true on o4) T=some ((.nx,ρG D0 R0 G' b' on' o4'),T):=by
   simp[ρG] at e1 cp;simp[mQ,ρG,bkD] at e1 cp ⊢;simp[cp,e1]
  rw[jE (hc _ _ _ _) hb]
  cases b' with
  |false=>
   obtain⟨_,q2,q3⟩:=e5 rfl;obtain⟨m,rfl⟩:=br m (by omega);rw[kP (hc _ _ _ _)];refine⟨G',on',o4',rfl,e2,e3,fun x r v hr e=>?_⟩;rw[q2] at e ⊢
   cases hk:ao G x with
   |none=>
    have:=q3 x (Pg.mpr ⟨rG hr,by simp[j8,hk]⟩) r v hr e;rw[hk] at this;cases this
   |some u=>rw[tT B hs hr hk e]
  |true=>
   have hm:=(e6 rfl).resolve_left (by simp);obtain⟨G2,on2,o42,f1,f2,f3,f4⟩:=vh B m G' on' o4' (by omega) e2 e4;exact⟨G2,on2,o42,f1,f2,e3.trans f3,f4⟩
theorem zm(B:Bk p n D0 R0):Snd D0 R0 D0:=fun _ _ h=>.told h
theorem Gc(B:Bk p n D0 R0)(T:Tp):∃G,kq [.d (bkD D0 R0)] T=some (.dict G,T)/\Snd D0 R0 G/\Sub D0 G/\∀x,ClsAt R0 G x:=by
 have hl:=B.len;have hm:=xt (R0:=R0) D0;obtain⟨G,on,o4,e1,e2,e3,e4⟩:=vh B (T:=T) 100000 D0 none none (by omega) (zm B) (by omega);refine⟨G,?_,e2,e3,e4⟩;rw[CY];simp[ρG] at e1;simp[bkD] at e1 ⊢;rw[e1];simp
end
def mdS:FS:=(cz 2 (aa 3) (aq ky (ae (aa 4) ah)))
def mdI:FS:=(ak (cz 2 (aa 3) (d0 (aq kE (ae (af ixA (aa 2) (aa 3)) (ae (aa 1) ah))))) (fIf (au (af eqD (af ixD (af ixD (af ixA (aa 2) (aa 3)) (fC (.int 2))) (fC (.int 0))) (fC (.str "made")))) (cz 1 (aa 3) (af ixD (af ixD (af ixA (aa 2) (aa 3)) (fC (.int 2))) (fC (.int 1)))) aH))
def mdB:FS:=(ak (aM 6 (fCB aT (ae (aa 1) ah))) (ak (cA 3 (aW (af ixD (aa 0) (fC (.int 1)))) mdI) (aM 5 (af gtD (fCB aT (ae (aa 1) ah)) (aa 6)))))
theorem E2:ml=aP 7 (ak (gW 1 (af ixD (aa 0) (fC (.int 0)))) (ak (dJ 2) (ak (oF 3 4 (af ixD (aa 0) (fC (.int 1))) mdS) (ak (aM 5 (fC (.bool true))) (ak (bL (aK (aa 5)) mdB 100000) (ay (aC .tuple (ae (aa 1) (ae (aa 2) ah))))))))):=rfl
def nm:N9->Str
 |.str x=>x
 |_=>Oe ""
def cmL(R0:Dc)(st:Str->St3):Dc:=R0.map fun q=>(q.1,cm (st (nm q.1)))
def cN(st:Str->St3)(x:Str)(s:St3):Str->St3:=fun y=>if y=x then s else st y
section
variable {p:Bool}{n:Nat}{D0 R0:Dc}
theorem oi{st:Str->St3}:ao (cmL R0 st) x=(ao R0 x).map fun _=>cm (st x):=by
 induction R0 with
 |nil=>rfl
 |cons q r ih=>
  obtain⟨k,d⟩:=q
  cases k with
  |str k=>
   by_cases hk:k=x
   .subst hk
    simp[cmL,ao,nm]
   .have:=ih
    simp[cmL] at this;simp[cmL,ao,hk,this]
  |_=>exact ih
theorem FZ{st:Str->St3}:(cmL R0 st).length=R0.length:=by simp[cmL]
theorem FY{st:Str->St3}(hk:∀q∈R0,∃y r,q=(OG y,r)):cq (cmL R0 st) x (cm s)=cmL R0 (cN st x s):=by
 induction R0 with
 |nil=>rfl
 |cons q r ih=>
  obtain⟨y,d,rfl⟩:=hk q Oc;have ih':=ih fun q hq=>hk q (Ob _ hq);have e:cmL ((OG y,d)::r) st=(.str y,cm (st y))::cmL r st:=rfl;have e2:cmL ((OG y,d)::r) (cN st x s)=(.str y,cm (cN st x s y))::cmL r (cN st x s):=rfl;rw[e,e2,←ih']
  by_cases h:y=x
  .have e3:cq ((OG y,cm (st y))::cmL r st) x (cm s)=(.str y,cm s)::cq (cmL r st) x (cm s):=if_pos h
   rw[e3];simp[cN,h]
  .have e3:cq ((OG y,cm (st y))::cmL r st) x (cm s)=(.str y,cm (st y))::cq (cmL r st) x (cm s):=if_neg h
   rw[e3];simp[cN,h]
theorem DR(B:Bk p n D0 R0){st:Str->St3}(h:ao R0 x=some r):putN (cmL R0 st) x (cm s)=cmL R0 (cN st x s):=by
 unfold putN;rw[oi,h,if_pos (by rfl)]
 exact FY fun q hq=>by
  obtain⟨y,r,e,_⟩:=B.rk q hq;exact⟨y,r,e⟩
def ρM(D0 R0 G:Dc)(st:Str->St3)(on o4 o5 o6:Option D.W):Rho:=[some (.d (bkD D0 R0)),some (.loc (.dict G)),some (.loc (.dict (cmL R0 st))),on,o4,o5,o6]
def SI(R0 G:Dc)(st:Str->St3):Prop:=∀x r,ao R0 x=some r->∃G1,Sub G1 G/\GV G1/\st x=run G1 (s0 r)
theorem SI.sub{st:Str->St3}(h:SI R0 G st)(hs:Sub G G'):SI R0 G' st:=fun x r hr=>by
 obtain⟨G1,h1,h2,h3⟩:=h x r hr;exact⟨G1,h1.trans hs,h2,h3⟩
theorem SI.go(B:Bk p n D0 R0){st:Str->St3}(h:SI R0 G st)(hr:ao R0 x=some r):OkS p n (st x)/\run G (st x)=run G (s0 r):=by
 obtain⟨G1,h1,h2,h3⟩:=h x r hr;have ok:=cS (B.rg hr).1 B.n20;rw[h3];exact⟨(jF h2 B.n20 ok).1,mT h1 h2 B.n20 ok⟩
theorem SI.upd(B:Bk p n D0 R0){st:Str->St3}(h:SI R0 G st)(hG:GV G)(hr:ao R0 x=some r):SI R0 G (cN st x (run G (s0 r))):=fun y r' hr'=>by
 by_cases e:y=x
 .subst e
  rw[hr] at hr';cases hr';exact⟨G,.refl G,hG,by simp[cN]⟩
 .obtain⟨G1,h1,h2,h3⟩:=h y r' hr'
  exact⟨G1,h1,h2,by simp[cN,e];exact h3⟩
theorem Ha(B:Bk p n D0 R0){G:Dc}{st:Str->St3}(hs:Snd D0 R0 G)(hi:SI R0 G st)(hr:ao R0 x=some r)(hl:G.length<=1000) :
  (∃v,(run G (s0 r)).S=mdT v/\mdI (ρM D0 R0 G st (some (.d (.str x))) o4 o5 o6) T=some ((.nx,ρM D0 R0 (putN G x v) (cN st x (run G (s0 r))) (some (.d (.str x))) o4 o5 o6),T)) \/
  ((∀v,(run G (s0 r)).S≠mdT v)/\mdI (ρM D0 R0 G st (some (.d (.str x))) o4 o5 o6) T=some ((.nx,ρM D0 R0 G (cN st x (run G (s0 r))) (some (.d (.str x))) o4 o5 o6),T)):=by
 have hG:=hs.gv B;obtain⟨ok,er⟩:=hi.go B hr;obtain⟨ok2,_⟩:=jF hG B.n20 (cS (B.rg hr).1 B.n20);have lg:=Ie [] hG B.n20 ok;rw[er] at lg;have lk:=jq (T:=T) (T':=[]) (Gp ok2)
 have c1:ao (cmL R0 st) x=some (cm (st x)):=by rw[oi,hr];rfl
 have c2:=DR B (st:=st) (s:=run G (s0 r)) hr
 have c3:ao (cmL R0 (cN st x (run G (s0 r)))) x=some (cm (run G (s0 r))):=by rw[oi,hr];simp[cN]
 have l2:(cmL R0 st).length<=1000:=by rw[FZ];have:=B.len;omega
 have e2:∀s:St3,ixD (cm s) (.int 2)=some s.S:=fun s=>rfl;generalize hs':run G (s0 r)=s' at *
 rcases df ok2.st with⟨v,e,hv⟩|⟨y,e,_⟩|⟨b',y,r',e,_⟩
 .refine .inl ⟨v,e,?_⟩
  simp[mdI,ρM,c1,lg,lk,c2,l2,c3,e2,e,mdT,hl]
 .refine .inr ⟨fun v q=>fY (q.symm.trans e),?_⟩
  simp[mdI,ρM,c1,lg,lk,c2,l2,c3,e2,e,flT]
 .refine .inr ⟨fun v q=>by rw[e] at q;cases b' <;> simp[asT,mdT] at q,?_⟩
  cases b' <;> simp[mdI,ρM,c1,lg,lk,c2,l2,c3,e2,e,asT]
end
@[simp] theorem KU:aT [.dict ds]=some (.int ds.length):=rfl
section
variable {p:Bool}{n:Nat}{D0 R0:Dc}
theorem Cw(h:ao G x=some v):(∀y,ao (putN G x v) y=ao G y)/\(putN G x v).length=G.length:=by
 refine⟨fun y=>?_,?_⟩
 .rw[en]
  by_cases e:x=y
  .subst e;rw[if_pos rfl,h]
  .rw[if_neg e]
 .unfold putN
  rw[h,if_pos (by rfl),tM]
theorem Sub.of(h:∀y,ao G' y=ao G y):Sub G G':=fun x v q=>by rw[h];exact q
structure Rnd(D0 R0:Dc)(ks:List N9)(G:Dc)(st:Str->St3)(G':Dc)(st':Str->St3):Prop where
 snd:Snd D0 R0 G'
 sub:Sub G G'
 si:SI R0 G' st'
 bd:G'.length+mu R0 G'<=900
 le:G.length<=G'.length
 lt:G.length<G'.length->mu R0 G' < mu R0 G
 same:G'.length=G.length->(∀y,ao G' y=ao G y)/\(∀x r,.str x∈ks->ao R0 x=some r->st' x=run G (s0 r)/\ClsAt R0 G x)/\∀x,.str x∉ks->st' x=st x
theorem xw(B:Bk p n D0 R0):∀(ks:List N9) (G:Dc) (st:Str->St3) (on:Option D.W),(∀k∈ks,lU R0 k)->Snd D0 R0 G->SI R0 G st->G.length+mu R0 G<=900 ->
  ∃G' st' on',forL 3 mdI ks (ρM D0 R0 G st on o4 o5 o6) T=some ((.nx,ρM D0 R0 G' st' on' o4 o5 o6),T)/\Rnd D0 R0 ks G st G' st'
 |[],G,st,on,_,hs,hi,hl=>⟨G,st,on,by simp[forL],hs,.refl G,hi,hl,Ol _,fun h=>absurd h (PQ _),fun _=>⟨fun _=>rfl,fun x r h=>(by cases h),fun _ _=>rfl⟩⟩
 |k::ks,G,st,on,hk,hs,hi,hl=>by
  obtain⟨x,r,rfl,hr⟩:=hk _ Oc;have hk':∀k∈ks,lU R0 k:=fun k h=>hk k (Ob _ h);have hG:=hs.gv B;have st0:∀{ρ':Rho},mdI (ρM D0 R0 G st (some (.d (.str x))) o4 o5 o6) T=some ((.nx,ρ'),T)->forL 3 mdI (.str x::ks) (ρM D0 R0 G st on o4 o5 o6) T=forL 3 mdI ks ρ' T:=fun h=>gn h
  have fin:∀(G1:Dc),Snd D0 R0 G1->Sub G G1->G1.length+mu R0 G1<=900->G.length<=G1.length->(G.length<G1.length->mu R0 G1<mu R0 G)->(G1.length=G.length->(∀y,ao G1 y=ao G y)/\ClsAt R0 G x)->SI R0 G1 (cN st x (run G (s0 r))) ->
    ∃G' st' on',forL 3 mdI ks (ρM D0 R0 G1 (cN st x (run G (s0 r))) (some (.d (.str x))) o4 o5 o6) T=some ((.nx,ρM D0 R0 G' st' on' o4 o5 o6),T)/\Rnd D0 R0 (.str x::ks) G st G' st':=by
   intro G1 h1 h2 h3 h4 h5 h6 h7;obtain⟨G',st',on',e1,R⟩:=xw B (T:=T) (o4:=o4) (o5:=o5) (o6:=o6) ks G1 (cN st x (run G (s0 r))) (some (.d (.str x))) hk' h1 h7 h3;refine⟨G',st',on',e1,R.snd,h2.trans R.sub,R.si,R.bd,OX h4 R.le,fun h=>?_,fun h=>?_⟩
   .have m1:=ou (R0:=R0) R.sub
    have m2:=ou (R0:=R0) h2
    by_cases c:G.length<G1.length
    .have:=h5 c;omega
    .have:=R.lt (by omega);omega
   .have c1:G1.length=G.length:=by have:=R.le;omega
    obtain⟨q1,q2⟩:=h6 c1;obtain⟨r1,r2,r3⟩:=R.same (by omega);have same:∀r',ao R0 x=some r'\/True->True:=fun _ _=>trivial;refine⟨fun y=>(r1 y).trans (q1 y),fun y r' hy hr'=>?_,fun y hy=>?_⟩
    .by_cases hy2:OG y∈ks
     .obtain⟨a1,a2⟩:=r2 y r' hy2 hr'
      have cg:=mG q1 (h1.gv B) B.n20 (cS (B.rg hr').1 B.n20);refine⟨by rw[a1,cg],fun r2' v hr2 e=>?_⟩;rw[hr'] at hr2;cases hr2;rw[←q1];exact a2 r' v hr' (by rw[cg];exact e)
     .have hxy:y=x:=by
       rcases Oy.mp hy with z|z
       .cases z;rfl
       .exact absurd z hy2
      subst hxy;rw[hr] at hr';cases hr';exact⟨by rw[r3 y hy2];simp[cN],q2⟩
    .have n1:OG y∉ks:=fun z=>hy (Ob _ z)
     have n2:¬y=x:=fun z=>hy (by rw[z];exact Oc);rw[r3 y n1];simp[cN,n2]
  rcases Ha B (T:=T) (o4:=o4) (o5:=o5) (o6:=o6) hs hi hr (by omega) with⟨v,e,go⟩|⟨ne,go⟩
  .rw[st0 go]
   have sp:=hs.put B hr e
   cases h:ao G x with
   |none=>
    have m1:=yD (v:=v) hr h;have l1:=kI (v:=v) h;have sb:=Sub.new (v:=v) h;exact fin (putN G x v) sp sb (by omega) (by omega) (fun _=>by omega) (fun c=>by omega) ((hi.upd B hG hr).sub sb)
   |some u=>
    have:=tT B hs hr h e;subst this;obtain⟨o1,o2⟩:=Cw h;have sb:=Sub.of o1;have m1:=ou (R0:=R0) sb;refine fin (putN G x u) sp sb (by omega) (by omega) (fun c=>by omega) (fun _=>⟨o1,fun r' v' hr' e'=>?_⟩) ((hi.upd B hG hr).sub sb);rw[hr] at hr';cases hr';rw[e] at e'
    have:u=v':=by simpa[mdT] using e'
    rw[←this];exact h
  .rw[st0 go]
   exact fin G hs (.refl G) hl (Ol _) (fun c=>absurd c (PQ _)) (fun _=>⟨fun _=>rfl,fun r' v' hr' e'=>by
    rw[hr] at hr';cases hr'
    exact absurd e' (ne v')⟩) (hi.upd B hG hr)
theorem vc(B:Bk p n D0 R0):∀(m:Nat) (G:Dc) (st:Str->St3) (on o4 o6:Option D.W),mu R0 G+1<m->Snd D0 R0 G->SI R0 G st->G.length+mu R0 G<=900 ->
  ∃G' st' on' o5' o6',bL (aK (aa 5)) mdB m (ρM D0 R0 G st on o4 (some (.d (.bool true))) o6) T=some ((.nx,ρM D0 R0 G' st' on' o4 o5' o6'),T)/\Snd D0 R0 G'/\Sub G G'/\(∀x,ClsAt R0 G' x)/\∀x r,ao R0 x=some r->st' x=run G' (s0 r)
 |0,G,st,on,o4,o6,h,_,_,_=>by omega
 |m+1,G,st,on,o4,o6,h,hs,hi,hl=>by
  obtain⟨G',st',on',e1,R⟩:=xw B (T:=T) (o4:=o4) (o5:=some (.d (.bool true))) (o6:=some (.d (.int G.length))) (R0.map (·.1)) G st on (qK B) hs hi hl
  have hc:∀b G st on o4 o6,aK (aa 5) (ρM D0 R0 G st on o4 (some (.d (.bool b))) o6) T=some (b,T):=fun b G st on o4 o6=>by simp[ρM]
  have hb:mdB (ρM D0 R0 G st on o4 (some (.d (.bool true))) o6) T=some ((.nx,ρM D0 R0 G' st' on' o4 (some (.d (.bool (decide (G.length<G'.length))))) (some (.d (.int G.length)))),T):=by
   simp only[ρM,bkD] at e1;simp[mdB,ρM,bkD,e1]
  rw[jE (hc _ _ _ _ _ _) hb]
  by_cases c:G.length<G'.length
  .rw[decide_eq_true c]
   have:=R.lt c;obtain⟨G2,st2,on2,o52,o62,f1,f2,f3,f4,f5⟩:=vc B (T:=T) m G' st' on' o4 (some (.d (.int G.length))) (by omega) R.snd R.si R.bd;exact⟨G2,st2,on2,o52,o62,f1,f2,R.sub.trans f3,f4,f5⟩
  .rw[decide_eq_false c]
   obtain⟨m,rfl⟩:=br m (by omega);rw[kP (hc _ _ _ _ _ _)];obtain⟨q1,q2,_⟩:=R.same (by have:=R.le;omega);refine⟨G',st',on',_,_,rfl,R.snd,R.sub,fun x r v hr e=>?_,fun x r hr=>?_⟩
   .have cg:=mG q1 (R.snd.gv B) B.n20 (cS (B.rg hr).1 B.n20)
    rw[q1];exact(q2 x r (rG hr) hr).2 r v hr (by rw[←cg];exact e)
   .have cg:=mG q1 (R.snd.gv B) B.n20 (cS (B.rg hr).1 B.n20)
    rw[(q2 x r (rG hr) hr).1,cg]
theorem ve(h:OG x∉ds.map (·.1)):ao ds x=none:=by
 cases e:ao ds x with
 |none=>rfl
 |some v=>exact absurd (Ot.mpr ⟨_,fF e,rfl⟩) h
def fq(q:N9×N9):N9×PyData:=(q.1,cm (s0 q.2))
def ρ0(D0 R0:Dc)(c:Dc)(on o4:Option D.W):Rho:=[some (.d (bkD D0 R0)),some (.loc (.dict D0)),some (.loc (.dict c)),on,o4,none,none]
theorem Fj(h:b ((ρ.set i (some (.d d.1))).set j (some (.d d.2))) T=some ((.nx,ρ'),T)):f7 i j b (d::r) ρ T=f7 i j b r ρ' T:=by
 show bnd (b ((ρ.set i (some (.d d.1))).set j (some (.d d.2))) T) _=_;rw[h];rfl
theorem v9(B:Bk p n D0 R0):∀(rest P:Dc) (on o4:Option D.W),R0=P++rest->∃on' o4',f7 3 4 mdS rest (ρ0 D0 R0 (P.map fq) on o4) T=some ((.nx,ρ0 D0 R0 (R0.map fq) on' o4'),T)
 |[],P,on,o4,e=>⟨on,o4,by rw[e];simp[f7]⟩
 |q::rest,P,on,o4,e=>by
  have hq:q∈R0:=by rw[e];simp
  obtain⟨x,r,rfl,hr,hk,_⟩:=B.rk q hq;have ls:=F5 T hr B.n20
  have nk:ao (P.map fq) x=none:=ve fun z=>by
   have nd:=B.rnd;rw[e,Pk,Pl] at nd;obtain⟨q,hq1,hq2⟩:=Ot.mp z;obtain⟨q',hq3,rfl⟩:=Ot.mp hq1;exact nd.2.2 q'.1 (Ot.mpr ⟨q',hq3,rfl⟩) (.str x) (by simp) hq2
  have pn:putN (P.map fq) x (cm (s0 r))=(P++[(OG x,r)]).map fq:=by
   unfold putN;rw[nk,if_neg (by simp)];simp[fq]
  have pl:(P.map fq).length<=1000:=by
   have:=B.len
   have e2:R0.length=P.length+(rest.length+1):=by rw[e];simp
   simp;omega
  have st:mdS (((ρ0 D0 R0 (P.map fq) on o4).set 3 (some (.d (.str x)))).set 4 (some (.d r))) T=some ((.nx,ρ0 D0 R0 ((P++[(OG x,r)]).map fq) (some (.d (.str x))) (some (.d r))),T):=by
   rw[←pn];simp at pl;simp[mdS,ρ0,ls,pl]
  rw[Fj st];exact v9 B rest (P++[(.str x,r)]) _ _ (by rw[e];simp)
def stI(R0:Dc)(x:Str):St3:=match ao R0 x with
 |some r=>s0 r
 |none=>⟨[],[],.none⟩
theorem Fd(B:Bk p n D0 R0):R0.map fq=cmL R0 (stI R0):=by
 unfold cmL;refine O4 fun q hq=>?_;obtain⟨x,r,rfl,_,hk,_⟩:=B.rk q hq;simp[fq,nm,stI,hk]
theorem Es(s:St3):run [] s=s:=by
 unfold run
 cases 12-s.gs.length with
 |zero=>rfl
 |succ f=>
  rw[i7]
  cases ff s.S with
  |none=>rfl
  |some q=>rfl
theorem Eo:SI R0 D0 (stI R0):=fun x r hr=>⟨[],fun y v h=>(by cases h),fun y v h=>(by cases h),by simp[stI,hr,Es]⟩
theorem H8(B:Bk p n D0 R0)(T:Tp):∃G st,ml [.d (bkD D0 R0)] T=some (.tuple [.dict G,.dict (cmL R0 st)],T)/\Snd D0 R0 G/\Sub D0 G/\(∀x,ClsAt R0 G x)/\∀x r,ao R0 x=some r->st x=run G (s0 r):=by
 have hl:=B.len;have hm:=xt (R0:=R0) D0;obtain⟨on,o4,i1⟩:=v9 B (T:=T) R0 [] none none rfl;obtain⟨G,st,on',o5,o6,e1,e2,e3,e4,e5⟩:=vc B (T:=T) 100000 D0 (stI R0) on o4 none (by omega) (zm B) Eo (by omega);refine⟨G,st,?_,e2,e3,e4,e5⟩;rw[Fd B] at i1;rw[E2];simp only[ρ0,bkD] at i1;simp only[ρM,bkD] at e1;have fi:∀ρ T,oF 3 4 (af ixD (aa 0) (fC (.int 1))) mdS ρ T=bnd (af ixD (aa 0) (fC (.int 1)) ρ T) (oE 3 4 mdS ρ):=fun _ _=>rfl;have fk:∀ρ T,oE 3 4 mdS ρ (.d (.dict R0)) T=f7 3 4 mdS R0 ρ T:=fun _ _=>rfl;simp[bkD,fi,fk];simp at i1;simp[i1,e1]
end
def nmL(ps:List Str):List PyData:=ps.map OG
theorem C9(ps:List Str)(x:Str):inS (.str x) (.list (nmL ps))=some (decide (x∈ps)):=by
 have h1:(nmL ps).all b8=true:=by
  rw[Oz];intro d hd;obtain⟨y,_,rfl⟩:=Ot.mp hd;rfl
 have h2:((nmL ps).any fun y=>eqF y (.str x))=decide (x∈ps):=by
  rw[PJ,P8,decide_eq_true_eq];constructor
  .rintro⟨d,hd,e⟩
   obtain⟨y,hy,rfl⟩:=Ot.mp hd
   have:y=x:=by simpa[eqF] using e
   rw[←this];exact hy
  .intro hx
   exact⟨.str x,Ot.mpr ⟨x,hx,rfl⟩,by simp[eqF]⟩
 show (if (b8 (.str x)&&(nmL ps).all b8)=true then some ((nmL ps).any fun y=>eqF y (.str x)) else none)=_;rw[h1,if_pos (by rfl),h2]
theorem tj(ps:List Str)(x:Str):di (.str x) (.list (nmL ps))=some (.bool (!(decide (x∈ps)))):=by
 unfold di;rw[C9];rfl
def Ji(w:String)(ps:List Str):PyData:=.tuple [.str (Oe w),.tuple (nmL ps)]
def Js(ps:List Str)(w:Str):PyData:=.tuple [.str "fails",.tuple (nmL ps),.str w]
def ln(x:Str)(s:St3):PyData:=.tuple [.str x,.tuple (s.rd.map rdS),bO s.S]
def stG(R0 G:Dc)(x:Str):St3:=run G (s0 ((ao R0 x).getD .none))
def lnG(R0 G:Dc)(x:Str):PyData:=ln x (stG R0 G x)
section
variable {p:Bool}{n:Nat}{D0 R0:Dc}
theorem gT(h:ao R0 x=some r):stG R0 G x=run G (s0 r):=by
 unfold stG;rw[h];rfl
theorem Ga(B:Bk p n D0 R0)(hG:GV G)(hr:ao R0 x=some r)(T:Tp):km [.d (bkD D0 R0),.d (.dict G),.d (.str x)] T=some (lnG R0 G x,T):=by
 have e:=yl T hG B.n20 (B.rg hr).1;rw[←gT (G:=G) hr] at e;have i1:ixD (bkD D0 R0) (.int 1)=some (.dict R0):=rfl;simp[km,i1,hr,e,l6,D.dA,lnG,ln]
inductive ResR:N9->Prop where
 |two {w:String}{ps:List Str}:ps.length<=1000->ResR (Ji w ps)
 |fail {ps:List Str}{w:Str}:ps.length<=1000->ResR (Js ps w)
theorem ug(hG:GV G)(hn:n<=20)(h:OkS p n s):∀d∈(run G s).rd,d∈s.rd\/∃z v,d=.tuple [.str z,v]/\ao G z=some v:=
 fJ hG hn (fun s s'=>∀d∈s'.rd,d∈s.rd\/∃z v,d=.tuple [.str z,v]/\ao G z=some v) (fun s _ _ d hd=>.inl hd) (fun s b x r v _ e hk hl _ q d hd=>by
  rw[eB e hl hk] at hd
  rcases q d hd with z|z
  .rcases Oq.mp z with z|z
   .exact .inl z
   .cases b with
    |true=>cases z
    |false=>exact .inr ⟨x,v,Ov.mp z,hk⟩
  .exact .inr z) _ s h rfl
theorem De(B:Bk p n D0 R0)(hd:Sub D0 G)(hs:Snd D0 R0 G)(hc:∀x,ClsAt R0 G x)(hr:ao R0 x=some r)(h:ao G x=some v) :
  ∃G1,GV G1/\(∀y u,ao G1 y=some u->Der D0 R0 y u)/\run G (s0 r)=run G1 (s0 r)/\(run G (s0 r)).S=mdT v:=by
 have d:=hs x v h
 cases d with
 |told z=>rw[(B.rg hr).2] at z;cases z
 |made hr' hG1 hall e=>
  rename_i r' G1;rw[hr] at hr';cases hr';have hsub:Sub G1 G:=fun y u q=>oh B hd hs hc (hall y u q);have h1:=mT hsub hG1 B.n20 (cS (B.rg hr).1 B.n20);rw[mU e] at h1;exact⟨G1,hG1,hall,h1.symm,by rw[←h1];exact e⟩
end
inductive SV:Nat->N9->Prop where
 |int {n:Nat}{i:Int}:SV n (.int i)
 |str {n:Nat}{x:Str}:SV n (.str x)
 |tup {n:Nat}{xs:List N9}:xs.length<=1000->(∀d∈xs,SV n d)->SV (n+1) (.tuple xs)
 |dct {n:Nat}{ds:Dc}:(∀q∈ds,∃x,q.1=.str x/\ao ds x=some q.2)->(∀q∈ds,SV n q.2)->SV (n+1) (.dict ds)
theorem SV.up(h:SV n d)(l:n<=m):SV m d:=by
 induction h generalizing m with
 |int=>exact .int
 |str=>exact .str
 |tup hl _ ih=>
  obtain⟨m,rfl⟩:=br m (by omega);exact .tup hl fun d hd=>ih d hd (by omega)
 |dct hq _ ih=>
  obtain⟨m,rfl⟩:=br m (by omega);exact .dct hq fun q hq'=>ih q hq' (by omega)
@[simp] theorem L8:ixA (.tuple xs) (.int i)=atI xs i:=rfl
@[simp] theorem KR:aT [.dict ds]=some (.int ds.length):=rfl
theorem yM:bi .int .dct=false:=rfl
theorem yJ:bi .str .dct=false:=rfl
theorem Jl:bi .dct .dct=true:=rfl
theorem yK:bi .str .bl=false:=rfl
theorem yI:bi .str .int=false:=rfl
theorem yN:bi .int .bl=false:=rfl
theorem yL:bi .int .int=true:=rfl
theorem yH:bi .str .str=true:=rfl
theorem wL(l:List N9):ip [.list (l.map fun _=>.bool true)]=some (.bool true):=by
 rw[HG (fun _=>true)];simp
theorem yj(h:SV n d):∀k T,n<k->dv k [.d d,.d d] T=some (.bool true,T):=by
 induction h with
 |int=>
  intro k T hk;obtain⟨k,rfl⟩:=br k (by omega);simp[dv,j3,ik,isNone,yM,yJ,yK,yI,yN,yL,yH]
 |str=>
  intro k T hk;obtain⟨k,rfl⟩:=br k (by omega);simp[dv,j3,ik,isNone,yM,yJ,yK,yI,yN,yL,yH]
 |tup hl hs ih=>
  rename_i n xs;intro k T hk;obtain⟨k,rfl⟩:=br k (by omega);have hr:=iE (j:=(xs.length:Int)) (by omega) (by omega)
  have c:=dz (e:=aq (dv k) (ae (af ixA (aa 1) (aa 0)) (ae (af ixA (aa 2) (aa 0)) ah))) (ρ:=[some (.d (.tuple xs)),some (.d (.tuple xs))]) (T:=T) (g:=fun _=>.bool true) (ds:=cv 0 xs.length) fun d hd=>by
   obtain⟨i,hi,rfl⟩:=Ot.mp hd;have hi':=Rv.mp hi;obtain⟨a,ha,hm⟩:=fU (xs:=xs) (i:=0+(i:Int)) (by omega) (by omega);have:=ih a hm k T (by omega);rw[Int.zero_add] at ha;simp[ha,this]
  have al:=wL (cv 0 xs.length);simp[dv,j3,ik,hr,c,al]
 |dct hq hs ih=>
  rename_i n ds;intro k T hk;obtain⟨k,rfl⟩:=br k (by omega)
  have c:=dz (e:=cw (af inA (aa 0) (aa 1)) (aq (dv k) (ae (af ixA (aa 1) (aa 0)) (ae (af ixA (aa 2) (aa 0)) ah)))) (ρ:=[some (.d (.dict ds)),some (.d (.dict ds))]) (T:=T) (g:=fun _=>.bool true) (ds:=ds.map (·.1)) fun d hd=>by
   obtain⟨q,hq1,rfl⟩:=Ot.mp hd;obtain⟨x,e1,e2⟩:=hq q hq1;have:=ih q hq1 k T (by omega);rw[e1];simp[e2,this]
  have al:=wL (ds.map (·.1));simp only[Pe] at al;simp[dv,j3,ik,c,Jl,al]
theorem uM:∀(n:Nat) (d:N9),aF n d=true->SV n d
 |n,.int i,_=>.int
 |n,.str x,_=>.str
 |n,.none,h=>by cases n <;> cases h
 |n,.bool _,h=>by cases n <;> cases h
 |n,.list _,h=>by cases n <;> cases h
 |n,.dict _,h=>by cases n <;> cases h
 |0,.tuple _,h=>by cases h
 |n+1,.tuple xs,h=>by
  have h':(decide (xs.length<=8)&&xs.all (aF n))=true:=h;rw[Oj] at h';have l:=of_decide_eq_true h'.1;exact .tup (by omega) fun d hd=>uM n d (Oz.mp h'.2 d hd)
theorem wX(h:aE v=true):SV 4 v:=uM 4 v (b6 h).1
theorem rT(h:Ex m n e):SV (n+n+5) e:=by
 induction h with
 |put hv=>
  refine .tup (by simp) fun d hd=>?_;simp at hd
  rcases hd with rfl|rfl
  .exact .str
  .exact(wX hv).up (by omega)
 |got _ _=>
  refine .tup (by simp) fun d hd=>?_;simp at hd
  rcases hd with rfl|rfl
  .exact .str
  .exact .int
 |row hl hx ih=>
  rename_i n es
  have e:n+1+(n+1)+5=(n+n+5+1)+1:=by omega
  rw[e];refine .tup (by simp) fun d hd=>?_;simp at hd
  rcases hd with rfl|rfl
  .exact .str
  .exact .tup (by omega) fun d hd=>ih d hd
 |many _ ih=>
  rename_i n e _
  have e:n+1+(n+1)+5=(n+n+5+1)+1:=by omega
  rw[e];refine .tup (by simp) fun d hd=>?_;simp at hd
  rcases hd with rfl|rfl
  .exact .str
  .exact ih.up (by omega)
 |pair _ _ _ iha ihb=>
  rename_i n w a b _ _ _
  have e:n+1+(n+1)+5=(n+n+5+1)+1:=by omega
  rw[e];refine .tup (by simp) fun d hd=>?_;simp at hd
  rcases hd with rfl|rfl|rfl
  .exact .str
  .exact iha.up (by omega)
  .exact ihb.up (by omega)
theorem Iz(h:Rg p g n r):SV (n+n+5) r:=by
 induction h with
 |fail _=>
  refine .tup (by simp) fun d hd=>?_;simp at hd
  rcases hd with rfl|rfl
  .exact .str
  .exact .str
 |say he=>
  rename_i g n e
  have e:n+1+(n+1)+5=(n+n+5+1)+1:=by omega
  rw[e];refine .tup (by simp) fun d hd=>?_;simp at hd
  rcases hd with rfl|rfl
  .exact .str
  .exact(rT he).up (by omega)
 |ask _ _ he _ ih=>
  rename_i g n w e r _ _ _
  have e:n+1+(n+1)+5=(n+n+5+1)+1:=by omega
  rw[e];refine .tup (by simp) fun d hd=>?_;simp at hd
  rcases hd with rfl|rfl|rfl
  .exact .str
  .exact(rT he).up (by omega)
  .exact ih.up (by omega)
 |whn he _ _ ihr ihs=>
  rename_i g n e r s _ _
  have e:n+1+(n+1)+5=(n+n+5+1)+1:=by omega
  rw[e];refine .tup (by simp) fun d hd=>?_;simp at hd
  rcases hd with rfl|rfl|rfl|rfl
  .exact .str
  .exact(rT he).up (by omega)
  .exact ihr.up (by omega)
  .exact ihs.up (by omega)
def b4(A T:Tp):Prop:=∃(ds:List N9) (i:Int),T=A++[[.list ds,.int i]]/\0<=i/\0<ds.length/\ds.length<=1000/\∀d∈ds,∃c:Int,d=.int c
theorem Fq:op2 o (A++[.list zs::xs]) (.tp A.length) (.d y)=mkD (A++[.list zs::xs]) (o (.list (.list zs::xs)) y):=by
 have h:view (A++[.list zs::xs]) (.tp A.length)=some (.list (.list zs::xs)):=by simp[view,i8,isO]
 unfold op2;rw[h];rfl
theorem Bt{α:Type}(A:List α)(a b:α):(A++[a]).set A.length b=A++[b]:=by
 induction A with
 |nil=>rfl
 |cons x r ih=>exact congrArg (x::·) ih
theorem Cs{A:Tp}{a b:List N9}:(A++[a]).set A.length b=A++[b]:=Bt A a b
theorem Jk:ixN 2 1=some 1:=rfl
theorem gF{α:Type}{a b:α}:atI [a,b] 0=some a:=rfl
theorem gE{α:Type}{a b:α}:atI [a,b] 1=some b:=rfl
theorem cu(t:b4 A T)(h1:0<m):∃r T',bw [.tp A.length,.d (.int m)] T=some (.int r,T')/\b4 A T'/\0<=r/\r<m:=by
 obtain⟨ds,i,rfl,hi,hl,hl2,hd⟩:=t
 have hp:(0:Int)<(ds.length:Int):=by omega
 obtain⟨d,e1,hm⟩:=fU (xs:=ds) (i:=i % (ds.length:Int)) (RZ _ (by omega)) (Rm _ hp);obtain⟨c,rfl⟩:=hd d hm;refine⟨c % m,A++[[.list ds,.int (i+1)]],?_,⟨ds,i+1,rfl,by omega,hl,hl2,hd⟩,RZ _ (by omega),Rm _ h1⟩
 have e2:i+1-1=i:=by omega
 simp[bw,sG,Fq,gF,gE,Jk,Cs,e2,hp,e1,h1,hl]
theorem fH:gB (.int i) (.int j)=if 0<j/\j<18446744073709551616 then some (.int (i / j)) else none:=rfl
def dwB:FS:=(ak (aM 4 (af cO (af aR (af aR (af b9 (aa 4) (aa 4)) (af b9 (fC (.int 48271)) (aa 4))) (af b9 (fC (.int 7)) (aa 5))) (fC (.int 2147483647)))) (fIf (au (af gtD (aa 3) (fC (.int 0)))) (ak (dQ 2 (af cO (aa 3) (fC (.int 720720)))) (aM 3 (af gB (aa 3) (fC (.int 720720))))) (dQ 2 (af gB (af cO (af aR (af b9 (aa 4) (fC (.int 69621))) (af b9 (fC (.int 13)) (aa 5))) (fC (.int 2147483629))) (fC (.int 3))))))
theorem yQ:gc=aP 6 (ak (dI 2 ah) (ak (aM 3 (fC (.int 0))) (ak (fIf (au (af geD (aa 0) (af ij (fC (.int 10)) (fC (.int 18))))) (aM 3 (aa 0)) aH) (ak (aM 4 (af aR (af cO (aa 0) (fC (.int 2147483629))) (fC (.int 48271)))) (ak (cA 5 (dE (aa 1)) dwB) (ay (aa 2))))))):=rfl
def ρD(c N:Int)(fs:List N9)(nu mi:Int)(o:Option D.W):Rho:=[some (.d (.int c)),some (.d (.int N)),some (.loc (.list fs)),some (.d (.int nu)),some (.d (.int mi)),o]
theorem iK:1000<sizeLine:=by decide
theorem xU:∀(ks:List Int) (fs:List N9) (nu mi:Int) (o:Option D.W),-18446744073709551616<mi->mi<18446744073709551616->fs.length+ks.length<=1000->(∀d∈fs,∃c:Int,d=.int c) ->
  ∃fs' nu' mi' o',forL 5 dwB (ks.map P7) (ρD c N fs nu mi o) T=some ((.nx,ρD c N fs' nu' mi' o'),T)/\fs'.length=fs.length+ks.length/\∀d∈fs',∃c:Int,d=.int c
 |[],fs,nu,mi,o,_,_,_,hf=>⟨fs,nu,mi,o,rfl,by simp,hf⟩
 |k::ks,fs,nu,mi,o,h1,h2,hl,hf=>by
  have hl':fs.length+(ks.length+1)<=1000:=hl;have bl:=iK
  have hl1:fs.length<sizeLine:=by omega
  have m2:0<=(mi*mi+48271*mi+7*k) % 2147483647/\(mi*mi+48271*mi+7*k) % 2147483647<2147483647:=⟨RZ _ (by decide),Rm _ (by decide)⟩;generalize hmi:(mi*mi+48271*mi+7*k) % 2147483647=mi' at m2
  have ap:∀(x:Int),∀d∈fs++[P7 x],∃c:Int,d=.int c:=fun x d hd=>by
   rcases Oq.mp hd with z|z
   .exact hf d z
   .exact⟨x,Ov.mp z⟩
  have hst:∃x nu',dwB (U9 (ρD c N fs nu mi o) 5 (some (.d (.int k)))) T=some ((.nx,ρD c N (fs++[.int x]) nu' mi' (some (.d (.int k)))),T):=by
   by_cases hn:0<nu
   .refine⟨nu % 720720,nu / 720720,?_⟩
    simp[dwB,ρD,fH,h1,h2,hn,hl1,hmi]
   .refine⟨(mi' * 69621+13*k) % 2147483629 / 3,nu,?_⟩
    simp[dwB,ρD,fH,h1,h2,hn,hl1,hmi]
  obtain⟨x,nu',st⟩:=hst;obtain⟨fs',nu2,mi2,o2,e1,e2,e3⟩:=xU (c:=c) (N:=N) (T:=T) ks (fs++[.int x]) nu' mi' (some (.d (.int k))) (by omega) (by omega) (by simp;omega) (ap x);refine⟨fs',nu2,mi2,o2,?_,by rw[e2];simp;omega,e3⟩;rw[OJ,gn st];exact e1
theorem BD(n:Nat):cv 0 n=((Py n).map fun(i:Nat)=>(i:Int)).map PyData.int:=by
 unfold cv;rw[Pe]
 exact O4 fun i _=>by simp
theorem qV(h0:0<N)(h1:N<=1000):∃ds,gc [.d (.int c),.d (.int N)] T=some (.list ds,T)/\ds.length=N.toNat/\∀d∈ds,∃c:Int,d=.int c:=by
 have hr:=iE (j:=N) (by omega) h1;have m0:0<=c % 2147483629/\c % 2147483629<2147483629:=⟨RZ _ (by decide),Rm _ (by decide)⟩
 have key:∀nu,∃ds o,forL 5 dwB (cv 0 N.toNat) (ρD c N [] nu (c % 2147483629+48271) none) T=some ((.nx,o),T)/\(∃a b d e,o=ρD c N ds a b d/\e=())/\ds.length=N.toNat/\∀d∈ds,∃c:Int,d=.int c:=fun nu=>by
  obtain⟨fs',nu2,mi2,o2,e1,e2,e3⟩:=xU (c:=c) (N:=N) (T:=T) ((Py N.toNat).map fun(i:Nat)=>(i:Int)) [] nu (c % 2147483629+48271) none (by omega) (by omega) (by simp;omega) (by simp);rw[←BD] at e1;exact⟨fs',_,e1,⟨_,_,_,(),rfl,rfl⟩,by rw[e2];simp,e3⟩
 by_cases hc:1000000000000000000<=c
 .obtain⟨ds,o,e1,⟨a,b,d,e,rfl,_⟩,e3,e4⟩:=key c
  refine⟨ds,?_,e3,e4⟩;rw[yQ];simp[ρD] at e1;simp[hc,hr,e1]
 .obtain⟨ds,o,e1,⟨a,b,d,e,rfl,_⟩,e3,e4⟩:=key 0
  refine⟨ds,?_,e3,e4⟩;rw[yQ];simp[ρD] at e1;simp[hc,hr,e1]
theorem qY(h0:0<ds.length)(h1:ds.length<=1000)(h:∀d∈ds,∃c:Int,d=.int c):b4 A (A++[[.list ds,.int 0]]):=⟨ds,0,rfl,by decide,h0,h1,h⟩
theorem rR(h:0<=k):∃c:Int,fB [.d (cD ns),.d (.int k)] T=some (.int c,T):=by
 by_cases hk:k<(ns.length:Int)
 .obtain⟨d,e1,hm⟩:=fU (xs:=ns.map P7) (i:=k) h (by simpa using hk)
  obtain⟨c,_,rfl⟩:=Ot.mp hm;exact⟨c,by simp[fB,cD,hk,e1]⟩
 .exact⟨0,by simp[fB,cD,hk]⟩
theorem DQ{α:Type}(xs:List α)(a:Nat):dS xs (some (a:Int)) none=xs.drop a:=by
 have e:HT.sIx xs.length 0 (some (a:Int))=min a xs.length:=by
  show (if (a:Int)<0 then ((a:Int)+(xs.length:Int)).toNat else min ((a:Int)).toNat xs.length)=_;rw[if_neg (by omega)];simp
 have e2:HT.sIx xs.length xs.length none=xs.length:=rfl;unfold dS;rw[e,e2]
 by_cases h:a<=xs.length
 .rw[QU h]
  exact Pr (by simp)
 .rw[Q5 (by omega)]
  simp;omega
theorem x6{α:Type}(xs:List α)(a:Nat):dS xs none (some (a:Int))=xs.take a:=by
 have e:HT.sIx xs.length 0 none=0:=rfl
 have e2:HT.sIx xs.length xs.length (some (a:Int))=min a xs.length:=by
  show (if (a:Int)<0 then ((a:Int)+(xs.length:Int)).toNat else min ((a:Int)).toNat xs.length)=_;rw[if_neg (by omega)];simp
 unfold dS;rw[e,e2,List.drop_zero,Nat.sub_zero]
 by_cases h:a<=xs.length
 .rw[QU h]
 .rw[Q5 (by omega),List.take_length]
  exact(Pr (by omega)).symm
def NW:List Str:=["told","made","say","want","wants","fails","put","got","row","peek","when","kind"].map Oe
def ZZ:Str:=Oe "zzzzzzzz"
def lY(l:List Str):Bool:=decide l.Nodup&&l.all fun x=>isName (.str x)&&decide (x≠ZZ)
def nW0(a:Nat):List Str:=NW.drop a++NW.take a
def lc(i:Nat):Str:=⟨#[97+i]⟩
def f1(a k:Nat):Str:=Q4 (lc (a+k / 8)) ((1+k % 8:Nat):Int)
def f2(a t k:Nat):Str:=Q4 (lc a) ((a % 7:Nat):Int)++lc ((a+k) % 26)++Q4 (lc a) (t:Int)
theorem Ik:∀a,a<12->lY (nW0 a)=true/\(nW0 a).length=12:=by decide +kernel
theorem Ij:∀a,a<12->lY ((Py 12).map (f1 a))=true:=by decide +kernel
theorem Ii:∀a,a<12->∀t,t<8->t<8-a % 7->lY ((Py 12).map (f2 a t))=true:=by decide +kernel
theorem Hd:∀i,i<26->LET.cps.toList[i]? = some (97+i):=by decide +kernel
theorem rP(h0:0<=i)(h1:i<26):atI LET.cps.toList i=some (97+i.toNat):=by
 unfold atI ixN;rw[E5,if_pos h0,if_pos h1];exact Hd _ (by omega)
theorem qH(m:Nat)(h:lY l=true):(l.take m).Nodup/\∀x∈l.take m,isName (.str x)=true/\x≠ZZ:=by
 have h':=h;unfold lY at h';rw[Oj] at h'
 exact⟨(of_decide_eq_true h'.1).sublist (UX ..),fun x hx=>by
  have:=Oz.mp h'.2 x (Q2 hx);rw[Oj] at this
  exact⟨this.1,of_decide_eq_true this.2⟩⟩
theorem tL{β:Type}(f:Nat->β){m:Nat}(h:m<=12):(Py m).map f=((Py 12).map f).take m:=by rw[←WB,List.take_range,QU h]
structure Nms(l:List Str)(m:Nat):Prop where
 len:l.length=m
 nd:l.Nodup
 nm:∀x∈l,isName (.str x)=true
 nz:∀x∈l,x≠ZZ
theorem vb(h:∀k:Nat,k<m->e (some (.d (.int (k:Int)))::ρ) T=some (.d (.str (f k)),T)):bT bx e ρ (cv 0 m) T=some (nmL ((Py m).map f),T):=by
 have c:=dz (e:=e) (ρ:=ρ) (T:=T) (g:=fun d=>match d with
  |.int k=>.str (f k.toNat)
  | d=>d) (ds:=cv 0 m) fun d hd=>by
   obtain⟨i,hi,rfl⟩:=Ot.mp hd;have:=h i (Rv.mp hi);simp;exact this
 rw[c];refine congrArg some (congrArg (·,T) ?_);unfold cv nmL;rw[Pe,Pe]
 exact O4 fun i _=>by simp
theorem JY:∀a,a<12->(Q4 (lc a) ((a % 7:Nat):Int)).length<=100:=by decide +kernel
theorem JX:∀a,a<12->∀k,k<12->(Q4 (lc a) ((a % 7:Nat):Int)++lc ((a+k) % 26)).length<=100:=by decide +kernel
theorem JW:∀a:Nat,a<12->∀s:Nat,s<8->(Q4 (lc a) (s:Int)).length<=100:=by decide +kernel
theorem lcl(i:Nat):(lc i).length=1:=rfl
theorem F9{A T:Tp}{m:Nat}(t:b4 A T)(h0:m<=12):∃l T',gI [.tp A.length,.d (.int (m:Int))] T=some (.list (nmL l),T')/\b4 A T'/\Nms l m:=by
 obtain⟨w,T1,e1,t1,w0,w1⟩:=cu (m:=4) t (by decide);obtain⟨a,T2,e2,t2,a0,a1⟩:=cu (m:=12) t1 (by decide);obtain⟨a,rfl⟩:∃j:Nat,a=(j:Int):=⟨a.toNat,by omega⟩
 have a1':a<12:=by omega
 have hr:=iE (j:=(m:Int)) (by omega) (by omega)
 by_cases c0:w=0
 .obtain⟨q1,q2⟩:=Ik a a1'
  obtain⟨n1,n2⟩:=qH m q1;refine⟨(nW0 a).take m,T2,?_,t2,⟨by rw[Q3,q2];omega,n1,fun x hx=>(n2 x hx).1,fun x hx=>(n2 x hx).2⟩⟩
  have z:nmL ((nW0 a).take m)=((nmL NW).drop a++(nmL NW).take a).take m:=by
   simp[nmL,nW0,WB,List.map_drop]
  have z2:(nmL NW)=[.str "told",.str "made",.str "say",.str "want",.str "wants",.str "fails",.str "put",.str "got",.str "row",.str "peek",.str "when",.str "kind"]:=rfl;rw[z,z2]
  have lz:∀xs:List N9,xs.length=12->(xs.drop a).length+(xs.take a).length<=sizeLine:=fun xs h=>by
   have:=iK;simp[h];omega
  have lz':=lz [.str "told",.str "made",.str "say",.str "want",.str "wants",.str "fails",.str "put",.str "got",.str "row",.str "peek",.str "when",.str "kind"] rfl;simp only[gI,Jt,B4,B5,B6,if_true];simp[e1,e2,c0,DQ,x6,-Ql,-Q3,lz']
 .by_cases c1:w=1
  .obtain⟨n1,n2⟩:=qH m (Ij a a1')
   rw[←tL _ h0] at n1 n2;refine⟨(Py m).map (f1 a),T2,?_,t2,⟨by simp,n1,fun x hx=>(n2 x hx).1,fun x hx=>(n2 x hx).2⟩⟩
   have c:=vb (f:=f1 a) (e:=(af b9 (af ixD (aa 3) (af aR (aa 5) (af gB (aa 0) (fC (.int 8))))) (af aR (fC (.int 1)) (af cO (aa 0) (fC (.int 8)))))) (ρ:=[some (.tp A.length),some (.d (.int (m:Int))),some (.d (.str LET)),some (.d (.int w)),some (.d (.int (a:Int))),none,none]) (T:=T2) (m:=m) fun k hk=>by
    have x1:=rP (i:=(a:Int)+(k:Int) / 8) (by omega) (by omega)
    have x2:((a:Int)+(k:Int) / 8).toNat=a+k / 8:=by omega
    rw[x2] at x1
    have x3:(0:Int)<=1+(k:Int) % 8/\1+(k:Int) % 8<=2000:=by omega
    have x4:((1+k % 8:Nat):Int)=1+(k:Int) % 8:=by omega
    have x5:UO (⟨#[97+(a+k / 8)]⟩:Str)<=1000:=by show 1<=1000;decide
    simp[x1,x3,qJ,x5,f1,x4,lc,fH]
   have e0:Oe "abcdefghijklmnopqrstuvwxyz"=LET:=rfl;simp[gI,e0,e1,e2,c1,hr];rw[c1] at c;simp[c]
  .obtain⟨s,T3,e3,t3,s0,s1⟩:=cu (m:=8-(a:Int) % 7) t2 (by omega)
   obtain⟨s,rfl⟩:∃j:Nat,s=(j:Int):=⟨s.toNat,by omega⟩;obtain⟨n1,n2⟩:=qH m (Ii a a1' s (by omega) (by omega));rw[←tL _ h0] at n1 n2;refine⟨(Py m).map (f2 a s),T3,?_,t3,⟨by simp,n1,fun x hx=>(n2 x hx).1,fun x hx=>(n2 x hx).2⟩⟩;have bl:=iK;have la:=JY a a1';have lb:=JW a a1' s (by omega);have xa:=rP (i:=(a:Int)) (by omega) (by omega);rw[RB] at xa
   have z7:((a % 7:Nat):Int)=(a:Int) % 7:=by omega
   have xl:∀j,UO (⟨#[97+j]⟩:Str)<=1000:=fun j=>by show 1<=1000;decide
   have c:=vb (f:=f2 a s) (e:=(af aR (af aR (af b9 (af ixD (aa 3) (aa 5)) (af cO (aa 5) (fC (.int 7)))) (af ixD (aa 3) (af cO (af aR (aa 5) (aa 0)) (fC (.int 26))))) (aa 7))) (ρ:=[some (.tp A.length),some (.d (.int (m:Int))),some (.d (.str LET)),some (.d (.int w)),some (.d (.int (a:Int))),none,some (.d (.str (Q4 (lc a) (s:Int))))]) (T:=T3) (m:=m) fun k hk=>by
    have lk:=JX a a1' k (by omega);have x1:=rP (i:=((a:Int)+(k:Int)) % 26) (by omega) (by omega)
    have x2:(((a:Int)+(k:Int)) % 26).toNat=(a+k) % 26:=by omega
    rw[x2] at x1;rw[z7] at lk la
    have y1:(Q4 (lc a) ((a:Int) % 7)).length+(lc ((a+k) % 26)).length<=sizeLine:=by rw[lcl];omega
    have y2:(Q4 (lc a) ((a:Int) % 7)++lc ((a+k) % 26)).length+(Q4 (lc a) (s:Int)).length<=sizeLine:=by omega
    have x3:(0:Int)<=(a:Int) % 7/\(a:Int) % 7<=2000:=by omega
    simp only[lc,fH] at y1 y2;simp only[f2,z7,lc,fH];simp[xa,x1,x3,qJ,xl,y1,y2]
   have e0:Oe "abcdefghijklmnopqrstuvwxyz"=LET:=rfl
   have x3:(0:Int)<=(s:Int)/\(s:Int)<=2000:=by omega
   simp only[lc,fH] at c;simp[gI,e0,e1,e2,c0,c1,hr,e3,xa,qJ,xl,x3];simp[c]
def mb:Nat->Int
 |0=>1
 |n+1=>1+3*mb n
theorem rE:∀n,1<=mb n
 |0=>by decide
 |n+1=>by
  have:=rE n;show 1<=1+3*mb n;omega
def VS:List PyData:=[.int 0,.int 1,.int (-1),.int 2,.int 1000000000000000000,.int (-1000000000000000000),.str "",.str "a",.str "0",.str "-",.str (Q4 "a" 20),.tuple []]
theorem Il:∀d∈VS,∀n,aF (n+1) d=true/\aG (n+1) d=1:=by
 intro d hd n;have tu:aF (n+1) (.tuple [])=true/\aG (n+1) (.tuple [])=1:=⟨rfl,rfl⟩;simp[VS] at hd
 rcases hd with rfl|rfl|rfl|rfl|rfl|rfl|rfl|rfl|rfl|rfl|rfl|rfl
 .exact de (iB (by decide) (by decide))
 .exact de (iB (by decide) (by decide))
 .exact de (iB (by decide) (by decide))
 .exact de (iB (by decide) (by decide))
 .exact de (iB (by decide) (by decide))
 .exact de (iB (by decide) (by decide))
 .exact de (by decide +kernel)
 .exact de (by decide +kernel)
 .exact de (by decide +kernel)
 .exact de (by decide +kernel)
 .exact de (by decide +kernel)
 .exact tu
theorem yB(h:Nms l m)(h0:0<=i)(h1:i<(l.length:Int)):∃x,atI (nmL l) i=some (.str x)/\isName (.str x)=true:=by
 obtain⟨d,e,hm⟩:=fU (xs:=nmL l) h0 (by simpa[nmL] using h1);obtain⟨x,hx,rfl⟩:=Ot.mp hm;exact⟨x,e,h.nm x hx⟩
theorem cL(l:List Str):(nmL l).length=l.length:=by simp[nmL]
theorem vJ{l:List Str}{m:Nat}(hn:Nms l m)(hm:0<m):∀(n k:Nat) (A T:Tp),b4 A T->n<k->∃d T',da k [.tp A.length,.d (.list (nmL l)),.d (.int (n:Int))] T=some (d,T')/\b4 A T'/\aF (n+1) d=true/\aG (n+1) d<=mb n
 |n,0,A,T,_,hk=>absurd hk (Qg _)
 |n,k+1,A,T,t,hk=>by
  obtain⟨w,T1,e1,t1,w0,w1⟩:=cu (m:=10) t (by decide);have mp:=rE n
  have some_:(w<6\/((n:Int)=0/\7<w))->∃d T',da (k+1) [.tp A.length,.d (.list (nmL l)),.d (.int (n:Int))] T=some (d,T')/\b4 A T'/\aF (n+1) d=true/\aG (n+1) d<=mb n:=fun hc=>by
   obtain⟨i,T2,e2,t2,i0,i1⟩:=cu (m:=12) t1 (by decide);obtain⟨d,hd,hmem⟩:=fU (xs:=VS) i0 (by show i<12;exact i1);obtain⟨b1,b2⟩:=Il d hmem n;refine⟨d,T2,?_,t2,b1,by omega⟩;simp only[VS] at hd
   have l1:(Oe "a").length<=1000:=by decide +kernel
   by_cases h6:w<6
   .simp[da,e1,h6,e2,hd,l1]
   .obtain⟨h7,h8⟩:=hc.resolve_left h6
    simp[da,e1,h6,h7,h8,e2,hd,l1]
  by_cases c1:w<6
  .exact some_ (.inl c1)
  by_cases c2:(n:Int)=0/\7<w
  .exact some_ (.inr c2)
  clear some_
  have l1:(Oe "a").length<=1000:=by decide +kernel
  by_cases c3:w<8
  .have c4:¬7<w:=by omega
   obtain⟨i,T2,e2,t2,i0,i1⟩:=cu (m:=(l.length:Int)) t1 (by rw[hn.len];omega);obtain⟨x,hx,hxn⟩:=yB hn i0 i1;obtain⟨b1,b2⟩:=de (n:=n+1) (tm hxn);refine⟨.str x,T2,?_,t2,b1,by omega⟩
   by_cases h0:(n:Int)=0
   .simp[da,e1,c1,h0,c4,c3,cL,e2,hx,l1]
   .have h0':¬n=0:=by omega
    simp[da,e1,c1,h0,h0',c3,cL,e2,hx,l1]
  .have h0:¬(n:Int)=0:=fun z=>c2 ⟨z,by omega⟩
   obtain⟨n,rfl⟩:=br n (by omega);obtain⟨j,T2,e2,t2,j0,j1⟩:=cu (m:=4) t1 (by decide);have hrj:=iE (j:=j) j0 (by omega)
   have hs:((n+1:Nat):Int)-1=(n:Int):=by omega
   obtain⟨ys,T3,e3,t3,l3,q3⟩:=p8 (P:=b4 A) (Q:=fun d=>aF (n+1) d=true/\aG (n+1) d<=mb n) (ds:=cv 0 j.toNat)
    (e:=aq (da k) (ae (aa 1) (ae (aa 2) (ae (af fh (aa 3) (fC (.int 1))) ah)))) (ρ:=[some (.tp A.length),some (.d (.list (nmL l))),some (.d (.int ((n+1:Nat):Int))),some (.d (.int w)),some (.d (.list VS))]) t2 fun d _ T t=>by
     obtain⟨d',T',e1,t1,b1,b2⟩:=vJ hn hm n k A T t (by omega);refine⟨d',T',?_,t1,b1,b2⟩;rw[←hs] at e1;generalize ((n+1:Nat):Int)=N at e1 ⊢;simp[e1]
   have hl:(ys.length:Int)=j:=by rw[l3,CO];omega
   refine⟨.tuple ys,T3,?_,t3,?_,?_⟩
   .simp only[VS] at e3
    generalize ((n+1:Nat):Int)=N at e3 h0 ⊢;simp[da,e1,c1,h0,c3,e2,hrj,l1,e3]
   .show (decide (ys.length<=8)&&ys.all (aF (n+1)))=true
    rw[decide_eq_true (by omega)];exact Oz.mpr fun d hd=>(q3 d hd).1
   .show 1+(ys.map (aG (n+1))).sum<=1+3*mb n
    have s1:=wY (f:=aG (n+1)) (q:=mb n) fun d hd=>(q3 d hd).2;have s2:(ys.length:Int)*mb n<=3*mb n:=Int.mul_le_mul_of_nonneg_right (by omega) (by have:=rE n;omega);omega
theorem Gk(hn:n<=2)(hb:aF (n+1) d=true)(hm:aG (n+1) d<=mb n):aE d=true:=by
 obtain⟨u1,u2⟩:=iJ (n+1) d hb
 have fin:∀j,aF j d=true->aG j d<=40->j=4->aE d=true:=fun j a b e=>by
  subst e;show (aF 4 d&&decide (aG 4 d<=40))=true;rw[a,decide_eq_true b];rfl
 match n,hn with
 |0,_=>
  obtain⟨v1,v2⟩:=iJ 2 d u1;obtain⟨x1,x2⟩:=iJ 3 d v1;have hm':aG 1 d<=1:=hm;have u2':aG 2 d=aG 1 d:=u2;have v2':aG 3 d=aG 2 d:=v2;have x2':aG 4 d=aG 3 d:=x2;exact fin 4 x1 (by omega) rfl
 |1,_=>
  obtain⟨v1,v2⟩:=iJ 3 d u1;have hm':aG 2 d<=4:=hm;have u2':aG 3 d=aG 2 d:=u2;have v2':aG 4 d=aG 3 d:=v2;exact fin 4 v1 (by omega) rfl
 |2,_=>
  have hm':aG 3 d<=13:=hm;have u2':aG 4 d=aG 3 d:=u2;exact fin 4 u1 (by omega) rfl
theorem y6{l:List Str}{m:Nat}(hn:Nms l m)(hm:0<m){n:Nat}(h2:n<=2){A T:Tp}(t:b4 A T):∃d T',da 25 [.tp A.length,.d (.list (nmL l)),.d (.int (n:Int))] T=some (d,T')/\b4 A T'/\aE d=true:=by
 obtain⟨d,T',e,t',b1,b2⟩:=vJ hn hm n 25 A T t (by omega);exact⟨d,T',e,t',Gk h2 b1 b2⟩
theorem vH{l:List Str}{m:Nat}(hn:Nms l m)(hm:0<m){n:Nat}{g:Int}{A T:Tp}(t:b4 A T):∃e T',iy [.tp A.length,.d (.list (nmL l)),.d (.int g)] T=some (e,T')/\b4 A T'/\Ex g n e:=by
 have putL:∀T,b4 A T->∃v T',da 25 [.tp A.length,.d (.list (nmL l)),.d (.int 1)] T=some (v,T')/\b4 A T'/\Ex g n (.tuple [.str "put",v]):=fun T t=>by
  obtain⟨d,T',e,t',hv⟩:=y6 hn hm (n:=1) (by decide) t;exact⟨d,T',e,t',.put hv⟩
 by_cases hg:0<g
 .obtain⟨r,T1,e1,t1,r0,r1⟩:=cu (m:=3) t (by decide)
  by_cases hr:0<r
  .obtain⟨i,T2,e2,t2,i0,i1⟩:=cu (m:=g) t1 hg
   exact⟨_,T2,by simp[iy,hg,e1,hr,e2],t2,.got i0 i1⟩
  .obtain⟨v,T2,e2,t2,x⟩:=putL T1 t1
   exact⟨_,T2,by simp[iy,hg,e1,hr,e2],t2,x⟩
 .obtain⟨v,T2,e2,t2,x⟩:=putL T t
  exact⟨_,T2,by simp[iy,hg,e2],t2,x⟩
theorem Ex.up(h:Ex m n e)(l:n<=k):Ex m k e:=by
 induction h generalizing k with
 |put a=>exact .put a
 |got a b=>exact .got a b
 |row a _ ih=>
  obtain⟨k,rfl⟩:=br k (by omega);exact .row a fun e he=>ih e he (by omega)
 |many _ ih=>
  obtain⟨k,rfl⟩:=br k (by omega);exact .many (ih (by omega))
 |pair a _ _ i1 i2=>
  obtain⟨k,rfl⟩:=br k (by omega);exact .pair a (i1 (by omega)) (i2 (by omega))
theorem Rg.up(h:Rg p g n r)(l:n<=k):Rg p g k r:=by
 induction h generalizing k with
 |fail a=>exact .fail a
 |say a=>
  obtain⟨k,rfl⟩:=br k (by omega);exact .say (a.up (by omega))
 |ask a b c _ ih=>
  obtain⟨k,rfl⟩:=br k (by omega);exact .ask a b (c.up (by omega)) (ih (by omega))
 |whn a _ _ i1 i2=>
  obtain⟨k,rfl⟩:=br k (by omega);exact .whn (a.up (by omega)) (i1 (by omega)) (i2 (by omega))
theorem Gd{l:List Str}{m:Nat}(hn:Nms l m)(hm:0<m){g:Int}{A T:Tp}(t:b4 A T):∃e T',iA [.tp A.length,.d (.list (nmL l)),.d (.int g)] T=some (e,T')/\b4 A T'/\Ex g 1 e:=by
 obtain⟨w,T1,e1,t1,w0,w1⟩:=cu (m:=10) t (by decide);obtain⟨a,T2,e2,t2,xa⟩:=vH hn hm (n:=0) (g:=g) t1
 by_cases c1:w<5
 .by_cases c2:w=4
  .refine⟨.tuple [.str "many",a],T2,?_,t2,.many xa⟩
   subst c2;simp[iA,fH,e1,e2,gF,gE]
  .refine⟨a,T2,?_,t2,xa.up (by decide)⟩
   have z:w / 4=0:=by omega
   simp[iA,fH,e1,e2,c1,z,gF,gE]
 .obtain⟨b,T3,e3,t3,xb⟩:=vH hn hm (n:=0) (g:=g) t2
  by_cases c5:w=5
  .obtain⟨j,T4,e4,t4,j0,j1⟩:=cu (m:=3) t3 (by decide)
   obtain⟨j,rfl⟩:∃i:Nat,j=(i:Int):=⟨j.toNat,by omega⟩;refine⟨.tuple [.str "row",.tuple ([a,b].take j)],T4,?_,t4,.row (by simp;omega) fun e he=>?_⟩
   .subst c5
    simp[iA,fH,e1,e2,e3,e4,x6]
   .have:=Q2 he
    simp at this
    rcases this with rfl|rfl
    .exact xa
    .exact xb
  .obtain⟨i,T4,e4,t4,i0,i1⟩:=cu (m:=5) t3 (by decide)
   obtain⟨wd,hwd,hat⟩:∃wd∈PW,atI [OG "sum",.str "join",.str "same",.str "less",.str "part"] i=some (.str (Oe wd)):=by
    obtain⟨d,h,hm⟩:=fU (xs:=[OG "sum",.str "join",.str "same",.str "less",.str "part"]) i0 (by simpa using i1);simp at hm
    rcases hm with rfl|rfl|rfl|rfl|rfl
    .exact⟨"sum",by simp[PW],h⟩
    .exact⟨"join",by simp[PW],h⟩
    .exact⟨"same",by simp[PW],h⟩
    .exact⟨"less",by simp[PW],h⟩
    .exact⟨"part",by simp[PW],h⟩
   refine⟨.tuple [.str (Oe wd),a,b],T4,?_,t4,.pair hwd xa xb⟩;simp[iA,fH,e1,e2,e3,c1,c5,e4,hat]
theorem name_val(hx:isName (.str x)=true):aE (.str x)=true:=by
 obtain⟨u1,u2⟩:=de (n:=4) (tm hx);show (aF 4 (.str x)&&decide (aG 4 (.str x)<=40))=true;rw[u1,u2];rfl
theorem BK:isName (.str "kind")=true:=by decide +kernel
theorem mY{l:List Str}{m:Nat}(hn:Nms l m)(hm:0<m)(hm2:m<=12){p:Bool}:∀(n k g:Nat) (A T:Tp),b4 A T->n<k->n+g<=12->∃r T',cB k [.tp A.length,.d (.list (nmL l)),.d (.int (n:Int)),.d (.int (g:Int)),.d (.bool p)] T=some (r,T')/\b4 A T'/\Rg p g (n+2) r
 |n,0,g,A,T,_,hk,_=>absurd hk (Qg _)
 |n,k+1,g,A,T,t,hk,hg=>by
  obtain⟨w,T1,e1,t1,w0,w1⟩:=cu (m:=8) t (by decide);obtain⟨ex,T2,e2,t2,xe⟩:=Gd hn hm (g:=(g:Int)) t1
  by_cases c1:0<n/\w<4
  .obtain⟨c1,c2⟩:=c1
   obtain⟨n,rfl⟩:=br n (by omega)
   have c1':(0:Int)<((n+1:Nat):Int):=by omega
   have hs:((n+1:Nat):Int)-1=(n:Int):=by omega
   have hgs:((g+1:Nat):Int)=(g:Int)+1:=by omega
   obtain⟨wd,T3,t3,hwd,e3⟩:∃wd T3,b4 A T3/\(wd="want"\/(wd="peek"/\p=true))/\((p=false/\wd="want"/\T3=T2)\/(p=true/\∃j,bw [.tp A.length,.d (.int 4)] T2=some (.int j,T3)/\((j=0/\wd="peek")\/(¬j=0/\wd="want")))):=by
    cases p with
    |false=>exact⟨"want",T2,t2,.inl rfl,.inl ⟨rfl,rfl,rfl⟩⟩
    |true=>
     obtain⟨j,T3,e3,t3,j0,j1⟩:=cu (m:=4) t2 (by decide)
     by_cases hj:j=0
     .exact⟨"peek",T3,t3,.inr ⟨rfl,rfl⟩,.inr ⟨rfl,j,e3,.inl ⟨hj,rfl⟩⟩⟩
     .exact⟨"want",T3,t3,.inl rfl,.inr ⟨rfl,j,e3,.inr ⟨hj,rfl⟩⟩⟩
   obtain⟨j,T4,e4,t4,j0,j1⟩:=cu (m:=5) t3 (by decide)
   obtain⟨ex',T5,x5,t5,e5⟩:∃ex' T5,Ex (g:Int) 1 ex'/\b4 A T5/\((0<j/\∃i x,bw [.tp A.length,.d (.int (l.length:Int))] T4=some (.int i,T5)/\atI (nmL l) i=some (.str x)/\ex'=.tuple [.str "put",.str x])\/(¬0<j/\ex'=ex/\T5=T4)):=by
    by_cases hj:0<j
    .obtain⟨i,T5,e5,t5,i0,i1⟩:=cu (m:=(l.length:Int)) t4 (by rw[hn.len];omega)
     obtain⟨x,hx,hxn⟩:=yB hn i0 i1;exact⟨_,T5,.put (name_val hxn),t5,.inl ⟨hj,i,x,e5,hx,rfl⟩⟩
    .exact⟨ex,T4,xe,t4,.inr ⟨hj,rfl,rfl⟩⟩
   obtain⟨r,T6,e6,t6,xr⟩:=mY hn hm hm2 (p:=p) n k (g+1) A T5 t5 (by omega) (by omega);refine⟨.tuple [.str (Oe wd),ex',r],T6,?_,t6,.ask hwd (by omega) (x5.up (by omega)) xr⟩;rw[←hs,hgs] at e6;generalize ((n+1:Nat):Int)=N at e6 c1' ⊢;generalize (g:Int)=G at *;have i0:intD [.bool false]=some (.int 0):=rfl;have i1:intD [.bool true]=some (.int 1):=rfl
   rcases e5 with⟨hj,i,x,y1,y2,rfl⟩|⟨hj,rfl,rfl⟩
   .rcases e3 with⟨rfl,rfl,rfl⟩|⟨rfl,q,e3,⟨hq,rfl⟩|⟨hq,rfl⟩⟩
    .simp[cB,e1,e2,c1',c2,i0,i1,gF,gE,e4,hj,cL,y1,y2,e6]
    .simp[cB,e1,e2,c1',c2,i0,i1,gF,gE,e3,hq,e4,hj,cL,y1,y2,e6]
    .simp[cB,e1,e2,c1',c2,i0,i1,gF,gE,e3,hq,e4,hj,cL,y1,y2,e6]
   .rcases e3 with⟨rfl,rfl,rfl⟩|⟨rfl,q,e3,⟨hq,rfl⟩|⟨hq,rfl⟩⟩
    .simp[cB,e1,e2,c1',c2,i0,i1,gF,gE,e4,hj,e6]
    .simp[cB,e1,e2,c1',c2,i0,i1,gF,gE,e3,hq,e4,hj,e6]
    .simp[cB,e1,e2,c1',c2,i0,i1,gF,gE,e3,hq,e4,hj,e6]
  .by_cases c3:1<n/\w<6
   .obtain⟨c3,c4⟩:=c3
    obtain⟨n,rfl⟩:∃j,n=j+2:=⟨n-2,by omega⟩;have c5:¬w<4:=fun z=>c1 ⟨by omega,z⟩
    have hs:((n+2:Nat):Int)-2=(n:Int):=by omega
    have c3':(1:Int)<((n+2:Nat):Int):=by omega
    have c3'':(0:Int)<((n+2:Nat):Int):=by omega
    obtain⟨r,T3,e3,t3,xr⟩:=mY hn hm hm2 (p:=p) n k g A T2 t2 (by omega) (by omega);obtain⟨s,T4,e4,t4,xs⟩:=mY hn hm hm2 (p:=p) n k g A T3 t3 (by omega) (by omega);refine⟨.tuple [.str "when",ex,r,s],T4,?_,t4,.whn (n:=n+3) (xe.up (by omega)) (xr.up (by omega)) (xs.up (by omega))⟩;rw[←hs] at e3 e4;generalize ((n+2:Nat):Int)=N at e3 e4 c3' c3'' ⊢;generalize (g:Int)=G at *;simp[cB,e1,e2,c3',c3'',c5,c4,e3,e4]
   .have z1:¬((0:Int)<(n:Int)/\w<4):=fun z=>c1 ⟨by omega,z.2⟩
    have z3:¬((1:Int)<(n:Int)/\w<6):=fun z=>c3 ⟨by omega,z.2⟩
    have say:∀T4,b4 A T4->(¬w=6/\T4=T2\/w=6/\∃j,bw [.tp A.length,.d (.int 2)] T2=some (.int j,T4)/\¬j=0)->cB (k+1) [.tp A.length,.d (.list (nmL l)),.d (.int (n:Int)),.d (.int (g:Int)),.d (.bool p)] T=some (.tuple [.str "say",ex],T4):=fun T4 t4 h=>by
     generalize (n:Int)=N at z1 z3 ⊢;generalize (g:Int)=G at *
     rcases h with⟨h6,rfl⟩|⟨rfl,j,e3,hj⟩
     .by_cases a0:0<N
      .have b0:¬w<4:=fun z=>z1 ⟨a0,z⟩
       by_cases a1:1<N
       .have b1:¬w<6:=fun z=>z3 ⟨a1,z⟩
        simp[cB,e1,e2,a0,b0,a1,b1,h6]
       .simp[cB,e1,e2,a0,b0,a1,h6]
      .have a1:¬1<N:=by omega
       simp[cB,e1,e2,a0,a1,h6]
     .simp[cB,e1,e2,e3,hj]
    by_cases c6:w=6
    .obtain⟨j,T3,e3,t3,j0,j1⟩:=cu (m:=2) t2 (by decide)
     by_cases hj:j=0
     .obtain⟨i,T4,e4,t4,i0,i1⟩:=cu (m:=(l.length:Int)+2) t3 (by omega)
      obtain⟨x,hx,hxn⟩:∃x,atI (nmL l++[.str "kind",.str "name"]) i=some (.str x)/\isName (.str x)=true:=by
       obtain⟨d,h,hmem⟩:=fU (xs:=nmL l++[.str "kind",.str "name"]) i0 (by simp[cL];omega)
       rcases Oq.mp hmem with z|z
       .obtain⟨x,hx,rfl⟩:=Ot.mp z
        exact⟨x,h,hn.nm x hx⟩
       .simp at z
        rcases z with rfl|rfl
        .exact⟨_,h,BK⟩
        .exact⟨_,h,v6⟩
      refine⟨.tuple [.str "fail",.str x],T4,?_,t4,.fail hxn⟩
      have ll:l.length+2<=sizeLine:=by
       have:=iK;have:=hn.len;omega
      subst c6 hj;generalize (n:Int)=N at z1 z3 ⊢;generalize (g:Int)=G at *;simp[cB,e1,e2,e3,e4,cL,hx,ll]
     .exact⟨_,T3,say T3 t3 (.inr ⟨c6,j,e3,hj⟩),t3,.say (xe.up (by omega)) ⟩
    .exact⟨_,T2,say T2 t2 (.inl ⟨c6,rfl⟩),t2,.say (xe.up (by omega))⟩
structure BkP(p:Bool)(n:Nat)(S:List Str)(D0 R0:Dc):Prop where
 dk:∀q∈D0,∃x v,q=(.str x,v)/\aE v=true/\ao D0 x=some v/\x∈S
 rk:∀q∈R0,∃x r,q=(.str x,r)/\Rg p 0 n r/\ao R0 x=some r/\ao D0 x=none/\x∈S
 rnd:(R0.map (·.1)).Nodup
 len:D0.length+R0.length=S.length
 dnd:(D0.map (·.1)).Nodup
theorem BkP.nil:BkP p n [] [] []:=⟨by simp,by simp,by simp,rfl,by simp⟩
section
variable {p:Bool}{n:Nat}{S:List Str}{D0 R0:Dc}
theorem BkP.noD(b:BkP p n S D0 R0)(h:x∉S):ao D0 x=none:=by
 cases e:ao D0 x with
 |none=>rfl
 |some v=>
  obtain⟨y,_,e1,_,_,hy⟩:=b.dk _ (fF e);cases e1;exact absurd hy h
theorem BkP.noR(b:BkP p n S D0 R0)(h:x∉S):ao R0 x=none:=by
 cases e:ao R0 x with
 |none=>rfl
 |some v=>
  obtain⟨y,_,e1,_,_,_,hy⟩:=b.rk _ (fF e);cases e1;exact absurd hy h
theorem jw(h:ao G x=none):putN G x v=G++[(.str x,v)]:=by
 unfold putN;rw[h,if_neg (by simp)]
theorem BkP.putD(b:BkP p n S D0 R0)(h:x∉S)(hv:aE v=true):BkP p n (x::S) (putN D0 x v) R0:=by
 have nd:=b.noD h;refine⟨fun q hq=>?_,fun q hq=>?_,b.rnd,by rw[kI nd,OH];have:=b.len;omega,?_⟩
 .rw[jw nd] at hq
  rcases Oq.mp hq with z|z
  .obtain⟨y,u,rfl,h1,h2,h3⟩:=b.dk q z
   refine⟨y,u,rfl,h1,?_,Ob _ h3⟩;rw[en,if_neg (fun e=>h (by rw[e];exact h3))];exact h2
  .rw[Ov.mp z]
   exact⟨x,v,rfl,hv,by rw[en,if_pos rfl],Oc⟩
 .obtain⟨y,r,rfl,h1,h2,h3,h4⟩:=b.rk q hq
  refine⟨y,r,rfl,h1,h2,?_,Ob _ h4⟩;rw[en,if_neg (fun e=>h (by rw[e];exact h4))];exact h3
 .rw[jw nd,Pk,Pl]
  refine⟨b.dnd,by simp,fun a ha c hc e=>?_⟩;simp at hc;subst hc e;obtain⟨q,hq,e⟩:=Ot.mp ha;obtain⟨y,u,rfl,_,_,h4⟩:=b.dk q hq;cases e;exact h h4
theorem BkP.putR(b:BkP p n S D0 R0)(h:x∉S)(hr:Rg p 0 n r):BkP p n (x::S) D0 (putN R0 x r):=by
 have nd:=b.noR h;refine⟨fun q hq=>?_,fun q hq=>?_,?_,by rw[kI nd,OH];have:=b.len;omega,b.dnd⟩
 .obtain⟨y,u,rfl,h1,h2,h3⟩:=b.dk q hq
  exact⟨y,u,rfl,h1,h2,Ob _ h3⟩
 .rw[jw nd] at hq
  rcases Oq.mp hq with z|z
  .obtain⟨y,u,rfl,h1,h2,h3,h4⟩:=b.rk q z
   refine⟨y,u,rfl,h1,?_,h3,Ob _ h4⟩;rw[en,if_neg (fun e=>h (by rw[e];exact h4))];exact h2
  .rw[Ov.mp z]
   exact⟨x,r,rfl,hr,by rw[en,if_pos rfl],b.noD h,Oc⟩
 .rw[jw nd,Pk,Pl]
  refine⟨b.rnd,by simp,fun a ha c hc e=>?_⟩;simp at hc;subst hc e;obtain⟨q,hq,e⟩:=Ot.mp ha;obtain⟨y,u,rfl,_,_,_,h4⟩:=b.rk q hq;cases e;exact h h4
theorem BkP.bk(b:BkP p n S D0 R0)(hn:n<=20)(hl:S.length<=900):Bk p n D0 R0:=⟨fun q hq=>by
  obtain⟨x,v,e,h1,_⟩:=b.dk q hq
  exact⟨x,v,e,h1⟩,fun q hq=>by
  obtain⟨x,r,e,h1,h2,h3,_⟩:=b.rk q hq
  exact⟨x,r,e,h1,h2,h3⟩,b.rnd,by rw[b.len];exact hl,hn⟩
theorem BkP.sv(b:BkP p n S D0 R0)(hn:n<=8):SV 23 (bkD D0 R0):=by
 refine .tup (by simp) fun d hd=>?_;simp at hd
 rcases hd with rfl|rfl
 .refine .dct (fun q hq=>?_) fun q hq=>?_
  .obtain⟨x,v,rfl,_,h2,_⟩:=b.dk q hq
   exact⟨x,rfl,h2⟩
  .obtain⟨x,v,rfl,h1,h2,_⟩:=b.dk q hq
   exact(wX h1).up (by omega)
 .refine .dct (fun q hq=>?_) fun q hq=>?_
  .obtain⟨x,v,rfl,_,h2,_⟩:=b.rk q hq
   exact⟨x,rfl,h2⟩
  .obtain⟨x,v,rfl,h1,h2,_⟩:=b.rk q hq
   exact(Iz h1).up (by omega)
end
def bkF:FS:=(fIf (au (af eqD (aq bw (ae (aa 9) (ae (fC (.int 4)) ah))) (fC (.int 0)))) (cz 6 (af ixD (aa 5) (aa 8)) (aq (da 25) (ae (aa 9) (ae (aa 5) (ae (fC (.int 2)) ah))))) (cz 7 (af ixD (aa 5) (aa 8)) (aq (cB 25) (ae (aa 9) (ae (aa 5) (ae (af aR (fC (.int 1)) (aq bw (ae (aa 9) (ae (fC (.int 4)) ah)))) (ae (fC (.int 0)) (ae (aa 2) ah))))))))
def bkI:FS:=(gX 9 (ae (aq gc (ae (af aR (aq fB (ae (aa 0) (ae (af aR (af aR (aa 1) (fC (.int 1))) (aa 8)) ah))) (af b9 (fC (.int 977)) (aa 8))) (ae (fC (.int 60)) ah))) (ae (fC (.int 0)) ah)) bkF)
def bkS:FS:=(ak (aM 4 (af aR (fC (.int 3)) (aq bw (ae (aa 3) (ae (fC (.int 8)) ah))))) (ak (aM 5 (aq gI (ae (aa 3) (ae (af aR (aa 4) (fC (.int 2))) ah)))) (ak (dJ 6) (ak (dJ 7) (ak (cA 8 (dE (aa 4)) bkI) (ay (aC .tuple (ae (aa 6) (ae (aa 7) ah)))))))))
theorem F1:kr=aP 10 (gX 3 (ae (aq gc (ae (aq fB (ae (aa 0) (ae (aa 1) ah))) (ae (fC (.int 24)) ah))) (ae (fC (.int 0)) ah)) bkS):=rfl
theorem qm:gX i g fr ρ T=bnd (g ρ T) fun ws T1=>openK i fr ρ (d4 ws) T1:=rfl
theorem qo:openK i fr ρ (some [a,b]) T=jy T.length (fr (ρ.set i (some (.tp T.length))) (T++[[a,b]])):=rfl
theorem pI{n:Nat}{fl:Fl}{ρ:Rho}{T:Tp}{row:List N9}(h:T.length=n):jy n (some ((fl,ρ),T++[row]))=some ((fl,ia n ρ),T):=by
 have e:lJ (T++[row])=some (T,row):=by
  unfold lJ;have h1:List.getLast? (T++[row])=some row:=List.getLast?_concat ..;have h2:List.dropLast (T++[row])=T:=Uh ..;rw[h1,h2]
 simp[jy,e,h]
def ρB(ns:List Int)(p:Bool)(m:Int)(l:List Str)(D0 R0:Dc)(o8 o9:Option D.W):Rho:=[some (.d (cD ns)),some (.d (.int 1)),some (.d (.bool p)),some (.tp 0),some (.d (.int m)),some (.d (.list (nmL l))),some (.loc (.dict D0)),some (.loc (.dict R0)),o8,o9]
theorem HN:ia 1 (ρB ns p m l D0 R0 (some (.d (.int k))) (some (.tp 1)))=ρB ns p m l D0 R0 (some (.d (.int k))) none:=rfl
theorem Kb{ns:List Int}{p:Bool}{m:Int}{l:List Str}{j:Nat}{D0 R0:Dc}{k:Nat}{x:Str}{A T:Tp}(hA:A.length=1)(t:b4 A T)(hn:Nms l j)(hj:0<j)(hj2:j<=12)(hx:atI (nmL l) (k:Int)=some (.str x))(hD:D0.length<=1000)(hR:R0.length<=1000) :
  ∃D1 R1 T',bkF (ρB ns p m l D0 R0 (some (.d (.int (k:Int)))) (some (.tp 1))) T=some ((.nx,ρB ns p m l D1 R1 (some (.d (.int (k:Int)))) (some (.tp 1))),T')/\b4 A T'/\((∃v,aE v=true/\D1=putN D0 x v/\R1=R0)\/(∃r,Rg p 0 6 r/\D1=D0/\R1=putN R0 x r)):=by
 obtain⟨w,T1,e1,t1,w0,w1⟩:=cu (m:=4) t (by decide);rw[hA] at e1
 by_cases hw:w=0
 .obtain⟨v,T2,e2,t2,hv⟩:=y6 hn hj (n:=2) (by decide) t1
  rw[hA] at e2;refine⟨putN D0 x v,R0,T2,?_,t2,.inl ⟨v,hv,rfl,rfl⟩⟩;have e2':da 25 [.tp 1,.d (.list (nmL l)),.d (.int 2)] T1=some (v,T2):=e2;simp[bkF,ρB,e1,hw,e2',hx,hD]
 .obtain⟨i,T2,e2,t2,i0,i1⟩:=cu (m:=4) t1 (by decide)
  obtain⟨i,rfl⟩:∃q:Nat,i=(q:Int):=⟨i.toNat,by omega⟩;obtain⟨r,T3,e3,t3,hr⟩:=mY hn hj hj2 (p:=p) (1+i) 25 0 A T2 t2 (by omega) (by omega);rw[hA] at e2 e3;refine⟨D0,putN R0 x r,T3,?_,t3,.inr ⟨r,hr.up (by omega),rfl,rfl⟩⟩
  have e3':cB 25 [.tp 1,.d (.list (nmL l)),.d (.int (1+(i:Int))),.d (.int 0),.d (.bool p)] T2=some (r,T3):=by
   have z:((1+i:Nat):Int)=1+(i:Int):=by omega
   rw[z] at e3;exact e3
  simp[bkF,ρB,e1,hw,e2,e3',hx,hR]
theorem Ka{ns:List Int}{p:Bool}{m:Int}{l:List Str}{j:Nat}{D0 R0:Dc}{k:Nat}{x:Str}{T:Tp}(hA:T.length=1)(hn:Nms l j)(hj:0<j)(hj2:j<=12)(hx:atI (nmL l) (k:Int)=some (.str x))(hD:D0.length<=1000)(hR:R0.length<=1000) :
  ∃D1 R1,bkI (ρB ns p m l D0 R0 (some (.d (.int (k:Int)))) none) T=some ((.nx,ρB ns p m l D1 R1 (some (.d (.int (k:Int)))) none),T)/\((∃v,aE v=true/\D1=putN D0 x v/\R1=R0)\/(∃r,Rg p 0 6 r/\D1=D0/\R1=putN R0 x r)):=by
 obtain⟨c,ec⟩:=rR (ns:=ns) (k:=1+1+(k:Int)) (T:=T) (by omega);obtain⟨ds,ed,ld,hd⟩:=qV (c:=c+977*(k:Int)) (N:=60) (T:=T) (by decide) (by decide);have ld':ds.length=60:=ld;obtain⟨D1,R1,T',eF,tF,res⟩:=Kb (ns:=ns) (p:=p) (m:=m) hA (qY (A:=T) (ds:=ds) (by omega) (by omega) hd) hn hj hj2 hx hD hR;obtain⟨ds',i',rfl,_⟩:=tF;refine⟨D1,R1,?_,res⟩;have oe:=pI (fl:=.nx) (ρ:=ρB ns p m l D1 R1 (some (.d (.int (k:Int)))) (some (.tp 1))) (T:=T) (row:=[.list ds',.int i']) hA;rw[←eF,HN] at oe;rw[←oe];unfold bkI;rw[qm]
 have z:(1:Int)+1=2:=by decide
 rw[z] at ec;simp[ρB,ec,ed,qo,hA]
theorem ye{ns:List Int}{p:Bool}{m:Int}{l:List Str}{j:Nat}{T:Tp}(hA:T.length=1)(hn:Nms l j)(hj:0<j)(hj2:j<=12):∀(c k:Nat) (S:List Str) (D0 R0:Dc) (o8:Option D.W),k+c<=j->BkP p 6 S D0 R0->S.length=k->(∀y∈S,y∈l.take k) ->
  ∃D1 R1 S1 o,forL 8 bkI ((VB k c).map fun(i:Nat)=>P7 (i:Int)) (ρB ns p m l D0 R0 o8 none) T=some ((.nx,ρB ns p m l D1 R1 o none),T)/\BkP p 6 S1 D1 R1/\S1.length=k+c/\∀y∈S1,y∈l.take (k+c)
 |0,k,S,D0,R0,o8,_,b,hS,hb=>⟨D0,R0,S,o8,rfl,b,hS,hb⟩
 |c+1,k,S,D0,R0,o8,hk,b,hS,hsub=>by
  have hkl:k<l.length:=by rw[hn.len];omega
  have hx:atI (nmL l) (k:Int)=some (.str l[k]):=by
   unfold atI ixN;rw[cL,if_pos (by omega),if_pos (by omega)];simp[nmL,hkl]
  have hnx:l[k]∉S:=fun z=>by
   have z2:=hsub _ z;obtain⟨i,hi,e⟩:=Sv.mp z2;exact(List.pairwise_iff_getElem.mp hn.nd) i k (by omega) hkl (by omega) e
  have hlen:=b.len;obtain⟨D1,R1,e1,res⟩:=Ka (ns:=ns) (p:=p) (m:=m) hA hn hj hj2 hx (show D0.length<=1000 by omega) (show R0.length<=1000 by omega)
  have b1:BkP p 6 (l[k]::S) D1 R1:=by
   rcases res with⟨v,hv,rfl,rfl⟩|⟨r,hr,rfl,rfl⟩
   .exact b.putD hnx hv
   .exact b.putR hnx hr
  obtain⟨D2,R2,S2,o,e2,b2,h2,h3⟩:=ye (ns:=ns) (p:=p) (m:=m) hA hn hj hj2 c (k+1) (l[k]::S) D1 R1 (some (.d (.int (k:Int)))) (by omega) b1 (by simp;omega) fun y hy=>by
   rcases Oy.mp hy with rfl|z
   .exact Sv.mpr ⟨k,by omega,rfl⟩
   .exact List.take_subset_take_left l (by omega) (hsub y z)
  refine⟨D2,R2,S2,o,?_,b2,by omega,fun y hy=>by have:=h3 y hy;rwa [show k+1+c=k+(c+1) by omega] at this⟩;have st:bkI (U9 (ρB ns p m l D0 R0 o8 none) 8 (some (.d (.int (k:Int))))) T=some ((.nx,ρB ns p m l D1 R1 (some (.d (.int (k:Int)))) none),T):=e1;rw[List.range'_succ,OJ,gn st];exact e2
theorem tf(n:Nat):cv 0 n=(VB 0 n).map fun(i:Nat)=>P7 (i:Int):=by
 unfold cv;rw[List.range_eq_range']
 exact O4 fun i _=>by simp
theorem Ig(ns:List Int)(p:Bool):∃D0 R0 S,kr [.d (cD ns),.d (.int 1),.d (.bool p)] []=some (bkD D0 R0,[])/\BkP p 6 S D0 R0/\S.length<=10/\∀y∈S,isName (.str y)=true/\y≠ZZ:=by
 obtain⟨c,ec⟩:=rR (ns:=ns) (k:=1) (T:=[]) (by omega);obtain⟨ds,ed,ld,hd⟩:=qV (c:=c) (N:=24) (T:=[]) (by decide) (by decide);have ld':ds.length=24:=ld;obtain⟨w,T1,e1,t1,w0,w1⟩:=cu (m:=8) (qY (A:=[]) (ds:=ds) (by omega) (by omega) hd) (by decide);obtain⟨w,rfl⟩:∃q:Nat,w=(q:Int):=⟨w.toNat,by omega⟩;obtain⟨l,T2,e2,t2,hn⟩:=F9 (m:=3+w+2) t1 (by omega)
 have hA:T2.length=1:=by
  obtain⟨_,_,rfl,_⟩:=t2;rfl
 obtain⟨D1,R1,S1,o,e3,b,hS,hY⟩:=ye (ns:=ns) (p:=p) (m:=3+(w:Int)) hA hn (by omega) (by omega) (3+w) 0 [] [] [] none (by omega) BkP.nil rfl (by simp);refine⟨D1,R1,S1,?_,b,by omega,fun y hy=>⟨hn.nm y (Q2 (hY y hy)),hn.nz y (Q2 (hY y hy))⟩⟩;rw[←tf] at e3
 have zt:(3+(w:Int)).toNat=3+w:=by omega
 have hr:=iE (j:=3+(w:Int)) (by omega) (by omega)
 have z2:((3+w+2:Nat):Int)=3+(w:Int)+2:=by omega
 rw[z2] at e2;have e1':bw [.tp 0,.d (.int 8)] [[.list ds,.int 0]]=some (.int (w:Int),T1):=e1;have e2':gI [.tp 0,.d (.int (3+(w:Int)+2))] T1=some (.list (nmL l),T2):=e2
 have es:bkS [some (.d (cD ns)),some (.d (.int 1)),some (.d (.bool p)),some (.tp 0),none,none,none,none,none,none] [[.list ds,.int 0]]=some ((.rt (bkD D1 R1),ρB ns p (3+(w:Int)) l D1 R1 o none),T2):=by
  simp[ρB] at e3;simp[bkS,e1',e2',hr,zt,e3,ρB,bkD]
 obtain⟨ds',i',rfl,_⟩:=t2;have oe:=pI (n:=0) (fl:=.rt (bkD D1 R1)) (ρ:=ρB ns p (3+(w:Int)) l D1 R1 o none) (T:=[]) (row:=[.list ds',.int i']) rfl;rw[←es] at oe;rw[F1];simp[qm,ec,ed,qo];exact congrArg e9 oe
def lfI:FS:=(cz 1 (aa 2) (aq kh (ae (aa 2) (ae (af ixA (aa 0) (aa 2)) ah))))
theorem Jf:mq=aP 3 (ak (dJ 1) (ak (cA 2 (aW (aa 0)) lfI) (ay (aa 1)))):=rfl
theorem w4(T:Tp)(h:aE v=true):eQ 25 [.d v] T=some (.str (mk (cst 4 v)),T):=wM 4 25 v T (b6 h).1 (b6 h).2 (by decide)
theorem Gf(T:Tp)(h:StepOk p g n S):jp [.d S] T=some (bO S,T):=by
 rcases df h with⟨v,rfl,hv⟩|⟨x,rfl,_⟩|⟨b,x,r,rfl,_⟩
 .rw[fL]
  simp[jp,mdT,w4 T hv,stt]
 .rw[eU]
  simp[jp,flT]
 .rw[eV]
  cases b <;> simp[jp,asT,c9]
theorem Ib(T:Tp)(h:OkS p n s):kh [.d (.str x),.d (cm s)] T=some (ln x s,T):=by
 have c:bT bx (aC .tuple (ae (af ixD (aa 0) (fC (.int 0))) (ae (aq (eQ 25) (ae (af ixD (aa 0) (fC (.int 1))) ah)) ah))) [some (.d (.str x)),some (.d (cm s)),none] s.rd T=some (s.rd.map rdS,T):=dz fun d hd=>by
  obtain⟨y,v,rfl,hv⟩:=h.rv d hd;simp[w4 T hv,rdS,stt]
 have e:=Gf T h.st;have e1:ixD (cm s) (.int 1)=some (.tuple s.rd):=rfl;have e2:ixD (cm s) (.int 2)=some s.S:=rfl;simp[kh,e1,e2,c,e,ln,D.dA]
def lnL(R0:Dc)(st:Str->St3):Dc:=R0.map fun q=>(q.1,ln (nm q.1) (st (nm q.1)))
theorem Hc{st:Str->St3}:ao (lnL R0 st) x=(ao R0 x).map fun _=>ln x (st x):=by
 induction R0 with
 |nil=>rfl
 |cons q r ih=>
  obtain⟨k,d⟩:=q
  cases k with
  |str k=>
   by_cases hk:k=x
   .subst hk
    simp[lnL,ao,nm]
   .have:=ih
    simp[lnL] at this;simp[lnL,ao,hk,this]
  |_=>exact ih
section
variable {p:Bool}{n:Nat}{D0 R0:Dc}
theorem xB(B:Bk p n D0 R0){st:Str->St3}(ok:∀x r,ao R0 x=some r->OkS p n (st x)):∀(rest P:Dc) (on:Option D.W),R0=P++rest->∃on',forL 2 lfI (rest.map (·.1)) [some (.d (.dict (cmL R0 st))),some (.loc (.dict (lnL P st))),on] T=some ((.nx,[some (.d (.dict (cmL R0 st))),some (.loc (.dict (lnL R0 st))),on']),T)
 |[],P,on,e=>⟨on,by rw[e];simp[forL]⟩
 |q::rest,P,on,e=>by
  have hq:q∈R0:=by rw[e];simp
  obtain⟨x,r,rfl,hr,hk,_⟩:=B.rk q hq
  have nk:ao (lnL P st) x=none:=ve fun z=>by
   have nd:=B.rnd;rw[e,Pk,Pl] at nd;obtain⟨q,hq1,hq2⟩:=Ot.mp z;obtain⟨q',hq3,rfl⟩:=Ot.mp hq1;exact nd.2.2 q'.1 (Ot.mpr ⟨q',hq3,rfl⟩) (.str x) (by simp) hq2
  have pn:putN (lnL P st) x (ln x (st x))=lnL (P++[(OG x,r)]) st:=by
   unfold putN;rw[nk,if_neg (by simp)];simp[lnL,nm]
  have pl:(lnL P st).length<=1000:=by
   have:=B.len
   have e2:R0.length=P.length+(rest.length+1):=by rw[e];simp
   simp[lnL];omega
  have c1:ao (cmL R0 st) x=some (cm (st x)):=by rw[oi,hk];rfl
  have ll:=Ib (x:=x) T (ok x r hk)
  have st1:lfI (U9 [some (.d (.dict (cmL R0 st))),some (.loc (.dict (lnL P st))),on] 2 (some (.d (.str x)))) T=some ((.nx,[some (.d (.dict (cmL R0 st))),some (.loc (.dict (lnL (P++[(OG x,r)]) st))),some (.d (.str x))]),T):=by
   rw[←pn];simp[lfI,c1,ll,pl]
  rw[OJ,gn st1];exact xB B ok rest (P++[(.str x,r)]) _ (by rw[e];simp)
theorem Gb(B:Bk p n D0 R0){st:Str->St3}(ok:∀x r,ao R0 x=some r->OkS p n (st x))(T:Tp):mq [.d (.dict (cmL R0 st))] T=some (.dict (lnL R0 st),T):=by
 obtain⟨on,e⟩:=xB B ok (T:=T) R0 [] none rfl
 have ek:(cmL R0 st).map (·.1)=R0.map (·.1):=by simp[cmL]
 rw[Jf];have e0:lnL ([]:Dc) st=[]:=rfl;rw[e0] at e;simp[ek,e]
end
theorem AY:∀{l:List (List Nat)},c∈bg s l->c∈s\/∃x∈l,c∈x
 |[],h=>by simp[bg] at h
 |x::r,h=>by
  rw[gL] at h
  rcases Oq.mp h with z|z
  .exact .inr ⟨x,Oc,z⟩
  .obtain⟨y,hy,hc⟩:=List.mem_flatten.mp z
   obtain⟨q,hq,rfl⟩:=Ot.mp hy
   rcases Oq.mp hc with w|w
   .exact .inl w
   .exact .inr ⟨q,Ob _ hq,w⟩
theorem x9:∀(n:Nat) (d:N9),aF n d=true->∀c∈cst n d,c<128
 |n,d,h,c,hc=>by
  rcases b5 h with h1|⟨m,ds,rfl,rfl,_,hd⟩
  .rcases cy h1 with⟨i,rfl⟩|⟨x,rfl⟩
   .rw[k7] at hc
    rcases kU i c hc with z|z <;> omega
   .rw[k6] at hc
    rcases Oy.mp hc with z|z
    .omega
    .exact K1.iR K1.jU (ku h1) c z
  .have e:cst (m+1) (.tuple ds)=40::bg [44] (ds.map (cst m))++[41]:=rfl
   rw[e] at hc
   rcases Oq.mp hc with z|z
   .rcases Oy.mp z with z|z
    .omega
    .rcases AY z with w|⟨x,hx,hcx⟩
     .have:=Ov.mp w;omega
     .obtain⟨d',hd',rfl⟩:=Ot.mp hx
      exact x9 m d' (hd d' hd') c hcx
   .have:=Ov.mp z;omega
termination_by n=>n
theorem yz(h:∀c∈cd x,c<128):Qd x=true:=by
 unfold Qd;rw[Array.all_eq_true'];intro c hc;exact decide_eq_true (Tq (h c (by simpa[cd] using hc)) (by decide))
theorem yw(h:aE v=true):Qd (mk (cst 4 v))=true:=yz fun c hc=>x9 4 v (b6 h).1 c (by rw[bJ] at hc;exact hc)
theorem iX(h:isName (.str x)=true):Qd x=true:=by
 have h':(decide (1<=x.length)&&decide (x.length<=8)&&has LET x)=true:=h;rw[Oj] at h';exact yz (K1.iR K1.Ih h'.2)
inductive ST:Nat->N9->Prop where
 |s {n:Nat}{x:Str}:Qd x=true->ST n (.str x)
 |t {n:Nat}{ds:List N9}:(∀d∈ds,ST n d)->ST (n+1) (.tuple ds)
theorem ST.lay(h:ST n d):d.canLay0=true:=by
 induction h with
 |s h=>simpa[Qe] using h
 |t _ ih=>
  simp only[Qe];exact k8 ih
theorem ST.dep(h:ST n d):d.depth<=n+1:=by
 induction h with
 |s h=>simp[RI]
 |t _ ih=>
  simp only[RI];have:=mM ih;omega
theorem ST.shp(h:ST n d)(hn:n<=60):OL d=true:=by
 unfold OL;have:=h.dep;rw[h.lay,decide_eq_true (by omega)];rfl
theorem ST.eqv:∀(n:Nat) (a b:N9),ST n a->ST n b->(OP a b=true↔a=b)
 |n,a,b,ha,hb=>by
  cases ha with
  |s h1=>
   cases hb with
   |s h2=>simp[OP]
   |t h2=>simp[OP]
  |t h1=>
   cases hb with
   |s h2=>simp[OP]
   |t h2=>
    rename_i m ds es;have:=mz (P:=fun d=>ST m d) (ST.eqv m) ds es h1 h2;simp only[OP];rw[this];simp
termination_by n=>n
theorem vO(h:∀d∈l,ST n d)(hn:n<=60):OL (.list l)=true:=by
 unfold OL
 have h1:(QK l).canLay0=true:=by
  simp only[Qe];exact k8 fun d hd=>(h d hd).lay
 have h2:(QK l).depth<=64:=by
  simp only[RI];have:=mM (k:=n+1) fun d hd=>(h d hd).dep;omega
 rw[h1,decide_eq_true h2];rfl
def kn(ds:Dc):List Str:=ds.map fun q=>nm q.1
structure Al(p:Bool)(n:Nat)(D0 R0 G:Dc):Prop where
 B:Bk p n D0 R0
 hd:Sub D0 G
 hs:Snd D0 R0 G
 hc:∀x,ClsAt R0 G x
 nD:∀x v,ao D0 x=some v->isName (.str x)=true
 nR:∀x v,ao R0 x=some v->isName (.str x)=true
 kD:dq D0=nmL (kn D0)
 kR:dq R0=nmL (kn R0)
 mD:∀x,x∈kn D0↔∃v,ao D0 x=some v
 mR:∀x,x∈kn R0↔∃v,ao R0 x=some v
 len:D0.length+R0.length<=40
def dG:N9->Str
 |.tuple (.str x::_)=>x
 |_=>Oe ""
def rdN(s:St3):List Str:=s.rd.map dG
section
variable {p:Bool}{n:Nat}{D0 R0 G:Dc}
theorem Al.gv(a:Al p n D0 R0 G):GV G:=a.hs.gv a.B
theorem Al.key(a:Al p n D0 R0 G)(h:ao G x=some v):isName (.str x)=true:=by
 cases a.hs x v h with
 |told h=>exact a.nD x v h
 |made h _ _ _=>exact a.nR x _ h
theorem Al.ok(a:Al p n D0 R0 G)(h:ao R0 x=some r):OkS p n (stG R0 G x)/\oN G (stG R0 G x).S:=by
 rw[gT h];exact jF a.gv a.B.n20 (cS (a.B.rg h).1 a.B.n20)
theorem Al.reads(a:Al p n D0 R0 G)(h:ao R0 x=some r):∀d∈(stG R0 G x).rd,∃z v,d=.tuple [.str z,v]/\ao G z=some v:=fun d hd=>by
 rw[gT h] at hd
 rcases ug a.gv a.B.n20 (cS (a.B.rg h).1 a.B.n20) d hd with z|z
 .simp[s0] at z
 .exact z
theorem Al.st(a:Al p n D0 R0 G)(h:ao R0 x=some r):ST 3 (lnG R0 G x)/\∀d∈(stG R0 G x).rd.map rdS,ST 1 d:=by
 have hr:∀d∈(stG R0 G x).rd.map rdS,ST 1 d:=fun d hd=>by
  obtain⟨d',hd',rfl⟩:=Ot.mp hd;obtain⟨z,v,rfl,hk⟩:=a.reads h d' hd';refine .t fun d hd=>?_;simp at hd
  rcases hd with rfl|rfl
  .exact .s (iX (a.key hk))
  .exact .s (yw (a.gv z v hk))
 refine⟨.t fun d hd=>?_,hr⟩;simp at hd
 rcases hd with rfl|rfl|rfl
 .exact .s (iX (a.nR x r h))
 .exact .t hr
 .rcases df (a.ok h).1.st with⟨v,ev,hv⟩|⟨y,ev,hy⟩|⟨b,y,r',ev,hy⟩
  .rw[ev,fL]
   refine .t fun d hd=>?_;simp at hd
   rcases hd with rfl|rfl
   .exact .s (by decide +kernel)
   .exact .s (yw hv)
  .rw[ev,eU]
   refine .t fun d hd=>?_;simp at hd
   rcases hd with rfl|rfl
   .exact .s (by decide +kernel)
   .exact .s (iX hy)
  .rw[ev,eV]
   refine .t fun d hd=>?_;simp at hd
   rcases hd with rfl|rfl
   .exact .s (by decide +kernel)
   .exact .s (iX hy)
def ppr(R0 G:Dc)(xs:List Str):List PyData:=xs.map (lnG R0 G)
theorem gu:∀(ys xs:List Str),ys.Nodup->(∀y∈ys,y∈xs)->ys.length<=xs.length
 |[],_,_,_=>PH _
 |y::ys,xs,nd,h=>by
  obtain⟨n1,n2⟩:=OR.mp nd;have hy:=h y Oc;have:=gu ys (xs.erase y) n2 fun z hz=>(List.mem_erase_of_ne (fun e=>n1 (by rw[←e];exact hz))).mpr (h z (Ob _ hz));rw[List.length_erase_of_mem hy] at this;have:0<xs.length:=List.length_pos_of_mem hy;rw[OH];omega
theorem uk(ρ:Rho)(T:Tp):bT bx (af ixD (aa 0) (fC (.int 0))) ρ (ppr R0 G ys) T=some (nmL ys,T):=by
 have:=dz (e:=af ixD (aa 0) (fC (.int 0))) (ρ:=ρ) (T:=T) (g:=fun d=>.str (dG d)) (ds:=ppr R0 G ys) fun d hd=>by
  obtain⟨x,_,rfl⟩:=Ot.mp hd;have i0:ixD (lnG R0 G x) (.int 0)=some (.str x):=rfl;simp[i0];rfl
 rw[this]
 congr 2
 unfold ppr nmL;rw[Pe];exact O4 fun x _=>rfl
theorem EY(ys:List Str):(nmL ys).all b8=true:=Oz.mpr fun d hd=>by
 obtain⟨y,_,rfl⟩:=Ot.mp hd;rfl
theorem v5(a b:List Str):nmL a++nmL b=nmL (a++b):=by simp[nmL]
theorem w6(hk:dq ds=nmL l)(h:l.length<64):fQ (.dict ds)=some (.list (nmL (bI l))):=by
 have e:dm (nmL l)=some l:=by
  have:=kA (fun x:Str=>x) l;simpa[nmL] using this
 show iU (dm (dq ds))=_;rw[hk,e];show (if l.length<64 then _ else _)=_;rw[if_pos h];rfl
theorem dB(ds:Dc):(kn ds).length=ds.length:=by simp[kn]
end
def wn(S:N9):List Str:=match ff S with
 |some (_,x,_)=>[x]
 |none=>[]
def dps(R0 G:Dc)(x:Str):List Str:=rdN (stG R0 G x)++wn (stG R0 G x).S
theorem sort_mem:x∈bI A↔x∈A:=(fD A).mem_iff
theorem qx(h:A.Nodup):(bI A).Nodup:=(fD A).nodup_iff.mpr h
section
variable {p:Bool}{n:Nat}{D0 R0 G:Dc}
theorem Cu(a:Al p n D0 R0 G)(hr:ao R0 x=some r)(ρ:Rho)(T:Tp):bT bx (af ixD (aa 0) (fC (.int 0))) ρ ((stG R0 G x).rd.map rdS) T=some (nmL (rdN (stG R0 G x)),T):=by
 have:=dz (e:=af ixD (aa 0) (fC (.int 0))) (ρ:=ρ) (T:=T) (g:=fun d=>.str (dG d)) (ds:=(stG R0 G x).rd.map rdS) fun d hd=>by
  obtain⟨d',hd',rfl⟩:=Ot.mp hd;obtain⟨z,v,rfl,_⟩:=a.reads hr d' hd';have i0:ixD (rdS (.tuple [.str z,v])) (.int 0)=some (.str z):=rfl;simp[i0];rfl
 rw[this]
 congr 2
 unfold rdN nmL;rw[Pe,Pe]
 exact O4 fun d hd=>by
  obtain⟨z,v,rfl,_⟩:=a.reads hr d hd;rfl
theorem wV(S:N9):(wn S).length<=1:=by
 unfold wn
 split <;> simp
theorem qz(a:Al p n D0 R0 G)(hr:ao R0 x=some r):(rdN (stG R0 G x)).length<=12:=by
 have h:=(a.ok hr).1;have h1:=h.rd;have h2:=h.le;unfold rdN;rw[OS];omega
theorem FH(a:Al p n D0 R0 G)(hr:ao R0 x=some r):(dps R0 G x).length<=13:=by
 have h1:=qz a hr;have h2:=wV (stG R0 G x).S;unfold dps;rw[OE];omega
theorem Ck(a:Al p n D0 R0 G)(hr:ao R0 x=some r)(T:Tp):gj [.d (lnG R0 G x)] T=some (.list (nmL (dps R0 G x)),T):=by
 have rn:=fun ρ=>Cu a hr ρ T;have i1:ixD (lnG R0 G x) (.int 1)=some (.tuple ((stG R0 G x).rd.map rdS)):=rfl;have i2:ixD (lnG R0 G x) (.int 2)=some (bO (stG R0 G x).S):=rfl;have l1:=qz a hr;have bl:=iK
 have l2:(nmL (rdN (stG R0 G x))).length+1<=sizeLine:=by rw[cL];omega
 have l3:(nmL (rdN (stG R0 G x))).length<=sizeLine:=by omega
 rcases df (a.ok hr).1.st with⟨v,e,hv⟩|⟨w,e,hw⟩|⟨b,y,r',e,hy⟩
 .have dd:dps R0 G x=rdN (stG R0 G x):=by simp[dps,wn,e]
  rw[e,fL] at i2;rw[dd];simp[gj,i1,i2,rn,l3]
 .have dd:dps R0 G x=rdN (stG R0 G x):=by simp[dps,wn,e]
  rw[e,eU] at i2;have j0:ixD (flT w) (.int 0)=some (.str "fails"):=rfl;rw[dd];simp[gj,i1,i2,j0,rn,l3]
 .have dd:nmL (rdN (stG R0 G x))++[.str y]=nmL (dps R0 G x):=by simp[dps,wn,e,nmL]
  rw[e,eV] at i2;have j0:ixD (c9 "wants" (.str y)) (.int 0)=some (.str "wants"):=rfl;have j1:ixD (c9 "wants" (.str y)) (.int 1)=some (.str y):=rfl;simp[gj,i1,i2,j0,j1,rn,l2,dd]
theorem Cm(a:Al p n D0 R0 G)(T:Tp):∃L,mx [.d (bkD D0 R0)] T=some (.dict L,T)/\∀y,ao L y=if y∈kn R0 then some (lnG R0 G y) else none:=by
 obtain⟨G',st,e,h1,h2,h3,h4⟩:=H8 a.B T
 have ok:∀x r,ao R0 x=some r->OkS p n (st x):=fun x r hr=>by
  rw[h4 x r hr];exact(jF (Snd.gv a.B h1) a.B.n20 (cS (a.B.rg hr).1 a.B.n20)).1
 have el:=Gb a.B ok T;refine⟨lnL R0 st,by simp[mx,e,el],fun y=>?_⟩;rw[Hc]
 cases hr:ao R0 y with
 |none=>rw[if_neg fun z=>by obtain⟨v,q⟩:=(a.mR y).mp z;rw[hr] at q;cases q];rfl
 |some r=>
  rw[if_pos ((a.mR y).mpr ⟨r,hr⟩)];show some (ln y (st y))=some (lnG R0 G y);unfold lnG;rw[h4 y r hr,gT hr];rw[mG (fun z=>BW a.B h2 h1 h3 a.hd a.hs a.hc z) (Snd.gv a.B h1) a.B.n20 (cS (a.B.rg hr).1 a.B.n20)]
def tr(S:List Str):Dc:=S.map fun x=>(OG x,.bool true)
theorem yn(S:List Str)(y:Str):ao (tr S) y=if y∈S then some (.bool true) else none:=by
 induction S with
 |nil=>rfl
 |cons x r ih=>
  show (if x=y then some (SG true) else ao (tr r) y)=_;rw[ih]
  by_cases h:x=y
  .subst h;simp
  .have:¬y=x:=fun e=>h e.symm
   simp[h,this]
theorem Gs(h:x∉S):putN (tr S) x (.bool true)=tr (S++[x]):=by
 rw[jw (by rw[yn,if_neg h])];simp[tr]
def un(xs Q:List Str):Nat:=xs.countP fun x=>decide (x∉Q)
theorem Io:un xs (Q++[x])<=un xs Q:=countP_le fun q _ hq=>by
 simp at hq ⊢;exact hq.1
theorem Im(hx:x∈xs)(h:x∉Q):un xs (Q++[x])<un xs Q:=mN (a:=x) (fun q _ hq=>by
 simp at hq ⊢
 exact hq.1) hx (by simp[h]) (by simp)
def Uv(D0 R0 G:Dc)(rs:List Str):List Str:=rs++(kn D0++(kn R0++(kn R0).flatMap fun x=>wn (stG R0 G x).S))
theorem vi{f:Str->List Str}(h:∀x,(f x).length<=1):∀l:List Str,(l.flatMap f).length<=l.length
 |[]=>Ol _
 |x::l=>by
  have:=vi h l;have:=h x;rw[List.flatMap_cons,OE,OH];omega
theorem yi:(Uv D0 R0 G rs).length<=rs.length+D0.length+2*R0.length:=by
 have:=vi (f:=fun x=>wn (stG R0 G x).S) (fun x=>wV _) (kn R0);unfold Uv;rw[dB] at this;rw[OE,OE,OE,dB,dB];omega
theorem Al.gkey(a:Al p n D0 R0 G)(h:ao G z=some v):z∈kn D0\/z∈kn R0:=by
 cases a.hs z v h with
 |told h=>exact .inl ((a.mD z).mpr ⟨_,h⟩)
 |made h _ _ _=>exact .inr ((a.mR z).mpr ⟨_,h⟩)
theorem Jv(a:Al p n D0 R0 G)(hr:ao R0 x=some r):∀z∈dps R0 G x,z∈Uv D0 R0 G rs:=fun z hz=>by
 unfold Uv
 rcases Oq.mp hz with q|q
 .obtain⟨d,hd,rfl⟩:=Ot.mp q
  obtain⟨y,v,rfl,hk⟩:=a.reads hr d hd
  rcases a.gkey hk with w|w
  .exact Oo _ (OI _ w)
  .exact Oo _ (Oo _ (OI _ w))
 .exact Oo _ (Oo _ (Oo _ (List.mem_flatMap.mpr ⟨x,(a.mR x).mpr ⟨r,hr⟩,q⟩)))
structure Ri(D0 R0 G:Dc)(rs S left:List Str):Prop where
 nd:S.Nodup
 ro:∀r∈rs,r∈S\/r∈left
 cl:∀x∈S,x∈kn R0->∀z∈dps R0 G x,z∈S\/z∈left
 uS:∀x∈S,x∈Uv D0 R0 G rs
 uL:∀x∈left,x∈Uv D0 R0 G rs
def ρN(L:Dc)(x1:N9)(S left:List Str)(o:Option D.W):Rho:=[some (.d (.dict L)),some (.d x1),some (.loc (.dict (tr S))),some (.loc (.list (nmL left))),o]
theorem EK{ρ:Rho}{T:Tp}{rest:List Str}{x:Str}(e:ρ[3]? = some (some (.loc (.list (nmL (rest++[x])))))):j5 3 4 ρ T=some ((.nx,(ρ.set 3 (some (.loc (.list (nmL rest))))).set 4 (some (.d (.str x)))),T):=by
 have h1:(nmL (rest++[x]))[(nmL (rest++[x])).length-1]? = some (.str x):=by
  rw[cL];simp[nmL]
 have h2:(nmL (rest++[x])).dropLast=nmL rest:=by simp[nmL]
 unfold j5;rw[e];unfold rW;simp[h1,h2]
theorem xR(hf:f ρ T=some (.d (.list ys),T1))(hi:ρ[i]? = some (some (.loc (.list xs))))(hl:xs.length+ys.length<=Om):l7 i f ρ T=some ((.nx,ρ.set i (some (.loc (.list (xs++ys))))),T1):=by
 unfold l7;rw[hf]
 show (match D.W.d (.list ys),ρ[i]? with
  |.d (.list ys),some (some (.loc (.list xs)))=>if xs.length+ys.length<=Om then some ((Fl.nx,ρ.set i (some (D.W.loc (.list (xs++ys))))),T1) else none
  | _,_=>none)=_
 rw[hi];exact if_pos hl
theorem EX(a:Al p n D0 R0 G)(hL:∀y,ao L y=if y∈kn R0 then some (lnG R0 G y) else none){rs S rest:List Str}(I:Ri D0 R0 G rs S (rest++[x]))(hl:rest.length<=900)(hS:S.length<=1000) :
  ∃S' left',jg (ρN L x1 S (rest++[x]) o) T=some ((.nx,ρN L x1 S' left' (some (.d (.str x)))),T)/\Ri D0 R0 G rs S' left'/\left'.length+14*un (kn R0) S' < (rest++[x]).length+14*un (kn R0) S:=by
 have pp:=EK (ρ:=ρN L x1 S (rest++[x]) o) (T:=T) (rest:=rest) (x:=x) rfl;have ta:=yn S x;have bl:=iK;have hxU:=I.uL x (by simp)
 have l0:(rest++[x]).length=rest.length+1:=by simp
 by_cases hx:x∈S
 .refine⟨S,rest,?_,⟨I.nd,fun r hr=>?_,fun y hy hk z hz=>?_,I.uS,fun y hy=>I.uL y (by simp[hy])⟩,by omega⟩
  .rw[if_pos hx] at ta
   simp[ρN] at pp;simp[jg,ρN,pp,ta]
  .rcases I.ro r hr with z|z
   .exact .inl z
   .rcases Oq.mp z with z|z
    .exact .inr z
    .rw[Ov.mp z];exact .inl hx
  .rcases I.cl y hy hk z hz with q|q
   .exact .inl q
   .rcases Oq.mp q with q|q
    .exact .inr q
    .rw[Ov.mp q];exact .inl hx
 .rw[if_neg hx] at ta
  have nd':(S++[x]).Nodup:=Pl.mpr ⟨I.nd,by simp,fun u hu v hv z=>hx (by rw[←Ov.mp hv,←z];exact hu)⟩;have tp:=Gs hx
  have tl:(tr S).length<=1000:=by simpa[tr] using hS
  by_cases hk:x∈kn R0
  .obtain⟨r,hr⟩:=(a.mR x).mp hk
   have kl:ao L x=some (lnG R0 G x):=by rw[hL,if_pos hk]
   have ni:=Ck a hr T;have dl:=FH a hr;have lt:=Im hk hx
   have l1:(nmL rest).length+(nmL (dps R0 G x)).length<=sizeLine:=by rw[cL,cL];omega
   refine⟨S++[x],rest++dps R0 G x,?_,⟨nd',fun q hq=>?_,fun y hy hyk z hz=>?_,fun y hy=>?_,fun y hy=>?_⟩,by rw[OE];omega⟩
   .have ex:=xR (i:=3) (f:=cF (au (af inA (aa 4) (aa 0))) (aq gj (ae (af ixA (aa 0) (aa 4)) ah)) (aC .list ah)) (ρ:=ρN L x1 (S++[x]) rest (some (.d (.str x)))) (T:=T) (T1:=T) (xs:=nmL rest) (ys:=nmL (dps R0 G x)) (by simp[ρN,kl,ni]) rfl l1
    rw[v5] at ex;simp[ρN] at pp ex;simp[jg,ρN,pp,ta,tl,tp,ex]
   .rcases I.ro q hq with z|z
    .exact .inl (OI _ z)
    .rcases Oq.mp z with z|z
     .exact .inr (OI _ z)
     .exact .inl (Oo _ z)
   .rcases Oq.mp hy with w|w
    .rcases I.cl y w hyk z hz with q|q
     .exact .inl (OI _ q)
     .rcases Oq.mp q with q|q
      .exact .inr (OI _ q)
      .exact .inl (Oo _ q)
    .rw[Ov.mp w] at hz
     exact .inr (Oo _ hz)
   .rcases Oq.mp hy with w|w
    .exact I.uS y w
    .rw[Ov.mp w];exact hxU
   .rcases Oq.mp hy with w|w
    .exact I.uL y (OI _ w)
    .exact Jv a hr y w
  .have kl:ao L x=none:=by rw[hL,if_neg hk]
   have le:=Io (xs:=kn R0) (Q:=S) (x:=x);refine⟨S++[x],rest,?_,⟨nd',fun q hq=>?_,fun y hy hyk z hz=>?_,fun y hy=>?_,fun y hy=>I.uL y (by simp[hy])⟩,by omega⟩
   .have ex:=xR (i:=3) (f:=cF (au (af inA (aa 4) (aa 0))) (aq gj (ae (af ixA (aa 0) (aa 4)) ah)) (aC .list ah)) (ρ:=ρN L x1 (S++[x]) rest (some (.d (.str x)))) (T:=T) (T1:=T) (xs:=nmL rest) (ys:=[]) (by simp[ρN,kl]) rfl (by rw[cL];simp;omega)
    rw[PV] at ex;simp[ρN] at pp ex;simp[jg,ρN,pp,ta,tl,tp,ex]
   .rcases I.ro q hq with z|z
    .exact .inl (OI _ z)
    .rcases Oq.mp z with z|z
     .exact .inr z
     .exact .inl (Oo _ z)
   .rcases Oq.mp hy with w|w
    .rcases I.cl y w hyk z hz with q|q
     .exact .inl (OI _ q)
     .rcases Oq.mp q with q|q
      .exact .inr q
      .exact .inl (Oo _ q)
    .rw[Ov.mp w] at hyk
     exact absurd hyk hk
   .rcases Oq.mp hy with w|w
    .exact I.uS y w
    .rw[Ov.mp w];exact hxU
def nrC:FT:=(au (af gtD (fCB aT (ae (aa 3) ah)) (fC (.int 0))))
theorem u9(a:Al p n D0 R0 G)(hL:∀y,ao L y=if y∈kn R0 then some (lnG R0 G y) else none)(hU:(Uv D0 R0 G rs).length<=900):∀(m:Nat) (S left:List Str) (o:Option D.W),Ri D0 R0 G rs S left->left.length+14*un (kn R0) S<m->left.length+14*un (kn R0) S<=900 ->
  ∃S' o',bL nrC jg m (ρN L x1 S left o) T=some ((.nx,ρN L x1 S' [] o'),T)/\Ri D0 R0 G rs S' []
 |0,S,left,o,_,h,_=>by omega
 |m+1,S,left,o,I,h,h2=>by
  rcases List.eq_nil_or_concat left with rfl|⟨rest,x,rfl⟩
  .exact⟨S,o,kP (by simp[nrC,ρN,nmL]),I⟩
  .rw[List.concat_eq_append] at *
   have hS:=gu S _ I.nd I.uS
   have l0:(rest++[x]).length=rest.length+1:=by simp
   obtain⟨S',left',e,I',lt⟩:=EX a hL (x1:=x1) (o:=o) (T:=T) I (by omega) (by omega)
   have hc:nrC (ρN L x1 S (rest++[x]) o) T=some (true,T):=by
    have:(0:Int)<((nmL (rest++[x])).length:Int):=by rw[cL];omega
    simp only[nmL,OS] at this;simp[nrC,ρN,nmL]
   rw[jE hc e];exact u9 a hL hU m S' left' _ I' (by omega) (by omega)
theorem Bj(a:Al p n D0 R0 G)(hL:∀y,ao L y=if y∈kn R0 then some (lnG R0 G y) else none)(hr:rs.length<=20)(hb:D0.length+R0.length<=12)(T:Tp):∃S,kc [.d (.dict L),.d (.list (nmL rs))] T=some (.list (nmL (bI S)),T)/\Ri D0 R0 G rs S []:=by
 have hU:=yi (D0:=D0) (R0:=R0) (G:=G) (rs:=rs);have u0:un (kn R0) []<=R0.length:=OX TV (by rw[dB];exact Ol _);have I0:Ri D0 R0 G rs [] rs:=⟨by simp,fun r h=>.inr h,by simp,by simp,fun x hx=>OI _ hx⟩;obtain⟨S,o,e,I⟩:=u9 a hL (x1:=.list (nmL rs)) (T:=T) (by omega) 100000 [] rs none I0 (by omega) (by omega);have hS:=gu S _ I.nd I.uS;have so:=w6 (ds:=tr S) (l:=S) (by simp[dq,tr,nmL]) (by omega);refine⟨S,?_,I⟩;rw[zO];have e0:tr []=[]:=rfl;have cC:(au (af gtD (fCB aT (ae (aa 3) ah)) (fC (.int 0))))=nrC:=rfl;have sl:nZ 3 (aa 1) ([some (.d (.dict L)),some (.d (.list (nmL rs))),some (.loc (.dict [])),none,none]) T=some ((.nx,[some (.d (.dict L)),some (.d (.list (nmL rs))),some (.loc (.dict [])),some (.loc (.list (nmL rs))),none]),T):=rfl;rw[cC];simp[ρN,e0] at e;simp[sl,e,so]
end
def ldc(R0 G:Dc)(K:List Str):Dc:=K.map fun x=>(OG x,lnG R0 G x)
theorem HF{α:Type}(p:α->Bool)(l:List α):oX [.list (l.map fun d=>.bool (p d))]=some (.bool (l.any p)):=by
 show (gy _).map (fun bs=>SG (bs.any id))=_;rw[pJ,RX,Tw];rfl
section
variable {p:Bool}{n:Nat}{D0 R0 G:Dc}
theorem nX(K:List Str)(y:Str):ao (ldc R0 G K) y=if y∈K then some (lnG R0 G y) else none:=by
 induction K with
 |nil=>rfl
 |cons x r ih=>
  show (if x=y then some (lnG R0 G x) else ao (ldc R0 G r) y)=_;rw[ih]
  by_cases h:x=y
  .subst h;simp
  .have:¬y=x:=fun e=>h e.symm
   simp[h,this]
theorem E7{K:List Str}{x:Str}(h:x∉K):putN (ldc R0 G K) x (lnG R0 G x)=ldc R0 G (K++[x]):=by
 rw[jw (by rw[nX,if_neg h])];simp[ldc]
theorem C0(K:List Str):dq (ldc R0 G K)=nmL K:=by simp[dq,ldc,nmL]
theorem wb(K:List Str):(ldc R0 G K).length=K.length:=by simp[ldc]
theorem C1:dF (ldc R0 G A) s=ldc R0 G (A.filter fun n=>!decide (n=s)):=by
 induction A with
 |nil=>rfl
 |cons a r ih=>
  show List.filter _ ((OG a,lnG R0 G a)::ldc R0 G r)=_;unfold dF at ih;rw[P5,ih]
  by_cases e:a=s
  .simp[e]
  .simp[e,ldc]
theorem rF(hL:∀y,ao L y=if y∈kn R0 then some (lnG R0 G y) else none):∀(r K:List Str) (o:Option D.W),(K++r).Nodup->(K++r).length<=900 ->
  ∃o',forL 3 jh (nmL r) [some (.d (.dict L)),some (.d x1),some (.loc (.dict (ldc R0 G K))),o] T=some ((.nx,[some (.d (.dict L)),some (.d x1),some (.loc (.dict (ldc R0 G (K++r.filter fun x=>decide (x∈kn R0))))),o']),T)
 |[],K,o,_,_=>⟨o,by simp[nmL,forL]⟩
 |x::r,K,o,nd,hl=>by
  have hk:x∉K:=fun z=>(Pl.mp nd).2.2 x z x Oc rfl
  by_cases hx:x∈kn R0
  .have kl:ao L x=some (lnG R0 G x):=by rw[hL,if_pos hx]
   have lp:=E7 (R0:=R0) (G:=G) hk
   have ll:(ldc R0 G K).length<=1000:=by rw[wb];simp at hl;omega
   obtain⟨o',e⟩:=rF hL (x1:=x1) (T:=T) r (K++[x]) (some (.d (.str x))) (by simpa using nd) (by simpa using hl);refine⟨o',?_⟩
   have st:jh (U9 [some (.d (.dict L)),some (.d x1),some (.loc (.dict (ldc R0 G K))),o] 3 (some (.d (.str x)))) T=some ((.nx,[some (.d (.dict L)),some (.d x1),some (.loc (.dict (ldc R0 G (K++[x])))),some (.d (.str x))]),T):=by
    simp[jh,kl,ll,lp]
   refine(gn st).trans (e.trans ?_);simp[hx]
  .have kl:ao L x=none:=by rw[hL,if_neg hx]
   obtain⟨o',e⟩:=rF hL (x1:=x1) (T:=T) r K (some (.d (.str x))) (Rn (WC (List.sublist_cons_self x r) K) nd) (by simp at hl ⊢;omega);refine⟨o',?_⟩
   have st:jh (U9 [some (.d (.dict L)),some (.d x1),some (.loc (.dict (ldc R0 G K))),o] 3 (some (.d (.str x)))) T=some ((.nx,[some (.d (.dict L)),some (.d x1),some (.loc (.dict (ldc R0 G K))),some (.d (.str x))]),T):=by
    simp[jh,kl]
   refine(gn st).trans (e.trans ?_);simp[hx]
theorem Bl(a:Al p n D0 R0 G)(hL:∀y,ao L y=if y∈kn R0 then some (lnG R0 G y) else none)(hr:rs.length<=20)(hb:D0.length+R0.length<=12)(T:Tp) :
  ∃K,mh [.d (.dict L),.d (.list (nmL rs))] T=some (.dict (ldc R0 G K),T)/\K.Nodup/\(∀x∈K,x∈kn R0)/\(∀r∈rs,r∈kn R0->r∈K)/\∀x∈K,∀z∈dps R0 G x,z∈kn R0->z∈K:=by
 obtain⟨S,e,I⟩:=Bj a hL hr hb T;have hU:=yi (D0:=D0) (R0:=R0) (G:=G) (rs:=rs);have hS:=gu S _ I.nd I.uS;have sl:(bI S).length=S.length:=(fD S).length_eq;obtain⟨o,f⟩:=rF hL (x1:=.list (nmL rs)) (T:=T) (bI S) [] none (by simpa using qx I.nd) (by simp;omega)
 have mem:∀x,x∈(bI S).filter (fun x=>decide (x∈kn R0))↔x∈S/\x∈kn R0:=fun x=>by
  rw[Pg,sort_mem,decide_eq_true_iff]
 refine⟨(bI S).filter fun x=>decide (x∈kn R0),?_,Rn R3 (qx I.nd),fun x hx=>((mem x).mp hx).2,fun r hr hk=>(mem r).mpr ⟨(I.ro r hr).resolve_right (by simp),hk⟩,fun x hx z hz hk=>?_⟩
 .rw[zP]
  have e0:ldc R0 G []=[]:=rfl;rw[e0] at f;simp at f;simp[e,f]
 .obtain⟨h1,h2⟩:=(mem x).mp hx
  exact(mem z).mpr ⟨(I.cl x h1 h2 z hz).resolve_right (by simp),hk⟩
def bz(R0 G:Dc)(A:List Str)(x:Str):Bool:=(rdN (stG R0 G x)).any fun z=>decide (z∈A)
theorem F6(a:Al p n D0 R0 G)(hr:ao R0 x=some r)(T:Tp):iu [.d (.dict (ldc R0 G A)),.d (lnG R0 G x)] T=some (.bool (!bz R0 G A x),T):=by
 have i1:ixD (lnG R0 G x) (.int 1)=some (.tuple ((stG R0 G x).rd.map rdS)):=rfl
 have c:=dz (e:=af inA (af ixD (aa 0) (fC (.int 0))) (aa 1)) (ρ:=[some (.d (.dict (ldc R0 G A))),some (.d (lnG R0 G x))]) (T:=T) (g:=fun d=>.bool (decide (dG d∈A))) (ds:=(stG R0 G x).rd.map rdS) fun d hd=>by
  obtain⟨d',hd',rfl⟩:=Ot.mp hd;obtain⟨z,v,rfl,_⟩:=a.reads hr d' hd';have i0:ixD (rdS (.tuple [.str z,v])) (.int 0)=some (.str z):=rfl;have la:=nX (R0:=R0) (G:=G) A z;have nz:dG (rdS (.tuple [.str z,v]))=z:=rfl
  by_cases h:z∈A
  .rw[if_pos h] at la
   simp[i0,la,nz,h]
  .rw[if_neg h] at la
   simp[i0,la,nz,h]
 have an:=HF (fun d=>decide (dG d∈A)) ((stG R0 G x).rd.map rdS)
 have eb:((stG R0 G x).rd.map rdS).any (fun d=>decide (dG d∈A))=bz R0 G A x:=by
  unfold bz rdN;rw[Tw,Tw,PJ,P8,P8];constructor
  .rintro⟨d,hd,h⟩
   obtain⟨z,v,rfl,_⟩:=a.reads hr d hd;exact⟨_,hd,h⟩
  .rintro⟨d,hd,h⟩
   obtain⟨z,v,rfl,_⟩:=a.reads hr d hd;exact⟨_,hd,h⟩
 rw[eb] at an;simp[iu,i1,c,an,-Pe]
def ρI(R0 G:Dc)(DD:N9)(Q A:List Str)(o3 o4:Option D.W):Rho:=[some (.d DD),some (.loc (.list (ppr R0 G Q))),some (.loc (.dict (ldc R0 G A))),o3,o4]
theorem yh:∀(F Q A:List Str) (o4:Option D.W),F.Nodup->(∀x∈F,x∈A)->Q.length+F.length<=900->∃p4,forL 4 ph (nmL F) (ρI R0 G DD Q A o3 o4) T=some ((.nx,ρI R0 G DD (Q++F) (A.filter fun n=>!decide (n∈F)) o3 p4),T)
 |[],Q,A,o4,_,_,_=>⟨o4,by
  have:A.filter (fun n=>!decide (n∈([]:List Str)))=A:=by simp
  rw[this,PV];rfl⟩
 |x::F,Q,A,o4,nd,hs,hl=>by
  rw[OR] at nd;rw[OH] at hl;have hx:=hs x Oc
  have hf:∀y∈F,y∈A.filter fun n=>!decide (n=x):=fun y hy=>Pg.mpr ⟨hs y (Ob _ hy),by
   have:y≠x:=fun z=>nd.1 (z ▸ hy)
   simp[this]⟩
  obtain⟨p4,ih⟩:=yh (DD:=DD) (T:=T) (o3:=o3) F (Q++[x]) (A.filter fun n=>!decide (n=x)) (some (.d (.str x))) nd.2 hf (by simp;omega);refine⟨p4,?_⟩
  have kd:ao (ldc R0 G A) x=some (lnG R0 G x):=by rw[nX,if_pos hx]
  have z:(ppr R0 G Q).length<1000:=by simp[ppr];omega
  have apq:ppr R0 G Q++[lnG R0 G x]=ppr R0 G (Q++[x]):=by simp[ppr]
  have bd:ph ((ρI R0 G DD Q A o3 o4).set 4 (some (.d (.str x)))) T=some ((.nx,ρI R0 G DD (Q++[x]) (A.filter fun n=>!decide (n=x)) o3 (some (.d (.str x)))),T):=by
   show ma 1 2 _ (.d (.str x)) T (some (some (.loc (.list (ppr R0 G Q))))) (some (some (.loc (.dict (ldc R0 G A)))))=_;unfold ma;dsimp only;rw[kd];dsimp only;rw[if_pos z,C1,apq];rfl
  refine(gn bd).trans (ih.trans ?_)
  have fe:(A.filter fun n=>!decide (n=x)).filter (fun n=>!decide (n∈F))=A.filter fun n=>!decide (n∈x::F):=by
   rw[List.filter_filter];refine List.filter_congr fun y _=>?_
   by_cases e1:y=x <;> by_cases e2:y∈F <;> simp[e1,e2]
  rw[fe,RD];rfl
def fu(R0 G:Dc)(K:List Str):List Str->List Str->Prop
 |_,[]=>True
 |laid,x::r=>(∀z∈rdN (stG R0 G x),z∈K->z∈laid)/\fu R0 G K (laid++[x]) r
theorem vY{K:List Str}:∀{Q laid F:List Str},fu R0 G K laid Q->fu R0 G K (laid++Q) F->fu R0 G K laid (Q++F)
 |[],_,_,_,h=>by simpa using h
 |x::Q,laid,F,h1,h2=>⟨h1.1,vY h1.2 (by simpa using h2)⟩
theorem vZ{K:List Str}:∀{F laid laid':List Str},(∀x∈laid,x∈laid')->(∀x∈F,∀z∈rdN (stG R0 G x),z∈K->z∈laid)->fu R0 G K laid' F
 |[],_,_,_,_=>trivial
 |x::F,laid,laid',h1,h2=>⟨fun z hz hk=>h1 z (h2 x Oc z hz hk),vZ (laid:=laid) (fun y hy=>OI _ (h1 y hy)) fun y hy=>h2 y (Ob _ hy)⟩
structure KI(R0 G:Dc)(K Q A:List Str):Prop where
 nd:(Q++A).Nodup
 mem:∀x,x∈Q++A↔x∈K
 ord:fu R0 G K [] Q
def ioC:FT:=(au (af gtD (fCB aT (ae (aa 2) ah)) (fC (.int 0))))
theorem E9(a:Al p n D0 R0 G)(hA:∀x∈A,x∈kn R0)(hl:A.length<64):aM 3 (bb (aW (fUn fQ (aa 2))) (aK (d0 (aq iu (ae (aa 3) (ae (af ixA (aa 3) (aa 0)) ah))))) (aa 0)) (ρI R0 G DD Q A o3 o4) T=some ((.nx,ρI R0 G DD Q A (some (.d (.list (nmL ((bI A).filter fun x=>!bz R0 G A x))))) o4),T):=by
 have so:=w6 (C0 (R0:=R0) (G:=G) A) hl
 have c:=gf (c:=aK (d0 (aq iu (ae (aa 3) (ae (af ixA (aa 3) (aa 0)) ah))))) (ρ:=ρI R0 G DD Q A o3 o4) (T:=T) (p:=fun d=>!bz R0 G A (nm d)) (ds:=nmL (bI A)) fun d hd=>by
  obtain⟨x,hx,rfl⟩:=Ot.mp hd;have hx':=sort_mem.mp hx;obtain⟨r,hr⟩:=(a.mR x).mp (hA x hx')
  have kd:ao (ldc R0 G A) x=some (lnG R0 G x):=by rw[nX,if_pos hx']
  have rn:=F6 a (A:=A) hr [];have lk:jY T (some (.d (.bool (!bz R0 G A x)),[]))=some (.d (.bool (!bz R0 G A x)),T):=jq rfl;simp[ρI,kd,rn,lk,nm]
 have cf:(nmL (bI A)).filter (fun d=>!bz R0 G A (nm d))=nmL ((bI A).filter fun x=>!bz R0 G A x):=by
  unfold nmL;rw[VL];rfl
 rw[cf] at c
 have u:fUn fQ (aa 2) (ρI R0 G DD Q A o3 o4) T=some (.d (.list (nmL (bI A))),T):=by
  show mkD T (fQ (.dict (ldc R0 G A)))=_;rw[so];rfl
 rw[Hz,Fu,Fs,u];simp only[fS,HB,B7,HD,c,Fo];rfl
theorem Bq(a:Al p n D0 R0 G)(hA:∀x∈A,x∈kn R0)(h:∀x∈A,bz R0 G A x=true):A=[]:=by
 have no:∀x v,Der D0 R0 x v->x∉A:=by
  intro x v d
  induction d with
  |told hk=>
   intro hx;obtain⟨r,hr⟩:=(a.mR _).mp (hA _ hx);rw[(a.B.rg hr).2] at hk;cases hk
  |made hr hG1 hall e ih=>
   rename_i x v r G1;intro hx;have hb:=h x hx;unfold bz at hb;obtain⟨z,hz,hzA⟩:=P8.mp hb;have hsub:Sub G1 G:=fun y u q=>oh a.B a.hd a.hs a.hc (hall y u q);have h1:=mT hsub hG1 a.B.n20 (cS (a.B.rg hr).1 a.B.n20);rw[mU e] at h1;obtain⟨d,hd,rfl⟩:=Ot.mp hz;rw[gT hr,←h1] at hd
   rcases ug hG1 a.B.n20 (cS (a.B.rg hr).1 a.B.n20) d hd with w|⟨y,u,rfl,hk⟩
   .simp[s0] at w
   .exact ih y u hk (of_decide_eq_true hzA)
 cases A with
 |nil=>rfl
 |cons x A=>
  exfalso;have hb:=h x Oc;unfold bz at hb;obtain⟨z,hz,hzA⟩:=P8.mp hb;obtain⟨r,hr⟩:=(a.mR x).mp (hA x Oc);obtain⟨d,hd,rfl⟩:=Ot.mp hz;obtain⟨y,u,rfl,hk⟩:=a.reads hr d hd;exact no y u (a.hs y u hk) (of_decide_eq_true hzA)
theorem vf(a:Al p n D0 R0 G){K:List Str}(hK:∀x∈K,x∈kn R0)(hl:K.length<=40):∀(m:Nat) (Q A:List Str) (o3 o4:Option D.W),KI R0 G K Q A->A.length<m ->
  ∃Q' p3 p4,bL ioC mn m (ρI R0 G DD Q A o3 o4) T=some ((.nx,ρI R0 G DD Q' [] p3 p4),T)/\KI R0 G K Q' []
 |0,Q,A,o3,o4,_,h=>by omega
 |m+1,Q,A,o3,o4,I,h=>by
  have ll:=wb (R0:=R0) (G:=G) A
  by_cases h0:A=[]
  .subst h0
   exact⟨Q,o3,o4,kP (by simp[ioC,ρI,ldc]),I⟩
  .have hp:0<A.length:=List.length_pos_iff.mpr h0
   have sub:∀x∈A,x∈kn R0:=fun x hx=>hK x ((I.mem x).mp (Oo _ hx));have kl:=gu _ K I.nd fun x hx=>(I.mem x).mp hx;rw[OE] at kl;have s1:=E9 a (DD:=DD) (Q:=Q) sub (by omega) (o3:=o3) (o4:=o4) (T:=T);obtain⟨F,hF⟩:∃F,F=(bI A).filter fun x=>!bz R0 G A x:=⟨_,rfl⟩;rw[←hF] at s1
   have Fm:∀x,x∈F↔x∈A/\bz R0 G A x=false:=fun x=>by
    rw[hF,Pg,sort_mem];simp
   obtain⟨ndq,nda,dis⟩:=Pl.mp I.nd
   have Fnd:F.Nodup:=by rw[hF];exact Rn R3 (qx nda)
   have Fne:F≠[]:=fun z=>h0 (Bq a sub fun x hx=>by
    cases hb:bz R0 G A x with
    |true=>rfl
    |false=>
     have:=(Fm x).mpr ⟨hx,hb⟩;rw[z] at this
     cases this)
   have fl:F.length<=A.length:=gu F A Fnd fun x hx=>((Fm x).mp hx).1;obtain⟨p4,f⟩:=yh (R0:=R0) (G:=G) (DD:=DD) (T:=T) (o3:=some (.d (.list (nmL F)))) F Q A o4 Fnd (fun x hx=>((Fm x).mp hx).1) (by omega)
   have hc:ioC (ρI R0 G DD Q A o3 o4) T=some (true,T):=by
    simp[ioC,ρI];rw[ll];exact hp
   have fp:¬nmL F=[]:=fun z=>Fne (by simpa[nmL] using z)
   have hb:mn (ρI R0 G DD Q A o3 o4) T=some ((.nx,ρI R0 G DD (Q++F) (A.filter fun n=>!decide (n∈F)) (some (.d (.list (nmL F)))) p4),T):=by
    unfold mn;rw[HA,s1,fS,Fp];simp[ρI] at f;simp[ρI,fp,f]
   rw[jE hc hb]
   have lt:(A.filter fun n=>!decide (n∈F)).length<A.length:=by
    obtain⟨x,hx⟩:=List.exists_mem_of_ne_nil F Fne;have q:=mN (f:=fun _=>true) (g:=fun n=>!decide (n∈F)) (a:=x) (l:=A) (fun _ _ _=>rfl) ((Fm x).mp hx).1 rfl (by simp[hx]);rw[←List.countP_eq_length_filter];simpa using q
   refine vf a hK hl m _ _ _ _ ⟨Pl.mpr ⟨Pl.mpr ⟨ndq,Fnd,fun x hx y hy e=>dis x hx y ((Fm y).mp hy).1 e⟩,Rn R3 nda,fun x hx y hy e=>?_⟩,fun x=>?_,vY I.ord (vZ (laid:=Q) (fun x hx=>by simpa using hx) fun x hx z hz hk=>?_)⟩ (by omega)
   .obtain⟨hy1,hy2⟩:=Pg.mp hy
    rcases Oq.mp hx with w|w
    .exact dis x w y hy1 e
    .rw[←e] at hy2
     simp[w] at hy2
   .rw[←I.mem x]
    simp only[Oq,Pg,U4,decide_eq_false_iff_not];constructor
    .rintro((w|w)|w)
     .exact .inl w
     .exact .inr ((Fm x).mp w).1
     .exact .inr w.1
    .rintro(w|w)
     .exact .inl (.inl w)
     .by_cases q:x∈F
      .exact .inl (.inr q)
      .exact .inr ⟨w,q⟩
   .have hb:=((Fm x).mp hx).2
    rcases Oq.mp ((I.mem z).mpr hk) with w|w
    .exact w
    .exfalso
     have:bz R0 G A x=true:=P8.mpr ⟨z,hz,decide_eq_true w⟩;rw[hb] at this;cases this
theorem F8(a:Al p n D0 R0 G)(hr:rs.length<=20)(hb:D0.length+R0.length<=12)(T:Tp) :
  ∃Q,jm [.d (bkD D0 R0),.d (.list (nmL rs))] T=some (.list (ppr R0 G Q),T)/\Q.Nodup/\(∀x∈Q,x∈kn R0)/\(∀r∈rs,r∈kn R0->r∈Q)/\(∀x∈Q,∀z∈dps R0 G x,z∈kn R0->z∈Q)/\fu R0 G Q [] Q:=by
 obtain⟨L,eL,hL⟩:=Cm a T;obtain⟨K,eK,nd,hK,hro,hcl⟩:=Bl a hL hr hb T;have kl:=gu K (kn R0) nd hK;rw[dB] at kl;obtain⟨Q,p3,p4,e,I⟩:=vf a (DD:=.dict (ldc R0 G K)) (T:=T) hK (by omega) 100000 [] K none none ⟨by simpa using nd,by simp,trivial⟩ (by omega)
 have mem:∀x,x∈Q↔x∈K:=fun x=>by simpa using I.mem x
 have ordQ:∀{laid F:List Str},fu R0 G K laid F->fu R0 G Q laid F:=by
  intro laid F
  induction F generalizing laid with
  |nil=>exact fun _=>trivial
  |cons x F ih=>exact fun h=>⟨fun z hz hk=>h.1 z hz ((mem z).mp hk),ih h.2⟩
 refine⟨Q,?_,by simpa using I.nd,fun x hx=>hK x ((mem x).mp hx),fun r hr hk=>(mem r).mpr (hro r hr hk),fun x hx z hz hk=>(mem z).mpr (hcl x ((mem x).mp hx) z hz hk),ordQ I.ord⟩
 have io:my [.d (.dict (ldc R0 G K))] T=some (.list (ppr R0 G Q),T):=by
  have cC:(au (af gtD (fCB aT (ae (aa 2) ah)) (fC (.int 0))))=ioC:=rfl;rw[Ad,cC];have e0:ppr R0 G []=[]:=rfl;simp[ρI,e0] at e;simp[g9,eE,e,ly,rA,rK]
 simp[jm,g9,eE,eL,rM,eK,io,xf,rK]
end
theorem ST.up(h:ST n d):ST (n+1) d:=by
 induction h with
 |s h=>exact .s h
 |t _ ih=>exact .t ih
theorem v7(h:aE v=true):neG (.list [v]) (.list [])=some (.bool true):=by
 have h1:OL (.list [v])=true:=jj fun d hd=>by rw[Ov.mp hd];exact(b6 h).1
 have h2:OL (.list [])=true:=jj (l:=[]) (by simp);unfold neG;rw[if_pos ⟨h1,h2⟩];simp[OP,Qk]
theorem Fw:eqG (.list []) (.list [])=some (.bool true):=eq_nil (l:=[]) (by simp)
theorem iI:neG (.list []) (.list [])=some (.bool false):=by
 have h2:OL (.list [])=true:=jj (l:=[]) (by simp);unfold neG;rw[if_pos ⟨h2,h2⟩];simp[OP,Qk]
theorem By(T:Tp)(hz:isName (.str z)=true)(hv:aE v=true):eN [.d (.tuple [.str z,stt v]),.d (.bool true)] T=some (.bool true,T):=by
 have lb:=fun T=>nK (T:=T) hv;have ln:=fun T=>li (v:=.str z) T (name_val hz);simp[eN,eX,jN,lb,v7 hv,ln,hz]
theorem BA(T:Tp)(hv:aE v=true):eN [.d (.tuple [.str "made",stt v]),.d (.bool false)] T=some (.bool true,T):=by
 have lb:=fun T=>nK (T:=T) hv
 have hm:isName (.str "made")=true:=by decide +kernel
 have ln:=fun T=>li (v:=.str "made") T (name_val hm);simp[eN,eX,jN,lb,v7 hv,ln,hm]
theorem u7(T:Tp)(hw:w="fails"\/w="wants")(hx:isName (.str x)=true):eN [.d (.tuple [.str (Oe w),.str x]),.d (.bool false)] T=some (.bool true,T):=by
 have ln:=fun T=>li (v:=.str x) T (name_val hx)
 rcases hw with rfl|rfl <;> simp[eN,eX,jN,ln,hx,inD,inS,b8,eqF]
section
variable {p:Bool}{n:Nat}{D0 R0 G:Dc}
theorem Do(a:Al p n D0 R0 G)(hr:ao R0 x=some r)(T:Tp):eN [.d (bO (stG R0 G x).S),.d (.bool false)] T=some (.bool true,T):=by
 rcases df (a.ok hr).1.st with⟨v,e,hv⟩|⟨w,e,hw⟩|⟨b,y,r',e,hy⟩
 .rw[e,fL];exact BA T hv
 .rw[e,eU];exact u7 T (.inl rfl) hw
 .rw[e,eV];exact u7 T (.inr rfl) hy
theorem Ea(a:Al p n D0 R0 G)(hr:ao R0 x=some r)(T:Tp):ji [.d (lnG R0 G x)] T=some (.bool true,T):=by
 have ep:=Do a hr T;have hx:=a.nR x r hr;have ln':=li (v:=.str x) T (name_val hx);have l1:=qz a hr
 have l2:¬(12:Int)<(((stG R0 G x).rd.length:Nat):Int):=by
  unfold rdN at l1;rw[OS] at l1;omega
 have c:=fun ρ=>gf (c:=a6 (aK (aq eN (ae (aa 0) (ae (fC (.bool true)) ah))))) (ρ:=ρ) (T:=T) (p:=fun _=>false) (ds:=(stG R0 G x).rd.map rdS) fun d hd=>by
  obtain⟨d',hd',rfl⟩:=Ot.mp hd;obtain⟨z,v,rfl,hk⟩:=a.reads hr d' hd';have:=By T (a.key hk) (a.gv z v hk);have e:rdS (.tuple [.str z,v])=.tuple [.str z,stt v]:=rfl;rw[e];simp[this]
 have f0:∀l:List N9,l.filter (fun _=>false)=[]:=fun l=>by simp
 simp only[f0] at c;unfold lnG ln;simp[ji,eX,ln',hx,l2,ep,c,Fw]
theorem Er(hG:GV G)(hn:n<=20)(h:OkS p n s):s.rd <+: (run G s).rd:=
 fJ hG hn (fun s s'=>s.rd <+: s'.rd) (fun s _ _=>List.prefix_rfl) (fun s b x r v _ e hk hl _ q=>by
  rw[eB e hl hk]
  exact(List.prefix_append _ _).trans q) _ s h rfl
theorem CT{rd:List N9}(T:Tp)(hk:rd[k]? = some (.tuple [.str x,v]))(hv:aE v=true):eG false (.dict []) (.tuple (rd.map rdS)) k x T=some (.list [v],T):=by
 have lb:=fun T=>nK (T:=T) hv;have hl:k<rd.length:=(Og.mp hk).1
 have hl':(k:Int)<((rd.map rdS).length:Int):=by rw[OS];omega
 have at':atI (rd.map rdS) (k:Int)=some (.tuple [.str x,stt v]):=wK (by rw[Ph,hk];rfl);have nn:isNone (QR (rd.map rdS))=false:=rfl;have aw:oW false=.str "want":=rfl;simp at hl';simp[eG,gK,aw,nn,hl',at',lb]
theorem next_end{rd:List N9}(T:Tp)(hk:rd.length<=k):eG false (.dict []) (.tuple (rd.map rdS)) k x T=some (.tuple [.str "wants",.str x],T):=by
 have hl':¬k<rd.length:=Nat.not_lt.mpr hk;have nn:isNone (QR (rd.map rdS))=false:=rfl;have aw:oW false=.str "want":=rfl;simp[eG,gK,aw,nn,hl']
theorem E8(hG:GV G)(hn:n<=20)(T:Tp)(s:St3)(h:OkS false n s):∀r m o o1,AtL false n s r->(13-s.gs.length)*21<m->goL m r (.dict []) (.tuple ((run G s).rd.map rdS)) s.gs (s.rd.map rdS) o o1 T=some (.tuple [.list ((run G s).rd.map rdS),bO (run G s).S],T):=by
 refine fJ hG hn (fun s s'=>∀r m o o1,AtL false n s r->(13-s.gs.length)*21<m->goL m r (.dict []) (.tuple (s'.rd.map rdS)) s.gs (s.rd.map rdS) o o1 T=some (.tuple [.list (s'.rd.map rdS),bO s'.S],T)) (fun s h e r m o o1 a hm=>?_) (fun s b x r0 v h e hk hl h' q r m o o1 a hm=>?_) _ s h rfl
 .obtain⟨n',hn',hr,hs⟩:=a
  obtain⟨a1,_,a3⟩:=gS hr rfl h.v (by omega);obtain⟨c1,c2,c3⟩:=a3 (.dict []) (.tuple (s.rd.map rdS)) m (s.rd.map rdS) o o1 T (by have:=h.le;omega) (by have:=h.rd;have:=h.le;simp;omega);rw[←hs] at c1 c2 c3 a1
  rcases df h.st with⟨v,e1,_⟩|⟨x,e1,_⟩|⟨b,x,r,e1,_⟩
  .rw[c1 v e1,e1,fL];rfl
  .rw[c2 x e1,e1,eU];rfl
  .have hb:b=false:=by
    rw[e1] at a1;generalize hS:asT b x r=S at a1
    cases a1 with
    |md _=>cases b <;> simp[asT,mdT] at hS
    |fl _=>cases b <;> simp[asT,flT] at hS
    |@ask b' x' r' n2 hp hx hg hn2 hr2=>
     cases b with
     |false=>rfl
     |true=>cases b' with
      |true=>exact absurd (hp rfl) (by decide)
      |false=>simp[asT] at hS
   subst hb;rw[(c3 false x r e1).1 _ (next_end T (by simp)),e1,eV];rfl
 .obtain⟨n',hn',hr,hs⟩:=a
  obtain⟨a1,_,a3⟩:=gS hr rfl h.v (by omega);have hv:=hG x v hk;have pre:=Er hG hn h';rw[eB e hl hk];rw[←hs] at a1;rw[e] at a1;generalize hS:asT b x r0=S at a1
  cases a1 with
  |md _=>cases b <;> simp[asT,mdT] at hS
  |fl _=>cases b <;> simp[asT,flT] at hS
  |@ask b' x' r' n2 hp hx hg hn2 hr2=>
   obtain⟨rfl,rfl,rfl⟩:b=b'/\x=x'/\r0=r':=by
    cases b <;> cases b' <;> simp[asT] at hS <;> simp[hS]
   have hb:b=false:=by
    cases b with
    |false=>rfl
    |true=>exact absurd (hp rfl) (by decide)
   subst hb
   have at':(run G ⟨s.gs++[v],s.rd++cE false x v,stp r0 (s.gs++[v])⟩).rd[s.rd.length]? = some (.tuple [.str x,v]):=by
    obtain⟨more,hm2⟩:=pre;rw[←hm2];simp[cE]
   obtain⟨_,_,c3⟩:=a3 (.dict []) (.tuple ((run G ⟨s.gs++[v],s.rd++cE false x v,stp r0 (s.gs++[v])⟩).rd.map rdS)) m (s.rd.map rdS) o o1 T (by omega) (by have:=h.rd;simp;omega);rw[←hs] at c3;obtain⟨m',o',o2,l,go⟩:=(c3 false x r0 e).2 v hv (by rw[OS];exact CT T at' hv);rw[go];have:=q r0 m' o' o2 ⟨n2,by omega,by simpa using hr2,rfl⟩ (by simp;omega);rw[Pk,←xg] at this;exact this
theorem Ia(T:Tp)(hG:GV G)(hn:n<=20)(h:Rg false 0 n r):gM [.d r,.d (.dict []),.d (.tuple ((run G (s0 r)).rd.map rdS))] T=some (.tuple [.list ((run G (s0 r)).rd.map rdS),bO (run G (s0 r)).S],T):=by
 have:=E8 hG hn T (s0 r) (cS h hn) r 100000 none none ⟨n,Ol _,h,rfl⟩ (by simp[s0]);rw[←this,uu];simp[goL,ρL,s0]
theorem Gx(a:Al p n D0 R0 G)(hr:ao R0 x=some r):ST 3 (bO (stG R0 G x).S):=by
 have h:=(a.st hr).1;unfold lnG ln at h
 cases h with
 |t h=>exact(h _ (by simp)).up
theorem Cn(a:Al false n D0 R0 G)(hr:ao R0 x=some r)(T:Tp):kf [.d r,.d (lnG R0 G x)] T=some (.bool true,T):=by
 have e:=Ia T a.gv a.B.n20 (a.B.rg hr).1;rw[←gT (G:=G) hr] at e;have se:=Gx a hr
 have q:eqG (bO (stG R0 G x).S) (bO (stG R0 G x).S)=some (.bool true):=by
  unfold eqG;rw[if_pos ⟨se.shp (by decide),se.shp (by decide)⟩,(ST.eqv 3 _ _ se se).mpr rfl]
 have i1:ixD (lnG R0 G x) (.int 1)=some (.tuple ((stG R0 G x).rd.map rdS)):=rfl;have i2:ixD (lnG R0 G x) (.int 2)=some (bO (stG R0 G x).S):=rfl;simp[kf,i1,i2,e,l6,q]
end
theorem vC:∀{ds:List N9},(∀d∈ds,c (some (.d d)::ρ) T=some (p d,T)/\f (some (.d d)::ρ) T=some (.d (g d),T))->bT c f ρ ds T=some ((ds.filter p).map g,T)
 |[],_=>rfl
 |d::r,h=>by
  have ih:=vC (ds:=r) fun x hx=>h x (Ob _ hx);obtain⟨h0,h1⟩:=h d Oc;unfold bT
  cases hp:p d with
  |false=>simp[h0,hp,ih]
  |true=>simp[h0,h1,hp,ih]
theorem Dj(h:b (((ρ.set i (some (.d x))).set j (some (.d y))).set m (some (.d z))) T=some ((.nx,ρ'),T)):h9 i j m b (.tuple [x,y,z]::r) ρ T=h9 i j m b r ρ' T:=by
 show bnd _ _=_;rw[h];rfl
def oV(R0 G:Dc)(x:Str):Str:=dG (bO (stG R0 G x).S)
def isM(R0 G:Dc)(x:Str):Bool:=decide (oV R0 G x=Oe "made")
def ltB:FS:=(ak (fIf (a8 (au (af neD (oG (aa 2) (aa 5)) (fC (.int 1)))) (a8 (au (af gr (aa 5) (af ixD (aa 0) (fC (.int 1))))) (a6 (aK (aq kf (ae (af ixA (af ixD (aa 0) (fC (.int 1))) (aa 5)) (ae (aC .tuple (ae (aa 5) (ae (aa 6) (ae (aa 7) ah)))) ah))))))) (ay (fC (.bool false))) aH) (ak (fIf (au (af neG (bb (aW (aa 6)) (au (af neD (lP (aa 5) (af ixD (aa 0) (fC (.int 0)))) (af ixD (aa 0) (fC (.int 1))))) (aa 0)) (aC .list ah))) (ay (fC (.bool false))) aH) (ak (fIf (bN (au (af eqD (af ixD (aa 7) (fC (.int 0))) (fC (.str "wants")))) (bN (au (af di (af ixD (aa 7) (fC (.int 1))) (aa 3))) (a8 (au (af inA (af ixD (aa 7) (fC (.int 1))) (af ixD (aa 0) (fC (.int 0))))) (au (af inA (af ixD (aa 7) (fC (.int 1))) (af ixD (aa 0) (fC (.int 1)))))))) (ay (fC (.bool false))) aH) (fIf (au (af eqD (af ixD (aa 7) (fC (.int 0))) (fC (.str "made")))) (cz 4 (aa 5) (af ixD (aa 7) (fC (.int 1)))) aH))))
theorem E4:ko=aP 8 (ak (fIf (a8 (a6 (aK (fUn (aZ .lst) (aa 1)))) (au (af neG (bb (aW (aa 1)) (a6 (aK (aq ji (ae (aa 0) ah)))) (aa 0)) (aC .list ah)))) (ay (fC (.bool false))) aH) (ak (aM 2 (bb (aW (aa 1)) bx (af ixD (aa 0) (fC (.int 0))))) (ak (aM 3 (bb (aW (aa 1)) (au (af neD (af ixD (af ixD (aa 0) (fC (.int 2))) (fC (.int 0))) (fC (.str "made")))) (af ixD (aa 0) (fC (.int 0))))) (ak (lw 4 (bb (aW (af ixD (aa 0) (fC (.int 0)))) bx (aC .tuple (ae (aa 0) (ae (aq (cK 25) (ae (af ixA (af ixD (aa 1) (fC (.int 0))) (aa 0)) ah)) ah))))) (ak (n8 5 6 7 (aW (aa 1)) ltB) (ay (af leD (fCB aT (ae (aa 1) ah)) (fC (.int 100))))))))):=rfl
section
variable {p:Bool}{n:Nat}{D0 R0 G:Dc}
theorem vp(a:Al p n D0 R0 G)(hr:ao R0 x=some r):ixD (bO (stG R0 G x).S) (.int 0)=some (.str (oV R0 G x)):=by
 unfold oV
 rcases df (a.ok hr).1.st with⟨v,e,hv⟩|⟨w,e,hw⟩|⟨b,y,r',e,hy⟩
 .rw[e,fL];rfl
 .rw[e,eU];rfl
 .rw[e,eV];rfl
theorem Hn(a:Al p n D0 R0 G)(hr:ao R0 x=some r)(h:isM R0 G x=true):∃v,(stG R0 G x).S=mdT v:=by
 have h':=of_decide_eq_true h;unfold oV at h'
 rcases df (a.ok hr).1.st with⟨v,e,hv⟩|⟨w,e,hw⟩|⟨b,y,r',e,hy⟩
 .exact⟨v,e⟩
 .rw[e,eU] at h'
  simp[flT,dG] at h'
 .rw[e,eV] at h'
  simp[c9,dG] at h'
structure Ah(D0 R0 G:Dc)(laid:List Str)(A:Dc):Prop where
 told:∀z v,ao D0 z=some v->ao A z=some (stt v)
 made:∀z v,z∈laid->(stG R0 G z).S=mdT v->ao A z=some (stt v)
 len:A.length<=D0.length+laid.length
def ρU(D0 R0 G:Dc)(Q:List Str)(A:Dc)(o5 o6 o7:Option D.W):Rho:=[some (.d (bkD D0 R0)),some (.d (.list (ppr R0 G Q))),some (.d (.list (nmL Q))),some (.d (.list (nmL (Q.filter fun x=>!isM R0 G x)))),some (.loc (.dict A)),o5,o6,o7]
theorem zF:∀{Q:List Str}{x:Str},Q.Nodup->x∈Q->Q.countP (fun y=>decide (y=x))=1
 |a::r,x,nd,h=>by
  obtain⟨n1,n2⟩:=OR.mp nd;rw[Qm]
  by_cases e:a=x
  .subst e
   rw[List.countP_eq_zero.mpr fun y hy=>by simp;exact fun z=>n1 (by rw[←z];exact hy)];simp
  .rw[zF n2 ((Oy.mp h).resolve_left fun z=>e z.symm)]
   simp[e]
theorem EA:(putN G x v).length<=G.length+1:=by
 cases h:ao G x with
 |none=>rw[kI h];exact Ol _
 |some u=>
  unfold putN;rw[h,if_pos (by rfl),tM];omega
theorem FX(hQ:∀y∈Q,isName (.str y)=true)(nd:Q.Nodup)(hx:x∈Q)(T:Tp):sr (nmL Q) (.d (.str x)) T=some (.d (.int 1),T):=by
 have sh:∀y∈Q,OL (.str y)=true:=fun y hy=>ST.shp (n:=0) (.s (iX (hQ y hy))) (by decide)
 have c:(nmL Q).countP (fun d=>OP d (.str x))=1:=by
  unfold nmL;rw[List.countP_map]
  have e:((fun d=>OP d (.str x)) ∘ OG)=fun y=>decide (y=x):=by
   funext y;show OP (.str y) (.str x)=_;simp[OP]
   first|rfl|(rw[PJ];simp)
  rw[e];exact zF nd hx
 show (if _ then _ else _)=_
 rw[if_pos ⟨sh x hx,Oz.mpr fun d hd=>by
  obtain⟨y,hy,rfl⟩:=Ot.mp hd
  exact sh y hy⟩,c]
 rfl
theorem E3(a:Al false n D0 R0 G)(nd:Q.Nodup)(hQ:∀y∈Q,y∈kn R0)(hcl:∀x∈Q,∀z∈dps R0 G x,z∈kn R0->z∈Q)(hx:x∈Q)(hl:laid.length<=100)(hA:Ah D0 R0 G laid A)(hord:∀z∈rdN (stG R0 G x),z∈Q->z∈laid) :
  ∃A',ltB (ρU D0 R0 G Q A (some (.d (.str x))) (some (.d (.tuple ((stG R0 G x).rd.map rdS)))) (some (.d (bO (stG R0 G x).S)))) T=some ((.nx,ρU D0 R0 G Q A' (some (.d (.str x))) (some (.d (.tuple ((stG R0 G x).rd.map rdS)))) (some (.d (bO (stG R0 G x).S)))),T)/\Ah D0 R0 G (laid++[x]) A':=by
 obtain⟨r,hr⟩:=(a.mR x).mp (hQ x hx)
 have hN:∀y∈Q,isName (.str y)=true:=fun y hy=>by
  obtain⟨r,hr⟩:=(a.mR y).mp (hQ y hy);exact a.nR y r hr
 have cn:=FX hN nd hx T;have fc:oG (aa 2) (aa 5) (ρU D0 R0 G Q A (some (.d (.str x))) (some (.d (.tuple ((stG R0 G x).rd.map rdS)))) (some (.d (bO (stG R0 G x).S)))) T=some (.d (.int 1),T):=cn;have ir:=Cn a hr T;have lx:lnG R0 G x=.tuple [.str x,.tuple ((stG R0 G x).rd.map rdS),bO (stG R0 G x).S]:=rfl;rw[lx] at ir;have ew:=vp a hr;have i1:ixD (bkD D0 R0) (.int 1)=some (.dict R0):=rfl;have i0:ixD (bkD D0 R0) (.int 0)=some (.dict D0):=rfl
 have c:=gf (c:=au (af neD (lP (aa 5) (af ixD (aa 0) (fC (.int 0)))) (af ixD (aa 0) (fC (.int 1))))) (ρ:=ρU D0 R0 G Q A (some (.d (.str x))) (some (.d (.tuple ((stG R0 G x).rd.map rdS)))) (some (.d (bO (stG R0 G x).S)))) (T:=T) (p:=fun _=>false) (ds:=(stG R0 G x).rd.map rdS) fun d hd=>by
  obtain⟨d',hd',rfl⟩:=Ot.mp hd;obtain⟨z,v,rfl,hk⟩:=a.reads hr d' hd';have e:rdS (.tuple [.str z,v])=.tuple [.str z,stt v]:=rfl
  have hz:ao A z=some (stt v):=by
   rcases a.gkey hk with w|w
   .obtain⟨u,hu⟩:=(a.mD z).mp w
    have:=a.hd z u hu;rw[hk] at this;cases this;exact hA.told z v hu
   .obtain⟨rz,hrz⟩:=(a.mR z).mp w
    have zin:z∈rdN (stG R0 G x):=Ot.mpr ⟨_,hd',rfl⟩;have zl:=hord z zin (hcl x hx z (OI _ zin) w);obtain⟨_,_,_,_,es⟩:=De a.B a.hd a.hs a.hc hrz hk;exact hA.made z v zl (by rw[gT hrz];exact es)
  rw[e]
  have g1:sf T (.loc (.dict A)) (.d (.str z)) T=some (.d (stt v),T):=by
   show mkD T (some ((ao A z).getD .none))=_;rw[hz];rfl
  have g2:lP (aa 5) (af ixD (aa 0) (fC (.int 0))) (some (.d (.tuple [.str z,stt v]))::ρU D0 R0 G Q A (some (.d (.str x))) (some (.d (.tuple ((stG R0 G x).rd.map rdS)))) (some (.d (bO (stG R0 G x).S)))) T=some (.d (stt v),T):=g1;simp[g2];simp[stt]
 have f0:∀l:List N9,l.filter (fun _=>false)=[]:=fun l=>by simp
 rw[f0] at c
 have al:A.length<=1000:=by have:=hA.len;have:=a.len;omega
 simp only[ρU] at c fc
 rcases df (a.ok hr).1.st with⟨v,e,hv⟩|⟨w,e,hw⟩|⟨b,y,r',e,hy⟩
 .have ee:bO (stG R0 G x).S=.tuple [.str "made",stt v]:=by rw[e,fL]
  rw[ee] at c fc ir;refine⟨putN A x (stt v),?_,⟨fun z u hz=>?_,fun z u hz hu=>?_,?_⟩⟩
  .rw[ee]
   simp[ltB,ρU,fc,i1,hr,ir,c,iI,al]
  .rw[en,if_neg (fun q=>by rw[←q,(a.B.rg hr).2] at hz;cases hz)]
   exact hA.told z u hz
  .rw[en]
   by_cases q:x=z
   .subst q
    rw[e] at hu
    have:v=u:=by simpa[mdT] using hu
    rw[if_pos rfl,this]
   .rw[if_neg q]
    exact hA.made z u ((Oq.mp hz).resolve_right fun w=>q (Ov.mp w).symm) hu
  .have:=EA (G:=A) (x:=x) (v:=stt v)
   have:=hA.len;rw[OE,QV];omega
 .have ee:bO (stG R0 G x).S=.tuple [.str "fails",.str w]:=by rw[e,eU];rfl
  rw[ee] at c fc ir;refine⟨A,?_,⟨hA.told,fun z u hz hu=>?_,by have:=hA.len;rw[OE,QV];omega⟩⟩
  .rw[ee]
   simp[ltB,ρU,fc,i1,hr,ir,c,iI]
  .rcases Oq.mp hz with q|q
   .exact hA.made z u q hu
   .rw[Ov.mp q,e] at hu
    exact absurd hu.symm fY
 .have ee:bO (stG R0 G x).S=.tuple [.str "wants",.str y]:=by rw[e,eV];rfl
  have ny:ao G y=none:=by
   rcases(a.ok hr).2 with z|⟨b2,y2,r2,z,hk⟩
   .rw[e] at z;simp at z
   .have:y=y2:=by
     rw[e] at z
     cases b <;> cases b2 <;> simp[asT] at z <;> simp[z]
    rw[this];exact hk
  have nD:ao D0 y=none:=by
   cases q:ao D0 y with
   |none=>rfl
   |some u=>rw[a.hd y u q] at ny;cases ny
  have nb:=tj (Q.filter fun x=>!isM R0 G x) y;rw[ee] at c fc ir;refine⟨A,?_,⟨hA.told,fun z u hz hu=>?_,by have:=hA.len;rw[OE,QV];omega⟩⟩
  .rw[ee]
   cases hy2:ao R0 y with
   |none=>
    by_cases yb:y∈Q.filter fun x=>!isM R0 G x
    .simp[ltB,ρU,fc,i1,hr,ir,c,iI,nb,yb]
    .simp[ltB,ρU,fc,i1,i0,hr,ir,c,iI,nb,yb,nD,hy2]
   |some ry=>
    have yq:y∈Q:=hcl x hx y (Oo _ (by simp[wn,e])) ((a.mR y).mpr ⟨ry,hy2⟩)
    have ym:isM R0 G y=false:=by
     cases q:isM R0 G y with
     |false=>rfl
     |true=>
      obtain⟨u,hu⟩:=Hn a hy2 q;rw[gT hy2] at hu;rw[a.hc y ry u hy2 hu] at ny;cases ny
    have yb:y∈Q.filter fun x=>!isM R0 G x:=Pg.mpr ⟨yq,by simp[ym]⟩;simp[ltB,ρU,fc,i1,hr,ir,c,iI,nb,yb]
  .rcases Oq.mp hz with q|q
   .exact hA.made z u q hu
   .rw[Ov.mp q,e] at hu
    cases b <;> simp[asT,mdT] at hu
theorem xy(a:Al false n D0 R0 G)(nd:Q.Nodup)(hQ:∀y∈Q,y∈kn R0)(hcl:∀x∈Q,∀z∈dps R0 G x,z∈kn R0->z∈Q):∀(r laid:List Str) (A:Dc) (o5 o6 o7:Option D.W),(∀y∈r,y∈Q)->laid.length+r.length<=100->Ah D0 R0 G laid A->fu R0 G Q laid r ->
  ∃A' p5 p6 p7,h9 5 6 7 ltB (ppr R0 G r) (ρU D0 R0 G Q A o5 o6 o7) T=some ((.nx,ρU D0 R0 G Q A' p5 p6 p7),T)
 |[],laid,A,o5,o6,o7,_,_,_,_=>⟨A,o5,o6,o7,rfl⟩
 |x::r,laid,A,o5,o6,o7,hr,hl,hA,ho=>by
  simp at hl;obtain⟨A',e,hA'⟩:=E3 a (T:=T) nd hQ hcl (hr x Oc) (by omega) hA ho.1;obtain⟨A2,p5,p6,p7,f⟩:=xy a nd hQ hcl r (laid++[x]) A' _ _ _ (fun y hy=>hr y (Ob _ hy)) (by simp;omega) hA' ho.2;exact⟨A2,p5,p6,p7,(Dj e).trans f⟩
theorem Ic(a:Al false n D0 R0 G)(dnd:(kn D0).Nodup)(dk:∀q∈D0,∃x v,q=(OG x,v)/\ao D0 x=some v)(nd:Q.Nodup)(hQ:∀y∈Q,y∈kn R0)(hcl:∀x∈Q,∀z∈dps R0 G x,z∈kn R0->z∈Q)(ho:fu R0 G Q [] Q)(T:Tp):ko [.d (bkD D0 R0),.d (.list (ppr R0 G Q))] T=some (.bool true,T):=by
 have ql:=gu Q (kn R0) nd hQ;rw[dB] at ql;have len:=a.len;have hk:∀y∈Q,∃r,ao R0 y=some r:=fun y hy=>(a.mR y).mp (hQ y hy)
 have c1:=fun ρ=>gf (c:=a6 (aK (aq ji (ae (aa 0) ah)))) (ρ:=ρ) (T:=T) (p:=fun _=>false) (ds:=ppr R0 G Q) fun d hd=>by
  obtain⟨x,hx,rfl⟩:=Ot.mp hd;obtain⟨r,hr⟩:=hk x hx;simp[Ea a hr T]
 have f0:∀l:List N9,l.filter (fun _=>false)=[]:=fun l=>by simp
 simp only[f0] at c1;have c2:=fun ρ=>uk (R0:=R0) (G:=G) (ys:=Q) ρ T
 have c3:=fun ρ=>vC (c:=au (af neD (af ixD (af ixD (aa 0) (fC (.int 2))) (fC (.int 0))) (fC (.str "made")))) (f:=af ixD (aa 0) (fC (.int 0))) (ρ:=ρ) (T:=T) (p:=fun d=>!isM R0 G (dG d)) (g:=fun d=>.str (dG d)) (ds:=ppr R0 G Q) fun d hd=>by
  obtain⟨x,hx,rfl⟩:=Ot.mp hd;obtain⟨r,hr⟩:=hk x hx;have i2:ixD (lnG R0 G x) (.int 2)=some (bO (stG R0 G x).S):=rfl;have i0:ixD (lnG R0 G x) (.int 0)=some (.str x):=rfl;have n0:dG (lnG R0 G x)=x:=rfl;simp[i2,i0,vp a hr,n0,isM]
 have m3:((ppr R0 G Q).filter fun d=>!isM R0 G (dG d)).map (fun d=>OG (dG d))=nmL (Q.filter fun x=>!isM R0 G x):=by
  unfold ppr nmL;rw[VL,Pe];rfl
 simp only[m3] at c3;have kd:dq D0=D0.map (·.1):=rfl
 have c4:=fun ρ=>dz (e:=aC .tuple (ae (aa 0) (ae (aq (cK 25) (ae (af ixA (af ixD (aa 1) (fC (.int 0))) (aa 0)) ah)) ah))) (ρ:=some (.d (bkD D0 R0))::ρ) (T:=T) (g:=fun d=>.tuple [d,stt ((ao D0 (nm d)).getD .none)]) (ds:=D0.map (·.1)) fun d hd=>by
  obtain⟨q,hq,rfl⟩:=Ot.mp hd;obtain⟨x,v,rfl,hx⟩:=dk q hq;have i0:ixD (bkD D0 R0) (.int 0)=some (.dict D0):=rfl;have ls:=kX T (a.B.gv x v hx);simp[i0,hx,ls,nm,stt]
 have m4:(D0.map (·.1)).map (fun d=>QR [d,stt ((ao D0 (nm d)).getD .none)])=(kn D0).map fun x=>.tuple [.str x,stt ((ao D0 x).getD .none)]:=by
  unfold kn;rw[Pe,Pe]
  exact O4 fun q hq=>by
   obtain⟨x,v,rfl,hx⟩:=dk q hq;rfl
 simp only[m4] at c4
 have pd:∀l:List Str,iN (l.map fun x=>QR [.str x,stt ((ao D0 x).getD .none)])=some (l.map fun x=>(x,stt ((ao D0 x).getD .none))):=fun l=>by
  induction l with
  |nil=>rfl
  |cons x l ih=>
   rw[OJ];unfold iN;rw[ih];rfl
 have ok:sD ((kn D0).map fun x=>(x,stt ((ao D0 x).getD .none)))=true:=by
  unfold sD;rw[Oj];refine⟨decide_eq_true ?_,decide_eq_true (by rw[OS,dB];omega)⟩;rw[Pe];have:((kn D0).map ((fun x:Str×N9=>x.1) ∘ fun x=>(x,stt ((ao D0 x).getD .none))))=kn D0:=List.map_id _;rw[this];exact dnd
 have kat:∀(l:List Str) (y:Str),ao (ib (l.map fun x=>(x,stt ((ao D0 x).getD .none)))) y=if y∈l then some (stt ((ao D0 y).getD .none)) else none:=fun l y=>by
  induction l with
  |nil=>rfl
  |cons x l ih=>
   show (if x=y then some (stt ((ao D0 x).getD .none)) else ao (ib (l.map fun x=>(x,stt ((ao D0 x).getD .none)))) y)=_;rw[ih]
   by_cases h:x=y
   .subst h;simp
   .have:¬y=x:=fun e=>h e.symm
    simp[h,this]
 have A0:Ah D0 R0 G [] (ib ((kn D0).map fun x=>(x,stt ((ao D0 x).getD .none)))):=⟨fun z v hz=>by rw[kat,if_pos ((a.mD z).mpr ⟨v,hz⟩),hz];rfl,(fun z v hz=>by cases hz),(by simp[ib,dB])⟩;obtain⟨A',p5,p6,p7,f⟩:=xy a (T:=T) nd hQ hcl Q [] _ none none none (fun y hy=>hy) (by simp;omega) A0 ho
 have sd:∀(q:Rho),lw 4 (bb (aW (af ixD (aa 0) (fC (.int 0)))) bx (aC .tuple (ae (aa 0) (ae (aq (cK 25) (ae (af ixA (af ixD (aa 1) (fC (.int 0))) (aa 0)) ah)) ah)))) (some (.d (bkD D0 R0))::q) T=some ((.nx,(some (.d (bkD D0 R0))::q).set 4 (some (.loc (.dict (ib ((kn D0).map fun x=>(x,stt ((ao D0 x).getD .none)))))))),T):=fun q=>by
  have it:aW (af ixD (aa 0) (fC (.int 0))) (some (.d (bkD D0 R0))::q) T=some (D0.map (·.1),T):=rfl
  have cc:bb (aW (af ixD (aa 0) (fC (.int 0)))) bx (aC .tuple (ae (aa 0) (ae (aq (cK 25) (ae (af ixA (af ixD (aa 1) (fC (.int 0))) (aa 0)) ah)) ah))) (some (.d (bkD D0 R0))::q) T=some (.d (.list ((kn D0).map fun x=>.tuple [.str x,stt ((ao D0 x).getD .none)])),T):=by
   show bnd (aW _ _ T) _=_;rw[it,fS,c4];rfl
  unfold lw;rw[cc,fS];show rm 4 _ T (iN _)=_;rw[pd];show (if _ then _ else _)=_;rw[if_pos ok]
 have l1:(((ppr R0 G Q).length:Nat):Int)<=100:=by simp[ppr];omega
 rw[E4];simp[ρU] at f;have ll:bi .lst .lst=true:=rfl;simp[c1,iI,c2,c3,sd,n8,f,l1,ll]
end
theorem IA(h:OkS p n s):SV 3 (ln x s):=by
 have r1:=h.rd;have r2:=h.le;refine .tup (by simp) fun d hd=>?_;simp at hd
 rcases hd with rfl|rfl|rfl
 .exact .str
 .refine .tup (by simp;omega) fun d hd=>?_
  obtain⟨d',hd',rfl⟩:=Ot.mp hd;obtain⟨y,v,rfl,hv⟩:=h.rv d' hd';refine .tup (by simp) fun d hd=>?_;simp at hd
  rcases hd with rfl|rfl <;> exact .str
 .rcases df h.st with⟨v,ev,hv⟩|⟨y,ev,_⟩|⟨b,y,r',ev,_⟩
  .rw[ev,fL]
   refine .tup (by simp) fun d hd=>?_;simp at hd
   rcases hd with rfl|rfl <;> exact .str
  .rw[ev,eU]
   refine .tup (by simp) fun d hd=>?_;simp at hd
   rcases hd with rfl|rfl <;> exact .str
  .rw[ev,eV]
   refine .tup (by simp) fun d hd=>?_;simp at hd
   rcases hd with rfl|rfl <;> exact .str
theorem Em(h:l.length<64):lE [.list (nmL l)]=some (.list (nmL (bI l))):=by
 have e:dm (nmL l)=some l:=by
  have:=kA (fun x:Str=>x) l;simpa[nmL] using this
 show iU (dm (nmL l))=_;rw[e];show (if l.length<64 then _ else _)=_;rw[if_pos h];rfl
theorem Ft:j6 f ρ T=bnd (f ρ T) fun w T1=>oI (je (view T1 w)) T1:=rfl
theorem Dm:oI (some ds) T=some (.d (.dict ds),T):=rfl
theorem Gy(h:∀d∈l,ST n d)(hn:n<=60):neG (.list l) (.list l)=some (.bool false):=by
 unfold neG;rw[if_pos ⟨vO h hn,vO h hn⟩];have:=(mz (P:=fun d=>ST n d) (ST.eqv n) l l h h).mpr rfl;simp only[OP];rw[this];rfl
section
variable {p:Bool}{n:Nat}{D0 R0 G:Dc}
theorem Al.of(b:BkP p n S D0 R0)(hn:n<=20)(hS:S.length<=40)(hY:∀y∈S,isName (.str y)=true)(hd:Sub D0 G)(hs:Snd D0 R0 G)(hc:∀x,ClsAt R0 G x):Al p n D0 R0 G:=by
 have keys:∀{ds:Dc},(∀q∈ds,∃x v,q=(OG x,v)/\ao ds x=some v)->dq ds=nmL (kn ds)/\∀x,x∈kn ds↔∃v,ao ds x=some v:=fun {ds} h=>by
  constructor
  .unfold dq nmL kn
   rw[Pe]
   exact O4 fun q hq=>by
    obtain⟨x,v,rfl,_⟩:=h q hq;rfl
  .intro x
   constructor
   .intro hx
    obtain⟨q,hq,rfl⟩:=Ot.mp hx;obtain⟨x,v,rfl,hk⟩:=h q hq;exact⟨v,hk⟩
   .rintro⟨v,hk⟩
    exact Ot.mpr ⟨_,fF hk,rfl⟩
 have kD:=keys (ds:=D0) fun q hq=>by
  obtain⟨x,v,e,_,h,_⟩:=b.dk q hq;exact⟨x,v,e,h⟩
 have kR:=keys (ds:=R0) fun q hq=>by
  obtain⟨x,v,e,_,h,_⟩:=b.rk q hq;exact⟨x,v,e,h⟩
 refine⟨b.bk hn (by omega),hd,hs,hc,fun x v h=>?_,fun x v h=>?_,kD.1,kR.1,kD.2,kR.2,by rw[b.len];exact hS⟩
 .obtain⟨y,_,e,_,_,hy⟩:=b.dk _ (fF h)
  cases e;exact hY _ hy
 .obtain⟨y,_,e,_,_,_,hy⟩:=b.rk _ (fF h)
  cases e;exact hY _ hy
def iV:FT:=(a6 (aK (aq (dv 25) (ae (aa 6) (ae (aq km (ae (aa 0) (ae (aa 1) (ae (af ixD (aa 6) (fC (.int 0))) ah)))) ah)))))
theorem BG:dW=aP 7 (ak (aM 3 (fCB dC (ae (aa 2) ah))) (ak (lu 4 jm (ae (aa 0) (ae (aa 3) ah))) (ak (fIf (a8 (au (af neG (aa 3) (aa 2))) (a8 (a6 (aK (fUn (aZ .lst) (aa 4)))) (a6 (aK (d0 (aq ko (ae (aa 0) (ae (aa 4) ah)))))))) (ay (fC (.bool false))) aH) (ak (aM 5 (jQ (aW (aa 4)) bx (af ixD (aa 0) (fC (.int 0))))) (ak (fIf (au (af neG (bb (aW (aa 2)) (bN (au (af inA (aa 0) (af ixD (aa 1) (fC (.int 1))))) (au (af di (aa 0) (aa 6)))) (aa 0)) (aC .list ah))) (ay (fC (.bool false))) aH) (ak (lQ 4 6 (gw iV) (ay (fC (.bool false)))) (ak (lR 4) (ay (fC (.bool true)))))))))):=rfl
def ρY(D0 R0 G:Dc)(rs Q:List Str)(h5:N9)(o:Option D.W):Rho:=[some (.d (bkD D0 R0)),some (.d (.dict G)),some (.d (.list (nmL rs))),some (.d (.list (nmL rs))),some (.loc (.list (ppr R0 G Q))),some (.d h5),o]
theorem uW(a:Al p n D0 R0 G):∀(r:List Str) (o:Option D.W),(∀y∈r,y∈kn R0)->∃o',goO 6 (gw iV) f (ppr R0 G r) (ρY D0 R0 G rs Q h5 o) T=some ((.nx,ρY D0 R0 G rs Q h5 o'),T)
 |[],o,_=>⟨o,rfl⟩
 |x::r,o,h=>by
  obtain⟨r0,hr⟩:=(a.mR x).mp (h x Oc);obtain⟨o',e⟩:=uW a (rs:=rs) (Q:=Q) (h5:=h5) (f:=f) (T:=T) r (some (.d (lnG R0 G x))) fun y hy=>h y (Ob _ hy);refine⟨o',?_⟩;have ll:=Ga a.B a.gv hr [];have sm:=yj (IA (x:=x) (a.ok hr).1) 25 [] (by decide);have i0:ixD (lnG R0 G x) (.int 0)=some (.str x):=rfl
  have st:gw iV (ρY D0 R0 G rs Q h5 (some (.d (lnG R0 G x)))) T=some (false,T):=by
   have nd:yA (ρY D0 R0 G rs Q h5 (some (.d (lnG R0 G x))))=true:=rfl
   have ev:iV (bX (ρY D0 R0 G rs Q h5 (some (.d (lnG R0 G x))))) []=some (false,[]):=by
    have sm':dv 25 [.d (lnG R0 G x),.d (lnG R0 G x)] []=some (.bool true,[]):=sm;simp[iV,ρY,i0,ll,sm']
   unfold gw;rw[if_pos nd,ev];rfl
  show bnd (gw iV (ρY D0 R0 G rs Q h5 (some (.d (lnG R0 G x)))) T) _=_;rw[st];exact e
theorem F7(a:Al false n D0 R0 G)(dnd:(kn D0).Nodup)(dk:∀q∈D0,∃x v,q=(OG x,v)/\ao D0 x=some v)(hb:D0.length+R0.length<=12)(hl:rs.length<=20)(hs:∀r∈rs,Qd r=true)(T:Tp):dW [.d (bkD D0 R0),.d (.dict G),.d (.list (nmL rs))] T=some (.bool true,T):=by
 obtain⟨Q,eP,nd,hQ,hro,hcl,ho⟩:=F8 a hl hb T;have lt:=Ic a dnd dk nd hQ hcl ho [];have ql:=gu Q (kn R0) nd hQ;rw[dB] at ql;have len:=a.len
 have ne:=Gy (n:=0) (l:=nmL rs) (fun d hd=>by
  obtain⟨x,hx,rfl⟩:=Ot.mp hd
  exact .s (hs x hx)) (by decide)
 have lk:jY T (some (.d (.bool true),[]))=some (.d (.bool true),T):=jq rfl
 have co:jQ (aW (aa 4)) bx (af ixD (aa 0) (fC (.int 0))) [some (.d (bkD D0 R0)),some (.d (.dict G)),some (.d (.list (nmL rs))),some (.d (.list (nmL rs))),some (.loc (.list (ppr R0 G Q))),none,none] T=some (.d (.list (nmL Q)),T):=by
  have n0:zC [some (.d (bkD D0 R0)),some (.d (.dict G)),some (.d (.list (nmL rs))),some (.d (.list (nmL rs))),some (.loc (.list (ppr R0 G Q))),none,none]=true:=rfl;have it:aW (aa 4) (bX [some (.d (bkD D0 R0)),some (.d (.dict G)),some (.d (.list (nmL rs))),some (.d (.list (nmL rs))),some (.loc (.list (ppr R0 G Q))),none,none]) []=some (ppr R0 G Q,[]):=rfl;unfold jQ;rw[if_pos n0,it,fS,uk];show (if (nmL Q).all b8=true then _ else _)=_;rw[if_pos (EY Q)]
 have i1:ixD (bkD D0 R0) (.int 1)=some (.dict R0):=rfl
 have c:=gf (c:=bN (au (af inA (aa 0) (af ixD (aa 1) (fC (.int 1))))) (au (af di (aa 0) (aa 6)))) (ρ:=ρY D0 R0 G rs Q (.list (nmL Q)) none) (T:=T) (p:=fun _=>false) (ds:=nmL rs) fun d hd=>by
  obtain⟨x,hx,rfl⟩:=Ot.mp hd;have ni:=tj Q x
  cases hr:ao R0 x with
  |none=>simp[ρY,i1,hr]
  |some r=>
   have:=hro x hx ((a.mR x).mpr ⟨r,hr⟩);simp[ρY,i1,hr,ni,this]
 have f0:∀l:List N9,l.filter (fun _=>false)=[]:=fun l=>by simp
 rw[f0] at c;obtain⟨o,f⟩:=uW a (rs:=rs) (Q:=Q) (h5:=.list (nmL Q)) (f:=ay (fC (.bool false))) (T:=T) Q none hQ
 have pl:(ppr R0 G Q).length<=1000:=by simp[ppr];omega
 have ll:bi .lst .lst=true:=rfl
 have fo:lQ 4 6 (gw iV) (ay (fC (.bool false))) (ρY D0 R0 G rs Q (.list (nmL Q)) none) T=some ((.nx,ρY D0 R0 G rs Q (.list (nmL Q)) o),T):=by
  exact(if_pos (e:=none) (by decide:(4:Nat)≠6)).trans f
 have cl:lR 4 (ρY D0 R0 G rs Q (.list (nmL Q)) o) T=some ((.nx,[some (.d (bkD D0 R0)),some (.d (.dict G)),some (.d (.list (nmL rs))),some (.d (.list (nmL rs))),some (.loc (.list [])),some (.d (.list (nmL Q))),o]),T):=by
  show (if (ppr R0 G Q).length<=1000 then _ else _)=_;rw[if_pos pl];rfl
 have so:lu 4 jm (ae (aa 0) (ae (aa 3) ah)) [some (.d (bkD D0 R0)),some (.d (.dict G)),some (.d (.list (nmL rs))),some (.d (.list (nmL rs))),none,none,none] T=some ((.nx,[some (.d (bkD D0 R0)),some (.d (.dict G)),some (.d (.list (nmL rs))),some (.d (.list (nmL rs))),some (.loc (.list (ppr R0 G Q))),none,none]),T):=by
  simp[lu,eP,w8]
 rw[BG];simp only[ρY] at c fo cl;simp[so,ne,ll,lt,lk,co,c,iI,fo,cl]
end
theorem C3:∀ns:List Int,ns.length<=63->∃T',oy [.d (cD ns)] []=some (.bool true,T'):=by
 intro ns _;obtain⟨D0,R0,S,eb,b,hS,hY⟩:=Ig ns false;have B:=b.bk (by decide) (by omega);obtain⟨G,eg,s2,d2,c2⟩:=Gc B [];have a:Al false 6 D0 R0 G:=Al.of b (by decide) (by omega) (fun y hy=>(hY y hy).1) d2 s2 c2
 have hb:D0.length+R0.length<=12:=by rw[b.len];omega
 have dk:∀q∈D0,∃x v,q=(OG x,v)/\ao D0 x=some v:=fun q hq=>by
  obtain⟨x,v,e,_,h,_⟩:=b.dk q hq;exact⟨x,v,e,h⟩
 have dnd:(kn D0).Nodup:=by
  have h:=b.dnd;have e:D0.map (·.1)=nmL (kn D0):=a.kD;rw[e] at h;unfold nmL at h;exact(U2.mp h).imp fun z e=>z (by rw[e])
 have rt:=fun(rs:List Str) (hl:rs.length<=20) (hs:∀r∈rs,Qd r=true) (T:Tp)=>F7 a dnd dk hb hl hs T;have bl:=iK;have so:=Em (l:=kn D0++kn R0) (by rw[OE,dB,dB];omega)
 have sl:(bI (kn D0++kn R0)).length=D0.length+R0.length:=by rw[(fD _).length_eq,OE,dB,dB]
 have hN:∀y∈bI (kn D0++kn R0),Qd y=true:=fun y hy=>by
  rcases Oq.mp ((fD _).mem_iff.mp hy) with z|z
  .obtain⟨v,hv⟩:=(a.mD y).mp z
   exact iX (a.nD y v hv)
  .obtain⟨v,hv⟩:=(a.mR y).mp z
   exact iX (a.nR y v hv)
 generalize hL:bI (kn D0++kn R0)=L at so sl hN;have r1:=rt L (by omega) hN [];have r2:=rt [] (by simp) (by simp) [];have e0:nmL []=[]:=rfl;rw[e0] at r2
 have hZ:∀y∈L++[Oe "zzzzzzzz",Oe "A"],Qd y=true:=fun y hy=>by
  rcases Oq.mp hy with z|z
  .exact hN y z
  .simp at z
   rcases z with rfl|rfl <;> decide +kernel
 have apZ:nmL L++[.str "zzzzzzzz",.str "A"]=nmL (L++[Oe "zzzzzzzz",Oe "A"]):=by simp[nmL]
 have lz:(nmL L).length+2<=sizeLine:=by rw[cL];omega
 have turn:∀(k:Nat) (o7:Option D.W),∃o7',mZ [some (.d (cD ns)),some (.d (bkD D0 R0)),some (.d (bkD D0 R0)),some (.d (.dict G)),some (.d (.list (nmL L))),some (.d (.int (k:Int))),none,o7] []=some ((.nx,[some (.d (cD ns)),some (.d (bkD D0 R0)),some (.d (bkD D0 R0)),some (.d (.dict G)),some (.d (.list (nmL L))),some (.d (.int (k:Int))),none,o7']),[]):=fun k o7=>by
  obtain⟨c,ec⟩:=rR (ns:=ns) (k:=12+(k:Int)) (T:=[]) (by omega);obtain⟨ds,ed,ld,hd⟩:=qV (c:=c+73*(k:Int)) (N:=30) (T:=[]) (by decide) (by decide);have ld':ds.length=30:=ld;have t0:=qY (A:=[]) (ds:=ds) (by omega) (by omega) hd;obtain⟨j,T1,e1,t1,j0,j1⟩:=cu (m:=7) t0 (by decide);have hrj:=iE (j:=j) j0 (by omega)
  obtain⟨ys,T2,e2,t2,l2,q2⟩:=p8 (P:=b4 []) (Q:=fun d=>∃y,d=.str y/\y∈L++[Oe "zzzzzzzz",Oe "A"]) (ds:=cv 0 j.toNat)
   (e:=af ixD (af aR (aa 5) (aC .list (ae (fC (.str "zzzzzzzz")) (ae (fC (.str "A")) ah)))) (aq bw (ae (aa 7) (ae (af aR (fCB aT (ae (aa 5) ah)) (fC (.int 2))) ah)))) (ρ:=[some (.d (cD ns)),some (.d (bkD D0 R0)),some (.d (bkD D0 R0)),some (.d (.dict G)),some (.d (.list (nmL L))),some (.d (.int (k:Int))),some (.tp 0),o7]) t1 fun d _ T t=>by
    obtain⟨i,T',ei,ti,i0,i1⟩:=cu (m:=((nmL L).length:Int)+2) t (by omega);have ei':bw [.tp 0,.d (.int (((nmL L).length:Int)+2))] T=some (.int i,T'):=ei;obtain⟨x,hx,hm⟩:=fU (xs:=nmL (L++[Oe "zzzzzzzz",Oe "A"])) i0 (by rw[cL] at i1 ⊢;simp;omega);obtain⟨y,hy,rfl⟩:=Ot.mp hm;refine⟨.str y,T',?_,ti,y,rfl,hy⟩;rw[←apZ] at hx;simp[lz,ei',hx]
  have ysn:∃rs:List Str,ys=nmL rs/\∀r∈rs,r∈L++[Oe "zzzzzzzz",Oe "A"]:=by
   clear e2 l2
   induction ys with
   |nil=>exact⟨[],rfl,by simp⟩
   |cons d ys ih=>
    obtain⟨rs,h1,h2⟩:=ih fun d hd=>q2 d (Ob _ hd);obtain⟨y,rfl,hy⟩:=q2 d Oc;exact⟨y::rs,by rw[h1];rfl,fun r hr=>(Oy.mp hr).elim (fun z=>by rw[z];exact hy) (h2 r)⟩
  obtain⟨rs,rfl,hrs⟩:=ysn
  have rl:rs.length<=20:=by
   rw[cL] at l2;simp[cv] at l2;omega
  have rr:=rt rs rl (fun r hr=>hZ r (hrs r hr)) T2;have e1':bw [.tp 0,.d (.int 7)] [[.list ds,.int 0]]=some (.int j,T1):=e1;obtain⟨ds',i',rfl,_⟩:=t2;refine⟨some (.d (.list (nmL rs))),?_⟩
  have es:(ak (aM 7 (bb (dE (aq bw (ae (aa 6) (ae (fC (.int 7)) ah)))) bx (af ixD (af aR (aa 5) (aC .list (ae (fC (.str "zzzzzzzz")) (ae (fC (.str "A")) ah)))) (aq bw (ae (aa 7) (ae (af aR (fCB aT (ae (aa 5) ah)) (fC (.int 2))) ah)))))) (fIf (a8 (a6 (aK (aq dW (ae (aa 1) (ae (aa 3) (ae (aa 7) ah)))))) (a6 (aK (aq dW (ae (aa 1) (ae (aa 3) (ae (aa 7) ah))))))) (ay (fC (.bool false))) aH)) [some (.d (cD ns)),some (.d (bkD D0 R0)),some (.d (bkD D0 R0)),some (.d (.dict G)),some (.d (.list (nmL L))),some (.d (.int (k:Int))),some (.tp 0),o7] [[.list ds,.int 0]]=some ((.nx,[some (.d (cD ns)),some (.d (bkD D0 R0)),some (.d (bkD D0 R0)),some (.d (.dict G)),some (.d (.list (nmL L))),some (.d (.int (k:Int))),some (.tp 0),some (.d (.list (nmL rs)))]),[]++[[.list ds',.int i']]):=by
   simp at e2 rr;simp[e1',hrj,e2,rr]
  have oe:=pI (n:=0) (fl:=.nx) (ρ:=[some (.d (cD ns)),some (.d (bkD D0 R0)),some (.d (bkD D0 R0)),some (.d (.dict G)),some (.d (.list (nmL L))),some (.d (.int (k:Int))),some (.tp 0),some (.d (.list (nmL rs)))]) (T:=[]) (row:=[.list ds',.int i']) rfl;rw[←es] at oe;have dr:ia 0 [some (.d (cD ns)),some (.d (bkD D0 R0)),some (.d (bkD D0 R0)),some (.d (.dict G)),some (.d (.list (nmL L))),some (.d (.int (k:Int))),some (.tp 0),some (.d (.list (nmL rs)))]=[some (.d (cD ns)),some (.d (bkD D0 R0)),some (.d (bkD D0 R0)),some (.d (.dict G)),some (.d (.list (nmL L))),some (.d (.int (k:Int))),none,some (.d (.list (nmL rs)))]:=rfl;rw[dr] at oe;rw[←oe];unfold mZ;rw[qm];simp[ec,ed,qo]
 have loop:∀(ks:List Nat) (o5 o7:Option D.W),∃p5 p7,forL 5 mZ (ks.map fun(k:Nat)=>P7 (k:Int)) [some (.d (cD ns)),some (.d (bkD D0 R0)),some (.d (bkD D0 R0)),some (.d (.dict G)),some (.d (.list (nmL L))),o5,none,o7] []=some ((.nx,[some (.d (cD ns)),some (.d (bkD D0 R0)),some (.d (bkD D0 R0)),some (.d (.dict G)),some (.d (.list (nmL L))),p5,none,p7]),[]):=fun ks=>by
  induction ks with
  |nil=>exact fun o5 o7=>⟨o5,o7,rfl⟩
  |cons k ks ih=>
   intro o5 o7;obtain⟨o7',e⟩:=turn k o7;obtain⟨p5,p7,f⟩:=ih (some (.d (.int (k:Int)))) o7';exact⟨p5,p7,(gn (by exact e)).trans f⟩
 obtain⟨p5,p7,f⟩:=loop (VB 0 10) none none;rw[←tf] at f;have h10:=iE (j:=10) (by decide) (by decide);have sv:=yj (b.sv (by decide)) 25 [] (by decide);have i0:ixD (bkD D0 R0) (.int 0)=some (.dict D0):=rfl;have i1:ixD (bkD D0 R0) (.int 1)=some (.dict R0):=rfl;have i2:QR [.dict D0,.dict R0]=bkD D0 R0:=rfl
 have lk:∀{ds:Dc}{l},dq ds=nmL l->i3 [.dict ds]=some (.list (nmL l)):=fun h=>by rw[←h];rfl
 have l1:(nmL (kn D0)).length+(nmL (kn R0)).length<=sizeLine:=by rw[cL,cL,dB,dB];omega
 refine⟨[],?_⟩;rw[CM];simp[eb,Ft,Dm,i0,i1,i2,eg,lk a.kD,lk a.kR,l1,v5,so,r1,r2,h10,f,sv]
def top(i:Nat):Stmt:=PySem.Challenge.pw_redo_k28_papers_told.main.body.getD i (.Pass ⟨0,0,0,0⟩)
abbrev zS:List (Str×Nat):=("is_whole",8)::("has_only",9)::("is_name",10)::("is_single",11)::("is_built",12)::("many_of",14)::("is_value",13)::("exprs_within",16)::("told_less",25)::("bounded",20)::("told_many",21)::("told_part",22)::("told_sum",23)::("told_join",24)::("told_of",19)::("told_by",18)::("step_of",27)::("stamp_of",29)::("end_by",40)::("line_from",39)::("lines_from",38)::("start_of",34)::("awaited_at",36)::("given",37)::("gone_on",35)::("made_afresh",33)::("lines_of",32)::("reads_none_of",47)::("in_order",46)::("names_in",45)::("names_reached",44)::("lines_reached",43)::("paper_of",42)::("_law_cell_at",49)::("_law_draws",50)::("_law_take",51)::("_law_many",52)::("_law_is_name",53)::("_law_is_part",54)::("_law_is_value",55)::("_law_stamp",56)::("_law_of_two",57)::("_law_told",58)::("_law_value_by",59)::("_law_next",60)::("_law_run",61)::("_law_good",62)::("_law_line",63)::("_law_is_pair",64)::("_law_is_line",65)::("_law_is_right",66)::("_law_lets",67)::("_law_same",68)::("_law_names",69)::("_law_value",70)::("_law_simple",71)::("_law_expr",72)::("_law_recipe",73)::("_law_book",74)::("_law_right",75)::("law",76)::[]
abbrev zZ:List Str:=["abs","all","any","bool","dict","int","isinstance","len","list","range","repr","sorted","str","sum","tuple"]
abbrev zI:List (Str×Int):=[("MOST_LETTERS",8),("MOST_PARTS",8),("MOST_ROWS",4),("MOST_SIGNS",20),("MOST_VALUES",40)]
abbrev zT:List (Str×Str):=[("LETTERS","abcdefghijklmnopqrstuvwxyz"),("TEXT_SIGNS","abcdefghijklmnopqrstuvwxyz0123456789-")]
structure Bi(K:Frag)(mg:Str->Option Oa):Prop extends Bz K mg zZ zI zT where
 g_GETTING:zL K mg "GETTING" ["want","peek"]
section
variable {P:OB}{w:OV}{K:Frag}{mg:Str->Option Oa}{base:Heap}(E:Ev P w K mg base (Bi K mg) top zS)
include E
theorem gN:Fn P w K mg base "is_whole" ["thing"] 1 (spM K 1 eS):=aY E 8 ["thing"] fun B S hr=>(aA (aD (cH (ba .int B.z (ag 0) B.z Qq) (cZ (rO (ba .bl B.z (ag 0) B.z Td))))))
theorem tS:Fn P w K mg base "has_only" ["text","signs"] 1 (spM K 2 iD):=aY E 9 ["text","signs"] fun B S hr=>(aA (aD (a9 oK rfl B.z V6 (aj (dR (top 9) ["text","signs"] (bK (ag 0)) (bH oS (ag 0) (ag 2))) av))))
theorem B1:Fn P w K mg base "is_name" ["thing"] 2 (spM K 1 jo):=aY E 10 ["thing"] fun B S hr=>(aA (aD (cH (ba .str B.z (ag 0) B.z Qx) (cH (DM fj fj ai (a9 bv rfl B.z O7 (aj (ag 0) av)) (kM rfl B.i)) (cZ (aX (tS E) hr (ag 0) (vz rfl B.s)))))))
theorem AB:Fn P w K mg base "is_single" ["thing"] 2 (spM K 1 ki):=aY E 11 ["thing"] fun B S hr=>(az (aL (aU (bc (gN E) hr (ag 0))) (aA (aD (bH fj (a9 yZ rfl B.z boot_abs (aj (ag 0) av)) (aO lG ai ai)))) aN) (aA (aD (cH (ba .str B.z (ag 0) B.z Qx) (cH (bH fj (a9 bv rfl B.z O7 (aj (ag 0) av)) (kM rfl B.i)) (cZ (aX (tS E) hr (ag 0) (vz rfl B.s))))))))
theorem Ba:∀n,Fn P w K mg base "is_built" ["thing","rows_left"] (2+n) (spM K 2 (fE n)):=dZ (eI E 12) fun n ih=>aY (k:=2+n) E 12 ["thing","rows_left"] fun B S hr=>(az (aL (bB (aU (ba .tup B.z (ag 0) B.z Pf))) (aA (aD (bc (AB E) hr (ag 0)))) aN) (az (aL (bu (bD (aI aV (ag 1) ai) (bZ (aI cU (a9 bv rfl B.z O7 (aj (ag 0) av)) (kM rfl B.i))))) (aA (aD bW)) aN) (aA (aD (a9 oK rfl B.z V6 (aj (dR (top 12) ["thing","rows_left"] (bK (ag 0)) (aX ih hr (ag 0) (aO iY (ag 2) ai))) av))))))
theorem B0:∀n,Fn P w K mg base "many_of" ["value"] (0+n) (spM K 1 (iF n)):=dZ (eI E 14) fun n ih=>aY (k:=0+n) E 14 ["value"] fun B S hr=>(az (aL (bB (aU (ba .tup B.z (ag 0) B.z Pf))) (aA (aD ai)) aN) (aA (aD (aO bo ai (a9 yX rfl B.z boot_sum (aj (dR (top 14) ["value"] (bK (ag 0)) (bc ih hr (ag 0))) av))))))
theorem A9:Fn P w K mg base "is_value" ["thing"] 28 (spM K 1 kz):=aY E 13 ["thing"] fun B S hr=>(aA (aD (cH (aX (Ba E 25) hr (ag 0) (kM rfl B.i)) (cZ (bH fj (bc (B0 E 25) hr (ag 0)) (kM rfl B.i))))))
theorem z8:Fn P w K mg base "exprs_within" ["expr"] 1 (spM K 1 fw):=aY E 16 ["expr"] fun B S hr=>(az (aL (bu (bD (aI aV (ar ax (ag 0) ai) aB) (bZ (aI aV (ar ax (ag 0) ai) aB)))) (aA (aD (bS av))) aN) (az (aL (aI aV (ar ax (ag 0) ai) aB) (aA (aD (ck lC rfl B.z Qt (aj (ar ax (ag 0) ai) av)))) aN) (aA (aD (ck lC rfl B.z Qt (aj (f6 (ag 0) (fN ai) fO) av))))))
theorem Ay:Fn P w K mg base "told_less" ["one","other"] 2 (spM K 2 gJ):=aY E 25 ["one","other"] fun B S hr=>(az (aL (bu (bD (bB (aU (bc (gN E) hr (ag 0)))) (bZ (bB (aU (bc (gN E) hr (ag 1))))))) (aA (aD (aS (aj aB (aj aB av))))) aN) (aA (aD (aS (aj aB (aj (dN (aI dO (ag 0) (ag 1)) ai ai) av))))))
theorem mL:Fn P w K mg base "bounded" ["thing"] 29 (spM K 1 gO):=aY E 20 ["thing"] fun B S hr=>(aA (aD (dN (aU (bc (A9 E) hr (ag 0))) (aS (aj aB (aj (ag 0) av))) (aS (aj aB (aj aB av))))))
theorem Ax:Fn P w K mg base "told_many" ["value"] 2 (spM K 1 kg):=aY E 21 ["value"] fun B S hr=>(az (aL (aU (bc (gN E) hr (ag 0))) (aA (aD (aS (aj aB (aj aB av))))) aN) (aA (aD (aS (aj aB (aj (a9 bv rfl B.z O7 (aj (ag 0) av)) av))))))
theorem Aw:Fn P w K mg base "told_part" ["row","number"] 2 (spM K 2 gh):=aY E 22 ["row","number"] fun B S hr=>(az (aL (bu (bD (bB (aU (ba .tup B.z (ag 0) B.z Pf))) (bZ (bB (aU (bc (gN E) hr (ag 1))))))) (aA (aD (aS (aj aB (aj aB av))))) aN) (az (aL (bB (vq fj dO ai (ag 1) (a9 bv rfl B.z O7 (aj (ag 0) av)))) (aA (aD (aS (aj aB (aj aB av))))) aN) (aA (aD (aS (aj aB (aj (ar ax (ag 0) (ag 1)) av)))))))
theorem A4:Fn P w K mg base "told_sum" ["one","other"] 30 (spM K 2 iC):=aY E 23 ["one","other"] fun B S hr=>(az (aL (bu (bD (bB (aU (bc (gN E) hr (ag 0)))) (bZ (bB (aU (bc (gN E) hr (ag 1))))))) (aA (aD (aS (aj aB (aj aB av))))) aN) (aA (aD (bc (mL E) hr (aO bo (ag 0) (ag 1))))))
theorem Az:Fn P w K mg base "told_join" ["one","other"] 30 (spM K 2 gi):=aY E 24 ["one","other"] fun B S hr=>(az (aL (bu (cG (aU (ba .str B.z (ag 0) B.z Qx)) (dh (aU (ba .str B.z (ag 1) B.z Qx))))) (aA (aD (bc (mL E) hr (aO bo (ag 0) (ag 1))))) aN) (az (aL (bu (cG (aU (ba .tup B.z (ag 0) B.z Pf)) (dh (aU (ba .tup B.z (ag 1) B.z Pf))))) (aA (aD (bc (mL E) hr (aO bo (ag 0) (ag 1))))) aN) (aA (aD (aS (aj aB (aj aB av)))))))
theorem BY:Fn P w K mg base "told_of" ["word","parts"] 31 (spM K 2 bA):=aY E 19 ["word","parts"] fun B S hr=>(az (aL (aI aV (ag 0) aB) (aA (aD (bc (mL E) hr (ck jC rfl B.z Pf (aj (ag 1) av))))) aN) (az (aL (aI aV (ag 0) aB) (aA (aD (bc (Ax E) hr (ar ax (ag 1) ai)))) aN) (az (aL (aI aV (ag 0) aB) (aA (aD (aX (Aw E) hr (ar ax (ag 1) ai) (ar ax (ag 1) ai)))) aN) (az (aL (aI aV (ag 0) aB) (aA (aD (aX (A4 E) hr (ar ax (ag 1) ai) (ar ax (ag 1) ai)))) aN) (az (aL (aI aV (ag 0) aB) (aA (aD (aX (Az E) hr (ar ax (ag 1) ai) (ar ax (ag 1) ai)))) aN) (az (aL (aI aV (ag 0) aB) (aA (aD (aS (aj aB (aj (dN (aI (iZ hr) (ar ax (ag 1) ai) (ar ax (ag 1) ai)) ai ai) av))))) aN) (aA (aD (aX (Ay E) hr (ar ax (ag 1) ai) (ar ax (ag 1) ai))))))))))
theorem BZ:∀n,Fn P w K mg base "told_by" ["expr","got"] (31+n) (spM K 2 (dX n)):=dZ (eI E 18) fun n ih=>aY (k:=31+n) E 18 ["expr","got","parts","inner","told"] fun B S hr=>(az (aL (aI aV (ar ax (ag 0) ai) aB) (aA (aD (aS (aj aB (aj (ar ax (ag 0) ai) av))))) aN) (az (aL (aI aV (ar ax (ag 0) ai) aB) (aA (aD (aS (aj aB (aj (ar ax (ag 1) (ar ax (ag 0) ai)) av))))) aN) (az (jA (i:=2) S.nd av) (az (fT (i:=3) S.nd (bK (bc (z8 E) hr (ag 0))) (az (a7 (i:=4) S.nd (aX ih hr (ag 3) (ag 1))) (az (aL (aI aV (ar ax (ag 4) ai) aB) (aA (aD (ag 4))) aN) (aA (jS (i:=2) (by exact(ar ax (ag 4) ai))))))) (aA (aD (vA (BY E) (hr.mono (by omega)) rfl (aj (ar ax (ag 0) ai) (aj (ag 2) av)) (cR (cR gQ)))))))))
theorem uw:∀n,Fn P w K mg base "step_of" ["recipe","got"] (56+n) (spM K 2 (cX n)):=dZ (eI E 27) fun n ih=>aY (k:=56+n) E 27 ["recipe","got","told"] fun B S hr=>(az (aL (aI aV (ar ax (ag 0) ai) aB) (aA (aD (aS (aj aB (aj (ar ax (ag 0) ai) av))))) aN) (az (a7 (i:=2) S.nd (aX (BZ E 25) hr (ar ax (ag 0) ai) (ag 1))) (az (aL (aI aV (ar ax (ag 2) ai) aB) (aA (aD (ag 2))) aN) (az (aL (aI aV (ar ax (ag 0) ai) aB) (aA (aD (aX ih hr (dN (aI (IW hr) (ar ax (ag 2) ai) (aS (aj ai (aj aB (aj (aS av) av))))) (ar ax (ag 0) ai) (ar ax (ag 0) ai)) (ag 1)))) aN) (az (aL (aI aV (ar ax (ag 0) ai) aB) (aA (aD (aS (aj aB (aj (ar ax (ag 2) ai) av))))) aN) (az (aL (bB (aU (bc (B1 E) hr (ar ax (ag 2) ai)))) (aA (aD (aS (aj aB (aj aB av))))) aN) (aA (aD (aS (aj (ar ax (ag 0) ai) (aj (ar ax (ag 2) ai) (aj (ar ax (ag 0) ai) av))))))))))))
theorem tR:∀n,Fn P w K mg base "stamp_of" ["value"] (1+n) (spM K 1 (eQ n)):=dZ (eI E 29) fun n ih=>aY (k:=1+n) E 29 ["value"] fun B S hr=>(az (aL (aU (bc (gN E) hr (ag 0))) (aA (aD (ck yY rfl B.z Qx (aj (ag 0) av)))) aN) (az (aL (aU (ba .str B.z (ag 0) B.z Qx)) (aA (aD (aO bo aB (ag 0)))) aN) (aA (aD (aO bo (aO bo aB (wC aB (dR (top 29) ["value"] (bK (ag 0)) (bc ih hr (ag 0))))) aB)))))
theorem Dh:Fn P w K mg base "end_by" ["step"] 27 (spM K 1 jp):=aY E 40 ["step"] fun B S hr=>(az (aL (aI aV (ar ax (ag 0) ai) aB) (aA (aD (aS (aj aB (aj (bc (tR E 25) hr (ar ax (ag 0) ai)) av))))) aN) (az (aL (aI aV (ar ax (ag 0) ai) aB) (aA (aD (ag 0))) aN) (aA (aD (aS (aj aB (aj (ar ax (ag 0) ai) av)))))))
theorem AA:Fn P w K mg base "line_from" ["name","come"] 28 (spM K 2 kh):=aY E 39 ["name","come","reads"] fun B S hr=>(az (a7 (i:=2) S.nd (ck jC rfl B.z Pf (aj (dR (top 39) ["name","come","reads"] (bK (ar ax (ag 1) ai)) (aS (aj (ar ax (ag 0) ai) (aj (bc (tR E 25) hr (ar ax (ag 0) ai)) av)))) av))) (aA (aD (aS (aj (ag 0) (aj (ag 2) (aj (bc (Dh E) hr (ar ax (ag 1) ai)) av)))))))
theorem Ao:Fn P w K mg base "lines_from" ["come"] 29 (spM K 1 mq):=aY E 38 ["come","lines","name"] fun B S hr=>(az (jB (i:=1) S.nd) (az (fT (i:=2) S.nd (bK (ag 0)) (aA (fM (i:=1) hr (ag 2) (aX (AA E) hr (ag 2) (ar (c7 hr) (ag 0) (ag 2)))))) (aA (aD (ag 1)))))
theorem A5:Fn P w K mg base "start_of" ["recipe"] 82 (spM K 1 ky):=aY E 34 ["recipe"] fun B S hr=>(aA (aD (aS (aj (aS av) (aj (aS av) (aj (aX (uw E 25) hr (ag 0) (aS av)) av))))))
theorem sX:Fn P w K mg base "awaited_at" ["come"] 1 (spM K 1 eh):=aY E 36 ["come"] fun B S hr=>(aA (aD (dN (aI oS (ar ax (ar ax (ag 0) ai) ai) (DJ (ss:=["want","peek"]) rfl B.g_GETTING)) (ar ax (ar ax (ag 0) ai) ai) lA)))
theorem Fi:Fn P w K mg base "given" ["come","value"] 82 (spM K 2 jz):=aY E 37 ["come","value","step","got","reads"] fun B S hr=>(az (a7 (i:=2) S.nd (ar ax (ag 0) ai)) (az (a7 (i:=3) S.nd (aO bo (ar ax (ag 0) ai) (aS (aj (ag 1) av)))) (az (a7 (i:=4) S.nd (dN (aI aV (ar ax (ag 2) ai) aB) (aO bo (ar ax (ag 0) ai) (aS (aj (aS (aj (ar ax (ag 2) ai) (aj (ag 1) av))) av))) (ar ax (ag 0) ai))) (aA (aD (aS (aj (ag 3) (aj (ag 4) (aj (aX (uw E 25) hr (ar ax (ag 2) ai) (ag 3)) av)))))))))
theorem B2:Fn P w K mg base "gone_on" ["come","good"] 83 (spM K 2 kE):=aY E 35 ["come","good"] fun B S hr=>(az (js 100000 (aI (gz hr) (bc (sX E) hr (ag 0)) (ag 1)) (aA (a7 (i:=0) S.nd (aX (Fi E) hr (ag 0) (ar (c7 hr) (ag 1) (bc (sX E) hr (ag 0))))))) (aA (aD (ag 0))))
theorem Ae:Fn P w K mg base "made_afresh" ["book"] 84 (spM K 1 ml):=aY E 33 ["book","good","come","name","recipe","grown","many"] fun B S hr=>(az (qq (i:=1) B.z S.nd (ar ax (ag 0) ai)) (az (jB (i:=2) S.nd) (az (FF (i:=3) (j:=4) S.nd (ar ax (ag 0) ai) (aA (fM (i:=2) hr (ag 3) (bc (A5 E) hr (ag 4))))) (az (a7 (i:=5) S.nd bW) (az (js 100000 (aU (ag 5)) (az (a7 (i:=6) S.nd (a9 bv rfl B.z O7 (aj (ag 1) av))) (az (fT (i:=3) S.nd (bK (ar ax (ag 0) ai)) (az (fM (i:=2) hr (ag 3) (nF (aX (B2 E) hr (ar (c7 hr) (ag 2) (ag 3)) (ag 1)))) (aA (aL (aI aV (ar ax (ar ax (ar (c7 hr) (ag 2) (ag 3)) ai) ai) aB) (aA (fM (i:=1) hr (ag 3) (ar ax (ar ax (ar (c7 hr) (ag 2) (ag 3)) ai) ai))) aN)))) (aA (a7 (i:=5) S.nd (bH cU (a9 bv rfl B.z O7 (aj (ag 1) av)) (ag 6))))))) (aA (aD (aS (aj (ag 1) (aj (ag 2) av))))))))))
theorem A8:Fn P w K mg base "lines_of" ["book"] 85 (spM K 1 mx):=aY E 32 ["book"] fun B S hr=>(aA (aD (bc (Ao E) hr (ar ax (bc (Ae E) hr (ag 0)) ai))))
theorem zW:Fn P w K mg base "reads_none_of" ["lines","line"] 1 (spM K 2 iu):=aY E 47 ["lines","line"] fun B S hr=>(aA (aD (rO (a9 JB rfl B.z boot_any (aj (dR (top 47) ["lines","line"] (bK (ar ax (ag 1) ai)) (bH (gz hr) (ar ax (ag 0) ai) (ag 1))) av)))))
theorem Bb:Fn P w K mg base "in_order" ["lines"] 2 (spO K 1 my):=yT E 46 ["lines","paper","left","free","name"] fun B S hr=>(az (jA (i:=1) S.nd av) (az (qq (i:=2) B.z S.nd (ag 0)) (az (js 100000 (aI cU (a9 bv rfl B.z O7 (aj (ag 2) av)) ai) (az (oJ (i:=3) (top 46) ["lines","paper","left","free","name"] ["lines","paper","left","free",".4."] S.nd (bK (vx B.z (ag 2))) (ag 0) (qO rfl (aU (nF (aX (zW E) hr (ag 3) (ar (c7 hr) (ag 3) (ag 0))))))) (az (aL (aI aV (a9 bv rfl B.z O7 (aj (ag 3) av)) ai) (aA Dt) aN) (aA (fT (i:=4) S.nd (bK (ag 3)) (aA (HM (i:=1) (j:=2) (by exact(ag 4))))))))) (aA (Dv (i:=1))))))
theorem A7:Fn P w K mg base "names_in" ["line"] 1 (spM K 1 gj):=aY E 45 ["line","wanted"] fun B S hr=>(az (a7 (i:=1) S.nd (dN (aI aV (ar ax (ar ax (ag 0) ai) ai) aB) (bS (aj (ar ax (ar ax (ag 0) ai) ai) av)) (bS av))) (aA (aD (aO bo (dR (top 45) ["line","wanted"] (bK (ar ax (ag 0) ai)) (ar ax (ag 0) ai)) (ag 1)))))
theorem zX:Fn P w K mg base "names_reached" ["lines","names"] 2 (spM K 2 kc):=aY E 44 ["lines","names","reached","left","name"] fun B S hr=>(az (jB (i:=2) S.nd) (az (Dq (i:=3) B.z S.nd (ag 1)) (az (js 100000 (aI cU (a9 bv rfl B.z O7 (aj (ag 3) av)) ai) (az (FC (i:=3) (j:=4) S.nd) (aA (aL (aI (qh hr) (ag 4) (ag 2)) (az (fM (i:=2) hr (ag 4) bW) (aA (HL (i:=3) (by exact(dN (aI (gz hr) (ag 4) (ag 0)) (bc (A7 E) hr (ar (c7 hr) (ag 0) (ag 4))) (bS av)))))) aN)))) (aA (aD (vx B.z (ag 2)))))))
theorem zY:Fn P w K mg base "lines_reached" ["lines","names"] 3 (spM K 2 mh):=aY E 43 ["lines","names","found","name"] fun B S hr=>(az (jB (i:=2) S.nd) (az (fT (i:=3) S.nd (bK (aX (zX E) hr (ag 0) (ag 1))) (aA (aL (aI (gz hr) (ag 3) (ag 0)) (aA (fM (i:=2) hr (ag 3) (ar (c7 hr) (ag 0) (ag 3)))) aN))) (aA (aD (ag 2)))))
theorem A6:Fn P w K mg base "paper_of" ["book","names"] 86 (spO K 2 jm):=yT E 42 ["book","names","lines"] fun B S hr=>(az (a7 (i:=2) S.nd (bc (A8 E) hr (ag 0))) (aA (Du (Bb E) (hr.mono (by omega)) rfl (aj (aX (zY E) hr (ag 2) (ag 1)) av) (cR gQ))))
theorem pf:Fn P w K mg base "_law_cell_at" ["_law_script","_law_k"] 1 (spM K 2 fB):=aY E 49 ["_law_script","_law_k"] fun B S hr=>(az (aL (aI dO (ag 1) (a9 bv rfl B.z O7 (aj (ag 0) av))) (aA (aD (ar ax (ag 0) (ag 1)))) aN) (aA (aD ai)))
theorem pq:Fn P w K mg base "_law_draws" ["_law_cell","_law_many_here"] 1 (spM K 2 gc):=aY E 50 ["_law_cell","_law_many_here","_law_found","_law_number","_law_mixed","_law_k"] fun B S hr=>(az (jA (i:=2) S.nd av) (az (a7 (i:=3) S.nd ai) (az (aL (aI JV (ag 0) (aO lG ai ai)) (aA (a7 (i:=3) S.nd (ag 0))) aN) (az (a7 (i:=4) S.nd (aO bo (aO fX (ag 0) ai) ai)) (az (fT (i:=5) S.nd (gR rfl B.z (ag 1)) (az (a7 (i:=4) S.nd (aO fX (aO bo (aO bo (aO eY (ag 4) (ag 4)) (aO eY ai (ag 4))) (aO eY ai (ag 5))) ai)) (aA (aL (aI cU (ag 3) ai) (az (jS (i:=2) (by exact(aO fX (ag 3) ai))) (aA (a7 (i:=3) S.nd (aO nr (ag 3) ai)))) (aA (jS (i:=2) (by exact(aO nr (aO fX (aO bo (aO eY (ag 4) ai) (aO eY ai (ag 5))) ai) ai)))))))) (aA (aD (ag 2))))))))
theorem cj:Fn P w K mg base "_law_take" ["_law_tape","_law_many_here"] 1 (spM K 2 bw):=aY E 51 ["_law_tape","_law_many_here"] fun B S hr=>(az (HK (ag 0) ai (aO bo (ar ax (ag 0) ai) ai)) (aA (aD (aO fX (ar ax (ar ax (ag 0) ai) (aO fX (aO iY (ar ax (ag 0) ai) ai) (a9 bv rfl B.z O7 (aj (ar ax (ag 0) ai) av)))) (ag 1)))))
theorem AE:∀n,Fn P w K mg base "_law_many" ["_law_value_here"] (0+n) (spM K 1 (iz n)):=dZ (eI E 52) fun n ih=>aY (k:=0+n) E 52 ["_law_value_here"] fun B S hr=>(az (aL (bB (aU (ba .tup B.z (ag 0) B.z Pf))) (aA (aD ai)) aN) (aA (aD (aO bo ai (a9 yX rfl B.z boot_sum (aj (dR (top 52) ["_law_value_here"] (bK (ag 0)) (bc ih hr (ag 0))) av))))))
theorem mj:Fn P w K mg base "_law_is_name" ["_law_thing"] 1 (spM K 1 fA):=aY E 53 ["_law_thing"] fun B S hr=>(az (aL (bu (bD (bB (aU (ba .str B.z (ag 0) B.z Qx))) (bD (aI dO (a9 bv rfl B.z O7 (aj (ag 0) av)) ai) (bZ (aI cU (a9 bv rfl B.z O7 (aj (ag 0) av)) ai))))) (aA (aD bW)) aN) (aA (aD (bH (iZ hr) (gD (top 53) ["_law_thing"] (bK (ag 0)) (ag 0) (aI kT (ag 0) aB)) (bS av)))))
theorem z9:∀n,Fn P w K mg base "_law_is_part" ["_law_thing","_law_deep"] (0+n) (spM K 2 (d9 n)):=dZ (eI E 54) fun n ih=>aY (k:=0+n) E 54 ["_law_thing","_law_deep","_law_signs"] fun B S hr=>(az (aL (aU (ba .bl B.z (ag 0) B.z Td)) (aA (aD bW)) aN) (az (aL (aU (ba .int B.z (ag 0) B.z Qq)) (aA (aD (bH fj (a9 yZ rfl B.z boot_abs (aj (ag 0) av)) (aO lG ai ai)))) aN) (az (aL (aU (ba .str B.z (ag 0) B.z Qx)) (az (a7 (i:=2) S.nd aB) (aA (aD (cH (bH fj (a9 bv rfl B.z O7 (aj (ag 0) av)) ai) (cZ (bH (iZ hr) (gD (top 54) ["_law_thing","_law_deep","_law_signs"] (bK (ag 0)) (ag 0) (aI kT (ag 0) (ag 3))) (bS av))))))) aN) (az (aL (bu (bD (bB (aU (ba .tup B.z (ag 0) B.z Pf))) (bD (aI cU (a9 bv rfl B.z O7 (aj (ag 0) av)) ai) (bZ (aI cU (ag 1) ai))))) (aA (aD bW)) aN) (aA (aD (bH (iZ hr) (gD (top 54) ["_law_thing","_law_deep","_law_signs"] (bK (ag 0)) (ag 0) (bB (aU (aX ih hr (ag 0) (aO bo (ag 2) ai))))) (bS av))))))))
theorem pb:Fn P w K mg base "_law_is_value" ["_law_thing"] 26 (spM K 1 gb):=aY E 55 ["_law_thing"] fun B S hr=>(aA (aD (cH (aX (z9 E 25) hr (ag 0) ai) (cZ (bH fj (bc (AE E 25) hr (ag 0)) ai)))))
theorem mr:∀n,Fn P w K mg base "_law_stamp" ["_law_value_here"] (0+n) (spM K 1 (cK n)):=dZ (eI E 56) fun n ih=>aY (k:=0+n) E 56 ["_law_value_here"] fun B S hr=>(az (aL (aU (ba .tup B.z (ag 0) B.z Pf)) (aA (aD (aO bo (aO bo aB (wC aB (dR (top 56) ["_law_value_here"] (bK (ag 0)) (bc ih hr (ag 0))))) aB))) aN) (az (aL (aU (ba .str B.z (ag 0) B.z Qx)) (aA (aD (aO bo aB (ag 0)))) aN) (aA (aD (ck yY rfl B.z Qx (aj (ag 0) av))))))
theorem Ag:Fn P w K mg base "_law_of_two" ["_law_kind","_law_one","_law_other"] 27 (spM K 3 bP):=aY E 57 ["_law_kind","_law_one","_law_other","_law_whole","_law_alike"] fun B S hr=>(az (a7 (i:=3) S.nd (cH (ba .int B.z (ag 1) B.z Qq) (cZ (ba .int B.z (ag 2) B.z Qq)))) (az (a7 (i:=4) S.nd (cH (bH aV (ba .str B.z (ag 1) B.z Qx) (ba .str B.z (ag 2) B.z Qx)) (cZ (bH aV (ba .tup B.z (ag 1) B.z Pf) (ba .tup B.z (ag 2) B.z Pf))))) (az (aL (aI aV (ag 0) aB) (aA (aD (aS (aj aB (aj (ck ic rfl B.z Qq (aj (bH aV (qP hr B.z (ag 1)) (qP hr B.z (ag 2))) av)) av))))) aN) (az (aL (bu (cG (aI aV (ag 0) aB) (dh (aU (ag 3))))) (aA (aD (aS (aj aB (aj (ck ic rfl B.z Qq (aj (bH dO (ag 1) (ag 2)) av)) av))))) aN) (az (aL (bu (cG (aI aV (ag 0) aB) (cG (aU (ba .tup B.z (ag 1) B.z Pf)) (dh (aU (ba .int B.z (ag 2) B.z Qq)))))) (aA (aD (dN (vq fj dO ai (ag 2) (a9 bv rfl B.z O7 (aj (ag 1) av))) (aS (aj aB (aj (ar ax (ag 1) (ag 2)) av))) (aS (aj aB (aj aB av)))))) aN) (az (aL (bu (bD (bu (cG (aI aV (ag 0) aB) (cG (aU (ag 4)) (dh (bB (aU (ag 3))))))) (bZ (bu (cG (aI aV (ag 0) aB) (dh (aU (ag 3)))))))) (aA (aD (dN (aU (bc (pb E) hr (aO bo (ag 1) (ag 2)))) (aS (aj aB (aj (aO bo (ag 1) (ag 2)) av))) (aS (aj aB (aj aB av)))))) aN) (aA (aD (aS (aj aB (aj aB av)))))))))))
theorem AC:∀n,Fn P w K mg base "_law_told" ["_law_expr_here","_law_got"] (27+n) (spM K 2 (cW n)):=dZ (eI E 58) fun n ih=>aY (k:=27+n) E 58 ["_law_expr_here","_law_got","_law_parts","_law_one","_law_found"] fun B S hr=>(az (aL (aI aV (ar ax (ag 0) ai) aB) (aA (aD (aS (aj aB (aj (ar ax (ag 0) ai) av))))) aN) (az (aL (aI aV (ar ax (ag 0) ai) aB) (aA (aD (aS (aj aB (aj (ar ax (ag 1) (ar ax (ag 0) ai)) av))))) aN) (az (jA (i:=2) S.nd av) (az (fT (i:=3) S.nd (bK (ar ax (bS (aj (ck lC rfl B.z Qt (aj (f6 (ag 0) (fN ai) fO) av)) (aj (ck lC rfl B.z Qt (aj (ar ax (ag 0) ai) av)) av))) (ck ic rfl B.z Qq (aj (bH aV (ar ax (ag 0) ai) aB) av)))) (az (a7 (i:=4) S.nd (aX ih hr (ag 3) (ag 1))) (az (aL (aI aV (ar ax (ag 4) ai) aB) (aA (aD (ag 4))) aN) (aA (jS (i:=2) (by exact(ar ax (ag 4) ai))))))) (az (aL (aI aV (ar ax (ag 0) ai) aB) (aA (aD (dN (aU (bc (pb E) hr (ck jC rfl B.z Pf (aj (ag 2) av)))) (aS (aj aB (aj (ck jC rfl B.z Pf (aj (ag 2) av)) av))) (aS (aj aB (aj aB av)))))) aN) (az (aL (aI aV (ar ax (ag 0) ai) aB) (aA (aD (dN (aU (ba .int B.z (ar ax (ag 2) ai) B.z Qq)) (aS (aj aB (aj aB av))) (aS (aj aB (aj (a9 bv rfl B.z O7 (aj (ar ax (ag 2) ai) av)) av)))))) aN) (aA (aD (du (Ag E) hr (ar ax (ag 0) ai) (ar ax (ag 2) ai) (ar ax (ag 2) ai))))))))))
theorem oZ:Fn P w K mg base "_law_value_by" ["_law_text"] 27 (spM K 1 iw):=aY E 59 ["_law_text","_law_pile","_law_word","_law_figures","_law_part"] fun B S hr=>(B9 (i:=1) S.nd (FJ (HJ (bB (aU (ba .str B.z (ag 0) B.z Qx))) (Fy cU (a9 bv rfl B.z O7 (aj (ag 0) av)))) (eW (xY (bS av))) (Ca (FN (i:=1) (j:=2) S.nd (DB (Cc (tD (tD (DE.one1 (ag 0)))) aB)) (qr (HP (i:=1) (j:=3) S.nd (f6 (ag 2) (fN (ck ic rfl B.z Qq (aj (bH aV (f6 (ag 2) fO (fN ai)) aB) av))) fO)) (eW (lS (aI aV (ag 2) aB) (eW (FM (i:=1))) (eW (lS (bu (cG (aI aV (ag 2) aB) (dh (aI cU (a9 bv rfl B.z O7 (aj (ag 1) av)) ai)))) (qr (HQ (i:=1) (j:=4) rfl B.z Pf S.nd) (eW (rN (i:=1) (lB ai) (by exact(ag 4))))) (eW (lS (aI aV (f6 (ag 2) fO (fN ai)) aB) (eW (rN (i:=1) (lB ai) (by exact(f6 (ag 2) (fN ai) fO)))) (eW (lS (bu (cG (aI d7 (ag 3) aB) (cG (aI dO (a9 bv rfl B.z O7 (aj (ag 2) av)) ai) (dh (aI (iZ hr) (gD (top 59) ["_law_text","_law_pile","_law_word","_law_figures","_law_part"] (bK (ag 3)) (ag 0) (aI kT (ag 0) aB)) (bS av)))))) (eW (rN (i:=1) (lB ai) (by exact(ck ic rfl B.z Qq (aj (ag 2) av))))) wx)))))))))) (qr (lS (bu (bD (aI cU (a9 bv rfl B.z O7 (aj (ag 1) av)) ai) (bD (aI d7 (a9 bv rfl B.z O7 (aj (ar ax (ag 1) ai) av)) ai) (bD (bB (aU (bc (pb E) hr (ar ax (ar ax (ag 1) ai) ai)))) (bZ (aI d7 (bc (mr E 25) hr (ar ax (ar ax (ag 1) ai) ai)) (ag 0))))))) (eW (xY (bS av))) wx) (eW (FL (i:=1)))))))
theorem AD:Fn P w K mg base "_law_next" ["_law_word","_law_good_here","_law_row","_law_at","_law_name"] 28 (spM K 5 gK):=aY E 60 ["_law_word","_law_good_here","_law_row","_law_at","_law_name"] fun B S hr=>(az (aL (aI zA (ag 2) lA) (aA (aD (dN (aI (gz hr) (ag 4) (ag 1)) (bS (aj (ar (c7 hr) (ag 1) (ag 4)) av)) (aS (aj aB (aj (ag 4) av)))))) aN) (az (aL (bu (bD (aI aV (ag 0) aB) (bZ (bu (cG (aI dO (ag 3) (a9 bv rfl B.z O7 (aj (ag 2) av))) (dh (aI d7 (ar ax (ar ax (ag 2) (ag 3)) ai) (ag 4)))))))) (aA (aD (aS (aj aB (aj (ag 4) av))))) aN) (aA (aD (dN (aI dO (ag 3) (a9 bv rfl B.z O7 (aj (ag 2) av))) (bc (oZ E) hr (ar ax (ar ax (ag 2) (ag 3)) ai)) (aS (aj aB (aj (ag 4) av))))))))
theorem pH:Fn P w K mg base "_law_run" ["_law_recipe_here","_law_good_here","_law_row"] 53 (spM K 3 gM):=aY E 61 ["_law_recipe_here","_law_good_here","_law_row","_law_got","_law_reads","_law_found","_law_some"] fun B S hr=>(az (jA (i:=3) S.nd av) (az (jA (i:=4) S.nd av) (az (js 100000 (aI d7 (ar ax (ag 0) ai) aB) (az (a7 (i:=5) S.nd (vA (AC E 25) (hr.mono (by omega)) rfl (aj (ar ax (ag 0) ai) (aj (ag 3) av)) (cR (cR gQ)))) (az (aL (bu (bD (aI aV (ar ax (ag 5) ai) aB) (bZ (aI aV (ar ax (ag 0) ai) aB)))) (aA (aD (aS (aj (ag 4) (aj (ar ax (bS (aj (ag 5) (aj (aS (aj aB (aj (bc (mr E 25) hr (ar ax (ag 5) ai)) av))) av))) (ck ic rfl B.z Qq (aj (bH aV (ar ax (ag 5) ai) aB) av))) av))))) aN) (aA (aL (aI aV (ar ax (ag 0) ai) aB) (aA (a7 (i:=0) S.nd (ar ax (ag 0) (aO bo ai (ck ic rfl B.z Qq (aj (bH oS (qP hr B.z (ar ax (ag 5) ai)) (bS (aj aB (aj aB (aj aB av))))) av)))))) (aA (aL (bB (aU (bc (mj E) hr (ar ax (ag 5) ai)))) (aA (aD (aS (aj (ag 4) (aj (aS (aj aB (aj aB av))) av))))) (az (a7 (i:=6) S.nd (l8 (AD E) hr (ar ax (ag 0) ai) (ag 1) (ag 2) (a9 bv rfl B.z O7 (aj (ag 4) av)) (ar ax (ag 5) ai))) (az (aL (aU (ba .tup B.z (ag 6) B.z Pf)) (aA (aD (aS (aj (ag 4) (aj (ag 6) av))))) aN) (az (jS (i:=3) (by exact(ar ax (ag 6) ai))) (az (aL (aI aV (ar ax (ag 0) ai) aB) (aA (jS (i:=4) (by exact(aS (aj (ar ax (ag 5) ai) (aj (bc (mr E 25) hr (ar ax (ag 6) ai)) av)))))) aN) (aA (a7 (i:=0) S.nd (ar ax (ag 0) ai)))))))))))))) (aA (aD (aS (aj (ag 4) (aj (aS (aj aB (aj (ar ax (ag 0) ai) av))) av))))))))
theorem AH:Fn P w K mg base "_law_good" ["_law_book_here"] 54 (spM K 1 kq):=aY E 62 ["_law_book_here","_law_good_here","_law_going","_law_name","_law_end"] fun B S hr=>(az (qq (i:=1) B.z S.nd (ar ax (ag 0) ai)) (az (a7 (i:=2) S.nd bW) (az (js 100000 (aU (ag 2)) (az (a7 (i:=2) S.nd bW) (aA (fT (i:=3) S.nd (bK (gD (top 62) ["_law_book_here","_law_good_here","_law_going","_law_name","_law_end"] (bK (ar ax (ag 0) ai)) (ag 0) (aI (qh hr) (ag 0) (ag 2)))) (az (a7 (i:=4) S.nd (nF (ar ax (du (pH E) hr (ar (c7 hr) (ar ax (ag 0) ai) (ag 3)) (ag 1) lA) ai))) (aA (aL (aI aV (ar ax (ag 4) ai) aB) (az (fM (i:=1) hr (ag 3) (ar ax (bc (oZ E) hr (ar ax (ag 4) ai)) ai)) (aA (a7 (i:=2) S.nd bW))) aN))))))) (aA (aD (ag 1))))))
theorem AF:Fn P w K mg base "_law_line" ["_law_book_here","_law_good_here","_law_name"] 54 (spM K 3 km):=aY E 63 ["_law_book_here","_law_good_here","_law_name","_law_reads","_law_end"] fun B S hr=>(az (xV (i:=3) (j:=4) S.nd (du (pH E) hr (ar (c7 hr) (ar ax (ag 0) ai) (ag 2)) (ag 1) lA)) (aA (aD (aS (aj (ag 2) (aj (ck jC rfl B.z Pf (aj (ag 3) av)) (aj (ag 4) av)))))))
theorem sQ:Fn P w K mg base "_law_is_pair" ["_law_thing","_law_stamped"] 28 (spM K 2 eN):=aY E 64 ["_law_thing","_law_stamped"] fun B S hr=>(az (aL (bu (bD (bB (aU (ba .tup B.z (ag 0) B.z Pf))) (bD (aI d7 (a9 bv rfl B.z O7 (aj (ag 0) av)) ai) (bZ (bB (aU (ba .str B.z (ar ax (ag 0) ai) B.z Qx))))))) (aA (aD bW)) aN) (az (aL (bu (bD (aU (ag 1)) (bZ (aI aV (ar ax (ag 0) ai) aB)))) (aA (aD (cH (bH (lH hr) (bc (oZ E) hr (ar ax (ag 0) ai)) (bS av)) (cZ (bc (mj E) hr (ar ax (ag 0) ai)))))) aN) (aA (aD (cH (bH oS (ar ax (ag 0) ai) (bS (aj aB (aj aB av)))) (cZ (bc (mj E) hr (ar ax (ag 0) ai))))))))
theorem Aa:Fn P w K mg base "_law_is_line" ["_law_thing"] 29 (spM K 1 ji):=aY E 65 ["_law_thing"] fun B S hr=>(az (aL (bu (bD (bB (aU (ba .tup B.z (ag 0) B.z Pf))) (bD (aI d7 (a9 bv rfl B.z O7 (aj (ag 0) av)) ai) (bZ (bB (aU (bc (mj E) hr (ar ax (ag 0) ai)))))))) (aA (aD bW)) aN) (az (aL (bu (bD (bB (aU (ba .tup B.z (ar ax (ag 0) ai) B.z Pf))) (bD (aI cU (a9 bv rfl B.z O7 (aj (ar ax (ag 0) ai) av)) ai) (bZ (bB (aU (aX (sQ E) hr (ar ax (ag 0) ai) bW))))))) (aA (aD bW)) aN) (aA (aD (bH (iZ hr) (gD (top 65) ["_law_thing"] (bK (ar ax (ag 0) ai)) (ag 0) (bB (aU (aX (sQ E) hr (ag 0) bW)))) (bS av))))))
theorem z4:Fn P w K mg base "_law_is_right" ["_law_recipe_here","_law_line_here"] 54 (spM K 2 kf):=aY E 66 ["_law_recipe_here","_law_line_here","_law_reads","_law_end"] fun B S hr=>(az (xV (i:=2) (j:=3) S.nd (du (pH E) hr (ag 0) FR (ar ax (ag 1) ai))) (aA (aD (cH (bH (iZ hr) (ag 3) (ar ax (ag 1) ai)) (cZ (bH aV (a9 bv rfl B.z O7 (aj (ag 2) av)) (a9 bv rfl B.z O7 (aj (ar ax (ag 1) ai) av))))))))
theorem AG:Fn P w K mg base "_law_lets" ["_law_book_here","_law_paper"] 55 (spM K 2 ko):=aY E 67 ["_law_book_here","_law_paper","_law_names_here","_law_bad","_law_ahead","_law_name","_law_reads","_law_end"] fun B S hr=>(az (aL (bu (bD (bB (aU (ba .lst B.z (ag 1) B.z Qt))) (bZ (aI (lH hr) (gD (top 67) ["_law_book_here","_law_paper","_law_names_here","_law_bad","_law_ahead","_law_name","_law_reads","_law_end"] (bK (ag 1)) (ag 0) (bB (aU (bc (Aa E) hr (ag 0))))) (bS av))))) (aA (aD bW)) aN) (az (oJ (i:=2) (top 67) ["_law_book_here","_law_paper","_law_names_here","_law_bad","_law_ahead","_law_name","_law_reads","_law_end"] ["_law_book_here","_law_paper","_law_names_here","_law_bad","_law_ahead","_law_name","_law_reads","_law_end"] S.nd (bK (ag 1)) (ar ax (ag 0) ai) kZ) (az (oJ (i:=3) (top 67) ["_law_book_here","_law_paper","_law_names_here","_law_bad","_law_ahead","_law_name","_law_reads","_law_end"] ["_law_book_here","_law_paper","_law_names_here","_law_bad","_law_ahead","_law_name","_law_reads","_law_end"] S.nd (bK (ag 1)) (ar ax (ag 0) ai) (qO rfl (aI d7 (ar ax (ar ax (ag 0) ai) ai) aB))) (az (Dr (i:=4) B.z S.nd (sj (top 67) ["_law_book_here","_law_paper","_law_names_here","_law_bad","_law_ahead","_law_name","_law_reads","_law_end"] ["_law_book_here","_law_paper","_law_names_here","_law_bad","_law_ahead",".5.","_law_reads","_law_end"] (bK (ar ax (ag 0) ai)) (aS (aj (ag 0) (aj (bc (mr E 25) hr (ar (c7 hr) (ar ax (ag 1) ai) (ag 0))) av))) kZ)) (az (Dw (i:=5) (j:=6) (m:=7) S.nd (bK (ag 1)) (az (aL (bu (bD (aI d7 (Cb (Et hr) (ag 2) (ag 5)) ai) (bD (aI (qh hr) (ag 5) (ar ax (ag 0) ai)) (bZ (bB (aU (aX (z4 E) hr (ar (c7 hr) (ar ax (ag 0) ai) (ag 5)) (aS (aj (ag 5) (aj (ag 6) (aj (ag 7) av))))))))))) (aA (aD bW)) aN) (az (aL (aI (lH hr) (gD (top 67) ["_law_book_here","_law_paper","_law_names_here","_law_bad","_law_ahead","_law_name","_law_reads","_law_end"] (bK (ag 6)) (ag 0) (aI d7 (FQ hr (ag 5) (ar ax (ag 0) ai)) (ar ax (ag 0) ai))) (bS av)) (aA (aD bW)) aN) (az (aL (bu (cG (aI aV (ar ax (ag 7) ai) aB) (cG (aI kT (ar ax (ag 7) ai) (ag 3)) (dh (bu (bD (aI (gz hr) (ar ax (ag 7) ai) (ar ax (ag 0) ai)) (bZ (aI (gz hr) (ar ax (ag 7) ai) (ar ax (ag 0) ai))))))))) (aA (aD bW)) aN) (aA (aL (aI aV (ar ax (ag 7) ai) aB) (aA (fM (i:=4) hr (ag 5) (ar ax (ag 7) ai))) aN)))))) (aA (aD (bH fj (a9 bv rfl B.z O7 (aj (ag 1) av)) ai))))))))
theorem tw:∀n,Fn P w K mg base "_law_same" ["_law_found","_law_due"] (0+n) (spM K 2 (dv n)):=dZ (eI E 68) fun n ih=>aY (k:=0+n) E 68 ["_law_found","_law_due"] fun B S hr=>(az (aL (aU (DH B.z (ag 1) B.z B.z)) (az (aL (bu (bD (aI d7 (ba .tup B.z (ag 0) B.z Pf) (ba .tup B.z (ag 1) B.z Pf)) (bZ (aI d7 (ba .lst B.z (ag 0) B.z Qt) (ba .lst B.z (ag 1) B.z Qt))))) (aA (aD bW)) aN) (aA (aD (cH (bH aV (a9 bv rfl B.z O7 (aj (ag 0) av)) (a9 bv rfl B.z O7 (aj (ag 1) av))) (cZ (a9 oK rfl B.z V6 (aj (dR (top 68) ["_law_found","_law_due"] (gR rfl B.z (a9 bv rfl B.z O7 (aj (ag 1) av))) (aX ih hr (ar (c7 hr) (ag 1) (ag 0)) (ar (c7 hr) (ag 2) (ag 0)))) av))))))) aN) (az (aL (aU (ba .dct B.z (ag 1) B.z Um)) (az (aL (bu (bD (bB (aU (ba .dct B.z (ag 0) B.z Um))) (bZ (aI d7 (a9 bv rfl B.z O7 (aj (ag 0) av)) (a9 bv rfl B.z O7 (aj (ag 1) av)))))) (aA (aD bW)) aN) (aA (aD (a9 oK rfl B.z V6 (aj (dR (top 68) ["_law_found","_law_due"] (bK (ag 1)) (cH (bH (gz hr) (ag 0) (ag 1)) (cZ (aX ih hr (ar (c7 hr) (ag 1) (ag 0)) (ar (c7 hr) (ag 2) (ag 0)))))) av))))) aN) (az (aL (bu (bD (aU (ba .bl B.z (ag 1) B.z Td)) (bZ (aI zA (ag 1) lA)))) (aA (aD (cH (bH aV (ba .bl B.z (ag 0) B.z Td) (ba .bl B.z (ag 1) B.z Td)) (cZ (bH aV (ag 0) (ag 1)))))) aN) (az (aL (aU (ba .int B.z (ag 1) B.z Qq)) (aA (aD (cH (ba .int B.z (ag 0) B.z Qq) (cH (rO (ba .bl B.z (ag 0) B.z Td)) (cZ (bH aV (ag 0) (ag 1))))))) aN) (aA (aD (cH (ba .str B.z (ag 0) B.z Qx) (cZ (bH aV (ag 0) (ag 1))))))))))
theorem Ap:Fn P w K mg base "_law_names" ["_law_tape","_law_many_here"] 2 (spM K 2 gI):=aY E 69 ["_law_tape","_law_many_here","_law_letters","_law_way","_law_at","_law_words","_law_tail"] fun B S hr=>(az (a7 (i:=2) S.nd aB) (az (a7 (i:=3) S.nd (aX (cj E) hr (ag 0) ai)) (az (a7 (i:=4) S.nd (aX (cj E) hr (ag 0) ai)) (az (aL (aI aV (ag 3) ai) (az (a7 (i:=5) S.nd (bS (aj aB (aj aB (aj aB (aj aB (aj aB (aj aB (aj aB (aj aB (aj aB (aj aB (aj aB (aj aB av)))))))))))))) (aA (aD (f6 (aO bo (f6 (ag 5) (fN (ag 4)) fO) (f6 (ag 5) fO (fN (ag 4)))) fO (fN (ag 1)))))) aN) (az (aL (aI aV (ag 3) ai) (aA (aD (dR (top 69) ["_law_tape","_law_many_here","_law_letters","_law_way","_law_at","_law_words","_law_tail"] (gR rfl B.z (ag 1)) (aO eY (ar ax (ag 3) (aO bo (ag 5) (aO nr (ag 0) ai))) (aO bo ai (aO fX (ag 0) ai)))))) aN) (az (a7 (i:=6) S.nd (aO eY (ar ax (ag 2) (ag 4)) (aX (cj E) hr (ag 0) (aO iY ai (aO fX (ag 4) ai))))) (aA (aD (dR (top 69) ["_law_tape","_law_many_here","_law_letters","_law_way","_law_at","_law_words","_law_tail"] (gR rfl B.z (ag 1)) (aO bo (aO bo (aO eY (ar ax (ag 3) (ag 5)) (aO fX (ag 5) ai)) (ar ax (ag 3) (aO fX (aO bo (ag 5) (ag 0)) ai))) (ag 7)))))))))))
theorem sY:∀n,Fn P w K mg base "_law_value" ["_law_tape","_law_names_here","_law_deep"] (1+n) (spM K 3 (da n)):=dZ (eI E 70) fun n ih=>aY (k:=1+n) E 70 ["_law_tape","_law_names_here","_law_deep","_law_way","_law_some"] fun B S hr=>(az (a7 (i:=3) S.nd (aX (cj E) hr (ag 0) ai)) (az (a7 (i:=4) S.nd (bS (aj ai (aj ai (aj (lB ai) (aj ai (aj (aO lG ai ai) (aj (lB (aO lG ai ai)) (aj aB (aj aB (aj aB (aj aB (aj (aO eY aB ai) (aj (aS av) av)))))))))))))) (az (aL (bu (bD (aI dO (ag 3) ai) (bZ (bu (cG (aI aV (ag 2) ai) (dh (aI cU (ag 3) ai))))))) (aA (aD (ar ax (ag 4) (aX (cj E) hr (ag 0) ai)))) aN) (az (aL (aI dO (ag 3) ai) (aA (aD (ar ax (ag 1) (aX (cj E) hr (ag 0) (a9 bv rfl B.z O7 (aj (ag 1) av)))))) aN) (aA (aD (ck jC rfl B.z Pf (aj (dR (top 70) ["_law_tape","_law_names_here","_law_deep","_law_way","_law_some"] (gR rfl B.z (aX (cj E) hr (ag 0) ai)) (du ih hr (ag 1) (ag 2) (aO iY (ag 3) ai))) av))))))))
theorem sT:Fn P w K mg base "_law_simple" ["_law_tape","_law_names_here","_law_many_here"] 27 (spM K 3 iy):=aY E 71 ["_law_tape","_law_names_here","_law_many_here"] fun B S hr=>(az (aL (bu (cG (aI cU (ag 2) ai) (dh (aI cU (aX (cj E) hr (ag 0) ai) ai)))) (aA (aD (aS (aj aB (aj (aX (cj E) hr (ag 0) (ag 2)) av))))) aN) (aA (aD (aS (aj aB (aj (du (sY E 25) hr (ag 0) (ag 1) ai) av))))))
theorem AI:Fn P w K mg base "_law_expr" ["_law_tape","_law_names_here","_law_many_here"] 28 (spM K 3 iA):=aY E 72 ["_law_tape","_law_names_here","_law_many_here","_law_way","_law_one","_law_other"] fun B S hr=>(az (a7 (i:=3) S.nd (aX (cj E) hr (ag 0) ai)) (az (a7 (i:=4) S.nd (du (sT E) hr (ag 0) (ag 1) (ag 2))) (az (aL (aI dO (ag 3) ai) (aA (aD (ar ax (bS (aj (ag 4) (aj (aS (aj aB (aj (ag 4) av))) av))) (aO nr (ag 3) ai)))) aN) (az (a7 (i:=5) S.nd (du (sT E) hr (ag 0) (ag 1) (ag 2))) (az (aL (aI aV (ag 3) ai) (aA (aD (aS (aj aB (aj (f6 (aS (aj (ag 4) (aj (ag 5) av))) fO (fN (aX (cj E) hr (ag 0) ai))) av))))) aN) (aA (aD (aS (aj (ar ax (bS (aj aB (aj aB (aj aB (aj aB (aj aB av)))))) (aX (cj E) hr (ag 0) ai)) (aj (ag 4) (aj (ag 5) av)))))))))))
theorem Af:∀n,Fn P w K mg base "_law_recipe" ["_law_tape","_law_names_here","_law_deep","_law_many_here","_law_peeks"] (28+n) (spM K 5 (cB n)):=dZ (eI E 73) fun n ih=>aY (k:=28+n) E 73 ["_law_tape","_law_names_here","_law_deep","_law_many_here","_law_peeks","_law_way","_law_expr_here","_law_word","_law_one"] fun B S hr=>(az (a7 (i:=5) S.nd (aX (cj E) hr (ag 0) ai)) (az (a7 (i:=6) S.nd (du (AI E) hr (ag 0) (ag 1) (ag 3))) (az (aL (bu (cG (aI cU (ag 2) ai) (dh (aI dO (ag 5) ai)))) (az (a7 (i:=7) S.nd (ar ax (bS (aj aB (aj aB av))) (ck ic rfl B.z Qq (aj (cH (ag 4) (cZ (bH aV (aX (cj E) hr (ag 0) ai) ai))) av)))) (az (aL (aI cU (aX (cj E) hr (ag 0) ai) ai) (aA (a7 (i:=6) S.nd (aS (aj aB (aj (ar ax (ag 1) (aX (cj E) hr (ag 0) (a9 bv rfl B.z O7 (aj (ag 1) av)))) av))))) aN) (aA (aD (aS (aj (ag 7) (aj (ag 6) (aj (l8 ih hr (ag 0) (ag 1) (aO iY (ag 2) ai) (aO bo (ag 3) ai) (ag 4)) av)))))))) aN) (az (aL (bu (cG (aI cU (ag 2) ai) (dh (aI dO (ag 5) ai)))) (az (a7 (i:=8) S.nd (l8 ih hr (ag 0) (ag 1) (aO iY (ag 2) ai) (ag 3) (ag 4))) (aA (aD (aS (aj aB (aj (ag 6) (aj (ag 8) (aj (l8 ih hr (ag 0) (ag 1) (aO iY (ag 2) ai) (ag 3) (ag 4)) av)))))))) aN) (az (aL (bu (cG (aI aV (ag 5) ai) (dh (aI aV (aX (cj E) hr (ag 0) ai) ai)))) (aA (aD (aS (aj aB (aj (ar ax (aO bo (ag 1) (bS (aj aB (aj aB av)))) (aX (cj E) hr (ag 0) (aO bo (a9 bv rfl B.z O7 (aj (ag 1) av)) ai))) av))))) aN) (aA (aD (aS (aj aB (aj (ag 6) av))))))))))
theorem AJ:Fn P w K mg base "_law_book" ["_law_script","_law_at","_law_peeks"] 54 (spM K 3 kr):=aY E 74 ["_law_script","_law_at","_law_peeks","_law_head","_law_many_here","_law_names_here","_law_givens","_law_recipes","_law_k","_law_tape"] fun B S hr=>(p0 (i:=3) S.nd (aj (aX (pq E) hr (aX (pf E) hr (ag 0) (ag 1)) ai) (aj ai av)) (az (a7 (i:=4) S.nd (aO bo ai (aX (cj E) hr (ag 3) ai))) (az (a7 (i:=5) S.nd (aX (Ap E) hr (ag 3) (aO bo (ag 4) ai))) (az (jB (i:=6) S.nd) (az (jB (i:=7) S.nd) (az (fT (i:=8) S.nd (gR rfl B.z (ag 4)) (p0 (i:=9) S.nd (aj (aX (pq E) hr (aO bo (aX (pf E) hr (ag 0) (aO bo (aO bo (ag 1) ai) (ag 8))) (aO eY ai (ag 8))) ai) (aj ai av)) (aA (aL (aI aV (aX (cj E) hr (ag 9) ai) ai) (aA (fM (i:=6) hr (ar ax (ag 5) (ag 8)) (du (sY E 25) hr (ag 9) (ag 5) ai))) (aA (fM (i:=7) hr (ar ax (ag 5) (ag 8)) (l8 (Af E 25) hr (ag 9) (ag 5) (aO bo ai (aX (cj E) hr (ag 9) ai)) ai (ag 2)))))))) (aA (aD (aS (aj (ag 6) (aj (ag 7) av)))))))))))
theorem ms:Fn P w K mg base "_law_right" ["_law_book_here","_law_good_here","_law_names_here"] 87 (spM K 3 dW):=aY E 75 ["_law_book_here","_law_good_here","_law_names_here","_law_handed","_law_paper","_law_shown","_law_line_here"] fun B S hr=>(az (a7 (i:=3) S.nd (ck lC rfl B.z Qt (aj (ag 2) av))) (az (Dp (i:=4) (A6 E) (hr.mono (by omega)) rfl S.nd (aj (ag 0) (aj (ag 3) av)) (cR (cR gQ))) (az (aL (bu (bD (aI (lH hr) (ag 3) (ag 2)) (bD (bB (aU (ba .lst B.z (ag 4) B.z Qt))) (bZ (bB (aU (nF (aX (AG E) hr (ag 0) (ag 4))))))))) (aA (aD bW)) aN) (az (a7 (i:=5) S.nd (DL (osc:=bj (top 75)) (N:=["_law_book_here","_law_good_here","_law_names_here","_law_handed","_law_paper","_law_shown","_law_line_here"]) (N':=["_law_book_here","_law_good_here","_law_names_here","_law_handed","_law_paper","_law_shown",".6."]) (x:="_law_line_here") ⟨rfl,by decide +kernel,by decide +kernel,rfl,by decide +kernel,by decide +kernel,by decide +kernel,by decide +kernel,rfl,by decide +kernel⟩ (bK (ag 4)) (fun C s0 H0 ex=>(ar ax (ag 0) ai)) (fun C s0 H0 ex=>kZ))) (az (aL (aI (lH hr) (gD (top 75) ["_law_book_here","_law_good_here","_law_names_here","_law_handed","_law_paper","_law_shown","_law_line_here"] (bK (ag 2)) (ag 0) (bu (cG (aI (gz hr) (ag 0) (ar ax (ag 1) ai)) (dh (aI kT (ag 0) (ag 6)))))) (bS av)) (aA (aD bW)) aN) (az (FD (i:=4) (j:=6) S.nd (Fx (bB (aU (aX (tw E 25) hr (ag 6) (du (AF E) hr (ag 0) (ag 1) (ar ax (ag 6) ai)))))) (aA (aD bW))) (az (FG (i:=4)) (aA (aD bW)))))))))
theorem G7(F:Fun K "law" "law" (top 76) f fd):FnOk P w K mg base CX0 88 f fd ["_law_script"] (spM K 1 oy):=Jz E ["_law_script","_law_book_here","_law_kept","_law_good_here","_law_names_here","_law_k","_law_tape","_law_some"] F fun B S hr=>(az (a7 (i:=1) S.nd (du (AJ E) hr (ag 0) ai bW)) (az (a7 (i:=2) S.nd (aS (aj (wD B.z (ar ax (ag 1) ai)) (aj (wD B.z (ar ax (ag 1) ai)) av)))) (az (a7 (i:=3) S.nd (bc (AH E) hr (ag 1))) (az (a7 (i:=4) S.nd (a9 D3 rfl B.z boot_sorted (aj (aO bo (ck wJ rfl B.z Qt (aj (ar ax (ag 1) ai) av)) (ck wJ rfl B.z Qt (aj (ar ax (ag 1) ai) av))) av))) (az (aL (bu (bD (bB (aU (du (ms E) hr (ag 1) (ag 3) (ag 4)))) (bZ (bB (aU (du (ms E) hr (ag 1) (ag 3) (bS av))))))) (aA (aD bW)) aN) (az (fT (i:=5) S.nd (gR rfl B.z ai) (p0 (i:=6) S.nd (aj (aX (pq E) hr (aO bo (aX (pf E) hr (ag 0) (aO bo ai (ag 5))) (aO eY ai (ag 5))) ai) (aj ai av)) (az (oJ (i:=7) (top 76) ["_law_script","_law_book_here","_law_kept","_law_good_here","_law_names_here","_law_k","_law_tape","_law_some"] ["_law_script","_law_book_here","_law_kept","_law_good_here","_law_names_here","_law_k","_law_tape","_law_some"] S.nd (gR rfl B.z (aX (cj E) hr (ag 6) ai)) (ar ax (aO bo (ag 5) (bS (aj aB (aj aB av)))) (aX (cj E) hr (ag 7) (aO bo (a9 bv rfl B.z O7 (aj (ag 5) av)) ai))) kZ) (aA (aL (bu (bD (bB (aU (du (ms E) hr (ag 1) (ag 3) (ag 7)))) (bZ (bB (aU (du (ms E) hr (ag 1) (ag 3) (ag 7))))))) (aA (aD bW)) aN))))) (aA (aD (aX (tw E 25) hr (ag 1) (ag 2))))))))))
end
theorem all_mk{l:TC}{K:Frag}{h:Heap}{mg:Str->Option Oa}(X:K.In h)(G:h.Ns O9 mg)(hfa:mg "law"=some (.ref fa))(d:DfL K top zS)(z:ZL K zZ)(i:IL K zI)(s:SL K zT)(u_GETTING:P1 K O9 "GETTING"=some (some (.ref a_GETTING)))(l_GETTING:K.lookup a_GETTING=some o_GETTING)(v_GETTING:sy o_GETTING ["want","peek"]=true)
  (hm:∀ns:List Int,ns.length<=63->∃T',oy [.d (cD ns)] []=some (.bool true,T')) :
  ∃fd:PZ,(∀(s:Od) (v:Oa),Uj s fd ⟨[v],[]⟩ [("_law_script",v)])/\∀base:Heap,K.In base->base.Ns O9 mg->FnOk l.prog w K mg base CX0 88 fa fd ["_law_script"] (ol K):=by
 obtain⟨f0,oc,od,an,sl,kV,dc,pm,cd,ct,a,lk,c,kp⟩:=(d.at (x:="law") (i:=76) (by decide +kernel)).ex;cases hfa.symm.trans (RQ X G a);exact⟨PB "law" "law" (dY (top 76)) (cM (top 76)) (bj (top 76)) .none kV dc pm an cd ct,fun s v=>.of_eq rfl,fun base _ _=>Dk (G7 ⟨⟨_,X,G⟩,⟨JC X G z i s,⟨_,RQ X G u_GETTING,Bn l_GETTING v_GETTING⟩⟩,d⟩ (xQ (st:=top 76) lk c kp)) (BJ hm)⟩
theorem walk{l:TC}{XP:(Str->Option Oa)->Heap->Prop}{YP:OV->Heap->Prop}{d:DefRec}{K:WR->Frag}(hn:l.most=some 63)(hdf:d.params.defaults=[])
  (hY:∀(w:OV) (h:Heap),YP w h->(K w.params).In h)
  (F:∀(w:OV) (mg:Str->Option Oa) (fa:Addr) (h:Heap),(K w.params).In h->h.Ns O9 mg->mg d.name=some (.ref fa) ->
   ∃fd:PZ,(∀(s:Od) (u:Oa),Uj s fd ⟨[u],[]⟩ [("_law_script",u)])/\∀base:Heap,(K w.params).In base->base.Ns O9 mg->FnOk l.prog w (K w.params) mg base CX0 88 fa fd ["_law_script"] (ol (K w.params))) :
  UF q loose XP YP l.row.toRowW d [] (fun f vs=>Tu f vs):=L2.Ee (n:=63) (k:=88) (x:="_law_script") (CX:=fun _=>CX0) (sp:=fun w=>ol (K w.params)) hn (by decide) hdf ⟨rfl,by decide,by decide,rfl⟩ hY F (fun _ _ a ns hl _ hS=>⟨a,ns,rfl,hS,hl,fun _=>rfl⟩) fun _ _ _ _ _ z=>z
open PySem PySem.Spec PySem.Calls PySem.W PyProof.Rows PySem.W.X PySem.W.ZRun
theorem walkZ{q:OB}{loose:List Str}{XP:(Str->Option Oa)->Heap->Prop}{K:WR->Frag}{r:RowW}{d:DefRec}{kwd:List (Str×Expr)}
  {w:OV}{s₀ s₁:Od}{mg mb:Str->Option Oa}{a:Addr}{o:Obj}{pm cd doc dV kV:Oa}{args:List WData}{vals:List Oa}{as:List Addr}
  (KX:(K w.params).In s₁.heap) (GR:Ground q loose r.records XP w s₀ mg mb s₁.heap) (ho:s₁.heap.get? a=some o)
  (hd:o.data=.func { docDef d.name d.params d.body d.scope pm cd doc with defaults:=dV,kwdefaults:=kV }) (hcd:s₁.heap.CodeRec cd d.name) (hD:Dflts mg s₁.heap d.params kwd dV kV) (hmg:mg d.name=some (.ref a)) (hg:s₁.gens = #[])
  (hpre:r.claim.pre args=true) (hlay:WData.layableAll args=true) (hrd:ReadsAllW r.records (classAt s₀.heap) s₁.heap vals args as) (hwl:WellAll w.params s₁.heap vals args) (hlo:∀a∈as,(a == PN)=false)
  (W:UF q loose XP (fun w h=>(K w.params).In h) r d kwd fun f vs=>Tu f vs) :
  OU (OQ r.prog w) Tt (Tu (.ref a) vals) (fun v s'=>GoodWG r.claim (classAt s₀.heap) (WD s₀.heap) args s₁ (.ok (.ret v)) s')
    (fun e s'=>GoodWG r.claim (classAt s₀.heap) (WD s₀.heap) args s₁ (.error e) s') s₁:=W w s₀ s₁ mg mb GR KX a o pm cd doc dV kV ho hd hcd hD hmg hg args vals as hpre hlay hrd hwl hlo
end G
end Internal
namespace PySem.W.Fast
def tw18402674039688711399:=Nat
def tw18305458024735197316:=Nat
def tw4782961387122765421:=Nat
def tw10224260232080518410:=Nat
def tw10633585716034808934:=Nat
def tw13893268717889659300:=Nat
def tw9139526319576349641:=Nat
def tw17269713415833799398:=Nat
def tw2185981015055738465:=Nat
def tw17212035319464369559:=Nat
def tw615269913870616643:=Nat
def tw10276354340485622293:=Nat
def tw4172684050278901243:=Nat
def tw7193363069875684552:=Nat
def tw8857997863543588143:=Nat
def tw3178354449345655971:=Nat
def tw7286695661535181630:=Nat
def tw3896414788487210164:=Nat
def tw17265572203198183876:=Nat
def tw15615699553551299918:=Nat
def tw7968241517322604797:=Nat
def tw16194025345983643785:=Nat
def tw894221278485055676:=Nat
def tw13792966313584333659:=Nat
def tw2012996860249337300:=Nat
def tw11750282465411538231:=Nat
def tw17328683192809776865:=Nat
def tw5542345551992605134:=Nat
def tw9195812349409181517:=Nat
def tw5640442193988757049:=Nat
def tw6161214516560505413:=Nat
def tw9961393372936221545:=Nat
def tw18005614309418531112:=Nat
def tw12018771337163061270:=Nat
def tw2685463988716123045:=Nat
def tw16338319411328129875:=Nat
def tw2167033203740066002:=Nat
def tw582727900292375685:=Nat
def tw3205636874652534308:=Nat
def tw3501774032648643357:=Nat
def tw15985146843258445555:=Nat
def tw5142880937867922380:=Nat
def tw8156167272915241234:=Nat
def tw836015934961634923:=Nat
def tw10381782405071391942:=Nat
def tw5944389466760156360:=Nat
def tw370334411311011560:=Nat
def tw7688674210693144248:=Nat
def tw5061527598627582716:=Nat
def tw352416935634731742:=Nat
def tw5405430394866104422:=Nat
def tw5373362149670072204:=Nat
def tw12223413126384822430:=Nat
def tw16545663720996635309:=Nat
def tw3809476048519776484:=Nat
def tw2487352045053562457:=Nat
def tw10731891642853814491:=Nat
def tw17281651398847104797:=Nat
def tw3264505820100769841:=Nat
def tw13897479455441451085:=Nat
def tw9839646813551839636:=Nat
def tw3430456092258361138:=Nat
def tw14676097086459326095:=Nat
def tw2590767769304394542:=Nat
def tw17612065842192534406:=Nat
def tw901943737753606995:=Nat
def tw15881745517482913215:=Nat
def tw3456262960485463033:=Nat
def tw4007959407864068974:=Nat
def tw7925760368645546475:=Nat
def tw12680352780625588703:=Nat
def tw597237647474067720:=Nat
def tw18129791374339811699:=Nat
def tw10543658313711987392:=Nat
def tw10108632480330179066:=Nat
def tw12685983498281661132:=Nat
def tw6896738635116306211:=Nat
def tw6769100958078835073:=Nat
def tw5099430322257768490:=Nat
def tw17084435408970271974:=Nat
def tw824708173217921067:=Nat
def tw3581369305794601026:=Nat
def tw5373580150928587958:=Nat
def tw4438835668104669437:=Nat
def tw13331208256946650396:=Nat
def tw6242635726397595071:=Nat
def tw1640960228188263563:=Nat
def tw9924348482357330999:=Nat
def tw841443231219599695:=Nat
def tw612398385595657966:=Nat
def tw16991730254534721482:=Nat
def tw1513584770683759460:=Nat
def tw10580005464693568456:=Nat
def tw2948939554237436239:=Nat
def tw13273334816643403333:=Nat
def tw4655697535228977919:=Nat
def tw8393746128362996390:=Nat
def tw5507848570686612943:=Nat
def tw6225819837668539753:=Nat
def tw13398082469321086952:=Nat
def tw11777928033279012828:=Nat
def tw4784882496927806843:=Nat
def tw348114816633582755:=Nat
def tw6424444091518740249:=Nat
def tw15409716007477057984:=Nat
def tw10770029496982110927:=Nat
def tw561547116973513880:=Nat
def tw6978834176931095750:=Nat
def tw3681531371832346639:=Nat
def tw4323547370893206422:=Nat
def tw13695762546977977810:=Nat
def tw12103701597624617405:=Nat
def tw981254319516246433:=Nat
def tw13683726003305928535:=Nat
def tw10334440312472379825:=Nat
def tw9177348039133180212:=Nat
def tw17407013919260176007:=Nat
def tw6625823881905985530:=Nat
def tw17425778133900155706:=Nat
def tw6615620234266586620:=Nat
def tw17154889217718327718:=Nat
def tw15919320480192454884:=Nat
def tw2597484464617149446:=Nat
def tw9948052073486424647:=Nat
def tw920375116200138332:=Nat
def tw11132949128609341986:=Nat
def tw13618942279340369726:=Nat
def tw14514178094404155261:=Nat
def tw1830170979056487061:=Nat
def tw3138051649546535101:=Nat
def tw14132417718863462929:=Nat
def tw3650578849996200217:=Nat
def tw2054149362030106976:=Nat
def tw11092178868407859705:=Nat
def tw6225122018668816319:=Nat
def tw13817445611882361312:=Nat
def tw8074770518849567717:=Nat
def tw7392501219352768545:=Nat
def tw10080401897664732225:=Nat
def tw5149659474781480765:=Nat
def tw9890438813568576292:=Nat
def tw5243676071767229061:=Nat
def tw4015791009668038335:=Nat
def tw13966952848119823573:=Nat
def tw7411066655169075928:=Nat
def tw10708796959924253120:=Nat
def tw13606858163798023498:=Nat
def tw13183607688074224472:=Nat
def tw17280761773199775046:=Nat
def tw16852711807454145712:=Nat
def tw16339536216706077685:=Nat
def tw9631047640013903492:=Nat
def tw9555908886154591825:=Nat
def tw14484647976924098053:=Nat
def tw6726951763854711286:=Nat
def tw2876481135832505697:=Nat
def tw14483398457580404170:=Nat
def tw9843131934733014969:=Nat
def tw15596600202693450738:=Nat
def tw3457944959671985832:=Nat
def tw13077535513847751032:=Nat
def tw17998033234639995549:=Nat
def tw1615042201448136066:=Nat
def tw9732268205284497544:=Nat
def tw17231938779468225146:=Nat
def tw11976795228455327554:=Nat
def tw9153286335624717857:=Nat
def tw3970459470051696092:=Nat
def tw10360414854812233116:=Nat
def tw14795397982906278825:=Nat
def tw10588495686295276430:=Nat
def tw15450694503421958700:=Nat
def tw11697262897990266295:=Nat
def tw6792637888971801441:=Nat
def tw5775704395970593629:=Nat
def tw13867224173976205178:=Nat
def tw12492219137539515110:=Nat
def tw16188400504463518361:=Nat
def tw4401809292470683333:=Nat
def tw17175755883185146859:=Nat
def tw11309750730022111143:=Nat
def tw8134144425650431082:=Nat
def tw5325524639724599928:=Nat
def tw4288955391247184721:=Nat
def tw8799269266239633098:=Nat
def tw9129333820089685553:=Nat
def tw14247224694975716345:=Nat
def tw13083619930356180991:=Nat
def tw1436619947587866798:=Nat
def tw12835501087647100838:=Nat
def tw8497796461151395800:=Nat
def tw10169982373180642877:=Nat
def tw4523240979565740919:=Nat
def tw9169944961610310082:=Nat
def tw18156855105374841053:=Nat
def tw12429090056142851405:=Nat
def tw8217153194650985389:=Nat
def tw2087237444482481566:=Nat
def tw13166676654198535232:=Nat
def tw10401304967465375953:=Nat
def tw6900190087118200617:=Nat
def tw4217356868536371993:=Nat
def tw1256061790476249131:=Nat
def tw12271431450691863347:=Nat
def tw15766551716611275959:=Nat
def tw6160424075685964688:=Nat
def tw5818455188051529435:=Nat
def tw771929415056766751:=Nat
def tw14304202661059531861:=Nat
def tw7988824499368793510:=Nat
def tw7995945575742807533:=Nat
def tw15322043141525428841:=Nat
def tw8021241631021235784:=Nat
def tw17926071719213764217:=Nat
def tw4787421495713178244:=Nat
def tw597227519699578275:=Nat
def tw13820221938129605459:=Nat
def tw3002983791690099408:=Nat
def tw12010370148576598554:=Nat
def tw7948415884450161543:=Nat
def tw1354563368529936803:=Nat
def tw9182013228803029688:=Nat
def tw6131414525975321089:=Nat
def tw11251090957562278606:=Nat
def tw9357876728006613800:=Nat
def tw14847257113888861383:=Nat
def tw12522040467759991012:=Nat
def tw8060138831941160192:=Nat
def tw137260490429425330:=Nat
def tw6131136868692181094:=Nat
def tw202041364112686288:=Nat
def tw18387608012121974970:=Nat
def tw6291299620293248948:=Nat
def tw10011867922217159239:=Nat
def tw7523470669057945169:=Nat
def tw14134421451972155900:=Nat
def tw4499224726242261214:=Nat
end PySem.W.Fast
noncomputable def PySem.W.Fast.tw27651173946994899 : PySem.Program := PySem.Challenge.pw_redo_k28_papers_told
theorem PySem.W.Fast.te27651173946994899 : PySem.Challenge.pw_redo_k28_papers_told = PySem.W.Fast.tw27651173946994899 := rfl

open Internal
open PySem PySem.W PyProof.Rows PySem.W.X PySem.W.ZRun
set_option maxRecDepth 100000 in
set_option maxHeartbeats 0 in
theorem PySem.Challenge.cw_redo_k28_papers_told_holds : PySem.Challenge.rw_redo_k28_papers_told.Holds := by
 w_on; o_law; z_head; (case hw=>w_witness2)
 k_fill
 intro w s₀ s₁ mg mb GR y fa o pm cd doc dV kV ho hd hcd hD hmg hg args vals as L hpre hlay hrd hwl hlo
 z_open y L KX ZH ZN ZT
 clear ZH ZN ZT
 refine G.walkZ KX GR ho hd hcd hD hmg hg hpre hlay hrd hwl hlo ?W
 clear KX GR ho hd hcd hD hmg hg hpre hlay hrd hwl hlo L y
 refine G.walk (l:=PySem.Challenge.rw_redo_k28_papers_told) rfl rfl (fun w h Y=>Y) ?F
 case F=>
  intro w mg fa h KX GG hmg
  refine' G.all_mk KX GG hmg ?_ ?_ ?_ ?_ ?_ ?_ ?_ G.C3
  any_goals repeat' first | exact True.intro | refine' D.DF ?_ ?_ | refine' D.Eb ?_ ?_ | refine' D.Fe ?_ ?_ | refine' D.En ?_ ?_
  any_goals first | (refine' D.Jw ?a ?l ?c ?k; (case a=>k_is); (case l=>k_is); (case c=>k_is); (case k=>k_is)) | k_is
  all_goals first | rfl | decide +kernel
