import PyProof.Rows.All
import Wide.All
import OpenK.AllK
import Wide.FinOn
import Lean
import PyProof.EqAt
import PyProof.EqKinds
import PyProof.TupleCall
import PySem.Challenge.RW_redo_k27_whole_let_by_is_fresh
noncomputable section
open PySem.W (Frag)
set_option Elab.async false
set_option genSizeOf false
set_option linter.all false
set_option maxRecDepth 100000
set_option compiler.extract_closed false
set_option bootstrap.genMatcherCode false
open Option renaming some->Iv,none->LG
open Bool renaming true->KN,false->Lf
open PySem renaming PyData->Ra,Value->Re,Shared->Rj,starEach->Rk,sizeLine->Rp,wpAny_bind->Rr,wpAny_pure->Rx,compareOp->RB,Program->RC,model->RM,wpAny->RP,World->RX,foldedSetIterable->RY,mainGlobals->RZ,backTo->R6,Around->R9,attributeBase->Sa,swapsWith->So,wpAny_truthy_bool->Sq,wpAny_passesOwn->Ss,Keyword->Sx,sysModules->SG,keywordEach->SK,binaryOp->SX,wpAny_mono->S5,wpAny_newObj_type->S7,bootBuiltins->Te,behindInMarks->Tf,FuncData->Ts,wpAny_holding->Tu,backToKw->TL,mem_of_lookup->TR,Scope->TU,NameKind->TV,wpAny_Call_Name_kw->Ua,call_meets->Ub,tupleKind_room_in1->Uc,wpAny_execs_nil->Uh,wpAny_pyIter_list->Um,codeAny_builtin->UG,assignEach->UK,sliceBounds->UN,scanBound->UQ,wpAny_Call_method_late->UW,wpAny_isTrue_Compare1->U5,wpAny_execs_cons->U7,PassesOwn->U8,typeIs_str->Vb,getItem->Ve,codeAny_mono->Vl,SetTable->VC,relayAll->VD,wpAny_assign_Name->VN,subscripted->VO,wpAny_comprehension_free->VT,bindArgs->V2,noFill_tuple_add->V3,wpAny_callSpecial?_slot->V4,wpAny_call_entry->V5,wpAny_Call_method0_late->V7,assign->Wm,holding->Wn,concat_meets->Wq,IsPart->Wr,valueAt->Wv,callerA->Wy,call->Wz,codeAny_compStart_list->WA,wpAny_rule->WB,CmpOp->WE,letOwnedTupleGo->WF,Paired->WP,wpAny_letTemporaryGo->WT,compEnvC->WU,wpAny_newFunctionEnv->WV,intText?->WX,tupleKind->W4,codeAny_forLoop_any->W6,evalArgs_none->Xc,swapsWithSole->Xg,swappedStores->Xh,seq_tuple_add->Xi,wpAny_Constant_int->Xo,cLine->Xw,BindsTo->Xx,codeAny->Xy,wpAny_sequenceKey->XA,wpAny_typeOf->XB,seqIndex_neg->XC,slot_list_getitem->XD,call_meetsIn->XF,relabel->XG,ReadsAll->XJ,wpAny_storeSet_of->XO,fits_of_scanBound->XQ,wpAny_pyHash_int->XX,wpAny_pyHash_str->XY,wpAny_eqBool_int->XZ,wpAny_eqBool_str->X0,lastMarks->X2,seqIndex?->X6,DictEntry->X9,seqSlot_of->Yc,reduceHash->Yf,sizeLine_eq->Yj,wpAny_field->Yl,seqIndex_of->Ym,slicePicked->Yn,wpAny_specialOf->Ys,wpAny_operating->Yt,builtinsNs->YI,isTrue->YJ,wpAny_Name->YK,typeIs_int->YQ,PlainAttrs->YR,atKey->YS,strKind_is->YZ,KeyKind->Ze,Builtin->Zr,bindL->Zw,bindC->Zx,cellsFrom->Zy,Reads->Zz,strValues->ZC,Within->ZE,setItem->ZF,standAt->ZG,pyIter->ZI,Params->ZJ,notedBy->ZM,Builtin->ZO,ElemsOf->ZS,again->ZZ
open PySem.Str renaming ofString->Rb,join->Wc
open List renaming mem_cons_of_mem->Rc,mem_cons_self->Rf,getElem?_eq_some_iff->Rh,mem_map->Rl,getElem?_set_ne->Rm,all_eq_true->Rq,getElem?_set_self->Rt,mem_cons->Ru,mem_of_getElem?->Rw,mem_append->Ry,mem_singleton->RD,mem_append_right->RG,getElem?_append_left->RH,nodup_cons->RJ,replicate->RQ,map_congr_left->RV,length_map->R4,map_cons->R7,length_cons->Se,getElem?_map->Sf,map_map->Sk,drop_eq_nil_of_le->Sr,map_append->Su,size_toArray->Sw,range->SH,nodup_append->SM,mem_filter->SR,mem_append_left->SW,take_of_length_le->S9,eraseIdx_eq_take_drop_succ->Ta,drop_eq_getElem_cons->Tb,length_drop->Tc,pairwise_cons->Td,reverse_cons->To,length_take->Tv,tail_suffix->Tw,append_nil->TH,getElem?_eq_getElem->TQ,all_cons->Ui,any_cons->Uj,mem_of_mem_take->Uq,lookup_cons->Ut,filter_cons->Uv,getElem?_eq_none_iff->Ux,nil_append->UF,nodup_nil->UY,take_succ_eq_append_getElem->U0,append_assoc->U3,countP_cons->Vd,map_take->Vf,filterMap_cons->Vk,getElem?_append_right->Vu,length_append->Vv,nodup_iff_pairwise_ne->VF,mem_or_eq_of_mem_set->VI,mem_take_iff_getElem->VJ,map_drop->V0,getElem?_set_self'->Wa,any_eq_true->Wf,suffix_iff_eq_drop->Wj,range'_succ->Wk,foldl->Wu,head?->WC,of_mem_zip->WG,takeWhile_prefix->WM,countP_le_length->WN,take_append_drop->WO,mem_range->WQ,range'->W3,length_pos_iff->Xf,sum_cons->Xl,mem_filterMap->Xp,take_sublist->Xz,take_add_one->XH,ext_getElem?->XI,pairwise_map->XM,mem_of_head?->XU,getElem_mem->Ya,not_mem_nil->Yg,length_tail->Yi,length->Yk,find?_cons->Yw,set->Y0,take_succ->Y1,take_nil->Zs,all_map->ZP,map_id->Z3
open PySem.Heap renaming get?_push_of_some->Ri,lt_size->Rv,get?_push_size->RA,SameBut->TK,size_push->TX,get?_update_other->Wt
open Nat renaming le_refl->Rn,lt_of_lt_of_le->Rz,le_trans->RL,ne_of_lt->RN,lt_of_le_of_lt->R5,zero_le->Sj,not_lt_zero->SD,lt_irrefl->SO,lt_succ_of_lt->TM,le_of_lt->Ur,ne_of_gt->Us,min_eq_left->UI,min_eq_right->Vc,toDigits->Vn,lt_trans->Ww,mul_le_mul->WW,le_succ->WZ,log2_lt->W0,le_total->XS,lt_succ_self->Yb,le_of_eq->ZK
open Bool renaming and_eq_true->Ro,false_ne_true->RI,eq_iff_iff->Sl,or_eq_true->UH,false_eq_true->Vy
open PySem.SeqAt renaming shaped->RE,canLay_of_shaped->Ue,room_of_shaped->WY,notIn_listAt->Xr,in_tupleAt->X7,eqAt_reads->Yd,EqAt->Z5
open PySem.PyData renaming str->RF,eqv->RR,strOk->RU,eqvAll->S4,tuple->Th,canLayAll0->Tq,depthAll->Tr,depth->Tt,int->TB,canLay0->TC,weightAll->T8,list->UO,shown->U2,leavesShortAll->WL,weight->Xm,showableAll->Xs,none->Yo,shownAll->Yy
open Option renaming map_eq_some_iff->RO,isSome_map->VP,isSome_iff_exists->VR,getD_none->V6,getD_some->Wh,map_some->Yv
open PyProof.Rows renaming boot_tuple->RT,slot_tuple_getitem->Si,boot_int->Tj,boot_str->TF,boot_list->TZ,callWith_type1->Uk,boot_all->U4,envOfC->U9,callWith_builtin1->Va,boot_isinstance->Vj,AllBare->VM,SetOf_congr->VY,boot_bool->Wl,kindOf->Wo,subscriptTail_builtinR->Ws,signs_ofString->W1,entry_tuple_getitem->W7,tupleItemsOf_->Xj,args_tuple_getitem->Xq,isTrue_or->X1,IntsAre->YA,StrsAre->YB,setObjOf_fresh->YF,IsTup->YH,Subscript_->YN,boot_dict->ZD
open Or renaming inr->RW,inl->R8
open Sum renaming inr->Sb,inl->Xt
open PySem.W renaming kia_one->Sd,fnOf->SE,nsIn->SS,kia_tup->TJ,keepIn->Uo,mg_of->UB,kitx_list->US,kitx_dict->UT,codeIn->UU,kitx_tuple->Vt,cellsFrom_some->Wp,instObj->WD,OpenLaw->WH,lookIn->WR,kitOne->WS,WalkO->Xk,kitx_none->Xu,kitx_bool->Xv,plainGet->X3,kitx_int->X4,kitx_str->X5,kdl_dict->Ye,findIn->YL,kitAny->YW
open PySem.Builtin.Str renaming strSliceIndices->Sg,occurrences->SY,partsBetween->VW,reprChar->W2,strKind->Xd,subAt->XT
open PySem.Value renaming ref->Sn,type->Vq,str->V1,bool->Xn,none->YG,isStrOf->Zd,int->Zu,isInt->ZX,float->ZY
open PySem.Txt renaming replace->Sv,slice->Sy,startswith->Ti,split->TY,mul->Uu,slice_le->ZW
open Classical renaming propDecidable->Sz,byContradiction->VL
open Option.some renaming inj->SA
open PyProof.Rows.KTD renaming datLooks->SF,tabLook->SQ,rowsLook->Uw,datumAt->VU,isSome_datumAt->XW,opened_str->YC,eachL_miss->YD,item_textA->YE,eachL_hit->YV,inKeys->ZA,EachL->ZQ,plain->ZR,Dat->Z1
open Array renaming length_toList->SJ,getElem?_eq_some_iff->Vz,toList_push->XR
open PySem.NumText renaming digitsVal->SN,AllDigits->U1
open PySem.F renaming called_set->SU,plainAttrs_list->SZ,plainAttrs_str->Ud,slot_str_split->Ug,args_tuple_add_2->Uy,slot_list_append->Uz,type_list_append->UA,args_str_split_2->UC,slot_dict_itemiterator_iter->UD,entry_tuple_add->UM,entry_str_split->UP,slot_tuple_add->UV,slot_tuple_mul->UX,slot_dict_get->U6,slot_str_startswith->Vm,slot_dict_getitem->VH,args_dict_get_2->V8,plainAttrs_dict->V9,slot_tuple_rmul->Wb,slot_dict_items->Wd,plain_list_iadd->We,entry_dict_get->Wx,slot_list_pop->WJ,type_list_pop->WK,entry_list_pop->X8,slot_list_pop->Yr,slot_int_rmul->Yu
open PySem.NameKind renaming free->S3
open True renaming intro->S6
open PySem.Calls renaming callWith_builtin->S8,spliced_cons->Tz,spliced_nil->Ul,evalArgs_plain->Up,Constant_str->Vr,Name_function_global->Vs
open PySem.Builtin.Tuple renaming tupleExact->Tg,tupleItemsOf->Vx,tupleTooMany->VA
open Ne renaming symm->Tn
open PySem.Paired renaming length->TN,snoc->Z0
open Int renaming le_refl->T9,natCast_nonneg->UL,emod_lt_of_pos->VE,toNat_natCast->VQ,eq_ofNat_of_zero_le->Wi,emod_nonneg->WI,max_eq_right->Yh,natCast_add->Yz,ofNat_le->ZU,le_trans->ZV
open PySem.PassesOwn renaming never->UE
open False renaming elim->UJ
open PyProof.Rows.F renaming plain_set_update_loop->UR,entry_set_update_loop->Wg
open PySem.SetTable renaming grown->UZ,laid->VX,layClean->XN
open PySem.Spec renaming ltCps->Vg
open PySem.Around renaming under_plainId->Vh
open ForInStep renaming yield->Vi
open PySem.SeqAt.EqAt renaming int_str->Vo,str_int->Vp,none_int->W8,none_str->W9,int_none->Xa,str_none->Xb,same->Yq
open PySem.Builtin.List renaming listFitsIndex->VB
open PySem.Builtin.Slice renaming slicePlaces->VG,slicePartIndex->Yp,sliceApplied->YM,sliceAdjust->Zc
open List.cons renaming inj->VZ
open PyProof.Rows.IsTup renaming new->W5
open PySem.Heap.SameBut renaming update->Xe,refl->Z8
open PySem.Builtin.Frozenset renaming updateFrom->Yx
open PySem.Obj renaming mapSeq->YO,putSet->YY
open PySem.Walks renaming list->YT,dictKeys->YU
open PySem.MeetsSeq renaming list_pop_at->YX
open PySem.EqNone renaming eq_none_none->Y2,eq_none_bool->Y3,eq_bool_none->Y4,ne_none_none->Y7,ne_none_bool->Y8,ne_bool_none->Y9,eq_none_int->Zf,eq_none_str->Zg,eq_int_none->Zh,eq_str_none->Zj,ne_none_int->Zl,ne_none_str->Zm,ne_int_none->Zn,ne_str_none->Zp
open PySem.EqMixed renaming eq_bool_str->Y5,eq_str_bool->Y6,ne_bool_str->Za,ne_str_bool->Zb,eq_int_str->Zi,eq_str_int->Zk,ne_int_str->Zo,ne_str_int->Zq
open PySem.ExcName renaming means->Zt
open PySem.Builtin.Range renaming rangeSize->Zv
open List.Pairwise renaming filter->Z2,nil->Z7,imp->Z9
open PySem.Heap.IsSliceOf renaming new->Z4
open Char renaming toNat->Z6
open PySem PySem.Spec PyProof.Rows
theorem Au10(h:True:=by rfl):True:=h
def u10:=Au10._auto_1
theorem Au11(h:True:=by decide):True:=h
def u11:=Au11._auto_1
theorem Au12(h:True:=by exact aU rfl):True:=h
def u12:=Au12._auto_1
theorem Au13(h:True:=by first|exact .inl rfl|exact .inr rfl|assumption):True:=h
def u13:=Au13._auto_1
theorem Au14(h:True:=by exact rfl):True:=h
def u14:=Au14._auto_1
theorem Au15(h:True:=by exact bV rfl):True:=h
def u15:=Au15._auto_1
theorem Au16(h:True:=by first|exact R8 rfl|exact RW rfl):True:=h
def u16:=Au16._auto_1
theorem Au17(h:True:=by intro _;rfl):True:=h
def u17:=Au17._auto_1
theorem Au18(h:True:=by first|exact R8 rfl|exact RW (R8 rfl)|exact RW (RW rfl)):True:=h
def u18:=Au18._auto_1
theorem Au19(h:True:=by decide +kernel):True:=h
def u19:=Au19._auto_1
theorem Au20(h:True:=by exact iG rfl):True:=h
def u20:=Au20._auto_1
theorem Au21(h:True:=by exact λ_ _=>rfl):True:=h
def u21:=Au21._auto_1
theorem Au22(h:True:=by exact UE):True:=h
def u22:=Au22._auto_1
theorem Au23(h:True:=by omega):True:=h
def u23:=Au23._auto_1
theorem Au24(h:True:=by with_unfolding_all rfl):True:=h
def u24:=Au24._auto_1
theorem Au25(h:True:=by first|exact ql _|with_unfolding_all rfl):True:=h
def u25:=Au25._auto_1
theorem Au26(h:True:=by intro _ _ _ _ _ _;first|exact D.xy rfl|exact D.AA λ_=>rfl|exact D.AB λ_ _=>rfl|exact D.Az λ_ _ _=>rfl|exact D.AC λ_ _ _ _=>rfl|exact D.Kb λ_ _ _ _ _=>rfl|exact D.Ao λ_ _ _ _ _ _=>rfl):True:=h
def u26:=Au26._auto_1
namespace Internal
namespace L2
abbrev Key:=Sum Int Str
def gM:Key->Re->Bool
 |.inl k,v=>ZX k v
 |.inr x,v=>Zd x v
def Cf(w:RX):Key->Int
 |.inl k=>hashInt k
 |.inr x=>hashStr w x
def eM:∀{k:Key}{v:Re},gM k v=KN->(∃i t,k=Xt i/\v=Zu i t)\/(∃x t,k=Sb x/\v=V1 x t)
 |.inl i,v,h=>by
  obtain⟨t,e⟩:=Value.isInt_shape   h;exact .inl ⟨i,t,rfl,e⟩
 |.inr x,v,h=>by
  obtain⟨t,e⟩:=Value.isStrOf_shape   h;exact .inr ⟨x,t,rfl,e⟩
def zaa(i:Int)(t:Tok):gM (.inl i) (.int i t)=KN:=by simp[gM,ZX]
def zab(x:Str)(t:Tok):gM (.inr x) (.str x t)=KN:=by simp[gM,Zd]
def ztf(a b:Int):decide ((Xt a:Key)=Xt b)=(a == b) :=by grind
def ztg(a b:Str):decide ((Sb a:Key)=Sb b)=decide (a=b) :=by simp
theorem zth(a:Int)(b:Str):decide ((Xt a:Key)=Sb b)=Lf :=rfl
theorem zti(a:Str)(b:Int):decide ((Sb a:Key)=Xt b)=Lf :=rfl
def bP(prog:RC)(w:RX):Ze prog w Key where
 is:=gM
 hash:=Cf w
 inj:=λv a b ha hb=>by
  rcases eM ha with⟨i,t,rfl,rfl⟩|⟨x,t,rfl,rfl⟩
  .rcases eM hb with⟨j,u,rfl,e⟩|⟨y,u,rfl,e⟩
   .injection e with e1 _;rw[e1]
   .exact nomatch e
  .rcases eM hb with⟨j,u,rfl,e⟩|⟨y,u,rfl,e⟩
   .exact nomatch e
   .injection e with e1 _;rw[e1]
 byValue:=λk v h=>by
  rcases eM h with⟨i,t,rfl,rfl⟩|⟨x,t,rfl,rfl⟩ <;> rfl
 pyHash:=λhv h=>by
  rcases eM hv with⟨i,t,rfl,rfl⟩|⟨x,t,rfl,rfl⟩
  .exact XX h
  .exact XY h
 eqBool:=λhu hv h=>by
  rcases eM hu with⟨i,t,rfl,rfl⟩|⟨x,t,rfl,rfl⟩
  .rcases eM hv with⟨j,u,rfl,rfl⟩|⟨y,u,rfl,rfl⟩
   .rw[ztf] at h;exact XZ h
   .rw[zth] at h;exact Vo i t y u _ _ _ _ h
  .rcases eM hv with⟨j,u,rfl,rfl⟩|⟨y,u,rfl,rfl⟩
   .rw[zti] at h;exact Vp x t j u _ _ _ _ h
   .rw[ztg] at h;exact X0 h
 «strs»:=λk x t v h=>by
  rcases eM h with⟨i,u,rfl,e⟩|⟨y,u,rfl,e⟩
  .exact nomatch e
  .injection e with e1 _
   subst e1
   cases v <;> rfl
def zac(prog:RC)(w:RX)(i:Int)(t:Tok):(bP prog w).is (.inl i) (.int i t)=KN:=zaa i t
def zad(prog:RC)(w:RX)(x:Str)(t:Tok):(bP prog w).is (.inr x) (.str x t)=KN:=zab x t
inductive V where
 |non|bl (b:Bool)|int (i:Int)|str (x:Str)|byt (b:Array UInt8)|flt (b:UInt64)|ref (a:Addr)|ty (n:String)
 deriving DecidableEq
def RelV:V->Re->Prop
 |.non,u=>u=YG
 |.bl b,u=>u=Xn b
 |.int i,u=>∃t,u=Zu i t
 |.str x,u=>∃t,u=V1 x t
 |.byt b,u=>∃t,u=Value.bytes b t
 |.flt b,u=>∃t,u=ZY b t
 |.ref a,u=>u=Sn a
 |.ty n,u=>u=Vq n
abbrev L7:List V->List Re->Prop:=WP RelV
theorem L7.length(r:L7 xs us):xs.length=us.length:=TN r
theorem L7.get:∀{xs:List V}{us:List Re}{i:Nat}{x:V},L7 xs us->xs[i]? = Iv x->∃u,us[i]? = Iv u/\RelV x u
 |_,_,_,_,.nil,e=>by simp at e
 |_,_,0,_,.cons r _,e=>by simp_all
 |_,_,i+1,x,.cons _ t,e=>by
  obtain⟨u,h1,h2⟩:=L7.get   t (by simpa using e);exact⟨u,by simpa using h1,h2⟩
theorem L7.set(r:RelV x u):∀{xs:List V}{us:List Re} (i:Nat),L7 xs us->L7 (xs.set i x) (us.set i u)
 |_,_,_,.nil=>.nil
 |_,_,0,.cons _ t=>.cons r t
 |_,_,i+1,.cons q t=>.cons q (L7.set r i t)
theorem L7.append:∀{xs ys:List V}{us ws:List Re},L7 xs us->L7 ys ws->L7 (xs++ys) (us++ws)
 |_,_,_,_,.nil,s=>s
 |_,_,_,_,.cons r t,s=>.cons r (L7.append t s)
theorem L7.take:∀{xs:List V}{us:List Re} (n:Nat),L7 xs us->L7 (xs.take n) (us.take n)
 |_,_,0,_=>.nil
 |_,_,_+1,.nil=>.nil
 |_,_,n+1,.cons r t=>.cons r (L7.take n t)
theorem L7.drop:∀{xs:List V}{us:List Re} (n:Nat),L7 xs us->L7 (xs.drop n) (us.drop n)
 |_,_,0,r=>r
 |_,_,_+1,.nil=>.nil
 |_,_,n+1,.cons _ t=>L7.drop n t
def LX:Option V->Option Re->Prop
 |some v,Iv u=>RelV v u
 |none,LG=>True
 |_,_=>False
def KV{κ:Type}:List (κ×V)->List (κ×Re)->Prop:=WP λ(p:κ×V) (q:κ×Re)=>p.1=q.1/\RelV p.2 q.2
noncomputable def kV:Key->V
 |.inl i=>.int i
 |.inr x=>.str x
inductive HO where
  |lst (xs:List V)
  |tup (xs:List V)
  |dK (kvs:List (Key×V))|dT (kvs:List (List Key×V))
  |set (S:Int->Bool) (n:Nat)
  |ins (C dx:Addr) (fs:List (Str×V))
  |own (x:Addr)
  |xd (fs:List (Str×V))
  |met (f x:Addr)
  |rng (lo hi:Int)
  |frz (o:Obj) (u:HO)
  |tbl (ps:Array Re)
  |ext (φ:Heap->Prop)
abbrev Hp:=Addr->Option HO
def upd(H:Hp)(a:Addr)(o:HO):Hp:=λb=>if b=a then Iv o else H b
def a9:upd H a o a=Iv o:=by unfold upd<;>simp_all
def aG(h:b≠a):upd H a o b=H b:=by unfold upd;rw[if_neg h]
def zae:upd (upd H a o) a u=upd H a u:=by funext b;unfold upd;split <;> rfl
def zaf{H:Hp}{a b:Addr}{o u:HO}(h:H a=Iv o)(h':H b=Iv u)(d:o≠u):a≠b:=by intro e<;>simp_all
def di{H:Hp}{a b:Addr}{o:HO}(h:H a=Iv o)(h':H b=LG):a≠b :=by grind
section
variable (P:RC)(w:RX)
def Fs(H:Hp)(h:Heap)(a:Addr):HO->Prop
 |.lst xs=>xs.length<=Rp/\∃(ED:List Re) (n:Nat),L7 xs ED/\h.get? a=Iv { cls:=.type "list",data:=.seq ED.toArray n }
 |.tup xs=>xs.length<=Rp/\∃ED:List Re,L7 xs ED/\YH h a ED.toArray
 |.dK kvs=>kvs.length<=Rp/\(a == SG)=Lf/\∃vs,KV kvs vs/\h.DictOf (bP P w) a vs
 |.dT kvs=>kvs.length<=Rp/\(a == SG)=Lf/\∃xs:List (List Key×Addr×Re),
   WP (λ(p:List Key×V) (q:List Key×Addr×Re)=>p.1=q.1/\H q.2.1=Iv (.tup (p.1.map kV))/\RelV p.2 q.2.2) kvs xs /\
   ∃o es ep,h.get? a=Iv o/\o.ExactDict/\o.data=.dict es ep/\es.toList=xs.map (entryOfKey (W4 (bP P w)))/\(xs.map (·.1)).Nodup
 |.set S n=>h.SetOf (intKind P w) a S n
 |.ins C dx fs=>H dx=Iv (.own a)/\fs.length<=1000/\dx≠a/\h.get? a=Iv (WD C dx) /\
   ∃mA,h.Ns1 dx mA/\(∀f,LX (fs.lookup f) (mA f))/\ZE mA (fs.map (·.1))
 |.own _=>∃o,h.get? a=Iv o
 |.xd fs=>∃mA,h.Ns1 a mA/\∀f,LX (fs.lookup f) (mA f)
 |.rng lo hi=>∃t u v,h.get? a=Iv { cls:=.type "range",data:=.fields #[.int lo t,.int hi u,.int 1 v] }
 |.frz o u=>h.get? a=Iv o/\Fs H h a u
 |.tbl ps=>h.get? a=Iv { cls:=.none,data:=.fields ps }
 |.met f x=>h.get? a=Iv (PySem.W.methodObj (.ref f) (.ref x))
 |.ext φ=>φ h/\(∃o,h.get? a=Iv o)/\∀h1 h2:Heap,φ h1->(∀o,h1.get? a=Iv o->h2.get? a=Iv o)->φ h2
def CJ(H:Hp)(h:Heap):Prop:=∀a o,H a=Iv o->Fs P w H h a o
end
section
variable {P:RC}{w:RX}{H H':Hp}{h h':Heap}{a:Addr}{o:HO}
theorem Fs.lt(x:Fs P w H h a o):a<h.objs.size:=by
 cases o with
 |lst xs=>obtain⟨_,_,_,_,e⟩:=x;exact Rv e
 |tup xs=>obtain⟨_,_,_,p⟩:=x;exact p.lt
 |dK kvs=>obtain⟨_,_,_,_,o,_,_,e,_⟩:=x;exact Rv e
 |dT kvs=>obtain⟨_,_,_,_,o,_,_,e,_⟩:=x;exact Rv e
 |set S n=>obtain⟨o,_,_,_,e,_⟩:=x;exact Rv e
 |ins C dx fs=>obtain⟨_,_,_,e,_⟩:=x;exact Rv e
 |own y=>obtain⟨_,e⟩:=x;exact Rv e
 |xd fs=>obtain⟨_,⟨_,_,_,e,_⟩,_⟩:=x;exact Rv e
 |rng lo hi=>obtain⟨_,_,_,e⟩:=x;exact Rv e
 |frz ob u=>obtain⟨e,_⟩:=x;exact Rv e
 |tbl ps=>exact Rv (x)
 |met f y=>exact Rv (x)
 |ext φ=>obtain⟨_,⟨_,e⟩,_⟩:=x;exact Rv e
theorem Paired.mapP{α β:Type}{F G:α->β->Prop}:∀{Ib:List α}{KY:List β},WP F Ib KY->(∀a b,F a b->G a b)->WP G Ib KY
 |_,_,.nil,_=>.nil
 |_,_,.cons r t,f=>.cons (f _ _ r) (Paired.mapP t f)
def Fs.stay(x:Fs P w H h a o)(k:∀b u,(b=a\/H b=Iv (.own a))->h.get? b=Iv u->h'.get? b=Iv u)
  (ho:∀b,H b=Iv (.own a)->H' b=Iv (.own a)) (ht:∀b xs,H b=Iv (.tup xs)->H' b=Iv (.tup xs)):Fs P w H' h' a o:=by
 induction o with
 |lst xs=>obtain⟨z,ED,n,r,e⟩:=x;exact⟨z,ED,n,r,k _ _ (.inl rfl) e⟩
 |tup xs=>obtain⟨z,ED,r,ob,e,c⟩:=x;exact⟨z,ED,r,ob,k _ _ (.inl rfl) e,c⟩
 |dK kvs=>obtain⟨z,y,vs,r,ob,es,ep,e,c⟩:=x;exact⟨z,y,vs,r,ob,es,ep,k _ _ (.inl rfl) e,c⟩
 |dT kvs=>
  obtain⟨z,y,xs,r,ob,es,ep,e,c⟩:=x;exact⟨z,y,xs,Paired.mapP r λp q z=>⟨z.1,ht _ _ z.2.1,z.2.2⟩,ob,es,ep,k _ _ (.inl rfl) e,c⟩
 |set S n=>obtain⟨ob,es,ep,t,e,c⟩:=x;exact⟨ob,es,ep,t,k _ _ (.inl rfl) e,c⟩
 |ins C dx fs=>
  obtain⟨d,z,ne,e,mA,⟨od,es,ep,e2,c⟩,r⟩:=x;exact⟨ho _ d,z,ne,k _ _ (.inl rfl) e,mA,⟨od,es,ep,k _ _ (.inr d) e2,c⟩,r⟩
 |own y=>obtain⟨ob,e⟩:=x;exact⟨ob,k _ _ (.inl rfl) e⟩
 |xd fs=>obtain⟨mA,⟨od,es,ep,e,c⟩,r⟩:=x;exact⟨mA,⟨od,es,ep,k _ _ (.inl rfl) e,c⟩,r⟩
 |rng lo hi=>obtain⟨t,u,v,e⟩:=x;exact⟨t,u,v,k _ _ (.inl rfl) e⟩
 |frz ob u ih=>obtain⟨e,q⟩:=x;exact⟨k _ _ (.inl rfl) e,ih q⟩
 |tbl ps=>
  have e:=x;exact k a _ (.inl rfl) e
 |met f y=>
  have e:=x;exact k a _ (.inl rfl) e
 |ext φ=>obtain⟨p,⟨o,e⟩,st⟩:=x;exact⟨st _ _ p λo q=>k _ _ (.inl rfl) q,⟨o,k _ _ (.inl rfl) e⟩,st⟩
theorem CJ.lt(x:CJ P w H h)(e:H a=Iv o):a<h.objs.size:=(x a o e).lt
def CJ.fresh(x:CJ P w H h)(e:h.objs.size<=a):H a=LG:=by
 cases q:H a with
 |none=>rfl
 |some u=>exact absurd (Rz (x.lt q) e) (SO _)
def CJ.kept(x:CJ P w H h)(k:∀b u,h.get? b=Iv u->h'.get? b=Iv u):CJ P w H h':=λa o e=>
 (x a o e).stay (λb u _ q=>k b u q) (λ_ q=>q) λ_ _ q=>q
def CJ.laid(x:CJ P w H h)(k:∀b u,h.get? b=Iv u->h'.get? b=Iv u)(hp:h.objs.size<=a)(new:Fs P w (upd H a o) h' a o):CJ P w (upd H a o) h':=λb u e=>by
 have hn:=x.fresh hp
 by_cases hb:b=a
 .subst hb;rw[a9] at e<;>simp_all
 .rw[aG hb] at e
  exact(x b u e).stay (λc v _ q=>k c v q) (λc q=>by rw[aG (di q hn)];exact q) λc xs q=>by rw[aG (di q hn)];exact q
end
def Rd(H:Hp)(a:Addr)(u:HO):Prop:=H a=Iv u\/∃o,H a=Iv (.frz o u)
def Rd.ok(r:Rd H a u)(x:CJ P w H h):Fs P w H h a u:=by
 rcases r with r|⟨o,r⟩
 .exact x a u r
 .obtain⟨_,q⟩:=x a _ r
  exact q
def Mn:Option HO->Prop
 |some (.lst _)=>True
 |some (.dK _)=>True
 |some (.dT _)=>True
 |some (.set _ _)=>True
 |some (.ins _ _ _)=>True
 |some (.ext _)=>True
 |_=>False
section
variable {P:RC}{w:RX}{H:Hp}{h h':Heap}{x e:Addr}{o':HO}
def CJ.write(ok:CJ P w H h)(mu:Mn (H x))(he:e=x\/H e=Iv (.own x))(k:∀b u,b≠e->h.get? b=Iv u->h'.get? b=Iv u)(K6:∃u,h'.get? e=Iv u)
  (new:Fs P w (upd H x o') h' x o'):CJ P w (upd H x o') h':=λb u q=>by
 have BF:∀c y,H c=Iv (.own y)->c≠x:=λc y r z=>by subst z;rw[r] at mu;exact mu
 have yk:∀c xs,H c=Iv (.tup xs)->c≠x:=λc xs r z=>by subst z;rw[r] at mu;exact mu
 by_cases hb:b=x
 .subst hb;rw[a9] at q;cases q;exact new
 .rw[aG hb] at q
  by_cases hbe:b=e
  .have q':H b=Iv (.own x):=by simp_all
   rw[q] at q';cases q';obtain⟨v,hv⟩:=K6;exact⟨v,by simp_all⟩
  .refine(ok b u q).stay (λc v hc r=>k c v ?_ r) (λc r=>by rw[aG (BF c b r)];exact r) λc xs r=>by rw[aG (yk c xs r)];exact r
   rcases hc with rfl|hc<;>grind
end
structure Un(fs ex:List Addr)(H H':Hp)(h h':Heap):Prop where
 keep:∀b o,h.get? b=Iv o->H b=LG->b∉fs->b∉ex->h'.get? b=Iv o
 slot:∀b o,h.get? b=Iv o->H b=LG->b∈fs->b∉ex->∃sl,h'.get? b=Iv { o with slots:=sl }
 free:∀b o,h.get? b=Iv o->H b=LG->b∉ex->H' b=LG
 there:∀b o,h.get? b=Iv o->b∉ex->∃o',h'.get? b=Iv o'
 tups:∀b xs,H b=Iv (.tup xs)->H' b=Iv (.tup xs)
 frzs:∀b o u,H b=Iv (.frz o u)->H' b=Iv (.frz o u)
 tbls:∀b ps,H b=Iv (.tbl ps)->∃more,H' b=Iv (.tbl (ps++more))
section
variable {fs Dy ex L9:List Addr}{H H1 H2:Hp}{h h1 h2 h':Heap}{a x e:Addr}{o:HO}
def Un.any(u:Un fs ex H H1 h h1)(q:h.get? b=Iv ob)(n:H b=LG)(hx:b∉ex):∃sl,h1.get? b=Iv { ob with slots:=sl }:=by
 by_cases hb:b∈fs
 .exact u.slot b ob q n hb hx
 .exact⟨ob.slots,u.keep b ob q n hb hx⟩
def Un.kept(k:∀b u,h.get? b=Iv u->h'.get? b=Iv u):Un fs ex H H h h':=⟨λb ob q _ _ _=>k b ob q,λb ob q _ _ _=>⟨ob.slots,k b ob q⟩,λ_ _ _ n _=>n,λb ob q _=>⟨ob,k b ob q⟩,λ_ _ q=>q,λ_ _ _ q=>q,λ_ ps q=>⟨#[],by simp_all⟩⟩
def Un.refl:Un fs ex H H h h:=Un.kept λ_ _ q=>q
def Un.laid(k:∀b u,h.get? b=Iv u->h'.get? b=Iv u)(hp:h.objs.size<=a)(hn:H a=LG):Un fs ex H (upd H a o) h h' where
 keep:=λb u q _ _ _=>k b u q
 slot:=λb u q _ _ _=>⟨u.slots,k b u q⟩
 free:=λb u q n _=>by rw[aG (RN (Rz (Rv q) hp))];exact n
 there:=λb u q _=>⟨u,k b u q⟩
 tups:=λb xs q=>by rw[aG (di q hn)];exact q
 frzs:=λb u xs q=>by rw[aG (di q hn)];exact q
 tbls:=λb ps q=>⟨#[],by rw[aG (di q hn),q];simp⟩
def Un.write(mu:Mn (H x))(he:e=x\/H e=Iv (.own x))(k:∀b u,b≠e->h.get? b=Iv u->h'.get? b=Iv u)(K6:∃u,h'.get? e=Iv u):Un fs ex H (upd H x o) h h':=by
 have hx:∀b,H b=LG->b≠x:=λb n z=>by subst z;rw[n] at mu;exact mu
 have hb:∀b,H b=LG->b≠e:=λb n z=>by simp_all
 have hm:∀b u,H b=Iv u->¬Mn (Iv u)->b≠x:=λb u q nm z=>by simp_all
 refine⟨λb u q n _ _=>k b u (hb b n) q,λb u q n _ _=>⟨u.slots,k b u (hb b n) q⟩,λb u q n _=>by rw[aG (hx b n)];exact n,λb u q _=>?_,
  λb xs q=>by rw[aG (hm b _ q λz=>z)];exact q,λb u xs q=>by rw[aG (hm b _ q λz=>z)];exact q,λb ps q=>⟨#[],by rw[aG (hm b _ q λz=>z),q];simp⟩⟩
 by_cases hbe:b=e<;>simp_all
end
def trk(h:Heap)(H:Hp):List Addr:=(SH h.objs.size).filter λa=>(H a).isSome
def gQ(h:Heap)(H:Hp):Heap:=PySem.W.hideAll h (trk h H)
def zag(h:Heap)(H:Hp):(gQ h H).objs.size=h.objs.size:=PySem.W.hideAll_size _ _
def zah(e:h.get? b=Iv o)(n:H b=LG):(gQ h H).get? b=Iv o:=
 PySem.W.hideAll_get _ e λhm=>by
  have q:=(SR.mp hm).2<;>simp_all
def zai(e:(gQ h H).get? b=Iv o):h.get? b=Iv o/\H b=LG:=by
 have e':=PySem.W.of_hideAll _ e;refine⟨e',?_⟩
 cases q:H b with
 |none=>rfl
 |some x=>
  have hm:b∈trk h H:=SR.mpr ⟨WQ.mpr (Rv e'),by simp[q]⟩
  have z:(gQ h H).get? b=LG:=PySem.W.hideAll_none _ hm<;>simp_all
def IX(g h:Heap)(L:Addr):List (Addr×Obj):=(SH h.objs.size).filterMap λa=>if a=L\/(g.get? a).isSome=KN then LG else (h.get? a).map λo=>(a,o)
def rest(g h:Heap)(L d:Addr):List (Addr×Obj):=(IX g h L).filter λp=>decide (p.1≠d)
structure Mod(K:Frag)(mg:Str->Option Re)(base:Heap):Prop where
 kin:K.In base
 glob:base.Ns RZ mg
 blt:∃mb,base.Ns YI mb/\∀x:Str,x≠"__name__"->mb x=Te x
 nolimit:base.NoLimit
structure Cx where
 prog:RC
 w:RX
 K:Frag
 mg:Str->Option Re
 base:Heap
 A:R9
 N:List Str
 s₀:Rj
 H₀:Hp
 env:Env
 outer:List Env
 stack:List Env
 ex:List Addr
 fn:Str->Bool
 calm:Bool
 pn:List (Addr×Obj)
 xe:Re->Rj->Prop
def frs(l:List Env):List Addr:=l.filterMap (·.frame)
abbrev Cx.fs(X:Cx):List Addr:=frs X.outer
def EC(sc:TU)(x:Str):Prop:=sc.names.lookup x=Iv .local\/sc.names.lookup x=Iv .cell\/sc.names.lookup x=Iv .free
def Loc(sc:TU)(x:Str):Prop:=sc.names.lookup x=Iv .local\/sc.names.lookup x=Iv .cell
def Look(env:Env)(h:Heap)(m:Str->Option Re)(x:Str)(u:Re):Prop:=(env.kindOf x=Iv .local/\m x=Iv u)\/((env.kindOf x=Iv .cell\/env.kindOf x=Iv .free)/\∃c,env.cells.lookup x=Iv c/\h.IsCell c (Iv u))
structure Cx.Ok(X:Cx):Prop where
 mod:Mod X.K X.mg X.base
 kind:X.env.scope.kind=.function
 glob:X.env.globals=RZ
 blt:X.env.builtins=YI
 above:X.s₀.heap.objs.size<=X.env.locals
 inj:∀x y c,X.env.cells.lookup x=Iv c->X.env.cells.lookup y=Iv c->x=y
 has:∀x,(X.env.kindOf x=Iv .cell\/X.env.kindOf x=Iv .free)->∃c,X.env.cells.lookup x=Iv c
 cab:∀x c,X.fn x=KN->X.env.cells.lookup x=Iv c->X.s₀.heap.objs.size<=c
 hd:X.calm=KN->X.A.handled=LG
 frames:X.A.frames=Iv X.stack
 stk:X.stack=X.outer\/(X.stack=X.env::X.outer/\X.env.frame=Iv X.env.locals)
 exf:∀b∈X.ex,b≠X.env.locals/\∀x c,X.env.cells.lookup x=Iv c->c≠b
 bs:∀b o,X.base.get? b=Iv o->X.s₀.heap.get? b=Iv o/\X.H₀ b=LG
 bsz:X.base.objs.size<=X.s₀.heap.objs.size
 noex:∀b o,X.base.get? b=Iv o->b∉X.ex
 exfs:∀b∈X.ex,b∉X.fs
 funs:X.s₀.heap.FunFrames X.base X.outer
 frf:∀b∈X.fs,X.H₀ b=LG
structure Inv(X:Cx)(pins:List (Addr×Obj))(σ:List (Option V))(H:Hp)(s:Rj):Prop where
 ok:X.Ok
 os:s.os=X.s₀.os
 bare:VM s.gens
 base:Un X.fs X.ex X.H₀ H X.s₀.heap s.heap
 loc:∃m,s.heap.Ns X.env.locals m/\∀(i:Nat) (x:Str) (v:V),X.N[i]? = Iv x->σ[i]? = Iv (Iv v)->EC X.env.scope x->∃u,RelV v u/\Look X.env s.heap m x u
 cell:∀x c,X.env.cells.lookup x=Iv c->∃v,s.heap.IsCell c v
 free:H X.env.locals=LG
 freeC:∀x c,X.env.cells.lookup x=Iv c->H c=LG
 pin:∀p∈X.pn++pins,s.heap.get? p.1=Iv p.2/\H p.1=LG/\p.1≠X.env.locals/\p.1∉X.fs/\∀v,p.2.data≠.cell v
 hok:CJ X.prog X.w H s.heap
 len:σ.length=X.N.length
section
variable {X:Cx}{pins:List (Addr×Obj)}{σ:List (Option V)}{H H':Hp}{s:Rj}{h':Heap}
def Cx.Ok.nofr(ok:X.Ok)(e:X.base.get? b=Iv o):b∉X.fs:=λhb=>by
 have:=(ok.funs.mem hb).1<;>simp_all
theorem Inv.bs(I:Inv X pins σ H s):∀b o,X.base.get? b=Iv o->s.heap.get? b=Iv o/\H b=LG:=λb o e=>
 ⟨I.base.keep b o (I.ok.bs b o e).1 (I.ok.bs b o e).2 (I.ok.nofr e) (I.ok.noex b o e),I.base.free b o (I.ok.bs b o e).1 (I.ok.bs b o e).2 (I.ok.noex b o e)⟩
def Inv.bk(I:Inv X pins σ H s):∀b o,X.base.get? b=Iv o->s.heap.get? b=Iv o:=λb o e=>(I.bs b o e).1
theorem Inv.mod(I:Inv X pins σ H s):Mod X.K X.mg X.base:=I.ok.mod
def Inv.kIn(I:Inv X pins σ H s):X.K.In s.heap:=I.ok.mod.kin.keeps I.bk
theorem Inv.lt(I:Inv X pins σ H s):X.env.locals<s.heap.objs.size:=let ⟨_,hn,_⟩:=I.loc;hn.lt
def Inv.sz(I:Inv X pins σ H s):X.s₀.heap.objs.size<=s.heap.objs.size:=RL I.ok.above (Ur I.lt)
def Inv.nofs(I:Inv X pins σ H s)(h:s.heap.objs.size<=a):a∉X.fs:=λhb=>by
 obtain⟨_,o,ho,_⟩:=I.ok.funs.mem hb;exact absurd (Rz (Rv ho) (RL I.sz h)) (SO _)
def Inv.cne(I:Inv X pins σ H s):∀x c,X.env.cells.lookup x=Iv c->c≠X.env.locals:=λx c e z=>by
 obtain⟨v,o,ho,hd⟩:=I.cell x c e
 obtain⟨m,⟨o',es,ep,DH,KU,_⟩,_⟩:=I.loc<;>simp_all
theorem Inv.funs(I:Inv X pins σ H s):s.heap.FunFrames X.base X.outer:=by
 have all:∀(l:List Env),(∀b∈frs l,b∈X.fs)->X.s₀.heap.FunFrames X.base l->s.heap.FunFrames X.base l:=by
  intro l
  induction l with
  |nil=>intro _ _;trivial
  |cons env r ih=>
   intro hs hl;obtain⟨hk,⟨L,o,hf,hn,ho,hd⟩,hr⟩:=hl;have hL:=hs L (by unfold frs<;>simp_all);obtain⟨sl,e⟩:=I.base.slot L o ho (I.ok.frf L hL) hL λz=>I.ok.exfs L z hL;exact⟨hk,⟨L,_,hf,hn,e,hd⟩,ih (λb hb=>hs b (by unfold frs;rw[Vk,hf];exact Rc _ hb)) hr⟩
 exact all _ (λ_ hb=>hb) I.ok.funs
theorem Inv.stack(I:Inv X pins σ H s):s.heap.FunFrames X.base X.stack:=by
 rcases I.ok.stk with e|⟨e,hf⟩
 .rw[e];exact I.funs
 .rw[e]
  obtain⟨m,hn,_⟩:=I.loc;refine .cons (by rw[I.ok.kind];decide) hf hn ?_ I.funs;exact Heap.get?_none_of_le (RL I.ok.bsz I.ok.above)
def Inv.stkSub(I:Inv X pins σ H s):∀b∈frs X.stack,b∈X.env.locals::X.fs:=λb hb=>by
 rcases I.ok.stk with e|⟨e,hf⟩
 simp_all
 .rw[e] at hb
  unfold frs at hb;rw[Vk,hf] at hb;exact hb
def Inv.stkFree(I:Inv X pins σ H s):∀b∈frs X.stack,H b=LG:=λb hb=>by
 rcases Ru.mp (I.stkSub b hb) with e|hb
 .rw[e];exact I.free
 .obtain⟨_,o,ho,_⟩:=I.ok.funs.mem hb
  exact I.base.free b o ho (I.ok.frf b hb) λz=>I.ok.exfs b z hb
def Inv.step{g':Array GenState}{t':Nat}{d':Drawn}{ch:List Addr}(I:Inv X pins σ H s)
  (HB:∀b∈ch,(b∈X.ex\/X.s₀.heap.objs.size<=b)/\b≠X.env.locals/\(∀x c,X.env.cells.lookup x=Iv c->c≠b)/\∀p∈X.pn++pins,p.1≠b)
  (keep:∀b o,b≠X.env.locals->b∉X.fs->b∉ch->s.heap.get? b=Iv o->H b=LG->h'.get? b=Iv o)
  (slot:∀b o,b≠X.env.locals->b∈X.fs->b∉ch->s.heap.get? b=Iv o->H b=LG->∃sl,h'.get? b=Iv { o with slots:=sl }) (free:∀b o,b∉ch->s.heap.get? b=Iv o->H b=LG->H' b=LG)
  (there:∀b o,b∉ch->s.heap.get? b=Iv o->∃o',h'.get? b=Iv o')
  (tups:∀b xs,H b=Iv (.tup xs)->H' b=Iv (.tup xs)) (frzs:∀b o u,H b=Iv (.frz o u)->H' b=Iv (.frz o u)) (tbls:∀b ps,H b=Iv (.tbl ps)->∃more,H' b=Iv (.tbl (ps++more)))
  (ns:∀m,s.heap.Ns X.env.locals m->h'.Ns X.env.locals m) (hok:CJ X.prog X.w H' h') (hg:VM g') :
  Inv X pins σ H' { s with heap:=h',gens:=g',drawn:=d',toks:=t' }:=by
 have neL:∀b o,X.s₀.heap.get? b=Iv o->b≠X.env.locals:=λb o e=>RN (Rz (Rv e) I.ok.above)
 have Io:∀b o,X.s₀.heap.get? b=Iv o->b∉X.ex->b∉ch:=λb o e hx hb=>by
  rcases(HB b hb).1 with z|z
  .exact hx z
  .exact absurd (Rz (Rv e) z) (SO _)
 have cellK:∀x c,X.env.cells.lookup x=Iv c->∀v,s.heap.IsCell c v->h'.IsCell c v:=λx c e v ⟨o,ho,hd⟩=>by
  have KF:c∉ch:=λz=>(HB c z).2.2.1 x c e rfl
  by_cases hc:c∈X.fs
  .obtain⟨sl,q⟩:=slot c o (I.cne x c e) hc KF ho (I.freeC x c e)
   exact⟨_,q,hd⟩
  .exact⟨o,keep c o (I.cne x c e) hc KF ho (I.freeC x c e),hd⟩
 refine⟨I.ok,I.os,hg,⟨λb o e n hb hx=>?_,λb o e n hb hx=>?_,λb o e n hx=>?_,λb o e hx=>?_,λb xs e=>tups b xs (I.base.tups b xs e),λb o xs e=>frzs b o xs (I.base.frzs b o xs e),λb ps e=>?_⟩,?_,λx c e=>?_,?_,λx c e=>?_,λp hp=>?_,hok,I.len⟩
 .exact keep b o (neL b o e) hb (Io b o e hx) (I.base.keep b o e n hb hx) (I.base.free b o e n hx)
 .obtain⟨sl,e1⟩:=I.base.slot b o e n hb hx
  obtain⟨sl',e2⟩:=slot b _ (neL b o e) hb (Io b o e hx) e1 (I.base.free b o e n hx);exact⟨sl',e2⟩
 .obtain⟨o',e1⟩:=I.base.there b o e hx
  exact free b o' (Io b o e hx) e1 (I.base.free b o e n hx)
 .obtain⟨o',e1⟩:=I.base.there b o e hx
  exact there b o' (Io b o e hx) e1
 .obtain⟨m1,e1⟩:=I.base.tbls b ps e
  obtain⟨m2,e2⟩:=tbls b _ e1;exact⟨m1++m2,by rw[e2,Array.append_assoc]⟩
 .obtain⟨m,hn,hl⟩:=I.loc
  refine⟨m,ns m hn,λi x v e1 e2 e3=>?_⟩;obtain⟨u,r,l⟩:=hl i x v e1 e2 e3;refine⟨u,r,?_⟩
  rcases l with l|⟨k,c,e,z⟩
  .exact .inl l
  .exact .inr ⟨k,c,e,cellK x c e _ z⟩
 .obtain⟨v,z⟩:=I.cell x c e
  exact⟨v,cellK x c e v z⟩
 .obtain⟨m,⟨o,_,_,ho,_⟩,_⟩:=I.loc
  exact free _ o (λz=>(HB _ z).2.1 rfl) ho I.free
 .obtain⟨v,o,ho,hd⟩:=I.cell x c e
  exact free c o (λz=>(HB c z).2.2.1 x c e rfl) ho (I.freeC x c e)
 .obtain⟨e,n,ne,nf,d⟩:=I.pin p hp
  have KF:p.1∉ch:=λz=>(HB p.1 z).2.2.2 p hp rfl;exact⟨keep p.1 p.2 ne nf KF e n,free p.1 p.2 KF e n,ne,nf,d⟩
def Inv.un(I:Inv X pins σ H s)(u:Un X.fs [] H H' s.heap h')(hok:CJ X.prog X.w H' h'):Inv X pins σ H' { s with heap:=h',toks:=t' }:=by
 obtain⟨m,⟨o,es,ep,ho,r⟩,_⟩:=id I.loc;obtain⟨sl,hL⟩:=u.any ho I.free (by simp)
 exact I.step   (ch:=[]) (λ_ z=>nomatch z) (λb o _ hb _ e n=>u.keep b o e n hb (by simp)) (λb o _ hb _ e n=>u.slot b o e n hb (by simp)) (λb o _ e n=>u.free b o e n (by simp)) (λb o _ e=>u.there b o e (by simp)) u.tups u.frzs u.tbls (λm' hm=>by
  obtain⟨o',IM,GO,DH,r'⟩:=hm;rw[ho] at DH;cases DH
  exact⟨_,IM,GO,hL,r'⟩) hok I.bare
def Inv.call(I:Inv X pins σ H s)(u:Un (frs X.stack) ch H H' s.heap h')(hok:CJ X.prog X.w H' h')(hg:VM g')
  (HB:∀b∈ch,(b∈X.ex\/X.s₀.heap.objs.size<=b)/\b≠X.env.locals/\(∀x c,X.env.cells.lookup x=Iv c->c≠b)/\∀p∈X.pn++pins,p.1≠b) :
  Inv X pins σ H' { s with heap:=h',gens:=g',drawn:=d',toks:=t' }:=by
 obtain⟨m,⟨o,es,ep,ho,r⟩,_⟩:=id I.loc;obtain⟨sl,hL⟩:=u.any ho I.free λz=>(HB _ z).2.1 rfl
 exact I.step  HB (λb o hL hb hc e n=>u.keep b o e n (λz=>(Ru.mp (I.stkSub b z)).elim hL hb) hc) (λb o _ _ hc e n=>u.any e n hc) (λb o hc e n=>u.free b o e n hc) (λb o hc e=>u.there b o e hc) u.tups u.frzs u.tbls (λm' hm=>by
  obtain⟨o',IM,GO,DH,r'⟩:=hm;rw[ho] at DH;cases DH
  exact⟨_,IM,GO,hL,r'⟩) hok hg
def Inv.turned(I:Inv X pins σ H s)(k:∀b o,b≠it->s.heap.get? b=Iv o->h'.get? b=Iv o)(hn:H it=LG)(hL:it≠X.env.locals)
  (h1:it∈X.ex\/X.s₀.heap.objs.size<=it) (h2:∀x c,X.env.cells.lookup x=Iv c->c≠it) (h3:∀p∈X.pn++pins,p.1≠it):Inv X pins σ H { s with heap:=h',toks:=t' }:=by
 have nit:∀b u,H b=Iv u->b≠it:=λb u e z=>by simp_all
 refine I.step   (ch:=[it]) (λb hb=>?_) (λb o _ _ hc e _=>k b o (λz=>hc (by simp[z])) e) (λb o _ _ hc e _=>⟨o.slots,k b o (λz=>hc (by simp[z])) e⟩) (λ_ _ _ _ n=>n)
  (λb o hc e=>⟨o,k b o (λz=>hc (by simp[z])) e⟩) (λ_ _ e=>e) (λ_ _ _ e=>e) (λb ps e=>⟨#[],by simp_all⟩) (λm hm=>?_) (λb u e=>?_) I.bare
 .have e:=by simpa using hb
  subst e;exact⟨h1,hL,h2,h3⟩
 .obtain⟨o,es,ep,ho,r⟩:=hm
  exact⟨o,es,ep,k _ o (Tn hL) ho,r⟩
 .refine(I.hok b u e).stay (λc v hc q=>k c v ?_ q) (λ_ q=>q) λ_ _ q=>q
  rcases hc with z|z
  .rw[z];exact nit b u e
  .exact nit c _ z
def Inv.tok(I:Inv X pins σ H s)(t:Nat):Inv X pins σ H { s with toks:=t }:=I.un   Un.refl I.hok
theorem Inv.kept(I:Inv X pins σ H s)(k:∀b u,s.heap.get? b=Iv u->h'.get? b=Iv u):Inv X pins σ H { s with heap:=h',toks:=t' }:=I.un (Un.kept k) (I.hok.kept k)
theorem Inv.laid(I:Inv X pins σ H s)(k:∀b u,s.heap.get? b=Iv u->h'.get? b=Iv u)(hp:s.heap.objs.size<=a)(new:Fs X.prog X.w (upd H a o) h' a o) :
  Inv X pins σ (upd H a o) { s with heap:=h',toks:=t' }:=I.un (Un.laid k hp (I.hok.fresh hp)) (I.hok.laid k hp new)
theorem Inv.write(I:Inv X pins σ H s)(mu:Mn (H x))(he:e=x\/H e=Iv (.own x))(k:∀b u,b≠e->s.heap.get? b=Iv u->h'.get? b=Iv u)(K6:∃u,h'.get? e=Iv u)
  (new:Fs X.prog X.w (upd H x o) h' x o):Inv X pins σ (upd H x o) { s with heap:=h',toks:=t' }:=I.un (Un.write mu he k K6) (I.hok.write mu he k K6 new)
def Inv.pins_of(I:Inv X pins σ H s)(h:∀p∈Fu,s.heap.get? p.1=Iv p.2/\H p.1=LG/\p.1≠X.env.locals/\p.1∉X.fs/\∀v,p.2.data≠.cell v):Inv X Fu σ H s:=⟨I.ok,I.os,I.bare,I.base,I.loc,I.cell,I.free,I.freeC,λp hp=>(Ry.mp hp).elim (λz=>I.pin p (SW _ z)) (h p),I.hok,I.len⟩
def ztj{N:List Str}(hN:N.Nodup){i j:Nat}{x:Str}(a:N[i]? = Iv x)(b:N[j]? = Iv x):i=j:=by
 obtain⟨h1,e1⟩:=Rh.mp a;obtain⟨h2,e2⟩:=Rh.mp b;exact(List.getElem_inj hN).mp (e1.trans e2.symm)
def ztk(I:Inv X pins σ H s)(hN:X.N.Nodup)(hi:X.N[i]? = Iv x)(hx:Loc X.env.scope x)(r:RelV v u)
  (h:∀s',Inv X pins (σ.set i (Iv v)) H s'->(∃a,TK a s.heap s'.heap/\(a=X.env.locals\/X.env.cells.lookup x=Iv a))->Q () s') (hf:autoParam (X.fn x=KN\/X.env.scope.names.lookup x=Iv .local) u13):RP M A (storeName X.env x u) Q E s:=by
 obtain⟨m,hn,hl⟩:=id I.loc
 have wC:(X.env.scope.kind == .class||(X.env.scope.kind == .module&&X.env.locals != X.env.globals))=Lf:=by rw[I.ok.kind];rfl
 have C7:i<σ.length:=by rw[I.len];exact(Rh.mp hi).1
 have cne:=I.cne
 have tracked:∀{a:Addr}{h':Heap},(∃o,s.heap.get? a=Iv o/\H a=LG)->TK a s.heap h'->CJ X.prog X.w H h':=λ{a h'} ha hs b ob e=>by
  obtain⟨_,_,hfree⟩:=ha;refine(I.hok b ob e).stay (λc w' hc q=>(hs.2 c ?_).trans q) (λ_ q=>q) λ_ _ q=>q;rintro rfl
  rcases hc with rfl|hc
  .simp_all
  .simp_all
 rcases hx with hk|hk
 .refine wpAny_storeName_local hk hn (λh' LJ hs=>?_) wC
  obtain⟨oL,_,_,GM,_⟩:=id hn;refine h _ ⟨I.ok,I.os,I.bare,⟨λb o e n hb hx=>?_,λb o e n hb hx=>?_,I.base.free,λb o e hx=>?_,I.base.tups,I.base.frzs,I.base.tbls⟩,⟨_,LJ,λj y v' e1 e2 e3=>?_⟩,λy c e=>?_,I.free,I.freeC,λp hp=>?_,tracked ⟨oL,GM,I.free⟩ hs,by simpa using I.len⟩ ⟨_,hs,.inl rfl⟩
  .exact(hs.2 b (RN (Rz (Rv e) I.ok.above))).trans (I.base.keep b o e n hb hx)
  .obtain⟨sl,e1⟩:=I.base.slot b o e n hb hx
   exact⟨sl,(hs.2 b (RN (Rz (Rv e) I.ok.above))).trans e1⟩
  .obtain⟨o',e1⟩:=I.base.there b o e hx
   exact⟨o',(hs.2 b (RN (Rz (Rv e) I.ok.above))).trans e1⟩
  .by_cases hj:j=i
   .subst hj
    rw[hi] at e1;cases e1;rw[Rt C7] at e2;cases e2;exact⟨u,r,.inl ⟨hk,by simp⟩⟩
   .rw[Rm (Tn hj)] at e2
    obtain⟨u',r',q⟩:=hl j y v' e1 e2 e3;refine⟨u',r',?_⟩
    rcases q with⟨k,e⟩|⟨k,c,e,z⟩
    .refine .inl ⟨k,?_⟩
     have:y≠x:=λe=>hj (ztj hN e1 (e ▸ hi));simp[this,e]
    .exact .inr ⟨k,c,e,z.sameBut hs (cne y c e)⟩
  .obtain⟨w',z⟩:=I.cell y c e
   exact⟨w',z.sameBut hs (cne y c e)⟩
  .obtain⟨e,n,ne,nf,d⟩:=I.pin p hp
   exact⟨(hs.2 p.1 ne).trans e,n,ne,nf,d⟩
 .have wu:X.fn x=KN:=by
   rcases hf with z|z
   .exact z
   .rw[z] at hk;cases hk
  obtain⟨c,hc⟩:=I.ok.has x (.inl hk);obtain⟨w',z⟩:=I.cell x c hc;refine wpAny_storeName_cell I.ok.kind hk hc z (λh' HL hs=>?_);obtain⟨oc,hoc,wB⟩:=id z;refine h { s with heap:=h' } ⟨I.ok,I.os,I.bare,⟨λb o e n hb hx=>?_,λb o e n hb hx=>?_,I.base.free,λb o e hx=>?_,I.base.tups,I.base.frzs,I.base.tbls⟩,⟨m,hn.sameBut hs (Tn (cne x c hc)),λj y v' e1 e2 e3=>?_⟩,λy c' e=>?_,I.free,I.freeC,λp hp=>?_,tracked ⟨oc,hoc,I.freeC x c hc⟩ hs,by simpa using I.len⟩ ⟨c,hs,.inr hc⟩
  .exact(hs.2 b (RN (Rz (Rv e) (I.ok.cab x c wu hc)))).trans (I.base.keep b o e n hb hx)
  .obtain⟨sl,e1⟩:=I.base.slot b o e n hb hx
   exact⟨sl,(hs.2 b (RN (Rz (Rv e) (I.ok.cab x c wu hc)))).trans e1⟩
  .obtain⟨o',e1⟩:=I.base.there b o e hx
   exact⟨o',(hs.2 b (RN (Rz (Rv e) (I.ok.cab x c wu hc)))).trans e1⟩
  .by_cases hj:j=i
   .subst hj
    rw[hi] at e1;cases e1;rw[Rt C7] at e2;cases e2;exact⟨u,r,.inr ⟨.inl hk,c,hc,HL⟩⟩
   .rw[Rm (Tn hj)] at e2
    obtain⟨u',r',q⟩:=hl j y v' e1 e2 e3;refine⟨u',r',?_⟩
    rcases q with q|⟨k,c',e,z'⟩
    .exact .inl q
    .refine .inr ⟨k,c',e,z'.sameBut hs ?_⟩
     rintro rfl;exact hj (ztj hN e1 (I.ok.inj _ _ _ e hc ▸ hi))
  .by_cases hcc:c'=c
   .subst hcc;exact⟨_,HL⟩
   .obtain⟨w2,z2⟩:=I.cell y c' e
    exact⟨w2,z2.sameBut hs hcc⟩
  .obtain⟨e,n,ne,nf,d⟩:=I.pin p hp
   refine⟨(hs.2 p.1 ?_).trans e,n,ne,nf,d⟩;intro q;rw[q,hoc] at e;have q':oc=p.2:=SA e;exact d w' (by rw[←q'];exact wB)
def sF(I:Inv X pins σ H s)(hN:X.N.Nodup)(hi:X.N[i]? = Iv x)(hx:Loc X.env.scope x)(r:RelV v u)
  (h:∀s',Inv X pins (σ.set i (Iv v)) H s'->Q () s') (hf:autoParam (X.fn x=KN\/X.env.scope.names.lookup x=Iv .local) u13):RP M A (storeName X.env x u) Q E s:=ztk I hN hi hx r (λs' I' _=>h s' I') hf
def Inv.call'(I:Inv X pins σ H s)(ho:s'.os=s.os)(u:Un (frs X.stack) ch H H' s.heap s'.heap)(hok:CJ X.prog X.w H' s'.heap)(hg:VM s'.gens)
  (HB:∀b∈ch,(b∈X.ex\/X.s₀.heap.objs.size<=b)/\b≠X.env.locals/\(∀x c,X.env.cells.lookup x=Iv c->c≠b)/\∀p∈X.pn++pins,p.1≠b):Inv X pins σ H' s':=by
 obtain⟨h',g',d',t',o'⟩:=s';have e:=ho;subst e;exact I.call    u hok hg HB
end
abbrev XK:=Re->Option Addr->Hp->Prop
abbrev St:=List (Option V)
abbrev VK:=V->Hp->Prop
abbrev TE:=St->Hp->VK->Prop
abbrev TT:=St->Hp->(Bool->Hp->Prop)->Prop
abbrev TA:=St->Hp->(List V->Hp->Prop)->Prop
structure Ends where
 nx:St->Hp->Prop
 rt:VK
 bk:St->Hp->Prop:=λ_ _=>False
 ct:St->Hp->Prop:=λ_ _=>False
abbrev TS:=Ends->St->Hp->Prop
inductive EP(X:Cx)(pins:List (Addr×Obj))(σ:St)(Q:VK)(u:Re)(s':Rj):Prop where|mk(v:V)(H':Hp)(i:Inv X pins σ H' s')(r:RelV v u)(q:Q v H')
inductive TP(X:Cx)(pins:List (Addr×Obj))(σ:St)(Q:Bool->Hp->Prop)(b:Bool)(s':Rj):Prop where|mk(H':Hp)(i:Inv X pins σ H' s')(q:Q b H')
inductive AP(X:Cx)(pins:List (Addr×Obj))(σ:St)(Q:List V->Hp->Prop)(us:List Re)(s':Rj):Prop where|mk(vs:List V)(H':Hp)(i:Inv X pins σ H' s')(r:L7 vs us)(q:Q vs H')
inductive NPz(X:Cx)(pins:List (Addr×Obj))(Q:St->Hp->Prop)(s':Rj):Prop where|mk(σ':St)(H':Hp)(i:Inv X pins σ' H' s')(q:Q σ' H')
inductive RPz(X:Cx)(pins:List (Addr×Obj))(Q:VK)(u:Re)(s':Rj):Prop where|mk(v:V)(σ':St)(H':Hp)(i:Inv X pins σ' H' s')(r:RelV v u)(q:Q v H')
def SP(X:Cx)(pins:List (Addr×Obj))(D:Ends)(f:Flow)(s':Rj):Prop:=
 match f with
 |.next=>NPz X pins D.nx s'
 |.brk=>NPz X pins D.bk s'
 |.cont=>NPz X pins D.ct s'
 |.ret u=>RPz X pins D.rt u s'
def PE(X:Cx)(e:Expr)(t:TE):Prop:=∀(pins:List (Addr×Obj)) (s:Rj) (σ:St) (H:Hp) (Q:VK),Inv X pins σ H s->t σ H Q->RP (RM X.prog X.w) X.A (eval e X.env) (EP X pins σ Q) X.xe s
def PT(X:Cx)(e:Expr)(t:TT):Prop:=∀(pins:List (Addr×Obj)) (s:Rj) (σ:St) (H:Hp) (Q:Bool->Hp->Prop),Inv X pins σ H s->t σ H Q->RP (RM X.prog X.w) X.A (YJ e X.env (eval e X.env)) (TP X pins σ Q) X.xe s
def PW(X:Cx)(e:Expr)(t:TT):Prop:=∀(whole:Sem Re) (pins:List (Addr×Obj)) (s:Rj) (σ:St) (H:Hp) (Q:Bool->Hp->Prop),Inv X pins σ H s->t σ H Q->RP (RM X.prog X.w) X.A (YJ e X.env whole) (TP X pins σ Q) X.xe s
def PW.pt(h:PW X e t):PT X e t:=h _
def PA(X:Cx)(es:List Expr)(t:TA):Prop:=∀(pos:Pos) (pins:List (Addr×Obj)) (s:Rj) (σ:St) (H:Hp) (Q:List V->Hp->Prop),Inv X pins σ H s->t σ H Q->RP (RM X.prog X.w) X.A (spliced (R6 pos (Rk es X.env))) (AP X pins σ Q) X.xe s
def PS(X:Cx)(st:Stmt)(t:TS):Prop:=∀(pins:List (Addr×Obj)) (s:Rj) (σ:St) (H:Hp) (D:Ends),Inv X pins σ H s->t D σ H->RP (RM X.prog X.w) X.A (exec st X.env) (SP X pins D) X.xe s
def Jx(X:Cx)(st:List Stmt)(t:TS):Prop:=∀(pins:List (Addr×Obj)) (s:Rj) (σ:St) (H:Hp) (D:Ends),Inv X pins σ H s->t D σ H->RP (RM X.prog X.w) X.A (execs st X.env) (SP X pins D) X.xe s
def JI{α:Type}{t:Sem α}{Q Q':α->Rj->Prop}{M:Model}{A:R9}{E:Re->Rj->Prop}{s:Rj}(h:RP M A t Q E s)(hQ:∀a s,Q a s->Q' a s):RP M A t Q' E s:=S5 h hQ λ_ _ x=>x
section
variable {X:Cx}
def BY(i:Nat):TE:=λσ H Q=>∃v,σ[i]? = Iv (Iv v)/\Q v H
def tC(v:V):TE:=λ_ H Q=>Q v H
def zaj(hN:X.N[i]? = Iv x)(hv:EC X.env.scope x)(hd:autoParam ((x == ("__debug__" : Str))=Lf) u11)(hcd:autoParam ((x == ("__classdict__" : Str))=Lf) u11):PE X (.Name x pos) (BY i):=by
 intro pins s σ H Q I h;obtain⟨v,e,h⟩:=h;obtain⟨m,hn,hl⟩:=I.loc;obtain⟨u,r,l⟩:=hl i x v hN e hv;have fin:EP X pins σ Q u s:=⟨v,H,I,r,h⟩
 rcases l with⟨hk,hm⟩|⟨hk,c,hc,KA⟩
 .exact YK (wpAny_loadName_local I.ok.kind hk hn hm fin) hd
 .rcases hk with hk|hk
  .exact YK (wpAny_loadName_cell I.ok.kind hk hc KA fin) hd
  .exact YK (wpAny_loadName_free I.ok.kind hk hc KA fin hcd) hd
def uk{i j pos}:PE X (.Constant (.int i) j pos) (tC (.int i)):=λ_ _ _ H _ I h=>Xo ⟨.int i,H,I.tok _,⟨_,rfl⟩,h⟩
def zak{b j pos}:PE X (.Constant (.bool b) j pos) (tC (.bl b)):=λ_ _ _ H _ I h=>Constant_bool ⟨.bl b,H,I,rfl,h⟩
def zal{j pos}:PE X (.Constant .none j pos) (tC .non):=λ_ _ _ H _ I h=>Constant_none ⟨.non,H,I,rfl,h⟩
def uj{x j pos}:PE X (.Constant (.str x) j pos) (tC (.str x)):=λ_ _ _ H _ I h=>Vr ⟨.str x,H,I.tok _,⟨_,rfl⟩,h⟩
def Gl(X:Cx)(x:Str):Prop:=X.env.kindOf x=Iv .globalImplicit
def ztl(I:Inv X pins σ H s)(hg:Gl X x)(hm:X.mg x=Iv u)(h:Q u s)
  (hd:autoParam ((x == ("__debug__" : Str))=Lf) u11):RP (RM X.prog X.w) X.A (eval (.Name x pos) X.env) Q E s:=Vs I.ok.kind hg (Calls.loadGlobal_global (by rw[I.ok.glob];exact I.mod.glob.keeps I.bk) hm h) hd
def ki(I:Inv X pins σ H s)(hg:Gl X x)(hm:X.mg x=LG)(hv:Te x=Iv u)(h:Q u s)
  (hn:autoParam (x≠"__name__") u11) (hd:autoParam ((x == ("__debug__" : Str))=Lf) u11):RP (RM X.prog X.w) X.A (eval (.Name x pos) X.env) Q E s:=by
 obtain⟨mb,h1,h2⟩:=I.mod.blt;exact Vs I.ok.kind hg (Calls.loadGlobal_builtin (by rw[I.ok.glob];exact I.mod.glob.keeps I.bk) hm (by rw[I.ok.blt];exact h1.keeps I.bk) ((h2 x hn).trans hv) h) hd
def pT(hg:Gl X x)(hm:X.mg x=Iv u)(r:RelV v u)(hd:autoParam ((x == ("__debug__" : Str))=Lf) u11):PE X (.Name x pos) (tC v):=λ_ _ _ H _ I h=>ztl I hg hm ⟨v,H,I,r,h⟩ hd
def sZ(hg:Gl X x)(hm:X.mg x=LG)(hv:Te x=Iv u)(r:RelV v u)(hn:autoParam (x≠"__name__") u11)(hd:autoParam ((x == ("__debug__" : Str))=Lf) u11):PE X (.Name x pos) (tC v):=λ_ _ _ H _ I h=>ki I hg hm hv ⟨v,H,I,r,h⟩ hn hd
variable {a b:Expr}{ta tb:TE}{pos:Pos}
def PC(X:Cx)(op:WE)(a b:Expr)(t:TE):Prop:=
 ∀(pins:List (Addr×Obj)) (s:Rj) (σ:St) (H:Hp) (Q:VK),Inv X pins σ H s->t σ H Q ->
  RP (RM X.prog X.w) X.A (eval a X.env) (λv IR=>RP (RM X.prog X.w) X.A (eval b X.env) (λu Jy=>RP (RM X.prog X.w) X.A (RB op v u) (EP X pins σ Q) X.xe Jy) X.xe IR) X.xe s
def tB(t:TE):TT:=λσ H Q=>t σ H λx H1=>∃c,x=.bl c/\Q c H1
noncomputable def zam(h:PC X op a b t)(h1:Tf op b=Lf:=by first|exact DV _ (by decide) (by decide)|rfl):PT X (.Compare a [op] [b] pos) (tB t):=by
 intro pins s σ H Q I hw;refine U5 (JI (h pins s σ H _ I hw) λv s1 h1=>JI h1 λu s2 h2=>JI h2 λc s3 ⟨x,H1,I1,r1,q1⟩=>?_) h1;obtain⟨d,rfl,q⟩:=q1;cases r1;exact Sq ⟨H1,I1,q⟩
variable {tA Jl:TT}{rest:List Expr}
def ML(t u:TT):TT:=λσ H Q=>t σ H λc H1=>if c=KN then u σ H1 Q else Q Lf H1
def tOr(t u:TT):TT:=λσ H Q=>t σ H λc H1=>if c=KN then Q KN H1 else u σ H1 Q
def ME(t:TT):TT:=λσ H Q=>t σ H λc H1=>Q (!c) H1
def zan(ha:PT X a tA):PW X (.BoolOp .And [a] pos) tA:=by
 intro wh pins s σ H Q I h;refine isTrue_and (JI (ha pins s σ H Q I h) λc s1 e=>?_)
 cases c with
 |true=>exact isTrue_and_nil e
 |false=>exact e
def zao(ha:PT X a tA):PW X (.BoolOp .Or [a] pos) tA:=by
 intro wh pins s σ H Q I h;refine X1 (JI (ha pins s σ H Q I h) λc s1 e=>?_)
 cases c with
 |false=>exact isTrue_or_nil e
 |true=>exact e
def zap(ha:PT X a tA)(hb:PW X (.BoolOp .And (b::rest) pos) Jl):PW X (.BoolOp .And (a::b::rest) pos) (ML tA Jl):=by
 intro wh pins s σ H Q I h;refine isTrue_and (JI (ha pins s σ H _ I h) λc s1 ⟨H1,I1,q1⟩=>?_)
 cases c with
 |true=>exact hb wh pins s1 σ H1 Q I1 q1
 |false=>exact⟨H1,I1,q1⟩
def zaq(ha:PT X a tA)(hb:PW X (.BoolOp .Or (b::rest) pos) Jl):PW X (.BoolOp .Or (a::b::rest) pos) (tOr tA Jl):=by
 intro wh pins s σ H Q I h;refine X1 (JI (ha pins s σ H _ I h) λc s1 ⟨H1,I1,q1⟩=>?_)
 cases c with
 |true=>exact⟨H1,I1,q1⟩
 |false=>exact hb wh pins s1 σ H1 Q I1 q1
def zar(ha:PT X a tA):PT X (.UnaryOp .Not a pos) (ME tA):=by
 intro pins s σ H Q I h;exact isTrue_not (S5 (ha pins s σ H _ I h) (λ_ _ ⟨a,b,c⟩=>⟨a,b,c⟩) λ_ _ z=>z)
def LF(ta tb:TE):TE:=λσ H Q=>ta σ H λx H1=>∃c,x=.bl c/\if c=KN then tb σ H1 Q else Q (.bl Lf) H1
def MD(ta tb:TE):TE:=λσ H Q=>ta σ H λx H1=>∃c,x=.bl c/\if c=KN then Q (.bl KN) H1 else tb σ H1 Q
def Lw(ta:TE):TE:=λσ H Q=>ta σ H λx H1=>∃c,x=.bl c/\Q (.bl (!c)) H1
def zas{op}(h:PE X a t):PE X (.BoolOp op [a] pos) t:=λpins s σ H Q I hw=>BoolOp_one (h pins s σ H Q I hw)
def zat(ha:PE X a ta)(hb:PE X (.BoolOp .And (b::rest) pos) tb):PE X (.BoolOp .And (a::b::rest) pos) (LF ta tb):=by
 intro pins s σ H Q I h;refine BoolOp_and (JI (ha pins s σ H _ I h) λv s1 ⟨x,H1,I1,r1,q1⟩=>?_);obtain⟨c,rfl,q1⟩:=q1;cases r1;refine Sq ?_
 cases c with
 |true=>exact hb pins s1 σ H1 Q I1 q1
 |false=>exact⟨.bl _,H1,I1,rfl,q1⟩
def zau(ha:PE X a ta)(hb:PE X (.BoolOp .Or (b::rest) pos) tb):PE X (.BoolOp .Or (a::b::rest) pos) (MD ta tb):=by
 intro pins s σ H Q I h;refine BoolOp_or (JI (ha pins s σ H _ I h) λv s1 ⟨x,H1,I1,r1,q1⟩=>?_);obtain⟨c,rfl,q1⟩:=q1;cases r1;refine Sq ?_
 cases c with
 |false=>exact hb pins s1 σ H1 Q I1 q1
 |true=>exact⟨.bl KN,H1,I1,rfl,q1⟩
def zav(ha:PE X a ta):PE X (.UnaryOp .Not a pos) (Lw ta):=by
 intro pins s σ H Q I h;refine UnaryOp_ (JI (ha pins s σ H _ I h) λv s1 ⟨x,H1,I1,r1,q1⟩=>?_);obtain⟨c,rfl,q1⟩:=q1;cases r1;exact not_of (Sq ⟨.bl (!c),H1,I1,rfl,q1⟩)
def tIf(t:TT)(ta tb:TE):TE:=λσ H Q=>t σ H λc H1=>if c=KN then ta σ H1 Q else tb σ H1 Q
def zaw(hc:PT X c tA)(ha:PE X a ta)(hb:PE X b tb):PE X (.IfExp c a b pos) (tIf tA ta tb):=by
 intro pins s σ H Q I h;refine wpAny_IfExp (JI (hc pins s σ H _ I h) λd s1 ⟨H1,I1,q1⟩=>?_)
 cases d with
 |true=>exact ha pins s1 σ H1 Q I1 q1
 |false=>exact hb pins s1 σ H1 Q I1 q1
end
def Jr(K:Frag)(H:Hp)(a:Addr)(xs:List V):Prop:=
 Rd H a (.lst xs) \/
  ∃(o:Obj) (ED:Array Re) (n:Nat),K.lookup a=Iv o/\o.cls=.type "list"/\o.dict=LG/\o.data=.seq ED n/\ED.size<=Rp/\L7 xs ED.toList
def Fy(K:Frag)(H:Hp)(a:Addr)(xs:List V):Prop:=
 Rd H a (.tup xs) \/
  ∃(o:Obj) (ED:Array Re) (n:Nat),K.lookup a=Iv o/\o.cls=.type "tuple"/\o.data=.seq ED n/\ED.size<=Rp/\L7 xs ED.toList
noncomputable def M8:Re->Option V
 |.none=>Iv .non
 |.bool b=>Iv (.bl b)
 |.int i _=>Iv (.int i)
 |.str x _=>Iv (.str x)
 |.bytes b _=>Iv (.byt b)
 |.float b _=>Iv (.flt b)
 |.ref a=>Iv (.ref a)
 |.type n=>Iv (.ty n)
 |_=>LG
def RelV.abs(r:RelV x u):M8 u=Iv x:=by
 cases x with
 |non=>cases r;rfl
 |bl _=>cases r;rfl
 |int _=>obtain⟨t,rfl⟩:=r;rfl
 |str _=>obtain⟨t,rfl⟩:=r;rfl
 |byt _=>obtain⟨t,rfl⟩:=r;rfl
 |flt _=>obtain⟨t,rfl⟩:=r;rfl
 |ref _=>cases r;rfl
 |ty _=>cases r;rfl
def RelV.inj(r:RelV x u)(q:RelV y u):x=y:=SA (r.abs.symm.trans q.abs)
theorem L7.inj:∀{xs ys:List V}{us:List Re},L7 xs us->L7 ys us->xs=ys
 |_,_,_,.nil,.nil=>rfl
 |_,_,_,.cons r t,.cons r' t'=>by rw[r.inj r',L7.inj t t']
section
variable {X:Cx}{pins:List (Addr×Obj)}{σ:St}{H:Hp}{s:Rj}{a:Addr}{xs ys:List V}
def Jr.of{K:Frag}(h:H a=Iv (.lst xs)):Jr K H a xs:=.inl (.inl h)
def Fy.of{K:Frag}(h:H a=Iv (.tup xs)):Fy K H a xs:=.inl (.inl h)
def Inv.list(I:Inv X pins σ H s)(h:Jr X.K H a xs):∃ED:List Re,L7 xs ED/\PlainL s.heap a ED.toArray/\xs.length<=sizeLine:=by
 rcases h with h|⟨o,ED,n,hk,hc,hd,hs,hz,r⟩
 .obtain⟨z,ED,n,r,e⟩:=h.ok I.hok
  exact⟨ED,r,⟨_,n,e,rfl,rfl,rfl⟩,z⟩
 .refine⟨ED.toList,r,⟨o,n,I.kIn a o hk,hc,hd,by omega⟩,?_⟩
  have e:=r.length<;>simp_all
def Inv.tuple(I:Inv X pins σ H s)(h:Fy X.K H a xs):∃ED:List Re,L7 xs ED/\YH s.heap a ED.toArray/\xs.length<=sizeLine:=by
 rcases h with h|⟨o,ED,n,hk,hc,hs,hz,r⟩
 .obtain⟨z,ED,r,p⟩:=h.ok I.hok
  exact⟨ED,r,p,z⟩
 .refine⟨ED.toList,r,⟨o,I.kIn a o hk,hc,n,by omega⟩,?_⟩
  have e:=r.length<;>grind
def Inv.list_inj(I:Inv X pins σ H s)(h:Jr X.K H a xs)(h':Jr X.K H a ys):xs=ys:=by
 obtain⟨ED,r,⟨o,n,e,_,_,d⟩,_⟩:=I.list h;obtain⟨JC,r',⟨o',n',e',_,_,d'⟩,_⟩:=I.list h'
 rw[e] at e';have:ED=JC:=by simp_all
 subst this;exact r.inj r'
def Inv.tuple_inj(I:Inv X pins σ H s)(h:Fy X.K H a xs)(h':Fy X.K H a ys):xs=ys:=by
 obtain⟨ED,r,⟨o,e,_,n,d⟩,_⟩:=I.tuple h;obtain⟨JC,r',⟨o',e',_,n',d'⟩,_⟩:=I.tuple h'
 rw[e] at e';have:ED=JC:=by simp_all
 subst this;exact r.inj r'
end
noncomputable abbrev Cx.wish(X:Cx)(E:Re->Rj->Prop):Cx:={ X with xe:=E }
abbrev Cx.nox(X:Cx):Cx:=X.wish λ_ _=>False
theorem Cx.Ok.wish{X:Cx}(ok:X.Ok)(E:Re->Rj->Prop):(X.wish E).Ok:=⟨ok.mod,ok.kind,ok.glob,ok.blt,ok.above,ok.inj,ok.has,ok.cab,ok.hd,ok.frames,ok.stk,ok.exf,ok.bs,ok.bsz,ok.noex,ok.exfs,ok.funs,ok.frf⟩
def Cx.Ok.unwish{X:Cx}{E:Re->Rj->Prop}(ok:(X.wish E).Ok):X.Ok:=⟨ok.mod,ok.kind,ok.glob,ok.blt,ok.above,ok.inj,ok.has,ok.cab,ok.hd,ok.frames,ok.stk,ok.exf,ok.bs,ok.bsz,ok.noex,ok.exfs,ok.funs,ok.frf⟩
section
variable {X:Cx}{pins:List (Addr×Obj)}{σ:St}{H:Hp}{s:Rj}{E:Re->Rj->Prop}{st:Stmt}{rest:List Stmt}{t u:TS}{e:Expr}{te:TE}{pos:Pos}
theorem Inv.wish(I:Inv X pins σ H s)(E:Re->Rj->Prop):Inv (X.wish E) pins σ H s:=⟨I.ok.wish E,I.os,I.bare,I.base,I.loc,I.cell,I.free,I.freeC,I.pin,I.hok,I.len⟩
theorem Inv.unwish(I:Inv (X.wish E) pins σ H s):Inv X pins σ H s:=⟨I.ok.unwish,I.os,I.bare,I.base,I.loc,I.cell,I.free,I.freeC,I.pin,I.hok,I.len⟩
theorem SP.unwish(h:SP (X.wish E) pins D f s'):SP X pins D f s':=by
 cases f with
 |next=>obtain⟨σ',H',I,q⟩:=h;exact⟨σ',H',I.unwish,q⟩
 |brk=>obtain⟨σ',H',I,q⟩:=h;exact⟨σ',H',I.unwish,q⟩
 |cont=>obtain⟨σ',H',I,q⟩:=h;exact⟨σ',H',I.unwish,q⟩
 |ret u=>obtain⟨v,σ',H',I,r,q⟩:=h;exact⟨v,σ',H',I.unwish,r,q⟩
theorem Jx.nox{st:List Stmt}{t:TS}(h:Jx X.nox st t):Jx X st t:=λpins s σ H D I hw=>
 S5 (h pins s σ H D (I.wish _) hw) (λ_ _ q=>q.unwish) λ_ _ z=>UJ z
def Lx:TS:=λD σ H=>D.nx σ H
def BZ(t u:TS):TS:=λD σ H=>t { D with nx:=u D } σ H
def sW:Jx X [] Lx:=λ_ _ σ H _ I h=>Uh ⟨σ,H,I,h⟩
def jR(h1:PS X st t)(h2:Jx X rest u):Jx X (st::rest) (BZ t u):=by
 intro pins s σ H D I h;refine U7 (JI (h1 pins s σ H { D with nx:=u D } I h) λf s1 q=>?_)
 cases f with
 |next=>
  obtain⟨σ',H',I',q⟩:=q;exact h2 pins s1 σ' H' D I' q
 |ret v=>exact q
 |brk=>exact q
 |cont=>exact q
def pQ(h1:PS X st t):Jx X [st] t:=by
 intro pins s σ H D I h;refine U7 (JI (h1 pins s σ H D I h) λf s1 q=>?_)
 cases f with
 |next=>exact Uh q
 |ret v=>exact q
 |brk=>exact q
 |cont=>exact q
def Inv.quiet(I:Inv X pins σ H s):interactive X.env=Lf:=by simp[interactive,I.ok.kind]
def Lz(te:TE):TS:=λD σ H=>te σ H λ_ H1=>D.nx σ H1
def pR(he:PE X e te)(hs:autoParam (So e LG pos.line X.env=pure Lf) u10):PS X (.Expr e pos) (Lz te):=by
 intro pins s σ H D I h;exact wpAny_Expr_any (JI (he pins s σ H _ I h) λv s1 ⟨x,H1,I1,r1,q1⟩=>⟨σ,H1,I1,q1⟩) I.quiet hs
def MC(te:TE):TS:=λD σ H=>te σ H D.rt
def qi(he:PE X e te):PS X (.Return (Iv e) pos) (MC te):=by
 intro pins s σ H D I h;exact wpAny_Return_some (JI (he pins s σ H _ I h) λv s1 ⟨x,H1,I1,r1,q1⟩=>⟨x,σ,H1,I1,r1,q1⟩)
def MH(c:TT)(t u:TS):TS:=λD σ H=>c σ H λb H1=>if b=KN then t D σ H1 else u D σ H1
def uL(hc:PT X c tc)(ha:Jx X a t)(hb:Jx X b u):PS X (.If c a b pos) (MH tc t u):=by
 intro pins s σ H D I h;refine wpAny_If (JI (hc pins s σ H _ I h) λd s1 ⟨H1,I1,q1⟩=>?_)
 cases d with
 |true=>exact ha pins s1 σ H1 D I1 q1
 |false=>exact hb pins s1 σ H1 D I1 q1
end
abbrev TG:=V->St->Hp->(St->Hp->Prop)->Prop
abbrev EK:=List V->St->Hp->(St->Hp->Prop)->Prop
def PG(X:Cx)(target:Expr)(t:TG):Prop:=
 ∀(pins:List (Addr×Obj)) (s:Rj) (σ:St) (H:Hp) (v:V) (u:Re) (Q:St->Hp->Prop),Inv X pins σ H s->RelV v u->t v σ H Q ->
  RP (RM X.prog X.w) X.A (Wm target X.env u) (λ_ s'=>NPz X pins Q s') X.xe s
def Bb(X:Cx)(ts:List Expr)(t:EK):Prop:=
 ∀(pins:List (Addr×Obj)) (s:Rj) (σ:St) (H:Hp) (vs:List V) (us:List Re) (Q:St->Hp->Prop),Inv X pins σ H s->L7 vs us->t vs σ H Q ->
  RP (RM X.prog X.w) X.A (assignInOrder ((UK ts X.env).map (·.2)) us) (λ_ s'=>NPz X pins Q s') X.xe s
abbrev vi:=V->V->V->Hp->(Hp->Prop)->Prop
def Cr(X:Cx)(t:vi):Prop:=
 ∀(pins:List (Addr×Obj)) (s:Rj) (σ:St) (H:Hp) (o i v:V) (ov iv u:Re) (Q:Hp->Prop),Inv X pins σ H s->RelV o ov->RelV i iv->RelV v u->t o i v H Q ->
  RP (RM X.prog X.w) X.A (ZF ov iv u) (λ_ s'=>∃H',Inv X pins σ H' s'/\Q H') X.xe s
section
variable {X:Cx}{pos:Pos}
def Bu(i:Nat):TG:=λv σ H Q=>Q (σ.set i (Iv v)) H
def h9(hN:X.N.Nodup)(hi:X.N[i]? = Iv x)(hx:Loc X.env.scope x)(hf:autoParam (X.fn x=KN\/X.env.scope.names.lookup x=Iv .local) u13):PG X (.Name x pos) (Bu i):=by
 intro pins s σ H v u Q I r h;exact VN (sF I hN hi hx r (λs' I'=>⟨_,H,I',h⟩) hf)
def MY:EK:=λvs σ H Q=>vs=[]/\Q σ H
def Mg(t:TG)(u:EK):EK:=λvs σ H Q=>∃v r,vs=v::r/\t v σ H λσ' H'=>u r σ' H' Q
def sY:Bb X [] MY:=by
 intro pins s σ H vs us Q I r h;obtain⟨e,h⟩:=h;exact assignInOrder_nil ⟨σ,H,I,h⟩
def jS(h1:PG X e t)(h2:Bb X es u)
  (hs:autoParam ((UK (e::es) X.env).map (·.2)=Wm e X.env::(UK es X.env).map (·.2)) u10):Bb X (e::es) (Mg t u):=by
 intro pins s σ H vs us Q I r h;obtain⟨v,vr,e1,h⟩:=h;subst e1
 cases r with
 |cons r rr=>
  rw[hs];refine assignInOrder_cons (JI (h1 pins s σ H _ _ _ I r h) λ_ s1 ⟨KE,H1,I1,q1⟩=>?_);exact h2 pins s1 KE H1 _ _ Q I1 rr q1
def MW(K:Frag)(n:Nat)(t:EK):TG:=λv σ H Q=>∃a xs,v=.ref a/\Fy K H a xs/\xs.length=n/\t xs σ H Q
def ug(hc:X.calm=KN)(h:Bb X es t)
  (hn:autoParam ((UK es X.env).length=n) u10) (Dr:autoParam ((UK es X.env).findIdx? (·.1)=LG) u10):PG X (.Tuple es k pos) (MW X.K n t):=by
 intro pins s σ H v u Q I r hw;obtain⟨a,xs,e1,hq,hl,hw⟩:=hw;subst e1;cases r;obtain⟨ED,rv,ht,hz⟩:=I.tuple hq;refine assign_Tuple_tuple (I.ok.hd hc) ht (by simp[hn,←hl,rv.length]) Dr λh' hx=>?_;have I1:=I.kept (t':=s.toks) λb o e=>hx b o (RN (Rv e)) e;exact h pins _ σ H xs _ Q I1 (by omega) hw
def MX(to ti:TE)(t:vi):TG:=λv σ H Q=>to σ H λo H1=>ti σ H1 λi H2=>t o i v H2 λH3=>Q σ H3
def zax(ho:PE X o to)(hi:PE X i ti)(hs:Cr X t)
  (ha:autoParam (∀v,Wm (.Subscript o i pos) X.env v=(do
   let ov ←Wn [v] (eval o X.env)
   let iv ←Wn [v,ov] (eval i X.env)
   ZG pos
   Wn [v,ov,iv] (ZF ov iv v)
   release [v,ov,iv] [])) u17):PG X (.Subscript o i pos) (MX to ti t):=by
 intro pins s σ H v u Q I r h;rw[ha];refine Rr (Tu (JI (ho pins s σ H _ I h) λov s1 ⟨x,H1,I1,r1,q1⟩=>?_));refine Rr (Tu (JI (hi pins s1 σ H1 _ I1 q1) λiv s2 ⟨y,H2,I2,r2,q2⟩=>?_));refine Rr (wpAny_standAt (Rr (Tu (JI (hs pins s2 σ H2 x y v ov iv u _ I2 r1 r2 r q2) λ_ s3 ⟨H3,I3,q3⟩=>?_))));exact wpAny_release ⟨σ,H3,I3,q3⟩
def B1(te:TE)(g:TG):TS:=λD σ H=>te σ H λx H1=>g x σ H1 D.nx
def ztm(he:PE X e te)(hg:PG X tg g)(hs:autoParam (Xg [tg] e pos.line X.env=pure Lf) u10)(hw:autoParam (Xh [tg] e X.env=pure LG) u10)
  (h1:autoParam ((UK [tg] X.env).map (·.2)=[Wm tg X.env]) u10):PS X (.Assign [tg] e pos) (B1 te g):=by
 intro pins s σ H D I h;refine wpAny_Assign_stores (JI (he pins s σ H _ I h) λv s1 ⟨x,H1,I1,r1,q1⟩=>?_) hs hw;rw[h1];exact JI (hg pins s1 σ H1 x v _ I1 r1 q1) λ_ s2 q=>q
def fm(hN:X.N.Nodup)(hi:X.N[i]? = Iv x)(hx:Loc X.env.scope x)(he:PE X e te)(hs:autoParam (So e (Iv (.Name x pos')) pos.line X.env=pure Lf) u10)(hf:autoParam (X.fn x=KN\/X.env.scope.names.lookup x=Iv .local) u13) :
  PS X (.Assign [.Name x pos'] e pos) (B1 te (Bu i)):=by
 intro pins s σ H D I h;refine wpAny_Assign_Name (JI (he pins s σ H _ I h) λv s1 ⟨y,H1,I1,r1,q1⟩=>?_) hs;exact sF I1 hN hi hx r1 (λs2 I2=>⟨_,H1,I2,q1⟩) hf
def Jt(c:TT)(tb:TS):TS:=λD σ H=>∃W:Nat->St->Hp->Prop,(∃m,W m σ H)/\∀m σ H,W m σ H ->
 c σ H λb H1=>if b=KN then ∃N:St->Hp->Prop,(∀σ' H',N σ' H'->∃m',m' < m/\W m' σ' H')/\tb { D with nx:=N,ct:=N,bk:=D.nx } σ H1 else D.nx σ H1
def zay(hp:U8 (RM X.prog X.w) X.A X.env X.xe)(hc:PT X c tc)(hb:Jx X body tb):PS X (.While c body [] pos) (Jt tc tb):=by
 intro pins s σ H D I h;obtain⟨W,⟨m0,w0⟩,turn⟩:=h;refine wpAny_While (codeAny_whileLoop (λn s'=>NPz X pins (W n) s') ?_ m0 ⟨σ,H,I,w0⟩);rintro n s1 ⟨KE,H1,I1,w1⟩;refine Ss hp (JI (hc pins s1 KE H1 _ I1 (turn n KE H1 w1)) λb s2 ⟨H2,I2,q2⟩=>?_)
 cases b with
 |true=>
  obtain⟨N,hN,q2⟩:=q2;refine Ss hp (JI (hb pins s2 KE H2 _ I2 q2) λf s3 q3=>?_)
  cases f with
  |next=>
   obtain⟨FB,H3,I3,n3⟩:=q3;obtain⟨m',hm,w3⟩:=hN FB H3 n3;exact⟨m',hm,FB,H3,I3,w3⟩
  |cont=>
   obtain⟨FB,H3,I3,n3⟩:=q3;obtain⟨m',hm,w3⟩:=hN FB H3 n3;exact⟨m',hm,FB,H3,I3,w3⟩
  |brk=>exact q3
  |ret v=>exact q3
 |false=>
  exact Uh ⟨KE,H2,I2,q2⟩
end
structure It where
 go:Nat->Hp->Prop
 yld:Nat->Hp->V->Hp->Prop
 stop:Nat->Hp->Prop
def d8(X:Cx)(pins:List (Addr×Obj))(H:Hp)(b:Addr):Prop:=H b=LG/\b≠X.env.locals/\b∉X.fs/\(b∈X.ex\/X.s₀.heap.objs.size<=b)/\(∀x c,X.env.cells.lookup x=Iv c->c≠b)/\∀p∈X.pn++pins,p.1≠b
def Inv.fpOk(I:Inv X pins σ H s)(hb:s.heap.objs.size<=b)(hn:H' b=LG):d8 X pins H' b:=by
 refine⟨hn,Us (Rz I.lt hb),I.nofs hb,.inr (RL I.sz hb),λx c e z=>?_,λp hp z=>?_⟩
 .obtain⟨v,q⟩:=I.cell x c e
  exact absurd (Rz q.lt (by simp_all)) (SO _)
 .exact absurd (Rz (Rv (I.pin p hp).1) (by simp_all)) (SO _)
abbrev cQ8(X:Cx)(es:List Expr)(cpos:Pos):Prop:=((R6 cpos (Rk es X.env)).all (λx=>!x.1)&&(TL cpos (SK [] X.env)).all (λx=>x.1.isSome)&&decide (es.length+([]:List Sx).length+(if ([]:List Sx).isEmpty then 0 else 1)<30))=KN
inductive TuP(X:Cx)(pins:List (Addr×Obj))(σ:St)(J:It)(fp:List Addr)(tn:Nat->Heap->Prop)(i:Nat)(H:Hp)(u:Re)(s2:Rj):Prop where|mk(x:V)(H':Hp)(iv:Inv X pins σ H' s2)(r:RelV x u)(y:J.yld i H x H')(t:tn (i+1) s2.heap)(f:∀b∈fp,H' b=LG)
structure Turn(P:RC)(w:RX)(K:Frag)(tg:Expr)(J:It)(fp:List Addr)(it:Addr)(tn:Nat->Heap->Prop):Prop where
 mem:it∈fp
 obj:∀i h,tn i h->∀b∈fp,∃o,h.get? b=Iv o/\∀v,o.data≠.cell v
 keep:∀i h h',tn i h->(∀b∈fp,∀o,h.get? b=Iv o->h'.get? b=Iv o)->tn i h'
 item:∀(X:Cx),X.prog=P->X.w=w->X.K=K->X.calm=KN->∀(i:Nat) (pins:List (Addr×Obj)) (s:Rj) (σ:St) (H:Hp) (E:Re->Rj->Prop),Inv X pins σ H s->(∀b∈fp,d8 X pins H b)->tn i s.heap->J.go i H ->
  RP (RM P w) X.A (pyNext (.ref it)) (λr s1=>∃u,r=Iv u /\
   RP (RM P w) X.A (WF tg (.ref it) u) (λ_ s2=>TuP X pins σ J fp tn i H u s2) E s1) E s
 done:∀(X:Cx),X.prog=P->X.w=w->X.K=K->X.calm=KN->∀(i:Nat) (pins:List (Addr×Obj)) (s:Rj) (σ:St) (H:Hp) (E:Re->Rj->Prop),Inv X pins σ H s->(∀b∈fp,d8 X pins H b)->tn i s.heap->J.stop i H ->
  RP (RM P w) X.A (pyNext (.ref it)) (λr s1=>r=LG/\Inv X pins σ H s1) E s
 self:∀(A:R9) (i:Nat) (s:Rj) (Q:Re->Rj->Prop) (E:Re->Rj->Prop),tn i s.heap->Q (.ref it) s->RP (RM P w) A (ZI (.ref it)) Q E s
abbrev TI:=St->Hp->(It->Hp->Prop)->Prop
inductive yW(X:Cx)(pins:List (Addr×Obj))(σ:St)(tg:Expr)(R:It->Hp->Prop)(Ke:Re)(s2:Rj):Prop where|mk(it:Addr)(fp:List Addr)(tn:Nat->Heap->Prop)(J:It)(H':Hp)(e:Ke=.ref it)(i:Inv X pins σ H' s2)(t:Turn X.prog X.w X.K tg J fp it tn)(n:tn 0 s2.heap)(f:∀b∈fp,d8 X pins H' b)(q:R J H')
def PI(X:Cx)(tg iter:Expr)(wi:TI):Prop:=
 ∀(pins:List (Addr×Obj)) (s:Rj) (σ:St) (H:Hp) (R:It->Hp->Prop),Inv X pins σ H s->wi σ H R ->
  RP (RM X.prog X.w) X.A (eval iter X.env) (λv s1=>RP (RM X.prog X.w) X.A (ZI v) (yW X pins σ tg R) X.xe s1) X.xe s
def nq{M:Model}{A:R9}{E:Re->Rj->Prop}{s:Rj}{tg:Expr}{it:Addr}{u:Re}{o:Obj}{n:String}{vs:Array Re}{Q:Unit->Rj->Prop}(ho:s.heap.get? it=Iv o)(hc:o.cls=.type n)(hd:o.data=.fields vs)
  (hn:["enumerate","zip","dict_itemiterator","dict_reverseitemiterator","odict_iterator","itertools.zip_longest","itertools.pairwise"].contains n=Lf) (hQ:Q () s):RP M A (WF tg (.ref it) u) Q E s:=by
 cases tg <;> first
  |exact Rx hQ
  | (cases u <;> first
    |exact Rx hQ
    | (refine Rr (wpAny_load ho ?_)
       rw[hc,hd];show RP M A (if _=KN then _ else _) Q E s;rw[if_neg (by intro h;rw[hn] at h;cases h)]
       exact Rx hQ))
def zH(K:Frag)(a:Addr):It:=⟨λi H=>∃xs x,Jr K H a xs/\xs[i]? = Iv x,λi H x H'=>H'=H/\∀xs,Jr K H a xs->xs[i]? = Iv x,λi H=>∃xs,Jr K H a xs/\xs.length<=i⟩
def x8(K:Frag)(a:Addr):It:=⟨λi H=>∃xs x,Fy K H a xs/\xs[i]? = Iv x,λi H x H'=>H'=H/\∀xs,Fy K H a xs->xs[i]? = Iv x,λi H=>∃xs,Fy K H a xs/\xs.length<=i⟩
def AR(lo:Int)(n:Nat):It:=⟨λi _=>i<n,λi H x H'=>H'=H/\x=.int (lo+i),λi _=>n<=i⟩
def ztn{P:RC}{w:RX}{K:Frag}{tg:Expr}(a it:Addr):Turn P w K tg (zH K a) [it] it (λi h=>h.IsListIter it a i) where
 mem:=by simp
 obj:=λi h st b hb=>by
  have e:b=it:=by simpa using hb
  subst e
  obtain⟨o,e,c,d⟩:=st<;>simp_all
 keep:=λi h h' st k=>st.at λo e=>k it (by simp) o e
 item:=by
  intro X hP hw hK hc i pins s σ H E I hf st hg;subst hP hw hK;obtain⟨xs,x,hq,hx⟩:=hg;obtain⟨ED,rv,p,hz⟩:=I.list hq;obtain⟨u,hu,ru⟩:=rv.get hx;obtain⟨f0,f1,f2,f3,f4,f5⟩:=hf it (by simp);refine wpAny_pyNext_list_item st p.isList (x:=u) (by simp_all) λh' st' sb=>?_;have I1:Inv X pins σ H { s with heap:=h' }:=I.turned (t':=s.toks) (λb o hb e=>(sb.2 b hb).trans e) f0 f1 f3 f4 f5;obtain⟨o,e,c,d⟩:=id st';exact⟨u,rfl,nq (s:={ s with heap:=h' }) e c d (rfl) ⟨x,H,I1,ru,⟨rfl,λys hy=>by rw[I.list_inj hy hq];exact hx⟩,st',λb hb=>(hf b hb).1⟩⟩
 done:=by
  intro X hP hw hK hc i pins s σ H E I hf st hg;subst hP hw hK;obtain⟨xs,hq,hx⟩:=hg;obtain⟨ED,rv,p,hz⟩:=I.list hq;obtain⟨f0,f1,f2,f3,f4,f5⟩:=hf it (by simp);have hl:=rv.length;exact wpAny_pyNext_list_end (I.ok.hd hc) st p.isList (by simp;omega) λh' eb=>⟨rfl,I.turned (t':=s.toks) (λb o hb e=>eb b o hb e) f0 f1 f3 f4 f5⟩
 self:=λ_ _ _ _ _ st h=>wpAny_pyIter_listiter st h
def zaz{P:RC}{w:RX}{K:Frag}{tg:Expr}(a it:Addr):Turn P w K tg (x8 K a) [it] it (λi h=>h.IsTupleIter it a i) where
 mem:=by simp
 obj:=λi h st b hb=>by
  have e:b=it:=by simpa using hb
  subst e;obtain⟨o,e,c,d⟩:=st;exact⟨o,e,λv z=>by simp_all⟩
 keep:=λi h h' st k=>st.at λo e=>k it (by simp) o e
 item:=by
  intro X hP hw hK hc i pins s σ H E I hf st hg;subst hP hw hK;obtain⟨xs,x,hq,hx⟩:=hg;obtain⟨ED,rv,p,hz⟩:=I.tuple hq;obtain⟨u,hu,ru⟩:=rv.get hx;obtain⟨f0,f1,f2,f3,f4,f5⟩:=hf it (by simp);refine wpAny_pyNext_tuple_item st (show s.heap.IsTuple a ED.toArray from p) (x:=u) (by simp_all) λh' st' sb=>?_;have I1:Inv X pins σ H { s with heap:=h' }:=I.turned (t':=s.toks) (λb o hb e=>(sb.2 b hb).trans e) f0 f1 f3 f4 f5;obtain⟨o,e,c,d⟩:=id st';exact⟨u,rfl,nq (s:={ s with heap:=h' }) e c d (by decide) ⟨x,H,I1,ru,⟨rfl,λys hy=>by rw[I.tuple_inj hy hq];exact hx⟩,st',λb hb=>(hf b hb).1⟩⟩
 done:=by
  intro X hP hw hK hc i pins s σ H E I hf st hg;subst hP hw hK;obtain⟨xs,hq,hx⟩:=hg;obtain⟨ED,rv,p,hz⟩:=I.tuple hq;obtain⟨f0,f1,f2,f3,f4,f5⟩:=hf it (by simp);have hl:=rv.length;exact wpAny_pyNext_tuple_end (I.ok.hd hc) st (show s.heap.IsTuple a ED.toArray from p) (by simp;omega) λh' eb=>⟨rfl,I.turned (t':=s.toks) (λb o hb e=>eb b o hb e) f0 f1 f3 f4 f5⟩
 self:=λ_ _ _ _ _ st h=>wpAny_pyIter_tupleiter st h
def zba{P:RC}{w:RX}{K:Frag}{tg:Expr}(it:Addr)(lo:Int)(n:Nat):Turn P w K tg (AR lo n) [it] it (λi h=>IsRangeIter h it (lo+(i:Nat)*1) ((n:Int)-(i:Nat)) 1) where
 mem:=by simp
 obj:=λi h st b hb=>by simp_all
 keep:=λi h h' st k=>k it (by simp) _ st
 item:=by
  intro X hP hw hK hc i pins s σ H E I hf st hg;subst hP hw hK;obtain⟨f0,f1,f2,f3,f4,f5⟩:=hf it (by simp);have W:=Walks.range (prog:=X.prog) (w:=X.w) (I.ok.hd hc) it lo 1 n;refine W.item i s _ _ hg st λv h' tk hv st' kk=>?_;obtain⟨t,rfl⟩:=hv;have I1:Inv X pins σ H { s with heap:=h',toks:=tk }:=I.turned (λb o hb e=>kk b o (by simp_all) e) f0 f1 f3 f4 f5;refine⟨_,rfl,nq   st' rfl rfl (rfl) ⟨.int (lo+i),H,I1,⟨t,?_⟩,⟨rfl,rfl⟩,st',λb hb=>(hf b hb).1⟩⟩;rw[Int.mul_one]
 done:=by
  intro X hP hw hK hc i pins s σ H E I hf st hg;obtain⟨f0,f1,f2,f3,f4,f5⟩:=hf it (by simp);exact wpAny_pyNext_range_end (I.ok.hd hc) st (by have:n<=i:=hg;omega) λh' eb=>⟨rfl,I.turned  (λb o hb e=>eb b o hb e) f0 f1 f3 f4 f5⟩
 self:=λ_ _ _ _ _ st h=>wpAny_pyIter_rangeiter st h
section
variable {X:Cx}{tg:Expr}
def zbb{pins:List (Addr×Obj)}{σ:St}{H:Hp}{s:Rj}{R:It->Hp->Prop}{E:Re->Rj->Prop}{lo hi:Int}{t u v:Tok}{tk:Nat}(I:Inv X pins σ H s)(h1 : -(2^62)<=lo)(h2:lo<2^62)(h3 : -(2^62)<=hi)(h4:hi<2^62)
  (q:R (AR lo (hi-lo).toNat) H):RP (RM X.prog X.w) X.A (ZI (.ref s.heap.objs.size)) (yW X pins σ tg R) E { s with heap:=s.heap.push { cls:=.type "range",data:=.fields #[.int lo t,.int hi u,.int 1 v] },toks:=tk }:=by
 refine wpAny_pyIter_range (IsRange.new ..) (small_one h1 h2 h3 h4) ?_;have I1:Inv X pins σ H { s with heap:=s.heap.push { cls:=.type "range",data:=.fields #[.int lo t,.int hi u,.int 1 v] },toks:=tk }:=I.kept λb o e=>Ri _ e
 refine⟨(s.heap.push { cls:=.type "range",data:=.fields #[.int lo t,.int hi u,.int 1 v] }).objs.size,[(s.heap.push { cls:=.type "range",data:=.fields #[.int lo t,.int hi u,.int 1 v] }).objs.size],_,_,H,rfl,
  I1.kept  λb o e=>Ri _ e,zba _ lo _,?_,λb hb=>?_,q⟩
 .have e1:lo+((0:Nat))*1=lo:=by simp
  have e2:(((hi-lo).toNat))-((0:Nat))=Zv lo hi 1:=by rw[rangeSize_one]<;>grind
  rw[e1,e2];exact RA _ rfl
 .have e:b=(s.heap.push { cls:=.type "range",data:=.fields #[.int lo t,.int hi u,.int 1 v] }).objs.size:=by simpa using hb
  subst e;exact I1.fpOk (Rn _) (I1.hok.fresh (Rn _))
def Mf(ta:TA):TI:=λσ H R=>ta σ H λvs H1=>∃j:Int,vs=[.int j]/\-(2^62)<=j/\j<2^62/\R (AR 0 j.toNat) H1
def zbc(hg:Gl X "range")(hm:X.mg "range"=LG)(ha:PA X [a] ta)(hs:autoParam (Rk [a] X.env=[(Lf,eval a X.env)]) u10):PI X tg (.Call (.Name "range" p) [a] [] pos) (Mf ta):=by
 intro pins s σ H R I h;refine Call_ (ki I hg hm boot_range (Uk (JI (ha pos pins s σ H _ I h) λus s1 ⟨vs,H1,I1,r1,q1⟩=>?_) hs rfl));obtain⟨j,e,q1,q2,q⟩:=q1;subst e
 cases r1 with
 |cons r rr=>
  cases rr;obtain⟨t,rfl⟩:=r;exact call_range_1 (zbb I1 (by lia) (by lia) q1 q2 (by simp_all))
def B0(wi:TI)(g:TG)(tb:TS):TS:=λD σ H=>wi σ H λJ H1=>∃W:Nat->Nat->St->Hp->Prop,(∃m,W 0 m σ H1)/\∀i m σ H,W i m σ H ->
 (J.stop i H/\D.nx σ H)\/(J.go i H/\∃N:St->Hp->Prop,(∀σ' H',N σ' H'->∃m',m' < m/\W (i+1) m' σ' H')/\∀x H',J.yld i H x H'->g x σ H' λEA H2=>tb { D with nx:=N,ct:=N,bk:=D.nx } EA H2)
def gG(fp:List Addr)(h:Heap):List (Addr×Obj):=fp.filterMap λb=>(h.get? b).map λo=>(b,o)
def jL(hb:b∈fp)(e:h.get? b=Iv o):(b,o)∈gG fp h:=Xp.mpr ⟨b,hb,by rw[e];rfl⟩
def zbd(hp:p∈gG fp h):p.1∈fp/\h.get? p.1=Iv p.2:=by
 obtain⟨b,hb,e⟩:=Xp.mp hp
 cases q:h.get? b with
 |none=>simp_all
 |some o=>
  rw[q] at e;have e':=SA e;subst e';exact⟨hb,q⟩
def Inv.pinned(I:Inv X pins σ H s)(hf:∀b∈fp,d8 X pins H b)(ho:∀b∈fp,∃o,s.heap.get? b=Iv o/\∀v,o.data≠.cell v):Inv X (pins++gG fp s.heap) σ H s:=
 I.pins_of λp hp=>(Ry.mp hp).elim (λz=>I.pin p (RG _ z)) λz=>by
  obtain⟨hb,e⟩:=zbd z;obtain⟨f0,f1,f2,_⟩:=hf p.1 hb
  obtain⟨o,e',d⟩:=ho p.1 hb<;>simp_all
def Inv.unpinned(I:Inv X (pins++pl) σ H s):Inv X pins σ H s:=I.pins_of λp hp=>I.pin p (RG _ (SW _ hp))
def uf(hp:U8 (RM X.prog X.w) X.A X.env X.xe)(hc:X.calm=KN)(hi:PI X tg iter wi)(hg:PG X tg g)(hb:Jx X body tb)
  (hs:autoParam (∀x,RY iter X.env x=pure x) u17):PS X (.For tg iter body [] pos) (B0 wi g tb):=by
 intro pins s σ H D I h;refine wpAny_For (JI (hi pins s σ H _ I h) λv s1 h1=>JI h1 λKe s2 h2=>?_) hs;obtain⟨it,fp,tn,J,H2,e,I2,T,Fv,f2,W,⟨m0,w0⟩,turn⟩:=h2;subst e;have Es:∀{H':Hp},(∀b∈fp,H' b=LG)->∀b∈fp,d8 X pins H' b:=λhn b hb=>⟨hn b hb,(f2 b hb).2⟩;refine W6 (λn s'=>∃i σ' H',Inv X pins σ' H' s'/\tn i s'.heap/\(∀b∈fp,H' b=LG)/\W i n σ' H') ?_ m0 ⟨0,σ,H2,I2,Fv,λb hb=>(f2 b hb).1,w0⟩;rintro n s3 ⟨i,FB,H3,I3,Ek,Fb,w3⟩
 rcases turn i n FB H3 w3 with⟨stop,qn⟩|⟨go,N,hN,step⟩
 .refine Ss hp (JI (T.done X rfl rfl rfl hc i pins s3 FB H3 X.xe I3 (Es Fb) Ek stop) λr s4 ⟨hr,I4⟩=>?_)
  subst hr;exact Uh ⟨FB,H3,I4,qn⟩
 .refine Ss hp (JI (T.item X rfl rfl rfl hc i pins s3 FB H3 X.xe I3 (Es Fb) Ek go) λr s4 ⟨u,hr,h4⟩=>?_)
  subst hr;refine Ss hp (JI h4 λ_ s5 ⟨x,H5,I5,r5,y5,EY,Lk⟩=>?_);have AM:=I5.pinned (Es Lk) (T.obj _ _ EY);refine Ss hp (JI (hg _ s5 FB H5 x u _ AM r5 (step x H5 y5)) λ_ s6 ⟨v8,H6,I6,q6⟩=>?_);refine Ss hp (JI (hb _ s6 v8 H6 _ I6 q6) λf s7 q7=>?_)
  have ZZ:∀{LV:St}{H7:Hp},Inv X (pins++gG fp s5.heap) LV H7 s7->N LV H7->∃m,m<n/\∃i σ' H',Inv X pins σ' H' s7/\tn i s7.heap/\(∀b∈fp,H' b=LG)/\W i m σ' H':=λ{LV H7} I7 n7=>by
   obtain⟨m',hm,w7⟩:=hN LV H7 n7;refine⟨m',hm,i+1,LV,H7,I7.unpinned,T.keep _ _ _ EY λb hb o e=>(I7.pin (b,o) (RG _ (RG _ (jL hb e)))).1,λb hb=>?_,w7⟩;obtain⟨o,e,d⟩:=T.obj _ _ EY b hb;exact(I7.pin (b,o) (RG _ (RG _ (jL hb e)))).2.1
  cases f with
  |next=>obtain⟨LV,H7,I7,n7⟩:=q7;exact ZZ I7 n7
  |cont=>obtain⟨LV,H7,I7,n7⟩:=q7;exact ZZ I7 n7
  |brk=>obtain⟨LV,H7,I7,q7⟩:=q7;exact⟨LV,H7,I7.unpinned,q7⟩
  |ret v=>obtain⟨x7,LV,H7,I7,r7,q7⟩:=q7;exact⟨x7,LV,H7,I7.unpinned,r7,q7⟩
end
abbrev R2:=V->V->Hp->VK->Prop
def Fo(X:Cx)(f:Re->Re->Sem Re)(r:R2):Prop:=
 ∀(pins:List (Addr×Obj)) (s:Rj) (σ:St) (H:Hp) (x y:V) (v u:Re) (Q:VK),Inv X pins σ H s->RelV x v->RelV y u->r x y H Q ->
  RP (RM X.prog X.w) X.A (f v u) (EP X pins σ Q) X.xe s
def Ak(X:Cx)(f:Re->Sem Re)(r:V->Hp->VK->Prop):Prop:=
 ∀(pins:List (Addr×Obj)) (s:Rj) (σ:St) (H:Hp) (x:V) (v:Re) (Q:VK),Inv X pins σ H s->RelV x v->r x H Q ->
  RP (RM X.prog X.w) X.A (f v) (EP X pins σ Q) X.xe s
def Fh(X:Cx)(f:Re)(r:List V->Hp->VK->Prop):Prop:=
 ∀(pins:List (Addr×Obj)) (s:Rj) (σ:St) (H:Hp) (xs:List V) (us:List Re) (Q:VK),Inv X pins σ H s->L7 xs us->r xs H Q ->
  RP (RM X.prog X.w) X.A (call f us) (EP X pins σ Q) X.xe s
def M9(X:Cx)(r:V->Hp->(Bool->Hp->Prop)->Prop):Prop:=
 ∀(pins:List (Addr×Obj)) (s:Rj) (σ:St) (H:Hp) (x:V) (v:Re) (Q:Bool->Hp->Prop),Inv X pins σ H s->RelV x v->r x H Q ->
  RP (RM X.prog X.w) X.A (truthy v) (TP X pins σ Q) X.xe s
def MS(r:R2)(ta tb:TE):TE:=λσ H Q=>ta σ H λx H1=>tb σ H1 λy H2=>r x y H2 Q
def tUn(r:V->Hp->VK->Prop)(ta:TE):TE:=λσ H Q=>ta σ H λx H1=>r x H1 Q
def rI(C:Int->Int->Prop)(g:Int->Int->V):R2:=λx y H Q=>∃i j,x=.int i/\y=.int j/\C i j/\Q (g i j) H
def GI(g:Int->Int->V):R2:=λx y H Q=>∃i j,x=.int i/\y=.int j/\Q (g i j) H
def rU(g:Int->V):V->Hp->VK->Prop:=λx H Q=>∃i,x=.int i/\Q (g i) H
section
variable {X:Cx}{a b c:Expr}{ta tb tc:TE}{pos:Pos}
def vd(ha:PE X a ta)(hb:PE X b tb){R:V->V->Hp->Prop}(I:Inv X pins σ H s)
  (h:ta σ H λx H1=>tb σ H1 λy H2=>R x y H2) {Q:Re->Rj->Prop}{f:Re->Re->Sem Re}
  (hf:∀v u s2 x y H2,Inv X pins σ H2 s2->RelV x v->RelV y u->R x y H2->RP (RM X.prog X.w) X.A (f v u) Q X.xe s2) :
  RP (RM X.prog X.w) X.A (eval a X.env) (λv IR=>RP (RM X.prog X.w) X.A (eval b X.env) (λu Jy=>RP (RM X.prog X.w) X.A (f v u) Q X.xe Jy) X.xe IR) X.xe s:=by
 refine JI (ha pins s σ H _ I h) λv s1 ⟨x,H1,I1,r1,q1⟩=>?_;refine JI (hb pins s1 σ H1 _ I1 q1) λu s2 ⟨y,H2,I2,r2,q2⟩=>?_;exact hf v u s2 x y H2 I2 r1 r2 q2
def zto(ho:Fo X (SX op) r)(ha:PE X a ta)(hb:PE X b tb):PE X (.BinOp a op b pos) (MS r ta tb):=by
 intro pins s σ H Q I h;exact wpAny_BinOp (vd ha hb I h λv u s2 x y H2 I2 rx ry q=>ho pins s2 σ H2 x y v u Q I2 rx ry q)
def zbe(ho:Ak X (unaryOp op) r)(ha:PE X a ta):PE X (.UnaryOp op a pos) (tUn r ta):=by
 intro pins s σ H Q I h;exact UnaryOp_ (JI (ha pins s σ H _ I h) λv s1 ⟨x,H1,I1,r1,q1⟩=>ho pins s1 σ H1 x v Q I1 r1 q1)
def EU{f:Re->Re->Sem Re}{C:Int->Int->Prop}{g:Int->Int->Int}
  (rule:∀(i j:Int) (t u:Tok) (s:Rj) (Q:Re->Rj->Prop) (E:Re->Rj->Prop),C i j->Q (.int (g i j) s.toks) { s with toks:=s.toks+1 }->RP (RM X.prog X.w) X.A (f (.int i t) (.int j u)) Q E s) :
  Fo X f (rI C λi j=>.int (g i j)):=by
 intro pins s σ H x y v u Q I rx ry h;obtain⟨i,j,rfl,rfl,hc,q⟩:=h;obtain⟨t,rfl⟩:=rx;obtain⟨t',rfl⟩:=ry;exact rule i j t t' s _ _ hc ⟨.int _,H,I.tok _,⟨_,rfl⟩,q⟩
def ztp{f:Re->Re->Sem Re}{g:Int->Int->Int}
  (rule:∀(i j:Int) (t u:Tok) (s:Rj) (Q:Re->Rj->Prop) (E:Re->Rj->Prop),Q (.int (g i j) s.toks) { s with toks:=s.toks+1 }->RP (RM X.prog X.w) X.A (f (.int i t) (.int j u)) Q E s) :
  Fo X f (GI λi j=>.int (g i j)):=by
 intro pins s σ H x y v u Q I rx ry h;obtain⟨i,j,rfl,rfl,q⟩:=h;obtain⟨t,rfl⟩:=rx;obtain⟨t',rfl⟩:=ry;exact rule i j t t' s _ _ ⟨.int _,H,I.tok _,⟨_,rfl⟩,q⟩
def qX{f:Re->Re->Sem Re}{g:Int->Int->Bool}
  (rule:∀(i j:Int) (t u:Tok) (s:Rj) (Q:Re->Rj->Prop) (E:Re->Rj->Prop),Q (.bool (g i j)) s->RP (RM X.prog X.w) X.A (f (.int i t) (.int j u)) Q E s) :
  Fo X f (GI λi j=>.bl (g i j)):=by
 intro pins s σ H x y v u Q I rx ry h;obtain⟨i,j,rfl,rfl,q⟩:=h;obtain⟨t,rfl⟩:=rx;obtain⟨t',rfl⟩:=ry;exact rule i j t t' s _ _ ⟨.bl _,H,I,rfl,q⟩
def Nb(i j:Int):Prop:=0<=j/\j<=1000000/\i.natAbs<2^64
def Me(i j:Int):Prop:=(-(2^64)<i/\i<2^64)\/(-(2^64)<j/\j<2^64)
def Me.ok(h:Me i j):IntMulOk i j:=by
 rcases h with⟨h1,h2⟩|⟨h1,h2⟩
 .exact .of_left (intBits_le_64 h1 h2)
 .exact .of_right (intBits_le_64 h1 h2)
def zev:Fo X (SX .Add) (GI λi j=>.int (i+j)):=ztp λ_ _ _ _ _ _ _ q=>add_int q
def zbf:Fo X (SX .Sub) (GI λi j=>.int (i-j)):=ztp λ_ _ _ _ _ _ _ q=>sub_int q
def zxa:Fo X (SX .Mult) (rI Me λi j=>.int (i*j)):=EU λ_ _ _ _ _ _ _ hc q=>mul_int q hc.ok
def zbg:Fo X (SX .Mod) (rI (λ_ j=>0<j) λi j=>.int (i % j)):=EU λi j _ _ _ _ _ hc q=>by
 exact mod_int' (by lia) (by rw[Int.fmod_eq_emod_of_nonneg i (by lia)];exact q)
def zbh:Fo X (SX .Pow) (rI Nb λi j=>.int (i^j.toNat)):=EU λ_ _ _ _ _ _ _ hc q=>pow_int_small hc.1 hc.2.1 hc.2.2 q
def unI{f:Re->Sem Re}{g:Int->Int}
  (rule:∀(i:Int) (t:Tok) (s:Rj) (Q:Re->Rj->Prop) (E:Re->Rj->Prop),Q (.int (g i) s.toks) { s with toks:=s.toks+1 }->RP (RM X.prog X.w) X.A (f (.int i t)) Q E s) :
  Ak X f (rU λi=>.int (g i)):=by
 intro pins s σ H x v Q I rx h;obtain⟨i,rfl,q⟩:=h;obtain⟨t,rfl⟩:=rx;exact rule i t s _ _ ⟨.int _,H,I.tok _,⟨_,rfl⟩,q⟩
def zbi:Ak X (unaryOp .USub) (rU λi=>.int (-i)):=unI λ_ _ _ _ _ q=>neg_int q
end
noncomputable def uZ:V->V->Bool
 |.non,.non=>KN | .non,.int _=>KN | .int _,.non=>KN | .non,.bl _=>KN | .bl _,.non=>KN | .non,.str _=>KN | .str _,.non=>KN
 |.int _,.int _=>KN | .bl _,.bl _=>KN | .str _,.str _=>KN | .byt _,.byt _=>KN
 |.int _,.str _=>KN | .str _,.int _=>KN | .bl _,.str _=>KN | .str _,.bl _=>KN
 |_,_=>Lf
def rEq:R2:=λx y H Q=>uZ x y=KN/\Q (.bl (decide (x=y))) H
def rNe:R2:=λx y H Q=>uZ x y=KN/\Q (.bl (!decide (x=y))) H
def ztq:decide (V.int i=V.int j)=(i == j):=by
 rw[Sl];simp
def ztr:decide (V.bl i=V.bl j)=(i == j):=by
 rw[Sl];simp
def zts:decide (V.str i=V.str j)=(i == j):=by
 rw[Sl];simp
def ztt:decide (V.byt i=V.byt j)=(i.toList == j.toList):=by rw[Sl]<;>simp_all
section
variable {X:Cx}{a b c:Expr}{ta tb tc:TE}{pos:Pos}
def bH(I:Inv X pins σ H s)(q:Q (.bl k) H)(e:k=k'):EP X pins σ Q (.bool k') s:=by
 subst e;exact⟨.bl k,H,I,rfl,q⟩
def zbj:Fo X (RB .Eq) rEq:=by
 intro pins s σ H x y v u Q I rx ry h;obtain⟨hs,q⟩:=h
 cases x with
 |non=>
  cases rx
  cases y with
  |non=>cases ry;exact Y2 (bH I q (rfl))
  |bl j=>cases ry;exact Y3 (bH I q (rfl))
  |int j=>obtain⟨t',rfl⟩:=ry;exact Zf (bH I q (rfl))
  |str j=>obtain⟨t',rfl⟩:=ry;exact Zg (bH I q (rfl))
  |_=>exact absurd (show Lf=KN from hs) RI
 |bl i=>
  cases rx
  cases y with
  |non=>cases ry;exact Y4 (bH I q (rfl))
  |bl j=>cases ry;exact eq_bool (bH I q ztr)
  |str j=>obtain⟨t',rfl⟩:=ry;exact Y5 (bH I q (rfl))
  |_=>exact absurd (show Lf=KN from hs) RI
 |int i=>
  obtain⟨t,rfl⟩:=rx
  cases y with
  |non=>cases ry;exact Zh (bH I q (rfl))
  |int j=>obtain⟨t',rfl⟩:=ry;exact eq_int (bH I q ztq)
  |str j=>obtain⟨t',rfl⟩:=ry;exact Zi (bH I q (rfl))
  |_=>exact absurd (show Lf=KN from hs) RI
 |str i=>
  obtain⟨t,rfl⟩:=rx
  cases y with
  |non=>cases ry;exact Zj (bH I q (rfl))
  |bl j=>cases ry;exact Y6 (bH I q (rfl))
  |int j=>obtain⟨t',rfl⟩:=ry;exact Zk (bH I q (rfl))
  |str j=>obtain⟨t',rfl⟩:=ry;exact eq_str (bH I q zts)
  |_=>exact absurd (show Lf=KN from hs) RI
 |byt i=>
  obtain⟨t,rfl⟩:=rx
  cases y with
  |byt j=>obtain⟨t',rfl⟩:=ry;exact PySem.W.eq_bytes (bH I q ztt)
  |_=>exact absurd (show Lf=KN from hs) RI
 |_=>cases y <;> exact absurd (show Lf=KN from hs) RI
def zbk:Fo X (RB .NotEq) rNe:=by
 intro pins s σ H x y v u Q I rx ry h;obtain⟨hs,q⟩:=h
 cases x with
 |non=>
  cases rx
  cases y with
  |non=>cases ry;exact Y7 (bH I q (rfl))
  |bl j=>cases ry;exact Y8 (bH I q (rfl))
  |int j=>obtain⟨t',rfl⟩:=ry;exact Zl (bH I q (rfl))
  |str j=>obtain⟨t',rfl⟩:=ry;exact Zm (bH I q (rfl))
  |_=>exact absurd (show Lf=KN from hs) RI
 |bl i=>
  cases rx
  cases y with
  |non=>cases ry;exact Y9 (bH I q (rfl))
  |bl j=>cases ry;exact ne_bool (bH I q (congrArg not ztr))
  |str j=>obtain⟨t',rfl⟩:=ry;exact Za (bH I q (rfl))
  |_=>exact absurd (show Lf=KN from hs) RI
 |int i=>
  obtain⟨t,rfl⟩:=rx
  cases y with
  |non=>cases ry;exact Zn (bH I q (rfl))
  |int j=>obtain⟨t',rfl⟩:=ry;exact ne_int (bH I q (congrArg not ztq))
  |str j=>obtain⟨t',rfl⟩:=ry;exact Zo (bH I q (rfl))
  |_=>exact absurd (show Lf=KN from hs) RI
 |str i=>
  obtain⟨t,rfl⟩:=rx
  cases y with
  |non=>cases ry;exact Zp (bH I q (rfl))
  |bl j=>cases ry;exact Zb (bH I q (rfl))
  |int j=>obtain⟨t',rfl⟩:=ry;exact Zq (bH I q (rfl))
  |str j=>obtain⟨t',rfl⟩:=ry;exact ne_str (bH I q (congrArg not zts))
  |_=>exact absurd (show Lf=KN from hs) RI
 |byt i=>
  obtain⟨t,rfl⟩:=rx
  cases y with
  |byt j=>obtain⟨t',rfl⟩:=ry;exact PySem.W.ne_bytes (bH I q (congrArg not ztt))
  |_=>exact absurd (show Lf=KN from hs) RI
 |_=>cases y <;> exact absurd (show Lf=KN from hs) RI
def zbl:Fo X (RB .Lt) (GI λi j=>.bl (decide (i<j))):=qX λ_ _ _ _ _ _ _ q=>lt_int q
def zbm:Fo X (RB .LtE) (GI λi j=>.bl (decide (i<=j))):=qX λ_ _ _ _ _ _ _ q=>le_int q
def zbn:Fo X (RB .Gt) (GI λi j=>.bl (decide (j<i))):=qX λ_ _ _ _ _ _ _ q=>gt_int q
def zbo:Fo X (RB .GtE) (GI λi j=>.bl (decide (j<=i))):=qX λ_ _ _ _ _ _ _ q=>ge_int q
def zxb:Fo X (RB .In) (λx y H Q=>∃i j,x=.str i/\y=.str j/\Q (.bl (!(SY j i 0 j.length 1).isEmpty)) H):=by
 intro pins s σ H x y v u Q I rx ry h;obtain⟨i,j,rfl,rfl,q⟩:=h;obtain⟨t,rfl⟩:=rx;obtain⟨t',rfl⟩:=ry;exact in_str (bH I q rfl)
def zbp:Fo X (RB .Is) (λx y H Q=>y=.non/\Q (.bl (decide (x=.non))) H):=by
 intro pins s σ H x y v u Q I rx ry h;obtain⟨rfl,q⟩:=h;cases ry;refine is_none_gen (bH I q ?_)
 cases x <;> first
  |omega
  |(obtain⟨t,rfl⟩:=rx;rfl)
def zxc:Fo X (RB .IsNot) (λx y H Q=>y=.non/\Q (.bl (!decide (x=.non))) H):=by
 intro pins s σ H x y v u Q I rx ry h;obtain⟨rfl,q⟩:=h;cases ry;refine isnot_none_gen (bH I q ?_)
 cases x <;> first
  |(rfl)
  |(obtain⟨t,rfl⟩:=rx;rfl)
def zxd:Fo X (RB .NotIn) (λx y H Q=>∃i j,x=.str i/\y=.str j/\Q (.bl (!(!(SY j i 0 j.length 1).isEmpty))) H):=by
 intro pins s σ H x y v u Q I rx ry h;obtain⟨i,j,rfl,rfl,q⟩:=h;obtain⟨t,rfl⟩:=rx;obtain⟨t',rfl⟩:=ry;exact notIn_str (bH I q rfl)
def Fo.or(h:Fo X f r)(h':Fo X f r'):Fo X f (λx y H Q=>r x y H Q\/r' x y H Q):=by
 intro pins s σ H x y v u Q I rx ry q
 rcases q with q|q
 .exact h pins s σ H x y v u Q I rx ry q
 .exact h' pins s σ H x y v u Q I rx ry q
def ql(b:Expr)(h:autoParam (op≠.In) u11)(h2:autoParam (op≠.NotIn) u11):Tf op b=Lf:=by
 have e1:(op == CmpOp.In)=Lf:=by simp_all
 have e2:(op == CmpOp.NotIn)=Lf:=by simp_all
 cases b <;> simp[Tf,e1,e2]
def zbq(ho:Fo X (RB op) r)(ha:PE X a ta)(hb:PE X b tb)(hm:Tf op b=Lf):PE X (.Compare a [op] [b] pos) (MS r ta tb):=by
 intro pins s σ H Q I h;exact wpAny_Compare1 (vd ha hb I h λv u s2 x y H2 I2 rx ry q=>ho pins s2 σ H2 x y v u Q I2 rx ry q) hm
def uI(t:TE):TT:=λσ H Q=>t σ H λx H'=>∃k,x=.bl k/\Q k H'
def zbr(ho:Fo X (RB op) r)(ha:PE X a ta)(hb:PE X b tb)(hm:Tf op b=Lf):PT X (.Compare a [op] [b] pos) (uI (MS r ta tb)):=by
 intro pins s σ H Q I h
 refine U5 (JI (ha pins s σ H _ I h) λv s1 ⟨x,H1,I1,r1,q1⟩=>JI (hb pins s1 σ H1 _ I1 q1) λu s2 ⟨y,H2,I2,r2,q2⟩=>
  JI (ho pins s2 σ H2 x y v u _ I2 r1 r2 q2) λc s3 ⟨z,H3,I3,r3,k,e,q3⟩=>?_) hm
 subst e;cases r3;exact Sq ⟨H3,I3,q3⟩
def tZ(r r':R2)(ta tb tc:TE):TE:=λσ H Q=>ta σ H λx H1=>tb σ H1 λy H2=>r x y H2 λz H3=>∃k,z=.bl k /\
 (if k=KN then tc σ H3 λw' H4=>r' y w' H4 Q else Q (.bl Lf) H3)
def zbs(ho:Fo X (RB op) r)(DH:Fo X (RB DD) r')(ha:PE X a ta)(hb:PE X b tb)(hc:PE X c tc)
  (hm:autoParam (X2 [op,DD] [b,c]=Lf) u24):PE X (.Compare a [op,DD] [b,c] pos) (tZ r r' ta tb tc):=by
 intro pins s σ H Q I h
 refine Compare_chain (JI (ha pins s σ H _ I h) λv s1 ⟨x,H1,I1,r1,q1⟩=>chain_link (JI (hb pins s1 σ H1 _ I1 q1) λu s2 ⟨y,H2,I2,r2,q2⟩=>
  JI (ho pins s2 σ H2 x y v u _ I2 r1 r2 q2) λd s3 ⟨z,H3,I3,r3,k,e,q3⟩=>?_)) hm
 subst e;cases r3;refine Sq ?_
 cases k with
 |false=>exact ite_ff ⟨.bl _,H3,I3,rfl,q3⟩
 |true=>exact ite_tt (chain_last (JI (hc pins s3 σ H3 _ I3 q3) λw' s4 ⟨z',H4,I4,r4,q4⟩=>DH pins s4 σ H4 y z' u w' Q I4 r2 r4 q4))
def zbt(ho:Fo X (RB op) r)(DH:Fo X (RB DD) r')(ha:PE X a ta)(hb:PE X b tb)(hc:PE X c tc)
  (hm:autoParam (X2 [op,DD] [b,c]=Lf) u24):PT X (.Compare a [op,DD] [b,c] pos) (uI (tZ r r' ta tb tc)):=by
 intro pins s σ H Q I h
 refine isTrue_chain (JI (ha pins s σ H _ I h) λv s1 ⟨x,H1,I1,r1,q1⟩=>test_link (JI (hb pins s1 σ H1 _ I1 q1) λu s2 ⟨y,H2,I2,r2,q2⟩=>
  JI (ho pins s2 σ H2 x y v u _ I2 r1 r2 q2) λd s3 ⟨z,H3,I3,r3,k,e,q3⟩=>?_)) hm
 subst e;cases r3;refine Sq ?_
 cases k with
 |false=>
  obtain⟨k',e',q'⟩:=q3;cases e';exact ite_ff ⟨H3,I3,q'⟩
 |true=>
  refine ite_tt (test_last (JI (hc pins s3 σ H3 _ I3 q3) λw' s4 ⟨z',H4,I4,r4,q4⟩=>JI (DH pins s4 σ H4 y z' u w' _ I4 r2 r4 q4) λd' s5 ⟨z2,H5,I5,r5,k2,e2,q5⟩=>?_));subst e2;cases r5;exact Sq ⟨H5,I5,q5⟩
def vh(K:Frag)(x:V)(H:Hp)(k:Bool):Prop:=
 match x with
 |.non=>k=Lf
 |.bl b=>k=b
 |.int i=>k=(i != 0)
 |.str y=>y.length<=Rp/\k=((y.length:Int) != 0)
 |.byt y=>y.size<=Rp/\k=((y.size:Int) != 0)
 |.ref p=>(∃xs,Jr K H p xs/\k = !xs.isEmpty)\/(∃xs,Fy K H p xs/\k = !xs.isEmpty)\/∃kvs,H p=Iv (.dK kvs)/\k = !kvs.isEmpty
 |_=>False
def zbu{κ:Type}{kvs:List (κ×V)}{vs:List (κ×Re)}(r:KV kvs vs):(!vs.isEmpty) = !kvs.isEmpty:=by cases r <;> rfl
def ztu(r:L7 xs ED):(!ED.toArray.isEmpty) = !xs.isEmpty:=by cases r <;> simp
def jb:(Rp:Nat)<2^63:=by decide
def zbv:M9 X (λx H Q=>∃k,vh X.K x H k/\Q k H):=by
 intro pins s σ H x v Q I rx h;obtain⟨k,e,q⟩:=h;have hl:=jb;have hs:Rp=16777216:=Yj
 cases x with
 |non=>
  cases rx;have e':k=Lf:=e;subst e';exact truthy_none ⟨H,I,q⟩
 |bl b=>
  cases rx;have e':k=b:=e;subst e';exact Sq ⟨H,I,q⟩
 |int i=>
  obtain⟨t,rfl⟩:=rx;have e':k=(i != 0):=e;subst e';exact PySem.P.truthy_int ⟨H,I,q⟩
 |str y=>
  obtain⟨t,rfl⟩:=rx;obtain⟨hy,e'⟩:y.length<=Rp/\k=((y.length:Int) != 0):=e;subst e';exact PySem.P.truthy_str (by lia) ⟨H,I.tok _,q⟩
 |byt y=>
  obtain⟨t,rfl⟩:=rx;obtain⟨hy,e'⟩:y.size<=Rp/\k=((y.size:Int) != 0):=e;subst e';exact PySem.W.truthy_bytes (by lia) ⟨H,I.tok _,q⟩
 |ref p=>
  cases rx;have e':(∃xs,Jr X.K H p xs/\k = !xs.isEmpty)\/(∃xs,Fy X.K H p xs/\k = !xs.isEmpty)\/∃kvs,H p=Iv (.dK kvs)/\k = !kvs.isEmpty:=e
  rcases e' with⟨xs,hx,e'⟩|⟨xs,hx,e'⟩|⟨kvs,hx,e'⟩
  .subst e'
   obtain⟨ED,r,pl,hz⟩:=I.list hx;have JW:=r.length;exact wpAny_truthy_list pl.isList (by simp only[Sw];lia) ⟨H,I.tok _,by rw[ztu r];exact q⟩
  .subst e'
   obtain⟨ED,r,pl,hz⟩:=I.tuple hx;have JW:=r.length;exact truthy_tuple pl (by simp only[Sw];lia) ⟨H,I.tok _,by rw[ztu r];exact q⟩
  .subst e'
   obtain⟨hz,hS,vs,r,m⟩:kvs.length<=Rp/\(p == SG)=Lf/\∃vs,KV kvs vs/\s.heap.DictOf (bP X.prog X.w) p vs:=I.hok p _ hx;have JW:kvs.length=vs.length:=TN r;exact wpAny_truthy_dict hS m (by lia) ⟨H,I.tok _,by rw[zbu r];exact q⟩
 |_=>exact(show False from e).elim
def zbw(ha:PE X a ta)(he:∀whole,YJ a X.env whole=(do let v ←whole;ZG a.pos;Wn [v] (truthy v))) :
  PT X a (λσ H Q=>ta σ H λx H'=>∃k,vh X.K x H' k/\Q k H'):=by
 intro pins s σ H Q I h;exact isTrue_plain (JI (ha pins s σ H _ I h) λv s1 ⟨x,H1,I1,r1,q1⟩=>zbv pins s1 σ H1 x v Q I1 r1 q1) (he _)
def zxe:Fo X (SX .Add) (λx y H Q=>∃i j,x=.str i/\y=.str j/\i.length+j.length<=Rp/\Q (.str (i++j)) H):=by
 intro pins s σ H x y v u Q I rx ry h;obtain⟨i,j,rfl,rfl,hz,q⟩:=h;obtain⟨t,rfl⟩:=rx;obtain⟨t',rfl⟩:=ry;exact add_str (λt' tk=>⟨.str _,H,I.tok _,⟨_,rfl⟩,q⟩) hz
def vals1(r:L7 [x] us):∃u,us=[u]/\RelV x u:=by
 cases r with
 |cons r1 r2=>cases r2;exact⟨_,rfl,r1⟩
def vals2(r:L7 [x,y] us):∃u w',us=[u,w']/\RelV x u/\RelV y w':=by
 cases r with
 |cons r1 r2=>
  cases r2 with
  |cons r3 r4=>cases r4;exact⟨_,_,rfl,r1,r3⟩
def zbx:Fh X (.builtin "abs") (λxs H Q=>∃i,xs=[.int i]/\Q (.int (if i<0 then -i else i)) H):=by
 intro pins s σ H xs us Q I r h;obtain⟨i,rfl,q⟩:=h;obtain⟨u,rfl,t,rfl⟩:=vals1 r;exact call_abs_int λu tk=>⟨.int _,H,I.tok _,⟨_,rfl⟩,q⟩
def zxf:Fh X (.type "int") (λxs H Q=>(∃i,xs=[.int i]/\Q (.int i) H)\/∃k,xs=[.bl k]/\Q (.int (if k then 1 else 0)) H):=by
 intro pins s σ H xs us Q I r h
 rcases h with⟨i,rfl,q⟩|⟨k,rfl,q⟩
 .obtain⟨u,rfl,t,rfl⟩:=vals1 r
  exact call_int_int ⟨.int i,H,I,⟨_,rfl⟩,q⟩
 .obtain⟨u,rfl,r1⟩:=vals1 r
  cases r1;exact call_int_bool ⟨.int _,H,I.tok _,⟨_,rfl⟩,q⟩
def zby:Fh X (.type "str") (λxs H Q=>∃i,xs=[.int i]/\i.natAbs.log2<1920/\Q (.str (toString i)) H):=by
 intro pins s σ H xs us Q I r h;obtain⟨i,rfl,hz,q⟩:=h;obtain⟨u,rfl,t,rfl⟩:=vals1 r;exact PySem.P.str_of_int hz ⟨.str _,H,I.tok _,⟨_,rfl⟩,q⟩
end
structure Ki(h:Heap)(x dx C:Addr)(mA:Str->Option Re):Prop where
 obj:h.get? x=Iv (WD C dx)
 ns:h.Ns1 dx mA
 ne:dx≠x
def zbz{h:Heap}{mA:Str->Option Re}(n:h.Ns1 dx mA):∃od,h.get? dx=Iv od/\∀name,WR name od=Iv (mA name):=by
 obtain⟨o,es,ep,ho,hd,hk,_,hm⟩:=n;refine⟨o,ho,λname=>?_⟩;have e:=hm name;unfold nsFind findBy at e;rw[←Array.find?_toList] at e;unfold WR;rw[hd];dsimp only;split
 simp_all
 .rename_i q
  rw[q] at e
  have a:es.toList.any (·.refKey)=Lf:=by
   rw[List.any_eq_false];intro y hy;obtain⟨z,t,vV⟩:=hk y (Array.mem_toList_iff.mp hy);simp[DictEntry.refKey,vV]
  have a':¬es.toList.any (·.refKey)=KN:=by rw[a]<;>simp_all
  rw[if_neg a']<;>simp_all
def Ki.look(I:Ki h x dx C mA):∃od,PySem.W.InstAt h x (WD C dx) C (Iv od)/\∀name,WR name od=Iv (mA name):=
 let ⟨od,ho,hl⟩:=zbz I.ns
 ⟨od,⟨I.obj,rfl,rfl,ho⟩,hl⟩
def LX.some_of(r:LX (Iv v) o):∃u,o=Iv u/\RelV v u:=by
 cases o with
 |none=>exact(r).elim
 |some u=>exact⟨u,rfl,r⟩
section
variable {P:RC}{w:RX}{H H':Hp}{h h':Heap}{a C dx:Addr}{fs Dy:List (Str×V)}
def zca(hok:CJ P w H h)(e:H a=Iv (.ins C dx fs)):∃mA,Ki h a dx C mA/\(∀f,LX (fs.lookup f) (mA f))/\ZE mA (fs.map (·.1))/\fs.length<=1000/\H dx=Iv (.own a):=by
 obtain⟨d,z,ne,ob,mA,n,r,q⟩:=(hok a _ e);exact⟨mA,⟨ob,n,ne⟩,r,q,z,d⟩
end
structure xh(K:Frag)(C:Addr):Prop where
 pg:X3 K C Str.empty=KN
 hd:PySem.W.hasDictIn K C=KN
 po:PySem.W.plainOver K C=KN
 sa:YL K (.ref C) "__setattr__"=Iv (Iv (.builtin "object.__setattr__"))
def xh.get{K:Frag}{C:Addr}(c:xh K C)(f:Str):X3 K C f=KN:=c.pg
section
variable {X:Cx}{pins:List (Addr×Obj)}{σ:St}{H:Hp}{s:Rj}{A:R9}{E:Re->Rj->Prop}{Q:Re->Rj->Prop}{c:Re}{b:Bool}
inductive DB(K:Frag)(H:Hp):V->Re->Prop where
 |non:DB K H .non (.type "NoneType")
 |bl (x:Bool):DB K H (.bl x) (.type "bool")
 |int (i:Int):DB K H (.int i) (.type "int")
 |str (x:Str):DB K H (.str x) (.type "str")
 |flt (x:UInt64):DB K H (.flt x) (.type "float")
 |lst {a:Addr}{xs:List V} (e:H a=Iv (.lst xs)):DB K H (.ref a) (.type "list")
 |frz {a:Addr}{o:Obj}{xs:List V} (e:H a=Iv (.frz o (.lst xs))):DB K H (.ref a) (.type "list")
 |tup {a:Addr}{xs:List V} (e:H a=Iv (.tup xs)):DB K H (.ref a) (.type "tuple")
 |dK {a:Addr}{kvs:List (Key×V)} (e:H a=Iv (.dK kvs)):DB K H (.ref a) (.type "dict")
 |dT {a:Addr}{kvs:List (List Key×V)} (e:H a=Iv (.dT kvs)):DB K H (.ref a) (.type "dict")
 |ins {a C dx:Addr}{fs:List (Str×V)} (e:H a=Iv (.ins C dx fs)) (cl:xh K C) (ha:YL K (.ref C) "__class__"=Iv (Iv (.builtin "object.__class__")))
   (hn:PySem.W.specialIn K (.builtin "object.__class__") "__get__"=Iv (Iv (.builtin "getset_descriptor.__get__"))) (htk:PySem.W.takesIn K (.builtin "object.__class__")=Iv KN)
   (hm:PySem.W.mroIn K C (.type "object")=Iv KN):DB K H (.ref a) (.ref C)
def oN(I:Inv X pins σ H s)(rx:RelV x u)(ty:DB X.K H x t)(e:WS X.K t c=Iv b)(h:∀tk,Q (.bool b) { s with toks:=tk }) :
  RP (RM X.prog X.w) A (call (.builtin "isinstance") [u,c]) Q E s:=by
 cases ty with
 |non=>cases (show u=YG from rx);exact Sd Xu I.kIn S6 e (λz=>nomatch z) h
 |bl y=>cases (show u=Xn y from rx);exact Sd Xv I.kIn S6 e (λz=>nomatch z) h
 |int i=>obtain⟨t,q⟩:=(show ∃t,u=Zu i t from rx);cases q;exact Sd X4 I.kIn S6 e (λz=>nomatch z) h
 |str y=>obtain⟨t,q⟩:=(show ∃t,u=V1 y t from rx);cases q;exact Sd X5 I.kIn S6 e (λz=>nomatch z) h
 |flt y=>obtain⟨t,q⟩:=(show ∃t,u=ZY y t from rx);cases q;exact Sd PySem.W.kitx_float I.kIn S6 e (λz=>nomatch z) h
 |@lst a xs ea=>
  cases (show u=Sn a from rx);obtain⟨_,_,n,_,h1⟩:=(show Fs X.prog X.w H s.heap a (.lst xs) from I.hok a _ ea);exact Sd US I.kIn ⟨_,h1,rfl⟩ e (λz=>nomatch z) h
 |@frz a ob xs ea=>
  cases (show u=Sn a from rx);obtain⟨_,_,_,n,_,h1⟩:=(show Fs X.prog X.w H s.heap a (.frz ob (.lst xs)) from I.hok a _ ea);exact Sd US I.kIn ⟨_,h1,rfl⟩ e (λz=>nomatch z) h
 |@tup a xs ea=>
  cases (show u=Sn a from rx);obtain⟨_,_,_,p⟩:=(show Fs X.prog X.w H s.heap a (.tup xs) from I.hok a _ ea);obtain⟨o,h1,h2,_⟩:=p;exact Sd Vt I.kIn ⟨o,h1,h2⟩ e (λz=>nomatch z) h
 |@dK a kvs ea=>
  cases (show u=Sn a from rx);obtain⟨_,_,vs,_,p⟩:=(show Fs X.prog X.w H s.heap a (.dK kvs) from I.hok a _ ea);obtain⟨o,es,ep,h1,h2,_⟩:=p;exact Sd UT I.kIn ⟨o,h1,h2.1⟩ e (λz=>nomatch z) h
 |@dT a kvs ea=>
  cases (show u=Sn a from rx);obtain⟨_,_,xs,_,o,es,ep,h1,h2,_⟩:=(show Fs X.prog X.w H s.heap a (.dT kvs) from I.hok a _ ea);exact Sd UT I.kIn ⟨o,h1,h2.1⟩ e (λz=>nomatch z) h
 |@ins a C dx fs ea cl ha hn htk hm=>
  cases (show u=Sn a from rx);obtain⟨mA,O,_⟩:=zca I.hok ea;obtain⟨od,J,_⟩:=O.look;exact Sd (PySem.W.kitx_own (cl.get _) cl.hd ha hn htk hm) I.kIn J e (λz=>nomatch z) h
end
structure JL(k:Nat)(A:R9):Prop where
 hd:A.handled=LG
 dp:A.depth+3*k+5<recursionLimit
 un:A.units+16*k+200<Xw
 gd:A.guards=Iv []
def JL.mono(r:JL k A)(h:j<=k):JL j A:=⟨r.hd,by have:=r.dp;lia,by have:=r.un;lia,r.gd⟩
theorem JL.deeper(r:JL (k+1) A)(env:Env):JL k (A.deeper env):=⟨r.hd,by have:=r.dp;show A.depth+1+3*k+5<_;lia,by have:=r.un;simp_all;lia,r.gd⟩
theorem JL.depth(r:JL k A):A.depth<recursionLimit:=by have:=r.dp;lia
def MF:TA:=λ_ H Q=>Q [] H
def LD(ta:TE)(tr:TA):TA:=λσ H Q=>ta σ H λx H1=>tr σ H1 λxs H2=>Q (x::xs) H2
section
variable {X:Cx}{e:Expr}{es:List Expr}{te:TE}{t:TA}{pos:Pos}
def cM:PA X [] MF:=λ_ _ _ _ H Q I h=>Ul ⟨[],H,I,.nil,h⟩
def cn(ha:PE X e te)(hr:PA X es t)(hs:autoParam (Rk (e::es) X.env=(Lf,eval e X.env)::Rk es X.env) u10):PA X (e::es) (LD te t):=by
 intro pos pins s σ H Q I h;rw[hs];refine Tz (JI (ha pins s σ H _ I h) λu s1 ⟨x,H1,I1,r1,q1⟩=>?_);exact JI (hr pos pins s1 σ H1 _ I1 q1) λus s2 ⟨xs,H2,I2,r2,q2⟩=>⟨x::xs,H2,I2,.cons r1 r2,q2⟩
def MB(t:TA):TE:=λσ H Q=>t σ H λxs H1=>xs.length<=Rp/\∀p,H1 p=LG->Q (.ref p) (upd H1 p (.tup xs))
def MG(t:TA):TE:=λσ H Q=>t σ H λxs H1=>xs.length<=Rp/\∀p,H1 p=LG->Q (.ref p) (upd H1 p (.lst xs))
def uh{x1}(h:PA X es t):PE X (.Tuple es x1 pos) (MB t):=by
 intro pins s σ H Q I hq;refine wpAny_Tuple_spliced (JI (h pos pins s σ H _ I hq) λus s1 ⟨xs,H1,I1,r,z,q⟩=>⟨by rw[←r.length];exact z,?_⟩);have hf:=I1.hok.fresh (Rn _);refine⟨.ref _,upd H1 _ _,I1.laid  (λb u e=>Ri _ e) (Rn _) ?_,rfl,q _ hf⟩;exact⟨z,us,r,⟨_,RA _ rfl,rfl,_,rfl⟩⟩
def kg(h:PA X es t):PE X (.List es pos) (MG t):=by
 intro pins s σ H Q I hq;refine wpAny_List_spliced (JI (h pos pins s σ H _ I hq) λus s1 ⟨xs,H1,I1,r,z,q⟩=>⟨by rw[←r.length];exact z,?_⟩);have hf:=I1.hok.fresh (Rn _);refine⟨.ref _,upd H1 _ _,I1.laid  (λb u e=>Ri _ e) (Rn _) ?_,rfl,q _ hf⟩;exact⟨z,us,0,r,RA _ rfl⟩
end
abbrev Sp:=List V->Hp->VK->XK->Prop
abbrev GF:=List Env->Hp->Rj->XK->Re->Rj->Prop
structure Lc(P:RC)(w:RX)(K:Frag)(mg:Str->Option Re)(base:Heap)(A:R9)(outer:List Env)(s:Rj)(H:Hp):Prop where
 frames:A.frames=Iv outer
 mod:Mod K mg base
 bs:∀b o,base.get? b=Iv o->s.heap.get? b=Iv o/\H b=LG
 bsz:base.objs.size<=s.heap.objs.size
 funs:s.heap.FunFrames base outer
 frf:∀b∈frs outer,H b=LG
 hok:CJ P w H s.heap
 bare:VM s.gens
def CE(outer:List Env)(P:RC)(w:RX)(H:Hp)(s:Rj)(Q:VK)(u:Re)(s':Rj):Prop:=∃v H',s'.os=s.os/\VM s'.gens/\Un (frs outer) [] H H' s.heap s'.heap/\CJ P w H' s'.heap/\RelV v u/\Q v H'
def CR(CX:GF)(outer:List Env)(P:RC)(w:RX)(H:Hp)(s:Rj)(Q:VK)(E:XK)(r:Result)(s':Rj):Prop:=
 match r with
 |.ok (.ret u)=>CE outer P w H s Q u s'
 |.ok _=>False
 |.error e=>CX outer H s E e s'
structure Ft(P:RC)(w:RX)(K:Frag)(mg:Str->Option Re)(base:Heap)(CX:GF)(k:Nat)(f:Addr)(fd:Ts)(ps:List Str)(sp:Sp):Prop where
 len:∀vs H Q E,sp vs H Q E->vs.length=ps.length
 run:∀(A:R9) (outer:List Env) (s:Rj) (H:Hp) (args:Args) (us:List Re) (vs:List V) (Q:VK) (E:XK),JL k A->Lc P w K mg base A outer s H->Xx s fd args (ps.zip us)->L7 vs us->sp vs H Q E ->
  Xy (RM P w) A (.call (.ref f) args) (CR CX outer P w H s Q E) s
section
variable {X:Cx}{pins:List (Addr×Obj)}{σ:St}{H:Hp}{s s':Rj}
def Inv.env0(I:Inv X pins σ H s):Lc X.prog X.w X.K X.mg X.base X.A X.stack s H:=⟨I.ok.frames,I.ok.mod,I.bs,RL I.ok.bsz I.sz,I.stack,I.stkFree,I.hok,I.bare⟩
def Inv.after(I:Inv X pins σ H s)(h:CE X.stack X.prog X.w H s Q u s'):EP X pins σ Q u s':=by
 obtain⟨v,H',os,bare,un,hok,r,q⟩:=h;obtain⟨hh,g,d,t,os'⟩:=s';obtain rfl:os'=s.os:=os;exact⟨v,H',I.call      un hok bare (λb z=>absurd z (by simp)),r,q⟩
end
def A6(sp:Sp)(GS:List V)(E:XK)(t:TA):TE:=λσ H Q=>t σ H λvs H1=>sp (vs++GS) H1 Q E
def Binds(K:Frag)(fd:Ts)(ps:List Str)(ds:List Re):Prop:=∀(s:Rj) (us:List Re),K.In s.heap->(us++ds).length=ps.length->Xx s fd ⟨us,[]⟩ (ps.zip (us++ds))
def Binds.all{K:Frag}{fd:Ts}{ps:List Str}(h:∀us:List Re,us.length=ps.length->V2 fd ⟨us,[]⟩=pure (ps.zip us)):Binds K fd ps []:=λs us _ hl=>by
 rw[TH] at hl ⊢;exact .of_eq (h us hl)
def uD(CX:GF)(X:Cx)(E:XK):Prop:=∀(pins:List (Addr×Obj)) (σ:St) (H:Hp) (s:Rj) (e:Re) (s':Rj),Inv X pins σ H s->CX X.stack H s E e s'->X.xe e s'
section
variable {X:Cx}{CX:GF}{k:Nat}{f C:Addr}{fd:Ts}{ps:List Str}{sp:Sp}{GS:List V}{ds:List Re}{E:XK}{x m:Str}{p pos apos:Pos}{e o:Expr}{es:List Expr}{ta:TE}{t:TA}
def zcb(F:Ft X.prog X.w X.K X.mg X.base CX k f fd ps sp)(hr:JL k X.A)(hb:Binds X.K fd ps ds)(hd:L7 GS ds)(hx:uD CX X E)
  (I:Inv X pins σ H s) (r:L7 vs us) (h:sp (vs++GS) H Q E):RP (RM X.prog X.w) X.A (call (.ref f) us) (EP X pins σ Q) X.xe s:=by
 have r2:=r.append hd
 have hl:(us++ds).length=ps.length:=by rw[←r2.length];exact F.len _ _ _ _ h
 refine wpAny_call (Vl (F.run X.A _ s H _ _ _ Q E hr I.env0 (hb s us I.kIn hl) r2 h) λr s' hq=>?_)
 cases r with
 |error e=>exact hx pins σ H s e s' I hq
 |ok fl=>
  cases fl with
  |ret u=>exact I.after hq
  |next=>exact UJ hq
  |brk=>exact UJ hq
  |cont=>exact UJ hq
def zcc(F:Ft X.prog X.w X.K X.mg X.base CX k f fd ps sp)(hr:JL k X.A)(hg:Gl X x)(hm:X.mg x=Iv (.ref f))(hk:Uo X.K (.ref f)=KN)(hb:Binds X.K fd ps ds)(hd:L7 GS ds)(hx:uD CX X E)
  (ha:PA X (e::es) t) (E2:autoParam ((x == ("__debug__" : Str))=Lf) u11) (he:autoParam (Rk (e::es) X.env=(Lf,eval e X.env)::Rk es X.env) u10) (Mh:autoParam ((R6 pos (Rk es X.env)).any (·.1)=Lf) u10) :
  PE X (.Call (.Name x p) (e::es) [] pos) (A6 sp GS E t):=by
 intro pins s σ H Q I h;refine Ua (ztl I hg hm ?_ E2);refine PySem.W.callWith_K  I.ok.mod.kin hk (JI (ha pos pins s σ H _ I h) λus s1 ⟨vs,H1,I1,r,q⟩=>⟨I1.kIn,?_⟩) he Mh;exact zcb F hr hb hd hx I1 r q
end
structure DP(N P:List Str)(sc:TU):Prop where
 kind:sc.kind=.function
 co:sc.isCoroutine=Lf
 gen:sc.isGenerator=Lf
 nd:N.Nodup
 pre:N.take P.length=P
 par:∀x∈P,sc.names.lookup x=Iv .local\/sc.names.lookup x=Iv .cell
 nofree:∀y∈sc.names,y.2≠.free
theorem ztv{Wo:Str->Option TV}:∀{binds:List (Str×Re)}{m:Str->Option Re},(∀v,(x,v)∉binds)->Zw Wo binds m x=m x
 |[],_,_=>rfl
 |(n,v)::r,m,h=>by
  unfold Zw;rw[ztv λw hw=>h w (Rc _ hw)];split
  .grind
  .rfl
theorem ztw{Wo:Str->Option TV}:∀{binds:List (Str×Re)}{m:Str->Option Re},(∀v,(x,v)∉binds)->Zx Wo binds m x=m x
 |[],_,_=>rfl
 |(n,v)::r,m,h=>by
  unfold Zx;rw[ztw λw hw=>h w (Rc _ hw)];split
  .rfl
  .grind
theorem ztx{Wo:Str->Option TV}:∀{P:List Str}{vs:List Re}{i:Nat}{m:Str->Option Re},P.Nodup->P[i]? = Iv x->vs[i]? = Iv v->Wo x=Iv .local ->
  Zw Wo (P.zip vs) m x=Iv v
 |[],_,_,_,_,h,_,_=>by simp at h
 |_::_,[],_,_,_,_,h,_=>by simp at h
 |p::P,w::vs,0,m,nd,h1,h2,hk=>by
  simp at h1 h2;subst h1;subst h2;show Zw _ (_::P.zip vs) m p=_;unfold Zw;rw[ztv λv hv=>(RJ.mp nd).1 (WG hv).1,if_pos hk];simp
 |p::P,w::vs,i+1,m,nd,h1,h2,hk=>by
  unfold Zw;exact ztx  (RJ.mp nd).2 (by simpa using h1) (by simpa using h2) hk
theorem zty{Wo:Str->Option TV}:∀{P:List Str}{vs:List Re}{i:Nat}{m:Str->Option Re},P.Nodup->P[i]? = Iv x->vs[i]? = Iv v->Wo x≠Iv .local ->
  Zx Wo (P.zip vs) m x=Iv v
 |[],_,_,_,_,h,_,_=>by simp at h
 |_::_,[],_,_,_,_,h,_=>by simp at h
 |p::P,w::vs,0,m,nd,h1,h2,hk=>by
  simp at h1 h2;subst h1;subst h2;show Zx _ (_::P.zip vs) m p=_;unfold Zx;rw[ztw λv hv=>(RJ.mp nd).1 (WG hv).1,if_neg hk];simp
 |p::P,w::vs,i+1,m,nd,h1,h2,hk=>by
  unfold Zx;exact zty  (RJ.mp nd).2 (by simpa using h1) (by simpa using h2) hk
def start(N:List Str)(vs:List V):St:=vs.map Iv++RQ (N.length-vs.length) LG
noncomputable def fM(CX:GF)(P:RC)(w:RX)(K:Frag)(mg:Str->Option Re)(base:Heap)(N:List Str)(qual:Str)(scope:TU)(f:Addr)(cd:Re)(A:R9)(outer:List Env)(s:Rj)(H:Hp)(E:XK):Cx where
 prog:=P
 w:=w
 K:=K
 mg:=mg
 base:=base
 A:=A.deeper (U9 qual scope s.heap.objs.size f cd)
 N:=N
 s₀:=s
 H₀:=H
 env:=U9 qual scope s.heap.objs.size f cd
 outer:=outer
 stack:=U9 qual scope s.heap.objs.size f cd::outer
 ex:=[]
 calm:=KN
 fn:=λ_=>KN
 pn:=[]
 xe:=λe s'=>RP (RM P w) (A.deeper (U9 qual scope s.heap.objs.size f cd)) (leaving (U9 qual scope s.heap.objs.size f cd) e) (λ_ yF=>CX outer H s E e yF) (λe' yF=>CX outer H s E e' yF) s'
def ztz{sc:TU}{n:Nat}{x:Str}(h:sc.names.lookup x=Iv .cell):∃c,(Zy n sc.names []).lookup x=Iv c:=by
 have q:=Wp _ n [] (.inl h);exact VR.mp q
def zcd{CX:GF}{P:RC}{w:RX}{K:Frag}{mg:Str->Option Re}{base:Heap}{N ps:List Str}{qual:Str}{scope:TU}{f:Addr}{cd:Re}{A:R9}{outer:List Env}{s s1:Rj}{H:Hp}{E:XK}{us:List Re}{vs:List V}
  (S:DP N ps scope) (hd:A.handled=LG) (e0:Lc P w K mg base A outer s H) (hl:vs.length=ps.length) (r:L7 vs us)
  (x:InCallC s s.heap.objs.size (Zw (U9 qual scope s.heap.objs.size f cd).kindOf (ps.zip us) λ_=>LG) (Zy (s.heap.objs.size+1) scope.names []) (Zx (U9 qual scope s.heap.objs.size f cd).kindOf (ps.zip us) λ_=>LG) s1) :
  Inv (fM CX P w K mg base N qual scope f cd A outer s H E) [] (start N vs) H s1:=by
 have Mh:ps.length<=N.length:=by have:=congrArg Yk S.pre;rw[Tv] at this;lia
 obtain⟨h1,tk,rfl,hk⟩:=x.done;have EM:∀b:Addr,b∉(fM CX P w K mg base N qual scope f cd A outer s H E).ex:=λb z=>absurd (show b∈([]:List Addr) from z) (by simp)
 refine⟨⟨e0.mod,S.kind,rfl,rfl,Rn _,λy z c h1 h2=>?_,λy hy=>?_,λy c _ h=>?_,λ_=>hd,Around.frames_deeper e0.frames,.inr ⟨rfl,rfl⟩,λb z=>absurd z (EM b),e0.bs,e0.bsz,λb _ _=>EM b,λb z=>absurd z (EM b),e0.funs,e0.frf⟩,
  rfl,e0.bare,Un.kept hk,⟨_,x.toInCall.ns,λi y v h1 h2 h3=>?_⟩,λy c h=>⟨_,x.cell y c h⟩,e0.hok.fresh (Rn _),λy c h=>?_,λp hp=>absurd (show p∈([]:List (Addr×Obj)) from hp) (by simp),e0.hok.kept hk,?_⟩
 .exact name_of_addr x.apart (TR h1) (TR h2)
 .rcases hy with hy|hy
  .exact ztz hy
  .exact absurd rfl (S.nofree _ (TR hy))
 .exact Ur (x.above y c (TR h))
 .have hi:i<vs.length:=by
   unfold start at h2
   by_cases hi:i<vs.length
   .exact hi
   .rw[Vu (by simpa using hi)] at h2
    rw[List.getElem?_replicate] at h2
    split at h2 <;> cases h2
  have ha:vs[i]? = Iv v:=by
   unfold start at h2
   rw[RH (by simpa using hi),Sf] at h2<;>grind
  obtain⟨u,hu,rv⟩:=r.get ha
  have hp:ps[i]? = Iv y:=by
   rw[←S.pre,List.getElem?_take_of_lt (by lia)];exact h1
  have ndP:ps.Nodup:=by rw[←S.pre];exact S.nd.sublist (Xz _ _)
  refine⟨u,rv,?_⟩
  rcases S.par y (Rw hp) with k|k
  .exact .inl ⟨k,ztx ndP hp hu k⟩
  .obtain⟨c,e⟩:=ztz (n:=s.heap.objs.size+1) k
   refine .inr ⟨.inl k,c,e,?_⟩;have q:=x.cell y c e;rw[zty ndP hp hu (by show scope.names.lookup y≠_;rw[k];decide)] at q;exact q
 .exact e0.hok.fresh (Ur (x.above y c (TR h)))
 .unfold start
  show _=N.length;rw[Vv,R4,List.length_replicate]
  lia
def zce{CX:GF}{P:RC}{w:RX}{K:Frag}{mg:Str->Option Re}{base:Heap}{k:Nat}{f:Addr}{name qual:Str}{params:Arguments}{body:List Stmt}{scope:TU}{dV kV doc pm HG ct oc:Re}{an od:Option Addr}
  {osl:Array (Option Re)}{N ps:List Str}{sp:Sp} (lk:K.lookup f=Iv ⟨oc,od,.func (SE name qual params body scope dV kV doc pm an HG ct),osl⟩) (hcd:UU K HG qual=KN) (S:DP N ps scope)
  (len:∀vs H Q E,sp vs H Q E->vs.length=ps.length)
  (JF:∀(A:R9) (outer:List Env) (s:Rj) (H:Hp) (vs:List V) (Q:VK) (E:XK),JL k (A.deeper (U9 qual scope s.heap.objs.size f HG))->sp vs H Q E ->
   ∃t,Jx (fM CX P w K mg base N qual scope f HG A outer s H E) body t/\t { nx:=λ_ H'=>Q .non H',rt:=Q } (start N vs) H) :
  Ft P w K mg base CX (k+1) f (SE name qual params body scope dV kV doc pm an HG ct) ps sp:=by
 refine⟨len,λA outer s H args us vs Q E hr e0 hb r KC=>?_⟩;have hl:=len _ _ _ _ KC;have KX:=e0.mod.kin.keeps λb o e=>(e0.bs b o e).1;have lim:=e0.mod.nolimit.keeps λb o e=>(e0.bs b o e).1
 have Fi:∀y∈ps.zip us,scope.names.lookup y.1=Iv .local\/(scope.names.lookup y.1=Iv .cell/\((Zy (s.heap.objs.size+1) _ []).lookup y.1).isSome=KN):=λ⟨n,v⟩ hy=>by
  rcases S.par n (WG hy).1 with q|q
  .exact .inl q
  .exact .inr ⟨q,Wp _ _ _ (.inl q)⟩
 refine codeAny_call_function hr.depth (KX _ _ lk) rfl S.co S.gen rfl (PySem.W.codeRec_of KX hcd) (hb _ _ _ _ ?_);refine wpAny_newFunctionEnv_cells S.kind Fi λenv he s1 x=>?_;subst he;refine⟨lim.keeps x.toInCall.keep,codeAny_func ?_⟩;obtain⟨t,ht,hq⟩:=JF A _ s H vs Q E (hr.deeper _) KC;have I:Inv (fM CX P w K mg base N qual _ f HG A _ s H E) [] _ H s1:=zcd S hr.hd e0 hl r x;refine S5 (ht [] s1 _ H _ I hq) (λfl s' hs=>?_) λe s' hs=>hs
 have fin:∀{σ':St}{H':Hp}{v:V}{u:Re},Inv (fM CX P w K mg base N qual scope f HG A outer s H E) [] σ' H' s'->RelV v u->Q v H'->CE _ P w H s Q u s':=
  λ{σ' H' v u} J rv q=>⟨v,H',J.os,J.bare,J.base,J.hok,rv,q⟩
 cases fl with
 |ret u=>
  obtain⟨v,σ',H',J,rv,q⟩:=hs;exact fin J rv q
 |next=>
  obtain⟨σ',H',J,q⟩:=hs;exact fin (v:=V.non)  J rfl q
 |brk=>
  obtain⟨_,_,_,q⟩:=hs<;>simp_all
 |cont=>
  obtain⟨_,_,_,q⟩:=hs<;>simp_all
section
variable {X:Cx}{x:Str}{p pos:Pos}{e:Expr}{es:List Expr}{t:TA}{id T:String}{r:List V->Hp->VK->Prop}
def xD(r:List V->Hp->VK->Prop)(t:TA):TE:=λσ H Q=>t σ H λvs H1=>r vs H1 Q
def lY(hc:Fh X (.builtin id) r)(hg:Gl X x)(hm:X.mg x=LG)(hv:Te x=Iv (.builtin id))(ha:PA X (e::es) t)(hn:autoParam (x≠"__name__") u11)(E2:autoParam ((x == ("__debug__" : Str))=Lf) u11)
  (he:autoParam (Rk (e::es) X.env=(Lf,eval e X.env)::Rk es X.env) u10) (Mh:autoParam ((R6 pos (Rk es X.env)).any (·.1)=Lf) u10):PE X (.Call (.Name x p) (e::es) [] pos) (xD r t):=by
 intro pins s σ H Q I h;refine Ua (ki I hg hm hv ?_ hn E2);exact Va (JI (ha pos pins s σ H _ I h) λus s1 ⟨vs,H1,I1,r1,q1⟩=>hc pins s1 σ H1 vs us Q I1 r1 q1) he Mh
def rW(hc:Fh X (.type T) r)(hg:Gl X x)(hm:X.mg x=LG)(hv:Te x=Iv (.type T))(ha:PA X (e::es) t)(hn:autoParam (x≠"__name__") u11)(E2:autoParam ((x == ("__debug__" : Str))=Lf) u11)
  (he:autoParam (Rk (e::es) X.env=(Lf,eval e X.env)::Rk es X.env) u10) (Mh:autoParam ((R6 pos (Rk es X.env)).any (·.1)=Lf) u10):PE X (.Call (.Name x p) (e::es) [] pos) (xD r t):=by
 intro pins s σ H Q I h;refine Ua (ki I hg hm hv ?_ hn E2);exact Uk (JI (ha pos pins s σ H _ I h) λus s1 ⟨vs,H1,I1,r1,q1⟩=>hc pins s1 σ H1 vs us Q I1 r1 q1) he Mh
end
end L2
namespace HT
open PySem PyProof.Rows
section
variable {prog:RC}{w:RX}{A:R9}{E:Re->Rj->Prop}{s:Rj}
def zcf(ht:YH s.heap t vs.toArray)(hb:YH s.heap b ws.toArray)(hv:vs≠[])
  (h1:ws=[]->Q (.ref t) s) (h2:ws≠[]->Q (.ref s.heap.objs.size) { s with heap:=s.heap.push { cls:=.type "tuple",data:=.seq (vs++ws).toArray } })
  (hsz:vs.length+ws.length<=Rp):RP (RM prog w) A (SX .Add (.ref t) (.ref b)) Q E s:=by
 obtain⟨⟨cls,dd,data,sl⟩,ho,hc,n,hd⟩:=id ht;obtain⟨⟨DR,JD,data2,MR⟩,Kc,JY,n2,hd2⟩:=id hb;subst hc hd JY hd2
 have e:vs.toArray++ws.toArray=(vs++ws).toArray:=by simp
 by_cases hw:ws=[]
 .exact Wq ⟨_,ho,rfl⟩ ⟨_,Kc,rfl⟩ V3 Xi UV UM (Uy _ _)
   (tuple_addW1 t b _ _ n n2 dd JD sl MR (by simpa using hv) (by simp[hw])) ⟨ho,Kc,h1 hw⟩
 .refine Wq ⟨_,ho,rfl⟩ ⟨_,Kc,rfl⟩ V3 Xi UV UM (Uy _ _)
   (tuple_addW2 t b _ _ n n2 dd JD sl MR (by simpa using hv) (by simp_all) (by omega)) ⟨ho,Kc,?_⟩
  rw[e];exact h2 hw
noncomputable def Jo(n d:Nat):Option Int->Nat
 |none=>d
 |some v=>if v<0 then (v+(n:Int)).toNat else min v.toNat n
def zcg(n d:Nat)(hd:d<=n)(o:Option Int):Jo n d o<=n:=by
 cases o with
 |none=>exact hd
 |some v=>
  show (if v<0 then (v+_).toNat else min _ n)<=n<;>grind
def zua(v:Int)(n d:Nat):(if v<0 then max (v+(n:Int)) 0 else min v (n:Int))=((Jo n d (Iv v):Nat):Int):=by show _=(((if v<0 then (v+_).toNat else min _ n):Nat):Int)<;>grind
def zch(lo hi:Option Int)(n:Nat):Zc lo hi 1 (n:Int)=(((Jo n 0 lo:Nat):Int),((Jo n n hi:Nat):Int)):=by
 have h1:¬((1:Int)<0):=by lia
 refine Prod.ext ?_ ?_
 .cases lo with
  |none=>rfl
  |some v=>exact zua v n 0
 .cases hi with
  |none=>rfl
  |some v=>exact zua v n n
def zci(i j:Nat):VG (i:Int) (j:Int) 1=j-i:=by unfold VG<;>grind
def zub(p:Wr v o)(h:Q o s):RP (RM prog w) A (Yp v) Q E s:=by
 cases p with
 |none=>exact slicePart_none h
 |int i t=>exact slicePart_int h
def zuc{sl:Addr}{vl vu:Re}{lo hi:Option Int}{n:Nat}{Q:Int×Int×Nat->Rj->Prop}(hs:s.heap.IsSliceOf sl vl vu .none)(pl:Wr vl lo)(pu:Wr vu hi)
  (h:Q (((Jo n 0 lo:Nat):Int),1,Jo n n hi-Jo n 0 lo) s):RP (RM prog w) A (YM (.ref sl) (pure (n:Int))) Q E s:=by
 obtain⟨os,JH,Kl,H8⟩:=id hs;refine Rr (Rr (Yl JH H8 (x:=vl) rfl (Rr (Yl JH H8 (x:=vu) rfl (Rr (Yl JH H8  rfl (Rx ?_)))))));refine Rr (slicePart_none ?_);refine Rr (zub pl (Rr (zub pu (Rr (Rx ?_)))))
 simp_all
 rw[zch lo hi n];rw[zci];exact Rx h
def zcj(xs:Array Re)(i k:Nat):((SH k).filterMap λ(m:Nat)=>xs[((i:Int)+(m:Int)*1).toNat]?).toArray=((xs.toList.drop i).take k).toArray:=by
 have e:(λ(m:Nat)=>xs[((i:Int)+(m)*1).toNat]?)=λm=>xs[i+m]?:=by grind
 rw[e];have:=pick_run xs i k
 have e2:(_ ∘ λx=>i+x)=λm=>xs[i+m]?:=rfl<;>simp_all
def zck{t sl:Addr}{items:Array Re}{vl vu:Re}{lo hi:Option Int}{Q:Re->Rj->Prop}(ht:YH s.heap t items)(hs:s.heap.IsSliceOf sl vl vu .none)(pl:Wr vl lo)(pu:Wr vu hi)
  (hw:¬(Jo items.size 0 lo=0/\Jo items.size items.size hi=items.size))
  (h:Q (.ref s.heap.objs.size) { s with heap:=s.heap.push { cls:=.type "tuple",data:=.seq ((items.toList.drop (Jo items.size 0 lo)).take (Jo items.size items.size hi-Jo items.size 0 lo)).toArray } })
  (hsz:items.size<=Rp):RP (RM prog w) A (Ve (.ref t) (.ref sl)) Q E s:=by
 have K2:sizeOk (.seq ((items.toList.drop (Jo items.size 0 lo)).take (Jo items.size items.size hi-Jo items.size 0 lo)).toArray):=by
  show ((items.toList.drop (Jo items.size 0 lo)).take (Jo items.size items.size hi-Jo items.size 0 lo)).toArray.size<=Rp;rw[Sw,Tv,Tc,SJ];omega
 have hj:Jo items.size items.size hi<=items.size:=zcg _ _ (Rn _) hi;obtain⟨os,JH,Kl,H8⟩:=id hs;have xu:s.TypeIs (.ref sl) "slice":=⟨os,JH,Kl⟩;unfold Ve
 try with_reducible refine Tu ?_
 first|refine Rr (Rx ?_)|skip
 refine Rr (XA ht.typeIs (rfl) ?_)
 refine Rr (V4 (name:=Rb "__getitem__") ht.typeIs Si
  (V5 Si ht.typeIs W7 ?_ (Xq _ _)))
 show RP _ _ (Vx (.ref t) >>= _) _ _ s;refine Rr (Xj ht ?_);refine Rr (XB xu ?_);rw[if_pos (by rfl)];refine Rr (zuc hs pl pu ?_)
 have Hs:¬((((Jo items.size 0 lo:Nat):Int) == 0&&(1:Int) == 1&&(Jo items.size items.size hi-Jo items.size 0 lo) == items.size)=KN):=by simp_all
 show RP _ _ (if (((Jo items.size 0 lo:Nat):Int) == 0&&(1:Int) == 1&&(Jo items.size items.size hi-Jo items.size 0 lo) == items.size)=KN then _ else _) _ _ s;rw[if_neg Hs,zcj]
 first
  |exact Rr (m:=Tg _) (S7 (Rx ⟨_,rfl,Rx h⟩) K2)
  |grind
  |exact Rr (Rr (m:=Tg _) (S7 (Rx (Rx ⟨_,rfl,Rx h⟩)) K2))
  |exact Rr (Rr (m:=Tg _) (S7 (Rx ⟨_,rfl,Rx h⟩) K2))
end
end HT
namespace L2
abbrev TO:=St->Hp->(Option Int->Hp->Prop)->Prop
def PO(X:Cx)(e:Option Expr)(t:TO):Prop:=
 ∀(pins:List (Addr×Obj)) (s:Rj) (σ:St) (H:Hp) (Q:Option Int->Hp->Prop),Inv X pins σ H s->t σ H Q ->
  RP (RM X.prog X.w) X.A (evalPart e X.env) (λu s'=>∃o H',Inv X pins σ H' s'/\Wr u o/\Q o H') X.xe s
def G8:TO:=λ_ H Q=>Q LG H
def Lv(t:TE):TO:=λσ H Q=>t σ H λx H1=>∃i,x=.int i/\Q (Iv i) H1
section
variable {X:Cx}{e:Expr}{te:TE}{lo hi:Option Expr}{tl th:TO}{pos p2:Pos}
def zcl:PO X LG G8:=by
 intro pins s σ H Q I h;exact Rx ⟨LG,H,I,.none,h⟩
def zcm(h:PE X e te):PO X (Iv e) (Lv te):=by
 intro pins s σ H Q I hw;refine JI (h pins s σ H _ I hw) λu s1 ⟨x,H1,I1,r1,q1⟩=>?_;obtain⟨i,rfl,q⟩:=q1;obtain⟨t,rfl⟩:=r1;exact⟨Iv i,H1,I1,.int i t,q⟩
def Kw(X:Cx)(r:V->Option Int->Option Int->Hp->VK->Prop):Prop:=
 ∀(pins:List (Addr×Obj)) (s:Rj) (σ:St) (H:Hp) (x:V) (v vl vu:Re) (lo hi:Option Int) (sl:Addr) (Q:VK),Inv X pins σ H s->RelV x v->s.heap.IsSliceOf sl vl vu .none->Wr vl lo->Wr vu hi->r x lo hi H Q ->
  ∃T id,typeLookup (.type T) "__getitem__"=pure (Iv (.builtin id))/\s.TypeIs v T/\RP (RM X.prog X.w) X.A (Ve v (.ref sl)) (EP X pins σ Q) X.xe s
def Kw.or(h:Kw X r)(h':Kw X r'):Kw X (λx lo hi H Q=>r x lo hi H Q\/r' x lo hi H Q):=by
 intro pins s σ H x v vl vu lo hi sl Q I rx hs pl pu q
 rcases q with q|q
 .exact h pins s σ H x v vl vu lo hi sl Q I rx hs pl pu q
 .exact h' pins s σ H x v vl vu lo hi sl Q I rx hs pl pu q
def tSl(r:V->Option Int->Option Int->Hp->VK->Prop)(te:TE)(tl th:TO):TE:=λσ H Q=>te σ H λx H1=>tl σ H1 λl H2=>th σ H2 λu H3=>r x l u H3 Q
def zcn(hr:Kw X r)(he:PE X e te)(hl:PO X lo tl)(hu:PO X hi th):PE X (.Subscript e (.Slice lo hi LG p2) pos) (tSl r te tl th):=by
 intro pins s σ H Q I h;refine YN (JI (he pins s σ H _ I h) λv s1 ⟨x,H1,I1,r1,q1⟩=>?_);refine wpAny_Slice (JI (hl pins s1 σ H1 _ I1 q1) λvl s2 ⟨l,H2,I2,pl,q2⟩=>JI (hu pins s2 σ H2 _ I2 q2) λvu s3 ⟨u,H3,I3,pu,q3⟩=>?_);refine Rx ?_;have I4:Inv X pins σ H3 { s3 with heap:=s3.heap.push { cls:=.type "slice",data:=.fields #[vl,vu,.none] } }:=I3.kept  λb ob q=>Ri _ q;obtain⟨T,id,hT,ht,hg⟩:=hr pins { s3 with heap:=s3.heap.push { cls:=.type "slice",data:=.fields #[vl,vu,.none] } } σ H3 x v vl vu l u _ Q I4 r1 (Z4 ..) pl pu q3;exact tail_any  ht hT hg (rfl)
def jA(xs:List V)(lo hi:Option Int):List V:=(xs.drop (HT.Jo xs.length 0 lo)).take (HT.Jo xs.length xs.length hi-HT.Jo xs.length 0 lo)
def zud(xs:List V)(lo hi:Option Int):(jA xs lo hi).length<=xs.length:=by
 unfold jA
 simp_all
 lia
def MN(K:Frag):V->Option Int->Option Int->Hp->VK->Prop:=λx lo hi H Q=>∃a xs,x=.ref a/\Fy K H a xs /\
 ¬(HT.Jo xs.length 0 lo=0/\HT.Jo xs.length xs.length hi=xs.length)/\∀p,H p=LG->Q (.ref p) (upd H p (.tup (jA xs lo hi)))
def zco:Kw X (MN X.K):=by
 intro pins s σ H x v vl vu lo hi sl Q I rx hs pl pu h;obtain⟨a,xs,rfl,hx,hw,q⟩:=h;cases rx;obtain⟨ED,r,ht,hz⟩:=I.tuple hx
 have JW:ED.toArray.size=xs.length:=by exact r.length.symm
 refine⟨"tuple",_,Si.lookup,ht.typeIs,?_⟩;refine HT.zck ht hs pl pu (by rw[JW];exact hw) ?_ (by rw[JW];exact hz);rw[JW];refine⟨.ref _,_,I.laid   (λb ob q=>Ri _ q) (Rn _) ?_,rfl,q _ (I.hok.fresh (Rn _))⟩;exact⟨RL (zud xs lo hi) hz,_,(r.drop _).take _,W5 _ _⟩
def LN(K:Frag):R2:=λx y H Q=>∃a b xs ys,x=.ref a/\y=.ref b/\Fy K H a xs/\Fy K H b ys/\xs≠[]/\xs.length+ys.length<=Rp /\
 (ys=[]->Q (.ref a) H)/\(ys≠[]->∀p,H p=LG->Q (.ref p) (upd H p (.tup (xs++ys))))
def L7.nil_iff(r:L7 xs us):us=[]↔xs=[]:=by cases r <;>simp_all
def zcp:Fo X (SX .Add) (LN X.K):=by
 intro pins s σ H x y v u Q I rx ry h;obtain⟨a,b,xs,ys,rfl,rfl,ha,hb,hx,hz,q1,q2⟩:=h;cases rx;cases ry;obtain⟨ED,r1,p1,_⟩:=I.tuple ha;obtain⟨K8,r2,p2,_⟩:=I.tuple hb;refine HT.zcf p1 p2 (λz=>hx (r1.nil_iff.mp z)) (λz=>⟨.ref a,H,I,rfl,q1 (r2.nil_iff.mp z)⟩) (λz=>?_) (by rw[←r1.length,←r2.length];exact hz);refine⟨.ref _,_,I.laid   (λb ob q=>Ri _ q) (Rn _) ?_,rfl,q2 (λw=>z (r2.nil_iff.mpr w)) _ (I.hok.fresh (Rn _))⟩;exact⟨by simp_all,_,r1.append r2,W5 _ _⟩
end
noncomputable def L5(n:Nat)(i:Int):Option Nat:=if 0<=i then (if i<n then Iv i.toNat else LG) else if -(n:Int)<=i then Iv (i+n).toNat else LG
def L1{α:Type}(xs:List α)(i:Int):Option α:=(L5 xs.length i).bind λj=>xs[j]?
def zue{n:Nat}{i:Int}{j:Nat}(h:L5 n i=Iv j):X6 i n=Iv j/\j<n/\-(n:Int)<=i/\i<n:=by
 unfold L5 at h
 by_cases h0:0<=i
 .rw[if_pos h0] at h
  by_cases h1:i<n
  .rw[if_pos h1] at h
   have e:=SA h;exact⟨by rw[Ym h0 h1,e],by lia,by lia,h1⟩
  .simp_all
 .rw[if_neg h0] at h
  by_cases h1 : -(n)<=i
  .rw[if_pos h1] at h
   have e:=SA h;exact⟨by rw[XC (by lia) h1,e],by lia,h1,by lia⟩
  .simp_all
def tS{α:Type}{xs:List α}{i:Int}{v:α}(h:L1 xs i=Iv v):∃j,X6 i xs.length=Iv j/\xs[j]? = Iv v/\j<xs.length/\-(xs.length:Int)<=i/\i<xs.length:=by
 unfold L1 at h
 cases e:L5 xs.length i with
 |none=>simp_all
 |some j=>
  rw[e] at h;obtain⟨h1,h2,h3,h4⟩:=zue e;exact⟨j,h1,h,h2,h3,h4⟩
def qb{α:Type}{xs:List α}{j:Nat}{v:α}(h:xs[j]? = Iv v):L1 xs (j:Int)=Iv v:=by
 have hj:=(Rh.mp h).1
 have e:L5 xs.length (j)=Iv j:=by
  unfold L5<;>simp_all
 unfold L1;rw[e];exact h
def mG(b:Expr):Prop:=∀o i,VO b Lf o i=operate [o,i] (Ve o i)
def IJ(X:Cx)(r:R2):Prop:=
 ∀(value slice:Expr) (pins:List (Addr×Obj)) (s:Rj) (σ:St) (H:Hp) (x y:V) (v u:Re) (Q:VK),Inv X pins σ H s->RelV x v->RelV y u->r x y H Q ->
  VO slice Lf v u=operate [v,u] (Ve v u)->RP (RM X.prog X.w) X.A (subscriptTail value slice v u) (EP X pins σ Q) X.xe s
def Hb(X:Cx)(id:String)(r:V->List V->Hp->VK->Prop):Prop:=
 ∀(pins:List (Addr×Obj)) (s:Rj) (σ:St) (H:Hp) (x:V) (xs:List V) (v:Re) (us:List Re) (Q:VK),Inv X pins σ H s->RelV x v->L7 xs us->r x xs H Q ->
  RP (RM X.prog X.w) X.A (call (.builtin id) (v::us)) (EP X pins σ Q) X.xe s
section
variable {X:Cx}{a b:Expr}{ta tb:TE}{pos:Pos}
def IJ.or(h:IJ X r)(h':IJ X r'):IJ X (λx y H Q=>r x y H Q\/r' x y H Q):=by
 intro value slice pins s σ H x y v u Q I rx ry q hs
 rcases q with q|q
 .exact h _ _ pins s σ H x y v u Q I rx ry q hs
 .exact h' _ _ pins s σ H x y v u Q I rx ry q hs
def mZ(hr:IJ X r)(ha:PE X a ta)(hb:PE X b tb)(hs:mG b):PE X (.Subscript a b pos) (MS r ta tb):=by
 intro pins s σ H Q I h;exact YN (vd ha hb I h λv u s2 x y H2 I2 rx ry q=>hr a b pins s2 σ H2 x y v u Q I2 rx ry q (hs _ _))
def B7(K:Frag):R2:=λx y H Q=>∃p xs i v,x=.ref p/\y=.int i/\Jr K H p xs/\L1 xs i=Iv v/\Q v H
def B5(K:Frag):R2:=λx y H Q=>∃p xs i v,x=.ref p/\y=.int i/\Fy K H p xs/\L1 xs i=Iv v/\Q v H
def B6:R2:=λx y H Q=>∃z i c,x=.str z/\y=.int i/\z.length<=Rp/\L1 z.cps.toList i=Iv c/\Q (.str ⟨#[c]⟩) H
def Ew:IJ X (B7 X.K):=by
 intro value slice pins s σ H x y v u Q I rx ry h hs;obtain⟨p,xs,i,z,rfl,rfl,hq,he,q⟩:=h;cases rx;obtain⟨t,rfl⟩:=ry;obtain⟨ED,r,pl,hz⟩:=I.list hq;obtain⟨j,h1,h2,h3,h4,h5⟩:=tS he;obtain⟨w,ew,Kq⟩:=r.get h2;have hl:=r.length;have hn:=jb;have fin:EP X pins σ Q w s:=⟨z,H,I,Kq,q⟩
 by_cases h0:0<=i
 .have hj:i.toNat=j:=by
   rw[Ym h0 h5] at h1<;>simp_all
  exact item_listR pl.isList h0 (by lia) (by rw[hj];simpa using ew) fin hs
 .have hj:(i+(ED.toArray.size)).toNat=j:=by
   rw[XC (by lia) h4] at h1<;>simp_all
  exact Ws  pl.isList.typeIs XD.lookup
   (wpAny_getItem_list_neg  pl.isList (by lia) (by grind) (by lia) (by rw[hj];simpa using ew) ⟨rfl,fin⟩) hs
def zxg:IJ X (B5 X.K):=by
 intro value slice pins s σ H x y v u Q I rx ry h hs;obtain⟨p,xs,i,z,rfl,rfl,hq,he,q⟩:=h;cases rx;obtain⟨t,rfl⟩:=ry;obtain⟨ED,r,pl,hz⟩:=I.tuple hq;obtain⟨j,h1,h2,h3,h4,h5⟩:=tS he;obtain⟨w,ew,Kq⟩:=r.get h2;have hl:=r.length;have hn:=jb;have fin:EP X pins σ Q w s:=⟨z,H,I,Kq,q⟩
 exact Ws  pl.typeIs slot_tuple_getitem.lookup
  (getItem_tuple (j:=j)  pl (by lia) (by lia) (by simp_all) (by simpa using ew) ⟨rfl,fin⟩) hs
def zcq:IJ X B6:=by
 intro value slice pins s σ H x y v u Q I rx ry h hs;obtain⟨z,i,c,rfl,rfl,hz,he,q⟩:=h;obtain⟨t,rfl⟩:=rx;obtain⟨t',rfl⟩:=ry;obtain⟨j,h1,h2,h3,h4,h5⟩:=tS he;have hl:z.cps.toList.length=z.length:=rfl;rw[hl] at h1 h4 h5;have hn:=jb;exact tail_any (Vb s z t) slot_str_getitem.lookup (getItem_str (c:=c) (by lia) (by rw[h1];simpa using h2) ⟨.str ⟨#[c]⟩,H,I.tok _,⟨_,rfl⟩,q⟩) hs
def rIx(K:Frag):R2:=λx y H Q=>B7 K x y H Q\/B5 K x y H Q\/B6 x y H Q
def zuf:IJ X (rIx X.K):=Ew.or (zxg.or zcq)
def zcr(ED:List Re)(n j:Nat)(u:Re):YO (·.setIfInBounds j u) { cls:=.type "list",data:=.seq ED.toArray n } = { cls:=.type "list",data:=.seq (ED.set j u).toArray n }:=by simp[YO]
theorem Inv.lst(I:Inv X pins σ H s)(h:H p=Iv (.lst xs)) :
  ∃(ED:List Re) (n:Nat),L7 xs ED/\s.heap.get? p=Iv { cls:=.type "list",data:=.seq ED.toArray n }/\xs.length<=sizeLine:=by
 obtain⟨z,ED,n,r,e⟩:=I.hok p _ h;exact⟨ED,n,r,e,z⟩
def Inv.lstUpd{s:Rj}{xs ys:List V}{ED JC:List Re}{f:Obj->Obj}(I:Inv X pins σ H s)(h:H p=Iv (.lst xs))
  (ho:s.heap.get? p=Iv { cls:=.type "list",data:=.seq ED.toArray n }) (hf:f { cls:=.type "list",data:=.seq ED.toArray n } = { cls:=.type "list",data:=.seq JC.toArray n' }) (r:L7 ys JC) (hz:ys.length<=Rp) (t:Nat) :
  Inv X pins σ (upd H p (.lst ys)) { s with heap:=s.heap.update p f,toks:=t }:=by
 have e:(s.heap.update p f).get? p=Iv { cls:=.type "list",data:=.seq JC.toArray n' }:=by
  rw[Heap.get?_update_self f ho (by rw[hf] <;> rfl),hf]
 refine I.write   (by rw[h];trivial) (.inl rfl) (λb u hb q=>(Wt _ _ (Tn hb)).trans q) ⟨_,e⟩ ?_;exact⟨hz,JC,n',r,e⟩
def LM:V->V->V->Hp->(Hp->Prop)->Prop:=λo i v H Q=>∃p xs k j,o=.ref p/\i=.int k/\H p=Iv (.lst xs)/\L5 xs.length k=Iv j/\Q (upd H p (.lst (xs.set j v)))
def set_list:Cr X LM:=by
 intro pins s σ H o i v ov iv u Q I ro ri rv h;obtain⟨p,xs,k,j,rfl,rfl,hp,hj,q⟩:=h;cases ro;obtain⟨t,rfl⟩:=ri;obtain⟨ED,n,r,ho,hz⟩:=I.lst hp;obtain⟨h1,h2,h3,h4⟩:=zue hj;have hl:=r.length;have hn:=jb
 have I'  :=
  I.lstUpd hp ho (zcr ED n j u) (r.set rv j) (by simp_all) s.toks
 by_cases h0:0<=k
 .have hk:k.toNat=j:=by
   rw[Ym h0 h4] at h1<;>simp_all
  exact PySem.W.ki_setAt ho h0 (by omega) (by simp_all) (by rw[hk];exact⟨_,I',q⟩)
 .have hk:(k+(ED.toArray.size)).toNat=j:=by
   rw[XC _ h3] at h1<;>simp_all
  exact PySem.W.ki_setBack ho (by omega) (by simp_all) (by omega) (by rw[hk];exact⟨_,I',q⟩)
def zcs(lo hi:Option Int)(n:Nat):(UN lo hi LG n).1=((HT.Jo n 0 lo:Nat):Int)/\(UN lo hi LG n).2.1=((HT.Jo n n hi:Nat):Int)/\(UN lo hi LG n).2.2=1:=by
 refine⟨?_,?_,rfl⟩
 .cases lo with
  |none=>kernel_rfl
  |some i=>
   simp only[UN,HT.Jo,V6,show (1:Int)>0 by decide,if_true]
   by_cases h:i<0
   .simp only[h,if_true] <;> lia
   .simp only[h,if_false] <;> lia
 .cases hi with
  |none=>kernel_rfl
  |some i=>
   simp only[UN,HT.Jo,V6,show (1:Int)>0 by decide,if_true]
   by_cases h:i<0
   .simp only[h,if_true] <;> lia
   .simp only[h,if_false] <;> lia
def zct(ED:List Re)(lo hi:Option Int):slicePick ED.toArray lo hi LG=((ED.drop (HT.Jo ED.length 0 lo)).take (HT.Jo ED.length ED.length hi-HT.Jo ED.length 0 lo)).toArray:=by
 obtain⟨h1,h2,h3⟩:=zcs lo hi _;unfold slicePick;rw[h1,h2,h3]
 simp only[sliceRange_one,pick_run] <;> rfl
def MO(K:Frag):V->Option Int->Option Int->Hp->VK->Prop:=λx lo hi H Q=>∃a xs,x=.ref a/\Jr K H a xs/\∀p,H p=LG->Q (.ref p) (upd H p (.lst (jA xs lo hi)))
def zxh:Kw X (MO X.K):=by
 intro pins s σ H x v vl vu lo hi sl Q I rx hs pl pu h;obtain⟨a,xs,rfl,hx,q⟩:=h;cases rx;obtain⟨ED,r,ht,hz⟩:=I.list hx;have JW:=r.length;refine⟨"list",_,XD.lookup,ht.isList.typeIs,?_⟩;refine wpAny_getItem_list_slice ht.isList hs pl pu .none (by simp) ?_ (by simp_all);rw[zct,←JW];refine⟨.ref _,_,I.laid   (λb ob q=>Ri _ q) (Rn _) ?_,rfl,q _ (I.hok.fresh (Rn _))⟩;exact⟨RL (zud xs lo hi) hz,_,0,(r.drop _).take _,RA _ rfl⟩
def gi:V->Bool
 |.non=>KN
 |.bl _=>KN
 |.int _=>KN
 |.str _=>KN
 |_=>Lf
noncomputable def Dp:V->V->Bool
 |.non,.non=>KN
 |.bl a,.bl b=>a == b
 |.bl a,.int b=>(if a then 1 else 0) == b
 |.int a,.bl b=>a == (if b then 1 else 0)
 |.int a,.int b=>a == b
 |.str a,.str b=>a == b
 |_,_=>Lf
def zcu(ry:RelV y u)(rx:RelV x v)(fy:gi y=KN)(fx:gi x=KN):Z5 A s u v (Dp y x):=by
 cases y with
 |non=>
  cases ry
  cases x with
  |non=>cases rx;exact Yq _
  |bl b=>cases rx;exact SeqAt.EqAt.none_bool b
  |int b=>obtain⟨t,rfl⟩:=rx;exact W8 b t
  |str b=>obtain⟨t,rfl⟩:=rx;exact W9 b t
  |_=>exact absurd (show Lf=KN from fx) RI
 |bl a=>
  cases ry
  cases x with
  |non=>cases rx;exact SeqAt.EqAt.bool_none a
  |bl b=>cases rx;exact SeqAt.EqAt.bool_bool a b
  |int b=>obtain⟨t,rfl⟩:=rx;exact SeqAt.EqAt.bool_int a b t
  |str b=>obtain⟨t,rfl⟩:=rx;exact SeqAt.EqAt.bool_str a b t
  |_=>exact absurd (show Lf=KN from fx) RI
 |int a=>
  obtain⟨t',rfl⟩:=ry
  cases x with
  |non=>cases rx;exact Xa a t'
  |bl b=>cases rx;exact SeqAt.EqAt.int_bool a t' b
  |int b=>obtain⟨t,rfl⟩:=rx;exact SeqAt.EqAt.int_int a t' b t
  |str b=>obtain⟨t,rfl⟩:=rx;exact Vo a t' b t
  |_=>exact absurd (show Lf=KN from fx) RI
 |str a=>
  obtain⟨t',rfl⟩:=ry
  cases x with
  |non=>cases rx;exact Xb a t'
  |bl b=>cases rx;exact SeqAt.EqAt.str_bool a t' b
  |int b=>obtain⟨t,rfl⟩:=rx;exact Vp a t' b t
  |str b=>obtain⟨t,rfl⟩:=rx;exact SeqAt.EqAt.str_str a t' b t
  |_=>exact absurd (show Lf=KN from fx) RI
 |_=>exact absurd (show Lf=KN from fy) RI
def EG(x:V)(u:Re):Bool:=match u with
 |.none=>Dp .non x
 |.bool b=>Dp (.bl b) x
 |.int i _=>Dp (.int i) x
 |.str z _=>Dp (.str z) x
 |_=>Lf
def zug(r:RelV y u)(f:gi y=KN):EG x u=Dp y x:=by
 cases y with
 |non=>cases r;rfl
 |bl b=>cases r;rfl
 |int i=>obtain⟨t,rfl⟩:=r;rfl
 |str z=>obtain⟨t,rfl⟩:=r;rfl
 |_=>exact absurd (f) RI
theorem mF:∀{xs:List V}{us:List Re},L7 xs us->xs.all gi=KN->us.any (EG x)=xs.any λy=>Dp y x
 |_,_,.nil,_=>rfl
 |y::xs,u::us,.cons r t,f=>by
  rw[Ui,Ro] at f;rw[Uj,Uj,zug r f.1,mF t f.2]
theorem lZ(rx:RelV x v)(fx:gi x=KN):∀{xs:List V}{us:List Re},L7 xs us->xs.all gi=KN->∀u∈us,Z5 A s u v (EG x u)
 |_,_,.nil,_=>λu hu=>by simp_all
 |y::xs,u::us,.cons r t,f=>λu' hu=>by
  rw[Ui,Ro] at f
  rcases Ru.mp hu with rfl|hu
  .rw[zug r f.1];exact zcu r rx f.1 fx
  .exact lZ rx fx t f.2 u' hu
def Dl(x:V)(xs:List V):Bool:=xs.any λy=>Dp y x
def zv(K:Frag)(neg:Bool):R2:=λx y H Q=>∃p xs,y=.ref p/\(Jr K H p xs\/Fy K H p xs)/\gi x=KN/\xs.all gi=KN/\Q (.bl (if neg then !Dl x xs else Dl x xs)) H
def zuh:Fo X (RB .In) (zv X.K Lf):=by
 intro pins s σ H x y v u Q I rx ry h;obtain⟨p,xs,rfl,hq,fx,fs,q⟩:=h;cases ry
 rcases hq with hq|hq
 .obtain⟨ED,r,pl,hz⟩:=I.list hq
  refine SeqAt.in_listAt _ pl.isList (λw hw=>lZ rx fx r fs w (by simp_all)) ⟨.bl _,H,I,rfl,?_⟩;rw[show ED.toArray.any _=ED.any (EG x) by simp,mF r fs];exact q
 .obtain⟨ED,r,pl,hz⟩:=I.tuple hq
  refine X7 _ pl (λw hw=>lZ rx fx r fs w (by simp_all)) ⟨.bl _,H,I,rfl,?_⟩;rw[show ED.toArray.any _=ED.any (EG x) by simp,mF r fs];exact q
def zui:Fo X (RB .NotIn) (zv X.K KN):=by
 intro pins s σ H x y v u Q I rx ry h;obtain⟨p,xs,rfl,hq,fx,fs,q⟩:=h;cases ry
 rcases hq with hq|hq
 .obtain⟨ED,r,pl,hz⟩:=I.list hq
  refine Xr _ pl.isList (λw hw=>lZ rx fx r fs w (by simp_all)) ⟨.bl _,H,I,rfl,?_⟩;rw[show ED.toArray.any _=ED.any (EG x) by simp,mF r fs];exact q
 .obtain⟨ED,r,pl,hz⟩:=I.tuple hq
  refine SeqAt.notIn_tupleAt _ pl (λw hw=>lZ rx fx r fs w (by simp_all)) ⟨.bl _,H,I,rfl,?_⟩;rw[show ED.toArray.any _=ED.any (EG x) by simp,mF r fs];exact q
def zxi:Fh X (.builtin "len") (λxs H Q=>∃p ys,xs=[.ref p]/\(Jr X.K H p ys\/Fy X.K H p ys)/\Q (.int ys.length) H):=by
 intro pins s σ H xs us Q I r h;obtain⟨p,ys,rfl,hq,q⟩:=h;obtain⟨u,rfl,rx⟩:=vals1 r;cases rx;have hn:=jb
 rcases hq with hq|hq
 .obtain⟨ED,r',pl,hz⟩:=I.list hq
  have JW:=r'.length;exact Calls.call_len_list pl.isList (by simp only[Sw] <;> lia) ⟨.int _,H,I.tok _,⟨s.toks+1,by simp_all⟩,q⟩
 .obtain⟨ED,r',pl,hz⟩:=I.tuple hq
  have JW:=r'.length;exact len_tuple pl (by simp only[Sw] <;> lia) ⟨.int _,H,I.tok _,⟨s.toks+1,by simp_all⟩,q⟩
def zxj:Fh X (.builtin "len") (λxs H Q=>∃z,xs=[.str z]/\z.length<=Rp/\Q (.int z.length) H):=by
 intro pins s σ H xs us Q I r h;obtain⟨z,rfl,hz,q⟩:=h;obtain⟨u,rfl,t,rfl⟩:=vals1 r;have hn:=jb;exact len_str (by lia) ⟨.int _,H,I.tok _,⟨_,rfl⟩,q⟩
def Fh.or(h:Fh X f r)(h':Fh X f r'):Fh X f (λxs H Q=>r xs H Q\/r' xs H Q):=by
 intro pins s σ H xs us Q I rs q
 rcases q with q|q
 .exact h pins s σ H xs us Q I rs q
 .exact h' pins s σ H xs us Q I rs q
def zxk:Fh X (.type "list") (λxs H Q=>∃p ys,xs=[.ref p]/\(Jr X.K H p ys\/Fy X.K H p ys)/\∀l,H l=LG->Q (.ref l) (upd H l (.lst ys))):=by
 intro pins s σ H xs us Q I r h;obtain⟨p,ys,rfl,hq,q⟩:=h;obtain⟨u,rfl,rx⟩:=vals1 r;cases rx
 have fin:∀(ED:List _),L7 ys ED->ys.length<=Rp->∀(h':Heap) (c':Nat),_ ->
   h'.get? _=Iv { cls:=.type "list",dict:=LG,data:=.seq _ c',slots:=#[] }->EP X pins σ Q _ { s with heap:=h' }:=λED r' hz h' c' kp e=>
  ⟨.ref _,_,I.laid  kp (Rn _) (show Fs _ X.w _ h' _ (.lst ys) from⟨hz,ED,c',r',e⟩),rfl,q _ (I.hok.fresh (Rn _))⟩
 rcases hq with hq|hq
 .obtain⟨ED,r',pl,hz⟩:=I.list hq
  have JW:=r'.length;obtain⟨o,ho,hc,n,hd⟩:=pl.isList;exact call_list_seq p (.inl rfl) ho hc hd (λh' c' kp e=>fin ED r' hz h' c' kp e) (by simp_all)
 .obtain⟨ED,r',pl,hz⟩:=I.tuple hq
  have JW:=r'.length;obtain⟨o,ho,hc,n,hd⟩:=pl;exact call_list_seq p (.inr rfl) ho hc hd (λh' c' kp e=>fin ED r' hz h' c' kp e) (by simp_all)
def zuj:Fh X (.type "tuple") (λxs H Q=>∃p ys,xs=[.ref p]/\((Jr X.K H p ys/\∀l,H l=LG->Q (.ref l) (upd H l (.tup ys)))\/(Fy X.K H p ys/\Q (.ref p) H))):=by
 intro pins s σ H xs us Q I r h;obtain⟨p,ys,rfl,h⟩:=h;obtain⟨u,rfl,rx⟩:=vals1 r;cases rx
 rcases h with⟨hq,q⟩|⟨hq,q⟩
 .obtain⟨ED,r',pl,hz⟩:=I.list hq
  have JW:=r'.length;refine call_tuple_list pl.isList (λh' kp=>?_) (by grind);have I1:=I.kept (t':=s.toks) kp
  have I2  :=
   I1.laid (t':=s.toks) (λb o e=>Ri _ e) (Rn _) (show Fs _ X.w _ _ _ (.tup ys) from⟨hz,ED,r',W5 _ _⟩)
  exact⟨.ref _,_,I2,rfl,q _ (I1.hok.fresh (Rn _))⟩
 .obtain⟨ED,r',pl,hz⟩:=I.tuple hq
  exact call_tuple_same pl ⟨.ref p,H,I,rfl,q⟩
def xF(K:Frag)(T:String)(x:V)(H:Hp):Prop:=match x with
 |.str _=>T="str"
 |.int _=>T="int"
 |.ref p=>(T="list"/\∃xs,Jr K H p xs)\/(T="tuple"/\∃o,K.lookup p=Iv o/\o.cls=.type "tuple"/\o.dict=LG) \/
   (T="dict"/\((∃kvs,H p=Iv (.dK kvs))\/∃kvs,H p=Iv (.dT kvs)))\/(T="set"/\∃S n,H p=Iv (.set S n))
 |_=>False
def qc{pins:List (Addr×Obj)}{σ:St}{H:Hp}{s:Rj}{T:String}{x:V}{v:Re}(I:Inv X pins σ H s)(r:RelV x v)(ty:xF X.K T x H) :
  s.TypeIs v T/\∀a,v=.ref a->∃ob,s.heap.get? a=Iv ob/\ob.dict=LG:=by
 cases x with
 |str z=>
  obtain⟨t,rfl⟩:=r;cases (ty);exact⟨Vb s z t,λ_ e=>nomatch e⟩
 |int i=>
  obtain⟨t,rfl⟩:=r;cases (ty);exact⟨YQ s i t,λ_ e=>nomatch e⟩
 |ref p=>
  cases r
  rcases ty with⟨rfl,xs,hq⟩|⟨rfl,o,hk,hc,hd⟩|⟨rfl,hk⟩|⟨rfl,S,n,hk⟩
  .obtain⟨ED,_,pl,_⟩:=I.list hq
   refine⟨pl.isList.typeIs,λa e=>?_⟩;cases e;obtain⟨o,n,e,c,hd,_⟩:=pl;exact⟨o,e,hd⟩
  .refine⟨⟨o,I.kIn p o hk,hc⟩,λa e=>?_⟩
   cases e;exact⟨o,I.kIn _ o hk,hd⟩
  .have z:∃o,s.heap.get? p=Iv o/\o.ExactDict:=by
    rcases hk with⟨kvs,hk⟩|⟨kvs,hk⟩
    .obtain⟨_,_,_,_,o,_,_,e,ex,_⟩:=I.hok p _ hk
     exact⟨o,e,ex⟩
    .obtain⟨_,_,_,_,o,_,_,e,ex,_⟩:=I.hok p _ hk
     exact⟨o,e,ex⟩
   obtain⟨o,e,ex⟩:=z;refine⟨⟨o,e,ex.1⟩,λa e2=>?_⟩;cases e2;exact⟨o,e,ex.2.1⟩
  .obtain⟨o,_,_,_,e,ex,_⟩:=I.hok p _ hk
   refine⟨⟨o,e,ex.1⟩,λa e2=>?_⟩;cases e2;exact⟨o,e,ex.2.1⟩
 |_=>exact UJ ty
def MK(K:Frag)(T:String)(r:V->List V->Hp->VK->Prop)(to:TE):TE:=λσ H Q=>to σ H λx H1=>xF K T x H1/\r x [] H1 Q
def tBM(K:Frag)(T:String)(r:V->List V->Hp->VK->Prop)(to:TE)(t:TA):TE:=λσ H Q=>to σ H λx H1=>xF K T x H1/\t σ H1 λxs H2=>r x xs H2 Q
variable {o e:Expr}{es:List Expr}{to:TE}{t:TA}{name:Str}{apos cpos:Pos}{T id:String}{r:V->List V->Hp->VK->Prop}
def zcv(pa:YR T)(slot:Slot T name id)(HK:typeOf (.builtin id)=pure (.type "method_descriptor"))(hm:Hb X id r)(ho:PE X o to)
  (Fx:autoParam (Sa o name X.env (eval o X.env)=eval o X.env) u10) (JV:autoParam ((apos.endLine == cpos.line)=KN) u10):PE X (.Call (.Attribute o name apos) [] [] cpos) (MK X.K T r to):=by
 intro pins s σ H Q I h;refine V7 Fx JV (JI (ho pins s σ H _ I h) λv s1 ⟨x,H1,I1,r1,ty,q1⟩=>?_);obtain⟨h1,h2⟩:=qc I1 r1 ty;exact⟨T,id,pa,slot,HK,h1,h2,S8 rfl (Xc (hm pins s1 σ H1 x [] v [] Q I1 r1 .nil q1))⟩
def jk(pa:YR T)(slot:Slot T name id)(HK:typeOf (.builtin id)=pure (.type "method_descriptor"))(hm:Hb X id r)(ho:PE X o to)(ha:PA X (e::es) t)
  (Fx:autoParam (Sa o name X.env (eval o X.env)=eval o X.env) u10)
  (C0:autoParam (cQ8 X (e::es) cpos) u10)
  (JV:autoParam ((apos.endLine == cpos.line)=KN) u10) (hs:autoParam (Rk (e::es) X.env=(Lf,eval e X.env)::Rk es X.env) u10) (Eo:autoParam ((R6 cpos (Rk es X.env)).any (·.1)=Lf) u10) :
  PE X (.Call (.Attribute o name apos) (e::es) [] cpos) (tBM X.K T r to t):=by
 intro pins s σ H Q I h;refine UW Fx C0 JV rfl (JI (ho pins s σ H _ I h) λv s1 ⟨x,H1,I1,r1,ty,q1⟩=>?_);obtain⟨h1,h2⟩:=qc I1 r1 ty;refine⟨T,id,pa,slot,HK,h1,h2,?_⟩;have hA:=ha cpos pins s1 σ H1 _ I1 q1;rw[hs] at hA ⊢;refine S8 (by show (Lf||(R6 cpos _).any _)=Lf;rw[Eo] <;> rfl) (Up ?_);exact JI hA λus s2 ⟨vs,H2,I2,r2,q2⟩=>hm pins s2 σ H2 x vs v us Q I2 r1 r2 q2
end
def B9(X:Cx)(id:String)(r:V->List V->Hp->VK->Prop):Prop:=
 ∀(pins:List (Addr×Obj)) (s:Rj) (σ:St) (H:Hp) (x:V) (xs:List V) (v:Re) (us:List Re) (Q:VK),Inv X pins σ H s->RelV x v->L7 xs us->r x xs H Q ->
  RP (RM X.prog X.w) X.A (call (.builtin id) (v::us)) (EP X pins σ Q) X.xe s
def L7.one:∀{x:V}{us:List Re},L7 [x] us->∃u,us=[u]/\RelV x u
 |_,_,.cons r .nil=>⟨_,rfl,r⟩
def L7.zero:∀{us:List Re},L7 [] us->us=[]
 |_,.nil=>rfl
theorem L7.dropLast(h:L7 xs us):L7 xs.dropLast us.dropLast:=by
 induction h with
 |nil=>exact .nil
 |cons r t ih=>
  cases t with
  |nil=>exact .nil
  |cons q t'=>exact .cons r ih
theorem L7.rep(h:L7 xs us):∀k:Nat,L7 (RQ k xs).flatten (RQ k us).flatten
 |0=>.nil
 |k+1=>by
  exact L7.append h (L7.rep h k)
theorem foldl_rep(ED:List Re):∀(k:Nat) (acc:List Re),
  Wu (λx1 x2=>x1++x2) acc.toArray (RQ k ED.toArray)=(acc++(RQ k ED).flatten).toArray
 |0,acc=>by simp
 |k+1,acc=>by
  have e:acc.toArray++ED.toArray=(acc++ED).toArray:=by simp
  have e2:(acc++ED)++(RQ k ED).flatten=acc++(RQ (k+1) ED).flatten:=by grind
  rw[←e2,←foldl_rep ED k _,←e,List.replicate_succ,List.foldl_cons]
section
variable {X:Cx}{pins:List (Addr×Obj)}{σ:St}{H:Hp}{s:Rj}{l b:Addr}{xs ys zs:List V}
def Inv.lset{ED JC:List Re}{f:Array Re->Array Re}(I:Inv X pins σ H s)(hH:H l=Iv (.lst xs))
  (e:s.heap.get? l=Iv { cls:=.type "list",data:=.seq ED.toArray n }) (hf:f ED.toArray=JC.toArray) (hv:L7 ys JC) (hz:ys.length<=Rp) :
  Inv X pins σ (upd H l (.lst ys)) { s with heap:=s.heap.update l (YO f),toks:=t' }:=by
 have q:=PySem.IsL.update e f;rw[hf] at q;refine I.write   (by rw[hH];exact trivial) (.inl rfl) (λb' u hb hu=>(Wt _ _ (Tn hb)).trans hu) ⟨_,q⟩ ?_;exact⟨hz,JC,_,hv,q⟩
def Inv.lnew(I:Inv X pins σ H s)(hv:L7 ys ED)(hz:ys.length<=Rp) :
  Inv X pins σ (upd H s.heap.objs.size (.lst ys)) { s with heap:=s.heap.push { cls:=.type "list",data:=.seq ED.toArray },toks:=t' }:=I.laid (λ_ _ q=>Ri _ q) (Rn _) ⟨hz,ED,0,hv,RA _ rfl⟩
theorem Inv.fresh(I:Inv X pins σ H s):H s.heap.objs.size=LG:=I.hok.fresh (Rn _)
def Inv.lstM(I:Inv X pins σ H s)(hH:H l=Iv (.lst xs)):xs.length<=Rp/\∃(ED:List Re) (n:Nat),L7 xs ED/\xs.length=ED.length/\s.heap.get? l=Iv { cls:=.type "list",data:=.seq ED.toArray n }:=by
 obtain⟨z,ED,n,r,e⟩:=I.hok l _ hH;exact⟨z,ED,n,r,r.length,e⟩
def Hk:V->List V->Hp->VK->Prop:=λx vs H Q=>∃l xs y,x=.ref l/\vs=[y]/\H l=Iv (.lst xs)/\xs.length<Rp/\Q .non (upd H l (.lst (xs++[y])))
def rX:B9 X "list.append" Hk:=by
 intro pins s σ H x vs v us Q I rx rv h;obtain⟨l,xs,y,rfl,rfl,hH,hz,q⟩:=h;cases rx;obtain⟨u,rfl,ru⟩:=rv.one;obtain⟨z,ED,n,r,hl,e⟩:=I.lstM hH;refine Ub F.slot_list_append ⟨_,e,rfl⟩ F.entry_list_append (F.args_list_append_2 _ _) (PySem.list_append l _ n u (by simp_all)) ⟨e,?_⟩
 refine⟨.non,_,I.lset  hH e (by simp) (r.append (.cons ru .nil)) ?_,rfl,q⟩<;>grind
def MP:V->List V->Hp->VK->Prop:=λx vs H Q=>∃l xs y,x=.ref l/\vs=[]/\H l=Iv (.lst xs)/\xs[xs.length-1]? = Iv y/\Q y (upd H l (.lst xs.dropLast))
def zcw:B9 X "list.pop" MP:=by
 intro pins s σ H x vs v us Q I rx rv h;obtain⟨l,xs,y,rfl,rfl,hH,hy,q⟩:=h;cases rx;have hus:=rv.zero;subst hus;obtain⟨z,ED,n,r,hl,e⟩:=I.lstM hH;obtain⟨u,hu,ru⟩:=r.get hy
 have El:ED.toArray[ED.toArray.size-1]? = Iv u:=by simp_all
 refine Ub Yr ⟨_,e,rfl⟩ X8 (F.args_list_pop_1 _) (MeetsSeq.list_pop_last l _ n u El (by grind)) ⟨e,?_⟩
 refine⟨y,_,I.lset  hH e ?_ r.dropLast ?_,ru,q⟩<;>grind
def len_rep{α:Type}(xs:List α)(k:Nat):(RQ k xs).flatten.length=k*xs.length :=by simp
end
section
variable {κ:Type}[DecidableEq κ]
noncomputable def bT(kvs:List (κ×V))(k:κ):Option V:=(kvs.find? λkv=>decide (kv.1=k)).map (·.2)
noncomputable def putK(kvs:List (κ×V))(k:κ)(v:V):List (κ×V):=if (kvs.any λkv=>decide (kv.1=k))=KN then kvs.map (λkv=>if kv.1=k then (kv.1,v) else kv) else kvs++[(k,v)]
def sy{p:κ×V}(e:p.1=k):bT (p::r) k=Iv p.2:=by simp[bT,e]
def sA{p:κ×V}(e:¬p.1=k):bT (p::r) k=bT r k:=by simp[bT,e]
theorem sC(k:κ):∀kvs:List (κ×V),(kvs.any λkv=>decide (kv.1=k))=(bT kvs k).isSome
 |[]=>rfl
 |p::r=>by
  rw[Uj]
  by_cases e:p.1=k
  .simp only[sy e,decide_eq_true e,Bool.true_or,Option.isSome_some]
  .rw[sA e,decide_eq_false e];exact sC k r
def rC(kvs:List (κ×V))(k:κ)(v:V):(putK kvs k v).length<=kvs.length+1:=by unfold putK<;>grind
def zcx{kvs:List (κ×V)}{k:κ}(v:V)(h:bT kvs k=LG):putK kvs k v=kvs++[(k,v)]:=by
 unfold putK
 rw[sC]<;>simp_all
def LX.isSome_eq(r:LX o u):o.isSome=u.isSome:=by
 cases o with
 |none=>cases u with
  |none=>rfl
  |some _=>exact(r).elim
 |some _=>cases u with
  |none=>exact(r).elim
  |some _=>rfl
theorem LX.getD(r:LX o u)(rd:RelV d d'):RelV (o.getD d) (u.getD d'):=by
 cases o with
 |none=>cases u with
  |none=>exact rd
  |some _=>exact(r).elim
 |some _=>cases u with
  |none=>exact(r).elim
  |some _=>exact r
def KV.val(r:KV kvs vs)(k:κ):LX (bT kvs k) (Wv vs k):=by
 induction r with
 |nil=>exact S6
 |@cons p q ps qs h t ih=>
  obtain⟨h1,h2⟩:=h
  by_cases e:p.1=k
  .have e':=h1.symm.trans e
   have b:Wv (q::qs) k=Iv q.2:=by simp[Wv,e']
   rw[sy e,b];exact h2
  .have e':¬q.1=k:=λz=>e (h1.trans z)
   have b:Wv (q::qs) k=Wv qs k:=by simp[Wv,e']
   rw[sA e,b];exact ih
theorem KV.any(r:KV kvs vs)(k:κ):(kvs.any λkv=>decide (kv.1=k))=vs.any λkv=>decide (kv.1=k):=by induction r <;>simp_all
def KV.repl(r:KV kvs vs)(k:κ)(ry:RelV y u) :
  KV (kvs.map λkv=>if kv.1=k then (kv.1,y) else kv) (vs.map λkv=>if kv.1=k then (kv.1,u) else kv):=by
 induction r with
 |nil=>exact .nil
 |@cons p q ps qs h t ih=>
  refine .cons ?_ ih
  by_cases e:p.1=k<;>simp_all
def KV.put(r:KV kvs vs)(k:κ)(ry:RelV y u):KV (putK kvs k y) (stored vs k u):=by
 unfold putK stored;rw[r.any k]
 by_cases e:(vs.any λkv=>decide (kv.1=k))=KN
 .rw[if_pos e,if_pos e];exact r.repl k ry
 .rw[if_neg e,if_neg e];exact Z0 r ⟨rfl,ry⟩
def KV.keys{kvs:List (κ×V)}{vs:List (κ×Re)}(r:KV kvs vs):kvs.map (·.1)=vs.map (·.1):=by induction r <;>simp_all
theorem KV.length(r:KV kvs vs):kvs.length=vs.length:=TN r
end
def jm(r:RelV (kV k) u):(bP P w).is k u=KN:=by
 cases k with
 |inl i=>obtain⟨t,e⟩:=(r);subst e;exact zac P w i t
 |inr x=>obtain⟨t,e⟩:=(r);subst e;exact zad P w x t
theorem zuk:∀{ks:List Key}{us:List Re},L7 (ks.map kV) us->ItemsAre (bP P w) ks us
 |[],_,r=>by cases r;exact .nil
 |k::ks,_,r=>by
  cases r with
  |cons h t=>exact .cons (jm h) (zuk t)
abbrev KT(H:Hp):List (List Key×V)->List (List Key×Addr×Re)->Prop:=WP λp q=>p.1=q.1/\H q.2.1=Iv (.tup (p.1.map kV))/\RelV p.2 q.2.2
def KT.val(r:KT H kvs xs)(k:List Key):LX (bT kvs k) ((YS xs k).map (·.2)):=by
 induction r with
 |nil=>exact S6
 |@cons p q ps qs h t ih=>
  obtain⟨h1,_,h2⟩:=h
  by_cases e:p.1=k
  .have e':=h1.symm.trans e
   have b:YS (q::qs) k=Iv q.2:=by simp[YS,e']
   rw[sy e,b];exact h2
  .have e':¬q.1=k:=λz=>e (h1.trans z)
   have b:YS (q::qs) k=YS qs k:=by simp[YS,e']
   rw[sA e,b];exact ih
def KT.repl(r:KT H kvs xs)(k:List Key)(ry:RelV y u) :
  KT H (kvs.map λkv=>if kv.1=k then (kv.1,y) else kv) (xs.map (putAt k u)):=by
 induction r with
 |nil=>exact .nil
 |@cons p q ps qs h t ih=>
  refine .cons ?_ ih;unfold putAt
  by_cases e:p.1=k<;>simp_all
def KT.put(r:KT H kvs xs)(k:List Key)(hb:H b=Iv (.tup (k.map kV)))(ry:RelV y u) :
  KT H (putK kvs k y) (storedH xs k b u):=by
 have e:(kvs.any λkv=>decide (kv.1=k))=(YS xs k).isSome:=by
  rw[sC,(r.val k).isSome_eq,VP]
 unfold putK storedH;rw[e]
 by_cases q:(YS xs k).isSome=KN
 .rw[if_pos q,if_pos q];exact r.repl k ry
 .rw[if_neg q,if_neg q];exact Z0 r ⟨rfl,hb,ry⟩
def KT.keeps(r:KT H kvs xs)(ht:∀b ys,H b=Iv (.tup ys)->H' b=Iv (.tup ys)):KT H' kvs xs:=Paired.mapP r λ_ _ z=>⟨z.1,ht _ _ z.2.1,z.2.2⟩
section
variable {P:RC}{w:RX}{H:Hp}{h:Heap}{a:Addr}
def zul(ok:CJ P w H h)(e:Rd H a u):Fs P w H h a u:=e.ok ok
def d4(ok:CJ P w H h)(e:Rd H a (.dK kvs)):kvs.length<=Rp/\(a == SG)=Lf/\∃vs,KV kvs vs/\h.DictOf (bP P w) a vs:=zul ok e
def zum(ok:CJ P w H h)(e:H a=Iv (.dK kvs)):kvs.length<=Rp/\(a == SG)=Lf/\∃vs,KV kvs vs/\h.DictOf (bP P w) a vs:=d4 ok (.inl e)
def ko(ok:CJ P w H h)(e:H a=Iv (.tup (ks.map kV))):(W4 (bP P w)).is h ks a:=by
 obtain⟨_,ED,r,o,h1,h2,n,h3⟩:=(ok a _ e);exact⟨o,ED.toArray,n,h1,h2,h3,by simpa using zuk r⟩
def jp(ok:CJ P w H h)(e:Rd H a (.dT kvs)):kvs.length<=Rp/\(a == SG)=Lf /\
  ∃xs,KT H kvs xs/\h.DictOfH (W4 (bP P w)) a xs:=by
 obtain⟨z,y,xs,r,o,es,ep,h1,h2,h3,h4,h5⟩:=(zul ok e);refine⟨z,y,xs,r,o,es,ep,h1,h2,h3,h4,λx hx=>?_,h5⟩
 have all:∀{l:List _}{m:List _},KT H l m->∀x∈m,(W4 (bP P w)).is h x.1 x.2.1:=by
  intro l m q
  induction q with
  |nil=>simp_all
  |@cons p q ps qs hq t ih=>
   intro x hx
   rcases Ru.mp hx with e|hx
   .exact ko ok (by simp_all)
   .exact ih x hx
 exact all r x hx
def zcy(ok:CJ P w H h)(e:H a=Iv (.dT kvs)):kvs.length<=Rp/\(a == SG)=Lf /\
  ∃xs,KT H kvs xs/\h.DictOfH (W4 (bP P w)) a xs:=jp ok (.inl e)
end
def Hz(H:Hp)(a:Addr)(y:V)(r:Option V):Prop:=(∃kvs k,Rd H a (.dK kvs)/\y=kV k/\r=bT kvs k)\/∃kvs k b,Rd H a (.dT kvs)/\y=.ref b/\H b=Iv (.tup (k.map kV))/\r=bT kvs k
def D7(H:Hp)(a:Addr)(y v:V)(H':Hp):Prop:=
 (∃kvs k,H a=Iv (.dK kvs)/\y=kV k/\kvs.length<Rp/\H'=upd H a (.dK (putK kvs k v))) \/
 ∃kvs k b,H a=Iv (.dT kvs)/\y=.ref b/\H b=Iv (.tup (k.map kV))/\kvs.length<Rp/\H'=upd H a (.dT (putK kvs k v))
theorem D7.k{H:Hp}{a:Addr}{kvs:List (Key×V)}{k:Key}{v:V}(e:H a=Iv (.dK kvs))(hl:kvs.length<Rp):D7 H a (kV k) v (upd H a (.dK (putK kvs k v))):=.inl ⟨kvs,k,e,rfl,hl,rfl⟩
section
variable {X:Cx}{pins:List (Addr×Obj)}{σ:St}{H:Hp}{s:Rj}{a:Addr}{y v:V}{u r:Re}{o:Option V}{A:R9}{E:Re->Rj->Prop}{kvs:List (Key×V)}{k:Key}
def Inv.big(I:Inv X pins σ H s):SG<s.heap.objs.size:=by
 have h:=(I.mod.glob.keeps I.bk).lt;exact Ww (by decide) h
def zun(hu:A.units+1<Xw)(I:Inv X pins σ H s)(g:Hz H a y (Iv v))(ry:RelV y u)(h:∀w' s',Inv X pins σ H s'->RelV v w'->Q w' s') :
  RP (RM X.prog X.w) A (Ve (.ref a) u) Q E s:=by
 rcases g with⟨kvs,k,e,ey,l⟩|⟨kvs,k,b,e,ey,eb,l⟩
 .subst ey
  obtain⟨z,hd,vs,rel,dd⟩:=d4 I.hok e;obtain⟨w',hw,Kq⟩:=LX.some_of   (by rw[l];exact rel.val k);exact wpAny_getItem_of (jm ry) dd.mapOf hw (h w' _ (I.tok _) Kq)
 .subst ey
  cases (ry);obtain⟨z,hd,xs,rel,dd⟩:=jp I.hok e;obtain⟨w',hw,Kq⟩:=LX.some_of   (by rw[l];exact rel.val k);obtain⟨p,hp,AJ⟩:=RO.mp hw;refine wpAny_getItem_heap (Uc hu) (ko I.hok eb) dd hp ?_;rw[AJ];exact h w' _ (I.tok _) Kq
def zuo(hu:A.units+1<Xw)(I:Inv X pins σ H s)(g:Hz H a y o)(ry:RelV y u)(h:∀s',Inv X pins σ H s'->Q (.bool o.isSome) s') :
  RP (RM X.prog X.w) A (RB .In u (.ref a)) Q E s:=by
 rcases g with⟨kvs,k,e,ey,l⟩|⟨kvs,k,b,e,ey,eb,l⟩
 .subst ey
  obtain⟨z,hd,vs,rel,dd⟩:=d4 I.hok e;refine wpAny_in_of (jm ry) hd dd.mapOf ?_;rw[←(rel.val k).isSome_eq,←l];exact h _ (I.tok _)
 .subst ey
  cases (ry);obtain⟨z,hd,xs,rel,dd⟩:=jp I.hok e;refine wpAny_in_heap (Uc hu) (ko I.hok eb) hd dd ?_;have q:=(rel.val k).isSome_eq;rw[VP] at q;rw[←q,←l];exact h _ (I.tok _)
def zcz(hu:A.units+1<Xw)(I:Inv X pins σ H s)(g:Hz H a y o)(ry:RelV y u)(h:∀s',Inv X pins σ H s'->Q (.bool (!o.isSome)) s') :
  RP (RM X.prog X.w) A (RB .NotIn u (.ref a)) Q E s:=by
 rcases g with⟨kvs,k,e,ey,l⟩|⟨kvs,k,b,e,ey,eb,l⟩
 .subst ey
  obtain⟨z,hd,vs,rel,dd⟩:=d4 I.hok e;refine wpAny_notIn_of (jm ry) hd dd.mapOf ?_;rw[←(rel.val k).isSome_eq,←l];exact h _ (I.tok _)
 .subst ey
  cases (ry);obtain⟨z,hd,xs,rel,dd⟩:=jp I.hok e;refine wpAny_notIn_heap (Uc hu) (ko I.hok eb) hd dd ?_;have q:=(rel.val k).isSome_eq;rw[VP] at q;rw[←q,←l];exact h _ (I.tok _)
def tN(I:Inv X pins σ H s)(mu:Mn (H a))(hs:TK a s.heap h')(he:∃q,h'.get? a=Iv q)(new:Fs X.prog X.w (upd H a ob) h' a ob) :
  Inv X pins σ (upd H a ob) { s with heap:=h',toks:=t' }:=I.write   mu (.inl rfl) (λb q hb z=>(hs.2 b hb).trans z) he new
def ux(z:kvs.length<=Rp)(hd:(a == SG)=Lf)(rel:KV kvs vs)(dd:h'.DictOf (bP P w) a vs) :
  Fs P w H' h' a (.dK kvs):=⟨z,hd,vs,rel,dd⟩
def zda(hu:A.units+1<Xw)(I:Inv X pins σ H s)(g:D7 H a y v H')(ry:RelV y u)(rv:RelV v r)(h:∀s',Inv X pins σ H' s'->Q () s') :
  RP (RM X.prog X.w) A (ZF (.ref a) u r) Q E s:=by
 rcases g with⟨kvs,k,e,ey,l,eH⟩|⟨kvs,k,b,e,ey,eb,l,eH⟩
 .subst ey eH
  obtain⟨z,hd,vs,rel,dd⟩:=zum I.hok e
  have hz:vs.length<=sizeLine:=by rw[←rel.length];exact z
  have hl:(putK kvs k v).length<=sizeLine:=by have:=rC kvs k v;lia
  refine wpAny_setItem_pairs  (jm ry) dd λh' K9 hs=>h _ ?_
  have he:∃q,h'.get? a=Iv q:=let ⟨q,_,_,hq,_⟩:=K9;⟨q,hq⟩
  exact tN I (by rw[e];exact S6) hs he (ux hl hd (rel.put k rv) K9)
 .subst ey eH
  cases (ry);obtain⟨z,hd,xs,rel,dd⟩:=zcy I.hok e
  have hz:xs.length<=sizeLine:=by rw[←TN rel];exact z
  have hl:(putK kvs k v).length<=sizeLine:=by have:=rC kvs k v;lia
  refine wpAny_setItem_heap (hsz:=hz) (Uc hu) (ko I.hok eb) dd λh' K9 hs=>h _ ?_;obtain⟨q,es,ep,hq,h2,h3,h4,_,h5⟩:=K9;refine tN I (by rw[e];exact S6) hs ⟨q,hq⟩ ⟨hl,hd,_,(rel.put k eb rv).keeps λc ys ec=>?_,q,es,ep,hq,h2,h3,h4,h5⟩;rw[aG (zaf ec e (λz=>nomatch z))];exact ec
def zdb(I:Inv X pins σ H s)(e:Rd H a (.dK kvs))(h:∀t s',Inv X pins σ H s'->Q (.int kvs.length t) s'):RP (RM X.prog X.w) A (call (.builtin "len") [.ref a]) Q E s:=by
 obtain⟨z,hd,vs,rel,dd⟩:=d4 I.hok e;refine call_len_dict hd dd (by rw[←rel.length];rw[Yj] at z;lia) ?_;rw[←rel.length];exact h _ _ (I.tok _)
end
def vm(i:Expr):Prop:=∀ov iv,VO i Lf ov iv=operate [ov,iv] (Ve ov iv)
def zdc{prog:RC}{w:RX}{A:R9}{E:Re->Rj->Prop}{s:Rj}{env:Env}{value slice:Expr}{pos:Pos}{T id:String}{Q:Re->Rj->Prop}
  (hl:typeLookup (.type T) "__getitem__"=pure (Iv (.builtin id))) (hs:vm slice)
  (h:RP (RM prog w) A (eval value env) (λo IR=>RP (RM prog w) A (eval slice env) (λi Jy=>Jy.TypeIs o T/\RP (RM prog w) A (Ve o i) Q E Jy) E IR) E s) :
  RP (RM prog w) A (eval (.Subscript value slice pos) env) Q E s:=by
 refine YN (S5 h (λo IR xw=>S5 xw (λi Jy Gx=>?_) λ_ _ x=>x) λ_ _ x=>x);obtain⟨hT,Gx⟩:=Gx;refine Rr ?_;refine Rr (Ys hT hl ?_)
 have fin:RP (RM prog w) A (VO slice Lf o i) (λr EV=>RP (RM prog w) A (letTemporaryGo value o r >>= λ_=>pure r) Q E EV) E Jy:=by
  rw[hs o i];exact Yt (S5 Gx (λr EV wV=>Rr (WT (Rx wV))) λ_ _ x=>x)
 first
  |exact Rx (Rr fin)
  |grind
  |grind
def zup(I:Inv X pins σ H s)(g:Hz H a y o):s.TypeIs (.ref a) "dict":=by
 rcases g with⟨kvs,k,e,_,_⟩|⟨kvs,k,b,e,_,_,_⟩
 .obtain⟨_,_,vs,_,dd⟩:=d4 I.hok e
  exact dd.typeIs
 .obtain⟨_,_,xs,_,dd⟩:=jp I.hok e
  exact dd.typeIs
def LC(td ty:TE):TE:=λσ H Q=>td σ H λx H1=>ty σ H1 λy H2=>∃a v,x=.ref a/\Hz H2 a y (Iv v)/\Q v H2
def MJ(ty td:TE):TE:=λσ H Q=>ty σ H λy H1=>td σ H1 λx H2=>∃a o,x=.ref a/\Hz H2 a y o/\Q (.bl o.isSome) H2
def LK(td ty tv:TE):TS:=λD σ H=>tv σ H λv H1=>td σ H1 λx H2=>ty σ H2 λy H3=>∃a H4,x=.ref a/\D7 H3 a y v H4/\D.nx σ H4
section
variable {X:Cx}{o i e value:Expr}{pos pos' L4:Pos}{td ty tv:TE}
def zdd(hu:X.A.units+1<Xw)(ho:PE X o td)(hi:PE X i ty)(hs:vm i):PE X (.Subscript o i pos) (LC td ty):=by
 intro pins s σ H Q I h;refine zdc VH.lookup hs (JI (ho pins s σ H _ I h) λu s1 ⟨x,H1,I1,rx,q1⟩=>JI (hi pins s1 σ H1 _ I1 q1) λiv s2 ⟨y,H2,I2,ry,a,v,ex,g,q2⟩=>?_);subst ex;obtain rfl:u=Sn a:=rx;exact⟨zup I2 g,zun hu I2 g ry λw' s3 I3 Kq=>⟨v,H2,I3,Kq,q2⟩⟩
def zde(hu:X.A.units+1<Xw)(hi:PE X i ty)(ho:PE X o td):PC X .In i o (MJ ty td):=by
 intro pins s σ H Q I h;refine JI (hi pins s σ H _ I h) λiv s1 ⟨y,H1,I1,ry,q1⟩=>JI (ho pins s1 σ H1 _ I1 q1) λu s2 ⟨x,H2,I2,rx,a,ov,ex,g,q2⟩=>?_;subst ex;obtain rfl:u=Sn a:=rx;exact zuo hu I2 g ry λs3 I3=>⟨.bl _,H2,I3,rfl,q2⟩
def sX(hu:X.A.units+1<Xw)(ho:PE X o td)(hi:PE X i ty)(hv:PE X value tv)(hs:So value (Iv (.Subscript o i pos')) pos.line X.env=pure Lf) :
  PS X (.Assign [.Subscript o i pos'] value pos) (LK td ty tv):=by
 intro pins s σ H D I h;refine wpAny_Assign_Subscript (JI (hv pins s σ H _ I h) λr s1 ⟨v,H1,I1,rv,q1⟩=>JI (ho pins s1 σ H1 _ I1 q1) λu s2 ⟨x,H2,I2,rx,q2⟩=>JI (hi pins s2 σ H2 _ I2 q2) λiv s3 ⟨y,H3,I3,ry,a,H4,ex,g,q3⟩=>?_) hs;subst ex;obtain rfl:u=Sn a:=rx;exact zda hu I3 g ry rv λs4 I4=>⟨σ,H4,I4,q3⟩
end
def zuq(h:Heap)(hb:SG<h.objs.size):Fs P w H (h.push { cls:=.type "dict",data:=.dict #[] }) h.objs.size (.dK []):=⟨Sj _,beq_eq_false_iff_ne.mpr (Tn (RN hb)),[],.nil,Heap.DictOf.new h⟩
def Ju:TE:=λ_ H Q=>∀p,H p=LG->Q (.ref p) (upd H p (.dK []))
section
variable {X:Cx}{pos:Pos}
def zur:PE X (.Dict [] [] pos) Ju:=λpins s σ H Q I h=>
 wpAny_Dict_empty ⟨.ref _,_,I.laid    (λ_ _ q=>Ri _ q) (Rn _) (zuq _ I.big),rfl,h _ (I.hok.fresh (Rn _))⟩
end
def tY:List (TE×TE)->St->Hp->(List (V×V)->Hp->Prop)->Prop
 |[],_,H,Q=>Q [] H
 |(tk,tv)::r,σ,H,Q=>tk σ H λx H1=>tv σ H1 λy H2=>tY r σ H2 λps H3=>Q ((x,y)::ps) H3
abbrev VV:List (V×V)->List (Re×Re)->Prop:=WP λp q=>RelV p.1 q.1/\RelV p.2 q.2
def wG(X:Cx)(pos:Pos)(keys:List (Option Expr))(values:List Expr)(Ll:List (TE×TE)):Prop:=
 ∀(pins:List (Addr×Obj)) (s:Rj) (σ:St) (H:Hp) (Q:List (V×V)->Hp->Prop),Inv X pins σ H s->tY Ll σ H Q ->
  RP (RM X.prog X.w) X.A (evalPairs (pairTrees keys values X.env pos)) (λvs s'=>∃ps H',Inv X pins σ H' s'/\VV ps vs/\Q ps H') X.xe s
def zdf:wG X pos [] [] []:=λpins s σ H Q I h=>pairTrees_nil_walk ⟨[],H,I,.nil,h⟩
def zus(hk:PE X k tk)(hv:PE X v tv)(hr:wG X pos ks vs Ll) :
  wG X pos (Iv k::ks) (v::vs) ((tk,tv)::Ll):=λpins s σ H Q I h=>
 pairTrees_cons_walk (JI (hk pins s σ H _ I h) λu s1 ⟨x,H1,I1,rx,q1⟩=>JI (hv pins s1 σ H1 _ I1 q1) λw2 s2 ⟨y,H2,I2,ry,q2⟩=>
  JI (hr pins s2 σ H2 _ I2 q2) λws s3 ⟨ps,H3,I3,rel,q3⟩=>⟨_::ps,H3,I3,.cons ⟨rx,ry⟩ rel,q3⟩)
def ja(kvs more:List (Key×V)):List (Key×V):=more.foldl (λacc kv=>putK acc kv.1 kv.2) kvs
def KV.merge:∀{more:List (Key×V)}{rs:List (Key×Re)}{kvs:List (Key×V)}{vs:List (Key×Re)},KV more rs->KV kvs vs->KV (ja kvs more) (merged vs rs):=by
 intro more rs kvs vs r
 induction r generalizing kvs vs with
 |nil=>intro q;exact q
 |@cons p q ps qs h t ih=>
  intro r0
  have e:KV (putK kvs p.1 p.2) (stored vs q.1 q.2):=by
   have:=r0.put p.1 h.2<;>simp_all
  exact ih e
theorem zut:∀(more kvs:List (Key×V)),(ja kvs more).length<=kvs.length+more.length
 |[],kvs=>by show kvs.length<=kvs.length+0;lia
 |p::r,kvs=>by
  have h1:=zut r (putK kvs p.1 p.2);have h2:=rC kvs p.1 p.2
  show (ja _ r).length<=_<;>grind
theorem zuu{P:RC}{w:RX}:∀{kvs:List (Key×V)}{ws:List (Re×Re)},VV (kvs.map λkv=>(kV kv.1,kv.2)) ws->∃rs,Carries (bP P w) ws rs/\KV kvs rs
 |[],_,r=>by cases r;exact⟨[],S6,.nil⟩
 |p::kvs,_,r=>by
  cases r with
  |@cons a b as bs h t=>
   obtain⟨rs,c,q⟩:=zuu (P:=P) (w:=w) t;obtain⟨b1,b2⟩:=b;exact⟨(p.1,b2)::rs,⟨jm h.1,rfl,c⟩,.cons ⟨rfl,h.2⟩ q⟩
def LA(Ll:List (TE×TE)):TE:=λσ H Q=>∀p,H p=LG->tY Ll σ (upd H p (.dK [])) λps H2=>H2 p=Iv (.dK [])/\∃kvs:List (Key×V),ps=kvs.map (λkv=>(kV kv.1,kv.2))/\kvs.length<=15/\Q (.ref p) (upd H2 p (.dK (ja [] kvs)))
def zdg(h:wG X pos keys values Ll)(HA:keys.all (·.isSome)=KN)(hl:keys.length=values.length)(h0:keys≠[])
  (h15:keys.length<=15):PE X (.Dict keys values pos) (LA Ll):=by
 intro pins s σ H Q I q;have hn:=I.hok.fresh (Rn _);have I1:=I.laid    (t':=s.toks) (λ_ _ q=>Ri _ q) (Rn _) (zuq _ I.big);refine wpAny_Dict_walk (knd:=bP _ X.w) HA hl h0 h15 (JI (h pins _ σ _ _ I1 (q _ hn)) λws s2 ⟨ps,H2,I2,rel,e,kvs,ep,lk,q2⟩=>?_);subst ep;obtain⟨rs,c,rk⟩:=zuu   rel;obtain⟨z,hd,vs0,r0,dd⟩:=zum I2.hok e;cases r0;refine⟨rs,c,dd,λh' K9 hs=>⟨.ref _,_,?_,rfl,q2⟩⟩
 have hz:(ja [] kvs).length<=sizeLine:=by
  have h1:=zut kvs [];rw[List.length_nil] at h1;rw[Yj];lia
 have he:∃q,h'.get? _=Iv q:=let ⟨q,_,_,hq,_⟩:=K9;⟨q,hq⟩
 exact tN I2 (by rw[e];exact S6) hs he (ux hz hd (rk.merge .nil) K9)
structure M1(X:Cx)(o:Expr)(m:Str)(apos:Pos)(e:Expr)(cpos:Pos):Prop where
 base:Sa o m X.env (eval o X.env)=eval o X.env
 few:((R6 cpos (Rk [e] X.env)).all (λx=>!x.1)&&(TL cpos (SK [] X.env)).all (λx=>x.1.isSome)
  && decide (([e]:List Expr).length+([]:List Sx).length+(if ([]:List Sx).isEmpty then 0 else 1)<30))=KN
 line:(apos.endLine == cpos.line)=KN
 trees:R6 cpos (Rk [e] X.env)=[(Lf,eval e X.env)]
def Cb(H:Hp)(a:Addr):Prop:=(∃kvs,Rd H a (.dK kvs))\/∃kvs,Rd H a (.dT kvs)
def zdh(I:Inv X pins σ H s)(d:Cb H a) :
  s.TypeIs (.ref a) "dict"/\(∀b,Sn a=.ref b->∃ob,s.heap.get? b=Iv ob/\ob.dict=LG)/\(a == SG)=Lf:=by
 rcases d with⟨kvs,e⟩|⟨kvs,e⟩
 .obtain⟨_,hd,vs,_,dd⟩:=d4 I.hok e
  refine⟨dd.typeIs,λb q=>?_,hd⟩;cases q;obtain⟨ob,_,_,h1,h2,_⟩:=dd;exact⟨ob,h1,h2.2.1⟩
 .obtain⟨_,hd,xs,_,dd⟩:=jp I.hok e
  refine⟨dd.typeIs,λb q=>?_,hd⟩;cases q;obtain⟨ob,_,_,h1,h2,_⟩:=dd;exact⟨ob,h1,h2.2.1⟩
section
variable {X:Cx}{pins:List (Addr×Obj)}{σ:St}{H:Hp}{s:Rj}{a:Addr}{y d:V}{u r:Re}{o:Option V}{A:R9}{E:Re->Rj->Prop}
def zdi(hu:A.units+1<Xw)(I:Inv X pins σ H s)(g:Hz H a y o)(ry:RelV y u)(h:∀w' s',Inv X pins σ H s'->RelV (o.getD .non) w'->Q w' s') :
  RP (RM X.prog X.w) A (call (.builtin "dict.get") [.ref a,u]) Q E s:=by
 rcases g with⟨kvs,k,e,ey,l⟩|⟨kvs,k,b,e,ey,eb,l⟩
 .subst ey
  obtain⟨z,hd,vs,rel,dd⟩:=d4 I.hok e;refine XF U6 dd.typeIs Wx (V8 _ _) (meets_dict_get _ a (jm ry) hd) ⟨_,dd.mapOf,h _ _ (I.tok _) ?_⟩;rw[l];exact(rel.val k).getD rfl
 .subst ey
  cases (ry);obtain⟨z,hd,xs,rel,dd⟩:=jp I.hok e;refine XF U6 dd.typeIs Wx (V8 _ _) (meetsH_dict_get _ a b hd) ⟨Uc hu,k,xs,ko I.hok eb,dd,h _ _ (I.tok _) ?_⟩;rw[l];exact(rel.val k).getD rfl
end
def Jv(td ty:TE):TE:=λσ H Q=>td σ H λx H1=>∃a,x=.ref a/\Cb H1 a/\ty σ H1 λy H2=>∃o,Hz H2 a y o/\Q (o.getD .non) H2
section
variable {X:Cx}{o e f:Expr}{apos cpos:Pos}{td ty tx:TE}{pins:List (Addr×Obj)}{σ:St}{H:Hp}{s:Rj}{a:Addr}{kvs:List (Key×V)}{A:R9}{E:Re->Rj->Prop}
def zdj(hu:X.A.units+1<Xw)(ho:PE X o td)(he:PE X e ty)(m:M1 X o "get" apos e cpos):PE X (.Call (.Attribute o "get" apos) [e] [] cpos) (Jv td ty):=by
 intro pins s σ H Q I h;refine wpAny_Call_method m.base m.few m.line V9 U6 PySem.F.type_dict_get (JI (ho pins s σ H _ I h) λu s1 ⟨x,H1,I1,rx,a,ex,d,q1⟩=>?_);subst ex;obtain rfl:u=Sn a:=rx;obtain⟨t1,t2,_⟩:=zdh I1 d;refine⟨t1,t2,?_⟩;rw[m.trees];refine S8 rfl (Up (Tz (JI (he pins s1 σ H1 _ I1 q1) λiv s2 ⟨y,H2,I2,ry,ov,g,q2⟩=>Ul ?_)));exact zdi hu I2 g ry λw' s3 I3 Kq=>⟨_,H2,I3,Kq,q2⟩
def zdk(I:Inv X pins σ H s)(e:Rd H a (.dK kvs))(h:∀p s',H p=LG->Inv X pins σ (upd H p (.dK kvs)) s'->Q (.ref p) s'):RP (RM X.prog X.w) A (call (.type "dict") [.ref a]) Q E s:=by
 obtain⟨z,hd,vs,rel,dd⟩:=d4 I.hok e;refine kt_call_dict hd dd (by rw[←rel.length];exact z) λh' K9 hs=>?_;refine h _ _ (I.hok.fresh (Rn _)) (I.laid    (λb q hq=>?_) (Rn _) (ux z (beq_eq_false_iff_ne.mpr (Tn (RN I.big))) rel K9));exact(hs.2 b (RN (Rv hq))).trans (Ri _ hq)
end
end L2
namespace Att
open PySem PySem.W PySem.Calls PyProof.Rows
def zdl:∀(ns:List Int) (vs:List Re),WellAll P h vs (ns.map WData.int)->YA vs ns:=by
 intro ns
 induction ns with
 |nil=>
  intro vs w;cases w;exact .nil
 |cons n ns ih=>
  intro vs w
  cases w with
  |cons a b=>
   cases a;exact .cons _ _ (ih _ b)
def zdm{l:OpenLaw}(hn:l.most=Iv n){h:Heap}
  (hpre:l.row.toRowW.claim.pre args=KN) (hwl:WellAll P h vals args) :
  ∃a vs ns,vals=[Sn a]/\args=[WData.list (ns.map WData.int)]/\h.get? a=Iv { cls:=.type "list",data:=.seq vs.toArray }/\YA vs ns/\ns.length<=n:=by
 have hsh:WShape.hasAll [] args [.list .int]=KN:=(pre_splitW hpre).1;have hc:l.pre.holds [] { args:=args } = KN:=(pre_splitW hpre).2;obtain⟨d,r,rfl,h1,h2⟩:=hasAllW_cons hsh;obtain rfl:=hasAllW_nil h2;obtain⟨xs,rfl,h3⟩:=hasW_list h1;obtain⟨ns,rfl⟩:=items_int h3
 have JW:ns.length<=n:=by
  have h4:=by
   have h4:=(holds_andW hc).1
   rw[hn] at h4<;>omega
  have h5:=condW_of h4 (w_not (w_lt w_lit (w_len_list (w_arg rfl))))<;>simp_all
 cases hwl with
 |cons w1 w2=>
  cases w2
  cases w1 with
  |list ho HA=>exact⟨_,_,ns,rfl,rfl,ho,zdl ns _ HA,JW⟩
def zdn(l:OpenLaw)(args:List WData):l.row.toRowW.claim.post args (.bool KN) args=KN:=
 postW_of
  (rfl)
  (w_eq_bool (w_res rfl) w_lit) rfl
def zdo{l:OpenLaw}{XP:(Str->Option Re)->Heap->Prop}{YP:RX->Heap->Prop}{d:DefRec}
  (hn:l.most=Iv n) (Mi:d.params.defaults=[])
  (call:∀(w:RX) (s₀ IR:Rj) (mg mb:Str->Option Re) (fa:Addr) (o:Obj) (pm cd doc:Re) (a:Addr) (vs:List Re) (ns:List Int),
   Ground q loose [] XP w s₀ mg mb IR.heap->YP w IR.heap ->
   IR.heap.get? fa=Iv o->o.data=.func (docDef d.name d.params d.body d.scope pm cd doc)->IR.heap.CodeRec cd d.name->mg d.name=Iv (.ref fa) ->
   IR.heap.get? a=Iv { cls:=.type "list",data:=.seq vs.toArray }->YA vs ns->ns.length<=n->IR.gens = #[] ->
   Xy (RM l.prog w) Wy (.call (.ref fa) ⟨[.ref a],[]⟩) (λr s'=>r=.ok (.ret (.bool KN))/\OldK IR.heap s'.heap/\s'.os=IR.os/\VM s'.gens) IR) :
  WalkO q loose XP YP l.row.toRowW d [] (λf vs=>Wz f vs):=by
 intro w s₀ IR mg mb G Y fa o pm cd doc dV kV ho hd hcd hD hmg hg args vals as hpre hlay hrd hwl hlo;obtain rfl:dV=.none:=Dflts.none hD Mi;obtain rfl:kV=.none:=Dflts.noKw hD;obtain⟨a,vs,ns,rfl,rfl,Fj,IA,JW⟩:=zdm hn hpre hwl;refine enter_call (Vl (call w s₀ IR mg mb fa o pm cd doc a vs ns G Y ho (fd_plain hd) hcd hmg Fj IA JW hg) λr s' hq=>?_);obtain⟨rfl,h2,h3,h4⟩:=hq;exact⟨.inl ⟨.bool KN,.bool KN,[],rfl,λ_=>rfl,.bool KN,zdn l _,λ_=>⟨Z7,λ_ hm=>(nomatch hm)⟩⟩,h2,h3,h4⟩
end Att
namespace L2
theorem zuv:∀{vs:List Re}{ns:List Int},YA vs ns->L7 (ns.map V.int) vs
 |_,_,.nil=>.nil
 |_,_,.cons n t h=>.cons ⟨t,rfl⟩ (zuv h)
def vj(H:Hp):Prop:=∀b,H b=LG\/∃o xs,H b=Iv (.frz o (.lst xs))
def zdp{K:Frag}{mg mb:Str->Option Re}{IR:Rj}{vs:List Re}{ns:List Int}
  (KX:K.In IR.heap) (Fe:IR.heap.Ns RZ mg) (hb:IR.heap.Ns YI mb) (hbb:∀x:Str,x≠"__name__"->mb x=Te x) (wc:IR.heap.NoLimit) (hg:IR.gens = #[])
  (ha:IR.heap.get? a=Iv { cls:=.type "list",data:=.seq vs.toArray }) (hi:YA vs ns) (hl:ns.length<=Rp) (hr:JL k Wy)
  (F:∀base:Heap,K.In base->base.Ns RZ mg->Ft P w K mg base CX k fa fd [x] sp) (ET:∀(s:Rj) (u:Re),Xx s fd ⟨[u],[]⟩ [(x,u)])
  (KC:∀H:Hp,vj H->Jr K H a (ns.map V.int)->sp [.ref a] H (λv _=>v=.bl KN) λ_ _ _=>False)
  (yc:∀H e s',CX [] H IR (λ_ _ _=>False) e s'->False) :
  Xy (RM P w) Wy (.call (.ref fa) ⟨[.ref a],[]⟩) (λr s'=>r=.ok (.ret (.bool KN))/\OldK IR.heap s'.heap/\s'.os=IR.os/\VM s'.gens) IR:=by
 have rv:=zuv hi;have zM:=hi.length
 have core:∀H:Hp,vj H->Jr K H a (ns.map V.int)->CJ P w H IR.heap->(∀b,H b≠LG->b=a)->(H a≠LG->K.lookup a=LG) ->
   Xy (RM P w) Wy (.call (.ref fa) ⟨[.ref a],[]⟩) (λr s'=>r=.ok (.ret (.bool KN))/\OldK IR.heap s'.heap/\s'.os=IR.os/\VM s'.gens) IR:=by
  intro H hO hS hok hA hK;have Gd:∀{b:Addr}{o:Obj},IR.heap.get? b=Iv o->H b=LG->(gQ IR.heap H).get? b=Iv o:=λe n=>zah e n
  have EM:∀{b:Addr}{o:Obj}{es:Array X9}{ep:Nat},IR.heap.get? b=Iv o->o.data=.dict es ep->H b=LG:=λ{b o es ep} e d=>by
   cases q:H b with
   |none=>rfl
   |some u=>
    have e':b=a:=hA b (by rw[q];simp);subst e';rw[ha] at e;cases e;have d':Data.seq vs.toArray _=Data.dict es ep:=d;cases d'
  have CU:∀{b:Addr}{m:Str->Option Re},IR.heap.Ns b m->(gQ IR.heap H).Ns b m:=λ{b m} ⟨o,es,ep,e,d,r⟩=>⟨o,es,ep,Gd e (EM e d),d,r⟩
  have hKb:K.In (gQ IR.heap H):=λb o e=>Gd (KX b o e) (by
   cases q:H b with
   |none=>rfl
   |some u=>
    have e':b=a:=hA b (by rw[q];simp);subst e'
    rw[hK (by rw[q];simp)] at e;cases e)
  have hM:Mod K mg (gQ IR.heap H):=⟨hKb,CU Fe,⟨mb,CU hb,hbb⟩,let ⟨mc,h1,h2⟩:=wc;⟨mc,CU h1,h2⟩⟩;have e0:Lc P w K mg (gQ IR.heap H) Wy [] IR H:=⟨rfl,hM,λb o e=>zai e,ZK (zag _ _),trivial,λb hb=>absurd (show b∈([]:List Addr) from hb) (by simp),hok,.of_eq hg⟩;refine Vl ((F _ hKb (CU Fe)).run Wy [] IR H ⟨[.ref a],[]⟩ [.ref a] [.ref a] _ _ hr e0 (ET IR (.ref a)) (.cons rfl .nil) (KC H hO hS)) λr s' h=>?_
  cases r with
  |error e=>exact(yc H e s' h).elim
  |ok fl=>
   cases fl with
   |next=>exact UJ h
   |brk=>exact UJ h
   |cont=>exact UJ h
   |ret u=>
    obtain⟨v,H',os,bare,un,zB,r',q⟩:=h;have q':v=.bl KN:=q;subst q';obtain rfl:u=Xn KN:=r';refine⟨rfl,OldK.of_keep λb o e=>?_,os,bare⟩
    cases q:H b with
    |none=>exact un.keep b o e q (by intro z;exact absurd (show b∈([]:List Addr) from z) (by simp)) (by simp)
    |some u=>
     rcases hO b with z|⟨ob,xs,z⟩
     .rw[q] at z;cases z
     .have z2:=un.frzs b ob _ z
      obtain⟨e1,_⟩:=hok b _ z;obtain⟨e2,_⟩:=zB b _ z2;rw[e] at e1;cases e1;exact e2
 cases hk:K.lookup a with
 |some o=>
  have e:=KX a o hk;rw[ha] at e;cases e;refine core (λ_=>LG) (λ_=>.inl rfl) (.inr ⟨_,vs.toArray,_,hk,rfl,rfl,rfl,by rw[Sw,zM];exact hl,by simpa using rv⟩) (λb u z=>by have z':(LG:Option HO)=Iv u:=z;cases z') (λb z=>absurd rfl z) λz=>absurd rfl z
 |none=>
  refine core (λb=>if b=a then Iv (.frz { cls:=.type "list",data:=.seq vs.toArray } (.lst (ns.map V.int))) else LG) (λb=>?_) (.inl (.inr ⟨{ cls:=.type "list",data:=.seq vs.toArray },if_pos rfl⟩)) (λb u z=>?_) (λb z=>?_) λ_=>hk
  .by_cases hb:b=a
   .exact .inr ⟨_,_,if_pos hb⟩
   .exact .inl (if_neg hb)
  .by_cases hb:b=a
   .have z':=(if_pos hb).symm.trans z
    cases z';subst hb;exact⟨ha,by rw[R4];exact hl,vs,_,rv,ha⟩
   .have z':=(if_neg hb).symm.trans z
    cases z'
  .by_cases hb:b=a
   .exact hb
   .exact absurd (if_neg hb) z
def zdq{l:WH}{XP:(Str->Option Re)->Heap->Prop}{YP:RX->Heap->Prop}{d:DefRec}{K:ZJ->Frag}{CX:RX->GF}{sp:RX->Sp}
  (hn:l.most=Iv n) (wq:n<=Rp) (Mi:d.params.defaults=[]) (hr:JL k Wy)
  (hY:∀(w:RX) (h:Heap),YP w h->(K w.params).In h)
  (F:∀(w:RX) (mg:Str->Option Re) (fa:Addr) (h:Heap),(K w.params).In h->h.Ns RZ mg->mg d.name=Iv (.ref fa) ->
   ∃fd:Ts,(∀(s:Rj) (u:Re),Xx s fd ⟨[u],[]⟩ [(x,u)]) /\
    ∀base:Heap,(K w.params).In base->base.Ns RZ mg->Ft l.prog w (K w.params) mg base (CX w) k fa fd [x] (sp w))
  (KC:∀(w:RX) (H:Hp) (a:Addr) (ns:List Int),ns.length<=n->vj H->Jr (K w.params) H a (ns.map V.int)->sp w [.ref a] H (λv _=>v=.bl KN) λ_ _ _=>False)
  (yc:∀(w:RX) (H:Hp) (s:Rj) (e:Re) (s':Rj),CX w [] H s (λ_ _ _=>False) e s'->False) :
  Xk q loose XP YP l.row.toRowW d [] (λf vs=>Wz f vs):=by
 refine Att.zdo hn Mi λw s₀ IR mg mb fa o pm cd doc a vs ns G Y ho hd hcd hmg Fj IA JW hg=>?_;have KX:=hY w _ Y;obtain⟨fd,hb,hF⟩:=F w mg fa _ KX G.T.g hmg;exact zdp KX G.T.g G.T.b G.T.builtins G.T.nolimit hg Fj IA (RL JW wq) hr hF hb (λH hO hS=>KC w H a ns JW hO hS) λH e s'=>yc w H IR e s'
def eA(s:Stmt):Arguments:=match s with
 |.FunctionDef _ a _ _ _ _ _ _ _ _=>a
 |_=>{ posonlyargs:=[],args:=[],vararg:=LG,kwonlyargs:=[],kw_defaults:=[],kwarg:=LG,defaults:=[] }
def dm(s:Stmt):List Stmt:=match s with
 |.FunctionDef _ _ b _ _ _ _ _ _ _=>b
 |_=>[]
def br(s:Stmt):Scope:=match s with
 |.FunctionDef _ _ _ _ _ _ sc _ _ _=>sc
 |_=>{ kind:=.function,names:=[],isGenerator:=Lf,isCoroutine:=Lf }
abbrev E4:GF:=λ_ _ _ _ _ _=>False
abbrev E0:XK:=λ_ _ _=>False
def zdr:uD E4 X E0:=λ_ _ _ _ _ _ _ h=>h.elim
structure Ht(K:Frag)(x qual:Str)(st:Stmt)(f:Addr)(fd:Ts):Prop where
 ex:∃(oc:Re) (od:Option Addr) (kV doc pm:Re) (an:Option Addr) (HG ct:Re) (osl:Array (Option Re)),
  fd=SE x qual (eA st) (dm st) (br st) .none kV doc pm an HG ct/\K.lookup f=Iv ⟨oc,od,.func fd,osl⟩/\UU K HG qual=KN
 kp:Uo K (.ref f)=KN
section
variable {P:RC}{w:RX}{K:Frag}{mg:Str->Option Re}{base:Heap}{X:Cx}
def Ht.ok{x qual:Str}{st:Stmt}{f:Addr}{fd:Ts}{N ps:List Str}{k:Nat}{sp:Sp}(F:Ht K x qual st f fd)(S:DP N ps (br st))(len:∀vs H Q E,sp vs H Q E->vs.length=ps.length)
  (JF:∀(HG:Re) (A:R9) (outer:List Env) (s:Rj) (H:Hp) (vs:List V) (Q:VK) (E:XK),JL k (A.deeper (U9 qual (br st) s.heap.objs.size f HG))->sp vs H Q E ->
   ∃t,Jx (fM E4 P w K mg base N qual (br st) f HG A outer s H E).nox (dm st) t/\t { nx:=λ_ H'=>Q .non H',rt:=Q } (start N vs) H):Ft P w K mg base E4 (k+1) f fd ps sp:=by
 obtain⟨oc,od,kV,doc,pm,an,HG,ct,osl,rfl,lk,hcd⟩:=F.ex;refine zce lk hcd S len λA outer s H vs Q E hr KC=>?_;obtain⟨t,h,q⟩:=JF HG A _ s H vs Q E hr KC;exact⟨t,h.nox,q⟩
def Ht.binds{x qual:Str}{st:Stmt}{f:Addr}{fd:Ts}{ps:List Str}(F:Ht K x qual st f fd)
  (h:∀(kV doc pm:Re) (an:Option Addr) (HG ct:Re) (us:List Re),us.length=ps.length->V2 (SE x qual (eA st) (dm st) (br st) .none kV doc pm an HG ct) ⟨us,[]⟩=pure (ps.zip us)):Binds K fd ps []:=by
 obtain⟨oc,od,kV,doc,pm,an,HG,ct,osl,rfl,lk,hcd⟩:=F.ex;exact .all (h kV doc pm an HG ct)
def zuw{x qual:Str}{st:Stmt}{f:Addr}{oc:Re}{od an:Option Addr}{osl:Array (Option Re)}{kV doc pm HG ct:Re}(l:K.lookup f=Iv ⟨oc,od,.func (SE x qual (eA st) (dm st) (br st) .none kV doc pm an HG ct),osl⟩)
  (c:UU K HG qual=KN) (k:Uo K (.ref f)=KN):Ht K x qual st f (SE x qual (eA st) (dm st) (br st) .none kV doc pm an HG ct):=⟨⟨oc,od,kV,doc,pm,an,HG,ct,osl,rfl,l,c⟩,k⟩
def pv(i:Nat)(hN:autoParam (X.N[i]? = Iv x) u10)(hv:autoParam (EC X.env.scope x) u18)(hd:autoParam ((x == ("__debug__" : Str))=Lf) u11)
  (hcd:autoParam ((x == ("__classdict__" : Str))=Lf) u11):PE X (.Name x pos) (BY i):=zaj hN hv hd hcd
end
def fJ{A B:Prop}(h:B):if Lf=KN then A else B :=by simp_all
def gO{A B:Prop}(h:A):if KN=KN then A else B :=by simp_all
end L2
set_option maxHeartbeats 4000000
namespace K1
open PySem
noncomputable def has(signs x:Str):Bool:=x.cps.toList.all λc=>decide (c∈signs.cps.toList)
def HJ:Str:="abcdefghijklmnopqrstuvwxyz"
def G9:Str:="abcdefghijklmnopqrstuvwxyz0123456789-"
def single:Ra->Bool
 |.int i=>decide ((if i<0 then -i else i)<=10^18)
 |.str x=>decide (x.length<=20)&&has G9 x
 |_=>Lf
noncomputable def aC:Nat->Ra->Bool
 |0,.tuple _=>Lf
 |n+1,.tuple ds=>decide (ds.length<=8)&&ds.all (aC n)
 |_,d=>single d
noncomputable def aH:Nat->Ra->Int
 |n+1,.tuple ds=>1+(ds.map (aH n)).sum
 |_,_=>1
def isName:Ra->Bool
 |.str x=>decide (1<=x.length)&&decide (x.length<=8)&&has HJ x
 |_=>Lf
def ay(d:Ra):Bool:=aC 4 d&&decide (aH 4 d<=40)
theorem zux{α:Type}(f:α->Int)(h:∀a,1<=f a):∀l:List α,(l.length:Int)<=(l.map f).sum
 |[]=>by simp
 |a::r=>by
  have:=zux f h r;have:=h a;simp
  lia
noncomputable def Gf:Nat->Ra->Bool
 |0,.tuple _=>Lf
 |n+1,.tuple ds=>ds.all (Gf n)
 |_,_=>KN
theorem sj:∀(n:Nat) (d:Ra),aC n d=KN->Gf n d=KN
 |0,d,h=>by cases d <;> first|rfl|cases h
 |n+1,d,h=>by
  cases d with
  |tuple ds=>
   have e:aC (n+1) (.tuple ds)=(decide _&&ds.all _):=rfl;rw[e,Ro] at h;exact Rq.mpr λx hx=>sj n x (Rq.mp h.2 x hx)
  |_=>rfl
end K1
namespace L2
open PySem
noncomputable def cT(env:Env):List (Str×TV)->List (Str×Addr)->List (Str×Addr)
 |[],acc=>acc
 |(n,k)::r,acc=>cT env r (if (k == .free)=KN then (n,(env.cells.lookup n).getD 0)::acc else acc)
theorem sf:∀(l:List (Str×TV)) (acc:List (Str×Addr)),(∀x∈l,x.2=.free->∃c,env.cells.lookup x.1=Iv c) ->
  (forIn l acc (λx r=>match x with
   | (name,kind)=>if (kind == S3)=KN then (do
     let c ←cellOf env name
     pure (Vi ((name,c)::r))) else pure (Vi r)):Sem (List (Str×Addr)))=pure (cT env l acc)
 |[],acc,_=>rfl
 |(n,k)::r,acc,h=>by
  rw[List.forIn_cons];have hr:=λx hx=>h x (Rc _ hx)
  cases hk:(k == S3) with
  |false=>
   have ih:=sf r acc hr
   have e:cT env ((n,k)::r) acc=cT env r acc:=by simp[cT,hk]
   rw[e];dsimp only;rw[if_neg (by simp_all)];exact ih
  |true=>
   obtain⟨c,hc⟩:=h _ Rf (by simpa using hk);have ih:=sf r ((n,c)::acc) hr;have HL:=hc
   have e:cT env ((n,k)::r) acc=cT env r ((n,c)::acc):=by simp[cT,hk,HL]
   have e2:cellOf env n=pure c:=by unfold cellOf;rw[HL]
   rw[e];dsimp only;rw[if_pos hk,e2];exact ih
def zuy(h:∀x∈scope.names,x.2=.free->∃c,env.cells.lookup x.1=Iv c):closureFor scope env=pure (cT env scope.names []):=by
 have q:=sf  _ [] h;exact congrArg (λt=>t >>= λz=>pure z) q
theorem zuz:∀(l:List (Str×TV)) (acc:List (Str×Addr)) (x:Str) (c:Addr),(∀y d,acc.lookup y=Iv d->env.cells.lookup y=Iv d) ->
  (∀y∈l,y.2=.free->∃c,env.cells.lookup y.1=Iv c)->(cT env l acc).lookup x=Iv c->env.cells.lookup x=Iv c
 |[],acc,x,c,ha,_,e=>ha x c e
 |(n,k)::r,acc,x,c,ha,h,e=>by
  have hr:=λx hx=>h x (Rc _ hx);refine zuz r _ x c ?_ hr e;intro y d q
  cases hk:(k == S3) with
  |false=>simp_all
  |true=>
   rw[hk,if_pos rfl] at q
   obtain⟨c',hc⟩:=h _ Rf (by simpa using hk)<;>grind
theorem zva:∀(l:List (Str×TV)) (acc:List (Str×Addr)) (x:Str),(acc.lookup x).isSome=KN->((cT env l acc).lookup x).isSome=KN
 |[],_,_,h=>h
 |(n,k)::r,acc,x,h=>by
  refine zva r _ x ?_
  cases hk:(k == S3) <;>simp_all
theorem zvb:∀(l:List (Str×TV)) (acc:List (Str×Addr)) (x:Str),(x,S3)∈l->((cT env l acc).lookup x).isSome=KN
 |[],_,_,h=>absurd h (by simp)
 |(n,k)::r,acc,x,h=>by
  rcases Ru.mp h with e|e
  .refine zva r _ _ ?_<;>simp_all
  .exact zvb r _ x e
structure CS(osc:TU)(N:List Str)(x:Str)(scope:TU)(N':List Str):Prop where
 kind:scope.kind=.function
 nocell:∀y∈scope.names,y.2≠.cell
 names:∀y∈scope.names,y.2=.local->scope.names.lookup y.1=Iv .local
 hx:scope.names.lookup x=Iv .local
 only:∀y∈scope.names,y.2=.local->y.1=x\/y.1=".0"
 free:∀y∈scope.names,y.2=.free->osc.names.lookup y.1=Iv .cell\/osc.names.lookup y.1=Iv .free
 nd:(x::N').Nodup
 n0:(".0" : Str)∉N'
 len:N'.length=N.length
 rel:∀p∈N'.zip N,p.1=p.2\/∀q∈scope.names,q.1≠p.1
def CS.at{osc:TU}{N N':List Str}{x:Str}{scope:TU}(S:CS osc N x scope N'){j:Nat}{y:Str}(h:N'[j]? = Iv y):N[j]? = Iv y\/∀q∈scope.names,q.1≠y:=by
 have hl:=(Rh.mp h).1
 have CM:j<N.length:=by rw[←S.len];exact hl
 have m:(N'.zip N)[j]? = Iv (y,N[j]):=by
  rw[List.getElem?_zip_eq_some];exact⟨h,TQ CM⟩
 rcases S.rel _ (Rw m) with z|z
 simp_all
 .exact .inr z
theorem zvc{c:Str×TV->Bool}:∀{names:List (Str×TV)}{y:Str}{k':TV},
  (names.map λp=>if (p.2 == S3&&c p)=KN then (p.1,NameKind.cell) else (p.1,p.2)).lookup y=Iv k'->∃k,(y,k)∈names/\(k'=k\/(k=.free/\k'=.cell))
 |[],_,_,h=>by simp at h
 |(n,k)::r,y,k',h=>by
  rw[R7] at h
  by_cases hy:y=n
  .grind
  .have hb:=beq_eq_false_iff_ne.mpr hy
   have h':=by
    cases hc:(k == S3&&c (n,k)) with
    |false=>simp only[hc,Vy,if_false,Ut,hb] at h;exact h
    |true=>simp only[hc,if_true,Ut,hb] at h;exact h
   obtain⟨k2,m,e⟩:=zvc h';exact⟨k2,Rc _ m,e⟩
def rj(h:(XG scope env).names.lookup y=Iv k'):∃k,(y,k)∈scope.names/\(k'=k\/(k=.free/\k'=.cell)):=by
 refine zvc (c:=λp=>env.scope.kind == .function&&env.kindOf p.1 == Iv .cell) ?_;rw[←h]
 congr 1
 refine RV λp _=>?_;simp only[Bool.and_assoc]
abbrev bY(X:Cx)(x:Str)(scope:TU)(C:Addr)(s0:Rj)(H0:Hp)(ex:List Addr)(N':List Str):Cx where
 prog:=X.prog
 w:=X.w
 K:=X.K
 mg:=X.mg
 base:=X.base
 A:=X.A
 N:=x::N'
 s₀:=s0
 H₀:=H0
 env:=WU scope (cT X.env scope.names []) C X.env
 outer:=X.stack
 stack:=X.stack
 ex:=ex
 fn:=λ_=>Lf
 calm:=X.calm
 pn:=[]
 xe:=λ_ _=>False
section
variable {X:Cx}{pins:List (Addr×Obj)}{σ:St}{H:Hp}{s:Rj}{x:Str}{scope:TU}{N':List Str}
def sJ(I:Inv X pins σ H s)(S:CS X.env.scope X.N x scope N'):∀y∈scope.names,y.2=.free->∃c,X.env.cells.lookup y.1=Iv c:=λy hy e=>
 I.ok.has y.1 (S.free y hy e)
def zvd(I:Inv X pins σ H s)(S:CS X.env.scope X.N x scope N')(e:(cT X.env scope.names []).lookup y=Iv c):X.env.cells.lookup y=Iv c:=zuz _ [] y c (λ_ _ z=>by simp at z) (sJ I S) e
def zve(I:Inv X pins σ H s)(S:CS X.env.scope X.N x scope N')(e:(y,S3)∈scope.names):∃c,(cT X.env scope.names []).lookup y=Iv c/\X.env.cells.lookup y=Iv c:=by
 obtain⟨c,hc⟩:=VR.mp (zvb  _ [] y e);exact⟨c,hc,zvd I S hc⟩
def zvf(I:Inv X pins σ H s)(S:CS X.env.scope X.N x scope N')(hf:∀b∈fp,d8 X pins H b)(ho:∀b∈fp,∃o,s.heap.get? b=Iv o)
  (Fe:h'.Ns (s.heap.push oD).objs.size m) (Ea:TK (s.heap.push oD).objs.size ((s.heap.push oD).push oC) h') :
  Inv (bY X x scope (s.heap.push oD).objs.size { s with heap:=s.heap.push oD } H (s.heap.objs.size::fp) N') [] (LG::σ) H { s with heap:=h',toks:=tk }:=by
 have I3:Inv X pins σ H { s with heap:=s.heap.push oD,toks:=s.toks }:=I.kept λb o e=>Ri _ e;have hC:(s.heap.push oD).objs.size=s.heap.objs.size+1:=TX ..
 have K3:∀b o,(s.heap.push oD).get? b=Iv o->h'.get? b=Iv o:=λb o e=>
  (Ea.2 b (RN (Rv e))).trans (Ri _ e)
 have up:∀b o,s.heap.get? b=Iv o->h'.get? b=Iv o:=λb o e=>K3 b o (Ri _ e);have cl:=λ{y c} e=>zvd (y:=y) (c:=c) I S e
 have clt:∀y c,X.env.cells.lookup y=Iv c->c<s.heap.objs.size:=λy c e=>let ⟨v,q⟩:=I.cell y c e;q.lt
 have inner:∀{y:Str}{k':TV},(XG scope X.env).names.lookup y=Iv k'->(k'=.cell\/k'=.free)->(y,S3)∈scope.names:=λ{y k'} e hk=>by
  obtain⟨k,mem,r⟩:=rj e
  rcases r with r|⟨r,_⟩
  .rcases hk with z|z
   .exact absurd (r.symm.trans z) (S.nocell _ mem)
   .simp_all
  .simp_all
 have ok:(bY X x scope (s.heap.push oD).objs.size { s with heap:=s.heap.push oD } H (s.heap.objs.size::fp) N').Ok:=by
  refine⟨I.ok.mod,S.kind,I.ok.glob,I.ok.blt,Rn _,λy z c e1 e2=>I.ok.inj y z c (cl e1) (cl e2),λy hk=>?_,λy c e=>(nomatch e),I.ok.hd,I.ok.frames,.inl rfl,λb hb=>?_,λb o e=>?_,
   RL (RL I.ok.bsz I.sz) (by simp_all),λb o e hb=>?_,λb hb z=>?_,I3.stack,I.stkFree⟩
  .have mem:(y,S3)∈scope.names:=by
    rcases hk with z|z
    .exact inner z (.inl rfl)
    .exact inner z (.inr rfl)
   obtain⟨c,hc,_⟩:=zve I S mem;exact⟨c,hc⟩
  .rcases Ru.mp hb with e|e
   .subst e
    exact⟨by show s.heap.objs.size≠(s.heap.push oD).objs.size;lia,λy c e=>RN (clt y c (cl e))⟩
   .obtain⟨o,q⟩:=ho b e
    have q2:=Rv q;exact⟨by show b≠(s.heap.push oD).objs.size;rw[hC];exact RN (TM q2),λy c e'=>(hf b e).2.2.2.2.1 y c (cl e')⟩
  .exact⟨Ri _ (I.bs b o e).1,(I.bs b o e).2⟩
  .rcases Ru.mp hb with z|z
   .have q2:=Rv (I.bs b o e).1
    rw[z] at q2;exact SO _ q2
   .rcases(hf b z).2.2.2.1 with q|q
    .exact I.ok.noex b o e q
    .have q2:=Rv (I.ok.bs b o e).1
     exact SO _ (Rz q2 q)
  .have z':=I.stkSub b z
   rcases Ru.mp hb with e|e
   .subst e
    rcases Ru.mp z' with q|q
    .have q2:=I.lt
     rw[←q] at q2;exact SO _ q2
    .exact I.nofs (Rn _) q
   .rcases Ru.mp z' with q|q
    .exact(hf b e).2.1 q
    .exact(hf b e).2.2.1 q
 obtain⟨mo,Hs,hlo⟩:=I.loc;refine⟨ok,rfl,I.bare,Un.kept K3,⟨m,Fe,λi y v e1 e2 e3=>?_⟩,λy c e=>?_,I.hok.fresh (by show s.heap.objs.size<=(s.heap.push oD).objs.size;lia),λy c e=>I.freeC y c (cl e),λp hp=>absurd hp (by simp),I.hok.kept up,?_⟩
 .cases i with
  |zero=>simp at e2
  |succ j=>
   have Aj:N'[j]? = Iv y:=by simpa using e1
   have vis:∃k,(y,k)∈scope.names:=by
    rcases(show EC (XG scope X.env) y from e3) with z|z|z <;> exact let ⟨k,mem,_⟩:=rj z;⟨k,mem⟩
   have Gg:X.N[j]? = Iv y:=by
    rcases S.at Aj with z|z
    .exact z
    .obtain⟨k,mem⟩:=vis
     exact absurd rfl (z _ mem)
   have KL:σ[j]? = Iv (Iv v):=by simpa using e2
   have yx:y≠x:=λz=>by
    have nd:=S.nd;rw[RJ] at nd;refine nd.1 ?_;rw[←z];exact Rw Aj
   have kin:((XG scope X.env).names.lookup y=Iv .cell\/(XG scope X.env).names.lookup y=Iv .free):=by
    rcases(show EC (XG scope X.env) y from e3) with z|z|z
    .obtain⟨k,mem,r⟩:=rj z
     rcases r with r|⟨_,r⟩
     .rcases S.only _ mem r.symm with z2|z2
      .exact absurd z2 yx
      .exact absurd (Rw Aj) (by rw[show y=(".0" : Str) from z2];exact S.n0)
     .cases r
    .exact .inl z
    .exact .inr z
   have mem:(y,S3)∈scope.names:=by
    rcases kin with z|z
    .exact inner z (.inl rfl)
    .exact inner z (.inr rfl)
   have vo:EC X.env.scope y:=by
    rcases S.free _ mem rfl with z|z
    .exact .inr (.inl z)
    .exact .inr (.inr z)
   obtain⟨u,ru,lk⟩:=hlo j y v Gg KL vo;refine⟨u,ru,.inr ⟨kin,?_⟩⟩;obtain⟨c,hc,HL⟩:=zve I S mem;refine⟨c,hc,?_⟩
   rcases lk with⟨z,_⟩|⟨_,c2,z2,q⟩
   .exfalso
    have z':X.env.scope.names.lookup y=Iv .local:=z
    rcases S.free _ mem rfl with r|r <;> (rw[z'] at r;cases r)
   .rw[HL] at z2
    cases z2;obtain⟨o,q1,q2⟩:=q;exact⟨o,up _ _ q1,q2⟩
 .obtain⟨v,o,q1,q2⟩:=I.cell y c (cl e)
  exact⟨v,o,up _ _ q1,q2⟩
 .have:=I.len
  simp[this,S.len]
def zvg(I:Inv X pins σ H s)(hf:∀b∈fp,d8 X pins H b)
  (hCd:C=(s.heap.push oD).objs.size) (J:Inv (bY X x scope C { s with heap:=s.heap.push oD } H (s.heap.objs.size::fp) N') Fu σ' H1 s1) (Ea:TK C s1.heap h') (hD0:H1 s.heap.objs.size=LG)
  (new:∃ED n,L7 ys ED/\s1.heap.get? s.heap.objs.size=Iv { cls:=.type "list",data:=.seq ED.toArray n }) (hz:ys.length<=Rp) :
  Inv X pins σ (upd H1 s.heap.objs.size (.lst ys)) { s1 with heap:=h' }:=by
 have hC:C=s.heap.objs.size+1:=by simp_all
 have nD:∀b o,s.heap.get? b=Iv o->b≠s.heap.objs.size:=λb o e=>RN (Rv e)
 have nC:∀b o,s.heap.get? b=Iv o->b≠C:=λb o e=>by rw[hC];exact RN (TM (Rv e))
 have up:∀b o,s.heap.get? b=Iv o->(s.heap.push oD).get? b=Iv o:=λb o e=>Ri _ e;have nx:∀b,b∉fp->b≠s.heap.objs.size->b∉s.heap.objs.size::fp:=λb h1 h2 z=>(Ru.mp z).elim h2 h1
 have xJ:s.heap.objs.size≠C:=by simp_all
 have tr:∀b u,H1 b=Iv u->b≠s.heap.objs.size:=λb u e z=>by simp_all
 have trC:∀b u,H1 b=Iv u->b≠C:=λb u e z=>by
  have:=J.free;rw[z] at e;have q:H1 C=LG:=J.free;rw[q] at e;cases e
 obtain⟨ED,n,rv,eD⟩:=new;have B:=J.base;refine I.call' (s':={ s1 with heap:=h' }) (ch:=fp) J.os ⟨λb o e q h1 h2=>?_,λb o e q h1 h2=>?_,λb o e q h2=>?_,λb o e h2=>?_,λb xs e=>?_,λb o u e=>?_,λb ps e=>?_⟩ (λb u e=>?_) J.bare λb hb=>?_
 .exact(Ea.2 b (nC b o e)).trans (B.keep b o (up b o e) q h1 (nx b h2 (nD b o e)))
 .obtain⟨sl,z⟩:=B.slot b o (up b o e) q h1 (nx b h2 (nD b o e))
  exact⟨sl,(Ea.2 b (nC b o e)).trans z⟩
 .rw[aG (nD b o e)]
  exact B.free b o (up b o e) q (nx b h2 (nD b o e))
 .obtain⟨o',z⟩:=B.there b o (up b o e) (nx b h2 (nD b o e))
  exact⟨o',(Ea.2 b (nC b o e)).trans z⟩
 .have z:=B.tups b xs e
  rw[aG (tr b _ z)];exact z
 .have z:=B.frzs b o u e
  rw[aG (tr b _ z)];exact z
 .obtain⟨more,z⟩:=B.tbls b ps e
  exact⟨more,by rw[aG (tr b _ z)];exact z⟩
 .by_cases hb:b=s.heap.objs.size
  .subst hb
   rw[a9] at e;cases e;exact⟨hz,ED,n,rv,(Ea.2 _ xJ).trans eD⟩
  .rw[aG hb] at e
   refine(J.hok b u e).stay (λc v hc q=>(Ea.2 c ?_).trans q) (λc q=>by rw[aG (tr c _ q)];exact q) λc xs q=>by rw[aG (tr c _ q)];exact q
   rcases hc with z|z
   .rw[z];exact trC b u e
   .exact trC c _ z
 .obtain⟨_,f1,_,f3,f4,f5⟩:=hf b hb
  exact⟨f3,f1,f4,f5⟩
end
def FQ(X:Cx)(ifs:List Expr)(t:TT):Prop:=
 ∀(pins:List (Addr×Obj)) (s:Rj) (σ:St) (H:Hp) (Q:Bool->Hp->Prop) (E:Re->Rj->Prop),Inv X pins σ H s->t σ H Q ->
  RP (RM X.prog X.w) X.A (forIn ifs KN λc r=>if r=KN then do
   let ok ←YJ c X.env (eval c X.env)
   pure (Vi ok) else pure (Vi r)) (TP X pins σ Q) E s
def zds:FQ X [] (λ_ H Q=>Q KN H):=λ_ _ _ H _ _ I h=>wpAny_tests_nil ⟨H,I,h⟩
def zdt(hx:X.xe=λ_ _=>False)(h:PT X c t):FQ X [c] t:=λpins s σ H Q _ I q=>
 wpAny_tests_one (S5 (h pins s σ H Q I q) (λ_ _ z=>z) λe s' z=>by simp_all)
def qO(σ:St)(J:It)(tt:TT)(te:TE)(W:Nat->Nat->List V->Hp->Prop)(D:List V->Hp->Prop):Prop:=∀i m ys H,W i m ys H ->
 (J.stop i H/\ys.length<=Rp/\D ys H)\/(J.go i H/\ys.length<Rp/\∃N:List V->Hp->Prop,(∀Gy H',N Gy H'->∃m',m' < m/\W (i+1) m' Gy H')/\∀v H',J.yld i H v H'->tt (Iv v::σ) H' λb H2=>
  if b=KN then te (Iv v::σ) H2 λy H3=>N (ys++[y]) H3 else N ys H2)
section
variable {X:Cx}{pins:List (Addr×Obj)}{σ:St}{H:Hp}{s:Rj}{x:Str}{scope:TU}{N':List Str}{elt iter:Expr}{ifs:List Expr}{px pos:Pos}{wi:TI}{te:TE}{tt:TT}
noncomputable def zvh{fp:List Addr}{it C:Addr}{tn:Nat->Heap->Prop}{J:It}{oD:Obj}{elt iter:Expr}{ifs:List Expr}{px pos:Pos}{te:TE}{tt:TT}{W:Nat->Nat->List V->Hp->Prop}{Dn:List V->Hp->Prop}
  {R:Result->Rj->Prop}{σ':St}{s4:Rj}{m0:Nat}{X':Cx}(hX:bY X x scope C { s with heap:=s.heap.push oD } H (s.heap.objs.size::fp) N'=X') (Ga:X.calm=KN) (S:CS X.env.scope X.N x scope N') (hf:∀b∈fp,d8 X pins H b) (ho:∀b∈fp,∃o,s.heap.get? b=Iv o) (hCd:C=(s.heap.push oD).objs.size)
  (T:Turn X.prog X.w X.K (.Name x px) J fp it tn) (I4:Inv X' [] (LG::σ) H s4) (Ha:tn 0 s4.heap) (hD4:s4.heap.get? s.heap.objs.size=Iv { cls:=.type "list",data:=.seq #[] 0 })
  (hDn:H s.heap.objs.size=LG) (hte:PE X' elt te) (htt:FQ X' ifs tt)
  (w0:W 0 m0 [] H) (turn:qO σ J tt te W Dn)
  (hR:∀s1 H1 KE ys ED n,Inv X' [] KE H1 s1->H1 s.heap.objs.size=LG->L7 ys ED->s1.heap.get? s.heap.objs.size=Iv { cls:=.type "list",data:=.seq ED.toArray n }->ys.length<=Rp->Dn ys H1->R (.ok .next) s1) :
  Xy (RM X.prog X.w) X.A (.compLoop (.ListComp elt [⟨.Name x px,iter,ifs,0⟩] scope pos) 0 (.ref it) (.ref s.heap.objs.size) (WU scope (cT X.env scope.names []) C X.env)) R s4:=by
 have hC:C=s.heap.objs.size+1:=by rw[hCd];exact TX ..
 have xP:X'.prog=X.prog:=by rw[←hX]
 have xW:X'.w=X.w:=by rw[←hX]
 have xK:X'.K=X.K:=by rw[←hX]
 have xA:X'.A=X.A:=by rw[←hX]
 have xE:X'.env=WU scope (cT X.env scope.names []) C X.env:=by rw[←hX]
 have xC:X'.calm=KN:=by rw[←hX];exact Ga
 have xex:X'.ex=s.heap.objs.size::fp:=by rw[←hX]
 have xpn:X'.pn=[]:=by rw[←hX]
 have xxe:X'.xe=λ_ _=>False:=by rw[←hX]
 have xN:X'.N=x::N':=by rw[←hX]
 have xL:X'.env.locals=C:=by rw[xE];rfl
 have GP:X'.env.scope.names.lookup x=Iv .local:=by rw[xE];exact lookup_relabel_local S.hx
 have lt:∀b∈fp,b<s.heap.objs.size:=λb hb=>let ⟨_,e⟩:=ho b hb;Rv e
 have zw:∀{pl:List (Addr×Obj)}{H':Hp},(∀p∈pl,p.1=s.heap.objs.size)->(∀b∈fp,H' b=LG)->∀b∈fp,d8 X' pl H' b:=λ{pl H'} hp hn b hb=>by
  have Jq:=I4.ok
  have hm:b∈X'.ex:=by rw[xex];exact Rc _ hb
  refine⟨hn b hb,(Jq.exf b hm).1,Jq.exfs b hm,.inl hm,(Jq.exf b hm).2,λp Mh z=>?_⟩;rw[xpn] at Mh;have q1:=hp p (by simpa using Mh);have q2:=lt b hb;rw[←z,q1] at q2;exact SO _ q2
 have dok:∀{pl:List (Addr×Obj)}{H':Hp},(∀p∈pl,p.1∈fp)->H' s.heap.objs.size=LG->d8 X' pl H' s.heap.objs.size:=λ{pl H'} hp hn=>by
  have Jq:=I4.ok
  have hm:s.heap.objs.size∈X'.ex:=by rw[xex];exact Rf
  refine⟨hn,(Jq.exf _ hm).1,Jq.exfs _ hm,.inl hm,(Jq.exf _ hm).2,λp Mh z=>?_⟩;rw[xpn] at Mh;have q2:=lt p.1 (hp p (by simpa using Mh));rw[z] at q2;exact SO _ q2
 obtain⟨II,hI⟩:∃II:Nat->Rj->Prop,∀m s',II m s'↔∃i JG H' ys ED n,Inv X' [] (JG::σ) H' s'/\tn i s'.heap/\(∀b∈fp,H' b=LG)/\H' s.heap.objs.size=LG/\L7 ys ED/\s'.heap.get? s.heap.objs.size=Iv { cls:=.type "list",data:=.seq ED.toArray n }/\W i m ys H':=⟨_,λ_ _=>.rfl⟩
 refine codeAny_compLoop_tests (I:=II) ?_ m0 ((hI _ _).mpr ⟨0,LG,H,[],[],0,I4,Ha,λb hb=>(hf b hb).1,hDn,.nil,hD4,w0⟩);generalize (ZM (RM X.prog X.w) X.A (WU scope (cT X.env scope.names []) C X.env) λe s'=>R (.error e) s')=EE;intro m s5 h;obtain⟨i,JG,H5,ys,ED,n,I5,EY,Lk,d5,rv,e5,w5⟩:=(hI _ _).mp h
 have ze:Inv X' ([]++gG [s.heap.objs.size] s5.heap) (JG::σ) H5 s5:=I5.pinned (λb hb=>by
   have e:b=s.heap.objs.size:=by simpa using hb
   rw[e];exact dok (λp hp=>absurd hp (by simp)) d5) λb hb=>by
   have e:b=s.heap.objs.size:=by simpa using hb
   rw[e];exact⟨_,e5,λv z=>by cases z⟩
 have pD:([]++gG [s.heap.objs.size] s5.heap:List (Addr×Obj))=[(s.heap.objs.size,{ cls:=.type "list",data:=.seq ED.toArray n })]:=by
  simp[gG,e5]
 rw[pD] at ze
 have p1:∀p∈[(s.heap.objs.size,({ cls:=.type "list",data:=.seq ED.toArray n }:Obj))],p.1=s.heap.objs.size:=λp hp=>by
  have e:p=(s.heap.objs.size,{ cls:=.type "list",data:=.seq ED.toArray n }):=by simpa using hp
  rw[e]
 have hsz:ED.length=ys.length:=rv.length.symm
 rcases turn i m ys H5 w5 with⟨stop,hz,dn⟩|⟨go,hz,N,hN,step⟩
 .have q:=T.done X' xP xW xK xC i _ s5 (JG::σ) H5 EE ze (zw p1 Lk) EY stop
  rw[xA] at q;refine S5 q (λr s6 z=>?_) λ_ _ z=>z;obtain⟨rfl,I6⟩:=z;refine hR s6 H5 (JG::σ) ys ED n ?_ d5 rv (I6.pin _ (RG _ (RD.mpr rfl))).1 hz dn;exact I6.pins_of λp hp=>absurd hp (by simp)
 .have q:=T.item X' xP xW xK xC i _ s5 (JG::σ) H5 EE ze (zw p1 Lk) EY go
  rw[xA] at q;refine S5 q (λr s6 z=>?_) λ_ _ z=>z;obtain⟨u,rfl,z⟩:=z;dsimp only;have z':RP (RM X.prog X.w) X.A (pure ()) _ _ s6:=z;refine Rr (m:=pure ()) (f:=λ_=>Wm (.Name x px) (WU scope (cT X.env scope.names []) C X.env) u) (S5 z' (λ_ s7 z=>?_) λ_ _ z=>z);obtain⟨v,H7,I7,rv7,y7,xG,fr7⟩:=z;have I7p:=I7.pinned (zw p1 fr7) (T.obj _ _ xG);rw[←xE]
  have nd:X'.N.Nodup:=by rw[xN];exact S.nd
  have hi0:X'.N[0]? = Iv x:=by rw[xN];rfl
  refine VN (sF (E:=EE) (i:=0) I7p nd hi0 (.inl GP) rv7 (λs8 I8=>?_) (.inr GP));have I8':Inv X' _ (Iv v::σ) H7 s8:=I8;have t8:=htt _ s8 (Iv v::σ) H7 _ EE I8' (step v H7 y7);rw[xP,xW,xA] at t8;refine S5 t8 (λok s9 z=>?_) λ_ _ z=>z;obtain⟨H9,I9,q9⟩:=z
  have back:∀{s':Rj}{H':Hp}{EA:St},Inv X' ([(s.heap.objs.size,({ cls:=.type "list",data:=.seq ED.toArray n }:Obj))]++gG fp s7.heap) EA H' s' ->
    tn (i+1) s'.heap/\(∀b∈fp,H' b=LG)/\H' s.heap.objs.size=LG/\s'.heap.get? s.heap.objs.size=Iv { cls:=.type "list",data:=.seq ED.toArray n }/\Inv X' [] EA H' s':=λ{s' H' EA} I'=>by
   refine⟨T.keep _ _ _ xG λb hb o e=>(I'.pin (b,o) (RG _ (RG _ (jL hb e)))).1,λb hb=>?_,?_,?_,I'.pins_of λp hp=>absurd hp (by simp)⟩
   .obtain⟨o,e,_⟩:=T.obj _ _ xG b hb
    exact(I'.pin (b,o) (RG _ (RG _ (jL hb e)))).2.1
   .exact(I'.pin (s.heap.objs.size,_) (RG _ (SW _ (RD.mpr rfl)))).2.1
   .exact(I'.pin (s.heap.objs.size,_) (RG _ (SW _ (RD.mpr rfl)))).1
  cases ok with
  |false=>
   simp only[Vy,if_false] at q9 ⊢;obtain⟨m',hm,w9⟩:=hN _ _ q9;obtain⟨a1,a2,a3,a4,a5⟩:=back I9;exact⟨m',hm,(hI _ _).mpr ⟨i+1,Iv v,H9,ys,ED,n,a5,a1,a2,a3,rv,a4,w9⟩⟩
  |true=>
   simp only[if_true] at q9 ⊢;have t9:=hte _ s9 (Iv v::σ) H9 _ I9 q9;rw[xP,xW,xA,xxe] at t9;refine S5 t9 (λu2 s10 z=>?_) λ_ _ z=>z.elim;obtain⟨y,H10,I10,r10,q10⟩:=z;obtain⟨m',hm,w10⟩:=hN _ _ q10;obtain⟨a1,a2,a3,a4,a5⟩:=back I10;refine wpAny_list_append_plain ⟨n,a4⟩ (λh' pl sb=>?_) (by rw[Sw];omega);obtain⟨n',e'⟩:=pl;have D0:=dok (pl:=[]) (λp hp=>absurd hp (by simp)) a3;refine⟨m',hm,(hI _ _).mpr ⟨i+1,Iv v,H10,ys++[y],ED++[u2],n',a5.turned (t':=s10.toks) (λb o hb e=>(sb.2 b hb).trans e) D0.1 D0.2.1 D0.2.2.2.1 D0.2.2.2.2.1 D0.2.2.2.2.2,?_,a2,a3,rv.append (.cons r10 .nil),by simpa using e',w10⟩⟩;exact T.keep _ _ _ a1 λb hb o e=>(sb.2 b (RN (lt b hb))).trans e
def A5(wi:TI)(tt:TT)(te:TE):TE:=λσ H Q=>wi σ H λJ H1=>∃W:Nat->Nat->List V->Hp->Prop,(∃m,W 0 m [] H1)/\qO σ J tt te W λys H=>∀p,H p=LG->Q (.ref p) (upd H p (.lst ys))
def zdu(hc:X.calm=KN)(S:CS X.env.scope X.N x scope N')(hi:PI X (.Name x px) iter wi)(he:∀C s0 H0 ex,PE (bY X x scope C s0 H0 ex N') elt te)
  (ht:∀C s0 H0 ex,FQ (bY X x scope C s0 H0 ex N') ifs tt) (hs:autoParam (∀v,RY iter X.env v=pure v) u17):PE X (.ListComp elt [⟨.Name x px,iter,ifs,0⟩] scope pos) (A5 wi tt te):=by
 intro pins s σ H Q I h;refine VT  rfl hs (zuy (sJ I S)) S.kind S.names (JI (hi pins s σ H _ I h) λv s1 h1=>JI h1 λKe s2 h2=>?_);obtain⟨it,fp,tn,J,H2,rfl,I2,T,Fv,f2,W,⟨m0,w0⟩,turn⟩:=h2
 have ho:∀b∈fp,∃o,s2.heap.get? b=Iv o:=λb hb=>let ⟨o,e,_⟩:=T.obj _ _ Fv b hb;⟨o,e⟩
 refine S7 (WV S.nocell (by simp) (λh' Fe Ea=>?_) S.kind);have I4:=zvf (x:=x)  (tk:=s2.toks+([]:List (Str×Re)).length) I2 S f2 ho Fe Ea
 have K3:∀b o,(s2.heap.push { cls:=.type "list",dict:=LG,data:=.seq _ }).get? b=Iv o->h'.get? b=Iv o:=λb o e=>
  (Ea.2 b (RN (Rv e))).trans (Ri _ e)
 have Ha:=T.keep _ _ _ Fv λb _ o e=>K3 b o (Ri _ e)
 have loop:=zvh  (iter:=iter)  (pos:=pos) (R:=compPost (RM X.prog X.w) X.A X.xe LG (EP X pins σ Q) _ _) (σ':=σ)
  rfl hc S f2 ho rfl T I4 Ha (K3 _ _ (RA _ rfl)) (I2.hok.fresh (Rn _)) (he _ _ _ _) (ht _ _ _ _) w0 turn λs5 H5 σ5 ys ED n J5 d5 rv e5 hz dn=>by
   obtain⟨m,hn,_⟩:=J5.loc;exact⟨m,hn,λFR sb=>⟨.ref _,_,zvg I2 f2 rfl J5 sb d5 ⟨ED,n,rv,e5⟩ hz,rfl,dn _ d5⟩⟩
 exact WA loop (T.self X.A 0 _ _ _ Ha loop)
def LL(i:Nat)(wi:TI)(tt:TT)(te:TE):TS:=λD σ H=>wi σ H λJ H1=>∃W:Nat->Nat->List V->Hp->Prop,(∃m,W 0 m [] H1)/\qO σ J tt te W λys H=>∀p,H p=LG->D.nx (σ.set i (Iv (.ref p))) (upd H p (.lst ys))
def zdv(hc:X.calm=KN)(S:CS X.env.scope X.N x scope N')(hN:X.N.Nodup)(Ds:X.N[i]? = Iv y)(hy:Loc X.env.scope y)(Ij:X.fn y=KN\/X.env.scope.names.lookup y=Iv .local)
  (hi:PI X (.Name x px) iter wi) (he:∀C s0 H0 ex,PE (bY X x scope C s0 H0 ex N') elt te)
  (ht:∀C s0 H0 ex,FQ (bY X x scope C s0 H0 ex N') ifs tt) (GQ:So (.ListComp elt [⟨.Name x px,iter,ifs,0⟩] scope pos) (Iv (.Name y py)) KO.line X.env=pure KN) (hs:autoParam (∀v,RY iter X.env v=pure v) u17) :
  PS X (.Assign [.Name y py] (.ListComp elt [⟨.Name x px,iter,ifs,0⟩] scope pos) KO) (LL i wi tt te):=by
 intro pins s σ H D I h;rw[exec_Assign_Name_used _ _ _ _ GQ];refine Rr (wpAny_standAt (Rr ?_));refine Rr (S5 (VT (use:=Iv (Wm (.Name y py) X.env)) (Q:=λ_ s'=>SP X pins D .next s') rfl hs (zuy (sJ I S)) S.kind S.names (JI (hi pins s σ H _ I h) λv s1 h1=>JI h1 λKe s2 h2=>?_)) (λ_ _ q=>Rx (Rx q)) λ_ _ q=>q);obtain⟨it,fp,tn,J,H2,rfl,I2,T,Fv,f2,W,⟨m0,w0⟩,turn⟩:=h2
 have ho:∀b∈fp,∃o,s2.heap.get? b=Iv o:=λb hb=>let ⟨o,e,_⟩:=T.obj _ _ Fv b hb;⟨o,e⟩
 refine S7 (WV S.nocell (by simp) (λh' Fe Ea=>?_) S.kind);have I4:=zvf (x:=x) (scope:=scope) (tk:=s2.toks+([]:List (Str×Re)).length) I2 S f2 ho Fe Ea
 have K3:∀b o,(s2.heap.push { cls:=.type "list",dict:=LG,data:=.seq ([]:List Re).toArray }).get? b=Iv o->h'.get? b=Iv o:=λb o e=>
  (Ea.2 b (RN (Rv e))).trans (Ri _ e)
 have Ha:tn 0 h':=T.keep _ _ _ Fv λb _ o e=>K3 b o (Ri _ e)
 have v4:s2.heap.objs.size<=(s2.heap.push { cls:=.type "list",dict:=LG,data:=.seq ([]:List Re).toArray }).objs.size:=by simp
 have xJ:(s2.heap.push { cls:=.type "list",dict:=LG,data:=.seq ([]:List Re).toArray }).objs.size≠s2.heap.objs.size:=by rw[TX];lia
 have loop:=zvh (elt:=elt) (iter:=iter) (ifs:=ifs) (pos:=pos) (R:=compPost (RM X.prog X.w) X.A X.xe (Iv (Wm (.Name y py) X.env)) (λ_ s'=>SP X pins D .next s') (.ref s2.heap.objs.size) (s2.heap.push { cls:=.type "list",dict:=LG,data:=.seq ([]:List Re).toArray }).objs.size) (σ':=σ)
  rfl hc S f2 ho rfl T I4 Ha (K3 _ _ (RA _ rfl)) (I2.hok.fresh (Rn _)) (he _ _ _ _) (ht _ _ _ _) w0 turn λs5 H5 σ5 ys ED n J5 d5 rv e5 hz dn=>by
   have J6:=zvg I2 f2 rfl J5 (Z8 _ _) d5 ⟨ED,n,rv,e5⟩ hz;obtain⟨m,hn,_⟩:=J5.loc;refine VN (ztk (u:=.ref s2.heap.objs.size) J6 hN Ds hy (show RelV (.ref s2.heap.objs.size) _ from rfl) (λs7 I7 ⟨a,sb,ha⟩=>?_) Ij)
   have hCa:(s2.heap.push { cls:=.type "list",dict:=LG,data:=.seq ([]:List Re).toArray }).objs.size≠a:=by
    rcases ha with z|z
    .rw[z]
     exact Us (Rz I2.lt v4)
    .obtain⟨v,q⟩:=I2.cell _ _ z
     exact Us (Rz q.lt v4)
   have hn5:H5 (s2.heap.push { cls:=.type "list",dict:=LG,data:=.seq ([]:List Re).toArray }).objs.size=LG:=J5.free;have fk:=I2.fpOk (b:=(s2.heap.push { cls:=.type "list",dict:=LG,data:=.seq ([]:List Re).toArray }).objs.size) (H':=upd H5 s2.heap.objs.size (.lst ys)) v4 (by rw[aG xJ];exact hn5);refine⟨m,hn.sameBut sb hCa,λFR sb2=>⟨_,_,I7.turned (t':=s7.toks) (λb o hb e=>(sb2.2 b hb).trans e) fk.1 fk.2.1 fk.2.2.2.1 fk.2.2.2.2.1 fk.2.2.2.2.2,dn _ d5⟩⟩
 exact WA loop (T.self X.A 0 _ _ _ Ha loop)
end
def zJ(z:Str):It:=⟨λi _=>i<z.cps.size,λi H v H'=>H'=H/\∃c,z.cps[i]? = Iv c/\v=.str ⟨#[c]⟩,λi _=>z.cps.size<=i⟩
def zvi{P:RC}{w:RX}{K:Frag}{tg:Expr}(z:Str)(t:Tok)(ty:String)(it:Addr)(HK:ty="str_ascii_iterator"\/ty="str_iterator") :
  Turn P w K tg (zJ z) [it] it (λi h=>h.IsStrIter it ty z t i) where
 mem:=by simp
 obj:=λi h st b hb=>by
  have e:b=it:=by simpa using hb
  subst e;obtain⟨o,e,c,d⟩:=st;exact⟨o,e,λv q=>by lia⟩
 keep:=λi h h' st k=>let ⟨o,e,r⟩:=st;⟨o,k it (by simp) o e,r⟩
 item:=by
  intro X hP hw hK hc i pins s σ H E I hf st hg;subst hP hw hK;have hi:i<z.cps.size:=hg;obtain⟨f0,f1,f2,f3,f4,f5⟩:=hf it (by simp)
  have fin:∀h',h'.IsStrIter it ty z t (i+1)->TK it s.heap h'->∃u,(Iv (V1 ⟨#[z.cps[i]]⟩ s.toks):Option Re)=Iv u /\
    RP (RM X.prog X.w) X.A (WF tg (.ref it) u) (λ_ s2=>TuP X pins σ (zJ z) [it] (λi h=>h.IsStrIter it ty z t i) i H u s2) E { s with heap:=h',toks:=s.toks+1 }:=λh' st' sb=>by
   have I1:Inv X pins σ H { s with heap:=h',toks:=s.toks+1 }:=I.turned (λb o hb e=>(sb.2 b hb).trans e) f0 f1 f3 f4 f5;obtain⟨o,e,c,d⟩:=id st';refine⟨_,rfl,nq (s:={ s with heap:=h',toks:=s.toks+1 }) (n:=ty) e c d ?_ ⟨.str ⟨#[z.cps[i]]⟩,H,I1,⟨_,rfl⟩,⟨rfl,z.cps[i],by simp[hi],rfl⟩,st',λb hb=>(hf b hb).1⟩⟩
   rcases HK with e|e <;> (rw[e];decide)
  rcases HK with e|e
  .subst e
   exact wpAny_pyNext_ascii_item st (c:=z.cps[i]) (by simp[hi]) fin
  .subst e
   exact wpAny_pyNext_wide_item st (c:=z.cps[i]) (by simp[hi]) fin
 done:=by
  intro X hP hw hK hc i pins s σ H E I hf st hg;subst hP hw hK;have hi:z.cps.size<=i:=hg;obtain⟨f0,f1,f2,f3,f4,f5⟩:=hf it (by simp);have fin:∀h',Heap.ExtBut it s.heap h'->(LG:Option Re)=LG/\Inv X pins σ H { s with heap:=h' }:=λh' eb=>⟨rfl,I.turned (t':=s.toks) (λb o hb e=>eb b o hb e) f0 f1 f3 f4 f5⟩
  rcases HK with e|e
  .subst e
   exact wpAny_pyNext_ascii_end (I.ok.hd hc) st (by simp;omega) fin
  .subst e
   exact wpAny_pyNext_wide_end (I.ok.hd hc) st (by simp;omega) fin
 self:=λ_ _ _ _ _ st h=>by
  rcases HK with e|e
  .subst e
   exact wpAny_pyIter_striter_ascii st h
  .subst e
   exact wpAny_pyIter_striter_wide st h
def all_range(bs:List Bool)(n:Nat)(hn:n=bs.length):(SH n).all (λi=>bs.getD i Lf)=bs.all id:=by
 subst hn;rw[Sl,Rq,Rq];constructor
 .intro h b hb
  obtain⟨i,hi,rfl⟩:=List.getElem_of_mem hb<;>simp_all
 .intro h i hi
  have Ds:=WQ.mp hi
  have:=h bs[i] (Ya Ds)<;>simp_all
theorem zvj:∀(ns:List Int) (k:Nat),k<=ns.length->preSum (λi=>ns.getD i 0) k=(ns.take k).sum
 |ns,0,_=>rfl
 |ns,k+1,h=>by
  have hk:k<ns.length:=h;have ih:=zvj ns k (Ur hk)
  have e:(ns.take (k+1)).sum=(ns.take k).sum+ns.getD k 0:=by
   rw[XH,List.sum_append]<;>simp_all
  rw[e,←ih];rfl
section
variable {X:Cx}
def zdw(hc:X.calm=KN):Fh X (.builtin "all") (λxs H Q=>∃(p:Addr) (bs:List Bool),xs=[.ref p]/\Jr X.K H p (bs.map V.bl)/\Q (.bl (bs.all id)) H):=by
 intro pins s σ H xs us Q I r h;obtain⟨p,bs,rfl,hq,q⟩:=h;obtain⟨u,rfl,ru⟩:=vals1 r;cases ru;obtain⟨ED,rv,pl,hz⟩:=I.list hq
 have JW:=by have:=rv.length;simpa using this.symm
 have IV:p<s.heap.objs.size:=by
  obtain⟨o,n,e,_⟩:=pl;exact Rv e
 refine call_all_walk (Um pl.isList ?_);refine⟨s.heap.objs.size,_,_,_,_,_,λi=>bs.getD i Lf,rfl,YT (A:=X.A.in1) (I.ok.hd hc) _ p (RN IV) ED.toArray,⟨⟨_,RA _ rfl,rfl,rfl⟩,?_⟩,λi v s' Q' E' hv hQ'=>?_,λh' tk hk=>?_⟩
 .obtain⟨o,n,e,r⟩:=pl.isList
  exact⟨o,Ri _ n,e,r⟩
 .have hi:=by
   have:=(Vz.mp hv).1;simpa using this
  have hi2:i<bs.length:=by lia
  obtain⟨u,hu,ru⟩:=rv.get (i:=i) (x:=.bl bs[i]) (by simp[hi2])
  have e:v=u:=by simp_all
  subst e;cases (ru)
  refine Sq ?_<;>simp_all
 .have e:(SH ED.toArray.size).all _=bs.all id:=all_range bs _ (by omega)
  rw[e];exact⟨.bl _,H,I.kept  λb o q=>hk b o (by simp;exact RN (Rv q)) (Ri _ q),rfl,q⟩
def zdx{ns:List Int}{ED:List Re}(rv:L7 (ns.map V.int) ED){i:Nat}{v:Re}(hv:ED.toArray[i]? = Iv v):∃t,v=.int (ns.getD i 0) t:=by
 have JW:=by have:=rv.length;simpa using this.symm
 have hi:=by
  have:=(Vz.mp hv).1<;>omega
 have hi2:=by omega
 obtain⟨u,hu,ru⟩:=rv.get (i:=i) (x:=.int ns[i]) (by simp )
 have e:v=u:=by simp_all
 obtain⟨t,e⟩:=(ru)<;>simp_all
def zdy(hc:X.calm=KN):Fh X (.builtin "sum") (λxs H Q=>∃(p:Addr) (ns:List Int),xs=[.ref p]/\Jr X.K H p (ns.map V.int)/\Q (.int ns.sum) H):=by
 intro pins s σ H xs us Q I r h;obtain⟨p,ns,rfl,hq,q⟩:=h;obtain⟨u,rfl,ru⟩:=vals1 r;cases ru;obtain⟨ED,rv,pl,hz⟩:=I.list hq
 have JW:=by have:=rv.length;simpa using this.symm
 have IV:p<s.heap.objs.size:=by
  obtain⟨o,n,e,_⟩:=pl;exact Rv e
 refine call_sum_walkG (Um pl.isList ?_);refine⟨s.heap.objs.size,_,_,_,_,_,λi=>ns.getD i 0,rfl,YT (A:=X.A.in1) (I.ok.hd hc) _ p (RN IV) _,⟨⟨_,RA _ rfl,rfl,rfl⟩,?_⟩,λb hb=>?_,λi v hv=>zdx rv hv,λh' tk t' hk=>?_⟩
 .obtain⟨o,n,e,r⟩:=pl.isList
  exact⟨o,Ri _ n,e,r⟩
 .rw[TX]
  rcases(by simpa using hb) with e|e
  simp_all
  .rw[e];exact TM IV
 .have e:preSum (λi=>ns.getD i 0) ED.toArray.size=ns.sum:=by
   rw[zvj ns _ _]<;>simp_all
  rw[e];exact⟨.int _,H,I.kept  λb o q=>hk b o (by simp;exact RN (Rv q)) (Ri _ q),⟨t',rfl⟩,q⟩
def zdz:Fo X (RB .IsNot) (λx y H Q=>∃b c,x=.bl b/\y=.bl c/\Q (.bl (b != c)) H):=by
 intro pins s σ H x y v u Q I rx ry h;obtain⟨b,c,rfl,rfl,q⟩:=h;cases rx;cases ry;exact isnot_bool ⟨.bl _,H,I,rfl,q⟩
def zxl:Fo X (SX .Add) (λx y H Q=>∃a b xs ys,x=.ref a/\y=.ref b/\Fy X.K H a xs/\Fy X.K H b ys/\xs.length+ys.length<=Rp /\
  (xs=[]->Q (.ref b) H)/\(xs≠[]->ys=[]->Q (.ref a) H)/\(xs≠[]->ys≠[]->∀p,H p=LG->Q (.ref p) (upd H p (.tup (xs++ys))))):=by
 intro pins s σ H x y v u Q I rx ry h;obtain⟨a,b,xs,ys,rfl,rfl,ha,hb,hz,q0,q1,q2⟩:=h
 by_cases hx:xs=[]
 .cases rx
  cases ry;obtain⟨ED,r1,p1,_⟩:=I.tuple ha;obtain⟨K8,r2,p2,_⟩:=I.tuple hb;have hv:=r1.nil_iff.mpr hx;obtain⟨⟨cls,dd,data,sl⟩,ho,hc,n,hd⟩:=id p1;obtain⟨⟨DR,JD,data2,MR⟩,Kc,JY,n2,hd2⟩:=id p2;subst hc hd JY hd2
  exact Wq ⟨_,ho,rfl⟩ ⟨_,Kc,rfl⟩ V3 Xi UV UM (Uy _ _)
   (tuple_addW0 a b _ _ n n2 dd JD sl MR (by simp[hv])) ⟨ho,Kc,⟨.ref b,H,I,rfl,q0 hx⟩⟩
 .exact zcp pins s σ H _ _ v u Q I rx ry ⟨a,b,xs,ys,rfl,rfl,ha,hb,hx,hz,q1 hx,q2 hx⟩
def zea:Kw X (λx lo hi H Q=>∃z:Str,x=.str z/\z.length<=Rp/\Q (.str (Sy z lo hi)) H):=by
 intro pins s σ H x v vl vu lo hi sl Q I rx hs pl pu h;obtain⟨z,rfl,hz,q⟩:=h;obtain⟨t,rfl⟩:=rx
 have fin:∀l u:Option (Int×Tok),l.map (·.1)=lo->u.map (·.1)=hi->s.heap.IsSlice sl l u LG->RP (RM X.prog X.w) X.A (Ve (.str z t) (.ref sl)) (EP X pins σ Q) X.xe s:=λl u el eu h=>by
  refine wpAny_getItem_str_slice h rfl ?_;refine post_val_or_made (λ_=>?_) λt' k=>?_
  .have:=sliceIndices_le (l.map (·.1)) (u.map (·.1)) z.length
   have e:=List.length_filterMap_le (λi=>z.cps[i]?) (Yn z l u LG);show ((Yn z l u LG).filterMap (z.cps[·]?)).toArray.size<=Rp;rw[Sw];unfold Yn at e ⊢;simp only[Option.map_none,V6] at e ⊢
   lia
  .refine⟨.str (Sy z lo hi),H,I.tok _,⟨t',?_⟩,q⟩
   rw[←el,←eu];rfl
 refine⟨"str",_,PySem.F.slot_str_getitem.lookup,Vb s z t,?_⟩
 cases pl with
 |none=>
  cases pu with
  |none=>exact fin LG LG rfl rfl hs
  |int j u=>exact fin LG (Iv (j,u)) rfl rfl hs
 |int i u=>
  cases pu with
  |none=>exact fin (Iv (i,u)) LG rfl rfl hs
  |int j u'=>exact fin (Iv (i,u)) (Iv (j,u')) rfl rfl hs
def zxm:Fo X (SX .Mult) (λx y H Q=>∃z k,x=.str z/\y=.int k/\0<=k/\k<=2000/\z.length<=1000/\Q (.str (Uu z k)) H):=by
 intro pins s σ H x y v u Q I rx ry h;obtain⟨z,k,rfl,rfl,h1,h2,h3,q⟩:=h;obtain⟨t,rfl⟩:=rx;obtain⟨t',rfl⟩:=ry;have hm:z.length*k.toNat<=1000*2000:=WW h3 (by lia);refine SB.mul ⟨?_,λg1 g2=>?_,λg1 g2=>?_⟩ λt' k'=>⟨.str _,H,I.tok _,⟨t',rfl⟩,q⟩
 .lia
 .have hk:1<=k:=by simp at g1;lia
  have e1:(1000:Int)<=(2^63-1) / k:=by
   rw[Int.le_ediv_iff_mul_le (by lia)]
   lia
  lia
 .unfold Builtin.Str.tooLong
  simp[Rp]
  lia
end
def zeb:∀{us:List Re},L7 (ys.map V.str) us->YB us ys:=by
 induction ys with
 |nil=>intro us r;cases r;exact .nil
 |cons y ys ih=>
  intro us r
  cases r with
  |cons r1 r2=>
   obtain⟨t,e⟩:=r1;subst e;exact .cons y t (ih r2)
structure Fn(P:RC)(w:RX)(K:Frag)(mg:Str->Option Re)(base:Heap)(name:Str)(ps:List Str)(k:Nat)(sp:Sp):Prop where
 ex:∃f fd,Ft P w K mg base E4 k f fd ps sp/\Binds K fd ps []/\Uo K (.ref f)=KN/\mg name=Iv (.ref f)
section
variable {X:Cx}{name:Str}{ps:List Str}{k:Nat}{sp:Sp}{e:Expr}{es:List Expr}{t:TA}{p pos:Pos}
def uM(F:Fn X.prog X.w X.K X.mg X.base name ps k sp)(hr:JL k X.A)(hg:Gl X name)(ha:PA X (e::es) t)(E2:autoParam ((name == ("__debug__" : Str))=Lf) u11)
  (he:autoParam (Rk (e::es) X.env=(Lf,eval e X.env)::Rk es X.env) u10) (Mh:autoParam ((R6 pos (Rk es X.env)).any (·.1)=Lf) u10):PE X (.Call (.Name name p) (e::es) [] pos) (A6 sp [] E0 t):=by
 obtain⟨f,fd,h1,h2,h3,h4⟩:=F.ex;exact zcc h1 hr hg h4 h3 h2 .nil zdr ha E2 he Mh
end
def zvk(S:CS osc N x scope N')(hi:PI X (.Name x px) iter wi)
  (he:∀C s0 H0 ex,PE (bY X x scope C s0 H0 ex N') elt te) (ht:∀C s0 H0 ex,FQ (bY X x scope C s0 H0 ex N') ifs tt) (hc:autoParam (X.calm=KN) u10) (hs:autoParam (X.env.scope=osc) u10) (hN:autoParam (X.N=N) u10)
  (hf:autoParam (∀v,RY iter X.env v=pure v) u17):PE X (.ListComp elt [⟨.Name x px,iter,ifs,0⟩] scope pos) (A5 wi tt te):=by
 subst hs hN;exact zdu hc S hi he ht hf
end L2
namespace D
open L2
inductive Gh(P:Hp->Prop):Hp->Prop where
 |done {H:Hp}:P H->Gh P H
 |frz {H:Hp}{a:Addr}{kvs:List (Key×V)}:H a=Iv (.dK kvs)->(∀o,Gh P (upd H a (.frz o (.dK kvs))))->Gh P H
def Gh.imp(g:Gh P H)(i:∀H,P H->P' H):Gh P' H:=by
 induction g with
 |done h=>exact .done (i _ h)
 |frz e _ ih=>exact .frz e ih
section
variable {X:Cx}{pins:List (Addr×Obj)}{σ:L2.St}{H:Hp}{s:Rj}
def zvl(I:Inv X pins σ H s)(e:H a=Iv (.dK kvs)):∃o,Inv X pins σ (upd H a (.frz o (.dK kvs))) s:=by
 obtain⟨z,y,vs,kv,o,es,ep,eo,r⟩:=I.hok a _ e
 have U:∀{b:Addr}{u:HO},H b=Iv u->(∀ks,u≠.dK ks)->upd H a (.frz o (.dK kvs)) b=Iv u:=λ{b u} q n=>by
  rw[aG (λz=>by subst z<;>grind)];exact q
 have hok:CJ _ X.w (upd H a (.frz o _)) _:=λb u q=>by
  by_cases hb:b=a
  .subst hb
   rw[a9] at q;cases q;exact⟨eo,(I.hok b _ e).stay (λ_ _ _ q=>q) (λc q=>U q (λ_ z=>nomatch z)) λc xs q=>U q (λ_ z=>nomatch z)⟩
  .rw[aG hb] at q
   exact(I.hok b u q).stay (λ_ _ _ q=>q) (λc q=>U q (λ_ z=>nomatch z)) λc xs q=>U q (λ_ z=>nomatch z)
 exact⟨o,I.un   ⟨λb ob q n _ _=>q,λb ob q n _ _=>⟨_,q⟩,λb ob q n _=>by rw[aG (λz=>by simp_all)];exact n,λb ob q _=>⟨_,q⟩,λb xs q=>U q (λ_ z=>nomatch z),
  λb ob u q=>U q (λ_ z=>nomatch z),λb ps q=>⟨#[],by simp_all⟩⟩ hok⟩
def Gh.ok(g:Gh P H)(I:Inv X pins σ H s):∃H',Inv X pins σ H' s/\P H':=by
 induction g with
 |done h=>exact⟨_,I,h⟩
 |frz e _ ih=>
  obtain⟨o,I'⟩:=zvl I e;exact ih o I'
def zec{st:Stmt}{t:TS}(h:PS X st t):PS X st (λD σ H=>Gh (t D σ) H):=λpins s σ H D I q=>by
 obtain⟨H',I',q'⟩:=q.ok I;exact h pins s σ H' D I' q'
def zed{st:List Stmt}{t:TS}(h:Jx X st t):Jx X st (λD σ H=>Gh (t D σ) H):=λpins s σ H D I q=>by
 obtain⟨H',I',q'⟩:=q.ok I;exact h pins s σ H' D I' q'
def zee(h:PE X e t):PE X e (λσ H Q=>t σ H λv H1=>Gh (Q v) H1):=λpins s σ H Q I q=>
 JI (h pins s σ H _ I q) λu s' ⟨v,H',I',r,q'⟩=>by
  obtain⟨H2,I2,q2⟩:=q'.ok I';exact⟨v,H2,I2,r,q2⟩
end
def iH(o:Obj):Nat:=match o.data with
 |.dict _ ep=>ep
 |_=>0
def AF(a:Addr)(o:Obj)(kvs:List (Key×V)):It:=⟨λi H=>H a=Iv (.frz o (.dK kvs))/\i<kvs.length,λi H x H'=>H'=H/\∃k v,kvs[i]? = Iv (k,v)/\x=kV k,λi H=>H a=Iv (.frz o (.dK kvs))/\i=kvs.length⟩
def iV(ok:CJ P w H h)(e:H a=Iv (.frz o (.dK kvs))):kvs.length<=Rp/\(a == SG)=Lf/\∃vs,KV kvs vs/\h.DictAt (bP P w) a vs (iH o):=by
 obtain⟨e1,z,y,vs,kv,o',es,ep,e2,ed,dd,r⟩:=ok a _ e;rw[e1] at e2;cases e2;refine⟨z,y,vs,kv,o,es,e1,ed,?_,r⟩;unfold iH;rw[dd]
def Jb(e:(bP P w).is k v=KN):RelV (kV k) v:=by
 rcases eM (e) with⟨i,t,rfl,rfl⟩|⟨x,t,rfl,rfl⟩
 .exact⟨t,rfl⟩
 .exact⟨t,rfl⟩
def zef{kvs:List (Key×V)}{vs:List (Key×Re)}(r:KV kvs vs){i:Nat}{k:Key}{x:Re}(e:vs[i]? = Iv (k,x)):∃v,kvs[i]? = Iv (k,v):=by
 have h:=r.keys
 have h1:(vs.map (·.1))[i]? = Iv k:=by simp_all
 rw[←h,Sf] at h1<;>simp_all
def zeg{P:RC}{w:RX}{K:Frag}{tg:Expr}(a it:Addr)(o:Obj)(kvs:List (Key×V)):Turn P w K tg (AF a o kvs) [it] it (λi h=>h.IsKeyIter it a i kvs.length (iH o)) where
 mem:=by simp
 obj:=λi h st b hb=>by
  have e:b=it:=by simpa using hb
  subst e;obtain⟨o,e,c,d⟩:=st;exact⟨o,e,λv z=>by simp_all⟩
 keep:=λi h h' st k=>st.at λo e=>k it (by simp) o e
 item:=by
  intro X hP hw hK hc i pins s σ H E I hf st hg;subst hP hw hK;obtain⟨Kv,KZ⟩:=hg;obtain⟨z,y,vs,kv,dd⟩:=iV I.hok Kv;obtain⟨f0,f1,f2,f3,f4,f5⟩:=hf it (by simp);have hl:=kv.length
  have ne:a≠it:=λq=>by simp_all
  have W:=YU (prog:=X.prog) (w:=X.w) (knd:=bP X.prog X.w) (I.ok.hd hc) it a ne vs (iH o);refine W.item i s _ _ (by omega) ⟨by rw[←hl];exact st,dd⟩ λv h' tk hv st' kk=>?_;obtain⟨k,x,h1,h2⟩:=hv;have I1:Inv X pins σ H { s with heap:=h',toks:=tk }:=I.turned (λb o hb e=>kk b o (by simpa using hb) e) f0 f1 f3 f4 f5
  have CC:h'.IsKeyIter it a (i+1) kvs.length (iH o):=by rw[hl];exact st'.1
  obtain⟨o1,e1,c1,d1⟩:=id CC;obtain⟨v0,h3⟩:=zef kv h1;exact⟨v,rfl,nq (s:={ s with heap:=h',toks:=tk }) e1 c1 d1 (by decide) ⟨kV k,H,I1,Jb h2,⟨rfl,k,v0,h3,rfl⟩,CC,λb hb=>(hf b hb).1⟩⟩
 done:=by
  intro X hP hw hK hc i pins s σ H E I hf st hg;subst hP hw hK;obtain⟨Kv,KZ⟩:=hg;obtain⟨z,y,vs,kv,dd⟩:=iV I.hok Kv;obtain⟨f0,f1,f2,f3,f4,f5⟩:=hf it (by simp);have hl:=kv.length
  have ne:a≠it:=λq=>by rw[q,f0] at Kv;cases Kv
  have W:=YU (prog:=X.prog) (w:=X.w) (knd:=bP X.prog X.w) (I.ok.hd hc) it a ne vs (iH o);refine W.done s _ _ ⟨by rw[←hl,←KZ];rw[←KZ] at st;exact st,dd⟩ λh' tk kk=>⟨rfl,I.turned (λb o hb e=>kk b o (by simpa using hb) e) f0 f1 f3 f4 f5⟩
 self:=λ_ _ _ _ _ st h=>wpAny_pyIter_keyiter st h
inductive W where
 |d (x:Ra)|tp (i:Nat)|loc (x:Ra)
abbrev Tp:=List (List Ra)
abbrev XE:=List (Option W)
noncomputable def G5{α β:Type}(o:Option (α×Tp))(k:α->Tp->Option β):Option β:=match o with
 |some (a,T)=>k a T
 |none=>LG
inductive BnP{α β:Type}(o:Option (α×Tp))(k:α->Tp->Option β)(b:β):Prop where|mk(a:α)(T:Tp)(e:o=Iv (a,T))(h:k a T=Iv b)
theorem aF{α β:Type}{o:Option (α×Tp)}{k:α->Tp->Option β}{b:β}(h:G5 o k=Iv b):BnP o k b:=by
 cases o with
 |none=>cases h
 |some p=>exact⟨p.1,p.2,rfl,h⟩
noncomputable def iF:Key->Ra
 |.inl i=>.int i
 |.inr x=>.str x
def TupAt(K:Frag)(O:Addr->Prop)(H:Hp)(a:Addr)(vs:List V):Prop:=(¬O a/\Rd H a (.tup vs))\/Fy K (λ_=>LG) a vs
def LstAt(K:Frag)(O:Addr->Prop)(H:Hp)(a:Addr)(vs:List V):Prop:=(¬O a/\Rd H a (.lst vs))\/Jr K (λ_=>LG) a vs
def zeh{K:Frag}{H:Hp}{a:Addr}{vs:List V}(h:Fy K (λ_=>LG) a vs):Fy K H a vs:=by
 rcases h with(h|⟨o,h⟩)|h
 .cases h
 .cases h
 .exact .inr h
def zei{K:Frag}{H:Hp}{a:Addr}{vs:List V}(h:Jr K (λ_=>LG) a vs):Jr K H a vs:=by
 rcases h with(h|⟨o,h⟩)|h
 .cases h
 .cases h
 .exact .inr h
def TupAt.sq{K:Frag}{O:Addr->Prop}{H:Hp}{a:Addr}{vs:List V}(h:TupAt K O H a vs):Fy K H a vs:=by
 rcases h with h|h
 .exact .inl h.2
 .exact zeh h
def LstAt.sq{K:Frag}{O:Addr->Prop}{H:Hp}{a:Addr}{vs:List V}(h:LstAt K O H a vs):Jr K H a vs:=by
 rcases h with h|h
 .exact .inl h.2
 .exact zei h
mutual
inductive Rep(K:Frag)(O:Addr->Prop)(H:Hp):V->Ra->Prop where
 |non:Rep K O H .non .none
 |bl (b:Bool):Rep K O H (.bl b) (.bool b)
 |int (i:Int):Rep K O H (.int i) (.int i)
 |str (x:Str):Rep K O H (.str x) (.str x)
 |tup {a:Addr}{vs:List V}{ds:List Ra}:TupAt K O H a vs->EE K O H vs ds->Rep K O H (.ref a) (.tuple ds)
 |lst {a:Addr}{vs:List V}{ds:List Ra}:LstAt K O H a vs->EE K O H vs ds->Rep K O H (.ref a) (.list ds)
 |dct {a:Addr}{o:Obj}{kvs:List (Key×V)}{ds:List (Ra×Ra)}:¬O a->H a=Iv (.frz o (.dK kvs))->JU K O H kvs ds->Rep K O H (.ref a) (.dict ds)
inductive EE(K:Frag)(O:Addr->Prop)(H:Hp):List V->List Ra->Prop where
 |nil:EE K O H [] []
 |cons {v:V}{d:Ra}{vs:List V}{ds:List Ra}:Rep K O H v d->EE K O H vs ds->EE K O H (v::vs) (d::ds)
inductive JU(K:Frag)(O:Addr->Prop)(H:Hp):List (Key×V)->List (Ra×Ra)->Prop where
 |nil:JU K O H [] []
 |cons {k:Key}{v:V}{d:Ra}{kvs:List (Key×V)}{ds:List (Ra×Ra)}:Rep K O H v d->JU K O H kvs ds->JU K O H ((k,v)::kvs) ((iF k,d)::ds)
end
def Le(O:Addr->Prop)(H:Hp)(O':Addr->Prop)(H':Hp):Prop:=∀a o,¬O a->H a=Iv o->¬O' a/\H' a=Iv o
def Le.trans(h:Le O H O1 H1)(g:Le O1 H1 O2 H2):Le O H O2 H2:=λa o n e=>let ⟨n1,e1⟩:=h a o n e;g a o n1 e1
def JQ:HO->Bool
 |.tup _=>KN
 |.lst _=>KN
 |.frz _ _=>KN
 |_=>Lf
def Km(O:Addr->Prop)(H:Hp)(O':Addr->Prop)(H':Hp):Prop:=∀a o,¬O a->JQ o=KN->H a=Iv o->¬O' a/\H' a=Iv o
def nQ(h:Le O H O' H'):Km O H O' H':=λa o n _ e=>h a o n e
def TupAt.monoP{K:Frag}{O O':Addr->Prop}{H H':Hp}(h:Km O H O' H'){a:Addr}{vs:List V}(t:TupAt K O H a vs):TupAt K O' H' a vs:=by
 rcases t with⟨n,t|⟨o,t⟩⟩|t
 .exact .inl ⟨(h _ _ n rfl t).1,.inl (h _ _ n rfl t).2⟩
 .exact .inl ⟨(h _ _ n rfl t).1,.inr ⟨o,(h _ _ n rfl t).2⟩⟩
 .exact .inr t
def LstAt.monoP{K:Frag}{O O':Addr->Prop}{H H':Hp}(h:Km O H O' H'){a:Addr}{vs:List V}(t:LstAt K O H a vs):LstAt K O' H' a vs:=by
 rcases t with⟨n,t|⟨o,t⟩⟩|t
 .exact .inl ⟨(h _ _ n rfl t).1,.inl (h _ _ n rfl t).2⟩
 .exact .inl ⟨(h _ _ n rfl t).1,.inr ⟨o,(h _ _ n rfl t).2⟩⟩
 .exact .inr t
mutual
theorem Rep.monoP{K:Frag}{O O':Addr->Prop}{H H':Hp}(e:Km O H O' H'):∀{v:V}{d:Ra},Rep K O H v d->Rep K O' H' v d
 |_,_,.non=>.non
 |_,_,.bl b=>.bl b
 |_,_,.int i=>.int i
 |_,_,.str x=>.str x
 |_,_,.tup t r=>.tup (t.monoP e) (EE.monoP e r)
 |_,_,.lst t r=>.lst (t.monoP e) (EE.monoP e r)
 |_,_,.dct n h r=>.dct (e _ _ n rfl h).1 (e _ _ n rfl h).2 (JU.monoP e r)
theorem EE.monoP{K:Frag}{O O':Addr->Prop}{H H':Hp}(e:Km O H O' H'):∀{vs:List V}{ds:List Ra},EE K O H vs ds->EE K O' H' vs ds
 |_,_,.nil=>.nil
 |_,_,.cons r t=>.cons (Rep.monoP e r) (EE.monoP e t)
theorem JU.monoP{K:Frag}{O O':Addr->Prop}{H H':Hp}(e:Km O H O' H'):∀{vs:List (Key×V)}{ds:List (Ra×Ra)},JU K O H vs ds->JU K O' H' vs ds
 |_,_,.nil=>.nil
 |_,_,.cons r t=>.cons (Rep.monoP e r) (JU.monoP e t)
end
def TupAt.mono{K:Frag}{O O':Addr->Prop}{H H':Hp}(h:Le O H O' H'){a:Addr}{vs:List V}(t:TupAt K O H a vs):TupAt K O' H' a vs:=t.monoP (nQ h)
def LstAt.mono{K:Frag}{O O':Addr->Prop}{H H':Hp}(h:Le O H O' H'){a:Addr}{vs:List V}(t:LstAt K O H a vs):LstAt K O' H' a vs:=t.monoP (nQ h)
def Rep.mono{K:Frag}{O O':Addr->Prop}{H H':Hp}(e:Le O H O' H'){v:V}{d:Ra}(r:Rep K O H v d):Rep K O' H' v d:=Rep.monoP (nQ e) r
def EE.mono{K:Frag}{O O':Addr->Prop}{H H':Hp}(e:Le O H O' H'){vs:List V}{ds:List Ra}(r:EE K O H vs ds):EE K O' H' vs ds:=EE.monoP (nQ e) r
def JU.mono{K:Frag}{O O':Addr->Prop}{H H':Hp}(e:Le O H O' H'){vs:List (Key×V)}{ds:List (Ra×Ra)}(r:JU K O H vs ds):JU K O' H' vs ds:=JU.monoP (nQ e) r
section
variable {K:Frag}{O:Addr->Prop}{H:Hp}
theorem EE.length:∀{vs:List V}{ds:List Ra},EE K O H vs ds->vs.length=ds.length
 |_,_,.nil=>rfl
 |_,_,.cons _ t=>congrArg _ (EE.length t)
theorem EE.get:∀{vs:List V}{ds:List Ra}{i:Nat}{v:V},EE K O H vs ds->vs[i]? = Iv v->∃d,ds[i]? = Iv d/\Rep K O H v d
 |_,_,_,_,.nil,e=>by simp at e
 |_,_,0,_,.cons r _,e=>by simp_all
 |_,_,i+1,v,.cons _ t,e=>by
  obtain⟨d,h1,h2⟩:=EE.get   t (by simpa using e);exact⟨d,by simpa using h1,h2⟩
theorem EE.getD:∀{vs:List V}{ds:List Ra}{i:Nat}{d:Ra},EE K O H vs ds->ds[i]? = Iv d->∃v,vs[i]? = Iv v/\Rep K O H v d
 |_,_,_,_,.nil,e=>by simp at e
 |_,_,0,_,.cons r _,e=>by simp_all
 |_,_,i+1,v,.cons _ t,e=>by
  obtain⟨d,h1,h2⟩:=EE.getD   t (by simpa using e);exact⟨d,by simpa using h1,h2⟩
theorem EE.set(r:Rep K O H v d):∀{vs:List V}{ds:List Ra} (i:Nat),EE K O H vs ds->EE K O H (vs.set i v) (ds.set i d)
 |_,_,_,.nil=>.nil
 |_,_,0,.cons _ t=>.cons r t
 |_,_,i+1,.cons q t=>.cons q (EE.set r i t)
theorem EE.append:∀{vs:List V}{ds:List Ra},EE K O H vs ds->EE K O H ws es->EE K O H (vs++ws) (ds++es)
 |_,_,.nil,r=>r
 |_,_,.cons q t,r=>.cons q (EE.append t r)
theorem EE.take:∀{vs:List V}{ds:List Ra} (n:Nat),EE K O H vs ds->EE K O H (vs.take n) (ds.take n)
 |_,_,0,_=>.nil
 |_,_,_+1,.nil=>.nil
 |_,_,n+1,.cons r t=>.cons r (EE.take n t)
theorem EE.drop:∀{vs:List V}{ds:List Ra} (n:Nat),EE K O H vs ds->EE K O H (vs.drop n) (ds.drop n)
 |_,_,0,r=>r
 |_,_,_+1,.nil=>.nil
 |_,_,n+1,.cons _ t=>EE.drop n t
theorem EE.rep(r:EE K O H vs ds):∀n:Nat,EE K O H (RQ n vs).flatten (RQ n ds).flatten
 |0=>.nil
 |n+1=>by
  exact r.append (r.rep n)
end
def F7(ts:List Addr)(H H':Hp):Prop:=∀b o,b∉ts->H b=Iv o->H' b=Iv o
def F7.refl(ts:List Addr)(H:Hp):F7 ts H H:=λ_ _ _ h=>h
def F7.trans(a:F7 ts H H1)(b:F7 ts H1 H2):F7 ts H H2:=λc o n h=>b c o n (a c o n h)
def F7.new(h:H p=LG)(o:HO):F7 ts H (upd H p o):=λb u _ q=>by rw[aG (di q h)];exact q
def Mn(o:Option HO):Prop:=(∃vs,o=Iv (.lst vs))\/(∃kvs,o=Iv (.dK kvs))\/∃C dx fs,o=Iv (.ins C dx fs)
def Mn.ex(h:Mn o):∃u,o=Iv u:=by rcases h with⟨vs,e⟩|⟨vs,e⟩|⟨C,dx,fs,e⟩ <;> exact⟨_,e⟩
def Mn.to(h:Mn o)(k:∀u,o=Iv u->o'=Iv u):Mn o':=by
 rcases h with⟨vs,e⟩|⟨vs,e⟩|⟨C,dx,fs,e⟩
 .exact .inl ⟨vs,k _ e⟩
 .exact .inr (.inl ⟨vs,k _ e⟩)
 .exact .inr (.inr ⟨C,dx,fs,k _ e⟩)
def MA(C:Addr):PyData:=.dict [(.none,.int (C:Int))]
noncomputable def Gs:List Ra->Bool
 |.dict [(.none,_)]::_=>KN
 |_=>Lf
noncomputable def pairF(p:Str×Ra):PyData:=.tuple [.str p.1,p.2]
inductive F4(K:Frag)(O:Addr->Prop)(H:Hp):List (Str×V)->List (Str×Ra)->Prop where
 |nil:F4 K O H [] []
 |cons {n:Str}{v:V}{d:Ra}{vs:List (Str×V)}{ds:List (Str×Ra)}:Rep K O H v d->F4 K O H vs ds->F4 K O H ((n,v)::vs) ((n,d)::ds)
theorem F4.mono{K:Frag}{O O':Addr->Prop}{H H':Hp}(e:Le O H O' H'){vs:List (Str×V)}{ds:List (Str×Ra)}(r:F4 K O H vs ds):F4 K O' H' vs ds:=by
 induction r with
 |nil=>exact .nil
 |cons r _ ih=>exact .cons (Rep.mono e r) ih
def Hj(K:Frag)(O:Addr->Prop)(H:Hp)(a:Addr)(xs:List Ra):Prop:=(Gs xs=Lf/\∃vs,H a=Iv (.lst vs)/\EE K O H vs xs)\/∃C dx fs fd,H a=Iv (.ins C dx fs)/\xs=MA C::fd.map pairF/\F4 K O H fs fd
theorem Hj.mono{K:Frag}{O O':Addr->Prop}{H H':Hp}{a:Addr}{xs:List Ra}(h:Hj K O H a xs)(k:∀o,H a=Iv o->H' a=Iv o)(l:Le O H O' H'):Hj K O' H' a xs:=by
 rcases h with⟨n,vs,h1,h2⟩|⟨C,dx,fs,fd,h1,h2,h3⟩
 .exact .inl ⟨n,vs,k _ h1,h2.mono l⟩
 .exact .inr ⟨C,dx,fs,fd,k _ h1,h2,h3.mono l⟩
theorem Hj.lst{K:Frag}{O:Addr->Prop}{H:Hp}{a:Addr}{xs:List Ra}(h:Hj K O H a xs)(n:Gs xs=Lf):∃vs,H a=Iv (.lst vs)/\EE K O H vs xs:=by
 rcases h with⟨_,h⟩|⟨C,dx,fs,fd,h1,h2,h3⟩
 .exact h
 .rw[h2] at n
  cases n
def zej{K:Frag}{O:Addr->Prop}{H:Hp}{v:V}{y:Ra}(h:Rep K O H v (.dict [(.none,y)])):False:=by
 cases h with
 |dct _ _ r=>
  generalize hl:[_]=l at r
  cases r with
  |nil=>cases hl
  |@cons k _ _ _ _ _ _=>
   injection hl with h1 _
   rcases k with i|x
   .cases h1
   .cases h1
def EE.notO{K:Frag}{O:Addr->Prop}{H:Hp}{vs:List V}{xs:List Ra}(r:EE K O H vs xs):Gs xs=Lf:=by
 cases r with
 |nil=>rfl
 |cons h _=>
  unfold Gs;split
  .rename_i e
   cases e;exact(zej h).elim
  .rfl
structure HC(K:Frag)(O:Addr->Prop)(ts:List Addr)(H:Hp)(T:Tp):Prop where
 own:∀b∈ts,O b
 trk:∀b,O b->Mn (H b)
 nd:ts.Nodup
 len:ts.length=T.length
 tape:∀(i:Nat) (a:Addr) (xs:List Ra),ts[i]? = Iv a->T[i]? = Iv xs->Hj K O H a xs
section
variable {K:Frag}{O:Addr->Prop}{ts:List Addr}{H H':Hp}{T:Tp}
def HC.le(c:HC K O ts H T)(s:F7 ts H H'):Le O H O H':=λa o n e=>⟨n,s a o (λz=>n (c.own a z)) e⟩
def HC.step(c:HC K O ts H T)(s:F7 ts H H')(t:∀b∈ts,H' b=H b):HC K O ts H' T where
 own:=c.own
 trk:=λb hb=>by
  by_cases z:b∈ts
  .rw[t b z];exact c.trk b hb
  .exact(c.trk b hb).to λu e=>s b _ z e
 nd:=c.nd
 len:=c.len
 tape:=λi a xs e1 e2=>by
  exact(c.tape i a xs e1 e2).mono (λo h1=>by rw[t a (Rw e1)];exact h1) (c.le s)
def HC.fresh(c:HC K O ts H T)(h:H p=LG):¬O p:=λz=>by
 obtain⟨u,e⟩:=(c.trk p z).ex<;>simp_all
theorem HC.new(c:HC K O ts H T)(h:H p=LG)(o:HO):HC K O ts (upd H p o) T:=c.step (.new h o) λb hb=>aG λz=>c.fresh h (z ▸ c.own b hb)
def HC.leNew(c:HC K O ts H T)(h:H p=LG)(o:HO):Le O H O (upd H p o):=c.le (.new h o)
def HC.newT(c:HC K O ts H T)(h:H p=LG)(r:EE K O H vs ds):Rep K O (upd H p (.tup vs)) (.ref p) (.tuple ds):=.tup (.inl ⟨c.fresh h,.inl a9⟩) (r.mono (c.leNew h _))
def HC.newL(c:HC K O ts H T)(h:H p=LG)(r:EE K O H vs ds):Rep K O (upd H p (.lst vs)) (.ref p) (.list ds):=.lst (.inl ⟨c.fresh h,.inl a9⟩) (r.mono (c.leNew h _))
end
inductive Vw(K:Frag)(O:Addr->Prop)(H:Hp):V->Ra->Prop where
 |rep {v:V}{x:Ra}:Rep K O H v x->Vw K O H v x
 |raw {a:Addr}{vs:List V}{xs:List Ra}:H a=Iv (.lst vs)->EE K O H vs xs->Vw K O H (.ref a) (.list xs)
 |rawD {a:Addr}{kvs:List (Key×V)}{ds:List (Ra×Ra)}:H a=Iv (.dK kvs)->JU K O H kvs ds->Vw K O H (.ref a) (.dict ds)
section
variable {K:Frag}{O:Addr->Prop}{H:Hp}{v:V}
theorem Vw.int(h:Vw K O H v (.int i)):v=.int i:=by cases h with|rep h=>cases h;rfl
theorem Vw.str(h:Vw K O H v (.str x)):v=.str x:=by cases h with|rep h=>cases h;rfl
theorem Vw.bl(h:Vw K O H v (.bool b)):v=.bl b:=by cases h with|rep h=>cases h;rfl
theorem Vw.non(h:Vw K O H v .none):v=.non:=by cases h with|rep h=>cases h;rfl
theorem Vw.tup(h:Vw K O H v (.tuple ds)):∃a vs,v=.ref a/\TupAt K O H a vs/\EE K O H vs ds:=by cases h with|rep h=>cases h with|tup t r=>exact⟨_,_,rfl,t,r⟩
def Vw.tupR(h:Vw K O H v (.tuple ds)):Rep K O H v (.tuple ds):=by cases h <;>simp_all
theorem Vw.lst(h:Vw K O H v (.list ds)):∃a vs,v=.ref a/\Jr K H a vs/\EE K O H vs ds:=by
 cases h with
 |rep h=>cases h with|lst t r=>exact⟨_,_,rfl,t.sq,r⟩
 |raw h r=>exact⟨_,_,rfl,Jr.of h,r⟩
theorem Vw.dct(h:Vw K O H v (.dict ds)):∃a kvs,v=.ref a/\Rd H a (.dK kvs)/\JU K O H kvs ds:=by
 cases h with
 |rep h=>cases h with|dct n t r=>exact⟨_,_,rfl,.inr ⟨_,t⟩,r⟩
 |rawD t r=>exact⟨_,_,rfl,.inl t,r⟩
end
def DC(K:Frag)(O:Addr->Prop)(H:Hp)(a:Addr):Ra->Prop
 |.list xs=>∃vs,H a=Iv (.lst vs)/\EE K O H vs xs
 |.dict ds=>∃kvs,H a=Iv (.dK kvs)/\JU K O H kvs ds
 |_=>False
theorem DC.mono{K:Frag}{O O':Addr->Prop}{H H':Hp}{a:Addr}{x:Ra}(h:DC K O H a x)(k:∀o,H a=Iv o->H' a=Iv o)(l:Le O H O' H'):DC K O' H' a x:=by
 cases x with
 |list xs=>obtain⟨vs,h1,h2⟩:=h;exact⟨vs,k _ h1,h2.mono l⟩
 |dict ds=>obtain⟨vs,h1,h2⟩:=h;exact⟨vs,k _ h1,h2.mono l⟩
 |_=>cases h
def DC.some{K:Frag}{O:Addr->Prop}{H:Hp}{a:Addr}{x:Ra}(h:DC K O H a x):∃o,H a=Iv o:=by
 cases x with
 |list xs=>obtain⟨vs,h1,h2⟩:=h;exact⟨_,h1⟩
 |dict ds=>obtain⟨vs,h1,h2⟩:=h;exact⟨_,h1⟩
 |_=>cases h
def Hy(K:Frag)(O:Addr->Prop)(ts:List Addr)(H:Hp)(v:V):W->Prop
 |.d x=>Rep K O H v x
 |.tp i=>∃a,ts[i]? = Iv a/\v=.ref a
 |.loc x=>∃a,v=.ref a/\O a/\a∉ts/\DC K O H a x
def nJ(xs:List Ra):Option PyData:=if Gs xs=KN then LG else Iv (.list xs)
noncomputable def view(T:Tp):W->Option Ra
 |.d x=>Iv x
 |.tp i=>(T[i]?).bind nJ
 |.loc (.list xs)=>Iv (.list xs)
 |.loc (.dict ds)=>Iv (.dict ds)
 |.loc _=>LG
noncomputable def views(T:Tp):List W->Option (List Ra)
 |[]=>Iv []
 |w::r=>match view T w with
  | some x=>(match views T r with
   |some xs=>Iv (x::xs)
   | none=>LG)
  |none=>LG
def iD(K:Frag)(O:Addr->Prop)(ts:List Addr)(H:Hp):List V->List W->Prop:=WP λv w=>Hy K O ts H v w
def zp(K:Frag)(O:Addr->Prop)(H:Hp):List V->List Ra->Prop:=WP λv x=>Vw K O H v x
def LZ(K:Frag)(O:Addr->Prop)(ts:List Addr)(H:Hp)(σ:L2.St)(ρ:XE):Prop:=∀(i:Nat) (w:W),ρ[i]? = Iv (Iv w)->∃v,σ[i]? = Iv (Iv v)/\Hy K O ts H v w
section
variable {K:Frag}{O:Addr->Prop}{ts:List Addr}{H H':Hp}{T:Tp}{v:V}{w:W}
theorem Hy.mono(r:Hy K O ts H v w)(c:HC K O ts H T)(s:F7 ts H H'):Hy K O ts H' v w:=by
 cases w with
 |d x=>exact Rep.mono (c.le s) r
 |tp i=>exact r
 |loc xs=>
  obtain⟨a,e,h1,h2,h3⟩:=r;exact⟨a,e,h1,h2,h3.mono (λo q=>s _ _ h2 q) (c.le s)⟩
theorem LZ.mono(r:LZ K O ts H σ ρ)(c:HC K O ts H T)(s:F7 ts H H'):LZ K O ts H' σ ρ:=λi w e=>
 let ⟨v,h1,h2⟩:=r i w e;⟨v,h1,h2.mono c s⟩
theorem HC.view(c:HC K O ts H T)(r:Hy K O ts H v w)(e:view T w=Iv x):Vw K O H v x:=by
 cases w with
 |d y=>cases e;exact .rep r
 |tp i=>
  obtain⟨a,h1,rfl⟩:=r;have e':(T[i]?).bind nJ=Iv x:=e
  cases ht:T[i]? with
  |none=>simp_all
  |some xs=>
   rw[ht] at e';have e2:(if Gs xs=KN then LG else Iv _)=Iv x:=e';split at e2
   .cases e2
   .rename_i hn
    cases e2;obtain⟨vs,h2,h3⟩:=(c.tape i a xs h1 ht).lst (by simpa using hn);exact .raw h2 h3
 |loc xs=>
  obtain⟨a,rfl,_,_,h3⟩:=r
  cases xs with
  |list xs=>cases e;obtain⟨vs,h1,h2⟩:=h3;exact .raw h1 h2
  |dict ds=>cases e;obtain⟨vs,h1,h2⟩:=h3;exact .rawD h1 h2
  |_=>cases h3
theorem HC.views(c:HC K O ts H T):∀{vs:List V}{ws:List W}{xs:List Ra},iD K O ts H vs ws->views T ws=Iv xs->zp K O H vs xs
 |_,[],xs,.nil,e=>by cases e;exact .nil
 |_,w::r,xs,.cons h t,e=>by
  unfold D.views at e;split at e
  .rename_i x h1
   split at e
   .rename_i ys h2
    cases e;exact .cons (c.view h h1) (HC.views c t h2)
   .cases e
  .cases e
end
def noStar:Expr->Bool
 |.Starred _ _=>Lf
 |_=>KN
def aU(h:noStar e=KN):Rk (e::es) env=(Lf,eval e env)::Rk es env:=by cases e <;> first|rfl|cases h
def sG(h:noStar e=KN):Rk [e] env=[(Lf,eval e env)]:=aU h
theorem bV:∀{es:List Expr},es.all noStar=KN->(R6 pos (Rk es env)).any (·.1)=Lf
 |[],_=>rfl
 |e::r,h=>by
  rw[Ui,Ro] at h;rw[aU h.1];show (Lf||(R6 pos _).any _)=Lf;rw[bV h.2];rfl
def zek(h:noStar e=KN):R6 pos (Rk (e::es) env)=(Lf,eval e env)::R6 pos (Rk es env):=by
 rw[aU h];rfl
def iG(h:noStar e=KN):((R6 cpos (Rk [e] env)).all (λx=>!x.1)&&(TL cpos (SK [] env)).all (λx=>x.1.isSome)
   && decide (([e]:List Expr).length+([]:List Sx).length+(if ([]:List Sx).isEmpty then 0 else 1)<30))=KN:=by
 rw[sG h];rfl
abbrev FE:=XE->Tp->Option (W×Tp)
abbrev FT:=XE->Tp->Option (Bool×Tp)
abbrev FA:=XE->Tp->Option (List W×Tp)
inductive K4(K:Frag)(f:FE)(σ:L2.St)(H:Hp)(Q:VK):Prop where
 |mk (O:Addr->Prop) (ts:List Addr) (ρ:XE) (T:Tp) (w:W) (T':Tp) (hc:HC K O ts H T) (re:LZ K O ts H σ ρ) (e:f ρ T=Iv (w,T')) (q:∀v H',F7 ts H H'->HC K O ts H' T'->Hy K O ts H' v w->Q v H'):K4 K f σ H Q
def lift(K:Frag)(f:FE):TE:=λσ H Q=>K4 K f σ H Q
inductive KQ(K:Frag)(f:FT)(σ:L2.St)(H:Hp)(Q:Bool->Hp->Prop):Prop where
 |mk (O:Addr->Prop) (ts:List Addr) (ρ:XE) (T:Tp) (b:Bool) (T':Tp) (hc:HC K O ts H T) (re:LZ K O ts H σ ρ) (e:f ρ T=Iv (b,T')) (q:∀H',F7 ts H H'->HC K O ts H' T'->Q b H'):KQ K f σ H Q
def liftT(K:Frag)(f:FT):TT:=λσ H Q=>KQ K f σ H Q
inductive IG(K:Frag)(f:FA)(σ:L2.St)(H:Hp)(Q:List V->Hp->Prop):Prop where
 |mk (O:Addr->Prop) (ts:List Addr) (ρ:XE) (T:Tp) (ws:List W) (T':Tp) (hc:HC K O ts H T) (re:LZ K O ts H σ ρ) (e:f ρ T=Iv (ws,T')) (q:∀vs H',F7 ts H H'->HC K O ts H' T'->iD K O ts H' vs ws->Q vs H'):IG K f σ H Q
def Bl(K:Frag)(f:FA):TA:=λσ H Q=>IG K f σ H Q
structure DE(X:Cx)(e:Expr)(f:FE):Prop where
 pe:PE X e (lift X.K f)
structure DT(X:Cx)(e:Expr)(f:FT):Prop where
 pe:PT X e (liftT X.K f)
structure DW(X:Cx)(e:Expr)(f:FT):Prop where
 pe:PW X e (liftT X.K f)
structure DA(X:Cx)(es:List Expr)(f:FA):Prop where
 pe:PA X es (Bl X.K f)
def bx(h:PE X e t)(i:∀σ H Q,t' σ H Q->t σ H Q):PE X e t':=λpins s σ H Q I q=>h pins s σ H Q I (i σ H Q q)
def mL(h:PT X e t)(i:∀σ H Q,t' σ H Q->t σ H Q):PT X e t':=λpins s σ H Q I q=>h pins s σ H Q I (i σ H Q q)
def zvm(h:PW X e t)(i:∀σ H Q,t' σ H Q->t σ H Q):PW X e t':=λwh pins s σ H Q I q=>h wh pins s σ H Q I (i σ H Q q)
def zvn(h:PA X e t)(i:∀σ H Q,t' σ H Q->t σ H Q):PA X e t':=λpo pins s σ H Q I q=>h po pins s σ H Q I (i σ H Q q)
noncomputable def aa(i:Nat):FE:=λρ T=>match ρ[i]? with
 |some (Iv w)=>Iv (w,T)
 |_=>LG
noncomputable def fC(x:Ra):FE:=λ_ T=>Iv (.d x,T)
section
variable {X:Cx}{pos:Pos}
def ag(i:Nat)(hN:autoParam (X.N[i]? = Iv x) u10)(hv:autoParam (EC X.env.scope x) u18)(hd:autoParam ((x == ("__debug__" : Str))=Lf) u11)
  (hcd:autoParam ((x == ("__classdict__" : Str))=Lf) u11):DE X (.Name x pos) (aa i):=by
 refine⟨?_⟩;refine bx (pv i hN hv hd hcd) λσ H Q=>?_;rintro⟨O,ts,ρ,T,w,T',hc,re,e,q⟩;unfold aa at e;split at e
 .rename_i w' he
  cases e;obtain⟨v,h1,h2⟩:=re i _ he;exact⟨v,h1,q v H (.refl _ _) hc h2⟩
 .cases e
def ig(h:∀O H,Rep X.K O H v x):∀σ H Q,lift X.K (fC x) σ H Q->tC v σ H Q:=by
 rintro σ H Q ⟨O,ts,ρ,T,w,T',hc,re,e,q⟩;cases e;exact q v H (.refl _ _) hc (h O H)
def ar{i j}:DE X (.Constant (.int i) j pos) (fC (.int i)):=⟨bx uk (ig λ_ _=>.int i)⟩
def bM{i j}:DE X (.Constant (.bool i) j pos) (fC (.bool i)):=⟨bx zak (ig λ_ _=>.bl i)⟩
def au{i j}:DE X (.Constant (.str i) j pos) (fC (.str i)):=⟨bx uj (ig λ_ _=>.str i)⟩
def dy{j}:DE X (.Constant .none j pos) (fC .none):=⟨bx zal (ig λ_ _=>.non)⟩
def gC(hg:Gl X x)(hm:∃t,X.mg x=Iv (.int i t))(hd:autoParam ((x == ("__debug__" : Str))=Lf) u11):DE X (.Name x pos) (fC (.int i)):=by
 refine⟨?_⟩;obtain⟨t,hm⟩:=hm;exact bx (pT (v:=.int i) hg hm ⟨t,rfl⟩ hd) (ig λ_ _=>.int i)
def sR(hg:Gl X x)(hm:∃t,X.mg x=Iv (.str i t))(hd:autoParam ((x == ("__debug__" : Str))=Lf) u11):DE X (.Name x pos) (fC (.str i)):=by
 refine⟨?_⟩;obtain⟨t,hm⟩:=hm;exact bx (pT (v:=.str i) hg hm ⟨t,rfl⟩ hd) (ig λ_ _=>.str i)
end
def Fg(g:Ra->Option Ra)(T:Tp)(w:W):Option (W×Tp):=match view T w with
 |some x=>match g x with
  |some d=>Iv (.d d,T)
  |none=>LG
 |none=>LG
def Gc(g:Ra->Ra->Option Ra)(T:Tp)(w1 w2:W):Option (W×Tp):=match view T w1,view T w2 with
 |some x,Iv y=>match g x y with
  |some d=>Iv (.d d,T)
  |none=>LG
 |_,_=>LG
def ie(e:Fg g T w1=Iv (w,T')):∃x d,view T w1=Iv x/\g x=Iv d/\w=.d d/\T'=T:=by
 unfold Fg at e;split at e
 .split at e<;>simp_all
 .cases e
def gH(e:Gc g T w1 w2=Iv (w,T')):∃x y d,view T w1=Iv x/\view T w2=Iv y/\g x y=Iv d/\w=.d d/\T'=T:=by
 unfold Gc at e;split at e
 .split at e<;>simp_all
 .cases e
def af(g:Ra->Ra->Option Ra)(fa fb:FE):FE:=λρ T=>G5 (fa ρ T) λw1 T1=>G5 (fb ρ T1) λw2 T2=>Gc g T2 w1 w2
def LP(g:Ra->Option Ra)(fa:FE):FE:=λρ T=>G5 (fa ρ T) λw1 T1=>Fg g T1 w1
def iI(K:Frag)(r:R2)(g:Ra->Ra->Option Ra):Prop:=∀(O:Addr->Prop) (ts:List Addr) (H:Hp) (T:Tp) (v1 v2:V) (x y d:Ra) (Q:VK),HC K O ts H T->Vw K O H v1 x->Vw K O H v2 y->g x y=Iv d ->
 (∀v H',F7 ts H H'->HC K O ts H' T->Rep K O H' v d->Q v H')->r v1 v2 H Q
def Na(K:Frag)(r:V->Hp->VK->Prop)(g:Ra->Option Ra):Prop:=∀(O:Addr->Prop) (ts:List Addr) (H:Hp) (T:Tp) (v1:V) (x d:Ra) (Q:VK),HC K O ts H T->Vw K O H v1 x->g x=Iv d ->
 (∀v H',F7 ts H H'->HC K O ts H' T->Rep K O H' v d->Q v H')->r v1 H Q
def HE(X:Cx)(f:Re->Re->Sem Re)(g:Ra->Ra->Option Ra):Prop:=∃r,Fo X f r/\iI X.K r g
def An(X:Cx)(g:Ra->Ra->Option Ra):Prop:=∃r,IJ X r/\iI X.K r g
def mE{K:Frag}{r:R2}{g:Ra->Ra->Option Ra}{fa fb:FE}(snd:iI K r g){σ:L2.St}{H:Hp}{Q:VK}(h:lift K (af g fa fb) σ H Q):MS r (lift K fa) (lift K fb) σ H Q:=by
 obtain⟨O,ts,ρ,T,w,T',hc,re,e,q⟩:=h;obtain⟨w1,T1,e1,e⟩:=aF e;obtain⟨w2,T2,e2,e⟩:=aF e;obtain⟨x,y,d,h1,h2,h3,rfl,rfl⟩:=gH e;refine⟨O,ts,ρ,T,w1,T1,hc,re,e1,λv1 H1 s1 C3 r1=>?_⟩;refine⟨O,ts,ρ,T1,w2,T',C3,re.mono hc s1,e2,λv2 H2 s2 JY r2=>?_⟩;exact snd O ts H2 T' v1 v2 x y d Q JY (JY.view (r1.mono C3 s2) h1) (JY.view r2 h2) h3 λv H' s3 HM r3=>q v H' (s1.trans (s2.trans s3)) HM r3
noncomputable def ID:W->Option Bool
 |.d (.bool b)=>Iv b
 |_=>LG
def mV(h:ID w=Iv b):w=.d (.bool b):=by
 unfold ID at h
 split at h<;>simp_all
def ao(f:FE):FT:=λρ T=>G5 (f ρ T) λw T1=>match ID w with
 |some b=>Iv (b,T1)
 |none=>LG
def pJ{K:Frag}{f:FE}{σ:L2.St}{H:Hp}{Q:Bool->Hp->Prop}(h:liftT K (ao f) σ H Q):lift K f σ H λx H'=>∃k,x=.bl k/\Q k H':=by
 obtain⟨O,ts,ρ,T,w,T',hc,re,e,q⟩:=h;obtain⟨w1,T1,e1,e⟩:=aF e;refine⟨O,ts,ρ,T,w1,T1,hc,re,e1,λv1 H1 s1 C3 r1=>?_⟩;split at e
 .rename_i b hb
  cases e;have hw:=mV hb;subst hw;cases (r1);exact⟨_,rfl,q H1 s1 C3⟩
 .cases e
section
variable {X:Cx}{pos:Pos}{a b c:Expr}{fa fb fc:FE}{g g':Ra->Ra->Option Ra}
def aK(ho:HE X (SX op) g)(ha:DE X a fa)(hb:DE X b fb):DE X (.BinOp a op b pos) (af g fa fb):=by
 refine⟨?_⟩;obtain⟨r,hr,snd⟩:=ho;exact bx (zto hr ha.pe hb.pe) λσ H Q=>mE snd
def bu(ho:HE X (RB op) g)(ha:DE X a fa)(hb:DE X b fb)(hm:autoParam (Tf op b=Lf) u25):DE X (.Compare a [op] [b] pos) (af g fa fb):=by
 refine⟨?_⟩;obtain⟨r,hr,snd⟩:=ho;exact bx (zbq hr ha.pe hb.pe hm) λσ H Q=>mE snd
def az(ho:HE X (RB op) g)(ha:DE X a fa)(hb:DE X b fb)(hm:autoParam (Tf op b=Lf) u25):DT X (.Compare a [op] [b] pos) (ao (af g fa fb)):=by
 refine⟨?_⟩;obtain⟨r,hr,snd⟩:=ho;exact mL (zbr hr ha.pe hb.pe hm) λσ H Q h=>mE snd (pJ h)
def aQ(ho:An X g)(ha:DE X a fa)(hb:DE X b fb)(hs:autoParam (mG b) u21):DE X (.Subscript a b pos) (af g fa fb):=by
 refine⟨?_⟩;obtain⟨r,hr,snd⟩:=ho;exact bx (mZ hr ha.pe hb.pe hs) λσ H Q=>mE snd
def jh(g g':Ra->Ra->Option Ra)(fa fb fc:FE):FE:=λρ T=>G5 (fa ρ T) λw1 T1=>G5 (fb ρ T1) λw2 T2=>G5 (Gc g T2 w1 w2) λw T3=>match ID w with
 |some b=>if b=KN then G5 (fc ρ T3) λw3 T4=>Gc g' T4 w2 w3 else Iv (.d (.bool Lf),T3)
 |none=>LG
def zvo{K:Frag}{r r':R2}(snd:iI K r g)(K0:iI K r' g'){σ:L2.St}{H:Hp}{Q:VK}(h:lift K (jh g g' fa fb fc) σ H Q):tZ r r' (lift K fa) (lift K fb) (lift K fc) σ H Q:=by
 obtain⟨O,ts,ρ,T,w,T',hc,re,e,q⟩:=h;obtain⟨w1,T1,e1,e⟩:=aF e;obtain⟨w2,T2,e2,e⟩:=aF e;obtain⟨wz,T3,e3,ez⟩:=aF e;obtain⟨x,y,d,h1,h2,h3,rfl,rfl⟩:=gH e3;clear e;refine⟨O,ts,ρ,T,w1,T1,hc,re,e1,λv1 H1 s1 C3 r1=>?_⟩;refine⟨O,ts,ρ,T1,w2,T3,C3,re.mono hc s1,e2,λv2 H2 s2 JY r2=>?_⟩;refine snd O ts H2 T3 v1 v2 x y d _ JY (JY.view (r1.mono C3 s2) h1) (JY.view r2 h2) h3 λv H3 s3 HM r3=>?_;split at ez
 .rename_i b hb
  have hd:=mV hb
  injection hd with hd
  subst hd;cases r3
  cases b with
  |true=>
   refine⟨KN,rfl,gO ?_⟩;obtain⟨w3,T4,e4,e5⟩:=aF ez;obtain⟨x',y',d',KW,h2',Hh,rfl,rfl⟩:=gH e5;refine⟨O,ts,ρ,T3,w3,T',HM,(re.mono hc (s1.trans (s2.trans s3))),e4,λv3 H4 s4 FH r4=>?_⟩;exact K0 O ts H4 T' v2 v3 x' y' d' Q FH (FH.view (r2.mono JY (s3.trans s4)) KW) (FH.view r4 h2') Hh λv H' s5 hc5 r5=>q v H' (s1.trans (s2.trans (s3.trans (s4.trans s5)))) hc5 r5
  |false=>
   cases ez;exact⟨Lf,rfl,fJ (q _ H3 (s1.trans (s2.trans s3)) HM (.bl _))⟩
 .cases ez
def zel(ho:HE X (RB op) g)(DH:HE X (RB DD) g')(ha:DE X a fa)(hb:DE X b fb)(hc:DE X c fc)
  (hm:autoParam (X2 [op,DD] [b,c]=Lf) u24):DE X (.Compare a [op,DD] [b,c] pos) (jh g g' fa fb fc):=by
 refine⟨?_⟩;obtain⟨r,hr,snd⟩:=ho;obtain⟨r',JB,K0⟩:=DH;exact bx (zbs hr JB ha.pe hb.pe hc.pe hm) λσ H Q=>zvo snd K0
def zvp(ho:HE X (RB op) g)(DH:HE X (RB DD) g')(ha:DE X a fa)(hb:DE X b fb)(hc:DE X c fc)
  (hm:autoParam (X2 [op,DD] [b,c]=Lf) u24):DT X (.Compare a [op,DD] [b,c] pos) (ao (jh g g' fa fb fc)):=by
 refine⟨?_⟩;obtain⟨r,hr,snd⟩:=ho;obtain⟨r',JB,K0⟩:=DH;exact mL (zbt hr JB ha.pe hb.pe hc.pe hm) λσ H Q h=>zvo snd K0 (pJ h)
noncomputable def qS:Ra->Option Bool
 |.none=>Iv Lf
 |.bool b=>Iv b
 |.int i=>Iv (i != 0)
 |.str y=>if y.length<=Rp then Iv ((y.length:Int) != 0) else LG
 |.list xs=>Iv (!xs.isEmpty)
 |.tuple xs=>Iv (!xs.isEmpty)
 |.dict _=>LG
def qT(T:Tp)(w:W):Option (Bool×Tp):=match view T w with
 |some x=>match qS x with
  |some b=>Iv (b,T)
  |none=>LG
 |none=>LG
def aJ(f:FE):FT:=λρ T=>G5 (f ρ T) λw T1=>qT T1 w
def zvq{K:Frag}{O:Addr->Prop}{H:Hp}{vs:List V}{ds:List Ra}(r:EE K O H vs ds):vs.isEmpty=ds.isEmpty:=by cases r <;> rfl
def zem{K:Frag}{O:Addr->Prop}{H:Hp}{v:V}{x:Ra}{b:Bool}(h:Vw K O H v x)(e:qS x=Iv b):vh K v H b:=by
 cases x with
 |none=>cases h.non;cases e;rfl
 |bool c=>cases h.bl;cases e;rfl
 |int i=>cases h.int;cases e;rfl
 |str y=>
  cases h.str;have e':(if y.length<=Rp then Iv _ else LG)=Iv b:=e;split at e'
  .rename_i hl
   cases e';exact⟨hl,rfl⟩
  .cases e'
 |list xs=>
  obtain⟨a,vs,rfl,h1,h2⟩:=h.lst;cases e;exact .inl ⟨vs,h1,by rw[zvq h2]⟩
 |tuple xs=>
  obtain⟨a,vs,rfl,h1,h2⟩:=h.tup;cases e;exact .inr (.inl ⟨vs,h1.sq,by rw[zvq h2]⟩)
 |dict kvs=>
  cases e
def aS(ha:DE X a fa)(he:autoParam (∀whole,YJ a X.env whole=(do let v ←whole;ZG a.pos;Wn [v] (truthy v))) u17):DT X a (aJ fa):=by
 refine⟨?_⟩;refine mL (zbw ha.pe he) λσ H Q=>?_;rintro⟨O,ts,ρ,T,b,T',hc,re,e,q⟩;obtain⟨w1,T1,e1,e⟩:=aF e;refine⟨O,ts,ρ,T,w1,T1,hc,re,e1,λv1 H1 s1 C3 r1=>?_⟩;unfold qT at e;split at e
 .rename_i x h1
  split at e
  .rename_i k h2
   cases e;exact⟨b,zem (C3.view r1 h1) h2,q H1 s1 C3⟩
  .cases e
 .cases e
def bv(f g:FT):FT:=λρ T=>G5 (f ρ T) λb T1=>if b=KN then g ρ T1 else Iv (Lf,T1)
def bq(f g:FT):FT:=λρ T=>G5 (f ρ T) λb T1=>if b=KN then Iv (KN,T1) else g ρ T1
def bj(f:FT):FT:=λρ T=>G5 (f ρ T) λb T1=>Iv (!b,T1)
variable {ta tb:FT}{rest:List Expr}
def bg(h:DW X a f):DT X a f:=⟨PW.pt h.pe⟩
def cL(ha:DT X a ta):DW X (.BoolOp .And [a] pos) ta:=⟨zan ha.pe⟩
def b8(ha:DT X a ta):DW X (.BoolOp .Or [a] pos) ta:=⟨zao ha.pe⟩
def cv(ha:DT X a ta)(hb:DW X (.BoolOp .And (b::rest) pos) tb):DW X (.BoolOp .And (a::b::rest) pos) (bv ta tb):=by
 refine⟨?_⟩;refine zvm (zap ha.pe hb.pe) λσ H Q=>?_;rintro⟨O,ts,ρ,T,b,T',hc,re,e,q⟩;obtain⟨b1,T1,e1,e⟩:=aF e;refine⟨O,ts,ρ,T,b1,T1,hc,re,e1,λH1 s1 C3=>?_⟩
 cases b1 with
 |true=>exact gO ⟨O,ts,ρ,T1,b,T',C3,re.mono hc s1,by simpa using e,λH2 s2 JY=>q H2 (s1.trans s2) JY⟩
 |false=>
  simp_all
def bJ(ha:DT X a ta)(hb:DW X (.BoolOp .Or (b::rest) pos) tb):DW X (.BoolOp .Or (a::b::rest) pos) (bq ta tb):=by
 refine⟨?_⟩;refine zvm (zaq ha.pe hb.pe) λσ H Q=>?_;rintro⟨O,ts,ρ,T,b,T',hc,re,e,q⟩;obtain⟨b1,T1,e1,e⟩:=aF e;refine⟨O,ts,ρ,T,b1,T1,hc,re,e1,λH1 s1 C3=>?_⟩
 cases b1 with
 |false=>exact fJ ⟨O,ts,ρ,T1,b,T',C3,re.mono hc s1,by simpa using e,λH2 s2 JY=>q H2 (s1.trans s2) JY⟩
 |true=>
  simp_all
def bB(ha:DT X a ta):DT X (.UnaryOp .Not a pos) (bj ta):=by
 refine⟨?_⟩;refine mL (zar ha.pe) λσ H Q=>?_;rintro⟨O,ts,ρ,T,b,T',hc,re,e,q⟩;obtain⟨b1,T1,e1,e⟩:=aF e;cases e;exact⟨O,ts,ρ,T,b1,T',hc,re,e1,λH1 s1 C3=>q H1 s1 C3⟩
def bN(f g:FE):FE:=λρ T=>G5 (f ρ T) λw T1=>match ID w with
 |some b=>if b=KN then g ρ T1 else Iv (.d (.bool Lf),T1)
 |none=>LG
def vc(f g:FE):FE:=λρ T=>G5 (f ρ T) λw T1=>match ID w with
 |some b=>if b=KN then Iv (.d (.bool KN),T1) else g ρ T1
 |none=>LG
def nv(f:FE):FE:=λρ T=>G5 (f ρ T) λw T1=>match ID w with
 |some b=>Iv (.d (.bool (!b)),T1)
 |none=>LG
def cH{op}(h:DE X a fa):DE X (.BoolOp op [a] pos) fa:=⟨zas h.pe⟩
def bX(ha:DE X a fa)(hb:DE X (.BoolOp .And (b::rest) pos) fb):DE X (.BoolOp .And (a::b::rest) pos) (bN fa fb):=by
 refine⟨?_⟩;refine bx (zat ha.pe hb.pe) λσ H Q=>?_;rintro⟨O,ts,ρ,T,w,T',hc,re,e,q⟩;obtain⟨w1,T1,e1,e⟩:=aF e;refine⟨O,ts,ρ,T,w1,T1,hc,re,e1,λv1 H1 s1 C3 r1=>?_⟩;split at e
 .rename_i b hb
  have hw:=mV hb;subst hw;cases (show Rep X.K O H1 v1 _ from r1)
  cases b with
  |true=>exact⟨_,rfl,gO ⟨O,ts,ρ,T1,w,T',C3,re.mono hc s1,by simpa using e,λv H2 s2 JY r2=>q v H2 (s1.trans s2) JY r2⟩⟩
  |false=>
   simp_all
 .cases e
def zen(ha:DE X a fa)(hb:DE X (.BoolOp .Or (b::rest) pos) fb):DE X (.BoolOp .Or (a::b::rest) pos) (vc fa fb):=by
 refine⟨?_⟩;refine bx (zau ha.pe hb.pe) λσ H Q=>?_;rintro⟨O,ts,ρ,T,w,T',hc,re,e,q⟩;obtain⟨w1,T1,e1,e⟩:=aF e;refine⟨O,ts,ρ,T,w1,T1,hc,re,e1,λv1 H1 s1 C3 r1=>?_⟩;split at e
 .rename_i b hb
  have hw:=mV hb;subst hw;cases (show Rep X.K O H1 v1 _ from r1)
  cases b with
  |false=>exact⟨_,rfl,fJ ⟨O,ts,ρ,T1,w,T',C3,re.mono hc s1,by simpa using e,λv H2 s2 JY r2=>q v H2 (s1.trans s2) JY r2⟩⟩
  |true=>
   simp_all
 .cases e
def uz(ha:DE X a fa):DE X (.UnaryOp .Not a pos) (nv fa):=by
 refine⟨?_⟩;refine bx (zav ha.pe) λσ H Q=>?_;rintro⟨O,ts,ρ,T,w,T',hc,re,e,q⟩;obtain⟨w1,T1,e1,e⟩:=aF e;refine⟨O,ts,ρ,T,w1,T1,hc,re,e1,λv1 H1 s1 C3 r1=>?_⟩;split at e
 .rename_i b hb
  have hw:=mV hb;subst hw;cases (r1);cases e;exact⟨_,rfl,q _ H1 s1 C3 (.bl _)⟩
 .cases e
def cD(c:FT)(f g:FE):FE:=λρ T=>G5 (c ρ T) λb T1=>if b=KN then f ρ T1 else g ρ T1
def dI(hc:DT X c ta)(ha:DE X a fa)(hb:DE X b fb):DE X (.IfExp c a b pos) (cD ta fa fb):=by
 refine⟨?_⟩;refine bx (zaw hc.pe ha.pe hb.pe) λσ H Q=>?_;rintro⟨O,ts,ρ,T,w,T',hc,re,e,q⟩;obtain⟨b1,T1,e1,e⟩:=aF e;refine⟨O,ts,ρ,T,b1,T1,hc,re,e1,λH1 s1 C3=>?_⟩
 cases b1 with
 |true=>exact gO ⟨O,ts,ρ,T1,w,T',C3,re.mono hc s1,by simpa using e,λv H2 s2 JY r2=>q v H2 (s1.trans s2) JY r2⟩
 |false=>exact fJ ⟨O,ts,ρ,T1,w,T',C3,re.mono hc s1,by simpa using e,λv H2 s2 JY r2=>q v H2 (s1.trans s2) JY r2⟩
def zeo(hr:Ak X (unaryOp op) r)(snd:Na X.K r g1)(ha:DE X a fa):DE X (.UnaryOp op a pos) (LP g1 fa):=by
 refine⟨?_⟩;refine bx (zbe hr ha.pe) λσ H Q=>?_;rintro⟨O,ts,ρ,T,w,T',hc,re,e,q⟩;obtain⟨w1,T1,e1,e⟩:=aF e;obtain⟨x,d,h1,h3,rfl,rfl⟩:=ie e;refine⟨O,ts,ρ,T,w1,T',hc,re,e1,λv1 H1 s1 C3 r1=>?_⟩;exact snd O ts H1 T' v1 x d Q C3 (C3.view r1 h1) h3 λv H' s3 HM r3=>q v H' (s1.trans s3) HM r3
end
def ah:FA:=λ_ T=>Iv ([],T)
def ab(f:FE)(g:FA):FA:=λρ T=>G5 (f ρ T) λw T1=>G5 (g ρ T1) λws T2=>Iv (w::ws,T2)
noncomputable def eI:List W->Option (List Ra)
 |[]=>Iv []
 |.d x::r=>match eI r with
  |some xs=>Iv (x::xs)
  |none=>LG
 |_::_=>LG
theorem me{K:Frag}{O:Addr->Prop}{ts:List Addr}{H:Hp}:∀{vs:List V}{ws:List W}{xs:List Ra},iD K O ts H vs ws->eI ws=Iv xs->EE K O H vs xs
 |_,[],_,.nil,e=>by cases e;exact .nil
 |_,.d x::r,xs,.cons h t,e=>by
  unfold eI at e;split at e
  .rename_i ys h2
   cases e;exact .cons h (me t h2)
  .cases e
 |_,.tp _::_,_,.cons _ _,e=>by cases e
 |_,.loc _::_,_,.cons _ _,e=>by cases e
def ax(mk:List Ra->Ra)(f:FA):FE:=λρ T=>G5 (f ρ T) λws T1=>match eI ws with
 |some xs=>if xs.length<=1000 then Iv (.d (mk xs),T1) else LG
 |none=>LG
def pV(h:n<=1000):n<=sizeLine:=RL h (by decide)
def eV(X:Cx)(f:Re)(g:List Ra->Option Ra):Prop:=∃r,Fh X f r/\∀(O:Addr->Prop) (ts:List Addr) (H:Hp) (T:Tp) (vs:List V) (xs:List Ra) (d:Ra) (Q:VK),HC X.K O ts H T->zp X.K O H vs xs->g xs=Iv d ->
 (∀v H',F7 ts H H'->HC X.K O ts H' T->Rep X.K O H' v d->Q v H')->r vs H Q
def Et(g:List Ra->Option Ra)(f:FA):FE:=λρ T=>G5 (f ρ T) λws T1=>match views T1 ws with
 |some xs=>match g xs with
  |some d=>Iv (.d d,T1)
  |none=>LG
 |none=>LG
section
variable {X:Cx}{pos p:Pos}{e:Expr}{es:List Expr}{f:FE}{g:FA}
def aD:DA X [] ah:=by
 refine⟨?_⟩;refine zvn cM λσ H Q=>?_;rintro⟨O,ts,ρ,T,w,T',hc,re,e,q⟩;cases e;exact q [] H (.refl _ _) hc .nil
def av(ha:DE X e f)(hr:DA X es g)(hs:autoParam (Rk (e::es) X.env=(Lf,eval e X.env)::Rk es X.env) u12):DA X (e::es) (ab f g):=by
 refine⟨?_⟩;refine zvn (cn ha.pe hr.pe hs) λσ H Q=>?_;rintro⟨O,ts,ρ,T,w,T',hc,re,e,q⟩;obtain⟨w1,T1,e1,e⟩:=aF e;obtain⟨ws,T2,e2,e⟩:=aF e;cases e;refine⟨O,ts,ρ,T,w1,T1,hc,re,e1,λv1 H1 s1 C3 r1=>?_⟩;exact⟨O,ts,ρ,T1,ws,_,C3,re.mono hc s1,e2,λvs H2 s2 JY r2=>q _ H2 (s1.trans s2) JY (.cons (r1.mono C3 s2) r2)⟩
def zvr(e:ax mk g ρ T=Iv (w,T')):∃ws xs,g ρ T=Iv (ws,T')/\eI ws=Iv xs/\xs.length<=1000/\w=.d (mk xs):=by
 obtain⟨ws,T1,e1,e⟩:=aF e
 split at e<;>simp_all
def cw{x1}(h:DA X es g):DE X (.Tuple es x1 pos) (ax .tuple g):=by
 refine⟨?_⟩;refine bx (uh h.pe) λσ H Q=>?_;rintro⟨O,ts,ρ,T,w,T',hc,re,e,q⟩;obtain⟨ws,xs,e1,h1,h2,rfl⟩:=zvr e;refine⟨O,ts,ρ,T,ws,T',hc,re,e1,λvs H1 s1 C3 r1=>?_⟩;have rs:=me r1 h1;refine⟨pV (by rw[rs.length];exact h2),λp hp=>?_⟩;exact q _ _ (s1.trans (.new hp _)) (C3.new hp _) (C3.newT hp rs)
def cA(h:DA X es g):DE X (.List es pos) (ax .list g):=by
 refine⟨?_⟩;refine bx (kg h.pe) λσ H Q=>?_;rintro⟨O,ts,ρ,T,w,T',hc,re,e,q⟩;obtain⟨ws,xs,e1,h1,h2,rfl⟩:=zvr e;refine⟨O,ts,ρ,T,ws,T',hc,re,e1,λvs H1 s1 C3 r1=>?_⟩;have rs:=me r1 h1;refine⟨pV (by rw[rs.length];exact h2),λp hp=>?_⟩;exact q _ _ (s1.trans (.new hp _)) (C3.new hp _) (C3.newL hp rs)
def zvs{K:Frag}{r:List V->Hp->VK->Prop}{gg:List Ra->Option Ra}(snd:∀(O:Addr->Prop) (ts:List Addr) (H:Hp) (T:Tp) (vs:List V) (xs:List Ra) (d:Ra) (Q:VK),HC K O ts H T->zp K O H vs xs->gg xs=Iv d ->
  (∀v H',F7 ts H H'->HC K O ts H' T->Rep K O H' v d->Q v H')->r vs H Q) {σ:L2.St}{H:Hp}{Q:VK} (h:lift K (Et gg g) σ H Q):xD r (Bl K g) σ H Q:=by
 obtain⟨O,ts,ρ,T,w,T',hc,re,e,q⟩:=h;obtain⟨ws,T1,e1,e⟩:=aF e;refine⟨O,ts,ρ,T,ws,T1,hc,re,e1,λvs H1 s1 C3 r1=>?_⟩;split at e
 .rename_i xs h1
  split at e
  .rename_i d h2
   cases e;exact snd O ts H1 T' vs xs d Q C3 (C3.views r1 h1) h2 λv H' s3 HM r3=>q v H' (s1.trans s3) HM r3
  .cases e
 .cases e
def dF{x:Str}{id:String}{gg:List Ra->Option Ra}(hc:eV X (.builtin id) gg)(hg:Gl X x)(hm:X.mg x=LG)(hv:Te x=Iv (.builtin id))(ha:DA X (e::es) g)(hn:autoParam (x≠"__name__") u11)(E2:autoParam ((x == ("__debug__" : Str))=Lf) u11)
  (he:autoParam (Rk (e::es) X.env=(Lf,eval e X.env)::Rk es X.env) u12) (Mh:autoParam ((R6 pos (Rk es X.env)).any (·.1)=Lf) u15):DE X (.Call (.Name x p) (e::es) [] pos) (Et gg g):=by
 refine⟨?_⟩;obtain⟨r,hr,snd⟩:=hc;exact bx (lY hr hg hm hv ha.pe hn E2 he Mh) λσ H Q h=>zvs snd h
def bG{x:Str}{id:String}{gg:List Ra->Option Ra}(hc:eV X (.type id) gg)(hg:Gl X x)(hm:X.mg x=LG)(hv:Te x=Iv (.type id))(ha:DA X (e::es) g)(hn:autoParam (x≠"__name__") u11)(E2:autoParam ((x == ("__debug__" : Str))=Lf) u11)
  (he:autoParam (Rk (e::es) X.env=(Lf,eval e X.env)::Rk es X.env) u12) (Mh:autoParam ((R6 pos (Rk es X.env)).any (·.1)=Lf) u15):DE X (.Call (.Name x p) (e::es) [] pos) (Et gg g):=by
 refine⟨?_⟩;obtain⟨r,hr,snd⟩:=hc;exact bx (rW hr hg hm hv ha.pe hn E2 he Mh) λσ H Q h=>zvs snd h
end
abbrev FI:=XE->Tp->Option (List Ra×Tp)
def MV(K:Frag)(tl:TE):TI:=λσ H R=>tl σ H λx H1=>(∃a xs,x=.ref a/\Jr K H1 a xs/\(xs.length<=Rp->R (zH K a) H1))\/(∃a xs,x=.ref a/\Fy K H1 a xs/\(xs.length<=Rp->R (x8 K a) H1))\/(∃z,x=.str z/\R (zJ z) H1)\/∃a o kvs,x=.ref a/\H1 a=Iv (.frz o (.dK kvs))/\(kvs.length<=Rp->R (AF a o kvs) H1)
def zep(hl:PE X l tl):PI X tg l (MV X.K tl):=by
 intro pins s σ H R I h;refine JI (hl pins s σ H _ I h) λv s1 ⟨x,H1,I1,r1,q1⟩=>?_
 have fk:∀b∈[s1.heap.objs.size],d8 X pins H1 b:=λb hb=>by
  have e:b=s1.heap.objs.size:=by simpa using hb
  subst e;exact I1.fpOk (Rn _) (I1.hok.fresh (Rn _))
 rcases q1 with⟨a,xs,e,hq,q⟩|⟨a,xs,e,hq,q⟩|⟨z,e,q⟩|⟨a,o,kvs,e,hq,q⟩
 .subst e
  cases r1;obtain⟨ED,rv,p,hz⟩:=I1.list hq;refine Um p.isList ?_;exact⟨s1.heap.objs.size,[s1.heap.objs.size],_,_,H1,rfl,I1.kept (t':=s1.toks) λb o e=>Ri _ e,ztn a _,⟨_,RA _ rfl,rfl,rfl⟩,fk,q hz⟩
 .subst e
  cases r1;obtain⟨ED,rv,p,hz⟩:=I1.tuple hq;refine wpAny_pyIter_tuple (show s1.heap.IsTuple a ED.toArray from p) ?_;exact⟨s1.heap.objs.size,[s1.heap.objs.size],_,_,H1,rfl,I1.kept (t':=s1.toks) λb o e=>Ri _ e,zaz a _,⟨_,RA _ rfl,rfl,rfl⟩,fk,q hz⟩
 .subst e
  obtain⟨t,rfl⟩:=r1
  cases ha:z.cps.all (· < 128) with
  |false=>
   refine wpAny_pyIter_wide ha ?_;exact⟨s1.heap.objs.size,[s1.heap.objs.size],_,_,H1,rfl,I1.kept (t':=s1.toks) λb o e=>Ri _ e,zvi z t "str_iterator" _ (.inr rfl),⟨_,RA _ rfl,rfl,rfl⟩,fk,q⟩
  |true=>
   refine wpAny_pyIter_ascii ha ?_;exact⟨s1.heap.objs.size,[s1.heap.objs.size],_,_,H1,rfl,I1.kept (t':=s1.toks) λb o e=>Ri _ e,zvi z t "str_ascii_iterator" _ (.inl rfl),⟨_,RA _ rfl,rfl,rfl⟩,fk,q⟩
 .subst e
  cases r1;obtain⟨z,y,vs,kv,dd⟩:=iV I1.hok hq;refine wpAny_pyIter_dict y dd ?_;exact⟨s1.heap.objs.size,[s1.heap.objs.size],_,_,H1,rfl,I1.kept (t':=s1.toks) λb o e=>Ri _ e,zeg a _ o kvs,⟨_,RA _ rfl,rfl,by rw[kv.length];rfl⟩,fk,q z⟩
def JN(K:Frag)(O:Addr->Prop)(H1:Hp)(J:It)(ds:List Ra):Prop:=∀O' H',Le O H1 O' H'->(∀i,i<ds.length->J.go i H')/\J.stop ds.length H'/\∀i v KD,J.yld i H' v KD->i<ds.length->KD=H'/\∃d,ds[i]? = Iv d/\Rep K O' H' v d
inductive II(K:Frag)(f:FI)(σ:L2.St)(H:Hp)(R:It->Hp->Prop):Prop where
 |mk (O:Addr->Prop) (ts:List Addr) (ρ:XE) (T:Tp) (ds:List Ra) (T':Tp) (hc:HC K O ts H T) (re:LZ K O ts H σ ρ) (e:f ρ T=Iv (ds,T')) (q:∀J H1,F7 ts H H1->HC K O ts H1 T'->JN K O H1 J ds->ds.length<=Rp->R J H1):II K f σ H R
def Bj(K:Frag)(f:FI):TI:=λσ H R=>II K f σ H R
structure DI(X:Cx)(tg e:Expr)(f:FI):Prop where
 pe:PI X tg e (Bj X.K f)
def zvt(h:PI X tg e t)(i:∀σ H Q,t' σ H Q->t σ H Q):PI X tg e t':=λpins s σ H Q I q=>h pins s σ H Q I (i σ H Q q)
noncomputable def signs(z:Str):List PyData:=z.cps.toList.map λc=>.str ⟨#[c]⟩
def je:Ra->Option (List Ra)
 |.list xs=>Iv xs
 |.tuple xs=>Iv xs
 |.str z=>if z.length<=Rp then Iv (signs z) else LG
 |.dict ds=>Iv (ds.map (·.1))
 |_=>LG
def bf(f:FE):FI:=λρ T=>G5 (f ρ T) λw T1=>match w with
 |.d x=>match je x with
  |some xs=>Iv (xs,T1)
  |none=>LG
 |_=>LG
def JN.lst{K:Frag}{O:Addr->Prop}{H1:Hp}{a:Addr}{vs:List V}{ds:List Ra}(h:LstAt K O H1 a vs)(r:EE K O H1 vs ds):JN K O H1 (zH K a) ds:=λO' H' le=>by
 have sq:=(h.mono le).sq;have hl:=r.length;refine⟨λi hi=>⟨vs,vs[i]'(by lia),sq,by simp⟩,⟨vs,sq,by lia⟩,λi v KD y hi=>?_⟩;obtain⟨e,y⟩:=y;obtain⟨d,h1,h2⟩:=r.get (y vs sq);exact⟨e,d,h1,h2.mono le⟩
def JN.tup{K:Frag}{O:Addr->Prop}{H1:Hp}{a:Addr}{vs:List V}{ds:List Ra}(h:TupAt K O H1 a vs)(r:EE K O H1 vs ds):JN K O H1 (x8 K a) ds:=λO' H' le=>by
 have sq:=(h.mono le).sq;have hl:=r.length;refine⟨λi hi=>⟨vs,vs[i]'(by omega),sq,by simp⟩,⟨vs,sq,by omega⟩,λi v KD y hi=>?_⟩;obtain⟨e,y⟩:=y;obtain⟨d,h1,h2⟩:=r.get (y vs sq);exact⟨e,d,h1,h2.mono le⟩
theorem JN.str{K:Frag}{O:Addr->Prop}{H1:Hp}{z:Str}:JN K O H1 (zJ z) (signs z):=λO' H' le=>by
 have hl:(signs z).length=z.cps.size:=by simp[signs]
 refine⟨λi hi=>by rw[hl] at hi;exact hi,by rw[hl];exact Rn _,λi v KD y hi=>?_⟩;obtain⟨e,c,hc,y⟩:=y;subst y;refine⟨e,.str _,?_,.str _⟩
 unfold signs<;>simp_all
theorem oI{K:Frag}{O:Addr->Prop}{H:Hp}:∀{kvs:List (Key×V)}{ds:List (Ra×Ra)},JU K O H kvs ds->kvs.length=ds.length
 |_,_,.nil=>rfl
 |_,_,.cons _ t=>congrArg _ (oI t)
theorem zvu{K:Frag}{O:Addr->Prop}{H:Hp}:∀{kvs:List (Key×V)}{ds:List (Ra×Ra)}{i:Nat}{k:Key}{v:V},JU K O H kvs ds->kvs[i]? = Iv (k,v)->(ds.map (·.1))[i]? = Iv (iF k)
 |_,_,_,_,_,.nil,e=>by simp at e
 |_,_,0,_,_,.cons r _,e=>by simp at e;obtain⟨rfl,rfl⟩:=e;rfl
 |_,_,i+1,k,v,.cons _ t,e=>by
  have:=zvu  t (by simpa using e)<;>simp_all
def sV{K:Frag}{O:Addr->Prop}{H:Hp}(k:Key):Rep K O H (kV k) (iF k):=by
 cases k with
 |inl i=>exact .int i
 |inr x=>exact .str x
def JN.dct{K:Frag}{O:Addr->Prop}{H1:Hp}{a:Addr}{o:Obj}{kvs:List (Key×V)}{ds:List (Ra×Ra)}(n:¬O a)(h:H1 a=Iv (.frz o (.dK kvs)))(r:JU K O H1 kvs ds):JN K O H1 (AF a o kvs) (ds.map (·.1)):=λO' H' le=>by
 have h':=(le a _ n h).2;have hl:=oI r;refine⟨λi hi=>⟨h',by simp_all⟩,⟨h',by simp[hl]⟩,λi v KD y hi=>?_⟩;obtain⟨e,k,v0,y1,y2⟩:=y;subst y2;exact⟨e,_,zvu r y1,sV k⟩
def bA(h:DE X e f):DI X tg e (bf f):=by
 refine⟨?_⟩;refine zvt (zep h.pe) λσ H R=>?_;rintro⟨O,ts,ρ,T,ds,T',hc,re,e,q⟩;obtain⟨w1,T1,e1,e⟩:=aF e;refine⟨O,ts,ρ,T,w1,T1,hc,re,e1,λv1 H1 s1 C3 r1=>?_⟩;split at e
 .rename_i x
  split at e
  .rename_i xs h1
   cases e;have rr:Rep X.K O H1 v1 x:=r1
   cases x with
   |list ys=>
    cases h1
    cases rr with
    |lst t r=>exact .inl ⟨_,_,rfl,t.sq,λhz=>q _ H1 s1 C3 (.lst t r) (by rw[←r.length];exact hz)⟩
   |tuple ys=>
    cases h1
    cases rr with
    |tup t r=>exact .inr (.inl ⟨_,_,rfl,t.sq,λhz=>q _ H1 s1 C3 (.tup t r) (by rw[←r.length];exact hz)⟩)
   |str z=>
    have KW:(if z.length<=Rp then Iv (signs z) else LG)=Iv _:=h1;split at KW
    .rename_i hz
     cases KW;cases rr;exact .inr (.inr (.inl ⟨z,rfl,q _ H1 s1 C3 .str (by rw[show (signs z).length=z.cps.size by simp[signs]];exact hz)⟩))
    .cases KW
   |dict ys=>
    cases h1
    cases rr with
    |dct n t r=>exact .inr (.inr (.inr ⟨_,_,_,rfl,t,λhz=>q _ H1 s1 C3 (.dct n t r) (by rw[R4,←oI r];exact hz)⟩))
   |_=>cases h1
  .cases e
 .cases e
def cN(lo:Int)(n:Nat):List PyData:=(SH n).map λ(i:Nat)=>.int (lo+(i:Int))
def JN.rng{K:Frag}{O:Addr->Prop}{H1:Hp}{lo:Int}{n:Nat}:JN K O H1 (AR lo n) (cN lo n):=λO' H' le=>by
 have hl:(cN lo n).length=n:=by simp[cN]
 refine⟨λi hi=>by rw[hl] at hi;exact hi,by rw[hl];exact Rn _,λi v KD y hi=>?_⟩;obtain⟨e,y⟩:=y;subst y;rw[hl] at hi;exact⟨e,.int _,by simp[cN,hi],.int _⟩
noncomputable def mY(j:Int):Bool:=decide (-1000000<=j/\j<=16777216)
def zeq(h:mY j=KN) : -(2^62)<=j/\j<2^62/\j.toNat<=sizeLine:=by
 have h':=of_decide_eq_true h;have e:Rp=16777216:=rfl
 lia
def d0(f:FE):FI:=λρ T=>G5 (f ρ T) λw T1=>match w with
 |.d (.int j)=>if mY j=KN then Iv (cN 0 j.toNat,T1) else LG
 |_=>LG
noncomputable def ic(hg:Gl X "range")(hm:X.mg "range"=LG)(ha:DE X a f)(hs:Rk [a] X.env=[(Lf,eval a X.env)]:=by exact sG rfl):DI X tg (.Call (.Name "range" p) [a] [] pos) (d0 f):=by
 refine⟨?_⟩;refine zvt (zbc  hg hm (cn ha.pe cM (by rw[hs];rfl)) hs) λσ H R=>?_;rintro⟨O,ts,ρ,T,ds,T',hc,re,e,q⟩;obtain⟨w1,T1,e1,e⟩:=aF e;refine⟨O,ts,ρ,T,w1,T1,hc,re,e1,λv1 H1 s1 C3 r1=>?_⟩;split at e
 .rename_i j
  split at e
  .rename_i h1
   cases e;cases (r1);obtain⟨b1,b2,b3⟩:=zeq h1;exact⟨j,rfl,b1,b2,q _ H1 s1 C3 .rng (by simpa[cN] using b3)⟩
  .cases e
 .cases e
def bK(c:FT)(e:FE)(ρ:XE):List Ra->Tp->Option (List Ra×Tp)
 |[],T=>Iv ([],T)
 |d::r,T=>G5 (c (Iv (.d d)::ρ) T) λb T1=>if b=KN then G5 (e (Iv (.d d)::ρ) T1) λw T2=>match w with
   |.d y=>G5 (bK c e ρ r T2) λys T3=>Iv (y::ys,T3)
   |_=>LG
  else bK c e ρ r T1
def bC(it:FI)(c:FT)(e:FE):FE:=λρ T=>G5 (it ρ T) λds T1=>G5 (bK c e ρ ds T1) λys T2=>Iv (.d (.list ys),T2)
def bz:FT:=λ_ T=>Iv (KN,T)
def LZ.cons{K:Frag}{O:Addr->Prop}{ts:List Addr}{H:Hp}{σ:L2.St}{ρ:XE}{v:V}{d:Ra}(re:LZ K O ts H σ ρ)(r:Rep K O H v d):LZ K O ts H (Iv v::σ) (Iv (.d d)::ρ):=λi w e=>by
 cases i with
 |zero=>cases e;exact⟨v,rfl,r⟩
 |succ i=>
  obtain⟨u,h1,h2⟩:=re i w (by simpa using e);exact⟨u,by simpa using h1,h2⟩
def tP{K:Frag}{O:Addr->Prop}{ts:List Addr}{H1:Hp}{σ:L2.St}{ρ:XE}{J:It}{c:FT}{e:FE}{ds ys:List Ra}{T1 T2:Tp}{Dn:List V->Hp->Prop}(hc:HC K O ts H1 T1)(re:LZ K O ts H1 σ ρ)(ok:JN K O H1 J ds)(hz:ds.length<=Rp)
  (ee:bK c e ρ ds T1=Iv (ys,T2)) (q:∀vs H',F7 ts H1 H'->HC K O ts H' T2->EE K O H' vs ys->Dn vs H') :
  ∃W:Nat->Nat->List V->Hp->Prop,(∃m,W 0 m [] H1)/\qO σ J (liftT K c) (lift K e) W Dn:=by
 refine⟨λi m vs H'=>m=ds.length-i/\i<=ds.length/\vs.length<=i/\∃T dn rs,F7 ts H1 H'/\HC K O ts H' T/\EE K O H' vs dn/\bK c e ρ (ds.drop i) T=Iv (rs,T2)/\ys=dn++rs,⟨_,rfl,Sj _,Rn _,T1,[],ys,.refl _ _,hc,.nil,ee,rfl⟩,?_⟩;rintro i m vs H' ⟨rfl,hi,hv,T,dn,rs,s1,C3,rv,ec,ey⟩;obtain⟨k1,k2,k3⟩:=ok O H' (hc.le s1)
 by_cases IV:i<ds.length
 .refine .inr ⟨k1 i IV,by lia,λCu H2=>i+1<=ds.length/\Cu.length<=i+1/\∃T dn rs,F7 ts H1 H2/\HC K O ts H2 T/\EE K O H2 Cu dn/\bK c e ρ (ds.drop (i+1)) T=Iv (rs,T2)/\ys=dn++rs,λCu H2 n=>⟨ds.length-(i+1),by lia,rfl,n⟩,λv H2 y=>?_⟩
  obtain⟨e2,d,hd,rd⟩:=k3 i v H2 y IV;subst e2
  have DF:ds.drop i=d::ds.drop (i+1):=by
   rw[Tb IV];have:=(Rh.mp hd).2;rw[this]
  rw[DF] at ec;obtain⟨b,T3,e3,ec⟩:=aF ec;refine⟨O,ts,Iv (.d d)::ρ,T,b,T3,C3,(re.mono hc s1).cons rd,e3,λH3 s3 HM=>?_⟩
  cases b with
  |false=>
   rw[if_neg RI] at ec;exact fJ ⟨IV,by lia,T3,dn,rs,s1.trans s3,HM,rv.mono (C3.le s3),ec,ey⟩
  |true=>
   rw[if_pos rfl] at ec;obtain⟨w,T4,e4,ec⟩:=aF ec;refine gO ⟨O,ts,Iv (.d d)::ρ,T3,w,T4,HM,((re.mono hc s1).cons rd).mono C3 s3,e4,λu H4 s4 FH r4=>?_⟩;split at ec
   .rename_i y
    obtain⟨zs,T5,e5,ec⟩:=aF ec;cases ec;refine⟨IV,by simp_all,T4,dn++[y],zs,s1.trans (s3.trans s4),FH,(rv.mono (C3.le (s3.trans s4))).append (.cons r4 .nil),e5,by rw[ey];simp⟩
   .cases ec
 .have e:i=ds.length:=by lia
  subst e;rw[Sr (Rn _)] at ec;cases ec;rw[TH] at ey;subst ey;exact .inl ⟨k2,by lia,q vs H' s1 C3 rv⟩
structure Jd(X:Cx)(es:List Expr)(f:FT):Prop where
 pe:FQ X es (liftT X.K f)
def pY:Jd X [] bz:=⟨λpins s σ H Q E I h=>by
 refine zds pins s σ H Q E I ?_;obtain⟨O,ts,ρ,T,w,T',hc,re,e,q⟩:=h;cases e
 exact q H (.refl _ _) hc⟩
def zer(hx:X.xe=λ_ _=>False)(h:DT X c f):Jd X [c] f:=⟨zdt hx h.pe⟩
def zes(S:CS osc N x scope N')(hi:DI X (.Name x px) iter it)
  (he:∀C s0 H0 ex,DE (bY X x scope C s0 H0 ex N') elt f) (ht:∀C s0 H0 ex,Jd (bY X x scope C s0 H0 ex N') ifs c) (hc:autoParam (X.calm=KN) u10) (hs:autoParam (X.env.scope=osc) u10) (hN:autoParam (X.N=N) u10)
  (hf:autoParam (∀v,RY iter X.env v=pure v) u17):DE X (.ListComp elt [⟨.Name x px,iter,ifs,0⟩] scope pos) (bC it c f):=by
 refine⟨?_⟩;refine bx (zvk  (tt:=liftT X.K c) (te:=lift X.K f) S hi.pe (λC s0 H0 ex=>(he C s0 H0 ex).pe) (λC s0 H0 ex=>(ht C s0 H0 ex).pe) hc hs hN hf) λσ H Q=>?_;rintro⟨O,ts,ρ,T,w,T',hc,re,e,q⟩;obtain⟨ds,T1,e1,e⟩:=aF e;obtain⟨ys,T2,e2,e⟩:=aF e;cases e;refine⟨O,ts,ρ,T,ds,T1,hc,re,e1,λJ H1 s1 C3 ok hz=>?_⟩;exact tP C3 (re.mono hc s1) ok hz e2 λvs H' s2 JY r2 p hp=>q _ _ (s1.trans (s2.trans (.new hp _))) (JY.new hp _) (JY.newL hp r2)
inductive Fl where
 |nx|rt (x:Ra)|ro (x:Ra)|bk|ct
abbrev FS:=XE->Tp->Option ((Fl×XE)×Tp)
structure RS(K:Frag)(Cz:Addr->Prop)(H₀:Hp)(F:List ((Addr->Prop)×Hp))(ts:List Addr)(O:Addr->Prop)(H:Hp)(σ:L2.St)(ρ:XE)(T:Tp):Prop where
 hc:HC K O ts H T
 re:LZ K O ts H σ ρ
 sub:∀b,Cz b->O b
 ots:∀b∈ts,Cz b
 same:F7 ts H₀ H
 fresh:∀(i:Nat) (xs:Ra) (a:Addr),ρ[i]? = Iv (Iv (.loc xs))->σ[i]? = Iv (Iv (.ref a))->H₀ a=LG/\¬Cz a
 dist:∀(i j:Nat) (xs ys:Ra) (v:V),ρ[i]? = Iv (Iv (.loc xs))->ρ[j]? = Iv (Iv (.loc ys))->σ[i]? = Iv (Iv v)->σ[j]? = Iv (Iv v)->i=j
 frs:∀f∈F,Le f.1 f.2 O H
 len:σ.length=ρ.length
def LU(K:Frag)(O A:Addr->Prop)(H:Hp)(v:V):Ra->Prop
 |.tuple [x,y]=>∃p a b,v=.ref p/\a≠b/\(∀c,A c↔c=a\/c=b)/\¬O p/\H p=Iv (.tup [.ref a,.ref b])/\DC K O H a x/\DC K O H b y
 |.none=>v=.non/\∀c,¬A c
 |x=>∃a,v=.ref a/\(∀c,A c↔c=a)/\DC K O H a x
theorem LU.mono{K:Frag}{O O' A:Addr->Prop}{H:Hp}{v:V}{x:Ra}(le:Le O H O' H)(h:LU K O A H v x):LU K O' A H v x:=by
 unfold LU at h ⊢;split at h
 .obtain⟨p,a,b,e1,e2,e3,np,hp,oa,ob⟩:=h
  exact⟨p,a,b,e1,e2,e3,(le p _ np hp).1,hp,oa.mono (λ_ h=>h) le,ob.mono (λ_ h=>h) le⟩
 .exact h
 .obtain⟨a,e,hA,oa⟩:=h
  exact⟨a,e,hA,oa.mono (λ_ h=>h) le⟩
def BQ(K:Frag)(Cz:Addr->Prop)(H₀:Hp)(F:List ((Addr->Prop)×Hp))(ts:List Addr)(D:Ends)(ρ':XE)(T':Tp):Fl->Prop
 |.nx=>∀O' σ' H',RS K Cz H₀ F ts O' H' σ' ρ' T'->D.nx σ' H'
 |.bk=>∀O' σ' H',RS K Cz H₀ F ts O' H' σ' ρ' T'->D.bk σ' H'
 |.ct=>∀O' σ' H',RS K Cz H₀ F ts O' H' σ' ρ' T'->D.ct σ' H'
 |.rt x=>∀v H',F7 ts H₀ H'->HC K Cz ts H' T'->Rep K Cz H' v x->D.rt v H'
 |.ro x=>∀(A:Addr->Prop) v H',F7 ts H₀ H'->(∀b,A b->H₀ b=LG/\¬Cz b)->HC K (λb=>Cz b\/A b) ts H' T'->LU K (λb=>Cz b\/A b) A H' v x->D.rt v H'
inductive IF(K:Frag)(f:FS)(D:Ends)(σ:L2.St)(H:Hp):Prop where
 |mk (Cz:Addr->Prop) (H₀:Hp) (F:List ((Addr->Prop)×Hp)) (ts:List Addr) (O:Addr->Prop) (ρ:XE) (T:Tp) (fl:Fl) (ρ':XE) (T':Tp) (rs:RS K Cz H₀ F ts O H σ ρ T) (e:f ρ T=Iv ((fl,ρ'),T')) (q:BQ K Cz H₀ F ts D ρ' T' fl):IF K f D σ H
def qG(K:Frag)(f:FS):TS:=λD σ H=>IF K f D σ H
structure DS(X:Cx)(s:Stmt)(f:FS):Prop where
 pe:PS X s (qG X.K f)
structure JR(X:Cx)(s:List Stmt)(f:FS):Prop where
 pe:Jx X s (qG X.K f)
def b7(h:PS X e t)(i:∀D σ H,t' D σ H->t D σ H):PS X e t':=λpins s σ H D I q=>h pins s σ H D I (i D σ H q)
def hZ(h:Jx X e t)(i:∀D σ H,t' D σ H->t D σ H):Jx X e t':=λpins s σ H D I q=>h pins s σ H D I (i D σ H q)
section
variable {K:Frag}{Cz:Addr->Prop}{H₀:Hp}{F:List ((Addr->Prop)×Hp)}{ts:List Addr}{O:Addr->Prop}{H H1:Hp}{σ:L2.St}{ρ:XE}{T T1:Tp}
def RS.step(r:RS K Cz H₀ F ts O H σ ρ T)(s:F7 ts H H1)(c:HC K O ts H1 T1):RS K Cz H₀ F ts O H1 σ ρ T1 where
 hc:=c
 re:=r.re.mono r.hc s
 sub:=r.sub
 ots:=r.ots
 same:=r.same.trans s
 fresh:=r.fresh
 dist:=r.dist
 frs:=λf hf=>(r.frs f hf).trans (r.hc.le s)
 len:=r.len
def gD(hw:∀ys,w≠.loc ys)(e:(ρ.set i (Iv w))[j]? = Iv (Iv (.loc xs))):j≠i/\ρ[j]? = Iv (Iv (.loc xs)):=by
 by_cases z:i=j
 .subst z
  rw[Wa] at e<;>simp_all
 .rw[Rm z] at e
  exact⟨λq=>z q.symm,e⟩
theorem RS.set{i:Nat}{v:V}{w:W}(r:RS K Cz H₀ F ts O H σ ρ T)(Kq:Hy K O ts H v w)(hw:∀ys,w≠.loc ys):RS K Cz H₀ F ts O H (σ.set i (Iv v)) (ρ.set i (Iv w)) T where
 hc:=r.hc
 re:=λj u e=>by
  by_cases z:i=j
  .subst z
   have hl:=by
    have:=(Rh.mp e).1;simpa using this
   rw[Rt hl] at e;cases e;exact⟨v,by rw[Rt (by rw[r.len];exact hl)],Kq⟩
  .rw[Rm z] at e
   obtain⟨x,h1,h2⟩:=r.re j u e<;>simp_all
 sub:=r.sub
 ots:=r.ots
 same:=r.same
 fresh:=λj xs a e1 e2=>by
  obtain⟨n,e⟩:=gD hw e1;rw[Rm (Tn n)] at e2;exact r.fresh j xs a e e2
 dist:=λj k xs ys u e1 e2 e3 e4=>by
  obtain⟨n1,e1⟩:=gD hw e1;obtain⟨n2,e2⟩:=gD hw e2;rw[Rm (Tn n1)] at e3;rw[Rm (Tn n2)] at e4;exact r.dist j k xs ys u e1 e2 e3 e4
 frs:=r.frs
 len:=by simp[r.len]
def RS.ownO(r:RS K Cz H₀ F ts O H σ ρ T)(hp:H p=LG)(hm:Mn (Iv o))(rv:Le O H (λb=>O b\/b=p) (upd H p o)->DC K (λb=>O b\/b=p) (upd H p o) p xs):RS K Cz H₀ F ts (λb=>O b\/b=p) (upd H p o) (σ.set i (Iv (.ref p))) (ρ.set i (Iv (.loc xs))) T:=by
 have le:Le O H (λb=>O b\/b=p) (upd H p o):=λa o n e=>by
  have z:a≠p:=di e hp;exact⟨λq=>q.elim n z,by rw[aG z];exact e⟩
 have h0:∀{G:Hp},F7 ts G H->p∉ts->G p=LG:=λ{G} s nt=>by
  cases e:G p with
  |none=>rfl
  |some o=>rw[s p o nt e] at hp;cases hp
 have nO:=r.hc.fresh hp;have nt:p∉ts:=λz=>nO (r.hc.own p z)
 have old:∀{j:Nat}{v:V}{w:W},σ[j]? = Iv (Iv v)->Hy K O ts H v w->Hy K (λb=>O b\/b=p) ts (upd H p o) v w:=λ{j v w} e q=>by
  cases w with
  |d x=>exact Rep.mono le q
  |tp k=>exact q
  |loc ys=>
   obtain⟨a,e1,h1,h2,h3⟩:=q;exact⟨a,e1,.inl h1,h2,h3.mono (λo' q=>by rw[aG (di q hp)];exact q) le⟩
 have I0:∀{j:Nat}{ys:Ra},ρ[j]? = Iv (Iv (.loc ys))->σ[j]? = Iv (Iv (.ref p))->False:=λ{j ys} e1 e2=>by
  obtain⟨v,h1,a,ea,h2,h3,h4⟩:=r.re j _ e1;rw[e2] at h1;cases h1;cases ea;obtain⟨o',h5⟩:=h4.some;rw[hp] at h5;cases h5
 refine⟨⟨λb hb=>.inl (r.hc.own b hb),λb hb=>?_,r.hc.nd,r.hc.len,λj a ys e1 e2=>?_⟩,λj w e=>?_,λb hb=>.inl (r.sub b hb),r.ots,r.same.trans (.new hp _),λj ys a e1 e2=>?_,λj k ys zs v e1 e2 e3 e4=>?_,λf hf=>(r.frs f hf).trans le,by simp[r.len]⟩
 .by_cases z:b=p
  .subst z;rw[a9];exact hm
  .rw[aG z]
   exact r.hc.trk b (hb.resolve_right z)
 .exact(r.hc.tape j a ys e1 e2).mono (λo' h1=>by rw[aG (di h1 hp)];exact h1) le
 .by_cases z:i=j
  .subst z
   have hl:i<ρ.length:=by
    have:=(Rh.mp e).1;simpa using this
   rw[Rt hl] at e;cases e;exact⟨.ref p,by rw[Rt (by rw[r.len];exact hl)],p,rfl,.inr rfl,nt,rv le⟩
  .rw[Rm z] at e
   obtain⟨x,h1,h2⟩:=r.re j w e;exact⟨x,by rw[Rm z];exact h1,old h1 h2⟩
 .by_cases z:i=j
  .subst z
   have hl:i<ρ.length:=by
    have:=(Rh.mp e1).1;simpa using this
   rw[Rt (by rw[r.len];exact hl)] at e2;cases e2;exact⟨h0 r.same nt,λq=>nO (r.sub _ q)⟩
  .rw[Rm z] at e1 e2
   exact r.fresh j ys a e1 e2
 .by_cases z:i=j
  .by_cases z':i=k
   .rw[←z,←z']
   .exfalso
    subst z
    have hl:i<ρ.length:=by
     have:=(Rh.mp e1).1;simpa using this
    rw[Rt (by rw[r.len];exact hl)] at e3;cases e3;rw[Rm z'] at e2 e4;exact I0 e2 e4
  .by_cases z':i=k
   .exfalso
    subst z'
    have hl:i<ρ.length:=by
     have:=(Rh.mp e2).1;simpa using this
    rw[Rt (by rw[r.len];exact hl)] at e4;cases e4;rw[Rm z] at e1 e3;exact I0 e1 e3
   .rw[Rm z] at e1 e3
    rw[Rm z'] at e2 e4;exact r.dist j k ys zs v e1 e2 e3 e4
def RS.own(r:RS K Cz H₀ F ts O H σ ρ T)(hp:H p=LG)(rv:EE K O H vs xs):RS K Cz H₀ F ts (λb=>O b\/b=p) (upd H p (.lst vs)) (σ.set i (Iv (.ref p))) (ρ.set i (Iv (.loc (.list xs)))) T:=r.ownO hp (.inl ⟨_,rfl⟩) λle=>⟨vs,a9,rv.mono le⟩
def RS.putO(r:RS K Cz H₀ F ts O H σ ρ T)(e1:ρ[i]? = Iv (Iv (.loc xs)))(e2:σ[i]? = Iv (Iv (.ref a)))(hm:Mn (Iv o))(rv:Le O H O (upd H a o)->DC K O (upd H a o) a ys):RS K Cz H₀ F ts O (upd H a o) σ (ρ.set i (Iv (.loc ys))) T:=by
 obtain⟨v,z1,a',ea,oa,nt,ha⟩:=r.re i _ e1;rw[e2] at z1;cases z1;cases ea;have hl:i<ρ.length:=(Rh.mp e1).1;obtain⟨f1,f2⟩:=r.fresh i xs a e1 e2;have le:Le O H O (upd H a o):=λb o n e=>⟨n,by rw[aG (show b≠a from λz=>n (by simp_all))];exact e⟩
 have back:∀{j:Nat}{zs:Ra},(ρ.set i (Iv (W.loc ys)))[j]? = Iv (Iv (.loc zs))->∃ws,ρ[j]? = Iv (Iv (.loc ws)):=λ{j zs} e=>by
  by_cases z:i=j
  .subst z;exact⟨xs,e1⟩
  .simp_all
 refine⟨⟨r.hc.own,λb hb=>?_,r.hc.nd,r.hc.len,λj b zs q1 q2=>?_⟩,λj w e=>?_,r.sub,r.ots,λb o n e=>?_,λj zs b q1 q2=>?_,λj k zs zs' v q1 q2 q3 q4=>?_,λf hf=>(r.frs f hf).trans le,by simp[r.len]⟩
 .by_cases z:b=a
  .subst z;rw[a9];exact hm
  .rw[aG z];exact r.hc.trk b hb
 .exact(r.hc.tape j b zs q1 q2).mono (λo' h1=>by rw[aG (show b≠a from λz=>nt (by rw[←z];exact Rw q1))];exact h1) le
 .by_cases z:i=j
  .subst z
   rw[Rt hl] at e;cases e;exact⟨.ref a,e2,a,rfl,oa,nt,rv le⟩
  .rw[Rm z] at e
   obtain⟨x,h1,h2⟩:=r.re j w e;refine⟨x,h1,?_⟩
   cases w with
   |d x=>exact Rep.mono le h2
   |tp k=>exact h2
   |loc zs=>
    obtain⟨b,eb,k1,k2,k3⟩:=h2;have n:b≠a:=λq=>z (r.dist i j xs zs (.ref a) e1 e e2 (by rw[h1,eb,q]));exact⟨b,eb,k1,k2,k3.mono (λo' q=>by rw[aG n];exact q) le⟩
 .have:=r.same b o n e
  rw[aG (show b≠a from λz=>by rw[z,f1] at e;cases e)];exact this
 .obtain⟨ws,q⟩:=back q1
  exact r.fresh j ws b q q2
 .obtain⟨ws,q⟩:=back q1
  obtain⟨ws',q'⟩:=back q2;exact r.dist j k ws ws' v q q' q3 q4
def RS.put{i:Nat}{a:Addr}{vs us:List V}{xs ys:List Ra}(r:RS K Cz H₀ F ts O H σ ρ T)(e1:ρ[i]? = Iv (Iv (.loc (.list xs))))(e2:σ[i]? = Iv (Iv (.ref a)))(rv:EE K O H vs ys):RS K Cz H₀ F ts O (upd H a (.lst vs)) σ (ρ.set i (Iv (.loc (.list ys)))) T:=r.putO e1 e2 (.inl ⟨_,rfl⟩) λle=>⟨vs,a9,rv.mono le⟩
def RS.tapeO(r:RS K Cz H₀ F ts O H σ ρ T)(e:ts[n]? = Iv a)(hm:Mn (Iv o))(rv:Le O H O (upd H a o)->Hj K O (upd H a o) a ys):RS K Cz H₀ F ts O (upd H a o) σ ρ (T.set n ys):=by
 have am:=Rw e;have le:Le O H O (upd H a o):=λb o' k q=>⟨k,by rw[aG (λz=>k (by rw[z];exact r.hc.own a am))];exact q⟩
 have sx:F7 ts H (upd H a o):=λb o' k q=>by rw[aG (λz=>k (by simp_all))];exact q
 refine⟨⟨r.hc.own,λb hb=>?_,r.hc.nd,by simp[r.hc.len],λj b zs q1 q2=>?_⟩,r.re.mono r.hc sx,r.sub,r.ots,r.same.trans sx,r.fresh,r.dist,λf hf=>(r.frs f hf).trans le,r.len⟩
 .by_cases z:b=a
  .subst z;rw[a9];exact hm
  .rw[aG z];exact r.hc.trk b hb
 .by_cases z:n=j
  .subst z
   rw[e] at q1
   have hl:n<T.length:=by
    have:=(Rh.mp e).1;rw[←r.hc.len];exact this
   rw[Rt hl] at q2<;>simp_all
  .simp_all
   refine(r.hc.tape j b zs q1 q2).mono (λo' h1=>?_) le
   have nb:b≠a:=λq=>by
    rw[q] at q1;exact z ((List.getElem?_inj (Rh.mp e).1 r.hc.nd).mp (e.trans q1.symm))
   rw[aG nb]<;>omega
def RS.tape(r:RS K Cz H₀ F ts O H σ ρ T)(e:ts[n]? = Iv a)(rv:EE K O H vs ys):RS K Cz H₀ F ts O (upd H a (.lst vs)) σ ρ (T.set n ys):=r.tapeO e (.inl ⟨_,rfl⟩) λle=>.inl ⟨rv.notO,vs,a9,rv.mono le⟩
def lm:W->W
 |.loc x=>.d x
 |w=>w
def cC(ρ:XE):XE:=ρ.map (Option.map lm)
def RS.frzH(r:RS K Cz H₀ F ts O H σ ρ T):HC K Cz ts H T:=by
 have le:Le O H Cz H:=λa o n e=>⟨λz=>n (r.sub a z),e⟩;exact⟨r.ots,λb hb=>r.hc.trk b (r.sub b hb),r.hc.nd,r.hc.len,λi a xs e1 e2=>(r.hc.tape i a xs e1 e2).mono (λ_ h=>h) le⟩
def vn(ρ:XE):Prop:=∀(i:Nat) (ds:List (Ra×Ra)),ρ[i]?≠Iv (Iv (.loc (.dict ds)))
def RS.frz(r:RS K Cz H₀ F ts O H σ ρ T)(nd:vn ρ):HC K Cz ts H T/\LZ K Cz ts H σ (cC ρ):=by
 have le:Le O H Cz H:=λa o n e=>⟨λz=>n (r.sub a z),e⟩;refine⟨r.frzH,λi w e=>?_⟩;unfold cC at e;rw[Sf] at e
 cases hu:ρ[i]? with
 |none=>simp_all
 |some u=>
  cases u with
  |none=>simp_all
  |some u=>
   rw[hu] at e;cases e;obtain⟨v,h1,h2⟩:=r.re i u hu;refine⟨v,h1,?_⟩
   cases u with
   |d x=>exact Rep.mono le h2
   |tp k=>exact h2
   |loc xs=>
    obtain⟨a,rfl,k1,k2,k3⟩:=h2
    cases xs with
    |list xs=>obtain⟨vs,k3,k4⟩:=k3;exact .lst (.inl ⟨(r.fresh i _ a hu h1).2,.inl k3⟩) (k4.mono le)
    |dict xs=>exact absurd hu (nd i xs)
    |_=>cases k3
def RS.frzD(r:RS K Cz H₀ F ts O H σ ρ T)(h1:ρ[i]? = Iv (Iv (.loc (.dict ds)))):∃a kvs,H a=Iv (.dK kvs)/\∀o,RS K Cz H₀ F ts (λb=>O b/\b≠a) (upd H a (.frz o (.dK kvs))) σ (ρ.set i (Iv (.d (.dict ds)))) T:=by
 obtain⟨v,k1,a,rfl,k2,k3,kvs,k4,k5⟩:=r.re i _ h1;refine⟨a,kvs,k4,λo=>?_⟩;have hl:i<ρ.length:=(Rh.mp h1).1;have U:∀{b:Addr},b≠a->upd H a (.frz o (.dK kvs)) b=H b:=λn=>aG n;have le:Le O H (λb=>O b/\b≠a) (upd H a (.frz o (.dK kvs))):=λb u n e=>⟨λz=>n z.1,by rw[U (λz=>n (by simp_all))];exact e⟩;have fr:=r.fresh i _ a h1 k1
 have hw:∀ys,W.d (.dict ds)≠.loc ys:=λ_ z=>nomatch z
 refine⟨⟨λb hb=>⟨r.hc.own b hb,λz=>k3 (z ▸ hb)⟩,λb hb=>by rw[U hb.2];exact r.hc.trk b hb.1,r.hc.nd,r.hc.len,λj b ys e1 e2=>?_⟩,λj w e=>?_,λb hb=>⟨r.sub b hb,λz=>fr.2 (z ▸ hb)⟩,r.ots,λb u n e=>?_,λj ys b e1 e2=>?_,λj k ys zs v e1 e2 e3 e4=>?_,λf hf=>(r.frs f hf).trans le,by simp[r.len]⟩
 .exact(r.hc.tape j b ys e1 e2).mono (λ_ h=>by rw[U (λz=>k3 (by rw[←z];exact Rw e1))];exact h) le
 .by_cases z:i=j
  .subst z
   rw[Rt hl] at e;cases e;exact⟨.ref a,k1,.dct (λz=>z.2 rfl) a9 (k5.mono le)⟩
  .rw[Rm z] at e
   obtain⟨x,q1,q2⟩:=r.re j w e;refine⟨x,q1,?_⟩
   cases w with
   |d y=>exact Rep.mono le q2
   |tp k=>exact q2
   |loc ys=>
    obtain⟨b,eb,m1,m2,m3⟩:=q2;have nb:b≠a:=λq=>z (r.dist i j _ ys (.ref a) h1 e k1 (by rw[q1,eb,q]));exact⟨b,eb,⟨m1,nb⟩,m2,m3.mono (λ_ q=>by rw[U nb];exact q) le⟩
 .rw[U (λz=>by simp_all)]
  exact r.same b u n e
 .obtain⟨n,e⟩:=gD hw e1
  exact r.fresh j ys b e e2
 .obtain⟨n1,e1⟩:=gD hw e1
  obtain⟨n2,e2⟩:=gD hw e2;exact r.dist j k ys zs v e1 e2 e3 e4
def zet(h:ρ[i]? = Iv (Iv (.loc x))):cC (ρ.set i (Iv (.d x)))=cC ρ:=by
 apply XI;intro j;unfold cC;rw[Sf,Sf]
 by_cases z:i=j
 .subst z
  rw[Rt (Rh.mp h).1,h];rfl
 .simp_all
theorem RS.frzN(R:XE):∀(k:Nat) {O:Addr->Prop}{H:Hp}{ρ:XE},RS K Cz H₀ F ts O H σ ρ T->(∀j ds,k<=j->ρ[j]?≠Iv (Iv (.loc (.dict ds))))->cC ρ=R ->
  Gh (λH'=>∃O' ρ',RS K Cz H₀ F ts O' H' σ ρ' T/\vn ρ'/\cC ρ'=R) H
 |0,O,H,ρ,r,n,e=>.done ⟨O,ρ,r,λj ds=>n j ds (Sj _),e⟩
 |k+1,O,H,ρ,r,n,e=>by
  by_cases h:∃ds,ρ[k]? = Iv (Iv (.loc (.dict ds)))
  .obtain⟨ds,h⟩:=h
   obtain⟨a,kvs,e1,f⟩:=r.frzD h;refine .frz e1 λo=>RS.frzN R k (f o) (λj es hj=>?_) (by rw[zet h];exact e)
   by_cases z:k=j
   .subst z
    rw[Rt (Rh.mp h).1]<;>simp_all
   .rw[Rm z]
    exact n j es (by lia)
  .refine RS.frzN R k r (λj ds hj=>?_) e
   by_cases z:k=j
   .subst z<;>simp_all
   .exact n j ds (by lia)
def RS.frzG(r:RS K Cz H₀ F ts O H σ ρ T):Gh (λH'=>F7 ts H₀ H'/\HC K Cz ts H' T/\LZ K Cz ts H' σ (cC ρ)) H:=(RS.frzN _ ρ.length r (λj ds hj=>by simp_all) rfl).imp λH' ⟨O',ρ',r',n,e⟩=>⟨r'.same,by rw[←e];exact r'.frz n⟩
end
def aA:FS:=λρ T=>Iv ((.nx,ρ),T)
def ai(f g:FS):FS:=λρ T=>G5 (f ρ T) λp T1=>match p with
 |(.nx,JT)=>g JT T1
 |(fl,JT)=>Iv ((fl,JT),T1)
def aE(i:Nat)(f:FE):FS:=λρ T=>G5 (f ρ T) λw T1=>match w with
 |.d x=>Iv ((.nx,ρ.set i (Iv (.d x))),T1)
 |.tp k=>Iv ((.nx,ρ.set i (Iv (.tp k))),T1)
 |.loc _=>LG
def cj(i:Nat)(g:FA):FS:=λρ T=>G5 (g ρ T) λws T1=>match eI ws with
 |some xs=>if xs.length<=1000 then Iv ((.nx,ρ.set i (Iv (.loc (.list xs)))),T1) else LG
 |none=>LG
def cR(i:Nat)(f:FE):FS:=λρ T=>G5 (f ρ T) λw T1=>match w with
 | .d x=>(match ρ[i]? with
  |some (Iv (.loc (.list xs)))=>if xs.length<Rp then Iv ((.nx,ρ.set i (Iv (.loc (.list (xs++[x]))))),T1) else LG
  | _=>LG)
 |_=>LG
def u9(fo fk fe:FE):FS:=λρ T=>G5 (fe ρ T) λw T1=>G5 (fo ρ T1) λo T2=>G5 (fk ρ T2) λk T3=>match w,o,k with
 |.d x,.tp n,.d (.int i)=>match T3[n]? with
  |some xs=>if Gs xs=KN then LG else match L5 xs.length i with
   |some j=>Iv ((.nx,ρ),T3.set n (xs.set j x))
   |none=>LG
  |none=>LG
 |_,_,_=>LG
def EI(c:FT)(f g:FS):FS:=λρ T=>G5 (c ρ T) λb T1=>if b=KN then f ρ T1 else g ρ T1
def aq(f:FE):FS:=λρ T=>G5 (f (cC ρ) T) λw T1=>match w with
 |.d x=>Iv ((.rt x,ρ),T1)
 |_=>LG
def forL(i:Nat)(body:FS):List Ra->FS
 |[]=>aA
 |d::r=>λρ T=>G5 (body (ρ.set i (Iv (.d d))) T) λp T1=>match p with
  |(.nx,JT)=>forL i body r JT T1
  |(.ct,JT)=>forL i body r JT T1
  |(.bk,JT)=>Iv ((.nx,JT),T1)
  |(.rt x,JT)=>Iv ((.rt x,JT),T1)
  |(.ro x,JT)=>Iv ((.ro x,JT),T1)
def cb(i:Nat)(it:FI)(body:FS):FS:=λρ T=>G5 (it ρ T) λds T1=>forL i body ds ρ T1
def bc(c:FT)(body:FS):Nat->FS
 |0=>λ_ _=>LG
 |n+1=>λρ T=>G5 (c ρ T) λb T1=>if b=KN then G5 (body ρ T1) λp T2=>match p with
   |(.nx,JT)=>bc c body n JT T2
   |(.ct,JT)=>bc c body n JT T2
   |(.bk,JT)=>Iv ((.nx,JT),T2)
   |(.rt x,JT)=>Iv ((.rt x,JT),T2)
   |(.ro x,JT)=>Iv ((.ro x,JT),T2)
  else Iv ((.nx,ρ),T1)
section
variable {X:Cx}{pos:Pos}{st:Stmt}{rest:List Stmt}{f g:FS}{e:Expr}{fe:FE}{c:FT}{K:Frag}{Cz:Addr->Prop}{H₀:Hp}{F:List ((Addr->Prop)×Hp)}{ts:List Addr}{O:Addr->Prop}{H H1:Hp}{σ:L2.St}{ρ:XE}{T T1:Tp}
def cF:JR X [] aA:=by
 refine⟨?_⟩;refine hZ sW λD σ H=>?_;rintro⟨Cz,H₀,F,ts,O,ρ,T,fl,ρ',T',rs,e,q⟩;cases e;exact q O σ H rs
def aB(h1:DS X st f)(h2:JR X rest g):JR X (st::rest) (ai f g):=by
 refine⟨?_⟩;refine hZ (jR h1.pe h2.pe) λD σ H=>?_;rintro⟨Cz,H₀,F,ts,O,ρ,T,fl,ρ',T',rs,e,q⟩;obtain⟨⟨Er,JT⟩,T1,e1,e⟩:=aF e;refine⟨Cz,H₀,F,ts,O,ρ,T,Er,JT,T1,rs,e1,?_⟩
 cases Er with
 |nx=>exact λO' σ' H' E8=>⟨Cz,H₀,F,ts,O',JT,T1,fl,ρ',T',E8,e,q⟩
 |rt x=>cases e;exact q
 |ro x=>cases e;exact q
 |bk=>cases e;exact q
 |ct=>cases e;exact q
def ba(h1:DS X st f):JR X [st] f:=⟨pQ h1.pe⟩
def aO(hN:X.N.Nodup)(he:DE X e fe)(hi:autoParam (X.N[i]? = Iv x) u10)(hx:autoParam (Loc X.env.scope x) u16)(hs:autoParam (So e (Iv (.Name x pos')) pos.line X.env=pure Lf) u10)
  (hf:autoParam (X.fn x=KN\/X.env.scope.names.lookup x=Iv .local) u13):DS X (.Assign [.Name x pos'] e pos) (aE i fe):=by
 refine⟨?_⟩;refine b7 (fm hN hi hx he.pe hs hf) λD σ H=>?_;rintro⟨Cz,H₀,F,ts,O,ρ,T,fl,ρ',T',rs,e,q⟩;obtain⟨w,T1,e1,e⟩:=aF e;refine⟨O,ts,ρ,T,w,T1,rs.hc,rs.re,e1,λv H1 s1 C3 r1=>?_⟩
 cases w with
 |d x=>cases e;exact q O _ _ ((rs.step s1 C3).set r1 λ_ z=>nomatch z)
 |tp k=>cases e;exact q O _ _ ((rs.step s1 C3).set r1 λ_ z=>nomatch z)
 |loc xs=>cases e
def zeu{i:Nat}{x y:Str}{scope osc:TU}{N N':List Str}{elt iter:Expr}{ifs:List Expr}{px py KO:Pos}{it:FI}{c:FT}{f:FE}(S:CS osc N x scope N')(hN:X.N.Nodup)(hi:DI X (.Name x px) iter it)
  (he:∀C s0 H0 ex,DE (bY X x scope C s0 H0 ex N') elt f) (ht:∀C s0 H0 ex,Jd (bY X x scope C s0 H0 ex N') ifs c) (Ds:autoParam (X.N[i]? = Iv y) u10) (hy:autoParam (Loc X.env.scope y) u16)
  (Ij:autoParam (X.fn y=KN\/X.env.scope.names.lookup y=Iv .local) u13) (hc:autoParam (X.calm=KN) u10) (hs:autoParam (X.env.scope=osc) u10) (hN':autoParam (X.N=N) u10)
  (GQ:autoParam (So (.ListComp elt [⟨.Name x px,iter,ifs,0⟩] scope pos) (Iv (.Name y py)) KO.line X.env=pure KN) u10) (hf:autoParam (∀v,RY iter X.env v=pure v) u17) :
  DS X (.Assign [.Name y py] (.ListComp elt [⟨.Name x px,iter,ifs,0⟩] scope pos) KO) (aE i (bC it c f)):=by
 refine⟨?_⟩;subst hs hN';refine b7 (zdv  (tt:=liftT X.K c) (te:=lift X.K f) hc S hN Ds hy Ij hi.pe (λC s0 H0 ex=>(he C s0 H0 ex).pe) (λC s0 H0 ex=>(ht C s0 H0 ex).pe) GQ hf) λD σ H=>?_;rintro⟨Cz,H₀,F,ts,O,ρ,T,fl,ρ',T',rs,e,q⟩;obtain⟨w,T1,e1,e⟩:=aF e;obtain⟨ds,T2,e2,e1⟩:=aF e1;obtain⟨ys,T3,e3,e1⟩:=aF e1;cases e1;cases e;refine⟨O,ts,ρ,T,ds,T2,rs.hc,rs.re,e2,λJ H1 s1 C3 ok hz=>?_⟩;exact tP C3 (rs.re.mono rs.hc s1) ok hz e3 λvs H' s2 JY r2 p hp=>q O _ _ ((rs.step (s1.trans (s2.trans (.new hp _))) (JY.new hp _)).set (JY.newL hp r2) λ_ z=>nomatch z)
def eQ{i:Nat}{x:Str}{pos':Pos}{es:List Expr}{J0:Pos}{g:FA}(hN:X.N.Nodup)(he:DA X es g)(hi:autoParam (X.N[i]? = Iv x) u10)(hx:autoParam (Loc X.env.scope x) u16)
  (hs:autoParam (So (.List es J0) (Iv (.Name x pos')) pos.line X.env=pure Lf) u10) (hf:autoParam (X.fn x=KN\/X.env.scope.names.lookup x=Iv .local) u13):DS X (.Assign [.Name x pos'] (.List es J0) pos) (cj i g):=by
 refine⟨?_⟩;refine b7 (fm hN hi hx (kg he.pe) hs hf) λD σ H=>?_;rintro⟨Cz,H₀,F,ts,O,ρ,T,fl,ρ',T',rs,e,q⟩;obtain⟨ws,T1,e1,e⟩:=aF e;refine⟨O,ts,ρ,T,ws,T1,rs.hc,rs.re,e1,λvs H1 s1 C3 r1=>?_⟩;split at e
 .rename_i xs h1
  split at e
  .rename_i h2
   cases e;have rv:=me r1 h1;exact⟨pV (by rw[rv.length];exact h2),λp hp=>q _ _ _ ((rs.step s1 C3).own hp rv)⟩
  .cases e
 .cases e
def b9(hc:DT X ce c)(ha:JR X a f)(hb:JR X b g):DS X (.If ce a b pos) (EI c f g):=by
 refine⟨?_⟩;refine b7 (uL hc.pe ha.pe hb.pe) λD σ H=>?_;rintro⟨Cz,H₀,F,ts,O,ρ,T,fl,ρ',T',rs,e,q⟩;obtain⟨b1,T1,e1,e⟩:=aF e;refine⟨O,ts,ρ,T,b1,T1,rs.hc,rs.re,e1,λH1 s1 C3=>?_⟩
 cases b1 with
 |true=>exact gO ⟨Cz,H₀,F,ts,O,ρ,T1,fl,ρ',T',rs.step s1 C3,by simpa using e,q⟩
 |false=>exact fJ ⟨Cz,H₀,F,ts,O,ρ,T1,fl,ρ',T',rs.step s1 C3,by simpa using e,q⟩
def zew(he:DE X e fe):DS X (.Return (Iv e) pos) (aq fe):=by
 refine⟨?_⟩;refine b7 (zec (qi he.pe)) λD σ H=>?_;rintro⟨Cz,H₀,F,ts,O,ρ,T,fl,ρ',T',rs,e,q⟩;obtain⟨w,T1,e1,e⟩:=aF e;refine rs.frzG.imp λH0 ⟨same,c0,Jp⟩=>?_;refine⟨Cz,ts,cC ρ,T,w,T1,c0,Jp,e1,λv H1 s1 C3 r1=>?_⟩
 cases w with
 |d x=>cases e;exact q v H1 (same.trans s1) C3 r1
 |tp k=>cases e
 |loc xs=>cases e
def eC(he:DE X e fe)(hN:autoParam (X.N[i]? = Iv x) u10)(hv:autoParam (EC X.env.scope x) u18)(hd:autoParam ((x == ("__debug__" : Str))=Lf) u11)
  (hcd:autoParam ((x == ("__classdict__" : Str))=Lf) u11) 
  (Fx:autoParam (Sa (.Name x p) "append" X.env (eval (.Name x p) X.env)=eval (.Name x p) X.env) u10)
  (C0:autoParam (cQ8 X [e] cpos) u20)
  (JV:autoParam ((apos.endLine == cpos.line)=KN) u10) (IS:autoParam (Rk [e] X.env=(Lf,eval e X.env)::Rk [] X.env) u12) (Eo:autoParam ((R6 cpos (Rk [] X.env)).any (·.1)=Lf) u15)
  (hs:autoParam (So (.Call (.Attribute (.Name x p) "append" apos) [e] [] cpos) LG pos.line X.env=pure Lf) u10) :
  DS X (.Expr (.Call (.Attribute (.Name x p) "append" apos) [e] [] cpos) pos) (cR i fe):=by
 refine⟨?_⟩;refine b7 (pR (jk SZ Uz UA rX (pv i hN hv hd hcd) (cn he.pe cM IS) Fx C0 JV IS Eo) hs) λD σ H=>?_;rintro⟨Cz,H₀,F,ts,O,ρ,T,fl,ρ',T',rs,e,q⟩;obtain⟨w,T1,e1,e⟩:=aF e;split at e
 .split at e
  .rename_i xs h1
   split at e
   .rename_i h2
    cases e;obtain⟨v,k1,a,rfl,k2,k3,vs,k4,k5⟩:=rs.re i _ h1;refine⟨_,k1,.inl ⟨rfl,vs,Jr.of k4⟩,O,ts,ρ,T,_,_,rs.hc,rs.re,e1,λu H1 s1 C3 r1=>?_⟩;have Ez:=rs.step s1 C3;exact⟨a,vs,u,rfl,rfl,s1 _ _ k3 k4,by rw[k5.length];exact h2,q O _ _ (Ez.put (us:=[]) h1 k1 ((k5.mono (rs.hc.le s1)).append (.cons r1 .nil)))⟩
   .cases e
  .cases e
 .cases e
def zex(ho:DE X o fo)(hk:DE X k fk)(he:DE X e fe)(ha:autoParam (∀v,Wm (.Subscript o k L4) X.env v=(do
   let ov ←Wn [v] (eval o X.env)
   let iv ←Wn [v,ov] (eval k X.env)
   ZG L4
   Wn [v,ov,iv] (ZF ov iv v)
   release [v,ov,iv] [])) u17)
  (hs:autoParam (Xg [.Subscript o k L4] e pos.line X.env=pure Lf) u10) (hw:autoParam (Xh [.Subscript o k L4] e X.env=pure LG) u10)
  (h1:autoParam ((UK [.Subscript o k L4] X.env).map (·.2)=[Wm (.Subscript o k L4) X.env]) u10):DS X (.Assign [.Subscript o k L4] e pos) (u9 fo fk fe):=by
 refine⟨?_⟩;refine b7 (ztm he.pe (zax ho.pe hk.pe set_list ha) hs hw h1) λD σ H=>?_;rintro⟨Cz,H₀,F,ts,O,ρ,T,fl,ρ',T',rs,e,q⟩;obtain⟨w,T1,e1,e⟩:=aF e;obtain⟨wo,T2,e2,e⟩:=aF e;obtain⟨wk,T3,e3,e⟩:=aF e;refine⟨O,ts,ρ,T,w,T1,rs.hc,rs.re,e1,λv H1 s1 C3 r1=>?_⟩;have Ez:=rs.step s1 C3;refine⟨O,ts,ρ,T1,wo,T2,C3,Ez.re,e2,λvo H2 s2 JY r2=>?_⟩;have DJ:=Ez.step s2 JY;refine⟨O,ts,ρ,T2,wk,T3,JY,DJ.re,e3,λvk H3 s3 HM r3=>?_⟩;have EH:=DJ.step s3 HM;split at e
 .split at e
  .rename_i xs h1
   split at e
   .cases e
   .rename_i hn
    split at e
    .rename_i j h2
     cases e;obtain⟨a,k1,rfl⟩:=r2;cases (show Rep X.K O H3 vk (.int _) from r3);obtain⟨vs,k2,k3⟩:=(HM.tape _ a xs k1 h1).lst (by simpa using hn);refine⟨a,vs,_,j,rfl,rfl,k2,by rw[k3.length];exact h2,q O _ _ (EH.tape k1 (EE.set ?_ j k3))⟩;exact Rep.mono ((C3.le s2).trans (JY.le s3)) r1
    .cases e
  .cases e
 .cases e
def RS.less{f:(Addr->Prop)×Hp}(r:RS K Cz H₀ (f::F) ts O H σ ρ T):RS K Cz H₀ F ts O H σ ρ T:=⟨r.hc,r.re,r.sub,r.ots,r.same,r.fresh,r.dist,λf hf=>r.frs f (Rc _ hf),r.len⟩
def RS.more(r:RS K Cz H₀ F ts O H σ ρ T):RS K Cz H₀ ((O,H)::F) ts O H σ ρ T:=⟨r.hc,r.re,r.sub,r.ots,r.same,r.fresh,r.dist,λf hf=>by
 rcases Ru.mp hf with z|z
 .subst z;exact λa o n e=>⟨n,e⟩
 .exact r.frs f z,r.len⟩
inductive LW(K:Frag)(Cz:Addr->Prop)(H₀:Hp)(F:List ((Addr->Prop)×Hp))(ts:List Addr)(g:XE->Tp->Option ((Fl×XE)×Tp))(y:(Fl×XE)×Tp)(σ:L2.St)(H:Hp):Prop where|mk(O:Addr->Prop)(ρ:XE)(T:Tp)(r:RS K Cz H₀ F ts O H σ ρ T)(e:g ρ T=Iv y)
theorem oj3{α β γ:Type}{a a':α}{b b':β}{c c':γ}(h:Iv ((a,b),c)=Iv ((a',b'),c')):a=a'/\b=b'/\c=c':=⟨congrArg (·.1.1) (Option.some.inj h),congrArg (·.1.2) (Option.some.inj h),congrArg (·.2) (Option.some.inj h)⟩
def dO(hN:X.N.Nodup)(hi:DI X (.Name x L4) iter it)(hb:JR X body f)(Ku:autoParam (X.N[i]? = Iv x) u10)(hx:autoParam (Loc X.env.scope x) u16)
  (hf:autoParam (X.fn x=KN\/X.env.scope.names.lookup x=Iv .local) u13) (hp:autoParam (U8 (RM X.prog X.w) X.A X.env X.xe) u22) (hc:autoParam (X.calm=KN) u10)
  (hs:autoParam (∀x,RY iter X.env x=pure x) u17):DS X (.For (.Name x L4) iter body [] pos) (cb i it f):=by
 refine⟨?_⟩;refine b7 (uf hp hc hi.pe (h9 hN Ku hx hf) hb.pe hs) λD σ H=>?_;rintro⟨Cz,H₀,F,ts,O,ρ,T,fl,ρ',T',rs,e,q⟩;obtain⟨ds,T1,e1,e⟩:=aF e;refine⟨O,ts,ρ,T,ds,T1,rs.hc,rs.re,e1,λJ H1 s1 C3 ok hz=>?_⟩;refine⟨λk m σ H=>m=ds.length-k/\k<=ds.length/\LW X.K Cz H₀ ((O,H1)::F) ts (forL i f (ds.drop k)) ((fl,ρ'),T') σ H,⟨_,rfl,Sj _,O,ρ,T1,(rs.step s1 C3).more,e⟩,?_⟩;rintro k m EA H2 ⟨rfl,hk,O',CQ,Tk,DJ,ek⟩;obtain⟨k1,k2,k3⟩:=ok O' H2 (DJ.frs _ Rf)
 by_cases IV:k<ds.length
 .refine .inr ⟨k1 k IV,λFB H3=>LW X.K Cz H₀ ((O,H1)::F) ts (forL i f (ds.drop (k+1))) ((fl,ρ'),T') FB H3,λFB H3 n=>⟨ds.length-(k+1),by lia,rfl,IV,n⟩,λv H3 y=>?_⟩
  obtain⟨e2,d,hd,rd⟩:=k3 k v H3 y IV;subst e2
  have DF:ds.drop k=d::ds.drop (k+1):=by
   rw[Tb IV];have:=(Rh.mp hd).2;rw[this]
  rw[DF] at ek;obtain⟨⟨Er,JT⟩,T3,e3,ek⟩:=aF ek;refine⟨Cz,H₀,(O,H1)::F,ts,O',_,Tk,Er,JT,T3,DJ.set (i:=i) (w:=.d d) rd (λ_ z=>nomatch z),e3,?_⟩
  cases Er with
  |nx=>exact λO3 FB H3 EH=>⟨O3,JT,T3,EH,ek⟩
  |ct=>exact λO3 FB H3 EH=>⟨O3,JT,T3,EH,ek⟩
  |bk=>
   obtain⟨rfl,rfl,rfl⟩:=oj3 ek;exact λO3 FB H3 EH=>q O3 FB H3 EH.less
  |rt x=>
   obtain⟨rfl,rfl,rfl⟩:=oj3 ek;exact q
  |ro x=>
   obtain⟨rfl,rfl,rfl⟩:=oj3 ek;exact q
 .have e:k=ds.length:=by lia
  subst e;rw[Sr (Rn _)] at ek;cases ek;exact .inl ⟨k2,q O' EA H2 DJ.less⟩
def fX(n:Nat)(hc:DT X ce c)(hb:JR X body f)(hp:autoParam (U8 (RM X.prog X.w) X.A X.env X.xe) u22):DS X (.While ce body [] pos) (bc c f n):=by
 refine⟨?_⟩;refine b7 (zay hp hc.pe hb.pe) λD σ H=>?_;rintro⟨Cz,H₀,F,ts,O,ρ,T,fl,ρ',T',rs,e,q⟩;refine⟨λm σ H=>LW X.K Cz H₀ F ts (bc c f m) ((fl,ρ'),T') σ H,⟨n,O,ρ,T,rs,e⟩,?_⟩;rintro m EA H2 ⟨O',FX,Tm,DJ,em⟩
 cases m with
 |zero=>cases em
 |succ m=>
  obtain⟨b,T3,e3,em⟩:=aF em;refine⟨O',ts,FX,Tm,b,T3,DJ.hc,DJ.re,e3,λH3 s3 HM=>?_⟩;have EH:=DJ.step s3 HM
  cases b with
  |false=>
   cases em;exact fJ (q O' EA H3 EH)
  |true=>
   obtain⟨⟨Er,JT⟩,T4,e4,em⟩:=aF em;refine gO ⟨λFB H3=>LW X.K Cz H₀ F ts (bc c f m) ((fl,ρ'),T') FB H3,λFB H3 n=>⟨m,Yb m,n⟩,Cz,H₀,F,ts,O',FX,T3,Er,JT,T4,EH,e4,?_⟩
   cases Er with
   |nx=>exact λO3 FB H3 EH=>⟨O3,JT,T4,EH,em⟩
   |ct=>exact λO3 FB H3 EH=>⟨O3,JT,T4,EH,em⟩
   |bk=>
    cases em;exact λO3 FB H3 EH=>q O3 FB H3 EH
   |rt x=>
    cases em;exact q
   |ro x=>
    cases em;exact q
end
abbrev Hl:=List W->Tp->Option (Ra×Tp)
def fB:List W->Bool
 |[]=>KN
 |.loc _::_=>Lf
 |_::r=>fB r
def cI(o:Option ((Fl×XE)×Tp)):Option (Ra×Tp):=G5 o λp T=>match p with
 |(.rt x,_)=>Iv (x,T)
 |(.nx,_)=>Iv (.none,T)
 |_=>LG
def aI(N:Nat)(f:FS):Hl:=λws T=>if fB ws=KN then cI (f (ws.map Iv++RQ (N-ws.length) LG) T) else LG
inductive D3(K:Frag)(n:Nat)(m:Hl)(vs:List V)(H:Hp)(Q:VK):Prop where
 |mk (O:Addr->Prop) (ts:List Addr) (T:Tp) (ws:List W) (x:Ra) (T':Tp) (hc:HC K O ts H T) (r:iD K O ts H vs ws) (hl:ws.length=n) (e:m ws T=Iv (x,T')) (q:∀v H',F7 ts H H'->HC K O ts H' T'->Rep K O H' v x->Q v H'):D3 K n m vs H Q
def Ms(K:Frag)(n:Nat)(m:Hl):Sp:=λvs H Q _=>D3 K n m vs H Q
theorem rS{K:Frag}{O:Addr->Prop}{ts:List Addr}{H:Hp}:∀{vs:List V}{ws:List W}{i:Nat}{w:W},iD K O ts H vs ws->ws[i]? = Iv w->∃v,vs[i]? = Iv v/\Hy K O ts H v w
 |_,_,_,_,.nil,e=>by simp at e
 |_,_,0,_,.cons r _,e=>by simp_all
 |_,_,i+1,w,.cons _ t,e=>by
  obtain⟨d,h1,h2⟩:=rS   t (by simpa using e);exact⟨d,by simpa using h1,h2⟩
theorem oK:∀{ws:List W}{xs:Ra},fB ws=KN->W.loc xs∉ws
 |[],_,_,h=>by simp_all
 |.loc _::_,_,e,_=>by cases e
 |.d _::r,_,e,h=>by
  rcases Ru.mp h with z|z
  .cases z
  .exact oK (ws:=r) e z
 |.tp _::r,_,e,h=>by
  rcases Ru.mp h with z|z
  .cases z
  .exact oK (ws:=r) e z
def oF{ws:List W}{n i:Nat}{w:W}(e:(ws.map Iv++RQ n LG)[i]? = Iv (Iv w)):ws[i]? = Iv w:=by
 by_cases h:i<ws.length
 .rw[RH (by simp_all),Sf] at e<;>simp_all
 .rw[Vu (by simp_all)] at e
  have:=Rw e<;>simp_all
def dfn{P:RC}{w:RX}{K:Frag}{mg:Str->Option Re}{base:Heap}{x qual:Str}{st:Stmt}{f:Addr}{fd:Ts}{N ps:List Str}{k:Nat}{m:FS}(F:Ht K x qual st f fd)(S:DP N ps (br st))
  (JF:∀(HG:Re) (A:R9) (outer:List Env) (s:Rj) (H:Hp) (E:XK),JL k (A.deeper (U9 qual (br st) s.heap.objs.size f HG))->JR (fM E4 P w K mg base N qual (br st) f HG A outer s H E).nox (dm st) m) :
  Ft P w K mg base E4 (k+1) f fd ps (Ms K ps.length (aI N.length m)):=by
 refine F.ok S (λvs H Q E h=>?_) (λHG A outer s H vs Q E hr h=>⟨_,(JF HG A _ s H E hr).pe,?_⟩)
 .obtain⟨O,ts,T,ws,x,T',hc,Kq,hl,_⟩:=h
  rw[←hl];exact TN Kq
 obtain⟨O,ts,T,ws,x,T',hc,Kq,hl,e,q⟩:=h;unfold aI at e;split at e
 .rename_i hn
  obtain⟨⟨fl,ρ'⟩,T1,e1,e⟩:=aF e;have JW:=TN Kq;have Ip:∀{i:Nat}{xs:Ra},(ws.map Iv++RQ (N.length-ws.length) LG)[i]? = Iv (Iv (W.loc xs))->False:=λ{i xs} e=>oK hn (Rw (oF e));refine⟨O,H,[],ts,O,_,T,fl,ρ',T1,⟨hc,λi u e=>?_,λ_ h=>h,hc.own,.refl _ _,λi xs a e1 _=>(Ip e1).elim,λi j xs ys v e1 _ _ _=>(Ip e1).elim,λf hf=>absurd hf (by simp),by simp[L2.start,JW]⟩,e1,?_⟩
  .obtain⟨v,h1,h2⟩:=rS Kq (oF e)
   refine⟨v,?_,h2⟩;unfold L2.start;have hi:=(Rh.mp h1).1;rw[RH (by simpa using hi),Sf,h1];rfl
  .cases fl with
   |rt y=>cases e;exact λv H' s1 c1 r1=>q v H' s1 c1 r1
   |nx=>
    cases e;exact λO' σ' H' rs=>q _ _ rs.same rs.frzH .non
   |bk=>cases e
   |ct=>cases e
   |ro y=>cases e
 .cases e
def ak(m:Hl)(g:FA):FE:=λρ T=>G5 (g ρ T) λws T1=>G5 (m ws T1) λx T2=>Iv (.d x,T2)
def lu(g:FA)(n:Nat):Prop:=∀ρ T ws T',g ρ T=Iv (ws,T')->ws.length=n
def fY:lu ah 0:=λρ T ws T' e=>by cases e;rfl
def b5(h:lu g n):lu (ab f g) (n+1):=λρ T ws T' e=>by
 obtain⟨w1,T1,e1,e⟩:=aF e;obtain⟨ws,T2,e2,e⟩:=aF e;cases e;rw[Se,h _ _ _ _ e2]
def mB(F:Fn X.prog X.w X.K X.mg X.base name ps k (Ms X.K ps.length m))(hr:JL k X.A)(hg:Gl X name)(ha:DA X (e::es) g)(hl:lu g ps.length)(E2:autoParam ((name == ("__debug__" : Str))=Lf) u11)
  (he:autoParam (Rk (e::es) X.env=(Lf,eval e X.env)::Rk es X.env) u12) (Mh:autoParam ((R6 pos (Rk es X.env)).any (·.1)=Lf) u15):DE X (.Call (.Name name p) (e::es) [] pos) (ak m g):=by
 refine⟨?_⟩;refine bx (uM F hr hg ha.pe E2 he Mh) λσ H Q=>?_;rintro⟨O,ts,ρ,T,w,T',hc,re,e,q⟩;obtain⟨ws,T1,e1,e⟩:=aF e;obtain⟨x,T2,e2,e⟩:=aF e;cases e;refine⟨O,ts,ρ,T,ws,T1,hc,re,e1,λvs H1 s1 C3 r1=>?_⟩;refine⟨O,ts,T1,ws,x,_,C3,by simp_all,hl _ _ _ _ e1,e2,λv H2 s2 JY r2=>q v H2 (s1.trans s2) JY r2⟩
noncomputable def CA(g:Int->Int->Option Ra):Ra->Ra->Option Ra
 |.int i,.int j=>g i j
 |_,_=>LG
def eW:Ra->Ra->Option PyData:=CA λi j=>Iv (.int (i-j))
def cy:Ra->Ra->Option PyData:=CA λi j=>if 0<j then Iv (.int (i % j)) else LG
def iE:Ra->Ra->Option PyData:=CA λi j=>if 0<=j/\j<=1000000/\i.natAbs<2^64 then Iv (.int (i^j.toNat)) else LG
def Eh:Ra->Ra->Option PyData:=CA λi j=>Iv (.bool (decide (i<j)))
def Dq:Ra->Ra->Option PyData:=CA λi j=>Iv (.bool (decide (i<=j)))
def FU:Ra->Ra->Option PyData:=CA λi j=>Iv (.bool (decide (j<i)))
def M6:Ra->Ra->Option PyData:=CA λi j=>Iv (.bool (decide (j<=i)))
def zvv(e:CA g x y=Iv d):∃i j,x=.int i/\y=.int j/\g i j=Iv d:=by
 unfold CA at e
 split at e<;>simp_all
def ub{K:Frag}{C:Int->Int->Prop}{g:Int->Int->V}{gd:Int->Int->Option Ra}(h:∀i j d,gd i j=Iv d->C i j/\∀O H,Rep K O H (g i j) d):iI K (rI C g) (CA gd):=λO ts H T v1 v2 x y d Q hc h1 h2 e q=>by
 obtain⟨i,j,rfl,rfl,e⟩:=zvv e;obtain⟨c,r⟩:=h i j d e;exact⟨i,j,h1.int,h2.int,c,q _ H (.refl _ _) hc (r O H)⟩
def ms{K:Frag}{g:Int->Int->V}{gd:Int->Int->Option Ra}(h:∀i j d,gd i j=Iv d->∀O H,Rep K O H (g i j) d):iI K (GI g) (CA gd):=λO ts H T v1 v2 x y d Q hc h1 h2 e q=>by
 obtain⟨i,j,rfl,rfl,e⟩:=zvv e;exact⟨i,j,h1.int,h2.int,q _ H (.refl _ _) hc (h i j d e O H)⟩
section
variable {X:Cx}
def iu:HE X (SX .Sub) eW:=⟨_,zbf,ms λi j d e O H=>by cases e;exact .int _⟩
def eE:HE X (SX .Mod) cy:=⟨_,zbg,ub λi j d e=>by
 split at e
 .rename_i h;cases e;exact⟨h,λ_ _=>.int _⟩
 .cases e⟩
def m6:HE X (SX .Pow) iE:=⟨_,zbh,ub λi j d e=>by
 split at e
 .rename_i h;cases e;exact⟨h,λ_ _=>.int _⟩
 .cases e⟩
def dt:HE X (RB .Lt) Eh:=⟨_,zbl,ms λi j d e O H=>by cases e;exact .bl _⟩
def fH:HE X (RB .LtE) Dq:=⟨_,zbm,ms λi j d e O H=>by cases e;exact .bl _⟩
def du:HE X (RB .Gt) FU:=⟨_,zbn,ms λi j d e O H=>by cases e;exact .bl _⟩
def zvw:HE X (RB .GtE) M6:=⟨_,zbo,ms λi j d e O H=>by cases e;exact .bl _⟩
noncomputable def aP:Ra->Ra->Option Ra
 |.int i,.int j=>Iv (.int (i+j))
 |.str x,.str y=>if x.length+y.length<=Rp then Iv (.str (x++y)) else LG
 |.tuple xs,.tuple ys=>if xs.length+ys.length<=Rp then Iv (.tuple (xs++ys)) else LG
 |.list xs,.list ys=>if xs.length+ys.length<=Rp then Iv (.list (xs++ys)) else LG
 |_,_=>LG
def LO(K:Frag):R2:=λx y H Q=>∃l b xs zs,x=.ref l/\y=.ref b/\Jr K H l xs/\Jr K H b zs/\xs.length+zs.length<=Rp/\∀p,H p=LG->Q (.ref p) (upd H p (.lst (xs++zs)))
def zvx:Fo X (SX .Add) (LO X.K):=by
 intro pins s σ H x y v u Q I rx ry h;obtain⟨l,b,xs,zs,rfl,rfl,hH,hB,hz,q⟩:=h;cases rx;cases ry;obtain⟨ED,r,p1,_⟩:=I.list hH;obtain⟨K8,r2,p2,_⟩:=I.list hB;have hl:=r.length;have CM:=r2.length;obtain⟨⟨cls,dd,data,sl⟩,ho,hc,n,hd⟩:=id p1.isList;obtain⟨⟨DR,JD,data2,MR⟩,Kc,JY,n2,hd2⟩:=id p2.isList;subst hc hd JY hd2
 have ea:ED.toArray++K8.toArray=(ED++K8).toArray:=by simp
 refine Wq ⟨_,ho,rfl⟩ ⟨_,Kc,rfl⟩ noFill_list_add seq_list_add PySem.F.slot_list_add PySem.F.entry_list_add (PySem.F.args_list_add_2 _ _) (list_addW l b _ _ n n2 dd JD sl MR (by simp_all)) ⟨ho,Kc,?_⟩;rw[ea];exact⟨.ref _,_,I.lnew  (r.append r2) (by simp_all),rfl,q _ I.fresh⟩
def bb:HE X (SX .Add) aP:=by
 refine⟨_,zev.or (zxe.or (zxl.or zvx)),λO ts H T v1 v2 x y d Q hc h1 h2 e q=>?_⟩;unfold aP at e;split at e
 .cases e
  exact .inl ⟨_,_,h1.int,h2.int,q _ H (.refl _ _) hc (.int _)⟩
 .split at e
  .rename_i hz
   cases e;exact .inr (.inl ⟨_,_,h1.str,h2.str,hz,q _ H (.refl _ _) hc (.str _)⟩)
  .cases e
 .split at e
  .rename_i xs ys hz
   cases e;obtain⟨a,vs,rfl,t1,r1⟩:=h1.tup;obtain⟨b,us,rfl,t2,r2⟩:=h2.tup;refine .inr (.inr (.inl ⟨a,b,vs,us,rfl,rfl,t1.sq,t2.sq,by rw[r1.length,r2.length];exact hz,λz=>?_,λ_ z=>?_,λ_ _ p hp=>?_⟩))
   .subst z
    cases r1;exact q _ H (.refl _ _) hc (.tup t2 r2)
   .subst z
    cases r2;rw[TH] at q;exact q _ H (.refl _ _) hc (.tup t1 r1)
   .exact q _ _ (.new hp _) (hc.new hp _) (hc.newT hp (r1.append r2))
  .cases e
 .split at e
  .rename_i xs ys hz
   cases e;obtain⟨a,vs,rfl,t1,r1⟩:=h1.lst;obtain⟨b,us,rfl,t2,r2⟩:=h2.lst;exact .inr (.inr (.inr ⟨a,b,vs,us,rfl,rfl,t1,t2,by rw[r1.length,r2.length];exact hz,λp hp=>q _ _ (.new hp _) (hc.new hp _) (hc.newL hp (r1.append r2))⟩))
  .cases e
 .cases e
def zey:fillsNumberSlot (.type "tuple") "mul"=pure Lf:=PySem.fillsNumberSlot_seq   UX.lookup (rfl) Wb.lookup (rfl)
def zez:seqRepeat? (.type "tuple")=pure (Iv (.builtin "tuple.__mul__")):=by
 unfold seqRepeat?;rw[Yc  (name:="__mul__")  UX.lookup (rfl),Yc  (name:="__rmul__")  Wb.lookup (rfl)];rfl
def zfa(a:Int)(t:Tok)(l:Addr)(items:Array Re)(n:Nat)(dd:Option Addr)(sl:Array (Option Re)) :
  Meets (ZO.«int.__rmul__» ⟨[.int a t,.ref l],[]⟩) (λ_ R s=>s.heap.get? l=Iv { cls:=.type "tuple",dict:=dd,data:=.seq items n,slots:=sl }/\R (.ok (.ret Value.notImplemented)) s):=.of_wp λprog w A R s h=>by obtain⟨hl,h⟩:=h;wp_walk;exact⟨_,rfl,h⟩
def zfb(l:Addr)(items:Array Re)(n:Nat)(dd:Option Addr)(sl:Array (Option Re))(k:Int)(t:Tok)(h1:2<=k)(h2:k<=1000)(h3:items.isEmpty=Lf)(h4:items.size<=1000) :
  Meets (ZO.«tuple.__mul__» ⟨[.ref l,.int k t],[]⟩) (λ_ R s=>s.heap.get? l=Iv { cls:=.type "tuple",dict:=dd,data:=.seq items n,slots:=sl }/\R (.ok (.ret (Sn s.heap.objs.size))) { s with heap:=s.heap.push { cls:=Vq "tuple",data:=Data.seq (Wu (λx1 x2=>x1++x2) #[] (RQ k.toNat items)) },toks:=s.toks }):=
 .of_wp λprog w A R s h=>by
  obtain⟨hp,g,d,tk,os⟩:=s;obtain⟨hl,h⟩:=h
  have CF:¬(decide (k < -(2^63))||decide (k>=2^63))=KN:=by lia
  have C3:¬(items.isEmpty||k == 1)=KN:=by rw[h3];simp;lia
  have JY:¬(decide (k<=0)||items.isEmpty)=KN:=by rw[h3];simp;lia
  have hm:items.size*k.toNat<=1000*1000:=WW h4 (by lia)
  have FL:(items.size:Int)*k<=1000000:=by
   have e:((items.size*k.toNat:Nat):Int)=(items.size:Int)*k:=by rw[Int.natCast_mul,Int.toNat_of_nonneg (by lia)]
   lia
  have HM:¬(items.size:Int)*k>(2^63-1) / 8:=by
   have:(1000000:Int)<=(2^63-1) / 8:=by decide
   lia
  have FH:¬VA ((items.size:Int)*k)=KN:=by
   unfold VA
   have:Rp=16777216:=by decide
   simp
   lia
  have ht:YH hp l items:=⟨_,hl,rfl,n,rfl⟩;wp_walk;rw[if_neg CF];dsimp only;refine Rr (Xj ht ?_);rw[if_neg C3,if_neg JY,if_neg HM,if_neg FH]
  have fit:sizeOk (.seq (Wu (λx1 x2=>x1++x2) #[] (RQ k.toNat items))):=by
   show (Wu (λx1 x2=>x1++x2) #[] (RQ k.toNat items)).size<=Rp;have q:=foldl_rep items.toList k.toNat [];rw[UF] at q
   have q':Wu (λx1 x2=>x1++x2) #[] (RQ k.toNat items)=(RQ k.toNat items.toList).flatten.toArray:=by simpa using q
   rw[q',Sw,len_rep]
   have:Rp=16777216:=by decide
   rw[SJ,Nat.mul_comm]
   lia
  first
  |exact Rr (m:=Tg _) (S7 (Rx ⟨_,rfl,h⟩) fit)
  |exact Rr (m:=Tg _) (S7 (Rr (Rx (Rx ⟨_,rfl,h⟩))) fit)
def zfc:Fo X (SX .Mult) (λx y H Q=>∃a k xs,x=.ref a/\y=.int k/\Fy X.K H a xs/\2<=k/\k<=1000/\xs≠[]/\xs.length<=1000/\∀p,H p=LG->Q (.ref p) (upd H p (.tup (RQ k.toNat xs).flatten))):=by
 intro pins s σ H x y v u Q I rx ry h;obtain⟨a,k,xs,rfl,rfl,hq,h1,h2,h3,h4,q⟩:=h;cases rx;obtain⟨t,rfl⟩:=ry;obtain⟨ED,r,p1,_⟩:=I.tuple hq;have hl:=r.length;have hv:=λz=>h3 (r.nil_iff.mp z);obtain⟨⟨cls,dd,data,sl⟩,ho,hc,n,hd⟩:=id p1;subst hc hd
 have wg:=by
  have q:=foldl_rep ED k.toNat []<;>omega
 have he:ED.toArray.isEmpty=Lf:=by simp_all
 refine wpAny_binaryOp_repeat_ref   (rfl) ⟨_,ho,rfl⟩ (λs'=>YQ s' k t) zey F.fills_int_mul Yu zez F.slot_int_index.lookup
  (Ub Yu (YQ s k t) F.entry_int_rmul (F.args_int_rmul_2 _ _) (zfa k t a _ n dd sl)
   ⟨ho,rfl,⟨_,ho,rfl⟩,Ub UX ⟨_,ho,rfl⟩ PySem.F.entry_tuple_mul (PySem.F.args_tuple_mul_2 _ _) (zfb a _ n dd sl k t h1 h2 he (by simp_all)) ⟨ho,?_⟩⟩)
 rw[wg];refine⟨.ref _,_,I.laid   (λb ob q=>Ri _ q) (Rn _) ?_,rfl,q _ (I.hok.fresh (Rn _))⟩;refine⟨?_,_,r.rep _,W5 _ _⟩;rw[len_rep];have:k.toNat*xs.length<=1000*1000:=WW (by lia) h4;have:Rp=16777216:=rfl
 lia
noncomputable def cB:Ra->Ra->Option Ra
 |.int i,.int j=>if (-(2^64)<i/\i<2^64)\/(-(2^64)<j/\j<2^64) then Iv (.int (i*j)) else LG
 |.str z,.int k=>if 0<=k/\k<=2000/\z.length<=1000 then Iv (.str (Uu z k)) else LG
 |.tuple xs,.int k=>if 2<=k/\k<=1000/\xs.isEmpty=Lf/\xs.length<=1000 then Iv (.tuple (RQ k.toNat xs).flatten) else LG
 |_,_=>LG
def fA:HE X (SX .Mult) cB:=by
 refine⟨_,zxa.or (zxm.or zfc),λO ts H T v1 v2 x y d Q hc h1 h2 e q=>?_⟩;unfold cB at e;split at e
 .split at e
  .rename_i hz
   cases e;exact .inl ⟨_,_,h1.int,h2.int,hz,q _ H (.refl _ _) hc (.int _)⟩
  .cases e
 .split at e
  .rename_i hz
   cases e;exact .inr (.inl ⟨_,_,h1.str,h2.int,hz.1,hz.2.1,hz.2.2,q _ H (.refl _ _) hc (.str _)⟩)
  .cases e
 .split at e
  .rename_i xs k hz
   cases e;obtain⟨a,vs,rfl,t1,r1⟩:=h1.tup;exact .inr (.inr ⟨a,_,vs,rfl,h2.int,t1.sq,hz.1,hz.2.1,λz=>by subst z;cases r1<;>simp_all,by rw[r1.length];exact hz.2.2.2,λp hp=>q _ _ (.new hp _) (hc.new hp _) (hc.newT hp (r1.rep _))⟩)
  .cases e
 .cases e
noncomputable def CZ:Ra->Ra->Option Bool
 |.int i,.int j=>Iv (decide (i=j))
 |.str x,.str y=>Iv (decide (x=y))
 |.bool a,.bool b=>Iv (decide (a=b))
 |.none,.none=>Iv KN
 |.none,.int _=>Iv Lf | .int _,.none=>Iv Lf | .none,.bool _=>Iv Lf | .bool _,.none=>Iv Lf | .none,.str _=>Iv Lf | .str _,.none=>Iv Lf
 |.int _,.str _=>Iv Lf | .str _,.int _=>Iv Lf | .bool _,.str _=>Iv Lf | .str _,.bool _=>Iv Lf
 |_,_=>LG
def zvy{K:Frag}{O:Addr->Prop}{H:Hp}{v1 v2:V}{x y:Ra}{b:Bool}(h1:Vw K O H v1 x)(h2:Vw K O H v2 y)(e:CZ x y=Iv b):uZ v1 v2=KN/\decide (v1=v2)=b:=by
 unfold CZ at e;split at e
 all_goals first|(simp_all)|skip
 .cases h1.int;cases h2.int;cases e;exact⟨rfl,by simp⟩
 .cases h1.str;cases h2.str;cases e;exact⟨rfl,by simp⟩
 .cases h1.bl;cases h2.bl;cases e;exact⟨rfl,by simp⟩
 .cases h1.non;cases h2.non;cases e;exact⟨rfl,rfl⟩
 .cases h1.non;cases h2.int;cases e;exact⟨rfl,by simp⟩
 .cases h1.int;cases h2.non;cases e;exact⟨rfl,by simp⟩
 .cases h1.non;cases h2.bl;cases e;exact⟨rfl,by simp⟩
 .cases h1.bl;cases h2.non;cases e;exact⟨rfl,by simp⟩
 .cases h1.non;cases h2.str;cases e;exact⟨rfl,by simp⟩
 .cases h1.str;cases h2.non;cases e;exact⟨rfl,by simp⟩
 .cases h1.int;cases h2.str;cases e;exact⟨rfl,by simp⟩
 .cases h1.str;cases h2.int;cases e;exact⟨rfl,by simp⟩
 .cases h1.bl;cases h2.str;cases e;exact⟨rfl,by simp⟩
 .cases h1.str;cases h2.bl;cases e;exact⟨rfl,by simp⟩
def CP(x y:Ra):Option PyData:=(CZ x y).map .bool
def DN(x y:Ra):Option PyData:=(CZ x y).map λb=>.bool (!b)
def aL:HE X (RB .Eq) CP:=⟨_,zbj,λO ts H T v1 v2 x y d Q hc h1 h2 e q=>by
 obtain⟨b,e1,rfl⟩:=RO.mp e;obtain⟨k1,k2⟩:=zvy h1 h2 e1
 exact⟨k1,by rw[k2];exact q _ H (.refl _ _) hc (.bl _)⟩⟩
def dB:HE X (RB .NotEq) DN:=⟨_,zbk,λO ts H T v1 v2 x y d Q hc h1 h2 e q=>by
 obtain⟨b,e1,rfl⟩:=RO.mp e;obtain⟨k1,k2⟩:=zvy h1 h2 e1
 exact⟨k1,by rw[k2];exact q _ H (.refl _ _) hc (.bl _)⟩⟩
noncomputable def isNone:Ra->Bool
 |.none=>KN
 |_=>Lf
def zvz{K:Frag}{O:Addr->Prop}{H:Hp}{v:V}{x:Ra}(h:Vw K O H v x):decide (v=.non)=isNone x:=by
 cases h with
 |rep h=>cases h <;> rfl
 |raw _ _=>rfl
 |rawD _ _=>rfl
def Kt:Ra->Ra->Option Ra
 |x,.none=>Iv (.bool (isNone x))
 |_,_=>LG
def nL:HE X (RB .Is) Kt:=⟨_,zbp,λO ts H T v1 v2 x y d Q hc h1 h2 e q=>by
 unfold Kt at e;split at e
 .cases e
  exact⟨h2.non,by rw[zvz h1];exact q _ H (.refl _ _) hc (.bl _)⟩
 .cases e⟩
def mP:Ra->Ra->Option Ra
 |x,.none=>Iv (.bool (!isNone x))
 |.bool a,.bool b=>Iv (.bool (a != b))
 |_,_=>LG
def zfd:HE X (RB .IsNot) mP:=⟨_,zxc.or zdz,λO ts H T v1 v2 x y d Q hc h1 h2 e q=>by
 unfold mP at e;split at e
 .cases e
  exact .inl ⟨h2.non,by rw[zvz h1];exact q _ H (.refl _ _) hc (.bl _)⟩
 .cases e
  exact .inr ⟨_,_,h1.bl,h2.bl,q _ H (.refl _ _) hc (.bl _)⟩
 .cases e⟩
noncomputable def dr:Ra->Bool
 |.none=>KN | .bool _=>KN | .int _=>KN | .str _=>KN
 |_=>Lf
noncomputable def JA:Ra->Ra->Bool
 |.none,.none=>KN
 |.bool a,.bool b=>a == b
 |.bool a,.int b=>(if a then 1 else 0) == b
 |.int a,.bool b=>a == (if b then 1 else 0)
 |.int a,.int b=>a == b
 |.str a,.str b=>a == b
 |_,_=>Lf
def jy(y x:Str):Bool:=!(SY y x 0 y.length 1).isEmpty
def Fp:Ra->Ra->Option Bool
 |.str x,.str y=>Iv (jy y x)
 |x,.list ys=>if dr x&&ys.all dr then Iv (ys.any λy=>JA y x) else LG
 |x,.tuple ys=>if dr x&&ys.all dr then Iv (ys.any λy=>JA y x) else LG
 |_,_=>LG
def tJ{K:Frag}{O:Addr->Prop}{H:Hp}{v:V}{x:Ra}(h:Rep K O H v x)(e:dr x=KN):gi v=KN:=by cases h <;> first|rfl|cases e
def zfe{K:Frag}{O:Addr->Prop}{H:Hp}{v u:V}{x y:Ra}(h:Rep K O H v x)(g:Rep K O H u y)(ex:dr x=KN)(ey:dr y=KN):Dp v u=JA x y:=by cases h <;> cases g <;> first|rfl|cases ex|cases ey
theorem sL{K:Frag}{O:Addr->Prop}{H:Hp}:∀{vs:List V}{xs:List Ra},EE K O H vs xs->xs.all dr=KN->vs.all gi=KN
 |_,_,.nil,_=>rfl
 |_,_,.cons r t,e=>by
  rw[Ui,Ro] at e;rw[Ui,tJ r e.1,sL t e.2];rfl
theorem tT{K:Frag}{O:Addr->Prop}{H:Hp}{v:V}{x:Ra}(h:Rep K O H v x)(ex:dr x=KN):∀{vs:List V}{xs:List Ra},EE K O H vs xs->xs.all dr=KN->(vs.any λy=>Dp y v)=xs.any λy=>JA y x
 |_,_,.nil,_=>rfl
 |_,_,.cons r t,e=>by
  rw[Ui,Ro] at e;rw[Uj,Uj,zfe r h e.1 ex,tT h ex t e.2]
def Vw.flat{K:Frag}{O:Addr->Prop}{H:Hp}{v:V}{x:Ra}(h:Vw K O H v x)(e:dr x=KN):Rep K O H v x:=by
 cases h with
 |rep h=>exact h
 |raw _ _=>cases e
 |rawD _ _=>cases e
def inD(x y:Ra):Option PyData:=(Fp x y).map .bool
def cS(x y:Ra):Option PyData:=(Fp x y).map λb=>.bool (!b)
def qg{K:Frag}(neg:Bool):iI K (λx y H Q=>(∃i j,x=.str i/\y=.str j/\Q (.bl (if neg then !(jy j i) else jy j i)) H)\/zv K neg x y H Q) (λx y=>(Fp x y).map λb=>.bool (if neg then !b else b)):=λO ts H T v1 v2 x y d Q hc h1 h2 e q=>by
 obtain⟨b,e1,rfl⟩:=RO.mp e;unfold Fp at e1;split at e1
 .cases e1
  exact .inl ⟨_,_,h1.str,h2.str,q _ H (.refl _ _) hc (.bl _)⟩
 .split at e1
  .rename_i hf
   cases e1;rw[Ro] at hf;obtain⟨a,vs,rfl,t,r⟩:=h2.lst;have r1:=h1.flat hf.1;refine .inr ⟨a,vs,rfl,.inl t,tJ r1 hf.1,sL r hf.2,?_⟩;have z:Dl v1 vs=_:=tT r1 hf.1 r hf.2;rw[z];exact q _ H (.refl _ _) hc (.bl _)
  .cases e1
 .split at e1
  .rename_i hf
   cases e1;rw[Ro] at hf;obtain⟨a,vs,rfl,t,r⟩:=h2.tup;have r1:=h1.flat hf.1;refine .inr ⟨a,vs,rfl,.inr t.sq,tJ r1 hf.1,sL r hf.2,?_⟩;have z:Dl v1 vs=_:=tT r1 hf.1 r hf.2;rw[z];exact q _ H (.refl _ _) hc (.bl _)
  .cases e1
 .cases e1
def qY:HE X (RB .In) inD:=⟨_,zxb.or zuh,qg Lf⟩
def iY:HE X (RB .NotIn) cS:=⟨_,zxd.or zui,qg KN⟩
noncomputable def bS:Ra->Option Ra
 |.int i=>Iv (.int (-i))
 |_=>LG
def dX(ha:DE X a fa):DE X (.UnaryOp .USub a pos) (LP bS fa):=zeo zbi (λO ts H T v x d Q hc h e q=>by
 unfold bS at e;split at e
 .cases e
  exact⟨_,h.int,q _ H (.refl _ _) hc (.int _)⟩
 .cases e) ha
def HN:Ra->Ra->Option Ra
 |.list xs,.int i=>L1 xs i
 |.tuple xs,.int i=>L1 xs i
 |.str z,.int i=>if z.length<=Rp then (L1 z.cps.toList i).map λc=>.str ⟨#[c]⟩ else LG
 |_,_=>LG
def zwa{K:Frag}{O:Addr->Prop}{H:Hp}{vs:List V}{xs:List Ra}{i:Int}{d:Ra}(r:EE K O H vs xs)(e:L1 xs i=Iv d):∃v,L1 vs i=Iv v/\Rep K O H v d:=by
 unfold L1 at e ⊢;rw[r.length]
 cases h:L5 _ i with
 |none=>simp_all
 |some j=>
  rw[h] at e;exact r.getD e
def aV:An X HN:=⟨_,zuf,λO ts H T v1 v2 x y d Q hc h1 h2 e q=>by
 unfold HN at e;split at e
 .obtain⟨a,vs,rfl,t,r⟩:=h1.lst
  obtain⟨v,k1,k2⟩:=zwa r e;exact .inl ⟨a,vs,_,v,rfl,h2.int,t,k1,q _ H (.refl _ _) hc k2⟩
 .obtain⟨a,vs,rfl,t,r⟩:=h1.tup
  obtain⟨v,k1,k2⟩:=zwa r e;exact .inr (.inl ⟨a,vs,_,v,rfl,h2.int,t.sq,k1,q _ H (.refl _ _) hc k2⟩)
 .split at e
  .rename_i hz
   obtain⟨c,k1,rfl⟩:=RO.mp e;exact .inr (.inr ⟨_,_,c,h1.str,h2.int,hz,k1,q _ H (.refl _ _) hc (.str _)⟩)
  .cases e
 .cases e⟩
end
def zff{prog:RC}{w:RX}{A:R9}{E:Re->Rj->Prop}{s:Rj}{t sl:Addr}{items:Array Re}{vl vu:Re}{lo hi:Option Int}{Q:Re->Rj->Prop}(ht:YH s.heap t items)(hs:s.heap.IsSliceOf sl vl vu .none)(pl:Wr vl lo)(pu:Wr vu hi)
  (hw:HT.Jo items.size 0 lo=0/\HT.Jo items.size items.size hi=items.size) (h:Q (.ref t) s):RP (RM prog w) A (Ve (.ref t) (.ref sl)) Q E s:=by
 obtain⟨os,JH,Kl,H8⟩:=id hs;have xu:s.TypeIs (.ref sl) "slice":=⟨os,JH,Kl⟩;unfold Ve
 try with_reducible refine Tu ?_
 refine Rr (XA ht.typeIs (rfl) ?_)
 refine Rr (V4  ht.typeIs Si
  (V5 Si ht.typeIs W7 ?_ (Xq _ _)))
 show RP _ _ (Vx (.ref t) >>= _) _ _ s;refine Rr (Xj ht ?_);refine Rr (XB xu ?_);rw[if_pos (by rfl)];refine Rr (HT.zuc hs pl pu ?_)
 have wA:((((HT.Jo items.size 0 lo:Nat):Int) == 0&&(1:Int) == 1&&(HT.Jo items.size items.size hi-HT.Jo items.size 0 lo) == items.size)=KN):=by simp_all
 show RP _ _ (if _=KN then _ else _) _ _ s;rw[if_pos wA];refine Rr  (Rr (XB ht.typeIs (Rx ?_)))
 first
 |omega
 |(exact Rr (WB (Rx ⟨_,rfl,Rx h⟩)))
def dM{α:Type}(xs:List α)(lo hi:Option Int):List α:=(xs.drop (HT.Jo xs.length 0 lo)).take (HT.Jo xs.length xs.length hi-HT.Jo xs.length 0 lo)
def EE.cut{K:Frag}{O:Addr->Prop}{H:Hp}{vs:List V}{ds:List Ra}(r:EE K O H vs ds)(lo hi:Option Int):EE K O H (jA vs lo hi) (dM ds lo hi):=by
 unfold jA dM;rw[r.length];exact(r.drop _).take _
def zfg{α:Type}{xs:List α}{lo hi:Option Int}(h:HT.Jo xs.length 0 lo=0/\HT.Jo xs.length xs.length hi=xs.length):dM xs lo hi=xs:=by unfold dM<;>simp_all
section
variable {X:Cx}
def zxn:Kw X (λx lo hi H Q=>∃a xs,x=.ref a/\Fy X.K H a xs/\((HT.Jo xs.length 0 lo=0/\HT.Jo xs.length xs.length hi=xs.length)->Q (.ref a) H) /\
  (¬(HT.Jo xs.length 0 lo=0/\HT.Jo xs.length xs.length hi=xs.length)->∀p,H p=LG->Q (.ref p) (upd H p (.tup (jA xs lo hi))))):=by
 intro pins s σ H x v vl vu lo hi sl Q I rx hs pl pu h;obtain⟨a,xs,rfl,hx,q1,q2⟩:=h
 by_cases hw:HT.Jo xs.length 0 lo=0/\HT.Jo xs.length xs.length hi=xs.length
 .cases rx
  obtain⟨ED,r,ht,hz⟩:=I.tuple hx
  have JW:ED.toArray.size=xs.length:=by exact r.length.symm
  refine⟨"tuple",_,Si.lookup,ht.typeIs,?_⟩;exact zff ht hs pl pu (by rw[JW];exact hw) ⟨.ref a,H,I,rfl,q1 hw⟩
 .exact zco pins s σ H _ v vl vu lo hi sl Q I rx hs pl pu ⟨a,xs,rfl,hx,hw,q2 hw⟩
def mJ(x:Ra)(lo hi:Option Int):Option PyData:=match x with
 |.list xs=>Iv (.list (dM xs lo hi))
 |.tuple xs=>Iv (.tuple (dM xs lo hi))
 |.str z=>if z.length<=Rp then Iv (.str (Sy z lo hi)) else LG
 |_=>LG
abbrev FO:=XE->Tp->Option (Option Int×Tp)
def bE:FO:=λ_ T=>Iv (LG,T)
def fP(f:FE):FO:=λρ T=>G5 (f ρ T) λw T1=>match w with
 |.d (.int i)=>Iv (Iv i,T1)
 |_=>LG
inductive EZ(K:Frag)(f:FO)(σ:L2.St)(H:Hp)(Q:Option Int->Hp->Prop):Prop where
 |mk (O:Addr->Prop) (ts:List Addr) (ρ:XE) (T:Tp) (o:Option Int) (T':Tp) (hc:HC K O ts H T) (re:LZ K O ts H σ ρ) (e:f ρ T=Iv (o,T')) (q:∀H',F7 ts H H'->HC K O ts H' T'->Q o H'):EZ K f σ H Q
def L8(K:Frag)(f:FO):TO:=λσ H Q=>EZ K f σ H Q
structure DO(X:Cx)(e:Option Expr)(f:FO):Prop where
 pe:PO X e (L8 X.K f)
def zwb(h:PO X e t)(i:∀σ H Q,t' σ H Q->t σ H Q):PO X e t':=λpins s σ H Q I q=>h pins s σ H Q I (i σ H Q q)
def dG:DO X LG bE:=by
 refine⟨?_⟩;refine zwb zcl λσ H Q=>?_;rintro⟨O,ts,ρ,T,o,T',hc,re,e,q⟩;cases e;exact q H (.refl _ _) hc
def cq(h:DE X e f):DO X (Iv e) (fP f):=by
 refine⟨?_⟩;refine zwb (zcm h.pe) λσ H Q=>?_;rintro⟨O,ts,ρ,T,o,T',hc,re,e,q⟩;obtain⟨w1,T1,e1,e⟩:=aF e;refine⟨O,ts,ρ,T,w1,T1,hc,re,e1,λv1 H1 s1 C3 r1=>?_⟩;split at e
 .cases e
  cases (r1);exact⟨_,rfl,q H1 s1 C3⟩
 .cases e
def Ig(f:FE)(l u:FO):FE:=λρ T=>G5 (f ρ T) λw T1=>G5 (l ρ T1) λlo T2=>G5 (u ρ T2) λhi T3=>Fg (λx=>mJ x lo hi) T3 w
def cW{e:Expr}{lo hi:Option Expr}{f:FE}{l u:FO}{pos p2:Pos}(he:DE X e f)(hl:DO X lo l)(hu:DO X hi u):DE X (.Subscript e (.Slice lo hi LG p2) pos) (Ig f l u):=by
 refine⟨?_⟩;refine bx (zcn (zxh.or (zxn.or zea)) he.pe hl.pe hu.pe) λσ H Q=>?_;rintro⟨O,ts,ρ,T,w,T',hc,re,e,q⟩;obtain⟨w1,T1,e1,e⟩:=aF e;obtain⟨o1,T2,e2,e⟩:=aF e;obtain⟨o2,T3,e3,e⟩:=aF e;obtain⟨x,d,h1,h3,rfl,rfl⟩:=ie e;refine⟨O,ts,ρ,T,w1,T1,hc,re,e1,λv1 H1 s1 C3 r1=>?_⟩;refine⟨O,ts,ρ,T1,o1,T2,C3,re.mono hc s1,e2,λH2 s2 JY=>?_⟩;refine⟨O,ts,ρ,T2,o2,T',JY,re.mono hc (s1.trans s2),e3,λH3 s3 HM=>?_⟩;have vw:=HM.view (r1.mono C3 (s2.trans s3)) h1;have q':=λv H' s c r=>q v H' (s1.trans (s2.trans (s3.trans s))) c r;clear q
 cases x with
 |list xs=>
  cases h3;obtain⟨a,vs,rfl,t,r⟩:=vw.lst;exact .inl ⟨a,vs,rfl,t,λp hp=>q' _ _ (.new hp _) (HM.new hp _) (HM.newL hp (r.cut _ _))⟩
 |tuple xs=>
  cases h3;obtain⟨a,vs,rfl,t,r⟩:=vw.tup;refine .inr (.inl ⟨a,vs,rfl,t.sq,λhw=>?_,λhw p hp=>?_⟩)
  .rw[r.length] at hw
   rw[zfg hw] at q';exact q' _ H3 (.refl _ _) HM vw.tupR
  .exact q' _ _ (.new hp _) (HM.new hp _) (HM.newT hp (r.cut _ _))
 |str z=>
  have Hh:(if z.length<=Rp then Iv _ else LG)=Iv d:=h3;split at Hh
  .rename_i hz
   cases Hh;exact .inr (.inr ⟨z,vw.str,hz,q' _ H3 (.refl _ _) HM (.str _)⟩)
  .cases Hh
 |_=>cases h3
end
inductive Kd where
 |non|bl|int|str|tup|lst|dct
 deriving DecidableEq
def Kd.name:Kd->String
 |.non=>"NoneType" | .bl=>"bool" | .int=>"int" | .str=>"str" | .tup=>"tuple" | .lst=>"list" | .dct=>"dict"
def kd:Ra->Kd
 |.none=>.non | .bool _=>.bl | .int _=>.int | .str _=>.str | .list _=>.lst | .tuple _=>.tup | .dict _=>.dct
def bo(a b:Kd):Bool:=decide (a=b)||(decide (a=.bl)&&decide (b=.int))
noncomputable def MT(t c:String):Option Bool:=if (Vq t == Vq c)=KN then Iv KN else if PySem.W.kitMeta c=KN then (fastBuiltinMro t).map (·.contains (.type c)) else LG
def gF(a b:Kd):b≠.non->MT a.name b.name=Iv (bo a b):=by cases a <;> cases b <;> first|(intro h;exact absurd rfl h)|(intro _;decide +kernel)
section
variable {X:Cx}
def zfh:Fh X (.builtin "isinstance") (λxs H Q=>∃(x:V) (c:Kd) (O:Addr->Prop) (d:Ra),xs=[x,.ty c.name]/\Vw X.K O H x d/\c≠.non/\Q (.bl (bo (kd d) c)) H):=by
 intro pins s σ H xs us Q I r h;obtain⟨x,c,O,d,rfl,vw,hc,q⟩:=h;obtain⟨u,w',rfl,ru,Kq⟩:=vals2 r;cases (Kq);have fin:∀tk,EP X pins σ Q _ { s with toks:=tk }:=λtk=>⟨.bl _,H,I.tok _,rfl,q⟩
 cases d with
 |none=>cases vw.non;exact oN I ru .non (gF .non c hc) fin
 |bool b=>cases vw.bl;exact oN I ru (.bl b) (gF .bl c hc) fin
 |int i=>cases vw.int;exact oN I ru (.int i) (gF .int c hc) fin
 |str z=>cases vw.str;exact oN I ru (.str z) (gF .str c hc) fin
 |list ds=>
  obtain⟨a,vs,rfl,t,r⟩:=vw.lst;cases (show u=Sn a from ru);obtain⟨ED,_,pl,_⟩:=I.list t;obtain⟨o,n,e,c1,_⟩:=pl;exact Sd US I.kIn ⟨o,e,c1⟩ (gF .lst c hc) (λz=>nomatch z) fin
 |tuple ds=>
  obtain⟨a,vs,rfl,t,r⟩:=vw.tup;cases (show u=Sn a from ru);obtain⟨ED,_,pl,_⟩:=I.tuple t.sq;obtain⟨o,e,c1,_⟩:=pl;exact Sd Vt I.kIn ⟨o,e,c1⟩ (gF .tup c hc) (λz=>nomatch z) fin
 |dict ds=>
  obtain⟨a,vs,rfl,t,r⟩:=vw.dct;cases (show u=Sn a from ru);obtain⟨_,_,_,_,o,_,_,e,c1,_⟩:=d4 I.hok t;exact Sd UT I.kIn ⟨o,e,c1.1⟩ (gF .dct c hc) (λz=>nomatch z) fin
def aW(c:Kd)(x:Ra):Option PyData:=Iv (.bool (bo (kd x) c))
def aY(c:Kd)(hi:X.mg "isinstance"=LG)(he:DE X e f)(hm:X.mg T=LG)(hb:Te T=Iv (.type c.name))(hcn:autoParam (c≠.non) u11)(hg:autoParam (Gl X "isinstance") u10)(hT:autoParam (Gl X T) u10)(hn:autoParam (T≠"__name__") u11)(E2:autoParam ((T == ("__debug__" : Str))=Lf) u11)
  (hs:autoParam (Rk [e,.Name T p] X.env=(Lf,eval e X.env)::Rk [.Name T p] X.env) u12) (IY:autoParam (Rk [.Name T p] X.env=(Lf,eval (.Name T p) X.env)::Rk [] X.env) u12)
  (Mh:autoParam ((R6 pos (Rk [.Name T p] X.env)).any (·.1)=Lf) u15):DE X (.Call (.Name "isinstance" p') [e,.Name T p] [] pos) (LP (aW c) f):=by
 refine⟨?_⟩;refine bx (lY zfh hg hi Vj (cn he.pe (cn (sZ (v:=.ty _) hT hm hb rfl hn E2) cM IY) hs) (by decide) (rfl) hs Mh) λσ H Q=>?_;rintro⟨O,ts,ρ,T,w,T',hc,re,e,q⟩;obtain⟨w1,T1,e1,e⟩:=aF e;obtain⟨x,d,h1,h3,rfl,rfl⟩:=ie e;cases h3;refine⟨O,ts,ρ,T,w1,T',hc,re,e1,λv1 H1 s1 C3 r1=>?_⟩;exact⟨v1,c,O,x,rfl,C3.view r1 h1,hcn,q _ H1 s1 C3 (.bl _)⟩
noncomputable def aR:List Ra->Option Ra
 |[.list xs]=>Iv (.int xs.length)
 |[.tuple xs]=>Iv (.int xs.length)
 |[.str z]=>if z.length<=Rp then Iv (.int z.length) else LG
 |[.dict kvs]=>Iv (.int kvs.length)
 |_=>LG
def c9{K:Frag}{O:Addr->Prop}{H:Hp}{vs:List V}{x:Ra}(h:zp K O H vs [x]):∃v,vs=[v]/\Vw K O H v x:=by cases h with|cons h t=>cases t;exact⟨_,rfl,h⟩
theorem zwc{K:Frag}{O:Addr->Prop}{H:Hp}:∀{kvs:List (Key×V)}{ds:List (Ra×Ra)},JU K O H kvs ds->kvs.length=ds.length
 |_,_,.nil=>rfl
 |_,_,.cons _ t=>congrArg _ (zwc t)
def zfi:Fh X (.builtin "len") (λxs H Q=>∃a kvs,xs=[V.ref a]/\Rd H a (.dK kvs)/\Q (.int kvs.length) H):=by
 intro pins s σ H xs us Q I r h;obtain⟨a,kvs,rfl,ha,q⟩:=h;obtain⟨u,rfl,ru⟩:=vals1 r;cases ru;exact zdb I ha λt s' I'=>⟨.int _,H,I',⟨t,rfl⟩,q⟩
def zfj:eV X (.builtin "len") aR:=⟨_,zxi.or (zxj.or zfi),λO ts H T vs xs d Q hc h e q=>by
 unfold aR at e;split at e
 .cases e
  obtain⟨v,rfl,g⟩:=c9 h;obtain⟨a,vs,rfl,t,r⟩:=g.lst;exact .inl ⟨a,vs,rfl,.inl t,by rw[r.length];exact q _ H (.refl _ _) hc (.int _)⟩
 .cases e
  obtain⟨v,rfl,g⟩:=c9 h;obtain⟨a,vs,rfl,t,r⟩:=g.tup;exact .inl ⟨a,vs,rfl,.inr t.sq,by rw[r.length];exact q _ H (.refl _ _) hc (.int _)⟩
 .split at e
  .rename_i hz
   cases e;obtain⟨v,rfl,g⟩:=c9 h;cases g.str;exact .inr (.inl ⟨_,rfl,hz,q _ H (.refl _ _) hc (.int _)⟩)
  .cases e
 .cases e
  obtain⟨v,rfl,g⟩:=c9 h;obtain⟨a,kvs,rfl,t,r⟩:=g.dct;exact .inr (.inr ⟨a,kvs,rfl,t,by rw[zwc r];exact q _ H (.refl _ _) hc (.int _)⟩)
 .cases e⟩
noncomputable def nX:List Ra->Option Ra
 |[.int i]=>Iv (.int (if i<0 then -i else i))
 |_=>LG
def zwd:eV X (.builtin "abs") nX:=⟨_,zbx,λO ts H T vs xs d Q hc h e q=>by
 unfold nX at e;split at e
 .cases e
  obtain⟨v,rfl,g⟩:=c9 h;cases g.int;exact⟨_,rfl,q _ H (.refl _ _) hc (.int _)⟩
 .cases e⟩
noncomputable def kF:List Ra->Option (List Bool)
 |[]=>Iv []
 |.bool b::r=>(kF r).map (b::·)
 |_=>LG
noncomputable def kQ:List Ra->Option (List Int)
 |[]=>Iv []
 |.int b::r=>(kQ r).map (b::·)
 |_=>LG
noncomputable def dP:List Ra->Option (List Str)
 |[]=>Iv []
 |.str b::r=>(dP r).map (b::·)
 |_=>LG
theorem zwe{K:Frag}{O:Addr->Prop}{H:Hp}:∀{vs:List V}{xs:List Ra}{bs:List Bool},EE K O H vs xs->kF xs=Iv bs->vs=bs.map V.bl
 |_,_,_,.nil,e=>by cases e;rfl
 |_,x::r,bs,.cons h t,e=>by
  cases x with
  |bool b=>
   obtain⟨cs,e1,rfl⟩:=RO.mp (e);cases h;rw[zwe t e1];rfl
  |_=>cases e
theorem zwf{K:Frag}{O:Addr->Prop}{H:Hp}:∀{vs:List V}{xs:List Ra}{bs:List Int},EE K O H vs xs->kQ xs=Iv bs->vs=bs.map V.int
 |_,_,_,.nil,e=>by cases e;rfl
 |_,x::r,bs,.cons h t,e=>by
  cases x with
  |int b=>
   obtain⟨cs,e1,rfl⟩:=RO.mp (e);cases h;rw[zwf t e1];rfl
  |_=>cases e
theorem ml{K:Frag}{O:Addr->Prop}{H:Hp}:∀{vs:List V}{xs:List Ra}{bs:List Str},EE K O H vs xs->dP xs=Iv bs->vs=bs.map V.str
 |_,_,_,.nil,e=>by cases e;rfl
 |_,x::r,bs,.cons h t,e=>by
  cases x with
  |str b=>
   obtain⟨cs,e1,rfl⟩:=RO.mp (e);cases h;rw[ml t e1];rfl
  |_=>cases e
def dS:List Ra->Option Ra
 |[.list xs]=>(kF xs).map λbs=>.bool (bs.all id)
 |_=>LG
def gp(hc:autoParam (X.calm=KN) u10):eV X (.builtin "all") dS:=⟨_,zdw hc,λO ts H T vs xs d Q hc h e q=>by
 unfold dS at e;split at e
 .obtain⟨bs,e1,rfl⟩:=RO.mp e
  obtain⟨v,rfl,g⟩:=c9 h;obtain⟨a,vs,rfl,t,r⟩:=g.lst;rw[zwe r e1] at t;exact⟨a,bs,rfl,t,q _ H (.refl _ _) hc (.bl _)⟩
 .cases e⟩
def nH:List Ra->Option Ra
 |[.list xs]=>(kQ xs).map λbs=>.int bs.sum
 |_=>LG
def zwg(hc:autoParam (X.calm=KN) u10):eV X (.builtin "sum") nH:=⟨_,zdy hc,λO ts H T vs xs d Q hc h e q=>by
 unfold nH at e;split at e
 .obtain⟨bs,e1,rfl⟩:=RO.mp e
  obtain⟨v,rfl,g⟩:=c9 h;obtain⟨a,vs,rfl,t,r⟩:=g.lst;rw[zwf r e1] at t;exact⟨a,bs,rfl,t,q _ H (.refl _ _) hc (.int _)⟩
 .cases e⟩
noncomputable def nI:List Ra->Option Ra
 |[.int i]=>if i.natAbs.log2<1920 then Iv (.str (toString i)) else LG
 |_=>LG
def zwh:eV X (.type "str") nI:=⟨_,zby,λO ts H T vs xs d Q hc h e q=>by
 unfold nI at e;split at e
 .split at e
  .rename_i hz
   cases e;obtain⟨v,rfl,g⟩:=c9 h;cases g.int;exact⟨_,rfl,hz,q _ H (.refl _ _) hc (.str _)⟩
  .cases e
 .cases e⟩
noncomputable def b6:List Ra->Option Ra
 |[.list xs]=>Iv (.tuple xs)
 |[.tuple xs]=>Iv (.tuple xs)
 |_=>LG
def dU:eV X (.type "tuple") b6:=⟨_,zuj,λO ts H T vs xs d Q hc h e q=>by
 unfold b6 at e;split at e
 .cases e
  obtain⟨v,rfl,g⟩:=c9 h;obtain⟨a,vs,rfl,t,r⟩:=g.lst;exact⟨a,vs,rfl,.inl ⟨t,λp hp=>q _ _ (.new hp _) (hc.new hp _) (hc.newT hp r)⟩⟩
 .cases e
  obtain⟨v,rfl,g⟩:=c9 h;obtain⟨a,vs,e1,t,r⟩:=g.tup;subst e1;exact⟨a,vs,rfl,.inr ⟨t.sq,q _ H (.refl _ _) hc (.tup t r)⟩⟩
 .cases e⟩
noncomputable def dH:List Ra->Option Ra
 |[.list xs]=>Iv (.list xs)
 |[.tuple xs]=>Iv (.list xs)
 |_=>LG
def mU:eV X (.type "list") dH:=⟨_,zxk,λO ts H T vs xs d Q hc h e q=>by
 unfold dH at e;split at e
 .cases e
  obtain⟨v,rfl,g⟩:=c9 h;obtain⟨a,vs,rfl,t,r⟩:=g.lst;exact⟨a,vs,rfl,.inl t,λp hp=>q _ _ (.new hp _) (hc.new hp _) (hc.newL hp r)⟩
 .cases e
  obtain⟨v,rfl,g⟩:=c9 h;obtain⟨a,vs,rfl,t,r⟩:=g.tup;exact⟨a,vs,rfl,.inr t.sq,λp hp=>q _ _ (.new hp _) (hc.new hp _) (hc.newL hp r)⟩
 .cases e⟩
def zfk:Hb X "str.join" (λx vs H Q=>∃(z:Str) (l:Addr) (ys:List Str),x=.str z/\vs=[.ref l]/\Jr X.K H l (ys.map V.str)/\(ys.map (·.length)).sum+ys.length*z.length<=16777216/\Q (.str (Wc z ys)) H):=by
 intro pins s σ H x vs v us Q I rx rv h;obtain⟨z,l,ys,rfl,rfl,hq,hz,q⟩:=h;obtain⟨t,rfl⟩:=rx;obtain⟨u,rfl,ru⟩:=vals1 rv;cases ru;obtain⟨ED,Kq,pl,_⟩:=I.list hq;refine join_list  pl.isList (by simpa using zeb Kq) hz λt' k=>⟨.str _,H,I.tok _,⟨t',?_⟩,q⟩;show V1 (Builtin.Str.glued z ys) t'=_;rw[StrLaws.glued_eq_join]
def m9:Ra->Ra->Option Ra
 |.str z,.list xs=>match dP xs with
  |some ys=>if (ys.map (·.length)).sum+ys.length*z.length<=16777216 then Iv (.str (Wc z ys)) else LG
  |none=>LG
 |_,_=>LG
def zwi(ho:DE X o fo)(he:DE X e fe)
  (Fx:autoParam (Sa o "join" X.env (eval o X.env)=eval o X.env) u10)
  (C0:autoParam (cQ8 X [e] cpos) u20)
  (JV:autoParam ((apos.endLine == cpos.line)=KN) u10) (IS:autoParam (Rk [e] X.env=(Lf,eval e X.env)::Rk [] X.env) u12) (Eo:autoParam ((R6 cpos (Rk [] X.env)).any (·.1)=Lf) u15) :
  DE X (.Call (.Attribute o "join" apos) [e] [] cpos) (af m9 fo fe):=by
 refine⟨?_⟩;refine bx (jk Ud PySem.F.slot_str_join PySem.F.type_str_join zfk ho.pe (cn he.pe cM IS) Fx C0 JV IS Eo) λσ H Q=>?_;rintro⟨O,ts,ρ,T,w,T',hc,re,e,q⟩;obtain⟨w1,T1,e1,e⟩:=aF e;obtain⟨w2,T2,e2,e⟩:=aF e;obtain⟨x,y,d,h1,h2,h3,rfl,rfl⟩:=gH e;unfold m9 at h3;split at h3
 .rename_i z xs
  split at h3
  .rename_i ys hy
   split at h3
   .rename_i hz
    cases h3;refine⟨O,ts,ρ,T,w1,T1,hc,re,e1,λv1 H1 s1 C3 r1=>?_⟩
    have ev:v1=.str z:=by
     cases w1 with
     |d x=>cases h1;cases (show Rep X.K O H1 v1 _ from r1);rfl
     | tp k=>exact(by
       have KW:(T'[k]?).bind nJ=Iv (RF z):=h1
       cases hk:T'[k]? with
       |none=>simp_all
       |some xs=>
        rw[hk] at KW;have e2:(if Gs xs=KN then LG else Iv (UO xs))=Iv (RF z):=KW
        split at e2 <;> cases e2)
     |loc zs=>cases zs <;> cases h1
    subst ev;refine⟨rfl,O,ts,ρ,T1,w2,T',C3,re.mono hc s1,e2,λv2 H2 s2 JY r2=>?_⟩;obtain⟨a,vs,rfl,t,r⟩:=(JY.view r2 h2).lst;rw[ml r hy] at t;exact⟨z,a,ys,rfl,rfl,t,hz,q _ H2 (s1.trans s2) JY (.str _)⟩
   .cases h3
  .cases h3
 .cases h3
def zfl:DE X (.Dict [] [] pos) (fC (.dict [])):=by
 refine⟨?_⟩;refine bx (zee zur) λσ H Q=>?_;rintro⟨O,ts,ρ,T,w,T',hc,re,e,q⟩;cases e;intro p hp;refine .frz a9 λo=>.done ?_;rw[zae];exact q _ _ (.new hp _) (hc.new hp _) (.dct (hc.fresh hp) a9 .nil)
end
mutual
def kL:Ra->Bool
 |.list _=>Lf
 |.tuple ds=>qm ds
 |.dict kvs=>qo kvs
 |.none | .bool _ | .int _ | .str _=>KN
def qm:List Ra->Bool
 |[]=>KN
 |d::r=>kL d&&qm r
def qo:List (Ra×Ra)->Bool
 |[]=>KN
 |(_,v)::r=>kL v&&qo r
end
section
variable {X:Cx}{pins:List (Addr×Obj)}{σ:L2.St}{H:Hp}{s:Rj}{O:Addr->Prop}
def zfm(e:gM k v=KN):Zz h v (iF k) []:=by
 rcases eM e with⟨i,t,rfl,rfl⟩|⟨x,t,rfl,rfl⟩
 .exact .int i t
 .exact .str x t
mutual
theorem Rep.reads(I:Inv X pins σ H s):∀{v:V}{d:Ra}{u:Re},Rep X.K O H v d->RelV v u->∃as,Zz s.heap u d as/\(kL d=KN->SG∉as)
 |_,_,_,.non,r=>by cases r;exact⟨_,.none,λ_=>by simp⟩
 |_,_,_,.bl b,r=>by cases r;exact⟨_,.bool b,λ_=>by simp⟩
 |_,_,_,.int i,r=>by obtain⟨t,rfl⟩:=r;exact⟨_,.int i t,λ_=>by simp⟩
 |_,_,_,.str x,r=>by obtain⟨t,rfl⟩:=r;exact⟨_,.str x t,λ_=>by simp⟩
 |_,_,_,.tup (a:=a) (vs:=vs) h rs,r=>by
  cases r;obtain⟨ED,rv,⟨o,e,c,n,dd⟩,_⟩:=I.tuple h.sq;obtain⟨as,q,f⟩:=EE.reads I rs rv;exact⟨as,.tuple e c dd (by simpa using q),f⟩
 |_,_,_,.lst (a:=a) (vs:=vs) h rs,r=>by
  cases r;obtain⟨ED,rv,pl,_⟩:=I.list h.sq;obtain⟨o,n,e,c,_,dd⟩:=pl;obtain⟨as,q,f⟩:=EE.reads I rs rv;exact⟨_,.list e c dd (by simpa using q),λz=>by cases z⟩
 |_,_,_,.dct (a:=a) (kvs:=kvs) (ds:=ds) _ h rk,r=>by
  cases r;obtain⟨z,y,vs,kv,o,es,ep,e,ed,dd,_,ek,_⟩:=(show Fs X.prog X.w H s.heap a (.dK kvs) from(I.hok a _ h).2);obtain⟨bs,q1,q2,f⟩:=JU.reads I rk kv ek;refine⟨_,.dict (kvs:=ds) (as:=[]) (bs:=bs) e ed.1 dd q1 q2,λzz hm=>?_⟩
  rcases Ru.mp (by simpa using hm:SG∈a::bs) with q|q
  .rw[q] at y
   simp at y
  .exact f zz q
theorem EE.reads(I:Inv X pins σ H s):∀{vs:List V}{ds:List Ra}{us:List Re},EE X.K O H vs ds->L7 vs us->∃as,XJ s.heap us ds as/\(qm ds=KN->SG∉as)
 |_,_,_,.nil,r=>by cases r;exact⟨_,.nil,λ_=>by simp⟩
 |_,_,_,.cons (d:=d) (ds:=ds) q t,r=>by
  cases r with
  |cons r1 r2=>
   obtain⟨as,h1,f1⟩:=Rep.reads I q r1;obtain⟨bs,h2,f2⟩:=EE.reads I t r2;refine⟨as++bs,.cons h1 h2,λz=>?_⟩;have z':(kL d&&qm ds)=KN:=z;rw[Ro] at z';intro hm
   rcases Ry.mp hm with hm|hm
   .exact f1 z'.1 hm
   .exact f2 z'.2 hm
theorem JU.reads(I:Inv X pins σ H s):∀{kvs:List (Key×V)}{ds:List (Ra×Ra)}{vs:List (Key×Re)}{es:List X9},JU X.K O H kvs ds->KV kvs vs->Pairs (bP X.prog X.w) es vs ->
  ∃bs,XJ s.heap (es.map (·.key)) (ds.map (·.1)) []/\XJ s.heap (es.map (·.val)) (ds.map (·.2)) bs/\(qo ds=KN->SG∉bs)
 |_,_,_,_,.nil,r,ek=>by
  cases r;cases ek;exact⟨[],.nil,.nil,λ_=>by simp⟩
 |_,_,_,_,.cons (k:=k) (d:=d) (ds:=ds) q t,r,ek=>by
  cases r with
  |cons r1 r2=>
   cases ek with
   |cons e1 Gg e2=>
    obtain⟨as,h1,f1⟩:=Rep.reads I q r1.2;obtain⟨bs,h2,h3,f2⟩:=JU.reads I t r2 e2;rw[←Gg] at h1;have k1:=zfm (h:=s.heap) (show gM _ _=KN from e1);rw[←r1.1] at k1;refine⟨as++bs,.cons (as:=[]) (bs:=[]) k1 h2,.cons h1 h3,λz=>?_⟩;have z':(kL d&&qo ds)=KN:=z;rw[Ro] at z';intro hm
    rcases Ry.mp hm with hm|hm
    .exact f1 z'.1 hm
    .exact f2 z'.2 hm
end
end
noncomputable def jo(d:Ra):Bool:=d.showable&&d.leavesShort 200&&decide (d.depth<=60)&&decide (d.weight<=60000)&&(!d.hasDict||kL d)
def shown_fits{d:Ra}(h1:d.leavesShort 200=KN)(h2:d.weight<=60000):d.shown.length<=sizeLine:=by
 have q:=PyData.shown_le 200 (by decide) d h1
 have e:Rp=16777216:=by decide
 omega
section
variable {X:Cx}
def zfn(hr:JL k X.A):Fh X (.builtin "repr") (λxs H Q=>∃O x d,xs=[x]/\Rep X.K O H x d/\jo d=KN/\Q (.str d.shown) H):=by
 intro pins s σ H xs us Q I r h;obtain⟨O,x,d,rfl,rp,hg,q⟩:=h;unfold jo at hg;rw[Ro,Ro,Ro,Ro] at hg;obtain⟨⟨⟨⟨g1,g2⟩,g3⟩,g4⟩,g5⟩:=hg;have g3:=of_decide_eq_true g3;have g4:=of_decide_eq_true g4;obtain⟨u,rfl,ru⟩:=vals1 r;have hz:=shown_fits g2 g4;have fin:∀h' t k',_->EP X pins σ Q _ { s with heap:=h',toks:=k' }:=λh' t k' kk=>⟨.str _,H,I.kept kk,⟨t,rfl⟩,q⟩
 have big:∀a,u=.ref a->RP (RM X.prog X.w) X.A (call _ [u]) _ X.xe s:=λa e=>by
  obtain⟨as,rd,f⟩:=rp.reads I ru;subst e;refine repr_of_reads' rd g1 (λz=>f ?_) hr.gd ?_ (λ_ _ e=>e) (λh' u tk kk=>fin h' u tk kk) hz
  simp_all
  .have h2:=hr.un
   omega
 cases rp with
 |non=>cases ru;exact PySem.P.repr_of_none (fin _ _ _ λ_ _ e=>e)
 |bl b=>cases ru;exact PySem.P.repr_of_bool (fin _ _ _ λ_ _ e=>e)
 |int i=>
  obtain⟨t,rfl⟩:=ru;exact PySem.P.repr_of_int (of_decide_eq_true g1) (fin _ _ _ λ_ _ e=>e)
 |str x=>
  obtain⟨t,rfl⟩:=ru;exact PySem.P.repr_of_str (fin _ _ _ λ_ _ e=>e) hz
 |tup _ _=>exact big _ ru
 |lst _ _=>exact big _ ru
 |dct _ _ _=>exact big _ ru
noncomputable def qz(T:Tp)(w:W):Option (W×Tp):=match w with
 |.d x=>if jo x=KN then Iv (.d (.str x.shown),T) else LG
 |_=>LG
def nr(f:FE):FE:=λρ T=>G5 (f ρ T) λw T1=>qz T1 w
def tM(hr:JL k X.A)(hm:X.mg "repr"=LG)(he:DE X e f)(hg:autoParam (Gl X "repr") u10)(IS:autoParam (Rk [e] X.env=(Lf,eval e X.env)::Rk [] X.env) u12)(Mh:autoParam ((R6 pos (Rk [] X.env)).any (·.1)=Lf) u15) :
  DE X (.Call (.Name "repr" p) [e] [] pos) (nr f):=by
 refine⟨?_⟩;refine bx (lY (zfn hr) hg hm boot_repr (cn he.pe cM IS) (by decide) (by decide) IS Mh) λσ H Q=>?_;rintro⟨O,ts,ρ,T,w,T',hc,re,e,q⟩;obtain⟨w1,T1,e1,e⟩:=aF e;refine⟨O,ts,ρ,T,w1,T1,hc,re,e1,λv1 H1 s1 C3 r1=>?_⟩;unfold qz at e;split at e
 .split at e
  .rename_i x hx
   cases e;exact⟨O,v1,x,rfl,r1,hx,q _ H1 s1 C3 (.str _)⟩
  .cases e
 .cases e
end
structure Df(K:Frag)(name:Str)(st:Stmt):Prop where
 ex:∃(f:Addr) (oc:Re) (od an:Option Addr) (sl:Array (Option Re)) (kV dc pm cd ct:Re),SS K RZ name=Iv (Iv (.ref f)) /\
  K.lookup f=Iv ⟨oc,od,.func (SE name name (eA st) (dm st) (br st) .none kV dc pm an cd ct),sl⟩/\UU K cd name=KN/\Uo K (.ref f)=KN
def Mm{K:Frag}{name:Str}{st:Stmt}{f:Addr}{oc:Re}{od an:Option Addr}{sl:Array (Option Re)}{kV dc pm cd ct:Re}(a:SS K RZ name=Iv (Iv (.ref f)))
  (l:K.lookup f=Iv ⟨oc,od,.func (SE name name (eA st) (dm st) (br st) .none kV dc pm an cd ct),sl⟩) (c:UU K cd name=KN) (k:Uo K (.ref f)=KN):Df K name st:=⟨f,oc,od,an,sl,kV,dc,pm,cd,ct,a,l,c,k⟩
def Df.fn{P:RC}{w:RX}{K:Frag}{mg:Str->Option Re}{base h:Heap}{name:Str}{st:Stmt}{ps:List Str}{k:Nat}{sp:Sp}(d:Df K name st)(X:K.In h)(G:h.Ns RZ mg)
  (hb:∀(kV doc pm:Re) (an:Option Addr) (HG ct:Re) (us:List Re),us.length=ps.length->V2 (SE name name (eA st) (dm st) (br st) .none kV doc pm an HG ct) ⟨us,[]⟩=pure (ps.zip us))
  (ok:∀f fd,Ht K name name st f fd->Ft P w K mg base E4 k f fd ps sp):Fn P w K mg base name ps k sp:=by
 obtain⟨f,oc,od,an,sl,kV,dc,pm,cd,ct,a,l,c,kp⟩:=d.ex;have F:=zuw  l c kp;exact⟨f,_,ok f _ F,F.binds hb,kp,UB X G a⟩
def zfo{P:RC}{w:RX}{K:Frag}{mg:Str->Option Re}{base:Heap}{k n:Nat}{f:Addr}{fd:Ts}{ps:List Str}:Ft P w K mg base E4 k f fd ps (Ms K n λ_ _=>LG):=by
 have no:∀vs H Q E,¬Ms K n (λ_ _=>LG) vs H Q E:=λvs H Q E h=>by
  obtain⟨O,ts,T,ws,x,T',_,_,_,e,_⟩:=h;cases e
 exact⟨λvs H Q E h=>absurd h (no vs H Q E),λA outer s H args us vs Q E _ _ _ _ h=>absurd h (no vs H Q E)⟩
def qw(K:Frag):Sp:=λvs H Q _=>∃(a:Addr) (ns:List Int),vs=[.ref a]/\Jr K H a (ns.map V.int)/\ns.length<=63/\∀H',Q (.bl KN) H'
def cu(ns:List Int):PyData:=.list (ns.map .int)
theorem zwj{K:Frag}{O:Addr->Prop}{H:Hp}:∀ns:List Int,EE K O H (ns.map V.int) (ns.map TB)
 |[]=>.nil
 |_::r=>.cons (.int _) (zwj r)
section
variable {α β:Type}{ρ:XE}{T:Tp}{f g:FE}{c c':FT}{s s':FS}{a:FA}{w w':W}{x y:Ra}
@[simp] theorem cG:G5 (Iv (b,T)) k=k b T:=rfl
@[simp] theorem Pk:G5 LG k=LG:=rfl
@[simp] theorem Pm[Decidable p]:G5 (if p then u else v) k=if p then G5 u k else G5 v k:=by split <;> rfl
@[simp] theorem nA:aI N s ws T=if fB ws=KN then cI (s (ws.map Iv++RQ (N-ws.length) LG) T) else LG:=rfl
@[simp] theorem oT:fB []=KN:=rfl
@[simp] theorem oR:fB (.d x::r)=fB r:=rfl
@[simp] theorem EW:fB (.tp i::r)=fB r:=rfl
@[simp] theorem Iw:cI (Iv ((.rt x,r),T))=Iv (x,T):=rfl
@[simp] theorem Pe:cI (Iv ((.nx,r),T))=Iv (.none,T):=rfl
@[simp] theorem Pf[Decidable p]:cI (if p then u else v)=if p then cI u else cI v:=by split <;> rfl
def fF(s':FS)(p:Fl×XE)(T:Tp):Option ((Fl×XE)×Tp):=match p with
 |(.nx,JT)=>s' JT T
 |(fl,JT)=>Iv ((fl,JT),T)
@[simp] theorem uv:ai s s' ρ T=G5 (s ρ T) (fF s'):=rfl
@[simp] theorem pW:fF s' (.nx,JT) T=s' JT T:=rfl
@[simp] theorem Iu:fF s' (.rt x,JT) T=Iv ((.rt x,JT),T):=rfl
@[simp] theorem Ox:fF s' (.bk,JT) T=Iv ((.bk,JT),T):=rfl
@[simp] theorem Ow:fF s' (.ct,JT) T=Iv ((.ct,JT),T):=rfl
@[simp] theorem OJ:aA ρ T=Iv ((.nx,ρ),T):=rfl
def ifK(s s':FS)(ρ:XE)(b:Bool)(T1:Tp):Option ((Fl×XE)×Tp):=if b=KN then s ρ T1 else s' ρ T1
@[simp] theorem Mk:EI c s s' ρ T=G5 (c ρ T) (ifK s s' ρ):=rfl
@[simp] theorem KJ:ifK s s' ρ b T=if b=KN then s ρ T else s' ρ T:=rfl
noncomputable def B4(ρ:XE):W->Tp->Option ((Fl×XE)×Tp):=λw T1=>match w with
 |.d x=>Iv ((.rt x,ρ),T1)
 |_=>LG
@[simp] theorem PY:aq f ρ T=G5 (f (cC ρ) T) (B4 ρ):=rfl
@[simp] theorem OB:B4 ρ (.d x) T=Iv ((.rt x,ρ),T):=rfl
@[simp] theorem Pd:cC []=[]:=rfl
@[simp] theorem Pa:cC (LG::r)=LG::cC r:=rfl
@[simp] theorem Pc:cC (Iv (.d x)::r)=Iv (.d x)::cC r:=rfl
@[simp] theorem O9:cC (Iv (.tp i)::r)=Iv (.tp i)::cC r:=rfl
@[simp] theorem Pb:cC (Iv (.loc x)::r)=Iv (.d x)::cC r:=rfl
noncomputable def qU(i:Nat)(ρ:XE):W->Tp->Option ((Fl×XE)×Tp):=λw T1=>match w with
 |.d x=>Iv ((.nx,ρ.set i (Iv (.d x))),T1)
 |.tp k=>Iv ((.nx,ρ.set i (Iv (.tp k))),T1)
 |.loc _=>LG
@[simp] theorem KH:aE i f ρ T=G5 (f ρ T) (qU i ρ):=rfl
@[simp] theorem Ou:qU i ρ (.d x) T=Iv ((.nx,ρ.set i (Iv (.d x))),T):=rfl
@[simp] theorem Oq:qU i ρ (.tp k) T=Iv ((.nx,ρ.set i (Iv (.tp k))),T):=rfl
noncomputable def A8(i:Nat)(ρ:XE)(T:Tp):Option (List Ra)->Option ((Fl×XE)×Tp)
 |some xs=>if xs.length<=1000 then Iv ((.nx,ρ.set i (Iv (.loc (.list xs)))),T) else LG
 |none=>LG
@[simp] theorem Os:cj i a ρ T=G5 (a ρ T) λws T1=>A8 i ρ T1 (eI ws):=rfl
@[simp] theorem NC:A8 i ρ T (Iv xs)=if xs.length<=1000 then Iv ((.nx,ρ.set i (Iv (.loc (.list xs)))),T) else LG:=rfl
noncomputable def Cn(i:Nat)(ρ:XE)(x:Ra)(T:Tp)(o:Option (Option W)):Option ((Fl×XE)×Tp):=match o with
 |some (Iv (.loc (.list xs)))=>if xs.length<Rp then Iv ((.nx,ρ.set i (Iv (.loc (.list (xs++[x]))))),T) else LG
 |_=>LG
noncomputable def Cm(i:Nat)(ρ:XE):W->Tp->Option ((Fl×XE)×Tp):=λw T1=>match w with
 | .d x=>(match ρ[i]? with
  |some (Iv (.loc (.list xs)))=>if xs.length<Rp then Iv ((.nx,ρ.set i (Iv (.loc (.list (xs++[x]))))),T1) else LG
  | _=>LG)
 |_=>LG
@[simp] theorem QC:cR i f ρ T=G5 (f ρ T) (Cm i ρ):=rfl
@[simp] theorem Po:Cm i ρ (.d x) T=Cn i ρ x T ρ[i]?:=rfl
@[simp] theorem Pq:Cn i ρ x T (Iv (Iv (.loc (.list xs))))=if xs.length<Rp then Iv ((.nx,ρ.set i (Iv (.loc (.list (xs++[x]))))),T) else LG:=rfl
@[simp] theorem QG:Ig f l u ρ T=G5 (f ρ T) λw T1=>G5 (l ρ T1) λlo T2=>G5 (u ρ T2) λhi T3=>Fg (λx=>mJ x lo hi) T3 w:=rfl
@[simp] theorem P5:bE ρ T=Iv (LG,T):=rfl
noncomputable def pK:W->Tp->Option (Option Int×Tp):=λw T1=>match w with
 |.d (.int i)=>Iv (Iv i,T1)
 |_=>LG
@[simp] theorem Q2:fP f ρ T=G5 (f ρ T) pK:=rfl
@[simp] theorem QH:pK (.d (.int i)) T=Iv (Iv i,T):=rfl
@[simp] theorem PV{z:Str}{lo hi:Option Int}:mJ (.str z) lo hi=if z.length<=Rp then Iv (.str (Sy z lo hi)) else LG:=rfl
@[simp] theorem PU{xs:List Ra}{lo hi:Option Int}:mJ (.tuple xs) lo hi=Iv (.tuple (dM xs lo hi)):=rfl
@[simp] theorem PX{xs:List Ra}{lo hi:Option Int}:mJ (.list xs) lo hi=Iv (.list (dM xs lo hi)):=rfl
@[simp] theorem Oj:aa 0 (Iv o::r) T=Iv (o,T):=rfl
@[simp] theorem N9:aa (i+1) (o::r) T=aa i r T:=rfl
@[simp] theorem Oi:aa 1 (o::r) T=aa 0 r T :=rfl
@[simp] theorem Oh:aa 2 (o::r) T=aa 1 r T :=rfl
@[simp] theorem Og:aa 3 (o::r) T=aa 2 r T :=rfl
@[simp] theorem Of:aa 4 (o::r) T=aa 3 r T :=rfl
@[simp] theorem Oe:aa 5 (o::r) T=aa 4 r T :=rfl
@[simp] theorem Od:aa 6 (o::r) T=aa 5 r T :=rfl
@[simp] theorem Oc:aa 7 (o::r) T=aa 6 r T :=rfl
@[simp] theorem Ob:aa 8 (o::r) T=aa 7 r T :=rfl
@[simp] theorem Oa:aa 9 (o::r) T=aa 8 r T :=rfl
@[simp] theorem Q3:fC x ρ T=Iv (.d x,T):=rfl
@[simp] theorem N8:view T (.d x)=Iv x:=rfl
@[simp] theorem Nz:view T (.tp i)=(T[i]?).bind nJ:=rfl
@[simp] theorem Oy:nJ xs=if Gs xs=KN then LG else Iv (.list xs):=rfl
@[simp] theorem N7:Gs (.list xs::r)=Lf:=rfl
@[simp] theorem NA:view T (.loc (.list xs))=Iv (.list xs):=rfl
@[simp] theorem F2:view T (.loc (.dict xs))=Iv (.dict xs):=rfl
noncomputable def J8(T:Tp)(o:Option Ra):Option (W×Tp):=match o with
 |some d=>Iv (.d d,T)
 |none=>LG
@[simp] theorem Qc:J8 T (Iv x)=Iv (.d x,T):=rfl
@[simp] theorem ON:J8 T LG=LG:=rfl
@[simp] theorem OO[Decidable p]:J8 T (if p then u else v)=if p then J8 T u else J8 T v:=by split <;> rfl
def Ck(o:Ra->Ra->Option Ra)(g:FE)(ρ:XE)(w1:W)(T1:Tp):Option (W×Tp):=G5 (g ρ T1) λw2 T2=>Gc o T2 w1 w2
@[simp] theorem KM:af o f g ρ T=G5 (f ρ T) (Ck o g ρ):=rfl
@[simp] theorem Pn:Ck o g ρ w T=G5 (g ρ T) λw2 T2=>Gc o T2 w w2:=rfl
@[simp] theorem P3:Gc o T (.d x) (.d y)=J8 T (o x y):=rfl
@[simp] theorem OF:Gc o ((.list zs::xs)::r) (.tp 0) (.d y)=J8 ((.list zs::xs)::r) (o (.list (.list zs::xs)) y):=rfl
@[simp] theorem QF:LP o f ρ T=G5 (f ρ T) λw1 T1=>Fg o T1 w1:=rfl
@[simp] theorem P4:Fg o T (.d x)=J8 T (o x):=rfl
@[simp] theorem QB:ID (.d (.bool b))=Iv b:=rfl
def BV:W->Tp->Option (Bool×Tp):=λw T1=>match ID w with
 |some b=>Iv (b,T1)
 |none=>LG
@[simp] theorem PK:ao f ρ T=G5 (f ρ T) BV:=rfl
@[simp] theorem Ol:BV (.d (.bool b)) T=Iv (b,T):=rfl
@[simp] theorem PM:aJ f ρ T=G5 (f ρ T) λw T1=>qT T1 w:=rfl
noncomputable def BW(T:Tp)(o:Option Bool):Option (Bool×Tp):=match o with
 |some b=>Iv (b,T)
 |none=>LG
@[simp] theorem Oo:qT T (.d x)=BW T (qS x):=rfl
@[simp] theorem Om:BW T (Iv b)=Iv (b,T):=rfl
@[simp] theorem On:qS (.bool b)=Iv b:=rfl
def BL(c':FT)(ρ:XE)(b:Bool)(T1:Tp):Option (Bool×Tp):=if b=KN then c' ρ T1 else Iv (Lf,T1)
@[simp] theorem Pt:bv c c' ρ T=G5 (c ρ T) (BL c' ρ):=rfl
@[simp] theorem N4:BL c' ρ b T=if b=KN then c' ρ T else Iv (Lf,T):=rfl
def B8(c':FT)(ρ:XE)(b:Bool)(T1:Tp):Option (Bool×Tp):=if b=KN then Iv (KN,T1) else c' ρ T1
@[simp] theorem P1:bq c c' ρ T=G5 (c ρ T) (B8 c' ρ):=rfl
@[simp] theorem OE:B8 c' ρ b T=if b=KN then Iv (KN,T) else c' ρ T:=rfl
@[simp] theorem OH:bj c ρ T=G5 (c ρ T) λb T1=>Iv (!b,T1):=rfl
@[simp] theorem NB:bz ρ T=Iv (KN,T):=rfl
def Co(g:FE)(ρ:XE)(w:W)(T:Tp):Option (W×Tp):=match ID w with
 |some b=>if b=KN then g ρ T else Iv (.d (.bool Lf),T)
 |none=>LG
@[simp] theorem Pr:bN f g ρ T=G5 (f ρ T) (Co g ρ):=rfl
@[simp] theorem Pu:Co g ρ (.d (.bool b)) T=if b=KN then g ρ T else Iv (.d (.bool Lf),T):=rfl
def orK(g:FE)(ρ:XE)(w:W)(T:Tp):Option (W×Tp):=match ID w with
 |some b=>if b=KN then Iv (.d (.bool KN),T) else g ρ T
 |none=>LG
@[simp] theorem P0:vc f g ρ T=G5 (f ρ T) (orK g ρ):=rfl
@[simp] theorem P2:orK g ρ (.d (.bool b)) T=if b=KN then Iv (.d (.bool KN),T) else g ρ T:=rfl
def Cc(w:W)(T:Tp):Option (W×Tp):=match ID w with
 |some b=>Iv (.d (.bool (!b)),T)
 |none=>LG
@[simp] theorem OG:nv f ρ T=G5 (f ρ T) Cc:=rfl
@[simp] theorem OI:Cc (.d (.bool b)) T=Iv (.d (.bool (!b)),T):=rfl
def Cg(f g:FE)(ρ:XE)(b:Bool)(T1:Tp):Option (W×Tp):=if b=KN then f ρ T1 else g ρ T1
@[simp] theorem Qu:cD c f g ρ T=G5 (c ρ T) (Cg f g ρ):=rfl
@[simp] theorem O8:Cg f g ρ b T=if b=KN then f ρ T else g ρ T:=rfl
def chK(o':Ra->Ra->Option Ra)(h:FE)(ρ:XE)(w2 w:W)(T:Tp):Option (W×Tp):=match ID w with
 |some b=>if b=KN then G5 (h ρ T) λw3 T4=>Gc o' T4 w2 w3 else Iv (.d (.bool Lf),T)
 |none=>LG
@[simp] theorem N2:jh o o' f g h ρ T=G5 (f ρ T) λw1 T1=>G5 (g ρ T1) λw2 T2=>G5 (Gc o T2 w1 w2) (chK o' h ρ w2):=rfl
@[simp] theorem Qz:chK o' h ρ w (.d (.bool b)) T=if b=KN then G5 (h ρ T) λw3 T4=>Gc o' T4 w w3 else Iv (.d (.bool Lf),T):=rfl
@[simp] theorem P6:ah ρ T=Iv ([],T):=rfl
def BE(a:FA)(ρ:XE)(w:W)(T1:Tp):Option (List W×Tp):=G5 (a ρ T1) λws T2=>Iv (w::ws,T2)
@[simp] theorem Ph:ab f a ρ T=G5 (f ρ T) (BE a ρ):=rfl
@[simp] theorem N1:BE a ρ w T=G5 (a ρ T) λws T2=>Iv (w::ws,T2):=rfl
@[simp] theorem Nf:views T []=Iv []:=rfl
noncomputable def nE(x:Ra)(o:Option (List Ra)):Option (List Ra):=match o with
 |some xs=>Iv (x::xs)
 |none=>LG
@[simp] theorem N0:nE x (Iv xs)=Iv (x::xs):=rfl
@[simp] theorem Ny:views T (.d x::r)=nE x (views T r):=rfl
@[simp] theorem Nd:views T (.loc (.list xs)::r)=nE (.list xs) (views T r):=rfl
@[simp] theorem Nx:eI []=Iv []:=rfl
@[simp] theorem NZ:eI (.d x::r)=nE x (eI r):=rfl
noncomputable def sqK(mk:List Ra->Ra)(T:Tp):Option (List Ra)->Option (W×Tp)
 |some xs=>if xs.length<=1000 then Iv (.d (mk xs),T) else LG
 |none=>LG
@[simp] theorem Ov:ax mk a ρ T=G5 (a ρ T) λws T1=>sqK mk T1 (eI ws):=rfl
@[simp] theorem PQ:sqK mk T (Iv xs)=if xs.length<=1000 then Iv (.d (mk xs),T) else LG:=rfl
noncomputable def cbK(o:List Ra->Option Ra)(T:Tp)(v:Option (List Ra)):Option (W×Tp):=match v with
 | some xs=>(match o xs with
  |some d=>Iv (.d d,T)
  | none=>LG)
 |none=>LG
@[simp] theorem QN:Et o a ρ T=G5 (a ρ T) λws T1=>cbK o T1 (views T1 ws):=rfl
@[simp] theorem QA:cbK o T (Iv xs)=J8 T (o xs):=rfl
@[simp] theorem Pj:ak m a ρ T=G5 (a ρ T) λws T1=>G5 (m ws T1) λx T2=>Iv (.d x,T2):=rfl
@[simp] theorem Pi:bC it c f ρ T=G5 (it ρ T) λds T1=>G5 (bK c f ρ ds T1) λys T2=>Iv (.d (.list ys),T2):=rfl
noncomputable def itK(T:Tp)(o:Option (List Ra)):Option (List Ra×Tp):=match o with
 |some xs=>Iv (xs,T)
 |none=>LG
def itW:W->Tp->Option (List Ra×Tp):=λw T1=>match w with
 | .d x=>(match je x with
  |some xs=>Iv (xs,T1)
  | none=>LG)
 |_=>LG
@[simp] theorem O0:bf f ρ T=G5 (f ρ T) itW:=rfl
@[simp] theorem Qq:itW (.d x) T=itK T (je x):=rfl
@[simp] theorem Qr:itK T (Iv xs)=Iv (xs,T):=rfl
@[simp] theorem Nv:je (.list xs)=Iv xs:=rfl
@[simp] theorem Nw:je (.dict ds)=Iv (ds.map (·.1)):=rfl
@[simp] theorem Nr:je (.tuple xs)=Iv xs:=rfl
@[simp] theorem Nu:je (.str z)=if z.length<=Rp then Iv (signs z) else LG:=rfl
def B3:W->Tp->Option (List Ra×Tp):=λw T1=>match w with
 |.d (.int j)=>if mY j=KN then Iv (cN 0 j.toNat,T1) else LG
 |_=>LG
@[simp] theorem OA:d0 f ρ T=G5 (f ρ T) B3:=rfl
@[simp] theorem Oz:B3 (.d (.int j)) T=if mY j=KN then Iv (cN 0 j.toNat,T) else LG:=rfl
@[simp] theorem Qv:cb i it s ρ T=G5 (it ρ T) λds T1=>forL i s ds ρ T1:=rfl
@[simp] theorem PP:eW (.int i) (.int j)=Iv (.int (i-j)):=rfl
@[simp] theorem Qb:cy (.int i) (.int j)=if 0<j then Iv (.int (i % j)) else LG:=rfl
@[simp] theorem PZ:iE (.int i) (.int j)=if 0<=j/\j<=1000000/\i.natAbs<2^64 then Iv (.int (i^j.toNat)) else LG:=rfl
@[simp] theorem QI:Eh (.int i) (.int j)=Iv (.bool (decide (i<j))):=rfl
@[simp] theorem QJ:Dq (.int i) (.int j)=Iv (.bool (decide (i<=j))):=rfl
@[simp] theorem QL:FU (.int i) (.int j)=Iv (.bool (decide (j<i))):=rfl
@[simp] theorem QM:M6 (.int i) (.int j)=Iv (.bool (decide (j<=i))):=rfl
@[simp] theorem Py:aP (.int i) (.int j)=Iv (.int (i+j)):=rfl
@[simp] theorem Pw:aP (.str u) (.str v)=if u.length+v.length<=Rp then Iv (.str (u++v)) else LG:=rfl
@[simp] theorem Pv:aP (.tuple u) (.tuple v)=if u.length+v.length<=Rp then Iv (.tuple (u++v)) else LG:=rfl
@[simp] theorem Px:aP (.list u) (.list v)=if u.length+v.length<=Rp then Iv (.list (u++v)) else LG:=rfl
@[simp] theorem OM:cB (.int i) (.int j)=if (-(2^64)<i/\i<2^64)\/(-(2^64)<j/\j<2^64) then Iv (.int (i*j)) else LG:=rfl
@[simp] theorem OL:cB (.str z) (.int k)=if 0<=k/\k<=2000/\z.length<=1000 then Iv (.str (Uu z k)) else LG:=rfl
@[simp] theorem Qx:CP (.int i) (.int j)=Iv (.bool (decide (i=j))):=rfl
@[simp] theorem Qw:CP (.str i) (.str j)=Iv (.bool (decide (i=j))):=rfl
@[simp] theorem Qy:CP (.bool i) (.bool j)=Iv (.bool (decide (i=j))):=rfl
@[simp] theorem P9:DN (.int i) (.int j)=Iv (.bool (!decide (i=j))):=rfl
@[simp] theorem P8:DN (.str i) (.str j)=Iv (.bool (!decide (i=j))):=rfl
@[simp] theorem Qa:DN (.bool i) (.bool j)=Iv (.bool (!decide (i=j))):=rfl
@[simp] theorem QK:Kt x .none=Iv (.bool (isNone x)) :=rfl
@[simp] theorem NX:mP (.bool i) (.bool j)=Iv (.bool (i != j)):=rfl
@[simp] theorem P7:bS (.int i)=Iv (.int (-i)):=rfl
@[simp] theorem Qs:aW k x=Iv (.bool (bo (kd x) k)):=rfl
@[simp] theorem Qp:HN (.list xs) (.int i)=L1 xs i:=rfl
@[simp] theorem Qm:HN (.tuple xs) (.int i)=L1 xs i:=rfl
@[simp] theorem Qn:HN (.str z) (.int i)=if z.length<=Rp then (L1 z.cps.toList i).map (λc=>.str ⟨#[c]⟩) else LG:=rfl
@[simp] theorem OS:aR [.list xs]=Iv (.int xs.length):=rfl
@[simp] theorem OQ:aR [.tuple xs]=Iv (.int xs.length):=rfl
@[simp] theorem OR:aR [.str z]=if z.length<=Rp then Iv (.int z.length) else LG:=rfl
@[simp] theorem QE:nX [.int i]=Iv (.int (if i<0 then -i else i)):=rfl
@[simp] theorem Nh:b6 [.list xs]=Iv (.tuple xs):=rfl
@[simp] theorem Ng:b6 [.tuple xs]=Iv (.tuple xs):=rfl
@[simp] theorem NN:dH [.list xs]=Iv (.list xs):=rfl
@[simp] theorem NM:dH [.tuple xs]=Iv (.list xs):=rfl
@[simp] theorem Qh:kd (.int i)=.int:=rfl
@[simp] theorem Qj:kd (.bool i)=.bl:=rfl
@[simp] theorem Qe:kd (.str i)=.str:=rfl
@[simp] theorem Qd:kd (.tuple i)=.tup:=rfl
@[simp] theorem Qg:kd (.list i)=.lst:=rfl
@[simp] theorem Qi:kd (.dict i)=.dct:=rfl
@[simp] theorem Qf:kd .none=.non:=rfl
end
theorem Fc{α:Type}{a b c:α}:L1 [a,b,c] 1=Iv b:=rfl
theorem Ks:L5 3 2=Iv 2:=rfl
theorem en{e:FE}{ρ:XE}{T:Tp}{g:Ra->Ra}:∀{ds:List Ra},(∀d∈ds,e (Iv (.d d)::ρ) T=Iv (.d (g d),T))->bK bz e ρ ds T=Iv (ds.map g,T)
 |[],_=>rfl
 |d::r,h=>by
  have ih:=en  λx hx=>h x (Rc _ hx);have h0:=h d Rf
  unfold bK<;>simp_all
theorem lC:∀{ds:List Ra},(∀d∈ds,c (Iv (.d d)::ρ) T=Iv (p d,T))->bK c (aa 0) ρ ds T=Iv (ds.filter p,T)
 |[],_=>rfl
 |d::r,h=>by
  have ih:=lC  λx hx=>h x (Rc _ hx);have h0:=h d Rf;unfold bK
  cases hp:p d <;>simp_all
theorem zwk{e:FE}{ρ:XE}{P:Tp->Prop}{Q:Ra->Prop}:∀{ds:List Ra}{T:Tp},P T->(∀d∈ds,∀T,P T->∃y T',e (Iv (.d d)::ρ) T=Iv (.d y,T')/\P T'/\Q y)->∃ys T',bK bz e ρ ds T=Iv (ys,T')/\P T'/\ys.length=ds.length/\∀y∈ys,Q y
 |[],T,p,_=>⟨[],T,rfl,p,rfl,λy hy=>by cases hy⟩
 |d::r,T,p,h=>by
  obtain⟨y,T1,e1,p1,q1⟩:=h d Rf T p;obtain⟨ys,T2,e2,p2,l2,q2⟩:=zwk  p1 λx hx=>h x (Rc _ hx);refine⟨y::ys,T2,?_,p2,by simp[l2],λz hz=>?_⟩
  .unfold bK<;>simp_all
  .grind
theorem zwl{α:Type}(p:α->Bool):∀l:List α,kF (l.map λd=>.bool (p d))=Iv (l.map p)
 |[]=>rfl
 |d::r=>by
  show (kF _).map _=_;rw[zwl p r];rfl
theorem zwm{α:Type}(p:α->Int):∀l:List α,kQ (l.map λd=>.int (p d))=Iv (l.map p)
 |[]=>rfl
 |d::r=>by
  show (kQ _).map _=_;rw[zwm p r];rfl
theorem jN{α:Type}(p:α->Str):∀l:List α,dP (l.map λd=>.str (p d))=Iv (l.map p)
 |[]=>rfl
 |d::r=>by
  show (dP _).map _=_;rw[jN p r];rfl
@[simp] theorem QD{α:Type}(p:α->Bool)(l:List α):dS [.list (l.map λd=>.bool (p d))]=Iv (.bool (l.all p)):=by
 show (kF _).map _=_;rw[zwl,Yv,ZP];rfl
@[simp] theorem PN{α:Type}(p:α->Int)(l:List α):nH [.list (l.map λd=>.int (p d))]=Iv (.int (l.map p).sum):=by
 show (kQ _).map _=_;rw[zwm,Yv]
def ua(y:Str):Ra->Bool
 |.str z=>jy y z
 |_=>Lf
def zwn(y:Str)(c:Nat):jy y ⟨#[c]⟩=decide (c∈y.cps.toList):=StrLaws.found_one ..
@[simp] theorem Qt:inD (.str x) (.str y)=Iv (.bool (jy y x)):=rfl
def zfp(h:d∈D.signs x):∃c,c∈x.cps.toList/\d=.str ⟨#[c]⟩:=by
 obtain⟨c,hc,rfl⟩:=Rl.mp h;exact⟨c,hc,rfl⟩
section
variable {X:Cx}
def zfq:Hb X "str.startswith" (λx vs H Q=>∃z y:Str,x=.str z/\vs=[.str y]/\Q (.bl (Ti z y)) H):=by
 intro pins s σ H x vs v us Q I rx rv h;obtain⟨z,y,rfl,rfl,q⟩:=h;obtain⟨t,rfl⟩:=rx;obtain⟨u,rfl,ru⟩:=vals1 rv;obtain⟨t',rfl⟩:=ru;exact call_gives Vm (Vb _ _ _) PySem.F.entry_str_startswith (PySem.F.args_str_startswith_2 _ _) (gives_str_startswith z y t t') ⟨.bl _,H,I,rfl,q⟩
noncomputable def hJ:Ra->Ra->Option Ra
 |.str z,.str y=>Iv (.bool (Ti z y))
 |_,_=>LG
def su(h:view T w=Iv (.str z)):w=.d (.str z):=by
 cases w with
 |d x=>simp_all
 |tp k=>
  cases hk:T[k]? <;>simp_all
 |loc zs=>cases zs <;> cases h
def r9(ho:DE X o fo)(he:DE X e fe)
  (Fx:autoParam (Sa o "startswith" X.env (eval o X.env)=eval o X.env) u10)
  (C0:autoParam (cQ8 X [e] cpos) u20)
  (JV:autoParam ((apos.endLine == cpos.line)=KN) u10) (IS:autoParam (Rk [e] X.env=(Lf,eval e X.env)::Rk [] X.env) u12) (Eo:autoParam ((R6 cpos (Rk [] X.env)).any (·.1)=Lf) u15) :
  DE X (.Call (.Attribute o "startswith" apos) [e] [] cpos) (af hJ fo fe):=by
 refine⟨?_⟩;refine bx (jk Ud Vm PySem.F.type_str_startswith zfq ho.pe (cn he.pe cM IS) Fx C0 JV IS Eo) λσ H Q=>?_;rintro⟨O,ts,ρ,T,w,T',hc,re,e,q⟩;obtain⟨w1,T1,e1,e⟩:=aF e;obtain⟨w2,T2,e2,e⟩:=aF e;obtain⟨x,y,d,h1,h2,h3,rfl,rfl⟩:=gH e;unfold hJ at h3;split at h3
 .rename_i z y
  cases h3;have ew:=su h1;subst ew;refine⟨O,ts,ρ,T,_,T1,hc,re,e1,λv1 H1 s1 C3 r1=>?_⟩;cases (r1);refine⟨rfl,O,ts,ρ,T1,w2,T',C3,re.mono hc s1,e2,λv2 H2 s2 JY r2=>?_⟩;cases (JY.view r2 h2).str;exact⟨z,_,rfl,rfl,q _ H2 (s1.trans s2) JY (.bl _)⟩
 .cases h3
def zfr:Fh X (.type "int") (λxs H Q=>∃x n,xs=[.str x]/\WX x=Iv n/\x.length<=640/\Q (.int n) H):=by
 intro pins s σ H xs us Q I r h;obtain⟨x,n,rfl,hn,hl,q⟩:=h;obtain⟨u,rfl,ru⟩:=vals1 r;obtain⟨t,rfl⟩:=ru;exact PySem.W.KIN.call_text hn hl ⟨.int n,H,I.tok _,⟨_,rfl⟩,q⟩
noncomputable def intD:List Ra->Option Ra
 |[.int i]=>Iv (.int i)
 |[.bool b]=>Iv (.int (if b then 1 else 0))
 |[.str x]=>if x.length<=640 then (WX x).map .int else LG
 |_=>LG
def gn:eV X (.type "int") intD:=⟨_,zxf.or zfr,λO ts H T vs xs d Q hc h e q=>by
 unfold intD at e;split at e
 .cases e
  obtain⟨v,rfl,g⟩:=c9 h;cases g.int;exact .inl (.inl ⟨_,rfl,q _ H (.refl _ _) hc (.int _)⟩)
 .cases e
  obtain⟨v,rfl,g⟩:=c9 h;cases g.bl;exact .inl (.inr ⟨_,rfl,q _ H (.refl _ _) hc (.int _)⟩)
 .split at e
  .rename_i hz
   obtain⟨n,e1,rfl⟩:=RO.mp e;obtain⟨v,rfl,g⟩:=c9 h;cases g.str;exact .inr ⟨_,n,rfl,e1,hz,q _ H (.refl _ _) hc (.int _)⟩
  .cases e
 .cases e⟩
end
@[simp] theorem Ni:hJ (.str z) (.str y)=Iv (.bool (Ti z y)):=rfl
@[simp] theorem O4:intD [.str x]=if x.length<=640 then (WX x).map .int else LG:=rfl
@[simp] theorem O5:intD [.int i]=Iv (.int i):=rfl
@[simp] theorem O6:intD [.bool b]=Iv (.int (if b then 1 else 0)):=rfl
def Mr(x y:Ra):Option PyData:=if RE x=KN/\RE y=KN then Iv (.bool (RR x y)) else LG
noncomputable def Ec(x y:Ra):Option PyData:=if RE x=KN/\RE y=KN then Iv (.bool (!PyData.eqv x y)) else LG
section
variable {X:Cx}{pos:Pos}{e:Expr}{f:FE}{x:Str}{p:Pos}{B:List (Str×Int)}
theorem Vw.reads(I:Inv X pins σ H s)(h:Vw X.K O H v d)(r:RelV v u):∃as,Zz s.heap u d as:=by
 cases h with
 |rep h=>obtain⟨as,rd,_⟩:=h.reads I r;exact⟨as,rd⟩
 |raw h hs=>
  cases r;obtain⟨ED,rv,pl,_⟩:=I.list (Jr.of h);obtain⟨o,n,e,c,_,dd⟩:=pl;obtain⟨as,rd,_⟩:=hs.reads I rv;exact⟨_,.list e c dd (by omega)⟩
 |rawD h rk=>
  cases r;obtain⟨z,y,vs,kv,o,es,ep,e,ed,dd,_,ek,_⟩:=(I.hok _ _ h);obtain⟨bs,q1,q2,f⟩:=JU.reads I rk kv ek;exact⟨_,.dict   e ed.1 dd q1 q2⟩
def zfs(hr:JL k X.A):Fo X (RB .Eq) (λx y H Q=>∃O d1 d2,Vw X.K O H x d1/\Vw X.K O H y d2/\RE d1=KN/\RE d2=KN/\Q (.bl (RR d1 d2)) H):=by
 intro pins s σ H x y v u Q I rx ry h;obtain⟨O,d1,d2,h1,h2,s1,s2,q⟩:=h;obtain⟨as,r1⟩:=h1.reads I rx;obtain⟨bs,r2⟩:=h2.reads I ry;exact SeqAt.compareEq_shaped r1 r2 s1 s2 (by have:=hr.un;lia) ⟨.bl _,H,I,rfl,q⟩
def zft(hr:JL k X.A):Fo X (RB .NotEq) (λx y H Q=>∃O d1 d2,Vw X.K O H x d1/\Vw X.K O H y d2/\RE d1=KN/\RE d2=KN/\Q (.bl (!PyData.eqv d1 d2)) H):=by
 intro pins s σ H x y v u Q I rx ry h;obtain⟨O,d1,d2,h1,h2,s1,s2,q⟩:=h;obtain⟨as,r1⟩:=h1.reads I rx;obtain⟨bs,r2⟩:=h2.reads I ry;exact SeqAt.compareNe_shaped r1 r2 s1 s2 (by have:=hr.un;omega) ⟨.bl _,H,I,rfl,q⟩
def gK(hr:JL k X.A):HE X (RB .Eq) Mr:=⟨_,zfs hr,λO ts H T v1 v2 x y d Q hc h1 h2 e q=>by
 unfold Mr at e;split at e
 .rename_i h
  cases e;exact⟨O,x,y,h1,h2,h.1,h.2,q _ H (.refl _ _) hc (.bl _)⟩
 .cases e⟩
def zwo(hr:JL k X.A):HE X (RB .NotEq) Ec:=⟨_,zft hr,λO ts H T v1 v2 x y d Q hc h1 h2 e q=>by
 unfold Ec at e;split at e
 .rename_i h
  cases e;exact⟨O,x,y,h1,h2,h.1,h.2,q _ H (.refl _ _) hc (.bl _)⟩
 .cases e⟩
open Classical in
def jz(h:Heap)(x:Ra)(v:Re):Bool:=if e:∃p:Ra×List Addr,Zz h v p.1 p.2 then RR e.choose.1 x else Lf
def tL{h:Heap}{x d:Ra}{v:Re}{as:List Addr}(r:Zz h v d as):jz h x v=RR d x:=by
 have e:∃p:Ra×List Addr,Zz h v p.1 p.2:=⟨(d,as),r⟩;unfold jz;rw[dif_pos e];have:=(PySem.Reads.unique e.choose_spec d as r).1;rw[this]
theorem sP{h:Heap}{x:Ra}:∀{vs:List Re}{ds:List Ra}{as:List Addr},XJ h vs ds as->vs.any (jz h x)=ds.any λd=>RR d x
 |_,_,_,.nil=>rfl
 |_,_,_,.cons r rs=>by rw[Uj,Uj,tL r,sP rs]
theorem readsAll_mem:∀{vs:List Re}{ds:List Ra}{as:List Addr}{v:Re},XJ h vs ds as->v∈vs->∃d bs,d∈ds/\Zz h v d bs
 |_,_,_,_,.cons r rs,hm=>by
  rcases Ru.mp hm with z|z
  .subst z;exact⟨_,_,Rf,r⟩
  .obtain⟨d,bs,h1,h2⟩:=readsAll_mem rs z
   exact⟨d,bs,Rc _ h1,h2⟩
noncomputable def HQ:Ra->Ra->Option Ra
 |x,.tuple ys=>if RE x=KN/\ys.all RE=KN then Iv (.bool (ys.any λy=>RR y x)) else LG
 |_,_=>LG
def zfu(hr:JL k X.A):Fo X (RB .In) (λx y H Q=>∃O d1 a vs ds,Vw X.K O H x d1/\y=.ref a/\Fy X.K H a vs/\EE X.K O H vs ds/\RE d1=KN/\ds.all RE=KN/\Q (.bl (ds.any λy=>RR y d1)) H):=by
 intro pins s σ H x y v u Q I rx ry h;obtain⟨O,d1,a,vs,ds,h1,rfl,h2,h3,s1,s2,q⟩:=h;cases ry;obtain⟨as,r1⟩:=h1.reads I rx;obtain⟨ED,rv,p1,_⟩:=I.tuple h2;obtain⟨bs,r2,_⟩:=h3.reads I rv;refine X7 (jz s.heap d1) p1 (λy hy=>?_) ?_
 .obtain⟨d,cs,hd,rd⟩:=readsAll_mem r2 (by simpa using hy)
  rw[tL rd];have sd:=Rq.mp s2 d hd;refine Yd d d1 _ s y v _ _ rd r1 (Ue sd) (Ue s1) (WY sd ?_)
  have:=hr.un<;>grind
 .have e:ED.toArray.any (jz s.heap d1)=ds.any λy=>RR y d1:=by
   rw[←sP r2];simp
  rw[e];exact⟨.bl _,H,I,rfl,q⟩
def zfv(hr:JL k X.A):HE X (RB .In) HQ:=⟨_,zfu hr,λO ts H T v1 v2 x y d Q hc h1 h2 e q=>by
 unfold HQ at e;split at e
 .split at e
  .rename_i h
   cases e;obtain⟨a,vs,rfl,t,r⟩:=h2.tup;exact⟨O,x,a,vs,_,h1,rfl,t.sq,r,h.1,h.2,q _ H (.refl _ _) hc (.bl _)⟩
  .cases e
 .cases e⟩
noncomputable def pM:List Re->List Str->Bool
 |[],[]=>KN
 |.str x _::r,y::s=>decide (x=y)&&pM r s
 |_,_=>Lf
def mj(look:Addr->Option Obj)(a:Addr)(ss:List Str):Bool:=match look a with
 |some ⟨.type n,_,.seq ED _,_⟩=>decide (n="tuple")&&pM ED.toList ss
 |_=>Lf
def Cp(K:Frag)(mg:Str->Option Re)(x:Str)(ss:List Str):Prop:=∃a,mg x=Iv (.ref a)/\mj (λb=>K.lookup b) a ss=KN
theorem zwp:∀{vs:List Re}{ss:List Str},pM vs ss=KN->L7 (ss.map V.str) vs
 |[],[],_=>.nil
 |.str x t::r,y::s,h=>by
  have h':(decide _&&pM r s)=KN:=h;rw[Ro] at h';exact .cons ⟨t,by simp_all⟩ (zwp h'.2)
theorem lQ{K:Frag}{O:Addr->Prop}{H:Hp}:∀ss:List Str,EE K O H (ss.map V.str) (ss.map RF)
 |[]=>.nil
 |x::r=>.cons (.str x) (lQ r)
def zfw(hg:Gl X x)(ht:Cp X.K X.mg x ss)(hz:autoParam (ss.length<=sizeLine) u11)(hd:autoParam ((x == ("__debug__" : Str))=Lf) u11):DE X (.Name x p) (fC (.tuple (ss.map RF))):=by
 obtain⟨a,hx,hl⟩:=ht;refine⟨?_⟩;refine bx (pT (v:=.ref a) hg hx rfl hd) (ig λO H=>?_);unfold mj at hl;split at hl
 .rename_i n dd ED c sl hk
  rw[Ro] at hl;have rv:=zwp hl.2;have hn:=of_decide_eq_true hl.1;subst hn;refine .tup  (.inr (.inr ⟨_,ED,c,hk,rfl,rfl,?_,rv⟩)) (lQ ss)
  have:=rv.length<;>simp_all
 .cases hl
noncomputable def lj:Ra->Ra->Option Ra
 |x,.list ys=>if RE x=KN/\ys.all RE=KN then Iv (.bool (!ys.any λy=>RR y x)) else LG
 |_,_=>LG
def zfx(hr:JL k X.A):Fo X (RB .NotIn) (λx y H Q=>∃O d1 a vs ds,Vw X.K O H x d1/\y=.ref a/\Jr X.K H a vs/\EE X.K O H vs ds/\RE d1=KN/\ds.all RE=KN/\Q (.bl (!ds.any λy=>RR y d1)) H):=by
 intro pins s σ H x y v u Q I rx ry h;obtain⟨O,d1,a,vs,ds,h1,rfl,h2,h3,s1,s2,q⟩:=h;cases ry;obtain⟨as,r1⟩:=h1.reads I rx;obtain⟨ED,rv,p1,_⟩:=I.list h2;obtain⟨bs,r2,_⟩:=h3.reads I rv;refine Xr (jz s.heap d1) p1.isList (λy hy=>?_) ?_
 .obtain⟨d,cs,hd,rd⟩:=readsAll_mem r2 (by simpa using hy)
  rw[tL rd];have sd:=Rq.mp s2 d hd;refine Yd d d1 _ s y v _ _ rd r1 (Ue sd) (Ue s1) (WY sd ?_)
  have:=hr.un<;>grind
 .have e:ED.toArray.any (jz s.heap d1)=ds.any λy=>RR y d1:=by
   rw[←sP r2];simp
  rw[e];exact⟨.bl _,H,I,rfl,q⟩
def zfy(hr:JL k X.A):HE X (RB .NotIn) lj:=⟨_,zfx hr,λO ts H T v1 v2 x y d Q hc h1 h2 e q=>by
 unfold lj at e;split at e
 .split at e
  .rename_i h
   cases e;obtain⟨a,vs,rfl,t,r⟩:=h2.lst;exact⟨O,x,a,vs,_,h1,rfl,t,r,h.1,h.2,q _ H (.refl _ _) hc (.bl _)⟩
  .cases e
 .cases e⟩
def BU(o:Obj)(ss:List Str):Bool:=mj (λ_=>Iv o) 0 ss
def zfz{K:Frag}(h:K.lookup a=Iv o)(g:BU o ss=KN):mj (λb=>K.lookup b) a ss=KN:=by
 unfold mj;dsimp only;rw[h];exact g
end
mutual
def bh:Ra->Bool
 |.tuple ds=>bR ds
 |.list _=>Lf
 |.dict _=>Lf
 |_=>KN
def bR:List Ra->Bool
 |[]=>KN
 |d::r=>bh d&&bR r
end
section
variable {K:Frag}{O:Addr->Prop}{H:Hp}
def TupAt.own(hm:∀b,O b->Mn (H b))(t:TupAt K (λ_=>False) H a vs):TupAt K O H a vs:=by
 rcases t with⟨_,t⟩|t
 .refine .inl ⟨λz=>?_,t⟩
  rcases hm a z with⟨us,e⟩|⟨us,e⟩|⟨C,dx,us,e⟩ <;> rcases t with t|⟨o,t⟩ <;> (simp_all)
 .exact .inr t
mutual
theorem Rep.own(hm:∀b,O b->Mn (H b)):∀{v:V}{d:Ra},Rep K (λ_=>False) H v d->bh d=KN->Rep K O H v d
 |_,_,.non,_=>.non
 |_,_,.bl b,_=>.bl b
 |_,_,.int i,_=>.int i
 |_,_,.str x,_=>.str x
 |_,_,.tup t r,h=>.tup (t.own hm) (EE.own hm r (by simpa[bh] using h))
 |_,_,.lst t r,h=>by simp[bh] at h
 |_,_,.dct n t r,h=>by simp[bh] at h
theorem EE.own(hm:∀b,O b->Mn (H b)):∀{vs:List V}{ds:List Ra},EE K (λ_=>False) H vs ds->bR ds=KN->EE K O H vs ds
 |_,_,.nil,_=>.nil
 |_,_,.cons (d:=d) (ds:=ds) r t,h=>by
  have h':(bh d&&bR ds)=KN:=by simpa[bR] using h
  rw[Ro] at h';exact .cons (Rep.own hm r h'.1) (EE.own hm t h'.2)
end
end
noncomputable def nN:List W->Bool
 |[]=>KN
 |.tp _::_=>Lf
 |.loc (.dict _)::_=>Lf
 |_::r=>nN r
theorem u6{K:Frag}{O:Addr->Prop}{ts:List Addr}{H:Hp}:∀{vs:List V}{ws:List W},iD K O ts H vs ws->nN ws=KN->iD K (λ_=>False) [] H vs (ws.map lm)
 |_,[],.nil,_=>.nil
 |_,.d x::r,.cons h t,e=>.cons (Rep.mono (λa o n e=>⟨λz=>z,e⟩) h) (u6 t e)
 |_,.tp _::_,.cons _ _,e=>by cases e
 |_,.loc x::r,.cons h t,e=>by
  have le:Le O H _ H:=λa o n e=>⟨λz=>z,e⟩;obtain⟨a,rfl,_,_,h3⟩:=h
  cases x with
  |list xs=>obtain⟨vs,h1,h2⟩:=h3;exact .cons (.lst (.inl ⟨λz=>z,.inl h1⟩) (h2.mono le)) (u6 t e)
  |dict xs=>cases e
  |_=>cases h3
def fZ(m:Hl)(g:FA):FE:=λρ T=>G5 (g ρ T) λws T1=>if nN ws=KN then (match m (ws.map lm) [] with
 |some (x,_)=>if bh x=KN then Iv (.d x,T1) else LG
 | none=>LG) else LG
def pF(F:Fn X.prog X.w X.K X.mg X.base name ps k (Ms X.K ps.length m))(hr:JL k X.A)(hg:Gl X name)(ha:DA X (e::es) g)(hl:lu g ps.length)(E2:autoParam ((name == ("__debug__" : Str))=Lf) u11)
  (he:autoParam (Rk (e::es) X.env=(Lf,eval e X.env)::Rk es X.env) u12) (Mh:autoParam ((R6 pos (Rk es X.env)).any (·.1)=Lf) u15):DE X (.Call (.Name name p) (e::es) [] pos) (fZ m g):=by
 refine⟨?_⟩;refine bx (uM F hr hg ha.pe E2 he Mh) λσ H Q=>?_;rintro⟨O,ts,ρ,T,w,T',hc,re,e,q⟩;obtain⟨ws,T1,e1,e⟩:=aF e;split at e
 .rename_i hn
  split at e
  .rename_i x T2 e2
   split at e
   .rename_i hx
    cases e;refine⟨O,ts,ρ,T,ws,_,hc,re,e1,λvs H1 s1 C3 r1=>?_⟩;refine⟨λ_=>False,[],[],ws.map lm,x,T2,⟨λb hb=>(by simp_all),λb hb=>hb.elim,UY,rfl,λi a xs e1 _=>by simp at e1⟩,by rw[TH];exact u6 r1 hn,by rw[R4];exact hl _ _ _ _ e1,e2,λv H2 s2 JY r2=>?_⟩;have La:F7 ts H1 H2:=λb o _ q=>s2 b o (by simp) q
    have hm:=λb hb=>by
     exact(C3.trk b hb).to λu z=>s2 b _ (by simp) z
    have w6:=C3.step La λb hb=>by
     obtain⟨u,z⟩:=(C3.trk b (C3.own b hb)).ex;rw[z];exact s2 b _ (by simp) z
    exact q v H2 (s1.trans La) w6 (Rep.own hm r2 hx)
   .cases e
  .cases e
 .cases e
noncomputable def aj(ds:List (Ra×Ra))(s:Str):Option PyData:=match ds with
 |[]=>LG
 |(.str k,d)::r=>if k=s then Iv d else aj r s
 |_::r=>aj r s
theorem fW{K:Frag}{O:Addr->Prop}{H:Hp}{s:Str}:∀{kvs:List (Key×V)}{ds:List (Ra×Ra)},JU K O H kvs ds->(aj ds s=LG/\bT kvs (Sb s:Key)=LG)\/∃v d,aj ds s=Iv d/\bT kvs (Sb s:Key)=Iv v/\Rep K O H v d
 |_,_,.nil=>.inl ⟨rfl,rfl⟩
 |_,_,.cons (k:=.inl i) (v:=v)  (kvs:=kvs) (ds:=ds) r t=>by
  have e:bT (((Xt i),v)::kvs) (Sb s)=bT kvs (Sb s):=rfl;rw[e];show (aj ds s=LG/\_)\/∃v d,aj ds s=Iv d/\_;exact fW  t
 |_,_,.cons (k:=.inr k) (v:=v) (d:=d) (kvs:=kvs) (ds:=ds) r t=>by
  by_cases hk:k=s
  .subst hk
   exact .inr ⟨v,d,by show (if k=k then Iv d else aj ds k)=Iv d<;>simp_all,by simp[bT],r⟩
  .have e:bT (((Sb k),v)::kvs) (Sb s)=bT kvs (Sb s):=by simp[bT,hk]
   have e2:aj ((iF (Sb k),d)::ds) s=aj ds s:=by show (if k=s then Iv d else aj ds s)=_<;>simp_all
   rw[e,e2];exact fW  t
def Hz.rd{H:Hp}{a:Addr}{kvs:List (Key×V)}{k:Key}(e:Rd H a (.dK kvs)):Hz H a (kV k) (bT kvs k):=.inl ⟨kvs,k,e,rfl,rfl⟩
def kS:Ra->Ra->Option Ra
 |.str s,.dict ds=>Iv (.bool (aj ds s).isSome)
 |_,_=>LG
def eU:Ra->Ra->Option Ra
 |.dict ds,.str s=>aj ds s
 |_,_=>LG
section
variable {X:Cx}{pos:Pos}{k:Nat}{K:Frag}{Cz:Addr->Prop}{H₀:Hp}{F:List ((Addr->Prop)×Hp)}{ts:List Addr}{O:Addr->Prop}{H H1:Hp}{σ:L2.St}{ρ:XE}{T T1:Tp}
def gN(hr:JL k A):A.units+1<cLine:=by have:=hr.un;lia
def zga(hr:JL k X.A)(ha:DE X a f)(hb:DE X b g)(h1:autoParam (Tf .In b=Lf) u25):DT X (.Compare a [.In] [b] pos) (ao (af kS f g)):=by
 refine⟨?_⟩;refine mL (zam (zde (gN hr) ha.pe hb.pe) h1) λσ H Q h=>?_;have h:=pJ h;revert h;rintro⟨O,ts,ρ,T,w,T',hc,re,e,q⟩;obtain⟨w1,T1,e1,e⟩:=aF e;obtain⟨w2,T2,e2,e⟩:=aF e;obtain⟨x,y,d,h1,h2,h3,rfl,rfl⟩:=gH e;refine⟨O,ts,ρ,T,w1,T1,hc,re,e1,λv1 H1 s1 C3 r1=>?_⟩;refine⟨O,ts,ρ,T1,w2,T',C3,re.mono hc s1,e2,λv2 H2 s2 JY r2=>?_⟩;have k1:=JY.view (r1.mono C3 s2) h1;have k2:=JY.view r2 h2;unfold kS at h3;split at h3
 .rename_i s ds
  cases h3;cases k1.str;obtain⟨a,kvs,rfl,t,r⟩:=k2.dct;refine⟨a,_,rfl,Hz.rd (k:=Sb s) t,?_⟩
  have e:(bT kvs (Sb s)).isSome=(aj ds s).isSome:=by
   rcases fW  r with⟨z1,z2⟩|⟨v,d,z1,z2,_⟩ <;> rw[z1,z2] <;> rfl
  rw[e];exact q _ H2 (s1.trans s2) JY (.bl _)
 .cases h3
def qt(hr:JL k X.A)(ha:DE X a f)(hb:DE X b g)(hs:autoParam (vm b) u21):DE X (.Subscript a b pos) (af eU f g):=by
 refine⟨?_⟩;refine bx (zdd (gN hr) ha.pe hb.pe hs) λσ H Q=>?_;rintro⟨O,ts,ρ,T,w,T',hc,re,e,q⟩;obtain⟨w1,T1,e1,e⟩:=aF e;obtain⟨w2,T2,e2,e⟩:=aF e;obtain⟨x,y,d,h1,h2,h3,rfl,rfl⟩:=gH e;refine⟨O,ts,ρ,T,w1,T1,hc,re,e1,λv1 H1 s1 C3 r1=>?_⟩;refine⟨O,ts,ρ,T1,w2,T',C3,re.mono hc s1,e2,λv2 H2 s2 JY r2=>?_⟩;have k1:=JY.view (r1.mono C3 s2) h1;have k2:=JY.view r2 h2;unfold eU at h3;split at h3
 .rename_i ds s
  cases k2.str;obtain⟨a,kvs,rfl,t,r⟩:=k1.dct
  rcases fW (s:=s) r with⟨z1,z2⟩|⟨v,d',z1,z2,rv⟩
  .simp_all
  .rw[z1] at h3
   cases h3;exact⟨a,v,rfl,by rw[←z2];exact Hz.rd (k:=Sb s) t,q v H2 (s1.trans s2) JY rv⟩
 .cases h3
def RS.lay(r:RS K Cz H₀ F ts O H σ ρ T)(hp:H p=LG)(hm:Mn (Iv o)):RS K Cz H₀ F ts (λb=>O b\/b=p) (upd H p o) σ ρ T:=by
 have le:Le O H (λb=>O b\/b=p) (upd H p o):=λa o n e=>by
  have z:=di e hp;exact⟨λq=>q.elim n z,by rw[aG z];exact e⟩
 refine⟨⟨λb hb=>.inl (r.hc.own b hb),λb hb=>?_,r.hc.nd,r.hc.len,λj a ys e1 e2=>?_⟩,λj w e=>?_,λb hb=>.inl (r.sub b hb),r.ots,r.same.trans (.new hp _),r.fresh,r.dist,λf hf=>(r.frs f hf).trans le,r.len⟩
 .by_cases z:b=p
  .subst z;rw[a9];exact hm
  .rw[aG z]
   exact r.hc.trk b (hb.resolve_right z)
 .exact(r.hc.tape j a ys e1 e2).mono (λo' h1=>by rw[aG (di h1 hp)];exact h1) le
 .obtain⟨x,h1,h2⟩:=r.re j w e
  refine⟨x,h1,?_⟩
  cases w with
  |d x=>exact Rep.mono le h2
  |tp k=>exact h2
  |loc ys=>
   obtain⟨a,e1,h1,h2,h3⟩:=h2;exact⟨a,e1,.inl h1,h2,h3.mono (λo' q=>by rw[aG (di q hp)];exact q) le⟩
def RS.take(r:RS K Cz H₀ F ts O H σ ρ T)(oa:O p)(nt:p∉ts)(h0:H₀ p=LG/\¬Cz p)(nh:∀(j:Nat) (ys:Ra),ρ[j]? = Iv (Iv (W.loc ys))->σ[j]? = Iv (Iv (V.ref p))->False)(hm:Mn (Iv o))(rv:Le O H O (upd H p o)->DC K O (upd H p o) p y) :
  RS K Cz H₀ F ts O (upd H p o) (σ.set i (Iv (.ref p))) (ρ.set i (Iv (.loc y))) T:=by
 have le:Le O H O (upd H p o):=λb o n e=>⟨n,by rw[aG (show b≠p from λz=>n (by simp_all))];exact e⟩;refine⟨⟨r.hc.own,λb hb=>?_,r.hc.nd,r.hc.len,λj a ys e1 e2=>?_⟩,λj w e=>?_,r.sub,r.ots,λb o n e=>?_,λj ys a e1 e2=>?_,λj k ys zs v e1 e2 e3 e4=>?_,λf hf=>(r.frs f hf).trans le,by simp[r.len]⟩
 .by_cases z:b=p
  .subst z;rw[a9];exact hm
  .rw[aG z];exact r.hc.trk b hb
 .exact(r.hc.tape j a ys e1 e2).mono (λo' h1=>by rw[aG (show a≠p from λz=>nt (by rw[←z];exact Rw e1))];exact h1) le
 .by_cases z:i=j
  .subst z
   have hl:i<ρ.length:=by
    have:=(Rh.mp e).1;simpa using this
   rw[Rt hl] at e;cases e;exact⟨.ref p,by rw[Rt (by rw[r.len];exact hl)],p,rfl,oa,nt,rv le⟩
  .rw[Rm z] at e
   obtain⟨x,h1,h2⟩:=r.re j w e;refine⟨x,by rw[Rm z];exact h1,?_⟩
   cases w with
   |d x=>exact Rep.mono le h2
   |tp k=>exact h2
   |loc zs=>
    obtain⟨b,eb,k1,k2,k3⟩:=h2;have n:b≠p:=λq=>nh j zs e (by rw[h1,eb,q]);exact⟨b,eb,k1,k2,k3.mono (λo' q=>by rw[aG n];exact q) le⟩
 .have:=r.same b o n e
  rw[aG (show b≠p from λz=>by rw[z,h0.1] at e;cases e)];exact this
 .by_cases z:i=j
  .subst z
   have hl:i<ρ.length:=by
    have:=(Rh.mp e1).1;simpa using this
   rw[Rt (by rw[r.len];exact hl)] at e2;cases e2;exact h0
  .rw[Rm z] at e1 e2
   exact r.fresh j ys a e1 e2
 .by_cases z:i=j
  .by_cases z':i=k
   .rw[←z,←z']
   .exfalso
    subst z
    have hl:i<ρ.length:=by
     have:=(Rh.mp e1).1;simpa using this
    rw[Rt (by rw[r.len];exact hl)] at e3;cases e3;rw[Rm z'] at e2 e4;exact nh k zs e2 e4
  .by_cases z':i=k
   .exfalso
    subst z'
    have hl:i<ρ.length:=by
     have:=(Rh.mp e2).1;simpa using this
    rw[Rt (by rw[r.len];exact hl)] at e4;cases e4;rw[Rm z] at e1 e3;exact nh j ys e1 e3
   .rw[Rm z] at e1 e3
    rw[Rm z'] at e2 e4;exact r.dist j k ys zs v e1 e2 e3 e4
def gk(i:Nat)(k1 k2:Str)(f g:FE):FS:=λρ T=>G5 (f ρ T) λw1 T1=>G5 (g ρ T1) λw2 T2=>match w1,w2 with
 |.d x,.d y=>if k1=k2 then LG else Iv ((.nx,ρ.set i (Iv (.loc (.dict [(.str k1,x),(.str k2,y)])))),T2)
 |_,_=>LG
def zwq{j1 j2}(hN:X.N.Nodup)(he1:DE X e1 f)(he2:DE X e2 g)(hi:autoParam (X.N[i]? = Iv x) u10)(hx:autoParam (Loc X.env.scope x) u16)
  (hs:autoParam (So (.Dict [Iv (.Constant (.str k1) j1 kp1),Iv (.Constant (.str k2) j2 kp2)] [e1,e2] Eg) (Iv (.Name x pos')) pos.line X.env=pure Lf) u10) (hf:autoParam (X.fn x=KN\/X.env.scope.names.lookup x=Iv .local) u13) :
  DS X (.Assign [.Name x pos'] (.Dict [Iv (.Constant (.str k1) j1 kp1),Iv (.Constant (.str k2) j2 kp2)] [e1,e2] Eg) pos) (gk i k1 k2 f g):=by
 refine⟨?_⟩;refine b7 (fm hN hi hx (zdg (zus uj he1.pe (zus uj he2.pe zdf)) rfl rfl (by simp) (by simp)) hs hf) λD σ H=>?_;rintro⟨Cz,H₀,F,ts,O,ρ,T,fl,ρ',T',rs,e,q⟩;obtain⟨w1,T1,z1,e⟩:=aF e;obtain⟨w2,T2,z2,e⟩:=aF e
 obtain⟨x1,rfl⟩:∃x,w1=.d x:=by
  cases w1 with
  |d x=>exact⟨x,rfl⟩
  |tp k=>cases e
  |loc k=>cases e
 obtain⟨y1,rfl⟩:∃x,w2=.d x:=by
  cases w2 with
  |d x=>exact⟨x,rfl⟩
  |tp k=>cases e
  |loc k=>cases e
 intro p hp;have nO:=rs.hc.fresh hp;have nt:p∉ts:=λz=>nO (rs.hc.own p z)
 have h00:H₀ p=LG:=by
  cases e:H₀ p with
  |none=>rfl
  |some o=>rw[rs.same p o nt e] at hp;cases hp
 have h0:H₀ p=LG/\¬Cz p:=⟨h00,λz=>nO (rs.sub p z)⟩
 have nh:∀(j:Nat) (ys:Ra),ρ[j]? = Iv (Iv (W.loc ys))->σ[j]? = Iv (Iv (V.ref p))->False:=λj ys q1 q2=>by
  obtain⟨v,h1,a,ea,h2,h3,h4⟩:=rs.re j _ q1;rw[q2] at h1;cases h1;cases ea;obtain⟨o',h5⟩:=h4.some;rw[hp] at h5;cases h5
 have vU:=rs.lay (o:=.dK []) hp (.inr (.inl ⟨_,rfl⟩));refine⟨_,ts,ρ,T,_,T1,vU.hc,vU.re,z1,λv1 H1 s1 C3 r1=>?_⟩;have Ez:=vU.step s1 C3;refine⟨_,ts,ρ,T1,_,T2,Ez.hc,Ez.re,z2,λv2 H2 s2 JY r2=>?_⟩;have DJ:=Ez.step s2 JY
 by_cases Kp:k1=k2
 .have e':(if k1=k2 then LG else Iv ((Fl.nx,ρ.set i (Iv (.loc (.dict [(.str k1,x1),(.str k2,y1)])))),T2))=Iv ((fl,ρ'),T'):=e
  rw[if_pos Kp] at e';cases e'
 have e':(if k1=k2 then LG else Iv ((Fl.nx,ρ.set i (Iv (.loc (.dict [(.str k1,x1),(.str k2,y1)])))),T2))=Iv ((fl,ρ'),T'):=e;rw[if_neg Kp] at e';cases e';have AJ:H2 p=Iv (.dK []):=s2 p _ nt (s1 p _ nt a9);refine⟨AJ,[(.inr k1,v1),(.inr k2,v2)],rfl,by simp,?_⟩
 have hm:ja [] [((Sb k1:Key),v1),((Sb k2:Key),v2)]=[(.inr k1,v1),(.inr k2,v2)]:=by
  simp[ja,putK,Kp]
 rw[hm];have Hm:Rep X.K (λb=>O b\/b=p) H2 v1 x1:=Hy.mono (w:=.d x1) r1 C3 s2;exact q _ _ _ (DJ.take (.inr rfl) nt h0 nh (.inr (.inl ⟨_,rfl⟩)) λle=>⟨_,a9,.cons (k:=.inr k1) (Rep.mono le Hm) (.cons (k:=.inr k2) (Rep.mono le r2) .nil)⟩)
noncomputable def cc(ds:List (Ra×Ra))(s:Str)(x:Ra):List (Ra×Ra):=match ds with
 |[]=>[]
 |(.str k,d)::r=>if k=s then (.str k,x)::cc r s x else (.str k,d)::cc r s x
 |p::r=>p::cc r s x
theorem oJ(rx:Rep K O H v x):∀{kvs:List (Key×V)}{ds:List (Ra×Ra)},JU K O H kvs ds->JU K O H (kvs.map λkv=>if kv.1=(Sb s:Key) then (kv.1,v) else kv) (cc ds s x)
 |_,_,.nil=>.nil
 |_,_,.cons (k:=.inl i) r t=>by
  exact .cons  r (oJ rx t)
 |_,_,.cons (k:=.inr k)    (ds:=ds) r t=>by
  rw[R7];have ih:=oJ (s:=s) rx t;show JU K O H _ (if k=s then _::cc ds s x else _::cc ds s x)
  by_cases hk:k=s
  .rw[if_pos hk,if_pos (by rw[hk])]
   exact .cons  rx ih
  .rw[if_neg hk,if_neg (λz=>hk (Sum.inr.inj z))]
   exact .cons  r ih
def qL(i:Nat)(fk fv:FE):FS:=λρ T=>G5 (fv ρ T) λw T1=>match ρ[i]? with
 |some (Iv (.loc (.dict ds)))=>G5 (fk ρ T1) λk T3=>match w,k with
  |.d x,.d (.str s)=>if (aj ds s).isSome=KN/\ds.length<=1000 then Iv ((.nx,ρ.set i (Iv (.loc (.dict (cc ds s x))))),T3) else LG
  |_,_=>LG
 |_=>LG
theorem pq:∀{kvs:List (Key×V)}{ds:List (Ra×Ra)},JU K O H kvs ds->kvs.length=ds.length
 |_,_,.nil=>rfl
 |_,_,.cons _ t=>congrArg _ (pq t)
def zwr{kvs:List (Key×V)}{k:Key}(h:(bT kvs k).isSome=KN):(kvs.any λkv=>decide (kv.1=k))=KN:=by unfold bT at h<;>simp_all
def zgb(hr:JL k X.A)(hk:DE X kx fk)(he:DE X e fv)(hN:autoParam (X.N[i]? = Iv x) u10)(hv:autoParam (EC X.env.scope x) u18)(hd:autoParam ((x == ("__debug__" : Str))=Lf) u11)
  (hcd:autoParam ((x == ("__classdict__" : Str))=Lf) u11) (hs:autoParam (So e (Iv (.Subscript (.Name x p) kx pos')) pos.line X.env=pure Lf) u10):DS X (.Assign [.Subscript (.Name x p) kx pos'] e pos) (qL i fk fv):=by
 refine⟨?_⟩;refine b7 (sX (gN hr) (pv i hN hv hd hcd) hk.pe he.pe hs) λD σ H=>?_;rintro⟨Cz,H₀,F,ts,O,ρ,T,fl,ρ',T',rs,e,q⟩;obtain⟨w,T1,e1,e⟩:=aF e;refine⟨O,ts,ρ,T,w,T1,rs.hc,rs.re,e1,λv H1 s1 C3 r1=>?_⟩;have Ez:=rs.step s1 C3;split at e
 .rename_i ds c3
  obtain⟨wk,T3,e3,e⟩:=aF e;split at e
  .rename_i xv s _
   split at e
   .rename_i zC
    cases e;obtain⟨c1,c2⟩:=zC;obtain⟨u,k1,a,rfl,k2,k3,kvs,k4,k5⟩:=Ez.re i _ c3;refine⟨_,k1,O,ts,ρ,T1,_,_,Ez.hc,Ez.re,e3,λy H3 s3 HM r3=>?_⟩;have EH:=Ez.step s3 HM;cases (show Rep X.K O H3 y (.str s) from r3);have Je:H3 a=Iv (.dK kvs):=s3 _ _ k3 k4;have Gw:JU X.K O H3 kvs ds:=k5.mono (C3.le s3)
    have Hi:(kvs.any λkv=>decide (kv.1=(Sb s:Key)))=KN:=zwr (by
     rcases fW (s:=s) Gw with⟨z1,z2⟩|⟨v',d',z1,z2,_⟩
     .rw[z1] at c1;cases c1
     .rw[z2];rfl)
    have wK:putK kvs (Sb s:Key) v=kvs.map (λkv=>if kv.1=(Sb s:Key) then (kv.1,v) else kv):=by
     unfold putK;rw[if_pos Hi]
    have JW:kvs.length<sizeLine:=by
     rw[pq Gw];exact R5 c2 (by decide)
    have rx:Rep X.K O H3 v xv:=Hy.mono (w:=.d xv) r1 C3 s3;refine⟨a,_,rfl,D7.k (k:=(Sb s:Key)) Je JW,?_⟩;rw[wK];exact q O σ _ (EH.putO c3 k1 (.inr (.inl ⟨_,rfl⟩)) λle=>⟨_,a9,oJ (Rep.mono le rx) (Gw.mono le)⟩)
   .cases e
  .cases e
 .cases e
end
def eS(B:List (Str×Str)):List (Str×Z1):=B.map λp=>(p.1,.flat (.str p.2))
def Cq(K:Frag)(mg:Str->Option Re)(x:Str)(B:List (Str×Str)):Prop:=∃a,mg x=Iv (.ref a)/\SQ (SF λb=>K.lookup b) (λb=>K.lookup b) a (eS B)=KN
noncomputable def atS(B:List (Str×Str)):Ra->Option Ra
 |.str s=>(B.find? λp=>decide (s=p.1)).map λp=>.str p.2
 |_=>LG
theorem zws(s:Str):∀B:List (Str×Str),VU s (eS B)=(B.find? λp=>decide (s=p.1)).map λp=>.flat (.str p.2)
 |[]=>rfl
 |(x,d)::B=>by
  show (if decide (s=x)=KN then Iv _ else VU s (eS B))=_;rw[zws s B,Yw]
  cases decide (s=x) <;> rfl
section
variable {X:Cx}{pos:Pos}{e:Expr}{f:FE}{x:Str}{p:Pos}{B:List (Str×Str)}
theorem zwt:∀{B:List (Str×Str)}{d:Str×Str},(B.find? λp=>decide (s=p.1))=Iv d->(∀t,P (.str d.2 t))->ZQ h s P (eS B)
 |[],d,e,_=>by simp_all
 |(x,i)::B,d,e,hp=>by
  rw[Yw] at e
  by_cases hx:s=x
  .have:=decide_eq_true hx
   simp only[this] at e;cases e;exact YV hx (YC hp)
  .have:=decide_eq_false hx
   simp only[this] at e;exact YD hx (zwt e hp)
def zgc(hl:SQ (SF λb=>X.K.lookup b) (λb=>X.K.lookup b) a (eS B)=KN):IJ X (λx y H Q=>∃s p,x=.ref a/\y=.str s/\(B.find? λp=>decide (s=p.1))=Iv p/\Q (.str p.2) H):=by
 intro value slice pins s σ H x y v u Q I rx ry h hs;obtain⟨z,d,rfl,rfl,hf,q⟩:=h;obtain⟨t,rfl⟩:=ry;cases rx
 have hk:ZA z (eS B)=KN:=by
  rw[←XW,zws,hf];rfl
 have hp:((eS B).all λp=>ZR p.2)=KN:=by
  rw[Rq];intro p hp;obtain⟨q,_,rfl⟩:=Rl.mp hp;rfl
 exact YE  ⟨PySem.W.kt_text_in I.kIn hl,λ_ _ e=>e⟩ hp hk (zwt hf λt=>⟨.str d.2,H,I.tok _,⟨t,rfl⟩,q⟩) hs
def zgd(ht:Cq X.K X.mg x B)(hg:Gl X x)(he:DE X e f)(hd:autoParam ((x == ("__debug__" : Str))=Lf) u11)(hs:autoParam (mG e) u21):DE X (.Subscript (.Name x p) e pos) (LP (atS B) f):=by
 obtain⟨a,hx,hl⟩:=ht;refine⟨?_⟩;refine bx (mZ (zgc hl) (pT (v:=.ref a) hg hx rfl hd) he.pe hs) λσ H Q=>?_;rintro⟨O,ts,ρ,T,w,T',hc,re,e,q⟩;obtain⟨w1,T1,e1,e⟩:=aF e;obtain⟨x,d,h1,h3,rfl,rfl⟩:=ie e;refine⟨O,ts,ρ,T,w1,T',hc,re,e1,λv1 H1 s1 C3 r1=>?_⟩;have vw:=C3.view r1 h1;unfold atS at h3;split at h3
 .obtain⟨p,hp,rfl⟩:=RO.mp h3
  cases vw.str;exact⟨_,p,rfl,rfl,hp,q _ H1 s1 C3 (.str _)⟩
 .cases h3
noncomputable def uH(a:Addr)(o:Obj)(B:List (Str×Str)):Bool:=SQ (SF λ_=>LG) (λ_=>Iv o) a (eS B)
theorem zwu:∀(es:List X9) (B:List (Str×Str)),Uw (SF g) es (eS B)=Uw (SF g') es (eS B)
 |[],[]=>rfl
 |[],_::_=>rfl
 |_::_,[]=>rfl
 |e::es,_::B=>by
  have ih:=zwu (g:=g) (g':=g') es B;unfold eS at ih ⊢;rw[R7];unfold Uw;rw[ih];rfl
def zge{K:Frag}(h:K.lookup a=Iv o)(g:uH a o B=KN):SQ (SF λb=>K.lookup b) (λb=>K.lookup b) a (eS B)=KN:=by
 unfold uH SQ at g;unfold SQ;dsimp only at g ⊢;rw[h];rw[←g];dsimp only
 cases o.data <;> first|rfl|(dsimp only;rw[zwu ])
def u7(i j:Nat)(f:FE):FS:=λρ T=>G5 (f ρ T) λw T1=>match w with
 |.d (.tuple [x,y])=>Iv ((.nx,(ρ.set i (Iv (.d x))).set j (Iv (.d y))),T1)
 |_=>LG
def zgf(hN:X.N.Nodup)(he:DE X e f)(hi:autoParam (X.N[i]? = Iv x) u10)(hj:autoParam (X.N[j]? = Iv y) u10)(hx:autoParam (Loc X.env.scope x) u16)(hy:autoParam (Loc X.env.scope y) u16)
  (hf:autoParam (X.fn x=KN\/X.env.scope.names.lookup x=Iv .local) u13) (Ij:autoParam (X.fn y=KN\/X.env.scope.names.lookup y=Iv .local) u13) (hc:autoParam (X.calm=KN) u10)
  (hs:autoParam (Xg [.Tuple [.Name x px,.Name y py] k tp] e pos.line X.env=pure Lf) u10) (hw:autoParam (Xh [.Tuple [.Name x px,.Name y py] k tp] e X.env=pure LG) u10)
  (h1:autoParam ((UK [.Tuple [.Name x px,.Name y py] k tp] X.env).map (·.2)=[Wm (.Tuple [.Name x px,.Name y py] k tp) X.env]) u10):DS X (.Assign [.Tuple [.Name x px,.Name y py] k tp] e pos) (u7 i j f):=by
 refine⟨?_⟩;refine b7 (ztm he.pe (ug hc (jS (h9 hN hi hx hf) (jS (h9 hN hj hy Ij) sY))) hs hw h1) λD σ H=>?_;rintro⟨Cz,H₀,F,ts,O,ρ,T,fl,ρ',T',rs,e,q⟩;obtain⟨w,T1,e1,e⟩:=aF e;refine⟨O,ts,ρ,T,w,T1,rs.hc,rs.re,e1,λv H1 s1 C3 r1=>?_⟩;split at e
 .rename_i a b
  cases e;have Ez:=rs.step s1 C3;have Hm:=r1
  cases Hm with
  |tup t r=>
   cases r with
   |cons ra r=>
    cases r with
    |cons rb r=>
     cases r;exact⟨_,_,rfl,t.sq,rfl,_,_,rfl,_,_,rfl,rfl,q O _ _ ((Ez.set (w:=.d a) ra λ_ z=>nomatch z).set  rb λ_ z=>nomatch z)⟩
 .cases e
end
section
variable {X:Cx}{C:Addr}{o e:Expr}{f m:Str}{pos pos' apos:Pos}{fo fe:FE}
variable {ps:List Str}{k:Nat}{mm:Hl}{g:FA}{es:List Expr}{pl:Sem Bool}
def uT:FS:=λ_ _=>LG
def zwv{st:Stmt}:DS X st uT:=⟨λ_ _ _ _ _ _ h=>by
 obtain⟨Cz,H₀,F,ts,O,ρ,T,fl,ρ',T',rs,e,q⟩:=h
 cases e⟩
end
noncomputable def m7(T:Tp):Option (Tp×List Ra):=match T.getLast? with
 |some xs=>Iv (T.dropLast,xs)
 |none=>LG
def zgg(h:m7 T=Iv (T1,ys)):T=T1++[ys]:=by
 unfold m7 at h;split at h
 .rename_i xs e
  cases h
  obtain⟨zs,hl⟩:=List.getLast?_eq_some_iff.mp e<;>simp_all
 .cases h
noncomputable def qj:XE->Bool
 |[]=>KN
 |none::r=>qj r
 |some (.d _)::r=>qj r
 |_::_=>Lf
end D
namespace L2
section
variable {X:Cx}
theorem zww:∀(l:List (Str×Tok)),L7 ((l.map (·.1)).map V.str) (ZC l)
 |[]=>.nil
 |p::r=>.cons ⟨p.2,rfl⟩ (zww r)
def zgh:Hb X "str.split" (λx vs H Q=>∃z y:Str,x=.str z/\vs=[.str y]/\(y.length == 0)=Lf/\z.length+2<=Rp/\∀l,H l=LG->Q (.ref l) (upd H l (.lst ((TY z y).map V.str)))):=by
 intro pins s σ H x vs v us Q I rx rv h;obtain⟨z,y,rfl,rfl,hy,hz,q⟩:=h;obtain⟨t,rfl⟩:=rx;obtain⟨u,rfl,ru⟩:=vals1 rv;obtain⟨t',rfl⟩:=ru
 have np:(VW z (SY z y 0 z.length (z.length+1)) y.length).length<=sizeLine:=by
  have o1:=StrLaws.occ_length_le z y 0 z.length (z.length+1);rw[length_partsBetween];lia
 have fin:∀(l:List (Str×Tok)) (k:Nat),l.map (·.1)=TY z y->l.length<=Rp->EP X pins σ Q (.ref s.heap.objs.size) { s with toks:=k,heap:=s.heap.push { cls:=.type "list",data:=.seq (ZC l).toArray } }:=λl k e hl=>by
  have hn:((TY z y).map V.str).length<=sizeLine:=by rw[←e];simpa using hl
  refine⟨.ref s.heap.objs.size,_,I.laid (t':=k) (λb o w=>Ri _ w) (Rn _) (show Fs X.prog X.w _ _ _ (.lst ((TY z y).map V.str)) from⟨hn,ZC l,0,?_,RA _ rfl⟩),rfl,q _ (I.hok.fresh (Rn _))⟩;rw[←e];exact zww l
 cases c1:(decide (z.length<y.length)||decide (Xd z<Xd y))
 .cases c2:(SY z y 0 z.length (z.length+1)).isEmpty
  .refine Ub Ug (Vb _ _ _) UP (UC _ _) (meets_str_split_sep z y t t' c1 hy c2 (by lia) np) ?_
   rw[strsFrom_eq];have e:(numbered s.toks _).map (·.1)=TY z y:=(numbered_texts s.toks _).trans ((if_neg (ne_true_of_eq_false c1)).trans (if_neg (ne_true_of_eq_false c2))).symm;refine fin (numbered s.toks _) _ e ?_;have e2:=congrArg Yk (numbered_texts s.toks (VW z (SY z y 0 z.length (z.length+1)) y.length));rw[R4] at e2;rw[e2];exact np
  .exact Ub Ug (Vb _ _ _) UP (UC _ _) (meets_str_split_not_found z y t t' c1 hy c2) (fin [(z,t)] s.toks ((if_neg (ne_true_of_eq_false c1)).trans (if_pos c2)).symm (by show 1<=Rp;decide))
 .exact Ub Ug (Vb _ _ _) UP (UC _ _) (meets_str_split_cannot_occur z y t t' c1) (fin [(z,t)] s.toks (if_pos c1).symm (by show 1<=Rp;decide))
end
end L2
namespace D
open L2
section
variable {X:Cx}{pos:Pos}
noncomputable def mI:Ra->Ra->Option Ra
 |.str z,.str y=>if (y.length == 0)=Lf/\z.length+2<=Rp then Iv (.list ((TY z y).map .str)) else LG
 |_,_=>LG
noncomputable def qx(i:Nat)(ρ:XE)(x y:Option Ra)(T:Tp):Option ((Fl×XE)×Tp):=match x,y with
 |some (.list xs),Iv (.list ys)=>if xs.length+ys.length<=Rp then Iv ((.nx,ρ.set i (Iv (.loc (.list (xs++ys))))),T) else LG
 |_,_=>LG
def qK(i:Nat)(fa fb:FE):FS:=λρ T=>G5 (fa ρ T) λw1 T1=>G5 (fb ρ T1) λw2 T2=>qx i ρ (view T2 w1) (view T2 w2) T2
def zgi(hN:X.N.Nodup)(ha:DE X a fa)(hb:DE X b fb)(hi:autoParam (X.N[i]? = Iv x) u10)(hx:autoParam (Loc X.env.scope x) u16)(hs:autoParam (So (.BinOp a .Add b EN) (Iv (.Name x pos')) pos.line X.env=pure Lf) u10)
  (hf:autoParam (X.fn x=KN\/X.env.scope.names.lookup x=Iv .local) u13):DS X (.Assign [.Name x pos'] (.BinOp a .Add b EN) pos) (qK i fa fb):=by
 refine⟨?_⟩;refine b7 (fm hN hi hx (zto zvx ha.pe hb.pe) hs hf) λD σ H=>?_;rintro⟨Cz,H₀,F,ts,O,ρ,T,fl,ρ',T',rs,e,q⟩;obtain⟨w1,T1,e1,e⟩:=aF e;obtain⟨w2,T2,e2,e⟩:=aF e;refine⟨O,ts,ρ,T,w1,T1,rs.hc,rs.re,e1,λv1 H1 s1 C3 r1=>?_⟩;have Ez:=rs.step s1 C3;refine⟨O,ts,ρ,T1,w2,T2,C3,Ez.re,e2,λv2 H2 s2 JY r2=>?_⟩;have DJ:=Ez.step s2 JY;unfold qx at e;split at e
 .rename_i xs ys h1 h2
  split at e
  .rename_i hz
   cases e;obtain⟨a1,vs,rfl,t1,q1⟩:=(JY.view (r1.mono C3 s2) h1).lst;obtain⟨b1,us,rfl,t2,q2⟩:=(JY.view r2 h2).lst;exact⟨a1,b1,vs,us,rfl,rfl,t1,t2,by rw[q1.length,q2.length];exact hz,λp hp=>q _ _ _ (DJ.own hp (q1.append q2))⟩
  .cases e
 .cases e
theorem rM:∀{kvs:List (Key×V)}{vs:List (Key×Re)}{us:List Re},KV kvs vs->us.length=vs.length->(∀(j:Nat) (v:Re),us[j]? = Iv v->∃k x,vs[j]? = Iv (k,x)/\(bP P w).is k v=KN)->L7 (kvs.map λp=>kV p.1) us
 |[],[],[],_,_,_=>.nil
 |_::_,[],_,r,_,_=>by cases r
 |[],_::_,_,r,_,_=>by cases r
 |_,[],_::_,_,h,_=>by simp at h
 |_,_::_,[],_,h,_=>by simp at h
 |_::kvs,_::vs,u::us,r,h,f=>by
  cases r with
  |cons r1 r2=>
   refine .cons ?_ (rM (P:=P) (w:=w) r2 (by simpa using h) λj v e=>?_)
   .obtain⟨k2,x2,e2,e3⟩:=f 0 u rfl
    cases e2;have:=r1.1;subst this;exact Jb e3
   .obtain⟨k2,x2,e2,e3⟩:=f (j+1) v (by simpa using e)
    exact⟨k2,x2,by simpa using e2,e3⟩
def zgj(HZ:X.calm=KN):Fh X (.type "list") (λxs H Q=>∃a kvs,xs=[V.ref a]/\Rd H a (.dK kvs)/\∀l,H l=LG->Q (.ref l) (upd H l (.lst (kvs.map λp=>kV p.1)))):=by
 intro pins s σ H xs us Q I r h;obtain⟨a,kvs,rfl,ha,q⟩:=h;obtain⟨u,rfl,ru⟩:=vals1 r;cases ru;obtain⟨z,y,vs,kv,dd⟩:=d4 I.hok ha;obtain⟨ep,dd⟩:=dd.dictAt;have hl:=kv.length;refine PySem.W.kdl_call (Ye      y) (I.ok.hd HZ) dd (by omega) λh' tk acc c k1 k2 k3=>?_;have hv:=rM   kv (by exact k3.1) λj v e=>k3.2 j v (by simpa using e);have hn:=I.hok.fresh (Rn _);exact⟨.ref _,_,I.laid  (o:=.lst _) k1 (Rn _) ⟨by simp;omega,acc.toList,c,hv,by omega⟩,rfl,q _ hn⟩
noncomputable def gh(ds:List (Ra×Ra)):List PyData:=ds.map (·.1)
theorem rT{K:Frag}{O:Addr->Prop}{H:Hp}{O':Addr->Prop}{H':Hp}:∀{kvs:List (Key×V)}{ds:List (Ra×Ra)},JU K O H kvs ds->EE K O' H' (kvs.map λp=>kV p.1) (gh ds)
 |_,_,.nil=>.nil
 |_,_,.cons (k:=k) _ t=>.cons (sV k) (rT t)
def gf:List Ra->Option Ra
 |[.list xs]=>Iv (.list xs)
 |[.tuple xs]=>Iv (.list xs)
 |[.dict ds]=>Iv (.list (gh ds))
 |_=>LG
def tR(HZ:autoParam (X.calm=KN) u10):eV X (.type "list") gf:=⟨_,zxk.or (zgj HZ),λO ts H T vs xs d Q hc h e q=>by
 unfold gf at e;split at e
 .cases e
  obtain⟨v,rfl,g⟩:=c9 h;obtain⟨a,vs,rfl,t,r⟩:=g.lst;exact .inl ⟨a,vs,rfl,.inl t,λp hp=>q _ _ (.new hp _) (hc.new hp _) (hc.newL hp r)⟩
 .cases e
  obtain⟨v,rfl,g⟩:=c9 h;obtain⟨a,vs,rfl,t,r⟩:=g.tup;exact .inl ⟨a,vs,rfl,.inr t.sq,λp hp=>q _ _ (.new hp _) (hc.new hp _) (hc.newL hp r)⟩
 .cases e
  obtain⟨v,rfl,g⟩:=c9 h;obtain⟨a,kvs,rfl,t,r⟩:=g.dct;exact .inr ⟨a,kvs,rfl,t,λp hp=>q _ _ (.new hp _) (hc.new hp _) (hc.newL hp (rT r))⟩
 .cases e⟩
def AI:Ra->Ra->Option Ra
 |.dict ds,.str s=>Iv ((aj ds s).getD .none)
 |_,_=>LG
def Bt(T0:Tp)(w1 w2:W)(T:Tp):Option (W×Tp):=match view T0 w1 with
 |some (.dict _)=>Gc AI T w1 w2
 |_=>LG
def qN(f g:FE):FE:=λρ T=>G5 (f ρ T) λw1 T1=>G5 (g ρ T1) λw2 T2=>Bt T1 w1 w2 T2
def zgk(r:Rd H a (.dK kvs)):Cb H a:=.inl ⟨kvs,r⟩
noncomputable def zgl(hr:JL k X.A)(ho:DE X o f)(he:DE X e g)
  (m:M1 X o "get" apos e cpos:=by exact⟨rfl,iG rfl,rfl,by rfl⟩):DE X (.Call (.Attribute o "get" apos) [e] [] cpos) (qN f g):=by
 refine⟨?_⟩;refine bx (zdj (gN hr) ho.pe he.pe m) λσ H Q=>?_;rintro⟨O,ts,ρ,T,w,T',hc,re,e,q⟩;obtain⟨w1,T1,e1,e⟩:=aF e;obtain⟨w2,T2,e2,e⟩:=aF e;unfold Bt at e;split at e
 .rename_i ds0 hv0
  obtain⟨x,y,d,h1,h2,h3,rfl,rfl⟩:=gH e;refine⟨O,ts,ρ,T,w1,T1,hc,re,e1,λv1 H1 s1 C3 r1=>?_⟩;obtain⟨a,kvs0,rfl,t0,_⟩:=(C3.view r1 hv0).dct;refine⟨a,rfl,zgk t0,O,ts,ρ,T1,w2,T',C3,re.mono hc s1,e2,λv2 H2 s2 JY r2=>?_⟩;have k1:=JY.view (r1.mono C3 s2) h1;have k2:=JY.view r2 h2;unfold AI at h3;split at h3
  .rename_i ds s
   cases k2.str;obtain⟨a',kvs,ea,t,r⟩:=k1.dct;cases ea;cases h3;refine⟨_,Hz.rd (k:=Sb s) t,?_⟩
   rcases fW  r with⟨z1,z2⟩|⟨v,d',z1,z2,rv⟩
   .rw[z2]
    exact q _ H2 (s1.trans s2) JY (by rw[z1];exact .non)
   .rw[z2]
    exact q _ H2 (s1.trans s2) JY (by rw[z1];exact rv)
  .cases h3
 .cases e
end
theorem zwx:∀a b:List Nat,Vg a b=Lf->Vg b a=Lf->a=b
 |[],[],_,_=>rfl
 |[],_::_,h,_=>by simp[Vg] at h
 |_::_,[],_,h=>by simp[Vg] at h
 |x::r,y::t,h,g=>by
  simp[Vg] at h g
  have:x=y:=by omega
  subst this;rw[zwx r t (by simpa using h) (by simpa using g)]
theorem zwy:∀a b:List Nat,Vg a b=KN->Vg b a=Lf
 |[],[],h=>by simp[Vg] at h
 |[],_::_,_=>rfl
 |_::_,[],h=>by simp[Vg] at h
 |x::r,y::t,h=>by
  simp[Vg] at h ⊢
  rcases h with h|h
  .omega
  .simp_all
   exact zwy r t h.2
theorem zwz:∀a b c:List Nat,Vg b a=Lf->Vg c b=Lf->Vg c a=Lf
 |a,[],c,h,g=>by
  cases a with
  |nil=>exact g
  |cons x r=>simp[Vg] at h
 |[],b,c,h,g=>by cases c <;> rfl
 |x::r,y::t,[],h,g=>by simp[Vg] at g
 |x::r,y::t,z::u,h,g=>by
  simp[Vg] at h g ⊢;refine⟨by omega,λe=>?_⟩;subst e
  by_cases q:z=y
  .subst q
   exact zwz r t u (h.2 rfl) (g.2 rfl)
  .grind
def CB(a b:Str):Bool:=!ltCps b.cps.toList a.cps.toList
def zgm(a b:Str):CB a b=KN\/CB b a=KN:=by
 unfold CB
 cases h:Vg _ _ with
 |false=>exact .inl rfl
 |true=>
  refine .inr ?_
  cases g:Vg _ _ with
  |false=>rfl
  |true=>
   have:=zwy _ _ h<;>grind
def zgn(h:CB a b=KN)(g:CB b a=KN):a=b:=by
 unfold CB at h g;have:=zwx _ _ (by simpa using g) (by simpa using h)
 cases a<;>simp_all
def zxo(h:CB a b=KN)(g:CB b c=KN):CB a c=KN:=by
 unfold CB at *;have:=zwz _ _ _ (by simpa using h) (by simpa using g);rw[this];rfl
noncomputable def jx(x:Str):List Str->List Str
 |[]=>[x]
 |y::r=>if CB x y=KN then x::y::r else y::jx x r
noncomputable def dq:List Str->List Str
 |[]=>[]
 |x::r=>jx x (dq r)
theorem rZ(x:Str):∀l:List Str,(jx x l).Perm (x::l)
 |[]=>.refl _
 |y::r=>by
  unfold jx;split
  .simp_all
  .exact((rZ x r).cons y).trans (.swap _ _ _)
theorem gX:∀l:List Str,(dq l).Perm l
 |[]=>.refl _
 |x::r=>(rZ x _).trans ((gX r).cons x)
theorem zxp(x:Str):∀l:List Str,l.Pairwise (λa b=>CB a b=KN)->(jx x l).Pairwise (λa b=>CB a b=KN)
 |[],_=>by simp[jx]
 |y::r,h=>by
  obtain⟨h1,h2⟩:=Td.mp h;unfold jx;split
  .rename_i hx
   refine Td.mpr ⟨λz hz=>?_,h⟩
   rcases Ru.mp hz with e|e
   .rw[e];exact hx
   .exact zxo hx (h1 z e)
  .rename_i hx
   refine Td.mpr ⟨λz hz=>?_,zxp x r h2⟩
   rcases Ru.mp ((rZ x r).mem_iff.mp hz) with e|e
   .rw[e];exact(zgm x y).resolve_left hx
   .exact h1 z e
theorem rh:∀l:List Str,(dq l).Pairwise (λa b=>CB a b=KN)
 |[]=>.nil
 |x::r=>zxp x _ (rh r)
theorem rz:∀{a b:List Str},a.Perm b->a.Pairwise (λa b=>CB a b=KN)->b.Pairwise (λa b=>CB a b=KN)->a=b
 |[],b,p,_,_=>(List.nil_perm.mp p).symm
 |x::r,[],p,_,_=>absurd (List.perm_nil.mp p) (by simp)
 |x::r,y::t,p,h,g=>by
  obtain⟨h1,h2⟩:=Td.mp h;obtain⟨g1,g2⟩:=Td.mp g
  have e:x=y:=by
   rcases Ru.mp (p.mem_iff.mp Rf) with e|e
   .exact e
   .rcases Ru.mp (p.mem_iff.mpr Rf) with e' | e'
    .exact e'.symm
    .exact zgn (h1 y e') (g1 x e)
  subst e;rw[rz (List.perm_cons _ |>.mp p) h2 g2]
theorem zxq:∀(x:Str) (l:List Str),risingS x l=KN->(x::l).Pairwise (λa b=>CB a b=KN)
 |x,[],_=>by simp
 |x,y::r,h=>by
  have h':CB x y=KN/\risingS y r=KN:=by
   unfold CB;simpa[risingS] using h
  have ih:=zxq y r h'.2;refine Td.mpr ⟨λz hz=>?_,ih⟩
  rcases Ru.mp hz with e|e
  .rw[e];exact h'.1
  .exact zxo h'.1 ((Td.mp ih).1 z e)
def zxr(h:sortedS l=KN):l.Pairwise (λa b=>CB a b=KN):=by
 cases l with
 |nil=>exact .nil
 |cons x r=>exact zxq x r h
theorem ph:∀{ss:List Str}{us:List Re},L7 (ss.map V.str) us->YB us ss
 |[],_,h=>by cases h;exact .nil
 |x::r,_,h=>by
  cases h with
  |cons h1 h2=>
   obtain⟨t,rfl⟩:=h1;exact .cons x t (ph h2)
theorem rE:∀{us:List Re}{ss:List Str},YB us ss->L7 (ss.map V.str) us
 |_,_,.nil=>.nil
 |_,_,.cons y t r=>.cons ⟨t,rfl⟩ (rE r)
section
variable {X:Cx}{pos:Pos}
def zgo:Fh X (.builtin "sorted") (λxs H Q=>∃p ss,xs=[V.ref p]/\Jr X.K H p (ss.map V.str)/\ss.length<64/\∀l,H l=LG->Q (.ref l) (upd H l (.lst ((dq ss).map V.str)))):=by
 intro pins s σ H xs us Q I r h;obtain⟨p,ss,rfl,hq,JW,q⟩:=h;obtain⟨u,rfl,ru⟩:=vals1 r;cases ru;obtain⟨ED,rv,pl,hz⟩:=I.list hq
 have hl:=by have:=rv.length;simpa using this.symm
 refine sorted_strs pl.isList (ph rv) (by omega) λout ss' h1 h2 h3=>?_;have e:=rz (h2.trans (gX ss).symm) (zxr h3) (rh ss);subst e;obtain⟨ep,he⟩:=sortedAll_at _ ED out;have k:∀b o,s.heap.get? b=Iv o->(sortedAll _ ED out).get? b=Iv o:=λb o z=>sortedAll_old z;have hn:=I.hok.fresh (WZ _);have C9:=(gX ss).length_eq;exact⟨.ref _,_,I.laid  (o:=.lst _) k (WZ _) ⟨by grind,out.toList,ep,rE h1,by omega⟩,rfl,q _ hn⟩
noncomputable def jj(o:Option (List Str)):Option PyData:=match o with
 |some ss=>if ss.length<64 then Iv (.list ((dq ss).map .str)) else LG
 |none=>LG
def mX:List Ra->Option Ra
 |[.list xs]=>jj (dP xs)
 |_=>LG
def zgp:eV X (.builtin "sorted") mX:=⟨_,zgo,λO ts H T vs xs d Q hc h e q=>by
 unfold mX at e;split at e
 .unfold jj at e
  split at e
  .rename_i ss hs
   split at e
   .rename_i hl
    cases e;obtain⟨v,rfl,g⟩:=c9 h;obtain⟨a,vs,rfl,t,r⟩:=g.lst;have:=ml r hs;subst this;exact⟨a,ss,rfl,t,hl,λp hp=>q _ _ (.new hp _) (hc.new hp _) (hc.newL hp (lQ _))⟩
   .cases e
  .cases e
 .cases e⟩
end
def zgq(h:Q (Yf 4238894112) { s with toks:=s.toks+1 }):RP (RM prog w) A (pyHash .none) Q E s:=by
 refine PySem.W.pyHash_slot  (by first|rfl|trivial|omega|omega) PySem.F.slot_NoneType_hash PySem.F.entry_NoneType_hash (PySem.F.args_NoneType_hash_1 _) rfl (.inl rfl) ?_;refine Rr ?_;unfold slotArgs;refine Rx ?_;refine Rr ?_
 first
  |exact wpAny_mkInt (Rx ⟨_,_,rfl,h⟩)
  |omega
def Ca:Option Key->Re->Bool
 |none,.none=>KN
 |none,_=>Lf
 |some k,v=>gM k v
def okH(w:RX):Option Key->Int
 |none=>Yf 4238894112
 |some k=>Cf w k
def eY(h:Ca k v=KN):(k=LG/\v=.none)\/(∃i t,k=Iv (.inl i)/\v=.int i t)\/∃x t,k=Iv (.inr x)/\v=.str x t:=by
 cases k with
 |none=>cases v <;> first|exact .inl ⟨rfl,rfl⟩|cases h
 |some k=>
  rcases eM (h) with⟨i,t,rfl,rfl⟩|⟨x,t,rfl,rfl⟩
  .exact .inr (.inl ⟨i,t,rfl,rfl⟩)
  .exact .inr (.inr ⟨x,t,rfl,rfl⟩)
theorem zxs(k:Key):decide ((LG:Option Key)=Iv k)=Lf :=rfl
theorem zxt(k:Key):decide (Iv k=(LG:Option Key))=Lf :=rfl
def pE(a b:Key):decide (Iv a=Iv b)=decide (a=b) :=by simp
def zd(prog:RC)(w:RX):Ze prog w (Option Key) where
 is:=Ca
 hash:=okH w
 inj:=λv a b ha hb=>by
  rcases eY ha with⟨rfl,rfl⟩|⟨i,t,rfl,rfl⟩|⟨x,t,rfl,rfl⟩
  .rcases eY hb with⟨rfl,_⟩|⟨j,u,rfl,e⟩|⟨y,u,rfl,e⟩
   .rfl
   .exact nomatch e
   .exact nomatch e
  .rcases eY hb with⟨rfl,e⟩|⟨j,u,rfl,e⟩|⟨y,u,rfl,e⟩
   .exact nomatch e
   .injection e with e1 _;rw[e1]
   .exact nomatch e
  .rcases eY hb with⟨rfl,e⟩|⟨j,u,rfl,e⟩|⟨y,u,rfl,e⟩
   .exact nomatch e
   .exact nomatch e
   .injection e with e1 _;rw[e1]
 byValue:=λk v h=>by
  rcases eY h with⟨rfl,rfl⟩|⟨i,t,rfl,rfl⟩|⟨x,t,rfl,rfl⟩ <;> rfl
 pyHash:=λhv h=>by
  rcases eY hv with⟨rfl,rfl⟩|⟨i,t,rfl,rfl⟩|⟨x,t,rfl,rfl⟩
  .exact zgq h
  .exact XX h
  .exact XY h
 eqBool:=λhu hv h=>by
  rcases eY hu with⟨rfl,rfl⟩|⟨i,t,rfl,rfl⟩|⟨x,t,rfl,rfl⟩
  .rcases eY hv with⟨rfl,rfl⟩|⟨j,u,rfl,rfl⟩|⟨y,u,rfl,rfl⟩
   .rw[show decide ((LG:Option Key)=LG)=KN by kernel_rfl] at h;exact Yq .none _ _ _ _ h
   .rw[zxs] at h;exact W8 j u _ _ _ _ h
   .rw[zxs] at h;exact W9 y u _ _ _ _ h
  .rcases eY hv with⟨rfl,rfl⟩|⟨j,u,rfl,rfl⟩|⟨y,u,rfl,rfl⟩
   .rw[zxt] at h;exact Xa i t _ _ _ _ h
   .rw[pE,ztf] at h;exact XZ h
   .rw[pE,zth] at h;exact Vo i t y u _ _ _ _ h
  .rcases eY hv with⟨rfl,rfl⟩|⟨j,u,rfl,rfl⟩|⟨y,u,rfl,rfl⟩
   .rw[zxt] at h;exact Xb x t _ _ _ _ h
   .rw[pE,zti] at h;exact Vp x t j u _ _ _ _ h
   .rw[pE,ztg] at h;exact X0 h
 «strs»:=λk x t v h=>by
  rcases eY h with⟨rfl,e⟩|⟨i,u,rfl,e⟩|⟨y,u,rfl,e⟩
  .exact nomatch e
  .exact nomatch e
  .injection e with e1 _
   subst e1
   cases v <;> rfl
theorem zxu:∀{es:List X9}{vs:List (Key×Re)},Pairs (bP P w) es vs->Pairs (zd P w) es (vs.map λp=>(Iv p.1,p.2))
 |_,_,.nil=>.nil
 |_,_,.cons h1 h2 t=>.cons h1 h2 (zxu t)
def zgr{h:Heap}{vs:List (Key×Re)}(d:h.DictOf (bP P w) a vs):h.DictOf (zd P w) a (vs.map λp=>(Iv p.1,p.2)):=by
 obtain⟨o,es,ep,e1,e2,e3,e4,e5,e6⟩:=d;refine⟨o,es,ep,e1,e2,e3,λe he=>?_,zxu e5,?_⟩
 .obtain⟨k,k1,k2⟩:=e4 e he
  exact⟨Iv k,k1,k2⟩
 .rw[Sk]
  show (vs.map λp=>Iv p.1).Nodup
  have:(vs.map λp=>Iv p.1)=(vs.map (·.1)).map Iv:=by rw[Sk];rfl
  rw[this];exact XM.mpr (Z9 (λh q=>h (SA q)) e6)
theorem zxv:∀(vs:List (Key×Re)),Wv (vs.map λp=>((Iv p.1:Option Key),p.2)) LG=LG
 |[]=>rfl
 |p::r=>by
  have:=zxv r
  unfold Wv at this ⊢<;>simp_all
section
variable {X:Cx}{pins:List (Addr×Obj)}{σ:L2.St}{H H2:Hp}{s s2:Rj}
def zgs:Fo X (RB .In) (λx y H Q=>∃a kvs,x=.non/\y=.ref a/\Rd H a (.dK kvs)/\Q (.bl Lf) H):=by
 intro pins s σ H x y v u Q I rx ry h;obtain⟨a,kvs,rfl,rfl,e,q⟩:=h;cases (rx);cases (ry);obtain⟨z,hd,vs,rel,dd⟩:=d4 I.hok e;refine wpAny_in_of  (k:=LG) rfl hd (zgr dd).mapOf ?_;rw[zxv];exact⟨.bl _,H,I.tok _,rfl,q⟩
def zgt(hr:JL k X.A):Fo X (RB .In) (λx y H Q=>∃a kvs s,x=.str s/\y=.ref a/\Rd H a (.dK kvs)/\Q (.bl (bT kvs (Sb s:Key)).isSome) H):=by
 intro pins s σ H x y v u Q I rx ry h;obtain⟨a,kvs,z,rfl,rfl,e,q⟩:=h;cases (ry);exact zuo (gN hr) I (Hz.rd (k:=Sb z) e) (rx) λs' I'=>⟨.bl _,H,I',rfl,q⟩
def zgu(hr:JL k X.A):Fo X (RB .NotIn) (λx y H Q=>∃a kvs s,x=.str s/\y=.ref a/\Rd H a (.dK kvs)/\Q (.bl (!(bT kvs (Sb s:Key)).isSome)) H):=by
 intro pins s σ H x y v u Q I rx ry h;obtain⟨a,kvs,z,rfl,rfl,e,q⟩:=h;cases (ry);exact zcz (gN hr) I (Hz.rd (k:=Sb z) e) (rx) λs' I'=>⟨.bl _,H,I',rfl,q⟩
def zgv(hr:JL k X.A):IJ X (λx y H Q=>∃a kvs s v,x=.ref a/\y=.str s/\Rd H a (.dK kvs)/\bT kvs (Sb s:Key)=Iv v/\Q v H):=by
 intro value slice pins s σ H x y v u Q I rx ry h hs;obtain⟨a,kvs,z,v0,rfl,rfl,e,l,q⟩:=h;cases (rx)
 have g:Hz H a (kV (Sb z)) (Iv v0):=by rw[←l];exact Hz.rd e
 refine Rr ?_;refine Rr (Ys (zup I g) VH.lookup ?_)
 have fin:RP (RM X.prog X.w) X.A (VO slice Lf (Sn a) u) (λr EV=>RP (RM X.prog X.w) X.A (letTemporaryGo value (Sn a) r >>= λ_=>pure r) (EP X pins σ Q) X.xe EV) X.xe s:=by
  rw[hs];exact Yt (zun (gN hr) I g (ry) λw' s' I' Kq=>Rr (WT (Rx ⟨v0,H,I',Kq,q⟩)))
 first
  |exact Rx (Rr fin)
  |omega
  |grind
def Ik(s:Ra)(ds:List (Ra×Ra)):Option Bool:=match s with
 |.str s=>Iv (aj ds s).isSome
 |.none=>Iv Lf
 |_=>LG
def Kg(x y:Ra):Option Bool:=match y with
 |.dict ds=>Ik x ds
 |y=>Fp x y
def Mb(x y:Ra):Option PyData:=(Kg x y).map .bool
def i9(x y:Ra):Option PyData:=match x,y with
 |.str s,.dict ds=>Iv (.bool (!(aj ds s).isSome))
 |_,.dict _=>LG
 |x,y=>(Fp x y).map λb=>.bool (!b)
def gc(hr:JL k X.A):HE X (RB .In) Mb:=⟨_,(zxb.or zuh).or ((zgt hr).or zgs),λO ts H T v1 v2 x y d Q hc h1 h2 e q=>by
 by_cases hd:∃ds,y=.dict ds
 .obtain⟨ds,rfl⟩:=hd
  obtain⟨a,kvs,rfl,t,r⟩:=h2.dct;obtain⟨b,hb,rfl⟩:=RO.mp e;have G7:Ik x ds=Iv b:=hb;unfold Ik at G7;split at G7
  .rename_i s
   cases G7;cases h1.str;refine .inr (.inl ⟨a,kvs,s,rfl,rfl,t,?_⟩)
   have e:(bT kvs (Sb s)).isSome=(aj ds s).isSome:=by
    rcases fW  r with⟨z1,z2⟩|⟨v,d,z1,z2,_⟩ <;> rw[z1,z2] <;> rfl
   rw[e];exact q _ H (.refl _ _) hc (.bl _)
  .cases G7
   cases h1.non;exact .inr (.inr ⟨a,kvs,rfl,rfl,t,q _ H (.refl _ _) hc (.bl _)⟩)
  .cases G7
 .have e':(Fp x y).map .bool=Iv d:=by
   cases y with
   |dict ds=>exact absurd ⟨ds,rfl⟩ hd
   |_=>exact e
  exact .inl (qg Lf O ts H T v1 v2 x y d Q hc h1 h2 e' q)⟩
def pz(hr:JL k X.A):HE X (RB .NotIn) i9:=⟨_,(zxd.or zui).or (zgu hr),λO ts H T v1 v2 x y d Q hc h1 h2 e q=>by
 by_cases hd:∃ds,y=.dict ds
 .obtain⟨ds,rfl⟩:=hd
  obtain⟨a,kvs,rfl,t,r⟩:=h2.dct
  cases x with
  |str s=>
   cases e;cases h1.str;refine .inr ⟨a,kvs,s,rfl,rfl,t,?_⟩
   have e:(bT kvs (Sb s)).isSome=(aj ds s).isSome:=by
    rcases fW  r with⟨z1,z2⟩|⟨v,d,z1,z2,_⟩ <;> rw[z1,z2] <;> rfl
   rw[e];exact q _ H (.refl _ _) hc (.bl _)
  |_=>cases e
 .have e':((Fp x y).map λb=>.bool (!b))=Iv d:=by
   cases y with
   |dict ds=>exact absurd ⟨ds,rfl⟩ hd
   |_=>cases x <;> exact e
  exact .inl (qg KN O ts H T v1 v2 x y d Q hc h1 h2 e' q)⟩
def Dz(x y:Ra):Option PyData:=match x,y with
 |.dict ds,.str s=>aj ds s
 |.dict _,_=>LG
 |x,y=>HN x y
def cV(hr:JL k X.A):An X Dz:=by
 obtain⟨r0,h0,s0⟩:=aV;refine⟨_,h0.or (zgv hr),λO ts H T v1 v2 x y d Q hc h1 h2 e q=>?_⟩
 by_cases hd:∃ds,x=.dict ds
 .obtain⟨ds,rfl⟩:=hd
  obtain⟨a,kvs,rfl,t,r⟩:=h1.dct
  cases y with
  |str s=>
   have e':aj ds s=Iv d:=e;cases h2.str
   rcases fW (s:=s) r with⟨z1,z2⟩|⟨v,d',z1,z2,rv⟩
   .simp_all
   .rw[z1] at e'
    cases e';exact .inr ⟨a,kvs,s,v,rfl,rfl,t,z2,q _ H (.refl _ _) hc rv⟩
  |_=>cases e
 .refine .inl (s0 O ts H T v1 v2 x y d Q hc h1 h2 ?_ q)
  cases x with
  |dict ds=>exact absurd ⟨ds,rfl⟩ hd
  |_=>exact e
def zgw(I:Inv X pins σ H s)(e:H a=Iv (.dK kvs))(I2:Inv X pins σ H2 s2)(e2:H2 a=Iv (.frz o (.dK kvs))):Inv X pins σ (upd H2 a (.dK kvs)) s2:=by
 have U:∀{b:Addr}{u:HO},H2 b=Iv u->(∀o ks,u≠.frz o ks)->upd H2 a (.dK kvs) b=Iv u:=λ{b u} q n=>by
  rw[aG (λz=>by subst z;rw[e2] at q;cases q;exact n _ _ rfl)];exact q
 have N:∀{b:Addr},H2 b=LG->upd H2 a (.dK kvs) b=LG:=λ{b} q=>by
  rw[aG (λz=>by simp_all)];exact q
 have hok:CJ _ X.w (upd H2 a _) _:=λb u q=>by
  by_cases hb:b=a
  .subst hb
   rw[a9] at q;cases q;exact Fs.stay (I2.hok b _ e2).2 (λ_ _ _ q=>q) (λc q=>U q (λ_ _ z=>nomatch z)) λc xs q=>U q (λ_ _ z=>nomatch z)
  .rw[aG hb] at q
   exact(I2.hok b u q).stay (λ_ _ _ q=>q) (λc q=>U q (λ_ _ z=>nomatch z)) λc xs q=>U q (λ_ _ z=>nomatch z)
 refine⟨I2.ok,I2.os,I2.bare,⟨I2.base.keep,I2.base.slot,λb ob q n hx=>N (I2.base.free b ob q n hx),I2.base.there,λb xs q=>U (I2.base.tups b xs q) (λ_ _ z=>nomatch z),λb ob u q=>?_,λb ps q=>?_⟩,I2.loc,I2.cell,N I2.free,λx c q=>N (I2.freeC x c q),λp hp=>?_,hok,I2.len⟩
 .have h1:=I.base.frzs b ob u q
  rw[aG (λz=>by grind)];exact I2.base.frzs b ob u q
 .obtain⟨more,h1⟩:=I2.base.tbls b ps q
  exact⟨more,U h1 (λ_ _ z=>nomatch z)⟩
 .obtain⟨k1,k2,k3⟩:=I2.pin p hp
  exact⟨k1,N k2,k3⟩
end
inductive Ln(P:Hp->VK->Prop):Hp->VK->Prop where
 |done {H:Hp}{Q:VK}:P H Q->Ln P H Q
 |frz {H:Hp}{Q:VK}{a:Addr}{kvs:List (Key×V)}:H a=Iv (.dK kvs)->(∀o,Ln P (upd H a (.frz o (.dK kvs))) (λv H2=>H2 a=Iv (.frz o (.dK kvs))/\Q v (upd H2 a (.dK kvs))))->Ln P H Q
def zgx(h:PE X e t):PE X e (λσ H Q=>Ln (t σ) H Q):=λpins s σ H Q I q=>by
 have key:∀{H:Hp}{Q:VK},Ln (t σ) H Q->Inv X pins σ H s->RP (RM X.prog X.w) X.A (eval e X.env) (EP X pins σ Q) X.xe s:=by
  intro H Q q
  induction q with
  |done q=>exact λI=>h pins s σ _ _ I q
  |frz ea _ ih=>
   intro I;obtain⟨o,I'⟩:=zvl I ea;refine JI (ih o I') λu s' ⟨v,H2,I2,r,e2,q2⟩=>?_;exact⟨v,_,zgw I ea I2 e2,r,q2⟩
 exact key q I
section
variable {K:Frag}
def TupAt.keep(h:∀b o,H b=Iv o->(∀ks,o≠.dK ks)->(∀ob ks,o≠.frz ob (.dK ks))->H' b=Iv o)(t:TupAt K (λ_=>False) H a vs):TupAt K (λ_=>False) H' a vs:=by
 rcases t with⟨n,t|⟨o,t⟩⟩|t
 .exact .inl ⟨n,.inl (h _ _ t (λ_ z=>nomatch z) (λ_ _ z=>nomatch z))⟩
 .exact .inl ⟨n,.inr ⟨o,h _ _ t (λ_ z=>nomatch z) (λ_ _ z=>nomatch z)⟩⟩
 .exact .inr t
mutual
theorem Rep.keep{H H':Hp}(h:∀b o,H b=Iv o->(∀ks,o≠.dK ks)->(∀ob ks,o≠.frz ob (.dK ks))->H' b=Iv o):∀{v:V}{d:Ra},Rep K (λ_=>False) H v d->bh d=KN->Rep K (λ_=>False) H' v d
 |_,_,.non,_=>.non
 |_,_,.bl b,_=>.bl b
 |_,_,.int i,_=>.int i
 |_,_,.str x,_=>.str x
 |_,_,.tup t r,e=>.tup (t.keep h) (EE.keep h r (by simpa[bh] using e))
 |_,_,.lst t r,e=>by simp[bh] at e
 |_,_,.dct n t r,e=>by simp[bh] at e
theorem EE.keep{H H':Hp}(h:∀b o,H b=Iv o->(∀ks,o≠.dK ks)->(∀ob ks,o≠.frz ob (.dK ks))->H' b=Iv o):∀{vs:List V}{ds:List Ra},EE K (λ_=>False) H vs ds->bR ds=KN->EE K (λ_=>False) H' vs ds
 |_,_,.nil,_=>.nil
 |_,_,.cons (d:=d) (ds:=ds) r t,e=>by
  have e':(bh d&&bR ds)=KN:=by simpa[bR] using e
  rw[Ro] at e';exact .cons (Rep.keep h r e'.1) (EE.keep h t e'.2)
end
end
def Ma:W->Option W
 |.d x=>Iv (.d x)
 |.loc x=>Iv (.d x)
 |.tp _=>LG
def c7(ρ:XE):XE:=ρ.map λo=>o.bind Ma
def Fz(O:Addr->Prop)(H0 H:Hp):Prop:=∀b,H b=H0 b\/∃kvs o,O b/\H0 b=Iv (.dK kvs)/\H b=Iv (.frz o (.dK kvs))
section
variable {K:Frag}{O:Addr->Prop}{ts:List Addr}{H0 H:Hp}{T:Tp}{σ:L2.St}{ρ:XE}
def zxw(re:LZ K O ts H0 σ ρ)(fz:Fz O H0 H)(all:∀(j:Nat) (a:Addr) (ds:List (Ra×Ra)),ρ[j]? = Iv (Iv (.loc (.dict ds)))->σ[j]? = Iv (Iv (.ref a))->∃o kvs,H a=Iv (.frz o (.dK kvs))):LZ K (λ_=>False) [] H σ (c7 ρ):=by
 have le:Le O H0 _ H:=λb o n e=>⟨λz=>z,by
  rcases fz b with q|⟨_,_,q,_,_⟩<;>simp_all⟩
 intro i w e;unfold c7 at e;rw[Sf] at e
 cases hu:ρ[i]? with
 |none=>simp_all
 |some u=>
  cases u with
  |none=>simp_all
  |some u=>
   rw[hu] at e;have e':=SA e;obtain⟨v,h1,h2⟩:=re i u hu
   cases u with
   |d x=>cases e';exact⟨v,h1,Rep.mono le h2⟩
   |tp k=>cases e'
   |loc x=>
    cases e';obtain⟨a,rfl,k1,k2,k3⟩:=h2;refine⟨_,h1,?_⟩
    cases x with
    |list xs=>
     obtain⟨vs,k3,k4⟩:=k3;refine .lst (.inl ⟨λz=>z,.inl ?_⟩) (k4.mono le)
     rcases fz a with q|⟨_,_,_,q,_⟩<;>simp_all
    |dict ds=>
     obtain⟨kvs,k3,k4⟩:=k3;obtain⟨o,kvs',h3⟩:=all i a ds hu h1
     rcases fz a with q|⟨Dg,o2,_,q,q2⟩
     .simp_all
     .rw[k3] at q
      cases q;exact .dct (λz=>z) q2 (k4.mono le)
    |_=>cases k3
theorem pU(hx:bh x=KN)(re:LZ K O ts H0 σ ρ)(fin:∀H Q,LZ K (λ_=>False) [] H σ (c7 ρ)->(∀v H2,F7 [] H H2->Rep K (λ_=>False) H2 v x->Q v H2)->P H Q):∀(k:Nat) {H:Hp}{Q:VK},Fz O H0 H ->
  (∀(j:Nat) (a:Addr) (ds:List (Ra×Ra)),k<=j->ρ[j]? = Iv (Iv (.loc (.dict ds)))->σ[j]? = Iv (Iv (.ref a))->∃o kvs,H a=Iv (.frz o (.dK kvs)))->(∀v H2,F7 [] H H2->Rep K (λ_=>False) H2 v x->Q v H2)->Ln P H Q
 |0,H,Q,fz,all,q=>.done (fin H Q (zxw re fz λj a ds=>all j a ds (Sj _)) q)
 |k+1,H,Q,fz,all,q=>by
  by_cases h:∃ds,ρ[k]? = Iv (Iv (.loc (.dict ds)))
  .obtain⟨ds,h⟩:=h
   obtain⟨v,h1,a,rfl,k1,k2,kvs,k3,k4⟩:=re k _ h
   rcases fz a with z|⟨Dg,o2,_,z,z2⟩
   .rw[k3] at z
    refine .frz z λo=>pU hx re fin k (λb=>?_) (λj b es hj e1 e2=>?_) (λv H2 s2 r=>?_)
    .by_cases hb:b=a
     .subst hb;exact .inr ⟨kvs,o,k1,k3,a9⟩
     .rw[aG hb];exact fz b
    .by_cases hb:b=a
     .subst hb;exact⟨o,kvs,a9⟩
     .rw[aG hb]
      by_cases hk:k=j
      .subst hk;rw[h1] at e2;cases e2;exact absurd rfl hb
      .exact all j b es (by omega) e1 e2
    .have ha:H2 a=Iv (.frz o (.dK kvs)):=s2 a _ (by simp) a9
     refine⟨ha,q v _ (λb ob _ e=>?_) (Rep.keep (λb ob e n1 n2=>?_) r hx)⟩
     .by_cases hb:b=a
      .subst hb;rw[z] at e;cases e;exact a9
      .rw[aG hb]
       exact s2 b ob (by simp) (by rw[aG hb];exact e)
     .have hb:b≠a:=λz=>by subst z;rw[ha] at e;cases e;exact n2 _ _ rfl
      rw[aG hb];exact e
   .refine pU hx re fin k fz (λj b es hj e1 e2=>?_) q
    by_cases hk:k=j
    .subst hk;rw[h1] at e2;cases e2;exact⟨o2,Dg,z2⟩
    .exact all j b es (by omega) e1 e2
  .refine pU hx re fin k fz (λj b es hj e1 e2=>?_) q
   by_cases hk:k=j
   .subst hk;exact absurd ⟨es,e1⟩ h
   .exact all j b es (by omega) e1 e2
end
noncomputable def qH(T:Tp)(o:Option (W×Tp)):Option (W×Tp):=match o with
 |some (.d x,_)=>if bh x=KN then Iv (.d x,T) else LG
 |_=>LG
def kU(f:FE):FE:=λρ T=>qH T (f (c7 ρ) [])
def zxx(he:DE X e f):DE X e (kU f):=by
 refine⟨bx (zgx he.pe) λσ H Q=>?_⟩;rintro⟨O,ts,ρ,T,w,T',hc,re,e,q⟩;unfold kU qH at e;split at e
 .rename_i x T1 h1
  split at e
  .rename_i hx
   cases e;refine pU hx re (λH1 Q1 re1 q1=>⟨λ_=>False,[],c7 ρ,[],.d x,T1,⟨λb hb=>(by cases hb),λb hb=>hb.elim,UY,rfl,λi a xs e1 _=>by simp at e1⟩,re1,h1,λv H2 s2 _ r2=>q1 v H2 s2 r2⟩) ρ.length (λb=>.inl rfl) (λj a ds hj e1 _=>?_) (λv H2 s2 r2=>?_)
   simp_all
   .have La:F7 ts H H2:=λb o _ q=>s2 b o (by simp) q
    have hm:=λb hb=>(hc.trk b hb).to λu z=>s2 b _ (by simp) z
    have JY:=hc.step La λb hb=>by
     obtain⟨u,z⟩:=(hc.trk b (hc.own b hb)).ex;rw[z];exact s2 b _ (by simp) z
    exact q v H2 La JY (Rep.own hm r2 hx)
  .cases e
 .cases e
section
variable {X:Cx}{pos:Pos}{e:Expr}{fe:FE}
noncomputable def eG(i:Nat):FS:=λρ T=>Iv ((.nx,ρ.set i (Iv (.loc (.dict [])))),T)
def i5(hN:X.N.Nodup)(hi:autoParam (X.N[i]? = Iv x) u10)(hx:autoParam (Loc X.env.scope x) u16)
  (hs:autoParam (So (.Dict [] [] Eg) (Iv (.Name x pos')) pos.line X.env=pure Lf) u10) (hf:autoParam (X.fn x=KN\/X.env.scope.names.lookup x=Iv .local) u13):DS X (.Assign [.Name x pos'] (.Dict [] [] Eg) pos) (eG i):=by
 refine⟨?_⟩;refine b7 (fm hN hi hx zur hs hf) λD σ H=>?_;rintro⟨Cz,H₀,F,ts,O,ρ,T,fl,ρ',T',rs,e,q⟩;cases e;intro p hp;exact q _ _ _ (rs.ownO hp (.inr (.inl ⟨_,rfl⟩)) λle=>⟨[],a9,.nil⟩)
def zgy:Fh X (.type "dict") (λxs H Q=>∃a kvs,xs=[V.ref a]/\Rd H a (.dK kvs)/\∀p,H p=LG->Q (.ref p) (upd H p (.dK kvs))):=by
 intro pins s σ H xs us Q I r h;obtain⟨a,kvs,rfl,ha,q⟩:=h;obtain⟨u,rfl,ru⟩:=vals1 r;cases ru;exact zdk I ha λp s' hp I'=>⟨.ref p,_,I',rfl,q p hp⟩
noncomputable def nT(o:Option Ra):Option (List (Ra×Ra)):=match o with
 |some (.dict ds)=>Iv ds
 |_=>LG
noncomputable def qh(i:Nat)(ρ:XE)(o:Option (List (Ra×Ra)))(T:Tp):Option ((Fl×XE)×Tp):=match o with
 |some ds=>Iv ((.nx,ρ.set i (Iv (.loc (.dict ds)))),T)
 |none=>LG
def kA(i:Nat)(f:FE):FS:=λρ T=>G5 (f ρ T) λw T1=>qh i ρ (nT (view T1 w)) T1
def zgz(h:nT o=Iv ds):o=Iv (.dict ds):=by
 unfold nT at h
 split at h<;>simp_all
def zxy(hm:X.mg "dict"=LG)(hN:X.N.Nodup)(he:DE X e fe)(hi:autoParam (X.N[i]? = Iv x) u10)(hx:autoParam (Loc X.env.scope x) u16)(hg:autoParam (Gl X "dict") u10)
  (IS:autoParam (Rk [e] X.env=(Lf,eval e X.env)::Rk [] X.env) u12) (Mh:autoParam ((R6 cpos (Rk [] X.env)).any (·.1)=Lf) u15)
  (hs:autoParam (So (.Call (.Name "dict" p) [e] [] cpos) (Iv (.Name x pos')) pos.line X.env=pure Lf) u10) (hf:autoParam (X.fn x=KN\/X.env.scope.names.lookup x=Iv .local) u13) :
  DS X (.Assign [.Name x pos'] (.Call (.Name "dict" p) [e] [] cpos) pos) (kA i fe):=by
 refine⟨?_⟩;refine b7 (fm hN hi hx (rW zgy hg hm ZD (cn he.pe cM IS) (by decide) (by decide) IS Mh) hs hf) λD σ H=>?_;rintro⟨Cz,H₀,F,ts,O,ρ,T,fl,ρ',T',rs,e,q⟩;obtain⟨w,T1,e1,e⟩:=aF e;unfold qh at e;split at e
 .rename_i ds hd
  cases e;have hv:=zgz hd;refine⟨O,ts,ρ,T,w,_,rs.hc,rs.re,e1,λv H1 s1 C3 r1=>?_⟩;obtain⟨a,kvs,rfl,t,r⟩:=(C3.view r1 hv).dct;exact⟨a,kvs,rfl,t,λp hp=>q _ _ _ ((rs.step s1 C3).ownO  hp (.inr (.inl ⟨_,rfl⟩)) λle=>⟨kvs,a9,r.mono le⟩)⟩
 .cases e
def putN(ds:List (Ra×Ra))(s:Str)(x:Ra):List (Ra×Ra):=if (aj ds s).isSome=KN then cc ds s x else ds++[(.str s,x)]
theorem JU.app{K:Frag}{O:Addr->Prop}{H:Hp}{s:Str}{v:V}{x:Ra}(rx:Rep K O H v x):∀{kvs:List (Key×V)}{ds:List (Ra×Ra)},JU K O H kvs ds->JU K O H (kvs++[(Sb s,v)]) (ds++[(.str s,x)])
 |_,_,.nil=>.cons  rx .nil
 |_,_,.cons r t=>.cons r (JU.app rx t)
def zxz{K:Frag}{O:Addr->Prop}{H:Hp}{s:Str}{v:V}{x:Ra}(rx:Rep K O H v x){kvs:List (Key×V)}{ds:List (Ra×Ra)}(r:JU K O H kvs ds):JU K O H (putK kvs (Sb s) v) (putN ds s x):=by
 unfold putN
 rcases fW  r with⟨z1,z2⟩|⟨v',d',z1,z2,_⟩
 .rw[z1,zcx v z2]
  exact r.app rx
 .rw[z1]
  have Hi:=zwr (by rw[z2];rfl);unfold putK;rw[if_pos Hi];exact oJ rx r
def qB(i:Nat)(ρ:XE)(ds:List (Ra×Ra))(w k:W)(T:Tp):Option ((Fl×XE)×Tp):=match w,k with
 |.d x,.d (.str s)=>if ds.length<=1000 then Iv ((.nx,ρ.set i (Iv (.loc (.dict (putN ds s x))))),T) else LG
 |_,_=>LG
def qA(i:Nat)(fk:FE)(ρ:XE)(w:W)(T:Tp)(o:Option (Option W)):Option ((Fl×XE)×Tp):=match o with
 |some (Iv (.loc (.dict ds)))=>G5 (fk ρ T) (qB i ρ ds w)
 |_=>LG
def c8(i:Nat)(fk fv:FE):FS:=λρ T=>G5 (fv ρ T) λw T1=>qA i fk ρ w T1 ρ[i]?
def fh(hr:JL k X.A)(hk:DE X kx fk)(he:DE X e fv)(hN:autoParam (X.N[i]? = Iv x) u10)(hv:autoParam (EC X.env.scope x) u18)(hd:autoParam ((x == ("__debug__" : Str))=Lf) u11)
  (hcd:autoParam ((x == ("__classdict__" : Str))=Lf) u11) (hs:autoParam (So e (Iv (.Subscript (.Name x p) kx pos')) pos.line X.env=pure Lf) u10):DS X (.Assign [.Subscript (.Name x p) kx pos'] e pos) (c8 i fk fv):=by
 refine⟨?_⟩;refine b7 (sX (gN hr) (pv i hN hv hd hcd) hk.pe he.pe hs) λD σ H=>?_;rintro⟨Cz,H₀,F,ts,O,ρ,T,fl,ρ',T',rs,e,q⟩;obtain⟨w,T1,e1,e⟩:=aF e;refine⟨O,ts,ρ,T,w,T1,rs.hc,rs.re,e1,λv H1 s1 C3 r1=>?_⟩;have Ez:=rs.step s1 C3;unfold qA at e;split at e
 .rename_i ds c3
  obtain⟨wk,T3,e3,e⟩:=aF e;unfold qB at e;split at e
  .rename_i xv s _
   split at e
   .rename_i c2
    cases e;obtain⟨u,k1,a,rfl,k2,k3,kvs,k4,k5⟩:=Ez.re i _ c3;refine⟨_,k1,O,ts,ρ,T1,_,_,Ez.hc,Ez.re,e3,λy H3 s3 HM r3=>?_⟩;have EH:=Ez.step s3 HM;cases (show Rep X.K O H3 y (.str s) from r3);have Je:H3 a=Iv (.dK kvs):=s3 _ _ k3 k4;have Gw:JU X.K O H3 kvs ds:=k5.mono (C3.le s3)
    have JW:kvs.length<sizeLine:=by
     rw[pq Gw];exact R5 c2 (by decide)
    have rx:Rep X.K O H3 v xv:=Hy.mono (w:=.d xv) r1 C3 s3;refine⟨a,_,rfl,D7.k (k:=(Sb s:Key)) Je JW,?_⟩;exact q O σ _ (EH.putO c3 k1 (.inr (.inl ⟨_,rfl⟩)) λle=>⟨_,a9,zxz (Rep.mono le rx) (Gw.mono le)⟩)
   .cases e
  .cases e
 .cases e
end
def Bx(n:Nat):W->Option W
 |.tp k=>if k<n then Iv (.tp k) else LG
 |w=>Iv w
def iA(n:Nat)(ρ:XE):XE:=ρ.map λo=>o.bind (Bx n)
def jZ(n:Nat)(o:Option ((Fl×XE)×Tp)):Option ((Fl×XE)×Tp):=match o with
 | some ((fl,ρ'),T3)=>(match m7 T3 with
  |some (T4,_)=>if T4.length=n then Iv ((fl,iA n ρ'),T4) else LG
  | none=>LG)
 |none=>LG
def openK(i:Nat)(fr:FS)(ρ:XE)(o:Option (List Ra))(T1:Tp):Option ((Fl×XE)×Tp):=match o with
 |some xs=>if xs.length<=1000 then jZ T1.length (fr (ρ.set i (Iv (.tp T1.length))) (T1++[xs])) else LG
 |none=>LG
def jg(i:Nat)(g:FA)(fr:FS):FS:=λρ T=>G5 (g ρ T) λws T1=>openK i fr ρ (eI ws) T1
section
variable {K:Frag}{Cz:Addr->Prop}{H₀:Hp}{F:List ((Addr->Prop)×Hp)}{ts:List Addr}{O:Addr->Prop}{H:Hp}{σ:L2.St}{ρ:XE}{T:Tp}{X:Cx}{pos:Pos}{rest:List Stmt}{fr:FS}
def RS.openR(r:RS K Cz H₀ F ts O H σ ρ T)(hp:H p=LG)(rv:EE K O H vs xs) :
  RS K (λb=>Cz b\/b=p) H₀ F (ts++[p]) (λb=>O b\/b=p) (upd H p (.lst vs)) (σ.set i (Iv (.ref p))) (ρ.set i (Iv (.tp T.length))) (T++[xs]):=by
 have nO:=r.hc.fresh hp;have nt:p∉ts:=λz=>nO (r.hc.own _ z)
 have le:Le O H (λb=>O b\/b=p) (upd H p (.lst vs)):=λa o n e=>by
  have z1:a≠p:=di e hp;exact⟨λq=>q.elim n z1,by rw[aG z1];exact e⟩
 have hw:∀ys,W.tp T.length≠.loc ys:=λ_ z=>nomatch z
 refine⟨⟨λb hb=>?_,λb hb=>?_,?_,by simp[r.hc.len],λj b zs q1 q2=>?_⟩,λj w e=>?_,λb hb=>hb.elim (λz=>.inl (r.sub b z)) .inr,λb hb=>?_,λb o n e=>?_,λj xs a e1 e2=>?_,λj k xs ys v e1 e2 e3 e4=>?_,λf hf=>(r.frs f hf).trans le,by simp[r.len]⟩
 .rcases Ry.mp hb with z|z
  .exact .inl (r.hc.own b z)
  .exact .inr (RD.mp z)
 .by_cases z:b=p
  .rw[z,a9];exact .inl ⟨_,rfl⟩
  .rw[aG z];exact r.hc.trk b (hb.resolve_right z)
 .rw[SM]
  exact⟨r.hc.nd,by simp,λb hb c hc z=>nt (by rw[←RD.mp hc,←z];exact hb)⟩
 .by_cases hj:j<ts.length
  .rw[RH hj] at q1
   rw[RH (by rw[←r.hc.len];exact hj)] at q2;exact(r.hc.tape j b zs q1 q2).mono (λo h1=>by rw[aG (di h1 hp)];exact h1) le
  .have GY:j=ts.length:=by
    have:=(Rh.mp q1).1;simp at this;omega
   subst GY
   have e1:b=p:=by simpa using q1.symm
   have e2:zs=xs:=by rw[r.hc.len] at q2;simpa using q2.symm
   subst e1 e2;exact .inl ⟨rv.notO,vs,a9,rv.mono le⟩
 .by_cases z:i=j
  .subst z
   have hl:i<ρ.length:=by
    have:=(Rh.mp e).1;simpa using this
   rw[Rt hl] at e;cases e;exact⟨.ref p,by rw[Rt (by rw[r.len];exact hl)],p,by rw[←r.hc.len];simp,rfl⟩
  .rw[Rm z] at e
   obtain⟨x,h1,h2⟩:=r.re j w e;refine⟨x,by rw[Rm z];exact h1,?_⟩
   cases w with
   |d y=>exact Rep.mono le h2
   |tp k=>
    obtain⟨a,k1,k2⟩:=h2;exact⟨a,by rw[RH (Rh.mp k1).1];exact k1,k2⟩
   |loc ys=>
    obtain⟨a,e1,m1,m2,m3⟩:=h2;have na:a≠p:=λz=>nO (z ▸ m1);refine⟨a,e1,.inl m1,λz=>?_,m3.mono (λo' q=>by rw[aG na];exact q) le⟩
    rcases Ry.mp z with z|z
    .exact m2 z
    .exact na (RD.mp z)
 .rcases Ry.mp hb with z|z
  .exact .inl (r.ots b z)
  .exact .inr (RD.mp z)
 .have nb:b∉ts:=λz=>n (SW _ z)
  have e1:=r.same b o nb e;rw[aG (di e1 hp)];exact e1
 .obtain⟨n,e⟩:=gD hw e1
  rw[Rm (Tn n)] at e2;obtain⟨f1,f2⟩:=r.fresh j xs a e e2;refine⟨f1,λz=>z.elim f2 λz=>?_⟩;obtain⟨v,h1,a',ea,m1,_⟩:=r.re j _ e;rw[e2] at h1;cases h1;cases ea;exact nO (z ▸ m1)
 .obtain⟨n1,e1⟩:=gD hw e1
  obtain⟨n2,e2⟩:=gD hw e2;rw[Rm (Tn n1)] at e3;rw[Rm (Tn n2)] at e4;exact r.dist j k xs ys v e1 e2 e3 e4
def RS.closeR(ots:∀b∈ts,Cz b)(nt:p∉ts)(h0:H₀ p=LG)(n0:¬Cz p)(r:RS K (λb=>Cz b\/b=p) H₀ F (ts++[p]) O H σ ρ (T++[row])):RS K Cz H₀ F ts O H σ (iA T.length ρ) T:=by
 have HW:ts.length=T.length:=by have:=r.hc.len;simp at this;exact this
 have at_:∀{j:Nat}{w:W},(iA T.length ρ)[j]? = Iv (Iv w)->ρ[j]? = Iv (Iv w)/\∀k,w=.tp k->k<T.length:=λ{j w} e=>by
  unfold iA at e;rw[Sf] at e
  cases hu:ρ[j]? with
  |none=>simp_all
  |some u=>
   cases u with
   |none=>simp_all
   |some u=>
    rw[hu] at e;have e':Bx T.length u=Iv w:=SA e
    cases u with
    |d x=>cases e';exact⟨rfl,λk z=>nomatch z⟩
    |loc x=>cases e';exact⟨rfl,λk z=>nomatch z⟩
    |tp k=>
     have e2:(if k<T.length then Iv (W.tp k) else LG)=Iv w:=e';split at e2
     .lia
     .cases e2
 refine⟨⟨λb hb=>r.hc.own b (SW _ hb),r.hc.trk,(SM.mp r.hc.nd).1,HW,λj b zs q1 q2=>?_⟩,λj w e=>?_,λb hb=>r.sub b (.inl hb),ots,λb o n e=>?_,λj xs a e1 e2=>?_,λj k xs ys v e1 e2 e3 e4=>?_,r.frs,by simp[iA,r.len]⟩
 .have hj:j<ts.length:=(Rh.mp q1).1
  exact r.hc.tape j b zs (by rw[RH hj];exact q1) (by rw[RH (by rw[←HW];exact hj)];exact q2)
 .obtain⟨e1,hk⟩:=at_ e
  obtain⟨v,h1,h2⟩:=r.re j w e1;refine⟨v,h1,?_⟩
  cases w with
  |d x=>exact h2
  |tp k=>
   obtain⟨a,k1,k2⟩:=h2;have:=hk k rfl;exact⟨a,by rw[RH (by rw[HW];exact this)] at k1;exact k1,k2⟩
  |loc x=>
   obtain⟨a,k1,k2,k3,k4⟩:=h2;exact⟨a,k1,k2,λz=>k3 (SW _ z),k4⟩
 .refine r.same b o (λz=>?_) e<;>simp_all
 .obtain⟨f1,f2⟩:=r.fresh j xs a (at_ e1).1 e2
  exact⟨f1,λz=>f2 (.inl z)⟩
 .exact r.dist j k xs ys v (at_ e1).1 (at_ e2).1 e3 e4
def zha
  (rs:RS X.K Cz H₀ F ts O H σ ρ T) (hp:H p=LG) (rv:EE X.K O H vs xs) (e:jZ T.length (fr (ρ.set i (Iv (.tp T.length))) (T++[xs]))=Iv ((fl,ρ'),T')) (q:BQ X.K Cz H₀ F ts D ρ' T' fl):qG X.K fr D (σ.set i (Iv (.ref p))) (upd H p (.lst vs)):=by
 have nO:=rs.hc.fresh hp;have nt:p∉ts:=λz=>nO (rs.hc.own _ z)
 have h0:H₀ p=LG:=by
  cases e:H₀ p with
  |none=>rfl
  |some o=>rw[rs.same p o nt e] at hp;cases hp
 have n0:¬Cz p:=λz=>nO (rs.sub p z);have Ez:=rs.openR (i:=i) hp rv;generalize hE:fr (ρ.set i (Iv (.tp T.length))) (T++[xs])=E at e;unfold jZ at e;split at e
 .rename_i Er JT T3
  split at e
  .rename_i T4 row hT
   split at e
   .rename_i JW
    have eT:=zgg hT;subst eT;cases e;have lb:∀{G:Hp},Le (λb=>Cz b\/b=p) G Cz G:=λa o n e=>⟨λz=>n (.inl z),e⟩
    have C1:∀{G:Hp}{B:Addr->Prop},HC X.K B (ts++[p]) G (T'++[row])->ts.length=T'.length:=λh=>by have:=h.len;simp at this;exact this
    have G3:∀{G:Hp},F7 (ts++[p]) H₀ G->F7 ts H₀ G:=λs b o n e=>s b o (λz=>by simp_all) e;refine⟨_,H₀,F,ts++[p],_,_,_,fl,JT,T'++[row],Ez,hE,?_⟩;have IU:T.length=T'.length:=JW.symm
    cases fl with
    |nx=>exact λO' σ' H' r=>q O' σ' H' (by rw[IU];exact RS.closeR rs.ots nt h0 n0 r)
    |bk=>exact λO' σ' H' r=>q O' σ' H' (by rw[IU];exact RS.closeR rs.ots nt h0 n0 r)
    |ct=>exact λO' σ' H' r=>q O' σ' H' (by rw[IU];exact RS.closeR rs.ots nt h0 n0 r)
    |rt y=>
     intro v H' s1 c1 r1;refine q v H' (G3 s1) ⟨rs.ots,λb hb=>c1.trk b (.inl hb),rs.hc.nd,C1 c1,λj b zs q1 q2=>?_⟩ (Rep.mono lb r1);have hj:j<ts.length:=(Rh.mp q1).1;exact(c1.tape j b zs (by rw[RH hj];exact q1) (by rw[RH (by rw[←C1 c1];exact hj)];exact q2)).mono (λ_ h=>h) lb
    |ro y=>
     intro A v H' s1 hA c1 o1;have lb2:Le (λb=>(Cz b\/b=p)\/A b) H' (λb=>Cz b\/A b) H':=λb o n e=>⟨λz=>n (z.elim (λz=>.inl (.inl z)) .inr),e⟩;refine q A v H' (G3 s1) (λb hb=>⟨(hA b hb).1,λz=>(hA b hb).2 (.inl z)⟩) ⟨λb hb=>.inl (rs.ots b hb),λb hb=>c1.trk b (hb.elim (λz=>.inl (.inl z)) .inr),rs.hc.nd,C1 c1,λj b zs q1 q2=>?_⟩ (LU.mono lb2 o1);have hj:j<ts.length:=(Rh.mp q1).1;exact(c1.tape j b zs (by rw[RH hj];exact q1) (by rw[RH (by rw[←C1 c1];exact hj)];exact q2)).mono (λ_ h=>h) lb2
   .cases e
  .cases e
 .cases e
def r8(hN:X.N.Nodup)(he:DA X es g)(Gk:JR X rest fr)(hi:autoParam (X.N[i]? = Iv x) u10)(hx:autoParam (Loc X.env.scope x) u16)
  (hs:autoParam (So (.List es J0) (Iv (.Name x pos')) pos.line X.env=pure Lf) u10) (hf:autoParam (X.fn x=KN\/X.env.scope.names.lookup x=Iv .local) u13):JR X (.Assign [.Name x pos'] (.List es J0) pos::rest) (jg i g fr):=by
 refine⟨?_⟩;refine hZ (jR (fm hN hi hx (kg he.pe) hs hf) Gk.pe) λD σ H=>?_;rintro⟨Cz,H₀,F,ts,O,ρ,T,fl,ρ',T',rs,e,q⟩;obtain⟨ws,T1,e1,e⟩:=aF e;refine⟨O,ts,ρ,T,ws,T1,rs.hc,rs.re,e1,λvs H1 s1 C3 r1=>?_⟩;unfold openK at e;split at e
 .rename_i xs h1
  split at e
  .rename_i h2
   have rv:=me r1 h1;exact⟨pV (by rw[rv.length];exact h2),λp hp=>zha (rs.step s1 C3) hp rv e q⟩
  .cases e
 .cases e
end
def zhb:entryFor table "dict_itemiterator.__iter__"=Iv Zr.«dict_keyiterator.__iter__»:=by kernel_rfl
def zhc(v:Re):Meets (Zr.«dict_keyiterator.__iter__» { pos:=[v] }) (λ_ R s=>R (.ok (.ret v)) s):=by
 intro prog w A R s h;refine Rr ?_;exact Rx (Rx h)
def Iti(a:Addr)(o:Obj)(kvs:List (Key×V)):It:=⟨λi H=>H a=Iv (.frz o (.dK kvs))/\i<kvs.length,λi H x H'=>∃p k v,H p=LG/\kvs[i]? = Iv (k,v)/\x=.ref p/\H'=upd H p (.tup [kV k,v]),λi H=>H a=Iv (.frz o (.dK kvs))/\i=kvs.length⟩
def zhd:∀{i:Nat},KV kvs vs->i<kvs.length->∃k v u,kvs[i]? = Iv (k,v)/\vs[i]? = Iv (k,u)/\RelV v u:=by
 intro i r h
 induction r generalizing i with
 |nil=>simp at h
 |cons r1 r2 ih=>
  cases i with
  |zero=>
   rename_i p q _ _;refine⟨p.1,p.2,q.2,rfl,?_,r1.2⟩;rw[r1.1];rfl
  |succ i=>
   simp_all
def zhe{P:RC}{w:RX}{K:Frag}{Lh:List Expr}{x1:Nat}{L4:Pos}(a it:Addr)(o:Obj)(kvs:List (Key×V)) :
  Turn P w K (.Tuple Lh x1 L4) (Iti a o kvs) [it] it (λi h=>∃ok ov,IsItemIter h it a i kvs.length (iH o) ok ov) where
 mem:=by simp
 obj:=λi h st b hb=>by
  have e:b=it:=by simpa using hb
  subst e;obtain⟨ok,ov,st⟩:=st
  exact⟨_,st,λv z=>by
   have z':Data.fields _=Data.cell v:=z
   cases z'⟩
 keep:=λi h h' ⟨ok,ov,st⟩ k=>⟨ok,ov,k it (by simp) _ st⟩
 item:=by
  intro X hP hw hK hc i pins s σ H E I hf st hg;subst hP hw hK;obtain⟨ok,ov,st⟩:=st;obtain⟨Kv,KZ⟩:=hg;obtain⟨z,y,vs,kv,dd⟩:=iV I.hok Kv;obtain⟨f0,f1,f2,f3,f4,f5⟩:=hf it (by simp);have hl:=kv.length;obtain⟨k,v0,u0,q1,q2,q3⟩:=zhd kv KZ;rw[hl] at st;refine wpAny_pyNext_items_item (knd:=bP X.prog X.w) st dd q2 λkey h' hk st' hT hsz DQ=>?_;refine⟨.ref s.heap.objs.size,rfl,wpAny_letOwnedTupleGo_items st' λFR Am Ea=>?_⟩;have hit:it<s.heap.objs.size:=Rv st;have Kp:s.heap.objs.size≠it:=Us hit;have hn:H s.heap.objs.size=LG:=I.hok.fresh (Rn _);have T1:YH (s.heap.push { cls:=.type "tuple",data:=.seq #[key,u0] }) s.heap.objs.size #[key,u0]:=W5 ..
  have I1:Inv X pins σ (upd H s.heap.objs.size (.tup [kV k,v0])) { s with heap:=s.heap.push { cls:=.type "tuple",data:=.seq #[key,u0] } }:=
   I.laid (t':=s.toks) (o:=.tup [kV k,v0]) (λb ob e=>Ri _ e) (Rn _) ⟨by show 2<=Rp;decide,[key,u0],.cons (Jb hk) (.cons q3 .nil),T1⟩
  have K:∀b ob,b≠it->(s.heap.push { cls:=.type "tuple",data:=.seq #[key,u0] }).get? b=Iv ob->FR.get? b=Iv ob:=λb ob hb e=>by
   by_cases hbs:b=s.heap.objs.size
   .subst hbs
    rw[RA _ (by rfl)] at e;cases e;exact(Ea.2 _ hb).trans hT
   .have e0:s.heap.get? b=Iv ob:=by
     rw[←Heap.get?_push_ne _ _ _ hbs];exact e
    exact(Ea.2 b hb).trans (DQ b ob hb e0)
  have I2:Inv X pins σ (upd H s.heap.objs.size (.tup [kV k,v0])) { s with heap:=FR }:=Inv.turned (s:={ s with heap:=s.heap.push { cls:=.type "tuple",data:=.seq #[key,u0] } }) (t':=s.toks) (h':=FR) (it:=it) I1 K (by rw[aG (Tn Kp)];exact f0) f1 f3 f4 f5;refine⟨.ref s.heap.objs.size,_,I2,rfl,⟨s.heap.objs.size,k,v0,hn,q1,rfl,rfl⟩,⟨_,_,by rw[hl];exact Am⟩,λb hb=>?_⟩
  have e:b=it:=by simpa using hb
  subst e;rw[aG (Tn Kp)];exact f0
 done:=by
  intro X hP hw hK hc i pins s σ H E I hf st hg;subst hP hw hK;obtain⟨ok,ov,st⟩:=st;obtain⟨Kv,KZ⟩:=hg;obtain⟨z,y,vs,kv,dd⟩:=iV I.hok Kv;obtain⟨f0,f1,f2,f3,f4,f5⟩:=hf it (by simp);have hl:=kv.length;rw[hl] at st;exact wpAny_pyNext_items_end (knd:=bP X.prog X.w) (I.ok.hd hc) st dd (by rw[Ux];omega) λh' eb=>⟨rfl,I.turned (t':=s.toks) (λb ob hb e=>eb b ob hb e) f0 f1 f3 f4 f5⟩
 self:=λA i s Q E ⟨ok,ov,st⟩ h=>by
  have ty:s.TypeIs (.ref it) "dict_itemiterator":=⟨_,st,rfl⟩;refine wpAny_pyIter_slot ty UD ?_;exact Ub UD ty zhb (PySem.F.args_dict_itemiterator_iter_1 _) (zhc _) ⟨"dict_itemiterator",_,ty,PySem.F.slot_dict_itemiterator_next.lookup,h⟩
section
variable {X:Cx}{pos:Pos}
def KB(tl:TE):TI:=λσ H R=>tl σ H λx H1=>∃a o kvs,x=.ref a/\H1 a=Iv (.frz o (.dK kvs))/\(kvs.length<=Rp->R (Iti a o kvs) H1)
def zhf(ho:PE X ob tl)(Fx:autoParam (Sa ob "items" X.env (eval ob X.env)=eval ob X.env) u10)(JV:autoParam ((apos.endLine == cpos.line)=KN) u10) :
  PI X (.Tuple Lh x1 L4) (.Call (.Attribute ob "items" apos) [] [] cpos) (KB tl):=by
 intro pins s σ H R I h;refine V7 Fx JV (JI (ho pins s σ H _ I h) λv s1 ⟨x,H1,I1,r1,a,o,kvs,ex,ha,q⟩=>?_);subst ex;cases (show v=Sn a from r1);obtain⟨z,y,vs,kv,dd⟩:=iV I1.hok ha;have dOf:=dd.dictOf;obtain⟨od,_,_,eo,ex,_⟩:=id dOf;refine⟨"dict","dict.items",V9,Wd,PySem.F.type_dict_items,⟨od,eo,ex.1⟩,λb e2=>by cases e2;exact⟨od,eo,ex.2.1⟩,S8 rfl (Xc ?_)⟩;refine XF Wd ⟨od,eo,ex.1⟩ PySem.F.entry_dict_items (PySem.F.args_dict_items_1 _) (meets_dict_items (bP X.prog X.w) a y) ⟨⟨vs,dOf⟩,?_⟩;have I2:Inv X pins σ H1 { s1 with heap:=s1.heap.push { cls:=.type "dict_items",data:=.fields #[.ref a] } }:=I1.kept (t':=s1.toks) λb ob e=>Ri _ e;obtain⟨z2,y2,vs2,kv2,JD⟩:=iV I2.hok ha;refine wpAny_pyIter_items (knd:=bP X.prog X.w) (kvs:=vs2) (ep:=iH o) ⟨_,RA _ (by rfl),rfl,rfl⟩ JD ?_
 have fk:∀b∈[(s1.heap.push { cls:=.type "dict_items",data:=.fields #[.ref a] }).objs.size],d8 X pins H1 b:=λb hb=>by
  have e:b=(s1.heap.push { cls:=.type "dict_items",data:=.fields #[.ref a] }).objs.size:=RD.mp hb;subst e;exact I2.fpOk (Rn _) (I2.hok.fresh (Rn _))
 exact⟨_,[_],_,_,H1,rfl,I2.kept (t':=s1.toks) λb ob e=>Ri _ e,zhe a _ o kvs,⟨.none,.none,by rw[kv2.length];exact RA _ (by rfl)⟩,fk,q z⟩
def fL(i j:Nat)(body:FS):List (Ra×Ra)->FS
 |[]=>aA
 |d::r=>λρ T=>G5 (body ((ρ.set i (Iv (.d d.1))).set j (Iv (.d d.2))) T) λp T1=>match p with
  |(.nx,JT)=>fL i j body r JT T1
  |(.ct,JT)=>fL i j body r JT T1
  |(.bk,JT)=>Iv ((.nx,JT),T1)
  |(.rt x,JT)=>Iv ((.rt x,JT),T1)
  |(.ro x,JT)=>Iv ((.ro x,JT),T1)
def uS(i j:Nat)(body:FS)(ρ:XE)(w:W)(T:Tp):Option ((Fl×XE)×Tp):=match w with
 |.d (.dict ds)=>fL i j body ds ρ T
 |_=>LG
def kW(i j:Nat)(f:FE)(body:FS):FS:=λρ T=>G5 (f ρ T) (uS i j body ρ)
theorem zya{K:Frag}{O:Addr->Prop}{H:Hp}:∀{kvs:List (Key×V)}{ds:List (Ra×Ra)}{i:Nat}{k:Key}{v:V},JU K O H kvs ds->kvs[i]? = Iv (k,v)->∃d,ds[i]? = Iv (iF k,d)/\Rep K O H v d
 |_,_,_,_,_,.nil,e=>by simp at e
 |_,_,0,_,_,.cons r _,e=>by simp at e;obtain⟨rfl,rfl⟩:=e;exact⟨_,rfl,r⟩
 |_,_,i+1,k,v,.cons _ t,e=>by
  obtain⟨d,h1,h2⟩:=zya  t (by simpa using e);exact⟨d,by simpa using h1,h2⟩
def zyb(hN:X.N.Nodup)(ho:DE X ob f)(hb:JR X body g)(hi:autoParam (X.N[i]? = Iv x) u10)(hj:autoParam (X.N[j]? = Iv y) u10)(hx:autoParam (Loc X.env.scope x) u16)(hy:autoParam (Loc X.env.scope y) u16)
  (hf:autoParam (X.fn x=KN\/X.env.scope.names.lookup x=Iv .local) u13) (Ij:autoParam (X.fn y=KN\/X.env.scope.names.lookup y=Iv .local) u13) (hp:autoParam (U8 (RM X.prog X.w) X.A X.env X.xe) u22) (hc:autoParam (X.calm=KN) u10)
  (Fx:autoParam (Sa ob "items" X.env (eval ob X.env)=eval ob X.env) u10) (JV:autoParam ((apos.endLine == cpos.line)=KN) u10) (hs:autoParam (∀v,RY (.Call (.Attribute ob "items" apos) [] [] cpos) X.env v=pure v) u17) :
  DS X (.For (.Tuple [.Name x px,.Name y py] k L4) (.Call (.Attribute ob "items" apos) [] [] cpos) body [] pos) (kW i j f g):=by
 refine⟨?_⟩;refine b7 (uf hp hc (zhf ho.pe Fx JV) (ug hc (jS (h9 hN hi hx hf) (jS (h9 hN hj hy Ij) sY))) hb.pe hs) λD σ H=>?_;rintro⟨Cz,H₀,F,ts,O,ρ,T,fl,ρ',T',rs,e,q⟩;obtain⟨w,T1,e1,e⟩:=aF e;unfold uS at e;split at e
 .rename_i ds
  refine⟨O,ts,ρ,T,_,T1,rs.hc,rs.re,e1,λv H1 s1 C3 r1=>?_⟩;have Hm:Rep X.K O H1 v (.dict ds):=r1
  cases Hm with
  |@dct a o kvs _ nO ha rk=>
   refine⟨a,o,kvs,rfl,ha,λhz=>?_⟩;have JW:=oI rk;refine⟨λn m σ H=>m=ds.length-n/\n<=ds.length/\LW X.K Cz H₀ ((O,H1)::F) ts (fL i j g (ds.drop n)) ((fl,ρ'),T') σ H,⟨_,rfl,Sj _,O,ρ,T1,(rs.step s1 C3).more,e⟩,?_⟩;rintro n m EA H2 ⟨rfl,hk,O',CQ,Tk,DJ,ek⟩;have le:=DJ.frs _ Rf;have ha2:=le a _ nO ha
   by_cases IV:n<ds.length
   .refine .inr ⟨⟨ha2.2,by omega⟩,λFB H3=>LW X.K Cz H₀ ((O,H1)::F) ts (fL i j g (ds.drop (n+1))) ((fl,ρ'),T') FB H3,λFB H3 nn=>⟨ds.length-(n+1),by omega,rfl,IV,nn⟩,λv H3 yy=>?_⟩
    obtain⟨p,k',v',GH,hkv,rfl,rfl⟩:=yy;obtain⟨d,hd,rd⟩:=zya rk hkv
    have DF:ds.drop n=(iF k',d)::ds.drop (n+1):=by
     rw[Tb IV];have:=(Rh.mp hd).2;rw[this]
    rw[DF] at ek;obtain⟨⟨Er,JT⟩,T3,e3,ek⟩:=aF ek;have EH:=DJ.step (.new GH (.tup [kV k',v'])) (DJ.hc.new GH _);have rd3:Rep X.K O' (upd H2 p (.tup [kV k',v'])) v' d:=Rep.mono (le.trans (DJ.hc.leNew GH _)) rd;refine⟨p,_,rfl,Fy.of a9,rfl,_,_,rfl,_,_,rfl,rfl,Cz,H₀,(O,H1)::F,ts,O',_,Tk,Er,JT,T3,(EH.set (i:=i) (w:=.d (iF k')) (sV k') (λ_ z=>nomatch z)).set (i:=j) (w:=.d d) rd3 (λ_ z=>nomatch z),e3,?_⟩
    cases Er with
    |nx=>exact λO3 FB H3 EH=>⟨O3,JT,T3,EH,ek⟩
    |ct=>exact λO3 FB H3 EH=>⟨O3,JT,T3,EH,ek⟩
    |bk=>
     obtain⟨rfl,rfl,rfl⟩:=oj3 ek;exact λO3 FB H3 EH=>q O3 FB H3 EH.less
    |rt x=>
     obtain⟨rfl,rfl,rfl⟩:=oj3 ek;exact q
    |ro x=>
     obtain⟨rfl,rfl,rfl⟩:=oj3 ek;exact q
   .have e:n=ds.length:=by omega
    subst e;rw[Sr (Rn _)] at ek;cases ek;exact .inl ⟨⟨ha2.2,JW.symm⟩,q O' EA H2 DJ.less⟩
 .cases e
def gP(k:Kd):Bool:=decide (k=.tup)||decide (k=.lst)
def jl(K:Frag)(a:Kd):YW K (.type a.name) [.type "tuple",.type "list"]=Iv (gP a):=by
 have h1:=gF a .tup (by decide);have h2:=gF a .lst (by decide);have e1:WS K _ (.type "tuple")=Iv _:=h1;have e2:WS K _ (.type "list")=Iv _:=h2
 cases a <;> (kernel_rfl)
def zhg:Fh X (.builtin "isinstance") (λxs H Q=>∃(x:V) (tp:Addr) (O:Addr->Prop) (d:Ra),xs=[x,.ref tp]/\Vw X.K O H x d/\H tp=Iv (.tup [.ty "tuple",.ty "list"])/\Q (.bl (gP (kd d))) H):=by
 intro pins s σ H xs us Q I r h;obtain⟨x,tp,O,d,rfl,vw,ht,q⟩:=h;obtain⟨u,w',rfl,ru,Kq⟩:=vals2 r;cases (show w'=Sn tp from Kq);have fin:∀tk,EP X pins σ Q (.bool (gP (kd d))) { s with toks:=tk }:=λtk=>⟨.bl _,H,I.tok _,rfl,q⟩;obtain⟨_,ED,rv,⟨dd,c,n,sl⟩,e0,e1,m,e2⟩:=(I.hok tp _ ht);obtain⟨u1,u2,rfl,r1,r2⟩:=vals2 rv;cases (r1);cases (r2);dsimp only at e1 e2;subst e1 e2
 cases d with
 |none=>cases vw.non;cases (show u=YG from ru);exact TJ Xu I.kIn S6 e0 (jl X.K .non) (λz=>nomatch z) fin
 |bool b=>cases vw.bl;cases (show u=Xn b from ru);exact TJ Xv I.kIn S6 e0 (jl X.K .bl) (λz=>nomatch z) fin
 |int i=>cases vw.int;obtain⟨t,e⟩:=(ru);cases e;exact TJ X4 I.kIn S6 e0 (jl X.K .int) (λz=>nomatch z) fin
 |str z=>cases vw.str;obtain⟨t,e⟩:=(ru);cases e;exact TJ X5 I.kIn S6 e0 (jl X.K .str) (λz=>nomatch z) fin
 |list ds=>
  obtain⟨a,vs,rfl,t,r⟩:=vw.lst;cases (show u=Sn a from ru);obtain⟨ED,_,pl,_⟩:=I.list t;obtain⟨o,n,e,c1,_⟩:=pl;exact TJ US I.kIn ⟨o,e,c1⟩ e0 (jl X.K .lst) (λz=>nomatch z) fin
 |tuple ds=>
  obtain⟨a,vs,rfl,t,r⟩:=vw.tup;cases (show u=Sn a from ru);obtain⟨ED,_,pl,_⟩:=I.tuple t.sq;obtain⟨o,e,c1,_⟩:=pl;exact TJ Vt I.kIn ⟨o,e,c1⟩ e0 (jl X.K .tup) (λz=>nomatch z) fin
 |dict ds=>
  obtain⟨a,vs,rfl,t,r⟩:=vw.dct;cases (show u=Sn a from ru);obtain⟨_,_,_,_,o,_,_,e,c1,_⟩:=d4 I.hok t;exact TJ UT I.kIn ⟨o,e,c1.1⟩ e0 (jl X.K .dct) (λz=>nomatch z) fin
def jn(x:Ra):Option PyData:=Iv (.bool (gP (kd x)))
def zhh(hi:X.mg "isinstance"=LG)(he:DE X e f)(hm1:X.mg "tuple"=LG)(HV:X.mg "list"=LG)(hg:autoParam (Gl X "isinstance") u10)(hT1:autoParam (Gl X "tuple") u10)(hT2:autoParam (Gl X "list") u10)
  (hs:autoParam (Rk [e,.Tuple [.Name "tuple" p1,.Name "list" p2] k L4] X.env=(Lf,eval e X.env)::Rk [.Tuple [.Name "tuple" p1,.Name "list" p2] k L4] X.env) u12)
  (IY:autoParam (Rk [.Tuple [.Name "tuple" p1,.Name "list" p2] k L4] X.env=(Lf,eval (.Tuple [.Name "tuple" p1,.Name "list" p2] k L4) X.env)::Rk [] X.env) u12)
  (hs3:autoParam (Rk [.Name "tuple" p1,.Name "list" p2] X.env=(Lf,eval (.Name "tuple" p1) X.env)::Rk [.Name "list" p2] X.env) u12) (hs4:autoParam (Rk [.Name "list" p2] X.env=(Lf,eval (.Name "list" p2) X.env)::Rk [] X.env) u12)
  (Mh:autoParam ((R6 pos (Rk [.Tuple [.Name "tuple" p1,.Name "list" p2] k L4] X.env)).any (·.1)=Lf) u15) :
  DE X (.Call (.Name "isinstance" p') [e,.Tuple [.Name "tuple" p1,.Name "list" p2] k L4] [] pos) (LP jn f):=by
 refine⟨?_⟩;refine bx (lY zhg hg hi Vj (cn he.pe (cn (uh (cn (sZ (v:=.ty "tuple") hT1 hm1 RT rfl) (cn (sZ (v:=.ty "list") hT2 HV TZ rfl) cM hs4) hs3)) cM IY) hs) (by decide) (by decide) hs Mh) λσ H Q=>?_;rintro⟨O,ts,ρ,T,w,T',hc,re,e,q⟩;obtain⟨w1,T1,e1,e⟩:=aF e;obtain⟨x,d,h1,h3,rfl,rfl⟩:=ie e;cases h3;refine⟨O,ts,ρ,T,w1,T',hc,re,e1,λv1 H1 s1 C3 r1=>?_⟩;refine⟨by decide,λtp htp=>?_⟩;have JY:=C3.new htp (.tup [.ty "tuple",.ty "list"]);have s2:F7 ts H1 (upd H1 tp (.tup [.ty "tuple",.ty "list"])):=.new htp _;exact⟨v1,tp,O,x,rfl,JY.view (r1.mono C3 s2) h1,a9,q _ _ (s1.trans s2) JY (.bl _)⟩
end
def zhi{P:RC}{w:RX}{K:Frag}{mg:Str->Option Re}{base:Heap}{CX:GF}{k:Nat}{f:Addr}{fd:Ts}{ps:List Str}{sp sp':Sp}(F:Ft P w K mg base CX k f fd ps sp)(i:∀vs H Q E,sp' vs H Q E->sp vs H Q E):Ft P w K mg base CX k f fd ps sp':=⟨λvs H Q E h=>F.1 vs H Q E (i _ _ _ _ h),λA outer s H args us vs Q E a b c d h=>F.2 A _ s H args us vs Q E a b c d (i _ _ _ _ h)⟩
def zhj{K:Frag}{m:Hl}(hm:∀ns:List Int,ns.length<=63->∃T',m [.d (cu ns)] []=Iv (.bool KN,T')):∀vs H Q E,qw K vs H Q E->Ms K 1 m vs H Q E:=by
 intro vs H Q E h;obtain⟨a,ns,rfl,hS,hl,q⟩:=h;obtain⟨T',e⟩:=hm ns hl
 have ra:LstAt K (λ_=>False) H a (ns.map V.int):=by
  rcases hS with h|h
  .exact .inl ⟨λz=>z,h⟩
  .exact .inr (.inr h)
 refine⟨λ_=>False,[],[],[.d _],.bool KN,T',⟨λb hb=>(by cases hb),λb hb=>hb.elim,UY,rfl,λi a xs e1 _=>by simp at e1⟩,.cons (.lst ra (zwj ns)) .nil,rfl,e,λv H' _ _ r=>?_⟩;cases r;exact q H'
section
variable {X:Cx}{K:Frag}{Cz:Addr->Prop}{H₀:Hp}{F:List ((Addr->Prop)×Hp)}{ts:List Addr}{O A:Addr->Prop}{H H1:Hp}{σ:L2.St}{ρ:XE}{T T1:Tp}
def zhk:B9 X "list.insert" (λx vs H Q=>∃(l:Addr) (xs:List V) (i:Int) (k:Nat) (y:V),x=.ref l/\vs=[.int i,y]/\H l=Iv (.lst xs)/\i.toNat=k/\0<=i/\k<=xs.length/\xs.length<=1000/\Q .non (upd H l (.lst (xs.take k++y::xs.drop k)))):=by
 intro pins s σ H x vs v us Q I rx rv h;obtain⟨l,xs,i,k,y,rfl,rfl,hH,hki,hi0,hk,hz,q⟩:=h;cases rx;obtain⟨u,w,rfl,ru,Kq⟩:=vals2 rv;obtain⟨t,rfl⟩:=ru;obtain⟨z,ED,n,r,hl,e⟩:=I.lstM hH
 have Ej:(1001)<=sizeLine:=by decide
 have C6:VB i=KN:=fitsIndex_both (by omega) (by omega)
 have ES:¬(!Builtin.List.listFitsIndex i)=KN:=by simp_all
 have hsz:ED.toArray.size<=sizeLine:=by simp_all
 refine Ub PySem.F.slot_list_insert ⟨_,e,rfl⟩ PySem.F.entry_list_insert (PySem.F.args_list_insert_3 _ _ _) (AutoSeq1.list_insert_list_int_val_1 l _ n i t w ES hsz) ⟨e,?_⟩
 refine⟨.non,_,I.lset  hH e ?_ ((r.take k).append (.cons Kq (r.drop k))) ?_,rfl,q⟩<;>grind
variable {pos:Pos}{e e':Expr}{fe fk:FE}
def zhl(h:noStar e=KN)(h2:noStar f=KN):((R6 cpos (Rk [e,f] env)).all (λx=>!x.1)&&(TL cpos (SK [] env)).all (λx=>x.1.isSome)
   && decide (([e,f]:List Expr).length+([]:List Sx).length+(if ([]:List Sx).isEmpty then 0 else 1)<30))=KN:=by
 rw[zek h,sG h2];rfl
def RS.widen(r:RS K Cz H₀ F ts O H σ ρ T)(s:F7 ts H H1)(hA:∀b,A b->H b=LG/\¬O b)(c:HC K (λb=>O b\/A b) ts H1 T1):RS K Cz H₀ F ts (λb=>O b\/A b) H1 σ ρ T1:=by
 have le:Le O H (λb=>O b\/A b) H1:=λa o n e=>⟨λz=>z.elim n λz=>(by simp_all),s a o (λz=>n (r.hc.own a z)) e⟩;refine⟨c,λi w e=>?_,λb hb=>.inl (r.sub b hb),r.ots,r.same.trans s,r.fresh,r.dist,λf hf=>(r.frs f hf).trans le,r.len⟩;obtain⟨v,h1,h2⟩:=r.re i w e;refine⟨v,h1,?_⟩
 cases w with
 |d x=>exact Rep.mono le h2
 |tp k=>exact h2
 |loc ys=>
  obtain⟨a,ea,m1,m2,m3⟩:=h2;exact⟨a,ea,.inl m1,m2,m3.mono (λo q=>s _ _ m2 q) le⟩
def RS.keep(r:RS K Cz H₀ F ts O H σ ρ T)(hA:∀b,A b->O b):HC K (λb=>Cz b\/A b) ts H T/\Le O H (λb=>Cz b\/A b) H:=by
 have le:Le O H (λb=>Cz b\/A b) H:=λa o n e=>⟨λz=>n (z.elim (r.sub a) (hA a)),e⟩;exact⟨⟨λb hb=>.inl (r.ots b hb),λb hb=>r.hc.trk b (hb.elim (r.sub b) (hA b)),r.hc.nd,r.hc.len,λi a xs e1 e2=>(r.hc.tape i a xs e1 e2).mono (λ_ h=>h) le⟩,le⟩
end
noncomputable def ue(i j:Nat)(ρ:XE)(T:Tp)(o1 o2:Option (Option W)):Option ((Fl×XE)×Tp):=match o1,o2 with
 |some (Iv (.loc x)),Iv (Iv (.loc y))=>if i=j then LG else Iv ((.ro (.tuple [x,y]),ρ),T)
 |_,_=>LG
def mQ(i j:Nat):FS:=λρ T=>ue i j ρ T ρ[i]? ρ[j]?
section
variable {X:Cx}{pos:Pos}
def zhm(hN:autoParam (X.N[i]? = Iv x) u10)(hv:autoParam (EC X.env.scope x) u18)(hd:autoParam ((x == ("__debug__" : Str))=Lf) u11)(hcd:autoParam ((x == ("__classdict__" : Str))=Lf) u11)
  (hN2:autoParam (X.N[j]? = Iv y) u10) (hv2:autoParam (EC X.env.scope y) u18) (hd2:autoParam ((y == ("__debug__" : Str))=Lf) u11) (zm:autoParam ((y == ("__classdict__" : Str))=Lf) u11)
  (hs1:autoParam (Rk [.Name x px,.Name y py] X.env=(Lf,eval (.Name x px) X.env)::Rk [.Name y py] X.env) u12) (IY:autoParam (Rk [.Name y py] X.env=(Lf,eval (.Name y py) X.env)::Rk [] X.env) u12) :
  DS X (.Return (Iv (.Tuple [.Name x px,.Name y py] k tp)) pos) (mQ i j):=by
 refine⟨?_⟩;refine b7 (qi (uh (cn (pv i hN hv hd hcd) (cn (pv j hN2 hv2 hd2 zm) cM IY) hs1))) λD σ H=>?_;rintro⟨Cz,H₀,F,ts,O,ρ,T,fl,ρ',T',rs,e,q⟩;unfold mQ ue at e;split at e
 .rename_i x1 y1 h1 h2
  split at e
  .cases e
  .rename_i hij
   cases e;obtain⟨v1,k1,a,rfl,a2,a3,a4⟩:=rs.re i _ h1;obtain⟨v2,k2,b,rfl,b2,b3,b4⟩:=rs.re j _ h2;have Lg:a≠b:=λz=>hij (rs.dist i j x1 y1 (.ref a) h1 h2 k1 (by rw[z];exact k2));refine⟨_,k1,_,k2,by show (2:Nat)<=Rp;decide,λp hp=>?_⟩;have nO:=rs.hc.fresh hp;have np:∀{c:Addr},O c->c≠p:=λhc z=>nO (z ▸ hc);obtain⟨c1,HR⟩:=rs.keep (A:=λc=>c=a\/c=b) (λc hc=>by rcases hc with rfl|rfl <;> assumption);have s2:F7 ts H (upd H p (.tup [.ref a,.ref b])):=.new hp _;have Kf:=c1.leNew hp (.tup [.ref a,.ref b]);refine q (λc=>c=a\/c=b) (.ref p) _ (rs.same.trans s2) (λc hc=>?_) (c1.new hp _) ⟨p,a,b,rfl,Lg,λc=>Iff.rfl,c1.fresh hp,a9,?_,?_⟩
   .rcases hc with rfl|rfl
    .exact rs.fresh i x1 _ h1 k1
    .exact rs.fresh j y1 _ h2 k2
   .exact a4.mono (λo h=>by rw[aG (np a2)];exact h) (HR.trans Kf)
   .exact b4.mono (λo h=>by rw[aG (np b2)];exact h) (HR.trans Kf)
 .cases e
end
def uu(o:Option ((Fl×XE)×Tp)):Option (Ra×Tp):=G5 o λp T=>match p with
 |(.ro x,_)=>Iv (x,T)
 |_=>LG
def kM(N:Nat)(f:FS):Hl:=λws T=>if fB ws=KN then uu (f (ws.map Iv++RQ (N-ws.length) LG) T) else LG
inductive EO(K:Frag)(n:Nat)(m:Hl)(vs:List V)(H:Hp)(Q:VK):Prop where
 |mk (O:Addr->Prop) (ts:List Addr) (T:Tp) (ws:List W) (x:Ra) (T':Tp) (hc:HC K O ts H T) (r:iD K O ts H vs ws) (hl:ws.length=n) (e:m ws T=Iv (x,T'))
  (q:∀(A:Addr->Prop) v H',F7 ts H H'->(∀b,A b->H b=LG/\¬O b)->HC K (λb=>O b\/A b) ts H' T'->LU K (λb=>O b\/A b) A H' v x->Q v H'):EO K n m vs H Q
def Gb(K:Frag)(n:Nat)(m:Hl):Sp:=λvs H Q _=>EO K n m vs H Q
def zhn{P:RC}{w:RX}{K:Frag}{mg:Str->Option Re}{base:Heap}{x qual:Str}{st:Stmt}{f:Addr}{fd:Ts}{N ps:List Str}{k:Nat}{m:FS}(F:Ht K x qual st f fd)(S:DP N ps (br st))
  (JF:∀(HG:Re) (A:R9) (outer:List Env) (s:Rj) (H:Hp) (E:XK),JL k (A.deeper (U9 qual (br st) s.heap.objs.size f HG))->JR (fM E4 P w K mg base N qual (br st) f HG A outer s H E).nox (dm st) m) :
  Ft P w K mg base E4 (k+1) f fd ps (Gb K ps.length (kM N.length m)):=by
 refine F.ok S (λvs H Q E h=>?_) (λHG A outer s H vs Q E hr h=>⟨_,(JF HG A _ s H E hr).pe,?_⟩)
 .obtain⟨O,ts,T,ws,x,T',hc,Kq,hl,_⟩:=h
  rw[←hl];exact TN Kq
 obtain⟨O,ts,T,ws,x,T',hc,Kq,hl,e,q⟩:=h;unfold kM at e;split at e
 .rename_i hn
  obtain⟨⟨fl,ρ'⟩,T1,e1,e⟩:=aF e;have JW:=TN Kq;have Ip:∀{i:Nat}{xs:Ra},(ws.map Iv++RQ (N.length-ws.length) LG)[i]? = Iv (Iv (W.loc xs))->False:=λ{i xs} e=>oK hn (Rw (oF e));refine⟨O,H,[],ts,O,_,T,fl,ρ',T1,⟨hc,λi u e=>?_,λ_ h=>h,hc.own,.refl _ _,λi xs a e1 _=>(Ip e1).elim,λi j xs ys v e1 _ _ _=>(Ip e1).elim,λf hf=>absurd hf (by simp),by simp[L2.start,JW]⟩,e1,?_⟩
  .obtain⟨v,h1,h2⟩:=rS Kq (oF e)
   refine⟨v,?_,h2⟩;unfold L2.start;have hi:=(Rh.mp h1).1;rw[RH (by simpa using hi),Sf,h1];rfl
  .cases fl with
   |ro y=>cases e;exact q
   |_=>cases e
 .cases e
section
variable {X:Cx}{prog:RC}{w:RX}{A:R9}{E:Re->Rj->Prop}{s:Rj}
def Ia(l:List (Str×Ra)):Bool:=decide ((l.map (·.1)).Nodup)&&decide (l.length<=15)
def zho(K:PySem.W.KdlSrc prog w T r d n P OK)(hh:A.handled=LG)(hok:OK s.heap)(hn:n<=Rp)
  (hQ:∀h' tk acc,(∀b o,s.heap.get? b=Iv o->h'.get? b=Iv o)->s.heap.objs.size<h'.objs.size->ItemsOf P acc n->Q acc.toList { s with heap:=h',toks:=tk }):RP (RM prog w) A (collect (.ref r)) Q E s:=by
 have lt:=K.there _ hok;have hS:(s.heap.push { cls:=.type "list",data:=.seq #[] }).get? _=Iv { cls:=.type "list",data:=.seq #[] }:=RA _ rfl;refine Rr (wpAny_runValue (UG PySem.F.entry_proto_collect ?_));refine Rr (S7 (Rx ⟨plainId_quiet We _,UG PySem.F.entry_list_iadd ?_⟩));rw[Vh We _]
 refine PySem.W.kdl_extend (R:=λr s'=>match r with
  | .ok (.ret v)=>RP _ A (match v with
   | .ref a=>(do match (←load a).data with
    |.seq xs _=>pure xs.toList
    | _=>unsupported "internal:collect")
   | _=>unsupported "internal:collect") Q E s'
  |.ok _=>False
  | .error e=>E e s')   K hh (K.keep _ _ hok λb _ o e=>Ri _ e) _ (Us lt.1) (Us lt.2) _ 0 hS (λh' tk acc c k1 k2 k3=>?_) hn
 refine Rr (wpAny_load k2 (Rx ?_));exact hQ h' tk acc (λb o e=>k1 b o (RN (Rv e)) (Ri _ e)) (Rv k2) k3
def zhp(HZ:X.calm=KN):Fh X (.builtin "sorted") (λxs H Q=>∃a kvs ss,xs=[V.ref a]/\Rd H a (.dK kvs)/\kvs.map (λp=>kV p.1)=ss.map V.str/\ss.length<64/\∀l,H l=LG->Q (.ref l) (upd H l (.lst ((dq ss).map V.str)))):=by
 intro pins s σ H xs us Q I r h;obtain⟨a,kvs,ss,rfl,ha,hk,h64,q⟩:=h;obtain⟨u,rfl,ru⟩:=vals1 r;cases ru;obtain⟨z,y,vs,kv,dd⟩:=d4 I.hok ha;obtain⟨ep,dd⟩:=dd.dictAt;have hl:=kv.length;refine Calls.call_function_entry kind_sorted plain_sorted entry_sorted (args_sorted1 _) ?_;unfold ZO.«sorted»;refine Rr (m:=checkCount "sorted" 1 1 _) (Rx ?_);refine Rr (zho (Ye (prog:=X.prog) (w:=X.w) (knd:=bP X.prog X.w) (kvs:=vs) (ep:=ep) y) (I.ok.hd HZ) dd (by omega) λh' tk acc k1 k2 k3=>?_);have hv:L7 (kvs.map λp=>kV p.1) acc.toList:=rM (P:=X.prog) (w:=X.w) kv (by rw[SJ];exact k3.1) λj v e=>k3.2 j v (by simpa using e);rw[hk] at hv;have hS:=ph hv
 have hal:acc.toList.length=ss.length:=by have:=hv.length;simpa using this.symm
 refine Rr (wpAny_newList ?_);have GM:(h'.push (seqObj "list" acc.toList.toArray 0)).get? h'.objs.size=Iv (seqObj "list" acc.toList.toArray 0):=RA _ rfl;refine Rr (Tu (V5 slot_list_sort ⟨_,GM,rfl⟩ entry_list_sort (list_sort_treeK strKind_oneLt GM hS.keysOf (λv1 v2 rest e=>keyKind_strs (by rw[←e];exact hS)) (by omega) λst' a1 a2=>⟨_,rfl,?_⟩) (args_list_sort _)));refine Rx ⟨_,rfl,?_⟩;obtain⟨ss',b1,b2,b3⟩:=sorted_out_str hS a1 a2;have e:ss'=dq ss:=rz (b2.trans (gX ss).symm) (zxr b3) (rh ss);subst e;obtain⟨e2,he⟩:=sortedHeap_at (out:=(arrOf st').map (·.2)) GM
 have keep:∀b o,s.heap.get? b=Iv o->(sortedHeap (h'.push (seqObj "list" acc.toList.toArray 0)) h'.objs.size acc.toList ((arrOf st').map (·.2))).get? b=Iv o:=λb o q=>by
  have q':=k1 b o q;have lt:=Rv q';rw[sortedHeap_old (RN lt) (by rw[size_push'];exact TM lt)];exact Ri _ q'
 have hn:H h'.objs.size=LG:=I.hok.fresh (Ur k2);have C9:(dq ss).length=ss.length:=(gX ss).length_eq;exact⟨.ref h'.objs.size,_,I.laid (t':=tk) (o:=.lst ((dq ss).map V.str)) keep (Ur k2) ⟨by simp;exact Ur (Rz (by omega:(dq ss).length<64) (by decide)),((arrOf st').map (·.2)).toList,e2,rE b1,by simpa[seqObj,-Array.toList_map] using he⟩,rfl,q _ hn⟩
def qf:Ra->Option Ra
 |.dict ds=>jj (dP (gh ds))
 |_=>LG
def zhq(h:qf x=Iv y):∃ds ss,x=.dict ds/\dP (gh ds)=Iv ss/\ss.length<64/\y=.list ((dq ss).map .str):=by
 cases x with
 |dict ds=>
  have h':jj _=Iv y:=h;unfold jj at h'
  split at h'<;>simp_all
 |_=>cases h
def zhr(hm:X.mg "sorted"=LG)(ha:DE X e fe)(hc:autoParam (X.calm=KN) u10)(hg:autoParam (Gl X "sorted") u10)(hs:autoParam (Rk [e] X.env=(Lf,eval e X.env)::Rk [] X.env) u12)
  (Mh:autoParam ((R6 pos (Rk [] X.env)).any (·.1)=Lf) u15):DE X (.Call (.Name "sorted" p) [e] [] pos) (LP qf fe):=by
 refine⟨?_⟩;refine bx (lY (zhp hc) hg hm boot_sorted (cn ha.pe cM hs) (by decide) (by decide) hs Mh) λσ H Q=>?_;rintro⟨O,ts,ρ,T,w,T',hc,re,e,q⟩;obtain⟨w1,T1,e1,e⟩:=aF e;obtain⟨x,d,hv,hd,rfl,rfl⟩:=ie e;obtain⟨ds,ss,rfl,D5,hl,rfl⟩:=zhq hd;refine⟨O,ts,ρ,T,w1,T',hc,re,e1,λv1 H1 s1 C3 r1=>?_⟩;obtain⟨a,kvs,rfl,t,r⟩:=(C3.view r1 hv).dct;have rk:=rT (O':=O) (H':=H1) r;refine⟨a,kvs,ss,rfl,t,ml rk D5,hl,λl Ka=>?_⟩;exact q _ _ (s1.trans (.new Ka _)) (C3.new Ka _) (C3.newL Ka (lQ _))
end
end D
namespace D
open L2
section
variable {X:Cx}{pos:Pos}{e:Expr}{fe:FE}
def zhs:B9 X "list.pop" (λx vs H Q=>∃(l:Addr) (xs:List V) (i:Int) (k:Nat) (y:V),x=.ref l/\vs=[.int i]/\H l=Iv (.lst xs)/\i=k/\xs[k]? = Iv y/\xs.length<=1000/\Q y (upd H l (.lst (xs.eraseIdx k)))):=by
 intro pins s σ H x vs v us Q I rx rv h;obtain⟨l,xs,i,k,y,rfl,rfl,hH,hik,hy,hz,q⟩:=h;cases rx;obtain⟨u,rfl,ru⟩:=rv.one;obtain⟨t,rfl⟩:=ru;obtain⟨z,ED,n,r,hl,e⟩:=I.lstM hH
 have Ej:(1001:Nat)<=sizeLine:=by decide
 obtain⟨u,hu,ru⟩:=r.get hy;have hk:k<ED.length:=(Rh.mp hu).1;have C6:VB i=KN:=fitsIndex_both (by lia) (by lia)
 have hsi:X6 i ED.toArray.size=Iv k:=by
  have h0:¬(i<0):=by lia
  unfold X6;rw[if_neg h0];simp[hk,hik]
 have hu':ED.toArray[k]? = Iv u:=by simpa using hu
 have CY:ED.toArray.size<=sizeLine:=by simp_all
 clear Ej hz
 have er:L7 (xs.eraseIdx k) (ED.eraseIdx k):=by
  rw[Ta,Ta];exact(r.take k).append (r.drop (k+1))
 refine Ub Yr ⟨_,e,rfl⟩ X8 (F.args_list_pop_2 _ _) (YX l ED.toArray n i t k u C6 hsi hu' CY) ⟨e,?_⟩;refine⟨y,_,I.lset  hH e ?_ er ?_,ru,q⟩
 simp_all
 .exact RL (List.length_eraseIdx_le xs k) (by simp_all)
noncomputable def nj(i:Nat)(ρ:XE)(w1 w2:W)(T:Tp)(o:Option (Option W)):Option ((Fl×XE)×Tp):=match w1,w2,o with
 | .d (.int a),.d (.int b),Iv (Iv (.loc (.list xs)))=>if 0<=a/\a<xs.length/\0<=b/\xs.length<=1000 then (match xs[b.toNat]? with
  |some y=>Iv ((.nx,ρ.set i (Iv (.loc (.list ((xs.eraseIdx b.toNat).take a.toNat++y::(xs.eraseIdx b.toNat).drop a.toNat))))),T)
  | none=>LG) else LG
 |_,_,_=>LG
def zht(h:nj i ρ w1 w2 T o=Iv ((fl,ρ'),T')):∃a b xs y,w1=.d (.int a)/\w2=.d (.int b)/\o=Iv (Iv (.loc (.list xs)))/\(0<=a/\a<xs.length/\0<=b/\xs.length<=1000)/\xs[b.toNat]? = Iv y/\((fl,ρ'),T')=((Fl.nx,ρ.set i (Iv (W.loc (.list ((xs.eraseIdx b.toNat).take a.toNat++y::(xs.eraseIdx b.toNat).drop a.toNat))))),T):=by
 unfold nj at h;split at h
 .split at h
  .rename_i h2
   split at h
   .rename_i y hy
    exact⟨_,_,_,y,rfl,rfl,rfl,h2,hy,(SA h).symm⟩
   .cases h
  .cases h
 .cases h
def qM(i:Nat)(f g:FE):FS:=λρ T=>G5 (f ρ T) λw1 T1=>G5 (g ρ T1) λw2 T2=>nj i ρ w1 w2 T2 ρ[i]?
noncomputable def zhu(hk:DE X e fk)(he:DE X e' fe)(hN:autoParam (X.N[i]? = Iv x) u10)(hv:autoParam (EC X.env.scope x) u18)(hd:autoParam ((x == ("__debug__" : Str))=Lf) u11)
  (hcd:autoParam ((x == ("__classdict__" : Str))=Lf) u11) 
  (Fx:autoParam (Sa (.Name x p) "insert" X.env (eval (.Name x p) X.env)=eval (.Name x p) X.env) u10)
  (Lq:autoParam (Sa (.Name x p2) "pop" X.env (eval (.Name x p2) X.env)=eval (.Name x p2) X.env) u10)
  (C0:cQ8 X [e,.Call (.Attribute (.Name x p2) "pop" Kj) [e'] [] HH] cpos:=by exact zhl rfl rfl)
  (Dh:autoParam (cQ8 X [e'] HH) u20)
  (JV:autoParam ((apos.endLine == cpos.line)=KN) u10) (Eu:autoParam ((Kj.endLine == HH.line)=KN) u10)
  (IS:autoParam (Rk [e,.Call (.Attribute (.Name x p2) "pop" Kj) [e'] [] HH] X.env=(Lf,eval e X.env)::Rk [.Call (.Attribute (.Name x p2) "pop" Kj) [e'] [] HH] X.env) u12)
  (Bd:autoParam (Rk [.Call (.Attribute (.Name x p2) "pop" Kj) [e'] [] HH] X.env=(Lf,eval (.Call (.Attribute (.Name x p2) "pop" Kj) [e'] [] HH) X.env)::Rk [] X.env) u12)
  (EQ:autoParam (Rk [e'] X.env=(Lf,eval e' X.env)::Rk [] X.env) u12)
  (Eo:autoParam ((R6 cpos (Rk [.Call (.Attribute (.Name x p2) "pop" Kj) [e'] [] HH] X.env)).any (·.1)=Lf) u15) (F8:autoParam ((R6 HH (Rk [] X.env)).any (·.1)=Lf) u15)
  (hs:autoParam (So (.Call (.Attribute (.Name x p) "insert" apos) [e,.Call (.Attribute (.Name x p2) "pop" Kj) [e'] [] HH] [] cpos) LG pos.line X.env=pure Lf) u10) :
  DS X (.Expr (.Call (.Attribute (.Name x p) "insert" apos) [e,.Call (.Attribute (.Name x p2) "pop" Kj) [e'] [] HH] [] cpos) pos) (qM i fk fe):=by
 refine⟨?_⟩;refine b7 (pR (jk SZ PySem.F.slot_list_insert PySem.F.type_list_insert zhk (pv i hN hv hd hcd) (cn hk.pe (cn (jk SZ WJ WK zhs (pv i hN hv hd hcd) (cn he.pe cM EQ) Lq Dh Eu EQ F8) cM Bd) IS) Fx C0 JV IS Eo) hs) λD σ H=>?_;rintro⟨Cz,H₀,F,ts,O,ρ,T,fl,ρ',T',rs,e,q⟩;obtain⟨w1,T1,e1,e⟩:=aF e;obtain⟨w2,T2,e2,e⟩:=aF e;obtain⟨a0,b0,xs,y,rfl,rfl,h1,h2,hy,e3⟩:=zht e;cases e3;obtain⟨v,k1,a,rfl,k2,k3,vs,k4,k5⟩:=rs.re i _ h1;refine⟨_,k1,.inl ⟨rfl,vs,Jr.of k4⟩,O,ts,ρ,T,_,_,rs.hc,rs.re,e1,λu H1 s1 C3 r1=>?_⟩;have Ez:=rs.step s1 C3;have Je:=s1 _ _ k3 k4;have Gw:=k5.mono (rs.hc.le s1);refine⟨_,k1,.inl ⟨rfl,vs,Jr.of Je⟩,O,ts,ρ,T1,_,_,C3,Ez.re,e2,λu2 H2 s2 JY r2=>?_⟩;have DJ:=Ez.step s2 JY;cases (show Rep X.K O H1 u (.int a0) from r1);cases (show Rep X.K O H2 u2 (.int b0) from r2);have l5:=k5.length;have IT:EE X.K O H2 vs xs:=Gw.mono (C3.le s2);obtain⟨vy,hvy,ry⟩:=IT.getD hy
 have er:EE X.K O H2 (vs.eraseIdx b0.toNat) (xs.eraseIdx b0.toNat):=by
  rw[Ta,Ta];exact(IT.take _).append (IT.drop _)
 have le':(vs.eraseIdx b0.toNat).length=vs.length-1:=by
  rw[List.length_eraseIdx];rw[if_pos (Rh.mp hvy).1]
 refine⟨a,vs,b0,b0.toNat,vy,rfl,rfl,s2 _ _ k3 Je,by omega,hvy,by omega,?_⟩;refine⟨a,vs.eraseIdx b0.toNat,a0,a0.toNat,vy,rfl,rfl,a9,rfl,h2.1,by omega,by omega,?_⟩
 have eu:upd (upd H2 a (.lst (vs.eraseIdx b0.toNat))) a (.lst ((vs.eraseIdx b0.toNat).take a0.toNat++vy::(vs.eraseIdx b0.toNat).drop a0.toNat))=upd H2 a (.lst ((vs.eraseIdx b0.toNat).take a0.toNat++vy::(vs.eraseIdx b0.toNat).drop a0.toNat)):=funext λb=>by
  by_cases z:b=a
  .subst z;rw[a9,a9]
  .rw[aG z,aG z,aG z]
 rw[eu];exact q O _ _ (DJ.put (us:=[]) h1 k1 ((er.take _).append (.cons ry (er.drop _))))
end
def My(_ j:Int):Prop:=0<j/\j<18446744073709551616
def gj:Ra->Ra->Option PyData:=CA λi j=>if 0<j/\j<18446744073709551616 then Iv (.int (i / j)) else LG
def zhv(h:y.natAbs<18446744073709551616):Builtin.divisionGoesByPylong x y=Lf:=by
 refine PyProof.noPylong_of_log2 ?_
 by_cases h0:y.natAbs=0
 .simp_all
 .have h30:y.natAbs.log2<64:=(W0 h0).mpr h
  lia
section
variable {X:Cx}
def zhw:Fo X (SX .FloorDiv) (rI My λi j=>.int (i / j)):=EU λi j _ _ _ _ _ hc q=>by
 have h1:=hc.1;have h2:=hc.2;exact floordiv_int (by lia) (by rw[Int.fdiv_eq_ediv_of_nonneg i (by lia)];exact q) (.inl (zhv (by lia)))
def mv:HE X (SX .FloorDiv) gj:=⟨_,zhw,ub λi j d e=>by
 split at e
 .rename_i h;cases e;exact⟨h,λ_ _=>.int _⟩
 .cases e⟩
end
noncomputable def dd:List Str->List Str
 |[]=>[]
 |a::r=>if a∈r then dd r else a::dd r
theorem HD:∀{l:List Str},x∈dd l↔x∈l
 |[]=>Iff.rfl
 |a::r=>by
  unfold dd;have ih:=HD (x:=x) (l:=r)
  split<;>simp_all
theorem kY:∀l:List Str,(dd l).Nodup
 |[]=>by simp[dd]
 |a::r=>by
  unfold dd;have ih:=kY r;split
  .exact ih
  .rename_i h
   exact RJ.mpr ⟨λz=>h (HD.mp z),ih⟩
end D
namespace L2
def zhx(t:VC)(n:Nat):(t.orStandIn n).led=t.led:=by
 unfold SetTable.orStandIn
 split <;> rfl
def zhy(t:VC)(es:Array (Int×Re))(h:Int)(x:Re):(layNew t es h x).2.1.led=t.led:=by
 unfold layNew;split
 .exact zhx _ _
 .rfl
def zhz{mask finger moves:Nat}{led plain:Bool}{hashes:Array Int}{t':VC}{order:Array Nat}(e:VX mask finger moves led plain hashes=Iv (t',order)):t'.led=led:=by
 unfold VX at e
 cases h:XN mask _ with
 |none=>rw[h] at e;cases e
 |some o=>rw[h] at e;cases e;rfl
def zia(t:VC)(es:Array (Int×Re))(wanted:Nat):(VD t es wanted).2.1.led=t.led:=by
 unfold VD;split
 .rename_i t' order e
  dsimp only;split
  .exact zhz e
  .rfl
 .rfl
def zib{mask finger moves:Nat}{led plain:Bool}{hashes:Array Int}{t':VC}{order:Array Nat}(e:VX mask finger moves led plain hashes=Iv (t',order)):t'.plain=plain:=by
 unfold VX at e
 cases h:XN mask _ with
 |none=>rw[h] at e;cases e
 |some o=>rw[h] at e;cases e;rfl
def zic(t:VC)(es:Array (Int×Re))(wanted:Nat)(h:t.plain=Lf):(VD t es wanted).2.1.plain=Lf:=by
 unfold VD;split
 .rename_i t' order e
  dsimp only;split
  .exact(zib e).trans h
  .rfl
 .rfl
def nF(P:RC)(w:RX)(h:Heap)(a:Addr)(es:Array (Int×Re))(led:Bool):Prop:=∃o ep t,h.get? a=Iv o/\o.ExactSet/\o.data=.set es ep t/\ZS (strKind P w) es.toList/\es.size<UQ/\t.fits es.size=KN/\t.led=led/\(es.size=0\/t.plain=Lf)
section
variable {P:RC}{w:RX}{A:R9}{E:Re->Rj->Prop}{s:Rj}
def zyc{o:Obj}{es K7:Array (Int×Re)}{t t2:VC}{h:Heap}(ho:h.get? a=Iv o)(hex:o.ExactSet)(hd:o.data=.set es ep t)(JP:ZS (strKind P w) K7.toList)(hb:K7.size<UQ)(hf:t2.fits K7.size=KN)(GH:t2.plain=Lf) :
  (h.update a (YY K7 t2)).get? a=Iv { o with data:=.set K7 (ep+1) t2 }/\nF P w (h.update a (YY K7 t2)) a K7 t2.led:=by
 obtain⟨g1,_⟩:=SetOf_store   ho hex hd JP (λk'=>Wf) hb hf;exact⟨g1,_,_,_,g1,hex,rfl,JP,hb,hf,rfl,.inr GH⟩
def zyd{g:Bool->Sem Unit}(hg:∀(b:Bool) (IR:Rj) (Q':Unit->Rj->Prop),Q' () IR->RP (RM P w) A (g b) Q' E IR){o:Obj}{es K7:Array (Int×Re)}{t t2:VC}(ho:s.heap.get? a=Iv o)(hex:o.ExactSet)(hd:o.data=.set es ep t)
  (JP:ZS (strKind P w) K7.toList) (hb:K7.size<UQ) (hf:t2.fits K7.size=KN) (GH:t2.plain=Lf) {R:Option Bool->Rj->Prop}
  (h:∀h' IM,TK a s.heap h'->nF P w h' a IM t2.led->IM.toList.Perm K7.toList->R (Iv KN) { s with heap:=h' }) :
  RP (RM P w) A (do
    storeSet a K7 t2
    if (!Gu&&t2.tooFull)=KN then do
      g (VD t2 K7 (UZ K7.size)).2.2
      storeSet a (VD t2 K7 (UZ K7.size)).1 (VD t2 K7 (UZ K7.size)).2.1
      pure (Iv KN)
     else pure (Iv KN)) R E s:=by
 obtain⟨k1,k2⟩:=zyc   ho hex hd JP hb hf GH;have b1:=Xe s.heap a (YY K7 t2);refine Rr (XO ho hd ?_ (XQ hb))
 by_cases hc:(!Gu&&t2.tooFull)=KN
 .rw[if_pos hc]
  have hp:=relayAll_perm t2 K7 (UZ K7.size)
  have hz:(VD t2 K7 (UZ K7.size)).1.size<scanBound:=by rw[←SJ,hp.length_eq];exact hb
  refine Rr (hg _ _ _ (Rr (XO k1 rfl ?_ (XQ hz))));obtain⟨_,k3⟩:=zyc   k1 hex rfl (JP.perm hp) hz (relayAll_fits t2 K7 _) (zic t2 K7 _ GH);rw[zia] at k3;exact Rx (h _ _ (b1.trans (Xe _ a _)) k3 hp)
 .rw[if_neg hc]
  exact Rx (h _ _ b1 k2 (List.Perm.refl _))
def add_str(hS:nF P w s.heap a es led)(De:es.size+1<UQ)
  (h0:(∃e∈es.toList,(strKind P w).is x e.2=KN)->Q Lf s)
  (h1:(∀e∈es.toList,(strKind P w).is x e.2=Lf)->∀h' IM,TK a s.heap h'->nF P w h' a IM led->IM.toList.Perm (es.toList++[((strKind P w).hash x,.str x tk)])->Q KN { s with heap:=h' }) :
  RP (RM P w) A (setAddHashed a (.str x tk) ((strKind P w).hash x)) Q E s:=by
 obtain⟨o,ep,t,ho,hex,hd,JP,hb,hf,hl,_⟩:=hS;have hk:(strKind P w).is x (.str x tk)=KN:=YZ P w x tk;have Li:(V1 x tk).scannable=KN:=rfl;unfold setAddHashed setAddHashedIn;refine Tu (Rr (wpAny_setState_of ho hd hf ?_));dsimp only;rw[byScan_of Li hb JP,if_pos rfl];unfold setAddByScan;refine Rr (Rr (WB (Rr (wpAny_setScan_of hk ho hd hf JP ?_))))
 cases hr:List.findIdx? (λe=>(strKind P w).is x e.2) es.toList with
 |some j=>
  obtain⟨hj,hpj,_⟩:=List.findIdx?_eq_some_iff_getElem.mp hr;exact Rx (Rx (h0 ⟨_,Ya hj,hpj⟩))
 |none=>
  have Hs:∀e∈es.toList,(strKind P w).is x e.2=Lf:=λe he=>by
   have:=List.findIdx?_eq_none_iff.mp hr e he;simpa using this
  have hgw:∀(b:Bool) (IR:Rj) (Q':Unit->Rj->Prop),Q' () IR->RP (RM P w) A (match b with|true=>rule "set.scan.the-table-gave-way"|false=>pure ()) Q' E IR:=λb IR Q' hq=>by
   cases b <;> first|exact Rx hq|exact WB hq
  have HP:=layNew_perm t es ((strKind P w).hash x) (.str x tk);have F1:=layNew_fits t es ((strKind P w).hash x) (.str x tk);have Lb:=zhy t es ((strKind P w).hash x) (.str x tk);dsimp only;generalize layNew t es ((strKind P w).hash x) (.str x tk)=L at HP F1 Lb ⊢;obtain⟨K7,t1,Gu,gave⟩:=L;dsimp only at HP F1 Lb ⊢;rw[XR] at HP;have C5:ZS (strKind P w) K7.toList:=(JP.push hk Li).perm HP
  have hb1:K7.size<scanBound:=by rw[←SJ,HP.length_eq,Vv,SJ];simpa using De
  refine Rr (hgw _ _ _ ?_);have fin:∀h' IM,TK a s.heap h'->nF P w h' a IM led->IM.toList.Perm K7.toList->Q KN { s with heap:=h' }:=λh' IM q1 q2 q3=>h1 Hs h' IM q1 q2 (q3.trans HP);split
  .refine Rr ?_
   rw[hashByValue_scannable 8 Li];refine Rx ?_;refine zyd (λb IR Q' hq=>by cases b <;> first|exact Rx hq|exact WB hq) ho hex hd C5 hb1 ?_ rfl λh' IM q1 q2 q3=>?_
   .split
    .exact F1
    .exact SetTable.fits_plain_off F1
   .have e:∀c:Bool,(if c=KN then t1 else { t1 with plain:=Lf }).led=led:=λc=>by cases c <;> exact Lb.trans hl
    rw[e] at q2;exact Rx (fin h' IM q1 q2 q3)
  .rename_i hnp
   refine Rr (Rx ?_);simp only[↓reduceIte];refine zyd (λb IR Q' hq=>by cases b <;> first|exact Rx hq|exact WB hq) ho hex hd C5 hb1 F1 (by simpa using hnp) λh' IM q1 q2 q3=>?_;rw[Lb,hl] at q2;exact Rx (fin h' IM q1 q2 q3)
end
def Jb:Re->Str
 |.str k _=>k
 |_=>""
section
variable {P:RC}{w:RX}{A:R9}{E:Re->Rj->Prop}{s:Rj}
def TupAt(h:Heap)(q:Addr)(pl:Array Re):Prop:=∃o n,h.get? q=Iv o/\o.data=.seq pl n
end
end L2
namespace D
open L2
def zye:∀{a b:List Str},a.Nodup->b.Nodup->(∀x,x∈a↔x∈b)->a.Perm b
 |a,b,ha,hb,h=>(List.perm_ext_iff_of_nodup ha hb).mpr h
section
variable {X:Cx}{K:Frag}{Cz:Addr->Prop}{H₀:Hp}{F:List ((Addr->Prop)×Hp)}{ts:List Addr}{O:Addr->Prop}{H H1:Hp}{σ:L2.St}{ρ:XE}{T T1:Tp}
theorem boot_set:Te "set"=Iv (.type "set"):=by rfl
def oW(e:(ρ.set i LG)[j]? = Iv (Iv w)):i≠j/\ρ[j]? = Iv (Iv w):=by
 by_cases z:i=j
 .subst z
  rw[Wa] at e<;>simp_all
 .simp_all
def RS.unset{i:Nat}{v:V}(r:RS K Cz H₀ F ts O H σ ρ T):RS K Cz H₀ F ts O H (σ.set i (Iv v)) (ρ.set i LG) T where
 hc:=r.hc
 re:=λj u e=>by
  obtain⟨z,e⟩:=oW e
  obtain⟨x,h1,h2⟩:=r.re j u e<;>simp_all
 sub:=r.sub
 ots:=r.ots
 same:=r.same
 fresh:=λj xs a e1 e2=>by
  obtain⟨z,e⟩:=oW e1
  simp_all
  exact r.fresh j xs a e e2
 dist:=λj k xs ys u e1 e2 e3 e4=>by
  obtain⟨z1,e1⟩:=oW e1;obtain⟨z2,e2⟩:=oW e2;rw[Rm z1] at e3
  simp_all
  exact r.dist j k xs ys u e1 e2 e3 e4
 frs:=r.frs
 len:=by simp[r.len]
end
def fq(ρ:XE):Bool:=ρ.all λo=>match o with
 |some (.loc _)=>Lf
 |_=>KN
end D
namespace L2
def zid:(D.dd (l++[v])).length=if v∈l then (D.dd l).length else (D.dd l).length+1:=by
 split
 .rename_i h
  exact(D.zye (D.kY _) (D.kY _) λx=>by simp[D.HD];rintro rfl;exact h).length_eq
 .rename_i h
  exact(D.zye (b:=v::D.dd l) (D.kY _) (RJ.mpr ⟨λz=>h (D.HD.mp z),D.kY _⟩) λx=>by simp[D.HD,or_comm]).length_eq
theorem zyf:∀l:List Str,(D.dd l).length<=l.length
 |[]=>Rn _
 |x::r=>by
  have:=zyf r;unfold D.dd
  split <;> simp <;> omega
section
variable {P:RC}{w:RX}{A:R9}{s:Rj}{E:Re->Rj->Prop}
def zie{Pp:Nat->Re->Prop}{St:Nat->Heap->Prop}{R:Result->Rj->Prop}(W:Walks P w A.in1 I fp wr n Pp St)(hSf:S∉fp)(ss:List Str)(hn:n=ss.length)(xi:∀i v,Pp i v->∃t,v=.str (ss.getD i "") t)(hb:n+1<UQ) :
  ∀(k i:Nat) (s:Rj),n-i=k->i<=n->St i s.heap->s.heap.SetOf (strKind P w) S (λx=>decide (x∈ss.take i)) (D.dd (ss.take i)).length ->
   (∀h' tk,h'.SetOf (strKind P w) S (λx=>decide (x∈ss.take n)) (D.dd (ss.take n)).length->(∀b o,b∉S::wr->s.heap.get? b=Iv o->h'.get? b=Iv o)->R (.ok (.ret .none)) { s with heap:=h',toks:=tk }) ->
   Xy (RM P w) A (.builtin "set.update.loop" ⟨[.ref S,.ref I],[]⟩) R s:=by
 have hSw:S∉wr:=λh=>hSf (W.sub _ h);intro k
 induction k with
 |zero=>
  intro i s hk hi Dr hS hR
  have Gp:i=n:=by omega
  subst Gp;refine UG Wg ?_;rw[Vh UR _];show RP _ A.in1 (pyNext (.ref I) >>= _) _ _ s;refine Rr (W.done s _ _ Dr λh' tk kk=>Rx (hR h' tk ?_ λb o hb e=>kk b o (λz=>hb (Rc _ z)) e));obtain⟨o,es,ep,t,ho,rest⟩:=hS;exact⟨o,es,ep,t,kk S _ hSw ho,rest⟩
 |succ k ih=>
  intro i s hk hi Dr hS hR
  have IV:i<n:=by omega
  refine UG Wg ?_;rw[Vh UR _];show RP _ A.in1 (pyNext (.ref I) >>= _) _ _ s;refine Rr (W.item i s _ _ IV Dr λv h' tk hP ym kk=>?_);obtain⟨t,rfl⟩:=xi i v hP
  have hl:i<ss.length:=by omega
  rw[List.getD_eq_getElem?_getD,TQ hl,Wh];refine Rr (Tu ?_);unfold setAdd;refine Tu (Rr ((strKind P w).pyHash (YZ ..) (wpAny_setAddHashed_of (knd:=strKind P w) (k:=ss[i]) (YZ ..) rfl (S:=λx=>decide (x∈ss.take i)) (n:=(D.dd (ss.take i)).length) ?_ ?_ λh2 sb hS2=>?_)))
  .obtain⟨o,es,ep,t,ho,rest⟩:=hS
   exact⟨o,es,ep,t,kk S _ hSw ho,rest⟩
  .have:=zyf (ss.take i)
   rw[Tv] at this;omega
  .refine Rx ⟨plainId_quiet UR _,ih (i+1) _ (by omega) IV (W.frame _ h' h2 ym λb hb o e=>?_) ?_ λh3 tk3 g1 g2=>hR h3 tk3 g1 λb o hb e=>g2 b o hb ?_⟩
   .rw[sb.2 b (λh:b=S=>hSf (by rw[←h];exact hb))];exact e
   .exact VY hS2 (λx=>by rw[U0 hl,Sl];simp only[UH,decide_eq_true_eq,Ry,RD]) (by rw[U0 hl,zid];simp)
   .have G7:b≠S:=λz=>hb (by rw[z];exact Rf)
    rw[sb.2 b G7];exact kk b o (λz=>hb (Rc _ z)) e
def zif(h:YB vs ss):∀(i:Nat) (v:Re),vs[i]? = Iv v->∃t,v=.str (ss.getD i "") t:=by
 induction h with
 |nil=>intro i v h;simp at h
 |cons _ _ _ ih=>
  intro i v h
  cases i with
  |zero=>simp at h;exact⟨_,by rw[←h];rfl⟩
  |succ i=>
   simp only[List.getElem?_cons_succ] at h;obtain⟨t,e⟩:=ih i v h;exact⟨t,by rw[e];rfl⟩
def zig(hh:A.handled=LG)(hl:s.heap.IsList l items)(hi:YB items.toList ss)(hz:items.size=ss.length)(hb:items.size+1<UQ)
  (h:∀h' tk,h'.SetOf (strKind P w) s.heap.objs.size (λx=>decide (x∈ss.take items.size)) (D.dd (ss.take items.size)).length->(∀b o,s.heap.get? b=Iv o->h'.get? b=Iv o)->Q (.ref s.heap.objs.size) { s with heap:=h',toks:=tk }) :
  RP (RM P w) A (call (.type "set") [.ref l]) Q E s:=by
 obtain⟨c,tl,hmro⟩:=SU.mro;have hmade:=SU.made;have Iq:=SU.sub;have g1:=SU.notType;have g2:=SU.canCreate;have hct:=PySem.F.typeCall_set_1 (.ref l);refine wpAny_call (codeAny_of_tree ?_);show RP _ _ (callAny (.type "set") _) _ _ _;refine Rx ⟨Code.quiet_builtin _ (by decide +kernel),UG PySem.F.entry_type_call ?_⟩;rw[Around.under_plain (weight_type_call_type "set" [.ref l] []) rfl]
 repeat (any_goals (first|assumption|wp_step))
 refine Vl (code_set_new_1 (.ref l) (E:=E) (Q₁:=λobj IR=>∃led:Bool,obj=.ref s.heap.objs.size/\IR = { s with heap:=s.heap.push { cls:=.type "set",dict:=LG,data:=.set #[] 0 (.fresh 0 0 led) } }) λled=>⟨led,rfl,rfl⟩) λr IR hr=>?_
 cases r with
 |error e=>exact hr
 |ok fl=>
  cases fl with
  |ret obj=>
   obtain⟨led,rfl,rfl⟩:=hr;generalize Ag:({ cls:=.type "set",dict:=LG,data:=.set #[] 0 (.fresh 0 0 led) }:Obj)=oS;have hS:(s.heap.push oS).get? s.heap.objs.size=Iv oS:=RA _ (by rw[←Ag];rfl);have hT:Shared.TypeIs { s with heap:=s.heap.push oS } (.ref s.heap.objs.size) "set":=⟨_,hS,by rw[←Ag]⟩;have hli:=SU.init.lookup;have hbi:=SU.init.bind (.ref s.heap.objs.size)
   repeat (any_goals (first|assumption|wp_step))
   refine Vl (codeAny_call_builtin (R:=wants (λr Jy=>r=.none/\Q (.ref s.heap.objs.size) Jy) E) SU.init.plain PySem.F.entry_set_init (PySem.check_set_init_1 hT ?_)) λx6 Jy E1=>?_
   .obtain⟨ol,hol,hcl,nl,Jm⟩:=hl
    obtain⟨ocls,CV,odata,Jw⟩:=ol;simp only at hcl Jm;subst hcl;subst Jm;have lt:l<s.heap.objs.size:=Rv hol;have CD:(s.heap.push oS).get? l=Iv { cls:=.type "list",dict:=CV,data:=.seq items nl,slots:=Jw }:=Ri _ hol;have hsls:=PySem.F.sub_list_set;have hslf:=PySem.F.sub_list_frozenset
    have Kp:(Vq "list" == Vq "dict")=Lf:=by decide
    subst Ag;unfold ZO.«set.__init__» noKeywords Yx;generalize hPI:ZI=PI;wp_walk;subst hPI;refine Um (items:=items) ⟨_,CD,rfl,nl,rfl⟩ (Rr (wpAny_runValue ?_));refine zie (P:=P) (w:=w) (YT (A:=A.in1.in1.in1) (by simp[hh]) _ l (by rw[TX];exact RN (TM lt)) items) (by rw[TX];simp only[Ru,Yg,or_false,not_or];exact⟨RN (Yb _),Us lt⟩) ss hz (λi v hv=>zif hi i v (by rw[Array.getElem?_toList];exact hv)) hb items.size 0 _ (by omega) (Sj _) ⟨⟨_,RA _ rfl,rfl,rfl⟩,⟨_,Ri _ CD,rfl,nl,rfl⟩⟩ ?_ λh' tk g1 g2=>?_
    .exact VY ((YF (knd:=strKind P w) led).setOf (Ri _ hS) (by unfold UQ;omega)) (λ_=>by simp) rfl
    .refine Rx (Rx ⟨rfl,h h' tk g1 λb o e=>g2 b o ?_ (Ri _ (Ri _ e))⟩)
     have:=Rv e;rw[TX];simp only[Ru,Yg,or_false,not_or];exact⟨RN this,RN (TM this)⟩
   .cases x6 with
    |error e=>exact E1
    |ok DX=>
     cases DX with
     |ret r=>
      obtain⟨rfl,hq⟩:=E1
      repeat (any_goals (first|assumption|wp_step))
     |_=>exact E1.elim
  |_=>exact hr.elim
end
end L2
namespace D
open L2
section
variable {X:Cx}
def Ly(K:Frag)(te:TE):TE:=λσ H Q=>te σ H λv H1=>∃a ss,v=.ref a/\Jr K H1 a (ss.map V.str)/\ss.length<1000/\Q (.int ((dd ss).length:Int)) H1
def zih(HZ:X.calm=KN)(hg:Gl X "len")(hm:X.mg "len"=LG)(GX:Gl X "set")(FL:X.mg "set"=LG)(he:PE X e te)
  (hs:Rk [.Call (.Name "set" p') [e] [] pos'] X.env=(Lf,eval (.Call (.Name "set" p') [e] [] pos') X.env)::Rk [] X.env) (D5:Rk [e] X.env=(Lf,eval e X.env)::Rk [] X.env)
  (Mh:(R6 pos (Rk [] X.env)).any (·.1)=Lf) (Kk:(R6 pos' (Rk [] X.env)).any (·.1)=Lf) :
  PE X (.Call (.Name "len" p) [.Call (.Name "set" p') [e] [] pos'] [] pos) (Ly X.K te):=by
 intro pins s σ H Q I h;refine Ua (ki I hg hm boot_len ?_ (by decide) (by decide));refine Va ?_ hs Mh;rw[hs];show RP _ _ (spliced ((Lf,eval (.Call (.Name "set" p') [e] [] pos') X.env)::R6 pos (Rk [] X.env))) _ _ s;refine Tz ?_;refine Ua (ki I GX FL boot_set ?_ (by decide) (by decide));refine Uk ?_ D5 Kk;rw[D5];show RP _ _ (spliced ((Lf,eval e X.env)::R6 pos' (Rk [] X.env))) _ _ s;refine Tz (JI (he pins s σ H _ I h) λu s1 ⟨v,H1,I1,r1,a,ss,ev,hq,hl,q1⟩=>?_);subst ev;cases r1;refine Ul ?_;obtain⟨ED,rv,pl,hz⟩:=I1.list hq;have JW:=rv.length;rw[R4] at JW;have hsA:=ph rv;refine zig (I1.ok.hd HZ) pl.isList (by simpa using hsA) (by simp[JW]) (by simp only[Sw];have:UQ=4096:=rfl;omega) λh' tk hS keep=>?_;rw[S9 (by simp[JW])] at hS;obtain⟨o,es,ep,t,ho,hex,hd,JP,_,hb,hf,hsz⟩:=hS;refine Ul ?_;refine call_len_set ho hex hd hf (by have:UQ=4096:=rfl;omega) ?_;rw[hsz];exact⟨.int _,H1,I1.kept keep,⟨_,rfl⟩,q1⟩
def kN:Ra->Option Ra
 |.list xs=>match dP xs with
  |some ss=>if ss.length<1000 then Iv (.int ((dd ss).length:Int)) else LG
  |none=>LG
 |_=>LG
def zii(h:kN x=Iv y):∃xs ss,x=.list xs/\dP xs=Iv ss/\ss.length<1000/\y=.int ((dd ss).length:Int):=by
 cases x with
 |list xs=>
  simp only[kN] at h;split at h
  .rename_i ss hs
   split at h
   .rename_i hl
    cases h;exact⟨xs,ss,rfl,hs,hl,rfl⟩
   .cases h
  .cases h
 |_=>cases h
def zij(hm:X.mg "len"=LG)(FL:X.mg "set"=LG)(he:DE X e f)(HZ:autoParam (X.calm=KN) u10)(hg:autoParam (Gl X "len") u10)(GX:autoParam (Gl X "set") u10)
  (hs:autoParam (Rk [.Call (.Name "set" p') [e] [] pos'] X.env=(Lf,eval (.Call (.Name "set" p') [e] [] pos') X.env)::Rk [] X.env) u12) (D5:autoParam (Rk [e] X.env=(Lf,eval e X.env)::Rk [] X.env) u12)
  (Mh:autoParam ((R6 pos (Rk [] X.env)).any (·.1)=Lf) u15) (Kk:autoParam ((R6 pos' (Rk [] X.env)).any (·.1)=Lf) u15) :
  DE X (.Call (.Name "len" p) [.Call (.Name "set" p') [e] [] pos'] [] pos) (LP kN f):=by
 refine⟨?_⟩;refine bx (zih HZ hg hm GX FL he.pe hs D5 Mh Kk) λσ H Q=>?_;rintro⟨O,ts,ρ,T,w,T',hc,re,e,q⟩;obtain⟨w1,T1,e1,e⟩:=aF e;obtain⟨x,d,hv,hd,rfl,rfl⟩:=ie e;obtain⟨xs,ss,rfl,D5,hl,rfl⟩:=zii hd;refine⟨O,ts,ρ,T,w1,T',hc,re,e1,λv1 H1 s1 C3 r1=>?_⟩;obtain⟨a,vs,rfl,t,r⟩:=(C3.view r1 hv).lst;have ev:=ml r D5;subst ev;exact⟨a,ss,rfl,t,hl,q _ _ s1 C3 (.int _)⟩
end
end D
namespace L2
section
variable {X:Cx}
def Kx(X:Cx)(e:Expr)(t:TE):Prop:=∀(pins:List (Addr×Obj)) (s:Rj) (σ:St) (H:Hp) (Q:VK),Inv X pins σ H s->1<=s.toks->t σ H Q->RP (RM X.prog X.w) X.A (eval e X.env) (EP X pins σ Q) X.xe s
def PE.one1(h:PE X e t):Kx X e t:=λpins s σ H Q I _ q=>h pins s σ H Q I q
def Lu(to:TE)(y z:Str):TE:=λσ H Q=>to σ H λx H1=>∃w:Str,x=.str w/\w.length<=1048576/\z.length<=14/\(y == z)=Lf/\Q (.str (Sv w y z)) H1
def zik(ho:Kx X o to)
  (Fx:autoParam (Sa o "replace" X.env (eval o X.env)=eval o X.env) u10)
  (C0:autoParam (cQ8 X [.Constant (.str y) j1 p1,.Constant (.str z) j2 p2] cpos) u10)
  (JV:autoParam ((apos.endLine == cpos.line)=KN) u10) :
  Kx X (.Call (.Attribute o "replace" apos) [.Constant (.str y) j1 p1,.Constant (.str z) j2 p2] [] cpos) (Lu to y z):=by
 intro pins s σ H Q I ht h;refine UW Fx C0 JV rfl ?_;refine wpAny_with_toks ht (S5 (ho pins s σ H _ I ht h) (λv s1 q1 h1=>?_) λ_ _ e _=>e);obtain⟨x,H1,I1,r1,w,e,z1,z2,z3,q⟩:=q1;subst e;obtain⟨t,rfl⟩:=r1;obtain⟨h2,h3⟩:=qc  (x:=.str w) I1 ⟨t,rfl⟩ rfl;refine⟨"str","str.replace",Ud,PySem.F.slot_str_replace,PySem.F.type_str_replace,h2,h3,?_⟩;refine S8 (by rfl) (Up ?_);refine Tz (Vr (k:=j1) (pos:=p1) ?_);refine Tz (Vr (k:=j2) (pos:=p2) (Ul ?_));exact SC.replaceW (by grind) (by grind) (by grind) z3 z1 z2 λt' k=>⟨.str _,H1,I1.tok k,⟨t',rfl⟩,q⟩
def zyg(h:Kx X e t)(i:∀σ H Q,t' σ H Q->t σ H Q):Kx X e t':=λpins s σ H Q I k q=>h pins s σ H Q I k (i σ H Q q)
def zil{T:String}{name:Str}{id:String}{r:V->List V->Hp->VK->Prop}{o e:Expr}{es:List Expr}{to:TE}{t:TA}{apos cpos:Pos}(pa:YR T)(slot:Slot T name id)(HK:typeOf (.builtin id)=pure (.type "method_descriptor"))(hm:Hb X id r)(ho:Kx X o to)(ha:PA X (e::es) t)
  (Fx:Sa o name X.env (eval o X.env)=eval o X.env)
  (C0:((R6 cpos (Rk (e::es) X.env)).all (λx=>!x.1)&&(TL cpos (SK [] X.env)).all (λx=>x.1.isSome)
   && decide ((e::es).length+([]:List Sx).length+(if ([]:List Sx).isEmpty then 0 else 1)<30))=KN)
  (JV:(apos.endLine == cpos.line)=KN) (hs:Rk (e::es) X.env=(Lf,eval e X.env)::Rk es X.env) (Eo:(R6 cpos (Rk es X.env)).any (·.1)=Lf) :
  Kx X (.Call (.Attribute o name apos) (e::es) [] cpos) (tBM X.K T r to t):=by
 intro pins s σ H Q I k h;refine UW Fx C0 JV rfl (JI (ho pins s σ H _ I k h) λv s1 q1=>?_);obtain⟨x,H1,I1,r1,ty,q1⟩:=q1;obtain⟨h1,h2⟩:=qc I1 r1 ty;have hA:=ha cpos pins s1 σ H1 _ I1 q1;refine⟨T,id,pa,slot,HK,h1,h2,?_⟩;rw[hs] at hA ⊢;refine S8 (by show (Lf||(R6 cpos _).any _)=Lf;rw[Eo];rfl) (Up ?_)
 exact JI hA λus s2 q2=>by
  obtain⟨vs,H2,I2,r2,q2⟩:=q2;exact hm pins s2 σ H2 x vs v us Q I2 r1 r2 q2
def AW(X:Cx)(tg iter:Expr)(wi:TI):Prop:=
 ∀(pins:List (Addr×Obj)) (s:Rj) (σ:St) (H:Hp) (R:It->Hp->Prop),Inv X pins σ H s->1<=s.toks->wi σ H R ->
  RP (RM X.prog X.w) X.A (eval iter X.env) (λv s1=>RP (RM X.prog X.w) X.A (ZI v) (yW X pins σ tg R) X.xe s1) X.xe s
def iL1(K:Frag)(tl:TE):TI:=λσ H R=>tl σ H λx H1=>∃a xs,x=.ref a/\Jr K H1 a xs/\(xs.length<=Rp->R (zH K a) H1)
def zim(hl:Kx X l tl):AW X tg l (iL1 X.K tl):=by
 intro pins s σ H R I k h;refine JI (hl pins s σ H _ I k h) λv s1 q1=>?_;obtain⟨x,H1,I1,r1,q1⟩:=q1;obtain⟨a,xs,e,hq,q⟩:=q1;subst e;cases r1;obtain⟨ED,rv,p,hz⟩:=I1.list hq;refine Um p.isList ?_;refine⟨s1.heap.objs.size,[s1.heap.objs.size],_,_,H1,rfl,I1.kept  λb o e=>Ri _ e,ztn a _,⟨_,RA _ rfl,rfl,rfl⟩,λb hb=>?_,q hz⟩
 have e:=by simpa using hb
 subst e;exact I1.fpOk (Rn _) (I1.hok.fresh (Rn _))
def LI(X:Cx)(st:Stmt)(t:TS):Prop:=∀(pins:List (Addr×Obj)) (s:Rj) (σ:St) (H:Hp) (D:Ends),Inv X pins σ H s->1<=s.toks->t D σ H->RP (RM X.prog X.w) X.A (exec st X.env) (SP X pins D) X.xe s
def nY(X:Cx)(st:List Stmt)(t:TS):Prop:=∀(pins:List (Addr×Obj)) (s:Rj) (σ:St) (H:Hp) (D:Ends),Inv X pins σ H s->1<=s.toks->t D σ H->RP (RM X.prog X.w) X.A (execs st X.env) (SP X pins D) X.xe s
def zin(hp:U8 (RM X.prog X.w) X.A X.env X.xe)(hc:X.calm=KN)(hi:AW X tg iter wi)(hg:PG X tg g)(hb:Jx X body tb)
  (hs:autoParam (∀x,RY iter X.env x=pure x) u17):LI X (.For tg iter body [] pos) (B0 wi g tb):=by
 intro pins s σ H D I k0 h;refine wpAny_For (JI (hi pins s σ H _ I k0 h) λv s1 h1=>JI h1 λKe s2 h2=>?_) hs;obtain⟨it,fp,tn,J,H2,e,I2,T,Fv,f2,W,⟨m0,w0⟩,turn⟩:=h2;subst e;have Es:∀{H':Hp},(∀b∈fp,H' b=LG)->∀b∈fp,d8 X pins H' b:=λhn b hb=>⟨hn b hb,(f2 b hb).2⟩;refine W6 (λn s'=>∃i σ' H',Inv X pins σ' H' s'/\tn i s'.heap/\(∀b∈fp,H' b=LG)/\W i n σ' H') ?_ m0 ⟨0,σ,H2,I2,Fv,λb hb=>(f2 b hb).1,w0⟩;rintro n s3 ⟨i,FB,H3,I3,Ek,Fb,w3⟩
 rcases turn i n FB H3 w3 with⟨stop,qn⟩|⟨go,N,hN,step⟩
 .refine Ss hp (JI (T.done X rfl rfl rfl hc i pins s3 FB H3 X.xe I3 (Es Fb) Ek stop) λr s4 ⟨hr,I4⟩=>?_)
  subst hr;exact Uh ⟨FB,H3,I4,qn⟩
 .refine Ss hp (JI (T.item X rfl rfl rfl hc i pins s3 FB H3 X.xe I3 (Es Fb) Ek go) λr s4 ⟨u,hr,h4⟩=>?_)
  subst hr;refine Ss hp (JI h4 λ_ s5 ⟨x,H5,I5,r5,y5,EY,Lk⟩=>?_);have AM:=I5.pinned (Es Lk) (T.obj _ _ EY);refine Ss hp (JI (hg _ s5 FB H5 x u _ AM r5 (step x H5 y5)) λ_ s6 ⟨v8,H6,I6,q6⟩=>?_);refine Ss hp (JI (hb _ s6 v8 H6 _ I6 q6) λf s7 q7=>?_)
  have ZZ:∀{LV:St}{H7:Hp},Inv X (pins++gG fp s5.heap) LV H7 s7->N LV H7->∃m,m<n/\∃i σ' H',Inv X pins σ' H' s7/\tn i s7.heap/\(∀b∈fp,H' b=LG)/\W i m σ' H':=λ{LV H7} I7 n7=>by
   obtain⟨m',hm,w7⟩:=hN LV H7 n7;refine⟨m',hm,i+1,LV,H7,I7.unpinned,T.keep _ _ _ EY λb hb o e=>(I7.pin (b,o) (RG _ (RG _ (jL hb e)))).1,λb hb=>?_,w7⟩;obtain⟨o,e,d⟩:=T.obj _ _ EY b hb;exact(I7.pin (b,o) (RG _ (RG _ (jL hb e)))).2.1
  cases f with
  |next=>obtain⟨LV,H7,I7,n7⟩:=q7;exact ZZ I7 n7
  |cont=>obtain⟨LV,H7,I7,n7⟩:=q7;exact ZZ I7 n7
  |brk=>obtain⟨LV,H7,I7,q7⟩:=q7;exact⟨LV,H7,I7.unpinned,q7⟩
  |ret v=>obtain⟨x7,LV,H7,I7,r7,q7⟩:=q7;exact⟨x7,LV,H7,I7.unpinned,r7,q7⟩
def zio(h:LI X e t)(i:∀D σ H,t' D σ H->t D σ H):LI X e t':=λpins s σ H D I k q=>h pins s σ H D I k (i D σ H q)
def ziq(h:nY X e t)(i:∀D σ H,t' D σ H->t D σ H):nY X e t':=λpins s σ H D I k q=>h pins s σ H D I k (i D σ H q)
def zir{st:Stmt}{rest:List Stmt}{t u:TS}(h1:LI X st t)(h2:Jx X rest u):nY X (st::rest) (BZ t u):=by
 intro pins s σ H D I k h;refine U7 (JI (h1 pins s σ H { D with nx:=u D } I k h) λf s1 q=>?_)
 cases f with
 |next=>
  obtain⟨σ',H',I',q⟩:=q;exact h2 pins s1 σ' H' D I' q
 |ret v=>exact q
 |brk=>exact q
 |cont=>exact q
def G6(X:Cx)(e:Expr)(t:TT):Prop:=∀(pins:List (Addr×Obj)) (s:Rj) (σ:St) (H:Hp) (Q:Bool->Hp->Prop),Inv X pins σ H s->t σ H Q->RP (RM X.prog X.w) X.A (YJ e X.env (eval e X.env)) (λb s'=>TP X pins σ Q b s'/\(b=Lf->1<=s'.toks)) X.xe s
def zyh(h:G6 X e t)(i:∀σ H Q,t' σ H Q->t σ H Q):G6 X e t':=λpins s σ H Q I q=>h pins s σ H Q I (i σ H Q q)
def zis(ho:Fo X (RB op) r)(ha:PE X a ta)(hm:Tf op (.Constant (.int i) j p)=Lf):G6 X (.Compare a [op] [.Constant (.int i) j p] pos) (uI (MS r ta (tC (.int i)))):=by
 intro pins s σ H Q I h;refine U5 (JI (ha pins s σ H _ I h) λv s1 q1=>Xo ?_) hm;obtain⟨x,H1,I1,r1,q1⟩:=q1;refine S5 (wpAny_toks_of (n:=1) (by grind) (ho pins _ σ H1 x (.int i) v _ _ (I1.tok _) r1 ⟨_,rfl⟩ q1)) (λc s3 q3=>?_) λ_ _ e=>e.2;obtain⟨k3,z,H3,I3,r3,k,e,q3⟩:=q3;subst e;cases r3;exact Sq ⟨⟨H3,I3,q3⟩,λ_=>k3⟩
def zit(ha:PT X a tA)(hb:G6 X b Jl):G6 X (.BoolOp .Or [a,b] pos) (tOr tA Jl):=by
 intro pins s σ H Q I h;refine X1 (JI (ha pins s σ H _ I h) λc s1 q1=>?_);obtain⟨H1,I1,q1⟩:=q1
 cases c with
 |true=>exact⟨⟨H1,I1,q1⟩,λz=>nomatch z⟩
 |false=>
  refine X1 (JI (hb pins s1 σ H1 Q I1 q1) λc s2 e=>?_)
  cases c with
  |false=>exact isTrue_or_nil e
  |true=>exact e
def MI(tc:TT)(t u:TS):TS:=λD σ H=>tc σ H λb H1=>if b=KN then t { D with nx:=λ_ _=>False } σ H1 else u D σ H1
def ziu{c:Expr}{a rest:List Stmt}{tc:TT}{t u:TS}{pos:Pos}(hc:G6 X c tc)(ha:Jx X a t)(hr:nY X rest u):Jx X (.If c a [] pos::rest) (MI tc t u):=by
 intro pins s σ H D I h;refine U7 (wpAny_If (JI (hc pins s σ H _ I h) λd s1 q1=>?_));obtain⟨⟨H1,I1,q1⟩,k⟩:=q1
 cases d with
 |true=>
  refine JI (ha pins s1 σ H1 _ I1 q1) λf s2 q2=>?_
  cases f with
  |next=>obtain⟨_,_,_,z⟩:=q2;exact z.elim
  |ret v=>exact q2
  |brk=>exact q2
  |cont=>exact q2
 |false=>exact Uh (hr pins s1 σ H1 D I1 (k rfl) q1)
end
end L2
namespace D
open L2
abbrev Ct:=List (List Ra)
def ziv{α:Type}(xs:List α)(x:α):L5 (xs++[x]).length (-1)=Iv xs.length:=by
 have h:(-1+((xs.length:Int)+1)).toNat=xs.length:=by omega
 have h1:(1)<=(xs.length:Int)+1:=by omega
 simp[L5,h,h1]
def ziw{α:Type}(xs:List α)(x:α):L1 (xs++[x]) (-1)=Iv x:=by
 unfold L1;rw[ziv];simp
abbrev FK:=XE->Ct->Tp->Option ((Fl×XE×Ct)×Tp)
def MM(s:Ct):PyData:=.list (s.reverse.map .list)
def Hn(i:Nat)(ρ:XE)(s:Ct):XE:=ρ.set i (Iv (.loc (MM s)))
inductive Fm(K:Frag)(O:Addr->Prop)(H:Hp):List Addr->Ct->Prop where
 |nil:Fm K O H [] []
 |cons {b:Addr}{bs:List Addr}{vs:List V}{ys:List Ra}{s:Ct}:H b=Iv (.lst vs)->EE K O H vs ys->Fm K O H bs s->Fm K O H (b::bs) (ys::s)
theorem Fm.mono{K:Frag}{O O':Addr->Prop}{H H':Hp}(l:Le O H O' H'):∀{bs:List Addr}{s:Ct},Fm K O H bs s->(∀b∈bs,∀o,H b=Iv o->H' b=Iv o)->Fm K O' H' bs s
 |_,_,.nil,_=>.nil
 |_,_,.cons h r t,k=>.cons (k _ Rf _ h) (r.mono l) (Fm.mono l t λb hb=>k b (Rc _ hb))
theorem Fm.length{K:Frag}{O:Addr->Prop}{H:Hp}:∀{bs:List Addr}{s:Ct},Fm K O H bs s->bs.length=s.length
 |_,_,.nil=>rfl
 |_,_,.cons _ _ t=>congrArg _ t.length
theorem Fm.reps{K:Frag}{O O':Addr->Prop}{H:Hp}(l:Le O H O' H):∀{bs:List Addr}{s:Ct},Fm K O H bs s->(∀b∈bs,¬O' b)->EE K O' H (bs.reverse.map V.ref) (s.reverse.map .list)
 |_,_,.nil,_=>.nil
 |_,_,.cons h r t,k=>by
  rw[To,To,Su,Su];exact(Fm.reps l t λb hb=>k b (Rc _ hb)).append (.cons (.lst (.inl ⟨k _ Rf,.inl h⟩) (r.mono l)) .nil)
structure KS(K:Frag)(Cz:Addr->Prop)(H₀:Hp)(ts:List Addr)(O:Addr->Prop)(H:Hp)(σ:L2.St)(i:Nat)(a:Addr)(bs:List Addr)(s:Ct):Prop where
 sa:σ[i]? = Iv (Iv (.ref a))
 ha:H a=Iv (.lst (bs.reverse.map V.ref))
 nd:(a::bs).Nodup
 ow:∀b∈a::bs,O b/\b∉ts/\H₀ b=LG/\¬Cz b
 st:Fm K O H bs s
structure RK(K:Frag)(Cz:Addr->Prop)(H₀:Hp)(F:List ((Addr->Prop)×Hp))(ts:List Addr)(O:Addr->Prop)(H:Hp)(σ:L2.St)(ρ:XE)(T:Tp)(i:Nat)(s:Ct):Prop where
 rs:RS K Cz H₀ F ts O H σ ρ T
 pd:∀(j:Nat) (w:W),ρ[j]? = Iv (Iv w)->∃x,w=.d x
 ui:ρ[i]? = Iv LG
 ks:∃a bs,KS K Cz H₀ ts O H σ i a bs s
def Mx(K:Frag)(Cz:Addr->Prop)(H₀:Hp)(F:List ((Addr->Prop)×Hp))(ts:List Addr)(i:Nat)(D:Ends)(ρ':XE)(s':Ct)(T':Tp):Fl->Prop
 |.nx=>∀O' σ' H',RK K Cz H₀ F ts O' H' σ' ρ' T' i s'->D.nx σ' H'
 |.bk=>∀O' σ' H',RK K Cz H₀ F ts O' H' σ' ρ' T' i s'->D.bk σ' H'
 |.ct=>∀O' σ' H',RK K Cz H₀ F ts O' H' σ' ρ' T' i s'->D.ct σ' H'
 |.rt x=>∀v H',F7 ts H₀ H'->HC K Cz ts H' T'->Rep K Cz H' v x->D.rt v H'
 |.ro _=>False
inductive Ee(K:Frag)(i:Nat)(f:FK)(D:Ends)(σ:L2.St)(H:Hp):Prop where
 |mk (Cz:Addr->Prop) (H₀:Hp) (F:List ((Addr->Prop)×Hp)) (ts:List Addr) (O:Addr->Prop) (ρ:XE) (s:Ct) (T:Tp) (fl:Fl) (ρ':XE) (s':Ct) (T':Tp) (rk:RK K Cz H₀ F ts O H σ ρ T i s) (e:f ρ s T=Iv ((fl,ρ',s'),T')) (q:Mx K Cz H₀ F ts i D ρ' s' T' fl):Ee K i f D σ H
structure DK(X:Cx)(i:Nat)(s:Stmt)(f:FK):Prop where
 pe:PS X s (Ee X.K i f)
structure F3(X:Cx)(i:Nat)(s:List Stmt)(f:FK):Prop where
 pe:Jx X s (Ee X.K i f)
section
variable {K:Frag}{Cz:Addr->Prop}{H₀:Hp}{F:List ((Addr->Prop)×Hp)}{ts:List Addr}{O:Addr->Prop}{H H1:Hp}{σ:L2.St}{ρ:XE}{T T1:Tp}{i:Nat}{s:Ct}
def RS.lay0(r:RS K Cz H₀ F ts O H σ ρ T)(pd:∀(j:Nat) (w:W),ρ[j]? = Iv (Iv w)->∃x,w=.d x)(hp:H p=LG)(hm:Mn (Iv o)):Le O H (λb=>O b\/b=p) (upd H p o)/\RS K Cz H₀ F ts (λb=>O b\/b=p) (upd H p o) σ ρ T:=by
 have le:Le O H (λb=>O b\/b=p) (upd H p o):=λa o n e=>by
  have z:=di e hp;exact⟨λq=>q.elim n z,by rw[aG z];exact e⟩
 refine⟨le,⟨λb hb=>.inl (r.hc.own b hb),λb hb=>?_,r.hc.nd,r.hc.len,λj a ys e1 e2=>?_⟩,λj w e=>?_,λb hb=>.inl (r.sub b hb),r.ots,r.same.trans (.new hp _),λj ys a e1 e2=>?_,λj k ys zs v e1 e2 e3 e4=>?_,λf hf=>(r.frs f hf).trans le,r.len⟩
 .by_cases z:b=p
  .subst z;rw[a9];exact hm
  .rw[aG z]
   exact r.hc.trk b (hb.resolve_right z)
 .exact(r.hc.tape j a ys e1 e2).mono (λo q=>by rw[aG (di q hp)];exact q) le
 .obtain⟨x,h1,h2⟩:=r.re j w e
  obtain⟨y,rfl⟩:=pd j w e;exact⟨x,h1,Rep.mono le h2⟩
 .obtain⟨y,z⟩:=pd _ _ e1;cases z
 .obtain⟨y,z⟩:=pd _ _ e1;cases z
def RS.wr0(r:RS K Cz H₀ F ts O H σ ρ T)(pd:∀(j:Nat) (w:W),ρ[j]? = Iv (Iv w)->∃x,w=.d x)(oa:O a)(nt:a∉ts)(f1:H₀ a=LG)(hm:Mn (Iv o)):Le O H O (upd H a o)/\RS K Cz H₀ F ts O (upd H a o) σ ρ T:=by
 have le:Le O H O (upd H a o):=λb o n e=>⟨n,by rw[aG (λz=>n (by rw[z];exact oa))];exact e⟩;refine⟨le,⟨r.hc.own,λb hb=>?_,r.hc.nd,r.hc.len,λj b zs q1 q2=>?_⟩,λj w e=>?_,r.sub,r.ots,λb o n e=>?_,λj ys a e1 e2=>?_,λj k ys zs v e1 e2 e3 e4=>?_,λf hf=>(r.frs f hf).trans le,r.len⟩
 .by_cases z:b=a
  .subst z;rw[a9];exact hm
  .rw[aG z];exact r.hc.trk b hb
 .exact(r.hc.tape j b zs q1 q2).mono (λo q=>by rw[aG (λz=>nt (by rw[←z];exact Rw q1))];exact q) le
 .obtain⟨x,h1,h2⟩:=r.re j w e
  obtain⟨y,rfl⟩:=pd j w e;exact⟨x,h1,Rep.mono le h2⟩
 .have:=r.same b o n e
  rw[aG (λz=>by grind)]<;>omega
 .obtain⟨y,z⟩:=pd _ _ e1;cases z
 .obtain⟨y,z⟩:=pd _ _ e1;cases z
theorem RK.step(r:RK K Cz H₀ F ts O H σ ρ T i s)(x:F7 ts H H1)(c:HC K O ts H1 T1):RK K Cz H₀ F ts O H1 σ ρ T1 i s:=by
 obtain⟨rs,pd,ui,a,bs,k⟩:=r;exact⟨rs.step x c,pd,ui,a,bs,k.sa,x _ _ (k.ow a Rf).2.1 k.ha,k.nd,k.ow,k.st.mono (rs.hc.le x) λb hb o e=>x _ _ (k.ow b (Rc _ hb)).2.1 e⟩
theorem RK.set(r:RK K Cz H₀ F ts O H σ ρ T i s)(n:j≠i)(rv:Rep K O H v x):RK K Cz H₀ F ts O H (σ.set j (Iv v)) (ρ.set j (Iv (.d x))) T i s:=by
 obtain⟨rs,pd,ui,a,bs,k⟩:=r;refine⟨rs.set  rv (λ_ z=>nomatch z),λm w e=>?_,by simp_all,a,bs,by rw[Rm n];exact k.sa,k.ha,k.nd,k.ow,k.st⟩
 by_cases z:j=m
 .subst z
  have hl:=by
   have:=(Rh.mp e).1;simpa using this
  rw[Rt hl] at e<;>grind
 .simp_all
  exact pd m w e
theorem RK.test(r:RK K Cz H₀ F ts O H σ ρ T i s):∃O',HC K O' [] H []/\LZ K O' [] H σ (Hn i ρ s):=by
 obtain⟨rs,pd,ui,a,bs,k⟩:=r;have le:Le O H (λb=>O b/\b∉bs) H:=λb o n e=>⟨λz=>n z.1,e⟩;have hl:=(Rh.mp ui).1;refine⟨λb=>O b/\b∉bs,⟨λ_ h=>(nomatch h),λb hb=>rs.hc.trk b hb.1,UY,rfl,λj b ys e1 e2=>(by simp at e1)⟩,λj w e=>?_⟩;unfold Hn at e
 by_cases z:i=j
 .subst z
  rw[Rt hl] at e;cases e;refine⟨.ref a,k.sa,a,rfl,⟨(k.ow a Rf).1,(RJ.mp k.nd).1⟩,λh=>(nomatch h),?_⟩;exact⟨_,k.ha,k.st.reps le λb hb z=>z.2 hb⟩
 .rw[Rm z] at e
  obtain⟨x,h1,h2⟩:=rs.re j w e;obtain⟨y,rfl⟩:=pd j w e;exact⟨x,h1,Rep.mono le h2⟩
theorem RK.tested(r:RK K Cz H₀ F ts O H σ ρ T i s)(x:F7 [] H H1):RK K Cz H₀ F ts O H1 σ ρ T i s:=by
 have s1:F7 ts H H1:=λb o _ e=>x b o (λh=>nomatch h) e;refine r.step s1 (r.rs.hc.step s1 λb hb=>?_);obtain⟨u,z⟩:=(r.rs.hc.trk b (r.rs.hc.own b hb)).ex;rw[z];exact x b _ (λh=>nomatch h) z
theorem RK.less(r:RK K Cz H₀ (f::F) ts O H σ ρ T i s):RK K Cz H₀ F ts O H σ ρ T i s:=⟨r.rs.less,r.pd,r.ui,r.ks⟩
theorem RK.more(r:RK K Cz H₀ F ts O H σ ρ T i s):RK K Cz H₀ ((O,H)::F) ts O H σ ρ T i s:=⟨r.rs.more,r.pd,r.ui,r.ks⟩
end
def zyi(pd:∀(j:Nat) (w:W),ρ[j]? = Iv (Iv w)->∃x,w=.d x):vn ρ:=λi ds e=>by
 obtain⟨x,z⟩:=pd _ _ e;cases z
def fE:FK:=λρ s T=>Iv ((.nx,ρ,s),T)
def qI(g:FK)(p:Fl×XE×Ct)(T:Tp):Option ((Fl×XE×Ct)×Tp):=match p with
 |(.nx,JT,s1)=>g JT s1 T
 |(fl,JT,s1)=>Iv ((fl,JT,s1),T)
def da(f g:FK):FK:=λρ s T=>G5 (f ρ s T) (qI g)
noncomputable def uP(j:Nat)(ρ:XE)(s:Ct)(w:W)(T:Tp):Option ((Fl×XE×Ct)×Tp):=match w with
 |.d x=>Iv ((.nx,ρ.set j (Iv (.d x)),s),T)
 |_=>LG
def lh(j:Nat)(f:FE):FK:=λρ s T=>G5 (f ρ T) (uP j ρ s)
def jw(f g:FK)(ρ:XE)(s:Ct)(T:Tp)(b:Bool)(_:Tp):Option ((Fl×XE×Ct)×Tp):=if b=KN then f ρ s T else g ρ s T
def FP(i:Nat)(c:FT)(f g:FK):FK:=λρ s T=>G5 (c (Hn i ρ s) []) (jw f g ρ s T)
noncomputable def uQ(ρ:XE)(s:Ct)(w:W)(T:Tp):Option ((Fl×XE×Ct)×Tp):=match w with
 |.d x=>Iv ((.rt x,ρ,s),T)
 |_=>LG
def li(f:FE):FK:=λρ s T=>G5 (f (cC ρ) T) (uQ ρ s)
noncomputable def Mc(k:FK)(p:Fl×XE×Ct)(T:Tp):Option ((Fl×XE×Ct)×Tp):=match p with
 |(.nx,JT,s1)=>k JT s1 T
 |(.ct,JT,s1)=>k JT s1 T
 |(.bk,JT,s1)=>Iv ((.nx,JT,s1),T)
 |(.rt x,JT,s1)=>Iv ((.rt x,JT,s1),T)
 |(.ro x,JT,s1)=>Iv ((.ro x,JT,s1),T)
def dR(j:Nat)(body:FK):List Ra->FK
 |[]=>fE
 |d::r=>λρ s T=>G5 (body (ρ.set j (Iv (.d d))) s T) (Mc (dR j body r))
def kFor(j:Nat)(it:FI)(body:FK):FK:=λρ s T=>G5 (it ρ T) λds T1=>dR j body ds ρ s T1
noncomputable def kO:FK:=λρ s T=>if s.length<100000 then Iv ((.nx,ρ,[]::s),T) else LG
noncomputable def qJ(ρ:XE)(s:Ct)(k w:W)(T:Tp):Option ((Fl×XE×Ct)×Tp):=match k,w,s with
 |.d (.int n),.d x,ys::r=>if n = -1/\ys.length<100000 then Iv ((.nx,ρ,(ys++[x])::r),T) else LG
 |_,_,_=>LG
def fI(fk fe:FE):FK:=λρ s T=>G5 (fk ρ T) λk T1=>G5 (fe ρ T1) (qJ ρ s k)
noncomputable def nS(j:Nat):FK:=λρ s T=>match s with
 |ys::r=>Iv ((.nx,ρ.set j (Iv (.d (.tuple ys))),r),T)
 |[]=>LG
theorem rV:∀{ρ:XE},qj ρ=KN->∀(j:Nat) (w:W),ρ[j]? = Iv (Iv w)->∃x,w=.d x
 |[],_,_,_,e=>by simp at e
 |none::r,h,0,_,e=>by simp at e
 |none::r,h,j+1,w,e=>rV (ρ:=r) h j w (by simpa using e)
 |some (.d x)::r,h,0,_,e=>by simp at e;exact⟨x,e.symm⟩
 |some (.d x)::r,h,j+1,w,e=>rV (ρ:=r) h j w (by simpa using e)
 |some (.tp _)::_,h,_,_,_=>by cases h
 |some (.loc _)::_,h,_,_,_=>by cases h
noncomputable def uq(ρ:XE)(o:Option ((Fl×XE×Ct)×Tp)):Option ((Fl×XE)×Tp):=match o with
 |some ((.rt x,_,_),T)=>Iv ((.rt x,ρ),T)
 |_=>LG
section
variable {X:Cx}{pos:Pos}{st:Stmt}{rest:List Stmt}{f g:FK}{e:Expr}{fe:FE}{c:FT}{i:Nat}{ρ:XE}{s:Ct}{T:Tp}{fk:FE}{j:Nat}
def zyj:F3 X i [] fE:=by
 refine⟨?_⟩;refine hZ sW λD σ H=>?_;rintro⟨Cz,H₀,F,ts,O,ρ,s,T,fl,ρ',s',T',rs,e,q⟩;cases e;exact q O σ H rs
def sQ(h1:DK X i st f)(h2:F3 X i rest g):F3 X i (st::rest) (da f g):=by
 refine⟨?_⟩;refine hZ (jR h1.pe h2.pe) λD σ H=>?_;rintro⟨Cz,H₀,F,ts,O,ρ,s,T,fl,ρ',s',T',rs,e,q⟩;obtain⟨⟨Er,JT,s1⟩,T1,e1,e⟩:=aF e;refine⟨Cz,H₀,F,ts,O,ρ,s,T,Er,JT,s1,T1,rs,e1,?_⟩
 cases Er with
 |nx=>exact λO' σ' H' E8=>⟨Cz,H₀,F,ts,O',JT,s1,T1,fl,ρ',s',T',E8,e,q⟩
 |rt x=>cases e;exact q
 |ro x=>cases e;exact q
 |bk=>cases e;exact q
 |ct=>cases e;exact q
def fj(h1:DK X i st f):F3 X i [st] f:=⟨pQ h1.pe⟩
def zix(hN:X.N.Nodup)(he:DE X e fe)(hj:autoParam (j≠i) u11)(hi:autoParam (X.N[j]? = Iv x) u10)(hx:autoParam (Loc X.env.scope x) u16)(hs:autoParam (So e (Iv (.Name x pos')) pos.line X.env=pure Lf) u10)
  (hf:autoParam (X.fn x=KN\/X.env.scope.names.lookup x=Iv .local) u13):DK X i (.Assign [.Name x pos'] e pos) (lh j fe):=by
 refine⟨?_⟩;refine b7 (fm hN hi hx he.pe hs hf) λD σ H=>?_;rintro⟨Cz,H₀,F,ts,O,ρ,s,T,fl,ρ',s',T',rk,e,q⟩;obtain⟨w,T1,e1,e⟩:=aF e;refine⟨O,ts,ρ,T,w,T1,rk.rs.hc,rk.rs.re,e1,λv H1 s1 C3 r1=>?_⟩
 cases w with
 |d x=>cases e;exact q O _ _ ((rk.step s1 C3).set hj r1)
 |tp k=>cases e
 |loc xs=>cases e
def nB(hc:DT X ce c)(ha:F3 X i a f)(hb:F3 X i b g):DK X i (.If ce a b pos) (FP i c f g):=by
 refine⟨?_⟩;refine b7 (uL hc.pe ha.pe hb.pe) λD σ H=>?_;rintro⟨Cz,H₀,F,ts,O,ρ,s,T,fl,ρ',s',T',rk,e,q⟩;obtain⟨b1,T1,e1,e⟩:=aF e;obtain⟨O',c',vp⟩:=rk.test;refine⟨O',[],_,[],b1,T1,c',vp,e1,λH1 s1 C3=>?_⟩
 cases b1 with
 |true=>exact gO ⟨Cz,H₀,F,ts,O,ρ,s,T,fl,ρ',s',T',rk.tested s1,by simpa[jw] using e,q⟩
 |false=>exact fJ ⟨Cz,H₀,F,ts,O,ρ,s,T,fl,ρ',s',T',rk.tested s1,by simpa[jw] using e,q⟩
def zyk(he:DE X e fe):DK X i (.Return (Iv e) pos) (li fe):=by
 refine⟨?_⟩;refine b7 (qi he.pe) λD σ H=>?_;rintro⟨Cz,H₀,F,ts,O,ρ,s,T,fl,ρ',s',T',rk,e,q⟩;obtain⟨w,T1,e1,e⟩:=aF e;obtain⟨c0,Jp⟩:=rk.rs.frz (zyi rk.pd);refine⟨Cz,ts,cC ρ,T,w,T1,c0,Jp,e1,λv H1 s1 C3 r1=>?_⟩
 cases w with
 |d x=>cases e;exact q v H1 (rk.rs.same.trans s1) C3 r1
 |tp k=>cases e
 |loc xs=>cases e
def ziy(hN:autoParam (X.N[i]? = Iv x) u10)(hv:autoParam (EC X.env.scope x) u18)(hd:autoParam ((x == ("__debug__" : Str))=Lf) u11)
  (hcd:autoParam ((x == ("__classdict__" : Str))=Lf) u11) 
  (Fx:autoParam (Sa (.Name x p) "append" X.env (eval (.Name x p) X.env)=eval (.Name x p) X.env) u10)
  (C0:autoParam (cQ8 X [.List [] J0] cpos) u20)
  (JV:autoParam ((apos.endLine == cpos.line)=KN) u10) (IS:autoParam (Rk [.List [] J0] X.env=(Lf,eval (.List [] J0) X.env)::Rk [] X.env) u12) (Eo:autoParam ((R6 cpos (Rk [] X.env)).any (·.1)=Lf) u15)
  (hs:autoParam (So (.Call (.Attribute (.Name x p) "append" apos) [.List [] J0] [] cpos) LG pos.line X.env=pure Lf) u10) :
  DK X i (.Expr (.Call (.Attribute (.Name x p) "append" apos) [.List [] J0] [] cpos) pos) kO:=by
 refine⟨?_⟩;refine b7 (pR (jk SZ Uz UA rX (pv i hN hv hd hcd) (cn (kg cM) cM IS) Fx C0 JV IS Eo) hs) λD σ H=>?_;rintro⟨Cz,H₀,F,ts,O,ρ,s,T,fl,ρ',s',T',rk,e,q⟩;unfold kO at e;split at e
 .rename_i hz
  cases e;obtain⟨rs,pd,ui,a,bs,k⟩:=rk;refine⟨_,k.sa,.inl ⟨rfl,_,Jr.of k.ha⟩,Sj _,λb hb=>?_⟩;obtain⟨oa,M5,HY,xg⟩:=k.ow a Rf;have nO:=rs.hc.fresh hb;have Ic:b∉ts:=λz=>nO (rs.hc.own b z)
  have JO:H₀ b=LG:=by
   cases e:H₀ b with
   |none=>rfl
   |some o=>rw[rs.same b o Ic e] at hb;cases hb
  have GD:a≠b:=λz=>by have:=k.ha;rw[z,hb] at this;cases this
  obtain⟨HR,Ez⟩:=rs.lay0 pd hb (o:=.lst []) (.inl ⟨_,rfl⟩);obtain⟨Kf,DJ⟩:=Ez.wr0 (a:=a) pd (.inl oa) M5 HY (o:=.lst (bs.reverse.map V.ref++[.ref b])) (.inl ⟨_,rfl⟩);have hl:=k.st.length
  have hsz:(bs.reverse.map V.ref).length<sizeLine:=by
   rw[R4,List.length_reverse,hl];exact Rz hz (by decide)
  refine⟨a,_,_,rfl,rfl,by rw[aG GD];exact k.ha,hsz,q _ _ _ ⟨DJ,pd,ui,a,b::bs,k.sa,?_,?_,?_,?_⟩⟩
  .rw[a9,To,Su];rfl
  .have:=RJ.mp k.nd
   refine RJ.mpr ⟨λz=>?_,RJ.mpr ⟨λz=>?_,this.2⟩⟩
   .rcases Ru.mp z with z|z
    .exact GD z
    .exact this.1 z
   .exact nO (k.ow b (Rc _ z)).1
  .intro c hc
   rcases Ru.mp hc with z|z
   .subst z;exact⟨.inl oa,M5,HY,xg⟩
   .rcases Ru.mp z with z|z
    .subst z;exact⟨.inr rfl,Ic,JO,λq=>nO (rs.sub _ q)⟩
    .obtain⟨m1,m2,m3,m4⟩:=k.ow c (Rc _ z)
     exact⟨.inl m1,m2,m3,m4⟩
  .refine .cons (vs:=[]) (by rw[aG (Tn GD),a9]) .nil (k.st.mono (HR.trans Kf) λc hc o e=>?_)
   rw[aG (show c≠a from λz=>(RJ.mp k.nd).1 (z ▸ hc)),aG (di e hb)];exact e
 .cases e
def uy(hk:DE X ke fk)(he:DE X e fe)(hN:autoParam (X.N[i]? = Iv x) u10)(hv:autoParam (EC X.env.scope x) u18)(hd:autoParam ((x == ("__debug__" : Str))=Lf) u11)
  (hcd:autoParam ((x == ("__classdict__" : Str))=Lf) u11) (Ku:autoParam (mG ke) u21)
  (Fx:autoParam (Sa (.Subscript (.Name x p) ke KO) "append" X.env (eval (.Subscript (.Name x p) ke KO) X.env)=eval (.Subscript (.Name x p) ke KO) X.env) u10)
  (C0:autoParam (cQ8 X [e] cpos) u20)
  (JV:autoParam ((apos.endLine == cpos.line)=KN) u10) (IS:autoParam (Rk [e] X.env=(Lf,eval e X.env)::Rk [] X.env) u12) (Eo:autoParam ((R6 cpos (Rk [] X.env)).any (·.1)=Lf) u15)
  (hs:autoParam (So (.Call (.Attribute (.Subscript (.Name x p) ke KO) "append" apos) [e] [] cpos) LG pos.line X.env=pure Lf) u10) :
  DK X i (.Expr (.Call (.Attribute (.Subscript (.Name x p) ke KO) "append" apos) [e] [] cpos) pos) (fI fk fe):=by
 refine⟨?_⟩;refine b7 (pR (jk SZ Uz UA rX (mZ Ew (pv i hN hv hd hcd) hk.pe Ku) (cn he.pe cM IS) Fx C0 JV IS Eo) hs) λD σ H=>?_;rintro⟨Cz,H₀,F,ts,O,ρ,s,T,fl,ρ',s',T',rk,e,q⟩;obtain⟨wk,T1,e1,e⟩:=aF e;obtain⟨w,T2,e2,e⟩:=aF e;unfold qJ at e;split at e
 .rename_i n x0 ys s0 g1 g2
  split at e
  .rename_i hz
   cases e;obtain⟨rfl,hz⟩:=hz;have rk0:=rk;obtain⟨rs,pd,ui,a,bs,k⟩:=rk;refine⟨_,k.sa,O,ts,ρ,T,_,_,rs.hc,rs.re,e1,λvk H1 s1 C3 r1=>?_⟩;cases (show Rep X.K O H1 vk (.int _) from r1);have Ja:=rk0.step s1 C3;have k':KS X.K Cz H₀ ts O H1 σ i a bs (ys::s0):=⟨k.sa,s1 _ _ (k.ow a Rf).2.1 k.ha,k.nd,k.ow,k.st.mono (rs.hc.le s1) λb hb o e=>s1 _ _ (k.ow b (Rc _ hb)).2.1 e⟩
   cases Dr:k'.st with
   |@cons b F5 vs _ _ hb rb st'=>
   have nt:b∉ts:=(k.ow b (by simp)).2.1;refine⟨a,_,_,.ref b,rfl,rfl,Jr.of k'.ha,?_,.inl ⟨rfl,vs,Jr.of hb⟩,O,ts,ρ,T1,_,_,C3,Ja.rs.re,e2,λu H2 s2 JY r2=>?_⟩
   .rw[To,Su]
    exact ziw _ _
   .have GW:=Ja.step s2 JY
    obtain⟨ob,_,JO,vA⟩:=k.ow b (by simp);obtain⟨le3,EH⟩:=GW.rs.wr0 (a:=b) pd ob nt JO (o:=.lst (vs++[u])) (.inl ⟨_,rfl⟩);have hl:=rb.length;have GD:a≠b:=λz=>(RJ.mp k.nd).1 (by rw[z];exact Rf);refine⟨b,vs,u,rfl,rfl,s2 _ _ nt hb,by rw[hl];exact Rz hz (by decide),q _ _ _ ⟨EH,pd,ui,a,b::F5,k.sa,?_,k.nd,k.ow,?_⟩⟩
    .rw[aG GD];exact s2 _ _ (k.ow a Rf).2.1 k'.ha
    .refine .cons a9 (((rb.mono (C3.le s2)).append (.cons r2 .nil)).mono le3) (st'.mono ((C3.le s2).trans le3) λc hc o e=>?_)
     have n:c≠b:=λz=>(RJ.mp (RJ.mp k.nd).2).1 (z ▸ hc);rw[aG n];exact s2 _ _ (k.ow c (by simp[hc])).2.1 e
  .cases e
 .cases e
def ziz(hg:Gl X t)(hm:X.mg t=LG)(hb:Te t=Iv (.type "tuple"))(hNd:X.N.Nodup)(hj:autoParam (j≠i) u11)(hN:autoParam (X.N[i]? = Iv x) u10)(hv:autoParam (EC X.env.scope x) u18)(hd:autoParam ((x == ("__debug__" : Str))=Lf) u11)
  (hcd:autoParam ((x == ("__classdict__" : Str))=Lf) u11)
  (hi:autoParam (X.N[j]? = Iv y) u10) (hy:autoParam (Loc X.env.scope y) u16)
  (hn:autoParam (t≠"__name__") u11) (E2:autoParam ((t == ("__debug__" : Str))=Lf) u11)
  (Fx:autoParam (Sa (.Name x p) "pop" X.env (eval (.Name x p) X.env)=eval (.Name x p) X.env) u10) (JV:autoParam ((apos.endLine == cpos.line)=KN) u10)
  (IS:autoParam (Rk [.Call (.Attribute (.Name x p) "pop" apos) [] [] cpos] X.env=(Lf,eval (.Call (.Attribute (.Name x p) "pop" apos) [] [] cpos) X.env)::Rk [] X.env) u12) (Mh:autoParam ((R6 Eg (Rk [] X.env)).any (·.1)=Lf) u15)
  (hs:autoParam (So (.Call (.Name t tp1) [.Call (.Attribute (.Name x p) "pop" apos) [] [] cpos] [] Eg) (Iv (.Name y pos')) pos.line X.env=pure Lf) u10)
  (hf:autoParam (X.fn y=KN\/X.env.scope.names.lookup y=Iv .local) u13) :
  DK X i (.Assign [.Name y pos'] (.Call (.Name t tp1) [.Call (.Attribute (.Name x p) "pop" apos) [] [] cpos] [] Eg) pos) (nS j):=by
 refine⟨?_⟩;refine b7 (fm hNd hi hy (rW zuj hg hm hb (cn (zcv SZ WJ WK zcw (pv i hN hv hd hcd) Fx JV) cM IS) hn E2 IS Mh) hs hf) λD σ H=>?_;rintro⟨Cz,H₀,F,ts,O,ρ,s,T,fl,ρ',s',T',rk,e,q⟩
 cases s with
 |nil=>cases e
 |cons ys s0=>
  cases e;obtain⟨rs,pd,ui,a,bs,k⟩:=rk
  cases Dr:k.st with
  |@cons b F5 vs ys s0 hb rb st'=>
  obtain⟨oa,M5,HY,xg⟩:=k.ow a Rf;obtain⟨ob,Ic,JO,vA⟩:=k.ow b (by simp);have GD:a≠b:=λz=>(RJ.mp k.nd).1 (by rw[z];exact Rf)
  have Jm:(((b::F5).reverse.map V.ref).dropLast)=F5.reverse.map V.ref:=by
   rw[To,Su]
   exact List.dropLast_concat
  refine⟨_,k.sa,.inl ⟨rfl,_,Jr.of k.ha⟩,a,_,.ref b,rfl,rfl,k.ha,?_,b,vs,rfl,.inl ⟨Jr.of (by rw[aG (Tn GD)];exact hb),λl hl=>?_⟩⟩
  .rw[To,Su]
   simp
  .rw[Jm] at hl ⊢
   obtain⟨HR,Ez⟩:=rs.wr0 (a:=a) pd oa M5 HY (o:=.lst (F5.reverse.map V.ref)) (.inl ⟨_,rfl⟩);have sx:F7 ts (upd H a (.lst (F5.reverse.map V.ref))) (upd (upd H a (.lst (F5.reverse.map V.ref))) l (.tup vs)):=.new hl _
   have Ja:RK X.K Cz H₀ F ts O (upd H a (.lst (F5.reverse.map V.ref))) σ ρ T i s':=by
    refine⟨Ez,pd,ui,a,F5,k.sa,a9,?_,?_,st'.mono HR λc hc o e=>?_⟩
    .have:=RJ.mp k.nd
     exact RJ.mpr ⟨λz=>this.1 (Rc _ z),(RJ.mp this.2).2⟩
    .intro c hc
     rcases Ru.mp hc with z|z
     .subst z;exact⟨oa,M5,HY,xg⟩
     .exact k.ow c (by simp[z])
    .rw[aG (show c≠a from λz=>(RJ.mp k.nd).1 (z ▸ Rc _ hc))]
     exact e
   exact q _ _ _ ((Ja.step sx (Ja.rs.hc.new hl _)).set hj (Ja.rs.hc.newT hl (rb.mono HR)))
@[simp] theorem NU:fE ρ s T=Iv ((.nx,ρ,s),T):=rfl
@[simp] theorem tK:da f g ρ s T=G5 (f ρ s T) (qI g):=rfl
@[simp] theorem sO:qI g (.nx,ρ,s) T=g ρ s T:=rfl
@[simp] theorem NR:qI g (.rt x,ρ,s) T=Iv ((.rt x,ρ,s),T):=rfl
@[simp] theorem OT:lh j fe ρ s T=G5 (fe ρ T) (uP j ρ s):=rfl
@[simp] theorem NQ:uP j ρ s (.d x) T=Iv ((.nx,ρ.set j (Iv (.d x)),s),T):=rfl
@[simp] theorem Qk:FP i c f g ρ s T=G5 (c (Hn i ρ s) []) (jw f g ρ s T):=rfl
@[simp] theorem OW:jw f g ρ s T b T'=if b=KN then f ρ s T else g ρ s T:=rfl
@[simp] theorem OU:li fe ρ s T=G5 (fe (cC ρ) T) (uQ ρ s):=rfl
@[simp] theorem NS:uQ ρ s (.d x) T=Iv ((.rt x,ρ,s),T):=rfl
@[simp] theorem NT:kO ρ s T=if s.length<100000 then Iv ((.nx,ρ,[]::s),T) else LG:=rfl
@[simp] theorem OX:fI fk fe ρ s T=G5 (fk ρ T) λk T1=>G5 (fe ρ T1) (qJ ρ s k):=rfl
@[simp] theorem NV:qJ ρ (ys::s) (.d (.int n)) (.d x) T=if n = -1/\ys.length<100000 then Iv ((.nx,ρ,(ys++[x])::s),T) else LG:=rfl
@[simp] theorem OV:nS j ρ (ys::s) T=Iv ((.nx,ρ.set j (Iv (.d (.tuple ys))),s),T):=rfl
end
structure HU(X:Cx)(e:Expr)(f:FE):Prop where
 pe:Kx X e (lift X.K f)
structure DI1(X:Cx)(tg e:Expr)(f:FI):Prop where
 pe:AW X tg e (Bj X.K f)
structure zK(X:Cx)(e:Expr)(f:FT):Prop where
 pe:G6 X e (liftT X.K f)
structure DK1(X:Cx)(i:Nat)(s:Stmt)(f:FK):Prop where
 pe:LI X s (Ee X.K i f)
structure F9(X:Cx)(i:Nat)(s:List Stmt)(f:FK):Prop where
 pe:nY X s (Ee X.K i f)
section
variable {X:Cx}
theorem DE.one1(h:DE X e f):HU X e f:=⟨h.pe.one1⟩
noncomputable def iq(y z:Str):Ra->Option Ra
 |.str w=>if w.length<=1048576/\z.length<=14/\(y == z)=Lf then Iv (.str (Sv w y z)) else LG
 |_=>LG
def zyl(ho:HU X o fo)
  (Fx:autoParam (Sa o "replace" X.env (eval o X.env)=eval o X.env) u10)
  (C0:autoParam (cQ8 X [.Constant (.str y) j1 p1,.Constant (.str z) j2 p2] cpos) u10)
  (JV:autoParam ((apos.endLine == cpos.line)=KN) u10) :
  HU X (.Call (.Attribute o "replace" apos) [.Constant (.str y) j1 p1,.Constant (.str z) j2 p2] [] cpos) (LP (iq y z) fo):=by
 refine⟨zyg (zik ho.pe Fx C0 JV) λσ H Q=>?_⟩;rintro⟨O,ts,ρ,T,w,T',hc,re,e,q⟩;obtain⟨w1,T1,e1,e⟩:=aF e;obtain⟨x,d,h1,h2,rfl,rfl⟩:=ie e;refine⟨O,ts,ρ,T,w1,T',hc,re,e1,λv1 H1 s1 C3 r1=>?_⟩;unfold iq at h2;split at h2
 .rename_i z0
  split at h2
  .rename_i hz
   cases h2;cases su h1;cases (r1);exact⟨z0,rfl,hz.1,hz.2.1,hz.2.2,q _ H1 s1 C3 (.str _)⟩
  .cases h2
 .cases h2
def zja(ho:HU X o fo)(he:DE X e fe)
  (Fx:autoParam (Sa o "split" X.env (eval o X.env)=eval o X.env) u10)
  (C0:autoParam (cQ8 X [e] cpos) u20)
  (JV:autoParam ((apos.endLine == cpos.line)=KN) u10) (IS:autoParam (Rk [e] X.env=(Lf,eval e X.env)::Rk [] X.env) u12) (Eo:autoParam ((R6 cpos (Rk [] X.env)).any (·.1)=Lf) u15) :
  HU X (.Call (.Attribute o "split" apos) [e] [] cpos) (af mI fo fe):=by
 refine⟨?_⟩;refine zyg (zil Ud Ug PySem.F.type_str_split zgh ho.pe (cn he.pe cM IS) Fx C0 JV IS Eo) λσ H Q=>?_;rintro⟨O,ts,ρ,T,w,T',hc,re,e,q⟩;obtain⟨w1,T1,e1,e⟩:=aF e;obtain⟨w2,T2,e2,e⟩:=aF e;obtain⟨x,y,d,h1,h2,h3,rfl,rfl⟩:=gH e;unfold mI at h3;split at h3
 .rename_i z y
  split at h3
  .rename_i hz
   cases h3;cases su h1;refine⟨O,ts,ρ,T,_,T1,hc,re,e1,λv1 H1 s1 C3 r1=>?_⟩;cases (r1);refine⟨rfl,O,ts,ρ,T1,w2,T',C3,re.mono hc s1,e2,λv2 H2 s2 JY r2=>?_⟩;cases (JY.view r2 h2).str;exact⟨z,y,rfl,rfl,hz.1,hz.2,λl hl=>q _ _ (s1.trans (s2.trans (.new hl _))) (JY.new hl _) (JY.newL hl (lQ _))⟩
  .cases h3
 .cases h3
def qr(f:FE):FI:=λρ T=>G5 (f ρ T) λw T1=>match w with
 |.d (.list xs)=>Iv (xs,T1)
 |_=>LG
def zjb(h:HU X e f):DI1 X tg e (qr f):=by
 refine⟨λpins s σ H R I k q0=>zim h.pe pins s σ H R I k ?_⟩;obtain⟨O,ts,ρ,T,ds,T',hc,re,e,q⟩:=q0;obtain⟨w1,T1,e1,e⟩:=aF e;refine⟨O,ts,ρ,T,w1,T1,hc,re,e1,λv1 H1 s1 C3 r1=>?_⟩;split at e
 .cases e
  have rr:=r1
  cases rr with
  |lst t r=>exact⟨_,_,rfl,t.sq,λhz=>q _ H1 s1 C3 (.lst t r) (by rw[←r.length];exact hz)⟩
 .cases e
def zjc(ho:HE X (RB op) g)(ha:DE X a fa)(hm:autoParam (Tf op (.Constant (.int i) j p)=Lf) u25):zK X (.Compare a [op] [.Constant (.int i) j p] pos) (ao (af g fa (fC (.int i)))):=by
 refine⟨?_⟩;obtain⟨r,hr,snd⟩:=ho;refine zyh (zis hr ha.pe hm) λσ H Q h=>?_;have h1:=mE snd (pJ h);obtain⟨O,ts,ρ,T,w,T',hc,re,e,q⟩:=h1;exact⟨O,ts,ρ,T,w,T',hc,re,e,λv H' s c r=>ig (λ_ _=>.int i) _ _ _ (q v H' s c r)⟩
def zjd(ha:DT X a ta)(hb:zK X b tb):zK X (.BoolOp .Or [a,b] pos) (bq ta tb):=by
 refine⟨?_⟩;refine zyh (zit ha.pe hb.pe) λσ H Q=>?_;rintro⟨O,ts,ρ,T,b,T',hc,re,e,q⟩;obtain⟨b1,T1,e1,e⟩:=aF e;refine⟨O,ts,ρ,T,b1,T1,hc,re,e1,λH1 s1 C3=>?_⟩
 cases b1 with
 |false=>exact fJ ⟨O,ts,ρ,T1,b,T',C3,re.mono hc s1,by simpa using e,λH2 s2 JY=>q H2 (s1.trans s2) JY⟩
 |true=>
  simp_all
variable {i:Nat}{f g:FK}
def Dj(f:FK):FK:=λρ s T=>match f ρ s T with
 |some ((.nx,_,_),_)=>LG
 |o=>o
def zje{ce:Expr}{c:FT}{a rest:List Stmt}{pos:Pos}(hc:zK X ce c)(ha:F3 X i a f)(hr:F9 X i rest g):F3 X i (.If ce a [] pos::rest) (da (FP i c (Dj f) fE) g):=by
 refine⟨?_⟩;refine hZ (ziu hc.pe ha.pe hr.pe) λD σ H=>?_;rintro⟨Cz,H₀,F,ts,O,ρ,s,T,fl,ρ',s',T',rk,e,q⟩;obtain⟨⟨Er,JT,s1⟩,T1,e0,e⟩:=aF e;obtain⟨b1,T2,e1,e2⟩:=aF e0;obtain⟨O',c',vp⟩:=rk.test;refine⟨O',[],_,[],b1,T2,c',vp,e1,λH1 MQ C3=>?_⟩
 cases b1 with
 |true=>
  have e3:=by simpa[jw] using e2
  unfold Dj at e3;split at e3
  .cases e3
  .rename_i Kp
   refine⟨Cz,H₀,F,ts,O,ρ,s,T,Er,JT,s1,T1,rk.tested MQ,e3,?_⟩
   cases Er with
   |nx=>exact absurd e3 (Kp _ _ _)
   |rt x=>cases e;exact q
   |ro x=>cases e;exact q
   |bk=>cases e;exact q
   |ct=>cases e;exact q
 |false=>
  refine fJ ?_
  have e3:Iv ((Fl.nx,ρ,s),T)=Iv ((Er,JT,s1),T1):=by simpa[jw] using e2
  cases e3;exact⟨Cz,H₀,F,ts,O,ρ,s,T,fl,ρ',s',T',rk.tested MQ,e,q⟩
def zjf{st:Stmt}{rest:List Stmt}(h1:DK1 X i st f)(h2:F3 X i rest g):F9 X i (st::rest) (da f g):=by
 refine⟨?_⟩;refine ziq (zir h1.pe h2.pe) λD σ H=>?_;rintro⟨Cz,H₀,F,ts,O,ρ,s,T,fl,ρ',s',T',rs,e,q⟩;obtain⟨⟨Er,JT,s1⟩,T1,e1,e⟩:=aF e;refine⟨Cz,H₀,F,ts,O,ρ,s,T,Er,JT,s1,T1,rs,e1,?_⟩
 cases Er with
 |nx=>exact λO' σ' H' E8=>⟨Cz,H₀,F,ts,O',JT,s1,T1,fl,ρ',s',T',E8,e,q⟩
 |rt x=>cases e;exact q
 |ro x=>cases e;exact q
 |bk=>cases e;exact q
 |ct=>cases e;exact q
def zjg(hN:X.N.Nodup)(hi:DI1 X (.Name x L4) iter it)(hb:F3 X i body f)(hj:autoParam (j≠i) u11)(Ku:autoParam (X.N[j]? = Iv x) u10)(hx:autoParam (Loc X.env.scope x) u16)
  (hf:autoParam (X.fn x=KN\/X.env.scope.names.lookup x=Iv .local) u13) (hp:autoParam (U8 (RM X.prog X.w) X.A X.env X.xe) u22) (hc:autoParam (X.calm=KN) u10)
  (hs:autoParam (∀x,RY iter X.env x=pure x) u17):DK1 X i (.For (.Name x L4) iter body [] pos) (kFor j it f):=by
 refine⟨?_⟩;refine zio (zin hp hc hi.pe (h9 hN Ku hx hf) hb.pe hs) λD σ H=>?_;rintro⟨Cz,H₀,F,ts,O,ρ,s,T,fl,ρ',s',T',rk,e,q⟩;obtain⟨ds,T1,e1,e⟩:=aF e;refine⟨O,ts,ρ,T,ds,T1,rk.rs.hc,rk.rs.re,e1,λJ H1 s1 C3 ok hz=>?_⟩;refine⟨λk m σ H=>m=ds.length-k/\k<=ds.length/\∃O' CQ sk Tk,RK X.K Cz H₀ ((O,H1)::F) ts O' H σ CQ Tk i sk/\dR j f (ds.drop k) CQ sk Tk=Iv ((fl,ρ',s'),T'),⟨_,rfl,Sj _,O,ρ,s,T1,(rk.step s1 C3).more,e⟩,?_⟩;rintro k m EA H2 ⟨rfl,hk,O',CQ,sk,Tk,GW,ek⟩;obtain⟨k1,k2,k3⟩:=ok O' H2 (GW.rs.frs _ Rf)
 by_cases IV:k<ds.length
 .refine .inr ⟨k1 k IV,λFB H3=>∃O' CQ sk Tk,RK X.K Cz H₀ ((O,H1)::F) ts O' H3 FB CQ Tk i sk/\dR j f (ds.drop (k+1)) CQ sk Tk=Iv ((fl,ρ',s'),T'),λFB H3 n=>⟨ds.length-(k+1),by omega,rfl,IV,n⟩,λv H3 y=>?_⟩
  obtain⟨e2,d,hd,rd⟩:=k3 k v H3 y IV;subst e2
  have DF:ds.drop k=d::ds.drop (k+1):=by
   rw[Tb IV];have:=(Rh.mp hd).2;rw[this]
  rw[DF] at ek;obtain⟨⟨Er,JT,MQ⟩,T3,e3,ek⟩:=aF ek;refine⟨Cz,H₀,(O,H1)::F,ts,O',_,sk,Tk,Er,JT,MQ,T3,GW.set (j:=j) (x:=d) hj rd,e3,?_⟩
  cases Er with
  |nx=>exact λO3 FB H3 EH=>⟨O3,JT,MQ,T3,EH,ek⟩
  |ct=>exact λO3 FB H3 EH=>⟨O3,JT,MQ,T3,EH,ek⟩
  |bk=>
   cases ek;exact λO3 FB H3 EH=>q O3 FB H3 EH.less
  |rt x=>
   cases ek;exact q
  |ro x=>
   cases ek;exact q
 .have e:k=ds.length:=by omega
  subst e;rw[Sr (Rn _)] at ek;cases ek;exact .inl ⟨k2,q O' EA H2 GW.less⟩
noncomputable def m8:FK:=λρ s T=>match s.reverse with
 |ys::_=>Iv ((.rt (.list ys),ρ,s),T)
 |[]=>LG
def Fm.last{K:Frag}{O:Addr->Prop}{H:Hp}:∀{bs:List Addr}{s:Ct},Fm K O H bs s->∀{ys:List Ra}{r:Ct},s.reverse=ys::r->∃b vs F5,bs.reverse=b::F5/\b∈bs/\H b=Iv (.lst vs)/\EE K O H vs ys:=by
 intro bs s h
 induction h with
 |nil=>intro ys r e;cases e
 |@cons b bs vs ys0 s hb rb st ih=>
  intro ys r e;rw[To] at e
  cases hs:s.reverse with
  |nil=>
   have hl:=st.length<;>simp_all
  |cons y r'=>
   obtain⟨b',Cu,F5,h1,h2,h3,h4⟩:=ih hs<;>simp_all
def zjh(hN:autoParam (X.N[i]? = Iv x) u10)(hv:autoParam (EC X.env.scope x) u18)(hd:autoParam ((x == ("__debug__" : Str))=Lf) u11)(hcd:autoParam ((x == ("__classdict__" : Str))=Lf) u11)
  (Ku:autoParam (mG (.Constant (.int 0) kj kp)) u21):DK X i (.Return (Iv (.Subscript (.Name x p) (.Constant (.int 0) kj kp) KO)) pos) m8:=by
 refine⟨?_⟩;refine b7 (qi (mZ Ew (pv i hN hv hd hcd) uk Ku)) λD σ H=>?_;rintro⟨Cz,H₀,F,ts,O,ρ,s,T,fl,ρ',s',T',rk,e,q⟩;unfold m8 at e;split at e
 .rename_i ys r hs
  cases e;obtain⟨rs,pd,ui,a,bs,k⟩:=rk;obtain⟨b,vs,F5,e1,hb,hH,hr⟩:=k.st.last hs;obtain⟨ob,Ic,JO,vA⟩:=k.ow b (Rc _ hb);obtain⟨c0,Jp⟩:=rs.frz (zyi pd);have le:Le O H Cz H:=λa o n e=>⟨λz=>n (rs.sub a z),e⟩;refine⟨_,k.sa,a,_,0,.ref b,rfl,rfl,Jr.of k.ha,?_,q _ H rs.same c0 (.lst (.inl ⟨vA,.inl hH⟩) (hr.mono le))⟩;rw[e1];simp[L1,L5]
 .cases e
def kB(i:Nat)(g:FK):FS:=λρ T=>if qj ρ=KN/\i<ρ.length/\(ρ[i]?.join).isNone=KN then uq ρ (g ρ [[]] T) else LG
def zji{x:Str}{rest:List Stmt}{J0 D6 pos' pos:Pos}(hN:X.N.Nodup)(hr:F3 X i rest g)(hi:autoParam (X.N[i]? = Iv x) u10)(hx:autoParam (Loc X.env.scope x) u16)
  (IS:autoParam (Rk [.List [] D6] X.env=(Lf,eval (.List [] D6) X.env)::Rk [] X.env) u12) (hs:autoParam (So (.List [.List [] D6] J0) (Iv (.Name x pos')) pos.line X.env=pure Lf) u10) (hf:autoParam (X.fn x=KN\/X.env.scope.names.lookup x=Iv .local) u13) :
  JR X (.Assign [.Name x pos'] (.List [.List [] D6] J0) pos::rest) (kB i g):=by
 refine⟨?_⟩;refine hZ (jR (fm hN hi hx (kg (cn (kg cM) cM IS)) hs hf) hr.pe) λD σ H=>?_;rintro⟨Cz,H₀,F,ts,O,ρ,T,fl,ρ',T',rs,e,q⟩;unfold kB at e;split at e
 .rename_i hz
  obtain⟨h1,h2,h3⟩:=hz;have pd:=rV h1
  have ui:ρ[i]? = Iv LG:=by
   rw[TQ h2] at h3 ⊢
   cases hh:ρ[i] with
   |none=>rfl
   |some w=>rw[hh] at h3;cases h3
  unfold uq at e;split at e
  .rename_i x0 JT s1 T1 h4
   cases e;refine⟨Sj _,λb hb=>⟨show (1:Nat)<=Rp by decide,λp hp=>?_⟩⟩;obtain⟨HR,Ez⟩:=rs.lay0 pd hb (o:=.lst []) (.inl ⟨_,rfl⟩);obtain⟨Kf,DJ⟩:=Ez.lay0 pd hp (o:=.lst [.ref b]) (.inl ⟨_,rfl⟩)
   have D5:i<σ.length:=by rw[rs.len];exact h2
   have nOb:=rs.hc.fresh hb;have nOp:=Ez.hc.fresh hp;have Ic:b∉ts:=λz=>nOb (rs.hc.own b z);have vC:p∉ts:=λz=>nOp (Ez.hc.own p z)
   have h0:∀c,c∉ts->(∀o,H₀ c=Iv o->False)->H₀ c=LG:=λc _ h=>by
    cases e:H₀ c with
    |none=>rfl
    |some o=>exact(h o e).elim
   have JO:H₀ b=LG:=h0 b Ic λo e=>by rw[rs.same b o Ic e] at hb;cases hb
   have h0p:H₀ p=LG:=h0 p vC λo e=>by rw[Ez.same p o vC e] at hp;cases hp
   have nbp:b≠p:=λz=>by rw[←z,a9] at hp;cases hp
   have npb:p≠b:=λz=>nbp z.symm;refine⟨Cz,H₀,F,ts,_,ρ,[[]],T,.rt x0,JT,s1,_,⟨⟨DJ.hc,λj w e=>?_,DJ.sub,DJ.ots,DJ.same,λj ys b q1 q2=>?_,λj k ys zs v q1 q2 q3 q4=>?_,DJ.frs,by simp[rs.len]⟩,pd,ui,p,[b],Rt D5,a9,by simp[npb],λc hc=>?_,.cons (vs:=[]) (by rw[aG nbp,a9]) .nil .nil⟩,h4,q⟩
   .obtain⟨x1,m1,m2⟩:=DJ.re j w e
    refine⟨x1,?_,m2⟩;rw[Rm λz=>by rw[←z,ui] at e;cases e];exact m1
   .obtain⟨y,z⟩:=pd _ _ q1;cases z
   .obtain⟨y,z⟩:=pd _ _ q1;cases z
   .rcases Ru.mp hc with z|z
    .subst z;exact⟨.inr rfl,vC,h0p,λq=>nOp (Ez.sub _ q)⟩
    .rw[RD.mp z]
     exact⟨.inl (.inr rfl),Ic,JO,λq=>nOb (rs.sub _ q)⟩
  .cases e
 .cases e
end
def Cd(ρ:XE):Bool:=ρ.all λo=>match o with
 |some (.loc (.dict _))=>Lf
 |_=>KN
def zjj{K:Frag}{O O':Addr->Prop}{H:Hp}{v:V}{d:Ra}(r:Rep K O H v d)(h:dr d=KN):Rep K O' H v d:=by
 cases r with
 |non=>exact .non
 |bl b=>exact .bl b
 |int i=>exact .int i
 |str z=>exact .str z
 |_=>cases h
theorem zym{K:Frag}{O O':Addr->Prop}{H:Hp}:∀{vs:List V}{ds:List Ra},EE K O H vs ds->(∀d∈ds,dr d=KN)->EE K O' H vs ds
 |_,_,.nil,_=>.nil
 |_,_,.cons r t,h=>.cons (zjj r (h _ Rf)) (zym t λd hd=>h d (Rc _ hd))
def AV(T:Tp):Option (List Ra×Tp)->Option (W×Tp)
 |some (ys,_)=>if ys.all dr=KN then Iv (.d (.list ys),T) else LG
 |none=>LG
def mS(it:FI)(c:FT)(f:FE):FE:=λρ T=>if Cd ρ=KN then AV T (G5 (it (c7 ρ) []) λds T1=>bK c f (c7 ρ) ds T1) else LG
def zjk(S:CS osc N x scope N')(hi:DI X (.Name x px) iter it)
  (he:∀C s0 H0 ex,DE (bY X x scope C s0 H0 ex N') elt f) (ht:∀C s0 H0 ex,Jd (bY X x scope C s0 H0 ex N') ifs c) (hc:autoParam (X.calm=KN) u10) (hs:autoParam (X.env.scope=osc) u10) (hN:autoParam (X.N=N) u10)
  (hf:autoParam (∀v,RY iter X.env v=pure v) u17):DE X (.ListComp elt [⟨.Name x px,iter,ifs,0⟩] scope pos) (mS it c f):=by
 refine⟨?_⟩;refine bx (zvk  (tt:=liftT X.K c) (te:=lift X.K f) S hi.pe (λC s0 H0 ex=>(he C s0 H0 ex).pe) (λC s0 H0 ex=>(ht C s0 H0 ex).pe) hc hs hN hf) λσ H Q=>?_;rintro⟨O,ts,ρ,T,w,T',hc,re,e,q⟩;unfold mS at e;split at e
 .rename_i hn
  cases h1:(G5 _ λds T1=>bK c f _ ds T1) with
  |none=>rw[h1] at e;cases e
  |some p=>
   rw[h1] at e;unfold AV at e;dsimp only at e;split at e
   .rename_i hy
    cases e;obtain⟨ds,T1,e1,e2⟩:=aF h1;have CF:HC X.K (λ_=>False) [] H []:=⟨λb hb=>(by cases hb),λb hb=>hb.elim,UY,rfl,λi a xs e1 _=>by simp at e1⟩
    have Jp:=zxw re (λb=>.inl rfl) λj a ds e1 _=>by
     have:=Rq.mp hn _ (Rw e1)<;>simp_all
    refine⟨λ_=>False,[],c7 ρ,[],ds,T1,CF,Jp,e1,λJ H1 s1 C3 ok hz=>?_⟩;refine tP C3 (Jp.mono CF s1) ok hz e2 λvs H' s2 JY r2 p hp=>?_;have s3:=s1.trans s2;have s3':F7 ts H H':=λb o _ q=>s3 b o (by simp) q
    have HL:=hc.step s3' λb hb=>by
     obtain⟨u,z⟩:=(hc.trk b (hc.own b hb)).ex;rw[z];exact s3 b _ (by simp) z
    exact q _ _ (s3'.trans (.new hp _)) (HL.new hp _) (HL.newL hp (zym r2 λd hd=>Rq.mp hy d hd))
   .cases e
 .cases e
section
variable {X:Cx}
def zjl:Fo X (RB .IsNot) (λx y H Q=>∃b c,x=.bl b/\y=.bl c/\Q (.bl (!(b == c))) H):=by
 intro pins s σ H x y v u Q I rx ry h;obtain⟨b,c,rfl,rfl,q⟩:=h;cases rx;cases ry;exact isnot_bool ⟨.bl _,H,I,rfl,q⟩
noncomputable def kP:Ra->Ra->Option Ra
 |.bool a,.bool b=>Iv (.bool (!(a == b)))
 |_,_=>LG
def zjm:HE X (RB .IsNot) kP:=⟨_,zjl,λO ts H T v1 v2 x y d Q hc h1 h2 e q=>by
 unfold kP at e;split at e
 .cases e
  exact⟨_,_,h1.bl,h2.bl,q _ H (.refl _ _) hc (.bl _)⟩
 .cases e⟩
end
def Kh(ia ib:Nat)(fk fv:FE):List Ra->XE->List (Ra×Ra)->Tp->Option ((XE×List (Ra×Ra))×Tp)
 |[],ρ,d,T=>Iv ((ρ,d),T)
 |.tuple [a,b]::r,ρ,d,T=>G5 (fv ((ρ.set ia (Iv (.d a))).set ib (Iv (.d b))) T) λw T1=>G5 (fk ((ρ.set ia (Iv (.d a))).set ib (Iv (.d b))) T1) λwk T2=>match w,wk with
  |.d v,.d (.str s)=>if d.length<=1000 then Kh ia ib fk fv r ((ρ.set ia (Iv (.d a))).set ib (Iv (.d b))) (putN d s v) T2 else LG
  |_,_=>LG
 |_::_,_,_,_=>LG
def pw(ix ia ib:Nat)(ft:FT)(it:FI)(fk fv:FE)(fr:FS)(ρ:XE)(y:Ra)(T:Tp):Option ((Fl×XE)×Tp):=match y with
 |.tuple [.dict d,.dict e]=>if ix<ρ.length/\ix≠ia/\ix≠ib/\fq ρ=KN then
   G5 (ft (ρ.set ix LG) T) λb T1=>if b=KN then G5 (it (ρ.set ix LG) T1) λds T2=>G5 (Kh ia ib fk fv ds (ρ.set ix LG) e T2) λp T3=>fr (p.1.set ix (Iv (.d (.tuple [.dict d,.dict p.2])))) T3
    else fr (ρ.set ix (Iv (.d (.tuple [.dict d,.dict e])))) T1
  else LG
 |_=>LG
def l9(ix ia ib:Nat)(m:Hl)(g:FA)(ft:FT)(it:FI)(fk fv:FE)(fr:FS):FS:=λρ T=>G5 (g ρ T) λws T1=>G5 (m ws T1) λy T2=>pw ix ia ib ft it fk fv fr ρ y T2
section
variable {X:Cx}{pos Jg yG BH:Pos}
def w4(h:fq ρ=KN):fq (ρ.set i (Iv (.d x)))=KN:=Rq.mpr λo ho=>(VI ho).elim (Rq.mp h o) λz=>by rw[z]
def vH(h:fq ρ=KN):fq (ρ.set i LG)=KN:=Rq.mpr λo ho=>(VI ho).elim (Rq.mp h o) λz=>by rw[z]
def RS.wr{K:Frag}{Cz O:Addr->Prop}{H₀ H:Hp}{F:List ((Addr->Prop)×Hp)}{ts:List Addr}{σ:L2.St}{ρ:XE}{T:Tp}{z:Addr}{kz:List (Key×V)}(r:RS K Cz H₀ F ts O H σ ρ T)(hO:O z)(ht:z∉ts)(h0:H₀ z=LG)(hF:∀f∈F,¬f.1 z->f.2 z=LG)(hn:fq ρ=KN):RS K Cz H₀ F ts O (upd H z (.dK kz)) σ ρ T:=by
 have le:Le O H O (upd H z (.dK kz)):=λw o n e=>⟨n,by rw[aG (show w≠z from λy=>n (y ▸ hO))];exact e⟩;refine⟨⟨r.hc.own,λw hw=>?_,r.hc.nd,r.hc.len,λi w ys q1 q2=>?_⟩,λi w e=>?_,r.sub,r.ots,λw o n e=>?_,r.fresh,r.dist,λf hf=>λw o n e=>?_,r.len⟩
 .by_cases y:w=z
  .rw[y,a9];exact .inr (.inl ⟨_,rfl⟩)
  .rw[aG y];exact r.hc.trk w hw
 .have hm:=Rw q1
  exact(r.hc.tape i w ys q1 q2).mono (λ_ h=>by rw[aG (show w≠z from λy=>ht (y ▸ hm))];exact h) le
 .obtain⟨v,h1,h2⟩:=r.re i w e
  refine⟨v,h1,?_⟩
  cases w with
  |d x=>exact Rep.mono le h2
  |tp k=>exact h2
  |loc x=>
   have:=Rq.mp hn _ (Rw e)<;>simp_all
 .rw[aG (λy=>by simp_all)]
  exact r.same w o n e
 .obtain⟨g1,g2⟩:=r.frs f hf w o n e
  exact⟨g1,by rw[aG (λy=>by simp_all)];exact g2⟩
def zjn(h:Kh ia ib fk fv (x::r) ρ d T=Iv p):∃a b,x=.tuple [a,b]:=by
 match x,h with
 |.tuple [a,b],_=>exact⟨a,b,rfl⟩
 |.tuple [],h=>cases h
 |.tuple [_],h=>cases h
 |.tuple (_::_::_::_),h=>cases h
 |.none,h=>cases h
 |.bool _,h=>cases h
 |.int _,h=>cases h
 |.str _,h=>cases h
 |.list _,h=>cases h
 |.dict _,h=>cases h
def zjo{ia ib:Nat}{fk fv:FE}{w wk:W}{r:List Ra}{ρ:XE}{d:List (Ra×Ra)}{T:Tp}{p:(XE×List (Ra×Ra))×Tp}(h:(match w,wk with
  |.d v,.d (.str s)=>if d.length<=1000 then Kh ia ib fk fv r ρ (putN d s v) T else LG
  | _,_=>LG)=Iv p):∃v s,w=.d v/\wk=.d (.str s)/\d.length<=1000/\Kh ia ib fk fv r ρ (putN d s v) T=Iv p:=by split at h<;>simp_all
section
variable {K:Frag}{Cz O A:Addr->Prop}{H₀:Hp}{F:List ((Addr->Prop)×Hp)}{ts:List Addr}{c a a':Addr}{ix:Nat}{ka kx:List (Key×V)}{d dx:List (Ra×Ra)}{Hx H:Hp}{σ JG:L2.St}{ρ Eb:XE}{T Tx:Tp}
structure PFS(Cz:Addr->Prop)(H₀:Hp)(F:List ((Addr->Prop)×Hp))(ts:List Addr)(O A:Addr->Prop)(c a a':Addr):Prop where
 own:∀w∈ts,O w
 sub:∀b,Cz b->O b
 nA:∀z,A z->¬O z
 AA:∀z,A z↔z=a\/z=a'
 ab:a≠a'
 np:¬(O c\/A c)
 h0:∀z,A z->H₀ z=LG
 hF:∀z,A z->∀f∈F,¬f.1 z->f.2 z=LG
theorem PFS.Aa(S:PFS Cz H₀ F ts O A c a a'):A a:=(S.AA a).mpr (.inl rfl)
theorem PFS.Ab(S:PFS Cz H₀ F ts O A c a a'):A a':=(S.AA a').mpr (.inr rfl)
theorem PFS.nt(S:PFS Cz H₀ F ts O A c a a'){z:Addr}(h:A z):z∉ts:=λy=>S.nA z h (S.own z y)
theorem PFS.ntc(S:PFS Cz H₀ F ts O A c a a'):c∉ts:=λy=>S.np (.inl (S.own c y))
theorem PFS.ne(S:PFS Cz H₀ F ts O A c a a'){z:Addr}(h:A z):c≠z:=λy=>S.np (.inr (y ▸ h))
structure PFI(K:Frag)(Cz:Addr->Prop)(H₀:Hp)(F:List ((Addr->Prop)×Hp))(ts:List Addr)(O:Addr->Prop)(c a a':Addr)(ix:Nat)(ka:List (Key×V))(d:List (Ra×Ra))(Hx:Hp)(JG:L2.St)(Eb:XE)(Tx:Tp)(dx:List (Ra×Ra))(kx:List (Key×V)):Prop where
 r:RS K Cz H₀ F ts O Hx JG Eb Tx
 n:fq Eb=KN
 i:JG[ix]? = Iv (Iv (.ref c))
 c:Hx c=Iv (.tup [.ref a,.ref a'])
 a:Hx a=Iv (.dK ka)
 b:Hx a'=Iv (.dK kx)
 ra:JU K O Hx ka d
 rb:JU K O Hx kx dx
theorem PFI.same(p:PFI K Cz H₀ F ts (λb=>O b\/A b) c a a' ix ka d Hx JG Eb Tx dx kx)(S:PFS Cz H₀ F ts O A c a a')(r:RS K Cz H₀ F ts (λb=>O b\/A b) H σ ρ T)(n:fq ρ=KN)(i:σ[ix]? = Iv (Iv (.ref c)))(s:F7 ts Hx H):PFI K Cz H₀ F ts (λb=>O b\/A b) c a a' ix ka d H σ ρ T dx kx:=
 have le:=p.r.hc.le s
 ⟨r,n,i,s _ _ S.ntc p.c,s _ _ (S.nt S.Aa) p.a,s _ _ (S.nt S.Ab) p.b,p.ra.mono le,p.rb.mono le⟩
theorem PFI.put{s:Str}{v:V}{x:Ra}(p:PFI K Cz H₀ F ts (λb=>O b\/A b) c a a' ix ka d H σ ρ T dx kx)(S:PFS Cz H₀ F ts O A c a a')(rx:Rep K (λb=>O b\/A b) H v x):PFI K Cz H₀ F ts (λb=>O b\/A b) c a a' ix ka d (upd H a' (.dK (putK kx (Sb s) v))) σ ρ T (putN dx s x) (putK kx (Sb s) v)/\Le (λb=>O b\/A b) H (λb=>O b\/A b) (upd H a' (.dK (putK kx (Sb s) v))):=
 have le:Le (λb=>O b\/A b) H (λb=>O b\/A b) (upd H a' (.dK (putK kx (Sb s) v))):=λw o nn ee=>⟨nn,by rw[aG (show w≠a' from λy=>nn (.inr (y ▸ S.Ab)))];exact ee⟩
 ⟨⟨p.r.wr (.inr S.Ab) (S.nt S.Ab) (S.h0 _ S.Ab) (S.hF _ S.Ab) p.n,p.n,p.i,(aG (S.ne S.Ab)).trans p.c,(aG S.ab).trans p.a,a9,p.ra.mono le,zxz (Rep.mono le rx) (p.rb.mono le)⟩,le⟩
theorem PFI.fin(p:PFI K Cz H₀ F ts (λb=>O b\/A b) c a a' ix ka d Hx σ ρ T dx kx)(S:PFS Cz H₀ F ts O A c a a'):Gh (λH=>RS K Cz H₀ F ts O H σ (ρ.set ix (Iv (.d (.tuple [.dict d,.dict dx])))) T) Hx:=by
 obtain⟨r,hn,g0,g1,g2,g3,g4,g5⟩:=p;refine .frz g2 λo=>.frz ((aG (Tn S.ab)).trans g3) λo'=>.done ?_;generalize hU:upd (upd Hx a (.frz o (.dK ka))) a' (.frz o' (.dK kx))=U
 have old:∀w,¬A w->U w=Hx w:=λw z=>by rw[←hU,aG (show w≠a' from λy=>z (y ▸ S.Ab)),aG (show w≠a from λy=>z (y ▸ S.Aa))]
 have ua:U a=Iv (.frz o (.dK ka)):=by rw[←hU,aG S.ab,a9]
 have ub:U a'=Iv (.frz o' (.dK kx)):=by rw[←hU,a9]
 clear hU
 have le:Le (λb=>O b\/A b) Hx O U:=λw u n z=>⟨λy=>n (.inl y),(old w λy=>n (.inr y)).trans z⟩
 have re':LZ K O ts U σ ρ:=λi w e=>by
  obtain⟨v,k1,k2⟩:=r.re i w e;refine⟨v,k1,?_⟩
  cases w with
  |d x=>exact Rep.mono le k2
  |tp k=>exact k2
  |loc x=>cases Rq.mp hn _ (Rw e)
 have rO:RS K Cz H₀ F ts O U σ ρ T:=⟨⟨S.own,λw hw=>by
   rw[old w λy=>S.nA w y hw];exact r.hc.trk w (.inl hw),r.hc.nd,r.hc.len,λi w ys q1 q2=>(r.hc.tape i w ys q1 q2).mono (λ_ h=>(old w λy=>S.nt y (Rw q1)).trans h) le⟩,re',S.sub,r.ots,λw u n e=>(old w λy=>by rw[S.h0 w y] at e;cases e).trans (r.same w u n e),r.fresh,r.dist,λf hf w u n e=>
   have k:=r.frs f hf w u n e
   ⟨λy=>k.1 (.inl y),(old w λy=>by rw[S.hF w y f hf n] at e;cases e).trans k.2⟩,r.len⟩
 have es:σ.set ix (Iv (V.ref c))=σ:=by
  refine XI λi=>?_
  by_cases z:ix=i
  .subst z
   rw[Rt (Rh.mp g0).1,g0]
  .rw[Rm z]
 have r2:=rO.set (i:=ix) (w:=.d (.tuple [.dict d,.dict dx])) (.tup (a:=c) (.inl ⟨λz=>S.np (.inl z),.inl ((old c λy=>S.np (.inr y)).trans g1)⟩) (.cons (.dct (S.nA _ S.Aa) ua (g4.mono le)) (.cons (.dct (S.nA _ S.Ab) ub (g5.mono le)) .nil))) (λ_ z=>nomatch z)
 rw[es] at r2;exact r2
inductive PFW(K:Frag)(Cz:Addr->Prop)(H₀:Hp)(F:List ((Addr->Prop)×Hp))(ts:List Addr)(O:Addr->Prop)(c a a':Addr)(ix:Nat)(ka:List (Key×V))(d:List (Ra×Ra))(H4:Hp)(ia ib:Nat)(fk fv:FE)(y:(XE×List (Ra×Ra))×Tp)(ds:List Ra)(JG:L2.St)(Hx:Hp):Prop where
 |mk(Eb:XE)(Tx:Tp)(dx:List (Ra×Ra))(kx:List (Key×V))(p:PFI K Cz H₀ F ts O c a a' ix ka d Hx JG Eb Tx dx kx)(le:Le O H4 O Hx)(e:Kh ia ib fk fv ds Eb dx Tx=Iv y)
end
noncomputable def zjp{ix ia ib:Nat}{name x xa xb:Str}{ps:List Str}{kk k n:Nat}{m:Hl}{e ce iter:Expr}{es:List Expr}{rest:List Stmt}{g:FA}{ft:FT}{it:FI}{fk fv:FE}{fr:FS}{kx ve:Expr}{p cpos pos' p2 sp ip KG px py L4:Pos}{j:_}(F:Fn X.prog X.w X.K X.mg X.base name ps kk (Gb X.K ps.length m))(hr:JL kk X.A)(hg:Gl X name)(hN:X.N.Nodup)(ha:DA X (e::es) g)(hl:lu g ps.length)(hce:DT X ce ft)(hit:DI X (.Tuple [.Name xa px,.Name xb py] n L4) iter it)(Ef:JL k X.A)(hk:DE X kx fk)(hve:DE X ve fv)(Gk:JR X rest fr)(E2:autoParam ((name == ("__debug__" : Str))=Lf) u11)
  (he:autoParam (Rk (e::es) X.env=(Lf,eval e X.env)::Rk es X.env) u12) (Mh:autoParam ((R6 cpos (Rk es X.env)).any (·.1)=Lf) u15) (hi:autoParam (X.N[ix]? = Iv x) u10) (hx:autoParam (Loc X.env.scope x) u16)
  (hs:autoParam (So (.Call (.Name name p) (e::es) [] cpos) (Iv (.Name x pos')) pos.line X.env=pure Lf) u10) (hf:autoParam (X.fn x=KN\/X.env.scope.names.lookup x=Iv .local) u13)
  (hv:autoParam (EC X.env.scope x) u18) (hd:autoParam ((x == ("__debug__" : Str))=Lf) u11) (hcd:autoParam ((x == ("__classdict__" : Str))=Lf) u11)
  (hia:autoParam (X.N[ia]? = Iv xa) u10) (hib:autoParam (X.N[ib]? = Iv xb) u10) (hxa:autoParam (Loc X.env.scope xa) u16) (hxb:autoParam (Loc X.env.scope xb) u16)
  (xx:autoParam (X.fn xa=KN\/X.env.scope.names.lookup xa=Iv .local) u13) (hfb:autoParam (X.fn xb=KN\/X.env.scope.names.lookup xb=Iv .local) u13) (hp:autoParam (U8 (RM X.prog X.w) X.A X.env X.xe) u22) (hc:autoParam (X.calm=KN) u10)
  (hfs:autoParam (∀x,RY iter X.env x=pure x) u17)
  (IY:autoParam (So ve (Iv (.Subscript (.Subscript (.Name x p2) (.Constant (.int 1) j ip) sp) kx KG)) Jg.line X.env=pure Lf) u10) :
  JR X (.Assign [.Name x pos'] (.Call (.Name name p) (e::es) [] cpos) pos::.If ce [.For (.Tuple [.Name xa px,.Name xb py] n L4) iter [.Assign [.Subscript (.Subscript (.Name x p2) (.Constant (.int 1) j ip) sp) kx KG] ve Jg] [] yG] [] BH::rest) (l9 ix ia ib m g ft it fk fv fr):=by
 refine⟨?_⟩;refine hZ (jR (fm hN hi hx (uM F hr hg ha.pe E2 he Mh) hs hf) (jR (uL hce.pe (pQ (uf hp hc hit.pe (ug hc (jS (h9 hN hia hxa xx) (jS (h9 hN hib hxb hfb) sY))) (pQ (sX (gN Ef) (mZ zuf (pv ix hi hv hd hcd) uk (λ_ _=>rfl)) hk.pe hve.pe IY)) hfs)) sW) (zed Gk.pe))) λD σ H=>?_;rintro⟨Cz,H₀,F,ts,O,ρ,T,fl,ρ',T',rs,e,q⟩;obtain⟨ws,T1,e1,e⟩:=aF e;obtain⟨y0,T2,e2,e⟩:=aF e;refine⟨O,ts,ρ,T,ws,T1,rs.hc,rs.re,e1,λvs H1 s1 C3 r1=>?_⟩;have Ez:=rs.step s1 C3;refine⟨O,ts,T1,ws,_,_,C3,by simp_all,hl _ _ _ _ e1,e2,λA v H2 s2 hA JY ov=>?_⟩;unfold pw at e;split at e
 rotate_left
 .cases e
 rename_i d d';split at e
 rotate_left
 .cases e
 rename_i As;obtain⟨Ku,nia,nib,Hs⟩:=As;have DJ:=Ez.widen s2 hA JY;obtain⟨c,a,a',rfl,Lg,M7,np,hp,⟨ka,h1,h2⟩,⟨kb,h3,h4⟩⟩:=ov
 have h0:∀z,A z->H₀ z=LG:=λz hz=>by
  cases e:H₀ z with
  |none=>rfl
  |some o=>have:=Ez.same z o (λy=>(hA z hz).2 (C3.own z y)) e;rw[(hA z hz).1] at this;cases this
 have hF:∀z,A z->∀f∈F,¬f.1 z->f.2 z=LG:=λz hz f hf nf=>by
  cases e:f.2 z with
  |none=>rfl
  |some o=>have:=(Ez.frs f hf z o nf e).2;rw[(hA z hz).1] at this;cases this
 have S:PFS Cz H₀ F ts O A c a a':=⟨C3.own,rs.sub,λz h=>(hA z h).2,M7,Lg,np,h0,hF⟩
 clear Lg M7 np hA;have EH:=DJ.unset (i:=ix) (v:=.ref c)
 have p3:PFI X.K Cz H₀ F ts (λb=>O b\/A b) c a a' ix ka d H2 _ _ T2 d' kb:=⟨EH,vH Hs,Rt (by rw[rs.len];exact Ku),hp,h1,h3,h2,h4⟩
 have fin:∀{Hx JG Eb Tx dx kx},PFI X.K Cz H₀ F ts (λb=>O b\/A b) c a a' ix ka d Hx JG Eb Tx dx kx->fr (Eb.set ix (Iv (.d (.tuple [.dict d,.dict dx])))) Tx=Iv ((fl,ρ'),T')->Gh (qG X.K fr D JG) Hx:=λp ef=>(p.fin S).imp λ_ r=>⟨Cz,H₀,F,ts,O,_,_,fl,ρ',T',r,ef,q⟩
 clear q hp h1 h2 h3 h4;obtain⟨b,T3,e3,e⟩:=aF e;refine⟨_,ts,_,T2,b,T3,EH.hc,EH.re,e3,λH3 s3 HM=>?_⟩;have DU:=EH.step s3 HM;have p4:=p3.same S DU p3.n p3.i s3;clear p3
 cases b with
 |false=>
  rw[if_neg RI] at e;exact fJ (fin p4 (by rw[List.set_set];exact e))
 |true=>
  rw[if_pos rfl] at e;obtain⟨ds,T4,e4,e⟩:=aF e;obtain⟨⟨xB,de⟩,T5,e5,e⟩:=aF e;refine gO ⟨_,ts,_,T3,ds,T4,DU.hc,DU.re,e4,λJ H4 s4 FH ok hz=>?_⟩;have rs5:=DU.step s4 FH;refine⟨λkq mq JG Hx=>mq=ds.length-kq/\kq<=ds.length/\PFW X.K Cz H₀ F ts (λb=>O b\/A b) c a a' ix ka d H4 ia ib fk fv ((xB,de),T5) (ds.drop kq) JG Hx,⟨_,rfl,Sj _,_,_,_,_,p4.same S rs5 p4.n p4.i s4,λ_ _ n e=>⟨n,e⟩,e5⟩,?_⟩;clear e5 p4 rs5;rintro kq mq JG Hx ⟨rfl,hkq,Eb,Tx,dx,kx,p,lex,ep⟩;obtain⟨k1,k2,k3'⟩:=ok (λb=>O b\/A b) Hx lex
  by_cases IV:kq<ds.length
  .refine .inr ⟨k1 kq IV,λFB H3=>PFW X.K Cz H₀ F ts (λb=>O b\/A b) c a a' ix ka d H4 ia ib fk fv ((xB,de),T5) (ds.drop (kq+1)) FB H3,λFB H3 nn=>⟨ds.length-(kq+1),by omega,rfl,IV,nn⟩,λv H5 y=>?_⟩
   obtain⟨KL,dd,hdd,rd⟩:=k3' kq v H5 y IV;subst KL;rw[Tb IV,(Rh.mp hdd).2] at ep;generalize ds.drop (kq+1)=restd at ep ⊢;obtain⟨va,vb,rfl⟩:=zjn ep
   cases rd with
   |tup t r=>
   cases r with
   |cons ra r=>
   cases r with
   |cons rb r=>
   cases r;unfold Kh at ep;obtain⟨w,T6,e6,ep⟩:=aF ep;obtain⟨wk,T7,e7,ep⟩:=aF ep;have vO:=(p.r.set (i:=ia) (w:=.d va) ra (λ_ z=>nomatch z)).set (i:=ib) (w:=.d vb) rb (λ_ z=>nomatch z);refine⟨_,_,rfl,t.sq,rfl,_,_,rfl,_,_,rfl,rfl,?_⟩;refine⟨_,ts,_,Tx,w,T6,vO.hc,vO.re,e6,λv6 H6 s6 wm r6=>?_⟩
   have g0':∀(va vb:V),((JG.set ia (Iv va)).set ib (Iv vb))[ix]? = Iv (Iv (.ref c)):=λva vb=>by
    rw[Rm (Tn nib),Rm (Tn nia)];exact p.i
   have p6:=p.same S (vO.step s6 wm) (w4 (w4 p.n)) (g0' _ _) s6;refine⟨_,g0' _ _,?_⟩;refine .inr (.inl ⟨c,[.ref a,.ref a'],1,.ref a',rfl,rfl,.inl (.inl p6.c),rfl,?_⟩);refine⟨_,ts,_,T6,wk,T7,p6.r.hc,p6.r.re,e7,λv7 H7 s7 hc7 r7=>?_⟩;have p7:=p6.same S (p6.r.step s7 hc7) p6.n p6.i s7;obtain⟨xv,s,rfl,rfl,JW,ep⟩:=zjo ep;cases (show Rep X.K (λb=>O b\/A b) H7 v7 (.str s) from r7);refine⟨a',_,rfl,D7.k (k:=(Sb s:Key)) p7.b (by rw[pq p7.rb];exact R5 JW (by decide)),?_⟩;have p8:=p7.put (s:=s) S (Hy.mono (w:=.d xv) r6 wm s7);exact⟨_,T7,_,_,p8.1,(lex.trans ((p.r.hc.le s6).trans (wm.le s7))).trans p8.2,ep⟩
  .have e:kq=ds.length:=by omega
   subst e;rw[Sr (Rn _)] at ep;refine .inl ⟨k2,?_⟩;have GO:Iv ((Eb,dx),Tx)=Iv ((xB,de),T5):=ep;cases GO;exact fin p e
end
def Il(K:Frag)(tp:Nat->Stmt):List (Str×Nat)->Prop
 |[]=>True
 |(x,i)::r=>Df K x (tp i)/\Il K tp r
def Gm{K:Frag}{tp:Nat->Stmt}{x:Str}{i:Nat}{L:List (Str×Nat)}(a:Df K x (tp i))(r:Il K tp L):Il K tp ((x,i)::L):=⟨a,r⟩
theorem Il.at{K:Frag}{tp:Nat->Stmt}{x:Str}{i:Nat}:∀{L:List (Str×Nat)},Il K tp L->L.lookup x=Iv i->Df K x (tp i)
 |[],_,e=>nomatch e
 |_::r,h,e=>by
  rw[Ut] at e;split at e
  .rename_i hx
   cases e;rw[eq_of_beq hx];exact h.1
  .exact h.2.at e
def ZL(K:Frag):List Str->Prop
 |[]=>True
 |x::r=>SS K RZ x=Iv LG/\ZL K r
def GT{K:Frag}{x:Str}{L:List Str}(a:SS K RZ x=Iv LG)(r:ZL K L):ZL K (x::L):=⟨a,r⟩
theorem ZL.at{K:Frag}{x:Str}:∀{L:List Str},ZL K L->L.contains x=KN->SS K RZ x=Iv LG
 |[],_,e=>nomatch e
 |y::r,h,e=>by
  rw[List.contains_cons,UH] at e
  rcases e with e|e
  .rw[eq_of_beq e];exact h.1
  .exact h.2.at e
def IL(K:Frag):List (Str×Int)->Prop
 |[]=>True
 |(x,i)::r=>(∃t,SS K RZ x=Iv (Iv (.int i t)))/\IL K r
def Ii{K:Frag}{x:Str}{i:Int}{t:Tok}{L:List (Str×Int)}(a:SS K RZ x=Iv (Iv (.int i t)))(r:IL K L):IL K ((x,i)::L):=⟨⟨t,a⟩,r⟩
theorem IL.at{K:Frag}{x:Str}{i:Int}:∀{L:List (Str×Int)},IL K L->L.lookup x=Iv i->∃t,SS K RZ x=Iv (Iv (.int i t))
 |[],_,e=>nomatch e
 |_::r,h,e=>by
  rw[Ut] at e;split at e
  .rename_i hx
   cases e;rw[eq_of_beq hx];exact h.1
  .exact h.2.at e
def SL(K:Frag):List (Str×Str)->Prop
 |[]=>True
 |(x,i)::r=>(∃t,SS K RZ x=Iv (Iv (.str i t)))/\SL K r
def He{K:Frag}{x i:Str}{t:Tok}{L:List (Str×Str)}(a:SS K RZ x=Iv (Iv (.str i t)))(r:SL K L):SL K ((x,i)::L):=⟨⟨t,a⟩,r⟩
theorem SL.at{K:Frag}{x i:Str}:∀{L:List (Str×Str)},SL K L->L.lookup x=Iv i->∃t,SS K RZ x=Iv (Iv (.str i t))
 |[],_,e=>nomatch e
 |_::r,h,e=>by
  rw[Ut] at e;split at e
  .rename_i hx
   cases e;rw[eq_of_beq hx];exact h.1
  .exact h.2.at e
structure Bz(K:Frag)(mg:Str->Option Re)(z:List Str)(i:List (Str×Int))(s:List (Str×Str)):Prop where
 z:∀{x:Str} (_:autoParam (z.contains x=KN) u19),mg x=LG
 i:∀{x:Str}{j:Int} (_:autoParam (i.lookup x=Iv j) u19),∃t,mg x=Iv (.int j t)
 s:∀{x y:Str} (_:autoParam (s.lookup x=Iv y) u19),∃t,mg x=Iv (.str y t)
def zjq{K:Frag}{h:Heap}{mg:Str->Option Re}(X:K.In h)(G:h.Ns RZ mg)(a:ZL K z)(b:IL K i)(c:SL K s):Bz K mg z i s:=⟨λe=>PySem.W.mg_none_of X G (a.at e),λe=>let ⟨t,q⟩:=b.at e;⟨t,UB X G q⟩,λe=>let ⟨t,q⟩:=c.at e;⟨t,UB X G q⟩⟩
structure Ev(P:RC)(w:RX)(K:Frag)(mg:Str->Option Re)(base:Heap)(B:Prop)(tp:Nat->Stmt)(L:List (Str×Nat)):Prop where
 x:∃h:Heap,K.In h/\h.Ns RZ mg
 b:B
 d:Il K tp L
noncomputable def FC(N P:List Str)(sc:TU):Bool:=decide (sc.kind=.function)&&!sc.isCoroutine&&!sc.isGenerator&&decide N.Nodup&&decide (N.take P.length=P)&&P.all (λx=>decide (sc.names.lookup x=Iv .local)||decide (sc.names.lookup x=Iv .cell))&&sc.names.all λy=>decide (y.2≠.free)
def kJ(h:FC N P sc=KN):DP N P sc:=by
 simp only[FC,Ro,decide_eq_true_eq,Bool.not_eq_true',Rq,UH] at h;exact⟨h.1.1.1.1.1.1,h.1.1.1.1.1.2,h.1.1.1.1.2,h.1.1.1.2,h.1.1.2,h.1.2,h.2⟩
def AA{α:Type}{p:List α->Prop}(h:∀a,p [a]):∀us,us.length=1->p us
 |[a],_=>h a
def AB{α:Type}{p:List α->Prop}(h:∀a b,p [a,b]):∀us,us.length=2->p us
 |[a,b],_=>h a b
def Az{α:Type}{p:List α->Prop}(h:∀a b c,p [a,b,c]):∀us,us.length=3->p us
 |[a,b,c],_=>h a b c
def AC{α:Type}{p:List α->Prop}(h:∀a b c d,p [a,b,c,d]):∀us,us.length=4->p us
 |[a,b,c,d],_=>h a b c d
def Kb{α:Type}{p:List α->Prop}(h:∀a b c d e,p [a,b,c,d,e]):∀us,us.length=5->p us
 |[a,b,c,d,e],_=>h a b c d e
section
variable {P:RC}{w:RX}{K:Frag}{mg:Str->Option Re}{base:Heap}{B:Prop}{tp:Nat->Stmt}{L:List (Str×Nat)}{x:Str}{ps:List Str}{k:Nat}{m:FS}
def uU(E:Ev P w K mg base B tp L)(i:Nat)(ok:∀f fd,Ht K x x (tp i) f fd->Ft P w K mg base E4 k f fd ps sp)(e:autoParam (L.lookup x=Iv i) u19)
  (hb:autoParam (∀(kV doc pm:Re) (an:Option Addr) (HG ct:Re) (us:List Re),us.length=ps.length->V2 (SE x x (eA (tp i)) (dm (tp i)) (br (tp i)) .none kV doc pm an HG ct) ⟨us,[]⟩=pure (ps.zip us)) u26):Fn P w K mg base x ps k sp:=
 let ⟨_,X,G⟩:=E.x
 (E.d.at e).fn X G hb ok
def aN(E:Ev P w K mg base B tp L)(i:Nat)(N:List Str)(JF:∀{f:Addr}{HG:Re}{A:R9}{outer:List Env}{s:Rj}{H:Hp}{E:XK},B->DP N ps (br (tp i))->JL k (A.deeper (U9 x (br (tp i)) s.heap.objs.size f HG))->JR (fM E4 P w K mg base N x (br (tp i)) f HG A outer s H E).nox (dm (tp i)) m)
  (S:autoParam (FC N ps (br (tp i))=KN) u19) (e:autoParam (L.lookup x=Iv i) u19)
  (hb:autoParam (∀(kV doc pm:Re) (an:Option Addr) (HG ct:Re) (us:List Re),us.length=ps.length->V2 (SE x x (eA (tp i)) (dm (tp i)) (br (tp i)) .none kV doc pm an HG ct) ⟨us,[]⟩=pure (ps.zip us)) u26):Fn P w K mg base x ps (k+1) (Ms K ps.length (aI N.length m)):=uU E i (λ_ _ F=>dfn F (kJ S) λ_ _ _ _ _ _ hr=>JF E.b (kJ S) hr) e hb
def zjr(E:Ev P w K mg base B tp L)(i:Nat)(N:List Str)(JF:∀{f:Addr}{HG:Re}{A:R9}{outer:List Env}{s:Rj}{H:Hp}{E:XK},B->DP N ps (br (tp i))->JL k (A.deeper (U9 x (br (tp i)) s.heap.objs.size f HG))->JR (fM E4 P w K mg base N x (br (tp i)) f HG A outer s H E).nox (dm (tp i)) m)
  (S:autoParam (FC N ps (br (tp i))=KN) u19) (e:autoParam (L.lookup x=Iv i) u19)
  (hb:autoParam (∀(kV doc pm:Re) (an:Option Addr) (HG ct:Re) (us:List Re),us.length=ps.length->V2 (SE x x (eA (tp i)) (dm (tp i)) (br (tp i)) .none kV doc pm an HG ct) ⟨us,[]⟩=pure (ps.zip us)) u26):Fn P w K mg base x ps (k+1) (Gb K ps.length (kM N.length m)):=uU E i (λ_ _ F=>zhn F (kJ S) λ_ _ _ _ _ _ hr=>JF E.b (kJ S) hr) e hb
def d6(E:Ev P w K mg base B tp L)(i:Nat)(e:autoParam (L.lookup x=Iv i) u19)
  (hb:autoParam (∀(kV doc pm:Re) (an:Option Addr) (HG ct:Re) (us:List Re),us.length=ps.length->V2 (SE x x (eA (tp i)) (dm (tp i)) (br (tp i)) .none kV doc pm an HG ct) ⟨us,[]⟩=pure (ps.zip us)) u26):Fn P w K mg base x ps k (Ms K n λ_ _=>LG):=uU E i (λ_ _ _=>zfo) e hb
def zjs(E:Ev P w K mg base B tp L)(N:List Str)(F:Ht K x x (tp i) f fd)(JF:∀{HG:Re}{A:R9}{outer:List Env}{s:Rj}{H:Hp}{E:XK},B->DP N ps (br (tp i))->JL k (A.deeper (U9 x (br (tp i)) s.heap.objs.size f HG))->JR (fM E4 P w K mg base N x (br (tp i)) f HG A outer s H E).nox (dm (tp i)) m)
  (S:autoParam (FC N ps (br (tp i))=KN) u19):Ft P w K mg base E4 (k+1) f fd ps (Ms K ps.length (aI N.length m)):=dfn F (kJ S) λ_ _ _ _ _ _ hr=>JF E.b (kJ S) hr
theorem dY{p:Nat->Prop}(z:p 0)(s:∀n,p n->p (n+1)):∀n,p n
 |0=>z
 |n+1=>s n (dY z s n)
end
section
variable {X:Cx}{name p1 p2 p3 p4 p5 p6:Str}{k k':Nat}{m:Hl}{e1 e2 e3 e4 e5 e6:Expr}{g1 g2 g3 g4 g5 g6:FE}{p pos:Pos}
def aT(F:Fn X.prog X.w X.K X.mg X.base name [p1] k (Ms X.K 1 m))(hr:JL k' X.A)(a1:DE X e1 g1)(h:autoParam (k<=k') u23)(hg:autoParam (Gl X name) u14)(E2:autoParam ((name == ("__debug__" : Str))=Lf) u11)(n1:autoParam (noStar e1=KN) u14):DE X (.Call (.Name name p) [e1] [] pos) (ak m (ab g1 ah)):=mB F (hr.mono h) hg (av a1 aD (aU n1)) (b5 fY) E2 (aU n1) (bV rfl)
def aM(F:Fn X.prog X.w X.K X.mg X.base name [p1,p2] k (Ms X.K 2 m))(hr:JL k' X.A)(a1:DE X e1 g1)(a2:DE X e2 g2)(h:autoParam (k<=k') u23)(hg:autoParam (Gl X name) u14)(E2:autoParam ((name == ("__debug__" : Str))=Lf) u11)(n1:autoParam (noStar e1=KN) u14)(n2:autoParam (noStar e2=KN) u14):DE X (.Call (.Name name p) [e1,e2] [] pos) (ak m (ab g1 (ab g2 ah))):=mB F (hr.mono h) hg (av a1 (av a2 aD (aU n2)) (aU n1)) (b5 (b5 fY)) E2 (aU n1) (bV (by simp_all))
def cE(F:Fn X.prog X.w X.K X.mg X.base name [p1,p2,p3] k (Ms X.K 3 m))(hr:JL k' X.A)(a1:DE X e1 g1)(a2:DE X e2 g2)(a3:DE X e3 g3)(h:autoParam (k<=k') u23)(hg:autoParam (Gl X name) u14)(E2:autoParam ((name == ("__debug__" : Str))=Lf) u11)(n1:autoParam (noStar e1=KN) u14)(n2:autoParam (noStar e2=KN) u14)(n3:autoParam (noStar e3=KN) u14):DE X (.Call (.Name name p) [e1,e2,e3] [] pos) (ak m (ab g1 (ab g2 (ab g3 ah)))):=mB F (hr.mono h) hg (av a1 (av a2 (av a3 aD (aU n3)) (aU n2)) (aU n1)) (b5 (b5 (b5 fY))) E2 (aU n1) (bV (by simp_all))
def Cj(F:Fn X.prog X.w X.K X.mg X.base name [p1,p2,p3,p4] k (Ms X.K 4 m))(hr:JL k' X.A)(a1:DE X e1 g1)(a2:DE X e2 g2)(a3:DE X e3 g3)(a4:DE X e4 g4)(h:autoParam (k<=k') u23)(hg:autoParam (Gl X name) u14)(E2:autoParam ((name == ("__debug__" : Str))=Lf) u11)(n1:autoParam (noStar e1=KN) u14)(n2:autoParam (noStar e2=KN) u14)(n3:autoParam (noStar e3=KN) u14)(n4:autoParam (noStar e4=KN) u14):DE X (.Call (.Name name p) [e1,e2,e3,e4] [] pos) (ak m (ab g1 (ab g2 (ab g3 (ab g4 ah))))):=mB F (hr.mono h) hg (av a1 (av a2 (av a3 (av a4 aD (aU n4)) (aU n3)) (aU n2)) (aU n1)) (b5 (b5 (b5 (b5 fY)))) E2 (aU n1) (bV (by simp_all))
def nU(F:Fn X.prog X.w X.K X.mg X.base name [p1,p2,p3,p4,p5] k (Ms X.K 5 m))(hr:JL k' X.A)(a1:DE X e1 g1)(a2:DE X e2 g2)(a3:DE X e3 g3)(a4:DE X e4 g4)(a5:DE X e5 g5)(h:autoParam (k<=k') u23)(hg:autoParam (Gl X name) u14)(E2:autoParam ((name == ("__debug__" : Str))=Lf) u11)(n1:autoParam (noStar e1=KN) u14)(n2:autoParam (noStar e2=KN) u14)(n3:autoParam (noStar e3=KN) u14)(n4:autoParam (noStar e4=KN) u14)(n5:autoParam (noStar e5=KN) u14):DE X (.Call (.Name name p) [e1,e2,e3,e4,e5] [] pos) (ak m (ab g1 (ab g2 (ab g3 (ab g4 (ab g5 ah)))))):=mB F (hr.mono h) hg (av a1 (av a2 (av a3 (av a4 (av a5 aD (aU n5)) (aU n4)) (aU n3)) (aU n2)) (aU n1)) (b5 (b5 (b5 (b5 (b5 fY))))) E2 (aU n1) (bV (by simp_all))
end
noncomputable def DG(osc:TU)(N:List Str)(x:Str)(sc:TU)(N':List Str):Bool:=decide (sc.kind=.function)&&(sc.names.all λy=>decide (y.2≠.cell))&&(sc.names.all λy=>decide (y.2=.local->sc.names.lookup y.1=Iv .local))&&decide (sc.names.lookup x=Iv .local)&&(sc.names.all λy=>decide (y.2=.local->y.1=x\/y.1=".0"))
 && (sc.names.all λy=>decide (y.2=.free->osc.names.lookup y.1=Iv .cell\/osc.names.lookup y.1=Iv .free))&&decide (x::N').Nodup&&decide ((".0" : Str)∉N')&&decide (N'.length=N.length)&&(N'.zip N).all λp=>decide (p.1=p.2)||sc.names.all λq=>decide (q.1≠p.1)
def BD(h:DG osc N x sc N'=KN):CS osc N x sc N':=by
 simp only[DG,Ro,decide_eq_true_eq,Rq,UH] at h;exact⟨h.1.1.1.1.1.1.1.1.1,h.1.1.1.1.1.1.1.1.2,h.1.1.1.1.1.1.1.2,h.1.1.1.1.1.1.2,h.1.1.1.1.1.2,h.1.1.1.1.2,h.1.1.1.2,h.1.1.2,h.1.2,h.2⟩
section
variable {X:Cx}{x:Str}{scope:TU}{elt iter:Expr}{ifs:List Expr}{px pos:Pos}{it:FI}{c:FT}{f:FE}{p p2:Pos}{e ce:Expr}{fe:FE}{g:FS}{rest:List Stmt}
def BC(st:Stmt)(N N':List Str)(hi:DI X (.Name x px) iter it)(he:∀{C s0 H0 ex},DE (bY X x scope C s0 H0 ex N') elt f)(ht:∀{C s0 H0 ex},Jd (bY X x scope C s0 H0 ex N') ifs c)
  (S:autoParam (DG (br st) N x scope N'=KN) u19) (hc:autoParam (X.calm=KN) u10) (hs:autoParam (X.env.scope=br st) u10) (hN:autoParam (X.N=N) u10) (hf:autoParam (∀v,RY iter X.env v=pure v) u17):DE X (.ListComp elt [⟨.Name x px,iter,ifs,0⟩] scope pos) (bC it c f):=zes (BD S) hi (λ_ _ _ _=>he) (λ_ _ _ _=>ht) hc hs hN hf
def df(st:Stmt)(N:List Str)(hi:DI X (.Name x px) iter it)(he:∀{C s0 H0 ex},DE (bY X x scope C s0 H0 ex N) elt f)
  (S:autoParam (DG (br st) N x scope N=KN) u19) (hc:autoParam (X.calm=KN) u10) (hs:autoParam (X.env.scope=br st) u10) (hN:autoParam (X.N=N) u10) (hf:autoParam (∀v,RY iter X.env v=pure v) u17):DE X (.ListComp elt [⟨.Name x px,iter,[],0⟩] scope pos) (bC it bz f):=BC st N N hi he pY S hc hs hN hf
def kZ(st:Stmt)(N:List Str)(hi:DI X (.Name x px) iter it)(he:∀{C s0 H0 ex},DE (bY X x scope C s0 H0 ex N) elt f)(ht:∀{C s0 H0 ex},DT (bY X x scope C s0 H0 ex N) t c)
  (S:autoParam (DG (br st) N x scope N=KN) u19) (hc:autoParam (X.calm=KN) u10) (hs:autoParam (X.env.scope=br st) u10) (hN:autoParam (X.N=N) u10) (hf:autoParam (∀v,RY iter X.env v=pure v) u17):DE X (.ListComp elt [⟨.Name x px,iter,[t],0⟩] scope pos) (bC it c f):=BC st N N hi he (zer rfl ht) S hc hs hN hf
def BB(st:Stmt)(N N':List Str)(nd:X.N.Nodup)(hi:DI X (.Name x px) iter it)(he:∀{C s0 H0 ex},DE (bY X x scope C s0 H0 ex N') elt f)(ht:∀{C s0 H0 ex},Jd (bY X x scope C s0 H0 ex N') ifs c)
  (S:autoParam (DG (br st) N x scope N'=KN) u19) (Ds:autoParam (X.N[i]? = Iv y) u10) (hy:autoParam (Loc X.env.scope y) u16)
  (Ij:autoParam (X.fn y=KN\/X.env.scope.names.lookup y=Iv .local) u13) (hc:autoParam (X.calm=KN) u10) (hs:autoParam (X.env.scope=br st) u10) (hN:autoParam (X.N=N) u10)
  (GQ:autoParam (So (.ListComp elt [⟨.Name x px,iter,ifs,0⟩] scope pos) (Iv (.Name y py)) KO.line X.env=pure KN) u10) (hf:autoParam (∀v,RY iter X.env v=pure v) u17) :
  DS X (.Assign [.Name y py] (.ListComp elt [⟨.Name x px,iter,ifs,0⟩] scope pos) KO) (aE i (bC it c f)):=zeu (BD S) nd hi (λ_ _ _ _=>he) (λ_ _ _ _=>ht) Ds hy Ij hc hs hN GQ hf
def C4(i:Nat){jd}(hN:autoParam (X.N[i]? = Iv x) u10)(hv:autoParam (EC X.env.scope x) u18)(hd:autoParam ((x == ("__debug__" : Str))=Lf) u11)
  (hcd:autoParam ((x == ("__classdict__" : Str))=Lf) u11):DE X (.Subscript (.Name x p) (.Constant (.int j) jd p2) pos) (af HN (aa i) (fC (.int j))):=aQ aV (ag i hN hv hd hcd) ar
def LS(he:DE X e fe):JR X [.Return (Iv e) pos] (aq fe):=ba (zew he)
def JK(hc:DT X ce c)(he:DE X e fe)(hr:JR X rest g):JR X (.If ce [.Return (Iv e) p] [] pos::rest) (ai (EI c (aq fe) aA) g):=aB (b9 hc (LS he) cF) hr
def GB(hm:X.mg "len"=LG)(he:DE X e fe)(hg:autoParam (Gl X "len") u14)(hs:autoParam (noStar e=KN) u14):DE X (.Call (.Name "len" p) [e] [] pos) (Et aR (ab fe ah)):=dF zfj hg hm boot_len (av he aD (aU hs)) (by decide) (by decide) (aU hs)
def JS{x1}(ha:DE X a f1)(hb:DE X b f2)(h1:autoParam (noStar a=KN) u14)(h2:autoParam (noStar b=KN) u14):DE X (.Tuple [a,b] x1 pos) (ax .tuple (ab f1 (ab f2 ah))):=cw (av ha (av hb aD (aU h2)) (aU h1))
end
end D
namespace G
open L2 D

def qW(k:Nat)(h:0<k):∃j,k=j+1:=⟨k-1,by omega⟩
abbrev ac:FE:=fC (.int 1)
abbrev be:FE:=fC (.int 0)
abbrev bm:FE:=aa 0
abbrev bn:FE:=aa 1
abbrev ca:FE:=aa 2
abbrev ci:FE:=fC (.str "fails")
abbrev cr:FE:=aa 3
abbrev db:FE:=fC (.bool Lf)
abbrev dL:FE:=fC (.str "made")
abbrev f8:FE:=fC (.int 2)
abbrev ga:FE:=aa 4
abbrev ge:FE:=fC (.str "value")
abbrev gl:FE:=fC (.bool KN)
abbrev ii:FE:=aa 5
abbrev im:FE:=fC (.str "kind")
abbrev io:FE:=fC (.int 4)
abbrev kt:FE:=fC .none
abbrev kw:FE:=fC (.str "wants")
abbrev lf:FE:=fC (.str "abcdefghijklmnopqrstuvwxyz")
abbrev mt:FE:=fC (.str "want")
abbrev o0:FE:=fC (.int 8)
abbrev pc:FE:=fC (.int 3)
abbrev pi:FE:=fC (.str "put")
abbrev pr:FE:=fC (.str "abcdefghijklmnopqrstuvwxyz0123456789-")
abbrev sn:FE:=aa 6
abbrev sw:FE:=fC (.str "got")
abbrev sB:FE:=fC (.str "row")
abbrev sK:FE:=fC (.int 10)
abbrev tz:FE:=fC (.str "part")
abbrev u8:FE:=fC (.str "say")
abbrev wf:FE:=fC (.str "lacks")
abbrev wl:FE:=fC (.int 5)
abbrev wn:FE:=fC (.str ")")
abbrev wp:FE:=fC (.str "0")
abbrev wv:FE:=fC (.str "when")
abbrev ww:FE:=fC (.int 18)
abbrev wE:FE:=fC (.int 12)
abbrev wP:FE:=fC (.str "strays")
abbrev wT:FE:=aa 8
abbrev xz:FE:=fC (.str "'")
abbrev zn:FE:=fC (.str "(")
abbrev At:FE:=fC (.str ",")
abbrev AT:FE:=fC (.str "great")
abbrev BT:FE:=fC (.str "many")
abbrev Ch:FE:=fC (.str "join")
abbrev Db:FE:=fC (.str "same")
abbrev Fa:FE:=fC (.str "fail")
abbrev Fr:FE:=fC (.str "")
abbrev Go:FE:=fC (.str "name")
abbrev Id:FE:=fC (.str "peek")
abbrev Ix:FE:=fC (.str "sum")
abbrev IN:FE:=fC (.int 7)
abbrev IO:FE:=aa 7
abbrev KK(f:FE):FA:=ab f ah
abbrev LE:FE->FE->FE:=af HN
abbrev LT:FA->FE:=ax .tuple
abbrev No:FE->FE->FE:=af CP
abbrev Op:FE->FE->FE:=af aP
abbrev Ps:FA->FE:=Et aR
abbrev Q4:FA->FE:=ax .list
abbrev Q5:FE->FE->FE:=af Dz
abbrev Q6:FE->FE->FE:=af FU
abbrev Q7:FE->FE->FE:=af DN
abbrev Q8:FE->FE->FE:=af Eh
abbrev Q9:FA->FE:=Et b6
abbrev R3:FA->FE:=Et intD
def eZ:Hl:=aI 1 (aq (bN (LP (aW .int) bm) (nv (LP (aW .bl) bm))))
def gB:Hl:=aI 2 (aq (Et dS (KK (bC (bf bm) bz (af inD bm ca)))))
def fU:Hl:=aI 1 (aq (bN (LP (aW .str) bm) (bN (jh Dq Dq ac (Ps (KK bm)) o0) (ak gB (ab bm (KK lf))))))
def lH:Hl:=aI 1 (ai (EI (aJ (ak eZ (KK bm))) (aq (af Dq (Et nX (KK bm)) (af iE sK ww))) aA) (aq (bN (LP (aW .str) bm) (bN (af Dq (Ps (KK bm)) (fC (.int 20))) (ak gB (ab bm (KK pr)))))))
def fS:Nat->Hl
 |0=>λ_ _=>LG
 |n+1=>aI 2 (ai (EI (bj (aJ (LP (aW .tup) bm))) (aq (ak lH (KK bm))) aA) (ai (EI (bq (ao (No bn be)) (ao (Q6 (Ps (KK bm)) o0))) (aq db) aA) (aq (Et dS (KK (bC (bf bm) bz (ak (fS n) (ab bm (KK (af eW ca ac))))))))))
def iU:Nat->Hl
 |0=>λ_ _=>LG
 |n+1=>aI 1 (ai (EI (bj (aJ (LP (aW .tup) bm))) (aq ac) aA) (aq (Op ac (Et nH (KK (bC (bf bm) bz (ak (iU n) (KK bm))))))))
def jM:Hl:=aI 1 (aq (bN (ak (fS 25) (ab bm (KK io))) (af Dq (ak (iU 25) (KK bm)) (fC (.int 40)))))
def fO:Hl:=aI 1 (ai (EI (bq (ao (No (LE bm be) pi)) (ao (No (LE bm be) sw))) (aq (Q4 ah)) aA) (ai (EI (ao (No (LE bm be) sB)) (aq (Et dH (KK (LE bm ac)))) aA) (aq (Et dH (KK (Ig bm (fP ac) bE))))))
def iT:Hl:=aI 2 (ai (EI (ao (af Mb bn (LE bm be))) (aq (fC (.str "told"))) aA) (ai (EI (ao (af Mb bn (LE bm ac))) (aq dL) aA) (aq wf)))
def gV:Hl:=aI 2 (ai (EI (bq (bj (aJ (ak eZ (KK bm)))) (bj (aJ (ak eZ (KK bn))))) (aq (LT (ab ci (KK im)))) aA) (aq (LT (ab ge (KK (cD (ao (Q8 bm bn)) ac be))))))
def g7:Hl:=aI 1 (aq (cD (aJ (ak jM (KK bm))) (LT (ab ge (KK bm))) (LT (ab ci (KK AT)))))
def lD:Hl:=aI 1 (ai (EI (aJ (ak eZ (KK bm))) (aq (LT (ab ci (KK im)))) aA) (aq (LT (ab ge (KK (Ps (KK bm)))))))
def gx:Hl:=aI 2 (ai (EI (bq (bj (aJ (LP (aW .tup) bm))) (bj (aJ (ak eZ (KK bn))))) (aq (LT (ab ci (KK im)))) aA) (ai (EI (bj (ao (jh Dq Eh be bn (Ps (KK bm))))) (aq (LT (ab ci (KK tz)))) aA) (aq (LT (ab ge (KK (LE bm bn)))))))
def iQ:Hl:=aI 2 (ai (EI (bq (bj (aJ (ak eZ (KK bm)))) (bj (aJ (ak eZ (KK bn))))) (aq (LT (ab ci (KK im)))) aA) (aq (ak g7 (KK (Op bm bn)))))
def gy:Hl:=aI 2 (ai (EI (bv (aJ (LP (aW .str) bm)) (aJ (LP (aW .str) bn))) (aq (ak g7 (KK (Op bm bn)))) aA) (ai (EI (bv (aJ (LP (aW .tup) bm)) (aJ (LP (aW .tup) bn))) (aq (ak g7 (KK (Op bm bn)))) aA) (aq (LT (ab ci (KK im))))))
def bw:Hl:=aI 2 (ai (EI (ao (No bm sB)) (aq (ak g7 (KK (Q9 (KK bn))))) aA) (ai (EI (ao (No bm BT)) (aq (ak lD (KK (LE bn be)))) aA) (ai (EI (ao (No bm tz)) (aq (ak gx (ab (LE bn be) (KK (LE bn ac))))) aA) (ai (EI (ao (No bm Ix)) (aq (ak iQ (ab (LE bn be) (KK (LE bn ac))))) aA) (ai (EI (ao (No bm Ch)) (aq (ak gy (ab (LE bn be) (KK (LE bn ac))))) aA) (ai (EI (ao (No bm Db)) (aq (LT (ab ge (KK (cD (ao (af Mr (LE bn be) (LE bn ac))) ac be))))) aA) (aq (ak gV (ab (LE bn be) (KK (LE bn ac)))))))))))
def ej:Nat->Hl
 |0=>λ_ _=>LG
 |n+1=>aI 5 (ai (EI (ao (No (LE bm be) pi)) (aq (LT (ab ge (KK (LE bm ac))))) aA) (ai (EI (ao (No (LE bm be) sw)) (aq (LT (ab ge (KK (LE bn (LE bm ac)))))) aA) (ai (cj 2 ah) (ai (cb 3 (bf (ak fO (KK bm))) (ai (aE 4 (ak (ej n) (ab cr (KK bn)))) (ai (EI (ao (No (LE ga be) ci)) (aq ga) aA) (cR 2 (LE ga ac))))) (aq (fZ bw (ab (LE bm be) (KK ca))))))))
def bU:Nat->Hl
 |0=>λ_ _=>LG
 |n+1=>aI 3 (ai (EI (ao (No (LE bm be) Fa)) (aq (LT (ab ci (KK (LE bm ac))))) aA) (ai (aE 2 (ak (ej 25) (ab (LE bm ac) (KK bn)))) (ai (EI (ao (No (LE ca be) ci)) (aq ca) aA) (ai (EI (ao (No (LE bm be) wv)) (aq (ak (bU n) (ab (cD (ao (af HQ (LE ca ac) (LT (ab be (ab Fr (KK (LT ah))))))) (LE bm pc) (LE bm f8)) (KK bn)))) aA) (ai (EI (ao (No (LE bm be) u8)) (aq (LT (ab dL (KK (LE ca ac))))) aA) (ai (EI (bj (aJ (ak fU (KK (LE ca ac))))) (aq (LT (ab ci (KK Go)))) aA) (aq (LT (ab (LE bm be) (ab (LE ca ac) (KK (LE bm f8))))))))))))
def ox:Hl:=aI 9 (ai (gk 3 "want" "peek" bn ca) (ai (gk 4 "want" "peek" be be) (ai (cj 5 ah) (ai (aE 6 (fZ (bU 25) (ab bm (KK ii)))) (ai (bc (ao (af kS (LE sn be) cr)) (ai (aE 7 (af eU cr (LE sn be))) (ai (aE 8 (af eU ga (LE sn be))) (ai (EI (bq (ao (af M6 wT (Ps (KK IO)))) (ao (Q7 (LE (LE IO wT) be) (LE sn ac)))) (aq (LT (ab (LT (ab (LP (atS [("want","wants"),("peek","peeks")]) (LE sn be)) (KK (LE sn ac)))) (KK (af eU ga mt))))) aA) (ai (cR 5 (LE (LE IO wT) ac)) (ai (qL 4 (LE sn be) (Op wT ac)) (aE 6 (fZ (bU 25) (ab (LE sn f8) (KK ii))))))))) 100000) (aq (LT (ab sn (KK (af eU ga mt))))))))))
def l7:Hl:=aI 4 (ai (aE 3 (ak ox (ab bm (ab bn (KK ca))))) (ai (EI (ao (Q8 (LE cr ac) (Ps (KK bn)))) (aq (LT (ab wP (KK (LE cr ac))))) aA) (aq (LE cr be))))
def ei:Nat->Hl
 |0=>λ_ _=>LG
 |n+1=>aI 1 (ai (EI (aJ (ak eZ (KK bm))) (aq (Et nI (KK bm))) aA) (ai (EI (aJ (LP (aW .str) bm)) (aq (Op xz bm)) aA) (aq (Op (Op zn (af m9 At (bC (bf bm) bz (ak (ei n) (KK bm))))) wn))))
def gS:Hl:=aI 1 (ai (EI (bq (ao (No bm Fr)) (bj (aJ (ak gB (ab bm (KK (fC (.str "0123456789")))))))) (aq db) aA) (aq (vc (No bm wp) (nv (af hJ bm wp)))))
def lG:Hl:=aI 2 (ai (aE 1 (cD (aJ (af hJ bm (fC (.str "-")))) (Ig bm (fP ac) bE) bm)) (ai (EI (bq (ao (No bm (fC (.str "-0")))) (bq (ao (Q6 (Ps (KK bn)) (fC (.int 19)))) (bj (aJ (ak gS (KK bn)))))) (aq kt) aA) (aq (R3 (KK bm)))))
def lE:Hl:=aI 1 (ai (EI (aJ (af hJ bm xz)) (aq (Ig bm (fP ac) bE)) aA) (aq (ak lG (KK bm))))
def jG:Hl:=aI 4 (ai (aE 2 bn) (ai (bc (bv (ao (Q8 ca (Ps (KK bm)))) (ao (af cS (LE bm ca) (fC (.str "(),"))))) (aE 2 (Op ca ac)) 100000) (ai (aE 3 (ak lE (KK (Ig bm (fP bn) (fP ca))))) (aq (cD (ao (af Kt cr kt)) kt (LT (ab cr (KK ca))))))))
mutual
def l6:Nat->Hl
 |0=>λ_ _=>LG
 |n+1=>aI 6 (ai (EI (ao (No (Ig bm (fP bn) (fP (Op bn ac))) wn)) (aq (LT (ab (LT ah) (KK (Op bn ac))))) aA) (ai (cj 3 ah) (bc (aJ gl) (ai (aE 4 (ak (eh n) (ab bm (ab bn (KK ca))))) (ai (EI (ao (af Kt ga kt)) (aq kt) aA) (ai (cR 3 (LE ga be)) (ai (aE 1 (Op (LE ga ac) ac)) (ai (aE 5 (Ig bm (fP (LE ga ac)) (fP bn))) (ai (EI (ao (No ii wn)) (aq (LT (ab (Q9 (KK cr)) (KK bn)))) aA) (EI (ao (Q7 ii At)) (aq kt) aA))))))) 100000)))
def eh:Nat->Hl
 |0=>λ_ _=>LG
 |n+1=>aI 3 (ai (EI (ao (Q7 (Ig bm (fP bn) (fP (Op bn ac))) zn)) (aq (ak jG (ab bm (KK bn)))) aA) (ai (EI (ao (No ca be)) (aq kt) aA) (aq (ak (l6 n) (ab bm (ab (Op bn ac) (KK (af eW ca ac))))))))
end
def iP:Hl:=aI 2 (ai (aE 1 (ak (eh 25) (ab bm (ab be (KK io))))) (ai (EI (bq (ao (af Kt bn kt)) (ao (Q8 (LE bn ac) (Ps (KK bm))))) (aq kt) aA) (aq (cD (aJ (ak jM (KK (LE bn be)))) (LE bn be) kt))))
def lO:Hl:=aI 1 (aq (bN (LP (aW .str) bm) (af mP (ak iP (KK bm)) kt)))
def lR:Hl:=aI 1 (aq (bN (LP (aW .tup) bm) (bN (No (Ps (KK bm)) f8) (bN (ak fU (KK (LE bm be))) (ak lO (KK (LE bm ac)))))))
def oq:Hl:=aI 1 (ai (EI (bq (bj (aJ (LP (aW .tup) bm))) (ao (Q6 (Ps (KK bm)) wE))) (aq db) aA) (aq (Et dS (KK (bC (bf bm) bz (ak lR (KK bm)))))))
def l8:Hl:=aI 1 (ai (EI (bq (bj (aJ (LP (aW .tup) bm))) (bq (ao (Q7 (Ps (KK bm)) f8)) (bj (aJ (LP (aW .str) (LE bm be)))))) (aq db) aA) (ai (EI (ao (No (LE bm be) dL)) (aq (ak lO (KK (LE bm ac)))) aA) (aq (bN (af inD (LE bm be) (LT (ab ci (KK kw)))) (ak fU (KK (LE bm ac)))))))
def lS:Hl:=aI 1 (ai (EI (bq (bj (aJ (LP (aW .tup) bm))) (bq (ao (Q7 (Ps (KK bm)) pc)) (bj (aJ (ak fU (KK (LE bm be))))))) (aq db) aA) (aq (bN (ak oq (KK (LE bm ac))) (ak l8 (KK (LE bm f8))))))
def iR:Hl:=aI 4 (ai (aE 3 (ak l7 (ab bm (ab (bC (bf bn) bz (LT (ab (LE bm be) (KK (ak iP (KK (LE bm ac))))))) (KK (Q4 ah)))))) (ai (EI (ao (No (LE cr be) dL)) (aq (af Mr ca (LT (ab dL (KK (ak (ei 25) (KK (LE cr ac)))))))) aA) (aq (af Mr ca cr))))
def gA:Hl:=aI 2 (aq (ak iR (ab bm (ab (LE bn ac) (KK (LE bn f8))))))
def n8:FS:=(c8 1 (LE ca be) ca)
def oh:Hl:=aI 3 (ai (eG 1) (ai (cb 2 (bf bm) n8) (aq bn)))
def oi:FS:=(c8 1 (LE ca be) (LE ca f8))
def ot:Hl:=aI 3 (ai (eG 1) (ai (cb 2 (bf bm) oi) (aq bn)))
def n6:FS:=(c8 2 cr (LT (ab dL (KK (ak (ei 25) (KK ga))))))
def iJ:FS:=(ai (EI (bj (aJ (Et dS (KK (bC (bf (LE ii ac)) bz (af Mr (qN cr (LE bm be)) (LT (ab dL (KK (LE bm ac)))))))))) (aq db) aA) (c8 2 (LE ii be) (LE ii f8)))
def n9:Hl:=aI 6 (ai (eG 2) (ai (kW 3 4 (LE bm be) n6) (ai (cb 5 (bf bn) iJ) (aq gl))))
def ou:Hl:=aI 1 (aq (bN (LP (aW .lst) bm) (bN (af Dq (Ps (KK bm)) (fC (.int 100))) (Et dS (KK (bC (bf bm) bz (ak lS (KK bm))))))))
def og:Hl:=aI 3 (ai (aE 2 (bC (bf bn) bz (LE bm be))) (aq (bN (No (LP kN ca) (Ps (KK ca))) (Et dS (KK (bC (bf ca) bz (No (ak iT (ab bn (KK bm))) dL)))))))
def fN:Hl:=aI 3 (ai (EI (ao (Q7 (LE ca be) kw)) (aq gl) aA) (ai (EI (ao (af Mb (LE ca ac) bn)) (aq (Q7 (LE (Q5 bn (LE ca ac)) be) dL)) aA) (aq (No (ak iT (ab bm (KK (LE ca ac)))) wf))))
def fT:Hl:=aI 3 (ai (EI (bq (bj (aJ (ak ou (KK bn)))) (bj (aJ (ak og (ab bm (KK bn)))))) (aq db) aA) (ai (EI (bj (aJ (Et dS (KK (bC (bf bn) bz (ak gA (ab (Q5 (LE bn ac) (LE bm be)) (KK bm)))))))) (aq db) aA) (ai (aE 2 (ak ot (KK bn))) (aq (bN (ak n9 (ab bm (KK bn))) (Et dS (KK (bC (bf bn) bz (ak fN (ab bn (ab cr (KK (LE bm f8)))))))))))))
def jT:Hl:=aI 1 (ai (EI (ao (No (LE bm be) dL)) (aq (LT (ab dL (KK (ak (ei 25) (KK (LE bm ac))))))) aA) (ai (EI (ao (No (LE bm be) ci)) (aq bm) aA) (aq (LT (ab kw (KK (LE bm ac)))))))
def jH:Hl:=aI 3 (ai (aE 2 (Q9 (KK (bC (bf (LE bn ac)) bz (LT (ab (LE bm be) (KK (ak (ei 25) (KK (LE bm ac)))))))))) (aq (LT (ab bm (ab ca (KK (ak jT (KK (LE bn f8)))))))))
def lN:Hl:=aI 1 (aq (LT (ab (LT ah) (ab (LT ah) (KK (ak (bU 25) (ab bm (KK (LT ah)))))))))
def fQ:Hl:=aI 1 (aq (cD (ao (af inD (LE (LE bm f8) be) (fC (.tuple [.str "want",.str "peek"])))) (LE (LE bm f8) ac) kt))
def j4:Hl:=aI 5 (ai (aE 2 (LE bm f8)) (ai (aE 3 (Op (LE bm be) (LT (KK bn)))) (ai (aE 4 (cD (ao (No (LE ca be) mt)) (Op (LE bm ac) (LT (KK (LT (ab (LE ca ac) (KK bn)))))) (LE bm ac))) (aq (LT (ab cr (ab ga (KK (ak (bU 25) (ab (LE ca f8) (KK cr)))))))))))
def lT:Hl:=aI 2 (ai (bc (ao (af Mb (ak fQ (KK bm)) bn)) (aE 0 (ak j4 (ab bm (KK (Q5 bn (ak fQ (KK bm))))))) 100000) (aq bm))
def jE:Hl:=aI 7 (ai (kA 1 (LE bm be)) (ai (eG 2) (ai (kW 3 4 (LE bm ac) (c8 2 cr (ak lN (KK ga)))) (ai (aE 5 gl) (ai (bc (aJ ii) (ai (aE 6 (Ps (KK bn))) (ai (cb 3 (bf (LE bm ac)) (ai (c8 2 cr (kU (ak lT (ab (Q5 ca cr) (KK bn))))) (EI (ao (No (LE (LE (Q5 ca cr) f8) be) dL)) (c8 1 cr (LE (LE (Q5 ca cr) f8) ac)) aA))) (aE 5 (Q6 (Ps (KK bn)) sn)))) 100000) (aq (LT (ab bn (KK ca)))))))))
def oM:Hl:=aI 3 (ai (aE 2 (LE (ak jE (KK bm)) ac)) (ai (EI (ao (af i9 bn ca)) uT aA) (aq (ak jH (ab bn (KK (Q5 ca bn)))))))
def gR:FS:=(ai (aE 3 (LE (Q5 bm (LE ca (LP bS ac))) f8)) (ai (EI (ao (No (LE cr be) dL)) (aq (LT (ab dL (KK (ak iP (KK (LE cr ac))))))) aA) (ai (EI (ao (No (LE cr be) ci)) (aq (LT (ab ci (ab (Q9 (KK ca)) (KK (LE cr ac)))))) aA) (cR 2 (LE cr ac)))))
def lx:Hl:=aI 4 (ai (cj 2 (KK bn)) (ai (bc (bv (ao (af Mb (LE ca (LP bS ac)) bm)) (ao (af cS (LE ca (LP bS ac)) (Ig ca bE (fP (LP bS ac)))))) gR 100000) (aq (LT (ab (cD (ao (af Mb (LE ca (LP bS ac)) bm)) (fC (.str "ring")) wf) (KK (Q9 (KK ca))))))))
def oj:Hl:=aI 3 (ai (eG 1) (ai (cb 2 (bf bm) (c8 1 ca (ak jH (ab ca (KK (Q5 bm ca)))))) (aq bn)))
def mw:Hl:=aI 3 (ai (aE 2 (ak jE (KK bm))) (ai (EI (ao (af Mb bn (LE ca be))) (aq (LT (ab dL (KK (Q5 (LE ca be) bn))))) aA) (aq (ak lx (ab (ak oj (KK (LE ca ac))) (KK bn))))))
def lF:Hl:=aI 3 (ai (aE 2 (ak oh (KK bm))) (ai (EI (ao (af i9 bn ca)) uT aA) (aq (ak lx (ab ca (KK bn))))))
def dN:Hl:=aI 2 (ai (EI (ao (Q8 bn (Ps (KK bm)))) (aq (LE bm bn)) aA) (aq be))
def gU:Hl:=aI 6 (ai (cj 2 ah) (ai (aE 3 be) (ai (EI (ao (af M6 bm (af iE sK ww))) (aE 3 bm) aA) (ai (aE 4 (Op (af cy bm (fC (.int 2147483629))) (fC (.int 48271)))) (ai (cb 5 (d0 bn) (ai (aE 4 (af cy (Op (Op (af cB ga ga) (af cB (fC (.int 48271)) ga)) (af cB IN ii)) (fC (.int 2147483647)))) (EI (ao (Q6 cr be)) (ai (cR 2 (af cy cr (fC (.int 720720)))) (aE 3 (af gj cr (fC (.int 720720))))) (cR 2 (af gj (af cy (Op (af cB ga (fC (.int 69621))) (af cB (fC (.int 13)) ii)) (fC (.int 2147483629))) pc))))) (aq ca))))))
def aZ:Hl:=aI 2 (ai (u9 bm ac (Op (LE bm ac) ac)) (aq (af cy (LE (LE bm be) (af cy (af eW (LE bm ac) ac) (Ps (KK (LE bm be))))) bn)))
def iL:Nat->Hl
 |0=>λ_ _=>LG
 |n+1=>aI 1 (ai (EI (bj (aJ (LP (aW .tup) bm))) (aq ac) aA) (aq (Op ac (Et nH (KK (bC (bf bm) bz (ak (iL n) (KK bm))))))))
def jC:Hl:=aI 1 (ai (EI (bq (bj (aJ (LP (aW .str) bm))) (bq (ao (Q8 (Ps (KK bm)) ac)) (ao (Q6 (Ps (KK bm)) o0)))) (aq db) aA) (aq (af Mr (bC (bf bm) (ao (af cS bm lf)) bm) (Q4 ah))))
def eK:Nat->Hl
 |0=>λ_ _=>LG
 |n+1=>aI 3 (ai (EI (aJ (LP (aW .bl) bm)) (aq db) aA) (ai (EI (aJ (LP (aW .int) bm)) (aq (af Dq (Et nX (KK bm)) (af iE sK ww))) aA) (ai (EI (aJ (LP (aW .str) bm)) (ai (aE 2 pr) (aq (bN (af Dq (Ps (KK bm)) (fC (.int 20))) (af Mr (bC (bf bm) (ao (af cS bm cr)) bm) (Q4 ah))))) aA) (ai (EI (bq (bj (aJ (LP (aW .tup) bm))) (bq (ao (Q6 (Ps (KK bm)) o0)) (ao (Q6 bn pc)))) (aq db) aA) (aq (af Mr (bC (bf bm) (bj (aJ (ak (eK n) (ab bm (KK (Op ca ac)))))) bm) (Q4 ah)))))))
def gu:Hl:=aI 1 (aq (bN (ak (eK 25) (ab bm (KK be))) (af Dq (ak (iL 25) (KK bm)) (fC (.int 40)))))
def d9:Nat->Hl
 |0=>λ_ _=>LG
 |n+1=>aI 1 (ai (EI (aJ (LP (aW .tup) bm)) (aq (Op (Op zn (af m9 At (bC (bf bm) bz (ak (d9 n) (KK bm))))) wn)) aA) (ai (EI (aJ (LP (aW .str) bm)) (aq (Op xz bm)) aA) (aq (Et nI (KK bm)))))
def bL:Hl:=aI 5 (ai (aE 3 (bN (LP (aW .int) bn) (LP (aW .int) ca))) (ai (aE 4 (bN (No (LP (aW .str) bn) (LP (aW .str) ca)) (No (LP (aW .tup) bn) (LP (aW .tup) ca)))) (ai (EI (ao (No bm Db)) (aq (LT (ab ge (KK (R3 (KK (No (nr bn) (nr ca)))))))) aA) (ai (EI (bv (ao (No bm (fC (.str "less")))) (aJ cr)) (aq (LT (ab ge (KK (R3 (KK (Q8 bn ca))))))) aA) (ai (EI (bv (ao (No bm tz)) (bv (aJ (LP (aW .tup) bn)) (aJ (LP (aW .int) ca)))) (aq (cD (ao (jh Dq Eh be ca (Ps (KK bn)))) (LT (ab ge (KK (LE bn ca)))) (LT (ab ci (KK tz))))) aA) (ai (EI (bq (bv (ao (No bm Ch)) (bv (aJ ga) (bj (aJ cr)))) (bv (ao (No bm Ix)) (aJ cr))) (aq (cD (aJ (ak gu (KK (Op bn ca)))) (LT (ab ge (KK (Op bn ca)))) (LT (ab ci (KK AT))))) aA) (aq (LT (ab ci (KK im))))))))))
def dD:Nat->Hl
 |0=>λ_ _=>LG
 |n+1=>aI 5 (ai (EI (ao (No (LE bm be) pi)) (aq (LT (ab ge (KK (LE bm ac))))) aA) (ai (EI (ao (No (LE bm be) sw)) (aq (LT (ab ge (KK (LE bn (LE bm ac)))))) aA) (ai (cj 2 ah) (ai (cb 3 (bf (LE (Q4 (ab (Et dH (KK (Ig bm (fP ac) bE))) (KK (Et dH (KK (LE bm ac)))))) (R3 (KK (No (LE bm be) sB))))) (ai (aE 4 (ak (dD n) (ab cr (KK bn)))) (ai (EI (ao (No (LE ga be) ci)) (aq ga) aA) (cR 2 (LE ga ac))))) (ai (EI (ao (No (LE bm be) sB)) (aq (cD (aJ (ak gu (KK (Q9 (KK ca))))) (LT (ab ge (KK (Q9 (KK ca))))) (LT (ab ci (KK AT))))) aA) (ai (EI (ao (No (LE bm be) BT)) (aq (cD (aJ (LP (aW .int) (LE ca be))) (LT (ab ci (KK im))) (LT (ab ge (KK (Ps (KK (LE ca be)))))))) aA) (aq (ak bL (ab (LE bm be) (ab (LE ca be) (KK (LE ca ac))))))))))))
def lw:Hl:=aI 5 (kB 1 (da (FP 1 (bq (bj (aJ (LP (aW .str) bm))) (ao (Q6 (Ps (KK bm)) (fC (.int 900))))) (Dj (li (Q4 ah))) fE) (da (kFor 2 (qr (af mI (LP (iq ")" ",),") (LP (iq "(" ",(,") bm)) At)) (da (lh 3 (Ig ca (fP (R3 (KK (No (Ig ca bE (fP ac)) (fC (.str "-")))))) bE)) (FP 1 (ao (No ca zn)) kO (FP 1 (bv (ao (No ca wn)) (ao (Q6 (Ps (KK bn)) ac))) (da (nS 4) (fI (LP bS ac) ga)) (FP 1 (ao (No (Ig ca bE (fP ac)) xz)) (fI (LP bS ac) (Ig ca (fP ac) bE)) (FP 1 (bv (ao (Q7 cr Fr)) (bv (ao (Q8 (Ps (KK ca)) (fC (.int 25)))) (ao (af Mr (bC (bf cr) (ao (af cS bm (fC (.str "0123456789")))) bm) (Q4 ah))))) (fI (LP bS ac) (R3 (KK ca))) fE)))))) (da (FP 1 (bq (ao (Q6 (Ps (KK bn)) ac)) (bq (ao (Q7 (Ps (KK (LE bn be))) ac)) (bq (bj (aJ (ak gu (KK (LE (LE bn be) be))))) (ao (Q7 (ak (d9 25) (KK (LE (LE bn be) be))) bm))))) (li (Q4 ah)) fE) m8))))
def gW:Hl:=aI 5 (ai (EI (ao (af Kt ca kt)) (aq (cD (ao (af Mb ga bn)) (Q4 (KK (Q5 bn ga))) (LT (ab kw (KK ga))))) aA) (ai (EI (bq (ao (No bm Id)) (bv (ao (Q8 cr (Ps (KK ca)))) (ao (Q7 (LE (LE ca cr) be) ga)))) (aq (LT (ab wP (KK ga)))) aA) (aq (cD (ao (Q8 cr (Ps (KK ca)))) (ak lw (KK (LE (LE ca cr) ac))) (LT (ab kw (KK ga)))))))
def et:FS:=(ai (aE 5 (fZ (dD 25) (ab (LE bm ac) (KK cr)))) (ai (EI (bq (ao (No (LE ii be) ci)) (ao (No (LE bm be) u8))) (aq (LT (ab ga (KK (LE (Q4 (ab ii (KK (LT (ab dL (KK (ak (d9 25) (KK (LE ii ac))))))))) (R3 (KK (No (LE ii be) ge)))))))) aA) (EI (ao (No (LE bm be) wv)) (aE 0 (LE bm (Op f8 (R3 (KK (af inD (nr (LE ii ac)) (Q4 (ab wp (ab (fC (.str "''")) (KK (fC (.str "()")))))))))))) (EI (bj (aJ (ak jC (KK (LE ii ac))))) (aq (LT (ab ga (KK (LT (ab ci (KK Go))))))) (ai (aE 6 (ak gW (ab (LE bm be) (ab bn (ab ca (ab (Ps (KK ga)) (KK (LE ii ac)))))))) (ai (EI (aJ (LP (aW .tup) sn)) (aq (LT (ab ga (KK sn)))) aA) (ai (cR 3 (LE sn be)) (ai (EI (ao (No (LE bm be) mt)) (cR 4 (LT (ab (LE ii ac) (KK (ak (d9 25) (KK (LE sn be))))))) aA) (aE 0 (LE bm f8))))))))))
def gY:Hl:=aI 7 (ai (cj 3 ah) (ai (cj 4 ah) (ai (bc (ao (Q7 (LE bm be) Fa)) et 100000) (aq (LT (ab ga (KK (LT (ab ci (KK (LE bm ac)))))))))))
def fV:FS:=(ai (aE 4 (kU (LE (ak gY (ab (Q5 (LE bm ac) cr) (ab bn (KK kt)))) ac))) (EI (ao (No (LE ga be) dL)) (ai (c8 1 cr (LE (ak lw (KK (LE ga ac))) be)) (aE 2 gl)) aA))
def lU:FS:=(ai (aE 2 db) (cb 3 (bf (bC (bf (LE bm ac)) (ao (af i9 bm ca)) bm)) fV))
def jJ:Hl:=aI 5 (ai (kA 1 (LE bm be)) (ai (aE 2 gl) (ai (bc (aJ ca) lU 100000) (aq bn))))
def jI:Hl:=aI 5 (ai (u7 3 4 (ak gY (ab (Q5 (LE bm ac) ca) (ab bn (KK kt))))) (aq (LT (ab ca (ab (Q9 (KK cr)) (KK ga))))))
def iN:FS:=(ai (EI (ao (af i9 (LE cr (LP bS ac)) (LE bm ac))) (aq (LT (ab wf (KK (Q9 (KK cr)))))) aA) (ai (aE 4 (LE (ak gY (ab (Q5 (LE bm ac) (LE cr (LP bS ac))) (ab bn (KK kt)))) ac)) (ai (EI (ao (No (LE ga be) ci)) (aq (LT (ab ci (ab (Q9 (KK cr)) (KK (LE ga ac)))))) aA) (cR 3 (LE ga ac)))))
def lA:Hl:=aI 5 (ai (EI (ao (af Mb ca bn)) (aq (LT (ab dL (KK (Q5 bn ca))))) aA) (ai (cj 3 (KK ca)) (ai (bc (ao (af cS (LE cr (LP bS ac)) (Ig cr bE (fP (LP bS ac))))) iN 100000) (aq (LT (ab (fC (.str "ring")) (KK (Q9 (KK cr)))))))))
def cX:Nat->Hl
 |0=>λ_ _=>LG
 |n+1=>aI 2 (ai (EI (aJ (LP jn bn)) (ai (EI (bq (ao (Q7 (LP (aW .tup) bm) (LP (aW .tup) bn))) (ao (Q7 (LP (aW .lst) bm) (LP (aW .lst) bn)))) (aq db) aA) (aq (bN (No (Ps (KK bm)) (Ps (KK bn))) (Et dS (KK (bC (d0 (Ps (KK bn))) bz (ak (cX n) (ab (Q5 bn bm) (KK (Q5 ca bm)))))))))) aA) (ai (EI (aJ (LP (aW .dct) bn)) (ai (EI (bq (bj (aJ (LP (aW .dct) bm))) (ao (Q7 (Ps (KK bm)) (Ps (KK bn))))) (aq db) aA) (aq (Et dS (KK (bC (bf bn) bz (bN (af Mb bm bn) (ak (cX n) (ab (Q5 bn bm) (KK (Q5 ca bm)))))))))) aA) (ai (EI (bq (aJ (LP (aW .bl) bn)) (ao (af Kt bn kt))) (aq (bN (No (LP (aW .bl) bm) (LP (aW .bl) bn)) (No bm bn))) aA) (ai (EI (aJ (LP (aW .int) bn)) (aq (bN (LP (aW .int) bm) (bN (nv (LP (aW .bl) bm)) (No bm bn)))) aA) (aq (bN (LP (aW .str) bm) (No bm bn)))))))
def gT:Hl:=aI 7 (ai (aE 2 lf) (ai (aE 3 (ak aZ (ab bm (KK io)))) (ai (aE 4 (ak aZ (ab bm (KK wE)))) (ai (EI (ao (No cr be)) (ai (aE 5 (Q4 (ab (fC (.str "told")) (ab dL (ab u8 (ab mt (ab kw (ab ci (ab pi (ab sw (ab sB (ab Id (ab wv (KK im)))))))))))))) (aq (Ig (Op (Ig ii (fP ga) bE) (Ig ii bE (fP ga))) bE (fP bn)))) aA) (ai (EI (ao (No cr ac)) (aq (bC (d0 bn) bz (af cB (LE cr (Op ii (af gj bm o0))) (Op ac (af cy bm o0))))) aA) (ai (aE 6 (af cB (LE ca ga) (ak aZ (ab bm (KK (af eW o0 (af cy ga IN))))))) (aq (bC (d0 bn) bz (Op (Op (af cB (LE cr ii) (af cy ii IN)) (LE cr (af cy (Op ii bm) (fC (.int 26))))) IO)))))))))
def dh:Nat->Hl
 |0=>λ_ _=>LG
 |n+1=>aI 5 (ai (aE 3 (ak aZ (ab bm (KK sK)))) (ai (aE 4 (Q4 (ab be (ab ac (ab (LP bS ac) (ab f8 (ab (af iE sK ww) (ab (LP bS (af iE sK ww)) (ab Fr (ab (fC (.str "a")) (ab wp (ab (fC (.str "-")) (ab (af cB (fC (.str "a")) (fC (.int 20))) (KK (LT ah))))))))))))))) (ai (EI (bq (ao (Q8 cr (fC (.int 6)))) (bv (ao (No ca be)) (ao (Q6 cr IN)))) (aq (LE ga (ak aZ (ab bm (KK wE))))) aA) (ai (EI (ao (Q8 cr o0)) (aq (LE bn (ak aZ (ab bm (KK (Ps (KK bn))))))) aA) (aq (Q9 (KK (bC (d0 (ak aZ (ab bm (KK io)))) bz (ak (dh n) (ab bn (ab ca (KK (af eW cr ac)))))))))))))
def iK:Hl:=aI 3 (ai (EI (bv (ao (Q6 ca be)) (ao (Q6 (ak aZ (ab bm (KK pc))) be))) (aq (LT (ab sw (KK (ak aZ (ab bm (KK ca))))))) aA) (aq (LT (ab pi (KK (ak (dh 25) (ab bm (ab bn (KK ac)))))))))
def iM:Hl:=aI 6 (ai (aE 3 (ak aZ (ab bm (KK sK)))) (ai (aE 4 (ak iK (ab bm (ab bn (KK ca))))) (ai (EI (ao (Q8 cr wl)) (aq (LE (Q4 (ab ga (KK (LT (ab BT (KK ga)))))) (af gj cr io))) aA) (ai (aE 5 (ak iK (ab bm (ab bn (KK ca))))) (ai (EI (ao (No cr wl)) (aq (LT (ab sB (KK (Ig (LT (ab ga (KK ii))) bE (fP (ak aZ (ab bm (KK pc))))))))) aA) (aq (LT (ab (LE (Q4 (ab Ix (ab Ch (ab Db (ab (fC (.str "less")) (KK tz)))))) (ak aZ (ab bm (KK wl)))) (ab ga (KK ii))))))))))
def cK:Nat->Hl
 |0=>λ_ _=>LG
 |n+1=>aI 9 (ai (aE 5 (ak aZ (ab bm (KK o0)))) (ai (aE 6 (ak iM (ab bm (ab bn (KK cr))))) (ai (EI (bv (ao (Q6 ca be)) (ao (Q8 ii io))) (ai (aE 7 (LE (Q4 (ab mt (KK Id))) (R3 (KK (bN ga (No (ak aZ (ab bm (KK io))) be)))))) (ai (EI (ao (Q6 (ak aZ (ab bm (KK wl))) be)) (aE 6 (LT (ab pi (KK (LE bn (ak aZ (ab bm (KK (Ps (KK bn)))))))))) aA) (aq (LT (ab IO (ab sn (KK (ak (cK n) (ab bm (ab bn (ab (af eW ca ac) (ab (Op cr ac) (KK ga))))))))))))) aA) (ai (EI (bv (ao (Q6 ca ac)) (ao (Q8 ii (fC (.int 6))))) (ai (aE 8 (ak (cK n) (ab bm (ab bn (ab (af eW ca f8) (ab cr (KK ga))))))) (aq (LT (ab wv (ab sn (ab wT (KK (ak (cK n) (ab bm (ab bn (ab (af eW ca f8) (ab cr (KK ga))))))))))))) aA) (ai (EI (bv (ao (No ii (fC (.int 6)))) (ao (No (ak aZ (ab bm (KK f8))) be))) (aq (LT (ab Fa (KK (LE (Op bn (Q4 (ab im (KK Go)))) (ak aZ (ab bm (KK (Op (Ps (KK bn)) f8))))))))) aA) (aq (LT (ab u8 (KK sn)))))))))
def lI:Hl:=kM 10 (jg 3 (ab (ak gU (ab (ak dN (ab bm (KK bn))) (KK (fC (.int 24))))) (KK be)) (ai (aE 4 (Op pc (ak aZ (ab cr (KK o0))))) (ai (aE 5 (ak gT (ab cr (KK (Op ga f8))))) (ai (eG 6) (ai (eG 7) (ai (cb 8 (d0 ga) (jg 9 (ab (ak gU (ab (Op (ak dN (ab bm (KK (Op (Op bn ac) wT)))) (af cB (fC (.int 977)) wT)) (KK (fC (.int 60))))) (KK be)) (EI (ao (No (ak aZ (ab (aa 9) (KK io))) be)) (c8 6 (LE ii wT) (ak (dh 25) (ab (aa 9) (ab ii (KK f8))))) (c8 7 (LE ii wT) (ak (cK 25) (ab (aa 9) (ab ii (ab (Op ac (ak aZ (ab (aa 9) (KK io)))) (ab be (KK ca)))))))))) (mQ 6 7)))))))
def fR:FS:=(ai (aE 6 (Op (mS (bf cr) bz (LE bm be)) (Et gf (KK (LE bm be))))) (EI (bv (ao (af lj ii cr)) (ao (af Mr (bC (bf (LE ii ac)) (ao (af cS (LE bm be) IO)) bm) (Q4 ah)))) (ai (cR 3 ii) (aE 4 gl)) aA))
def oo:FS:=(ai (aE 4 db) (cb 5 (bf ca) fR))
def jB:Hl:=aI 7 (ai (aE 2 (bC (bf (LP qf (LE bm ac))) bz (ak jI (ab bn (ab ca (KK bm)))))) (ai (cj 3 ah) (ai (aE 4 gl) (ai (bc (aJ ga) oo 100000) (aq cr)))))
def gw:FS:=(ai (aE 6 (LE (ak gY (ab (Q5 (LE bn ac) ca) (ab (fC (.dict [])) (KK (Q9 (KK ga)))))) ac)) (ai (EI (bq (ao (Q7 (LE sn be) kw)) (bq (ao (No ii io)) (ao (No (ak aZ (ab bm (KK wl))) be)))) (aq (LT (ab ca (ab (Q9 (KK ga)) (KK (LE (Q4 (ab sn (KK (LT (ab dL (KK wp)))))) (R3 (KK (No (LE sn be) wP))))))))) aA) (cR 4 (LT (ab (LE sn ac) (KK (ak (d9 25) (KK (ak (dh 25) (ab bm (ab cr (KK ac))))))))))))
def ly:Hl:=aI 7 (ai (cj 4 ah) (ai (cb 5 (d0 wl) gw) (aq (LT (ab ca (ab (LT ah) (KK (LT (ab kw (KK ca))))))))))
def lP:FS:=(ai (aE 8 (ak aZ (ab bm (KK wE)))) (ai (EI (ao (Q8 wT sn)) (aE 7 (ak ly (ab bm (ab bn (ab (LE IO be) (KK ii)))))) aA) (EI (ao (Q7 wT (fC (.int 11)))) (cR 4 IO) aA)))
def jF:Hl:=aI 10 (ai (cj 4 ah) (ai (aE 5 (Et mX (KK (Op (Et gf (KK (LE bn be))) (Et gf (KK (LE bn ac))))))) (ai (aE 6 (ak aZ (ab bm (KK io)))) (ai (cb 7 (bf cr) lP) (ai (EI (bv (ao (No (ak aZ (ab bm (KK io))) be)) (ao (af Ec ga (Q4 ah)))) (ai (aE 9 (ak aZ (ab bm (KK (Ps (KK ga)))))) (qK 4 (Ig ga (fP (aa 9)) bE) (Ig ga bE (fP (aa 9))))) aA) (ai (EI (bv (ao (No (ak aZ (ab bm (KK io))) be)) (ao (af Ec ga (Q4 ah)))) (qM 4 (ak aZ (ab bm (KK (Ps (KK ga))))) (ak aZ (ab bm (KK (Ps (KK ga)))))) aA) (aq ga)))))))
def oE:FS:=(ai (EI (bq (bj (aJ (ak (cX 25) (ab cr (KK (ak jI (ab bm (ab bn (KK (LE cr be)))))))))) (bj (aJ (ak (cX 25) (ab (ak oM (ab bm (KK (LE cr be)))) (KK cr)))))) (aq db) aA) (ai (aE 4 (ak lA (ab bm (ab bn (KK (LE cr be)))))) (EI (bq (bj (aJ (ak (cX 25) (ab (ak lF (ab ca (KK (LE cr be)))) (KK ga))))) (bj (aJ (ak (cX 25) (ab (ak mw (ab bm (KK (LE cr be)))) (KK ga)))))) (aq db) aA)))
def lB:Hl:=aI 5 (ai (cb 3 (bf ca) oE) (aq gl))
def jV:FS:=(jg 7 (ab (ak gU (ab (Op (ak dN (ab bm (KK (Op wE sn)))) (af cB (fC (.int 71)) sn)) (KK (fC (.int 60))))) (KK be)) (ai (aE 8 (ak jF (ab IO (ab bn (ab ga (KK ii)))))) (EI (bv (ao (af kP (ak fT (ab bn (KK (Et dH (KK wT))))) db)) (bj (aJ (ak lB (ab bn (ab ga (KK wT))))))) (aq db) aA)))
def qE:Hl:=aI 9 (l9 1 2 3 lI (ab bm (ab ac (KK (No (af cy (ak dN (ab bm (KK be))) pc) be)))) (ao (No (af cy (af gj (ak dN (ab bm (KK be))) pc) f8) be)) (bf (Q4 (ab (LT (ab (fC (.str "selfish")) (KK (fC (.str "selfish"))))) (ab (LT (ab (fC (.str "ringone")) (KK (fC (.str "ringtwo"))))) (KK (LT (ab (fC (.str "ringtwo")) (KK (fC (.str "ringone")))))))))) ca (LT (ab mt (ab (LT (ab pi (KK cr))) (KK (LT (ab u8 (KK (LT (ab sw (KK be)))))))))) (ai (aE 4 (ak jJ (KK bn))) (ai (aE 5 (ak jB (ab bn (KK ga)))) (ai (EI (bv (ao (Q6 (af cy (ak dN (ab bm (KK be))) pc) be)) (bj (aJ (ak (cX 25) (ab (ak fT (ab bn (KK ii))) (KK gl)))))) (aq db) aA) (ai (cb 6 (d0 (fC (.int 16))) jV) (aq gl))))))
end G
namespace K1
open PySem
structure Sh(d:Ra)(k n:Nat):Prop where
 sh:d.showable=KN
 lv:d.leavesShort 200=KN
 dp:d.depth<=k
 wt:d.weight<=n
def Sh.mono(h:Sh d k n)(hk:k<=k')(hn:n<=n'):Sh d k' n':=⟨h.sh,h.lv,RL h.dp hk,RL h.wt hn⟩
theorem Sh.int(h:i.natAbs<10^40):Sh (.int i) 0 200:=by
 have l:i.natAbs.log2<150:=by
  by_cases h0:i.natAbs=0
  .rw[h0];decide
  .exact(W0 h0).mpr (Ww h (by decide))
 refine⟨?_,?_,Rn _,?_⟩
 .exact decide_eq_true (by lia)
 .refine decide_eq_true ?_
  have e:=int_text_length_le10  (by decide) h;show (Rb _).length<=200;rw[PySem.ofString_length]
  lia
 .show (if i == 0 then 0 else i.natAbs.log2+1)<=200<;>grind
theorem Sh.str{x:Str}{n:Nat}(h:∀c∈x.cps.toList,c<128)(hn:x.length<=n):Sh (.str x) 0 n:=by
 refine⟨rfl,?_,Rn _,hn⟩;exact Rq.mpr λc hc=>decide_eq_true (Ww (h c hc) (by decide))
structure L6(ds:List Ra)(k n:Nat):Prop where
 sh:Xs ds=KN
 lv:WL 200 ds=KN
 dp:Tr ds<=k
 wt:T8 ds<=n
def L6.nil(k n:Nat):L6 [] k n:=⟨rfl,rfl,Sj _,Sj _⟩
def L6.cons(h:Sh d k n)(t:L6 ds k m):L6 (d::ds) k (n+1+m):=by
 refine⟨?_,?_,?_,?_⟩
 .show (d.showable&&Xs ds)=KN
  rw[h.sh,t.sh];rfl
 .show (d.leavesShort 200&&WL 200 ds)=KN
  rw[h.lv,t.lv];rfl
 .exact Nat.max_le.mpr ⟨h.dp,t.dp⟩
 .show d.weight+1+T8 ds<=n+1+m
  have:=h.wt;have:=t.wt
  lia
theorem L6.of:∀{ds:List Ra}{k:Nat}{f:Ra->Nat},(∀d∈ds,Sh d k (f d))->L6 ds k ((ds.map λd=>f d+1).sum)
 |[],k,f,_=>L6.nil _ _
 |d::r,k,f,h=>by
  have q:=L6.of   λx hx=>h x (Rc _ hx)
  have z:=L6.cons (h d Rf) q<;>simp_all
theorem Sh.tuple(h:L6 ds k n):Sh (.tuple ds) (k+1) n:=⟨h.sh,h.lv,Nat.succ_le_succ h.dp,h.wt⟩
def jf(hs:∀c∈s.cps.toList,c<128)(h:has s x=KN):∀c∈x.cps.toList,c<128:=λc hc=>
 hs c (of_decide_eq_true (Rq.mp h c hc))
def kH:∀c∈G9.cps.toList,c<128:=by decide +kernel
def zjt:∀c∈HJ.cps.toList,c<128:=by decide +kernel
theorem uc:∀(n:Nat) (d:Ra),aC n d=KN->Sh d n (201*(aH n d).toNat)/\1<=aH n d
 |0,d,h=>by
  cases d with
  |int i=>
   have h':=of_decide_eq_true (p:=(if i<0 then -i else i)<=10^18) h;refine⟨(Sh.int ?_).mono (Rn _) (by show 200<=201*(1:Int).toNat;decide),T9 1⟩
   have:i.natAbs<=10^18:=by split at h' <;> lia
   exact R5 this (by decide)
  |str x=>
   have h':(decide (x.length<=20)&&has G9 x)=KN:=h;rw[Ro] at h';have:=of_decide_eq_true h'.1;exact⟨(Sh.str (n:=20) (jf kH h'.2) this).mono (Rn _) (by show 20<=201*(1:Int).toNat;decide),T9 1⟩
  |_=>cases h
 |n+1,d,h=>by
  cases d with
  |int i=>
   have h':=of_decide_eq_true (p:=(if i<0 then -i else i)<=10^18) h;refine⟨(Sh.int ?_).mono (Sj _) (by show 200<=201*(1:Int).toNat;decide),T9 1⟩
   have:i.natAbs<=10^18:=by split at h' <;> lia
   exact R5 this (by decide)
  |str x=>
   have h':(decide (x.length<=20)&&has G9 x)=KN:=h;rw[Ro] at h';have:=of_decide_eq_true h'.1;exact⟨(Sh.str (n:=20) (jf kH h'.2) this).mono (Sj _) (by show 20<=201*(1:Int).toNat;decide),T9 1⟩
  |tuple ds=>
   have h':(decide (ds.length<=8)&&ds.all (aC n))=KN:=h;rw[Ro] at h';have ha:=Rq.mp h'.2;have q:=L6.of (ds:=ds) (k:=n) (f:=λx=>201*(aH n x).toNat) λx hx=>(uc n x (ha x hx)).1
   have key:∀l:List Ra,(∀x∈l,1<=aH n x)->0<=(l.map (aH n)).sum/\(l.map λx=>201*(aH n x).toNat+1).sum<=201*((l.map (aH n)).sum).toNat+l.length:=by
    intro l
    induction l with
    |nil=>intro _;exact⟨by simp,by simp⟩
    |cons x r ih=>
     intro hx;have h1:=hx x Rf;have h2:=ih λy hy=>hx y (Rc _ hy);simp only[R7,Xl,Se]
     lia
   have kk:=key ds λx hx=>(uc n x (ha x hx)).2;have hl:=of_decide_eq_true h'.1;have e:aH (n+1) (.tuple ds)=1+(ds.map (aH n)).sum:=rfl;refine⟨(Sh.tuple q).mono (Rn _) ?_,?_⟩
   .rw[e];lia
   .rw[e];lia
  |_=>cases h
end K1
namespace G
open L2 D
open K1 (has HJ G9 single aC aH isName ay Gf)
mutual
def MZ:Ra->Bool
 |.str x=>decide (x.length<=60000)&&x.cps.toList.all λc=>decide (c<128)
 |.tuple ds=>jq ds
 |_=>KN
def jq:List Ra->Bool
 |[]=>KN
 |d::r=>MZ d&&jq r
end
def Sm(d:Ra):Prop:=MZ d=KN
def Sm.both(h:Sm (.str x)):x.length<=60000/\∀c∈x.cps.toList,c<128:=by
 have h':=by
  have:MZ _=KN:=h
  rw[MZ] at this<;>omega
 rw[Ro,Rq] at h';exact⟨of_decide_eq_true h'.1,λc hc=>of_decide_eq_true (h'.2 c hc)⟩
theorem Sm.str(h:Sm (.str x)):x.cps.size<=60000:=h.both.1
def Sm.mkS(h:x.length<=60000)(h2:∀c∈x.cps.toList,c<128):Sm (.str x):=by
 show MZ _=KN;rw[MZ,Ro,Rq];exact⟨decide_eq_true h,λc hc=>decide_eq_true (h2 c hc)⟩
theorem xU:∀{ds:List Ra}{d:Ra},jq ds=KN->d∈ds->MZ d=KN
 |e::r,d,h,hd=>by
  have h':(MZ e&&jq r)=KN:=by simpa[jq] using h
  rw[Ro] at h'
  rcases Ru.mp hd with z|z
  .simp_all
  .exact xU h'.2 z
def Sm.part(h:Sm (.tuple ds))(hd:d∈ds):Sm d:=xU (by simpa[Sm,MZ] using h) hd
theorem yU:∀{ds:List Ra},(∀d∈ds,Sm d)->jq ds=KN
 |[],_=>rfl
 |d::r,h=>by
  have h1:MZ d=KN:=h d Rf;simp[jq,h1,yU  λx hx=>h x (Rc _ hx)]
def Sm.tup(h:∀d∈ds,Sm d):Sm (.tuple ds):=by simp[Sm,MZ,yU h]
def whole:Ra->Bool
 |.int _=>KN
 |_=>Lf
def j8(x:Ra)(T:Tp):eZ [.d x] T=Iv (.bool (whole x),T):=by cases x <;> rfl
def wO(y x:Str):(D.signs x).all (ua y)=has y x:=by
 unfold D.signs has;rw[ZP]
 congr 1
 funext c;exact zwn y c
def uW(T:Tp)(h:x.length<=Rp):gB [.d (.str x),.d (.str y)] T=Iv (.bool (has y x),T):=by
 have hc:bK _ (af inD (aa 0) (aa 2)) [Iv (.d (.str x)),Iv (.d (.str y))] _ T=Iv ((D.signs x).map λd=>.bool (ua y d),T):=en λd hd=>by
  obtain⟨c,_,rfl⟩:=zfp hd;rfl
 simp[gB,h,hc,wO]
def zju(T:Tp)(h:Sm d):lH [.d d] T=Iv (.bool (single d),T):=by
 cases d with
 |str x=>
  have hz:x.length<=sizeLine:=RL h.str (by decide);have hh:∀T,gB [.d _,.d (.str "abcdefghijklmnopqrstuvwxyz0123456789-")] T=Iv (.bool (has G9 x),T):=λT=>uW T hz;have e:single (.str x)=(decide _&&has G9 x):=rfl;have hi:bo .str .str=KN:=rfl
  by_cases hk:x.length<=20
  .have IB:(x.length:Int)<=20:=by lia
   simp[lH,j8,whole,hh,hz,hi,e,hk,IB]
  .have IB:¬(x.length:Int)<=20:=by lia
   simp[lH,j8,whole,hz,hi,e,hk,IB]
 |_=>rfl
def kr(h:kd d=.tup):∃ds,d=.tuple ds:=by cases d <;> first|simp_all|cases h
def tj(h:kd d≠.tup):bo (kd d) .tup=Lf:=by
 revert h
 cases kd d <;> simp[bo]
def vQ(h:kd d≠.tup):aC n d=single d:=by cases d <;> first|(cases n <;> rfl)|exact absurd rfl h
def rF(h:kd d≠.tup):aH n d=1:=by cases d <;> first|(cases n <;> rfl)|exact absurd rfl h
def BX(h:Gf 0 d=KN):kd d≠.tup:=by
 intro z
 cases d <;> first|cases h;done|cases z
theorem ku:bo .tup .tup=KN:=rfl
theorem z8:∀(n k:Nat) (d:Ra) (T:Tp),Sm d->n<k->fS k [.d d,.d (.int n)] T=Iv (.bool (aC n d),T)
 |n,0,d,T,_,hk=>absurd hk (SD _)
 |n,k+1,d,T,hg,hk=>by
  by_cases ht:kd d=.tup
  .obtain⟨ds,rfl⟩:=kr ht
   cases n with
   |zero=>kernel_rfl
   |succ n=>
    have e:aC (n+1) (.tuple ds)=(decide _&&ds.all (aC n)):=rfl
    have h0:=by omega
    have CG:¬(n:Int)+1=0:=by lia
    by_cases h8:ds.length<=8
    .have GC:¬(8:Int)<(ds.length:Int):=by lia
     have hc:bK bz (ak (fS k) (ab (aa 0) (ab (af eW (aa 2) (fC (.int 1))) ah))) [Iv (.d (.tuple ds)),Iv (.d (.int ((n+1:Nat):Int)))] ds T=Iv (ds.map λx=>.bool (aC n x),T):=en λx hx=>by
      have:=z8 n k x T (hg.part hx) (by lia)<;>simp_all
     simp[fS,ku,e,h0,CG,h8,GC] at hc ⊢;simp[hc]
    .have GC:(8:Int)<(ds.length:Int):=by lia
     simp[fS,ku,e,h0,CG,h8,GC]
  .simp[fS,tj ht,vQ ht,zju T hg]
theorem A3:∀(n k:Nat) (d:Ra) (T:Tp),Gf n d=KN->n<k->iU k [.d d] T=Iv (.int (aH n d),T)
 |n,0,d,T,_,hk=>absurd hk (SD _)
 |n,k+1,d,T,hg,hk=>by
  by_cases ht:kd d=.tup
  .cases n with
   |zero=>exact absurd ht (BX hg)
   |succ n=>
    obtain⟨ds,rfl⟩:=kr ht;have GX:=hg;have e:aH (n+1) (.tuple ds)=1+(ds.map _).sum:=rfl
    have hc:bK _ (ak (iU k) (ab (aa 0) ah)) [Iv (.d (.tuple ds))] ds T=Iv (ds.map λx=>.int (aH n x),T):=en λx hx=>by
     have:=A3 n k x T (Rq.mp GX x hx) (by lia)<;>simp_all
    simp[iU,ku,e,hc]
  .simp[iU,tj ht,rF ht]
def zV(T:Tp)(h:Sm d):jM [.d d] T=Iv (.bool (ay d),T):=by
 have h1:=z8 4 25 d T h (by decide);have KW:fS 25 [.d d,.d (.int 4)] T=Iv _:=h1;have e:ay d=(aC 4 d&&decide _):=rfl
 cases hb:aC 4 d with
 |false=>simp[jM,KW,e,hb]
 |true=>
  have h2:=A3 4 25 d T (K1.sj 4 d hb) (by decide);simp[jM,KW,h2,e,hb]
end G
namespace D
open L2
noncomputable def cd(x:Str):List Nat:=x.cps.toList
def dZ(h:cd x=cd y):x=y:=by
 obtain⟨x⟩:=x;obtain⟨y⟩:=y
 have h':x.toList=y.toList:=h<;>simp_all
theorem cU(x:Str):(cd x).length=x.length :=rfl
def ji(x y:Str):cd (x++y)=cd x++cd y:=cps_toList_append x y
theorem wW{α:Type}(xs:List α)(a:Nat):∀k:Nat,(SH k).filterMap (λm=>xs[a+m]?)=(xs.drop a).take k
 |0=>by simp
 |k+1=>by
  rw[List.range_succ,List.filterMap_append,wW xs a k,XH];simp only[Vk,List.filterMap_nil,List.getElem?_drop]
  cases xs[a+k]? <;> rfl
def sH(h0:0<=i)(h1:0<=j):cd (Sy x (Iv i) (Iv j))=((cd x).drop i.toNat).take (j.toNat-i.toNat):=by
 obtain⟨a,rfl⟩:=Wi h0;obtain⟨b,rfl⟩:=Wi h1;rw[VQ,VQ];have hl:x.cps.toList.length=x.length:=SJ;obtain⟨p,hp⟩:∃p,min a x.length=p:=⟨_,rfl⟩;obtain⟨q,hq⟩:∃q,min b x.length=q:=⟨_,rfl⟩
 have e:Sg (Iv (a:Int)) (Iv (b:Int)) 1 x.length=(SH (q-p)).map λk=>p+k:=by
  have m:∀c:Nat,max 0 (min (c:Int) x.length)=((min c x.length:Nat):Int):=λc=>by
   rcases XS c x.length with h|h
   .rw[UI h,Int.min_eq_left (ZU.mpr h),Yh (UL c)]
   .rw[Vc h,Int.min_eq_right (ZU.mpr h),Yh (UL _)]
  unfold Sg sliceRange;simp only[show (1:Int)>0 by decide,if_true,Int.not_lt.mpr (UL a),Int.not_lt.mpr (UL b),if_false];rw[m,m,hp,hq]
  have ec:(if (p:Int)<q then ((q:Int)-p+1-1) / 1 else 0).toNat=q-p:=by
   split
   .simp_all
   .simp_all
  rw[ec];refine RV λk _=>?_;rw[Int.one_mul];rfl
 have fin:(x.cps.toList.drop p).take (q-p)=((cd x).drop a).take (b-a):=by
  unfold cd
  rcases XS a x.length with hi|hi
  .rw[UI hi] at hp
   subst hp
   rcases XS b x.length with hj|hj
   .rw[←hq,UI hj]
   .rw[←hq,Vc hj,S9 (by simp_all),S9 (by rw[Tc,hl];exact Nat.sub_le_sub_right hj _)]
  .rw[←hp,Vc hi,Sr (ZK hl),Sr (hl ▸ hi)]
   rw[Zs,Zs]
 unfold Sy;split
 .rename_i h
  have h':(Sg (Iv (a:Int)) (Iv (b:Int)) 1 x.length).length=x.length:=by simpa using h
  rw[e,R4,List.length_range] at h';rw[←fin];show x.cps.toList=_;rw[h',S9 (by rw[Tc,hl];exact Nat.sub_le _ _)];have q1:q<=x.length:=hq ▸ Nat.min_le_right _ _
  by_cases hz:x.length=0
  .rw[List.length_eq_zero_iff.mp (hl.trans hz),List.drop_nil]
  .rw[show p=0 by omega];rfl
 .rw[←fin,←wW]
  show List.filterMap _ (Sg _ _ 1 x.length)=_;rw[e,List.filterMap_map]
  congr 1
  funext m;simp
def lK(h0:0<=i)(h1:i<=(x.length:Int)):cd (Sy x (Iv i) LG)=(cd x).drop i.toNat:=by
 rw[slice_from_eq h0 h1 rfl];refine S9 ?_;rw[Tc];have:x.cps.toList.length=x.length:=SJ;omega
def aX(c:List Nat):List (List Nat)->List Nat
 |[]=>[]
 |[x]=>x
 |x::y::r=>x++c++aX c (y::r)
theorem my(z:Str):∀ys:List Str,cd (Wc z ys)=aX (cd z) (ys.map cd)
 |[]=>rfl
 |[x]=>rfl
 |x::y::r=>by
  have ih:=my z (y::r);show cd (_++Wc z _)=_;rw[ji,ji,ih];rfl
def gz(c x:List Nat)(r:List (List Nat)):aX c (x::r)=x++(r.map (c++·)).flatten:=by
 induction r generalizing x with
 |nil=>simp[aX]
 |cons y r ih=>
  show x++c++aX c _=_<;>simp_all
def vR:Ti x ⟨#[c]⟩=decide ((cd x).head? = Iv c):=by
 unfold Ti
 have hl:(⟨#[c]⟩:Str).length=1:=rfl;obtain⟨⟨l⟩⟩:=x
 cases l with
 |nil=>rfl
 |cons a r=>
  have h1:(0+1<=(⟨⟨a::r⟩⟩:Str).length):=by show 0+1<=(a::r).length;simp
  show XT _ _ 0=decide ((a::r).head? = Iv c)
  have e:(⟨⟨a::r⟩⟩:Str).cps.extract 0 (0+(⟨#[c]⟩:Str).length) = #[a]:=by simp_all
  unfold XT;rw[e,Sl];simp
end D
namespace G
open L2 D
open K1 (has HJ G9 single aC aH isName ay Gf)
noncomputable def mk(l:List Nat):Str:=⟨l.toArray⟩
theorem cO(l:List Nat):cd (mk l)=l :=rfl
theorem uN(x:Str):mk (cd x)=x :=rfl
theorem bW(l:List Nat):(mk l).length=l.length :=rfl
def dg(m:Nat):List Nat:=(Vn 10 m).map Z6
def gm(m:Nat):U1 (dg m):=λc hc=>by
 obtain⟨ch,HB,e⟩:=Rl.mp hc;rw[←e];exact digit_range (Nat.isDigit_of_mem_toDigits (by decide) (by decide) HB)
def ij(m:Nat):SN (dg m)=m:=W.KIN.val_back m
def kX(m:Nat):dg m≠[]:=λe=>by
 have h:=toDigits_len_ge 10 m
 rw[List.map_eq_nil_iff.mp e] at h<;>simp_all
def kC{m:Nat}(h:m<=10^18):(dg m).length<=19:=by
 unfold dg;rw[R4];exact toDigits_len_pow (by decide) (by decide) (R5 h (by decide))
noncomputable def nc:Int->List Nat
 |.ofNat m=>dg m
 |.negSucc m=>45::dg (m+1)
def Bg(i:Int):cd (Rb (toString i))=nc i:=by
 cases i with
 |ofNat m=>exact W.KIN.signs_num m
 |negSucc m=>
  have e:toString (Int.negSucc m)="-"++toString (m+1):=rfl;unfold cd;rw[W1]
  simp_all
  rfl
def j3(i:Int):∀c∈nc i,c=45\/(48<=c/\c<=57):=by
 cases i with
 |ofNat m=>exact λc hc=>.inr (gm m c hc)
 |negSucc m=>
  intro c hc
  rcases Ru.mp hc with h|h
  .exact .inl h
  .exact .inr (gm _ c h)
def Bf(i:Int):nc i≠[]:=by
 cases i with
 |ofNat m=>exact kX m
 |negSucc m=>exact λh=>nomatch h
def lM(h:single (.int i)=KN):i.natAbs<=10^18:=by have h':=of_decide_eq_true h<;>lia
def ul(h:single (.int i)=KN):(nc i).length<=20:=by
 have h:=lM h
 cases i with
 |ofNat m=>
  have:=kC (m:=m) h;show (dg m).length<=20
  lia
 |negSucc m=>
  have:=kC (m:=m+1) h;show (dg _).length+1<=20
  lia
def cz(h:single d=KN):(∃i,d=.int i)\/∃x,d=.str x:=by cases d <;> first|exact .inl ⟨_,rfl⟩|exact .inr ⟨_,rfl⟩|cases h
def bZ(h:aC n d=KN):single d=KN\/∃m ds,n=m+1/\d=.tuple ds/\ds.length<=8/\∀x∈ds,aC m x=KN:=by
 by_cases k:kd d=.tup
 .obtain⟨ds,rfl⟩:=kr k
  cases n with
  |zero=>cases h
  |succ m=>
   right;have h':(decide _&&ds.all _)=KN:=h;rw[Ro] at h';exact⟨m,ds,rfl,rfl,of_decide_eq_true h'.1,Rq.mp h'.2⟩
 .left
  rw[vQ k] at h;exact h
def g9(h:a≠[]):(a++b).head? = a.head?:=by cases a <;>simp_all
def zjv(h:nc i=nc j):i=j:=by
 cases i with
 |ofNat m=>
  cases j with
  |ofNat k=>
   have h':dg m=dg k:=h;have:=congrArg SN h';rw[ij,ij] at this;rw[this]
  |negSucc k=>
   have h':dg m=45::dg _:=h;have:=gm m 45 (by simp_all);omega
 |negSucc m=>
  cases j with
  |ofNat k=>
   have h':45::dg _=dg k:=h;have:=gm k 45 (by rw[←h'];exact Rf);omega
  |negSucc k=>
   have h':=h;have:=congrArg SN (VZ h').2
   rw[ij,ij] at this<;>simp_all
def AS{p:Nat->Bool}{a b r s:List Nat}(ha:∀c∈a,p c=Lf)(hb:∀c∈b,p c=Lf)(hr:∀c,r.head? = Iv c->p c=KN)(hs:∀c,s.head? = Iv c->p c=KN)(h:a++r=b++s):a=b/\r=s:=by
 have key:∀{a r:List Nat},(∀c∈a,p c=Lf)->(∀c,r.head? = Iv c->p c=KN)->(a++r).takeWhile (λc=>!p c)=a:=λ{a r} ha hr=>by
  simp_all
  cases r <;>simp_all
 have e:=congrArg (List.takeWhile λc=>!p c) h
 rw[key ha hr,key hb hs] at e<;>simp_all
def zjw(h:has G9 x=KN):cd (reprText x)=39::(cd x++[39]):=by
 have hq:=λc hc=>of_decide_eq_true (Rq.mp h c hc)
 have DL:(39)∉G9.cps.toList:=by decide +kernel
 have q:reprQuote x=39:=by
  unfold reprQuote
  have:=λe=>DL (hq 39 (by simpa[cd] using e))<;>simp_all
 have one:∀c∈G9.cps.toList,W2 39 c=[c]:=by decide +kernel
 have fold:∀(l:List Nat) (acc:Array Nat),(∀c∈l,c∈G9.cps.toList)->(l.foldl (λout c=>out++(W2 39 c).toArray) acc).toList=acc.toList++l:=λl=>by
  induction l <;>simp_all
 unfold reprText cd;rw[q];rw[XR,←Array.foldl_toList,fold _ #[39] hq];rfl
def tl(f:Ra->List Nat)(ds:List Ra)(r:List Nat):List Nat:=(ds.map λd=>44::32::f d).flatten++41::r
noncomputable def J7:Nat->Ra->List Nat
 |n+1,.tuple []=>[40,41]
 |n+1,.tuple [d]=>40::(J7 n d++[44,41])
 |n+1,.tuple (d::e::r)=>40::(J7 n d++tl (J7 n) (e::r) [])
 |0,.tuple _=>[]
 |_,.int i=>nc i
 |_,.str x=>39::(cd x++[39])
 |_,_=>[]
def qa(n:Nat)(i:Int):J7 n (.int i)=nc i:=by cases n <;> rfl
def pZ(n:Nat)(x:Str):J7 n (.str x)=39::(cd x++[39]):=by cases n <;> rfl
theorem vB:∀ds:List Ra,Yy ds=ds.map U2
 |[]=>rfl
 |d::r=>by simp[Yy,vB r]
def lL(h:single (.str x)=KN):has G9 x=KN:=by have h':(decide _&&has G9 x)=KN:=h<;>simp_all
def zjx(f:Ra->List Nat)(d:Ra)(ds:List Ra):aX [44,32] ((d::ds).map f)++[41]=f d++tl f ds []:=by
 rw[R7,gz,Sk,U3];rfl
theorem rR:∀(n:Nat) (d:Ra),aC n d=KN->cd d.shown=J7 n d
 |n,d,h=>by
  rcases bZ h with h1|⟨m,ds,rfl,rfl,h8,hb⟩
  .rcases cz h1 with⟨i,rfl⟩|⟨x,rfl⟩
   .rw[qa,←Bg]
    kernel_rfl
   .rw[pZ,←zjw (lL h1)]
    kernel_rfl
  .have ih:ds.map (λd=>cd d.shown)=ds.map (J7 m):=RV λd hd=>rR m d (hb d hd)
   have q1:cd "("=[40]:=rfl;have q2:cd ", "=[44,32]:=rfl
   have q3:cd ",)"=[44,41]:=by decide +kernel
   have q4:cd ")"=[41]:=by decide +kernel
   have e:(Th ds).shown=tupleText (ds.map U2):=by
    simp only[U2,vB]
   rw[e];unfold tupleText;rw[ji,ji,my,q1,q2,Sk,R4];have e2:ds.map (cd ∘ U2)=ds.map (J7 m):=ih;rw[e2]
   match ds with
   |[]=>rfl
   |[d]=>
    kernel_rfl
   |d::e::r=>
    show [40]++aX [44,32] _++cd ")"=40::_;rw[q4,←zjx];kernel_rfl
termination_by n=>n
def Mp(r:List Nat):Prop:=∀c,r.head? = Iv c->c=44\/c=41
def CW(c:Nat):Bool:=decide (c=44)||decide (c=41)
def BI(h:Mp r):∀c,r.head? = Iv c->CW c=KN:=λc hc=>by
 rcases h c hc with z|z <;> simp[CW,z]
def jU(n:Nat)(h:aC n d=KN):J7 n d≠[]/\(J7 n d).head?≠Iv 41/\(J7 n d).head?≠Iv 32/\((J7 n d).head? = Iv 40↔kd d=.tup)/\((J7 n d).head? = Iv 39↔kd d=.str):=by
 rcases bZ h with h1|⟨m,ds,rfl,rfl,h8,hb⟩
 .rcases cz h1 with⟨i,rfl⟩|⟨x,rfl⟩
  .rw[qa]
   have hh:=λc hc=>j3 i c (XU hc);refine⟨Bf i,λz=>by simp_all,λz=>by simp_all,⟨λz=>by simp_all,λz=>by simp_all⟩,⟨λz=>by simp_all,λz=>by simp_all⟩⟩
  .rw[pZ]<;>simp_all
 .match ds with
  |[]=>simp[J7]
  |[d]=>simp[J7]
  |d::e::r=>simp[J7]
theorem Ae{f:Ra->List Nat}{P:Ra->Prop}(hf:∀a b r s,P a->P b->Mp r->Mp s->f a++r=f b++s->a=b/\r=s):∀(ds es:List Ra) (r s:List Nat),(∀d∈ds,P d)->(∀d∈es,P d)->tl f ds r=tl f es s->ds=es/\r=s
 |[],[],r,s,_,_,h=>⟨rfl,(VZ h).2⟩
 |[],e::es,r,s,_,_,h=>by simp[tl] at h
 |d::ds,[],r,s,_,_,h=>by simp[tl] at h
 |d::ds,e::es,r,s,hd,he,h=>by
  have h':=by simpa[tl] using h
  have beh:∀ds r,Mp (tl f ds r):=λds r c hc=>by
   cases ds with
   |nil=>cases hc;exact .inr rfl
   |cons=>cases hc;exact .inl rfl
  obtain⟨e1,e2⟩:=hf d e _ _ (hd d Rf) (he e Rf) (beh _ _) (beh _ _) h'
  obtain⟨e3,e4⟩:=Ae hf ds es r s (λx hx=>hd x (Rc _ hx)) (λx hx=>he x (Rc _ hx)) e2<;>simp_all
def AY(f:Ra->List Nat)(ds:List Ra)(r:List Nat):Mp (tl f ds r):=λc hc=>by
 cases ds with
 |nil=>cases hc;exact .inr rfl
 |cons=>cases hc;exact .inl rfl
theorem zN:∀(n:Nat) (a b:Ra) (r s:List Nat),aC n a=KN->aC n b=KN->Mp r->Mp s->J7 n a++r=J7 n b++s->a=b/\r=s
 |n,a,b,r,s,ha,hb,hr,hs,h=>by
  have h1:=jU n ha;have h2:=jU n hb
  have hh:(J7 n a).head? = (J7 n b).head?:=by
   have:=congrArg WC h;rw[g9 h1.1,g9 h2.1] at this;exact this
  have Ci:kd a=.tup↔kd b=.tup:=by rw[←h1.2.2.2.1,←h2.2.2.2.1,hh]
  have k39:kd a=.str↔kd b=.str:=by rw[←h1.2.2.2.2,←h2.2.2.2.2,hh]
  rcases bZ ha with g1|⟨m,ds,rfl,rfl,h8,hd⟩
  .rcases cz g1 with⟨i,rfl⟩|⟨x,rfl⟩
   .rcases bZ hb with g2|⟨m,es,rfl,rfl,h8,he⟩
    .rcases cz g2 with⟨j,rfl⟩|⟨y,rfl⟩
     .rw[qa,qa] at h
      have nn:∀i,∀c∈nc i,CW c=Lf:=λi c hc=>by
       have:=j3 i c hc;simp[CW];omega
      obtain⟨e1,e2⟩:=AS (nn i) (nn j) (BI hr) (BI hs) h;exact⟨by rw[zjv e1],e2⟩
     .cases k39.mpr rfl
    .cases Ci.mpr rfl
   .rcases bZ hb with g2|⟨m,es,rfl,rfl,h8,he⟩
    .rcases cz g2 with⟨j,rfl⟩|⟨y,rfl⟩
     .cases k39.mp rfl
     .rw[pZ,pZ] at h
      have h':cd x++39::r=cd y++39::s:=by simpa using h
      have CI:∀{x:Str},single (.str x)=KN->∀c∈cd x,decide (c=39)=Lf:=λ{x} hx c hc=>by
       have DL:(39:Nat)∉G9.cps.toList:=by decide +kernel
       have:=of_decide_eq_true (Rq.mp (lL hx) c hc);exact decide_eq_false λz=>DL (z ▸ this)
      obtain⟨e1,e2⟩:=AS (p:=λc=>decide (c=39)) (CI g1) (CI g2) (λc hc=>by cases hc;rfl) (λc hc=>by cases hc;rfl) h';exact⟨by rw[dZ e1],(VZ e2).2⟩
    .cases Ci.mpr rfl
  .obtain⟨es,rfl⟩:=kr (Ci.mp rfl)
   have he:∀x∈es,aC m x=KN:=by
    rcases bZ hb with g2|⟨m',IM,e,e',_,he⟩
    .rcases cz g2 with⟨j,z⟩|⟨y,z⟩ <;> cases z
    .cases e;cases e';exact he
   have ih:∀a b r s,aC m a=KN->aC m b=KN->Mp r->Mp s->J7 m a++r=J7 m b++s->a=b/\r=s:=zN m
   have b1:∀r:List Nat,Mp (44::r):=λr c hc=>by cases hc;exact .inl rfl
   match ds,es,hd,he,h with
   |[],[],_,_,h=>exact⟨rfl,by simpa[J7] using h⟩
   |[],[e],_,he,h=>
    have h':41::r=J7 m e++44::41::s:=by simpa[J7] using h
    have hz:=jU m (he e (by simp));have:=congrArg WC h';rw[g9 hz.1] at this;exact absurd this.symm hz.2.1
   |[],e::e2::es,_,he,h=>
    have h':41::r=J7 m e++(tl (J7 m) (e2::es) []++s):=by simpa[J7] using h
    have hz:=jU m (he e (by simp));have:=congrArg WC h';rw[g9 hz.1] at this;exact absurd this.symm hz.2.1
   |[d],[],hd,_,h=>
    have h':J7 m d++44::41::r=41::s:=by simpa[J7] using h
    have hz:=jU m (hd d (by simp));have:=congrArg WC h';rw[g9 hz.1] at this;exact absurd this hz.2.1
   |d::d2::ds,[],hd,_,h=>
    have h':J7 m d++(tl (J7 m) (d2::ds) []++r)=41::s:=by simpa[J7] using h
    have hz:=jU m (hd d (by simp));have:=congrArg WC h';rw[g9 hz.1] at this;exact absurd this hz.2.1
   |[d],[e],hd,he,h=>
    have h':J7 m d++44::41::r=J7 m e++44::41::s:=by simpa[J7] using h
    obtain⟨e1,e2⟩:=ih d e _ _ (hd d (by simp)) (he e (by simp)) (b1 _) (b1 _) h';simp at e2;exact⟨by rw[e1],e2⟩
   |[d],e::e2::es,hd,he,h=>
    have h':J7 m d++44::41::r=J7 m e++(44::32::(J7 m e2++((es.map λd=>44::32::J7 m d).flatten++41::s))):=by simpa[J7,tl] using h
    obtain⟨_,e2⟩:=ih d e _ _ (hd d (by simp)) (he e (by simp)) (b1 _) (b1 _) h';simp at e2
   |d::d2::ds,[e],hd,he,h=>
    have h':J7 m d++(44::32::(J7 m d2++((ds.map λd=>44::32::J7 m d).flatten++41::r)))=J7 m e++44::41::s:=by simpa[J7,tl] using h
    obtain⟨_,e2⟩:=ih d e _ _ (hd d (by simp)) (he e (by simp)) (b1 _) (b1 _) h';simp at e2
   |d::d2::ds,e::e2::es,hd,he,h=>
    have h':J7 m d++tl (J7 m) (d2::ds) r=J7 m e++tl (J7 m) (e2::es) s:=by simpa[J7,tl] using h
    obtain⟨e1,e3⟩:=ih d e _ _ (hd d (by simp)) (he e (by simp)) (AY _ _ _) (AY _ _ _) h';obtain⟨e4,e5⟩:=Ae (P:=λd=>aC m d=KN) ih (d2::ds) (e2::es) r s (λx hx=>hd x (Rc _ hx)) (λx hx=>he x (Rc _ hx)) e3;exact⟨by rw[e1,e4],e5⟩
termination_by n=>n
def zjy(ha:aC 4 a=KN)(hb:aC 4 b=KN)(h:a.shown=b.shown):a=b:=by
 have h':=congrArg cd h;rw[rR 4 a ha,rR 4 b hb] at h';exact(zN 4 a b [] [] ha hb (λc hc=>by cases hc) (λc hc=>by cases hc) (by rw[h'])).1
open K1 (has HJ G9 single aC aH isName ay Gf Sh L6)
theorem ur:bo .str .str=KN:=rfl
theorem zjz:bo .tup .str=Lf:=rfl
theorem zka:bo .str .tup=Lf:=rfl
theorem zkb:bo .int .tup=Lf:=rfl
theorem zkc:bo .int .str=Lf:=rfl
def GN(a b:Ra):Bool:=@decide (a=b) (Sz _)
def yZ:GN a b=KN↔a=b:=by unfold GN<;>simp_all
def gt(ds:List Ra)(i:Int):PyData:=(ds[i.toNat]?).getD .none
def both(ds es:List Ra):Ra->Bool
 |.int i=>GN (gt ds i) (gt es i)
 |_=>KN
theorem sS:∀(n:Nat) (v:Ra),aC n v=KN->Sm v
 |n,v,h=>by
  rcases bZ h with h1|⟨m,ds,rfl,rfl,_,hd⟩
  .rcases cz h1 with⟨i,rfl⟩|⟨x,rfl⟩
   .show MZ _=KN
    rw[MZ]<;>simp_all
   .have h2:(decide _&&has G9 x)=KN:=h1
    rw[Ro] at h2;exact Sm.mkS (RL (of_decide_eq_true h2.1) (by simp)) (K1.jf K1.kH h2.2)
  .exact Sm.tup λd hx=>sS m d (hd d hx)
termination_by n=>n
def j9(h:ay v=KN):Sm v:=by
 have h':(aC 4 v&&decide _)=KN:=h;rw[Ro] at h';exact sS 4 v h'.1
def ck(h:ay v=KN):aC 4 v=KN/\aH 4 v<=40:=by have h':(aC 4 v&&decide _)=KN:=h<;>simp_all
def pA(n:Nat):∀d,1<=aH n d:=by
 induction n with
 |zero=>intro d;cases d <;> exact T9 _
 |succ n ih=>
  intro d
  by_cases k:kd d=.tup
  .obtain⟨ds,rfl⟩:=kr k
   have:=K1.zux _ ih ds;show 1<=1+(ds.map _).sum
   lia
  .rw[rF k]<;>simp_all
theorem xO{f:Ra->Int}(h:∀d,0<=f d):∀{ds:List Ra}{d:Ra},d∈ds->f d<=(ds.map f).sum
 |e::r,d,hd=>by
  have nn:∀l:List _,0<=(l.map f).sum:=λl=>by
   induction l with
   |nil=>exact T9 _
   |cons a l ih=>simp_all<;>grind
  rw[R7,Xl]
  rcases Ru.mp hd with z|z
  .grind
  .have:=xO h  z<;>grind
def rY{n:Nat}{ds:List Ra}{d:Ra}(h:d∈ds):aH n d<=aH (n+1) (.tuple ds):=by
 have:=xO (f:=aH n) (λd=>by have:=pA n d;lia) h;show aH n d<=1+(ds.map _).sum
 lia
def cY(h:n<=2000):n<=sizeLine:=RL h (by decide)
theorem vg{α:Type}{a b:α}:L1 [a,b] 0=Iv a:=rfl
theorem vf{α:Type}{a b:α}:L1 [a,b] 1=Iv b:=rfl
theorem rL{P:Ra->Prop}(h:∀a b,P a->P b->(RR a b=KN↔a=b)):∀(ds es:List Ra),(∀d∈ds,P d)->(∀d∈es,P d)->(S4 ds es=KN↔ds=es)
 |[],[],_,_=>by simp[S4]
 |[],e::es,_,_=>by simp[S4]
 |d::ds,[],_,_=>by simp[S4]
 |d::ds,e::es,hd,he=>by
  have ih:=rL h ds es (λx hx=>hd x (Rc _ hx)) (λx hx=>he x (Rc _ hx));have i0:=h d e (hd d Rf) (he e Rf);simp only[S4];rw[Ro,i0,ih];simp
theorem zA:∀(n:Nat) (a b:Ra),aC n a=KN->aC n b=KN->(RR a b=KN↔a=b)
 |n,a,b,ha,hb=>by
  rcases bZ ha with h1|⟨m,ds,rfl,rfl,h8,hd⟩
  .rcases cz h1 with⟨i,rfl⟩|⟨x,rfl⟩
   .rcases bZ hb with h2|⟨m,es,rfl,rfl,g8,he⟩
    .rcases cz h2 with⟨j,rfl⟩|⟨y,rfl⟩
     .simp[RR]
     .simp[RR]
    .simp[RR]
   .rcases bZ hb with h2|⟨m,es,rfl,rfl,g8,he⟩
    .rcases cz h2 with⟨j,rfl⟩|⟨y,rfl⟩
     .simp[RR]
     .simp[RR]
    .simp[RR]
  .rcases bZ hb with h2|⟨m',es,e,rfl,g8,he⟩
   .rcases cz h2 with⟨j,rfl⟩|⟨y,rfl⟩
    .simp[RR]
    .simp[RR]
   .cases e
    have:=rL  (zA m) ds es hd he;simp only[RR];rw[this];simp
termination_by n=>n
def pX(ha:ay a=KN)(hb:ay b=KN):RR a b=GN a b:=by rw[Sl,zA 4 a b (ck ha).1 (ck hb).1,yZ]
def oG(ha:ay a=KN)(hb:ay b=KN):decide (a.shown=b.shown)=GN a b:=by
 rw[Sl,decide_eq_true_iff,yZ];exact⟨zjy (ck ha).1 (ck hb).1,λe=>by rw[e]⟩
def mC(h:∀d∈ds,d.canLay0=KN):Tq ds=KN:=by
 induction ds with
 |nil=>simp[Tq]
 |cons d r ih=>
  simp only[Tq];rw[h d Rf,ih λx hx=>h x (Rc _ hx)];rfl
theorem oB:∀(n:Nat) (d:Ra),aC n d=KN->d.canLay0=KN
 |n,d,h=>by
  rcases bZ h with h1|⟨m,ds,rfl,rfl,h8,hd⟩
  .rcases cz h1 with⟨i,rfl⟩|⟨x,rfl⟩
   .simp[TC]
   .have hx:=lL h1
    simp only[TC];unfold RU;rw[←Array.all_toList,Rq];intro c hc
    have:=K1.jf K1.kH hx c hc<;>grind
  .exact mC λd KU=>oB m d (hd d KU)
termination_by n=>n
theorem Ab{f:Ra->Int}:∀{ds:List Ra},(∀d∈ds,(d.weight:Int)+1<=61*f d)->(T8 ds:Int)<=61*(ds.map f).sum
 |[],_=>by simp[T8]
 |d::r,h=>by
  have h1:=h d Rf;have h2:=Ab  λx hx=>h x (Rc _ hx);simp only[T8,R7,Xl]
  lia
theorem Aa:∀(n:Nat) (d:Ra),aC n d=KN->(d.weight:Int)+1<=61*aH n d
 |n,d,h=>by
  have hp:=pA n d
  rcases bZ h with h1|⟨m,ds,rfl,rfl,h8,hd⟩
  .rcases cz h1 with⟨i,rfl⟩|⟨x,rfl⟩
   .have ha:=lM h1
    have:(TB i).weight<=60:=by
     simp only[Xm];split
     .lia
     .rename_i hz
      have z:i.natAbs≠0:=by simp_all
      have:=(W0 (k:=60) z).mpr (R5 ha (by decide))
      lia
    lia
   .have h':(decide (x.length<=20)&&has G9 x)=KN:=h1
    rw[Ro] at h';have hx:x.cps.size<=20:=of_decide_eq_true h'.1
    have:(RF x).weight=x.cps.size:=rfl
    lia
  .have:=Ab (f:=aH m) (ds:=ds) λd KU=>Aa m d (hd d KU)
   have e:(Th ds).weight=T8 ds:=rfl
   rw[e];show _<=61*(1+(ds.map (aH m)).sum)
   lia
termination_by n=>n
def xY(h:aC n d=KN):Sh d n (61*aH n d).toNat:=by
 obtain⟨s,_⟩:=K1.uc n d h;have:=Aa n d h;exact⟨s.sh,s.lv,s.dp,by lia⟩
def xX(h:ay v=KN):Sh v 4 2440:=by
 obtain⟨hb,hm⟩:=ck h;exact(xY hb).mono (Rn _) (by lia)
def jK(h:ay v=KN):RE v=KN:=by
 have:=(xX h).dp;unfold RE;rw[oB 4 v (ck h).1,decide_eq_true (by lia)];rfl
def zkd(h:Sh d 60 60000)(hd:d.hasDict=Lf):jo d=KN:=by
 unfold jo;rw[h.sh,h.lv,decide_eq_true h.dp,decide_eq_true h.wt,hd];rfl
def zke(h:aC n v=KN):v.hasDict=Lf:=PyData.hasDict_of_canLay v (oB n v h)
def rG(h:ay v=KN):jo v=KN:=zkd ((xX h).mono (by decide) (by decide)) (zke (ck h).1)
def gI{α:Type}{xs:List α}{i:Int}(h0:0<=i)(h1:i<(xs.length:Int)):∃a,L1 xs i=Iv a/\a∈xs:=by unfold L1 L5<;>simp_all
theorem zkf:(HJ.cps.toList.length:Int)=26 :=rfl
def yt{z:Str}{xs:List Ra}{ys:List Str}(h:dP xs=Iv ys):m9 (.str z) (.list xs)=if (ys.map (·.length)).sum+ys.length*z.length<=16777216 then Iv (.str (Wc z ys)) else LG:=by
 show (match dP xs with|some (ys)=>if (ys.map λx:Str=>x.length).sum+ys.length*z.length<=16777216 then Iv _ else LG|none=>LG)=_;rw[h]
def zkg(n:Nat):(cN 0 n).length=n:=by simp[cN]
def iS(h0:0<=j)(h1:j<=1000):mY j=KN:=decide_eq_true (by lia)
def tD:HJ.length<=sizeLine:=by decide +kernel
def vI(h:isName (.str x)=KN):single (.str x)=KN:=by
 have h':(decide _&&decide _&&has HJ x)=KN:=h;rw[Ro,Ro] at h';have h8:=of_decide_eq_true h'.1.2;show (decide _&&has G9 x)=KN;rw[decide_eq_true (by lia)]
 have sub:∀c∈HJ.cps.toList,c∈G9.cps.toList:=by decide +kernel
 exact Rq.mpr λc hc=>decide_eq_true (sub c (of_decide_eq_true (Rq.mp h'.2 c hc)))
def iO(h : -1000000000000000000<=i)(h':i<=1000000000000000000):single (.int i)=KN:=by refine decide_eq_true ?_<;>lia
def dC{n:Nat}{d:Ra}(h:single d=KN):aC n d=KN/\aH n d=1:=by
 cases d with
 |int i=>exact⟨by cases n <;> exact h,by cases n <;> rfl⟩
 |str x=>exact⟨by cases n <;> exact h,by cases n <;> rfl⟩
 |_=>cases h
theorem Af{f:Ra->Int}{q:Int}:∀{l:List Ra},(∀d∈l,f d<=q)->(l.map f).sum<=l.length*q
 |[],_=>by simp
 |a::r,h=>by
  have h1:=h a Rf;have h2:=Af  λd hd=>h d (Rc _ hd)
  simp_all<;>grind
@[simp] theorem N6:Rb a=Rb b↔a=b:=by
 constructor
 .intro h
  have h2:(Rb a).cps.toList=(Rb b).cps.toList:=by rw[h]
  rw[W1,W1] at h2;have inj:Function.Injective _:=λx y e=>Char.ext (UInt32.toNat_inj.mp e);exact String.toList_inj.mp ((List.map_inj_right (λx y e=>inj e)).mp h2)
 .rintro rfl;rfl
theorem iX:∀(n:Nat) (d:Ra),aC n d=KN->aC (n+1) d=KN/\aH (n+1) d=aH n d
 |n,d,h=>by
  rcases bZ h with h1|⟨m,ds,rfl,rfl,h8,hd⟩
  .exact⟨(dC h1).1,by rw[(dC  h1).2,(dC  h1).2]⟩
  .have ih:=λd KU=>iX m d (hd d KU)
   refine⟨?_,?_⟩
   .show (decide _&&ds.all _)=KN<;>simp_all
   .show 1+(ds.map _).sum=1+(ds.map _).sum
    rw[RV λd KU=>(ih d KU).2]
termination_by n=>n
@[simp] theorem OC:nr f ρ T=G5 (f ρ T) λw T1=>qz T1 w:=rfl
def vl(v:Ra):PyData:=.tuple [.str "value",v]
def fl(w:String):PyData:=.tuple [.str "fails",.str (Rb w)]
def FW:List String:=["kind","part","great"]
def dz(R:Ra):Prop:=(∃v,R=vl v/\ay v=KN)\/∃w∈FW,R=fl w
def dj:dz (fl "kind"):=.inr ⟨_,by simp[FW],rfl⟩
def zkh:dz (fl "part"):=.inr ⟨_,by simp[FW],rfl⟩
def zki:dz (fl "great"):=.inr ⟨_,by simp[FW],rfl⟩
def bd(d:Ra):PyData:=if ay d=KN then vl d else fl "great"
def pL(d:Ra):dz (bd d):=by
 unfold bd;split
 .rename_i h;exact .inl ⟨d,rfl,h⟩
 .exact zki
def oV(T:Tp)(h:Sm d):g7 [.d d] T=Iv (bd d,T):=by
 have:=zV T h;unfold bd
 cases hv:ay d with
 |true=>rw[hv] at this;simp[g7,this,vl]
 |false=>rw[hv] at this;simp[g7,this,fl]
def lV(h:ay (.tuple ds)=KN)(hd:d∈ds):ay d=KN:=by
 obtain⟨hb,hm⟩:=ck h
 rcases bZ hb with h1|⟨m,Ff,e,e',h8,G7⟩
 .rcases cz h1 with⟨i,z⟩|⟨x,z⟩ <;> cases z
 .cases e;cases e'
  obtain⟨u1,u2⟩:=iX 3 d (G7 d hd);have:=rY (n:=3) hd
  show (aC 4 d&&decide _)=KN<;>grind
def eN(h:ay v=KN):(∃i,v=.int i/\single (.int i)=KN)\/(∃x,v=.str x/\x.length<=20/\∀c∈x.cps.toList,c<128)\/∃ds,v=.tuple ds/\ds.length<=8:=by
 rcases bZ (ck h).1 with h1|⟨m,ds,e,rfl,h8,hd⟩
 .rcases cz h1 with⟨i,rfl⟩|⟨x,rfl⟩
  .exact .inl ⟨i,rfl,h1⟩
  .have h':(decide _&&has G9 x)=KN:=h1
   rw[Ro] at h';exact .inr (.inl ⟨x,rfl,of_decide_eq_true h'.1,K1.jf K1.kH h'.2⟩)
 .exact .inr (.inr ⟨ds,rfl,h8⟩)
def pI(h : -1000000000000000000<=i)(h':i<=1000000000000000000):ay (.int i)=KN:=by
 show (single _&&decide _)=KN;rw[iO h h'];rfl
theorem zkj(i:Int):Sm (.int i) :=rfl
def zkk(h1:ay x=KN)(h2:ay y=KN):Mr x y=Iv (.bool (GN x y)):=by
 unfold Mr;rw[if_pos ⟨jK h1,jK h2⟩,pX h1 h2]
@[simp] theorem PH{α:Type}{a b:α}:L1 [a,b] 0=Iv a:=rfl
@[simp] theorem PF{α:Type}{a b:α}:L1 [a,b] 1=Iv b:=rfl
@[simp] theorem PJ{α:Type}{a:α}:L1 [a] 0=Iv a:=rfl
@[simp] theorem PD{α:Type}{a b c:α}:L1 [a,b,c] 0=Iv a:=rfl
@[simp] theorem PB{α:Type}{a b c:α}:L1 [a,b,c] 1=Iv b:=rfl
@[simp] theorem Pz{α:Type}{a b c:α}:L1 [a,b,c] 2=Iv c:=rfl
@[simp] theorem QZ:bo .int .int=KN:=rfl
@[simp] theorem QY:bo .int .str=Lf:=rfl
@[simp] theorem QX:bo .int .tup=Lf:=rfl
@[simp] theorem Q0:bo .int .bl=Lf:=rfl
@[simp] theorem QV:bo .str .str=KN:=rfl
@[simp] theorem QU:bo .str .tup=Lf:=rfl
@[simp] theorem QW:bo .str .int=Lf:=rfl
@[simp] theorem QR:bo .tup .tup=KN:=rfl
@[simp] theorem QT:bo .tup .int=Lf:=rfl
@[simp] theorem QS:bo .tup .str=Lf:=rfl
@[simp] theorem N5(x:Ra)(T:Tp):eZ [.d x] T=Iv (.bool (whole x),T):=j8 x T
@[simp] theorem QQ(i:Int):whole (.int i)=KN:=rfl
@[simp] theorem QP(x:Str):whole (.str x)=Lf:=rfl
@[simp] theorem QO(x:List Ra):whole (.tuple x)=Lf:=rfl
def Pairs(w:String)(a b:Ra):Prop:=∃R,dz R/\∀T,bw [.d (.str (Rb w)),.d (.list [a,b])] T=Iv (R,T)
def zkl(h:ay (.tuple ds)=KN)(h0:0<=i)(h1:i<(ds.length:Int)):∃d,L1 ds i=Iv d/\ay d=KN:=by
 obtain⟨d,e,hd⟩:=gI h0 h1;exact⟨d,e,lV h hd⟩
def PW:List String:=["part","sum","join","same","less"]
inductive Ex(m:Int):Nat->Ra->Prop where
 |put {n:Nat}{v:Ra}:ay v=KN->Ex m n (.tuple [.str "put",v])
 |got {n:Nat}{i:Int}:0<=i->i<m->Ex m n (.tuple [.str "got",.int i])
 |row {n:Nat}{es:List Ra}:es.length<=8->(∀e∈es,Ex m n e)->Ex m (n+1) (.tuple [.str "row",.tuple es])
 |many {n:Nat}{e:Ra}:Ex m n e->Ex m (n+1) (.tuple [.str "many",e])
 |pair {n:Nat}{w:String}{a b:Ra}:w∈PW->Ex m n a->Ex m n b->Ex m (n+1) (.tuple [.str (Rb w),a,b])
noncomputable def Hv:Ra->Bool
 |.tuple (.str x::_)=>decide (x=Rb "fails")
 |_=>Lf
noncomputable def Js:Ra->Ra
 |.tuple [_,v]=>v
 |_=>.none
theorem zkm(v:Ra):Hv (vl v)=Lf :=rfl
theorem zkn(w:String):Hv (fl w)=KN :=rfl
def rN(h:dz R):(Hv R=KN/\∃w∈FW,R=fl w)\/(Hv R=Lf/\R=vl (Js R)/\ay (Js R)=KN):=by
 rcases h with⟨v,rfl,hv⟩|⟨w,hw,rfl⟩
 .exact .inr ⟨zkm v,rfl,hv⟩
 .exact .inl ⟨zkn w,w,hw,rfl⟩
noncomputable def fu(m:Hl)(ws:List D.W)(T1:Tp):Option (D.W×Tp):=if nN ws=KN then (match m (ws.map lm) [] with
 |some (x,_)=>if bh x=KN then Iv (.d x,T1) else LG
 | none=>LG) else LG
@[simp] theorem N3:fZ m a ρ T=G5 (a ρ T) (fu m):=rfl
def jO(h1:nN ws=KN)(h2:m (ws.map lm) []=Iv (x,T'))(h3:bh x=KN):fu m ws T=Iv (.d x,T):=by unfold fu<;>simp_all
theorem lW:∀{ds:List Ra},(∀d∈ds,bh d=KN)->bR ds=KN
 |[],_=>rfl
 |d::r,h=>by simp[bR,h d Rf,lW  λx hx=>h x (Rc _ hx)]
theorem wH:∀(n:Nat) (d:Ra),aC n d=KN->bh d=KN
 |n,d,h=>by
  rcases bZ h with h1|⟨m,ds,rfl,rfl,_,hd⟩
  .rcases cz h1 with⟨i,rfl⟩|⟨x,rfl⟩ <;> simp[bh]
  .simp[bh,lW λx hx=>wH m x (hd x hx)]
termination_by n=>n
def mh(h:ay v=KN):bh v=KN:=wH 4 v (ck h).1
def oX(h:dz R):bh R=KN:=by
 rcases h with⟨v,rfl,hv⟩|⟨w,_,rfl⟩
 .simp[vl,bh,bR,mh hv]
 .simp[fl,bh,bR]
def gb(k:Nat):FS:=(ai (aE 4 (ak (ej k) (ab (aa 3) (ab (aa 1) ah)))) (ai (EI (ao (af CP (af HN (aa 4) (fC (.int 0))) (fC (.str "fails")))) (aq (aa 4)) aA) (cR 2 (af HN (aa 4) (fC (.int 1))))))
noncomputable def lq(k:FS)(p:Fl×XE)(T:Tp):Option ((Fl×XE)×Tp):=match p with
 |(.nx,JT)=>k JT T
 |(.ct,JT)=>k JT T
 |(.bk,JT)=>Iv ((.nx,JT),T)
 |(.rt x,JT)=>Iv ((.rt x,JT),T)
 |(.ro x,JT)=>Iv ((.ro x,JT),T)
theorem tI:lq k (.nx,ρ) T=k ρ T:=rfl
theorem zko:forL i b (d::r) ρ T=G5 (b (ρ.set i (Iv (.d d))) T) (lq (forL i b r)):=rfl
theorem rP{k:Nat}{T:Tp}{e0 G:Ra}{f:Ra->Ra}:∀(es:List Ra) (acc:List Ra) (o3 o4:Option D.W),(∀e∈es,dz (f e)/\ej k [.d e,.d G] T=Iv (f e,T))->acc.length+es.length<=1000 ->
  match (es.map f).filter Hv with
  |R::_=>∃ρ',forL 3 (gb k) es [Iv (.d e0),Iv (.d G),Iv (.loc (.list acc)),o3,o4] T=Iv ((.rt R,ρ'),T)
  |[]=>∃FV Kz,forL 3 (gb k) es [Iv (.d e0),Iv (.d G),Iv (.loc (.list acc)),o3,o4] T=Iv ((.nx,[Iv (.d e0),Iv (.d G),Iv (.loc (.list (acc++es.map λe=>Js (f e)))),(FV:Option D.W),Kz]),T)
 |[],acc,o3,o4,_,_=>⟨o3,o4,by simp[forL]⟩
 |e::es,acc,o3,o4,h,hl=>by
  obtain⟨t,ht⟩:=h e Rf;have Ka:acc.length<sizeLine:=Rz (by simp at hl;lia:acc.length<1000) (by decide);have go:forL 3 (gb k) (e::es) [Iv (.d e0),Iv (.d G),Iv (.loc (.list acc)),o3,o4] T=G5 (gb k [Iv (.d e0),Iv (.d G),Iv (.loc (.list acc)),Iv (.d e),o4] T) (lq (forL 3 (gb k) es)):=rfl;rw[go]
  rcases rN t with⟨hf,w,_,hw⟩|⟨hf,hv,_⟩
  .rw[R7,Uv,if_pos hf]
   rw[hw] at ht
   have hb:gb k [Iv (.d e0),Iv (.d G),Iv (.loc (.list acc)),Iv (.d e),o4] T=Iv ((.rt (fl w),[Iv (.d e0),Iv (.d G),Iv (.loc (.list acc)),Iv (.d e),Iv (.d (fl w))]),T):=by
    simp[gb,ht,fl]
   rw[hb,hw];exact⟨_,rfl⟩
  .rw[R7,Uv,hf]
   have ih:=rP (e0:=e0) es (acc++[Js (f e)]) (Iv (.d e)) (Iv (.d (f e))) (λx hx=>h x (Rc _ hx)) (by simp at hl ⊢;lia)
   have hb:gb k [Iv (.d e0),Iv (.d G),Iv (.loc (.list acc)),Iv (.d e),o4] T=Iv ((.nx,[Iv (.d e0),Iv (.d G),Iv (.loc (.list (acc++[Js (f e)]))),Iv (.d e),Iv (.d (f e))]),T):=by
    generalize hV:Js (f e)=v at hv;rw[hv] at ht ⊢;simp[gb,ht,vl,Ka]
   rw[hb,cG,tI];simp only[Vy,if_false]
   cases hF:(es.map f).filter Hv with
   |nil=>
    rw[hF] at ih;obtain⟨FV,Kz,hi⟩:=ih;exact⟨FV,Kz,by rw[hi];simp⟩
   |cons R r=>
    rw[hF] at ih;exact ih
structure Node(e0:Ra)(w0:Str)(es:List Ra):Prop where
 w1:∀T,fO [.d e0] T=Iv (.list es,T)
 ix:HN e0 (.int 0)=Iv (.str w0)
 np:(w0=Rb "put")=False
 ng:(w0=Rb "got")=False
 ln:es.length<=8
def BO(G:Ra)(gs:List Ra):Prop:=∀i:Int,HN G (.int i)=L1 gs i
theorem wJ(n:Nat):ej (n+1)=aI 5 (ai (EI (ao (af CP (af HN (aa 0) (fC (.int 0))) (fC (.str "put")))) (aq (ax .tuple (ab (fC (.str "value")) (ab (af HN (aa 0) (fC (.int 1))) ah)))) aA) (ai (EI (ao (af CP (af HN (aa 0) (fC (.int 0))) (fC (.str "got")))) (aq (ax .tuple (ab (fC (.str "value")) (ab (af HN (aa 1) (af HN (aa 0) (fC (.int 1)))) ah)))) aA) (ai (cj 2 ah) (ai (cb 3 (bf (ak fO (ab (aa 0) ah))) (gb n)) (aq (fZ bw (ab (af HN (aa 0) (fC (.int 0))) (ab (aa 2) ah)))))))) :=rfl
def nV:dM (a::r) (Iv 1) LG=r:=by
 have e:HT.Jo (a::r).length 0 (Iv 1)=1:=rfl;have e2:HT.Jo (a::r).length (a::r).length LG=(a::r).length:=rfl
 unfold dM<;>simp_all
inductive Rg(p:Bool):Nat->Nat->Ra->Prop where
 |fail {g n:Nat}{x:Str}:isName (.str x)=KN->Rg p g n (.tuple [.str "fail",.str x])
 |say {g n:Nat}{e:Ra}:Ex (g:Int) n e->Rg p g (n+1) (.tuple [.str "say",e])
 |ask {g n:Nat}{w:String}{e r:Ra}:(w="want"\/(w="peek"/\p=KN))->g<12->Ex (g:Int) n e->Rg p (g+1) n r->Rg p g (n+1) (.tuple [.str (Rb w),e,r])
 |whn {g n:Nat}{e r s:Ra}:Ex (g:Int) n e->Rg p g n r->Rg p g n s->Rg p g (n+1) (.tuple [.str "when",e,r,s])
def J1(v:Ra):PyData:=.tuple [.str "made",v]
def J2(x:Str):PyData:=.tuple [.str "fails",.str x]
noncomputable def Du(b:Bool)(x:Str)(r:Ra):PyData:=.tuple [.str (Rb (if b then "peek" else "want")),.str x,r]
inductive Dv(p:Bool)(g n:Nat):Ra->Prop where
 |md {v:Ra}:ay v=KN->Dv p g n (J1 v)
 |fl {x:Str}:isName (.str x)=KN->Dv p g n (J2 x)
 |ask {b:Bool}{x:Str}{r:Ra}{n':Nat}:(b=KN->p=KN)->isName (.str x)=KN->g<12->n'<=n->Rg p (g+1) n' r->Dv p g n (Du b x r)
def Dv.up(h:Dv p g n S)(l:n<=m):Dv p g m S:=by
 cases h with
 |md a=>exact .md a
 |fl a=>exact .fl a
 |ask a b c d e=>exact .ask a b c (RL d l) e
def tG:∀w∈FW,isName (.str (Rb w))=KN:=by decide +kernel
theorem zh:isName (.str "name")=KN :=rfl
def yM(T:Tp)(h:Sm d):fU [.d d] T=Iv (.bool (isName d),T):=by
 cases d with
 |str x=>
  have hz:x.length<=sizeLine:=RL h.str (by decide);have hh:∀T,gB [.d _,.d (.str "abcdefghijklmnopqrstuvwxyz")] T=Iv (.bool (has HJ x),T):=λT=>uW T hz;have e:isName (.str x)=(decide _&&decide _&&has HJ x):=rfl
  by_cases h1:1<=x.length
  .have KW:(1)<=(x.length:Int):=by lia
   by_cases h8:x.length<=8
   .have GC:(x.length:Int)<=8:=by lia
    simp[fU,hz,hh,e,h1,KW,h8,GC]
   .have GC:¬(x.length:Int)<=8:=by lia
    simp[fU,hz,e,KW,h8,GC]
  .have KW:¬(1)<=(x.length:Int):=by lia
   simp[fU,hz,e,h1,KW]
 |_=>rfl
theorem qQ{α:Type}{a b c d:α}:L1 [a,b,c,d] 0=Iv a:=rfl
theorem uX{α:Type}{a b c d:α}:L1 [a,b,c,d] 1=Iv b:=rfl
theorem BS{α:Type}{a b c d:α}:L1 [a,b,c,d] 2=Iv c:=rfl
theorem BR{α:Type}{a b c d:α}:L1 [a,b,c,d] 3=Iv d:=rfl
def oU{ds:List Ra}{k:Nat}(h:∀d∈ds,d.depth<=k):Tr ds<=k:=by
 induction ds with
 |nil=>simp[Tr]
 |cons d r ih=>
  simp only[Tr]<;>grind
def rA(h:∀d∈l,aC 4 d=KN):RE (.list l)=KN:=by
 unfold RE
 have h1:(UO l).canLay0=KN:=by
  exact mC λd hd=>oB 4 d (h d hd)
 have h2:(UO l).depth<=64:=by
  simp only[Tt];have:=oU  λd hd=>(xY (h d hd)).dp
  lia
 rw[h1,decide_eq_true h2];rfl
def eq_nil(h:∀d∈l,aC 4 d=KN):Mr (.list l) (.list [])=Iv (.bool l.isEmpty):=by
 have h2:=rA (l:=[]) (by simp);unfold Mr;rw[if_pos ⟨rA h,h2⟩]
 cases l <;> simp[RR,S4]
def vE(h:∀c∈x.cps.toList,c<128)(hd:d∈D.signs x):∃c,c∈x.cps.toList/\d=.str ⟨#[c]⟩:=by
 obtain⟨c,hc,rfl⟩:=Rl.mp hd;exact⟨c,hc,rfl⟩
def zkp(h:∀d∈l,∃c:Nat,c<128/\d=.str ⟨#[c]⟩):RE (.list l)=KN:=by
 unfold RE
 have h1:(UO l).canLay0=KN:=by
  refine mC λd hd=>?_;obtain⟨c,hc,rfl⟩:=h d hd;simp only[TC];unfold RU;simp
  lia
 have h2:(UO l).depth<=64:=by
  simp only[Tt]
  have:=oU (k:=0)  λd hd=>by
   obtain⟨c,hc,rfl⟩:=h d hd;simp[Tt]
  lia
 rw[h1,decide_eq_true h2];rfl
def zkq(h:∀d∈l,∃c:Nat,c<128/\d=.str ⟨#[c]⟩):Mr (.list l) (.list [])=Iv (.bool l.isEmpty):=by
 have h2:=rA (l:=[]) (by simp);unfold Mr;rw[if_pos ⟨zkp h,h2⟩]
 cases l <;> simp[RR,S4]
def filter_none{α:Type}(p:α->Bool)(l:List α):(l.filter λx=>!(p x)).isEmpty=l.all p:=by
 induction l with
 |nil=>rfl
 |cons a r ih=>
  rw[Uv,Ui]
  cases p a <;>simp_all
def rQ{y x:Str}{T:Tp}{ρ:XE}(c:FT)(hx:∀c∈x.cps.toList,c<128)(hc:∀z:Str,c (Iv (.d (.str z))::ρ) T=Iv (!(jy y z),T)) :
  ∃l,bK c (aa 0) ρ (D.signs x) T=Iv (l,T)/\Mr (.list l) (.list [])=Iv (.bool (has y x)):=by
 refine⟨(D.signs x).filter (λd=>!(ua y d)),lC λd hd=>?_,?_⟩
 .obtain⟨c',HL,rfl⟩:=vE hx hd
  rw[hc];rfl
 .rw[zkq,filter_none,wO]
  intro d hd;obtain⟨c',HL,rfl⟩:=vE hx (SR.mp hd).1;exact⟨c',hx c' HL,rfl⟩
def zkr(T:Tp)(h:ay v=KN):jC [.d v] T=Iv (.bool (isName v),T):=by
 rcases eN h with⟨i,rfl,_⟩|⟨x,rfl,hx,Fd⟩|⟨ds,rfl,_⟩
 .rfl
 .have hz:x.length<=sizeLine:=RL hx (by decide)
  have e:isName (.str x)=(decide _&&decide _&&has HJ x):=rfl
  obtain⟨l,hc,hl⟩:=rQ (y:=HJ)  (T:=T) (ρ:=[Iv (.d (.str x))]) (ao (af cS (aa 0) (fC (.str "abcdefghijklmnopqrstuvwxyz")))) Fd λz=>by rfl
  by_cases h1:1<=x.length
  .have KW:¬(x.length:Int)<1:=by lia
   by_cases h8:x.length<=8
   .have GC:¬(8)<(x.length:Int):=by lia
    simp[jC,hz,KW,GC,hc,hl,e,h1,h8]
   .have GC:(8)<(x.length:Int):=by lia
    simp[jC,hz,KW,GC,e,h8]
  .have KW:(x.length:Int)<1:=by lia
   simp[jC,hz,KW,e,h1]
 .rfl
theorem z4:∀(n k:Nat) (d:Ra) (T:Tp),Gf n d=KN->n<k->iL k [.d d] T=Iv (.int (aH n d),T)
 |n,0,d,T,_,hk=>absurd hk (SD _)
 |n,k+1,d,T,hg,hk=>by
  by_cases ht:kd d=.tup
  .cases n with
   |zero=>exact absurd ht (BX hg)
   |succ n=>
    obtain⟨ds,rfl⟩:=kr ht;have GX:=hg;have e:aH (n+1) (.tuple ds)=1+(ds.map _).sum:=rfl
    have hc:bK _ (ak (iL k) (ab (aa 0) ah)) [Iv (.d (.tuple ds))] ds T=Iv (ds.map λx=>.int (aH n x),T):=en λx hx=>by
     have:=z4 n k x T (Rq.mp GX x hx) (by lia)<;>simp_all
    simp[iL,e,hc]
  .simp[iL,tj ht,rF ht]
def BP(d:Ra):Prop:=(∃i,d=.int i)\/(∃x,d=.str x/\x.length<=60000/\∀c∈x.cps.toList,c<128)\/∃ds,d=.tuple ds/\∀x∈ds,aC 4 x=KN
def BP.of(h:aC 4 d=KN):BP d:=by
 rcases bZ h with h1|⟨m,ds,e,rfl,h8,hd⟩
 .rcases cz h1 with⟨i,rfl⟩|⟨x,rfl⟩
  .exact .inl ⟨i,rfl⟩
  .have hs:=sS 4 _ h
   exact .inr (.inl ⟨x,rfl,hs.both.1,hs.both.2⟩)
 .cases e
  exact .inr (.inr ⟨ds,rfl,λx hx=>(iX 3 x (hd x hx)).1⟩)
theorem zY:∀(n k:Nat) (d:Ra) (T:Tp) (a:Int),BP d->n<k->a+n=4->eK k [.d d,.d (.int a)] T=Iv (.bool (aC n d),T)
 |n,0,d,T,a,_,hk,_=>absurd hk (SD _)
 |n,k+1,d,T,a,hb,hk,ha=>by
  rcases hb with⟨i,rfl⟩|⟨x,rfl,hx,Fd⟩|⟨ds,rfl,hd⟩
  .have e:aC n (.int i)=single (.int i):=by cases n <;> rfl
   have e2:single (.int i)=decide ((if i<0 then -i else i)<=10^18):=rfl;rw[e,e2]
   by_cases hi:(if i<0 then -i else i)<=(10:Int)^18
   .kernel_rfl
   .kernel_rfl
  .have e:aC n (.str x)=single (.str x):=by cases n <;> rfl
   have e2:single (.str x)=(decide (x.length<=20)&&has G9 x):=rfl;have hz:x.length<=sizeLine:=RL hx (by decide)
   obtain⟨l,hc,hl⟩:=rQ (y:=G9) (x:=x) (T:=T) (ρ:=[Iv (.d (.str x)),Iv (.d (.int a)),Iv (.d (.str G9))]) (ao (af cS (aa 0) (aa 3))) Fd λz=>rfl
   have tx:G9=Rb "abcdefghijklmnopqrstuvwxyz0123456789-":=rfl;rw[tx] at hc;rw[e,e2]
   by_cases h20:x.length<=20
   .have Hf:(x.length:Int)<=20:=by lia
    simp[eK,bo,hz,h20,Hf,hc,hl]
   .have Hf:¬(x.length:Int)<=20:=by lia
    simp[eK,bo,hz,h20,Hf]
  .by_cases h8:ds.length<=8
   .have GC:¬(8:Int)<(ds.length:Int):=by lia
    cases n with
    |zero=>
     have h3:(3:Int)<a:=by lia
     simp[eK,bo,aC,GC,h3]
    |succ n=>
     have h3:¬(3:Int)<a:=by lia
     have e:aC (n+1) (.tuple ds)=(decide (ds.length<=8)&&ds.all (aC n)):=rfl
     have hc:bK (bj (aJ (ak (eK k) (ab (aa 0) (ab (af aP (aa 2) (fC (.int 1))) ah))))) (aa 0) [Iv (.d (.tuple ds)),Iv (.d (.int a)),LG] ds T=Iv (ds.filter (λx=>!(aC n x)),T):=lC λx hx=>by
      have:=zY n k x T (a+1) (.of (hd x hx)) (by lia) (by lia);simp[this]
     have hq:Mr (.list (ds.filter λx=>!(aC n x))) (.list [])=Iv (.bool (ds.all (aC n))):=by
      rw[eq_nil λd KU=>hd d (SR.mp KU).1,filter_none]
     simp[eK,bo,GC,h3,e,h8,hc,hq]
   .have GC:(8:Int)<(ds.length:Int):=by lia
    have e:aC n (.tuple ds)=Lf:=by
     cases n with
     |zero=>rfl
     |succ n=>show (decide (ds.length<=8)&&ds.all (aC n))=Lf;rw[decide_eq_false h8];rfl
    simp[eK,bo,GC,e]
def mf(T:Tp)(h:BP d):gu [.d d] T=Iv (.bool (ay d),T):=by
 have h1:=zY 4 25 d T 0 h (by decide) (rfl);have e:ay d=(aC 4 d&&decide _):=rfl
 cases hb:aC 4 d with
 |false=>simp[gu,h1,e,hb]
 |true=>
  have h2:=z4 4 25 d T (K1.sj 4 d hb) (by decide);simp[gu,h1,h2,e,hb]
def zks(i:Int):BP (.int i):=.inl ⟨i,rfl⟩
def ma(h:jo x=KN):qz T (.d x)=Iv (.d (.str x.shown),T):=if_pos h
def kI(w:String)(a b:Ra):Prop:=∃R,dz R/\(∀T,bw [.d (.str (Rb w)),.d (.list [a,b])] T=Iv (R,T))/\∀T,bL [.d (.str (Rb w)),.d a,.d b] T=Iv (R,T)
def zkt(ha:ay a=KN)(hb:ay b=KN):kI "same" a b:=by
 have g1:=rG ha;have g2:=rG hb;have e1:=zkk ha hb;have e2:=oG ha hb;refine⟨vl (.int (if GN a b=KN then 1 else 0)),.inl ⟨_,rfl,by split <;> exact pI (by simp) (by decide)⟩,λT=>?_,λT=>?_⟩
 .cases hs:GN a b with
  |true=>rw[hs] at e1;simp[bw,e1,vl]
  |false=>rw[hs] at e1;simp[bw,e1,vl]
 .rw[←e2]
  by_cases c:a.shown=b.shown
  .simp[bL,ma g1,ma g2,c,vl,D.intD]
  .simp[bL,ma g1,ma g2,c,vl,D.intD]
def zku(ha:ay a=KN)(hb:ay b=KN):kI "part" a b:=by
 rcases eN ha with⟨i,rfl,hi⟩|⟨x,rfl,hx,Fd⟩|⟨ds,rfl,hd⟩
 .refine⟨_,dj,λT=>?_,λT=>?_⟩ <;> simp[bw,gx,bL,fl]
 .refine⟨_,dj,λT=>?_,λT=>?_⟩ <;> simp[bw,gx,bL,fl]
 .rcases eN hb with⟨j,rfl,hj⟩|⟨y,rfl,hy,IQ⟩|⟨es,rfl,he⟩
  .by_cases c:0<=j/\j<(ds.length:Int)
   .obtain⟨d,e,hv⟩:=zkl ha c.1 c.2
    refine⟨vl d,.inl ⟨d,rfl,hv⟩,λT=>?_,λT=>?_⟩ <;> simp[bw,gx,bL,vl,c.1,c.2,e]
   .refine⟨_,zkh,λT=>?_,λT=>?_⟩
    .by_cases c0:0<=j
     .have c1:¬j<(ds.length:Int):=λz=>c ⟨c0,z⟩
      simp[bw,gx,fl,c0,c1]
     .simp[bw,gx,fl,c0]
    .by_cases c0:0<=j
     .have c1:¬j<(ds.length:Int):=λz=>c ⟨c0,z⟩
      simp[bL,fl,c0,c1]
     .simp[bL,fl,c0]
  .refine⟨_,dj,λT=>?_,λT=>?_⟩ <;> kernel_rfl
  .refine⟨_,dj,λT=>?_,λT=>?_⟩ <;> kernel_rfl
def zkv(ha:ay a=KN)(hb:ay b=KN):kI "sum" a b:=by
 rcases eN ha with⟨i,rfl,hi⟩|⟨x,rfl,hx,Fd⟩|⟨ds,rfl,hd⟩
 .rcases eN hb with⟨j,rfl,hj⟩|⟨y,rfl,hy,IQ⟩|⟨es,rfl,he⟩
  .have b1:=λT=>oV T (zkj (i+j))
   have b2:=λT=>mf T (zks (i+j));refine⟨_,pL (.int (i+j)),λT=>?_,λT=>?_⟩
   .simp[bw,iQ,b1]
   .cases hv:ay (.int (i+j)) <;> simp[bL,b2,hv,bd,vl,fl]
  .refine⟨_,dj,λT=>?_,λT=>?_⟩ <;> kernel_rfl
  .refine⟨_,dj,λT=>?_,λT=>?_⟩ <;> kernel_rfl
 .refine⟨_,dj,λT=>?_,λT=>?_⟩ <;> simp[bw,iQ,bL,fl]
 .refine⟨_,dj,λT=>?_,λT=>?_⟩ <;> simp[bw,iQ,bL,fl]
def zkw(ha:ay a=KN)(hb:ay b=KN):kI "less" a b:=by
 rcases eN ha with⟨i,rfl,hi⟩|⟨x,rfl,hx,Fd⟩|⟨ds,rfl,hd⟩
 .rcases eN hb with⟨j,rfl,hj⟩|⟨y,rfl,hy,IQ⟩|⟨es,rfl,he⟩
  .refine⟨vl (.int (if i<j then 1 else 0)),.inl ⟨_,rfl,by split <;> exact pI (by decide) (by decide)⟩,λT=>?_,λT=>?_⟩
   .by_cases c:i<j
    .simp[bw,gV,c,vl]
    .simp[bw,gV,c,vl]
   .by_cases c:i<j
    .simp[bL,c,vl,D.intD]
    .simp[bL,c,vl,D.intD]
  .refine⟨_,dj,λT=>?_,λT=>?_⟩ <;> kernel_rfl
  .refine⟨_,dj,λT=>?_,λT=>?_⟩ <;> kernel_rfl
 .refine⟨_,dj,λT=>?_,λT=>?_⟩ <;> simp[bw,gV,bL,fl]
 .refine⟨_,dj,λT=>?_,λT=>?_⟩ <;> simp[bw,gV,bL,fl]
def zkx(ha:ay a=KN)(hb:ay b=KN):kI "join" a b:=by
 rcases eN ha with⟨i,rfl,hi⟩|⟨x,rfl,hx,Fd⟩|⟨ds,rfl,hd⟩
 .refine⟨_,dj,λT=>?_,λT=>?_⟩
  .kernel_rfl
  .rcases eN hb with⟨j,rfl,hj⟩|⟨y,rfl,hy,IQ⟩|⟨es,rfl,he⟩ <;> kernel_rfl
 .rcases eN hb with⟨j,rfl,hj⟩|⟨y,rfl,hy,IQ⟩|⟨es,rfl,he⟩
  .refine⟨_,dj,λT=>?_,λT=>?_⟩ <;> kernel_rfl
  .have l:x.length+y.length<=sizeLine:=cY (by lia)
   have sx:Sm (.str (x++y)):=Sm.mkS (by rw[←cU,ji,Vv,cU,cU];lia) λc hc=>by
    have HL:c∈cd (x++y):=hc;rw[ji] at HL;exact(Ry.mp HL).elim (Fd c) (IQ c)
   have b1:=λT=>oV T sx;have b2:=λT=>mf (d:=.str (x++y)) T (.inr (.inl ⟨_,rfl,sx.both.1,sx.both.2⟩));refine⟨_,pL (.str (x++y)),λT=>?_,λT=>?_⟩
   .simp[bw,gy,b1,l]
   .cases hv:ay (.str (x++y)) <;> simp[bL,b2,l,hv,bd,vl,fl]
  .refine⟨_,dj,λT=>?_,λT=>?_⟩ <;> kernel_rfl
 .rcases eN hb with⟨j,rfl,hj⟩|⟨y,rfl,hy,IQ⟩|⟨es,rfl,he⟩
  .refine⟨_,dj,λT=>?_,λT=>?_⟩ <;> kernel_rfl
  .refine⟨_,dj,λT=>?_,λT=>?_⟩ <;> kernel_rfl
  .have l:ds.length+es.length<=sizeLine:=cY (by lia)
   have sx:Sm (.tuple (ds++es)):=Sm.tup λd hd=>by
    rcases Ry.mp hd with z|z
    .exact j9 (lV ha z)
    .exact j9 (lV hb z)
   have b1:=λT=>oV T sx;have b2:=λT=>mf (d:=.tuple (ds++es)) T (.inr (.inr ⟨_,rfl,λz hz=>(Ry.mp hz).elim (λq=>(ck (lV ha q)).1) λq=>(ck (lV hb q)).1⟩));refine⟨_,pL (.tuple (ds++es)),λT=>?_,λT=>?_⟩
   .simp[bw,gy,b1,l]
   .cases hv:ay (.tuple (ds++es)) <;> simp[bL,b2,l,hv,bd,vl,fl]
def zky(hw:w∈PW)(ha:ay a=KN)(hb:ay b=KN):kI w a b:=by
 simp[PW] at hw
 rcases hw with rfl|rfl|rfl|rfl|rfl
 .exact zku ha hb
 .exact zkv ha hb
 .exact zkx ha hb
 .exact zkt ha hb
 .exact zkw ha hb
def f9(M:Hl):FS:=(ai (aE 4 (ak M (ab (aa 3) (ab (aa 1) ah)))) (ai (EI (ao (af CP (af HN (aa 4) (fC (.int 0))) (fC (.str "fails")))) (aq (aa 4)) aA) (cR 2 (af HN (aa 4) (fC (.int 1))))))
def iy:FI:=(bf (af HN (ax .list (ab (Et dH (ab (Ig (aa 0) (fP (fC (.int 1))) bE) ah)) (ab (Et dH (ab (af HN (aa 0) (fC (.int 1))) ah)) ah))) (Et intD (ab (af CP (af HN (aa 0) (fC (.int 0))) (fC (.str "row"))) ah))))
def jc:FS:=(ai (EI (ao (af CP (af HN (aa 0) (fC (.int 0))) (fC (.str "row")))) (aq (cD (aJ (ak gu (ab (Et b6 (ab (aa 2) ah)) ah))) (ax .tuple (ab (fC (.str "value")) (ab (Et b6 (ab (aa 2) ah)) ah))) (ax .tuple (ab (fC (.str "fails")) (ab (fC (.str "great")) ah))))) aA) (ai (EI (ao (af CP (af HN (aa 0) (fC (.int 0))) (fC (.str "many")))) (aq (cD (aJ (LP (aW .int) (af HN (aa 2) (fC (.int 0))))) (ax .tuple (ab (fC (.str "fails")) (ab (fC (.str "kind")) ah))) (ax .tuple (ab (fC (.str "value")) (ab (Et aR (ab (af HN (aa 2) (fC (.int 0))) ah)) ah))))) aA) (aq (ak bL (ab (af HN (aa 0) (fC (.int 0))) (ab (af HN (aa 2) (fC (.int 0))) (ab (af HN (aa 2) (fC (.int 1))) ah)))))))
theorem v5(n:Nat):dD (n+1)=aI 5 (ai (EI (ao (af CP (af HN (aa 0) (fC (.int 0))) (fC (.str "put")))) (aq (ax .tuple (ab (fC (.str "value")) (ab (af HN (aa 0) (fC (.int 1))) ah)))) aA) (ai (EI (ao (af CP (af HN (aa 0) (fC (.int 0))) (fC (.str "got")))) (aq (ax .tuple (ab (fC (.str "value")) (ab (af HN (aa 1) (af HN (aa 0) (fC (.int 1)))) ah)))) aA) (ai (cj 2 ah) (ai (cb 3 iy (f9 (dD n))) jc)))) :=rfl
theorem uO{M:Hl}{T:Tp}{e0 G:Ra}{f:Ra->Ra}:∀(es:List Ra) (acc:List Ra) (o3 o4:Option D.W),(∀e∈es,dz (f e)/\M [.d e,.d G] T=Iv (f e,T))->acc.length+es.length<=1000 ->
  match (es.map f).filter Hv with
  |R::_=>∃ρ',forL 3 (f9 M) es [Iv (.d e0),Iv (.d G),Iv (.loc (.list acc)),o3,o4] T=Iv ((.rt R,ρ'),T)
  |[]=>∃FV Kz,forL 3 (f9 M) es [Iv (.d e0),Iv (.d G),Iv (.loc (.list acc)),o3,o4] T=Iv ((.nx,[Iv (.d e0),Iv (.d G),Iv (.loc (.list (acc++es.map λe=>Js (f e)))),(FV:Option D.W),Kz]),T)
 |[],acc,o3,o4,_,_=>⟨o3,o4,by simp[forL]⟩
 |e::es,acc,o3,o4,h,hl=>by
  obtain⟨t,ht⟩:=h e Rf;have Ka:acc.length<sizeLine:=Rz (by simp at hl;lia:acc.length<1000) (by decide);have go:forL 3 (f9 M) (e::es) [Iv (.d e0),Iv (.d G),Iv (.loc (.list acc)),o3,o4] T=G5 (f9 M [Iv (.d e0),Iv (.d G),Iv (.loc (.list acc)),Iv (.d e),o4] T) (lq (forL 3 (f9 M) es)):=rfl;rw[go]
  rcases rN t with⟨hf,w,_,hw⟩|⟨hf,hv,_⟩
  .rw[R7,Uv,if_pos hf]
   rw[hw] at ht
   have hb:f9 M [Iv (.d e0),Iv (.d G),Iv (.loc (.list acc)),Iv (.d e),o4] T=Iv ((.rt (fl w),[Iv (.d e0),Iv (.d G),Iv (.loc (.list acc)),Iv (.d e),Iv (.d (fl w))]),T):=by
    simp[f9,ht,fl]
   rw[hb,hw];exact⟨_,rfl⟩
  .rw[R7,Uv,hf]
   have ih:=uO (e0:=e0) es (acc++[Js (f e)]) (Iv (.d e)) (Iv (.d (f e))) (λx hx=>h x (Rc _ hx)) (by simp at hl ⊢;lia)
   have hb:f9 M [Iv (.d e0),Iv (.d G),Iv (.loc (.list acc)),Iv (.d e),o4] T=Iv ((.nx,[Iv (.d e0),Iv (.d G),Iv (.loc (.list (acc++[Js (f e)]))),Iv (.d e),Iv (.d (f e))]),T):=by
    generalize hV:Js (f e)=v at hv;rw[hv] at ht ⊢;simp[f9,ht,vl,Ka]
   rw[hb,cG,tI]
   cases hF:(es.map f).filter Hv with
   |nil=>
    rw[hF] at ih;obtain⟨FV,Kz,hi⟩:=ih;exact⟨FV,Kz,by rw[hi];simp⟩
   |cons R r=>
    rw[hF] at ih;exact ih
def vW(G:Ra)(gs:List Ra)(n:Nat)(e:Ra):Prop:=∃R,dz R/\(∀k T,n<k->dD k [.d e,.d (.list gs)] T=Iv (R,T))/\∀k T,n<k->ej k [.d e,.d G] T=Iv (R,T)
structure Cy(e0:Ra)(w0:Str)(es:List Ra):Prop where
 nd:Node e0 w0 es
 w2:∀G T,iy [Iv (.d e0),Iv (.d G),Iv (.loc (.list [])),LG,LG] T=Iv (es,T)
def rD{es:List Ra}{f:Ra->Ra}(N:Cy e0 w0 es)
  (hf:∀e∈es,dz (f e)/\(∀k T,n<k->dD k [.d e,.d (.list gs)] T=Iv (f e,T))/\∀k T,n<k->ej k [.d e,.d G] T=Iv (f e,T))
  (fin:(∀e∈es,f e=vl (Js (f e))/\ay (Js (f e))=KN)->∃R,dz R/\(∀T,bw [.d (.str w0),.d (.list (es.map λe=>Js (f e)))] T=Iv (R,T))/\∀o3 o4 T,cI (jc [Iv (.d e0),Iv (.d (.list gs)),Iv (.loc (.list (es.map λe=>Js (f e)))),o3,o4] T)=Iv (R,T)):vW G gs (n+1) e0:=by
 have ix:=N.nd.ix;have np:=N.nd.np;have ng:=N.nd.ng;have byP:∀k T,n<k->(∀e∈es,dz (f e)/\ej k [.d e,.d G] T=Iv (f e,T)):=λk T hk e he=>⟨(hf e he).1,(hf e he).2.2 k T hk⟩;have byL:∀k T,n<k->(∀e∈es,dz (f e)/\dD k [.d e,.d (.list gs)] T=Iv (f e,T)):=λk T hk e he=>⟨(hf e he).1,(hf e he).2.1 k T hk⟩
 cases hF:(es.map f).filter Hv with
 |cons R r=>
  have hR:R∈(es.map f).filter Hv:=by simp_all
  obtain⟨e,he,eR⟩:=Rl.mp (SR.mp hR).1;refine⟨R,by rw[←eR];exact(hf e he).1,λk T hk=>?_,λk T hk=>?_⟩
  .obtain⟨k,rfl⟩:=qW k (by omega)
   have lp:=uO (e0:=e0) es [] LG LG (byL k T (by omega)) (by have:=N.nd.ln;simp;omega);rw[hF] at lp;obtain⟨ρ',lp⟩:=lp;rw[v5];simp[ix,np,ng,N.w2,lp]
  .obtain⟨k,rfl⟩:=qW k (by omega)
   have lp:=rP (e0:=e0) es [] LG LG (byP k T (by omega)) (by have:=N.nd.ln;simp;omega);rw[hF] at lp;obtain⟨ρ',lp⟩:=lp;rw[wJ];simp[ix,np,ng,N.nd.w1,lp]
 |nil=>
  have all:∀e∈es,f e=vl (Js (f e))/\ay (Js (f e))=KN:=λe he=>by
   rcases rN (hf e he).1 with⟨h1,_⟩|⟨_,h2⟩
   .have:f e∈(es.map f).filter Hv:=SR.mpr ⟨Rl.mpr ⟨e,he,rfl⟩,h1⟩
    rw[hF] at this;cases this
   .exact h2
  obtain⟨R,t,q1,q2⟩:=fin all;refine⟨R,t,λk T hk=>?_,λk T hk=>?_⟩
  .obtain⟨k,rfl⟩:=qW k (by omega)
   have lp:=uO (e0:=e0) es [] LG LG (byL k T (by omega)) (by have:=N.nd.ln;simp;omega);rw[hF] at lp;obtain⟨FV,Kz,lp⟩:=lp;rw[v5];have q:=q2 FV Kz T;simp[ix,np,ng,N.w2,lp,q]
  .obtain⟨k,rfl⟩:=qW k (by omega)
   have lp:=rP (e0:=e0) es [] LG LG (byP k T (by omega)) (by have:=N.nd.ln;simp;omega);rw[hF] at lp;obtain⟨FV,Kz,lp⟩:=lp;have cf:∀T,fu bw [.d (.str w0),.d (.list (es.map λe=>Js (f e)))] T=Iv (.d R,T):=λT=>jO rfl (q1 []) (oX t);rw[wJ];simp[ix,np,ng,N.nd.w1,lp,cf]
def rq{G:Ra}{gs:List Ra}{n:Nat}{es:List Ra}(h:∀e∈es,vW G gs n e):∃f:Ra->Ra,∀e∈es,dz (f e)/\(∀k T,n<k->dD k [.d e,.d (.list gs)] T=Iv (f e,T))/\∀k T,n<k->ej k [.d e,.d G] T=Iv (f e,T):=by
 classical
 refine⟨λe=>if h':e∈es then (h e h').choose else .none,λe he=>?_⟩;simp only[dif_pos he];exact(h e he).choose_spec
def Ex.tup(h:Ex m n e):∃xs,e=.tuple xs:=by cases h <;> exact⟨_,rfl⟩
def wI(hG:BO G gs)(hg:∀g∈gs,ay g=KN)(hm:m<=(gs.length:Int)):∀(n:Nat) (e:Ra),Ex m n e->vW G gs n e:=by
 intro n e h
 induction h with
 |put hv=>
  rename_i n v;refine⟨vl v,.inl ⟨v,rfl,hv⟩,λk T hk=>?_,λk T hk=>?_⟩
  .obtain⟨k,rfl⟩:∃j,k=j+1:=⟨k-1,by lia⟩
   kernel_rfl
  .obtain⟨k,rfl⟩:∃j,k=j+1:=⟨k-1,by lia⟩
   kernel_rfl
 |got h0 h1=>
  rename_i n i;obtain⟨g,e,hgm⟩:=gI (xs:=gs) h0 (by lia);refine⟨vl g,.inl ⟨g,rfl,hg g hgm⟩,λk T hk=>?_,λk T hk=>?_⟩
  .obtain⟨k,rfl⟩:∃j,k=j+1:=⟨k-1,by lia⟩
   simp[dD,vl,e]
  .obtain⟨k,rfl⟩:∃j,k=j+1:=⟨k-1,by lia⟩
   simp[ej,vl,hG i,e]
 |row hl _ ih=>
  rename_i n es _;obtain⟨f,hf⟩:=rq ih
  have e1:∀T,fO [.d (.tuple [.str "row",.tuple es])] T=Iv (.list es,T):=λT=>rfl
  have e2:∀G T,iy [Iv (.d (.tuple [.str "row",.tuple es])),Iv (.d G),Iv (.loc (.list [])),LG,LG] T=Iv (es,T):=λG T=>rfl
  refine rD (w0:=Rb "row") (es:=es) (f:=f) ⟨⟨e1,rfl,by simp,by simp,hl⟩,e2⟩ hf λall=>?_
  have sx:Sm (.tuple (es.map λe=>Js (f e))):=Sm.tup λd hd=>by
   obtain⟨e,he,rfl⟩:=Rl.mp hd;exact j9 (all e he).2
  have bp:BP (.tuple (es.map λe=>Js (f e))):=.inr (.inr ⟨_,rfl,λd hd=>by
   obtain⟨e,he,rfl⟩:=Rl.mp hd
   exact(ck (all e he).2).1⟩)
  refine⟨bd (.tuple (es.map λe=>Js (f e))),pL _,λT=>?_,λo3 o4 T=>?_⟩
  .simp[bw,oV T sx]
  .have lv:=mf T bp
   generalize es.map (λe=>Js (f e))=ps at lv ⊢
   cases hv:ay (.tuple ps) <;> simp[jc,lv,hv,bd,vl,fl,D.b6]
 |many _ ih=>
  rename_i n e he;obtain⟨xs,M0⟩:=Ex.tup he;obtain⟨f,hf⟩:=rq (es:=[e]) (λx hx=>by rw[RD.mp hx];exact ih)
  have e1:∀T,fO [.d (.tuple [.str "many",e])] T=Iv (.list [e],T):=λT=>rfl
  have e2:∀G T,iy [Iv (.d (.tuple [.str "many",e])),Iv (.d G),Iv (.loc (.list [])),LG,LG] T=Iv ([e],T):=λG T=>by subst M0;kernel_rfl
  refine rD (w0:=Rb "many") (es:=[e]) (f:=f) ⟨⟨e1,rfl,by simp,by simp,by simp⟩,e2⟩ hf λall=>?_;obtain⟨a1,a2⟩:=all e (by simp);generalize hV:Js (f e)=v at a1 a2
  rcases eN a2 with⟨i,rfl,hi⟩|⟨x,rfl,hx,_⟩|⟨ds,rfl,hd⟩
  .refine⟨fl "kind",dj,λT=>?_,λo3 o4 T=>?_⟩
   .simp[bw,lD,hV,fl]
   .simp[jc,hV,fl]
  .have Dm:x.length<=sizeLine:=cY (by lia)
   refine⟨vl (.int x.length),.inl ⟨_,rfl,pI (by lia) (by lia)⟩,λT=>?_,λo3 o4 T=>?_⟩
   .simp[bw,lD,hV,vl,Dm]
   .simp[jc,hV,vl,Dm]
  .refine⟨vl (.int ds.length),.inl ⟨_,rfl,pI (by lia) (by lia)⟩,λT=>?_,λo3 o4 T=>?_⟩
   .simp[bw,lD,hV,vl]
   .simp[jc,hV,vl]
 |pair hw ha hb yb yw=>
  rename_i n w a b;obtain⟨xs,M0⟩:=Ex.tup ha
  obtain⟨f,hf⟩:=rq (es:=[a,b]) (λx hx=>by
   simp at hx
   rcases hx with rfl|rfl
   .exact yb
   .exact yw)
  have ne:¬w="put"/\¬w="got"/\¬w="row"/\¬w="many":=by
   simp[PW] at hw
   rcases hw with rfl|rfl|rfl|rfl|rfl <;> simp
  obtain⟨n1,n2,n4,n5⟩:=ne
  have e1:∀T,fO [.d (.tuple [.str (Rb w),a,b])] T=Iv (.list [a,b],T):=λT=>by simp[fO,nV,n1,n2,n4]
  have e2:∀G T,iy [Iv (.d (.tuple [.str (Rb w),a,b])),Iv (.d G),Iv (.loc (.list [])),LG,LG] T=Iv ([a,b],T):=λG T=>by subst M0;simp[iy,nV,D.intD,D.dH,n4]
  refine rD (w0:=Rb w) (es:=[a,b]) (f:=f) ⟨⟨e1,rfl,by simp[n1],by simp[n2],by simp⟩,e2⟩ hf λall=>?_;obtain⟨a1,a2⟩:=all a (by simp);obtain⟨b1,b2⟩:=all b (by simp);obtain⟨R,t,q1,q2⟩:=zky hw a2 b2;refine⟨R,t,λT=>q1 T,λo3 o4 T=>?_⟩;simp[jc,n4,n5,q2]
noncomputable def cst:Nat->Ra->List Nat
 |n+1,.tuple ds=>40::(aX [44] (ds.map (cst n))++[41])
 |0,.tuple _=>[]
 |_,.int i=>nc i
 |_,.str x=>39::cd x
 |_,_=>[]
def j7(n:Nat)(i:Int):cst n (.int i)=nc i:=by cases n <;> rfl
def j6(n:Nat)(x:Str):cst n (.str x)=39::cd x:=by cases n <;> rfl
def xV{d:Ra}{n:Nat}(h:single d=KN):(cst n d).length<=21:=by
 rcases cz h with⟨i,rfl⟩|⟨x,rfl⟩
 .rw[j7]
  have:=ul h
  lia
 .rw[j6]
  have h':(decide _&&has G9 x)=KN:=h;rw[Ro] at h';have:=of_decide_eq_true h'.1;rw[Se,cU]
  lia
theorem oA(f:Ra->List Nat):∀ds:List Ra,(ds.map λd=>(f d).length).sum+ds.length<=(aX [44] (ds.map f)).length+1/\(aX [44] (ds.map f)).length<=(ds.map λd=>(f d).length).sum+ds.length
 |[]=>by simp[aX]
 |[d]=>by simp[aX]
 |d::e::r=>by
  have ih:=oA f (e::r);have e1:aX [44] ((d::e::r).map f)=f d++[44]++aX [44] _:=rfl
  simp_all
  lia
theorem tw{n:Nat}:∀{ds:List Ra},(∀d∈ds,((cst n d).length:Int)+1<=25*aH n d)->(((ds.map λd=>(cst n d).length).sum+ds.length:Nat):Int)<=25*(ds.map (aH n)).sum
 |[],_=>by simp
 |d::r,h=>by
  have h2:=tw  λx hx=>h x (Rc _ hx)<;>grind
theorem tO:∀(n:Nat) (d:Ra),aC n d=KN->((cst n d).length:Int)+1<=25*aH n d
 |n,d,h=>by
  rcases bZ h with h1|⟨m,ds,rfl,rfl,h8,hb⟩
  .have:=xV (n:=n) h1
   have:=pA n d
   lia
  .have ih:=tO m
   have h1:=tw  λd hd=>ih d (hb d hd);have h2:=(oA (cst m) ds).2
   show (((40::_).length):Int)+1<=25*(1+(ds.map _).sum)<;>grind
termination_by n=>n
def zy(h:single (.int i)=KN):nI [.int i]=Iv (.str (mk (nc i))):=by
 have h1:=lM h
 have h2:i.natAbs.log2<1920:=by
  by_cases z:i.natAbs=0
  .rw[z];decide
  .exact Rz ((W0 (k:=64) z).mpr (R5 h1 (by decide))) (by decide)
 have e:Rb _=mk (nc i):=dZ (by rw[Bg,cO]);show (if i.natAbs.log2<1920 then Iv _ else LG)=_;rw[if_pos h2,e]
def kh(a b:List Nat):mk a++mk b=mk (a++b):=dZ (by rw[ji,cO,cO,cO])
def lit(h:cd (Rb s)=l):Rb s=mk l:=dZ (by rw[h,cO])
def zj(f:Ra->List Nat)(ds:List Ra):((ds.map λd=>mk (f d)).map (·.length)).sum=(ds.map λd=>(f d).length).sum:=by
 rw[Sk];exact congrArg _ (RV λd _=>bW _)
def zu(f:Ra->List Nat)(ds:List Ra):Wc (mk [44]) (ds.map λd=>mk (f d))=mk (aX [44] (ds.map f)):=dZ (by
 rw[my,Sk]
 exact congrArg _ (RV λd _=>cO _))
def yC{m:Nat}{ds:List Ra}(hm:aH (m+1) (.tuple ds)<=40)(hb:∀x∈ds,aC m x=KN):(aX [44] (ds.map (cst m))).length<=1000/\(ds.map λd=>(cst m d).length).sum+ds.length<=1000:=by
 have h1:=tw  λd hd=>tO m d (hb d hd);have h2:=(oA (cst m) ds).2;have h3:1+(ds.map (aH m)).sum<=40:=hm
 lia
def str_len{n:Nat}{x:Str}(h:single (.str x)=KN):x.length<=20:=by have h':(decide _&&has G9 x)=KN:=h<;>simp_all
theorem zX:∀(n k:Nat) (d:Ra) (T:Tp),aC n d=KN->aH n d<=40->n<k->ei k [.d d] T=Iv (.str (mk (cst n d)),T)
 |n,0,d,T,h,hm,hk=>absurd hk (SD _)
 |n,k+1,d,T,h,hm,hk=>by
  have q1:=lit (s:="'") (l:=[39]) (rfl);have q2:=lit (s:="(") (l:=[40]) (rfl);have q3:=lit (s:=")") (l:=[41]) (rfl);have q4:=lit (s:=",") (l:=[44]) (rfl)
  rcases bZ h with h1|⟨m,ds,rfl,rfl,h8,hb⟩
  .rcases cz h1 with⟨i,rfl⟩|⟨x,rfl⟩
   .simp[ei,j8,whole,zy h1,j7]
   .have e:mk [39]++x=mk (39::cd x):=by rw[←uN x,kh,cO];rfl
    have l:(mk [39]).length+x.length<=sizeLine:=cY (by rw[bW];have:=str_len (n:=0) h1;simp;lia);simp[ei,j8,whole,j6,ur,q1,l,e]
  .obtain⟨l1,l2⟩:=yC hm hb
   have c:=en (e:=ak (ei k) (ab (aa 0) ah)) (ρ:=[Iv (.d (.tuple ds))]) (T:=T) (g:=λd=>.str (mk (cst m d))) (ds:=ds) λd hd=>by
    have:=zX m k d T (hb d hd) (ZV (rY hd) hm) (by lia);simp[this]
   have j:=yt (z:=mk [44]) (jN (λd=>mk (cst m d)) ds);rw[zj,zu,R4,bW] at j;rw[if_pos (by simp;lia)] at j;have a1:(mk [40]).length+(mk (aX [44] (ds.map (cst m)))).length<=sizeLine:=cY (by rw[bW,bW];simp;lia);have a2:(mk (40::aX [44] (ds.map (cst m)))).length+(mk [41]).length<=sizeLine:=cY (by rw[bW,bW];simp;lia)
   have e1:mk [40]++mk (aX [44] (ds.map (cst m)))=mk (40::aX [44] (ds.map (cst m))):=by rw[kh];rfl
   have e2:mk (40::aX [44] (ds.map (cst m)))++mk [41]=mk (cst (m+1) (.tuple ds)):=by rw[kh];rfl
   simp[ei,j8,whole,zjz,q2,q3,q4,c,j,a1,a2,e1,e2]
theorem yK:∀(n k:Nat) (d:Ra) (T:Tp),aC n d=KN->aH n d<=40->n<k->d9 k [.d d] T=Iv (.str (mk (cst n d)),T)
 |n,0,d,T,h,hm,hk=>absurd hk (SD _)
 |n,k+1,d,T,h,hm,hk=>by
  have q1:=lit (s:="'") (l:=[39]) (rfl);have q2:=lit (s:="(") (l:=[40]) (rfl);have q3:=lit (s:=")") (l:=[41]) (rfl);have q4:=lit (s:=",") (l:=[44]) (rfl)
  rcases bZ h with h1|⟨m,ds,rfl,rfl,h8,hb⟩
  .rcases cz h1 with⟨i,rfl⟩|⟨x,rfl⟩
   .simp[d9,zkb,zkc,zy h1,j7]
   .have e:mk [39]++x=mk (39::cd x):=by rw[←uN x,kh,cO];rfl
    have l:(mk [39]).length+x.length<=sizeLine:=cY (by rw[bW];have:=str_len (n:=0) h1;simp;lia);simp[d9,j6,ur,zka,q1,l,e]
  .obtain⟨l1,l2⟩:=yC hm hb
   have c:=en (e:=ak (d9 k) (ab (aa 0) ah)) (ρ:=[Iv (.d (.tuple ds))]) (T:=T) (g:=λd=>.str (mk (cst m d))) (ds:=ds) λd hd=>by
    have:=yK m k d T (hb d hd) (ZV (rY hd) hm) (by lia);simp[this]
   have j:=yt (z:=mk [44]) (jN (λd=>mk (cst m d)) ds);rw[zj,zu,R4,bW] at j;rw[if_pos (by simp;lia)] at j;have a1:(mk [40]).length+(mk (aX [44] (ds.map (cst m)))).length<=sizeLine:=cY (by rw[bW,bW];simp;lia);have a2:(mk (40::aX [44] (ds.map (cst m)))).length+(mk [41]).length<=sizeLine:=cY (by rw[bW,bW];simp;lia)
   have e1:mk [40]++mk (aX [44] (ds.map (cst m)))=mk (40::aX [44] (ds.map (cst m))):=by rw[kh];rfl
   have e2:mk (40::aX [44] (ds.map (cst m)))++mk [41]=mk (cst (m+1) (.tuple ds)):=by rw[kh];rfl
   simp[d9,ku,q2,q3,q4,c,j,a1,a2,e1,e2]
def eX:FT:=(ao (af DN (af HN (aa 0) (fC (.int 0))) (fC (.str "fail"))))
def Ce:FS:=(aq (ax .tuple (ab (aa 4) (ab (ax .tuple (ab (fC (.str "fails")) (ab (af HN (aa 0) (fC (.int 1))) ah))) ah))))
theorem xf:gY=aI 7 (ai (cj 3 ah) (ai (cj 4 ah) (ai (bc eX et 100000) Ce))):=rfl
def mx(T:Tp)(h:ay v=KN):d9 25 [.d v] T=Iv (.str (mk (cst 4 v)),T):=yK 4 25 v T (ck h).1 (ck h).2 (by simp)
noncomputable def Hu(r G w:Ra)(gs rd:List Ra)(o o':Option D.W):XE:=[Iv (.d r),Iv (.d G),Iv (.d w),Iv (.loc (.list gs)),Iv (.loc (.list rd)),o,o']
def FG(m:Nat)(r G w:Ra)(gs rd:List Ra)(o o':Option D.W)(T:Tp):Option (Ra×Tp):=cI (G5 (bc eX et m (Hu r G w gs rd o o') T) (fF Ce))
def bt(w:String)(x:Ra):PyData:=.tuple [.str (Rb w),x]
def L0(v:Ra):PyData:=.str (mk (cst 4 v))
def cx(b:Bool)(x:Str)(v:Ra):List PyData:=if b then [] else [.tuple [.str x,v]]
def nW(b:Bool):PyData:=.str (Rb (if b then "peek" else "want"))
def dQ(b:Bool)(G w:Ra)(k:Nat)(x:Str)(T:Tp):Option (Ra×Tp):=gW [.d (nW b),.d G,.d w,.d (.int k),.d (.str x)] T
def nZ(n:Nat)(r:Ra)(gs:List Ra)(S:Ra):Prop:=∀(G w:Ra) (m:Nat) (rd:List Ra) (o o':Option D.W) (T:Tp),n<m->rd.length<1000 ->
 (∀v,S=J1 v->FG m r G w gs rd o o' T=Iv (.tuple [.list rd,bt "made" (L0 v)],T)) /\
 (∀x,S=J2 x->FG m r G w gs rd o o' T=Iv (.tuple [.list rd,bt "fails" (.str x)],T)) /\
 (∀b x r',S=Du b x r'->(∀V,dQ b G w rd.length x T=Iv (.tuple V,T)->FG m r G w gs rd o o' T=Iv (.tuple [.list rd,.tuple V],T)) /\
  ∀v,ay v=KN->dQ b G w rd.length x T=Iv (.list [v],T)->∃m' o1 o2,m<=m' + n/\FG m r G w gs rd o o' T=FG m' r' G w (gs++[v]) (rd++cx b x (L0 v)) o1 o2 T)
def fD:J1 v≠J2 x:=by simp[J1,J2]
def zkz(h:ay v=KN):∃b,HQ v (.tuple [.int 0,.str "",.tuple []])=Iv (.bool b)/\inD (.str v.shown) (.list [.str "0",.str "''",.str "()"])=Iv (.bool b):=by
 have z1:ay (.int 0)=KN:=rfl;have z2:ay (.str "")=KN:=rfl;have z3:ay (.tuple [])=KN:=rfl;have s1:=oG z1 h;have s2:=oG z2 h;have s3:=oG z3 h;have t1:(TB 0).shown=Rb "0":=rfl
 have t2:(RF "").shown=Rb "''":=by decide +kernel
 have t3:(Th []).shown=Rb "()":=rfl;rw[t1] at s1;rw[t2] at s2;rw[t3] at s3
 have h2:([TB 0,.str "",.tuple []]).all RE=KN:=by
  kernel_rfl
 have e:HQ v (.tuple [.int 0,.str _,.tuple []])=Iv _:=if_pos ⟨jK h,h2⟩;refine⟨_,e,?_⟩
 have a:([TB 0,.str "",.tuple []].any λy=>RR y v)=(decide (Rb "0"=v.shown)||(decide (Rb "''"=v.shown)||decide (Rb "()"=v.shown))):=by
  simp;rw[pX z1 h,pX z2 h,pX z3 h,s1,s2,s3]
 rw[a]
 have q:∀a b:Str,(a == b)=decide _:=λa b=>by first|rfl|omega
 simp[inD,Fp,dr,JA,q]
theorem zla:FG (m+1) (.tuple [.str "fail",.str x]) G w gs rd o o1 T=Iv (.tuple [.list rd,bt "fails" (.str x)],T) :=rfl
def whl{c:FT}{b:FS}{m:Nat}{ρ:XE}{T:Tp}(h:c ρ T=Iv (KN,T)):bc c b (m+1) ρ T=G5 (b ρ T) λp T2=>match p with
   |(.nx,JT)=>bc c b m JT T2
   |(.ct,JT)=>bc c b m JT T2
   |(.bk,JT)=>Iv ((.nx,JT),T2)
   |(.rt x,JT)=>Iv ((.rt x,JT),T2)
   |(.ro x,JT)=>Iv ((.ro x,JT),T2):=by
 show G5 _ _=_;rw[h];rfl
def mH{c:FT}{b:FS}{m:Nat}{ρ ρ':XE}{T:Tp}{x:Ra}(h:c ρ T=Iv (KN,T))(hb:b ρ T=Iv ((.rt x,ρ'),T)):bc c b (m+1) ρ T=Iv ((.rt x,ρ'),T):=by rw[whl h,hb];rfl
def i6(h:c ρ T=Iv (KN,T))(hb:b ρ T=Iv ((.nx,ρ'),T)):bc c b (m+1) ρ T=bc c b m ρ' T:=by rw[whl h,hb];rfl
def jW(h:c ρ T=Iv (Lf,T)):bc c b (m+1) ρ T=Iv ((.nx,ρ),T):=by
 show G5 _ _=_;rw[h];rfl
def ky(h:eX (Hu r G w gs rd o o1) T=Iv (KN,T))(hb:et (Hu r G w gs rd o o1) T=Iv ((.rt x,ρ'),T)):FG (m+1) r G w gs rd o o1 T=Iv (x,T):=by
 unfold FG;rw[mH h hb];rfl
def AH(h:eX (Hu r G w gs rd o o1) T=Iv (KN,T))(hb:et (Hu r G w gs rd o o1) T=Iv ((.nx,Hu r' G w gs' rd' o' o2),T)):FG (m+1) r G w gs rd o o1 T=FG m r' G w gs' rd' o' o2 T:=by
 unfold FG;rw[i6 h hb]
theorem AE:bo .lst .tup=Lf:=rfl
def zlb:∀w∈FW,ay (.str (Rb w))=KN:=by decide +kernel
def ud{gs:List Ra}{e:Ra}{rest:List Ra}{w0:Ra}{u:String}(hu:u∈FW)(tl:∀T,fu (dD 25) [.d e,.loc (.list gs)] T=Iv (.d (fl u),T)){G w:Ra}{rd:List Ra}{o o1:Option D.W}{T:Tp} :
  et (Hu (.tuple (w0::e::rest)) G w gs rd o o1) T=Iv ((.rt (.tuple [.list rd,bt "fails" (.str (Rb u))]),Hu (.tuple (w0::e::rest)) G w gs rd (Iv (.d (fl u))) o1),T):=by
 have e1:HN (.tuple (w0::e::rest)) (.int 1)=Iv e:=by
  exact qb rfl
 have ls:=λT=>mx T (zlb u hu);simp[et,Hu,e1,tl,fl,bt,ls]
def sq(c:Bool)(gs:List Ra):PyData:=if c then .tuple gs else .list gs
def AG(c:Bool)(gs:List Ra):BO (sq c gs) gs:=by cases c <;> exact λ_=>rfl
def sE(hv:∀v∈gs,ay v=KN)(hm:m<=gs.length)(n:Nat)(e:Ra)(he:Ex m n e):∃R,dz R/\(∀k T,n<k->dD k [.d e,.d (.list gs)] T=Iv (R,T))/\∀c k T,n<k->ej k [.d e,.d (sq c gs)] T=Iv (R,T):=by
 obtain⟨R,t,hL,hP⟩:=wI (AG KN gs) hv hm n e he;obtain⟨R',t',hL',hP'⟩:=wI (AG _ gs) hv hm n e he
 have:R=R':=by
  have h1:=hL (n+1) [] (by lia)<;>simp_all
 subst this;exact⟨R,t,hL,λc=>by cases c <;> assumption⟩
def zlc:∀(n g:Nat) (r:Ra),Rg p g n r->∀gs:List Ra,gs.length=g->(∀v∈gs,ay v=KN)->n<=20->∃S,Dv p g n S/\(∀c k T,n<k->bU k [.d r,.d (sq c gs)] T=Iv (S,T))/\nZ n r gs S:=by
 intro n g r h
 induction h with
 |fail hx=>
  rename_i g n x;intro gs hl hv hn;refine⟨J2 x,.fl hx,λc k T hk=>?_,λG w m rd o o1 T hm hr=>⟨λv e=>absurd e.symm fD,λy e=>?_,λb y r' e=>?_⟩⟩
  .obtain⟨k,rfl⟩:∃j,k=j+1:=⟨k-1,by lia⟩
   kernel_rfl
  .obtain⟨m,rfl⟩:∃j,m=j+1:=⟨m-1,by lia⟩
   have:x=y:=by simpa[J2] using e
   subst this;exact zla
  .cases b <;> simp[J2,Du] at e
 |say he=>
  rename_i g n e;intro gs hl hv hn;obtain⟨R,t,hL,hP⟩:=sE hv (by rw[hl];exact T9 _) n e he;have tb:=λc T=>hP c 25 T (by lia);have tl:∀T,fu (dD 25) [.d e,.loc (.list gs)] T=Iv (.d R,T):=λT=>jO rfl (hL 25 [] (by lia)) (oX t)
  rcases t with⟨v,rfl,Gr⟩|⟨u,hu,rfl⟩
  .have ls:=λT=>mx T Gr
   refine⟨J1 v,.md Gr,λc k T hk=>?_,λG w m rd o o1 T hm hr=>⟨λu e'=>?_,λy e'=>absurd e' fD,λb y r' e'=>?_⟩⟩
   .obtain⟨k,rfl⟩:∃j,k=j+1:=⟨k-1,by lia⟩
    simp[bU,J1,tb,vl]
   .obtain⟨m,rfl⟩:∃j,m=j+1:=⟨m-1,by lia⟩
    have:v=u:=by simpa[J1] using e'
    subst this;exact ky (rfl) (by simp[et,Hu,tl,vl,bt,ls,L0,D.intD];rfl)
   .cases b <;> simp[J1,Du] at e'
  .refine⟨J2 (Rb u),.fl (tG u hu),λc k T hk=>?_,λG w m rd o o1 T hm hr=>⟨λu e'=>absurd e'.symm fD,λy e'=>?_,λb y r' e'=>?_⟩⟩
   .obtain⟨k,rfl⟩:∃j,k=j+1:=⟨k-1,by lia⟩
    simp[bU,J2,tb,fl]
   .obtain⟨m,rfl⟩:∃j,m=j+1:=⟨m-1,by lia⟩
    have:Rb u=y:=by simpa[J2] using e'
    subst this;exact ky (rfl) (ud hu tl)
   .cases b <;> simp[J2,Du] at e'
 |ask hw hg he hr ih=>
  rename_i g n w e r;intro gs hl hv hn;obtain⟨R,t,hL,hP⟩:=sE hv (by rw[hl];exact T9 _) n e he;have tb:=λc T=>hP c 25 T (by lia);have tl:∀T,fu (dD 25) [.d e,.loc (.list gs)] T=Iv (.d R,T):=λT=>jO rfl (hL 25 [] (by lia)) (oX t)
  obtain⟨b,hb,hbp⟩:∃b:Bool,w=(if b then "peek" else "want")/\(b=KN->p=KN):=by
   rcases hw with rfl|⟨rfl,hp⟩
   .exact⟨Lf,rfl,λz=>by cases z⟩
   .exact⟨KN,rfl,λ_=>hp⟩
  have nw:¬w="fail"/\¬w="when"/\¬w="say":=by rw[hb];cases b <;> simp
  obtain⟨n1,n2,n3⟩:=nw;have hgl:gs.length<sizeLine:=Rz (by lia:gs.length<1000) (by decide)
  rcases t with⟨v,rfl,Gr⟩|⟨u,hu,rfl⟩
  .have ln:=λT=>yM (d:=v) T (j9 Gr)
   have ll:=λT=>zkr (v:=v) T Gr
   cases hi:isName v with
   |false=>
    refine⟨J2 "name",.fl zh,λc k T hk=>?_,λG w m rd o o1 T hm hr=>⟨λu e'=>absurd e'.symm fD,λy e'=>?_,λb y r' e'=>?_⟩⟩
    .obtain⟨k,rfl⟩:∃j,k=j+1:=⟨k-1,by lia⟩
     simp[bU,J2,tb,vl,n1,n2,n3,ln,hi]
    .obtain⟨m,rfl⟩:∃j,m=j+1:=⟨m-1,by lia⟩
     have:Rb "name"=y:=by simpa[J2] using e'
     subst this;exact ky (by simp[eX,Hu,n1]) (by simp[et,Hu,tl,vl,bt,n2,n3,ll,hi];rfl)
    .cases b <;> simp[J2,Du] at e'
   |true=>
    obtain⟨x,rfl⟩:∃x,v=.str x:=by cases v <;> first|exact⟨_,rfl⟩|cases hi
    refine⟨Du b x r,.ask hbp hi hg (WZ n) hr,λc k T hk=>?_,λG wr m rd o o1 T hm hrd=>⟨λu e'=>?_,λy e'=>?_,λb' y r' e'=>?_⟩⟩
    .obtain⟨k,rfl⟩:∃j,k=j+1:=⟨k-1,by lia⟩
     simp[bU,Du,tb,vl,n1,n2,n3,ln,hi,hb]
     cases b <;> simp
    .cases b <;> simp[J1,Du] at e'
    .cases b <;> simp[J2,Du] at e'
    .obtain⟨m,rfl⟩:∃j,m=j+1:=⟨m-1,by lia⟩
     have hc:eX (Hu (.tuple [.str (Rb w),e,r]) G wr gs rd o o1) T=Iv (KN,T):=by simp[eX,Hu,n1]
     obtain⟨rfl,rfl,rfl⟩:b=b'/\x=y/\r=r':=by
      cases b <;> cases b' <;> simp[Du] at e' <;> simp[e']
     have hrl:rd.length<sizeLine:=Rz hrd (by decide)
     have aw:RF (Rb w)=nW b:=by rw[hb];rfl
     refine⟨λV hk=>ky hc (ρ':=Hu (.tuple [.str (Rb w),e,r]) G wr gs rd (Iv (.d (vl (.str x)))) (Iv (.d (.tuple V)))) ?_,λv EL hk=>⟨m,Iv (.d (vl (.str x))),Iv (.d (.list [v])),by lia,?_⟩⟩
     .unfold dQ at hk
      rw[←aw] at hk;simp[et,Hu,tl,vl,n2,n3,ll,hi,hk,ku]
     .have ls:=λT=>mx T EL
      unfold dQ at hk;rw[←aw] at hk;refine AH hc ?_
      cases b with
      |true=>
       subst hb;simp at hk;simp[et,Hu,tl,vl,n2,n3,ll,hi,hk,hgl,cx,AE]
      |false=>
       subst hb;simp at hk;simp[et,Hu,tl,vl,n2,n3,ll,hi,hk,hgl,hrl,cx,AE,ls,L0]
  .refine⟨J2 (Rb u),.fl (tG u hu),λc k T hk=>?_,λG w m rd o o1 T hm hr=>⟨λu e'=>absurd e'.symm fD,λy e'=>?_,λb y r' e'=>?_⟩⟩
   .obtain⟨k,rfl⟩:∃j,k=j+1:=⟨k-1,by lia⟩
    simp[bU,J2,tb,fl,n1]
   .obtain⟨m,rfl⟩:∃j,m=j+1:=⟨m-1,by lia⟩
    have:Rb u=y:=by simpa[J2] using e'
    subst this;exact ky (by simp[eX,Hu,n1]) (ud hu tl)
   .cases b <;> simp[J2,Du] at e'
 |whn he hr hs ihr ihs=>
  rename_i g n e r s;intro gs hl hv hn;obtain⟨R,t,hL,hP⟩:=sE hv (by rw[hl];exact T9 _) n e he;have tb:=λc T=>hP c 25 T (by lia);have tl:∀T,fu (dD 25) [.d e,.loc (.list gs)] T=Iv (.d R,T):=λT=>jO rfl (hL 25 [] (by lia)) (oX t)
  have hc:∀G w rd o o1 T,eX (Hu (.tuple [.str "when",e,r,s]) G w gs rd o o1) T=Iv (KN,T):=λG w rd o o1 T=>by simp[eX,Hu,qQ]
  rcases t with⟨v,rfl,Gr⟩|⟨u,hu,rfl⟩
  .obtain⟨b,hb,hb2⟩:=zkz Gr
   have gd:=rG Gr
   have key:∀q,q=(if b=KN then s else r)->∀S,Dv p g n S->(∀c k T,n<k->bU k [.d q,.d (sq c gs)] T=Iv (S,T))->nZ n q gs S->∃S,Dv p g (n+1) S/\(∀c k T,n+1<k->bU k [.d (.tuple [.str "when",e,r,s]),.d (sq c gs)] T=Iv (S,T))/\nZ (n+1) (.tuple [.str "when",e,r,s]) gs S:=by
    intro q hq S hS E9 Mz;refine⟨S,hS.up (WZ n),λc k T hk=>?_,λG w m rd o o1 T hm hrd=>?_⟩
    .obtain⟨k,rfl⟩:∃j,k=j+1:=⟨k-1,by lia⟩
     have:=E9 c k T (by lia)
     cases b <;> (simp at hq;subst hq;simp[bU,tb,vl,hb,qQ,uX,BS,BR,this])
    .obtain⟨m,rfl⟩:∃j,m=j+1:=⟨m-1,by lia⟩
     have st:FG (m+1) (.tuple [.str "when",e,r,s]) G w gs rd o o1 T=FG m q G w gs rd (Iv (.d (vl v))) o1 T:=by
      refine AH (hc G w rd o o1 T) ?_
      cases b <;> (simp at hq;subst hq;simp[et,Hu,tl,vl,ma gd,hb2,qQ,uX,BS,BR,D.intD])
     obtain⟨a1,a2,a3⟩:=Mz G w m rd (Iv (.d (vl v))) o1 T (by lia) hrd;refine⟨λu e'=>by rw[st];exact a1 u e',λy e'=>by rw[st];exact a2 y e',λb' y r' e'=>?_⟩;obtain⟨c1,c2⟩:=a3 b' y r' e';refine⟨λV hk=>by rw[st];exact c1 V hk,λw hw hk=>?_⟩;obtain⟨m',o',o2,l,q'⟩:=c2 w hw hk;exact⟨m',o',o2,by lia,by rw[st];exact q'⟩
   cases b with
   |true=>
    obtain⟨S,h1,h2,h3⟩:=ihs gs hl hv (by lia);exact key s rfl S h1 h2 h3
   |false=>
    obtain⟨S,h1,h2,h3⟩:=ihr gs hl hv (by lia);exact key r rfl S h1 h2 h3
  .refine⟨J2 (Rb u),.fl (tG u hu),λc k T hk=>?_,λG w m rd o o1 T hm hr=>⟨λu e'=>absurd e'.symm fD,λy e'=>?_,λb y r' e'=>?_⟩⟩
   .obtain⟨k,rfl⟩:∃j,k=j+1:=⟨k-1,by lia⟩
    simp[bU,J2,tb,fl,qQ,uX]
   .obtain⟨m,rfl⟩:∃j,m=j+1:=⟨m-1,by lia⟩
    have:Rb u=y:=by simpa[J2] using e'
    subst this;exact ky (hc G w rd o o1 T) (ud hu tl)
   .cases b <;> simp[J2,Du] at e'
def Gn:Str:=Rb "0123456789"
def dl(c:Nat):Bool:=decide (c∈cd "(),")
def AO(c:Nat):dl c=decide (c=40\/c=41\/c=44):=by
 have e:cd "(),"=[40,41,44]:=rfl
 unfold dl<;>simp_all
def W(l:List Nat):List Nat:=l.takeWhile λc=>!dl c
def gr(w:List Nat):Bool:=!decide (w=[])&&w.all (λc=>decide (c∈cd Gn))&&(decide (w=[48])||!decide (w.head? = Iv 48))
def Bv(h:cd y=l):decide (x=y)=decide (cd x=l):=by refine decide_eq_decide.mpr ⟨λe=>by rw[e,h],λe=>dZ (by rw[e,h])⟩
def zld(T:Tp)(h:x.length<=Rp):gS [.d (.str x)] T=Iv (.bool (gr (cd x)),T):=by
 have h1:∀T,gB [.d _,.d (.str "0123456789")] T=Iv (.bool (has Gn x),T):=λT=>uW T h;have e1:decide (x=Rb "")=decide (cd x=[]):=Bv (rfl);have e2:decide (x=Rb "0")=decide (cd x=[48]):=Bv (rfl)
 have e3:Ti x "0"=decide ((cd x).head? = Iv 48):=by
  have:Rb "0"=⟨#[48]⟩:=dZ (rfl);rw[this,vR]
 have e4:has Gn x=(cd x).all (λc=>decide (c∈cd Gn)):=rfl;have p1:=propext (by simpa using e1);have p2:=propext (by simpa using e2);unfold gr;rw[←e4]
 by_cases hn:cd x=[]
 .simp[gS,p1,hn]
 .cases hf:has Gn x with
  |false=>simp[gS,h1,hf]
  |true=>
   by_cases h0:cd x=[48]
   .simp[gS,h1,p1,p2,hf,h0]
   .simp[gS,h1,p1,p2,e3,hn,hf,h0]
noncomputable def ju:Option Int->Ra
 |some i=>.int i
 |none=>.none
def nK:Option Ra->Ra
 |some i=>i
 |none=>.none
def M4(w:List Nat):Bool:=w.all (λc=>decide (c∈cd Gn))
theorem xn:cd Gn=[48,49,50,51,52,53,54,55,56,57] :=rfl
def zle(h:M4 w=KN):U1 w:=λc hc=>by
 have:=of_decide_eq_true (Rq.mp h c hc);rw[xn] at this;simp at this;omega
def zlf(h:gr w=KN):U1 w/\w≠[]:=by
 unfold gr at h;rw[Ro,Ro] at h;exact⟨zle h.1.2,by simpa using h.1.1⟩
def fg(w:List Nat):List Nat:=if w.head? = Iv 45 then w.tail else w
def qZ(w:List Nat):Option Int:=if w=[45,48]\/19<(fg w).length\/gr (fg w)=Lf then LG else Iv (if w.head? = Iv 45 then -((SN w.tail:Nat):Int) else ((SN w:Nat):Int))
def vS(h:cd y=[c]):Ti x y=decide ((cd x).head? = Iv c):=by
 have:y=⟨#[c]⟩:=dZ (by rw[h];rfl);rw[this,vR]
def zlg(T:Tp)(h:x.length<=Rp):lG [.d (.str x)] T=Iv (ju (qZ (cd x)),T):=by
 have e1:Ti x "-"=decide ((cd x).head? = Iv 45):=vS (rfl);have p2:(x=Rb "-0")=(cd x=[45,48]):=propext ⟨λe=>by rw[e];decide +kernel,λe=>dZ (by rw[e];decide +kernel)⟩;have hl:=cU x
 obtain⟨f,hf,hfl,hfe⟩:∃f:Str,cd f=fg (cd x)/\f.length<=x.length/\∀T,cD (aJ (af hJ (aa 0) (fC (.str "-")))) (Ig (aa 0) (fP (fC (.int 1))) bE) (aa 0) [Iv (.d (.str x)),LG] T=Iv (.d (.str f),T):=by
  by_cases hm:(cd x).head? = Iv 45
  .have Kp:1<=x.length:=by
    rw[←hl]
    cases hx:cd x with
    |nil=>rw[hx] at hm;cases hm
    |cons _ _=>simp
   refine⟨Sy x (Iv 1) LG,?_,ZW _ _ _,λT=>by simp[e1,hm,h]⟩;rw[lK (by decide) (by lia)];unfold fg;rw[if_pos hm];simp
  .refine⟨x,?_,Rn _,λT=>by simp[e1,hm]⟩
   unfold fg;rw[if_neg hm]
 have Jh:f.length<=sizeLine:=RL hfl h;have h1:=λT=>zld (x:=f) T Jh
 have hfl':f.length=(fg (cd x)).length:=by rw[←hf,cU]
 unfold qZ
 have start:lG [.d (.str x)] T=cI (G5 (G5 (cD (aJ (af hJ (aa 0) (fC (.str "-")))) (Ig (aa 0) (fP (fC (.int 1))) bE) (aa 0) [Iv (.d (.str x)),LG] T) (qU 1 [Iv (.d (.str x)),LG])) (fF (ai (EI (bq (ao (af CP (aa 0) (fC (.str "-0")))) (bq (ao (af FU (Et aR (ab (aa 1) ah)) (fC (.int 19)))) (bj (aJ (ak gS (ab (aa 1) ah)))))) (aq (fC .none)) aA) (aq (Et intD (ab (aa 0) ah)))))):=rfl
 rw[start,hfe]
 by_cases c1:cd x=[45,48]
 .rw[if_pos (.inl c1)]
  simp[p2,c1,ju]
 .by_cases c2:19<(fg (cd x)).length
  .rw[if_pos (.inr (.inl c2))]
   have Hd:(19:Int)<(f.length:Int):=by lia
   simp[p2,c1,Jh,Hd,ju]
  .have Hd:¬(19:Int)<(f.length:Int):=by lia
   cases c3:gr (fg (cd x)) with
   |false=>
    rw[if_pos (.inr (.inr rfl))];simp[p2,c1,Jh,Hd,h1,hf,c3,ju]
   |true=>
    rw[if_neg (by simp[c1,c2])];obtain⟨ad,ne⟩:=zlf c3
    have xl:x.length<=640:=by
     rw[←hl]
     have:(cd x).length<=(fg (cd x)).length+1:=by
      unfold fg;split
      .rw[Yi];lia
      .lia
     lia
    by_cases hm:(cd x).head? = Iv 45
    .have ht:∃cs,cd x=45::cs:=by
      cases hx:cd x with
      |nil=>rw[hx] at hm;cases hm
      |cons a r=>rw[hx] at hm;cases hm;exact⟨r,rfl⟩
     obtain⟨cs,Kl⟩:=ht
     have yh:fg (cd x)=cs:=by unfold fg;rw[if_pos hm,Kl];rfl
     rw[yh] at ad ne;have it:=intText_neg (x:=x) (cs:=cs) Kl ad ne (by lia)
     have vM:intText? x=Iv (-((SN (cd x).tail:Nat):Int)):=by rw[it,Kl];rfl
     simp[p2,c1,Jh,Hd,h1,hf,c3,ju,xl,vM,hm]
    .have yh:fg (cd x)=cd x:=by unfold fg;rw[if_neg hm]
     rw[yh] at ad ne;have it:=intText_digits (x:=x) ad ne (by lia);have vM:intText? x=Iv ((SN (cd x):Nat):Int):=it;simp[p2,c1,Jh,Hd,h1,hf,c3,ju,xl,vM,hm]
def il(w:List Nat):Option PyData:=if w.head? = Iv 39 then Iv (.str (mk w.tail)) else (qZ w).map .int
def zlh(o:Option Int):ju o=nK (o.map .int):=by cases o <;> rfl
def zli(T:Tp)(h:x.length<=Rp):lE [.d (.str x)] T=Iv (nK (il (cd x)),T):=by
 have e1:Ti x "'"=decide ((cd x).head? = Iv 39):=vS (rfl);unfold il
 by_cases hm:(cd x).head? = Iv 39
 .have Kp:1<=x.length:=by
   rw[←cU]
   cases hx:cd x <;>simp_all
  have es:Sy x (Iv 1) LG=mk (cd x).tail:=dZ (by
   rw[lK (by simp) (by lia),cO]
   simp)
  simp[lE,e1,hm,h,es,nK]
 .rw[if_neg hm,←zlh]
  simp[lE,e1,hm,zlg T h]
def zlj{x:Str}{b:Nat}{a:Nat}{r:List Nat}(h:(cd x).drop b=a::r):L1 x.cps.toList (b:Int)=Iv a/\b<x.length:=by
 have hb:b<(cd x).length:=by
  apply Decidable.byContradiction;intro z;rw[Sr (by lia)] at h;cases h
 refine⟨qb ?_,by exact hb⟩
 have:(cd x)[b]? = ((cd x).drop b)[0]?:=by simp
 show (cd x)[b]? = Iv a;rw[this,h];rfl
theorem yX(ht:t.length<=Rp):∀(n b:Nat),((cd t).drop b).length<n->b<=t.length ->
  bc (bv (ao (af Eh (aa 2) (Et aR (ab (aa 0) ah)))) (ao (af cS (af HN (aa 0) (aa 2)) (fC (.str "(),"))))) (aE 2 (af aP (aa 2) (fC (.int 1)))) n [Iv (.d (.str t)),Iv (.d at'),Iv (.d (.int b)),LG] T
   = Iv ((.nx,[Iv (.d (.str t)),Iv (.d at'),Iv (.d (.int ((b+(W ((cd t).drop b)).length:Nat):Int))),LG]),T)
 |0,b,h,_=>absurd h (SD _)
 |n+1,b,h,hb=>by
  unfold bc
  cases hd:(cd t).drop b with
  |nil=>
   have hl:t.length<=b:=by
    have:=congrArg Yk hd
    rw[Tc,cU] at this<;>grind
   have hn:¬(b:Int)<(t.length:Int):=by lia
   simp[ht,hn,W]
  |cons a r=>
   obtain⟨h1,h2⟩:=zlj hd
   have hn:=by omega
   have Gp:cS (.str ⟨#[a]⟩) (.str "(),")=Iv (.bool (!dl a)):=by
    show Iv _=_;rw[zwn];rfl
   cases Jm:dl a with
   |true=>simp[ht,hn,h1,Gp,Jm,W]
   |false=>
    have hr:(cd t).drop (b+1)=r:=by
     have:=congrArg List.tail hd;simpa using this
    have ih:=yX (at':=at') (T:=T) ht n (b+1) (by simp_all) (by omega);rw[hr] at ih
    have eb:((b+1:Nat):Int)=(b:Int)+1:=by omega
    rw[eb] at ih
    have ew:W (a::r)=a::W r:=by simp[W,Jm]
    have el:b+(a::W r).length=b+1+(W r).length:=by simp;omega
    rw[ew,el];simp[ht,hn,h1,Gp,Jm,ih]
def zlk{t:Str}(T:Tp)(ht:t.length<=60000)(hb:b<=t.length):jG [.d (.str t),.d (.int b)] T=Iv ((match il (W ((cd t).drop b)) with|none=>Yo|some v=>.tuple [v,.int ((b+(W ((cd t).drop b)).length:Nat):Int)]),T):=by
 have Dx:t.length<=sizeLine:=RL ht (by decide);have Li:=yX (at':=.int b) (T:=T) Dx 100000 b (by rw[Tc,cU];lia) hb
 have Ej:cd (Sy t (Iv (b:Int)) (Iv ((b+(W ((cd t).drop b)).length:Nat):Int)))=W ((cd t).drop b):=by
  rw[sH (by lia) (by lia)]
  have e:((b+(W ((cd t).drop b)).length:Nat):Int).toNat-((b:Nat):Int).toNat=(W ((cd t).drop b)).length:=by lia
  rw[e]
  have e2:((b:Nat):Int).toNat=b:=by lia
  rw[e2];exact List.prefix_iff_eq_take.mp (WM _) |>.symm
 have JW:(Sy t (Iv (b:Int)) (Iv ((b+(W ((cd t).drop b)).length:Nat):Int))).length<=sizeLine:=RL (ZW _ _ _) Dx;have Ea:=zli  T JW;rw[Ej] at Ea;rw[Yz] at Ea Ej JW Li;rw[Yz]
 cases hs:il (W ((cd t).drop b)) with
 |none=>
  rw[hs] at Ea;simp only[jG,nA,oR,oT,if_true];simp[Li,Dx,Ea,nK,isNone]
 |some v=>
  have hv:isNone v=Lf:=by
   unfold il at hs;split at hs
   .cases hs;rfl
   .obtain⟨i,_,rfl⟩:=RO.mp hs
    rfl
  rw[hs] at Ea;simp only[jG,nA,oR,oT,if_true];simp[Li,Dx,Ea,nK,hv]
noncomputable def d7(n:Nat):Option (Ra×List Nat)->Ra
 |none=>.none
 |some (v,r)=>.tuple [v,.int ((n-r.length:Nat):Int)]
noncomputable def gL(val:List Nat->Option (Ra×List Nat)):Nat->List Ra->List Nat->Option (Ra×List Nat)
 |0,_,_=>LG
 |n+1,acc,l=>match val l with
  |none=>LG
  |some (v,r)=>if r.head? = Iv 41 then Iv (.tuple (acc++[v]),r.tail) else if r.head? = Iv 44 then gL val n (acc++[v]) r.tail else LG
def gJ(l:List Nat):Option (Ra×List Nat):=(il (W l)).map λv=>(v,l.drop (W l).length)
noncomputable def eJ:Nat->List Nat->Option (Ra×List Nat)
 |0,l=>if l.head? = Iv 40 then LG else gJ l
 |n+1,l=>if l.head? = Iv 40 then (if l.tail.head? = Iv 41 then Iv (.tuple [],l.tail.tail) else gL (eJ n) 100000 [] l.tail) else gJ l
def Suf(val:List Nat->Option (Ra×List Nat)):Prop:=∀l v r,val l=Iv (v,r)->r <:+ l
theorem xR(h:Suf val):∀n acc l v r,gL val n acc l=Iv (v,r)->r <:+ l
 |0,acc,l,v,r,e=>by cases e
 |n+1,acc,l,v,r,e=>by
  unfold gL at e
  cases hv:val l with
  |none=>simp_all
  |some p=>
   obtain⟨v1,r1⟩:=p;have s1:=h l v1 r1 hv;rw[hv] at e;dsimp only at e;split at e
   .cases e
    exact(Tw _).trans s1
   .split at e
    .exact((xR h n _ _ _ _ e).trans (Tw _)).trans s1
    .cases e
def xQ:Suf gJ:=λl v r e=>by
 obtain⟨v',_,e'⟩:=RO.mp e;cases e';exact List.drop_suffix _ _
theorem yQ:∀n,Suf (eJ n)
 |0=>λl v r e=>by
  unfold eJ at e;split at e
  .cases e
  .exact xQ _ _ _ e
 |n+1=>λl v r e=>by
  unfold eJ at e;split at e
  .split at e
   .cases e
    exact(Tw _).trans (Tw _)
   .exact(xR (yQ n) _ _ _ _ _ e).trans (Tw _)
  .exact xQ _ _ _ e
def oY{l:List Nat}(h:l.head? = Iv c):l.length=l.tail.length+1:=by
 cases l with
 |nil=>cases h
 |cons=>simp
def mN(hl:l <:+ cd t)(hy:cd y=[c]):(Sy t (Iv ((t.length-l.length:Nat):Int)) (Iv (((t.length-l.length:Nat):Int)+1))=y)=(l.head? = Iv c):=by
 have hd:=by
  have:=Wj.mp hl;rw[cU] at this;exact this.symm
 have e:cd (Sy t (Iv ((t.length-l.length:Nat))) (Iv (((t.length-l.length:Nat))+1)))=l.take 1:=by
  rw[sH _ _]<;>grind
 refine propext ⟨λz=>?_,λz=>dZ ?_⟩
 .cases l <;>simp_all
 .rw[e]
  cases l <;>simp_all
def wN(hl:l <:+ cd t)(T:Tp)(ht:t.length<=60000):jG [.d (.str t),.d (.int ((t.length-l.length:Nat):Int))] T=Iv (d7 t.length (gJ l),T):=by
 have hd:=by
  have:=Wj.mp hl;rw[cU] at this;exact this.symm
 have hn:=hl.length_le;rw[cU] at hn;have h:=zlk  (b:=t.length-l.length) T ht (by lia);rw[hd] at h;rw[h];unfold gJ;have hw:(W l).length<=l.length:=(WM _).length_le
 cases il _ with
 |none=>rfl
 |some v=>
  show Iv _=Iv (Th [v,.int _],T)<;>grind
def k6(n:Nat):FS:=(ai (aE 4 (ak (eh n) (ab (aa 0) (ab (aa 1) (ab (aa 2) ah))))) (ai (EI (ao (af Kt (aa 4) (fC .none))) (aq (fC .none)) aA) (ai (cR 3 (af HN (aa 4) (fC (.int 0)))) (ai (aE 1 (af aP (af HN (aa 4) (fC (.int 1))) (fC (.int 1)))) (ai (aE 5 (Ig (aa 0) (fP (af HN (aa 4) (fC (.int 1)))) (fP (aa 1)))) (ai (EI (ao (af CP (aa 5) (fC (.str ")")))) (aq (ax .tuple (ab (Et b6 (ab (aa 3) ah)) (ab (aa 1) ah)))) aA) (EI (ao (af DN (aa 5) (fC (.str ",")))) (aq (fC .none)) aA)))))))
theorem Ai(ht:t.length<=60000)(hs:Suf val)(hv:∀l,l <:+ cd t->eh n [.d (.str t),.d (.int ((t.length-l.length:Nat):Int)),.d (.int rows)] T=Iv (d7 t.length (val l),T)) :
  ∀(k:Nat) (l:List Nat) (acc:List Ra) (o4 o5:Option D.W),l <:+ cd t->l.length<k->acc.length+l.length<=60000 ->
  cI (bc (aJ (fC (.bool KN))) (k6 n) k [Iv (.d (.str t)),Iv (.d (.int ((t.length-l.length:Nat):Int))),Iv (.d (.int rows)),Iv (.loc (.list acc)),o4,o5] T)=Iv (d7 t.length (gL val k acc l),T)
 |0,l,acc,o4,o5,hl,hk,ha=>absurd hk (SD _)
 |k+1,l,acc,o4,o5,hl,hk,ha=>by
  have Dx:t.length<=sizeLine:=RL ht (by decide);have wj:acc.length<sizeLine:=R5 (by lia:acc.length<=60000) (by decide);have h1:=hv l hl;unfold bc gL
  cases wy:val l with
  |none=>
   rw[wy] at h1;simp[k6,h1,d7,isNone]
  |some p=>
   obtain⟨v,r⟩:=p;have hr:=(hs l v r wy);have wF:=hr.trans hl;have hrl:=hr.length_le;have E7:=hl.length_le;rw[cU] at E7;have s1:=mN (c:=41) wF (y:=Rb ")") (by decide +kernel);have s2:=mN (c:=44) wF (y:=Rb ",") (by decide +kernel);rw[wy] at h1
   have step:∀c,r.head? = Iv c->(((t.length-r.length:Nat):Int)+1)=((t.length-r.tail.length:Nat):Int):=λc hc=>by
    have:=oY hc
    lia
   dsimp only
   by_cases c1:r.head? = Iv 41
   .have e1:=step _ c1
    rw[if_pos c1]
    have goal:d7 t.length (Iv (Th (acc++[v]),r.tail))=.tuple [.tuple (acc++[v]),.int (((t.length-r.length:Nat):Int)+1)]:=by
     rw[e1];rfl
    rw[goal];simp[k6,h1,d7,isNone,vg,vf,wj,Dx,s1,c1]
   .rw[if_neg c1]
    by_cases c2:r.head? = Iv 44
    .have e1:=step _ c2
     have e2:=oY c2;have ih:=Ai ht hs hv k r.tail (acc++[v]) (Iv (.d (.tuple [v,.int ((t.length-r.length:Nat):Int)]))) (Iv (.d (.str (Sy t (Iv ((t.length-r.length:Nat):Int)) (Iv (((t.length-r.length:Nat):Int)+1)))))) ((Tw _).trans wF) (by lia) (by simp;lia);rw[←e1] at ih;rw[if_pos c2,←ih];simp[k6,h1,d7,isNone,vg,vf,wj,Dx,s1,s2,c1,c2]
    .rw[if_neg c2]
     simp[k6,h1,d7,isNone,vg,vf,wj,Dx,s1,s2,c1,c2]
def u4(val:List Nat->Option (Ra×List Nat))(l:List Nat):Option (Ra×List Nat):=if l.head? = Iv 41 then Iv (.tuple [],l.tail) else gL val 100000 [] l
def zll(ht:t.length<=60000)(hs:Suf val)(hv:∀l,l <:+ cd t->eh n [.d (.str t),.d (.int ((t.length-l.length:Nat):Int)),.d (.int rows)] T=Iv (d7 t.length (val l),T))(hl:l <:+ cd t) :
  l6 (n+1) [.d (.str t),.d (.int ((t.length-l.length:Nat):Int)),.d (.int rows)] T=Iv (d7 t.length (u4 val l),T):=by
 have Dx:t.length<=sizeLine:=RL ht (by decide);have E7:=hl.length_le;rw[cU] at E7;have s1:=mN (c:=41) hl (y:=Rb ")") (rfl);have hr:=Ai  ht hs hv 100000 l [] LG LG hl (by lia) (by grind);unfold u4
 by_cases c1:l.head? = Iv 41
 .rw[if_pos c1]
  have goal:d7 t.length (Iv (Th [],l.tail))=.tuple [.tuple [],.int (((t.length-l.length:Nat))+1)]:=by
   have:=oY c1
   have e:(((t.length-l.length:Nat))+1)=((t.length-l.tail.length:Nat):Int):=by lia
   rw[e];rfl
  rw[goal];simp[l6,Dx,s1,c1]
 .rw[if_neg c1,←hr]
  have:l6 (n+1)=aI 6 (ai (EI (ao (af CP (Ig (aa 0) (fP (aa 1)) (fP (af aP (aa 1) (fC (.int 1))))) (fC (.str ")")))) (aq (ax .tuple (ab (ax .tuple ah) (ab (af aP (aa 1) (fC (.int 1))) ah)))) aA) (ai (cj 3 ah) (bc (aJ (fC (.bool KN))) (k6 n) 100000))):=by rfl
  rw[this];simp[Dx,s1,c1]
theorem zW(ht:t.length<=60000):∀(rows n:Nat),2*rows+1<=n->∀l,l <:+ cd t->eh n [.d (.str t),.d (.int ((t.length-l.length:Nat):Int)),.d (.int rows)] T=Iv (d7 t.length (eJ rows l),T)
 |_,0,h,_,_=>absurd h (by lia)
 |0,n+1,h,l,hl=>by
  have Dx:t.length<=sizeLine:=RL ht (by decide);have s1:=mN (c:=40) hl (y:=Rb "(") (rfl);have sg:=wN hl T ht;unfold eJ
  by_cases c1:l.head? = Iv 40
  .simp[eh,Dx,s1,c1,d7]
  .simp[eh,Dx,s1,c1,sg]
 |rows+1,n+1,h,l,hl=>by
  have Dx:t.length<=sizeLine:=RL ht (by decide);have s1:=mN (c:=40) hl (y:=Rb "(") (by decide +kernel);have sg:=wN hl T ht;have E7:=hl.length_le;rw[cU] at E7;unfold eJ
  by_cases c1:l.head? = Iv 40
  .obtain⟨m,rfl⟩:∃m,n=m+1:=⟨n-1,by lia⟩
   have rr:=zll ht (yQ rows) (zW (T:=T) ht rows m (by lia)) ((Tw l).trans hl);have:=oY c1
   have e:(((t.length-l.length:Nat):Int)+1)=((t.length-l.tail.length:Nat):Int):=by lia
   rw[←e] at rr
   have e2:((rows+1:Nat):Int)-1=(rows:Int):=by lia
   have e3:¬((rows+1:Nat):Int)=0:=by lia
   rw[if_pos c1];show _=Iv (d7 t.length (u4 (eJ rows) l.tail),T);rw[←e2] at rr;generalize ((rows+1:Nat):Int)=R at e3 rr;simp[eh,Dx,s1,c1,e3,rr]
  .rw[if_neg c1]
   simp[eh,Dx,s1,c1,sg]
def zF(m:Nat):0<m->(dg m).head?≠Iv 48:=by
 induction m using Nat.strongRecOn with
 |_ m ih=>
  intro hm
  by_cases h:m<10
  .have:∀m ,m<10->0<m->((Vn 10 m).map Z6).head?≠Iv 48:=by decide
   exact this m h hm
  .have hm:m % 10<10:=Nat.mod_lt m (by decide)
   have t:Vn 10 (m / 10)++Vn 10 _=Vn 10 _:=Nat.toDigits_append_toDigits (by simp) (by lia) hm;rw[Nat.div_add_mod] at t
   have e:dg m=dg (m / 10)++dg (m % 10):=by
    unfold dg;rw[←t,Su]
   have i1:=ih (m / 10) (by lia) (by lia)
   have i2:=kX (m / 10)<;>simp_all
def zG(m:Nat):gr (dg m)=KN:=by
 unfold gr;rw[Ro,Ro];refine⟨⟨by simpa using kX m,Rq.mpr λc hc=>decide_eq_true ?_⟩,?_⟩
 .rw[xn]
  have:=gm m c hc;simp
  lia
 .rcases Nat.eq_zero_or_pos m with h|h
  .subst h
   rfl
  .rw[UH]
   right;simpa using zF m h
def pC(m:Nat):(dg m).head?≠Iv 45:=λh=>by
 cases hd:dg m with
 |nil=>simp_all
 |cons a r=>
  rw[hd] at h;have:=gm m 45 (by simp_all)
  lia
def zlm(h:single (.int i)=KN):qZ (nc i)=Iv i:=by
 have h:=lM h
 cases i with
 |ofNat m=>
  show (if dg m=[45,48]\/19<(fg (dg m)).length\/gr (fg (dg m))=Lf then LG else Iv (if (dg m).head? = Iv 45 then -_ else ((SN (dg m)):Int)))=_
  have e:fg (dg m)=dg m:=by unfold fg;rw[if_neg (pC m)]
  have l:=kC (m:=m) h;rw[e,if_neg (pC m),ij,zG,if_neg]
  .rfl
  .rintro(z|z|z)
   .exact pC m (by rw[z];rfl)
   .lia
   .cases z
 |negSucc m=>
  show (if 45::dg _=[45,48]\/19<(fg (45::dg _)).length\/gr (fg (45::dg _))=Lf then LG else Iv (if (45::dg _).head? = Iv 45 then -((SN (45::dg _).tail):Int) else _))=_;have e:fg (45::dg _)=dg (m+1):=rfl;have l:=kC (m:=m+1) h;have e2:(45::dg (m+1)).tail=dg _:=rfl;rw[e,e2,ij,zG,if_neg]
  .rfl
  .rintro(z|z|z)
   .have z':=(VZ z).2
    have:=zF (m+1) (by lia)<;>simp_all
   .lia
   .cases z
def txt_codes(h:has G9 x=KN):∀c∈cd x,dl c=Lf:=λc hc=>by
 have h1:=of_decide_eq_true (Rq.mp h c hc)
 have h2:∀c∈G9.cps.toList,dl c=Lf:=by decide +kernel
 exact h2 c h1
def yf(i:Int):∀c∈nc i,dl c=Lf:=λc hc=>by
 rw[AO]
 have:=j3 i c hc<;>grind
def rc(l:List Nat):Prop:=∀c,l.head? = Iv c->dl c=KN
def BM(hw:∀c∈w,dl c=Lf)(hl:rc l):W (w++l)=w:=by
 unfold W
 simp_all
 cases l with
 |nil=>simp
 |cons a r=>
  have:=hl a rfl<;>simp_all
def wM{d:Ra}{n:Nat}{l:List Nat}(h:single d=KN)(hl:rc l):(cst n d++l).head?≠Iv 40/\(cst n d).head?≠Iv 41/\cst n d≠[]/\gJ (cst n d++l)=Iv (d,l)/\(cst n d).length<=21:=by
 rcases cz h with⟨i,rfl⟩|⟨x,rfl⟩
 .rw[j7]
  have Kp:=Bf i;have hs:=j3 i;have hh:=λc hc=>hs c (XU hc)
  have DL:(nc i).head?≠Iv 39:=λz=>by simp_all
  refine⟨?_,λz=>by simp_all,Kp,?_,by have:=ul h;lia⟩
  .rw[g9 Kp]<;>grind
  .unfold gJ
   rw[BM (yf i) hl];unfold il;rw[if_neg DL,zlm h];simp
 .rw[j6]
  have h':(decide _&&has G9 x)=KN:=h;rw[Ro] at h';refine⟨by simp,by simp,by simp,?_,?_⟩
  .unfold gJ
   rw[BM  (λc hc=>by
    rcases Ru.mp hc with z|z
    .subst z;rfl
    .exact txt_codes h'.2 c z) hl]
   show (Iv (RF (mk (cd x)))).map _=_;rw[uN];simp
  .have:=of_decide_eq_true h'.1
   rw[Se,cU]
   lia
theorem w8{val:List Nat->Option (Ra×List Nat)}{f:Ra->List Nat}{post:List Nat}:∀(ds:List Ra) (d:Ra) (k:Nat) (acc:List Ra),ds.length<k->(∀x∈d::ds,∀l,rc l->val (f x++l)=Iv (x,l)) ->
  gL val k acc (aX [44] ((d::ds).map f)++41::post)=Iv (.tuple (acc++d::ds),post)
 |ds,d,0,acc,h,_=>absurd h (SD _)
 |[],d,k+1,acc,h,hv=>by
  have:=hv d Rf (41::post) (λc hc=>by cases hc;rfl);show (match val (f d++41::post) with|none=>LG|some (v,r)=>_)=_;rw[this];rfl
 |e::ds,d,k+1,acc,h,hv=>by
  have h1:=hv d Rf (44::(aX [44] ((e::ds).map f)++41::post)) (λc hc=>by cases hc;rfl);have ih:=w8 (post:=post) ds e k (acc++[d]) (by simp_all) (λx hx=>hv x (Rc _ hx))
  have e1:aX [44] ((d::e::ds).map f)++41::post=f d++44::(aX [44] ((e::ds).map f)++41::post):=by
   show (f d++[44]++aX [44] _)++41::post=_;simp
  unfold gL<;>simp_all
def zln:∀(n:Nat) (d:Ra),aC n d=KN->cst n d≠[]/\(cst n d).head?≠Iv 41:=λn d h=>by
 rcases bZ h with h1|⟨m,ds,rfl,rfl,_,_⟩
 .have:=wM (n:=n) (l:=[]) h1 (λc hc=>by simp_all)
  exact⟨this.2.2.1,this.2.1⟩
 .exact⟨by simp[cst],by simp[cst]⟩
def zlo(h:l.head?≠Iv 40):eJ n l=gJ l:=by
 cases n with
 |zero=>unfold eJ;rw[if_neg h]
 |succ n=>unfold eJ;rw[if_neg h]
theorem val_back:∀(n:Nat) (d:Ra),aC n d=KN->∀l,rc l->eJ n (cst n d++l)=Iv (d,l)
 |n,d,h,l,hl=>by
  rcases bZ h with h1|⟨m,ds,rfl,rfl,h8,hb⟩
  .have:=wM (n:=n) h1 hl
   rw[zlo this.1,this.2.2.2.1]
  .have ih:=val_back m
   have e:cst (m+1) (.tuple ds)++l=40::(aX [44] (ds.map (cst m))++41::l):=by
    show (40::_)++l=_;simp
   rw[e];unfold eJ
   cases ds with
   |nil=>rfl
   |cons d ds=>
    have hh:=zln m d (hb d Rf);have e2:(40::_).tail=aX [44] ((d::ds).map (cst m))++41::l:=rfl
    have e3:(aX [44] ((d::ds).map (cst m))++41::l).head?≠Iv 41:=by
     rw[R7,gz,U3,g9 hh.1];exact hh.2
    rw[e2,if_neg e3];have:=w8   (post:=l) ds d 100000 [] (by simp at h8;omega) (λx hx l hl=>ih x (hb x hx) l hl);rw[this];rfl
termination_by n=>n
def mW(T:Tp)(h:ay v=KN):iP [.d (.str (mk (cst 4 v)))] T=Iv (v,T):=by
 obtain⟨hb,hm⟩:=ck h;have hl:=tO 4 v hb
 have ht:(mk (cst 4 v)).length<=60000:=by rw[bW];lia
 have Dx:(mk _).length<=sizeLine:=RL ht (by decide);have e:=zW (T:=T) ht 4 25 (by simp) (cst 4 v) (by rw[cO]<;>simp_all);have b:=val_back 4 v hb [] (λc hc=>by cases hc);rw[TH] at b;rw[b,bW,Nat.sub_self] at e;have e':eh 25 [.d _,.d (.int 0),.d (.int 4)] T=Iv (.tuple [v,.int _],T):=e;have iv:=zV T (j9 h);have hz:(mk _).length=(cst 4 v).length:=bW _
 simp[iP,e',isNone,iv,hz]<;>grind
noncomputable def yE(a:Nat):List (List Nat)->List (List Nat)
 |[]=>[[a]]
 |w::r=>(a::w)::r
noncomputable def GA(c:Nat):List Nat->List (List Nat)
 |[]=>[[]]
 |a::l=>if a=c then []::GA c l else yE a (GA c l)
def zlp(a:Nat)(l:List (List Nat)):yE a l≠[]:=by cases l <;> simp[yE]
def qe(c:Nat):∀l,GA c l≠[]
 |[]=>by simp[GA]
 |a::l=>by
  rw[GA];split
  .simp
  .exact zlp _ _
theorem xT(c:Nat):∀l,∀w∈GA c l,c∉w
 |[],w,h=>by simp[GA] at h;simp[h]
 |a::l,w,h=>by
  have ih:=xT c l;rw[GA] at h;split at h
  .rcases Ru.mp h with z|z<;>simp_all
  .cases hs:GA c l with
   |nil=>exact absurd hs (qe c l)
   |cons u r=>
    rw[hs] at h ih
    rcases Ru.mp h with z|z
    .intro q<;>simp_all
    .exact ih w (Rc _ z)
def sub(c:Nat)(z l:List Nat):List Nat:=l.flatMap λa=>if a=c then z else [a]
theorem tQ(c:Nat)(z:List Nat):∀l,aX z (GA c l)=sub c z l
 |[]=>rfl
 |a::l=>by
  have ih:=tQ c z l;have e:sub c z (a::l)=(if a=c then z else [a])++sub c z l:=rfl;rw[e,←ih,GA]
  cases hs:GA c l with
  |nil=>exact absurd hs (qe c l)
  |cons u r=>
   split
   .rfl
   .show aX z (_::r)=_
    rw[gz,gz];rfl
theorem sub_self(c:Nat):∀l,sub c [c] l=l
 |[]=>rfl
 |a::l=>by
  have e:sub c [c] (a::l)=_++sub c [c] l:=rfl;rw[e,sub_self c l]
  by_cases h:a=c<;>simp_all
theorem mr(c:Nat)(b:List Nat):∀a,GA c (a++c::b)=GA c a++GA c b
 |[]=>by simp[GA]
 |x::a=>by
  have ih:=mr c b a;rw[List.cons_append,GA,GA,ih]
  cases hs:GA c a with
  |nil=>exact absurd hs (qe c a)
  |cons u r=>split <;> rfl
theorem yT(c:Nat):∀w,c∉w->GA c w=[w]
 |[],_=>rfl
 |a::w,h=>by
  rw[GA,yT c w (λz=>h (Rc _ z)),if_neg (λe=>h (by rw[e];exact Rf))];rfl
def zlq(ha:c∉a)(hb:c∉b)(hu:u=[]\/u.head? = Iv c)(hv:v=[]\/v.head? = Iv c)(h:a++u=b++v):a=b/\u=v:=by
 induction a generalizing b with
 |nil=>
  cases b <;>simp_all
 |cons x a ih=>
  cases b with
  |nil=>
   exfalso
   rw[UF] at h<;>grind
  |cons d b=>
   injection h with h1 h2
   obtain⟨k1,k2⟩:=ih  (λz=>ha (Rc _ z)) (λz=>hb (Rc _ z)) h2<;>simp_all
def yp(c:Nat)(r:List (List Nat)):(r.map ([c]++·)).flatten=[]\/((r.map ([c]++·)).flatten).head? = Iv c:=by
 cases r with
 |nil=>exact .inl rfl
 |cons a r=>exact .inr rfl
theorem yD(c:Nat):∀(A B:List (List Nat)),A≠[]->B≠[]->(∀a∈A,c∉a)->(∀b∈B,c∉b)->aX [c] A=aX [c] B->A=B
 |[],_,h,_,_,_,_=>absurd rfl h
 |_::_,[],_,h,_,_,_=>absurd rfl h
 |a::A,b::B,_,_,hA,hB,h=>by
  rw[gz,gz] at h;obtain⟨h1,h2⟩:=zlq (hA a Rf) (hB b Rf) (yp c A) (yp c B) h
  congr 1
  cases A with
  |nil=>
   cases B with
   |nil=>rfl
   |cons b' B=>cases h2
  |cons a' A=>
   cases B with
   |nil=>cases h2
   |cons b' B=>
    have h3:a'++(A.map ([c]++·)).flatten=b'++(B.map ([c]++·)).flatten:=by simp_all
    refine yD c _ _ (by simp) (by simp) (λx hx=>hA x (Rc _ hx)) (λx hx=>hB x (Rc _ hx)) ?_
    rw[gz,gz]<;>omega
def zlr(x y:Str):TY x y≠[]:=by
 unfold TY;split
 .simp
 .split
  .simp
  .rw[StrLaws.partsBetween_eq]
   obtain⟨p,r,e⟩:=StrLaws.partsFrom_ne x _ 0 _;rw[e];simp
def xS(x:Str)(c:Nat):(TY x ⟨#[c]⟩).map cd=GA c (cd x):=by
 have j:=StrLaws.join_split x ⟨#[c]⟩;have f:=StrLaws.split_free x c
 have e:cd (Wc ⟨#[c]⟩ (TY x ⟨#[c]⟩))=cd x:=by rw[j]
 rw[my] at e;have b:cd ⟨#[c]⟩=[c]:=rfl;rw[b] at e;refine yD c _ _ (by simpa using zlr x _) (qe c _) (λa ha=>?_) (xT c _) (by rw[e,tQ,sub_self]);obtain⟨p,hp,rfl⟩:=Rl.mp ha;exact f p hp
def pO(x z:Str)(c:Nat):cd (Sv x ⟨#[c]⟩ z)=sub c (cd z) (cd x):=by rw[StrLaws.replace_one,my,xS,tQ]
theorem sub_len(c:Nat)(z:List Nat)(hz:z.length=3):∀l,(sub c z l).length<=3*l.length
 |[]=>Rn _
 |a::l=>by
  have e:sub c z (a::l)=_++sub c z l:=rfl
  have ih:=sub_len c z hz l<;>grind
def yR(c:Nat)(z a b:List Nat):sub c z (a++b)=sub c z a++sub c z b:=List.flatMap_append
theorem oZ(c:Nat)(z:List Nat):∀w,c∉w->sub c z w=w
 |[],_=>rfl
 |a::w,h=>by
  have e:sub c z (a::w)=(if a=c then z else [a])++sub c z w:=rfl;rw[e,oZ c z w (λq=>h (Rc _ q)),if_neg (λq=>h (by rw[q];exact Rf))];rfl
def z1:List Nat:=[44,40,44]
def z2:List Nat:=[44,41,44]
def G0(l:List Nat):List (List Nat):=GA 44 (sub 41 z2 (sub 40 z1 l))
def zls(a b:List Nat):G0 (a++44::b)=G0 a++G0 b:=by
 unfold G0;simp only[yR,oZ 41 z2 [44] _];exact mr 44 _ _
def yO(h:∀c∈w,dl c=Lf):G0 w=[w]:=by
 have q:=λc hc=>by
  have:=h c hc;rw[AO] at this;exact of_decide_eq_false this
 unfold G0;rw[oZ 40 z1 w (λz=>q _ z (.inl rfl)),oZ 41 z2 w (λz=>q _ z (.inr (.inl rfl))),yT 44 w (λz=>q _ z (.inr (.inr rfl)))]
def zlt(l:List Nat):G0 (40::(l++[41]))=[]::[40]::(G0 l++[[41],[]]):=by
 have e:(40::(l++[41]))=[40]++(l++[41]):=rfl;have s1:sub 40 z1 [40]=z1:=rfl;have s2:sub 40 z1 [41]=[41]:=rfl;have s3:sub 41 z2 z1=z1:=rfl;have s4:sub 41 z2 [41]=z2:=rfl;unfold G0;rw[e];simp only[yR,s1,s2,s3,s4];generalize sub 41 z2 _=m;have t:z1++(m++z2)=([])++44::([40]++44::(m++44::([41]++44::[]))):=rfl;rw[t,mr,mr,mr];have u1:GA 44 []=[[]]:=rfl;have u2:GA 44 [40]=[[40]]:=rfl;have u3:GA 44 [41]=[[41]]:=rfl;rfl
theorem yP(f:Ra->List Nat):∀(d:Ra) (ds:List Ra),G0 (aX [44] ((d::ds).map f))=(d::ds).flatMap λx=>G0 (f x)
 |d,[]=>by simp[aX]
 |d,e::ds=>by
  have e1:aX [44] ((d::e::ds).map f)=f d++44::aX [44] ((e::ds).map f):=by
   show f d++[44]++aX [44] _=_;rw[U3];rfl
  rw[e1,zls,yP f e ds];rfl
def words_of(t:Str):(TY (Sv (Sv t "(" ",(,") ")" ",),") ",").map cd=G0 (cd t):=by
 have q1:Rb "("=⟨#[40]⟩:=rfl;have q2:Rb ")"=⟨#[41]⟩:=rfl;have q3:Rb ","=⟨#[44]⟩:=rfl;have q4:cd ",(,"=z1:=rfl;have q5:cd ",),"=z2:=rfl;rw[q1,q2,q3,xS,pO,pO,q4];rfl
def Ep:FI:=(qr (af mI (LP (iq ")" ",),") (LP (iq "(" ",(,") (aa 0))) (fC (.str ","))))
def Ko:FK:=(FP 1 (ao (af CP (aa 2) (fC (.str "(")))) kO (FP 1 (bv (ao (af CP (aa 2) (fC (.str ")")))) (ao (af FU (Et aR (ab (aa 1) ah)) (fC (.int 1))))) (da (nS 4) (fI (LP bS (fC (.int 1))) (aa 4))) (FP 1 (ao (af CP (Ig (aa 2) bE (fP (fC (.int 1)))) (fC (.str "'")))) (fI (LP bS (fC (.int 1))) (Ig (aa 2) (fP (fC (.int 1))) bE)) (FP 1 (bv (ao (af DN (aa 3) (fC (.str "")))) (bv (ao (af Eh (Et aR (ab (aa 2) ah)) (fC (.int 25)))) (ao (af Mr (bC (bf (aa 3)) (ao (af cS (aa 0) (fC (.str "0123456789")))) (aa 0)) (ax .list ah))))) (fI (LP bS (fC (.int 1))) (Et intD (ab (aa 2) ah))) fE))))
def E5:FK:=(da (lh 3 (Ig (aa 2) (fP (Et intD (ab (af CP (Ig (aa 2) bE (fP (fC (.int 1)))) (fC (.str "-"))) ah))) bE)) (FP 1 (ao (af CP (aa 2) (fC (.str "(")))) kO (FP 1 (bv (ao (af CP (aa 2) (fC (.str ")")))) (ao (af FU (Et aR (ab (aa 1) ah)) (fC (.int 1))))) (da (nS 4) (fI (LP bS (fC (.int 1))) (aa 4))) (FP 1 (ao (af CP (Ig (aa 2) bE (fP (fC (.int 1)))) (fC (.str "'")))) (fI (LP bS (fC (.int 1))) (Ig (aa 2) (fP (fC (.int 1))) bE)) (FP 1 (bv (ao (af DN (aa 3) (fC (.str "")))) (bv (ao (af Eh (Et aR (ab (aa 2) ah)) (fC (.int 25)))) (ao (af Mr (bC (bf (aa 3)) (ao (af cS (aa 0) (fC (.str "0123456789")))) (aa 0)) (ax .list ah))))) (fI (LP bS (fC (.int 1))) (Et intD (ab (aa 2) ah))) fE)))))
theorem zlu:E5=da (lh 3 (Ig (aa 2) (fP (Et intD (ab (af CP (Ig (aa 2) bE (fP (fC (.int 1)))) (fC (.str "-"))) ah))) bE)) Ko:=rfl
def Cv:FK:=(FP 1 (bq (bj (aJ (LP (aW .str) (aa 0)))) (ao (af FU (Et aR (ab (aa 0) ah)) (fC (.int 900))))) (Dj (li (ax .list ah))) fE)
def DY:FK:=(FP 1 (bq (ao (af FU (Et aR (ab (aa 1) ah)) (fC (.int 1)))) (bq (ao (af DN (Et aR (ab (af HN (aa 1) (fC (.int 0))) ah)) (fC (.int 1)))) (bq (bj (aJ (ak gu (ab (af HN (af HN (aa 1) (fC (.int 0))) (fC (.int 0))) ah)))) (ao (af DN (ak (d9 25) (ab (af HN (af HN (aa 1) (fC (.int 0))) (fC (.int 0))) ah)) (aa 0)))))) (li (ax .list ah)) fE)
theorem zlv:lw=aI 5 (kB 1 (da Cv (da (kFor 2 Ep E5) (da DY m8)))):=rfl
@[simp] theorem NG:Gc o T (.loc (.list xs)) (.d y)=J8 T (o (.list xs) y):=rfl
@[simp] theorem NI:Gc o T (.d x) (.loc (.list xs))=J8 T (o x (.list xs)):=rfl
@[simp] theorem NK:Fg o T (.loc (.list xs))=J8 T (o (.list xs)):=rfl
def zlw(x:Str)(n:Nat):cd (Sy x LG (Iv (n:Int)))=(cd x).take n:=by
 have e:Sg LG (Iv (n)) 1 x.length=Sg (Iv 0) (Iv (n)) 1 x.length:=rfl
 have e2:Sy x LG (Iv (n))=Sy x (Iv 0) (Iv (n)):=rfl;rw[e2,sH (by lia) (by lia)];simp
def iw(h:cd (Rb s)=l):(mk w=Rb s)=(w=l):=by
 rw[lit h,eq_iff_iff];exact⟨λe=>by rw[←cO w,e,cO],λe=>by rw[e]⟩
def uR(w:List Nat)(h:cd (Rb s)=[c]):(Sy (mk w) LG (Iv 1)=Rb s)=(w.head? = Iv c):=by
 rw[lit h,eq_iff_iff];have q:=zlw (mk w) 1;have q':cd (Sy _ LG (Iv 1))=w.take 1:=q;constructor
 .intro e
  rw[e,cO] at q'
  cases w <;>simp_all
 .intro e
  refine dZ ?_;rw[q',cO]
  cases w <;>simp_all
def FN(w:List Nat):List Nat:=if w.head? = Iv 45 then w.tail else w
def zlx(w:List Nat):Sy (mk w) (Iv (if w.head? = Iv 45 then 1 else 0)) LG=mk (FN w):=by
 refine dZ ?_
 cases w with
 |nil=>
  rfl
 |cons a r=>
  by_cases h:a=45
  .have h':(a::r).head? = Iv 45:=by simp[h]
   rw[if_pos h',lK (by simp) (by rw[bW]<;>grind),FN,if_pos h'];rfl
  .have h':¬(a::r).head? = Iv 45:=by simpa using h
   rw[if_neg h',lK (by decide) (by lia),FN,if_neg h'];rfl
abbrev Fk(t:Ra)(o2 o3 o4:Option D.W):XE:=[Iv (.d t),LG,o2,o3,o4]
theorem kK:Hn 1 (Fk t o2 o3 o4) s=[Iv (.d t),Iv (.loc (.list (s.reverse.map .list))),o2,o3,o4]:=rfl
section
variable {t:Ra}{T:Tp}{o2 o3 o4:Option D.W}{ys:List Ra}{s:Ct}
def zly(hl:w.length<=1000):∃o,(lh 3 (Ig (aa 2) (fP (Et intD (ab (af CP (Ig (aa 2) bE (fP (fC (.int 1)))) (fC (.str "-"))) ah))) bE)) (Fk t (Iv (.d (.str (mk w)))) o3 o4) (ys::s) T=Iv ((.nx,Fk t (Iv (.d (.str (mk w)))) (Iv (.d (.str (mk (FN w))))) o4,ys::s),T)/\o=():=by
 have a1:=uR w (s:="-") (c:=45) (rfl);have l1:(mk w).length<=sizeLine:=cY (by rw[bW];lia)
 have f:=zlx w<;>simp_all
def qv(hl:w.length<=1000)(h:Ko (Fk t (Iv (.d (.str (mk w)))) (Iv (.d (.str (mk (FN w))))) o4) (ys::s) T=r):E5 (Fk t (Iv (.d (.str (mk w)))) o3 o4) (ys::s) T=r:=by
 obtain⟨_,e,_⟩:=zly       hl;rw[zlu];show G5 _ _=_;rw[e];exact h
theorem tV:E5 (Fk t (Iv (.d (.str (mk [])))) o3 o4) (ys::s) T=Iv ((.nx,Fk t (Iv (.d (.str (mk [])))) (Iv (.d (.str (mk [])))) o4,ys::s),T) :=rfl
def zlz(hs:s.length<1000):E5 (Fk t (Iv (.d (.str (mk [40])))) o3 o4) (ys::s) T=Iv ((.nx,Fk t (Iv (.d (.str (mk [40])))) (Iv (.d (.str (mk [40])))) o4,[]::ys::s),T):=by
 have e1:=iw (w:=[40]) (s:="(") (l:=[40]) (rfl)
 have l1:s.length+1<100000:=by lia
 exact qv (by simp) (by simp[Ko,kK,e1,FN,l1])
def zma(hy:zs.length<1000):E5 (Fk t (Iv (.d (.str (mk [41])))) o3 o4) (ys::zs::s) T=Iv ((.nx,Fk t (Iv (.d (.str (mk [41])))) (Iv (.d (.str (mk [41])))) (Iv (.d (.tuple ys))),(zs++[.tuple ys])::s),T):=by
 have e1:=iw (w:=[41]) (s:="(") (l:=[40]) (rfl);have e2:=iw (w:=[41]) (s:=")") (l:=[41]) (rfl)
 have l2:zs.length<100000:=by omega
 exact qv (by simp) (by simp[Ko,kK,e1,e2,FN,l2];omega)
def zmb(hx:x.length<=20)(hy:ys.length<1000):E5 (Fk t (Iv (.d (.str (mk (39::cd x))))) o3 o4) (ys::s) T=Iv ((.nx,Fk t (Iv (.d (.str (mk (39::cd x))))) (Iv (.d (.str (mk (39::cd x))))) o4,(ys++[.str x])::s),T):=by
 have e1:=iw (w:=39::cd x) (s:="(") (l:=[40]) (rfl);have e2:=iw (w:=39::cd x) (s:=")") (l:=[41]) (rfl);have e3:=uR (39::cd x) (s:="'") (c:=39) (rfl)
 have hl:(39::cd x).length<=1000:=by rw[Se,cU];lia
 have l1:(mk (39::cd x)).length<=sizeLine:=cY (by rw[bW];lia);have sl:Sy (mk (39::cd x)) (Iv 1) LG=x:=dZ (by rw[lK (by decide) (by rw[bW];simp;lia),cO];rfl)
 have fg:FN (39::cd x)=39::cd x:=rfl
 have l2:ys.length<100000:=by lia
 refine qv hl ?_;rw[fg];simp[Ko,kK,e1,e2,e3,l1,sl,l2]
def zmc(i:Int):∃m,FN (nc i)=dg m:=by
 cases i with
 |ofNat m=>
  refine⟨m,?_⟩;show FN (dg m)=_;unfold FN;rw[if_neg (pC m)]
 |negSucc m=>exact⟨m+1,rfl⟩
def zmd(h:single (.int i)=KN):intText? (mk (nc i))=Iv i:=by
 have h:=lM h
 cases i with
 |ofNat m=>
  have l:=kC (m:=m) h;have:=intText_digits  (by show U1 (cd (mk (dg m)));exact gm m) (by exact kX m) (by show (cd _).length<=_;rw[cO];lia);have e:(mk _).cps.toList=dg m:=cO _;rw[e,ij] at this;exact this
 |negSucc m=>
  have l:=kC (m:=m+1) h;have:=intText_neg  (cs:=dg (m+1)) (cO _) (gm _) (kX _) (by rw[bW]<;>grind);rw[ij] at this;exact this
def zme(m:Nat):has "0123456789" (mk (dg m))=KN:=by
 unfold has;rw[Rq];intro c hc;have:=gm m c hc;have f:(Rb "0123456789").cps.toList=[48,49,50,51,52,53,54,55,56,57]:=rfl;rw[f];refine decide_eq_true ?_;simp
 lia
def zmf(hi:single (.int i)=KN)(hy:ys.length<1000):∃o,E5 (Fk t (Iv (.d (.str (mk (nc i))))) o3 o4) (ys::s) T=Iv ((.nx,Fk t (Iv (.d (.str (mk (nc i))))) o o4,(ys++[.int i])::s),T):=by
 have nl:=ul hi;have nz:=j3 i
 have hd:∀c,(nc i).head? = Iv c->c=45\/48<=c/\c<=57:=λc h=>nz c (by
  cases hn:nc i with
  |nil=>simp_all
  | cons a r=>simp_all)
 have n40:¬nc i=[40]:=λe=>by have:=nz 40 (by rw[e];exact Rf);lia
 have n41:¬nc i=[41]:=λe=>by have:=nz 41 (by rw[e];exact Rf);lia
 have CI:¬(nc i).head? = Iv 39:=λe=>by have:=hd 39 e;lia
 have e1:=iw (w:=nc i) (s:="(") (l:=[40]) (by decide +kernel);have e2:=iw (w:=nc i) (s:=")") (l:=[41]) (by decide +kernel);have e3:=uR (nc i) (s:="'") (c:=39) (by decide +kernel);obtain⟨m,hm⟩:=zmc i;have e4:=iw (w:=dg m) (s:="") (l:=[]) (by decide +kernel)
 have l0:(mk (dg m)).length<=1000:=by
  rw[bW,←hm];unfold FN;split
  .rw[Yi];lia
  .lia
 have l1:(mk (nc i)).length<=sizeLine:=cY (by rw[bW];lia)
 have l2:((mk (nc i)).length:Int)<25:=by rw[bW];lia
 have l3:(mk (nc i)).length<=640:=by rw[bW];lia
 have l4:ys.length<100000:=by lia
 have l5:(mk (dg m)).length<=sizeLine:=cY (by lia)
 have lo:∀c∈(mk (dg m)).cps.toList,c<128:=λc hc=>by
  have e:(mk (dg m)).cps.toList=dg m:=cO _;rw[e] at hc;have:=gm m c hc
  lia
 obtain⟨l,hc,hl⟩:=rQ (y:=Rb "0123456789") (x:=mk (dg m)) (T:=[]) (ρ:=[Iv (.d t),Iv (.loc (.list ((ys::s).reverse.map .list))),Iv (.d (.str (mk (nc i)))),Iv (.d (.str (mk (dg m)))),o4]) (ao (af cS (aa 0) (fC (.str "0123456789")))) lo λz=>rfl
 rw[zme] at hl;refine⟨Iv (.d (.str (mk (dg m)))),qv (by lia) ?_⟩;rw[hm];simp at hc;simp[Ko,kK,e1,e2,e3,e4,n40,n41,CI,kX,l1,l2,l3,l4,l5,hc,hl,zmd hi]
def iZ(h:b (ρ.set 2 (Iv (.d d))) s T=Iv ((.nx,ρ',s'),T)):dR 2 b (d::r) ρ s T=dR 2 b r ρ' s' T:=by
 show G5 _ _=_;rw[h];rfl
abbrev wS(l:List (List Nat)):List PyData:=l.map λw=>.str (mk w)
theorem y9:∀(n:Nat) (d:Ra),aC n d=KN->∀(rest:List (List Nat)) (ys:List Ra) (s:Ct) (o2 o3 o4:Option D.W),ys.length<1000->s.length+n<900 ->
  ∃Lm FV Kz,dR 2 E5 (wS (G0 (cst n d)++rest)) (Fk t o2 o3 o4) (ys::s) T=dR 2 E5 (wS rest) (Fk t Lm FV Kz) ((ys++[d])::s) T
 |n,d,h,rest,ys,s,o2,o3,o4,hy,hs=>by
  rcases bZ h with h1|⟨m,ds,rfl,rfl,h8,hb⟩
  .rcases cz h1 with⟨i,rfl⟩|⟨x,rfl⟩
   .rw[j7,yO (yf i)]
    obtain⟨o,e⟩:=zmf (t:=t) (T:=T) (o3:=o3) (o4:=o4) (s:=s) h1 hy;exact⟨_,_,_,iZ e⟩
   .have hx:has G9 x=KN:=lL h1
    rw[j6,yO λc hc=>by
     rcases Ru.mp hc with z|z
     .rw[z];decide
     .exact txt_codes hx c z]
    exact⟨_,_,_,iZ (zmb (str_len (n:=0) h1) hy)⟩
  .have ih:=y9 m
   have parts:∀(es:List Ra) (acc:List Ra) (rest:List (List Nat)) (o2 o3 o4:Option D.W),(∀x∈es,aC m x=KN)->acc.length+es.length<900->∃Lm FV Kz,dR 2 E5 (wS ((es.flatMap λx=>G0 (cst m x))++rest)) (Fk t o2 o3 o4) (acc::ys::s) T=dR 2 E5 (wS rest) (Fk t Lm FV Kz) ((acc++es)::ys::s) T:=by
    intro es
    induction es with
    |nil=>intro acc rest o2 o3 o4 _ _;exact⟨o2,o3,o4,by simp⟩
    |cons e es ihe=>
     intro acc rest o2 o3 o4 HA hl;simp only[Se] at hl;obtain⟨p2,p3,p4,q⟩:=ih e (HA e Rf) ((es.flatMap λx=>G0 (cst m x))++rest) acc (ys::s) o2 o3 o4 (by lia) (by simp;lia);obtain⟨r2,r3,r4,q'⟩:=ihe (acc++[e]) rest p2 p3 p4 (λx hx=>HA x (Rc _ hx)) (by simp;lia);refine⟨r2,r3,r4,?_⟩
     have e1:((e::es).flatMap λx=>G0 (cst m x))++rest=G0 (cst m e)++((es.flatMap λx=>G0 (cst m x))++rest):=by simp
     rw[e1,q,q'];simp
   have ec:cst (m+1) (.tuple ds)=40::(aX [44] (ds.map (cst m))++[41]):=rfl
   have mid:∃Lm FV Kz,dR 2 E5 (wS (G0 (aX [44] (ds.map (cst m)))++([41]::[]::rest))) (Fk t (Iv (.d (.str (mk [40])))) (Iv (.d (.str (mk [40])))) o4) ([]::ys::s) T=dR 2 E5 (wS ([41]::[]::rest)) (Fk t Lm FV Kz) (ds::ys::s) T:=by
    cases ds with
    |nil=>
     have:G0 (aX [44] (([]:List Ra).map (cst m)))=[[]]:=rfl;rw[this];exact⟨_,_,_,iZ tV⟩
    |cons d ds=>
     rw[yP];obtain⟨p2,p3,p4,q⟩:=parts (d::ds) [] ([41]::[]::rest) _ _ o4 hb (by simp at h8 ⊢;lia);exact⟨p2,p3,p4,by rw[q];rfl⟩
   obtain⟨p2,p3,p4,q⟩:=mid;refine⟨Iv (.d (.str (mk []))),Iv (.d (.str (mk []))),Iv (.d (.tuple ds)),?_⟩;rw[ec,zlt]
   have e1:([]::[40]::(G0 (aX [44] (ds.map (cst m)))++[[41],[]]))++rest=[]::[40]::(G0 (aX [44] (ds.map (cst m)))++([41]::[]::rest)):=by simp
   rw[e1];show dR 2 E5 (.str (mk [])::.str (mk [40])::wS (G0 (aX [44] (ds.map (cst m)))++([41]::[]::rest))) _ _ _=_;rw[iZ (tV (t:=t) (o3:=o3) (o4:=o4)),iZ (zlz (t:=t) (by lia)),q];show dR 2 E5 (.str (mk [41])::.str (mk [])::wS rest) _ _ _=_;rw[iZ (zma (t:=t) hy),iZ (tV (t:=t))]
termination_by n=>n
theorem xt:∀(n:Nat) (d:Ra),aC n d=KN->((cst n d).length:Int)+1<=22*aH n d
 |n,d,h=>by
  rcases bZ h with h1|⟨m,ds,rfl,rfl,h8,hb⟩
  .have:=xV (n:=n) h1
   have:=pA n d
   lia
  .have ih:=xt m
   have h1:∀{ds:List _},(∀d∈ds,aC m d=KN)->(((ds.map λd=>(cst m d).length).sum+ds.length))<=22*(ds.map (aH m)).sum:=by
    intro ds hd
    induction ds with
    |nil=>simp
    |cons d r ihr=>
     grind
   have h1:=h1 hb;have h2:=(oA (cst m) ds).2
   show (((40::_).length):Int)+1<=22*(1+(ds.map _).sum)<;>grind
termination_by n=>n
def zmg(h:ay v=KN):(mk (cst 4 v)).length<=880:=by
 have h1:=xt 4 v (ck h).1;have h2:=(ck h).2;rw[bW]
 lia
def z6(h:ay v=KN):lw [.d (L0 v)] T=Iv (.list [v],T):=by
 have hl:=zmg h;have l1:(mk (cst 4 v)).length<=sizeLine:=cY (by lia)
 have l2:¬(900:Int)<((mk (cst 4 v)).length:Int):=by lia
 have hA:Cv (Fk (L0 v) LG LG LG) [[]] T=Iv ((.nx,Fk (L0 v) LG LG LG,[[]]),T):=by
  simp[Cv,kK,L0,ur,l1,l2]
 have w:=words_of (mk (cst 4 v));rw[cO] at w
 have wS':(TY (Sv (Sv (mk (cst 4 v)) "(" ",(,") ")" ",),") ",").map RF=wS (G0 (cst 4 v)):=by
  rw[←w,wS,Sk];exact RV λx _=>rfl
 have r1:(Sv (mk (cst 4 v)) "(" ",(,").length<=3*880:=by
  have q:Rb "("=⟨#[40]⟩:=by decide +kernel
  have q4:cd ",(,"=z1:=by decide +kernel
  rw[←cU,q,pO,q4,cO];have:=sub_len 40 z1 rfl (cst 4 v);rw[bW] at hl
  lia
 have r2:(Sv (Sv (mk (cst 4 v)) "(" ",(,") ")" ",),").length<=9*880:=by
  have q:Rb ")"=⟨#[41]⟩:=by decide +kernel
  have q4:cd ",),"=z2:=by decide +kernel
  rw[←cU,q,pO,q4];have:=sub_len 41 z2 rfl (cd (Sv (mk (cst 4 v)) "(" ",(,"));rw[cU] at this
  lia
 have hI:Ep (Fk (L0 v) LG LG LG) T=Iv (wS (G0 (cst 4 v)),T):=by
  have d1:iq "(" ",(," (L0 v)=Iv (.str (Sv (mk (cst 4 v)) "(" ",(,")):=if_pos ⟨by lia,by decide,by decide⟩;have d2:iq ")" ",)," (.str (Sv (mk (cst 4 v)) "(" ",(,"))=Iv (.str (Sv (Sv (mk (cst 4 v)) "(" ",(,") ")" ",),")):=if_pos ⟨by lia,by decide,by decide⟩
  have d3:mI (.str (Sv (Sv (mk (cst 4 v)) "(" ",(,") ")" ",),")) (.str ",")=Iv (.list (wS (G0 (cst 4 v)))):=by
   rw[←wS'];exact if_pos ⟨by decide,RL (by lia:_<=16000) (by decide)⟩
  simp[Ep,qr,d1,d2,d3]
 obtain⟨o2,o3,o4,e⟩:=y9 (t:=L0 v) (T:=T) 4 v (ck h).1 [] [] [] LG LG LG (by simp) (by simp);rw[TH] at e
 have hE:DY (Fk (L0 v) o2 o3 o4) [[v]] T=Iv ((.nx,Fk (L0 v) o2 o3 o4,[[v]]),T):=by
  have lv:=λT=>mf (d:=v) T (.of (ck h).1);have ls:=λT=>mx T h;simp[DY,kK,lv,ls,h,L0]
 rw[zlv]
 have hF:(kFor 2 Ep E5) (Fk (L0 v) LG LG LG) [[]] T=Iv ((.nx,Fk (L0 v) o2 o3 o4,[[v]]),T):=by
  show G5 _ _=_;rw[hI];show dR 2 E5 (wS (G0 (cst 4 v))) _ _ _=_;rw[e];rfl
 have hO:kB 1 (da Cv (da (kFor 2 Ep E5) (da DY m8))) (Fk (L0 v) LG LG LG) T=Iv ((.rt (.list [v]),Fk (L0 v) LG LG LG),T):=by
  show (if _ then _ else _)=_;rw[if_pos ⟨rfl,(by decide:1<5),rfl⟩,tK,hA];show uq _ (G5 _ _)=_;rw[cG,sO,tK,hF,cG,sO,tK,hE,cG,sO];rfl
 show cI (kB 1 _ (Fk (L0 v) LG LG LG) T)=_;rw[hO];rfl
end
@[simp] theorem OP:kU f ρ T=qH T (f (c7 ρ) []):=rfl
@[simp] theorem Nq:c7 []=[]:=rfl
@[simp] theorem Nm:c7 (LG::r)=LG::c7 r:=rfl
@[simp] theorem Np:c7 (Iv (.d x)::r)=Iv (.d x)::c7 r:=rfl
@[simp] theorem Nn:c7 (Iv (.loc x)::r)=Iv (.d x)::c7 r:=rfl
@[simp] theorem Nl:c7 (Iv (.tp i)::r)=LG::c7 r:=rfl
def pB(h:bh x=KN):qH T (Iv (.d x,T'))=Iv (.d x,T):=if_pos h
def tW(h:Ex m n e):bh e=KN:=by
 induction h with
 |put hv=>simp[bh,bR,mh hv]
 |got _ _=>simp[bh,bR]
 |row _ _ ih=>simp[bh,bR,lW ih]
 |many _ ih=>simp[bh,bR,ih]
 |pair _ _ _ yb yw=>simp[bh,bR,yb,yw]
def zmh(h:Rg p g n r):bh r=KN:=by
 induction h with
 |fail _=>simp[bh,bR]
 |say he=>simp[bh,bR,tW he]
 |ask _ _ he _ ih=>simp[bh,bR,tW he,ih]
 |whn he _ _ ih1 x9=>simp[bh,bR,tW he,ih1,x9]
def sD(h:Dv p g n S):bh S=KN:=by
 cases h with
 |md hv=>simp[J1,bh,bR,mh hv]
 |fl _=>simp[J2,bh,bR]
 |ask _ _ _ _ hr=>simp[Du,bh,bR,zmh hr]
def Ml(r:Ra)(gs:List Ra):PyData:=match bU 25 [.d r,.d (.tuple gs)] [] with
 |some (S,_)=>S
 |none=>.none
def mn(h:Rg p g n r)(hl:gs.length=g)(hv:∀v∈gs,ay v=KN)(hn:n<=20) :
  Dv p g n (Ml r gs)/\(∀c k T,n<k->bU k [.d r,.d (sq c gs)] T=Iv (Ml r gs,T))/\nZ n r gs (Ml r gs):=by
 obtain⟨S,h1,h2,h3⟩:=zlc n g r h gs hl hv hn
 have e:Ml r gs=S:=by
  unfold Ml;rw[show bU 25 [.d r,.d (.tuple gs)] []=Iv _ from h2 KN 25 [] (by lia)]
 rw[e];exact⟨h1,h2,h3⟩
def i7{p:Bool}{n g:Nat}{r:Ra}{gs:List Ra}(h:Rg p g n r)(hl:gs.length=g)(hv:∀v∈gs,ay v=KN)(hn:n<=20) :
  Dv p g n (Ml r gs)/\(∀k T,n<k->bU k [.d r,.d (.tuple gs)] T=Iv (Ml r gs,T))/\nZ n r gs (Ml r gs):=⟨(mn h hl hv hn).1,(mn h hl hv hn).2.1 KN,(mn h hl hv hn).2.2⟩
def yS{p:Bool}{g n:Nat}{r:Ra}{gs:List Ra}(h:Rg p g n r)(hl:gs.length=g)(hv:∀v∈gs,ay v=KN)(hn:n<=20):Dv p g n (Ml r gs)/\∀T,bU 25 [.d r,.d (.list gs)] T=Iv (Ml r gs,T):=⟨(mn h hl hv hn).1,λT=>(mn h hl hv hn).2.1 Lf 25 T (by lia)⟩
noncomputable def cP:Ra->Option (Bool×Str×Ra)
 |.tuple [.str w,.str x,r]=>if w=Rb "want" then Iv (Lf,x,r) else if w=Rb "peek" then Iv (KN,x,r) else LG
 |_=>LG
@[simp] theorem ik:cP (Du b x r)=Iv (b,x,r):=by cases b <;> simp[Du,cP]
@[simp] theorem AZ:cP (J1 v)=LG:=by simp[J1,cP]
@[simp] theorem A1:cP (J2 x)=LG :=rfl
structure LY where
 gs:List Ra
 rd:List Ra
 S:Ra
abbrev Dc:=List (Ra×Ra)
def jr:Nat->Dc->LY->LY
 |0,_,s=>s
 |f+1,G,s=>match cP s.S with
  |none=>s
  |some (b,x,r)=>match aj G x with
   |none=>s
   |some v=>jr f G ⟨s.gs++[v],s.rd++cx b x v,Ml r (s.gs++[v])⟩
def run(G:Dc)(s:LY):LY:=jr (12-s.gs.length) G s
structure Gv(p:Bool)(n:Nat)(s:LY):Prop where
 v:∀v∈s.gs,ay v=KN
 st:Dv p s.gs.length n s.S
 rd:s.rd.length<=s.gs.length
 rv:∀d∈s.rd,∃x v,d=.tuple [.str x,v]/\ay v=KN
 le:s.gs.length<=12
def GV(G:Dc):Prop:=∀x v,aj G x=Iv v->ay v=KN
def jX(h:cP s.S=LG):run G s=s:=by
 unfold run
 cases 12-s.gs.length with
 |zero=>rfl
 |succ f=>rw[jr,h]
def jP(h:s.S=Du b x r)(hk:aj G x=LG):run G s=s:=by
 unfold run
 cases 12-s.gs.length with
 |zero=>rfl
 |succ f=>rw[jr,h,ik]<;>simp_all
def eP(h:s.S=Du b x r)(hl:s.gs.length<12)(hk:aj G x=Iv v):run G s=run G ⟨s.gs++[v],s.rd++cx b x v,Ml r (s.gs++[v])⟩:=by
 have e:12-s.gs.length=(12-(s.gs++[v]).length)+1:=by grind
 show jr _ G s=_;rw[e,jr,h,ik];simp only[hk];rfl
def Gv.next{p:Bool}{n:Nat}{s:LY}{b:Bool}{x:Str}{r v:Ra}(h:Gv p n s)(e:s.S=Du b x r)(hn:n<=20)(hv:ay v=KN):s.gs.length<12/\Gv p n ⟨s.gs++[v],s.rd++cx b x v,Ml r (s.gs++[v])⟩:=by
 have st:=h.st;rw[e] at st;generalize hS:Du b x r=S at st
 cases st with
 |md _=>cases b <;> simp[Du,J1] at hS
 |fl _=>cases b <;> simp[Du,J2] at hS
 |@ask b' x' r' n' hp hx hg LJ hr=>
  obtain⟨rfl,rfl,rfl⟩:b=b'/\x=x'/\r=r':=by
   cases b <;> cases b' <;> simp[Du] at hS <;> simp[hS]
  have Gr:=λu hu=>(Ry.mp hu).elim (h.v u) λz=>by rw[RD.mp z];exact hv
  obtain⟨a1,_,_⟩:=i7 hr (by simp) Gr (by lia);refine⟨hg,Gr,by have:=a1.up LJ<;>simp_all,?_,λd hd=>?_,by simp;lia⟩
  .have:=h.rd
   cases b <;> simp[cx] <;> lia
  .rcases Ry.mp hd with z|z
   .exact h.rv d z
   .cases b with
    |true=>simp[cx] at z
    |false=>simp[cx] at z;exact⟨x,v,z,hv⟩
def qP(G:Dc)(S:Ra):Prop:=cP S=LG\/∃b x r,S=Du b x r/\aj G x=LG
def dw(h:Dv p g n S):(∃v,S=J1 v/\ay v=KN)\/(∃x,S=J2 x/\isName (.str x)=KN)\/∃b x r,S=Du b x r/\isName (.str x)=KN:=by
 cases h with
 |md hv=>exact .inl ⟨_,rfl,hv⟩
 |fl hx=>exact .inr (.inl ⟨_,rfl,hx⟩)
 |ask _ hx _ _ _=>exact .inr (.inr ⟨_,_,_,rfl,hx⟩)
theorem gE(hG:GV G)(hn:n<=20)(Q:LY->LY->Prop)(h0:∀s,Gv p n s->qP G s.S->Q s s)(h1:∀s b x r v,Gv p n s->s.S=Du b x r->aj G x=Iv v->s.gs.length<12->Gv p n ⟨s.gs++[v],s.rd++cx b x v,Ml r (s.gs++[v])⟩ ->
  Q ⟨s.gs++[v],s.rd++cx b x v,Ml r (s.gs++[v])⟩ (run G ⟨s.gs++[v],s.rd++cx b x v,Ml r (s.gs++[v])⟩)->Q s (run G s)):∀(f:Nat) (s:LY),Gv p n s->12-s.gs.length=f->Q s (run G s)
 |f,s,h,hf=>by
  rcases dw h.st with⟨v,e,_⟩|⟨x,e,_⟩|⟨b,x,r,e,_⟩
  .rw[jX (by rw[e];simp)]
   exact h0 s h (.inl (by rw[e];simp))
  .rw[jX (by rw[e];simp)]
   exact h0 s h (.inl (by rw[e];simp))
  .cases hk:aj G x with
   |none=>
    rw[jP e hk];exact h0 s h (.inr ⟨b,x,r,e,hk⟩)
   |some v=>
    obtain⟨hl,h'⟩:=h.next e hn (hG x v hk);exact h1 s b x r v h e hk hl h' (gE hG hn Q h0 h1 (f-1) _ h' (by simp;lia))
termination_by f=>f
decreasing_by lia
def kf(hG:GV G)(hn:n<=20)(h:Gv p n s):Gv p n (run G s)/\qP G (run G s).S:=gE hG hn (λ_ s'=>Gv p n s'/\qP G s'.S) (λs h e=>⟨h,e⟩) (λs b x r v _ e hk hl _ q=>by rw[eP e hl hk];exact q) _ s h rfl
def cm(s:LY):PyData:=.tuple [.tuple s.gs,.tuple s.rd,s.S]
def zmi(h:Gv p n s):bh (cm s)=KN:=by
 have h1:=lW λd hd=>mh (h.v d hd)
 have h2:=lW λd hd=>by
  obtain⟨x,v,rfl,hv⟩:=h.rv d hd;simp[bh,bR,mh hv]
 simp[cm,bh,bR,h1,h2,sD h.st]
def sT(T:Tp):fQ [.d (cm ⟨gs,rd,Du b x r⟩)] T=Iv (.str x,T):=by cases b <;> kernel_rfl
theorem zmj(T:Tp):fQ [.d (cm ⟨gs,rd,J1 v⟩)] T=Iv (.none,T) :=rfl
theorem zmk(T:Tp):fQ [.d (cm ⟨gs,rd,J2 x⟩)] T=Iv (.none,T) :=rfl
def zml(T:Tp)(h:Gv p n s)(e:s.S=Du b x r)(hn:n<=20)(hv:ay v=KN) :
  j4 [.d (cm s),.d v] T=Iv (cm ⟨s.gs++[v],s.rd++cx b x v,Ml r (s.gs++[v])⟩,T):=by
 have st:=h.st;rw[e] at st;generalize hS:Du b x r=S at st
 cases st with
 |md _=>cases b <;> simp[Du,J1] at hS
 |fl _=>cases b <;> simp[Du,J2] at hS
 |@ask b' x' r' n' hp hx hg LJ hr=>
  obtain⟨rfl,rfl,rfl⟩:b=b'/\x=x'/\r=r':=by
   cases b <;> cases b' <;> simp[Du] at hS <;> simp[hS]
  have Gr:=λu hu=>(Ry.mp hu).elim (h.v u) λz=>by rw[RD.mp z];exact hv
  obtain⟨_,a2,_⟩:=i7 hr (by simp) Gr (by lia);have st:=a2 25 T (by lia);have l1:s.gs.length+1<=sizeLine:=cY (by lia);have l2:s.rd.length+1<=sizeLine:=cY (by have:=h.rd;lia);obtain⟨gs,rd,S0⟩:=s;subst e
  cases b with
  |true=>simp[j4,cm,Du,l1,st,cx]
  |false=>simp[j4,cm,Du,l1,l2,st,cx]
def Mj:FT:=(ao (af Mb (ak fQ (ab (aa 0) ah)) (aa 1)))
def GU:FS:=(aE 0 (ak j4 (ab (aa 0) (ab (af Dz (aa 1) (ak fQ (ab (aa 0) ah))) ah))))
theorem zmm:lT=aI 2 (ai (bc Mj GU 100000) (aq (aa 0))):=rfl
def zmn(hG:GV G)(hn:n<=20)(T:Tp)(s:LY)(h:Gv p n s):∀m,12-s.gs.length<m->bc Mj GU m [Iv (.d (cm s)),Iv (.d (.dict G))] T=Iv ((.nx,[Iv (.d (cm (run G s))),Iv (.d (.dict G))]),T):=by
 refine gE hG hn (λs s'=>∀m,12-s.gs.length<m->bc Mj GU m [Iv (.d (cm s)),Iv (.d (.dict G))] T=Iv ((.nx,[Iv (.d (cm s')),Iv (.d (.dict G))]),T)) (λs h e m hm=>?_) (λs b x r v h e hk hl h' q m hm=>?_) _ s h rfl
 .obtain⟨m,rfl⟩:∃j,m=j+1:=⟨m-1,by lia⟩
  refine jW ?_;obtain⟨gs,rd,S⟩:=s
  rcases dw h.st with⟨v,e1,_⟩|⟨x,e1,_⟩|⟨b,x,r,e1,_⟩
  .have e1:S=J1 v:=e1
   subst e1;kernel_rfl
  .have e1:S=J2 x:=e1
   subst e1;kernel_rfl
  .have e1:S=Du b x r:=e1
   subst e1
   rcases e with e|⟨b',x',r',e2,hk⟩
   .simp at e
   .have:x=x':=by
     have e2:Du b x r=Du b' x' r':=e2
     cases b <;> cases b' <;> simp[Du] at e2 <;> simp[e2]
    subst this;simp[Mj,sT,Mb,Kg,Ik,hk]
 .obtain⟨m,rfl⟩:∃j,m=j+1:=⟨m-1,by lia⟩
  have gv:=zml T h e hn (hG x v hk);rw[eP e hl hk]
  have hc:Mj [Iv (.d (cm s)),Iv (.d (.dict G))] T=Iv (KN,T):=by
   obtain⟨gs,rd,S⟩:=s;have e1:S=Du b x r:=e;subst e1;simp[Mj,sT,Mb,Kg,Ik,hk]
  have hb:GU [Iv (.d (cm s)),Iv (.d (.dict G))] T=Iv ((.nx,[Iv (.d (cm ⟨s.gs++[v],s.rd++cx b x v,Ml r (s.gs++[v])⟩)),Iv (.d (.dict G))]),T):=by
   have aw:fQ [.d (cm s)] T=Iv (.str x,T):=by
    obtain⟨gs,rd,S⟩:=s;have e1:S=Du b x r:=e;subst e1;exact sT T
   simp[GU,aw,Dz,hk,gv]
  rw[i6 hc hb];exact q m (by simp;lia)
def zmo(T:Tp)(hG:GV G)(hn:n<=20)(h:Gv p n s):lT [.d (cm s),.d (.dict G)] T=Iv (cm (run G s),T):=by
 rw[zmm];have:=zmn hG hn T s h 100000 (by omega);simp[this]
def s0(r:Ra):LY:=⟨[],[],Ml r []⟩
def cZ(h:Rg p 0 n r)(hn:n<=20):Gv p n (s0 r):=by
 obtain⟨a1,_,_⟩:=i7 (gs:=[]) h rfl (by simp) hn;exact⟨by simp[s0],a1,by simp[s0],by simp[s0],by simp[s0]⟩
def zmp(T:Tp)(h:Rg p 0 n r)(hn:n<=20):lN [.d r] T=Iv (cm (s0 r),T):=by
 obtain⟨_,a2,_⟩:=i7 (gs:=[]) h rfl (by simp) hn;simp[lN,a2 25 T (by lia),cm,s0]
def dJ:Ra->Ra
 |.tuple [.str w,v]=>if w=Rb "made" then .tuple [.str w,L0 v] else .tuple [.str w,v]
 |.tuple [_,.str x,_]=>bt "wants" (.str x)
 |_=>.none
@[simp] theorem j5:dJ (J1 v)=.tuple [.str "made",L0 v] :=rfl
@[simp] theorem i3:dJ (J2 x)=J2 x :=rfl
@[simp] theorem i4:dJ (Du b x r)=bt "wants" (.str x):=rfl
def IE:Ra->Ra
 |.tuple [x,v]=>.tuple [x,L0 v]
 |d=>d
def zmq(b:Bool)(x:Str)(v:Ra):cx b x (L0 v)=(cx b x v).map IE:=by cases b <;> rfl
def zmr(T:Tp)(h:aj G x=LG):dQ b (.dict G) .none k x T=Iv (.tuple [.str "wants",.str x],T):=by
 have e:Mb (.str x) (.dict G)=Iv (.bool Lf):=by show Iv _=_;rw[h];rfl
 have nn:isNone Yo=KN:=rfl;simp[dQ,gW,e,nn]
def zms(T:Tp)(h:aj G x=Iv v):dQ b (.dict G) .none k x T=Iv (.list [v],T):=by
 have e:Mb (.str x) (.dict G)=Iv (.bool KN):=by show Iv _=_;rw[h];rfl
 have e2:Dz (.dict G) (.str x)=Iv v:=h;have nn:isNone Yo=KN:=rfl;simp[dQ,gW,e,e2,nn]
def AtL(p:Bool)(n:Nat)(s:LY)(r:Ra):Prop:=∃n',n'<=n/\Rg p s.gs.length n' r/\s.S=Ml r s.gs
def zmt(hG:GV G)(hn:n<=20)(T:Tp)(s:LY)(h:Gv p n s):∀r m o o1,AtL p n s r->(13-s.gs.length)*21<m->FG m r (.dict G) .none s.gs (s.rd.map IE) o o1 T=Iv (.tuple [.list ((run G s).rd.map IE),dJ (run G s).S],T):=by
 refine gE hG hn (λs s'=>∀r m o o1,AtL p n s r->(13-s.gs.length)*21<m->FG m r (.dict G) .none s.gs (s.rd.map IE) o o1 T=Iv (.tuple [.list (s'.rd.map IE),dJ s'.S],T)) (λs h e r m o o1 a hm=>?_) (λs b x r0 v h e hk hl h' q r m o o1 a hm=>?_) _ s h rfl
 .obtain⟨n',LJ,hr,hs⟩:=a
  obtain⟨_,_,a3⟩:=i7 hr rfl h.v (by lia);obtain⟨c1,c2,c3⟩:=a3 (.dict G) .none m (s.rd.map IE) o o1 T (by have:=h.le;lia) (by have:=h.rd;have:=h.le;simp;lia);rw[←hs] at c1 c2 c3
  rcases dw h.st with⟨v,e1,_⟩|⟨x,e1,_⟩|⟨b,x,r,e1,_⟩
  .rw[c1 v e1,e1,j5];rfl
  .rw[c2 x e1,e1,i3];rfl
  .rcases e with e|⟨b',x',r',e2,hk⟩
   .rw[e1] at e;simp at e
   .rw[(c3 b' x' r' e2).1 _ (zmr T hk),e2,i4];rfl
 .obtain⟨n',LJ,hr,hs⟩:=a
  obtain⟨a1,_,a3⟩:=i7 hr rfl h.v (by lia);obtain⟨_,_,c3⟩:=a3 (.dict G) .none m (s.rd.map IE) o o1 T (by lia) (by have:=h.rd;simp;lia);rw[←hs] at c3 a1;obtain⟨m',o',o2,l,go⟩:=(c3 b x r0 e).2 v (hG x v hk) (zms T hk);rw[go,eP e hl hk];rw[e] at a1;generalize hS:Du b x r0=S at a1
  cases a1 with
  |md _=>cases b <;> simp[Du,J1] at hS
  |fl _=>cases b <;> simp[Du,J2] at hS
  |@ask b' x' r' n2 hp hx hg wq Ef=>
   obtain⟨rfl,rfl,rfl⟩:b=b'/\x=x'/\r0=r':=by
    cases b <;> cases b' <;> simp[Du] at hS <;> simp[hS]
   have:=q r0 m' o' o2 ⟨n2,by lia,by simpa using Ef,rfl⟩ (by simp;lia);rw[Su,←zmq] at this;exact this
def uF(T:Tp)(hG:GV G)(hn:n<=20)(h:Rg p 0 n r):gY [.d r,.d (.dict G),.d .none] T=Iv (.tuple [.list ((run G (s0 r)).rd.map IE),dJ (run G (s0 r)).S],T):=by
 have:=zmt hG hn T _ (cZ h hn) r 100000 LG LG ⟨n,Rn _,h,rfl⟩ (by simp[s0]);rw[←this,xf];simp[FG,Hu,s0]
def zmu{ds:Dc}{x y:Str}{v:Ra}:aj (ds++[(.str x,v)]) y=match aj ds y with
  |some u=>Iv u
  |none=>if x=y then Iv v else LG:=by
 induction ds with
 |nil=>rfl
 |cons q r ih=>
  obtain⟨k,d⟩:=q
  cases k with
  |str k=>
   show (if k=y then Iv d else aj (r++[(.str x,v)]) y)=_
   by_cases h:k=y
   .rw[if_pos h]
    have:aj ((RF k,d)::r) y=Iv d:=if_pos h;rw[this]
   .rw[if_neg h,ih]
    have:aj ((RF k,d)::r) y=aj r y:=if_neg h;rw[this]
  |_=>exact ih
def zmv:aj (cc ds x v) y=if x=y then (aj ds x).map (λ_=>v) else aj ds y:=by
 induction ds with
 |nil=>by_cases h:x=y <;> simp[cc,aj]
 |cons q r ih=>
  obtain⟨k,d⟩:=q
  cases k with
  |str k=>
   by_cases hk:k=x
   .subst hk
    have e1:cc ((RF k,d)::r) k v=_::cc r k v:=if_pos rfl;rw[e1]
    by_cases h:k=y
    .subst h
     simp[aj]
    .simp[aj,h,ih]
   .have e1:cc ((RF k,d)::r) x v=_::cc r x v:=if_neg hk
    rw[e1]
    by_cases h:x=y
    .subst h
     simp[aj,hk,ih]
    .simp[aj,h] at ih ⊢
     rw[ih]
  |_=>exact ih
def vZ:(cc ds x v).length=ds.length:=by
 induction ds with
 |nil=>rfl
 |cons q r ih=>
  obtain⟨k,d⟩:=q
  cases k with
  |str k=>
   by_cases hk:k=x
   .have e1:cc ((RF k,d)::r) x v=_::cc r x v:=if_pos hk<;>simp_all
   .have e1:cc ((RF k,d)::r) x v=_::cc r x v:=if_neg hk<;>simp_all
  |_=>exact congrArg (· + 1) ih
def dE:aj (putN ds x v) y=if x=y then Iv v else aj ds y:=by
 unfold putN
 cases h:aj ds x with
 |some u=>
  rw[if_pos (by rfl),zmv,h];rfl
 |none=>
  rw[if_neg (by simp),zmu]
  by_cases hx:x=y
  simp_all
  .rw[if_neg hx,if_neg hx]
   cases aj ds y <;> rfl
def Sub(G G':Dc):Prop:=∀x v,aj G x=Iv v->aj G' x=Iv v
def Sub.refl(G:Dc):Sub G G:=λ_ _ h=>h
def Sub.trans(h:Sub A B)(g:Sub B C):Sub A C:=λx v q=>g x v (h x v q)
def Sub.new(h:aj G x=LG):Sub G (putN G x v):=λy u q=>by
 rw[dE]<;>grind
def pj(hs:Sub G G')(hG:GV G)(hn:n<=20)(h:Gv p n s):run G' (run G s)=run G' s:=
 gE hG hn (λs s'=>run G' s'=run G' s) (λ_ _ _=>rfl) (λs b x r v _ e hk hl _ q=>by
  rw[eP e hl hk,q,eP e hl (hs x v hk)]) _ s h rfl
def jQ(h:s.S=J1 v):run G' s=s:=jX (by simp_all)
def oH(hs:∀x,aj G x=aj G' x)(hG:GV G)(hn:n<=20)(h:Gv p n s):run G s=run G' s:=
 gE hG hn (λs s'=>s'=run G' s) (λs h e=>by
  rcases e with e|⟨b,x,r,e,hk⟩
  .exact(jX e).symm
  .rw[hs] at hk;exact(jP e hk).symm) (λs b x r v _ e hk hl _ q=>by
  rw[eP e hl hk,q,←eP e hl (by simp_all)]) _ s h rfl
structure Bk(p:Bool)(n:Nat)(D0 R0:Dc):Prop where
 dk:∀q∈D0,∃x v,q=(.str x,v)/\ay v=KN
 rk:∀q∈R0,∃x r,q=(.str x,r)/\Rg p 0 n r/\aj R0 x=Iv r/\aj D0 x=LG
 rnd:(R0.map (·.1)).Nodup
 len:D0.length+R0.length<=900
 n20:n<=20
inductive C2(D0 R0:Dc):Str->Ra->Prop where
 |told {x:Str}{v:Ra}:aj D0 x=Iv v->C2 D0 R0 x v
 |made {x:Str}{v r:Ra}{G:Dc}:aj R0 x=Iv r->GV G->(∀y u,aj G y=Iv u->C2 D0 R0 y u)->(run G (s0 r)).S=J1 v->C2 D0 R0 x v
def e8(h:aj ds x=Iv v):(.str x,v)∈ds:=by
 induction ds with
 |nil=>cases h
 |cons q r ih=>
  obtain⟨k,d⟩:=q
  cases k with
  |str k=>
   by_cases hk:k=x
   .have e:aj ((RF k,d)::r) x=Iv d:=if_pos hk<;>simp_all
   .have e:aj ((RF k,d)::r) x=aj r x:=if_neg hk<;>simp_all
  |_=>exact Rc _ (ih h)
section
variable {p:Bool}{n:Nat}{D0 R0:Dc}
def Bk.rg(b:Bk p n D0 R0)(h:aj R0 x=Iv r):Rg p 0 n r/\aj D0 x=LG:=by obtain⟨x',r',e,h1,h2,h3⟩:=b.rk _ (e8 h)<;>simp_all
def Bk.gv(b:Bk p n D0 R0):GV D0:=λx v h=>by
 obtain⟨x',v',e,h1⟩:=b.dk _ (e8 h)<;>simp_all
def C2.val(b:Bk p n D0 R0)(h:C2 D0 R0 x v):ay v=KN:=by
 cases h with
 |told h=>exact b.gv _ _ h
 |made hr hG _ e=>
  obtain⟨h1,_⟩:=kf hG b.n20 (cZ (b.rg hr).1 b.n20)
  rcases dw h1.st with⟨v',e1,hv⟩|⟨x,e1,_⟩|⟨b,x,r,e1,_⟩
  .rw[e1] at e
   have:=by simpa[J1] using e
   rw[←this];exact hv
  .rw[e1] at e;exact absurd e.symm fD
  .rw[e1] at e;cases b <;> simp[Du,J1] at e
def F0(D0 R0 G:Dc):Prop:=∀x v,aj G x=Iv v->C2 D0 R0 x v
def ClsAt(R0 G:Dc)(x:Str):Prop:=∀r v,aj R0 x=Iv r->(run G (s0 r)).S=J1 v->aj G x=Iv v
def F0.gv(b:Bk p n D0 R0)(h:F0 D0 R0 G):GV G:=λx v q=>(h x v q).val b
def kE(b:Bk p n D0 R0)(hd:Sub D0 G)(hs:F0 D0 R0 G)(hc:∀x,ClsAt R0 G x)(h:C2 D0 R0 x v):aj G x=Iv v:=by
 induction h with
 |told h=>exact hd _ _ h
 |made hr hG HA e ih=>
  rename_i x v r G1;refine hc x r v hr ?_;have Iq:=λy u q=>ih y u q;have h1:=pj Iq hG b.n20 (cZ (b.rg hr).1 b.n20)
  rw[jQ e] at h1<;>simp_all
def zmw(b:Bk p n D0 R0)(hd:Sub D0 G)(hs:F0 D0 R0 G)(hc:∀x,ClsAt R0 G x)(KU:Sub D0 G')(D5:F0 D0 R0 G')(HL:∀x,ClsAt R0 G' x)(x:Str):aj G x=aj G' x:=by
 cases h:aj G x with
 |some v=>exact(kE b KU D5 HL (hs x v h)).symm
 |none=>
  cases h':aj G' x with
  |none=>rfl
  |some v=>rw[kE b hd hs hc (D5 x v h')] at h;cases h
def mu(R0 G:Dc):Nat:=R0.countP λq=>match q.1 with
 |.str x=>(aj G x).isNone
 |_=>Lf
theorem countP_le{α:Type}{f g:α->Bool}:∀{l:List α},(∀a∈l,g a=KN->f a=KN)->l.countP g<=l.countP f
 |[],_=>Rn _
 |a::r,h=>by
  have ih:=countP_le  λx hx=>h x (Rc _ hx)
  rw[Vd,Vd]<;>grind
theorem se{α:Type}{f g:α->Bool}{a:α}:∀{l:List α},(∀a∈l,g a=KN->f a=KN)->a∈l->f a=KN->g a=Lf->l.countP g<l.countP f
 |[],_,h,_,_=>by simp_all
 |b::r,h,hm,hf,hg=>by
  have hr:=λx hx=>h x (Rc _ hx);rw[Vd,Vd]
  rcases Ru.mp hm with e|e
  .have:=countP_le hr<;>grind
  .have ih:=se hr e hf hg<;>grind
def qC(h:Sub G G'):mu R0 G'<=mu R0 G:=countP_le λq _ hq=>by
 split at hq
 .rename_i x e
  cases hk:aj G x with
  |none=>rfl
  |some v=>rw[h x v hk] at hq;cases hq
 .cases hq
def Bh(hr:aj R0 x=Iv r)(h:aj G x=LG):mu R0 (putN G x v)+1<=mu R0 G:=by
 have hs:=Sub.new (v:=v) h;refine se  (λq _ hq=>?_) (e8 hr) (by simp[h]) (by simp[dE]);split at hq
 .rename_i x e
  cases hk:aj G x with
  |none=>rfl
  |some v=>rw[hs x v hk] at hq;cases hq
 .cases hq
def lX(h:aj G x=LG):(putN G x v).length=G.length+1:=by unfold putN<;>simp_all
end
theorem zmx:jJ=aI 5 (ai (kA 1 (af HN (aa 0) (fC (.int 0)))) (ai (aE 2 (fC (.bool KN))) (ai (bc (aJ (aa 2)) lU 100000) (aq (aa 1))))):=rfl
def ff(h:b (ρ.set i (Iv (.d d))) T=Iv ((.nx,ρ'),T)):forL i b (d::r) ρ T=forL i b r ρ' T:=by
 rw[zko,h];rfl
@[simp] theorem OD:c8 i fk fv ρ T=G5 (fv ρ T) λw T1=>qA i fk ρ w T1 ρ[i]?:=rfl
@[simp] theorem NE:qA i fk ρ w T (Iv (Iv (.loc (.dict ds))))=G5 (fk ρ T) (qB i ρ ds w):=rfl
@[simp] theorem NF:qB i ρ ds (.d x) (.d (.str s)) T=if ds.length<=1000 then Iv ((.nx,ρ.set i (Iv (.loc (.dict (putN ds s x))))),T) else LG:=rfl
@[simp] theorem ND:kA i f ρ T=G5 (f ρ T) λw T1=>qh i ρ (nT (view T1 w)) T1:=rfl
@[simp] theorem Pg:nT (Iv (.dict ds))=Iv ds:=rfl
@[simp] theorem Nj:qh i ρ (Iv ds) T=Iv ((.nx,ρ.set i (Iv (.loc (.dict ds)))),T):=rfl
@[simp] theorem Ot:eG i ρ T=Iv ((.nx,ρ.set i (Iv (.loc (.dict [])))),T):=rfl
@[simp] theorem Nk:i9 (.str s) (.dict ds)=Iv (.bool (!(aj ds s).isSome)):=rfl
@[simp] theorem O7:Mb (.str s) (.dict ds)=Iv (.bool (aj ds s).isSome):=rfl
@[simp] theorem OZ:Dz (.dict ds) (.str s)=aj ds s:=rfl
@[simp] theorem NJ:Gc o T (.d x) (.loc (.dict ds))=J8 T (o x (.dict ds)):=rfl
@[simp] theorem NH:Gc o T (.loc (.dict ds)) (.d y)=J8 T (o (.dict ds) y):=rfl
@[simp] theorem NL:Fg o T (.loc (.dict ds))=J8 T (o (.dict ds)):=rfl
@[simp] theorem F2:view T (.loc (.dict ds))=Iv (.dict ds):=rfl
noncomputable def J4(D0 R0:Dc):PyData:=.tuple [.dict D0,.dict R0]
def IP(D0 R0 G:Dc)(b:Bool)(on o4:Option D.W):XE:=[Iv (.d (J4 D0 R0)),Iv (.loc (.dict G)),Iv (.d (.bool b)),on,o4]
@[simp] theorem Nc:views T (.loc (.dict ds)::r)=nE (.dict ds) (views T r):=rfl
section
variable {p:Bool}{n:Nat}{D0 R0:Dc}
def zmy(h:Dv p g n S):bh (dJ S)=KN:=by
 rcases dw h with⟨v,rfl,hv⟩|⟨x,rfl,_⟩|⟨b,x,r,rfl,_⟩
 .simp[L0,bh,bR]
 .rw[i3];simp[J2,bh,bR]
 .simp[bt,bh,bR]
def zmz(B:Bk p n D0 R0)(hs:F0 D0 R0 G)(hr:aj R0 x=Iv r)(hl:G.length<=1000) :
  (∃v o,(run G (s0 r)).S=J1 v/\fV (IP D0 R0 G b (Iv (.d (.str x))) o4) T=Iv ((.nx,IP D0 R0 (putN G x v) KN (Iv (.d (.str x))) o),T)) \/
  ((∀v,(run G (s0 r)).S≠J1 v)/\∃o,fV (IP D0 R0 G b (Iv (.d (.str x))) o4) T=Iv ((.nx,IP D0 R0 G b (Iv (.d (.str x))) o),T)):=by
 have hG:=hs.gv B;have lr:=uF [] hG B.n20 (B.rg hr).1;obtain⟨ok,_⟩:=kf hG B.n20 (cZ (B.rg hr).1 B.n20);have te:=zmy ok.st
 rcases dw ok.st with⟨v,e,hv⟩|⟨y,e,_⟩|⟨b',y,r',e,_⟩
 .refine .inl ⟨v,Iv (.d (.tuple [.str "made",L0 v])),e,?_⟩
  rw[e] at lr te;have lk:=pB (T:=T) (T':=[]) te;have lb:=λT=>z6 (T:=T) hv;simp at lr lk;simp[fV,IP,J4,hr,lr,lk,lb,hl]
 .refine .inr ⟨λv q=>fD (q.symm.trans e),Iv (.d (J2 y)),?_⟩
  rw[e] at lr te;have lk:=pB (T:=T) (T':=[]) te;simp at lr lk;simp[fV,IP,J4,hr,lr,lk];kernel_rfl
 .refine .inr ⟨λv q=>by rw[e] at q;cases b' <;> simp[Du,J1] at q,Iv (.d (bt "wants" (.str y))),?_⟩
  rw[e] at lr te;have lk:=pB (T:=T) (T':=[]) te;simp at lr lk;simp[fV,IP,J4,hr,lr,lk];kernel_rfl
def nG(R0:Dc)(k:Ra):Prop:=∃x r,k=.str x/\aj R0 x=Iv r
def F0.put(B:Bk p n D0 R0)(hs:F0 D0 R0 G)(hr:aj R0 x=Iv r)(e:(run G (s0 r)).S=J1 v):F0 D0 R0 (putN G x v):=λy u q=>by
 rw[dE] at q
 by_cases h:x=y
 .subst h
  rw[if_pos rfl] at q;cases q;exact .made hr (hs.gv B) hs e
 .rw[if_neg h] at q
  exact hs y u q
def zna(B:Bk p n D0 R0)(h:C2 D0 R0 x v):∀u,C2 D0 R0 x u->v=u:=by
 induction h with
 |told h=>
  intro u hu
  cases hu with
  |told h'=>simp_all
  |made hr _ _ _=>rw[(B.rg hr).2] at h;cases h
 |made hr hG HA e ih=>
  rename_i x v r G1;intro u hu
  cases hu with
  |told h'=>rw[(B.rg hr).2] at h';cases h'
  |made JB hG' D4 e'=>
   rename_i r' G2;rw[hr] at JB;cases JB
   have key:∀(s:LY),Gv p n s->∀v u,(run G1 s).S=J1 v->(run G2 s).S=J1 u->v=u:=λs hs=>by
    refine gE hG B.n20 (λs s'=>∀v u,s'.S=J1 v->(run G2 s).S=J1 u->v=u) (λs h st v u e1 e2=>?_) (λs b x r w h e hk hl h' q v u e1 e2=>?_) _ s hs rfl
    .rw[jQ e1,e1] at e2
     simpa[J1] using e2
    .rw[eP e hl hk] at e1
     cases wx:aj G2 x with
     |none=>rw[jP e wx,e] at e2;cases b <;> simp[Du,J1] at e2
     |some w'=>
      have:=ih x w hk w' (D4 x w' wx);subst this;rw[eP e hl wx] at e2;exact q v u e1 e2
   exact key _ (cZ (B.rg hr).1 B.n20) v u e e'
def we(B:Bk p n D0 R0)(hs:F0 D0 R0 G)(hr:aj R0 x=Iv r)(h:aj G x=Iv v)(e:(run G (s0 r)).S=J1 u):v=u:=zna B (hs x v h) u (.made hr (hs.gv B) hs e)
theorem ut(B:Bk p n D0 R0){T:Tp}:∀(ks:List Ra) (G:Dc) (b:Bool) (on o4:Option D.W),(∀k∈ks,nG R0 k)->ks.Nodup->(∀x,.str x∈ks->aj G x=LG)->F0 D0 R0 G->G.length+mu R0 G<=900 ->
  ∃G' b' Dt Kz,forL 3 fV ks (IP D0 R0 G b on o4) T=Iv ((.nx,IP D0 R0 G' b' Dt Kz),T)/\F0 D0 R0 G'/\Sub G G'/\G'.length+mu R0 G'<=900/\(b'=Lf->b=Lf/\G'=G/\∀x,.str x∈ks->ClsAt R0 G x)/\(b'=KN->b=KN\/mu R0 G' < mu R0 G)
 |[],G,b,on,o4,_,_,_,hs,hl=>⟨G,b,on,o4,rfl,hs,.refl G,hl,λe=>⟨e,rfl,λx h=>by simp_all⟩,λe=>.inl e⟩
 |k::ks,G,b,on,o4,hk,nd,Hs,hs,hl=>by
  obtain⟨x,r,rfl,hr⟩:=hk _ Rf;obtain⟨nd1,Dd⟩:=RJ.mp nd;have IB:∀k∈ks,nG R0 k:=λk h=>hk k (Rc _ h);have st:∀{ρ':XE},fV (IP D0 R0 G b (Iv (.d (.str x))) o4) T=Iv ((.nx,ρ'),T)->forL 3 fV (.str x::ks) (IP D0 R0 G b on o4) T=forL 3 fV ks ρ' T:=λh=>ff h;have h:aj G x=LG:=Hs x Rf
  rcases zmz B (b:=b) (o4:=o4) (T:=T) hs hr (by lia) with⟨v,o,e,go⟩|⟨ne,o,go⟩
  .rw[st go]
   have m1:=Bh (v:=v) hr h;have l1:=lX (v:=v) h
   obtain⟨G',b',Dt,Kz,e1,e2,e3,e4,e5,e6⟩:=ut B ks (putN G x v) KN (Iv (.d (.str x))) o IB Dd (λy hy=>by
    rw[dE,if_neg (λz=>nd1 (by rw[z];exact hy))]
    exact Hs y (Rc _ hy)) (hs.put B hr e) (by lia)
   refine⟨G',b',Dt,Kz,e1,e2,(Sub.new h).trans e3,e4,λq=>?_,λq=>?_⟩
   .obtain⟨q1,_⟩:=e5 q
    cases q1
   .have:=qC (R0:=R0) e3
    exact .inr (by lia)
  .rw[st go]
   obtain⟨G',b',Dt,Kz,e1,e2,e3,e4,e5,e6⟩:=ut B ks G b (Iv (.d (.str x))) o IB Dd (λy hy=>Hs y (Rc _ hy)) hs hl;refine⟨G',b',Dt,Kz,e1,e2,e3,e4,λq=>?_,e6⟩;obtain⟨q1,q2,q3⟩:=e5 q;refine⟨q1,q2,λy hy=>?_⟩
   rcases Ru.mp hy with z|z
   .cases z
    intro r' v' JB e;rw[hr] at JB;cases JB;exact absurd e (ne v')
   .exact q3 y z
def tE(B:Bk p n D0 R0):∀k∈R0.map (·.1),nG R0 k:=λk hk=>by
 obtain⟨q,hq,rfl⟩:=Rl.mp hk;obtain⟨x,r,rfl,_,h,_⟩:=B.rk q hq;exact⟨x,r,rfl,h⟩
def uo(h:aj R0 x=Iv r):RF x∈R0.map (·.1):=Rl.mpr ⟨_,e8 h,rfl⟩
def Aq(G:Dc):mu R0 G<=R0.length:=WN
def k9(G:Dc):Ra->Bool
 |.str x=>!(aj G x).isSome
 |_=>Lf
def znb(B:Bk p n D0 R0):bK (ao (af i9 (aa 0) (aa 2))) (aa 0) (IP D0 R0 G b on o4) (R0.map (·.1)) T=Iv ((R0.map (·.1)).filter (k9 G),T):=lC λd hd=>by
 obtain⟨x,r,rfl,_⟩:=tE B d hd;simp[IP,k9]
theorem yo(B:Bk p n D0 R0):∀(m:Nat) (G:Dc) (on o4:Option D.W),mu R0 G+1<m->F0 D0 R0 G->G.length+mu R0 G<=900 ->
  ∃G' Dt Kz,bc (aJ (aa 2)) lU m (IP D0 R0 G KN on o4) T=Iv ((.nx,IP D0 R0 G' Lf Dt Kz),T)/\F0 D0 R0 G'/\Sub G G'/\∀x,ClsAt R0 G' x
 |0,G,on,o4,h,_,_=>by lia
 |m+1,G,on,o4,h,hs,hl=>by
  have nd:((R0.map (·.1)).filter (k9 G)).Nodup:=Z2 _ B.rnd
  obtain⟨G',b',Dt,Kz,e1,e2,e3,e4,e5,e6⟩:=ut B (T:=T) ((R0.map (·.1)).filter (k9 G)) G Lf on o4 (λk hk=>tE B k (SR.mp hk).1) nd (λx hx=>by
   have:=(SR.mp hx).2
   simpa[k9] using this) hs hl
  have hc:∀b G on o4,aJ (aa 2) (IP D0 R0 G b on o4) T=Iv (b,T):=λb G on o4=>rfl;have cp:=znb B (G:=G) (b:=Lf) (on:=on) (o4:=o4) (T:=T)
  have hb:lU (IP D0 R0 G KN on o4) T=Iv ((.nx,IP D0 R0 G' b' Dt Kz),T):=by
   simp[IP] at e1 cp;simp[lU,IP,J4] at e1 cp ⊢;simp[cp,e1]
  rw[i6 (hc _ _ _ _) hb]
  cases b' with
  |false=>
   obtain⟨_,q2,q3⟩:=e5 rfl;obtain⟨m,rfl⟩:∃j,m=j+1:=⟨m-1,by lia⟩;rw[jW (hc _ _ _ _)];refine⟨G',Dt,Kz,rfl,e2,e3,λx r v hr e=>?_⟩;rw[q2] at e ⊢
   cases hk:aj G x with
   |none=>
    have:=q3 x (SR.mpr ⟨uo hr,by simp[k9,hk]⟩) r v hr e<;>grind
   |some u=>rw[we B hs hr hk e]
  |true=>
   have hm:=(e6 rfl).resolve_left (by simp);obtain⟨G2,AD,o42,f1,f2,f3,f4⟩:=yo B m G' Dt Kz (by lia) e2 e4;exact⟨G2,AD,o42,f1,f2,e3.trans f3,f4⟩
def B2(B:Bk p n D0 R0):F0 D0 R0 D0:=λ_ _ h=>.told h
def znc(B:Bk p n D0 R0)(T:Tp):∃G,jJ [.d (J4 D0 R0)] T=Iv (.dict G,T)/\F0 D0 R0 G/\Sub D0 G/\∀x,ClsAt R0 G x:=by
 have hl:=B.len;have hm:=Aq (R0:=R0) D0;obtain⟨G,on,o4,e1,e2,e3,e4⟩:=yo B  100000 D0 LG LG (by lia) (B2 B) (by lia);refine⟨G,?_,e2,e3,e4⟩;rw[zmx];simp[IP] at e1;simp[J4] at e1 ⊢;rw[e1];simp
end
def GE:FS:=(c8 2 (aa 3) (ak lN (ab (aa 4) ah)))
def Hw:FS:=(ai (c8 2 (aa 3) (kU (ak lT (ab (af Dz (aa 2) (aa 3)) (ab (aa 1) ah))))) (EI (ao (af CP (af HN (af HN (af Dz (aa 2) (aa 3)) (fC (.int 2))) (fC (.int 0))) (fC (.str "made")))) (c8 1 (aa 3) (af HN (af HN (af Dz (aa 2) (aa 3)) (fC (.int 2))) (fC (.int 1)))) aA))
def CH:FS:=(ai (aE 6 (Et aR (ab (aa 1) ah))) (ai (cb 3 (bf (af HN (aa 0) (fC (.int 1)))) Hw) (aE 5 (af FU (Et aR (ab (aa 1) ah)) (aa 6)))))
theorem znd:jE=aI 7 (ai (kA 1 (af HN (aa 0) (fC (.int 0)))) (ai (eG 2) (ai (kW 3 4 (af HN (aa 0) (fC (.int 1))) GE) (ai (aE 5 (fC (.bool KN))) (ai (bc (aJ (aa 5)) CH 100000) (aq (ax .tuple (ab (aa 1) (ab (aa 2) ah))))))))):=rfl
def nm:Ra->Str
 |.str x=>x
 |_=>Rb ""
def JX(R0:Dc)(st:Str->LY):Dc:=R0.map λq=>(q.1,cm (st (nm q.1)))
def dA(st:Str->LY)(x:Str)(s:LY):Str->LY:=λy=>if y=x then s else st y
section
variable {p:Bool}{n:Nat}{D0 R0:Dc}
def mT{st:Str->LY}:aj (JX R0 st) x=(aj R0 x).map λ_=>cm (st x):=by
 induction R0 with
 |nil=>rfl
 |cons q r ih=>
  obtain⟨k,d⟩:=q
  cases k with
  |str k=>
   by_cases hk:k=x
   .subst hk
    simp[JX,aj,nm]
   .have:=ih
    simp[JX] at this;simp[JX,aj,hk,this]
  |_=>exact ih
def zne{st:Str->LY}:(JX R0 st).length=R0.length:=by simp[JX]
def znf{st:Str->LY}(hk:∀q∈R0,∃y r,q=(RF y,r)):cc (JX R0 st) x (cm s)=JX R0 (dA st x s):=by
 induction R0 with
 |nil=>rfl
 |cons q r ih=>
  obtain⟨y,d,rfl⟩:=hk q Rf;have ih':=ih λq hq=>hk q (Rc _ hq);have e:JX ((RF y,d)::r) st=(.str y,cm (st y))::JX r st:=rfl;have e2:JX ((RF y,d)::r) _=(.str y,cm (dA st x s y))::JX r _:=rfl;rw[e,e2,←ih']
  by_cases h:y=x
  .have e3:cc ((RF y,cm (st y))::JX r st) x _=_::cc _ x (cm s):=if_pos h
   rw[e3];simp[dA,h]
  .have e3:cc ((RF y,cm (st y))::JX r st) x _=_::cc _ x (cm s):=if_neg h
   rw[e3];simp[dA,h]
def zng(B:Bk p n D0 R0){st:Str->LY}(h:aj R0 x=Iv r):putN (JX R0 st) x (cm s)=JX R0 (dA st x s):=by
 unfold putN;rw[mT,h]
 exact znf λq hq=>by
  obtain⟨y,r,e,_⟩:=B.rk q hq;exact⟨y,r,e⟩
def Iz(D0 R0 G:Dc)(st:Str->LY)(on o4 o5 o6:Option D.W):XE:=[Iv (.d (J4 D0 R0)),Iv (.loc (.dict G)),Iv (.loc (.dict (JX R0 st))),on,o4,o5,o6]
def SI(R0 G:Dc)(st:Str->LY):Prop:=∀x r,aj R0 x=Iv r->∃G1,Sub G1 G/\GV G1/\st x=run G1 (s0 r)
def SI.sub{st:Str->LY}(h:SI R0 G st)(hs:Sub G G'):SI R0 G' st:=λx r hr=>by
 obtain⟨G1,h1,h2,h3⟩:=h x r hr;exact⟨G1,h1.trans hs,h2,h3⟩
def SI.go(B:Bk p n D0 R0){st:Str->LY}(h:SI R0 G st)(hr:aj R0 x=Iv r):Gv p n (st x)/\run G (st x)=run G (s0 r):=by
 obtain⟨G1,h1,h2,h3⟩:=h x r hr;have ok:=cZ (B.rg hr).1 B.n20;rw[h3];exact⟨(kf h2 B.n20 ok).1,pj h1 h2 B.n20 ok⟩
def SI.upd(B:Bk p n D0 R0){st:Str->LY}(h:SI R0 G st)(hG:GV G)(hr:aj R0 x=Iv r):SI R0 G (dA st x (run G (s0 r))):=λy r' JB=>by
 by_cases e:y=x
 .subst e
  rw[hr] at JB;cases JB;exact⟨G,.refl G,hG,by simp[dA]⟩
 .obtain⟨G1,h1,h2,h3⟩:=h y r' JB
  exact⟨G1,h1,h2,by simp[dA,e];exact h3⟩
def znh(B:Bk p n D0 R0){G:Dc}{st:Str->LY}(hs:F0 D0 R0 G)(hi:SI R0 G st)(hr:aj R0 x=Iv r)(hl:G.length<=1000) :
  (∃v,(run G (s0 r)).S=J1 v/\Hw (Iz D0 R0 G st (Iv (.d (.str x))) o4 o5 o6) T=Iv ((.nx,Iz D0 R0 (putN G x v) (dA st x (run G (s0 r))) (Iv (.d (.str x))) o4 o5 o6),T)) \/
  ((∀v,(run G (s0 r)).S≠J1 v)/\Hw (Iz D0 R0 G st (Iv (.d (.str x))) o4 o5 o6) T=Iv ((.nx,Iz D0 R0 G (dA st x (run G (s0 r))) (Iv (.d (.str x))) o4 o5 o6),T)):=by
 have hG:=hs.gv B;obtain⟨ok,er⟩:=hi.go B hr;obtain⟨ER,_⟩:=kf hG B.n20 (cZ (B.rg hr).1 B.n20);have lg:=zmo [] hG B.n20 ok;rw[er] at lg;have lk:=pB (T:=T) (T':=[]) (zmi ER)
 have c1:aj (JX R0 st) x=Iv (cm (st x)):=by rw[mT,hr];rfl
 have c2:=zng B (st:=st) (s:=run G (s0 r)) hr
 have c3:aj (JX R0 (dA st x (run G (s0 r)))) x=Iv (cm (run G (s0 r))):=by rw[mT,hr];simp[dA]
 have l2:(JX R0 st).length<=1000:=by rw[zne];have:=B.len;lia
 have e2:∀s ,HN (cm s) (.int 2)=Iv s.S:=λs=>rfl
 rcases dw ER.st with⟨v,e,hv⟩|⟨y,e,_⟩|⟨b',y,r',e,_⟩
 .refine .inl ⟨v,e,?_⟩
  simp[Hw,Iz,c1,lg,lk,c2,l2,c3,e2,e,J1,hl]
 .refine .inr ⟨λv q=>fD (q.symm.trans e),?_⟩
  simp[Hw,Iz,c1,lg,lk,c2,l2,c3,e2,e,J2]
 .refine .inr ⟨λv q=>by rw[e] at q;cases b' <;> simp[Du,J1] at q,?_⟩
  cases b' <;> simp[Hw,Iz,c1,lg,lk,c2,l2,c3,e2,e,Du]
end
@[simp] theorem NP:aR [.dict ds]=Iv (.int ds.length):=rfl
section
variable {p:Bool}{n:Nat}{D0 R0:Dc}
def zni(h:aj G x=Iv v):(∀y,aj (putN G x v) y=aj G y)/\(putN G x v).length=G.length:=by
 refine⟨λy=>?_,?_⟩
 .rw[dE]<;>grind
 .unfold putN
  rw[h,if_pos (by rfl),vZ]
def Sub.of(h:∀y,aj G' y=aj G y):Sub G G':=λx v q=>by simp_all
structure Rnd(D0 R0:Dc)(ks:List Ra)(G:Dc)(st:Str->LY)(G':Dc)(st':Str->LY):Prop where
 snd:F0 D0 R0 G'
 sub:Sub G G'
 si:SI R0 G' st'
 bd:G'.length+mu R0 G'<=900
 le:G.length<=G'.length
 lt:G.length<G'.length->mu R0 G' < mu R0 G
 same:G'.length=G.length->(∀y,aj G' y=aj G y)/\(∀x r,.str x∈ks->aj R0 x=Iv r->st' x=run G (s0 r)/\ClsAt R0 G x)/\∀x,.str x∉ks->st' x=st x
theorem Ar(B:Bk p n D0 R0){T:Tp}{o4 o5 o6:Option D.W}:∀(ks:List Ra) (G:Dc) (st:Str->LY) (on:Option D.W),(∀k∈ks,nG R0 k)->F0 D0 R0 G->SI R0 G st->G.length+mu R0 G<=900 ->
  ∃G' st' Dt,forL 3 Hw ks (Iz D0 R0 G st on o4 o5 o6) T=Iv ((.nx,Iz D0 R0 G' st' Dt o4 o5 o6),T)/\Rnd D0 R0 ks G st G' st'
 |[],G,st,on,_,hs,hi,hl=>⟨G,st,on,rfl,hs,.refl G,hi,hl,Rn _,λh=>absurd h (SO _),λ_=>⟨λ_=>rfl,λx r h=>(by cases h),λ_ _=>rfl⟩⟩
 |k::ks,G,st,on,hk,hs,hi,hl=>by
  obtain⟨x,r,rfl,hr⟩:=hk _ Rf;have IB:∀k∈ks,nG R0 k:=λk h=>hk k (Rc _ h);have hG:=hs.gv B;have st0:∀{ρ':XE},Hw (Iz D0 R0 G st (Iv (.d (.str x))) o4 o5 o6) T=Iv ((.nx,ρ'),T)->forL 3 Hw (.str x::ks) (Iz D0 R0 G st on o4 o5 o6) T=forL 3 Hw ks ρ' T:=λh=>ff h
  have fin:∀(G1:Dc),F0 D0 R0 G1->Sub G G1->G1.length+mu R0 G1<=900->G.length<=G1.length->(G.length<G1.length->mu R0 G1<mu R0 G)->(G1.length=G.length->(∀y,aj G1 y=aj G y)/\ClsAt R0 G x)->SI R0 G1 (dA st x (run G (s0 r))) ->
    ∃G' st' Dt,forL 3 Hw ks (Iz D0 R0 G1 (dA st x (run G (s0 r))) (Iv (.d (.str x))) o4 o5 o6) T=Iv ((.nx,Iz D0 R0 G' st' Dt o4 o5 o6),T)/\Rnd D0 R0 (.str x::ks) G st G' st':=by
   intro G1 h1 h2 h3 h4 h5 h6 h7;obtain⟨G',st',Dt,e1,R⟩:=Ar B (T:=T) (o4:=o4) (o5:=o5) (o6:=o6) ks G1 (dA st x (run G (s0 r))) (Iv (.d (.str x))) IB h1 h7 h3;refine⟨G',st',Dt,e1,R.snd,h2.trans R.sub,R.si,R.bd,RL h4 R.le,λh=>?_,λh=>?_⟩
   .have m1:=qC (R0:=R0) R.sub
    have m2:=qC (R0:=R0) h2
    by_cases c:G.length<G1.length
    .have:=h5 c;lia
    .have:=R.lt (by lia);lia
   .have c1:G1.length=G.length:=by have:=R.le;lia
    obtain⟨q1,q2⟩:=h6 c1;obtain⟨r1,r2,r3⟩:=R.same (by lia);have same:∀r',aj R0 x=Iv r'\/True->True:=λ_ _=>trivial;refine⟨λy=>(r1 y).trans (q1 y),λy r' hy JB=>?_,λy hy=>?_⟩
    .by_cases IQ:RF y∈ks
     .obtain⟨a1,a2⟩:=r2 y r' IQ JB
      have cg:=oH q1 (h1.gv B) B.n20 (cZ (B.rg JB).1 B.n20);refine⟨by rw[a1,cg],λr2' v Ef e=>?_⟩;rw[JB] at Ef;cases Ef;rw[←q1];exact a2 r' v JB (by rw[cg];exact e)
     .have hxy:y=x:=by
       rcases Ru.mp hy with z|z
       .cases z;rfl
       .exact absurd z IQ
      subst hxy;rw[hr] at JB;cases JB;exact⟨by rw[r3 y IQ];simp[dA],q2⟩
    .have n1:RF y∉ks:=λz=>hy (Rc _ z)
     have n2:¬y=x:=λz=>hy (by rw[z];exact Rf);rw[r3 y n1];simp[dA,n2]
  rcases znh B (T:=T) (o4:=o4) (o5:=o5) (o6:=o6) hs hi hr (by lia) with⟨v,e,go⟩|⟨ne,go⟩
  .rw[st0 go]
   have sp:=hs.put B hr e
   cases h:aj G x with
   |none=>
    have m1:=Bh (v:=v) hr h;have l1:=lX (v:=v) h;have sb:=Sub.new (v:=v) h;exact fin (putN G x v) sp sb (by lia) (by lia) (λ_=>by lia) (λc=>by lia) ((hi.upd B hG hr).sub sb)
   |some u=>
    have:=we B hs hr h e;subst this;obtain⟨o1,o2⟩:=zni h;have sb:=Sub.of o1;have m1:=qC (R0:=R0) sb;refine fin (putN G x u) sp sb (by lia) (by lia) (λc=>by lia) (λ_=>⟨o1,λr' v' JB e'=>?_⟩) ((hi.upd B hG hr).sub sb);rw[hr] at JB;cases JB;rw[e] at e'
    have:u=v':=by simpa[J1] using e'
    rw[←this];exact h
  .rw[st0 go]
   exact fin G hs (.refl G) hl (Rn _) (λc=>absurd c (SO _)) (λ_=>⟨λ_=>rfl,λr' v' JB e'=>by
    rw[hr] at JB;cases JB
    exact absurd e' (ne v')⟩) (hi.upd B hG hr)
theorem yg(B:Bk p n D0 R0){T:Tp}:∀(m:Nat) (G:Dc) (st:Str->LY) (on o4 o6:Option D.W),mu R0 G+1<m->F0 D0 R0 G->SI R0 G st->G.length+mu R0 G<=900 ->
  ∃G' st' Dt Gi HI,bc (aJ (aa 5)) CH m (Iz D0 R0 G st on o4 (Iv (.d (.bool KN))) o6) T=Iv ((.nx,Iz D0 R0 G' st' Dt o4 Gi HI),T)/\F0 D0 R0 G'/\Sub G G'/\(∀x,ClsAt R0 G' x)/\∀x r,aj R0 x=Iv r->st' x=run G' (s0 r)
 |0,G,st,on,o4,o6,h,_,_,_=>by lia
 |m+1,G,st,on,o4,o6,h,hs,hi,hl=>by
  obtain⟨G',st',Dt,e1,R⟩:=Ar B (T:=T) (o4:=o4) (o5:=Iv (.d (.bool KN))) (o6:=Iv (.d (.int G.length))) (R0.map (·.1)) G st on (tE B) hs hi hl;have hc:∀b G st on o4 o6,aJ (aa 5) (Iz D0 R0 G st on o4 (Iv (.d (.bool b))) o6) T=Iv (b,T):=λb G st on o4 o6=>rfl
  have hb:CH (Iz D0 R0 G st on o4 (Iv (.d (.bool KN))) o6) T=Iv ((.nx,Iz D0 R0 G' st' Dt o4 (Iv (.d (.bool (decide (G.length<G'.length))))) (Iv (.d (.int G.length)))),T):=by
   simp only[Iz,J4] at e1;simp[CH,Iz,J4,e1]
  rw[i6 (hc _ _ _ _ _ _) hb]
  by_cases c:G.length<G'.length
  .rw[decide_eq_true c]
   have:=R.lt c;obtain⟨G2,Fv,AD,o52,o62,f1,f2,f3,f4,f5⟩:=yg B (T:=T) m G' st' Dt o4 (Iv (.d (.int G.length))) (by lia) R.snd R.si R.bd;exact⟨G2,Fv,AD,o52,o62,f1,f2,R.sub.trans f3,f4,f5⟩
  .rw[decide_eq_false c]
   obtain⟨m,rfl⟩:∃j,m=j+1:=⟨m-1,by lia⟩;rw[jW (hc _ _ _ _ _ _)];obtain⟨q1,q2,_⟩:=R.same (by have:=R.le;lia);refine⟨G',st',Dt,_,_,rfl,R.snd,R.sub,λx r v hr e=>?_,λx r hr=>?_⟩
   .have cg:=oH q1 (R.snd.gv B) B.n20 (cZ (B.rg hr).1 B.n20)
    rw[q1];exact(q2 x r (uo hr) hr).2 r v hr (by rw[←cg];exact e)
   .have cg:=oH q1 (R.snd.gv B) B.n20 (cZ (B.rg hr).1 B.n20)
    rw[(q2 x r (uo hr) hr).1,cg]
def sI(h:RF x∉ds.map (·.1)):aj ds x=LG:=by
 cases e:aj ds x with
 |none=>rfl
 |some v=>exact absurd (Rl.mpr ⟨_,e8 e,rfl⟩) h
def fK(q:Ra×Ra):Ra×PyData:=(q.1,cm (s0 q.2))
def Lo(D0 R0:Dc)(c:Dc)(on o4:Option D.W):XE:=[Iv (.d (J4 D0 R0)),Iv (.loc (.dict D0)),Iv (.loc (.dict c)),on,o4,LG,LG]
def zx(h:b ((ρ.set i (Iv (.d d.1))).set j (Iv (.d d.2))) T=Iv ((.nx,ρ'),T)):fL i j b (d::r) ρ T=fL i j b r ρ' T:=by
 show G5 _ _=_;rw[h];rfl
theorem zk(B:Bk p n D0 R0){T:Tp}:∀(rest P:Dc) (on o4:Option D.W),R0=P++rest->∃Dt Kz,fL 3 4 GE rest (Lo D0 R0 (P.map fK) on o4) T=Iv ((.nx,Lo D0 R0 (R0.map fK) Dt Kz),T)
 |[],P,on,o4,e=>⟨on,o4,by rw[e];simp[fL]⟩
 |q::rest,P,on,o4,e=>by
  have hq:q∈R0:=by simp_all
  obtain⟨x,r,rfl,hr,hk,_⟩:=B.rk q hq;have ls:=zmp T hr B.n20
  have nk:aj (P.map fK) x=LG:=sI λz=>by
   have nd:=B.rnd;rw[e,Su,SM] at nd;obtain⟨q,EB,E9⟩:=Rl.mp z;obtain⟨q',Mz,rfl⟩:=Rl.mp EB;exact nd.2.2 q'.1 (Rl.mpr ⟨q',Mz,rfl⟩) (.str x) (by simp) E9
  have pn:putN (P.map fK) x (cm (s0 r))=(P++[(RF x,r)]).map fK:=by
   unfold putN;rw[nk,if_neg (by simp)];simp[fK]
  have pl:(P.map fK).length<=1000:=by
   have:=B.len<;>grind
  have st:GE (((Lo D0 R0 (P.map fK) on o4).set 3 (Iv (.d (.str x)))).set 4 (Iv (.d r))) T=Iv ((.nx,Lo D0 R0 ((P++[(RF x,r)]).map fK) (Iv (.d (.str x))) (Iv (.d r))),T):=by
   rw[←pn];simp at pl;simp[GE,Lo,ls,pl]
  rw[zx st];exact zk B rest (P++[(.str x,r)]) _ _ (by rw[e];simp)
def stI(R0:Dc)(x:Str):LY:=match aj R0 x with
 |some r=>s0 r
 |none=>⟨[],[],.none⟩
def znj(B:Bk p n D0 R0):R0.map fK=JX R0 (stI R0):=by
 refine RV λq hq=>?_;obtain⟨x,r,rfl,_,hk,_⟩:=B.rk q hq;simp[fK,nm,stI,hk]
def znk(s:LY):run [] s=s:=by
 unfold run
 cases 12-s.gs.length with
 |zero=>rfl
 |succ f=>
  rw[jr]
  cases cP s.S with
  |none=>rfl
  |some q=>rfl
def znl:SI R0 D0 (stI R0):=λx r hr=>⟨[],λy v h=>(by cases h),λy v h=>(by cases h),by simp[stI,hr,znk]⟩
def znm(B:Bk p n D0 R0)(T:Tp):∃G st,jE [.d (J4 D0 R0)] T=Iv (.tuple [.dict G,.dict (JX R0 st)],T)/\F0 D0 R0 G/\Sub D0 G/\(∀x,ClsAt R0 G x)/\∀x r,aj R0 x=Iv r->st x=run G (s0 r):=by
 have hl:=B.len;have hm:=Aq (R0:=R0) D0;obtain⟨on,o4,i1⟩:=zk B (T:=T) R0 [] LG LG rfl;obtain⟨G,st,Dt,o5,o6,e1,e2,e3,e4,e5⟩:=yg B (T:=T) 100000 D0 _ on o4 LG (by lia) (B2 B) znl (by lia);refine⟨G,st,?_,e2,e3,e4,e5⟩;rw[znj B] at i1;rw[znd];simp only[Lo,J4] at i1;simp only[Iz,J4] at e1;have fi:∀ρ T,kW 3 4 (af HN (aa 0) (fC (.int 1))) GE ρ T=G5 _ _:=λ_ _=>rfl;have fk:∀ρ T,uS 3 4 GE ρ (.d (.dict R0)) T=fL 3 4 GE R0 ρ T:=λ_ _=>rfl
 simp[J4,fi]<;>simp_all
end
noncomputable def LW(ps:List Str):List PyData:=ps.map RF
def zr(ps:List Str)(x:Str):L1 (LW (ps++[x])) (-1)=Iv (.str x):=by
 unfold L1 L5 LW
 have h:(List.map RF (ps++[x])).length=ps.length+1:=by simp
 rw[h,if_neg (by lia),if_pos (by lia)]
 have e:((-1:Int)+((ps.length+1:Nat))).toNat=ps.length:=by lia
 simp only[e];simp
def yA(ps:List Str)(x:Str):dM (LW (ps++[x])) LG (Iv (-1))=LW ps:=by
 have e:HT.Jo (LW (ps++[x])).length 0 LG=0:=rfl
 have e2:HT.Jo (LW (ps++[x])).length (LW (ps++[x])).length (Iv (-1))=ps.length:=by
  show (if (-1)<0 then ((-1)+_).toNat else min ((-1)).toNat (LW (ps++[x])).length)=_;simp[LW]
  lia
 unfold dM;rw[e,e2];simp[LW]
def znn(ps:List Str)(x:Str):Fp (.str x) (.list (LW ps))=Iv (decide (x∈ps)):=by
 have h1:(LW ps).all dr=KN:=by
  rw[Rq];intro d hd;obtain⟨y,_,rfl⟩:=Rl.mp hd;rfl
 have h2:((LW ps).any λy=>JA y (.str x))=decide (x∈ps):=by
  rw[Sl,Wf,decide_eq_true_eq];constructor
  .rintro⟨d,hd,e⟩
   obtain⟨y,hy,rfl⟩:=Rl.mp hd
   have:=by simpa[JA] using e
   rw[←this];exact hy
  .intro hx
   exact⟨.str x,Rl.mpr ⟨x,hx,rfl⟩,by simp[JA]⟩
 show (if _=KN then Iv _ else LG)=_;rw[h1,if_pos (by rfl),h2]
def rB(ps:List Str)(x:Str):cS (.str x) (.list (LW ps))=Iv (.bool (!(decide (x∈ps)))):=by
 unfold cS;rw[znn];rfl
def iz(w:String)(ps:List Str):PyData:=.tuple [.str (Rb w),.tuple (LW ps)]
def kT(ps:List Str)(w:Str):PyData:=.tuple [.str "fails",.tuple (LW ps),.str w]
def GK(R0:Dc)(ps:List Str):Nat:=R0.countP λq=>match q.1 with
 |.str x=>decide (x∉ps)
 |_=>Lf
def ln(x:Str)(s:LY):PyData:=.tuple [.str x,.tuple (s.rd.map IE),dJ s.S]
def En(R0 G:Dc)(x:Str):LY:=run G (s0 ((aj R0 x).getD .none))
def L3(R0 G:Dc)(x:Str):PyData:=ln x (En R0 G x)
section
variable {p:Bool}{n:Nat}{D0 R0:Dc}
def eB(h:aj R0 x=Iv r):En R0 G x=run G (s0 r):=by
 unfold En;rw[h];rfl
def z5(B:Bk p n D0 R0)(hG:GV G)(hr:aj R0 x=Iv r)(T:Tp):jI [.d (J4 D0 R0),.d (.dict G),.d (.str x)] T=Iv (L3 R0 G x,T):=by
 have e:=uF T hG B.n20 (B.rg hr).1;rw[←eB  hr] at e;have i1:HN (J4 D0 R0) (.int 1)=Iv _:=rfl;simp[jI,i1,hr,e,u7,L3,ln]
def zno(hr:aj R0 x=Iv r)(h:x∉ps):GK R0 (ps++[x])<GK R0 ps:=by
 refine se  (λq _ hq=>?_) (e8 hr) (by simp[h]) (by simp)
 split at hq<;>simp_all
def zi(ps:List Str):GK R0 ps<=R0.length:=WN
inductive F6:Ra->Prop where
 |two {w:String}{ps:List Str}:ps.length<=1000->F6 (iz w ps)
 |fail {ps:List Str}{w:Str}:ps.length<=1000->F6 (kT ps w)
def wQ(hG:GV G)(hn:n<=20)(h:Gv p n s):∀d∈(run G s).rd,d∈s.rd\/∃z v,d=.tuple [.str z,v]/\aj G z=Iv v:=
 gE hG hn (λs s'=>∀d∈s'.rd,d∈s.rd\/∃z v,d=.tuple [.str z,v]/\aj G z=Iv v) (λs _ _ d hd=>.inl hd) (λs b x r v _ e hk hl _ q d hd=>by
  rw[eP e hl hk] at hd
  rcases q d hd with z|z
  .rcases Ry.mp z with z|z
   .exact .inl z
   .cases b with
    |true=>cases z
    |false=>exact .inr ⟨x,v,RD.mp z,hk⟩
  .exact .inr z) _ s h rfl
def yn(B:Bk p n D0 R0)(hd:Sub D0 G)(hs:F0 D0 R0 G)(hc:∀x,ClsAt R0 G x)(hr:aj R0 x=Iv r)(h:aj G x=Iv v) :
  ∃G1,GV G1/\(∀y u,aj G1 y=Iv u->C2 D0 R0 y u)/\run G (s0 r)=run G1 (s0 r)/\(run G (s0 r)).S=J1 v:=by
 have d:=hs x v h
 cases d with
 |told z=>rw[(B.rg hr).2] at z;cases z
 |made JB Ls HA e=>
  rename_i r' G1;rw[hr] at JB;cases JB;have Iq:=λy u q=>kE B hd hs hc (HA y u q);have h1:=pj Iq Ls B.n20 (cZ (B.rg hr).1 B.n20);rw[jQ e] at h1;exact⟨G1,Ls,HA,h1.symm,by simp_all⟩
end
inductive SV:Nat->Ra->Prop where
 |int {n:Nat}{i:Int}:SV n (.int i)
 |str {n:Nat}{x:Str}:SV n (.str x)
 |tup {n:Nat}{xs:List Ra}:xs.length<=1000->(∀d∈xs,SV n d)->SV (n+1) (.tuple xs)
 |dct {n:Nat}{ds:Dc}:(∀q∈ds,∃x,q.1=.str x/\aj ds x=Iv q.2)->(∀q∈ds,SV n q.2)->SV (n+1) (.dict ds)
@[simp] theorem OY:Dz (.tuple xs) (.int i)=L1 xs i:=rfl
@[simp] theorem NO:aR [.dict ds]=Iv (.int ds.length):=rfl
theorem Br:bo .int .dct=Lf:=rfl
theorem Bo:bo .str .dct=Lf:=rfl
theorem znp:bo .dct .dct=KN:=rfl
theorem Bp:bo .str .bl=Lf:=rfl
theorem Bn:bo .str .int=Lf:=rfl
theorem Bs:bo .int .bl=Lf:=rfl
theorem Bq:bo .int .int=KN:=rfl
theorem Bm:bo .str .str=KN:=rfl
def zU(l:List Ra):dS [.list (l.map λ_=>.bool KN)]=Iv (.bool KN) :=by simp
def A2(h:SV n d):∀k T,n<k->cX k [.d d,.d d] T=Iv (.bool KN,T):=by
 induction h with
 |int=>
  intro k T hk;obtain⟨k,rfl⟩:∃j,k=j+1:=⟨k-1,by lia⟩;simp[cX,jn,gP,isNone,Br,Bo,Bp,Bn,Bs,Bq,Bm]
 |str=>
  intro k T hk;obtain⟨k,rfl⟩:∃j,k=j+1:=⟨k-1,by lia⟩;simp[cX,jn,gP,isNone,Br,Bo,Bp,Bn,Bs,Bq,Bm]
 |tup hl hs ih=>
  rename_i n xs;intro k T hk;obtain⟨k,rfl⟩:∃j,k=j+1:=⟨k-1,by lia⟩;have hr:=iS (j:=(xs.length:Int)) (by lia) (by lia)
  have c:=en (e:=ak (cX k) (ab (af Dz (aa 1) (aa 0)) (ab (af Dz (aa 2) (aa 0)) ah))) (ρ:=[Iv (.d (.tuple xs)),Iv (.d (.tuple xs))]) (T:=T) (g:=λ_=>.bool KN) (ds:=cN 0 xs.length) λd hd=>by
   obtain⟨i,hi,rfl⟩:=Rl.mp hd;have Ds:=WQ.mp hi;obtain⟨a,ha,hm⟩:=gI (xs:=xs) (i:=0+(i:Int)) (by lia) (by lia);have:=ih a hm k T (by lia);rw[Int.zero_add] at ha;simp[ha,this]
  have al:=zU (cN 0 xs.length);simp[cX,jn,gP,hr,c,al]
 |dct hq hs ih=>
  rename_i n ds;intro k T hk;obtain⟨k,rfl⟩:∃j,k=j+1:=⟨k-1,by lia⟩
  have c:=en (e:=bN (af Mb (aa 0) (aa 1)) (ak (cX k) (ab (af Dz (aa 1) (aa 0)) (ab (af Dz (aa 2) (aa 0)) ah)))) (ρ:=[Iv (.d (.dict ds)),Iv (.d (.dict ds))]) (T:=T) (g:=λ_=>.bool KN) (ds:=ds.map (·.1)) λd hd=>by
   obtain⟨q,EB,rfl⟩:=Rl.mp hd;obtain⟨x,e1,e2⟩:=hq q EB;have:=ih q EB k T (by lia);rw[e1];simp[e2,this]
  have al:=zU (ds.map (·.1));simp only[Sk] at al;simp[cX,jn,gP,c,znp,al]
theorem xM:∀(n:Nat) (d:Ra),aC n d=KN->SV n d
 |n,.int i,_=>.int
 |n,.str x,_=>.str
 |n,.none,h=>by cases n <;> cases h
 |n,.bool _,h=>by cases n <;> cases h
 |n,.list _,h=>by cases n <;> cases h
 |n,.dict _,h=>by cases n <;> cases h
 |0,.tuple _,h=>by cases h
 |n+1,.tuple xs,h=>by
  have h':(decide _&&xs.all _)=KN:=h;rw[Ro] at h';have l:=of_decide_eq_true h'.1;exact .tup (by lia) λd hd=>xM n d (Rq.mp h'.2 d hd)
def znq(h:ay v=KN):SV 4 v:=xM 4 v (ck h).1
def znr(h:ay v=KN):SV 5 (J1 v):=.tup (by simp) λd hd=>by
 simp at hd
 rcases hd with rfl|rfl
 .exact .str
 .exact znq h
def A7(ps:List Str)(h:ps.length<=1000):SV (n+1) (.tuple (LW ps)):=.tup (by simp[LW];exact h) λd hd=>by
 obtain⟨x,_,rfl⟩:=Rl.mp hd;exact .str
def bF(A T:Tp):Prop:=∃(ds:List Ra) (i:Int),T=A++[[.list ds,.int i]]/\0<=i/\0<ds.length/\ds.length<=1000/\∀d∈ds,∃c:Int,d=.int c
def zns:Gc o (A++[.list zs::xs]) (.tp A.length) (.d y)=J8 (A++[.list zs::xs]) (o (.list (.list zs::xs)) y):=by
 have h:view (A++[.list zs::xs]) (.tp A.length)=Iv (.list (.list zs::xs)):=by simp
 unfold Gc;rw[h];rfl
theorem znt:L5 2 1=Iv 1:=rfl
theorem iC{α:Type}{a b:α}:L1 [a,b] 0=Iv a:=rfl
theorem iB{α:Type}{a b:α}:L1 [a,b] 1=Iv b:=rfl
def bQ{A T:Tp}{m:Int}(t:bF A T)(h1:0<m):∃r T',aZ [.tp A.length,.d (.int m)] T=Iv (.int r,T')/\bF A T'/\0<=r/\r<m:=by
 obtain⟨ds,i,rfl,hi,hl,CM,hd⟩:=t
 have hp:(0:Int)<(ds.length):=by lia
 obtain⟨d,e1,hm⟩:=gI  (i:=i % _) (WI _ (by lia)) (VE _ hp);obtain⟨c,rfl⟩:=hd d hm;refine⟨c % m,A++[[.list ds,.int _]],?_,⟨ds,i+1,rfl,by lia,hl,CM,hd⟩,WI _ (by lia),VE _ h1⟩;simp[aZ,u9,zns,znt,e1,h1,hl]
theorem eO:gj (.int i) (.int j)=if 0<j/\j<18446744073709551616 then Iv (.int (i / j)) else LG:=rfl
def Jc:FS:=(ai (aE 4 (af cy (af aP (af aP (af cB (aa 4) (aa 4)) (af cB (fC (.int 48271)) (aa 4))) (af cB (fC (.int 7)) (aa 5))) (fC (.int 2147483647)))) (EI (ao (af FU (aa 3) (fC (.int 0)))) (ai (cR 2 (af cy (aa 3) (fC (.int 720720)))) (aE 3 (af gj (aa 3) (fC (.int 720720))))) (cR 2 (af gj (af cy (af aP (af cB (aa 4) (fC (.int 69621))) (af cB (fC (.int 13)) (aa 5))) (fC (.int 2147483629))) (fC (.int 3))))))
theorem Bw:gU=aI 6 (ai (cj 2 ah) (ai (aE 3 (fC (.int 0))) (ai (EI (ao (af M6 (aa 0) (af iE (fC (.int 10)) (fC (.int 18))))) (aE 3 (aa 0)) aA) (ai (aE 4 (af aP (af cy (aa 0) (fC (.int 2147483629))) (fC (.int 48271)))) (ai (cb 5 (d0 (aa 1)) Jc) (aq (aa 2))))))):=rfl
noncomputable def Mq(c N:Int)(fs:List Ra)(nu mi:Int)(o:Option D.W):XE:=[Iv (.d (.int c)),Iv (.d (.int N)),Iv (.loc (.list fs)),Iv (.d (.int nu)),Iv (.d (.int mi)),o]
def pG:1000<sizeLine:=by decide
theorem AN{c N:Int}{T:Tp}:∀(ks:List Int) (fs:List Ra) (nu mi:Int) (o:Option D.W),-18446744073709551616<mi->mi<18446744073709551616->fs.length+ks.length<=1000->(∀d∈fs,∃c:Int,d=.int c) ->
  ∃Dy GZ GL o',forL 5 Jc (ks.map TB) (Mq c N fs nu mi o) T=Iv ((.nx,Mq c N Dy GZ GL o'),T)/\Dy.length=fs.length+ks.length/\∀d∈Dy,∃c:Int,d=.int c
 |[],fs,nu,mi,o,_,_,_,hf=>⟨fs,nu,mi,o,rfl,rfl,hf⟩
 |k::ks,fs,nu,mi,o,h1,h2,hl,hf=>by
  have Ka:fs.length+(ks.length+1)<=1000:=hl;have bl:=pG
  have vP:fs.length<sizeLine:=by lia
  have m2:0<=(mi*mi+48271*mi+7*k) % 2147483647/\(mi*mi+48271*mi+7*k) % 2147483647<2147483647:=⟨WI _ (by decide),VE _ (by decide)⟩;generalize hmi:(mi*mi+48271*mi+7*k) % 2147483647=GL at m2
  have ap:∀(x:Int),∀d∈fs++[TB x],∃c:Int,d=.int c:=λx d hd=>by
   rcases Ry.mp hd with z|z
   .exact hf d z
   .exact⟨x,RD.mp z⟩
  have Dr:∃x GZ,Jc (Y0 (Mq c N fs nu mi o) 5 (Iv (.d (.int k)))) T=Iv ((.nx,Mq c N (fs++[.int x]) GZ GL (Iv (.d (.int k)))),T):=by
   by_cases hn:0<nu
   .refine⟨nu % 720720,nu / 720720,?_⟩
    simp[Jc,Mq,eO,h1,h2,hn,vP,hmi]
   .refine⟨(GL * 69621+13*k) % 2147483629 / 3,nu,?_⟩
    simp[Jc,Mq,eO,h1,h2,hn,vP,hmi]
  obtain⟨x,GZ,st⟩:=Dr;obtain⟨Dy,nu2,mi2,o2,e1,e2,e3⟩:=AN (c:=c) (N:=N) (T:=T) ks (fs++[.int x]) GZ GL (Iv (.d (.int k))) (by lia) (by lia) (by simp;lia) (ap x);refine⟨Dy,nu2,mi2,o2,?_,by rw[e2];simp;lia,e3⟩;rw[R7,ff st];exact e1
def znu(n:Nat):cN 0 n=((SH n).map λ(i:Nat)=>(i:Int)).map PyData.int:=by unfold cN<;>simp_all
def tU{c N:Int}{T:Tp}(h0:0<N)(h1:N<=1000):∃ds,gU [.d (.int c),.d (.int N)] T=Iv (.list ds,T)/\ds.length=N.toNat/\∀d∈ds,∃c:Int,d=.int c:=by
 have hr:=iS  (by lia) h1
 have key:∀nu,∃ds o,forL 5 Jc _ _ T=Iv (_,T)/\(∃a b d e,o=Mq c N ds a b d/\e=())/\ds.length=N.toNat/\∀d∈ds,∃c:Int,d=.int c:=λnu=>by
  obtain⟨Dy,nu2,mi2,o2,e1,e2,e3⟩:=AN    ((SH N.toNat).map λ(i:Nat)=>_) [] nu (c % 2147483629+48271) LG (by lia) (by lia) (by simp_all) (by simp);rw[←znu] at e1;exact⟨Dy,_,e1,⟨_,_,_,(),rfl,rfl⟩,by simp_all,e3⟩
 by_cases hc:1000000000000000000<=c
 .obtain⟨ds,o,e1,⟨a,b,d,e,rfl,_⟩,e3,e4⟩:=key c
  refine⟨ds,?_,e3,e4⟩;rw[Bw]
  simp[Mq] at e1<;>simp_all
 .obtain⟨ds,o,e1,⟨a,b,d,e,rfl,_⟩,e3,e4⟩:=key 0
  refine⟨ds,?_,e3,e4⟩;rw[Bw];simp[Mq] at e1;simp[hc,hr,e1]
def tX{A:Tp}{ds:List Ra}(h0:0<ds.length)(h1:ds.length<=1000)(h:∀d∈ds,∃c:Int,d=.int c):bF A (A++[[.list ds,.int 0]]):=⟨ds,0,rfl,by decide,h0,h1,h⟩
def qu{ns:List Int}{k:Int}{T:Tp}(h:0<=k):∃c:Int,dN [.d (cu ns),.d (.int k)] T=Iv (.int c,T):=by
 by_cases hk:k<(ns.length)
 .obtain⟨d,e1,hm⟩:=gI (xs:=ns.map TB)  h (by simp_all)
  obtain⟨c,_,rfl⟩:=Rl.mp hm;exact⟨c,by simp[dN,cu,hk,e1]⟩
 .exact⟨0,by simp[dN,cu,hk]⟩
def yB{α:Type}(xs:List α)(a:Nat):dM xs (Iv (a:Int)) LG=xs.drop a:=by
 have e:HT.Jo xs.length 0 (Iv (a))=min a xs.length:=by
  show (if (a)<0 then ((a)+(xs.length:Int)).toNat else min _ _)=_;rw[if_neg (by lia)];simp
 have e2:HT.Jo xs.length _ LG=xs.length:=rfl;unfold dM;rw[e,e2]
 by_cases h:a<=xs.length
 .rw[UI h]
  exact S9 (by simp)
 .rw[Vc (by lia)]
  simp
  lia
def uA{α:Type}(xs:List α)(a:Nat):dM xs LG (Iv (a:Int))=xs.take a:=by
 have e:HT.Jo xs.length 0 LG=0:=rfl
 have e2:HT.Jo xs.length xs.length (Iv (a))=min a xs.length:=by
  show (if (a)<0 then ((a)+(xs.length:Int)).toNat else min _ _)=_;rw[if_neg (by lia)];simp
 unfold dM<;>simp_all
noncomputable def NW:List Str:=["told","made","say","want","wants","fails","put","got","row","peek","when","kind"].map Rb
def SP:List Str:=["selfish","ringone","ringtwo"].map Rb
def nP(l:List Str):Bool:=decide l.Nodup&&l.all λx=>isName (.str x)&&decide (x∉SP)
def D9(a:Nat):List Str:=NW.drop a++NW.take a
def lc(i:Nat):Str:=⟨#[97+i]⟩
def f1(a k:Nat):Str:=Uu (lc (a+k / 8)) ((1+k % 8:Nat):Int)
noncomputable def f2(a t k:Nat):Str:=Uu (lc a) ((a % 7:Nat):Int)++lc ((a+k) % 26)++Uu (lc a) (t:Int)
def znv:∀a,a<12->nP (D9 a)=KN/\(D9 a).length=12:=by decide +kernel
def znw:∀a,a<12->nP ((SH 12).map (f1 a))=KN:=by decide +kernel
def znx:∀a,a<12->∀t,t<8->t<8-a % 7->nP ((SH 12).map (f2 a t))=KN:=by decide +kernel
def zny:∀i,i<26->HJ.cps.toList[i]? = Iv (97+i):=by decide +kernel
def uB(h0:0<=i)(h1:i<26):L1 HJ.cps.toList i=Iv (97+i.toNat):=by
 unfold L1 L5;rw[zkf,if_pos h0,if_pos h1];exact zny _ (by lia)
def tq(m:Nat)(h:nP l=KN):(l.take m).Nodup/\∀x∈l.take m,isName (.str x)=KN/\x∉SP:=by
 have h':=h;unfold nP at h';rw[Ro] at h'
 exact⟨(of_decide_eq_true h'.1).sublist (Xz ..),λx hx=>by
  have:=Rq.mp h'.2 x (Uq hx)<;>simp_all⟩
def vY{β:Type}(f:Nat->β){m:Nat}(h:m<=12):(SH m).map f=((SH 12).map f).take m:=by rw[←Vf,List.take_range,UI h]
structure Dw(l:List Str)(m:Nat):Prop where
 len:l.length=m
 nd:l.Nodup
 nm:∀x∈l,isName (.str x)=KN
def ye(h:∀k:Nat,k<m->e (Iv (.d (.int (k:Int)))::ρ) T=Iv (.d (.str (f k)),T)):bK bz e ρ (cN 0 m) T=Iv (LW ((SH m).map f),T):=by
 have c:=en (e:=e) (ρ:=ρ) (T:=T) (g:=λd=>match d with
  |.int k=>.str (f k.toNat)
  | d=>d) (ds:=cN 0 m) λd hd=>by
   obtain⟨i,hi,rfl⟩:=Rl.mp hd<;>simp_all
 rw[c]
 unfold cN LW<;>simp_all
def znz:∀a,a<12->(Uu (lc a) ((a % 7:Nat):Int)).length<=100:=by decide +kernel
def zoa:∀a,a<12->∀k,k<12->(Uu (lc a) ((a % 7:Nat):Int)++lc ((a+k) % 26)).length<=100:=by decide +kernel
def zob:∀a:Nat,a<12->∀s:Nat,s<8->(Uu (lc a) (s:Int)).length<=100:=by decide +kernel
theorem lcl(i:Nat):(lc i).length=1:=rfl
def zoc{A T:Tp}{m:Nat}(t:bF A T)(h0:m<=12):∃l T',gT [.tp A.length,.d (.int (m:Int))] T=Iv (.list (LW l),T')/\bF A T'/\Dw l m/\∀x∈l,x∉SP:=by
 obtain⟨w,T1,e1,t1,w0,w1⟩:=bQ (m:=4) t (by decide);obtain⟨a,T2,e2,t2,a0,a1⟩:=bQ (m:=12) t1 (by decide);obtain⟨a,rfl⟩:∃j:Nat,a=(j:Int):=⟨a.toNat,by lia⟩
 have Hc:a<12:=by lia
 have hr:=iS (j:=(m:Int)) (by lia) (by lia)
 by_cases c0:w=0
 .obtain⟨q1,q2⟩:=znv a Hc
  obtain⟨n1,n2⟩:=tq m q1;refine⟨(D9 a).take m,T2,?_,t2,⟨by rw[Tv,q2];lia,n1,λx hx=>(n2 x hx).1⟩,λx hx=>(n2 x hx).2⟩
  have z:LW ((D9 a).take m)=((LW NW).drop a++(LW NW).take a).take m:=by
   simp[LW,D9,Vf,V0]
  have z2:(LW NW)=[.str "told",.str "made",.str "say",.str "want",.str "wants",.str "fails",.str "put",.str "got",.str "row",.str "peek",.str "when",.str "kind"]:=rfl;rw[z,z2]
  have lz:∀xs:List Ra,xs.length=12->(xs.drop a).length+(xs.take a).length<=sizeLine:=λxs h=>by
   have:=pG;simp[h]
   lia
  have lz':=lz [.str "told",.str "made",.str "say",.str "want",.str "wants",.str "fails",.str "put",.str "got",.str "row",.str "peek",.str "when",.str "kind"] rfl;simp only[gT,nA,EW,oR,oT,if_true];simp[e1,e2,c0,yB,uA,-Tc,-Tv,lz']
 .by_cases c1:w=1
  .obtain⟨n1,n2⟩:=tq m (znw a Hc)
   rw[←vY _ h0] at n1 n2;refine⟨(SH m).map (f1 a),T2,?_,t2,⟨by simp,n1,λx hx=>(n2 x hx).1⟩,λx hx=>(n2 x hx).2⟩
   have c:=ye (f:=f1 a) (e:=(af cB (af HN (aa 3) (af aP (aa 5) (af gj (aa 0) (fC (.int 8))))) (af aP (fC (.int 1)) (af cy (aa 0) (fC (.int 8)))))) (ρ:=[Iv (.tp A.length),Iv (.d (.int (m:Int))),Iv (.d (.str HJ)),Iv (.d (.int w)),Iv (.d (.int (a:Int))),LG,LG]) (T:=T2) (m:=m) λk hk=>by
    have x1:=uB (i:=(a:Int)+(k:Int) / 8) (by lia) (by lia)
    have x2:((a:Int)+(k:Int) / 8).toNat=a+k / 8:=by lia
    rw[x2] at x1
    have x3:(0:Int)<=1+(k:Int) % 8/\1+(k:Int) % 8<=2000:=by lia
    have x4:((1+k % 8:Nat):Int)=1+(k:Int) % 8:=by lia
    have x5:Str.length (⟨#[97+(a+k / 8)]⟩:Str)<=1000:=by show 1<=1000;decide
    simp[x1,x3,tD,x5,f1,x4,lc,eO]
   have e0:Rb "abcdefghijklmnopqrstuvwxyz"=HJ:=rfl;simp[gT,e0,e1,e2,c1,hr];rw[c1] at c;simp[c]
  .obtain⟨s,T3,e3,t3,s0,s1⟩:=bQ (m:=8-(a:Int) % 7) t2 (by lia)
   obtain⟨s,rfl⟩:∃j:Nat,s=(j:Int):=⟨s.toNat,by lia⟩;obtain⟨n1,n2⟩:=tq m (znx a Hc s (by lia) (by lia));rw[←vY _ h0] at n1 n2;refine⟨(SH m).map (f2 a s),T3,?_,t3,⟨by simp,n1,λx hx=>(n2 x hx).1⟩,λx hx=>(n2 x hx).2⟩;have bl:=pG;have la:=znz a Hc;have lb:=zob a Hc s (by lia);have xa:=uB (i:=(a:Int)) (by lia) (by lia);rw[VQ] at xa
   have z7:((a % 7:Nat):Int)=(a:Int) % 7:=by lia
   have xl:∀j,Str.length (⟨#[97+j]⟩:Str)<=1000:=λj=>by show 1<=1000;decide
   have c:=ye (f:=f2 a s) (e:=(af aP (af aP (af cB (af HN (aa 3) (aa 5)) (af cy (aa 5) (fC (.int 7)))) (af HN (aa 3) (af cy (af aP (aa 5) (aa 0)) (fC (.int 26))))) (aa 7))) (ρ:=[Iv (.tp A.length),Iv (.d (.int (m:Int))),Iv (.d (.str HJ)),Iv (.d (.int w)),Iv (.d (.int (a:Int))),LG,Iv (.d (.str (Uu (lc a) (s:Int))))]) (T:=T3) (m:=m) λk hk=>by
    have lk:=zoa a Hc k (by lia);have x1:=uB (i:=((a:Int)+(k:Int)) % 26) (by lia) (by lia)
    have x2:(((a:Int)+(k:Int)) % 26).toNat=(a+k) % 26:=by lia
    rw[x2] at x1;rw[z7] at lk la
    have y1:(Uu (lc a) ((a:Int) % 7)).length+(lc ((a+k) % 26)).length<=sizeLine:=by rw[lcl];lia
    have y2:(Uu (lc a) ((a:Int) % 7)++lc ((a+k) % 26)).length+(Uu (lc a) (s:Int)).length<=sizeLine:=by lia
    have x3:(0:Int)<=(a:Int) % 7/\(a:Int) % 7<=2000:=by lia
    simp only[lc,eO] at y1 y2;simp only[f2,z7,lc,eO];simp[xa,x1,x3,tD,xl,y1,y2]
   have e0:Rb "abcdefghijklmnopqrstuvwxyz"=HJ:=rfl
   have x3:(0:Int)<=(s:Int)/\(s:Int)<=2000:=by lia
   simp only[lc,eO] at c;simp[gT,e0,e1,e2,c0,c1,hr,e3,xa,tD,xl,x3];simp[c]
noncomputable def mb:Nat->Int
 |0=>1
 |n+1=>1+3*mb n
theorem um:∀n,1<=mb n
 |0=>by decide
 |n+1=>by
  have:=um n;show 1<=1+3*mb n
  lia
noncomputable def VS:List PyData:=[.int 0,.int 1,.int (-1),.int 2,.int 1000000000000000000,.int (-1000000000000000000),.str "",.str "a",.str "0",.str "-",.str (Uu "a" 20),.tuple []]
def zod:∀d∈VS,∀n,aC (n+1) d=KN/\aH (n+1) d=1:=by
 intro d hd n;have tu:aC (n+1) (.tuple [])=KN/\aH (n+1) (.tuple [])=1:=⟨rfl,rfl⟩;simp[VS] at hd
 rcases hd with rfl|rfl|rfl|rfl|rfl|rfl|rfl|rfl|rfl|rfl|rfl|rfl
 .exact dC (iO (by decide) (by simp))
 .exact dC (iO (by decide) (by simp))
 .exact dC (iO (by decide) (by decide))
 .exact dC (iO (by decide) (by decide))
 .exact dC (iO (by decide) (by decide))
 .exact dC (iO (by decide) (by decide))
 .exact dC (by decide +kernel)
 .exact dC (by decide +kernel)
 .exact dC (by decide +kernel)
 .exact dC (by decide +kernel)
 .exact dC (by decide +kernel)
 .exact tu
def Be(h:Dw l m)(h0:0<=i)(h1:i<(l.length:Int)):∃x,L1 (LW l) i=Iv (.str x)/\isName (.str x)=KN:=by
 obtain⟨d,e,hm⟩:=gI (xs:=LW l) h0 (by simpa[LW] using h1);obtain⟨x,hx,rfl⟩:=Rl.mp hm;exact⟨x,e,h.nm x hx⟩
def e9(l:List Str):(LW l).length=l.length:=by simp[LW]
theorem yN(hn:Dw l m)(hm:0<m):∀(n k:Nat) (A T:Tp),bF A T->n<k->∃d T',dh k [.tp A.length,.d (.list (LW l)),.d (.int (n:Int))] T=Iv (d,T')/\bF A T'/\aC (n+1) d=KN/\aH (n+1) d<=mb n
 |n,0,A,T,_,hk=>absurd hk (SD _)
 |n,k+1,A,T,t,hk=>by
  obtain⟨w,T1,e1,t1,w0,w1⟩:=bQ (m:=10) t (by decide);have mp:=um n
  have IH:(w<6\/((n:Int)=0/\7<w))->∃d T',dh (k+1) [.tp A.length,.d (.list (LW l)),.d (.int (n:Int))] T=Iv (d,T')/\bF A T'/\aC (n+1) d=KN/\aH (n+1) d<=mb n:=λhc=>by
   obtain⟨i,T2,e2,t2,i0,i1⟩:=bQ (m:=12) t1 (by decide);obtain⟨d,hd,Ih⟩:=gI (xs:=VS) i0 (by show i<12;exact i1);obtain⟨b1,b2⟩:=zod d Ih n;refine⟨d,T2,?_,t2,b1,by lia⟩;simp only[VS] at hd
   have l1:(Rb "a").length<=1000:=by decide +kernel
   by_cases h6:w<6
   .simp[dh,e1,h6,e2,hd,l1]
   .obtain⟨h7,h8⟩:=hc.resolve_left h6
    simp[dh,e1,h6,h7,h8,e2,hd,l1]
  by_cases c1:w<6
  .exact IH (.inl c1)
  by_cases c2:(n:Int)=0/\7<w
  .exact IH (.inr c2)
  clear IH
  have l1:(Rb "a").length<=1000:=by decide +kernel
  by_cases c3:w<8
  .have c4:¬7<w:=by lia
   obtain⟨i,T2,e2,t2,i0,i1⟩:=bQ (m:=(l.length:Int)) t1 (by rw[hn.len];lia);obtain⟨x,hx,HS⟩:=Be hn i0 i1;obtain⟨b1,b2⟩:=dC (n:=n+1) (vI HS);refine⟨.str x,T2,?_,t2,b1,by lia⟩
   by_cases h0:(n:Int)=0
   .simp[dh,e1,c1,h0,c4,c3,e9,e2,hx,l1]
   .have CG:¬n=0:=by lia
    simp[dh,e1,c1,h0,CG,c3,e9,e2,hx,l1]
  .have h0:¬(n:Int)=0:=λz=>c2 ⟨z,by lia⟩
   obtain⟨n,rfl⟩:∃j,n=j+1:=⟨n-1,by lia⟩;obtain⟨j,T2,e2,t2,j0,j1⟩:=bQ (m:=4) t1 (by decide);have hrj:=iS (j:=j) j0 (by lia)
   have hs:((n+1:Nat):Int)-1=(n:Int):=by lia
   obtain⟨ys,T3,e3,t3,l3,q3⟩:=zwk (P:=bF A) (Q:=λd=>aC (n+1) d=KN/\aH (n+1) d<=mb n) (ds:=cN 0 j.toNat)
    (e:=ak (dh k) (ab (aa 1) (ab (aa 2) (ab (af eW (aa 3) (fC (.int 1))) ah)))) (ρ:=[Iv (.tp A.length),Iv (.d (.list (LW l))),Iv (.d (.int ((n+1:Nat):Int))),Iv (.d (.int w)),Iv (.d (.list VS))]) t2 λd _ T t=>by
     obtain⟨d',T',e1,t1,b1,b2⟩:=yN hn hm n k A T t (by lia);refine⟨d',T',?_,t1,b1,b2⟩;rw[←hs] at e1;generalize ((n+1:Nat):Int)=N at e1 ⊢;simp[e1]
   have hl:(ys.length:Int)=j:=by rw[l3,zkg];lia
   refine⟨.tuple ys,T3,?_,t3,?_,?_⟩
   .simp only[VS] at e3
    generalize ((n+1:Nat):Int)=N at e3 h0 ⊢;simp[dh,e1,c1,h0,c3,e2,hrj,l1,e3]
   .show (decide (ys.length<=8)&&ys.all (aC (n+1)))=KN
    rw[decide_eq_true (by lia)];exact Rq.mpr λd hd=>(q3 d hd).1
   .show 1+(ys.map (aH (n+1))).sum<=1+3*mb n
    have s1:=Af (f:=aH (n+1)) (q:=mb n) λd hd=>(q3 d hd).2;have s2:(ys.length:Int)*mb n<=3*mb n:=Int.mul_le_mul_of_nonneg_right (by lia) (by have:=um n;lia)
    lia
def zoe(hn:n<=2)(hb:aC (n+1) d=KN)(hm:aH (n+1) d<=mb n):ay d=KN:=by
 obtain⟨u1,u2⟩:=iX _ d hb
 have fin:∀j,aC j d=KN->aH j d<=40->j=4->ay d=KN:=λj a b e=>by
  subst e
  show (aC 4 d&&decide _)=KN<;>simp_all
 match n,hn with
 |0,_=>
  obtain⟨v1,v2⟩:=iX 2 d u1;obtain⟨x1,x2⟩:=iX 3 d v1
  have FL:aH 1 d<=1:=hm<;>grind
 |1,_=>
  obtain⟨v1,v2⟩:=iX 3 d u1
  have FL:aH 2 d<=4:=hm<;>grind
 |2,_=>
  have FL:aH 3 d<=13:=hm<;>grind
def uV{l:List Str}{m:Nat}(hn:Dw l m)(hm:0<m){n:Nat}(h2:n<=2){A T:Tp}(t:bF A T):∃d T',dh 25 [.tp A.length,.d (.list (LW l)),.d (.int (n:Int))] T=Iv (d,T')/\bF A T'/\ay d=KN:=by
 obtain⟨d,T',e,t',b1,b2⟩:=yN hn hm n 25 A T t (by lia);exact⟨d,T',e,t',zoe h2 b1 b2⟩
def yJ{l:List Str}{m:Nat}(hn:Dw l m)(hm:0<m){n:Nat}{g:Int}{A T:Tp}(t:bF A T):∃e T',iK [.tp A.length,.d (.list (LW l)),.d (.int g)] T=Iv (e,T')/\bF A T'/\Ex g n e:=by
 have putL:∀T,bF A T->∃v T',dh 25 [.tp _,.d _,.d (.int 1)] T=Iv _/\bF A T'/\Ex g n _:=λT t=>by
  obtain⟨d,T',e,t',hv⟩:=uV hn hm (n:=1) (by simp) t;exact⟨d,T',e,t',.put hv⟩
 by_cases hg:0<g
 .obtain⟨r,T1,e1,t1,r0,r1⟩:=bQ (m:=3) t (by simp)
  by_cases hr:0<r
  .obtain⟨i,T2,e2,t2,i0,i1⟩:=bQ  t1 hg
   exact⟨_,T2,by simp[iK,hg,e1,hr,e2],t2,.got i0 i1⟩
  .obtain⟨v,T2,e2,t2,x⟩:=putL T1 t1
   exact⟨_,T2,by simp[iK,hg,e1,hr,e2],t2,x⟩
 .obtain⟨v,T2,e2,t2,x⟩:=putL T t
  exact⟨_,T2,by simp[iK,hg,e2],t2,x⟩
def Ex.up(h:Ex m n e)(l:n<=k):Ex m k e:=by
 induction h generalizing k with
 |put a=>exact .put a
 |got a b=>exact .got a b
 |row a _ ih=>
  obtain⟨k,rfl⟩:∃j,k=j+1:=⟨k-1,by lia⟩;exact .row a λe he=>ih e he (by lia)
 |many _ ih=>
  obtain⟨k,rfl⟩:∃j,k=j+1:=⟨k-1,by lia⟩;exact .many (ih (by lia))
 |pair a _ _ i1 i2=>
  obtain⟨k,rfl⟩:∃j,k=j+1:=⟨k-1,by lia⟩;exact .pair a (i1 (by lia)) (i2 (by lia))
theorem Rg.up(h:Rg p g n r)(l:n<=k):Rg p g k r:=by
 induction h generalizing k with
 |fail a=>exact .fail a
 |say a=>
  obtain⟨k,rfl⟩:∃j,k=j+1:=⟨k-1,by lia⟩;exact .say (a.up (by lia))
 |ask a b c _ ih=>
  obtain⟨k,rfl⟩:∃j,k=j+1:=⟨k-1,by lia⟩;exact .ask a b (c.up (by lia)) (ih (by lia))
 |whn a _ _ i1 i2=>
  obtain⟨k,rfl⟩:∃j,k=j+1:=⟨k-1,by lia⟩;exact .whn (a.up (by lia)) (i1 (by lia)) (i2 (by lia))
def zof{l:List Str}{m:Nat}(hn:Dw l m)(hm:0<m){g:Int}{A T:Tp}(t:bF A T):∃e T',iM [.tp A.length,.d (.list (LW l)),.d (.int g)] T=Iv (e,T')/\bF A T'/\Ex g 1 e:=by
 obtain⟨w,T1,e1,t1,w0,w1⟩:=bQ (m:=10) t (by simp);obtain⟨a,T2,e2,t2,xa⟩:=yJ hn hm (n:=0) (g:=g) t1
 by_cases c1:w<5
 .by_cases c2:w=4
  .refine⟨.tuple [.str "many",a],T2,?_,t2,.many xa⟩
   subst c2;simp[iM,eO,e1,e2,iC,iB]
  .refine⟨a,T2,?_,t2,xa.up (by decide)⟩
   have z:w / 4=0:=by lia
   simp[iM,eO,e1,e2,c1,z,iC,iB]
 .obtain⟨b,T3,e3,t3,xb⟩:=yJ hn hm (n:=0) (g:=g) t2
  by_cases c5:w=5
  .obtain⟨j,T4,e4,t4,j0,j1⟩:=bQ (m:=3) t3 (by decide)
   obtain⟨j,rfl⟩:∃i:Nat,j=(i:Int):=⟨j.toNat,by lia⟩;refine⟨.tuple [.str "row",.tuple ([a,b].take j)],T4,?_,t4,.row (by simp;lia) λe he=>?_⟩
   .subst c5
    simp[iM,eO,e1,e2,e3,e4,uA]
   .have:=Uq he
    simp at this
    rcases this with rfl|rfl
    .exact xa
    .exact xb
  .obtain⟨i,T4,e4,t4,i0,i1⟩:=bQ (m:=5) t3 (by decide)
   obtain⟨wd,vv,hat⟩:∃wd∈PW,L1 [RF "sum",.str "join",.str "same",.str "less",.str "part"] i=Iv (.str (Rb wd)):=by
    obtain⟨d,h,hm⟩:=gI (xs:=[RF "sum",.str "join",.str "same",.str "less",.str "part"]) i0 (by simpa using i1);simp at hm
    rcases hm with rfl|rfl|rfl|rfl|rfl
    .exact⟨"sum",by simp[PW],h⟩
    .exact⟨"join",by simp[PW],h⟩
    .exact⟨"same",by simp[PW],h⟩
    .exact⟨"less",by simp[PW],h⟩
    .exact⟨"part",by simp[PW],h⟩
   refine⟨.tuple [.str (Rb wd),a,b],T4,?_,t4,.pair vv xa xb⟩;simp[iM,eO,e1,e2,e3,c1,c5,e4,hat]
def name_val(hx:isName (.str x)=KN):ay (.str x)=KN:=by
 obtain⟨u1,u2⟩:=dC  (vI hx);show (aC 4 _&&decide _)=KN;rw[u1];rfl
theorem zog:isName (.str "kind")=KN :=rfl
theorem pH{l:List Str}{m:Nat}(hn:Dw l m)(hm:0<m)(HV:m<=12){p:Bool}:∀(n k g:Nat) (A T:Tp),bF A T->n<k->n+g<=12->∃r T',cK k [.tp A.length,.d (.list (LW l)),.d (.int (n:Int)),.d (.int (g:Int)),.d (.bool p)] T=Iv (r,T')/\bF A T'/\Rg p g (n+2) r
 |n,0,g,A,T,_,hk,_=>absurd hk (SD _)
 |n,k+1,g,A,T,t,hk,hg=>by
  obtain⟨w,T1,e1,t1,w0,w1⟩:=bQ (m:=8) t (by decide);obtain⟨ex,T2,e2,t2,xe⟩:=zof hn hm (g:=(g:Int)) t1
  by_cases c1:0<n/\w<4
  .obtain⟨c1,c2⟩:=c1
   obtain⟨n,rfl⟩:∃j,n=j+1:=⟨n-1,by lia⟩
   have EF:(0:Int)<((n+1:Nat):Int):=by lia
   have hs:((n+1:Nat):Int)-1=(n:Int):=by lia
   have hgs:((g+1:Nat):Int)=(g:Int)+1:=by lia
   obtain⟨wd,T3,t3,vv,e3⟩:∃wd T3,bF A T3/\(wd="want"\/(wd="peek"/\p=KN))/\((p=Lf/\wd="want"/\T3=T2)\/(p=KN/\∃j,aZ [.tp A.length,.d (.int 4)] T2=Iv (.int j,T3)/\((j=0/\wd="peek")\/(¬j=0/\wd="want")))):=by
    cases p with
    |false=>exact⟨"want",T2,t2,.inl rfl,.inl ⟨rfl,rfl,rfl⟩⟩
    |true=>
     obtain⟨j,T3,e3,t3,j0,j1⟩:=bQ (m:=4) t2 (by decide)
     by_cases hj:j=0
     .exact⟨"peek",T3,t3,.inr ⟨rfl,rfl⟩,.inr ⟨rfl,j,e3,.inl ⟨hj,rfl⟩⟩⟩
     .exact⟨"want",T3,t3,.inl rfl,.inr ⟨rfl,j,e3,.inr ⟨hj,rfl⟩⟩⟩
   obtain⟨j,T4,e4,t4,j0,j1⟩:=bQ (m:=5) t3 (by decide)
   obtain⟨L9,T5,x5,t5,e5⟩:∃L9 T5,Ex (g:Int) 1 L9/\bF A T5/\((0<j/\∃i x,aZ [.tp A.length,.d (.int (l.length:Int))] T4=Iv (.int i,T5)/\L1 (LW l) i=Iv (.str x)/\L9=.tuple [.str "put",.str x])\/(¬0<j/\L9=ex/\T5=T4)):=by
    by_cases hj:0<j
    .obtain⟨i,T5,e5,t5,i0,i1⟩:=bQ (m:=(l.length:Int)) t4 (by rw[hn.len];lia)
     obtain⟨x,hx,HS⟩:=Be hn i0 i1;exact⟨_,T5,.put (name_val HS),t5,.inl ⟨hj,i,x,e5,hx,rfl⟩⟩
    .exact⟨ex,T4,xe,t4,.inr ⟨hj,rfl,rfl⟩⟩
   obtain⟨r,T6,e6,t6,xr⟩:=pH hn hm HV (p:=p) n k (g+1) A T5 t5 (by lia) (by lia);refine⟨.tuple [.str (Rb wd),L9,r],T6,?_,t6,.ask vv (by lia) (x5.up (by lia)) xr⟩;rw[←hs,hgs] at e6;generalize ((n+1:Nat):Int)=N at e6 EF ⊢;generalize (g:Int)=G at *;have i0:intD [.bool Lf]=Iv (.int 0):=rfl;have i1:intD [.bool KN]=Iv (.int 1):=rfl
   rcases e5 with⟨hj,i,x,y1,y2,rfl⟩|⟨hj,rfl,rfl⟩
   .rcases e3 with⟨rfl,rfl,rfl⟩|⟨rfl,q,e3,⟨hq,rfl⟩|⟨hq,rfl⟩⟩
    .simp[cK,e1,e2,EF,c2,i0,i1,iC,iB,e4,hj,e9,y1,y2,e6]
    .simp[cK,e1,e2,EF,c2,i0,i1,iC,iB,e3,hq,e4,hj,e9,y1,y2,e6]
    .simp[cK,e1,e2,EF,c2,i0,i1,iC,iB,e3,hq,e4,hj,e9,y1,y2,e6]
   .rcases e3 with⟨rfl,rfl,rfl⟩|⟨rfl,q,e3,⟨hq,rfl⟩|⟨hq,rfl⟩⟩
    .simp[cK,e1,e2,EF,c2,i0,i1,iC,iB,e4,hj,e6]
    .simp[cK,e1,e2,EF,c2,i0,i1,iC,iB,e3,hq,e4,hj,e6]
    .simp[cK,e1,e2,EF,c2,i0,i1,iC,iB,e3,hq,e4,hj,e6]
  .by_cases c3:1<n/\w<6
   .obtain⟨c3,c4⟩:=c3
    obtain⟨n,rfl⟩:∃j,n=j+2:=⟨n-2,by lia⟩;have c5:¬w<4:=λz=>c1 ⟨by lia,z⟩
    have hs:((n+2:Nat):Int)-2=(n:Int):=by lia
    have c3':(1:Int)<((n+2:Nat):Int):=by lia
    have C8:(0:Int)<((n+2:Nat):Int):=by lia
    obtain⟨r,T3,e3,t3,xr⟩:=pH hn hm HV (p:=p) n k g A T2 t2 (by lia) (by lia);obtain⟨s,T4,e4,t4,xs⟩:=pH hn hm HV (p:=p) n k g A T3 t3 (by lia) (by lia);refine⟨.tuple [.str "when",ex,r,s],T4,?_,t4,.whn (n:=n+3) (xe.up (by lia)) (xr.up (by lia)) (xs.up (by lia))⟩;rw[←hs] at e3 e4;generalize ((n+2:Nat):Int)=N at e3 e4 c3' C8 ⊢;generalize (g:Int)=G at *;simp[cK,e1,e2,c3',C8,c5,c4,e3,e4]
   .have z1:¬((0:Int)<(n:Int)/\w<4):=λz=>c1 ⟨by lia,z.2⟩
    have z3:¬((1:Int)<(n:Int)/\w<6):=λz=>c3 ⟨by lia,z.2⟩
    have say:∀T4,bF A T4->(¬w=6/\T4=T2\/w=6/\∃j,aZ [.tp A.length,.d (.int 2)] T2=Iv (.int j,T4)/\¬j=0)->cK (k+1) [.tp A.length,.d (.list (LW l)),.d (.int (n:Int)),.d (.int (g:Int)),.d (.bool p)] T=Iv (.tuple [.str "say",ex],T4):=λT4 t4 h=>by
     generalize (n:Int)=N at z1 z3 ⊢;generalize (g:Int)=G at *
     rcases h with⟨h6,rfl⟩|⟨rfl,j,e3,hj⟩
     .by_cases a0:0<N
      .have b0:¬w<4:=λz=>z1 ⟨a0,z⟩
       by_cases a1:1<N
       .have b1:¬w<6:=λz=>z3 ⟨a1,z⟩
        simp[cK,e1,e2,a0,b0,a1,b1,h6]
       .simp[cK,e1,e2,a0,b0,a1,h6]
      .have a1:¬1<N:=by lia
       simp[cK,e1,e2,a0,a1,h6]
     .simp[cK,e1,e2,e3,hj]
    by_cases c6:w=6
    .obtain⟨j,T3,e3,t3,j0,j1⟩:=bQ (m:=2) t2 (by decide)
     by_cases hj:j=0
     .obtain⟨i,T4,e4,t4,i0,i1⟩:=bQ (m:=(l.length:Int)+2) t3 (by lia)
      obtain⟨x,hx,HS⟩:∃x,L1 (LW l++[.str "kind",.str "name"]) i=Iv (.str x)/\isName (.str x)=KN:=by
       obtain⟨d,h,Ih⟩:=gI (xs:=LW l++[.str "kind",.str "name"]) i0 (by simp[e9];lia)
       rcases Ry.mp Ih with z|z
       .obtain⟨x,hx,rfl⟩:=Rl.mp z
        exact⟨x,h,hn.nm x hx⟩
       .simp at z
        rcases z with rfl|rfl
        .exact⟨_,h,zog⟩
        .exact⟨_,h,zh⟩
      refine⟨.tuple [.str "fail",.str x],T4,?_,t4,.fail HS⟩
      have ll:l.length+2<=sizeLine:=by
       have:=pG;have:=hn.len
       lia
      subst c6 hj;generalize (n:Int)=N at z1 z3 ⊢;generalize (g:Int)=G at *;simp[cK,e1,e2,e3,e4,e9,hx,ll]
     .exact⟨_,T3,say T3 t3 (.inr ⟨c6,j,e3,hj⟩),t3,.say (xe.up (by lia)) ⟩
    .exact⟨_,T2,say T2 t2 (.inl ⟨c6,rfl⟩),t2,.say (xe.up (by lia))⟩
structure Cw(p:Bool)(n:Nat)(S:List Str)(D0 R0:Dc):Prop where
 dk:∀q∈D0,∃x v,q=(.str x,v)/\ay v=KN/\aj D0 x=Iv v/\x∈S
 rk:∀q∈R0,∃x r,q=(.str x,r)/\Rg p 0 n r/\aj R0 x=Iv r/\aj D0 x=LG/\x∈S
 rnd:(R0.map (·.1)).Nodup
 len:D0.length+R0.length=S.length
 dnd:(D0.map (·.1)).Nodup
def Cw.nil:Cw p n [] [] []:=⟨by simp,by simp,by simp,rfl,by simp⟩
section
variable {p:Bool}{n:Nat}{S:List Str}{D0 R0:Dc}
def Cw.noD(b:Cw p n S D0 R0)(h:x∉S):aj D0 x=LG:=by
 cases e:aj D0 x with
 |none=>rfl
 |some v=>
  obtain⟨y,_,e1,_,_,hy⟩:=b.dk _ (e8 e)<;>simp_all
def Cw.noR(b:Cw p n S D0 R0)(h:x∉S):aj R0 x=LG:=by
 cases e:aj R0 x with
 |none=>rfl
 |some v=>
  obtain⟨y,_,e1,_,_,_,hy⟩:=b.rk _ (e8 e)<;>grind
def pP(h:aj G x=LG):putN G x v=G++[(.str x,v)]:=by unfold putN<;>simp_all
def Cw.putD(b:Cw p n S D0 R0)(h:x∉S)(hv:ay v=KN):Cw p n (x::S) (putN D0 x v) R0:=by
 have nd:=b.noD h;refine⟨λq hq=>?_,λq hq=>?_,b.rnd,by rw[lX nd,Se];have:=b.len;lia,?_⟩
 .rw[pP nd] at hq
  rcases Ry.mp hq with z|z
  .obtain⟨y,u,rfl,h1,h2,h3⟩:=b.dk q z
   refine⟨y,u,rfl,h1,?_,Rc _ h3⟩
   rw[dE,if_neg (λe=>h (by simp_all))]<;>lia
  .rw[RD.mp z]
   exact⟨x,v,rfl,hv,by rw[dE,if_pos rfl],Rf⟩
 .obtain⟨y,r,rfl,h1,h2,h3,h4⟩:=b.rk q hq
  refine⟨y,r,rfl,h1,h2,?_,Rc _ h4⟩
  rw[dE,if_neg (λe=>h (by simp_all))]<;>lia
 .rw[pP nd,Su,SM]
  refine⟨b.dnd,by simp,λa ha c hc e=>?_⟩;obtain⟨q,hq,e⟩:=Rl.mp ha
  obtain⟨y,u,rfl,_,_,h4⟩:=b.dk q hq<;>simp_all
def Cw.putR(b:Cw p n S D0 R0)(h:x∉S)(hr:Rg p 0 n r):Cw p n (x::S) D0 (putN R0 x r):=by
 have nd:=b.noR h;refine⟨λq hq=>?_,λq hq=>?_,?_,by rw[lX nd,Se];have:=b.len;lia,b.dnd⟩
 .obtain⟨y,u,rfl,h1,h2,h3⟩:=b.dk q hq
  exact⟨y,u,rfl,h1,h2,Rc _ h3⟩
 .rw[pP nd] at hq
  rcases Ry.mp hq with z|z
  .obtain⟨y,u,rfl,h1,h2,h3,h4⟩:=b.rk q z
   refine⟨y,u,rfl,h1,?_,h3,Rc _ h4⟩
   rw[dE,if_neg (λe=>h (by simp_all))]<;>lia
  .rw[RD.mp z]
   exact⟨x,r,rfl,hr,by rw[dE,if_pos rfl],b.noD h,Rf⟩
 .rw[pP nd,Su,SM]
  refine⟨b.rnd,by simp,λa ha c hc e=>?_⟩;simp at hc;obtain⟨q,hq,e⟩:=Rl.mp ha
  obtain⟨y,u,rfl,_,_,_,h4⟩:=b.rk q hq<;>simp_all
def Cw.bk(b:Cw p n S D0 R0)(hn:n<=20)(hl:S.length<=900):Bk p n D0 R0:=⟨λq hq=>by
  obtain⟨x,v,e,h1,_⟩:=b.dk q hq
  exact⟨x,v,e,h1⟩,λq hq=>by
  obtain⟨x,r,e,h1,h2,h3,_⟩:=b.rk q hq
  exact⟨x,r,e,h1,h2,h3⟩,b.rnd,by rw[b.len];exact hl,hn⟩
end
def wL:FS:=(EI (ao (af CP (ak aZ (ab (aa 9) (ab (fC (.int 4)) ah))) (fC (.int 0)))) (c8 6 (af HN (aa 5) (aa 8)) (ak (dh 25) (ab (aa 9) (ab (aa 5) (ab (fC (.int 2)) ah))))) (c8 7 (af HN (aa 5) (aa 8)) (ak (cK 25) (ab (aa 9) (ab (aa 5) (ab (af aP (fC (.int 1)) (ak aZ (ab (aa 9) (ab (fC (.int 4)) ah)))) (ab (fC (.int 0)) (ab (aa 2) ah))))))))
def yd:FS:=(jg 9 (ab (ak gU (ab (af aP (ak dN (ab (aa 0) (ab (af aP (af aP (aa 1) (fC (.int 1))) (aa 8)) ah))) (af cB (fC (.int 977)) (aa 8))) (ab (fC (.int 60)) ah))) (ab (fC (.int 0)) ah)) wL)
def yu:FS:=(ai (aE 4 (af aP (fC (.int 3)) (ak aZ (ab (aa 3) (ab (fC (.int 8)) ah))))) (ai (aE 5 (ak gT (ab (aa 3) (ab (af aP (aa 4) (fC (.int 2))) ah)))) (ai (eG 6) (ai (eG 7) (ai (cb 8 (d0 (aa 4)) yd) (mQ 6 7))))))
theorem zoh:kM N s ws T=if fB ws=KN then uu (s (ws.map Iv++RQ (N-ws.length) LG) T) else LG:=rfl
theorem zoi:lI=kM 10 (jg 3 (ab (ak gU (ab (ak dN (ab (aa 0) (ab (aa 1) ah))) (ab (fC (.int 24)) ah))) (ab (fC (.int 0)) ah)) yu):=rfl
theorem sM:jg i g fr ρ T=G5 (g ρ T) λws T1=>openK i fr ρ (eI ws) T1:=rfl
theorem sN:openK i fr ρ (Iv [a,b]) T=jZ T.length (fr (ρ.set i (Iv (.tp T.length))) (T++[[a,b]])):=rfl
def rK{n:Nat}{fl:Fl}{ρ:XE}{T:Tp}{row:List Ra}(h:T.length=n):jZ n (Iv ((fl,ρ),T++[row]))=Iv ((fl,iA n ρ),T):=by
 have e:m7 (T++[row])=Iv (T,row):=by
  unfold m7<;>simp_all
 simp[jZ,e,h]
def Ky(ns:List Int)(p:Bool)(m:Int)(l:List Str)(D0 R0:Dc)(o8 o9:Option D.W):XE:=[Iv (.d (cu ns)),Iv (.d (.int 1)),Iv (.d (.bool p)),Iv (.tp 0),Iv (.d (.int m)),Iv (.d (.list (LW l))),Iv (.loc (.dict D0)),Iv (.loc (.dict R0)),o8,o9]
theorem zoj:iA 1 (Ky ns p m l D0 R0 (Iv (.d (.int k))) (Iv (.tp 1)))=Ky ns p m l D0 R0 (Iv (.d (.int k))) LG:=rfl
def zok{ns:List Int}{p:Bool}{m:Int}{l:List Str}{j:Nat}{D0 R0:Dc}{k:Nat}{x:Str}{A T:Tp}(hA:A.length=1)(t:bF A T)(hn:Dw l j)(hj:0<j)(GY:j<=12)(hx:L1 (LW l) (k:Int)=Iv (.str x))(hD:D0.length<=1000)(hR:R0.length<=1000) :
  ∃D1 R1 T',wL (Ky ns p m l D0 R0 (Iv (.d (.int (k:Int)))) (Iv (.tp 1))) T=Iv ((.nx,Ky ns p m l D1 R1 (Iv (.d (.int (k:Int)))) (Iv (.tp 1))),T')/\bF A T'/\((∃v,ay v=KN/\D1=putN D0 x v/\R1=R0)\/(∃r,Rg p 0 6 r/\D1=D0/\R1=putN R0 x r)):=by
 obtain⟨w,T1,e1,t1,w0,w1⟩:=bQ (m:=4) t (by decide);rw[hA] at e1
 by_cases hw:w=0
 .obtain⟨v,T2,e2,t2,hv⟩:=uV hn hj (n:=2) (by decide) t1
  rw[hA] at e2;refine⟨putN D0 x v,R0,T2,?_,t2,.inl ⟨v,hv,rfl,rfl⟩⟩;have KL:dh 25 [.tp 1,.d _,.d (.int 2)] T1=Iv _:=e2;simp[wL,Ky,e1,hw,KL,hx,hD]
 .obtain⟨i,T2,e2,t2,i0,i1⟩:=bQ (m:=4) t1 (by decide)
  obtain⟨i,rfl⟩:∃q:Nat,i=(q):=⟨i.toNat,by lia⟩;obtain⟨r,T3,e3,t3,hr⟩:=pH hn hj GY  (1+i) 25 0 A T2 t2 (by lia) (by lia);rw[hA] at e2 e3;refine⟨D0,putN R0 x r,T3,?_,t3,.inr ⟨r,hr.up (by lia),rfl,rfl⟩⟩
  have e3':cK 25 [.tp 1,.d (.list (LW l)),.d (.int (1+(i))),.d (.int 0),.d (.bool p)] T2=Iv (r,T3):=by simp_all
  simp[wL,Ky,e1,hw,e2,e3',hx,hR]
def zol{ns:List Int}{p:Bool}{m:Int}{l:List Str}{j:Nat}{D0 R0:Dc}{k:Nat}{x:Str}{T:Tp}(hA:T.length=1)(hn:Dw l j)(hj:0<j)(GY:j<=12)(hx:L1 (LW l) (k:Int)=Iv (.str x))(hD:D0.length<=1000)(hR:R0.length<=1000) :
  ∃D1 R1,yd (Ky ns p m l D0 R0 (Iv (.d (.int (k:Int)))) LG) T=Iv ((.nx,Ky ns p m l D1 R1 (Iv (.d (.int (k:Int)))) LG),T)/\((∃v,ay v=KN/\D1=putN D0 x v/\R1=R0)\/(∃r,Rg p 0 6 r/\D1=D0/\R1=putN R0 x r)):=by
 obtain⟨c,ec⟩:=qu (ns:=ns) (k:=1+1+(k)) (T:=T) (by lia);obtain⟨ds,ed,ld,hd⟩:=tU (c:=c+977*(k)) (N:=60) (T:=T) (by simp) (by simp);have ld':ds.length=60:=ld;obtain⟨D1,R1,T',eF,tF,res⟩:=zok    hA (tX   (by lia) (by lia) hd) hn hj GY hx hD hR;obtain⟨Ff,i',rfl,_⟩:=tF;refine⟨D1,R1,?_,res⟩;have oe:=rK (fl:=.nx) (ρ:=Ky ns p m l D1 R1 (Iv (.d (.int (k)))) (Iv (.tp 1)))  (row:=[.list Ff,.int i']) hA;rw[←eF,zoj] at oe;rw[←oe];unfold yd;rw[sM];have z:(1:Int)+1=2:=rfl;rw[z] at ec;simp[Ky,ec,ed,sN,hA]
theorem AX{ns:List Int}{p:Bool}{m:Int}{l:List Str}{j:Nat}{T:Tp}(hA:T.length=1)(hn:Dw l j)(hj:0<j)(GY:j<=12):∀(c k:Nat) (S:List Str) (D0 R0:Dc) (o8:Option D.W),k+c<=j->Cw p 6 S D0 R0->S.length=k->(∀y∈S,y∈l.take k) ->
  ∃D1 R1 S1 o,forL 8 yd ((W3 k c).map λ(i:Nat)=>TB (i:Int)) (Ky ns p m l D0 R0 o8 LG) T=Iv ((.nx,Ky ns p m l D1 R1 o LG),T)/\Cw p 6 S1 D1 R1/\S1.length=k+c/\∀y∈S1,y∈l.take (k+c)
 |0,k,S,D0,R0,o8,_,b,hS,hb=>⟨D0,R0,S,o8,rfl,b,hS,hb⟩
 |c+1,k,S,D0,R0,o8,hk,b,hS,Iq=>by
  have KI:k<l.length:=by rw[hn.len];lia
  have hx:L1 (LW l) (k:Int)=Iv (.str l[k]):=by
   unfold L1 L5;rw[e9,if_pos (by lia),if_pos (by lia)];simp[LW,KI]
  have hnx:l[k]∉S:=λz=>by
   have z2:=Iq _ z;obtain⟨i,hi,e⟩:=VJ.mp z2;exact(List.pairwise_iff_getElem.mp hn.nd) i k (by lia) KI (by lia) e
  have JW:=b.len;obtain⟨D1,R1,e1,res⟩:=zol (ns:=ns) (p:=p) (m:=m) hA hn hj GY hx (show D0.length<=1000 by lia) (show R0.length<=1000 by lia)
  have b1:Cw p 6 (l[k]::S) D1 R1:=by
   rcases res with⟨v,hv,rfl,rfl⟩|⟨r,hr,rfl,rfl⟩
   .exact b.putD hnx hv
   .exact b.putR hnx hr
  obtain⟨D2,R2,S2,o,e2,b2,h2,h3⟩:=AX (ns:=ns) (p:=p) (m:=m) hA hn hj GY c (k+1) (l[k]::S) D1 R1 (Iv (.d (.int (k:Int)))) (by lia) b1 (by simp;lia) λy hy=>by
   rcases Ru.mp hy with rfl|z
   .exact VJ.mpr ⟨k,by lia,rfl⟩
   .exact List.take_subset_take_left l (by lia) (Iq y z)
  refine⟨D2,R2,S2,o,?_,b2,by lia,λy hy=>by have:=h3 y hy;rwa [show k+1+c=k+(c+1) by lia] at this⟩;have st:=e1;rw[Wk,R7,ff st];exact e2
def vG(n:Nat):cN 0 n=(W3 0 n).map λ(i:Nat)=>TB (i:Int):=by
 unfold cN
 rw[List.range_eq_range']<;>simp_all
def zom(ns:List Int)(p:Bool):∃D0 R0 S,lI [.d (cu ns),.d (.int 1),.d (.bool p)] []=Iv (J4 D0 R0,[])/\Cw p 6 S D0 R0/\S.length<=10/\∀y∈S,isName (.str y)=KN/\y∉SP:=by
 obtain⟨c,ec⟩:=qu (ns:=ns) (k:=1) (T:=[]) (by lia);obtain⟨ds,ed,ld,hd⟩:=tU (c:=c) (N:=24) (T:=[]) (by simp) (by decide);have ld':ds.length=24:=ld;obtain⟨w,T1,e1,t1,w0,w1⟩:=bQ (m:=8) (tX (A:=[]) (ds:=ds) (by lia) (by lia) hd) (by decide);obtain⟨w,rfl⟩:∃q:Nat,w=(q:Int):=⟨w.toNat,by lia⟩;obtain⟨l,T2,e2,t2,hn,hz⟩:=zoc (m:=3+w+2) t1 (by lia)
 have hA:T2.length=1:=by
  obtain⟨_,_,rfl,_⟩:=t2;rfl
 obtain⟨D1,R1,S1,o,e3,b,hS,hY⟩:=AX (ns:=ns) (p:=p) (m:=3+(w:Int)) hA hn (by lia) (by lia) (3+w) 0 [] [] [] LG (by lia) Cw.nil rfl (by simp);refine⟨D1,R1,S1,?_,b,by lia,λy hy=>⟨hn.nm y (Uq (hY y hy)),hz y (Uq (hY y hy))⟩⟩;rw[←vG] at e3
 have zt:(3+(w:Int)).toNat=3+w:=by lia
 have hr:=iS (j:=3+(w:Int)) (by lia) (by lia)
 have z2:((3+w+2:Nat):Int)=3+(w:Int)+2:=by lia
 rw[z2] at e2;have Gg:aZ [.tp 0,.d (.int 8)] [[.list ds,.int 0]]=Iv (.int (w:Int),T1):=e1;have KL:gT [.tp 0,.d (.int (3+(w:Int)+2))] T1=Iv (.list (LW l),T2):=e2
 have es:yu [Iv (.d (cu ns)),Iv (.d (.int 1)),Iv (.d (.bool p)),Iv (.tp 0),LG,LG,LG,LG,LG,LG] [[.list ds,.int 0]]=Iv ((.ro (J4 D1 R1),Ky ns p (3+(w:Int)) l D1 R1 o LG),T2):=by
  simp[Ky] at e3;simp[yu,Gg,KL,hr,zt,e3,Ky,J4,mQ,ue]
 obtain⟨Ff,i',rfl,_⟩:=t2;have oe:=rK (n:=0) (fl:=.ro (J4 D1 R1)) (ρ:=Ky ns p (3+(w:Int)) l D1 R1 o LG) (T:=[]) (row:=[.list Ff,.int i']) rfl;rw[←es] at oe;rw[zoi];simp[zoh,sM,ec,ed,sN];exact congrArg uu oe
def CN:FS:=(c8 1 (aa 2) (ak jH (ab (aa 2) (ab (af Dz (aa 0) (aa 2)) ah))))
theorem zon:oj=aI 3 (ai (eG 1) (ai (cb 2 (bf (aa 0)) CN) (aq (aa 1)))):=rfl
def qd(T:Tp)(h:ay v=KN):ei 25 [.d v] T=Iv (.str (mk (cst 4 v)),T):=zX 4 25 v T (ck h).1 (ck h).2 (by simp)
def zoo(T:Tp)(h:Dv p g n S):jT [.d S] T=Iv (dJ S,T):=by
 rcases dw h with⟨v,rfl,hv⟩|⟨x,rfl,_⟩|⟨b,x,r,rfl,_⟩
 .rw[j5]
  simp[jT,J1,qd T hv,L0]
 .kernel_rfl
 .rw[i4]
  cases b <;> kernel_rfl
def A4(T:Tp)(h:Gv p n s):jH [.d (.str x),.d (cm s)] T=Iv (ln x s,T):=by
 have c:bK _ (ax .tuple (ab (af HN (aa 0) (fC (.int 0))) (ab (ak (ei 25) (ab (af HN (aa 0) (fC (.int 1))) ah)) ah))) [Iv (.d (.str x)),Iv (.d (cm s)),LG] s.rd T=Iv (s.rd.map IE,T):=en λd hd=>by
  obtain⟨y,v,rfl,hv⟩:=h.rv d hd;simp[qd T hv,IE,L0]
 have e:=zoo T h.st;have e1:HN (cm s) (.int 1)=Iv _:=rfl;have e2:HN (cm s) (.int 2)=Iv s.S:=rfl;simp[jH,e1,e2,c,e,ln]
def K5(R0:Dc)(st:Str->LY):Dc:=R0.map λq=>(q.1,ln (nm q.1) (st (nm q.1)))
def zop{st:Str->LY}:aj (K5 R0 st) x=(aj R0 x).map λ_=>ln x (st x):=by
 induction R0 with
 |nil=>rfl
 |cons q r ih=>
  obtain⟨k,d⟩:=q
  cases k with
  |str k=>
   by_cases hk:k=x
   .subst hk
    simp[K5,aj,nm]
   .have:=ih
    simp[K5] at this;simp[K5,aj,hk,this]
  |_=>exact ih
section
variable {p:Bool}{n:Nat}{D0 R0:Dc}
theorem Ax(B:Bk p n D0 R0){st:Str->LY}(ok:∀x r,aj R0 x=Iv r->Gv p n (st x)){T:Tp}:∀(rest P:Dc) (on:Option D.W),R0=P++rest->∃Dt,forL 2 CN (rest.map (·.1)) [Iv (.d (.dict (JX R0 st))),Iv (.loc (.dict (K5 P st))),on] T=Iv ((.nx,[Iv (.d (.dict (JX R0 st))),Iv (.loc (.dict (K5 R0 st))),Dt]),T)
 |[],P,on,e=>⟨on,by rw[e];simp[forL]⟩
 |q::rest,P,on,e=>by
  have hq:q∈R0:=by rw[e];simp
  obtain⟨x,r,rfl,hr,hk,_⟩:=B.rk q hq
  have nk:aj (K5 P st) x=LG:=sI λz=>by
   have nd:=B.rnd;rw[e,Su,SM] at nd;obtain⟨q,EB,E9⟩:=Rl.mp z;obtain⟨q',Mz,rfl⟩:=Rl.mp EB;exact nd.2.2 q'.1 (Rl.mpr ⟨q',Mz,rfl⟩) (.str x) (by simp) E9
  have pn:putN (K5 P st) x (ln x (st x))=K5 (P++[(RF x,r)]) st:=by
   unfold putN;rw[nk,if_neg (by simp)];simp[K5,nm]
  have pl:(K5 P st).length<=1000:=by
   have:=B.len
   simp_all
   simp[K5];omega
  have c1:aj (JX R0 st) x=Iv (cm (st x)):=by rw[mT,hk];rfl
  have ll:=A4 (x:=x) T (ok x r hk)
  have CC:CN (Y0 [Iv (.d (.dict (JX R0 st))),Iv (.loc (.dict (K5 P st))),on] 2 (Iv (.d (.str x)))) T=Iv ((.nx,[Iv (.d (.dict (JX R0 st))),Iv (.loc (.dict (K5 (P++[(RF x,r)]) st))),Iv (.d (.str x))]),T):=by
   rw[←pn];simp[CN,c1,ll,pl]
  rw[R7,ff CC];exact Ax B ok rest (P++[(.str x,r)]) _ (by rw[e];simp)
def zoq(B:Bk p n D0 R0){st:Str->LY}(ok:∀x r,aj R0 x=Iv r->Gv p n (st x))(T:Tp):oj [.d (.dict (JX R0 st))] T=Iv (.dict (K5 R0 st),T):=by
 obtain⟨on,e⟩:=Ax B ok (T:=T) R0 [] LG rfl
 have ek:(JX R0 st).map (·.1)=R0.map (·.1):=by simp[JX]
 rw[zon]
 have e0:K5 ([]) st=[]:=rfl<;>simp_all
end
def LR(R0 G:Dc)(xs:List Str):List PyData:=xs.map (L3 R0 G)
def jY:(putN G x v).length<=G.length+1:=by
 cases h:aj G x with
 |none=>rw[lX h]<;>simp_all
 |some u=>
  unfold putN;rw[h,if_pos (by rfl),vZ]
  lia
def GJ:FT:=(bv (ao (af Mb (af HN (aa 2) (LP bS (fC (.int 1)))) (aa 0))) (ao (af cS (af HN (aa 2) (LP bS (fC (.int 1)))) (Ig (aa 2) bE (fP (LP bS (fC (.int 1))))))))
def Im:FS:=(aq (ax .tuple (ab (cD (ao (af Mb (af HN (aa 2) (LP bS (fC (.int 1)))) (aa 0))) (fC (.str "ring")) (fC (.str "lacks"))) (ab (Et b6 (ab (aa 2) ah)) ah))))
theorem uJ:lx=aI 4 (ai (cj 2 (ab (aa 1) ah)) (ai (bc GJ gR 100000) Im)):=rfl
def Jn:FT:=(ao (af cS (af HN (aa 3) (LP bS (fC (.int 1)))) (Ig (aa 3) bE (fP (LP bS (fC (.int 1)))))))
def A9:FS:=(aq (ax .tuple (ab (fC (.str "ring")) (ab (Et b6 (ab (aa 3) ah)) ah))))
theorem qF:lA=aI 5 (ai (EI (ao (af Mb (aa 2) (aa 1))) (aq (ax .tuple (ab (fC (.str "made")) (ab (af Dz (aa 1) (aa 2)) ah)))) aA) (ai (cj 3 (ab (aa 2) ah)) (ai (bc Jn iN 100000) A9))):=rfl
section
variable {p:Bool}{n:Nat}{D0 R0:Dc}
theorem Ay{G:Dc}{P:Ra}{T:Tp}:∀(xs:List Str) (L:Dc) (o:Option D.W),L.length+xs.length<=900->∃L' o',forL 2 n8 (LR R0 G xs) [Iv (.d P),Iv (.loc (.dict L)),o] T=Iv ((.nx,[Iv (.d P),Iv (.loc (.dict L')),o']),T)/\∀y,aj L' y=if y∈xs then Iv (L3 R0 G y) else aj L y
 |[],L,o,_=>⟨L,o,rfl,λy=>rfl⟩
 |x::xs,L,o,h=>by
  have hl:L.length<=1000:=by lia
  have pl:=jY (G:=L) (x:=x) (v:=L3 R0 G x);obtain⟨L',o',e,hk⟩:=Ay    xs (putN L x (L3 R0 G x)) _ (by grind);refine⟨L',o',?_,λy=>?_⟩
  .have i0:HN (L3 R0 G x) (.int 0)=Iv _:=rfl
   have st:n8 (Y0 [Iv (.d P),Iv (.loc (.dict L)),o] 2 (Iv (.d (L3 R0 G x)))) T=Iv ((.nx,[Iv (.d P),Iv (.loc (.dict (putN L x (L3 R0 G x)))),Iv (.d (L3 R0 G x))]),T):=by
    simp[n8,i0,hl]
   exact(ff st).trans e
  .rw[hk,dE]<;>grind
def zor(hl:xs.length<=900)(T:Tp):∃L,oh [.d (.list (LR R0 G xs))] T=Iv (.dict L,T)/\∀y,aj L y=if y∈xs then Iv (L3 R0 G y) else LG:=by
 obtain⟨L,o,e,h⟩:=Ay   (P:=.list (LR R0 G xs)) (T:=T) xs [] LG (by simp_all);refine⟨L,?_,h⟩;rw[oh];simp[e]
structure Cl(R0 G:Dc)(xs:List Str):Prop where
 len:xs.length<=60
 mem:∀x∈xs,∃r,aj R0 x=Iv r
 cls:∀x∈xs,∀b y r' r2,(En R0 G x).S=Du b y r'->aj R0 y=Iv r2->y∈xs
def Gz(L:Dc)(Ge:Ra)(ps:List Str)(o:Option D.W):XE:=[Iv (.d (.dict L)),Iv (.d Ge),Iv (.loc (.list (LW ps))),o]
def EJ(D0 R0 G:Dc)(Ge:Ra)(ps:List Str)(o:Option D.W):XE:=[Iv (.d (J4 D0 R0)),Iv (.d (.dict G)),Iv (.d Ge),Iv (.loc (.list (LW ps))),o]
def jt(m:Nat)(ρ:XE)(T:Tp):Option (Ra×Tp):=cI (G5 (bc GJ gR m ρ T) (fF Im))
def jv(m:Nat)(ρ:XE)(T:Tp):Option (Ra×Tp):=cI (G5 (bc Jn iN m ρ T) (fF A9))
theorem sr(B:Bk p n D0 R0)(hs:F0 D0 R0 G)(hc:∀x,ClsAt R0 G x)(cl:Cl R0 G xs)(hL:∀y,aj L y=if y∈xs then Iv (L3 R0 G y) else LG)(Ge Kr:Ra)(T:Tp) :
  ∀(f:Nat) (ps:List Str) (x:Str),GK R0 ps=f->aj G x=LG->(∀r,aj R0 x=Iv r->x∈xs)->(∀y∈ps,y∈xs)->ps.Nodup->ps.length+GK R0 ps<=900->∃V,F6 V/\(∀m o,f+1<m->jt m (Gz L Ge (ps++[x]) o) T=Iv (V,T))/\(∀m o,f+1<m->jv m (EJ D0 R0 G Kr (ps++[x]) o) T=Iv (V,T))
 |f,ps,x,hf,hx,M0,hps,hnd,JW=>by
  have la:=zr ps x;have G4:=yA ps x;have ni:=rB ps x
  have l1:(ps++[x]).length<=1000:=by simp;lia
  have tu:b6 [.list (LW (ps++[x]))]=Iv (.tuple (LW (ps++[x]))):=rfl
  by_cases Gp:x∈ps
  .-- a ring
   have kl:aj L x=Iv (L3 R0 G x):=by rw[hL,if_pos (hps x Gp)]
   refine⟨iz "ring" (ps++[x]),.two l1,λm o hm=>?_,λm o hm=>?_⟩
   .obtain⟨m,rfl⟩:∃j,m=j+1:=⟨m-1,by lia⟩
    unfold jt;rw[jW (by simp[GJ,Gz,la,kl,G4,ni,Gp])];simp[Im,Gz,la,kl,tu,iz]
   .obtain⟨m,rfl⟩:∃j,m=j+1:=⟨m-1,by lia⟩
    unfold jv;rw[jW (by simp[Jn,EJ,la,G4,ni,Gp])];kernel_rfl
  .cases hr:aj R0 x with
   |none=>
    have kl:aj L x=LG:=by
     rw[hL,if_neg];intro z;obtain⟨r,q⟩:=cl.mem x z;rw[hr] at q;cases q
    refine⟨iz "lacks" (ps++[x]),.two l1,λm o hm=>?_,λm o hm=>?_⟩
    .obtain⟨m,rfl⟩:∃j,m=j+1:=⟨m-1,by lia⟩
     unfold jt;rw[jW (by simp[GJ,Gz,la,kl])];simp[Im,Gz,la,kl,tu,iz]
    .obtain⟨m,rfl⟩:∃j,m=j+1:=⟨m-1,by lia⟩
     unfold jv;rw[mH (x:=iz "lacks" (ps++[x])) (ρ':=EJ D0 R0 G Kr (ps++[x]) o) (by simp[Jn,EJ,la,G4,ni,Gp]) (by simp[iN,EJ,J4,la,hr,tu,iz])];simp
   |some r=>
    have ix:=M0 r hr
    have kl:aj L x=Iv (L3 R0 G x):=by rw[hL,if_pos ix]
    have ok:=(kf (hs.gv B) B.n20 (cZ (B.rg hr).1 B.n20));have sx:=eB (G:=G) hr;have lr:=uF T (hs.gv B) B.n20 (B.rg hr).1
    have c1:∀o,GJ (Gz L Ge (ps++[x]) o) T=Iv (KN,T):=λo=>by simp[GJ,Gz,la,kl,G4,ni,Gp]
    have c2:∀o,Jn (EJ D0 R0 G Kr (ps++[x]) o) T=Iv (KN,T):=λo=>by simp[Jn,EJ,la,G4,ni,Gp]
    have Ks:HN (L3 R0 G x) (.int 2)=Iv (dJ (run G (s0 r)).S):=by rw[←sx];rfl
    rcases dw ok.1.st with⟨v,e,_⟩|⟨w,e,_⟩|⟨b,y,r',e,_⟩
    .exact absurd (hc x r v hr e) (by rw[hx];simp)
    .rw[e] at Ks lr
     refine⟨kT (ps++[x]) w,.fail l1,λm o hm=>?_,λm o hm=>?_⟩
     .obtain⟨m,rfl⟩:∃j,m=j+1:=⟨m-1,by lia⟩
      unfold jt;rw[mH (x:=kT (ps++[x]) w) (ρ':=Gz L Ge (ps++[x]) (Iv (.d (J2 w)))) (c1 o) (by simp at Ks;simp[gR,Gz,la,kl,Ks];kernel_rfl)];simp
     .obtain⟨m,rfl⟩:∃j,m=j+1:=⟨m-1,by lia⟩
      unfold jv;rw[mH (x:=kT (ps++[x]) w) (ρ':=EJ D0 R0 G Kr (ps++[x]) (Iv (.d (J2 w)))) (c2 o) (by simp at lr;simp[iN,EJ,J4,la,hr,lr];simp[J2,tu,kT])];simp
    .rw[e] at Ks lr
     have ny:aj G y=LG:=by
      rcases ok.2 with z|⟨b2,y2,r2,z,hk⟩
      .rw[e] at z;simp at z
      .have:y=y2:=by
        rw[e] at z
        cases b <;> cases b2 <;> simp[Du] at z <;> simp[z]
       rw[this];exact hk
     have HV:=zno hr Gp;have Dd:(ps++[x]).Nodup:=SM.mpr ⟨hnd,by simp,λa ha b hb z=>Gp (by rw[←RD.mp hb,←z];exact ha)⟩
     obtain⟨V,hV,w1,w2⟩:=sr B hs hc cl hL Ge Kr T (GK R0 (ps++[x])) (ps++[x]) y rfl ny (λr2 h2=>cl.cls x ix b y r' r2 (by rw[sx];exact e) h2) (λz hz=>by
      rcases Ry.mp hz with q|q
      .exact hps z q
      .rw[RD.mp q];exact ix) Dd (by simp;lia)
     have l2:(LW (ps++[x])).length<sizeLine:=R5 (show (LW (ps++[x])).length<=1000 by simp[LW];simp at l1;lia) (by decide)
     have ap:LW (ps++[x])++[RF y]=LW (ps++[x]++[y]):=by simp[LW]
     refine⟨V,hV,λm o hm=>?_,λm o hm=>?_⟩
     .obtain⟨m,rfl⟩:∃j,m=j+1:=⟨m-1,by lia⟩
      have hb:gR (Gz L Ge (ps++[x]) o) T=Iv ((.nx,Gz L Ge (ps++[x]++[y]) (Iv (.d (bt "wants" (.str y))))),T):=by
       simp at Ks;simp only[Gz];rw[←ap];simp[gR,la,kl,Ks];simp[bt,l2]
      have:=w1 m (Iv (.d (bt "wants" (.str y)))) (by lia);unfold jt at this ⊢;rw[i6 (c1 o) hb];exact this
     .obtain⟨m,rfl⟩:∃j,m=j+1:=⟨m-1,by lia⟩
      have hb:iN (EJ D0 R0 G Kr (ps++[x]) o) T=Iv ((.nx,EJ D0 R0 G Kr (ps++[x]++[y]) (Iv (.d (bt "wants" (.str y))))),T):=by
       simp at lr;simp only[EJ];rw[←ap];simp[iN,J4,la,hr,lr];simp[bt,l2]
      have:=w2 m (Iv (.d (bt "wants" (.str y)))) (by lia);unfold jv at this ⊢;rw[i6 (c2 o) hb];exact this
termination_by f=>f
decreasing_by lia
def zos(B:Bk p n D0 R0)(hd:Sub D0 G)(hs:F0 D0 R0 G)(hc:∀x,ClsAt R0 G x)(cl:Cl R0 G xs)(hx:x∈xs)(T:Tp) :
  ∃V,lF [.d (.list (LR R0 G xs)),.d (.str x)] T=Iv (V,T)/\lA [.d (J4 D0 R0),.d (.dict G),.d (.str x)] T=Iv (V,T)/\SV 5 V:=by
 obtain⟨L,eL,hL⟩:=zor (R0:=R0) (G:=G) (xs:=xs) (by have:=cl.len;lia) T
 have kl:aj L x=Iv (L3 R0 G x):=by simp_all
 obtain⟨r,hr⟩:=cl.mem x hx
 have fin:∀V,lx [.d (.dict L),.d (.str x)] T=Iv (V,T)->lF [.d (.list (LR R0 G xs)),.d (.str x)] T=Iv (V,T):=λV e=>by
  simp[lF,eL,kl,e]
 cases hk:aj G x with
 |some v=>
  obtain⟨_,_,_,_,e⟩:=yn B hd hs hc hr hk;have hv:ay v=KN:=hs.gv B x v hk
  have Ks:HN (L3 R0 G x) (.int 2)=Iv (.tuple [.str "made",L0 v]):=by
   show Iv (dJ (En R0 G x).S)=_;rw[eB hr,e,j5]
  have lb:=mW T hv;have la:=zr [] x;have G4:=yA [] x;have ni:=rB [] x;refine⟨J1 v,fin _ ?_,?_,znr hv⟩
  .rw[uJ]
   have:=mH (c:=GJ) (b:=gR) (m:=99999) (ρ:=Gz L (.str x) [x] LG) (T:=T) (x:=J1 v) (ρ':=Gz L (.str x) [x] (Iv (.d (.tuple [.str "made",L0 v])))) (by simp at la G4 ni;simp[GJ,Gz,la,kl,G4,ni]) (by simp at la;simp[gR,Gz,la,kl,Ks,L0,lb,J1]);simp[Gz,LW] at this;simp[this]
  .rw[qF]
   simp[hk,J1]
 |none=>
  have hm:=zi (R0:=R0) [];have hl:=B.len;obtain⟨V,hV,w1,w2⟩:=sr B hs hc cl hL (.str x) (.str x) T (GK R0 []) [] x rfl hk (λ_ _=>hx) (by simp) (by simp) (by simp;lia);refine⟨V,fin V ?_,?_,?_⟩
  .rw[uJ]
   have:=w1 100000 LG (by lia);simp[jt,Gz,LW] at this;simp[this]
  .rw[qF]
   have:=w2 100000 LG (by lia);simp[jv,EJ,LW] at this;simp[hk,this]
  .cases hV with
   |two h=>
    refine .tup (by simp) λd hd=>?_;simp at hd
    rcases hd with rfl|rfl
    .exact .str
    .exact A7 _ h
   |fail h=>
    refine .tup (by simp) λd hd=>?_;simp at hd
    rcases hd with rfl|rfl|rfl
    .exact .str
    .exact A7 _ h
    .exact .str
end
def zot:∀{l:List (List Nat)},c∈aX s l->c∈s\/∃x∈l,c∈x
 |[],h=>by simp[aX] at h
 |x::r,h=>by
  rw[gz] at h<;>grind
theorem AU:∀(n:Nat) (d:Ra),aC n d=KN->∀c∈cst n d,c<128
 |n,d,h,c,hc=>by
  rcases bZ h with h1|⟨m,ds,rfl,rfl,_,hd⟩
  .rcases cz h1 with⟨i,rfl⟩|⟨x,rfl⟩
   .rw[j7] at hc
    rcases j3 i c hc with z|z <;> lia
   .rw[j6] at hc
    rcases Ru.mp hc with z|z
    .lia
    .exact K1.jf K1.kH (lL h1) c z
  .have e:cst (m+1) (.tuple ds)=40::aX [44] _++[41]:=rfl
   rw[e] at hc
   rcases Ry.mp hc with z|z
   .rcases Ru.mp z with z|z
    .lia
    .rcases zot z with w|⟨x,hx,hcx⟩
     .grind
     .obtain⟨d',KU,rfl⟩:=Rl.mp hx
      exact AU m d' (hd d' KU) c hcx
   .grind
termination_by n=>n
def Bc(h:∀c∈cd x,c<128):RU x=KN:=by
 unfold RU;rw[Array.all_eq_true'];intro c hc;exact decide_eq_true (Ww (h c (by simpa[cd] using hc)) (by simp))
def ir(h:ay v=KN):RU (mk (cst 4 v))=KN:=Bc λc hc=>AU 4 v (ck h).1 c (by exact hc)
def fw(h:isName (.str x)=KN):RU x=KN:=by
 have h':(decide _&&decide _&&has HJ x)=KN:=h;rw[Ro] at h';exact Bc (K1.jf K1.zjt h'.2)
inductive ST:Nat->Ra->Prop where
 |s {n:Nat}{x:Str}:RU x=KN->ST n (.str x)
 |t {n:Nat}{ds:List Ra}:(∀d∈ds,ST n d)->ST (n+1) (.tuple ds)
def ST.lay(h:ST n d):d.canLay0=KN:=by
 induction h with
 |s h=>simpa[TC] using h
 |t _ ih=>
  exact mC ih
def ST.dep(h:ST n d):d.depth<=n+1:=by
 induction h with
 |s h=>simp[Tt]
 |t _ ih=>
  simp only[Tt];have:=oU ih
  lia
def ST.shp(h:ST n d)(hn:n<=60):RE d=KN:=by
 unfold RE;have:=h.dep;rw[h.lay,decide_eq_true (by lia)];rfl
theorem ST.eqv:∀(n:Nat) (a b:Ra),ST n a->ST n b->(RR a b=KN↔a=b)
 |n,a,b,ha,hb=>by
  cases ha with
  |s h1=>
   cases hb with
   |s h2=>simp[RR]
   |t h2=>simp[RR]
  |t h1=>
   cases hb with
   |s h2=>simp[RR]
   |t h2=>
    rename_i m ds es;have:=rL  (ST.eqv m) ds es h1 h2
    simp only[RR]<;>simp_all
termination_by n=>n
def pN(h:∀d∈l,ST n d)(hn:n<=60):RE (.list l)=KN:=by
 unfold RE
 have h1:(UO l).canLay0=KN:=by
  exact mC λd hd=>(h d hd).lay
 have h2:(UO l).depth<=64:=by
  simp only[Tt];have:=oU  λd hd=>(h d hd).dep
  lia
 rw[h1,decide_eq_true h2];rfl
def zou(h:∀d∈l,ST n d)(hn:n<=60):Mr (.list l) (.list [])=Iv (.bool l.isEmpty):=by
 have h2:=pN  (l:=[]) (by simp) hn;unfold Mr;rw[if_pos ⟨pN h hn,h2⟩]
 cases l <;> simp[RR,S4]
def mK(l:List Ra)(x:Ra):Bool:=@decide (x∈l) (Sz _)
def zov(hx:ST n x)(h:∀d∈l,ST n d)(hn:n<=60):lj x (.list l)=Iv (.bool (!mK l x)):=by
 have e:lj x (.list l)=Iv _:=if_pos ⟨hx.shp hn,Rq.mpr λd hd=>(h d hd).shp hn⟩;rw[e]
 congr 2
 unfold mK
 congr 1
 rw[Sl,Wf,@decide_eq_true_iff _ (Sz _)];exact⟨λ⟨y,hy,q⟩=>by rw[←(ST.eqv n y x (h y hy) hx).mp q];exact hy,λq=>⟨x,q,(ST.eqv n x x hx hx).mpr rfl⟩⟩
def kn(ds:Dc):List Str:=ds.map λq=>nm q.1
structure Al(p:Bool)(n:Nat)(D0 R0 G:Dc):Prop where
 B:Bk p n D0 R0
 hd:Sub D0 G
 hs:F0 D0 R0 G
 hc:∀x,ClsAt R0 G x
 nD:∀x v,aj D0 x=Iv v->isName (.str x)=KN
 nR:∀x v,aj R0 x=Iv v->isName (.str x)=KN
 kD:gh D0=LW (kn D0)
 kR:gh R0=LW (kn R0)
 mD:∀x,x∈kn D0↔∃v,aj D0 x=Iv v
 mR:∀x,x∈kn R0↔∃v,aj R0 x=Iv v
 len:D0.length+R0.length<=40
def u5:Ra->Str
 |.tuple (.str x::_)=>x
 |_=>Rb ""
def Jk(s:LY):List Str:=s.rd.map u5
section
variable {p:Bool}{n:Nat}{D0 R0 G:Dc}
theorem Al.gv(a:Al p n D0 R0 G):GV G:=a.hs.gv a.B
def Al.key(a:Al p n D0 R0 G)(h:aj G x=Iv v):isName (.str x)=KN:=by
 cases a.hs x v h with
 |told h=>exact a.nD x v h
 |made h _ _ _=>exact a.nR x _ h
def Al.ok(a:Al p n D0 R0 G)(h:aj R0 x=Iv r):Gv p n (En R0 G x)/\qP G (En R0 G x).S:=by
 rw[eB h];exact kf a.gv a.B.n20 (cZ (a.B.rg h).1 a.B.n20)
def Al.reads(a:Al p n D0 R0 G)(h:aj R0 x=Iv r):∀d∈(En R0 G x).rd,∃z v,d=.tuple [.str z,v]/\aj G z=Iv v:=λd hd=>by
 rw[eB h] at hd
 rcases wQ a.gv a.B.n20 (cZ (a.B.rg h).1 a.B.n20) d hd with z|z
 .simp[s0] at z
 .exact z
theorem Al.st(a:Al p n D0 R0 G)(h:aj R0 x=Iv r):ST 3 (L3 R0 G x)/\∀d∈(En R0 G x).rd.map IE,ST 1 d:=by
 have hr:∀d∈(En R0 G x).rd.map IE,ST 1 d:=λd hd=>by
  obtain⟨d',KU,rfl⟩:=Rl.mp hd;obtain⟨z,v,rfl,hk⟩:=a.reads h d' KU;refine .t λd hd=>?_;simp at hd
  rcases hd with rfl|rfl
  .exact .s (fw (a.key hk))
  .exact .s (ir (a.gv z v hk))
 refine⟨.t λd hd=>?_,hr⟩;simp at hd
 rcases hd with rfl|rfl|rfl
 .exact .s (fw (a.nR x r h))
 .exact .t hr
 .rcases dw (a.ok h).1.st with⟨v,ev,hv⟩|⟨y,ev,hy⟩|⟨b,y,r',ev,hy⟩
  .rw[ev]
   refine .t λd hd=>?_;simp at hd
   rcases hd with rfl|rfl
   .exact .s (by decide +kernel)
   .exact .s (ir hv)
  .rw[ev]
   refine .t λd hd=>?_;simp at hd
   rcases hd with rfl|rfl
   .exact .s (by decide +kernel)
   .exact .s (fw hy)
  .rw[ev]
   refine .t λd hd=>?_;simp at hd
   rcases hd with rfl|rfl
   .exact .s (by decide +kernel)
   .exact .s (fw hy)
theorem qp:∀(ys xs:List Str),ys.Nodup->(∀y∈ys,y∈xs)->ys.length<=xs.length
 |[],_,_,_=>Sj _
 |y::ys,xs,nd,h=>by
  obtain⟨n1,n2⟩:=RJ.mp nd;have hy:=h y Rf
  have:=qp ys (xs.erase y) n2 λz hz=>(List.mem_erase_of_ne (λe=>n1 (by simp_all))).mpr (h z (Rc _ hz))<;>grind
def zow(h:L3 R0 G x=L3 R0 G y):x=y:=by
 have:RF x=RF y:=by
  injection h with h
  injection h
 injection this
def Gq:L3 R0 G x∈LR R0 G ys↔x∈ys:=by
 constructor
 .intro h
  obtain⟨y,hy,e⟩:=Rl.mp h;rw[←zow e];exact hy
 .exact λh=>Rl.mpr ⟨x,h,rfl⟩
def FD(D0 R0 G:Dc)(ys:List Str)(x:Str):Prop:=∀z∈Jk (En R0 G x),z∈ys++kn D0
def HF(D0 R0 G:Dc)(ls:Ra)(ys:List Str)(b:Bool)(o5 o6:Option D.W):XE:=[Iv (.d (J4 D0 R0)),Iv (.d (.dict G)),Iv (.d ls),Iv (.loc (.list (LR R0 G ys))),Iv (.d (.bool b)),o5,o6]
def zox(ρ:XE)(T:Tp):bK bz (af HN (aa 0) (fC (.int 0))) ρ (LR R0 G ys) T=Iv (LW ys,T):=by
 have:=en (e:=af HN (aa 0) (fC (.int 0))) (ρ:=ρ) (T:=T) (g:=λd=>.str (u5 d)) (ds:=LR R0 G ys) λd hd=>by
  obtain⟨x,_,rfl⟩:=Rl.mp hd;rfl
 rw[this]
 congr 2
 unfold LR LW;rw[Sk];exact RV λx _=>rfl
def zoy(ys:List Str):(LW ys).all dr=KN:=Rq.mpr λd hd=>by
 obtain⟨y,_,rfl⟩:=Rl.mp hd;rfl
def zg(a b:List Str):LW a++LW b=LW (a++b):=by simp[LW]
def zoz(hk:gh ds=LW l)(h:l.length<64):qf (.dict ds)=Iv (.list (LW (dq l))):=by
 have e:dP (LW l)=Iv l:=by
  have:=jN (λx=>x) l;simpa[LW] using this
 show jj _=_;rw[hk,e];show (if l.length<64 then _ else _)=_;rw[if_pos h];rfl
def km(ds:Dc):(kn ds).length=ds.length:=by simp[kn]
def Pl(o:Option D.W):Prop:=o=LG\/∃x,o=Iv (.d x)
def zpa(h6:Pl o6) :
  mS (bf (aa 3)) bz (af HN (aa 0) (fC (.int 0))) (HF D0 R0 G ls ys b (Iv (.d x5)) o6) T=Iv (.d (.list (LW ys)),T):=by
 have nd:Cd (HF D0 R0 G ls ys b (Iv (.d x5)) o6)=KN:=by rcases h6 with rfl|⟨x,rfl⟩ <;> rfl
 have it:bf (aa 3) (c7 (HF D0 R0 G ls ys b (Iv (.d x5)) o6)) []=Iv _:=rfl;unfold mS;rw[if_pos nd,it,cG,zox];show (if (LW ys).all _=KN then _ else _)=_;rw[if_pos (zoy ys)]
def zpb(a:Al p n D0 R0 G){x:Str}{r:Ra}(hr:aj R0 x=Iv r){c:FT}{ρ:XE}{T:Tp}{as:List Str}(hc:∀z v,c (Iv (.d (.tuple [.str z,v]))::ρ) T=Iv (!decide (z∈as),T)) :
  ∃l,bK c (aa 0) ρ ((En R0 G x).rd.map IE) T=Iv (l,T)/\Mr (.list l) (.list [])=Iv (.bool (decide (∀z∈Jk (En R0 G x),z∈as))):=by
 refine⟨((En R0 G x).rd.map IE).filter (λd=>!decide (u5 d∈as)),lC λd hd=>?_,?_⟩
 .obtain⟨d',KU,rfl⟩:=Rl.mp hd
  obtain⟨z,v,rfl,_⟩:=a.reads hr d' KU;exact hc z _
 .rw[zou  (λd hd=>(a.st hr).2 d (SR.mp hd).1) (by decide),filter_none]
  congr 2
  rw[Sl,Rq,decide_eq_true_eq];constructor
  .intro h z hz
   obtain⟨d,hd,rfl⟩:=Rl.mp hz;obtain⟨z,v,rfl,_⟩:=a.reads hr d hd;have q:=h _ (Rl.mpr ⟨_,hd,rfl⟩);exact of_decide_eq_true q
  .intro h d hd
   obtain⟨d',KU,rfl⟩:=Rl.mp hd;obtain⟨z,v,rfl,_⟩:=a.reads hr d' KU;exact decide_eq_true (h _ (Rl.mpr ⟨_,KU,rfl⟩))
def zpc(a:Al p n D0 R0 G)(hr:aj R0 x=Iv r)(EX:∀y∈ys,∃r,aj R0 y=Iv r)(hl:ys.length<=60)(h6:Pl o6) :
  (x∉ys/\FD D0 R0 G ys x/\∃q,fR (HF D0 R0 G ls ys b (Iv (.d (L3 R0 G x))) o6) T=Iv ((.nx,HF D0 R0 G ls (ys++[x]) KN (Iv (.d (L3 R0 G x))) (Iv (.d q))),T)) \/
  ((x∈ys\/¬FD D0 R0 G ys x)/\∃q,fR (HF D0 R0 G ls ys b (Iv (.d (L3 R0 G x))) o6) T=Iv ((.nx,HF D0 R0 G ls ys b (Iv (.d (L3 R0 G x))) (Iv (.d q))),T)):=by
 have c1:=zpa (D0:=D0) (R0:=R0) (G:=G) (ls:=ls) (x5:=L3 R0 G x) (ys:=ys) (b:=b) (T:=T) h6
 have l1:(LW ys).length+(LW (kn D0)).length<=sizeLine:=cY (by
  have:=a.len;simp[LW,km]
  lia)
 have i0:HN (J4 D0 R0) (.int 0)=Iv (.dict D0):=rfl
 have lk:gf [.dict D0]=Iv (.list (LW (kn D0))):=by rw[←a.kD];rfl
 have ap:=zg ys (kn D0)
 have nt:lj (L3 R0 G x) (.list (LR R0 G ys))=Iv (.bool (!mK (LR R0 G ys) (L3 R0 G x))):=zov (a.st hr).1 (λd hd=>by
  obtain⟨y,hy,rfl⟩:=Rl.mp hd;obtain⟨r',JB⟩:=EX y hy
  exact(a.st JB).1) (by decide)
 have i1:HN (L3 R0 G x) (.int 1)=Iv (.tuple ((En R0 G x).rd.map IE)):=rfl;have l2:(LR R0 G ys).length<sizeLine:=R5 (by simp[LR];exact hl) (by decide:60<Rp)
 have apP:LR R0 G ys++[L3 R0 G x]=LR R0 G (ys++[x]):=by simp[LR]
 obtain⟨l,f1,f2⟩:=zpb a hr (c:=ao (af cS (af HN (aa 0) (fC (.int 0))) (aa 7))) (ρ:=HF D0 R0 G ls ys b (Iv (.d (L3 R0 G x))) (Iv (.d (.list (LW (ys++kn D0)))))) (T:=T) (as:=ys++kn D0) λz v=>by
  have:=rB (ys++kn D0) z;simp[HF,this]
 by_cases hx:x∈ys
 .have sm:mK (LR R0 G ys) (L3 R0 G x)=KN:=(@decide_eq_true_iff _ (Sz _)).mpr (Gq.mpr hx)
  rw[sm] at nt;refine .inr ⟨.inl hx,.list (LW (ys++kn D0)),?_⟩;simp[HF] at c1;simp[fR,HF,c1,i0,lk,l1,ap,nt]
 .have sm:mK (LR R0 G ys) (L3 R0 G x)=Lf:=(@decide_eq_false_iff_not _ (Sz _)).mpr (λz=>hx (Gq.mp z))
  rw[sm] at nt
  by_cases hq:FD D0 R0 G ys x
  .have HX:(decide (∀z∈Jk (En R0 G x),z∈ys++kn D0))=KN:=decide_eq_true hq
   rw[HX] at f2;refine .inl ⟨hx,hq,.list (LW (ys++kn D0)),?_⟩;simp[HF] at c1 f1;simp[fR,HF,c1,i0,lk,l1,ap,nt,i1,f1,f2,l2,apP]
  .have HX:(decide (∀z∈Jk (En R0 G x),z∈ys++kn D0))=Lf:=decide_eq_false hq
   rw[HX] at f2;refine .inr ⟨.inr hq,.list (LW (ys++kn D0)),?_⟩;simp[HF] at c1 f1;simp[fR,HF,c1,i0,lk,l1,ap,nt,i1,f1,f2]
def LQ(D0 R0 G:Dc):List Str->List Str->Prop
 |_,[]=>True
 |zs,y::ys=>FD D0 R0 G zs y/\LQ D0 R0 G (zs++[y]) ys
theorem LQ.snoc:∀{ys zs:List Str}{x:Str},LQ D0 R0 G zs ys->FD D0 R0 G (zs++ys) x->LQ D0 R0 G zs (ys++[x])
 |[],zs,x,_,h=>⟨by simp_all,trivial⟩
 |y::ys,zs,x,o,h=>⟨o.1,LQ.snoc o.2 (by simp_all)⟩
def Al.small(a:Al p n D0 R0 G){ys:List Str}(nd:ys.Nodup)(EX:∀y∈ys,∃r,aj R0 y=Iv r):ys.length<=40:=by
 have:=qp ys _ nd λy hy=>(a.mR y).mpr (EX y hy);rw[km] at this;have:=a.len
 lia
theorem tf(a:Al p n D0 R0 G){ls:Ra}{T:Tp}:∀(zs ys:List Str) (b:Bool) (o5 o6:Option D.W),(∀z∈zs,∃r,aj R0 z=Iv r)->ys.Nodup->(∀y∈ys,∃r,aj R0 y=Iv r)->LQ D0 R0 G [] ys/\Pl o6 ->
  ∃Gy b' Gi HI,forL 5 fR (LR R0 G zs) (HF D0 R0 G ls ys b o5 o6) T=Iv ((.nx,HF D0 R0 G ls Gy b' Gi HI),T)/\(LQ D0 R0 G [] Gy/\Pl HI)/\Gy.Nodup/\(∀y∈Gy,∃r,aj R0 y=Iv r)/\ys.length<=Gy.length/\(b'=Lf->b=Lf/\Gy=ys/\∀z∈zs,z∈ys\/¬FD D0 R0 G ys z)/\(b'=KN->b=KN\/ys.length<Gy.length)
 |[],ys,b,o5,o6,_,nd,hy,h6=>⟨ys,b,o5,o6,rfl,h6,nd,hy,Rn _,λe=>⟨e,rfl,λz h=>by simp_all⟩,λe=>.inl e⟩
 |x::zs,ys,b,o5,o6,hz,nd,hy,h6=>by
  obtain⟨r,hr⟩:=hz x Rf;have CY:=λz h=>hz z (Rc _ h);have hl:=a.small nd hy;have st:∀{ρ':XE},fR _ T=Iv ((.nx,ρ'),T)->forL 5 fR (LR R0 G (x::zs)) (HF D0 R0 G ls ys b o5 o6) T=forL 5 fR (LR R0 G zs) ρ' T:=λh=>ff h
  rcases zpc a (ls:=ls) (b:=b) (T:=T) hr hy (by lia) h6.2 with⟨h1,h2,q,e⟩|⟨h1,q,e⟩
  .have Dk:(ys++[x]).Nodup:=SM.mpr ⟨nd,by simp,λu hu v hv z=>h1 (by simp_all)⟩
   obtain⟨Gy,b',Gi,HI,f1,f2,f3,f4,f5,f6,f7⟩:=tf a (ls:=ls) (T:=T) zs (ys++[x]) KN (Iv (.d (L3 R0 G x))) (Iv (.d q)) CY Dk (λy h=>by
    rcases Ry.mp h with z|z<;>simp_all) ⟨h6.1.snoc h2,.inr ⟨q,rfl⟩⟩
   have l1:(ys++[x]).length=ys.length+1:=by simp
   refine⟨Gy,b',Gi,HI,by rw[st e];exact f1,f2,f3,f4,by lia,λz=>?_,λz=>.inr (by lia)⟩;obtain⟨w,_⟩:=f6 z;cases w
  .obtain⟨Gy,b',Gi,HI,f1,f2,f3,f4,f5,f6,f7⟩:=tf a (ls:=ls) (T:=T) zs ys b (Iv (.d (L3 R0 G x))) (Iv (.d q)) CY nd hy ⟨h6.1,.inr ⟨q,rfl⟩⟩
   refine⟨Gy,b',Gi,HI,by rw[st e];exact f1,f2,f3,f4,f5,λz=>?_,f7⟩<;>simp_all
theorem wY(a:Al p n D0 R0 G){T:Tp}{xs:List Str}(hx:∀z∈xs,∃r,aj R0 z=Iv r):∀(m:Nat) (ys:List Str) (o5 o6:Option D.W),ys.Nodup->(∀y∈ys,∃r,aj R0 y=Iv r)->LQ D0 R0 G [] ys/\Pl o6->50<m+ys.length ->
  ∃Gy Gi HI,bc (aJ (aa 4)) oo m (HF D0 R0 G (.list (LR R0 G xs)) ys KN o5 o6) T=Iv ((.nx,HF D0 R0 G (.list (LR R0 G xs)) Gy Lf Gi HI),T)/\LQ D0 R0 G [] Gy/\Gy.Nodup/\(∀y∈Gy,∃r,aj R0 y=Iv r)/\∀z∈xs,z∈Gy\/¬FD D0 R0 G Gy z
 |0,ys,o5,o6,nd,hy,_,hm=>by have:=a.small nd hy;lia
 |m+1,ys,o5,o6,nd,hy,h6,hm=>by
  obtain⟨Gy,b',Gi,HI,f1,f2,f3,f4,f5,f6,f7⟩:=tf a (ls:=.list (LR R0 G xs)) (T:=T) xs ys Lf o5 o6 hx nd hy h6;have hc:∀b ys o5 o6,aJ (aa 4) (HF D0 R0 G (.list (LR R0 G xs)) ys b o5 o6) T=Iv (b,T):=λb ys o5 o6=>rfl
  have hb:oo (HF D0 R0 G (.list (LR R0 G xs)) ys KN o5 o6) T=Iv ((.nx,HF D0 R0 G (.list (LR R0 G xs)) Gy b' Gi HI),T):=by
   simp[HF] at f1;simp[oo,HF,f1]
  rw[i6 (hc _ _ _ _) hb];have hl:=a.small f3 f4
  cases b' with
  |false=>
   obtain⟨_,w2,w3⟩:=f6 rfl;obtain⟨m,rfl⟩:∃j,m=j+1:=⟨m-1,by lia⟩;refine⟨Gy,Gi,HI,rfl,f2.1,f3,f4,λz hz=>?_⟩;rw[w2];exact w3 z hz
  |true=>
   have HV:=(f7 rfl).resolve_left (by simp);exact wY a hx m Gy Gi HI f3 f4 f2 (by lia)
def zpd(a:Al p n D0 R0 G)(h:∀x r,aj R0 x=Iv r->x∈ys\/¬FD D0 R0 G ys x):∀x r,aj R0 x=Iv r->x∈ys:=by
 have gd:∀x v,C2 D0 R0 x v->x∈ys++kn D0:=by
  intro x v d
  induction d with
  |told hk=>exact Ry.mpr (.inr ((a.mD _).mpr ⟨_,hk⟩))
  |made hr Ls HA e ih=>
   rename_i x v r G1;refine Ry.mpr (.inl ((h x r hr).resolve_right λz=>z λy hy=>?_));have Iq:=λy u q=>kE a.B a.hd a.hs a.hc (HA y u q);have h1:=pj Iq Ls a.B.n20 (cZ (a.B.rg hr).1 a.B.n20);rw[jQ e] at h1;obtain⟨d,hd,rfl⟩:=Rl.mp hy;rw[eB hr,←h1] at hd
   rcases wQ Ls a.B.n20 (cZ (a.B.rg hr).1 a.B.n20) d hd with w|⟨z,u,rfl,hk⟩
   .simp[s0] at w
   .exact ih z u hk
 intro x r hr;refine(h x r hr).resolve_right λz=>z λy hy=>?_;obtain⟨d,hd,rfl⟩:=Rl.mp hy;obtain⟨z,v,rfl,hk⟩:=a.reads hr d hd;exact gd z v (a.hs z v hk)
def zpe(a:Al p n D0 R0 G)(T:Tp):∃ys,jB [.d (J4 D0 R0),.d (.dict G)] T=Iv (.list (LR R0 G ys),T)/\LQ D0 R0 G [] ys/\ys.Nodup/\∀x,x∈ys↔∃r,aj R0 x=Iv r:=by
 have hx:=λz hz=>(a.mR z).mp ((gX _).mem_iff.mp hz);have so:=zoz a.kR (by rw[km];have:=a.len;lia);obtain⟨ys,o5,o6,e,od,nd,hy,hf⟩:=wY a (T:=T) hx 100000 [] LG LG (by simp) (by simp) ⟨trivial,.inl rfl⟩ (by simp);refine⟨ys,?_,od,nd,λx=>⟨hy x,λ⟨r,hr⟩=>zpd a (λx r hr=>hf x ((gX _).mem_iff.mpr ((a.mR x).mpr ⟨r,hr⟩))) x r hr⟩⟩
 have c:=en (e:=ak jI (ab (aa 1) (ab (aa 2) (ab (aa 0) ah)))) (ρ:=[Iv (.d (J4 D0 R0)),Iv (.d (.dict G)),LG,LG,LG,LG,LG]) (T:=T) (g:=λd=>L3 R0 G (nm d)) (ds:=LW _) λd hd=>by
  obtain⟨x,Dm,rfl⟩:=Rl.mp hd;obtain⟨r,hr⟩:=hx x Dm;have:=z5 a.B a.gv hr T;simp[this,nm]
 have cm:(LW (dq (kn R0))).map (λd=>L3 R0 G (nm d))=LR R0 G (dq (kn R0)):=by
  unfold LW LR;rw[Sk];exact RV λx _=>rfl
 rw[cm] at c;have i1:HN (J4 D0 R0) (.int 1)=Iv _:=rfl;rw[jB];have e0:LR R0 G []=[]:=rfl
 simp[HF] at e<;>simp_all
end
abbrev PR:=List (Str×Ra)
def PL(l:PR):List PyData:=l.map λq=>.tuple [.str q.1,q.2]
noncomputable def bI(b:Bool)(x:Str):PyData:=.tuple [.str (Rb (if b then "peeks" else "wants")),.str x]
def cJ(rd pk:PR):Nat->Nat->Nat->List Ra->Ra->Ra×Nat
 |0,i,_,_,_=>(.none,i)
 |f+1,i,j,gs,S=>match cP S with
  |none=>(S,i)
  |some (b,x,r)=>match (if b then pk[j]? else rd[i]?) with
   |none=>(bI b x,i)
   |some (y,v)=>if y=x then cJ rd pk f (if b then i else i+1) (if b then j+1 else j) (gs++[v]) (Ml r (gs++[v])) else (bI b x,i)
def JZ:FT:=(ao (af kS (af HN (aa 6) (fC (.int 0))) (aa 3)))
def Gj:FS:=(ai (aE 7 (af eU (aa 3) (af HN (aa 6) (fC (.int 0))))) (ai (aE 8 (af eU (aa 4) (af HN (aa 6) (fC (.int 0))))) (ai (EI (bq (ao (af M6 (aa 8) (Et aR (ab (aa 7) ah)))) (ao (af DN (af HN (af HN (aa 7) (aa 8)) (fC (.int 0))) (af HN (aa 6) (fC (.int 1)))))) (aq (ax .tuple (ab (ax .tuple (ab (LP (atS [("want","wants"),("peek","peeks")]) (af HN (aa 6) (fC (.int 0)))) (ab (af HN (aa 6) (fC (.int 1))) ah))) (ab (af eU (aa 4) (fC (.str "want"))) ah)))) aA) (ai (cR 5 (af HN (af HN (aa 7) (aa 8)) (fC (.int 1)))) (ai (qL 4 (af HN (aa 6) (fC (.int 0))) (af aP (aa 8) (fC (.int 1)))) (aE 6 (fZ (bU 25) (ab (af HN (aa 6) (fC (.int 2))) (ab (aa 5) ah)))))))))
theorem zpf:bc JZ Gj (m+1) ρ T=G5 (JZ ρ T) λb T1=>if b=KN then G5 (Gj ρ T1) (lq (bc JZ Gj m)) else Iv ((.nx,ρ),T1):=rfl
noncomputable def dW(a b:Ra):PyData:=.dict [(.str "want",a),(.str "peek",b)]
def IK(r:Ra)(rd pk:PR)(i j:Nat)(gs:List Ra)(S:Ra)(o7 o8:Option D.W):XE:=[Iv (.d r),Iv (.d (.list (PL rd))),Iv (.d (.list (PL pk))),Iv (.loc (dW (.list (PL rd)) (.list (PL pk)))),Iv (.loc (dW (.int (i:Int)) (.int (j:Int)))),Iv (.loc (.list gs)),Iv (.d S),o7,o8]
@[simp] theorem NY:kS (.str s) (dW a b)=Iv (.bool (decide (s=Rb "want")||decide (s=Rb "peek"))):=by unfold dW kS aj aj aj<;>grind
@[simp] theorem Ql:eU (dW a b) (.str "want")=Iv a :=rfl
@[simp] theorem Qo:eU (dW a b) (.str "peek")=Iv b :=rfl
theorem k8:Gc o T (.loc (dW a b)) (.d y)=J8 T (o (dW a b) y):=rfl
theorem k7:Gc o T (.d y) (.loc (dW a b))=J8 T (o y (dW a b)):=rfl
def Ac{r S:Ra}{rd pk:PR}{i j:Nat}{gs:List Ra}{o7 o8:Option D.W}{T:Tp}{w:String}{l:List Ra}(hS:S=.tuple (.str (Rb w)::l))(h1:¬w="want")(h2:¬w="peek")(hl:l.length=1):JZ (IK r rd pk i j gs S o7 o8) T=Iv (Lf,T):=by
 obtain⟨a,rfl⟩:∃a,l=[a]:=by
  match l,hl with
  |[a],_=>exact⟨a,rfl⟩
 subst hS;simp[JZ,IK,k7,h1,h2]
def zpg:JZ (IK r rd pk i j gs (Du b x r') o7 o8) T=Iv (KN,T):=by cases b <;> simp[JZ,IK,k7,Du]
def qk{l:PR}{i:Nat}{x:Str}{v:Ra}(h:l[i]? = Iv (x,v)):L1 (PL l) (i:Int)=Iv (.tuple [.str x,v]):=by
 refine qb ?_
 unfold PL<;>simp_all
def mM(l:PR):(PL l).length=l.length:=by simp[PL]
def uK(ρ:XE)(a b:Ra)(w k:D.W)(T:Tp):Option ((Fl×XE)×Tp):=match w,k with
 |.d x,.d (.str s)=>if (aj [(.str "want",a),(.str "peek",b)] s).isSome=KN/\([(RF "want",a),(.str "peek",b)]).length<=1000 then Iv ((.nx,ρ.set 4 (Iv (.loc (.dict (cc [(.str "want",a),(.str "peek",b)] s x))))),T) else LG
 |_,_=>LG
theorem yr:qL 4 fk fv [a0,a1,a2,a3,Iv (.loc (dW a b)),a5,a6,a7,a8] T=G5 (fv [a0,a1,a2,a3,Iv (.loc (dW a b)),a5,a6,a7,a8] T) λw T1=>G5 (fk [a0,a1,a2,a3,Iv (.loc (dW a b)),a5,a6,a7,a8] T1) (uK [a0,a1,a2,a3,Iv (.loc (dW a b)),a5,a6,a7,a8] a b w):=rfl
theorem zph:uK ρ a b (.d x) (.d (.str "want")) T=Iv ((.nx,ρ.set 4 (Iv (.loc (dW x b)))),T) :=rfl
theorem zpi:uK ρ a b (.d x) (.d (.str "peek")) T=Iv ((.nx,ρ.set 4 (Iv (.loc (dW a x)))),T) :=rfl
def zpj{r:Ra}{b:Bool}{x:Str}{r' v S':Ra}{rd pk:PR}{i j:Nat}{gs:List Ra}{o7 o8:Option D.W}{T:Tp}(hq:(if b then pk[j]? else rd[i]?)=Iv (x,v))(hg:gs.length<=12)
  (hS:∀T,fu (bU 25) [.d r',.loc (.list (gs++[v]))] T=Iv (.d S',T)):∃wZ AL,Gj (IK r rd pk i j gs (Du b x r') o7 o8) T=Iv ((.nx,IK r rd pk (if b then i else i+1) (if b then j+1 else j) (gs++[v]) S' wZ AL),T):=by
 have hz:gs.length<sizeLine:=R5 hg (by decide)
 cases b with
 |false=>
  have HX:=hq;have hi:=(Rh.mp HX).1;have Fc:=qk HX
  have nl:¬((rd.length:Int)<=(i:Int)):=by lia
  have ln:=mM rd;refine⟨Iv (.d (.list (PL rd))),Iv (.d (.int (i:Int))),?_⟩;simp[Gj,IK,Du,k8,ln,nl,Fc,hz,yr,zph,hS]
 |true=>
  have HX:=hq;have hi:=(Rh.mp HX).1;have Fc:=qk HX
  have nl:¬((pk.length:Int)<=(j:Int)):=by lia
  have ln:=mM pk;refine⟨Iv (.d (.list (PL pk))),Iv (.d (.int (j:Int))),?_⟩;simp[Gj,IK,Du,k8,ln,nl,Fc,hz,yr,zpi,hS]
theorem BJ:D.atS [("want","wants"),("peek","peeks")] (.str "want")=Iv (.str "wants") :=rfl
theorem BK:D.atS [("want","wants"),("peek","peeks")] (.str "peek")=Iv (.str "peeks") :=rfl
def zpk{r:Ra}{b:Bool}{x:Str}{r':Ra}{rd pk:PR}{i j:Nat}{gs:List Ra}{o7 o8:Option D.W}{T:Tp}(hq:∀v,(if b then pk[j]? else rd[i]?)≠Iv (x,v)):∃ρ',Gj (IK r rd pk i j gs (Du b x r') o7 o8) T=Iv ((.rt (.tuple [bI b x,.int (i:Int)]),ρ'),T):=by
 cases b with
 |false=>
  have ln:=mM rd
  cases hg:rd[i]? with
  |none=>
   have nl:((rd.length:Int)<=(i:Int)):=by simp_all
   simp[Gj,IK,Du,k8,k7,ln,nl,BJ,bI]
  |some q=>
   obtain⟨y,v⟩:=q;have hi:i<rd.length:=(Rh.mp hg).1
   have nl:¬((rd.length:Int)<=(i:Int)):=by lia
   have Fc:=qk hg;have hy:¬y=x:=λz=>hq v (by rw[←z];exact hg);simp[Gj,IK,Du,k8,k7,ln,nl,Fc,hy,BJ,bI]
 |true=>
  have ln:=mM pk
  cases hg:pk[j]? with
  |none=>
   have nl:((pk.length:Int)<=(j:Int)):=by
    have:=Ux.mp hg
    lia
   simp[Gj,IK,Du,k8,k7,ln,nl,BK,bI]
  |some q=>
   obtain⟨y,v⟩:=q;have hi:j<pk.length:=(Rh.mp hg).1
   have nl:¬((pk.length:Int)<=(j:Int)):=by lia
   have Fc:=qk hg;have hy:¬y=x:=λz=>hq v (by rw[←z];exact hg);simp[Gj,IK,Du,k8,k7,ln,nl,Fc,hy,BK,bI]
def fin:FS:=aq (ax .tuple (ab (aa 6) (ab (af eU (aa 4) (fC (.str "want"))) ah)))
theorem AK{r S:Ra}{rd pk:PR}{i j:Nat}{gs:List Ra}{o7 o8:Option D.W}{T:Tp}:cI (fin (IK r rd pk i j gs S o7 o8) T)=Iv (.tuple [S,.int (i:Int)],T) :=rfl
theorem zpl:lq k (.rt x,ρ) T=Iv ((.rt x,ρ),T):=rfl
def i8(h:cP S=LG):cJ rd pk (f+1) i j gs S=(S,i):=by rw[cJ,h]
def hW(hS:cP S=Iv (b,x,r))(h:∀v,(if b then pk[j]? else rd[i]?)≠Iv (x,v)):cJ rd pk (f+1) i j gs S=(bI b x,i):=by
 rw[cJ,hS];dsimp only
 cases hq:(if b then pk[j]? else rd[i]?) with
 |none=>rfl
 |some q=>
  obtain⟨y,v⟩:=q;have hy:¬y=x:=λz=>h v (by rw[hq,z]);exact if_neg hy
def qy(hS:cP S=Iv (b,x,r))(h:(if b then pk[j]? else rd[i]?)=Iv (x,v)):cJ rd pk (f+1) i j gs S=cJ rd pk f (if b then i else i+1) (if b then j+1 else j) (gs++[v]) (Ml r (gs++[v])):=by rw[cJ]<;>simp_all
def Ia(l:PR):Prop:=∀q∈l,ay q.2=KN
def zpm{rd pk:PR}{b:Bool}{i j:Nat}{x:Str}{v:Ra}(h1:Ia rd)(h2:Ia pk)(h:(if b then pk[j]? else rd[i]?)=Iv (x,v)):ay v=KN:=by
 cases b with
 |true=>exact h2 _ (Rw h)
 |false=>exact h1 _ (Rw h)
def wD(h:∀u∈gs,ay u=KN)(hv:ay v=KN):∀u∈gs++[v],ay u=KN:=λu hu=>by
 rcases Ry.mp hu with z|z<;>simp_all
theorem zo(h1:Ia rd)(h2:Ia pk):∀(f m i j:Nat) (gs:List Ra) (S:Ra) (n:Nat) (o7 o8:Option D.W),Dv p gs.length n S->n<=20->(∀v∈gs,ay v=KN)->gs.length<=12->13<=gs.length+f->f<=m ->
  cI (G5 (bc JZ Gj m (IK r rd pk i j gs S o7 o8) T) (fF fin))=Iv (.tuple [(cJ rd pk f i j gs S).1,.int ((cJ rd pk f i j gs S).2:Int)],T)
 |0,m,i,j,gs,S,n,o7,o8,_,_,_,hg,hf,_=>by lia
 |f+1,m,i,j,gs,S,n,o7,o8,hS,hn,hv,hg,hf,hm=>by
  obtain⟨m,rfl⟩:∃k,m=k+1:=⟨m-1,by lia⟩;rw[zpf]
  cases hS with
  |md hx=>
   rename_i v;rw[Ac (S:=J1 v) (w:="made") (l:=[v]) rfl (by decide) (by decide) rfl,cG,if_neg (by decide),cG,pW,AK,i8 AZ]
  |fl hx=>
   rename_i x;rw[Ac (S:=J2 x) (w:="fails") (l:=[.str x]) rfl (by decide) (by decide) rfl,cG,if_neg (by decide),cG,pW,AK,i8 A1]
  |ask hb hx GX LJ hr=>
   rename_i b x r' n';rw[zpg,cG,if_pos rfl]
   by_cases hq:∃v,(if b then pk[j]? else rd[i]?)=Iv (x,v)
   .obtain⟨v,hq⟩:=hq
    have Gr:=wD hv (zpm h1 h2 hq);obtain⟨s1,s2⟩:=yS hr (gs:=gs++[v]) (by simp) Gr (by lia);have cf:∀T,fu (bU 25) [.d r',.loc (.list (gs++[v]))] T=Iv (.d (Ml r' (gs++[v])),T):=λT=>jO rfl (s2 []) (sD s1);obtain⟨wZ,AL,e⟩:=zpj (r:=r) (o7:=o7) (o8:=o8) (T:=T) hq hg cf;rw[e,cG,tI,qy ik hq]
    have hl:(gs++[v]).length=gs.length+1:=by simp
    exact zo h1 h2 f m _ _ (gs++[v]) _ n' wZ AL (by rw[hl];exact s1) (by lia) Gr (by rw[hl];lia) (by rw[hl];lia) (by lia)
   .have HX:=λv z=>hq ⟨v,z⟩
    obtain⟨ρ',e⟩:=zpk (r:=r) (r':=r') (gs:=gs) (o7:=o7) (o8:=o8) (T:=T) HX;rw[e,cG,zpl,cG,Iu,Iw,hW ik HX]
theorem zpn:ox=aI 9 (ai (gk 3 "want" "peek" (aa 1) (aa 2)) (ai (gk 4 "want" "peek" (fC (.int 0)) (fC (.int 0))) (ai (cj 5 ah) (ai (aE 6 (fZ (bU 25) (ab (aa 0) (ab (aa 5) ah)))) (ai (bc JZ Gj 100000) fin))))):=rfl
def yq(h1:f ρ T=Iv (.d x,T))(h2:g ρ T=Iv (.d y,T)):gk i "want" "peek" f g ρ T=Iv ((.nx,ρ.set i (Iv (.loc (dW x y)))),T):=by
 unfold gk;rw[h1,cG,h2,cG];exact if_neg (by decide +kernel)
def cQ(rd pk:PR)(r:Ra):Ra×Nat:=cJ rd pk 13 0 0 [] (Ml r [])
def zpo(T:Tp)(hr:Rg p 0 20 r)(h1:Ia rd)(h2:Ia pk):ox [.d r,.d (.list (PL rd)),.d (.list (PL pk))] T=Iv (.tuple [(cQ rd pk r).1,.int ((cQ rd pk r).2:Int)],T):=by
 obtain⟨s1,s2⟩:=yS hr (gs:=[]) rfl (λv hv=>by cases hv) (Rn _);have cf:∀T,fu _ [.d r,.loc _] T=Iv _:=λT=>jO rfl (s2 []) (sD s1);have lp:=zo (r:=r) (T:=T) h1 h2 13 100000 0 0 [] _ 20 LG LG s1 (Rn _) (λv hv=>by cases hv) (by simp) (by simp) (by simp);rw[zpn,nA];have a1:gk 3 _ _ (aa 1) (aa 2) [Iv (.d r),Iv _,Iv _,LG,LG,LG,LG,LG,LG] T=Iv ((.nx,[Iv _,Iv (.d (.list (PL rd))),Iv (.d (.list (PL pk))),Iv _,LG,LG,LG,LG,LG]),T):=yq rfl rfl;have a2:gk 4 _ _ (fC (.int 0)) (fC (.int 0)) [Iv _,Iv _,Iv (.d (.list (PL pk))),Iv _,LG,LG,LG,LG,LG] T=Iv ((.nx,[Iv (.d r),Iv (.d (.list (PL rd))),Iv _,Iv (.loc (dW (.list (PL rd)) (.list (PL pk)))),Iv _,LG,LG,LG,LG]),T):=yq rfl rfl;rw[uv];show cI (G5 (gk 3 _ _ _ _ [Iv _,Iv _,Iv _,LG,LG,LG,LG,LG,LG] T) _)=_;rw[a1,cG,pW,uv,a2,cG,pW]
 have a3:(ai (cj 5 ah) (ai (aE 6 (fZ (bU 25) (ab (aa 0) (ab (aa 5) ah)))) (ai (bc JZ Gj 100000) fin))) [Iv (.d r),Iv (.d (.list (PL rd))),Iv (.d (.list (PL pk))),Iv (.loc (dW (.list (PL rd)) (.list (PL pk)))),Iv (.loc (dW (.int 0) (.int 0))),LG,LG,LG,LG] T=G5 (bc JZ Gj 100000 (IK r rd pk 0 0 [] (Ml r []) LG LG) T) (fF fin):=by
  simp[cf];rfl
 rw[a3];exact lp
def qV(rd pk:PR)(r:Ra):PyData:=if (cQ rd pk r).2<rd.length then .tuple [.str "strays",.int ((cQ rd pk r).2:Int)] else (cQ rd pk r).1
def zpp(T:Tp)(hr:Rg p 0 20 r)(h1:Ia rd)(h2:Ia pk):l7 [.d r,.d (.list (PL rd)),.d (.list (PL pk))] T=Iv (qV rd pk r,T):=by
 have e:=zpo T hr h1 h2;have ln:=mM rd;unfold qV
 by_cases c:(cQ rd pk r).2<rd.length
 .have c':=by omega
  simp[l7,e,ln,c']
 .have c':=by omega
  simp[l7,e,ln,c']
def bi(rd:PR):List PyData:=rd.map λq=>.tuple [.str q.1,L0 q.2]
def iW(rd:PR):(bi rd).length=rd.length:=by simp[bi]
def y3{rd:PR}{k:Nat}{x:Str}{v:Ra}(hk:rd[k]? = Iv (x,v)):L1 (bi rd) (k:Int)=Iv (.tuple [.str x,L0 v])/\(k:Int)<((bi rd).length:Int):=by
 have hl:=(Rh.mp hk).1;exact⟨qb (by unfold bi;rw[Sf,hk];rfl),by rw[iW];lia⟩
section
variable {rd:PR}{k:Nat}{x:Str}{T:Tp}
def zpq(hk:rd[k]? = Iv (x,v))(hv:ay v=KN):dQ Lf (.dict []) (.tuple (bi rd)) k x T=Iv (.list [v],T):=by
 have lb:=λT=>z6 (T:=T) hv;obtain⟨at',Ka⟩:=y3 hk;have nn:isNone (Th (bi rd))=Lf:=rfl;have aw:nW Lf=.str _:=rfl;simp[dQ,gW,aw,nn,Ka,at',lb]
def zpr(hk:rd[k]? = Iv (y,v))(h:¬y=x):dQ Lf (.dict []) (.tuple (bi rd)) k x T=Iv (.tuple [.str "strays",.str x],T):=by
 obtain⟨at',Ka⟩:=y3 hk;have nn:isNone (Th (bi rd))=Lf:=rfl;have aw:nW Lf=.str _:=rfl;simp[dQ,gW,aw,nn,Ka,at',h]
theorem zps:dQ KN (.dict []) (.tuple (bi rd)) k x T=Iv (.tuple [.str "strays",.str x],T) :=rfl
def zpt(hk:rd.length<=k):dQ Lf (.dict []) (.tuple (bi rd)) k x T=Iv (.tuple [.str "wants",.str x],T):=by
 have Ka:¬(k)<((bi rd).length):=by rw[iW];lia
 have nn:isNone (Th (bi rd))=Lf:=rfl;have aw:nW Lf=.str _:=rfl;simp[dQ,gW,aw,nn,Ka]
end
inductive LZ(k L:Nat):Ra->Ra->Prop where
 |md {v:Ra}:ay v=KN->LZ k L (J1 v) (bt "made" (L0 v))
 |fl {x:Str}:isName (.str x)=KN->LZ k L (J2 x) (bt "fails" (.str x))
 |wt {x:Str}:isName (.str x)=KN->k=L->LZ k L (bI Lf x) (bt "wants" (.str x))
 |st {b:Bool}{x:Str}:isName (.str x)=KN->(b=KN\/k<L)->LZ k L (bI b x) (bt "strays" (.str x))
theorem xZ(hrd:Ia rd)(hl:rd.length<=12)(hn:n<=20)(T:Tp):∀(f i:Nat) (gs:List Ra) (r:Ra) (m:Nat) (o o1:Option D.W) (n':Nat),n'<=n->Rg p gs.length n' r->gs.length=i->(∀v∈gs,ay v=KN)->i<=rd.length->13<=i+f->(13-i)*21<m ->
  ∃E,FG m r (.dict []) (.tuple (bi rd)) gs (bi (rd.take i)) o o1 T=Iv (.tuple [.list (bi (rd.take (cJ rd [] f i 0 gs (Ml r gs)).2)),E],T)/\(cJ rd [] f i 0 gs (Ml r gs)).2<=rd.length/\LZ (cJ rd [] f i 0 gs (Ml r gs)).2 rd.length (cJ rd [] f i 0 gs (Ml r gs)).1 E
 |0,i,gs,r,m,o,o1,n',LJ,hr,hi,hv,IW,hf,hm=>by lia
 |f+1,i,gs,r,m,o,o1,n',LJ,hr,hi,hv,IW,hf,hm=>by
  obtain⟨a1,_,a3⟩:=i7 hr rfl hv (by lia)
  have tl:(bi (rd.take i)).length=i:=by rw[iW,Tv];lia
  obtain⟨c1,c2,c3⟩:=a3 (.dict []) (.tuple (bi rd)) m (bi (rd.take i)) o o1 T (by lia) (by rw[tl];lia);rw[tl] at c3;generalize hS:Ml r gs=S at a1 c1 c2 c3
  cases a1 with
  |@md v Gr=>
   rw[i8 AZ];exact⟨_,c1 v rfl,IW,.md Gr⟩
  |@fl x hx=>
   rw[i8 A1];exact⟨_,c2 x rfl,IW,.fl hx⟩
  |@ask b x r' n2 hp hx hg wq Ef=>
   obtain⟨d1,d2⟩:=c3 b x r' rfl
   cases b with
   |true=>
    rw[hW ik (by intro v;simp)];exact⟨_,d1 _ zps,IW,.st hx (.inl rfl)⟩
   |false=>
    cases hq:rd[i]? with
    |none=>
     have hle:rd.length<=i:=Ux.mp hq;rw[hW ik (by intro v;simp[hq])];exact⟨_,d1 _ (zpt hle),IW,.wt hx (by lia)⟩
    |some q=>
     obtain⟨y,v⟩:=q;have IV:i<rd.length:=(Rh.mp hq).1
     by_cases hy:y=x
     .subst hy
      have EL:ay v=KN:=hrd (y,v) (Rw hq);obtain⟨m',o',o2,l,go⟩:=d2 v EL (zpq hq EL)
      have tk:bi (rd.take i)++cx Lf y (L0 v)=bi (rd.take (i+1)):=by
       rw[Y1,hq];simp[bi,cx]
      rw[tk] at go;rw[qy ik (by simpa using hq)];rw[go];exact xZ hrd hl hn T f (i+1) (gs++[v]) r' m' o' o2 n2 (by lia) (by simpa using Ef) (by simp[hi]) (wD hv EL) IV (by lia) (by lia)
     .rw[hW ik (by intro u;simp[hq];intro z;exact absurd z hy)]
      exact⟨_,d1 _ (zpr hq hy),IW,.st hx (.inr IV)⟩
def BN(hrd:Ia rd)(hl:rd.length<=12)(hn:n<=20)(hr:Rg p 0 n r)(T:Tp):∃E,gY [.d r,.d (.dict []),.d (.tuple (bi rd))] T=Iv (.tuple [.list (bi (rd.take (cQ rd [] r).2)),E],T)/\(cQ rd [] r).2<=rd.length/\LZ (cQ rd [] r).2 rd.length (cQ rd [] r).1 E:=by
 obtain⟨E,e,h⟩:=xZ   hrd hl hn T 13 0 [] r 100000 LG LG n (Rn _) hr rfl (λv hv=>by simp_all) (Sj _) (by lia) (by lia);refine⟨E,?_,h⟩;rw[show cQ rd [] r=cJ rd [] 13 0 0 [] _ from rfl,←e,xf];kernel_rfl
def eq2(h1:RU a=KN)(h2:RU b=KN)(h3:RU c=KN)(h4:RU d=KN):Mr (.tuple [.str a,.str b]) (.tuple [.str c,.str d])=Iv (.bool (decide (a=c/\b=d))):=by
 have s1:∀{a b:Str},RU a=KN->RU b=KN->RE (.tuple [.str a,.str b])=KN:=λ{a b} h1 h2=>by
  unfold RE;simp[TC,Tq,h1,h2,Tt,Tr]
 unfold Mr
 simp_all
 by_cases q1:a=c <;> by_cases q2:b=d <;> simp[RR,S4,q1,q2]
def zpu(h1:RU a=KN)(h2:RU b=KN)(h3:RU c=KN):Mr (.tuple [.str a,.str b]) (.tuple [.str c,.int i])=Iv (.bool Lf):=by
 have s1:RE (.tuple [.str a,.str b])=KN:=by
  unfold RE;simp[TC,Tq,h1,h2,Tt,Tr]
 have s2:RE (.tuple [.str c,.int i])=KN:=by
  unfold RE;simp[TC,Tq,h3,Tt,Tr]
 unfold Mr;rw[if_pos ⟨s1,s2⟩];simp[RR,S4]
theorem comp_map{α:Type}{e:FE}{ρ:XE}{T:Tp}{a g:α->Ra}:∀{l:List α},(∀q∈l,e (Iv (.d (a q))::ρ) T=Iv (.d (g q),T))->bK bz e ρ (l.map a) T=Iv (l.map g,T)
 |[],_=>rfl
 |d::r,h=>by
  have ih:=comp_map  λx hx=>h x (Rc _ hx);have h0:=h d Rf
  unfold bK<;>simp_all
def kG{α:Type}(l:List α)(b:α->Bool):dS [.list (l.map λq=>.bool (b q))]=Iv (.bool (l.all b)) :=by simp
structure Ln where
 x:Str
 rd:PR
 e:Str
 f:Str
def Hr(l:Ln):PyData:=.tuple [.str l.e,.str l.f]
def JJ(l:Ln):PyData:=.tuple [.str l.x,.tuple (bi l.rd),Hr l]
structure JE(l:Ln):Prop where
 nm:isName (.str l.x)=KN
 ok:Ia l.rd
 rn:∀q∈l.rd,isName (.str q.1)=KN
 len:l.rd.length<=12
 ed:(l.e=Rb "made"/\∃v,ay v=KN/\l.f=mk (cst 4 v))\/((l.e=Rb "fails"\/l.e=Rb "wants")/\isName (.str l.f)=KN)
theorem By:HN (JJ l) (.int 0)=Iv (.str l.x):=rfl
theorem Jf:HN (JJ l) (.int 1)=Iv (.tuple (bi l.rd)):=rfl
theorem ln2:HN (JJ l) (.int 2)=Iv (Hr l):=rfl
theorem Kn:HN (Hr l) (.int 0)=Iv (.str l.e):=rfl
theorem Ir:HN (Hr l) (.int 1)=Iv (.str l.f):=rfl
theorem CL:bo .tup .tup=KN:=rfl
theorem ikl:bo .lst .lst=KN:=rfl
theorem iks:bo .str .str=KN:=rfl
def uE(h:isName (.str x)=KN)(T:Tp):fU [.d (.str x)] T=Iv (.bool KN,T):=by rw[yM T (j9 (name_val h)),h]
def zpv(h:ay v=KN):isNone v=Lf:=by cases v <;> first|rfl|cases h
def xH(h:ay v=KN)(T:Tp):lO [.d (L0 v)] T=Iv (.bool KN,T):=by
 have lb:=mW T h;simp[lO,L0,lb,mP,zpv h]
def zpw(o:JE l)(T:Tp):lS [.d (JJ l)] T=Iv (.bool KN,T):=by
 have c:=comp_map (e:=ak lR (ab (aa 0) ah)) (ρ:=[Iv (.d (.tuple (bi l.rd)))]) (T:=T) (a:=λq:Str×Ra=>.tuple [.str q.1,L0 q.2]) (g:=λ_=>.bool KN) (l:=l.rd) λq hq=>by
  have a:=uE (o.rn q hq) T;have b:=xH (o.ok q hq) T;simp[lR,a,b,CL]
 have al:=kG l.rd λ_=>KN
 have e1:l.rd.all (λ_=>KN)=KN:=by simp
 rw[e1] at al
 have ln':¬(12:Int)<((bi l.rd).length:Int):=by rw[iW];have:=o.len;lia
 have BG:¬12<(bi l.rd).length:=by rw[iW];have:=o.len;lia
 have c':bK bz (ak lR (ab (aa 0) ah)) [Iv (.d (.tuple (bi l.rd)))] (bi l.rd) T=Iv (l.rd.map λ_=>.bool KN,T):=c
 have r:oq [.d (.tuple (bi l.rd))] T=Iv (.bool KN,T):=by
  simp[oq,c',al,CL,ln',BG]
 have e:l8 [.d (Hr l)] T=Iv (.bool KN,T):=by
  unfold Hr
  rcases o.ed with⟨h1,v,hv,h2⟩|⟨h1,h2⟩
  .have s:=xH hv T
   rw[h1,h2];simp[L0] at s;simp[l8,CL,iks,s]
  .have s:=uE h2 T
   have i1:inD (.str "fails") (.tuple [.str "fails",.str "wants"])=Iv (.bool KN):=rfl;have i2:inD (.str "wants") (.tuple [.str "fails",.str "wants"])=Iv (.bool KN):=rfl
   rcases h1 with h1|h1 <;> rw[h1] <;> simp[l8,CL,iks,s,i1,i2]
 have a:=uE o.nm T;have ll:aR [JJ l]=Iv (.int 3):=rfl;have lk:bo (kd (JJ l)) .tup=KN:=rfl;generalize hD:JJ l=D0 at ll lk
 have h0:HN D0 (.int 0)=Iv (.str l.x):=by rw[←hD];rfl
 have h1:HN D0 (.int 1)=Iv (.tuple (bi l.rd)):=by rw[←hD];rfl
 have h2:HN D0 (.int 2)=Iv (Hr l):=by rw[←hD];rfl
 simp[lS,ll,lk,h0,h1,h2,a,r,e]
def JE.okE(o:JE l):RU l.e=KN/\RU l.f=KN/\¬l.e=Rb "strays"/\¬l.e=Rb "peeks":=by
 rcases o.ed with⟨h1,v,hv,h2⟩|⟨h1|h1,h2⟩
 .rw[h1,h2];exact⟨by decide +kernel,ir hv,by decide +kernel,by decide +kernel⟩
 .rw[h1];exact⟨by decide +kernel,fw h2,by decide +kernel,by decide +kernel⟩
 .rw[h1];exact⟨by decide +kernel,fw h2,by decide +kernel,by decide +kernel⟩
def zpx(h:Ia rd)(ρ:XE)(T:Tp):bK bz (ax .tuple (ab (af HN (aa 0) (fC (.int 0))) (ab (ak iP (ab (af HN (aa 0) (fC (.int 1))) ah)) ah))) ρ (bi rd) T=Iv (PL rd,T):=
 comp_map λq hq=>by
  have lb:=mW T (h q hq);simp[L0,lb]
def Ends(R:Ra)(l:Ln):Prop:=(∃v,ay v=KN/\R=J1 v/\l.e=Rb "made"/\l.f=mk (cst 4 v))\/(R=J2 l.f/\l.e=Rb "fails")\/(R=bI Lf l.f/\l.e=Rb "wants")
def JM(r:Ra)(l:Ln):Prop:=(cQ l.rd [] r).2=l.rd.length/\Ends (cQ l.rd [] r).1 l
def uY:¬Rb "fails"=Rb "made":=by decide +kernel
def qR:¬Rb "wants"=Rb "made":=by decide +kernel
def zpy:¬Rb "wants"=Rb "fails":=by decide +kernel
def zpz(hr:Rg p 0 n r)(hn:n<=20)(o:JE l):∃b:Bool,(∀T,gA [.d r,.d (JJ l)] T=Iv (.bool b,T))/\(b=KN↔JM r l):=by
 have nil:Ia []:=λq hq=>by simp_all
 have rp:=λT=>zpp (rd:=l.rd) (pk:=[]) T (hr.up hn) o.ok nil;obtain⟨eo,hf,ns,np⟩:=o.okE
 have sk:RU "strays"=KN:=by decide +kernel
 have pk:RU "peeks"=KN:=by decide +kernel
 have mk':RU "made"=KN:=by decide +kernel
 have fk:RU "fails"=KN:=by decide +kernel
 have wk:RU "wants"=KN:=by decide +kernel
 have cp:=λρ T=>zpx o.ok ρ T;have pn:PL []=[]:=rfl;rw[pn] at rp;obtain⟨E0,_,hk,rel⟩:=BN o.ok o.len hn hr [];unfold JM
 by_cases IV:(cQ l.rd [] r).2<l.rd.length
 .refine⟨Lf,λT=>?_,⟨λz=>(by cases z),λz=>(by lia)⟩⟩
  have rp:=λT=>rp T;unfold qV at rp;simp only[if_pos IV] at rp
  have q1:¬Rb "strays"=Rb "made":=by decide +kernel
  simp[gA,iR,Jf,ln2,Hr,cp,rp,q1,zpu eo hf sk]
 .have KI:(cQ l.rd [] r).2=l.rd.length:=by lia
  have rp:=λT=>rp T;unfold qV at rp;simp only[if_neg IV] at rp;have mdf:∀(v:Ra) (x:Str),¬J1 v=J2 x:=λv x=>fD
  have mds:∀(v:Ra) (x:Str),¬J1 v=bI Lf x:=λv x z=>by simp[J1,bI] at z
  have fls:∀(v x:Str),¬J2 v=bI Lf x:=λv x z=>by simp[J2,bI] at z
  generalize (cQ l.rd [] r).1=R at rel rp
  cases rel with
  |@md v hv=>
   refine⟨decide (l.e=Rb "made"/\l.f=mk (cst 4 v)),λT=>?_,?_⟩
   .have sv:=λT=>qd T hv
    simp[gA,iR,Jf,ln2,Hr,cp,rp,J1,sv,eq2 eo hf mk' (ir hv)]
   .rw[decide_eq_true_iff]
    refine⟨λz=>⟨KI,.inl ⟨v,hv,rfl,z⟩⟩,λz=>?_⟩
    rcases z.2 with⟨u,hu,h1,h2⟩|⟨h1,_⟩|⟨h1,_⟩
    .have:v=u:=by simpa[J1] using h1
     rw[this];exact h2
    .exact absurd h1 (mdf _ _)
    .exact absurd h1 (mds _ _)
  |@fl x hx=>
   refine⟨decide (l.e=Rb "fails"/\l.f=x),λT=>?_,?_⟩
   .simp[gA,iR,Jf,ln2,Hr,cp,rp,J2,uY,eq2 eo hf fk (fw hx)]
   .rw[decide_eq_true_iff]
    refine⟨λz=>⟨KI,.inr (.inl ⟨by rw[z.2],z.1⟩)⟩,λz=>?_⟩
    rcases z.2 with⟨u,hu,h1,h2⟩|⟨h1,h2⟩|⟨h1,_⟩
    .exact absurd h1.symm (mdf _ _)
    .exact⟨h2,by simp[J2] at h1;exact h1.symm⟩
    .exact absurd h1 (fls _ _)
  |@wt x hx _=>
   refine⟨decide (l.e=Rb "wants"/\l.f=x),λT=>?_,?_⟩
   .simp[gA,iR,Jf,ln2,Hr,cp,rp,bI,qR,eq2 eo hf wk (fw hx)]
   .rw[decide_eq_true_iff]
    refine⟨λz=>⟨KI,.inr (.inr ⟨by rw[z.2],z.1⟩)⟩,λz=>?_⟩
    rcases z.2 with⟨u,hu,h1,h2⟩|⟨h1,h2⟩|⟨h1,h2⟩
    .exact absurd h1.symm (mds _ _)
    .exact absurd h1.symm (fls _ _)
    .exact⟨h2,by simp[bI] at h1;exact h1.symm⟩
  |@st b x hx hb=>
   have hb:b=KN:=hb.resolve_right λz=>by lia
   subst hb;refine⟨Lf,λT=>?_,⟨λz=>(by cases z),λz=>?_⟩⟩
   .have q2:=eq2 eo hf pk (fw hx)
    rw[decide_eq_false λz=>np z.1] at q2;simp[gA,iR,Jf,ln2,Hr,cp,rp,bI,q2]
   .rcases z.2 with⟨u,hu,h1,h2⟩|⟨h1,h2⟩|⟨h1,h2⟩
    .simp[J1,bI] at h1
    .simp[J2,bI] at h1
    .simp[bI] at h1
def pb(P:Prop):Bool:=@decide P (Sz P)
def Hq:pb P=KN↔P:=@decide_eq_true_iff P (Sz P)
def m5(h:b=KN↔P):b=pb P:=by rw[Sl,h,Hq]
def gq(h:P):pb P=KN:=Hq.mpr h
def fG(h:¬P):pb P=Lf:=by
 cases e:pb P with
 |false=>rfl
 |true=>exact absurd (Hq.mp e) h
def uC{α:Type}{l:List α}{P:α->Prop}:l.all (λa=>pb (P a))=pb (∀a∈l,P a):=m5 (by rw[Rq];exact⟨λh a ha=>Hq.mp (h a ha),λh a ha=>gq (h a ha)⟩)
def bD(ls:List Ln):List Str:=ls.map (·.x)
structure KR(R0:Dc)(ls:List Ln):Prop where
 ok:∀l∈ls,JE l
 nd:(bD ls).Nodup
 mem:∀l∈ls,∃r,aj R0 l.x=Iv r
 len:ls.length<=60
def dv(v:Ra):PyData:=.tuple [.str "made",L0 v]
def A0(D0:Dc):Str->Option PyData:=λy=>(aj D0 y).map dv
def Lj(A:Str->Option Ra)(l:Ln):Str->Option PyData:=λy=>if l.x=y then Iv (Hr l) else A y
def Mt:(Str->Option Ra)->List Ln->Prop
 |_,[]=>True
 |A,l::r=>(∀q∈l.rd,A q.1=Iv (dv q.2))/\Mt (Lj A l) r
def Em(D0 R0:Dc)(ls:List Ln)(l:Ln):Prop:=l.e=Rb "wants"->(∀k∈ls,k.x=l.f->¬k.e=Rb "made")/\(l.f∉bD ls->aj D0 l.f=LG/\aj R0 l.f=LG)
structure LB(D0 R0:Dc)(ls:List Ln):Prop where
 rt:∀l∈ls,JM ((aj R0 l.x).getD .none) l
 sh:Mt (A0 D0) ls
 es:∀l∈ls,Em D0 R0 ls l
def LH(A:Str->Option Ra):Prop:=∀y d,A y=Iv d->∃a b:Str,d=.tuple [.str a,.str b]/\RU a=KN/\RU b=KN
def LH.up(h:LH A)(o:JE l):LH (Lj A l):=λy d e=>by
 unfold Lj at e;split at e
 .cases e
  exact⟨_,_,rfl,o.okE.1,o.okE.2.1⟩
 .exact h y d e
def eqA(h:LH A)(y:Str)(hv:ay v=KN):Mr ((A y).getD .none) (.tuple [.str "made",L0 v])=Iv (.bool (pb (A y=Iv (dv v)))):=by
 have mk':RU "made"=KN:=by decide +kernel
 cases e:A y with
 |none=>
  have:RE (.tuple [.str "made",L0 v])=KN:=by
   unfold RE;simp[TC,Tq,L0,mk',ir hv,Tt,Tr]
  rw[fG (by simp)];show (if _ then Iv _ else _)=_;rw[if_pos ⟨rfl,this⟩];rfl
 |some d=>
  obtain⟨a,b,rfl,h1,h2⟩:=h y d e;show Mr (.tuple [.str a,.str b]) (.tuple [.str _,.str _])=_;rw[eq2 h1 h2 mk' (ir hv)]
  congr 2
  refine m5 ?_;simp[dv,L0]
section
variable {p:Bool}{n:Nat}{D0 R0:Dc}
noncomputable def KP(b P:Ra)(A:Dc)(o3 o4 o5:Option D.W):XE:=[Iv (.d b),Iv (.d P),Iv (.loc (.dict A)),o3,o4,o5]
theorem zR{b P:Ra}{o3 o4:Option D.W}{T:Tp}:∀(ls:List Ln) (Ad:Dc) (A:Str->Option Ra) (o5:Option D.W),(∀y,aj Ad y=A y)->LH A->(∀l∈ls,JE l)->Ad.length+ls.length<=900 ->
  ∃ρ',forL 5 iJ (ls.map JJ) (KP b P Ad o3 o4 o5) T=Iv ((if pb (Mt A ls)=KN then .nx else .rt (.bool Lf),ρ'),T)
 |[],Ad,A,o5,_,_,_,_=>⟨_,by rw[gq (show Mt A [] from trivial)];rfl⟩
 |l::ls,Ad,A,o5,hA,hO,ok,hl=>by
  rw[Se] at hl;have o:=ok l Rf
  have c:=comp_map (e:=af Mr (qN (aa 3) (af HN (aa 0) (fC (.int 0)))) (ax .tuple (ab (fC (.str "made")) (ab (af HN (aa 0) (fC (.int 1))) ah)))) (ρ:=KP b P Ad o3 o4 (Iv (.d (JJ l)))) (T:=T) (a:=λq:Str×Ra=>.tuple [.str q.1,L0 q.2]) (g:=λq=>.bool (pb (A q.1=Iv (dv q.2)))) (l:=l.rd) λq hq=>by
   have eq:=eqA hO q.1 (o.ok q hq);have gt:qN (aa 3) (af HN (aa 0) (fC (.int 0))) (Iv (.d (.tuple [.str q.1,L0 q.2]))::KP b P Ad o3 o4 (Iv (.d (JJ l)))) T=Iv (.d ((aj Ad q.1).getD .none),T):=rfl;simp only[KM,gt,cG];simp[hA,eq]
  have al:=kG l.rd λq=>pb (A q.1=Iv (dv q.2));rw[uC] at al;have c':bK bz _ (KP b P Ad o3 o4 (Iv (.d (JJ l)))) (bi l.rd) T=Iv _:=c
  have zl:Ad.length<=1000:=by lia
  show ∃ρ',forL 5 iJ (JJ l::ls.map JJ) _ _=_
  by_cases hc:∀q∈l.rd,A q.1=Iv (dv q.2)
  .rw[gq hc] at al
   have bd:iJ ((KP b P Ad o3 o4 o5).set 5 (Iv (.d (JJ l)))) T=Iv ((.nx,KP b P (putN Ad l.x (Hr l)) o3 o4 (Iv (.d (JJ l)))),T):=by
    unfold KP at c' ⊢;unfold iJ;simp[By,Jf,ln2,c',al,zl]
   have pl:=jY (G:=Ad) (x:=l.x) (v:=Hr l);obtain⟨ρ',e⟩:=zR (b:=b) (P:=P) (o3:=o3) (o4:=o4) (T:=T) ls (putN Ad l.x (Hr l)) (Lj A l) (Iv (.d (JJ l))) (λy=>by rw[dE,hA];rfl) (hO.up o) (λk hk=>ok k (Rc _ hk)) (by lia);refine⟨ρ',?_⟩;rw[ff bd,e];have:pb (Mt (Lj A l) ls)=pb (Mt A (l::ls)):=m5 (by rw[Hq];exact⟨λh=>⟨hc,h⟩,λh=>h.2⟩);rw[this]
  .rw[fG hc] at al
   have bd:iJ ((KP b P Ad o3 o4 o5).set 5 (Iv (.d (JJ l)))) T=Iv ((.rt (.bool Lf),KP b P Ad o3 o4 (Iv (.d (JJ l)))),T):=by
    unfold KP at c' ⊢;unfold iJ;simp[Jf,c',al]
   refine⟨KP b P Ad o3 o4 (Iv (.d (JJ l))),?_⟩;rw[fG λh=>hc h.1];unfold forL;rw[bd];rfl
theorem zP{b P:Ra}{T:Tp}:∀(ds:Dc) (Ad:Dc) (o3 o4:Option D.W),(∀q∈ds,∃x v,q=(RF x,v)/\ay v=KN)->(ds.map (·.1)).Nodup->Ad.length+ds.length<=900 ->
  ∃Hg p3 p4,fL 3 4 n6 ds (KP b P Ad o3 o4 LG) T=Iv ((.nx,KP b P Hg p3 p4 LG),T)/\Hg.length<=Ad.length+ds.length/\∀y,aj Hg y=match aj ds y with
   |some v=>Iv (dv v)
   |none=>aj Ad y
 |[],Ad,o3,o4,_,_,_=>⟨Ad,o3,o4,rfl,by simp,λy=>rfl⟩
 |q::ds,Ad,o3,o4,hd,nd,hl=>by
  obtain⟨x,v,rfl,hv⟩:=hd q Rf;rw[Se] at hl;rw[R7,RJ] at nd
  have zl:Ad.length<=1000:=by lia
  have pl:=jY (G:=Ad) (x:=x) (v:=dv v);have sv:=qd T hv
  have bd:n6 (((KP b P Ad o3 o4 LG).set 3 (Iv (.d (.str x)))).set 4 (Iv (.d v))) T=Iv ((.nx,KP b P (putN Ad x (dv v)) (Iv (.d (.str x))) (Iv (.d v)) LG),T):=by
   unfold KP;unfold n6;simp[sv,zl,dv,L0]
  obtain⟨Hg,p3,p4,e,Ka,hk⟩:=zP (b:=b) (P:=P) (T:=T) ds (putN Ad x (dv v)) (Iv (.d (.str x))) (Iv (.d v)) (λq hq=>hd q (Rc _ hq)) nd.2 (by lia);refine⟨Hg,p3,p4,by rw[zx bd,e],by rw[Se];lia,λy=>?_⟩;rw[hk]
  by_cases z:x=y
  .subst z
   have:aj ds x=LG:=sI nd.1;rw[this];simp[dE,aj]
  .have e1:aj ((RF x,v)::ds) y=aj ds y:=by simp[aj,z]
   rw[e1]
   cases aj ds y with
   |some u=>rfl
   |none=>simp[dE,z]
def zqa(B:Bk p n D0 R0)(dnd:(D0.map (·.1)).Nodup)(h:KR R0 ls)(hd:D0.length<=500)(T:Tp):n9 [.d (J4 D0 R0),.d (.list (ls.map JJ))] T=Iv (.bool (pb (Mt (A0 D0) ls)),T):=by
 have mk':RU "made"=KN:=by decide +kernel
 obtain⟨Ad,p3,p4,e1,vP,hk⟩:=zP  (P:=.list (ls.map JJ))  D0 [] LG LG (λq hq=>by
  obtain⟨x,v,e,hv⟩:=B.dk q hq
  exact⟨x,v,e,hv⟩) dnd (by grind)
 have hA:∀y,aj Ad y=A0 D0 y:=λy=>by
  rw[hk];unfold A0
  cases aj D0 y <;> rfl
 have len:=h.len
 obtain⟨ρ',e2⟩:=zR (b:=J4 D0 R0) (P:=.list (ls.map JJ)) (o3:=p3) (o4:=p4) (T:=T) ls Ad _ LG hA (λy d e=>by
  unfold A0 at e
  cases IB:aj D0 y with
  |none=>simp_all
  |some v=>
   rw[IB] at e;cases e
   exact⟨_,_,rfl,mk',ir (B.gv y v IB)⟩) h.ok (by grind)
 rw[n9];unfold KP at e1 e2;generalize ls.map JJ=P at *;have f1:kW 3 4 (af HN (aa 0) (fC (.int 0))) _ [Iv (.d (J4 D0 R0)),Iv _,Iv _,LG,LG,LG] T=Iv _:=e1
 cases hb:pb _ <;>simp_all
theorem yY{P:Ra}{T:Tp}:∀(ls:List Ln) (Ed:Dc) (o:Option D.W),(bD ls).Nodup->Ed.length+ls.length<=900 ->
  ∃Jj o',forL 2 oi (ls.map JJ) [Iv (.d P),Iv (.loc (.dict Ed)),o] T=Iv ((.nx,[Iv (.d P),Iv (.loc (.dict Jj)),o']),T)/\(∀l∈ls,aj Jj l.x=Iv (Hr l))/\∀y,y∉bD ls->aj Jj y=aj Ed y
 |[],Ed,o,_,_=>⟨Ed,o,rfl,by simp,λ_ _=>rfl⟩
 |l::ls,Ed,o,nd,hl=>by
  rw[Se] at hl;have Dk:=RJ.mp nd
  have zl:Ed.length<=1000:=by omega
  have pl:=jY (G:=Ed) (x:=l.x) (v:=Hr l);obtain⟨Jj,o',e,h1,h2⟩:=yY   ls (putN Ed l.x (Hr l)) _ Dk.2 (by omega);refine⟨Jj,o',?_,λk hk=>?_,λy hy=>?_⟩
  .have st:oi (Y0 [Iv (.d P),Iv (.loc (.dict Ed)),o] 2 (Iv (.d (JJ l)))) T=Iv ((.nx,[Iv (.d P),Iv (.loc (.dict (putN Ed l.x (Hr l)))),Iv (.d (JJ l))]),T):=by
    simp[oi,By,ln2,zl]
   exact(ff st).trans e
  .rcases Ru.mp hk with rfl|z
   .rw[h2 _ Dk.1,dE,if_pos rfl]
   .exact h1 k z
  .have El:¬l.x=y/\y∉bD ls:=⟨λz=>hy (by rw[←z];exact Rf),λz=>hy (Rc _ z)⟩
   rw[h2 y El.2,dE,if_neg El.1]
def zqb(nd:(bD ls).Nodup)(hl:ls.length<=900)(T:Tp):∃Ed,ot [.d (.list (ls.map JJ))] T=Iv (.dict Ed,T)/\(∀l∈ls,aj Ed l.x=Iv (Hr l))/\∀y,y∉bD ls->aj Ed y=LG:=by
 obtain⟨Ed,o,e,h1,h2⟩:=yY (P:=.list (ls.map JJ)) (T:=T) ls [] LG nd (by simp_all);refine⟨Ed,?_,h1,λy hy=>by rw[h2 y hy];rfl⟩;rw[ot];simp[e]
def yI(x:Str)(T:Tp):iT [.d (J4 D0 R0),.d (.str x)] T=Iv (.str (if (aj D0 x).isSome then Rb "told" else if (aj R0 x).isSome then Rb "made" else Rb "lacks"),T):=by
 have i0:HN (J4 D0 R0) (.int 0)=Iv _:=rfl;have i1:HN (J4 D0 R0) (.int 1)=Iv _:=rfl
 cases h0:aj D0 x <;> cases h1:aj R0 x <;> simp[iT,i0,i1,h0,h1]
def zqc(h1:∀l∈ls,aj Ed l.x=Iv (Hr l))(h2:∀y,y∉bD ls->aj Ed y=LG)(nd:(bD ls).Nodup)(l:Ln)(T:Tp):fN [.d (J4 D0 R0),.d (.dict Ed),.d (Hr l)] T=Iv (.bool (pb (Em D0 R0 ls l)),T):=by
 unfold Em
 by_cases hw:l.e=Rb "wants"
 .by_cases hm:l.f∈bD ls
  .obtain⟨k,hk,hx⟩:=Rl.mp hm
   have ke:aj Ed l.f=Iv (Hr k):=by rw[←hx];exact h1 k hk
   have y4:∀k'∈ls,k'.x=l.f->aj Ed l.f=Iv (Hr k'):=λk' IB e=>by rw[←e];exact h1 k' IB
   by_cases hq:k.e=Rb "made"
   .rw[fG λz=>(z hw).1 k hk hx hq]
    simp[fN,Kn,Ir,hw,ke,hq]
   .rw[gq λ_=>⟨λk' IB e z=>hq (by
     have:=y4 k' IB e;rw[ke] at this;simp[Hr] at this
     rw[this.1];exact z),λz=>absurd hm z⟩]
    simp[fN,Kn,Ir,hw,ke,hq]
  .have ke:=h2 l.f hm
   have so:=yI (D0:=D0) (R0:=R0) l.f T
   have e1:¬Rb "told"=Rb "lacks":=by decide +kernel
   have e2:¬Rb "made"=Rb "lacks":=by decide +kernel
   have no:∀k∈ls,k.x=l.f->¬k.e=Rb "made":=λk hk e=>absurd (Rl.mpr ⟨k,hk,e⟩) hm
   cases h0:aj D0 l.f with
   |some v=>
    rw[h0] at so;rw[fG λz=>by have:=((z hw).2 hm).1;cases this];simp at so;simp[fN,Kn,Ir,hw,ke,so,e1]
   |none=>
    rw[h0] at so
    cases h3:aj R0 l.f with
    |some v=>
     rw[h3] at so;rw[fG λz=>by have:=((z hw).2 hm).2;cases this];simp at so;simp[fN,Kn,Ir,hw,ke,so,e2]
    |none=>
     rw[h3] at so;rw[gq λ_=>⟨no,λ_=>⟨rfl,rfl⟩⟩];simp at so;simp[fN,Kn,Ir,hw,ke,so]
 .rw[gq λz=>absurd z hw]
  simp[fN,Kn,hw]
def zqd(h:l.Nodup):(dd l).length=l.length:=by
 have a:=qp _ l (kY l) λx hx=>HD.mp hx;have b:=qp l _ h λx hx=>HD.mpr hx
 lia
def zqe(h:l.length<1000):kN (.list (LW l))=Iv (.int (dd l).length):=by
 have s:dP (LW l)=Iv l:=by have:=jN (λx=>x) l;simpa[LW] using this
 unfold kN<;>simp_all
def yL(B:Bk p n D0 R0)(dnd:(D0.map (·.1)).Nodup)(h:KR R0 ls)(hd:D0.length<=500)(T:Tp):fT [.d (J4 D0 R0),.d (.list (ls.map JJ))] T=Iv (.bool (pb (LB D0 R0 ls)),T):=by
 have len:=h.len
 have nml:∀ρ,bK bz (af HN (aa 0) (fC (.int 0))) ρ (ls.map JJ) T=Iv (LW (bD ls),T):=λρ=>by
  rw[comp_map (g:=λl:Ln=>.str l.x) λl _=>rfl];simp[LW,bD]
 have pp:ou [.d (.list (ls.map JJ))] T=Iv (.bool KN,T):=by
  have c:=comp_map (e:=ak lS (ab (aa 0) ah)) (ρ:=[Iv (.d (.list (ls.map JJ)))]) (T:=T) (a:=JJ) (g:=λ_=>.bool KN) (l:=ls) λl hl=>by
   have:=zpw (h.ok l hl) T;simp[this]
  have z:((ls.map JJ).length:Int)<=100:=by rw[R4];lia
  have z2:(ls.map JJ).length<=100:=by rw[R4];lia
  have al:=kG ls λ_=>KN;rw[show ls.all (λ_=>KN)=KN by simp] at al;generalize ls.map JJ=P at *;simp[ou,c,al,ikl,z,z2]
 have ob:og [.d (J4 D0 R0),.d (.list (ls.map JJ))] T=Iv (.bool KN,T):=by
  have c:=comp_map (e:=af CP (ak iT (ab (aa 1) (ab (aa 0) ah))) (fC (.str "made"))) (ρ:=[Iv (.d (J4 D0 R0)),Iv (.d (.list (ls.map JJ))),Iv (.d (.list (LW (bD ls))))]) (T:=T) (a:=RF) (g:=λ_=>.bool KN) (l:=bD ls) λx hx=>by
   obtain⟨l,hl,rfl⟩:=Rl.mp hx;obtain⟨r,hr⟩:=h.mem l hl;have so:=yI (D0:=D0) (R0:=R0) l.x T;rw[hr,(B.rg hr).2] at so;simp at so;simp[so]
  have c':bK bz (af CP (ak iT (ab (aa 1) (ab (aa 0) ah))) (fC (.str "made"))) [Iv (.d (J4 D0 R0)),Iv (.d (.list (ls.map JJ))),Iv (.d (.list (LW (bD ls))))] (LW (bD ls)) T=Iv ((bD ls).map λ_=>.bool KN,T):=c;have al:=kG (bD ls) λ_=>KN;rw[show (bD ls).all (λ_=>KN)=KN by simp] at al
  have ll:(bD ls).length=ls.length:=by simp[bD]
  have s:=zqe (l:=bD ls) (by lia);have d:=zqd h.nd;simp[og,nml,s,c',al,d,e9]
 have c:=comp_map (e:=ak gA (ab (af Dz (af HN (aa 1) (fC (.int 1))) (af HN (aa 0) (fC (.int 0)))) (ab (aa 0) ah))) (ρ:=[Iv (.d (J4 D0 R0)),Iv (.d (.list (ls.map JJ))),LG]) (T:=T) (a:=JJ) (g:=λl=>.bool (pb (JM ((aj R0 l.x).getD .none) l))) (l:=ls) λl hl=>by
  obtain⟨r,hr⟩:=h.mem l hl;obtain⟨b,e,hb⟩:=zpz (B.rg hr).1 B.n20 (h.ok l hl);have i1:HN (J4 D0 R0) (.int 1)=Iv (.dict R0):=rfl;rw[hr,Wh,←m5 hb];simp[i1,By,hr,e]
 have al:=kG ls λl=>pb (JM ((aj R0 l.x).getD .none) l);rw[uC] at al;obtain⟨Ed,e1,h1,h2⟩:=zqb h.nd (by lia) T;have rs:=zqa B dnd h hd T
 have ce:=comp_map (e:=ak fN (ab (aa 1) (ab (aa 3) (ab (af HN (aa 0) (fC (.int 2))) ah)))) (ρ:=[Iv (.d (J4 D0 R0)),Iv (.d (.list (ls.map JJ))),Iv (.d (.dict Ed))]) (T:=T) (a:=JJ) (g:=λl=>.bool (pb (Em D0 R0 ls l))) (l:=ls) λl hl=>by
  have:=zqc (D0:=D0) (R0:=R0) h1 h2 h.nd l T;simp[ln2,this]
 have ae:=kG ls λl=>pb (Em D0 R0 ls l);rw[uC] at ae
 by_cases q1:∀l∈ls,JM ((aj R0 l.x).getD .none) l
 .rw[gq q1] at al
  by_cases q2:Mt (A0 D0) ls
  .rw[gq q2] at rs
   have:pb (LB D0 R0 ls)=pb (∀l∈ls,Em D0 R0 ls l):=m5 (by rw[Hq];exact⟨λz=>z.es,λz=>⟨q1,q2,z⟩⟩);rw[this];generalize ls.map JJ=P at *;simp[fT,pp,ob,c,al,e1,rs,ce,ae]
  .rw[fG q2] at rs
   rw[fG λz=>q2 z.sh];generalize ls.map JJ=P at *;simp[fT,pp,ob,c,al,e1,rs]
 .rw[fG q1] at al
  rw[fG λz=>q1 z.rt];generalize ls.map JJ=P at *;simp[fT,pp,ob,c,al]
end
def Ah(hv:ay v=KN)(hu:ay u=KN)(e:mk (cst 4 v)=mk (cst 4 u)):v=u:=by
 have h1:=mW [] hv
 rw[e,mW [] hu] at h1<;>simp_all
def zQ(h:Du b x r=Du c y r'):b=c/\x=y/\r=r':=by cases b <;> cases c <;> simp[Du] at h <;> simp[h]
def qD:¬J1 v=Du b x r:=λh=>by cases b <;> simp[J1,Du] at h
def zqf:¬J2 y=Du b x r:=λh=>by cases b <;> simp[J2,Du] at h
def zqg(a b:PR):PL (a++b)=PL a++PL b:=by simp[PL]
section
variable {p:Bool}{n:Nat}{D0 R0 G:Dc}
theorem y8(hn:n<=20)(hrd:Ia rd):∀(f i:Nat) (s:LY),Gv p n s->s.rd=PL (rd.take i)->i<=rd.length->13<=s.gs.length+f ->
  (cJ rd [] f i 0 s.gs s.S).2=rd.length->(∀x,¬(cJ rd [] f i 0 s.gs s.S).1=bI KN x) ->
  ∃s',Gv p n s'/\s'.rd=PL rd/\((cP s'.S=LG/\(cJ rd [] f i 0 s.gs s.S).1=s'.S)\/∃x r',s'.S=Du Lf x r'/\(cJ rd [] f i 0 s.gs s.S).1=bI Lf x) /\
   ∀Γ,GV Γ->(∀q∈rd,aj Γ q.1=LG\/aj Γ q.1=Iv q.2)->run Γ s=run Γ s'\/∃q∈rd,aj Γ q.1=LG/\∃b x r',(run Γ s).S=Du b x r'
 |0,i,s,o,_,_,hf,_,_=>by have:=o.le;lia
 |f+1,i,s,o,hs,hi,hf,h2,hp=>by
  have full:i=rd.length->s.rd=PL rd:=λe=>by simp_all
  rcases dw o.st with⟨v,e,_⟩|⟨x,e,_⟩|⟨b,x,r,e,_⟩
  .have a:cP s.S=LG:=by rw[e];simp
   rw[i8 a] at h2 ⊢;exact⟨s,o,full h2,.inl ⟨a,rfl⟩,λ_ _ _=>.inl rfl⟩
  .have a:cP s.S=LG:=by rw[e];simp
   rw[i8 a] at h2 ⊢;exact⟨s,o,full h2,.inl ⟨a,rfl⟩,λ_ _ _=>.inl rfl⟩
  .have a:cP s.S=Iv (b,x,r):=by rw[e];simp
   cases b with
   |true=>
    rw[hW a (by intro v;simp)] at hp;exact absurd rfl (hp x)
   |false=>
    cases hq:rd[i]? with
    |none=>
     rw[hW a (by intro v;simp[hq])] at h2 ⊢;exact⟨s,o,full h2,.inr ⟨x,r,e,rfl⟩,λ_ _ _=>.inl rfl⟩
    |some q=>
     obtain⟨y,v⟩:=q;have IV:i<rd.length:=(Rh.mp hq).1
     by_cases hy:y=x
     .subst hy
      have EL:ay v=KN:=hrd (y,v) (Rw hq);obtain⟨hl,o2⟩:=o.next e hn EL;rw[qy a (by simpa using hq)] at h2 hp ⊢
      obtain⟨s',o',h3,h4,h5⟩:=y8 hn hrd f (i+1) ⟨s.gs++[v],s.rd++cx Lf y v,Ml r (s.gs++[v])⟩ o2 (by
       show s.rd++cx Lf y v=_;rw[hs,Y1,hq,zqg]
       rfl) IV (by simp;lia) h2 hp
      refine⟨s',o',h3,h4,λΓ hG hg=>?_⟩
      rcases hg (y,v) (Rw hq) with z|z
      .exact .inr ⟨_,Rw hq,z,Lf,y,r,by rw[jP e z];exact e⟩
      .rw[eP e hl z]
       exact h5 Γ hG hg
     .rw[hW a (by intro u;simp[hq];intro z;exact absurd z hy)] at h2
      have:i=rd.length:=h2
      lia
def sU(B:Bk p n D0 R0)(o:JE l)(hr:aj R0 l.x=Iv r)(h:JM r l) :
  ∃s',Gv p n s'/\s'.rd=PL l.rd/\dJ s'.S=Hr l/\((∃v,ay v=KN/\s'.S=J1 v/\l.e=Rb "made"/\l.f=mk (cst 4 v))\/(s'.S=J2 l.f/\l.e=Rb "fails")\/∃r',s'.S=Du Lf l.f r'/\l.e=Rb "wants") /\
   ∀Γ,GV Γ->(∀q∈l.rd,aj Γ q.1=LG\/aj Γ q.1=Iv q.2)->run Γ (s0 r)=run Γ s'\/∃q∈l.rd,aj Γ q.1=LG/\∃b x r',(run Γ (s0 r)).S=Du b x r':=by
 obtain⟨h1,h2⟩:=h
 have np:∀x,¬(cQ l.rd [] r).1=bI KN x:=λx z=>by
  rw[z] at h2
  rcases h2 with⟨u,hu,h1,h2⟩|⟨h1,h2⟩|⟨h1,h2⟩
  .simp[J1,bI] at h1
  .simp[J2,bI] at h1
  .simp[bI] at h1
 obtain⟨s',o',h3,h4,h5⟩:=y8 (p:=p) (n:=n) (rd:=l.rd) B.n20 o.ok 13 0 (s0 r) (cZ (B.rg hr).1 B.n20) rfl (Sj _) (by simp) h1 np;have h4':(cP s'.S=LG/\(cQ l.rd [] r).1=s'.S)\/∃x r',s'.S=Du Lf x r'/\(cQ l.rd [] r).1=bI Lf x:=h4
 have key:(∃v,ay v=KN/\s'.S=J1 v/\l.e=Rb "made"/\l.f=mk (cst 4 v))\/(s'.S=J2 l.f/\l.e=Rb "fails")\/∃r',s'.S=Du Lf l.f r'/\l.e=Rb "wants":=by
  rcases h4' with⟨ha,e⟩|⟨x,r',e,e2⟩
  .rw[e] at h2
   rcases h2 with z|z|⟨z,_⟩
   .exact .inl z
   .exact .inr (.inl z)
   .exfalso
    rcases dw o'.st with⟨v,e3,_⟩|⟨x,e3,_⟩|⟨b,x,r',e3,_⟩
    .rw[e3] at z;simp[J1,bI] at z
    .rw[e3] at z;simp[J2,bI] at z
    .rw[e3] at ha;simp at ha
  .rw[e2] at h2
   rcases h2 with⟨u,hu,z,_⟩|⟨z,_⟩|⟨z,z2⟩
   .simp[J1,bI] at z
   .simp[J2,bI] at z
   .have:x=l.f:=by simp[bI] at z;exact z
    rw[this] at e;exact .inr (.inr ⟨r',e,z2⟩)
 refine⟨s',o',h3,?_,key,h5⟩
 rcases key with⟨v,hv,e,e1,e2⟩|⟨e,e1⟩|⟨r',e,e1⟩
 .rw[e,j5];simp[Hr,e1,e2,L0]
 .rw[e,i3];simp[Hr,e1,J2]
 .rw[e,i4];simp[Hr,e1,bt]
def all_some{l:Ln}{b:Bool}{x:Str}{r' S:Ra}{Γ:Dc}(h:∀q∈l.rd,aj Γ q.1=Iv q.2)(z:∃q∈l.rd,aj Γ q.1=LG/\∃b x r',S=Du b x r'):False:=by
 obtain⟨q,hq,e,_⟩:=z;rw[h q hq] at e;cases e
theorem vX(a:Al p n D0 R0 G):∀(ls:List Ln) (A:Str->Option Ra),(∀y v,ay v=KN->A y=Iv (dv v)->aj G y=Iv v)->(∀l∈ls,JE l/\∃r,aj R0 l.x=Iv r/\JM r l)->Mt A ls->∀l∈ls,∀q∈l.rd,aj G q.1=Iv q.2
 |[],A,_,_,_,l,hl=>by simp_all
 |k::ls,A,hA,ok,hs,l,hl=>by
  obtain⟨o,r,hr,hg⟩:=ok k Rf;have hk:=λq hq=>hA q.1 q.2 (o.ok q hq) (hs.1 q hq)
  rcases Ru.mp hl with rfl|z
  .exact hk
  .refine vX a ls _ (λy v hv e=>?_) (λl hl=>ok l (Rc _ hl)) hs.2 l z
   unfold Lj at e;split at e
   .rename_i hx
    subst hx;obtain⟨s',o',h3,h4,h5,h6⟩:=sU a.B o hr hg
    have e':=by
     simp[Hr,dv,L0] at e<;>omega
    rcases h5 with⟨u,hu,e1,e2,e3⟩|⟨_,e2⟩|⟨_,_,e2⟩
    .have:=Ah hu hv (by rw[←e3,e'.2])
     subst this
     rcases h6 G a.gv (λq hq=>.inr (hk q hq)) with w|w
     .exact a.hc k.x r u hr (by rw[w,jQ e1];exact e1)
     .exact(all_some (b:=KN) (x:=k.x) (r':=r) hk w).elim
    .rw[e'.1] at e2;exact absurd e2.symm uY
    .rw[e'.1] at e2;exact absurd e2.symm qR
   .exact hA y v hv e
def zqh(a:Al p n D0 R0 G)(h:KR R0 ls)(hb:LB D0 R0 ls)(hk:∀l∈ls,∀q∈l.rd,aj G q.1=Iv q.2)(d:C2 D0 R0 x v):∀l∈ls,l.x=x->l.e=Rb "made":=by
 induction d with
 |told hd=>
  intro l hl e;obtain⟨r,hr⟩:=h.mem l hl;have:=(a.B.rg hr).2;rw[e,hd] at this;cases this
 |made hr Ls HA hS ih=>
  rename_i x v r Γ;intro l hl e;subst e;have hg:=hb.rt l hl;rw[hr] at hg;obtain⟨s',o',h3,h4,h5,h6⟩:=sU a.B (h.ok l hl) hr hg
  rcases h5 with⟨u,hu,e1,e2,e3⟩|⟨e1,e2⟩|⟨r',e1,e2⟩
  .exact e2
  .exfalso
   rcases h6 Γ Ls (λq hq=>by
    cases z:aj Γ q.1 with
    |none=>exact .inl rfl
    |some u=>
     have:=kE a.B a.hd a.hs a.hc (HA _ _ z)
     rw[hk l hl q hq] at this<;>simp_all) with w|⟨_,_,_,b,y,r',w⟩
   .rw[w,jX (by rw[e1];simp),e1] at hS
    exact absurd hS.symm fD
   .rw[hS] at w;exact absurd w qD
  .exfalso
   rcases h6 Γ Ls (λq hq=>by
    cases z:aj Γ q.1 with
    |none=>exact .inl rfl
    |some u=>
     have:=kE a.B a.hd a.hs a.hc (HA _ _ z);rw[hk l hl q hq] at this
     exact .inr (by rw[SA this])) with w|⟨_,_,_,b,y,r',w⟩
   .cases z:aj Γ l.f with
    |none=>
     rw[w,jP e1 z,e1] at hS;exact absurd hS.symm qD
    |some u=>
     obtain⟨q1,q2⟩:=hb.es l hl e2
     by_cases hm:l.f∈bD ls
     .obtain⟨k,IB,e4⟩:=Rl.mp hm
      exact q1 k IB e4 (ih _ _ z k IB e4)
     .obtain⟨n1,n2⟩:=q2 hm
      have:=HA _ _ z
      cases this with
      |told t=>rw[n1] at t;cases t
      |made t=>rw[n2] at t;cases t
   .rw[hS] at w;exact absurd w qD
def zqi(a:Al p n D0 R0 G)(h:KR R0 ls)(hb:LB D0 R0 ls):ls.map JJ=LR R0 G (bD ls)/\Cl R0 G (bD ls):=by
 have ok:∀l∈ls,JE l/\∃r,aj R0 l.x=Iv r/\JM r l:=λl hl=>by
  obtain⟨r,hr⟩:=h.mem l hl;have:=hb.rt l hl;rw[hr] at this;exact⟨h.ok l hl,r,hr,this⟩
 have hk:=vX a ls (A0 D0) (λy v hv e=>by
  unfold A0 at e
  cases z:aj D0 y with
  |none=>simp_all
  |some u=>
   rw[z] at e
   have:mk (cst 4 u)=mk (cst 4 v):=by simp[dv,L0] at e;exact e
   rw[←Ah (a.B.gv y u z) hv this]
   exact a.hd y u z) ok hb.sh
 have one:∀l∈ls,JJ l=L3 R0 G l.x:=λl hl=>by
  obtain⟨o,r,hr,hg⟩:=ok l hl;obtain⟨s',o',h3,h4,h5,h6⟩:=sU a.B o hr hg
  have e:run G (s0 r)=s':=by
   rcases h6 G a.gv (λq hq=>.inr (hk l hl q hq)) with w|w
   .rw[w]
    rcases h5 with⟨u,hu,e1,e2,e3⟩|⟨e1,e2⟩|⟨r',e1,e2⟩
    .exact jQ e1
    .exact jX (by rw[e1];simp)
    .refine jP e1 ?_
     cases z:aj G l.f with
     |none=>rfl
     |some u=>
      exfalso;have d:=a.hs _ _ z;obtain⟨q1,q2⟩:=hb.es l hl e2
      by_cases hm:l.f∈bD ls
      .obtain⟨k,IB,e4⟩:=Rl.mp hm
       exact q1 k IB e4 (zqh a h hb hk d k IB e4)
      .obtain⟨n1,n2⟩:=q2 hm
       cases d with
       |told t=>rw[n1] at t;cases t
       |made t=>rw[n2] at t;cases t
   .exact(all_some (b:=KN) (x:=l.x) (r':=r) (hk l hl) w).elim
  have e2:(PL l.rd).map IE=bi l.rd:=by
   unfold PL bi;rw[Sk];rfl
  show _=ln l.x (En R0 G l.x);rw[eB hr,e];unfold ln JJ;rw[h3,h4,e2]
 refine⟨?_,⟨?_,λx hx=>?_,λx hx b y r' r2 e hy=>?_⟩⟩
 .unfold LR bD
  rw[Sk];exact RV λl hl=>one l hl
 .have:=h.len;simpa[bD] using this
 .obtain⟨l,hl,rfl⟩:=Rl.mp hx
  exact h.mem l hl
 .obtain⟨l,hl,rfl⟩:=Rl.mp hx
  have e1:=one l hl
  have e2:Hr l=bt "wants" (.str y):=by
   have:HN (JJ l) (.int 2)=HN (L3 R0 G l.x) (.int 2):=by rw[e1]
   have e3:HN (L3 R0 G l.x) (.int 2)=Iv (dJ (En R0 G l.x).S):=rfl;rw[e3,e,i4,ln2] at this;exact SA this
  have e4:l.e=Rb "wants"/\l.f=y:=by simp[Hr,bt] at e2;exact e2
  by_cases hm:y∈bD ls
  .exact hm
  .have:=((hb.es l hl e4.1).2 (by rw[e4.2];exact hm)).2
   rw[e4.2,hy] at this;cases this
end
noncomputable def rdP:Ra->Str×Ra
 |.tuple [.str x,v]=>(x,v)
 |_=>(Rb "",.none)
noncomputable def M3:Ra->Str
 |.tuple [.str e,_]=>e
 |_=>Rb ""
noncomputable def M2:Ra->Str
 |.tuple [_,.str f]=>f
 |_=>Rb ""
def Mo(R0 G:Dc)(x:Str):Ln:=⟨x,(En R0 G x).rd.map rdP,M3 (dJ (En R0 G x).S),M2 (dJ (En R0 G x).S)⟩
def Mu(S:Ra):PyData:=match cP S with
 |none=>S
 |some (b,x,_)=>bI b x
def tm(h:Dv Lf g n S)(e:S=Du b x r):b=Lf:=by
 cases h with
 |md _=>exact absurd e qD
 |fl _=>exact absurd e zqf
 |@ask c y r' n2 hp _ _ _ _=>
  rw[←(zQ e).1]<;>simp_all
section
variable {p:Bool}{n:Nat}{D0 R0 G:Dc}
def zqj(hG:GV G)(hn:n<=20)(o:Gv Lf n s):∀(rd:PR) (i f:Nat),(run G s).rd=PL rd->i=s.rd.length->13<=s.gs.length+f->(∃t,(run G s).rd=s.rd++t)/\cJ rd [] f i 0 s.gs s.S=(Mu (run G s).S,rd.length):=by
 refine gE (p:=Lf) hG hn (λs s1=>∀(rd:PR) (i f:Nat),s1.rd=PL rd->i=s.rd.length->13<=s.gs.length+f->(∃t,s1.rd=s.rd++t)/\cJ rd [] f i 0 s.gs s.S=(Mu s1.S,rd.length)) (λs o st rd i f h1 h2 h3=>?_) (λs b x r v o e hk hl o2 ih rd i f h1 h2 h3=>?_) _ s o rfl
 .have le:=o.le
  obtain⟨f,rfl⟩:∃j,f=j+1:=⟨f-1,by lia⟩
  have hi:i=rd.length:=by rw[h2,h1];simp[PL]
  refine⟨⟨[],by simp⟩,?_⟩
  rcases st with z|⟨b,x,r,e,_⟩
  .rw[i8 z,hi]
   unfold Mu;rw[z]
  .have hb:=tm o.st e
   subst hb
   have a:cP s.S=Iv (Lf,x,r):=by rw[e];simp
   rw[hW a (by intro v;simp[hi]),hi];unfold Mu;rw[a]
 .have le:=o.le
  obtain⟨f,rfl⟩:∃j,f=j+1:=⟨f-1,by lia⟩;have hb:=tm o.st e;subst hb
  have a:cP s.S=Iv (Lf,x,r):=by rw[e];simp
  rw[eP e hl hk] at h1 ⊢;obtain⟨⟨t,ht⟩,x9⟩:=ih rd (i+1) f h1 (by simp[cx,h2]) (by simp;lia)
  have Dx:PL rd=s.rd++(Th [.str x,v]::t):=by
   rw[←h1,ht];simp[cx]
  have hq:rd[i]? = Iv (x,v):=by
   have h4:(PL rd)[i]? = Iv (.tuple [.str x,v]):=by simp_all
   unfold PL at h4<;>simp_all
  refine⟨⟨_,by rw[←Dx,h1]⟩,?_⟩;rw[qy a (by simpa using hq)];exact x9
def Aw(a:Al p n D0 R0 G)(hr:aj R0 x=Iv r):PL (Mo R0 G x).rd=(En R0 G x).rd:=by
 show ((En R0 G x).rd.map rdP).map _=_;rw[Sk]
 conv=>rhs;rw[←Z3 (En R0 G x).rd]
 refine RV λd hd=>?_;obtain⟨z,v,rfl,_⟩:=a.reads hr d hd;rfl
def Au(a:Al p n D0 R0 G)(hr:aj R0 x=Iv r):∀q∈(Mo R0 G x).rd,aj G q.1=Iv q.2/\q.1∈Jk (En R0 G x):=λq hq=>by
 obtain⟨d,hd,rfl⟩:=Rl.mp hq;obtain⟨z,v,rfl,h⟩:=a.reads hr d hd;exact⟨h,Rl.mpr ⟨_,hd,rfl⟩⟩
def mO(a:Al p n D0 R0 G)(hr:aj R0 x=Iv r):Hr (Mo R0 G x)=dJ (En R0 G x).S:=by
 unfold Mo Hr;dsimp only
 rcases dw (a.ok hr).1.st with⟨v,e,hv⟩|⟨y,e,hy⟩|⟨b,y,r',e,hy⟩
 .rw[e];rfl
 .rw[e];rfl
 .rw[e];rfl
def qq(a:Al p n D0 R0 G)(hr:aj R0 x=Iv r):JE (Mo R0 G x)/\JJ (Mo R0 G x)=L3 R0 G x:=by
 obtain⟨ok,_⟩:=a.ok hr;have hrd:=Au a hr;refine⟨⟨a.nR x r hr,λq hq=>a.gv _ _ (hrd q hq).1,λq hq=>a.key (hrd q hq).1,?_,?_⟩,?_⟩
 .have h1:=ok.rd
  have h2:=ok.le;simp[Mo]
  lia
 .unfold Mo
  dsimp only
  rcases dw ok.st with⟨v,e,hv⟩|⟨y,e,hy⟩|⟨b,y,r',e,hy⟩
  .rw[e];exact .inl ⟨rfl,v,hv,rfl⟩
  .rw[e];exact .inr ⟨.inl rfl,hy⟩
  .rw[e];exact .inr ⟨.inr rfl,hy⟩
 .show Th [.str x,.tuple _,Hr _]=ln x _
  unfold ln;rw[mO a hr,←Aw a hr];unfold PL bi;rw[Sk];rfl
def zqk(a:Al p n D0 R0 G)(h:∀y∈ys,∃r,aj R0 y=Iv r):(ys.map (Mo R0 G)).map JJ=LR R0 G ys:=by
 rw[Sk];refine RV λy hy=>?_;obtain⟨r,hr⟩:=h y hy;exact(qq a hr).2
def Av(a:Al p n D0 R0 G)(h:∀y∈ys,∃r,aj R0 y=Iv r)(nd:ys.Nodup):KR R0 (ys.map (Mo R0 G))/\bD (ys.map (Mo R0 G))=ys:=by
 have e:bD (ys.map (Mo R0 G))=ys:=by
  unfold bD;rw[Sk];exact(RV λ_ _=>rfl).trans (Z3 _)
 refine⟨⟨λl hl=>?_,by simp_all,λl hl=>?_,?_⟩,e⟩
 .obtain⟨y,hy,rfl⟩:=Rl.mp hl
  obtain⟨r,hr⟩:=h y hy;exact(qq a hr).1
 .obtain⟨y,hy,rfl⟩:=Rl.mp hl
  exact h y hy
 .have:=a.small nd h<;>grind
theorem yV(a:Al p n D0 R0 G):∀(ys zs:List Str) (A:Str->Option Ra),(∀y v,aj D0 y=Iv v->A y=Iv (dv v))->(∀z∈zs,∀v,aj G z=Iv v->A z=Iv (dv v))->LQ D0 R0 G zs ys->(∀y∈ys,∃r,aj R0 y=Iv r)->Mt A (ys.map (Mo R0 G))
 |[],zs,A,_,_,_,_=>trivial
 |y::ys,zs,A,h1,h2,o,hy=>by
  obtain⟨r,hr⟩:=hy y Rf
  have up:∀v,aj G y=Iv v->Hr _=dv v:=λv hv=>by
   rw[mO a hr,eB hr];obtain⟨_,_,_,_,e⟩:=yn a.B a.hd a.hs a.hc hr hv;rw[e];rfl
  refine⟨λq hq=>?_,yV a ys _ _ (λu v hu=>?_) (λz hz v hv=>?_) o.2 λz hz=>hy z (Rc _ hz)⟩
  .obtain⟨hg,hm⟩:=Au a hr q hq
   rcases Ry.mp (o.1 q.1 hm) with z|z
   .exact h2 q.1 z q.2 hg
   .obtain⟨u,hu⟩:=(a.mD q.1).mp z
    have:=a.hd _ _ hu<;>simp_all
  .unfold Lj
   rw[if_neg (λz=>by
    have z:y=u:=z
    have:=(a.B.rg hr).2<;>simp_all)]
   exact h1 u v hu
  .unfold Lj
   split
   .rename_i e
    have e:y=z:=e;rw[up v (by simp_all)]
   .rename_i e
    rcases Ry.mp hz with w|w
    .exact h2 z w v hv
    .exact absurd (RD.mp w).symm e
def zql(a:Al Lf n D0 R0 G)(od:LQ D0 R0 G [] ys)(nd:ys.Nodup)(EX:∀x,x∈ys↔∃r,aj R0 x=Iv r):LB D0 R0 (ys.map (Mo R0 G)):=by
 have hy:∀y∈ys,∃r,aj R0 y=Iv r:=λy h=>(EX y).mp h;refine⟨λl hl=>?_,yV a ys [] _ (λy v h=>by unfold A0;rw[h];rfl) (by simp) od hy,λl hl hw=>?_⟩
 .obtain⟨y,El,rfl⟩:=Rl.mp hl
  obtain⟨r,hr⟩:=hy y El;show JM ((aj R0 y).getD .none) _;rw[hr,Wh];have pl:=Aw a hr;rw[eB hr] at pl;obtain⟨_,h2⟩:=zqj a.gv a.B.n20 (cZ (a.B.rg hr).1 a.B.n20) (Mo R0 G y).rd 0 13 pl.symm rfl (by simp);have h3:cQ (Mo R0 G y).rd [] r=(Mu (run G (s0 r)).S,(Mo R0 G y).rd.length):=h2;unfold JM;rw[h3];refine⟨rfl,?_⟩;have ok:=a.ok hr;rw[eB hr] at ok;have ed:=mO a hr;rw[eB hr] at ed
  rcases dw ok.1.st with⟨v,e,hv⟩|⟨z,e,hz⟩|⟨b,z,r',e,hz⟩
  .rw[e,j5] at ed
   rw[e];simp[Hr,L0] at ed;exact .inl ⟨v,hv,by simp[Mu],ed⟩
  .rw[e,i3] at ed
   rw[e];simp[Hr,J2] at ed;exact .inr (.inl ⟨by rw[ed.2];simp[Mu],ed.1⟩)
  .rw[e,i4] at ed
   have hb:=tm ok.1.st e;subst hb;rw[e];simp[Hr,bt] at ed;exact .inr (.inr ⟨by rw[ed.2];kernel_rfl,ed.1⟩)
 .obtain⟨y,El,rfl⟩:=Rl.mp hl
  obtain⟨r,hr⟩:=hy y El;have ok:=a.ok hr;have ed:=mO a hr
  have nm:aj G (Mo R0 G y).f=LG:=by
   rcases dw ok.1.st with⟨v,e,hv⟩|⟨z,e,hz⟩|⟨b,z,r',e,hz⟩
   .rw[e,j5] at ed
    simp[Hr] at ed;rw[ed.1] at hw;exact absurd hw.symm qR
   .rw[e,i3] at ed
    simp[Hr,J2] at ed;rw[ed.1] at hw;exact absurd hw.symm zpy
   .rw[e,i4] at ed
    simp[Hr,bt] at ed;rw[ed.2]
    rcases ok.2 with w|⟨b2,y2,r2,w,hk⟩
    .rw[e] at w;simp at w
    .rw[e] at w
     rw[(zQ w).2.1];exact hk
  refine⟨λk hk e z=>?_,λh=>⟨?_,?_⟩⟩
  .obtain⟨u,hu,rfl⟩:=Rl.mp hk
   obtain⟨r2,Ef⟩:=hy u hu;have ER:=a.ok Ef;have Ji:=mO a Ef;have e:u=(Mo R0 G y).f:=e
   rcases dw ER.1.st with⟨v,e3,hv⟩|⟨w,e3,_⟩|⟨b,w,r',e3,_⟩
   .have:=a.hc u r2 v Ef (by rw[←eB Ef];exact e3)
    rw[e,nm] at this;cases this
   .rw[e3,i3] at Ji
    simp[Hr,J2] at Ji;rw[Ji.1] at z;exact absurd z uY
   .rw[e3,i4] at Ji
    simp[Hr,bt] at Ji;rw[Ji.1] at z;exact absurd z qR
  .cases z:aj D0 (Mo R0 G y).f with
   |none=>rfl
   |some u=>have:=a.hd _ _ z;rw[nm] at this;cases this
  .cases z:aj R0 (Mo R0 G y).f with
   |none=>rfl
   |some u=>
    rw[(Av a hy nd).2] at h;exact absurd ((EX _).mpr ⟨u,z⟩) h
end
def tH{i:Nat}{b:FS}{d:Ra}{r:List Ra}{ρ ρ':XE}{T T':Tp}(h:b (ρ.set i (Iv (.d d))) T=Iv ((.nx,ρ'),T')):forL i b (d::r) ρ T=forL i b r ρ' T':=by
 show G5 _ _=_;rw[h];rfl
def mz(h:b (ρ.set i (Iv (.d d))) T=Iv ((.rt x,ρ'),T')):forL i b (d::r) ρ T=Iv ((.rt x,ρ'),T'):=by
 show G5 _ _=_;rw[h];rfl
theorem zqm:Rb "0"=mk (cst 4 (.int 0)) :=rfl
theorem zqn:ay (.int 0)=KN :=rfl
def Ey(A:Tp)(D0 R0:Dc)(x:Str)(l:List Str)(rd:PR)(o5 o6:Option D.W):XE:=[Iv (.tp A.length),Iv (.d (J4 D0 R0)),Iv (.d (.str x)),Iv (.d (.list (LW l))),Iv (.loc (.list (bi rd))),o5,o6]
section
variable {p:Bool}{n:Nat}{D0 R0 G:Dc}
theorem Ap(B:Bk p n D0 R0){x:Str}{r:Ra}(hx:isName (.str x)=KN)(hr:aj R0 x=Iv r){l:List Str}{m:Nat}(hn:Dw l m)(hm:0<m){A:Tp}:∀(c k:Nat) (rd:PR) (T:Tp) (o5 o6:Option D.W),k+(c+1)=5->Ia rd->(∀q∈rd,isName (.str q.1)=KN)->rd.length<=k->bF A T ->
  ∃q T' ρ',forL 5 gw ((W3 k (c+1)).map λ(i:Nat)=>TB (i:Int)) (Ey A D0 R0 x l rd o5 o6) T=Iv ((.rt (JJ q),ρ'),T')/\bF A T'/\JE q/\q.x=x
 |c,k,rd,T,o5,o6,hk,ok,rn,hl,t=>by
  obtain⟨E,er,_,rel⟩:=BN ok (by lia) B.n20 (B.rg hr).1 T;have i1:HN (J4 D0 R0) (.int 1)=Iv (.dict R0):=rfl;have tu:b6 [.list (bi rd)]=Iv (.tuple (bi rd)):=rfl;rw[Wk,R7];have lo:∀e f,((e=Rb "made"/\∃v,ay v=KN/\f=mk (cst 4 v))\/((e=Rb "fails"\/e=Rb "wants")/\isName (.str f)=KN))->JE ⟨x,rd,e,f⟩:=λe f h=>⟨hx,ok,rn,by show rd.length<=12;lia,h⟩
  have s1:¬Rb "made"=Rb "wants":=by decide +kernel
  have s2:¬Rb "fails"=Rb "wants":=by decide +kernel
  have s3:¬Rb "strays"=Rb "wants":=by decide +kernel
  have s4:¬Rb "made"=Rb "strays":=by decide +kernel
  have s5:¬Rb "fails"=Rb "strays":=by decide +kernel
  have s6:¬Rb "wants"=Rb "strays":=by decide +kernel
  generalize (cQ rd [] r).1=R at rel
  cases rel with
  |@md v hv=>
   refine⟨⟨x,rd,Rb "made",mk (cst 4 v)⟩,T,Ey A D0 R0 x l rd (Iv (.d (.int (k:Int)))) (Iv (.d (bt "made" (L0 v)))),mz ?_,t,lo _ _ (.inl ⟨rfl,v,hv,rfl⟩),rfl⟩;simp[gw,Ey,i1,hr,tu,er,bt,s1,s4,D.intD,JJ,Hr,L0]
  |@fl y hy=>
   refine⟨⟨x,rd,Rb "fails",y⟩,T,Ey A D0 R0 x l rd (Iv (.d (.int (k:Int)))) (Iv (.d (bt "fails" (.str y)))),mz ?_,t,lo _ _ (.inr ⟨.inl rfl,hy⟩),rfl⟩;simp[gw,Ey,i1,hr,tu,er,bt,s2,s5,D.intD,JJ,Hr]
  |@st b y hy hb=>
   refine⟨⟨x,rd,Rb "made",Rb "0"⟩,T,Ey A D0 R0 x l rd (Iv (.d (.int (k:Int)))) (Iv (.d (bt "strays" (.str y)))),mz ?_,t,lo _ _ (.inl ⟨rfl,_,zqn,zqm⟩),rfl⟩;simp[gw,Ey,i1,hr,tu,er,bt,s3,D.intD,JJ,Hr]
  |@wt y hy _=>
   cases c with
   |zero=>
    have Do:(k:Int)=4:=by lia
    refine⟨⟨x,rd,Rb "wants",y⟩,T,Ey A D0 R0 x l rd (Iv (.d (.int (k:Int)))) (Iv (.d (bt "wants" (.str y)))),mz ?_,t,lo _ _ (.inr ⟨.inr rfl,hy⟩),rfl⟩;simp[gw,Ey,i1,hr,tu,er,bt,s6,D.intD,JJ,Hr,Do]
   |succ c=>
    have Do:¬(k:Int)=4:=by lia
    obtain⟨w,T1,e1,t1,w0,w1⟩:=bQ (m:=5) t (by decide)
    by_cases hw:w=0
    .refine⟨⟨x,rd,Rb "wants",y⟩,T1,Ey A D0 R0 x l rd (Iv (.d (.int (k:Int)))) (Iv (.d (bt "wants" (.str y)))),mz ?_,t1,lo _ _ (.inr ⟨.inr rfl,hy⟩),rfl⟩
     simp[gw,Ey,i1,hr,tu,er,bt,s6,D.intD,JJ,Hr,Do,e1,hw]
    .obtain⟨v,T2,e2,t2,hv⟩:=uV hn hm (n:=1) (by decide) t1
     have KL:dh 25 [.tp A.length,.d (.list (LW l)),.d (.int 1)] T1=Iv (v,T2):=e2;have ls:=mx T2 hv;have l2:(bi rd).length<sizeLine:=R5 (show (bi rd).length<=1000 by rw[iW];lia) (by decide)
     obtain⟨q,T',ρ',e3,t3,h3⟩:=Ap B hx hr hn hm (A:=A) c (k+1) (rd++[(y,v)]) T2 (Iv (.d (.int (k:Int)))) (Iv (.d (bt "wants" (.str y)))) (by lia) (λq hq=>by
      rcases Ry.mp hq with z|z
      .exact ok q z
      .rw[RD.mp z];exact hv) (λq hq=>by
      rcases Ry.mp hq with z|z
      .exact rn q z
      .rw[RD.mp z];exact hy) (by simp;lia) t2
     refine⟨q,T',ρ',?_,t3,h3⟩
     have ap:bi (rd++[(y,v)])=bi rd++[.tuple [.str y,L0 v]]:=by simp[bi]
     rw[tH (ρ':=Ey A D0 R0 x l (rd++[(y,v)]) (Iv (.d (.int (k:Int)))) (Iv (.d (bt "wants" (.str y))))) (T':=T2)]
     .exact e3
     .simp only[Ey]
      rw[ap];simp[gw,i1,hr,tu,er,bt,s6,Do,e1,hw,KL,ls,L0,l2]
def zqo(B:Bk p n D0 R0)(hx:isName (.str x)=KN)(hr:aj R0 x=Iv r)(hn:Dw l m)(hm:0<m)(t:bF A T):∃q T',ly [.tp A.length,.d (J4 D0 R0),.d (.str x),.d (.list (LW l))] T=Iv (JJ q,T')/\bF A T'/\JE q/\q.x=x:=by
 obtain⟨q,T',ρ',e,t',h⟩:=Ap B hx hr hn hm  4 0 [] T LG LG rfl (λq hq=>by simp_all) (λq hq=>by simp_all) (Sj _) t;refine⟨q,T',?_,t',h⟩
 have e':forL 5 gw (cN 0 5) [Iv (.tp A.length),Iv (.d (J4 D0 R0)),Iv (.d (.str x)),Iv (.d (.list (LW l))),Iv (.loc (.list [])),LG,LG] T=Iv ((.rt (JJ q),ρ'),T'):=by
  exact e
 have hr:=iS (j:=5) (by lia) (by lia)
 rw[ly]<;>simp_all
end
theorem zqp:qK i f g ρ T=G5 (f ρ T) λw1 T1=>G5 (g ρ T1) λw2 T2=>qx i ρ (view T2 w1) (view T2 w2) T2:=rfl
theorem zqq:qx i ρ (Iv (.list xs)) (Iv (.list ys)) T=if xs.length+ys.length<=Rp then Iv ((.nx,ρ.set i (Iv (.loc (.list (xs++ys))))),T) else LG:=rfl
def zqr(h:l.length<64):mX [.list (LW l)]=Iv (.list (LW (dq l))):=by
 have e:dP (LW l)=Iv l:=by
  have:=jN (λx=>x) l;simpa[LW] using this
 show jj _=_;rw[e];show (if l.length<64 then _ else _)=_;rw[if_pos h];rfl
def hU(h:f ρ T=Iv ((.nx,ρ'),T')):ai f g ρ T=g ρ' T' :=by simp_all
def zqs(o:JE l):ST 3 (JJ l):=by
 refine .t λd hd=>?_;simp at hd
 rcases hd with rfl|rfl|rfl
 .exact .s (fw o.nm)
 .refine .t λd hd=>?_
  obtain⟨q,hq,rfl⟩:=Rl.mp hd;refine .t λd hd=>?_;simp at hd
  rcases hd with rfl|rfl
  .exact .s (fw (o.rn q hq))
  .exact .s (ir (o.ok q hq))
 .refine .t λd hd=>?_
  simp at hd
  rcases hd with rfl|rfl
  .exact .s o.okE.1
  .exact .s o.okE.2.1
def ne_nil{ls:List Ln}(h:∀l∈ls,JE l):Ec (.list (ls.map JJ)) (.list [])=Iv (.bool (!ls.isEmpty)):=by
 have h1:∀d∈ls.map JJ,ST 3 d:=λd hd=>by
  obtain⟨l,hl,rfl⟩:=Rl.mp hd;exact zqs (h l hl)
 have h2:=pN (n:=3) (l:=[]) (by simp) (by decide);unfold Ec;rw[if_pos ⟨pN h1 (by decide),h2⟩]
 cases ls <;> simp[RR,S4]
def D8(A:Tp)(D0 R0 G:Dc)(P:Ra)(ls:List Ln)(l:List Str)(w:Int)(o7 o8 o9:Option D.W):XE:=[Iv (.tp A.length),Iv (.d (J4 D0 R0)),Iv (.d (.dict G)),Iv (.d P),Iv (.loc (.list (ls.map JJ))),Iv (.d (.list (LW l))),Iv (.d (.int w)),o7,o8,o9]
section
variable {p:Bool}{n:Nat}{D0 R0 G:Dc}
theorem uw(a:Al p n D0 R0 G){P:Ra}{l:List Str}{m:Nat}{w:Int}(hn:Dw l m)(hl:∀y∈kn R0,y∈l){A:Tp}{o9:Option D.W}:∀(ys:List Str) (ls:List Ln) (T:Tp) (o7 o8:Option D.W),(∀y∈ys,∃r,aj R0 y=Iv r)->ls.length+ys.length<=900->bF A T ->
  ∃IZ T' p7 p8,forL 7 lP (LR R0 G ys) (D8 A D0 R0 G P ls l w o7 o8 o9) T=Iv ((.nx,D8 A D0 R0 G P (ls++IZ) l w p7 p8 o9),T')/\bF A T'/\(∀l∈IZ,JE l)/\(bD IZ).Sublist ys
 |[],ls,T,o7,o8,_,_,t=>⟨[],T,o7,o8,by rw[TH];rfl,t,by simp,by simp[bD]⟩
 |y::ys,ls,T,o7,o8,hy,JW,t=>by
  rw[Se] at JW;obtain⟨r,hr⟩:=hy y Rf
  have hm:0<m:=by
   have:=hl y ((a.mR y).mpr ⟨r,hr⟩);rw[←hn.len];exact List.length_pos_of_mem this
  obtain⟨v,T1,e1,t1,v0,v1⟩:=bQ (m:=12) t (by decide);have i0:HN (L3 R0 G y) (.int 0)=Iv (.str y):=rfl;have l2:(ls.map JJ).length<sizeLine:=R5 (show (ls.map JJ).length<=1000 by rw[R4];lia) (by decide)
  have one:∃q T2,bF A T2/\JE q/\q.x=y/\(EI (ao (af Eh (aa 8) (aa 6))) (aE 7 (ak ly (ab (aa 0) (ab (aa 1) (ab (af HN (aa 7) (fC (.int 0))) (ab (aa 5) ah)))))) aA) (D8 A D0 R0 G P ls l w (Iv (.d (L3 R0 G y))) (Iv (.d (.int v))) o9) T1=Iv ((.nx,D8 A D0 R0 G P ls l w (Iv (.d (JJ q))) (Iv (.d (.int v))) o9),T2):=by
   by_cases hw:v<w
   .obtain⟨q,T2,e2,t2,o,hq⟩:=zqo a.B (a.nR y r hr) hr hn hm t1
    refine⟨q,T2,t2,o,hq,?_⟩;simp[D8,hw,i0,e2]
   .obtain⟨o,e⟩:=qq a hr
    refine⟨Mo R0 G y,T1,t1,o,rfl,?_⟩;rw[e];simp[D8,hw]
  obtain⟨q,T2,t2,o,hq,e2⟩:=one
  have e0:(aE 8 (ak aZ (ab (aa 0) (ab (fC (.int 12)) ah)))) ((D8 A D0 R0 G P ls l w o7 o8 o9).set 7 (Iv (.d (L3 R0 G y)))) T=Iv ((.nx,D8 A D0 R0 G P ls l w (Iv (.d (L3 R0 G y))) (Iv (.d (.int v))) o9),T1):=by
   simp[D8,e1]
  by_cases h11:v=11
  .obtain⟨IZ,T',p7,p8,e,t',h1,h2⟩:=uw a (P:=P) (w:=w) hn hl (A:=A) (o9:=o9) ys ls T2 (Iv (.d (JJ q))) (Iv (.d (.int v))) (λz hz=>hy z (Rc _ hz)) (by lia) t2
   refine⟨IZ,T',p7,p8,?_,t',h1,h2.cons y⟩
   have bd:lP ((D8 A D0 R0 G P ls l w o7 o8 o9).set 7 (Iv (.d (L3 R0 G y)))) T=Iv ((.nx,D8 A D0 R0 G P ls l w (Iv (.d (JJ q))) (Iv (.d (.int v))) o9),T2):=by
    refine(hU e0).trans ((hU e2).trans ?_);simp[D8,h11]
   exact(tH bd).trans e
  .obtain⟨IZ,T',p7,p8,e,t',h1,h2⟩:=uw a (P:=P) (w:=w) hn hl (A:=A) (o9:=o9) ys (ls++[q]) T2 (Iv (.d (JJ q))) (Iv (.d (.int v))) (λz hz=>hy z (Rc _ hz)) (by simp;lia) t2
   refine⟨q::IZ,T',p7,p8,?_,t',λk hk=>?_,?_⟩
   .have bd:lP ((D8 A D0 R0 G P ls l w o7 o8 o9).set 7 (Iv (.d (L3 R0 G y)))) T=Iv ((.nx,D8 A D0 R0 G P (ls++[q]) l w (Iv (.d (JJ q))) (Iv (.d (.int v))) o9),T2):=by
     have ap:(ls++[q]).map JJ=ls.map JJ++[JJ q]:=by simp
     refine(hU e0).trans ((hU e2).trans ?_);unfold D8;rw[ap];simp[h11,l2,-R4]
    refine(tH bd).trans (e.trans ?_);rw[U3];rfl
   .rcases Ru.mp hk with rfl|z
    .exact o
    .exact h1 k z
   .show (q.x::bD IZ).Sublist _
    rw[hq];exact h2.cons₂ y
theorem xo{α β:Type}(f:α->β):∀(l:List α) (k:Nat),(l.map f).eraseIdx k=(l.eraseIdx k).map f
 |[],k=>by simp
 |a::r,0=>by simp
 |a::r,k+1=>by simp[xo f r k]
theorem wb{α:Type}:∀(l:List α) (k:Nat) (y:α),l[k]? = Iv y->(y::l.eraseIdx k).Perm l
 |[],k,y,h=>by simp at h
 |a::r,0,y,h=>by simp_all
 |a::r,k+1,y,h=>by
  have:=wb r k y (by simpa using h);exact(List.Perm.swap a y _).trans (this.cons a)
noncomputable def zqt(a:Al p n D0 R0 G)(dnd:(D0.map (·.1)).Nodup){ys:List Str}(hy:∀y∈ys,∃r,aj R0 y=Iv r)(nd:ys.Nodup){A T:Tp}(t:bF A T) :
  ∃ls T',jF [.tp A.length,.d (J4 D0 R0),.d (.dict G),.d (.list (LR R0 G ys))] T=Iv (.list (ls.map JJ),T')/\bF A T'/\KR R0 ls:=by
 have len:=a.len;have yl:=a.small nd hy
 have kd:(kn D0).length+(kn R0).length<=40:=by rw[km,km];exact len
 have i0:HN (J4 D0 R0) (.int 0)=Iv (.dict D0):=rfl;have i1:HN (J4 D0 R0) (.int 1)=Iv (.dict R0):=rfl
 have lk0:gf [.dict D0]=Iv (.list (LW (kn D0))):=by rw[←a.kD];rfl
 have lk1:gf [.dict R0]=Iv (.list (LW (kn R0))):=by rw[←a.kR];rfl
 have l1:(LW (kn D0)).length+(LW (kn R0)).length<=sizeLine:=cY (by rw[e9,e9];lia);have so:=zqr (l:=kn D0++kn R0) (by simp;lia);rw[←zg] at so;have pm:=gX (kn D0++kn R0)
 have kno:∀{ds:Dc},gh ds=LW (kn ds)->(ds.map (·.1)).Nodup->(kn ds).Nodup:=λ{ds} h1 h2=>by
  have h3:(LW (kn ds)).Nodup:=by rw[←h1];exact h2
  unfold LW at h3;rw[VF,XM] at h3;rw[VF];exact h3.imp λ{a b} z e=>z (congrArg RF e)
 have hn:Dw (dq (kn D0++kn R0)) (dq (kn D0++kn R0)).length:=⟨rfl,pm.nodup_iff.mpr (SM.mpr ⟨kno a.kD dnd,kno a.kR a.B.rnd,λx hx y hy e=>by
  obtain⟨v,hv⟩:=(a.mD x).mp hx;obtain⟨r,hr⟩:=(a.mR y).mp hy;have:=(a.B.rg hr).2;rw[←e,hv] at this
  cases this⟩),λx hx=>by
   rcases Ry.mp (pm.mem_iff.mp hx) with z|z
   .obtain⟨v,hv⟩:=(a.mD x).mp z
    exact a.nD x v hv
   .obtain⟨v,hv⟩:=(a.mR x).mp z
    exact a.nR x v hv⟩
 obtain⟨w,T1,e1,t1,w0,w1⟩:=bQ (m:=4) t (by decide);obtain⟨ls,T2,p7,p8,e2,t2,h1,h2⟩:=uw a (P:=.list (LR R0 G ys)) (w:=w) hn (λy hy=>pm.mem_iff.mpr (Ry.mpr (.inr hy))) (A:=A) (o9:=LG) ys [] T1 LG LG hy (by simp;lia) t1;rw[UF] at e2;generalize hL:dq (kn D0++kn R0)=l at e2 so
 have p0:KR R0 ls:=⟨h1,nd.sublist h2,λk hk=>hy k.x (h2.subset (Rl.mpr ⟨k,hk,rfl⟩)),by
  have:=h2.length_le;simp[bD] at this
  lia⟩
 have perm:∀{ks:List Ln},ks.Perm ls->KR R0 ks:=λ{ks} q=>⟨λk hk=>p0.ok k (q.mem_iff.mp hk),(q.map _).nodup_iff.mpr p0.nd,λk hk=>p0.mem k (q.mem_iff.mp hk),by rw[q.length_eq];exact p0.len⟩;have JW:=p0.len;obtain⟨w3,T3,e3,t3,_,_⟩:=bQ (m:=4) t2 (by decide)
 have one:∃ks T4 p9,ks.Perm ls/\bF A T4/\(EI (bv (ao (af CP (ak aZ (ab (aa 0) (ab (fC (.int 4)) ah))) (fC (.int 0)))) (ao (af Ec (aa 4) (ax .list ah)))) (ai (aE 9 (ak aZ (ab (aa 0) (ab (Et aR (ab (aa 4) ah)) ah)))) (qK 4 (Ig (aa 4) (fP (aa 9)) bE) (Ig (aa 4) bE (fP (aa 9))))) aA) (D8 A D0 R0 G (.list (LR R0 G ys)) ls l w p7 p8 LG) T2=Iv ((.nx,D8 A D0 R0 G (.list (LR R0 G ys)) ks l w p7 p8 p9),T4):=by
  by_cases c:w3=0/\ls≠[]
  .have z:ls.isEmpty=Lf:=by cases hq:ls with
    |nil=>exact absurd hq c.2
    |cons _ _=>rfl
   have nn:=ne_nil h1;rw[z] at nn;have lp:0<ls.length:=Xf.mpr c.2;obtain⟨k,T4,e4,t4,k0,k1⟩:=bQ (m:=(ls.length:Int)) t3 (by lia);obtain⟨k,rfl⟩:∃q:Nat,k=(q:Int):=⟨k.toNat,by lia⟩;refine⟨ls.drop k++ls.take k,T4,Iv (.d (.int (k:Int))),List.perm_append_comm.trans (by rw[WO]),t4,?_⟩;have l3:(ls.map JJ).length=ls.length:=R4 _;have sz:((ls.map JJ).drop k).length+((ls.map JJ).take k).length<=sizeLine:=cY (by simp;lia)
   have md:(ls.drop k++ls.take k).map JJ=(ls.map JJ).drop k++(ls.map JJ).take k:=by simp[V0,Vf]
   unfold D8;rw[md];simp[e3,c.1,nn,e4,zqp,zqq,yB,uA,sz,-Tc,-Tv,-V0,-Vf]
  .refine⟨ls,T3,LG,.refl _,t3,?_⟩
   by_cases c1:w3=0
   .have:ls=[]:=VL λz=>c ⟨c1,z⟩
    subst this;have nn:=ne_nil (ls:=[]) (by simp);simp at nn;simp[D8,e3,c1,nn]
   .simp[D8,e3,c1]
 obtain⟨ks,T4,p9,q1,t4,e4⟩:=one;have o4:=perm q1;obtain⟨w5,T5,e5,t5,_,_⟩:=bQ (m:=4) t4 (by decide)
 have two:∃js T6,js.Perm ls/\bF A T6/\(EI (bv (ao (af CP (ak aZ (ab (aa 0) (ab (fC (.int 4)) ah))) (fC (.int 0)))) (ao (af Ec (aa 4) (ax .list ah)))) (qM 4 (ak aZ (ab (aa 0) (ab (Et aR (ab (aa 4) ah)) ah))) (ak aZ (ab (aa 0) (ab (Et aR (ab (aa 4) ah)) ah)))) aA) (D8 A D0 R0 G (.list (LR R0 G ys)) ks l w p7 p8 p9) T4=Iv ((.nx,D8 A D0 R0 G (.list (LR R0 G ys)) js l w p7 p8 p9),T6):=by
  by_cases c:w5=0/\ks≠[]
  .have z:ks.isEmpty=Lf:=by cases hq:ks with
    |nil=>exact absurd hq c.2
    |cons _ _=>rfl
   have nn:=ne_nil o4.ok;rw[z] at nn;have lp:0<ks.length:=Xf.mpr c.2;have kl:=o4.len;obtain⟨i,T6,e6,t6,i0',i1'⟩:=bQ (m:=(ks.length:Int)) t5 (by lia);obtain⟨b,T7,e7,t7,b0,b1⟩:=bQ (m:=(ks.length:Int)) t6 (by lia);obtain⟨y,El⟩:∃y,ks[b.toNat]? = Iv y:=⟨ks[b.toNat],TQ (by lia)⟩;refine⟨(ks.eraseIdx b.toNat).take i.toNat++y::(ks.eraseIdx b.toNat).drop i.toNat,T7,(List.perm_middle.trans (by rw[WO];exact wb ks _ y El)).trans q1,t7,?_⟩
   have hc:0<=i/\i<((ks.map JJ).length:Int)/\0<=b/\(ks.map JJ).length<=1000:=by rw[R4];lia
   have IQ:(ks.map JJ)[b.toNat]? = Iv (JJ y):=by rw[Sf,El];rfl
   have md:((ks.eraseIdx b.toNat).take i.toNat++y::(ks.eraseIdx b.toNat).drop i.toNat).map JJ=((ks.map JJ).eraseIdx b.toNat).take i.toNat++JJ y::((ks.map JJ).eraseIdx b.toNat).drop i.toNat:=by simp[xo,V0,Vf]
   have ip:nj 4 (D8 A D0 R0 G (.list (LR R0 G ys)) ks l w p7 p8 p9) (.d (.int i)) (.d (.int b)) T7 (Iv (Iv (.loc (.list (ks.map JJ)))))=Iv ((.nx,D8 A D0 R0 G (.list (LR R0 G ys)) ((ks.eraseIdx b.toNat).take i.toNat++y::(ks.eraseIdx b.toNat).drop i.toNat) l w p7 p8 p9),T7):=by
    unfold nj;simp only;rw[if_pos hc,IQ];unfold D8;rw[md];rfl
   have f1:ak aZ (ab (aa 0) (ab (Et aR (ab (aa 4) ah)) ah)) (D8 A D0 R0 G (.list (LR R0 G ys)) ks l w p7 p8 p9) T5=Iv (.d (.int i),T6):=by simp[D8,e6]
   have f2:ak aZ (ab (aa 0) (ab (Et aR (ab (aa 4) ah)) ah)) (D8 A D0 R0 G (.list (LR R0 G ys)) ks l w p7 p8 p9) T6=Iv (.d (.int b),T7):=by simp[D8,e7]
   have ft:bv (ao (af CP (ak aZ (ab (aa 0) (ab (fC (.int 4)) ah))) (fC (.int 0)))) (ao (af Ec (aa 4) (ax .list ah))) (D8 A D0 R0 G (.list (LR R0 G ys)) ks l w p7 p8 p9) T4=Iv (KN,T5):=by
    simp[D8,e5,c.1,nn]
   rw[Mk,ft,cG,KJ,if_pos rfl];unfold qM;rw[f1,cG,f2,cG];exact ip
  .refine⟨ks,T5,q1,t5,?_⟩
   by_cases c1:w5=0
   .have:ks=[]:=VL λz=>c ⟨c1,z⟩
    subst this;have nn:=ne_nil (ls:=[]) (by simp);simp at nn;simp[D8,e5,c1,nn]
   .simp[D8,e5,c1]
 obtain⟨js,T6,q2,t6,e6⟩:=two;refine⟨js,T6,?_,t6,perm q2⟩;have g1:cb 7 (bf (aa 3)) lP (D8 A D0 R0 G (.list (LR R0 G ys)) [] l w LG LG LG) T1=Iv ((.nx,D8 A D0 R0 G (.list (LR R0 G ys)) ls l w p7 p8 LG),T2):=e2;rw[jF]
 have g0:∀K:FS,ai (cj 4 ah) (ai (aE 5 (Et mX (ab (af aP (Et gf (ab (af HN (aa 1) (fC (.int 0))) ah)) (Et gf (ab (af HN (aa 1) (fC (.int 1))) ah))) ah))) (ai (aE 6 (ak aZ (ab (aa 0) (ab (fC (.int 4)) ah)))) K)) [Iv (.tp A.length),Iv (.d (J4 D0 R0)),Iv (.d (.dict G)),Iv (.d (.list (LR R0 G ys))),LG,LG,LG,LG,LG,LG] T=K (D8 A D0 R0 G (.list (LR R0 G ys)) [] l w LG LG LG) T1:=λK=>by
  simp[i0,i1,lk0,lk1,l1,so,e1,D8]
 show cI (_:Option ((Fl×XE)×Tp))=_;refine(congrArg cI ((g0 _).trans ((hU g1).trans ((hU e4).trans (hU e6))))).trans ?_;simp[D8]
end
def zqu(b:Bool)(k:Nat)(T:Tp):cX (k+1) [.d (.bool b),.d (.bool b)] T=Iv (.bool KN,T):=by
 have k1:bo .bl .dct=Lf:=rfl;have k2:bo .bl .bl=KN:=rfl
 cases b <;> kernel_rfl
def zqv(o:JE l):SV 3 (JJ l):=by
 refine .tup (by simp) λd hd=>?_;simp at hd
 rcases hd with rfl|rfl|rfl
 .exact .str
 .refine .tup (by rw[iW];have:=o.len;lia) λd hd=>?_
  obtain⟨q,hq,rfl⟩:=Rl.mp hd;refine .tup (by simp) λd hd=>?_;simp at hd
  rcases hd with rfl|rfl
  .exact .str
  .exact .str
 .refine .tup (by simp) λd hd=>?_
  simp at hd
  rcases hd with rfl|rfl
  .exact .str
  .exact .str
section
variable {p:Bool}{n:Nat}{D0 R0 G:Dc}
def Al.of(b:Cw p n S D0 R0)(hn:n<=20)(hS:S.length<=40)(hY:∀y∈S,isName (.str y)=KN)(hd:Sub D0 G)(hs:F0 D0 R0 G)(hc:∀x,ClsAt R0 G x):Al p n D0 R0 G:=by
 have keys:∀{ds:Dc},(∀q∈ds,∃x v,q=(RF x,v)/\aj ds x=Iv v)->gh ds=LW (kn ds)/\∀x,x∈kn ds↔∃v,aj ds x=Iv v:=λ{ds} h=>by
  constructor
  .unfold gh LW kn
   rw[Sk]
   exact RV λq hq=>by
    obtain⟨x,v,rfl,_⟩:=h q hq;rfl
  .intro x
   constructor
   .intro hx
    obtain⟨q,hq,rfl⟩:=Rl.mp hx;obtain⟨x,v,rfl,hk⟩:=h q hq;exact⟨v,hk⟩
   .rintro⟨v,hk⟩
    exact Rl.mpr ⟨_,e8 hk,rfl⟩
 have kD:=keys  λq hq=>by
  obtain⟨x,v,e,_,h,_⟩:=b.dk q hq;exact⟨x,v,e,h⟩
 have kR:=keys  λq hq=>by
  obtain⟨x,v,e,_,h,_⟩:=b.rk q hq;exact⟨x,v,e,h⟩
 refine⟨b.bk hn (by lia),hd,hs,hc,λx v h=>?_,λx v h=>?_,kD.1,kR.1,kD.2,kR.2,by rw[b.len];exact hS⟩
 .obtain⟨y,_,e,_,_,hy⟩:=b.dk _ (e8 h)
  cases e;exact hY _ hy
 .obtain⟨y,_,e,_,_,_,hy⟩:=b.rk _ (e8 h)
  cases e;exact hY _ hy
def z9(a:Al p n D0 R0 G)(T:Tp):∃G' st,jE [.d (J4 D0 R0)] T=Iv (.tuple [.dict G',.dict (JX R0 st)],T)/\(∀x,aj G' x=aj G x)/\∀x r,aj R0 x=Iv r->st x=En R0 G x:=by
 obtain⟨G',st,em,s1,d1,c1,Dr⟩:=znm a.B T;have heq:=λx=>zmw a.B d1 s1 c1 a.hd a.hs a.hc x;refine⟨G',st,em,heq,λx r hr=>?_⟩;rw[Dr x r hr,eB hr];exact oH heq (s1.gv a.B) a.B.n20 (cZ (a.B.rg hr).1 a.B.n20)
def zqw(a:Al p n D0 R0 G)(hr:aj R0 x=Iv r)(T:Tp):oM [.d (J4 D0 R0),.d (.str x)] T=Iv (L3 R0 G x,T):=by
 obtain⟨G',st,em,heq,Dr⟩:=z9 a T;have sx:=Dr x r hr
 have kc:aj (JX R0 st) x=Iv (cm (st x)):=by rw[mT,hr];rfl
 have ll:=A4 (x:=x) T (a.ok hr).1;rw[←sx] at ll
 have e:L3 R0 G x=ln x (st x):=by rw[sx];rfl
 rw[e];simp[oM,em,kc,ll]
def zqx(a:Al p n D0 R0 G)(hr:aj R0 x=Iv r)(T:Tp):∃V,mw [.d (J4 D0 R0),.d (.str x)] T=Iv (V,T)/\lA [.d (J4 D0 R0),.d (.dict G),.d (.str x)] T=Iv (V,T):=by
 obtain⟨G',st,em,heq,Dr⟩:=z9 a T
 cases hx:aj G x with
 |some v=>
  have h2:aj G' x=Iv v:=by simp_all
  refine⟨J1 v,?_,?_⟩
  .simp[mw,em,h2,J1]
  .rw[qF]
   simp[hx,J1]
 |none=>
  have h2:aj G' x=LG:=by simp_all
  have ll:=zoq a.B (st:=st) (λy r' JB=>by rw[Dr y r' JB];exact(a.ok JB).1) T;have hm:=zi (R0:=R0) [];have hl:=a.B.len;have len:=a.len
  have hL:∀y,aj (K5 R0 st) y=if y∈kn R0 then Iv (L3 R0 G y) else LG:=λy=>by
   rw[zop]
   cases hy:aj R0 y with
   |none=>rw[if_neg λz=>by obtain⟨v,hv⟩:=(a.mR y).mp z;rw[hy] at hv;cases hv];rfl
   |some r'=>
    rw[if_pos ((a.mR y).mpr ⟨r',hy⟩)];show Iv (ln y (st y))=_;rw[Dr y r' hy];rfl
  have cl:Cl R0 G (kn R0):=⟨by rw[km];lia,λy hy=>(a.mR y).mp hy,λy hy b z r' r2 e hz=>(a.mR z).mpr ⟨r2,hz⟩⟩;obtain⟨V,hV,w1,w2⟩:=sr a.B a.hs a.hc cl hL (.str x) (.str x) T (GK R0 []) [] x rfl hx (λ_ _=>(a.mR x).mpr ⟨r,hr⟩) (by simp) (by simp) (by simp;lia);have q1:=w1 100000 LG (by lia);have q2:=w2 100000 LG (by lia);refine⟨V,?_,?_⟩
  .simp[jt,Gz,LW] at q1
   simp[mw,em,h2,ll,uJ];rw[q1];simp
  .simp[jv,EJ,LW] at q2
   rw[qF];simp[hx];exact q2
def Lp(D0 R0 G:Dc)(P:Ra)(o3 o4:Option D.W):XE:=[Iv (.d (J4 D0 R0)),Iv (.d (.dict G)),Iv (.d P),o3,o4]
theorem Ba(a:Al p n D0 R0 G){zs:List Str}(cl:Cl R0 G zs){T:Tp}:∀(ys:List Str) (o3 o4:Option D.W),(∀y∈ys,y∈zs)->∃p3 p4,forL 3 oE (LR R0 G ys) (Lp D0 R0 G (.list (LR R0 G zs)) o3 o4) T=Iv ((.nx,Lp D0 R0 G (.list (LR R0 G zs)) p3 p4),T)
 |[],o3,o4,_=>⟨o3,o4,rfl⟩
 |y::ys,o3,o4,h=>by
  have hy:=h y Rf;obtain⟨r,hr⟩:=cl.mem y hy;obtain⟨V,e1,e2,sv⟩:=zos a.B a.hd a.hs a.hc cl hy T;obtain⟨V',e3,e4⟩:=zqx a hr T
  have:V'=V:=by simp_all
  subst this;have s1:=A2 sv 25 T (by simp);obtain⟨o,el⟩:=qq a hr;have s2:=A2 (zqv o) 25 T (by simp);rw[el] at s2;have l1:=z5 a.B a.gv hr T;have l2:=zqw a hr T;have i0:HN (L3 R0 G y) (.int 0)=Iv _:=rfl;obtain⟨p3,p4,e⟩:=Ba a cl  ys _ _ λz hz=>h z (Rc _ hz);refine⟨p3,p4,?_⟩
  have bd:oE ((Lp D0 R0 G (.list (LR R0 G zs)) o3 o4).set 3 (Iv (.d (L3 R0 G y)))) T=Iv ((.nx,Lp D0 R0 G (.list (LR R0 G zs)) (Iv (.d (L3 R0 G y))) (Iv (.d V'))),T):=by
   simp[oE,Lp,i0,l1,l2,s2,e1,e2,e3,s1]
  exact(ff bd).trans e
def zqy(a:Al p n D0 R0 G)(cl:Cl R0 G zs)(T:Tp):lB [.d (J4 D0 R0),.d (.dict G),.d (.list (LR R0 G zs))] T=Iv (.bool KN,T):=by
 obtain⟨p3,p4,e⟩:=Ba a cl (T:=T) zs LG LG λy hy=>hy;rw[lB];simp only[Lp] at e;simp[e]
def J3(s:Ra)(D0 R0 G:Dc)(P:Ra)(o2 o3 o6 o7 o8:Option D.W):XE:=[Iv (.d s),Iv (.d (J4 D0 R0)),o2,o3,Iv (.d (.dict G)),Iv (.d P),o6,o7,o8]
def Nt(o:Option D.W):Prop:=o=LG\/∃x,o=Iv (.d x)
def zqz(h2:Nt o2)(h3:Nt o3):iA 0 (J3 s D0 R0 G P o2 o3 (Iv (.d (.int k))) (Iv (.tp 0)) (Iv (.d x)))=J3 s D0 R0 G P o2 o3 (Iv (.d (.int k))) LG (Iv (.d x)):=by rcases h2 with rfl|⟨u,rfl⟩ <;> rcases h3 with rfl|⟨v,rfl⟩ <;> rfl
def zra(a:Al p n D0 R0 G)(dnd:(D0.map (·.1)).Nodup){ys:List Str}(nd:ys.Nodup)(EX:∀y∈ys,∃r,aj R0 y=Iv r){ns:List Int}{o2 o3 o8:Option D.W}(h2:Nt o2)(h3:Nt o3){k:Nat} :
  ∃x,jV (J3 (cu ns) D0 R0 G (.list (LR R0 G ys)) o2 o3 (Iv (.d (.int (k:Int)))) LG o8) []=Iv ((.nx,J3 (cu ns) D0 R0 G (.list (LR R0 G ys)) o2 o3 (Iv (.d (.int (k:Int)))) LG (Iv (.d x))),[]):=by
 obtain⟨c,ec⟩:=qu (ns:=ns) (k:=12+(k:Int)) (T:=[]) (by lia);obtain⟨ds,ed,ld,hd⟩:=tU (c:=c+71*(k:Int)) (N:=60) (T:=[]) (by simp) (by simp);have ld':ds.length=60:=ld;obtain⟨ls,T',e,t,pp⟩:=zqt a dnd EX nd (tX (A:=[]) (ds:=ds) (by lia) (by lia) hd);have len:=a.len;have lb:=yL a.B dnd pp (by lia) T'
 have inn:(ai (aE 8 (ak jF (ab (aa 7) (ab (aa 1) (ab (aa 4) (ab (aa 5) ah)))))) (EI (bv (ao (af kP (ak fT (ab (aa 1) (ab (Et dH (ab (aa 8) ah)) ah))) (fC (.bool Lf)))) (bj (aJ (ak lB (ab (aa 1) (ab (aa 4) (ab (aa 8) ah))))))) (aq (fC (.bool Lf))) aA)) (J3 (cu ns) D0 R0 G (.list (LR R0 G ys)) o2 o3 (Iv (.d (.int (k:Int)))) (Iv (.tp 0)) o8) [[.list ds,.int 0]]=Iv ((.nx,J3 (cu ns) D0 R0 G (.list (LR R0 G ys)) o2 o3 (Iv (.d (.int (k:Int)))) (Iv (.tp 0)) (Iv (.d (.list (ls.map JJ))))),T'):=by
  have e':jF [.tp 0,.d (J4 D0 R0),.d (.dict G),.d (.list (LR R0 G ys))] [[.list ds,.int 0]]=Iv (.list (ls.map JJ),T'):=e;have lc:dH [.list (ls.map JJ)]=Iv (.list (ls.map JJ)):=rfl
  by_cases hb:LB D0 R0 ls
  .rw[gq hb] at lb
   obtain⟨f1,cl⟩:=zqi a pp hb;have lr:=zqy a cl T';rw[f1] at e' lb lc ⊢;simp[J3,e',lc,lb,lr,kP]
  .rw[fG hb] at lb
   simp[J3,e',lc,lb,kP]
 obtain⟨Ff,i',rfl,_⟩:=t;refine⟨.list (ls.map JJ),?_⟩;have oe:=rK (fl:=.nx) (ρ:=J3 (cu ns) D0 R0 G (.list (LR R0 G ys)) o2 o3 (Iv (.d (.int (k:Int)))) (Iv (.tp 0)) (Iv (.d (.list (ls.map JJ))))) (n:=0) (T:=[]) (row:=[.list Ff,.int i']) rfl;rw[zqz h2 h3] at oe;rw[←oe];have DZ:=inn;rw[UF] at DZ;rw[UF,←DZ];unfold jV;rw[sM];simp[J3,ec,ed,sN]
theorem zq(a:Al p n D0 R0 G)(dnd:(D0.map (·.1)).Nodup){ys:List Str}(nd:ys.Nodup)(EX:∀y∈ys,∃r,aj R0 y=Iv r){ns:List Int}{o2 o3:Option D.W}(h2:Nt o2)(h3:Nt o3):∀(c k:Nat) (o6 o8:Option D.W),
  ∃p6 p8,forL 6 jV ((W3 k c).map λ(i:Nat)=>TB (i:Int)) (J3 (cu ns) D0 R0 G (.list (LR R0 G ys)) o2 o3 o6 LG o8) []=Iv ((.nx,J3 (cu ns) D0 R0 G (.list (LR R0 G ys)) o2 o3 p6 LG p8),[])
 |0,k,o6,o8=>⟨o6,o8,rfl⟩
 |c+1,k,o6,o8=>by
  obtain⟨x,e1⟩:=zra a dnd nd EX   h2 h3;obtain⟨p6,p8,e2⟩:=zq a dnd nd EX  h2 h3 c _ _ _;refine⟨p6,p8,?_⟩;have st:=e1
  rw[Wk,R7,ff st]<;>omega
def q8:FS:=(ai (aE 4 (ak jJ (ab (aa 1) ah))) (ai (aE 5 (ak jB (ab (aa 1) (ab (aa 4) ah)))) (ai (EI (bv (ao (af FU (af cy (ak dN (ab (aa 0) (ab (fC (.int 0)) ah))) (fC (.int 3))) (fC (.int 0)))) (bj (aJ (ak (cX 25) (ab (ak fT (ab (aa 1) (ab (aa 5) ah))) (ab (fC (.bool KN)) ah)))))) (aq (fC (.bool Lf))) aA) (ai (cb 6 (d0 (fC (.int 16))) jV) (aq (fC (.bool KN)))))))
def yj{ns:List Int}{c:Int}(ec:dN [.d (cu ns),.d (.int 0)] []=Iv (.int c,[])){S:List Str}(b:Cw (decide (c % 3=0)) 6 S D0 R0)(hS:S.length<=13)(hY:∀y∈S,isName (.str y)=KN){o2 o3:Option D.W}(h2:Nt o2)(h3:Nt o3) :
  ∃ρ',q8 [Iv (.d (cu ns)),Iv (.d (J4 D0 R0)),o2,o3,LG,LG,LG,LG,LG] []=Iv ((.rt (.bool KN),ρ'),[]):=by
 have B:=b.bk (by decide) (by lia);obtain⟨G,eg,hs,hd,hc⟩:=znc B [];have a:=Al.of b (by decide) (by lia) hY hd hs hc;obtain⟨ys,eo,od,nd,EX⟩:=zpe a [];have hy:=λy h=>(EX y).mp h;obtain⟨p6,p8,ef⟩:=zq a b.dnd nd hy (ns:=ns) h2 h3 16 0 LG LG;rw[←vG] at ef;have hr:=iS (j:=16) (by lia) (by lia)
 have fl:cb 6 (d0 (fC (.int 16))) jV (J3 (cu ns) D0 R0 G (.list (LR R0 G ys)) o2 o3 LG LG LG) []=Iv ((.nx,J3 (cu ns) D0 R0 G (.list (LR R0 G ys)) o2 o3 p6 LG p8),[]):=by simp_all
 have mid:∀K:FS,q8=(ai (aE 4 (ak jJ (ab (aa 1) ah))) (ai (aE 5 (ak jB (ab (aa 1) (ab (aa 4) ah)))) (ai (EI (bv (ao (af FU (af cy (ak dN (ab (aa 0) (ab (fC (.int 0)) ah))) (fC (.int 3))) (fC (.int 0)))) (bj (aJ (ak (cX 25) (ab (ak fT (ab (aa 1) (ab (aa 5) ah))) (ab (fC (.bool KN)) ah)))))) (aq (fC (.bool Lf))) aA) K)))->q8 [Iv (.d (cu ns)),Iv (.d (J4 D0 R0)),o2,o3,LG,LG,LG,LG,LG] []=K (J3 (cu ns) D0 R0 G (.list (LR R0 G ys)) o2 o3 LG LG LG) []:=λK hK=>by
  rw[hK]
  by_cases z:c % 3>0
  .have pf:(decide (c % 3=0))=Lf:=decide_eq_false (by lia)
   have a':Al Lf 6 D0 R0 G:=by rw[←pf];exact a
   obtain⟨pp,_⟩:=Av a' hy nd;have lb:=yL B b.dnd pp (by have:=a.len;lia) [];rw[gq (zql a' od nd EX),zqk a' hy] at lb;have sb:=zqu KN 24 [];simp[eg,eo,ec,z,lb,sb,J3]
  .simp[eg,eo,ec,z,J3]
 rw[mid _ rfl,hU fl];simp[J3]
noncomputable def wR(y:Str):PyData:=.tuple [.str "want",.tuple [.str "put",.str y],.tuple [.str "say",.tuple [.str "got",.int 0]]]
def uG(hy:isName (.str y)=KN):Rg p 0 6 (wR y):=by refine .ask  (.inl rfl) (by simp) (.put (name_val hy)) (.say (.got ?_ ?_)) <;> decide
def FY:∀ns:List Int,ns.length<=63->∃T',qE [.d (cu ns)] []=Iv (.bool KN,T'):=by
 intro ns _;obtain⟨c,ec⟩:=qu (ns:=ns) (k:=0) (T:=[]) (by lia);obtain⟨D0,R0,S,eb,b,hS,hY⟩:=zom ns (decide (c % 3=0));have n1:isName (.str "selfish")=KN:=rfl
 have n2:isName (.str "ringone")=KN:=by decide +kernel
 have n3:isName (.str "ringtwo")=KN:=by decide +kernel
 have m1:Rb "selfish"∉S:=λz=>(hY _ z).2 (by decide +kernel);have m2:Rb "ringone"∉Rb "selfish"::S:=λz=>(Ru.mp z).elim (by decide +kernel) λz=>(hY _ z).2 (by decide +kernel);have m3:Rb "ringtwo"∉Rb "ringone"::Rb "selfish"::S:=λz=>(Ru.mp z).elim (by decide +kernel) λz=>(Ru.mp z).elim (by decide +kernel) λz=>(hY _ z).2 (by decide +kernel);have b1:=b.putR m1 (uG n1);have b2:=b1.putR m2 (uG n3);have b3:=b2.putR m3 (uG n2);have hl:=b.len;have l1:=jY (G:=R0) (x:=Rb "selfish") (v:=wR "selfish");have l2:=jY (G:=putN R0 "selfish" (wR "selfish")) (x:=Rb "ringone") (v:=wR "ringtwo");have nl:fq [Iv (.d (cu ns)),LG,LG,LG,LG,LG,LG,LG,LG]=KN:=rfl;refine⟨[],?_⟩;obtain⟨JT,f1⟩:=yj ec b (by lia) (λy hy=>(hY y hy).1) (o2:=LG) (o3:=LG) (.inl rfl) (.inl rfl)
 obtain⟨ρ2,f2⟩:=yj ec b3 (by simp;lia) (λy hy=>by
  simp at hy
  rcases hy with rfl|rfl|rfl|hy
  .exact n3
  .exact n2
  .exact n1
  .exact(hY y hy).1) (o2:=Iv (.d (.str "ringtwo"))) (o3:=Iv (.d (.str "ringone"))) (.inr ⟨_,rfl⟩) (.inr ⟨_,rfl⟩)
 have q1:R0.length<=1000:=by lia
 have q2:(putN R0 "selfish" (wR "selfish")).length<=1000:=by lia
 have q3:(putN (putN R0 "selfish" (wR "selfish")) "ringone" (wR "ringtwo")).length<=1000:=by lia
 have bk:J4 D0 R0=.tuple [.dict D0,.dict R0]:=rfl;rw[qE];show cI (l9 1 2 3 lI _ _ _ _ _ q8 [Iv (.d (cu ns)),LG,LG,LG,LG,LG,LG,LG,LG] [])=_
 by_cases z:c / 3 % 2=0
 .unfold l9
  simp[ec,eb,bk,pw,nl,z,eO,Kh];unfold wR at q2 q3 f2;unfold J4 at f2;rw[if_pos q1,if_pos q2,if_pos q3];exact congrArg cI f2
 .unfold l9
  simp[ec,eb,bk,pw,nl,z,eO];exact congrArg cI f1
end
def top(i:Nat):Stmt:=PySem.Challenge.pw_redo_k27_whole_let_by_is_fresh.main.body.getD i (.Pass ⟨0,0,0,0⟩)
noncomputable abbrev zS:List (Str×Nat):=("is_whole",8)::("has_only",9)::("is_name",10)::("is_single",11)::("is_built",12)::("many_of",14)::("is_value",13)::("exprs_within",16)::("sort_at",19)::("told_less",28)::("bounded",23)::("told_many",24)::("told_part",25)::("told_sum",26)::("told_join",27)::("told_of",22)::("told_by",21)::("step_of",33)::("followed",32)::("replay",31)::("stamp_of",37)::("is_figures",44)::("number_by",43)::("single_by",42)::("single_at",41)::("row_at",40)::("value_at",39)::("value_by",38)::("is_stamp",50)::("is_read",49)::("are_reads",48)::("is_end",51)::("is_line",47)::("comes_to",53)::("is_right",52)::("lines_by_names",54)::("shown_by",62)::("are_reads_shown",60)::("is_paper",58)::("are_of_the_book",59)::("is_end_shown",61)::("lets_by",57)::("end_by",77)::("line_from",76)::("start_of",71)::("awaited_at",73)::("given",74)::("gone_on",72)::("made_afresh",70)::("line_of",68)::("result_along",78)::("lines_from",75)::("fresh",69)::("result_by",80)::("_law_cell_at",82)::("_law_draws",83)::("_law_take",84)::("_law_many",85)::("_law_is_name",86)::("_law_is_part",87)::("_law_is_value",88)::("_law_stamp",89)::("_law_of_two",90)::("_law_told",91)::("_law_value_by",92)::("_law_next",93)::("_law_run",94)::("_law_good",95)::("_law_line",96)::("_law_result",97)::("_law_same",98)::("_law_names",99)::("_law_value",100)::("_law_simple",101)::("_law_expr",102)::("_law_recipe",103)::("_law_book",104)::("_law_ordered",105)::("_law_made_up",106)::("_law_drawn",107)::("_law_right",108)::("law",109)::[]
noncomputable abbrev zZ:List Str:=["abs","all","bool","dict","int","isinstance","len","list","range","repr","set","sorted","str","sum","tuple"]
noncomputable abbrev zI:List (Str×Int):=[("MOST_FIGURES",19),("MOST_LETTERS",8),("MOST_LINES",100),("MOST_PARTS",8),("MOST_READS",12),("MOST_ROWS",4),("MOST_SIGNS",20),("MOST_VALUES",40)]
noncomputable abbrev zT:List (Str×Str):=[("FIGURES","0123456789"),("LETTERS","abcdefghijklmnopqrstuvwxyz"),("TEXT_SIGNS","abcdefghijklmnopqrstuvwxyz0123456789-")]
structure Bi(K:Frag)(mg:Str->Option Re):Prop extends Bz K mg zZ zI zT where
 s_NOT_GIVEN:Cq K mg "NOT_GIVEN" [("want","wants"),("peek","peeks")]
 g_GETTING:Cp K mg "GETTING" ["want","peek"]
abbrev nM(i:Nat):Str:=match top i with
 |.FunctionDef n ..=>n
 |_=>""
abbrev pS(i:Nat):List Str:=(eA (top i)).args.map (·.arg)
abbrev Fq{P:RC}{w:RX}{K:Frag}{mg:Str->Option Re}{base:Heap}(_:Ev P w K mg base (Bi K mg) top zS)(i k:Nat)(m:Hl):Prop:=Fn P w K mg base (nM i) (pS i) k (Ms K (pS i).length m)
section
variable {P:RC}{w:RX}{K:Frag}{mg:Str->Option Re}{base:Heap}(E:Ev P w K mg base (Bi K mg) top zS)
include E
def gZ:Fq E 8 1 eZ:=aN E 8 ["thing"] λB S hr=>(LS (bX (aY .int B.z (ag 0) B.z Tj) (cH (uz (aY .bl B.z (ag 0) B.z Wl)))))
def rJ:Fq E 9 1 gB:=aN E 9 ["text","signs"] λB S hr=>(LS (dF gp rfl B.z U4 (av (df (top 9) ["text","signs"] (bA (ag 0)) (bu qY (ag 0) (ag 2))) aD)))
def oP:Fq E 10 2 fU:=aN E 10 ["thing"] λB S hr=>(LS (bX (aY .str B.z (ag 0) B.z TF) (bX (zel fH fH ar (GB B.z (ag 0)) (gC rfl B.i)) (cH (aM (rJ E) hr (ag 0) (sR rfl B.s))))))
def zrb:Fq E 11 2 lH:=aN E 11 ["thing"] λB S hr=>(JK (aS (aT (gZ E) hr (ag 0))) (bu fH (dF zwd rfl B.z boot_abs (av (ag 0) aD)) (aK m6 ar ar)) (LS (bX (aY .str B.z (ag 0) B.z TF) (bX (bu fH (GB B.z (ag 0)) (gC rfl B.i)) (cH (aM (rJ E) hr (ag 0) (sR rfl B.s)))))))
def zrc:∀n,Fq E 12 (2+n) (fS n):=dY (d6 E 12) λn ih=>aN (k:=2+n) E 12 ["thing","rows_left"] λB S hr=>(JK (bB (aS (aY .tup B.z (ag 0) B.z RT))) (aT (zrb E) hr (ag 0)) (JK (bg (bJ (az aL (ag 1) ar) (b8 (az du (GB B.z (ag 0)) (gC rfl B.i))))) bM (LS (dF gp rfl B.z U4 (av (df (top 12) ["thing","rows_left"] (bA (ag 0)) (aM ih hr (ag 0) (aK iu (ag 2) ar))) aD)))))
def zrd:∀n,Fq E 14 (0+n) (iU n):=dY (d6 E 14) λn ih=>aN (k:=0+n) E 14 ["value"] λB S hr=>(JK (bB (aS (aY .tup B.z (ag 0) B.z RT))) ar (LS (aK bb ar (dF zwg rfl B.z boot_sum (av (df (top 14) ["value"] (bA (ag 0)) (aT ih hr (ag 0))) aD)))))
def v9:Fq E 13 28 jM:=aN E 13 ["thing"] λB S hr=>(LS (bX (aM (zrc E 25) hr (ag 0) (gC rfl B.i)) (cH (bu fH (aT (zrd E 25) hr (ag 0)) (gC rfl B.i)))))
def zre:Fq E 16 1 fO:=aN E 16 ["expr"] λB S hr=>(JK (bg (bJ (az aL (C4 0) au) (b8 (az aL (C4 0) au)))) (cA aD) (JK (az aL (C4 0) au) (bG mU rfl B.z TZ (av (C4 0) aD)) (LS (bG mU rfl B.z TZ (av (cW (ag 0) (cq ar) dG) aD)))))
def xj:Fq E 19 1 iT:=aN E 19 ["book","name"] λB S hr=>(JK (az (gc hr) (ag 1) (C4 0)) au (JK (az (gc hr) (ag 1) (C4 0)) au (LS au)))
def zrf:Fq E 28 2 gV:=aN E 28 ["one","other"] λB S hr=>(JK (bg (bJ (bB (aS (aT (gZ E) hr (ag 0)))) (b8 (bB (aS (aT (gZ E) hr (ag 1))))))) (JS au au) (LS (JS au (dI (az dt (ag 0) (ag 1)) ar ar))))
def oQ:Fq E 23 29 g7:=aN E 23 ["thing"] λB S hr=>(LS (dI (aS (aT (v9 E) hr (ag 0))) (JS au (ag 0)) (JS au au)))
def zrg:Fq E 24 2 lD:=aN E 24 ["value"] λB S hr=>(JK (aS (aT (gZ E) hr (ag 0))) (JS au au) (LS (JS au (GB B.z (ag 0)))))
def zrh:Fq E 25 2 gx:=aN E 25 ["row","number"] λB S hr=>(JK (bg (bJ (bB (aS (aY .tup B.z (ag 0) B.z RT))) (b8 (bB (aS (aT (gZ E) hr (ag 1))))))) (JS au au) (JK (bB (zvp fH dt ar (ag 1) (GB B.z (ag 0)))) (JS au au) (LS (JS au (aQ aV (ag 0) (ag 1))))))
def zri:Fq E 26 30 iQ:=aN E 26 ["one","other"] λB S hr=>(JK (bg (bJ (bB (aS (aT (gZ E) hr (ag 0)))) (b8 (bB (aS (aT (gZ E) hr (ag 1))))))) (JS au au) (LS (aT (oQ E) hr (aK bb (ag 0) (ag 1)))))
def zrj:Fq E 27 30 gy:=aN E 27 ["one","other"] λB S hr=>(JK (bg (cv (aS (aY .str B.z (ag 0) B.z TF)) (cL (aS (aY .str B.z (ag 1) B.z TF))))) (aT (oQ E) hr (aK bb (ag 0) (ag 1))) (JK (bg (cv (aS (aY .tup B.z (ag 0) B.z RT)) (cL (aS (aY .tup B.z (ag 1) B.z RT))))) (aT (oQ E) hr (aK bb (ag 0) (ag 1))) (LS (JS au au))))
def zrk:Fq E 22 31 bw:=aN E 22 ["word","parts"] λB S hr=>(JK (az aL (ag 0) au) (aT (oQ E) hr (bG dU rfl B.z RT (av (ag 1) aD))) (JK (az aL (ag 0) au) (aT (zrg E) hr (C4 1)) (JK (az aL (ag 0) au) (aM (zrh E) hr (C4 1) (C4 1)) (JK (az aL (ag 0) au) (aM (zri E) hr (C4 1) (C4 1)) (JK (az aL (ag 0) au) (aM (zrj E) hr (C4 1) (C4 1)) (JK (az aL (ag 0) au) (JS au (dI (az (gK hr) (C4 1) (C4 1)) ar ar)) (LS (aM (zrf E) hr (C4 1) (C4 1)))))))))
def zrl:∀n,Fq E 21 (31+n) (ej n):=dY (d6 E 21) λn ih=>aN (k:=31+n) E 21 ["expr","got","parts","inner","told"] λB S hr=>(JK (az aL (C4 0) au) (JS au (C4 0)) (JK (az aL (C4 0) au) (JS au (aQ aV (ag 1) (C4 0))) (aB (eQ (i:=2) S.nd aD) (aB (dO (i:=3) S.nd (bA (aT (zre E) hr (ag 0))) (aB (aO (i:=4) S.nd (aM ih hr (ag 3) (ag 1))) (JK (az aL (C4 4) au) (ag 4) (ba (eC (i:=2) (by exact(C4 4))))))) (LS (pF (zrk E) (hr.mono (by omega)) rfl (av (C4 0) (av (ag 2) aD)) (b5 (b5 fY))))))))
def oO:∀n,Fq E 33 (56+n) (bU n):=dY (d6 E 33) λn ih=>aN (k:=56+n) E 33 ["recipe","got","told"] λB S hr=>(JK (az aL (C4 0) au) (JS au (C4 0)) (aB (aO (i:=2) S.nd (aM (zrl E 25) hr (C4 0) (ag 1))) (JK (az aL (C4 2) au) (ag 2) (JK (az aL (C4 0) au) (aM ih hr (dI (az (zfv hr) (C4 2) (cw (av ar (av au (av (cw aD) aD))))) (C4 0) (C4 0)) (ag 1)) (JK (az aL (C4 0) au) (JS au (C4 2)) (JK (bB (aS (aT (oP E) hr (C4 2)))) (JS au au) (LS (cw (av (C4 0) (av (C4 2) (av (C4 0) aD)))))))))))
def zrm:Fq E 32 82 ox:=aN E 32 ["recipe","reads","peeks","given","used","got","step","pairs","k"] λB S hr=>(aB (zwq (i:=3) S.nd (ag 1) (ag 2)) (aB (zwq (i:=4) S.nd ar ar) (aB (eQ (i:=5) S.nd aD) (aB (aO (i:=6) S.nd (pF (oO E 25) (hr.mono (by omega)) rfl (av (ag 0) (av (ag 5) aD)) (b5 (b5 fY)))) (aB (fX 100000 (zga hr (C4 6) (ag 3)) (aB (aO (i:=7) S.nd (qt hr (ag 3) (C4 6))) (aB (aO (i:=8) S.nd (qt hr (ag 4) (C4 6))) (JK (bg (bJ (az zvw (ag 8) (GB B.z (ag 7))) (b8 (az dB (aQ aV (aQ aV (ag 7) (ag 8)) ar) (C4 6))))) (JS (JS (zgd B.s_NOT_GIVEN rfl (C4 6)) (C4 6)) (qt hr (ag 4) au)) (aB (eC (i:=5) (by exact(aQ aV (aQ aV (ag 7) (ag 8)) ar))) (aB (zgb (i:=4) hr (C4 6) (aK bb (ag 8) ar)) (ba (aO (i:=6) S.nd (pF (oO E 25) (hr.mono (by omega)) rfl (av (C4 6) (av (ag 5) aD)) (b5 (b5 fY))))))))))) (LS (JS (ag 6) (qt hr (ag 4) au))))))))
def zrn:Fq E 31 83 l7:=aN E 31 ["recipe","reads","peeks","came"] λB S hr=>(aB (aO (i:=3) S.nd (cE (zrm E) hr (ag 0) (ag 1) (ag 2))) (JK (az dt (C4 3) (GB B.z (ag 1))) (JS au (C4 3)) (LS (C4 3))))
def oy:∀n,Fq E 37 (1+n) (ei n):=dY (d6 E 37) λn ih=>aN (k:=1+n) E 37 ["value"] λB S hr=>(JK (aS (aT (gZ E) hr (ag 0))) (bG zwh rfl B.z TF (av (ag 0) aD)) (JK (aS (aY .str B.z (ag 0) B.z TF)) (aK bb au (ag 0)) (LS (aK bb (aK bb au (zwi au (df (top 37) ["value"] (bA (ag 0)) (aT ih hr (ag 0))))) au))))
def zro:Fq E 44 2 gS:=aN E 44 ["text"] λB S hr=>(JK (bg (bJ (az aL (ag 0) au) (b8 (bB (aS (aM (rJ E) hr (ag 0) (sR rfl B.s))))))) bM (LS (zen (bu aL (ag 0) au) (cH (uz (r9 (ag 0) au))))))
def zrp:Fq E 43 3 lG:=aN E 43 ["word","figures"] λB S hr=>(aB (aO (i:=1) S.nd (dI (aS (r9 (ag 0) au)) (cW (ag 0) (cq ar) dG) (ag 0))) (JK (bg (bJ (az aL (ag 0) au) (bJ (az du (GB B.z (ag 1)) (gC rfl B.i)) (b8 (bB (aS (aT (zro E) hr (ag 1)))))))) dy (LS (bG gn rfl B.z Tj (av (ag 0) aD)))))
def zrq:Fq E 42 4 lE:=aN E 42 ["word"] λB S hr=>(JK (aS (r9 (ag 0) au)) (cW (ag 0) (cq ar) dG) (LS (aT (zrp E) hr (ag 0))))
def zrr:Fq E 41 5 jG:=aN E 41 ["text","at","behind","single"] λB S hr=>(aB (aO (i:=2) S.nd (ag 1)) (aB (fX 100000 (bg (cv (az dt (ag 2) (GB B.z (ag 0))) (cL (az iY (aQ aV (ag 0) (ag 2)) au)))) (ba (aO (i:=2) S.nd (aK bb (ag 2) ar)))) (aB (aO (i:=3) S.nd (aT (zrq E) hr (cW (ag 0) (cq (ag 1)) (cq (ag 2))))) (LS (dI (az nL (ag 3) dy) dy (JS (ag 3) (ag 2)))))))
def zrs:∀n,Fn P w K mg base "row_at" ["text","at","rows_left"] (5+n) (Ms K 3 (l6 n))/\Fn P w K mg base "value_at" ["text","at","rows_left"] (5+n) (Ms K 3 (eh n)):=dY ⟨(d6 E 40),(d6 E 39)⟩ λn ih=>⟨(aN (k:=5+n) E 40 ["text","at","rows_left","parts","found","sign"] λB S hr=>(JK (az aL (cW (ag 0) (cq (ag 1)) (cq (aK bb (ag 1) ar))) au) (JS (cw aD) (aK bb (ag 1) ar)) (aB (eQ (i:=3) S.nd aD) (ba (fX 100000 (aS bM) (aB (aO (i:=4) S.nd (cE ih.2 hr (ag 0) (ag 1) (ag 2))) (JK (az nL (ag 4) dy) dy (aB (eC (i:=3) (by exact(C4 4))) (aB (aO (i:=1) S.nd (aK bb (C4 4) ar)) (aB (aO (i:=5) S.nd (cW (ag 0) (cq (C4 4)) (cq (ag 1)))) (JK (az aL (ag 5) au) (JS (bG dU rfl B.z RT (av (ag 3) aD)) (ag 1)) (ba (b9 (az dB (ag 5) au) (LS dy) cF))))))))))))),(aN (k:=5+n) E 39 ["text","at","rows_left"] λB S hr=>(JK (az dB (cW (ag 0) (cq (ag 1)) (cq (aK bb (ag 1) ar))) au) (aM (zrr E) hr (ag 0) (ag 1)) (JK (az aL (ag 2) ar) dy (LS (cE ih.1 hr (ag 0) (aK bb (ag 1) ar) (aK iu (ag 2) ar))))))⟩
def zrt:Fn P w K mg base "value_at" ["text","at","rows_left"] 30 (Ms K 3 (eh 25)):=(zrs E 25).2
def rH:Fq E 38 31 iP:=aN E 38 ["text","found"] λB S hr=>(aB (aO (i:=1) S.nd (cE (zrt E) hr (ag 0) ar (gC rfl B.i))) (JK (bg (bJ (az nL (ag 1) dy) (b8 (az dt (C4 1) (GB B.z (ag 0)))))) dy (LS (dI (aS (aT (v9 E) hr (C4 1))) (C4 1) dy))))
def wa:Fq E 50 32 lO:=aN E 50 ["thing"] λB S hr=>(LS (bX (aY .str B.z (ag 0) B.z TF) (cH (bu zfd (aT (rH E) hr (ag 0)) dy))))
def zru:Fq E 49 33 lR:=aN E 49 ["thing"] λB S hr=>(LS (bX (aY .tup B.z (ag 0) B.z RT) (bX (bu aL (GB B.z (ag 0)) ar) (bX (aT (oP E) hr (C4 0)) (cH (aT (wa E) hr (C4 0)))))))
def zrv:Fq E 48 34 oq:=aN E 48 ["thing"] λB S hr=>(JK (bg (bJ (bB (aS (aY .tup B.z (ag 0) B.z RT))) (b8 (az du (GB B.z (ag 0)) (gC rfl B.i))))) bM (LS (dF gp rfl B.z U4 (av (df (top 48) ["thing"] (bA (ag 0)) (aT (zru E) hr (ag 0))) aD))))
def zrw:Fq E 51 33 l8:=aN E 51 ["thing"] λB S hr=>(JK (bg (bJ (bB (aS (aY .tup B.z (ag 0) B.z RT))) (bJ (az dB (GB B.z (ag 0)) ar) (b8 (bB (aS (aY .str B.z (C4 0) B.z TF))))))) bM (JK (az aL (C4 0) au) (aT (wa E) hr (C4 0)) (LS (bX (bu qY (C4 0) (JS au au)) (cH (aT (oP E) hr (C4 0)))))))
def zrx:Fq E 47 35 lS:=aN E 47 ["thing"] λB S hr=>(JK (bg (bJ (bB (aS (aY .tup B.z (ag 0) B.z RT))) (bJ (az dB (GB B.z (ag 0)) ar) (b8 (bB (aS (aT (oP E) hr (C4 0)))))))) bM (LS (bX (aT (zrv E) hr (C4 0)) (cH (aT (zrw E) hr (C4 0))))))
def zry:Fq E 53 84 iR:=aN E 53 ["recipe","reads","end","came"] λB S hr=>(aB (aO (i:=3) S.nd (cE (zrn E) hr (ag 0) (df (top 53) ["recipe","reads","end","came"] (bA (ag 1)) (JS (C4 0) (aT (rH E) hr (C4 0)))) (cA aD))) (JK (az aL (C4 3) au) (bu (gK hr) (ag 2) (JS au (aT (oy E 25) hr (C4 3)))) (LS (bu (gK hr) (ag 2) (ag 3)))))
def zrz:Fq E 52 85 gA:=aN E 52 ["recipe","line"] λB S hr=>(LS (cE (zry E) hr (ag 0) (C4 1) (C4 1)))
def zsa:Fq E 54 1 oh:=aN E 54 ["lines","found","line"] λB S hr=>(aB (i5 (i:=1) S.nd) (aB (dO (i:=2) S.nd (bA (ag 0)) (ba (fh (i:=1) hr (C4 2) (ag 2)))) (LS (ag 1))))
def zsb:Fq E 62 1 ot:=aN E 62 ["paper","ends","line"] λB S hr=>(aB (i5 (i:=1) S.nd) (aB (dO (i:=2) S.nd (bA (ag 0)) (ba (fh (i:=1) hr (C4 2) (C4 2)))) (LS (ag 1))))
def zsc:Fq E 60 27 n9:=aN E 60 ["book","paper","ahead","name","value","line"] λB S hr=>(aB (i5 (i:=2) S.nd) (aB (zyb (i:=3) (j:=4) S.nd (C4 0) (ba (fh (i:=2) hr (ag 3) (JS au (aT (oy E 25) hr (ag 4)))))) (aB (dO (i:=5) S.nd (bA (ag 1)) (JK (bB (aS (dF gp rfl B.z U4 (av (df (top 60) ["book","paper","ahead","name","value","line"] (bA (C4 5)) (bu (gK hr) (zgl hr (ag 3) (C4 0)) (JS au (C4 0)))) aD)))) bM (ba (fh (i:=2) hr (C4 5) (C4 5))))) (LS bM))))
def zsd:Fq E 58 36 ou:=aN E 58 ["thing"] λB S hr=>(LS (bX (aY .lst B.z (ag 0) B.z TZ) (bX (bu fH (GB B.z (ag 0)) (gC rfl B.i)) (cH (dF gp rfl B.z U4 (av (df (top 58) ["thing"] (bA (ag 0)) (aT (zrx E) hr (ag 0))) aD))))))
def zse:Fq E 59 2 og:=aN E 59 ["book","paper","names"] λB S hr=>(aB (BB (i:=2) (top 59) ["book","paper","names"] ["book","paper","names"] S.nd (bA (ag 1)) (C4 0) pY) (LS (bX (bu aL (zij B.z B.z (ag 2)) (GB B.z (ag 2))) (cH (dF gp rfl B.z U4 (av (df (top 59) ["book","paper","names"] (bA (ag 2)) (bu aL (aM (xj E) hr (ag 1) (ag 0)) au)) aD))))))
def zsf:Fq E 61 2 fN:=aN E 61 ["book","ends","end"] λB S hr=>(JK (az dB (C4 2) au) bM (JK (az (gc hr) (C4 2) (ag 1)) (bu dB (aQ aV (aQ (cV hr) (ag 1) (C4 2)) ar) au) (LS (bu aL (aM (xj E) hr (ag 0) (C4 2)) au))))
def xk:Fq E 57 86 fT:=aN E 57 ["book","paper","ends"] λB S hr=>(JK (bg (bJ (bB (aS (aT (zsd E) hr (ag 1)))) (b8 (bB (aS (aM (zse E) hr (ag 0) (ag 1))))))) bM (JK (bB (aS (dF gp rfl B.z U4 (av (df (top 57) ["book","paper","ends"] (bA (ag 1)) (aM (zrz E) hr (aQ (cV hr) (C4 1) (C4 0)) (ag 0))) aD)))) bM (aB (aO (i:=2) S.nd (aT (zsb E) hr (ag 1))) (LS (bX (aM (zsc E) hr (ag 0) (ag 1)) (cH (dF gp rfl B.z U4 (av (df (top 57) ["book","paper","ends"] (bA (ag 1)) (cE (zsf E) hr (ag 1) (ag 3) (C4 0))) aD))))))))
def zsg:Fq E 77 27 jT:=aN E 77 ["step"] λB S hr=>(JK (az aL (C4 0) au) (JS au (aT (oy E 25) hr (C4 0))) (JK (az aL (C4 0) au) (ag 0) (LS (JS au (C4 0)))))
def vK:Fq E 76 28 jH:=aN E 76 ["name","come","reads"] λB S hr=>(aB (aO (i:=2) S.nd (bG dU rfl B.z RT (av (df (top 76) ["name","come","reads"] (bA (C4 1)) (JS (C4 0) (aT (oy E 25) hr (C4 0)))) aD))) (LS (cw (av (ag 0) (av (ag 2) (av (aT (zsg E) hr (C4 1)) aD))))))
def zsh:Fq E 71 82 lN:=aN E 71 ["recipe"] λB S hr=>(LS (cw (av (cw aD) (av (cw aD) (av (aM (oO E 25) hr (ag 0) (cw aD)) aD)))))
def vD:Fq E 73 1 fQ:=aN E 73 ["come"] λB S hr=>(LS (dI (az qY (aQ aV (C4 0) ar) (zfw (ss:=["want","peek"]) rfl B.g_GETTING)) (aQ aV (C4 0) ar) dy))
def zsi:Fq E 74 82 j4:=aN E 74 ["come","value","step","got","reads"] λB S hr=>(aB (aO (i:=2) S.nd (C4 0)) (aB (aO (i:=3) S.nd (aK bb (C4 0) (cw (av (ag 1) aD)))) (aB (aO (i:=4) S.nd (dI (az aL (C4 2) au) (aK bb (C4 0) (cw (av (JS (C4 2) (ag 1)) aD))) (C4 0))) (LS (cw (av (ag 3) (av (ag 4) (av (aM (oO E 25) hr (C4 2) (ag 3)) aD))))))))
def zsj:Fq E 72 83 lT:=aN E 72 ["come","good"] λB S hr=>(aB (fX 100000 (az (gc hr) (aT (vD E) hr (ag 0)) (ag 1)) (ba (aO (i:=0) S.nd (aM (zsi E) hr (ag 0) (aQ (cV hr) (ag 1) (aT (vD E) hr (ag 0))))))) (LS (ag 0)))
def vx:Fq E 70 84 jE:=aN E 70 ["book","good","come","name","recipe","grown","many"] λB S hr=>(aB (zxy (i:=1) B.z S.nd (C4 0)) (aB (i5 (i:=2) S.nd) (aB (zyb (i:=3) (j:=4) S.nd (C4 0) (ba (fh (i:=2) hr (ag 3) (aT (zsh E) hr (ag 4))))) (aB (aO (i:=5) S.nd bM) (aB (fX 100000 (aS (ag 5)) (aB (aO (i:=6) S.nd (GB B.z (ag 1))) (aB (dO (i:=3) S.nd (bA (C4 0)) (aB (fh (i:=2) hr (ag 3) (zxx (aM (zsj E) hr (aQ (cV hr) (ag 2) (ag 3)) (ag 1)))) (ba (b9 (az aL (aQ aV (aQ aV (aQ (cV hr) (ag 2) (ag 3)) ar) ar) au) (ba (fh (i:=1) hr (ag 3) (aQ aV (aQ aV (aQ (cV hr) (ag 2) (ag 3)) ar) ar))) cF)))) (ba (aO (i:=5) S.nd (bu du (GB B.z (ag 1)) (ag 6))))))) (LS (JS (ag 1) (ag 2))))))))
def zsk:Fq E 68 85 oM:=aN E 68 ["book","name","come"] λB S hr=>(aB (aO (i:=2) S.nd (aQ aV (aT (vx E) hr (ag 0)) ar)) (aB (b9 (az (pz hr) (ag 1) (ag 2)) (ba zwv) cF) (LS (aM (vK E) hr (ag 1) (aQ (cV hr) (ag 2) (ag 1))))))
def vt:Fq E 78 32 lx:=aN E 78 ["lines","name","row","end"] λB S hr=>(aB (eQ (i:=2) S.nd (av (ag 1) aD)) (aB (fX 100000 (bg (cv (az (gc hr) (aQ aV (ag 2) (dX ar)) (ag 0)) (cL (az iY (aQ aV (ag 2) (dX ar)) (cW (ag 2) dG (cq (dX ar))))))) (aB (aO (i:=3) S.nd (aQ aV (aQ (cV hr) (ag 0) (aQ aV (ag 2) (dX ar))) ar)) (JK (az aL (C4 3) au) (JS au (aT (rH E) hr (C4 3))) (JK (az aL (C4 3) au) (cw (av au (av (bG dU rfl B.z RT (av (ag 2) aD)) (av (C4 3) aD)))) (ba (eC (i:=2) (by exact(C4 3)))))))) (LS (JS (dI (az (gc hr) (aQ aV (ag 2) (dX ar)) (ag 0)) au au) (bG dU rfl B.z RT (av (ag 2) aD))))))
def zsl:Fq E 75 29 oj:=aN E 75 ["come","lines","name"] λB S hr=>(aB (i5 (i:=1) S.nd) (aB (dO (i:=2) S.nd (bA (ag 0)) (ba (fh (i:=1) hr (ag 2) (aM (vK E) hr (ag 2) (aQ (cV hr) (ag 0) (ag 2)))))) (LS (ag 1))))
def zsm:Fq E 69 85 mw:=aN E 69 ["book","name","made"] λB S hr=>(aB (aO (i:=2) S.nd (aT (vx E) hr (ag 0))) (JK (az (gc hr) (ag 1) (C4 2)) (JS au (aQ (cV hr) (C4 2) (ag 1))) (LS (aM (vt E) hr (aT (zsl E) hr (C4 2)) (ag 1)))))
def zsn:Fq E 80 33 lF:=aN E 80 ["paper","name","lines"] λB S hr=>(aB (aO (i:=2) S.nd (aT (zsa E) hr (ag 0))) (aB (b9 (az (pz hr) (ag 1) (ag 2)) (ba zwv) cF) (LS (aM (vt E) hr (ag 2) (ag 1)))))
def jD:Fq E 82 1 dN:=aN E 82 ["_law_script","_law_k"] λB S hr=>(JK (az dt (ag 1) (GB B.z (ag 0))) (aQ aV (ag 0) (ag 1)) (LS ar))
def rm:Fq E 83 1 gU:=aN E 83 ["_law_cell","_law_many_here","_law_found","_law_number","_law_mixed","_law_k"] λB S hr=>(aB (eQ (i:=2) S.nd aD) (aB (aO (i:=3) S.nd ar) (aB (b9 (az zvw (ag 0) (aK m6 ar ar)) (ba (aO (i:=3) S.nd (ag 0))) cF) (aB (aO (i:=4) S.nd (aK bb (aK eE (ag 0) ar) ar)) (aB (dO (i:=5) S.nd (ic rfl B.z (ag 1)) (aB (aO (i:=4) S.nd (aK eE (aK bb (aK bb (aK fA (ag 4) (ag 4)) (aK fA ar (ag 4))) (aK fA ar (ag 5))) ar)) (ba (b9 (az du (ag 3) ar) (aB (eC (i:=2) (by exact(aK eE (ag 3) ar))) (ba (aO (i:=3) S.nd (aK mv (ag 3) ar)))) (ba (eC (i:=2) (by exact(aK mv (aK eE (aK bb (aK fA (ag 4) ar) (aK fA ar (ag 5))) ar) ar)))))))) (LS (ag 2)))))))
def bO:Fq E 84 1 aZ:=aN E 84 ["_law_tape","_law_many_here"] λB S hr=>(aB (zex (ag 0) ar (aK bb (C4 0) ar)) (LS (aK eE (aQ aV (C4 0) (aK eE (aK iu (C4 0) ar) (GB B.z (C4 0)))) (ag 1))))
def zso:∀n,Fq E 85 (0+n) (iL n):=dY (d6 E 85) λn ih=>aN (k:=0+n) E 85 ["_law_value_here"] λB S hr=>(JK (bB (aS (aY .tup B.z (ag 0) B.z RT))) ar (LS (aK bb ar (dF zwg rfl B.z boot_sum (av (df (top 85) ["_law_value_here"] (bA (ag 0)) (aT ih hr (ag 0))) aD)))))
def zsp:Fq E 86 1 jC:=aN E 86 ["_law_thing"] λB S hr=>(JK (bg (bJ (bB (aS (aY .str B.z (ag 0) B.z TF))) (bJ (az dt (GB B.z (ag 0)) ar) (b8 (az du (GB B.z (ag 0)) ar))))) bM (LS (bu (gK hr) (kZ (top 86) ["_law_thing"] (bA (ag 0)) (ag 0) (az iY (ag 0) au)) (cA aD))))
def zsq:∀n,Fq E 87 (0+n) (eK n):=dY (d6 E 87) λn ih=>aN (k:=0+n) E 87 ["_law_thing","_law_deep","_law_signs"] λB S hr=>(JK (aS (aY .bl B.z (ag 0) B.z Wl)) bM (JK (aS (aY .int B.z (ag 0) B.z Tj)) (bu fH (dF zwd rfl B.z boot_abs (av (ag 0) aD)) (aK m6 ar ar)) (aB (b9 (aS (aY .str B.z (ag 0) B.z TF)) (aB (aO (i:=2) S.nd au) (LS (bX (bu fH (GB B.z (ag 0)) ar) (cH (bu (gK hr) (kZ (top 87) ["_law_thing","_law_deep","_law_signs"] (bA (ag 0)) (ag 0) (az iY (ag 0) (ag 3))) (cA aD)))))) cF) (JK (bg (bJ (bB (aS (aY .tup B.z (ag 0) B.z RT))) (bJ (az du (GB B.z (ag 0)) ar) (b8 (az du (ag 1) ar))))) bM (LS (bu (gK hr) (kZ (top 87) ["_law_thing","_law_deep","_law_signs"] (bA (ag 0)) (ag 0) (bB (aS (aM ih hr (ag 0) (aK bb (ag 2) ar))))) (cA aD)))))))
def rf:Fq E 88 26 gu:=aN E 88 ["_law_thing"] λB S hr=>(LS (bX (aM (zsq E 25) hr (ag 0) ar) (cH (bu fH (aT (zso E 25) hr (ag 0)) ar))))
def om:∀n,Fq E 89 (0+n) (d9 n):=dY (d6 E 89) λn ih=>aN (k:=0+n) E 89 ["_law_value_here"] λB S hr=>(JK (aS (aY .tup B.z (ag 0) B.z RT)) (aK bb (aK bb au (zwi au (df (top 89) ["_law_value_here"] (bA (ag 0)) (aT ih hr (ag 0))))) au) (JK (aS (aY .str B.z (ag 0) B.z TF)) (aK bb au (ag 0)) (LS (bG zwh rfl B.z TF (av (ag 0) aD)))))
def zsr:Fq E 90 27 bL:=aN E 90 ["_law_kind","_law_one","_law_other","_law_whole","_law_alike"] λB S hr=>(aB (aO (i:=3) S.nd (bX (aY .int B.z (ag 1) B.z Tj) (cH (aY .int B.z (ag 2) B.z Tj)))) (aB (aO (i:=4) S.nd (bX (bu aL (aY .str B.z (ag 1) B.z TF) (aY .str B.z (ag 2) B.z TF)) (cH (bu aL (aY .tup B.z (ag 1) B.z RT) (aY .tup B.z (ag 2) B.z RT))))) (JK (az aL (ag 0) au) (JS au (bG gn rfl B.z Tj (av (bu aL (tM hr B.z (ag 1)) (tM hr B.z (ag 2))) aD))) (JK (bg (cv (az aL (ag 0) au) (cL (aS (ag 3))))) (JS au (bG gn rfl B.z Tj (av (bu dt (ag 1) (ag 2)) aD))) (JK (bg (cv (az aL (ag 0) au) (cv (aS (aY .tup B.z (ag 1) B.z RT)) (cL (aS (aY .int B.z (ag 2) B.z Tj)))))) (dI (zvp fH dt ar (ag 2) (GB B.z (ag 1))) (JS au (aQ aV (ag 1) (ag 2))) (JS au au)) (JK (bg (bJ (bg (cv (az aL (ag 0) au) (cv (aS (ag 4)) (cL (bB (aS (ag 3))))))) (b8 (bg (cv (az aL (ag 0) au) (cL (aS (ag 3)))))))) (dI (aS (aT (rf E) hr (aK bb (ag 1) (ag 2)))) (JS au (aK bb (ag 1) (ag 2))) (JS au au)) (LS (JS au au))))))))
def zss:∀n,Fq E 91 (27+n) (dD n):=dY (d6 E 91) λn ih=>aN (k:=27+n) E 91 ["_law_expr_here","_law_got","_law_parts","_law_one","_law_found"] λB S hr=>(JK (az aL (C4 0) au) (JS au (C4 0)) (JK (az aL (C4 0) au) (JS au (aQ aV (ag 1) (C4 0))) (aB (eQ (i:=2) S.nd aD) (aB (dO (i:=3) S.nd (bA (aQ aV (cA (av (bG mU rfl B.z TZ (av (cW (ag 0) (cq ar) dG) aD)) (av (bG mU rfl B.z TZ (av (C4 0) aD)) aD))) (bG gn rfl B.z Tj (av (bu aL (C4 0) au) aD)))) (aB (aO (i:=4) S.nd (aM ih hr (ag 3) (ag 1))) (JK (az aL (C4 4) au) (ag 4) (ba (eC (i:=2) (by exact(C4 4))))))) (JK (az aL (C4 0) au) (dI (aS (aT (rf E) hr (bG dU rfl B.z RT (av (ag 2) aD)))) (JS au (bG dU rfl B.z RT (av (ag 2) aD))) (JS au au)) (JK (az aL (C4 0) au) (dI (aS (aY .int B.z (C4 2) B.z Tj)) (JS au au) (JS au (GB B.z (C4 2)))) (LS (cE (zsr E) hr (C4 0) (C4 2) (C4 2)))))))))
def vq:Fq E 92 27 lw:=aN E 92 ["_law_text","_law_pile","_law_word","_law_figures","_law_part"] λB S hr=>(zji (i:=1) S.nd (zje (zjd (bB (aS (aY .str B.z (ag 0) B.z TF))) (zjc du (GB B.z (ag 0)))) (fj (zyk (cA aD))) (zjf (zjg (i:=1) (j:=2) S.nd (zjb (zja (zyl (zyl (DE.one1 (ag 0)))) au)) (sQ (zix (i:=1) (j:=3) S.nd (cW (ag 2) (cq (bG gn rfl B.z Tj (av (bu aL (cW (ag 2) dG (cq ar)) au) aD))) dG)) (fj (nB (az aL (ag 2) au) (fj (ziy (i:=1))) (fj (nB (bg (cv (az aL (ag 2) au) (cL (az du (GB B.z (ag 1)) ar)))) (sQ (ziz (i:=1) (j:=4) rfl B.z RT S.nd) (fj (uy (i:=1) (dX ar) (by exact(ag 4))))) (fj (nB (az aL (cW (ag 2) dG (cq ar)) au) (fj (uy (i:=1) (dX ar) (by exact(cW (ag 2) (cq ar) dG)))) (fj (nB (bg (cv (az dB (ag 3) au) (cv (az dt (GB B.z (ag 2)) ar) (cL (az (gK hr) (kZ (top 92) ["_law_text","_law_pile","_law_word","_law_figures","_law_part"] (bA (ag 3)) (ag 0) (az iY (ag 0) au)) (cA aD)))))) (fj (uy (i:=1) (dX ar) (by exact(bG gn rfl B.z Tj (av (ag 2) aD))))) zyj)))))))))) (sQ (nB (bg (bJ (az du (GB B.z (ag 1)) ar) (bJ (az dB (GB B.z (C4 1)) ar) (bJ (bB (aS (aT (rf E) hr (aQ aV (C4 1) ar)))) (b8 (az dB (aT (om E 25) hr (aQ aV (C4 1) ar)) (ag 0))))))) (fj (zyk (cA aD))) zyj) (fj (zjh (i:=1)))))))
def zst:Fq E 93 28 gW:=aN E 93 ["_law_word","_law_good_here","_law_row","_law_at","_law_name"] λB S hr=>(JK (az nL (ag 2) dy) (dI (az (gc hr) (ag 4) (ag 1)) (cA (av (aQ (cV hr) (ag 1) (ag 4)) aD)) (JS au (ag 4))) (JK (bg (bJ (az aL (ag 0) au) (b8 (bg (cv (az dt (ag 3) (GB B.z (ag 2))) (cL (az dB (aQ aV (aQ aV (ag 2) (ag 3)) ar) (ag 4)))))))) (JS au (ag 4)) (LS (dI (az dt (ag 3) (GB B.z (ag 2))) (aT (vq E) hr (aQ aV (aQ aV (ag 2) (ag 3)) ar)) (JS au (ag 4))))))
def oz:Fq E 94 53 gY:=aN E 94 ["_law_recipe_here","_law_good_here","_law_row","_law_got","_law_reads","_law_found","_law_some"] λB S hr=>(aB (eQ (i:=3) S.nd aD) (aB (eQ (i:=4) S.nd aD) (aB (fX 100000 (az dB (C4 0) au) (aB (aO (i:=5) S.nd (pF (zss E 25) (hr.mono (by omega)) rfl (av (C4 0) (av (ag 3) aD)) (b5 (b5 fY)))) (JK (bg (bJ (az aL (C4 5) au) (b8 (az aL (C4 0) au)))) (JS (ag 4) (aQ aV (cA (av (ag 5) (av (JS au (aT (om E 25) hr (C4 5))) aD))) (bG gn rfl B.z Tj (av (bu aL (C4 5) au) aD)))) (ba (b9 (az aL (C4 0) au) (ba (aO (i:=0) S.nd (aQ aV (ag 0) (aK bb ar (bG gn rfl B.z Tj (av (bu qY (tM hr B.z (C4 5)) (cA (av au (av au (av au aD))))) aD)))))) (ba (b9 (bB (aS (aT (zsp E) hr (C4 5)))) (LS (JS (ag 4) (JS au au))) (aB (aO (i:=6) S.nd (nU (zst E) hr (C4 0) (ag 1) (ag 2) (GB B.z (ag 4)) (C4 5))) (JK (aS (aY .tup B.z (ag 6) B.z RT)) (JS (ag 4) (ag 6)) (aB (eC (i:=3) (by exact(C4 6))) (aB (b9 (az aL (C4 0) au) (ba (eC (i:=4) (by exact(JS (C4 5) (aT (om E 25) hr (C4 6)))))) cF) (ba (aO (i:=0) S.nd (C4 0)))))))))))))) (LS (JS (ag 4) (JS au (C4 0)))))))
def zsu:Fq E 95 54 jJ:=aN E 95 ["_law_book_here","_law_good_here","_law_going","_law_name","_law_end"] λB S hr=>(aB (zxy (i:=1) B.z S.nd (C4 0)) (aB (aO (i:=2) S.nd bM) (aB (fX 100000 (aS (ag 2)) (aB (aO (i:=2) S.nd bM) (ba (dO (i:=3) S.nd (bA (kZ (top 95) ["_law_book_here","_law_good_here","_law_going","_law_name","_law_end"] (bA (C4 0)) (ag 0) (az (pz hr) (ag 0) (ag 2)))) (aB (aO (i:=4) S.nd (zxx (aQ aV (cE (oz E) hr (aQ (cV hr) (C4 0) (ag 3)) (ag 1) dy) ar))) (ba (b9 (az aL (C4 4) au) (aB (fh (i:=1) hr (ag 3) (aQ aV (aT (vq E) hr (C4 4)) ar)) (ba (aO (i:=2) S.nd bM))) cF))))))) (LS (ag 1)))))
def vL:Fq E 96 54 jI:=aN E 96 ["_law_book_here","_law_good_here","_law_name","_law_reads","_law_end"] λB S hr=>(aB (zgf (i:=3) (j:=4) S.nd (cE (oz E) hr (aQ (cV hr) (C4 0) (ag 2)) (ag 1) dy)) (LS (cw (av (ag 2) (av (bG dU rfl B.z RT (av (ag 3) aD)) (av (ag 4) aD))))))
def zsv:Fq E 97 54 lA:=aN E 97 ["_law_book_here","_law_good_here","_law_name","_law_row","_law_end"] λB S hr=>(JK (az (gc hr) (ag 2) (ag 1)) (JS au (aQ (cV hr) (ag 1) (ag 2))) (aB (eQ (i:=3) S.nd (av (ag 2) aD)) (aB (fX 100000 (az iY (aQ aV (ag 3) (dX ar)) (cW (ag 3) dG (cq (dX ar)))) (JK (az (pz hr) (aQ aV (ag 3) (dX ar)) (C4 0)) (JS au (bG dU rfl B.z RT (av (ag 3) aD))) (aB (aO (i:=4) S.nd (aQ aV (cE (oz E) hr (aQ (cV hr) (C4 0) (aQ aV (ag 3) (dX ar))) (ag 1) dy) ar)) (JK (az aL (C4 4) au) (cw (av au (av (bG dU rfl B.z RT (av (ag 3) aD)) (av (C4 4) aD)))) (ba (eC (i:=3) (by exact(C4 4)))))))) (LS (JS au (bG dU rfl B.z RT (av (ag 3) aD)))))))
def lJ:∀n,Fq E 98 (0+n) (cX n):=dY (d6 E 98) λn ih=>aN (k:=0+n) E 98 ["_law_found","_law_due"] λB S hr=>(aB (b9 (aS (zhh B.z (ag 1) B.z B.z)) (JK (bg (bJ (az dB (aY .tup B.z (ag 0) B.z RT) (aY .tup B.z (ag 1) B.z RT)) (b8 (az dB (aY .lst B.z (ag 0) B.z TZ) (aY .lst B.z (ag 1) B.z TZ))))) bM (LS (bX (bu aL (GB B.z (ag 0)) (GB B.z (ag 1))) (cH (dF gp rfl B.z U4 (av (df (top 98) ["_law_found","_law_due"] (ic rfl B.z (GB B.z (ag 1))) (aM ih hr (aQ (cV hr) (ag 1) (ag 0)) (aQ (cV hr) (ag 2) (ag 0)))) aD)))))) cF) (aB (b9 (aS (aY .dct B.z (ag 1) B.z ZD)) (JK (bg (bJ (bB (aS (aY .dct B.z (ag 0) B.z ZD))) (b8 (az dB (GB B.z (ag 0)) (GB B.z (ag 1)))))) bM (LS (dF gp rfl B.z U4 (av (df (top 98) ["_law_found","_law_due"] (bA (ag 1)) (bX (bu (gc hr) (ag 0) (ag 1)) (cH (aM ih hr (aQ (cV hr) (ag 1) (ag 0)) (aQ (cV hr) (ag 2) (ag 0)))))) aD)))) cF) (JK (bg (bJ (aS (aY .bl B.z (ag 1) B.z Wl)) (b8 (az nL (ag 1) dy)))) (bX (bu aL (aY .bl B.z (ag 0) B.z Wl) (aY .bl B.z (ag 1) B.z Wl)) (cH (bu aL (ag 0) (ag 1)))) (JK (aS (aY .int B.z (ag 1) B.z Tj)) (bX (aY .int B.z (ag 0) B.z Tj) (bX (uz (aY .bl B.z (ag 0) B.z Wl)) (cH (bu aL (ag 0) (ag 1))))) (LS (bX (aY .str B.z (ag 0) B.z TF) (cH (bu aL (ag 0) (ag 1)))))))))
def zsw:Fq E 99 2 gT:=aN E 99 ["_law_tape","_law_many_here","_law_letters","_law_way","_law_at","_law_words","_law_tail"] λB S hr=>(aB (aO (i:=2) S.nd au) (aB (aO (i:=3) S.nd (aM (bO E) hr (ag 0) ar)) (aB (aO (i:=4) S.nd (aM (bO E) hr (ag 0) ar)) (aB (b9 (az aL (ag 3) ar) (aB (aO (i:=5) S.nd (cA (av au (av au (av au (av au (av au (av au (av au (av au (av au (av au (av au (av au aD)))))))))))))) (LS (cW (aK bb (cW (ag 5) (cq (ag 4)) dG) (cW (ag 5) dG (cq (ag 4)))) dG (cq (ag 1))))) cF) (JK (az aL (ag 3) ar) (df (top 99) ["_law_tape","_law_many_here","_law_letters","_law_way","_law_at","_law_words","_law_tail"] (ic rfl B.z (ag 1)) (aK fA (aQ aV (ag 3) (aK bb (ag 5) (aK mv (ag 0) ar))) (aK bb ar (aK eE (ag 0) ar)))) (aB (aO (i:=6) S.nd (aK fA (aQ aV (ag 2) (ag 4)) (aM (bO E) hr (ag 0) (aK iu ar (aK eE (ag 4) ar))))) (LS (df (top 99) ["_law_tape","_law_many_here","_law_letters","_law_way","_law_at","_law_words","_law_tail"] (ic rfl B.z (ag 1)) (aK bb (aK bb (aK fA (aQ aV (ag 3) (ag 5)) (aK eE (ag 5) ar)) (aQ aV (ag 3) (aK eE (aK bb (ag 5) (ag 0)) ar))) (ag 7))))))))))
def rl:∀n,Fq E 100 (1+n) (dh n):=dY (d6 E 100) λn ih=>aN (k:=1+n) E 100 ["_law_tape","_law_names_here","_law_deep","_law_way","_law_some"] λB S hr=>(aB (aO (i:=3) S.nd (aM (bO E) hr (ag 0) ar)) (aB (aO (i:=4) S.nd (cA (av ar (av ar (av (dX ar) (av ar (av (aK m6 ar ar) (av (dX (aK m6 ar ar)) (av au (av au (av au (av au (av (aK fA au ar) (av (cw aD) aD)))))))))))))) (JK (bg (bJ (az dt (ag 3) ar) (b8 (bg (cv (az aL (ag 2) ar) (cL (az du (ag 3) ar))))))) (aQ aV (ag 4) (aM (bO E) hr (ag 0) ar)) (JK (az dt (ag 3) ar) (aQ aV (ag 1) (aM (bO E) hr (ag 0) (GB B.z (ag 1)))) (LS (bG dU rfl B.z RT (av (df (top 100) ["_law_tape","_law_names_here","_law_deep","_law_way","_law_some"] (ic rfl B.z (aM (bO E) hr (ag 0) ar)) (cE ih hr (ag 1) (ag 2) (aK iu (ag 3) ar))) aD)))))))
def vz:Fq E 101 27 iK:=aN E 101 ["_law_tape","_law_names_here","_law_many_here"] λB S hr=>(JK (bg (cv (az du (ag 2) ar) (cL (az du (aM (bO E) hr (ag 0) ar) ar)))) (JS au (aM (bO E) hr (ag 0) (ag 2))) (LS (JS au (cE (rl E 25) hr (ag 0) (ag 1) ar))))
def zsx:Fq E 102 28 iM:=aN E 102 ["_law_tape","_law_names_here","_law_many_here","_law_way","_law_one","_law_other"] λB S hr=>(aB (aO (i:=3) S.nd (aM (bO E) hr (ag 0) ar)) (aB (aO (i:=4) S.nd (cE (vz E) hr (ag 0) (ag 1) (ag 2))) (JK (az dt (ag 3) ar) (aQ aV (cA (av (ag 4) (av (JS au (ag 4)) aD))) (aK mv (ag 3) ar)) (aB (aO (i:=5) S.nd (cE (vz E) hr (ag 0) (ag 1) (ag 2))) (JK (az aL (ag 3) ar) (JS au (cW (JS (ag 4) (ag 5)) dG (cq (aM (bO E) hr (ag 0) ar)))) (LS (cw (av (aQ aV (cA (av au (av au (av au (av au (av au aD)))))) (aM (bO E) hr (ag 0) ar)) (av (ag 4) (av (ag 5) aD))))))))))
def zsy:∀n,Fq E 103 (28+n) (cK n):=dY (d6 E 103) λn ih=>aN (k:=28+n) E 103 ["_law_tape","_law_names_here","_law_deep","_law_many_here","_law_peeks","_law_way","_law_expr_here","_law_word","_law_one"] λB S hr=>(aB (aO (i:=5) S.nd (aM (bO E) hr (ag 0) ar)) (aB (aO (i:=6) S.nd (cE (zsx E) hr (ag 0) (ag 1) (ag 3))) (aB (b9 (bg (cv (az du (ag 2) ar) (cL (az dt (ag 5) ar)))) (aB (aO (i:=7) S.nd (aQ aV (cA (av au (av au aD))) (bG gn rfl B.z Tj (av (bX (ag 4) (cH (bu aL (aM (bO E) hr (ag 0) ar) ar))) aD)))) (aB (b9 (az du (aM (bO E) hr (ag 0) ar) ar) (ba (aO (i:=6) S.nd (JS au (aQ aV (ag 1) (aM (bO E) hr (ag 0) (GB B.z (ag 1))))))) cF) (LS (cw (av (ag 7) (av (ag 6) (av (nU ih hr (ag 0) (ag 1) (aK iu (ag 2) ar) (aK bb (ag 3) ar) (ag 4)) aD))))))) cF) (aB (b9 (bg (cv (az du (ag 2) ar) (cL (az dt (ag 5) ar)))) (aB (aO (i:=8) S.nd (nU ih hr (ag 0) (ag 1) (aK iu (ag 2) ar) (ag 3) (ag 4))) (LS (cw (av au (av (ag 6) (av (ag 8) (av (nU ih hr (ag 0) (ag 1) (aK iu (ag 2) ar) (ag 3) (ag 4)) aD))))))) cF) (JK (bg (cv (az aL (ag 5) ar) (cL (az aL (aM (bO E) hr (ag 0) ar) ar)))) (JS au (aQ aV (aK bb (ag 1) (cA (av au (av au aD)))) (aM (bO E) hr (ag 0) (aK bb (GB B.z (ag 1)) ar)))) (LS (JS au (ag 6))))))))
def zsz:Fn P w K mg base "_law_book" ["_law_script","_law_at","_law_peeks"] 54 (Gb K 3 lI):=zjr E 104 ["_law_script","_law_at","_law_peeks","_law_head","_law_many_here","_law_names_here","_law_givens","_law_recipes","_law_k","_law_tape"] λB S hr=>(r8 (i:=3) S.nd (av (aM (rm E) hr (aM (jD E) hr (ag 0) (ag 1)) ar) (av ar aD)) (aB (aO (i:=4) S.nd (aK bb ar (aM (bO E) hr (ag 3) ar))) (aB (aO (i:=5) S.nd (aM (zsw E) hr (ag 3) (aK bb (ag 4) ar))) (aB (i5 (i:=6) S.nd) (aB (i5 (i:=7) S.nd) (aB (dO (i:=8) S.nd (ic rfl B.z (ag 4)) (r8 (i:=9) S.nd (av (aM (rm E) hr (aK bb (aM (jD E) hr (ag 0) (aK bb (aK bb (ag 1) ar) (ag 8))) (aK fA ar (ag 8))) ar) (av ar aD)) (ba (b9 (az aL (aM (bO E) hr (ag 9) ar) ar) (ba (fh (i:=6) hr (aQ aV (ag 5) (ag 8)) (cE (rl E 25) hr (ag 9) (ag 5) ar))) (ba (fh (i:=7) hr (aQ aV (ag 5) (ag 8)) (nU (zsy E 25) hr (ag 9) (ag 5) (aK bb ar (aM (bO E) hr (ag 9) ar)) ar (ag 2)))))))) (ba (zhm (i:=6) (j:=7)))))))))
def zta:Fq E 105 55 jB:=aN E 105 ["_law_book_here","_law_good_here","_law_lines","_law_paper","_law_going","_law_line_here","_law_ahead"] λB S hr=>(aB (BB (i:=2) (top 105) ["_law_book_here","_law_good_here","_law_lines","_law_paper","_law_going","_law_line_here","_law_ahead"] ["_law_book_here","_law_good_here","_law_lines","_law_paper","_law_going","_law_line_here","_law_ahead"] S.nd (bA (zhr B.z (C4 0))) (cE (vL E) hr (ag 1) (ag 2) (ag 0)) pY) (aB (eQ (i:=3) S.nd aD) (aB (aO (i:=4) S.nd bM) (aB (fX 100000 (aS (ag 4)) (aB (aO (i:=4) S.nd bM) (ba (dO (i:=5) S.nd (bA (ag 2)) (aB (aO (i:=6) S.nd (aK bb (zjk (osc:=br (top 105)) (N:=["_law_book_here","_law_good_here","_law_lines","_law_paper","_law_going","_law_line_here","_law_ahead"]) (N':=["_law_book_here","_law_good_here","_law_lines","_law_paper","_law_going","_law_line_here","_law_ahead"]) (x:="_law_one") ⟨rfl,by decide +kernel,by decide +kernel,rfl,by decide +kernel,by decide +kernel,by decide +kernel,by decide +kernel,rfl,by decide +kernel⟩ (bA (ag 3)) (λC s0 H0 ex=>(C4 0)) (λC s0 H0 ex=>pY)) (bG tR rfl B.z TZ (av (C4 0) aD)))) (ba (b9 (bg (cv (az (zfy hr) (ag 5) (ag 3)) (cL (az (gK hr) (kZ (top 105) ["_law_book_here","_law_good_here","_law_lines","_law_paper","_law_going","_law_line_here","_law_ahead"] (bA (C4 5)) (ag 0) (az iY (C4 0) (ag 7))) (cA aD))))) (aB (eC (i:=3) (by exact(ag 5))) (ba (aO (i:=4) S.nd bM))) cF))))))) (LS (ag 3))))))
def ztb:Fq E 106 54 ly:=aN E 106 ["_law_tape","_law_book_here","_law_name","_law_names_here","_law_reads","_law_k","_law_end"] λB S hr=>(aB (eQ (i:=4) S.nd aD) (aB (dO (i:=5) S.nd (ic rfl B.z ar) (aB (aO (i:=6) S.nd (aQ aV (cE (oz E) hr (aQ (cV hr) (C4 1) (ag 2)) zfl (bG dU rfl B.z RT (av (ag 4) aD))) ar)) (JK (bg (bJ (az dB (C4 6) au) (bJ (az aL (ag 5) ar) (b8 (az aL (aM (bO E) hr (ag 0) ar) ar))))) (cw (av (ag 2) (av (bG dU rfl B.z RT (av (ag 4) aD)) (av (aQ aV (cA (av (ag 6) (av (JS au au) aD))) (bG gn rfl B.z Tj (av (bu aL (C4 6) au) aD))) aD)))) (ba (eC (i:=4) (by exact(JS (C4 6) (aT (om E 25) hr (cE (rl E 25) hr (ag 0) (ag 3) ar))))))))) (LS (cw (av (ag 2) (av (cw aD) (av (JS au (ag 2)) aD)))))))
def ztc:Fq E 107 55 jF:=aN E 107 ["_law_tape","_law_book_here","_law_good_here","_law_lines","_law_paper","_law_names_here","_law_many_here","_law_line_here","_law_way","_law_at"] λB S hr=>(aB (eQ (i:=4) S.nd aD) (aB (aO (i:=5) S.nd (dF zgp rfl B.z boot_sorted (av (aK bb (bG tR rfl B.z TZ (av (C4 1) aD)) (bG tR rfl B.z TZ (av (C4 1) aD))) aD))) (aB (aO (i:=6) S.nd (aM (bO E) hr (ag 0) ar)) (aB (dO (i:=7) S.nd (bA (ag 3)) (aB (aO (i:=8) S.nd (aM (bO E) hr (ag 0) ar)) (aB (b9 (az dt (ag 8) (ag 6)) (ba (aO (i:=7) S.nd (Cj (ztb E) hr (ag 0) (ag 1) (C4 7) (ag 5)))) cF) (ba (b9 (az dB (ag 8) ar) (ba (eC (i:=4) (by exact(ag 7)))) cF))))) (aB (b9 (bg (cv (az aL (aM (bO E) hr (ag 0) ar) ar) (cL (az (zwo hr) (ag 4) (cA aD))))) (aB (aO (i:=9) S.nd (aM (bO E) hr (ag 0) (GB B.z (ag 4)))) (ba (zgi (i:=4) S.nd (cW (ag 4) (cq (ag 9)) dG) (cW (ag 4) dG (cq (ag 9)))))) cF) (aB (b9 (bg (cv (az aL (aM (bO E) hr (ag 0) ar) ar) (cL (az (zwo hr) (ag 4) (cA aD))))) (ba (zhu (i:=4) (by exact(aM (bO E) hr (ag 0) (GB B.z (ag 4)))) (by exact(aM (bO E) hr (ag 0) (GB B.z (ag 4)))))) cF) (LS (ag 4))))))))
def ztd:Fq E 108 86 lB:=aN E 108 ["_law_book_here","_law_good_here","_law_paper","_law_line_here","_law_due"] λB S hr=>(aB (dO (i:=3) S.nd (bA (ag 2)) (JK (bg (bJ (bB (aS (aM (lJ E 25) hr (ag 3) (cE (vL E) hr (ag 0) (ag 1) (C4 3))))) (b8 (bB (aS (aM (lJ E 25) hr (aM (zsk E) hr (ag 0) (C4 3)) (ag 3))))))) bM (aB (aO (i:=4) S.nd (cE (zsv E) hr (ag 0) (ag 1) (C4 3))) (ba (b9 (bg (bJ (bB (aS (aM (lJ E 25) hr (aM (zsn E) hr (ag 2) (C4 3)) (ag 4)))) (b8 (bB (aS (aM (lJ E 25) hr (aM (zsm E) hr (ag 0) (C4 3)) (ag 4))))))) (LS bM) cF))))) (LS bM))
def zte(F:Ht K "law" "law" (top 109) f fd):Ft P w K mg base E4 87 f fd ["_law_script"] (Ms K 1 qE):=zjs E ["_law_script","_law_book_here","_law_one","_law_other","_law_good_here","_law_lines","_law_k","_law_tape","_law_paper"] F λB S hr=>(zjp (ix:=1) (ia:=2) (ib:=3) (zsz E) (hr.mono (by omega)) rfl S.nd (av (ag 0) (av ar (av (bu aL (aK eE (aM (jD E) hr (ag 0) ar) ar) ar) aD))) (b5 (b5 (b5 fY))) (az aL (aK eE (aK mv (aM (jD E) hr (ag 0) ar) ar) ar) ar) (bA (cA (av (JS au au) (av (JS au au) (av (JS au au) aD))))) hr (ag 2) (cw (av au (av (JS au (ag 3)) (av (JS au (JS au ar)) aD)))) (aB (aO (i:=4) S.nd (aT (zsu E) hr (ag 1))) (aB (aO (i:=5) S.nd (aM (zta E) hr (ag 1) (ag 4))) (JK (bg (cv (az du (aK eE (aM (jD E) hr (ag 0) ar) ar) ar) (cL (bB (aS (aM (lJ E 25) hr (aM (xk E) hr (ag 1) (ag 5)) bM)))))) bM (aB (dO (i:=6) S.nd (ic rfl B.z ar) (r8 (i:=7) S.nd (av (aM (rm E) hr (aK bb (aM (jD E) hr (ag 0) (aK bb ar (ag 6))) (aK fA ar (ag 6))) ar) (av ar aD)) (aB (aO (i:=8) S.nd (Cj (ztc E) hr (ag 7) (ag 1) (ag 4) (ag 5))) (ba (b9 (bg (cv (az zjm (aM (xk E) hr (ag 1) (bG mU rfl B.z TZ (av (ag 8) aD))) bM) (cL (bB (aS (cE (ztd E) hr (ag 1) (ag 4) (ag 8))))))) (LS bM) cF))))) (LS bM))))))
end
def all_mk{l:WH}{K:Frag}{h:Heap}{mg:Str->Option Re}(X:K.In h)(G:h.Ns RZ mg)(xx:mg "law"=Iv (.ref fa))(d:Il K top zS)(z:ZL K zZ)(i:IL K zI)(s:SL K zT)(IC:SS K RZ "NOT_GIVEN"=Iv (Iv (.ref Fw)))(CO:K.lookup Fw=Iv Ie)(FM:uH Fw Ie [("want","wants"),("peek","peeks")]=KN)(CK:SS K RZ "GETTING"=Iv (Iv (.ref E3)))(DM:K.lookup E3=Iv Cs)(FF:BU Cs ["want","peek"]=KN)
  (hm:∀ns:List Int,ns.length<=63->∃T',qE [.d (cu ns)] []=Iv (.bool KN,T')) :
  ∃fd:Ts,(∀(s:Rj) (v:Re),Xx s fd ⟨[v],[]⟩ [("_law_script",v)])/\∀base:Heap,K.In base->base.Ns RZ mg->Ft l.prog w K mg base E4 87 fa fd ["_law_script"] (qw K):=by
 obtain⟨f0,oc,od,an,sl,kV,dc,pm,cd,ct,a,lk,c,kp⟩:=(d.at (x:="law") (i:=109) (by decide +kernel)).ex;cases xx.symm.trans (UB X G a);exact⟨SE "law" "law" (eA (top 109)) (dm (top 109)) (br (top 109)) .none kV dc pm an cd ct,λs v=>.of_eq rfl,λbase _ _=>zhi (zte ⟨⟨_,X,G⟩,⟨zjq X G z i s,⟨_,UB X G IC,zge CO FM⟩,⟨_,UB X G CK,zfz DM FF⟩⟩,d⟩ (zuw (st:=top 109) lk c kp)) (zhj hm)⟩
def walk{l:WH}{XP:(Str->Option Re)->Heap->Prop}{YP:RX->Heap->Prop}{d:DefRec}{K:ZJ->Frag}(hn:l.most=Iv 63)(Mi:d.params.defaults=[])
  (hY:∀(w:RX) (h:Heap),YP w h->(K w.params).In h)
  (F:∀(w:RX) (mg:Str->Option Re) (fa:Addr) (h:Heap),(K w.params).In h->h.Ns RZ mg->mg d.name=Iv (.ref fa) ->
   ∃fd:Ts,(∀(s:Rj) (u:Re),Xx s fd ⟨[u],[]⟩ [("_law_script",u)])/\∀base:Heap,(K w.params).In base->base.Ns RZ mg->Ft l.prog w (K w.params) mg base E4 87 fa fd ["_law_script"] (qw (K w.params))) :
  Xk q loose XP YP l.row.toRowW d [] (λf vs=>Wz f vs):=L2.zdq (n:=63) (k:=87) (x:="_law_script") (CX:=λ_=>E4) (sp:=λw=>qw (K w.params)) hn (by decide) Mi ⟨rfl,by decide,by decide,rfl⟩ hY F (λ_ _ a ns hl _ hS=>⟨a,ns,rfl,hS,hl,λ_=>rfl⟩) λ_ _ _ _ _ z=>z
open PySem PySem.Spec PySem.Calls PySem.W PyProof.Rows PySem.W.X PySem.W.ZRun
def walkZ{q:RC}{loose:List Str}{XP:(Str->Option Re)->Heap->Prop}{K:ZJ->Frag}{r:RowW}{d:DefRec}{kwd:List (Str×Expr)}
  {w:RX}{s₀ IR:Rj}{mg mb:Str->Option Re}{a:Addr}{o:Obj}{pm cd doc dV kV:Re}{args:List WData}{vals:List Re}{as:List Addr}
  (KX:(K w.params).In IR.heap) (GR:Ground q loose r.records XP w s₀ mg mb IR.heap) (ho:IR.heap.get? a=Iv o)
  (hd:o.data=.func { docDef d.name d.params d.body d.scope pm cd doc with defaults:=dV,kwdefaults:=kV }) (hcd:IR.heap.CodeRec cd d.name) (hD:Dflts mg IR.heap d.params kwd dV kV) (hmg:mg d.name=Iv (.ref a)) (hg:IR.gens = #[])
  (hpre:r.claim.pre args=KN) (hlay:WData.layableAll args=KN) (hrd:ReadsAllW r.records (classAt s₀.heap) IR.heap vals args as) (hwl:WellAll w.params IR.heap vals args) (hlo:∀a∈as,(a == SG)=Lf)
  (W:Xk q loose XP (λw h=>(K w.params).In h) r d kwd λf vs=>Wz f vs) :
  RP (RM r.prog w) Wy (Wz (.ref a) vals) (λv s'=>GoodWG r.claim (classAt s₀.heap) (Zt s₀.heap) args IR (.ok (.ret v)) s')
    (λe s'=>GoodWG r.claim (classAt s₀.heap) (Zt s₀.heap) args IR (.error e) s') IR:=W w s₀ IR mg mb GR KX a o pm cd doc dV kV ho hd hcd hD hmg hg args vals as hpre hlay hrd hwl hlo
end G
end Internal
namespace PySem.W.Fast
def tw17824359275121427140:=Nat
def tw13750952958358034788:=Nat
def tw8817092920433497810:=Nat
def tw13897083688631931107:=Nat
def tw5161121000001734001:=Nat
def tw7567872592686792438:=Nat
def tw16213904003337718399:=Nat
def tw1844173704468117173:=Nat
def tw8227125978542685132:=Nat
def tw2119955544987695696:=Nat
def tw9353695134598908791:=Nat
def tw12302807215381715827:=Nat
def tw6426025317718832012:=Nat
def tw598039006490872482:=Nat
def tw12323047540691875857:=Nat
def tw10036760277718692430:=Nat
def tw11505028906848059679:=Nat
def tw13366664734132778328:=Nat
def tw9541922133240139442:=Nat
def tw5486300397344535491:=Nat
def tw14604910830286765196:=Nat
def tw8095994721619393425:=Nat
def tw13633956929318914578:=Nat
def tw6920406569582118052:=Nat
def tw14377610777714356191:=Nat
def tw1691659618438049806:=Nat
def tw437829982267863295:=Nat
def tw5043115313551786942:=Nat
def tw9030590861897795790:=Nat
def tw12999098836947499845:=Nat
def tw9443760141475661572:=Nat
def tw5350579112828330553:=Nat
def tw14426905461393095106:=Nat
def tw13520212133630999303:=Nat
def tw4704211845773982771:=Nat
def tw8748787363719005353:=Nat
def tw12117930918367081498:=Nat
def tw2696799202001084447:=Nat
def tw13791367145999152117:=Nat
def tw6169697948568858513:=Nat
def tw4804697126936782075:=Nat
def tw4856912871631428212:=Nat
def tw4910033421864799845:=Nat
def tw9625909277798959103:=Nat
def tw4668668188036424992:=Nat
def tw9478952609688131970:=Nat
def tw5393815458621835809:=Nat
def tw9714287674843814051:=Nat
def tw10953409475994267188:=Nat
def tw9572334315609249858:=Nat
def tw5326553140743762408:=Nat
def tw4767285623012304617:=Nat
def tw5034659776478576837:=Nat
def tw12619032208215603382:=Nat
def tw1855436291098442728:=Nat
def tw4142733707605323934:=Nat
def tw17121181997142743832:=Nat
def tw6214993615266249609:=Nat
def tw2878335698098775624:=Nat
def tw15799329569747177833:=Nat
def tw5340825074297567186:=Nat
def tw834678003882736175:=Nat
def tw5875595465451490530:=Nat
def tw4994113063205074270:=Nat
def tw17912755900283959697:=Nat
def tw304091873172289608:=Nat
def tw3025586609713693918:=Nat
def tw1436231769658785141:=Nat
def tw12299446835105170596:=Nat
def tw5081950213671556:=Nat
def tw7830830748132600284:=Nat
def tw7399479867552820170:=Nat
def tw12151447548752944470:=Nat
def tw12661099879174122945:=Nat
def tw4272383221976185598:=Nat
def tw15588444093067286428:=Nat
def tw17492176002769650627:=Nat
def tw12547252437926958235:=Nat
def tw3658125051902870423:=Nat
def tw9728102554935433080:=Nat
def tw823639509800442457:=Nat
def tw9773728564019424675:=Nat
def tw11996861666477796046:=Nat
def tw14828428237305477482:=Nat
def tw9199316209560491382:=Nat
def tw15402190580154394239:=Nat
def tw8885815382483042187:=Nat
def tw17600463259462774502:=Nat
def tw8506694822535956243:=Nat
def tw17724786286111176961:=Nat
def tw11013672158662473171:=Nat
def tw4633793224544947908:=Nat
def tw5838913277405338812:=Nat
def tw7582258933609184917:=Nat
def tw11506161958699610182:=Nat
def tw5123367134660815429:=Nat
def tw17452661365649544531:=Nat
def tw5636604450061810573:=Nat
def tw2506488145582516145:=Nat
def tw5651350235551449747:=Nat
def tw15284343683406180404:=Nat
def tw8735350776450988506:=Nat
def tw8270638153483373195:=Nat
def tw10808136099842298227:=Nat
def tw12388307099189350869:=Nat
def tw13288224273605891053:=Nat
def tw8878328605516313173:=Nat
def tw13900220539808948873:=Nat
def tw763189670508237232:=Nat
def tw1465683902489653841:=Nat
def tw9591435039747626389:=Nat
def tw7405176851685852370:=Nat
def tw920474075507356968:=Nat
def tw5795675459110646104:=Nat
def tw9875375217078937783:=Nat
def tw8276236939465710860:=Nat
def tw10606676817290827051:=Nat
def tw15504775818742994867:=Nat
def tw14854576590330731853:=Nat
def tw11172889564554895508:=Nat
def tw12185264143459403744:=Nat
def tw10185910016017327579:=Nat
def tw15188558972533934757:=Nat
def tw11111313630716564300:=Nat
def tw2579989933550686529:=Nat
def tw6370548847422595295:=Nat
def tw7130121534745002381:=Nat
def tw2902292958762639766:=Nat
def tw6924838058228766900:=Nat
def tw12802784917158676346:=Nat
def tw9629173097396683523:=Nat
def tw10398741405281592941:=Nat
def tw13741149090867868075:=Nat
def tw5954889195910166006:=Nat
def tw777854997127209930:=Nat
def tw11796152290235930242:=Nat
def tw3513671726887306751:=Nat
def tw12682413686712044749:=Nat
def tw7638515583340431521:=Nat
def tw13621266404336739310:=Nat
def tw7545050269839958151:=Nat
def tw217907197362422429:=Nat
def tw14405701926054269954:=Nat
def tw14813851124612663990:=Nat
def tw4175988411478287902:=Nat
def tw13125338098679272952:=Nat
def tw2407257827476012040:=Nat
def tw10373076043651080290:=Nat
def tw4772719650286684832:=Nat
def tw613840651163987663:=Nat
def tw3542124991680105593:=Nat
def tw2620327498914406814:=Nat
def tw3022021580570981937:=Nat
def tw3009445506607932945:=Nat
def tw18373445832245186959:=Nat
def tw346259618068802859:=Nat
def tw829951575532740826:=Nat
def tw3066212062190850898:=Nat
def tw12865291326521391329:=Nat
def tw1045244903167518282:=Nat
def tw3848822050710942037:=Nat
def tw13901737242454347480:=Nat
def tw16965769774138025667:=Nat
def tw1332754157749177491:=Nat
def tw8769803646334554785:=Nat
def tw13624971157945730059:=Nat
def tw12256648284494829100:=Nat
def tw16145159022782422394:=Nat
def tw16123748379545721106:=Nat
def tw10502225718914596816:=Nat
def tw13044400678524784935:=Nat
def tw11921892205031402274:=Nat
def tw13296296408327687104:=Nat
def tw15166363675725665500:=Nat
def tw2951956344256863039:=Nat
def tw13388498143762521337:=Nat
def tw14916414013421678336:=Nat
def tw6298790230302525367:=Nat
def tw5566023755421555857:=Nat
def tw3969809093045985841:=Nat
def tw13147286051218518431:=Nat
def tw13396715125166233593:=Nat
def tw3223522237824484828:=Nat
def tw11810962104182034855:=Nat
def tw38301289440805526:=Nat
def tw9256759997071665745:=Nat
def tw13897409588384488775:=Nat
def tw11007474309761266636:=Nat
def tw7462365956259490756:=Nat
def tw4850699858517222090:=Nat
def tw11226215517452008301:=Nat
def tw8712674440857794983:=Nat
def tw13486636702141789817:=Nat
def tw16333583762077410984:=Nat
def tw16484575739613832052:=Nat
def tw11032267518411814669:=Nat
def tw13498320483168177342:=Nat
def tw5577550765444197082:=Nat
def tw7476965460714911060:=Nat
def tw5154757345683141855:=Nat
def tw13866768600212829083:=Nat
def tw10391332437293746705:=Nat
def tw11369497698677454678:=Nat
def tw13013927276852149829:=Nat
def tw3294491961649462237:=Nat
def tw15599076801545701058:=Nat
def tw2167822431637451982:=Nat
def tw1367393149091193771:=Nat
def tw2632909871101791546:=Nat
def tw16594205543579038436:=Nat
def tw4349151932504789722:=Nat
def tw13722237520003397460:=Nat
def tw1798854247035342808:=Nat
def tw8337468830772393386:=Nat
def tw132704420543629423:=Nat
def tw13355703160560936400:=Nat
def tw9722615494104676927:=Nat
def tw9442155325537421741:=Nat
def tw18107986147092608131:=Nat
def tw720587290400819180:=Nat
def tw8929781183172940368:=Nat
def tw8549325291369122825:=Nat
def tw14640748714819647812:=Nat
def tw14026402770102833897:=Nat
def tw17263530198107249956:=Nat
def tw4307950123542541301:=Nat
def tw11880662413669264529:=Nat
def tw1294098054488810186:=Nat
def tw5507809754151179290:=Nat
def tw18359835815463825555:=Nat
def tw12377822535740008613:=Nat
def tw12547146248050362549:=Nat
def tw7114742471757505879:=Nat
def tw8744217378360328727:=Nat
def tw10461079362185270745:=Nat
def tw5546830590349133880:=Nat
def tw1090753932374430331:=Nat
def tw13542997126987536270:=Nat
def tw16852766126305662855:=Nat
def tw1891392163244871494:=Nat
def tw13024237594319973754:=Nat
def tw1128903482432562940:=Nat
def tw2608177573643461905:=Nat
def tw9575998916350669465:=Nat
def tw7996715004276297089:=Nat
def tw15885594909142030126:=Nat
def tw17317916550522336497:=Nat
def tw6595591872309291063:=Nat
def tw6093688810447699631:=Nat
def tw7067171788988570822:=Nat
def tw14304455807665423123:=Nat
def tw423561770333047542:=Nat
def tw17375099804664484893:=Nat
def tw8659520440783247813:=Nat
def tw3470140284508998480:=Nat
def tw16328231394764724256:=Nat
def tw9884571553302125539:=Nat
def tw2029983213619523503:=Nat
def tw11640617051125478121:=Nat
def tw3065086651326193231:=Nat
def tw5921930313469731357:=Nat
def tw13286166558935726259:=Nat
def tw10629446788932208200:=Nat
def tw9557544789984572727:=Nat
def tw4166188313740429995:=Nat
def tw18234807257784551244:=Nat
def tw15997531560489842517:=Nat
def tw2562248994824870203:=Nat
def tw8897942288033322958:=Nat
def tw4334107097928265029:=Nat
def tw13818461367678045280:=Nat
def tw14595736909217044801:=Nat
def tw13864482193433287227:=Nat
def tw15581822472373834784:=Nat
def tw16766313734133725788:=Nat
def tw3649812498118035843:=Nat
def tw797700217640571211:=Nat
def tw1127873226195578347:=Nat
def tw7227221530205220291:=Nat
def tw12536950698061526231:=Nat
def tw17604446908393504537:=Nat
def tw12007432558549835227:=Nat
def tw4976326720547253157:=Nat
def tw3586957143223805256:=Nat
def tw12778729910311835992:=Nat
def tw14512804986247959783:=Nat
def tw12084763803791763567:=Nat
def tw9870847849619463187:=Nat
def tw436021531516028140:=Nat
def tw4626172917728384263:=Nat
def tw5096772332116277599:=Nat
def tw5483023849870619131:=Nat
def tw16856195127441570557:=Nat
def tw2654298543588959005:=Nat
def tw29207542533809527:=Nat
def tw14961329991873509600:=Nat
def tw10063758455327917202:=Nat
def tw16185036480339707385:=Nat
def tw13966433051271135243:=Nat
def tw12987302389206244650:=Nat
def tw14480536296275990281:=Nat
def tw5274649890670433451:=Nat
def tw14095755406973018338:=Nat
def tw12790377652817700409:=Nat
def tw10176753406720482699:=Nat
def tw5563328931227365759:=Nat
def tw4194783207039500195:=Nat
def tw10132455957398163705:=Nat
def tw17023454645088511598:=Nat
def tw14307806437029258480:=Nat
def tw4681875658418311600:=Nat
def tw920516508005092276:=Nat
def tw4225442169125093854:=Nat
def tw6946413587029785464:=Nat
def tw8588950931796274243:=Nat
def tw5232159922281233224:=Nat
def tw14706465784350962258:=Nat
def tw12301521991158727661:=Nat
end PySem.W.Fast
noncomputable def PySem.W.Fast.tw10483330038768032535 : PySem.Program := PySem.Challenge.pw_redo_k27_whole_let_by_is_fresh
theorem PySem.W.Fast.te10483330038768032535 : PySem.Challenge.pw_redo_k27_whole_let_by_is_fresh = PySem.W.Fast.tw10483330038768032535 := rfl

open Internal
open PySem PySem.W PyProof.Rows PySem.W.X PySem.W.ZRun
set_option maxRecDepth 100000 in
set_option maxHeartbeats 0 in
theorem PySem.Challenge.cw_redo_k27_whole_let_by_is_fresh_holds : PySem.Challenge.rw_redo_k27_whole_let_by_is_fresh.Holds := by
 w_on; o_law; z_head; (case hw=>w_witness2)
 k_fill
 intro w s₀ s₁ mg mb GR y fa o pm cd doc dV kV ho hd hcd hD hmg hg args vals as L hpre hlay hrd hwl hlo
 z_open y L KX ZH ZN ZT
 clear ZH ZN ZT
 refine G.walkZ KX GR ho hd hcd hD hmg hg hpre hlay hrd hwl hlo ?W
 clear KX GR ho hd hcd hD hmg hg hpre hlay hrd hwl hlo L y
 refine G.walk (l:=PySem.Challenge.rw_redo_k27_whole_let_by_is_fresh) rfl rfl (fun w h Y=>Y) ?F
 case F=>
  intro w mg fa h KX GG hmg
  refine' G.all_mk KX GG hmg ?_ ?_ ?_ ?_ ?_ ?_ ?_ ?_ ?_ ?_ G.FY
  any_goals repeat' first | exact True.intro | refine' D.Gm ?_ ?_ | refine' D.GT ?_ ?_ | refine' D.Ii ?_ ?_ | refine' D.He ?_ ?_
  any_goals first | (refine' D.Mm ?a ?l ?c ?k; (case a=>k_is); (case l=>k_is); (case c=>k_is); (case k=>k_is)) | k_is
  all_goals first | rfl | decide +kernel
